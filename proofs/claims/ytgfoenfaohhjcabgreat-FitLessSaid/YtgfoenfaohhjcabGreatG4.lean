/- What serves all packages,and package by package the contracts of the functions that the law calls. -/
import Derived.Test.YtgfoenfaohhjcabGreatG0
import Derived.Test.YtgfoenfaohhjcabGreatG1
import Derived.Test.YtgfoenfaohhjcabGreatG2
import Derived.Test.YtgfoenfaohhjcabGreatG3
import Derived.Lib.AppendZerosOnto
import Derived.Lib.Overlaps
import Derived.Sort.KeysCollected
import Derived.Sort.MapsRangeIn
set_option linter.unusedVariables false
set_option maxRecDepth 100000
set_option maxHeartbeats 25600000
namespace Go.Proofs.YtgfoenfaohhjcabGreat
open Go.RowKit
abbrev BX:=Bd×SX
abbrev jg4 (z:BX):Value:=Z9 z.1 (slV z.2)
def At1 (w:World) (z:BX):Prop:=zj w (slV z.2) z.1
theorem zj.at1 {w:World} {n:Bd} {x1:SX} (h:zj w (slV x1) n):At1 w (n,x1):=h
theorem jf3 (n:Bd) (v1:Value) (w:World) (h:zj w v1 n) (hl:n.sel.length≤1000000) :
 Calls Tryz.prog 94 #[Z9 n v1] w fun e w'=>∃z:BX,e=.returned (jg4 z)∧z.1=n∧At1 w' z∧Btw w.heap.size w'.heap.size z.2.1∧Kept w w':=by
 have HH:=lH h;have E3:=lH (fun W (k:Kept w W)=>(jgr (h.sel.kept k) hl).mono fun _ _=>Zl);obtain⟨⟨x0,l3,m⟩,hnn⟩:∃m,m=n:=⟨n,rfl⟩
 subst hnn;dsimp only at E3;obtain⟨W0,hW0⟩:∃Z,(w.alloc (.cells #[.string x0,v1,.int .i64 m] 149)).alloc (.cells #[.string ⟨#[]⟩,.slice none 0 0,.int .i64 0] 159)=Z:=⟨_,rfl⟩
 have hk0:Kept w W0:=by rw[←hW0];exact jr _ _ _
 have hzs:W0.heap.size=w.heap.size+2:=by rw[←hW0];simp
 have HB:=lH (show ∀W,Kept W0 W→W.cell? ⟨w.heap.size,0,none⟩=some (.string x0)∧W.cell? ⟨w.heap.size,1,none⟩=some (v1)∧W.cell? ⟨w.heap.size,2,none⟩=some (.int .i64 m) from fun W k=>by
  have:=jc w (.string x0) [v1,.int .i64 m] 149 W ((by rw[←hW0];exact ja _ _:Kept (w.alloc (.cells #[.string x0,v1,.int .i64 m] 149)) W0).trans k);exact⟨this.at_ 0 _ rfl,this.at_ 1 _ rfl,this.at_ 2 _ rfl⟩)
 have HQ:=lH (show ∀W,Kept W0 W→je (w.heap.size+1) [.string ⟨#[]⟩,.slice none 0 0,.int .i64 0] W from fun W k=>by
  have:=jc (w.alloc (.cells #[.string x0,v1,.int .i64 m] 149)) (.string ⟨#[]⟩) [.slice none 0 0,.int .i64 0] 159 W (by rw[hW0];exact k);rw[World.size_alloc] at this;exact this)
 have HZ:=lH hzs;have HK0:=lH hk0;obtain⟨b0,b1,b2⟩:=HB.out _ (Kept.refl _);clear h hl hk0 hzs;unfold Z9;dsimp only;go_enter Tryz.func94,Tryz.ntmps94;go_wp2;try rw[hW0]
 clear hW0;go_region_held3 (fun W=>(W.cell? ⟨w.heap.size,0,none⟩=some (.string x0)∧W.cell? ⟨w.heap.size,1,none⟩=some (v1)∧W.cell? ⟨w.heap.size,2,none⟩=some (.int .i64 m)))
  (first | with_reducible exact HB.out _ K4.out | exact jcX (HB.out _ K4.out) (by omega) | exact HB.out _ (Kept.drew _))
  (first | (go_at_call 36;refine(E3.out _ (HK0.out.trans (Kept.drew _))).mono ?_;rintro e1 w4 ⟨b1,n1,d1,rfl,r1,g1,k1⟩;have K4:=lH (Kept.trans (Kept.drew _) k1);have G1:=lH (show Btw (w.heap.size+2) w4.heap.size b1 from fun b o s e=>⟨Nat.le_trans (by rw[←HZ.out];exact Below.size (Kept.drew _)) (g1 b o s e).1,(g1 b o s e).2⟩);have R1:=lH r1;clear k1 r1 g1;have HQ4:=lH (HQ.out _ K4.out);have z0:=HQ4.out.at_ 0 _ rfl;have f0:=HQ4.out.free 0;have z1:=HQ4.out.at_ 1 _ rfl;have f1:=HQ4.out.free 1;have z2:=HQ4.out.at_ 2 _ rfl;have f2:=HQ4.out.free 2))
 have P:=lH (zv (vs:=[.string x0,.slice b1 n1 d1,.int .i64 m]) HQ4.out rfl);go_wp2;obtain⟨WE,hWE⟩:∃W,w4.setCells (w.heap.size+1) 0 [.string x0,.slice b1 n1 d1,.int .i64 m]=W:=⟨_,rfl⟩
 have hWE2:(((w4.setCell ⟨w.heap.size+1,0,none⟩ (.string x0)).setCell ⟨w.heap.size+1,1,none⟩ (.slice b1 n1 d1)).setCell ⟨w.heap.size+1,2,none⟩ (.int .i64 m))=WE:=hWE;rw[hWE] at P;rw[hWE2];clear hWE hWE2;obtain⟨PC,hsz,hbl,hkp⟩:=P.out;refine bodyPost_ret (by simp[results,Tryz.results94,go_sem,PC.at_ 0 _ rfl,PC.at_ 1 _ rfl,PC.at_ 2 _ rfl];try rfl) rfl ?_;refine⟨(⟨x0,l3,m⟩,(b1,n1,d1)),rfl,rfl,zj.at1 (zj.far (B:=w.heap.size+2) (n:=⟨x0,l3,m⟩) ⟨HH.out.name,HH.out.floor,R1.out⟩ hsz (fun b hb=>hbl b (by omega)) G1.out.behind),?_,hkp _ _ (Nat.le_succ _) (HK0.out.trans K4.out)⟩;rw[hsz];exact G1.out.up (by omega) (Nat.le_refl _)
theorem jbs (x:BX) (u:Value) (h:u ∈ [Value.string x.1.name,slV x.2,.int .i64 x.1.floor]):u.oneCell'=true:=by
 simp only[List.mem_cons,List.not_mem_nil,or_false] at h;rcases h with rfl | rfl | rfl<;>rfl
def za:Lay BX:={ m:=3,cs:=fun x=>[.string x.1.name,slV x.2,.int .i64 x.1.floor],fine:=fun _=>True,len:=fun _=>rfl,one:=jbs,pos:=by decide }
def jfD (w:World) (v:Value) (l:List BX):Prop:=∀z ∈ l,At1 w z∧Btw 0 w.heap.size z.2.1∧Js v z.2.1
theorem jd8 {wr w1 w2:World} {o:Obj} {v:Value} {l:List BX} {z0:BX} {gg n cap:Nat} (hv:jfD wr v l) (k:Kept wr w1) (hz:At1 w1 z0) (hw:Btw wr.heap.size w1.heap.size z0.2.1) (hown:∀g,v.ownBlock=some g→g<wr.heap.size)
 (hgrow:(w1.alloc o).grownBy w2 v.ownBlock) (hat:v.ownBlock=some gg∨gg=w1.heap.size+1):jfD w2 (.slice (some ⟨gg,0,none⟩) n cap) (l++[z0]):=by
 have hs:=hgrow.size;rw[World.size_alloc] at hs;have hk:=k.size;have key:∀z,At1 w1 z→Btw 0 w1.heap.size z.2.1→Js v z.2.1→At1 w2 z∧Btw 0 w2.heap.size z.2.1∧Js (.slice (some ⟨gg,0,none⟩) n cap) z.2.1:=by
  intro z h3 hwz f1;have ne:∀b,b<w1.heap.size→v.ownBlock≠some b→(Value.slice (some ⟨gg,0,none⟩) n cap).ownBlock≠some b:=by
   intro b hb hne e;have e:some gg=some b:=e;rcases hat with hat | hat
   · exact hne (hat.trans e)
   · have:gg=b:=Option.some.inj e;omega
  have h3':=zj.kept h3 (ja w1 o);exact⟨⟨h3'.name,h3'.floor,h3'.sel.grown hgrow (fun b off sp e=>Ne.symm (f1 b off sp e))⟩,hwz.up (Nat.le_refl _) (by omega),fun b off sp e=>ne b (hwz b off sp e).2 (f1 b off sp e)⟩
 intro z hzm;rcases List.mem_append.1 hzm with hzm | hzm
 · obtain⟨h0,h1,h2⟩:=hv z hzm;exact key z (zj.kept h0 k) (h1.up (Nat.le_refl _) hk) h2
 · obtain rfl:z=z0:=by simpa using hzm
   exact key z hz (hw.up (Nat.zero_le _) (Nat.le_refl _)) (fun b off sp e f=>by have:=(hw b off sp e).1;have:=hown b f;omega)
theorem jbc {w:World} {T:TypeId} {B:Nat} {v:Value} {lx:List BX} (ho:Own za T w B v lx) (hf:∀z ∈ lx,At1 w z):Ji w v (lx.map fun z=>z.1):=by
 obtain⟨a,cap,rfl,h1,h2,h3⟩:=ho.at_;obtain⟨g0,g1,g2,g3⟩:=h3;refine⟨a,cap,by rw[List.length_map],by rw[List.length_map];exact h1,h2,rfl,by rw[List.length_map];exact g1,?_⟩;rw[List.length_map];rcases g3 with g3 | ⟨b,off,rfl,hb,hc⟩
 · exact .inl g3
 · refine .inr ⟨b,off,rfl,hb,fun i n hi=>?_⟩;rw[List.getElem?_map] at hi;obtain⟨z,hz,rfl⟩:=Option.map_eq_some_iff.1 hi;exact⟨slV z.2,hc i z 0 _ hz rfl,hc i z 1 _ hz rfl,hc i z 2 _ hz rfl,hf z (List.mem_of_getElem? hz)⟩
theorem jgD:(Tryz.prog.info? 159).map (fun i=>(i.zero,i.size,i.bytes))=some (some (.agg #[.string ByteArray.empty,.slice none 0 0,.int .i64 0]),3,48):=by kernel_rfl
theorem jc0 (a:Option Addr) (len cap:Nat) (l:List Bd) (w:World) (hr:zI w a len l) (hlow:∀n ∈ l,n.sel.length≤1000000) (hlen:len≤1000) :
 Calls Tryz.prog 53 #[.slice a len cap] w fun e w'=>∃v,e=.returned v∧Ji w' v l∧Kept w w':=by
 have hl:=hr.1;have HLOW:=lH hlow;obtain⟨i0,hi,hz0,hz1,hz2'⟩:=info_parts jgD;rcases hr.form with h0 | ⟨b,off,rfl⟩
 · subst h0;have hl0:l=[]:=List.eq_nil_of_length_eq_zero hl;subst hl0;clear hr hl hi hz0 hz1 hz2' hlow;go_enter Tryz.func53,Tryz.ntmps53;go_wp2;refine wp_loop_rounds 1 ?_;rw[rounds_succ];go_wp2;go_ret;exact⟨_,rfl,⟨none,0,rfl,Nat.le_refl _,by decide,rfl,by decide,.inl rfl⟩,Kept.refl _⟩
 · have HR:=lH hr;have HL:=lH hl;clear hr hl hlow;go_enter Tryz.func53,Tryz.ntmps53;go_wp2;go_loopw [3,4] (fun v i wr=>∃k:Nat,k≤len∧i=.int .i64 k∧∃lx:List BX,(lx.map fun z=>z.1)=l.take k∧Own za 159 wr w.heap.size v lx∧jfD wr v lx∧Below w.heap.size w wr) (fun _ i _=>len-(intOf i).toNat)
   case atStart=>exact⟨0,Nat.zero_le _,rfl,[],rfl,Own.nil _ _ _,(fun z h=>by cases h),Below.refl _ _⟩
   case round =>
    obtain⟨k,hk,rfl,lx,hlx,ho,hv,hB⟩:=hrel;have HX:=lH hlx;have HO:=lH ho;have HV:=lH hv;have HB:=lH hB;have HT:=lH (show lx.length=k by have:=congrArg List.length hlx;rw[List.length_map,List.length_take,HL.out] at this;omega);have HOWN:=lH (show wr.ownsRow w.heap.size 159 3 u3 k (jf za lx) by have:=HO.out.1;rw[HT.out] at this;exact this);have hbase:w.heap.size≤wr.heap.size:=hB.size;by_cases hlt:k<len
    · obtain⟨n,a1,m1,c1,hn,hd,hb,p0,p1,p2,hat⟩:=(HR.out.kept hB).at_ hlt;have HN:=lH hn;have HOF:=lH (jf3 n (.slice a1 m1 c1) wr hat (HLOW.out n (List.mem_of_getElem? hn)));have hk1:(k:Int)<(len:Int):=by omega
      clear hlx ho hv hB hn hd hat;go_wp2_with fail
      refine HOF.out.mono ?_;rintro e w1 ⟨z,rfl,hz,h3,hwi,kk⟩;have HZ:=lH hz;have H3:=lH h3;have HW:=lH hwi;have KK:=lH kk;have hs1:wr.heap.size≤w1.heap.size:=kk.size;have HOW2:=lH (show w1.ownsRow w.heap.size 159 3 u3 k (jf za lx) by have:=(HO.out.kept kk).1;rw[HT.out] at this;exact this);clear hz h3 hwi kk;go_wp2_with (at_builtin;refine wpList_append_lies _ rfl _ _ _ rfl w.heap.size 159 i0 _ 3 48 Tryz.underlying59 hi hz0 hz1 hz2' rfl (by decide) u3 k (jf za lx) rfl (HOW2.out.alloc _) ⟨w1.heap.size,0,none⟩ 1 1 (za.cs z) rfl rfl (World.news_of_block (cs:=#[.string z.1.name,slV z.2,.int .i64 z.1.floor]) (t:=159) (fr:=(0,0)) (heap_alloc_new w1 _)) (jbs z) (by decide) (by unfold maxLen;omega) (by omega) (by simp;omega) (w1.heap.size+1) (by simp) ?_;intro gg cap1 w2 hown1 hgrow hat hlt1)
      have HFAR:=lH (jd8 (n:=k+1) (cap:=cap1) HV.out KK.out H3.out HW.out (fun g h=>(HOWN.out.lt g h).2) hgrow hat);have HBW:=lH ((HB.out.trans ((Below.mono KK.out hbase).trans (Below.mono (ja w1 _) (by omega)))).grown hgrow (by simp;omega) (fun j hj=>(HOWN.out.lt j hj).1));go_wp2;go_roundw
      case rel=>exact⟨k+1,by omega,by go_num,lx++[z],by rw[List.map_append,HX.out,zw HN.out,←HZ.out];rfl,Own.snoc hown1 (by rw[HT.out]) HO.out.2 trivial,HFAR.out,HBW.out⟩
      case measure=>simp[intOf];omega
    · have HK:=lH (show l.take k=l by rw[List.take_of_length_le (by rw[HL.out];omega)]);have HRES:=lH (show Ji wr u3 l by have:=jbc HO.out (fun z hz=>(HV.out z hz).1);rw[HX.out,HK.out] at this;exact this);clear hlx ho hv hB;go_wp2;go_ret;exact⟨_,rfl,HRES.out,HB.out⟩
theorem jfP {v:Value} {l:List Bd} {w:World} (h:Ji w v l) (hlow:∀n ∈ l,n.sel.length≤1000000) (hlen:l.length≤1000) :
 Calls Tryz.prog 53 #[v] w fun e w'=>∃v,e=.returned v∧Ji w' v l∧Kept w w':=by
 obtain⟨a,cap,rfl,_,_,hr⟩:=h;exact jc0 a _ cap l w hr hlow hlen
open Go.ChangeShapes Go.WideShapes Go.ChangeAt Go.RowKit Go.Deep
def jaQ (w:World):Lay BX:={ m:=3,cs:=za.cs,fine:=At1 w,len:=fun _=>rfl,one:=za.one,pos:=by decide }
theorem jcu:Tryz.prog.cellsOf 149=3:=by kernel_rfl
theorem jbe {H:Type} {enc:TypeId×Value→H} {w:World} {base fuel:Nat} {sp:Nat→Bool} {held:Bool} {cs:List Value} {x:DataW H×List MemPlace} (h:DataW.trod enc Tryz.prog w base sp held fuel 149 cs=some x) :
 ∃a:BX,cs=(jaQ w).cs a∧(jaQ w).fine a:=by
 obtain⟨ys,m,-,-,hlen,hyl,hf⟩:=DataW.trod_struct Tryz.underlying149 h;rw[jcu] at hlen
 match cs,hlen with
 | [c0,c1,c2],_ =>
  have h0:DataW.trod enc Tryz.prog w base sp held m 9 (([c0,c1,c2].drop 0).take (Tryz.prog.cellsOf 9))=ys[0]?:=hf 0 _ rfl;have h1:DataW.trod enc Tryz.prog w base sp held m 32 (([c0,c1,c2].drop 1).take (Tryz.prog.cellsOf 32))=ys[1]?:=hf 1 _ rfl;have h2:DataW.trod enc Tryz.prog w base sp held m 3 (([c0,c1,c2].drop 2).take (Tryz.prog.cellsOf 3))=ys[2]?:=hf 2 _ rfl;rw[Jv] at h0;rw[jcG] at h1;rw[YG] at h2;obtain⟨y0,e0⟩:∃y,ys[0]?=some y:=⟨_,List.getElem?_eq_getElem (by rw[hyl];decide)⟩
  rw[e0] at h0;obtain⟨y1,e1⟩:∃y,ys[1]?=some y:=⟨_,List.getElem?_eq_getElem (by rw[hyl];decide)⟩
  rw[e1] at h1;obtain⟨y2,e2⟩:∃y,ys[2]?=some y:=⟨_,List.getElem?_eq_getElem (by rw[hyl];decide)⟩
  rw[e2] at h2;simp only[List.drop_zero,List.take_succ_cons,List.take_zero,List.drop_succ_cons] at h0 h1 h2;obtain⟨s0,q0,-,z0⟩:=DataW.trod_string Tryz.underlying9 h0;obtain⟨l3,r5⟩:=XN h1;obtain⟨s2,q2,-,z2⟩:=DataW.trod_int Tryz.underlying3 h2;have r5':=r5;obtain⟨a1,d1,rfl,-⟩:=r5';simp only[List.cons.injEq,and_true] at q0 q2;subst q0;subst q2;exact⟨(⟨s0,l3,s2⟩,(a1,l3.length,d1)),rfl,⟨z0,bounds_i64 z2,r5⟩⟩
theorem jbw {H:Type} {enc:TypeId×Value→H} {w:World} {base fuel:Nat} {sp:Nat→Bool} {held:Bool} {v:Value} {x:DataW H×List MemPlace} (h:DataW.trod enc Tryz.prog w base sp held fuel 24 [v]=some x):∃l,Ji w v l:=by
 obtain⟨l,a,cap,rfl,h1,h2,h3⟩:=zo (jaQ w) Tryz.underlying24 jcu (fun _ _ _ h=>jbe h) h;obtain⟨g0,g1,g2,g3⟩:=h3;refine⟨l.map (fun z=>z.1),a,cap,by rw[List.length_map],by rw[List.length_map];exact h1,h2,rfl,by rw[List.length_map];exact g1,?_⟩;rw[List.length_map];rcases g3 with g3 | ⟨b,off,rfl,hb,hc⟩
 · exact .inl g3
 · refine .inr ⟨b,off,rfl,hb,fun i n hi=>?_⟩;rw[List.getElem?_map] at hi;obtain⟨z,hz,rfl⟩:=Option.map_eq_some_iff.1 hi;exact⟨slV z.2,hc i z 0 _ hz rfl,hc i z 1 _ hz rfl,hc i z 2 _ hz rfl,g2 z (List.mem_of_getElem? hz)⟩
def Jg (l:List Pd) (x:ByteArray):Option Pd:=l.find? fun n=>eqS n.name x
def zi:Option ByteArray→List Pd→Int
 | _,[]=>0
 | prev,n::t=>if zX n≠0 then zX n else if Vec.jz prev n.name=true then 13 else zi (some n.name) t
def jQ (l:List Pd):Int:=if 128<l.length then 4 else zi none l
def Zu (l:List Pd) (k:Nat):Option ByteArray:=if k=0 then none else (l[k-1]?).map Pd.name
theorem jbV {l:List Pd} {k:Nat} (h:k=0) (s:ByteArray):Vec.jz (Zu l k) s=false:=by unfold Zu;rw[if_pos h];rfl
theorem jbZ {l:List Pd} {k:Nat} {n:Pd} (h:¬k=0) (hn:l[k-1]?=some n) (s:ByteArray):Vec.jz (Zu l k) s=leS s n.name:=by unfold Zu;rw[if_neg h,hn];rfl
theorem jbO {l:List Pd} {k:Nat} {n:Pd} (hn:l[k]?=some n):Zu l (k+1)=some n.name:=by unfold Zu;rw[if_neg (by omega),Nat.add_sub_cancel,hn];rfl
theorem XZ {p:Option ByteArray} {n:Pd} {t:List Pd} (h:zX n≠0):zi p (n::t)=zX n:=by rw[zi,if_pos h]
theorem YJ {p:Option ByteArray} {n:Pd} {t:List Pd} (h:zX n=0) (b:Vec.jz p n.name=true):zi p (n::t)=13:=by rw[zi,if_neg (by rw[h];decide),if_pos b]
theorem Yt {p:Option ByteArray} {n:Pd} {t:List Pd} (h:zX n=0) (b:Vec.jz p n.name=false):zi p (n::t)=zi (some n.name) t:=by rw[zi,if_neg (by rw[h];decide),if_neg (by rw[b];decide)]
def zh:Option ByteArray→List Bd→Int
 | _,[]=>0
 | prev,n::t=>if Je n≠0 then Je n else if Vec.jz prev n.name=true then 13 else zh (some n.name) t
def jW (l:List Bd):Int:=if 8<l.length then 4 else zh none l
def Zy (l:List Bd) (k:Nat):Option ByteArray:=if k=0 then none else (l[k-1]?).map Bd.name
theorem jb6 {l:List Bd} {k:Nat} (h:k=0) (s:ByteArray):Vec.jz (Zy l k) s=false:=by unfold Zy;rw[if_pos h];rfl
theorem jbR {l:List Bd} {k:Nat} {n:Bd} (h:¬k=0) (hn:l[k-1]?=some n) (s:ByteArray):Vec.jz (Zy l k) s=leS s n.name:=by unfold Zy;rw[if_neg h,hn];rfl
theorem jbP {l:List Bd} {k:Nat} {n:Bd} (hn:l[k]?=some n):Zy l (k+1)=some n.name:=by unfold Zy;rw[if_neg (by omega),Nat.add_sub_cancel,hn];rfl
theorem jdx {p:Option ByteArray} {n:Bd} {t:List Bd} (h:Je n≠0):zh p (n::t)=Je n:=by rw[zh,if_pos h]
theorem jbH {p:Option ByteArray} {n:Bd} {t:List Bd} (h:Je n=0) (b:Vec.jz p n.name=true):zh p (n::t)=13:=by rw[zh,if_neg (by rw[h];decide),if_pos b]
theorem qf {p:Option ByteArray} {n:Bd} {t:List Bd} (h:Je n=0) (b:Vec.jz p n.name=false):zh p (n::t)=zh (some n.name) t:=by rw[zh,if_neg (by rw[h];decide),if_neg (by rw[b];decide)]
structure Clu where
 nodes:List Nod
 pods:List Pd
 buds:List Bd
abbrev Zh (v1 v2 v3:Value):Value:=.agg #[v1,v2,v3]
structure qC (w:World) (v1 v2 v3:Value) (s:Clu):Prop where
 nodes:zM w v1 s.nodes
 pods:JB w v2 s.pods
 buds:Ji w v3 s.buds
theorem qC.kept {w w':World} {v1 v2 v3:Value} {s:Clu} (h:qC w v1 v2 v3 s) (k:Kept w w'):qC w' v1 v2 v3 s:=⟨h.nodes.kept k,h.pods.kept k,h.buds.kept k⟩
def jN (w:World) (v:Value) (s:Clu):Prop:=∃v1 v2 v3,v=Zh v1 v2 v3∧qC w v1 v2 v3 s
theorem jN.kept {w w':World} {v:Value} {s:Clu} (h:jN w v s) (k:Kept w w'):jN w' v s:=by
 obtain⟨v1,v2,v3,e,h⟩:=h;exact⟨v1,v2,v3,e,h.kept k⟩
structure zA (s:Clu):Prop where
 nodes:∀n ∈ s.nodes,zZ n
 pods:∀n ∈ s.pods,Yx n
 buds:∀n ∈ s.buds,n.sel.length≤1000000
 nodesN:s.nodes.length≤100000
 podsN:s.pods.length≤100000
 budsN:s.buds.length≤100000
def jE (x:ByteArray):List Pd→Vec.V→Int×Vec.V
 | [],v=>(0,v)
 | p::t,v=>if eqS p.node x=true then (if (Vec.jg Vec.jv v p.need).1=0 then jE x t (Vec.jg Vec.jv v p.need).2 else ((Vec.jg Vec.jv v p.need).1,[])) else jE x t v
theorem Xq {x:ByteArray} {p:Pd} {t:List Pd} {v:Vec.V} (h:eqS p.node x=false):jE x (p::t) v=jE x t v:=by
 rw[jE,if_neg (by rw[h];decide)]
theorem XY {x:ByteArray} {p:Pd} {t:List Pd} {v m:Vec.V} (h:eqS p.node x=true) (g:Vec.jg Vec.jv v p.need=(0,m)):jE x (p::t) v=jE x t m:=by
 rw[jE,if_pos h,g,if_pos rfl]
theorem XX {x:ByteArray} {p:Pd} {t:List Pd} {v m:Vec.V} {c:Int} (h:eqS p.node x=true) (g:Vec.jg Vec.jv v p.need=(c,m)) (hc:c≠0):jE x (p::t) v=(c,[]):=by
 rw[jE,if_pos h,g,if_neg hc]
def Jw:List Nod→Vec.V→Int×Vec.V
 | [],v=>(0,v)
 | n::t,v=>if (Vec.jg Vec.jv v n.cap).1=0 then Jw t (Vec.jg Vec.jv v n.cap).2 else ((Vec.jg Vec.jv v n.cap).1,[])
theorem jeP {n:Nod} {t:List Nod} {v m:Vec.V} (g:Vec.jg Vec.jv v n.cap=(0,m)):Jw (n::t) v=Jw t m:=by
 rw[Jw,g,if_pos rfl]
theorem jfz {n:Nod} {t:List Nod} {v m:Vec.V} {c:Int} (g:Vec.jg Vec.jv v n.cap=(c,m)) (hc:c≠0):Jw (n::t) v=(c,[]):=by
 rw[Jw,g,if_neg hc]
def ZR (s:Clu) (x:ByteArray):Int×Vec.V:=match jm s.nodes x with | none=>(3,[]) | some n=>jE n.name s.pods []
def Zv (s:Clu) (x:ByteArray):Int×Vec.V:=match jm s.nodes x with | none=>(3,[]) | some n=>if (jE n.name s.pods []).1=0 then Vec.jg Vec.jV n.cap (jE n.name s.pods []).2 else ((jE n.name s.pods []).1,[])
def jf9 (s:Clu):Int×Vec.V:=Jw s.nodes []
def jF (nodes:List Nod):List Pd→Int
 | []=>0
 | p::t=>if Jt p.node=false∧(jm nodes p.node).isSome=false then 3 else jF nodes t
theorem jds {nodes:List Nod} {p:Pd} {t:List Pd} (h:Jt p.node=false) (g:(jm nodes p.node).isSome=false):jF nodes (p::t)=3:=by
 rw[jF,if_pos ⟨h,g⟩]
theorem jcf {nodes:List Nod} {p:Pd} {t:List Pd} (h:Jt p.node=true):jF nodes (p::t)=jF nodes t:=by
 rw[jF,if_neg (by rw[h];simp)]
theorem jb3 {nodes:List Nod} {p:Pd} {t:List Pd} (g:(jm nodes p.node).isSome=true):jF nodes (p::t)=jF nodes t:=by
 rw[jF,if_neg (by rw[g];simp)]
def jT (pods:List Pd):List Nod→Int
 | []=>0
 | n::t=>if (jE n.name pods []).1=0 then (if Vec.jt n.cap (jE n.name pods []).2=true then jT pods t else 7) else (jE n.name pods []).1
theorem jet {pods:List Pd} {n:Nod} {t:List Nod} {c:Int} {u:Vec.V} (h:jE n.name pods []=(c,u)) (hc:c≠0):jT pods (n::t)=c:=by
 rw[jT,h,if_neg hc]
theorem jcS {pods:List Pd} {n:Nod} {t:List Nod} {u:Vec.V} (h:jE n.name pods []=(0,u)) (hf:Vec.jt n.cap u=false):jT pods (n::t)=7:=by
 rw[jT,h,if_pos rfl,if_neg (by rw[hf];decide)]
theorem jdd {pods:List Pd} {n:Nod} {t:List Nod} {u:Vec.V} (h:jE n.name pods []=(0,u)) (hf:Vec.jt n.cap u=true):jT pods (n::t)=jT pods t:=by
 rw[jT,h,if_pos rfl,if_pos hf]
def Jy (s:Clu):Int :=
 if or3 (jU s.nodes) (jQ s.pods) (jW s.buds)≠0 then or3 (jU s.nodes) (jQ s.pods) (jW s.buds)
 else if jF s.nodes s.pods≠0 then jF s.nodes s.pods
 else if jT s.pods s.nodes≠0 then jT s.pods s.nodes
 else (Jw s.nodes []).1
def jD (x:ByteArray):List Pd→List Pd
 | []=>[]
 | p::t=>if eqS p.name x=true then t else p::jD x t
def jY (s:Clu) (x:ByteArray):Clu:={ s with pods:=jD x s.pods }
theorem jfN:Tryz.prog.cellsOf 26=3:=by kernel_rfl
theorem jfc:Tryz.prog.cellsOf 22=1:=by kernel_rfl
theorem je9:Tryz.prog.cellsOf 23=1:=by kernel_rfl
theorem jfw:Tryz.prog.cellsOf 24=1:=by kernel_rfl
theorem jbL {H:Type} {enc:TypeId×Value→H} {w:World} {base fuel:Nat} {sp:Nat→Bool} {held:Bool} {cs:List Value} {x:DataW H×List MemPlace} (h:DataW.trod enc Tryz.prog w base sp held fuel 26 cs=some x) :
 ∃v1 v2 v3 s,cs=[v1,v2,v3]∧qC w v1 v2 v3 s:=by
 obtain⟨ys,m,-,-,hlen,hyl,hf⟩:=DataW.trod_struct Tryz.underlying26 h;rw[jfN] at hlen
 match cs,hlen with
 | [c0,c1,c2],_ =>
  have h0:DataW.trod enc Tryz.prog w base sp held m 22 (([c0,c1,c2].drop 0).take (Tryz.prog.cellsOf 22))=ys[0]?:=hf 0 _ rfl;rw[jfc] at h0;obtain⟨y0,e0⟩:∃y,ys[0]?=some y:=⟨_,List.getElem?_eq_getElem (by rw[hyl];decide)⟩
  rw[e0] at h0;have h1:DataW.trod enc Tryz.prog w base sp held m 23 (([c0,c1,c2].drop 1).take (Tryz.prog.cellsOf 23))=ys[1]?:=hf 1 _ rfl;rw[je9] at h1;obtain⟨y1,e1⟩:∃y,ys[1]?=some y:=⟨_,List.getElem?_eq_getElem (by rw[hyl];decide)⟩
  rw[e1] at h1;have h2:DataW.trod enc Tryz.prog w base sp held m 24 (([c0,c1,c2].drop 2).take (Tryz.prog.cellsOf 24))=ys[2]?:=hf 2 _ rfl;rw[jfw] at h2;obtain⟨y2,e2⟩:∃y,ys[2]?=some y:=⟨_,List.getElem?_eq_getElem (by rw[hyl];decide)⟩
  rw[e2] at h2;simp only[List.drop_zero,List.take_succ_cons,List.take_zero,List.drop_succ_cons] at h0 h1 h2;obtain⟨l0,r0⟩:=jaw h0;obtain⟨l1,r1⟩:=jaM h1;obtain⟨l2,r2⟩:=jbw h2;exact⟨c0,c1,c2,⟨l0,l1,l2⟩,rfl,⟨r0,r1,r2⟩⟩
theorem jf6 {H:Type} {enc:TypeId×Value→H} {W:World} {r:Reach} {b0 base:Nat} {sp:Nat→Bool} {held:Bool} {v:Value} {d:DataW H} {ps:List MemPlace} (hval:Value.okWide Tryz.prog W r b0 26 v) (h:DataW.Trod enc Tryz.prog W base sp held 26 v d ps):∃s,jN W v s:=by
 obtain⟨cs,rfl,hsz⟩:=okWide_struct Tryz.underlying26 hval;obtain⟨fuel,hf⟩:=h;obtain⟨v1,v2,v3,s,ha,hat⟩:=jbL hf;have e:cs.toList=[v1,v2,v3]:=by
  have:(Value.agg cs).cells.toList=[v1,v2,v3]:=ha;simpa [Value.cells] using this
 have:cs=#[v1,v2,v3]:=Array.ext' e;rw[this];exact⟨s,v1,v2,v3,rfl,hat⟩
def ZH (p q:Pd):Bool:=!Jt p.owner&&(eqS q.owner p.owner&&(!q.hold&&!eqS q.name p.name))
def onN (p:Pd) (x:ByteArray):List Pd→Nat
 | []=>0
 | q::t=>(if ZH p q=true∧q.node=x then 1 else 0)+onN p x t
theorem qi (p:Pd) (x:ByteArray):∀l:List Pd,onN p x l≤l.length
 | []=>Nat.zero_le _
 | q::t=>by
  have:=qi p x t;unfold onN;simp only[List.length_cons];split<;>omega
def inD (p:Pd) (pods:List Pd) (d:ByteArray):List Nod→Nat
 | []=>0
 | n::t=>(if zB n.labels p.key=some d then onN p n.name pods else 0)+inD p pods d t
theorem jbk (p:Pd) (pods:List Pd) (d:ByteArray):∀l:List Nod,inD p pods d l≤l.length*pods.length
 | []=>Nat.zero_le _
 | n::t=>by
  have h1:=jbk p pods d t;have h2:=qi p n.name pods;unfold inD;simp only[List.length_cons,Nat.add_mul];split<;>omega
def JI (k d:ByteArray) (l:List Nod):Bool:=l.any fun n=>decide (zB n.labels k=some d)
theorem qH (p:Pd) (x:ByteArray):∀(a b:List Pd),onN p x (a++b)=onN p x a+onN p x b
 | [],b=>by simp[onN]
 | q::t,b=>by
  have:=qH p x t b;simp only[List.cons_append,onN,this];omega
theorem qT (p:Pd) (pods:List Pd) (d:ByteArray):∀(a b:List Nod),inD p pods d (a++b)=inD p pods d a+inD p pods d b
 | [],b=>by simp[inD]
 | q::t,b=>by
  have:=qT p pods d t b;simp only[List.cons_append,inD,this];omega
def domV (key name:ByteArray):List Nod→Option ByteArray
 | []=>none
 | n::t=>if eqS n.name name=true then zB n.labels key else domV key name t
def ZQ (p:Pd) (pods:List Pd) (nodes:List Nod) (d:ByteArray):List Nod→Nat→Nat
 | [],m=>m
 | n::t,m=>ZQ p pods nodes d t (match zB n.labels p.key with
  | none=>m
  | some e=>min m (inD p pods e nodes+(if e=d then 1 else 0)))
def ZJ (p:Pd) (s:Clu) (d:ByteArray):Int:=((inD p s.pods d s.nodes+1:Nat):Int)-(ZQ p s.pods s.nodes d s.nodes (inD p s.pods d s.nodes+1):Int)
def JC (p:Pd) (s:Clu) (name:ByteArray):Int×Bool :=
 if Jt p.key=true then (0,true) else match domV p.key name s.nodes with
  | none=>(0,false)
  | some d=>(ZJ p s d,true)
theorem YF (p:Pd) (pods:List Pd) (nodes:List Nod) (d:ByteArray):∀(l:List Nod) (m:Nat),
 ZQ p pods nodes d l m≤m∧(∀n ∈ l,∀e,zB n.labels p.key=some e→ZQ p pods nodes d l m≤inD p pods e nodes+(if e=d then 1 else 0)) ∧
 (ZQ p pods nodes d l m=m∨∃n ∈ l,∃e,zB n.labels p.key=some e∧ZQ p pods nodes d l m=inD p pods e nodes+(if e=d then 1 else 0))
 | [],m=>⟨Nat.le_refl _,fun n h=>absurd h (by simp),.inl rfl⟩
 | n::t,m=>by
  rw[ZQ]
  cases h:zB n.labels p.key with
  | none =>
   dsimp only;obtain⟨h1,h2,h3⟩:=YF p pods nodes d t m;refine⟨h1,fun x hx e he=>?_,h3.imp id fun ⟨x,hx,e,he⟩=>⟨x,by simp[hx],e,he⟩⟩;rcases List.mem_cons.1 hx with rfl | hx
   · rw[h] at he;cases he
   · exact h2 x hx e he
  | some c =>
   dsimp only;obtain⟨h1,h2,h3⟩:=YF p pods nodes d t (min m (inD p pods c nodes+(if c=d then 1 else 0)));refine⟨Nat.le_trans h1 (Nat.min_le_left _ _),fun x hx e he=>?_,?_⟩
   · rcases List.mem_cons.1 hx with rfl | hx
     · rw[h] at he;cases he;exact Nat.le_trans h1 (Nat.min_le_right _ _)
     · exact h2 x hx e he
   · rcases h3 with h3 | ⟨x,hx,e,he,h3⟩
     · by_cases g:m≤inD p pods c nodes+(if c=d then 1 else 0)
       · exact .inl (by rw[h3,Nat.min_eq_left g])
       · exact .inr ⟨n,by simp,c,h,by rw[h3,Nat.min_eq_right (by omega)]⟩
     · exact .inr ⟨x,by simp[hx],e,he,h3⟩
theorem jdV {p:Pd} {pods:List Pd} {nodes:List Nod} {d:ByteArray} {m z:Nat} (hd:JI p.key d nodes=true) (hm:m=inD p pods d nodes+1)
 (h1:∀e,JI p.key e nodes=true→z≤inD p pods e nodes+(if e=d then 1 else 0)) (h2:∃e,JI p.key e nodes=true∧z=inD p pods e nodes+(if e=d then 1 else 0)):ZQ p pods nodes d nodes m=z:=by
 have has:∀{n:Nod} {e:ByteArray},n ∈ nodes→zB n.labels p.key=some e→JI p.key e nodes=true:=fun {n e} hn he=>by
  unfold JI;rw[List.any_eq_true];exact⟨n,hn,by simpa using he⟩
 have un:∀{e:ByteArray},JI p.key e nodes=true→∃n ∈ nodes,zB n.labels p.key=some e:=fun {e} h=>by
  unfold JI at h;rw[List.any_eq_true] at h;obtain⟨n,hn,he⟩:=h;exact⟨n,hn,by simpa using he⟩
 obtain⟨g1,g2,g3⟩:=YF p pods nodes d nodes m;obtain⟨e,he,hz⟩:=h2;obtain⟨n,hn,hne⟩:=un he;have a:=g2 n hn e hne;rcases g3 with g3 | ⟨x,hx,c,hc,g3⟩
 · have b:=h1 d hd;rw[if_pos rfl] at b;omega
 · have b:=h1 c (has hx hc);omega
theorem X2 {key name d:ByteArray}:∀{l:List Nod},domV key name l=some d→JI key d l=true
 | n::t,h=>by
  rw[domV] at h;unfold JI;rw[List.any_cons];split at h
  · rw[h];simp
  · have:=X2 h;unfold JI at this;rw[this,Bool.or_true]
def Jh (s:Clu) (p:Pd) (x:ByteArray):Bool:=if Jt p.key=true then false else (!(JC p s x).2||decide (p.most<(JC p s x).1))
def Jd (p:Pd) (n:Nod):Bool:=!n.cordon&&JR p.sel n.labels
def JL (p:Pd) (n:Nod):Bool:=!(zD p.tols n.taints).isSome
def Zc (s:Clu) (p:Pd) (x:ByteArray):Bool:=decide ((Zv s x).1=0)&&Vec.jt (Zv s x).2 p.need
def zt (s:Clu) (p:Pd) (n:Nod) (x:ByteArray):Int:=if Jd p n=false then 8 else if JL p n=false then 9 else if Jh s p x=true then 10 else if Zc s p x=false then 7 else 0
def zr (s:Clu) (p:Pd) (x:ByteArray):Int:=match jm s.nodes x with
 | none=>3
 | some n=>zt s p n x
def Jr (s:Clu) (p:Pd) (x:ByteArray):Int:=zr (jY s p.name) p x
def ZW (s:Clu) (p:Pd) (l:List Nod):List Int:=l.map fun n=>Jr s p n.name
def JA (s:Clu) (p:Pd) (l:List Nod):List ByteArray:=(l.filter fun n=>decide (Jr s p n.name=0)).map fun n=>n.name
theorem XJ {s:Clu} {p:Pd} {x:ByteArray} (h:jm s.nodes x=none):zr s p x=3:=by unfold zr;rw[h]
theorem ZK {s:Clu} {p:Pd} {x:ByteArray} {n:Nod} (h:jm s.nodes x=some n):zr s p x=zt s p n x:=by unfold zr;rw[h]
theorem XL {s:Clu} {p:Pd} {n:Nod} {x:ByteArray} (h:Jd p n=false):zt s p n x=8:=by unfold zt;rw[if_pos h]
theorem Y4 {s:Clu} {p:Pd} {n:Nod} {x:ByteArray} (h:Jd p n=true) (h2:JL p n=false):zt s p n x=9:=by unfold zt;rw[if_neg (by rw[h];decide),if_pos h2]
theorem Xs {s:Clu} {p:Pd} {n:Nod} {x:ByteArray} (h:Jd p n=true) (h2:JL p n=true) (h3:Jh s p x=true):zt s p n x=10:=by unfold zt;rw[if_neg (by rw[h];decide),if_neg (by rw[h2];decide),if_pos h3]
theorem Xe {s:Clu} {p:Pd} {n:Nod} {x:ByteArray} (h:Jd p n=true) (h2:JL p n=true) (h3:Jh s p x=false) (h4:Zc s p x=false):zt s p n x=7:=by unfold zt;rw[if_neg (by rw[h];decide),if_neg (by rw[h2];decide),if_neg (by rw[h3];decide),if_pos h4]
theorem YQ {s:Clu} {p:Pd} {n:Nod} {x:ByteArray} (h:Jd p n=true) (h2:JL p n=true) (h3:Jh s p x=false) (h4:Zc s p x=true):zt s p n x=0:=by unfold zt;rw[if_neg (by rw[h];decide),if_neg (by rw[h2];decide),if_neg (by rw[h3];decide),if_neg (by rw[h4];decide)]
theorem Xt {s:Clu} {p:Pd} {n:Nod} {x:ByteArray} (h:zt s p n x=0):Jd p n=true∧JL p n=true∧Jh s p x=false∧Zc s p x=true:=by
 cases h1:Jd p n with
 | false=>rw[XL h1] at h;cases h
 | true =>
  cases h2:JL p n with
  | false=>rw[Y4 h1 h2] at h;cases h
  | true =>
   cases h3:Jh s p x with
   | true=>rw[Xs h1 h2 h3] at h;cases h
   | false =>
    cases h4:Zc s p x with
    | false=>rw[Xe h1 h2 h3 h4] at h;cases h
    | true=>exact⟨rfl,rfl,rfl,rfl⟩
theorem XI {s:Clu} {p:Pd} {x:ByteArray} (h:zr s p x=0):∃n,jm s.nodes x=some n∧zt s p n x=0:=by
 cases hf:jm s.nodes x with
 | none=>rw[XJ hf] at h;cases h
 | some n=>rw[ZK hf] at h;exact⟨n,rfl,h⟩
theorem jcY (s:Clu) (p:Pd) (n:Nod) (x:ByteArray):0≤zt s p n x∧zt s p n x≤10:=by
 unfold zt;split
 · decide
 · split
   · decide
   · split
     · decide
     · split<;>decide
theorem jd3 (s:Clu) (p:Pd) (x:ByteArray):0≤zr s p x∧zr s p x≤10:=by
 unfold zr;split
 · decide
 · exact jcY _ _ _ _
theorem jeB {l:List Nod} {x:ByteArray} {n:Nod} (h:jm l x=some n):n ∈ l∧n.name=x:=by
 unfold jm at h;have h2:eqS n.name x=true:=List.find?_some (p:=fun n:Nod=>eqS n.name x) h;exact⟨List.mem_of_find?_eq_some h,jR.1 h2⟩
theorem jep {s:Clu} {p:Pd} {l:List Nod} {k:Nat} {n:Nod} (h:l[k]?=some n):ZW s p (l.take (k+1))=ZW s p (l.take k)++[Jr s p n.name]:=by
 unfold ZW;rw[List.take_add_one,h,List.map_append];rfl
theorem XO (s:Clu) (p:Pd) (l:List Nod):(ZW s p l).length=l.length:=by unfold ZW;rw[List.length_map]
theorem jga {s:Clu} {p:Pd} {l:List Nod} {k:Nat} {n:Nod} (h:l[k]?=some n):(ZW s p l)[k]?=some (Jr s p n.name):=by unfold ZW;rw[List.getElem?_map,h];rfl
theorem jdo {s:Clu} {p:Pd} {l:List Nod} {k:Nat} {n:Nod} (h:l[k]?=some n):JA s p (l.take (k+1))=JA s p (l.take k)++(if Jr s p n.name=0 then [n.name] else []):=by
 unfold JA;rw[List.take_add_one,h,List.filter_append,List.map_append];by_cases hb:Jr s p n.name=0
 · rw[if_pos hb];simp[hb]
 · rw[if_neg hb];simp[hb]
theorem qW (s:Clu) (p:Pd) (l:List Nod):(JA s p l).length≤l.length:=by
 unfold JA;rw[List.length_map];exact List.length_filter_le _ _
theorem jav {s:Clu} {p:Pd} {l:List Nod} {x:ByteArray} (h:x ∈ JA s p l):Jr s p x=0∧∃n ∈ l,n.name=x:=by
 unfold JA at h;obtain⟨n,hn,rfl⟩:=List.mem_map.1 h;obtain⟨h1,h2⟩:=List.mem_filter.1 hn;exact⟨of_decide_eq_true h2,n,h1,rfl⟩
def Xr (d:Array Value):Nat→List Value→Array Value
 | _,[]=>d
 | k,x::r=>Xr (d.setIfInBounds k x) (k+1) r
theorem ZT:∀(xs:List Value) (d:Array Value) (k:Nat),(Xr d k xs).size=d.size
 | [],_,_=>rfl
 | x::r,d,k=>by rw[Xr,ZT r];simp
theorem YY:∀(xs:List Value) (d:Array Value) (k j:Nat),k+xs.length≤d.size→(Xr d k xs)[j]?=if k≤j∧j<k+xs.length then xs[j-k]? else d[j]?
 | [],d,k,j,_=>by rw[Xr,if_neg (by simp only[List.length_nil];omega)]
 | x::r,d,k,j,h=>by
  have hl:k+(r.length+1)≤d.size:=by simpa using h
  rw[Xr,YY r _ _ _ (by simp;omega)];simp only[List.length_cons];by_cases c1:k+1≤j∧j<k+1+r.length
  · rw[if_pos c1,if_pos (by omega),show j-k=(j-(k+1))+1 by omega,List.getElem?_cons_succ]
  · rw[if_neg c1];by_cases c2:j=k
    · subst c2;rw[if_pos (by omega),Nat.sub_self,List.getElem?_cons_zero,Array.getElem?_setIfInBounds_self_of_lt (by omega)]
    · rw[if_neg (by omega),Array.getElem?_setIfInBounds_ne (by omega)]
theorem ZZ:∀(vs:List Value) (g o:Nat) (w:World) (cur:Array Value) (e:TypeId),w.heap[g]?=some (.cells cur e (0,0))→(w.setCells g o vs).heap[g]?=some (.cells (Xr cur o vs) e (0,0))
 | [],_,_,_,_,_,h=>h
 | v::r,g,o,w,cur,e,h=>by
  rw[World.setCells,Xr];exact ZZ r g (o+1) _ _ e (heap_setCell_same w g o cur e v h)
theorem ZB {w:World} {B:Nat} {e:TypeId} {s g n cap:Nat} {xs:List Value} (h:w.ownsRow B e s (.slice (some ⟨g,0,none⟩) n cap) n xs) :
 ∃cur,B≤g∧w.heap[g]?=some (.cells cur e (0,0))∧n≤cap∧cap≤maxLen∧cur.size=cap*s∧cur.toList.take (n*s)=xs∧xs.length=n*s:=by
 obtain⟨hl,h⟩:=h;rcases h with ⟨h0,_⟩ | ⟨g2,cap2,cur,h0,hb,hg,hn,hm,hs,ht⟩
 · cases h0
 · cases h0
   exact⟨cur,hb,hg,hn,hm,hs,ht,hl⟩
theorem jbM {cur:Array Value} {m:Nat} {xs:List Value} (hl:xs.length=m) (hm:m≤cur.size) (h:∀j,j<m→cur[j]?=xs[j]?):cur.toList.take m=xs:=by
 apply List.ext_getElem?;intro j;rw[List.getElem?_take];by_cases hj:j<m
 · rw[if_pos hj,Array.getElem?_toList];exact h j hj
 · rw[if_neg hj,List.getElem?_eq_none (by omega)]
theorem XE {cur:Array Value} {m j:Nat} {xs:List Value} (ht:cur.toList.take m=xs) (hj:j<m):cur[j]?=xs[j]?:=by
 rw[←ht,List.getElem?_take,if_pos hj,Array.getElem?_toList]
theorem jco {w:World} {B:Nat} {e:TypeId} {s g n cap:Nat} {xs:List Value} {cur:Array Value} (hB:B≤g) (hg:w.heap[g]?=some (.cells cur e (0,0))) (hn:n≤cap) (hm:cap≤maxLen) (hs:cur.size=cap*s) (hl:xs.length=n*s) (h:∀j,j<n*s→cur[j]?=xs[j]?) :
 w.ownsRow B e s (.slice (some ⟨g,0,none⟩) n cap) n xs :=
 ⟨hl,.inr ⟨g,cap,cur,rfl,hB,hg,hn,hm,hs,jbM hl (by rw[hs];exact Nat.mul_le_mul_right s hn) h⟩⟩
theorem jeT {w:World} {B:Nat} {e:TypeId} {s g n cap o:Nat} {xs vs:List Value} (h:w.ownsRow B e s (.slice (some ⟨g,0,none⟩) n cap) n xs) (ho:o+vs.length≤n*s) :
 (w.setCells g o vs).ownsRow B e s (.slice (some ⟨g,0,none⟩) n cap) n (xs.take o++vs++xs.drop (o+vs.length)):=by
 obtain⟨cur,hB,hg,hn,hm,hs,ht,hl⟩:=ZB h;have hns:n*s≤cap*s:=Nat.mul_le_mul_right s hn;refine jco hB (ZZ vs g o w cur e hg) hn hm (by rw[ZT];exact hs) (by simp;omega) (fun j hj=>?_);rw[YY _ _ _ _ (by omega)];by_cases c1:o≤j∧j<o+vs.length
 · rw[if_pos c1,List.append_assoc,List.getElem?_append_right (by simp;omega),List.getElem?_append_left (by simp;omega)];congr 1
   simp;omega
 · rw[if_neg c1,XE ht hj];by_cases c2:j<o
   · rw[List.append_assoc,List.getElem?_append_left (by simp;omega),List.getElem?_take,if_pos c2]
   · rw[List.getElem?_append_right (by simp;omega),List.getElem?_drop];congr 1
     simp;omega
theorem je8 {w:World} {B:Nat} {e:TypeId} {s g n cap i j:Nat} {xs zs:List Value} (h:w.ownsRow B e s (.slice (some ⟨g,0,none⟩) n cap) n xs) (hij:i≤j) (hj:j≤n) (hz:zs.length=(j-i)*s) :
 ((w.setCells g (i*s) (xs.drop (j*s))).setCells g ((i+(n-j))*s) zs).ownsRow B e s (.slice (some ⟨g,0,none⟩) (i+(n-j)) cap) (i+(n-j)) (xs.take (i*s)++xs.drop (j*s)):=by
 obtain⟨cur,hB,hg,hn,hm,hs,ht,hl⟩:=ZB h;have hns:n*s≤cap*s:=Nat.mul_le_mul_right s hn;have his:i*s≤j*s:=Nat.mul_le_mul_right s hij;have hjs:j*s≤n*s:=Nat.mul_le_mul_right s hj;have e1:(i+(n-j))*s=i*s+(n*s-j*s):=by rw[Nat.add_mul,Nat.sub_mul]
 have e2:(j-i)*s=j*s-i*s:=Nat.sub_mul j i s;have hld:(xs.drop (j*s)).length=n*s-j*s:=by rw[List.length_drop,hl]
 refine jco hB (ZZ zs g _ _ _ e (ZZ _ g (i*s) w cur e hg)) (by omega) hm (by rw[ZT,ZT];exact hs) (by rw[List.length_append,List.length_take,hld,hl,e1];omega) (fun t htl=>?_);rw[e1] at htl ⊢;rw[YY _ _ _ _ (by rw[ZT,hz,e2];omega),if_neg (by omega),YY _ _ _ _ (by rw[hld];omega),hld];by_cases c1:t<i*s
 · rw[if_neg (by omega),XE ht (by omega),List.getElem?_append_left (by rw[List.length_take,hl];omega),List.getElem?_take,if_pos c1]
 · rw[if_pos (by omega),List.getElem?_append_right (by rw[List.length_take,hl];omega),List.length_take,hl];congr 1
   omega
theorem qJ (w:World) (t e ty:TypeId) (i0:TypeInfo) (z:Value) (ht:Tryz.prog.underlying t=some (.slice e)) (hi:Tryz.prog.info? e=some i0) (hz:i0.zero=some z) (b o n c:Nat) (hn:0<n) (h1:∀v ∈ (Builtin.zeroCells z.cells n).toList,v.oneCell'=true)
 (hc:∀j,j<(Builtin.zeroCells z.cells n).size→(w.cell? ⟨b,o+j,none⟩).isSome=true) (hf:∀j,j<(Builtin.zeroCells z.cells n).size→w.frozen? ⟨b,o+j,none⟩=false) :
 (Builtin.clear_ #[t] ty #[.slice (some ⟨b,o,none⟩) n c]).run Tryz.prog w=.ok (.tuple #[]) (w.setCells b o (Builtin.zeroCells z.cells n).toList):=by
 have hst:=run_storeCells_cells (P:=Tryz.prog) b o (Builtin.zeroCells z.cells n).toList 0 w (by simpa using hc) (by simpa using hf) h1;simp only[Nat.add_zero] at hst;obtain⟨m,rfl⟩:∃m,n=m+1:=⟨n-1,by omega⟩
 simp[Builtin.clear_,run_underlying ht,zeroValue,typeInfo,hi,hz,hst]
structure jn (S:Nat→Prop) (w w':World):Prop where
 os:w'.os=w.os
 tape:w'.tape=w.tape
 output:w'.output=w.output
 size:w.heap.size≤w'.heap.size
 block:∀k,k<w.heap.size→¬S k→w'.heap[k]?=w.heap[k]?
theorem jn.trans {S:Nat→Prop} {a b c:World} (h:jn S a b) (k:jn S b c):jn S a c :=
 ⟨k.os.trans h.os,k.tape.trans h.tape,k.output.trans h.output,Nat.le_trans h.size k.size,fun i hi hs=>(k.block i (Nat.lt_of_lt_of_le hi h.size) hs).trans (h.block i hi hs)⟩
theorem jn.mono {S S':Nat→Prop} {a b:World} (h:jn S a b) (hs:∀k,S k→S' k):jn S' a b:=⟨h.os,h.tape,h.output,h.size,fun i hi hn=>h.block i hi fun e=>hn (hs i e)⟩
theorem jn.of {S:Nat→Prop} {a b:World} (k:Kept a b):jn S a b:=⟨k.os,k.tape,k.output,k.size,fun i hi _=>k.block i hi⟩
theorem jn.below {S:Nat→Prop} {a b c:World} (k:Kept a b) (h:jn S b c) (hs:∀i,S i→a.heap.size≤i):Kept a c :=
 ⟨h.os.trans k.os,h.tape.trans k.tape,h.output.trans k.output,Nat.le_trans k.size h.size,fun i hi=>(h.block i (Nat.lt_of_lt_of_le hi k.size) fun e=>by have:=hs i e;omega).trans (k.block i hi)⟩
theorem jn.cell {S:Nat→Prop} {a:World} (g i:Nat) (u:Value) (hg:S g):jn S a (a.setCell ⟨g,i,none⟩ u) :=
 ⟨rfl,rfl,rfl,by simp[World.setCell],fun k _ hn=>Below.heap_setCell a ⟨g,i,none⟩ u k (fun e=>hn (by rw[show k=g from e];exact hg))⟩
theorem jn.cells {S:Nat→Prop} (g:Nat) (hg:S g):∀(vs:List Value) (o:Nat) (a:World),jn S a (a.setCells g o vs)
 | [],_,a=>jn.of (Kept.refl a)
 | v::r,o,a=>by rw[World.setCells];exact(jn.cell g o v hg).trans (jn.cells g hg r (o+1) _)
theorem jn.grown {S:Nat→Prop} {a b:World} {o:Option Nat} (h:a.grownBy b o) (hs:∀k,o=some k→S k):jn S a b :=
 ⟨h.os,h.tape,h.output,h.size,fun i hi hn=>h.block i hi fun e=>hn (hs i e.symm)⟩
theorem jn.drew {S:Nat→Prop} (a:World):jn S a a.drew:=jn.of (Kept.drew a)
theorem jn.at_below {S:Nat→Prop} {B:Nat} {a b:World} (h:jn S a b) (hb:∀i,S i→B≤i) (hB:B≤a.heap.size):Below B a b:=⟨h.os,h.tape,h.output,h.size,fun i hi=>h.block i (by omega) fun e=>by have:=hb i e;omega⟩
def Off (S:Nat→Prop) (w:World) (Φ:World→Prop):Prop:=∀w',jn S w w'→Φ w'
theorem Off.here {S:Nat→Prop} {w:World} {Φ:World→Prop} (h:Off S w Φ):Φ w:=h w (jn.of (Kept.refl w))
theorem Off.step {S:Nat→Prop} {w w':World} {Φ:World→Prop} (h:Off S w Φ) (g:jn S w w'):Off S w' Φ:=fun u k=>h u (g.trans k)
theorem Off.less {S S':Nat→Prop} {w:World} {Φ:World→Prop} (h:Off S w Φ) (hs:∀k,S' k→S k):Off S' w Φ:=fun u k=>h u (k.mono hs)
theorem Off.imp {S:Nat→Prop} {w:World} {Φ Ψ:World→Prop} (h:Off S w Φ) (f:∀u,Φ u→Ψ u):Off S w Ψ:=fun u k=>f u (h u k)
theorem Off.of {S:Nat→Prop} {a w:World} {Φ:World→Prop} (h:∀u,Kept a u→Φ u) (k:Kept a w) (hs:∀i,S i→a.heap.size≤i):Off S w Φ:=fun u g=>h u (g.below k hs)
theorem Off.new {S S':Nat→Prop} {w w':World} {Φ:World→Prop} (h:Off S w Φ) (g:jn S w w') (hs:∀k,S' k→S k∨w.heap.size≤k):Off S' w' Φ:=fun u k =>
 h u ⟨k.os.trans g.os,k.tape.trans g.tape,k.output.trans g.output,Nat.le_trans g.size k.size,fun i hi hn=>(k.block i (Nat.lt_of_lt_of_le hi g.size) fun e=>by rcases hs i e with e | e;exact hn e;omega).trans (g.block i hi hn)⟩
theorem Xa {S:Nat→Prop} {o:Option Addr} {B:Nat} (hb:jK B o) (hs:∀k,B≤k→¬S k):∀b off sp,o=some ⟨b,off,sp⟩→¬S b:=fun b off sp e=>hs b (hb b off sp e)
theorem jk.goff {α:Type} {L:Lay α} {S:Nat→Prop} {w w':World} {a:Option Addr} {len:Nat} {l:List α} (h:jk L w a len l) (g:jn S w w') (hn:∀b off sp,a=some ⟨b,off,sp⟩→¬S b):jk L w' a len l:=by
 obtain⟨h0,h1,h2,h3⟩:=h;refine⟨h0,h1,h2,h3.imp id ?_⟩;rintro ⟨b,off,ha,hb,hc⟩;exact⟨b,off,ha,Nat.lt_of_lt_of_le hb g.size,fun i x j u hi hj=>(World.cell?_of_block (w:=w) (g.block b hb (hn b off none ha))).trans (hc i x j u hi hj)⟩
theorem Reads.goff {α:Type} {L:Lay α} {S:Nat→Prop} {w w':World} {a:Option Addr} {m c:Nat} {l:List α} (h:Reads L w (.slice a m c) l) (g:jn S w w') (hn:∀b off sp,a=some ⟨b,off,sp⟩→¬S b):Reads L w' (.slice a m c) l:=by
 obtain⟨a',c',e,h1,h2,h3⟩:=h
 cases e
 exact⟨a,c,rfl,h1,h2,h3.goff g hn⟩
theorem Vec.jo.goff {S:Nat→Prop} {w w':World} {a:Option Addr} {len:Nat} {l:Vec.V} (h:Vec.jo w a len l) (g:jn S w w') (hn:∀b off sp,a=some ⟨b,off,sp⟩→¬S b):Vec.jo w' a len l:=by
 obtain⟨h0,h1,h2,h3⟩:=h;refine⟨h0,h1,h2,h3.imp id ?_⟩;rintro ⟨b,off,ha,hb,hc⟩;refine⟨b,off,ha,Nat.lt_of_lt_of_le hb g.size,fun i hi=>?_⟩;have e:∀j,w'.cell? ⟨b,j,none⟩=w.cell? ⟨b,j,none⟩:=fun j=>World.cell?_of_block (a:=⟨b,j,none⟩) (g.block b hb (hn b off none ha));rw[e,e];exact hc i hi
theorem Vec.Reads.goff {S:Nat→Prop} {w w':World} {a:Option Addr} {m c:Nat} {l:Vec.V} (h:Vec.Reads w (.slice a m c) l) (g:jn S w w') (hn:∀b off sp,a=some ⟨b,off,sp⟩→¬S b):Vec.Reads w' (.slice a m c) l:=by
 obtain⟨a',c',e,h1,h2,h3⟩:=h
 cases e
 exact⟨a,c,rfl,h1,h2,Vec.jo.goff h3 g hn⟩
theorem jB.off {S:Nat→Prop} {B:Nat} {w:World} {n:Pd} {b1 b2 b3 b4:Option Addr} {n1 d1 n2 d2 n3 d3 n4 d4:Nat} (h:jB w (.slice b1 n1 d1) (.slice b2 n2 d2) (.slice b3 n3 d3) (.slice b4 n4 d4) n) (g1:jK B b1) (g2:jK B b2) (g3:jK B b3) (g4:jK B b4) (hs:∀k,B≤k→¬S k) :
 Off S w fun u=>jB u (.slice b1 n1 d1) (.slice b2 n2 d2) (.slice b3 n3 d3) (.slice b4 n4 d4) n:=fun u g =>
 ⟨h.name,h.owner,h.key,h.node,h.prio,h.most,h.need.goff g (Xa g1 hs),h.labels.goff g (Xa g2 hs),h.sel.goff g (Xa g3 hs),h.tols.goff g (Xa g4 hs)⟩
theorem zq.off {S:Nat→Prop} {B:Nat} {w:World} {n:Nod} {b1 b2 b3:Option Addr} {n1 d1 n2 d2 n3 d3:Nat} (h:zq w (.slice b1 n1 d1) (.slice b2 n2 d2) (.slice b3 n3 d3) n) (g1:jK B b1) (g2:jK B b2) (g3:jK B b3) (hs:∀k,B≤k→¬S k) :
 Off S w fun u=>zq u (.slice b1 n1 d1) (.slice b2 n2 d2) (.slice b3 n3 d3) n:=fun u g =>
 ⟨h.size,h.cap.goff g (Xa g1 hs),h.labels.goff g (Xa g2 hs),h.taints.goff g (Xa g3 hs)⟩
theorem zj.off {S:Nat→Prop} {B:Nat} {w:World} {n:Bd} {b1:Option Addr} {n1 d1:Nat} (h:zj w (.slice b1 n1 d1) n) (g1:jK B b1) (hs:∀k,B≤k→¬S k) :
 Off S w fun u=>zj u (.slice b1 n1 d1) n:=fun u g=>⟨h.name,h.floor,h.sel.goff g (Xa g1 hs)⟩
theorem Own.goff {α:Type} {L:Lay α} {e:TypeId} {S:Nat→Prop} {w w':World} {B:Nat} {v:Value} {l:List α} (h:Own L e w B v l) (g:jn S w w') (hn:∀k,v.ownBlock=some k→¬S k):Own L e w' B v l:=by
 obtain⟨⟨h0,h1⟩,hf⟩:=h;refine⟨⟨h0,h1.imp id ?_⟩,hf⟩;rintro ⟨q,cap,cur,rfl,hbg,hg,hr⟩;have hlt:q<w.heap.size:=by
  rcases Nat.lt_or_ge q w.heap.size with hlt | hge
  · exact hlt
  · rw[Array.getElem?_eq_none hge] at hg;cases hg
 exact⟨q,cap,cur,rfl,hbg,(g.block q hlt (hn q rfl)).trans hg,hr⟩
structure Deep {X:Type} (L:Lay X) (T:TypeId) (At:World→X→Prop) (w:World) (B:Nat) (v:Value) (lx:List X):Prop where
 own:Own L T w B v lx
 off:∀z ∈ lx,Off (fun b=>v.ownBlock=some b) w fun u=>At u z
theorem Deep.kept {X:Type} {L:Lay X} {T:TypeId} {At:World→X→Prop} {w w':World} {B:Nat} {v:Value} {lx:List X} (h:Deep L T At w B v lx) (k:Kept w w'):Deep L T At w' B v lx:=⟨h.own.kept k,fun z hz=>(h.off z hz).step (jn.of k)⟩
theorem Deep.less {X:Type} {L:Lay X} {T:TypeId} {At:World→X→Prop} {w:World} {B B':Nat} {v:Value} {lx:List X} (h:Deep L T At w B v lx) (hb:B'≤B):Deep L T At w B' v lx:=⟨h.own.base_le hb,h.off⟩
theorem Deep.goff {X:Type} {L:Lay X} {T:TypeId} {At:World→X→Prop} {w w':World} {B q:Nat} {v:Value} {lx:List X} (h:Deep L T At w B v lx) (g:jn (fun b=>b=q) w w') (hq:q<B) (ha:∀z ∈ lx,Off (fun b=>v.ownBlock=some b∨b=q) w fun u=>At u z):Deep L T At w' B v lx :=
 ⟨h.own.goff g (fun k hk e=>by
  have hl:B≤k:=by
   rcases h.own.1.2 with ⟨rfl,_⟩ | ⟨q2,cap,cur,rfl,hb,_⟩
   · cases hk
   · cases hk;exact hb
  omega),fun z hz=>((ha z hz).step (g.mono fun k e=>.inr e)).less fun k e=>.inl e⟩
theorem ZS {X:Type} {L:Lay X} {T:TypeId} {w:World} {B:Nat} {v:Value} {lx:List X} (h:Own L T w B v lx):∀g,v.ownBlock=some g→B≤g∧g<w.heap.size:=h.1.lt
theorem Own.cell_at {X:Type} {L:Lay X} {T:TypeId} {w:World} {B g n cap:Nat} {lx:List X} (h:Own L T w B (.slice (some ⟨g,0,none⟩) n cap) lx) {k:Nat} {z:X} (hz:lx[k]?=some z) {j:Nat} {u:Value} (hu:(L.cs z)[j]?=some u):w.cell? ⟨g,k*L.m+j,none⟩=some u:=by
 obtain⟨a,c,e,_,_,h3⟩:=h.at_
 cases e
 have hk:k<lx.length:=(List.getElem?_eq_some_iff.1 hz).1;obtain⟨x,hx,_,_,_,hc⟩:=h3.cells hk;obtain rfl:x=z:=by rw[hz] at hx;exact(Option.some.inj hx).symm
 have:=hc j u hu;rwa [Nat.zero_add] at this
theorem Own.frozen_at {X:Type} {L:Lay X} {T:TypeId} {w:World} {B g n cap:Nat} {lx:List X} (h:Own L T w B (.slice (some ⟨g,0,none⟩) n cap) lx) (j:Nat):w.frozen? ⟨g,j,none⟩=false:=by
 obtain⟨a,c,e,_⟩:=h.at_
 cases e
 exact h.1.frozenAt j
theorem Xu {X:Type} (L:Lay X):∀(lx:List X) (k:Nat) (z:X),k<lx.length→(jf L lx).take (k*L.m)++L.cs z++(jf L lx).drop (k*L.m+L.m)=jf L (lx.set k z)
 | [],_,_,h=>by simp at h
 | x::t,0,z,_=>by
  rw[Nat.zero_mul,List.take_zero,List.nil_append,Nat.zero_add,List.set_cons_zero];unfold jf;rw[List.flatMap_cons,List.flatMap_cons,List.drop_append_of_le_length (by rw[L.len];exact Nat.le_refl _),List.drop_of_length_le (by rw[L.len];exact Nat.le_refl _),List.nil_append]
 | x::t,k+1,z,h=>by
  have ih:=Xu L t k z (by simpa using h);rw[List.set_cons_succ];unfold jf at ih ⊢;rw[List.flatMap_cons,List.flatMap_cons,←ih,Nat.add_mul,Nat.one_mul];have hx:(L.cs x).length=L.m:=L.len x;rw[show k*L.m+L.m=(L.cs x).length+k*L.m by rw[hx,Nat.add_comm],List.take_length_add_append,show (L.cs x).length+k*L.m+L.m=(L.cs x).length+(k*L.m+L.m) by omega,List.drop_length_add_append];simp only[List.append_assoc];rw[show (L.cs x).length+k*L.m=k*L.m+L.m by rw[hx,Nat.add_comm]]
theorem Own.Zp {X:Type} {L:Lay X} {T:TypeId} {w:World} {B g n cap:Nat} {lx:List X} (h:Own L T w B (.slice (some ⟨g,0,none⟩) n cap) lx) {k:Nat} (hk:k<lx.length) (z:X) (hf:L.fine z):Own L T (w.setCells g (k*L.m) (L.cs z)) B (.slice (some ⟨g,0,none⟩) n cap) (lx.set k z):=by
 obtain⟨a,c,e,_⟩:=h.at_
 cases e
 have hm:k*L.m+L.m≤lx.length*L.m:=by rw[←Nat.succ_mul];exact Nat.mul_le_mul_right _ hk
 have:=jeT h.1 (o:=k*L.m) (vs:=L.cs z) (by rw[L.len];exact hm);rw[L.len,Xu L lx k z hk] at this;refine⟨by rw[List.length_set];exact this,fun x hx=>?_⟩;rcases List.mem_or_eq_of_mem_set hx with hx | hx
 · exact h.2 x hx
 · subst hx;exact hf
def JM (o:Option ByteArray) (w:World) (e:Ending) (w':World):Prop:=(∀d,o=some d→e=.returned (.string d))∧(o=none→e=.panicked [zk 3])∧Kept w w'
theorem JM.bad {o:Option ByteArray} {w w':World} (h:o=none) (k:Kept w w'):JM o w (.panicked [zk 3]) w':=⟨(fun d e=>by rw[h] at e;cases e),(fun _=>rfl),k⟩
theorem JM.good {o:Option ByteArray} {d:ByteArray} {w w':World} (h:o=some d) (k:Kept w w'):JM o w (.returned (.string d)) w':=⟨(fun c e=>by rw[h] at e;cases e;rfl),(fun e=>by rw[h] at e;cases e),k⟩
theorem jeJ (a:Option Addr) (m c:Nat) (l:PL) (key:ByteArray) (w:World) (h:Reads jx w (.slice a m c) l):Calls Tryz.prog 198 #[.slice a m c,.string key] w (JM (zB l key) w):=by
 obtain⟨go,hgo⟩:∃z,zB l key=z:=⟨_,rfl⟩
 rw[hgo];have HG:=lH (jfG h (x:=go.getD ByteArray.empty) (b:=go.isSome) (by unfold Yl;rw[hgo]) (by unfold Zf;rw[hgo]));clear h hgo;go_enter Tryz.func198,Tryz.ntmps198;go_wp2_with fail
 refine HG.out.mono ?_;rintro e w1 ⟨rfl,kk⟩;have K:=lH kk;clear kk
 cases go with
 | none =>
  go_wp2;exact⟨rfl,JM.bad rfl K.out⟩
 | some d =>
  go_wp2;go_ret;exact JM.good rfl K.out
theorem jfA {key name:ByteArray} {n:Nod} {l:List Nod} (h:eqS n.name name=true):domV key name (n::l)=zB n.labels key:=by rw[domV,if_pos h]
theorem jeC {key name:ByteArray} {n:Nod} {l:List Nod} (h:eqS n.name name=false):domV key name (n::l)=domV key name l:=by rw[domV,if_neg (by rw[h];decide)]
theorem jbh (s1 s2 s3:Option Addr) (n1 e1 n2 e2 n3 e3:Nat) (nodes:List Nod) (key name:ByteArray) (w:World) (hn:js w s1 n1 nodes) (hb1:n1≤100000) :
 Calls Tryz.prog 189 #[.agg #[.slice s1 n1 e1,.slice s2 n2 e2,.slice s3 n3 e3],.string key,.string name] w (JM (domV key name nodes) w):=by
 obtain⟨Z,hZ⟩:∃Z,w.alloc (.cells #[.slice s1 n1 e1,.slice s2 n2 e2,.slice s3 n3 e3] 26)=Z:=⟨_,rfl⟩
 have hkz:Kept w Z:=by rw[←hZ];exact ja _ _
 have HSB:=lH (jc w (.slice s1 n1 e1) [.slice s2 n2 e2,.slice s3 n3 e3] 26 Z (by rw[hZ];exact Kept.refl _));have HN:=lH hn;have HNL:=lH hn.1;have HKZ:=lH hkz;clear hn hkz;go_enter Tryz.func189,Tryz.ntmps189;have y0:=HSB.out.at_ 0 _ rfl;go_upto_region 1 with fail
 try rw[hZ]
 clear hZ;go_wp2;clear y0;go_loopw [12] (fun i wr=>∃k:Nat,k≤n1∧i=.int .i64 k∧domV key name (nodes.drop k)=domV key name nodes∧Kept Z wr) (fun i _=>n1-(intOf i).toNat)
 case atStart=>exact⟨0,Nat.zero_le _,rfl,rfl,Kept.refl _⟩
 case round =>
  obtain⟨k,hk,rfl,hR,hK⟩:=hrel;have HR:=lH hR;have HK:=lH (HKZ.out.trans hK);have HKR:=lH hK;by_cases hlt:k<n1
  · obtain⟨g,off,rfl⟩:=HN.out.form.resolve_left (by omega);obtain⟨n,b1,k1,d1,b2,k2,d2,b3,k3,d3,hn,hd,hb,u0,u1,u2,u3,u4,hat⟩:=(HN.out.kept HK.out).at_ hlt;have HAT:=lH hat;have HD:=lH hd;have hkk:(k:Int)<(n1:Int):=by omega
    have hk0:¬(k:Int)<0:=by omega
    obtain⟨wx,hwx⟩:∃W,wr.alloc (.cells #[.string n.name,.slice b1 k1 d1,.slice b2 k2 d2,.slice b3 k3 d3,.bool n.cordon] 65)=W:=⟨_,rfl⟩
    have hkx:Kept wr wx:=by rw[←hwx];exact ja _ _
    have HQB:=lH (jc wr (.string n.name) [.slice b1 k1 d1,.slice b2 k2 d2,.slice b3 k3 d3,.bool n.cordon] 65 wx (by rw[hwx];exact Kept.refl _));obtain⟨bq,hbq⟩:∃z,wr.heap.size=z:=⟨_,rfl⟩
    rw[hbq] at HQB;have KX:=lH hkx;go_upto_region 4 with fail
    try rw[hwx]
    try rw[hbq]
    clear hwx hbq hd hb hn hR hK hkx hk0 hkk hat u0 u1 u2 u3 u4;have t0:=HQB.out.at_ 0 _ rfl;have t2:=HQB.out.at_ 2 _ rfl;obtain⟨t,ht⟩:∃t,(n.name.toList==name.toList)=t:=⟨_,rfl⟩
    have HT:=lH (show eqS n.name name=t from ht)
    cases t with
    | false =>
     have HX:=lH (show domV key name (nodes.drop (k+1))=domV key name nodes by rw[←HR.out,HD.out,jeC HT.out]);go_wp2;go_roundw
     case rel=>exact⟨k+1,by omega,by go_num,HX.out,HKR.out.trans KX.out⟩
     case measure=>simp[intOf];omega
    | true =>
     have HX:=lH (show zB n.labels key=domV key name nodes by rw[←HR.out,HD.out,jfA HT.out]);go_wp2_with fail
     refine(jeJ b2 k2 d2 n.labels key wx (HAT.out.labels.kept KX.out)).mono ?_;rintro e w3 ⟨h1,h2,kk⟩;have K3:=lH (HK.out.trans (KX.out.trans kk));clear kk;rw[HX.out] at h1 h2
     cases ho:domV key name nodes with
     | none =>
      obtain rfl:=h2 ho;have HO:=lH ho;clear h1 h2 ho;go_wp2;exact⟨rfl,JM.bad HO.out K3.out⟩
     | some d =>
      obtain rfl:=h1 d ho;have HO:=lH ho;clear h1 h2 ho;go_wp2;go_ret;exact JM.good HO.out K3.out
  · have hge:¬(k:Int)<(n1:Int):=by omega
    have HO:=lH (show domV key name nodes=none by rw[←HR.out,List.drop_of_length_le (by rw[HNL.out];omega)];rfl);clear hR hK;go_wp2;exact⟨rfl,JM.bad HO.out HK.out⟩
theorem jc6 (p q:Pd) (a1 a2 a3 a4 b1 b2 b3 b4:Option Addr) (m1 c1 m2 c2 m3 c3 m4 c4 k1 d1 k2 d2 k3 d3 k4 d4:Nat) (w:World):Calls Tryz.prog 199 #[jG p (.slice a1 m1 c1) (.slice a2 m2 c2) (.slice a3 m3 c3) (.slice a4 m4 c4),jG q (.slice b1 k1 d1) (.slice b2 k2 d2) (.slice b3 k3 d3) (.slice b4 k4 d4)] w (Say (.bool (ZH p q)) w):=by
 obtain⟨Z,hZ⟩:∃Z,(w.alloc (.cells #[.string p.name,.string p.owner,.int .i64 p.prio,.slice a1 m1 c1,.slice a2 m2 c2,.slice a3 m3 c3,.slice a4 m4 c4,.string p.key,.int .i64 p.most,.string p.node,.bool p.hold] 35)).alloc (.cells #[.string q.name,.string q.owner,.int .i64 q.prio,.slice b1 k1 d1,.slice b2 k2 d2,.slice b3 k3 d3,.slice b4 k4 d4,.string q.key,.int .i64 q.most,.string q.node,.bool q.hold] 35)=Z:=⟨_,rfl⟩
 have hkz:Kept w Z:=by rw[←hZ];exact jr _ _ _
 have hp:=jc w (.string p.name) [.string p.owner,.int .i64 p.prio,.slice a1 m1 c1,.slice a2 m2 c2,.slice a3 m3 c3,.slice a4 m4 c4,.string p.key,.int .i64 p.most,.string p.node,.bool p.hold] 35 Z (by rw[←hZ];exact ja _ _);have hq:je (w.heap.size+1) [.string q.name,.string q.owner,.int .i64 q.prio,.slice b1 k1 d1,.slice b2 k2 d2,.slice b3 k3 d3,.slice b4 k4 d4,.string q.key,.int .i64 q.most,.string q.node,.bool q.hold] Z:=by
  have dd:=jc (w.alloc (.cells #[.string p.name,.string p.owner,.int .i64 p.prio,.slice a1 m1 c1,.slice a2 m2 c2,.slice a3 m3 c3,.slice a4 m4 c4,.string p.key,.int .i64 p.most,.string p.node,.bool p.hold] 35)) (.string q.name) [.string q.owner,.int .i64 q.prio,.slice b1 k1 d1,.slice b2 k2 d2,.slice b3 k3 d3,.slice b4 k4 d4,.string q.key,.int .i64 q.most,.string q.node,.bool q.hold] 35 Z (by rw[hZ];exact Kept.refl _);rw[World.size_alloc] at dd;exact dd
 have p0:=hp.at_ 0 _ rfl;have p1:=hp.at_ 1 _ rfl;have q0:=hq.at_ 0 _ rfl;have q1:=hq.at_ 1 _ rfl;have q10:=hq.at_ 10 _ rfl;have HK:=lH hkz;obtain⟨t0,h0⟩:∃t,(p.owner.toList==([]:List UInt8))=t:=⟨_,rfl⟩
 obtain⟨t1,h1⟩:∃t,(q.owner.toList==p.owner.toList)=t:=⟨_,rfl⟩
 obtain⟨t2,h2⟩:∃t,(q.name.toList==p.name.toList)=t:=⟨_,rfl⟩
 obtain⟨t3,h3⟩:∃t,q.hold=t:=⟨_,rfl⟩
 have HV:=lH (show ZH p q=(!t0&&(t1&&(!t3&&!t2))) by unfold ZH eqS;rw[J6,h0,h1,h2,h3]);rw[h3] at q10;rw[h3] at hZ;clear hp hq hkz;unfold jG;rw[h3];clear h3;go_enter Tryz.func199,Tryz.ntmps199
 cases t0 with
 | true =>
  go_wp2;try rw[hZ]
  go_ret;exact⟨jd (by rw[HV.out];rfl),by first | exact HK.out | (rw[hZ];exact HK.out)⟩
 | false =>
  cases t1 with
  | false =>
   go_wp2;try rw[hZ]
   go_ret;exact⟨jd (by rw[HV.out];rfl),by first | exact HK.out | (rw[hZ];exact HK.out)⟩
  | true =>
   cases t3 with
   | true =>
    go_wp2;try rw[hZ]
    go_ret;exact⟨jd (by rw[HV.out];rfl),by first | exact HK.out | (rw[hZ];exact HK.out)⟩
   | false =>
    cases t2 with
    | true =>
     go_wp2;try rw[hZ]
     go_ret;exact⟨jd (by rw[HV.out];rfl),by first | exact HK.out | (rw[hZ];exact HK.out)⟩
    | false =>
     go_wp2;try rw[hZ]
     go_ret;exact⟨jd (by rw[HV.out];rfl),by first | exact HK.out | (rw[hZ];exact HK.out)⟩
open Go.RowKit Go.Maps Go.WideShapes Go.WideMaps
theorem Xl:Keyed Tryz.prog 9:=string_keyed Tryz.underlying9
theorem jfX (w:World):(zeroValue 3).run Tryz.prog w=.ok (.int .i64 0) w:=by kernel_rfl
abbrev mk9 (x:ByteArray):Lit:=.string x.data.toList
theorem jcx {x y:ByteArray} (h:mk9 x=mk9 y):x=y:=by
 injection h with h
 cases x;cases y
 simp only at h;congr 1
 exact Array.toList_inj.1 h
structure jg8 (w:World) (b n:Nat) (D:DataW Unit) (f:ByteArray→Int) (dom:ByteArray→Bool):Prop where
 own:w.ownsMap Tryz.prog 9 (plainElem Tryz.prog 3) b n D
 at_:∀x,D.atKey (mk9 x) (.lit (.int .i64 0))=.lit (.int .i64 (f x))
 has:∀x,Maps.has D (mk9 x)=dom x
 map:IsMap D
def zb (w:World) (b n:Nat) (f:ByteArray→Int) (dom:ByteArray→Bool):Prop:=∃D:DataW Unit,jg8 w b n D f dom
theorem zb.made (w:World):zb (w.alloc (.map #[] 0)) w.heap.size 0 (fun _=>0) (fun _=>false) :=
 ⟨.map [],World.ownsMap_made w _ _ _,fun _=>rfl,fun _=>rfl,isMap_empty⟩
theorem zb.block {w w':World} {b n:Nat} {f:ByteArray→Int} {dom:ByteArray→Bool} (h:zb w b n f dom) (hb:w'.heap[b]?=w.heap[b]?):zb w' b n f dom:=by
 obtain⟨D,⟨es,clock,h1,h2⟩,h3,h4,h5⟩:=h;exact⟨D,⟨es,clock,hb.trans h1,h2⟩,h3,h4,h5⟩
theorem zb.lt {w:World} {b n:Nat} {f:ByteArray→Int} {dom:ByteArray→Bool} (h:zb w b n f dom):b<w.heap.size:=by
 obtain⟨D,h,-⟩:=h;exact h.lt
theorem zb.kept {w w':World} {b n:Nat} {f:ByteArray→Int} {dom:ByteArray→Bool} (h:zb w b n f dom) (k:Kept w w'):zb w' b n f dom:=h.block (k.block b h.lt)
theorem zb.eq {w:World} {b n:Nat} {f g:ByteArray→Int} {dom dem:ByteArray→Bool} (h:zb w b n f dom) (hf:∀x,f x=g x) (hd:∀x,dom x=dem x):zb w b n g dem:=by
 obtain⟨D,h1,h2,h3,h4⟩:=h;exact⟨D,h1,fun x=>by rw[h2,hf],fun x=>by rw[h3,hd],h4⟩
theorem zb.look {w:World} {b n:Nat} {f:ByteArray→Int} {dom:ByteArray→Bool} (h:zb w b n f dom) (x:ByteArray) (hx:x.size≤maxLen):(Instr.lookup 251 (.map (some b)) (.string x) false).run Tryz.prog w=.ok (.int .i64 (f x)) w:=by
 obtain⟨D,h1,h2,h3,h4⟩:=h;obtain⟨c,hrun,hat,-⟩:=h1.lookup_int (t:=251) Xl Tryz.underlying251 Tryz.underlying3 (jfX _) (keyOf_string_mk Tryz.underlying9 hx);rw[hrun];have:=(h2 x).symm.trans hat;injection this with this;injection this with _ this;rw[this]
theorem zb.put {w:World} {b n:Nat} {f:ByteArray→Int} {dom:ByteArray→Bool} (h:zb w b n f dom) (hn:n<maxLen) (x:ByteArray) (hx:x.size≤maxLen) (c:Int) (hc:-9223372036854775808≤c∧c≤9223372036854775807) :
 ∃w',(Instr.mapUpdate 251 (.map (some b)) (.string x) (.int .i64 c)).run Tryz.prog w=.ok () w'∧zb w' b (n+1) (fun y=>if y=x then c else f y) (fun y=>if y=x then true else dom y)∧jn (fun i=>i=b) w w':=by
 obtain⟨D,h1,h2,h3,h4⟩:=h;obtain⟨w',hrun,ho,hg⟩:=h1.update (t:=251) Xl Tryz.underlying251 hn (keyOf_string_mk Tryz.underlying9 hx) (plainElem_int (H:=Unit) Tryz.underlying3 (WalkArith.wf_i64 hc));refine⟨w',hrun,⟨_,ho,fun y=>?_,fun y=>?_,h4.put _ _⟩,jn.grown hg fun k e=>by cases e;rfl⟩
 · by_cases e:y=x
   · subst e;rw[if_pos rfl,atKey_put_same h4 (show WideAt.IsKeyLit (.string _) from trivial)]
   · rw[if_neg e,atKey_put_other (fun g=>e (jcx g)),h2]
 · by_cases e:y=x
   · subst e;rw[if_pos rfl,has_put_same h4 (show WideAt.IsKeyLit (.string _) from trivial)]
   · rw[if_neg e,has_put_other (fun g=>e (jcx g)),h3]
theorem zb.mono1 {w:World} {b n n':Nat} {f:ByteArray→Int} {dom:ByteArray→Bool} (h:zb w b n f dom) (hn:n≤n'):zb w b n' f dom:=by
 obtain⟨D,h1,h2,h3,h4⟩:=h;exact⟨D,h1.mono hn,h2,h3,h4⟩
theorem jeo (s1 s2 s3 a1 a2 a3 a4:Option Addr) (n1 e1 n2 e2 n3 e3 m1 c1 m2 c2 m3 c3 m4 c4:Nat) (p:Pd) (nodes:List Nod) (pods:List Pd) (w:World) (hn:js w s1 n1 nodes) (hp:jC w s2 n2 pods) (hb1:n1≤100000) (hb2:n2≤100000) :
 Calls Tryz.prog 190 #[.agg #[.slice s1 n1 e1,.slice s2 n2 e2,.slice s3 n3 e3],jG p (.slice a1 m1 c1) (.slice a2 m2 c2) (.slice a3 m3 c3) (.slice a4 m4 c4)] w fun e w'=>∃b n,e=.returned (.map (some b))∧zb w' b n (fun d=>(inD p pods d nodes:Int)) (fun d=>JI p.key d nodes)∧w.heap.size≤b∧n≤100000∧Kept w w':=by
 obtain⟨Z,hZ⟩:∃Z,(w.alloc (.cells #[.slice s1 n1 e1,.slice s2 n2 e2,.slice s3 n3 e3] 26)).alloc (.cells #[.string p.name,.string p.owner,.int .i64 p.prio,.slice a1 m1 c1,.slice a2 m2 c2,.slice a3 m3 c3,.slice a4 m4 c4,.string p.key,.int .i64 p.most,.string p.node,.bool p.hold] 35)=Z:=⟨_,rfl⟩
 have hkz:Kept w Z:=by rw[←hZ];exact jr _ _ _
 have hzs:Z.heap.size=w.heap.size+2:=by rw[←hZ];simp
 have HSB:=lH (jc w (.slice s1 n1 e1) [.slice s2 n2 e2,.slice s3 n3 e3] 26 Z (by rw[←hZ];exact ja _ _));have HPB:=lH (show je (w.heap.size+1) [.string p.name,.string p.owner,.int .i64 p.prio,.slice a1 m1 c1,.slice a2 m2 c2,.slice a3 m3 c3,.slice a4 m4 c4,.string p.key,.int .i64 p.most,.string p.node,.bool p.hold] Z by
  have dd:=jc (w.alloc (.cells #[.slice s1 n1 e1,.slice s2 n2 e2,.slice s3 n3 e3] 26)) (.string p.name) [.string p.owner,.int .i64 p.prio,.slice a1 m1 c1,.slice a2 m2 c2,.slice a3 m3 c3,.slice a4 m4 c4,.string p.key,.int .i64 p.most,.string p.node,.bool p.hold] 35 Z (by rw[hZ];exact Kept.refl _);rw[World.size_alloc] at dd;exact dd)
 obtain⟨Y,hY⟩:∃Y,Z.alloc (.map #[] 0)=Y:=⟨_,rfl⟩
 have hky:Kept Z Y:=by rw[←hY];exact ja _ _
 have HM0:=lH (show zb Y Z.heap.size 0 (fun _=>0) (fun _=>false) by rw[←hY];exact zb.made Z);have HYS:=lH (show Y.heap.size=Z.heap.size+1 by rw[←hY,World.size_alloc]);have HSB:=lH (HSB.out.kept hky);have HPB:=lH (HPB.out.kept hky);have HKY:=lH (hkz.trans hky);obtain⟨mb,hmb⟩:∃q,Z.heap.size=q:=⟨_,rfl⟩
 rw[hmb] at HM0 HYS;have HMB:=lH (show w.heap.size+2≤mb by omega);have HZS:=lH hzs;have HN:=lH hn;have HP:=lH hp;have HNL:=lH hn.1;have HPL:=lH hp.1;clear hn hp hkz hky hzs;have hmm:=@run_makeMap Tryz.prog;unfold jG;go_enter Tryz.func190,Tryz.ntmps190;have y0:=HSB.out.at_ 0 _ rfl;have y1:=HSB.out.at_ 1 _ rfl;have z0:=(show je w.heap.size _ Z from jc w (.slice s1 n1 e1) [.slice s2 n2 e2,.slice s3 n3 e3] 26 Z (by rw[←hZ];exact ja _ _)).at_ 1 _ rfl;go_upto_region 2 with fail
 try rw[hZ]
 try rw[hY]
 try rw[hmb]
 clear hZ hY hmb hmm z0;go_wp2;clear y0 y1;skip;go_loopw [17] (fun i wr=>∃k:Nat,k≤n2∧i=.int .i64 k∧(∃dom,zb wr mb k (fun x=>(onN p x (pods.take k):Int)) dom)∧jn (fun i=>i=mb) Y wr) (fun i _=>n2-(intOf i).toNat)
 case atStart=>exact⟨0,Nat.zero_le _,rfl,⟨_,HM0.out.eq (fun _=>rfl) (fun _=>rfl)⟩,jn.of (Kept.refl _)⟩
 case round =>
  obtain⟨k,hk,rfl,⟨dom,hM⟩,hG⟩:=hrel;have HM:=lH hM;have HG:=lH hG;have KW:=lH (show Kept w wr from jn.below HKY.out hG fun i e=>by have:=HMB.out;omega);by_cases hlt:k<n2
  · obtain⟨g,off,rfl⟩:=HP.out.form.resolve_left (by omega);obtain⟨q,b1,k1,d1,b2,k2,d2,b3,k3,d3,b4,k4,d4,hn,hd,hb,u0,u1,u2,u3,u4,u5,u6,u7,u8,u9,u10,hat⟩:=(HP.out.kept KW.out).at_ hlt;have HTK:=lH (show pods.take (k+1)=pods.take k++[q] by rw[List.take_add_one,hn];rfl);have HND:=lH hat.node;have hkk:(k:Int)<(n2:Int):=by omega
    have hk0:¬(k:Int)<0:=by omega
    obtain⟨wx,hwx⟩:∃W,wr.alloc (.cells #[.string q.name,.string q.owner,.int .i64 q.prio,.slice b1 k1 d1,.slice b2 k2 d2,.slice b3 k3 d3,.slice b4 k4 d4,.string q.key,.int .i64 q.most,.string q.node,.bool q.hold] 35)=W:=⟨_,rfl⟩
    have hkx:Kept wr wx:=by rw[←hwx];exact ja _ _
    have HQB:=lH (jc wr (.string q.name) [.string q.owner,.int .i64 q.prio,.slice b1 k1 d1,.slice b2 k2 d2,.slice b3 k3 d3,.slice b4 k4 d4,.string q.key,.int .i64 q.most,.string q.node,.bool q.hold] 35 wx (by rw[hwx];exact Kept.refl _));obtain⟨bq,hbq⟩:∃z,wr.heap.size=z:=⟨_,rfl⟩
    rw[hbq] at HQB;have HBQ:=lH (show mb<bq by rw[←hbq];have:=HYS.out;have:=hG.size;omega);have HPB1:=lH ((HPB.out.block (hG.block _ (by have:=HPB.out.lt;exact this) (by have:=HMB.out;omega))).kept hkx);have HMX:=lH (hM.kept hkx);have KX:=lH hkx;go_upto_region 5 with fail
    try rw[hwx]
    try rw[hbq]
    clear hwx hbq hd hb hat hM hG hkx hk0 hkk u0 u1 u2 u3 u4 u5 u6 u7 u8 u9 u10;have r0:=HPB1.out.at_ 0 _ rfl;have r1:=HPB1.out.at_ 1 _ rfl;have r2:=HPB1.out.at_ 2 _ rfl;have r3:=HPB1.out.at_ 3 _ rfl;have r4:=HPB1.out.at_ 4 _ rfl;have r5:=HPB1.out.at_ 5 _ rfl;have r6:=HPB1.out.at_ 6 _ rfl;have r7:=HPB1.out.at_ 7 _ rfl;have r8:=HPB1.out.at_ 8 _ rfl;have r9:=HPB1.out.at_ 9 _ rfl;have r10:=HPB1.out.at_ 10 _ rfl;have t0:=HQB.out.at_ 0 _ rfl;have t1:=HQB.out.at_ 1 _ rfl;have t2:=HQB.out.at_ 2 _ rfl;have t3:=HQB.out.at_ 3 _ rfl;have t4:=HQB.out.at_ 4 _ rfl;have t5:=HQB.out.at_ 5 _ rfl;have t6:=HQB.out.at_ 6 _ rfl;have t7:=HQB.out.at_ 7 _ rfl;have t8:=HQB.out.at_ 8 _ rfl;have t9:=HQB.out.at_ 9 _ rfl;have t10:=HQB.out.at_ 10 _ rfl;go_wp2_with fail
    refine(jc6 p q a1 a2 a3 a4 b1 b2 b3 b4 m1 c1 m2 c2 m3 c3 m4 c4 k1 d1 k2 d2 k3 d3 k4 d4 wx).mono ?_;rintro e w3 ⟨rfl,kk⟩;clear r0 t0 r1 t1 r2 t2 r3 t3 r4 t4 r5 t5 r6 t6 r7 t7 r8 t8 r9 t9 r10 t10;have HK3:=lH kk;have HM3:=lH (HMX.out.kept kk);have t9:=(HQB.out.kept kk).at_ 9 _ rfl;clear kk;obtain⟨bb,hbb⟩:∃z,ZH p q=z:=⟨_,rfl⟩
    have HBB:=lH hbb;rw[hbb];clear hbb
    cases bb with
    | false =>
     go_wp2;go_roundw
     case rel =>
      refine⟨k+1,by omega,by go_num,⟨dom,(HM3.out.mono1 (Nat.le_succ k)).eq (fun x=>?_) (fun _=>rfl)⟩,(HG.out.trans (jn.of KX.out)).trans (jn.of HK3.out)⟩;rw[HTK.out,qH];show ((onN p x (pods.take k):Nat):Int)=((onN p x (pods.take k)+((if ZH p q=true∧q.node=x then 1 else 0)+0):Nat):Int);rw[if_neg (by rw[HBB.out];simp)];rfl
     case measure=>simp[intOf];omega
    | true =>
     have hsz:onN p q.node (pods.take k)≤k:=Nat.le_trans (qi _ _ _) (by rw[List.length_take];omega);have hlook:=HM3.out.look q.node HND.out;obtain⟨v,hv⟩:∃v,onN p q.node (pods.take k)=v:=⟨_,rfl⟩
     have HV:=lH hv;rw[hv] at hlook hsz;obtain⟨v1,hv1⟩:∃z:Nat,v+1=z:=⟨_,rfl⟩
     have hv2:(v:Int)+1=(v1:Int):=by omega
     have hv3:IntKind.i64.wrap (v1:Int)=(v1:Int):=IntWalk.i64_in _ (by omega);obtain⟨w4,hput,hM4,hG4⟩:=HM3.out.put (by unfold maxLen;omega) q.node HND.out (v1:Int) (by omega);have HM4:=lH hM4;have HG4:=lH hG4;have HV1:=lH hv1;clear hM4 hG4 hv hv1;go_wp2;go_roundw
     case rel =>
      refine⟨k+1,by omega,by go_num,⟨_,HM4.out.eq (fun x=>?_) (fun _=>rfl)⟩,((HG.out.trans (jn.of KX.out)).trans (jn.of HK3.out)).trans HG4.out⟩;rw[HTK.out,qH];show _=((onN p x (pods.take k)+((if ZH p q=true∧q.node=x then 1 else 0)+0):Nat):Int);by_cases hx:x=q.node
      · rw[if_pos hx,if_pos ⟨HBB.out,hx.symm⟩,hx,HV.out,←HV1.out]
      · rw[if_neg hx,if_neg (fun g=>hx g.2.symm)];rfl
     case measure=>simp[intOf];omega
  · have hge:¬(k:Int)<(n2:Int):=by omega
    have hM:=HM.out;rw[List.take_of_length_le (by rw[HPL.out];omega)] at hM;have HM:=lH hM;have HSB:=lH (HSB.out.block (hG.block _ HSB.out.lt (by have:=HMB.out;omega)));have HPB:=lH (HPB.out.block (hG.block _ HPB.out.lt (by have:=HMB.out;omega)));obtain⟨X,hX⟩:∃X,wr.alloc (.map #[] 0)=X:=⟨_,rfl⟩
    have hkx:Kept wr X:=by rw[←hX];exact ja _ _
    have HM0:=lH (show zb X wr.heap.size 0 (fun _=>0) (fun _=>false) by rw[←hX];exact zb.made wr);have HXS:=lH (show X.heap.size=wr.heap.size+1 by rw[←hX,World.size_alloc]);obtain⟨mc,hmc⟩:∃q,wr.heap.size=q:=⟨_,rfl⟩
    rw[hmc] at HM0 HXS;have HMC:=lH (show mb<mc by rw[←hmc];have:=HYS.out;have:=hG.size;omega);have HM:=lH (HM.out.kept hkx);have HSB:=lH (HSB.out.kept hkx);have HPB:=lH (HPB.out.kept hkx);have KX:=lH (KW.out.trans hkx);clear hM hG hkx;have hmm:=@run_makeMap Tryz.prog;go_upto_region 9 with fail
    try rw[hX]
    try rw[hmc]
    clear hX hmc hmm;have y0:=HSB.out.at_ 0 _ rfl;go_wp2;clear y0;go_loopw [34] (fun i wr=>∃k:Nat,k≤n1∧i=.int .i64 k∧zb wr mc k (fun d=>(inD p pods d (nodes.take k):Int)) (fun d=>JI p.key d (nodes.take k))∧jn (fun i=>i=mc) X wr) (fun i _=>n1-(intOf i).toNat)
    case atStart=>exact⟨0,Nat.zero_le _,rfl,HM0.out.eq (fun _=>rfl) (fun _=>rfl),jn.of (Kept.refl _)⟩
    case round =>
     obtain⟨k,hk,rfl,hN,hG⟩:=hrel;have HC:=lH hN;have HG:=lH hG;have KW:=lH (show Kept w wr from jn.below KX.out hG fun i e=>by have:=HMB.out;have:=HMC.out;omega);by_cases hlt:k<n1
     · obtain⟨g,off,rfl⟩:=HN.out.form.resolve_left (by omega);obtain⟨n,b1,k1,d1,b2,k2,d2,b3,k3,d3,hn,hd,hb,u0,u1,u2,u3,u4,hat⟩:=(HN.out.kept KW.out).at_ hlt;have HTK:=lH (show nodes.take (k+1)=nodes.take k++[n] by rw[List.take_add_one,hn];rfl);have HAT:=lH hat;have hkk:(k:Int)<(n1:Int):=by omega
       have hk0:¬(k:Int)<0:=by omega
       obtain⟨wx,hwx⟩:∃W,wr.alloc (.cells #[.string n.name,.slice b1 k1 d1,.slice b2 k2 d2,.slice b3 k3 d3,.bool n.cordon] 65)=W:=⟨_,rfl⟩
       have hkx:Kept wr wx:=by rw[←hwx];exact ja _ _
       have HQB:=lH (jc wr (.string n.name) [.slice b1 k1 d1,.slice b2 k2 d2,.slice b3 k3 d3,.bool n.cordon] 65 wx (by rw[hwx];exact Kept.refl _));obtain⟨bq,hbq⟩:∃z,wr.heap.size=z:=⟨_,rfl⟩
       rw[hbq] at HQB;have HPB1:=lH ((HPB.out.block (hG.block _ HPB.out.lt (by have:=HMB.out;have:=HMC.out;omega))).kept hkx);have HC1:=lH (hN.kept hkx);have HM1:=lH ((HM.out.block (hG.block _ HM.out.lt (by have:=HMC.out;omega))).kept hkx);have KX1:=lH hkx;go_upto_region 12 with fail
       try rw[hwx]
       try rw[hbq]
       clear hwx hbq hd hb hat hN hG hkx hk0 hkk u0 u1 u2 u3 u4;have r7:=HPB1.out.at_ 7 _ rfl;have t2:=HQB.out.at_ 2 _ rfl;obtain⟨go,hgo⟩:∃z,zB n.labels p.key=z:=⟨_,rfl⟩
       have HGO:=lH hgo;go_wp2_with fail
       refine(jfG (HAT.out.labels.kept KX1.out) (x:=go.getD ByteArray.empty) (b:=go.isSome) (by unfold Yl;rw[hgo]) (by unfold Zf;rw[hgo])).mono ?_;rintro e w3 ⟨rfl,kk⟩;have HK3:=lH kk;have HC3:=lH (HC1.out.kept kk);have HM3:=lH (HM1.out.kept kk);have t0:=(HQB.out.kept kk).at_ 0 _ rfl;clear kk hgo r7 t2
       cases go with
       | none =>
        go_wp2;go_roundw
        case rel =>
         refine⟨k+1,by omega,by go_num,(HC3.out.mono1 (Nat.le_succ k)).eq (fun x=>?_) (fun x=>?_),(HG.out.trans (jn.of KX1.out)).trans (jn.of HK3.out)⟩
         · rw[HTK.out,qT];show ((inD p pods x (nodes.take k):Nat):Int)=((inD p pods x (nodes.take k)+((if zB n.labels p.key=some x then onN p n.name pods else 0)+0):Nat):Int);rw[if_neg (by rw[HGO.out];simp)];rfl
         · rw[HTK.out];unfold JI;rw[List.any_append,List.any_cons,HGO.out];simp
        case measure=>simp[intOf];omega
       | some d =>
        have hds:d.size≤maxLen:=jal HAT.out.labels.fine HGO.out;have hb1a:inD p pods d (nodes.take k)≤100000*100000:=Nat.le_trans (jbk _ _ _ _) (Nat.mul_le_mul (by rw[List.length_take];omega) (by rw[HPL.out];omega));have hb2a:onN p n.name pods≤100000:=Nat.le_trans (qi _ _ _) (by rw[HPL.out];omega);have hl1:=HC3.out.look d hds;have hl2:=HM3.out.look n.name HAT.out.size;obtain⟨x1,hx1⟩:∃v,inD p pods d (nodes.take k)=v:=⟨_,rfl⟩
        obtain⟨x2,hx2⟩:∃v,onN p n.name pods=v:=⟨_,rfl⟩
        have HX1:=lH hx1;have HX2:=lH hx2;rw[hx1] at hl1 hb1a;rw[hx2] at hl2 hb2a;obtain⟨x3,hx3⟩:∃z:Nat,x1+x2=z:=⟨_,rfl⟩
        have hx4:(x1:Int)+(x2:Int)=(x3:Int):=by omega
        have hx5:IntKind.i64.wrap (x3:Int)=(x3:Int):=IntWalk.i64_in _ (by omega);obtain⟨w4,hput,hM4,hG4⟩:=HC3.out.put (by unfold maxLen;omega) d hds (x3:Int) (by omega);have HM4:=lH hM4;have HG4:=lH hG4;have HX3:=lH hx3;clear hM4 hG4 hx1 hx2 hx3;go_wp2;go_roundw
        case rel =>
         refine⟨k+1,by omega,by go_num,HM4.out.eq (fun x=>?_) (fun x=>?_),((HG.out.trans (jn.of KX1.out)).trans (jn.of HK3.out)).trans HG4.out⟩
         · rw[HTK.out,qT];show _=((inD p pods x (nodes.take k)+((if zB n.labels p.key=some x then onN p n.name pods else 0)+0):Nat):Int);by_cases hx:x=d
           · subst hx;rw[if_pos rfl,if_pos HGO.out,HX2.out,HX1.out,←HX3.out];rfl
           · rw[if_neg hx,if_neg (fun g=>hx (by rw[HGO.out] at g;exact(Option.some.inj g).symm))];rfl
         · rw[HTK.out];unfold JI;rw[List.any_append,List.any_cons,HGO.out];by_cases hx:x=d
           · subst hx;simp
           · rw[if_neg hx];simp[show ¬d=x from fun e=>hx e.symm]
        case measure=>simp[intOf];omega
     · have hge:¬(k:Int)<(n1:Int):=by omega
       have hM:=HC.out;rw[List.take_of_length_le (by rw[HNL.out];omega)] at hM;have HC:=lH hM;clear hM hN hG;go_wp2;go_ret;exact⟨mc,rfl,k,HC.out,by have:=HMB.out;have:=HMC.out;omega,by omega,KW.out⟩
open Go.RowKit Go.Maps Go.Sort Go.Shelf Go.WideShapes
attribute [local go_sem] Oper.semAt_some
def VAt (D:DataW Unit) (p:List UInt8×Int):Prop:=∀zd,D.atKey (.string p.1) zd=.lit (.int .i64 p.2)
def je5 (D:DataW Unit) (ps:List (List UInt8×Int)):Prop:=(ps.map (·.1)).Perm (strKeys D)∧(∀x,x ∈ ps.map (·.1)↔has D (.string x)=true)∧∀p ∈ ps,VAt D p
def jfI (D:DataW Unit) (ps:List (List UInt8×Int)):Prop:=(ps.map (·.1)).Nodup∧(∀x ∈ ps.map (·.1),has D (.string x)=true)∧∀p ∈ ps,VAt D p
theorem jbK (F:Fence) (n:Nat) (h8:F.fn 201) (hro:F.round=none) (hn:1≤n) (l Bm b nn:Nat) (D0:DataW Unit) (J Jx:List Int→World→Prop)
 (hY:∀pre x W,J pre W→pre.length<Maps.size D0→YieldAt F (n-1) Tryz.prog l #[.int .i64 x] W fun e W' =>
   (e=.returned (.bool true)∧J (pre++[x]) W'∧KeepsWalks W W')∨(e=.returned (.bool false)∧Jx (pre++[x]) W'))
 (W:World) (hJ:AbidesFrom W.heap.size J) (hm:W.cell? ⟨Bm,0,none⟩=some (.map (some b))) (hown:W.ownsMap Tryz.prog 9 (plainElem Tryz.prog 3) b nn D0) (h0:J [] W) :
 CallsIn F n Tryz.prog 201 #[.func (.yield l) #[] #[],.pointer (some ⟨Bm,0,none⟩)] W fun e W'=>(∃v,e=.returned v) ∧
  ((∃xs,(∃ps,je5 D0 ps∧xs=ps.map (·.2))∧J xs W')∨(∃pre,(∃ps,jfI D0 ps∧pre=ps.map (·.2))∧Jx pre W')):=by
 refine callsIn_of_wp Tryz.func201 rfl h8 ?_ hro;simp only[Tryz.ntmps201,List.size_toArray,List.length_cons,List.length_nil,Nat.reduceAdd,Nat.reduceSub,Array.replicate_succ,Array.replicate_zero,List.push_toArray,List.append_toArray,List.nil_append,List.cons_append];gi_wp2_with (first
  | (gi_at_range;refine wpListIn_range_own _ rfl _ 251 rfl 9 3 Xl Tryz.underlying251 _ b nn _ rfl hown ?_;intro w0 hrg0 hg0 hs0)
  | gi_in)
 go_frame
 gi_loopw [4] (fun _ wr=>∃(left:Lit→Bool) (cnt:Nat) (ps:List (List UInt8×Int)),wr.ranges Tryz.prog 9 (plainElem Tryz.prog 3) b W.heap.size nn D0 left cnt∧ps.length+cnt≤Maps.size D0∧Collected D0 left (ps.map (·.1))∧(∀p ∈ ps,VAt D0 p)∧J (ps.map (·.2)) wr)
  (fun _ wr=>wr.rangeLeft b W.heap.size)
 case atStart =>
  exact⟨_,_,[],hrg0,by simp,Collected.start D0,by simp,hJ [] W w0 none h0 hg0 (fun r e=>by cases e)⟩
 case round =>
  obtain⟨left,cnt,ps,hrg,hcs,hC,hV,hJs⟩:=hrel;gi_wp2_with (first
   | (gi_at_next;refine wpListIn_next_ranges _ rfl _ rfl 9 Xl (plainElem Tryz.prog 3) encStr (Value.int .i64) (fun key kl hk=>by obtain⟨x,hx,_⟩:=Maps.keyOf_str Tryz.underlying9 hk;exact⟨x,hx⟩) (fun v y hv=>by obtain⟨c,rfl,_⟩:=plainElem_int_inv Tryz.underlying3 hv;exact⟨c,rfl⟩) b W.heap.size nn _ _ _ rfl hrg ?_ ?_)
   | gi_in)
  · intro hc0 hl0;gi_wp2
    go_end0
    exact⟨⟨_,rfl⟩,.inl ⟨_,⟨ps,⟨hC.perm hown Xl Tryz.underlying9 hl0,fun x=>by rw[hC.2 x,hl0];simp,hV⟩,rfl⟩,hJs⟩⟩
  · intro x c kl yd yp w2 cnt2 hkey hlk hv hat hrg2 hlt hg2 hs2 hen;obtain⟨x',ex,rfl,_⟩:=Maps.keyOf_str Tryz.underlying9 hkey;obtain rfl:x=x':=encStr_inj ex;obtain⟨c',ec,ez,_⟩:=plainElem_int_inv Tryz.underlying3 hv;obtain rfl:c=c':=by simpa using ec
    obtain rfl:yd=.lit (.int .i64 c):=(Prod.mk.inj ez).1;have hJ2:J (ps.map (·.2)) w2:=hJ _ wr w2 (some W.heap.size) hJs hg2 (fun r e=>by cases e;exact⟨Nat.le_refl _,hrg.iter_walk⟩);obtain⟨fn,tmps,assign,body,hy,hR⟩:=hY (ps.map (·.2)) c w2 hJ2 (by simp;omega);clear hs2;gi_wp2
    refine hR.mono ?_;have hC2:Collected D0 (fun z=>left z&&!z.sameKey (.string x)) ((ps++[(x,c)]).map (·.1)):=by simpa using hC.step hlk hat
    have hV2:∀p ∈ ps++[(x,c)],VAt D0 p:=fun p hp=>(List.mem_append.1 hp).elim (hV p) (fun e=>by simp at e;subst e;exact hat);rintro e W3 (⟨rfl,hJ3,hk3⟩ | ⟨rfl,hJx3⟩)
    · gi_wp2
      have hrg3:=hrg2.of_walks hk3;go_roundw
      case rel=>exact⟨_,cnt2,ps++[(x,c)],hrg3,by simp;omega,hC2,hV2,by simpa using hJ3⟩
      case measure=>rw[hrg3.left_eq,hrg.left_eq];exact hlt
    · gi_wp2
      refine bodyPost_ret (results_none rfl _ _ _) rfl ?_;exact⟨⟨_,rfl⟩,.inr ⟨_,⟨ps++[(x,c)],⟨hC2.1,fun y hy=>((hC2.2 y).1 hy).1,hV2⟩,by simp⟩,hJx3⟩⟩
theorem jaE (F:Fence) (n:Nat) (h7:F.fn 201) (hro:F.round=none) (hn:1≤n) (Bm b nn:Nat) (D0:DataW Unit) (w:World) (hBm:Bm<w.heap.size)
 (hm:w.cell? ⟨Bm,0,none⟩=some (.map (some b))) (hown:w.ownsMap Tryz.prog 9 (plainElem Tryz.prog 3) b nn D0) :
 SeqStopsK F n Tryz.prog 201 #[.pointer (some ⟨Bm,0,none⟩)] (fun c:Int=>#[Value.int .i64 c]) KeepsWalks (fun xs=>∃ps,je5 D0 ps∧xs=ps.map (·.2)) (fun pre=>∃ps,jfI D0 ps∧pre=ps.map (·.2)) (Maps.size D0) w:=fun l J Jx W hW hJ _ hY h0=>by
 have hown':W.ownsMap Tryz.prog 9 (plainElem Tryz.prog 3) b nn D0:=by
  have hbl:=hown.lt;obtain⟨es,clock,hb,Ft,hs,hD⟩:=hown;exact⟨es,clock,(hW.block b hbl).trans hb,Ft,hs,hD⟩
 exact jbK F n h7 hro hn l Bm b nn D0 J Jx hY W hJ ((hW.cell (p:=⟨Bm,0,none⟩) hBm).trans hm) hown' h0
theorem jch (mb:Option Nat) (w:World) :
 Calls Tryz.prog 193 #[.map mb] w fun e w'=>e=.returned (.func (.func 201) #[] #[.pointer (some ⟨w.heap.size,0,none⟩)])∧w'=w.alloc (.cells #[.map mb] 251):=by
 have hmf:=hmfL (P:=Tryz.prog);go_enter Tryz.func193,Tryz.ntmps193;go_wp2;go_ret;exact⟨rfl,rfl⟩
theorem jes:(Tryz.prog.info? 3).map (fun i=>(i.zero,i.size,i.bytes))=some (some (.int .i64 0),1,8):=by kernel_rfl
theorem ja1 {W W':World} (h:KeepsOthers W W'):KeepsWalks W W':=⟨h.size,fun k o hk hw=>h.same k o hk (by cases o<;>first | rfl | cases hw)⟩
def jcO (base:Nat) (W:World) (v:Value) (zs:List Int):Prop:=W.ownsRow base 3 1 v zs.length (zs.map (Value.int .i64))∧(v=.slice none 0 0↔zs=[])
theorem jax (F:Fence) (n:Nat) (h3:F.fn 200) (h5:F.fn 201) (hro:F.round=none) (hn:3≤n) (Bs b nn:Nat) (D0:DataW Unit) (hlen:Maps.size D0≤1000000) (w:World)
 (hBs:Bs<w.heap.size) (hcs:w.cell? ⟨Bs,0,none⟩=some (.map (some b))) (hown:w.ownsMap Tryz.prog 9 (plainElem Tryz.prog 3) b nn D0) :
 CallsIn F n Tryz.prog 200 #[.slice none 0 0,.func (.func 201) #[] #[.pointer (some ⟨Bs,0,none⟩)]] w fun e W'=>∃v xs,e=.returned v∧(∃ps,je5 D0 ps∧xs=ps.map (·.2))∧jcO w.heap.size W' v xs∧Below w.heap.size w W':=by
 have h1:1≤n:=by omega
 obtain⟨i0,hi,hz0,hz1,hz2⟩:=info_parts jes;refine callsIn_of_wp_marks Tryz.func200 rfl h3 ?_ hro;simp only[Tryz.ntmps200,List.size_toArray,List.length_cons,List.length_nil,Nat.reduceAdd,Nat.reduceSub,Array.replicate_succ,Array.replicate_zero,List.push_toArray,List.append_toArray,List.nil_append,List.cons_append];gi_wp2
 have bO:=Boxed.new w 254 (.slice none 0 0);have hB0:Below w.heap.size w (w.alloc (.cells #[.slice none 0 0] 254)):=(Below.refl _ w).alloc (Nat.le_refl _) _;have hown0:(w.alloc (.cells #[.slice none 0 0] 254)).ownsMap Tryz.prog 9 (plainElem Tryz.prog 3) b nn D0:=by
  have hbl:=hown.lt;obtain⟨es,clock,hb,Ft,hs,hD⟩:=hown;exact⟨es,clock,(Below.heap_alloc _ _ b hbl).trans hb,Ft,hs,hD⟩
 refine wpIn_rangeFunc_ownG hro h1 (gf:=201) (lb:=#[.pointer (some ⟨Bs,0,none⟩)]) rfl h5 (enters_of Tryz.func201 (by kernel_rfl) rfl)
  (jaE F (n-1) h5 hro (by omega) Bs b nn D0 _ (by simp;omega) ((hB0.cell (p:=⟨Bs,0,none⟩) hBs).trans hcs) hown0) (fun h k=>h.trans k) (fun W l o o' _ h _ hw=>KeepsWalks.putObj o' h hw) (Below.refl _ _) (fun _=>rfl)
  (fun pre W=>(∃v,Boxed W w.heap.size 254 v∧W.ownsRow w.heap.size 3 1 v pre.length (pre.map (Value.int .i64))∧(v=.slice none 0 0↔pre=[]))∧Below w.heap.size w W)
  (fun _ _ _=>False)
  (OwnFrom.and (Own.from (holdsRow_own w.heap.size w.heap.size 254 3 1 (fun pre=>pre.length) (fun pre=>pre.map (Value.int .i64)) (fun pre v=>v=.slice none 0 0↔pre=[])) _) (ownFrom_below (Nat.le_refl _) (by simp)))
  (fun _ _ _ _ _ hs _ _=>hs)
  ⟨⟨_,bO,World.ownsRow_nil _ _ _ _,by simp⟩,hB0⟩
  (fun x=>{ tmps:=#[.slice none 0 0,.func (.func 201) #[] #[.pointer (some ⟨Bs,0,none⟩)],.pointer (some ⟨w.heap.size,0,none⟩),undef,.slice none 0 0,.int .i64 x,.func (.func 201) #[] #[.pointer (some ⟨Bs,0,none⟩)],.int .i64 x,undef,undef,undef,undef,undef],defers:=[] }) ?assign ?body ?done ?stop
 case assign =>
  intro l x W K hK;gi_wp2
  exact hK
 case body =>
  rintro l pre x W ⟨⟨v,hv,hrow,hnil⟩,hB⟩ hlt;have hc:=hv.cell;gi_wp2_with (gi_at_builtin;refine wpListIn_append_own _ rfl _ _ 254 rfl w.heap.size 3 i0 (.int .i64 0) 1 8 Tryz.underlying254 hi hz0 hz1 hz2 rfl (by decide) _ _ _ rfl (hrow.alloc _) ⟨W.heap.size,0,none⟩ 1 1 [.int .i64 x] rfl rfl (cell_one_new _ _ _) (by simp[Value.oneCell']) (by unfold maxLen;omega) (by omega) (by have:=hB.size;simp;omega) ?_;intro v' w1 hown' hgrow _;obtain⟨g',cap',rfl⟩:=ownsRow_succ hown';obtain⟨hv1,hv2,hr2,hk2,hb2⟩:=hv.appended (by decide) hrow hB.size (Nat.le_refl _) hown' hgrow;have hc1:=hv1.cell;have hf1:=hv1.frozen)
  exact⟨hk2.from _,ja1 hk2,⟨_,hv2,by simpa using hr2,by simp⟩,hB.trans hb2⟩
 case done =>
  rintro D ys W hD hS ⟨⟨v,hv,hrow,hnil⟩,hB⟩ hK;have hc:=hv.cell;gi_wp2
  refine⟨by simp,.inl ⟨_,_,rfl,run_takeDeferred hK,?_⟩⟩;exact⟨_,results_tmp rfl _ _ _,v,ys,rfl,hS,⟨ownsRow_putObj hrow _ hK rfl,hnil⟩,hB.trans (belowK_b (w:=w) (Nat.le_refl _) W D _ _ (by simp at hD;omega) hK rfl rfl)⟩
 case stop =>
  rintro D c pre W _ _ h _;exact h.elim
theorem jba (Bs b nn:Nat) (f:ByteArray→Int) (dom:ByteArray→Bool) (w:World) (hn:nn≤1000000) (hBs:Bs<w.heap.size) (hcs:w.cell? ⟨Bs,0,none⟩=some (.map (some b))) (h:zb w b nn f dom) :
 Calls Tryz.prog 192 #[.func (.func 201) #[] #[.pointer (some ⟨Bs,0,none⟩)]] w fun e w'=>∃v zs,e=.returned v∧jcO w.heap.size w' v zs∧(∀x,dom x=true→f x ∈ zs)∧(∀z ∈ zs,∃x,dom x=true∧z=f x)∧zs.length≤1000000∧Kept w w':=by
 obtain⟨D,h1,h2,h3,h4⟩:=h;have hsz:Maps.size D≤1000000:=Nat.le_trans h1.size_le hn;have HA:=lH (jax Fence.wide 3 trivial trivial rfl (by omega) Bs b nn D hsz w hBs hcs h1);have HC:=lH (show Calls Tryz.prog 200 #[.slice none 0 0,.func (.func 201) #[] #[.pointer (some ⟨Bs,0,none⟩)]] w _ from callsIn_wide.1 HA.out);clear h1 hcs;go_enter Tryz.func192,Tryz.ntmps192;go_wp2_with fail
 refine HC.out.mono ?_;rintro e w1 ⟨v,xs,rfl,⟨ps,hps,rfl⟩,ho,hb⟩;have HO:=lH ho;have HB:=lH hb;have HP:=lH hps;clear ho hb hps;have key:∀y:List UInt8,(⟨⟨y⟩⟩:ByteArray).data.toList=y:=fun _=>rfl;have hl:(ps.map (·.2)).length≤1000000:=by
  rw[List.length_map];have h5:ps.length=(strKeys D).length:=by rw[←HP.out.1.length_eq,List.length_map]
  have h6:(strKeys D).length≤Maps.size D:=by
   cases D<;>first | exact Nat.zero_le _ | (show (List.filterMap _ _).length≤_;exact List.length_filterMap_le _ _) | simp[strKeys,Maps.size]
  omega
 go_wp2;go_ret;refine⟨v,_,rfl,HO.out,fun x hx=>?_,fun z hz=>?_,hl,HB.out⟩
 · have hm:=(HP.out.2.1 x.data.toList).2 ((h3 x).trans hx);obtain⟨p,hp,e⟩:=List.mem_map.1 hm;have hv:=HP.out.2.2 p hp (.lit (.int .i64 0));rw[e] at hv;have:=(h2 x).symm.trans hv;injection this with this;injection this with _ this;exact List.mem_map.2 ⟨p,hp,this.symm⟩
 · obtain⟨p,hp,rfl⟩:=List.mem_map.1 hz;refine⟨⟨⟨p.1⟩⟩,?_,?_⟩
   · rw[←h3];exact(HP.out.2.1 p.1).1 (List.mem_map_of_mem hp)
   · have hv:=HP.out.2.2 p hp (.lit (.int .i64 0));have:=(h2 ⟨⟨p.1⟩⟩).symm.trans hv;injection this with this;injection this with _ this;exact this.symm
end Go.Proofs.YtgfoenfaohhjcabGreat
namespace Go.Proofs.YtgfoenfaohhjcabGreat
open Go.RowKit
theorem jcO.cells {base:Nat} {W:World} {v:Value} {zs:List Int} (h:jcO base W v zs) (h0:zs≠[]):∃g cap,v=.slice (some ⟨g,0,none⟩) zs.length cap∧∀j,j<zs.length→W.cell? ⟨g,0+j,none⟩=some (.int .i64 (zs.getD j 0)):=by
 obtain⟨⟨hl,h⟩,-⟩:=h;rcases h with ⟨-,hz⟩ | ⟨g,cap,cur,rfl,-,hh,-,-,-,ht⟩
 · exact absurd (List.eq_nil_of_length_eq_zero hz) h0
 · refine⟨g,cap,rfl,fun j hj=>?_⟩;rw[Nat.zero_add,Lib.cell_of_heap hh];have h1:(cur.toList.take (zs.length*1))[j]?=some (.int .i64 (zs.getD j 0)):=by
    rw[ht,List.getElem?_map,List.getElem?_eq_getElem hj];simp[List.getD,hj]
   rw[List.getElem?_take_of_lt (by omega)] at h1;simpa using h1
theorem foldl_min:∀(l:List Int) (m:Int),l.foldl min m≤m∧(∀z ∈ l,l.foldl min m≤z)∧(l.foldl min m=m∨l.foldl min m ∈ l)
 | [],m=>⟨Int.le_refl _,fun z h=>absurd h (by simp),.inl rfl⟩
 | x::t,m=>by
  obtain⟨h1,h2,h3⟩:=foldl_min t (min m x);rw[List.foldl_cons];refine⟨by omega,fun z hz=>?_,?_⟩
  · rcases List.mem_cons.1 hz with rfl | hz
    · omega
    · exact h2 z hz
  · rcases h3 with h3 | h3
    · by_cases g:m≤x
      · exact .inl (by rw[h3];omega)
      · exact .inr (by rw[h3,show min m x=x by omega];simp)
    · exact .inr (by simp[h3])
theorem jfh {zs:List Int} (h:zs≠[]):(∀z ∈ zs,Lib.minOf zs≤z)∧Lib.minOf zs ∈ zs:=by
 cases zs with
 | nil=>exact absurd rfl h
 | cons x t =>
  obtain⟨h1,h2,h3⟩:=foldl_min (x::t) x;refine⟨h2,?_⟩;show (x::t).foldl min x ∈ _;rcases h3 with h3 | h3
  · rw[h3];simp
  · exact h3
theorem jeF {w:World} {a:Option Addr} {m:Nat} {nodes:List Nod} (h:js w a m nodes) {key name d:ByteArray} (hd:domV key name nodes=some d):d.size≤maxLen:=by
 have:=X2 hd;unfold JI at this;rw[List.any_eq_true] at this;obtain⟨n,hn,he⟩:=this;have he:zB n.labels key=some d:=by simpa using he
 obtain⟨k,hk,e⟩:=List.getElem_of_mem hn;rcases h.2.2 with h0 | ⟨b,off,-,-,hc⟩
 · rw[h.1] at hk;omega
 · obtain⟨_,_,_,_,_,_,_,_,_,_,_,_,_,_,hN⟩:=hc k n (by rw[List.getElem?_eq_getElem hk,e]);exact jal hN.labels.fine he
theorem jdp (s1 s2 s3 a1 a2 a3 a4:Option Addr) (n1 e1 n2 e2 n3 e3 m1 c1 m2 c2 m3 c3 m4 c4:Nat) (p:Pd) (s:Clu) (name:ByteArray) (w:World) (hn:js w s1 n1 s.nodes) (hp:jC w s2 n2 s.pods) (hb1:n1≤100000) (hb2:n2≤100000) :
 Calls Tryz.prog 178 #[.agg #[.slice s1 n1 e1,.slice s2 n2 e2,.slice s3 n3 e3],jG p (.slice a1 m1 c1) (.slice a2 m2 c2) (.slice a3 m3 c3) (.slice a4 m4 c4),.string name] w fun e w'=>(∀d,domV p.key name s.nodes=some d→e=.returned (.int .i64 (ZJ p s d)))∧(domV p.key name s.nodes=none→e=.panicked [zk 3])∧Kept w w':=by
 obtain⟨Z,hZ⟩:∃Z,(w.alloc (.cells #[.slice s1 n1 e1,.slice s2 n2 e2,.slice s3 n3 e3] 26)).alloc (.cells #[.string p.name,.string p.owner,.int .i64 p.prio,.slice a1 m1 c1,.slice a2 m2 c2,.slice a3 m3 c3,.slice a4 m4 c4,.string p.key,.int .i64 p.most,.string p.node,.bool p.hold] 35)=Z:=⟨_,rfl⟩
 have hkz:Kept w Z:=by rw[←hZ];exact jr _ _ _
 have HSB:=lH (jc w (.slice s1 n1 e1) [.slice s2 n2 e2,.slice s3 n3 e3] 26 Z (by rw[←hZ];exact ja _ _));have HPB:=lH (show je (w.heap.size+1) [.string p.name,.string p.owner,.int .i64 p.prio,.slice a1 m1 c1,.slice a2 m2 c2,.slice a3 m3 c3,.slice a4 m4 c4,.string p.key,.int .i64 p.most,.string p.node,.bool p.hold] Z by
  have dd:=jc (w.alloc (.cells #[.slice s1 n1 e1,.slice s2 n2 e2,.slice s3 n3 e3] 26)) (.string p.name) [.string p.owner,.int .i64 p.prio,.slice a1 m1 c1,.slice a2 m2 c2,.slice a3 m3 c3,.slice a4 m4 c4,.string p.key,.int .i64 p.most,.string p.node,.bool p.hold] 35 Z (by rw[hZ];exact Kept.refl _);rw[World.size_alloc] at dd;exact dd)
 have HN:=lH hn;have HP:=lH hp;have HNL:=lH hn.1;have HPL:=lH hp.1;have K:=lH hkz;clear hn hp hkz;unfold jG;go_enter Tryz.func178,Tryz.ntmps178;go_upto_region 1 with fail
 try rw[hZ]
 clear hZ;have y0:=HSB.out.at_ 0 _ rfl;have y1:=HSB.out.at_ 1 _ rfl;have y2:=HSB.out.at_ 2 _ rfl;have r7:=HPB.out.at_ 7 _ rfl;go_wp2_with fail
 refine(jbh s1 s2 s3 n1 e1 n2 e2 n3 e3 s.nodes p.key name Z (HN.out.kept K.out) hb1).mono ?_;rintro e w1 ⟨h1,h2,kk⟩;have HSB:=lH (HSB.out.kept kk);have HPB:=lH (HPB.out.kept kk);have K:=lH (K.out.trans kk);clear kk y0 y1 y2 r7
 cases ho:domV p.key name s.nodes with
 | none =>
  obtain rfl:=h2 ho;have HO:=lH ho;clear h1 h2 ho;go_wp2;exact⟨rfl,(fun d e=>by rw[HO.out] at e;cases e),(fun _=>rfl),K.out⟩
 | some d =>
  obtain rfl:=h1 d ho;have HO:=lH ho;have hds:=jeF HN.out ho;have HDS:=lH hds;have HDH:=lH (X2 ho);clear h1 h2 ho hds;have y0:=HSB.out.at_ 0 _ rfl;have y1:=HSB.out.at_ 1 _ rfl;have y2:=HSB.out.at_ 2 _ rfl;have r0:=HPB.out.at_ 0 _ rfl;have r1:=HPB.out.at_ 1 _ rfl;have r2:=HPB.out.at_ 2 _ rfl;have r3:=HPB.out.at_ 3 _ rfl;have r4:=HPB.out.at_ 4 _ rfl;have r5:=HPB.out.at_ 5 _ rfl;have r6:=HPB.out.at_ 6 _ rfl;have r7:=HPB.out.at_ 7 _ rfl;have r8:=HPB.out.at_ 8 _ rfl;have r9:=HPB.out.at_ 9 _ rfl;have r10:=HPB.out.at_ 10 _ rfl;go_wp2_with fail
  have TA:=jeo s1 s2 s3 a1 a2 a3 a4 n1 e1 n2 e2 n3 e3 m1 c1 m2 c2 m3 c3 m4 c4 p s.nodes s.pods w1 (HN.out.kept K.out) (HP.out.kept K.out) hb1 hb2;unfold jG at TA;refine TA.mono ?_;clear TA;rintro e w2 ⟨mc,nn,rfl,hM,hmc,hnn,kk⟩;have HM:=lH hM;have HW1:=lH K.out.size;have K:=lH (K.out.trans kk);have HMC:=lH hmc;have KS:=lH K.out.size;clear kk hM hmc y0 y1 y2 r0 r1 r2 r3 r4 r5 r6 r7 r8 r9 r10;have hb9:inD p s.pods d s.nodes≤100000*100000:=Nat.le_trans (jbk _ _ _ _) (Nat.mul_le_mul (by rw[HNL.out];omega) (by rw[HPL.out];omega));have hl1:=HM.out.look d HDS.out;obtain⟨x1,hx1⟩:∃v,inD p s.pods d s.nodes=v:=⟨_,rfl⟩
  have HX1:=lH hx1;rw[hx1] at hl1 hb9;obtain⟨x3,hx3⟩:∃z:Nat,x1+1=z:=⟨_,rfl⟩
  have hx4:(x1:Int)+1=(x3:Int):=by omega
  have hx5:IntKind.i64.wrap (x3:Int)=(x3:Int):=IntWalk.i64_in _ (by omega);obtain⟨w4,hput,hM4,hG4⟩:=HM.out.put (by unfold maxLen;omega) d HDS.out (x3:Int) (by omega);have HX3:=lH hx3;have HMF:=lH (show zb w4 mc (nn+1) (fun e=>((inD p s.pods e s.nodes+(if e=d then 1 else 0):Nat):Int)) (fun e=>JI p.key e s.nodes) from hM4.eq (fun e=>by
   by_cases he:e=d
   · subst he;rw[if_pos rfl,if_pos rfl,HX1.out,HX3.out]
   · rw[if_neg he,if_neg he];rfl) (fun e=>by
   by_cases he:e=d
   · subst he;rw[if_pos rfl,HDH.out]
   · rw[if_neg he]))
  have HG4:=lH hG4;have hb10:x3≤100000*100000+1:=by omega
  have HB10:=lH hb10;have HNN:=lH hnn;clear hM4 hG4 hx1 hx3 hb9 hb10;go_upto_region 4 with fail
  clear hl1 hput hx4 hx5;have J:=lH (Kept.drew w4);refine wp_region_held_drew (S:=fun W=>zb W mc (nn+1) (fun e=>((inD p s.pods e s.nodes+(if e=d then 1 else 0):Nat):Int)) (fun e=>JI p.key e s.nodes)) (by kernel_rfl) (HMF.out.kept J.out) (fun hHeld=>?_);refine wpAnyH_take  (i:=0) (v:=?_) (by rw[List.getElem?_toArray];exact rfl) (by kernel_rfl) (by kernel_rfl) (by kernel_rfl) (by exact fun _ _ _ h=>h) (Or.inl ⟨by rfl,(by intro W hSw;go_simp<;>with_reducible rfl)⟩) (by assumption) ?_;try simp only  [Act.put,List.setIfInBounds_toArray,List.set_cons_zero,List.set_cons_succ]
  refine wpAnyH_take  (i:=1) (v:=?_) (by rw[List.getElem?_toArray];exact rfl) (by kernel_rfl) (by kernel_rfl) (by kernel_rfl) (by exact fun _ _ _ h=>h) (Or.inl ⟨by rfl,(by intro W hSw;go_simp<;>with_reducible rfl)⟩) (by assumption) ?_;try simp only  [Act.put,List.setIfInBounds_toArray,List.set_cons_zero,List.set_cons_succ]
  refine wpAnyH_take  (i:=2) (v:=?_) (by rw[List.getElem?_toArray];exact rfl) (by kernel_rfl) (by kernel_rfl) (by kernel_rfl) (by exact fun _ _ _ h=>h) (Or.inl ⟨by rfl,(by intro W hSw;have hl:=hSw.look d HDS.out;go_simp<;>with_reducible rfl)⟩) (by assumption) ?_;try simp only  [Act.put,List.setIfInBounds_toArray,List.set_cons_zero,List.set_cons_succ]
  refine wpAnyH_take  (i:=3) (v:=?_) (by rw[List.getElem?_toArray];exact rfl) (by kernel_rfl) (by kernel_rfl) (by kernel_rfl) (by exact fun _ _ _ h=>h) (Or.inl ⟨by rfl,(by intro W hSw;go_simp<;>with_reducible rfl)⟩) (by assumption) ?_;try simp only  [Act.put,List.setIfInBounds_toArray,List.set_cons_zero,List.set_cons_succ]
  skip;refine wpAnyH_ready  (rs:=[4]) (by kernel_rfl) (by simp) (AllReadyH.cons  (by rw[List.getElem?_toArray];exact rfl) (fun K9 hK9=>?_) AllReadyH.nil);go_simp;refine(jch (some mc) _).mono ?_;rintro e w5 ⟨rfl,rfl⟩;have kq:=ja w4.drew (.cells #[.map (some mc)] 251);obtain⟨w5,hw5⟩:∃W,w4.drew.alloc (.cells #[.map (some mc)] 251)=W:=⟨_,rfl⟩
  have hcs:je w4.drew.heap.size [.map (some mc)] w5:=jc w4.drew (.map (some mc)) [] 251 w5 (by rw[hw5];exact Kept.refl _);rw[hw5] at kq ⊢;obtain⟨bs,hbs⟩:∃z,w4.drew.heap.size=z:=⟨_,rfl⟩
  rw[hbs] at hcs ⊢;have HCS:=lH hcs;have J:=lH (J.out.trans kq);clear hcs kq hw5 hbs;refine hK9.out _ _ (HMF.out.kept J.out) (fun hHeld1=>?_);clear hK9 K9;try simp only  [Act.put,List.setIfInBounds_toArray,List.set_cons_zero,List.set_cons_succ]
  refine wpAnyH_ready  (rs:=[5]) (by kernel_rfl) (by simp) (AllReadyH.cons  (by rw[List.getElem?_toArray];exact rfl) (fun K9 hK9=>?_) AllReadyH.nil);go_simp;refine(jba bs mc (nn+1) _ _ w5 (by have:=HNN.out;omega) HCS.out.lt (HCS.out.at_ 0 _ rfl) (HMF.out.kept J.out)).mono ?_;rintro e w6 ⟨v,zs,rfl,ho,hz1,hz2,hzl,kk⟩;have J:=lH (J.out.trans kk);have hzd:=hz1 d HDH.out;have hz0:zs≠[]:=fun e=>by rw[e] at hzd;cases hzd
  obtain⟨g,cap,rfl,hc⟩:=ho.cells hz0;have HC:=lH hc;have HZ1:=lH hz1;have HZ2:=lH hz2;have HZ0:=lH hz0;have HZL:=lH hzl;clear kk ho hc hz1 hz2 hz0 hzd hzl;refine hK9.out _ _ (HMF.out.kept J.out) (fun hHeld2=>?_);clear hK9 K9;try simp only  [Act.put,List.setIfInBounds_toArray,List.set_cons_zero,List.set_cons_succ]
  refine wpAnyH_ready  (rs:=[6]) (by kernel_rfl) (by simp) (AllReadyH.cons  (by rw[List.getElem?_toArray];exact rfl) (fun K9 hK9=>?_) AllReadyH.nil);go_simp;refine(Tryz.slices_Min_int g 0 zs.length cap zs w6 (List.length_pos_iff.2 HZ0.out) (Nat.le_refl _) (by have:=HZL.out;omega) HC.out).mono ?_;rintro e w7 ⟨rfl,rfl⟩;rw[List.take_length];refine hK9.out _ _ (HMF.out.kept J.out) (fun hHeld3=>?_);clear hK9 K9;try simp only  [Act.put,List.setIfInBounds_toArray,List.set_cons_zero,List.set_cons_succ]
  obtain⟨hm1,hm2⟩:=jfh HZ0.out;obtain⟨c,hcd,hce⟩:=HZ2.out _ hm2;obtain⟨zm,hzm⟩:∃z:Nat,inD p s.pods c s.nodes+(if c=d then 1 else 0)=z:=⟨_,rfl⟩
  rw[hzm] at hce;rw[hce] at hm1 ⊢;have HL:=lH (jdV (p:=p) (pods:=s.pods) (nodes:=s.nodes) (d:=d) (m:=inD p s.pods d s.nodes+1) (z:=zm) HDH.out rfl (fun e he=>by have:=hm1 _ (HZ1.out e he);omega) ⟨c,hcd,hzm.symm⟩);have hle:zm≤x3:=by have h:=hm1 _ (HZ1.out d HDH.out);rw[if_pos rfl,HX1.out] at h;have:=HX3.out;omega
  have HSK:=lH (show ZJ p s d=(x3:Int)-(zm:Int) by unfold ZJ;rw[HL.out,HX1.out,HX3.out]);have hx6:(inD p s.pods d s.nodes+(if d=d then 1 else 0))=x3:=by rw[if_pos rfl,HX1.out,HX3.out]
  try rw[hx6]
  obtain⟨y,hy⟩:∃y:Nat,x3-zm=y:=⟨_,rfl⟩
  have hy1:(x3:Int)-(zm:Int)=(y:Int):=by omega
  have hy2:IntKind.i64.wrap (y:Int)=(y:Int):=IntWalk.i64_in _ (by have:=HB10.out;omega);clear hm1 hm2 hcd hce hzm;refine wpAnyH_take  (i:=7) (v:=?_) (by rw[List.getElem?_toArray];exact rfl) (by kernel_rfl) (by kernel_rfl) (by kernel_rfl) (by exact fun _ _ _ h=>h) (Or.inl ⟨by rfl,(by intro W hSw;go_simp<;>with_reducible rfl)⟩) (by assumption) ?_;try simp only  [Act.put,List.setIfInBounds_toArray,List.set_cons_zero,List.set_cons_succ]
  refine wpAnyH_take  (i:=8) (v:=?_) (by rw[List.getElem?_toArray];exact rfl) (by kernel_rfl) (by kernel_rfl) (by kernel_rfl) (by exact fun _ _ _ h=>h) (Or.inl ⟨by rfl,(by intro W hSw;go_simp<;>with_reducible rfl)⟩) (by assumption) ?_;try simp only  [Act.put,List.setIfInBounds_toArray,List.set_cons_zero,List.set_cons_succ]
  refine wpAnyH_done (by kernel_rfl) ?_ _;go_wp2;go_ret;refine⟨fun d9 e9=>?_,fun e9=>?_,(jn.below K.out HG4.out fun i e=>by have:=HMC.out;have:=HW1.out;omega).trans J.out⟩
  · rw[HO.out] at e9
    cases e9
    rw[HSK.out,hy1];have hv:IntKind.i64.wrap (((inD p s.pods d s.nodes:Nat):Int)+1-(zm:Int))=(y:Int):=by
     rw[HX1.out,show (x1:Int)+1-(zm:Int)=(y:Int) by have:=HX3.out;omega];exact hy2
    exact congrArg (fun z=>Ending.returned (.int .i64 z)) hv
  · rw[HO.out] at e9
    cases e9
end Go.Proofs.YtgfoenfaohhjcabGreat
