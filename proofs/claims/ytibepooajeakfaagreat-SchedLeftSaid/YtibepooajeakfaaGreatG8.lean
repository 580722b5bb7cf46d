/- C. -/
import Derived.Test.YtibepooajeakfaaGreatG0
import Derived.Test.YtibepooajeakfaaGreatG2
import Derived.Test.YtibepooajeakfaaGreatG3
import Derived.Test.YtibepooajeakfaaGreatG5
import Derived.Test.YtibepooajeakfaaGreatG6
import Derived.Test.YtibepooajeakfaaGreatG7
set_option linter.unusedVariables false
set_option maxRecDepth 100000
set_option maxHeartbeats 25600000
namespace Go.Proofs.YtibepooajeakfaaGreat
open Go.RowKit
abbrev BX:=Bd×SX
abbrev jmU (z:BX):Value:=Xp z.1 (slV z.2)
def At1 (w:World) (z:BX):Prop:=zk w (slV z.2) z.1
theorem zk.at1 {w:World} {n:Bd} {x1:SX} (h:zk w (slV x1) n):At1 w (n,x1):=h
theorem jli (n:Bd) (v1:Value) (w:World) (h:zk w v1 n) (hl:n.sel.length≤1000000) :
 Calls Tryz.prog 68 #[Xp n v1] w fun e w'=>∃z:BX,e=.returned (jmU z)∧z.1=n∧At1 w' z∧Btw w.heap.size w'.heap.size z.2.1∧Kept w w':=by
 have HH:=lH h;have E3:=lH (fun W (k:Kept w W)=>(jms (h.sel.kept k) hl).mono fun _ _=>Z7);obtain⟨⟨x0,l3,m⟩,hnn⟩:∃m,m=n:=⟨n,rfl⟩
 subst hnn;dsimp only at E3;obtain⟨W0,hW0⟩:=eX ((w.alloc (.cells #[.string x0,v1,.int .i64 m] 108)).alloc (.cells #[.string ⟨#[]⟩,.slice none 0 0,.int .i64 0] 131))
 have hk0:Kept w W0:=by rw[←hW0];exact jm _ _ _
 have hzs:W0.heap.size=w.heap.size+2:=by rw[←hW0];simp
 have HB:=lH (show ∀W,Kept W0 W→W.cell? ⟨w.heap.size,0,none⟩=some (.string x0)∧W.cell? ⟨w.heap.size,1,none⟩=some (v1)∧W.cell? ⟨w.heap.size,2,none⟩=some (.int .i64 m) from fun W k=>by
  have:=jb w (.string x0) [v1,.int .i64 m] 108 W ((by rw[←hW0];exact ja _ _:Kept (w.alloc (.cells #[.string x0,v1,.int .i64 m] 108)) W0).trans k);exact⟨this.at_ 0 _ rfl,this.at_ 1 _ rfl,this.at_ 2 _ rfl⟩)
 have HQ:=lH (show ∀W,Kept W0 W→je (w.heap.size+1) [.string ⟨#[]⟩,.slice none 0 0,.int .i64 0] W from fun W k=>by
  have:=jb (w.alloc (.cells #[.string x0,v1,.int .i64 m] 108)) (.string ⟨#[]⟩) [.slice none 0 0,.int .i64 0] 131 W (by rw[hW0];exact k);rw[World.size_alloc] at this;exact this)
 have HZ:=lH hzs;have Vd:=lH hk0;obtain⟨b0,b1,b2⟩:=HB.out _ (Kept.refl _);clear h hl hk0 hzs;unfold Xp;dsimp only;go_enter Tryz.func68,Tryz.ntmps68;go_wp2;try rw[hW0]
 clear hW0
 go_region_held3 (fun W=>(W.cell? ⟨w.heap.size,0,none⟩=some (.string x0)∧W.cell? ⟨w.heap.size,1,none⟩=some (v1)∧W.cell? ⟨w.heap.size,2,none⟩=some (.int .i64 m)))
  (first | with_reducible exact HB.out _ K4.out | exact jhO (HB.out _ K4.out) (by omega) | exact HB.out _ (Kept.drew _))
  (first | (go_at_call 37;refine(E3.out _ (Vd.out.trans (Kept.drew _))).mono ?_;rintro e1 w4 ⟨b1,n1,d1,rfl,r1,g1,k1⟩;obtain⟨K4,G1,R1⟩:=lH3 (Kept.trans (Kept.drew _) k1) (show Btw (w.heap.size+2) w4.heap.size b1 from fun b o s e=>⟨Nat.le_trans (by rw[←HZ.out];exact Below.size (Kept.drew _)) (g1 b o s e).1,(g1 b o s e).2⟩) r1;clear k1 r1 g1;have VK:=lH (HQ.out _ K4.out);have z0:=VK.out.at_ 0 _ rfl;have f0:=VK.out.free 0;have z1:=VK.out.at_ 1 _ rfl;have f1:=VK.out.free 1;have z2:=VK.out.at_ 2 _ rfl;have f2:=VK.out.free 2))
 have P:=lH (j4 (vs:=[.string x0,.slice b1 n1 d1,.int .i64 m]) VK.out rfl);go_wp2;obtain⟨WE,hWE⟩:=eX (w4.setCells (w.heap.size+1) 0 [.string x0,.slice b1 n1 d1,.int .i64 m])
 have hWE2:(((w4.setCell ⟨w.heap.size+1,0,none⟩ (.string x0)).setCell ⟨w.heap.size+1,1,none⟩ (.slice b1 n1 d1)).setCell ⟨w.heap.size+1,2,none⟩ (.int .i64 m))=WE:=hWE;rw[hWE] at P;rw[hWE2];clear hWE hWE2;obtain⟨PC,hsz,hbl,hkp⟩:=P.out;refine bodyPost_ret (by simp[results,Tryz.results68,go_sem,PC.at_ 0 _ rfl,PC.at_ 1 _ rfl,PC.at_ 2 _ rfl];try rfl) rfl ?_;refine⟨(⟨x0,l3,m⟩,(b1,n1,d1)),rfl,rfl,zk.at1 (zk.far (B:=w.heap.size+2) (n:=⟨x0,l3,m⟩) ⟨HH.out.name,HH.out.floor,R1.out⟩ hsz (fun b hb=>hbl b (by omega)) G1.out.behind),?_,hkp _ _ (Nat.le_succ _) (Vd.out.trans K4.out)⟩;rw[hsz];exact G1.out.up (by omega) (Nat.le_refl _)
theorem jeZ (x:BX) (u:Value) (h:u ∈ [Value.string x.1.name,slV x.2,.int .i64 x.1.floor]):u.oneCell'=true:=by
 simp only[List.mem_cons,List.not_mem_nil,or_false] at h;rcases h with rfl | rfl | rfl<;>rfl
def j9:Lay BX:={ m:=3,cs:=fun x=>[.string x.1.name,slV x.2,.int .i64 x.1.floor],fine:=fun _=>True,len:=fun _=>rfl,one:=jeZ,pos:=by decide }
def jkR (w:World) (v:Value) (l:List BX):Prop:=∀z ∈ l,At1 w z∧Btw 0 w.heap.size z.2.1∧J9 v z.2.1
theorem jh5 {wr w1 w2:World} {o:Obj} {v:Value} {l:List BX} {z0:BX} {gg n cap:Nat} (hv:jkR wr v l) (k:Kept wr w1) (hz:At1 w1 z0) (hw:Btw wr.heap.size w1.heap.size z0.2.1) (hown:∀g,v.ownBlock=some g→g<wr.heap.size)
 (hgrow:(w1.alloc o).grownBy w2 v.ownBlock) (hat:v.ownBlock=some gg∨gg=w1.heap.size+1):jkR w2 (.slice (some ⟨gg,0,none⟩) n cap) (l++[z0]):=by
 have hs:=hgrow.size;rw[World.size_alloc] at hs;have hk:=k.size;have key:∀z,At1 w1 z→Btw 0 w1.heap.size z.2.1→J9 v z.2.1→At1 w2 z∧Btw 0 w2.heap.size z.2.1∧J9 (.slice (some ⟨gg,0,none⟩) n cap) z.2.1:=by
  intro z h3 hwz f1;have ne:∀b,b<w1.heap.size→v.ownBlock≠some b→(Value.slice (some ⟨gg,0,none⟩) n cap).ownBlock≠some b:=by
   intro b hb hne e;have e:some gg=some b:=e;rcases hat with hat | hat
   · exact hne (hat.trans e)
   · have:gg=b:=Option.some.inj e;omega
  have h3':=zk.kept h3 (ja w1 o);exact⟨⟨h3'.name,h3'.floor,h3'.sel.grown hgrow (fun b off sp e=>Ne.symm (f1 b off sp e))⟩,hwz.up (Nat.le_refl _) (by omega),fun b off sp e=>ne b (hwz b off sp e).2 (f1 b off sp e)⟩
 intro z hzm;rcases List.mem_append.1 hzm with hzm | hzm
 · obtain⟨h0,h1,h2⟩:=hv z hzm;exact key z (zk.kept h0 k) (h1.up (Nat.le_refl _) hk) h2
 · obtain rfl:z=z0:=by simpa using hzm
   exact key z hz (hw.up (Nat.zero_le _) (Nat.le_refl _)) (fun b off sp e f=>by have:=(hw b off sp e).1;have:=hown b f;omega)
theorem jes {w:World} {T:TypeId} {B:Nat} {v:Value} {lx:List BX} (ho:Own j9 T w B v lx) (hf:∀z ∈ lx,At1 w z):JK w v (lx.map fun z=>z.1):=by
 obtain⟨a,cap,rfl,h1,h2,h3⟩:=ho.at_;obtain⟨g0,g1,g2,g3⟩:=h3;refine⟨a,cap,by rw[List.length_map],by rw[List.length_map];exact h1,h2,rfl,by rw[List.length_map];exact g1,?_⟩;rw[List.length_map];rcases g3 with g3 | ⟨b,off,rfl,hb,hc⟩
 · exact .inl g3
 · refine .inr ⟨b,off,rfl,hb,fun i n hi=>?_⟩;rw[List.getElem?_map] at hi;obtain⟨z,hz,rfl⟩:=Option.map_eq_some_iff.1 hi;exact⟨slV z.2,hc i z 0 _ hz rfl,hc i z 1 _ hz rfl,hc i z 2 _ hz rfl,hf z (List.mem_of_getElem? hz)⟩
theorem jl3:(Tryz.prog.info? 131).map (fun i=>(i.zero,i.size,i.bytes))=some (some (.agg #[.string ByteArray.empty,.slice none 0 0,.int .i64 0]),3,48):=by kernel_rfl
theorem jgV (a:Option Addr) (len cap:Nat) (l:List Bd) (w:World) (hr:zA w a len l) (hlow:∀n ∈ l,n.sel.length≤1000000) (hlen:len≤1000) :
 Calls Tryz.prog 28 #[.slice a len cap] w fun e w'=>∃v,e=.returned v∧JK w' v l∧Kept w w':=by
 have hl:=hr.1;have Vr:=lH hlow;obtain⟨i0,hi,hz0,hz1,hz2'⟩:=info_parts jl3;rcases hr.form with h0 | ⟨b,off,rfl⟩
 · subst h0;have hl0:l=[]:=List.eq_nil_of_length_eq_zero hl;subst hl0;clear hr hl hi hz0 hz1 hz2' hlow;go_enter Tryz.func28,Tryz.ntmps28;go_wp2;refine wp_loop_rounds 1 ?_;rw[rounds_succ];go_wp2;go_ret;exact⟨_,rfl,⟨none,0,rfl,Nat.le_refl _,by decide,rfl,by decide,.inl rfl⟩,Kept.refl _⟩
 · have HR:=lH hr;have HL:=lH hl;clear hr hl hlow;go_enter Tryz.func28,Tryz.ntmps28;go_wp2;go_loopw [3,4] (fun v i wr=>∃k:Nat,k≤len∧i=.int .i64 k∧∃lx:List BX,(lx.map fun z=>z.1)=l.take k∧Own j9 131 wr w.heap.size v lx∧jkR wr v lx∧Below w.heap.size w wr) (fun _ i _=>len-(intOf i).toNat)
   case atStart=>exact⟨0,Nat.zero_le _,rfl,[],rfl,Own.nil _ _ _,(fun z h=>by cases h),Below.refl _ _⟩
   case round =>
    obtain⟨k,hk,rfl,lx,hlx,ho,hv,hB⟩:=hrel;obtain⟨HX,HO,HV,HB,HT⟩:=lH5 hlx ho hv hB (show lx.length=k by have:=congrArg List.length hlx;rw[List.length_map,List.length_take,HL.out] at this;omega);have Vj:=lH (show wr.ownsRow w.heap.size 131 3 u3 k (jd j9 lx) by have:=HO.out.1;rw[HT.out] at this;exact this);have hbase:w.heap.size≤wr.heap.size:=hB.size;by_cases hlt:k<len
    · obtain⟨n,a1,m1,c1,hn,hd,hb,p0,p1,p2,hat⟩:=(HR.out.kept hB).at_ hlt;have HN:=lH hn;have Vv:=lH (jli n (.slice a1 m1 c1) wr hat (Vr.out n (List.mem_of_getElem? hn)));have hk1:(k:Int)<(len:Int):=by omega
      clear hlx ho hv hB hn hd hat;go_wp2_with fail
      refine Vv.out.mono ?_;rintro e w1 ⟨z,rfl,hz,h3,hwi,kk⟩;obtain⟨HZ,H3,HW,KK⟩:=lH4 hz h3 hwi kk;have hs1:wr.heap.size≤w1.heap.size:=kk.size;have Vx:=lH (show w1.ownsRow w.heap.size 131 3 u3 k (jd j9 lx) by have:=(HO.out.kept kk).1;rw[HT.out] at this;exact this);clear hz h3 hwi kk;go_wp2_with (at_builtin;refine wpList_append_lies _ rfl _ _ _ rfl w.heap.size 131 i0 _ 3 48 Tryz.underlying31 hi hz0 hz1 hz2' rfl (by decide) u3 k (jd j9 lx) rfl (Vx.out.alloc _) ⟨w1.heap.size,0,none⟩ 1 1 (j9.cs z) rfl rfl (World.news_of_block (cs:=#[.string z.1.name,slV z.2,.int .i64 z.1.floor]) (t:=131) (fr:=(0,0)) (heap_alloc_new w1 _)) (jeZ z) (by decide) (by unfold maxLen;omega) (by omega) (by simp;omega) (w1.heap.size+1) (by simp) ?_;intro gg cap1 w2 hown1 hgrow hat hlt1)
      have Uo:=lH (jh5 (n:=k+1) (cap:=cap1) HV.out KK.out H3.out HW.out (fun g h=>(Vj.out.lt g h).2) hgrow hat);have VL:=lH ((HB.out.trans ((Below.mono KK.out hbase).trans (Below.mono (ja w1 _) (by omega)))).grown hgrow (by simp;omega) (fun j hj=>(Vj.out.lt j hj).1));go_wp2;go_roundw
      case rel=>exact⟨k+1,by omega,by go_num,lx++[z],by rw[List.map_append,HX.out,zF HN.out,←HZ.out];rfl,Own.snoc hown1 (by rw[HT.out]) HO.out.2 trivial,Uo.out,VL.out⟩
      case measure=>simp[intOf];omega
    · have HK:=lH (show l.take k=l by rw[List.take_of_length_le (by rw[HL.out];omega)]);have V7:=lH (show JK wr u3 l by have:=jes HO.out (fun z hz=>(HV.out z hz).1);rw[HX.out,HK.out] at this;exact this);clear hlx ho hv hB;go_wp2;go_ret;exact⟨_,rfl,V7.out,HB.out⟩
theorem jlw {v:Value} {l:List Bd} {w:World} (h:JK w v l) (hlow:∀n ∈ l,n.sel.length≤1000000) (hlen:l.length≤1000) :
 Calls Tryz.prog 28 #[v] w fun e w'=>∃v,e=.returned v∧JK w' v l∧Kept w w':=by
 obtain⟨a,cap,rfl,_,_,hr⟩:=h;exact jgV a _ cap l w hr hlow hlen
open Go.ChangeShapes Go.WideShapes Go.ChangeAt Go.RowKit Go.Deep
def jfi (w:World):Lay BX:={ m:=3,cs:=j9.cs,fine:=At1 w,len:=fun _=>rfl,one:=j9.one,pos:=by decide }
theorem jgo:Tryz.prog.cellsOf 108=3:=by kernel_rfl
theorem jeQ {H:Type} {enc:TypeId×Value→H} {w:World} {base fuel:Nat} {sp:Nat→Bool} {held:Bool} {cs:List Value} {x:DataW H×List MemPlace} (h:DataW.trod enc Tryz.prog w base sp held fuel 108 cs=some x) :
 ∃a:BX,cs=(jfi w).cs a∧(jfi w).fine a:=by
 obtain⟨ys,m,-,-,hlen,hyl,hf⟩:=DataW.trod_struct Tryz.underlying108 h;rw[jgo] at hlen
 match cs,hlen with
 | [c0,c1,c2],_ =>
  have h0:DataW.trod enc Tryz.prog w base sp held m 9 (([c0,c1,c2].drop 0).take (Tryz.prog.cellsOf 9))=ys[0]?:=hf 0 _ rfl;have h1:DataW.trod enc Tryz.prog w base sp held m 49 (([c0,c1,c2].drop 1).take (Tryz.prog.cellsOf 49))=ys[1]?:=hf 1 _ rfl;have h2:DataW.trod enc Tryz.prog w base sp held m 3 (([c0,c1,c2].drop 2).take (Tryz.prog.cellsOf 3))=ys[2]?:=hf 2 _ rfl;rw[Zd] at h0;rw[jgK] at h1;rw[XZ] at h2;obtain⟨y0,e0⟩:∃y,ys[0]?=some y:=⟨_,List.getElem?_eq_getElem (by rw[hyl];decide)⟩
  rw[e0] at h0;obtain⟨y1,e1⟩:∃y,ys[1]?=some y:=⟨_,List.getElem?_eq_getElem (by rw[hyl];decide)⟩
  rw[e1] at h1;obtain⟨y2,e2⟩:∃y,ys[2]?=some y:=⟨_,List.getElem?_eq_getElem (by rw[hyl];decide)⟩
  rw[e2] at h2;simp only[List.drop_zero,List.take_succ_cons,List.take_zero,List.drop_succ_cons] at h0 h1 h2;obtain⟨s0,q0,-,z0⟩:=DataW.trod_string Tryz.underlying9 h0;obtain⟨l3,r5⟩:=ja0 h1;obtain⟨s2,q2,-,z2⟩:=DataW.trod_int Tryz.underlying3 h2;have r5':=r5;obtain⟨a1,d1,rfl,-⟩:=r5';simp only[List.cons.injEq,and_true] at q0 q2;subst q0;subst q2;exact⟨(⟨s0,l3,s2⟩,(a1,l3.length,d1)),rfl,⟨z0,bounds_i64 z2,r5⟩⟩
theorem jei {H:Type} {enc:TypeId×Value→H} {w:World} {base fuel:Nat} {sp:Nat→Bool} {held:Bool} {v:Value} {x:DataW H×List MemPlace} (h:DataW.trod enc Tryz.prog w base sp held fuel 24 [v]=some x):∃l,JK w v l:=by
 obtain⟨l,a,cap,rfl,h1,h2,h3⟩:=zu (jfi w) Tryz.underlying24 jgo (fun _ _ _ h=>jeQ h) h;obtain⟨g0,g1,g2,g3⟩:=h3;refine⟨l.map (fun z=>z.1),a,cap,by rw[List.length_map],by rw[List.length_map];exact h1,h2,rfl,by rw[List.length_map];exact g1,?_⟩;rw[List.length_map];rcases g3 with g3 | ⟨b,off,rfl,hb,hc⟩
 · exact .inl g3
 · refine .inr ⟨b,off,rfl,hb,fun i n hi=>?_⟩;rw[List.getElem?_map] at hi;obtain⟨z,hz,rfl⟩:=Option.map_eq_some_iff.1 hi;exact⟨slV z.2,hc i z 0 _ hz rfl,hc i z 1 _ hz rfl,hc i z 2 _ hz rfl,g2 z (List.mem_of_getElem? hz)⟩
def Jt (l:List Pd) (x:ByteArray):Option Pd:=l.find? fun n=>eqS n.name x
def zg:Option ByteArray→List Pd→Int
 | _,[]=>0
 | prev,n::t=>if zN n≠0 then zN n else if Vec.jG prev n.name=true then 13 else zg (some n.name) t
def jK (l:List Pd):Int:=if 128<l.length then 4 else zg none l
def Ym (l:List Pd) (k:Nat):Option ByteArray:=if k=0 then none else (l[k-1]?).map Pd.name
theorem jf4 {l:List Pd} {k:Nat} (h:k=0) (s:ByteArray):Vec.jG (Ym l k) s=false:=by unfold Ym;rw[if_pos h];rfl
theorem jfW {l:List Pd} {k:Nat} {n:Pd} (h:¬k=0) (hn:l[k-1]?=some n) (s:ByteArray):Vec.jG (Ym l k) s=leS s n.name:=by unfold Ym;rw[if_neg h,hn];rfl
theorem jfR {l:List Pd} {k:Nat} {n:Pd} (hn:l[k]?=some n):Ym l (k+1)=some n.name:=by unfold Ym;rw[if_neg (by omega),Nat.add_sub_cancel,hn];rfl
theorem jbg {p:Option ByteArray} {n:Pd} {t:List Pd} (h:zN n≠0):zg p (n::t)=zN n:=by rw[zg,if_pos h]
theorem X9 {p:Option ByteArray} {n:Pd} {t:List Pd} (h:zN n=0) (b:Vec.jG p n.name=true):zg p (n::t)=13:=by rw[zg,if_neg (by rw[h];decide),if_pos b]
theorem YP {p:Option ByteArray} {n:Pd} {t:List Pd} (h:zN n=0) (b:Vec.jG p n.name=false):zg p (n::t)=zg (some n.name) t:=by rw[zg,if_neg (by rw[h];decide),if_neg (by rw[b];decide)]
def zj:Option ByteArray→List Bd→Int
 | _,[]=>0
 | prev,n::t=>if JJ n≠0 then JJ n else if Vec.jG prev n.name=true then 13 else zj (some n.name) t
def jZ (l:List Bd):Int:=if 8<l.length then 4 else zj none l
def Yh (l:List Bd) (k:Nat):Option ByteArray:=if k=0 then none else (l[k-1]?).map Bd.name
theorem jfN {l:List Bd} {k:Nat} (h:k=0) (s:ByteArray):Vec.jG (Yh l k) s=false:=by unfold Yh;rw[if_pos h];rfl
theorem jfB {l:List Bd} {k:Nat} {n:Bd} (h:¬k=0) (hn:l[k-1]?=some n) (s:ByteArray):Vec.jG (Yh l k) s=leS s n.name:=by unfold Yh;rw[if_neg h,hn];rfl
theorem jfU {l:List Bd} {k:Nat} {n:Bd} (hn:l[k]?=some n):Yh l (k+1)=some n.name:=by unfold Yh;rw[if_neg (by omega),Nat.add_sub_cancel,hn];rfl
theorem jiV {p:Option ByteArray} {n:Bd} {t:List Bd} (h:JJ n≠0):zj p (n::t)=JJ n:=by rw[zj,if_pos h]
theorem jfm {p:Option ByteArray} {n:Bd} {t:List Bd} (h:JJ n=0) (b:Vec.jG p n.name=true):zj p (n::t)=13:=by rw[zj,if_neg (by rw[h];decide),if_pos b]
theorem jb3 {p:Option ByteArray} {n:Bd} {t:List Bd} (h:JJ n=0) (b:Vec.jG p n.name=false):zj p (n::t)=zj (some n.name) t:=by rw[zj,if_neg (by rw[h];decide),if_neg (by rw[b];decide)]
structure Clu where
 nodes:List Nod
 pods:List Pd
 buds:List Bd
abbrev zO (v1 v2 v3:Value):Value:=.agg #[v1,v2,v3]
structure jbz (w:World) (v1 v2 v3:Value) (s:Clu):Prop where
 nodes:Jg w v1 s.nodes
 pods:zU w v2 s.pods
 buds:JK w v3 s.buds
theorem jbz.kept {w w':World} {v1 v2 v3:Value} {s:Clu} (h:jbz w v1 v2 v3 s) (k:Kept w w'):jbz w' v1 v2 v3 s:=⟨h.nodes.kept k,h.pods.kept k,h.buds.kept k⟩
def jB (w:World) (v:Value) (s:Clu):Prop:=∃v1 v2 v3,v=zO v1 v2 v3∧jbz w v1 v2 v3 s
theorem jB.kept {w w':World} {v:Value} {s:Clu} (h:jB w v s) (k:Kept w w'):jB w' v s:=by
 obtain⟨v1,v2,v3,e,h⟩:=h;exact⟨v1,v2,v3,e,h.kept k⟩
structure jA (s:Clu):Prop where
 nodes:∀n ∈ s.nodes,zW n
 pods:∀n ∈ s.pods,Jq n
 buds:∀n ∈ s.buds,n.sel.length≤1000000
 nodesN:s.nodes.length≤100000
 podsN:s.pods.length≤100000
 budsN:s.buds.length≤100000
def jF (x:ByteArray):List Pd→Vec.V→Int×Vec.V
 | [],v=>(0,v)
 | p::t,v=>if eqS p.node x=true then (if (Vec.jj Vec.jD v p.need).1=0 then jF x t (Vec.jj Vec.jD v p.need).2 else ((Vec.jj Vec.jD v p.need).1,[])) else jF x t v
theorem jai {x:ByteArray} {p:Pd} {t:List Pd} {v:Vec.V} (h:eqS p.node x=false):jF x (p::t) v=jF x t v:=by
 rw[jF,if_neg (by rw[h];decide)]
theorem ja7 {x:ByteArray} {p:Pd} {t:List Pd} {v m:Vec.V} (h:eqS p.node x=true) (g:Vec.jj Vec.jD v p.need=(0,m)):jF x (p::t) v=jF x t m:=by
 rw[jF,if_pos h,g,if_pos rfl]
theorem jba {x:ByteArray} {p:Pd} {t:List Pd} {v m:Vec.V} {c:Int} (h:eqS p.node x=true) (g:Vec.jj Vec.jD v p.need=(c,m)) (hc:c≠0):jF x (p::t) v=(c,[]):=by
 rw[jF,if_pos h,g,if_neg hc]
theorem jak {x:ByteArray}:∀{l:List Pd} {v:Vec.V},(jF x l v).1≠0→(jF x l v).2=[]
 | [],v,h=>absurd rfl h
 | p::t,v,h=>by
  rw[jF] at h ⊢;split at h
  · rename_i h1;rw[if_pos h1];split at h
    · rename_i h2;rw[if_pos h2];exact jak h
    · rename_i h2;rw[if_neg h2]
  · rename_i h1;rw[if_neg h1];exact jak h
def Zf:List Nod→Vec.V→Int×Vec.V
 | [],v=>(0,v)
 | n::t,v=>if (Vec.jj Vec.jD v n.cap).1=0 then Zf t (Vec.jj Vec.jD v n.cap).2 else ((Vec.jj Vec.jD v n.cap).1,[])
theorem jkB {n:Nod} {t:List Nod} {v m:Vec.V} (g:Vec.jj Vec.jD v n.cap=(0,m)):Zf (n::t) v=Zf t m:=by
 rw[Zf,g,if_pos rfl]
theorem jkT {n:Nod} {t:List Nod} {v m:Vec.V} {c:Int} (g:Vec.jj Vec.jD v n.cap=(c,m)) (hc:c≠0):Zf (n::t) v=(c,[]):=by
 rw[Zf,g,if_neg hc]
def JA (s:Clu) (x:ByteArray):Int×Vec.V:=match jk s.nodes x with | none=>(3,[]) | some n=>jF n.name s.pods []
def Zx (s:Clu) (x:ByteArray):Int×Vec.V:=match jk s.nodes x with | none=>(3,[]) | some n=>if (jF n.name s.pods []).1=0 then Vec.jj Vec.j5 n.cap (jF n.name s.pods []).2 else ((jF n.name s.pods []).1,[])
def jly (s:Clu):Int×Vec.V:=Zf s.nodes []
def jE (nodes:List Nod):List Pd→Int
 | []=>0
 | p::t=>if zD p.node=false∧(jk nodes p.node).isSome=false then 3 else jE nodes t
theorem jbM {nodes:List Nod} {p:Pd} {t:List Pd} (h:zD p.node=false) (g:(jk nodes p.node).isSome=false):jE nodes (p::t)=3:=by
 rw[jE,if_pos ⟨h,g⟩]
theorem jfO {nodes:List Nod} {p:Pd} {t:List Pd} (h:zD p.node=true):jE nodes (p::t)=jE nodes t:=by
 rw[jE,if_neg (by rw[h];simp)]
theorem jfo {nodes:List Nod} {p:Pd} {t:List Pd} (g:(jk nodes p.node).isSome=true):jE nodes (p::t)=jE nodes t:=by
 rw[jE,if_neg (by rw[g];simp)]
def jX (pods:List Pd):List Nod→Int
 | []=>0
 | n::t=>if (jF n.name pods []).1=0 then (if Vec.jx n.cap (jF n.name pods []).2=true then jX pods t else 7) else (jF n.name pods []).1
theorem jdb {pods:List Pd} {n:Nod} {t:List Nod} {c:Int} {u:Vec.V} (h:jF n.name pods []=(c,u)) (hc:c≠0):jX pods (n::t)=c:=by
 rw[jX,h,if_neg hc]
theorem jce {pods:List Pd} {n:Nod} {t:List Nod} {u:Vec.V} (h:jF n.name pods []=(0,u)) (hf:Vec.jx n.cap u=false):jX pods (n::t)=7:=by
 rw[jX,h,if_pos rfl,if_neg (by rw[hf];decide)]
theorem qF {pods:List Pd} {n:Nod} {t:List Nod} {u:Vec.V} (h:jF n.name pods []=(0,u)) (hf:Vec.jx n.cap u=true):jX pods (n::t)=jX pods t:=by
 rw[jX,h,if_pos rfl,if_pos hf]
def Jr (s:Clu):Int :=
 if or3 (jV s.nodes) (jK s.pods) (jZ s.buds)≠0 then or3 (jV s.nodes) (jK s.pods) (jZ s.buds)
 else if jE s.nodes s.pods≠0 then jE s.nodes s.pods
 else if jX s.pods s.nodes≠0 then jX s.pods s.nodes
 else (Zf s.nodes []).1
def onP (x:ByteArray) (l:List Pd):List Pd:=if zD x=true then [] else l.filter fun p=>eqS p.node x
def j0 (x:ByteArray):List Pd→List Pd
 | []=>[]
 | p::t=>if eqS p.name x=true then t else p::j0 x t
def Jw (p:Pd):List Pd→List Pd
 | []=>[p]
 | q::t=>if ltS p.name q.name=true then p::q::t else q::Jw p t
def Jm (x y:ByteArray):List Pd→List Pd
 | []=>[]
 | p::t=>if eqS p.name x=true then { p with node:=y }::t else p::Jm x y t
def j7 (s:Clu) (x:ByteArray):Clu:={ s with pods:=j0 x s.pods }
def Jb (s:Clu) (p:Pd):Clu:={ s with pods:=Jw p (j0 p.name s.pods) }
def zL (s:Clu) (x y:ByteArray):Clu:={ s with pods:=Jm x y s.pods }
theorem jlj:Tryz.prog.cellsOf 26=3:=by kernel_rfl
theorem jka:Tryz.prog.cellsOf 22=1:=by kernel_rfl
theorem jjN:Tryz.prog.cellsOf 23=1:=by kernel_rfl
theorem jkr:Tryz.prog.cellsOf 24=1:=by kernel_rfl
theorem jfZ {H:Type} {enc:TypeId×Value→H} {w:World} {base fuel:Nat} {sp:Nat→Bool} {held:Bool} {cs:List Value} {x:DataW H×List MemPlace} (h:DataW.trod enc Tryz.prog w base sp held fuel 26 cs=some x) :
 ∃v1 v2 v3 s,cs=[v1,v2,v3]∧jbz w v1 v2 v3 s:=by
 obtain⟨ys,m,-,-,hlen,hyl,hf⟩:=DataW.trod_struct Tryz.underlying26 h;rw[jlj] at hlen
 match cs,hlen with
 | [c0,c1,c2],_ =>
  have h0:DataW.trod enc Tryz.prog w base sp held m 22 (([c0,c1,c2].drop 0).take (Tryz.prog.cellsOf 22))=ys[0]?:=hf 0 _ rfl;rw[jka] at h0;obtain⟨y0,e0⟩:∃y,ys[0]?=some y:=⟨_,List.getElem?_eq_getElem (by rw[hyl];decide)⟩
  rw[e0] at h0;have h1:DataW.trod enc Tryz.prog w base sp held m 23 (([c0,c1,c2].drop 1).take (Tryz.prog.cellsOf 23))=ys[1]?:=hf 1 _ rfl;rw[jjN] at h1;obtain⟨y1,e1⟩:∃y,ys[1]?=some y:=⟨_,List.getElem?_eq_getElem (by rw[hyl];decide)⟩
  rw[e1] at h1;have h2:DataW.trod enc Tryz.prog w base sp held m 24 (([c0,c1,c2].drop 2).take (Tryz.prog.cellsOf 24))=ys[2]?:=hf 2 _ rfl;rw[jkr] at h2;obtain⟨y2,e2⟩:∃y,ys[2]?=some y:=⟨_,List.getElem?_eq_getElem (by rw[hyl];decide)⟩
  rw[e2] at h2;simp only[List.drop_zero,List.take_succ_cons,List.take_zero,List.drop_succ_cons] at h0 h1 h2;obtain⟨l0,r0⟩:=jdL h0;obtain⟨l1,r1⟩:=jeH h1;obtain⟨l2,r2⟩:=jei h2;exact⟨c0,c1,c2,⟨l0,l1,l2⟩,rfl,⟨r0,r1,r2⟩⟩
theorem jlN {H:Type} {enc:TypeId×Value→H} {W:World} {r:Reach} {b0 base:Nat} {sp:Nat→Bool} {held:Bool} {v:Value} {d:DataW H} {ps:List MemPlace} (hval:Value.okWide Tryz.prog W r b0 26 v) (h:DataW.Trod enc Tryz.prog W base sp held 26 v d ps):∃s,jB W v s:=by
 obtain⟨cs,rfl,hsz⟩:=okWide_struct Tryz.underlying26 hval;obtain⟨fuel,hf⟩:=h;obtain⟨v1,v2,v3,s,ha,hat⟩:=jfZ hf;have e:cs.toList=[v1,v2,v3]:=by
  have:(Value.agg cs).cells.toList=[v1,v2,v3]:=ha;simpa [Value.cells] using this
 have:cs=#[v1,v2,v3]:=Array.ext' e;rw[this];exact⟨s,v1,v2,v3,rfl,hat⟩
def Yq (p q:Pd):Bool:=!zD p.owner&&(eqS q.owner p.owner&&(!q.hold&&!eqS q.name p.name))
def onN (p:Pd) (x:ByteArray):List Pd→Nat
 | []=>0
 | q::t=>(if Yq p q=true∧q.node=x then 1 else 0)+onN p x t
theorem jb0 (p:Pd) (x:ByteArray):∀l:List Pd,onN p x l≤l.length
 | []=>Nat.zero_le _
 | q::t=>by
  have:=jb0 p x t;unfold onN;simp only[List.length_cons];split<;>omega
def inD (p:Pd) (pods:List Pd) (d:ByteArray):List Nod→Nat
 | []=>0
 | n::t=>(if zP n.labels p.key=some d then onN p n.name pods else 0)+inD p pods d t
theorem jdP (p:Pd) (pods:List Pd) (d:ByteArray):∀l:List Nod,inD p pods d l≤l.length*pods.length
 | []=>Nat.zero_le _
 | n::t=>by
  have h1:=jdP p pods d t;have h2:=jb0 p n.name pods;unfold inD;simp only[List.length_cons,Nat.add_mul];split<;>omega
def Zp (k d:ByteArray) (l:List Nod):Bool:=l.any fun n=>decide (zP n.labels k=some d)
theorem jcy (p:Pd) (x:ByteArray):∀(a b:List Pd),onN p x (a++b)=onN p x a+onN p x b
 | [],b=>by simp[onN]
 | q::t,b=>by
  have:=jcy p x t b;simp only[List.cons_append,onN,this];omega
theorem jcA (p:Pd) (pods:List Pd) (d:ByteArray):∀(a b:List Nod),inD p pods d (a++b)=inD p pods d a+inD p pods d b
 | [],b=>by simp[inD]
 | q::t,b=>by
  have:=jcA p pods d t b;simp only[List.cons_append,inD,this];omega
def domV (key name:ByteArray):List Nod→Option ByteArray
 | []=>none
 | n::t=>if eqS n.name name=true then zP n.labels key else domV key name t
def YR (p:Pd) (pods:List Pd) (nodes:List Nod) (d:ByteArray):List Nod→Nat→Nat
 | [],m=>m
 | n::t,m=>YR p pods nodes d t (match zP n.labels p.key with
  | none=>m
  | some e=>min m (inD p pods e nodes+(if e=d then 1 else 0)))
def YH (p:Pd) (s:Clu) (d:ByteArray):Int:=((inD p s.pods d s.nodes+1:Nat):Int)-(YR p s.pods s.nodes d s.nodes (inD p s.pods d s.nodes+1):Int)
def Zl (p:Pd) (s:Clu) (name:ByteArray):Int×Bool :=
 if zD p.key=true then (0,true) else match domV p.key name s.nodes with
  | none=>(0,false)
  | some d=>(YH p s d,true)
theorem XW (p:Pd) (pods:List Pd) (nodes:List Nod) (d:ByteArray):∀(l:List Nod) (m:Nat),
 YR p pods nodes d l m≤m∧(∀n ∈ l,∀e,zP n.labels p.key=some e→YR p pods nodes d l m≤inD p pods e nodes+(if e=d then 1 else 0)) ∧
 (YR p pods nodes d l m=m∨∃n ∈ l,∃e,zP n.labels p.key=some e∧YR p pods nodes d l m=inD p pods e nodes+(if e=d then 1 else 0))
 | [],m=>⟨Nat.le_refl _,fun n h=>absurd h (by simp),.inl rfl⟩
 | n::t,m=>by
  rw[YR]
  cases h:zP n.labels p.key with
  | none =>
   dsimp only;obtain⟨h1,h2,h3⟩:=XW p pods nodes d t m;refine⟨h1,fun x hx e he=>?_,h3.imp id fun ⟨x,hx,e,he⟩=>⟨x,by simp[hx],e,he⟩⟩;rcases List.mem_cons.1 hx with rfl | hx
   · rw[h] at he;cases he
   · exact h2 x hx e he
  | some c =>
   dsimp only;obtain⟨h1,h2,h3⟩:=XW p pods nodes d t (min m (inD p pods c nodes+(if c=d then 1 else 0)));refine⟨Nat.le_trans h1 (Nat.min_le_left _ _),fun x hx e he=>?_,?_⟩
   · rcases List.mem_cons.1 hx with rfl | hx
     · rw[h] at he;cases he;exact Nat.le_trans h1 (Nat.min_le_right _ _)
     · exact h2 x hx e he
   · rcases h3 with h3 | ⟨x,hx,e,he,h3⟩
     · by_cases g:m≤inD p pods c nodes+(if c=d then 1 else 0)
       · exact .inl (by rw[h3,Nat.min_eq_left g])
       · exact .inr ⟨n,by simp,c,h,by rw[h3,Nat.min_eq_right (by omega)]⟩
     · exact .inr ⟨x,by simp[hx],e,he,h3⟩
theorem jib {p:Pd} {pods:List Pd} {nodes:List Nod} {d:ByteArray} {m z:Nat} (hd:Zp p.key d nodes=true) (hm:m=inD p pods d nodes+1)
 (h1:∀e,Zp p.key e nodes=true→z≤inD p pods e nodes+(if e=d then 1 else 0)) (h2:∃e,Zp p.key e nodes=true∧z=inD p pods e nodes+(if e=d then 1 else 0)):YR p pods nodes d nodes m=z:=by
 have has:∀{n:Nod} {e:ByteArray},n ∈ nodes→zP n.labels p.key=some e→Zp p.key e nodes=true:=fun {n e} hn he=>by
  unfold Zp;rw[List.any_eq_true];exact⟨n,hn,by simpa using he⟩
 have un:∀{e:ByteArray},Zp p.key e nodes=true→∃n ∈ nodes,zP n.labels p.key=some e:=fun {e} h=>by
  unfold Zp at h;rw[List.any_eq_true] at h;obtain⟨n,hn,he⟩:=h;exact⟨n,hn,by simpa using he⟩
 obtain⟨g1,g2,g3⟩:=XW p pods nodes d nodes m;obtain⟨e,he,hz⟩:=h2;obtain⟨n,hn,hne⟩:=un he;have a:=g2 n hn e hne;rcases g3 with g3 | ⟨x,hx,c,hc,g3⟩
 · have b:=h1 d hd;rw[if_pos rfl] at b;omega
 · have b:=h1 c (has hx hc);omega
theorem jbs {key name d:ByteArray}:∀{l:List Nod},domV key name l=some d→Zp key d l=true
 | n::t,h=>by
  rw[domV] at h;unfold Zp;rw[List.any_cons];split at h
  · rw[h];simp
  · have:=jbs h;unfold Zp at this;rw[this,Bool.or_true]
def Zb (s:Clu) (p:Pd) (x:ByteArray):Bool:=if zD p.key=true then false else (!(Zl p s x).2||decide (p.most<(Zl p s x).1))
def JF (p:Pd) (n:Nod):Bool:=!n.cordon&&Zy p.sel n.labels
def Zt (p:Pd) (n:Nod):Bool:=!(zT p.tols n.taints).isSome
def Yd (s:Clu) (p:Pd) (x:ByteArray):Bool:=decide ((Zx s x).1=0)&&Vec.jx (Zx s x).2 p.need
def zJ (s:Clu) (p:Pd) (n:Nod) (x:ByteArray):Int:=if JF p n=false then 8 else if Zt p n=false then 9 else if Zb s p x=true then 10 else if Yd s p x=false then 7 else 0
def zv (s:Clu) (p:Pd) (x:ByteArray):Int:=match jk s.nodes x with
 | none=>3
 | some n=>zJ s p n x
def Yu (s:Clu) (p:Pd) (x:ByteArray):Int:=zv (j7 s p.name) p x
def Xl (s:Clu) (p:Pd) (l:List Nod):List Int:=l.map fun n=>Yu s p n.name
def jO (s:Clu) (p:Pd) (l:List Nod):List ByteArray:=(l.filter fun n=>decide (Yu s p n.name=0)).map fun n=>n.name
theorem jaZ {s:Clu} {p:Pd} {x:ByteArray} (h:jk s.nodes x=none):zv s p x=3:=by unfold zv;rw[h]
theorem jaQ {s:Clu} {p:Pd} {x:ByteArray} {n:Nod} (h:jk s.nodes x=some n):zv s p x=zJ s p n x:=by unfold zv;rw[h]
theorem jaW {s:Clu} {p:Pd} {n:Nod} {x:ByteArray} (h:JF p n=false):zJ s p n x=8:=by unfold zJ;rw[if_pos h]
theorem qO {s:Clu} {p:Pd} {n:Nod} {x:ByteArray} (h:JF p n=true) (h2:Zt p n=false):zJ s p n x=9:=by unfold zJ;rw[if_neg (by rw[h];decide),if_pos h2]
theorem jay {s:Clu} {p:Pd} {n:Nod} {x:ByteArray} (h:JF p n=true) (h2:Zt p n=true) (h3:Zb s p x=true):zJ s p n x=10:=by unfold zJ;rw[if_neg (by rw[h];decide),if_neg (by rw[h2];decide),if_pos h3]
theorem jaf {s:Clu} {p:Pd} {n:Nod} {x:ByteArray} (h:JF p n=true) (h2:Zt p n=true) (h3:Zb s p x=false) (h4:Yd s p x=false):zJ s p n x=7:=by unfold zJ;rw[if_neg (by rw[h];decide),if_neg (by rw[h2];decide),if_neg (by rw[h3];decide),if_pos h4]
theorem jhM {s:Clu} {p:Pd} {n:Nod} {x:ByteArray} (h:JF p n=true) (h2:Zt p n=true) (h3:Zb s p x=false) (h4:Yd s p x=true):zJ s p n x=0:=by unfold zJ;rw[if_neg (by rw[h];decide),if_neg (by rw[h2];decide),if_neg (by rw[h3];decide),if_neg (by rw[h4];decide)]
theorem jd6 {s:Clu} {p:Pd} {n:Nod} {x:ByteArray} (h:zJ s p n x=0):JF p n=true∧Zt p n=true∧Zb s p x=false∧Yd s p x=true:=by
 cases h1:JF p n with
 | false=>rw[jaW h1] at h;cases h
 | true =>
  cases h2:Zt p n with
  | false=>rw[qO h1 h2] at h;cases h
  | true =>
   cases h3:Zb s p x with
   | true=>rw[jay h1 h2 h3] at h;cases h
   | false =>
    cases h4:Yd s p x with
    | false=>rw[jaf h1 h2 h3 h4] at h;cases h
    | true=>exact⟨rfl,rfl,rfl,rfl⟩
theorem jfp {s:Clu} {p:Pd} {x:ByteArray} (h:zv s p x=0):∃n,jk s.nodes x=some n∧zJ s p n x=0:=by
 cases hf:jk s.nodes x with
 | none=>rw[jaZ hf] at h;cases h
 | some n=>rw[jaQ hf] at h;exact⟨n,rfl,h⟩
theorem jhL (s:Clu) (p:Pd) (n:Nod) (x:ByteArray):0≤zJ s p n x∧zJ s p n x≤10:=by
 unfold zJ;split
 · decide
 · split
   · decide
   · split
     · decide
     · split<;>decide
theorem jh6 (s:Clu) (p:Pd) (x:ByteArray):0≤zv s p x∧zv s p x≤10:=by
 unfold zv;split
 · decide
 · exact jhL _ _ _ _
theorem jc0 {l:List Nod} {x:ByteArray} {n:Nod} (h:jk l x=some n):n ∈ l∧n.name=x:=by
 unfold jk at h;have h2:eqS n.name x=true:=List.find?_some (p:=fun n:Nod=>eqS n.name x) h;exact⟨List.mem_of_find?_eq_some h,jM.1 h2⟩
theorem jhW {s:Clu} {p:Pd} {l:List Nod} {k:Nat} {n:Nod} (h:l[k]?=some n):Xl s p (l.take (k+1))=Xl s p (l.take k)++[Yu s p n.name]:=by
 unfold Xl;rw[List.take_add_one,h,List.map_append];rfl
theorem jbe (s:Clu) (p:Pd) (l:List Nod):(Xl s p l).length=l.length:=by unfold Xl;rw[List.length_map]
theorem jlA {s:Clu} {p:Pd} {l:List Nod} {k:Nat} {n:Nod} (h:l[k]?=some n):(Xl s p l)[k]?=some (Yu s p n.name):=by unfold Xl;rw[List.getElem?_map,h];rfl
theorem jhx {s:Clu} {p:Pd} {l:List Nod} {k:Nat} {n:Nod} (h:l[k]?=some n):jO s p (l.take (k+1))=jO s p (l.take k)++(if Yu s p n.name=0 then [n.name] else []):=by
 unfold jO;rw[List.take_add_one,h,List.filter_append,List.map_append];by_cases hb:Yu s p n.name=0
 · rw[if_pos hb];simp[hb]
 · rw[if_neg hb];simp[hb]
theorem jas (s:Clu) (p:Pd) (l:List Nod):(jO s p l).length≤l.length:=by
 unfold jO;rw[List.length_map];exact List.length_filter_le _ _
theorem XB {s:Clu} {p:Pd} {l:List Nod} {x:ByteArray} (h:x ∈ jO s p l):Yu s p x=0∧∃n ∈ l,n.name=x:=by
 unfold jO at h;obtain⟨n,hn,rfl⟩:=List.mem_map.1 h;obtain⟨h1,h2⟩:=List.mem_filter.1 hn;exact⟨of_decide_eq_true h2,n,h1,rfl⟩
open Ieee
abbrev BIN:Nat:=4503599627370496
abbrev INF:Nat:=9218868437227405312
abbrev SGN:Nat:=9223372036854775808
def rung (x:Nat):Nat:=x % SGN
def sgn (x:Nat):Bool:=x / SGN % 2==1
def isNaN (x:Nat):Bool:=decide (INF<rung x)
def fmg (r:Nat):Nat:=if r<BIN then r else BIN+r % BIN
def ex (r:Nat):Nat:=if r<BIN then 0 else r / BIN-1
def val (r:Nat):Nat:=fmg r*2 ^ ex r
def jr (x:Nat):Int:=if sgn x then -(rung x:Int) else rung x
def ql (x:Nat):Int:=if sgn x then -(val (rung x):Int) else val (rung x)
def ZA (a b:Int):Ordering:=if a<b then .lt else if a=b then .eq else .gt
theorem jbB {r s:Nat} (h:r<s):val r<val s:=by
 have hB:(0:Nat)<BIN:=by decide
 by_cases h1:s<BIN
 · have h2:r<BIN:=Nat.lt_trans h h1;simp only[val,fmg,ex,h1,h2,if_true];simpa using h
 · have pos:∀k:Nat,0<2 ^ k:=fun k=>Nat.two_pow_pos k;have hs:BIN≤s:=Nat.not_lt.1 h1;by_cases h2:r<BIN
   · simp only[val,fmg,ex,h1,h2,if_true,if_false];have:=Nat.mul_le_mul_left (BIN+s % BIN) (pos (s / BIN-1));simp only[Nat.pow_zero,Nat.mul_one];omega
   · have hr:BIN≤r:=Nat.not_lt.1 h2;simp only[val,fmg,ex,h1,h2,if_false];have e1:r / BIN≤s / BIN:=Nat.div_le_div_right (Nat.le_of_lt h);have r1:1≤r / BIN:=(Nat.one_le_div_iff hB).2 hr;rcases Nat.lt_or_eq_of_le e1 with e2 | e2
     · obtain⟨k,hk⟩:∃k,s / BIN-1=(r / BIN-1)+1+k:=⟨s / BIN-r / BIN-1,by omega⟩
       rw[hk,Nat.pow_add,Nat.pow_succ];have m1:r % BIN<BIN:=Nat.mod_lt _ hB;have p1:=pos (r / BIN-1);have p2:=pos k
       calc (BIN+r % BIN)*2 ^ (r / BIN-1)<(2*BIN)*2 ^ (r / BIN-1):=Nat.mul_lt_mul_of_pos_right (by omega) p1
        _=BIN*(2 ^ (r / BIN-1)*2):=by rw[Nat.mul_comm 2 BIN,Nat.mul_assoc,Nat.mul_comm 2]
        _≤(BIN+s % BIN)*(2 ^ (r / BIN-1)*2):=Nat.mul_le_mul_right _ (by omega)
        _≤(BIN+s % BIN)*(2 ^ (r / BIN-1)*2*2 ^ k):=Nat.mul_le_mul_left _ (Nat.le_mul_of_pos_right _ p2)
     · rw[e2];refine Nat.mul_lt_mul_of_pos_right ?_ (pos _);have d1:=Nat.div_add_mod r BIN;have d2:=Nat.div_add_mod s BIN;rw[e2] at d1;omega
theorem Y6 {r s:Nat}:val r<val s↔r<s:=by
 refine⟨fun h=>?_,jbB⟩;rcases Nat.lt_trichotomy r s with g | g | g
 · exact g
 · subst g;exact absurd h (Nat.lt_irrefl _)
 · exact absurd (jbB g) (Nat.lt_asymm h)
theorem qt {r s:Nat}:val r=val s↔r=s:=by
 refine⟨fun h=>?_,fun h=>by rw[h]⟩;rcases Nat.lt_trichotomy r s with g | g | g
 · have:=jbB g;omega
 · exact g
 · have:=jbB g;omega
theorem val_zero:val 0=0:=by simp[val,fmg,ex]
theorem jkm (x y:Nat):ZA (ql x) (ql y)=ZA (jr x) (jr y):=by
 have key:(ql x<ql y↔jr x<jr y)∧(ql x=ql y↔jr x=jr y):=by
  unfold ql jr;have a:=@Y6 (rung x) (rung y);have b:=@Y6 (rung y) (rung x);have c:=@qt (rung x) (rung y);have d:=@Y6 0 (rung x);have e:=@Y6 0 (rung y);have f:=@qt 0 (rung x);have g:=@qt 0 (rung y);rw[val_zero] at d e f g
  cases sgn x<;>cases sgn y<;>simp<;>omega
 unfold ZA;simp only[key.1,key.2]
theorem jg5:double.binade=BIN:=by decide +kernel
theorem jbI:double.infRung=INF:=by decide +kernel
theorem jaA:double.signWeight=SGN:=by decide +kernel
theorem jcx:double.leastPlace=-1074:=by decide +kernel
theorem qu {x:Nat} (h:rung x<INF):double.read x=.number (sgn x) (fmg (rung x)) (-1074+(ex (rung x):Int)):=by
 unfold Format.read;simp only[jg5,jbI,jaA,jcx];have e:x % SGN=rung x:=rfl;by_cases h1:rung x<BIN
 · simp[e,h1,fmg,ex,sgn]
 · simp[e,h1,h,fmg,ex,sgn]
theorem qz {x:Nat} (h:rung x=INF):double.read x=.infinity (sgn x):=by
 unfold Format.read;simp only[jg5,jbI,jaA,jcx];have e:x % SGN=rung x:=rfl;rw[e,h];rw[if_neg (by decide),if_neg (by decide),if_pos rfl];rfl
theorem X8 {x:Nat} (h:INF<rung x):double.read x=.nan (sgn x) (rung x-INF):=by
 unfold Format.read;simp only[jg5,jbI,jaA,jcx];have e:x % SGN=rung x:=rfl
 have h1:¬rung x<BIN:=by have:BIN<INF:=by decide
                         omega
 have h2:¬rung x<INF:=by omega
 have h3:¬rung x=INF:=by omega
 simp[e,h1,h2,h3,sgn]
theorem jjh (s:Bool) (m u:Nat):signed s m u=if s then -((m*2 ^ u:Nat):Int) else ((m*2 ^ u:Nat):Int):=by
 unfold signed;simp only[Nat.shiftLeft_eq]
theorem jkL (a b:Int) (k:Int) (hk:0<k):ZA (a*k) (b*k)=ZA a b:=by
 have h1:a*k<b*k↔a<b:=Int.mul_lt_mul_right hk;have h2:a*k=b*k↔a=b:=by
  refine⟨fun h=>Int.eq_of_mul_eq_mul_right (by omega) h,fun h=>by rw[h]⟩
 unfold ZA;simp only[h1,h2]
theorem jd4 (a b:Int):compare a b=ZA a b:=rfl
theorem jh4 {x y:Nat} (hx:rung x<INF) (hy:rung y<INF):double.order x y=some (ZA (jr x) (jr y)):=by
 unfold Format.order;rw[qu hx,qu hy];simp only[Datum.order,Option.some.injEq];rw[jd4,←jkm];have e1:(-1074+(ex (rung x):Int)-min (-1074+(ex (rung x):Int)) (-1074+(ex (rung y):Int))).toNat=ex (rung x)-min (ex (rung x)) (ex (rung y)):=by omega
 have e2:(-1074+(ex (rung y):Int)-min (-1074+(ex (rung x):Int)) (-1074+(ex (rung y):Int))).toNat=ex (rung y)-min (ex (rung x)) (ex (rung y)):=by omega
 rw[e1,e2,←jkL _ _ ((2 ^ min (ex (rung x)) (ex (rung y)):Nat):Int) (by have:=Nat.two_pow_pos (min (ex (rung x)) (ex (rung y)));omega)];have f:∀z:Nat,min (ex (rung x)) (ex (rung y))≤ex (rung z)→signed (sgn z) (fmg (rung z)) (ex (rung z)-min (ex (rung x)) (ex (rung y)))*((2 ^ min (ex (rung x)) (ex (rung y)):Nat):Int)=ql z:=by
  intro z hz;rw[jjh];have:fmg (rung z)*2 ^ (ex (rung z)-min (ex (rung x)) (ex (rung y)))*2 ^ min (ex (rung x)) (ex (rung y))=val (rung z):=by
   rw[Nat.mul_assoc,←Nat.pow_add,Nat.sub_add_cancel hz];rfl
  unfold ql
  cases sgn z
  · simp only[Bool.false_eq_true,if_false];rw[←Int.natCast_mul,this]
  · simp only[if_true];rw[Int.neg_mul,←Int.natCast_mul,this]
 rw[f x (Nat.min_le_left _ _),f y (Nat.min_le_right _ _)]
theorem jgC {a b:Int} (h:a<b):ZA a b=.lt:=by unfold ZA;rw[if_pos h]
theorem jgh {a b:Int} (h:b<a):ZA a b=.gt:=by unfold ZA;rw[if_neg (by omega),if_neg (by omega)]
theorem jeT {x:Nat} (h:rung x<INF):jr x<(INF:Int)∧-(INF:Int)<jr x:=by
 unfold jr;split<;>omega
theorem jko (x y:Nat):double.order x y=if isNaN x||isNaN y then none else some (ZA (jr x) (jr y)):=by
 unfold isNaN;rcases Nat.lt_trichotomy (rung x) INF with hx | hx | hx
 · rcases Nat.lt_trichotomy (rung y) INF with hy | hy | hy
   · rw[jh4 hx hy,if_neg];simp only[Bool.or_eq_true,decide_eq_true_eq];omega
   · have hs:=jeT hx;unfold Format.order;rw[qu hx,qz hy,if_neg (by simp only[Bool.or_eq_true,decide_eq_true_eq];omega)];simp only[Datum.order,Option.some.injEq];have:jr y=if sgn y then -(INF:Int) else INF:=by unfold jr;rw[hy]
     rw[this];clear this
     cases sgn y
     · simp only[Bool.false_eq_true,if_false];rw[jgC (by omega)]
     · simp only[if_true];rw[jgh (by omega)]
   · unfold Format.order;rw[X8 hy,if_pos (by simp only[Bool.or_eq_true,decide_eq_true_eq];omega)]
     cases double.read x<;>rfl
 · rcases Nat.lt_trichotomy (rung y) INF with hy | hy | hy
   · have hs:=jeT hy;unfold Format.order;rw[qu hy,qz hx,if_neg (by simp only[Bool.or_eq_true,decide_eq_true_eq];omega)];simp only[Datum.order,Option.some.injEq];have:jr x=if sgn x then -(INF:Int) else INF:=by unfold jr;rw[hx]
     rw[this];clear this
     cases sgn x
     · simp only[Bool.false_eq_true,if_false];rw[jgh (by omega)]
     · simp only[if_true];rw[jgC (by omega)]
   · unfold Format.order;rw[qz hx,qz hy,if_neg (by simp only[Bool.or_eq_true,decide_eq_true_eq];omega)];simp only[Datum.order,Option.some.injEq];have e1:jr x=if sgn x then -(INF:Int) else INF:=by unfold jr;rw[hx]
     have e2:jr y=if sgn y then -(INF:Int) else INF:=by unfold jr;rw[hy]
     rw[e1,e2]
     cases sgn x<;>cases sgn y<;>decide +kernel
   · unfold Format.order;rw[X8 hy,if_pos (by simp only[Bool.or_eq_true,decide_eq_true_eq];omega)]
     cases double.read x<;>rfl
 · unfold Format.order;rw[X8 hx,if_pos (by simp only[Bool.or_eq_true,decide_eq_true_eq];omega)];rfl
def cls (x:Nat):Int:=if isNaN x then 6 else if jr x=-INF then 0 else if jr x=INF then 5 else if jr x<0 then 1 else if 0<jr x then 4 else if sgn x then 2 else 3
def key (x:Nat):Int:=if isNaN x then SGN else if sgn x then -(rung x:Int)-1 else rung x
def cp (x y:Nat):Int:=if key x<key y then -1 else if key x=key y then 0 else 1
theorem jeE (x:Nat):rung (x ^^^ 2 ^ 63)=rung x:=by
 have h:=Nat.xor_mod_two_pow (a:=x) (b:=2 ^ 63) (n:=63);rw[Nat.mod_self,Nat.xor_zero] at h;exact h
theorem jlH (x:Nat):sgn (x ^^^ 2 ^ 63)=!sgn x:=by
 have h:=Nat.xor_div_two_pow (a:=x) (b:=2 ^ 63) (n:=63);unfold sgn;rw[show SGN=2 ^ 63 from rfl,h,Nat.div_self (Nat.two_pow_pos 63)];have h2:=Nat.xor_mod_two_pow (a:=x / 2 ^ 63) (b:=1) (n:=1);rw[Nat.pow_one] at h2;rw[h2];rcases Nat.mod_two_eq_zero_or_one (x / 2 ^ 63) with g | g
 · rw[g];rfl
 · rw[g];rfl
theorem jiI (x:Nat):isNaN (x ^^^ 2 ^ 63)=isNaN x:=by unfold isNaN;rw[jeE]
theorem jik (x:Nat):jr (x ^^^ 2 ^ 63)=-jr x:=by
 unfold jr;rw[jeE,jlH];cases sgn x<;>simp
theorem jmr:((SGN:Nat):Int)=9223372036854775808:=rfl
theorem je6:((INF:Nat):Int)=9218868437227405312:=rfl
theorem jgv (x:Nat):isNaN x=true↔INF<rung x:=by unfold isNaN;simp
theorem Yr (x:Nat):isNaN x=false↔rung x≤INF:=by unfold isNaN;simp
theorem Ze (x:Nat):(sgn x=true∧jr x=-(rung x:Int))∨(sgn x=false∧jr x=rung x):=by
 unfold jr;cases sgn x<;>simp
theorem jaH (x:Nat):rung x<SGN:=Nat.mod_lt _ (by decide)
theorem jkZ {x y:Nat} (h:cls x<cls y):cp x y=-1:=by
 have hx:=Ze x;have hy:=Ze y;have nx:=Yr x;have ny:=Yr y;have lx:=jaH x;have ly:=jaH y;have eS:=jmr;have eI:=je6;unfold cp;rw[if_pos];unfold cls at h;unfold key
 cases hn:isNaN x<;>cases hm:isNaN y<;>simp only[hn,hm,Bool.false_eq_true,if_false,if_true,true_iff,false_iff,reduceCtorEq] at*<;>rcases hx with ⟨hx1,hx2⟩ | ⟨hx1,hx2⟩<;>rcases hy with ⟨hy1,hy2⟩ | ⟨hy1,hy2⟩<;>simp only[hx1,hy1,Bool.false_eq_true,if_false,if_true] at*<;>omega
theorem jlf (x y:Nat):cp y x=-cp x y:=by
 unfold cp;omega
theorem jmE {x y:Nat} (h:cls y<cls x):cp x y=1:=by
 have:=jkZ h;rw[jlf] at this;omega
theorem jmS {x y:Nat} (h:cls x=cls y) (hn:isNaN x=false):isNaN y=false∧cp x y=if jr x<jr y then -1 else if jr x=jr y then 0 else 1:=by
 have hx:=Ze x;have hy:=Ze y;have nx:=Yr x;have ny:=Yr y;have lx:=jaH x;have ly:=jaH y;have eS:=jmr;have eI:=je6;unfold cp;unfold cls at h;unfold key
 cases hm:isNaN y<;>simp only[hn,hm,Bool.false_eq_true,if_false,if_true,true_iff,false_iff,reduceCtorEq] at*<;>rcases hx with ⟨hx1,hx2⟩ | ⟨hx1,hx2⟩<;>rcases hy with ⟨hy1,hy2⟩ | ⟨hy1,hy2⟩<;>simp only[hx1,hy1,Bool.false_eq_true,if_false,if_true] at*<;>first | omega | (refine⟨trivial,?_⟩;omega)
theorem jmg {x y:Nat} (h:cls x=cls y) (hn:isNaN x=true):isNaN y=true∧cp x y=0:=by
 have hy:isNaN y=true:=by
  unfold cls at h
  cases hm:isNaN y
  · simp only[hn,hm,Bool.false_eq_true,if_false,if_true] at h;omega
  · rfl
 refine⟨hy,?_⟩;unfold cp key;simp[hn,hy]
end Go.Proofs.YtibepooajeakfaaGreat
