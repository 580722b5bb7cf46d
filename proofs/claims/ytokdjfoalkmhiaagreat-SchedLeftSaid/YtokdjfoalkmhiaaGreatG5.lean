/- C. -/
import Derived.Test.YtokdjfoalkmhiaaGreatG0
import Derived.Test.YtokdjfoalkmhiaaGreatG1
import Derived.Test.YtokdjfoalkmhiaaGreatG2
import Derived.Test.YtokdjfoalkmhiaaGreatG3
import Derived.Test.YtokdjfoalkmhiaaGreatG4
set_option linter.unusedVariables false
set_option maxRecDepth 100000
set_option maxHeartbeats 25600000
namespace Go.Proofs.YtokdjfoalkmhiaaGreat
open Go.RowKit
structure Bd where
 name:ByteArray
 sel:TL
 floor:Int
def Bd.zero:Bd:=⟨ByteArray.empty,[],0⟩
abbrev Xl (n:Bd) (v1:Value):Value:=.agg #[.string n.name,v1,.int .i64 n.floor]
structure zl (w:World) (v1:Value) (n:Bd):Prop where
 name:n.name.size≤maxLen
 floor:-9223372036854775808≤n.floor∧n.floor≤9223372036854775807
 sel:Reads jS w v1 n.sel
theorem zl.kept {w w':World} {v1:Value} {n:Bd} (h:zl w v1 n) (k:Kept w w'):zl w' v1 n:=⟨h.name,h.floor,h.sel.kept k⟩
def jhh (w:World) (v:Value) (n:Bd):Prop:=∃v1,v=Xl n v1∧zl w v1 n
theorem jhh.kept {w w':World} {v:Value} {n:Bd} (h:jhh w v n) (k:Kept w w'):jhh w' v n:=by
 obtain⟨v1,e,h⟩:=h;exact⟨v1,e,h.kept k⟩
def ZC (B:Nat) (w:World) (v:Value) (n:Bd):Prop:=∃b1 n1 d1,v=Xl n (.slice b1 n1 d1)∧zl w (.slice b1 n1 d1) n∧jU B b1
theorem ZC.toR {B:Nat} {w:World} {v:Value} {n:Bd} (h:ZC B w v n):jhh w v n:=by
 obtain⟨b1,n1,d1,e,h,-⟩:=h;exact⟨_,e,h⟩
theorem zl.far {B:Nat} {w w':World} {n:Bd} {b1:Option Addr} {n1 d1:Nat} (h:zl w (.slice b1 n1 d1) n) (hs:w'.heap.size=w.heap.size) (hb:∀b,B≤b→w'.heap[b]?=w.heap[b]?) (g1:jU B b1):zl w' (.slice b1 n1 d1) n :=
 ⟨h.name,h.floor,h.sel.far hs (fun b o s e=>hb b (g1 b o s e))⟩
theorem ZC.far {B:Nat} {w w':World} {v:Value} {n:Bd} (h:ZC B w v n) (hs:w'.heap.size=w.heap.size) (hb:∀b,B≤b→w'.heap[b]?=w.heap[b]?):ZC B w' v n:=by
 obtain⟨b1,n1,d1,e,h,g1⟩:=h;exact⟨b1,n1,d1,e,h.far hs hb g1,g1⟩
theorem ZC.less {B B':Nat} {w:World} {v:Value} {n:Bd} (h:ZC B w v n) (hb:B'≤B):ZC B' w v n:=by
 obtain⟨b1,n1,d1,e,h,g1⟩:=h;exact⟨b1,n1,d1,e,h,g1.less hb⟩
theorem ZC.kept {B:Nat} {w w':World} {v:Value} {n:Bd} (h:ZC B w v n) (k:Kept w w'):ZC B w' v n:=by
 obtain⟨b1,n1,d1,e,h,g1⟩:=h;exact⟨b1,n1,d1,e,h.kept k,g1⟩
theorem zl.spelt {w:World} {v1:Value} {n:Bd} (h:zl w v1 n):∃b1 n1 d1,v1=.slice b1 n1 d1:=by
 obtain⟨a,c,e,-⟩:=h.sel;exact⟨_,_,_,e⟩
def jkr (x:ByteArray):Int:=if isName x=true then 0 else 3
def Zn (m:Int):Int:=if m<0∨128<m then 1 else 0
def JI (n:Bd):Int:=orL [jkr n.name,Xa n.sel,Zn n.floor]
def zA (w:World) (a:Option Addr) (len:Nat) (l:List Bd):Prop :=
 l.length=len∧len≤maxLen∧(len=0∨∃b off,a=some ⟨b,off,none⟩∧b<w.heap.size∧∀i n,l[i]?=some n→∃v1,
  w.cell? ⟨b,off+i*3,none⟩=some (.string n.name)∧w.cell? ⟨b,off+i*3+1,none⟩=some (v1)∧w.cell? ⟨b,off+i*3+2,none⟩=some (.int .i64 n.floor)∧zl w v1 n)
theorem zA.kept {w w':World} {a:Option Addr} {len:Nat} {l:List Bd} (h:zA w a len l) (k:Kept w w'):zA w' a len l:=by
 obtain⟨h0,h1,h2⟩:=h;refine⟨h0,h1,h2.imp id ?_⟩;rintro ⟨b,off,rfl,hb,hc⟩;refine⟨b,off,rfl,Nat.lt_of_lt_of_le hb k.size,fun i n hi=>?_⟩;obtain⟨v1,p0,p1,p2,hn⟩:=hc i n hi;exact⟨v1,cell_later k p0,cell_later k p1,cell_later k p2,hn.kept k⟩
theorem zA.form {w:World} {a:Option Addr} {len:Nat} {l:List Bd} (h:zA w a len l):len=0∨∃b off,a=some ⟨b,off,none⟩:=by
 obtain⟨_,_,h2⟩:=h;exact h2.imp id fun ⟨b,off,e,_⟩=>⟨b,off,e⟩
theorem zA.at_ {w:World} {b off len:Nat} {l:List Bd} {k:Nat} (h:zA w (some ⟨b,off,none⟩) len l) (hk:k<len):∃n a1 m1 c1,l[k]?=some n∧l.drop k=n::l.drop (k+1)∧b<w.heap.size ∧
 w.cell? ⟨b,off+k*3,none⟩=some (.string n.name)∧w.cell? ⟨b,off+k*3+1,none⟩=some (.slice a1 m1 c1)∧w.cell? ⟨b,off+k*3+2,none⟩=some (.int .i64 n.floor)∧zl w (.slice a1 m1 c1) n:=by
 obtain⟨h0,_,h3⟩:=h;have hkl:k<l.length:=by omega
 rcases h3 with h3 | ⟨b',off',e,hb,hc⟩
 · omega
 · injection e with e;injection e with e1 e2 e3;subst e1;subst e2;have he:l[k]?=some l[k]:=List.getElem?_eq_getElem hkl;obtain⟨v1,r⟩:=hc k _ he;obtain⟨a1,m1,c1,rfl⟩:=zl.spelt r.2.2.2;exact⟨l[k],a1,m1,c1,he,List.drop_eq_getElem_cons hkl,hb,r⟩
def JJ (w:World) (v:Value) (l:List Bd):Prop:=∃a cap,v=.slice a l.length cap∧l.length≤cap∧cap≤maxLen∧zA w a l.length l
theorem JJ.kept {w w':World} {v:Value} {l:List Bd} (h:JJ w v l) (k:Kept w w'):JJ w' v l:=by
 obtain⟨a,cap,e,h1,h2,h3⟩:=h;exact⟨a,cap,e,h1,h2,h3.kept k⟩
def ji8 (c:Int) (n:Bd) (w:World) (e:Ending) (w':World):Prop:=(c=0→∃v,e=.returned v∧ZC w.heap.size w' v n)∧(c≠0→e=.panicked [zo c])∧Kept w w'
theorem ji8.bad {c:Int} {n:Bd} {w w':World} (hc:c≠0) (hb:Kept w w'):ji8 c n w (.panicked [zo c]) w':=⟨fun g=>absurd g hc,fun _=>rfl,hb⟩
theorem jhj {W:World} {q p:Nat} {c0 c1 c2 u0 u1 u2:Value} (h:(W).cell? ⟨q,0,none⟩=some (c0)∧(W).cell? ⟨q,1,none⟩=some (c1)∧(W).cell? ⟨q,2,none⟩=some (c2)) (hne:q≠p) :
 ((((W.setCell ⟨p,0,none⟩ u0).setCell ⟨p,1,none⟩ u1).setCell ⟨p,2,none⟩ u2)).cell? ⟨q,0,none⟩=some (c0)∧((((W.setCell ⟨p,0,none⟩ u0).setCell ⟨p,1,none⟩ u1).setCell ⟨p,2,none⟩ u2)).cell? ⟨q,1,none⟩=some (c1)∧((((W.setCell ⟨p,0,none⟩ u0).setCell ⟨p,1,none⟩ u1).setCell ⟨p,2,none⟩ u2)).cell? ⟨q,2,none⟩=some (c2):=by
 have e:(W.setCells p 0 [u0,u1,u2]).heap[q]?=W.heap[q]?:=ZF p _ 0 W q hne;have c:∀j,((((W.setCell ⟨p,0,none⟩ u0).setCell ⟨p,1,none⟩ u1).setCell ⟨p,2,none⟩ u2)).cell? ⟨q,j,none⟩=W.cell? ⟨q,j,none⟩:=fun j=>World.cell?_of_block (a:=⟨q,j,none⟩) e;simp only[c];exact h
abbrev BX:=Bd×SX
abbrev jm8 (z:BX):Value:=Xl z.1 (slV z.2)
def At1 (w:World) (z:BX):Prop:=zl w (slV z.2) z.1
theorem zl.at1 {w:World} {n:Bd} {x1:SX} (h:zl w (slV x1) n):At1 w (n,x1):=h
theorem jls (n:Bd) (v1:Value) (w:World) (h:zl w v1 n) (hl:n.sel.length≤1000000) :
 Calls Tryz.prog 131 #[Xl n v1] w fun e w'=>∃z:BX,e=.returned (jm8 z)∧z.1=n∧At1 w' z∧Btw w.heap.size w'.heap.size z.2.1∧Kept w w':=by
 have HH:=lH h;have E3:=lH (fun W (k:Kept w W)=>(jl0 (h.sel.kept k) hl).mono fun _ _=>Z5);obtain⟨⟨x0,l3,m⟩,hnn⟩:∃m,m=n:=⟨n,rfl⟩
 subst hnn;dsimp only at E3;obtain⟨W0,hW0⟩:=eX ((w.alloc (.cells #[.string x0,v1,.int .i64 m] 92)).alloc (.cells #[.string ⟨#[]⟩,.slice none 0 0,.int .i64 0] 194))
 have hk0:Kept w W0:=by rw[←hW0];exact jm _ _ _
 have hzs:W0.heap.size=w.heap.size+2:=by rw[←hW0];simp
 have HB:=lH (show ∀W,Kept W0 W→W.cell? ⟨w.heap.size,0,none⟩=some (.string x0)∧W.cell? ⟨w.heap.size,1,none⟩=some (v1)∧W.cell? ⟨w.heap.size,2,none⟩=some (.int .i64 m) from fun W k=>by
  have:=jb w (.string x0) [v1,.int .i64 m] 92 W ((by rw[←hW0];exact ja _ _:Kept (w.alloc (.cells #[.string x0,v1,.int .i64 m] 92)) W0).trans k);exact⟨this.at_ 0 _ rfl,this.at_ 1 _ rfl,this.at_ 2 _ rfl⟩)
 have HQ:=lH (show ∀W,Kept W0 W→je (w.heap.size+1) [.string ⟨#[]⟩,.slice none 0 0,.int .i64 0] W from fun W k=>by
  have:=jb (w.alloc (.cells #[.string x0,v1,.int .i64 m] 92)) (.string ⟨#[]⟩) [.slice none 0 0,.int .i64 0] 194 W (by rw[hW0];exact k);rw[World.size_alloc] at this;exact this)
 have HZ:=lH hzs;have Vd:=lH hk0;obtain⟨b0,b1,b2⟩:=HB.out _ (Kept.refl _);clear h hl hk0 hzs;unfold Xl;dsimp only;go_enter Tryz.func131,Tryz.ntmps131;go_wp2;try rw[hW0]
 clear hW0
 go_region_held3 (fun W=>(W.cell? ⟨w.heap.size,0,none⟩=some (.string x0)∧W.cell? ⟨w.heap.size,1,none⟩=some (v1)∧W.cell? ⟨w.heap.size,2,none⟩=some (.int .i64 m)))
  (first | with_reducible exact HB.out _ K4.out | exact jhj (HB.out _ K4.out) (by omega) | exact HB.out _ (Kept.drew _))
  (first | (go_at_call 190;refine(E3.out _ (Vd.out.trans (Kept.drew _))).mono ?_;rintro e1 w4 ⟨b1,n1,d1,rfl,r1,g1,k1⟩;obtain⟨K4,G1,R1⟩:=lH3 (Kept.trans (Kept.drew _) k1) (show Btw (w.heap.size+2) w4.heap.size b1 from fun b o s e=>⟨Nat.le_trans (by rw[←HZ.out];exact Below.size (Kept.drew _)) (g1 b o s e).1,(g1 b o s e).2⟩) r1;clear k1 r1 g1;have VK:=lH (HQ.out _ K4.out);have z0:=VK.out.at_ 0 _ rfl;have f0:=VK.out.free 0;have z1:=VK.out.at_ 1 _ rfl;have f1:=VK.out.free 1;have z2:=VK.out.at_ 2 _ rfl;have f2:=VK.out.free 2))
 have P:=lH (j4 (vs:=[.string x0,.slice b1 n1 d1,.int .i64 m]) VK.out rfl);go_wp2;obtain⟨WE,hWE⟩:=eX (w4.setCells (w.heap.size+1) 0 [.string x0,.slice b1 n1 d1,.int .i64 m])
 have hWE2:(((w4.setCell ⟨w.heap.size+1,0,none⟩ (.string x0)).setCell ⟨w.heap.size+1,1,none⟩ (.slice b1 n1 d1)).setCell ⟨w.heap.size+1,2,none⟩ (.int .i64 m))=WE:=hWE;rw[hWE] at P;rw[hWE2];clear hWE hWE2;obtain⟨PC,hsz,hbl,hkp⟩:=P.out;refine bodyPost_ret (by simp[results,Tryz.results131,go_sem,PC.at_ 0 _ rfl,PC.at_ 1 _ rfl,PC.at_ 2 _ rfl];try rfl) rfl ?_;refine⟨(⟨x0,l3,m⟩,(b1,n1,d1)),rfl,rfl,zl.at1 (zl.far (B:=w.heap.size+2) (n:=⟨x0,l3,m⟩) ⟨HH.out.name,HH.out.floor,R1.out⟩ hsz (fun b hb=>hbl b (by omega)) G1.out.behind),?_,hkp _ _ (Nat.le_succ _) (Vd.out.trans K4.out)⟩;rw[hsz];exact G1.out.up (by omega) (Nat.le_refl _)
theorem jfk (x:BX) (u:Value) (h:u ∈ [Value.string x.1.name,slV x.2,.int .i64 x.1.floor]):u.oneCell'=true:=by
 simp only[List.mem_cons,List.not_mem_nil,or_false] at h;rcases h with rfl | rfl | rfl<;>rfl
def j9:Lay BX:={ m:=3,cs:=fun x=>[.string x.1.name,slV x.2,.int .i64 x.1.floor],fine:=fun _=>True,len:=fun _=>rfl,one:=jfk,pos:=by decide }
def jjR (w:World) (v:Value) (l:List BX):Prop:=∀z ∈ l,At1 w z∧Btw 0 w.heap.size z.2.1∧Za v z.2.1
theorem jiC {wr w1 w2:World} {o:Obj} {v:Value} {l:List BX} {z0:BX} {gg n cap:Nat} (hv:jjR wr v l) (k:Kept wr w1) (hz:At1 w1 z0) (hw:Btw wr.heap.size w1.heap.size z0.2.1) (hown:∀g,v.ownBlock=some g→g<wr.heap.size)
 (hgrow:(w1.alloc o).grownBy w2 v.ownBlock) (hat:v.ownBlock=some gg∨gg=w1.heap.size+1):jjR w2 (.slice (some ⟨gg,0,none⟩) n cap) (l++[z0]):=by
 have hs:=hgrow.size;rw[World.size_alloc] at hs;have hk:=k.size;have key:∀z,At1 w1 z→Btw 0 w1.heap.size z.2.1→Za v z.2.1→At1 w2 z∧Btw 0 w2.heap.size z.2.1∧Za (.slice (some ⟨gg,0,none⟩) n cap) z.2.1:=by
  intro z h3 hwz f1;have ne:∀b,b<w1.heap.size→v.ownBlock≠some b→(Value.slice (some ⟨gg,0,none⟩) n cap).ownBlock≠some b:=by
   intro b hb hne e;have e:some gg=some b:=e;rcases hat with hat | hat
   · exact hne (hat.trans e)
   · have:gg=b:=Option.some.inj e;omega
  have h3':=zl.kept h3 (ja w1 o);exact⟨⟨h3'.name,h3'.floor,h3'.sel.grown hgrow (fun b off sp e=>Ne.symm (f1 b off sp e))⟩,hwz.up (Nat.le_refl _) (by omega),fun b off sp e=>ne b (hwz b off sp e).2 (f1 b off sp e)⟩
 intro z hzm;rcases List.mem_append.1 hzm with hzm | hzm
 · obtain⟨h0,h1,h2⟩:=hv z hzm;exact key z (zl.kept h0 k) (h1.up (Nat.le_refl _) hk) h2
 · obtain rfl:z=z0:=by simpa using hzm
   exact key z hz (hw.up (Nat.zero_le _) (Nat.le_refl _)) (fun b off sp e f=>by have:=(hw b off sp e).1;have:=hown b f;omega)
theorem jd4 {w:World} {T:TypeId} {B:Nat} {v:Value} {lx:List BX} (ho:Own j9 T w B v lx) (hf:∀z ∈ lx,At1 w z):JJ w v (lx.map fun z=>z.1):=by
 obtain⟨a,cap,rfl,h1,h2,h3⟩:=ho.at_;obtain⟨g0,g1,g2,g3⟩:=h3;refine⟨a,cap,by rw[List.length_map],by rw[List.length_map];exact h1,h2,rfl,by rw[List.length_map];exact g1,?_⟩;rw[List.length_map];rcases g3 with g3 | ⟨b,off,rfl,hb,hc⟩
 · exact .inl g3
 · refine .inr ⟨b,off,rfl,hb,fun i n hi=>?_⟩;rw[List.getElem?_map] at hi;obtain⟨z,hz,rfl⟩:=Option.map_eq_some_iff.1 hi;exact⟨slV z.2,hc i z 0 _ hz rfl,hc i z 1 _ hz rfl,hc i z 2 _ hz rfl,hf z (List.mem_of_getElem? hz)⟩
theorem jl9:(Tryz.prog.info? 194).map (fun i=>(i.zero,i.size,i.bytes))=some (some (.agg #[.string ByteArray.empty,.slice none 0 0,.int .i64 0]),3,48):=by kernel_rfl
theorem jhE (a:Option Addr) (len cap:Nat) (l:List Bd) (w:World) (hr:zA w a len l) (hlow:∀n ∈ l,n.sel.length≤1000000) (hlen:len≤1000) :
 Calls Tryz.prog 71 #[.slice a len cap] w fun e w'=>∃v,e=.returned v∧JJ w' v l∧Kept w w':=by
 have hl:=hr.1;have Vr:=lH hlow;obtain⟨i0,hi,hz0,hz1,hz2'⟩:=info_parts jl9;rcases hr.form with h0 | ⟨b,off,rfl⟩
 · subst h0;have hl0:l=[]:=List.eq_nil_of_length_eq_zero hl;subst hl0;clear hr hl hi hz0 hz1 hz2' hlow;go_enter Tryz.func71,Tryz.ntmps71;go_wp2;refine wp_loop_rounds 1 ?_;rw[rounds_succ];go_wp2;go_ret;exact⟨_,rfl,⟨none,0,rfl,Nat.le_refl _,by decide,rfl,by decide,.inl rfl⟩,Kept.refl _⟩
 · have HR:=lH hr;have HL:=lH hl;clear hr hl hlow;go_enter Tryz.func71,Tryz.ntmps71;go_wp2;go_loopw [3,4] (fun v i wr=>∃k:Nat,k≤len∧i=.int .i64 k∧∃lx:List BX,(lx.map fun z=>z.1)=l.take k∧Own j9 194 wr w.heap.size v lx∧jjR wr v lx∧Below w.heap.size w wr) (fun _ i _=>len-(intOf i).toNat)
   case atStart=>exact⟨0,Nat.zero_le _,rfl,[],rfl,Own.nil _ _ _,(fun z h=>by cases h),Below.refl _ _⟩
   case round =>
    obtain⟨k,hk,rfl,lx,hlx,ho,hv,hB⟩:=hrel;obtain⟨HX,HO,HV,HB,HT⟩:=lH5 hlx ho hv hB (show lx.length=k by have:=congrArg List.length hlx;rw[List.length_map,List.length_take,HL.out] at this;omega);have Vj:=lH (show wr.ownsRow w.heap.size 194 3 u3 k (jd j9 lx) by have:=HO.out.1;rw[HT.out] at this;exact this);have hbase:w.heap.size≤wr.heap.size:=hB.size;by_cases hlt:k<len
    · obtain⟨n,a1,m1,c1,hn,hd,hb,p0,p1,p2,hat⟩:=(HR.out.kept hB).at_ hlt;have HN:=lH hn;have Vv:=lH (jls n (.slice a1 m1 c1) wr hat (Vr.out n (List.mem_of_getElem? hn)));have hk1:(k:Int)<(len:Int):=by omega
      clear hlx ho hv hB hn hd hat;go_wp2_with fail
      refine Vv.out.mono ?_;rintro e w1 ⟨z,rfl,hz,h3,hwi,kk⟩;obtain⟨HZ,H3,HW,KK⟩:=lH4 hz h3 hwi kk;have hs1:wr.heap.size≤w1.heap.size:=kk.size;have Vx:=lH (show w1.ownsRow w.heap.size 194 3 u3 k (jd j9 lx) by have:=(HO.out.kept kk).1;rw[HT.out] at this;exact this);clear hz h3 hwi kk;go_wp2_with (at_builtin;refine wpList_append_lies _ rfl _ _ _ rfl w.heap.size 194 i0 _ 3 48 Tryz.underlying68 hi hz0 hz1 hz2' rfl (by decide) u3 k (jd j9 lx) rfl (Vx.out.alloc _) ⟨w1.heap.size,0,none⟩ 1 1 (j9.cs z) rfl rfl (World.news_of_block (cs:=#[.string z.1.name,slV z.2,.int .i64 z.1.floor]) (t:=194) (fr:=(0,0)) (heap_alloc_new w1 _)) (jfk z) (by decide) (by unfold maxLen;omega) (by omega) (by simp;omega) (w1.heap.size+1) (by simp) ?_;intro gg cap1 w2 hown1 hgrow hat hlt1)
      have Uo:=lH (jiC (n:=k+1) (cap:=cap1) HV.out KK.out H3.out HW.out (fun g h=>(Vj.out.lt g h).2) hgrow hat);have VL:=lH ((HB.out.trans ((Below.mono KK.out hbase).trans (Below.mono (ja w1 _) (by omega)))).grown hgrow (by simp;omega) (fun j hj=>(Vj.out.lt j hj).1));go_wp2;go_roundw
      case rel=>exact⟨k+1,by omega,by go_num,lx++[z],by rw[List.map_append,HX.out,zG HN.out,←HZ.out];rfl,Own.snoc hown1 (by rw[HT.out]) HO.out.2 trivial,Uo.out,VL.out⟩
      case measure=>simp[intOf];omega
    · have HK:=lH (show l.take k=l by rw[List.take_of_length_le (by rw[HL.out];omega)]);have V7:=lH (show JJ wr u3 l by have:=jd4 HO.out (fun z hz=>(HV.out z hz).1);rw[HX.out,HK.out] at this;exact this);clear hlx ho hv hB;go_wp2;go_ret;exact⟨_,rfl,V7.out,HB.out⟩
theorem jlA {v:Value} {l:List Bd} {w:World} (h:JJ w v l) (hlow:∀n ∈ l,n.sel.length≤1000000) (hlen:l.length≤1000) :
 Calls Tryz.prog 71 #[v] w fun e w'=>∃v,e=.returned v∧JJ w' v l∧Kept w w':=by
 obtain⟨a,cap,rfl,_,_,hr⟩:=h;exact jhE a _ cap l w hr hlow hlen
open Go.ChangeShapes Go.WideShapes Go.ChangeAt Go.RowKit Go.Deep
def jdZ (w:World):Lay BX:={ m:=3,cs:=j9.cs,fine:=At1 w,len:=fun _=>rfl,one:=j9.one,pos:=by decide }
theorem jgg:Tryz.prog.cellsOf 92=3:=by kernel_rfl
theorem jfj {H:Type} {enc:TypeId×Value→H} {w:World} {base fuel:Nat} {sp:Nat→Bool} {held:Bool} {cs:List Value} {x:DataW H×List MemPlace} (h:DataW.trod enc Tryz.prog w base sp held fuel 92 cs=some x) :
 ∃a:BX,cs=(jdZ w).cs a∧(jdZ w).fine a:=by
 obtain⟨ys,m,-,-,hlen,hyl,hf⟩:=DataW.trod_struct Tryz.underlying92 h;rw[jgg] at hlen
 match cs,hlen with
 | [c0,c1,c2],_ =>
  have h0:DataW.trod enc Tryz.prog w base sp held m 9 (([c0,c1,c2].drop 0).take (Tryz.prog.cellsOf 9))=ys[0]?:=hf 0 _ rfl;have h1:DataW.trod enc Tryz.prog w base sp held m 41 (([c0,c1,c2].drop 1).take (Tryz.prog.cellsOf 41))=ys[1]?:=hf 1 _ rfl;have h2:DataW.trod enc Tryz.prog w base sp held m 3 (([c0,c1,c2].drop 2).take (Tryz.prog.cellsOf 3))=ys[2]?:=hf 2 _ rfl;rw[Zd] at h0;rw[jgE] at h1;rw[X6] at h2;obtain⟨y0,e0⟩:∃y,ys[0]?=some y:=⟨_,List.getElem?_eq_getElem (by rw[hyl];decide)⟩
  rw[e0] at h0;obtain⟨y1,e1⟩:∃y,ys[1]?=some y:=⟨_,List.getElem?_eq_getElem (by rw[hyl];decide)⟩
  rw[e1] at h1;obtain⟨y2,e2⟩:∃y,ys[2]?=some y:=⟨_,List.getElem?_eq_getElem (by rw[hyl];decide)⟩
  rw[e2] at h2;simp only[List.drop_zero,List.take_succ_cons,List.take_zero,List.drop_succ_cons] at h0 h1 h2;obtain⟨s0,q0,-,z0⟩:=DataW.trod_string Tryz.underlying9 h0;obtain⟨l3,r5⟩:=jaZ h1;obtain⟨s2,q2,-,z2⟩:=DataW.trod_int Tryz.underlying3 h2;have r5':=r5;obtain⟨a1,d1,rfl,-⟩:=r5';simp only[List.cons.injEq,and_true] at q0 q2;subst q0;subst q2;exact⟨(⟨s0,l3,s2⟩,(a1,l3.length,d1)),rfl,⟨z0,bounds_i64 z2,r5⟩⟩
theorem jev {H:Type} {enc:TypeId×Value→H} {w:World} {base fuel:Nat} {sp:Nat→Bool} {held:Bool} {v:Value} {x:DataW H×List MemPlace} (h:DataW.trod enc Tryz.prog w base sp held fuel 24 [v]=some x):∃l,JJ w v l:=by
 obtain⟨l,a,cap,rfl,h1,h2,h3⟩:=zu (jdZ w) Tryz.underlying24 jgg (fun _ _ _ h=>jfj h) h;obtain⟨g0,g1,g2,g3⟩:=h3;refine⟨l.map (fun z=>z.1),a,cap,by rw[List.length_map],by rw[List.length_map];exact h1,h2,rfl,by rw[List.length_map];exact g1,?_⟩;rw[List.length_map];rcases g3 with g3 | ⟨b,off,rfl,hb,hc⟩
 · exact .inl g3
 · refine .inr ⟨b,off,rfl,hb,fun i n hi=>?_⟩;rw[List.getElem?_map] at hi;obtain⟨z,hz,rfl⟩:=Option.map_eq_some_iff.1 hi;exact⟨slV z.2,hc i z 0 _ hz rfl,hc i z 1 _ hz rfl,hc i z 2 _ hz rfl,g2 z (List.mem_of_getElem? hz)⟩
def Jq (l:List Pd) (x:ByteArray):Option Pd:=l.find? fun n=>eqS n.name x
def zc:Option ByteArray→List Pd→Int
 | _,[]=>0
 | prev,n::t=>if zN n≠0 then zN n else if Vec.jG prev n.name=true then 13 else zc (some n.name) t
def jK (l:List Pd):Int:=if 128<l.length then 4 else zc none l
def Yf (l:List Pd) (k:Nat):Option ByteArray:=if k=0 then none else (l[k-1]?).map Pd.name
theorem jfu {l:List Pd} {k:Nat} (h:k=0) (s:ByteArray):Vec.jG (Yf l k) s=false:=by unfold Yf;rw[if_pos h];rfl
theorem jfO {l:List Pd} {k:Nat} {n:Pd} (h:¬k=0) (hn:l[k-1]?=some n) (s:ByteArray):Vec.jG (Yf l k) s=leS s n.name:=by unfold Yf;rw[if_neg h,hn];rfl
theorem jfz {l:List Pd} {k:Nat} {n:Pd} (hn:l[k]?=some n):Yf l (k+1)=some n.name:=by unfold Yf;rw[if_neg (by omega),Nat.add_sub_cancel,hn];rfl
theorem jbk {p:Option ByteArray} {n:Pd} {t:List Pd} (h:zN n≠0):zc p (n::t)=zN n:=by rw[zc,if_pos h]
theorem qf {p:Option ByteArray} {n:Pd} {t:List Pd} (h:zN n=0) (b:Vec.jG p n.name=true):zc p (n::t)=13:=by rw[zc,if_neg (by rw[h];decide),if_pos b]
theorem YR {p:Option ByteArray} {n:Pd} {t:List Pd} (h:zN n=0) (b:Vec.jG p n.name=false):zc p (n::t)=zc (some n.name) t:=by rw[zc,if_neg (by rw[h];decide),if_neg (by rw[b];decide)]
def zj:Option ByteArray→List Bd→Int
 | _,[]=>0
 | prev,n::t=>if JI n≠0 then JI n else if Vec.jG prev n.name=true then 13 else zj (some n.name) t
def jY (l:List Bd):Int:=if 8<l.length then 4 else zj none l
def Yl (l:List Bd) (k:Nat):Option ByteArray:=if k=0 then none else (l[k-1]?).map Bd.name
theorem jfM {l:List Bd} {k:Nat} (h:k=0) (s:ByteArray):Vec.jG (Yl l k) s=false:=by unfold Yl;rw[if_pos h];rfl
theorem jfq {l:List Bd} {k:Nat} {n:Bd} (h:¬k=0) (hn:l[k-1]?=some n) (s:ByteArray):Vec.jG (Yl l k) s=leS s n.name:=by unfold Yl;rw[if_neg h,hn];rfl
theorem jfC {l:List Bd} {k:Nat} {n:Bd} (hn:l[k]?=some n):Yl l (k+1)=some n.name:=by unfold Yl;rw[if_neg (by omega),Nat.add_sub_cancel,hn];rfl
theorem jiB {p:Option ByteArray} {n:Bd} {t:List Bd} (h:JI n≠0):zj p (n::t)=JI n:=by rw[zj,if_pos h]
theorem jfU {p:Option ByteArray} {n:Bd} {t:List Bd} (h:JI n=0) (b:Vec.jG p n.name=true):zj p (n::t)=13:=by rw[zj,if_neg (by rw[h];decide),if_pos b]
theorem jbX {p:Option ByteArray} {n:Bd} {t:List Bd} (h:JI n=0) (b:Vec.jG p n.name=false):zj p (n::t)=zj (some n.name) t:=by rw[zj,if_neg (by rw[h];decide),if_neg (by rw[b];decide)]
structure Clu where
 nodes:List Nod
 pods:List Pd
 buds:List Bd
abbrev zP (v1 v2 v3:Value):Value:=.agg #[v1,v2,v3]
structure jce (w:World) (v1 v2 v3:Value) (s:Clu):Prop where
 nodes:Jh w v1 s.nodes
 pods:zU w v2 s.pods
 buds:JJ w v3 s.buds
theorem jce.kept {w w':World} {v1 v2 v3:Value} {s:Clu} (h:jce w v1 v2 v3 s) (k:Kept w w'):jce w' v1 v2 v3 s:=⟨h.nodes.kept k,h.pods.kept k,h.buds.kept k⟩
def jB (w:World) (v:Value) (s:Clu):Prop:=∃v1 v2 v3,v=zP v1 v2 v3∧jce w v1 v2 v3 s
theorem jB.kept {w w':World} {v:Value} {s:Clu} (h:jB w v s) (k:Kept w w'):jB w' v s:=by
 obtain⟨v1,v2,v3,e,h⟩:=h;exact⟨v1,v2,v3,e,h.kept k⟩
structure jA (s:Clu):Prop where
 nodes:∀n ∈ s.nodes,zV n
 pods:∀n ∈ s.pods,Js n
 buds:∀n ∈ s.buds,n.sel.length≤1000000
 nodesN:s.nodes.length≤100000
 podsN:s.pods.length≤100000
 budsN:s.buds.length≤100000
def jF (x:ByteArray):List Pd→Vec.V→Int×Vec.V
 | [],v=>(0,v)
 | p::t,v=>if eqS p.node x=true then (if (Vec.jj Vec.jD v p.need).1=0 then jF x t (Vec.jj Vec.jD v p.need).2 else ((Vec.jj Vec.jD v p.need).1,[])) else jF x t v
theorem qU {x:ByteArray} {p:Pd} {t:List Pd} {v:Vec.V} (h:eqS p.node x=false):jF x (p::t) v=jF x t v:=by
 rw[jF,if_neg (by rw[h];decide)]
theorem jbl {x:ByteArray} {p:Pd} {t:List Pd} {v m:Vec.V} (h:eqS p.node x=true) (g:Vec.jj Vec.jD v p.need=(0,m)):jF x (p::t) v=jF x t m:=by
 rw[jF,if_pos h,g,if_pos rfl]
theorem jbu {x:ByteArray} {p:Pd} {t:List Pd} {v m:Vec.V} {c:Int} (h:eqS p.node x=true) (g:Vec.jj Vec.jD v p.need=(c,m)) (hc:c≠0):jF x (p::t) v=(c,[]):=by
 rw[jF,if_pos h,g,if_neg hc]
theorem jav {x:ByteArray}:∀{l:List Pd} {v:Vec.V},(jF x l v).1≠0→(jF x l v).2=[]
 | [],v,h=>absurd rfl h
 | p::t,v,h=>by
  rw[jF] at h ⊢;split at h
  · rename_i h1;rw[if_pos h1];split at h
    · rename_i h2;rw[if_pos h2];exact jav h
    · rename_i h2;rw[if_neg h2]
  · rename_i h1;rw[if_neg h1];exact jav h
def Zf:List Nod→Vec.V→Int×Vec.V
 | [],v=>(0,v)
 | n::t,v=>if (Vec.jj Vec.jD v n.cap).1=0 then Zf t (Vec.jj Vec.jD v n.cap).2 else ((Vec.jj Vec.jD v n.cap).1,[])
theorem jkP {n:Nod} {t:List Nod} {v m:Vec.V} (g:Vec.jj Vec.jD v n.cap=(0,m)):Zf (n::t) v=Zf t m:=by
 rw[Zf,g,if_pos rfl]
theorem jkM {n:Nod} {t:List Nod} {v m:Vec.V} {c:Int} (g:Vec.jj Vec.jD v n.cap=(c,m)) (hc:c≠0):Zf (n::t) v=(c,[]):=by
 rw[Zf,g,if_neg hc]
def JB (s:Clu) (x:ByteArray):Int×Vec.V:=match jk s.nodes x with | none=>(3,[]) | some n=>jF n.name s.pods []
def Zo (s:Clu) (x:ByteArray):Int×Vec.V:=match jk s.nodes x with | none=>(3,[]) | some n=>if (jF n.name s.pods []).1=0 then Vec.jj Vec.j6 n.cap (jF n.name s.pods []).2 else ((jF n.name s.pods []).1,[])
def jk8 (s:Clu):Int×Vec.V:=Zf s.nodes []
def jE (nodes:List Nod):List Pd→Int
 | []=>0
 | p::t=>if zD p.node=false∧(jk nodes p.node).isSome=false then 3 else jE nodes t
theorem jbP {nodes:List Nod} {p:Pd} {t:List Pd} (h:zD p.node=false) (g:(jk nodes p.node).isSome=false):jE nodes (p::t)=3:=by
 rw[jE,if_pos ⟨h,g⟩]
theorem jfJ {nodes:List Nod} {p:Pd} {t:List Pd} (h:zD p.node=true):jE nodes (p::t)=jE nodes t:=by
 rw[jE,if_neg (by rw[h];simp)]
theorem jf5 {nodes:List Nod} {p:Pd} {t:List Pd} (g:(jk nodes p.node).isSome=true):jE nodes (p::t)=jE nodes t:=by
 rw[jE,if_neg (by rw[g];simp)]
def jW (pods:List Pd):List Nod→Int
 | []=>0
 | n::t=>if (jF n.name pods []).1=0 then (if Vec.jx n.cap (jF n.name pods []).2=true then jW pods t else 7) else (jF n.name pods []).1
theorem jc0 {pods:List Pd} {n:Nod} {t:List Nod} {c:Int} {u:Vec.V} (h:jF n.name pods []=(c,u)) (hc:c≠0):jW pods (n::t)=c:=by
 rw[jW,h,if_neg hc]
theorem jby {pods:List Pd} {n:Nod} {t:List Nod} {u:Vec.V} (h:jF n.name pods []=(0,u)) (hf:Vec.jx n.cap u=false):jW pods (n::t)=7:=by
 rw[jW,h,if_pos rfl,if_neg (by rw[hf];decide)]
theorem qu {pods:List Pd} {n:Nod} {t:List Nod} {u:Vec.V} (h:jF n.name pods []=(0,u)) (hf:Vec.jx n.cap u=true):jW pods (n::t)=jW pods t:=by
 rw[jW,h,if_pos rfl,if_pos hf]
def Jt (s:Clu):Int :=
 if or3 (jV s.nodes) (jK s.pods) (jY s.buds)≠0 then or3 (jV s.nodes) (jK s.pods) (jY s.buds)
 else if jE s.nodes s.pods≠0 then jE s.nodes s.pods
 else if jW s.pods s.nodes≠0 then jW s.pods s.nodes
 else (Zf s.nodes []).1
def onP (x:ByteArray) (l:List Pd):List Pd:=if zD x=true then [] else l.filter fun p=>eqS p.node x
def j0 (x:ByteArray):List Pd→List Pd
 | []=>[]
 | p::t=>if eqS p.name x=true then t else p::j0 x t
def Jw (p:Pd):List Pd→List Pd
 | []=>[p]
 | q::t=>if ltS p.name q.name=true then p::q::t else q::Jw p t
def Ji (x y:ByteArray):List Pd→List Pd
 | []=>[]
 | p::t=>if eqS p.name x=true then { p with node:=y }::t else p::Ji x y t
def j8 (s:Clu) (x:ByteArray):Clu:={ s with pods:=j0 x s.pods }
def Jd (s:Clu) (p:Pd):Clu:={ s with pods:=Jw p (j0 p.name s.pods) }
def zK (s:Clu) (x y:ByteArray):Clu:={ s with pods:=Ji x y s.pods }
theorem jk6:Tryz.prog.cellsOf 26=3:=by kernel_rfl
theorem jkf:Tryz.prog.cellsOf 22=1:=by kernel_rfl
theorem jkx:Tryz.prog.cellsOf 23=1:=by kernel_rfl
theorem jkB:Tryz.prog.cellsOf 24=1:=by kernel_rfl
theorem jfG {H:Type} {enc:TypeId×Value→H} {w:World} {base fuel:Nat} {sp:Nat→Bool} {held:Bool} {cs:List Value} {x:DataW H×List MemPlace} (h:DataW.trod enc Tryz.prog w base sp held fuel 26 cs=some x) :
 ∃v1 v2 v3 s,cs=[v1,v2,v3]∧jce w v1 v2 v3 s:=by
 obtain⟨ys,m,-,-,hlen,hyl,hf⟩:=DataW.trod_struct Tryz.underlying26 h;rw[jk6] at hlen
 match cs,hlen with
 | [c0,c1,c2],_ =>
  have h0:DataW.trod enc Tryz.prog w base sp held m 22 (([c0,c1,c2].drop 0).take (Tryz.prog.cellsOf 22))=ys[0]?:=hf 0 _ rfl;rw[jkf] at h0;obtain⟨y0,e0⟩:∃y,ys[0]?=some y:=⟨_,List.getElem?_eq_getElem (by rw[hyl];decide)⟩
  rw[e0] at h0;have h1:DataW.trod enc Tryz.prog w base sp held m 23 (([c0,c1,c2].drop 1).take (Tryz.prog.cellsOf 23))=ys[1]?:=hf 1 _ rfl;rw[jkx] at h1;obtain⟨y1,e1⟩:∃y,ys[1]?=some y:=⟨_,List.getElem?_eq_getElem (by rw[hyl];decide)⟩
  rw[e1] at h1;have h2:DataW.trod enc Tryz.prog w base sp held m 24 (([c0,c1,c2].drop 2).take (Tryz.prog.cellsOf 24))=ys[2]?:=hf 2 _ rfl;rw[jkB] at h2;obtain⟨y2,e2⟩:∃y,ys[2]?=some y:=⟨_,List.getElem?_eq_getElem (by rw[hyl];decide)⟩
  rw[e2] at h2;simp only[List.drop_zero,List.take_succ_cons,List.take_zero,List.drop_succ_cons] at h0 h1 h2;obtain⟨l0,r0⟩:=jdw h0;obtain⟨l1,r1⟩:=jfg h1;obtain⟨l2,r2⟩:=jev h2;exact⟨c0,c1,c2,⟨l0,l1,l2⟩,rfl,⟨r0,r1,r2⟩⟩
theorem jld {H:Type} {enc:TypeId×Value→H} {W:World} {r:Reach} {b0 base:Nat} {sp:Nat→Bool} {held:Bool} {v:Value} {d:DataW H} {ps:List MemPlace} (hval:Value.okWide Tryz.prog W r b0 26 v) (h:DataW.Trod enc Tryz.prog W base sp held 26 v d ps):∃s,jB W v s:=by
 obtain⟨cs,rfl,hsz⟩:=okWide_struct Tryz.underlying26 hval;obtain⟨fuel,hf⟩:=h;obtain⟨v1,v2,v3,s,ha,hat⟩:=jfG hf;have e:cs.toList=[v1,v2,v3]:=by
  have:(Value.agg cs).cells.toList=[v1,v2,v3]:=ha;simpa [Value.cells] using this
 have:cs=#[v1,v2,v3]:=Array.ext' e;rw[this];exact⟨s,v1,v2,v3,rfl,hat⟩
def YG (p q:Pd):Bool:=!zD p.owner&&(eqS q.owner p.owner&&(!q.hold&&!eqS q.name p.name))
def onN (p:Pd) (x:ByteArray):List Pd→Nat
 | []=>0
 | q::t=>(if YG p q=true∧q.node=x then 1 else 0)+onN p x t
theorem jbC (p:Pd) (x:ByteArray):∀l:List Pd,onN p x l≤l.length
 | []=>Nat.zero_le _
 | q::t=>by
  have:=jbC p x t;unfold onN;simp only[List.length_cons];split<;>omega
def inD (p:Pd) (pods:List Pd) (d:ByteArray):List Nod→Nat
 | []=>0
 | n::t=>(if zO n.labels p.key=some d then onN p n.name pods else 0)+inD p pods d t
theorem jfa (p:Pd) (pods:List Pd) (d:ByteArray):∀l:List Nod,inD p pods d l≤l.length*pods.length
 | []=>Nat.zero_le _
 | n::t=>by
  have h1:=jfa p pods d t;have h2:=jbC p n.name pods;unfold inD;simp only[List.length_cons,Nat.add_mul];split<;>omega
def Zy (k d:ByteArray) (l:List Nod):Bool:=l.any fun n=>decide (zO n.labels k=some d)
theorem jcq (p:Pd) (x:ByteArray):∀(a b:List Pd),onN p x (a++b)=onN p x a+onN p x b
 | [],b=>by simp[onN]
 | q::t,b=>by
  have:=jcq p x t b;simp only[List.cons_append,onN,this];omega
theorem jcC (p:Pd) (pods:List Pd) (d:ByteArray):∀(a b:List Nod),inD p pods d (a++b)=inD p pods d a+inD p pods d b
 | [],b=>by simp[inD]
 | q::t,b=>by
  have:=jcC p pods d t b;simp only[List.cons_append,inD,this];omega
def domV (key name:ByteArray):List Nod→Option ByteArray
 | []=>none
 | n::t=>if eqS n.name name=true then zO n.labels key else domV key name t
def YQ (p:Pd) (pods:List Pd) (nodes:List Nod) (d:ByteArray):List Nod→Nat→Nat
 | [],m=>m
 | n::t,m=>YQ p pods nodes d t (match zO n.labels p.key with
  | none=>m
  | some e=>min m (inD p pods e nodes+(if e=d then 1 else 0)))
def YM (p:Pd) (s:Clu) (d:ByteArray):Int:=((inD p s.pods d s.nodes+1:Nat):Int)-(YQ p s.pods s.nodes d s.nodes (inD p s.pods d s.nodes+1):Int)
def Zh (p:Pd) (s:Clu) (name:ByteArray):Int×Bool :=
 if zD p.key=true then (0,true) else match domV p.key name s.nodes with
  | none=>(0,false)
  | some d=>(YM p s d,true)
theorem XS (p:Pd) (pods:List Pd) (nodes:List Nod) (d:ByteArray):∀(l:List Nod) (m:Nat),
 YQ p pods nodes d l m≤m∧(∀n ∈ l,∀e,zO n.labels p.key=some e→YQ p pods nodes d l m≤inD p pods e nodes+(if e=d then 1 else 0)) ∧
 (YQ p pods nodes d l m=m∨∃n ∈ l,∃e,zO n.labels p.key=some e∧YQ p pods nodes d l m=inD p pods e nodes+(if e=d then 1 else 0))
 | [],m=>⟨Nat.le_refl _,fun n h=>absurd h (by simp),.inl rfl⟩
 | n::t,m=>by
  rw[YQ]
  cases h:zO n.labels p.key with
  | none =>
   dsimp only;obtain⟨h1,h2,h3⟩:=XS p pods nodes d t m;refine⟨h1,fun x hx e he=>?_,h3.imp id fun ⟨x,hx,e,he⟩=>⟨x,by simp[hx],e,he⟩⟩;rcases List.mem_cons.1 hx with rfl | hx
   · rw[h] at he;cases he
   · exact h2 x hx e he
  | some c =>
   dsimp only;obtain⟨h1,h2,h3⟩:=XS p pods nodes d t (min m (inD p pods c nodes+(if c=d then 1 else 0)));refine⟨Nat.le_trans h1 (Nat.min_le_left _ _),fun x hx e he=>?_,?_⟩
   · rcases List.mem_cons.1 hx with rfl | hx
     · rw[h] at he;cases he;exact Nat.le_trans h1 (Nat.min_le_right _ _)
     · exact h2 x hx e he
   · rcases h3 with h3 | ⟨x,hx,e,he,h3⟩
     · by_cases g:m≤inD p pods c nodes+(if c=d then 1 else 0)
       · exact .inl (by rw[h3,Nat.min_eq_left g])
       · exact .inr ⟨n,by simp,c,h,by rw[h3,Nat.min_eq_right (by omega)]⟩
     · exact .inr ⟨x,by simp[hx],e,he,h3⟩
theorem jit {p:Pd} {pods:List Pd} {nodes:List Nod} {d:ByteArray} {m z:Nat} (hd:Zy p.key d nodes=true) (hm:m=inD p pods d nodes+1)
 (h1:∀e,Zy p.key e nodes=true→z≤inD p pods e nodes+(if e=d then 1 else 0)) (h2:∃e,Zy p.key e nodes=true∧z=inD p pods e nodes+(if e=d then 1 else 0)):YQ p pods nodes d nodes m=z:=by
 have has:∀{n:Nod} {e:ByteArray},n ∈ nodes→zO n.labels p.key=some e→Zy p.key e nodes=true:=fun {n e} hn he=>by
  unfold Zy;rw[List.any_eq_true];exact⟨n,hn,by simpa using he⟩
 have un:∀{e:ByteArray},Zy p.key e nodes=true→∃n ∈ nodes,zO n.labels p.key=some e:=fun {e} h=>by
  unfold Zy at h;rw[List.any_eq_true] at h;obtain⟨n,hn,he⟩:=h;exact⟨n,hn,by simpa using he⟩
 obtain⟨g1,g2,g3⟩:=XS p pods nodes d nodes m;obtain⟨e,he,hz⟩:=h2;obtain⟨n,hn,hne⟩:=un he;have a:=g2 n hn e hne;rcases g3 with g3 | ⟨x,hx,c,hc,g3⟩
 · have b:=h1 d hd;rw[if_pos rfl] at b;omega
 · have b:=h1 c (has hx hc);omega
theorem jbg {key name d:ByteArray}:∀{l:List Nod},domV key name l=some d→Zy key d l=true
 | n::t,h=>by
  rw[domV] at h;unfold Zy;rw[List.any_cons];split at h
  · rw[h];simp
  · have:=jbg h;unfold Zy at this;rw[this,Bool.or_true]
def Zb (s:Clu) (p:Pd) (x:ByteArray):Bool:=if zD p.key=true then false else (!(Zh p s x).2||decide (p.most<(Zh p s x).1))
def JD (p:Pd) (n:Nod):Bool:=!n.cordon&&Zz p.sel n.labels
def Zv (p:Pd) (n:Nod):Bool:=!(zT p.tols n.taints).isSome
def Yj (s:Clu) (p:Pd) (x:ByteArray):Bool:=decide ((Zo s x).1=0)&&Vec.jx (Zo s x).2 p.need
def zJ (s:Clu) (p:Pd) (n:Nod) (x:ByteArray):Int:=if JD p n=false then 8 else if Zv p n=false then 9 else if Zb s p x=true then 10 else if Yj s p x=false then 7 else 0
def zv (s:Clu) (p:Pd) (x:ByteArray):Int:=match jk s.nodes x with
 | none=>3
 | some n=>zJ s p n x
def Ys (s:Clu) (p:Pd) (x:ByteArray):Int:=zv (j8 s p.name) p x
def Xh (s:Clu) (p:Pd) (l:List Nod):List Int:=l.map fun n=>Ys s p n.name
def jO (s:Clu) (p:Pd) (l:List Nod):List ByteArray:=(l.filter fun n=>decide (Ys s p n.name=0)).map fun n=>n.name
theorem jaN {s:Clu} {p:Pd} {x:ByteArray} (h:jk s.nodes x=none):zv s p x=3:=by unfold zv;rw[h]
theorem ja1 {s:Clu} {p:Pd} {x:ByteArray} {n:Nod} (h:jk s.nodes x=some n):zv s p x=zJ s p n x:=by unfold zv;rw[h]
theorem jaR {s:Clu} {p:Pd} {n:Nod} {x:ByteArray} (h:JD p n=false):zJ s p n x=8:=by unfold zJ;rw[if_pos h]
theorem qO {s:Clu} {p:Pd} {n:Nod} {x:ByteArray} (h:JD p n=true) (h2:Zv p n=false):zJ s p n x=9:=by unfold zJ;rw[if_neg (by rw[h];decide),if_pos h2]
theorem jaf {s:Clu} {p:Pd} {n:Nod} {x:ByteArray} (h:JD p n=true) (h2:Zv p n=true) (h3:Zb s p x=true):zJ s p n x=10:=by unfold zJ;rw[if_neg (by rw[h];decide),if_neg (by rw[h2];decide),if_pos h3]
theorem jac {s:Clu} {p:Pd} {n:Nod} {x:ByteArray} (h:JD p n=true) (h2:Zv p n=true) (h3:Zb s p x=false) (h4:Yj s p x=false):zJ s p n x=7:=by unfold zJ;rw[if_neg (by rw[h];decide),if_neg (by rw[h2];decide),if_neg (by rw[h3];decide),if_pos h4]
theorem jhe {s:Clu} {p:Pd} {n:Nod} {x:ByteArray} (h:JD p n=true) (h2:Zv p n=true) (h3:Zb s p x=false) (h4:Yj s p x=true):zJ s p n x=0:=by unfold zJ;rw[if_neg (by rw[h];decide),if_neg (by rw[h2];decide),if_neg (by rw[h3];decide),if_neg (by rw[h4];decide)]
theorem jdV {s:Clu} {p:Pd} {n:Nod} {x:ByteArray} (h:zJ s p n x=0):JD p n=true∧Zv p n=true∧Zb s p x=false∧Yj s p x=true:=by
 cases h1:JD p n with
 | false=>rw[jaR h1] at h;cases h
 | true =>
  cases h2:Zv p n with
  | false=>rw[qO h1 h2] at h;cases h
  | true =>
   cases h3:Zb s p x with
   | true=>rw[jaf h1 h2 h3] at h;cases h
   | false =>
    cases h4:Yj s p x with
    | false=>rw[jac h1 h2 h3 h4] at h;cases h
    | true=>exact⟨rfl,rfl,rfl,rfl⟩
theorem jfn {s:Clu} {p:Pd} {x:ByteArray} (h:zv s p x=0):∃n,jk s.nodes x=some n∧zJ s p n x=0:=by
 cases hf:jk s.nodes x with
 | none=>rw[jaN hf] at h;cases h
 | some n=>rw[ja1 hf] at h;exact⟨n,rfl,h⟩
theorem jgV (s:Clu) (p:Pd) (n:Nod) (x:ByteArray):0≤zJ s p n x∧zJ s p n x≤10:=by
 unfold zJ;split
 · decide
 · split
   · decide
   · split
     · decide
     · split<;>decide
theorem ji4 (s:Clu) (p:Pd) (x:ByteArray):0≤zv s p x∧zv s p x≤10:=by
 unfold zv;split
 · decide
 · exact jgV _ _ _ _
theorem jdj {l:List Nod} {x:ByteArray} {n:Nod} (h:jk l x=some n):n ∈ l∧n.name=x:=by
 unfold jk at h;have h2:eqS n.name x=true:=List.find?_some (p:=fun n:Nod=>eqS n.name x) h;exact⟨List.mem_of_find?_eq_some h,jM.1 h2⟩
theorem jjG {s:Clu} {p:Pd} {l:List Nod} {k:Nat} {n:Nod} (h:l[k]?=some n):Xh s p (l.take (k+1))=Xh s p (l.take k)++[Ys s p n.name]:=by
 unfold Xh;rw[List.take_add_one,h,List.map_append];rfl
theorem ja5 (s:Clu) (p:Pd) (l:List Nod):(Xh s p l).length=l.length:=by unfold Xh;rw[List.length_map]
theorem jln {s:Clu} {p:Pd} {l:List Nod} {k:Nat} {n:Nod} (h:l[k]?=some n):(Xh s p l)[k]?=some (Ys s p n.name):=by unfold Xh;rw[List.getElem?_map,h];rfl
theorem jhB {s:Clu} {p:Pd} {l:List Nod} {k:Nat} {n:Nod} (h:l[k]?=some n):jO s p (l.take (k+1))=jO s p (l.take k)++(if Ys s p n.name=0 then [n.name] else []):=by
 unfold jO;rw[List.take_add_one,h,List.filter_append,List.map_append];by_cases hb:Ys s p n.name=0
 · rw[if_pos hb];simp[hb]
 · rw[if_neg hb];simp[hb]
theorem jaz (s:Clu) (p:Pd) (l:List Nod):(jO s p l).length≤l.length:=by
 unfold jO;rw[List.length_map];exact List.length_filter_le _ _
theorem XP {s:Clu} {p:Pd} {l:List Nod} {x:ByteArray} (h:x ∈ jO s p l):Ys s p x=0∧∃n ∈ l,n.name=x:=by
 unfold jO at h;obtain⟨n,hn,rfl⟩:=List.mem_map.1 h;obtain⟨h1,h2⟩:=List.mem_filter.1 hn;exact⟨of_decide_eq_true h2,n,h1,rfl⟩
open Ieee
abbrev BIN:Nat:=4503599627370496
abbrev INF:Nat:=9218868437227405312
abbrev SGN:Nat:=9223372036854775808
def rung (x:Nat):Nat:=x % SGN
def sgn (x:Nat):Bool:=x / SGN % 2==1
def isNaN (x:Nat):Bool:=decide (INF<rung x)
def fmg (r:Nat):Nat:=if r<BIN then r else BIN+r % BIN
def ex (r:Nat):Nat:=if r<BIN then 0 else r / BIN-1
def val (r:Nat):Nat:=fmg r*2 ^ ex r
def jr (x:Nat):Int:=if sgn x then -(rung x:Int) else rung x
def qq (x:Nat):Int:=if sgn x then -(val (rung x):Int) else val (rung x)
def Zt (a b:Int):Ordering:=if a<b then .lt else if a=b then .eq else .gt
theorem jbE {r s:Nat} (h:r<s):val r<val s:=by
 have hB:(0:Nat)<BIN:=by decide
 by_cases h1:s<BIN
 · have h2:r<BIN:=Nat.lt_trans h h1;simp only[val,fmg,ex,h1,h2,if_true];simpa using h
 · have pos:∀k:Nat,0<2 ^ k:=fun k=>Nat.two_pow_pos k;have hs:BIN≤s:=Nat.not_lt.1 h1;by_cases h2:r<BIN
   · simp only[val,fmg,ex,h1,h2,if_true,if_false];have:=Nat.mul_le_mul_left (BIN+s % BIN) (pos (s / BIN-1));simp only[Nat.pow_zero,Nat.mul_one];omega
   · have hr:BIN≤r:=Nat.not_lt.1 h2;simp only[val,fmg,ex,h1,h2,if_false];have e1:r / BIN≤s / BIN:=Nat.div_le_div_right (Nat.le_of_lt h);have r1:1≤r / BIN:=(Nat.one_le_div_iff hB).2 hr;rcases Nat.lt_or_eq_of_le e1 with e2 | e2
     · obtain⟨k,hk⟩:∃k,s / BIN-1=(r / BIN-1)+1+k:=⟨s / BIN-r / BIN-1,by omega⟩
       rw[hk,Nat.pow_add,Nat.pow_succ];have m1:r % BIN<BIN:=Nat.mod_lt _ hB;have p1:=pos (r / BIN-1);have p2:=pos k
       calc (BIN+r % BIN)*2 ^ (r / BIN-1)<(2*BIN)*2 ^ (r / BIN-1):=Nat.mul_lt_mul_of_pos_right (by omega) p1
        _=BIN*(2 ^ (r / BIN-1)*2):=by rw[Nat.mul_comm 2 BIN,Nat.mul_assoc,Nat.mul_comm 2]
        _≤(BIN+s % BIN)*(2 ^ (r / BIN-1)*2):=Nat.mul_le_mul_right _ (by omega)
        _≤(BIN+s % BIN)*(2 ^ (r / BIN-1)*2*2 ^ k):=Nat.mul_le_mul_left _ (Nat.le_mul_of_pos_right _ p2)
     · rw[e2];refine Nat.mul_lt_mul_of_pos_right ?_ (pos _);have d1:=Nat.div_add_mod r BIN;have d2:=Nat.div_add_mod s BIN;rw[e2] at d1;omega
theorem Y8 {r s:Nat}:val r<val s↔r<s:=by
 refine⟨fun h=>?_,jbE⟩;rcases Nat.lt_trichotomy r s with g | g | g
 · exact g
 · subst g;exact absurd h (Nat.lt_irrefl _)
 · exact absurd (jbE g) (Nat.lt_asymm h)
theorem qA {r s:Nat}:val r=val s↔r=s:=by
 refine⟨fun h=>?_,fun h=>by rw[h]⟩;rcases Nat.lt_trichotomy r s with g | g | g
 · have:=jbE g;omega
 · exact g
 · have:=jbE g;omega
theorem val_zero:val 0=0:=by simp[val,fmg,ex]
theorem jkW (x y:Nat):Zt (qq x) (qq y)=Zt (jr x) (jr y):=by
 have key:(qq x<qq y↔jr x<jr y)∧(qq x=qq y↔jr x=jr y):=by
  unfold qq jr;have a:=@Y8 (rung x) (rung y);have b:=@Y8 (rung y) (rung x);have c:=@qA (rung x) (rung y);have d:=@Y8 0 (rung x);have e:=@Y8 0 (rung y);have f:=@qA 0 (rung x);have g:=@qA 0 (rung y);rw[val_zero] at d e f g
  cases sgn x<;>cases sgn y<;>simp<;>omega
 unfold Zt;simp only[key.1,key.2]
theorem jhJ:double.binade=BIN:=by decide +kernel
theorem jbZ:double.infRung=INF:=by decide +kernel
theorem jaF:double.signWeight=SGN:=by decide +kernel
theorem jcE:double.leastPlace=-1074:=by decide +kernel
theorem qt {x:Nat} (h:rung x<INF):double.read x=.number (sgn x) (fmg (rung x)) (-1074+(ex (rung x):Int)):=by
 unfold Format.read;simp only[jhJ,jbZ,jaF,jcE];have e:x % SGN=rung x:=rfl;by_cases h1:rung x<BIN
 · simp[e,h1,fmg,ex,sgn]
 · simp[e,h1,h,fmg,ex,sgn]
theorem qy {x:Nat} (h:rung x=INF):double.read x=.infinity (sgn x):=by
 unfold Format.read;simp only[jhJ,jbZ,jaF,jcE];have e:x % SGN=rung x:=rfl;rw[e,h];rw[if_neg (by decide),if_neg (by decide),if_pos rfl];rfl
theorem qe {x:Nat} (h:INF<rung x):double.read x=.nan (sgn x) (rung x-INF):=by
 unfold Format.read;simp only[jhJ,jbZ,jaF,jcE];have e:x % SGN=rung x:=rfl
 have h1:¬rung x<BIN:=by have:BIN<INF:=by decide
                         omega
 have h2:¬rung x<INF:=by omega
 have h3:¬rung x=INF:=by omega
 simp[e,h1,h2,h3,sgn]
theorem jiM (s:Bool) (m u:Nat):signed s m u=if s then -((m*2 ^ u:Nat):Int) else ((m*2 ^ u:Nat):Int):=by
 unfold signed;simp only[Nat.shiftLeft_eq]
theorem jkD (a b:Int) (k:Int) (hk:0<k):Zt (a*k) (b*k)=Zt a b:=by
 have h1:a*k<b*k↔a<b:=Int.mul_lt_mul_right hk;have h2:a*k=b*k↔a=b:=by
  refine⟨fun h=>Int.eq_of_mul_eq_mul_right (by omega) h,fun h=>by rw[h]⟩
 unfold Zt;simp only[h1,h2]
theorem je2 (a b:Int):compare a b=Zt a b:=rfl
theorem jiU {x y:Nat} (hx:rung x<INF) (hy:rung y<INF):double.order x y=some (Zt (jr x) (jr y)):=by
 unfold Format.order;rw[qt hx,qt hy];simp only[Datum.order,Option.some.injEq];rw[je2,←jkW];have e1:(-1074+(ex (rung x):Int)-min (-1074+(ex (rung x):Int)) (-1074+(ex (rung y):Int))).toNat=ex (rung x)-min (ex (rung x)) (ex (rung y)):=by omega
 have e2:(-1074+(ex (rung y):Int)-min (-1074+(ex (rung x):Int)) (-1074+(ex (rung y):Int))).toNat=ex (rung y)-min (ex (rung x)) (ex (rung y)):=by omega
 rw[e1,e2,←jkD _ _ ((2 ^ min (ex (rung x)) (ex (rung y)):Nat):Int) (by have:=Nat.two_pow_pos (min (ex (rung x)) (ex (rung y)));omega)];have f:∀z:Nat,min (ex (rung x)) (ex (rung y))≤ex (rung z)→signed (sgn z) (fmg (rung z)) (ex (rung z)-min (ex (rung x)) (ex (rung y)))*((2 ^ min (ex (rung x)) (ex (rung y)):Nat):Int)=qq z:=by
  intro z hz;rw[jiM];have:fmg (rung z)*2 ^ (ex (rung z)-min (ex (rung x)) (ex (rung y)))*2 ^ min (ex (rung x)) (ex (rung y))=val (rung z):=by
   rw[Nat.mul_assoc,←Nat.pow_add,Nat.sub_add_cancel hz];rfl
  unfold qq
  cases sgn z
  · simp only[Bool.false_eq_true,if_false];rw[←Int.natCast_mul,this]
  · simp only[if_true];rw[Int.neg_mul,←Int.natCast_mul,this]
 rw[f x (Nat.min_le_left _ _),f y (Nat.min_le_right _ _)]
theorem jgu {a b:Int} (h:a<b):Zt a b=.lt:=by unfold Zt;rw[if_pos h]
theorem jgG {a b:Int} (h:b<a):Zt a b=.gt:=by unfold Zt;rw[if_neg (by omega),if_neg (by omega)]
theorem jeV {x:Nat} (h:rung x<INF):jr x<(INF:Int)∧-(INF:Int)<jr x:=by
 unfold jr;split<;>omega
theorem jjN (x y:Nat):double.order x y=if isNaN x||isNaN y then none else some (Zt (jr x) (jr y)):=by
 unfold isNaN;rcases Nat.lt_trichotomy (rung x) INF with hx | hx | hx
 · rcases Nat.lt_trichotomy (rung y) INF with hy | hy | hy
   · rw[jiU hx hy,if_neg];simp only[Bool.or_eq_true,decide_eq_true_eq];omega
   · have hs:=jeV hx;unfold Format.order;rw[qt hx,qy hy,if_neg (by simp only[Bool.or_eq_true,decide_eq_true_eq];omega)];simp only[Datum.order,Option.some.injEq];have:jr y=if sgn y then -(INF:Int) else INF:=by unfold jr;rw[hy]
     rw[this];clear this
     cases sgn y
     · simp only[Bool.false_eq_true,if_false];rw[jgu (by omega)]
     · simp only[if_true];rw[jgG (by omega)]
   · unfold Format.order;rw[qe hy,if_pos (by simp only[Bool.or_eq_true,decide_eq_true_eq];omega)]
     cases double.read x<;>rfl
 · rcases Nat.lt_trichotomy (rung y) INF with hy | hy | hy
   · have hs:=jeV hy;unfold Format.order;rw[qt hy,qy hx,if_neg (by simp only[Bool.or_eq_true,decide_eq_true_eq];omega)];simp only[Datum.order,Option.some.injEq];have:jr x=if sgn x then -(INF:Int) else INF:=by unfold jr;rw[hx]
     rw[this];clear this
     cases sgn x
     · simp only[Bool.false_eq_true,if_false];rw[jgG (by omega)]
     · simp only[if_true];rw[jgu (by omega)]
   · unfold Format.order;rw[qy hx,qy hy,if_neg (by simp only[Bool.or_eq_true,decide_eq_true_eq];omega)];simp only[Datum.order,Option.some.injEq];have e1:jr x=if sgn x then -(INF:Int) else INF:=by unfold jr;rw[hx]
     have e2:jr y=if sgn y then -(INF:Int) else INF:=by unfold jr;rw[hy]
     rw[e1,e2]
     cases sgn x<;>cases sgn y<;>decide +kernel
   · unfold Format.order;rw[qe hy,if_pos (by simp only[Bool.or_eq_true,decide_eq_true_eq];omega)]
     cases double.read x<;>rfl
 · unfold Format.order;rw[qe hx,if_pos (by simp only[Bool.or_eq_true,decide_eq_true_eq];omega)];rfl
def cls (x:Nat):Int:=if isNaN x then 6 else if jr x=-INF then 0 else if jr x=INF then 5 else if jr x<0 then 1 else if 0<jr x then 4 else if sgn x then 2 else 3
def key (x:Nat):Int:=if isNaN x then SGN else if sgn x then -(rung x:Int)-1 else rung x
def cp (x y:Nat):Int:=if key x<key y then -1 else if key x=key y then 0 else 1
theorem jeW (x:Nat):rung (x ^^^ 2 ^ 63)=rung x:=by
 have h:=Nat.xor_mod_two_pow (a:=x) (b:=2 ^ 63) (n:=63);rw[Nat.mod_self,Nat.xor_zero] at h;exact h
theorem jlt (x:Nat):sgn (x ^^^ 2 ^ 63)=!sgn x:=by
 have h:=Nat.xor_div_two_pow (a:=x) (b:=2 ^ 63) (n:=63);unfold sgn;rw[show SGN=2 ^ 63 from rfl,h,Nat.div_self (Nat.two_pow_pos 63)];have h2:=Nat.xor_mod_two_pow (a:=x / 2 ^ 63) (b:=1) (n:=1);rw[Nat.pow_one] at h2;rw[h2];rcases Nat.mod_two_eq_zero_or_one (x / 2 ^ 63) with g | g
 · rw[g];rfl
 · rw[g];rfl
theorem jiO (x:Nat):isNaN (x ^^^ 2 ^ 63)=isNaN x:=by unfold isNaN;rw[jeW]
theorem jiy (x:Nat):jr (x ^^^ 2 ^ 63)=-jr x:=by
 unfold jr;rw[jeW,jlt];cases sgn x<;>simp
theorem jl2:((SGN:Nat):Int)=9223372036854775808:=rfl
theorem jfb:((INF:Nat):Int)=9218868437227405312:=rfl
theorem jgl (x:Nat):isNaN x=true↔INF<rung x:=by unfold isNaN;simp
theorem YE (x:Nat):isNaN x=false↔rung x≤INF:=by unfold isNaN;simp
theorem Ze (x:Nat):(sgn x=true∧jr x=-(rung x:Int))∨(sgn x=false∧jr x=rung x):=by
 unfold jr;cases sgn x<;>simp
theorem jaG (x:Nat):rung x<SGN:=Nat.mod_lt _ (by decide)
theorem jkZ {x y:Nat} (h:cls x<cls y):cp x y=-1:=by
 have hx:=Ze x;have hy:=Ze y;have nx:=YE x;have ny:=YE y;have lx:=jaG x;have ly:=jaG y;have eS:=jl2;have eI:=jfb;unfold cp;rw[if_pos];unfold cls at h;unfold key
 cases hn:isNaN x<;>cases hm:isNaN y<;>simp only[hn,hm,Bool.false_eq_true,if_false,if_true,true_iff,false_iff,reduceCtorEq] at*<;>rcases hx with ⟨hx1,hx2⟩ | ⟨hx1,hx2⟩<;>rcases hy with ⟨hy1,hy2⟩ | ⟨hy1,hy2⟩<;>simp only[hx1,hy1,Bool.false_eq_true,if_false,if_true] at*<;>omega
theorem jlf (x y:Nat):cp y x=-cp x y:=by
 unfold cp;omega
theorem jmG {x y:Nat} (h:cls y<cls x):cp x y=1:=by
 have:=jkZ h;rw[jlf] at this;omega
theorem jmM {x y:Nat} (h:cls x=cls y) (hn:isNaN x=false):isNaN y=false∧cp x y=if jr x<jr y then -1 else if jr x=jr y then 0 else 1:=by
 have hx:=Ze x;have hy:=Ze y;have nx:=YE x;have ny:=YE y;have lx:=jaG x;have ly:=jaG y;have eS:=jl2;have eI:=jfb;unfold cp;unfold cls at h;unfold key
 cases hm:isNaN y<;>simp only[hn,hm,Bool.false_eq_true,if_false,if_true,true_iff,false_iff,reduceCtorEq] at*<;>rcases hx with ⟨hx1,hx2⟩ | ⟨hx1,hx2⟩<;>rcases hy with ⟨hy1,hy2⟩ | ⟨hy1,hy2⟩<;>simp only[hx1,hy1,Bool.false_eq_true,if_false,if_true] at*<;>first | omega | (refine⟨trivial,?_⟩;omega)
theorem jmu {x y:Nat} (h:cls x=cls y) (hn:isNaN x=true):isNaN y=true∧cp x y=0:=by
 have hy:isNaN y=true:=by
  unfold cls at h
  cases hm:isNaN y
  · simp only[hn,hm,Bool.false_eq_true,if_false,if_true] at h;omega
  · rfl
 refine⟨hy,?_⟩;unfold cp key;simp[hn,hy]
theorem Kept.oneB (w:World) (c:Array Value) (t:TypeId):Kept w (w.alloc (.cells c t)):=(Below.refl _ _).alloc (Nat.le_refl _) _
theorem jae (x y:Nat):FloatKind.f64.format.order x y=if isNaN x||isNaN y then none else some (Zt (jr x) (jr y)):=jjN x y
theorem jer (x:Nat):(FloatKind.f64.format.order x x != some .eq)=isNaN x:=by
 rw[jae];cases isNaN x<;>simp[Zt]
theorem je1 (x y:Nat):(FloatKind.f64.format.order x y==some .lt)=(!isNaN x&&!isNaN y&&decide (jr x<jr y)):=by
 rw[jae];unfold Zt;cases isNaN x<;>cases isNaN y<;>simp<;>split<;>simp_all<;>first | omega | (split<;>simp_all<;>omega)
theorem qT (x y:Nat):(FloatKind.f64.format.order x y==some .gt)=(!isNaN x&&!isNaN y&&decide (jr y<jr x)):=by
 rw[jae];unfold Zt;cases isNaN x<;>cases isNaN y<;>simp<;>split<;>simp_all<;>first | omega | (split<;>simp_all<;>omega)
theorem YY:jr 0=0∧isNaN 0=false∧sgn 0=false∧rung 0=0:=by decide +kernel
theorem XE:jr 9218868437227405311=9218868437227405311∧isNaN 9218868437227405311=false:=by decide +kernel
theorem jj5 {P:Program} (k:FloatKind) (b:Nat) (w:World):(Op.unary .neg (.float k b)).run P w=.ok (.float k (Op.negFloat k b)) w:=rfl
theorem jm4 (x:Nat):Op.negFloat .f64 x=x ^^^ 2 ^ 63:=rfl
theorem Zp (x:Nat) (w:World):Calls Tryz.prog 105 #[.float .f64 x] w fun e w'=>e=.returned (.bool (isNaN x))∧w=w':=by
 have h:=jer x;go_enter Tryz.func105,Tryz.ntmps105;go_wp2;go_ret;exact⟨rfl,rfl⟩
theorem Z6 (x:Nat) (w:World) (hx:isNaN x=false):Calls Tryz.prog 106 #[.float .f64 x,.int .i64 (-1)] w fun e w'=>e=.returned (.bool (decide (jr x=-9218868437227405312)))∧w=w':=by
 have h:(FloatKind.f64.format.order (Op.negFloat .f64 x) 9218868437227405311==some .gt)=decide (jr x=-9218868437227405312):=by
  rw[qT,jm4,jiO,hx,XE.2,XE.1,jiy];have h1:=Ze x;have h2:=(YE x).1 hx;have eI:=jfb;simp only[Bool.not_false,Bool.true_and,decide_eq_decide];omega
 have r:=@jj5 Tryz.prog .f64 x;generalize Op.negFloat .f64 x=y at h r
 go_enter Tryz.func106,Tryz.ntmps106;go_wp2;go_ret;exact⟨rfl,rfl⟩
theorem Yc (x:Nat) (w:World) (hx:isNaN x=false):Calls Tryz.prog 106 #[.float .f64 x,.int .i64 1] w fun e w'=>e=.returned (.bool (decide (jr x=9218868437227405312)))∧w=w':=by
 have h:(FloatKind.f64.format.order x 9218868437227405311==some .gt)=decide (jr x=9218868437227405312):=by
  rw[qT,hx,XE.2,XE.1];have h1:=Ze x;have h2:=(YE x).1 hx;have eI:=jfb;simp only[Bool.not_false,Bool.true_and,decide_eq_decide];omega
 go_enter Tryz.func106,Tryz.ntmps106;go_wp2;go_ret;exact⟨rfl,rfl⟩
theorem jka (x:Nat) (w:World):(callFunc 167 #[.float .f64 x]).run Tryz.prog w=.ok (.value (.int .u64 x)) w:=by
 rw[run_callFunc_extern Tryz.func167 (by kernel_rfl) (by kernel_rfl) (by kernel_rfl) (e:=Extern.MathFloatBits.float64bits) (by kernel_rfl)];rfl
theorem jaV (x:Nat) (w:World):Calls Tryz.prog 107 #[.float .f64 x] w fun e w'=>e=.returned (.bool (sgn x))∧w=w':=by
 have hb:=jka x;have hs:decide (wrap64 (x:Int)<0)=sgn x:=by
  unfold wrap64 sgn;rw[show SGN=9223372036854775808 from rfl];rcases Nat.mod_two_eq_zero_or_one (x / 9223372036854775808) with h | h
  · rw[h];simp;omega
  · rw[h];simp;omega
 go_enter Tryz.func107,Tryz.ntmps107;go_wp2;go_ret;exact⟨rfl,rfl⟩
theorem jdk (x:Nat) (w:World):Calls Tryz.prog 49 #[.float .f64 x] w fun e w'=>e=.returned (.int .i64 (cls x))∧w=w':=by
 have eI:=jfb
 cases hx:isNaN x with
 | true =>
  have hc:cls x=6:=by unfold cls;rw[hx];rfl
  rw[hc];go_enter Tryz.func49,Tryz.ntmps49;go_wp2_with fail
  refine(Zp _ _).mono ?_;rintro e w' ⟨rfl,rfl⟩;go_wp2_with fail
  go_ret;exact⟨rfl,rfl⟩
 | false =>
  have h1:(FloatKind.f64.format.order x 0==some .lt)=decide (jr x<0):=by rw[je1,hx,YY.2.1,YY.1];simp
  have h2:(FloatKind.f64.format.order x 0==some .gt)=decide (0<jr x):=by rw[qT,hx,YY.2.1,YY.1];simp
  have hc:cls x=if jr x=-9218868437227405312 then 0 else if jr x=9218868437227405312 then 5 else if jr x<0 then 1 else if 0<jr x then 4 else if sgn x then 2 else 3:=by unfold cls;rw[hx];rfl
  rw[hc];clear hc eI;by_cases a0:jr x=-9218868437227405312
  · rw[if_pos a0];go_enter Tryz.func49,Tryz.ntmps49;go_wp2_with fail
    refine(Zp _ _).mono ?_;rintro e w' ⟨rfl,rfl⟩;go_wp2_with fail
    refine(Z6 _ _ hx).mono ?_;rintro e w' ⟨rfl,rfl⟩;go_wp2_with fail
    go_ret;exact⟨rfl,rfl⟩
  · rw[if_neg a0];by_cases a1:jr x=9218868437227405312
    · rw[if_pos a1];go_enter Tryz.func49,Tryz.ntmps49;go_wp2_with fail
      refine(Zp _ _).mono ?_;rintro e w' ⟨rfl,rfl⟩;go_wp2_with fail
      refine(Z6 _ _ hx).mono ?_;rintro e w' ⟨rfl,rfl⟩;go_wp2_with fail
      refine(Yc _ _ hx).mono ?_;rintro e w' ⟨rfl,rfl⟩;go_wp2_with fail
      go_ret;exact⟨rfl,rfl⟩
    · rw[if_neg a1];by_cases a2:jr x<0
      · rw[if_pos a2];go_enter Tryz.func49,Tryz.ntmps49;go_wp2_with fail
        refine(Zp _ _).mono ?_;rintro e w' ⟨rfl,rfl⟩;go_wp2_with fail
        refine(Z6 _ _ hx).mono ?_;rintro e w' ⟨rfl,rfl⟩;go_wp2_with fail
        refine(Yc _ _ hx).mono ?_;rintro e w' ⟨rfl,rfl⟩;go_wp2_with fail
        go_ret;exact⟨rfl,rfl⟩
      · rw[if_neg a2];by_cases a3:0<jr x
        · rw[if_pos a3];go_enter Tryz.func49,Tryz.ntmps49;go_wp2_with fail
          refine(Zp _ _).mono ?_;rintro e w' ⟨rfl,rfl⟩;go_wp2_with fail
          refine(Z6 _ _ hx).mono ?_;rintro e w' ⟨rfl,rfl⟩;go_wp2_with fail
          refine(Yc _ _ hx).mono ?_;rintro e w' ⟨rfl,rfl⟩;go_wp2_with fail
          go_ret;exact⟨rfl,rfl⟩
        · rw[if_neg a3]
          cases hs:sgn x with
          | true =>
           go_enter Tryz.func49,Tryz.ntmps49;go_wp2_with fail
           refine(Zp _ _).mono ?_;rintro e w' ⟨rfl,rfl⟩;go_wp2_with fail
           refine(Z6 _ _ hx).mono ?_;rintro e w' ⟨rfl,rfl⟩;go_wp2_with fail
           refine(Yc _ _ hx).mono ?_;rintro e w' ⟨rfl,rfl⟩;go_wp2_with fail
           refine(jaV _ _).mono ?_;rintro e w' ⟨rfl,rfl⟩;go_wp2_with fail
           go_ret;exact⟨rfl,rfl⟩
          | false =>
           go_enter Tryz.func49,Tryz.ntmps49;go_wp2_with fail
           refine(Zp _ _).mono ?_;rintro e w' ⟨rfl,rfl⟩;go_wp2_with fail
           refine(Z6 _ _ hx).mono ?_;rintro e w' ⟨rfl,rfl⟩;go_wp2_with fail
           refine(Yc _ _ hx).mono ?_;rintro e w' ⟨rfl,rfl⟩;go_wp2_with fail
           refine(jaV _ _).mono ?_;rintro e w' ⟨rfl,rfl⟩;go_wp2_with fail
           go_ret;exact⟨rfl,rfl⟩
theorem jao (x:Int) (w:World):Calls Tryz.prog 113 #[.int .i64 x] w fun e w'=>e=.returned (.bool false)∧w=w':=by
 go_enter Tryz.func113,Tryz.ntmps113;go_wp2;go_ret;exact⟨rfl,rfl⟩
theorem Jb (x:Nat) (w:World):Calls Tryz.prog 114 #[.float .f64 x] w fun e w'=>e=.returned (.bool (isNaN x))∧w=w':=by
 have h:=jer x;go_enter Tryz.func114,Tryz.ntmps114;go_wp2;go_ret;exact⟨rfl,rfl⟩
theorem jlw (x y:Int) (w:World):Calls Tryz.prog 54 #[.int .i64 x,.int .i64 y] w fun e w'=>e=.returned (.int .i64 (if x<y then -1 else if x=y then 0 else 1))∧w=w':=by
 by_cases h1:x<y
 · rw[if_pos h1];go_enter Tryz.func54,Tryz.ntmps54;go_wp2_with (go_at_call 113;refine(jao _ _).mono ?_;rintro e w' ⟨rfl,rfl⟩)
   go_ret;exact⟨rfl,rfl⟩
 · rw[if_neg h1];by_cases h2:x=y
   · rw[if_pos h2];have h3:¬y<x:=by omega
     go_enter Tryz.func54,Tryz.ntmps54;go_wp2_with (go_at_call 113;refine(jao _ _).mono ?_;rintro e w' ⟨rfl,rfl⟩)
     go_ret;exact⟨rfl,rfl⟩
   · rw[if_neg h2];have h3:y<x:=by omega
     go_enter Tryz.func54,Tryz.ntmps54;go_wp2_with (go_at_call 113;refine(jao _ _).mono ?_;rintro e w' ⟨rfl,rfl⟩)
     go_ret;exact⟨rfl,rfl⟩
theorem jdf (x y:Nat) (w:World) (h:cls x=cls y):Calls Tryz.prog 55 #[.float .f64 x,.float .f64 y] w fun e w'=>e=.returned (.int .i64 (cp x y))∧w=w':=by
 cases hx:isNaN x with
 | true =>
  obtain⟨hy,hc⟩:=jmu h hx;rw[hc];clear hc h;go_enter Tryz.func55,Tryz.ntmps55;go_wp2_with (go_at_call 114;refine(Jb _ _).mono ?_;rintro e w' ⟨rfl,rfl⟩)
  go_ret;exact⟨rfl,rfl⟩
 | false =>
  obtain⟨hy,hc⟩:=jmM h hx;rw[hc];clear hc h;have o1:(FloatKind.f64.format.order x y==some .lt)=decide (jr x<jr y):=by rw[je1,hx,hy];simp
  have o2:(FloatKind.f64.format.order x y==some .gt)=decide (jr y<jr x):=by rw[qT,hx,hy];simp
  by_cases h1:jr x<jr y
  · rw[if_pos h1];go_enter Tryz.func55,Tryz.ntmps55;go_wp2_with (go_at_call 114;refine(Jb _ _).mono ?_;rintro e w' ⟨rfl,rfl⟩)
    go_ret;exact⟨rfl,rfl⟩
  · rw[if_neg h1];by_cases h2:jr x=jr y
    · rw[if_pos h2];have h3:¬jr y<jr x:=by omega
      go_enter Tryz.func55,Tryz.ntmps55;go_wp2_with (go_at_call 114;refine(Jb _ _).mono ?_;rintro e w' ⟨rfl,rfl⟩)
      go_ret;exact⟨rfl,rfl⟩
    · rw[if_neg h2];have h3:jr y<jr x:=by omega
      go_enter Tryz.func55,Tryz.ntmps55;go_wp2_with (go_at_call 114;refine(Jb _ _).mono ?_;rintro e w' ⟨rfl,rfl⟩)
      go_ret;exact⟨rfl,rfl⟩
open Go.RowKit Ieee
theorem jgA (x y t:Nat):isNaN ((Question.nanBits .f64 x y).cut t)=true∧(Question.nanBits .f64 x y).cut t<18446744073709551616:=by
 have e:(Question.nanBits .f64 x y).cut t=(t % 2)*9223372036854775808+9218868437227405312+1+(t / 2) % 4503599627370495:=rfl;rw[e,jgl];unfold rung;rw[show SGN=9223372036854775808 from rfl,show INF=9218868437227405312 from rfl];have ha:t % 2<2:=Nat.mod_lt _ (by decide);have hb:(t / 2) % 4503599627370495<4503599627370495:=Nat.mod_lt _ (by decide);generalize t % 2=a at ha ⊢
 generalize (t / 2) % 4503599627370495=b at hb ⊢
 omega
theorem Xc (n:Bool) {r:Nat} (h:r≤INF):isNaN (double.word n r)=false∧double.word n r<18446744073709551616∧rung (double.word n r)=r∧sgn (double.word n r)=n:=by
 have eS:SGN=9223372036854775808:=rfl;have eI:INF=9218868437227405312:=rfl;have hr:rung (double.word n r)=r:=by
  unfold rung Format.word;rw[jaF,eS];split<;>omega
 have hs:sgn (double.word n r)=n:=by
  unfold sgn Format.word;rw[jaF,eS]
  cases n
  · rw[if_neg (by simp),show r / 9223372036854775808=0 from by omega];rfl
  · rw[if_pos rfl,show (9223372036854775808+r) / 9223372036854775808=1 from by omega];rfl
 refine⟨by rw[YE,hr];exact h,?_,hr,hs⟩;unfold Format.word;rw[jaF];split<;>omega
def jhl (mag:Nat) (place:Int):Nat:=rung (double.nearest false mag place)
theorem Xb (n:Bool) (m:Nat) (p:Int):double.nearest n m p=double.word n (jhl m p)∧jhl m p≤INF:=by
 have h:∃r,r≤INF∧∀n',double.nearest n' m p=double.word n' r:=by
  by_cases hm:m=0
  · exact⟨0,by decide,fun n'=>by unfold Format.nearest;rw[if_pos hm]⟩
  · unfold Format.nearest;simp only[hm,if_false,jbZ];exact⟨min ((max (p+(m.log2:Int)-double.fractionBits) double.leastPlace-double.leastPlace).toNat*double.binade+Toward.even.cut false (m <<< (p-max (p+(m.log2:Int)-double.fractionBits) double.leastPlace).toNat) (max (p+(m.log2:Int)-double.fractionBits) double.leastPlace-p).toNat) INF,Nat.min_le_right _ _,fun n'=>rfl⟩
 obtain⟨r,hr,he⟩:=h;have:jhl m p=r:=by unfold jhl;rw[he false];exact(Xc false hr).2.2.1
 rw[this];exact⟨he n,hr⟩
theorem ja8 {d:Datum} (h:d.isNaN=false):isNaN (double.write d)=false∧double.write d<18446744073709551616:=by
 cases d with
 | number s m p =>
  unfold Format.write;dsimp only;rw[(Xb s m p).1];exact⟨(Xc s (Xb s m p).2).1,(Xc s (Xb s m p).2).2.1⟩
 | infinity s =>
  unfold Format.write;dsimp only;rw[jbZ];exact⟨(Xc s (Nat.le_refl _)).1,(Xc s (Nat.le_refl _)).2.1⟩
 | nan s t=>cases h
theorem jeP {a b d:Datum} (h:a.sum b=some d):d.isNaN=false:=by
 cases a<;>cases b<;>simp only[Datum.sum] at h<;>first | (cases h;done) | (split at h<;>cases h<;>rfl) | (cases h;rfl)
theorem jdC {k:Nat} {a b d:Datum} (h:a.quotient k b=some d):d.isNaN=false:=by
 cases a<;>cases b<;>simp only[Datum.quotient] at h<;>first | (cases h;done) | (cases h;rfl) | (split at h<;>first | (split at h<;>cases h<;>rfl) | (cases h;rfl))
theorem jeQ {x y r:Nat} (h:double.add x y=some r):isNaN r=false∧r<18446744073709551616:=by
 unfold Format.add at h
 cases hs:(double.read x).sum (double.read y) with
 | none=>rw[hs] at h;cases h
 | some d=>rw[hs] at h;cases h;exact ja8 (jeP hs)
theorem jeH {x y r:Nat} (h:double.sub x y=some r):isNaN r=false∧r<18446744073709551616:=by
 unfold Format.sub at h
 cases hs:(double.read x).sum (double.read y).opposite with
 | none=>rw[hs] at h;cases h
 | some d=>rw[hs] at h;cases h;exact ja8 (jeP hs)
theorem jet {x y r:Nat} (h:double.div x y=some r):isNaN r=false∧r<18446744073709551616:=by
 unfold Format.div at h
 cases hs:(double.read x).quotient (double.fractionBits+2) (double.read y) with
 | none=>rw[hs] at h;cases h
 | some d=>rw[hs] at h;cases h;exact ja8 (jdC hs)
def nrm (x:Nat):Option Nat:=if isNaN x then none else some x
theorem Yz {x r:Nat}:nrm x=some r↔isNaN x=false∧x=r:=by unfold nrm;cases isNaN x<;>simp
theorem Yy {x:Nat}:nrm x=none↔isNaN x=true:=by unfold nrm;cases isNaN x<;>simp
theorem jc5 {P:Program} (op:BinOp) (f:Nat→Nat→Option Nat) (hop:(op=.add∧f=double.add)∨(op=.sub∧f=double.sub)∨(op=.quo∧f=double.div)) (x y:Nat) (w:World) :
 ∃r n,(∀t,(binOp op t (.float .f64 x) (.float .f64 y)).run P w=.ok (.float .f64 r) (w.drewN n))∧nrm r=f x y∧r<18446744073709551616:=by
 cases h:f x y with
 | some r =>
  refine⟨r,0,fun t=>?_,?_⟩
  · rw[World.drewN_zero];refine run_float_arith w op t .f64 x y r ?_;rcases hop with ⟨rfl,rfl⟩ | ⟨rfl,rfl⟩ | ⟨rfl,rfl⟩<;>exact h
  · rw[Yz];rcases hop with ⟨rfl,rfl⟩ | ⟨rfl,rfl⟩ | ⟨rfl,rfl⟩
    · exact⟨⟨(jeQ h).1,rfl⟩,(jeQ h).2⟩
    · exact⟨⟨(jeH h).1,rfl⟩,(jeH h).2⟩
    · exact⟨⟨(jet h).1,rfl⟩,(jet h).2⟩
 | none =>
  refine⟨(Question.nanBits .f64 x y).cut (w.tape w.drawn (.nanBits .f64 x y)),1,fun t=>?_,Yy.2 (jgA _ _ _).1,(jgA _ _ _).2⟩;have hd:w.drew=w.drewN 1:=rfl;rw[←hd];rcases hop with ⟨rfl,rfl⟩ | ⟨rfl,rfl⟩ | ⟨rfl,rfl⟩
  · have h':FloatKind.f64.format.add x y=none:=h;simp[binOp,Op.floatArith,h',Question.forced]
  · have h':FloatKind.f64.format.sub x y=none:=h;simp[binOp,Op.floatArith,h',Question.forced]
  · have h':FloatKind.f64.format.div x y=none:=h;simp[binOp,Op.floatArith,h',Question.forced]
theorem jlh {P:Program} (x y:Nat) (w:World):∃r n,(∀t,(binOp .add t (.float .f64 x) (.float .f64 y)).run P w=.ok (.float .f64 r) (w.drewN n))∧nrm r=double.add x y∧r<18446744073709551616:=jc5 .add _ (.inl ⟨rfl,rfl⟩) x y w
theorem jge {P:Program} (x y:Nat) (w:World):∃r n,(∀t,(binOp .quo t (.float .f64 x) (.float .f64 y)).run P w=.ok (.float .f64 r) (w.drewN n))∧nrm r=double.div x y∧r<18446744073709551616:=jc5 .quo _ (.inr (.inr ⟨rfl,rfl⟩)) x y w
def RC (x:Nat) (w:World) (e:Ending) (w':World):Prop:=e=.returned (.int .i64 (cls x))∧∃n,w'=w.drewN n
theorem jms (x y:Int) (w:World) (t:TypeId):Calls Tryz.prog 53 #[.slice (some ⟨w.heap.size,0,none⟩) 2 2] (w.alloc (.cells #[.int .i64 x,.int .i64 y] t))
 fun e w'=>e=.returned (.int .i64 (if x=0 then y else x))∧w.alloc (.cells #[.int .i64 x,.int .i64 y] t)=w':=by
 have c0:(w.alloc (.cells #[.int .i64 x,.int .i64 y] t)).cell? ⟨w.heap.size,0,none⟩=some (.int .i64 x):=by simp
 have c1:(w.alloc (.cells #[.int .i64 x,.int .i64 y] t)).cell? ⟨w.heap.size,1,none⟩=some (.int .i64 y):=by simp
 generalize w.alloc (.cells #[.int .i64 x,.int .i64 y] t)=w1 at c0 c1 ⊢
 generalize w.heap.size=b at c0 c1 ⊢
 by_cases hx:x=0
 · subst hx;rw[if_pos rfl];by_cases hy:y=0
   · subst hy;go_enter Tryz.func53,Tryz.ntmps53;go_wp2;refine wp_loop_rounds 3 ?_;rw[rounds_succ];go_wp2;rw[rounds_succ];go_wp2;rw[rounds_succ];go_wp2;go_ret;exact⟨rfl,rfl⟩
   · go_enter Tryz.func53,Tryz.ntmps53;go_wp2;refine wp_loop_rounds 3 ?_;rw[rounds_succ];go_wp2;rw[rounds_succ];go_wp2;go_ret;exact⟨rfl,rfl⟩
 · rw[if_neg hx];go_enter Tryz.func53,Tryz.ntmps53;go_wp2;refine wp_loop_rounds 3 ?_;rw[rounds_succ];go_wp2;go_ret;exact⟨rfl,rfl⟩
def CP (x y:Nat) (w:World) (e:Ending) (w':World):Prop:=e=.returned (.int .i64 (cp x y))∧∃c t,w'=w.alloc (.cells c t)
theorem CP.kept {x y:Nat} {w:World} {e:Ending} {w':World} (h:CP x y w e w'):e=.returned (.int .i64 (cp x y))∧Kept w w':=by
 obtain⟨rfl,c,t,rfl⟩:=h;exact⟨rfl,Kept.oneB _ _ _⟩
theorem jdD (x y:Nat) (w:World):∃c:Int,Calls Tryz.prog 55 #[.float .f64 x,.float .f64 y] w fun e w'=>e=.returned (.int .i64 c)∧w=w':=by
 cases hx:isNaN x with
 | true =>
  cases hy:isNaN y with
  | true=>exact⟨_,jdf x y w (by unfold cls;rw[hx,hy];rfl)⟩
  | false =>
   refine⟨-1,?_⟩;go_enter Tryz.func55,Tryz.ntmps55;go_wp2_with (go_at_call 114;refine(Jb _ _).mono ?_;rintro e w' ⟨rfl,rfl⟩)
   go_ret;exact⟨rfl,rfl⟩
 | false =>
  cases hy:isNaN y with
  | true =>
   refine⟨1,?_⟩;go_enter Tryz.func55,Tryz.ntmps55;go_wp2_with (go_at_call 114;refine(Jb _ _).mono ?_;rintro e w' ⟨rfl,rfl⟩)
   go_ret;exact⟨rfl,rfl⟩
  | false =>
   have o1:(FloatKind.f64.format.order x y==some .lt)=decide (jr x<jr y):=by rw[je1,hx,hy];simp
   have o2:(FloatKind.f64.format.order x y==some .gt)=decide (jr y<jr x):=by rw[qT,hx,hy];simp
   by_cases h1:jr x<jr y
   · refine⟨-1,?_⟩;go_enter Tryz.func55,Tryz.ntmps55;go_wp2_with (go_at_call 114;refine(Jb _ _).mono ?_;rintro e w' ⟨rfl,rfl⟩)
     go_ret;exact⟨rfl,rfl⟩
   · by_cases h2:jr y<jr x
     · refine⟨1,?_⟩;go_enter Tryz.func55,Tryz.ntmps55;go_wp2_with (go_at_call 114;refine(Jb _ _).mono ?_;rintro e w' ⟨rfl,rfl⟩)
       go_ret;exact⟨rfl,rfl⟩
     · refine⟨0,?_⟩;go_enter Tryz.func55,Tryz.ntmps55;go_wp2_with (go_at_call 114;refine(Jb _ _).mono ?_;rintro e w' ⟨rfl,rfl⟩)
       go_ret;exact⟨rfl,rfl⟩
theorem jaW (x y:Nat) (w:World):Calls Tryz.prog 20 #[.float .f64 x,.float .f64 y] w (CP x y w):=by
 obtain⟨c2,hc2,he⟩:∃c2:Int,(Calls Tryz.prog 55 #[.float .f64 x,.float .f64 y] w fun e w'=>e=.returned (.int .i64 c2)∧w=w') ∧
  cp x y=if (if cls x<cls y then -1 else if cls x=cls y then 0 else 1:Int)=0 then c2 else (if cls x<cls y then -1 else if cls x=cls y then 0 else 1):=by
  by_cases h2:cls x=cls y
  · refine⟨cp x y,jdf x y w h2,?_⟩;simp only[h2,Int.lt_irrefl,if_false,if_true]
  · obtain⟨c,hc⟩:=jdD x y w;refine⟨c,hc,?_⟩;by_cases h1:cls x<cls y
    · rw[if_pos h1,jkZ h1];rfl
    · rw[if_neg h1,if_neg h2,jmG (by omega)];rfl
 unfold CP;rw[he];clear he;have hcx:=jdk x w;have hcy:=jdk y w;have hci:=jlw (cls x) (cls y) w;generalize (if cls x<cls y then -1 else if cls x=cls y then 0 else 1:Int)=c1 at hci ⊢
 generalize cls x=kx at hcx hci
 generalize cls y=ky at hcy hci
 have ho:=jms c1 c2;generalize (if c1=0 then c2 else c1)=r at ho ⊢
 have HO:=lH ho;clear ho;go_enter Tryz.func20,Tryz.ntmps20;go_wp2_with fail
 refine hcx.mono ?_;rintro e1 w1 ⟨rfl,rfl⟩;go_wp2_with fail
 refine hcy.mono ?_;rintro e1 w1 ⟨rfl,rfl⟩;go_wp2_with fail
 refine hci.mono ?_;rintro e1 w1 ⟨rfl,rfl⟩;go_wp2_with fail
 refine hc2.mono ?_;rintro e1 w1 ⟨rfl,rfl⟩;go_wp2_with fail
 refine(HO.out _ _).mono ?_;rintro e1 w1 ⟨rfl,rfl⟩;go_wp2_with fail
 go_ret;exact⟨rfl,_,_,rfl⟩
def RCP (x y:Nat) (w:World) (e:Ending) (w':World):Prop:=e=.returned (.int .i64 (cp x y))∧∃n,w'=w.drewN n
theorem RCP.kept {x y:Nat} {w:World} {e:Ending} {w':World} (h:RCP x y w e w'):e=.returned (.int .i64 (cp x y))∧Kept w w':=by
 obtain⟨rfl,n,rfl⟩:=h;exact⟨rfl,Kept.drewN _ _⟩
def AL (x y:Nat) (w:World) (e:Ending) (w':World):Prop:=e=.returned (.bool (decide (cp x y=0)))∧∃n,w'=w.drewN n
theorem AL.kept {x y:Nat} {w:World} {e:Ending} {w':World} (h:AL x y w e w'):e=.returned (.bool (decide (cp x y=0)))∧Kept w w':=by
 obtain⟨rfl,n,rfl⟩:=h;exact⟨rfl,Kept.drewN _ _⟩
abbrev TOP:Nat:=18446744073709551616
def jeB (w:World) (a:Option Addr) (len:Nat) (l:List Nat):Prop :=
 l.length=len∧len≤maxLen∧(∀x ∈ l,x<TOP) ∧
  (len=0∨∃b off,a=some ⟨b,off,none⟩∧b<w.heap.size∧∀i,i<len→w.cell? ⟨b,off+i,none⟩=some (.float .f64 (l.getD i 0)))
theorem jeB.kept {w w':World} {a:Option Addr} {len:Nat} {l:List Nat} (h:jeB w a len l) (k:Kept w w'):jeB w' a len l:=by
 obtain⟨h0,h1,h2,h3⟩:=h;refine⟨h0,h1,h2,h3.imp id ?_⟩;rintro ⟨b,off,ha,hb,hc⟩;exact⟨b,off,ha,Nat.lt_of_lt_of_le hb k.size,fun i hi=>(Below.cell k (p:=⟨b,off+i,none⟩) hb).trans (hc i hi)⟩
theorem Kept.alloc {a b:World} (h:Kept a b) (o:Obj):Kept a (b.alloc o):=h.trans ((Below.refl _ _).alloc (Nat.le_refl _) _)
def OF (a b:Int) (w:World) (e:Ending) (w':World):Prop:=∃r n,e=.returned (.float .f64 r)∧w'=w.drewN n∧nrm r=Ieee.double.div (floatOfInt .f64 a) (floatOfInt .f64 b)∧r<TOP
theorem jke (a b:Int) (w:World):Calls Tryz.prog 164 #[.int .i64 a,.int .i64 b] w (OF a b w):=by
 unfold OF;obtain⟨r,n,hq,hn,hr⟩:=jge (P:=Tryz.prog) (floatOfInt .f64 a) (floatOfInt .f64 b) w;have HN:=lH hn;clear hn;go_enter Tryz.func164,Tryz.ntmps164;go_wp2;go_ret;exact⟨r,n,rfl,rfl,HN.out,hr⟩
def NN (w:World) (e:Ending) (w':World):Prop:=∃r n,e=.returned (.float .f64 r)∧w'=w.drewN n∧isNaN r=true∧r<TOP
theorem jdW (n:Int) (w:World):(callFunc 216 #[.int .u64 n]).run Tryz.prog w=.ok (.value (.float .f64 n.toNat)) w:=by
 rw[run_callFunc_extern Tryz.func216 (by kernel_rfl) (by kernel_rfl) (by kernel_rfl) (e:=Extern.MathFloatBits.float64frombits) (by kernel_rfl)];rfl
theorem jlC (w:World):Calls Tryz.prog 173 #[] w (NN w):=by
 unfold NN;have h:=jdW 9221120237041090561;go_enter Tryz.func173,Tryz.ntmps173;go_wp2;go_ret;exact⟨_,0,rfl,rfl,by decide +kernel,by decide +kernel⟩
def jeF (s:Option Nat) (x:Nat):Option Nat:=s.bind fun s=>Ieee.double.add s x
def qE (l:List Nat):Nat→Option Nat
 | 0=>some 0
 | k+1=>jeF (qE l k) (l.getD k 0)
def qH (l:List Nat):Option Nat:=if l.length=0 then none else (qE l l.length).bind fun s=>Ieee.double.div s (floatOfInt .f64 l.length)
theorem qv {x:Nat} (h:isNaN x=true):∃s t,Ieee.double.read x=.nan s t:=⟨_,_,qe ((jgl x).1 h)⟩
theorem jk3 {s:Nat} (x:Nat) (h:isNaN s=true):Ieee.double.add s x=none:=by
 obtain⟨a,b,e⟩:=qv h;unfold Ieee.Format.add;rw[e]
 cases Ieee.double.read x<;>rfl
theorem jlH {s:Nat} (x:Nat) (h:isNaN s=true):Ieee.double.div s x=none:=by
 obtain⟨a,b,e⟩:=qv h;unfold Ieee.Format.div;rw[e]
 cases Ieee.double.read x<;>rfl
theorem jmd {s x r:Nat} {acc:Option Nat} (hs:nrm s=acc) (hr:nrm r=Ieee.double.add s x):nrm r=jeF acc x:=by
 subst hs;unfold jeF
 cases hn:nrm s with
 | none=>rw[hr,jk3 x (Yy.1 hn)];rfl
 | some s'=>obtain⟨_,rfl⟩:=Yz.1 hn;exact hr
theorem jmc {s x r:Nat} {acc:Option Nat} (hs:nrm s=acc) (hr:nrm r=Ieee.double.div s x):nrm r=acc.bind fun s=>Ieee.double.div s x:=by
 subst hs
 cases hn:nrm s with
 | none=>rw[hr,jlH x (Yy.1 hn)];rfl
 | some s'=>obtain⟨_,rfl⟩:=Yz.1 hn;exact hr
def MEA (l:List Nat) (w:World) (e:Ending) (w':World):Prop:=∃r,e=.returned (.float .f64 r)∧nrm r=qH l∧r<TOP∧Kept w w'
theorem jkK (a:Option Addr) (len cap:Nat) (l:List Nat) (w:World) (hr:jeB w a len l) :
 Calls Tryz.prog 115 #[.slice a len cap] w (MEA l w):=by
 unfold MEA;obtain⟨hl,hm,hx,hc⟩:=hr;unfold maxLen at hm;by_cases h0:len=0
 · subst h0;have hd:qH l=none:=by unfold qH;rw[if_pos hl]
   have HD:=lH hd;have HN:=lH (jlC);clear hd hl hc hx;go_enter Tryz.func115,Tryz.ntmps115;go_wp2_with fail
   refine(HN.out _).mono ?_;rintro e w1 ⟨r,n,rfl,rfl,hn,ht⟩;have H2:=lH hn;clear hn;go_wp2_with fail
   go_ret;exact⟨r,rfl,by rw[HD.out];exact Yy.2 H2.out,ht,Kept.drewN _ _⟩
 rcases hc with rfl | ⟨b,off,rfl,hb,hc⟩
 · omega
 · have hd:qH l=(qE l len).bind fun s=>Ieee.double.div s (floatOfInt .f64 len):=by unfold qH;rw[if_neg (by omega),hl]
   obtain⟨HE,HC,HB⟩:=lH3 hd hc hb;have hb0:((len:Int)==0)=false:=by simp;omega
   clear hc hb hx hl hd;go_enter Tryz.func115,Tryz.ntmps115;go_wp2;go_loopw [3,12] (fun m i wr=>∃k s:Nat,k≤len∧i=.int .i64 k∧m=.float .f64 s∧nrm s=qE l k∧Kept w wr) (fun _ i _=>len-(intOf i).toNat)
   case atStart=>exact⟨0,0,by omega,rfl,rfl,(show nrm 0=some 0 from by decide +kernel),Kept.refl _⟩
   case round =>
    obtain⟨k,s,hk,rfl,rfl,hd,hkw⟩:=hrel;have HD:=lH hd;have HK:=lH hkw;clear hd hkw;by_cases hlt:k<len
    · have c:=(Below.cell HK.out (p:=⟨b,off+k,none⟩) HB.out).trans (HC.out k hlt);obtain⟨x,ex⟩:=eX (l.getD k 0)
      rw[ex] at c;have EX:=lH ex;clear ex;obtain⟨r,n,hq,hn,_⟩:=jlh (P:=Tryz.prog) s x wr;have HN:=lH hn;clear hn;go_wp2;go_roundw
      case rel=>exact⟨k+1,r,by omega,by go_num,rfl,by rw[qE,EX.out];exact jmd HD.out HN.out,HK.out.trans (Kept.drewN _ _)⟩
      case measure=>simp[intOf];omega
    · have ek:k=len:=by omega
      subst ek;obtain⟨r,n,hq,hn,ht⟩:=jge (P:=Tryz.prog) s (floatOfInt .f64 k) wr;have HN:=lH hn;clear hn;go_wp2;go_ret;exact⟨r,rfl,by rw[HE.out];exact jmc HD.out HN.out,ht,HK.out.trans (Kept.drewN _ _)⟩
end Go.Proofs.YtokdjfoalkmhiaaGreat
