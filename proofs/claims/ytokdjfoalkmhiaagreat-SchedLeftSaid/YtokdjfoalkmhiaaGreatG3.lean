/- C. -/
import Derived.Test.YtokdjfoalkmhiaaGreatG0
import Derived.Test.YtokdjfoalkmhiaaGreatG1
import Derived.Test.YtokdjfoalkmhiaaGreatG2
import Derived.Deep.AppendSrc
import Derived.Deep.DeepAppendWide
set_option linter.unusedVariables false
set_option maxRecDepth 100000
set_option maxHeartbeats 25600000
namespace Go.Proofs.YtokdjfoalkmhiaaGreat
open Go.RowKit
theorem jaK (B:Nat) (q:Nat) (x y:Int) (w:World) (hq:w.cell? ⟨q,0,none⟩=some (.int .i64 y)) (hzq:w.frozen? ⟨q,0,none⟩=false) (hBq:B≤q) :
 CallsD Tryz.prog 135 #[.pointer (some ⟨q,0,none⟩)] (.panicking [zo x]) w fun e u' w' =>
  e=.returned (.tuple #[])∧u'=.panicking [{ zo x with recovered:=true }]∧w'=w.setCell ⟨q,0,none⟩ (.int .i64 x)∧w'.cell? ⟨q,0,none⟩=some (.int .i64 x)∧Below B w w':=by
 have hta:∀W,(Instr.typeAssert (.iface 45 (.int .i64 x)) 20 45 false).run Tryz.prog W=.ok (.int .i64 x) W:=fun _=>by kernel_rfl
 refine callsD_of_wpS Tryz.func135 rfl fun c₀ cs hu=>?_;apply wpS_seq;apply wpS_region;simp[wpOpsS,go_sem,recoverD,hu,Tryz.ntmps135,Exit.thenS];apply wpS_seq;apply wpS_region;simp[wpOpsS,go_sem,recoverD,Exit.thenS];refine wpS_cond (t:=true) (by simp[Act.eval,Array.replicate]) ?_;simp only[if_true];refine wpS_of_wp ?_;simp[Array.replicate];go_wp2;simp[bodyPostS,results,Tryz.results135];exact⟨World.cell?_setCell_same' _ _ _ (by rw[hq];rfl),(Below.refl B w).setCell (p:=⟨q,0,none⟩) hBq _⟩
theorem jdY (q:Addr) (w:World) :
 CallsD Tryz.prog 135 #[.pointer (some q)] .returning w fun e u' w'=>e=.returned (.tuple #[])∧u'=.returning∧w'=w:=by
 refine callsD_of_wpS Tryz.func135 rfl fun c₀ cs hu=>?_;apply wpS_seq;apply wpS_region;simp[wpOpsS,go_sem,recoverD,hu,Tryz.ntmps135,Exit.thenS];apply wpS_seq;apply wpS_region;simp[wpOpsS,go_sem,recoverD,hu,Exit.thenS];refine wpS_cond (t:=false) (by simp[Act.eval,Array.replicate]) ?_;simp only[Bool.false_eq_true,if_false];refine wpS_of_wp (wp_skip ?_)
 cases c₀
 simp_all [bodyPostS,results,Tryz.results135]
theorem qD (B:Nat) (w:World):Jr B w (.agg #[.string ⟨#[]⟩,.slice none 0 0,.slice none 0 0,.slice none 0 0,.bool false]) Nod.zero :=
 ⟨none,0,0,none,0,0,none,0,0,rfl,(by decide:(0:Nat)≤maxLen),Vec.Reads.nil w,Reads.nil w,Reads.nil w,(fun _ _ _ e=>by cases e),(fun _ _ _ e=>by cases e),(fun _ _ _ e=>by cases e)⟩
theorem Jr.less {B B':Nat} {w:World} {v:Value} {n:Nod} (h:Jr B w v n) (hb:B'≤B):Jr B' w v n:=by
 obtain⟨a1,m1,c1,a2,m2,c2,a3,m3,c3,e,h0,h1,h2,h3,g1,g2,g3⟩:=h;exact⟨a1,m1,c1,a2,m2,c2,a3,m3,c3,e,h0,h1,h2,h3,fun b o s e=>Nat.le_trans hb (g1 b o s e),fun b o s e=>Nat.le_trans hb (g2 b o s e),fun b o s e=>Nat.le_trans hb (g3 b o s e)⟩
theorem Jr.far {B:Nat} {w w':World} {v:Value} {n:Nod} (h:Jr B w v n) (hs:w'.heap.size=w.heap.size) (hb:∀b,B≤b→w'.heap[b]?=w.heap[b]?):Jr B w' v n:=by
 obtain⟨a1,m1,c1,a2,m2,c2,a3,m3,c3,e,h0,h1,h2,h3,g1,g2,g3⟩:=h;exact⟨a1,m1,c1,a2,m2,c2,a3,m3,c3,e,h0,h1.far hs (fun b o s e=>hb b (g1 b o s e)),h2.far hs (fun b o s e=>hb b (g2 b o s e)),h3.far hs (fun b o s e=>hb b (g3 b o s e)),g1,g2,g3⟩
theorem Jr.kept {B:Nat} {w w':World} {v:Value} {n:Nod} (h:Jr B w v n) (k:Kept w w'):Jr B w' v n:=by
 obtain⟨a1,m1,c1,a2,m2,c2,a3,m3,c3,e,h0,h1,h2,h3,g1,g2,g3⟩:=h;exact⟨a1,m1,c1,a2,m2,c2,a3,m3,c3,e,h0,h1.kept k,h2.kept k,h3.kept k,g1,g2,g3⟩
def jmJ (q:Nat) (x:ByteArray) (a1 a2 a3:Option Addr) (m1 c1 m2 c2 m3 c3:Nat) (b:Bool) (W W':World):Prop :=
 (W'.cell? ⟨q,0,none⟩=some (.string x)∧W'.cell? ⟨q,1,none⟩=some (.slice a1 m1 c1)∧W'.cell? ⟨q,2,none⟩=some (.slice a2 m2 c2)∧W'.cell? ⟨q,3,none⟩=some (.slice a3 m3 c3)∧W'.cell? ⟨q,4,none⟩=some (.bool b)) ∧
  W'.heap.size=W.heap.size∧(∀j,j≠q→W'.heap[j]?=W.heap[j]?)∧∀B w,B≤q→Below B w W→Below B w W'
theorem Zc {W:World} {q:Nat} {v0 v1 v2 v3 v4:Value} (y:W.cell? ⟨q,0,none⟩=some v0∧W.cell? ⟨q,1,none⟩=some v1∧W.cell? ⟨q,2,none⟩=some v2∧W.cell? ⟨q,3,none⟩=some v3∧W.cell? ⟨q,4,none⟩=some v4) (x:ByteArray) (a1 a2 a3:Option Addr) (m1 c1 m2 c2 m3 c3:Nat) (b:Bool) :
 jmJ q x a1 a2 a3 m1 c1 m2 c2 m3 c3 b W (((((W.setCell ⟨q,0,none⟩ (.string x)).setCell ⟨q,1,none⟩ (.slice a1 m1 c1)).setCell ⟨q,2,none⟩ (.slice a2 m2 c2)).setCell ⟨q,3,none⟩ (.slice a3 m3 c3)).setCell ⟨q,4,none⟩ (.bool b)) :=
 ⟨qo y.1 y.2.1 y.2.2.1 y.2.2.2.1 y.2.2.2.2 _ rfl,jjB _ _ _ _ _ _ _,fun j hj=>jbU _ _ _ _ _ _ _ j hj,
  fun B w hB hk=>((((hk.setCell (p:=⟨q,0,none⟩) hB _).setCell (p:=⟨q,1,none⟩) hB _).setCell (p:=⟨q,2,none⟩) hB _).setCell (p:=⟨q,3,none⟩) hB _).setCell (p:=⟨q,4,none⟩) hB _⟩
def Kind (t e:TypeId) (size bytes:Nat):Prop:=∃i z,Tryz.prog.underlying t=some (.slice e)∧Tryz.prog.info? e=some i∧i.zero=some z∧i.size=size∧i.bytes=bytes∧z.cells.size=size∧0<size
def jan (w:World) (y:Value) (m:Nat) (news:List Value):Prop :=
 (∃ad c,y=.slice (some ad) m c∧∀j u,news[j]?=some u→w.cell? (ad.add j)=some u)∨(∃c,y=.slice none 0 c∧m=0)
theorem jfo {t e:TypeId} {size bytes:Nat} (K:Kind t e size bytes) (w:World) (B:Nat) (hB:B≤w.heap.size) (g n cap:Nat) (xs:List Value) (hown:w.ownsRow B e size (.slice (some ⟨g,0,none⟩) n cap) n xs) (y:Value) (m:Nat) (news:List Value) (hl:news.length=m*size) (hone:∀u ∈ news,u.oneCell'=true) (hy:jan w y m news)
 (h63:n+m≤maxLen) (hb:((n+m)+(n+m) / 4+192)*bytes≤281474976710656) (ty:TypeId) :
 ∃g' cap' w',(Builtin.append_ #[t,t] ty #[.slice (some ⟨g,0,none⟩) n cap,y]).run Tryz.prog w=.ok (.slice (some ⟨g',0,none⟩) (n+m) cap') w'∧w'.ownsRow B e size (.slice (some ⟨g',0,none⟩) (n+m) cap') (n+m) (xs++news)∧Below B w w'∧w.grownBy w' (some g):=by
 obtain⟨i,z,ht,hi,hz,h1,h8,hzs,hsz⟩:=K;have hbg:B≤g:=by
  rcases hown.2 with ⟨h0,_⟩ | ⟨g2,cap2,cur,h0,hbg,_⟩
  · cases h0
  · cases h0;exact hbg
 rcases hy with ⟨ad,c,rfl,hc⟩ | ⟨c,rfl,rfl⟩
 · obtain⟨v',w',hr,ho,hg,hnil⟩:=run_append_own_wide w B t ty e i z size bytes ht hi hz h1 h8 hzs hsz _ n xs hown ad m c news hl hc hone h63 hb hB;have hb:=(Below.refl B w).grown hg hB (by intro k hk;cases hk;exact hbg);rcases ho.2 with ⟨h0,_⟩ | ⟨g2,cap2,cur,rfl,_⟩
   · have:=(hnil.1 h0).1
     cases this
   · exact⟨g2,cap2,w',hr,ho,hb,hg⟩
 · have:news=[]:=List.eq_nil_of_length_eq_zero (by rw[hl,Nat.zero_mul]);subst this;rcases hown.2 with ⟨h0,_⟩ | ⟨g2,cap2,cur,h0,_,hg,hnc,_⟩
   · cases h0
   · cases h0
     have hr:=run_append_room_src w t t ty e i ht hi g 0 n cap (.slice none 0 c) 0 [] (Src.ofNil w ht c) (by omega) (by intro j hj;simp at hj) (by intro j hj;simp at hj);exact⟨_,_,_,hr,by simpa [World.setCells] using hown,Below.refl B w,World.grownBy.refl _ _⟩
theorem jg9 {t e:TypeId} {size bytes:Nat} (Kd:Kind t e size bytes) {o:Oper} {a:Act} {K:Act→World→Prop} {Q:Exit→Act→World→Prop} (s x:Operand) (w:World)
 (ho:o.op=.call { callee:=.builtin .append,args:=#[s,x],argTypes:=#[t,t] })
 (B:Nat) (hB:B≤w.heap.size) (g n cap:Nat) (xs:List Value) (hs:a.eval s=.slice (some ⟨g,0,none⟩) n cap) (hown:w.ownsRow B e size (.slice (some ⟨g,0,none⟩) n cap) n xs) (y:Value) (m:Nat) (news:List Value) (hx:a.eval x=y) (hl:news.length=m*size) (hone:∀u ∈ news,u.oneCell'=true) (hy:jan w y m news)
 (h63:n+m≤maxLen) (hb:((n+m)+(n+m) / 4+192)*bytes≤281474976710656)
 (h:∀g' cap' w',w'.ownsRow B e size (.slice (some ⟨g',0,none⟩) (n+m) cap') (n+m) (xs++news)→Below B w w'→w.grownBy w' (some g)→K (a.put o.dst (.slice (some ⟨g',0,none⟩) (n+m) cap')) w'):o.wp Tryz.prog a w K Q:=by
 obtain⟨g',cap',w',hr,h2,h3,h4⟩:=jfo Kd w B hB g n cap xs hown y m news hl hone hy h63 hb o.type;unfold Oper.wp execOp;simp only[ho,resolve,invoke,builtin,Sem.run_bind,Sem.run_pure,Result.andThen_ok,List.map_toArray,List.map_cons,List.map_nil,hs,hx,hr];exact h g' cap' w' h2 h3 h4
theorem zM {t e:TypeId} {size bytes:Nat} (Kd:Kind t e size bytes) {ops:Array Oper} {rest:List Oper} {o:Oper} {a:Act} {Q:Exit→Act→World→Prop} (w:World) (hgd:o.guard=none) (s x:Operand)
 (ho:o.op=.call { callee:=.builtin .append,args:=#[s,x],argTypes:=#[t,t] })
 (B:Nat) (hB:B≤w.heap.size) (g n cap:Nat) (xs:List Value) (hs:a.eval s=.slice (some ⟨g,0,none⟩) n cap) (hown:w.ownsRow B e size (.slice (some ⟨g,0,none⟩) n cap) n xs) (y:Value) (m:Nat) (news:List Value) (hx:a.eval x=y) (hl:news.length=m*size) (hone:∀u ∈ news,u.oneCell'=true) (hy:jan w y m news)
 (h63:n+m≤maxLen) (hb:((n+m)+(n+m) / 4+192)*bytes≤281474976710656)
 (h:∀g' cap' w',w'.ownsRow B e size (.slice (some ⟨g',0,none⟩) (n+m) cap') (n+m) (xs++news)→Below B w w'→w.grownBy w' (some g)→wpList Tryz.prog ops Q rest (a.put o.dst (.slice (some ⟨g',0,none⟩) (n+m) cap')) w'):wpList Tryz.prog ops Q (o::rest) a w :=
 wpList_plain hgd fun _ hK=>jg9 Kd s x w ho B hB g n cap xs hs hown y m news hx hl hone hy h63 hb fun g' cap' w' h2 h3 h4=>hK _ _ (h g' cap' w' h2 h3 h4)
theorem J5 (w:World) (B size:Nat) (e:TypeId) (hB:B≤w.heap.size):(w.alloc (.cells #[] e)).ownsRow B e size (.slice (some ⟨w.heap.size,0,none⟩) 0 0) 0 [] :=
 ⟨by simp,.inr ⟨w.heap.size,0,#[],rfl,hB,World.alloc_heap_new w _,by omega,by unfold maxLen;omega,by simp,by simp⟩⟩
theorem qM {α:Type} (L:Lay α):∀(l:List α) (j:Nat) (u:Value),(jd L l)[j]?=some u→∃i x k,l[i]?=some x∧(L.cs x)[k]?=some u∧j=i*L.m+k
 | [],j,u,h=>by simp[jd] at h
 | y::t,j,u,h=>by
  unfold jd at h;rw[List.flatMap_cons] at h;by_cases hj:j<L.m
  · rw[List.getElem?_append_left (by rw[L.len];exact hj)] at h;exact⟨0,y,j,rfl,h,by omega⟩
  · rw[List.getElem?_append_right (by rw[L.len];omega),L.len] at h;obtain⟨i,x,k,h1,h2,h3⟩:=qM L t (j-L.m) u h;exact⟨i+1,x,k,by simpa using h1,h2,by rw[Nat.add_mul];omega⟩
theorem jn.src {α:Type} {L:Lay α} {w:World} {a:Option Addr} {len cap:Nat} {l:List α} (h:jn L w a len l):jan w (.slice a len cap) len (jd L l):=by
 obtain⟨h0,h1,h2,h3⟩:=h;rcases h3 with h3 | ⟨b,off,rfl,hb,hc⟩
 · have hl:l=[]:=List.eq_nil_of_length_eq_zero (by omega);subst hl;subst h3
   cases a with
   | none=>exact .inr ⟨cap,rfl,rfl⟩
   | some ad=>exact .inl ⟨ad,cap,rfl,fun j u hu=>by simp[jd] at hu⟩
 · refine .inl ⟨_,cap,rfl,fun j u hu=>?_⟩;obtain⟨i,x,k,hi,hk,rfl⟩:=qM L l j u hu;have e:(⟨b,off,none⟩:Addr).add (i*L.m+k)=⟨b,off+i*L.m+k,none⟩:=by
    unfold Addr.add;split<;>simp_all [Nat.add_assoc]
   rw[e];exact hc i x k u hi hk
theorem jmH:Kind 39 156 2 32:=by
 obtain⟨i,hi,hz,h1,h2⟩:=info_parts (show (Tryz.prog.info? 156).map (fun i=>(i.zero,i.size,i.bytes))=some (some (.agg #[.string ByteArray.empty,.string ByteArray.empty]),2,32) by kernel_rfl);exact⟨i,_,Tryz.underlying39,hi,hz,h1,h2,rfl,by decide⟩
theorem jmw:Kind 55 159 3 40:=by
 obtain⟨i,hi,hz,h1,h2⟩:=info_parts (show (Tryz.prog.info? 159).map (fun i=>(i.zero,i.size,i.bytes))=some (some (.agg #[.string ByteArray.empty,.string ByteArray.empty,.bool false]),3,40) by kernel_rfl);exact⟨i,_,Tryz.underlying55,hi,hz,h1,h2,rfl,by decide⟩
theorem jmx:Kind 37 100 2 24:=by
 obtain⟨i,hi,hz,h1,h2⟩:=info_parts (show (Tryz.prog.info? 100).map (fun i=>(i.zero,i.size,i.bytes))=some (some (.agg #[.string ByteArray.empty,.int .i64 0]),2,24) by kernel_rfl);exact⟨i,_,Tryz.underlying37,hi,hz,h1,h2,rfl,by decide⟩
theorem jcy:∀(l:Vec.V) (j:Nat) (u:Value),(Vec.cellsOf l)[j]?=some u→∃i,i<l.length∧((j=i*2∧u=.string (Vec.nm l i))∨(j=i*2+1∧u=.int .i64 (Vec.qn l i))):=by
 intro l j u h;have hlt:j<l.length*2:=by have:=(List.getElem?_eq_some_iff.1 h).1;rw[Vec.Yq] at this;exact this
 have hi:j / 2<l.length:=by omega
 obtain⟨h1,h2⟩:=Vec.qB l (j / 2) hi;refine⟨j / 2,hi,?_⟩;by_cases he:j % 2=0
 · have e:j=j / 2*2:=by omega
   rw[←e] at h1;rw[h1] at h;exact .inl ⟨e,by cases h;rfl⟩
 · have e:j=j / 2*2+1:=by omega
   rw[←e] at h2;rw[h2] at h;exact .inr ⟨e,by cases h;rfl⟩
theorem jlb {w:World} {a:Option Addr} {len cap:Nat} {l:Vec.V} (h:Vec.ju w a len l):jan w (.slice a len cap) len (Vec.cellsOf l):=by
 obtain⟨h0,h1,h2,h3⟩:=h;rcases h3 with h3 | ⟨b,off,rfl,hb,hc⟩
 · have hl:l=[]:=List.eq_nil_of_length_eq_zero (by omega);subst hl;subst h3
   cases a with
   | none=>exact .inr ⟨cap,rfl,rfl⟩
   | some ad=>exact .inl ⟨ad,cap,rfl,fun j u hu=>by simp[Vec.cellsOf] at hu⟩
 · refine .inl ⟨_,cap,rfl,fun j u hu=>?_⟩;obtain⟨i,hi,hj⟩:=jcy l j u hu;obtain⟨c1,c2⟩:=hc i (by omega);have e:(⟨b,off,none⟩:Addr).add j=⟨b,off+j,none⟩:=by
    unfold Addr.add;split<;>simp_all
   rw[e];rcases hj with ⟨rfl,rfl⟩ | ⟨rfl,rfl⟩
   · exact c1
   · rw[←Nat.add_assoc];exact c2
theorem qF (a:Option Addr) (len cap:Nat) (l:PL) (w:World) (hr:jn jy w a len l) (hc:len≤cap) (hm:cap≤maxLen) (hn:len≤1000000) :
 Calls Tryz.prog 144 #[.slice a len cap] w fun e w'=>∃a' m' c',e=.returned (.slice a' m' c')∧Reads jy w' (.slice a' m' c') l∧(∀b off sp,a'=some ⟨b,off,sp⟩→w.heap.size≤b)∧Kept w w':=by
 have hl:=hr.1;have q22:∀(w:World) (a:Option Addr) (n c n' c':Nat),(binOp .eql 39 (.slice a n c) (.slice none n' c')).run Tryz.prog w=.ok (.bool a.isNone) w:=fun w a n c n' c'=>Lib.run_eql_slice_nil w _ _ a n c n' c' Tryz.underlying39
 cases a with
 | none =>
  have h0:len=0:=by
   rcases hr.form with h | ⟨b,off,h⟩
   · exact h
   · cases h
  subst h0;have hl0:l=[]:=List.eq_nil_of_length_eq_zero hl;subst hl0;clear hr hl;go_enter Tryz.func144,Tryz.ntmps144;go_wp2;go_ret;exact⟨none,0,0,rfl,Reads.nil _,(fun b o s e=>by cases e),Kept.refl _⟩
 | some ad =>
  have HR:=lH hr;have HL:=lH hl;have hrl:(jd jy l).length=len*2:=by rw[jR,hl];rfl
  have hb1:0+len≤maxLen:=by unfold maxLen;omega
  have hb2:((0+len)+(0+len) / 4+192)*32≤281474976710656:=by omega
  clear hr hl;go_enter Tryz.func144,Tryz.ntmps144;go_wp2_with (at_builtin;refine zM jmH _ rfl (.tmp 5) (.tmp 6) rfl w.heap.size (by simp) w.heap.size 0 0 [] rfl (J5 w w.heap.size 2 _ (Nat.le_refl _)) _ len (jd jy l) rfl hrl (zR _ _) (jn.src (HR.out.kept (ja _ _))) hb1 hb2 ?_;intro g1 k1 W1 ho hd hg;have HO:=lH ho;have HD:=lH hd;clear ho hd hg;refine Hid.out ?_)
  refine lH ?_;simp only[Nat.zero_add,List.nil_append] at HO ⊢;go_wp2;go_ret;exact⟨_,_,_,rfl,Own.reads (⟨by rw[HL.out];exact HO.out,HR.out.2.2.1⟩:Own jy 156 W1 w.heap.size (.slice (some ⟨g1,0,none⟩) len k1) l),(fun b o s e=>by cases e;exact(HO.out.lt g1 rfl).1),Below.trans (ja w _) HD.out⟩
theorem jbJ (a:Option Addr) (len cap:Nat) (l:NL) (w:World) (hr:jn jz w a len l) (hc:len≤cap) (hm:cap≤maxLen) (hn:len≤1000000) :
 Calls Tryz.prog 145 #[.slice a len cap] w fun e w'=>∃a' m' c',e=.returned (.slice a' m' c')∧Reads jz w' (.slice a' m' c') l∧(∀b off sp,a'=some ⟨b,off,sp⟩→w.heap.size≤b)∧Kept w w':=by
 have hl:=hr.1;have q22:∀(w:World) (a:Option Addr) (n c n' c':Nat),(binOp .eql 55 (.slice a n c) (.slice none n' c')).run Tryz.prog w=.ok (.bool a.isNone) w:=fun w a n c n' c'=>Lib.run_eql_slice_nil w _ _ a n c n' c' Tryz.underlying55
 cases a with
 | none =>
  have h0:len=0:=by
   rcases hr.form with h | ⟨b,off,h⟩
   · exact h
   · cases h
  subst h0;have hl0:l=[]:=List.eq_nil_of_length_eq_zero hl;subst hl0;clear hr hl;go_enter Tryz.func145,Tryz.ntmps145;go_wp2;go_ret;exact⟨none,0,0,rfl,Reads.nil _,(fun b o s e=>by cases e),Kept.refl _⟩
 | some ad =>
  have HR:=lH hr;have HL:=lH hl;have hrl:(jd jz l).length=len*3:=by rw[jR,hl];rfl
  have hb1:0+len≤maxLen:=by unfold maxLen;omega
  have hb2:((0+len)+(0+len) / 4+192)*40≤281474976710656:=by omega
  clear hr hl;go_enter Tryz.func145,Tryz.ntmps145;go_wp2_with (at_builtin;refine zM jmw _ rfl (.tmp 5) (.tmp 6) rfl w.heap.size (by simp) w.heap.size 0 0 [] rfl (J5 w w.heap.size 3 _ (Nat.le_refl _)) _ len (jd jz l) rfl hrl (zR _ _) (jn.src (HR.out.kept (ja _ _))) hb1 hb2 ?_;intro g1 k1 W1 ho hd hg;have HO:=lH ho;have HD:=lH hd;clear ho hd hg;refine Hid.out ?_)
  refine lH ?_;simp only[Nat.zero_add,List.nil_append] at HO ⊢;go_wp2;go_ret;exact⟨_,_,_,rfl,Own.reads (⟨by rw[HL.out];exact HO.out,HR.out.2.2.1⟩:Own jz 159 W1 w.heap.size (.slice (some ⟨g1,0,none⟩) len k1) l),(fun b o s e=>by cases e;exact(HO.out.lt g1 rfl).1),Below.trans (ja w _) HD.out⟩
theorem qk (a:Option Addr) (len cap:Nat) (l:Vec.V) (w:World) (hr:Vec.ju w a len l) (hc:len≤cap) (hm:cap≤maxLen) (hn:len≤1000000) :
 Calls Tryz.prog 143 #[.slice a len cap] w fun e w'=>∃a' m' c',e=.returned (.slice a' m' c')∧Vec.Reads w' (.slice a' m' c') l∧(∀b off sp,a'=some ⟨b,off,sp⟩→w.heap.size≤b)∧Kept w w':=by
 have hl:=hr.1;have q22:∀(w:World) (a:Option Addr) (n c n' c':Nat),(binOp .eql 37 (.slice a n c) (.slice none n' c')).run Tryz.prog w=.ok (.bool a.isNone) w:=fun w a n c n' c'=>Lib.run_eql_slice_nil w _ _ a n c n' c' Tryz.underlying37
 cases a with
 | none =>
  have h0:len=0:=by
   rcases hr.form with h | ⟨b,off,h⟩
   · exact h
   · cases h
  subst h0;have hl0:l=[]:=List.eq_nil_of_length_eq_zero hl;subst hl0;clear hr hl;go_enter Tryz.func143,Tryz.ntmps143;go_wp2;go_ret;exact⟨none,0,0,rfl,Vec.Reads.nil _,(fun b o s e=>by cases e),Kept.refl _⟩
 | some ad =>
  have HR:=lH hr;have HL:=lH hl;have hrl:(Vec.cellsOf l).length=len*2:=by rw[Vec.Yq,hl]
  have hb1:0+len≤maxLen:=by unfold maxLen;omega
  have hb2:((0+len)+(0+len) / 4+192)*24≤281474976710656:=by omega
  clear hr hl;go_enter Tryz.func143,Tryz.ntmps143;go_wp2_with (at_builtin;refine zM jmx _ rfl (.tmp 5) (.tmp 6) rfl w.heap.size (by simp) w.heap.size 0 0 [] rfl (J5 w w.heap.size 2 _ (Nat.le_refl _)) _ len (Vec.cellsOf l) rfl hrl (Vec.ZO _) (jlb (HR.out.kept (ja _ _))) hb1 hb2 ?_;intro g1 k1 W1 ho hd hg;have HO:=lH ho;have HD:=lH hd;clear ho hd hg;refine Hid.out ?_)
  refine lH ?_;simp only[Nat.zero_add,List.nil_append] at HO ⊢;go_wp2;go_ret;exact⟨_,_,_,rfl,Vec.jQ.reads (⟨by rw[HL.out];exact HO.out,HR.out.2.2.1⟩:Vec.jQ 100 W1 w.heap.size (.slice (some ⟨g1,0,none⟩) len k1) l),(fun b o s e=>by cases e;exact(HO.out.lt g1 rfl).1),Below.trans (ja w _) HD.out⟩
def zh (q:Nat) (v0 v1 v2 v3 v4:Value) (W:World):Prop :=
 (W.cell? ⟨q,0,none⟩=some v0∧W.cell? ⟨q,1,none⟩=some v1∧W.cell? ⟨q,2,none⟩=some v2∧W.cell? ⟨q,3,none⟩=some v3∧W.cell? ⟨q,4,none⟩=some v4) ∧
  W.frozen? ⟨q,0,none⟩=false∧W.frozen? ⟨q,1,none⟩=false∧W.frozen? ⟨q,2,none⟩=false∧W.frozen? ⟨q,3,none⟩=false∧W.frozen? ⟨q,4,none⟩=false
theorem zh.block {q:Nat} {v0 v1 v2 v3 v4:Value} {W W':World} (h:zh q v0 v1 v2 v3 v4 W) (e:W'.heap[q]?=W.heap[q]?):zh q v0 v1 v2 v3 v4 W':=by
 have c:∀j,W'.cell? ⟨q,j,none⟩=W.cell? ⟨q,j,none⟩:=fun j=>World.cell?_of_block (a:=⟨q,j,none⟩) e;have f:∀j,W'.frozen? ⟨q,j,none⟩=W.frozen? ⟨q,j,none⟩:=fun j=>World.frozen?_of_block (a:=⟨q,j,none⟩) e;unfold zh;simp only[c,f];exact h
theorem zh.kept {q:Nat} {v0 v1 v2 v3 v4:Value} {W W':World} (h:zh q v0 v1 v2 v3 v4 W) (k:Kept W W'):zh q v0 v1 v2 v3 v4 W':=h.block (k.block q (World.block_lt_of_cell? _ _ h.1.1))
theorem zh.other {q p j:Nat} {v0 v1 v2 v3 v4 u:Value} {W:World} (h:zh q v0 v1 v2 v3 v4 W) (hp:q≠p):zh q v0 v1 v2 v3 v4 (W.setCell ⟨p,j,none⟩ u):=h.block (Below.heap_setCell W ⟨p,j,none⟩ u q hp)
theorem zh.set1 {q:Nat} {v0 v1 v2 v3 v4:Value} {W:World} (h:zh q v0 v1 v2 v3 v4 W) (u:Value):zh q v0 u v2 v3 v4 (W.setCell ⟨q,1,none⟩ u):=by
 obtain⟨⟨y0,y1,y2,y3,y4⟩,x0,x1,x2,x3,x4⟩:=h;refine⟨⟨?_,?_,?_,?_,?_⟩,?_,?_,?_,?_,?_⟩<;>go_simp
theorem zh.set2 {q:Nat} {v0 v1 v2 v3 v4:Value} {W:World} (h:zh q v0 v1 v2 v3 v4 W) (u:Value):zh q v0 v1 u v3 v4 (W.setCell ⟨q,2,none⟩ u):=by
 obtain⟨⟨y0,y1,y2,y3,y4⟩,x0,x1,x2,x3,x4⟩:=h;refine⟨⟨?_,?_,?_,?_,?_⟩,?_,?_,?_,?_,?_⟩<;>go_simp
theorem zh.set3 {q:Nat} {v0 v1 v2 v3 v4:Value} {W:World} (h:zh q v0 v1 v2 v3 v4 W) (u:Value):zh q v0 v1 v2 u v4 (W.setCell ⟨q,3,none⟩ u):=by
 obtain⟨⟨y0,y1,y2,y3,y4⟩,x0,x1,x2,x3,x4⟩:=h;refine⟨⟨?_,?_,?_,?_,?_⟩,?_,?_,?_,?_,?_⟩<;>go_simp
theorem Jv {α:Type} {L:Lay α} {B p j:Nat} {u:Value} {w:World} {a:Option Addr} {m c:Nat} {l:List α} (h:Reads L w (.slice a m c) l) (g:∀b off sp,a=some ⟨b,off,sp⟩→B≤b) (hp:p<B):Reads L (w.setCell ⟨p,j,none⟩ u) (.slice a m c) l :=
 h.far (by simp[World.setCell]) (fun b o s e=>Below.heap_setCell w ⟨p,j,none⟩ u b (show b≠p by have:=g b o s e;omega))
theorem JU {B p j:Nat} {u:Value} {w:World} {a:Option Addr} {m c:Nat} {l:Vec.V} (h:Vec.Reads w (.slice a m c) l) (g:∀b off sp,a=some ⟨b,off,sp⟩→B≤b) (hp:p<B):Vec.Reads (w.setCell ⟨p,j,none⟩ u) (.slice a m c) l :=
 h.far (by simp[World.setCell]) (fun b o s e=>Below.heap_setCell w ⟨p,j,none⟩ u b (show b≠p by have:=g b o s e;omega))
structure zV (n:Nod):Prop where
 cap:n.cap.length≤1000000
 labels:n.labels.length≤1000000
 taints:n.taints.length≤1000000
theorem jji (n:Nod) (a1 a2 a3:Option Addr) (m1 c1 m2 c2 m3 c3:Nat) (w:World) (h:zk w (.slice a1 m1 c1) (.slice a2 m2 c2) (.slice a3 m3 c3) n) (hl:zV n) :
 Calls Tryz.prog 210 #[.agg #[.string n.name,.slice a1 m1 c1,.slice a2 m2 c2,.slice a3 m3 c3,.bool n.cordon]] w fun e w'=>∃v,e=.returned v∧Jr w.heap.size w' v n∧Kept w w':=by
 have hsz:=h.size;obtain⟨x1,y1,e1,p1,q1,r1⟩:=h.cap
 cases e1
 obtain⟨x2,y2,e2,p2,q2,r2⟩:=h.labels
 cases e2
 obtain⟨x3,y3,e3,p3,q3,r3⟩:=h.taints
 cases e3
 obtain⟨H1,H2,H3⟩:=lH3 (fun W (k:Kept w W)=>qk a1 n.cap.length c1 n.cap W (r1.kept k) p1 q1 hl.cap) (fun W (k:Kept w W)=>qF a2 n.labels.length c2 n.labels W (r2.kept k) p2 q2 hl.labels) (fun W (k:Kept w W)=>jbJ a3 n.taints.length c3 n.taints W (r3.kept k) p3 q3 hl.taints);obtain⟨k1,hk1⟩:=eX (n.cap.length)
 obtain⟨k2,hk2⟩:=eX (n.labels.length)
 obtain⟨k3,hk3⟩:=eX (n.taints.length)
 obtain⟨x,hx⟩:=eX (n.name)
 obtain⟨cd,hcd⟩:=eX (n.cordon)
 have hxs:x.size≤maxLen:=by rw[←hx];exact hsz
 rw[hk1] at H1;rw[hk2] at H2;rw[hk3] at H3;rw[hk1,hk2,hk3,hx,hcd];have HX:=lH hx;have TX:=lH hcd;clear h hl p1 q1 r1 p2 q2 r2 p3 q3 r3 hk1 hk2 hk3 hx hcd hsz;obtain⟨Z,hZ⟩:=eX ((w.alloc (.cells #[.string x,.slice a1 k1 c1,.slice a2 k2 c2,.slice a3 k3 c3,.bool cd] 57)).alloc (.cells #[.string ⟨#[]⟩,.slice none 0 0,.slice none 0 0,.slice none 0 0,.bool false] 57))
 have hkz:Kept w Z:=by rw[←hZ];exact jm _ _ _
 have hzs:Z.heap.size=w.heap.size+2:=by rw[←hZ];simp
 have Q0:=lH (show zh w.heap.size (.string x) (.slice a1 k1 c1) (.slice a2 k2 c2) (.slice a3 k3 c3) (.bool cd) Z from YS w _ _ _ _ _ 57 Z (by rw[←hZ];exact ja _ _));have Q1:=lH (show zh (w.heap.size+1) (.string ⟨#[]⟩) (.slice none 0 0) (.slice none 0 0) (.slice none 0 0) (.bool false) Z by
  have:=YS (w.alloc (.cells #[.string x,.slice a1 k1 c1,.slice a2 k2 c2,.slice a3 k3 c3,.bool cd] 57)) (.string ⟨#[]⟩) (.slice none 0 0) (.slice none 0 0) (.slice none 0 0) (.bool false) 57 Z (by rw[hZ];exact Kept.refl _);rw[World.size_alloc] at this;exact this)
 have K:=lH hkz;have hs0:w.heap.size+2≤Z.heap.size:=by omega
 clear hkz hzs;obtain⟨⟨y0,y1,y2,y3,y4⟩,x0,x1,x2,x3,x4⟩:=Q0.out;go_enter Tryz.func210,Tryz.ntmps210;go_wp2_with fail
 try rw[hZ]
 clear hZ;clear y0 y1 y2 y3 y4 x0 x1 x2 x3 x4;refine(H1.out _ K.out).mono ?_;rintro e w1 ⟨b1,n1,d1,rfl,rr,gg,k⟩;obtain⟨Un,RA,K⟩:=lH3 (show ∀b off sp,b1=some ⟨b,off,sp⟩→w.heap.size+2≤b from fun b o s e=>by have:=gg b o s e;omega) rr (K.out.trans k);have hs1:w.heap.size+2≤w1.heap.size:=by have:=k.size;omega
 have Q0:=lH (Q0.out.kept k);have Q1:=lH (Q1.out.kept k);clear rr gg k hs0;obtain⟨⟨y0,y1,y2,y3,y4⟩,x0,x1,x2,x3,x4⟩:=Q0.out;obtain⟨Q0,Q1,RA,K⟩:=lH4 (Q0.out.set1 (.slice b1 n1 d1)) (Q1.out.other (p:=w.heap.size) (j:=1) (u:=.slice b1 n1 d1) (by omega)) (JU (p:=w.heap.size) (j:=1) (u:=.slice b1 n1 d1) RA.out Un.out (by omega)) (show Kept w (w1.setCell ⟨w.heap.size,1,none⟩ (.slice b1 n1 d1)) from K.out.setCell (p:=⟨w.heap.size,1,none⟩) (Nat.le_refl _) _);have hs0:w.heap.size+2≤(w1.setCell ⟨w.heap.size,1,none⟩ (.slice b1 n1 d1)).heap.size:=by simpa [World.setCell] using hs1
 clear hs1;obtain⟨⟨z0,z1,z2,z3,z4⟩,-⟩:=Q0.out;go_wp2_with fail
 clear y0 y1 y2 y3 y4 x0 x1 x2 x3 x4 z0 z1 z2 z3 z4;obtain⟨W1,hW1⟩:=eX (w1.setCell ⟨w.heap.size,1,none⟩ (.slice b1 n1 d1))
 rw[hW1] at Q0 Q1 RA K hs0 ⊢;clear hW1;refine(H2.out _ K.out).mono ?_;rintro e w2 ⟨b2,n2,d2,rfl,rr,gg,k⟩;obtain⟨Ve,RB,K⟩:=lH3 (show ∀b off sp,b2=some ⟨b,off,sp⟩→w.heap.size+2≤b from fun b o s e=>by have:=gg b o s e;omega) rr (K.out.trans k);have hs1:w.heap.size+2≤w2.heap.size:=by have:=k.size;omega
 obtain⟨Q0,Q1,RA⟩:=lH3 (Q0.out.kept k) (Q1.out.kept k) (RA.out.kept k);clear rr gg k hs0;obtain⟨⟨y0,y1,y2,y3,y4⟩,x0,x1,x2,x3,x4⟩:=Q0.out;obtain⟨Q0,Q1,RA,RB,K⟩:=lH5 (Q0.out.set2 (.slice b2 n2 d2)) (Q1.out.other (p:=w.heap.size) (j:=2) (u:=.slice b2 n2 d2) (by omega)) (JU (p:=w.heap.size) (j:=2) (u:=.slice b2 n2 d2) RA.out Un.out (by omega)) (Jv (p:=w.heap.size) (j:=2) (u:=.slice b2 n2 d2) RB.out Ve.out (by omega)) (show Kept w (w2.setCell ⟨w.heap.size,2,none⟩ (.slice b2 n2 d2)) from K.out.setCell (p:=⟨w.heap.size,2,none⟩) (Nat.le_refl _) _);have hs0:w.heap.size+2≤(w2.setCell ⟨w.heap.size,2,none⟩ (.slice b2 n2 d2)).heap.size:=by simpa [World.setCell] using hs1
 clear hs1;obtain⟨⟨z0,z1,z2,z3,z4⟩,-⟩:=Q0.out;go_wp2_with fail
 clear y0 y1 y2 y3 y4 x0 x1 x2 x3 x4 z0 z1 z2 z3 z4;obtain⟨W2,hW2⟩:=eX (w2.setCell ⟨w.heap.size,2,none⟩ (.slice b2 n2 d2))
 rw[hW2] at Q0 Q1 RA RB K hs0 ⊢;clear hW2;refine(H3.out _ K.out).mono ?_;rintro e w3 ⟨b3,n3,d3,rfl,rr,gg,k⟩;obtain⟨U0,RC,K⟩:=lH3 (show ∀b off sp,b3=some ⟨b,off,sp⟩→w.heap.size+2≤b from fun b o s e=>by have:=gg b o s e;omega) rr (K.out.trans k);have hs1:w.heap.size+2≤w3.heap.size:=by have:=k.size;omega
 obtain⟨Q0,Q1,RA,RB⟩:=lH4 (Q0.out.kept k) (Q1.out.kept k) (RA.out.kept k) (RB.out.kept k);clear rr gg k hs0;obtain⟨⟨y0,y1,y2,y3,y4⟩,x0,x1,x2,x3,x4⟩:=Q0.out;obtain⟨Q0,Q1,RA,RB,RC,K⟩:=lH6 (Q0.out.set3 (.slice b3 n3 d3)) (Q1.out.other (p:=w.heap.size) (j:=3) (u:=.slice b3 n3 d3) (by omega)) (JU (p:=w.heap.size) (j:=3) (u:=.slice b3 n3 d3) RA.out Un.out (by omega)) (Jv (p:=w.heap.size) (j:=3) (u:=.slice b3 n3 d3) RB.out Ve.out (by omega)) (Jv (p:=w.heap.size) (j:=3) (u:=.slice b3 n3 d3) RC.out U0.out (by omega)) (show Kept w (w3.setCell ⟨w.heap.size,3,none⟩ (.slice b3 n3 d3)) from K.out.setCell (p:=⟨w.heap.size,3,none⟩) (Nat.le_refl _) _);have hs0:w.heap.size+2≤(w3.setCell ⟨w.heap.size,3,none⟩ (.slice b3 n3 d3)).heap.size:=by simpa [World.setCell] using hs1
 clear hs1;obtain⟨⟨z0,z1,z2,z3,z4⟩,-⟩:=Q0.out;obtain⟨⟨g0,g1,g2,g3,g4⟩,f0,f1,f2,f3,f4⟩:=Q1.out;go_wp2;have P:=lH (Zc ⟨g0,g1,g2,g3,g4⟩ x b1 b2 b3 n1 d1 n2 d2 n3 d3 cd);clear y0 y1 y2 y3 y4 x0 x1 x2 x3 x4 z0 z1 z2 z3 z4 g0 g1 g2 g3 g4 f0 f1 f2 f3 f4;obtain⟨W3,hW3⟩:=eX (w3.setCell ⟨w.heap.size,3,none⟩ (.slice b3 n3 d3))
 rw[hW3] at RA RB RC K hs0 P ⊢;obtain⟨WE,hWE⟩:=eX ((((((W3.setCell ⟨w.heap.size+1,0,none⟩ (.string x)).setCell ⟨w.heap.size+1,1,none⟩ (.slice b1 n1 d1)).setCell ⟨w.heap.size+1,2,none⟩ (.slice b2 n2 d2)).setCell ⟨w.heap.size+1,3,none⟩ (.slice b3 n3 d3)).setCell ⟨w.heap.size+1,4,none⟩ (.bool cd)))
 rw[hWE] at P ⊢;clear hWE hW3;obtain⟨⟨e0,e1,e2,e3,e4⟩,hsz,hbl,hkp⟩:=P.out;refine bodyPost_ret (by simp[results,Tryz.results210,go_sem,e0,e1,e2,e3,e4];try rfl) rfl ?_;exact⟨_,rfl,⟨b1,n1,d1,b2,n2,d2,b3,n3,d3,by rw[HX.out,TX.out],by rw[HX.out];exact hxs,RA.out.far hsz (fun b o s e=>hbl b (by have:=Un.out b o s e;omega)),RB.out.far hsz (fun b o s e=>hbl b (by have:=Ve.out b o s e;omega)),RC.out.far hsz (fun b o s e=>hbl b (by have:=U0.out b o s e;omega)),fun b o s e=>Nat.le_trans (Nat.le_add_right _ 2) (Un.out b o s e),fun b o s e=>Nat.le_trans (Nat.le_add_right _ 2) (Ve.out b o s e),fun b o s e=>Nat.le_trans (Nat.le_add_right _ 2) (U0.out b o s e)⟩,hkp _ _ (Nat.le_succ _) K.out⟩
def jt (w:World) (a:Option Addr) (len:Nat) (l:List Nod):Prop :=
 l.length=len∧len≤maxLen∧(len=0∨∃b off,a=some ⟨b,off,none⟩∧b<w.heap.size∧∀i n,l[i]?=some n→∃a1 m1 c1 a2 m2 c2 a3 m3 c3,
  w.cell? ⟨b,off+i*5,none⟩=some (.string n.name)∧w.cell? ⟨b,off+i*5+1,none⟩=some (.slice a1 m1 c1)∧w.cell? ⟨b,off+i*5+2,none⟩=some (.slice a2 m2 c2)∧w.cell? ⟨b,off+i*5+3,none⟩=some (.slice a3 m3 c3)∧w.cell? ⟨b,off+i*5+4,none⟩=some (.bool n.cordon) ∧
  zk w (.slice a1 m1 c1) (.slice a2 m2 c2) (.slice a3 m3 c3) n)
theorem jt.kept {w w':World} {a:Option Addr} {len:Nat} {l:List Nod} (h:jt w a len l) (k:Kept w w'):jt w' a len l:=by
 obtain⟨h0,h1,h2⟩:=h;refine⟨h0,h1,h2.imp id ?_⟩;rintro ⟨b,off,rfl,hb,hc⟩;refine⟨b,off,rfl,Nat.lt_of_lt_of_le hb k.size,fun i n hi=>?_⟩;obtain⟨a1,m1,c1,a2,m2,c2,a3,m3,c3,p0,p1,p2,p3,p4,hn⟩:=hc i n hi;exact⟨a1,m1,c1,a2,m2,c2,a3,m3,c3,cell_later k p0,cell_later k p1,cell_later k p2,cell_later k p3,cell_later k p4,hn.kept k⟩
theorem jt.form {w:World} {a:Option Addr} {len:Nat} {l:List Nod} (h:jt w a len l):len=0∨∃b off,a=some ⟨b,off,none⟩:=by
 obtain⟨_,_,h2⟩:=h;exact h2.imp id fun ⟨b,off,e,_⟩=>⟨b,off,e⟩
theorem jt.at_ {w:World} {b off len:Nat} {l:List Nod} {k:Nat} (h:jt w (some ⟨b,off,none⟩) len l) (hk:k<len):∃n a1 m1 c1 a2 m2 c2 a3 m3 c3,l[k]?=some n∧l.drop k=n::l.drop (k+1)∧b<w.heap.size ∧
 w.cell? ⟨b,off+k*5,none⟩=some (.string n.name)∧w.cell? ⟨b,off+k*5+1,none⟩=some (.slice a1 m1 c1)∧w.cell? ⟨b,off+k*5+2,none⟩=some (.slice a2 m2 c2)∧w.cell? ⟨b,off+k*5+3,none⟩=some (.slice a3 m3 c3)∧w.cell? ⟨b,off+k*5+4,none⟩=some (.bool n.cordon) ∧
 zk w (.slice a1 m1 c1) (.slice a2 m2 c2) (.slice a3 m3 c3) n:=by
 obtain⟨h0,_,h3⟩:=h;have hkl:k<l.length:=by omega
 rcases h3 with h3 | ⟨b',off',e,hb,hc⟩
 · omega
 · injection e with e;injection e with e1 e2 e3;subst e1;subst e2;have he:l[k]?=some l[k]:=List.getElem?_eq_getElem hkl;obtain⟨a1,m1,c1,a2,m2,c2,a3,m3,c3,r⟩:=hc k _ he;exact⟨l[k],a1,m1,c1,a2,m2,c2,a3,m3,c3,he,List.drop_eq_getElem_cons hkl,hb,r⟩
def Jh (w:World) (v:Value) (l:List Nod):Prop:=∃a cap,v=.slice a l.length cap∧l.length≤cap∧cap≤maxLen∧jt w a l.length l
theorem Jh.kept {w w':World} {v:Value} {l:List Nod} (h:Jh w v l) (k:Kept w w'):Jh w' v l:=by
 obtain⟨a,cap,e,h1,h2,h3⟩:=h;exact⟨a,cap,e,h1,h2,h3.kept k⟩
structure je (q:Nat) (vs:List Value) (W:World):Prop where
 at_:∀i v,vs[i]?=some v→W.cell? ⟨q,i,none⟩=some v
 free:∀i,W.frozen? ⟨q,i,none⟩=false
theorem je.block {q:Nat} {vs:List Value} {W W':World} (h:je q vs W) (e:W'.heap[q]?=W.heap[q]?):je q vs W' :=
 ⟨fun i v hv=>(World.cell?_of_block (a:=⟨q,i,none⟩) e).trans (h.at_ i v hv),fun i=>(World.frozen?_of_block (a:=⟨q,i,none⟩) e).trans (h.free i)⟩
theorem je.at3 {q:Nat} {a b c:Value} {r9:List Value} {W:World} (h:je q (a::b::c::r9) W):W.cell? ⟨q,0,none⟩=some a∧W.cell? ⟨q,1,none⟩=some b∧W.cell? ⟨q,2,none⟩=some c:=⟨h.at_ 0 _ rfl,h.at_ 1 _ rfl,h.at_ 2 _ rfl⟩
theorem je.at4 {q:Nat} {a b c d:Value} {r9:List Value} {W:World} (h:je q (a::b::c::d::r9) W):W.cell? ⟨q,0,none⟩=some a∧W.cell? ⟨q,1,none⟩=some b∧W.cell? ⟨q,2,none⟩=some c∧W.cell? ⟨q,3,none⟩=some d:=⟨h.at_ 0 _ rfl,h.at_ 1 _ rfl,h.at_ 2 _ rfl,h.at_ 3 _ rfl⟩
theorem je.at5 {q:Nat} {a b c d e:Value} {r9:List Value} {W:World} (h:je q (a::b::c::d::e::r9) W):W.cell? ⟨q,0,none⟩=some a∧W.cell? ⟨q,1,none⟩=some b∧W.cell? ⟨q,2,none⟩=some c∧W.cell? ⟨q,3,none⟩=some d∧W.cell? ⟨q,4,none⟩=some e:=⟨h.at_ 0 _ rfl,h.at_ 1 _ rfl,h.at_ 2 _ rfl,h.at_ 3 _ rfl,h.at_ 4 _ rfl⟩
theorem je.at11 {q:Nat} {a b c d e f g i j k l:Value} {r9:List Value} {W:World} (h:je q (a::b::c::d::e::f::g::i::j::k::l::r9) W):W.cell? ⟨q,0,none⟩=some a∧W.cell? ⟨q,1,none⟩=some b∧W.cell? ⟨q,2,none⟩=some c∧W.cell? ⟨q,3,none⟩=some d∧W.cell? ⟨q,4,none⟩=some e∧W.cell? ⟨q,5,none⟩=some f∧W.cell? ⟨q,6,none⟩=some g∧W.cell? ⟨q,7,none⟩=some i∧W.cell? ⟨q,8,none⟩=some j∧W.cell? ⟨q,9,none⟩=some k∧W.cell? ⟨q,10,none⟩=some l:=⟨h.at_ 0 _ rfl,h.at_ 1 _ rfl,h.at_ 2 _ rfl,h.at_ 3 _ rfl,h.at_ 4 _ rfl,h.at_ 5 _ rfl,h.at_ 6 _ rfl,h.at_ 7 _ rfl,h.at_ 8 _ rfl,h.at_ 9 _ rfl,h.at_ 10 _ rfl⟩
theorem je.lt {q:Nat} {v:Value} {vs:List Value} {W:World} (h:je q (v::vs) W):q<W.heap.size:=World.block_lt_of_cell? _ _ (h.at_ 0 v rfl)
theorem je.kept {q:Nat} {v:Value} {vs:List Value} {W W':World} (h:je q (v::vs) W) (k:Kept W W'):je q (v::vs) W':=h.block (k.block q h.lt)
theorem je.other {q p j:Nat} {u:Value} {vs:List Value} {W:World} (h:je q vs W) (hp:q≠p):je q vs (W.setCell ⟨p,j,none⟩ u):=h.block (Below.heap_setCell W ⟨p,j,none⟩ u q hp)
theorem jb (w:World) (v:Value) (vs:List Value) (T:TypeId) (W:World) (k:Kept (w.alloc (.cells (v::vs).toArray T)) W):je w.heap.size (v::vs) W:=by
 have hh:=w.alloc_heap_new (.cells (v::vs).toArray T);have h:je w.heap.size (v::vs) (w.alloc (.cells (v::vs).toArray T)):=⟨fun i u hu=>by rw[Lib.cell_of_heap hh];simpa using hu,fun i=>by
  unfold World.frozen?;rw[show (w.alloc (.cells (v::vs).toArray T)).heap[(⟨w.heap.size,i,none⟩:Addr).block]?=some (.cells (v::vs).toArray T) from hh];simp⟩
 exact h.kept k
theorem je.set {q j:Nat} {u:Value} {vs:List Value} {W:World} (h:je q vs W) (hj:j<vs.length):je q (vs.set j u) (W.setCell ⟨q,j,none⟩ u):=by
 refine⟨fun i v hv=>?_,fun i=>by rw[World.frozen?_setCell];exact h.free i⟩;by_cases e:j=i
 · subst e;have hv':v=u:=by rw[List.getElem?_set_self hj] at hv;exact(Option.some.inj hv).symm
   subst hv';exact World.cell?_setCell_same _ _ _ (h.at_ j _ (List.getElem?_eq_getElem hj))
 · rw[List.getElem?_set_ne e] at hv;rw[World.cell?_setCell_other _ _ _ _ (by simp)];exact h.at_ i v hv
theorem qQ (q:Nat):∀(vs:List Value) (o:Nat) (W:World),(W.setCells q o vs).heap.size=W.heap.size
 | [],_,_=>rfl
 | v::r,o,W=>by rw[World.setCells,qQ q r];simp[World.setCell]
theorem ZF (q:Nat):∀(vs:List Value) (o:Nat) (W:World) (b:Nat),b≠q→(W.setCells q o vs).heap[b]?=W.heap[b]?
 | [],_,_,_,_=>rfl
 | v::r,o,W,b,h=>by rw[World.setCells,ZF q r _ _ b h];exact Below.heap_setCell W ⟨q,o,none⟩ v b h
theorem js (q:Nat):∀(vs:List Value) (o:Nat) (W:World) (B:Nat) (w:World),B≤q→Below B w W→Below B w (W.setCells q o vs)
 | [],_,_,_,_,_,k=>k
 | v::r,o,W,B,w,h,k=>by rw[World.setCells];exact js q r _ _ B w h (k.setCell (p:=⟨q,o,none⟩) h _)
structure jm6 (q:Nat) (vs:List Value) (W W':World):Prop where
 cells:je q vs W'
 size:W'.heap.size=W.heap.size
 far:∀b,b≠q→W'.heap[b]?=W.heap[b]?
 below:∀B w,B≤q→Below B w W→Below B w W'
theorem j4 {q:Nat} {us vs:List Value} {W:World} (h:je q us W) (hl:us.length=vs.length):jm6 q vs W (W.setCells q 0 vs):=by
 refine⟨⟨fun i v hv=>?_,fun i=>by rw[World.frozen?_setCells];exact h.free i⟩,qQ q vs 0 W,fun b hb=>ZF q vs 0 W b hb,fun B w hB k=>js q vs 0 W B w hB k⟩;have hi:i<vs.length:=(List.getElem?_eq_some_iff.1 hv).1;have:=World.cell?_setCells_in q vs 0 W (fun j hj=>by rw[Nat.zero_add,h.at_ j _ (List.getElem?_eq_getElem (by omega))];rfl) i hi;rw[Nat.zero_add] at this;rw[this];obtain⟨_,e⟩:=List.getElem?_eq_some_iff.1 hv;rw[e]
theorem jft (n:Nod) (v1 v2 v3:Value) (w:World):Calls Tryz.prog 151 #[zC n v1 v2 v3] w fun e w'=>e=.returned (.string n.name)∧Kept w w':=by
 unfold zC;go_enter Tryz.func151,Tryz.ntmps151;go_wp2;go_ret;exact⟨rfl,ja _ _⟩
theorem jfx (n:Nod) (v1 v2 v3:Value) (p q:Addr) (x:ByteArray) (w:World) (hp:w.cell? p=some (.func (.func 151) #[] #[])) (hq:w.cell? q=some (.string x)) :
 Calls Tryz.prog 239 #[zC n v1 v2 v3,.pointer (some p),.pointer (some q)] w fun e w'=>e=.returned (.bool (eqS n.name x))∧Kept w w':=by
 have HB:=lH (show ∀W,Kept (w.alloc (.cells #[.string n.name,v1,v2,v3,.bool n.cordon] 57)) W→W.cell? p=some (.func (.func 151) #[] #[])∧W.cell? q=some (.string x)∧W.cell? ⟨w.heap.size,0,none⟩=some (.string n.name)∧W.cell? ⟨w.heap.size,1,none⟩=some (v1)∧W.cell? ⟨w.heap.size,2,none⟩=some (v2)∧W.cell? ⟨w.heap.size,3,none⟩=some (v3)∧W.cell? ⟨w.heap.size,4,none⟩=some (.bool n.cordon) from fun W k=>⟨cell_later ((ja _ _).trans k) hp,cell_later ((ja _ _).trans k) hq,(jb w (.string n.name) [v1,v2,v3,.bool n.cordon] 57 W k).at_ 0 _ rfl,(jb w (.string n.name) [v1,v2,v3,.bool n.cordon] 57 W k).at_ 1 _ rfl,(jb w (.string n.name) [v1,v2,v3,.bool n.cordon] 57 W k).at_ 2 _ rfl,(jb w (.string n.name) [v1,v2,v3,.bool n.cordon] 57 W k).at_ 3 _ rfl,(jb w (.string n.name) [v1,v2,v3,.bool n.cordon] 57 W k).at_ 4 _ rfl⟩);have HN:=lH (fun W=>jft n v1 v2 v3 W);unfold zC at HN ⊢;obtain⟨b,hb⟩:=eX (eqS n.name x)
 have t1:(n.name.toList==x.toList)=b:=hb;rw[hb];clear hp hq hb;go_enter Tryz.func239,Tryz.ntmps239;go_wp2
 go_region_held3 (fun W=>W.cell? p=some (.func (.func 151) #[] #[])∧W.cell? q=some (.string x)∧W.cell? ⟨w.heap.size,0,none⟩=some (.string n.name)∧W.cell? ⟨w.heap.size,1,none⟩=some (v1)∧W.cell? ⟨w.heap.size,2,none⟩=some (v2)∧W.cell? ⟨w.heap.size,3,none⟩=some (v3)∧W.cell? ⟨w.heap.size,4,none⟩=some (.bool n.cordon))
  (first | exact HB.out _ (Kept.drew _) | exact HB.out _ K1.out)
  (first | (go_at_call 151;refine(HN.out _).mono ?_;rintro e1 w1 ⟨rfl,k1⟩;have K1:=lH ((Kept.drew _).trans k1);clear k1))
 go_wp2;go_ret;exact⟨jf rfl,(ja _ _).trans K1.out⟩
def jk (l:List Nod) (x:ByteArray):Option Nod:=l.find? fun n=>eqS n.name x
def jlI (l:List Nod) (x:ByteArray) (i:Int):Prop:=(∃(k:Nat) (n:Nod),i=(k:Int)∧l[k]?=some n∧jk l x=some n)∨(i=-1∧jk l x=none)
theorem jha (a:Option Addr) (len cap:Nat) (l:List Nod) (x:ByteArray) (p q:Addr) (w:World) (hr:jt w a len l) (hp:w.cell? p=some (.func (.func 151) #[] #[])) (hq:w.cell? q=some (.string x)) :
 Calls Tryz.prog 238 #[.slice a len cap,.func (.func 239) #[] #[.pointer (some p),.pointer (some q)]] w fun e w'=>∃i,e=.returned (.int .i64 i)∧jlI l x i∧Kept w w':=by
 have hl:=hr.1;have hm:=hr.2.1;unfold maxLen at hm;have HL:=lH hl;by_cases h0:len=0
 · subst h0;have hl0:l=[]:=List.eq_nil_of_length_eq_zero hl;have HF:=lH (show jk l x=none by rw[hl0];rfl);clear hr hl hp hq;go_enter Tryz.func238,Tryz.ntmps238;go_wp2;refine wp_loop_rounds 1 ?_;rw[rounds_succ];go_wp2;go_ret;exact⟨-1,rfl,.inr ⟨rfl,HF.out⟩,Kept.refl _⟩
 · obtain⟨b,off,rfl⟩:=hr.form.resolve_left h0;obtain⟨HR,HP,HQ⟩:=lH3 hr hp hq;clear hr hl hp hq h0;go_enter Tryz.func238,Tryz.ntmps238;go_wp2;go_loopw [8] (fun i wr=>∃k:Nat,k≤len∧i=.int .i64 k∧jk (l.drop k) x=jk l x∧Kept w wr) (fun i _=>len-(intOf i).toNat)
   case atStart=>exact⟨0,Nat.zero_le _,rfl,rfl,Kept.refl _⟩
   case round =>
    obtain⟨k,hk,rfl,hrest,hK⟩:=hrel;have HS:=lH hrest;have HK:=lH hK;by_cases hlt:k<len
    · obtain⟨n,a1,m1,c1,a2,m2,c2,a3,m3,c3,hn,hd,hb,p0,p1,p2,p3,p4,hat⟩:=(HR.out.kept hK).at_ hlt;obtain⟨HN,HD,HC⟩:=lH3 hn hd (jfx n (.slice a1 m1 c1) (.slice a2 m2 c2) (.slice a3 m3 c3) p q x wr (cell_later hK HP.out) (cell_later hK HQ.out));unfold zC at HC;obtain⟨t,ht⟩:=eX (eqS n.name x)
      have HT:=lH ht;rw[ht] at HC;clear hrest hK hat hd hn ht
      cases t with
      | true =>
       have HF:=lH (show jk l x=some n by rw[←HS.out,HD.out];unfold jk;rw[List.find?_cons,HT.out]);go_wp2_with fail
       refine HC.out.mono ?_;rintro e w1 ⟨rfl,k1⟩;have K1:=lH (HK.out.trans k1);clear k1;go_wp2;go_ret;exact⟨(k:Int),rfl,.inl ⟨k,n,rfl,HN.out,HF.out⟩,K1.out⟩
      | false =>
       have HE:=lH (show jk (l.drop k) x=jk (l.drop (k+1)) x by rw[HD.out];unfold jk;rw[List.find?_cons,HT.out]);go_wp2_with fail
       refine HC.out.mono ?_;rintro e w1 ⟨rfl,k1⟩;have K1:=lH (HK.out.trans k1);clear k1;go_wp2;go_roundw
       case rel=>exact⟨k+1,by omega,by go_num,HE.out.symm.trans HS.out,K1.out⟩
       case measure=>simp[intOf];omega
    · have HF:=lH (show jk l x=none by rw[←hrest,List.drop_of_length_le (by rw[HL.out];omega)];rfl);clear hrest hK;go_wp2;go_ret;exact⟨-1,rfl,.inr ⟨rfl,HF.out⟩,HK.out⟩
theorem jdu (a:Option Addr) (len cap:Nat) (l:List Nod) (x:ByteArray) (w:World) (hr:jt w a len l) (hlow:∀n ∈ l,zV n) :
 Calls Tryz.prog 209 #[.slice a len cap,.string x,.func (.func 151) #[] #[],.func (.func 210) #[] #[]] w fun e w'=>∃v,e=.returned (.tuple #[v,.bool (jk l x).isSome])∧Jr w.heap.size w' v ((jk l x).getD Nod.zero)∧Kept w w':=by
 have hmf:=hmfL (P:=Tryz.prog);have hl:=hr.1;have hm:=hr.2.1;unfold maxLen at hm;obtain⟨Z,hZ⟩:=eX (((w.alloc (.cells #[.string x] 9)).alloc (.cells #[.func (.func 151) #[] #[]] 216)).alloc (.cells #[.string ⟨#[]⟩,.slice none 0 0,.slice none 0 0,.slice none 0 0,.bool false] 57))
 have hkz:Kept w Z:=by rw[←hZ];exact(jm _ _ _).trans (ja _ _)
 have hzs:Z.heap.size=w.heap.size+3:=by rw[←hZ];simp
 have hq:=(jb w (.string x) [] 9 Z (by rw[←hZ];exact jm _ _ _)).at_ 0 _ rfl;have hp:Z.cell? ⟨w.heap.size+1,0,none⟩=some (.func (.func 151) #[] #[]):=by
  have:=(jb (w.alloc (.cells #[.string x] 9)) (.func (.func 151) #[] #[]) [] 216 Z (by rw[←hZ];exact ja _ _)).at_ 0 _ rfl;rw[World.size_alloc] at this;exact this
 have UE:=lH (show je (w.heap.size+2) [.string ⟨#[]⟩,.slice none 0 0,.slice none 0 0,.slice none 0 0,.bool false] Z by
  have:=jb ((w.alloc (.cells #[.string x] 9)).alloc (.cells #[.func (.func 151) #[] #[]] 216)) (.string ⟨#[]⟩) [.slice none 0 0,.slice none 0 0,.slice none 0 0,.bool false] 57 Z (by rw[hZ];exact Kept.refl _);rw[World.size_alloc,World.size_alloc] at this;exact this)
 obtain⟨Nc,Vc,Vf,HR,Vr,HL⟩:=lH6 (jha a len cap l x ⟨w.heap.size+1,0,none⟩ ⟨w.heap.size,0,none⟩ Z (hr.kept hkz) hp hq) hkz hzs (hr.kept hkz) hlow hl;clear hr hl hlow hkz hq hp hzs;go_enter Tryz.func209,Tryz.ntmps209;go_wp2_with fail
 try rw[hZ]
 clear hZ;refine Nc.out.mono ?_;rintro e w1 ⟨i,rfl,hs,k1⟩;have K1:=lH k1;rcases hs with ⟨k,n9,rfl,hn9,hf⟩ | ⟨rfl,hf⟩
 · have HF:=lH hf;have hkl:k<len:=by have:=(List.getElem?_eq_some_iff.1 hn9).1;rw[HL.out] at this;exact this
   have hk0:decide ((k:Int)<0)=false:=by simp
   have hkk:(k:Int)<(len:Int):=by omega
   obtain⟨b,off,rfl⟩:=HR.out.form.resolve_left (by omega);obtain⟨n,a1,m1,c1,a2,m2,c2,a3,m3,c3,hn,hd,hb,p0,p1,p2,p3,p4,hat⟩:=(HR.out.kept k1).at_ hkl;obtain rfl:n9=n:=by rw[hn9] at hn;exact Option.some.inj hn
   obtain⟨Tt,VD,VG,Td⟩:=lH4 (Vr.out n9 (List.mem_of_getElem? hn9)) hat (UE.out.kept k1) (show w.heap.size+3≤w1.heap.size by have:=k1.size;rw[Vf.out] at this;exact this);have VH:=lH (jji n9 a1 a2 a3 m1 c1 m2 c2 m3 c3 w1 VD.out Tt.out);clear hn9 hn hd hat hf k1;go_wp2_with fail
   refine VH.out.mono ?_;rintro e w2 ⟨v,rfl,hn,k2⟩;obtain⟨HN,KW,VG⟩:=lH3 hn (Vc.out.trans (K1.out.trans k2)) (VG.out.kept k2);obtain⟨b1,n1,d1,b2,n2,d2,b3,n3,d3,rfl,-⟩:=hn;obtain⟨z,hz⟩:=eX (n9.name)
   obtain⟨cd,hcd⟩:=eX (n9.cordon)
   rw[hz,hcd];rw[hz,hcd] at HN;clear k2 p0 p1 p2 p3 p4 hb hkl hk0 hkk;obtain⟨y0,y1,y2,y3,y4⟩:=VG.out.at5;have x0:=VG.out.free 0;have x1:=VG.out.free 1;have x2:=VG.out.free 2;have x3:=VG.out.free 3;have x4:=VG.out.free 4;have P:=lH (j4 (vs:=[.string z,.slice b1 n1 d1,.slice b2 n2 d2,.slice b3 n3 d3,.bool cd]) VG.out rfl);clear VG;go_wp2;obtain⟨WE,hWE⟩:=eX (w2.setCells (w.heap.size+2) 0 [.string z,.slice b1 n1 d1,.slice b2 n2 d2,.slice b3 n3 d3,.bool cd])
   have hWE2:(((((w2.setCell ⟨(w.heap.size+2),0,none⟩ (.string z)).setCell ⟨(w.heap.size+2),1,none⟩ (.slice b1 n1 d1)).setCell ⟨(w.heap.size+2),2,none⟩ (.slice b2 n2 d2)).setCell ⟨(w.heap.size+2),3,none⟩ (.slice b3 n3 d3)).setCell ⟨(w.heap.size+2),4,none⟩ (.bool cd))=WE:=hWE;rw[hWE] at P;rw[hWE2];clear hWE hWE2;obtain⟨PC,hsz,hbl,hkp⟩:=P.out;refine bodyPost_ret (by simp[results,Tryz.results209,go_sem,PC.at_ 0 _ rfl,PC.at_ 1 _ rfl,PC.at_ 2 _ rfl,PC.at_ 3 _ rfl,PC.at_ 4 _ rfl];try rfl) rfl ?_;rw[HF.out];exact⟨_,rfl,(HN.out.far hsz (fun b hb=>hbl b (by have:=Td.out;omega))).less (by have:=Td.out;omega),hkp _ _ (by omega) KW.out⟩
 · obtain⟨HF,VG,KW⟩:=lH3 hf (UE.out.kept k1) (Vc.out.trans k1);clear hf k1;obtain⟨y0,y1,y2,y3,y4⟩:=VG.out.at5;have x0:=VG.out.free 0;have x1:=VG.out.free 1;have x2:=VG.out.free 2;have x3:=VG.out.free 3;have x4:=VG.out.free 4;have P:=lH (j4 (vs:=[.string ⟨#[]⟩,.slice none 0 0,.slice none 0 0,.slice none 0 0,.bool false]) VG.out rfl);clear VG;go_wp2;obtain⟨WE,hWE⟩:=eX (w1.setCells (w.heap.size+2) 0 [.string ⟨#[]⟩,.slice none 0 0,.slice none 0 0,.slice none 0 0,.bool false])
   have hWE2:(((((w1.setCell ⟨(w.heap.size+2),0,none⟩ (.string ⟨#[]⟩)).setCell ⟨(w.heap.size+2),1,none⟩ (.slice none 0 0)).setCell ⟨(w.heap.size+2),2,none⟩ (.slice none 0 0)).setCell ⟨(w.heap.size+2),3,none⟩ (.slice none 0 0)).setCell ⟨(w.heap.size+2),4,none⟩ (.bool false))=WE:=hWE;rw[hWE] at P;rw[hWE2];clear hWE hWE2;obtain⟨PC,hsz,hbl,hkp⟩:=P.out;refine bodyPost_ret (by simp[results,Tryz.results209,go_sem,PC.at_ 0 _ rfl,PC.at_ 1 _ rfl,PC.at_ 2 _ rfl,PC.at_ 3 _ rfl,PC.at_ 4 _ rfl];try rfl) rfl ?_;rw[HF.out];exact⟨_,rfl,qD _ _,hkp _ _ (by omega) KW.out⟩
theorem jia (a:Option Addr) (len cap:Nat) (l:List Nod) (x:ByteArray) (w:World) (hr:jt w a len l) (hlow:∀n ∈ l,zV n) :
 Calls Tryz.prog 159 #[.slice a len cap,.string x] w fun e w'=>∃v,e=.returned (.tuple #[v,.bool (jk l x).isSome])∧Jr w.heap.size w' v ((jk l x).getD Nod.zero)∧Kept w w':=by
 obtain⟨Z,hZ⟩:=eX (w.alloc (.cells #[.string ⟨#[]⟩,.slice none 0 0,.slice none 0 0,.slice none 0 0,.bool false] 57))
 have hkz:Kept w Z:=by rw[←hZ];exact ja _ _
 have hzs:Z.heap.size=w.heap.size+1:=by rw[←hZ];simp
 obtain⟨UE,Rz,Vc,Vf⟩:=lH4 (show je w.heap.size [.string ⟨#[]⟩,.slice none 0 0,.slice none 0 0,.slice none 0 0,.bool false] Z from jb w (.string ⟨#[]⟩) [.slice none 0 0,.slice none 0 0,.slice none 0 0,.bool false] 57 Z (by rw[hZ];exact Kept.refl _)) (jdu a len cap l x Z (hr.kept hkz) hlow) hkz hzs;obtain⟨n9,hn9⟩:=eX ((jk l x).getD Nod.zero)
 obtain⟨is,his⟩:=eX ((jk l x).isSome)
 rw[hn9,his] at Rz;rw[hn9,his];clear hr hlow hkz hzs hn9 his;go_enter Tryz.func159,Tryz.ntmps159;go_wp2_with fail
 try rw[hZ]
 clear hZ;refine Rz.out.mono ?_;rintro e w1 ⟨v,rfl,hn,k1⟩;obtain⟨HN,VG,KW⟩:=lH3 hn (UE.out.kept k1) (Vc.out.trans k1);obtain⟨b1,n1,d1,b2,n2,d2,b3,n3,d3,rfl,-⟩:=hn;obtain⟨z,hz⟩:=eX (n9.name)
 obtain⟨cd,hcd⟩:=eX (n9.cordon)
 rw[hz,hcd];rw[hz,hcd] at HN;clear k1;obtain⟨y0,y1,y2,y3,y4⟩:=VG.out.at5;have x0:=VG.out.free 0;have x1:=VG.out.free 1;have x2:=VG.out.free 2;have x3:=VG.out.free 3;have x4:=VG.out.free 4;have P:=lH (j4 (vs:=[.string z,.slice b1 n1 d1,.slice b2 n2 d2,.slice b3 n3 d3,.bool cd]) VG.out rfl);clear VG;go_wp2;obtain⟨WE,hWE⟩:=eX (w1.setCells w.heap.size 0 [.string z,.slice b1 n1 d1,.slice b2 n2 d2,.slice b3 n3 d3,.bool cd])
 have hWE2:(((((w1.setCell ⟨w.heap.size,0,none⟩ (.string z)).setCell ⟨w.heap.size,1,none⟩ (.slice b1 n1 d1)).setCell ⟨w.heap.size,2,none⟩ (.slice b2 n2 d2)).setCell ⟨w.heap.size,3,none⟩ (.slice b3 n3 d3)).setCell ⟨w.heap.size,4,none⟩ (.bool cd))=WE:=hWE;rw[hWE] at P;rw[hWE2];clear hWE hWE2;obtain⟨PC,hsz,hbl,hkp⟩:=P.out;refine bodyPost_ret (by simp[results,Tryz.results159,go_sem,PC.at_ 0 _ rfl,PC.at_ 1 _ rfl,PC.at_ 2 _ rfl,PC.at_ 3 _ rfl,PC.at_ 4 _ rfl];try rfl) rfl ?_;exact⟨_,rfl,(HN.out.far hsz (fun b hb=>hbl b (by have:=Vf.out;omega))).less (by have:=Vf.out;omega),hkp _ _ (Nat.le_refl _) KW.out⟩
def zt:Option ByteArray→List Nod→Int
 | _,[]=>0
 | prev,n::t=>if zy n≠0 then zy n else if Vec.jG prev n.name=true then 13 else zt (some n.name) t
def jV (l:List Nod):Int:=if 32<l.length then 4 else zt none l
def Y2 (l:List Nod) (k:Nat):Option ByteArray:=if k=0 then none else (l[k-1]?).map Nod.name
theorem jgR {l:List Nod} {k:Nat} (h:k=0) (s:ByteArray):Vec.jG (Y2 l k) s=false:=by unfold Y2;rw[if_pos h];rfl
theorem jhT {l:List Nod} {k:Nat} {n:Nod} (h:¬k=0) (hn:l[k-1]?=some n) (s:ByteArray):Vec.jG (Y2 l k) s=leS s n.name:=by unfold Y2;rw[if_neg h,hn];rfl
theorem jgU {l:List Nod} {k:Nat} {n:Nod} (hn:l[k]?=some n):Y2 l (k+1)=some n.name:=by unfold Y2;rw[if_neg (by omega),Nat.add_sub_cancel,hn];rfl
theorem jeg {p:Option ByteArray} {n:Nod} {t:List Nod} (h:zy n≠0):zt p (n::t)=zy n:=by rw[zt,if_pos h]
theorem jbK {p:Option ByteArray} {n:Nod} {t:List Nod} (h:zy n=0) (b:Vec.jG p n.name=true):zt p (n::t)=13:=by rw[zt,if_neg (by rw[h];decide),if_pos b]
theorem jaw {p:Option ByteArray} {n:Nod} {t:List Nod} (h:zy n=0) (b:Vec.jG p n.name=false):zt p (n::t)=zt (some n.name) t:=by rw[zt,if_neg (by rw[h];decide),if_neg (by rw[b];decide)]
theorem jdM (a:Option Addr) (len cap:Nat) (l:List Nod) (w:World) (hr:jt w a len l) :
 Calls Tryz.prog 62 #[.slice a len cap] w (Say (.int .i64 (jV l)) w):=by
 have hl:=hr.1;have hm:=hr.2.1;unfold maxLen at hm;by_cases h32:32<len
 · have HV:=lH (show jV l=4 by unfold jV;rw[if_pos (by omega)]);clear hr hl;go_enter Tryz.func62,Tryz.ntmps62;go_wp2;go_ret;exact⟨jc HV.out.symm,Kept.refl _⟩
 · have HV:=lH (show jV l=zt none l by unfold jV;rw[if_neg (by omega)]);have h32':len≤32:=by omega
   by_cases h0:len=0
   · subst h0;have HE:=lH (show jV l=0 by rw[HV.out,List.eq_nil_of_length_eq_zero hl];rfl);clear hr hl h32;go_enter Tryz.func62,Tryz.ntmps62;go_wp2;refine wp_loop_rounds 1 ?_;rw[rounds_succ];go_wp2;go_ret;exact⟨jc HE.out.symm,Kept.refl _⟩
   · obtain⟨b,off,rfl⟩:=hr.form.resolve_left h0;have HR:=lH hr;have HL:=lH hl;clear hr hl h0 h32;go_enter Tryz.func62,Tryz.ntmps62;go_wp2;go_loopw [3] (fun i wr=>∃k:Nat,k≤len∧i=.int .i64 k∧zt (Y2 l k) (l.drop k)=zt none l∧Kept w wr) (fun i _=>len-(intOf i).toNat)
     case atStart=>exact⟨0,Nat.zero_le _,rfl,rfl,Kept.refl _⟩
     case round =>
      obtain⟨k,hk,rfl,hrest,hK⟩:=hrel;obtain⟨HS,HT,HK⟩:=lH3 (HV.out.trans hrest.symm) hrest hK;by_cases hlt:k<len
      · obtain⟨n,a1,m1,c1,a2,m2,c2,a3,m3,c3,hn,hd,hb,p0,p1,p2,p3,p4,hat⟩:=(HR.out.kept hK).at_ hlt;obtain⟨VD,HD,VC⟩:=lH3 hat hd (jgU hn);have VT:=lH (fun W (kk:Kept wr W)=>jfy n (.slice a1 m1 c1) (.slice a2 m2 c2) (.slice a3 m3 c3) W (VD.out.kept kk));unfold zC at VT;obtain⟨ck,hck⟩:=eX (zy n)
        have VW:=lH hck;rw[hck] at VT;have hkk:(k:Int)<(len:Int):=by omega
        clear hrest hK hat hd hck;by_cases z1:ck=0
        · subst z1;by_cases h0:k=0
          · have hd0:decide (0<k)=false:=by subst h0;decide
            have HP:=lH (jgR (l:=l) h0 n.name);clear h0;go_wp2_with fail
            refine(VT.out _ (Kept.refl _)).mono ?_;rintro e w1 ⟨rfl,kk⟩;have KW:=lH kk;clear kk;go_wp2;go_quiet (fail)
            go_wp2;go_roundw
            case rel=>exact⟨k+1,by omega,by go_num,(show zt (Y2 l (k+1)) (l.drop (k+1))=zt none l by rw[←HT.out,HD.out,jaw VW.out HP.out,VC.out]),HK.out.trans (KW.out.trans (Kept.drewN _ _))⟩
            case measure=>simp[intOf];omega
          · have hd0:decide (0<k)=true:=by simp;omega
            have g1:0≤(k:Int)-1:=by omega
            have g2:(k:Int)-1<(len:Int):=by omega
            have g3:((k:Int)-1).toNat=k-1:=by omega
            obtain⟨n9,_,_,_,_,_,_,_,_,_,hn9,-,hb9,o0,-⟩:=(HR.out.kept HK.out).at_ (show k-1<len by omega);have HP:=lH (jhT (l:=l) h0 hn9 n.name);clear h0 hn9;by_cases n3:leS n.name n9.name=true
            · have n3':(Op.bytesLess n.name.toList n9.name.toList||n.name.toList==n9.name.toList)=true:=n3;have N3:=lH n3;clear n3;go_wp2_with fail
              refine(VT.out _ (Kept.refl _)).mono ?_;rintro e w1 ⟨rfl,kk⟩;have KW:=lH kk;have o1:=cell_later kk o0;have p9:=cell_later kk p0;clear kk;go_wp2;go_quiet (fail)
              go_wp2;go_ret;exact⟨jc (show (13:Int)=jV l by rw[HS.out,HD.out,jbK VW.out (HP.out.trans N3.out)]),HK.out.trans (KW.out.trans (Kept.drewN _ _))⟩
            · have n3:leS n.name n9.name=false:=by simpa using n3
              have n3':(Op.bytesLess n.name.toList n9.name.toList||n.name.toList==n9.name.toList)=false:=n3;have N3:=lH n3;clear n3;go_wp2_with fail
              refine(VT.out _ (Kept.refl _)).mono ?_;rintro e w1 ⟨rfl,kk⟩;have KW:=lH kk;have o1:=cell_later kk o0;have p9:=cell_later kk p0;clear kk;go_wp2;go_quiet (fail)
              go_wp2;go_roundw
              case rel=>exact⟨k+1,by omega,by go_num,(show zt (Y2 l (k+1)) (l.drop (k+1))=zt none l by rw[←HT.out,HD.out,jaw VW.out (HP.out.trans N3.out),VC.out]),HK.out.trans (KW.out.trans (Kept.drewN _ _))⟩
              case measure=>simp[intOf];omega
        · have z1':(ck != 0)=true:=by simpa using z1
          have HB:=lH (show jV l=ck by rw[HS.out,HD.out,jeg (by rw[VW.out];exact z1),VW.out]);clear z1;go_wp2_with fail
          refine(VT.out _ (Kept.refl _)).mono ?_;rintro e w1 ⟨rfl,kk⟩;have KW:=lH kk;clear kk;go_wp2;go_ret;exact⟨jc HB.out.symm,HK.out.trans KW.out⟩
      · have HE:=lH (show jV l=0 by rw[HS.out,List.drop_of_length_le (by rw[HL.out];omega)];rfl);clear hrest hK;go_wp2;go_ret;exact⟨jc HE.out.symm,HK.out⟩
theorem jgX {v:Value} {l:List Nod} {c:Int} {w:World} (h:Jh w v l) (hc:jV l=c):Calls Tryz.prog 62 #[v] w (Say (.int .i64 c) w):=by
 subst hc;obtain⟨a,cap,rfl,_,_,hr⟩:=h;exact jdM a _ cap l w hr
def Jp (x:NT):Bool:=decide (x.1.size≤50)&&decide (x.2.1.size≤50)
def JQ (l:NL):Bool:=decide (l.length≤20)&&l.all Jp
theorem jkg (a:Option Addr) (len cap:Nat) (l:NL) (w:World) (hr:jn jz w a len l) :
 Calls Tryz.prog 122 #[.slice a len cap] w fun e w'=>e=.returned (.bool (JQ l))∧w=w':=by
 have hl:=hr.1;have hm:=hr.2.1;unfold maxLen at hm;by_cases h20:len≤20
 · have HV:=lH (show JQ l=l.all Jp by unfold JQ;rw[decide_eq_true (by omega)];rfl);rcases hr.form with h0 | ⟨b,off,rfl⟩
   · subst h0;have HE:=lH (show JQ l=true by rw[HV.out,List.eq_nil_of_length_eq_zero hl];rfl);clear hr hl;go_enter Tryz.func122,Tryz.ntmps122;go_wp2;refine wp_loop_rounds 1 ?_;rw[rounds_succ];go_wp2;go_ret;exact⟨jf HE.out.symm,rfl⟩
   · have HR:=lH hr;have HL:=lH hl;clear hr hl;go_enter Tryz.func122,Tryz.ntmps122;go_wp2;go_loop [3] (fun i=>∃k:Nat,k≤len∧i=.int .i64 k∧(l.drop k).all Jp=l.all Jp) (fun i=>len-(intOf i).toNat)
     case atStart=>exact⟨0,Nat.zero_le _,rfl,rfl⟩
     case round =>
      obtain⟨k,hk,rfl,hrest⟩:=hrel;by_cases hlt:k<len
      · obtain⟨x,y,m,hx,hd,hb,hz,hz2,c1,c2,c3⟩:=HR.out.tri hlt;have HT:=lH (hrest.symm.trans ((congrArg (fun z=>z.all Jp) hd).trans (all_cons _ _ _)));clear hrest hx hd;unfold maxLen at hz hz2;by_cases e:x.size≤50
        · by_cases e2:y.size≤50
          · have E:=lH (show Jp (x,y,m)=true by unfold Jp;rw[decide_eq_true e,decide_eq_true e2];rfl);go_wp2;go_round
            case rel=>exact⟨k+1,by omega,by go_num,(HT.out.trans (by rw[E.out];exact Bool.true_and _)).symm⟩
            case measure=>simp[intOf];omega
          · have E:=lH (show Jp (x,y,m)=false by unfold Jp;rw[decide_eq_false e2];exact Bool.and_false _);have e2':50<y.size:=by omega
            clear e2;go_wp2;go_ret;exact⟨jf (HV.out.trans (HT.out.trans (by rw[E.out];exact Bool.false_and _))).symm,rfl⟩
        · have E:=lH (show Jp (x,y,m)=false by unfold Jp;rw[decide_eq_false e];exact Bool.false_and _);have e':50<x.size:=by omega
          clear e;go_wp2;go_ret;exact⟨jf (HV.out.trans (HT.out.trans (by rw[E.out];exact Bool.false_and _))).symm,rfl⟩
      · have HS:=lH ((HV.out.trans hrest.symm).trans (congrArg (fun z=>z.all Jp) (zX (by rw[HL.out];exact hlt))));clear hrest;go_wp2;go_ret;exact⟨jf (HS.out.trans rfl).symm,rfl⟩
 · have HV:=lH (show JQ l=false by unfold JQ;rw[decide_eq_false (by omega)];rfl);have h9:20<len:=by omega
   clear h20 hr hl;go_enter Tryz.func122,Tryz.ntmps122;go_wp2;go_ret;exact⟨jf HV.out.symm,rfl⟩
theorem jki (a:Option Addr) (len cap:Nat) (l:NL) (w:World) (hr:jn jz w a len l) :
 Calls Tryz.prog 123 #[.slice a len cap] w fun e w'=>e=.returned (.bool (JQ l))∧w=w':=by
 have hl:=hr.1;have hm:=hr.2.1;unfold maxLen at hm;by_cases h20:len≤20
 · have HV:=lH (show JQ l=l.all Jp by unfold JQ;rw[decide_eq_true (by omega)];rfl);rcases hr.form with h0 | ⟨b,off,rfl⟩
   · subst h0;have HE:=lH (show JQ l=true by rw[HV.out,List.eq_nil_of_length_eq_zero hl];rfl);clear hr hl;go_enter Tryz.func123,Tryz.ntmps123;go_wp2;refine wp_loop_rounds 1 ?_;rw[rounds_succ];go_wp2;go_ret;exact⟨jf HE.out.symm,rfl⟩
   · have HR:=lH hr;have HL:=lH hl;clear hr hl;go_enter Tryz.func123,Tryz.ntmps123;go_wp2;go_loop [3] (fun i=>∃k:Nat,k≤len∧i=.int .i64 k∧(l.drop k).all Jp=l.all Jp) (fun i=>len-(intOf i).toNat)
     case atStart=>exact⟨0,Nat.zero_le _,rfl,rfl⟩
     case round =>
      obtain⟨k,hk,rfl,hrest⟩:=hrel;by_cases hlt:k<len
      · obtain⟨x,y,m,hx,hd,hb,hz,hz2,c1,c2,c3⟩:=HR.out.tri hlt;have HT:=lH (hrest.symm.trans ((congrArg (fun z=>z.all Jp) hd).trans (all_cons _ _ _)));clear hrest hx hd;unfold maxLen at hz hz2;by_cases e:x.size≤50
        · by_cases e2:y.size≤50
          · have E:=lH (show Jp (x,y,m)=true by unfold Jp;rw[decide_eq_true e,decide_eq_true e2];rfl);go_wp2;go_round
            case rel=>exact⟨k+1,by omega,by go_num,(HT.out.trans (by rw[E.out];exact Bool.true_and _)).symm⟩
            case measure=>simp[intOf];omega
          · have E:=lH (show Jp (x,y,m)=false by unfold Jp;rw[decide_eq_false e2];exact Bool.and_false _);have e2':50<y.size:=by omega
            clear e2;go_wp2;go_ret;exact⟨jf (HV.out.trans (HT.out.trans (by rw[E.out];exact Bool.false_and _))).symm,rfl⟩
        · have E:=lH (show Jp (x,y,m)=false by unfold Jp;rw[decide_eq_false e];exact Bool.false_and _);have e':50<x.size:=by omega
          clear e;go_wp2;go_ret;exact⟨jf (HV.out.trans (HT.out.trans (by rw[E.out];exact Bool.false_and _))).symm,rfl⟩
      · have HS:=lH ((HV.out.trans hrest.symm).trans (congrArg (fun z=>z.all Jp) (zX (by rw[HL.out];exact hlt))));clear hrest;go_wp2;go_ret;exact⟨jf (HS.out.trans rfl).symm,rfl⟩
 · have HV:=lH (show JQ l=false by unfold JQ;rw[decide_eq_false (by omega)];rfl);have h9:20<len:=by omega
   clear h20 hr hl;go_enter Tryz.func123,Tryz.ntmps123;go_wp2;go_ret;exact⟨jf HV.out.symm,rfl⟩
theorem jmF {v:Value} {l:NL} {w:World} (h:Reads jz w v l):Calls Tryz.prog 122 #[v] w fun e w'=>e=.returned (.bool (JQ l))∧w=w':=by
 obtain⟨a,cap,rfl,_,_,hr⟩:=h;exact jkg a _ cap l w hr
theorem jmN {v:Value} {l:NL} {w:World} (h:Reads jz w v l):Calls Tryz.prog 123 #[v] w fun e w'=>e=.returned (.bool (JQ l))∧w=w':=by
 obtain⟨a,cap,rfl,_,_,hr⟩:=h;exact jki a _ cap l w hr
theorem jga {s:NL} (h:JQ s=true):s.length≤20∧∀x ∈ s,x.1.size≤50∧x.2.1.size≤50:=by
 unfold JQ at h;simp only[Bool.and_eq_true,decide_eq_true_eq,List.all_eq_true] at h;refine⟨h.1,fun x hx=>?_⟩;have:=h.2 x hx;unfold Jp at this;simpa using this
theorem jkN:(Tryz.prog.info? 287).map (fun i=>(i.zero,i.size,i.bytes))=some (some (.agg #[.string ByteArray.empty,.string ByteArray.empty,.bool false]),3,40):=by kernel_rfl
theorem jlp (a:Option Addr) (len cap:Nat) (l:NL) (w:World) (hr:jn jz w a len l) (hlen:len≤1000000) :
 Calls Tryz.prog 189 #[.slice a len cap] w (fun e w'=>∃x,e=.returned x∧Own jz 287 w' w.heap.size x l∧Kept w w'):=by
 have hl:=hr.1;obtain⟨i0,hi,hz0,hz1,hz2'⟩:=info_parts jkN;rcases hr.form with h0 | ⟨b,off,rfl⟩
 · subst h0;have hl0:l=[]:=List.eq_nil_of_length_eq_zero hl;subst hl0;clear hr hl hi hz0 hz1 hz2';go_enter Tryz.func189,Tryz.ntmps189;go_wp2;refine wp_loop_rounds 1 ?_;rw[rounds_succ];go_wp2;go_ret;exact⟨_,rfl,Own.nil _ _ _,Kept.refl _⟩
 · have HR:=lH hr;have HL:=lH hl;clear hr hl;go_enter Tryz.func189,Tryz.ntmps189;go_wp2;go_loopw [3,4] (fun v i wr=>∃k:Nat,k≤len∧i=.int .i64 k∧Own jz 287 wr w.heap.size v (l.take k)∧Below w.heap.size w wr) (fun _ i _=>len-(intOf i).toNat)
   case atStart=>exact⟨0,Nat.zero_le _,rfl,Own.nil _ _ _,Below.refl _ _⟩
   case round =>
    obtain⟨k,hk,rfl,ho,hB⟩:=hrel;obtain⟨HO,HB,HT⟩:=lH3 ho hB (show (l.take k).length=k by rw[List.length_take,HL.out];omega);have Vj:=lH (show wr.ownsRow w.heap.size 287 3 u3 k (jd jz (l.take k)) by have:=HO.out.1;rw[HT.out] at this;exact this);by_cases hlt:k<len
    · obtain⟨x,y,m,hx,hd,hb,hz,hz2,c0,c1,c2⟩:=(HR.out.kept hB).tri hlt;have HX:=lH hx;have hbw:b<w.heap.size:=by obtain⟨z,_,_,h,_⟩:=HR.out.cells hlt;exact h
      have hbase:w.heap.size≤wr.heap.size:=hB.size;have VY:=lH (show u3.ownBlock≠some b by
       intro e;have:=(Vj.out.lt b e).1;omega)
      have VI:=lH (show w.heap.size≤(wr.alloc (.cells #[.string x,.string y,.bool m] 287)).drew.heap.size by simp;omega);have UB:=lH (show Below w.heap.size w ((wr.alloc (.cells #[.string x,.string y,.bool m] 287)).drew) from HB.out.trans (Below.mono ((ja wr _).trans (Kept.drewN _ 1)) hbase));have hk1:(k:Int)<(len:Int):=by omega
      have Ul:=lH (show jz.fine (x,y,m) from⟨hz,hz2⟩);clear ho hB hx hd hz hz2;go_wp2_with fail
      go_region_held3 (fun W=>W.cell? ⟨b,off+k*3,none⟩=some (.string x)∧W.cell? ⟨b,off+k*3+1,none⟩=some (.string y)∧W.cell? ⟨b,off+k*3+2,none⟩=some (.bool m))
       (first
         | go_keep
         | (go_split_ands
            refine⟨?_,?_,?_⟩
            · (refine(hgrow.cell_far ⟨b,off+k*3,none⟩ (by simp;omega) (Ne.symm VY.out)).trans ?_;assumption)
            · (refine(hgrow.cell_far ⟨b,off+k*3+1,none⟩ (by simp;omega) (Ne.symm VY.out)).trans ?_;assumption)
            · (refine(hgrow.cell_far ⟨b,off+k*3+2,none⟩ (by simp;omega) (Ne.symm VY.out)).trans ?_;assumption)))
       ((refine step_append_lies _ (by rfl) _ _ _ (by rfl) w.heap.size 287 i0 _ 3 40 Tryz.underlying119 hi hz0 hz1 hz2' rfl (by decide) u3 k (jd jz (l.take k)) (by rfl) ((Vj.out.alloc _).drew)
          ⟨wr.heap.size,0,none⟩ 1 1 [.string x,.string y,.bool m] (by rfl) (by rfl) (World.news_of_block (cs:=#[.string x,.string y,.bool m]) (t:=287) (fr:=(0,0)) (heap_alloc_new wr _)) (jcl x y m)
          (by decide) (by unfold maxLen;omega) (by omega) (by simp;omega) (wr.heap.size+1) (by simp) ?_;intro gg cap1 w1 hown1 hgrow hat hlt1))
      all_goals
       go_wp2;go_roundw
       case rel=>exact⟨k+1,by omega,by go_num,by rw[zG HX.out];exact Own.snoc hown1 (by rw[HT.out]) HO.out.2 Ul.out,UB.out.grown hgrow VI.out (fun j hj=>(Vj.out.lt j hj).1)⟩
       case measure=>simp[intOf];omega
    · have HK:=lH (show l.take k=l by rw[List.take_of_length_le (by rw[HL.out];omega)]);clear ho hB;go_wp2;go_ret;exact⟨_,rfl,by have h:=HO.out;rw[HK.out] at h;exact h,HB.out⟩
theorem jkt:(Tryz.prog.info? 289).map (fun i=>(i.zero,i.size,i.bytes))=some (some (.agg #[.string ByteArray.empty,.string ByteArray.empty,.bool false]),3,40):=by kernel_rfl
theorem jlQ (a:Option Addr) (len cap:Nat) (l:NL) (w:World) (hr:jn jz w a len l) (hlen:len≤1000000) :
 Calls Tryz.prog 191 #[.slice a len cap] w (fun e w'=>∃x,e=.returned x∧Own jz 289 w' w.heap.size x l∧Kept w w'):=by
 have hl:=hr.1;obtain⟨i0,hi,hz0,hz1,hz2'⟩:=info_parts jkt;rcases hr.form with h0 | ⟨b,off,rfl⟩
 · subst h0;have hl0:l=[]:=List.eq_nil_of_length_eq_zero hl;subst hl0;clear hr hl hi hz0 hz1 hz2';go_enter Tryz.func191,Tryz.ntmps191;go_wp2;refine wp_loop_rounds 1 ?_;rw[rounds_succ];go_wp2;go_ret;exact⟨_,rfl,Own.nil _ _ _,Kept.refl _⟩
 · have HR:=lH hr;have HL:=lH hl;clear hr hl;go_enter Tryz.func191,Tryz.ntmps191;go_wp2;go_loopw [3,4] (fun v i wr=>∃k:Nat,k≤len∧i=.int .i64 k∧Own jz 289 wr w.heap.size v (l.take k)∧Below w.heap.size w wr) (fun _ i _=>len-(intOf i).toNat)
   case atStart=>exact⟨0,Nat.zero_le _,rfl,Own.nil _ _ _,Below.refl _ _⟩
   case round =>
    obtain⟨k,hk,rfl,ho,hB⟩:=hrel;obtain⟨HO,HB,HT⟩:=lH3 ho hB (show (l.take k).length=k by rw[List.length_take,HL.out];omega);have Vj:=lH (show wr.ownsRow w.heap.size 289 3 u3 k (jd jz (l.take k)) by have:=HO.out.1;rw[HT.out] at this;exact this);by_cases hlt:k<len
    · obtain⟨x,y,m,hx,hd,hb,hz,hz2,c0,c1,c2⟩:=(HR.out.kept hB).tri hlt;have HX:=lH hx;have hbw:b<w.heap.size:=by obtain⟨z,_,_,h,_⟩:=HR.out.cells hlt;exact h
      have hbase:w.heap.size≤wr.heap.size:=hB.size;have VY:=lH (show u3.ownBlock≠some b by
       intro e;have:=(Vj.out.lt b e).1;omega)
      have VI:=lH (show w.heap.size≤(wr.alloc (.cells #[.string x,.string y,.bool m] 289)).drew.heap.size by simp;omega);have UB:=lH (show Below w.heap.size w ((wr.alloc (.cells #[.string x,.string y,.bool m] 289)).drew) from HB.out.trans (Below.mono ((ja wr _).trans (Kept.drewN _ 1)) hbase));have hk1:(k:Int)<(len:Int):=by omega
      have Ul:=lH (show jz.fine (x,y,m) from⟨hz,hz2⟩);clear ho hB hx hd hz hz2;go_wp2_with fail
      go_region_held3 (fun W=>W.cell? ⟨b,off+k*3,none⟩=some (.string x)∧W.cell? ⟨b,off+k*3+1,none⟩=some (.string y)∧W.cell? ⟨b,off+k*3+2,none⟩=some (.bool m))
       (first
         | go_keep
         | (go_split_ands
            refine⟨?_,?_,?_⟩
            · (refine(hgrow.cell_far ⟨b,off+k*3,none⟩ (by simp;omega) (Ne.symm VY.out)).trans ?_;assumption)
            · (refine(hgrow.cell_far ⟨b,off+k*3+1,none⟩ (by simp;omega) (Ne.symm VY.out)).trans ?_;assumption)
            · (refine(hgrow.cell_far ⟨b,off+k*3+2,none⟩ (by simp;omega) (Ne.symm VY.out)).trans ?_;assumption)))
       ((refine step_append_lies _ (by rfl) _ _ _ (by rfl) w.heap.size 289 i0 _ 3 40 Tryz.underlying116 hi hz0 hz1 hz2' rfl (by decide) u3 k (jd jz (l.take k)) (by rfl) ((Vj.out.alloc _).drew)
          ⟨wr.heap.size,0,none⟩ 1 1 [.string x,.string y,.bool m] (by rfl) (by rfl) (World.news_of_block (cs:=#[.string x,.string y,.bool m]) (t:=289) (fr:=(0,0)) (heap_alloc_new wr _)) (jcl x y m)
          (by decide) (by unfold maxLen;omega) (by omega) (by simp;omega) (wr.heap.size+1) (by simp) ?_;intro gg cap1 w1 hown1 hgrow hat hlt1))
      all_goals
       go_wp2;go_roundw
       case rel=>exact⟨k+1,by omega,by go_num,by rw[zG HX.out];exact Own.snoc hown1 (by rw[HT.out]) HO.out.2 Ul.out,UB.out.grown hgrow VI.out (fun j hj=>(Vj.out.lt j hj).1)⟩
       case measure=>simp[intOf];omega
    · have HK:=lH (show l.take k=l by rw[List.take_of_length_le (by rw[HL.out];omega)]);clear ho hB;go_wp2;go_ret;exact⟨_,rfl,by have h:=HO.out;rw[HK.out] at h;exact h,HB.out⟩
def jbI (W:World) (N:Nat):Prop:=∀o x u,W.cell? ⟨N,o,none⟩=some (.string x)→W.cell? ⟨N,o+1,none⟩=some u→∃a n c,u=.slice a n c
theorem jh0 {W:World} {N:Nat} {x:ByteArray} {a1 a2 a3:Option Addr} {m1 c1 m2 c2 m3 c3:Nat} {b:Bool} {T:TypeId} {fr:Nat×Nat} (hh:W.heap[N]?=some (.cells #[.string x,.slice a1 m1 c1,.slice a2 m2 c2,.slice a3 m3 c3,.bool b] T fr)):jbI W N:=by
 intro o y u h1 h2;rw[Lib.cell_of_heap hh] at h1 h2
 match o,h1,h2 with
 | 0,_,h2=>exact⟨a1,m1,c1,by simpa using h2.symm⟩
 | 1,h1,_=>simp at h1
 | 2,h1,_=>simp at h1
 | 3,h1,_=>simp at h1
 | 4,h1,_=>simp at h1
 | o+5,h1,_=>simp at h1
theorem jel {w w':World} {v:Value} {l:Vec.V} {N:Nat} (h:Vec.Reads w v l) (hs:w'.heap.size=w.heap.size) (hb:∀b,b≠N→w'.heap[b]?=w.heap[b]?) (hn:jbI w N):Vec.Reads w' v l:=by
 obtain⟨a,cap,rfl,h1,h2,h3,h4,h5,h6⟩:=h;refine⟨a,cap,rfl,h1,h2,h3,h4,h5,?_⟩;rcases h6 with h6 | ⟨b,off,rfl,hlt,hc⟩
 · exact .inl h6
 · by_cases h0:l.length=0
   · exact .inl h0
   · have hne:b≠N:=by
      rintro rfl;obtain⟨c0,c1⟩:=hc 0 (by omega);obtain⟨_,_,_,e⟩:=hn _ _ _ c0 c1
      cases e
     exact .inr ⟨b,off,rfl,by rw[hs];exact hlt,fun i hi=>⟨(World.cell?_of_block (a:=⟨b,off+i*2,none⟩) (hb b hne)).trans (hc i hi).1,(World.cell?_of_block (a:=⟨b,off+i*2+1,none⟩) (hb b hne)).trans (hc i hi).2⟩⟩
theorem jcc {α:Type} {L:Lay α} {w w':World} {v:Value} {l:List α} {N:Nat} (hL:∀x,∃s t,(L.cs x)[0]?=some (.string s)∧(L.cs x)[1]?=some (.string t)) (h:Reads L w v l) (hs:w'.heap.size=w.heap.size) (hb:∀b,b≠N→w'.heap[b]?=w.heap[b]?) (hn:jbI w N):Reads L w' v l:=by
 obtain⟨a,cap,rfl,h1,h2,h3,h4,h5,h6⟩:=h;refine⟨a,cap,rfl,h1,h2,h3,h4,h5,?_⟩;rcases h6 with h6 | ⟨b,off,rfl,hlt,hc⟩
 · exact .inl h6
 · cases l with
   | nil=>exact .inl rfl
   | cons x t =>
    have hne:b≠N:=by
     rintro rfl;obtain⟨s,u,g0,g1⟩:=hL x;have c0:=hc 0 x 0 _ rfl g0;have c1:=hc 0 x 1 _ rfl g1;obtain⟨_,_,_,e⟩:=hn _ _ _ c0 c1
     cases e
    exact .inr ⟨b,off,rfl,by rw[hs];exact hlt,fun i x j u hi hj=>(World.cell?_of_block (a:=⟨b,off+i*L.m+j,none⟩) (hb b hne)).trans (hc i x j u hi hj)⟩
theorem jmj (x:ByteArray×ByteArray):∃s t,(jy.cs x)[0]?=some (.string s)∧(jy.cs x)[1]?=some (.string t):=⟨x.1,x.2,rfl,rfl⟩
theorem jlS (x:NT):∃s t,(jz.cs x)[0]?=some (.string s)∧(jz.cs x)[1]?=some (.string t):=⟨x.1,x.2.1,rfl,rfl⟩
theorem jah {w w':World} {v1 v2 v3:Value} {n:Nod} {N:Nat} (h:zk w v1 v2 v3 n) (hs:w'.heap.size=w.heap.size) (hb:∀b,b≠N→w'.heap[b]?=w.heap[b]?) (hn:jbI w N):zk w' v1 v2 v3 n :=
 ⟨h.size,jel h.cap hs hb hn,jcc jmj h.labels hs hb hn,jcc jlS h.taints hs hb hn⟩
end Go.Proofs.YtokdjfoalkmhiaaGreat
