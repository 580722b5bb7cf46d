/- C. -/
import Derived.Test.YtabafpoklpiiiaaGreatG0
import Derived.Test.YtabafpoklpiiiaaGreatG1
set_option linter.unusedVariables false
set_option maxRecDepth 100000
set_option maxHeartbeats 25600000
namespace Go.Proofs.YtabafpoklpiiiaaGreat
open Go.RowKit
theorem jgU:Kind 26 141 2 32:=by
 obtain⟨i,hi,hz,h1,h2⟩:=info_parts (show (Tryz.prog.info? 141).map (fun i=>(i.zero,i.size,i.bytes))=some (some (.agg #[.string ByteArray.empty,.string ByteArray.empty]),2,32) by kernel_rfl);exact⟨i,_,Tryz.underlying26,hi,hz,h1,h2,rfl,by decide⟩
theorem jgO:Kind 27 219 3 40:=by
 obtain⟨i,hi,hz,h1,h2⟩:=info_parts (show (Tryz.prog.info? 219).map (fun i=>(i.zero,i.size,i.bytes))=some (some (.agg #[.string ByteArray.empty,.string ByteArray.empty,.bool false]),3,40) by kernel_rfl);exact⟨i,_,Tryz.underlying27,hi,hz,h1,h2,rfl,by decide⟩
theorem jgL:Kind 24 88 2 24:=by
 obtain⟨i,hi,hz,h1,h2⟩:=info_parts (show (Tryz.prog.info? 88).map (fun i=>(i.zero,i.size,i.bytes))=some (some (.agg #[.string ByteArray.empty,.int .i64 0]),2,24) by kernel_rfl);exact⟨i,_,Tryz.underlying24,hi,hz,h1,h2,rfl,by decide⟩
theorem qM:∀(l:Vec.V) (j:Nat) (u:Value),(Vec.cellsOf l)[j]?=some u→∃i,i<l.length∧((j=i*2∧u=.string (Vec.nm l i))∨(j=i*2+1∧u=.int .i64 (Vec.qn l i))):=by
 intro l j u h;have hlt:j<l.length*2:=by have:=(List.getElem?_eq_some_iff.1 h).1;rw[Vec.Zj] at this;exact this
 have hi:j / 2<l.length:=by omega
 obtain⟨h1,h2⟩:=Vec.YQ l (j / 2) hi;refine⟨j / 2,hi,?_⟩;by_cases he:j % 2=0
 · have e:j=j / 2*2:=by omega
   rw[←e] at h1;rw[h1] at h;exact .inl ⟨e,by cases h;rfl⟩
 · have e:j=j / 2*2+1:=by omega
   rw[←e] at h2;rw[h2] at h;exact .inr ⟨e,by cases h;rfl⟩
theorem jfS {w:World} {a:Option Addr} {len cap:Nat} {l:Vec.V} (h:Vec.js w a len l):Y9 w (.slice a len cap) len (Vec.cellsOf l):=by
 obtain⟨h0,h1,h2,h3⟩:=h;rcases h3 with h3 | ⟨b,off,rfl,hb,hc⟩
 · have hl:l=[]:=List.eq_nil_of_length_eq_zero (by omega);subst hl;subst h3
   cases a with
   | none=>exact .inr ⟨cap,rfl,rfl⟩
   | some ad=>exact .inl ⟨ad,cap,rfl,fun j u hu=>by simp[Vec.cellsOf] at hu⟩
 · refine .inl ⟨_,cap,rfl,fun j u hu=>?_⟩;obtain⟨i,hi,hj⟩:=qM l j u hu;obtain⟨c1,c2⟩:=hc i (by omega);have e:(⟨b,off,none⟩:Addr).add j=⟨b,off+j,none⟩:=by
    unfold Addr.add;split<;>simp_all
   rw[e];rcases hj with ⟨rfl,rfl⟩ | ⟨rfl,rfl⟩
   · exact c1
   · rw[←Nat.add_assoc];exact c2
theorem YS (a:Option Addr) (len cap:Nat) (l:PL) (w:World) (hr:jk zc w a len l) (hc:len≤cap) (hm:cap≤maxLen) (hn:len≤1000000) :
 Calls Tryz.prog 88 #[.slice a len cap] w fun e w'=>∃a' m' c',e=.returned (.slice a' m' c')∧Reads zc w' (.slice a' m' c') l∧(∀b off sp,a'=some ⟨b,off,sp⟩→w.heap.size≤b)∧Kept w w':=by
 have hl:=hr.1;have q22:∀(w:World) (a:Option Addr) (n c n' c':Nat),(binOp .eql 26 (.slice a n c) (.slice none n' c')).run Tryz.prog w=.ok (.bool a.isNone) w:=fun w a n c n' c'=>Lib.run_eql_slice_nil w _ _ a n c n' c' Tryz.underlying26
 cases a with
 | none =>
  have h0:len=0:=by
   rcases hr.form with h | ⟨b,off,h⟩
   · exact h
   · cases h
  subst h0;have hl0:l=[]:=List.eq_nil_of_length_eq_zero hl;subst hl0;clear hr hl;go_enter Tryz.func88,Tryz.ntmps88;go_wp2;go_ret;exact⟨none,0,0,rfl,Reads.nil _,(fun b o s e=>by cases e),Kept.refl _⟩
 | some ad =>
  have HR:=lH hr;have HL:=lH hl;have hrl:(jd zc l).length=len*2:=by rw[jx,hl];rfl
  have hb1:0+len≤maxLen:=by unfold maxLen;omega
  have hb2:((0+len)+(0+len) / 4+192)*32≤281474976710656:=by omega
  clear hr hl;go_enter Tryz.func88,Tryz.ntmps88;go_wp2_with (at_builtin;refine zg jgU _ rfl (.tmp 5) (.tmp 6) rfl w.heap.size (by simp) w.heap.size 0 0 [] rfl (Jk w w.heap.size 2 _ (Nat.le_refl _)) _ len (jd zc l) rfl hrl (zl _ _) (jk.src (HR.out.kept (ja _ _))) hb1 hb2 ?_;intro g1 k1 W1 ho hd hg;have HO:=lH ho;have HD:=lH hd;clear ho hd hg;refine Hid.out ?_)
  refine lH ?_;simp only[Nat.zero_add,List.nil_append] at HO ⊢;go_wp2;go_ret;exact⟨_,_,_,rfl,Own.reads (⟨by rw[HL.out];exact HO.out,HR.out.2.2.1⟩:Own zc 141 W1 w.heap.size (.slice (some ⟨g1,0,none⟩) len k1) l),(fun b o s e=>by cases e;exact(HO.out.lt g1 rfl).1),Below.trans (ja w _) HD.out⟩
theorem qu (a:Option Addr) (len cap:Nat) (l:NL) (w:World) (hr:jk zr w a len l) (hc:len≤cap) (hm:cap≤maxLen) (hn:len≤1000000) :
 Calls Tryz.prog 156 #[.slice a len cap] w fun e w'=>∃a' m' c',e=.returned (.slice a' m' c')∧Reads zr w' (.slice a' m' c') l∧(∀b off sp,a'=some ⟨b,off,sp⟩→w.heap.size≤b)∧Kept w w':=by
 have hl:=hr.1;have q22:∀(w:World) (a:Option Addr) (n c n' c':Nat),(binOp .eql 27 (.slice a n c) (.slice none n' c')).run Tryz.prog w=.ok (.bool a.isNone) w:=fun w a n c n' c'=>Lib.run_eql_slice_nil w _ _ a n c n' c' Tryz.underlying27
 cases a with
 | none =>
  have h0:len=0:=by
   rcases hr.form with h | ⟨b,off,h⟩
   · exact h
   · cases h
  subst h0;have hl0:l=[]:=List.eq_nil_of_length_eq_zero hl;subst hl0;clear hr hl;go_enter Tryz.func156,Tryz.ntmps156;go_wp2;go_ret;exact⟨none,0,0,rfl,Reads.nil _,(fun b o s e=>by cases e),Kept.refl _⟩
 | some ad =>
  have HR:=lH hr;have HL:=lH hl;have hrl:(jd zr l).length=len*3:=by rw[jx,hl];rfl
  have hb1:0+len≤maxLen:=by unfold maxLen;omega
  have hb2:((0+len)+(0+len) / 4+192)*40≤281474976710656:=by omega
  clear hr hl;go_enter Tryz.func156,Tryz.ntmps156;go_wp2_with (at_builtin;refine zg jgO _ rfl (.tmp 5) (.tmp 6) rfl w.heap.size (by simp) w.heap.size 0 0 [] rfl (Jk w w.heap.size 3 _ (Nat.le_refl _)) _ len (jd zr l) rfl hrl (zl _ _) (jk.src (HR.out.kept (ja _ _))) hb1 hb2 ?_;intro g1 k1 W1 ho hd hg;have HO:=lH ho;have HD:=lH hd;clear ho hd hg;refine Hid.out ?_)
  refine lH ?_;simp only[Nat.zero_add,List.nil_append] at HO ⊢;go_wp2;go_ret;exact⟨_,_,_,rfl,Own.reads (⟨by rw[HL.out];exact HO.out,HR.out.2.2.1⟩:Own zr 219 W1 w.heap.size (.slice (some ⟨g1,0,none⟩) len k1) l),(fun b o s e=>by cases e;exact(HO.out.lt g1 rfl).1),Below.trans (ja w _) HD.out⟩
theorem YN (a:Option Addr) (len cap:Nat) (l:Vec.V) (w:World) (hr:Vec.js w a len l) (hc:len≤cap) (hm:cap≤maxLen) (hn:len≤1000000) :
 Calls Tryz.prog 87 #[.slice a len cap] w fun e w'=>∃a' m' c',e=.returned (.slice a' m' c')∧Vec.Reads w' (.slice a' m' c') l∧(∀b off sp,a'=some ⟨b,off,sp⟩→w.heap.size≤b)∧Kept w w':=by
 have hl:=hr.1;have q22:∀(w:World) (a:Option Addr) (n c n' c':Nat),(binOp .eql 24 (.slice a n c) (.slice none n' c')).run Tryz.prog w=.ok (.bool a.isNone) w:=fun w a n c n' c'=>Lib.run_eql_slice_nil w _ _ a n c n' c' Tryz.underlying24
 cases a with
 | none =>
  have h0:len=0:=by
   rcases hr.form with h | ⟨b,off,h⟩
   · exact h
   · cases h
  subst h0;have hl0:l=[]:=List.eq_nil_of_length_eq_zero hl;subst hl0;clear hr hl;go_enter Tryz.func87,Tryz.ntmps87;go_wp2;go_ret;exact⟨none,0,0,rfl,Vec.Reads.nil _,(fun b o s e=>by cases e),Kept.refl _⟩
 | some ad =>
  have HR:=lH hr;have HL:=lH hl;have hrl:(Vec.cellsOf l).length=len*2:=by rw[Vec.Zj,hl]
  have hb1:0+len≤maxLen:=by unfold maxLen;omega
  have hb2:((0+len)+(0+len) / 4+192)*24≤281474976710656:=by omega
  clear hr hl;go_enter Tryz.func87,Tryz.ntmps87;go_wp2_with (at_builtin;refine zg jgL _ rfl (.tmp 5) (.tmp 6) rfl w.heap.size (by simp) w.heap.size 0 0 [] rfl (Jk w w.heap.size 2 _ (Nat.le_refl _)) _ len (Vec.cellsOf l) rfl hrl (Vec.Yt _) (jfS (HR.out.kept (ja _ _))) hb1 hb2 ?_;intro g1 k1 W1 ho hd hg;have HO:=lH ho;have HD:=lH hd;clear ho hd hg;refine Hid.out ?_)
  refine lH ?_;simp only[Nat.zero_add,List.nil_append] at HO ⊢;go_wp2;go_ret;exact⟨_,_,_,rfl,Vec.jP.reads (⟨by rw[HL.out];exact HO.out,HR.out.2.2.1⟩:Vec.jP 88 W1 w.heap.size (.slice (some ⟨g1,0,none⟩) len k1) l),(fun b o s e=>by cases e;exact(HO.out.lt g1 rfl).1),Below.trans (ja w _) HD.out⟩
def jX (q:Nat) (v0 v1 v2 v3 v4:Value) (W:World):Prop :=
 (W.cell? ⟨q,0,none⟩=some v0∧W.cell? ⟨q,1,none⟩=some v1∧W.cell? ⟨q,2,none⟩=some v2∧W.cell? ⟨q,3,none⟩=some v3∧W.cell? ⟨q,4,none⟩=some v4) ∧
  W.frozen? ⟨q,0,none⟩=false∧W.frozen? ⟨q,1,none⟩=false∧W.frozen? ⟨q,2,none⟩=false∧W.frozen? ⟨q,3,none⟩=false∧W.frozen? ⟨q,4,none⟩=false
theorem jX.block {q:Nat} {v0 v1 v2 v3 v4:Value} {W W':World} (h:jX q v0 v1 v2 v3 v4 W) (e:W'.heap[q]?=W.heap[q]?):jX q v0 v1 v2 v3 v4 W':=by
 have c:∀j,W'.cell? ⟨q,j,none⟩=W.cell? ⟨q,j,none⟩:=fun j=>World.cell?_of_block (a:=⟨q,j,none⟩) e;have f:∀j,W'.frozen? ⟨q,j,none⟩=W.frozen? ⟨q,j,none⟩:=fun j=>World.frozen?_of_block (a:=⟨q,j,none⟩) e;unfold jX;simp only[c,f];exact h
theorem jX.kept {q:Nat} {v0 v1 v2 v3 v4:Value} {W W':World} (h:jX q v0 v1 v2 v3 v4 W) (k:Kept W W'):jX q v0 v1 v2 v3 v4 W':=h.block (k.block q (World.block_lt_of_cell? _ _ h.1.1))
theorem jX.other {q p j:Nat} {v0 v1 v2 v3 v4 u:Value} {W:World} (h:jX q v0 v1 v2 v3 v4 W) (hp:q≠p):jX q v0 v1 v2 v3 v4 (W.setCell ⟨p,j,none⟩ u):=h.block (Below.heap_setCell W ⟨p,j,none⟩ u q hp)
theorem jX.set1 {q:Nat} {v0 v1 v2 v3 v4:Value} {W:World} (h:jX q v0 v1 v2 v3 v4 W) (u:Value):jX q v0 u v2 v3 v4 (W.setCell ⟨q,1,none⟩ u):=by
 obtain⟨⟨y0,y1,y2,y3,y4⟩,x0,x1,x2,x3,x4⟩:=h;refine⟨⟨?_,?_,?_,?_,?_⟩,?_,?_,?_,?_,?_⟩<;>go_simp
theorem jX.set2 {q:Nat} {v0 v1 v2 v3 v4:Value} {W:World} (h:jX q v0 v1 v2 v3 v4 W) (u:Value):jX q v0 v1 u v3 v4 (W.setCell ⟨q,2,none⟩ u):=by
 obtain⟨⟨y0,y1,y2,y3,y4⟩,x0,x1,x2,x3,x4⟩:=h;refine⟨⟨?_,?_,?_,?_,?_⟩,?_,?_,?_,?_,?_⟩<;>go_simp
theorem jX.set3 {q:Nat} {v0 v1 v2 v3 v4:Value} {W:World} (h:jX q v0 v1 v2 v3 v4 W) (u:Value):jX q v0 v1 v2 u v4 (W.setCell ⟨q,3,none⟩ u):=by
 obtain⟨⟨y0,y1,y2,y3,y4⟩,x0,x1,x2,x3,x4⟩:=h;refine⟨⟨?_,?_,?_,?_,?_⟩,?_,?_,?_,?_,?_⟩<;>go_simp
theorem zM {α:Type} {L:Lay α} {B p j:Nat} {u:Value} {w:World} {a:Option Addr} {m c:Nat} {l:List α} (h:Reads L w (.slice a m c) l) (g:∀b off sp,a=some ⟨b,off,sp⟩→B≤b) (hp:p<B):Reads L (w.setCell ⟨p,j,none⟩ u) (.slice a m c) l :=
 h.far (by simp[World.setCell]) (fun b o s e=>Below.heap_setCell w ⟨p,j,none⟩ u b (show b≠p by have:=g b o s e;omega))
theorem zY {B p j:Nat} {u:Value} {w:World} {a:Option Addr} {m c:Nat} {l:Vec.V} (h:Vec.Reads w (.slice a m c) l) (g:∀b off sp,a=some ⟨b,off,sp⟩→B≤b) (hp:p<B):Vec.Reads (w.setCell ⟨p,j,none⟩ u) (.slice a m c) l :=
 h.far (by simp[World.setCell]) (fun b o s e=>Below.heap_setCell w ⟨p,j,none⟩ u b (show b≠p by have:=g b o s e;omega))
structure JL (n:Nod):Prop where
 cap:n.cap.length≤1000000
 labels:n.labels.length≤1000000
 taints:n.taints.length≤1000000
theorem jdJ (n:Nod) (a1 a2 a3:Option Addr) (m1 c1 m2 c2 m3 c3:Nat) (w:World) (h:zA w (.slice a1 m1 c1) (.slice a2 m2 c2) (.slice a3 m3 c3) n) (hl:JL n) :
 Calls Tryz.prog 204 #[.agg #[.string n.name,.slice a1 m1 c1,.slice a2 m2 c2,.slice a3 m3 c3,.bool n.cordon]] w fun e w'=>∃v,e=.returned v∧zK w.heap.size w' v n∧Kept w w':=by
 have hsz:=h.size;obtain⟨x1,y1,e1,p1,q1,r1⟩:=h.cap
 cases e1
 obtain⟨x2,y2,e2,p2,q2,r2⟩:=h.labels
 cases e2
 obtain⟨x3,y3,e3,p3,q3,r3⟩:=h.taints
 cases e3
 obtain⟨H1,H2,H3⟩:=lH3 (fun W (k:Kept w W)=>YN a1 n.cap.length c1 n.cap W (r1.kept k) p1 q1 hl.cap) (fun W (k:Kept w W)=>YS a2 n.labels.length c2 n.labels W (r2.kept k) p2 q2 hl.labels) (fun W (k:Kept w W)=>qu a3 n.taints.length c3 n.taints W (r3.kept k) p3 q3 hl.taints);obtain⟨k1,hk1⟩:=eX (n.cap.length)
 obtain⟨k2,hk2⟩:=eX (n.labels.length)
 obtain⟨k3,hk3⟩:=eX (n.taints.length)
 obtain⟨x,hx⟩:=eX (n.name)
 obtain⟨cd,hcd⟩:=eX (n.cordon)
 have hxs:x.size≤maxLen:=by rw[←hx];exact hsz
 rw[hk1] at H1;rw[hk2] at H2;rw[hk3] at H3;rw[hk1,hk2,hk3,hx,hcd];have HX:=lH hx;have TZ:=lH hcd;clear h hl p1 q1 r1 p2 q2 r2 p3 q3 r3 hk1 hk2 hk3 hx hcd hsz;obtain⟨Z,hZ⟩:=eX ((w.alloc (.cells #[.string x,.slice a1 k1 c1,.slice a2 k2 c2,.slice a3 k3 c3,.bool cd] 29)).alloc (.cells #[.string ⟨#[]⟩,.slice none 0 0,.slice none 0 0,.slice none 0 0,.bool false] 29))
 have hkz:Kept w Z:=by rw[←hZ];exact ji _ _ _
 have hzs:Z.heap.size=w.heap.size+2:=by rw[←hZ];simp
 have Q0:=lH (show jX w.heap.size (.string x) (.slice a1 k1 c1) (.slice a2 k2 c2) (.slice a3 k3 c3) (.bool cd) Z from X7 w _ _ _ _ _ 29 Z (by rw[←hZ];exact ja _ _));have Q1:=lH (show jX (w.heap.size+1) (.string ⟨#[]⟩) (.slice none 0 0) (.slice none 0 0) (.slice none 0 0) (.bool false) Z by
  have:=X7 (w.alloc (.cells #[.string x,.slice a1 k1 c1,.slice a2 k2 c2,.slice a3 k3 c3,.bool cd] 29)) (.string ⟨#[]⟩) (.slice none 0 0) (.slice none 0 0) (.slice none 0 0) (.bool false) 29 Z (by rw[hZ];exact Kept.refl _);rw[World.size_alloc] at this;exact this)
 have K:=lH hkz;have hs0:w.heap.size+2≤Z.heap.size:=by omega
 clear hkz hzs;obtain⟨⟨y0,y1,y2,y3,y4⟩,x0,x1,x2,x3,x4⟩:=Q0.out;go_enter Tryz.func204,Tryz.ntmps204;go_wp2_with fail
 try rw[hZ]
 clear hZ;clear y0 y1 y2 y3 y4 x0 x1 x2 x3 x4;refine(H1.out _ K.out).mono ?_;rintro e w1 ⟨b1,n1,d1,rfl,rr,gg,k⟩;obtain⟨V3,RA,K⟩:=lH3 (show ∀b off sp,b1=some ⟨b,off,sp⟩→w.heap.size+2≤b from fun b o s e=>by have:=gg b o s e;omega) rr (K.out.trans k);have hs1:w.heap.size+2≤w1.heap.size:=by have:=k.size;omega
 have Q0:=lH (Q0.out.kept k);have Q1:=lH (Q1.out.kept k);clear rr gg k hs0;obtain⟨⟨y0,y1,y2,y3,y4⟩,x0,x1,x2,x3,x4⟩:=Q0.out;obtain⟨Q0,Q1,RA,K⟩:=lH4 (Q0.out.set1 (.slice b1 n1 d1)) (Q1.out.other (p:=w.heap.size) (j:=1) (u:=.slice b1 n1 d1) (by omega)) (zY (p:=w.heap.size) (j:=1) (u:=.slice b1 n1 d1) RA.out V3.out (by omega)) (show Kept w (w1.setCell ⟨w.heap.size,1,none⟩ (.slice b1 n1 d1)) from K.out.setCell (p:=⟨w.heap.size,1,none⟩) (Nat.le_refl _) _);have hs0:w.heap.size+2≤(w1.setCell ⟨w.heap.size,1,none⟩ (.slice b1 n1 d1)).heap.size:=by simpa [World.setCell] using hs1
 clear hs1;obtain⟨⟨z0,z1,z2,z3,z4⟩,-⟩:=Q0.out;go_wp2_with fail
 clear y0 y1 y2 y3 y4 x0 x1 x2 x3 x4 z0 z1 z2 z3 z4;obtain⟨W1,hW1⟩:=eX (w1.setCell ⟨w.heap.size,1,none⟩ (.slice b1 n1 d1))
 rw[hW1] at Q0 Q1 RA K hs0 ⊢;clear hW1;refine(H2.out _ K.out).mono ?_;rintro e w2 ⟨b2,n2,d2,rfl,rr,gg,k⟩;obtain⟨Va,RB,K⟩:=lH3 (show ∀b off sp,b2=some ⟨b,off,sp⟩→w.heap.size+2≤b from fun b o s e=>by have:=gg b o s e;omega) rr (K.out.trans k);have hs1:w.heap.size+2≤w2.heap.size:=by have:=k.size;omega
 obtain⟨Q0,Q1,RA⟩:=lH3 (Q0.out.kept k) (Q1.out.kept k) (RA.out.kept k);clear rr gg k hs0;obtain⟨⟨y0,y1,y2,y3,y4⟩,x0,x1,x2,x3,x4⟩:=Q0.out;obtain⟨Q0,Q1,RA,RB,K⟩:=lH5 (Q0.out.set2 (.slice b2 n2 d2)) (Q1.out.other (p:=w.heap.size) (j:=2) (u:=.slice b2 n2 d2) (by omega)) (zY (p:=w.heap.size) (j:=2) (u:=.slice b2 n2 d2) RA.out V3.out (by omega)) (zM (p:=w.heap.size) (j:=2) (u:=.slice b2 n2 d2) RB.out Va.out (by omega)) (show Kept w (w2.setCell ⟨w.heap.size,2,none⟩ (.slice b2 n2 d2)) from K.out.setCell (p:=⟨w.heap.size,2,none⟩) (Nat.le_refl _) _);have hs0:w.heap.size+2≤(w2.setCell ⟨w.heap.size,2,none⟩ (.slice b2 n2 d2)).heap.size:=by simpa [World.setCell] using hs1
 clear hs1;obtain⟨⟨z0,z1,z2,z3,z4⟩,-⟩:=Q0.out;go_wp2_with fail
 clear y0 y1 y2 y3 y4 x0 x1 x2 x3 x4 z0 z1 z2 z3 z4;obtain⟨W2,hW2⟩:=eX (w2.setCell ⟨w.heap.size,2,none⟩ (.slice b2 n2 d2))
 rw[hW2] at Q0 Q1 RA RB K hs0 ⊢;clear hW2;refine(H3.out _ K.out).mono ?_;rintro e w3 ⟨b3,n3,d3,rfl,rr,gg,k⟩;obtain⟨Uz,RC,K⟩:=lH3 (show ∀b off sp,b3=some ⟨b,off,sp⟩→w.heap.size+2≤b from fun b o s e=>by have:=gg b o s e;omega) rr (K.out.trans k);have hs1:w.heap.size+2≤w3.heap.size:=by have:=k.size;omega
 obtain⟨Q0,Q1,RA,RB⟩:=lH4 (Q0.out.kept k) (Q1.out.kept k) (RA.out.kept k) (RB.out.kept k);clear rr gg k hs0;obtain⟨⟨y0,y1,y2,y3,y4⟩,x0,x1,x2,x3,x4⟩:=Q0.out;obtain⟨Q0,Q1,RA,RB,RC,K⟩:=lH6 (Q0.out.set3 (.slice b3 n3 d3)) (Q1.out.other (p:=w.heap.size) (j:=3) (u:=.slice b3 n3 d3) (by omega)) (zY (p:=w.heap.size) (j:=3) (u:=.slice b3 n3 d3) RA.out V3.out (by omega)) (zM (p:=w.heap.size) (j:=3) (u:=.slice b3 n3 d3) RB.out Va.out (by omega)) (zM (p:=w.heap.size) (j:=3) (u:=.slice b3 n3 d3) RC.out Uz.out (by omega)) (show Kept w (w3.setCell ⟨w.heap.size,3,none⟩ (.slice b3 n3 d3)) from K.out.setCell (p:=⟨w.heap.size,3,none⟩) (Nat.le_refl _) _);have hs0:w.heap.size+2≤(w3.setCell ⟨w.heap.size,3,none⟩ (.slice b3 n3 d3)).heap.size:=by simpa [World.setCell] using hs1
 clear hs1;obtain⟨⟨z0,z1,z2,z3,z4⟩,-⟩:=Q0.out;obtain⟨⟨g0,g1,g2,g3,g4⟩,f0,f1,f2,f3,f4⟩:=Q1.out;go_wp2;have P:=lH (Zz ⟨g0,g1,g2,g3,g4⟩ x b1 b2 b3 n1 d1 n2 d2 n3 d3 cd);clear y0 y1 y2 y3 y4 x0 x1 x2 x3 x4 z0 z1 z2 z3 z4 g0 g1 g2 g3 g4 f0 f1 f2 f3 f4;obtain⟨W3,hW3⟩:=eX (w3.setCell ⟨w.heap.size,3,none⟩ (.slice b3 n3 d3))
 rw[hW3] at RA RB RC K hs0 P ⊢;obtain⟨WE,hWE⟩:=eX ((((((W3.setCell ⟨w.heap.size+1,0,none⟩ (.string x)).setCell ⟨w.heap.size+1,1,none⟩ (.slice b1 n1 d1)).setCell ⟨w.heap.size+1,2,none⟩ (.slice b2 n2 d2)).setCell ⟨w.heap.size+1,3,none⟩ (.slice b3 n3 d3)).setCell ⟨w.heap.size+1,4,none⟩ (.bool cd)))
 rw[hWE] at P ⊢;clear hWE hW3;obtain⟨⟨e0,e1,e2,e3,e4⟩,hsz,hbl,hkp⟩:=P.out;refine bodyPost_ret (by simp[results,Tryz.results204,go_sem,e0,e1,e2,e3,e4];try rfl) rfl ?_;exact⟨_,rfl,⟨b1,n1,d1,b2,n2,d2,b3,n3,d3,by rw[HX.out,TZ.out],by rw[HX.out];exact hxs,RA.out.far hsz (fun b o s e=>hbl b (by have:=V3.out b o s e;omega)),RB.out.far hsz (fun b o s e=>hbl b (by have:=Va.out b o s e;omega)),RC.out.far hsz (fun b o s e=>hbl b (by have:=Uz.out b o s e;omega)),fun b o s e=>Nat.le_trans (Nat.le_add_right _ 2) (V3.out b o s e),fun b o s e=>Nat.le_trans (Nat.le_add_right _ 2) (Va.out b o s e),fun b o s e=>Nat.le_trans (Nat.le_add_right _ 2) (Uz.out b o s e)⟩,hkp _ _ (Nat.le_succ _) K.out⟩
def jt (w:World) (a:Option Addr) (len:Nat) (l:List Nod):Prop :=
 l.length=len∧len≤maxLen∧(len=0∨∃b off,a=some ⟨b,off,none⟩∧b<w.heap.size∧∀i n,l[i]?=some n→∃a1 m1 c1 a2 m2 c2 a3 m3 c3,
  w.cell? ⟨b,off+i*5,none⟩=some (.string n.name)∧w.cell? ⟨b,off+i*5+1,none⟩=some (.slice a1 m1 c1)∧w.cell? ⟨b,off+i*5+2,none⟩=some (.slice a2 m2 c2)∧w.cell? ⟨b,off+i*5+3,none⟩=some (.slice a3 m3 c3)∧w.cell? ⟨b,off+i*5+4,none⟩=some (.bool n.cordon) ∧
  zA w (.slice a1 m1 c1) (.slice a2 m2 c2) (.slice a3 m3 c3) n)
theorem jt.kept {w w':World} {a:Option Addr} {len:Nat} {l:List Nod} (h:jt w a len l) (k:Kept w w'):jt w' a len l:=by
 obtain⟨h0,h1,h2⟩:=h;refine⟨h0,h1,h2.imp id ?_⟩;rintro ⟨b,off,rfl,hb,hc⟩;refine⟨b,off,rfl,Nat.lt_of_lt_of_le hb k.size,fun i n hi=>?_⟩;obtain⟨a1,m1,c1,a2,m2,c2,a3,m3,c3,p0,p1,p2,p3,p4,hn⟩:=hc i n hi;exact⟨a1,m1,c1,a2,m2,c2,a3,m3,c3,cell_later k p0,cell_later k p1,cell_later k p2,cell_later k p3,cell_later k p4,hn.kept k⟩
theorem jt.form {w:World} {a:Option Addr} {len:Nat} {l:List Nod} (h:jt w a len l):len=0∨∃b off,a=some ⟨b,off,none⟩:=by
 obtain⟨_,_,h2⟩:=h;exact h2.imp id fun ⟨b,off,e,_⟩=>⟨b,off,e⟩
theorem jt.at_ {w:World} {b off len:Nat} {l:List Nod} {k:Nat} (h:jt w (some ⟨b,off,none⟩) len l) (hk:k<len):∃n a1 m1 c1 a2 m2 c2 a3 m3 c3,l[k]?=some n∧l.drop k=n::l.drop (k+1)∧b<w.heap.size ∧
 w.cell? ⟨b,off+k*5,none⟩=some (.string n.name)∧w.cell? ⟨b,off+k*5+1,none⟩=some (.slice a1 m1 c1)∧w.cell? ⟨b,off+k*5+2,none⟩=some (.slice a2 m2 c2)∧w.cell? ⟨b,off+k*5+3,none⟩=some (.slice a3 m3 c3)∧w.cell? ⟨b,off+k*5+4,none⟩=some (.bool n.cordon) ∧
 zA w (.slice a1 m1 c1) (.slice a2 m2 c2) (.slice a3 m3 c3) n:=by
 obtain⟨h0,_,h3⟩:=h;have hkl:k<l.length:=by omega
 rcases h3 with h3 | ⟨b',off',e,hb,hc⟩
 · omega
 · injection e with e;injection e with e1 e2 e3;subst e1;subst e2;have he:l[k]?=some l[k]:=List.getElem?_eq_getElem hkl;obtain⟨a1,m1,c1,a2,m2,c2,a3,m3,c3,r⟩:=hc k _ he;exact⟨l[k],a1,m1,c1,a2,m2,c2,a3,m3,c3,he,List.drop_eq_getElem_cons hkl,hb,r⟩
def Yc (w:World) (v:Value) (l:List Nod):Prop:=∃a cap,v=.slice a l.length cap∧l.length≤cap∧cap≤maxLen∧jt w a l.length l
theorem Yc.kept {w w':World} {v:Value} {l:List Nod} (h:Yc w v l) (k:Kept w w'):Yc w' v l:=by
 obtain⟨a,cap,e,h1,h2,h3⟩:=h;exact⟨a,cap,e,h1,h2,h3.kept k⟩
structure je (q:Nat) (vs:List Value) (W:World):Prop where
 at_:∀i v,vs[i]?=some v→W.cell? ⟨q,i,none⟩=some v
 free:∀i,W.frozen? ⟨q,i,none⟩=false
theorem je.block {q:Nat} {vs:List Value} {W W':World} (h:je q vs W) (e:W'.heap[q]?=W.heap[q]?):je q vs W' :=
 ⟨fun i v hv=>(World.cell?_of_block (a:=⟨q,i,none⟩) e).trans (h.at_ i v hv),fun i=>(World.frozen?_of_block (a:=⟨q,i,none⟩) e).trans (h.free i)⟩
theorem je.at3 {q:Nat} {a b c:Value} {r9:List Value} {W:World} (h:je q (a::b::c::r9) W):W.cell? ⟨q,0,none⟩=some a∧W.cell? ⟨q,1,none⟩=some b∧W.cell? ⟨q,2,none⟩=some c:=⟨h.at_ 0 _ rfl,h.at_ 1 _ rfl,h.at_ 2 _ rfl⟩
theorem je.at4 {q:Nat} {a b c d:Value} {r9:List Value} {W:World} (h:je q (a::b::c::d::r9) W):W.cell? ⟨q,0,none⟩=some a∧W.cell? ⟨q,1,none⟩=some b∧W.cell? ⟨q,2,none⟩=some c∧W.cell? ⟨q,3,none⟩=some d:=⟨h.at_ 0 _ rfl,h.at_ 1 _ rfl,h.at_ 2 _ rfl,h.at_ 3 _ rfl⟩
theorem je.at5 {q:Nat} {a b c d e:Value} {r9:List Value} {W:World} (h:je q (a::b::c::d::e::r9) W):W.cell? ⟨q,0,none⟩=some a∧W.cell? ⟨q,1,none⟩=some b∧W.cell? ⟨q,2,none⟩=some c∧W.cell? ⟨q,3,none⟩=some d∧W.cell? ⟨q,4,none⟩=some e:=⟨h.at_ 0 _ rfl,h.at_ 1 _ rfl,h.at_ 2 _ rfl,h.at_ 3 _ rfl,h.at_ 4 _ rfl⟩
theorem je.at11 {q:Nat} {a b c d e f g i j k l:Value} {r9:List Value} {W:World} (h:je q (a::b::c::d::e::f::g::i::j::k::l::r9) W):W.cell? ⟨q,0,none⟩=some a∧W.cell? ⟨q,1,none⟩=some b∧W.cell? ⟨q,2,none⟩=some c∧W.cell? ⟨q,3,none⟩=some d∧W.cell? ⟨q,4,none⟩=some e∧W.cell? ⟨q,5,none⟩=some f∧W.cell? ⟨q,6,none⟩=some g∧W.cell? ⟨q,7,none⟩=some i∧W.cell? ⟨q,8,none⟩=some j∧W.cell? ⟨q,9,none⟩=some k∧W.cell? ⟨q,10,none⟩=some l:=⟨h.at_ 0 _ rfl,h.at_ 1 _ rfl,h.at_ 2 _ rfl,h.at_ 3 _ rfl,h.at_ 4 _ rfl,h.at_ 5 _ rfl,h.at_ 6 _ rfl,h.at_ 7 _ rfl,h.at_ 8 _ rfl,h.at_ 9 _ rfl,h.at_ 10 _ rfl⟩
theorem je.lt {q:Nat} {v:Value} {vs:List Value} {W:World} (h:je q (v::vs) W):q<W.heap.size:=World.block_lt_of_cell? _ _ (h.at_ 0 v rfl)
theorem je.kept {q:Nat} {v:Value} {vs:List Value} {W W':World} (h:je q (v::vs) W) (k:Kept W W'):je q (v::vs) W':=h.block (k.block q h.lt)
theorem je.other {q p j:Nat} {u:Value} {vs:List Value} {W:World} (h:je q vs W) (hp:q≠p):je q vs (W.setCell ⟨p,j,none⟩ u):=h.block (Below.heap_setCell W ⟨p,j,none⟩ u q hp)
theorem jc (w:World) (v:Value) (vs:List Value) (T:TypeId) (W:World) (k:Kept (w.alloc (.cells (v::vs).toArray T)) W):je w.heap.size (v::vs) W:=by
 have hh:=w.alloc_heap_new (.cells (v::vs).toArray T);have h:je w.heap.size (v::vs) (w.alloc (.cells (v::vs).toArray T)):=⟨fun i u hu=>by rw[Lib.cell_of_heap hh];simpa using hu,fun i=>by
  unfold World.frozen?;rw[show (w.alloc (.cells (v::vs).toArray T)).heap[(⟨w.heap.size,i,none⟩:Addr).block]?=some (.cells (v::vs).toArray T) from hh];simp⟩
 exact h.kept k
theorem je.set {q j:Nat} {u:Value} {vs:List Value} {W:World} (h:je q vs W) (hj:j<vs.length):je q (vs.set j u) (W.setCell ⟨q,j,none⟩ u):=by
 refine⟨fun i v hv=>?_,fun i=>by rw[World.frozen?_setCell];exact h.free i⟩;by_cases e:j=i
 · subst e;have hv':v=u:=by rw[List.getElem?_set_self hj] at hv;exact(Option.some.inj hv).symm
   subst hv';exact World.cell?_setCell_same _ _ _ (h.at_ j _ (List.getElem?_eq_getElem hj))
 · rw[List.getElem?_set_ne e] at hv;rw[World.cell?_setCell_other _ _ _ _ (by simp)];exact h.at_ i v hv
theorem Y5 (q:Nat):∀(vs:List Value) (o:Nat) (W:World),(W.setCells q o vs).heap.size=W.heap.size
 | [],_,_=>rfl
 | v::r,o,W=>by rw[World.setCells,Y5 q r];simp[World.setCell]
theorem Yz (q:Nat):∀(vs:List Value) (o:Nat) (W:World) (b:Nat),b≠q→(W.setCells q o vs).heap[b]?=W.heap[b]?
 | [],_,_,_,_=>rfl
 | v::r,o,W,b,h=>by rw[World.setCells,Yz q r _ _ b h];exact Below.heap_setCell W ⟨q,o,none⟩ v b h
theorem jm (q:Nat):∀(vs:List Value) (o:Nat) (W:World) (B:Nat) (w:World),B≤q→Below B w W→Below B w (W.setCells q o vs)
 | [],_,_,_,_,_,k=>k
 | v::r,o,W,B,w,h,k=>by rw[World.setCells];exact jm q r _ _ B w h (k.setCell (p:=⟨q,o,none⟩) h _)
structure jhb (q:Nat) (vs:List Value) (W W':World):Prop where
 cells:je q vs W'
 size:W'.heap.size=W.heap.size
 far:∀b,b≠q→W'.heap[b]?=W.heap[b]?
 below:∀B w,B≤q→Below B w W→Below B w W'
theorem jW {q:Nat} {us vs:List Value} {W:World} (h:je q us W) (hl:us.length=vs.length):jhb q vs W (W.setCells q 0 vs):=by
 refine⟨⟨fun i v hv=>?_,fun i=>by rw[World.frozen?_setCells];exact h.free i⟩,Y5 q vs 0 W,fun b hb=>Yz q vs 0 W b hb,fun B w hB k=>jm q vs 0 W B w hB k⟩;have hi:i<vs.length:=(List.getElem?_eq_some_iff.1 hv).1;have:=World.cell?_setCells_in q vs 0 W (fun j hj=>by rw[Nat.zero_add,h.at_ j _ (List.getElem?_eq_getElem (by omega))];rfl) i hi;rw[Nat.zero_add] at this;rw[this];obtain⟨_,e⟩:=List.getElem?_eq_some_iff.1 hv;rw[e]
theorem jb4 (n:Nod) (v1 v2 v3:Value) (w:World):Calls Tryz.prog 160 #[Zh n v1 v2 v3] w fun e w'=>e=.returned (.string n.name)∧Kept w w':=by
 unfold Zh;go_enter Tryz.func160,Tryz.ntmps160;go_wp2;go_ret;exact⟨rfl,ja _ _⟩
theorem jb9 (n:Nod) (v1 v2 v3:Value) (p q:Addr) (x:ByteArray) (w:World) (hp:w.cell? p=some (.func (.func 160) #[] #[])) (hq:w.cell? q=some (.string x)) :
 Calls Tryz.prog 230 #[Zh n v1 v2 v3,.pointer (some p),.pointer (some q)] w fun e w'=>e=.returned (.bool (eqS n.name x))∧Kept w w':=by
 have HB:=lH (show ∀W,Kept (w.alloc (.cells #[.string n.name,v1,v2,v3,.bool n.cordon] 29)) W→W.cell? p=some (.func (.func 160) #[] #[])∧W.cell? q=some (.string x)∧W.cell? ⟨w.heap.size,0,none⟩=some (.string n.name)∧W.cell? ⟨w.heap.size,1,none⟩=some (v1)∧W.cell? ⟨w.heap.size,2,none⟩=some (v2)∧W.cell? ⟨w.heap.size,3,none⟩=some (v3)∧W.cell? ⟨w.heap.size,4,none⟩=some (.bool n.cordon) from fun W k=>⟨cell_later ((ja _ _).trans k) hp,cell_later ((ja _ _).trans k) hq,(jc w (.string n.name) [v1,v2,v3,.bool n.cordon] 29 W k).at_ 0 _ rfl,(jc w (.string n.name) [v1,v2,v3,.bool n.cordon] 29 W k).at_ 1 _ rfl,(jc w (.string n.name) [v1,v2,v3,.bool n.cordon] 29 W k).at_ 2 _ rfl,(jc w (.string n.name) [v1,v2,v3,.bool n.cordon] 29 W k).at_ 3 _ rfl,(jc w (.string n.name) [v1,v2,v3,.bool n.cordon] 29 W k).at_ 4 _ rfl⟩);have HN:=lH (fun W=>jb4 n v1 v2 v3 W);unfold Zh at HN ⊢;obtain⟨b,hb⟩:=eX (eqS n.name x)
 have t1:(n.name.toList==x.toList)=b:=hb;rw[hb];clear hp hq hb;go_enter Tryz.func230,Tryz.ntmps230;go_wp2
 go_region_held3 (fun W=>W.cell? p=some (.func (.func 160) #[] #[])∧W.cell? q=some (.string x)∧W.cell? ⟨w.heap.size,0,none⟩=some (.string n.name)∧W.cell? ⟨w.heap.size,1,none⟩=some (v1)∧W.cell? ⟨w.heap.size,2,none⟩=some (v2)∧W.cell? ⟨w.heap.size,3,none⟩=some (v3)∧W.cell? ⟨w.heap.size,4,none⟩=some (.bool n.cordon))
  (first | exact HB.out _ (Kept.drew _) | exact HB.out _ K1.out)
  (first | (go_at_call 160;refine(HN.out _).mono ?_;rintro e1 w1 ⟨rfl,k1⟩;have K1:=lH ((Kept.drew _).trans k1);clear k1))
 go_wp2;go_ret;exact⟨jr rfl,(ja _ _).trans K1.out⟩
def jl (l:List Nod) (x:ByteArray):Option Nod:=l.find? fun n=>eqS n.name x
def jgf (l:List Nod) (x:ByteArray) (i:Int):Prop:=(∃(k:Nat) (n:Nod),i=(k:Int)∧l[k]?=some n∧jl l x=some n)∨(i=-1∧jl l x=none)
theorem jcD (a:Option Addr) (len cap:Nat) (l:List Nod) (x:ByteArray) (p q:Addr) (w:World) (hr:jt w a len l) (hp:w.cell? p=some (.func (.func 160) #[] #[])) (hq:w.cell? q=some (.string x)) :
 Calls Tryz.prog 229 #[.slice a len cap,.func (.func 230) #[] #[.pointer (some p),.pointer (some q)]] w fun e w'=>∃i,e=.returned (.int .i64 i)∧jgf l x i∧Kept w w':=by
 have hl:=hr.1;have hm:=hr.2.1;unfold maxLen at hm;have HL:=lH hl;by_cases h0:len=0
 · subst h0;have hl0:l=[]:=List.eq_nil_of_length_eq_zero hl;have HF:=lH (show jl l x=none by rw[hl0];rfl);clear hr hl hp hq;go_enter Tryz.func229,Tryz.ntmps229;go_wp2;refine wp_loop_rounds 1 ?_;rw[rounds_succ];go_wp2;go_ret;exact⟨-1,rfl,.inr ⟨rfl,HF.out⟩,Kept.refl _⟩
 · obtain⟨b,off,rfl⟩:=hr.form.resolve_left h0;obtain⟨HR,HP,HQ⟩:=lH3 hr hp hq;clear hr hl hp hq h0;go_enter Tryz.func229,Tryz.ntmps229;go_wp2;go_loopw [8] (fun i wr=>∃k:Nat,k≤len∧i=.int .i64 k∧jl (l.drop k) x=jl l x∧Kept w wr) (fun i _=>len-(intOf i).toNat)
   case atStart=>exact⟨0,Nat.zero_le _,rfl,rfl,Kept.refl _⟩
   case round =>
    obtain⟨k,hk,rfl,hrest,hK⟩:=hrel;have HS:=lH hrest;have HK:=lH hK;by_cases hlt:k<len
    · obtain⟨n,a1,m1,c1,a2,m2,c2,a3,m3,c3,hn,hd,hb,p0,p1,p2,p3,p4,hat⟩:=(HR.out.kept hK).at_ hlt;obtain⟨HN,HD,HC⟩:=lH3 hn hd (jb9 n (.slice a1 m1 c1) (.slice a2 m2 c2) (.slice a3 m3 c3) p q x wr (cell_later hK HP.out) (cell_later hK HQ.out));unfold Zh at HC;obtain⟨t,ht⟩:=eX (eqS n.name x)
      have HT:=lH ht;rw[ht] at HC;clear hrest hK hat hd hn ht
      cases t with
      | true =>
       have HF:=lH (show jl l x=some n by rw[←HS.out,HD.out];unfold jl;rw[List.find?_cons,HT.out]);go_wp2_with fail
       refine HC.out.mono ?_;rintro e w1 ⟨rfl,k1⟩;have K1:=lH (HK.out.trans k1);clear k1;go_wp2;go_ret;exact⟨(k:Int),rfl,.inl ⟨k,n,rfl,HN.out,HF.out⟩,K1.out⟩
      | false =>
       have HE:=lH (show jl (l.drop k) x=jl (l.drop (k+1)) x by rw[HD.out];unfold jl;rw[List.find?_cons,HT.out]);go_wp2_with fail
       refine HC.out.mono ?_;rintro e w1 ⟨rfl,k1⟩;have K1:=lH (HK.out.trans k1);clear k1;go_wp2;go_roundw
       case rel=>exact⟨k+1,by omega,by go_num,HE.out.symm.trans HS.out,K1.out⟩
       case measure=>simp[intOf];omega
    · have HF:=lH (show jl l x=none by rw[←hrest,List.drop_of_length_le (by rw[HL.out];omega)];rfl);clear hrest hK;go_wp2;go_ret;exact⟨-1,rfl,.inr ⟨rfl,HF.out⟩,HK.out⟩
theorem jaO (a:Option Addr) (len cap:Nat) (l:List Nod) (x:ByteArray) (w:World) (hr:jt w a len l) (hlow:∀n ∈ l,JL n) :
 Calls Tryz.prog 203 #[.slice a len cap,.string x,.func (.func 160) #[] #[],.func (.func 204) #[] #[]] w fun e w'=>∃v,e=.returned (.tuple #[v,.bool (jl l x).isSome])∧zK w.heap.size w' v ((jl l x).getD Nod.zero)∧Kept w w':=by
 have hmf:=hmfL (P:=Tryz.prog);have hl:=hr.1;have hm:=hr.2.1;unfold maxLen at hm;obtain⟨Z,hZ⟩:=eX (((w.alloc (.cells #[.string x] 9)).alloc (.cells #[.func (.func 160) #[] #[]] 223)).alloc (.cells #[.string ⟨#[]⟩,.slice none 0 0,.slice none 0 0,.slice none 0 0,.bool false] 29))
 have hkz:Kept w Z:=by rw[←hZ];exact(ji _ _ _).trans (ja _ _)
 have hzs:Z.heap.size=w.heap.size+3:=by rw[←hZ];simp
 have hq:=(jc w (.string x) [] 9 Z (by rw[←hZ];exact ji _ _ _)).at_ 0 _ rfl;have hp:Z.cell? ⟨w.heap.size+1,0,none⟩=some (.func (.func 160) #[] #[]):=by
  have:=(jc (w.alloc (.cells #[.string x] 9)) (.func (.func 160) #[] #[]) [] 223 Z (by rw[←hZ];exact ja _ _)).at_ 0 _ rfl;rw[World.size_alloc] at this;exact this
 have Ur:=lH (show je (w.heap.size+2) [.string ⟨#[]⟩,.slice none 0 0,.slice none 0 0,.slice none 0 0,.bool false] Z by
  have:=jc ((w.alloc (.cells #[.string x] 9)).alloc (.cells #[.func (.func 160) #[] #[]] 223)) (.string ⟨#[]⟩) [.slice none 0 0,.slice none 0 0,.slice none 0 0,.bool false] 29 Z (by rw[hZ];exact Kept.refl _);rw[World.size_alloc,World.size_alloc] at this;exact this)
 obtain⟨VW,Vd,Vc,HR,Vq,HL⟩:=lH6 (jcD a len cap l x ⟨w.heap.size+1,0,none⟩ ⟨w.heap.size,0,none⟩ Z (hr.kept hkz) hp hq) hkz hzs (hr.kept hkz) hlow hl;clear hr hl hlow hkz hq hp hzs;go_enter Tryz.func203,Tryz.ntmps203;go_wp2_with fail
 try rw[hZ]
 clear hZ;refine VW.out.mono ?_;rintro e w1 ⟨i,rfl,hs,k1⟩;have K1:=lH k1;rcases hs with ⟨k,n9,rfl,hn9,hf⟩ | ⟨rfl,hf⟩
 · have HF:=lH hf;have hkl:k<len:=by have:=(List.getElem?_eq_some_iff.1 hn9).1;rw[HL.out] at this;exact this
   have hk0:decide ((k:Int)<0)=false:=by simp
   have hkk:(k:Int)<(len:Int):=by omega
   obtain⟨b,off,rfl⟩:=HR.out.form.resolve_left (by omega);obtain⟨n,a1,m1,c1,a2,m2,c2,a3,m3,c3,hn,hd,hb,p0,p1,p2,p3,p4,hat⟩:=(HR.out.kept k1).at_ hkl;obtain rfl:n9=n:=by rw[hn9] at hn;exact Option.some.inj hn
   obtain⟨VX,VM,Vj,UT⟩:=lH4 (Vq.out n9 (List.mem_of_getElem? hn9)) hat (Ur.out.kept k1) (show w.heap.size+3≤w1.heap.size by have:=k1.size;rw[Vc.out] at this;exact this);have Vs:=lH (jdJ n9 a1 a2 a3 m1 c1 m2 c2 m3 c3 w1 VM.out VX.out);clear hn9 hn hd hat hf k1;go_wp2_with fail
   refine Vs.out.mono ?_;rintro e w2 ⟨v,rfl,hn,k2⟩;obtain⟨HN,KW,Vj⟩:=lH3 hn (Vd.out.trans (K1.out.trans k2)) (Vj.out.kept k2);obtain⟨b1,n1,d1,b2,n2,d2,b3,n3,d3,rfl,-⟩:=hn;obtain⟨z,hz⟩:=eX (n9.name)
   obtain⟨cd,hcd⟩:=eX (n9.cordon)
   rw[hz,hcd];rw[hz,hcd] at HN;clear k2 p0 p1 p2 p3 p4 hb hkl hk0 hkk;obtain⟨y0,y1,y2,y3,y4⟩:=Vj.out.at5;have x0:=Vj.out.free 0;have x1:=Vj.out.free 1;have x2:=Vj.out.free 2;have x3:=Vj.out.free 3;have x4:=Vj.out.free 4;have P:=lH (jW (vs:=[.string z,.slice b1 n1 d1,.slice b2 n2 d2,.slice b3 n3 d3,.bool cd]) Vj.out rfl);clear Vj;go_wp2;obtain⟨WE,hWE⟩:=eX (w2.setCells (w.heap.size+2) 0 [.string z,.slice b1 n1 d1,.slice b2 n2 d2,.slice b3 n3 d3,.bool cd])
   have hWE2:(((((w2.setCell ⟨(w.heap.size+2),0,none⟩ (.string z)).setCell ⟨(w.heap.size+2),1,none⟩ (.slice b1 n1 d1)).setCell ⟨(w.heap.size+2),2,none⟩ (.slice b2 n2 d2)).setCell ⟨(w.heap.size+2),3,none⟩ (.slice b3 n3 d3)).setCell ⟨(w.heap.size+2),4,none⟩ (.bool cd))=WE:=hWE;rw[hWE] at P;rw[hWE2];clear hWE hWE2;obtain⟨PC,hsz,hbl,hkp⟩:=P.out;refine bodyPost_ret (by simp[results,Tryz.results203,go_sem,PC.at_ 0 _ rfl,PC.at_ 1 _ rfl,PC.at_ 2 _ rfl,PC.at_ 3 _ rfl,PC.at_ 4 _ rfl];try rfl) rfl ?_;rw[HF.out];exact⟨_,rfl,(HN.out.far hsz (fun b hb=>hbl b (by have:=UT.out;omega))).less (by have:=UT.out;omega),hkp _ _ (by omega) KW.out⟩
 · obtain⟨HF,Vj,KW⟩:=lH3 hf (Ur.out.kept k1) (Vd.out.trans k1);clear hf k1;obtain⟨y0,y1,y2,y3,y4⟩:=Vj.out.at5;have x0:=Vj.out.free 0;have x1:=Vj.out.free 1;have x2:=Vj.out.free 2;have x3:=Vj.out.free 3;have x4:=Vj.out.free 4;have P:=lH (jW (vs:=[.string ⟨#[]⟩,.slice none 0 0,.slice none 0 0,.slice none 0 0,.bool false]) Vj.out rfl);clear Vj;go_wp2;obtain⟨WE,hWE⟩:=eX (w1.setCells (w.heap.size+2) 0 [.string ⟨#[]⟩,.slice none 0 0,.slice none 0 0,.slice none 0 0,.bool false])
   have hWE2:(((((w1.setCell ⟨(w.heap.size+2),0,none⟩ (.string ⟨#[]⟩)).setCell ⟨(w.heap.size+2),1,none⟩ (.slice none 0 0)).setCell ⟨(w.heap.size+2),2,none⟩ (.slice none 0 0)).setCell ⟨(w.heap.size+2),3,none⟩ (.slice none 0 0)).setCell ⟨(w.heap.size+2),4,none⟩ (.bool false))=WE:=hWE;rw[hWE] at P;rw[hWE2];clear hWE hWE2;obtain⟨PC,hsz,hbl,hkp⟩:=P.out;refine bodyPost_ret (by simp[results,Tryz.results203,go_sem,PC.at_ 0 _ rfl,PC.at_ 1 _ rfl,PC.at_ 2 _ rfl,PC.at_ 3 _ rfl,PC.at_ 4 _ rfl];try rfl) rfl ?_;rw[HF.out];exact⟨_,rfl,jcM _ _,hkp _ _ (by omega) KW.out⟩
theorem jea (a:Option Addr) (len cap:Nat) (l:List Nod) (x:ByteArray) (w:World) (hr:jt w a len l) (hlow:∀n ∈ l,JL n) :
 Calls Tryz.prog 167 #[.slice a len cap,.string x] w fun e w'=>∃v,e=.returned (.tuple #[v,.bool (jl l x).isSome])∧zK w.heap.size w' v ((jl l x).getD Nod.zero)∧Kept w w':=by
 obtain⟨Z,hZ⟩:=eX (w.alloc (.cells #[.string ⟨#[]⟩,.slice none 0 0,.slice none 0 0,.slice none 0 0,.bool false] 29))
 have hkz:Kept w Z:=by rw[←hZ];exact ja _ _
 have hzs:Z.heap.size=w.heap.size+1:=by rw[←hZ];simp
 obtain⟨Ur,RI,Vd,Vc⟩:=lH4 (show je w.heap.size [.string ⟨#[]⟩,.slice none 0 0,.slice none 0 0,.slice none 0 0,.bool false] Z from jc w (.string ⟨#[]⟩) [.slice none 0 0,.slice none 0 0,.slice none 0 0,.bool false] 29 Z (by rw[hZ];exact Kept.refl _)) (jaO a len cap l x Z (hr.kept hkz) hlow) hkz hzs;obtain⟨n9,hn9⟩:=eX ((jl l x).getD Nod.zero)
 obtain⟨is,his⟩:=eX ((jl l x).isSome)
 rw[hn9,his] at RI;rw[hn9,his];clear hr hlow hkz hzs hn9 his;go_enter Tryz.func167,Tryz.ntmps167;go_wp2_with fail
 try rw[hZ]
 clear hZ;refine RI.out.mono ?_;rintro e w1 ⟨v,rfl,hn,k1⟩;obtain⟨HN,Vj,KW⟩:=lH3 hn (Ur.out.kept k1) (Vd.out.trans k1);obtain⟨b1,n1,d1,b2,n2,d2,b3,n3,d3,rfl,-⟩:=hn;obtain⟨z,hz⟩:=eX (n9.name)
 obtain⟨cd,hcd⟩:=eX (n9.cordon)
 rw[hz,hcd];rw[hz,hcd] at HN;clear k1;obtain⟨y0,y1,y2,y3,y4⟩:=Vj.out.at5;have x0:=Vj.out.free 0;have x1:=Vj.out.free 1;have x2:=Vj.out.free 2;have x3:=Vj.out.free 3;have x4:=Vj.out.free 4;have P:=lH (jW (vs:=[.string z,.slice b1 n1 d1,.slice b2 n2 d2,.slice b3 n3 d3,.bool cd]) Vj.out rfl);clear Vj;go_wp2;obtain⟨WE,hWE⟩:=eX (w1.setCells w.heap.size 0 [.string z,.slice b1 n1 d1,.slice b2 n2 d2,.slice b3 n3 d3,.bool cd])
 have hWE2:(((((w1.setCell ⟨w.heap.size,0,none⟩ (.string z)).setCell ⟨w.heap.size,1,none⟩ (.slice b1 n1 d1)).setCell ⟨w.heap.size,2,none⟩ (.slice b2 n2 d2)).setCell ⟨w.heap.size,3,none⟩ (.slice b3 n3 d3)).setCell ⟨w.heap.size,4,none⟩ (.bool cd))=WE:=hWE;rw[hWE] at P;rw[hWE2];clear hWE hWE2;obtain⟨PC,hsz,hbl,hkp⟩:=P.out;refine bodyPost_ret (by simp[results,Tryz.results167,go_sem,PC.at_ 0 _ rfl,PC.at_ 1 _ rfl,PC.at_ 2 _ rfl,PC.at_ 3 _ rfl,PC.at_ 4 _ rfl];try rfl) rfl ?_;exact⟨_,rfl,(HN.out.far hsz (fun b hb=>hbl b (by have:=Vc.out;omega))).less (by have:=Vc.out;omega),hkp _ _ (Nat.le_refl _) KW.out⟩
def Jc:Option ByteArray→List Nod→Int
 | _,[]=>0
 | prev,n::t=>if Jj n≠0 then Jj n else if Vec.jJ prev n.name=true then 13 else Jc (some n.name) t
def zx (l:List Nod):Int:=if 32<l.length then 4 else Jc none l
theorem jfs {p:Option ByteArray} {n:Nod} {t:List Nod} (h:Jj n≠0):Jc p (n::t)=Jj n:=by rw[Jc,if_pos h]
theorem jcN {p:Option ByteArray} {n:Nod} {t:List Nod} (h:Jj n=0) (b:Vec.jJ p n.name=true):Jc p (n::t)=13:=by rw[Jc,if_neg (by rw[h];decide),if_pos b]
theorem jeo {p:Option ByteArray} {n:Nod} {t:List Nod} (h:Jj n=0) (b:Vec.jJ p n.name=false):Jc p (n::t)=Jc (some n.name) t:=by rw[Jc,if_neg (by rw[h];decide),if_neg (by rw[b];decide)]
structure Pd where
 name:ByteArray
 owner:ByteArray
 prio:Int
 need:Vec.V
 labels:PL
 sel:TL
 tols:NL
 key:ByteArray
 most:Int
 node:ByteArray
 hold:Bool
def Pd.zero:Pd:=⟨ByteArray.empty,ByteArray.empty,0,[],[],[],[],ByteArray.empty,0,ByteArray.empty,false⟩
abbrev jo (n:Pd) (v1 v2 v3 v4:Value):Value:=.agg #[.string n.name,.string n.owner,.int .i64 n.prio,v1,v2,v3,v4,.string n.key,.int .i64 n.most,.string n.node,.bool n.hold]
structure jq (w:World) (v1 v2 v3 v4:Value) (n:Pd):Prop where
 name:n.name.size≤maxLen
 owner:n.owner.size≤maxLen
 key:n.key.size≤maxLen
 node:n.node.size≤maxLen
 prio:-9223372036854775808≤n.prio∧n.prio≤9223372036854775807
 most:-9223372036854775808≤n.most∧n.most≤9223372036854775807
 need:Vec.Reads w v1 n.need
 labels:Reads zc w v2 n.labels
 sel:Reads zT w v3 n.sel
 tols:Reads zr w v4 n.tols
theorem jq.kept {w w':World} {v1 v2 v3 v4:Value} {n:Pd} (h:jq w v1 v2 v3 v4 n) (k:Kept w w'):jq w' v1 v2 v3 v4 n:=⟨h.name,h.owner,h.key,h.node,h.prio,h.most,h.need.kept k,h.labels.kept k,h.sel.kept k,h.tols.kept k⟩
def jcP (w:World) (v:Value) (n:Pd):Prop:=∃v1 v2 v3 v4,v=jo n v1 v2 v3 v4∧jq w v1 v2 v3 v4 n
theorem jcP.kept {w w':World} {v:Value} {n:Pd} (h:jcP w v n) (k:Kept w w'):jcP w' v n:=by
 obtain⟨v1,v2,v3,v4,e,h⟩:=h;exact⟨v1,v2,v3,v4,e,h.kept k⟩
def qy (s:ByteArray):Bool:=zq s||isName s
def jeJ (x y:ByteArray):Int:=if isName x=true∧qy y=true then 0 else 3
def jfH (p:Int) (b:Bool):Bool:=decide (p < -1)||(decide (1000000<p)||(decide (p=-1) != b))
def jf6 (p:Int) (b:Bool):Int:=if jfH p b=true then 1 else 0
def jdz (k:ByteArray) (m:Int):Bool:=if zq k=true then decide (m≠0) else decide (m<1)||decide (128<m)
def jdV (k:ByteArray) (m:Int):Int:=if qy k=false then 3 else if jdz k m=true then 1 else 0
def jcy (x:ByteArray):Int:=if qy x=true then 0 else 3
def orL:List Int→Int
 | []=>0
 | x::t=>if x≠0 then x else orL t
def qX (n:Pd):List Int:=[jeJ n.name n.owner,jf6 n.prio n.hold,Vec.jE n.need,je9 n.labels,jgH n.sel,jha n.tols,jdV n.key n.most,jcy n.node]
def zJ (n:Pd):Int:=orL (qX n)
theorem jfT (b len:Nat) (l:List Int) (w:World) (hl:l.length=len) (hm:len≤1000) (hc:∀(i:Nat) (x:Int),l[i]?=some x→w.cell? ⟨b,i,none⟩=some (.int .i64 x)) :
 Calls Tryz.prog 104 #[.slice (some ⟨b,0,none⟩) len len] w fun e w'=>e=.returned (.int .i64 (orL l))∧w=w':=by
 have HC:=lH hc;have HL:=lH hl;clear hc hl;go_enter Tryz.func104,Tryz.ntmps104;go_wp2;go_loopw [8] (fun i wr=>∃k:Nat,k≤len∧i=.int .i64 k∧orL (l.drop k)=orL l∧w=wr) (fun i _=>len-(intOf i).toNat)
 case atStart=>exact⟨0,Nat.zero_le _,rfl,rfl,rfl⟩
 case round =>
  obtain⟨k,hk,rfl,hrest,rfl⟩:=hrel;have HS:=lH hrest;by_cases hlt:k<len
  · have hkl:k<l.length:=by rw[HL.out];exact hlt
    obtain⟨x,hx⟩:=eX (l[k])
    have hx':l[k]?=some x:=by rw[List.getElem?_eq_getElem hkl,hx]
    have c0:=HC.out k x hx';have HD:=lH (show l.drop k=x::l.drop (k+1) by rw[List.drop_eq_getElem_cons hkl,hx]);clear hrest hx hx' hkl;by_cases z:x=0
    · subst z;have HE:=lH (show orL (l.drop k)=orL (l.drop (k+1)) by rw[HD.out];rfl);go_wp2;go_roundw
      case rel=>exact⟨k+1,by omega,by go_num,HE.out.symm.trans HS.out,trivial⟩
      case measure=>simp[intOf];omega
    · have HE:=lH (show orL l=x by rw[←HS.out,HD.out];show (if x≠0 then x else _)=x;rw[if_pos z]);have z':(x != 0)=true:=by simpa using z
      clear z;go_wp2;go_ret;exact⟨zL HE.out.symm,rfl⟩
  · have HE:=lH (show orL l=0 by rw[←hrest,List.drop_of_length_le (by rw[HL.out];omega)];rfl);clear hrest;go_wp2;go_ret;exact⟨zL HE.out.symm,rfl⟩
theorem jgR:Kind 39 147 3 40:=by
 obtain⟨i,hi,hz,h1,h2⟩:=info_parts (show (Tryz.prog.info? 147).map (fun i=>(i.zero,i.size,i.bytes))=some (some (.agg #[.string ByteArray.empty,.string ByteArray.empty,.bool false]),3,40) by kernel_rfl);exact⟨i,_,Tryz.underlying39,hi,hz,h1,h2,rfl,by decide⟩
theorem jgN:Kind 38 144 3 40:=by
 obtain⟨i,hi,hz,h1,h2⟩:=info_parts (show (Tryz.prog.info? 144).map (fun i=>(i.zero,i.size,i.bytes))=some (some (.agg #[.int .i64 0,.string ByteArray.empty,.string ByteArray.empty]),3,40) by kernel_rfl);exact⟨i,_,Tryz.underlying38,hi,hz,h1,h2,rfl,by decide⟩
theorem jcI (a:Option Addr) (len cap:Nat) (l:NL) (w:World) (hr:jk zr w a len l) (hc:len≤cap) (hm:cap≤maxLen) (hn:len≤1000000) :
 Calls Tryz.prog 90 #[.slice a len cap] w fun e w'=>∃a' m' c',e=.returned (.slice a' m' c')∧Reads zr w' (.slice a' m' c') l∧(∀b off sp,a'=some ⟨b,off,sp⟩→w.heap.size≤b)∧Kept w w':=by
 have hl:=hr.1;have q22:∀(w:World) (a:Option Addr) (n c n' c':Nat),(binOp .eql 39 (.slice a n c) (.slice none n' c')).run Tryz.prog w=.ok (.bool a.isNone) w:=fun w a n c n' c'=>Lib.run_eql_slice_nil w _ _ a n c n' c' Tryz.underlying39
 cases a with
 | none =>
  have h0:len=0:=by
   rcases hr.form with h | ⟨b,off,h⟩
   · exact h
   · cases h
  subst h0;have hl0:l=[]:=List.eq_nil_of_length_eq_zero hl;subst hl0;clear hr hl;go_enter Tryz.func90,Tryz.ntmps90;go_wp2;go_ret;exact⟨none,0,0,rfl,Reads.nil _,(fun b o s e=>by cases e),Kept.refl _⟩
 | some ad =>
  have HR:=lH hr;have HL:=lH hl;have hrl:(jd zr l).length=len*3:=by rw[jx,hl];rfl
  have hb1:0+len≤maxLen:=by unfold maxLen;omega
  have hb2:((0+len)+(0+len) / 4+192)*40≤281474976710656:=by omega
  clear hr hl;go_enter Tryz.func90,Tryz.ntmps90;go_wp2_with (at_builtin;refine zg jgR _ rfl (.tmp 5) (.tmp 6) rfl w.heap.size (by simp) w.heap.size 0 0 [] rfl (Jk w w.heap.size 3 _ (Nat.le_refl _)) _ len (jd zr l) rfl hrl (zl _ _) (jk.src (HR.out.kept (ja _ _))) hb1 hb2 ?_;intro g1 k1 W1 ho hd hg;have HO:=lH ho;have HD:=lH hd;clear ho hd hg;refine Hid.out ?_)
  refine lH ?_;simp only[Nat.zero_add,List.nil_append] at HO ⊢;go_wp2;go_ret;exact⟨_,_,_,rfl,Own.reads (⟨by rw[HL.out];exact HO.out,HR.out.2.2.1⟩:Own zr 147 W1 w.heap.size (.slice (some ⟨g1,0,none⟩) len k1) l),(fun b o s e=>by cases e;exact(HO.out.lt g1 rfl).1),Below.trans (ja w _) HD.out⟩
theorem qx (a:Option Addr) (len cap:Nat) (l:TL) (w:World) (hr:jk zT w a len l) (hc:len≤cap) (hm:cap≤maxLen) (hn:len≤1000000) :
 Calls Tryz.prog 89 #[.slice a len cap] w fun e w'=>∃a' m' c',e=.returned (.slice a' m' c')∧Reads zT w' (.slice a' m' c') l∧(∀b off sp,a'=some ⟨b,off,sp⟩→w.heap.size≤b)∧Kept w w':=by
 have hl:=hr.1;have q22:∀(w:World) (a:Option Addr) (n c n' c':Nat),(binOp .eql 38 (.slice a n c) (.slice none n' c')).run Tryz.prog w=.ok (.bool a.isNone) w:=fun w a n c n' c'=>Lib.run_eql_slice_nil w _ _ a n c n' c' Tryz.underlying38
 cases a with
 | none =>
  have h0:len=0:=by
   rcases hr.form with h | ⟨b,off,h⟩
   · exact h
   · cases h
  subst h0;have hl0:l=[]:=List.eq_nil_of_length_eq_zero hl;subst hl0;clear hr hl;go_enter Tryz.func89,Tryz.ntmps89;go_wp2;go_ret;exact⟨none,0,0,rfl,Reads.nil _,(fun b o s e=>by cases e),Kept.refl _⟩
 | some ad =>
  have HR:=lH hr;have HL:=lH hl;have hrl:(jd zT l).length=len*3:=by rw[jx,hl];rfl
  have hb1:0+len≤maxLen:=by unfold maxLen;omega
  have hb2:((0+len)+(0+len) / 4+192)*40≤281474976710656:=by omega
  clear hr hl;go_enter Tryz.func89,Tryz.ntmps89;go_wp2_with (at_builtin;refine zg jgN _ rfl (.tmp 5) (.tmp 6) rfl w.heap.size (by simp) w.heap.size 0 0 [] rfl (Jk w w.heap.size 3 _ (Nat.le_refl _)) _ len (jd zT l) rfl hrl (zl _ _) (jk.src (HR.out.kept (ja _ _))) hb1 hb2 ?_;intro g1 k1 W1 ho hd hg;have HO:=lH ho;have HD:=lH hd;clear ho hd hg;refine Hid.out ?_)
  refine lH ?_;simp only[Nat.zero_add,List.nil_append] at HO ⊢;go_wp2;go_ret;exact⟨_,_,_,rfl,Own.reads (⟨by rw[HL.out];exact HO.out,HR.out.2.2.1⟩:Own zT 144 W1 w.heap.size (.slice (some ⟨g1,0,none⟩) len k1) l),(fun b o s e=>by cases e;exact(HO.out.lt g1 rfl).1),Below.trans (ja w _) HD.out⟩
def jz (B:Nat) (a:Option Addr):Prop:=∀b off sp,a=some ⟨b,off,sp⟩→B≤b
theorem jz.less {B B':Nat} {a:Option Addr} (h:jz B a) (hb:B'≤B):jz B' a:=fun b o s e=>Nat.le_trans hb (h b o s e)
theorem jz.none (B:Nat):jz B none:=fun _ _ _ e=>by cases e
def JP (B:Nat) (w:World) (v:Value) (n:Pd):Prop:=∃b1 n1 d1 b2 n2 d2 b3 n3 d3 b4 n4 d4,v=jo n (.slice b1 n1 d1) (.slice b2 n2 d2) (.slice b3 n3 d3) (.slice b4 n4 d4)∧jq w (.slice b1 n1 d1) (.slice b2 n2 d2) (.slice b3 n3 d3) (.slice b4 n4 d4) n∧jz B b1∧jz B b2∧jz B b3∧jz B b4
theorem JP.toR {B:Nat} {w:World} {v:Value} {n:Pd} (h:JP B w v n):jcP w v n:=by
 obtain⟨b1,n1,d1,b2,n2,d2,b3,n3,d3,b4,n4,d4,e,h,_⟩:=h;exact⟨_,_,_,_,e,h⟩
theorem jq.far {B:Nat} {w w':World} {n:Pd} {b1 b2 b3 b4:Option Addr} {n1 d1 n2 d2 n3 d3 n4 d4:Nat} (h:jq w (.slice b1 n1 d1) (.slice b2 n2 d2) (.slice b3 n3 d3) (.slice b4 n4 d4) n) (hs:w'.heap.size=w.heap.size) (hb:∀b,B≤b→w'.heap[b]?=w.heap[b]?) (g1:jz B b1) (g2:jz B b2) (g3:jz B b3) (g4:jz B b4):jq w' (.slice b1 n1 d1) (.slice b2 n2 d2) (.slice b3 n3 d3) (.slice b4 n4 d4) n :=
 ⟨h.name,h.owner,h.key,h.node,h.prio,h.most,h.need.far hs (fun b o s e=>hb b (g1 b o s e)),h.labels.far hs (fun b o s e=>hb b (g2 b o s e)),h.sel.far hs (fun b o s e=>hb b (g3 b o s e)),h.tols.far hs (fun b o s e=>hb b (g4 b o s e))⟩
theorem JP.far {B:Nat} {w w':World} {v:Value} {n:Pd} (h:JP B w v n) (hs:w'.heap.size=w.heap.size) (hb:∀b,B≤b→w'.heap[b]?=w.heap[b]?):JP B w' v n:=by
 obtain⟨b1,n1,d1,b2,n2,d2,b3,n3,d3,b4,n4,d4,e,h,g1,g2,g3,g4⟩:=h;exact⟨b1,n1,d1,b2,n2,d2,b3,n3,d3,b4,n4,d4,e,h.far hs hb g1 g2 g3 g4,g1,g2,g3,g4⟩
theorem JP.less {B B':Nat} {w:World} {v:Value} {n:Pd} (h:JP B w v n) (hb:B'≤B):JP B' w v n:=by
 obtain⟨b1,n1,d1,b2,n2,d2,b3,n3,d3,b4,n4,d4,e,h,g1,g2,g3,g4⟩:=h;exact⟨b1,n1,d1,b2,n2,d2,b3,n3,d3,b4,n4,d4,e,h,g1.less hb,g2.less hb,g3.less hb,g4.less hb⟩
theorem JP.kept {B:Nat} {w w':World} {v:Value} {n:Pd} (h:JP B w v n) (k:Kept w w'):JP B w' v n:=by
 obtain⟨b1,n1,d1,b2,n2,d2,b3,n3,d3,b4,n4,d4,e,h,g1,g2,g3,g4⟩:=h;exact⟨b1,n1,d1,b2,n2,d2,b3,n3,d3,b4,n4,d4,e,h.kept k,g1,g2,g3,g4⟩
theorem jq.spelt {w:World} {v1 v2 v3 v4:Value} {n:Pd} (h:jq w v1 v2 v3 v4 n):∃b1 n1 d1 b2 n2 d2 b3 n3 d3 b4 n4 d4,v1=.slice b1 n1 d1∧v2=.slice b2 n2 d2∧v3=.slice b3 n3 d3∧v4=.slice b4 n4 d4:=by
 obtain⟨a1,c1,e1,_⟩:=h.need;obtain⟨a2,c2,e2,_⟩:=h.labels;obtain⟨a3,c3,e3,_⟩:=h.sel;obtain⟨a4,c4,e4,_⟩:=h.tols;exact⟨_,_,_,_,_,_,_,_,_,_,_,_,e1,e2,e3,e4⟩
structure ZG (n:Pd):Prop where
 need:n.need.length≤1000000
 labels:n.labels.length≤1000000
 sel:n.sel.length≤1000000
 tols:n.tols.length≤1000000
def jv (w:World) (a:Option Addr) (len:Nat) (l:List Pd):Prop :=
 l.length=len∧len≤maxLen∧(len=0∨∃b off,a=some ⟨b,off,none⟩∧b<w.heap.size∧∀i n,l[i]?=some n→∃v1 v2 v3 v4,
  w.cell? ⟨b,off+i*11,none⟩=some (.string n.name)∧w.cell? ⟨b,off+i*11+1,none⟩=some (.string n.owner)∧w.cell? ⟨b,off+i*11+2,none⟩=some (.int .i64 n.prio)∧w.cell? ⟨b,off+i*11+3,none⟩=some (v1)∧w.cell? ⟨b,off+i*11+4,none⟩=some (v2)∧w.cell? ⟨b,off+i*11+5,none⟩=some (v3)∧w.cell? ⟨b,off+i*11+6,none⟩=some (v4)∧w.cell? ⟨b,off+i*11+7,none⟩=some (.string n.key)∧w.cell? ⟨b,off+i*11+8,none⟩=some (.int .i64 n.most)∧w.cell? ⟨b,off+i*11+9,none⟩=some (.string n.node)∧w.cell? ⟨b,off+i*11+10,none⟩=some (.bool n.hold)∧jq w v1 v2 v3 v4 n)
theorem jv.kept {w w':World} {a:Option Addr} {len:Nat} {l:List Pd} (h:jv w a len l) (k:Kept w w'):jv w' a len l:=by
 obtain⟨h0,h1,h2⟩:=h;refine⟨h0,h1,h2.imp id ?_⟩;rintro ⟨b,off,rfl,hb,hc⟩;refine⟨b,off,rfl,Nat.lt_of_lt_of_le hb k.size,fun i n hi=>?_⟩;obtain⟨v1,v2,v3,v4,p0,p1,p2,p3,p4,p5,p6,p7,p8,p9,p10,hn⟩:=hc i n hi;exact⟨v1,v2,v3,v4,cell_later k p0,cell_later k p1,cell_later k p2,cell_later k p3,cell_later k p4,cell_later k p5,cell_later k p6,cell_later k p7,cell_later k p8,cell_later k p9,cell_later k p10,hn.kept k⟩
theorem jv.form {w:World} {a:Option Addr} {len:Nat} {l:List Pd} (h:jv w a len l):len=0∨∃b off,a=some ⟨b,off,none⟩:=by
 obtain⟨_,_,h2⟩:=h;exact h2.imp id fun ⟨b,off,e,_⟩=>⟨b,off,e⟩
theorem jv.at_ {w:World} {b off len:Nat} {l:List Pd} {k:Nat} (h:jv w (some ⟨b,off,none⟩) len l) (hk:k<len):∃n a1 m1 c1 a2 m2 c2 a3 m3 c3 a4 m4 c4,l[k]?=some n∧l.drop k=n::l.drop (k+1)∧b<w.heap.size ∧
 w.cell? ⟨b,off+k*11,none⟩=some (.string n.name)∧w.cell? ⟨b,off+k*11+1,none⟩=some (.string n.owner)∧w.cell? ⟨b,off+k*11+2,none⟩=some (.int .i64 n.prio)∧w.cell? ⟨b,off+k*11+3,none⟩=some (.slice a1 m1 c1)∧w.cell? ⟨b,off+k*11+4,none⟩=some (.slice a2 m2 c2)∧w.cell? ⟨b,off+k*11+5,none⟩=some (.slice a3 m3 c3)∧w.cell? ⟨b,off+k*11+6,none⟩=some (.slice a4 m4 c4)∧w.cell? ⟨b,off+k*11+7,none⟩=some (.string n.key)∧w.cell? ⟨b,off+k*11+8,none⟩=some (.int .i64 n.most)∧w.cell? ⟨b,off+k*11+9,none⟩=some (.string n.node)∧w.cell? ⟨b,off+k*11+10,none⟩=some (.bool n.hold)∧jq w (.slice a1 m1 c1) (.slice a2 m2 c2) (.slice a3 m3 c3) (.slice a4 m4 c4) n:=by
 obtain⟨h0,_,h3⟩:=h;have hkl:k<l.length:=by omega
 rcases h3 with h3 | ⟨b',off',e,hb,hc⟩
 · omega
 · injection e with e;injection e with e1 e2 e3;subst e1;subst e2;have he:l[k]?=some l[k]:=List.getElem?_eq_getElem hkl;obtain⟨v1,v2,v3,v4,r⟩:=hc k _ he;obtain⟨a1,m1,c1,a2,m2,c2,a3,m3,c3,a4,m4,c4,rfl,rfl,rfl,rfl⟩:=jq.spelt r.2.2.2.2.2.2.2.2.2.2.2;exact⟨l[k],a1,m1,c1,a2,m2,c2,a3,m3,c3,a4,m4,c4,he,List.drop_eq_getElem_cons hkl,hb,r⟩
def Jw (w:World) (v:Value) (l:List Pd):Prop:=∃a cap,v=.slice a l.length cap∧l.length≤cap∧cap≤maxLen∧jv w a l.length l
theorem Jw.kept {w w':World} {v:Value} {l:List Pd} (h:Jw w v l) (k:Kept w w'):Jw w' v l:=by
 obtain⟨a,cap,e,h1,h2,h3⟩:=h;exact⟨a,cap,e,h1,h2,h3.kept k⟩
def zC (l:List Pd) (x:ByteArray):Option Pd:=l.find? fun n=>eqS n.name x
def zQ:Option ByteArray→List Pd→Int
 | _,[]=>0
 | prev,n::t=>if zJ n≠0 then zJ n else if Vec.jJ prev n.name=true then 13 else zQ (some n.name) t
def zw (l:List Pd):Int:=if 128<l.length then 4 else zQ none l
theorem jfy {p:Option ByteArray} {n:Pd} {t:List Pd} (h:zJ n≠0):zQ p (n::t)=zJ n:=by rw[zQ,if_pos h]
theorem jdq {p:Option ByteArray} {n:Pd} {t:List Pd} (h:zJ n=0) (b:Vec.jJ p n.name=true):zQ p (n::t)=13:=by rw[zQ,if_neg (by rw[h];decide),if_pos b]
theorem jaA {p:Option ByteArray} {n:Pd} {t:List Pd} (h:zJ n=0) (b:Vec.jJ p n.name=false):zQ p (n::t)=zQ (some n.name) t:=by rw[zQ,if_neg (by rw[h];decide),if_neg (by rw[b];decide)]
structure Bd where
 name:ByteArray
 sel:TL
 floor:Int
def Bd.zero:Bd:=⟨ByteArray.empty,[],0⟩
abbrev jbC (n:Bd) (v1:Value):Value:=.agg #[.string n.name,v1,.int .i64 n.floor]
structure zB (w:World) (v1:Value) (n:Bd):Prop where
 name:n.name.size≤maxLen
 floor:-9223372036854775808≤n.floor∧n.floor≤9223372036854775807
 sel:Reads zT w v1 n.sel
theorem zB.kept {w w':World} {v1:Value} {n:Bd} (h:zB w v1 n) (k:Kept w w'):zB w' v1 n:=⟨h.name,h.floor,h.sel.kept k⟩
def jcK (w:World) (v:Value) (n:Bd):Prop:=∃v1,v=jbC n v1∧zB w v1 n
theorem jcK.kept {w w':World} {v:Value} {n:Bd} (h:jcK w v n) (k:Kept w w'):jcK w' v n:=by
 obtain⟨v1,e,h⟩:=h;exact⟨v1,e,h.kept k⟩
def JO (B:Nat) (w:World) (v:Value) (n:Bd):Prop:=∃b1 n1 d1,v=jbC n (.slice b1 n1 d1)∧zB w (.slice b1 n1 d1) n∧jz B b1
theorem JO.toR {B:Nat} {w:World} {v:Value} {n:Bd} (h:JO B w v n):jcK w v n:=by
 obtain⟨b1,n1,d1,e,h,-⟩:=h;exact⟨_,e,h⟩
theorem zB.far {B:Nat} {w w':World} {n:Bd} {b1:Option Addr} {n1 d1:Nat} (h:zB w (.slice b1 n1 d1) n) (hs:w'.heap.size=w.heap.size) (hb:∀b,B≤b→w'.heap[b]?=w.heap[b]?) (g1:jz B b1):zB w' (.slice b1 n1 d1) n :=
 ⟨h.name,h.floor,h.sel.far hs (fun b o s e=>hb b (g1 b o s e))⟩
theorem JO.far {B:Nat} {w w':World} {v:Value} {n:Bd} (h:JO B w v n) (hs:w'.heap.size=w.heap.size) (hb:∀b,B≤b→w'.heap[b]?=w.heap[b]?):JO B w' v n:=by
 obtain⟨b1,n1,d1,e,h,g1⟩:=h;exact⟨b1,n1,d1,e,h.far hs hb g1,g1⟩
theorem JO.less {B B':Nat} {w:World} {v:Value} {n:Bd} (h:JO B w v n) (hb:B'≤B):JO B' w v n:=by
 obtain⟨b1,n1,d1,e,h,g1⟩:=h;exact⟨b1,n1,d1,e,h,g1.less hb⟩
theorem JO.kept {B:Nat} {w w':World} {v:Value} {n:Bd} (h:JO B w v n) (k:Kept w w'):JO B w' v n:=by
 obtain⟨b1,n1,d1,e,h,g1⟩:=h;exact⟨b1,n1,d1,e,h.kept k,g1⟩
theorem zB.spelt {w:World} {v1:Value} {n:Bd} (h:zB w v1 n):∃b1 n1 d1,v1=.slice b1 n1 d1:=by
 obtain⟨a,c,e,-⟩:=h.sel;exact⟨_,_,_,e⟩
def jeU (x:ByteArray):Int:=if isName x=true then 0 else 3
def jfh (m:Int):Int:=if m<0∨128<m then 1 else 0
def jd0 (n:Bd):Int:=orL [jeU n.name,jgH n.sel,jfh n.floor]
def zu (w:World) (a:Option Addr) (len:Nat) (l:List Bd):Prop :=
 l.length=len∧len≤maxLen∧(len=0∨∃b off,a=some ⟨b,off,none⟩∧b<w.heap.size∧∀i n,l[i]?=some n→∃v1,
  w.cell? ⟨b,off+i*3,none⟩=some (.string n.name)∧w.cell? ⟨b,off+i*3+1,none⟩=some (v1)∧w.cell? ⟨b,off+i*3+2,none⟩=some (.int .i64 n.floor)∧zB w v1 n)
theorem zu.kept {w w':World} {a:Option Addr} {len:Nat} {l:List Bd} (h:zu w a len l) (k:Kept w w'):zu w' a len l:=by
 obtain⟨h0,h1,h2⟩:=h;refine⟨h0,h1,h2.imp id ?_⟩;rintro ⟨b,off,rfl,hb,hc⟩;refine⟨b,off,rfl,Nat.lt_of_lt_of_le hb k.size,fun i n hi=>?_⟩;obtain⟨v1,p0,p1,p2,hn⟩:=hc i n hi;exact⟨v1,cell_later k p0,cell_later k p1,cell_later k p2,hn.kept k⟩
theorem zu.form {w:World} {a:Option Addr} {len:Nat} {l:List Bd} (h:zu w a len l):len=0∨∃b off,a=some ⟨b,off,none⟩:=by
 obtain⟨_,_,h2⟩:=h;exact h2.imp id fun ⟨b,off,e,_⟩=>⟨b,off,e⟩
theorem zu.at_ {w:World} {b off len:Nat} {l:List Bd} {k:Nat} (h:zu w (some ⟨b,off,none⟩) len l) (hk:k<len):∃n a1 m1 c1,l[k]?=some n∧l.drop k=n::l.drop (k+1)∧b<w.heap.size ∧
 w.cell? ⟨b,off+k*3,none⟩=some (.string n.name)∧w.cell? ⟨b,off+k*3+1,none⟩=some (.slice a1 m1 c1)∧w.cell? ⟨b,off+k*3+2,none⟩=some (.int .i64 n.floor)∧zB w (.slice a1 m1 c1) n:=by
 obtain⟨h0,_,h3⟩:=h;have hkl:k<l.length:=by omega
 rcases h3 with h3 | ⟨b',off',e,hb,hc⟩
 · omega
 · injection e with e;injection e with e1 e2 e3;subst e1;subst e2;have he:l[k]?=some l[k]:=List.getElem?_eq_getElem hkl;obtain⟨v1,r⟩:=hc k _ he;obtain⟨a1,m1,c1,rfl⟩:=zB.spelt r.2.2.2;exact⟨l[k],a1,m1,c1,he,List.drop_eq_getElem_cons hkl,hb,r⟩
def YM (w:World) (v:Value) (l:List Bd):Prop:=∃a cap,v=.slice a l.length cap∧l.length≤cap∧cap≤maxLen∧zu w a l.length l
theorem YM.kept {w w':World} {v:Value} {l:List Bd} (h:YM w v l) (k:Kept w w'):YM w' v l:=by
 obtain⟨a,cap,e,h1,h2,h3⟩:=h;exact⟨a,cap,e,h1,h2,h3.kept k⟩
def jao:Option ByteArray→List Bd→Int
 | _,[]=>0
 | prev,n::t=>if jd0 n≠0 then jd0 n else if Vec.jJ prev n.name=true then 13 else jao (some n.name) t
def Ja (l:List Bd):Int:=if 8<l.length then 4 else jao none l
structure Clu where
 nodes:List Nod
 pods:List Pd
 buds:List Bd
abbrev j9 (v1 v2 v3:Value):Value:=.agg #[v1,v2,v3]
structure jaX (w:World) (v1 v2 v3:Value) (s:Clu):Prop where
 nodes:Yc w v1 s.nodes
 pods:Jw w v2 s.pods
 buds:YM w v3 s.buds
theorem jaX.kept {w w':World} {v1 v2 v3:Value} {s:Clu} (h:jaX w v1 v2 v3 s) (k:Kept w w'):jaX w' v1 v2 v3 s:=⟨h.nodes.kept k,h.pods.kept k,h.buds.kept k⟩
def jC (w:World) (v:Value) (s:Clu):Prop:=∃v1 v2 v3,v=j9 v1 v2 v3∧jaX w v1 v2 v3 s
theorem jC.kept {w w':World} {v:Value} {s:Clu} (h:jC w v s) (k:Kept w w'):jC w' v s:=by
 obtain⟨v1,v2,v3,e,h⟩:=h;exact⟨v1,v2,v3,e,h.kept k⟩
structure jn (s:Clu):Prop where
 nodes:∀n ∈ s.nodes,JL n
 pods:∀n ∈ s.pods,ZG n
 buds:∀n ∈ s.buds,n.sel.length≤1000000
 nodesN:s.nodes.length≤100000
 podsN:s.pods.length≤100000
 budsN:s.buds.length≤100000
def jD (x:ByteArray):List Pd→Vec.V→Int×Vec.V
 | [],v=>(0,v)
 | p::t,v=>if eqS p.node x=true then (if (Vec.jg Vec.jB v p.need).1=0 then jD x t (Vec.jg Vec.jB v p.need).2 else ((Vec.jg Vec.jB v p.need).1,[])) else jD x t v
theorem jap {x:ByteArray} {p:Pd} {t:List Pd} {v:Vec.V} (h:eqS p.node x=false):jD x (p::t) v=jD x t v:=by
 rw[jD,if_neg (by rw[h];decide)]
theorem jaY {x:ByteArray} {p:Pd} {t:List Pd} {v m:Vec.V} (h:eqS p.node x=true) (g:Vec.jg Vec.jB v p.need=(0,m)):jD x (p::t) v=jD x t m:=by
 rw[jD,if_pos h,g,if_pos rfl]
theorem jaZ {x:ByteArray} {p:Pd} {t:List Pd} {v m:Vec.V} {c:Int} (h:eqS p.node x=true) (g:Vec.jg Vec.jB v p.need=(c,m)) (hc:c≠0):jD x (p::t) v=(c,[]):=by
 rw[jD,if_pos h,g,if_neg hc]
def ja4:List Nod→Vec.V→Int×Vec.V
 | [],v=>(0,v)
 | n::t,v=>if (Vec.jg Vec.jB v n.cap).1=0 then ja4 t (Vec.jg Vec.jB v n.cap).2 else ((Vec.jg Vec.jB v n.cap).1,[])
def Xg (s:Clu) (x:ByteArray):Int×Vec.V:=match jl s.nodes x with | none=>(3,[]) | some n=>jD n.name s.pods []
def JA (s:Clu) (x:ByteArray):Int×Vec.V:=match jl s.nodes x with | none=>(3,[]) | some n=>if (jD n.name s.pods []).1=0 then Vec.jg Vec.jO n.cap (jD n.name s.pods []).2 else ((jD n.name s.pods []).1,[])
def jU (nodes:List Nod):List Pd→Int
 | []=>0
 | p::t=>if zq p.node=false∧(jl nodes p.node).isSome=false then 3 else jU nodes t
theorem jc1 {nodes:List Nod} {p:Pd} {t:List Pd} (h:zq p.node=false) (g:(jl nodes p.node).isSome=false):jU nodes (p::t)=3:=by
 rw[jU,if_pos ⟨h,g⟩]
def jY (pods:List Pd):List Nod→Int
 | []=>0
 | n::t=>if (jD n.name pods []).1=0 then (if Vec.jy n.cap (jD n.name pods []).2=true then jY pods t else 7) else (jD n.name pods []).1
theorem jdR {pods:List Pd} {n:Nod} {t:List Nod} {c:Int} {u:Vec.V} (h:jD n.name pods []=(c,u)) (hc:c≠0):jY pods (n::t)=c:=by
 rw[jY,h,if_neg hc]
theorem jcZ {pods:List Pd} {n:Nod} {t:List Nod} {u:Vec.V} (h:jD n.name pods []=(0,u)) (hf:Vec.jy n.cap u=false):jY pods (n::t)=7:=by
 rw[jY,h,if_pos rfl,if_neg (by rw[hf];decide)]
theorem qI {pods:List Pd} {n:Nod} {t:List Nod} {u:Vec.V} (h:jD n.name pods []=(0,u)) (hf:Vec.jy n.cap u=true):jY pods (n::t)=jY pods t:=by
 rw[jY,h,if_pos rfl,if_pos hf]
def JS (s:Clu):Int :=
 if or3 (zx s.nodes) (zw s.pods) (Ja s.buds)≠0 then or3 (zx s.nodes) (zw s.pods) (Ja s.buds)
 else if jU s.nodes s.pods≠0 then jU s.nodes s.pods
 else if jY s.pods s.nodes≠0 then jY s.pods s.nodes
 else (ja4 s.nodes []).1
def onP (x:ByteArray) (l:List Pd):List Pd:=if zq x=true then [] else l.filter fun p=>eqS p.node x
def jL (x:ByteArray):List Pd→List Pd
 | []=>[]
 | p::t=>if eqS p.name x=true then t else p::jL x t
def zR (p:Pd):List Pd→List Pd
 | []=>[p]
 | q::t=>if ltS p.name q.name=true then p::q::t else q::zR p t
def Zr (x y:ByteArray):List Pd→List Pd
 | []=>[]
 | p::t=>if eqS p.name x=true then { p with node:=y }::t else p::Zr x y t
def jw (s:Clu) (x:ByteArray):Clu:={ s with pods:=jL x s.pods }
def zo (s:Clu) (p:Pd):Clu:={ s with pods:=zR p (jL p.name s.pods) }
def zv (s:Clu) (x y:ByteArray):Clu:={ s with pods:=Zr x y s.pods }
def Zk (p q:Pd):Bool:=!zq p.owner&&(eqS q.owner p.owner&&(!q.hold&&!eqS q.name p.name))
def onN (p:Pd) (x:ByteArray):List Pd→Nat
 | []=>0
 | q::t=>(if Zk p q=true∧q.node=x then 1 else 0)+onN p x t
theorem qw (p:Pd) (x:ByteArray):∀l:List Pd,onN p x l≤l.length
 | []=>Nat.zero_le _
 | q::t=>by
  have:=qw p x t;unfold onN;simp only[List.length_cons];split<;>omega
def inD (p:Pd) (pods:List Pd) (d:ByteArray):List Nod→Nat
 | []=>0
 | n::t=>(if zh n.labels p.key=some d then onN p n.name pods else 0)+inD p pods d t
theorem ja6 (p:Pd) (pods:List Pd) (d:ByteArray):∀l:List Nod,inD p pods d l≤l.length*pods.length
 | []=>Nat.zero_le _
 | n::t=>by
  have h1:=ja6 p pods d t;have h2:=qw p n.name pods;unfold inD;simp only[List.length_cons,Nat.add_mul];split<;>omega
def JF (k d:ByteArray) (l:List Nod):Bool:=l.any fun n=>decide (zh n.labels k=some d)
theorem qW (p:Pd) (x:ByteArray):∀(a b:List Pd),onN p x (a++b)=onN p x a+onN p x b
 | [],b=>by simp[onN]
 | q::t,b=>by
  have:=qW p x t b;simp only[List.cons_append,onN,this];omega
theorem qT (p:Pd) (pods:List Pd) (d:ByteArray):∀(a b:List Nod),inD p pods d (a++b)=inD p pods d a+inD p pods d b
 | [],b=>by simp[inD]
 | q::t,b=>by
  have:=qT p pods d t b;simp only[List.cons_append,inD,this];omega
def domV (key name:ByteArray):List Nod→Option ByteArray
 | []=>none
 | n::t=>if eqS n.name name=true then zh n.labels key else domV key name t
def ZC (p:Pd) (pods:List Pd) (nodes:List Nod) (d:ByteArray):List Nod→Nat→Nat
 | [],m=>m
 | n::t,m=>ZC p pods nodes d t (match zh n.labels p.key with
  | none=>m
  | some e=>min m (inD p pods e nodes+(if e=d then 1 else 0)))
def Zn (p:Pd) (s:Clu) (d:ByteArray):Int:=((inD p s.pods d s.nodes+1:Nat):Int)-(ZC p s.pods s.nodes d s.nodes (inD p s.pods d s.nodes+1):Int)
def Jv (p:Pd) (s:Clu) (name:ByteArray):Int×Bool :=
 if zq p.key=true then (0,true) else match domV p.key name s.nodes with
  | none=>(0,false)
  | some d=>(Zn p s d,true)
theorem Yx (p:Pd) (pods:List Pd) (nodes:List Nod) (d:ByteArray):∀(l:List Nod) (m:Nat),
 ZC p pods nodes d l m≤m∧(∀n ∈ l,∀e,zh n.labels p.key=some e→ZC p pods nodes d l m≤inD p pods e nodes+(if e=d then 1 else 0)) ∧
 (ZC p pods nodes d l m=m∨∃n ∈ l,∃e,zh n.labels p.key=some e∧ZC p pods nodes d l m=inD p pods e nodes+(if e=d then 1 else 0))
 | [],m=>⟨Nat.le_refl _,fun n h=>absurd h (by simp),.inl rfl⟩
 | n::t,m=>by
  rw[ZC]
  cases h:zh n.labels p.key with
  | none =>
   dsimp only;obtain⟨h1,h2,h3⟩:=Yx p pods nodes d t m;refine⟨h1,fun x hx e he=>?_,h3.imp id fun ⟨x,hx,e,he⟩=>⟨x,by simp[hx],e,he⟩⟩;rcases List.mem_cons.1 hx with rfl | hx
   · rw[h] at he;cases he
   · exact h2 x hx e he
  | some c =>
   dsimp only;obtain⟨h1,h2,h3⟩:=Yx p pods nodes d t (min m (inD p pods c nodes+(if c=d then 1 else 0)));refine⟨Nat.le_trans h1 (Nat.min_le_left _ _),fun x hx e he=>?_,?_⟩
   · rcases List.mem_cons.1 hx with rfl | hx
     · rw[h] at he;cases he;exact Nat.le_trans h1 (Nat.min_le_right _ _)
     · exact h2 x hx e he
   · rcases h3 with h3 | ⟨x,hx,e,he,h3⟩
     · by_cases g:m≤inD p pods c nodes+(if c=d then 1 else 0)
       · exact .inl (by rw[h3,Nat.min_eq_left g])
       · exact .inr ⟨n,by simp,c,h,by rw[h3,Nat.min_eq_right (by omega)]⟩
     · exact .inr ⟨x,by simp[hx],e,he,h3⟩
theorem jeB {p:Pd} {pods:List Pd} {nodes:List Nod} {d:ByteArray} {m z:Nat} (hd:JF p.key d nodes=true) (hm:m=inD p pods d nodes+1)
 (h1:∀e,JF p.key e nodes=true→z≤inD p pods e nodes+(if e=d then 1 else 0)) (h2:∃e,JF p.key e nodes=true∧z=inD p pods e nodes+(if e=d then 1 else 0)):ZC p pods nodes d nodes m=z:=by
 have has:∀{n:Nod} {e:ByteArray},n ∈ nodes→zh n.labels p.key=some e→JF p.key e nodes=true:=fun {n e} hn he=>by
  unfold JF;rw[List.any_eq_true];exact⟨n,hn,by simpa using he⟩
 have un:∀{e:ByteArray},JF p.key e nodes=true→∃n ∈ nodes,zh n.labels p.key=some e:=fun {e} h=>by
  unfold JF at h;rw[List.any_eq_true] at h;obtain⟨n,hn,he⟩:=h;exact⟨n,hn,by simpa using he⟩
 obtain⟨g1,g2,g3⟩:=Yx p pods nodes d nodes m;obtain⟨e,he,hz⟩:=h2;obtain⟨n,hn,hne⟩:=un he;have a:=g2 n hn e hne;rcases g3 with g3 | ⟨x,hx,c,hc,g3⟩
 · have b:=h1 d hd;rw[if_pos rfl] at b;omega
 · have b:=h1 c (has hx hc);omega
theorem XR {key name d:ByteArray}:∀{l:List Nod},domV key name l=some d→JF key d l=true
 | n::t,h=>by
  rw[domV] at h;unfold JF;rw[List.any_cons];split at h
  · rw[h];simp
  · have:=XR h;unfold JF at this;rw[this,Bool.or_true]
def Js (s:Clu) (p:Pd) (x:ByteArray):Bool:=if zq p.key=true then false else (!(Jv p s x).2||decide (p.most<(Jv p s x).1))
def zS (p:Pd) (n:Nod):Bool:=!n.cordon&&JG p.sel n.labels
def Jy (p:Pd) (n:Nod):Bool:=!(zk p.tols n.taints).isSome
def Zf (s:Clu) (p:Pd) (x:ByteArray):Bool:=decide ((JA s x).1=0)&&Vec.jy (JA s x).2 p.need
def j7 (s:Clu) (p:Pd) (n:Nod) (x:ByteArray):Int:=if zS p n=false then 8 else if Jy p n=false then 9 else if Js s p x=true then 10 else if Zf s p x=false then 7 else 0
def jZ (s:Clu) (p:Pd) (x:ByteArray):Int:=match jl s.nodes x with
 | none=>3
 | some n=>j7 s p n x
def Zd (s:Clu) (p:Pd) (x:ByteArray):Int:=jZ (jw s p.name) p x
def Z1 (s:Clu) (p:Pd) (l:List Nod):List Int:=l.map fun n=>Zd s p n.name
def j4 (s:Clu) (p:Pd) (l:List Nod):List ByteArray:=(l.filter fun n=>decide (Zd s p n.name=0)).map fun n=>n.name
theorem XH {s:Clu} {p:Pd} {x:ByteArray} (h:jl s.nodes x=none):jZ s p x=3:=by unfold jZ;rw[h]
theorem XL {s:Clu} {p:Pd} {x:ByteArray} {n:Nod} (h:jl s.nodes x=some n):jZ s p x=j7 s p n x:=by unfold jZ;rw[h]
theorem XJ {s:Clu} {p:Pd} {n:Nod} {x:ByteArray} (h:zS p n=false):j7 s p n x=8:=by unfold j7;rw[if_pos h]
theorem Y1 {s:Clu} {p:Pd} {n:Nod} {x:ByteArray} (h:zS p n=true) (h2:Jy p n=false):j7 s p n x=9:=by unfold j7;rw[if_neg (by rw[h];decide),if_pos h2]
theorem Xn {s:Clu} {p:Pd} {n:Nod} {x:ByteArray} (h:zS p n=true) (h2:Jy p n=true) (h3:Js s p x=true):j7 s p n x=10:=by unfold j7;rw[if_neg (by rw[h];decide),if_neg (by rw[h2];decide),if_pos h3]
theorem Xq {s:Clu} {p:Pd} {n:Nod} {x:ByteArray} (h:zS p n=true) (h2:Jy p n=true) (h3:Js s p x=false) (h4:Zf s p x=false):j7 s p n x=7:=by unfold j7;rw[if_neg (by rw[h];decide),if_neg (by rw[h2];decide),if_neg (by rw[h3];decide),if_pos h4]
theorem jcR {s:Clu} {p:Pd} {n:Nod} {x:ByteArray} (h:zS p n=true) (h2:Jy p n=true) (h3:Js s p x=false) (h4:Zf s p x=true):j7 s p n x=0:=by unfold j7;rw[if_neg (by rw[h];decide),if_neg (by rw[h2];decide),if_neg (by rw[h3];decide),if_neg (by rw[h4];decide)]
theorem ja8 {s:Clu} {p:Pd} {n:Nod} {x:ByteArray} (h:j7 s p n x=0):zS p n=true∧Jy p n=true∧Js s p x=false∧Zf s p x=true:=by
 cases h1:zS p n with
 | false=>rw[XJ h1] at h;cases h
 | true =>
  cases h2:Jy p n with
  | false=>rw[Y1 h1 h2] at h;cases h
  | true =>
   cases h3:Js s p x with
   | true=>rw[Xn h1 h2 h3] at h;cases h
   | false =>
    cases h4:Zf s p x with
    | false=>rw[Xq h1 h2 h3 h4] at h;cases h
    | true=>exact⟨rfl,rfl,rfl,rfl⟩
theorem jb8 {s:Clu} {p:Pd} {x:ByteArray} (h:jZ s p x=0):∃n,jl s.nodes x=some n∧j7 s p n x=0:=by
 cases hf:jl s.nodes x with
 | none=>rw[XH hf] at h;cases h
 | some n=>rw[XL hf] at h;exact⟨n,rfl,h⟩
theorem jcY (s:Clu) (p:Pd) (n:Nod) (x:ByteArray):0≤j7 s p n x∧j7 s p n x≤10:=by
 unfold j7;split
 · decide
 · split
   · decide
   · split
     · decide
     · split<;>decide
theorem jdG (s:Clu) (p:Pd) (x:ByteArray):0≤jZ s p x∧jZ s p x≤10:=by
 unfold jZ;split
 · decide
 · exact jcY _ _ _ _
theorem jee {l:List Nod} {x:ByteArray} {n:Nod} (h:jl l x=some n):n ∈ l∧n.name=x:=by
 unfold jl at h;have h2:eqS n.name x=true:=List.find?_some (p:=fun n:Nod=>eqS n.name x) h;exact⟨List.mem_of_find?_eq_some h,jI.1 h2⟩
theorem jeb {s:Clu} {p:Pd} {l:List Nod} {k:Nat} {n:Nod} (h:l[k]?=some n):Z1 s p (l.take (k+1))=Z1 s p (l.take k)++[Zd s p n.name]:=by
 unfold Z1;rw[List.take_add_one,h,List.map_append];rfl
theorem X2 (s:Clu) (p:Pd) (l:List Nod):(Z1 s p l).length=l.length:=by unfold Z1;rw[List.length_map]
theorem jf7 {s:Clu} {p:Pd} {l:List Nod} {k:Nat} {n:Nod} (h:l[k]?=some n):(Z1 s p l)[k]?=some (Zd s p n.name):=by unfold Z1;rw[List.getElem?_map,h];rfl
theorem jcT {s:Clu} {p:Pd} {l:List Nod} {k:Nat} {n:Nod} (h:l[k]?=some n):j4 s p (l.take (k+1))=j4 s p (l.take k)++(if Zd s p n.name=0 then [n.name] else []):=by
 unfold j4;rw[List.take_add_one,h,List.filter_append,List.map_append];by_cases hb:Zd s p n.name=0
 · rw[if_pos hb];simp[hb]
 · rw[if_neg hb];simp[hb]
theorem jeA (s:Clu) (p:Pd) (l:List Nod):(j4 s p l).length≤l.length:=by
 unfold j4;rw[List.length_map];exact List.length_filter_le _ _
theorem jal {s:Clu} {p:Pd} {l:List Nod} {x:ByteArray} (h:x ∈ j4 s p l):Zd s p x=0∧∃n ∈ l,n.name=x:=by
 unfold j4 at h;obtain⟨n,hn,rfl⟩:=List.mem_map.1 h;obtain⟨h1,h2⟩:=List.mem_filter.1 hn;exact⟨of_decide_eq_true h2,n,h1,rfl⟩
open Ieee
abbrev BIN:Nat:=4503599627370496
abbrev INF:Nat:=9218868437227405312
abbrev SGN:Nat:=9223372036854775808
def rung (x:Nat):Nat:=x % SGN
def sgn (x:Nat):Bool:=x / SGN % 2==1
def isNaN (x:Nat):Bool:=decide (INF<rung x)
def ex (r:Nat):Nat:=if r<BIN then 0 else r / BIN-1
def jaT (x:Nat):Int:=if sgn x then -(rung x:Int) else rung x
def cls (x:Nat):Int:=if isNaN x then 6 else if jaT x=-INF then 0 else if jaT x=INF then 5 else if jaT x<0 then 1 else if 0<jaT x then 4 else if sgn x then 2 else 3
def key (x:Nat):Int:=if isNaN x then SGN else if sgn x then -(rung x:Int)-1 else rung x
def cp (x y:Nat):Int:=if key x<key y then -1 else if key x=key y then 0 else 1
theorem Kept.oneB (w:World) (c:Array Value) (t:TypeId):Kept w (w.alloc (.cells c t)):=(Below.refl _ _).alloc (Nat.le_refl _) _
def RC (x:Nat) (w:World) (e:Ending) (w':World):Prop:=e=.returned (.int .i64 (cls x))∧∃n,w'=w.drewN n
def CP (x y:Nat) (w:World) (e:Ending) (w':World):Prop:=e=.returned (.int .i64 (cp x y))∧∃c t,w'=w.alloc (.cells c t)
theorem CP.kept {x y:Nat} {w:World} {e:Ending} {w':World} (h:CP x y w e w'):e=.returned (.int .i64 (cp x y))∧Kept w w':=by
 obtain⟨rfl,c,t,rfl⟩:=h;exact⟨rfl,Kept.oneB _ _ _⟩
def RCP (x y:Nat) (w:World) (e:Ending) (w':World):Prop:=e=.returned (.int .i64 (cp x y))∧∃n,w'=w.drewN n
theorem RCP.kept {x y:Nat} {w:World} {e:Ending} {w':World} (h:RCP x y w e w'):e=.returned (.int .i64 (cp x y))∧Kept w w':=by
 obtain⟨rfl,n,rfl⟩:=h;exact⟨rfl,Kept.drewN _ _⟩
def AL (x y:Nat) (w:World) (e:Ending) (w':World):Prop:=e=.returned (.bool (decide (cp x y=0)))∧∃n,w'=w.drewN n
theorem AL.kept {x y:Nat} {w:World} {e:Ending} {w':World} (h:AL x y w e w'):e=.returned (.bool (decide (cp x y=0)))∧Kept w w':=by
 obtain⟨rfl,n,rfl⟩:=h;exact⟨rfl,Kept.drewN _ _⟩
abbrev TOP:Nat:=18446744073709551616
def jfg (w:World) (a:Option Addr) (len:Nat) (l:List Nat):Prop :=
 l.length=len∧len≤maxLen∧(∀x ∈ l,x<TOP) ∧
  (len=0∨∃b off,a=some ⟨b,off,none⟩∧b<w.heap.size∧∀i,i<len→w.cell? ⟨b,off+i,none⟩=some (.float .f64 (l.getD i 0)))
theorem jfg.kept {w w':World} {a:Option Addr} {len:Nat} {l:List Nat} (h:jfg w a len l) (k:Kept w w'):jfg w' a len l:=by
 obtain⟨h0,h1,h2,h3⟩:=h;refine⟨h0,h1,h2,h3.imp id ?_⟩;rintro ⟨b,off,ha,hb,hc⟩;exact⟨b,off,ha,Nat.lt_of_lt_of_le hb k.size,fun i hi=>(Below.cell k (p:=⟨b,off+i,none⟩) hb).trans (hc i hi)⟩
theorem Kept.alloc {a b:World} (h:Kept a b) (o:Obj):Kept a (b.alloc o):=h.trans ((Below.refl _ _).alloc (Nat.le_refl _) _)
def Z3 (a b:Int):Int:=if a<b then -1 else if b<a then 1 else 0
def Yu (a b:ByteArray):Int:=if ltS a b=true then -1 else if eqS a b=true then 0 else 1
def Zq (n m:Pd):Int:=if Z3 m.prio n.prio≠0 then Z3 m.prio n.prio else Yu n.name m.name
theorem jbz (x:Int) (w:World):Calls Tryz.prog 146 #[.int .i64 x] w fun e w'=>e=.returned (.bool false)∧w=w':=by
 have h:(x != x)=false:=by simp
 go_enter Tryz.func146,Tryz.ntmps146;go_wp2;go_ret;exact⟨rfl,rfl⟩
theorem jbv (x:ByteArray) (w:World):Calls Tryz.prog 147 #[.string x] w fun e w'=>e=.returned (.bool false)∧w=w':=by
 have h:(x.toList==x.toList)=true:=by simp
 go_enter Tryz.func147,Tryz.ntmps147;go_wp2;go_ret;exact⟨rfl,rfl⟩
theorem jfa (a b:Int) (w:World):Calls Tryz.prog 105 #[.int .i64 a,.int .i64 b] w fun e w'=>e=.returned (.int .i64 (Z3 a b))∧w=w':=by
 have HA:=lH (jbz a w);have HB:=lH (jbz b w);by_cases h:a<b
 · have HV:=lH (show Z3 a b=-1 by unfold Z3;rw[if_pos h]);go_enter Tryz.func105,Tryz.ntmps105;go_wp2_with fail
   refine HA.out.mono ?_;rintro e w1 ⟨rfl,rfl⟩;go_wp2_with fail
   refine HB.out.mono ?_;rintro e w2 ⟨rfl,rfl⟩;go_wp2;go_ret;exact⟨zL HV.out.symm,rfl⟩
 · have h':b≤a:=by omega
   by_cases g:b<a
   · have HV:=lH (show Z3 a b=1 by unfold Z3;rw[if_neg h,if_pos g]);clear h;go_enter Tryz.func105,Tryz.ntmps105;go_wp2_with fail
     refine HA.out.mono ?_;rintro e w1 ⟨rfl,rfl⟩;go_wp2_with fail
     refine HB.out.mono ?_;rintro e w2 ⟨rfl,rfl⟩;go_wp2;go_ret;exact⟨zL HV.out.symm,rfl⟩
   · have g':a≤b:=by omega
     have HV:=lH (show Z3 a b=0 by unfold Z3;rw[if_neg h,if_neg g]);clear h g;go_enter Tryz.func105,Tryz.ntmps105;go_wp2_with fail
     refine HA.out.mono ?_;rintro e w1 ⟨rfl,rfl⟩;go_wp2_with fail
     refine HB.out.mono ?_;rintro e w2 ⟨rfl,rfl⟩;go_wp2;go_ret;exact⟨zL HV.out.symm,rfl⟩
theorem je7 (a b:ByteArray) (w:World):Calls Tryz.prog 106 #[.string a,.string b] w fun e w'=>e=.returned (.int .i64 (Yu a b))∧w=w':=by
 have HA:=lH (jbv a w);have HB:=lH (jbv b w)
 cases h:ltS a b with
 | true =>
  have h':Op.bytesLess a.toList b.toList=true:=h;have HV:=lH (show Yu a b=-1 by unfold Yu;rw[if_pos h]);clear h;go_enter Tryz.func106,Tryz.ntmps106;go_wp2_with fail
  refine HA.out.mono ?_;rintro e w1 ⟨rfl,rfl⟩;go_wp2_with fail
  refine HB.out.mono ?_;rintro e w2 ⟨rfl,rfl⟩;go_wp2;go_ret;exact⟨zL HV.out.symm,rfl⟩
 | false =>
  have h':Op.bytesLess a.toList b.toList=false:=h
  cases g:eqS a b with
  | true =>
   have g':(a.toList==b.toList)=true:=g;have HV:=lH (show Yu a b=0 by unfold Yu;rw[if_neg (by rw[h];decide),if_pos g]);clear h g;go_enter Tryz.func106,Tryz.ntmps106;go_wp2_with fail
   refine HA.out.mono ?_;rintro e w1 ⟨rfl,rfl⟩;go_wp2_with fail
   refine HB.out.mono ?_;rintro e w2 ⟨rfl,rfl⟩;go_wp2;go_ret;exact⟨zL HV.out.symm,rfl⟩
  | false =>
   have g':(a.toList==b.toList)=false:=g;have HV:=lH (show Yu a b=1 by unfold Yu;rw[if_neg (by rw[h];decide),if_neg (by rw[g];decide)]);clear h g;go_enter Tryz.func106,Tryz.ntmps106;go_wp2_with fail
   refine HA.out.mono ?_;rintro e w1 ⟨rfl,rfl⟩;go_wp2_with fail
   refine HB.out.mono ?_;rintro e w2 ⟨rfl,rfl⟩;go_wp2;go_ret;exact⟨zL HV.out.symm,rfl⟩
theorem jeF (W:World) (x y:Int) (T:TypeId) (i:Nat) (z:Int) (hi:([x,y]:List Int)[i]?=some z):(W.alloc (.cells #[.int .i64 x,.int .i64 y] T)).cell? ⟨W.heap.size,i,none⟩=some (.int .i64 z):=by
 refine(jc W (.int .i64 x) [.int .i64 y] T _ (Kept.refl _)).at_ i _ ?_
 match i,hi with
 | 0,h=>simpa using h
 | 1,h=>simpa using h
 | j+2,h=>simp at h
def jg3 (a b:Int):Option Nat:=Ieee.double.div (floatOfInt .f64 a) (floatOfInt .f64 b)
def jg0 (s x:Option Nat):Option Nat:=s.bind fun s=>x.bind fun x=>Ieee.double.add s x
def jgs (l:List (Option Nat)):Nat→Option Nat
 | 0=>some 0
 | k+1=>jg0 (jgs l k) (l.getD k none)
def jgP (l:List (Option Nat)):Option Nat:=if l.length=0 then none else (jgs l l.length).bind fun s=>Ieee.double.div s (floatOfInt .f64 l.length)
def jfz (o:Option Nat):Int:=match o with | none=>(SGN:Int) | some x=>key x
def kO (pack:Bool) (o:Option Nat):Int:=if pack=true then -jfz o else jfz o
def jaU (s:Clu) (x:ByteArray):Nod:=(jl s.nodes x).getD Nod.zero
def jgu (s:Clu) (x what:ByteArray):Option Nat:=jg3 (Vec.jf (Xg s x).2 what) (Vec.jf (jaU s x).cap what)
def jgY (s:Clu) (x:ByteArray):Option Nat:=jgP ((jaU s x).cap.map fun a=>jgu s x a.1)
def jgl (s:Clu) (x:ByteArray):Clu:=⟨[jaU s x],onP x s.pods,[]⟩
def jes (s:Clu) (p:Pd) (x:ByteArray):Option Nat:=jgY (zo (jgl s x) { p with node:=x }) x
def jfG (s:Clu) (p:Pd) (x:ByteArray):Int:=jfE p.tols (jaU s x).taints
def zP (pack:Bool) (m n:Int) (x y:Option Nat) (a b:ByteArray):Bool :=
 decide (m<n)||(decide (m=n)&&(decide (kO pack x<kO pack y)||(decide (kO pack x=kO pack y)&&ltS a b)))
def ZA (s:Clu) (p:Pd) (pack:Bool) (a b:ByteArray):Bool:=zP pack (jfG s p a) (jfG s p b) (jes s p a) (jes s p b) a b
theorem YH {pack:Bool} {m n:Int} {x y:Option Nat} {a b:ByteArray}:zP pack m n x y a b=true↔m<n∨(m=n∧(kO pack x<kO pack y∨(kO pack x=kO pack y∧ltS a b=true))):=by
 unfold zP;simp only[Bool.or_eq_true,Bool.and_eq_true,decide_eq_true_eq]
theorem YX {pack:Bool} {m n:Int} {x y:Option Nat} {a b:ByteArray}:zP pack m n x y a b=false↔¬(m<n∨(m=n∧(kO pack x<kO pack y∨(kO pack x=kO pack y∧ltS a b=true)))):=by
 rw[←Bool.not_eq_true,YH]
theorem jaK (pack:Bool) (m:Int) (x:Option Nat) (a:ByteArray):zP pack m m x x a a=false:=by
 rw[YX,Vec.Zg];simp
theorem Xc {pack:Bool} {m n k:Int} {x y z:Option Nat} {a b c:ByteArray} (h:zP pack m n x y a b=true) (g:zP pack n k y z b c=true):zP pack m k x z a c=true:=by
 rw[YH] at *;rcases h with h | ⟨rfl,h⟩
 · rcases g with g | ⟨rfl,g⟩
   · exact .inl (by omega)
   · exact .inl h
 · rcases g with g | ⟨rfl,g⟩
   · exact .inl g
   · refine .inr ⟨rfl,?_⟩;rcases h with h | ⟨h,h2⟩
     · rcases g with g | ⟨g,g2⟩<;>exact .inl (by omega)
     · rcases g with g | ⟨g,g2⟩
       · exact .inl (by omega)
       · exact .inr ⟨by omega,Vec.zD h2 g2⟩
theorem Xr {pack:Bool} {m n:Int} {x y:Option Nat} {a b:ByteArray} (h:zP pack m n x y a b=false) (g:zP pack n m y x b a=false):a=b∧m=n∧kO pack x=kO pack y:=by
 rw[YX] at *;have h1:m=n:=by
  by_cases e:m=n
  · exact e
  · exact absurd (show m<n∨n<m by omega) (fun q=>by rcases q with q | q;exact h (.inl q);exact g (.inl q))
 have h2:kO pack x=kO pack y:=by
  by_cases e:kO pack x=kO pack y
  · exact e
  · exact absurd (show kO pack x<kO pack y∨kO pack y<kO pack x by omega) (fun q=>by
     rcases q with q | q
     · exact h (.inr ⟨h1,.inl q⟩)
     · exact g (.inr ⟨h1.symm,.inl q⟩))
 refine⟨Vec.ZP (by
  cases e:ltS a b with
  | false=>rfl
  | true=>exact absurd (.inr ⟨h1,.inr ⟨h2,e⟩⟩) h) (by
  cases e:ltS b a with
  | false=>rfl
  | true=>exact absurd (.inr ⟨h1.symm,.inr ⟨h2.symm,e⟩⟩) g),h1,h2⟩
theorem jaM {pack:Bool} {m n k:Int} {x y z:Option Nat} {a b c:ByteArray} (h:zP pack m n x y a b=false) (g:zP pack n k y z b c=false):zP pack m k x z a c=false:=by
 cases e:zP pack m k x z a c with
 | false=>rfl
 | true =>
  cases q:zP pack n m y x b a with
  | true=>rw[Xc q e] at g;cases g
  | false =>
   obtain⟨rfl,rfl,hk⟩:=Xr h q;rw[YX] at g;rw[YH,hk] at e;exact absurd e g
def jc6 (s:Clu) (p:Pd) (pack:Bool) (l:List ByteArray):Prop:=l.Perm (j4 s p s.nodes)∧l.Pairwise fun a b=>ZA s p pack b a=false
theorem jbE {s:Clu} {p:Pd} {pack:Bool} {a b:ByteArray} (h:ZA s p pack a b=false) (g:ZA s p pack b a=false):a=b:=(Xr h g).1
theorem jc6.unique {s:Clu} {p:Pd} {pack:Bool} {l m:List ByteArray} (h:jc6 s p pack l) (g:jc6 s p pack m):l=m :=
 List.Perm.eq_of_pairwise (fun a b _ _ h g=>jbE g h) h.2 g.2 (h.1.trans g.1.symm)
theorem qA (n m:Pd):Zq n m<0↔(m.prio<n.prio∨(m.prio=n.prio∧ltS n.name m.name=true)):=by
 unfold Zq Z3 Yu;by_cases h:m.prio<n.prio
 · rw[if_pos h,if_pos (by decide)];exact⟨fun _=>.inl h,fun _=>by decide⟩
 · by_cases g:n.prio<m.prio
   · rw[if_neg h,if_pos g,if_pos (by decide)];exact⟨fun q=>absurd q (by decide),fun q=>by omega⟩
   · rw[if_neg h,if_neg g,if_neg (by decide)];have e:m.prio=n.prio:=by omega
     cases q:ltS n.name m.name with
     | true=>rw[if_pos rfl];exact⟨fun _=>.inr ⟨e,rfl⟩,fun _=>by decide⟩
     | false =>
      rw[if_neg (by decide)];refine⟨fun q2=>?_,fun q2=>?_⟩
      · split at q2<;>exact absurd q2 (by decide)
      · rcases q2 with q2 | ⟨_,q2⟩
        · omega
        · cases q2
theorem ja1 {a b c:Pd} (h:Zq a b<0) (g:Zq b c<0):Zq a c<0:=by
 rw[qA] at h g ⊢;rcases h with h | ⟨h1,h2⟩
 · rcases g with g | ⟨g1,g2⟩
   · exact .inl (by omega)
   · exact .inl (by omega)
 · rcases g with g | ⟨g1,g2⟩
   · exact .inl (by omega)
   · exact .inr ⟨by omega,Vec.zD h2 g2⟩
end Go.Proofs.YtabafpoklpiiiaaGreat
