/- What serves all packages,and package by package the contracts of the functions that the law calls. -/
import Derived.Test.YthmddloeggdohaaGreatDoorG1
import Derived.Test.YthmddloeggdohaaGreatDoorG2
import Derived.Test.YthmddloeggdohaaGreatDoorG3
import Derived.Test.YthmddloeggdohaaGreatDoorG4
import Derived.Test.YthmddloeggdohaaGreatDoorG5
set_option linter.unusedVariables false
set_option maxRecDepth 100000
set_option maxHeartbeats 25600000
namespace Go.Proofs.YthmddloeggdohaaGreatDoor
open Go.RowKit
theorem joS:Kind 39 144 2 32:=by
 obtain⟨i,hi,hz,h1,h2⟩:=info_parts (show (Tryz.prog.info? 144).map (fun i=>(i.zero,i.size,i.bytes))=some (some (.agg #[.string ByteArray.empty,.string ByteArray.empty]),2,32) by kernel_rfl);exact⟨i,_,Tryz.underlying39,hi,hz,h1,h2,rfl,by decide⟩
theorem joV:Kind 40 148 3 40:=by
 obtain⟨i,hi,hz,h1,h2⟩:=info_parts (show (Tryz.prog.info? 148).map (fun i=>(i.zero,i.size,i.bytes))=some (some (.agg #[.string ByteArray.empty,.string ByteArray.empty,.bool false]),3,40) by kernel_rfl);exact⟨i,_,Tryz.underlying40,hi,hz,h1,h2,rfl,by decide⟩
theorem joH:Kind 37 140 2 24:=by
 obtain⟨i,hi,hz,h1,h2⟩:=info_parts (show (Tryz.prog.info? 140).map (fun i=>(i.zero,i.size,i.bytes))=some (some (.agg #[.string ByteArray.empty,.int .i64 0]),2,24) by kernel_rfl);exact⟨i,_,Tryz.underlying37,hi,hz,h1,h2,rfl,by decide⟩
theorem jeh:∀(l:Vec.V) (j:Nat) (u:Value),(Vec.cellsOf l)[j]?=some u→∃i,i<l.length∧((j=i*2∧u=.string (Vec.nm l i))∨(j=i*2+1∧u=.int .i64 (Vec.qn l i))):=by
 intro l j u h;have hlt:j<l.length*2:=by have:=(List.getElem?_eq_some_iff.1 h).1;rw[Vec.XF] at this;exact this
 have hi:j / 2<l.length:=by omega
 obtain⟨h1,h2⟩:=Vec.qq l (j / 2) hi;refine⟨j / 2,hi,?_⟩;by_cases he:j % 2=0
 · have e:j=j / 2*2:=by omega
   rw[←e] at h1;rw[h1] at h;exact .inl ⟨e,by cases h;rfl⟩
 · have e:j=j / 2*2+1:=by omega
   rw[←e] at h2;rw[h2] at h;exact .inr ⟨e,by cases h;rfl⟩
theorem jmZ {w:World} {a:Option Addr} {len cap:Nat} {l:Vec.V} (h:Vec.jt w a len l):jbt w (.slice a len cap) len (Vec.cellsOf l):=by
 obtain⟨h0,h1,h2,h3⟩:=h;rcases h3 with h3 | ⟨b,off,rfl,hb,hc⟩
 · have hl:l=[]:=List.eq_nil_of_length_eq_zero (by omega);subst hl;subst h3
   cases a with
   | none=>exact .inr ⟨cap,rfl,rfl⟩
   | some ad=>exact .inl ⟨ad,cap,rfl,fun j u hu=>by simp[Vec.cellsOf] at hu⟩
 · refine .inl ⟨_,cap,rfl,fun j u hu=>?_⟩;obtain⟨i,hi,hj⟩:=jeh l j u hu;obtain⟨c1,c2⟩:=hc i (by omega);have e:(⟨b,off,none⟩:Addr).add j=⟨b,off+j,none⟩:=by
    unfold Addr.add;split<;>simp_all
   rw[e];rcases hj with ⟨rfl,rfl⟩ | ⟨rfl,rfl⟩
   · exact c1
   · rw[←Nat.add_assoc];exact c2
theorem jje (a:Option Addr) (len cap:Nat) (l:PL) (w:World) (hr:jr js w a len l) (hc:len≤cap) (hm:cap≤maxLen) (hn:len≤1000000) :
 Calls Tryz.prog 279 #[.slice a len cap] w fun e w'=>∃a' m' c',e=.returned (.slice a' m' c')∧Reads js w' (.slice a' m' c') l∧(∀b off sp,a'=some ⟨b,off,sp⟩→w.heap.size≤b)∧Kept w w':=by
 have hl:=hr.1;have q22:∀(w:World) (a:Option Addr) (n c n' c':Nat),(binOp .eql 39 (.slice a n c) (.slice none n' c')).run Tryz.prog w=.ok (.bool a.isNone) w:=fun w a n c n' c'=>Lib.run_eql_slice_nil w _ _ a n c n' c' Tryz.underlying39
 cases a with
 | none =>
  have h0:len=0:=by
   rcases hr.form with h | ⟨b,off,h⟩
   · exact h
   · cases h
  subst h0;have hl0:l=[]:=List.eq_nil_of_length_eq_zero hl;subst hl0;clear hr hl;go_enter Tryz.func279,Tryz.ntmps279;go_wp2;go_ret;exact⟨none,0,0,rfl,Reads.nil _,(fun b o s e=>by cases e),Kept.refl _⟩
 | some ad =>
  have HR:=lH hr;have HL:=lH hl;have hrl:(jd js l).length=len*2:=by rw[JB,hl];rfl
  have hb1:0+len≤maxLen:=by unfold maxLen;omega
  have hb2:((0+len)+(0+len) / 4+192)*32≤281474976710656:=by omega
  clear hr hl;go_enter Tryz.func279,Tryz.ntmps279;go_wp2_with (at_builtin;refine XK joS _ rfl (.tmp 5) (.tmp 6) rfl w.heap.size (by simp) w.heap.size 0 0 [] rfl (jbT w w.heap.size 2 _ (Nat.le_refl _)) _ len (jd js l) rfl hrl (YB _ _) (jr.src (HR.out.kept (ja _ _))) hb1 hb2 ?_;intro g1 k1 W1 ho hd hg;have HO:=lH ho;have HD:=lH hd;clear ho hd hg;refine Hid.out ?_)
  refine lH ?_;simp only[Nat.zero_add,List.nil_append] at HO ⊢;go_wp2;go_ret;exact⟨_,_,_,rfl,Own.reads (⟨by rw[HL.out];exact HO.out,HR.out.2.2.1⟩:Own js 144 W1 w.heap.size (.slice (some ⟨g1,0,none⟩) len k1) l),(fun b o s e=>by cases e;exact(HO.out.lt g1 rfl).1),Below.trans (ja w _) HD.out⟩
theorem jjF (a:Option Addr) (len cap:Nat) (l:NL) (w:World) (hr:jr jq w a len l) (hc:len≤cap) (hm:cap≤maxLen) (hn:len≤1000000) :
 Calls Tryz.prog 280 #[.slice a len cap] w fun e w'=>∃a' m' c',e=.returned (.slice a' m' c')∧Reads jq w' (.slice a' m' c') l∧(∀b off sp,a'=some ⟨b,off,sp⟩→w.heap.size≤b)∧Kept w w':=by
 have hl:=hr.1;have q22:∀(w:World) (a:Option Addr) (n c n' c':Nat),(binOp .eql 40 (.slice a n c) (.slice none n' c')).run Tryz.prog w=.ok (.bool a.isNone) w:=fun w a n c n' c'=>Lib.run_eql_slice_nil w _ _ a n c n' c' Tryz.underlying40
 cases a with
 | none =>
  have h0:len=0:=by
   rcases hr.form with h | ⟨b,off,h⟩
   · exact h
   · cases h
  subst h0;have hl0:l=[]:=List.eq_nil_of_length_eq_zero hl;subst hl0;clear hr hl;go_enter Tryz.func280,Tryz.ntmps280;go_wp2;go_ret;exact⟨none,0,0,rfl,Reads.nil _,(fun b o s e=>by cases e),Kept.refl _⟩
 | some ad =>
  have HR:=lH hr;have HL:=lH hl;have hrl:(jd jq l).length=len*3:=by rw[JB,hl];rfl
  have hb1:0+len≤maxLen:=by unfold maxLen;omega
  have hb2:((0+len)+(0+len) / 4+192)*40≤281474976710656:=by omega
  clear hr hl;go_enter Tryz.func280,Tryz.ntmps280;go_wp2_with (at_builtin;refine XK joV _ rfl (.tmp 5) (.tmp 6) rfl w.heap.size (by simp) w.heap.size 0 0 [] rfl (jbT w w.heap.size 3 _ (Nat.le_refl _)) _ len (jd jq l) rfl hrl (YB _ _) (jr.src (HR.out.kept (ja _ _))) hb1 hb2 ?_;intro g1 k1 W1 ho hd hg;have HO:=lH ho;have HD:=lH hd;clear ho hd hg;refine Hid.out ?_)
  refine lH ?_;simp only[Nat.zero_add,List.nil_append] at HO ⊢;go_wp2;go_ret;exact⟨_,_,_,rfl,Own.reads (⟨by rw[HL.out];exact HO.out,HR.out.2.2.1⟩:Own jq 148 W1 w.heap.size (.slice (some ⟨g1,0,none⟩) len k1) l),(fun b o s e=>by cases e;exact(HO.out.lt g1 rfl).1),Below.trans (ja w _) HD.out⟩
theorem jiI (a:Option Addr) (len cap:Nat) (l:Vec.V) (w:World) (hr:Vec.jt w a len l) (hc:len≤cap) (hm:cap≤maxLen) (hn:len≤1000000) :
 Calls Tryz.prog 278 #[.slice a len cap] w fun e w'=>∃a' m' c',e=.returned (.slice a' m' c')∧Vec.Reads w' (.slice a' m' c') l∧(∀b off sp,a'=some ⟨b,off,sp⟩→w.heap.size≤b)∧Kept w w':=by
 have hl:=hr.1;have q22:∀(w:World) (a:Option Addr) (n c n' c':Nat),(binOp .eql 37 (.slice a n c) (.slice none n' c')).run Tryz.prog w=.ok (.bool a.isNone) w:=fun w a n c n' c'=>Lib.run_eql_slice_nil w _ _ a n c n' c' Tryz.underlying37
 cases a with
 | none =>
  have h0:len=0:=by
   rcases hr.form with h | ⟨b,off,h⟩
   · exact h
   · cases h
  subst h0;have hl0:l=[]:=List.eq_nil_of_length_eq_zero hl;subst hl0;clear hr hl;go_enter Tryz.func278,Tryz.ntmps278;go_wp2;go_ret;exact⟨none,0,0,rfl,Vec.Reads.nil _,(fun b o s e=>by cases e),Kept.refl _⟩
 | some ad =>
  have HR:=lH hr;have HL:=lH hl;have hrl:(Vec.cellsOf l).length=len*2:=by rw[Vec.XF,hl]
  have hb1:0+len≤maxLen:=by unfold maxLen;omega
  have hb2:((0+len)+(0+len) / 4+192)*24≤281474976710656:=by omega
  clear hr hl;go_enter Tryz.func278,Tryz.ntmps278;go_wp2_with (at_builtin;refine XK joH _ rfl (.tmp 5) (.tmp 6) rfl w.heap.size (by simp) w.heap.size 0 0 [] rfl (jbT w w.heap.size 2 _ (Nat.le_refl _)) _ len (Vec.cellsOf l) rfl hrl (Vec.Yq _) (jmZ (HR.out.kept (ja _ _))) hb1 hb2 ?_;intro g1 k1 W1 ho hd hg;have HO:=lH ho;have HD:=lH hd;clear ho hd hg;refine Hid.out ?_)
  refine lH ?_;simp only[Nat.zero_add,List.nil_append] at HO ⊢;go_wp2;go_ret;exact⟨_,_,_,rfl,Vec.jH.reads (⟨by rw[HL.out];exact HO.out,HR.out.2.2.1⟩:Vec.jH 140 W1 w.heap.size (.slice (some ⟨g1,0,none⟩) len k1) l),(fun b o s e=>by cases e;exact(HO.out.lt g1 rfl).1),Below.trans (ja w _) HD.out⟩
def zU (q:Nat) (v0 v1 v2 v3 v4:Value) (W:World):Prop :=
 (W.cell? ⟨q,0,none⟩=some v0∧W.cell? ⟨q,1,none⟩=some v1∧W.cell? ⟨q,2,none⟩=some v2∧W.cell? ⟨q,3,none⟩=some v3∧W.cell? ⟨q,4,none⟩=some v4) ∧
  W.frozen? ⟨q,0,none⟩=false∧W.frozen? ⟨q,1,none⟩=false∧W.frozen? ⟨q,2,none⟩=false∧W.frozen? ⟨q,3,none⟩=false∧W.frozen? ⟨q,4,none⟩=false
theorem zU.block {q:Nat} {v0 v1 v2 v3 v4:Value} {W W':World} (h:zU q v0 v1 v2 v3 v4 W) (e:W'.heap[q]?=W.heap[q]?):zU q v0 v1 v2 v3 v4 W':=by
 have c:∀j,W'.cell? ⟨q,j,none⟩=W.cell? ⟨q,j,none⟩:=fun j=>World.cell?_of_block (a:=⟨q,j,none⟩) e;have f:∀j,W'.frozen? ⟨q,j,none⟩=W.frozen? ⟨q,j,none⟩:=fun j=>World.frozen?_of_block (a:=⟨q,j,none⟩) e;unfold zU;simp only[c,f];exact h
theorem zU.kept {q:Nat} {v0 v1 v2 v3 v4:Value} {W W':World} (h:zU q v0 v1 v2 v3 v4 W) (k:Kept W W'):zU q v0 v1 v2 v3 v4 W':=h.block (k.block q (World.block_lt_of_cell? _ _ h.1.1))
theorem zU.other {q p j:Nat} {v0 v1 v2 v3 v4 u:Value} {W:World} (h:zU q v0 v1 v2 v3 v4 W) (hp:q≠p):zU q v0 v1 v2 v3 v4 (W.setCell ⟨p,j,none⟩ u):=h.block (Below.heap_setCell W ⟨p,j,none⟩ u q hp)
theorem zU.set1 {q:Nat} {v0 v1 v2 v3 v4:Value} {W:World} (h:zU q v0 v1 v2 v3 v4 W) (u:Value):zU q v0 u v2 v3 v4 (W.setCell ⟨q,1,none⟩ u):=by
 obtain⟨⟨y0,y1,y2,y3,y4⟩,x0,x1,x2,x3,x4⟩:=h;refine⟨⟨?_,?_,?_,?_,?_⟩,?_,?_,?_,?_,?_⟩<;>go_simp
theorem zU.set2 {q:Nat} {v0 v1 v2 v3 v4:Value} {W:World} (h:zU q v0 v1 v2 v3 v4 W) (u:Value):zU q v0 v1 u v3 v4 (W.setCell ⟨q,2,none⟩ u):=by
 obtain⟨⟨y0,y1,y2,y3,y4⟩,x0,x1,x2,x3,x4⟩:=h;refine⟨⟨?_,?_,?_,?_,?_⟩,?_,?_,?_,?_,?_⟩<;>go_simp
theorem zU.set3 {q:Nat} {v0 v1 v2 v3 v4:Value} {W:World} (h:zU q v0 v1 v2 v3 v4 W) (u:Value):zU q v0 v1 v2 u v4 (W.setCell ⟨q,3,none⟩ u):=by
 obtain⟨⟨y0,y1,y2,y3,y4⟩,x0,x1,x2,x3,x4⟩:=h;refine⟨⟨?_,?_,?_,?_,?_⟩,?_,?_,?_,?_,?_⟩<;>go_simp
theorem Zr {α:Type} {L:Lay α} {B p j:Nat} {u:Value} {w:World} {a:Option Addr} {m c:Nat} {l:List α} (h:Reads L w (.slice a m c) l) (g:∀b off sp,a=some ⟨b,off,sp⟩→B≤b) (hp:p<B):Reads L (w.setCell ⟨p,j,none⟩ u) (.slice a m c) l :=
 h.far (by simp[World.setCell]) (fun b o s e=>Below.heap_setCell w ⟨p,j,none⟩ u b (show b≠p by have:=g b o s e;omega))
theorem Yz {B p j:Nat} {u:Value} {w:World} {a:Option Addr} {m c:Nat} {l:Vec.V} (h:Vec.Reads w (.slice a m c) l) (g:∀b off sp,a=some ⟨b,off,sp⟩→B≤b) (hp:p<B):Vec.Reads (w.setCell ⟨p,j,none⟩ u) (.slice a m c) l :=
 h.far (by simp[World.setCell]) (fun b o s e=>Below.heap_setCell w ⟨p,j,none⟩ u b (show b≠p by have:=g b o s e;omega))
structure zO (n:Nod):Prop where
 cap:n.cap.length≤1000000
 labels:n.labels.length≤1000000
 taints:n.taints.length≤1000000
theorem jbO (n:Nod) (a1 a2 a3:Option Addr) (m1 c1 m2 c2 m3 c3:Nat) (w:World) (h:Jo w (.slice a1 m1 c1) (.slice a2 m2 c2) (.slice a3 m3 c3) n) (hl:zO n) :
 Calls Tryz.prog 243 #[.agg #[.string n.name,.slice a1 m1 c1,.slice a2 m2 c2,.slice a3 m3 c3,.bool n.cordon]] w fun e w'=>∃v,e=.returned v∧JJ w.heap.size w' v n∧Kept w w':=by
 have hsz:=h.size;obtain⟨x1,y1,e1,p1,q1,r1⟩:=h.cap
 cases e1
 obtain⟨x2,y2,e2,p2,q2,r2⟩:=h.labels
 cases e2
 obtain⟨x3,y3,e3,p3,q3,r3⟩:=h.taints
 cases e3
 have H1:=lH (fun W (k:Kept w W)=>jiI a1 n.cap.length c1 n.cap W (r1.kept k) p1 q1 hl.cap);have H2:=lH (fun W (k:Kept w W)=>jje a2 n.labels.length c2 n.labels W (r2.kept k) p2 q2 hl.labels);have H3:=lH (fun W (k:Kept w W)=>jjF a3 n.taints.length c3 n.taints W (r3.kept k) p3 q3 hl.taints);obtain⟨k1,hk1⟩:∃k,n.cap.length=k:=⟨_,rfl⟩
 obtain⟨k2,hk2⟩:∃k,n.labels.length=k:=⟨_,rfl⟩
 obtain⟨k3,hk3⟩:∃k,n.taints.length=k:=⟨_,rfl⟩
 obtain⟨x,hx⟩:∃x,n.name=x:=⟨_,rfl⟩
 obtain⟨cd,hcd⟩:∃x,n.cordon=x:=⟨_,rfl⟩
 have hxs:x.size≤maxLen:=by rw[←hx];exact hsz
 rw[hk1] at H1;rw[hk2] at H2;rw[hk3] at H3;rw[hk1,hk2,hk3,hx,hcd];have HX:=lH hx;have HCD:=lH hcd;clear h hl p1 q1 r1 p2 q2 r2 p3 q3 r3 hk1 hk2 hk3 hx hcd hsz;obtain⟨Z,hZ⟩:∃Z,(w.alloc (.cells #[.string x,.slice a1 k1 c1,.slice a2 k2 c2,.slice a3 k3 c3,.bool cd] 42)).alloc (.cells #[.string ⟨#[]⟩,.slice none 0 0,.slice none 0 0,.slice none 0 0,.bool false] 42)=Z:=⟨_,rfl⟩
 have hkz:Kept w Z:=by rw[←hZ];exact jk _ _ _
 have hzs:Z.heap.size=w.heap.size+2:=by rw[←hZ];simp
 have Q0:=lH (show zU w.heap.size (.string x) (.slice a1 k1 c1) (.slice a2 k2 c2) (.slice a3 k3 c3) (.bool cd) Z from YC w _ _ _ _ _ 42 Z (by rw[←hZ];exact ja _ _));have Q1:=lH (show zU (w.heap.size+1) (.string ⟨#[]⟩) (.slice none 0 0) (.slice none 0 0) (.slice none 0 0) (.bool false) Z by
  have:=YC (w.alloc (.cells #[.string x,.slice a1 k1 c1,.slice a2 k2 c2,.slice a3 k3 c3,.bool cd] 42)) (.string ⟨#[]⟩) (.slice none 0 0) (.slice none 0 0) (.slice none 0 0) (.bool false) 42 Z (by rw[hZ];exact Kept.refl _);rw[World.size_alloc] at this;exact this)
 have K:=lH hkz;have hs0:w.heap.size+2≤Z.heap.size:=by omega
 clear hkz hzs;obtain⟨⟨y0,y1,y2,y3,y4⟩,x0,x1,x2,x3,x4⟩:=Q0.out;go_enter Tryz.func243,Tryz.ntmps243;go_wp2_with fail
 try rw[hZ]
 clear hZ;clear y0 y1 y2 y3 y4 x0 x1 x2 x3 x4;refine(H1.out _ K.out).mono ?_;rintro e w1 ⟨b1,n1,d1,rfl,rr,gg,k⟩;have HBA:=lH (show ∀b off sp,b1=some ⟨b,off,sp⟩→w.heap.size+2≤b from fun b o s e=>by have:=gg b o s e;omega);have RA:=lH rr;have K:=lH (K.out.trans k);have hs1:w.heap.size+2≤w1.heap.size:=by have:=k.size;omega
 have Q0:=lH (Q0.out.kept k);have Q1:=lH (Q1.out.kept k);clear rr gg k hs0;obtain⟨⟨y0,y1,y2,y3,y4⟩,x0,x1,x2,x3,x4⟩:=Q0.out;have Q0:=lH (Q0.out.set1 (.slice b1 n1 d1));have Q1:=lH (Q1.out.other (p:=w.heap.size) (j:=1) (u:=.slice b1 n1 d1) (by omega));have RA:=lH (Yz (p:=w.heap.size) (j:=1) (u:=.slice b1 n1 d1) RA.out HBA.out (by omega));have K:=lH (show Kept w (w1.setCell ⟨w.heap.size,1,none⟩ (.slice b1 n1 d1)) from K.out.setCell (p:=⟨w.heap.size,1,none⟩) (Nat.le_refl _) _);have hs0:w.heap.size+2≤(w1.setCell ⟨w.heap.size,1,none⟩ (.slice b1 n1 d1)).heap.size:=by simpa [World.setCell] using hs1
 clear hs1;obtain⟨⟨z0,z1,z2,z3,z4⟩,-⟩:=Q0.out;go_wp2_with fail
 clear y0 y1 y2 y3 y4 x0 x1 x2 x3 x4 z0 z1 z2 z3 z4;obtain⟨W1,hW1⟩:∃W,w1.setCell ⟨w.heap.size,1,none⟩ (.slice b1 n1 d1)=W:=⟨_,rfl⟩
 rw[hW1] at Q0 Q1 RA K hs0 ⊢;clear hW1;refine(H2.out _ K.out).mono ?_;rintro e w2 ⟨b2,n2,d2,rfl,rr,gg,k⟩;have HBB:=lH (show ∀b off sp,b2=some ⟨b,off,sp⟩→w.heap.size+2≤b from fun b o s e=>by have:=gg b o s e;omega);have RB:=lH rr;have K:=lH (K.out.trans k);have hs1:w.heap.size+2≤w2.heap.size:=by have:=k.size;omega
 have Q0:=lH (Q0.out.kept k);have Q1:=lH (Q1.out.kept k);have RA:=lH (RA.out.kept k);clear rr gg k hs0;obtain⟨⟨y0,y1,y2,y3,y4⟩,x0,x1,x2,x3,x4⟩:=Q0.out;have Q0:=lH (Q0.out.set2 (.slice b2 n2 d2));have Q1:=lH (Q1.out.other (p:=w.heap.size) (j:=2) (u:=.slice b2 n2 d2) (by omega));have RA:=lH (Yz (p:=w.heap.size) (j:=2) (u:=.slice b2 n2 d2) RA.out HBA.out (by omega));have RB:=lH (Zr (p:=w.heap.size) (j:=2) (u:=.slice b2 n2 d2) RB.out HBB.out (by omega));have K:=lH (show Kept w (w2.setCell ⟨w.heap.size,2,none⟩ (.slice b2 n2 d2)) from K.out.setCell (p:=⟨w.heap.size,2,none⟩) (Nat.le_refl _) _);have hs0:w.heap.size+2≤(w2.setCell ⟨w.heap.size,2,none⟩ (.slice b2 n2 d2)).heap.size:=by simpa [World.setCell] using hs1
 clear hs1;obtain⟨⟨z0,z1,z2,z3,z4⟩,-⟩:=Q0.out;go_wp2_with fail
 clear y0 y1 y2 y3 y4 x0 x1 x2 x3 x4 z0 z1 z2 z3 z4;obtain⟨W2,hW2⟩:∃W,w2.setCell ⟨w.heap.size,2,none⟩ (.slice b2 n2 d2)=W:=⟨_,rfl⟩
 rw[hW2] at Q0 Q1 RA RB K hs0 ⊢;clear hW2;refine(H3.out _ K.out).mono ?_;rintro e w3 ⟨b3,n3,d3,rfl,rr,gg,k⟩;have HBC:=lH (show ∀b off sp,b3=some ⟨b,off,sp⟩→w.heap.size+2≤b from fun b o s e=>by have:=gg b o s e;omega);have RC:=lH rr;have K:=lH (K.out.trans k);have hs1:w.heap.size+2≤w3.heap.size:=by have:=k.size;omega
 have Q0:=lH (Q0.out.kept k);have Q1:=lH (Q1.out.kept k);have RA:=lH (RA.out.kept k);have RB:=lH (RB.out.kept k);clear rr gg k hs0;obtain⟨⟨y0,y1,y2,y3,y4⟩,x0,x1,x2,x3,x4⟩:=Q0.out;have Q0:=lH (Q0.out.set3 (.slice b3 n3 d3));have Q1:=lH (Q1.out.other (p:=w.heap.size) (j:=3) (u:=.slice b3 n3 d3) (by omega));have RA:=lH (Yz (p:=w.heap.size) (j:=3) (u:=.slice b3 n3 d3) RA.out HBA.out (by omega));have RB:=lH (Zr (p:=w.heap.size) (j:=3) (u:=.slice b3 n3 d3) RB.out HBB.out (by omega));have RC:=lH (Zr (p:=w.heap.size) (j:=3) (u:=.slice b3 n3 d3) RC.out HBC.out (by omega));have K:=lH (show Kept w (w3.setCell ⟨w.heap.size,3,none⟩ (.slice b3 n3 d3)) from K.out.setCell (p:=⟨w.heap.size,3,none⟩) (Nat.le_refl _) _);have hs0:w.heap.size+2≤(w3.setCell ⟨w.heap.size,3,none⟩ (.slice b3 n3 d3)).heap.size:=by simpa [World.setCell] using hs1
 clear hs1;obtain⟨⟨z0,z1,z2,z3,z4⟩,-⟩:=Q0.out;obtain⟨⟨g0,g1,g2,g3,g4⟩,f0,f1,f2,f3,f4⟩:=Q1.out;go_wp2;have P:=lH (Xk ⟨g0,g1,g2,g3,g4⟩ x b1 b2 b3 n1 d1 n2 d2 n3 d3 cd);clear y0 y1 y2 y3 y4 x0 x1 x2 x3 x4 z0 z1 z2 z3 z4 g0 g1 g2 g3 g4 f0 f1 f2 f3 f4;obtain⟨W3,hW3⟩:∃W,w3.setCell ⟨w.heap.size,3,none⟩ (.slice b3 n3 d3)=W:=⟨_,rfl⟩
 rw[hW3] at RA RB RC K hs0 P ⊢;obtain⟨WE,hWE⟩:∃W,(((((W3.setCell ⟨w.heap.size+1,0,none⟩ (.string x)).setCell ⟨w.heap.size+1,1,none⟩ (.slice b1 n1 d1)).setCell ⟨w.heap.size+1,2,none⟩ (.slice b2 n2 d2)).setCell ⟨w.heap.size+1,3,none⟩ (.slice b3 n3 d3)).setCell ⟨w.heap.size+1,4,none⟩ (.bool cd))=W:=⟨_,rfl⟩
 rw[hWE] at P ⊢;clear hWE hW3;obtain⟨⟨e0,e1,e2,e3,e4⟩,hsz,hbl,hkp⟩:=P.out;refine bodyPost_ret (by simp[results,Tryz.results243,go_sem,e0,e1,e2,e3,e4];try rfl) rfl ?_;exact⟨_,rfl,⟨b1,n1,d1,b2,n2,d2,b3,n3,d3,by rw[HX.out,HCD.out],by rw[HX.out];exact hxs,RA.out.far hsz (fun b o s e=>hbl b (by have:=HBA.out b o s e;omega)),RB.out.far hsz (fun b o s e=>hbl b (by have:=HBB.out b o s e;omega)),RC.out.far hsz (fun b o s e=>hbl b (by have:=HBC.out b o s e;omega)),fun b o s e=>Nat.le_trans (Nat.le_add_right _ 2) (HBA.out b o s e),fun b o s e=>Nat.le_trans (Nat.le_add_right _ 2) (HBB.out b o s e),fun b o s e=>Nat.le_trans (Nat.le_add_right _ 2) (HBC.out b o s e)⟩,hkp _ _ (Nat.le_succ _) K.out⟩
def j0 (w:World) (a:Option Addr) (len:Nat) (l:List Nod):Prop :=
 l.length=len∧len≤maxLen∧(len=0∨∃b off,a=some ⟨b,off,none⟩∧b<w.heap.size∧∀i n,l[i]?=some n→∃a1 m1 c1 a2 m2 c2 a3 m3 c3,
  w.cell? ⟨b,off+i*5,none⟩=some (.string n.name)∧w.cell? ⟨b,off+i*5+1,none⟩=some (.slice a1 m1 c1)∧w.cell? ⟨b,off+i*5+2,none⟩=some (.slice a2 m2 c2)∧w.cell? ⟨b,off+i*5+3,none⟩=some (.slice a3 m3 c3)∧w.cell? ⟨b,off+i*5+4,none⟩=some (.bool n.cordon) ∧
  Jo w (.slice a1 m1 c1) (.slice a2 m2 c2) (.slice a3 m3 c3) n)
theorem j0.kept {w w':World} {a:Option Addr} {len:Nat} {l:List Nod} (h:j0 w a len l) (k:Kept w w'):j0 w' a len l:=by
 obtain⟨h0,h1,h2⟩:=h;refine⟨h0,h1,h2.imp id ?_⟩;rintro ⟨b,off,rfl,hb,hc⟩;refine⟨b,off,rfl,Nat.lt_of_lt_of_le hb k.size,fun i n hi=>?_⟩;obtain⟨a1,m1,c1,a2,m2,c2,a3,m3,c3,p0,p1,p2,p3,p4,hn⟩:=hc i n hi;exact⟨a1,m1,c1,a2,m2,c2,a3,m3,c3,cell_later k p0,cell_later k p1,cell_later k p2,cell_later k p3,cell_later k p4,hn.kept k⟩
theorem j0.form {w:World} {a:Option Addr} {len:Nat} {l:List Nod} (h:j0 w a len l):len=0∨∃b off,a=some ⟨b,off,none⟩:=by
 obtain⟨_,_,h2⟩:=h;exact h2.imp id fun ⟨b,off,e,_⟩=>⟨b,off,e⟩
theorem j0.at_ {w:World} {b off len:Nat} {l:List Nod} {k:Nat} (h:j0 w (some ⟨b,off,none⟩) len l) (hk:k<len):∃n a1 m1 c1 a2 m2 c2 a3 m3 c3,l[k]?=some n∧l.drop k=n::l.drop (k+1)∧b<w.heap.size ∧
 w.cell? ⟨b,off+k*5,none⟩=some (.string n.name)∧w.cell? ⟨b,off+k*5+1,none⟩=some (.slice a1 m1 c1)∧w.cell? ⟨b,off+k*5+2,none⟩=some (.slice a2 m2 c2)∧w.cell? ⟨b,off+k*5+3,none⟩=some (.slice a3 m3 c3)∧w.cell? ⟨b,off+k*5+4,none⟩=some (.bool n.cordon) ∧
 Jo w (.slice a1 m1 c1) (.slice a2 m2 c2) (.slice a3 m3 c3) n:=by
 obtain⟨h0,_,h3⟩:=h;have hkl:k<l.length:=by omega
 rcases h3 with h3 | ⟨b',off',e,hb,hc⟩
 · omega
 · injection e with e;injection e with e1 e2 e3;subst e1;subst e2;have he:l[k]?=some l[k]:=List.getElem?_eq_getElem hkl;obtain⟨a1,m1,c1,a2,m2,c2,a3,m3,c3,r⟩:=hc k _ he;exact⟨l[k],a1,m1,c1,a2,m2,c2,a3,m3,c3,he,List.drop_eq_getElem_cons hkl,hb,r⟩
def Zf (w:World) (v:Value) (l:List Nod):Prop:=∃a cap,v=.slice a l.length cap∧l.length≤cap∧cap≤maxLen∧j0 w a l.length l
theorem Zf.kept {w w':World} {v:Value} {l:List Nod} (h:Zf w v l) (k:Kept w w'):Zf w' v l:=by
 obtain⟨a,cap,e,h1,h2,h3⟩:=h;exact⟨a,cap,e,h1,h2,h3.kept k⟩
def j2 (B:Nat) (a:Option Addr):Prop:=∀b off sp,a=some ⟨b,off,sp⟩→B≤b
theorem j2.less {B B':Nat} {a:Option Addr} (h:j2 B a) (hb:B'≤B):j2 B' a:=fun b o s e=>Nat.le_trans hb (h b o s e)
theorem j2.none (B:Nat):j2 B none:=fun _ _ _ e=>by cases e
def ZT (B:Nat) (w:World) (v:Value) (n:Pd):Prop:=∃b1 n1 d1 b2 n2 d2 b3 n3 d3 b4 n4 d4,v=JQ n (.slice b1 n1 d1) (.slice b2 n2 d2) (.slice b3 n3 d3) (.slice b4 n4 d4)∧zl w (.slice b1 n1 d1) (.slice b2 n2 d2) (.slice b3 n3 d3) (.slice b4 n4 d4) n∧j2 B b1∧j2 B b2∧j2 B b3∧j2 B b4
theorem ZT.toR {B:Nat} {w:World} {v:Value} {n:Pd} (h:ZT B w v n):jf7 w v n:=by
 obtain⟨b1,n1,d1,b2,n2,d2,b3,n3,d3,b4,n4,d4,e,h,_⟩:=h;exact⟨_,_,_,_,e,h⟩
theorem zl.far {B:Nat} {w w':World} {n:Pd} {b1 b2 b3 b4:Option Addr} {n1 d1 n2 d2 n3 d3 n4 d4:Nat} (h:zl w (.slice b1 n1 d1) (.slice b2 n2 d2) (.slice b3 n3 d3) (.slice b4 n4 d4) n) (hs:w'.heap.size=w.heap.size) (hb:∀b,B≤b→w'.heap[b]?=w.heap[b]?) (g1:j2 B b1) (g2:j2 B b2) (g3:j2 B b3) (g4:j2 B b4):zl w' (.slice b1 n1 d1) (.slice b2 n2 d2) (.slice b3 n3 d3) (.slice b4 n4 d4) n :=
 ⟨h.name,h.owner,h.key,h.node,h.prio,h.most,h.need.far hs (fun b o s e=>hb b (g1 b o s e)),h.labels.far hs (fun b o s e=>hb b (g2 b o s e)),h.sel.far hs (fun b o s e=>hb b (g3 b o s e)),h.tols.far hs (fun b o s e=>hb b (g4 b o s e))⟩
theorem ZT.far {B:Nat} {w w':World} {v:Value} {n:Pd} (h:ZT B w v n) (hs:w'.heap.size=w.heap.size) (hb:∀b,B≤b→w'.heap[b]?=w.heap[b]?):ZT B w' v n:=by
 obtain⟨b1,n1,d1,b2,n2,d2,b3,n3,d3,b4,n4,d4,e,h,g1,g2,g3,g4⟩:=h;exact⟨b1,n1,d1,b2,n2,d2,b3,n3,d3,b4,n4,d4,e,h.far hs hb g1 g2 g3 g4,g1,g2,g3,g4⟩
theorem ZT.less {B B':Nat} {w:World} {v:Value} {n:Pd} (h:ZT B w v n) (hb:B'≤B):ZT B' w v n:=by
 obtain⟨b1,n1,d1,b2,n2,d2,b3,n3,d3,b4,n4,d4,e,h,g1,g2,g3,g4⟩:=h;exact⟨b1,n1,d1,b2,n2,d2,b3,n3,d3,b4,n4,d4,e,h,g1.less hb,g2.less hb,g3.less hb,g4.less hb⟩
theorem ZT.kept {B:Nat} {w w':World} {v:Value} {n:Pd} (h:ZT B w v n) (k:Kept w w'):ZT B w' v n:=by
 obtain⟨b1,n1,d1,b2,n2,d2,b3,n3,d3,b4,n4,d4,e,h,g1,g2,g3,g4⟩:=h;exact⟨b1,n1,d1,b2,n2,d2,b3,n3,d3,b4,n4,d4,e,h.kept k,g1,g2,g3,g4⟩
theorem jnn (w:World):zl w (.slice none 0 0) (.slice none 0 0) (.slice none 0 0) (.slice none 0 0) Pd.zero :=
 ⟨(by decide:(0:Nat)≤maxLen),(by decide:(0:Nat)≤maxLen),(by decide:(0:Nat)≤maxLen),(by decide:(0:Nat)≤maxLen),by decide,by decide,Vec.Reads.nil w,Reads.nil w,Reads.nil w,Reads.nil w⟩
theorem jh2 (B:Nat) (w:World):ZT B w (.agg #[.string ⟨#[]⟩,.string ⟨#[]⟩,.int .i64 0,.slice none 0 0,.slice none 0 0,.slice none 0 0,.slice none 0 0,.string ⟨#[]⟩,.int .i64 0,.string ⟨#[]⟩,.bool false]) Pd.zero :=
 ⟨none,0,0,none,0,0,none,0,0,none,0,0,rfl,jnn w,j2.none B,j2.none B,j2.none B,j2.none B⟩
theorem zl.spelt {w:World} {v1 v2 v3 v4:Value} {n:Pd} (h:zl w v1 v2 v3 v4 n):∃b1 n1 d1 b2 n2 d2 b3 n3 d3 b4 n4 d4,v1=.slice b1 n1 d1∧v2=.slice b2 n2 d2∧v3=.slice b3 n3 d3∧v4=.slice b4 n4 d4:=by
 obtain⟨a1,c1,e1,_⟩:=h.need;obtain⟨a2,c2,e2,_⟩:=h.labels;obtain⟨a3,c3,e3,_⟩:=h.sel;obtain⟨a4,c4,e4,_⟩:=h.tols;exact⟨_,_,_,_,_,_,_,_,_,_,_,_,e1,e2,e3,e4⟩
structure jdZ (n:Pd):Prop where
 need:n.need.length≤1000000
 labels:n.labels.length≤1000000
 sel:n.sel.length≤1000000
 tols:n.tols.length≤1000000
def Jd (w:World) (a:Option Addr) (len:Nat) (l:List Pd):Prop :=
 l.length=len∧len≤maxLen∧(len=0∨∃b off,a=some ⟨b,off,none⟩∧b<w.heap.size∧∀i n,l[i]?=some n→∃v1 v2 v3 v4,
  w.cell? ⟨b,off+i*11,none⟩=some (.string n.name)∧w.cell? ⟨b,off+i*11+1,none⟩=some (.string n.owner)∧w.cell? ⟨b,off+i*11+2,none⟩=some (.int .i64 n.prio)∧w.cell? ⟨b,off+i*11+3,none⟩=some (v1)∧w.cell? ⟨b,off+i*11+4,none⟩=some (v2)∧w.cell? ⟨b,off+i*11+5,none⟩=some (v3)∧w.cell? ⟨b,off+i*11+6,none⟩=some (v4)∧w.cell? ⟨b,off+i*11+7,none⟩=some (.string n.key)∧w.cell? ⟨b,off+i*11+8,none⟩=some (.int .i64 n.most)∧w.cell? ⟨b,off+i*11+9,none⟩=some (.string n.node)∧w.cell? ⟨b,off+i*11+10,none⟩=some (.bool n.hold)∧zl w v1 v2 v3 v4 n)
theorem Jd.kept {w w':World} {a:Option Addr} {len:Nat} {l:List Pd} (h:Jd w a len l) (k:Kept w w'):Jd w' a len l:=by
 obtain⟨h0,h1,h2⟩:=h;refine⟨h0,h1,h2.imp id ?_⟩;rintro ⟨b,off,rfl,hb,hc⟩;refine⟨b,off,rfl,Nat.lt_of_lt_of_le hb k.size,fun i n hi=>?_⟩;obtain⟨v1,v2,v3,v4,p0,p1,p2,p3,p4,p5,p6,p7,p8,p9,p10,hn⟩:=hc i n hi;exact⟨v1,v2,v3,v4,cell_later k p0,cell_later k p1,cell_later k p2,cell_later k p3,cell_later k p4,cell_later k p5,cell_later k p6,cell_later k p7,cell_later k p8,cell_later k p9,cell_later k p10,hn.kept k⟩
theorem Jd.form {w:World} {a:Option Addr} {len:Nat} {l:List Pd} (h:Jd w a len l):len=0∨∃b off,a=some ⟨b,off,none⟩:=by
 obtain⟨_,_,h2⟩:=h;exact h2.imp id fun ⟨b,off,e,_⟩=>⟨b,off,e⟩
theorem Jd.at_ {w:World} {b off len:Nat} {l:List Pd} {k:Nat} (h:Jd w (some ⟨b,off,none⟩) len l) (hk:k<len):∃n a1 m1 c1 a2 m2 c2 a3 m3 c3 a4 m4 c4,l[k]?=some n∧l.drop k=n::l.drop (k+1)∧b<w.heap.size ∧
 w.cell? ⟨b,off+k*11,none⟩=some (.string n.name)∧w.cell? ⟨b,off+k*11+1,none⟩=some (.string n.owner)∧w.cell? ⟨b,off+k*11+2,none⟩=some (.int .i64 n.prio)∧w.cell? ⟨b,off+k*11+3,none⟩=some (.slice a1 m1 c1)∧w.cell? ⟨b,off+k*11+4,none⟩=some (.slice a2 m2 c2)∧w.cell? ⟨b,off+k*11+5,none⟩=some (.slice a3 m3 c3)∧w.cell? ⟨b,off+k*11+6,none⟩=some (.slice a4 m4 c4)∧w.cell? ⟨b,off+k*11+7,none⟩=some (.string n.key)∧w.cell? ⟨b,off+k*11+8,none⟩=some (.int .i64 n.most)∧w.cell? ⟨b,off+k*11+9,none⟩=some (.string n.node)∧w.cell? ⟨b,off+k*11+10,none⟩=some (.bool n.hold)∧zl w (.slice a1 m1 c1) (.slice a2 m2 c2) (.slice a3 m3 c3) (.slice a4 m4 c4) n:=by
 obtain⟨h0,_,h3⟩:=h;have hkl:k<l.length:=by omega
 rcases h3 with h3 | ⟨b',off',e,hb,hc⟩
 · omega
 · injection e with e;injection e with e1 e2 e3;subst e1;subst e2;have he:l[k]?=some l[k]:=List.getElem?_eq_getElem hkl;obtain⟨v1,v2,v3,v4,r⟩:=hc k _ he;obtain⟨a1,m1,c1,a2,m2,c2,a3,m3,c3,a4,m4,c4,rfl,rfl,rfl,rfl⟩:=zl.spelt r.2.2.2.2.2.2.2.2.2.2.2;exact⟨l[k],a1,m1,c1,a2,m2,c2,a3,m3,c3,a4,m4,c4,he,List.drop_eq_getElem_cons hkl,hb,r⟩
def Yw (w:World) (v:Value) (l:List Pd):Prop:=∃a cap,v=.slice a l.length cap∧l.length≤cap∧cap≤maxLen∧Jd w a l.length l
theorem Yw.kept {w w':World} {v:Value} {l:List Pd} (h:Yw w v l) (k:Kept w w'):Yw w' v l:=by
 obtain⟨a,cap,e,h1,h2,h3⟩:=h;exact⟨a,cap,e,h1,h2,h3.kept k⟩
structure Jf (w:World):Prop extends Vec.EnvT w where
 bad:∃ev,w.cell? ⟨4,0,none⟩=some ev∧(ev=.nilIface∨∃te pe,ev=.iface te pe)
theorem Jf.kept {w w':World} (h:Jf w) (k:Kept w w'):Jf w':=by
 obtain⟨h1,ev,hv,h2⟩:=h;exact⟨h1.kept k,ev,cell_later k hv,h2⟩
def X8 (p:List UInt8):Option Int:=if Vec.zT p=true∧Vec.valL p≤2147483647 then some (Vec.valL p:Int) else none
def jaY (p:List UInt8):Option Int:=if p=[45,49] then some (-1) else X8 p
def jbu (p:List UInt8):Option ByteArray:=if p=[] then none else if p=[45] then some ByteArray.empty else some (bytes p)
def XN (p:List UInt8):Option (ByteArray×Int):=if p=[45] then some (ByteArray.empty,0) else if (Lib.cut p [47]).1=[] then none else (X8 (Lib.cut p [47]).2.1).map fun m=>(bytes (Lib.cut p [47]).1,m)
def jde:List UInt8:=[104,111,108,100]
def jft:List UInt8:=[114,101,97,108]
def jfx (p:List UInt8):Option Bool:=if p=jde then some true else if p=jft then some false else none
theorem jhy {l:List UInt8} (h:Vec.zT l=true) (hv:Vec.valL l≤2147483647):Lib.parseIntB 32 l=.ok (Vec.valL l:Int):=by
 cases l with
 | nil=>cases h
 | cons c t =>
  rw[Vec.ZN,Bool.and_eq_true] at h;have hc:Vec.zs c=true:=by have:=h.2;simp only[List.all_cons,Bool.and_eq_true] at this;exact this.1
  have hd:=Vec.Xb hc;have hu:Lib.parseUintB 32 (c::t)=.ok (Vec.valL (c::t)):=by
   unfold Lib.parseUintB;rw[if_neg (by simp)];have e:=Vec.qx (2 ^ 32-1) (by decide) (c::t) 0 h.2 (by omega);have hq:Vec.J9 0 (c::t)≤2 ^ 32-1:=by have:Vec.valL (c::t)=Vec.J9 0 (c::t):=rfl;omega
   rw[e,if_pos hq];rfl
  unfold Lib.parseIntB;dsimp only;rw[if_neg (by omega),hu];dsimp only;rw[if_neg (by simp;omega),if_neg (by omega),if_neg (by omega)]
theorem jeO {p:List UInt8} {n:Int} (h:X8 p=some n):Vec.zT p=true∧Vec.valL p≤2147483647∧n=(Vec.valL p:Int):=by
 unfold X8 at h;split at h
 · rename_i g;exact⟨g.1,g.2,(Option.some.inj h).symm⟩
 · cases h
theorem jbU (p:List UInt8) (n:Int) (w:World) (hp:p.length≤1000000) (h:X8 p=some n) :
 Calls Tryz.prog 184 #[.string (bytes p)] w fun e w'=>e=.returned (.int .i64 n)∧Kept w w':=by
 obtain⟨h1,h2,h3⟩:=jeO h;have HZ:=lH (show (bytes p).size≤9223372036854775806 by rw[ji];omega);have HM:=lH (show (bytes p).size≤maxLen by rw[ji];unfold maxLen;omega);have HP:=lH (show Lib.parseIntB 32 (bytes p).data.toList=.ok (Vec.valL p:Int) by simp only[bytes];exact jhy h1 h2);have HD:=lH (show Vec.YM (bytes p)=true by unfold Vec.YM;simpa [bytes] using h1);have HN:=lH h3;clear h h1 h2 h3;go_enter Tryz.func184,Tryz.ntmps184;go_wp2_with fail
 refine(Tryz.strconv_ParseInt_10_at32_ok (bytes p) HZ.out _ HP.out _).mono ?_;rintro e w2 ⟨rfl,hw⟩;have K:=lH (show Kept w w2 by
  rcases hw with rfl | ⟨t,rfl⟩
  · exact Kept.refl _
  · exact Lib.bytesWorld_below _ _ _)
 clear hw;go_wp2_with fail
 refine(Vec.jem (bytes p) _ HM.out).mono ?_;rintro e w3 ⟨rfl,rfl⟩;rw[HD.out];go_wp2;go_ret;exact⟨jb HN.out.symm,K.out⟩
theorem jnh (p:List UInt8) (n:Int) (w:World) (hp:p.length≤1000000) (h:jaY p=some n) :
 Calls Tryz.prog 172 #[.string (bytes p)] w fun e w'=>e=.returned (.int .i64 n)∧Kept w w':=by
 have t:((bytes p).toList==[45,49])=(p==[45,49]):=by rw[jn]
 unfold jaY at h;by_cases z:p=[45,49]
 · rw[if_pos z] at h;obtain rfl:-1=n:=Option.some.inj h;rw[show (p==[45,49])=true from beq_iff_eq.2 z] at t;clear z h hp;go_enter Tryz.func172,Tryz.ntmps172;go_wp2;go_ret;exact⟨rfl,Kept.refl _⟩
 · rw[if_neg z] at h;have HN:=lH (fun W=>jbU p n W hp h);rw[show (p==[45,49])=false from beq_eq_false_iff_ne.2 z] at t;clear z h hp;go_enter Tryz.func172,Tryz.ntmps172;go_wp2_with fail
   refine(HN.out _).mono ?_;rintro e w2 ⟨rfl,k⟩;have K:=lH k;clear k;go_wp2;go_ret;exact⟨rfl,K.out⟩
theorem jnB (p:List UInt8) (b:Bool) (w:World) (h:jfx p=some b) :
 Calls Tryz.prog 173 #[.string (bytes p)] w fun e w'=>e=.returned (.bool b)∧w=w':=by
 have t1:((bytes p).toList==[104,111,108,100])=(p==jde):=by rw[jn];rfl
 have t2:((bytes p).toList==[114,101,97,108])=(p==jft):=by rw[jn];rfl
 unfold jfx at h;by_cases z:p=jde
 · rw[if_pos z] at h;obtain rfl:true=b:=Option.some.inj h;rw[show (p==jde)=true from beq_iff_eq.2 z] at t1;clear z h t2;go_enter Tryz.func173,Tryz.ntmps173;go_wp2;go_ret;exact⟨rfl,rfl⟩
 · rw[if_neg z] at h;by_cases y:p=jft
   · rw[if_pos y] at h;obtain rfl:false=b:=Option.some.inj h;rw[show (p==jde)=false from beq_eq_false_iff_ne.2 z] at t1;rw[show (p==jft)=true from beq_iff_eq.2 y] at t2;clear z y h;go_enter Tryz.func173,Tryz.ntmps173;go_wp2;go_ret;exact⟨rfl,rfl⟩
   · rw[if_neg y] at h;cases h
theorem jlm (p:List UInt8) (x:ByteArray) (w:World) (hp:p.length≤1000000) (h:jbu p=some x) :
 Calls Tryz.prog 175 #[.string (bytes p)] w fun e w'=>e=.returned (.string x)∧Kept w w':=by
 have t1:((bytes p).toList==([]:List UInt8))=(p==[]):=by rw[jn]
 have t2:((bytes p).toList==[45])=(p==[45]):=by rw[jn]
 unfold jbu at h;by_cases z:p=[]
 · rw[if_pos z] at h;cases h
 · rw[if_neg z] at h;rw[show (p==[])=false from beq_eq_false_iff_ne.2 z] at t1;by_cases y:p=[45]
   · rw[if_pos y] at h;obtain rfl:=Option.some.inj h;rw[show (p==[45])=true from beq_iff_eq.2 y] at t2;clear z y h hp;go_enter Tryz.func175,Tryz.ntmps175;go_wp2;go_ret;exact⟨rfl,Kept.refl _⟩
   · rw[if_neg y] at h;obtain rfl:=Option.some.inj h;rw[show (p==[45])=false from beq_eq_false_iff_ne.2 y] at t2;have HC:=lH (fun W=>Zp (bytes p) W (by rw[ji];omega));clear z y h hp;go_enter Tryz.func175,Tryz.ntmps175;go_wp2_with fail
     refine(HC.out _).mono ?_;rintro e w2 ⟨rfl,k⟩;have K:=lH k;clear k;go_wp2;go_ret;exact⟨rfl,K.out⟩
theorem jkG (p:List UInt8) (x:ByteArray) (m:Int) (w:World) (hE:Env w) (hp:p.length≤1000000) (h:XN p=some (x,m)) :
 Calls Tryz.prog 174 #[.string (bytes p)] w fun e w'=>e=.returned (.tuple #[.string x,.int .i64 m])∧Kept w w':=by
 have t1:((bytes p).toList==[45])=(p==[45]):=by rw[jn]
 have hlen:=Yl p [47];have HCT:=lH (JC 47 p w hE hp);unfold XN at h;by_cases z:p=[45]
 · rw[if_pos z] at h;obtain⟨rfl,rfl⟩:=Prod.mk.inj (Option.some.inj h);rw[show (p==[45])=true from beq_iff_eq.2 z] at t1;clear z h hp hE hlen HCT;go_enter Tryz.func174,Tryz.ntmps174;go_wp2;go_ret2
   exact⟨rfl,Kept.refl _⟩
 · rw[if_neg z] at h;rw[show (p==[45])=false from beq_eq_false_iff_ne.2 z] at t1;obtain⟨⟨a,b,f⟩,hc⟩:∃c,Lib.cut p [47]=c:=⟨_,rfl⟩
   rw[hc] at h hlen HCT;dsimp only at h hlen HCT;by_cases y:a=[]
   · rw[if_pos y] at h;cases h
   · rw[if_neg y] at h;have t2:((bytes a).toList==([]:List UInt8))=false:=by rw[jn];exact beq_eq_false_iff_ne.2 y
     cases hn:X8 b with
     | none=>rw[hn] at h;cases h
     | some m' =>
      rw[hn] at h;obtain⟨rfl,rfl⟩:=Prod.mk.inj (Option.some.inj h);have HN:=lH (fun W=>jbU b m' W (by omega) hn);have HL:=lH (fun W=>Zp (bytes a) W (by rw[ji];omega));clear z y h hp hE hlen hn hc;go_enter Tryz.func174,Tryz.ntmps174;go_wp2_with fail
      refine HCT.out.mono ?_;rintro e w1 ⟨rfl,n,rfl⟩;go_wp2_with fail
      refine(HL.out _).mono ?_;rintro e w2 ⟨rfl,k⟩;have K:=lH ((Kept.drewN w n).trans k);clear k;go_wp2_with fail
      refine(HN.out _).mono ?_;rintro e w3 ⟨rfl,k⟩;have K:=lH (K.out.trans k);clear k;go_wp2;go_ret2
      exact⟨rfl,K.out⟩
theorem jad (n:Nod) (v1 v2 v3:Value) (w:World):Calls Tryz.prog 187 #[Jy n v1 v2 v3] w fun e w'=>e=.returned (.string n.name)∧Kept w w':=by
 unfold Jy;go_enter Tryz.func187,Tryz.ntmps187;go_wp2;go_ret;exact⟨rfl,ja _ _⟩
theorem jhO (n:Nod) (v1 v2 v3:Value) (p q:Addr) (x:ByteArray) (w:World) (hp:w.cell? p=some (.func (.func 187) #[] #[])) (hq:w.cell? q=some (.string x)) :
 Calls Tryz.prog 277 #[Jy n v1 v2 v3,.pointer (some p),.pointer (some q)] w fun e w'=>e=.returned (.bool (eqS n.name x))∧Kept w w':=by
 have HB:=lH (show ∀W,Kept (w.alloc (.cells #[.string n.name,v1,v2,v3,.bool n.cordon] 42)) W→W.cell? p=some (.func (.func 187) #[] #[])∧W.cell? q=some (.string x)∧W.cell? ⟨w.heap.size,0,none⟩=some (.string n.name)∧W.cell? ⟨w.heap.size,1,none⟩=some (v1)∧W.cell? ⟨w.heap.size,2,none⟩=some (v2)∧W.cell? ⟨w.heap.size,3,none⟩=some (v3)∧W.cell? ⟨w.heap.size,4,none⟩=some (.bool n.cordon) from fun W k=>⟨cell_later ((ja _ _).trans k) hp,cell_later ((ja _ _).trans k) hq,(jg w (.string n.name) [v1,v2,v3,.bool n.cordon] 42 W k).at_ 0 _ rfl,(jg w (.string n.name) [v1,v2,v3,.bool n.cordon] 42 W k).at_ 1 _ rfl,(jg w (.string n.name) [v1,v2,v3,.bool n.cordon] 42 W k).at_ 2 _ rfl,(jg w (.string n.name) [v1,v2,v3,.bool n.cordon] 42 W k).at_ 3 _ rfl,(jg w (.string n.name) [v1,v2,v3,.bool n.cordon] 42 W k).at_ 4 _ rfl⟩);have HN:=lH (fun W=>jad n v1 v2 v3 W);unfold Jy at HN ⊢;obtain⟨b,hb⟩:∃b,eqS n.name x=b:=⟨_,rfl⟩
 have t1:(n.name.toList==x.toList)=b:=hb;rw[hb];clear hp hq hb;go_enter Tryz.func277,Tryz.ntmps277;go_wp2;go_region_held3 (fun W=>W.cell? p=some (.func (.func 187) #[] #[])∧W.cell? q=some (.string x)∧W.cell? ⟨w.heap.size,0,none⟩=some (.string n.name)∧W.cell? ⟨w.heap.size,1,none⟩=some (v1)∧W.cell? ⟨w.heap.size,2,none⟩=some (v2)∧W.cell? ⟨w.heap.size,3,none⟩=some (v3)∧W.cell? ⟨w.heap.size,4,none⟩=some (.bool n.cordon))
  (first | exact HB.out _ (Kept.drew _) | exact HB.out _ K1.out)
  (first | (go_at_call 187;refine(HN.out _).mono ?_;rintro e1 w1 ⟨rfl,k1⟩;have K1:=lH ((Kept.drew _).trans k1);clear k1))
 go_wp2;go_ret;exact⟨jh rfl,(ja _ _).trans K1.out⟩
def jT (l:List Nod) (x:ByteArray):Option Nod:=l.find? fun n=>eqS n.name x
def jnq (l:List Nod) (x:ByteArray) (i:Int):Prop:=(∃(k:Nat) (n:Nod),i=(k:Int)∧l[k]?=some n∧jT l x=some n)∨(i=-1∧jT l x=none)
theorem jjz (a:Option Addr) (len cap:Nat) (l:List Nod) (x:ByteArray) (p q:Addr) (w:World) (hr:j0 w a len l) (hp:w.cell? p=some (.func (.func 187) #[] #[])) (hq:w.cell? q=some (.string x)) :
 Calls Tryz.prog 276 #[.slice a len cap,.func (.func 277) #[] #[.pointer (some p),.pointer (some q)]] w fun e w'=>∃i,e=.returned (.int .i64 i)∧jnq l x i∧Kept w w':=by
 have hl:=hr.1;have hm:=hr.2.1;unfold maxLen at hm;have HL:=lH hl;by_cases h0:len=0
 · subst h0;have hl0:l=[]:=List.eq_nil_of_length_eq_zero hl;have HF:=lH (show jT l x=none by rw[hl0];rfl);clear hr hl hp hq;go_enter Tryz.func276,Tryz.ntmps276;go_wp2;refine wp_loop_rounds 1 ?_;rw[rounds_succ];go_wp2;go_ret;exact⟨-1,rfl,.inr ⟨rfl,HF.out⟩,Kept.refl _⟩
 · obtain⟨b,off,rfl⟩:=hr.form.resolve_left h0;have HR:=lH hr;have HP:=lH hp;have HQ:=lH hq;clear hr hl hp hq h0;go_enter Tryz.func276,Tryz.ntmps276;go_wp2;go_loopw [8] (fun i wr=>∃k:Nat,k≤len∧i=.int .i64 k∧jT (l.drop k) x=jT l x∧Kept w wr) (fun i _=>len-(intOf i).toNat)
   case atStart=>exact⟨0,Nat.zero_le _,rfl,rfl,Kept.refl _⟩
   case round =>
    obtain⟨k,hk,rfl,hrest,hK⟩:=hrel;have HS:=lH hrest;have HK:=lH hK;by_cases hlt:k<len
    · obtain⟨n,a1,m1,c1,a2,m2,c2,a3,m3,c3,hn,hd,hb,p0,p1,p2,p3,p4,hat⟩:=(HR.out.kept hK).at_ hlt;have HN:=lH hn;have HD:=lH hd;have HC:=lH (jhO n (.slice a1 m1 c1) (.slice a2 m2 c2) (.slice a3 m3 c3) p q x wr (cell_later hK HP.out) (cell_later hK HQ.out));unfold Jy at HC;obtain⟨t,ht⟩:∃t,eqS n.name x=t:=⟨_,rfl⟩
      have HT:=lH ht;rw[ht] at HC;clear hrest hK hat hd hn ht
      cases t with
      | true =>
       have HF:=lH (show jT l x=some n by rw[←HS.out,HD.out];unfold jT;rw[List.find?_cons,HT.out]);go_wp2_with fail
       refine HC.out.mono ?_;rintro e w1 ⟨rfl,k1⟩;have K1:=lH (HK.out.trans k1);clear k1;go_wp2;go_ret;exact⟨(k:Int),rfl,.inl ⟨k,n,rfl,HN.out,HF.out⟩,K1.out⟩
      | false =>
       have HE:=lH (show jT (l.drop k) x=jT (l.drop (k+1)) x by rw[HD.out];unfold jT;rw[List.find?_cons,HT.out]);go_wp2_with fail
       refine HC.out.mono ?_;rintro e w1 ⟨rfl,k1⟩;have K1:=lH (HK.out.trans k1);clear k1;go_wp2;go_roundw
       case rel=>exact⟨k+1,by omega,by go_num,HE.out.symm.trans HS.out,K1.out⟩
       case measure=>simp[intOf];omega
    · have HF:=lH (show jT l x=none by rw[←hrest,List.drop_of_length_le (by rw[HL.out];omega)];rfl);clear hrest hK;go_wp2;go_ret;exact⟨-1,rfl,.inr ⟨rfl,HF.out⟩,HK.out⟩
theorem jfd (a:Option Addr) (len cap:Nat) (l:List Nod) (x:ByteArray) (w:World) (hr:j0 w a len l) (hlow:∀n ∈ l,zO n) :
 Calls Tryz.prog 242 #[.slice a len cap,.string x,.func (.func 187) #[] #[],.func (.func 243) #[] #[]] w fun e w'=>∃v,e=.returned (.tuple #[v,.bool (jT l x).isSome])∧JJ w.heap.size w' v ((jT l x).getD Nod.zero)∧Kept w w':=by
 have hmf:=hmfL (P:=Tryz.prog);have hl:=hr.1;have hm:=hr.2.1;unfold maxLen at hm;obtain⟨Z,hZ⟩:∃Z,((w.alloc (.cells #[.string x] 9)).alloc (.cells #[.func (.func 187) #[] #[]] 56)).alloc (.cells #[.string ⟨#[]⟩,.slice none 0 0,.slice none 0 0,.slice none 0 0,.bool false] 42)=Z:=⟨_,rfl⟩
 have hkz:Kept w Z:=by rw[←hZ];exact(jk _ _ _).trans (ja _ _)
 have hzs:Z.heap.size=w.heap.size+3:=by rw[←hZ];simp
 have hq:=(jg w (.string x) [] 9 Z (by rw[←hZ];exact jk _ _ _)).at_ 0 _ rfl;have hp:Z.cell? ⟨w.heap.size+1,0,none⟩=some (.func (.func 187) #[] #[]):=by
  have:=(jg (w.alloc (.cells #[.string x] 9)) (.func (.func 187) #[] #[]) [] 56 Z (by rw[←hZ];exact ja _ _)).at_ 0 _ rfl;rw[World.size_alloc] at this;exact this
 have HQ0:=lH (show jf (w.heap.size+2) [.string ⟨#[]⟩,.slice none 0 0,.slice none 0 0,.slice none 0 0,.bool false] Z by
  have:=jg ((w.alloc (.cells #[.string x] 9)).alloc (.cells #[.func (.func 187) #[] #[]] 56)) (.string ⟨#[]⟩) [.slice none 0 0,.slice none 0 0,.slice none 0 0,.bool false] 42 Z (by rw[hZ];exact Kept.refl _);rw[World.size_alloc,World.size_alloc] at this;exact this)
 have HIX:=lH (jjz a len cap l x ⟨w.heap.size+1,0,none⟩ ⟨w.heap.size,0,none⟩ Z (hr.kept hkz) hp hq);have HKZ:=lH hkz;have HZS:=lH hzs;have HR:=lH (hr.kept hkz);have HLOW:=lH hlow;have HL:=lH hl;clear hr hl hlow hkz hq hp hzs;go_enter Tryz.func242,Tryz.ntmps242;go_wp2_with fail
 try rw[hZ]
 clear hZ;refine HIX.out.mono ?_;rintro e w1 ⟨i,rfl,hs,k1⟩;have K1:=lH k1;rcases hs with ⟨k,n9,rfl,hn9,hf⟩ | ⟨rfl,hf⟩
 · have HF:=lH hf;have hkl:k<len:=by have:=(List.getElem?_eq_some_iff.1 hn9).1;rw[HL.out] at this;exact this
   have hk0:decide ((k:Int)<0)=false:=by simp
   have hkk:(k:Int)<(len:Int):=by omega
   obtain⟨b,off,rfl⟩:=HR.out.form.resolve_left (by omega);obtain⟨n,a1,m1,c1,a2,m2,c2,a3,m3,c3,hn,hd,hb,p0,p1,p2,p3,p4,hat⟩:=(HR.out.kept k1).at_ hkl;obtain rfl:n9=n:=by rw[hn9] at hn;exact Option.some.inj hn
   have HLN:=lH (HLOW.out n9 (List.mem_of_getElem? hn9));have HAT:=lH hat;have HQZ:=lH (HQ0.out.kept k1);have HZ1:=lH (show w.heap.size+3≤w1.heap.size by have:=k1.size;rw[HZS.out] at this;exact this);have HOW:=lH (jbO n9 a1 a2 a3 m1 c1 m2 c2 m3 c3 w1 HAT.out HLN.out);clear hn9 hn hd hat hf k1;go_wp2_with fail
   refine HOW.out.mono ?_;rintro e w2 ⟨v,rfl,hn,k2⟩;have HN:=lH hn;have KW:=lH (HKZ.out.trans (K1.out.trans k2));have HQZ:=lH (HQZ.out.kept k2);obtain⟨b1,n1,d1,b2,n2,d2,b3,n3,d3,rfl,-⟩:=hn;obtain⟨z,hz⟩:∃z,n9.name=z:=⟨_,rfl⟩
   obtain⟨cd,hcd⟩:∃z,n9.cordon=z:=⟨_,rfl⟩
   rw[hz,hcd];rw[hz,hcd] at HN;clear k2 p0 p1 p2 p3 p4 hb hkl hk0 hkk;have y0:=HQZ.out.at_ 0 _ rfl;have y1:=HQZ.out.at_ 1 _ rfl;have y2:=HQZ.out.at_ 2 _ rfl;have y3:=HQZ.out.at_ 3 _ rfl;have y4:=HQZ.out.at_ 4 _ rfl;have x0:=HQZ.out.free 0;have x1:=HQZ.out.free 1;have x2:=HQZ.out.free 2;have x3:=HQZ.out.free 3;have x4:=HQZ.out.free 4;have P:=lH (J7 (vs:=[.string z,.slice b1 n1 d1,.slice b2 n2 d2,.slice b3 n3 d3,.bool cd]) HQZ.out rfl);clear HQZ;go_wp2;obtain⟨WE,hWE⟩:∃W,w2.setCells (w.heap.size+2) 0 [.string z,.slice b1 n1 d1,.slice b2 n2 d2,.slice b3 n3 d3,.bool cd]=W:=⟨_,rfl⟩
   have hWE2:(((((w2.setCell ⟨(w.heap.size+2),0,none⟩ (.string z)).setCell ⟨(w.heap.size+2),1,none⟩ (.slice b1 n1 d1)).setCell ⟨(w.heap.size+2),2,none⟩ (.slice b2 n2 d2)).setCell ⟨(w.heap.size+2),3,none⟩ (.slice b3 n3 d3)).setCell ⟨(w.heap.size+2),4,none⟩ (.bool cd))=WE:=hWE;rw[hWE] at P;rw[hWE2];clear hWE hWE2;obtain⟨PC,hsz,hbl,hkp⟩:=P.out;refine bodyPost_ret (by simp[results,Tryz.results242,go_sem,PC.at_ 0 _ rfl,PC.at_ 1 _ rfl,PC.at_ 2 _ rfl,PC.at_ 3 _ rfl,PC.at_ 4 _ rfl];try rfl) rfl ?_;rw[HF.out];exact⟨_,rfl,(HN.out.far hsz (fun b hb=>hbl b (by have:=HZ1.out;omega))).less (by have:=HZ1.out;omega),hkp _ _ (by omega) KW.out⟩
 · have HF:=lH hf;have HQZ:=lH (HQ0.out.kept k1);have KW:=lH (HKZ.out.trans k1);clear hf k1;have y0:=HQZ.out.at_ 0 _ rfl;have y1:=HQZ.out.at_ 1 _ rfl;have y2:=HQZ.out.at_ 2 _ rfl;have y3:=HQZ.out.at_ 3 _ rfl;have y4:=HQZ.out.at_ 4 _ rfl;have x0:=HQZ.out.free 0;have x1:=HQZ.out.free 1;have x2:=HQZ.out.free 2;have x3:=HQZ.out.free 3;have x4:=HQZ.out.free 4;have P:=lH (J7 (vs:=[.string ⟨#[]⟩,.slice none 0 0,.slice none 0 0,.slice none 0 0,.bool false]) HQZ.out rfl);clear HQZ;go_wp2;obtain⟨WE,hWE⟩:∃W,w1.setCells (w.heap.size+2) 0 [.string ⟨#[]⟩,.slice none 0 0,.slice none 0 0,.slice none 0 0,.bool false]=W:=⟨_,rfl⟩
   have hWE2:(((((w1.setCell ⟨(w.heap.size+2),0,none⟩ (.string ⟨#[]⟩)).setCell ⟨(w.heap.size+2),1,none⟩ (.slice none 0 0)).setCell ⟨(w.heap.size+2),2,none⟩ (.slice none 0 0)).setCell ⟨(w.heap.size+2),3,none⟩ (.slice none 0 0)).setCell ⟨(w.heap.size+2),4,none⟩ (.bool false))=WE:=hWE;rw[hWE] at P;rw[hWE2];clear hWE hWE2;obtain⟨PC,hsz,hbl,hkp⟩:=P.out;refine bodyPost_ret (by simp[results,Tryz.results242,go_sem,PC.at_ 0 _ rfl,PC.at_ 1 _ rfl,PC.at_ 2 _ rfl,PC.at_ 3 _ rfl,PC.at_ 4 _ rfl];try rfl) rfl ?_;rw[HF.out];exact⟨_,rfl,qt _ _,hkp _ _ (by omega) KW.out⟩
theorem jj4 (a:Option Addr) (len cap:Nat) (l:List Nod) (x:ByteArray) (w:World) (hr:j0 w a len l) (hlow:∀n ∈ l,zO n) :
 Calls Tryz.prog 192 #[.slice a len cap,.string x] w fun e w'=>∃v,e=.returned (.tuple #[v,.bool (jT l x).isSome])∧JJ w.heap.size w' v ((jT l x).getD Nod.zero)∧Kept w w':=by
 obtain⟨Z,hZ⟩:∃Z,w.alloc (.cells #[.string ⟨#[]⟩,.slice none 0 0,.slice none 0 0,.slice none 0 0,.bool false] 42)=Z:=⟨_,rfl⟩
 have hkz:Kept w Z:=by rw[←hZ];exact ja _ _
 have hzs:Z.heap.size=w.heap.size+1:=by rw[←hZ];simp
 have HQ0:=lH (show jf w.heap.size [.string ⟨#[]⟩,.slice none 0 0,.slice none 0 0,.slice none 0 0,.bool false] Z from jg w (.string ⟨#[]⟩) [.slice none 0 0,.slice none 0 0,.slice none 0 0,.bool false] 42 Z (by rw[hZ];exact Kept.refl _));have HRF:=lH (jfd a len cap l x Z (hr.kept hkz) hlow);have HKZ:=lH hkz;have HZS:=lH hzs;obtain⟨n9,hn9⟩:∃n,(jT l x).getD Nod.zero=n:=⟨_,rfl⟩
 obtain⟨is,his⟩:∃n,(jT l x).isSome=n:=⟨_,rfl⟩
 rw[hn9,his] at HRF;rw[hn9,his];clear hr hlow hkz hzs hn9 his;go_enter Tryz.func192,Tryz.ntmps192;go_wp2_with fail
 try rw[hZ]
 clear hZ;refine HRF.out.mono ?_;rintro e w1 ⟨v,rfl,hn,k1⟩;have HN:=lH hn;have HQZ:=lH (HQ0.out.kept k1);have KW:=lH (HKZ.out.trans k1);obtain⟨b1,n1,d1,b2,n2,d2,b3,n3,d3,rfl,-⟩:=hn;obtain⟨z,hz⟩:∃z,n9.name=z:=⟨_,rfl⟩
 obtain⟨cd,hcd⟩:∃z,n9.cordon=z:=⟨_,rfl⟩
 rw[hz,hcd];rw[hz,hcd] at HN;clear k1;have y0:=HQZ.out.at_ 0 _ rfl;have y1:=HQZ.out.at_ 1 _ rfl;have y2:=HQZ.out.at_ 2 _ rfl;have y3:=HQZ.out.at_ 3 _ rfl;have y4:=HQZ.out.at_ 4 _ rfl;have x0:=HQZ.out.free 0;have x1:=HQZ.out.free 1;have x2:=HQZ.out.free 2;have x3:=HQZ.out.free 3;have x4:=HQZ.out.free 4;have P:=lH (J7 (vs:=[.string z,.slice b1 n1 d1,.slice b2 n2 d2,.slice b3 n3 d3,.bool cd]) HQZ.out rfl);clear HQZ;go_wp2;obtain⟨WE,hWE⟩:∃W,w1.setCells w.heap.size 0 [.string z,.slice b1 n1 d1,.slice b2 n2 d2,.slice b3 n3 d3,.bool cd]=W:=⟨_,rfl⟩
 have hWE2:(((((w1.setCell ⟨w.heap.size,0,none⟩ (.string z)).setCell ⟨w.heap.size,1,none⟩ (.slice b1 n1 d1)).setCell ⟨w.heap.size,2,none⟩ (.slice b2 n2 d2)).setCell ⟨w.heap.size,3,none⟩ (.slice b3 n3 d3)).setCell ⟨w.heap.size,4,none⟩ (.bool cd))=WE:=hWE;rw[hWE] at P;rw[hWE2];clear hWE hWE2;obtain⟨PC,hsz,hbl,hkp⟩:=P.out;refine bodyPost_ret (by simp[results,Tryz.results192,go_sem,PC.at_ 0 _ rfl,PC.at_ 1 _ rfl,PC.at_ 2 _ rfl,PC.at_ 3 _ rfl,PC.at_ 4 _ rfl];try rfl) rfl ?_;exact⟨_,rfl,(HN.out.far hsz (fun b hb=>hbl b (by have:=HZS.out;omega))).less (by have:=HZS.out;omega),hkp _ _ (Nat.le_refl _) KW.out⟩
def j9:Option ByteArray→List Nod→Int
 | _,[]=>0
 | prev,n::t=>if jU n≠0 then jU n else if Vec.jI prev n.name=true then 13 else j9 (some n.name) t
def jJ (l:List Nod):Int:=if 32<l.length then 4 else j9 none l
def YW (l:List Nod) (k:Nat):Option ByteArray:=if k=0 then none else (l[k-1]?).map Nod.name
theorem jdY {l:List Nod} {k:Nat} (h:k=0) (s:ByteArray):Vec.jI (YW l k) s=false:=by unfold YW;rw[if_pos h];rfl
theorem jd3 {l:List Nod} {k:Nat} {n:Nod} (h:¬k=0) (hn:l[k-1]?=some n) (s:ByteArray):Vec.jI (YW l k) s=leS s n.name:=by unfold YW;rw[if_neg h,hn];rfl
theorem jdE {l:List Nod} {k:Nat} {n:Nod} (hn:l[k]?=some n):YW l (k+1)=some n.name:=by unfold YW;rw[if_neg (by omega),Nat.add_sub_cancel,hn];rfl
theorem jcW {p:Option ByteArray} {n:Nod} {t:List Nod} (h:jU n≠0):j9 p (n::t)=jU n:=by rw[j9,if_pos h]
theorem jaP {p:Option ByteArray} {n:Nod} {t:List Nod} (h:jU n=0) (b:Vec.jI p n.name=true):j9 p (n::t)=13:=by rw[j9,if_neg (by rw[h];decide),if_pos b]
theorem X1 {p:Option ByteArray} {n:Nod} {t:List Nod} (h:jU n=0) (b:Vec.jI p n.name=false):j9 p (n::t)=j9 (some n.name) t:=by rw[j9,if_neg (by rw[h];decide),if_neg (by rw[b];decide)]
theorem jes (a:Option Addr) (len cap:Nat) (l:List Nod) (w:World) (hr:j0 w a len l) :
 Calls Tryz.prog 186 #[.slice a len cap,.int .i64 32,.func (.func 187) #[] #[],.func (.func 167) #[] #[]] w (Say (.int .i64 (jJ l)) w):=by
 have hl:=hr.1;have hm:=hr.2.1;unfold maxLen at hm;by_cases h32:32<len
 · have HV:=lH (show jJ l=4 by unfold jJ;rw[if_pos (by omega)]);clear hr hl;go_enter Tryz.func186,Tryz.ntmps186;go_wp2;go_ret;exact⟨jb HV.out.symm,Kept.refl _⟩
 · have HV:=lH (show jJ l=j9 none l by unfold jJ;rw[if_neg (by omega)]);have h32':len≤32:=by omega
   by_cases h0:len=0
   · subst h0;have HE:=lH (show jJ l=0 by rw[HV.out,List.eq_nil_of_length_eq_zero hl];rfl);clear hr hl h32;go_enter Tryz.func186,Tryz.ntmps186;go_wp2;refine wp_loop_rounds 1 ?_;rw[rounds_succ];go_wp2;go_ret;exact⟨jb HE.out.symm,Kept.refl _⟩
   · obtain⟨b,off,rfl⟩:=hr.form.resolve_left h0;have HR:=lH hr;have HL:=lH hl;clear hr hl h0 h32;go_enter Tryz.func186,Tryz.ntmps186;go_wp2;go_loopw [18] (fun i wr=>∃k:Nat,k≤len∧i=.int .i64 k∧j9 (YW l k) (l.drop k)=j9 none l∧Kept w wr) (fun i _=>len-(intOf i).toNat)
     case atStart=>exact⟨0,Nat.zero_le _,rfl,rfl,Kept.refl _⟩
     case round =>
      obtain⟨k,hk,rfl,hrest,hK⟩:=hrel;have HS:=lH (HV.out.trans hrest.symm);have HT:=lH hrest;have HK:=lH hK;by_cases hlt:k<len
      · obtain⟨n,a1,m1,c1,a2,m2,c2,a3,m3,c3,hn,hd,hb,p0,p1,p2,p3,p4,hat⟩:=(HR.out.kept hK).at_ hlt;have HAT:=lH hat;have HD:=lH hd;have HNX:=lH (jdE hn);have HCK:=lH (fun W (kk:Kept wr W)=>jdA n (.slice a1 m1 c1) (.slice a2 m2 c2) (.slice a3 m3 c3) W (HAT.out.kept kk));have HNA:=lH (fun W=>jad n (.slice a1 m1 c1) (.slice a2 m2 c2) (.slice a3 m3 c3) W);unfold Jy at HCK HNA;obtain⟨ck,hck⟩:∃x,jU n=x:=⟨_,rfl⟩
        have HCN:=lH hck;rw[hck] at HCK;have hkk:(k:Int)<(len:Int):=by omega
        clear hrest hK hat hd hck;by_cases z1:ck=0
        · subst z1;by_cases h0:k=0
          · have hd0:decide (0<k)=false:=by subst h0;decide
            have HP:=lH (jdY (l:=l) h0 n.name);clear h0;go_wp2_with fail
            refine(HCK.out _ (ja _ _)).mono ?_;rintro e w1 ⟨rfl,kk⟩;have KW:=lH (Kept.trans (ja _ _) kk);have HBX:=lH (fun W k=>jg wr (.string n.name) [.slice a1 m1 c1,.slice a2 m2 c2,.slice a3 m3 c3,.bool n.cordon] 42 W (Kept.trans kk k));have y0:=(HBX.out w1 (Kept.refl _)).at_ 0 _ rfl;have y1:=(HBX.out w1 (Kept.refl _)).at_ 1 _ rfl;have y2:=(HBX.out w1 (Kept.refl _)).at_ 2 _ rfl;have y3:=(HBX.out w1 (Kept.refl _)).at_ 3 _ rfl;have y4:=(HBX.out w1 (Kept.refl _)).at_ 4 _ rfl;clear kk;go_wp2;go_quiet (fail)
            go_wp2;go_roundw
            case rel=>exact⟨k+1,by omega,by go_num,(show j9 (YW l (k+1)) (l.drop (k+1))=j9 none l by rw[←HT.out,HD.out,X1 HCN.out HP.out,HNX.out]),HK.out.trans (KW.out.trans (Kept.drewN _ _))⟩
            case measure=>simp[intOf];omega
          · have hd0:decide (0<k)=true:=by simp;omega
            obtain⟨q,hqk⟩:∃q,k=q+1:=⟨k-1,by omega⟩
            have g1:(k:Int)-1=(q:Int):=by omega
            have gw:IntKind.i64.wrap (q:Int)=(q:Int):=by rw[IntKind.wrap_i64];omega
            have g2:(q:Int)<(len:Int):=by omega
            obtain⟨n9,b1,h1,d1,b2,h2,d2,b3,h3,d3,hn9,-,hb9,q0,q1,q2,q3,q4,-⟩:=(HR.out.kept HK.out).at_ (show q<len by omega);have HQK:=lH hqk;have hqk1:k-1=q:=by omega
            have HP:=lH (jd3 (l:=l) h0 (show l[k-1]?=some n9 by rw[hqk1];exact hn9) n.name);clear hqk hqk1;have HNB:=lH (fun W=>jad n9 (.slice b1 h1 d1) (.slice b2 h2 d2) (.slice b3 h3 d3) W);unfold Jy at HNB;clear h0 hn9;by_cases n3:leS n.name n9.name=true
            · have n3':(Op.bytesLess n.name.toList n9.name.toList||n.name.toList==n9.name.toList)=true:=n3;have N3:=lH n3;clear n3;go_wp2_with fail
              refine(HCK.out _ (ja _ _)).mono ?_;rintro e w1 ⟨rfl,kk⟩;have KW:=lH (Kept.trans (ja _ _) kk);have HBX:=lH (fun W k=>jg wr (.string n.name) [.slice a1 m1 c1,.slice a2 m2 c2,.slice a3 m3 c3,.bool n.cordon] 42 W (Kept.trans kk k));have y0:=(HBX.out w1 (Kept.refl _)).at_ 0 _ rfl;have y1:=(HBX.out w1 (Kept.refl _)).at_ 1 _ rfl;have y2:=(HBX.out w1 (Kept.refl _)).at_ 2 _ rfl;have y3:=(HBX.out w1 (Kept.refl _)).at_ 3 _ rfl;have y4:=(HBX.out w1 (Kept.refl _)).at_ 4 _ rfl;have HO:=lH (show ∀W,Kept w1 W→(W.cell? ⟨wr.heap.size,0,none⟩=some (.string n.name)∧W.cell? ⟨wr.heap.size,1,none⟩=some (.slice a1 m1 c1)∧W.cell? ⟨wr.heap.size,2,none⟩=some (.slice a2 m2 c2)∧W.cell? ⟨wr.heap.size,3,none⟩=some (.slice a3 m3 c3)∧W.cell? ⟨wr.heap.size,4,none⟩=some (.bool n.cordon))∧(W.cell? ⟨b,off+q*5,none⟩=some (.string n9.name)∧W.cell? ⟨b,off+q*5+1,none⟩=some (.slice b1 h1 d1)∧W.cell? ⟨b,off+q*5+2,none⟩=some (.slice b2 h2 d2)∧W.cell? ⟨b,off+q*5+3,none⟩=some (.slice b3 h3 d3)∧W.cell? ⟨b,off+q*5+4,none⟩=some (.bool n9.cordon)) from fun W k=>⟨⟨(HBX.out W k).at_ 0 _ rfl,(HBX.out W k).at_ 1 _ rfl,(HBX.out W k).at_ 2 _ rfl,(HBX.out W k).at_ 3 _ rfl,(HBX.out W k).at_ 4 _ rfl⟩,⟨cell_later (KW.out.trans k) q0,cell_later (KW.out.trans k) q1,cell_later (KW.out.trans k) q2,cell_later (KW.out.trans k) q3,cell_later (KW.out.trans k) q4⟩⟩);clear kk q0 q1 q2 q3 q4;go_wp2;go_region_held3 (fun W=>(W.cell? ⟨wr.heap.size,0,none⟩=some (.string n.name)∧W.cell? ⟨wr.heap.size,1,none⟩=some (.slice a1 m1 c1)∧W.cell? ⟨wr.heap.size,2,none⟩=some (.slice a2 m2 c2)∧W.cell? ⟨wr.heap.size,3,none⟩=some (.slice a3 m3 c3)∧W.cell? ⟨wr.heap.size,4,none⟩=some (.bool n.cordon))∧(W.cell? ⟨b,off+q*5,none⟩=some (.string n9.name)∧W.cell? ⟨b,off+q*5+1,none⟩=some (.slice b1 h1 d1)∧W.cell? ⟨b,off+q*5+2,none⟩=some (.slice b2 h2 d2)∧W.cell? ⟨b,off+q*5+3,none⟩=some (.slice b3 h3 d3)∧W.cell? ⟨b,off+q*5+4,none⟩=some (.bool n9.cordon)))
               (first | exact HO.out _ (Kept.drew _) | exact HO.out _ J1.out | exact HO.out _ J2.out)
               (first | (go_at_call 187;refine(HNA.out _).mono ?_;rintro e1 w2 ⟨rfl,k1⟩;have J1:=lH ((Kept.drew _).trans k1);clear k1)
                      | (go_at_call 187;refine(HNB.out _).mono ?_;rintro e2 w3 ⟨rfl,k1⟩;have J2:=lH (J1.out.trans k1);clear k1))
              go_wp2;go_ret;exact⟨jb (show (13:Int)=jJ l by rw[HS.out,HD.out,jaP HCN.out (HP.out.trans N3.out)]),HK.out.trans (KW.out.trans J2.out)⟩
            · have n3:leS n.name n9.name=false:=by simpa using n3
              have n3':(Op.bytesLess n.name.toList n9.name.toList||n.name.toList==n9.name.toList)=false:=n3;have N3:=lH n3;clear n3;go_wp2_with fail
              refine(HCK.out _ (ja _ _)).mono ?_;rintro e w1 ⟨rfl,kk⟩;have KW:=lH (Kept.trans (ja _ _) kk);have HBX:=lH (fun W k=>jg wr (.string n.name) [.slice a1 m1 c1,.slice a2 m2 c2,.slice a3 m3 c3,.bool n.cordon] 42 W (Kept.trans kk k));have y0:=(HBX.out w1 (Kept.refl _)).at_ 0 _ rfl;have y1:=(HBX.out w1 (Kept.refl _)).at_ 1 _ rfl;have y2:=(HBX.out w1 (Kept.refl _)).at_ 2 _ rfl;have y3:=(HBX.out w1 (Kept.refl _)).at_ 3 _ rfl;have y4:=(HBX.out w1 (Kept.refl _)).at_ 4 _ rfl;have HO:=lH (show ∀W,Kept w1 W→(W.cell? ⟨wr.heap.size,0,none⟩=some (.string n.name)∧W.cell? ⟨wr.heap.size,1,none⟩=some (.slice a1 m1 c1)∧W.cell? ⟨wr.heap.size,2,none⟩=some (.slice a2 m2 c2)∧W.cell? ⟨wr.heap.size,3,none⟩=some (.slice a3 m3 c3)∧W.cell? ⟨wr.heap.size,4,none⟩=some (.bool n.cordon))∧(W.cell? ⟨b,off+q*5,none⟩=some (.string n9.name)∧W.cell? ⟨b,off+q*5+1,none⟩=some (.slice b1 h1 d1)∧W.cell? ⟨b,off+q*5+2,none⟩=some (.slice b2 h2 d2)∧W.cell? ⟨b,off+q*5+3,none⟩=some (.slice b3 h3 d3)∧W.cell? ⟨b,off+q*5+4,none⟩=some (.bool n9.cordon)) from fun W k=>⟨⟨(HBX.out W k).at_ 0 _ rfl,(HBX.out W k).at_ 1 _ rfl,(HBX.out W k).at_ 2 _ rfl,(HBX.out W k).at_ 3 _ rfl,(HBX.out W k).at_ 4 _ rfl⟩,⟨cell_later (KW.out.trans k) q0,cell_later (KW.out.trans k) q1,cell_later (KW.out.trans k) q2,cell_later (KW.out.trans k) q3,cell_later (KW.out.trans k) q4⟩⟩);clear kk q0 q1 q2 q3 q4;go_wp2;go_region_held3 (fun W=>(W.cell? ⟨wr.heap.size,0,none⟩=some (.string n.name)∧W.cell? ⟨wr.heap.size,1,none⟩=some (.slice a1 m1 c1)∧W.cell? ⟨wr.heap.size,2,none⟩=some (.slice a2 m2 c2)∧W.cell? ⟨wr.heap.size,3,none⟩=some (.slice a3 m3 c3)∧W.cell? ⟨wr.heap.size,4,none⟩=some (.bool n.cordon))∧(W.cell? ⟨b,off+q*5,none⟩=some (.string n9.name)∧W.cell? ⟨b,off+q*5+1,none⟩=some (.slice b1 h1 d1)∧W.cell? ⟨b,off+q*5+2,none⟩=some (.slice b2 h2 d2)∧W.cell? ⟨b,off+q*5+3,none⟩=some (.slice b3 h3 d3)∧W.cell? ⟨b,off+q*5+4,none⟩=some (.bool n9.cordon)))
               (first | exact HO.out _ (Kept.drew _) | exact HO.out _ J1.out | exact HO.out _ J2.out)
               (first | (go_at_call 187;refine(HNA.out _).mono ?_;rintro e1 w2 ⟨rfl,k1⟩;have J1:=lH ((Kept.drew _).trans k1);clear k1)
                      | (go_at_call 187;refine(HNB.out _).mono ?_;rintro e2 w3 ⟨rfl,k1⟩;have J2:=lH (J1.out.trans k1);clear k1))
              go_wp2;go_roundw
              case rel=>exact⟨k+1,by omega,by go_num,(show j9 (YW l (k+1)) (l.drop (k+1))=j9 none l by rw[←HT.out,HD.out,X1 HCN.out (HP.out.trans N3.out),HNX.out]),HK.out.trans (KW.out.trans J2.out)⟩
              case measure=>simp[intOf];omega
        · have z1':(ck != 0)=true:=by simpa using z1
          have HB:=lH (show jJ l=ck by rw[HS.out,HD.out,jcW (by rw[HCN.out];exact z1),HCN.out]);clear z1;go_wp2_with fail
          refine(HCK.out _ (ja _ _)).mono ?_;rintro e w1 ⟨rfl,kk⟩;have KW:=lH (Kept.trans (ja _ _) kk);clear kk;go_wp2;go_ret;exact⟨jb HB.out.symm,HK.out.trans KW.out⟩
      · have HE:=lH (show jJ l=0 by rw[HS.out,List.drop_of_length_le (by rw[HL.out];omega)];rfl);clear hrest hK;go_wp2;go_ret;exact⟨jb HE.out.symm,HK.out⟩
theorem jgf (a:Option Addr) (len cap:Nat) (l:List Nod) (w:World) (hr:j0 w a len l) :
 Calls Tryz.prog 141 #[.slice a len cap] w (Say (.int .i64 (jJ l)) w):=by
 have H:=lH (jes a len cap l w hr);clear hr;go_enter Tryz.func141,Tryz.ntmps141;go_wp2_with fail
 refine H.out.mono ?_;rintro e w1 ⟨rfl,k⟩;have K:=lH k;clear k;go_wp2;go_ret;exact⟨rfl,K.out⟩
theorem jfb (a:Option Addr) (len cap:Nat) (l:List Nod) (w:World) (hr:j0 w a len l) :
 Calls Tryz.prog 26 #[.slice a len cap] w (Say (.int .i64 (jJ l)) w):=by
 have hl:=hr.1;have hm:=hr.2.1;unfold maxLen at hm;by_cases h32:32<len
 · have HV:=lH (show jJ l=4 by unfold jJ;rw[if_pos (by omega)]);clear hr hl;go_enter Tryz.func26,Tryz.ntmps26;go_wp2;go_ret;exact⟨jb HV.out.symm,Kept.refl _⟩
 · have HV:=lH (show jJ l=j9 none l by unfold jJ;rw[if_neg (by omega)]);have h32':len≤32:=by omega
   by_cases h0:len=0
   · subst h0;have HE:=lH (show jJ l=0 by rw[HV.out,List.eq_nil_of_length_eq_zero hl];rfl);clear hr hl h32;go_enter Tryz.func26,Tryz.ntmps26;go_wp2;refine wp_loop_rounds 1 ?_;rw[rounds_succ];go_wp2;go_ret;exact⟨jb HE.out.symm,Kept.refl _⟩
   · obtain⟨b,off,rfl⟩:=hr.form.resolve_left h0;have HR:=lH hr;have HL:=lH hl;clear hr hl h0 h32;go_enter Tryz.func26,Tryz.ntmps26;go_wp2;go_loopw [3] (fun i wr=>∃k:Nat,k≤len∧i=.int .i64 k∧j9 (YW l k) (l.drop k)=j9 none l∧Kept w wr) (fun i _=>len-(intOf i).toNat)
     case atStart=>exact⟨0,Nat.zero_le _,rfl,rfl,Kept.refl _⟩
     case round =>
      obtain⟨k,hk,rfl,hrest,hK⟩:=hrel;have HS:=lH (HV.out.trans hrest.symm);have HT:=lH hrest;have HK:=lH hK;by_cases hlt:k<len
      · obtain⟨n,a1,m1,c1,a2,m2,c2,a3,m3,c3,hn,hd,hb,p0,p1,p2,p3,p4,hat⟩:=(HR.out.kept hK).at_ hlt;have HAT:=lH hat;have HD:=lH hd;have HNX:=lH (jdE hn);have HCK:=lH (fun W (kk:Kept wr W)=>jhp n (.slice a1 m1 c1) (.slice a2 m2 c2) (.slice a3 m3 c3) W (HAT.out.kept kk));unfold Jy at HCK;obtain⟨ck,hck⟩:∃x,jU n=x:=⟨_,rfl⟩
        have HCN:=lH hck;rw[hck] at HCK;have hkk:(k:Int)<(len:Int):=by omega
        clear hrest hK hat hd hck;by_cases z1:ck=0
        · subst z1;by_cases h0:k=0
          · have hd0:decide (0<k)=false:=by subst h0;decide
            have HP:=lH (jdY (l:=l) h0 n.name);clear h0;go_wp2_with fail
            refine(HCK.out _ (Kept.refl _)).mono ?_;rintro e w1 ⟨rfl,kk⟩;have KW:=lH kk;clear kk;go_wp2;go_quiet (fail)
            go_wp2;go_roundw
            case rel=>exact⟨k+1,by omega,by go_num,(show j9 (YW l (k+1)) (l.drop (k+1))=j9 none l by rw[←HT.out,HD.out,X1 HCN.out HP.out,HNX.out]),HK.out.trans (KW.out.trans (Kept.drewN _ _))⟩
            case measure=>simp[intOf];omega
          · have hd0:decide (0<k)=true:=by simp;omega
            have g1:0≤(k:Int)-1:=by omega
            have g2:(k:Int)-1<(len:Int):=by omega
            have g3:((k:Int)-1).toNat=k-1:=by omega
            obtain⟨n9,_,_,_,_,_,_,_,_,_,hn9,-,hb9,o0,-⟩:=(HR.out.kept HK.out).at_ (show k-1<len by omega);have HP:=lH (jd3 (l:=l) h0 hn9 n.name);clear h0 hn9;by_cases n3:leS n.name n9.name=true
            · have n3':(Op.bytesLess n.name.toList n9.name.toList||n.name.toList==n9.name.toList)=true:=n3;have N3:=lH n3;clear n3;go_wp2_with fail
              refine(HCK.out _ (Kept.refl _)).mono ?_;rintro e w1 ⟨rfl,kk⟩;have KW:=lH kk;have o1:=cell_later kk o0;have p9:=cell_later kk p0;clear kk;go_wp2;go_quiet (fail)
              go_wp2;go_ret;exact⟨jb (show (13:Int)=jJ l by rw[HS.out,HD.out,jaP HCN.out (HP.out.trans N3.out)]),HK.out.trans (KW.out.trans (Kept.drewN _ _))⟩
            · have n3:leS n.name n9.name=false:=by simpa using n3
              have n3':(Op.bytesLess n.name.toList n9.name.toList||n.name.toList==n9.name.toList)=false:=n3;have N3:=lH n3;clear n3;go_wp2_with fail
              refine(HCK.out _ (Kept.refl _)).mono ?_;rintro e w1 ⟨rfl,kk⟩;have KW:=lH kk;have o1:=cell_later kk o0;have p9:=cell_later kk p0;clear kk;go_wp2;go_quiet (fail)
              go_wp2;go_roundw
              case rel=>exact⟨k+1,by omega,by go_num,(show j9 (YW l (k+1)) (l.drop (k+1))=j9 none l by rw[←HT.out,HD.out,X1 HCN.out (HP.out.trans N3.out),HNX.out]),HK.out.trans (KW.out.trans (Kept.drewN _ _))⟩
              case measure=>simp[intOf];omega
        · have z1':(ck != 0)=true:=by simpa using z1
          have HB:=lH (show jJ l=ck by rw[HS.out,HD.out,jcW (by rw[HCN.out];exact z1),HCN.out]);clear z1;go_wp2_with fail
          refine(HCK.out _ (Kept.refl _)).mono ?_;rintro e w1 ⟨rfl,kk⟩;have KW:=lH kk;clear kk;go_wp2;go_ret;exact⟨jb HB.out.symm,HK.out.trans KW.out⟩
      · have HE:=lH (show jJ l=0 by rw[HS.out,List.drop_of_length_le (by rw[HL.out];omega)];rfl);clear hrest hK;go_wp2;go_ret;exact⟨jb HE.out.symm,HK.out⟩
theorem jjI {v:Value} {l:List Nod} {c:Int} {w:World} (h:Zf w v l) (hc:jJ l=c):Calls Tryz.prog 26 #[v] w (Say (.int .i64 c) w):=by
 subst hc;obtain⟨a,cap,rfl,_,_,hr⟩:=h;exact jfb a _ cap l w hr
theorem count_cons (c b:UInt8) (t:List UInt8):Lib.countByte (b::t) c=Lib.countByte t c+(if b=c then 1 else 0):=by
 unfold Lib.countByte;rw[List.count_cons];by_cases h:b=c
 · simp[h]
 · simp[h]
theorem jcL (c:UInt8):∀p:List UInt8,(je c p).length=Lib.countByte p c+1
 | []=>rfl
 | b::t=>by
  have ih:=jcL c t;rw[count_cons,je];by_cases h:b=c
  · rw[if_pos h,if_pos h,List.length_cons,ih]
  · rw[if_neg h,if_neg h,Nat.add_zero,←ih]
    cases hp:je c t with
    | nil=>exact absurd hp (JY c t)
    | cons q qs=>rfl
theorem jeF {c:UInt8} {p:List UInt8} (h:Lib.countByte p c=1):(Lib.cut p [c]).2.2=true∧je c p=[(Lib.cut p [c]).1,(Lib.cut p [c]).2.1]:=by
 have hl:=jcL c p;rw[h,Xh] at hl;by_cases hf:(Lib.cut p [c]).2.2=true
 · refine⟨hf,?_⟩;rw[if_pos hf,List.length_cons] at hl;have h1:(je c (Lib.cut p [c]).2.1).length=1:=by omega
   have hn:=(jeK c _).1 h1;rw[Xh,if_pos hf,Xh c (Lib.cut p [c]).2.1,jaK hn];rfl
 · rw[if_neg hf] at hl;simp at hl
theorem jbW (c:UInt8):∀p:List UInt8,(Lib.cut p [c]).2.2=true→c ∉ (Lib.cut p [c]).1
 | [],h=>by rw[jaq] at h;cases h
 | b::t,h=>by
  rw[Y4] at h ⊢;by_cases hb:b=c
  · rw[if_pos hb];simp
  · rw[if_neg hb] at h ⊢;have ih:=jbW c t h;show c ∉ b::(Lib.cut t [c]).1;simp only[List.mem_cons,not_or];exact⟨fun e=>hb e.symm,ih⟩
theorem XU (u:List UInt8) (z c:UInt8):Lib.hasSuffix (u++[z]) [c]=(z==c):=by
 unfold Lib.hasSuffix List.isSuffixOf;simp only[List.isPrefixOf,List.reverse_append,List.reverse_cons,List.reverse_nil,List.nil_append,List.cons_append,Bool.and_true];rw[Bool.eq_iff_iff,beq_iff_eq,beq_iff_eq];exact eq_comm
theorem jl1 (u:List UInt8) (c:UInt8):Lib.trimSuffix (u++[c]) [c]=u:=by
 unfold Lib.trimSuffix;rw[XU,if_pos (by simp)];simp
theorem jnm (u:List UInt8) {z c:UInt8} (h:z≠c):Lib.trimSuffix (u++[z]) [c]=u++[z]:=by
 unfold Lib.trimSuffix;rw[XU,if_neg (by simpa using h)]
theorem jjg {p u:List UInt8} (h:Lib.countByte p 58=1) (hv:(Lib.cut p [58]).2.1=u++[33]):Jr p=(bytes (Lib.cut p [58]).1,bytes u,true):=by
 have hf:=(jeF h).1;have hb:=jaS 58 p hf;have hn:=jbW 58 p hf;obtain⟨k,hk⟩:∃k,(Lib.cut p [58]).1=k:=⟨_,rfl⟩
 rw[hv,hk] at hb;rw[hk] at hn ⊢;have hb':(k++58::u)++[33]=p:=by rw[←hb];simp
 have e1:Lib.hasSuffix p [33]=true:=by rw[←hb',XU];rfl
 have e2:Lib.trimSuffix p [33]=k++58::u:=by rw[←hb',jl1]
 unfold Jr;rw[e1,e2,JM u hn]
theorem jhr {p u:List UInt8} {z:UInt8} (h:Lib.countByte p 58=1) (hv:(Lib.cut p [58]).2.1=u++[z]) (hz:z≠33):Jr p=(bytes (Lib.cut p [58]).1,bytes (u++[z]),false):=by
 have hf:=(jeF h).1;have hb:=jaS 58 p hf;have hn:=jbW 58 p hf;obtain⟨k,hk⟩:∃k,(Lib.cut p [58]).1=k:=⟨_,rfl⟩
 rw[hv,hk] at hb;rw[hk] at hn ⊢;have hb':(k++58::u)++[z]=p:=by rw[←hb];simp
 have e1:Lib.hasSuffix p [33]=false:=by rw[←hb',XU];simpa using hz
 have e2:Lib.trimSuffix p [33]=p:=by rw[←hb',jnm _ hz]
 unfold Jr;rw[e1,e2,←hb,JM (u++[z]) hn]
theorem jcA (b c:UInt8) (t:List UInt8):Lib.hasPrefix (b::t) [c]=(b==c):=by
 unfold Lib.hasPrefix;simp only[List.isPrefixOf,List.reverse_append,List.reverse_cons,List.reverse_nil,List.nil_append,List.cons_append,Bool.and_true];rw[Bool.eq_iff_iff,beq_iff_eq,beq_iff_eq];exact eq_comm
def Zk (x:NT):Bool:=decide (x.1.size≤50)&&decide (x.2.1.size≤50)
def J5 (l:NL):Bool:=decide (l.length≤20)&&l.all Zk
theorem jlA (a:Option Addr) (len cap:Nat) (l:NL) (w:World) (hr:jr jq w a len l) :
 Calls Tryz.prog 57 #[.slice a len cap] w fun e w'=>e=.returned (.bool (J5 l))∧w=w':=by
 have hl:=hr.1;have hm:=hr.2.1;unfold maxLen at hm;by_cases h20:len≤20
 · have HV:=lH (show J5 l=l.all Zk by unfold J5;rw[decide_eq_true (by omega)];rfl);rcases hr.form with h0 | ⟨b,off,rfl⟩
   · subst h0;have HE:=lH (show J5 l=true by rw[HV.out,List.eq_nil_of_length_eq_zero hl];rfl);clear hr hl;go_enter Tryz.func57,Tryz.ntmps57;go_wp2;refine wp_loop_rounds 1 ?_;rw[rounds_succ];go_wp2;go_ret;exact⟨jh HE.out.symm,rfl⟩
   · have HR:=lH hr;have HL:=lH hl;clear hr hl;go_enter Tryz.func57,Tryz.ntmps57;go_wp2;go_loop [3] (fun i=>∃k:Nat,k≤len∧i=.int .i64 k∧(l.drop k).all Zk=l.all Zk) (fun i=>len-(intOf i).toNat)
     case atStart=>exact⟨0,Nat.zero_le _,rfl,rfl⟩
     case round =>
      obtain⟨k,hk,rfl,hrest⟩:=hrel;by_cases hlt:k<len
      · obtain⟨x,y,m,hx,hd,hb,hz,hz2,c1,c2,c3⟩:=HR.out.tri hlt;have HT:=lH (hrest.symm.trans ((congrArg (fun z=>z.all Zk) hd).trans (all_cons _ _ _)));clear hrest hx hd;unfold maxLen at hz hz2;by_cases e:x.size≤50
        · by_cases e2:y.size≤50
          · have E:=lH (show Zk (x,y,m)=true by unfold Zk;rw[decide_eq_true e,decide_eq_true e2];rfl);go_wp2;go_round
            case rel=>exact⟨k+1,by omega,by go_num,(HT.out.trans (by rw[E.out];exact Bool.true_and _)).symm⟩
            case measure=>simp[intOf];omega
          · have E:=lH (show Zk (x,y,m)=false by unfold Zk;rw[decide_eq_false e2];exact Bool.and_false _);have e2':50<y.size:=by omega
            clear e2;go_wp2;go_ret;exact⟨jh (HV.out.trans (HT.out.trans (by rw[E.out];exact Bool.false_and _))).symm,rfl⟩
        · have E:=lH (show Zk (x,y,m)=false by unfold Zk;rw[decide_eq_false e];exact Bool.false_and _);have e':50<x.size:=by omega
          clear e;go_wp2;go_ret;exact⟨jh (HV.out.trans (HT.out.trans (by rw[E.out];exact Bool.false_and _))).symm,rfl⟩
      · have HS:=lH ((HV.out.trans hrest.symm).trans (congrArg (fun z=>z.all Zk) (JS (by rw[HL.out];exact hlt))));clear hrest;go_wp2;go_ret;exact⟨jh (HS.out.trans rfl).symm,rfl⟩
 · have HV:=lH (show J5 l=false by unfold J5;rw[decide_eq_false (by omega)];rfl);have h9:20<len:=by omega
   clear h20 hr hl;go_enter Tryz.func57,Tryz.ntmps57;go_wp2;go_ret;exact⟨jh HV.out.symm,rfl⟩
theorem jmf (a:Option Addr) (len cap:Nat) (l:NL) (w:World) (hr:jr jq w a len l) :
 Calls Tryz.prog 58 #[.slice a len cap] w fun e w'=>e=.returned (.bool (J5 l))∧w=w':=by
 have hl:=hr.1;have hm:=hr.2.1;unfold maxLen at hm;by_cases h20:len≤20
 · have HV:=lH (show J5 l=l.all Zk by unfold J5;rw[decide_eq_true (by omega)];rfl);rcases hr.form with h0 | ⟨b,off,rfl⟩
   · subst h0;have HE:=lH (show J5 l=true by rw[HV.out,List.eq_nil_of_length_eq_zero hl];rfl);clear hr hl;go_enter Tryz.func58,Tryz.ntmps58;go_wp2;refine wp_loop_rounds 1 ?_;rw[rounds_succ];go_wp2;go_ret;exact⟨jh HE.out.symm,rfl⟩
   · have HR:=lH hr;have HL:=lH hl;clear hr hl;go_enter Tryz.func58,Tryz.ntmps58;go_wp2;go_loop [3] (fun i=>∃k:Nat,k≤len∧i=.int .i64 k∧(l.drop k).all Zk=l.all Zk) (fun i=>len-(intOf i).toNat)
     case atStart=>exact⟨0,Nat.zero_le _,rfl,rfl⟩
     case round =>
      obtain⟨k,hk,rfl,hrest⟩:=hrel;by_cases hlt:k<len
      · obtain⟨x,y,m,hx,hd,hb,hz,hz2,c1,c2,c3⟩:=HR.out.tri hlt;have HT:=lH (hrest.symm.trans ((congrArg (fun z=>z.all Zk) hd).trans (all_cons _ _ _)));clear hrest hx hd;unfold maxLen at hz hz2;by_cases e:x.size≤50
        · by_cases e2:y.size≤50
          · have E:=lH (show Zk (x,y,m)=true by unfold Zk;rw[decide_eq_true e,decide_eq_true e2];rfl);go_wp2;go_round
            case rel=>exact⟨k+1,by omega,by go_num,(HT.out.trans (by rw[E.out];exact Bool.true_and _)).symm⟩
            case measure=>simp[intOf];omega
          · have E:=lH (show Zk (x,y,m)=false by unfold Zk;rw[decide_eq_false e2];exact Bool.and_false _);have e2':50<y.size:=by omega
            clear e2;go_wp2;go_ret;exact⟨jh (HV.out.trans (HT.out.trans (by rw[E.out];exact Bool.false_and _))).symm,rfl⟩
        · have E:=lH (show Zk (x,y,m)=false by unfold Zk;rw[decide_eq_false e];exact Bool.false_and _);have e':50<x.size:=by omega
          clear e;go_wp2;go_ret;exact⟨jh (HV.out.trans (HT.out.trans (by rw[E.out];exact Bool.false_and _))).symm,rfl⟩
      · have HS:=lH ((HV.out.trans hrest.symm).trans (congrArg (fun z=>z.all Zk) (JS (by rw[HL.out];exact hlt))));clear hrest;go_wp2;go_ret;exact⟨jh (HS.out.trans rfl).symm,rfl⟩
 · have HV:=lH (show J5 l=false by unfold J5;rw[decide_eq_false (by omega)];rfl);have h9:20<len:=by omega
   clear h20 hr hl;go_enter Tryz.func58,Tryz.ntmps58;go_wp2;go_ret;exact⟨jh HV.out.symm,rfl⟩
theorem joG {v:Value} {l:NL} {w:World} (h:Reads jq w v l):Calls Tryz.prog 57 #[v] w fun e w'=>e=.returned (.bool (J5 l))∧w=w':=by
 obtain⟨a,cap,rfl,_,_,hr⟩:=h;exact jlA a _ cap l w hr
theorem jo0 {v:Value} {l:NL} {w:World} (h:Reads jq w v l):Calls Tryz.prog 58 #[v] w fun e w'=>e=.returned (.bool (J5 l))∧w=w':=by
 obtain⟨a,cap,rfl,_,_,hr⟩:=h;exact jmf a _ cap l w hr
theorem Xd {s:NL} (h:J5 s=true):s.length≤20∧∀x ∈ s,x.1.size≤50∧x.2.1.size≤50:=by
 unfold J5 at h;simp only[Bool.and_eq_true,decide_eq_true_eq,List.all_eq_true] at h;refine⟨h.1,fun x hx=>?_⟩;have:=h.2 x hx;unfold Zk at this;simpa using this
theorem jmj:(Tryz.prog.info? 224).map (fun i=>(i.zero,i.size,i.bytes))=some (some (.agg #[.string ByteArray.empty,.string ByteArray.empty,.bool false]),3,40):=by kernel_rfl
theorem jnH (a:Option Addr) (len cap:Nat) (l:NL) (w:World) (hr:jr jq w a len l) (hlen:len≤1000000) :
 Calls Tryz.prog 110 #[.slice a len cap] w (fun e w'=>∃x,e=.returned x∧Own jq 224 w' w.heap.size x l∧Kept w w'):=by
 have hl:=hr.1;obtain⟨i0,hi,hz0,hz1,hz2'⟩:=info_parts jmj;rcases hr.form with h0 | ⟨b,off,rfl⟩
 · subst h0;have hl0:l=[]:=List.eq_nil_of_length_eq_zero hl;subst hl0;clear hr hl hi hz0 hz1 hz2';go_enter Tryz.func110,Tryz.ntmps110;go_wp2;refine wp_loop_rounds 1 ?_;rw[rounds_succ];go_wp2;go_ret;exact⟨_,rfl,Own.nil _ _ _,Kept.refl _⟩
 · have HR:=lH hr;have HL:=lH hl;clear hr hl;go_enter Tryz.func110,Tryz.ntmps110;go_wp2;go_loopw [3,4] (fun v i wr=>∃k:Nat,k≤len∧i=.int .i64 k∧Own jq 224 wr w.heap.size v (l.take k)∧Below w.heap.size w wr) (fun _ i _=>len-(intOf i).toNat)
   case atStart=>exact⟨0,Nat.zero_le _,rfl,Own.nil _ _ _,Below.refl _ _⟩
   case round =>
    obtain⟨k,hk,rfl,ho,hB⟩:=hrel;have HO:=lH ho;have HB:=lH hB;have HT:=lH (show (l.take k).length=k by rw[List.length_take,HL.out];omega);have HOWN:=lH (show wr.ownsRow w.heap.size 224 3 u3 k (jd jq (l.take k)) by have:=HO.out.1;rw[HT.out] at this;exact this);by_cases hlt:k<len
    · obtain⟨x,y,m,hx,hd,hb,hz,hz2,c0,c1,c2⟩:=(HR.out.kept hB).tri hlt;have HX:=lH hx;have hbw:b<w.heap.size:=by obtain⟨z,_,_,h,_⟩:=HR.out.cells hlt;exact h
      have hbase:w.heap.size≤wr.heap.size:=hB.size;have HNE:=lH (show u3.ownBlock≠some b by
       intro e;have:=(HOWN.out.lt b e).1;omega)
      have HBASE:=lH (show w.heap.size≤(wr.alloc (.cells #[.string x,.string y,.bool m] 224)).drew.heap.size by simp;omega);have HBD:=lH (show Below w.heap.size w ((wr.alloc (.cells #[.string x,.string y,.bool m] 224)).drew) from HB.out.trans (Below.mono ((ja wr _).trans (Kept.drewN _ 1)) hbase));have hk1:(k:Int)<(len:Int):=by omega
      have HFK:=lH (show jq.fine (x,y,m) from⟨hz,hz2⟩);clear ho hB hx hd hz hz2;go_wp2_with fail
      go_region_held3 (fun W=>W.cell? ⟨b,off+k*3,none⟩=some (.string x)∧W.cell? ⟨b,off+k*3+1,none⟩=some (.string y)∧W.cell? ⟨b,off+k*3+2,none⟩=some (.bool m))
       (first
         | go_keep
         | (go_split_ands
            refine⟨?_,?_,?_⟩
            · (refine(hgrow.cell_far ⟨b,off+k*3,none⟩ (by simp;omega) (Ne.symm HNE.out)).trans ?_;assumption)
            · (refine(hgrow.cell_far ⟨b,off+k*3+1,none⟩ (by simp;omega) (Ne.symm HNE.out)).trans ?_;assumption)
            · (refine(hgrow.cell_far ⟨b,off+k*3+2,none⟩ (by simp;omega) (Ne.symm HNE.out)).trans ?_;assumption)))
       ((refine step_append_lies _ (by rfl) _ _ _ (by rfl) w.heap.size 224 i0 _ 3 40 Tryz.underlying87 hi hz0 hz1 hz2' rfl (by decide) u3 k (jd jq (l.take k)) (by rfl) ((HOWN.out.alloc _).drew)
          ⟨wr.heap.size,0,none⟩ 1 1 [.string x,.string y,.bool m] (by rfl) (by rfl) (World.news_of_block (cs:=#[.string x,.string y,.bool m]) (t:=224) (fr:=(0,0)) (heap_alloc_new wr _)) (jap x y m)
          (by decide) (by unfold maxLen;omega) (by omega) (by simp;omega) (wr.heap.size+1) (by simp) ?_;intro gg cap1 w1 hown1 hgrow hat hlt1))
      all_goals
       go_wp2;go_roundw
       case rel=>exact⟨k+1,by omega,by go_num,by rw[zW HX.out];exact Own.snoc hown1 (by rw[HT.out]) HO.out.2 HFK.out,HBD.out.grown hgrow HBASE.out (fun j hj=>(HOWN.out.lt j hj).1)⟩
       case measure=>simp[intOf];omega
    · have HK:=lH (show l.take k=l by rw[List.take_of_length_le (by rw[HL.out];omega)]);clear ho hB;go_wp2;go_ret;exact⟨_,rfl,by have h:=HO.out;rw[HK.out] at h;exact h,HB.out⟩
theorem jmc:(Tryz.prog.info? 226).map (fun i=>(i.zero,i.size,i.bytes))=some (some (.agg #[.string ByteArray.empty,.string ByteArray.empty,.bool false]),3,40):=by kernel_rfl
theorem jnu (a:Option Addr) (len cap:Nat) (l:NL) (w:World) (hr:jr jq w a len l) (hlen:len≤1000000) :
 Calls Tryz.prog 112 #[.slice a len cap] w (fun e w'=>∃x,e=.returned x∧Own jq 226 w' w.heap.size x l∧Kept w w'):=by
 have hl:=hr.1;obtain⟨i0,hi,hz0,hz1,hz2'⟩:=info_parts jmc;rcases hr.form with h0 | ⟨b,off,rfl⟩
 · subst h0;have hl0:l=[]:=List.eq_nil_of_length_eq_zero hl;subst hl0;clear hr hl hi hz0 hz1 hz2';go_enter Tryz.func112,Tryz.ntmps112;go_wp2;refine wp_loop_rounds 1 ?_;rw[rounds_succ];go_wp2;go_ret;exact⟨_,rfl,Own.nil _ _ _,Kept.refl _⟩
 · have HR:=lH hr;have HL:=lH hl;clear hr hl;go_enter Tryz.func112,Tryz.ntmps112;go_wp2;go_loopw [3,4] (fun v i wr=>∃k:Nat,k≤len∧i=.int .i64 k∧Own jq 226 wr w.heap.size v (l.take k)∧Below w.heap.size w wr) (fun _ i _=>len-(intOf i).toNat)
   case atStart=>exact⟨0,Nat.zero_le _,rfl,Own.nil _ _ _,Below.refl _ _⟩
   case round =>
    obtain⟨k,hk,rfl,ho,hB⟩:=hrel;have HO:=lH ho;have HB:=lH hB;have HT:=lH (show (l.take k).length=k by rw[List.length_take,HL.out];omega);have HOWN:=lH (show wr.ownsRow w.heap.size 226 3 u3 k (jd jq (l.take k)) by have:=HO.out.1;rw[HT.out] at this;exact this);by_cases hlt:k<len
    · obtain⟨x,y,m,hx,hd,hb,hz,hz2,c0,c1,c2⟩:=(HR.out.kept hB).tri hlt;have HX:=lH hx;have hbw:b<w.heap.size:=by obtain⟨z,_,_,h,_⟩:=HR.out.cells hlt;exact h
      have hbase:w.heap.size≤wr.heap.size:=hB.size;have HNE:=lH (show u3.ownBlock≠some b by
       intro e;have:=(HOWN.out.lt b e).1;omega)
      have HBASE:=lH (show w.heap.size≤(wr.alloc (.cells #[.string x,.string y,.bool m] 226)).drew.heap.size by simp;omega);have HBD:=lH (show Below w.heap.size w ((wr.alloc (.cells #[.string x,.string y,.bool m] 226)).drew) from HB.out.trans (Below.mono ((ja wr _).trans (Kept.drewN _ 1)) hbase));have hk1:(k:Int)<(len:Int):=by omega
      have HFK:=lH (show jq.fine (x,y,m) from⟨hz,hz2⟩);clear ho hB hx hd hz hz2;go_wp2_with fail
      go_region_held3 (fun W=>W.cell? ⟨b,off+k*3,none⟩=some (.string x)∧W.cell? ⟨b,off+k*3+1,none⟩=some (.string y)∧W.cell? ⟨b,off+k*3+2,none⟩=some (.bool m))
       (first
         | go_keep
         | (go_split_ands
            refine⟨?_,?_,?_⟩
            · (refine(hgrow.cell_far ⟨b,off+k*3,none⟩ (by simp;omega) (Ne.symm HNE.out)).trans ?_;assumption)
            · (refine(hgrow.cell_far ⟨b,off+k*3+1,none⟩ (by simp;omega) (Ne.symm HNE.out)).trans ?_;assumption)
            · (refine(hgrow.cell_far ⟨b,off+k*3+2,none⟩ (by simp;omega) (Ne.symm HNE.out)).trans ?_;assumption)))
       ((refine step_append_lies _ (by rfl) _ _ _ (by rfl) w.heap.size 226 i0 _ 3 40 Tryz.underlying84 hi hz0 hz1 hz2' rfl (by decide) u3 k (jd jq (l.take k)) (by rfl) ((HOWN.out.alloc _).drew)
          ⟨wr.heap.size,0,none⟩ 1 1 [.string x,.string y,.bool m] (by rfl) (by rfl) (World.news_of_block (cs:=#[.string x,.string y,.bool m]) (t:=226) (fr:=(0,0)) (heap_alloc_new wr _)) (jap x y m)
          (by decide) (by unfold maxLen;omega) (by omega) (by simp;omega) (wr.heap.size+1) (by simp) ?_;intro gg cap1 w1 hown1 hgrow hat hlt1))
      all_goals
       go_wp2;go_roundw
       case rel=>exact⟨k+1,by omega,by go_num,by rw[zW HX.out];exact Own.snoc hown1 (by rw[HT.out]) HO.out.2 HFK.out,HBD.out.grown hgrow HBASE.out (fun j hj=>(HOWN.out.lt j hj).1)⟩
       case measure=>simp[intOf];omega
    · have HK:=lH (show l.take k=l by rw[List.take_of_length_le (by rw[HL.out];omega)]);clear ho hB;go_wp2;go_ret;exact⟨_,rfl,by have h:=HO.out;rw[HK.out] at h;exact h,HB.out⟩
def jdy (W:World) (N:Nat):Prop:=∀o x u,W.cell? ⟨N,o,none⟩=some (.string x)→W.cell? ⟨N,o+1,none⟩=some u→∃a n c,u=.slice a n c
theorem jkV {W:World} {N:Nat} {x:ByteArray} {a1 a2 a3:Option Addr} {m1 c1 m2 c2 m3 c3:Nat} {b:Bool} {T:TypeId} {fr:Nat×Nat} (hh:W.heap[N]?=some (.cells #[.string x,.slice a1 m1 c1,.slice a2 m2 c2,.slice a3 m3 c3,.bool b] T fr)):jdy W N:=by
 intro o y u h1 h2;rw[Lib.cell_of_heap hh] at h1 h2
 match o,h1,h2 with
 | 0,_,h2=>exact⟨a1,m1,c1,by simpa using h2.symm⟩
 | 1,h1,_=>simp at h1
 | 2,h1,_=>simp at h1
 | 3,h1,_=>simp at h1
 | 4,h1,_=>simp at h1
 | o+5,h1,_=>simp at h1
theorem jfz {w w':World} {v:Value} {l:Vec.V} {N:Nat} (h:Vec.Reads w v l) (hs:w'.heap.size=w.heap.size) (hb:∀b,b≠N→w'.heap[b]?=w.heap[b]?) (hn:jdy w N):Vec.Reads w' v l:=by
 obtain⟨a,cap,rfl,h1,h2,h3,h4,h5,h6⟩:=h;refine⟨a,cap,rfl,h1,h2,h3,h4,h5,?_⟩;rcases h6 with h6 | ⟨b,off,rfl,hlt,hc⟩
 · exact .inl h6
 · by_cases h0:l.length=0
   · exact .inl h0
   · have hne:b≠N:=by
      rintro rfl;obtain⟨c0,c1⟩:=hc 0 (by omega);obtain⟨_,_,_,e⟩:=hn _ _ _ c0 c1
      cases e
     exact .inr ⟨b,off,rfl,by rw[hs];exact hlt,fun i hi=>⟨(World.cell?_of_block (a:=⟨b,off+i*2,none⟩) (hb b hne)).trans (hc i hi).1,(World.cell?_of_block (a:=⟨b,off+i*2+1,none⟩) (hb b hne)).trans (hc i hi).2⟩⟩
theorem jdg {α:Type} {L:Lay α} {w w':World} {v:Value} {l:List α} {N:Nat} (hL:∀x,∃s t,(L.cs x)[0]?=some (.string s)∧(L.cs x)[1]?=some (.string t)) (h:Reads L w v l) (hs:w'.heap.size=w.heap.size) (hb:∀b,b≠N→w'.heap[b]?=w.heap[b]?) (hn:jdy w N):Reads L w' v l:=by
 obtain⟨a,cap,rfl,h1,h2,h3,h4,h5,h6⟩:=h;refine⟨a,cap,rfl,h1,h2,h3,h4,h5,?_⟩;rcases h6 with h6 | ⟨b,off,rfl,hlt,hc⟩
 · exact .inl h6
 · cases l with
   | nil=>exact .inl rfl
   | cons x t =>
    have hne:b≠N:=by
     rintro rfl;obtain⟨s,u,g0,g1⟩:=hL x;have c0:=hc 0 x 0 _ rfl g0;have c1:=hc 0 x 1 _ rfl g1;obtain⟨_,_,_,e⟩:=hn _ _ _ c0 c1
     cases e
    exact .inr ⟨b,off,rfl,by rw[hs];exact hlt,fun i x j u hi hj=>(World.cell?_of_block (a:=⟨b,off+i*L.m+j,none⟩) (hb b hne)).trans (hc i x j u hi hj)⟩
theorem jow (x:ByteArray×ByteArray):∃s t,(js.cs x)[0]?=some (.string s)∧(js.cs x)[1]?=some (.string t):=⟨x.1,x.2,rfl,rfl⟩
theorem jn8 (x:NT):∃s t,(jq.cs x)[0]?=some (.string s)∧(jq.cs x)[1]?=some (.string t):=⟨x.1,x.2.1,rfl,rfl⟩
theorem jbN {w w':World} {v1 v2 v3:Value} {n:Nod} {N:Nat} (h:Jo w v1 v2 v3 n) (hs:w'.heap.size=w.heap.size) (hb:∀b,b≠N→w'.heap[b]?=w.heap[b]?) (hn:jdy w N):Jo w' v1 v2 v3 n :=
 ⟨h.size,jfz h.cap hs hb hn,jdg jow h.labels hs hb hn,jdg jn8 h.taints hs hb hn⟩
theorem jl3 {s a b c d e:List UInt8} (hp:je 32 s=[a,b,c,d,e]) (h:XY e=true):Zg s=some [a,b,c,d,e]:=by
 unfold Zg;rw[hp,if_pos ⟨rfl,h⟩]
abbrev SX:=Option Addr×Nat×Nat
abbrev NX:=Nod×SX×SX×SX
abbrev slV (x:SX):Value:=.slice x.1 x.2.1 x.2.2
abbrev jpa (z:NX):Value:=.agg #[.string z.1.name,slV z.2.1,slV z.2.2.1,slV z.2.2.2,.bool z.1.cordon]
def At3 (w:World) (z:NX):Prop:=Jo w (slV z.2.1) (slV z.2.2.1) (slV z.2.2.2) z.1
def qD (lo hi:Nat) (z:NX):Prop:=(∀b off sp,z.2.1.1=some ⟨b,off,sp⟩→lo≤b∧b<hi)∧(∀b off sp,z.2.2.1.1=some ⟨b,off,sp⟩→lo≤b∧b<hi)∧(∀b off sp,z.2.2.2.1=some ⟨b,off,sp⟩→lo≤b∧b<hi)
theorem jey {T:TypeId} {w w':World} {e:Ending} {l:Vec.V} (h:∃x,e=.returned x∧Vec.jH T w' w.heap.size x l∧Kept w w'):∃a m c,e=.returned (.slice a m c)∧Vec.Reads w' (.slice a m c) l∧(∀b off sp,a=some ⟨b,off,sp⟩→w.heap.size≤b∧b<w'.heap.size)∧Kept w w':=by
 obtain⟨x,rfl,ho,k⟩:=h;obtain⟨a,cap,rfl,h⟩:=ho.at_;exact⟨a,_,cap,rfl,⟨a,cap,rfl,h⟩,fun b off sp e=>ho.1.lt b (by subst e;rfl),k⟩
theorem Xe {α:Type} {L:Lay α} {T:TypeId} {w w':World} {e:Ending} {l:List α} (h:∃x,e=.returned x∧Own L T w' w.heap.size x l∧Kept w w'):∃a m c,e=.returned (.slice a m c)∧Reads L w' (.slice a m c) l∧(∀b off sp,a=some ⟨b,off,sp⟩→w.heap.size≤b∧b<w'.heap.size)∧Kept w w':=by
 obtain⟨x,rfl,ho,k⟩:=h;obtain⟨a,cap,rfl,h⟩:=ho.at_;exact⟨a,_,cap,rfl,⟨a,cap,rfl,h⟩,fun b off sp e=>ho.1.lt b (by subst e;rfl),k⟩
theorem jot {v:Value} {l:Vec.V} {w:World} (h:Vec.Reads w v l) (hf:l.length≤1000000) :
 Calls Tryz.prog 108 #[v] w (fun e w'=>∃x,e=.returned x∧Vec.jH 134 w' w.heap.size x l∧Kept w w'):=by
 obtain⟨a,cap,rfl,h1,h2,h3⟩:=h;exact Vec.jfY a _ cap l w h3 hf
theorem jnS {v:Value} {l:PL} {w:World} (h:Reads js w v l) (hf:l.length≤1000000) :
 Calls Tryz.prog 109 #[v] w (fun e w'=>∃x,e=.returned x∧Own js 223 w' w.heap.size x l∧Kept w w'):=by
 obtain⟨a,cap,rfl,h1,h2,h3⟩:=h;exact jfY a _ cap l w h3 hf
theorem jo4 {v:Value} {l:NL} {w:World} (h:Reads jq w v l) (hf:l.length≤1000000) :
 Calls Tryz.prog 110 #[v] w (fun e w'=>∃x,e=.returned x∧Own jq 224 w' w.heap.size x l∧Kept w w'):=by
 obtain⟨a,cap,rfl,h1,h2,h3⟩:=h;exact jnH a _ cap l w h3 hf
theorem jkq {W:World} {q p:Nat} {v0 v1 v2 v3 v4 u0 u1 u2 u3 u4:Value} (h:W.cell? ⟨p,0,none⟩=some v0∧W.cell? ⟨p,1,none⟩=some v1∧W.cell? ⟨p,2,none⟩=some v2∧W.cell? ⟨p,3,none⟩=some v3∧W.cell? ⟨p,4,none⟩=some v4) (hne:p≠q) :
 ((((((W.setCell ⟨q,0,none⟩ u0).setCell ⟨q,1,none⟩ u1).setCell ⟨q,2,none⟩ u2).setCell ⟨q,3,none⟩ u3).setCell ⟨q,4,none⟩ u4).cell? ⟨p,0,none⟩=some v0∧(((((W.setCell ⟨q,0,none⟩ u0).setCell ⟨q,1,none⟩ u1).setCell ⟨q,2,none⟩ u2).setCell ⟨q,3,none⟩ u3).setCell ⟨q,4,none⟩ u4).cell? ⟨p,1,none⟩=some v1∧(((((W.setCell ⟨q,0,none⟩ u0).setCell ⟨q,1,none⟩ u1).setCell ⟨q,2,none⟩ u2).setCell ⟨q,3,none⟩ u3).setCell ⟨q,4,none⟩ u4).cell? ⟨p,2,none⟩=some v2∧(((((W.setCell ⟨q,0,none⟩ u0).setCell ⟨q,1,none⟩ u1).setCell ⟨q,2,none⟩ u2).setCell ⟨q,3,none⟩ u3).setCell ⟨q,4,none⟩ u4).cell? ⟨p,3,none⟩=some v3∧(((((W.setCell ⟨q,0,none⟩ u0).setCell ⟨q,1,none⟩ u1).setCell ⟨q,2,none⟩ u2).setCell ⟨q,3,none⟩ u3).setCell ⟨q,4,none⟩ u4).cell? ⟨p,4,none⟩=some v4):=by
 have hb:=qc W q u0 u1 u2 u3 u4 p hne;exact⟨(World.cell?_of_block (a:=⟨p,0,none⟩) hb).trans h.1,(World.cell?_of_block (a:=⟨p,1,none⟩) hb).trans h.2.1,(World.cell?_of_block (a:=⟨p,2,none⟩) hb).trans h.2.2.1,(World.cell?_of_block (a:=⟨p,3,none⟩) hb).trans h.2.2.2.1,(World.cell?_of_block (a:=⟨p,4,none⟩) hb).trans h.2.2.2.2⟩
theorem jnw (n:Nod) (v1 v2 v3:Value) (w:World) (h:Jo w v1 v2 v3 n) (hl:zO n) :
 Calls Tryz.prog 64 #[Jy n v1 v2 v3] w fun e w'=>∃z:NX,e=.returned (jpa z)∧z.1=n∧At3 w' z∧qD w.heap.size w'.heap.size z∧Kept w w':=by
 obtain⟨W0,hW0⟩:∃W0,(w.alloc (.cells #[.string n.name,v1,v2,v3,.bool n.cordon] 42)).alloc (.cells #[.string ⟨#[]⟩,.slice none 0 0,.slice none 0 0,.slice none 0 0,.bool false] 89)=W0:=⟨_,rfl⟩
 have hk0:Kept w W0:=by rw[←hW0];exact jk _ _ _
 have HB:=lH (show ∀W,Kept W0 W→W.cell? ⟨w.heap.size,0,none⟩=some (.string n.name)∧W.cell? ⟨w.heap.size,1,none⟩=some v1∧W.cell? ⟨w.heap.size,2,none⟩=some v2∧W.cell? ⟨w.heap.size,3,none⟩=some v3∧W.cell? ⟨w.heap.size,4,none⟩=some (.bool n.cordon) from fun W k=>(YC w _ _ _ _ _ 42 W ((by rw[←hW0];exact ja _ _:Kept (w.alloc (.cells #[.string n.name,v1,v2,v3,.bool n.cordon] 42)) W0).trans k)).1);have HQ:=lH (show ∀W,Kept W0 W→zU (w.heap.size+1) (.string ⟨#[]⟩) (.slice none 0 0) (.slice none 0 0) (.slice none 0 0) (.bool false) W from fun W k=>by
  have:=YC (w.alloc (.cells #[.string n.name,v1,v2,v3,.bool n.cordon] 42)) (.string ⟨#[]⟩) (.slice none 0 0) (.slice none 0 0) (.slice none 0 0) (.bool false) 89 W (by rw[hW0];exact k);rw[World.size_alloc] at this;exact this)
 have HH:=lH (show W0.heap[w.heap.size+1]?=some (.cells #[.string ⟨#[]⟩,.slice none 0 0,.slice none 0 0,.slice none 0 0,.bool false] 89) by
  have:=(w.alloc (.cells #[.string n.name,v1,v2,v3,.bool n.cordon] 42)).alloc_heap_new (.cells #[.string ⟨#[]⟩,.slice none 0 0,.slice none 0 0,.slice none 0 0,.bool false] 89);rw[hW0,World.size_alloc] at this;exact this)
 have H1:=lH (fun W (k:Kept W0 W)=>(jot (h.cap.kept (hk0.trans k)) hl.cap).mono fun _ _=>jey);have H2:=lH (fun W (k:Kept W0 W)=>(jnS (h.labels.kept (hk0.trans k)) hl.labels).mono fun _ _=>Xe);have H3:=lH (fun W (k:Kept W0 W)=>(jo4 (h.taints.kept (hk0.trans k)) hl.taints).mono fun _ _=>Xe);have HSZ:=lH h.size;have HK0:=lH hk0;obtain⟨⟨nm,l1,l2,l3,cd⟩,hnn⟩:∃m,m=n:=⟨n,rfl⟩
 subst hnn;dsimp only at H1 H2 H3 HSZ HB hW0;obtain⟨b0,b1,b2,b3,b4⟩:=HB.out _ (Kept.refl _);clear h hl hk0;unfold Jy;dsimp only;go_enter Tryz.func64,Tryz.ntmps64;go_wp2;try rw[hW0]
 clear hW0;go_region_held3 (fun W=>(W.cell? ⟨w.heap.size,0,none⟩=some (.string nm)∧W.cell? ⟨w.heap.size,1,none⟩=some v1∧W.cell? ⟨w.heap.size,2,none⟩=some v2∧W.cell? ⟨w.heap.size,3,none⟩=some v3∧W.cell? ⟨w.heap.size,4,none⟩=some (.bool cd)))
  (first | exact HB.out _ (Kept.drew _) | exact HB.out _ K1.out | exact HB.out _ K2.out | exact HB.out _ K3.out | exact jkq (HB.out _ K3.out) (by omega))
  (first | (go_at_call 108;refine(H1.out _ (Kept.drew _)).mono ?_;rintro e1 w1 ⟨a1,m1,c1,rfl,r1,g1,k1⟩;have G1:=lH (show ∀b off sp,a1=some ⟨b,off,sp⟩→w.heap.size≤b∧b<w1.heap.size from fun b o s e=>⟨Nat.le_trans HK0.out.size (g1 b o s e).1,(g1 b o s e).2⟩);have K1:=lH ((Kept.drew _).trans k1);have R1:=lH r1;clear k1 r1 g1)
         | (go_at_call 109;refine(H2.out _ K1.out).mono ?_;rintro e2 w2 ⟨a2,m2,c2,rfl,r2,g2,k2⟩;have G2:=lH (show ∀b off sp,a2=some ⟨b,off,sp⟩→w.heap.size≤b∧b<w2.heap.size from fun b o s e=>⟨Nat.le_trans HK0.out.size (Nat.le_trans K1.out.size (g2 b o s e).1),(g2 b o s e).2⟩);have G1:=lH (show ∀b off sp,a1=some ⟨b,off,sp⟩→w.heap.size≤b∧b<w2.heap.size from fun b o s e=>⟨(G1.out b o s e).1,Nat.lt_of_lt_of_le (G1.out b o s e).2 k2.size⟩);have R1:=lH (R1.out.kept k2);have K2:=lH (K1.out.trans k2);have R2:=lH r2;clear k2 r2 g2)
         | (go_at_call 110;refine(H3.out _ K2.out).mono ?_;rintro e3 w3 ⟨a3,m3,c3,rfl,r3,g3,k3⟩;have G3:=lH (show ∀b off sp,a3=some ⟨b,off,sp⟩→w.heap.size≤b∧b<w3.heap.size from fun b o s e=>⟨Nat.le_trans HK0.out.size (Nat.le_trans K2.out.size (g3 b o s e).1),(g3 b o s e).2⟩);have G1:=lH (show ∀b off sp,a1=some ⟨b,off,sp⟩→w.heap.size≤b∧b<w3.heap.size from fun b o s e=>⟨(G1.out b o s e).1,Nat.lt_of_lt_of_le (G1.out b o s e).2 k3.size⟩);have G2:=lH (show ∀b off sp,a2=some ⟨b,off,sp⟩→w.heap.size≤b∧b<w3.heap.size from fun b o s e=>⟨(G2.out b o s e).1,Nat.lt_of_lt_of_le (G2.out b o s e).2 k3.size⟩);have R1:=lH (R1.out.kept k3);have R2:=lH (R2.out.kept k3);have K3:=lH (K2.out.trans k3);have R3:=lH r3;clear k3 r3 g3;obtain⟨⟨y0,y1,y2,y3,y4⟩,x0,x1,x2,x3,x4⟩:=HQ.out _ K3.out))
 have P:=lH (Xk ⟨y0,y1,y2,y3,y4⟩ nm a1 a2 a3 m1 c1 m2 c2 m3 c3 cd);have HZ:=lH ((K3.out.block (w.heap.size+1) (Array.getElem?_eq_some_iff.1 HH.out).1).trans HH.out);go_wp2;obtain⟨WE,hWE⟩:∃W,(((((w3.setCell ⟨w.heap.size+1,0,none⟩ (.string nm)).setCell ⟨w.heap.size+1,1,none⟩ (.slice a1 m1 c1)).setCell ⟨w.heap.size+1,2,none⟩ (.slice a2 m2 c2)).setCell ⟨w.heap.size+1,3,none⟩ (.slice a3 m3 c3)).setCell ⟨w.heap.size+1,4,none⟩ (.bool cd))=W:=⟨_,rfl⟩
 rw[hWE] at P ⊢;clear hWE y0 y1 y2 y3 y4 x0 x1 x2 x3 x4;obtain⟨⟨d0,d1,d2,d3,d4⟩,hsz,hbl,hkp⟩:=P.out;refine bodyPost_ret (by simp[results,Tryz.results64,go_sem,d0,d1,d2,d3,d4];try rfl) rfl ?_;exact⟨(⟨nm,l1,l2,l3,cd⟩,(a1,m1,c1),(a2,m2,c2),(a3,m3,c3)),rfl,rfl,jbN (n:=⟨nm,l1,l2,l3,cd⟩) ⟨HSZ.out,R1.out,R2.out,R3.out⟩ hsz hbl (jkV HZ.out),⟨fun b o s e=>by rw[hsz];exact G1.out b o s e,fun b o s e=>by rw[hsz];exact G2.out b o s e,fun b o s e=>by rw[hsz];exact G3.out b o s e⟩,hkp _ _ (Nat.le_succ _) (HK0.out.trans K3.out)⟩
open Go.ChangeShapes Go.WideShapes Go.ChangeAt Go.RowKit Go.Deep
theorem ZL:Tryz.prog.cellsOf 9=1:=by kernel_rfl
theorem zX {α:Type} (L:Lay α) {t e:TypeId} (ht:Tryz.prog.underlying t=some (.slice e)) (hc:Tryz.prog.cellsOf e=L.m) {H:Type} {enc:TypeId×Value→H} {w:World} {base fuel:Nat} {sp:Nat→Bool} {held:Bool} {v:Value} {x:DataW H×List MemPlace}
 (el:∀(m:Nat) (cs:List Value) (x:DataW H×List MemPlace),DataW.trod enc Tryz.prog w base sp held m e cs=some x→∃a,cs=L.cs a∧L.fine a)
 (h:DataW.trod enc Tryz.prog w base sp held fuel t [v]=some x):∃l,Reads L w v l:=by
 rcases open_slice ht h with ⟨hcs,-⟩ | ⟨a,len,cap,m,n,D,Pl,hcs,hb,hl,hm,hmm,hx,hi⟩
 · cases hcs;exact⟨[],Reads.nil w⟩
 · cases hcs
   have hlm:len≤m:=by rw[hmm];split<;>omega
   have key:∀k,k≤len→∃l:List α,l.length=k∧(∀z ∈ l,L.fine z)∧∀i z j u,l[i]?=some z→(L.cs z)[j]?=some u→w.cell? ((a.add (i*L.m)).add j)=some u:=by
    intro k
    induction k with
    | zero=>exact fun _=>⟨[],rfl,(fun z hz=>by cases hz),(fun i z j u hi _=>by simp at hi)⟩
    | succ k ih =>
     intro hk;obtain⟨l,e,hfine,hall⟩:=ih (by omega);obtain⟨cs',hcc,ht'⟩:=hi k (by omega);obtain⟨z0,rfl,hz0⟩:=el _ _ _ ht';rw[hc] at hcc;obtain⟨-,-,hat⟩:=World.cells?_some hcc;refine⟨l++[z0],by simp[e],fun z hz=>?_,fun i z j u hi' hj=>?_⟩
     · rcases List.mem_append.1 hz with g | g
       · exact hfine z g
       · have:z=z0:=by simpa using g
         rw[this];exact hz0
     · by_cases e2:i=k
       · subst e2;have:z0=z:=by simpa [e] using hi'
         subst this;have hjl:j<L.m:=by have:=(List.getElem?_eq_some_iff.1 hj).1;rw[L.len] at this;exact this
         rw[hat j hjl];exact hj
       · have hik:i<l.length:=by have:=(List.getElem?_eq_some_iff.1 hi').1;simp at this;omega
         rw[List.getElem?_append_left hik] at hi';exact hall i z j u hi' hj
   obtain⟨l,e,hfine,hall⟩:=key len (Nat.le_refl _);subst e;refine⟨l,_,cap,rfl,hl,hm,rfl,Nat.le_trans hl hm,hfine,?_⟩;by_cases h0:l.length=0
   · exact .inl h0
   · obtain⟨b,off,spot⟩:=a;have hg:l[0]?=some (l[0]'(by omega)):=List.getElem?_eq_getElem (by omega);have hlz:=L.len (l[0]'(by omega));have hcz:(L.cs (l[0]'(by omega)))[0]?=some ((L.cs (l[0]'(by omega)))[0]'(by rw[hlz];exact L.pos)):=List.getElem?_eq_getElem (by rw[hlz];exact L.pos);have hcell0:=hall 0 _ 0 _ hg hcz;have hspot:spot=none:=by simpa [Addr.add] using World.cell?_spot hcell0
     subst hspot;have hcell:∀i z j u,l[i]?=some z→(L.cs z)[j]?=some u→w.cell? ⟨b,off+i*L.m+j,none⟩=some u:=fun i z j u hi' hj=>by
      have c:=hall i z j u hi' hj;have e:((⟨b,off,none⟩:Addr).add (i*L.m)).add j=⟨b,off+i*L.m+j,none⟩:=by
       unfold Addr.add;split<;>split<;>simp_all
      rw[e] at c;exact c
     exact .inr ⟨b,off,rfl,World.block_lt_of_cell? _ _ (hcell 0 _ 0 _ hg hcz),hcell⟩
theorem jjM {W:World} (hS:W.ShapedOpen Tryz.prog):Env W :=
 ⟨cell_of_shapedOpen_int (zero:=#[.int .i64 0]) (t:=3) hS (of_decide_eq_true (by kernel_rfl)) (by kernel_rfl) rfl (by kernel_rfl) (by kernel_rfl) Tryz.underlying3⟩
end Go.Proofs.YthmddloeggdohaaGreatDoor
