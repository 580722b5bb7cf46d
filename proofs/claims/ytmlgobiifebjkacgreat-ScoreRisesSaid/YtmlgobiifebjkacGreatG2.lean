/- What serves all packages,and package by package the contracts of the functions that the law calls. -/
import Derived.Test.YtmlgobiifebjkacGreatG0
import Derived.Test.YtmlgobiifebjkacGreatG1
set_option linter.unusedVariables false
set_option maxRecDepth 100000
set_option maxHeartbeats 25600000
namespace Go.Proofs.YtmlgobiifebjkacGreat
open Go.RowKit
theorem kindO:Kind 33 131 3 40:=by
 obtain⟨i,hi,hz,h1,h2⟩:=info_parts (show (Tryz.prog.info? 131).map (fun i=>(i.zero,i.size,i.bytes))=some (some (.agg #[.string ByteArray.empty,.string ByteArray.empty,.bool false]),3,40) by kernel_rfl);exact⟨i,_,Tryz.underlying33,hi,hz,h1,h2,rfl,by decide⟩
theorem kindT:Kind 32 129 3 40:=by
 obtain⟨i,hi,hz,h1,h2⟩:=info_parts (show (Tryz.prog.info? 129).map (fun i=>(i.zero,i.size,i.bytes))=some (some (.agg #[.int .i64 0,.string ByteArray.empty,.string ByteArray.empty]),3,40) by kernel_rfl);exact⟨i,_,Tryz.underlying32,hi,hz,h1,h2,rfl,by decide⟩
theorem cloneO_any (a:Option Addr) (len cap:Nat) (l:NL) (w:World) (hr:RowAt TaLay w a len l) (hc:len≤cap) (hm:cap≤maxLen) (hn:len≤1000000) :
 Calls Tryz.prog 127 #[.slice a len cap] w fun e w'=>∃a' m' c',e=.returned (.slice a' m' c')∧Reads TaLay w' (.slice a' m' c') l∧(∀b off sp,a'=some ⟨b,off,sp⟩→w.heap.size≤b)∧Kept w w':=by
 have hl:=hr.1;have q22:∀(w:World) (a:Option Addr) (n c n' c':Nat),(binOp .eql 33 (.slice a n c) (.slice none n' c')).run Tryz.prog w=.ok (.bool a.isNone) w:=fun w a n c n' c'=>Lib.run_eql_slice_nil w _ _ a n c n' c' Tryz.underlying33
 cases a with
 | none =>
  have h0:len=0:=by
   rcases hr.form with h | ⟨b,off,h⟩
   · exact h
   · cases h
  subst h0;have hl0:l=[]:=List.eq_nil_of_length_eq_zero hl;subst hl0;clear hr hl;go_enter Tryz.func127,Tryz.ntmps127;go_wp2;go_ret;exact⟨none,0,0,rfl,Reads.nil _,(fun b o s e=>by cases e),Kept.refl _⟩
 | some ad =>
  have HR:=lH hr;have HL:=lH hl;have hrl:(rowCells TaLay l).length=len*3:=by rw[rowCells_length,hl];rfl
  have hb1:0+len≤maxLen:=by unfold maxLen;omega
  have hb2:((0+len)+(0+len) / 4+192)*40≤281474976710656:=by omega
  clear hr hl;go_enter Tryz.func127,Tryz.ntmps127;go_wp2_with (at_builtin;refine wpList_app_own kindO _ rfl (.tmp 5) (.tmp 6) rfl w.heap.size (by simp) w.heap.size 0 0 [] rfl (own_empty w w.heap.size 3 _ (Nat.le_refl _)) _ len (rowCells TaLay l) rfl hrl (rowCells_one _ _) (RowAt.src (HR.out.kept (kept_alloc _ _))) hb1 hb2 ?_;intro g1 k1 W1 ho hd hg;have HO:=lH ho;have HD:=lH hd;clear ho hd hg;refine Hid.out ?_)
  refine lH ?_;simp only[Nat.zero_add,List.nil_append] at HO ⊢;go_wp2;go_ret;exact⟨_,_,_,rfl,Own.reads (⟨by rw[HL.out];exact HO.out,HR.out.2.2.1⟩:Own TaLay 131 W1 w.heap.size (.slice (some ⟨g1,0,none⟩) len k1) l),(fun b o s e=>by cases e;exact(HO.out.lt g1 rfl).1),Below.trans (kept_alloc w _) HD.out⟩
theorem cloneT_any (a:Option Addr) (len cap:Nat) (l:TL) (w:World) (hr:RowAt TermLay w a len l) (hc:len≤cap) (hm:cap≤maxLen) (hn:len≤1000000) :
 Calls Tryz.prog 126 #[.slice a len cap] w fun e w'=>∃a' m' c',e=.returned (.slice a' m' c')∧Reads TermLay w' (.slice a' m' c') l∧(∀b off sp,a'=some ⟨b,off,sp⟩→w.heap.size≤b)∧Kept w w':=by
 have hl:=hr.1;have q22:∀(w:World) (a:Option Addr) (n c n' c':Nat),(binOp .eql 32 (.slice a n c) (.slice none n' c')).run Tryz.prog w=.ok (.bool a.isNone) w:=fun w a n c n' c'=>Lib.run_eql_slice_nil w _ _ a n c n' c' Tryz.underlying32
 cases a with
 | none =>
  have h0:len=0:=by
   rcases hr.form with h | ⟨b,off,h⟩
   · exact h
   · cases h
  subst h0;have hl0:l=[]:=List.eq_nil_of_length_eq_zero hl;subst hl0;clear hr hl;go_enter Tryz.func126,Tryz.ntmps126;go_wp2;go_ret;exact⟨none,0,0,rfl,Reads.nil _,(fun b o s e=>by cases e),Kept.refl _⟩
 | some ad =>
  have HR:=lH hr;have HL:=lH hl;have hrl:(rowCells TermLay l).length=len*3:=by rw[rowCells_length,hl];rfl
  have hb1:0+len≤maxLen:=by unfold maxLen;omega
  have hb2:((0+len)+(0+len) / 4+192)*40≤281474976710656:=by omega
  clear hr hl;go_enter Tryz.func126,Tryz.ntmps126;go_wp2_with (at_builtin;refine wpList_app_own kindT _ rfl (.tmp 5) (.tmp 6) rfl w.heap.size (by simp) w.heap.size 0 0 [] rfl (own_empty w w.heap.size 3 _ (Nat.le_refl _)) _ len (rowCells TermLay l) rfl hrl (rowCells_one _ _) (RowAt.src (HR.out.kept (kept_alloc _ _))) hb1 hb2 ?_;intro g1 k1 W1 ho hd hg;have HO:=lH ho;have HD:=lH hd;clear ho hd hg;refine Hid.out ?_)
  refine lH ?_;simp only[Nat.zero_add,List.nil_append] at HO ⊢;go_wp2;go_ret;exact⟨_,_,_,rfl,Own.reads (⟨by rw[HL.out];exact HO.out,HR.out.2.2.1⟩:Own TermLay 129 W1 w.heap.size (.slice (some ⟨g1,0,none⟩) len k1) l),(fun b o s e=>by cases e;exact(HO.out.lt g1 rfl).1),Below.trans (kept_alloc w _) HD.out⟩
def Behind (B:Nat) (a:Option Addr):Prop:=∀b off sp,a=some ⟨b,off,sp⟩→B≤b
theorem Behind.less {B B':Nat} {a:Option Addr} (h:Behind B a) (hb:B'≤B):Behind B' a:=fun b o s e=>Nat.le_trans hb (h b o s e)
theorem Behind.none (B:Nat):Behind B none:=fun _ _ _ e=>by cases e
def PodRB (B:Nat) (w:World) (v:Value) (n:Pd):Prop:=∃b1 n1 d1 b2 n2 d2 b3 n3 d3 b4 n4 d4,v=PodV n (.slice b1 n1 d1) (.slice b2 n2 d2) (.slice b3 n3 d3) (.slice b4 n4 d4)∧PodAt w (.slice b1 n1 d1) (.slice b2 n2 d2) (.slice b3 n3 d3) (.slice b4 n4 d4) n∧Behind B b1∧Behind B b2∧Behind B b3∧Behind B b4
theorem PodRB.toR {B:Nat} {w:World} {v:Value} {n:Pd} (h:PodRB B w v n):PodR w v n:=by
 obtain⟨b1,n1,d1,b2,n2,d2,b3,n3,d3,b4,n4,d4,e,h,_⟩:=h;exact⟨_,_,_,_,e,h⟩
theorem PodAt.far {B:Nat} {w w':World} {n:Pd} {b1 b2 b3 b4:Option Addr} {n1 d1 n2 d2 n3 d3 n4 d4:Nat} (h:PodAt w (.slice b1 n1 d1) (.slice b2 n2 d2) (.slice b3 n3 d3) (.slice b4 n4 d4) n) (hs:w'.heap.size=w.heap.size) (hb:∀b,B≤b→w'.heap[b]?=w.heap[b]?) (g1:Behind B b1) (g2:Behind B b2) (g3:Behind B b3) (g4:Behind B b4):PodAt w' (.slice b1 n1 d1) (.slice b2 n2 d2) (.slice b3 n3 d3) (.slice b4 n4 d4) n :=
 ⟨h.name,h.owner,h.key,h.node,h.prio,h.most,h.need.far hs (fun b o s e=>hb b (g1 b o s e)),h.labels.far hs (fun b o s e=>hb b (g2 b o s e)),h.sel.far hs (fun b o s e=>hb b (g3 b o s e)),h.tols.far hs (fun b o s e=>hb b (g4 b o s e))⟩
theorem PodRB.far {B:Nat} {w w':World} {v:Value} {n:Pd} (h:PodRB B w v n) (hs:w'.heap.size=w.heap.size) (hb:∀b,B≤b→w'.heap[b]?=w.heap[b]?):PodRB B w' v n:=by
 obtain⟨b1,n1,d1,b2,n2,d2,b3,n3,d3,b4,n4,d4,e,h,g1,g2,g3,g4⟩:=h;exact⟨b1,n1,d1,b2,n2,d2,b3,n3,d3,b4,n4,d4,e,h.far hs hb g1 g2 g3 g4,g1,g2,g3,g4⟩
theorem PodRB.less {B B':Nat} {w:World} {v:Value} {n:Pd} (h:PodRB B w v n) (hb:B'≤B):PodRB B' w v n:=by
 obtain⟨b1,n1,d1,b2,n2,d2,b3,n3,d3,b4,n4,d4,e,h,g1,g2,g3,g4⟩:=h;exact⟨b1,n1,d1,b2,n2,d2,b3,n3,d3,b4,n4,d4,e,h,g1.less hb,g2.less hb,g3.less hb,g4.less hb⟩
theorem PodRB.kept {B:Nat} {w w':World} {v:Value} {n:Pd} (h:PodRB B w v n) (k:Kept w w'):PodRB B w' v n:=by
 obtain⟨b1,n1,d1,b2,n2,d2,b3,n3,d3,b4,n4,d4,e,h,g1,g2,g3,g4⟩:=h;exact⟨b1,n1,d1,b2,n2,d2,b3,n3,d3,b4,n4,d4,e,h.kept k,g1,g2,g3,g4⟩
theorem PodAt.spelt {w:World} {v1 v2 v3 v4:Value} {n:Pd} (h:PodAt w v1 v2 v3 v4 n):∃b1 n1 d1 b2 n2 d2 b3 n3 d3 b4 n4 d4,v1=.slice b1 n1 d1∧v2=.slice b2 n2 d2∧v3=.slice b3 n3 d3∧v4=.slice b4 n4 d4:=by
 obtain⟨a1,c1,e1,_⟩:=h.need;obtain⟨a2,c2,e2,_⟩:=h.labels;obtain⟨a3,c3,e3,_⟩:=h.sel;obtain⟨a4,c4,e4,_⟩:=h.tols;exact⟨_,_,_,_,_,_,_,_,_,_,_,_,e1,e2,e3,e4⟩
structure LowPd (n:Pd):Prop where
 need:n.need.length≤1000000
 labels:n.labels.length≤1000000
 sel:n.sel.length≤1000000
 tols:n.tols.length≤1000000
def PodsAt (w:World) (a:Option Addr) (len:Nat) (l:List Pd):Prop :=
 l.length=len∧len≤maxLen∧(len=0∨∃b off,a=some ⟨b,off,none⟩∧b<w.heap.size∧∀i n,l[i]?=some n→∃v1 v2 v3 v4,
  w.cell? ⟨b,off+i*11,none⟩=some (.string n.name)∧w.cell? ⟨b,off+i*11+1,none⟩=some (.string n.owner)∧w.cell? ⟨b,off+i*11+2,none⟩=some (.int .i64 n.prio)∧w.cell? ⟨b,off+i*11+3,none⟩=some (v1)∧w.cell? ⟨b,off+i*11+4,none⟩=some (v2)∧w.cell? ⟨b,off+i*11+5,none⟩=some (v3)∧w.cell? ⟨b,off+i*11+6,none⟩=some (v4)∧w.cell? ⟨b,off+i*11+7,none⟩=some (.string n.key)∧w.cell? ⟨b,off+i*11+8,none⟩=some (.int .i64 n.most)∧w.cell? ⟨b,off+i*11+9,none⟩=some (.string n.node)∧w.cell? ⟨b,off+i*11+10,none⟩=some (.bool n.hold)∧PodAt w v1 v2 v3 v4 n)
theorem PodsAt.kept {w w':World} {a:Option Addr} {len:Nat} {l:List Pd} (h:PodsAt w a len l) (k:Kept w w'):PodsAt w' a len l:=by
 obtain⟨h0,h1,h2⟩:=h;refine⟨h0,h1,h2.imp id ?_⟩;rintro ⟨b,off,rfl,hb,hc⟩;refine⟨b,off,rfl,Nat.lt_of_lt_of_le hb k.size,fun i n hi=>?_⟩;obtain⟨v1,v2,v3,v4,p0,p1,p2,p3,p4,p5,p6,p7,p8,p9,p10,hn⟩:=hc i n hi;exact⟨v1,v2,v3,v4,cell_later k p0,cell_later k p1,cell_later k p2,cell_later k p3,cell_later k p4,cell_later k p5,cell_later k p6,cell_later k p7,cell_later k p8,cell_later k p9,cell_later k p10,hn.kept k⟩
theorem PodsAt.form {w:World} {a:Option Addr} {len:Nat} {l:List Pd} (h:PodsAt w a len l):len=0∨∃b off,a=some ⟨b,off,none⟩:=by
 obtain⟨_,_,h2⟩:=h;exact h2.imp id fun ⟨b,off,e,_⟩=>⟨b,off,e⟩
theorem PodsAt.at_ {w:World} {b off len:Nat} {l:List Pd} {k:Nat} (h:PodsAt w (some ⟨b,off,none⟩) len l) (hk:k<len):∃n a1 m1 c1 a2 m2 c2 a3 m3 c3 a4 m4 c4,l[k]?=some n∧l.drop k=n::l.drop (k+1)∧b<w.heap.size ∧
 w.cell? ⟨b,off+k*11,none⟩=some (.string n.name)∧w.cell? ⟨b,off+k*11+1,none⟩=some (.string n.owner)∧w.cell? ⟨b,off+k*11+2,none⟩=some (.int .i64 n.prio)∧w.cell? ⟨b,off+k*11+3,none⟩=some (.slice a1 m1 c1)∧w.cell? ⟨b,off+k*11+4,none⟩=some (.slice a2 m2 c2)∧w.cell? ⟨b,off+k*11+5,none⟩=some (.slice a3 m3 c3)∧w.cell? ⟨b,off+k*11+6,none⟩=some (.slice a4 m4 c4)∧w.cell? ⟨b,off+k*11+7,none⟩=some (.string n.key)∧w.cell? ⟨b,off+k*11+8,none⟩=some (.int .i64 n.most)∧w.cell? ⟨b,off+k*11+9,none⟩=some (.string n.node)∧w.cell? ⟨b,off+k*11+10,none⟩=some (.bool n.hold)∧PodAt w (.slice a1 m1 c1) (.slice a2 m2 c2) (.slice a3 m3 c3) (.slice a4 m4 c4) n:=by
 obtain⟨h0,_,h3⟩:=h;have hkl:k<l.length:=by omega
 rcases h3 with h3 | ⟨b',off',e,hb,hc⟩
 · omega
 · injection e with e;injection e with e1 e2 e3;subst e1;subst e2;have he:l[k]?=some l[k]:=List.getElem?_eq_getElem hkl;obtain⟨v1,v2,v3,v4,r⟩:=hc k _ he;obtain⟨a1,m1,c1,a2,m2,c2,a3,m3,c3,a4,m4,c4,rfl,rfl,rfl,rfl⟩:=PodAt.spelt r.2.2.2.2.2.2.2.2.2.2.2;exact⟨l[k],a1,m1,c1,a2,m2,c2,a3,m3,c3,a4,m4,c4,he,List.drop_eq_getElem_cons hkl,hb,r⟩
def PodsR (w:World) (v:Value) (l:List Pd):Prop:=∃a cap,v=.slice a l.length cap∧l.length≤cap∧cap≤maxLen∧PodsAt w a l.length l
theorem PodsR.kept {w w':World} {v:Value} {l:List Pd} (h:PodsR w v l) (k:Kept w w'):PodsR w' v l:=by
 obtain⟨a,cap,e,h1,h2,h3⟩:=h;exact⟨a,cap,e,h1,h2,h3.kept k⟩
def findP (l:List Pd) (x:ByteArray):Option Pd:=l.find? fun n=>eqS n.name x
structure Bd where
 name:ByteArray
 sel:TL
 floor:Int
def Bd.zero:Bd:=⟨ByteArray.empty,[],0⟩
abbrev BudV (n:Bd) (v1:Value):Value:=.agg #[.string n.name,v1,.int .i64 n.floor]
structure BudAt (w:World) (v1:Value) (n:Bd):Prop where
 name:n.name.size≤maxLen
 floor:-9223372036854775808≤n.floor∧n.floor≤9223372036854775807
 sel:Reads TermLay w v1 n.sel
theorem BudAt.kept {w w':World} {v1:Value} {n:Bd} (h:BudAt w v1 n) (k:Kept w w'):BudAt w' v1 n:=⟨h.name,h.floor,h.sel.kept k⟩
def BudR (w:World) (v:Value) (n:Bd):Prop:=∃v1,v=BudV n v1∧BudAt w v1 n
theorem BudR.kept {w w':World} {v:Value} {n:Bd} (h:BudR w v n) (k:Kept w w'):BudR w' v n:=by
 obtain⟨v1,e,h⟩:=h;exact⟨v1,e,h.kept k⟩
def BudRB (B:Nat) (w:World) (v:Value) (n:Bd):Prop:=∃b1 n1 d1,v=BudV n (.slice b1 n1 d1)∧BudAt w (.slice b1 n1 d1) n∧Behind B b1
theorem BudRB.toR {B:Nat} {w:World} {v:Value} {n:Bd} (h:BudRB B w v n):BudR w v n:=by
 obtain⟨b1,n1,d1,e,h,-⟩:=h;exact⟨_,e,h⟩
theorem BudAt.far {B:Nat} {w w':World} {n:Bd} {b1:Option Addr} {n1 d1:Nat} (h:BudAt w (.slice b1 n1 d1) n) (hs:w'.heap.size=w.heap.size) (hb:∀b,B≤b→w'.heap[b]?=w.heap[b]?) (g1:Behind B b1):BudAt w' (.slice b1 n1 d1) n :=
 ⟨h.name,h.floor,h.sel.far hs (fun b o s e=>hb b (g1 b o s e))⟩
theorem BudRB.far {B:Nat} {w w':World} {v:Value} {n:Bd} (h:BudRB B w v n) (hs:w'.heap.size=w.heap.size) (hb:∀b,B≤b→w'.heap[b]?=w.heap[b]?):BudRB B w' v n:=by
 obtain⟨b1,n1,d1,e,h,g1⟩:=h;exact⟨b1,n1,d1,e,h.far hs hb g1,g1⟩
theorem BudRB.less {B B':Nat} {w:World} {v:Value} {n:Bd} (h:BudRB B w v n) (hb:B'≤B):BudRB B' w v n:=by
 obtain⟨b1,n1,d1,e,h,g1⟩:=h;exact⟨b1,n1,d1,e,h,g1.less hb⟩
theorem BudRB.kept {B:Nat} {w w':World} {v:Value} {n:Bd} (h:BudRB B w v n) (k:Kept w w'):BudRB B w' v n:=by
 obtain⟨b1,n1,d1,e,h,g1⟩:=h;exact⟨b1,n1,d1,e,h.kept k,g1⟩
theorem BudAt.spelt {w:World} {v1:Value} {n:Bd} (h:BudAt w v1 n):∃b1 n1 d1,v1=.slice b1 n1 d1:=by
 obtain⟨a,c,e,-⟩:=h.sel;exact⟨_,_,_,e⟩
def BudsAt (w:World) (a:Option Addr) (len:Nat) (l:List Bd):Prop :=
 l.length=len∧len≤maxLen∧(len=0∨∃b off,a=some ⟨b,off,none⟩∧b<w.heap.size∧∀i n,l[i]?=some n→∃v1,
  w.cell? ⟨b,off+i*3,none⟩=some (.string n.name)∧w.cell? ⟨b,off+i*3+1,none⟩=some (v1)∧w.cell? ⟨b,off+i*3+2,none⟩=some (.int .i64 n.floor)∧BudAt w v1 n)
theorem BudsAt.kept {w w':World} {a:Option Addr} {len:Nat} {l:List Bd} (h:BudsAt w a len l) (k:Kept w w'):BudsAt w' a len l:=by
 obtain⟨h0,h1,h2⟩:=h;refine⟨h0,h1,h2.imp id ?_⟩;rintro ⟨b,off,rfl,hb,hc⟩;refine⟨b,off,rfl,Nat.lt_of_lt_of_le hb k.size,fun i n hi=>?_⟩;obtain⟨v1,p0,p1,p2,hn⟩:=hc i n hi;exact⟨v1,cell_later k p0,cell_later k p1,cell_later k p2,hn.kept k⟩
theorem BudsAt.form {w:World} {a:Option Addr} {len:Nat} {l:List Bd} (h:BudsAt w a len l):len=0∨∃b off,a=some ⟨b,off,none⟩:=by
 obtain⟨_,_,h2⟩:=h;exact h2.imp id fun ⟨b,off,e,_⟩=>⟨b,off,e⟩
theorem BudsAt.at_ {w:World} {b off len:Nat} {l:List Bd} {k:Nat} (h:BudsAt w (some ⟨b,off,none⟩) len l) (hk:k<len):∃n a1 m1 c1,l[k]?=some n∧l.drop k=n::l.drop (k+1)∧b<w.heap.size ∧
 w.cell? ⟨b,off+k*3,none⟩=some (.string n.name)∧w.cell? ⟨b,off+k*3+1,none⟩=some (.slice a1 m1 c1)∧w.cell? ⟨b,off+k*3+2,none⟩=some (.int .i64 n.floor)∧BudAt w (.slice a1 m1 c1) n:=by
 obtain⟨h0,_,h3⟩:=h;have hkl:k<l.length:=by omega
 rcases h3 with h3 | ⟨b',off',e,hb,hc⟩
 · omega
 · injection e with e;injection e with e1 e2 e3;subst e1;subst e2;have he:l[k]?=some l[k]:=List.getElem?_eq_getElem hkl;obtain⟨v1,r⟩:=hc k _ he;obtain⟨a1,m1,c1,rfl⟩:=BudAt.spelt r.2.2.2;exact⟨l[k],a1,m1,c1,he,List.drop_eq_getElem_cons hkl,hb,r⟩
def BudsR (w:World) (v:Value) (l:List Bd):Prop:=∃a cap,v=.slice a l.length cap∧l.length≤cap∧cap≤maxLen∧BudsAt w a l.length l
theorem BudsR.kept {w w':World} {v:Value} {l:List Bd} (h:BudsR w v l) (k:Kept w w'):BudsR w' v l:=by
 obtain⟨a,cap,e,h1,h2,h3⟩:=h;exact⟨a,cap,e,h1,h2,h3.kept k⟩
structure Clu where
 nodes:List Nod
 pods:List Pd
 buds:List Bd
abbrev CluV (v1 v2 v3:Value):Value:=.agg #[v1,v2,v3]
structure CluAt (w:World) (v1 v2 v3:Value) (s:Clu):Prop where
 nodes:NodesR w v1 s.nodes
 pods:PodsR w v2 s.pods
 buds:BudsR w v3 s.buds
theorem CluAt.kept {w w':World} {v1 v2 v3:Value} {s:Clu} (h:CluAt w v1 v2 v3 s) (k:Kept w w'):CluAt w' v1 v2 v3 s:=⟨h.nodes.kept k,h.pods.kept k,h.buds.kept k⟩
def CluR (w:World) (v:Value) (s:Clu):Prop:=∃v1 v2 v3,v=CluV v1 v2 v3∧CluAt w v1 v2 v3 s
theorem CluR.kept {w w':World} {v:Value} {s:Clu} (h:CluR w v s) (k:Kept w w'):CluR w' v s:=by
 obtain⟨v1,v2,v3,e,h⟩:=h;exact⟨v1,v2,v3,e,h.kept k⟩
structure LowClu (s:Clu):Prop where
 nodes:∀n ∈ s.nodes,LowNod n
 pods:∀n ∈ s.pods,LowPd n
 buds:∀n ∈ s.buds,n.sel.length≤1000000
 nodesN:s.nodes.length≤100000
 podsN:s.pods.length≤100000
 budsN:s.buds.length≤100000
def useV (x:ByteArray):List Pd→Vec.V→Int×Vec.V
 | [],v=>(0,v)
 | p::t,v=>if eqS p.node x=true then (if (Vec.mergedV Vec.addF v p.need).1=0 then useV x t (Vec.mergedV Vec.addF v p.need).2 else ((Vec.mergedV Vec.addF v p.need).1,[])) else useV x t v
theorem useV_skip {x:ByteArray} {p:Pd} {t:List Pd} {v:Vec.V} (h:eqS p.node x=false):useV x (p::t) v=useV x t v:=by
 rw[useV,if_neg (by rw[h];decide)]
theorem useV_add {x:ByteArray} {p:Pd} {t:List Pd} {v m:Vec.V} (h:eqS p.node x=true) (g:Vec.mergedV Vec.addF v p.need=(0,m)):useV x (p::t) v=useV x t m:=by
 rw[useV,if_pos h,g,if_pos rfl]
theorem useV_bad {x:ByteArray} {p:Pd} {t:List Pd} {v m:Vec.V} {c:Int} (h:eqS p.node x=true) (g:Vec.mergedV Vec.addF v p.need=(c,m)) (hc:c≠0):useV x (p::t) v=(c,[]):=by
 rw[useV,if_pos h,g,if_neg hc]
theorem useV_none {x:ByteArray}:∀{l:List Pd} {v:Vec.V},(useV x l v).1≠0→(useV x l v).2=[]
 | [],v,h=>absurd rfl h
 | p::t,v,h=>by
  rw[useV] at h ⊢;split at h
  · rename_i h1;rw[if_pos h1];split at h
    · rename_i h2;rw[if_pos h2];exact useV_none h
    · rename_i h2;rw[if_neg h2]
  · rename_i h1;rw[if_neg h1];exact useV_none h
def usedSt (s:Clu) (x:ByteArray):Int×Vec.V:=match findN s.nodes x with | none=>(3,[]) | some n=>useV n.name s.pods []
def freeSt (s:Clu) (x:ByteArray):Int×Vec.V:=match findN s.nodes x with | none=>(3,[]) | some n=>if (useV n.name s.pods []).1=0 then Vec.mergedV Vec.subF n.cap (useV n.name s.pods []).2 else ((useV n.name s.pods []).1,[])
def onP (x:ByteArray) (l:List Pd):List Pd:=if isNo x=true then [] else l.filter fun p=>eqS p.node x
def dropP (x:ByteArray):List Pd→List Pd
 | []=>[]
 | p::t=>if eqS p.name x=true then t else p::dropP x t
def insP (p:Pd):List Pd→List Pd
 | []=>[p]
 | q::t=>if ltS p.name q.name=true then p::q::t else q::insP p t
def dropSt (s:Clu) (x:ByteArray):Clu:={ s with pods:=dropP x s.pods }
def putSt (s:Clu) (p:Pd):Clu:={ s with pods:=insP p (dropP p.name s.pods) }
def besideB (p q:Pd):Bool:=!isNo p.owner&&(eqS q.owner p.owner&&(!q.hold&&!eqS q.name p.name))
def onN (p:Pd) (x:ByteArray):List Pd→Nat
 | []=>0
 | q::t=>(if besideB p q=true∧q.node=x then 1 else 0)+onN p x t
theorem onN_le (p:Pd) (x:ByteArray):∀l:List Pd,onN p x l≤l.length
 | []=>Nat.zero_le _
 | q::t=>by
  have:=onN_le p x t;unfold onN;simp only[List.length_cons];split<;>omega
def inD (p:Pd) (pods:List Pd) (d:ByteArray):List Nod→Nat
 | []=>0
 | n::t=>(if getS n.labels p.key=some d then onN p n.name pods else 0)+inD p pods d t
theorem inD_le (p:Pd) (pods:List Pd) (d:ByteArray):∀l:List Nod,inD p pods d l≤l.length*pods.length
 | []=>Nat.zero_le _
 | n::t=>by
  have h1:=inD_le p pods d t;have h2:=onN_le p n.name pods;unfold inD;simp only[List.length_cons,Nat.add_mul];split<;>omega
def hasD (k d:ByteArray) (l:List Nod):Bool:=l.any fun n=>decide (getS n.labels k=some d)
theorem onN_app (p:Pd) (x:ByteArray):∀(a b:List Pd),onN p x (a++b)=onN p x a+onN p x b
 | [],b=>by simp[onN]
 | q::t,b=>by
  have:=onN_app p x t b;simp only[List.cons_append,onN,this];omega
theorem inD_app (p:Pd) (pods:List Pd) (d:ByteArray):∀(a b:List Nod),inD p pods d (a++b)=inD p pods d a+inD p pods d b
 | [],b=>by simp[inD]
 | q::t,b=>by
  have:=inD_app p pods d t b;simp only[List.cons_append,inD,this];omega
def domV (key name:ByteArray):List Nod→Option ByteArray
 | []=>none
 | n::t=>if eqS n.name name=true then getS n.labels key else domV key name t
def leastD (p:Pd) (pods:List Pd) (nodes:List Nod) (d:ByteArray):List Nod→Nat→Nat
 | [],m=>m
 | n::t,m=>leastD p pods nodes d t (match getS n.labels p.key with
  | none=>m
  | some e=>min m (inD p pods e nodes+(if e=d then 1 else 0)))
def skewD (p:Pd) (s:Clu) (d:ByteArray):Int:=((inD p s.pods d s.nodes+1:Nat):Int)-(leastD p s.pods s.nodes d s.nodes (inD p s.pods d s.nodes+1):Int)
def skewS (p:Pd) (s:Clu) (name:ByteArray):Int×Bool :=
 if isNo p.key=true then (0,true) else match domV p.key name s.nodes with
  | none=>(0,false)
  | some d=>(skewD p s d,true)
theorem leastD_spec (p:Pd) (pods:List Pd) (nodes:List Nod) (d:ByteArray):∀(l:List Nod) (m:Nat),
 leastD p pods nodes d l m≤m∧(∀n ∈ l,∀e,getS n.labels p.key=some e→leastD p pods nodes d l m≤inD p pods e nodes+(if e=d then 1 else 0)) ∧
 (leastD p pods nodes d l m=m∨∃n ∈ l,∃e,getS n.labels p.key=some e∧leastD p pods nodes d l m=inD p pods e nodes+(if e=d then 1 else 0))
 | [],m=>⟨Nat.le_refl _,fun n h=>absurd h (by simp),.inl rfl⟩
 | n::t,m=>by
  rw[leastD]
  cases h:getS n.labels p.key with
  | none =>
   dsimp only;obtain⟨h1,h2,h3⟩:=leastD_spec p pods nodes d t m;refine⟨h1,fun x hx e he=>?_,h3.imp id fun ⟨x,hx,e,he⟩=>⟨x,by simp[hx],e,he⟩⟩;rcases List.mem_cons.1 hx with rfl | hx
   · rw[h] at he;cases he
   · exact h2 x hx e he
  | some c =>
   dsimp only;obtain⟨h1,h2,h3⟩:=leastD_spec p pods nodes d t (min m (inD p pods c nodes+(if c=d then 1 else 0)));refine⟨Nat.le_trans h1 (Nat.min_le_left _ _),fun x hx e he=>?_,?_⟩
   · rcases List.mem_cons.1 hx with rfl | hx
     · rw[h] at he;cases he;exact Nat.le_trans h1 (Nat.min_le_right _ _)
     · exact h2 x hx e he
   · rcases h3 with h3 | ⟨x,hx,e,he,h3⟩
     · by_cases g:m≤inD p pods c nodes+(if c=d then 1 else 0)
       · exact .inl (by rw[h3,Nat.min_eq_left g])
       · exact .inr ⟨n,by simp,c,h,by rw[h3,Nat.min_eq_right (by omega)]⟩
     · exact .inr ⟨x,by simp[hx],e,he,h3⟩
theorem leastD_is {p:Pd} {pods:List Pd} {nodes:List Nod} {d:ByteArray} {m z:Nat} (hd:hasD p.key d nodes=true) (hm:m=inD p pods d nodes+1)
 (h1:∀e,hasD p.key e nodes=true→z≤inD p pods e nodes+(if e=d then 1 else 0)) (h2:∃e,hasD p.key e nodes=true∧z=inD p pods e nodes+(if e=d then 1 else 0)):leastD p pods nodes d nodes m=z:=by
 have has:∀{n:Nod} {e:ByteArray},n ∈ nodes→getS n.labels p.key=some e→hasD p.key e nodes=true:=fun {n e} hn he=>by
  unfold hasD;rw[List.any_eq_true];exact⟨n,hn,by simpa using he⟩
 have un:∀{e:ByteArray},hasD p.key e nodes=true→∃n ∈ nodes,getS n.labels p.key=some e:=fun {e} h=>by
  unfold hasD at h;rw[List.any_eq_true] at h;obtain⟨n,hn,he⟩:=h;exact⟨n,hn,by simpa using he⟩
 obtain⟨g1,g2,g3⟩:=leastD_spec p pods nodes d nodes m;obtain⟨e,he,hz⟩:=h2;obtain⟨n,hn,hne⟩:=un he;have a:=g2 n hn e hne;rcases g3 with g3 | ⟨x,hx,c,hc,g3⟩
 · have b:=h1 d hd;rw[if_pos rfl] at b;omega
 · have b:=h1 c (has hx hc);omega
theorem domV_has {key name d:ByteArray}:∀{l:List Nod},domV key name l=some d→hasD key d l=true
 | n::t,h=>by
  rw[domV] at h;unfold hasD;rw[List.any_cons];split at h
  · rw[h];simp
  · have:=domV_has h;unfold hasD at this;rw[this,Bool.or_true]
def crowdB (s:Clu) (p:Pd) (x:ByteArray):Bool:=if isNo p.key=true then false else (!(skewS p s x).2||decide (p.most<(skewS p s x).1))
def wantedB (p:Pd) (n:Nod):Bool:=!n.cordon&&matchT p.sel n.labels
def borneB (p:Pd) (n:Nod):Bool:=!(worstN p.tols n.taints).isSome
def roomB (s:Clu) (p:Pd) (x:ByteArray):Bool:=decide ((freeSt s x).1=0)&&Vec.fitsFrom (freeSt s x).2 p.need
def reasonN (s:Clu) (p:Pd) (n:Nod) (x:ByteArray):Int:=if wantedB p n=false then 8 else if borneB p n=false then 9 else if crowdB s p x=true then 10 else if roomB s p x=false then 7 else 0
def reasonS (s:Clu) (p:Pd) (x:ByteArray):Int:=match findN s.nodes x with
 | none=>3
 | some n=>reasonN s p n x
def fitS (s:Clu) (p:Pd) (x:ByteArray):Int:=reasonS (dropSt s p.name) p x
def whyL (s:Clu) (p:Pd) (l:List Nod):List Int:=l.map fun n=>fitS s p n.name
def fitsL (s:Clu) (p:Pd) (l:List Nod):List ByteArray:=(l.filter fun n=>decide (fitS s p n.name=0)).map fun n=>n.name
theorem reason_none {s:Clu} {p:Pd} {x:ByteArray} (h:findN s.nodes x=none):reasonS s p x=3:=by unfold reasonS;rw[h]
theorem reason_some {s:Clu} {p:Pd} {x:ByteArray} {n:Nod} (h:findN s.nodes x=some n):reasonS s p x=reasonN s p n x:=by unfold reasonS;rw[h]
theorem reasonN_sel {s:Clu} {p:Pd} {n:Nod} {x:ByteArray} (h:wantedB p n=false):reasonN s p n x=8:=by unfold reasonN;rw[if_pos h]
theorem reasonN_taint {s:Clu} {p:Pd} {n:Nod} {x:ByteArray} (h:wantedB p n=true) (h2:borneB p n=false):reasonN s p n x=9:=by unfold reasonN;rw[if_neg (by rw[h];decide),if_pos h2]
theorem reasonN_skew {s:Clu} {p:Pd} {n:Nod} {x:ByteArray} (h:wantedB p n=true) (h2:borneB p n=true) (h3:crowdB s p x=true):reasonN s p n x=10:=by unfold reasonN;rw[if_neg (by rw[h];decide),if_neg (by rw[h2];decide),if_pos h3]
theorem reasonN_room {s:Clu} {p:Pd} {n:Nod} {x:ByteArray} (h:wantedB p n=true) (h2:borneB p n=true) (h3:crowdB s p x=false) (h4:roomB s p x=false):reasonN s p n x=7:=by unfold reasonN;rw[if_neg (by rw[h];decide),if_neg (by rw[h2];decide),if_neg (by rw[h3];decide),if_pos h4]
theorem reasonN_ok {s:Clu} {p:Pd} {n:Nod} {x:ByteArray} (h:wantedB p n=true) (h2:borneB p n=true) (h3:crowdB s p x=false) (h4:roomB s p x=true):reasonN s p n x=0:=by unfold reasonN;rw[if_neg (by rw[h];decide),if_neg (by rw[h2];decide),if_neg (by rw[h3];decide),if_neg (by rw[h4];decide)]
theorem reasonN_bd (s:Clu) (p:Pd) (n:Nod) (x:ByteArray):0≤reasonN s p n x∧reasonN s p n x≤10:=by
 unfold reasonN;split
 · decide
 · split
   · decide
   · split
     · decide
     · split<;>decide
theorem reason_bd (s:Clu) (p:Pd) (x:ByteArray):0≤reasonS s p x∧reasonS s p x≤10:=by
 unfold reasonS;split
 · decide
 · exact reasonN_bd _ _ _ _
theorem findN_mem {l:List Nod} {x:ByteArray} {n:Nod} (h:findN l x=some n):n ∈ l∧n.name=x:=by
 unfold findN at h;have h2:eqS n.name x=true:=List.find?_some (p:=fun n:Nod=>eqS n.name x) h;exact⟨List.mem_of_find?_eq_some h,eqS_iff.1 h2⟩
theorem whyL_take {s:Clu} {p:Pd} {l:List Nod} {k:Nat} {n:Nod} (h:l[k]?=some n):whyL s p (l.take (k+1))=whyL s p (l.take k)++[fitS s p n.name]:=by
 unfold whyL;rw[List.take_add_one,h,List.map_append];rfl
theorem whyL_len (s:Clu) (p:Pd) (l:List Nod):(whyL s p l).length=l.length:=by unfold whyL;rw[List.length_map]
theorem whyL_at {s:Clu} {p:Pd} {l:List Nod} {k:Nat} {n:Nod} (h:l[k]?=some n):(whyL s p l)[k]?=some (fitS s p n.name):=by unfold whyL;rw[List.getElem?_map,h];rfl
theorem fitsL_take {s:Clu} {p:Pd} {l:List Nod} {k:Nat} {n:Nod} (h:l[k]?=some n):fitsL s p (l.take (k+1))=fitsL s p (l.take k)++(if fitS s p n.name=0 then [n.name] else []):=by
 unfold fitsL;rw[List.take_add_one,h,List.filter_append,List.map_append];by_cases hb:fitS s p n.name=0
 · rw[if_pos hb];simp[hb]
 · rw[if_neg hb];simp[hb]
theorem fitsL_len (s:Clu) (p:Pd) (l:List Nod):(fitsL s p l).length≤l.length:=by
 unfold fitsL;rw[List.length_map];exact List.length_filter_le _ _
open Ieee
abbrev BIN:Nat:=4503599627370496
abbrev INF:Nat:=9218868437227405312
abbrev SGN:Nat:=9223372036854775808
def rung (x:Nat):Nat:=x % SGN
def sgn (x:Nat):Bool:=x / SGN % 2==1
def isNaN (x:Nat):Bool:=decide (INF<rung x)
def fmg (r:Nat):Nat:=if r<BIN then r else BIN+r % BIN
def ex (r:Nat):Nat:=if r<BIN then 0 else r / BIN-1
def val (r:Nat):Nat:=fmg r*2 ^ ex r
def srung (x:Nat):Int:=if sgn x then -(rung x:Int) else rung x
def sval (x:Nat):Int:=if sgn x then -(val (rung x):Int) else val (rung x)
def ocmp (a b:Int):Ordering:=if a<b then .lt else if a=b then .eq else .gt
theorem val_lt {r s:Nat} (h:r<s):val r<val s:=by
 have hB:(0:Nat)<BIN:=by decide
 by_cases h1:s<BIN
 · have h2:r<BIN:=Nat.lt_trans h h1;simp only[val,fmg,ex,h1,h2,if_true];simpa using h
 · have pos:∀k:Nat,0<2 ^ k:=fun k=>Nat.two_pow_pos k;have hs:BIN≤s:=Nat.not_lt.1 h1;by_cases h2:r<BIN
   · simp only[val,fmg,ex,h1,h2,if_true,if_false];have:=Nat.mul_le_mul_left (BIN+s % BIN) (pos (s / BIN-1));simp only[Nat.pow_zero,Nat.mul_one];omega
   · have hr:BIN≤r:=Nat.not_lt.1 h2;simp only[val,fmg,ex,h1,h2,if_false];have e1:r / BIN≤s / BIN:=Nat.div_le_div_right (Nat.le_of_lt h);have r1:1≤r / BIN:=(Nat.one_le_div_iff hB).2 hr;rcases Nat.lt_or_eq_of_le e1 with e2 | e2
     · obtain⟨k,hk⟩:∃k,s / BIN-1=(r / BIN-1)+1+k:=⟨s / BIN-r / BIN-1,by omega⟩
       rw[hk,Nat.pow_add,Nat.pow_succ];have m1:r % BIN<BIN:=Nat.mod_lt _ hB;have p1:=pos (r / BIN-1);have p2:=pos k
       calc (BIN+r % BIN)*2 ^ (r / BIN-1)<(2*BIN)*2 ^ (r / BIN-1):=Nat.mul_lt_mul_of_pos_right (by omega) p1
        _=BIN*(2 ^ (r / BIN-1)*2):=by rw[Nat.mul_comm 2 BIN,Nat.mul_assoc,Nat.mul_comm 2]
        _≤(BIN+s % BIN)*(2 ^ (r / BIN-1)*2):=Nat.mul_le_mul_right _ (by omega)
        _≤(BIN+s % BIN)*(2 ^ (r / BIN-1)*2*2 ^ k):=Nat.mul_le_mul_left _ (Nat.le_mul_of_pos_right _ p2)
     · rw[e2];refine Nat.mul_lt_mul_of_pos_right ?_ (pos _);have d1:=Nat.div_add_mod r BIN;have d2:=Nat.div_add_mod s BIN;rw[e2] at d1;omega
theorem val_lt_iff {r s:Nat}:val r<val s↔r<s:=by
 refine⟨fun h=>?_,val_lt⟩;rcases Nat.lt_trichotomy r s with g | g | g
 · exact g
 · subst g;exact absurd h (Nat.lt_irrefl _)
 · exact absurd (val_lt g) (Nat.lt_asymm h)
theorem val_eq_iff {r s:Nat}:val r=val s↔r=s:=by
 refine⟨fun h=>?_,fun h=>by rw[h]⟩;rcases Nat.lt_trichotomy r s with g | g | g
 · have:=val_lt g;omega
 · exact g
 · have:=val_lt g;omega
theorem val_zero:val 0=0:=by simp[val,fmg,ex]
theorem ocmp_val (x y:Nat):ocmp (sval x) (sval y)=ocmp (srung x) (srung y):=by
 have key:(sval x<sval y↔srung x<srung y)∧(sval x=sval y↔srung x=srung y):=by
  unfold sval srung;have a:=@val_lt_iff (rung x) (rung y);have b:=@val_lt_iff (rung y) (rung x);have c:=@val_eq_iff (rung x) (rung y);have d:=@val_lt_iff 0 (rung x);have e:=@val_lt_iff 0 (rung y);have f:=@val_eq_iff 0 (rung x);have g:=@val_eq_iff 0 (rung y);rw[val_zero] at d e f g
  cases sgn x<;>cases sgn y<;>simp<;>omega
 unfold ocmp;simp only[key.1,key.2]
theorem d_bin:double.binade=BIN:=by decide +kernel
theorem d_inf:double.infRung=INF:=by decide +kernel
theorem d_sgn:double.signWeight=SGN:=by decide +kernel
theorem d_least:double.leastPlace=-1074:=by decide +kernel
theorem read_num {x:Nat} (h:rung x<INF):double.read x=.number (sgn x) (fmg (rung x)) (-1074+(ex (rung x):Int)):=by
 unfold Format.read;simp only[d_bin,d_inf,d_sgn,d_least];have e:x % SGN=rung x:=rfl;by_cases h1:rung x<BIN
 · simp[e,h1,fmg,ex,sgn]
 · simp[e,h1,h,fmg,ex,sgn]
theorem read_inf {x:Nat} (h:rung x=INF):double.read x=.infinity (sgn x):=by
 unfold Format.read;simp only[d_bin,d_inf,d_sgn,d_least];have e:x % SGN=rung x:=rfl;rw[e,h];rw[if_neg (by decide),if_neg (by decide),if_pos rfl];rfl
theorem read_nan {x:Nat} (h:INF<rung x):double.read x=.nan (sgn x) (rung x-INF):=by
 unfold Format.read;simp only[d_bin,d_inf,d_sgn,d_least];have e:x % SGN=rung x:=rfl
 have h1:¬rung x<BIN:=by have:BIN<INF:=by decide
                         omega
 have h2:¬rung x<INF:=by omega
 have h3:¬rung x=INF:=by omega
 simp[e,h1,h2,h3,sgn]
theorem signed_eq (s:Bool) (m u:Nat):signed s m u=if s then -((m*2 ^ u:Nat):Int) else ((m*2 ^ u:Nat):Int):=by
 unfold signed;simp only[Nat.shiftLeft_eq]
theorem ocmp_mul (a b:Int) (k:Int) (hk:0<k):ocmp (a*k) (b*k)=ocmp a b:=by
 have h1:a*k<b*k↔a<b:=Int.mul_lt_mul_right hk;have h2:a*k=b*k↔a=b:=by
  refine⟨fun h=>Int.eq_of_mul_eq_mul_right (by omega) h,fun h=>by rw[h]⟩
 unfold ocmp;simp only[h1,h2]
theorem compare_ocmp (a b:Int):compare a b=ocmp a b:=rfl
theorem order_num {x y:Nat} (hx:rung x<INF) (hy:rung y<INF):double.order x y=some (ocmp (srung x) (srung y)):=by
 unfold Format.order;rw[read_num hx,read_num hy];simp only[Datum.order,Option.some.injEq];rw[compare_ocmp,←ocmp_val];have e1:(-1074+(ex (rung x):Int)-min (-1074+(ex (rung x):Int)) (-1074+(ex (rung y):Int))).toNat=ex (rung x)-min (ex (rung x)) (ex (rung y)):=by omega
 have e2:(-1074+(ex (rung y):Int)-min (-1074+(ex (rung x):Int)) (-1074+(ex (rung y):Int))).toNat=ex (rung y)-min (ex (rung x)) (ex (rung y)):=by omega
 rw[e1,e2,←ocmp_mul _ _ ((2 ^ min (ex (rung x)) (ex (rung y)):Nat):Int) (by have:=Nat.two_pow_pos (min (ex (rung x)) (ex (rung y)));omega)];have f:∀z:Nat,min (ex (rung x)) (ex (rung y))≤ex (rung z)→signed (sgn z) (fmg (rung z)) (ex (rung z)-min (ex (rung x)) (ex (rung y)))*((2 ^ min (ex (rung x)) (ex (rung y)):Nat):Int)=sval z:=by
  intro z hz;rw[signed_eq];have:fmg (rung z)*2 ^ (ex (rung z)-min (ex (rung x)) (ex (rung y)))*2 ^ min (ex (rung x)) (ex (rung y))=val (rung z):=by
   rw[Nat.mul_assoc,←Nat.pow_add,Nat.sub_add_cancel hz];rfl
  unfold sval
  cases sgn z
  · simp only[Bool.false_eq_true,if_false];rw[←Int.natCast_mul,this]
  · simp only[if_true];rw[Int.neg_mul,←Int.natCast_mul,this]
 rw[f x (Nat.min_le_left _ _),f y (Nat.min_le_right _ _)]
theorem ocmp_lt {a b:Int} (h:a<b):ocmp a b=.lt:=by unfold ocmp;rw[if_pos h]
theorem ocmp_gt {a b:Int} (h:b<a):ocmp a b=.gt:=by unfold ocmp;rw[if_neg (by omega),if_neg (by omega)]
theorem srung_lt {x:Nat} (h:rung x<INF):srung x<(INF:Int)∧-(INF:Int)<srung x:=by
 unfold srung;split<;>omega
theorem order_eq (x y:Nat):double.order x y=if isNaN x||isNaN y then none else some (ocmp (srung x) (srung y)):=by
 unfold isNaN;rcases Nat.lt_trichotomy (rung x) INF with hx | hx | hx
 · rcases Nat.lt_trichotomy (rung y) INF with hy | hy | hy
   · rw[order_num hx hy,if_neg];simp only[Bool.or_eq_true,decide_eq_true_eq];omega
   · have hs:=srung_lt hx;unfold Format.order;rw[read_num hx,read_inf hy,if_neg (by simp only[Bool.or_eq_true,decide_eq_true_eq];omega)];simp only[Datum.order,Option.some.injEq];have:srung y=if sgn y then -(INF:Int) else INF:=by unfold srung;rw[hy]
     rw[this];clear this
     cases sgn y
     · simp only[Bool.false_eq_true,if_false];rw[ocmp_lt (by omega)]
     · simp only[if_true];rw[ocmp_gt (by omega)]
   · unfold Format.order;rw[read_nan hy,if_pos (by simp only[Bool.or_eq_true,decide_eq_true_eq];omega)]
     cases double.read x<;>rfl
 · rcases Nat.lt_trichotomy (rung y) INF with hy | hy | hy
   · have hs:=srung_lt hy;unfold Format.order;rw[read_num hy,read_inf hx,if_neg (by simp only[Bool.or_eq_true,decide_eq_true_eq];omega)];simp only[Datum.order,Option.some.injEq];have:srung x=if sgn x then -(INF:Int) else INF:=by unfold srung;rw[hx]
     rw[this];clear this
     cases sgn x
     · simp only[Bool.false_eq_true,if_false];rw[ocmp_gt (by omega)]
     · simp only[if_true];rw[ocmp_lt (by omega)]
   · unfold Format.order;rw[read_inf hx,read_inf hy,if_neg (by simp only[Bool.or_eq_true,decide_eq_true_eq];omega)];simp only[Datum.order,Option.some.injEq];have e1:srung x=if sgn x then -(INF:Int) else INF:=by unfold srung;rw[hx]
     have e2:srung y=if sgn y then -(INF:Int) else INF:=by unfold srung;rw[hy]
     rw[e1,e2]
     cases sgn x<;>cases sgn y<;>decide +kernel
   · unfold Format.order;rw[read_nan hy,if_pos (by simp only[Bool.or_eq_true,decide_eq_true_eq];omega)]
     cases double.read x<;>rfl
 · unfold Format.order;rw[read_nan hx,if_pos (by simp only[Bool.or_eq_true,decide_eq_true_eq];omega)];rfl
def cls (x:Nat):Int:=if isNaN x then 6 else if srung x=-INF then 0 else if srung x=INF then 5 else if srung x<0 then 1 else if 0<srung x then 4 else if sgn x then 2 else 3
def key (x:Nat):Int:=if isNaN x then SGN else if sgn x then -(rung x:Int)-1 else rung x
def cp (x y:Nat):Int:=if key x<key y then -1 else if key x=key y then 0 else 1
theorem rung_neg (x:Nat):rung (x ^^^ 2 ^ 63)=rung x:=by
 have h:=Nat.xor_mod_two_pow (a:=x) (b:=2 ^ 63) (n:=63);rw[Nat.mod_self,Nat.xor_zero] at h;exact h
theorem sgn_neg (x:Nat):sgn (x ^^^ 2 ^ 63)=!sgn x:=by
 have h:=Nat.xor_div_two_pow (a:=x) (b:=2 ^ 63) (n:=63);unfold sgn;rw[show SGN=2 ^ 63 from rfl,h,Nat.div_self (Nat.two_pow_pos 63)];have h2:=Nat.xor_mod_two_pow (a:=x / 2 ^ 63) (b:=1) (n:=1);rw[Nat.pow_one] at h2;rw[h2];rcases Nat.mod_two_eq_zero_or_one (x / 2 ^ 63) with g | g
 · rw[g];rfl
 · rw[g];rfl
theorem isNaN_neg (x:Nat):isNaN (x ^^^ 2 ^ 63)=isNaN x:=by unfold isNaN;rw[rung_neg]
theorem srung_neg (x:Nat):srung (x ^^^ 2 ^ 63)=-srung x:=by
 unfold srung;rw[rung_neg,sgn_neg];cases sgn x<;>simp
theorem eSGN:((SGN:Nat):Int)=9223372036854775808:=rfl
theorem eINF:((INF:Nat):Int)=9218868437227405312:=rfl
theorem nan_iff (x:Nat):isNaN x=true↔INF<rung x:=by unfold isNaN;simp
theorem not_nan (x:Nat):isNaN x=false↔rung x≤INF:=by unfold isNaN;simp
theorem srung_cases (x:Nat):(sgn x=true∧srung x=-(rung x:Int))∨(sgn x=false∧srung x=rung x):=by
 unfold srung;cases sgn x<;>simp
theorem rung_lt (x:Nat):rung x<SGN:=Nat.mod_lt _ (by decide)
theorem cp_lt {x y:Nat} (h:cls x<cls y):cp x y=-1:=by
 have hx:=srung_cases x;have hy:=srung_cases y;have nx:=not_nan x;have ny:=not_nan y;have lx:=rung_lt x;have ly:=rung_lt y;have eS:=eSGN;have eI:=eINF;unfold cp;rw[if_pos];unfold cls at h;unfold key
 cases hn:isNaN x<;>cases hm:isNaN y<;>simp only[hn,hm,Bool.false_eq_true,if_false,if_true,true_iff,false_iff,reduceCtorEq] at*<;>rcases hx with ⟨hx1,hx2⟩ | ⟨hx1,hx2⟩<;>rcases hy with ⟨hy1,hy2⟩ | ⟨hy1,hy2⟩<;>simp only[hx1,hy1,Bool.false_eq_true,if_false,if_true] at*<;>omega
theorem cp_swap (x y:Nat):cp y x=-cp x y:=by
 unfold cp;omega
theorem cp_gt {x y:Nat} (h:cls y<cls x):cp x y=1:=by
 have:=cp_lt h;rw[cp_swap] at this;omega
theorem cp_eq {x y:Nat} (h:cls x=cls y) (hn:isNaN x=false):isNaN y=false∧cp x y=if srung x<srung y then -1 else if srung x=srung y then 0 else 1:=by
 have hx:=srung_cases x;have hy:=srung_cases y;have nx:=not_nan x;have ny:=not_nan y;have lx:=rung_lt x;have ly:=rung_lt y;have eS:=eSGN;have eI:=eINF;unfold cp;unfold cls at h;unfold key
 cases hm:isNaN y<;>simp only[hn,hm,Bool.false_eq_true,if_false,if_true,true_iff,false_iff,reduceCtorEq] at*<;>rcases hx with ⟨hx1,hx2⟩ | ⟨hx1,hx2⟩<;>rcases hy with ⟨hy1,hy2⟩ | ⟨hy1,hy2⟩<;>simp only[hx1,hy1,Bool.false_eq_true,if_false,if_true] at*<;>first | omega | (refine⟨trivial,?_⟩;omega)
theorem cp_nan {x y:Nat} (h:cls x=cls y) (hn:isNaN x=true):isNaN y=true∧cp x y=0:=by
 have hy:isNaN y=true:=by
  unfold cls at h
  cases hm:isNaN y
  · simp only[hn,hm,Bool.false_eq_true,if_false,if_true] at h;omega
  · rfl
 refine⟨hy,?_⟩;unfold cp key;simp[hn,hy]
theorem Kept.oneB (w:World) (c:Array Value) (t:TypeId):Kept w (w.alloc (.cells c t)):=(Below.refl _ _).alloc (Nat.le_refl _) _
theorem f64_order (x y:Nat):FloatKind.f64.format.order x y=if isNaN x||isNaN y then none else some (ocmp (srung x) (srung y)):=order_eq x y
theorem ord_self (x:Nat):(FloatKind.f64.format.order x x != some .eq)=isNaN x:=by
 rw[f64_order];cases isNaN x<;>simp[ocmp]
theorem ord_lt (x y:Nat):(FloatKind.f64.format.order x y==some .lt)=(!isNaN x&&!isNaN y&&decide (srung x<srung y)):=by
 rw[f64_order];unfold ocmp;cases isNaN x<;>cases isNaN y<;>simp<;>split<;>simp_all<;>first | omega | (split<;>simp_all<;>omega)
theorem ord_gt (x y:Nat):(FloatKind.f64.format.order x y==some .gt)=(!isNaN x&&!isNaN y&&decide (srung y<srung x)):=by
 rw[f64_order];unfold ocmp;cases isNaN x<;>cases isNaN y<;>simp<;>split<;>simp_all<;>first | omega | (split<;>simp_all<;>omega)
theorem zero_srung:srung 0=0∧isNaN 0=false∧sgn 0=false∧rung 0=0:=by decide +kernel
theorem max_srung:srung 9218868437227405311=9218868437227405311∧isNaN 9218868437227405311=false:=by decide +kernel
theorem run_negf {P:Program} (k:FloatKind) (b:Nat) (w:World):(Op.unary .neg (.float k b)).run P w=.ok (.float k (Op.negFloat k b)) w:=rfl
theorem negf (x:Nat):Op.negFloat .f64 x=x ^^^ 2 ^ 63:=rfl
theorem isnan_any (x:Nat) (w:World):Calls Tryz.prog 53 #[.float .f64 x] w fun e w'=>e=.returned (.bool (isNaN x))∧w=w':=by
 have h:=ord_self x;go_enter Tryz.func53,Tryz.ntmps53;go_wp2;go_ret;exact⟨rfl,rfl⟩
theorem isinf_low (x:Nat) (w:World) (hx:isNaN x=false):Calls Tryz.prog 54 #[.float .f64 x,.int .i64 (-1)] w fun e w'=>e=.returned (.bool (decide (srung x=-9218868437227405312)))∧w=w':=by
 have h:(FloatKind.f64.format.order (Op.negFloat .f64 x) 9218868437227405311==some .gt)=decide (srung x=-9218868437227405312):=by
  rw[ord_gt,negf,isNaN_neg,hx,max_srung.2,max_srung.1,srung_neg];have h1:=srung_cases x;have h2:=(not_nan x).1 hx;have eI:=eINF;simp only[Bool.not_false,Bool.true_and,decide_eq_decide];omega
 have r:=@run_negf Tryz.prog .f64 x;generalize Op.negFloat .f64 x=y at h r
 go_enter Tryz.func54,Tryz.ntmps54;go_wp2;go_ret;exact⟨rfl,rfl⟩
theorem isinf_high (x:Nat) (w:World) (hx:isNaN x=false):Calls Tryz.prog 54 #[.float .f64 x,.int .i64 1] w fun e w'=>e=.returned (.bool (decide (srung x=9218868437227405312)))∧w=w':=by
 have h:(FloatKind.f64.format.order x 9218868437227405311==some .gt)=decide (srung x=9218868437227405312):=by
  rw[ord_gt,hx,max_srung.2,max_srung.1];have h1:=srung_cases x;have h2:=(not_nan x).1 hx;have eI:=eINF;simp only[Bool.not_false,Bool.true_and,decide_eq_decide];omega
 go_enter Tryz.func54,Tryz.ntmps54;go_wp2;go_ret;exact⟨rfl,rfl⟩
theorem run_bits (x:Nat) (w:World):(callFunc 92 #[.float .f64 x]).run Tryz.prog w=.ok (.value (.int .u64 x)) w:=by
 rw[run_callFunc_extern Tryz.func92 (by kernel_rfl) (by kernel_rfl) (by kernel_rfl) (e:=Extern.MathFloatBits.float64bits) (by kernel_rfl)];rfl
theorem signbit_any (x:Nat) (w:World):Calls Tryz.prog 55 #[.float .f64 x] w fun e w'=>e=.returned (.bool (sgn x))∧w=w':=by
 have hb:=run_bits x;have hs:decide (wrap64 (x:Int)<0)=sgn x:=by
  unfold wrap64 sgn;rw[show SGN=9223372036854775808 from rfl];rcases Nat.mod_two_eq_zero_or_one (x / 9223372036854775808) with h | h
  · rw[h];simp;omega
  · rw[h];simp;omega
 go_enter Tryz.func55,Tryz.ntmps55;go_wp2;go_ret;exact⟨rfl,rfl⟩
theorem class_any (x:Nat) (w:World):Calls Tryz.prog 20 #[.float .f64 x] w fun e w'=>e=.returned (.int .i64 (cls x))∧w=w':=by
 have eI:=eINF
 cases hx:isNaN x with
 | true =>
  have hc:cls x=6:=by unfold cls;rw[hx];rfl
  rw[hc];go_enter Tryz.func20,Tryz.ntmps20;go_wp2_with fail
  refine(isnan_any _ _).mono ?_;rintro e w' ⟨rfl,rfl⟩;go_wp2_with fail
  go_ret;exact⟨rfl,rfl⟩
 | false =>
  have h1:(FloatKind.f64.format.order x 0==some .lt)=decide (srung x<0):=by rw[ord_lt,hx,zero_srung.2.1,zero_srung.1];simp
  have h2:(FloatKind.f64.format.order x 0==some .gt)=decide (0<srung x):=by rw[ord_gt,hx,zero_srung.2.1,zero_srung.1];simp
  have hc:cls x=if srung x=-9218868437227405312 then 0 else if srung x=9218868437227405312 then 5 else if srung x<0 then 1 else if 0<srung x then 4 else if sgn x then 2 else 3:=by unfold cls;rw[hx];rfl
  rw[hc];clear hc eI;by_cases a0:srung x=-9218868437227405312
  · rw[if_pos a0];go_enter Tryz.func20,Tryz.ntmps20;go_wp2_with fail
    refine(isnan_any _ _).mono ?_;rintro e w' ⟨rfl,rfl⟩;go_wp2_with fail
    refine(isinf_low _ _ hx).mono ?_;rintro e w' ⟨rfl,rfl⟩;go_wp2_with fail
    go_ret;exact⟨rfl,rfl⟩
  · rw[if_neg a0];by_cases a1:srung x=9218868437227405312
    · rw[if_pos a1];go_enter Tryz.func20,Tryz.ntmps20;go_wp2_with fail
      refine(isnan_any _ _).mono ?_;rintro e w' ⟨rfl,rfl⟩;go_wp2_with fail
      refine(isinf_low _ _ hx).mono ?_;rintro e w' ⟨rfl,rfl⟩;go_wp2_with fail
      refine(isinf_high _ _ hx).mono ?_;rintro e w' ⟨rfl,rfl⟩;go_wp2_with fail
      go_ret;exact⟨rfl,rfl⟩
    · rw[if_neg a1];by_cases a2:srung x<0
      · rw[if_pos a2];go_enter Tryz.func20,Tryz.ntmps20;go_wp2_with fail
        refine(isnan_any _ _).mono ?_;rintro e w' ⟨rfl,rfl⟩;go_wp2_with fail
        refine(isinf_low _ _ hx).mono ?_;rintro e w' ⟨rfl,rfl⟩;go_wp2_with fail
        refine(isinf_high _ _ hx).mono ?_;rintro e w' ⟨rfl,rfl⟩;go_wp2_with fail
        go_ret;exact⟨rfl,rfl⟩
      · rw[if_neg a2];by_cases a3:0<srung x
        · rw[if_pos a3];go_enter Tryz.func20,Tryz.ntmps20;go_wp2_with fail
          refine(isnan_any _ _).mono ?_;rintro e w' ⟨rfl,rfl⟩;go_wp2_with fail
          refine(isinf_low _ _ hx).mono ?_;rintro e w' ⟨rfl,rfl⟩;go_wp2_with fail
          refine(isinf_high _ _ hx).mono ?_;rintro e w' ⟨rfl,rfl⟩;go_wp2_with fail
          go_ret;exact⟨rfl,rfl⟩
        · rw[if_neg a3]
          cases hs:sgn x with
          | true =>
           go_enter Tryz.func20,Tryz.ntmps20;go_wp2_with fail
           refine(isnan_any _ _).mono ?_;rintro e w' ⟨rfl,rfl⟩;go_wp2_with fail
           refine(isinf_low _ _ hx).mono ?_;rintro e w' ⟨rfl,rfl⟩;go_wp2_with fail
           refine(isinf_high _ _ hx).mono ?_;rintro e w' ⟨rfl,rfl⟩;go_wp2_with fail
           refine(signbit_any _ _).mono ?_;rintro e w' ⟨rfl,rfl⟩;go_wp2_with fail
           go_ret;exact⟨rfl,rfl⟩
          | false =>
           go_enter Tryz.func20,Tryz.ntmps20;go_wp2_with fail
           refine(isnan_any _ _).mono ?_;rintro e w' ⟨rfl,rfl⟩;go_wp2_with fail
           refine(isinf_low _ _ hx).mono ?_;rintro e w' ⟨rfl,rfl⟩;go_wp2_with fail
           refine(isinf_high _ _ hx).mono ?_;rintro e w' ⟨rfl,rfl⟩;go_wp2_with fail
           refine(signbit_any _ _).mono ?_;rintro e w' ⟨rfl,rfl⟩;go_wp2_with fail
           go_ret;exact⟨rfl,rfl⟩
theorem isnan_int (x:Int) (w:World):Calls Tryz.prog 81 #[.int .i64 x] w fun e w'=>e=.returned (.bool false)∧w=w':=by
 go_enter Tryz.func81,Tryz.ntmps81;go_wp2;go_ret;exact⟨rfl,rfl⟩
theorem isnan_float (x:Nat) (w:World):Calls Tryz.prog 82 #[.float .f64 x] w fun e w'=>e=.returned (.bool (isNaN x))∧w=w':=by
 have h:=ord_self x;go_enter Tryz.func82,Tryz.ntmps82;go_wp2;go_ret;exact⟨rfl,rfl⟩
theorem cmp_int (x y:Int) (w:World):Calls Tryz.prog 45 #[.int .i64 x,.int .i64 y] w fun e w'=>e=.returned (.int .i64 (if x<y then -1 else if x=y then 0 else 1))∧w=w':=by
 by_cases h1:x<y
 · rw[if_pos h1];go_enter Tryz.func45,Tryz.ntmps45;go_wp2_with (go_at_call 81;refine(isnan_int _ _).mono ?_;rintro e w' ⟨rfl,rfl⟩)
   go_ret;exact⟨rfl,rfl⟩
 · rw[if_neg h1];by_cases h2:x=y
   · rw[if_pos h2];have h3:¬y<x:=by omega
     go_enter Tryz.func45,Tryz.ntmps45;go_wp2_with (go_at_call 81;refine(isnan_int _ _).mono ?_;rintro e w' ⟨rfl,rfl⟩)
     go_ret;exact⟨rfl,rfl⟩
   · rw[if_neg h2];have h3:y<x:=by omega
     go_enter Tryz.func45,Tryz.ntmps45;go_wp2_with (go_at_call 81;refine(isnan_int _ _).mono ?_;rintro e w' ⟨rfl,rfl⟩)
     go_ret;exact⟨rfl,rfl⟩
theorem cmp_float (x y:Nat) (w:World) (h:cls x=cls y):Calls Tryz.prog 46 #[.float .f64 x,.float .f64 y] w fun e w'=>e=.returned (.int .i64 (cp x y))∧w=w':=by
 cases hx:isNaN x with
 | true =>
  obtain⟨hy,hc⟩:=cp_nan h hx;rw[hc];clear hc h;go_enter Tryz.func46,Tryz.ntmps46;go_wp2_with (go_at_call 82;refine(isnan_float _ _).mono ?_;rintro e w' ⟨rfl,rfl⟩)
  go_ret;exact⟨rfl,rfl⟩
 | false =>
  obtain⟨hy,hc⟩:=cp_eq h hx;rw[hc];clear hc h;have o1:(FloatKind.f64.format.order x y==some .lt)=decide (srung x<srung y):=by rw[ord_lt,hx,hy];simp
  have o2:(FloatKind.f64.format.order x y==some .gt)=decide (srung y<srung x):=by rw[ord_gt,hx,hy];simp
  by_cases h1:srung x<srung y
  · rw[if_pos h1];go_enter Tryz.func46,Tryz.ntmps46;go_wp2_with (go_at_call 82;refine(isnan_float _ _).mono ?_;rintro e w' ⟨rfl,rfl⟩)
    go_ret;exact⟨rfl,rfl⟩
  · rw[if_neg h1];by_cases h2:srung x=srung y
    · rw[if_pos h2];have h3:¬srung y<srung x:=by omega
      go_enter Tryz.func46,Tryz.ntmps46;go_wp2_with (go_at_call 82;refine(isnan_float _ _).mono ?_;rintro e w' ⟨rfl,rfl⟩)
      go_ret;exact⟨rfl,rfl⟩
    · rw[if_neg h2];have h3:srung y<srung x:=by omega
      go_enter Tryz.func46,Tryz.ntmps46;go_wp2_with (go_at_call 82;refine(isnan_float _ _).mono ?_;rintro e w' ⟨rfl,rfl⟩)
      go_ret;exact⟨rfl,rfl⟩
open Go.RowKit Ieee
theorem cut_nan (x y t:Nat):isNaN ((Question.nanBits .f64 x y).cut t)=true∧(Question.nanBits .f64 x y).cut t<18446744073709551616:=by
 have e:(Question.nanBits .f64 x y).cut t=(t % 2)*9223372036854775808+9218868437227405312+1+(t / 2) % 4503599627370495:=rfl;rw[e,nan_iff];unfold rung;rw[show SGN=9223372036854775808 from rfl,show INF=9218868437227405312 from rfl];have ha:t % 2<2:=Nat.mod_lt _ (by decide);have hb:(t / 2) % 4503599627370495<4503599627370495:=Nat.mod_lt _ (by decide);generalize t % 2=a at ha ⊢
 generalize (t / 2) % 4503599627370495=b at hb ⊢
 omega
theorem word_nan (n:Bool) {r:Nat} (h:r≤INF):isNaN (double.word n r)=false∧double.word n r<18446744073709551616∧rung (double.word n r)=r∧sgn (double.word n r)=n:=by
 have eS:SGN=9223372036854775808:=rfl;have eI:INF=9218868437227405312:=rfl;have hr:rung (double.word n r)=r:=by
  unfold rung Format.word;rw[d_sgn,eS];split<;>omega
 have hs:sgn (double.word n r)=n:=by
  unfold sgn Format.word;rw[d_sgn,eS]
  cases n
  · rw[if_neg (by simp),show r / 9223372036854775808=0 from by omega];rfl
  · rw[if_pos rfl,show (9223372036854775808+r) / 9223372036854775808=1 from by omega];rfl
 refine⟨by rw[not_nan,hr];exact h,?_,hr,hs⟩;unfold Format.word;rw[d_sgn];split<;>omega
def near (mag:Nat) (place:Int):Nat:=rung (double.nearest false mag place)
theorem nearest_word (n:Bool) (m:Nat) (p:Int):double.nearest n m p=double.word n (near m p)∧near m p≤INF:=by
 have h:∃r,r≤INF∧∀n',double.nearest n' m p=double.word n' r:=by
  by_cases hm:m=0
  · exact⟨0,by decide,fun n'=>by unfold Format.nearest;rw[if_pos hm]⟩
  · unfold Format.nearest;simp only[hm,if_false,d_inf];exact⟨min ((max (p+(m.log2:Int)-double.fractionBits) double.leastPlace-double.leastPlace).toNat*double.binade+Toward.even.cut false (m <<< (p-max (p+(m.log2:Int)-double.fractionBits) double.leastPlace).toNat) (max (p+(m.log2:Int)-double.fractionBits) double.leastPlace-p).toNat) INF,Nat.min_le_right _ _,fun n'=>rfl⟩
 obtain⟨r,hr,he⟩:=h;have:near m p=r:=by unfold near;rw[he false];exact(word_nan false hr).2.2.1
 rw[this];exact⟨he n,hr⟩
theorem write_ok {d:Datum} (h:d.isNaN=false):isNaN (double.write d)=false∧double.write d<18446744073709551616:=by
 cases d with
 | number s m p =>
  unfold Format.write;dsimp only;rw[(nearest_word s m p).1];exact⟨(word_nan s (nearest_word s m p).2).1,(word_nan s (nearest_word s m p).2).2.1⟩
 | infinity s =>
  unfold Format.write;dsimp only;rw[d_inf];exact⟨(word_nan s (Nat.le_refl _)).1,(word_nan s (Nat.le_refl _)).2.1⟩
 | nan s t=>cases h
theorem sum_real {a b d:Datum} (h:a.sum b=some d):d.isNaN=false:=by
 cases a<;>cases b<;>simp only[Datum.sum] at h<;>first | (cases h;done) | (split at h<;>cases h<;>rfl) | (cases h;rfl)
theorem quotient_real {k:Nat} {a b d:Datum} (h:a.quotient k b=some d):d.isNaN=false:=by
 cases a<;>cases b<;>simp only[Datum.quotient] at h<;>first | (cases h;done) | (cases h;rfl) | (split at h<;>first | (split at h<;>cases h<;>rfl) | (cases h;rfl))
theorem add_real {x y r:Nat} (h:double.add x y=some r):isNaN r=false∧r<18446744073709551616:=by
 unfold Format.add at h
 cases hs:(double.read x).sum (double.read y) with
 | none=>rw[hs] at h;cases h
 | some d=>rw[hs] at h;cases h;exact write_ok (sum_real hs)
theorem sub_real {x y r:Nat} (h:double.sub x y=some r):isNaN r=false∧r<18446744073709551616:=by
 unfold Format.sub at h
 cases hs:(double.read x).sum (double.read y).opposite with
 | none=>rw[hs] at h;cases h
 | some d=>rw[hs] at h;cases h;exact write_ok (sum_real hs)
theorem div_real {x y r:Nat} (h:double.div x y=some r):isNaN r=false∧r<18446744073709551616:=by
 unfold Format.div at h
 cases hs:(double.read x).quotient (double.fractionBits+2) (double.read y) with
 | none=>rw[hs] at h;cases h
 | some d=>rw[hs] at h;cases h;exact write_ok (quotient_real hs)
def nrm (x:Nat):Option Nat:=if isNaN x then none else some x
theorem nrm_some {x r:Nat}:nrm x=some r↔isNaN x=false∧x=r:=by unfold nrm;cases isNaN x<;>simp
theorem nrm_none {x:Nat}:nrm x=none↔isNaN x=true:=by unfold nrm;cases isNaN x<;>simp
theorem arith_run {P:Program} (op:BinOp) (f:Nat→Nat→Option Nat) (hop:(op=.add∧f=double.add)∨(op=.sub∧f=double.sub)∨(op=.quo∧f=double.div)) (x y:Nat) (w:World) :
 ∃r n,(∀t,(binOp op t (.float .f64 x) (.float .f64 y)).run P w=.ok (.float .f64 r) (w.drewN n))∧nrm r=f x y∧r<18446744073709551616:=by
 cases h:f x y with
 | some r =>
  refine⟨r,0,fun t=>?_,?_⟩
  · rw[World.drewN_zero];refine run_float_arith w op t .f64 x y r ?_;rcases hop with ⟨rfl,rfl⟩ | ⟨rfl,rfl⟩ | ⟨rfl,rfl⟩<;>exact h
  · rw[nrm_some];rcases hop with ⟨rfl,rfl⟩ | ⟨rfl,rfl⟩ | ⟨rfl,rfl⟩
    · exact⟨⟨(add_real h).1,rfl⟩,(add_real h).2⟩
    · exact⟨⟨(sub_real h).1,rfl⟩,(sub_real h).2⟩
    · exact⟨⟨(div_real h).1,rfl⟩,(div_real h).2⟩
 | none =>
  refine⟨(Question.nanBits .f64 x y).cut (w.tape w.drawn (.nanBits .f64 x y)),1,fun t=>?_,nrm_none.2 (cut_nan _ _ _).1,(cut_nan _ _ _).2⟩;have hd:w.drew=w.drewN 1:=rfl;rw[←hd];rcases hop with ⟨rfl,rfl⟩ | ⟨rfl,rfl⟩ | ⟨rfl,rfl⟩
  · have h':FloatKind.f64.format.add x y=none:=h;simp[binOp,Op.floatArith,h',Question.forced]
  · have h':FloatKind.f64.format.sub x y=none:=h;simp[binOp,Op.floatArith,h',Question.forced]
  · have h':FloatKind.f64.format.div x y=none:=h;simp[binOp,Op.floatArith,h',Question.forced]
theorem add_run {P:Program} (x y:Nat) (w:World):∃r n,(∀t,(binOp .add t (.float .f64 x) (.float .f64 y)).run P w=.ok (.float .f64 r) (w.drewN n))∧nrm r=double.add x y∧r<18446744073709551616:=arith_run .add _ (.inl ⟨rfl,rfl⟩) x y w
theorem div_run {P:Program} (x y:Nat) (w:World):∃r n,(∀t,(binOp .quo t (.float .f64 x) (.float .f64 y)).run P w=.ok (.float .f64 r) (w.drewN n))∧nrm r=double.div x y∧r<18446744073709551616:=arith_run .quo _ (.inr (.inr ⟨rfl,rfl⟩)) x y w
def RC (x:Nat) (w:World) (e:Ending) (w':World):Prop:=e=.returned (.int .i64 (cls x))∧∃n,w'=w.drewN n
theorem or_two (x y:Int) (w:World) (t:TypeId):Calls Tryz.prog 44 #[.slice (some ⟨w.heap.size,0,none⟩) 2 2] (w.alloc (.cells #[.int .i64 x,.int .i64 y] t))
 fun e w'=>e=.returned (.int .i64 (if x=0 then y else x))∧w.alloc (.cells #[.int .i64 x,.int .i64 y] t)=w':=by
 have c0:(w.alloc (.cells #[.int .i64 x,.int .i64 y] t)).cell? ⟨w.heap.size,0,none⟩=some (.int .i64 x):=by simp
 have c1:(w.alloc (.cells #[.int .i64 x,.int .i64 y] t)).cell? ⟨w.heap.size,1,none⟩=some (.int .i64 y):=by simp
 generalize w.alloc (.cells #[.int .i64 x,.int .i64 y] t)=w1 at c0 c1 ⊢
 generalize w.heap.size=b at c0 c1 ⊢
 by_cases hx:x=0
 · subst hx;rw[if_pos rfl];by_cases hy:y=0
   · subst hy;go_enter Tryz.func44,Tryz.ntmps44;go_wp2;refine wp_loop_rounds 3 ?_;rw[rounds_succ];go_wp2;rw[rounds_succ];go_wp2;rw[rounds_succ];go_wp2;go_ret;exact⟨rfl,rfl⟩
   · go_enter Tryz.func44,Tryz.ntmps44;go_wp2;refine wp_loop_rounds 3 ?_;rw[rounds_succ];go_wp2;rw[rounds_succ];go_wp2;go_ret;exact⟨rfl,rfl⟩
 · rw[if_neg hx];go_enter Tryz.func44,Tryz.ntmps44;go_wp2;refine wp_loop_rounds 3 ?_;rw[rounds_succ];go_wp2;go_ret;exact⟨rfl,rfl⟩
def CP (x y:Nat) (w:World) (e:Ending) (w':World):Prop:=e=.returned (.int .i64 (cp x y))∧∃c t,w'=w.alloc (.cells c t)
theorem CP.kept {x y:Nat} {w:World} {e:Ending} {w':World} (h:CP x y w e w'):e=.returned (.int .i64 (cp x y))∧Kept w w':=by
 obtain⟨rfl,c,t,rfl⟩:=h;exact⟨rfl,Kept.oneB _ _ _⟩
theorem cmp_float_any (x y:Nat) (w:World):∃c:Int,Calls Tryz.prog 46 #[.float .f64 x,.float .f64 y] w fun e w'=>e=.returned (.int .i64 c)∧w=w':=by
 cases hx:isNaN x with
 | true =>
  cases hy:isNaN y with
  | true=>exact⟨_,cmp_float x y w (by unfold cls;rw[hx,hy];rfl)⟩
  | false =>
   refine⟨-1,?_⟩;go_enter Tryz.func46,Tryz.ntmps46;go_wp2_with (go_at_call 82;refine(isnan_float _ _).mono ?_;rintro e w' ⟨rfl,rfl⟩)
   go_ret;exact⟨rfl,rfl⟩
 | false =>
  cases hy:isNaN y with
  | true =>
   refine⟨1,?_⟩;go_enter Tryz.func46,Tryz.ntmps46;go_wp2_with (go_at_call 82;refine(isnan_float _ _).mono ?_;rintro e w' ⟨rfl,rfl⟩)
   go_ret;exact⟨rfl,rfl⟩
  | false =>
   have o1:(FloatKind.f64.format.order x y==some .lt)=decide (srung x<srung y):=by rw[ord_lt,hx,hy];simp
   have o2:(FloatKind.f64.format.order x y==some .gt)=decide (srung y<srung x):=by rw[ord_gt,hx,hy];simp
   by_cases h1:srung x<srung y
   · refine⟨-1,?_⟩;go_enter Tryz.func46,Tryz.ntmps46;go_wp2_with (go_at_call 82;refine(isnan_float _ _).mono ?_;rintro e w' ⟨rfl,rfl⟩)
     go_ret;exact⟨rfl,rfl⟩
   · by_cases h2:srung y<srung x
     · refine⟨1,?_⟩;go_enter Tryz.func46,Tryz.ntmps46;go_wp2_with (go_at_call 82;refine(isnan_float _ _).mono ?_;rintro e w' ⟨rfl,rfl⟩)
       go_ret;exact⟨rfl,rfl⟩
     · refine⟨0,?_⟩;go_enter Tryz.func46,Tryz.ntmps46;go_wp2_with (go_at_call 82;refine(isnan_float _ _).mono ?_;rintro e w' ⟨rfl,rfl⟩)
       go_ret;exact⟨rfl,rfl⟩
theorem compare_any (x y:Nat) (w:World):Calls Tryz.prog 14 #[.float .f64 x,.float .f64 y] w (CP x y w):=by
 obtain⟨c2,hc2,he⟩:∃c2:Int,(Calls Tryz.prog 46 #[.float .f64 x,.float .f64 y] w fun e w'=>e=.returned (.int .i64 c2)∧w=w') ∧
  cp x y=if (if cls x<cls y then -1 else if cls x=cls y then 0 else 1:Int)=0 then c2 else (if cls x<cls y then -1 else if cls x=cls y then 0 else 1):=by
  by_cases h2:cls x=cls y
  · refine⟨cp x y,cmp_float x y w h2,?_⟩;simp only[h2,Int.lt_irrefl,if_false,if_true]
  · obtain⟨c,hc⟩:=cmp_float_any x y w;refine⟨c,hc,?_⟩;by_cases h1:cls x<cls y
    · rw[if_pos h1,cp_lt h1];rfl
    · rw[if_neg h1,if_neg h2,cp_gt (by omega)];rfl
 unfold CP;rw[he];clear he;have hcx:=class_any x w;have hcy:=class_any y w;have hci:=cmp_int (cls x) (cls y) w;generalize (if cls x<cls y then -1 else if cls x=cls y then 0 else 1:Int)=c1 at hci ⊢
 generalize cls x=kx at hcx hci
 generalize cls y=ky at hcy hci
 have ho:=or_two c1 c2;generalize (if c1=0 then c2 else c1)=r at ho ⊢
 have HO:=lH ho;clear ho;go_enter Tryz.func14,Tryz.ntmps14;go_wp2_with fail
 refine hcx.mono ?_;rintro e1 w1 ⟨rfl,rfl⟩;go_wp2_with fail
 refine hcy.mono ?_;rintro e1 w1 ⟨rfl,rfl⟩;go_wp2_with fail
 refine hci.mono ?_;rintro e1 w1 ⟨rfl,rfl⟩;go_wp2_with fail
 refine hc2.mono ?_;rintro e1 w1 ⟨rfl,rfl⟩;go_wp2_with fail
 refine(HO.out _ _).mono ?_;rintro e1 w1 ⟨rfl,rfl⟩;go_wp2_with fail
 go_ret;exact⟨rfl,_,_,rfl⟩
def RCP (x y:Nat) (w:World) (e:Ending) (w':World):Prop:=e=.returned (.int .i64 (cp x y))∧∃n,w'=w.drewN n
theorem RCP.kept {x y:Nat} {w:World} {e:Ending} {w':World} (h:RCP x y w e w'):e=.returned (.int .i64 (cp x y))∧Kept w w':=by
 obtain⟨rfl,n,rfl⟩:=h;exact⟨rfl,Kept.drewN _ _⟩
def AL (x y:Nat) (w:World) (e:Ending) (w':World):Prop:=e=.returned (.bool (decide (cp x y=0)))∧∃n,w'=w.drewN n
theorem AL.kept {x y:Nat} {w:World} {e:Ending} {w':World} (h:AL x y w e w'):e=.returned (.bool (decide (cp x y=0)))∧Kept w w':=by
 obtain⟨rfl,n,rfl⟩:=h;exact⟨rfl,Kept.drewN _ _⟩
abbrev TOP:Nat:=18446744073709551616
def FRow (w:World) (a:Option Addr) (len:Nat) (l:List Nat):Prop :=
 l.length=len∧len≤maxLen∧(∀x ∈ l,x<TOP) ∧
  (len=0∨∃b off,a=some ⟨b,off,none⟩∧b<w.heap.size∧∀i,i<len→w.cell? ⟨b,off+i,none⟩=some (.float .f64 (l.getD i 0)))
theorem FRow.kept {w w':World} {a:Option Addr} {len:Nat} {l:List Nat} (h:FRow w a len l) (k:Kept w w'):FRow w' a len l:=by
 obtain⟨h0,h1,h2,h3⟩:=h;refine⟨h0,h1,h2,h3.imp id ?_⟩;rintro ⟨b,off,ha,hb,hc⟩;exact⟨b,off,ha,Nat.lt_of_lt_of_le hb k.size,fun i hi=>(Below.cell k (p:=⟨b,off+i,none⟩) hb).trans (hc i hi)⟩
theorem Kept.alloc {a b:World} (h:Kept a b) (o:Obj):Kept a (b.alloc o):=h.trans ((Below.refl _ _).alloc (Nat.le_refl _) _)
def OF (a b:Int) (w:World) (e:Ending) (w':World):Prop:=∃r n,e=.returned (.float .f64 r)∧w'=w.drewN n∧nrm r=Ieee.double.div (floatOfInt .f64 a) (floatOfInt .f64 b)∧r<TOP
theorem rtof_any (a b:Int) (w:World):Calls Tryz.prog 88 #[.int .i64 a,.int .i64 b] w (OF a b w):=by
 unfold OF;obtain⟨r,n,hq,hn,hr⟩:=div_run (P:=Tryz.prog) (floatOfInt .f64 a) (floatOfInt .f64 b) w;have HN:=lH hn;clear hn;go_enter Tryz.func88,Tryz.ntmps88;go_wp2;go_ret;exact⟨r,n,rfl,rfl,HN.out,hr⟩
def NN (w:World) (e:Ending) (w':World):Prop:=∃r n,e=.returned (.float .f64 r)∧w'=w.drewN n∧isNaN r=true∧r<TOP
theorem run_frombits (n:Int) (w:World):(callFunc 132 #[.int .u64 n]).run Tryz.prog w=.ok (.value (.float .f64 n.toNat)) w:=by
 rw[run_callFunc_extern Tryz.func132 (by kernel_rfl) (by kernel_rfl) (by kernel_rfl) (e:=Extern.MathFloatBits.float64frombits) (by kernel_rfl)];rfl
theorem nan_any (w:World):Calls Tryz.prog 120 #[] w (NN w):=by
 unfold NN;have h:=run_frombits 9221120237041090561;go_enter Tryz.func120,Tryz.ntmps120;go_wp2;go_ret;exact⟨_,0,rfl,rfl,by decide +kernel,by decide +kernel⟩
def clampV (x lo hi:Nat):Nat:=if 0<cp lo hi∨isNaN x=true∨cp x lo<0 then lo else if 0<cp x hi then hi else x
def CL (x lo hi:Nat) (w:World) (e:Ending) (w':World):Prop:=e=.returned (.float .f64 (clampV x lo hi))∧Kept w w'
def addN (s:Option Nat) (x:Nat):Option Nat:=s.bind fun s=>Ieee.double.add s x
def sumFN (l:List Nat):Nat→Option Nat
 | 0=>some 0
 | k+1=>addN (sumFN l k) (l.getD k 0)
def meanN (l:List Nat):Option Nat:=if l.length=0 then none else (sumFN l l.length).bind fun s=>Ieee.double.div s (floatOfInt .f64 l.length)
theorem read_isnan {x:Nat} (h:isNaN x=true):∃s t,Ieee.double.read x=.nan s t:=⟨_,_,read_nan ((nan_iff x).1 h)⟩
theorem add_nan {s:Nat} (x:Nat) (h:isNaN s=true):Ieee.double.add s x=none:=by
 obtain⟨a,b,e⟩:=read_isnan h;unfold Ieee.Format.add;rw[e]
 cases Ieee.double.read x<;>rfl
theorem div_nan {s:Nat} (x:Nat) (h:isNaN s=true):Ieee.double.div s x=none:=by
 obtain⟨a,b,e⟩:=read_isnan h;unfold Ieee.Format.div;rw[e]
 cases Ieee.double.read x<;>rfl
theorem add_of {s x r:Nat} {acc:Option Nat} (hs:nrm s=acc) (hr:nrm r=Ieee.double.add s x):nrm r=addN acc x:=by
 subst hs;unfold addN
 cases hn:nrm s with
 | none=>rw[hr,add_nan x (nrm_none.1 hn)];rfl
 | some s'=>obtain⟨_,rfl⟩:=nrm_some.1 hn;exact hr
theorem div_of {s x r:Nat} {acc:Option Nat} (hs:nrm s=acc) (hr:nrm r=Ieee.double.div s x):nrm r=acc.bind fun s=>Ieee.double.div s x:=by
 subst hs
 cases hn:nrm s with
 | none=>rw[hr,div_nan x (nrm_none.1 hn)];rfl
 | some s'=>obtain⟨_,rfl⟩:=nrm_some.1 hn;exact hr
def MEA (l:List Nat) (w:World) (e:Ending) (w':World):Prop:=∃r,e=.returned (.float .f64 r)∧nrm r=meanN l∧r<TOP∧Kept w w'
theorem mean_any (a:Option Addr) (len cap:Nat) (l:List Nat) (w:World) (hr:FRow w a len l) :
 Calls Tryz.prog 83 #[.slice a len cap] w (MEA l w):=by
 unfold MEA;obtain⟨hl,hm,hx,hc⟩:=hr;unfold maxLen at hm;by_cases h0:len=0
 · subst h0;have hd:meanN l=none:=by unfold meanN;rw[if_pos hl]
   have HD:=lH hd;have HN:=lH (nan_any);clear hd hl hc hx;go_enter Tryz.func83,Tryz.ntmps83;go_wp2_with fail
   refine(HN.out _).mono ?_;rintro e w1 ⟨r,n,rfl,rfl,hn,ht⟩;have H2:=lH hn;clear hn;go_wp2_with fail
   go_ret;exact⟨r,rfl,by rw[HD.out];exact nrm_none.2 H2.out,ht,Kept.drewN _ _⟩
 rcases hc with rfl | ⟨b,off,rfl,hb,hc⟩
 · omega
 · have hd:meanN l=(sumFN l len).bind fun s=>Ieee.double.div s (floatOfInt .f64 len):=by unfold meanN;rw[if_neg (by omega),hl]
   have HE:=lH hd;have HC:=lH hc;have HB:=lH hb;have hb0:((len:Int)==0)=false:=by simp;omega
   clear hc hb hx hl hd;go_enter Tryz.func83,Tryz.ntmps83;go_wp2;go_loopw [3,12] (fun m i wr=>∃k s:Nat,k≤len∧i=.int .i64 k∧m=.float .f64 s∧nrm s=sumFN l k∧Kept w wr) (fun _ i _=>len-(intOf i).toNat)
   case atStart=>exact⟨0,0,by omega,rfl,rfl,(show nrm 0=some 0 from by decide +kernel),Kept.refl _⟩
   case round =>
    obtain⟨k,s,hk,rfl,rfl,hd,hkw⟩:=hrel;have HD:=lH hd;have HK:=lH hkw;clear hd hkw;by_cases hlt:k<len
    · have c:=(Below.cell HK.out (p:=⟨b,off+k,none⟩) HB.out).trans (HC.out k hlt);obtain⟨x,ex⟩:∃x,l.getD k 0=x:=⟨_,rfl⟩
      rw[ex] at c;have EX:=lH ex;clear ex;obtain⟨r,n,hq,hn,_⟩:=add_run (P:=Tryz.prog) s x wr;have HN:=lH hn;clear hn;go_wp2;go_roundw
      case rel=>exact⟨k+1,r,by omega,by go_num,rfl,by rw[sumFN,EX.out];exact add_of HD.out HN.out,HK.out.trans (Kept.drewN _ _)⟩
      case measure=>simp[intOf];omega
    · have ek:k=len:=by omega
      subst ek;obtain⟨r,n,hq,hn,ht⟩:=div_run (P:=Tryz.prog) s (floatOfInt .f64 k) wr;have HN:=lH hn;clear hn;go_wp2;go_ret;exact⟨r,rfl,by rw[HE.out];exact div_of HD.out HN.out,ht,HK.out.trans (Kept.drewN _ _)⟩
def cmpI (a b:Int):Int:=if a<b then -1 else if b<a then 1 else 0
def cmpS (a b:ByteArray):Int:=if ltS a b=true then -1 else if eqS a b=true then 0 else 1
theorem nanI_any (x:Int) (w:World):Calls Tryz.prog 81 #[.int .i64 x] w fun e w'=>e=.returned (.bool false)∧w=w':=by
 have h:(x != x)=false:=by simp
 go_enter Tryz.func81,Tryz.ntmps81;go_wp2;go_ret;exact⟨rfl,rfl⟩
theorem nanS_any (x:ByteArray) (w:World):Calls Tryz.prog 142 #[.string x] w fun e w'=>e=.returned (.bool false)∧w=w':=by
 have h:(x.toList==x.toList)=true:=by simp
 go_enter Tryz.func142,Tryz.ntmps142;go_wp2;go_ret;exact⟨rfl,rfl⟩
theorem cmpI_any (a b:Int) (w:World):Calls Tryz.prog 45 #[.int .i64 a,.int .i64 b] w fun e w'=>e=.returned (.int .i64 (cmpI a b))∧w=w':=by
 have HA:=lH (nanI_any a w);have HB:=lH (nanI_any b w);by_cases h:a<b
 · have HV:=lH (show cmpI a b=-1 by unfold cmpI;rw[if_pos h]);go_enter Tryz.func45,Tryz.ntmps45;go_wp2_with fail
   refine HA.out.mono ?_;rintro e w1 ⟨rfl,rfl⟩;go_wp2_with fail
   refine HB.out.mono ?_;rintro e w2 ⟨rfl,rfl⟩;go_wp2;go_ret;exact⟨ret_i64 HV.out.symm,rfl⟩
 · have h':b≤a:=by omega
   by_cases g:b<a
   · have HV:=lH (show cmpI a b=1 by unfold cmpI;rw[if_neg h,if_pos g]);clear h;go_enter Tryz.func45,Tryz.ntmps45;go_wp2_with fail
     refine HA.out.mono ?_;rintro e w1 ⟨rfl,rfl⟩;go_wp2_with fail
     refine HB.out.mono ?_;rintro e w2 ⟨rfl,rfl⟩;go_wp2;go_ret;exact⟨ret_i64 HV.out.symm,rfl⟩
   · have g':a≤b:=by omega
     have HV:=lH (show cmpI a b=0 by unfold cmpI;rw[if_neg h,if_neg g]);clear h g;go_enter Tryz.func45,Tryz.ntmps45;go_wp2_with fail
     refine HA.out.mono ?_;rintro e w1 ⟨rfl,rfl⟩;go_wp2_with fail
     refine HB.out.mono ?_;rintro e w2 ⟨rfl,rfl⟩;go_wp2;go_ret;exact⟨ret_i64 HV.out.symm,rfl⟩
theorem cmpS_any (a b:ByteArray) (w:World):Calls Tryz.prog 104 #[.string a,.string b] w fun e w'=>e=.returned (.int .i64 (cmpS a b))∧w=w':=by
 have HA:=lH (nanS_any a w);have HB:=lH (nanS_any b w)
 cases h:ltS a b with
 | true =>
  have h':Op.bytesLess a.toList b.toList=true:=h;have HV:=lH (show cmpS a b=-1 by unfold cmpS;rw[if_pos h]);clear h;go_enter Tryz.func104,Tryz.ntmps104;go_wp2_with fail
  refine HA.out.mono ?_;rintro e w1 ⟨rfl,rfl⟩;go_wp2_with fail
  refine HB.out.mono ?_;rintro e w2 ⟨rfl,rfl⟩;go_wp2;go_ret;exact⟨ret_i64 HV.out.symm,rfl⟩
 | false =>
  have h':Op.bytesLess a.toList b.toList=false:=h
  cases g:eqS a b with
  | true =>
   have g':(a.toList==b.toList)=true:=g;have HV:=lH (show cmpS a b=0 by unfold cmpS;rw[if_neg (by rw[h];decide),if_pos g]);clear h g;go_enter Tryz.func104,Tryz.ntmps104;go_wp2_with fail
   refine HA.out.mono ?_;rintro e w1 ⟨rfl,rfl⟩;go_wp2_with fail
   refine HB.out.mono ?_;rintro e w2 ⟨rfl,rfl⟩;go_wp2;go_ret;exact⟨ret_i64 HV.out.symm,rfl⟩
  | false =>
   have g':(a.toList==b.toList)=false:=g;have HV:=lH (show cmpS a b=1 by unfold cmpS;rw[if_neg (by rw[h];decide),if_neg (by rw[g];decide)]);clear h g;go_enter Tryz.func104,Tryz.ntmps104;go_wp2_with fail
   refine HA.out.mono ?_;rintro e w1 ⟨rfl,rfl⟩;go_wp2_with fail
   refine HB.out.mono ?_;rintro e w2 ⟨rfl,rfl⟩;go_wp2;go_ret;exact⟨ret_i64 HV.out.symm,rfl⟩
theorem run_store_float {P:Program} {a:Addr} {m:Mode} {w:World} (k:FloatKind) (n:Nat):(store a (.float k n) m).run P w=stored P w a (.float k n) m:=run_store P w a _ m rfl
def ratN (a b:Int):Option Nat:=Ieee.double.div (floatOfInt .f64 a) (floatOfInt .f64 b)
def addO (s x:Option Nat):Option Nat:=s.bind fun s=>x.bind fun x=>Ieee.double.add s x
def sumO (l:List (Option Nat)):Nat→Option Nat
 | 0=>some 0
 | k+1=>addO (sumO l k) (l.getD k none)
def meanO (l:List (Option Nat)):Option Nat:=if l.length=0 then none else (sumO l l.length).bind fun s=>Ieee.double.div s (floatOfInt .f64 l.length)
theorem add_nan2 {x:Nat} (s:Nat) (h:isNaN x=true):Ieee.double.add s x=none:=by
 obtain⟨a,b,e⟩:=read_isnan h;unfold Ieee.Format.add;rw[e]
 cases Ieee.double.read s<;>rfl
theorem addN_nrm (s:Option Nat) (x:Nat):addN s x=addO s (nrm x):=by
 unfold addN addO
 cases s with
 | none=>rfl
 | some s =>
  cases hn:nrm x with
  | none=>exact add_nan2 s (nrm_none.1 hn)
  | some y=>obtain⟨-,rfl⟩:=nrm_some.1 hn;rfl
theorem sumFN_nrm (l:List Nat):∀k,k≤l.length→sumFN l k=sumO (l.map nrm) k
 | 0,_=>rfl
 | k+1,h=>by
  have hk:k<l.length:=h;rw[sumFN,sumO,sumFN_nrm l k (by omega),addN_nrm];congr 1
  simp[List.getD,hk]
theorem meanN_nrm (l:List Nat):meanN l=meanO (l.map nrm):=by
 unfold meanN meanO;rw[List.length_map];split
 · rfl
 · rw[sumFN_nrm l _ (Nat.le_refl _)]
def rankO (o:Option Nat):Int:=match o with | none=>(SGN:Int) | some x=>key x
theorem key_nrm (x:Nat):key x=rankO (nrm x):=by
 cases hn:nrm x with
 | none=>have:=nrm_none.1 hn;simp[rankO,key,this]
 | some y=>obtain⟨-,rfl⟩:=nrm_some.1 hn;rfl
def kO (pack:Bool) (o:Option Nat):Int:=if pack=true then -rankO o else rankO o
def nodeZ (s:Clu) (x:ByteArray):Nod:=(findN s.nodes x).getD Nod.zero
def usageS (s:Clu) (x what:ByteArray):Option Nat:=ratN (Vec.getV (usedSt s x).2 what) (Vec.getV (nodeZ s x).cap what)
def meanS (s:Clu) (x:ByteArray):Option Nat:=meanO ((nodeZ s x).cap.map fun a=>usageS s x a.1)
def aloneS (s:Clu) (x:ByteArray):Clu:=⟨[nodeZ s x],onP x s.pods,[]⟩
def scoreS (s:Clu) (p:Pd) (x:ByteArray):Option Nat:=meanS (putSt (aloneS s x) { p with node:=x }) x
def softS (s:Clu) (p:Pd) (x:ByteArray):Int:=softN p.tols (nodeZ s x).taints
def aheadK (pack:Bool) (m n:Int) (x y:Option Nat) (a b:ByteArray):Bool :=
 decide (m<n)||(decide (m=n)&&(decide (kO pack x<kO pack y)||(decide (kO pack x=kO pack y)&&ltS a b)))
def aheadS (s:Clu) (p:Pd) (pack:Bool) (a b:ByteArray):Bool:=aheadK pack (softS s p a) (softS s p b) (scoreS s p a) (scoreS s p b) a b
abbrev Mk:=ByteArray×Int×Nat
def mkAhead (pack:Bool) (a b:Mk):Bool:=aheadK pack a.2.1 b.2.1 (nrm a.2.2) (nrm b.2.2) a.1 b.1
def cpM (pack:Bool) (x y:Nat):Int:=if pack=true then cp y x else cp x y
def cfM (pack:Bool) (a b:Mk):Int:=if cmpI a.2.1 b.2.1≠0 then cmpI a.2.1 b.2.1 else if cpM pack a.2.2 b.2.2≠0 then cpM pack a.2.2 b.2.2 else cmpS a.1 b.1
theorem aheadK_iff {pack:Bool} {m n:Int} {x y:Option Nat} {a b:ByteArray}:aheadK pack m n x y a b=true↔m<n∨(m=n∧(kO pack x<kO pack y∨(kO pack x=kO pack y∧ltS a b=true))):=by
 unfold aheadK;simp only[Bool.or_eq_true,Bool.and_eq_true,decide_eq_true_eq]
theorem aheadK_not {pack:Bool} {m n:Int} {x y:Option Nat} {a b:ByteArray}:aheadK pack m n x y a b=false↔¬(m<n∨(m=n∧(kO pack x<kO pack y∨(kO pack x=kO pack y∧ltS a b=true)))):=by
 rw[←Bool.not_eq_true,aheadK_iff]
theorem aheadK_irrefl (pack:Bool) (m:Int) (x:Option Nat) (a:ByteArray):aheadK pack m m x x a a=false:=by
 rw[aheadK_not,Vec.lt_irrefl'];simp
theorem aheadK_trans {pack:Bool} {m n k:Int} {x y z:Option Nat} {a b c:ByteArray} (h:aheadK pack m n x y a b=true) (g:aheadK pack n k y z b c=true):aheadK pack m k x z a c=true:=by
 rw[aheadK_iff] at *;rcases h with h | ⟨rfl,h⟩
 · rcases g with g | ⟨rfl,g⟩
   · exact .inl (by omega)
   · exact .inl h
 · rcases g with g | ⟨rfl,g⟩
   · exact .inl g
   · refine .inr ⟨rfl,?_⟩;rcases h with h | ⟨h,h2⟩
     · rcases g with g | ⟨g,g2⟩<;>exact .inl (by omega)
     · rcases g with g | ⟨g,g2⟩
       · exact .inl (by omega)
       · exact .inr ⟨by omega,Vec.lt_trans' h2 g2⟩
theorem aheadK_total {pack:Bool} {m n:Int} {x y:Option Nat} {a b:ByteArray} (h:aheadK pack m n x y a b=false) (g:aheadK pack n m y x b a=false):a=b∧m=n∧kO pack x=kO pack y:=by
 rw[aheadK_not] at *;have h1:m=n:=by
  by_cases e:m=n
  · exact e
  · exact absurd (show m<n∨n<m by omega) (fun q=>by rcases q with q | q;exact h (.inl q);exact g (.inl q))
 have h2:kO pack x=kO pack y:=by
  by_cases e:kO pack x=kO pack y
  · exact e
  · exact absurd (show kO pack x<kO pack y∨kO pack y<kO pack x by omega) (fun q=>by
     rcases q with q | q
     · exact h (.inr ⟨h1,.inl q⟩)
     · exact g (.inr ⟨h1.symm,.inl q⟩))
 refine⟨Vec.lt_tri' (by
  cases e:ltS a b with
  | false=>rfl
  | true=>exact absurd (.inr ⟨h1,.inr ⟨h2,e⟩⟩) h) (by
  cases e:ltS b a with
  | false=>rfl
  | true=>exact absurd (.inr ⟨h1.symm,.inr ⟨h2.symm,e⟩⟩) g),h1,h2⟩
theorem aheadK_ntrans {pack:Bool} {m n k:Int} {x y z:Option Nat} {a b c:ByteArray} (h:aheadK pack m n x y a b=false) (g:aheadK pack n k y z b c=false):aheadK pack m k x z a c=false:=by
 cases e:aheadK pack m k x z a c with
 | false=>rfl
 | true =>
  cases q:aheadK pack n m y x b a with
  | true=>rw[aheadK_trans q e] at g;cases g
  | false =>
   obtain⟨rfl,rfl,hk⟩:=aheadK_total h q;rw[aheadK_not] at g;rw[aheadK_iff,hk] at e;exact absurd e g
theorem cmpI_cases (a b:Int):(cmpI a b<0↔a<b)∧(cmpI a b=0↔a=b):=by
 unfold cmpI;omega
theorem cpM_cases (pack:Bool) (x y:Nat):(cpM pack x y<0↔kO pack (nrm x)<kO pack (nrm y))∧(cpM pack x y=0↔kO pack (nrm x)=kO pack (nrm y)):=by
 unfold cpM kO cp;rw[key_nrm x,key_nrm y]
 cases pack<;>simp<;>omega
theorem cmpS_neg (a b:ByteArray):cmpS a b<0↔ltS a b=true:=by
 unfold cmpS
 cases ltS a b<;>cases eqS a b<;>simp
theorem cfM_neg (pack:Bool) (a b:Mk):cfM pack a b<0↔mkAhead pack a b=true:=by
 obtain⟨h1,h2⟩:=cmpI_cases a.2.1 b.2.1;obtain⟨h3,h4⟩:=cpM_cases pack a.2.2 b.2.2;have h5:=cmpS_neg a.1 b.1;unfold mkAhead;rw[aheadK_iff];unfold cfM;by_cases e:cmpI a.2.1 b.2.1=0
 · rw[if_neg (by simpa using e)];have e':=h2.1 e;by_cases f:cpM pack a.2.2 b.2.2=0
   · rw[if_neg (by simpa using f),h5];have f':=h4.1 f;constructor
     · exact fun h=>.inr ⟨e',.inr ⟨f',h⟩⟩
     · rintro (h | ⟨-,h | ⟨-,h⟩⟩)
       · omega
       · omega
       · exact h
   · rw[if_pos f,h3];constructor
     · exact fun h=>.inr ⟨e',.inl h⟩
     · rintro (h | ⟨-,h | ⟨h,-⟩⟩)
       · omega
       · exact h
       · exact absurd (h4.2 h) f
 · rw[if_pos e,h1];constructor
   · exact fun h=>.inl h
   · rintro (h | ⟨h,-⟩)
     · exact h
     · exact absurd (h2.2 h) e
def OrdS (s:Clu) (p:Pd) (pack:Bool) (l:List ByteArray):Prop:=l.Perm (fitsL s p s.nodes)∧l.Pairwise fun a b=>aheadS s p pack b a=false
theorem aheadS_total {s:Clu} {p:Pd} {pack:Bool} {a b:ByteArray} (h:aheadS s p pack a b=false) (g:aheadS s p pack b a=false):a=b:=(aheadK_total h g).1
theorem OrdS.unique {s:Clu} {p:Pd} {pack:Bool} {l m:List ByteArray} (h:OrdS s p pack l) (g:OrdS s p pack m):l=m :=
 List.Perm.eq_of_pairwise (fun a b _ _ h g=>aheadS_total g h) h.2 g.2 (h.1.trans g.1.symm)
def VRes (r:Int×Vec.V) (w:World) (e:Ending) (w':World):Prop:=(r.1=0→∃v,e=.returned v∧Vec.OwnV 103 w' w.heap.size v r.2)∧(r.1≠0→e=.panicked [perr r.1])∧Kept w w'
theorem VRes.good {r:Int×Vec.V} {m:Vec.V} {v:Value} {w w':World} (h:r=(0,m)) (g:Vec.OwnV 103 w' w.heap.size v m) (k:Kept w w'):VRes r w (.returned v) w':=by
 subst h;exact⟨fun _=>⟨v,rfl,g⟩,fun h=>absurd rfl h,k⟩
theorem VRes.bad {r:Int×Vec.V} {m:Vec.V} {c:Int} {w w':World} (h:r=(c,m)) (hc:c≠0) (k:Kept w w'):VRes r w (.panicked [perr c]) w':=by
 subst h;exact⟨fun h=>absurd h hc,fun _=>rfl,k⟩
theorem addD {v v':Value} {l l':Vec.V} {w:World} (h:Vec.Reads w v l) (h':Vec.Reads w v' l'):Calls Tryz.prog 155 #[v,v'] w (Vec.Done (Vec.mergedV Vec.addF l l') w):=by
 obtain⟨a,cap,rfl,h1,h2,hr⟩:=h;obtain⟨a',cap',rfl,h1',h2',hr'⟩:=h';exact Vec.add_any a a' _ cap _ cap' l l' w hr hr' h1 h2 h1' h2'
def NodeRes (o:Option Nod) (w:World) (e:Ending) (w':World):Prop:=(∀n,o=some n→∃v,e=.returned v∧NodRB w.heap.size w' v n)∧(o=none→e=.panicked [perr 3])∧Kept w w'
theorem nodeOf_any (a a8 a9:Option Addr) (len cap m8 c8 m9 c9:Nat) (l:List Nod) (x:ByteArray) (w:World) (hr:NodesAt w a len l) (hlow:∀n ∈ l,LowNod n) :
 Calls Tryz.prog 131 #[.agg #[.slice a len cap,.slice a8 m8 c8,.slice a9 m9 c9],.string x] w (NodeRes (findN l x) w):=by
 obtain⟨Z,hZ⟩:∃Z,(w.alloc (.cells #[.slice a len cap,.slice a8 m8 c8,.slice a9 m9 c9] 26)).alloc (.cells #[.string ⟨#[]⟩,.slice none 0 0,.slice none 0 0,.slice none 0 0,.bool false] 55)=Z:=⟨_,rfl⟩
 have hkz:Kept w Z:=by rw[←hZ];exact kept_two _ _ _
 have hzs:Z.heap.size=w.heap.size+2:=by rw[←hZ];simp
 have HQ0:=lH (show CellsN (w.heap.size+1) [.string ⟨#[]⟩,.slice none 0 0,.slice none 0 0,.slice none 0 0,.bool false] Z by
  have:=freshN (w.alloc (.cells #[.slice a len cap,.slice a8 m8 c8,.slice a9 m9 c9] 26)) (.string ⟨#[]⟩) [.slice none 0 0,.slice none 0 0,.slice none 0 0,.bool false] 55 Z (by rw[hZ];exact Kept.refl _);rw[World.size_alloc] at this;exact this)
 have hst:Z.cell? ⟨w.heap.size,0,none⟩=some (.slice a len cap):=(freshN w (.slice a len cap) [.slice a8 m8 c8,.slice a9 m9 c9] 26 Z (by rw[←hZ];exact kept_alloc _ _)).at_ 0 _ rfl;have HF:=lH (find_anyB a len cap l x Z (hr.kept hkz) hlow);have HKZ:=lH hkz;have HZS:=lH hzs;obtain⟨o,ho⟩:∃o,findN l x=o:=⟨_,rfl⟩
 rw[ho] at HF ⊢;clear hr hlow hkz hzs ho
 cases o with
 | none =>
  go_enter Tryz.func131,Tryz.ntmps131;go_wp2_with fail
  try rw[hZ]
  clear hZ hst;refine HF.out.mono ?_;rintro e w1 ⟨v,rfl,hn,k1⟩;have KW:=lH (HKZ.out.trans k1);obtain⟨b1,n1,d1,b2,n2,d2,b3,n3,d3,rfl,-⟩:=hn;clear k1;go_wp2;exact⟨rfl,(fun n h=>by cases h),(fun _=>rfl),KW.out.trans (kept_alloc _ _)⟩
 | some n9 =>
  go_enter Tryz.func131,Tryz.ntmps131;go_wp2_with fail
  try rw[hZ]
  clear hZ hst;refine HF.out.mono ?_;rintro e w1 ⟨v,rfl,hn,k1⟩;have HN:=lH hn;have HQZ:=lH (HQ0.out.kept k1);have KW:=lH (HKZ.out.trans k1);obtain⟨b1,n1,d1,b2,n2,d2,b3,n3,d3,hv,-⟩:=hn;have hv:v=.agg #[.string n9.name,.slice b1 n1 d1,.slice b2 n2 d2,.slice b3 n3 d3,.bool n9.cordon]:=hv;subst hv;obtain⟨z,hz⟩:∃z,n9.name=z:=⟨_,rfl⟩
  obtain⟨cd,hcd⟩:∃z,n9.cordon=z:=⟨_,rfl⟩
  have HZ1:=lH (show w.heap.size+2≤w1.heap.size by have:=k1.size;rw[HZS.out] at this;exact this);rw[hz,hcd];rw[hz,hcd] at HN;clear k1;have HQW:=lH (HQZ.out.kept (kept_alloc w1 (.cells #[.string z,.slice b1 n1 d1,.slice b2 n2 d2,.slice b3 n3 d3,.bool cd] 55)));clear HQZ;obtain⟨W1,hW1⟩:∃W,w1.alloc (.cells #[.string z,.slice b1 n1 d1,.slice b2 n2 d2,.slice b3 n3 d3,.bool cd] 55)=W:=⟨_,rfl⟩
  rw[hW1] at HQW;have c:=freshN w1 (.string z) [.slice b1 n1 d1,.slice b2 n2 d2,.slice b3 n3 d3,.bool cd] 55 W1 (by rw[hW1];exact Kept.refl _);have g0:=c.at_ 0 _ rfl;have g1:=c.at_ 1 _ rfl;have g2:=c.at_ 2 _ rfl;have g3:=c.at_ 3 _ rfl;have g4:=c.at_ 4 _ rfl;have HNW:=lH (HN.out.kept (show Kept w1 W1 by rw[←hW1];exact kept_alloc _ _));have HKW:=lH (KW.out.trans (show Kept w1 W1 by rw[←hW1];exact kept_alloc _ _));have y0:=HQW.out.at_ 0 _ rfl;have y1:=HQW.out.at_ 1 _ rfl;have y2:=HQW.out.at_ 2 _ rfl;have y3:=HQW.out.at_ 3 _ rfl;have y4:=HQW.out.at_ 4 _ rfl;have x0:=HQW.out.free 0;have x1:=HQW.out.free 1;have x2:=HQW.out.free 2;have x3:=HQW.out.free 3;have x4:=HQW.out.free 4;have P:=lH (putN (vs:=[.string z,.slice b1 n1 d1,.slice b2 n2 d2,.slice b3 n3 d3,.bool cd]) HQW.out rfl);clear HQW c;go_wp2_with fail
  try rw[hW1]
  clear hW1;go_wp2;obtain⟨WE,hWE⟩:∃W,W1.setCells (w.heap.size+1) 0 [.string z,.slice b1 n1 d1,.slice b2 n2 d2,.slice b3 n3 d3,.bool cd]=W:=⟨_,rfl⟩
  have hWE2:(((((W1.setCell ⟨(w.heap.size+1),0,none⟩ (.string z)).setCell ⟨(w.heap.size+1),1,none⟩ (.slice b1 n1 d1)).setCell ⟨(w.heap.size+1),2,none⟩ (.slice b2 n2 d2)).setCell ⟨(w.heap.size+1),3,none⟩ (.slice b3 n3 d3)).setCell ⟨(w.heap.size+1),4,none⟩ (.bool cd))=WE:=hWE;rw[hWE] at P;try rw[hWE2]
  clear hWE hWE2;obtain⟨PC,hsz,hbl,hkp⟩:=P.out;refine bodyPost_ret (by simp[results,Tryz.results131,go_sem,PC.at_ 0 _ rfl,PC.at_ 1 _ rfl,PC.at_ 2 _ rfl,PC.at_ 3 _ rfl,PC.at_ 4 _ rfl];try rfl) rfl ?_;exact⟨(fun n h=>by cases h;exact⟨_,rfl,(HNW.out.far hsz (fun b hb=>hbl b (by have:=HZS.out;omega))).less (by have:=HZS.out;omega)⟩),(fun h=>by cases h),hkp _ _ (by omega) HKW.out⟩
theorem used_any (a a8 a9 b1 b2 b3:Option Addr) (len cap m8 c8 m9 c9 n1 d1 n2 d2 n3 d3:Nat) (q:ByteArray) (cd:Bool) (l:List Pd) (w:World) (hr:PodsAt w a len l) :
 Calls Tryz.prog 130 #[.agg #[.slice a8 m8 c8,.slice a len cap,.slice a9 m9 c9],.agg #[.string q,.slice b1 n1 d1,.slice b2 n2 d2,.slice b3 n3 d3,.bool cd]] w (VRes (useV q l []) w):=by
 have hl:=hr.1;have hm:=hr.2.1;unfold maxLen at hm;obtain⟨Z,hZ⟩:∃Z,(w.alloc (.cells #[.slice a8 m8 c8,.slice a len cap,.slice a9 m9 c9] 26)).alloc (.cells #[.string q,.slice b1 n1 d1,.slice b2 n2 d2,.slice b3 n3 d3,.bool cd] 55)=Z:=⟨_,rfl⟩
 have hkz:Kept w Z:=by rw[←hZ];exact kept_two _ _ _
 have HQ:=lH (show ∀W,Kept Z W→W.cell? ⟨w.heap.size+1,0,none⟩=some (.string q) from fun W k=>by
  have:=freshN (w.alloc (.cells #[.slice a8 m8 c8,.slice a len cap,.slice a9 m9 c9] 26)) (.string q) [.slice b1 n1 d1,.slice b2 n2 d2,.slice b3 n3 d3,.bool cd] 55 W (by rw[hZ];exact k);rw[World.size_alloc] at this;exact this.at_ 0 _ rfl)
 have hst:Z.cell? ⟨w.heap.size,1,none⟩=some (.slice a len cap):=(freshN w (.slice a8 m8 c8) [.slice a len cap,.slice a9 m9 c9] 26 Z (by rw[←hZ];exact kept_alloc _ _)).at_ 1 _ rfl;have HR:=lH (hr.kept hkz);have HL:=lH hl;have HKZ:=lH hkz;by_cases h0:len=0
 · subst h0;have HE:=lH (show useV q l []=(0,[]) by rw[List.eq_nil_of_length_eq_zero hl];rfl);clear hr hl hkz;go_enter Tryz.func130,Tryz.ntmps130;go_wp2;try rw[hZ]
   refine wp_loop_rounds 1 ?_;rw[rounds_succ];go_wp2;go_ret;exact VRes.good HE.out (Vec.OwnV.nil _ _ _) (by first | exact HKZ.out | (rw[hZ];exact HKZ.out))
 · obtain⟨b,off,rfl⟩:=hr.form.resolve_left h0;clear hr hl hkz h0;go_enter Tryz.func130,Tryz.ntmps130;go_wp2;try rw[hZ]
   clear hZ hst;go_loopw [5,11] (fun s i wr=>∃k:Nat,k≤len∧i=.int .i64 k∧∃acc:Vec.V,Vec.OwnV 103 wr w.heap.size s acc∧useV q (l.drop k) acc=useV q l []∧Kept Z wr) (fun _ i _=>len-(intOf i).toNat)
   case atStart=>exact⟨0,Nat.zero_le _,rfl,[],Vec.OwnV.nil _ _ _,rfl,Kept.refl _⟩
   case round =>
    obtain⟨k,hk,rfl,acc,hv,hrest,hK⟩:=hrel;have HS:=lH hrest;have HV:=lH hv;have HK:=lH hK;by_cases hlt:k<len
    · obtain⟨n,a1,m1,c1,a2,m2,c2,a3,m3,c3,a4,m4,c4,hn,hd,hb,p0,p1,p2,p3,p4,p5,p6,p7,p8,p9,p10,hat⟩:=(HR.out.kept hK).at_ hlt;have HD:=lH hd;have HAT:=lH hat;have q0:=HQ.out _ hK;obtain⟨t,ht⟩:∃t,eqS n.node q=t:=⟨_,rfl⟩
      have ht':(n.node.toList==q.toList)=t:=ht;have HT:=lH ht;have hkk:(k:Int)<(len:Int):=by omega
      have z0:=HQ.out _ (hK.trans (kept_alloc wr (.cells #[.string n.name,.string n.owner,.int .i64 n.prio,.slice a1 m1 c1,.slice a2 m2 c2,.slice a3 m3 c3,.slice a4 m4 c4,.string n.key,.int .i64 n.most,.string n.node,.bool n.hold] 35)));clear hrest hK hat hd hn ht hv
      cases t with
      | false =>
       have HX:=lH (show useV q (l.drop (k+1)) acc=useV q l [] by rw[←HS.out,HD.out,useV_skip HT.out]);go_wp2;go_roundw
       case rel=>exact⟨k+1,by omega,by go_num,acc,HV.out.kept (kept_alloc _ _),HX.out,HK.out.trans (kept_alloc _ _)⟩
       case measure=>simp[intOf];omega
      | true =>
       obtain⟨c,m,hcm⟩:∃c m,Vec.mergedV Vec.addF acc n.need=(c,m):=⟨_,_,rfl⟩
       have HCM:=lH hcm;have HBS:=lH (show w.heap.size≤wr.heap.size from(HKZ.out.trans HK.out).size);have HADD:=lH (fun W (kk:Kept wr W)=>addD (HV.out.kept kk).reads (HAT.out.need.kept kk));rw[hcm] at HADD;clear hcm;by_cases hc:c=0
       · subst hc;have HX:=lH (show useV q (l.drop (k+1)) m=useV q l [] by rw[←HS.out,HD.out,useV_add HT.out HCM.out]);go_wp2_with fail
         refine(HADD.out _ (kept_alloc _ _)).mono ?_;rintro e w1 ⟨x,rfl,r,kk⟩;have RX:=lH (r.base_le (show w.heap.size≤_ by rw[World.size_alloc];have:=HBS.out;omega));have KW:=lH (HK.out.trans ((kept_alloc _ _).trans kk));clear r kk;go_wp2_with fail
         refine(soundV_ok _ _).mono ?_;rintro e w2 ⟨rfl,rfl⟩;go_wp2;go_roundw
         case rel=>exact⟨k+1,by omega,by go_num,m,RX.out,HX.out,KW.out⟩
         case measure=>simp[intOf];omega
       · have HX:=lH (show useV q l []=(c,[]) by rw[←HS.out,HD.out,useV_bad HT.out HCM.out hc]);have HC:=lH hc;clear hc;go_wp2_with fail
         refine(HADD.out _ (kept_alloc _ _)).mono ?_;rintro e w1 ⟨x,rfl,r,kk⟩;have KW:=lH (HK.out.trans ((kept_alloc _ _).trans kk));clear r kk;go_wp2_with fail
         refine(soundV_bad _ _ _ HC.out).mono ?_;rintro e w2 ⟨rfl,rfl⟩;go_wp2;exact⟨rfl,VRes.bad HX.out HC.out (HKZ.out.trans KW.out)⟩
    · have HE:=lH (show useV q l []=(0,acc) by rw[←hrest,List.drop_of_length_le (by rw[HL.out];omega)];rfl);clear hrest hK hv;go_wp2;go_ret;exact VRes.good HE.out HV.out (HKZ.out.trans HK.out)
end Go.Proofs.YtmlgobiifebjkacGreat
