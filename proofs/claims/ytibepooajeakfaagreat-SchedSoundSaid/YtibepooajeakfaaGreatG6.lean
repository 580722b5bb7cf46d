/- C. -/
import Derived.Test.YtibepooajeakfaaGreatG1
import Derived.Test.YtibepooajeakfaaGreatG2
import Derived.Test.YtibepooajeakfaaGreatG3
import Derived.Test.YtibepooajeakfaaGreatG4
import Derived.Test.YtibepooajeakfaaGreatG5
set_option linter.unusedVariables false
set_option maxRecDepth 100000
set_option maxHeartbeats 25600000
namespace Go.Proofs.YtibepooajeakfaaGreat
open Go.RowKit
structure Bd where
 name:ByteArray
 sel:TL
 floor:Int
def Bd.zero:Bd:=⟨ByteArray.empty,[],0⟩
abbrev JW (n:Bd) (v1:Value):Value:=.agg #[.string n.name,v1,.int .i64 n.floor]
structure zr (w:World) (v1:Value) (n:Bd):Prop where
 name:n.name.size≤maxLen
 floor:-9223372036854775808≤n.floor∧n.floor≤9223372036854775807
 sel:Reads jQ w v1 n.sel
theorem zr.kept {w w':World} {v1:Value} {n:Bd} (h:zr w v1 n) (k:Kept w w'):zr w' v1 n:=⟨h.name,h.floor,h.sel.kept k⟩
def jh4 (w:World) (v:Value) (n:Bd):Prop:=∃v1,v=JW n v1∧zr w v1 n
theorem jh4.kept {w w':World} {v:Value} {n:Bd} (h:jh4 w v n) (k:Kept w w'):jh4 w' v n:=by
 obtain⟨v1,e,h⟩:=h;exact⟨v1,e,h.kept k⟩
def Yf (B:Nat) (w:World) (v:Value) (n:Bd):Prop:=∃b1 n1 d1,v=JW n (.slice b1 n1 d1)∧zr w (.slice b1 n1 d1) n∧j4 B b1
theorem Yf.toR {B:Nat} {w:World} {v:Value} {n:Bd} (h:Yf B w v n):jh4 w v n:=by
 obtain⟨b1,n1,d1,e,h,-⟩:=h;exact⟨_,e,h⟩
theorem zr.far {B:Nat} {w w':World} {n:Bd} {b1:Option Addr} {n1 d1:Nat} (h:zr w (.slice b1 n1 d1) n) (hs:w'.heap.size=w.heap.size) (hb:∀b,B≤b→w'.heap[b]?=w.heap[b]?) (g1:j4 B b1):zr w' (.slice b1 n1 d1) n :=
 ⟨h.name,h.floor,h.sel.far hs (fun b o s e=>hb b (g1 b o s e))⟩
theorem Yf.far {B:Nat} {w w':World} {v:Value} {n:Bd} (h:Yf B w v n) (hs:w'.heap.size=w.heap.size) (hb:∀b,B≤b→w'.heap[b]?=w.heap[b]?):Yf B w' v n:=by
 obtain⟨b1,n1,d1,e,h,g1⟩:=h;exact⟨b1,n1,d1,e,h.far hs hb g1,g1⟩
theorem Yf.less {B B':Nat} {w:World} {v:Value} {n:Bd} (h:Yf B w v n) (hb:B'≤B):Yf B' w v n:=by
 obtain⟨b1,n1,d1,e,h,g1⟩:=h;exact⟨b1,n1,d1,e,h,g1.less hb⟩
theorem Yf.kept {B:Nat} {w w':World} {v:Value} {n:Bd} (h:Yf B w v n) (k:Kept w w'):Yf B w' v n:=by
 obtain⟨b1,n1,d1,e,h,g1⟩:=h;exact⟨b1,n1,d1,e,h.kept k,g1⟩
theorem zr.spelt {w:World} {v1:Value} {n:Bd} (h:zr w v1 n):∃b1 n1 d1,v1=.slice b1 n1 d1:=by
 obtain⟨a,c,e,-⟩:=h.sel;exact⟨_,_,_,e⟩
def XW (x:ByteArray):Int:=if isName x=true then 0 else 3
def zR (m:Int):Int:=if m<0∨128<m then 1 else 0
def Jq (n:Bd):Int:=orL [XW n.name,Zt n.sel,zR n.floor]
theorem jdq (x:ByteArray) (w:World) (hx:x.size≤maxLen) :
 Calls Tryz.prog 184 #[.string x] w fun e w'=>e=.returned (.int .i64 (XW x))∧w=w':=by
 obtain⟨q,hq⟩:=eX (isName x)
 obtain⟨HV,HR,HX⟩:=lH3 (show XW x=if q=true then 0 else 3 by unfold XW;rw[hq]) hq hx;clear hq hx
 cases q <;>
 (go_enter Tryz.func184,Tryz.ntmps184
  go_wp2_with fail
  refine(Vec.jaf HX.out HR.out).mono ?_;rintro e w' ⟨rfl,rfl⟩;go_wp2;go_ret;exact⟨jb HV.out.symm,rfl⟩)
theorem jdO (m:Int) (w:World) :
 Calls Tryz.prog 185 #[.int .i64 m] w fun e w'=>e=.returned (.int .i64 (zR m))∧w=w':=by
 by_cases z:m<0
 · have HW:=lH (show zR m=1 by unfold zR;rw[if_pos (.inl z)]);go_enter Tryz.func185,Tryz.ntmps185;go_wp2;go_ret;exact⟨jb HW.out.symm,rfl⟩
 · by_cases y:128<m
   · have HW:=lH (show zR m=1 by unfold zR;rw[if_pos (.inr y)]);have z':0≤m:=by omega
     clear z;go_enter Tryz.func185,Tryz.ntmps185;go_wp2;go_ret;exact⟨jb HW.out.symm,rfl⟩
   · have HW:=lH (show zR m=0 by unfold zR;rw[if_neg (by omega)]);have z':0≤m:=by omega
     have y':m≤128:=by omega
     clear z y;go_enter Tryz.func185,Tryz.ntmps185;go_wp2;go_ret;exact⟨jb HW.out.symm,rfl⟩
theorem jgy (W:World) (x1 x2 x3:Int) (T:TypeId) (i:Nat) (x:Int) (hi:([x1,x2,x3]:List Int)[i]?=some x) :
 (W.alloc (.cells #[.int .i64 x1,.int .i64 x2,.int .i64 x3] T)).cell? ⟨W.heap.size,i,none⟩=some (.int .i64 x):=by
 refine(jc W (.int .i64 x1) [.int .i64 x2,.int .i64 x3] T _ (Kept.refl _)).at_ i _ ?_
 match i,hi with
 | 0,h=>simpa using h
 | 1,h=>simpa using h
 | 2,h=>simpa using h
 | j+3,h=>simp at h
theorem jiq (n:Bd) (v1:Value) (w:World) (h:zr w v1 n) :
 Calls Tryz.prog 145 #[JW n v1] w (Say (.int .i64 (Jq n)) w):=by
 obtain⟨W0,hW0⟩:=eX (w.alloc (.cells #[.string n.name,v1,.int .i64 n.floor] 108))
 have hk0:Kept w W0:=by rw[←hW0];exact ja _ _
 have HC:=lH (show ∀W,Kept W0 W→W.cell? ⟨w.heap.size,0,none⟩=some (.string n.name)∧W.cell? ⟨w.heap.size,1,none⟩=some (v1)∧W.cell? ⟨w.heap.size,2,none⟩=some (.int .i64 n.floor) from fun W k=>by
  have c:=jc w (.string n.name) [v1,.int .i64 n.floor] 108 W (by rw[hW0];exact k);exact⟨c.at_ 0 _ rfl,c.at_ 1 _ rfl,c.at_ 2 _ rfl⟩)
 obtain⟨E1,E5,E7,Va⟩:=lH4 (fun W=>jdq n.name W h.name) (fun W (k:Kept W0 W)=>jd5 (h.sel.kept (hk0.trans k)) rfl) (fun W=>jdO n.floor W) hk0;obtain⟨x1,hx1⟩:=eX (XW n.name)
 rw[hx1] at E1;obtain⟨x2,hx2⟩:=eX (Zt n.sel)
 rw[hx2] at E5;obtain⟨x3,hx3⟩:=eX (zR n.floor)
 rw[hx3] at E7;have HV:=lH (show Jq n=orL [x1,x2,x3] by unfold Jq;rw[hx1,hx2,hx3]);have ORC:=lH (fun W=>jgy W x1 x2 x3 69);clear hx1 hx2 hx3 h hk0;obtain⟨c0,c1,c2⟩:=HC.out _ (Kept.refl _);unfold JW;go_enter Tryz.func145,Tryz.ntmps145;go_wp2;try rw[hW0]
 clear hW0
 go_region_held3 (fun W=>W.cell? ⟨w.heap.size,0,none⟩=some (.string n.name)∧W.cell? ⟨w.heap.size,1,none⟩=some (v1)∧W.cell? ⟨w.heap.size,2,none⟩=some (.int .i64 n.floor))
  (first | exact HC.out _ (Kept.drew _) | exact HC.out _ K5.out | exact HC.out _ (K5.out.trans (ja _ _)))
  (first | (go_at_call 184;refine(E1.out _).mono ?_;rintro e1 w1 ⟨rfl,rfl⟩)
         | (go_at_call 180;refine(E5.out _ (Kept.drew _)).mono ?_;rintro e5 w5 ⟨rfl,k5⟩;have K5:=lH ((Kept.drew _).trans k5);clear k5)
         | (go_at_call 185;refine(E7.out _).mono ?_;rintro e7 w7 ⟨rfl,rfl⟩)
         | (go_at_call 90;refine(jhF _ 3 [x1,x2,x3] _ rfl (by decide) (ORC.out _)).mono ?_;rintro e9 w9 ⟨rfl,rfl⟩))
 go_wp2;go_ret;exact⟨jb HV.out.symm,Va.out.trans (K5.out.trans (ja _ _))⟩
def j9 (w:World) (a:Option Addr) (len:Nat) (l:List Bd):Prop :=
 l.length=len∧len≤maxLen∧(len=0∨∃b off,a=some ⟨b,off,none⟩∧b<w.heap.size∧∀i n,l[i]?=some n→∃v1,
  w.cell? ⟨b,off+i*3,none⟩=some (.string n.name)∧w.cell? ⟨b,off+i*3+1,none⟩=some (v1)∧w.cell? ⟨b,off+i*3+2,none⟩=some (.int .i64 n.floor)∧zr w v1 n)
theorem j9.kept {w w':World} {a:Option Addr} {len:Nat} {l:List Bd} (h:j9 w a len l) (k:Kept w w'):j9 w' a len l:=by
 obtain⟨h0,h1,h2⟩:=h;refine⟨h0,h1,h2.imp id ?_⟩;rintro ⟨b,off,rfl,hb,hc⟩;refine⟨b,off,rfl,Nat.lt_of_lt_of_le hb k.size,fun i n hi=>?_⟩;obtain⟨v1,p0,p1,p2,hn⟩:=hc i n hi;exact⟨v1,cell_later k p0,cell_later k p1,cell_later k p2,hn.kept k⟩
theorem j9.form {w:World} {a:Option Addr} {len:Nat} {l:List Bd} (h:j9 w a len l):len=0∨∃b off,a=some ⟨b,off,none⟩:=by
 obtain⟨_,_,h2⟩:=h;exact h2.imp id fun ⟨b,off,e,_⟩=>⟨b,off,e⟩
theorem j9.at_ {w:World} {b off len:Nat} {l:List Bd} {k:Nat} (h:j9 w (some ⟨b,off,none⟩) len l) (hk:k<len):∃n a1 m1 c1,l[k]?=some n∧l.drop k=n::l.drop (k+1)∧b<w.heap.size ∧
 w.cell? ⟨b,off+k*3,none⟩=some (.string n.name)∧w.cell? ⟨b,off+k*3+1,none⟩=some (.slice a1 m1 c1)∧w.cell? ⟨b,off+k*3+2,none⟩=some (.int .i64 n.floor)∧zr w (.slice a1 m1 c1) n:=by
 obtain⟨h0,_,h3⟩:=h;have hkl:k<l.length:=by omega
 rcases h3 with h3 | ⟨b',off',e,hb,hc⟩
 · omega
 · injection e with e;injection e with e1 e2 e3;subst e1;subst e2;have he:l[k]?=some l[k]:=List.getElem?_eq_getElem hkl;obtain⟨v1,r⟩:=hc k _ he;obtain⟨a1,m1,c1,rfl⟩:=zr.spelt r.2.2.2;exact⟨l[k],a1,m1,c1,he,List.drop_eq_getElem_cons hkl,hb,r⟩
def Ze (w:World) (v:Value) (l:List Bd):Prop:=∃a cap,v=.slice a l.length cap∧l.length≤cap∧cap≤maxLen∧j9 w a l.length l
theorem Ze.kept {w w':World} {v:Value} {l:List Bd} (h:Ze w v l) (k:Kept w w'):Ze w' v l:=by
 obtain⟨a,cap,e,h1,h2,h3⟩:=h;exact⟨a,cap,e,h1,h2,h3.kept k⟩
def jkO (c:Int) (n:Bd) (w:World) (e:Ending) (w':World):Prop:=(c=0→∃v,e=.returned v∧Yf w.heap.size w' v n)∧(c≠0→e=.panicked [zw c])∧Kept w w'
theorem jkO.bad {c:Int} {n:Bd} {w w':World} (hc:c≠0) (hb:Kept w w'):jkO c n w (.panicked [zw c]) w':=⟨fun g=>absurd g hc,fun _=>rfl,hb⟩
theorem jir {W:World} {q p:Nat} {c0 c1 c2 u0 u1 u2:Value} (h:(W).cell? ⟨q,0,none⟩=some (c0)∧(W).cell? ⟨q,1,none⟩=some (c1)∧(W).cell? ⟨q,2,none⟩=some (c2)) (hne:q≠p) :
 ((((W.setCell ⟨p,0,none⟩ u0).setCell ⟨p,1,none⟩ u1).setCell ⟨p,2,none⟩ u2)).cell? ⟨q,0,none⟩=some (c0)∧((((W.setCell ⟨p,0,none⟩ u0).setCell ⟨p,1,none⟩ u1).setCell ⟨p,2,none⟩ u2)).cell? ⟨q,1,none⟩=some (c1)∧((((W.setCell ⟨p,0,none⟩ u0).setCell ⟨p,1,none⟩ u1).setCell ⟨p,2,none⟩ u2)).cell? ⟨q,2,none⟩=some (c2):=by
 have e:(W.setCells p 0 [u0,u1,u2]).heap[q]?=W.heap[q]?:=Yg p _ 0 W q hne;have c:∀j,((((W.setCell ⟨p,0,none⟩ u0).setCell ⟨p,1,none⟩ u1).setCell ⟨p,2,none⟩ u2)).cell? ⟨q,j,none⟩=W.cell? ⟨q,j,none⟩:=fun j=>World.cell?_of_block (a:=⟨q,j,none⟩) e;simp only[c];exact h
abbrev BX:=Bd×SX
abbrev joO (z:BX):Value:=JW z.1 (slV z.2)
def At1 (w:World) (z:BX):Prop:=zr w (slV z.2) z.1
theorem zr.at1 {w:World} {n:Bd} {x1:SX} (h:zr w (slV x1) n):At1 w (n,x1):=h
theorem jmZ (n:Bd) (v1:Value) (w:World) (h:zr w v1 n) (hl:n.sel.length≤1000000) :
 Calls Tryz.prog 68 #[JW n v1] w fun e w'=>∃z:BX,e=.returned (joO z)∧z.1=n∧At1 w' z∧Btw w.heap.size w'.heap.size z.2.1∧Kept w w':=by
 have HH:=lH h;have E3:=lH (fun W (k:Kept w W)=>(jnZ (h.sel.kept k) hl).mono fun _ _=>YF);obtain⟨⟨x0,l3,m⟩,hnn⟩:∃m,m=n:=⟨n,rfl⟩
 subst hnn;dsimp only at E3;obtain⟨W0,hW0⟩:=eX ((w.alloc (.cells #[.string x0,v1,.int .i64 m] 108)).alloc (.cells #[.string ⟨#[]⟩,.slice none 0 0,.int .i64 0] 131))
 have hk0:Kept w W0:=by rw[←hW0];exact jn _ _ _
 have hzs:W0.heap.size=w.heap.size+2:=by rw[←hW0];simp
 have HB:=lH (show ∀W,Kept W0 W→W.cell? ⟨w.heap.size,0,none⟩=some (.string x0)∧W.cell? ⟨w.heap.size,1,none⟩=some (v1)∧W.cell? ⟨w.heap.size,2,none⟩=some (.int .i64 m) from fun W k=>by
  have:=jc w (.string x0) [v1,.int .i64 m] 108 W ((by rw[←hW0];exact ja _ _:Kept (w.alloc (.cells #[.string x0,v1,.int .i64 m] 108)) W0).trans k);exact⟨this.at_ 0 _ rfl,this.at_ 1 _ rfl,this.at_ 2 _ rfl⟩)
 have HQ:=lH (show ∀W,Kept W0 W→jf (w.heap.size+1) [.string ⟨#[]⟩,.slice none 0 0,.int .i64 0] W from fun W k=>by
  have:=jc (w.alloc (.cells #[.string x0,v1,.int .i64 m] 108)) (.string ⟨#[]⟩) [.slice none 0 0,.int .i64 0] 131 W (by rw[hW0];exact k);rw[World.size_alloc] at this;exact this)
 have HZ:=lH hzs;have Va:=lH hk0;obtain⟨b0,b1,b2⟩:=HB.out _ (Kept.refl _);clear h hl hk0 hzs;unfold JW;dsimp only;go_enter Tryz.func68,Tryz.ntmps68;go_wp2;try rw[hW0]
 clear hW0
 go_region_held3 (fun W=>(W.cell? ⟨w.heap.size,0,none⟩=some (.string x0)∧W.cell? ⟨w.heap.size,1,none⟩=some (v1)∧W.cell? ⟨w.heap.size,2,none⟩=some (.int .i64 m)))
  (first | with_reducible exact HB.out _ K4.out | exact jir (HB.out _ K4.out) (by omega) | exact HB.out _ (Kept.drew _))
  (first | (go_at_call 37;refine(E3.out _ (Va.out.trans (Kept.drew _))).mono ?_;rintro e1 w4 ⟨b1,n1,d1,rfl,r1,g1,k1⟩;obtain⟨K4,G1,R1⟩:=lH3 (Kept.trans (Kept.drew _) k1) (show Btw (w.heap.size+2) w4.heap.size b1 from fun b o s e=>⟨Nat.le_trans (by rw[←HZ.out];exact Below.size (Kept.drew _)) (g1 b o s e).1,(g1 b o s e).2⟩) r1;clear k1 r1 g1;have VP:=lH (HQ.out _ K4.out);have z0:=VP.out.at_ 0 _ rfl;have f0:=VP.out.free 0;have z1:=VP.out.at_ 1 _ rfl;have f1:=VP.out.free 1;have z2:=VP.out.at_ 2 _ rfl;have f2:=VP.out.free 2))
 have P:=lH (j6 (vs:=[.string x0,.slice b1 n1 d1,.int .i64 m]) VP.out rfl);go_wp2;obtain⟨WE,hWE⟩:=eX (w4.setCells (w.heap.size+1) 0 [.string x0,.slice b1 n1 d1,.int .i64 m])
 have hWE2:(((w4.setCell ⟨w.heap.size+1,0,none⟩ (.string x0)).setCell ⟨w.heap.size+1,1,none⟩ (.slice b1 n1 d1)).setCell ⟨w.heap.size+1,2,none⟩ (.int .i64 m))=WE:=hWE;rw[hWE] at P;rw[hWE2];clear hWE hWE2;obtain⟨PC,hsz,hbl,hkp⟩:=P.out;refine bodyPost_ret (by simp[results,Tryz.results68,go_sem,PC.at_ 0 _ rfl,PC.at_ 1 _ rfl,PC.at_ 2 _ rfl];try rfl) rfl ?_;refine⟨(⟨x0,l3,m⟩,(b1,n1,d1)),rfl,rfl,zr.at1 (zr.far (B:=w.heap.size+2) (n:=⟨x0,l3,m⟩) ⟨HH.out.name,HH.out.floor,R1.out⟩ hsz (fun b hb=>hbl b (by omega)) G1.out.behind),?_,hkp _ _ (Nat.le_succ _) (Va.out.trans K4.out)⟩;rw[hsz];exact G1.out.up (by omega) (Nat.le_refl _)
theorem jfp (x:BX) (u:Value) (h:u ∈ [Value.string x.1.name,slV x.2,.int .i64 x.1.floor]):u.oneCell'=true:=by
 simp only[List.mem_cons,List.not_mem_nil,or_false] at h;rcases h with rfl | rfl | rfl<;>rfl
def zv:Lay BX:={ m:=3,cs:=fun x=>[.string x.1.name,slV x.2,.int .i64 x.1.floor],fine:=fun _=>True,len:=fun _=>rfl,one:=jfp,pos:=by decide }
def jlZ (w:World) (v:Value) (l:List BX):Prop:=∀z ∈ l,At1 w z∧Btw 0 w.heap.size z.2.1∧ZA v z.2.1
theorem jjI {wr w1 w2:World} {o:Obj} {v:Value} {l:List BX} {z0:BX} {gg n cap:Nat} (hv:jlZ wr v l) (k:Kept wr w1) (hz:At1 w1 z0) (hw:Btw wr.heap.size w1.heap.size z0.2.1) (hown:∀g,v.ownBlock=some g→g<wr.heap.size)
 (hgrow:(w1.alloc o).grownBy w2 v.ownBlock) (hat:v.ownBlock=some gg∨gg=w1.heap.size+1):jlZ w2 (.slice (some ⟨gg,0,none⟩) n cap) (l++[z0]):=by
 have hs:=hgrow.size;rw[World.size_alloc] at hs;have hk:=k.size;have key:∀z,At1 w1 z→Btw 0 w1.heap.size z.2.1→ZA v z.2.1→At1 w2 z∧Btw 0 w2.heap.size z.2.1∧ZA (.slice (some ⟨gg,0,none⟩) n cap) z.2.1:=by
  intro z h3 hwz f1;have ne:∀b,b<w1.heap.size→v.ownBlock≠some b→(Value.slice (some ⟨gg,0,none⟩) n cap).ownBlock≠some b:=by
   intro b hb hne e;have e:some gg=some b:=e;rcases hat with hat | hat
   · exact hne (hat.trans e)
   · have:gg=b:=Option.some.inj e;omega
  have h3':=zr.kept h3 (ja w1 o);exact⟨⟨h3'.name,h3'.floor,h3'.sel.grown hgrow (fun b off sp e=>Ne.symm (f1 b off sp e))⟩,hwz.up (Nat.le_refl _) (by omega),fun b off sp e=>ne b (hwz b off sp e).2 (f1 b off sp e)⟩
 intro z hzm;rcases List.mem_append.1 hzm with hzm | hzm
 · obtain⟨h0,h1,h2⟩:=hv z hzm;exact key z (zr.kept h0 k) (h1.up (Nat.le_refl _) hk) h2
 · obtain rfl:z=z0:=by simpa using hzm
   exact key z hz (hw.up (Nat.zero_le _) (Nat.le_refl _)) (fun b off sp e f=>by have:=(hw b off sp e).1;have:=hown b f;omega)
theorem jgn {w:World} {T:TypeId} {B:Nat} {v:Value} {lx:List BX} (ho:Own zv T w B v lx) (hf:∀z ∈ lx,At1 w z):Ze w v (lx.map fun z=>z.1):=by
 obtain⟨a,cap,rfl,h1,h2,h3⟩:=ho.at_;obtain⟨g0,g1,g2,g3⟩:=h3;refine⟨a,cap,by rw[List.length_map],by rw[List.length_map];exact h1,h2,rfl,by rw[List.length_map];exact g1,?_⟩;rw[List.length_map];rcases g3 with g3 | ⟨b,off,rfl,hb,hc⟩
 · exact .inl g3
 · refine .inr ⟨b,off,rfl,hb,fun i n hi=>?_⟩;rw[List.getElem?_map] at hi;obtain⟨z,hz,rfl⟩:=Option.map_eq_some_iff.1 hi;exact⟨slV z.2,hc i z 0 _ hz rfl,hc i z 1 _ hz rfl,hc i z 2 _ hz rfl,hf z (List.mem_of_getElem? hz)⟩
theorem jnO:(Tryz.prog.info? 131).map (fun i=>(i.zero,i.size,i.bytes))=some (some (.agg #[.string ByteArray.empty,.slice none 0 0,.int .i64 0]),3,48):=by kernel_rfl
theorem ji2 (a:Option Addr) (len cap:Nat) (l:List Bd) (w:World) (hr:j9 w a len l) (hlow:∀n ∈ l,n.sel.length≤1000000) (hlen:len≤1000) :
 Calls Tryz.prog 28 #[.slice a len cap] w fun e w'=>∃v,e=.returned v∧Ze w' v l∧Kept w w':=by
 have hl:=hr.1;have Vo:=lH hlow;obtain⟨i0,hi,hz0,hz1,hz2'⟩:=info_parts jnO;rcases hr.form with h0 | ⟨b,off,rfl⟩
 · subst h0;have hl0:l=[]:=List.eq_nil_of_length_eq_zero hl;subst hl0;clear hr hl hi hz0 hz1 hz2' hlow;go_enter Tryz.func28,Tryz.ntmps28;go_wp2;refine wp_loop_rounds 1 ?_;rw[rounds_succ];go_wp2;go_ret;exact⟨_,rfl,⟨none,0,rfl,Nat.le_refl _,by decide,rfl,by decide,.inl rfl⟩,Kept.refl _⟩
 · have HR:=lH hr;have HL:=lH hl;clear hr hl hlow;go_enter Tryz.func28,Tryz.ntmps28;go_wp2;go_loopw [3,4] (fun v i wr=>∃k:Nat,k≤len∧i=.int .i64 k∧∃lx:List BX,(lx.map fun z=>z.1)=l.take k∧Own zv 131 wr w.heap.size v lx∧jlZ wr v lx∧Below w.heap.size w wr) (fun _ i _=>len-(intOf i).toNat)
   case atStart=>exact⟨0,Nat.zero_le _,rfl,[],rfl,Own.nil _ _ _,(fun z h=>by cases h),Below.refl _ _⟩
   case round =>
    obtain⟨k,hk,rfl,lx,hlx,ho,hv,hB⟩:=hrel;obtain⟨HX,HO,HV,HB,HT⟩:=lH5 hlx ho hv hB (show lx.length=k by have:=congrArg List.length hlx;rw[List.length_map,List.length_take,HL.out] at this;omega);have Vk:=lH (show wr.ownsRow w.heap.size 131 3 u3 k (je zv lx) by have:=HO.out.1;rw[HT.out] at this;exact this);have hbase:w.heap.size≤wr.heap.size:=hB.size;by_cases hlt:k<len
    · obtain⟨n,a1,m1,c1,hn,hd,hb,p0,p1,p2,hat⟩:=(HR.out.kept hB).at_ hlt;have HN:=lH hn;have Vy:=lH (jmZ n (.slice a1 m1 c1) wr hat (Vo.out n (List.mem_of_getElem? hn)));have hk1:(k:Int)<(len:Int):=by omega
      clear hlx ho hv hB hn hd hat;go_wp2_with fail
      refine Vy.out.mono ?_;rintro e w1 ⟨z,rfl,hz,h3,hwi,kk⟩;obtain⟨HZ,H3,HW,KK⟩:=lH4 hz h3 hwi kk;have hs1:wr.heap.size≤w1.heap.size:=kk.size;have VF:=lH (show w1.ownsRow w.heap.size 131 3 u3 k (je zv lx) by have:=(HO.out.kept kk).1;rw[HT.out] at this;exact this);clear hz h3 hwi kk;go_wp2_with (at_builtin;refine wpList_append_lies _ rfl _ _ _ rfl w.heap.size 131 i0 _ 3 48 Tryz.underlying31 hi hz0 hz1 hz2' rfl (by decide) u3 k (je zv lx) rfl (VF.out.alloc _) ⟨w1.heap.size,0,none⟩ 1 1 (zv.cs z) rfl rfl (World.news_of_block (cs:=#[.string z.1.name,slV z.2,.int .i64 z.1.floor]) (t:=131) (fr:=(0,0)) (heap_alloc_new w1 _)) (jfp z) (by decide) (by unfold maxLen;omega) (by omega) (by simp;omega) (w1.heap.size+1) (by simp) ?_;intro gg cap1 w2 hown1 hgrow hat hlt1)
      have Uv:=lH (jjI (n:=k+1) (cap:=cap1) HV.out KK.out H3.out HW.out (fun g h=>(Vk.out.lt g h).2) hgrow hat);have VQ:=lH ((HB.out.trans ((Below.mono KK.out hbase).trans (Below.mono (ja w1 _) (by omega)))).grown hgrow (by simp;omega) (fun j hj=>(Vk.out.lt j hj).1));go_wp2;go_roundw
      case rel=>exact⟨k+1,by omega,by go_num,lx++[z],by rw[List.map_append,HX.out,zI HN.out,←HZ.out];rfl,Own.snoc hown1 (by rw[HT.out]) HO.out.2 trivial,Uv.out,VQ.out⟩
      case measure=>simp[intOf];omega
    · have HK:=lH (show l.take k=l by rw[List.take_of_length_le (by rw[HL.out];omega)]);have Ub:=lH (show Ze wr u3 l by have:=jgn HO.out (fun z hz=>(HV.out z hz).1);rw[HX.out,HK.out] at this;exact this);clear hlx ho hv hB;go_wp2;go_ret;exact⟨_,rfl,Ub.out,HB.out⟩
theorem jm3 {v:Value} {l:List Bd} {w:World} (h:Ze w v l) (hlow:∀n ∈ l,n.sel.length≤1000000) (hlen:l.length≤1000) :
 Calls Tryz.prog 28 #[v] w fun e w'=>∃v,e=.returned v∧Ze w' v l∧Kept w w':=by
 obtain⟨a,cap,rfl,_,_,hr⟩:=h;exact ji2 a _ cap l w hr hlow hlen
open Go.ChangeShapes Go.WideShapes Go.ChangeAt Go.RowKit Go.Deep
def jga (w:World):Lay BX:={ m:=3,cs:=zv.cs,fine:=At1 w,len:=fun _=>rfl,one:=zv.one,pos:=by decide }
theorem jhS:Tryz.prog.cellsOf 108=3:=by kernel_rfl
theorem jfP {H:Type} {enc:TypeId×Value→H} {w:World} {base fuel:Nat} {sp:Nat→Bool} {held:Bool} {cs:List Value} {x:DataW H×List MemPlace} (h:DataW.trod enc Tryz.prog w base sp held fuel 108 cs=some x) :
 ∃a:BX,cs=(jga w).cs a∧(jga w).fine a:=by
 obtain⟨ys,m,-,-,hlen,hyl,hf⟩:=DataW.trod_struct Tryz.underlying108 h;rw[jhS] at hlen
 match cs,hlen with
 | [c0,c1,c2],_ =>
  have h0:DataW.trod enc Tryz.prog w base sp held m 9 (([c0,c1,c2].drop 0).take (Tryz.prog.cellsOf 9))=ys[0]?:=hf 0 _ rfl;have h1:DataW.trod enc Tryz.prog w base sp held m 49 (([c0,c1,c2].drop 1).take (Tryz.prog.cellsOf 49))=ys[1]?:=hf 1 _ rfl;have h2:DataW.trod enc Tryz.prog w base sp held m 3 (([c0,c1,c2].drop 2).take (Tryz.prog.cellsOf 3))=ys[2]?:=hf 2 _ rfl;rw[ZF] at h0;rw[jhP] at h1;rw[qy] at h2;obtain⟨y0,e0⟩:∃y,ys[0]?=some y:=⟨_,List.getElem?_eq_getElem (by rw[hyl];decide)⟩
  rw[e0] at h0;obtain⟨y1,e1⟩:∃y,ys[1]?=some y:=⟨_,List.getElem?_eq_getElem (by rw[hyl];decide)⟩
  rw[e1] at h1;obtain⟨y2,e2⟩:∃y,ys[2]?=some y:=⟨_,List.getElem?_eq_getElem (by rw[hyl];decide)⟩
  rw[e2] at h2;simp only[List.drop_zero,List.take_succ_cons,List.take_zero,List.drop_succ_cons] at h0 h1 h2;obtain⟨s0,q0,-,z0⟩:=DataW.trod_string Tryz.underlying9 h0;obtain⟨l3,r5⟩:=jb1 h1;obtain⟨s2,q2,-,z2⟩:=DataW.trod_int Tryz.underlying3 h2;have r5':=r5;obtain⟨a1,d1,rfl,-⟩:=r5';simp only[List.cons.injEq,and_true] at q0 q2;subst q0;subst q2;exact⟨(⟨s0,l3,s2⟩,(a1,l3.length,d1)),rfl,⟨z0,bounds_i64 z2,r5⟩⟩
theorem jfZ {H:Type} {enc:TypeId×Value→H} {w:World} {base fuel:Nat} {sp:Nat→Bool} {held:Bool} {v:Value} {x:DataW H×List MemPlace} (h:DataW.trod enc Tryz.prog w base sp held fuel 24 [v]=some x):∃l,Ze w v l:=by
 obtain⟨l,a,cap,rfl,h1,h2,h3⟩:=zJ (jga w) Tryz.underlying24 jhS (fun _ _ _ h=>jfP h) h;obtain⟨g0,g1,g2,g3⟩:=h3;refine⟨l.map (fun z=>z.1),a,cap,by rw[List.length_map],by rw[List.length_map];exact h1,h2,rfl,by rw[List.length_map];exact g1,?_⟩;rw[List.length_map];rcases g3 with g3 | ⟨b,off,rfl,hb,hc⟩
 · exact .inl g3
 · refine .inr ⟨b,off,rfl,hb,fun i n hi=>?_⟩;rw[List.getElem?_map] at hi;obtain⟨z,hz,rfl⟩:=Option.map_eq_some_iff.1 hi;exact⟨slV z.2,hc i z 0 _ hz rfl,hc i z 1 _ hz rfl,hc i z 2 _ hz rfl,g2 z (List.mem_of_getElem? hz)⟩
theorem jbT (n:Pd) (v1 v2 v3 v4:Value) (w:World):Calls Tryz.prog 141 #[jx n v1 v2 v3 v4] w fun e w'=>e=.returned (.string n.name)∧Kept w w':=by
 unfold jx;go_enter Tryz.func141,Tryz.ntmps141;go_wp2;go_ret;exact⟨rfl,ja _ _⟩
def JP (l:List Pd) (x:ByteArray):Option Pd:=l.find? fun n=>eqS n.name x
def jW:Option ByteArray→List Pd→Int
 | _,[]=>0
 | prev,n::t=>if zG n≠0 then zG n else if Vec.jK prev n.name=true then 13 else jW (some n.name) t
def jD (l:List Pd):Int:=if 128<l.length then 4 else jW none l
def ZG (l:List Pd) (k:Nat):Option ByteArray:=if k=0 then none else (l[k-1]?).map Pd.name
theorem jbZ {l:List Pd} {k:Nat} (h:k=0) (s:ByteArray):Vec.jK (ZG l k) s=false:=by unfold ZG;rw[if_pos h];rfl
theorem jbY {l:List Pd} {k:Nat} {n:Pd} (h:¬k=0) (hn:l[k-1]?=some n) (s:ByteArray):Vec.jK (ZG l k) s=leS s n.name:=by unfold ZG;rw[if_neg h,hn];rfl
theorem jbD {l:List Pd} {k:Nat} {n:Pd} (hn:l[k]?=some n):ZG l (k+1)=some n.name:=by unfold ZG;rw[if_neg (by omega),Nat.add_sub_cancel,hn];rfl
theorem jax {p:Option ByteArray} {n:Pd} {t:List Pd} (h:zG n≠0):jW p (n::t)=zG n:=by rw[jW,if_pos h]
theorem XB {p:Option ByteArray} {n:Pd} {t:List Pd} (h:zG n=0) (b:Vec.jK p n.name=true):jW p (n::t)=13:=by rw[jW,if_neg (by rw[h];decide),if_pos b]
theorem Z3 {p:Option ByteArray} {n:Pd} {t:List Pd} (h:zG n=0) (b:Vec.jK p n.name=false):jW p (n::t)=jW (some n.name) t:=by rw[jW,if_neg (by rw[h];decide),if_neg (by rw[b];decide)]
theorem jdh (a:Option Addr) (len cap:Nat) (l:List Pd) (w:World) (hr:jy w a len l) :
 Calls Tryz.prog 140 #[.slice a len cap,.int .i64 128,.func (.func 141) #[] #[],.func (.func 142) #[] #[]] w (Say (.int .i64 (jD l)) w):=by
 have hl:=hr.1;have hm:=hr.2.1;unfold maxLen at hm;by_cases h32:128<len
 · have HV:=lH (show jD l=4 by unfold jD;rw[if_pos (by omega)]);clear hr hl;go_enter Tryz.func140,Tryz.ntmps140;go_wp2;go_ret;exact⟨jb HV.out.symm,Kept.refl _⟩
 · have HV:=lH (show jD l=jW none l by unfold jD;rw[if_neg (by omega)]);have h32':len≤128:=by omega
   by_cases h0:len=0
   · subst h0;have HE:=lH (show jD l=0 by rw[HV.out,List.eq_nil_of_length_eq_zero hl];rfl);clear hr hl h32;go_enter Tryz.func140,Tryz.ntmps140;go_wp2;refine wp_loop_rounds 1 ?_;rw[rounds_succ];go_wp2;go_ret;exact⟨jb HE.out.symm,Kept.refl _⟩
   · obtain⟨b,off,rfl⟩:=hr.form.resolve_left h0;have HR:=lH hr;have HL:=lH hl;clear hr hl h0 h32;go_enter Tryz.func140,Tryz.ntmps140;go_wp2;go_loopw [18] (fun i wr=>∃k:Nat,k≤len∧i=.int .i64 k∧jW (ZG l k) (l.drop k)=jW none l∧Kept w wr) (fun i _=>len-(intOf i).toNat)
     case atStart=>exact⟨0,Nat.zero_le _,rfl,rfl,Kept.refl _⟩
     case round =>
      obtain⟨k,hk,rfl,hrest,hK⟩:=hrel;obtain⟨HS,HT,HK⟩:=lH3 (HV.out.trans hrest.symm) hrest hK;by_cases hlt:k<len
      · obtain⟨n,a1,m1,c1,a2,m2,c2,a3,m3,c3,a4,m4,c4,hn,hd,hb,p0,p1,p2,p3,p4,p5,p6,p7,p8,p9,p10,hat⟩:=(HR.out.kept hK).at_ hlt;obtain⟨VH,HD,VD⟩:=lH3 hat hd (jbD hn);have VE:=lH (fun W (kk:Kept wr W)=>jiJ n (.slice a1 m1 c1) (.slice a2 m2 c2) (.slice a3 m3 c3) (.slice a4 m4 c4) W (VH.out.kept kk));have Uu:=lH (fun W=>jbT n (.slice a1 m1 c1) (.slice a2 m2 c2) (.slice a3 m3 c3) (.slice a4 m4 c4) W);unfold jx at VE Uu;obtain⟨ck,hck⟩:=eX (zG n)
        have VG:=lH hck;rw[hck] at VE;have hkk:(k:Int)<(len:Int):=by omega
        clear hrest hK hat hd hck;by_cases z1:ck=0
        · subst z1;by_cases h0:k=0
          · have hd0:decide (0<k)=false:=by subst h0;decide
            have HP:=lH (jbZ (l:=l) h0 n.name);clear h0;go_wp2_with fail
            refine(VE.out _ (ja _ _)).mono ?_;rintro e w1 ⟨rfl,kk⟩;have KW:=lH (Kept.trans (ja _ _) kk);have Vd:=lH (fun W k=>jc wr (.string n.name) [.string n.owner,.int .i64 n.prio,.slice a1 m1 c1,.slice a2 m2 c2,.slice a3 m3 c3,.slice a4 m4 c4,.string n.key,.int .i64 n.most,.string n.node,.bool n.hold] 52 W (Kept.trans kk k));have y0:=(Vd.out w1 (Kept.refl _)).at_ 0 _ rfl;have y1:=(Vd.out w1 (Kept.refl _)).at_ 1 _ rfl;have y2:=(Vd.out w1 (Kept.refl _)).at_ 2 _ rfl;have y3:=(Vd.out w1 (Kept.refl _)).at_ 3 _ rfl;have y4:=(Vd.out w1 (Kept.refl _)).at_ 4 _ rfl;have y5:=(Vd.out w1 (Kept.refl _)).at_ 5 _ rfl;have y6:=(Vd.out w1 (Kept.refl _)).at_ 6 _ rfl;have y7:=(Vd.out w1 (Kept.refl _)).at_ 7 _ rfl;have y8:=(Vd.out w1 (Kept.refl _)).at_ 8 _ rfl;have y9:=(Vd.out w1 (Kept.refl _)).at_ 9 _ rfl;have y10:=(Vd.out w1 (Kept.refl _)).at_ 10 _ rfl;clear kk;go_wp2;go_quiet (fail)
            go_wp2;go_roundw
            case rel=>exact⟨k+1,by omega,by go_num,(show jW (ZG l (k+1)) (l.drop (k+1))=jW none l by rw[←HT.out,HD.out,Z3 VG.out HP.out,VD.out]),HK.out.trans (KW.out.trans (Kept.drewN _ _))⟩
            case measure=>simp[intOf];omega
          · have hd0:decide (0<k)=true:=by simp;omega
            obtain⟨q,hqk⟩:∃q,k=q+1:=⟨k-1,by omega⟩
            have g1:(k:Int)-1=(q:Int):=by omega
            have gw:IntKind.i64.wrap (q:Int)=(q:Int):=by rw[IntKind.wrap_i64];omega
            have g2:(q:Int)<(len:Int):=by omega
            obtain⟨n9,b1,h1,d1,b2,h2,d2,b3,h3,d3,b4,h4,d4,hn9,-,hb9,q0,q1,q2,q3,q4,q5,q6,q7,q8,q9,q10,-⟩:=(HR.out.kept HK.out).at_ (show q<len by omega);have RJ:=lH hqk;have hqk1:k-1=q:=by omega
            have HP:=lH (jbY (l:=l) h0 (show l[k-1]?=some n9 by rw[hqk1];exact hn9) n.name);clear hqk hqk1;have Vv:=lH (fun W=>jbT n9 (.slice b1 h1 d1) (.slice b2 h2 d2) (.slice b3 h3 d3) (.slice b4 h4 d4) W);unfold jx at Vv;clear h0 hn9;by_cases n3:leS n.name n9.name=true
            · have n3':(Op.bytesLess n.name.toList n9.name.toList||n.name.toList==n9.name.toList)=true:=n3;have N3:=lH n3;clear n3;go_wp2_with fail
              refine(VE.out _ (ja _ _)).mono ?_;rintro e w1 ⟨rfl,kk⟩;have KW:=lH (Kept.trans (ja _ _) kk);have Vd:=lH (fun W k=>jc wr (.string n.name) [.string n.owner,.int .i64 n.prio,.slice a1 m1 c1,.slice a2 m2 c2,.slice a3 m3 c3,.slice a4 m4 c4,.string n.key,.int .i64 n.most,.string n.node,.bool n.hold] 52 W (Kept.trans kk k));have y0:=(Vd.out w1 (Kept.refl _)).at_ 0 _ rfl;have y1:=(Vd.out w1 (Kept.refl _)).at_ 1 _ rfl;have y2:=(Vd.out w1 (Kept.refl _)).at_ 2 _ rfl;have y3:=(Vd.out w1 (Kept.refl _)).at_ 3 _ rfl;have y4:=(Vd.out w1 (Kept.refl _)).at_ 4 _ rfl;have y5:=(Vd.out w1 (Kept.refl _)).at_ 5 _ rfl;have y6:=(Vd.out w1 (Kept.refl _)).at_ 6 _ rfl;have y7:=(Vd.out w1 (Kept.refl _)).at_ 7 _ rfl;have y8:=(Vd.out w1 (Kept.refl _)).at_ 8 _ rfl;have y9:=(Vd.out w1 (Kept.refl _)).at_ 9 _ rfl;have y10:=(Vd.out w1 (Kept.refl _)).at_ 10 _ rfl;have HO:=lH (show ∀W,Kept w1 W→(W.cell? ⟨wr.heap.size,0,none⟩=some (.string n.name)∧W.cell? ⟨wr.heap.size,1,none⟩=some (.string n.owner)∧W.cell? ⟨wr.heap.size,2,none⟩=some (.int .i64 n.prio)∧W.cell? ⟨wr.heap.size,3,none⟩=some (.slice a1 m1 c1)∧W.cell? ⟨wr.heap.size,4,none⟩=some (.slice a2 m2 c2)∧W.cell? ⟨wr.heap.size,5,none⟩=some (.slice a3 m3 c3)∧W.cell? ⟨wr.heap.size,6,none⟩=some (.slice a4 m4 c4)∧W.cell? ⟨wr.heap.size,7,none⟩=some (.string n.key)∧W.cell? ⟨wr.heap.size,8,none⟩=some (.int .i64 n.most)∧W.cell? ⟨wr.heap.size,9,none⟩=some (.string n.node)∧W.cell? ⟨wr.heap.size,10,none⟩=some (.bool n.hold))∧(W.cell? ⟨b,off+q*11,none⟩=some (.string n9.name)∧W.cell? ⟨b,off+q*11+1,none⟩=some (.string n9.owner)∧W.cell? ⟨b,off+q*11+2,none⟩=some (.int .i64 n9.prio)∧W.cell? ⟨b,off+q*11+3,none⟩=some (.slice b1 h1 d1)∧W.cell? ⟨b,off+q*11+4,none⟩=some (.slice b2 h2 d2)∧W.cell? ⟨b,off+q*11+5,none⟩=some (.slice b3 h3 d3)∧W.cell? ⟨b,off+q*11+6,none⟩=some (.slice b4 h4 d4)∧W.cell? ⟨b,off+q*11+7,none⟩=some (.string n9.key)∧W.cell? ⟨b,off+q*11+8,none⟩=some (.int .i64 n9.most)∧W.cell? ⟨b,off+q*11+9,none⟩=some (.string n9.node)∧W.cell? ⟨b,off+q*11+10,none⟩=some (.bool n9.hold)) from fun W k=>⟨⟨(Vd.out W k).at_ 0 _ rfl,(Vd.out W k).at_ 1 _ rfl,(Vd.out W k).at_ 2 _ rfl,(Vd.out W k).at_ 3 _ rfl,(Vd.out W k).at_ 4 _ rfl,(Vd.out W k).at_ 5 _ rfl,(Vd.out W k).at_ 6 _ rfl,(Vd.out W k).at_ 7 _ rfl,(Vd.out W k).at_ 8 _ rfl,(Vd.out W k).at_ 9 _ rfl,(Vd.out W k).at_ 10 _ rfl⟩,⟨cell_later (KW.out.trans k) q0,cell_later (KW.out.trans k) q1,cell_later (KW.out.trans k) q2,cell_later (KW.out.trans k) q3,cell_later (KW.out.trans k) q4,cell_later (KW.out.trans k) q5,cell_later (KW.out.trans k) q6,cell_later (KW.out.trans k) q7,cell_later (KW.out.trans k) q8,cell_later (KW.out.trans k) q9,cell_later (KW.out.trans k) q10⟩⟩);clear kk q0 q1 q2 q3 q4 q5 q6 q7 q8 q9 q10;go_wp2
              go_region_held3 (fun W=>(W.cell? ⟨wr.heap.size,0,none⟩=some (.string n.name)∧W.cell? ⟨wr.heap.size,1,none⟩=some (.string n.owner)∧W.cell? ⟨wr.heap.size,2,none⟩=some (.int .i64 n.prio)∧W.cell? ⟨wr.heap.size,3,none⟩=some (.slice a1 m1 c1)∧W.cell? ⟨wr.heap.size,4,none⟩=some (.slice a2 m2 c2)∧W.cell? ⟨wr.heap.size,5,none⟩=some (.slice a3 m3 c3)∧W.cell? ⟨wr.heap.size,6,none⟩=some (.slice a4 m4 c4)∧W.cell? ⟨wr.heap.size,7,none⟩=some (.string n.key)∧W.cell? ⟨wr.heap.size,8,none⟩=some (.int .i64 n.most)∧W.cell? ⟨wr.heap.size,9,none⟩=some (.string n.node)∧W.cell? ⟨wr.heap.size,10,none⟩=some (.bool n.hold))∧(W.cell? ⟨b,off+q*11,none⟩=some (.string n9.name)∧W.cell? ⟨b,off+q*11+1,none⟩=some (.string n9.owner)∧W.cell? ⟨b,off+q*11+2,none⟩=some (.int .i64 n9.prio)∧W.cell? ⟨b,off+q*11+3,none⟩=some (.slice b1 h1 d1)∧W.cell? ⟨b,off+q*11+4,none⟩=some (.slice b2 h2 d2)∧W.cell? ⟨b,off+q*11+5,none⟩=some (.slice b3 h3 d3)∧W.cell? ⟨b,off+q*11+6,none⟩=some (.slice b4 h4 d4)∧W.cell? ⟨b,off+q*11+7,none⟩=some (.string n9.key)∧W.cell? ⟨b,off+q*11+8,none⟩=some (.int .i64 n9.most)∧W.cell? ⟨b,off+q*11+9,none⟩=some (.string n9.node)∧W.cell? ⟨b,off+q*11+10,none⟩=some (.bool n9.hold)))
               (first | exact HO.out _ (Kept.drew _) | exact HO.out _ J1.out | exact HO.out _ J2.out)
               (first | (go_at_call 141;refine(Uu.out _).mono ?_;rintro e1 w2 ⟨rfl,k1⟩;have J1:=lH ((Kept.drew _).trans k1);clear k1)
                      | (go_at_call 141;refine(Vv.out _).mono ?_;rintro e2 w3 ⟨rfl,k1⟩;have J2:=lH (J1.out.trans k1);clear k1))
              go_wp2;go_ret;exact⟨jb (show (13:Int)=jD l by rw[HS.out,HD.out,XB VG.out (HP.out.trans N3.out)]),HK.out.trans (KW.out.trans J2.out)⟩
            · have n3:leS n.name n9.name=false:=by simpa using n3
              have n3':(Op.bytesLess n.name.toList n9.name.toList||n.name.toList==n9.name.toList)=false:=n3;have N3:=lH n3;clear n3;go_wp2_with fail
              refine(VE.out _ (ja _ _)).mono ?_;rintro e w1 ⟨rfl,kk⟩;have KW:=lH (Kept.trans (ja _ _) kk);have Vd:=lH (fun W k=>jc wr (.string n.name) [.string n.owner,.int .i64 n.prio,.slice a1 m1 c1,.slice a2 m2 c2,.slice a3 m3 c3,.slice a4 m4 c4,.string n.key,.int .i64 n.most,.string n.node,.bool n.hold] 52 W (Kept.trans kk k));have y0:=(Vd.out w1 (Kept.refl _)).at_ 0 _ rfl;have y1:=(Vd.out w1 (Kept.refl _)).at_ 1 _ rfl;have y2:=(Vd.out w1 (Kept.refl _)).at_ 2 _ rfl;have y3:=(Vd.out w1 (Kept.refl _)).at_ 3 _ rfl;have y4:=(Vd.out w1 (Kept.refl _)).at_ 4 _ rfl;have y5:=(Vd.out w1 (Kept.refl _)).at_ 5 _ rfl;have y6:=(Vd.out w1 (Kept.refl _)).at_ 6 _ rfl;have y7:=(Vd.out w1 (Kept.refl _)).at_ 7 _ rfl;have y8:=(Vd.out w1 (Kept.refl _)).at_ 8 _ rfl;have y9:=(Vd.out w1 (Kept.refl _)).at_ 9 _ rfl;have y10:=(Vd.out w1 (Kept.refl _)).at_ 10 _ rfl;have HO:=lH (show ∀W,Kept w1 W→(W.cell? ⟨wr.heap.size,0,none⟩=some (.string n.name)∧W.cell? ⟨wr.heap.size,1,none⟩=some (.string n.owner)∧W.cell? ⟨wr.heap.size,2,none⟩=some (.int .i64 n.prio)∧W.cell? ⟨wr.heap.size,3,none⟩=some (.slice a1 m1 c1)∧W.cell? ⟨wr.heap.size,4,none⟩=some (.slice a2 m2 c2)∧W.cell? ⟨wr.heap.size,5,none⟩=some (.slice a3 m3 c3)∧W.cell? ⟨wr.heap.size,6,none⟩=some (.slice a4 m4 c4)∧W.cell? ⟨wr.heap.size,7,none⟩=some (.string n.key)∧W.cell? ⟨wr.heap.size,8,none⟩=some (.int .i64 n.most)∧W.cell? ⟨wr.heap.size,9,none⟩=some (.string n.node)∧W.cell? ⟨wr.heap.size,10,none⟩=some (.bool n.hold))∧(W.cell? ⟨b,off+q*11,none⟩=some (.string n9.name)∧W.cell? ⟨b,off+q*11+1,none⟩=some (.string n9.owner)∧W.cell? ⟨b,off+q*11+2,none⟩=some (.int .i64 n9.prio)∧W.cell? ⟨b,off+q*11+3,none⟩=some (.slice b1 h1 d1)∧W.cell? ⟨b,off+q*11+4,none⟩=some (.slice b2 h2 d2)∧W.cell? ⟨b,off+q*11+5,none⟩=some (.slice b3 h3 d3)∧W.cell? ⟨b,off+q*11+6,none⟩=some (.slice b4 h4 d4)∧W.cell? ⟨b,off+q*11+7,none⟩=some (.string n9.key)∧W.cell? ⟨b,off+q*11+8,none⟩=some (.int .i64 n9.most)∧W.cell? ⟨b,off+q*11+9,none⟩=some (.string n9.node)∧W.cell? ⟨b,off+q*11+10,none⟩=some (.bool n9.hold)) from fun W k=>⟨⟨(Vd.out W k).at_ 0 _ rfl,(Vd.out W k).at_ 1 _ rfl,(Vd.out W k).at_ 2 _ rfl,(Vd.out W k).at_ 3 _ rfl,(Vd.out W k).at_ 4 _ rfl,(Vd.out W k).at_ 5 _ rfl,(Vd.out W k).at_ 6 _ rfl,(Vd.out W k).at_ 7 _ rfl,(Vd.out W k).at_ 8 _ rfl,(Vd.out W k).at_ 9 _ rfl,(Vd.out W k).at_ 10 _ rfl⟩,⟨cell_later (KW.out.trans k) q0,cell_later (KW.out.trans k) q1,cell_later (KW.out.trans k) q2,cell_later (KW.out.trans k) q3,cell_later (KW.out.trans k) q4,cell_later (KW.out.trans k) q5,cell_later (KW.out.trans k) q6,cell_later (KW.out.trans k) q7,cell_later (KW.out.trans k) q8,cell_later (KW.out.trans k) q9,cell_later (KW.out.trans k) q10⟩⟩);clear kk q0 q1 q2 q3 q4 q5 q6 q7 q8 q9 q10;go_wp2
              go_region_held3 (fun W=>(W.cell? ⟨wr.heap.size,0,none⟩=some (.string n.name)∧W.cell? ⟨wr.heap.size,1,none⟩=some (.string n.owner)∧W.cell? ⟨wr.heap.size,2,none⟩=some (.int .i64 n.prio)∧W.cell? ⟨wr.heap.size,3,none⟩=some (.slice a1 m1 c1)∧W.cell? ⟨wr.heap.size,4,none⟩=some (.slice a2 m2 c2)∧W.cell? ⟨wr.heap.size,5,none⟩=some (.slice a3 m3 c3)∧W.cell? ⟨wr.heap.size,6,none⟩=some (.slice a4 m4 c4)∧W.cell? ⟨wr.heap.size,7,none⟩=some (.string n.key)∧W.cell? ⟨wr.heap.size,8,none⟩=some (.int .i64 n.most)∧W.cell? ⟨wr.heap.size,9,none⟩=some (.string n.node)∧W.cell? ⟨wr.heap.size,10,none⟩=some (.bool n.hold))∧(W.cell? ⟨b,off+q*11,none⟩=some (.string n9.name)∧W.cell? ⟨b,off+q*11+1,none⟩=some (.string n9.owner)∧W.cell? ⟨b,off+q*11+2,none⟩=some (.int .i64 n9.prio)∧W.cell? ⟨b,off+q*11+3,none⟩=some (.slice b1 h1 d1)∧W.cell? ⟨b,off+q*11+4,none⟩=some (.slice b2 h2 d2)∧W.cell? ⟨b,off+q*11+5,none⟩=some (.slice b3 h3 d3)∧W.cell? ⟨b,off+q*11+6,none⟩=some (.slice b4 h4 d4)∧W.cell? ⟨b,off+q*11+7,none⟩=some (.string n9.key)∧W.cell? ⟨b,off+q*11+8,none⟩=some (.int .i64 n9.most)∧W.cell? ⟨b,off+q*11+9,none⟩=some (.string n9.node)∧W.cell? ⟨b,off+q*11+10,none⟩=some (.bool n9.hold)))
               (first | exact HO.out _ (Kept.drew _) | exact HO.out _ J1.out | exact HO.out _ J2.out)
               (first | (go_at_call 141;refine(Uu.out _).mono ?_;rintro e1 w2 ⟨rfl,k1⟩;have J1:=lH ((Kept.drew _).trans k1);clear k1)
                      | (go_at_call 141;refine(Vv.out _).mono ?_;rintro e2 w3 ⟨rfl,k1⟩;have J2:=lH (J1.out.trans k1);clear k1))
              go_wp2;go_roundw
              case rel=>exact⟨k+1,by omega,by go_num,(show jW (ZG l (k+1)) (l.drop (k+1))=jW none l by rw[←HT.out,HD.out,Z3 VG.out (HP.out.trans N3.out),VD.out]),HK.out.trans (KW.out.trans J2.out)⟩
              case measure=>simp[intOf];omega
        · have z1':(ck != 0)=true:=by simpa using z1
          have HB:=lH (show jD l=ck by rw[HS.out,HD.out,jax (by rw[VG.out];exact z1),VG.out]);clear z1;go_wp2_with fail
          refine(VE.out _ (ja _ _)).mono ?_;rintro e w1 ⟨rfl,kk⟩;have KW:=lH (Kept.trans (ja _ _) kk);have Vd:=lH (fun W k=>jc wr (.string n.name) [.string n.owner,.int .i64 n.prio,.slice a1 m1 c1,.slice a2 m2 c2,.slice a3 m3 c3,.slice a4 m4 c4,.string n.key,.int .i64 n.most,.string n.node,.bool n.hold] 52 W (Kept.trans kk k));have y0:=(Vd.out w1 (Kept.refl _)).at_ 0 _ rfl;have y1:=(Vd.out w1 (Kept.refl _)).at_ 1 _ rfl;have y2:=(Vd.out w1 (Kept.refl _)).at_ 2 _ rfl;have y3:=(Vd.out w1 (Kept.refl _)).at_ 3 _ rfl;have y4:=(Vd.out w1 (Kept.refl _)).at_ 4 _ rfl;have y5:=(Vd.out w1 (Kept.refl _)).at_ 5 _ rfl;have y6:=(Vd.out w1 (Kept.refl _)).at_ 6 _ rfl;have y7:=(Vd.out w1 (Kept.refl _)).at_ 7 _ rfl;have y8:=(Vd.out w1 (Kept.refl _)).at_ 8 _ rfl;have y9:=(Vd.out w1 (Kept.refl _)).at_ 9 _ rfl;have y10:=(Vd.out w1 (Kept.refl _)).at_ 10 _ rfl;clear kk;go_wp2;go_ret;exact⟨jb HB.out.symm,HK.out.trans KW.out⟩
      · have HE:=lH (show jD l=0 by rw[HS.out,List.drop_of_length_le (by rw[HL.out];omega)];rfl);clear hrest hK;go_wp2;go_ret;exact⟨jb HE.out.symm,HK.out⟩
theorem jeK (a:Option Addr) (len cap:Nat) (l:List Pd) (w:World) (hr:jy w a len l) :
 Calls Tryz.prog 92 #[.slice a len cap] w (Say (.int .i64 (jD l)) w):=by
 have H:=lH (jdh a len cap l w hr);clear hr;go_enter Tryz.func92,Tryz.ntmps92;go_wp2_with fail
 refine H.out.mono ?_;rintro e w1 ⟨rfl,k⟩;have K:=lH k;clear k;go_wp2;go_ret;exact⟨rfl,K.out⟩
def jX:Option ByteArray→List Bd→Int
 | _,[]=>0
 | prev,n::t=>if Jq n≠0 then Jq n else if Vec.jK prev n.name=true then 13 else jX (some n.name) t
def jH (l:List Bd):Int:=if 8<l.length then 4 else jX none l
def ZB (l:List Bd) (k:Nat):Option ByteArray:=if k=0 then none else (l[k-1]?).map Bd.name
theorem jbH {l:List Bd} {k:Nat} (h:k=0) (s:ByteArray):Vec.jK (ZB l k) s=false:=by unfold ZB;rw[if_pos h];rfl
theorem jbE {l:List Bd} {k:Nat} {n:Bd} (h:¬k=0) (hn:l[k-1]?=some n) (s:ByteArray):Vec.jK (ZB l k) s=leS s n.name:=by unfold ZB;rw[if_neg h,hn];rfl
theorem jbM {l:List Bd} {k:Nat} {n:Bd} (hn:l[k]?=some n):ZB l (k+1)=some n.name:=by unfold ZB;rw[if_neg (by omega),Nat.add_sub_cancel,hn];rfl
theorem jel {p:Option ByteArray} {n:Bd} {t:List Bd} (h:Jq n≠0):jX p (n::t)=Jq n:=by rw[jX,if_pos h]
theorem jbS {p:Option ByteArray} {n:Bd} {t:List Bd} (h:Jq n=0) (b:Vec.jK p n.name=true):jX p (n::t)=13:=by rw[jX,if_neg (by rw[h];decide),if_pos b]
theorem Xw {p:Option ByteArray} {n:Bd} {t:List Bd} (h:Jq n=0) (b:Vec.jK p n.name=false):jX p (n::t)=jX (some n.name) t:=by rw[jX,if_neg (by rw[h];decide),if_neg (by rw[b];decide)]
theorem jbG (n:Bd) (v1:Value) (w:World):Calls Tryz.prog 144 #[JW n v1] w fun e w'=>e=.returned (.string n.name)∧Kept w w':=by
 unfold JW;go_enter Tryz.func144,Tryz.ntmps144;go_wp2;go_ret;exact⟨rfl,ja _ _⟩
theorem jdn (a:Option Addr) (len cap:Nat) (l:List Bd) (w:World) (hr:j9 w a len l) :
 Calls Tryz.prog 143 #[.slice a len cap,.int .i64 8,.func (.func 144) #[] #[],.func (.func 145) #[] #[]] w (Say (.int .i64 (jH l)) w):=by
 have hl:=hr.1;have hm:=hr.2.1;unfold maxLen at hm;by_cases h32:8<len
 · have HV:=lH (show jH l=4 by unfold jH;rw[if_pos (by omega)]);clear hr hl;go_enter Tryz.func143,Tryz.ntmps143;go_wp2;go_ret;exact⟨jb HV.out.symm,Kept.refl _⟩
 · have HV:=lH (show jH l=jX none l by unfold jH;rw[if_neg (by omega)]);have h32':len≤8:=by omega
   by_cases h0:len=0
   · subst h0;have HE:=lH (show jH l=0 by rw[HV.out,List.eq_nil_of_length_eq_zero hl];rfl);clear hr hl h32;go_enter Tryz.func143,Tryz.ntmps143;go_wp2;refine wp_loop_rounds 1 ?_;rw[rounds_succ];go_wp2;go_ret;exact⟨jb HE.out.symm,Kept.refl _⟩
   · obtain⟨b,off,rfl⟩:=hr.form.resolve_left h0;have HR:=lH hr;have HL:=lH hl;clear hr hl h0 h32;go_enter Tryz.func143,Tryz.ntmps143;go_wp2;go_loopw [18] (fun i wr=>∃k:Nat,k≤len∧i=.int .i64 k∧jX (ZB l k) (l.drop k)=jX none l∧Kept w wr) (fun i _=>len-(intOf i).toNat)
     case atStart=>exact⟨0,Nat.zero_le _,rfl,rfl,Kept.refl _⟩
     case round =>
      obtain⟨k,hk,rfl,hrest,hK⟩:=hrel;obtain⟨HS,HT,HK⟩:=lH3 (HV.out.trans hrest.symm) hrest hK;by_cases hlt:k<len
      · obtain⟨n,a1,m1,c1,hn,hd,hb,p0,p1,p2,hat⟩:=(HR.out.kept hK).at_ hlt;obtain⟨VH,HD,VD⟩:=lH3 hat hd (jbM hn);have VE:=lH (fun W (kk:Kept wr W)=>jiq n (.slice a1 m1 c1) W (VH.out.kept kk));have Uu:=lH (fun W=>jbG n (.slice a1 m1 c1) W);unfold JW at VE Uu;obtain⟨ck,hck⟩:=eX (Jq n)
        have VG:=lH hck;rw[hck] at VE;have hkk:(k:Int)<(len:Int):=by omega
        clear hrest hK hat hd hck;by_cases z1:ck=0
        · subst z1;by_cases h0:k=0
          · have hd0:decide (0<k)=false:=by subst h0;decide
            have HP:=lH (jbH (l:=l) h0 n.name);clear h0;go_wp2_with fail
            refine(VE.out _ (ja _ _)).mono ?_;rintro e w1 ⟨rfl,kk⟩;have KW:=lH (Kept.trans (ja _ _) kk);have Vd:=lH (fun W k=>jc wr (.string n.name) [.slice a1 m1 c1,.int .i64 n.floor] 108 W (Kept.trans kk k));have y0:=(Vd.out w1 (Kept.refl _)).at_ 0 _ rfl;have y1:=(Vd.out w1 (Kept.refl _)).at_ 1 _ rfl;have y2:=(Vd.out w1 (Kept.refl _)).at_ 2 _ rfl;clear kk;go_wp2;go_quiet (fail)
            go_wp2;go_roundw
            case rel=>exact⟨k+1,by omega,by go_num,(show jX (ZB l (k+1)) (l.drop (k+1))=jX none l by rw[←HT.out,HD.out,Xw VG.out HP.out,VD.out]),HK.out.trans (KW.out.trans (Kept.drewN _ _))⟩
            case measure=>simp[intOf];omega
          · have hd0:decide (0<k)=true:=by simp;omega
            obtain⟨q,hqk⟩:∃q,k=q+1:=⟨k-1,by omega⟩
            have g1:(k:Int)-1=(q:Int):=by omega
            have gw:IntKind.i64.wrap (q:Int)=(q:Int):=by rw[IntKind.wrap_i64];omega
            have g2:(q:Int)<(len:Int):=by omega
            obtain⟨n9,b1,h1,d1,hn9,-,hb9,q0,q1,q2,-⟩:=(HR.out.kept HK.out).at_ (show q<len by omega);have RJ:=lH hqk;have hqk1:k-1=q:=by omega
            have HP:=lH (jbE (l:=l) h0 (show l[k-1]?=some n9 by rw[hqk1];exact hn9) n.name);clear hqk hqk1;have Vv:=lH (fun W=>jbG n9 (.slice b1 h1 d1) W);unfold JW at Vv;clear h0 hn9;by_cases n3:leS n.name n9.name=true
            · have n3':(Op.bytesLess n.name.toList n9.name.toList||n.name.toList==n9.name.toList)=true:=n3;have N3:=lH n3;clear n3;go_wp2_with fail
              refine(VE.out _ (ja _ _)).mono ?_;rintro e w1 ⟨rfl,kk⟩;have KW:=lH (Kept.trans (ja _ _) kk);have Vd:=lH (fun W k=>jc wr (.string n.name) [.slice a1 m1 c1,.int .i64 n.floor] 108 W (Kept.trans kk k));have y0:=(Vd.out w1 (Kept.refl _)).at_ 0 _ rfl;have y1:=(Vd.out w1 (Kept.refl _)).at_ 1 _ rfl;have y2:=(Vd.out w1 (Kept.refl _)).at_ 2 _ rfl;have HO:=lH (show ∀W,Kept w1 W→(W.cell? ⟨wr.heap.size,0,none⟩=some (.string n.name)∧W.cell? ⟨wr.heap.size,1,none⟩=some (.slice a1 m1 c1)∧W.cell? ⟨wr.heap.size,2,none⟩=some (.int .i64 n.floor))∧(W.cell? ⟨b,off+q*3,none⟩=some (.string n9.name)∧W.cell? ⟨b,off+q*3+1,none⟩=some (.slice b1 h1 d1)∧W.cell? ⟨b,off+q*3+2,none⟩=some (.int .i64 n9.floor)) from fun W k=>⟨⟨(Vd.out W k).at_ 0 _ rfl,(Vd.out W k).at_ 1 _ rfl,(Vd.out W k).at_ 2 _ rfl⟩,⟨cell_later (KW.out.trans k) q0,cell_later (KW.out.trans k) q1,cell_later (KW.out.trans k) q2⟩⟩);clear kk q0 q1 q2;go_wp2
              go_region_held3 (fun W=>(W.cell? ⟨wr.heap.size,0,none⟩=some (.string n.name)∧W.cell? ⟨wr.heap.size,1,none⟩=some (.slice a1 m1 c1)∧W.cell? ⟨wr.heap.size,2,none⟩=some (.int .i64 n.floor))∧(W.cell? ⟨b,off+q*3,none⟩=some (.string n9.name)∧W.cell? ⟨b,off+q*3+1,none⟩=some (.slice b1 h1 d1)∧W.cell? ⟨b,off+q*3+2,none⟩=some (.int .i64 n9.floor)))
               (first | exact HO.out _ (Kept.drew _) | exact HO.out _ J1.out | exact HO.out _ J2.out)
               (first | (go_at_call 144;refine(Uu.out _).mono ?_;rintro e1 w2 ⟨rfl,k1⟩;have J1:=lH ((Kept.drew _).trans k1);clear k1)
                      | (go_at_call 144;refine(Vv.out _).mono ?_;rintro e2 w3 ⟨rfl,k1⟩;have J2:=lH (J1.out.trans k1);clear k1))
              go_wp2;go_ret;exact⟨jb (show (13:Int)=jH l by rw[HS.out,HD.out,jbS VG.out (HP.out.trans N3.out)]),HK.out.trans (KW.out.trans J2.out)⟩
            · have n3:leS n.name n9.name=false:=by simpa using n3
              have n3':(Op.bytesLess n.name.toList n9.name.toList||n.name.toList==n9.name.toList)=false:=n3;have N3:=lH n3;clear n3;go_wp2_with fail
              refine(VE.out _ (ja _ _)).mono ?_;rintro e w1 ⟨rfl,kk⟩;have KW:=lH (Kept.trans (ja _ _) kk);have Vd:=lH (fun W k=>jc wr (.string n.name) [.slice a1 m1 c1,.int .i64 n.floor] 108 W (Kept.trans kk k));have y0:=(Vd.out w1 (Kept.refl _)).at_ 0 _ rfl;have y1:=(Vd.out w1 (Kept.refl _)).at_ 1 _ rfl;have y2:=(Vd.out w1 (Kept.refl _)).at_ 2 _ rfl;have HO:=lH (show ∀W,Kept w1 W→(W.cell? ⟨wr.heap.size,0,none⟩=some (.string n.name)∧W.cell? ⟨wr.heap.size,1,none⟩=some (.slice a1 m1 c1)∧W.cell? ⟨wr.heap.size,2,none⟩=some (.int .i64 n.floor))∧(W.cell? ⟨b,off+q*3,none⟩=some (.string n9.name)∧W.cell? ⟨b,off+q*3+1,none⟩=some (.slice b1 h1 d1)∧W.cell? ⟨b,off+q*3+2,none⟩=some (.int .i64 n9.floor)) from fun W k=>⟨⟨(Vd.out W k).at_ 0 _ rfl,(Vd.out W k).at_ 1 _ rfl,(Vd.out W k).at_ 2 _ rfl⟩,⟨cell_later (KW.out.trans k) q0,cell_later (KW.out.trans k) q1,cell_later (KW.out.trans k) q2⟩⟩);clear kk q0 q1 q2;go_wp2
              go_region_held3 (fun W=>(W.cell? ⟨wr.heap.size,0,none⟩=some (.string n.name)∧W.cell? ⟨wr.heap.size,1,none⟩=some (.slice a1 m1 c1)∧W.cell? ⟨wr.heap.size,2,none⟩=some (.int .i64 n.floor))∧(W.cell? ⟨b,off+q*3,none⟩=some (.string n9.name)∧W.cell? ⟨b,off+q*3+1,none⟩=some (.slice b1 h1 d1)∧W.cell? ⟨b,off+q*3+2,none⟩=some (.int .i64 n9.floor)))
               (first | exact HO.out _ (Kept.drew _) | exact HO.out _ J1.out | exact HO.out _ J2.out)
               (first | (go_at_call 144;refine(Uu.out _).mono ?_;rintro e1 w2 ⟨rfl,k1⟩;have J1:=lH ((Kept.drew _).trans k1);clear k1)
                      | (go_at_call 144;refine(Vv.out _).mono ?_;rintro e2 w3 ⟨rfl,k1⟩;have J2:=lH (J1.out.trans k1);clear k1))
              go_wp2;go_roundw
              case rel=>exact⟨k+1,by omega,by go_num,(show jX (ZB l (k+1)) (l.drop (k+1))=jX none l by rw[←HT.out,HD.out,Xw VG.out (HP.out.trans N3.out),VD.out]),HK.out.trans (KW.out.trans J2.out)⟩
              case measure=>simp[intOf];omega
        · have z1':(ck != 0)=true:=by simpa using z1
          have HB:=lH (show jH l=ck by rw[HS.out,HD.out,jel (by rw[VG.out];exact z1),VG.out]);clear z1;go_wp2_with fail
          refine(VE.out _ (ja _ _)).mono ?_;rintro e w1 ⟨rfl,kk⟩;have KW:=lH (Kept.trans (ja _ _) kk);have Vd:=lH (fun W k=>jc wr (.string n.name) [.slice a1 m1 c1,.int .i64 n.floor] 108 W (Kept.trans kk k));have y0:=(Vd.out w1 (Kept.refl _)).at_ 0 _ rfl;have y1:=(Vd.out w1 (Kept.refl _)).at_ 1 _ rfl;have y2:=(Vd.out w1 (Kept.refl _)).at_ 2 _ rfl;clear kk;go_wp2;go_ret;exact⟨jb HB.out.symm,HK.out.trans KW.out⟩
      · have HE:=lH (show jH l=0 by rw[HS.out,List.drop_of_length_le (by rw[HL.out];omega)];rfl);clear hrest hK;go_wp2;go_ret;exact⟨jb HE.out.symm,HK.out⟩
theorem jeA (a:Option Addr) (len cap:Nat) (l:List Bd) (w:World) (hr:j9 w a len l) :
 Calls Tryz.prog 93 #[.slice a len cap] w (Say (.int .i64 (jH l)) w):=by
 have H:=lH (jdn a len cap l w hr);clear hr;go_enter Tryz.func93,Tryz.ntmps93;go_wp2_with fail
 refine H.out.mono ?_;rintro e w1 ⟨rfl,k⟩;have K:=lH k;clear k;go_wp2;go_ret;exact⟨rfl,K.out⟩
structure Clu where
 nodes:List Nod
 pods:List Pd
 buds:List Bd
abbrev Jk (v1 v2 v3:Value):Value:=.agg #[v1,v2,v3]
structure jc1 (w:World) (v1 v2 v3:Value) (s:Clu):Prop where
 nodes:JB w v1 s.nodes
 pods:Jn w v2 s.pods
 buds:Ze w v3 s.buds
theorem jc1.kept {w w':World} {v1 v2 v3:Value} {s:Clu} (h:jc1 w v1 v2 v3 s) (k:Kept w w'):jc1 w' v1 v2 v3 s:=⟨h.nodes.kept k,h.pods.kept k,h.buds.kept k⟩
def jC (w:World) (v:Value) (s:Clu):Prop:=∃v1 v2 v3,v=Jk v1 v2 v3∧jc1 w v1 v2 v3 s
theorem jC.kept {w w':World} {v:Value} {s:Clu} (h:jC w v s) (k:Kept w w'):jC w' v s:=by
 obtain⟨v1,v2,v3,e,h⟩:=h;exact⟨v1,v2,v3,e,h.kept k⟩
structure jE (s:Clu):Prop where
 nodes:∀n ∈ s.nodes,zP n
 pods:∀n ∈ s.pods,JN n
 buds:∀n ∈ s.buds,n.sel.length≤1000000
 nodesN:s.nodes.length≤100000
 podsN:s.pods.length≤100000
 budsN:s.buds.length≤100000
def jJ (x:ByteArray):List Pd→Vec.V→Int×Vec.V
 | [],v=>(0,v)
 | p::t,v=>if eqS p.node x=true then (if (Vec.jj Vec.jG v p.need).1=0 then jJ x t (Vec.jj Vec.jG v p.need).2 else ((Vec.jj Vec.jG v p.need).1,[])) else jJ x t v
theorem jbj {x:ByteArray} {p:Pd} {t:List Pd} {v:Vec.V} (h:eqS p.node x=false):jJ x (p::t) v=jJ x t v:=by
 rw[jJ,if_neg (by rw[h];decide)]
theorem jch {x:ByteArray} {p:Pd} {t:List Pd} {v m:Vec.V} (h:eqS p.node x=true) (g:Vec.jj Vec.jG v p.need=(0,m)):jJ x (p::t) v=jJ x t m:=by
 rw[jJ,if_pos h,g,if_pos rfl]
theorem jce {x:ByteArray} {p:Pd} {t:List Pd} {v m:Vec.V} {c:Int} (h:eqS p.node x=true) (g:Vec.jj Vec.jG v p.need=(c,m)) (hc:c≠0):jJ x (p::t) v=(c,[]):=by
 rw[jJ,if_pos h,g,if_neg hc]
theorem jaY {x:ByteArray}:∀{l:List Pd} {v:Vec.V},(jJ x l v).1≠0→(jJ x l v).2=[]
 | [],v,h=>absurd rfl h
 | p::t,v,h=>by
  rw[jJ] at h ⊢;split at h
  · rename_i h1;rw[if_pos h1];split at h
    · rename_i h2;rw[if_pos h2];exact jaY h
    · rename_i h2;rw[if_neg h2]
  · rename_i h1;rw[if_neg h1];exact jaY h
def Jr:List Nod→Vec.V→Int×Vec.V
 | [],v=>(0,v)
 | n::t,v=>if (Vec.jj Vec.jG v n.cap).1=0 then Jr t (Vec.jj Vec.jG v n.cap).2 else ((Vec.jj Vec.jG v n.cap).1,[])
theorem je1 {n:Nod} {t:List Nod} {v m:Vec.V} (g:Vec.jj Vec.jG v n.cap=(0,m)):Jr (n::t) v=Jr t m:=by
 rw[Jr,g,if_pos rfl]
theorem jfL {n:Nod} {t:List Nod} {v m:Vec.V} {c:Int} (g:Vec.jj Vec.jG v n.cap=(c,m)) (hc:c≠0):Jr (n::t) v=(c,[]):=by
 rw[Jr,g,if_neg hc]
def JU (s:Clu) (x:ByteArray):Int×Vec.V:=match jl s.nodes x with | none=>(3,[]) | some n=>jJ n.name s.pods []
def Z4 (s:Clu) (x:ByteArray):Int×Vec.V:=match jl s.nodes x with | none=>(3,[]) | some n=>if (jJ n.name s.pods []).1=0 then Vec.jj Vec.zl n.cap (jJ n.name s.pods []).2 else ((jJ n.name s.pods []).1,[])
def jmO (s:Clu):Int×Vec.V:=Jr s.nodes []
def jA (nodes:List Nod):List Pd→Int
 | []=>0
 | p::t=>if zo p.node=false∧(jl nodes p.node).isSome=false then 3 else jA nodes t
theorem qI {nodes:List Nod} {p:Pd} {t:List Pd} (h:zo p.node=false) (g:(jl nodes p.node).isSome=false):jA nodes (p::t)=3:=by
 rw[jA,if_pos ⟨h,g⟩]
theorem jbI {nodes:List Nod} {p:Pd} {t:List Pd} (h:zo p.node=true):jA nodes (p::t)=jA nodes t:=by
 rw[jA,if_neg (by rw[h];simp)]
theorem jbO {nodes:List Nod} {p:Pd} {t:List Pd} (g:(jl nodes p.node).isSome=true):jA nodes (p::t)=jA nodes t:=by
 rw[jA,if_neg (by rw[g];simp)]
def jM (pods:List Pd):List Nod→Int
 | []=>0
 | n::t=>if (jJ n.name pods []).1=0 then (if Vec.jB n.cap (jJ n.name pods []).2=true then jM pods t else 7) else (jJ n.name pods []).1
theorem jbr {pods:List Pd} {n:Nod} {t:List Nod} {c:Int} {u:Vec.V} (h:jJ n.name pods []=(c,u)) (hc:c≠0):jM pods (n::t)=c:=by
 rw[jM,h,if_neg hc]
theorem qE {pods:List Pd} {n:Nod} {t:List Nod} {u:Vec.V} (h:jJ n.name pods []=(0,u)) (hf:Vec.jB n.cap u=false):jM pods (n::t)=7:=by
 rw[jM,h,if_pos rfl,if_neg (by rw[hf];decide)]
theorem Xv {pods:List Pd} {n:Nod} {t:List Nod} {u:Vec.V} (h:jJ n.name pods []=(0,u)) (hf:Vec.jB n.cap u=true):jM pods (n::t)=jM pods t:=by
 rw[jM,h,if_pos rfl,if_pos hf]
def zK (s:Clu):Int :=
 if or3 (jI s.nodes) (jD s.pods) (jH s.buds)≠0 then or3 (jI s.nodes) (jD s.pods) (jH s.buds)
 else if jA s.nodes s.pods≠0 then jA s.nodes s.pods
 else if jM s.pods s.nodes≠0 then jM s.pods s.nodes
 else (Jr s.nodes []).1
def onP (x:ByteArray) (l:List Pd):List Pd:=if zo x=true then [] else l.filter fun p=>eqS p.node x
def zc (x:ByteArray):List Pd→List Pd
 | []=>[]
 | p::t=>if eqS p.name x=true then t else p::zc x t
def JZ (p:Pd):List Pd→List Pd
 | []=>[p]
 | q::t=>if ltS p.name q.name=true then p::q::t else q::JZ p t
def Jo (x y:ByteArray):List Pd→List Pd
 | []=>[]
 | p::t=>if eqS p.name x=true then { p with node:=y }::t else p::Jo x y t
def zC (s:Clu) (x:ByteArray):Clu:={ s with pods:=zc x s.pods }
def Jw (s:Clu) (p:Pd):Clu:={ s with pods:=JZ p (zc p.name s.pods) }
def zZ (s:Clu) (x y:ByteArray):Clu:={ s with pods:=Jo x y s.pods }
def jF {α:Type} (f:α→α→Bool):List α→List α→Bool
 | [],[]=>true
 | x::s,y::t=>f x y&&jF f s t
 | [],_::_=>false
 | _::_,[]=>false
theorem jns:Tryz.prog.cellsOf 26=3:=by kernel_rfl
theorem jmh:Tryz.prog.cellsOf 22=1:=by kernel_rfl
theorem jlo:Tryz.prog.cellsOf 23=1:=by kernel_rfl
theorem jl2:Tryz.prog.cellsOf 24=1:=by kernel_rfl
theorem jhe {H:Type} {enc:TypeId×Value→H} {w:World} {base fuel:Nat} {sp:Nat→Bool} {held:Bool} {cs:List Value} {x:DataW H×List MemPlace} (h:DataW.trod enc Tryz.prog w base sp held fuel 26 cs=some x) :
 ∃v1 v2 v3 s,cs=[v1,v2,v3]∧jc1 w v1 v2 v3 s:=by
 obtain⟨ys,m,-,-,hlen,hyl,hf⟩:=DataW.trod_struct Tryz.underlying26 h;rw[jns] at hlen
 match cs,hlen with
 | [c0,c1,c2],_ =>
  have h0:DataW.trod enc Tryz.prog w base sp held m 22 (([c0,c1,c2].drop 0).take (Tryz.prog.cellsOf 22))=ys[0]?:=hf 0 _ rfl;rw[jmh] at h0;obtain⟨y0,e0⟩:∃y,ys[0]?=some y:=⟨_,List.getElem?_eq_getElem (by rw[hyl];decide)⟩
  rw[e0] at h0;have h1:DataW.trod enc Tryz.prog w base sp held m 23 (([c0,c1,c2].drop 1).take (Tryz.prog.cellsOf 23))=ys[1]?:=hf 1 _ rfl;rw[jlo] at h1;obtain⟨y1,e1⟩:∃y,ys[1]?=some y:=⟨_,List.getElem?_eq_getElem (by rw[hyl];decide)⟩
  rw[e1] at h1;have h2:DataW.trod enc Tryz.prog w base sp held m 24 (([c0,c1,c2].drop 2).take (Tryz.prog.cellsOf 24))=ys[2]?:=hf 2 _ rfl;rw[jl2] at h2;obtain⟨y2,e2⟩:∃y,ys[2]?=some y:=⟨_,List.getElem?_eq_getElem (by rw[hyl];decide)⟩
  rw[e2] at h2;simp only[List.drop_zero,List.take_succ_cons,List.take_zero,List.drop_succ_cons] at h0 h1 h2;obtain⟨l0,r0⟩:=jeH h0;obtain⟨l1,r1⟩:=jfo h1;obtain⟨l2,r2⟩:=jfZ h2;exact⟨c0,c1,c2,⟨l0,l1,l2⟩,rfl,⟨r0,r1,r2⟩⟩
theorem jno {H:Type} {enc:TypeId×Value→H} {W:World} {r:Reach} {b0 base:Nat} {sp:Nat→Bool} {held:Bool} {v:Value} {d:DataW H} {ps:List MemPlace} (hval:Value.okWide Tryz.prog W r b0 26 v) (h:DataW.Trod enc Tryz.prog W base sp held 26 v d ps):∃s,jC W v s:=by
 obtain⟨cs,rfl,hsz⟩:=okWide_struct Tryz.underlying26 hval;obtain⟨fuel,hf⟩:=h;obtain⟨v1,v2,v3,s,ha,hat⟩:=jhe hf;have e:cs.toList=[v1,v2,v3]:=by
  have:(Value.agg cs).cells.toList=[v1,v2,v3]:=ha;simpa [Value.cells] using this
 have:cs=#[v1,v2,v3]:=Array.ext' e;rw[this];exact⟨s,v1,v2,v3,rfl,hat⟩
def Xc (p q:Pd):Bool:=!zo p.owner&&(eqS q.owner p.owner&&(!q.hold&&!eqS q.name p.name))
def onN (p:Pd) (x:ByteArray):List Pd→Nat
 | []=>0
 | q::t=>(if Xc p q=true∧q.node=x then 1 else 0)+onN p x t
theorem jcw (p:Pd) (x:ByteArray):∀l:List Pd,onN p x l≤l.length
 | []=>Nat.zero_le _
 | q::t=>by
  have:=jcw p x t;unfold onN;simp only[List.length_cons];split<;>omega
def inD (p:Pd) (pods:List Pd) (d:ByteArray):List Nod→Nat
 | []=>0
 | n::t=>(if Je n.labels p.key=some d then onN p n.name pods else 0)+inD p pods d t
theorem jfy (p:Pd) (pods:List Pd) (d:ByteArray):∀l:List Nod,inD p pods d l≤l.length*pods.length
 | []=>Nat.zero_le _
 | n::t=>by
  have h1:=jfy p pods d t;have h2:=jcw p n.name pods;unfold inD;simp only[List.length_cons,Nat.add_mul];split<;>omega
def ZY (k d:ByteArray) (l:List Nod):Bool:=l.any fun n=>decide (Je n.labels k=some d)
theorem jdK (p:Pd) (x:ByteArray):∀(a b:List Pd),onN p x (a++b)=onN p x a+onN p x b
 | [],b=>by simp[onN]
 | q::t,b=>by
  have:=jdK p x t b;simp only[List.cons_append,onN,this];omega
theorem jdA (p:Pd) (pods:List Pd) (d:ByteArray):∀(a b:List Nod),inD p pods d (a++b)=inD p pods d a+inD p pods d b
 | [],b=>by simp[inD]
 | q::t,b=>by
  have:=jdA p pods d t b;simp only[List.cons_append,inD,this];omega
def domV (key name:ByteArray):List Nod→Option ByteArray
 | []=>none
 | n::t=>if eqS n.name name=true then Je n.labels key else domV key name t
def Xk (p:Pd) (pods:List Pd) (nodes:List Nod) (d:ByteArray):List Nod→Nat→Nat
 | [],m=>m
 | n::t,m=>Xk p pods nodes d t (match Je n.labels p.key with
  | none=>m
  | some e=>min m (inD p pods e nodes+(if e=d then 1 else 0)))
def Xh (p:Pd) (s:Clu) (d:ByteArray):Int:=((inD p s.pods d s.nodes+1:Nat):Int)-(Xk p s.pods s.nodes d s.nodes (inD p s.pods d s.nodes+1):Int)
def ZP (p:Pd) (s:Clu) (name:ByteArray):Int×Bool :=
 if zo p.key=true then (0,true) else match domV p.key name s.nodes with
  | none=>(0,false)
  | some d=>(Xh p s d,true)
theorem qq (p:Pd) (pods:List Pd) (nodes:List Nod) (d:ByteArray):∀(l:List Nod) (m:Nat),
 Xk p pods nodes d l m≤m∧(∀n ∈ l,∀e,Je n.labels p.key=some e→Xk p pods nodes d l m≤inD p pods e nodes+(if e=d then 1 else 0)) ∧
 (Xk p pods nodes d l m=m∨∃n ∈ l,∃e,Je n.labels p.key=some e∧Xk p pods nodes d l m=inD p pods e nodes+(if e=d then 1 else 0))
 | [],m=>⟨Nat.le_refl _,fun n h=>absurd h (by simp),.inl rfl⟩
 | n::t,m=>by
  rw[Xk]
  cases h:Je n.labels p.key with
  | none =>
   dsimp only;obtain⟨h1,h2,h3⟩:=qq p pods nodes d t m;refine⟨h1,fun x hx e he=>?_,h3.imp id fun ⟨x,hx,e,he⟩=>⟨x,by simp[hx],e,he⟩⟩;rcases List.mem_cons.1 hx with rfl | hx
   · rw[h] at he;cases he
   · exact h2 x hx e he
  | some c =>
   dsimp only;obtain⟨h1,h2,h3⟩:=qq p pods nodes d t (min m (inD p pods c nodes+(if c=d then 1 else 0)));refine⟨Nat.le_trans h1 (Nat.min_le_left _ _),fun x hx e he=>?_,?_⟩
   · rcases List.mem_cons.1 hx with rfl | hx
     · rw[h] at he;cases he;exact Nat.le_trans h1 (Nat.min_le_right _ _)
     · exact h2 x hx e he
   · rcases h3 with h3 | ⟨x,hx,e,he,h3⟩
     · by_cases g:m≤inD p pods c nodes+(if c=d then 1 else 0)
       · exact .inl (by rw[h3,Nat.min_eq_left g])
       · exact .inr ⟨n,by simp,c,h,by rw[h3,Nat.min_eq_right (by omega)]⟩
     · exact .inr ⟨x,by simp[hx],e,he,h3⟩
theorem jks {p:Pd} {pods:List Pd} {nodes:List Nod} {d:ByteArray} {m z:Nat} (hd:ZY p.key d nodes=true) (hm:m=inD p pods d nodes+1)
 (h1:∀e,ZY p.key e nodes=true→z≤inD p pods e nodes+(if e=d then 1 else 0)) (h2:∃e,ZY p.key e nodes=true∧z=inD p pods e nodes+(if e=d then 1 else 0)):Xk p pods nodes d nodes m=z:=by
 have has:∀{n:Nod} {e:ByteArray},n ∈ nodes→Je n.labels p.key=some e→ZY p.key e nodes=true:=fun {n e} hn he=>by
  unfold ZY;rw[List.any_eq_true];exact⟨n,hn,by simpa using he⟩
 have un:∀{e:ByteArray},ZY p.key e nodes=true→∃n ∈ nodes,Je n.labels p.key=some e:=fun {e} h=>by
  unfold ZY at h;rw[List.any_eq_true] at h;obtain⟨n,hn,he⟩:=h;exact⟨n,hn,by simpa using he⟩
 obtain⟨g1,g2,g3⟩:=qq p pods nodes d nodes m;obtain⟨e,he,hz⟩:=h2;obtain⟨n,hn,hne⟩:=un he;have a:=g2 n hn e hne;rcases g3 with g3 | ⟨x,hx,c,hc,g3⟩
 · have b:=h1 d hd;rw[if_pos rfl] at b;omega
 · have b:=h1 c (has hx hc);omega
theorem jci {key name d:ByteArray}:∀{l:List Nod},domV key name l=some d→ZY key d l=true
 | n::t,h=>by
  rw[domV] at h;unfold ZY;rw[List.any_cons];split at h
  · rw[h];simp
  · have:=jci h;unfold ZY at this;rw[this,Bool.or_true]
def ZE (s:Clu) (p:Pd) (x:ByteArray):Bool:=if zo p.key=true then false else (!(ZP p s x).2||decide (p.most<(ZP p s x).1))
def Za (p:Pd) (n:Nod):Bool:=!n.cordon&&ZT p.sel n.labels
def ZR (p:Pd) (n:Nod):Bool:=!(Jl p.tols n.taints).isSome
def YN (s:Clu) (p:Pd) (x:ByteArray):Bool:=decide ((Z4 s x).1=0)&&Vec.jB (Z4 s x).2 p.need
def zX (s:Clu) (p:Pd) (n:Nod) (x:ByteArray):Int:=if Za p n=false then 8 else if ZR p n=false then 9 else if ZE s p x=true then 10 else if YN s p x=false then 7 else 0
def zW (s:Clu) (p:Pd) (x:ByteArray):Int:=match jl s.nodes x with
 | none=>3
 | some n=>zX s p n x
def qj (s:Clu) (p:Pd) (x:ByteArray):Int:=zW (zC s p.name) p x
def XQ (s:Clu) (p:Pd) (l:List Nod):List Int:=l.map fun n=>qj s p n.name
def zO (s:Clu) (p:Pd) (l:List Nod):List ByteArray:=(l.filter fun n=>decide (qj s p n.name=0)).map fun n=>n.name
theorem jbN {s:Clu} {p:Pd} {x:ByteArray} (h:jl s.nodes x=none):zW s p x=3:=by unfold zW;rw[h]
theorem jbP {s:Clu} {p:Pd} {x:ByteArray} {n:Nod} (h:jl s.nodes x=some n):zW s p x=zX s p n x:=by unfold zW;rw[h]
theorem jbU {s:Clu} {p:Pd} {n:Nod} {x:ByteArray} (h:Za p n=false):zX s p n x=8:=by unfold zX;rw[if_pos h]
theorem jaD {s:Clu} {p:Pd} {n:Nod} {x:ByteArray} (h:Za p n=true) (h2:ZR p n=false):zX s p n x=9:=by unfold zX;rw[if_neg (by rw[h];decide),if_pos h2]
theorem jaU {s:Clu} {p:Pd} {n:Nod} {x:ByteArray} (h:Za p n=true) (h2:ZR p n=true) (h3:ZE s p x=true):zX s p n x=10:=by unfold zX;rw[if_neg (by rw[h];decide),if_neg (by rw[h2];decide),if_pos h3]
theorem ja5 {s:Clu} {p:Pd} {n:Nod} {x:ByteArray} (h:Za p n=true) (h2:ZR p n=true) (h3:ZE s p x=false) (h4:YN s p x=false):zX s p n x=7:=by unfold zX;rw[if_neg (by rw[h];decide),if_neg (by rw[h2];decide),if_neg (by rw[h3];decide),if_pos h4]
theorem jim {s:Clu} {p:Pd} {n:Nod} {x:ByteArray} (h:Za p n=true) (h2:ZR p n=true) (h3:ZE s p x=false) (h4:YN s p x=true):zX s p n x=0:=by unfold zX;rw[if_neg (by rw[h];decide),if_neg (by rw[h2];decide),if_neg (by rw[h3];decide),if_neg (by rw[h4];decide)]
theorem jfn {s:Clu} {p:Pd} {n:Nod} {x:ByteArray} (h:zX s p n x=0):Za p n=true∧ZR p n=true∧ZE s p x=false∧YN s p x=true:=by
 cases h1:Za p n with
 | false=>rw[jbU h1] at h;cases h
 | true =>
  cases h2:ZR p n with
  | false=>rw[jaD h1 h2] at h;cases h
  | true =>
   cases h3:ZE s p x with
   | true=>rw[jaU h1 h2 h3] at h;cases h
   | false =>
    cases h4:YN s p x with
    | false=>rw[ja5 h1 h2 h3 h4] at h;cases h
    | true=>exact⟨rfl,rfl,rfl,rfl⟩
theorem jgC {s:Clu} {p:Pd} {x:ByteArray} (h:zW s p x=0):∃n,jl s.nodes x=some n∧zX s p n x=0:=by
 cases hf:jl s.nodes x with
 | none=>rw[jbN hf] at h;cases h
 | some n=>rw[jbP hf] at h;exact⟨n,rfl,h⟩
theorem ji8 (s:Clu) (p:Pd) (n:Nod) (x:ByteArray):0≤zX s p n x∧zX s p n x≤10:=by
 unfold zX;split
 · decide
 · split
   · decide
   · split
     · decide
     · split<;>decide
theorem jjD (s:Clu) (p:Pd) (x:ByteArray):0≤zW s p x∧zW s p x≤10:=by
 unfold zW;split
 · decide
 · exact ji8 _ _ _ _
theorem jec {l:List Nod} {x:ByteArray} {n:Nod} (h:jl l x=some n):n ∈ l∧n.name=x:=by
 unfold jl at h;have h2:eqS n.name x=true:=List.find?_some (p:=fun n:Nod=>eqS n.name x) h;exact⟨List.mem_of_find?_eq_some h,jR.1 h2⟩
theorem jj4 {s:Clu} {p:Pd} {l:List Nod} {k:Nat} {n:Nod} (h:l[k]?=some n):XQ s p (l.take (k+1))=XQ s p (l.take k)++[qj s p n.name]:=by
 unfold XQ;rw[List.take_add_one,h,List.map_append];rfl
theorem jb7 (s:Clu) (p:Pd) (l:List Nod):(XQ s p l).length=l.length:=by unfold XQ;rw[List.length_map]
theorem jne {s:Clu} {p:Pd} {l:List Nod} {k:Nat} {n:Nod} (h:l[k]?=some n):(XQ s p l)[k]?=some (qj s p n.name):=by unfold XQ;rw[List.getElem?_map,h];rfl
theorem jh7 {s:Clu} {p:Pd} {l:List Nod} {k:Nat} {n:Nod} (h:l[k]?=some n):zO s p (l.take (k+1))=zO s p (l.take k)++(if qj s p n.name=0 then [n.name] else []):=by
 unfold zO;rw[List.take_add_one,h,List.filter_append,List.map_append];by_cases hb:qj s p n.name=0
 · rw[if_pos hb];simp[hb]
 · rw[if_neg hb];simp[hb]
theorem jbn (s:Clu) (p:Pd) (l:List Nod):(zO s p l).length≤l.length:=by
 unfold zO;rw[List.length_map];exact List.length_filter_le _ _
theorem jbc {s:Clu} {p:Pd} {l:List Nod} {x:ByteArray} (h:x ∈ zO s p l):qj s p x=0∧∃n ∈ l,n.name=x:=by
 unfold zO at h;obtain⟨n,hn,rfl⟩:=List.mem_map.1 h;obtain⟨h1,h2⟩:=List.mem_filter.1 hn;exact⟨of_decide_eq_true h2,n,h1,rfl⟩
end Go.Proofs.YtibepooajeakfaaGreat
