/- The law. -/
import Derived.Test.YtnfojaidmnccoaaGreatDoorG0
import Derived.Test.YtnfojaidmnccoaaGreatDoorG1
import Derived.Test.YtnfojaidmnccoaaGreatDoorG2
import Derived.Test.YtnfojaidmnccoaaGreatDoorG3
set_option linter.unusedVariables false
set_option maxRecDepth 100000
set_option maxHeartbeats 25600000
namespace Go.Proofs.YtnfojaidmnccoaaGreatDoor
open Go.RowKit
theorem JH (B:Nat) (q:Nat) (x y:Int) (w:World) (hq:w.cell? ⟨q,0,none⟩=some (.int .i64 y)) (hzq:w.frozen? ⟨q,0,none⟩=false) (hBq:B≤q) :
 CallsD Tryz.prog 68 #[.pointer (some ⟨q,0,none⟩)] (.panicking [jq x]) w fun e u' w' =>
  e=.returned (.tuple #[])∧u'=.panicking [{ jq x with recovered:=true }]∧w'=w.setCell ⟨q,0,none⟩ (.int .i64 x)∧w'.cell? ⟨q,0,none⟩=some (.int .i64 x)∧Below B w w':=by
 have hta:∀W,(Instr.typeAssert (.iface 38 (.int .i64 x)) 20 38 false).run Tryz.prog W=.ok (.int .i64 x) W:=fun _=>by kernel_rfl
 refine callsD_of_wpS Tryz.func68 rfl fun c₀ cs hu=>?_;apply wpS_seq;apply wpS_region;simp[wpOpsS,go_sem,recoverD,hu,Tryz.ntmps68,Exit.thenS];apply wpS_seq;apply wpS_region;simp[wpOpsS,go_sem,recoverD,Exit.thenS];refine wpS_cond (t:=true) (by simp[Act.eval,Array.replicate]) ?_;simp only[if_true];refine wpS_of_wp ?_;simp[Array.replicate];go_wp2;simp[bodyPostS,results,Tryz.results68];exact⟨World.cell?_setCell_same' _ _ _ (by rw[hq];rfl),(Below.refl B w).setCell (p:=⟨q,0,none⟩) hBq _⟩
theorem ZU (q:Addr) (w:World) :
 CallsD Tryz.prog 68 #[.pointer (some q)] .returning w fun e u' w'=>e=.returned (.tuple #[])∧u'=.returning∧w'=w:=by
 refine callsD_of_wpS Tryz.func68 rfl fun c₀ cs hu=>?_;apply wpS_seq;apply wpS_region;simp[wpOpsS,go_sem,recoverD,hu,Tryz.ntmps68,Exit.thenS];apply wpS_seq;apply wpS_region;simp[wpOpsS,go_sem,recoverD,hu,Exit.thenS];refine wpS_cond (t:=false) (by simp[Act.eval,Array.replicate]) ?_;simp only[Bool.false_eq_true,if_false];refine wpS_of_wp (wp_skip ?_)
 cases c₀
 simp_all [bodyPostS,results,Tryz.results68]
def XX (r:Int×Lad) (w:World) (e:Ending) (w':World):Prop:=∃v,e=.returned (.tuple #[v,.int .i64 r.1])∧zB w.heap.size w' v r.2∧Kept w w'
theorem Jv {s:List UInt8} (h:(jc s).1≠0):(jc s).2=Lad.zero:=by
 unfold jc at h ⊢;split
 · rfl
 · rename_i h1;rw[if_neg h1] at h;split
   · rfl
   · rename_i h2;rw[if_neg h2] at h;split
     · rfl
     · rename_i h3;rw[if_neg h3] at h;split
       · rfl
       · rename_i h4;rw[if_neg h4] at h;exact absurd rfl h
theorem Yc (B:Nat) (w:World):zB B w (.agg #[.string ⟨#[]⟩,.slice none 0 0,.slice none 0 0,.int .i64 0,.int .i64 0]) Lad.zero :=
 ⟨none,0,0,none,0,0,rfl,⟨(by decide:(0:Nat)≤maxLen),Vec.Reads.nil w,Reads.nil w,(by unfold I64;decide),(by unfold I64;decide)⟩,(fun _ _ _ e=>by cases e),(fun _ _ _ e=>by cases e)⟩
theorem zB.less {B B':Nat} {w:World} {v:Value} {n:Lad} (h:zB B w v n) (hb:B'≤B):zB B' w v n:=by
 obtain⟨a1,m1,c1,a2,m2,c2,e,h0,g1,g2⟩:=h;exact⟨a1,m1,c1,a2,m2,c2,e,h0,fun b o s e=>Nat.le_trans hb (g1 b o s e),fun b o s e=>Nat.le_trans hb (g2 b o s e)⟩
theorem zB.far {B:Nat} {w w':World} {v:Value} {n:Lad} (h:zB B w v n) (hs:w'.heap.size=w.heap.size) (hb:∀b,B≤b→w'.heap[b]?=w.heap[b]?):zB B w' v n:=by
 obtain⟨a1,m1,c1,a2,m2,c2,e,h0,g1,g2⟩:=h;exact⟨a1,m1,c1,a2,m2,c2,e,⟨h0.size,h0.unit.far hs (fun b o s e=>hb b (g1 b o s e)),h0.rungs.far hs (fun b o s e=>hb b (g2 b o s e)),h0.lo,h0.hi⟩,g1,g2⟩
theorem jz.good {r:Int×Lad} {w w':World} {v:Value} (h:r.1=0) (ho:zB w.heap.size w' v r.2) (hb:Kept w w'):jz r w (.returned v) w':=⟨fun _=>⟨v,rfl,ho⟩,fun g=>absurd h g,hb⟩
def jao (q:Nat) (x:ByteArray) (a1 a2:Option Addr) (m1 c1 m2 c2:Nat) (lo b:Int) (W W':World):Prop :=
 (W'.cell? ⟨q,0,none⟩=some (.string x)∧W'.cell? ⟨q,1,none⟩=some (.slice a1 m1 c1)∧W'.cell? ⟨q,2,none⟩=some (.slice a2 m2 c2)∧W'.cell? ⟨q,3,none⟩=some (.int .i64 lo)∧W'.cell? ⟨q,4,none⟩=some (.int .i64 b)) ∧
  W'.heap.size=W.heap.size∧(∀j,j≠q→W'.heap[j]?=W.heap[j]?)∧∀B w,B≤q→Below B w W→Below B w W'
theorem J8 {W:World} {q:Nat} {v0 v1 v2 v3 v4:Value} (y:W.cell? ⟨q,0,none⟩=some v0∧W.cell? ⟨q,1,none⟩=some v1∧W.cell? ⟨q,2,none⟩=some v2∧W.cell? ⟨q,3,none⟩=some v3∧W.cell? ⟨q,4,none⟩=some v4) (x:ByteArray) (a1 a2:Option Addr) (m1 c1 m2 c2:Nat) (lo b:Int) :
 jao q x a1 a2 m1 c1 m2 c2 lo b W (((((W.setCell ⟨q,0,none⟩ (.string x)).setCell ⟨q,1,none⟩ (.slice a1 m1 c1)).setCell ⟨q,2,none⟩ (.slice a2 m2 c2)).setCell ⟨q,3,none⟩ (.int .i64 lo)).setCell ⟨q,4,none⟩ (.int .i64 b)) :=
 ⟨Xk y.1 y.2.1 y.2.2.1 y.2.2.2.1 y.2.2.2.2 _ rfl,qa _ _ _ _ _ _ _,fun j hj=>XJ _ _ _ _ _ _ _ j hj,
  fun B w hB hk=>((((hk.setCell (p:=⟨q,0,none⟩) hB _).setCell (p:=⟨q,1,none⟩) hB _).setCell (p:=⟨q,2,none⟩) hB _).setCell (p:=⟨q,3,none⟩) hB _).setCell (p:=⟨q,4,none⟩) hB _⟩
theorem XR (C:Addr) (s:List UInt8) (w:World) (h1:w.cell? C=some (.string (bytes s))) (hE:Vec.jR w) (hs:s.length≤900000) :
 Calls Tryz.prog 49 #[.pointer (some C)] w (jz (jc s) w):=by
 obtain⟨Z,hZ⟩:=eX (w.alloc (.cells #[.string ⟨#[]⟩,.slice none 0 0,.slice none 0 0,.int .i64 0,.int .i64 0] 26))
 have hk:Kept w Z:=by rw[←hZ];exact ja _ _
 have hzs:Z.heap.size=w.heap.size+1:=by rw[←hZ,World.size_alloc]
 have hc:=cell_later hk h1;obtain⟨HP,HK,HZ⟩:=lH3 (YF s Z (hE.kept hk) hs) hk (fun W (kk:Kept Z W)=>Yk w (.string ⟨#[]⟩) (.slice none 0 0) (.slice none 0 0) (.int .i64 0) (.int .i64 0) 26 W (by rw[hZ];exact kk));clear hE h1 hk hs;go_enter Tryz.func49,Tryz.ntmps49;go_wp2_with fail
 try rw[hZ]
 refine HP.out.mono ?_;rintro e w2 ⟨g0,g1,k⟩;have KK:=lH k;obtain⟨⟨y0,y1,y2,y3,y4⟩,x0,x1,x2,x3,x4⟩:=HZ.out _ k;have Y:=lH (And.intro y0 (And.intro y1 (And.intro y2 (And.intro y3 y4))));by_cases hx:(jc s).1=0
 · obtain⟨v,rfl,hn⟩:=g0 hx;have HX:=lH hx;have HN:=lH hn;obtain⟨a1,m1,c1,a2,m2,c2,rfl,-⟩:=hn;have P:=lH (J8 Y.out (jc s).2.what a1 a2 m1 c1 m2 c2 (jc s).2.lo (jc s).2.hi);clear g0 g1 k hx Y hZ;obtain⟨x,hxx⟩:=eX ((jc s).2.what)
   obtain⟨lo,hlo⟩:=eX ((jc s).2.lo)
   obtain⟨cd,hcd⟩:=eX ((jc s).2.hi)
   rw[hxx,hlo,hcd] at P HN;rw[hxx,hlo,hcd];clear hxx hlo hcd;go_wp2;obtain⟨WE,hWE⟩:=eX ((((((w2.setCell ⟨w.heap.size,0,none⟩ (.string x)).setCell ⟨w.heap.size,1,none⟩ (.slice a1 m1 c1)).setCell ⟨w.heap.size,2,none⟩ (.slice a2 m2 c2)).setCell ⟨w.heap.size,3,none⟩ (.int .i64 lo)).setCell ⟨w.heap.size,4,none⟩ (.int .i64 cd)))
   rw[hWE] at P ⊢;clear hWE y0 y1 y2 y3 y4 x0 x1 x2 x3 x4;obtain⟨⟨d0,d1,d2,d3,d4⟩,hsz,hbl,hkp⟩:=P.out;refine bodyPost_ret (by simp[results,Tryz.results49,go_sem,d0,d1,d2,d3,d4];try rfl) rfl ?_;exact jz.good HX.out ((HN.out.far hsz (fun b hb=>hbl b (by omega))).less (by omega)) (hkp _ _ (Nat.le_refl _) (HK.out.trans KK.out))
 · obtain rfl:=g1 hx;have HX:=lH hx;clear g0 g1 k hx Y hZ;go_wp2;exact⟨rfl,jz.bad rfl HX.out (HK.out.trans KK.out)⟩
theorem YD (C:Addr) (r:Int×Lad) (w:World) (hr:r.1≠0→r.2=Lad.zero)
 (hk:∀W,Kept w W→Calls Tryz.prog 49 #[.pointer (some C)] W (jz r W)) :
 Calls Tryz.prog 48 #[.func (.func 49) #[] #[.pointer (some C)]] w (XX r w):=by
 have hmf:=hmfL (P:=Tryz.prog);have HR:=lH hr;obtain⟨Z,hZ⟩:=eX ((w.alloc (.cells #[.string ⟨#[]⟩,.slice none 0 0,.slice none 0 0,.int .i64 0,.int .i64 0] 26)).alloc (.cells #[.int .i64 0] 38))
 have hkz:Kept w Z:=by rw[←hZ];exact jA _ _ _
 have hzs:Z.heap.size=w.heap.size+2:=by rw[←hZ];simp
 have HK:=lH hkz;have HZ:=lH (fun W (kk:Kept Z W)=>Yk w (.string ⟨#[]⟩) (.slice none 0 0) (.slice none 0 0) (.int .i64 0) (.int .i64 0) 26 W (by rw[←hZ] at kk;exact(ja _ _).trans kk));have TH:=lH (show ∀W,Kept Z W→W.cell? ⟨w.heap.size+1,0,none⟩=some (.int .i64 0)∧W.frozen? ⟨w.heap.size+1,0,none⟩=false from fun W kk=>by
  have hb:=zK (w.alloc (.cells #[.string ⟨#[]⟩,.slice none 0 0,.slice none 0 0,.int .i64 0,.int .i64 0] 26)) (.int .i64 0) 38;rw[hZ,World.size_alloc] at hb;exact⟨cell_later kk hb.1,(kk.frozen (p:=⟨w.heap.size+1,0,none⟩) (by rw[hzs];exact Nat.lt_succ_self _)).trans hb.2⟩)
 have TI:=lH (hk Z hkz);clear hk hr hkz;obtain⟨r1,r2⟩:=r;go_enter_defers Tryz.func48,Tryz.ntmps48
 go_wp2_with fail
 try rw[hZ]
 refine TI.out.mono ?_;rintro e1 w1 ⟨h0,h1,hb⟩;have KK:=lH hb;obtain⟨⟨y0,y1,y2,y3,y4⟩,x0,x1,x2,x3,x4⟩:=HZ.out _ hb;obtain⟨z0,z1⟩:=TH.out _ hb;have Y:=lH (And.intro y0 (And.intro y1 (And.intro y2 (And.intro y3 y4))));have hws:w.heap.size+1<w1.heap.size:=by have:=hb.size;omega
 by_cases hx:r1=0
 · subst hx;obtain⟨v,rfl,hn⟩:=h0 rfl;have HN:=lH hn;obtain⟨a1,m1,c1,a2,m2,c2,rfl,-⟩:=hn;have P:=lH (J8 Y.out r2.what a1 a2 m1 c1 m2 c2 r2.lo r2.hi);clear h0 h1 hb Y hZ;obtain⟨x,hxx⟩:=eX (r2.what)
   obtain⟨lo,hlo⟩:=eX (r2.lo)
   obtain⟨cd,hcd⟩:=eX (r2.hi)
   dsimp only at P HN ⊢;rw[hxx,hlo,hcd] at P HN;rw[hxx,hlo,hcd];clear hxx hlo hcd;go_wp2_with fail
   obtain⟨WE,hWE⟩:=eX ((((((w1.setCell ⟨w.heap.size,0,none⟩ (.string x)).setCell ⟨w.heap.size,1,none⟩ (.slice a1 m1 c1)).setCell ⟨w.heap.size,2,none⟩ (.slice a2 m2 c2)).setCell ⟨w.heap.size,3,none⟩ (.int .i64 lo)).setCell ⟨w.heap.size,4,none⟩ (.int .i64 cd)))
   rw[hWE] at P ⊢;obtain⟨⟨d0,d1,d2,d3,d4⟩,hsz,hbl,hkp⟩:=P.out;have ez:WE.cell? ⟨w.heap.size+1,0,none⟩=some (.int .i64 0):=(World.cell?_of_block (a:=⟨w.heap.size+1,0,none⟩) (hbl (w.heap.size+1) (by omega))).trans z0;have hb2:∀b,b≠w.heap.size+1→(WE.setCell ⟨w.heap.size+1,0,none⟩ (.int .i64 0)).heap[b]?=WE.heap[b]?:=fun b hb=>Below.heap_setCell WE ⟨w.heap.size+1,0,none⟩ _ b hb;have fe:=World.cell?_setCell_same' WE ⟨w.heap.size+1,0,none⟩ (.int .i64 0) (by rw[ez];rfl);have ff:∀j v,WE.cell? ⟨w.heap.size,j,none⟩=some v→(WE.setCell ⟨w.heap.size+1,0,none⟩ (.int .i64 0)).cell? ⟨w.heap.size,j,none⟩=some v:=fun j v h=>(World.cell?_of_block (a:=⟨w.heap.size,j,none⟩) (hb2 w.heap.size (by omega))).trans h;have f0:=ff 0 _ d0;have f1:=ff 1 _ d1;have f2:=ff 2 _ d2;have f3:=ff 3 _ d3;have f4:=ff 4 _ d4;have KF:=lH (show Kept w (WE.setCell ⟨w.heap.size+1,0,none⟩ (.int .i64 0)) from(hkp _ _ (Nat.le_refl _) (HK.out.trans KK.out)).setCell (p:=⟨w.heap.size+1,0,none⟩) (Nat.le_succ _) _);have NF:=lH ((HN.out.far (w':=WE.setCell ⟨w.heap.size+1,0,none⟩ (.int .i64 0)) (by simp[World.setCell,hsz]) (fun b hb=>(hb2 b (by omega)).trans (hbl b (by omega)))).less (B':=w.heap.size) (by omega));obtain⟨WF,hWF⟩:=eX (WE.setCell ⟨w.heap.size+1,0,none⟩ (.int .i64 0))
   rw[hWF] at fe f0 f1 f2 f3 f4 KF NF ⊢;clear hWE hWF ff hb2 ez P hbl hkp d0 d1 d2 d3 d4 y0 y1 y2 y3 y4 x0 x1 x2 x3 x4 z0 z1;refine leaves_cons (f:=68) (args:=#[.pointer (some ⟨w.heap.size+1,0,none⟩)]) (by simp) (by simp[go_sem]) ?_;refine(ZU ⟨w.heap.size+1,0,none⟩ _).mono ?_;rintro e u' w'' ⟨rfl,rfl,rfl⟩;simp[Leaves,settle,results,Tryz.results48,go_sem,fe,f0,f1,f2,f3,f4];exact⟨_,rfl,NF.out,KF.out⟩
 · obtain rfl:=h1 hx;obtain rfl:=HR.out hx;have KW:=lH (HK.out.trans KK.out);clear h0 h1 hb hZ Y;go_wp2_with fail
   refine leaves_cons (f:=68) (args:=#[.pointer (some ⟨w.heap.size+1,0,none⟩)]) (by simp) (by simp[go_sem]) ?_;refine(JH w.heap.size (w.heap.size+1) r1 0 _ z0 z1 (by omega)).mono ?_;rintro e u' w'' ⟨rfl,rfl,rfl,q2,q3⟩;have hb2:(w1.setCell ⟨w.heap.size+1,0,none⟩ (.int .i64 r1)).heap[w.heap.size]?=w1.heap[w.heap.size]?:=Below.heap_setCell w1 ⟨w.heap.size+1,0,none⟩ _ w.heap.size (by simp);have ff:∀j v,w1.cell? ⟨w.heap.size,j,none⟩=some v→(w1.setCell ⟨w.heap.size+1,0,none⟩ (.int .i64 r1)).cell? ⟨w.heap.size,j,none⟩=some v:=fun j v h=>(World.cell?_of_block (a:=⟨w.heap.size,j,none⟩) hb2).trans h;have f0:=ff 0 _ y0;have f1:=ff 1 _ y1;have f2:=ff 2 _ y2;have f3:=ff 3 _ y3;have f4:=ff 4 _ y4;have KF:=lH (show Kept w _ from Below.trans KW.out q3);obtain⟨WF,hWF⟩:=eX (w1.setCell ⟨w.heap.size+1,0,none⟩ (.int .i64 r1))
   rw[hWF] at q2 f0 f1 f2 f3 f4 KF ⊢;clear hWF ff hb2 q3 y0 y1 y2 y3 y4 x0 x1 x2 x3 x4 z0 z1;simp[Leaves,settle,results,Tryz.results48,go_sem,q2,f0,f1,f2,f3,f4];exact⟨_,rfl,Yc _ _,KF.out⟩
theorem Jz (s:List UInt8) (w:World) (hE:Vec.jR w) (hs:s.length≤900000) :
 Calls Tryz.prog 24 #[.string (bytes s)] w (XX (jc s) w):=by
 have hmf:=hmfL (P:=Tryz.prog);obtain⟨Z,hZ⟩:=eX ((w.alloc (.cells #[.string (bytes s)] 9)).alloc (.cells #[.string ⟨#[]⟩,.slice none 0 0,.slice none 0 0,.int .i64 0,.int .i64 0] 26))
 have hkz:Kept w Z:=by rw[←hZ];exact jA _ _ _
 have hzs:Z.heap.size=w.heap.size+2:=by rw[←hZ];simp
 have hzc:Z.cell? ⟨w.heap.size,0,none⟩=some (.string (bytes s)):=by
  rw[←hZ];exact cell_later (ja _ _) (by have hh:=w.alloc_heap_new (.cells #[.string (bytes s)] 9);rw[Lib.cell_of_heap hh];rfl)
 have HK:=lH hkz;have HZ:=lH (fun W (kk:Kept Z W)=>Yk (w.alloc (.cells #[.string (bytes s)] 9)) (.string ⟨#[]⟩) (.slice none 0 0) (.slice none 0 0) (.int .i64 0) (.int .i64 0) 26 W (by rw[hZ];exact kk));rw[World.size_alloc] at HZ;have HC:=lH (YD ⟨w.heap.size,0,none⟩ (jc s) Z Jv (fun W k=>XR ⟨w.heap.size,0,none⟩ s W (cell_later k hzc) (hE.kept (hkz.trans k)) hs));clear hE hs hzc;go_enter Tryz.func24,Tryz.ntmps24;go_wp2_with fail
 try rw[hZ]
 refine HC.out.mono ?_;rintro e w1 ⟨v,rfl,hn,k⟩;have KK:=lH k;have HN:=lH hn;obtain⟨⟨y0,y1,y2,y3,y4⟩,x0,x1,x2,x3,x4⟩:=HZ.out _ k;have Y:=lH (And.intro y0 (And.intro y1 (And.intro y2 (And.intro y3 y4))));obtain⟨a1,m1,c1,a2,m2,c2,rfl,-⟩:=hn;have P:=lH (J8 Y.out (jc s).2.what a1 a2 m1 c1 m2 c2 (jc s).2.lo (jc s).2.hi);obtain⟨x,hxx⟩:=eX ((jc s).2.what)
 obtain⟨lo,hlo⟩:=eX ((jc s).2.lo)
 obtain⟨cd,hcd⟩:=eX ((jc s).2.hi)
 obtain⟨r1,hr1⟩:=eX ((jc s).1)
 obtain⟨r2,hr2⟩:=eX ((jc s).2)
 rw[hxx,hlo,hcd] at P HN;rw[hxx,hlo,hcd,hr1];rw[hr2] at HN;have HR:=lH (show jc s=(r1,r2) by rw[←hr1,←hr2]);clear hxx hlo hcd hr1 hr2 k Y hZ;go_wp2;obtain⟨WE,hWE⟩:=eX ((((((w1.setCell ⟨w.heap.size+1,0,none⟩ (.string x)).setCell ⟨w.heap.size+1,1,none⟩ (.slice a1 m1 c1)).setCell ⟨w.heap.size+1,2,none⟩ (.slice a2 m2 c2)).setCell ⟨w.heap.size+1,3,none⟩ (.int .i64 lo)).setCell ⟨w.heap.size+1,4,none⟩ (.int .i64 cd)))
 rw[hWE] at P ⊢;clear hWE y0 y1 y2 y3 y4 x0 x1 x2 x3 x4;obtain⟨⟨d0,d1,d2,d3,d4⟩,hsz,hbl,hkp⟩:=P.out;refine bodyPost_ret (by simp[results,Tryz.results24,go_sem,d0,d1,d2,d3,d4];try rfl) rfl ?_;rw[HR.out];exact⟨_,rfl,(HN.out.far hsz (fun b hb=>hbl b (by omega))).less (by omega),hkp _ _ (Nat.le_succ _) (HK.out.trans KK.out)⟩
def Jm (lo hi:Int):List UInt8:=Lib.itoa lo++([47]++Lib.itoa hi)
def zx (r:Int×Int×Int):List UInt8:=Lib.itoa r.1++([58]++(Lib.itoa r.2.1++([58]++Lib.itoa r.2.2)))
def zg (n:Lad):List (List UInt8):=n.what.data.toList::Vec.jV n.unit::Jm n.lo n.hi::n.rungs.map zx
def qd (n:Lad):List UInt8:=Lib.join (zg n) [32]
theorem jaO:Kind 87 9 1 16:=by
 obtain⟨i,hi,hz,h1,h2⟩:=info_parts (show (Tryz.prog.info? 9).map (fun i=>(i.zero,i.size,i.bytes))=some (some (.string ByteArray.empty),1,16) by kernel_rfl);exact⟨i,_,Tryz.underlying87,hi,hz,h1,h2,rfl,by decide⟩
theorem XS (w:World) (B:Nat) (a b c:Value) (e:TypeId) (hB:B≤w.heap.size) (ha:a.oneCell'=true) (hb:b.oneCell'=true) (hc:c.oneCell'=true):(w.alloc (.cells #[a,b,c] e)).ownsRow B e 1 (.slice (some ⟨w.heap.size,0,none⟩) 3 3) 3 [a,b,c] :=
 ⟨by simp[ha,hb,hc],.inr ⟨w.heap.size,3,#[a,b,c],rfl,hB,World.alloc_heap_new w _,by omega,by decide,by simp,by simp⟩⟩
theorem Jl (n:Int) (w:World) (hE:Vec.jR w) (h0:-9223372036854775808≤n) (h1:n≤9223372036854775807) :
 Calls Tryz.prog 66 #[.int .i64 n] w fun e w'=>e=.returned (.string (bytes (Lib.itoa n)))∧Kept w w':=by
 refine(Tryz.strconv_Itoa n h0 h1 w hE.tab).mono ?_;rintro e w' ⟨rfl,k,os,rfl⟩;exact⟨rfl,Lib.below_grow _ _ (Nat.le_refl _) _ _⟩
theorem zh (a b:List UInt8):bytes a++bytes b=bytes (a++b):=by apply Go.WideShapes.bytes_inj;simp[bytes,ByteArray.data_append]
theorem ZT:∀(ts:List (List UInt8)) (B:Nat),(∀x ∈ ts,x.length≤B)→(Lib.join ts [32]).length≤ts.length*(B+1)
 | [],B,_=>by simp[Lib.join]
 | [x],B,h=>by
  have:=h x (by simp);rw[Lib.join_one];simp;omega
 | x::y::t,B,h=>by
  have h1:=h x (by simp);have ih:=ZT (y::t) B (fun z hz=>h z (by simp[hz]));have s:(Lib.join (x::y::t) [32])=x++[32]++Lib.join (y::t) [32]:=by simp[Lib.join,List.intercalate]
  rw[s,List.length_append,List.length_append];simp only[List.length_cons,List.length_nil] at ih ⊢;rw[Nat.add_mul (t.length+1) 1 (B+1),Nat.one_mul];omega
theorem Y4 (a b:Int) (w:World) (hE:Vec.jR w) (ha:I64 a) (hb:I64 b) :
 Calls Tryz.prog 43 #[.int .i64 a,.int .i64 b] w fun e w'=>e=.returned (.string (bytes (Jm a b)))∧Kept w w':=by
 have H1:=lH (fun W (k:Kept w W)=>Jl a W (hE.kept k) ha.1 ha.2);have H2:=lH (fun W (k:Kept w W)=>Jl b W (hE.kept k) hb.1 hb.2);have hz1:=Lib.itoa_length_le a ha.1 ha.2;have hz2:=Lib.itoa_length_le b hb.1 hb.2;have HV:=lH (show bytes (Lib.itoa a)++⟨#[47]⟩++bytes (Lib.itoa b)=bytes (Jm a b) by
  rw[show (⟨#[47]⟩:ByteArray)=bytes [47] from rfl,zh,zh];unfold Jm;rw[List.append_assoc])
 obtain⟨t1,ht1⟩:=eX (bytes (Lib.itoa a))
 obtain⟨t2,ht2⟩:=eX (bytes (Lib.itoa b))
 have hs1:t1.size≤100:=by rw[←ht1,je];omega
 have hs2:t2.size≤100:=by rw[←ht2,je];omega
 rw[ht1,ht2] at HV;rw[ht1] at H1;rw[ht2] at H2;clear ht1 ht2 hz1 hz2 hE;go_enter Tryz.func43,Tryz.ntmps43;go_wp2_with fail
 refine(H1.out _ (Kept.refl _)).mono ?_;rintro e w1 ⟨rfl,k1⟩;have K:=lH k1;clear k1;go_wp2_with fail
 refine(H2.out _ K.out).mono ?_;rintro e w2 ⟨rfl,k2⟩;have K:=lH (K.out.trans k2);clear k2;go_wp2;go_ret;exact⟨ZD HV.out,K.out⟩
theorem jak {w:World} {B g n cap:Nat} {e:TypeId} {xs:List ByteArray} (h:w.ownsRow B e 1 (.slice (some ⟨g,0,none⟩) n cap) n (xs.map Value.string)):n≤cap∧g<w.heap.size∧∀(j:Nat) x,xs[j]?=some x→w.cell? ⟨g,0+j,none⟩=some (.string x):=by
 refine⟨?_,(h.lt g rfl).2,qe h⟩;rcases h.2 with ⟨h0,_⟩ | ⟨g2,cap2,cur,h0,hb,hg,hr,_⟩
 · cases h0
 · cases h0;exact hr
theorem XC {α:Type} {l:List α} {k:Nat} {x:α} (h:l[k]?=some x):l.take (k+1)=l.take k++[x]:=by rw[List.take_add_one,h];rfl
theorem XZ {g n cap:Nat} {w:World} {xs:List ByteArray} (hc:∀(j:Nat) x,xs[j]?=some x→w.cell? ⟨g,0+j,none⟩=some (.string x)) (hg:g<w.heap.size) (hn:xs.length=n) (hcap:n≤cap) (hm:n≤1000000) (hl:(Lib.join (xs.map (·.data.toList)) [32]).length≤10000000) :
 Calls Tryz.prog 45 #[.slice (some ⟨g,0,none⟩) n cap] w fun e w'=>e=.returned (.string (bytes (Lib.join (xs.map (·.data.toList)) [32])))∧Kept w w':=by
 have hn2:xs.length≤140737488355328:=by omega
 have H:=lH (Tryz.strings_Join g 0 cap xs ⟨#[32]⟩ w hc hg hn2 (by omega) (Nat.le_trans hl (by decide)));rw[hn] at H;clear hc hl hn2;go_enter Tryz.func45,Tryz.ntmps45;go_wp2_with fail
 refine H.out.mono ?_;rintro e w1 ⟨rfl,k⟩;have K:=lH (show Kept w w1 from k);clear k;go_wp2;go_ret;exact⟨rfl,K.out⟩
theorem jah {n:Lad} {tu tl:ByteArray} {ws:List ByteArray} (h:n.what::tu::tl::n.rungs.map (fun r=>bytes (zx r))=ws) (h1:bytes (Vec.jV n.unit)=tu) (h2:bytes (Jm n.lo n.hi)=tl):ws.map (·.data.toList)=zg n:=by
 subst h;subst h1;subst h2;unfold zg;simp[bytes]
theorem jas {a b:Int} (ha:I64 a) (hb:I64 b):(Jm a b).length≤100:=by
 have h1:=Lib.itoa_length_le a ha.1 ha.2;have h2:=Lib.itoa_length_le b hb.1 hb.2;unfold Jm;simp only[List.length_append,List.length_cons,List.length_nil];omega
theorem qB {r:Int×Int×Int} (hu:I64 r.1) (hc:I64 r.2.1) (hp:I64 r.2.2):(zx r).length≤100:=by
 have h1:=Lib.itoa_length_le r.1 hu.1 hu.2;have h2:=Lib.itoa_length_le r.2.1 hc.1 hc.2;have h3:=Lib.itoa_length_le r.2.2 hp.1 hp.2;unfold zx;simp only[List.length_append,List.length_cons,List.length_nil];omega
theorem X8 {n:Lad} (h0:n.what.size≤1000) (h1:(Vec.jV n.unit).length≤2000) (h2:(Jm n.lo n.hi).length≤100) (h3:∀x ∈ n.rungs,jw.fine x):∀p ∈ zg n,p.length≤2000:=by
 intro p hp;unfold zg at hp;simp only[List.mem_cons,List.mem_map] at hp;rcases hp with rfl | rfl | rfl | ⟨r,hr,rfl⟩
 · rw[Array.length_toList,ByteArray.size_data];omega
 · exact h1
 · omega
 · have h:=h3 r hr;have:=qB h.1 h.2.1 h.2.2;omega
theorem Yv (u c p:Int) (w:World) (hE:Vec.jR w) (hu:I64 u) (hc:I64 c) (hp:I64 p) :
 Calls Tryz.prog 44 #[.agg #[.int .i64 u,.int .i64 c,.int .i64 p]] w fun e w'=>e=.returned (.string (bytes (zx (u,c,p))))∧Kept w w':=by
 obtain⟨W0,hW0⟩:=eX (w.alloc (.cells #[.int .i64 u,.int .i64 c,.int .i64 p] 46))
 have hk0:Kept w W0:=by rw[←hW0];exact ja _ _
 obtain⟨HC,H1,H2,H3⟩:=lH4 (show ∀W,Kept W0 W→W.cell? ⟨w.heap.size,0,none⟩=some (.int .i64 u)∧W.cell? ⟨w.heap.size,1,none⟩=some (.int .i64 c)∧W.cell? ⟨w.heap.size,2,none⟩=some (.int .i64 p) from fun W k=>(jo w (.int .i64 u) [.int .i64 c,.int .i64 p] 46 W (by rw[hW0];exact k)).at3) (fun W (k:Kept W0 W)=>Vec.zJ u W (hE.kept (hk0.trans k)) hu.1 hu.2) (fun W (k:Kept W0 W)=>Jl c W (hE.kept (hk0.trans k)) hc.1 hc.2) (fun W (k:Kept W0 W)=>Vec.zJ p W (hE.kept (hk0.trans k)) hp.1 hp.2);have hz1:=Lib.itoa_length_le u hu.1 hu.2;have hz2:=Lib.itoa_length_le c hc.1 hc.2;have hz3:=Lib.itoa_length_le p hp.1 hp.2;have HV:=lH (show bytes (Lib.itoa u)++⟨#[58]⟩++bytes (Lib.itoa c)++⟨#[58]⟩++bytes (Lib.itoa p)=bytes (zx (u,c,p)) by
  rw[show (⟨#[58]⟩:ByteArray)=bytes [58] from rfl,zh,zh,zh,zh];unfold zx;simp only[List.append_assoc])
 obtain⟨t1,ht1⟩:=eX (bytes (Lib.itoa u))
 have hs1:t1.size≤100:=by rw[←ht1,je];omega
 rw[ht1] at H1;obtain⟨t2,ht2⟩:=eX (bytes (Lib.itoa c))
 have hs2:t2.size≤100:=by rw[←ht2,je];omega
 rw[ht2] at H2;obtain⟨t3,ht3⟩:=eX (bytes (Lib.itoa p))
 have hs3:t3.size≤100:=by rw[←ht3,je];omega
 rw[ht3] at H3;rw[ht1,ht2,ht3] at HV;have hone:(⟨#[58]⟩:ByteArray).size=1:=rfl;have ad1:∀W,(Op.stringOp .add t1 (⟨#[58]⟩:ByteArray)).run Tryz.prog W=.ok (.string (t1++(⟨#[58]⟩:ByteArray))) W:=fun W=>run_string_add_sum W _ _ (by omega);have ad2:∀W,(Op.stringOp .add (t1++(⟨#[58]⟩:ByteArray)) t2).run Tryz.prog W=.ok (.string (t1++(⟨#[58]⟩:ByteArray)++t2)) W:=fun W=>run_string_add_sum W _ _ (by simp only[ByteArray.size_append];omega);have ad3:∀W,(Op.stringOp .add (t1++(⟨#[58]⟩:ByteArray)++t2) (⟨#[58]⟩:ByteArray)).run Tryz.prog W=.ok (.string (t1++(⟨#[58]⟩:ByteArray)++t2++(⟨#[58]⟩:ByteArray))) W:=fun W=>run_string_add_sum W _ _ (by simp only[ByteArray.size_append];omega);have ad4:∀W,(Op.stringOp .add (t1++(⟨#[58]⟩:ByteArray)++t2++(⟨#[58]⟩:ByteArray)) t3).run Tryz.prog W=.ok (.string (t1++(⟨#[58]⟩:ByteArray)++t2++(⟨#[58]⟩:ByteArray)++t3)) W:=fun W=>run_string_add_sum W _ _ (by simp only[ByteArray.size_append];omega);have V9:=lH hk0;clear ht1 ht2 ht3 hz1 hz2 hz3 hE hk0;go_enter Tryz.func44,Tryz.ntmps44;go_upto_region 1 with fail
 try rw[hW0]
 clear hW0;have J:=lH (Kept.drew W0);refine wp_region_held_drew (S:=fun W=>W.cell? ⟨w.heap.size,0,none⟩=some (.int .i64 u)∧W.cell? ⟨w.heap.size,1,none⟩=some (.int .i64 c)∧W.cell? ⟨w.heap.size,2,none⟩=some (.int .i64 p)) (by kernel_rfl) (HC.out _ J.out) (fun hHeld=>?_);obtain⟨wd,hwd⟩:=eX (W0.drew)
 rw[hwd] at J hHeld;try rw[hwd]
 clear hwd;refine tR 0 rfl (by kernel_rfl) (fun _ _ _=>id) (Or.inl ⟨by rfl,by rintro W ⟨o0,o1,o2⟩;go_simp<;>with_reducible rfl⟩) ‹_› ?_;try simp only[nA,nB,nC,nD,nE]
 refine tR 1 rfl (by kernel_rfl) (fun _ _ _=>id) (Or.inl ⟨by rfl,by rintro W ⟨o0,o1,o2⟩;go_simp<;>with_reducible rfl⟩) ‹_› ?_;try simp only[nA,nB,nC,nD,nE]
 refine tR 4 rfl (by kernel_rfl) (fun _ _ _=>id) (Or.inl ⟨by rfl,by rintro W ⟨o0,o1,o2⟩;go_simp<;>with_reducible rfl⟩) ‹_› ?_;try simp only[nA,nB,nC,nD,nE]
 refine tR 5 rfl (by kernel_rfl) (fun _ _ _=>id) (Or.inl ⟨by rfl,by rintro W ⟨o0,o1,o2⟩;go_simp<;>with_reducible rfl⟩) ‹_› ?_;try simp only[nA,nB,nC,nD,nE]
 refine tR 9 rfl (by kernel_rfl) (fun _ _ _=>id) (Or.inl ⟨by rfl,by rintro W ⟨o0,o1,o2⟩;go_simp<;>with_reducible rfl⟩) ‹_› ?_;try simp only[nA,nB,nC,nD,nE]
 refine tR 10 rfl (by kernel_rfl) (fun _ _ _=>id) (Or.inl ⟨by rfl,by rintro W ⟨o0,o1,o2⟩;go_simp<;>with_reducible rfl⟩) ‹_› ?_;try simp only[nA,nB,nC,nD,nE]
 refine rd1 2 fun K9 Ky=>?_;go_simp;refine(H1.out _ J.out).mono ?_;rintro e w1 ⟨rfl,kk⟩;have J:=lH (J.out.trans kk);clear kk;refine Ky.out _ _ (HC.out _ J.out) (fun _=>?_);clear Ky K9;try simp only[nA,nB,nC,nD,nE]
 refine tR 3 rfl (by kernel_rfl) (fun _ _ _=>id) (Or.inl ⟨by rfl,by rintro W ⟨o0,o1,o2⟩;go_simp<;>with_reducible rfl⟩) ‹_› ?_;try simp only[nA,nB,nC,nD,nE]
 refine rd1 6 fun K9 Ky=>?_;go_simp;refine(H2.out _ J.out).mono ?_;rintro e w2 ⟨rfl,kk⟩;have J:=lH (J.out.trans kk);clear kk;refine Ky.out _ _ (HC.out _ J.out) (fun _=>?_);clear Ky K9;try simp only[nA,nB,nC,nD,nE]
 refine tR 7 rfl (by kernel_rfl) (fun _ _ _=>id) (Or.inl ⟨by rfl,by rintro W ⟨o0,o1,o2⟩;go_simp<;>with_reducible rfl⟩) ‹_› ?_;try simp only[nA,nB,nC,nD,nE]
 refine tR 8 rfl (by kernel_rfl) (fun _ _ _=>id) (Or.inl ⟨by rfl,by rintro W ⟨o0,o1,o2⟩;go_simp<;>with_reducible rfl⟩) ‹_› ?_;try simp only[nA,nB,nC,nD,nE]
 refine rd1 11 fun K9 Ky=>?_;go_simp;refine(H3.out _ J.out).mono ?_;rintro e w3 ⟨rfl,kk⟩;have J:=lH (J.out.trans kk);clear kk;refine Ky.out _ _ (HC.out _ J.out) (fun _=>?_);clear Ky K9;try simp only[nA,nB,nC,nD,nE]
 refine tR 12 rfl (by kernel_rfl) (fun _ _ _=>id) (Or.inl ⟨by rfl,by rintro W ⟨o0,o1,o2⟩;go_simp<;>with_reducible rfl⟩) ‹_› ?_;try simp only[nA,nB,nC,nD,nE]
 refine tR 13 rfl (by kernel_rfl) (fun _ _ _=>id) (Or.inl ⟨by rfl,by rintro W ⟨o0,o1,o2⟩;go_simp<;>with_reducible rfl⟩) ‹_› ?_;try simp only[nA,nB,nC,nD,nE]
 refine wpAnyH_done (by kernel_rfl) ?_ _;go_wp2;go_ret;exact⟨ZD HV.out,V9.out.trans J.out⟩
theorem XH (n:Lad) (v1:Value) (a2:Option Addr) (l2 c2:Nat) (w:World) (hE:Vec.jR w) (h:jS w v1 (.slice a2 l2 c2) n) (hw:n.what.size≤1000) (hf:Vec.ZC n.unit=true) (hn:n.rungs.length≤1000) :
 Calls Tryz.prog 22 #[.agg #[.string n.what,v1,.slice a2 l2 c2,.int .i64 n.lo,.int .i64 n.hi]] w (Say (.string (bytes (qd n))) w):=by
 obtain⟨W0,hW0⟩:=eX (w.alloc (.cells #[.string n.what,v1,.slice a2 l2 c2,.int .i64 n.lo,.int .i64 n.hi] 26))
 have hk0:Kept w W0:=by rw[←hW0];exact ja _ _
 have HL:=lH (jo w (.string n.what) [v1,.slice a2 l2 c2,.int .i64 n.lo,.int .i64 n.hi] 26 W0 (by rw[hW0];exact Kept.refl _));obtain⟨lb,hlb⟩:=eX (w.heap.size)
 rw[hlb] at HL;obtain⟨H1,H2,HE,HK,V9⟩:=lH5 (fun W (k:Kept W0 W)=>Vec.Z4 (hE.kept (hk0.trans k)) (h.unit.kept (hk0.trans k)) hf rfl) (fun W (k:Kept W0 W)=>Y4 n.lo n.hi W (hE.kept (hk0.trans k)) h.lo h.hi) hE hk0 hk0;obtain⟨a9,c9,e9,q1,q2,hrow⟩:=h.rungs;obtain⟨rfl,rfl,rfl⟩:a2=a9∧l2=n.rungs.length∧c2=c9:=by cases e9;exact⟨rfl,rfl,rfl⟩
 obtain⟨HR,Vq,TJ,TK,TL⟩:=lH5 hrow h.size hw (XU hf (by obtain⟨_,_,-,-,-,q⟩:=h.unit;exact q.2.2.1)) (jas h.lo h.hi);clear h e9 q1 q2 hrow hf hk0 hE;obtain⟨len,hlen⟩:=eX (n.rungs.length)
 have Vv:=lH hlen;rw[hlen] at HL HR hn hW0 ⊢;clear hlen;obtain⟨tu,htu⟩:=eX (bytes (Vec.jV n.unit))
 obtain⟨tl,htl⟩:=eX (bytes (Jm n.lo n.hi))
 rw[htu] at H1;rw[htl] at H2;have TM:=lH htu;have UO:=lH htl;clear htu htl;have HS:=lH (show ∀W,Kept W0 W→W.cell? ⟨lb,0,none⟩=some (.string n.what)∧W.cell? ⟨lb,1,none⟩=some (v1)∧W.cell? ⟨lb,2,none⟩=some (.slice a2 len c2)∧W.cell? ⟨lb,3,none⟩=some (.int .i64 n.lo)∧W.cell? ⟨lb,4,none⟩=some (.int .i64 n.hi) from fun W k=>(HL.out.kept k).at5);go_enter Tryz.func22,Tryz.ntmps22;go_upto_region 1 with fail
 try rw[hW0]
 try rw[hlb]
 clear hW0
 go_region_held3 (fun W=>W.cell? ⟨lb,0,none⟩=some (.string n.what)∧W.cell? ⟨lb,1,none⟩=some (v1)∧W.cell? ⟨lb,2,none⟩=some (.slice a2 len c2)∧W.cell? ⟨lb,3,none⟩=some (.int .i64 n.lo)∧W.cell? ⟨lb,4,none⟩=some (.int .i64 n.hi))
  (first | exact HS.out _ (Kept.drew _) | exact HS.out _ K1.out | exact HS.out _ K2.out | exact HS.out _ (K2.out.trans (ja _ _)))
  (first | (go_at_call 31;refine(H1.out _ (Kept.drew _)).mono ?_;rintro e1 w1 ⟨rfl,k1⟩;have K1:=lH ((Kept.drew _).trans k1);clear k1)
         | (go_at_call 43;refine(H2.out _ K1.out).mono ?_;rintro e2 w2 ⟨rfl,k2⟩;have K2:=lH (K1.out.trans k2);clear k2))
 obtain⟨HK,UP,VP⟩:=lH3 (HK.out.trans (K2.out.trans (ja w2 (.cells #[.string n.what,.string tu,.string tl] 9)))) (XS w2 w2.heap.size (.string n.what) (.string tu) (.string tl) 9 (Nat.le_refl _) rfl rfl rfl) (HS.out _ (K2.out.trans (ja w2 (.cells #[.string n.what,.string tu,.string tl] 9))));obtain⟨w3,hw3⟩:=eX (w2.alloc (.cells #[.string n.what,.string tu,.string tl] 9))
 have TN:=lH (show Kept w2 w3 by rw[←hw3];exact ja _ _);have UQ:=lH (show w.heap.size≤w2.heap.size from(V9.out.trans K2.out).size);have VX:=lH (show w2.heap.size≤w3.heap.size from TN.out.size);rw[hw3] at HK UP VP ⊢;obtain⟨B,hB⟩:=eX (w2.heap.size)
 have TX:=lH hB;rw[hB] at UP UQ VX ⊢;obtain⟨y0,y1,y2,y3,y4⟩:=VP.out;clear hw3 hB hlb;obtain⟨ws,hws⟩:∃ws:List ByteArray,n.what::tu::tl::n.rungs.map (fun r=>bytes (zx r))=ws:=⟨_,rfl⟩
 have Te:=lH (show ws.length=3+len by rw[←hws];simp only[List.length_cons,List.length_map];have:=Vv.out;omega);have TO:=lH (show ws.take 3=[n.what,tu,tl] by rw[←hws];rfl);have TP:=lH (show ∀k r,n.rungs[k]?=some r→ws[3+k]?=some (bytes (zx r)) from fun k r h=>by
  rw[←hws,show 3+k=k+1+1+1 by omega,List.getElem?_cons_succ,List.getElem?_cons_succ,List.getElem?_cons_succ,List.getElem?_map,h];rfl)
 have UR:=lH hws;clear hws;go_wp2;go_loopw [3,20] (fun sv iv wr=>∃(k g cap:Nat),k≤len∧iv=.int .i64 k∧sv=.slice (some ⟨g,0,none⟩) (3+k) cap∧wr.ownsRow B 9 1 (.slice (some ⟨g,0,none⟩) (3+k) cap) (3+k) ((ws.take (3+k)).map Value.string)∧Below B w3 wr) (fun _ iv _=>len-(intOf iv).toNat)
 case atStart=>exact⟨0,B,3,Nat.zero_le _,rfl,rfl,by rw[Nat.add_zero,TO.out];exact UP.out,Below.refl _ _⟩
 case round =>
  obtain⟨k,g,cap,hk,rfl,rfl,hown,hK⟩:=hrel;have Tf:=lH hown;have Vi:=lH hK;clear hown hK y0 y1 y2 y3 y4;by_cases hlt:k<len
  · skip;skip;obtain⟨b,off,rfl⟩:=HR.out.form.resolve_left (by omega);have Ur:=lH (show Kept w wr from Below.trans HK.out (Below.mono Vi.out UQ.out));obtain⟨u,c,p,hn2,hd,hb,hfine,p0,p1,p2⟩:=(HR.out.kept Ur.out).rung hlt;have hkk:(k:Int)<(len:Int):=by omega
    have HX:=lH (TP.out k _ hn2);obtain⟨w4,hw4⟩:=eX (wr.alloc (.cells #[.int .i64 u,.int .i64 c,.int .i64 p] 46))
    have k4:Kept wr w4:=by rw[←hw4];exact ja _ _
    obtain⟨r0,r1,r2⟩:=(jo wr (.int .i64 u) [.int .i64 c,.int .i64 p] 46 w4 (by rw[hw4];exact Kept.refl _)).at3;obtain⟨rb,hrb⟩:=eX (wr.heap.size)
    rw[hrb] at r0 r1 r2;have HT:=lH (fun W (k:Kept w W)=>Yv u c p W (HE.out.kept k) hfine.1 hfine.2.1 hfine.2.2);obtain⟨t,ht⟩:=eX (bytes (zx (u,c,p)))
    rw[ht] at HT HX;have Um:=lH k4;clear hn2 hd hfine ht k4 hb;go_wp2_with fail
    try rw[hw4]
    try rw[hrb]
    clear hw4 hrb;refine(HT.out _ (Ur.out.trans Um.out)).mono ?_;rintro e w5 ⟨rfl,k5⟩;have Ud:=lH (Um.out.trans k5);clear k5 r0 r1 r2 p0 p1 p2 HT;have hb1:3+k+1≤maxLen:=by unfold maxLen;omega
    have hb2:((3+k+1)+(3+k+1) / 4+192)*16≤281474976710656:=by omega
    have hBs:B≤(w5.alloc (.cells #[.string t] 9)).heap.size:=by have:=Ud.out.size;have:=Vi.out.size;have:=VX.out;simp;omega
    go_wp2_with (at_builtin;refine Je jaO _ rfl (.tmp 24) (.tmp 27) rfl B hBs g (3+k) cap _ rfl (qb (Ye Tf.out Ud.out) _) _ 1 [.string t] rfl rfl (fun u hu=>by obtain rfl:=List.mem_singleton.1 hu;rfl) (jan rfl (World.alloc_heap_new w5 _)) hb1 hb2 ?_;intro g1 k1 W1 ho hd hg;have TQ:=lH ho;have Uf:=lH hd;clear ho hd hg;refine Hid.out ?_)
    refine lH ?_;go_wp2;go_roundw
    case rel=>exact⟨k+1,g1,k1,by omega,by go_num,rfl,by rw[show 3+(k+1)=3+k+1 by omega,XC HX.out,List.map_append];exact TQ.out,Below.trans Vi.out (Below.trans (Below.mono (Ud.out.trans (ja w5 _)) (by have:=Vi.out.size;have:=VX.out;omega)) Uf.out)⟩
    case measure=>simp[intOf];omega
  · skip;have hkk:¬(k:Int)<(len:Int):=by omega
    obtain rfl:k=len:=by omega
    have hfull:=Tf.out;rw[List.take_of_length_le (by rw[Te.out];exact Nat.le_refl _)] at hfull;obtain⟨hc1,hp1,hcells⟩:=jak hfull;have Tg:=lH (jah UR.out TM.out UO.out);have HJ:=lH (XZ hcells hp1 Te.out hc1 (by omega) (by
     rw[Tg.out];refine Nat.le_trans (ZT (zg n) 2000 (X8 TJ.out TK.out TL.out (by obtain⟨_,_,q,_⟩:=HR.out;exact q))) ?_;have:(zg n).length=3+k:=by unfold zg;simp only[List.length_cons,List.length_map];have:=Vv.out;omega
     rw[this];have h2:(3+k)*(2000+1)≤1003*2001:=Nat.mul_le_mul (by omega) (by omega);omega))
    rw[Tg.out] at HJ;have Ur:=lH (show Kept w wr from Below.trans HK.out (Below.mono Vi.out UQ.out));clear hfull hc1 hp1 hcells;go_wp2_with fail
    refine HJ.out.mono ?_;rintro e w5 ⟨rfl,k5⟩;have Ud:=lH k5;clear k5;go_wp2;go_ret;exact⟨ZD rfl,Ur.out.trans Ud.out⟩
def lk1:List UInt8:=[99,112,117,32,99,112,117,61,49,48,44,109,101,109,61,52,32,49,47,51,32,49,48,48,58,50,58,53,48,48,32,50,48,48,58,57,58,49,48,48,48]
def lk2:List UInt8:=[99,112,117,32,45,32,49,32,49,58,49,58,49]
def lk3:List UInt8:=[99,112,117,32,45,32,51,47,49]
def lk4:List UInt8:=[99,112,117,32,45,32,48,47,49,32,53,58,49,58,49,32,53,58,49,58,49]
def kLd:Lad:=⟨Vec.cpu,[(Vec.cpu,10),(Vec.mem,4)],[(100,2,500),(200,9,1000)],1,3⟩
def kLe:Lad:=⟨Vec.cpu,[],[],0,0⟩
def kLf:Lad:=⟨Vec.cpu,[(Vec.cpu,1)],[],2,3⟩
theorem jaT:jO kLd=0:=by kernel_rfl
theorem jbd:jc lk1=(0,kLd):=by kernel_rfl
theorem ja2:(jc lk2).1=2:=by kernel_rfl
theorem ja7:(jc lk3).1=1:=by kernel_rfl
theorem jbf:(jc lk4).1=13:=by kernel_rfl
theorem jbe:j3 kLd [(Vec.cpu,100)]=(2,[(Vec.cpu,5),(Vec.mem,2)],0):=by kernel_rfl
theorem jbb:j3 kLd [(Vec.cpu,999)]=(3,[(Vec.cpu,10),(Vec.mem,4)],0):=by kernel_rfl
theorem jbc:j3 kLf []=(2,[(Vec.cpu,1)],0):=by kernel_rfl
theorem ja5:atL kLd []=some (100,2,500):=by kernel_rfl
theorem ja8:atL kLe []=none:=by kernel_rfl
theorem ja3:Vec.jV [(Vec.cpu,5),(Vec.mem,2)]=[99,112,117,61,53,44,109,101,109,61,50]:=by kernel_rfl
theorem ja0:Vec.jV [(Vec.cpu,10),(Vec.mem,4)]=[99,112,117,61,49,48,44,109,101,109,61,52]:=by kernel_rfl
theorem ja6:Vec.jV [(Vec.cpu,1)]=[99,112,117,61,49]:=by kernel_rfl
theorem ja9:qd kLd=lk1:=by kernel_rfl
theorem Jh (w:World) (s:ByteArray) (m:Int) (T:TypeId) (hs:s.size≤maxLen) (hm:-9223372036854775808≤m∧m≤9223372036854775807) :
 Vec.Reads (w.alloc (.cells #[.string s,.int .i64 m] T)) (.slice (some ⟨w.heap.size,0,none⟩) 1 1) [(s,m)]:=by
 refine⟨_,1,rfl,Nat.le_refl _,by decide,rfl,(by decide:1≤maxLen),Vec.jQ.cons.2 ⟨⟨hs,hm⟩,Vec.jQ.nil⟩,.inr ⟨w.heap.size,0,rfl,by simp,fun i hi=>?_⟩⟩;have hh:=w.alloc_heap_new (.cells #[.string s,.int .i64 m] T)
 match i,hi with
 | 0,_=>exact⟨by rw[Lib.cell_of_heap hh];rfl,by rw[Lib.cell_of_heap hh];rfl⟩
theorem qj (w:World) (hE:Vec.jR w):Calls Tryz.prog 24 #[.string ⟨#[99,112,117,32,99,112,117,61,49,48,44,109,101,109,61,52,32,49,47,51,32,49,48,48,58,50,58,53,48,48,32,50,48,48,58,57,58,49,48,48,48]⟩] w fun e w'=>∃a1 m1 c1 a2 m2 c2,e=.returned (.tuple #[.agg #[.string ⟨#[99,112,117]⟩,.slice a1 m1 c1,.slice a2 m2 c2,.int .i64 1,.int .i64 3],.int .i64 0])∧jS w' (.slice a1 m1 c1) (.slice a2 m2 c2) kLd∧Kept w w':=by
 refine(Jz lk1 w hE (by decide)).mono ?_;rintro e w' ⟨v,he,hn,k⟩;rw[jbd] at he hn;obtain⟨a1,m1,c1,a2,m2,c2,rfl,hat,-⟩:=hn;exact⟨a1,m1,c1,a2,m2,c2,he,hat,k⟩
theorem JF (s:List UInt8) (c:Int) (w:World) (hE:Vec.jR w) (hs:s.length≤900000) (h:(jc s).1=c) (hc:c≠0):Calls Tryz.prog 24 #[.string (bytes s)] w fun e w'=>∃a1 m1 c1 a2 m2 c2,e=.returned (.tuple #[.agg #[.string ⟨#[]⟩,.slice a1 m1 c1,.slice a2 m2 c2,.int .i64 0,.int .i64 0],.int .i64 c])∧Kept w w':=by
 refine(Jz s w hE hs).mono ?_;rintro e w' ⟨v,he,hn,k⟩;rw[Jv (by rw[h];exact hc)] at hn;rw[h] at he;obtain⟨a1,m1,c1,a2,m2,c2,rfl,hat,-⟩:=hn;exact⟨a1,m1,c1,a2,m2,c2,he,k⟩
theorem jaE (w:World):jS w (.slice none 0 0) (.slice none 0 0) kLe:=⟨by decide,Vec.Reads.nil _,Reads.nil _,by unfold I64 kLe;decide,by unfold I64 kLe;decide⟩
theorem jaL (w:World) (T:TypeId):jS (w.alloc (.cells #[.string Vec.cpu,.int .i64 1] T)) (.slice (some ⟨w.heap.size,0,none⟩) 1 1) (.slice none 0 0) kLf:=⟨by decide,Jh w _ _ T (by decide) (by decide),Reads.nil _,by unfold I64 kLf;decide,by unfold I64 kLf;decide⟩
theorem jay {v:Value} (w:World) (hE:Vec.jR w) (h:Vec.Reads w v [(Vec.cpu,5),(Vec.mem,2)]):Calls Tryz.prog 31 #[v] w fun e w'=>e=.returned (.string ⟨#[99,112,117,61,53,44,109,101,109,61,50]⟩)∧Kept w w':=Vec.Z4 hE h (by kernel_rfl) ja3
theorem jaq {v:Value} (w:World) (hE:Vec.jR w) (h:Vec.Reads w v [(Vec.cpu,10),(Vec.mem,4)]):Calls Tryz.prog 31 #[v] w fun e w'=>e=.returned (.string ⟨#[99,112,117,61,49,48,44,109,101,109,61,52]⟩)∧Kept w w':=Vec.Z4 hE h (by kernel_rfl) ja0
theorem jax {v:Value} (w:World) (hE:Vec.jR w) (h:Vec.Reads w v [(Vec.cpu,1)]):Calls Tryz.prog 31 #[v] w fun e w'=>e=.returned (.string ⟨#[99,112,117,61,49]⟩)∧Kept w w':=Vec.Z4 hE h (by kernel_rfl) ja6
theorem qL (a1 a2:Option Addr) (m1 c1 m2 c2:Nat) (w:World) (hE:Vec.jR w) (h:jS w (.slice a1 m1 c1) (.slice a2 m2 c2) kLd):Calls Tryz.prog 22 #[.agg #[.string ⟨#[99,112,117]⟩,.slice a1 m1 c1,.slice a2 m2 c2,.int .i64 1,.int .i64 3]] w fun e w'=>e=.returned (.string ⟨#[99,112,117,32,99,112,117,61,49,48,44,109,101,109,61,52,32,49,47,51,32,49,48,48,58,50,58,53,48,48,32,50,48,48,58,57,58,49,48,48,48]⟩)∧Kept w w':=by
 have:=XH kLd (.slice a1 m1 c1) a2 m2 c2 w hE h (by decide) (by kernel_rfl) (by decide);rw[ja9] at this;exact this
theorem YJ (w:World) (hE:Vec.jR w):Calls Tryz.prog 9 #[] w (Say (.bool true) w):=by
 have HE:=lH hE;clear hE;go_enter Tryz.func9,Tryz.ntmps9;go_wp2_with fail
 refine(qj _ HE.out).mono ?_;rintro e w1 ⟨a1,m1,c1,a2,m2,c2,rfl,hat,kk⟩;have Va:=lH hat;have K:=lH kk;clear hat kk;obtain⟨v2,hv2⟩:=eX (w1.alloc (.cells #[.string ⟨#[99,112,117]⟩,.slice a1 m1 c1,.slice a2 m2 c2,.int .i64 1,.int .i64 3] 26))
 have kk:Kept w1 v2:=by rw[←hv2];exact ja _ _
 have Hkb:=lH (jo w1 (.string ⟨#[99,112,117]⟩) [.slice a1 m1 c1,.slice a2 m2 c2,.int .i64 1,.int .i64 3] 26 v2 (by rw[hv2];exact Kept.refl _));obtain⟨kb,hkb⟩:=eX (w1.heap.size)
 rw[hkb] at Hkb;have Va:=lH (Va.out.kept kk);have K:=lH (K.out.trans kk);clear kk;have Ev2:=lH hv2;clear hv2;have Ekb:=lH hkb;clear hkb;go_wp2_with fail
 try rw[Ev2.out]
 clear Ev2;try rw[Ekb.out]
 clear Ekb;refine(JF lk2 2 _ (HE.out.kept K.out) (by decide) ja2 (by decide)).mono ?_;rintro e w2 ⟨x1,x2,x3,x4,x5,x6,rfl,kk⟩;obtain⟨Va,Hkb,K⟩:=lH3 (Va.out.kept kk) (Hkb.out.kept kk) (K.out.trans kk);clear kk;obtain⟨v3,hv3⟩:=eX (w2.alloc (.cells #[.string ⟨#[]⟩,.slice x1 x2 x3,.slice x4 x5 x6,.int .i64 0,.int .i64 0] 26))
 have kk:Kept w2 v3:=by rw[←hv3];exact ja _ _
 obtain⟨Va,Hkb,K⟩:=lH3 (Va.out.kept kk) (Hkb.out.kept kk) (K.out.trans kk);clear kk;have Ev3:=lH hv3;clear hv3;go_wp2_with fail
 try rw[Ev3.out]
 clear Ev3;refine(JF lk3 1 _ (HE.out.kept K.out) (by decide) ja7 (by decide)).mono ?_;rintro e w3 ⟨x1,x2,x3,x4,x5,x6,rfl,kk⟩;obtain⟨Va,Hkb,K⟩:=lH3 (Va.out.kept kk) (Hkb.out.kept kk) (K.out.trans kk);clear kk;obtain⟨v4,hv4⟩:=eX (w3.alloc (.cells #[.string ⟨#[]⟩,.slice x1 x2 x3,.slice x4 x5 x6,.int .i64 0,.int .i64 0] 26))
 have kk:Kept w3 v4:=by rw[←hv4];exact ja _ _
 obtain⟨Va,Hkb,K⟩:=lH3 (Va.out.kept kk) (Hkb.out.kept kk) (K.out.trans kk);clear kk;have Ev4:=lH hv4;clear hv4;go_wp2_with fail
 try rw[Ev4.out]
 clear Ev4;refine(JF lk4 13 _ (HE.out.kept K.out) (by decide) jbf (by decide)).mono ?_;rintro e w4 ⟨x1,x2,x3,x4,x5,x6,rfl,kk⟩;obtain⟨Va,Hkb,K⟩:=lH3 (Va.out.kept kk) (Hkb.out.kept kk) (K.out.trans kk);clear kk;obtain⟨v5,hv5⟩:=eX (w4.alloc (.cells #[.string ⟨#[]⟩,.slice x1 x2 x3,.slice x4 x5 x6,.int .i64 0,.int .i64 0] 26))
 have kk:Kept w4 v5:=by rw[←hv5];exact ja _ _
 obtain⟨Va,Hkb,K⟩:=lH3 (Va.out.kept kk) (Hkb.out.kept kk) (K.out.trans kk);clear kk;have Ev5:=lH hv5;clear hv5;obtain⟨y0,y1,y2,y3,y4⟩:=Hkb.out.at5;go_upto_region 5 with fail
 try rw[Ev5.out]
 clear Ev5;go_wp2_with fail
 refine(Z6 (n:=kLd) (t:=[(Vec.cpu,100)]) ⟨_,_,rfl,Va.out.kept (ja _ _)⟩ (Jh _ _ _ _ (by decide) (by decide)) jbe).mono ?_;rintro e w5 ⟨r1,rfl,hr,kk⟩;have kk:=(ja v5 _).trans kk;obtain⟨Va,Hkb,K,Ve⟩:=lH4 (Va.out.kept kk) (Hkb.out.kept kk) (K.out.trans kk) hr;clear hr kk y0 y1 y2 y3 y4;obtain⟨y0,y1,y2,y3,y4⟩:=Hkb.out.at5;go_wp2_with fail
 refine(Z6 (n:=kLd) (t:=[(Vec.cpu,999)]) ⟨_,_,rfl,Va.out.kept (ja _ _)⟩ (Jh _ _ _ _ (by decide) (by decide)) jbb).mono ?_;rintro e w6 ⟨r2,rfl,hr,kk⟩;have kk:=(ja w5 _).trans kk;obtain⟨Va,Hkb,Ve,K,Vh⟩:=lH5 (Va.out.kept kk) (Hkb.out.kept kk) (Ve.out.kept kk) (K.out.trans kk) hr;clear hr kk y0 y1 y2 y3 y4;obtain⟨y0,y1,y2,y3,y4⟩:=Hkb.out.at5;go_wp2_with fail
 refine(jaJ (n:=kLd) (t:=[]) ⟨_,_,rfl,Va.out⟩ (Vec.Reads.nil _) ja5).mono ?_;rintro e w7 ⟨rfl,kk⟩;obtain⟨Va,Hkb,Ve,Vh,K⟩:=lH5 (Va.out.kept kk) (Hkb.out.kept kk) (Ve.out.kept kk) (Vh.out.kept kk) (K.out.trans kk);clear kk y0 y1 y2 y3 y4;obtain⟨v6,hv6⟩:=eX (w7.alloc (.cells #[.int .i64 100,.int .i64 2,.int .i64 500] 46))
 have kk:Kept w7 v6:=by rw[←hv6];exact ja _ _
 have Hrb:=lH (jo w7 (.int .i64 100) [.int .i64 2,.int .i64 500] 46 v6 (by rw[hv6];exact Kept.refl _));obtain⟨rb,hrb⟩:=eX (w7.heap.size)
 rw[hrb] at Hrb;obtain⟨Va,Hkb,Ve,Vh,K⟩:=lH5 (Va.out.kept kk) (Hkb.out.kept kk) (Ve.out.kept kk) (Vh.out.kept kk) (K.out.trans kk);clear kk;have Ev6:=lH hv6;clear hv6;have Erb:=lH hrb;clear hrb;go_upto_region 8 with fail
 try rw[Ev6.out]
 clear Ev6;try rw[Erb.out]
 clear Erb;go_wp2_with fail
 refine(jaJ (n:=kLe) (t:=[]) ⟨_,_,rfl,jaE _⟩ (Vec.Reads.nil _) ja8).mono ?_;rintro e w8 ⟨rfl,kk⟩;obtain⟨Va,Hkb,Ve,Vh,Hrb,K⟩:=lH6 (Va.out.kept kk) (Hkb.out.kept kk) (Ve.out.kept kk) (Vh.out.kept kk) (Hrb.out.kept kk) (K.out.trans kk);clear kk;obtain⟨v7,hv7⟩:=eX (w8.alloc (.cells #[.int .i64 0,.int .i64 0,.int .i64 0] 46))
 have kk:Kept w8 v7:=by rw[←hv7];exact ja _ _
 obtain⟨Va,Hkb,Ve,Vh,Hrb,K⟩:=lH6 (Va.out.kept kk) (Hkb.out.kept kk) (Ve.out.kept kk) (Vh.out.kept kk) (Hrb.out.kept kk) (K.out.trans kk);clear kk;have Ev7:=lH hv7;clear hv7;go_upto_region 9 with fail
 try rw[Ev7.out]
 clear Ev7;go_wp2_with fail
 refine(Z6 (n:=kLf) (t:=[]) ⟨_,_,rfl,jaL v7 _⟩ (Vec.Reads.nil _) jbc).mono ?_;rintro e w9 ⟨r3,rfl,hr,kk⟩;have kk:=(ja v7 _).trans kk;obtain⟨Va,Hkb,Ve,Vh,Hrb,K,VD⟩:=lH7 (Va.out.kept kk) (Hkb.out.kept kk) (Ve.out.kept kk) (Vh.out.kept kk) (Hrb.out.kept kk) (K.out.trans kk) hr;clear hr kk;obtain⟨y0,y1,y2,y3,y4⟩:=Hkb.out.at5;obtain⟨q0,q1,q2⟩:=Hrb.out.at3;go_wp2_with fail
 refine(jay _ (HE.out.kept K.out) Ve.out).mono ?_;rintro e t1 ⟨rfl,kk⟩;obtain⟨Va,Hkb,Ve,Vh,Hrb,VD,K⟩:=lH7 (Va.out.kept kk) (Hkb.out.kept kk) (Ve.out.kept kk) (Vh.out.kept kk) (Hrb.out.kept kk) (VD.out.kept kk) (K.out.trans kk);clear kk y0 y1 y2 y3 y4 q0 q1 q2;obtain⟨y0,y1,y2,y3,y4⟩:=Hkb.out.at5;obtain⟨q0,q1,q2⟩:=Hrb.out.at3;go_wp2_with fail
 refine(jaq _ (HE.out.kept K.out) Vh.out).mono ?_;rintro e t2 ⟨rfl,kk⟩;obtain⟨Va,Hkb,Ve,Vh,Hrb,VD,K⟩:=lH7 (Va.out.kept kk) (Hkb.out.kept kk) (Ve.out.kept kk) (Vh.out.kept kk) (Hrb.out.kept kk) (VD.out.kept kk) (K.out.trans kk);clear kk y0 y1 y2 y3 y4 q0 q1 q2;obtain⟨y0,y1,y2,y3,y4⟩:=Hkb.out.at5;obtain⟨q0,q1,q2⟩:=Hrb.out.at3;go_wp2_with fail
 refine(jax _ (HE.out.kept K.out) VD.out).mono ?_;rintro e t3 ⟨rfl,kk⟩;obtain⟨Va,Hkb,Ve,Vh,Hrb,VD,K⟩:=lH7 (Va.out.kept kk) (Hkb.out.kept kk) (Ve.out.kept kk) (Vh.out.kept kk) (Hrb.out.kept kk) (VD.out.kept kk) (K.out.trans kk);clear kk y0 y1 y2 y3 y4 q0 q1 q2;obtain⟨y0,y1,y2,y3,y4⟩:=Hkb.out.at5;obtain⟨q0,q1,q2⟩:=Hrb.out.at3;go_wp2_with fail
 refine(qL _ _ _ _ _ _ _ (HE.out.kept K.out) Va.out).mono ?_;rintro e t4 ⟨rfl,kk⟩;obtain⟨Va,Hkb,Ve,Vh,Hrb,VD,K⟩:=lH7 (Va.out.kept kk) (Hkb.out.kept kk) (Ve.out.kept kk) (Vh.out.kept kk) (Hrb.out.kept kk) (VD.out.kept kk) (K.out.trans kk);clear kk y0 y1 y2 y3 y4 q0 q1 q2;obtain⟨y0,y1,y2,y3,y4⟩:=Hkb.out.at5;go_wp2_with fail
 refine(jab (n:=kLd) ⟨_,_,rfl,Va.out⟩ jaT).mono ?_;rintro e t5 ⟨rfl,kk⟩;obtain⟨Va,Hkb,Ve,Vh,Hrb,VD,K⟩:=lH7 (Va.out.kept kk) (Hkb.out.kept kk) (Ve.out.kept kk) (Vh.out.kept kk) (Hrb.out.kept kk) (VD.out.kept kk) (K.out.trans kk);clear kk y0 y1 y2 y3 y4;go_wp2;go_ret;exact⟨rfl,K.out⟩
theorem Yo {u c p:Int} (hu:0≤u) (hc:0≤c) (hc2:c≤128) (hp:0≤p) (hp2:p≤1000000):jr u c p=0:=by
 unfold jr;rw[if_neg (by omega)]
theorem Yi:∀{l:RL} {g:Int} {r:Int×Int×Int},l.Pairwise (fun x y=>x.1<y.1)→l.find? (fun r=>decide (g≤r.1))=some r→∀x ∈ l,g≤x.1→r.1≤x.1
 | [],g,r,_,h,x,hx,_=>absurd hx (by simp)
 | y::t,g,r,hp,h,x,hx,hg=>by
  have hp':=List.pairwise_cons.1 hp;by_cases hy:g≤y.1
  · rw[List.find?_cons_of_pos (by simpa using hy)] at h;obtain rfl:=Option.some.inj h;rcases List.mem_cons.1 hx with rfl | h2
    · exact Int.le_refl _
    · exact Int.le_of_lt (hp'.1 x h2)
  · rw[List.find?_cons_of_neg (by simpa using hy)] at h;rcases List.mem_cons.1 hx with rfl | h2
    · exact absurd hg hy
    · exact Yi hp'.2 h x h2 hg
def Xr (o:Option (Int×Int×Int)) (lo hi:Int) (u:Vec.V):Int×Vec.V×Int:=match o with
 | none=>(lo,u,0)
 | some r=>if (Vec.jB Vec.jg r.2.2 u).1≠0 then (0,[],(Vec.jB Vec.jg r.2.2 u).1) else (JD r.2.1 lo hi,(Vec.jB Vec.jg r.2.2 u).2,0)
theorem qK {n:Lad} {t:Vec.V} (h:jO n=0):j3 n t=Xr (atL n t) n.lo n.hi n.unit:=by
 unfold j3 Xr;rw[if_neg (by rw[h];decide)];rfl
theorem YM {n:Int} (h:(Lit.int .u16 n).wf=true):0≤n∧n<65536:=by
 simp only[Lit.wf,IntKind.min,IntKind.max,decide_eq_true_eq] at h;simp[IntKind.signed,IntKind.bits] at h;omega
def upN (zs:List Int):Nat→Nat
 | 0=>0
 | k+1=>upN zs k+1+(zs.getD k 0 % 20).toNat
theorem YI (zs:List Int) {i:Nat}:∀{k:Nat},i<k→upN zs i<upN zs k
 | k+1,h=>by
  have e:upN zs (k+1)=upN zs k+1+(zs.getD k 0 % 20).toNat:=rfl;rcases Nat.lt_or_ge i k with g | g
  · have:=YI zs g;omega
  · obtain rfl:i=k:=by omega
    omega
theorem Zv (zs:List Int):∀k:Nat,upN zs k≤20*k
 | 0=>Nat.le_refl _
 | k+1=>by
  have e:upN zs (k+1)=upN zs k+1+(zs.getD k 0 % 20).toNat:=rfl;have:=Zv zs k;omega
def jF (zs:List Int) (k:Nat):RL:=(List.range k).map fun i=>((upN zs (i+1):Int),(i:Int),1000)
theorem zO (zs:List Int) (k:Nat):(jF zs k).length=k:=by simp[jF]
theorem ZR (zs:List Int) (k:Nat):jF zs (k+1)=jF zs k++[((upN zs (k+1):Int),(k:Int),1000)]:=by
 unfold jF;rw[List.range_succ,List.map_append];rfl
theorem z8 (zs:List Int) {k i:Nat} (h:i<k):(jF zs k)[i]?=some ((upN zs (i+1):Int),(i:Int),1000):=by
 unfold jF;rw[List.getElem?_map,List.getElem?_range h];rfl
theorem Zf {zs:List Int} {k:Nat} {r:Int×Int×Int} (h:r ∈ jF zs k):∃i,i<k∧r=((upN zs (i+1):Int),(i:Int),1000):=by
 unfold jF at h;obtain⟨i,hi,rfl⟩:=List.mem_map.1 h;exact⟨i,List.mem_range.1 hi,rfl⟩
theorem ZB (zs:List Int):∀k,(jF zs k).Pairwise (fun x y=>x.1<y.1)
 | 0=>.nil
 | k+1=>by
  rw[ZR];refine List.pairwise_append.2 ⟨ZB zs k,by simp,fun a ha b hb=>?_⟩;obtain⟨i,hi,rfl⟩:=Zf ha;obtain rfl:b=_:=List.mem_singleton.1 hb;have:=YI zs (show i+1<k+1 by omega);show (upN zs (i+1):Int)<(upN zs (k+1):Int);omega
theorem Js:∀(l:RL) (prev:Option Int),(∀r ∈ l,jr r.1 r.2.1 r.2.2=0)→l.Pairwise (fun x y=>x.1<y.1)→(∀q,prev=some q→∀r ∈ l,q<r.1)→jm prev l=0
 | [],_,_,_,_=>rfl
 | n::t,prev,h1,h2,h3=>by
  obtain⟨h4,h5⟩:=List.pairwise_cons.1 h2;have hb:Z7 prev n.1=false:=by
   cases prev with
   | none=>rfl
   | some q =>
    have:=h3 q rfl n (by simp);unfold Z7;exact decide_eq_false (by omega)
  rw[jm,if_neg (by rw[h1 n (by simp)];decide),if_neg (by rw[hb];decide)];exact Js t (some n.1) (fun r hr=>h1 r (by simp[hr])) h5 (fun q hq r hr=>by cases hq;exact h4 r hr)
theorem jag (zs:List Int) {k:Nat} (hk:k≤8):jP (jF zs k)=0:=by
 unfold jP;rw[if_neg (by rw[zO];omega)];refine Js _ none (fun r hr=>?_) (ZB zs k) (fun q hq=>by cases hq);obtain⟨i,hi,rfl⟩:=Zf hr;exact Yo (by dsimp only;omega) (by dsimp only;omega) (by dsimp only;omega) (by dsimp only;omega) (by dsimp only;omega)
theorem XK (zs:List Int) {m:Nat} (hm:0<m) (g:Int):∃j,j<m∧jX (jF zs m) g=some ((upN zs (j+1):Int),(j:Int),1000)∧(g≤(upN zs (j+1):Int)∨j=m-1)∧(j=0∨(upN zs j:Int)<g):=by
 have hin:∀i,i<m→((upN zs (i+1):Int),(i:Int),(1000:Int)) ∈ jF zs m:=fun i hi=>List.mem_of_getElem? (z8 zs hi);have hlast:(jF zs m).getLast?=some ((upN zs (m-1+1):Int),((m-1:Nat):Int),1000):=by
  rw[List.getLast?_eq_getElem?,zO];exact z8 zs (by omega)
 cases hf:(jF zs m).find? (fun r=>decide (g≤r.1)) with
 | some r =>
  obtain⟨j,hj,rfl⟩:=Zf (List.mem_of_find?_eq_some hf);have hg:=List.find?_some hf;refine⟨j,hj,by unfold jX;rw[hf],.inl (of_decide_eq_true hg),?_⟩;by_cases h0:j=0
  · exact .inl h0
  · refine .inr ?_;by_cases hg2:g≤(upN zs j:Int)
    · have h9:=Yi (ZB zs m) hf _ (hin (j-1) (by omega)) (by show g≤(upN zs (j-1+1):Int);rw[show j-1+1=j by omega];exact hg2);have h8:(upN zs (j+1):Int)≤(upN zs (j-1+1):Int):=h9;rw[show j-1+1=j by omega] at h8;have:=YI zs (show j<j+1 by omega);omega
    · omega
 | none =>
  refine⟨m-1,by omega,by unfold jX;rw[hf];exact hlast,.inr rfl,?_⟩;by_cases h0:m-1=0
  · exact .inl h0
  · refine .inr ?_;have:=List.find?_eq_none.1 hf _ (hin (m-2) (by omega));have h8:¬g≤(upN zs (m-2+1):Int):=by simpa using this
    rw[show m-2+1=m-1 by omega] at h8;omega
abbrev jY (zs:List Int) (m:Nat):Lad:=⟨Vec.cpu,[],jF zs m,0,128⟩
theorem qR (zs:List Int) {m:Nat} (hm:m≤8):jO (jY zs m)=0:=by
 have h1:zo Vec.cpu=0:=by kernel_rfl
 unfold jO;dsimp only;rw[h1,jag zs hm];decide
theorem XM (zs:List Int) {m j:Nat} {t:Vec.V} {u:Int} (hm:m≤8) (hj:j<m) (h:atL (jY zs m) t=some (u,(j:Int),1000)):j3 (jY zs m) t=((j:Int),[],0):=by
 rw[qK (qR zs hm),h];unfold Xr;dsimp only;rw[show Vec.jB Vec.jg 1000 []=(0,[]) by kernel_rfl];rw[if_neg (by decide)];have:JD (j:Int) 0 128=(j:Int):=by unfold JD;omega
 rw[this]
theorem edges_walk (a:Option Addr) (m cap:Nat) (zs:List Int) (n:Int) (w:World) (hE:Vec.jR w) (hml:m≤9223372036854775807) (hc:m=0∨∃b off,a=some ⟨b,off,none⟩∧∀i,i<m→w.cell? ⟨b,off+i,none⟩=some (.int .u8 (zs.getD i 0))∧0≤zs.getD i 0∧zs.getD i 0<256) (hn:(Lit.int .u16 n).wf=true):Calls Tryz.prog 6 #[.slice a m cap,.int .u16 n] w fun e w'=>e=.returned (.bool true)∧Kept w w':=by
 obtain⟨bn,bnx⟩:=YM hn;clear hn;obtain⟨G,hG⟩:∃q:Nat,n % 200=(q:Int):=⟨(n % 200).toNat,by omega⟩
 have hGb:G<200:=by omega
 have HC:=lH hc;have HE:=lH hE;clear hc hE;obtain⟨i0,hi,hz0,hz1,hz2⟩:=info_parts Yr;go_enter Tryz.func6,Tryz.ntmps6;go_wp2_with fail
 refine(YJ _ HE.out).mono ?_;rintro e w1 ⟨rfl,kk⟩;have K:=lH kk;clear kk;by_cases h1:m=0
 case pos =>
  subst h1;go_wp2;go_ret;exact⟨rfl,K.out⟩
 have h1i:¬(m:Int)<1:=by omega
 by_cases h8:8<m
 case pos =>
  have h8i:(8:Int)<(m:Int):=by omega
  go_wp2;go_ret;exact⟨rfl,K.out⟩
 have h8i:¬(8:Int)<(m:Int):=by omega
 obtain⟨b,off,rfl,hcell⟩:=HC.out.resolve_left h1;have TR:=lH hcell;clear hcell HC;obtain⟨w2,hw2⟩:=eX (w1.alloc (.cells #[.string ⟨#[99,112,117]⟩,.slice none 0 0,.slice none 0 0,.int .i64 0,.int .i64 128] 26))
 have k2:Kept w1 w2:=by rw[←hw2];exact ja _ _
 obtain⟨q,hq⟩:=eX (w1.heap.size)
 obtain⟨QA,HZ,Th,EW,KW2⟩:=lH5 (show jn q [.string ⟨#[99,112,117]⟩,.slice none 0 0,.slice none 0 0,.int .i64 0,.int .i64 128] w2 by rw[←hq];exact jo w1 (.string ⟨#[99,112,117]⟩) [.slice none 0 0,.slice none 0 0,.int .i64 0,.int .i64 128] 26 w2 (by rw[hw2];exact Kept.refl _)) (show w2.heap.size=q+1 by rw[←hw2,World.size_alloc,hq]) hq hw2 k2;clear hw2 k2;go_upto_region 6 with fail
 try rw[hq]
 try rw[EW.out]
 clear EW hq;go_wp2;go_loopw [6,7] (fun u i wr=>∃(k:Nat) (sv:Value),k≤m∧u=.int .i64 (upN zs k:Int)∧i=.int .i64 k∧jn q [.string ⟨#[99,112,117]⟩,.slice none 0 0,sv,.int .i64 0,.int .i64 128] wr∧Own jw 46 wr (q+1) sv (jF zs k)∧Kept w1 wr∧q+1≤wr.heap.size) (fun _ i _=>m-(intOf i).toNat)
 case atStart=>exact⟨0,.slice none 0 0,Nat.zero_le _,rfl,rfl,QA.out,Own.nil _ _ _,KW2.out,Nat.le_of_eq HZ.out.symm⟩
 case round =>
  obtain⟨k,sv,hk,rfl,rfl,hqa,how,hj,hbz⟩:=hrel;obtain⟨HT,QA,OW,J,Ue⟩:=lH5 (zO zs k) hqa how hj hbz;clear hqa how hj hbz;obtain⟨z0,z1,z2,z3,z4⟩:=QA.out.at5;have hub:=Zv zs k;by_cases hlt:k<m
  · have hk1:(k:Int)<(m:Int):=by omega
    obtain⟨c0,d0,d1⟩:=TR.out k hlt;have c9:=cell_later (K.out.trans J.out) c0;obtain⟨z,hz⟩:=eX (zs.getD k 0)
    rw[hz] at c9 d0 d1;obtain⟨R,hR⟩:∃q:Nat,z % 20=(q:Int):=⟨(z % 20).toNat,by omega⟩
    have hRb:R<20:=by omega
    have HS:=lH (show upN zs (k+1)=upN zs k+1+R by show upN zs k+1+(zs.getD k 0 % 20).toNat=_;rw[hz,hR];rfl);obtain⟨U,hU⟩:=eX (upN zs k)
    rw[hU] at HS hub;rw[hU];obtain⟨S,hS⟩:=eX (upN zs (k+1))
    have Ti:=lH hS;rw[hS] at HS;have hV:(U:Int)+1+(R:Int)=(S:Int):=by have:=HS.out;omega
    have hSb:S<1000:=by have:=HS.out;omega
    clear c0 hz hU hS;obtain⟨VM,US,TY,VH⟩:=lH4 (show jw.fine ((S:Int),(k:Int),1000) from(show I64 (S:Int)∧I64 (k:Int)∧I64 1000 from⟨⟨by omega,by omega⟩,⟨by omega,by omega⟩,by unfold I64;decide⟩)) (show wr.ownsRow (q+1) 46 3 sv k (ju jw (jF zs k)) by have:=OW.out.1;rw[HT.out] at this;exact this) Ue.out (ja wr (.cells #[.int .i64 (S:Int),.int .i64 (k:Int),.int .i64 1000] 46));clear z0 z1 z2 z3 z4;obtain⟨z0,z1,z2,z3,z4⟩:=QA.out.at5;have hq1z:=Ue.out;go_wp2_with (at_builtin;go_loud ((refine wpList_append_lies _ rfl _ _ _ rfl (q+1) 46 i0 _ 3 24 Tryz.underlying24 hi hz0 hz1 hz2 rfl (by decide) sv k (ju jw (jF zs k)) rfl (US.out.alloc _) ⟨wr.heap.size,0,none⟩ 1 1 [.int .i64 (S:Int),.int .i64 (k:Int),.int .i64 1000] rfl rfl (World.news_of_block (cs:=#[.int .i64 (S:Int),.int .i64 (k:Int),.int .i64 1000]) (t:=46) (fr:=(0,0)) (heap_alloc_new wr _)) (Jx jw [((S:Int),(k:Int),1000)]) (by decide) (by unfold maxLen;omega) (by omega) (by simp;omega) (wr.heap.size+1) (by simp) ?_);intro gg cap1 w4 hown1 hgrow hat hlt1;have Tj:=lH (show ∀r,sv.ownBlock=some r→q+1≤r from fun r hr=>(OW.out.1.lt r hr).1);obtain⟨QA,J,Ue,OW⟩:=lH4 ((QA.out.kept VH.out).block (hgrow.block q (QA.out.kept VH.out).lt (fun e=>by have:=Tj.out q e.symm;omega))) (show Kept w1 w4 from(show Below w1.heap.size w1 _ from J.out.trans VH.out).grown hgrow (J.out.trans VH.out).size (fun j hj=>by have:=Tj.out j hj;have:=Th.out;omega)) (Nat.le_trans Ue.out (Nat.le_trans VH.out.size hgrow.size)) (show Own jw 46 w4 (q+1) (.slice (some ⟨gg,0,none⟩) (k+1) cap1) (jF zs (k+1)) by rw[ZR,Ti.out];exact Own.snoc hown1 (by rw[HT.out]) OW.out.2 VM.out);clear hgrow hat hlt1 hown1 z0 z1 z2 z3 z4;obtain⟨z0,z1,z2,z3,z4⟩:=QA.out.at5;have y2:=QA.out.free 2))
    go_wp2;refine⟨⟨k+1,.slice (some ⟨gg,0,none⟩) (k+1) cap1,by omega,by rw[Ti.out],by go_num,QA.out.set (j:=2) (by show 2<5;omega),OW.out.setCell_below (a:=⟨q,2,none⟩) (by show q<q+1;omega) _,(show Below w1.heap.size w1 w4 from J.out).setCell (p:=⟨q,2,none⟩) (by show w1.heap.size≤q;rw[Th.out];exact Nat.le_refl _) _,by have:=Ue.out;simpa [World.setCell] using this⟩,by simp[intOf];omega⟩
  · have hge:¬(k:Int)<(m:Int):=by omega
    obtain rfl:k=m:=by omega
    clear hlt hge hk;obtain⟨av,cv,rfl,-⟩:=OW.out.at_;rw[zO] at QA OW z2;have Vd:=lH OW.out.reads;clear OW;obtain⟨j,hj,hat,hor,hlow⟩:=XK zs (show 0<k by omega) (G:Int);obtain⟨TZ,Tk,Us,UT⟩:=lH4 hGb hat hor hlow;have hm8:k≤8:=by omega
    have Tl:=lH (fun V (h:atL (jY zs k) V=some ((upN zs (j+1):Int),(j:Int),1000))=>XM zs hm8 hj h);have hj8:j<8:=by omega
    have hub2:=Zv zs (j+1);have hub3:=Zv zs j;have Tm:=lH (fun W (h:Reads jw W (.slice av k cv) (jF zs k))=>(by
     obtain⟨a9,c9,e9,-,-,hrow⟩:=h;rw[zO] at hrow e9
     cases e9
     exact hrow:jM jw W av k (jF zs k)))
    clear hat hor hlow hub;by_cases hg0:G=0
    · have hgz:¬(0:Int)<(G:Int):=by omega
      have hwrX:=wr;obtain⟨HX,K,Vp,Va⟩:=lH4 (Vec.Reads.nil wr) (K.out.trans J.out) (show atL (jY zs k) []=some ((upN zs (j+1):Int),(j:Int),1000) by unfold atL;rw[show Vec.jN [] _=(G:Int) from by rw[hg0];rfl];exact Tk.out) (show jS wr (.slice none 0 0) (.slice av k cv) (jY zs k) from⟨(show Vec.cpu.size≤maxLen by decide),Vec.Reads.nil _,Vd.out,(show I64 0 by unfold I64;decide),(show I64 128 by unfold I64;decide)⟩);have HA:=lH (Zu (jY zs k) none av 0 0 k cv (.slice none 0 0) [] wr Va.out HX.out);rw[Vp.out] at HA;unfold AtR Z3 at HA;dsimp only[Option.getD,Option.isSome] at HA;obtain⟨z0,z1,z2,z3,z4⟩:=QA.out.at5;try clear hlt
      go_wp2_with fail
      refine HA.out.mono ?_;rintro e wA ⟨rfl,kk⟩;clear HA z0 z1 z2 z3 z4;obtain⟨QA,Vd,Va,HX,K⟩:=lH5 (QA.out.kept kk) (Vd.out.kept kk) (Va.out.kept kk) (HX.out.kept kk) (K.out.trans kk);clear kk;obtain⟨wB,hwB⟩:=eX (wA.alloc (.cells #[.int .i64 (upN zs (j+1):Int),.int .i64 (j:Int),.int .i64 1000] 46))
      have kk:Kept wA wB:=by rw[←hwB];exact ja _ _
      obtain⟨p,hp⟩:=eX (wA.heap.size)
      have P:=lH (show jn p [.int .i64 (upN zs (j+1):Int),.int .i64 (j:Int),.int .i64 1000] wB by rw[←hp];exact jo wA (.int .i64 (upN zs (j+1):Int)) [.int .i64 (j:Int),.int .i64 1000] 46 wB (by rw[hwB];exact Kept.refl _));go_upto_region 17 with fail
      try rw[hwB]
      try rw[hp]
      clear hwB hp;obtain⟨QA,Vd,Va,HX,K⟩:=lH5 (QA.out.kept kk) (Vd.out.kept kk) (Va.out.kept kk) (HX.out.kept kk) (K.out.trans kk);clear kk;have HW:=lH (Zd (jY zs k) none av 0 0 k cv (.slice none 0 0) [] wB Va.out HX.out);rw[Tl.out _ Vp.out] at HW;unfold Z5 at HW;dsimp only at HW;obtain⟨z0,z1,z2,z3,z4⟩:=QA.out.at5;go_wp2_with fail
      refine HW.out.mono ?_;rintro e wC ⟨uvv,rfl,-,kk⟩;clear HW z0 z1 z2 z3 z4;obtain⟨QA,Vd,P,K⟩:=lH4 (QA.out.kept kk) (Vd.out.kept kk) (P.out.kept kk) (K.out.trans kk);clear kk Va HX Vp;go_upto_region 18 with fail
      obtain⟨wd,hwd⟩:=eX (wC.drew)
      have kk:Kept wC wd:=by rw[←hwd];exact Kept.drew wC
      obtain⟨QA,Vd,P,K⟩:=lH4 (QA.out.kept kk) (Vd.out.kept kk) (P.out.kept kk) (K.out.trans kk);clear kk;have hrow:=Tm.out wd Vd.out;obtain⟨rb,ro,rfl⟩:∃b off,av=some ⟨b,off,none⟩:=by rcases hrow.form with h | h;omega;exact h
      obtain⟨u9,c9,p9,hn9,-,-,-,r0,-,-⟩:=hrow.rung hj;rw[z8 zs hj] at hn9;obtain⟨rfl,rfl,rfl⟩:(upN zs (j+1):Int)=u9∧(j:Int)=c9∧(1000:Int)=p9:=by cases hn9;exact⟨rfl,rfl,rfl⟩
      clear hn9;have hjl:(j:Int)<(k:Int):=by omega
      have hjl2:¬(k:Int)≤(j:Int):=by omega
      have hjd:decide (k≤j)=false:=by simpa using hj
      have hj0:¬(j:Int)<0:=by omega
      obtain⟨U,hU⟩:=eX (upN zs (j+1))
      rw[hU] at Us hub2 P r0;try rw[hU]
      obtain⟨z0,z1,z2,z3,z4⟩:=QA.out.at5;obtain⟨y0,y1,y2⟩:=P.out.at3;refine wp_region_held_drew (S:=fun W=>W.cell? ⟨q,2,none⟩=some (.slice (some ⟨rb,ro,none⟩) k cv)∧W.cell? ⟨p,0,none⟩=some (.int .i64 (U:Int))∧W.cell? ⟨p,1,none⟩=some (.int .i64 (j:Int))∧W.cell? ⟨rb,ro+j*3,none⟩=some (.int .i64 (U:Int))) (by kernel_rfl) (by rw[hwd];exact⟨z2,y0,y1,r0⟩) (fun hHeld=>?_);rw[hwd] at hHeld;try rw[hwd]
      clear hwd;refine tR 0 rfl (by kernel_rfl) (fun _ _ _=>id) (Or.inl ⟨by rfl,by rintro W ⟨s0,s1,s2,s3⟩;go_simp<;>with_reducible rfl⟩) ‹_› ?_;try simp only[nA,nB,nC,nD,nE]
      refine tR 1 rfl (by kernel_rfl) (fun _ _ _=>id) (Or.inl ⟨by rfl,by rintro W ⟨s0,s1,s2,s3⟩;go_simp<;>with_reducible rfl⟩) ‹_› ?_;try simp only[nA,nB,nC,nD,nE]
      refine tR 2 rfl (by kernel_rfl) (fun _ _ _=>id) (Or.inl ⟨by rfl,by rintro W ⟨s0,s1,s2,s3⟩;go_simp<;>with_reducible rfl⟩) ‹_› ?_;try simp only[nA,nB,nC,nD,nE]
      refine tR 3 rfl (by kernel_rfl) (fun _ _ _=>id) (Or.inl ⟨by rfl,by rintro W ⟨s0,s1,s2,s3⟩;go_simp<;>with_reducible rfl⟩) ‹_› ?_;try simp only[nA,nB,nC,nD,nE]
      refine tR 4 rfl (by kernel_rfl) (fun _ _ _=>id) (Or.inl ⟨by rfl,by rintro W ⟨s0,s1,s2,s3⟩;go_simp<;>with_reducible rfl⟩) ‹_› ?_;try simp only[nA,nB,nC,nD,nE]
      refine tR 5 rfl (by kernel_rfl) (fun _ _ _=>id) (Or.inl ⟨by rfl,by rintro W ⟨s0,s1,s2,s3⟩;go_simp<;>with_reducible rfl⟩) ‹_› ?_;try simp only[nA,nB,nC,nD,nE]
      refine tR 6 rfl (by kernel_rfl) (fun _ _ _=>id) (Or.inl ⟨by rfl,by rintro W ⟨s0,s1,s2,s3⟩;go_simp<;>with_reducible rfl⟩) ‹_› ?_;try simp only[nA,nB,nC,nD,nE]
      refine tR 7 rfl (by kernel_rfl) (fun _ _ _=>id) (Or.inl ⟨by rfl,by rintro W ⟨s0,s1,s2,s3⟩;go_simp<;>with_reducible rfl⟩) ‹_› ?_;try simp only[nA,nB,nC,nD,nE]
      refine tR 8 rfl (by kernel_rfl) (fun _ _ _=>id) (Or.inl ⟨by rfl,by rintro W ⟨s0,s1,s2,s3⟩;go_simp<;>with_reducible rfl⟩) ‹_› ?_;try simp only[nA,nB,nC,nD,nE]
      refine tR 9 rfl (by kernel_rfl) (fun _ _ _=>id) (Or.inl ⟨by rfl,by rintro W ⟨s0,s1,s2,s3⟩;go_simp<;>with_reducible rfl⟩) ‹_› ?_;try simp only[nA,nB,nC,nD,nE]
      refine tR 10 rfl (by kernel_rfl) (fun _ _ _=>id) (Or.inl ⟨by rfl,by rintro W ⟨s0,s1,s2,s3⟩;go_simp<;>with_reducible rfl⟩) ‹_› ?_;try simp only[nA,nB,nC,nD,nE]
      refine tR 11 rfl (by kernel_rfl) (fun _ _ _=>id) (Or.inl ⟨by rfl,by rintro W ⟨s0,s1,s2,s3⟩;go_simp<;>with_reducible rfl⟩) ‹_› ?_;try simp only[nA,nB,nC,nD,nE]
      refine tR 12 rfl (by kernel_rfl) (fun _ _ _=>id) (Or.inl ⟨by rfl,by rintro W ⟨s0,s1,s2,s3⟩;go_simp<;>with_reducible rfl⟩) ‹_› ?_;try simp only[nA,nB,nC,nD,nE]
      refine tR 13 rfl (by kernel_rfl) (fun _ _ _=>id) (Or.inl ⟨by rfl,by rintro W ⟨s0,s1,s2,s3⟩;go_simp<;>with_reducible rfl⟩) ‹_› ?_;try simp only[nA,nB,nC,nD,nE]
      refine tR 14 rfl (by kernel_rfl) (fun _ _ _=>id) (Or.inl ⟨by rfl,by rintro W ⟨s0,s1,s2,s3⟩;go_simp<;>with_reducible rfl⟩) ‹_› ?_;try simp only[nA,nB,nC,nD,nE]
      refine tR 15 rfl (by kernel_rfl) (fun _ _ _=>id) (Or.inl ⟨by rfl,by rintro W ⟨s0,s1,s2,s3⟩;go_simp<;>with_reducible rfl⟩) ‹_› ?_;try simp only[nA,nB,nC,nD,nE]
      refine tR 16 rfl (by kernel_rfl) (fun _ _ _=>id) (Or.inl ⟨by rfl,by rintro W ⟨s0,s1,s2,s3⟩;go_simp<;>with_reducible rfl⟩) ‹_› ?_;try simp only[nA,nB,nC,nD,nE]
      refine tR 17 rfl (by kernel_rfl) (fun _ _ _=>id) (Or.inl ⟨by rfl,by rintro W ⟨s0,s1,s2,s3⟩;go_simp<;>with_reducible rfl⟩) ‹_› ?_;try simp only[nA,nB,nC,nD,nE]
      refine tR 18 rfl (by kernel_rfl) (fun _ _ _=>id) (Or.inl ⟨by rfl,by rintro W ⟨s0,s1,s2,s3⟩;go_simp<;>with_reducible rfl⟩) ‹_› ?_;try simp only[nA,nB,nC,nD,nE]
      refine tR 19 rfl (by kernel_rfl) (fun _ _ _=>id) (Or.inl ⟨by rfl,by rintro W ⟨s0,s1,s2,s3⟩;go_simp<;>with_reducible rfl⟩) ‹_› ?_;try simp only[nA,nB,nC,nD,nE]
      refine tR 20 rfl (by kernel_rfl) (fun _ _ _=>id) (Or.inl ⟨by rfl,by rintro W ⟨s0,s1,s2,s3⟩;go_simp<;>with_reducible rfl⟩) ‹_› ?_;try simp only[nA,nB,nC,nD,nE]
      refine tR 21 rfl (by kernel_rfl) (fun _ _ _=>id) (Or.inl ⟨by rfl,by rintro W ⟨s0,s1,s2,s3⟩;go_simp<;>with_reducible rfl⟩) ‹_› ?_;try simp only[nA,nB,nC,nD,nE]
      refine tR 22 rfl (by kernel_rfl) (fun _ _ _=>id) (Or.inl ⟨by rfl,by rintro W ⟨s0,s1,s2,s3⟩;go_simp<;>with_reducible rfl⟩) ‹_› ?_;try simp only[nA,nB,nC,nD,nE]
      refine tR 23 rfl (by kernel_rfl) (fun _ _ _=>id) (Or.inl ⟨by rfl,by rintro W ⟨s0,s1,s2,s3⟩;go_simp<;>with_reducible rfl⟩) ‹_› ?_;try simp only[nA,nB,nC,nD,nE]
      refine tR 24 rfl (by kernel_rfl) (fun _ _ _=>id) (Or.inl ⟨by rfl,by rintro W ⟨s0,s1,s2,s3⟩;go_simp<;>with_reducible rfl⟩) ‹_› ?_;try simp only[nA,nB,nC,nD,nE]
      refine tR 25 rfl (by kernel_rfl) (fun _ _ _=>id) (Or.inl ⟨by rfl,by rintro W ⟨s0,s1,s2,s3⟩;go_simp<;>with_reducible rfl⟩) ‹_› ?_;try simp only[nA,nB,nC,nD,nE]
      refine tR 26 rfl (by kernel_rfl) (fun _ _ _=>id) (Or.inl ⟨by rfl,by rintro W ⟨s0,s1,s2,s3⟩;go_simp<;>with_reducible rfl⟩) ‹_› ?_;try simp only[nA,nB,nC,nD,nE]
      refine tR 27 rfl (by kernel_rfl) (fun _ _ _=>id) (Or.inl ⟨by rfl,by rintro W ⟨s0,s1,s2,s3⟩;go_simp<;>with_reducible rfl⟩) ‹_› ?_;try simp only[nA,nB,nC,nD,nE]
      refine tR 28 rfl (by kernel_rfl) (fun _ _ _=>id) (Or.inl ⟨by rfl,by rintro W ⟨s0,s1,s2,s3⟩;go_simp<;>with_reducible rfl⟩) ‹_› ?_;try simp only[nA,nB,nC,nD,nE]
      refine tR 29 rfl (by kernel_rfl) (fun _ _ _=>id) (Or.inl ⟨by rfl,by rintro W ⟨s0,s1,s2,s3⟩;go_simp<;>with_reducible rfl⟩) ‹_› ?_;try simp only[nA,nB,nC,nD,nE]
      refine tR 30 rfl (by kernel_rfl) (fun _ _ _=>id) (Or.inl ⟨by rfl,by rintro W ⟨s0,s1,s2,s3⟩;go_simp<;>with_reducible rfl⟩) ‹_› ?_;try simp only[nA,nB,nC,nD,nE]
      refine tR 31 rfl (by kernel_rfl) (fun _ _ _=>id) (Or.inl ⟨by rfl,by rintro W ⟨s0,s1,s2,s3⟩;go_simp<;>with_reducible rfl⟩) ‹_› ?_;try simp only[nA,nB,nC,nD,nE]
      refine tR 32 rfl (by kernel_rfl) (fun _ _ _=>id) (Or.inl ⟨by rfl,by rintro W ⟨s0,s1,s2,s3⟩;go_simp<;>with_reducible rfl⟩) ‹_› ?_;try simp only[nA,nB,nC,nD,nE]
      refine tR 33 rfl (by kernel_rfl) (fun _ _ _=>id) (Or.inl ⟨by rfl,by rintro W ⟨s0,s1,s2,s3⟩;go_simp<;>with_reducible rfl⟩) ‹_› ?_;try simp only[nA,nB,nC,nD,nE]
      refine tR 34 rfl (by kernel_rfl) (fun _ _ _=>id) (Or.inl ⟨by rfl,by rintro W ⟨s0,s1,s2,s3⟩;go_simp<;>with_reducible rfl⟩) ‹_› ?_;try simp only[nA,nB,nC,nD,nE]
      refine tR 35 rfl (by kernel_rfl) (fun _ _ _=>id) (Or.inl ⟨by rfl,by rintro W ⟨s0,s1,s2,s3⟩;go_simp<;>with_reducible rfl⟩) ‹_› ?_;try simp only[nA,nB,nC,nD,nE]
      refine tR 36 rfl (by kernel_rfl) (fun _ _ _=>id) (Or.inl ⟨by rfl,by rintro W ⟨s0,s1,s2,s3⟩;go_simp<;>with_reducible rfl⟩) ‹_› ?_;try simp only[nA,nB,nC,nD,nE]
      refine wpAnyH_done (by kernel_rfl) ?_ _;have hz:j=0:=by rcases UT.out with h | h;exact h;omega
      subst hz;have hge:(G:Int)≤(U:Int):=by omega
      go_wp2;go_ret;exact⟨rfl,K.out⟩
    · have hg1:(0:Int)<(G:Int):=by omega
      obtain⟨w5,hw5⟩:=eX (wr.alloc (.cells #[.string ⟨#[99,112,117]⟩,.int .i64 (G:Int)] 63))
      have kk:Kept wr w5:=by rw[←hw5];exact ja _ _
      obtain⟨gb,hgb⟩:=eX (wr.heap.size)
      have HX:=lH (show Vec.Reads w5 (.slice (some ⟨gb,0,none⟩) 1 1) [(⟨#[99,112,117]⟩,(G:Int))] by rw[←hw5,←hgb];exact Jh wr ⟨#[99,112,117]⟩ (G:Int) 63 (by decide) (by omega));go_upto_region 16 with fail
      try rw[hw5]
      try rw[hgb]
      clear hw5 hgb z0 z1 z2 z3 z4;obtain⟨QA,Vd,K⟩:=lH3 (QA.out.kept kk) (Vd.out.kept kk) (K.out.trans (J.out.trans kk));clear kk;have Vp:=lH (show atL (jY zs k) [(⟨#[99,112,117]⟩,(G:Int))]=some ((upN zs (j+1):Int),(j:Int),1000) by unfold atL;rw[Vec.jN];show jX (jF zs k) (if eqS Vec.cpu Vec.cpu=true then (G:Int) else _)=_;rw[if_pos (Yx _)];exact Tk.out);have Va:=lH (show jS w5 (.slice none 0 0) (.slice av k cv) (jY zs k) from⟨(show Vec.cpu.size≤maxLen by decide),Vec.Reads.nil _,Vd.out,(show I64 0 by unfold I64;decide),(show I64 128 by unfold I64;decide)⟩);have HA:=lH (Zu (jY zs k) none av 0 0 k cv (.slice (some ⟨gb,0,none⟩) 1 1) [(⟨#[99,112,117]⟩,(G:Int))] w5 Va.out HX.out);rw[Vp.out] at HA;unfold AtR Z3 at HA;dsimp only[Option.getD,Option.isSome] at HA;obtain⟨z0,z1,z2,z3,z4⟩:=QA.out.at5;try clear hlt
      go_wp2_with fail
      refine HA.out.mono ?_;rintro e wA ⟨rfl,kk⟩;clear HA z0 z1 z2 z3 z4;obtain⟨QA,Vd,Va,HX,K⟩:=lH5 (QA.out.kept kk) (Vd.out.kept kk) (Va.out.kept kk) (HX.out.kept kk) (K.out.trans kk);clear kk;obtain⟨wB,hwB⟩:=eX (wA.alloc (.cells #[.int .i64 (upN zs (j+1):Int),.int .i64 (j:Int),.int .i64 1000] 46))
      have kk:Kept wA wB:=by rw[←hwB];exact ja _ _
      obtain⟨p,hp⟩:=eX (wA.heap.size)
      have P:=lH (show jn p [.int .i64 (upN zs (j+1):Int),.int .i64 (j:Int),.int .i64 1000] wB by rw[←hp];exact jo wA (.int .i64 (upN zs (j+1):Int)) [.int .i64 (j:Int),.int .i64 1000] 46 wB (by rw[hwB];exact Kept.refl _));go_upto_region 17 with fail
      try rw[hwB]
      try rw[hp]
      clear hwB hp;obtain⟨QA,Vd,Va,HX,K⟩:=lH5 (QA.out.kept kk) (Vd.out.kept kk) (Va.out.kept kk) (HX.out.kept kk) (K.out.trans kk);clear kk;have HW:=lH (Zd (jY zs k) none av 0 0 k cv (.slice (some ⟨gb,0,none⟩) 1 1) [(⟨#[99,112,117]⟩,(G:Int))] wB Va.out HX.out);rw[Tl.out _ Vp.out] at HW;unfold Z5 at HW;dsimp only at HW;obtain⟨z0,z1,z2,z3,z4⟩:=QA.out.at5;go_wp2_with fail
      refine HW.out.mono ?_;rintro e wC ⟨uvv,rfl,-,kk⟩;clear HW z0 z1 z2 z3 z4;obtain⟨QA,Vd,P,K⟩:=lH4 (QA.out.kept kk) (Vd.out.kept kk) (P.out.kept kk) (K.out.trans kk);clear kk Va HX Vp;go_upto_region 18 with fail
      obtain⟨wd,hwd⟩:=eX (wC.drew)
      have kk:Kept wC wd:=by rw[←hwd];exact Kept.drew wC
      obtain⟨QA,Vd,P,K⟩:=lH4 (QA.out.kept kk) (Vd.out.kept kk) (P.out.kept kk) (K.out.trans kk);clear kk;have hrow:=Tm.out wd Vd.out;obtain⟨rb,ro,rfl⟩:∃b off,av=some ⟨b,off,none⟩:=by rcases hrow.form with h | h;omega;exact h
      obtain⟨u9,c9,p9,hn9,-,-,-,r0,-,-⟩:=hrow.rung hj;rw[z8 zs hj] at hn9;obtain⟨rfl,rfl,rfl⟩:(upN zs (j+1):Int)=u9∧(j:Int)=c9∧(1000:Int)=p9:=by cases hn9;exact⟨rfl,rfl,rfl⟩
      clear hn9;have hjl:(j:Int)<(k:Int):=by omega
      have hjl2:¬(k:Int)≤(j:Int):=by omega
      have hjd:decide (k≤j)=false:=by simpa using hj
      have hj0:¬(j:Int)<0:=by omega
      obtain⟨U,hU⟩:=eX (upN zs (j+1))
      rw[hU] at Us hub2 P r0;try rw[hU]
      obtain⟨z0,z1,z2,z3,z4⟩:=QA.out.at5;obtain⟨y0,y1,y2⟩:=P.out.at3;refine wp_region_held_drew (S:=fun W=>W.cell? ⟨q,2,none⟩=some (.slice (some ⟨rb,ro,none⟩) k cv)∧W.cell? ⟨p,0,none⟩=some (.int .i64 (U:Int))∧W.cell? ⟨p,1,none⟩=some (.int .i64 (j:Int))∧W.cell? ⟨rb,ro+j*3,none⟩=some (.int .i64 (U:Int))) (by kernel_rfl) (by rw[hwd];exact⟨z2,y0,y1,r0⟩) (fun hHeld=>?_);rw[hwd] at hHeld;try rw[hwd]
      clear hwd;refine tR 0 rfl (by kernel_rfl) (fun _ _ _=>id) (Or.inl ⟨by rfl,by rintro W ⟨s0,s1,s2,s3⟩;go_simp<;>with_reducible rfl⟩) ‹_› ?_;try simp only[nA,nB,nC,nD,nE]
      refine tR 1 rfl (by kernel_rfl) (fun _ _ _=>id) (Or.inl ⟨by rfl,by rintro W ⟨s0,s1,s2,s3⟩;go_simp<;>with_reducible rfl⟩) ‹_› ?_;try simp only[nA,nB,nC,nD,nE]
      refine tR 2 rfl (by kernel_rfl) (fun _ _ _=>id) (Or.inl ⟨by rfl,by rintro W ⟨s0,s1,s2,s3⟩;go_simp<;>with_reducible rfl⟩) ‹_› ?_;try simp only[nA,nB,nC,nD,nE]
      refine tR 3 rfl (by kernel_rfl) (fun _ _ _=>id) (Or.inl ⟨by rfl,by rintro W ⟨s0,s1,s2,s3⟩;go_simp<;>with_reducible rfl⟩) ‹_› ?_;try simp only[nA,nB,nC,nD,nE]
      refine tR 4 rfl (by kernel_rfl) (fun _ _ _=>id) (Or.inl ⟨by rfl,by rintro W ⟨s0,s1,s2,s3⟩;go_simp<;>with_reducible rfl⟩) ‹_› ?_;try simp only[nA,nB,nC,nD,nE]
      refine tR 5 rfl (by kernel_rfl) (fun _ _ _=>id) (Or.inl ⟨by rfl,by rintro W ⟨s0,s1,s2,s3⟩;go_simp<;>with_reducible rfl⟩) ‹_› ?_;try simp only[nA,nB,nC,nD,nE]
      refine tR 6 rfl (by kernel_rfl) (fun _ _ _=>id) (Or.inl ⟨by rfl,by rintro W ⟨s0,s1,s2,s3⟩;go_simp<;>with_reducible rfl⟩) ‹_› ?_;try simp only[nA,nB,nC,nD,nE]
      refine tR 7 rfl (by kernel_rfl) (fun _ _ _=>id) (Or.inl ⟨by rfl,by rintro W ⟨s0,s1,s2,s3⟩;go_simp<;>with_reducible rfl⟩) ‹_› ?_;try simp only[nA,nB,nC,nD,nE]
      refine tR 8 rfl (by kernel_rfl) (fun _ _ _=>id) (Or.inl ⟨by rfl,by rintro W ⟨s0,s1,s2,s3⟩;go_simp<;>with_reducible rfl⟩) ‹_› ?_;try simp only[nA,nB,nC,nD,nE]
      refine tR 9 rfl (by kernel_rfl) (fun _ _ _=>id) (Or.inl ⟨by rfl,by rintro W ⟨s0,s1,s2,s3⟩;go_simp<;>with_reducible rfl⟩) ‹_› ?_;try simp only[nA,nB,nC,nD,nE]
      refine tR 10 rfl (by kernel_rfl) (fun _ _ _=>id) (Or.inl ⟨by rfl,by rintro W ⟨s0,s1,s2,s3⟩;go_simp<;>with_reducible rfl⟩) ‹_› ?_;try simp only[nA,nB,nC,nD,nE]
      refine tR 11 rfl (by kernel_rfl) (fun _ _ _=>id) (Or.inl ⟨by rfl,by rintro W ⟨s0,s1,s2,s3⟩;go_simp<;>with_reducible rfl⟩) ‹_› ?_;try simp only[nA,nB,nC,nD,nE]
      refine tR 12 rfl (by kernel_rfl) (fun _ _ _=>id) (Or.inl ⟨by rfl,by rintro W ⟨s0,s1,s2,s3⟩;go_simp<;>with_reducible rfl⟩) ‹_› ?_;try simp only[nA,nB,nC,nD,nE]
      refine tR 13 rfl (by kernel_rfl) (fun _ _ _=>id) (Or.inl ⟨by rfl,by rintro W ⟨s0,s1,s2,s3⟩;go_simp<;>with_reducible rfl⟩) ‹_› ?_;try simp only[nA,nB,nC,nD,nE]
      refine tR 14 rfl (by kernel_rfl) (fun _ _ _=>id) (Or.inl ⟨by rfl,by rintro W ⟨s0,s1,s2,s3⟩;go_simp<;>with_reducible rfl⟩) ‹_› ?_;try simp only[nA,nB,nC,nD,nE]
      refine tR 15 rfl (by kernel_rfl) (fun _ _ _=>id) (Or.inl ⟨by rfl,by rintro W ⟨s0,s1,s2,s3⟩;go_simp<;>with_reducible rfl⟩) ‹_› ?_;try simp only[nA,nB,nC,nD,nE]
      refine tR 16 rfl (by kernel_rfl) (fun _ _ _=>id) (Or.inl ⟨by rfl,by rintro W ⟨s0,s1,s2,s3⟩;go_simp<;>with_reducible rfl⟩) ‹_› ?_;try simp only[nA,nB,nC,nD,nE]
      refine tR 17 rfl (by kernel_rfl) (fun _ _ _=>id) (Or.inl ⟨by rfl,by rintro W ⟨s0,s1,s2,s3⟩;go_simp<;>with_reducible rfl⟩) ‹_› ?_;try simp only[nA,nB,nC,nD,nE]
      refine tR 18 rfl (by kernel_rfl) (fun _ _ _=>id) (Or.inl ⟨by rfl,by rintro W ⟨s0,s1,s2,s3⟩;go_simp<;>with_reducible rfl⟩) ‹_› ?_;try simp only[nA,nB,nC,nD,nE]
      refine tR 19 rfl (by kernel_rfl) (fun _ _ _=>id) (Or.inl ⟨by rfl,by rintro W ⟨s0,s1,s2,s3⟩;go_simp<;>with_reducible rfl⟩) ‹_› ?_;try simp only[nA,nB,nC,nD,nE]
      refine tR 20 rfl (by kernel_rfl) (fun _ _ _=>id) (Or.inl ⟨by rfl,by rintro W ⟨s0,s1,s2,s3⟩;go_simp<;>with_reducible rfl⟩) ‹_› ?_;try simp only[nA,nB,nC,nD,nE]
      refine tR 21 rfl (by kernel_rfl) (fun _ _ _=>id) (Or.inl ⟨by rfl,by rintro W ⟨s0,s1,s2,s3⟩;go_simp<;>with_reducible rfl⟩) ‹_› ?_;try simp only[nA,nB,nC,nD,nE]
      refine tR 22 rfl (by kernel_rfl) (fun _ _ _=>id) (Or.inl ⟨by rfl,by rintro W ⟨s0,s1,s2,s3⟩;go_simp<;>with_reducible rfl⟩) ‹_› ?_;try simp only[nA,nB,nC,nD,nE]
      refine tR 23 rfl (by kernel_rfl) (fun _ _ _=>id) (Or.inl ⟨by rfl,by rintro W ⟨s0,s1,s2,s3⟩;go_simp<;>with_reducible rfl⟩) ‹_› ?_;try simp only[nA,nB,nC,nD,nE]
      refine tR 24 rfl (by kernel_rfl) (fun _ _ _=>id) (Or.inl ⟨by rfl,by rintro W ⟨s0,s1,s2,s3⟩;go_simp<;>with_reducible rfl⟩) ‹_› ?_;try simp only[nA,nB,nC,nD,nE]
      refine tR 25 rfl (by kernel_rfl) (fun _ _ _=>id) (Or.inl ⟨by rfl,by rintro W ⟨s0,s1,s2,s3⟩;go_simp<;>with_reducible rfl⟩) ‹_› ?_;try simp only[nA,nB,nC,nD,nE]
      refine tR 26 rfl (by kernel_rfl) (fun _ _ _=>id) (Or.inl ⟨by rfl,by rintro W ⟨s0,s1,s2,s3⟩;go_simp<;>with_reducible rfl⟩) ‹_› ?_;try simp only[nA,nB,nC,nD,nE]
      refine tR 27 rfl (by kernel_rfl) (fun _ _ _=>id) (Or.inl ⟨by rfl,by rintro W ⟨s0,s1,s2,s3⟩;go_simp<;>with_reducible rfl⟩) ‹_› ?_;try simp only[nA,nB,nC,nD,nE]
      refine tR 28 rfl (by kernel_rfl) (fun _ _ _=>id) (Or.inl ⟨by rfl,by rintro W ⟨s0,s1,s2,s3⟩;go_simp<;>with_reducible rfl⟩) ‹_› ?_;try simp only[nA,nB,nC,nD,nE]
      refine tR 29 rfl (by kernel_rfl) (fun _ _ _=>id) (Or.inl ⟨by rfl,by rintro W ⟨s0,s1,s2,s3⟩;go_simp<;>with_reducible rfl⟩) ‹_› ?_;try simp only[nA,nB,nC,nD,nE]
      refine tR 30 rfl (by kernel_rfl) (fun _ _ _=>id) (Or.inl ⟨by rfl,by rintro W ⟨s0,s1,s2,s3⟩;go_simp<;>with_reducible rfl⟩) ‹_› ?_;try simp only[nA,nB,nC,nD,nE]
      refine tR 31 rfl (by kernel_rfl) (fun _ _ _=>id) (Or.inl ⟨by rfl,by rintro W ⟨s0,s1,s2,s3⟩;go_simp<;>with_reducible rfl⟩) ‹_› ?_;try simp only[nA,nB,nC,nD,nE]
      refine tR 32 rfl (by kernel_rfl) (fun _ _ _=>id) (Or.inl ⟨by rfl,by rintro W ⟨s0,s1,s2,s3⟩;go_simp<;>with_reducible rfl⟩) ‹_› ?_;try simp only[nA,nB,nC,nD,nE]
      refine tR 33 rfl (by kernel_rfl) (fun _ _ _=>id) (Or.inl ⟨by rfl,by rintro W ⟨s0,s1,s2,s3⟩;go_simp<;>with_reducible rfl⟩) ‹_› ?_;try simp only[nA,nB,nC,nD,nE]
      refine tR 34 rfl (by kernel_rfl) (fun _ _ _=>id) (Or.inl ⟨by rfl,by rintro W ⟨s0,s1,s2,s3⟩;go_simp<;>with_reducible rfl⟩) ‹_› ?_;try simp only[nA,nB,nC,nD,nE]
      refine tR 35 rfl (by kernel_rfl) (fun _ _ _=>id) (Or.inl ⟨by rfl,by rintro W ⟨s0,s1,s2,s3⟩;go_simp<;>with_reducible rfl⟩) ‹_› ?_;try simp only[nA,nB,nC,nD,nE]
      refine tR 36 rfl (by kernel_rfl) (fun _ _ _=>id) (Or.inl ⟨by rfl,by rintro W ⟨s0,s1,s2,s3⟩;go_simp<;>with_reducible rfl⟩) ‹_› ?_;try simp only[nA,nB,nC,nD,nE]
      refine wpAnyH_done (by kernel_rfl) ?_ _
      have hjp:j=0∨∃jp,j=jp+1:=by cases j with
       | zero=>exact .inl rfl
       | succ n=>exact .inr ⟨n,rfl⟩
      rcases hjp with hz | ⟨jp,hjp⟩
      · subst hz;by_cases hge:(G:Int)≤(U:Int)
        · go_wp2;go_ret;exact⟨rfl,K.out⟩
        · have hjm:k=1:=by rcases Us.out with h | h;exact absurd h hge;omega
          subst hjm;go_wp2;go_ret;exact⟨rfl,K.out⟩
      · have g8:(j:Int)-1=(jp:Int):=by omega
        have gw:IntKind.i64.wrap (jp:Int)=(jp:Int):=by rw[IntKind.wrap_i64];omega
        have g9:(jp:Int)<(k:Int):=by omega
        obtain⟨u9,c9,p9,hn9,-,-,-,q0,-,-⟩:=hrow.rung (show jp<k by omega);rw[z8 zs (show jp<k by omega)] at hn9;obtain⟨rfl,rfl,rfl⟩:(upN zs (jp+1):Int)=u9∧(jp:Int)=c9∧(1000:Int)=p9:=by cases hn9;exact⟨rfl,rfl,rfl⟩
        rw[←hjp] at q0;obtain⟨U2,hU2⟩:=eX (upN zs j)
        rw[hU2] at UT hub3 q0;have hul:(U2:Int)<(G:Int):=by rcases UT.out with h | h;omega;exact h
        have hjz:¬(j:Int)=0:=by omega
        clear hn9;by_cases hge:(G:Int)≤(U:Int)
        · go_wp2;go_ret;exact⟨rfl,K.out⟩
        · have hjm:(j:Int)=(k:Int)-1:=by rcases Us.out with h | h;exact absurd h hge;omega
          have hjm2:(k:Int)-1=(j:Int):=by omega
          go_wp2;go_ret;exact⟨rfl,K.out⟩
def XV (w:World) (v:Value) (zs:List Int):Prop:=∃a len cap,v=.slice a len cap∧((a=none∧len=0∧cap=0∧zs=[])∨∃x,a=some x∧len≤cap∧cap≤maxLen∧zs.length=cap∧(∀i,i<zs.length→w.cell? (x.add i)=some (.int .u8 (zs.getD i 0)))∧∀n ∈ zs,(Lit.int .u8 n).wf=true)
theorem LadderEdges_walk (v:Value) (zs:List Int) (n:Int) (w:World) (hE:Vec.jR w) (h:XV w v zs) (hn:(Lit.int .u16 n).wf=true):Calls Tryz.prog 6 #[v,.int .u16 n] w fun e w'=>e=.returned (.bool true)∧Kept w w':=by
 obtain⟨a,len,cap,rfl,h⟩:=h;rcases h with ⟨rfl,rfl,rfl,rfl⟩ | ⟨x,rfl,hl,hm,hz,hcell,hwz⟩
 · exact edges_walk none 0 0 [] n w hE (by decide) (.inl rfl) hn
 · refine edges_walk (some x) len cap zs n w hE (by unfold maxLen at hm;omega) ?_ hn;by_cases h0:len=0
   · exact .inl h0
   · obtain⟨b,off,spot⟩:=x;have hc:=hcell 0 (by omega);have hspot:spot=none:=by simpa [Addr.add] using World.cell?_spot hc
     subst hspot;refine .inr ⟨b,off,rfl,fun i hi=>?_⟩;have e:zs.getD i 0=zs[i]'(by omega):=by simp[List.getD,show i<zs.length by omega]
     have hb:=bounds_u8 (hwz _ (List.getElem_mem (show i<zs.length by omega)));have h9:=hcell i (by omega);refine⟨?_,by rw[e];omega,by rw[e];omega⟩;by_cases hi0:i=0
     · subst hi0;simpa [Addr.add] using h9
     · simpa [Addr.add,hi0] using h9
end Go.Proofs.YtnfojaidmnccoaaGreatDoor
