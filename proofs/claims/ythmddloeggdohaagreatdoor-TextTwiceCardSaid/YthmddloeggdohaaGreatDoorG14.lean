/- What serves all packages,and package by package the contracts of the functions that the law calls. -/
import Derived.Test.YthmddloeggdohaaGreatDoorG0
import Derived.Test.YthmddloeggdohaaGreatDoorG1
import Derived.Test.YthmddloeggdohaaGreatDoorG2
import Derived.Test.YthmddloeggdohaaGreatDoorG3
import Derived.Test.YthmddloeggdohaaGreatDoorG4
import Derived.Test.YthmddloeggdohaaGreatDoorG5
import Derived.Test.YthmddloeggdohaaGreatDoorG6
import Derived.Test.YthmddloeggdohaaGreatDoorG7
import Derived.Test.YthmddloeggdohaaGreatDoorG8
import Derived.Test.YthmddloeggdohaaGreatDoorG12
import Derived.Test.YthmddloeggdohaaGreatDoorG13
set_option linter.unusedVariables false
set_option maxRecDepth 100000
set_option maxHeartbeats 25600000
namespace Go.Proofs.YthmddloeggdohaaGreatDoor
open Go.RowKit Go.Shelf
theorem jbS (B:Nat) (q:Nat) (x y:Int) (w:World) (hq:w.cell? ⟨q,0,none⟩=some (.int .i64 y)) (hzq:w.frozen? ⟨q,0,none⟩=false) (hBq:B≤q) :
 CallsD Tryz.prog 48 #[.pointer (some ⟨q,0,none⟩)] (.panicking [ju x]) w fun e u' w' =>
  e=.returned (.tuple #[])∧u'=.panicking [{ ju x with recovered:=true }]∧w'=w.setCell ⟨q,0,none⟩ (.int .i64 x)∧w'.cell? ⟨q,0,none⟩=some (.int .i64 x)∧Below B w w':=by
 have hta:∀W,(Instr.typeAssert (.iface 32 (.int .i64 x)) 20 32 false).run Tryz.prog W=.ok (.int .i64 x) W:=fun _=>by kernel_rfl
 refine callsD_of_wpS Tryz.func48 rfl fun c₀ cs hu=>?_;apply wpS_seq;apply wpS_region;simp[wpOpsS,go_sem,recoverD,hu,Tryz.ntmps48,Exit.thenS];apply wpS_seq;apply wpS_region;simp[wpOpsS,go_sem,recoverD,Exit.thenS];refine wpS_cond (t:=true) (by simp[Act.eval,Array.replicate]) ?_;simp only[if_true];refine wpS_of_wp ?_;simp[Array.replicate];go_wp2;simp[bodyPostS,results,Tryz.results48];exact⟨World.cell?_setCell_same' _ _ _ (by rw[hq];rfl),(Below.refl B w).setCell (p:=⟨q,0,none⟩) hBq _⟩
theorem jfk (q:Addr) (w:World) :
 CallsD Tryz.prog 48 #[.pointer (some q)] .returning w fun e u' w'=>e=.returned (.tuple #[])∧u'=.returning∧w'=w:=by
 refine callsD_of_wpS Tryz.func48 rfl fun c₀ cs hu=>?_;apply wpS_seq;apply wpS_region;simp[wpOpsS,go_sem,recoverD,hu,Tryz.ntmps48,Exit.thenS];apply wpS_seq;apply wpS_region;simp[wpOpsS,go_sem,recoverD,hu,Exit.thenS];refine wpS_cond (t:=false) (by simp[Act.eval,Array.replicate]) ?_;simp only[Bool.false_eq_true,if_false];refine wpS_of_wp (wp_skip ?_)
 cases c₀
 simp_all [bodyPostS,results,Tryz.results48]
def jdJ (R:Nat) (c:Int) (k:Nat) (s:Clu) (w:World) (e:Ending) (w':World):Prop :=
 jc (fun b=>b=R) w w'∧(c≠0→∃v1 v2 v3,e=.panicked [ju c]∧jf R [v1,v2,v3,.int .i64 (k:Int)] w')∧(c=0→∃v,e=.returned v∧qE w.heap.size w' v s)
def XJ (ms:List jD):Int:=if (jF ⟨[],[],[]⟩ 0 ms).1≠0 then (jF ⟨[],[],[]⟩ 0 ms).1 else zB (jF ⟨[],[],[]⟩ 0 ms).2.2
theorem jak.tx {R:Nat} {ms:List jD} {w w':World} {e:Ending} (h:jak R ms w e w'):jdJ R (XJ ms) (jF ⟨[],[],[]⟩ 0 ms).2.1 (jF ⟨[],[],[]⟩ 0 ms).2.2 w e w':=by
 obtain⟨h1,h2,h3⟩:=h;refine⟨h1,fun hc=>?_,fun hc=>?_⟩
 · obtain⟨c,v1,v2,v3,rfl,he,hr⟩:=h2 (by
    unfold XJ at hc;split at hc
    · exact .inl (by assumption)
    · exact .inr hc)
   exact⟨v1,v2,v3,he,hr⟩
 · unfold XJ at hc;split at hc
   · exact absurd hc (by assumption)
   · exact h3 (Decidable.not_not.1 ‹_›) hc
theorem jgA (B:Nat) (w:World):qE B w (.agg #[.slice none 0 0,.slice none 0 0,.slice none 0 0]) ⟨[],[],[]⟩:=fun W _=>(jW.none (fun _=>False) 0 W).toR
theorem qF {w:World} {v:Value} {s:Clu} (h:Zl w v s):∃a1 p1 a2 p2 a3 p3,v=.agg #[.slice a1 s.nodes.length p1,.slice a2 s.pods.length p2,.slice a3 s.buds.length p3]:=by
 obtain⟨u1,u2,u3,hu,⟨a1,p1,e1,_,_,_⟩,⟨a2,p2,e2,_,_,_⟩,⟨a3,p3,e3,_,_,_⟩⟩:=h;exact⟨a1,p1,a2,p2,a3,p3,by rw[hu,e1,e2,e3]⟩
theorem jkB (R Q:Nat) (t:List UInt8) (c:Int) (k:Nat) (s:Clu) (w:World) (h1:w.cell? ⟨Q,0,none⟩=some (.string (bytes t))) (hRw:R<w.heap.size) (hP:∀W,Kept w W→Calls Tryz.prog 22 #[.pointer (some ⟨R,0,none⟩),.string (bytes t)] W (jdJ R c k s W)) :
 Calls Tryz.prog 21 #[.pointer (some ⟨R,0,none⟩),.pointer (some ⟨Q,0,none⟩)] w (jdJ R c k s w):=by
 obtain⟨Z,hZ⟩:∃Z,w.alloc (.cells #[.slice none 0 0,.slice none 0 0,.slice none 0 0] 26)=Z:=⟨_,rfl⟩
 have hk:Kept w Z:=by rw[←hZ];exact ja _ _
 have hzs:Z.heap.size=w.heap.size+1:=by rw[←hZ];simp
 have hcc:=cell_later hk h1;have HP:=lH (hP Z hk);have HK:=lH hk;have HZB:=lH (show Z.heap[w.heap.size]?=some (.cells #[.slice none 0 0,.slice none 0 0,.slice none 0 0] 26 (0,0)) by rw[←hZ];exact World.alloc_heap_new w _);have HZS:=lH hzs;clear h1 hk hP hzs;go_enter Tryz.func21,Tryz.ntmps21;go_wp2_with fail
 try rw[hZ]
 refine HP.out.mono ?_;rintro e w2 ⟨g,g1,g0⟩;have G:=lH g;have HB2:=lH ((g.block _ (by have:=HZS.out;omega) (by omega)).trans HZB.out);have HQ2:=lH (ja2 HB2.out);by_cases hx:c=0
 · obtain⟨v,rfl,hn⟩:=g0 hx;have HX:=lH hx;obtain⟨a1,p1,a2,p2,a3,p3,rfl⟩:=qF hn.here;have HN:=lH hn;clear g0 g1 g hx hZ hn;have P:=lH (J7 (vs:=[.slice a1 s.nodes.length p1,.slice a2 s.pods.length p2,.slice a3 s.buds.length p3]) HQ2.out rfl);have GE:=lH (jc.cells (S:=fun b=>b=w.heap.size) w.heap.size rfl [.slice a1 s.nodes.length p1,.slice a2 s.pods.length p2,.slice a3 s.buds.length p3] 0 w2);have y0:=HQ2.out.at_ 0 _ rfl;have y1:=HQ2.out.at_ 1 _ rfl;have y2:=HQ2.out.at_ 2 _ rfl;have x0:=HQ2.out.free 0;have x1:=HQ2.out.free 1;have x2:=HQ2.out.free 2;go_wp2;obtain⟨WE,hWE⟩:∃W,w2.setCells w.heap.size 0 [.slice a1 s.nodes.length p1,.slice a2 s.pods.length p2,.slice a3 s.buds.length p3]=W:=⟨_,rfl⟩
   have hWE2:(((w2.setCell ⟨w.heap.size,0,none⟩ (.slice a1 s.nodes.length p1)).setCell ⟨w.heap.size,1,none⟩ (.slice a2 s.pods.length p2)).setCell ⟨w.heap.size,2,none⟩ (.slice a3 s.buds.length p3))=WE:=hWE;rw[hWE] at P GE;rw[hWE2];clear hWE hWE2 y0 x0 y1 x1 y2 x2;obtain⟨PC,hsz,hbl,hkp⟩:=P.out;refine bodyPost_ret (by simp[results,Tryz.results21,go_sem,PC.at_ 0 _ rfl,PC.at_ 1 _ rfl,PC.at_ 2 _ rfl];try rfl) rfl ?_;exact⟨((jc.of HK.out).join G.out (fun i hi e=>e)).join GE.out (fun i hi e=>by omega),fun h=>absurd HX.out h,fun _=>⟨_,rfl,HN.out.step (GE.out.mono fun b e=>by have:=HZS.out;omega) (by have:=HZS.out;omega)⟩⟩
 · obtain⟨v1,v2,v3,rfl,hr⟩:=g1 hx;have HX:=lH hx;have HRR:=lH hr;clear g0 g1 g hx hZ hr;go_wp2;exact⟨rfl,(jc.of HK.out).join G.out (fun i hi e=>e),fun _=>⟨v1,v2,v3,rfl,HRR.out⟩,fun h=>absurd h HX.out⟩
def jnY (R:Nat) (c:Int) (k:Nat) (s:Clu) (w:World) (e:Ending) (w':World):Prop:=∃v,e=.returned (.tuple #[v,.int .i64 c])∧qE w.heap.size w' v (if c=0 then s else ⟨[],[],[]⟩)∧jc (fun b=>b=R) w w'∧(c≠0→∃v1 v2 v3,jf R [v1,v2,v3,.int .i64 (k:Int)] w')
theorem jfK (R Q:Nat) (c:Int) (k:Nat) (s:Clu) (w:World) (hRw:R<w.heap.size) (hk:∀W,Kept w W→Calls Tryz.prog 21 #[.pointer (some ⟨R,0,none⟩),.pointer (some ⟨Q,0,none⟩)] W (jdJ R c k s W)) :
 Calls Tryz.prog 20 #[.func (.func 21) #[] #[.pointer (some ⟨R,0,none⟩),.pointer (some ⟨Q,0,none⟩)]] w (jnY R c k s w):=by
 have hmf:=hmfL (P:=Tryz.prog);obtain⟨Z,hZ⟩:∃Z,(w.alloc (.cells #[.slice none 0 0,.slice none 0 0,.slice none 0 0] 26)).alloc (.cells #[.int .i64 0] 32)=Z:=⟨_,rfl⟩
 have hkz:Kept w Z:=by rw[←hZ];exact jk _ _ _
 have hzs:Z.heap.size=w.heap.size+2:=by rw[←hZ];simp
 have HK:=lH hkz;have HZB:=lH (show Z.heap[w.heap.size]?=some (.cells #[.slice none 0 0,.slice none 0 0,.slice none 0 0] 26 (0,0)) by rw[←hZ];exact(Below.heap_alloc _ _ _ (by simp)).trans (World.alloc_heap_new w _));have HZE:=lH (show jf (w.heap.size+1) [.int .i64 0] Z by
  have:=jg (w.alloc (.cells #[.slice none 0 0,.slice none 0 0,.slice none 0 0] 26)) (.int .i64 0) [] 32 Z (by rw[hZ];exact Kept.refl _);rw[World.size_alloc] at this;exact this)
 have HZS:=lH hzs;have HKC:=lH (hk Z hkz);clear hk hkz hzs;go_enter_defers Tryz.func20,Tryz.ntmps20
 go_wp2_with fail
 try rw[hZ]
 refine HKC.out.mono ?_;rintro e1 w1 ⟨g,h1,h0⟩;have G:=lH g;have HB1:=lH ((g.block _ (by have:=HZS.out;omega) (by omega)).trans HZB.out);have HQ1:=lH (ja2 HB1.out);have HE1:=lH (HZE.out.block (g.block _ (by have:=HZS.out;omega) (by omega)));have hws:w.heap.size+1<w1.heap.size:=by have:=g.size;have:=HZS.out;omega
 have ze:=HE1.out.at_ 0 _ rfl;have zf:=HE1.out.free 0;have GW:=lH ((jc.of HK.out).join G.out (fun i hi e=>e));by_cases hx:c=0
 · subst hx;obtain⟨v,rfl,hn⟩:=h0 rfl;obtain⟨a1,p1,a2,p2,a3,p3,rfl⟩:=qF hn.here;have HN:=lH hn;clear h0 h1 g hZ hn;have P:=lH (J7 (vs:=[.slice a1 s.nodes.length p1,.slice a2 s.pods.length p2,.slice a3 s.buds.length p3]) HQ1.out rfl);have GE:=lH (jc.cells (S:=fun b=>b=w.heap.size) w.heap.size rfl [.slice a1 s.nodes.length p1,.slice a2 s.pods.length p2,.slice a3 s.buds.length p3] 0 w1);have y0:=HQ1.out.at_ 0 _ rfl;have y1:=HQ1.out.at_ 1 _ rfl;have y2:=HQ1.out.at_ 2 _ rfl;have x0:=HQ1.out.free 0;have x1:=HQ1.out.free 1;have x2:=HQ1.out.free 2;go_wp2_with fail
   obtain⟨WE,hWE⟩:∃W,w1.setCells w.heap.size 0 [.slice a1 s.nodes.length p1,.slice a2 s.pods.length p2,.slice a3 s.buds.length p3]=W:=⟨_,rfl⟩
   have hWE2:(((w1.setCell ⟨w.heap.size,0,none⟩ (.slice a1 s.nodes.length p1)).setCell ⟨w.heap.size,1,none⟩ (.slice a2 s.pods.length p2)).setCell ⟨w.heap.size,2,none⟩ (.slice a3 s.buds.length p3))=WE:=hWE;rw[hWE] at P GE;rw[hWE2];clear hWE hWE2 y0 x0 y1 x1 y2 x2;obtain⟨PC,hsz,hbl,hkp⟩:=P.out;have HNE:=lH (HN.out.step (B':=w.heap.size+2) (GE.out.mono fun b e=>by have:=HZS.out;omega) (by have:=HZS.out;omega));have ez:jf (w.heap.size+1) [.int .i64 0] WE:=HE1.out.block (hbl _ (by omega));have hb2:∀b,b≠w.heap.size+1→(WE.setCell ⟨w.heap.size+1,0,none⟩ (.int .i64 0)).heap[b]?=WE.heap[b]?:=fun b hb=>Below.heap_setCell WE ⟨w.heap.size+1,0,none⟩ _ b hb;have FE:=lH (ez.set (j:=0) (u:=.int .i64 0) (by simp));have FQ:=lH (PC.block (hb2 w.heap.size (by omega)));have GF:=lH ((GW.out.join GE.out (fun i hi e=>by omega)).join (jc.cell (S:=fun b=>b=w.heap.size+1) (a:=WE) (w.heap.size+1) 0 (.int .i64 0) rfl) (fun i hi e=>by omega));have NF:=lH (show qE w.heap.size (WE.setCell ⟨w.heap.size+1,0,none⟩ (.int .i64 0)) (.agg #[.slice a1 s.nodes.length p1,.slice a2 s.pods.length p2,.slice a3 s.buds.length p3]) s from HNE.out.step ((jc.cell (S:=fun b=>b=w.heap.size+1) (a:=WE) (w.heap.size+1) 0 (.int .i64 0) rfl).mono fun b e=>by omega) (by omega));obtain⟨WF,hWF⟩:∃W,WE.setCell ⟨w.heap.size+1,0,none⟩ (.int .i64 0)=W:=⟨_,rfl⟩
   rw[hWF] at FE FQ GF NF ⊢;have fe:=FE.out.at_ 0 _ rfl;clear hWF hb2 ez P hbl hkp PC ze zf;refine leaves_cons (f:=48) (args:=#[.pointer (some ⟨w.heap.size+1,0,none⟩)]) (by simp) (by simp[go_sem]) ?_;refine(jfk ⟨w.heap.size+1,0,none⟩ _).mono ?_;rintro e u' w'' ⟨rfl,rfl,rfl⟩;simp[Leaves,settle,results,Tryz.results20,go_sem,fe,FQ.out.at_ 0 _ rfl,FQ.out.at_ 1 _ rfl,FQ.out.at_ 2 _ rfl];exact⟨_,rfl,by rw[if_pos rfl];exact NF.out,GF.out,fun h=>absurd rfl h⟩
 · obtain⟨v1,v2,v3,rfl,hr⟩:=h1 hx;have HX:=lH hx;have HRR:=lH hr;clear h0 h1 g hZ hx hr;go_wp2_with fail
   refine leaves_cons (f:=48) (args:=#[.pointer (some ⟨w.heap.size+1,0,none⟩)]) (by simp) (by simp[go_sem]) ?_;refine(jbS w.heap.size (w.heap.size+1) c 0 _ ze zf (by omega)).mono ?_;rintro e u' w'' ⟨rfl,rfl,rfl,q2,q3⟩;have hb2:∀b,b≠w.heap.size+1→(w1.setCell ⟨w.heap.size+1,0,none⟩ (.int .i64 c)).heap[b]?=w1.heap[b]?:=fun b hb=>Below.heap_setCell w1 ⟨w.heap.size+1,0,none⟩ _ b hb;have FQ:=lH (HQ1.out.block (hb2 w.heap.size (by omega)));have FR:=lH (HRR.out.block (hb2 R (by omega)));have GF:=lH (GW.out.join (jc.cell (S:=fun b=>b=w.heap.size+1) (a:=w1) (w.heap.size+1) 0 (.int .i64 c) rfl) (fun i hi e=>by omega));obtain⟨WF,hWF⟩:∃W,w1.setCell ⟨w.heap.size+1,0,none⟩ (.int .i64 c)=W:=⟨_,rfl⟩
   rw[hWF] at q2 FQ FR GF ⊢;clear hWF hb2 q3 ze zf;simp[Leaves,settle,results,Tryz.results20,go_sem,q2,FQ.out.at_ 0 _ rfl,FQ.out.at_ 1 _ rfl,FQ.out.at_ 2 _ rfl];exact⟨_,rfl,by rw[if_neg HX.out];exact jgA _ _,GF.out,fun _=>⟨v1,v2,v3,FR.out⟩⟩
def ZO (c:Int) (k:Nat) (s:Clu) (w:World) (e:Ending) (w':World):Prop:=∃v,e=.returned (.tuple #[v,.int .i64 (if c=0 then 0 else (k:Int)),.int .i64 c])∧qE w.heap.size w' v (if c=0 then s else ⟨[],[],[]⟩)∧Kept w w'
theorem jcO (t:List UInt8) (c:Int) (k:Nat) (s:Clu) (w:World) (hP:∀W,Kept w W→jf (w.heap.size+2) [.slice none 0 0,.slice none 0 0,.slice none 0 0,.int .i64 0] W→w.heap.size+2<W.heap.size→Calls Tryz.prog 22 #[.pointer (some ⟨w.heap.size+2,0,none⟩),.string (bytes t)] W (jdJ (w.heap.size+2) c k s W)) :
 Calls Tryz.prog 8 #[.string (bytes t)] w (ZO c k s w):=by
 have hmf:=hmfL (P:=Tryz.prog);obtain⟨Y,hY⟩:∃Y,(w.alloc (.cells #[.string (bytes t)] 9)).alloc (.cells #[.slice none 0 0,.slice none 0 0,.slice none 0 0] 26)=Y:=⟨_,rfl⟩
 have hky:Kept w Y:=by rw[←hY];exact jk _ _ _
 have hys:Y.heap.size=w.heap.size+2:=by rw[←hY];simp
 have hyb:Y.heap[w.heap.size+1]?=some (.cells #[.slice none 0 0,.slice none 0 0,.slice none 0 0] 26 (0,0)):=by
  have:=(w.alloc (.cells #[.string (bytes t)] 9)).alloc_heap_new (.cells #[.slice none 0 0,.slice none 0 0,.slice none 0 0] 26);rw[World.size_alloc,hY] at this;exact this
 obtain⟨Z,hZ⟩:∃Z,Y.alloc (.cells #[.slice none 0 0,.slice none 0 0,.slice none 0 0,.int .i64 0] 70)=Z:=⟨_,rfl⟩
 have hkz:Kept w Z:=by rw[←hZ];exact hky.trans (ja _ _)
 have hzs:Z.heap.size=w.heap.size+3:=by rw[←hZ,World.size_alloc,hys]
 have hzc:Z.cell? ⟨w.heap.size,0,none⟩=some (.string (bytes t)):=(jg w (.string (bytes t)) [] 9 Z (by rw[←hZ,←hY];exact(ja _ _).trans (ja _ _))).at_ 0 _ rfl;have hzb:Z.heap[w.heap.size+1]?=some (.cells #[.slice none 0 0,.slice none 0 0,.slice none 0 0] 26 (0,0)):=by rw[←hZ];exact(Below.heap_alloc _ _ _ (by omega)).trans hyb
 have hzr:jf (w.heap.size+2) [.slice none 0 0,.slice none 0 0,.slice none 0 0,.int .i64 0] Z:=by
  have:=jg Y (.slice none 0 0) [.slice none 0 0,.slice none 0 0,.int .i64 0] 70 Z (by rw[hZ];exact Kept.refl _);rw[hys] at this;exact this
 have hZY:((w.alloc (.cells #[.string (bytes t)] 9)).alloc (.cells #[.slice none 0 0,.slice none 0 0,.slice none 0 0] 26)).alloc (.cells #[.slice none 0 0,.slice none 0 0,.slice none 0 0,.int .i64 0] 70)=Z:=by rw[hY];exact hZ
 have HK:=lH hkz;have HZS:=lH hzs;have HZB:=lH hzb;have HC:=lH (jfK (w.heap.size+2) w.heap.size c k s Z (by omega) (fun W kw=>jkB (w.heap.size+2) w.heap.size t c k s W (cell_later kw hzc) (by have:=kw.size;omega) (fun W' k'=>hP W' (hkz.trans (kw.trans k')) (hzr.kept (kw.trans k')) (by have:=kw.size;have:=k'.size;omega))));clear hP hzc hkz hzs hzr hky hys hyb hzb hZ hY;go_enter Tryz.func8,Tryz.ntmps8;go_wp2_with fail
 try rw[hZY]
 clear hZY;refine HC.out.mono ?_;rintro e w1 ⟨v,rfl,hn,g,hl⟩;obtain⟨m,hm⟩:∃m,(if c=0 then s else ⟨[],[],[]⟩)=m:=⟨_,rfl⟩
 rw[hm] at hn;obtain⟨a1,p1,a2,p2,a3,p3,rfl⟩:=qF hn.here;have HN:=lH hn;have G:=lH g;have HL:=lH hl;have HM:=lH hm;have HB1:=lH ((g.block _ (by have:=HZS.out;omega) (by omega)).trans HZB.out);have HQ1:=lH (ja2 HB1.out);clear hn g hl hm;have y0:(w1.alloc (.cells #[.slice a1 m.nodes.length p1,.slice a2 m.pods.length p2,.slice a3 m.buds.length p3] 26)).cell? ⟨w.heap.size+1,0,none⟩=some (.slice none 0 0):=(HQ1.out.kept (ja _ _)).at_ 0 _ rfl;have x0:(w1.alloc (.cells #[.slice a1 m.nodes.length p1,.slice a2 m.pods.length p2,.slice a3 m.buds.length p3] 26)).frozen? ⟨w.heap.size+1,0,none⟩=false:=(HQ1.out.kept (ja _ _)).free 0;have y1:(w1.alloc (.cells #[.slice a1 m.nodes.length p1,.slice a2 m.pods.length p2,.slice a3 m.buds.length p3] 26)).cell? ⟨w.heap.size+1,1,none⟩=some (.slice none 0 0):=(HQ1.out.kept (ja _ _)).at_ 1 _ rfl;have x1:(w1.alloc (.cells #[.slice a1 m.nodes.length p1,.slice a2 m.pods.length p2,.slice a3 m.buds.length p3] 26)).frozen? ⟨w.heap.size+1,1,none⟩=false:=(HQ1.out.kept (ja _ _)).free 1;have y2:(w1.alloc (.cells #[.slice a1 m.nodes.length p1,.slice a2 m.pods.length p2,.slice a3 m.buds.length p3] 26)).cell? ⟨w.heap.size+1,2,none⟩=some (.slice none 0 0):=(HQ1.out.kept (ja _ _)).at_ 2 _ rfl;have x2:(w1.alloc (.cells #[.slice a1 m.nodes.length p1,.slice a2 m.pods.length p2,.slice a3 m.buds.length p3] 26)).frozen? ⟨w.heap.size+1,2,none⟩=false:=(HQ1.out.kept (ja _ _)).free 2;by_cases hx:c=0
 · have hxb:(c != 0)=false:=by simpa using hx
   go_wp2;have P:=lH (J7 (vs:=[.slice a1 m.nodes.length p1,.slice a2 m.pods.length p2,.slice a3 m.buds.length p3]) (HQ1.out.kept (ja w1 (.cells #[.slice a1 m.nodes.length p1,.slice a2 m.pods.length p2,.slice a3 m.buds.length p3] 26))) rfl);have GE:=lH (jc.cells (S:=fun b=>b=w.heap.size+1) (w.heap.size+1) rfl [.slice a1 m.nodes.length p1,.slice a2 m.pods.length p2,.slice a3 m.buds.length p3] 0 (w1.alloc (.cells #[.slice a1 m.nodes.length p1,.slice a2 m.pods.length p2,.slice a3 m.buds.length p3] 26)));obtain⟨WE,hWE⟩:∃W,(w1.alloc (.cells #[.slice a1 m.nodes.length p1,.slice a2 m.pods.length p2,.slice a3 m.buds.length p3] 26)).setCells (w.heap.size+1) 0 [.slice a1 m.nodes.length p1,.slice a2 m.pods.length p2,.slice a3 m.buds.length p3]=W:=⟨_,rfl⟩
   have hWE2:((((w1.alloc (.cells #[.slice a1 m.nodes.length p1,.slice a2 m.pods.length p2,.slice a3 m.buds.length p3] 26)).setCell ⟨w.heap.size+1,0,none⟩ (.slice a1 m.nodes.length p1)).setCell ⟨w.heap.size+1,1,none⟩ (.slice a2 m.pods.length p2)).setCell ⟨w.heap.size+1,2,none⟩ (.slice a3 m.buds.length p3))=WE:=hWE;rw[hWE] at P GE;rw[hWE2];clear hWE hWE2 y0 x0 y1 x1 y2 x2;obtain⟨PC,hsz,hbl,hkp⟩:=P.out;refine bodyPost_ret (by simp[results,Tryz.results8,go_sem,PC.at_ 0 _ rfl,PC.at_ 1 _ rfl,PC.at_ 2 _ rfl];try rfl) rfl ?_;have gW:jc (fun b=>w.heap.size≤b) w WE:=((jc.of HK.out).join G.out (fun i hi e=>by omega)).join ((jc.of (ja w1 (.cells #[.slice a1 m.nodes.length p1,.slice a2 m.pods.length p2,.slice a3 m.buds.length p3] 26))).join GE.out (fun i hi e=>e)) (fun i hi e=>by omega);exact⟨_,by rw[if_pos hx,hx],(by rw[HM.out];exact HN.out.step (B':=w.heap.size) (((jc.of (ja w1 (.cells #[.slice a1 m.nodes.length p1,.slice a2 m.pods.length p2,.slice a3 m.buds.length p3] 26))).join (S:=fun b=>b=w.heap.size+1) GE.out (fun i hi e=>e)).mono fun b e=>by have:=HZS.out;omega) (by have:=HZS.out;omega)),⟨gW.os,gW.tape,gW.output,gW.size,fun i hi=>gW.block i hi (by omega)⟩⟩
 · have hxb:(c != 0)=true:=by simpa using hx
   obtain⟨v1,v2,v3,hr⟩:=HL.out hx;clear y0 x0 y1 x1 y2 x2;go_wp2;have KV:Kept w1 (w1.alloc (.cells #[.slice a1 m.nodes.length p1,.slice a2 m.pods.length p2,.slice a3 m.buds.length p3] 26)).drew:=(ja _ _).trans (Kept.drew _);obtain⟨V,hV⟩:∃V,(w1.alloc (.cells #[.slice a1 m.nodes.length p1,.slice a2 m.pods.length p2,.slice a3 m.buds.length p3] 26)).drew=V:=⟨_,rfl⟩
   rw[hV] at KV;have HKV:=lH KV;have r3:V.cell? ⟨w.heap.size+1+1,3,none⟩=some (.int .i64 (k:Int)):=(hr.kept KV).at_ 3 _ rfl;have HQV:=lH (HQ1.out.kept KV);clear hr KV;refine wp_region_held_drew (S:=fun W=>W.cell? ⟨w.heap.size+1+1,3,none⟩=some (.int .i64 (k:Int))) (by kernel_rfl) (by rw[hV];exact r3) (fun hHeld=>?_);rw[hV];clear hV hHeld;refine tkJ 0 ?_;refine tkJ 1 ?_;refine tkJ 2 ?_;refine tkJ 3 ?_;try simp only[nP]
   have y0:=HQV.out.at_ 0 _ rfl;have y1:=HQV.out.at_ 1 _ rfl;have y2:=HQV.out.at_ 2 _ rfl;have x0:=HQV.out.free 0;have x1:=HQV.out.free 1;have x2:=HQV.out.free 2;refine rd1 4 fun K9 hK9=>?_;go_simp;have P:=lH (J7 (vs:=[.slice none 0 0,.slice none 0 0,.slice none 0 0]) HQV.out rfl);have GE:=lH (jc.cells (S:=fun b=>b=w.heap.size+1) (w.heap.size+1) rfl [.slice none 0 0,.slice none 0 0,.slice none 0 0] 0 V);obtain⟨WE,hWE⟩:∃W,V.setCells (w.heap.size+1) 0 [.slice none 0 0,.slice none 0 0,.slice none 0 0]=W:=⟨_,rfl⟩
   have hWE2:(((V.setCell ⟨w.heap.size+1,0,none⟩ (.slice none 0 0)).setCell ⟨w.heap.size+1,1,none⟩ (.slice none 0 0)).setCell ⟨w.heap.size+1,2,none⟩ (.slice none 0 0))=WE:=hWE;rw[hWE] at P GE;rw[hWE2];clear hWE hWE2 y0 x0 y1 x1 y2 x2;obtain⟨PC,hsz,hbl,hkp⟩:=P.out;have r4:WE.cell? ⟨w.heap.size+1+1,3,none⟩=some (.int .i64 (k:Int)):=(World.cell?_of_block (a:=⟨w.heap.size+1+1,3,none⟩) (hbl _ (by simp))).trans r3;refine hK9.out _ _ r4 (fun hHeld=>?_);clear hK9 K9;try simp only[nP]
   refine tkJ 5 ?_;refine tkJ 6 ?_;try simp only[nP]
   refine wpAnyH_done (by kernel_rfl) ?_ _;go_wp2;refine bodyPost_ret (by simp[results,Tryz.results8,go_sem,PC.at_ 0 _ rfl,PC.at_ 1 _ rfl,PC.at_ 2 _ rfl];try rfl) rfl ?_;have gW:jc (fun b=>w.heap.size≤b) w WE:=((jc.of HK.out).join G.out (fun i hi e=>by omega)).join ((jc.of HKV.out).join GE.out (fun i hi e=>e)) (fun i hi e=>by omega);exact⟨_,by rw[if_neg hx],(by rw[if_neg hx];exact jgA _ _),⟨gW.os,gW.tape,gW.output,gW.size,fun i hi=>gW.block i hi (by omega)⟩⟩
open Go.RowKit
theorem jmt (ls:List (List UInt8)) (ms:List jD) (w:World) (hE:Jf w) (hlen:(unL ls).length≤900000) (hl:ls.length=ms.length) (hm:∀(k:Nat) (l:List UInt8),ls[k]?=some l→ZU l∧∃m:jD,ms[k]?=some m∧Jv l m) (hlow:∀n ∈ (jF ⟨[],[],[]⟩ 0 ms).2.2.nodes,zO n) :
 Calls Tryz.prog 8 #[.string (bytes (unL ls))] w (ZO (XJ ms) (jF ⟨[],[],[]⟩ 0 ms).2.1 (jF ⟨[],[],[]⟩ 0 ms).2.2 w):=by
 have hn:∀l ∈ ls,ZU l:=fun l h=>by
  obtain⟨k,hk,e⟩:=List.getElem_of_mem h;exact(hm k l (by rw[List.getElem?_eq_getElem hk,e])).1
 refine jcO (unL ls) _ _ _ w fun W k hc hlt=>(jgF w (w.heap.size+2) (unL ls) ms W hE k (by omega) hlen (by rw[jbx hn,List.length_map];exact hl.symm) (fun j p hp=>?_) hc hlt hlow).mono fun _ _ h=>h.tx;rw[jbx hn,List.getElem?_map] at hp;obtain⟨l,h1,rfl⟩:=Option.map_eq_some_iff.1 hp;obtain⟨m,h2,h3⟩:=(hm j l h1).2;exact⟨m,h2,by rw[jgy];exact h3⟩
theorem jiQ (ls:List (List UInt8)) (l9:List UInt8) (ms:List jD) (m9:jD) (w:World) (hE:Jf w) (hlen:(unL ls++l9).length≤900000) (hl:ls.length=ms.length) (hm:∀(k:Nat) (l:List UInt8),ls[k]?=some l→ZU l∧∃m:jD,ms[k]?=some m∧Jv l m) (h9:ZU l9) (h8:l9≠[]) (hm9:Jv l9 m9) (hlow:∀n ∈ (jF ⟨[],[],[]⟩ 0 (ms++[m9])).2.2.nodes,zO n) :
 Calls Tryz.prog 8 #[.string (bytes (unL ls++l9))] w (ZO (XJ (ms++[m9])) (jF ⟨[],[],[]⟩ 0 (ms++[m9])).2.1 (jF ⟨[],[],[]⟩ 0 (ms++[m9])).2.2 w):=by
 have hn:∀l ∈ ls,ZU l:=fun l h=>by
  obtain⟨k,hk,e⟩:=List.getElem_of_mem h;exact(hm k l (by rw[List.getElem?_eq_getElem hk,e])).1
 refine jcO (unL ls++l9) _ _ _ w fun W k hc hlt=>(jgF w (w.heap.size+2) (unL ls++l9) (ms++[m9]) W hE k (by omega) hlen (by rw[jcm hn h9 h8];simp[hl]) (fun j p hp=>?_) hc hlt hlow).mono fun _ _ h=>h.tx;rw[jcm hn h9 h8] at hp;by_cases hj:j<ls.length
 · rw[List.getElem?_append_left (by simpa using hj),List.getElem?_map] at hp;obtain⟨l,h1,rfl⟩:=Option.map_eq_some_iff.1 hp;obtain⟨m,h2,h3⟩:=(hm j l h1).2;exact⟨m,by rw[List.getElem?_append_left (by omega)];exact h2,by rw[jgy];exact h3⟩
 · rw[List.getElem?_append_right (by simpa using hj),List.length_map] at hp;by_cases hj2:j-ls.length=0
   · rw[hj2] at hp;obtain rfl:l9=p:=by simpa using hp
     exact⟨m9,by rw[List.getElem?_append_right (by omega),show j-ms.length=0 by omega];rfl,by rw[jjD h9];exact hm9⟩
   · obtain⟨q,hq⟩:∃q,j-ls.length=q+1:=⟨j-ls.length-1,by omega⟩
     rw[hq] at hp;simp at hp
def JL:jD→List UInt8
 | .node n=>[110,111,100,101]++32::(za n).data.toList
 | .pod n=>[112,111,100]++32::(jY n).data.toList
 | .bud n=>[98,117,100,103,101,116]++32::(j5 n).data.toList
 | _=>[]
def msC (s:Clu):List jD:=s.nodes.map .node++(s.pods.map .pod++s.buds.map .bud)
theorem Y8 (s:Clu):Zh s=(msC s).map JL:=by
 unfold Zh msC;simp only[List.map_append,List.map_map];rfl
structure jfu (s:Clu):Prop where
 n:∀n ∈ s.nodes,jU n=0∧Vec.zp n.cap∧(za n).size≤900000
 p:∀n ∈ s.pods,zV n=0∧Vec.zp n.need∧(jY n).size≤900000
 b:∀n ∈ s.buds,zx n=0∧(j5 n).size≤900000
theorem jet {x y:List UInt8} (hx:(10:UInt8) ∉ x) (hy:(10:UInt8) ∉ y):ZU (x++32::y):=fun c hc e=>ZR hx hy (e▸hc)
theorem qH {s:Clu} (h:jfu s):∀m ∈ msC s,ZU (JL m)∧Jv (JL m) m∧m≠.bad∧JL m≠[]∧((∃n ∈ s.nodes,m=.node n)∨(∃n ∈ s.pods,m=.pod n)∨(∃n ∈ s.buds,m=.bud n)):=by
 intro m hm;unfold msC at hm;rcases List.mem_append.1 hm with hm | hm
 · obtain⟨n,hn,rfl⟩:=List.mem_map.1 hm;obtain⟨g1,g2,g3⟩:=h.n n hn;exact⟨jet (by decide) (jnL g1),qf g1 g2 g3,(fun e=>by cases e),(fun e=>by cases e),.inl ⟨n,hn,rfl⟩⟩
 · rcases List.mem_append.1 hm with hm | hm
   · obtain⟨n,hn,rfl⟩:=List.mem_map.1 hm;obtain⟨g1,g2,g3⟩:=h.p n hn;exact⟨jet (by decide) (joj g1),jbK g1 g2 g3,(fun e=>by cases e),(fun e=>by cases e),.inr (.inl ⟨n,hn,rfl⟩)⟩
   · obtain⟨n,hn,rfl⟩:=List.mem_map.1 hm;obtain⟨g1,g3⟩:=h.b n hn;exact⟨jet (by decide) (jnW g1),jeJ g1 g3,(fun e=>by cases e),(fun e=>by cases e),.inr (.inr ⟨n,hn,rfl⟩)⟩
theorem jb8 {α β:Type}:∀(l:List α),l.filterMap (fun _=>(none:Option β))=[]
 | []=>rfl
 | _::t=>by rw[List.filterMap_cons];exact jb8 t
theorem jlb (s:Clu):ZM (msC s)=s.nodes:=by
 unfold ZM msC;simp[List.filterMap_append,List.filterMap_map,Function.comp_def,jb8]
theorem jmr (s:Clu):Yv (msC s)=s.pods:=by
 unfold Yv msC;simp[List.filterMap_append,List.filterMap_map,Function.comp_def,jb8]
theorem jlB (s:Clu):Yu (msC s)=s.buds:=by
 unfold Yu msC;simp[List.filterMap_append,List.filterMap_map,Function.comp_def,jb8]
theorem jnF {s:Clu} {ms:List jD} (ho:YY s) (hf:jfu s) (hp:ms.Perm (msC s)):jF ⟨[],[],[]⟩ 0 ms=(0,ms.length,s) :=
 qQ ho (fun m hm=>(qH hf m (hp.subset hm)).2.2.1) (by rw[←jlb s];exact hp.filterMap _) (by rw[←jmr s];exact hp.filterMap _) (by rw[←jlB s];exact hp.filterMap _)
def Yc (l:List Bd):Bool:=decide (l.length≤20)&&l.all ZS
theorem jgZ {l:List Bd} {n:Bd} {k:Nat} (h:l[k]?=some n) (g:ZS n=false):Yc l=false:=by
 unfold Yc;have:l.all ZS=false:=by
  rw[List.all_eq_false];exact⟨n,List.mem_of_getElem? h,by rw[g];decide⟩
 rw[this];simp
theorem jk2 (a:Option Addr) (len cap:Nat) (l:List Bd) (w:World) (hr:Je w a len l) :
 Calls Tryz.prog 23 #[.slice a len cap] w (Say (.bool (Yc l)) w):=by
 have hl:=hr.1;have hm:=hr.2.1;unfold maxLen at hm;by_cases h20:20<len
 · have HV:=lH (show Yc l=false by unfold Yc;rw[hl];simp;omega);clear hr hl;go_enter Tryz.func23,Tryz.ntmps23;go_wp2;go_ret;exact⟨jh HV.out.symm,Kept.refl _⟩
 · have h20':len≤20:=by omega
   by_cases h0:len=0
   · subst h0;have HV:=lH (show Yc l=true by rw[List.eq_nil_of_length_eq_zero hl];rfl);clear hr hl h20;go_enter Tryz.func23,Tryz.ntmps23;go_wp2;refine wp_loop_rounds 1 ?_;rw[rounds_succ];go_wp2;go_ret;exact⟨jh HV.out.symm,Kept.refl _⟩
   · obtain⟨b,off,rfl⟩:=hr.form.resolve_left h0;have HR:=lH hr;have HL:=lH hl;clear hr hl h0 h20;go_enter Tryz.func23,Tryz.ntmps23;go_wp2;go_loopw [3] (fun i wr=>∃k:Nat,k≤len∧i=.int .i64 k∧(∀n ∈ l.take k,ZS n=true)∧Kept w wr) (fun i _=>len-(intOf i).toNat)
     case atStart=>exact⟨0,Nat.zero_le _,rfl,(fun n h=>by cases h),Kept.refl _⟩
     case round =>
      obtain⟨k,hk,rfl,hrest,hK⟩:=hrel;have HS:=lH hrest;have HK:=lH hK;by_cases hlt:k<len
      · obtain⟨n,a1,m1,c1,hn,hd,hb,p0,p1,p2,hat⟩:=(HR.out.kept hK).at_ hlt;have HN:=lH hn;have HAT:=lH hat;clear hrest hK hat hd hn;by_cases z:50<n.name.size
        · have z1:(50:Int)<(n.name.size:Int):=by omega
          have HV:=lH (show Yc l=false from jgZ HN.out (by unfold ZS;simp;omega));clear z;go_wp2;go_ret;exact⟨jh HV.out.symm,HK.out⟩
        · have z1:(n.name.size:Int)≤50:=by omega
          have Z2:=lH (show n.name.size≤50 by omega);clear z
          cases f:Ys n.sel with
          | false =>
           have HV:=lH (show Yc l=false from jgZ HN.out (by unfold ZS;rw[f];simp));have HF:=lH (jex HAT.out.sel);rw[f] at HF;clear f;go_wp2_with fail
           refine HF.out.mono ?_;rintro e w1 ⟨rfl,rfl⟩;go_wp2;go_ret;exact⟨jh HV.out.symm,HK.out⟩
          | true =>
           have HV:=lH (show ZS n=true by unfold ZS;rw[f];simp;exact Z2.out);have HF:=lH (jex HAT.out.sel);rw[f] at HF;clear f;go_wp2_with fail
           refine HF.out.mono ?_;rintro e w1 ⟨rfl,rfl⟩;go_wp2;go_roundw
           case rel=>exact⟨k+1,by omega,by go_num,(fun x hx=>by
            rw[zW HN.out] at hx;rcases List.mem_append.1 hx with hx | hx
            · exact HS.out x hx
            · obtain rfl:x=n:=by simpa using hx
              exact HV.out),HK.out⟩
           case measure=>simp[intOf];omega
      · have HV:=lH (show Yc l=true by
         have e:l.take k=l:=List.take_of_length_le (by rw[HL.out];omega);rw[e] at hrest;unfold Yc;rw[List.all_eq_true.2 hrest,HL.out];simp;omega)
        clear hrest hK;go_wp2;go_ret;exact⟨jh HV.out.symm,HK.out⟩
theorem jn9 {v:Value} {l:List Bd} {c:Bool} {w:World} (h:ZQ w v l) (hc:Yc l=c):Calls Tryz.prog 23 #[v] w (Say (.bool c) w):=by
 subst hc;obtain⟨a,cap,rfl,_,_,hr⟩:=h;exact jk2 a _ cap l w hr
theorem jkF (n:Pd) (v1 v2 v3 v4:Value) (w:World) (h:zl w v1 v2 v3 v4 n) :
 Calls Tryz.prog 25 #[JQ n v1 v2 v3 v4] w (Say (.bool (Ji n)) w):=by
 obtain⟨x0,x1,x2,l1,l2,l3,l4,x3,x4,x5,x6⟩:=n;obtain⟨W0,hW0⟩:∃W0,w.alloc (.cells #[.string x0,.string x1,.int .i64 x2,v1,v2,v3,v4,.string x3,.int .i64 x4,.string x5,.bool x6] 62)=W0:=⟨_,rfl⟩
 have hk0:Kept w W0:=by rw[←hW0];exact ja _ _
 have hc:=jg w (.string x0) [.string x1,.int .i64 x2,v1,v2,v3,v4,.string x3,.int .i64 x4,.string x5,.bool x6] 62 W0 (by rw[hW0];exact Kept.refl _);have s0:x0.size≤maxLen:=h.name;have s1:x1.size≤maxLen:=h.owner;have s2:x3.size≤maxLen:=h.key;have s3:x5.size≤maxLen:=h.node;unfold maxLen at s0 s1 s2 s3;obtain⟨b0,hb0⟩:∃b,decide (x0.size≤50)=b:=⟨_,rfl⟩
 obtain⟨b1,hb1⟩:∃b,decide (x1.size≤50)=b:=⟨_,rfl⟩
 obtain⟨b2,hb2⟩:∃b,decide (x3.size≤50)=b:=⟨_,rfl⟩
 obtain⟨b3,hb3⟩:∃b,decide (x5.size≤50)=b:=⟨_,rfl⟩
 obtain⟨b4,hb4⟩:∃b,Vec.Zv l1=b:=⟨_,rfl⟩
 obtain⟨b5,hb5⟩:∃b,Yt l2=b:=⟨_,rfl⟩
 obtain⟨b6,hb6⟩:∃b,Ys l3=b:=⟨_,rfl⟩
 obtain⟨b7,hb7⟩:∃b,J5 l4=b:=⟨_,rfl⟩
 have HV0:=lH (show Ji ⟨x0,x1,x2,l1,l2,l3,l4,x3,x4,x5,x6⟩=(b0&&(b1&&(b2&&(b3&&(b4&&(b5&&(b6&&b7))))))) by unfold Ji;dsimp only;rw[hb0,hb1,hb2,hb3,hb4,hb5,hb6,hb7]);have E4:=lH (show Calls Tryz.prog 55 #[v1] W0 _ from Vec.jf9 (h.need.kept hk0) hb4);have E5:=lH (show Calls Tryz.prog 56 #[v2] W0 fun e w'=>e=.returned (.bool b5)∧W0=w' by rw[←hb5];exact jf9 (h.labels.kept hk0));have E6:=lH (show Calls Tryz.prog 54 #[v3] W0 fun e w'=>e=.returned (.bool b6)∧W0=w' by rw[←hb6];exact jex (h.sel.kept hk0));have E7:=lH (show Calls Tryz.prog 58 #[v4] W0 fun e w'=>e=.returned (.bool b7)∧W0=w' by rw[←hb7];exact jo0 (h.tols.kept hk0));have HK0:=lH hk0;have g0:decide ((x0.size:Int)≤50)=b0:=by rw[←hb0];simp only[decide_eq_decide];omega
 have g1:decide ((x1.size:Int)≤50)=b1:=by rw[←hb1];simp only[decide_eq_decide];omega
 have g2:decide ((x3.size:Int)≤50)=b2:=by rw[←hb2];simp only[decide_eq_decide];omega
 have g3:decide ((x5.size:Int)≤50)=b3:=by rw[←hb3];simp only[decide_eq_decide];omega
 have c0:=hc.at_ 0 _ rfl;have c1:=hc.at_ 1 _ rfl;have c3:=hc.at_ 3 _ rfl;have c4:=hc.at_ 4 _ rfl;have c5:=hc.at_ 5 _ rfl;have c6:=hc.at_ 6 _ rfl;have c7:=hc.at_ 7 _ rfl;have c9:=hc.at_ 9 _ rfl;clear hk0 h hc hb0 hb1 hb2 hb3 hb4 hb5 hb6 hb7;unfold JQ;dsimp only
 cases b0 with
 | false =>
  have g0:50<(x0.size:Int):=by have:=of_decide_eq_false g0;omega
  have HV:=lH (show Ji ⟨x0,x1,x2,l1,l2,l3,l4,x3,x4,x5,x6⟩=false by rw[HV0.out];simp);go_enter Tryz.func25,Tryz.ntmps25;go_wp2;try rw[hW0]
  go_ret;exact⟨jh HV.out.symm,HK0.out⟩
 | true =>
  have g0:(x0.size:Int)≤50:=of_decide_eq_true g0
  cases b1 with
  | false =>
   have g1:50<(x1.size:Int):=by have:=of_decide_eq_false g1;omega
   have HV:=lH (show Ji ⟨x0,x1,x2,l1,l2,l3,l4,x3,x4,x5,x6⟩=false by rw[HV0.out];simp);go_enter Tryz.func25,Tryz.ntmps25;go_wp2;try rw[hW0]
   go_ret;exact⟨jh HV.out.symm,HK0.out⟩
  | true =>
   have g1:(x1.size:Int)≤50:=of_decide_eq_true g1
   cases b2 with
   | false =>
    have g2:50<(x3.size:Int):=by have:=of_decide_eq_false g2;omega
    have HV:=lH (show Ji ⟨x0,x1,x2,l1,l2,l3,l4,x3,x4,x5,x6⟩=false by rw[HV0.out];simp);go_enter Tryz.func25,Tryz.ntmps25;go_wp2;try rw[hW0]
    go_ret;exact⟨jh HV.out.symm,HK0.out⟩
   | true =>
    have g2:(x3.size:Int)≤50:=of_decide_eq_true g2
    cases b3 with
    | false =>
     have g3:50<(x5.size:Int):=by have:=of_decide_eq_false g3;omega
     have HV:=lH (show Ji ⟨x0,x1,x2,l1,l2,l3,l4,x3,x4,x5,x6⟩=false by rw[HV0.out];simp);go_enter Tryz.func25,Tryz.ntmps25;go_wp2;try rw[hW0]
     go_ret;exact⟨jh HV.out.symm,HK0.out⟩
    | true =>
     have g3:(x5.size:Int)≤50:=of_decide_eq_true g3
     cases b4 with
     | false =>
      have HV:=lH (show Ji ⟨x0,x1,x2,l1,l2,l3,l4,x3,x4,x5,x6⟩=false by rw[HV0.out];simp);go_enter Tryz.func25,Tryz.ntmps25;go_wp2_with fail
      try rw[hW0]
      refine E4.out.mono ?_;rintro e w9 ⟨rfl,rfl⟩;go_wp2;go_ret;exact⟨jh HV.out.symm,HK0.out⟩
     | true =>
      cases b5 with
      | false =>
       have HV:=lH (show Ji ⟨x0,x1,x2,l1,l2,l3,l4,x3,x4,x5,x6⟩=false by rw[HV0.out];simp);go_enter Tryz.func25,Tryz.ntmps25;go_wp2_with fail
       try rw[hW0]
       refine E4.out.mono ?_;rintro e w9 ⟨rfl,rfl⟩;go_wp2_with fail
       refine E5.out.mono ?_;rintro e w9 ⟨rfl,rfl⟩;go_wp2;go_ret;exact⟨jh HV.out.symm,HK0.out⟩
      | true =>
       cases b6 with
       | false =>
        have HV:=lH (show Ji ⟨x0,x1,x2,l1,l2,l3,l4,x3,x4,x5,x6⟩=false by rw[HV0.out];simp);go_enter Tryz.func25,Tryz.ntmps25;go_wp2_with fail
        try rw[hW0]
        refine E4.out.mono ?_;rintro e w9 ⟨rfl,rfl⟩;go_wp2_with fail
        refine E5.out.mono ?_;rintro e w9 ⟨rfl,rfl⟩;go_wp2_with fail
        refine E6.out.mono ?_;rintro e w9 ⟨rfl,rfl⟩;go_wp2;go_ret;exact⟨jh HV.out.symm,HK0.out⟩
       | true =>
        have HV:=lH (show Ji ⟨x0,x1,x2,l1,l2,l3,l4,x3,x4,x5,x6⟩=b7 by rw[HV0.out];rfl);go_enter Tryz.func25,Tryz.ntmps25;go_wp2_with fail
        try rw[hW0]
        refine E4.out.mono ?_;rintro e w9 ⟨rfl,rfl⟩;go_wp2_with fail
        refine E5.out.mono ?_;rintro e w9 ⟨rfl,rfl⟩;go_wp2_with fail
        refine E6.out.mono ?_;rintro e w9 ⟨rfl,rfl⟩;go_wp2_with fail
        refine E7.out.mono ?_;rintro e w9 ⟨rfl,rfl⟩;go_wp2;go_ret;exact⟨jh HV.out.symm,HK0.out⟩
theorem jol {v:Value} {n:Pd} {b:Bool} {w:World} (h:jf7 w v n) (hb:Ji n=b):Calls Tryz.prog 25 #[v] w (Say (.bool b) w):=by
 subst hb;obtain⟨v1,v2,v3,v4,rfl,h⟩:=h;exact jkF n v1 v2 v3 v4 w h
def XV (s:Clu):Bool:=decide (s.nodes.length≤34)&&(decide (s.pods.length≤130)&&(Yc s.buds&&(s.nodes.all JK&&s.pods.all Ji)))
theorem jaV {a:Option Addr} {len cap:Nat} {l:List Nod} {w:World} (h1:len≤cap) (h2:cap≤maxLen) (h:j0 w a len l):Zf w (.slice a len cap) l:=⟨a,cap,by rw[h.1],by rw[h.1];exact h1,h2,by rw[h.1];exact h⟩
theorem jiH {a:Option Addr} {len cap:Nat} {l:List Pd} {w:World} (h1:len≤cap) (h2:cap≤maxLen) (h:Jd w a len l):Yw w (.slice a len cap) l:=⟨a,cap,by rw[h.1],by rw[h.1];exact h1,h2,by rw[h.1];exact h⟩
theorem jek {a:Option Addr} {len cap:Nat} {l:List Bd} {w:World} (h1:len≤cap) (h2:cap≤maxLen) (h:Je w a len l):ZQ w (.slice a len cap) l:=⟨a,cap,by rw[h.1],by rw[h.1];exact h1,h2,by rw[h.1];exact h⟩
theorem jiE {α:Type} {f:α→Bool} {l:List α} {k:Nat} {x:α} (hd:l.drop k=x::l.drop (k+1)) (h:f x=true) (hr:(l.drop k).all f=l.all f):(l.drop (k+1)).all f=l.all f:=by
 rw[←hr,hd,List.all_cons,h,Bool.true_and]
theorem jg2 {α:Type} {f:α→Bool} {l:List α} {k:Nat} {x:α} (hd:l.drop k=x::l.drop (k+1)) (h:f x=false) (hr:(l.drop k).all f=l.all f):l.all f=false:=by
 rw[←hr,hd,List.all_cons,h,Bool.false_and]
theorem jib {α:Type} {f:α→Bool} {l:List α} {k:Nat} (h:l.length≤k) (hr:(l.drop k).all f=l.all f):l.all f=true:=by
 rw[←hr,List.drop_of_length_le h];rfl
theorem jos {v:Value} {s:Clu} {c:Bool} {w:World} (h:Zl w v s) (hc:XV s=c):Calls Tryz.prog 9 #[v] w (Say (.bool c) w):=by
 subst hc;obtain⟨v1,v2,v3,rfl,⟨a,cap,rfl,l1,m1,h1⟩,⟨b,cp,rfl,l2,m2,h2⟩,⟨d,cb,rfl,l3,m3,h3⟩⟩:=h;obtain⟨nl,pl,bl⟩:=s;dsimp only at *;obtain⟨len,hlen⟩:∃q,nl.length=q:=⟨_,rfl⟩
 obtain⟨m,hm⟩:∃q,pl.length=q:=⟨_,rfl⟩
 obtain⟨n,hn⟩:∃q,bl.length=q:=⟨_,rfl⟩
 rw[hlen] at h1 l1;rw[hm] at h2 l2;rw[hn] at h3 l3;try rw[hlen]
 try rw[hm]
 try rw[hn]
 skip;obtain⟨Z,hZ⟩:∃Z,w.alloc (.cells #[.slice a len cap,.slice b m cp,.slice d n cb] 26)=Z:=⟨_,rfl⟩
 have hkz:Kept w Z:=by rw[←hZ];exact ja _ _
 have HQ:=lH (show jf w.heap.size [.slice a len cap,.slice b m cp,.slice d n cb] Z from jg w (.slice a len cap) [.slice b m cp,.slice d n cb] 26 Z (by rw[hZ];exact Kept.refl _));obtain⟨e3,he3⟩:∃e,Yc bl=e:=⟨_,rfl⟩
 have HB:=lH (jn9 (jek l3 m3 (h3.kept hkz)) he3);have HV:=lH (show XV ⟨nl,pl,bl⟩=(decide (len≤34)&&(decide (m≤130)&&(e3&&(nl.all JK&&pl.all Ji)))) by unfold XV;dsimp only;rw[hlen,hm,he3]);have HN:=lH (h1.kept hkz);have HP:=lH (h2.kept hkz);have HKZ:=lH hkz;have HM1:=lH (Nat.le_trans l1 m1);have HM2:=lH (Nat.le_trans l2 m2);have HL1:=lH hlen;have HL2:=lH hm;have hml1:=Nat.le_trans l1 m1;have hml2:=Nat.le_trans l2 m2;unfold maxLen at hml1 hml2;clear h1 h2 h3 l1 l2 l3 m1 m2 m3 he3 hkz;have cq0:=HQ.out.at_ 0 _ rfl;have cq1:=HQ.out.at_ 1 _ rfl;have cq2:=HQ.out.at_ 2 _ rfl;by_cases hA:34<len
 · have HX:=lH (HV.out.trans (by rw[decide_eq_false (show ¬len≤34 by omega),Bool.false_and]));have hA':(34:Int)<(len:Int):=by omega
   rw[HX.out];go_enter Tryz.func9,Tryz.ntmps9;go_wp2;try rw[hZ]
   go_ret;exact⟨rfl,HKZ.out⟩
 by_cases hB:130<m
 · have HX:=lH (HV.out.trans (by rw[decide_eq_true (show len≤34 by omega),decide_eq_false (show ¬m≤130 by omega),Bool.false_and,Bool.and_false]));have hA':¬(34:Int)<(len:Int):=by omega
   have hB':(130:Int)<(m:Int):=by omega
   rw[HX.out];go_enter Tryz.func9,Tryz.ntmps9;go_wp2;try rw[hZ]
   go_ret;exact⟨rfl,HKZ.out⟩
 have hA':¬(34:Int)<(len:Int):=by omega
 have hB':¬(130:Int)<(m:Int):=by omega
 have HX:=lH (HV.out.trans (by rw[decide_eq_true (show len≤34 by omega),decide_eq_true (show m≤130 by omega),Bool.true_and,Bool.true_and]));rw[HX.out];clear HV HX;go_enter Tryz.func9,Tryz.ntmps9;go_wp2_with fail
 try rw[hZ]
 clear hZ;refine HB.out.mono ?_;rintro e w1 ⟨rfl,kk⟩;have KW:=lH kk;clear kk cq0 cq1 cq2 HB
 cases e3 with
 | false =>
  go_wp2;go_ret;exact⟨rfl,HKZ.out.trans KW.out⟩
 | true =>
  have cq0:=(HQ.out.kept KW.out).at_ 0 _ rfl;have cq1:=(HQ.out.kept KW.out).at_ 1 _ rfl;have cq2:=(HQ.out.kept KW.out).at_ 2 _ rfl;go_wp2;go_loopw [3] (fun i wr=>∃k:Nat,k≤len∧i=.int .i64 k∧(nl.drop k).all JK=nl.all JK∧Kept Z wr) (fun i _=>len-(intOf i).toNat)
  case atStart=>exact⟨0,Nat.zero_le _,rfl,rfl,KW.out⟩
  case round =>
   clear cq0 cq1 cq2;obtain⟨k,hk,rfl,hrest,hK⟩:=hrel;have HS:=lH hrest;have KN:=lH hK;have cq0:=(HQ.out.kept hK).at_ 0 _ rfl;have cq1:=(HQ.out.kept hK).at_ 1 _ rfl;have cq2:=(HQ.out.kept hK).at_ 2 _ rfl;by_cases hlt:k<len
   · obtain⟨b9,off,rfl⟩:=HN.out.form.resolve_left (by omega);obtain⟨n9,x1,y1,z1,x2,y2,z2,x3,y3,z3,hn,hd,hb,p0,p1,p2,p3,p4,hat⟩:=(HN.out.kept hK).at_ hlt;have HD:=lH hd;obtain⟨t,ht⟩:∃t,JK n9=t:=⟨_,rfl⟩
     have HT:=lH ht;have HC:=lH (show Calls Tryz.prog 24 #[Jy n9 (.slice x1 y1 z1) (.slice x2 y2 z2) (.slice x3 y3 z3)] wr (Say (.bool t) wr) from jne ⟨_,_,_,rfl,hat⟩ ht);unfold Jy at HC;have hkk:(k:Int)<(len:Int):=by omega
     clear hrest hK hat hn hd ht
     cases t with
     | false =>
      have HF:=lH (jg2 HD.out HT.out HS.out);go_wp2_with fail
      refine HC.out.mono ?_;rintro e w9 ⟨rfl,kk⟩;have KW:=lH (KN.out.trans kk);clear kk;go_wp2;go_ret;exact⟨by rw[HF.out];simp,HKZ.out.trans KW.out⟩
     | true =>
      have HF:=lH (jiE HD.out HT.out HS.out);go_wp2_with fail
      refine HC.out.mono ?_;rintro e w9 ⟨rfl,kk⟩;have KW:=lH (KN.out.trans kk);clear kk cq0 cq1 cq2;go_wp2;go_roundw
      case rel=>exact⟨k+1,by omega,by go_num,HF.out,KW.out⟩
      case measure=>simp[intOf];omega
   · have HL1F:=lH (jib (by rw[HL1.out];omega) hrest);have hkk:¬(k:Int)<(len:Int):=by omega
     clear hrest hK;clear cq0 cq1 cq2;have cq0:=(HQ.out.kept KN.out).at_ 0 _ rfl;have cq1:=(HQ.out.kept KN.out).at_ 1 _ rfl;have cq2:=(HQ.out.kept KN.out).at_ 2 _ rfl;go_wp2;go_loopw [4] (fun i wr=>∃k:Nat,k≤m∧i=.int .i64 k∧(pl.drop k).all Ji=pl.all Ji∧Kept Z wr) (fun i _=>m-(intOf i).toNat)
     case atStart=>exact⟨0,Nat.zero_le _,rfl,rfl,KN.out⟩
     case round =>
      clear cq0 cq1 cq2;obtain⟨k,hk,rfl,hrest,hK⟩:=hrel;have HS:=lH hrest;have KP:=lH hK;have cq0:=(HQ.out.kept hK).at_ 0 _ rfl;have cq1:=(HQ.out.kept hK).at_ 1 _ rfl;have cq2:=(HQ.out.kept hK).at_ 2 _ rfl;by_cases hlt:k<m
      · obtain⟨b9,off,rfl⟩:=HP.out.form.resolve_left (by omega);obtain⟨n9,x1,y1,z1,x2,y2,z2,x3,y3,z3,x4,y4,z4,hn,hd,hb,p0,p1,p2,p3,p4,p5,p6,p7,p8,p9,p10,hat⟩:=(HP.out.kept hK).at_ hlt;have HD:=lH hd;obtain⟨t,ht⟩:∃t,Ji n9=t:=⟨_,rfl⟩
        have HT:=lH ht;have HC:=lH (show Calls Tryz.prog 25 #[JQ n9 (.slice x1 y1 z1) (.slice x2 y2 z2) (.slice x3 y3 z3) (.slice x4 y4 z4)] wr (Say (.bool t) wr) from jol ⟨_,_,_,_,rfl,hat⟩ ht);unfold JQ at HC;have hkk:(k:Int)<(m:Int):=by omega
        clear hrest hK hat hn hd ht
        cases t with
        | false =>
         have HF:=lH (jg2 HD.out HT.out HS.out);go_wp2_with fail
         refine HC.out.mono ?_;rintro e w9 ⟨rfl,kk⟩;have KW:=lH (KP.out.trans kk);clear kk;go_wp2;go_ret;exact⟨by rw[HF.out];simp,HKZ.out.trans KW.out⟩
        | true =>
         have HF:=lH (jiE HD.out HT.out HS.out);go_wp2_with fail
         refine HC.out.mono ?_;rintro e w9 ⟨rfl,kk⟩;have KW:=lH (KP.out.trans kk);clear kk cq0 cq1 cq2;go_wp2;go_roundw
         case rel=>exact⟨k+1,by omega,by go_num,HF.out,KW.out⟩
         case measure=>simp[intOf];omega
      · have HL2F:=lH (jib (by rw[HL2.out];omega) hrest);have hkk:¬(k:Int)<(m:Int):=by omega
        clear hrest hK;go_wp2;go_ret;exact⟨by rw[HL1F.out,HL2F.out];rfl,HKZ.out.trans KP.out⟩
theorem jj2 (a:Option Addr) (len cap:Nat) (l:List Nod) (x:ByteArray) (w:World) (hr:j0 w a len l) :
 Calls Tryz.prog 29 #[.slice a len cap,.string x] w fun e w'=>∃v,e=.returned (.tuple #[v,.bool (jT l x).isSome])∧jcY w' v ((jT l x).getD Nod.zero)∧Kept w w':=by
 have hl:=hr.1;have hm:=hr.2.1;unfold maxLen at hm;obtain⟨Z,hZ⟩:∃Z,w.alloc (.cells #[.string ⟨#[]⟩,.slice none 0 0,.slice none 0 0,.slice none 0 0,.bool false] 89)=Z:=⟨_,rfl⟩
 have hkz:Kept w Z:=by rw[←hZ];exact ja _ _
 have HQ:=lH (show zU w.heap.size (.string ⟨#[]⟩) (.slice none 0 0) (.slice none 0 0) (.slice none 0 0) (.bool false) Z from YC w _ _ _ _ _ 89 Z (by rw[hZ];exact Kept.refl _));have HH:=lH (show Z.heap[w.heap.size]?=some (.cells #[.string ⟨#[]⟩,.slice none 0 0,.slice none 0 0,.slice none 0 0,.bool false] 89) by rw[←hZ];exact w.alloc_heap_new _);have HKZ:=lH hkz;have HR:=lH (hr.kept hkz);have HL:=lH hl;obtain⟨⟨y0,y1,y2,y3,y4⟩,x0,x1,x2,x3,x4⟩:=HQ.out;have P0:=lH (Xk ⟨y0,y1,y2,y3,y4⟩ ⟨#[]⟩ none none none 0 0 0 0 0 0 false);by_cases h0:len=0
 · subst h0;have hl0:l=[]:=List.eq_nil_of_length_eq_zero hl;have HF:=lH (show jT l x=none by rw[hl0];rfl);clear hr hl hkz;go_enter Tryz.func29,Tryz.ntmps29;go_wp2;try rw[hZ]
   clear hZ;refine wp_loop_rounds 1 ?_;rw[rounds_succ];go_wp2;obtain⟨WE,hWE⟩:∃W,(((((Z.setCell ⟨w.heap.size,0,none⟩ (.string ⟨#[]⟩)).setCell ⟨w.heap.size,1,none⟩ (.slice none 0 0)).setCell ⟨w.heap.size,2,none⟩ (.slice none 0 0)).setCell ⟨w.heap.size,3,none⟩ (.slice none 0 0)).setCell ⟨w.heap.size,4,none⟩ (.bool false))=W:=⟨_,rfl⟩
   rw[hWE] at P0 ⊢;clear hWE y0 y1 y2 y3 y4 x0 x1 x2 x3 x4;obtain⟨⟨e0,e1,e2,e3,e4⟩,hsz,hbl,hkp⟩:=P0.out;refine bodyPost_ret (by simp[results,Tryz.results29,go_sem,e0,e1,e2,e3,e4];try rfl) rfl ?_;rw[HF.out];exact⟨_,rfl,(qt 0 _).toR,hkp _ _ (Nat.le_refl _) HKZ.out⟩
 · obtain⟨b,off,rfl⟩:=hr.form.resolve_left h0;clear hr hl hkz h0;go_enter Tryz.func29,Tryz.ntmps29;go_wp2;try rw[hZ]
   clear hZ;go_loop [6] (fun i=>∃k:Nat,k≤len∧i=.int .i64 k∧jT (l.drop k) x=jT l x) (fun i=>len-(intOf i).toNat)
   case atStart=>exact⟨0,Nat.zero_le _,rfl,rfl⟩
   case round =>
    obtain⟨k,hk,rfl,hrest⟩:=hrel;have HS:=lH hrest;by_cases hlt:k<len
    · obtain⟨n,a1,m1,c1,a2,m2,c2,a3,m3,c3,hn,hd,hb,p0,p1,p2,p3,p4,hat⟩:=HR.out.at_ hlt;have HAT:=lH hat;have HD:=lH hd;clear hrest hat hd hn;by_cases he:eqS n.name x=true
      · have he':(n.name.toList==x.toList)=true:=he;have HF:=lH (show jT l x=some n by rw[←HS.out,HD.out];unfold jT;rw[List.find?_cons,he]);have P:=lH (Xk ⟨y0,y1,y2,y3,y4⟩ n.name a1 a2 a3 m1 c1 m2 c2 m3 c3 n.cordon);obtain⟨⟨z,l1,l2,l3,cd⟩,hnn⟩:∃m,m=n:=⟨n,rfl⟩
        subst hnn;dsimp only at P he' p0 p4;clear he;go_wp2;obtain⟨WE,hWE⟩:∃W,(((((Z.setCell ⟨w.heap.size,0,none⟩ (.string z)).setCell ⟨w.heap.size,1,none⟩ (.slice a1 m1 c1)).setCell ⟨w.heap.size,2,none⟩ (.slice a2 m2 c2)).setCell ⟨w.heap.size,3,none⟩ (.slice a3 m3 c3)).setCell ⟨w.heap.size,4,none⟩ (.bool cd))=W:=⟨_,rfl⟩
        rw[hWE] at P ⊢;clear hWE y0 y1 y2 y3 y4 x0 x1 x2 x3 x4;obtain⟨⟨e0,e1,e2,e3,e4⟩,hsz,hbl,hkp⟩:=P.out;refine bodyPost_ret (by simp[results,Tryz.results29,go_sem,e0,e1,e2,e3,e4];try rfl) rfl ?_;rw[HF.out];exact⟨_,rfl,⟨_,_,_,rfl,jbN HAT.out hsz hbl (jkV HH.out)⟩,hkp _ _ (Nat.le_refl _) HKZ.out⟩
      · have he:eqS n.name x=false:=by simpa using he
        have he':(n.name.toList==x.toList)=false:=he;have HE:=lH (show jT (l.drop k) x=jT (l.drop (k+1)) x by rw[HD.out];unfold jT;rw[List.find?_cons,he]);clear he;go_wp2;go_round
        case rel=>exact⟨k+1,by omega,by go_num,HE.out.symm.trans HS.out⟩
        case measure=>simp[intOf];omega
    · have HF:=lH (show jT l x=none by rw[←hrest,List.drop_of_length_le (by rw[HL.out];omega)];rfl);clear hrest;go_wp2;obtain⟨WE,hWE⟩:∃W,(((((Z.setCell ⟨w.heap.size,0,none⟩ (.string ⟨#[]⟩)).setCell ⟨w.heap.size,1,none⟩ (.slice none 0 0)).setCell ⟨w.heap.size,2,none⟩ (.slice none 0 0)).setCell ⟨w.heap.size,3,none⟩ (.slice none 0 0)).setCell ⟨w.heap.size,4,none⟩ (.bool false))=W:=⟨_,rfl⟩
      rw[hWE] at P0 ⊢;clear hWE y0 y1 y2 y3 y4 x0 x1 x2 x3 x4;obtain⟨⟨e0,e1,e2,e3,e4⟩,hsz,hbl,hkp⟩:=P0.out;refine bodyPost_ret (by simp[results,Tryz.results29,go_sem,e0,e1,e2,e3,e4];try rfl) rfl ?_;rw[HF.out];exact⟨_,rfl,(qt 0 _).toR,hkp _ _ (Nat.le_refl _) HKZ.out⟩
theorem jkl {v:Value} {l:List Nod} {x:ByteArray} {w:World} (h:Zf w v l) :
 Calls Tryz.prog 29 #[v,.string x] w fun e w'=>∃v,e=.returned (.tuple #[v,.bool (jT l x).isSome])∧jcY w' v ((jT l x).getD Nod.zero)∧Kept w w':=by
 obtain⟨a,cap,rfl,_,_,hr⟩:=h;exact jj2 a _ cap l x w hr
end Go.Proofs.YthmddloeggdohaaGreatDoor
namespace Go.Proofs.YthmddloeggdohaaGreatDoor.Vec
open Go.RowKit
def zg:Nat→V→V→List ByteArray
 | 0,_,_=>[]
 | fuel+1,la,lb =>
  if la.length+lb.length=0 then []
  else jl la lb::zg fuel (jy la (jl la lb)).2 (jy lb (jl la lb)).2
def Zz (f:Int→Int→Int×Int) (la lb:V):List ByteArray→V→Int×V
 | [],acc=>(0,acc)
 | n::t,acc=>if (f (jN la n) (jN lb n)).2≠0 then ((f (jN la n) (jN lb n)).2,[]) else Zz f la lb t (plusV acc n (f (jN la n) (jN lb n)).1)
theorem qR {l:V} {s:ByteArray}:∀y ∈ (jy l s).2,y ∈ l:=by
 cases l with
 | nil=>intro y hy;exact hy
 | cons x t =>
  rw[Jb];split
  · exact fun y hy=>List.mem_cons_of_mem _ hy
  · exact fun y hy=>hy
theorem jbi {la lb:V} (h:0<la.length+lb.length):(∃y ∈ la,y.1=jl la lb)∨(∃y ∈ lb,y.1=jl la lb):=by
 cases la with
 | nil =>
  cases lb with
  | nil=>simp at h
  | cons y t=>exact .inr ⟨y,by simp,rfl⟩
 | cons x s =>
  cases lb with
  | nil=>exact .inl ⟨x,by simp,rfl⟩
  | cons y t =>
   rw[ZA];split
   · exact .inr ⟨y,by simp,rfl⟩
   · exact .inl ⟨x,by simp,rfl⟩
theorem jdB (f:Int→Int→Int×Int) (la0 lb0:V):∀(fuel:Nat) (la lb acc:V),Gd la→Gd lb →
 (∀n,((∃y ∈ la,y.1=n)∨(∃y ∈ lb,y.1=n))→jN la0 n=jN la n∧jN lb0 n=jN lb n) →
 Zz f la0 lb0 (zg fuel la lb) acc=JT f fuel la lb acc
 | 0,_,_,_,_,_,_=>rfl
 | fuel+1,la,lb,acc,ha,hb,h=>by
  unfold zg JT;by_cases h0:la.length+lb.length=0
  · rw[if_pos h0,if_pos h0];rfl
  · rw[if_neg h0,if_neg h0];obtain⟨hs,hsa,hsb,_⟩:=je6 ha hb (by omega);have hm:=h _ (jbi (la:=la) (lb:=lb) (by omega));obtain⟨s,es⟩:∃s,jl la lb=s:=⟨_,rfl⟩
    rw[es] at hs hsa hsb hm ⊢;obtain⟨a1,a2,a3,a4,_⟩:=jez ha hsa;obtain⟨b1,b2,b3,b4,_⟩:=jez hb hsb;rw[Zz];dsimp only;rw[hm.1,hm.2,a1,b1];split
    · rfl
    · refine jdB f la0 lb0 fuel _ _ _ a2 b2 fun n hn=>?_;have hne:n≠s:=by
       rcases hn with ⟨y,hy,rfl⟩ | ⟨y,hy,rfl⟩
       · exact(Xr (a3 y hy)).symm
       · exact(Xr (b3 y hy)).symm
      rw[a4 n hne,b4 n hne];refine h n (hn.imp ?_ ?_)
      · rintro ⟨y,hy,e⟩;exact⟨y,qR y hy,e⟩
      · rintro ⟨y,hy,e⟩;exact⟨y,qR y hy,e⟩
theorem jg5 (f:Int→Int→Int×Int) {l l':V} (h:jm l=0) (h':jm l'=0) (hf:zp l) (hf':zp l') :
 jx f l l'=(let r:=Zz f l l' (zg (l.length+l'.length) l l') [];if r.1≠0 then (r.1,[]) else if 8<r.2.length then (4,[]) else (0,r.2)):=by
 rw[jx,if_neg (by rw[h];decide),if_neg (by rw[h'];decide),jdB f l l' _ l l' [] (ql h hf) (ql h' hf') (fun n _=>⟨rfl,rfl⟩)]
theorem jla {fuel:Nat} {la lb:V} (h:la.length+lb.length=0):zg fuel la lb=[]:=by
 cases fuel with
 | zero=>rfl
 | succ n=>rw[zg,if_pos h]
theorem jdz {fuel:Nat} {l l':V} {i k:Nat} (hi:i<l.length) (h:¬k<l'.length∨(k<l'.length∧ltS (nm l i) (nm l' k)=true)) :
 zg (fuel+1) (l.drop i) (l'.drop k)=nm l i::zg fuel (l.drop (i+1)) (l'.drop k):=by
 rw[zg,if_neg (by simp only[List.length_drop];omega),drop_cons hi];rcases h with h | ⟨h,e⟩
 · rw[List.drop_of_length_le (l:=l') (by omega)];have e1:jl ((nm l i,qn l i)::l.drop (i+1)) []=nm l i:=rfl;rw[e1,Jb,if_pos (zt.2 rfl)];rfl
 · rw[drop_cons h];have e2:ltS (nm l' k) (nm l i)=false:=by
    cases e3:ltS (nm l' k) (nm l i) with
    | false=>rfl
    | true=>exact(je4 e e3).elim
   rw[ZA,if_neg (by rw[e2];decide),Jb,if_pos (zt.2 rfl),Jb,if_neg (fun c=>Xr e (zt.1 c).symm)]
theorem jcn {fuel:Nat} {l l':V} {i k:Nat} (hk:k<l'.length) (h:¬i<l.length∨(i<l.length∧ltS (nm l' k) (nm l i)=true)) :
 zg (fuel+1) (l.drop i) (l'.drop k)=nm l' k::zg fuel (l.drop i) (l'.drop (k+1)):=by
 rw[zg,if_neg (by simp only[List.length_drop];omega),drop_cons hk];rcases h with h | ⟨h,e⟩
 · rw[List.drop_of_length_le (l:=l) (by omega)];have e1:jl [] ((nm l' k,qn l' k)::l'.drop (k+1))=nm l' k:=rfl;rw[e1,Jb,if_pos (zt.2 rfl)];rfl
 · rw[drop_cons h];rw[ZA,if_pos e,Jb (nm l' k,qn l' k),if_pos (zt.2 rfl),Jb,if_neg (fun c=>Xr e (zt.1 c).symm)]
theorem jko {fuel:Nat} {l l':V} {i k:Nat} (hi:i<l.length) (hk:k<l'.length) (h1:ltS (nm l i) (nm l' k)=false) (h2:ltS (nm l' k) (nm l i)=false) :
 zg (fuel+1) (l.drop i) (l'.drop k)=nm l i::zg fuel (l.drop (i+1)) (l'.drop (k+1)):=by
 have e:=jcb h1 h2;rw[zg,if_neg (by simp only[List.length_drop];omega),drop_cons hi,drop_cons hk];rw[ZA,if_neg (by rw[h2];decide),Jb,if_pos (zt.2 rfl),Jb,if_pos (zt.2 e.symm)]
open Go.RowKit Go.Proofs.YthmddloeggdohaaGreatDoor
theorem jnC:(Tryz.prog.info? 9).map (fun i=>(i.zero,i.size,i.bytes))=some (some (.string ByteArray.empty),1,16):=by kernel_rfl
def Names (ns:List ByteArray) (w:World) (e:Ending) (w':World):Prop:=∃x,e=.returned x∧Own zy 9 w' w.heap.size x ns∧Kept w w'
theorem jky (a a':Option Addr) (len cap len' cap':Nat) (l l':V) (w:World) (hr:jt w a len l) (hr':jt w a' len' l') (h8:len≤8) (h8':len'≤8) :
 Calls Tryz.prog 105 #[.slice a len cap,.slice a' len' cap'] w (Names (zg (l.length+l'.length) l l') w):=by
 have HA:=lH hr;have HB:=lH hr';have HL:=lH hr.1;have HL':=lH hr'.1;have HF:=lH hr.2.2.1;have HF':=lH hr'.2.2.1;obtain⟨i0,hi,hz0,hz1,hz2⟩:=info_parts jnC;obtain⟨NS,hNS⟩:∃NS,zg (l.length+l'.length) l l'=NS:=⟨_,rfl⟩
 rw[hNS];have HNS:=lH hNS;clear hr hr' hNS;go_enter Tryz.func105,Tryz.ntmps105;go_wp2;go_loopw [5,6,7] (fun v vi vk wr=>∃(i k fuel:Nat) (acc:List ByteArray),i≤len∧k≤len'∧vi=.int .i64 i∧vk=.int .i64 k∧acc++zg fuel (l.drop i) (l'.drop k)=NS∧(len-i)+(len'-k)≤fuel∧Own zy 9 wr w.heap.size v acc∧Below w.heap.size w wr∧acc.length≤i+k)
  (fun _ vi vk _=>(len-(intOf vi).toNat)+(len'-(intOf vk).toNat))
 case atStart=>exact⟨0,0,l.length+l'.length,[],Nat.zero_le _,Nat.zero_le _,rfl,rfl,HNS.out,by rw[HL.out,HL'.out];omega,Own.nil _ _ _,Below.refl _ _,Nat.zero_le _⟩
 case round =>
  obtain⟨i,k,fuel,acc,hi1,hk1,rfl,rfl,hres,hfu,ho,hB,hacc⟩:=hrel;have HQ:=lH hres;have HO:=lH ho;have HB2:=lH hB;clear hres ho;by_cases hi2:i<len
  · obtain⟨b,off,rfl⟩:=HA.out.form.resolve_left (by omega);obtain⟨hb,c1,-⟩:=(HA.out.kept hB).cells hi2;have HI:=lH (show i<l.length by rw[HL.out];exact hi2);have HSI:=lH (HF.out i HI.out).1;obtain⟨f2,rfl⟩:∃f2,fuel=f2+1:=⟨fuel-1,by omega⟩
    by_cases hk2:k<len'
    · obtain⟨b',off',rfl⟩:=HB.out.form.resolve_left (by omega);obtain⟨hb',d1,-⟩:=(HB.out.kept hB).cells hk2;have HK:=lH (show k<l'.length by rw[HL'.out];exact hk2);have HSK:=lH (HF'.out k HK.out).1;have hd:decide (len'≤k)=false:=decide_eq_false (by omega);have hd2:decide (len≤i)=false:=decide_eq_false (by omega);have hi3:(i:Int)<(len:Int):=by omega
      have hk3:(k:Int)<(len':Int):=by omega
      have HS:=lH (show ∀W,Kept wr W→W.cell? ⟨b,off+i*2,none⟩=some (.string (nm l i))∧W.cell? ⟨b',off'+k*2,none⟩=some (.string (nm l' k)) from fun W kk=>⟨cell_later kk c1,cell_later kk d1⟩);clear hB;by_cases e1:ltS (nm l i) (nm l' k)=true
      · have E1:=lH e1;have e1':Op.bytesLess (nm l i).toList (nm l' k).toList=true:=e1;clear e1;have HN:=lH (show acc++[nm l i]++zg f2 (l.drop (i+1)) (l'.drop (k))=NS by rw[←HQ.out,jdz HI.out (.inr ⟨HK.out,E1.out⟩)];simp);go_wp2;clear c1 d1;refine wp_region_held_drew (S:=fun W=>W.cell? ⟨b,off+i*2,none⟩=some (.string (nm l i))∧W.cell? ⟨b',off'+k*2,none⟩=some (.string (nm l' k))) (by kernel_rfl) (HS.out _ (Kept.drew _)) (fun hHeld=>?_);refine wpAnyH_take  (i:=0) (v:=?_) (by rw[List.getElem?_toArray];exact rfl) (by kernel_rfl) (by kernel_rfl) (by kernel_rfl) (by exact fun _ _ _ h=>h) (Or.inl ⟨by rfl,(by rintro W ⟨c1,d1⟩;go_simp<;>with_reducible rfl)⟩) (by assumption) ?_;try simp only[nP]
        refine wpAnyH_take  (i:=1) (v:=?_) (by rw[List.getElem?_toArray];exact rfl) (by kernel_rfl) (by kernel_rfl) (by kernel_rfl) (by exact fun _ _ _ h=>h) (Or.inl ⟨by rfl,(by rintro W ⟨c1,d1⟩;go_simp<;>with_reducible rfl)⟩) (by assumption) ?_;try simp only[nP]
        refine wpAnyH_take  (i:=2) (v:=?_) (by rw[List.getElem?_toArray];exact rfl) (by kernel_rfl) (by kernel_rfl) (by kernel_rfl) (by exact fun _ _ _ h=>h) (Or.inl ⟨by rfl,(by rintro W ⟨c1,d1⟩;go_simp<;>with_reducible rfl)⟩) (by assumption) ?_;try simp only[nP]
        refine wpAnyH_take  (i:=3) (v:=?_) (by rw[List.getElem?_toArray];exact rfl) (by kernel_rfl) (by kernel_rfl) (by kernel_rfl) (by exact fun _ _ _ h=>h) (Or.inl ⟨by rfl,(by rintro W ⟨c1,d1⟩;go_simp<;>with_reducible rfl)⟩) (by assumption) ?_;try simp only[nP]
        refine wpAnyH_take  (i:=4) (v:=?_) (by rw[List.getElem?_toArray];exact rfl) (by kernel_rfl) (by kernel_rfl) (by kernel_rfl) (by exact fun _ _ _ h=>h) (Or.inl ⟨by rfl,(by rintro W ⟨c1,d1⟩;go_simp<;>with_reducible rfl)⟩) (by assumption) ?_;try simp only[nP]
        refine wpAnyH_take  (i:=5) (v:=?_) (by rw[List.getElem?_toArray];exact rfl) (by kernel_rfl) (by kernel_rfl) (by kernel_rfl) (by exact fun _ _ _ h=>h) (Or.inl ⟨by rfl,(by rintro W ⟨c1,d1⟩;go_simp<;>with_reducible rfl)⟩) (by assumption) ?_;try simp only[nP]
        refine wpAnyH_take  (i:=6) (v:=?_) (by rw[List.getElem?_toArray];exact rfl) (by kernel_rfl) (by kernel_rfl) (by kernel_rfl) (by exact fun _ _ _ h=>h) (Or.inl ⟨by rfl,(by rintro W ⟨c1,d1⟩;go_simp<;>with_reducible rfl)⟩) (by assumption) ?_;try simp only[nP]
        refine wpAnyH_take  (i:=7) (v:=?_) (by rw[List.getElem?_toArray];exact rfl) (by kernel_rfl) (by kernel_rfl) (by kernel_rfl) (by exact fun _ _ _ h=>h) (Or.inl ⟨by rfl,(by rintro W ⟨c1,d1⟩;go_simp<;>with_reducible rfl)⟩) (by assumption) ?_;try simp only[nP]
        refine wpAnyH_take  (i:=8) (v:=?_) (by rw[List.getElem?_toArray];exact rfl) (by kernel_rfl) (by kernel_rfl) (by kernel_rfl) (by exact fun _ _ _ h=>h) (Or.inl ⟨by rfl,(by rintro W ⟨c1,d1⟩;go_simp<;>with_reducible rfl)⟩) (by assumption) ?_;try simp only[nP]
        refine wpAnyH_take  (i:=9) (v:=?_) (by rw[List.getElem?_toArray];exact rfl) (by kernel_rfl) (by kernel_rfl) (by kernel_rfl) (by exact fun _ _ _ h=>h) (Or.inl ⟨by rfl,(by rintro W ⟨c1,d1⟩;go_simp<;>with_reducible rfl)⟩) (by assumption) ?_;try simp only[nP]
        refine wpAnyH_take  (i:=10) (v:=?_) (by rw[List.getElem?_toArray];exact rfl) (by kernel_rfl) (by kernel_rfl) (by kernel_rfl) (by exact fun _ _ _ h=>h) (Or.inl ⟨by rfl,(by rintro W ⟨c1,d1⟩;go_simp<;>with_reducible rfl)⟩) (by assumption) ?_;try simp only[nP]
        refine wpAnyH_take  (i:=11) (v:=?_) (by rw[List.getElem?_toArray];exact rfl) (by kernel_rfl) (by kernel_rfl) (by kernel_rfl) (by exact fun _ _ _ h=>h) (Or.inl ⟨by rfl,(by rintro W ⟨c1,d1⟩;go_simp<;>with_reducible rfl)⟩) (by assumption) ?_;try simp only[nP]
        refine wpAnyH_take  (i:=12) (v:=?_) (by rw[List.getElem?_toArray];exact rfl) (by kernel_rfl) (by kernel_rfl) (by kernel_rfl) (by exact fun _ _ _ h=>h) (Or.inl ⟨by rfl,(by rintro W ⟨c1,d1⟩;go_simp<;>with_reducible rfl)⟩) (by assumption) ?_;try simp only[nP]
        refine wpAnyH_take  (i:=13) (v:=?_) (by rw[List.getElem?_toArray];exact rfl) (by kernel_rfl) (by kernel_rfl) (by kernel_rfl) (by exact fun _ _ _ h=>h) (Or.inl ⟨by rfl,(by rintro W ⟨c1,d1⟩;go_simp<;>with_reducible rfl)⟩) (by assumption) ?_;try simp only[nP]
        refine wpAnyH_take  (i:=14) (v:=?_) (by rw[List.getElem?_toArray];exact rfl) (by kernel_rfl) (by kernel_rfl) (by kernel_rfl) (by exact fun _ _ _ h=>h) (Or.inl ⟨by rfl,(by rintro W ⟨c1,d1⟩;go_simp<;>with_reducible rfl)⟩) (by assumption) ?_;try simp only[nP]
        refine wpAnyH_take  (i:=15) (v:=?_) (by rw[List.getElem?_toArray];exact rfl) (by kernel_rfl) (by kernel_rfl) (by kernel_rfl) (by exact fun _ _ _ h=>h) (Or.inl ⟨by rfl,(by rintro W ⟨c1,d1⟩;go_simp<;>with_reducible rfl)⟩) (by assumption) ?_;try simp only[nP]
        refine wpAnyH_take  (i:=16) (v:=?_) (by rw[List.getElem?_toArray];exact rfl) (by kernel_rfl) (by kernel_rfl) (by kernel_rfl) (by exact fun _ _ _ h=>h) (Or.inl ⟨by rfl,(by rintro W ⟨c1,d1⟩;go_simp<;>with_reducible rfl)⟩) (by assumption) ?_;try simp only[nP]
        refine wpAnyH_take  (i:=17) (v:=?_) (by rw[List.getElem?_toArray];exact rfl) (by kernel_rfl) (by kernel_rfl) (by kernel_rfl) (by exact fun _ _ _ h=>h) (Or.inl ⟨by rfl,(by rintro W ⟨c1,d1⟩;go_simp<;>with_reducible rfl)⟩) (by assumption) ?_;try simp only[nP]
        refine wpAnyH_take  (i:=18) (v:=?_) (by rw[List.getElem?_toArray];exact rfl) (by kernel_rfl) (by kernel_rfl) (by kernel_rfl) (by exact fun _ _ _ h=>h) (Or.inl ⟨by rfl,(by rintro W ⟨c1,d1⟩;go_simp<;>with_reducible rfl)⟩) (by assumption) ?_;try simp only[nP]
        refine wpAnyH_take  (i:=19) (v:=?_) (by rw[List.getElem?_toArray];exact rfl) (by kernel_rfl) (by kernel_rfl) (by kernel_rfl) (by exact fun _ _ _ h=>h) (Or.inl ⟨by rfl,(by rintro W ⟨c1,d1⟩;go_simp<;>with_reducible rfl)⟩) (by assumption) ?_;try simp only[nP]
        refine wpAnyH_take  (i:=20) (v:=?_) (by rw[List.getElem?_toArray];exact rfl) (by kernel_rfl) (by kernel_rfl) (by kernel_rfl) (by exact fun _ _ _ h=>h) (Or.inl ⟨by rfl,(by rintro W ⟨c1,d1⟩;go_simp<;>with_reducible rfl)⟩) (by assumption) ?_;try simp only[nP]
        refine wpAnyH_take  (i:=21) (v:=?_) (by rw[List.getElem?_toArray];exact rfl) (by kernel_rfl) (by kernel_rfl) (by kernel_rfl) (by exact fun _ _ _ h=>h) (Or.inl ⟨by rfl,(by rintro W ⟨c1,d1⟩;go_simp<;>with_reducible rfl)⟩) (by assumption) ?_;try simp only[nP]
        refine wpAnyH_take  (i:=22) (v:=?_) (by rw[List.getElem?_toArray];exact rfl) (by kernel_rfl) (by kernel_rfl) (by kernel_rfl) (by exact fun _ _ _ h=>h) (Or.inl ⟨by rfl,(by rintro W ⟨c1,d1⟩;go_simp<;>with_reducible rfl)⟩) (by assumption) ?_;try simp only[nP]
        refine wpAnyH_take  (i:=23) (v:=?_) (by rw[List.getElem?_toArray];exact rfl) (by kernel_rfl) (by kernel_rfl) (by kernel_rfl) (by exact fun _ _ _ h=>h) (Or.inl ⟨by rfl,(by rintro W ⟨c1,d1⟩;go_simp<;>with_reducible rfl)⟩) (by assumption) ?_;try simp only[nP]
        refine wpAnyH_done (by kernel_rfl) ?_ _;have HKW:=lH (show Kept wr (wr.drew) from(Kept.drew wr));obtain⟨c1,d1⟩:=HS.out _ HKW.out;have hbw:(wr.drew).heap.size=wr.heap.size:=rfl;obtain⟨W1,hW1⟩:∃W,wr.drew=W:=⟨_,rfl⟩
        rw[hW1] at HKW hbw c1 d1;try rw[hW1]
        try simp only[hW1]
        clear hW1;have hbase:w.heap.size≤W1.heap.size:=by rw[hbw];exact HB2.out.size
        have HBS:=lH hbase;have OK:=lH (HO.out.kept HKW.out);have hacc16:acc.length≤16:=by omega
        clear hbw;go_wp2_with (at_builtin;refine wpList_append_lies _ rfl _ _ _ rfl w.heap.size 9 i0 _ 1 16 Tryz.underlying29 hi hz0 hz1 hz2 rfl (by decide) u5 acc.length (jd zy acc) rfl (OK.out.1.alloc _) ⟨W1.heap.size,0,none⟩ 1 1 (zy.cs (nm l i)) rfl rfl (World.news_of_block (cs:=#[.string (nm l i)]) (t:=9) (fr:=(0,0)) (W1.alloc_heap_new _)) (jaM (nm l i)) (by decide) (by unfold maxLen;omega) (by omega) (by rw[World.size_alloc];exact Nat.le_succ_of_le HBS.out) (W1.heap.size+1) (World.size_alloc _ _) ?_;intro g cap1 w7 hown1 hgrow hg hlt7;refine Hid.out ?_)
        refine lH ?_;have HBW:=lH (((HB2.out.trans (Below.mono HKW.out HB2.out.size)).alloc (by exact HBS.out) _).grown hgrow (by rw[World.size_alloc];exact Nat.le_succ_of_le HBS.out) (fun j hj=>(HO.out.1.lt j hj).1));go_wp2;go_roundw
        case rel=>exact⟨i+1,k,f2,acc++[nm l i],by omega,by omega,by go_num,by go_num,HN.out,by omega,Own.snoc hown1 rfl HO.out.2 HSI.out,HBW.out,by rw[List.length_append];simp only[List.length_cons,List.length_nil];omega⟩
        case measure=>simp[intOf];omega
      · have e1:ltS (nm l i) (nm l' k)=false:=by simpa using e1
        have E1:=lH e1;have e1':Op.bytesLess (nm l i).toList (nm l' k).toList=false:=e1;clear e1;by_cases e2:ltS (nm l' k) (nm l i)=true
        · have E2:=lH e2;have e2':Op.bytesLess (nm l' k).toList (nm l i).toList=true:=e2;clear e2;have HN:=lH (show acc++[nm l' k]++zg f2 (l.drop (i)) (l'.drop (k+1))=NS by rw[←HQ.out,jcn HK.out (.inr ⟨HI.out,E2.out⟩)];simp);go_wp2;clear c1 d1;refine wp_region_held_drew (S:=fun W=>W.cell? ⟨b,off+i*2,none⟩=some (.string (nm l i))∧W.cell? ⟨b',off'+k*2,none⟩=some (.string (nm l' k))) (by kernel_rfl) (HS.out _ (Kept.drew _)) (fun hHeld=>?_);refine wpAnyH_take  (i:=0) (v:=?_) (by rw[List.getElem?_toArray];exact rfl) (by kernel_rfl) (by kernel_rfl) (by kernel_rfl) (by exact fun _ _ _ h=>h) (Or.inl ⟨by rfl,(by rintro W ⟨c1,d1⟩;go_simp<;>with_reducible rfl)⟩) (by assumption) ?_;try simp only[nP]
          refine wpAnyH_take  (i:=1) (v:=?_) (by rw[List.getElem?_toArray];exact rfl) (by kernel_rfl) (by kernel_rfl) (by kernel_rfl) (by exact fun _ _ _ h=>h) (Or.inl ⟨by rfl,(by rintro W ⟨c1,d1⟩;go_simp<;>with_reducible rfl)⟩) (by assumption) ?_;try simp only[nP]
          refine wpAnyH_take  (i:=2) (v:=?_) (by rw[List.getElem?_toArray];exact rfl) (by kernel_rfl) (by kernel_rfl) (by kernel_rfl) (by exact fun _ _ _ h=>h) (Or.inl ⟨by rfl,(by rintro W ⟨c1,d1⟩;go_simp<;>with_reducible rfl)⟩) (by assumption) ?_;try simp only[nP]
          refine wpAnyH_take  (i:=3) (v:=?_) (by rw[List.getElem?_toArray];exact rfl) (by kernel_rfl) (by kernel_rfl) (by kernel_rfl) (by exact fun _ _ _ h=>h) (Or.inl ⟨by rfl,(by rintro W ⟨c1,d1⟩;go_simp<;>with_reducible rfl)⟩) (by assumption) ?_;try simp only[nP]
          refine wpAnyH_take  (i:=4) (v:=?_) (by rw[List.getElem?_toArray];exact rfl) (by kernel_rfl) (by kernel_rfl) (by kernel_rfl) (by exact fun _ _ _ h=>h) (Or.inl ⟨by rfl,(by rintro W ⟨c1,d1⟩;go_simp<;>with_reducible rfl)⟩) (by assumption) ?_;try simp only[nP]
          refine wpAnyH_take  (i:=5) (v:=?_) (by rw[List.getElem?_toArray];exact rfl) (by kernel_rfl) (by kernel_rfl) (by kernel_rfl) (by exact fun _ _ _ h=>h) (Or.inl ⟨by rfl,(by rintro W ⟨c1,d1⟩;go_simp<;>with_reducible rfl)⟩) (by assumption) ?_;try simp only[nP]
          refine wpAnyH_take  (i:=6) (v:=?_) (by rw[List.getElem?_toArray];exact rfl) (by kernel_rfl) (by kernel_rfl) (by kernel_rfl) (by exact fun _ _ _ h=>h) (Or.inl ⟨by rfl,(by rintro W ⟨c1,d1⟩;go_simp<;>with_reducible rfl)⟩) (by assumption) ?_;try simp only[nP]
          refine wpAnyH_take  (i:=7) (v:=?_) (by rw[List.getElem?_toArray];exact rfl) (by kernel_rfl) (by kernel_rfl) (by kernel_rfl) (by exact fun _ _ _ h=>h) (Or.inl ⟨by rfl,(by rintro W ⟨c1,d1⟩;go_simp<;>with_reducible rfl)⟩) (by assumption) ?_;try simp only[nP]
          refine wpAnyH_take  (i:=8) (v:=?_) (by rw[List.getElem?_toArray];exact rfl) (by kernel_rfl) (by kernel_rfl) (by kernel_rfl) (by exact fun _ _ _ h=>h) (Or.inl ⟨by rfl,(by rintro W ⟨c1,d1⟩;go_simp<;>with_reducible rfl)⟩) (by assumption) ?_;try simp only[nP]
          refine wpAnyH_take  (i:=9) (v:=?_) (by rw[List.getElem?_toArray];exact rfl) (by kernel_rfl) (by kernel_rfl) (by kernel_rfl) (by exact fun _ _ _ h=>h) (Or.inl ⟨by rfl,(by rintro W ⟨c1,d1⟩;go_simp<;>with_reducible rfl)⟩) (by assumption) ?_;try simp only[nP]
          refine wpAnyH_take  (i:=10) (v:=?_) (by rw[List.getElem?_toArray];exact rfl) (by kernel_rfl) (by kernel_rfl) (by kernel_rfl) (by exact fun _ _ _ h=>h) (Or.inl ⟨by rfl,(by rintro W ⟨c1,d1⟩;go_simp<;>with_reducible rfl)⟩) (by assumption) ?_;try simp only[nP]
          refine wpAnyH_take  (i:=11) (v:=?_) (by rw[List.getElem?_toArray];exact rfl) (by kernel_rfl) (by kernel_rfl) (by kernel_rfl) (by exact fun _ _ _ h=>h) (Or.inl ⟨by rfl,(by rintro W ⟨c1,d1⟩;go_simp<;>with_reducible rfl)⟩) (by assumption) ?_;try simp only[nP]
          refine wpAnyH_take  (i:=12) (v:=?_) (by rw[List.getElem?_toArray];exact rfl) (by kernel_rfl) (by kernel_rfl) (by kernel_rfl) (by exact fun _ _ _ h=>h) (Or.inl ⟨by rfl,(by rintro W ⟨c1,d1⟩;go_simp<;>with_reducible rfl)⟩) (by assumption) ?_;try simp only[nP]
          refine wpAnyH_take  (i:=13) (v:=?_) (by rw[List.getElem?_toArray];exact rfl) (by kernel_rfl) (by kernel_rfl) (by kernel_rfl) (by exact fun _ _ _ h=>h) (Or.inl ⟨by rfl,(by rintro W ⟨c1,d1⟩;go_simp<;>with_reducible rfl)⟩) (by assumption) ?_;try simp only[nP]
          refine wpAnyH_take  (i:=14) (v:=?_) (by rw[List.getElem?_toArray];exact rfl) (by kernel_rfl) (by kernel_rfl) (by kernel_rfl) (by exact fun _ _ _ h=>h) (Or.inl ⟨by rfl,(by rintro W ⟨c1,d1⟩;go_simp<;>with_reducible rfl)⟩) (by assumption) ?_;try simp only[nP]
          refine wpAnyH_take  (i:=15) (v:=?_) (by rw[List.getElem?_toArray];exact rfl) (by kernel_rfl) (by kernel_rfl) (by kernel_rfl) (by exact fun _ _ _ h=>h) (Or.inl ⟨by rfl,(by rintro W ⟨c1,d1⟩;go_simp<;>with_reducible rfl)⟩) (by assumption) ?_;try simp only[nP]
          refine wpAnyH_take  (i:=16) (v:=?_) (by rw[List.getElem?_toArray];exact rfl) (by kernel_rfl) (by kernel_rfl) (by kernel_rfl) (by exact fun _ _ _ h=>h) (Or.inl ⟨by rfl,(by rintro W ⟨c1,d1⟩;go_simp<;>with_reducible rfl)⟩) (by assumption) ?_;try simp only[nP]
          refine wpAnyH_take  (i:=17) (v:=?_) (by rw[List.getElem?_toArray];exact rfl) (by kernel_rfl) (by kernel_rfl) (by kernel_rfl) (by exact fun _ _ _ h=>h) (Or.inl ⟨by rfl,(by rintro W ⟨c1,d1⟩;go_simp<;>with_reducible rfl)⟩) (by assumption) ?_;try simp only[nP]
          refine wpAnyH_take  (i:=18) (v:=?_) (by rw[List.getElem?_toArray];exact rfl) (by kernel_rfl) (by kernel_rfl) (by kernel_rfl) (by exact fun _ _ _ h=>h) (Or.inl ⟨by rfl,(by rintro W ⟨c1,d1⟩;go_simp<;>with_reducible rfl)⟩) (by assumption) ?_;try simp only[nP]
          refine wpAnyH_take  (i:=19) (v:=?_) (by rw[List.getElem?_toArray];exact rfl) (by kernel_rfl) (by kernel_rfl) (by kernel_rfl) (by exact fun _ _ _ h=>h) (Or.inl ⟨by rfl,(by rintro W ⟨c1,d1⟩;go_simp<;>with_reducible rfl)⟩) (by assumption) ?_;try simp only[nP]
          refine wpAnyH_take  (i:=20) (v:=?_) (by rw[List.getElem?_toArray];exact rfl) (by kernel_rfl) (by kernel_rfl) (by kernel_rfl) (by exact fun _ _ _ h=>h) (Or.inl ⟨by rfl,(by rintro W ⟨c1,d1⟩;go_simp<;>with_reducible rfl)⟩) (by assumption) ?_;try simp only[nP]
          refine wpAnyH_take  (i:=21) (v:=?_) (by rw[List.getElem?_toArray];exact rfl) (by kernel_rfl) (by kernel_rfl) (by kernel_rfl) (by exact fun _ _ _ h=>h) (Or.inl ⟨by rfl,(by rintro W ⟨c1,d1⟩;go_simp<;>with_reducible rfl)⟩) (by assumption) ?_;try simp only[nP]
          refine wpAnyH_take  (i:=22) (v:=?_) (by rw[List.getElem?_toArray];exact rfl) (by kernel_rfl) (by kernel_rfl) (by kernel_rfl) (by exact fun _ _ _ h=>h) (Or.inl ⟨by rfl,(by rintro W ⟨c1,d1⟩;go_simp<;>with_reducible rfl)⟩) (by assumption) ?_;try simp only[nP]
          refine wpAnyH_take  (i:=23) (v:=?_) (by rw[List.getElem?_toArray];exact rfl) (by kernel_rfl) (by kernel_rfl) (by kernel_rfl) (by exact fun _ _ _ h=>h) (Or.inl ⟨by rfl,(by rintro W ⟨c1,d1⟩;go_simp<;>with_reducible rfl)⟩) (by assumption) ?_;try simp only[nP]
          refine wpAnyH_done (by kernel_rfl) ?_ _;go_wp2;refine wp_region_held_drew (S:=fun W=>W.cell? ⟨b,off+i*2,none⟩=some (.string (nm l i))∧W.cell? ⟨b',off'+k*2,none⟩=some (.string (nm l' k))) (by kernel_rfl) (HS.out _ ((Kept.drew _).trans (Kept.drew _))) (fun hHeld=>?_);refine wpAnyH_take  (i:=0) (v:=?_) (by rw[List.getElem?_toArray];exact rfl) (by kernel_rfl) (by kernel_rfl) (by kernel_rfl) (by exact fun _ _ _ h=>h) (Or.inl ⟨by rfl,(by rintro W ⟨c1,d1⟩;go_simp<;>with_reducible rfl)⟩) (by assumption) ?_;try simp only[nP]
          refine wpAnyH_take  (i:=1) (v:=?_) (by rw[List.getElem?_toArray];exact rfl) (by kernel_rfl) (by kernel_rfl) (by kernel_rfl) (by exact fun _ _ _ h=>h) (Or.inl ⟨by rfl,(by rintro W ⟨c1,d1⟩;go_simp<;>with_reducible rfl)⟩) (by assumption) ?_;try simp only[nP]
          refine wpAnyH_take  (i:=2) (v:=?_) (by rw[List.getElem?_toArray];exact rfl) (by kernel_rfl) (by kernel_rfl) (by kernel_rfl) (by exact fun _ _ _ h=>h) (Or.inl ⟨by rfl,(by rintro W ⟨c1,d1⟩;go_simp<;>with_reducible rfl)⟩) (by assumption) ?_;try simp only[nP]
          refine wpAnyH_take  (i:=3) (v:=?_) (by rw[List.getElem?_toArray];exact rfl) (by kernel_rfl) (by kernel_rfl) (by kernel_rfl) (by exact fun _ _ _ h=>h) (Or.inl ⟨by rfl,(by rintro W ⟨c1,d1⟩;go_simp<;>with_reducible rfl)⟩) (by assumption) ?_;try simp only[nP]
          refine wpAnyH_take  (i:=4) (v:=?_) (by rw[List.getElem?_toArray];exact rfl) (by kernel_rfl) (by kernel_rfl) (by kernel_rfl) (by exact fun _ _ _ h=>h) (Or.inl ⟨by rfl,(by rintro W ⟨c1,d1⟩;go_simp<;>with_reducible rfl)⟩) (by assumption) ?_;try simp only[nP]
          refine wpAnyH_take  (i:=5) (v:=?_) (by rw[List.getElem?_toArray];exact rfl) (by kernel_rfl) (by kernel_rfl) (by kernel_rfl) (by exact fun _ _ _ h=>h) (Or.inl ⟨by rfl,(by rintro W ⟨c1,d1⟩;go_simp<;>with_reducible rfl)⟩) (by assumption) ?_;try simp only[nP]
          refine wpAnyH_take  (i:=6) (v:=?_) (by rw[List.getElem?_toArray];exact rfl) (by kernel_rfl) (by kernel_rfl) (by kernel_rfl) (by exact fun _ _ _ h=>h) (Or.inl ⟨by rfl,(by rintro W ⟨c1,d1⟩;go_simp<;>with_reducible rfl)⟩) (by assumption) ?_;try simp only[nP]
          refine wpAnyH_take  (i:=7) (v:=?_) (by rw[List.getElem?_toArray];exact rfl) (by kernel_rfl) (by kernel_rfl) (by kernel_rfl) (by exact fun _ _ _ h=>h) (Or.inl ⟨by rfl,(by rintro W ⟨c1,d1⟩;go_simp<;>with_reducible rfl)⟩) (by assumption) ?_;try simp only[nP]
          refine wpAnyH_take  (i:=8) (v:=?_) (by rw[List.getElem?_toArray];exact rfl) (by kernel_rfl) (by kernel_rfl) (by kernel_rfl) (by exact fun _ _ _ h=>h) (Or.inl ⟨by rfl,(by rintro W ⟨c1,d1⟩;go_simp<;>with_reducible rfl)⟩) (by assumption) ?_;try simp only[nP]
          refine wpAnyH_take  (i:=9) (v:=?_) (by rw[List.getElem?_toArray];exact rfl) (by kernel_rfl) (by kernel_rfl) (by kernel_rfl) (by exact fun _ _ _ h=>h) (Or.inl ⟨by rfl,(by rintro W ⟨c1,d1⟩;go_simp<;>with_reducible rfl)⟩) (by assumption) ?_;try simp only[nP]
          refine wpAnyH_take  (i:=10) (v:=?_) (by rw[List.getElem?_toArray];exact rfl) (by kernel_rfl) (by kernel_rfl) (by kernel_rfl) (by exact fun _ _ _ h=>h) (Or.inl ⟨by rfl,(by rintro W ⟨c1,d1⟩;go_simp<;>with_reducible rfl)⟩) (by assumption) ?_;try simp only[nP]
          refine wpAnyH_take  (i:=11) (v:=?_) (by rw[List.getElem?_toArray];exact rfl) (by kernel_rfl) (by kernel_rfl) (by kernel_rfl) (by exact fun _ _ _ h=>h) (Or.inl ⟨by rfl,(by rintro W ⟨c1,d1⟩;go_simp<;>with_reducible rfl)⟩) (by assumption) ?_;try simp only[nP]
          refine wpAnyH_take  (i:=12) (v:=?_) (by rw[List.getElem?_toArray];exact rfl) (by kernel_rfl) (by kernel_rfl) (by kernel_rfl) (by exact fun _ _ _ h=>h) (Or.inl ⟨by rfl,(by rintro W ⟨c1,d1⟩;go_simp<;>with_reducible rfl)⟩) (by assumption) ?_;try simp only[nP]
          refine wpAnyH_take  (i:=13) (v:=?_) (by rw[List.getElem?_toArray];exact rfl) (by kernel_rfl) (by kernel_rfl) (by kernel_rfl) (by exact fun _ _ _ h=>h) (Or.inl ⟨by rfl,(by rintro W ⟨c1,d1⟩;go_simp<;>with_reducible rfl)⟩) (by assumption) ?_;try simp only[nP]
          refine wpAnyH_take  (i:=14) (v:=?_) (by rw[List.getElem?_toArray];exact rfl) (by kernel_rfl) (by kernel_rfl) (by kernel_rfl) (by exact fun _ _ _ h=>h) (Or.inl ⟨by rfl,(by rintro W ⟨c1,d1⟩;go_simp<;>with_reducible rfl)⟩) (by assumption) ?_;try simp only[nP]
          refine wpAnyH_take  (i:=15) (v:=?_) (by rw[List.getElem?_toArray];exact rfl) (by kernel_rfl) (by kernel_rfl) (by kernel_rfl) (by exact fun _ _ _ h=>h) (Or.inl ⟨by rfl,(by rintro W ⟨c1,d1⟩;go_simp<;>with_reducible rfl)⟩) (by assumption) ?_;try simp only[nP]
          refine wpAnyH_take  (i:=16) (v:=?_) (by rw[List.getElem?_toArray];exact rfl) (by kernel_rfl) (by kernel_rfl) (by kernel_rfl) (by exact fun _ _ _ h=>h) (Or.inl ⟨by rfl,(by rintro W ⟨c1,d1⟩;go_simp<;>with_reducible rfl)⟩) (by assumption) ?_;try simp only[nP]
          refine wpAnyH_take  (i:=17) (v:=?_) (by rw[List.getElem?_toArray];exact rfl) (by kernel_rfl) (by kernel_rfl) (by kernel_rfl) (by exact fun _ _ _ h=>h) (Or.inl ⟨by rfl,(by rintro W ⟨c1,d1⟩;go_simp<;>with_reducible rfl)⟩) (by assumption) ?_;try simp only[nP]
          refine wpAnyH_done (by kernel_rfl) ?_ _;have HKW:=lH (show Kept wr (wr.drew.drew) from((Kept.drew wr).trans (Kept.drew _)));obtain⟨c1,d1⟩:=HS.out _ HKW.out;have hbw:(wr.drew.drew).heap.size=wr.heap.size:=rfl;obtain⟨W1,hW1⟩:∃W,wr.drew.drew=W:=⟨_,rfl⟩
          rw[hW1] at HKW hbw c1 d1;try rw[hW1]
          try simp only[hW1]
          clear hW1;have hbase:w.heap.size≤W1.heap.size:=by rw[hbw];exact HB2.out.size
          have HBS:=lH hbase;have OK:=lH (HO.out.kept HKW.out);have hacc16:acc.length≤16:=by omega
          clear hbw;go_wp2_with (at_builtin;refine wpList_append_lies _ rfl _ _ _ rfl w.heap.size 9 i0 _ 1 16 Tryz.underlying29 hi hz0 hz1 hz2 rfl (by decide) u5 acc.length (jd zy acc) rfl (OK.out.1.alloc _) ⟨W1.heap.size,0,none⟩ 1 1 (zy.cs (nm l' k)) rfl rfl (World.news_of_block (cs:=#[.string (nm l' k)]) (t:=9) (fr:=(0,0)) (W1.alloc_heap_new _)) (jaM (nm l' k)) (by decide) (by unfold maxLen;omega) (by omega) (by rw[World.size_alloc];exact Nat.le_succ_of_le HBS.out) (W1.heap.size+1) (World.size_alloc _ _) ?_;intro g cap1 w7 hown1 hgrow hg hlt7;refine Hid.out ?_)
          refine lH ?_;have HBW:=lH (((HB2.out.trans (Below.mono HKW.out HB2.out.size)).alloc (by exact HBS.out) _).grown hgrow (by rw[World.size_alloc];exact Nat.le_succ_of_le HBS.out) (fun j hj=>(HO.out.1.lt j hj).1));go_wp2;go_roundw
          case rel=>exact⟨i,k+1,f2,acc++[nm l' k],by omega,by omega,by go_num,by go_num,HN.out,by omega,Own.snoc hown1 rfl HO.out.2 HSK.out,HBW.out,by rw[List.length_append];simp only[List.length_cons,List.length_nil];omega⟩
          case measure=>simp[intOf];omega
        · have e2:ltS (nm l' k) (nm l i)=false:=by simpa using e2
          have E2:=lH e2;have e2':Op.bytesLess (nm l' k).toList (nm l i).toList=false:=e2;clear e2;have HN:=lH (show acc++[nm l i]++zg f2 (l.drop (i+1)) (l'.drop (k+1))=NS by rw[←HQ.out,jko HI.out HK.out E1.out E2.out];simp);go_wp2;clear c1 d1;refine wp_region_held_drew (S:=fun W=>W.cell? ⟨b,off+i*2,none⟩=some (.string (nm l i))∧W.cell? ⟨b',off'+k*2,none⟩=some (.string (nm l' k))) (by kernel_rfl) (HS.out _ (Kept.drew _)) (fun hHeld=>?_);refine wpAnyH_take  (i:=0) (v:=?_) (by rw[List.getElem?_toArray];exact rfl) (by kernel_rfl) (by kernel_rfl) (by kernel_rfl) (by exact fun _ _ _ h=>h) (Or.inl ⟨by rfl,(by rintro W ⟨c1,d1⟩;go_simp<;>with_reducible rfl)⟩) (by assumption) ?_;try simp only[nP]
          refine wpAnyH_take  (i:=1) (v:=?_) (by rw[List.getElem?_toArray];exact rfl) (by kernel_rfl) (by kernel_rfl) (by kernel_rfl) (by exact fun _ _ _ h=>h) (Or.inl ⟨by rfl,(by rintro W ⟨c1,d1⟩;go_simp<;>with_reducible rfl)⟩) (by assumption) ?_;try simp only[nP]
          refine wpAnyH_take  (i:=2) (v:=?_) (by rw[List.getElem?_toArray];exact rfl) (by kernel_rfl) (by kernel_rfl) (by kernel_rfl) (by exact fun _ _ _ h=>h) (Or.inl ⟨by rfl,(by rintro W ⟨c1,d1⟩;go_simp<;>with_reducible rfl)⟩) (by assumption) ?_;try simp only[nP]
          refine wpAnyH_take  (i:=3) (v:=?_) (by rw[List.getElem?_toArray];exact rfl) (by kernel_rfl) (by kernel_rfl) (by kernel_rfl) (by exact fun _ _ _ h=>h) (Or.inl ⟨by rfl,(by rintro W ⟨c1,d1⟩;go_simp<;>with_reducible rfl)⟩) (by assumption) ?_;try simp only[nP]
          refine wpAnyH_take  (i:=4) (v:=?_) (by rw[List.getElem?_toArray];exact rfl) (by kernel_rfl) (by kernel_rfl) (by kernel_rfl) (by exact fun _ _ _ h=>h) (Or.inl ⟨by rfl,(by rintro W ⟨c1,d1⟩;go_simp<;>with_reducible rfl)⟩) (by assumption) ?_;try simp only[nP]
          refine wpAnyH_take  (i:=5) (v:=?_) (by rw[List.getElem?_toArray];exact rfl) (by kernel_rfl) (by kernel_rfl) (by kernel_rfl) (by exact fun _ _ _ h=>h) (Or.inl ⟨by rfl,(by rintro W ⟨c1,d1⟩;go_simp<;>with_reducible rfl)⟩) (by assumption) ?_;try simp only[nP]
          refine wpAnyH_take  (i:=6) (v:=?_) (by rw[List.getElem?_toArray];exact rfl) (by kernel_rfl) (by kernel_rfl) (by kernel_rfl) (by exact fun _ _ _ h=>h) (Or.inl ⟨by rfl,(by rintro W ⟨c1,d1⟩;go_simp<;>with_reducible rfl)⟩) (by assumption) ?_;try simp only[nP]
          refine wpAnyH_take  (i:=7) (v:=?_) (by rw[List.getElem?_toArray];exact rfl) (by kernel_rfl) (by kernel_rfl) (by kernel_rfl) (by exact fun _ _ _ h=>h) (Or.inl ⟨by rfl,(by rintro W ⟨c1,d1⟩;go_simp<;>with_reducible rfl)⟩) (by assumption) ?_;try simp only[nP]
          refine wpAnyH_take  (i:=8) (v:=?_) (by rw[List.getElem?_toArray];exact rfl) (by kernel_rfl) (by kernel_rfl) (by kernel_rfl) (by exact fun _ _ _ h=>h) (Or.inl ⟨by rfl,(by rintro W ⟨c1,d1⟩;go_simp<;>with_reducible rfl)⟩) (by assumption) ?_;try simp only[nP]
          refine wpAnyH_take  (i:=9) (v:=?_) (by rw[List.getElem?_toArray];exact rfl) (by kernel_rfl) (by kernel_rfl) (by kernel_rfl) (by exact fun _ _ _ h=>h) (Or.inl ⟨by rfl,(by rintro W ⟨c1,d1⟩;go_simp<;>with_reducible rfl)⟩) (by assumption) ?_;try simp only[nP]
          refine wpAnyH_take  (i:=10) (v:=?_) (by rw[List.getElem?_toArray];exact rfl) (by kernel_rfl) (by kernel_rfl) (by kernel_rfl) (by exact fun _ _ _ h=>h) (Or.inl ⟨by rfl,(by rintro W ⟨c1,d1⟩;go_simp<;>with_reducible rfl)⟩) (by assumption) ?_;try simp only[nP]
          refine wpAnyH_take  (i:=11) (v:=?_) (by rw[List.getElem?_toArray];exact rfl) (by kernel_rfl) (by kernel_rfl) (by kernel_rfl) (by exact fun _ _ _ h=>h) (Or.inl ⟨by rfl,(by rintro W ⟨c1,d1⟩;go_simp<;>with_reducible rfl)⟩) (by assumption) ?_;try simp only[nP]
          refine wpAnyH_take  (i:=12) (v:=?_) (by rw[List.getElem?_toArray];exact rfl) (by kernel_rfl) (by kernel_rfl) (by kernel_rfl) (by exact fun _ _ _ h=>h) (Or.inl ⟨by rfl,(by rintro W ⟨c1,d1⟩;go_simp<;>with_reducible rfl)⟩) (by assumption) ?_;try simp only[nP]
          refine wpAnyH_take  (i:=13) (v:=?_) (by rw[List.getElem?_toArray];exact rfl) (by kernel_rfl) (by kernel_rfl) (by kernel_rfl) (by exact fun _ _ _ h=>h) (Or.inl ⟨by rfl,(by rintro W ⟨c1,d1⟩;go_simp<;>with_reducible rfl)⟩) (by assumption) ?_;try simp only[nP]
          refine wpAnyH_take  (i:=14) (v:=?_) (by rw[List.getElem?_toArray];exact rfl) (by kernel_rfl) (by kernel_rfl) (by kernel_rfl) (by exact fun _ _ _ h=>h) (Or.inl ⟨by rfl,(by rintro W ⟨c1,d1⟩;go_simp<;>with_reducible rfl)⟩) (by assumption) ?_;try simp only[nP]
          refine wpAnyH_take  (i:=15) (v:=?_) (by rw[List.getElem?_toArray];exact rfl) (by kernel_rfl) (by kernel_rfl) (by kernel_rfl) (by exact fun _ _ _ h=>h) (Or.inl ⟨by rfl,(by rintro W ⟨c1,d1⟩;go_simp<;>with_reducible rfl)⟩) (by assumption) ?_;try simp only[nP]
          refine wpAnyH_take  (i:=16) (v:=?_) (by rw[List.getElem?_toArray];exact rfl) (by kernel_rfl) (by kernel_rfl) (by kernel_rfl) (by exact fun _ _ _ h=>h) (Or.inl ⟨by rfl,(by rintro W ⟨c1,d1⟩;go_simp<;>with_reducible rfl)⟩) (by assumption) ?_;try simp only[nP]
          refine wpAnyH_take  (i:=17) (v:=?_) (by rw[List.getElem?_toArray];exact rfl) (by kernel_rfl) (by kernel_rfl) (by kernel_rfl) (by exact fun _ _ _ h=>h) (Or.inl ⟨by rfl,(by rintro W ⟨c1,d1⟩;go_simp<;>with_reducible rfl)⟩) (by assumption) ?_;try simp only[nP]
          refine wpAnyH_take  (i:=18) (v:=?_) (by rw[List.getElem?_toArray];exact rfl) (by kernel_rfl) (by kernel_rfl) (by kernel_rfl) (by exact fun _ _ _ h=>h) (Or.inl ⟨by rfl,(by rintro W ⟨c1,d1⟩;go_simp<;>with_reducible rfl)⟩) (by assumption) ?_;try simp only[nP]
          refine wpAnyH_take  (i:=19) (v:=?_) (by rw[List.getElem?_toArray];exact rfl) (by kernel_rfl) (by kernel_rfl) (by kernel_rfl) (by exact fun _ _ _ h=>h) (Or.inl ⟨by rfl,(by rintro W ⟨c1,d1⟩;go_simp<;>with_reducible rfl)⟩) (by assumption) ?_;try simp only[nP]
          refine wpAnyH_take  (i:=20) (v:=?_) (by rw[List.getElem?_toArray];exact rfl) (by kernel_rfl) (by kernel_rfl) (by kernel_rfl) (by exact fun _ _ _ h=>h) (Or.inl ⟨by rfl,(by rintro W ⟨c1,d1⟩;go_simp<;>with_reducible rfl)⟩) (by assumption) ?_;try simp only[nP]
          refine wpAnyH_take  (i:=21) (v:=?_) (by rw[List.getElem?_toArray];exact rfl) (by kernel_rfl) (by kernel_rfl) (by kernel_rfl) (by exact fun _ _ _ h=>h) (Or.inl ⟨by rfl,(by rintro W ⟨c1,d1⟩;go_simp<;>with_reducible rfl)⟩) (by assumption) ?_;try simp only[nP]
          refine wpAnyH_take  (i:=22) (v:=?_) (by rw[List.getElem?_toArray];exact rfl) (by kernel_rfl) (by kernel_rfl) (by kernel_rfl) (by exact fun _ _ _ h=>h) (Or.inl ⟨by rfl,(by rintro W ⟨c1,d1⟩;go_simp<;>with_reducible rfl)⟩) (by assumption) ?_;try simp only[nP]
          refine wpAnyH_take  (i:=23) (v:=?_) (by rw[List.getElem?_toArray];exact rfl) (by kernel_rfl) (by kernel_rfl) (by kernel_rfl) (by exact fun _ _ _ h=>h) (Or.inl ⟨by rfl,(by rintro W ⟨c1,d1⟩;go_simp<;>with_reducible rfl)⟩) (by assumption) ?_;try simp only[nP]
          refine wpAnyH_done (by kernel_rfl) ?_ _;go_wp2;refine wp_region_held_drew (S:=fun W=>W.cell? ⟨b,off+i*2,none⟩=some (.string (nm l i))∧W.cell? ⟨b',off'+k*2,none⟩=some (.string (nm l' k))) (by kernel_rfl) (HS.out _ ((Kept.drew _).trans (Kept.drew _))) (fun hHeld=>?_);refine wpAnyH_take  (i:=0) (v:=?_) (by rw[List.getElem?_toArray];exact rfl) (by kernel_rfl) (by kernel_rfl) (by kernel_rfl) (by exact fun _ _ _ h=>h) (Or.inl ⟨by rfl,(by rintro W ⟨c1,d1⟩;go_simp<;>with_reducible rfl)⟩) (by assumption) ?_;try simp only[nP]
          refine wpAnyH_take  (i:=1) (v:=?_) (by rw[List.getElem?_toArray];exact rfl) (by kernel_rfl) (by kernel_rfl) (by kernel_rfl) (by exact fun _ _ _ h=>h) (Or.inl ⟨by rfl,(by rintro W ⟨c1,d1⟩;go_simp<;>with_reducible rfl)⟩) (by assumption) ?_;try simp only[nP]
          refine wpAnyH_take  (i:=2) (v:=?_) (by rw[List.getElem?_toArray];exact rfl) (by kernel_rfl) (by kernel_rfl) (by kernel_rfl) (by exact fun _ _ _ h=>h) (Or.inl ⟨by rfl,(by rintro W ⟨c1,d1⟩;go_simp<;>with_reducible rfl)⟩) (by assumption) ?_;try simp only[nP]
          refine wpAnyH_take  (i:=3) (v:=?_) (by rw[List.getElem?_toArray];exact rfl) (by kernel_rfl) (by kernel_rfl) (by kernel_rfl) (by exact fun _ _ _ h=>h) (Or.inl ⟨by rfl,(by rintro W ⟨c1,d1⟩;go_simp<;>with_reducible rfl)⟩) (by assumption) ?_;try simp only[nP]
          refine wpAnyH_take  (i:=4) (v:=?_) (by rw[List.getElem?_toArray];exact rfl) (by kernel_rfl) (by kernel_rfl) (by kernel_rfl) (by exact fun _ _ _ h=>h) (Or.inl ⟨by rfl,(by rintro W ⟨c1,d1⟩;go_simp<;>with_reducible rfl)⟩) (by assumption) ?_;try simp only[nP]
          refine wpAnyH_take  (i:=5) (v:=?_) (by rw[List.getElem?_toArray];exact rfl) (by kernel_rfl) (by kernel_rfl) (by kernel_rfl) (by exact fun _ _ _ h=>h) (Or.inl ⟨by rfl,(by rintro W ⟨c1,d1⟩;go_simp<;>with_reducible rfl)⟩) (by assumption) ?_;try simp only[nP]
          refine wpAnyH_take  (i:=6) (v:=?_) (by rw[List.getElem?_toArray];exact rfl) (by kernel_rfl) (by kernel_rfl) (by kernel_rfl) (by exact fun _ _ _ h=>h) (Or.inl ⟨by rfl,(by rintro W ⟨c1,d1⟩;go_simp<;>with_reducible rfl)⟩) (by assumption) ?_;try simp only[nP]
          refine wpAnyH_take  (i:=7) (v:=?_) (by rw[List.getElem?_toArray];exact rfl) (by kernel_rfl) (by kernel_rfl) (by kernel_rfl) (by exact fun _ _ _ h=>h) (Or.inl ⟨by rfl,(by rintro W ⟨c1,d1⟩;go_simp<;>with_reducible rfl)⟩) (by assumption) ?_;try simp only[nP]
          refine wpAnyH_take  (i:=8) (v:=?_) (by rw[List.getElem?_toArray];exact rfl) (by kernel_rfl) (by kernel_rfl) (by kernel_rfl) (by exact fun _ _ _ h=>h) (Or.inl ⟨by rfl,(by rintro W ⟨c1,d1⟩;go_simp<;>with_reducible rfl)⟩) (by assumption) ?_;try simp only[nP]
          refine wpAnyH_take  (i:=9) (v:=?_) (by rw[List.getElem?_toArray];exact rfl) (by kernel_rfl) (by kernel_rfl) (by kernel_rfl) (by exact fun _ _ _ h=>h) (Or.inl ⟨by rfl,(by rintro W ⟨c1,d1⟩;go_simp<;>with_reducible rfl)⟩) (by assumption) ?_;try simp only[nP]
          refine wpAnyH_take  (i:=10) (v:=?_) (by rw[List.getElem?_toArray];exact rfl) (by kernel_rfl) (by kernel_rfl) (by kernel_rfl) (by exact fun _ _ _ h=>h) (Or.inl ⟨by rfl,(by rintro W ⟨c1,d1⟩;go_simp<;>with_reducible rfl)⟩) (by assumption) ?_;try simp only[nP]
          refine wpAnyH_take  (i:=11) (v:=?_) (by rw[List.getElem?_toArray];exact rfl) (by kernel_rfl) (by kernel_rfl) (by kernel_rfl) (by exact fun _ _ _ h=>h) (Or.inl ⟨by rfl,(by rintro W ⟨c1,d1⟩;go_simp<;>with_reducible rfl)⟩) (by assumption) ?_;try simp only[nP]
          refine wpAnyH_take  (i:=12) (v:=?_) (by rw[List.getElem?_toArray];exact rfl) (by kernel_rfl) (by kernel_rfl) (by kernel_rfl) (by exact fun _ _ _ h=>h) (Or.inl ⟨by rfl,(by rintro W ⟨c1,d1⟩;go_simp<;>with_reducible rfl)⟩) (by assumption) ?_;try simp only[nP]
          refine wpAnyH_take  (i:=13) (v:=?_) (by rw[List.getElem?_toArray];exact rfl) (by kernel_rfl) (by kernel_rfl) (by kernel_rfl) (by exact fun _ _ _ h=>h) (Or.inl ⟨by rfl,(by rintro W ⟨c1,d1⟩;go_simp<;>with_reducible rfl)⟩) (by assumption) ?_;try simp only[nP]
          refine wpAnyH_take  (i:=14) (v:=?_) (by rw[List.getElem?_toArray];exact rfl) (by kernel_rfl) (by kernel_rfl) (by kernel_rfl) (by exact fun _ _ _ h=>h) (Or.inl ⟨by rfl,(by rintro W ⟨c1,d1⟩;go_simp<;>with_reducible rfl)⟩) (by assumption) ?_;try simp only[nP]
          refine wpAnyH_take  (i:=15) (v:=?_) (by rw[List.getElem?_toArray];exact rfl) (by kernel_rfl) (by kernel_rfl) (by kernel_rfl) (by exact fun _ _ _ h=>h) (Or.inl ⟨by rfl,(by rintro W ⟨c1,d1⟩;go_simp<;>with_reducible rfl)⟩) (by assumption) ?_;try simp only[nP]
          refine wpAnyH_take  (i:=16) (v:=?_) (by rw[List.getElem?_toArray];exact rfl) (by kernel_rfl) (by kernel_rfl) (by kernel_rfl) (by exact fun _ _ _ h=>h) (Or.inl ⟨by rfl,(by rintro W ⟨c1,d1⟩;go_simp<;>with_reducible rfl)⟩) (by assumption) ?_;try simp only[nP]
          refine wpAnyH_take  (i:=17) (v:=?_) (by rw[List.getElem?_toArray];exact rfl) (by kernel_rfl) (by kernel_rfl) (by kernel_rfl) (by exact fun _ _ _ h=>h) (Or.inl ⟨by rfl,(by rintro W ⟨c1,d1⟩;go_simp<;>with_reducible rfl)⟩) (by assumption) ?_;try simp only[nP]
          refine wpAnyH_done (by kernel_rfl) ?_ _;have HKW:=lH (show Kept wr (wr.drew.drew) from((Kept.drew wr).trans (Kept.drew _)));obtain⟨c1,d1⟩:=HS.out _ HKW.out;have hbw:(wr.drew.drew).heap.size=wr.heap.size:=rfl;obtain⟨W1,hW1⟩:∃W,wr.drew.drew=W:=⟨_,rfl⟩
          rw[hW1] at HKW hbw c1 d1;try rw[hW1]
          try simp only[hW1]
          clear hW1;have hbase:w.heap.size≤W1.heap.size:=by rw[hbw];exact HB2.out.size
          have HBS:=lH hbase;have OK:=lH (HO.out.kept HKW.out);have hacc16:acc.length≤16:=by omega
          clear hbw;go_wp2_with (at_builtin;refine wpList_append_lies _ rfl _ _ _ rfl w.heap.size 9 i0 _ 1 16 Tryz.underlying29 hi hz0 hz1 hz2 rfl (by decide) u5 acc.length (jd zy acc) rfl (OK.out.1.alloc _) ⟨W1.heap.size,0,none⟩ 1 1 (zy.cs (nm l i)) rfl rfl (World.news_of_block (cs:=#[.string (nm l i)]) (t:=9) (fr:=(0,0)) (W1.alloc_heap_new _)) (jaM (nm l i)) (by decide) (by unfold maxLen;omega) (by omega) (by rw[World.size_alloc];exact Nat.le_succ_of_le HBS.out) (W1.heap.size+1) (World.size_alloc _ _) ?_;intro g cap1 w7 hown1 hgrow hg hlt7;refine Hid.out ?_)
          refine lH ?_;have HBW:=lH (((HB2.out.trans (Below.mono HKW.out HB2.out.size)).alloc (by exact HBS.out) _).grown hgrow (by rw[World.size_alloc];exact Nat.le_succ_of_le HBS.out) (fun j hj=>(HO.out.1.lt j hj).1));go_wp2;go_roundw
          case rel=>exact⟨i+1,k+1,f2,acc++[nm l i],by omega,by omega,by go_num,by go_num,HN.out,by omega,Own.snoc hown1 rfl HO.out.2 HSI.out,HBW.out,by rw[List.length_append];simp only[List.length_cons,List.length_nil];omega⟩
          case measure=>simp[intOf];omega
    · have hk3:(len':Int)≤(k:Int):=by omega
      have hk4:decide ((k:Int)<(len':Int))=false:=decide_eq_false (by omega);have hk5:¬(k:Int)<(len':Int):=by omega
      have hd:decide (len'≤k)=true:=decide_eq_true (by omega);have hi3:(i:Int)<(len:Int):=by omega
      have HS:=lH (show ∀W,Kept wr W→W.cell? ⟨b,off+i*2,none⟩=some (.string (nm l i)) from fun W kk=>cell_later kk c1);clear hB;have HN:=lH (show acc++[nm l i]++zg f2 (l.drop (i+1)) (l'.drop (k))=NS by rw[←HQ.out,jdz HI.out (.inl (by rw[HL'.out];omega))];simp);go_wp2;clear c1;refine wp_region_held_drew (S:=fun W=>W.cell? ⟨b,off+i*2,none⟩=some (.string (nm l i))) (by kernel_rfl) (HS.out _ (Kept.drew _)) (fun hHeld=>?_);refine wpAnyH_take  (i:=0) (v:=?_) (by rw[List.getElem?_toArray];exact rfl) (by kernel_rfl) (by kernel_rfl) (by kernel_rfl) (by exact fun _ _ _ h=>h) (Or.inl ⟨by rfl,(by intro W hSw;go_simp<;>with_reducible rfl)⟩) (by assumption) ?_;try simp only[nP]
      refine wpAnyH_take  (i:=1) (v:=?_) (by rw[List.getElem?_toArray];exact rfl) (by kernel_rfl) (by kernel_rfl) (by kernel_rfl) (by exact fun _ _ _ h=>h) (Or.inl ⟨by rfl,(by intro W hSw;go_simp<;>with_reducible rfl)⟩) (by assumption) ?_;try simp only[nP]
      refine wpAnyH_take  (i:=2) (v:=?_) (by rw[List.getElem?_toArray];exact rfl) (by kernel_rfl) (by kernel_rfl) (by kernel_rfl) (by exact fun _ _ _ h=>h) (Or.inl ⟨by rfl,(by intro W hSw;go_simp<;>with_reducible rfl)⟩) (by assumption) ?_;try simp only[nP]
      refine wpAnyH_take  (i:=3) (v:=?_) (by rw[List.getElem?_toArray];exact rfl) (by kernel_rfl) (by kernel_rfl) (by kernel_rfl) (by exact fun _ _ _ h=>h) (Or.inl ⟨by rfl,(by intro W hSw;go_simp<;>with_reducible rfl)⟩) (by assumption) ?_;try simp only[nP]
      refine wpAnyH_take  (i:=4) (v:=?_) (by rw[List.getElem?_toArray];exact rfl) (by kernel_rfl) (by kernel_rfl) (by kernel_rfl) (by exact fun _ _ _ h=>h) (Or.inl ⟨by rfl,(by intro W hSw;go_simp<;>with_reducible rfl)⟩) (by assumption) ?_;try simp only[nP]
      refine wpAnyH_take  (i:=5) (v:=undef) (by rw[List.getElem?_toArray];exact rfl) (by kernel_rfl) (by kernel_rfl) (by kernel_rfl) (by exact fun _ _ _ h=>h) (Or.inr ⟨by rfl,rfl⟩) (by assumption) ?_;try simp only[nP]
      refine wpAnyH_take  (i:=6) (v:=undef) (by rw[List.getElem?_toArray];exact rfl) (by kernel_rfl) (by kernel_rfl) (by kernel_rfl) (by exact fun _ _ _ h=>h) (Or.inr ⟨by rfl,rfl⟩) (by assumption) ?_;try simp only[nP]
      refine wpAnyH_take  (i:=7) (v:=undef) (by rw[List.getElem?_toArray];exact rfl) (by kernel_rfl) (by kernel_rfl) (by kernel_rfl) (by exact fun _ _ _ h=>h) (Or.inr ⟨by rfl,rfl⟩) (by assumption) ?_;try simp only[nP]
      refine wpAnyH_take  (i:=8) (v:=undef) (by rw[List.getElem?_toArray];exact rfl) (by kernel_rfl) (by kernel_rfl) (by kernel_rfl) (by exact fun _ _ _ h=>h) (Or.inr ⟨by rfl,rfl⟩) (by assumption) ?_;try simp only[nP]
      refine wpAnyH_take  (i:=9) (v:=undef) (by rw[List.getElem?_toArray];exact rfl) (by kernel_rfl) (by kernel_rfl) (by kernel_rfl) (by exact fun _ _ _ h=>h) (Or.inr ⟨by rfl,rfl⟩) (by assumption) ?_;try simp only[nP]
      refine wpAnyH_take  (i:=10) (v:=undef) (by rw[List.getElem?_toArray];exact rfl) (by kernel_rfl) (by kernel_rfl) (by kernel_rfl) (by exact fun _ _ _ h=>h) (Or.inr ⟨by rfl,rfl⟩) (by assumption) ?_;try simp only[nP]
      refine wpAnyH_take  (i:=11) (v:=undef) (by rw[List.getElem?_toArray];exact rfl) (by kernel_rfl) (by kernel_rfl) (by kernel_rfl) (by exact fun _ _ _ h=>h) (Or.inr ⟨by rfl,rfl⟩) (by assumption) ?_;try simp only[nP]
      refine wpAnyH_take  (i:=12) (v:=undef) (by rw[List.getElem?_toArray];exact rfl) (by kernel_rfl) (by kernel_rfl) (by kernel_rfl) (by exact fun _ _ _ h=>h) (Or.inr ⟨by rfl,rfl⟩) (by assumption) ?_;try simp only[nP]
      refine wpAnyH_take  (i:=13) (v:=undef) (by rw[List.getElem?_toArray];exact rfl) (by kernel_rfl) (by kernel_rfl) (by kernel_rfl) (by exact fun _ _ _ h=>h) (Or.inr ⟨by rfl,rfl⟩) (by assumption) ?_;try simp only[nP]
      refine wpAnyH_take  (i:=14) (v:=undef) (by rw[List.getElem?_toArray];exact rfl) (by kernel_rfl) (by kernel_rfl) (by kernel_rfl) (by exact fun _ _ _ h=>h) (Or.inr ⟨by rfl,rfl⟩) (by assumption) ?_;try simp only[nP]
      refine wpAnyH_take  (i:=15) (v:=undef) (by rw[List.getElem?_toArray];exact rfl) (by kernel_rfl) (by kernel_rfl) (by kernel_rfl) (by exact fun _ _ _ h=>h) (Or.inr ⟨by rfl,rfl⟩) (by assumption) ?_;try simp only[nP]
      refine wpAnyH_take  (i:=16) (v:=undef) (by rw[List.getElem?_toArray];exact rfl) (by kernel_rfl) (by kernel_rfl) (by kernel_rfl) (by exact fun _ _ _ h=>h) (Or.inr ⟨by rfl,rfl⟩) (by assumption) ?_;try simp only[nP]
      refine wpAnyH_take  (i:=17) (v:=undef) (by rw[List.getElem?_toArray];exact rfl) (by kernel_rfl) (by kernel_rfl) (by kernel_rfl) (by exact fun _ _ _ h=>h) (Or.inr ⟨by rfl,rfl⟩) (by assumption) ?_;try simp only[nP]
      refine wpAnyH_take  (i:=18) (v:=undef) (by rw[List.getElem?_toArray];exact rfl) (by kernel_rfl) (by kernel_rfl) (by kernel_rfl) (by exact fun _ _ _ h=>h) (Or.inr ⟨by rfl,rfl⟩) (by assumption) ?_;try simp only[nP]
      refine wpAnyH_take  (i:=19) (v:=undef) (by rw[List.getElem?_toArray];exact rfl) (by kernel_rfl) (by kernel_rfl) (by kernel_rfl) (by exact fun _ _ _ h=>h) (Or.inr ⟨by rfl,rfl⟩) (by assumption) ?_;try simp only[nP]
      refine wpAnyH_take  (i:=20) (v:=undef) (by rw[List.getElem?_toArray];exact rfl) (by kernel_rfl) (by kernel_rfl) (by kernel_rfl) (by exact fun _ _ _ h=>h) (Or.inr ⟨by rfl,rfl⟩) (by assumption) ?_;try simp only[nP]
      refine wpAnyH_take  (i:=21) (v:=undef) (by rw[List.getElem?_toArray];exact rfl) (by kernel_rfl) (by kernel_rfl) (by kernel_rfl) (by exact fun _ _ _ h=>h) (Or.inr ⟨by rfl,rfl⟩) (by assumption) ?_;try simp only[nP]
      refine wpAnyH_take  (i:=22) (v:=?_) (by rw[List.getElem?_toArray];exact rfl) (by kernel_rfl) (by kernel_rfl) (by kernel_rfl) (by exact fun _ _ _ h=>h) (Or.inl ⟨by rfl,(by intro W hSw;go_simp<;>with_reducible rfl)⟩) (by assumption) ?_;try simp only[nP]
      refine wpAnyH_take  (i:=23) (v:=?_) (by rw[List.getElem?_toArray];exact rfl) (by kernel_rfl) (by kernel_rfl) (by kernel_rfl) (by exact fun _ _ _ h=>h) (Or.inl ⟨by rfl,(by intro W hSw;go_simp<;>with_reducible rfl)⟩) (by assumption) ?_;try simp only[nP]
      refine wpAnyH_done (by kernel_rfl) ?_ _;have HKW:=lH (show Kept wr (wr.drew) from(Kept.drew wr));obtain c1:=HS.out _ HKW.out;have hbw:(wr.drew).heap.size=wr.heap.size:=rfl;obtain⟨W1,hW1⟩:∃W,wr.drew=W:=⟨_,rfl⟩
      rw[hW1] at HKW hbw c1;try rw[hW1]
      try simp only[hW1]
      clear hW1;have hbase:w.heap.size≤W1.heap.size:=by rw[hbw];exact HB2.out.size
      have HBS:=lH hbase;have OK:=lH (HO.out.kept HKW.out);have hacc16:acc.length≤16:=by omega
      clear hbw;go_wp2_with (at_builtin;refine wpList_append_lies _ rfl _ _ _ rfl w.heap.size 9 i0 _ 1 16 Tryz.underlying29 hi hz0 hz1 hz2 rfl (by decide) u5 acc.length (jd zy acc) rfl (OK.out.1.alloc _) ⟨W1.heap.size,0,none⟩ 1 1 (zy.cs (nm l i)) rfl rfl (World.news_of_block (cs:=#[.string (nm l i)]) (t:=9) (fr:=(0,0)) (W1.alloc_heap_new _)) (jaM (nm l i)) (by decide) (by unfold maxLen;omega) (by omega) (by rw[World.size_alloc];exact Nat.le_succ_of_le HBS.out) (W1.heap.size+1) (World.size_alloc _ _) ?_;intro g cap1 w7 hown1 hgrow hg hlt7;refine Hid.out ?_)
      refine lH ?_;have HBW:=lH (((HB2.out.trans (Below.mono HKW.out HB2.out.size)).alloc (by exact HBS.out) _).grown hgrow (by rw[World.size_alloc];exact Nat.le_succ_of_le HBS.out) (fun j hj=>(HO.out.1.lt j hj).1));go_wp2;go_roundw
      case rel=>exact⟨i+1,k,f2,acc++[nm l i],by omega,by omega,by go_num,by go_num,HN.out,by omega,Own.snoc hown1 rfl HO.out.2 HSI.out,HBW.out,by rw[List.length_append];simp only[List.length_cons,List.length_nil];omega⟩
      case measure=>simp[intOf];omega
  · by_cases hk2:k<len'
    · obtain⟨b',off',rfl⟩:=HB.out.form.resolve_left (by omega);obtain⟨hb',d1,-⟩:=(HB.out.kept hB).cells hk2;have HK:=lH (show k<l'.length by rw[HL'.out];exact hk2);have HSK:=lH (HF'.out k HK.out).1;obtain⟨f2,rfl⟩:∃f2,fuel=f2+1:=⟨fuel-1,by omega⟩
      have hd:decide (len'≤k)=false:=decide_eq_false (by omega);have hd2:decide (len≤i)=true:=decide_eq_true (by omega);have hi3:decide ((i:Int)<(len:Int))=false:=decide_eq_false (by omega);have hi5:¬(i:Int)<(len:Int):=by omega
      have hi6:(len:Int)≤(i:Int):=by omega
      have hk3:(k:Int)<(len':Int):=by omega
      have HS:=lH (show ∀W,Kept wr W→W.cell? ⟨b',off'+k*2,none⟩=some (.string (nm l' k)) from fun W kk=>cell_later kk d1);clear hB;have HN:=lH (show acc++[nm l' k]++zg f2 (l.drop (i)) (l'.drop (k+1))=NS by rw[←HQ.out,jcn HK.out (.inl (by rw[HL.out];omega))];simp);go_wp2;clear d1;refine wp_region_held_drew (S:=fun W=>W.cell? ⟨b',off'+k*2,none⟩=some (.string (nm l' k))) (by kernel_rfl) (HS.out _ (Kept.drew _)) (fun hHeld=>?_);refine wpAnyH_take  (i:=0) (v:=?_) (by rw[List.getElem?_toArray];exact rfl) (by kernel_rfl) (by kernel_rfl) (by kernel_rfl) (by exact fun _ _ _ h=>h) (Or.inl ⟨by rfl,(by intro W hSw;go_simp<;>with_reducible rfl)⟩) (by assumption) ?_;try simp only[nP]
      refine wpAnyH_take  (i:=1) (v:=?_) (by rw[List.getElem?_toArray];exact rfl) (by kernel_rfl) (by kernel_rfl) (by kernel_rfl) (by exact fun _ _ _ h=>h) (Or.inl ⟨by rfl,(by intro W hSw;go_simp<;>with_reducible rfl)⟩) (by assumption) ?_;try simp only[nP]
      refine wpAnyH_take  (i:=2) (v:=?_) (by rw[List.getElem?_toArray];exact rfl) (by kernel_rfl) (by kernel_rfl) (by kernel_rfl) (by exact fun _ _ _ h=>h) (Or.inl ⟨by rfl,(by intro W hSw;go_simp<;>with_reducible rfl)⟩) (by assumption) ?_;try simp only[nP]
      refine wpAnyH_take  (i:=3) (v:=?_) (by rw[List.getElem?_toArray];exact rfl) (by kernel_rfl) (by kernel_rfl) (by kernel_rfl) (by exact fun _ _ _ h=>h) (Or.inl ⟨by rfl,(by intro W hSw;go_simp<;>with_reducible rfl)⟩) (by assumption) ?_;try simp only[nP]
      refine wpAnyH_take  (i:=4) (v:=?_) (by rw[List.getElem?_toArray];exact rfl) (by kernel_rfl) (by kernel_rfl) (by kernel_rfl) (by exact fun _ _ _ h=>h) (Or.inl ⟨by rfl,(by intro W hSw;go_simp<;>with_reducible rfl)⟩) (by assumption) ?_;try simp only[nP]
      refine wpAnyH_take  (i:=5) (v:=?_) (by rw[List.getElem?_toArray];exact rfl) (by kernel_rfl) (by kernel_rfl) (by kernel_rfl) (by exact fun _ _ _ h=>h) (Or.inl ⟨by rfl,(by intro W hSw;go_simp<;>with_reducible rfl)⟩) (by assumption) ?_;try simp only[nP]
      refine wpAnyH_take  (i:=6) (v:=?_) (by rw[List.getElem?_toArray];exact rfl) (by kernel_rfl) (by kernel_rfl) (by kernel_rfl) (by exact fun _ _ _ h=>h) (Or.inl ⟨by rfl,(by intro W hSw;go_simp<;>with_reducible rfl)⟩) (by assumption) ?_;try simp only[nP]
      refine wpAnyH_take  (i:=7) (v:=?_) (by rw[List.getElem?_toArray];exact rfl) (by kernel_rfl) (by kernel_rfl) (by kernel_rfl) (by exact fun _ _ _ h=>h) (Or.inl ⟨by rfl,(by intro W hSw;go_simp<;>with_reducible rfl)⟩) (by assumption) ?_;try simp only[nP]
      refine wpAnyH_take  (i:=8) (v:=?_) (by rw[List.getElem?_toArray];exact rfl) (by kernel_rfl) (by kernel_rfl) (by kernel_rfl) (by exact fun _ _ _ h=>h) (Or.inl ⟨by rfl,(by intro W hSw;go_simp<;>with_reducible rfl)⟩) (by assumption) ?_;try simp only[nP]
      refine wpAnyH_take  (i:=9) (v:=?_) (by rw[List.getElem?_toArray];exact rfl) (by kernel_rfl) (by kernel_rfl) (by kernel_rfl) (by exact fun _ _ _ h=>h) (Or.inl ⟨by rfl,(by intro W hSw;go_simp<;>with_reducible rfl)⟩) (by assumption) ?_;try simp only[nP]
      refine wpAnyH_take  (i:=10) (v:=undef) (by rw[List.getElem?_toArray];exact rfl) (by kernel_rfl) (by kernel_rfl) (by kernel_rfl) (by exact fun _ _ _ h=>h) (Or.inr ⟨by rfl,rfl⟩) (by assumption) ?_;try simp only[nP]
      refine wpAnyH_take  (i:=11) (v:=undef) (by rw[List.getElem?_toArray];exact rfl) (by kernel_rfl) (by kernel_rfl) (by kernel_rfl) (by exact fun _ _ _ h=>h) (Or.inr ⟨by rfl,rfl⟩) (by assumption) ?_;try simp only[nP]
      refine wpAnyH_take  (i:=12) (v:=undef) (by rw[List.getElem?_toArray];exact rfl) (by kernel_rfl) (by kernel_rfl) (by kernel_rfl) (by exact fun _ _ _ h=>h) (Or.inr ⟨by rfl,rfl⟩) (by assumption) ?_;try simp only[nP]
      refine wpAnyH_take  (i:=13) (v:=undef) (by rw[List.getElem?_toArray];exact rfl) (by kernel_rfl) (by kernel_rfl) (by kernel_rfl) (by exact fun _ _ _ h=>h) (Or.inr ⟨by rfl,rfl⟩) (by assumption) ?_;try simp only[nP]
      refine wpAnyH_take  (i:=14) (v:=undef) (by rw[List.getElem?_toArray];exact rfl) (by kernel_rfl) (by kernel_rfl) (by kernel_rfl) (by exact fun _ _ _ h=>h) (Or.inr ⟨by rfl,rfl⟩) (by assumption) ?_;try simp only[nP]
      refine wpAnyH_take  (i:=15) (v:=undef) (by rw[List.getElem?_toArray];exact rfl) (by kernel_rfl) (by kernel_rfl) (by kernel_rfl) (by exact fun _ _ _ h=>h) (Or.inr ⟨by rfl,rfl⟩) (by assumption) ?_;try simp only[nP]
      refine wpAnyH_take  (i:=16) (v:=undef) (by rw[List.getElem?_toArray];exact rfl) (by kernel_rfl) (by kernel_rfl) (by kernel_rfl) (by exact fun _ _ _ h=>h) (Or.inr ⟨by rfl,rfl⟩) (by assumption) ?_;try simp only[nP]
      refine wpAnyH_take  (i:=17) (v:=undef) (by rw[List.getElem?_toArray];exact rfl) (by kernel_rfl) (by kernel_rfl) (by kernel_rfl) (by exact fun _ _ _ h=>h) (Or.inr ⟨by rfl,rfl⟩) (by assumption) ?_;try simp only[nP]
      refine wpAnyH_take  (i:=18) (v:=undef) (by rw[List.getElem?_toArray];exact rfl) (by kernel_rfl) (by kernel_rfl) (by kernel_rfl) (by exact fun _ _ _ h=>h) (Or.inr ⟨by rfl,rfl⟩) (by assumption) ?_;try simp only[nP]
      refine wpAnyH_take  (i:=19) (v:=undef) (by rw[List.getElem?_toArray];exact rfl) (by kernel_rfl) (by kernel_rfl) (by kernel_rfl) (by exact fun _ _ _ h=>h) (Or.inr ⟨by rfl,rfl⟩) (by assumption) ?_;try simp only[nP]
      refine wpAnyH_take  (i:=20) (v:=undef) (by rw[List.getElem?_toArray];exact rfl) (by kernel_rfl) (by kernel_rfl) (by kernel_rfl) (by exact fun _ _ _ h=>h) (Or.inr ⟨by rfl,rfl⟩) (by assumption) ?_;try simp only[nP]
      refine wpAnyH_take  (i:=21) (v:=?_) (by rw[List.getElem?_toArray];exact rfl) (by kernel_rfl) (by kernel_rfl) (by kernel_rfl) (by exact fun _ _ _ h=>h) (Or.inl ⟨by rfl,(by intro W hSw;go_simp<;>with_reducible rfl)⟩) (by assumption) ?_;try simp only[nP]
      refine wpAnyH_take  (i:=22) (v:=?_) (by rw[List.getElem?_toArray];exact rfl) (by kernel_rfl) (by kernel_rfl) (by kernel_rfl) (by exact fun _ _ _ h=>h) (Or.inl ⟨by rfl,(by intro W hSw;go_simp<;>with_reducible rfl)⟩) (by assumption) ?_;try simp only[nP]
      refine wpAnyH_take  (i:=23) (v:=?_) (by rw[List.getElem?_toArray];exact rfl) (by kernel_rfl) (by kernel_rfl) (by kernel_rfl) (by exact fun _ _ _ h=>h) (Or.inl ⟨by rfl,(by intro W hSw;go_simp<;>with_reducible rfl)⟩) (by assumption) ?_;try simp only[nP]
      refine wpAnyH_done (by kernel_rfl) ?_ _;go_wp2;refine wp_region_held_drew (S:=fun W=>W.cell? ⟨b',off'+k*2,none⟩=some (.string (nm l' k))) (by kernel_rfl) (HS.out _ ((Kept.drew _).trans (Kept.drew _))) (fun hHeld=>?_);refine wpAnyH_take  (i:=0) (v:=?_) (by rw[List.getElem?_toArray];exact rfl) (by kernel_rfl) (by kernel_rfl) (by kernel_rfl) (by exact fun _ _ _ h=>h) (Or.inl ⟨by rfl,(by intro W hSw;go_simp<;>with_reducible rfl)⟩) (by assumption) ?_;try simp only[nP]
      refine wpAnyH_take  (i:=1) (v:=?_) (by rw[List.getElem?_toArray];exact rfl) (by kernel_rfl) (by kernel_rfl) (by kernel_rfl) (by exact fun _ _ _ h=>h) (Or.inl ⟨by rfl,(by intro W hSw;go_simp<;>with_reducible rfl)⟩) (by assumption) ?_;try simp only[nP]
      refine wpAnyH_take  (i:=2) (v:=?_) (by rw[List.getElem?_toArray];exact rfl) (by kernel_rfl) (by kernel_rfl) (by kernel_rfl) (by exact fun _ _ _ h=>h) (Or.inl ⟨by rfl,(by intro W hSw;go_simp<;>with_reducible rfl)⟩) (by assumption) ?_;try simp only[nP]
      refine wpAnyH_take  (i:=3) (v:=?_) (by rw[List.getElem?_toArray];exact rfl) (by kernel_rfl) (by kernel_rfl) (by kernel_rfl) (by exact fun _ _ _ h=>h) (Or.inl ⟨by rfl,(by intro W hSw;go_simp<;>with_reducible rfl)⟩) (by assumption) ?_;try simp only[nP]
      refine wpAnyH_take  (i:=4) (v:=?_) (by rw[List.getElem?_toArray];exact rfl) (by kernel_rfl) (by kernel_rfl) (by kernel_rfl) (by exact fun _ _ _ h=>h) (Or.inl ⟨by rfl,(by intro W hSw;go_simp<;>with_reducible rfl)⟩) (by assumption) ?_;try simp only[nP]
      refine wpAnyH_take  (i:=5) (v:=undef) (by rw[List.getElem?_toArray];exact rfl) (by kernel_rfl) (by kernel_rfl) (by kernel_rfl) (by exact fun _ _ _ h=>h) (Or.inr ⟨by rfl,rfl⟩) (by assumption) ?_;try simp only[nP]
      refine wpAnyH_take  (i:=6) (v:=undef) (by rw[List.getElem?_toArray];exact rfl) (by kernel_rfl) (by kernel_rfl) (by kernel_rfl) (by exact fun _ _ _ h=>h) (Or.inr ⟨by rfl,rfl⟩) (by assumption) ?_;try simp only[nP]
      refine wpAnyH_take  (i:=7) (v:=undef) (by rw[List.getElem?_toArray];exact rfl) (by kernel_rfl) (by kernel_rfl) (by kernel_rfl) (by exact fun _ _ _ h=>h) (Or.inr ⟨by rfl,rfl⟩) (by assumption) ?_;try simp only[nP]
      refine wpAnyH_take  (i:=8) (v:=undef) (by rw[List.getElem?_toArray];exact rfl) (by kernel_rfl) (by kernel_rfl) (by kernel_rfl) (by exact fun _ _ _ h=>h) (Or.inr ⟨by rfl,rfl⟩) (by assumption) ?_;try simp only[nP]
      refine wpAnyH_take  (i:=9) (v:=undef) (by rw[List.getElem?_toArray];exact rfl) (by kernel_rfl) (by kernel_rfl) (by kernel_rfl) (by exact fun _ _ _ h=>h) (Or.inr ⟨by rfl,rfl⟩) (by assumption) ?_;try simp only[nP]
      refine wpAnyH_take  (i:=10) (v:=undef) (by rw[List.getElem?_toArray];exact rfl) (by kernel_rfl) (by kernel_rfl) (by kernel_rfl) (by exact fun _ _ _ h=>h) (Or.inr ⟨by rfl,rfl⟩) (by assumption) ?_;try simp only[nP]
      refine wpAnyH_take  (i:=11) (v:=undef) (by rw[List.getElem?_toArray];exact rfl) (by kernel_rfl) (by kernel_rfl) (by kernel_rfl) (by exact fun _ _ _ h=>h) (Or.inr ⟨by rfl,rfl⟩) (by assumption) ?_;try simp only[nP]
      refine wpAnyH_take  (i:=12) (v:=undef) (by rw[List.getElem?_toArray];exact rfl) (by kernel_rfl) (by kernel_rfl) (by kernel_rfl) (by exact fun _ _ _ h=>h) (Or.inr ⟨by rfl,rfl⟩) (by assumption) ?_;try simp only[nP]
      refine wpAnyH_take  (i:=13) (v:=undef) (by rw[List.getElem?_toArray];exact rfl) (by kernel_rfl) (by kernel_rfl) (by kernel_rfl) (by exact fun _ _ _ h=>h) (Or.inr ⟨by rfl,rfl⟩) (by assumption) ?_;try simp only[nP]
      refine wpAnyH_take  (i:=14) (v:=undef) (by rw[List.getElem?_toArray];exact rfl) (by kernel_rfl) (by kernel_rfl) (by kernel_rfl) (by exact fun _ _ _ h=>h) (Or.inr ⟨by rfl,rfl⟩) (by assumption) ?_;try simp only[nP]
      refine wpAnyH_take  (i:=15) (v:=undef) (by rw[List.getElem?_toArray];exact rfl) (by kernel_rfl) (by kernel_rfl) (by kernel_rfl) (by exact fun _ _ _ h=>h) (Or.inr ⟨by rfl,rfl⟩) (by assumption) ?_;try simp only[nP]
      refine wpAnyH_take  (i:=16) (v:=?_) (by rw[List.getElem?_toArray];exact rfl) (by kernel_rfl) (by kernel_rfl) (by kernel_rfl) (by exact fun _ _ _ h=>h) (Or.inl ⟨by rfl,(by intro W hSw;go_simp<;>with_reducible rfl)⟩) (by assumption) ?_;try simp only[nP]
      refine wpAnyH_take  (i:=17) (v:=?_) (by rw[List.getElem?_toArray];exact rfl) (by kernel_rfl) (by kernel_rfl) (by kernel_rfl) (by exact fun _ _ _ h=>h) (Or.inl ⟨by rfl,(by intro W hSw;go_simp<;>with_reducible rfl)⟩) (by assumption) ?_;try simp only[nP]
      refine wpAnyH_done (by kernel_rfl) ?_ _;have HKW:=lH (show Kept wr (wr.drew.drew) from((Kept.drew wr).trans (Kept.drew _)));obtain d1:=HS.out _ HKW.out;have hbw:(wr.drew.drew).heap.size=wr.heap.size:=rfl;obtain⟨W1,hW1⟩:∃W,wr.drew.drew=W:=⟨_,rfl⟩
      rw[hW1] at HKW hbw d1;try rw[hW1]
      try simp only[hW1]
      clear hW1;have hbase:w.heap.size≤W1.heap.size:=by rw[hbw];exact HB2.out.size
      have HBS:=lH hbase;have OK:=lH (HO.out.kept HKW.out);have hacc16:acc.length≤16:=by omega
      clear hbw;go_wp2_with (at_builtin;refine wpList_append_lies _ rfl _ _ _ rfl w.heap.size 9 i0 _ 1 16 Tryz.underlying29 hi hz0 hz1 hz2 rfl (by decide) u5 acc.length (jd zy acc) rfl (OK.out.1.alloc _) ⟨W1.heap.size,0,none⟩ 1 1 (zy.cs (nm l' k)) rfl rfl (World.news_of_block (cs:=#[.string (nm l' k)]) (t:=9) (fr:=(0,0)) (W1.alloc_heap_new _)) (jaM (nm l' k)) (by decide) (by unfold maxLen;omega) (by omega) (by rw[World.size_alloc];exact Nat.le_succ_of_le HBS.out) (W1.heap.size+1) (World.size_alloc _ _) ?_;intro g cap1 w7 hown1 hgrow hg hlt7;refine Hid.out ?_)
      refine lH ?_;have HBW:=lH (((HB2.out.trans (Below.mono HKW.out HB2.out.size)).alloc (by exact HBS.out) _).grown hgrow (by rw[World.size_alloc];exact Nat.le_succ_of_le HBS.out) (fun j hj=>(HO.out.1.lt j hj).1));go_wp2;go_roundw
      case rel=>exact⟨i,k+1,f2,acc++[nm l' k],by omega,by omega,by go_num,by go_num,HN.out,by omega,Own.snoc hown1 rfl HO.out.2 HSK.out,HBW.out,by rw[List.length_append];simp only[List.length_cons,List.length_nil];omega⟩
      case measure=>simp[intOf];omega
    · have hi3:decide ((i:Int)<(len:Int))=false:=decide_eq_false (by omega);have hk3:decide ((k:Int)<(len':Int))=false:=decide_eq_false (by omega);have HE:=lH (show NS=acc by
       rw[←HQ.out,jla (by simp only[List.length_drop];rw[HL.out,HL'.out];omega),List.append_nil])
      clear hB;go_wp2_with fail
      go_ret;exact⟨_,rfl,by rw[HE.out];exact HO.out,HB2.out⟩
theorem jeM:∀(fuel:Nat) (la lb:V),(zg fuel la lb).length≤fuel
 | 0,_,_=>Nat.le_refl _
 | fuel+1,la,lb=>by
  unfold zg;split
  · exact Nat.zero_le _
  · rw[List.length_cons];exact Nat.succ_le_succ (jeM fuel _ _)
theorem names_mem:∀(fuel:Nat) (la lb:V) (n:ByteArray),n ∈ zg fuel la lb→(∃y ∈ la,y.1=n)∨(∃y ∈ lb,y.1=n)
 | 0,_,_,n,h=>by simp[zg] at h
 | fuel+1,la,lb,n,h=>by
  unfold zg at h;split at h
  · simp at h
  · rename_i h0;rcases List.mem_cons.1 h with rfl | h
    · exact jbi (by omega)
    · rcases names_mem fuel _ _ n h with ⟨y,hy,e⟩ | ⟨y,hy,e⟩
      · exact .inl ⟨y,qR y hy,e⟩
      · exact .inr ⟨y,qR y hy,e⟩
theorem jir {l:V} (h:Gd l) {n:ByteArray} (hn:∃y ∈ l,y.1=n):0<jN l n:=by
 obtain⟨y,hy,rfl⟩:=hn;rw[jkR h hy];exact(h.1 y hy).2.1
theorem jjY {l l':V} (h:Gd l) (h':Gd l') {n:ByteArray} (hn:n ∈ zg (l.length+l'.length) l l'):0<jN l n+jN l' n:=by
 have a:=jbw n h;have b:=jbw n h';rcases names_mem _ _ _ _ hn with hn | hn
 · have:=jir h hn;omega
 · have:=jir h' hn;omega
theorem jmq {f:Int→Int→Int×Int} {la lb:V} {n:ByteArray} {t:List ByteArray} {acc:V} {r1 r2:Int} (h:f (jN la n) (jN lb n)=(r1,r2)) (h2:r2≠0):Zz f la lb (n::t) acc=(r2,[]):=by
 rw[Zz,h,if_pos h2]
theorem jkb {f:Int→Int→Int×Int} {la lb:V} {n:ByteArray} {t:List ByteArray} {acc:V} {r1:Int} (h:f (jN la n) (jN lb n)=(r1,0)):Zz f la lb (n::t) acc=Zz f la lb t (plusV acc n r1):=by
 rw[Zz,h,if_neg (by simp)]
theorem jn1 (x y:Int) (w:World) (h:0≤x∧x≤9223372036854775807) (g:0≤y∧y≤9223372036854775807) :
 Calls Tryz.prog 106 #[.int .i64 x,.int .i64 y] w (Ans (jR x y).1 (jR x y).2 w):=by
 unfold jR;by_cases h2:x+y≤9223372036854775807
 · rw[if_pos h2];exact(jmY x y w h.1 g.1 h2).mono fun _ _=>qS.ans
 · rw[if_neg h2];exact(jj7 x y w h.1 g.1 g.2 (by omega)).mono fun _ _=>qS.ans
def Y1 (l l':V):Int:=if jm l≠0 then jm l else jm l'
theorem jkc {l l':V} (h:Y1 l l'=0):jm l=0∧jm l'=0:=by
 unfold Y1 at h;split at h
 · rename_i g;exact absurd h g
 · rename_i g;exact⟨Decidable.of_not_not g,h⟩
theorem jh4 {f:Int→Int→Int×Int} {l l':V} (h:Y1 l l'≠0):jx f l l'=(Y1 l l',[]):=by
 unfold jx;unfold Y1 at h ⊢;by_cases g:jm l≠0
 · simp only[if_pos g]
 · simp only[if_neg g] at h ⊢;rw[if_pos h]
theorem jeX (a a':Option Addr) (len cap len' cap':Nat) (l l':V) (w:World) (hr:jt w a len l) (hr':jt w a' len' l') :
 Calls Tryz.prog 104 #[.slice a len cap,.slice a' len' cap'] w fun e w'=>e=.returned (.int .i64 (Y1 l l'))∧Kept w w':=by
 have HA:=lH hr;have HB:=lH hr';obtain⟨c,hc⟩:∃c,jm l=c:=⟨_,rfl⟩
 have HC:=lH hc;clear hr hr';by_cases h0:c=0
 · subst h0;have HE:=lH (show Y1 l l'=jm l' by unfold Y1;rw[hc,if_neg (by decide)]);go_enter Tryz.func104,Tryz.ntmps104;go_wp2_with fail
   refine(Xq _ _ _ l _ HA.out).mono ?_;rw[HC.out];clear hc;rintro e1 w1 ⟨rfl,k1⟩;have K1:=lH k1;clear k1;go_wp2_with fail
   refine(Xq _ _ _ l' _ (HB.out.kept K1.out)).mono ?_;rintro e2 w2 ⟨rfl,k2⟩;have K2:=lH (K1.out.trans k2);clear k2;go_wp2;go_ret;exact⟨jb HE.out.symm,K2.out⟩
 · have HE:=lH (show Y1 l l'=c by unfold Y1;rw[hc,if_pos h0]);have h1:(c==0)=false:=by simpa using h0
   clear h0;go_enter Tryz.func104,Tryz.ntmps104;go_wp2_with fail
   refine(Xq _ _ _ l _ HA.out).mono ?_;rw[HC.out];clear hc;rintro e1 w1 ⟨rfl,k1⟩;have K1:=lH k1;clear k1;go_wp2;go_ret;exact⟨jb HE.out.symm,K1.out⟩
theorem jkx (a:Option Addr) (n cap:Nat) (w:World) (h:n≤8):Calls Tryz.prog 107 #[.slice a n cap] w fun e w'=>e=.returned (.tuple #[.slice a n cap,.int .i64 0])∧w=w':=by
 have h1:(n:Int)≤8:=by omega
 have h2:decide ((8:Int)<(n:Int))=false:=decide_eq_false (by omega);have h3:decide (8<n)=false:=decide_eq_false (by omega);go_enter Tryz.func107,Tryz.ntmps107;go_wp2;go_ret2
 exact⟨rfl,rfl⟩
theorem jhd (a:Option Addr) (n cap:Nat) (w:World) (h:8<n):Calls Tryz.prog 107 #[.slice a n cap] w fun e w'=>e=.returned (.tuple #[.slice none 0 0,.int .i64 4])∧w=w':=by
 have h1:(8:Int)<(n:Int):=by omega
 go_enter Tryz.func107,Tryz.ntmps107;go_wp2;go_ret2
 exact⟨rfl,rfl⟩
theorem jkY (a a':Option Addr) (len cap len' cap':Nat) (l l':V) (w:World) (hr:jt w a len l) (hr':jt w a' len' l') :
 Calls Tryz.prog 62 #[.slice a len cap,.slice a' len' cap'] w (Told (jx jR l l').1 (jx jR l l').2 w):=by
 have HA:=lH hr;have HB:=lH hr';have HL:=lH hr.1;have HL':=lH hr'.1;by_cases hc:Y1 l l'=0
 · obtain⟨ha,hb⟩:=jkc hc;have HC:=lH hc;have HG:=lH (ql ha hr.2.2.1);have HG':=lH (ql hb hr'.2.2.1);have h8:len≤8:=by have:=YI ha;rw[HL.out] at this;exact this
   have h8':len'≤8:=by have:=YI hb;rw[HL'.out] at this;exact this
   have HM:=lH (jg5 jR ha hb hr.2.2.1 hr'.2.2.1);have HP:=lH (show ∀n ∈ zg (l.length+l'.length) l l',0<jN l n+jN l' n from fun n hn=>jjY HG.out HG'.out hn);obtain⟨NS,hNS⟩:∃NS,zg (l.length+l'.length) l l'=NS:=⟨_,rfl⟩
   have hlen:=jeM (l.length+l'.length) l l';have hn16:NS.length≤16:=by rw[hNS,HL.out,HL'.out] at hlen;omega
   rw[hNS] at HM HP;have HNS:=lH hNS;obtain⟨R,hR⟩:∃R,Zz jR l l' NS []=R:=⟨_,rfl⟩
   rw[hR] at HM;have HRR:=lH hR;have HH8:=lH h8;have HH8':=lH h8';obtain⟨i0,hi,hz0,hz1,hz2⟩:=info_parts jic;clear hr hr' hc ha hb hNS hR hlen h8 h8';go_enter Tryz.func62,Tryz.ntmps62;go_wp2_with fail
   refine(jeX _ _ _ _ _ _ l l' _ HA.out HB.out).mono ?_;rw[HC.out];rintro e1 w1 ⟨rfl,k1⟩;have K1:=lH k1;clear k1;go_wp2_with fail
   refine(jky _ _ _ _ _ _ l l' _ (HA.out.kept K1.out) (HB.out.kept K1.out) HH8.out HH8'.out).mono ?_;rw[HNS.out];rintro e2 w2 ⟨x2,rfl,ho,k2⟩;have HN2:=lH ho.2;obtain⟨s,scap,rfl,hs1,hs2,hrow⟩:=ho.reads;have HROW:=lH hrow;have HSC:=lH hs1;have K2:=lH (K1.out.trans k2);obtain⟨n,hn⟩:∃n,NS.length=n:=⟨_,rfl⟩
   have HNL:=lH hn;rw[hn] at hn16 HROW ⊢;clear k2 ho hrow hn hs1 hs2;go_wp2;go_loopw [8,9] (fun v i wr=>∃(k:Nat) (acc:V),k≤n∧i=.int .i64 k∧Zz jR l l' (NS.drop k) acc=R∧jH 134 wr w2.heap.size v acc∧Below w2.heap.size w2 wr∧acc.length≤k)
    (fun _ i _=>n-(intOf i).toNat)
   case atStart=>exact⟨0,[],Nat.zero_le _,rfl,HRR.out,jH.nil _ _ _,Below.refl _ _,Nat.le_refl _⟩
   case round =>
    obtain⟨k,acc,hk,rfl,hres,ho,hB,hacc⟩:=hrel;have HQ:=lH hres;have HO:=lH ho;have HB2:=lH hB;clear hres ho;by_cases hlt:k<n
    · obtain⟨b,off,rfl⟩:∃b off,s=some ⟨b,off,none⟩:=HROW.out.form.resolve_left (by omega);obtain⟨x,hx,hdrop,hbx,hsz,c1⟩:=(HROW.out.kept hB).str hlt;have HD:=lH hdrop;have HSZ:=lH hsz;have HS:=lH (show ∀W,Kept wr W→W.cell? ⟨b,off+k,none⟩=some (.string x) from fun W kk=>cell_later kk c1);have HX:=lH (show 0<jN l x+jN l' x from HP.out x (List.mem_of_getElem? hx));have HKA:=lH (show ∀W,Kept wr W→jt W a len l from fun W kk=>HA.out.kept (K2.out.trans (Kept.trans hB kk)));have HKB:=lH (show ∀W,Kept wr W→jt W a' len' l' from fun W kk=>HB.out.kept (K2.out.trans (Kept.trans hB kk)));obtain⟨g1,hg1⟩:∃g,jN l x=g:=⟨_,rfl⟩
      obtain⟨g2,hg2⟩:∃g,jN l' x=g:=⟨_,rfl⟩
      have HG1:=lH hg1;have HG2:=lH hg2;have B1:=lH (show 0≤g1∧g1≤9223372036854775807 by rw[←hg1];exact jbw x HG.out);have B2:=lH (show 0≤g2∧g2≤9223372036854775807 by rw[←hg2];exact jbw x HG'.out);rw[hg1,hg2] at HX;obtain⟨r1,r2,hr⟩:∃r1 r2,jR g1 g2=(r1,r2):=⟨_,_,rfl⟩
      have QF:=lH (show ∀W,Calls Tryz.prog 106 #[.int .i64 g1,.int .i64 g2] W (Ans r1 r2 W) from fun W=>by
       have:=jn1 g1 g2 W B1.out B2.out;rw[hr] at this;exact this)
      have RB:=lH (show 0≤r1∧r1≤9223372036854775807 by have:=jiA B1.out B2.out;rw[hr] at this;exact this);have HF:=lH (show jR (jN l x) (jN l' x)=(r1,r2) by rw[hg1,hg2];exact hr);have HFR:=lH hr;have hk1:(k:Int)<(n:Int):=by omega
      clear hB hx hdrop hsz hg1 hg2 hr;by_cases hz:r2=0
      · subst hz;have hy:r1≠0:=by
         have h1:=HX.out;have h2:=HFR.out;unfold jR at h2;split at h2
         · have:=(Prod.mk.inj h2).1;omega
         · have:=(Prod.mk.inj h2).2;omega
        have HN:=lH (show Zz jR l l' (NS.drop (k+1)) (acc++[(x,r1)])=R by
         have:=jkb (t:=NS.drop (k+1)) (acc:=acc) HF.out;unfold plusV at this;rw[if_neg hy] at this;rw[←this,←HD.out];exact HQ.out)
        clear hy;go_wp2;clear c1;refine wp_region_held_drew (S:=fun W=>W.cell? ⟨b,off+k,none⟩=some (.string x)) (by kernel_rfl) (HS.out _ (Kept.drew _)) (fun hHeld=>?_);refine tkJ 0 ?_;refine tkJ 1 ?_;refine tkJ 2 ?_;refine tkJ 3 ?_;refine tkJ 4 ?_;refine tkJ 6 ?_;refine tkJ 7 ?_;refine tkJ 8 ?_;refine tkJ 9 ?_;refine tkJ 10 ?_;try simp only[nP]
        refine rd1 5 fun K9 hK9=>?_;go_simp;refine(XE _ _ _ l x _ (HKA.out _ (Kept.drew _))).mono ?_;rintro e3 w3 ⟨rfl,kk⟩;have J1:=lH ((Kept.drew _).trans kk);clear kk;refine hK9.out _ _ (HS.out _ J1.out) (fun hHeld1=>?_);clear hK9 K9;try simp only[nP]
        refine rd1 11 fun K9 hK9=>?_;go_simp;refine(XE _ _ _ l' x _ (HKB.out _ J1.out)).mono ?_;rintro e4 w4 ⟨rfl,kk⟩;have J2:=lH ((J1.out).trans kk);clear kk;refine hK9.out _ _ (HS.out _ J2.out) (fun hHeld2=>?_);clear hK9 K9;try simp only[nP]
        rw[HG1.out,HG2.out];refine rd1 12 fun K9 hK9=>?_;go_simp;refine(QF.out _).mono ?_;rintro e5 w5 ⟨rfl,kk⟩;have J3:=lH ((J2.out).trans kk);clear kk;refine hK9.out _ _ (HS.out _ J3.out) (fun hHeld3=>?_);clear hK9 K9;try simp only[nP]
        refine tkJ 13 ?_;refine tkJ 14 ?_;refine tkJ 15 ?_;refine tkJ 16 ?_;refine tkJ 17 ?_;try simp only[nP]
        refine wpAnyH_done (by kernel_rfl) ?_ _;have c1:=HS.out _ J3.out;have B6:=lH (HB2.out.trans (Below.mono J3.out HB2.out.size));have O6:=lH (HO.out.kept J3.out);have HOL:=lH (show (w5.alloc (.cells #[.string x,.int .i64 r1] 134)).ownsRow w2.heap.size 134 2 u8 acc.length (cellsOf acc) from(O6.out.1.alloc _));have HBS:=lH (show w2.heap.size≤w5.heap.size from B6.out.size);go_wp2_with (at_builtin;refine wpList_append_lies _ rfl _ _ _ rfl w2.heap.size 134 i0 _ 2 24 Tryz.underlying81 hi hz0 hz1 hz2 rfl (by decide) u8 acc.length (cellsOf acc) rfl HOL.out ⟨w5.heap.size,0,none⟩ 1 1 [.string x,.int .i64 r1] rfl rfl (jcU _ _ _ _) (Yq [(x,r1)]) (by decide) (by unfold maxLen;omega) (by omega) (by rw[World.size_alloc];have:=HBS.out;omega) (w5.heap.size+1) (World.size_alloc _ _) ?_;intro g cap1 w7 hown1 hgrow hg hlt7;refine Hid.out ?_)
        refine lH ?_;go_wp2;go_roundw
        case rel =>
         refine⟨k+1,acc++[(x,r1)],by omega,by go_num,HN.out,⟨?_,O6.out.2.snoc HSZ.out (by have:=RB.out;omega) (by have:=RB.out;omega)⟩,(B6.out.alloc HBS.out _).grown hgrow (by rw[World.size_alloc];have:=HBS.out;omega) (fun j hj=>(HOL.out.lt j hj).1),by rw[List.length_append];simp only[List.length_cons,List.length_nil];omega⟩;rw[List.length_append,ZV];exact hown1
        case measure=>simp[intOf];omega
      · have hz':(r2==0)=false:=by simpa using hz
        have HE:=lH (show jx jR l l'=(r2,[]) by
         have:R=(r2,[]):=by rw[←HQ.out,HD.out];exact jmq HF.out hz
         rw[HM.out,this];simp only;rw[if_pos hz])
        clear hz;go_wp2;clear c1;refine wp_region_held_drew (S:=fun W=>W.cell? ⟨b,off+k,none⟩=some (.string x)) (by kernel_rfl) (HS.out _ (Kept.drew _)) (fun hHeld=>?_);refine tkJ 0 ?_;refine tkJ 1 ?_;refine tkJ 2 ?_;refine tkJ 3 ?_;refine tkJ 4 ?_;refine tkJ 6 ?_;refine tkJ 7 ?_;refine tkJ 8 ?_;refine tkJ 9 ?_;refine tkJ 10 ?_;try simp only[nP]
        refine rd1 5 fun K9 hK9=>?_;go_simp;refine(XE _ _ _ l x _ (HKA.out _ (Kept.drew _))).mono ?_;rintro e3 w3 ⟨rfl,kk⟩;have J1:=lH ((Kept.drew _).trans kk);clear kk;refine hK9.out _ _ (HS.out _ J1.out) (fun hHeld1=>?_);clear hK9 K9;try simp only[nP]
        refine rd1 11 fun K9 hK9=>?_;go_simp;refine(XE _ _ _ l' x _ (HKB.out _ J1.out)).mono ?_;rintro e4 w4 ⟨rfl,kk⟩;have J2:=lH ((J1.out).trans kk);clear kk;refine hK9.out _ _ (HS.out _ J2.out) (fun hHeld2=>?_);clear hK9 K9;try simp only[nP]
        rw[HG1.out,HG2.out];refine rd1 12 fun K9 hK9=>?_;go_simp;refine(QF.out _).mono ?_;rintro e5 w5 ⟨rfl,kk⟩;have J3:=lH ((J2.out).trans kk);clear kk;refine hK9.out _ _ (HS.out _ J3.out) (fun hHeld3=>?_);clear hK9 K9;try simp only[nP]
        refine tkJ 13 ?_;refine tkJ 14 ?_;refine tkJ 15 ?_;refine tkJ 16 ?_;refine tkJ 17 ?_;try simp only[nP]
        refine wpAnyH_done (by kernel_rfl) ?_ _;have c1:=HS.out _ J3.out;have B6:=lH (HB2.out.trans (Below.mono J3.out HB2.out.size));have O6:=lH (HO.out.kept J3.out);go_wp2;go_ret2
        rw[HE.out];exact Told.none (K2.out.trans B6.out)
    · have HE:=lH (show R=(0,acc) by
       have e:NS.drop k=[]:=List.drop_of_length_le (by rw[HNL.out];omega);rw[←HQ.out,e];rfl)
      have HKK:=lH (K2.out.trans (show Kept w2 wr from hB));obtain⟨av,cv,rfl,hv1,hv2,-⟩:=HO.out.at_;have HBL:=lH (jH.base_le HO.out K2.out.size);clear hB hv1 hv2;by_cases h9:acc.length≤8
      · have HW:=lH (show jx jR l l'=(0,acc) by
         rw[HM.out,HE.out];simp only;rw[if_neg (by decide),if_neg (by omega)])
        have QW:=lH (fun W=>jkx av acc.length cv W h9);clear h9;go_wp2_with fail
        refine(QW.out _).mono ?_;rintro e9 w9 ⟨rfl,rfl⟩;go_wp2;go_ret2
        rw[HW.out];exact⟨_,rfl,HBL.out,HKK.out⟩
      · have HW:=lH (show jx jR l l'=(4,[]) by
         rw[HM.out,HE.out];simp only;rw[if_neg (by decide),if_pos (by omega)])
        have QW:=lH (fun W=>jhd av acc.length cv W (by omega));clear h9;go_wp2_with fail
        refine(QW.out _).mono ?_;rintro e9 w9 ⟨rfl,rfl⟩;go_wp2;go_ret2
        rw[HW.out];exact Told.none HKK.out
 · have HE:=lH (jh4 (f:=jR) hc);obtain⟨c,hc2⟩:∃c,Y1 l l'=c:=⟨_,rfl⟩
   rw[hc2] at HE hc;have hc':(c==0)=false:=by simpa using hc
   have HC:=lH hc2;clear hr hr' hc hc2;go_enter Tryz.func62,Tryz.ntmps62;go_wp2_with fail
   refine(jeX _ _ _ _ _ _ l l' _ HA.out HB.out).mono ?_;rw[HC.out];rintro e1 w1 ⟨rfl,k1⟩;have K1:=lH k1;clear k1;go_wp2;go_ret2
   rw[HE.out];exact Told.none K1.out
theorem jjT {v v':Value} {l l' m:V} {c:Int} {w:World} (h:Reads w v l) (h':Reads w v' l') (e:jx jR l l'=(c,m)) :
 Calls Tryz.prog 62 #[v,v'] w fun e w'=>∃x,e=.returned (.tuple #[x,.int .i64 c])∧Reads w' x m∧Kept w w':=by
 obtain⟨a,cap,rfl,_,_,hb⟩:=h;obtain⟨a9,cap9,rfl,_,_,hr⟩:=h';refine(jkY a a9 _ cap _ cap9 l l' w hb hr).mono ?_;rw[e];rintro e w' ⟨x,rfl,ho,k⟩;exact⟨x,rfl,ho.at_,k⟩
end Go.Proofs.YthmddloeggdohaaGreatDoor.Vec
