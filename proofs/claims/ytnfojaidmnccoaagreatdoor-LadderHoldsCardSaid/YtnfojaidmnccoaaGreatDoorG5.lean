/- The law. -/
import Derived.Test.YtnfojaidmnccoaaGreatDoorG2
import Derived.Test.YtnfojaidmnccoaaGreatDoorG3
import Derived.Test.YtnfojaidmnccoaaGreatDoorG4
set_option linter.unusedVariables false
set_option maxRecDepth 100000
set_option maxHeartbeats 25600000
namespace Go.Proofs.YtnfojaidmnccoaaGreatDoor
open Go.RowKit
theorem Vec.Reads.grow {w w':World} {a:Option Addr} {m cap:Nat} {l:Vec.V} (h:Vec.Reads w (.slice a m cap) l) (hs:w.heap.size≤w'.heap.size) (hb:∀b off sp,a=some ⟨b,off,sp⟩→w'.heap[b]?=w.heap[b]?):Vec.Reads w' (.slice a m cap) l:=by
 obtain⟨a',cap',e,h1,h2,h3,h4,h5,h6⟩:=h
 cases e
 refine⟨a,cap,rfl,h1,h2,h3,h4,h5,h6.imp id ?_⟩;rintro ⟨b,off,rfl,hlt,hc⟩;exact⟨b,off,rfl,Nat.lt_of_lt_of_le hlt hs,fun i hi=>⟨(World.cell?_of_block (a:=⟨b,off+i*2,none⟩) (hb b off none rfl)).trans (hc i hi).1,(World.cell?_of_block (a:=⟨b,off+i*2+1,none⟩) (hb b off none rfl)).trans (hc i hi).2⟩⟩
theorem qz:(Tryz.prog.info? 49).map (fun i=>(i.zero,i.size,i.bytes))=some (some (.agg #[.int .i64 0,.int .i64 0,.int .i64 0]),3,24):=by kernel_rfl
def jbz (n:Lad) (w:World) (e:Ending) (w':World):Prop:=∃v,e=.returned v∧zg w.heap.size w' v n∧Kept w w'
theorem jar (n:Lad) (a1 a2:Option Addr) (l1 c1 l2 c2:Nat) (w:World) (h:jW w (.slice a1 l1 c1) (.slice a2 l2 c2) n) (hu:n.unit.length≤1000) (hn:n.rungs.length≤1000):Calls Tryz.prog 14 #[.agg #[.string n.what,.slice a1 l1 c1,.slice a2 l2 c2,.int .i64 n.lo,.int .i64 n.hi]] w (jbz n w):=by
 obtain⟨a9,c9,e9,-,-,hrow⟩:=id h.rungs;obtain⟨rfl,rfl,rfl⟩:a2=a9∧l2=n.rungs.length∧c2=c9:=by cases e9;exact⟨rfl,rfl,rfl⟩
 obtain⟨a8,c8,e8,-,-,hvec⟩:=id h.unit;obtain⟨rfl,rfl,rfl⟩:a1=a8∧l1=n.unit.length∧c1=c8:=by cases e8;exact⟨rfl,rfl,rfl⟩
 obtain⟨len,hlen⟩:=eX (n.rungs.length)
 have Vg:=lH hlen;obtain⟨l1,hl1⟩:=eX (n.unit.length)
 rw[hlen] at hrow hn ⊢;rw[hl1] at hvec hu ⊢;obtain⟨HR,T5,Vn,T6,U8⟩:=lH5 hrow hvec h.size h.lo h.hi;clear hlen hl1 e9 e8 hrow hvec h;obtain⟨W1,hW1⟩:=eX (w.alloc (.cells #[.string n.what,.slice a1 l1 c1,.slice a2 len c2,.int .i64 n.lo,.int .i64 n.hi] 26))
 have k1:Kept w W1:=by rw[←hW1];exact ja _ _
 have HL:=lH (jl w (.string n.what) [.slice a1 l1 c1,.slice a2 len c2,.int .i64 n.lo,.int .i64 n.hi] 26 W1 (by rw[hW1];exact Kept.refl _));obtain⟨q1,hq1⟩:=eX (w.heap.size)
 rw[hq1] at HL;obtain⟨W2,hW2⟩:=eX (W1.alloc (.cells #[.string ⟨#[]⟩,.slice none 0 0,.slice none 0 0,.int .i64 0,.int .i64 0] 35))
 have k2:Kept W1 W2:=by rw[←hW2];exact ja _ _
 have HZ:=lH (jl W1 (.string ⟨#[]⟩) [.slice none 0 0,.slice none 0 0,.int .i64 0,.int .i64 0] 35 W2 (by rw[hW2];exact Kept.refl _));have hz1:W1.heap.size=q1+1:=by rw[←hW1,World.size_alloc,hq1]
 rw[hz1] at HZ;obtain⟨Tk,HL,K,Tz,EW1,EW2⟩:=lH6 (show W2.heap.size=q1+2 by rw[←hW2,World.size_alloc,hz1]) (HL.out.kept k2) (k1.trans k2) hq1 hW1 hW2;clear k1 k2 hW1 hW2 hz1 hq1;go_enter Tryz.func14,Tryz.ntmps14;go_upto_region 1 with fail
 try rw[EW1.out]
 try rw[EW2.out]
 try rw[Tz.out]
 clear EW1 EW2;have HS:=lH (show ∀W,Kept W2 W→W.cell? ⟨q1,0,none⟩=some (.string n.what)∧W.cell? ⟨q1,1,none⟩=some (.slice a1 l1 c1)∧W.cell? ⟨q1,2,none⟩=some (.slice a2 len c2)∧W.cell? ⟨q1,3,none⟩=some (.int .i64 n.lo)∧W.cell? ⟨q1,4,none⟩=some (.int .i64 n.hi) from fun W k=>(HL.out.kept k).at5);have Vs:=lH (fun W (k:Kept w W)=>Vec.jbc a1 l1 c1 n.unit W (T5.out.kept k) (by omega));go_cut [3] from 5 to 14 (fun s3 wx=>∃q xa xm xc,s3=.pointer (some ⟨q,0,none⟩)∧Hid (js q [.string n.what,.slice xa xm xc,.slice none 0 0,.int .i64 n.lo,.int .i64 n.hi] wx∧Vec.Reads wx (.slice xa xm xc) n.unit∧(∀b off sp,xa=some ⟨b,off,sp⟩→b≠q∧W2.heap.size≤b∧b<wx.heap.size)∧Kept W2 wx∧W2.heap.size≤q))
 case first =>
  have J:=lH (Kept.drew W2);refine wp_region_held_drew (S:=fun W=>Kept W2 W) (by kernel_rfl) (J.out) (fun hHeld=>?_);obtain⟨wd,hwd⟩:=eX (W2.drew)
  rw[hwd] at J hHeld;try rw[hwd]
  clear hwd;refine tR 0 rfl (by kernel_rfl) (fun _ _ _=>id) (Or.inl ⟨by rfl,(by intro W hSw;obtain⟨o0,o1,o2,o3,o4⟩:=HS.out _ hSw;go_simp<;>with_reducible rfl)⟩) ‹_› ?_;try simp only[nA,nB,nC,nD,nE]
  refine tR 1 rfl (by kernel_rfl) (fun _ _ _=>id) (Or.inl ⟨by rfl,(by intro W hSw;obtain⟨o0,o1,o2,o3,o4⟩:=HS.out _ hSw;go_simp<;>with_reducible rfl)⟩) ‹_› ?_;try simp only[nA,nB,nC,nD,nE]
  refine tR 2 rfl (by kernel_rfl) (fun _ _ _=>id) (Or.inl ⟨by rfl,(by intro W hSw;obtain⟨o0,o1,o2,o3,o4⟩:=HS.out _ hSw;go_simp<;>with_reducible rfl)⟩) ‹_› ?_;try simp only[nA,nB,nC,nD,nE]
  refine tR 3 rfl (by kernel_rfl) (fun _ _ _=>id) (Or.inl ⟨by rfl,(by intro W hSw;obtain⟨o0,o1,o2,o3,o4⟩:=HS.out _ hSw;go_simp<;>with_reducible rfl)⟩) ‹_› ?_;try simp only[nA,nB,nC,nD,nE]
  refine tR 5 rfl (by kernel_rfl) (fun _ _ _=>id) (Or.inl ⟨by rfl,(by intro W hSw;obtain⟨o0,o1,o2,o3,o4⟩:=HS.out _ hSw;go_simp<;>with_reducible rfl)⟩) ‹_› ?_;try simp only[nA,nB,nC,nD,nE]
  refine tR 6 rfl (by kernel_rfl) (fun _ _ _=>id) (Or.inl ⟨by rfl,(by intro W hSw;obtain⟨o0,o1,o2,o3,o4⟩:=HS.out _ hSw;go_simp<;>with_reducible rfl)⟩) ‹_› ?_;try simp only[nA,nB,nC,nD,nE]
  refine tR 7 rfl (by kernel_rfl) (fun _ _ _=>id) (Or.inl ⟨by rfl,(by intro W hSw;obtain⟨o0,o1,o2,o3,o4⟩:=HS.out _ hSw;go_simp<;>with_reducible rfl)⟩) ‹_› ?_;try simp only[nA,nB,nC,nD,nE]
  refine tR 8 rfl (by kernel_rfl) (fun _ _ _=>id) (Or.inl ⟨by rfl,(by intro W hSw;obtain⟨o0,o1,o2,o3,o4⟩:=HS.out _ hSw;go_simp<;>with_reducible rfl)⟩) ‹_› ?_;try simp only[nA,nB,nC,nD,nE]
  refine wpAnyH_ready  (rs:=[4,10]) (by kernel_rfl) (by simp) (AllReadyH.cons  (by rw[List.getElem?_toArray];exact rfl) (fun K9 Ky=>?_) (AllReadyH.cons  (by rw[List.getElem?_toArray];exact rfl) (fun K9 Ky=>?_) AllReadyH.nil))
  · skip;go_simp;refine(Vs.out _ (K.out.trans J.out)).mono ?_;rintro e9 ww1 ⟨x9,rfl,ho9,kk⟩;obtain⟨xa,xc,rfl,hx1,hx2,hx3⟩:=id ho9.at_;obtain⟨xm,hxm⟩:=eX (n.unit.length)
    have RD:=lH (show Vec.Reads _ _ n.unit from⟨xa,xc,rfl,hx1,hx2,hx3⟩);have RB:=lH (show ∀b off sp,xa=some ⟨b,off,sp⟩→True∧W2.heap.size≤b∧b<ww1.heap.size from fun b off sp e=>by have h:=ho9.1.lt b (by subst e;rfl);refine⟨trivial,Nat.le_trans J.out.size h.1,h.2⟩);rw[hxm] at RD;try rw[hxm]
    clear ho9 hx1 hx2 hx3 hxm;have J:=lH (J.out.trans kk);clear kk;refine Ky.out _ _ (J.out) (fun _=>?_);clear Ky K9;try simp only[nA,nB,nC,nD,nE]
    refine tR 9 rfl (by kernel_rfl) (fun _ _ _=>id) (Or.inl ⟨by rfl,(by intro W hSw;obtain⟨o0,o1,o2,o3,o4⟩:=HS.out _ hSw;go_simp<;>with_reducible rfl)⟩) ‹_› ?_;try simp only[nA,nB,nC,nD,nE]
    refine rd1 10 fun K9 Ky=>?_;go_simp;have kk:=ja ww1 (.cells #[.string ⟨#[]⟩,.slice none 0 0,.slice none 0 0,.int .i64 0,.int .i64 0] 35);have hn9:=jl ww1 (.string ⟨#[]⟩) [.slice none 0 0,.slice none 0 0,.int .i64 0,.int .i64 0] 35 _ (Kept.refl _);have hp9:W2.heap.size≤ww1.heap.size:=J.out.size;have RB:=lH (show ∀b off sp,xa=some ⟨b,off,sp⟩→b≠ww1.heap.size∧W2.heap.size≤b∧b<(ww1.alloc (.cells #[.string ⟨#[]⟩,.slice none 0 0,.slice none 0 0,.int .i64 0,.int .i64 0] 35)).heap.size from fun b off sp e=>by have h:=RB.out b off sp e;refine⟨by omega,h.2.1,by simp;omega⟩);obtain⟨q,hqe⟩:=eX (ww1.heap.size)
    obtain⟨ww3,hnw⟩:=eX (ww1.alloc (.cells #[.string ⟨#[]⟩,.slice none 0 0,.slice none 0 0,.int .i64 0,.int .i64 0] 35))
    rw[hnw] at hn9 kk RB ⊢;rw[hqe] at hn9 hp9 RB ⊢;clear hnw hqe;obtain⟨J,QA,Vb,RD⟩:=lH4 (J.out.trans kk) hn9 hp9 (RD.out.kept kk);clear hn9 kk hp9;refine Ky.out _ _ (J.out) (fun _=>?_);clear Ky K9;try simp only[nA,nB,nC,nD,nE]
    refine rd1 11 fun K9 Ky=>?_;obtain⟨z0,z1,z2,z3,z4⟩:=QA.out.at5;have y0:=QA.out.free 0;have y1:=QA.out.free 1;have y2:=QA.out.free 2;have y3:=QA.out.free 3;have y4:=QA.out.free 4;go_simp;have PP:=lH (zL (vs:=[.string n.what,.slice xa xm xc,.slice none 0 0,.int .i64 n.lo,.int .i64 n.hi]) QA.out rfl);obtain⟨ww5,hnw⟩:=eX (ww3.setCells q 0 [.string n.what,.slice xa xm xc,.slice none 0 0,.int .i64 n.lo,.int .i64 n.hi])
    have hnw2:(((((ww3.setCell ⟨q,0,none⟩ (.string n.what)).setCell ⟨q,1,none⟩ (.slice xa xm xc)).setCell ⟨q,2,none⟩ (.slice none 0 0)).setCell ⟨q,3,none⟩ (.int .i64 n.lo)).setCell ⟨q,4,none⟩ (.int .i64 n.hi))=ww5:=hnw;rw[hnw] at PP;rw[hnw2];clear hnw hnw2 z0 y0 z1 y1 z2 y2 z3 y3 z4 y4;obtain⟨J,QA,RD,RB⟩:=lH4 (show Kept W2 ww5 from PP.out.below _ _ Vb.out J.out) PP.out.cells (RD.out.far PP.out.size (fun b o sp e=>PP.out.far b (RB.out b o sp e).1)) (show ∀b off sp,xa=some ⟨b,off,sp⟩→b≠q∧W2.heap.size≤b∧b<ww5.heap.size from fun b off sp e=>by rw[PP.out.size];exact RB.out b off sp e);clear PP;refine Ky.out _ _ (J.out) (fun _=>?_);clear Ky K9;try simp only[nA,nB,nC,nD,nE]
    refine wpAnyH_done (by kernel_rfl) ?_ _;go_wp2;go_meet
    case rel=>exact⟨q,xa,xm,xc,rfl,lH ⟨QA.out,RD.out,RB.out,J.out,Vb.out⟩⟩
  · skip;go_simp;have kk:=ja wd (.cells #[.string ⟨#[]⟩,.slice none 0 0,.slice none 0 0,.int .i64 0,.int .i64 0] 35);have hn9:=jl wd (.string ⟨#[]⟩) [.slice none 0 0,.slice none 0 0,.int .i64 0,.int .i64 0] 35 _ (Kept.refl _);have hp9:W2.heap.size≤wd.heap.size:=J.out.size;obtain⟨q,hqe⟩:=eX (wd.heap.size)
    obtain⟨ww7,hnw⟩:=eX (wd.alloc (.cells #[.string ⟨#[]⟩,.slice none 0 0,.slice none 0 0,.int .i64 0,.int .i64 0] 35))
    rw[hnw] at hn9 kk ⊢;rw[hqe] at hn9 hp9 ⊢;clear hnw hqe;obtain⟨J,QA,Vb⟩:=lH3 (J.out.trans kk) hn9 hp9;clear hn9 kk hp9;refine Ky.out _ _ (J.out) (fun _=>?_);clear Ky K9;try simp only[nA,nB,nC,nD,nE]
    refine rd1 4 fun K9 Ky=>?_;go_simp;refine(Vs.out _ (K.out.trans J.out)).mono ?_;rintro e9 ww9 ⟨x9,rfl,ho9,kk⟩;obtain⟨xa,xc,rfl,hx1,hx2,hx3⟩:=id ho9.at_;obtain⟨xm,hxm⟩:=eX (n.unit.length)
    have RD:=lH (show Vec.Reads _ _ n.unit from⟨xa,xc,rfl,hx1,hx2,hx3⟩);have RB:=lH (show ∀b off sp,xa=some ⟨b,off,sp⟩→b≠q∧W2.heap.size≤b∧b<ww9.heap.size from fun b off sp e=>by have h:=ho9.1.lt b (by subst e;rfl);refine⟨?_,Nat.le_trans J.out.size h.1,h.2⟩;have:=QA.out.lt;omega);rw[hxm] at RD;try rw[hxm]
    clear ho9 hx1 hx2 hx3 hxm;have J:=lH (J.out.trans kk);have QA:=lH (QA.out.kept kk);clear kk;refine Ky.out _ _ (J.out) (fun _=>?_);clear Ky K9;try simp only[nA,nB,nC,nD,nE]
    refine tR 9 rfl (by kernel_rfl) (fun _ _ _=>id) (Or.inl ⟨by rfl,(by intro W hSw;obtain⟨o0,o1,o2,o3,o4⟩:=HS.out _ hSw;go_simp<;>with_reducible rfl)⟩) ‹_› ?_;try simp only[nA,nB,nC,nD,nE]
    refine rd1 11 fun K9 Ky=>?_;obtain⟨z0,z1,z2,z3,z4⟩:=QA.out.at5;have y0:=QA.out.free 0;have y1:=QA.out.free 1;have y2:=QA.out.free 2;have y3:=QA.out.free 3;have y4:=QA.out.free 4;go_simp;have PP:=lH (zL (vs:=[.string n.what,.slice xa xm xc,.slice none 0 0,.int .i64 n.lo,.int .i64 n.hi]) QA.out rfl);obtain⟨ww11,hnw⟩:=eX (ww9.setCells q 0 [.string n.what,.slice xa xm xc,.slice none 0 0,.int .i64 n.lo,.int .i64 n.hi])
    have hnw2:(((((ww9.setCell ⟨q,0,none⟩ (.string n.what)).setCell ⟨q,1,none⟩ (.slice xa xm xc)).setCell ⟨q,2,none⟩ (.slice none 0 0)).setCell ⟨q,3,none⟩ (.int .i64 n.lo)).setCell ⟨q,4,none⟩ (.int .i64 n.hi))=ww11:=hnw;rw[hnw] at PP;rw[hnw2];clear hnw hnw2 z0 y0 z1 y1 z2 y2 z3 y3 z4 y4;obtain⟨J,QA,RD,RB⟩:=lH4 (show Kept W2 ww11 from PP.out.below _ _ Vb.out J.out) PP.out.cells (RD.out.far PP.out.size (fun b o sp e=>PP.out.far b (RB.out b o sp e).1)) (show ∀b off sp,xa=some ⟨b,off,sp⟩→b≠q∧W2.heap.size≤b∧b<ww11.heap.size from fun b off sp e=>by rw[PP.out.size];exact RB.out b off sp e);clear PP;refine Ky.out _ _ (J.out) (fun _=>?_);clear Ky K9;try simp only[nA,nB,nC,nD,nE]
    refine wpAnyH_done (by kernel_rfl) ?_ _;go_wp2;go_meet
    case rel=>exact⟨q,xa,xm,xc,rfl,lH ⟨QA.out,RD.out,RB.out,J.out,Vb.out⟩⟩
 case rest =>
  obtain⟨q,xa,xm,xc,rfl,hx⟩:=hcut;obtain⟨QA,RD,RB,J,Vb⟩:=hx.out;obtain⟨QA,RD,RB,J,Vb⟩:=lH5 QA RD RB J Vb;clear hx;obtain⟨B,hB⟩:=eX (wc.heap.size)
  have HB:=lH hB;rw[hB] at RB;have VV:=lH (show q<B by rw[←hB];exact QA.out.lt);clear hB;obtain⟨o0,o1,o2,o3,o4⟩:=HS.out _ J.out;go_wp2;go_loopw [4] (fun i wr=>∃(k:Nat) (av:Option Addr) (cv:Nat),k≤len∧i=.int .i64 k∧js q [.string n.what,.slice xa xm xc,.slice av k cv,.int .i64 n.lo,.int .i64 n.hi] wr∧Own jr 49 wr B (.slice av k cv) (n.rungs.take k)∧Vec.Reads wr (.slice xa xm xc) n.unit∧Kept W2 wr∧B≤wr.heap.size) (fun i _=>len-(intOf i).toNat)
  case atStart=>exact⟨0,none,0,Nat.zero_le _,rfl,QA.out,Own.nil _ _ _,RD.out,J.out,Nat.le_of_eq HB.out.symm⟩
  case round =>
   obtain⟨k,av,cv,hk,rfl,hqa,how,hrd,hj,hbz⟩:=hrel;clear o0 o1 o2 o3 o4;obtain⟨HT,QA,OW,RD,J,Vl⟩:=lH6 (show (n.rungs.take k).length=k by rw[List.length_take,Vg.out];omega) hqa how hrd hj hbz;clear hqa how hrd hj hbz;obtain⟨o0,o1,o2,o3,o4⟩:=HS.out _ J.out;by_cases hlt:k<len
   · have hk1:(k:Int)<(len:Int):=by omega
     obtain⟨b,off,rfl⟩:∃b off,a2=some ⟨b,off,none⟩:=by rcases HR.out.form with h | h;omega;exact h
     obtain⟨u,c,p,e1,e2,e3,e4,c0,c1x,c2x⟩:=HR.out.rung hlt;obtain⟨Vj,TA,VM⟩:=lH3 (show ∀W,Kept w W→W.cell? ⟨b,off+k*3,none⟩=some (.int .i64 u)∧W.cell? ⟨b,off+k*3+1,none⟩=some (.int .i64 c)∧W.cell? ⟨b,off+k*3+2,none⟩=some (.int .i64 p) from fun W k=>⟨cell_later k c0,cell_later k c1x,cell_later k c2x⟩) (show n.rungs.take (k+1)=n.rungs.take k++[(u,c,p)] by rw[List.take_add_one,e1];rfl) e4;clear e1 e2 e3 e4 c0 c1x c2x;obtain⟨i0,hi,hz0,hz1,hz2⟩:=info_parts qz;go_wp2_with fail
     clear o0 o1 o2 o3 o4;obtain⟨wd,hwd⟩:=eX (wr.drew)
     have kd:Kept wr wd:=by rw[←hwd];exact Kept.drew wr
     obtain⟨J,QA,OW,RD,Vl⟩:=lH5 (J.out.trans kd) (QA.out.kept kd) (OW.out.kept kd) (RD.out.kept kd) (Nat.le_trans Vl.out kd.size);refine wp_region_held_drew (S:=fun W=>Kept W2 W) (by kernel_rfl) (by rw[hwd];exact J.out) (fun hHeld=>?_);rw[hwd] at hHeld;try rw[hwd]
     clear hwd kd;refine tR 0 rfl (by kernel_rfl) (fun _ _ _=>id) (Or.inl ⟨by rfl,(by intro W hSw;obtain⟨o0,o1,o2,o3,o4⟩:=HS.out _ hSw;obtain⟨r0,r1,r2⟩:=Vj.out _ (K.out.trans hSw);go_simp<;>with_reducible rfl)⟩) ‹_› ?_;try simp only[nA,nB,nC,nD,nE]
     refine tR 2 rfl (by kernel_rfl) (fun _ _ _=>id) (Or.inl ⟨by rfl,(by intro W hSw;obtain⟨o0,o1,o2,o3,o4⟩:=HS.out _ hSw;obtain⟨r0,r1,r2⟩:=Vj.out _ (K.out.trans hSw);go_simp<;>with_reducible rfl)⟩) ‹_› ?_;try simp only[nA,nB,nC,nD,nE]
     refine tR 3 rfl (by kernel_rfl) (fun _ _ _=>id) (Or.inl ⟨by rfl,(by intro W hSw;obtain⟨o0,o1,o2,o3,o4⟩:=HS.out _ hSw;obtain⟨r0,r1,r2⟩:=Vj.out _ (K.out.trans hSw);go_simp<;>with_reducible rfl)⟩) ‹_› ?_;try simp only[nA,nB,nC,nD,nE]
     refine tR 4 rfl (by kernel_rfl) (fun _ _ _=>id) (Or.inl ⟨by rfl,(by intro W hSw;obtain⟨o0,o1,o2,o3,o4⟩:=HS.out _ hSw;obtain⟨r0,r1,r2⟩:=Vj.out _ (K.out.trans hSw);go_simp<;>with_reducible rfl)⟩) ‹_› ?_;try simp only[nA,nB,nC,nD,nE]
     refine tR 5 rfl (by kernel_rfl) (fun _ _ _=>id) (Or.inl ⟨by rfl,(by intro W hSw;obtain⟨o0,o1,o2,o3,o4⟩:=HS.out _ hSw;obtain⟨r0,r1,r2⟩:=Vj.out _ (K.out.trans hSw);go_simp<;>with_reducible rfl)⟩) ‹_› ?_;try simp only[nA,nB,nC,nD,nE]
     refine tR 6 rfl (by kernel_rfl) (fun _ _ _=>id) (Or.inl ⟨by rfl,(by intro W hSw;obtain⟨o0,o1,o2,o3,o4⟩:=HS.out _ hSw;obtain⟨r0,r1,r2⟩:=Vj.out _ (K.out.trans hSw);go_simp<;>with_reducible rfl)⟩) ‹_› ?_;try simp only[nA,nB,nC,nD,nE]
     refine tR 7 rfl (by kernel_rfl) (fun _ _ _=>id) (Or.inl ⟨by rfl,(by intro W hSw;obtain⟨o0,o1,o2,o3,o4⟩:=HS.out _ hSw;obtain⟨r0,r1,r2⟩:=Vj.out _ (K.out.trans hSw);go_simp<;>with_reducible rfl)⟩) ‹_› ?_;try simp only[nA,nB,nC,nD,nE]
     refine tR 8 rfl (by kernel_rfl) (fun _ _ _=>id) (Or.inl ⟨by rfl,(by intro W hSw;obtain⟨o0,o1,o2,o3,o4⟩:=HS.out _ hSw;obtain⟨r0,r1,r2⟩:=Vj.out _ (K.out.trans hSw);go_simp<;>with_reducible rfl)⟩) ‹_› ?_;try simp only[nA,nB,nC,nD,nE]
     refine tR 9 rfl (by kernel_rfl) (fun _ _ _=>id) (Or.inl ⟨by rfl,(by intro W hSw;obtain⟨o0,o1,o2,o3,o4⟩:=HS.out _ hSw;obtain⟨r0,r1,r2⟩:=Vj.out _ (K.out.trans hSw);go_simp<;>with_reducible rfl)⟩) ‹_› ?_;try simp only[nA,nB,nC,nD,nE]
     refine tR 10 rfl (by kernel_rfl) (fun _ _ _=>id) (Or.inl ⟨by rfl,(by intro W hSw;obtain⟨o0,o1,o2,o3,o4⟩:=HS.out _ hSw;obtain⟨r0,r1,r2⟩:=Vj.out _ (K.out.trans hSw);go_simp<;>with_reducible rfl)⟩) ‹_› ?_;try simp only[nA,nB,nC,nD,nE]
     refine tR 11 rfl (by kernel_rfl) (fun _ _ _=>id) (Or.inl ⟨by rfl,(by intro W hSw;obtain⟨o0,o1,o2,o3,o4⟩:=HS.out _ hSw;obtain⟨r0,r1,r2⟩:=Vj.out _ (K.out.trans hSw);go_simp<;>with_reducible rfl)⟩) ‹_› ?_;try simp only[nA,nB,nC,nD,nE]
     refine tR 12 rfl (by kernel_rfl) (fun _ _ _=>id) (Or.inl ⟨by rfl,(by intro W hSw;obtain⟨o0,o1,o2,o3,o4⟩:=HS.out _ hSw;obtain⟨r0,r1,r2⟩:=Vj.out _ (K.out.trans hSw);go_simp<;>with_reducible rfl)⟩) ‹_› ?_;try simp only[nA,nB,nC,nD,nE]
     refine tR 13 rfl (by kernel_rfl) (fun _ _ _=>id) (Or.inl ⟨by rfl,(by intro W hSw;obtain⟨o0,o1,o2,o3,o4⟩:=HS.out _ hSw;obtain⟨r0,r1,r2⟩:=Vj.out _ (K.out.trans hSw);go_simp<;>with_reducible rfl)⟩) ‹_› ?_;try simp only[nA,nB,nC,nD,nE]
     refine tR 14 rfl (by kernel_rfl) (fun _ _ _=>id) (Or.inl ⟨by rfl,(by intro W hSw;obtain⟨o0,o1,o2,o3,o4⟩:=HS.out _ hSw;obtain⟨r0,r1,r2⟩:=Vj.out _ (K.out.trans hSw);go_simp<;>with_reducible rfl)⟩) ‹_› ?_;try simp only[nA,nB,nC,nD,nE]
     refine tR 15 rfl (by kernel_rfl) (fun _ _ _=>id) (Or.inl ⟨by rfl,(by intro W hSw;obtain⟨o0,o1,o2,o3,o4⟩:=HS.out _ hSw;obtain⟨r0,r1,r2⟩:=Vj.out _ (K.out.trans hSw);go_simp<;>with_reducible rfl)⟩) ‹_› ?_;try simp only[nA,nB,nC,nD,nE]
     refine tR 16 rfl (by kernel_rfl) (fun _ _ _=>id) (Or.inl ⟨by rfl,(by intro W hSw;obtain⟨o0,o1,o2,o3,o4⟩:=HS.out _ hSw;obtain⟨r0,r1,r2⟩:=Vj.out _ (K.out.trans hSw);go_simp<;>with_reducible rfl)⟩) ‹_› ?_;try simp only[nA,nB,nC,nD,nE]
     refine tR 17 rfl (by kernel_rfl) (fun _ _ _=>id) (Or.inl ⟨by rfl,(by intro W hSw;obtain⟨o0,o1,o2,o3,o4⟩:=HS.out _ hSw;obtain⟨r0,r1,r2⟩:=Vj.out _ (K.out.trans hSw);go_simp<;>with_reducible rfl)⟩) ‹_› ?_;try simp only[nA,nB,nC,nD,nE]
     refine tR 18 rfl (by kernel_rfl) (fun _ _ _=>id) (Or.inl ⟨by rfl,(by intro W hSw;obtain⟨o0,o1,o2,o3,o4⟩:=HS.out _ hSw;obtain⟨r0,r1,r2⟩:=Vj.out _ (K.out.trans hSw);go_simp<;>with_reducible rfl)⟩) ‹_› ?_;try simp only[nA,nB,nC,nD,nE]
     refine tR 19 rfl (by kernel_rfl) (fun _ _ _=>id) (Or.inl ⟨by rfl,(by intro W hSw;obtain⟨o0,o1,o2,o3,o4⟩:=HS.out _ hSw;obtain⟨r0,r1,r2⟩:=Vj.out _ (K.out.trans hSw);go_simp<;>with_reducible rfl)⟩) ‹_› ?_;try simp only[nA,nB,nC,nD,nE]
     refine tR 20 rfl (by kernel_rfl) (fun _ _ _=>id) (Or.inl ⟨by rfl,(by intro W hSw;obtain⟨o0,o1,o2,o3,o4⟩:=HS.out _ hSw;obtain⟨r0,r1,r2⟩:=Vj.out _ (K.out.trans hSw);go_simp<;>with_reducible rfl)⟩) ‹_› ?_;try simp only[nA,nB,nC,nD,nE]
     refine wpAnyH_ready  (rs:=[1,21]) (by kernel_rfl) (by simp) (AllReadyH.cons  (by rw[List.getElem?_toArray];exact rfl) (fun K9 Ky=>?_) (AllReadyH.cons  (by rw[List.getElem?_toArray];exact rfl) (fun K9 Ky=>?_) AllReadyH.nil))
     · skip;obtain⟨z0,z1,z2,z3,z4⟩:=QA.out.at5;go_simp;clear z0 z1 z2 z3 z4;refine Ky.out _ _ (J.out) (fun _=>?_);clear Ky K9;try simp only[nA,nB,nC,nD,nE]
       refine rd1 21 fun K9 Ky=>?_;go_simp;obtain⟨g0,hg0⟩:=eX (wd.heap.size)
       obtain⟨vv15,hnw⟩:=eX (wd.alloc (.cells #[.int .i64 u,.int .i64 c,.int .i64 p] 49))
       have kk:Kept wd vv15:=by rw[←hnw];exact ja _ _
       have HC:=lH (show vv15.heap[g0]?=some (.cells #[.int .i64 u,.int .i64 c,.int .i64 p] 49) by rw[←hnw,←hg0];exact World.alloc_heap_new wd _);try rw[hnw]
       try rw[hg0]
       clear hnw hg0;obtain⟨J,QA,OW,RD,Vl⟩:=lH5 (J.out.trans kk) (QA.out.kept kk) (OW.out.kept kk) (RD.out.kept kk) (Nat.le_trans Vl.out kk.size);clear kk;refine Ky.out _ _ (J.out) (fun _=>?_);clear Ky K9;try simp only[nA,nB,nC,nD,nE]
       refine rd1 22 fun K9 Ky=>?_;refine step_append_lies _ (by rfl) _ _ _ (by rfl) B 49 i0 _ 3 24 Tryz.underlying33 hi hz0 hz1 hz2 rfl (by decide) (.slice av k cv) k (jy jr (n.rungs.take k)) (by rfl) (by have:=OW.out.1;rw[HT.out] at this;exact this) ⟨g0,0,none⟩ 1 1 [.int .i64 u,.int .i64 c,.int .i64 p] (by rfl) (by rfl) (World.news_of_block (cs:=#[.int .i64 u,.int .i64 c,.int .i64 p]) (t:=49) (fr:=(0,0)) HC.out) (zU jr [(u,c,p)]) (by decide) (by unfold maxLen;omega) (by omega) Vl.out _ rfl ?_;intro gg cap1 vv17 hown1 hgrow hat hlt1;have V5:=lH (show ∀r,(Value.slice av k cv).ownBlock=some r→B≤r from fun r hr=>(OW.out.1.lt r hr).1);obtain⟨QA,RD,J,Vl,OW⟩:=lH5 (QA.out.block (hgrow.block q QA.out.lt (fun e=>by have:=V5.out q e.symm;have:=VV.out;omega))) (RD.out.grow hgrow.size (fun b o sp e=>hgrow.block b (by have:=(RB.out b o sp e).2.2;have:=Vl.out;omega) (fun e9=>by have:=V5.out b e9.symm;have:=(RB.out b o sp e).2.2;omega))) (show Kept W2 vv17 from(show Below W2.heap.size W2 vv15 from J.out).grown hgrow J.out.size (fun j hj=>by have:=V5.out j hj;have:=VV.out;have:=Vb.out;omega)) (Nat.le_trans Vl.out hgrow.size) (show Own jr 49 vv17 B (.slice (some ⟨gg,0,none⟩) (k+1) cap1) (n.rungs.take (k+1)) by rw[TA.out];exact Own.snoc hown1 (by rw[HT.out]) OW.out.2 VM.out);clear hgrow hat hlt1 hown1;refine Ky.out _ _ (J.out) (fun _=>?_);clear Ky K9;try simp only[nA,nB,nC,nD,nE]
       refine tR 23 rfl (by kernel_rfl) (fun _ _ _=>id) (Or.inl ⟨by rfl,(by intro W hSw;obtain⟨o0,o1,o2,o3,o4⟩:=HS.out _ hSw;obtain⟨r0,r1,r2⟩:=Vj.out _ (K.out.trans hSw);go_simp<;>with_reducible rfl)⟩) ‹_› ?_;try simp only[nA,nB,nC,nD,nE]
       refine rd1 24 fun K9 Ky=>?_;obtain⟨z0,z1,z2,z3,z4⟩:=QA.out.at5;have y2:=QA.out.free 2;go_simp;obtain⟨vv19,hnw⟩:=eX (vv17.setCell ⟨q,2,none⟩ (.slice (some ⟨gg,0,none⟩) (k+1) cap1))
       obtain⟨QA,OW,RD,J,Vl⟩:=lH5 (show js q [.string n.what,.slice xa xm xc,.slice (some ⟨gg,0,none⟩) (k+1) cap1,.int .i64 n.lo,.int .i64 n.hi] vv19 by rw[←hnw];exact QA.out.set (j:=2) (by show 2<5;omega)) (show Own jr 49 vv19 B _ _ by rw[←hnw];exact OW.out.setCell_below (a:=⟨q,2,none⟩) VV.out _) (show Vec.Reads vv19 _ _ by rw[←hnw];exact RD.out.grow (by simp[World.setCell]) (fun b o sp e=>Below.heap_setCell _ ⟨q,2,none⟩ _ b (RB.out b o sp e).1)) (show Kept W2 vv19 by rw[←hnw];exact(show Below W2.heap.size W2 vv17 from J.out).setCell (p:=⟨q,2,none⟩) Vb.out _) (show B≤vv19.heap.size by rw[←hnw];have:=Vl.out;simpa [World.setCell] using this);try rw[hnw]
       clear hnw z0 z1 z2 z3 z4 y2;refine Ky.out _ _ (J.out) (fun _=>?_);clear Ky K9;try simp only[nA,nB,nC,nD,nE]
       refine wpAnyH_done (by kernel_rfl) ?_ _;go_wp2;go_roundw
       case rel=>exact⟨k+1,some ⟨gg,0,none⟩,cap1,by omega,by go_num,QA.out,OW.out,RD.out,J.out,Vl.out⟩
       case measure=>simp[intOf];omega
     · skip;go_simp;obtain⟨g0,hg0⟩:=eX (wd.heap.size)
       obtain⟨vv21,hnw⟩:=eX (wd.alloc (.cells #[.int .i64 u,.int .i64 c,.int .i64 p] 49))
       have kk:Kept wd vv21:=by rw[←hnw];exact ja _ _
       have HC:=lH (show vv21.heap[g0]?=some (.cells #[.int .i64 u,.int .i64 c,.int .i64 p] 49) by rw[←hnw,←hg0];exact World.alloc_heap_new wd _);try rw[hnw]
       try rw[hg0]
       clear hnw hg0;obtain⟨J,QA,OW,RD,Vl⟩:=lH5 (J.out.trans kk) (QA.out.kept kk) (OW.out.kept kk) (RD.out.kept kk) (Nat.le_trans Vl.out kk.size);clear kk;refine Ky.out _ _ (J.out) (fun _=>?_);clear Ky K9;try simp only[nA,nB,nC,nD,nE]
       refine rd1 1 fun K9 Ky=>?_;obtain⟨z0,z1,z2,z3,z4⟩:=QA.out.at5;go_simp;clear z0 z1 z2 z3 z4;refine Ky.out _ _ (J.out) (fun _=>?_);clear Ky K9;try simp only[nA,nB,nC,nD,nE]
       refine rd1 22 fun K9 Ky=>?_;refine step_append_lies _ (by rfl) _ _ _ (by rfl) B 49 i0 _ 3 24 Tryz.underlying33 hi hz0 hz1 hz2 rfl (by decide) (.slice av k cv) k (jy jr (n.rungs.take k)) (by rfl) (by have:=OW.out.1;rw[HT.out] at this;exact this) ⟨g0,0,none⟩ 1 1 [.int .i64 u,.int .i64 c,.int .i64 p] (by rfl) (by rfl) (World.news_of_block (cs:=#[.int .i64 u,.int .i64 c,.int .i64 p]) (t:=49) (fr:=(0,0)) HC.out) (zU jr [(u,c,p)]) (by decide) (by unfold maxLen;omega) (by omega) Vl.out _ rfl ?_;intro gg cap1 vv25 hown1 hgrow hat hlt1;have V5:=lH (show ∀r,(Value.slice av k cv).ownBlock=some r→B≤r from fun r hr=>(OW.out.1.lt r hr).1);obtain⟨QA,RD,J,Vl,OW⟩:=lH5 (QA.out.block (hgrow.block q QA.out.lt (fun e=>by have:=V5.out q e.symm;have:=VV.out;omega))) (RD.out.grow hgrow.size (fun b o sp e=>hgrow.block b (by have:=(RB.out b o sp e).2.2;have:=Vl.out;omega) (fun e9=>by have:=V5.out b e9.symm;have:=(RB.out b o sp e).2.2;omega))) (show Kept W2 vv25 from(show Below W2.heap.size W2 vv21 from J.out).grown hgrow J.out.size (fun j hj=>by have:=V5.out j hj;have:=VV.out;have:=Vb.out;omega)) (Nat.le_trans Vl.out hgrow.size) (show Own jr 49 vv25 B (.slice (some ⟨gg,0,none⟩) (k+1) cap1) (n.rungs.take (k+1)) by rw[TA.out];exact Own.snoc hown1 (by rw[HT.out]) OW.out.2 VM.out);clear hgrow hat hlt1 hown1;refine Ky.out _ _ (J.out) (fun _=>?_);clear Ky K9;try simp only[nA,nB,nC,nD,nE]
       refine tR 23 rfl (by kernel_rfl) (fun _ _ _=>id) (Or.inl ⟨by rfl,(by intro W hSw;obtain⟨o0,o1,o2,o3,o4⟩:=HS.out _ hSw;obtain⟨r0,r1,r2⟩:=Vj.out _ (K.out.trans hSw);go_simp<;>with_reducible rfl)⟩) ‹_› ?_;try simp only[nA,nB,nC,nD,nE]
       refine rd1 24 fun K9 Ky=>?_;obtain⟨z0,z1,z2,z3,z4⟩:=QA.out.at5;have y2:=QA.out.free 2;go_simp;obtain⟨vv27,hnw⟩:=eX (vv25.setCell ⟨q,2,none⟩ (.slice (some ⟨gg,0,none⟩) (k+1) cap1))
       obtain⟨QA,OW,RD,J,Vl⟩:=lH5 (show js q [.string n.what,.slice xa xm xc,.slice (some ⟨gg,0,none⟩) (k+1) cap1,.int .i64 n.lo,.int .i64 n.hi] vv27 by rw[←hnw];exact QA.out.set (j:=2) (by show 2<5;omega)) (show Own jr 49 vv27 B _ _ by rw[←hnw];exact OW.out.setCell_below (a:=⟨q,2,none⟩) VV.out _) (show Vec.Reads vv27 _ _ by rw[←hnw];exact RD.out.grow (by simp[World.setCell]) (fun b o sp e=>Below.heap_setCell _ ⟨q,2,none⟩ _ b (RB.out b o sp e).1)) (show Kept W2 vv27 by rw[←hnw];exact(show Below W2.heap.size W2 vv25 from J.out).setCell (p:=⟨q,2,none⟩) Vb.out _) (show B≤vv27.heap.size by rw[←hnw];have:=Vl.out;simpa [World.setCell] using this);try rw[hnw]
       clear hnw z0 z1 z2 z3 z4 y2;refine Ky.out _ _ (J.out) (fun _=>?_);clear Ky K9;try simp only[nA,nB,nC,nD,nE]
       refine wpAnyH_done (by kernel_rfl) ?_ _;go_wp2;go_roundw
       case rel=>exact⟨k+1,some ⟨gg,0,none⟩,cap1,by omega,by go_num,QA.out,OW.out,RD.out,J.out,Vl.out⟩
       case measure=>simp[intOf];omega
   · have hge:¬(k:Int)<(len:Int):=by omega
     obtain rfl:k=len:=by omega
     have U3:=lH (show n.rungs.take k=n.rungs by rw[List.take_of_length_le (by rw[Vg.out];omega)]);have HZ:=lH (HZ.out.kept J.out);obtain⟨z0,z1,z2,z3,z4⟩:=QA.out.at5;obtain⟨x0,x1,x2,x3,x4⟩:=HZ.out.at5;have y0:=HZ.out.free 0;have y1:=HZ.out.free 1;have y2:=HZ.out.free 2;have y3:=HZ.out.free 3;have y4:=HZ.out.free 4;have PP:=lH (zL (vs:=[.string n.what,.slice xa xm xc,.slice av k cv,.int .i64 n.lo,.int .i64 n.hi]) HZ.out rfl);obtain⟨WE,hWE⟩:=eX (wr.setCells (q1+1) 0 [.string n.what,.slice xa xm xc,.slice av k cv,.int .i64 n.lo,.int .i64 n.hi])
     have hWE2:(((((wr.setCell ⟨q1+1,0,none⟩ (Value.string n.what)).setCell ⟨q1+1,1,none⟩ (Value.slice xa xm xc)).setCell ⟨q1+1,2,none⟩ (Value.slice av k cv)).setCell ⟨q1+1,3,none⟩ (Value.int .i64 n.lo)).setCell ⟨q1+1,4,none⟩ (Value.int .i64 n.hi))=WE:=hWE;rw[hWE] at PP;have EWE:=lH hWE2;clear hWE hWE2;go_wp2;try rw[EWE.out]
     clear z0 z1 z2 z3 z4 x0 x1 x2 x3 x4 o0 o1 o2 o3 o4 y0 y1 y2 y3 y4;obtain⟨d0,d1,d2,d3,d4⟩:=PP.out.cells.at5;refine bodyPost_ret (by simp[results,Tryz.results14,go_sem,d0,d1,d2,d3,d4];try rfl) rfl ?_;have hq2:=Tk.out;have hq0:=Tz.out;have hkk:=K.out.size;have hr:=OW.out.reads;rw[U3.out] at hr;refine⟨_,rfl,⟨xa,xm,xc,av,k,cv,rfl,⟨Vn.out,RD.out.far PP.out.size (fun b o sp e=>PP.out.far b (by have:=(RB.out b o sp e).2.1;omega)),hr.far PP.out.size (fun b o sp e=>PP.out.far b ?_),T6.out,U8.out⟩,fun b o sp e=>by have:=(RB.out b o sp e).2.1;omega,fun b o sp e=>?_⟩,PP.out.below _ _ (by omega) (K.out.trans J.out)⟩
     · have:=(OW.out.1.lt b (by subst e;rfl)).1;have:=VV.out;have:=Vb.out;omega
     · have:=(OW.out.1.lt b (by subst e;rfl)).1;have:=VV.out;have:=Vb.out;omega
theorem jbt {a b c d v:Int} (h:a=v) (hv:v≠0):orL [a,b,c,d]=v:=by subst h;show (if a≠0 then a else _)=a;rw[if_pos hv]
theorem jbs {a b c d v:Int} (h1:a=0) (h:b=v) (hv:v≠0):orL [a,b,c,d]=v:=by
 subst h;subst h1;show (if (0:Int)≠0 then (0:Int) else if b≠0 then b else _)=b;rw[if_neg (by decide),if_pos hv]
theorem Y4 {a b c d v:Int} (h1:a=0) (h2:b=0) (h:c=v) (hv:v≠0):orL [a,b,c,d]=v:=by
 subst h;subst h1;subst h2;show (if (0:Int)≠0 then (0:Int) else if (0:Int)≠0 then (0:Int) else if c≠0 then c else _)=c;rw[if_neg (by decide),if_neg (by decide),if_pos hv]
theorem jbf {a b c d:Int} (h1:a=0) (h2:b=0) (h3:c=0):orL [a,b,c,d]=d:=by
 subst h1;subst h2;subst h3;show (if (0:Int)≠0 then (0:Int) else if (0:Int)≠0 then (0:Int) else if (0:Int)≠0 then (0:Int) else if d≠0 then d else 0)=d;rw[if_neg (by decide),if_neg (by decide),if_neg (by decide)];by_cases h:d=0
 · rw[if_neg (fun g=>g h),h]
 · rw[if_pos h]
theorem Y5 (n:Lad) (v1 v2:Value) (w:World) (h:jW w v1 v2 n):Calls Tryz.prog 15 #[JO n v1 v2] w (Say (.int .i64 (jK n)) w):=by
 obtain⟨x,un,l,lo,hi⟩:=n;obtain⟨a2,c2,rfl,-,-,hr⟩:=id h.rungs;have hl:l.length=l.length:=rfl;obtain⟨len,hlen⟩:=eX (l.length)
 dsimp only at hr;rw[hlen] at hr;have Vg:=lH hlen;have HR:=lH hr;have hm:=hr.2.1;unfold maxLen at hm;have s0:x.size≤maxLen:=h.size;unfold JO;dsimp only;rw[hlen];clear hl;obtain⟨W0,hW0⟩:=eX (w.alloc (.cells #[.string x,v1,.slice a2 len c2,.int .i64 lo,.int .i64 hi] 35))
 have hk0:Kept w W0:=by rw[←hW0];exact ja _ _
 obtain⟨Q,hQ⟩:=eX (w.heap.size)
 have HC:=lH (show ∀W,Kept W0 W→W.cell? ⟨Q,0,none⟩=some (.string x)∧W.cell? ⟨Q,1,none⟩=some (v1)∧W.cell? ⟨Q,2,none⟩=some (.slice a2 len c2)∧W.cell? ⟨Q,3,none⟩=some (.int .i64 lo)∧W.cell? ⟨Q,4,none⟩=some (.int .i64 hi) from fun W k=>by rw[←hQ];exact(jl w (.string x) [v1,.slice a2 len c2,.int .i64 lo,.int .i64 hi] 35 W (by rw[hW0];exact k)).at5);obtain⟨y1,hy1⟩:=eX (Vec.jf un)
 have E1:=lH (fun W (k:Kept W0 W)=>Vec.qP (h.unit.kept (hk0.trans k)) hy1);obtain⟨r0,hr0⟩:=eX (isName x)
 obtain⟨N0,HV,K0,HW,HQ⟩:=lH5 (fun W=>Vec.jbj (w:=W) s0 hr0) (show jK ⟨x,un,l,lo,hi⟩=orL [if r0=true then 0 else 3,y1,jz lo hi,jF l] by rw[←hy1,←hr0];rfl) hk0 hW0 hQ;clear h hr hk0 hy1 hr0 hlen hW0 hQ;obtain⟨p0,p1,p2,p3,p4⟩:=HC.out _ (Kept.refl _);go_enter Tryz.func15,Tryz.ntmps15;go_upto_region 1 with fail
 try rw[HW.out]
 try rw[HQ.out]
 cases r0 with
 | false =>
  go_wp2_with (go_at_call 32;refine(N0.out _).mono ?_;rintro e w9 ⟨rfl,rfl⟩)
  go_ret;exact⟨jd (HV.out.trans (jbt (by simp) (by decide))).symm,K0.out⟩
 | true =>
  go_upto_region 3 with (go_at_call 32;refine(N0.out _).mono ?_;rintro e w9 ⟨rfl,rfl⟩)
  go_upto_region 4 with (go_at_call 12;refine(E1.out _ (Kept.refl _)).mono ?_;rintro e w1 ⟨rfl,k1⟩;have K1:=lH k1;clear k1;obtain⟨o0,o1,o2,o3,o4⟩:=HC.out _ K1.out)
  clear p0 p1 p2 p3 p4;by_cases z1:y1=0
  case neg =>
   have z1':(y1 != 0)=true:=by simpa using z1
   go_wp2;go_ret;exact⟨jd (HV.out.trans (jbs (by simp) rfl z1)).symm,K0.out.trans K1.out⟩
  subst z1;by_cases h0:lo<0
  case pos =>
   have HL:=lH (show jz lo hi=1 by unfold jz;rw[if_pos (by omega)]);go_wp2;go_ret;exact⟨jd (HV.out.trans (Y4 (by simp) rfl HL.out (by decide))).symm,K0.out.trans K1.out⟩
  by_cases h1:hi<lo
  case pos =>
   have HL:=lH (show jz lo hi=1 by unfold jz;rw[if_pos (by omega)]);go_wp2;go_ret;exact⟨jd (HV.out.trans (Y4 (by simp) rfl HL.out (by decide))).symm,K0.out.trans K1.out⟩
  by_cases h2:128<hi
  case pos =>
   have HL:=lH (show jz lo hi=1 by unfold jz;rw[if_pos (by omega)]);go_wp2;go_ret;exact⟨jd (HV.out.trans (Y4 (by simp) rfl HL.out (by decide))).symm,K0.out.trans K1.out⟩
  have HL:=lH (show jz lo hi=0 by unfold jz;rw[if_neg (by omega)]);have HV:=lH (HV.out.trans (jbf (by simp) rfl HL.out));by_cases h8:8<len
  case pos =>
   have T7:=lH (show jF l=4 by unfold jF;rw[Vg.out,if_pos h8]);have h8i:(8:Int)<(len:Int):=by omega
   go_wp2;go_ret;exact⟨jd (HV.out.trans T7.out).symm,K0.out.trans K1.out⟩
  have h8i:¬(8:Int)<(len:Int):=by omega
  have HV:=lH (HV.out.trans (show jF l=je none l by unfold jF;rw[Vg.out,if_neg h8]));go_wp2;clear o0 o1 o2 o3 o4;go_loopw [4] (fun i wr=>∃k:Nat,k≤len∧i=.int .i64 k∧je (jR l k) (l.drop k)=je none l∧Kept w1 wr) (fun i _=>len-(intOf i).toNat)
  case atStart=>exact⟨0,Nat.zero_le _,rfl,rfl,Kept.refl _⟩
  case round =>
   obtain⟨k,hk,rfl,hrest,hK⟩:=hrel;obtain⟨HS,HT,HK,Ub⟩:=lH4 (HV.out.trans hrest.symm) hrest (K1.out.trans hK) hK;obtain⟨o0,o1,o2,o3,o4⟩:=HC.out _ HK.out;clear hrest hK;by_cases hlt:k<len
   · obtain⟨b,off,rfl⟩:∃b off,a2=some ⟨b,off,none⟩:=by rcases HR.out.form with h | h;omega;exact h
     obtain⟨u,c,p,hn,hd,hb,hfine,c0,c1x,c2x⟩:=(HR.out.kept (K0.out.trans HK.out)).rung hlt;have HD:=lH hd;have Ui:=lH (Zx hn);have hkk:(k:Int)<(len:Int):=by omega
     clear hd hn hfine;obtain⟨W2,hW2⟩:=eX (wr.alloc (.cells #[.int .i64 u,.int .i64 c,.int .i64 p] 49))
     have k2:Kept wr W2:=by rw[←hW2];exact ja _ _
     obtain⟨Q2,hQ2⟩:=eX (wr.heap.size)
     obtain⟨HB,K2,K2W,EW2,EQ2⟩:=lH5 (show ∀W,Kept W2 W→W.cell? ⟨Q2,0,none⟩=some (.int .i64 u)∧W.cell? ⟨Q2,1,none⟩=some (.int .i64 c)∧W.cell? ⟨Q2,2,none⟩=some (.int .i64 p) from fun W k=>by rw[←hQ2];exact(jl wr (.int .i64 u) [.int .i64 c,.int .i64 p] 49 W (by rw[hW2];exact k)).at3) (HK.out.trans k2) (Ub.out.trans k2) hW2 hQ2;clear hW2 hQ2 k2;go_upto_region 14 with fail
     try rw[EW2.out]
     try rw[EQ2.out]
     clear o0 o1 o2 o3 o4 c0 c1x c2x;obtain⟨o0,o1,o2,o3,o4⟩:=HC.out _ K2.out;obtain⟨b0,b1,b2⟩:=HB.out _ (Kept.refl _);by_cases g0:u<0
     case pos =>
      have Ve:=lH (show jg u c p=1 by unfold jg;rw[if_pos (by omega)]);have Vm:=lH (show je (jR l k) (l.drop k)=1 by rw[HD.out,zC (n:=(u,c,p)) (by dsimp only;rw[Ve.out];decide)];exact Ve.out);go_wp2;go_ret;exact⟨jd (HS.out.trans Vm.out).symm,K0.out.trans K2.out⟩
     by_cases g1:p<0
     case pos =>
      have Ve:=lH (show jg u c p=1 by unfold jg;rw[if_pos (by omega)]);have Vm:=lH (show je (jR l k) (l.drop k)=1 by rw[HD.out,zC (n:=(u,c,p)) (by dsimp only;rw[Ve.out];decide)];exact Ve.out);go_wp2;go_ret;exact⟨jd (HS.out.trans Vm.out).symm,K0.out.trans K2.out⟩
     by_cases g2:1000000<p
     case pos =>
      have Ve:=lH (show jg u c p=1 by unfold jg;rw[if_pos (by omega)]);have Vm:=lH (show je (jR l k) (l.drop k)=1 by rw[HD.out,zC (n:=(u,c,p)) (by dsimp only;rw[Ve.out];decide)];exact Ve.out);go_wp2;go_ret;exact⟨jd (HS.out.trans Vm.out).symm,K0.out.trans K2.out⟩
     by_cases g3:c<0
     case pos =>
      have Ve:=lH (show jg u c p=1 by unfold jg;rw[if_pos (by omega)]);have Vm:=lH (show je (jR l k) (l.drop k)=1 by rw[HD.out,zC (n:=(u,c,p)) (by dsimp only;rw[Ve.out];decide)];exact Ve.out);go_wp2;go_ret;exact⟨jd (HS.out.trans Vm.out).symm,K0.out.trans K2.out⟩
     by_cases g4:128<c
     case pos =>
      have Ve:=lH (show jg u c p=1 by unfold jg;rw[if_pos (by omega)]);have Vm:=lH (show je (jR l k) (l.drop k)=1 by rw[HD.out,zC (n:=(u,c,p)) (by dsimp only;rw[Ve.out];decide)];exact Ve.out);go_wp2;go_ret;exact⟨jd (HS.out.trans Vm.out).symm,K0.out.trans K2.out⟩
     have VZ:=lH (show jg u c p=0 by unfold jg;rw[if_neg (by omega)]);by_cases hz:k=0
     · have HP:=lH (ZE (l:=l) (n:=(u,c,p)) (t:=l.drop (k+1)) hz VZ.out);have hd0:decide (0<k)=false:=by subst hz;decide
       have hk0:¬(0:Int)<(k:Int):=by omega
       go_wp2;go_quiet (fail)
       go_wp2;go_roundw
       case rel=>exact⟨k+1,by omega,by go_num,(show je (jR l (k+1)) (l.drop (k+1))=je none l by rw[←HT.out,HD.out,HP.out,Ui.out]),K2W.out.trans (by first | exact Kept.refl _ | exact Kept.drew _ | exact Kept.drewN _ _)⟩
       case measure=>simp[intOf];omega
     · obtain⟨q,hqk⟩:∃q,k=q+1:=⟨k-1,by omega⟩
       have hd0:decide (0<k)=true:=by simp;omega
       have hk0:(0:Int)<(k:Int):=by omega
       have g8:(k:Int)-1=(q:Int):=by omega
       have gw:IntKind.i64.wrap (q:Int)=(q:Int):=by rw[IntKind.wrap_i64];omega
       have g9:(q:Int)<(len:Int):=by omega
       obtain⟨u9,c9,p9,hn9,-,hb9,-,q0,q1,q2⟩:=(HR.out.kept (K0.out.trans K2.out)).rung (show q<len by omega);have hqk1:k-1=q:=by omega
       have HP:=lH (Z5 (l:=l) (n:=(u,c,p)) (q:=(u9,c9,p9)) (t:=l.drop (k+1)) hz (by rw[hqk1];exact hn9) VZ.out);dsimp only at HP;clear hqk hqk1 hn9 hz;have VW:=lH (show ∀W,Kept W2 W→(W.cell? ⟨Q,2,none⟩=some (.slice (some ⟨b,off,none⟩) len c2))∧(W.cell? ⟨Q2,0,none⟩=some (.int .i64 u))∧(W.cell? ⟨b,off+q*3,none⟩=some (.int .i64 u9)) from fun W k=>⟨(HC.out _ (K2.out.trans k)).2.2.1,(HB.out _ k).1,cell_later k q0⟩);by_cases hle:u≤u9
       · have Rf:=VW;go_wp2;go_region_held3 (fun W=>(W.cell? ⟨Q,2,none⟩=some (.slice (some ⟨b,off,none⟩) len c2))∧(W.cell? ⟨Q2,0,none⟩=some (.int .i64 u))∧(W.cell? ⟨b,off+q*3,none⟩=some (.int .i64 u9))) (first | exact VW.out _ (Kept.drew _) | exact VW.out _ (Kept.refl _)) (fail)
         go_wp2;go_ret;exact⟨jd (show (13:Int)=_ by rw[HS.out,HD.out,HP.out,if_pos hle]),K0.out.trans (K2.out.trans (by first | exact Kept.refl _ | exact Kept.drew _ | exact Kept.drewN _ _))⟩
       · go_wp2;go_region_held3 (fun W=>(W.cell? ⟨Q,2,none⟩=some (.slice (some ⟨b,off,none⟩) len c2))∧(W.cell? ⟨Q2,0,none⟩=some (.int .i64 u))∧(W.cell? ⟨b,off+q*3,none⟩=some (.int .i64 u9))) (first | exact VW.out _ (Kept.drew _) | exact VW.out _ (Kept.refl _)) (fail)
         go_wp2;go_roundw
         case rel=>exact⟨k+1,by omega,by go_num,(show je (jR l (k+1)) (l.drop (k+1))=je none l by rw[←HT.out,HD.out,HP.out,if_neg (by omega),Ui.out]),K2W.out.trans (by first | exact Kept.refl _ | exact Kept.drew _ | exact Kept.drewN _ _)⟩
         case measure=>simp[intOf];omega
   · have HE:=lH (show je (jR l k) (l.drop k)=0 by rw[List.drop_of_length_le (by rw[Vg.out];omega)];rfl);have hkk:¬(k:Int)<(len:Int):=by omega
     go_wp2;go_ret;exact⟨jd (HS.out.trans HE.out).symm,K0.out.trans HK.out⟩
theorem qW {n:Lad} {v:Value} {c:Int} {w:World} (h:Jc w v n) (hc:jK n=c):Calls Tryz.prog 15 #[v] w (Say (.int .i64 c) w):=by
 subst hc;obtain⟨v1,v2,rfl,h⟩:=h;exact Y5 n v1 v2 w h
theorem J5 {n:Int} (h:(Lit.int .u32 n).wf=true):0≤n∧n<4294967296:=by
 simp only[Lit.wf,IntKind.min,IntKind.max,decide_eq_true_eq] at h;simp[IntKind.signed,IntKind.bits] at h;omega
theorem Xv {n:Lad} {g:Int}:atL n [(n.what,g)]=jJ n.rungs g:=by
 unfold atL;rw[Vec.jC,if_pos (Y6 _)]
theorem X5 {n:Lad} {t:Vec.V} (h:jK n=0) (hg:Vec.Gd n.unit):(jV n t).2.2=5∨((jV n t).2.2=0∧n.lo≤(jV n t).1∧(jV n t).1≤n.hi):=by
 obtain⟨g1,g2,g3,g4⟩:=JL h;have hl:=jbp g3;have hr:=ZI g4;rw[jal h]
 cases hat:atL n t with
 | none=>exact .inr ⟨rfl,Int.le_refl _,hl.2.1⟩
 | some r =>
  have hm:=Jt hat;have hp:=(qe (hr.2.1 r hm)).2.2.1;unfold X8;dsimp only;rcases part_code hg (Y0 h) hp with e | e
  · rw[if_neg (by rw[e];decide)];refine .inr ⟨rfl,?_,?_⟩
    · show n.lo≤zY r.2.1 n.lo n.hi;unfold zY;omega
    · show zY r.2.1 n.lo n.hi≤n.hi;unfold zY;omega
  · rw[if_pos (by rw[e];decide)];exact .inl e
theorem LadderHolds_walk (v:Value) (n:Lad) (a b:Int) (w:World) (hE:Vec.jX w) (h:Jc w v n) (ha:(Lit.int .u32 a).wf=true) (hb:(Lit.int .u32 b).wf=true):Calls Tryz.prog 5 #[v,.int .u32 a,.int .u32 b] w fun e w'=>e=.returned (.bool true)∧Kept w w':=by
 have hab:=J5 ha;have hbb:=J5 hb;clear ha hb;obtain⟨v1,v2,rfl,hat⟩:=h;obtain⟨a1,c1,rfl,-⟩:=id hat.unit;obtain⟨a2,c2,rfl,-⟩:=id hat.rungs;obtain⟨l1,hl1⟩:=eX (n.unit.length)
 obtain⟨l2,hl2⟩:=eX (n.rungs.length)
 have Rg:=lH hl1;have UD:=lH hl2;rw[hl1,hl2] at hat;unfold JO;rw[hl1,hl2];clear hl1 hl2;obtain⟨W0,hW0⟩:=eX (w.alloc (.cells #[.string n.what,.slice a1 l1 c1,.slice a2 l2 c2,.int .i64 n.lo,.int .i64 n.hi] 26))
 have hk0:Kept w W0:=by rw[←hW0];exact ja _ _
 have HL:=lH (jl w (.string n.what) [.slice a1 l1 c1,.slice a2 l2 c2,.int .i64 n.lo,.int .i64 n.hi] 26 W0 (by rw[hW0];exact Kept.refl _));obtain⟨lb,hlb⟩:=eX (w.heap.size)
 rw[hlb] at HL;obtain⟨HK,Va,HE⟩:=lH3 hk0 (hat.kept hk0) (hE.kept hk0);clear hk0 hat hE;go_enter Tryz.func5,Tryz.ntmps5;go_wp2_with fail
 try rw[hW0]
 try rw[hlb]
 clear hW0 hlb;refine(Xb _ HE.out).mono ?_;rintro e w1 ⟨rfl,kk⟩;obtain⟨HL,Va,HK⟩:=lH3 (HL.out.kept kk) (Va.out.kept kk) (HK.out.trans kk);try clear y0 y1 y2 y3 y4
 obtain⟨y0,y1,y2,y3,y4⟩:=HL.out.at5;clear kk;obtain⟨f1,hf1⟩:=eX (J0 n)
 have Ul:=lH hf1;have U9:=lH (q7 n a1 a2 l1 c1 l2 c2 w1 Va.out);rw[hf1] at U9;clear hf1;go_wp2_with fail
 refine U9.out.mono ?_;rintro e w2 ⟨rfl,kk⟩;obtain⟨HL,Va,HK⟩:=lH3 (HL.out.kept kk) (Va.out.kept kk) (HK.out.trans kk);try clear y0 y1 y2 y3 y4
 obtain⟨y0,y1,y2,y3,y4⟩:=HL.out.at5;clear kk;clear U9
 cases f1 with
 | false =>
  go_wp2;go_ret;exact⟨rfl,HK.out⟩
 | true =>
  obtain⟨q1,q2,q3⟩:=qt Ul.out;have TB:=lH (jar n a1 a2 l1 c1 l2 c2 w2 Va.out (by unfold Vec.j8 at q2;simp at q2;omega) (by omega));clear q1 q2 q3;go_wp2_with fail
  refine TB.out.mono ?_;rintro e w3 ⟨v9,rfl,hv9,kk⟩;have T8:=lH hv9.toR;clear hv9;obtain⟨HL,Va,HK⟩:=lH3 (HL.out.kept kk) (Va.out.kept kk) (HK.out.trans kk);try clear y0 y1 y2 y3 y4
  obtain⟨y0,y1,y2,y3,y4⟩:=HL.out.at5;clear kk;clear TB;obtain⟨e1,he1⟩:=eX (jK n)
  have VK:=lH he1;have VC:=lH (qW T8.out he1);clear he1;go_wp2_with fail
  refine VC.out.mono ?_;rintro e w4 ⟨rfl,kk⟩;obtain⟨HL,Va,HK⟩:=lH3 (HL.out.kept kk) (Va.out.kept kk) (HK.out.trans kk);try clear y0 y1 y2 y3 y4
  obtain⟨y0,y1,y2,y3,y4⟩:=HL.out.at5;clear kk;clear VC;by_cases z1:e1=0
  case neg =>
   have z1':(e1 != 0)=true:=by simpa using z1
   clear z1;go_wp2;go_ret;exact⟨rfl,HK.out⟩
  subst z1;have Ts:=lH (show Vec.Gd n.unit from Vec.XT (JL VK.out).2.1 (by obtain⟨_,_,-,-,-,q⟩:=Va.out.unit;exact q.2.2.1));have VS:=lH (ZI (JL VK.out).2.2.2);obtain⟨A,hA⟩:∃q:Nat,a=(q:Int):=⟨a.toNat,by omega⟩
  obtain⟨B,hB⟩:∃q:Nat,b=(q:Int):=⟨b.toNat,by omega⟩
  subst hA;subst hB;obtain⟨m1,hm1⟩:∃z:Int,1+min (A:Int) (B:Int)=z:=⟨_,rfl⟩
  obtain⟨m2,hm2⟩:∃z:Int,1+max (A:Int) (B:Int)=z:=⟨_,rfl⟩
  obtain⟨HM,T9,TC⟩:=lH3 (show 1≤m1∧m1≤m2∧m2≤4294967296 by omega) hm1 hm2;clear hm1 hm2;have Vn:=lH Va.out.size;go_upto_region 5 with fail
  go_upto_region 6 with fail
  try rw[T9.out]
  obtain⟨w5,hw5⟩:=eX (w4.alloc (.cells #[.string n.what,.int .i64 m1] 63))
  have kk:Kept w4 w5:=by rw[←hw5];exact ja _ _
  have V6:=lH (show Vec.Reads w5 _ [(n.what,m1)] by rw[←hw5];exact zV w4 n.what m1 63 Vn.out (by have:=HM.out;omega));obtain⟨x1,hgx1⟩:=eX (w4.heap.size)
  rw[hgx1] at V6;try rw[hgx1]
  try rw[hw5]
  clear hw5 hgx1;obtain⟨HL,Va,HK⟩:=lH3 (HL.out.kept kk) (Va.out.kept kk) (HK.out.trans kk);try clear y0 y1 y2 y3 y4
  obtain⟨y0,y1,y2,y3,y4⟩:=HL.out.at5;clear kk;go_upto_region 7 with fail
  try rw[TC.out]
  obtain⟨w6,hw6⟩:=eX (w5.alloc (.cells #[.string n.what,.int .i64 m2] 63))
  have kk:Kept w5 w6:=by rw[←hw6];exact ja _ _
  have VD:=lH (show Vec.Reads w6 _ [(n.what,m2)] by rw[←hw6];exact zV w5 n.what m2 63 Vn.out (by have:=HM.out;omega));obtain⟨x2,hgx2⟩:=eX (w5.heap.size)
  rw[hgx2] at VD;try rw[hgx2]
  try rw[hw6]
  clear hw6 hgx2;obtain⟨HL,Va,HK,V6⟩:=lH4 (HL.out.kept kk) (Va.out.kept kk) (HK.out.trans kk) (V6.out.kept kk);try clear y0 y1 y2 y3 y4
  obtain⟨y0,y1,y2,y3,y4⟩:=HL.out.at5;clear kk;obtain⟨⟨cnt,uv,cd⟩,hwt⟩:∃z,jV n [(n.what,m1)]=z:=⟨_,rfl⟩
  have Ua:=lH (X5 (t:=[(n.what,m1)]) VK.out Ts.out);rw[hwt] at Ua;dsimp only at Ua;have Uq:=lH (Yt n a1 a2 l1 c1 l2 c2 _ _ w6 Va.out V6.out);rw[hwt] at Uq;unfold qa at Uq;dsimp only at Uq;clear hwt;go_wp2_with fail
  refine Uq.out.mono ?_;rintro e w7 ⟨uvv,rfl,-,kk⟩;obtain⟨HL,Va,HK,V6,VD⟩:=lH5 (HL.out.kept kk) (Va.out.kept kk) (HK.out.trans kk) (V6.out.kept kk) (VD.out.kept kk);try clear y0 y1 y2 y3 y4
  obtain⟨y0,y1,y2,y3,y4⟩:=HL.out.at5;clear kk;clear Uq;by_cases hcd:cd=5
  case pos =>
   subst hcd;go_wp2;go_ret;exact⟨rfl,HK.out⟩
  obtain⟨hcd0,hlo,hhi⟩:=Ua.out.resolve_left hcd;subst hcd0;clear hcd Ua;obtain⟨o1,ho1⟩:=eX (atL n [(n.what,m1)])
  have UC:=lH (show jJ n.rungs m1=o1 by rw[←ho1,Xv]);have Vx:=lH (ZC n a1 a2 l1 c1 l2 c2 _ _ w7 Va.out V6.out);rw[ho1] at Vx;obtain⟨⟨u1,xx1,yy1⟩,hr1⟩:∃z,o1.getD (0,0,0)=z:=⟨_,rfl⟩
  have Vf:=lH hr1;obtain⟨k1,hk1⟩:=eX (o1.isSome)
  have Ta:=lH hk1;have V7:=lH (show k1=decide (0<l2) by rw[←hk1,←UC.out,JA,UD.out]);unfold AtR at Vx;rw[hr1,hk1] at Vx;unfold Yl at Vx;dsimp only at Vx;clear ho1 hr1 hk1;go_wp2_with fail
  refine Vx.out.mono ?_;rintro e w8 ⟨rfl,kk⟩;obtain⟨HL,Va,HK,VD⟩:=lH4 (HL.out.kept kk) (Va.out.kept kk) (HK.out.trans kk) (VD.out.kept kk);try clear y0 y1 y2 y3 y4
  obtain⟨y0,y1,y2,y3,y4⟩:=HL.out.at5;clear kk;clear Vx;obtain⟨w9,hw9⟩:=eX (w8.alloc (.cells #[.int .i64 u1,.int .i64 xx1,.int .i64 yy1] 46))
  have kk:Kept w8 w9:=by rw[←hw9];exact ja _ _
  have P1:=lH (jl w8 (.int .i64 u1) [.int .i64 xx1,.int .i64 yy1] 46 w9 (by rw[hw9];exact Kept.refl _));obtain⟨p1,hp1⟩:=eX (w8.heap.size)
  rw[hp1] at P1;go_upto_region 11 with fail
  try rw[hw9]
  try rw[hp1]
  clear hw9 hp1;obtain⟨HL,Va,HK,VD⟩:=lH4 (HL.out.kept kk) (Va.out.kept kk) (HK.out.trans kk) (VD.out.kept kk);try clear y0 y1 y2 y3 y4
  obtain⟨y0,y1,y2,y3,y4⟩:=HL.out.at5;clear kk;obtain⟨o2,ho2⟩:=eX (atL n [(n.what,m2)])
  have Tb:=lH (show jJ n.rungs m2=o2 by rw[←ho2,Xv]);have Vv:=lH (ZC n a1 a2 l1 c1 l2 c2 _ _ w9 Va.out VD.out);rw[ho2] at Vv;obtain⟨⟨u2,xx2,yy2⟩,hr2⟩:∃z,o2.getD (0,0,0)=z:=⟨_,rfl⟩
  have Vh:=lH hr2;obtain⟨k2,hk2⟩:=eX (o2.isSome)
  have Tc:=lH hk2;have Td:=lH (show k2=decide (0<l2) by rw[←hk2,←Tb.out,JA,UD.out]);unfold AtR at Vv;rw[hr2,hk2] at Vv;unfold Yl at Vv;dsimp only at Vv;clear ho2 hr2 hk2;go_wp2_with fail
  refine Vv.out.mono ?_;rintro e w10 ⟨rfl,kk⟩;obtain⟨HL,Va,HK,VD,P1⟩:=lH5 (HL.out.kept kk) (Va.out.kept kk) (HK.out.trans kk) (VD.out.kept kk) (P1.out.kept kk);try clear y0 y1 y2 y3 y4
  obtain⟨y0,y1,y2,y3,y4⟩:=HL.out.at5;clear kk;clear Vv;obtain⟨w11,hw11⟩:=eX (w10.alloc (.cells #[.int .i64 u2,.int .i64 xx2,.int .i64 yy2] 46))
  have kk:Kept w10 w11:=by rw[←hw11];exact ja _ _
  have P2:=lH (jl w10 (.int .i64 u2) [.int .i64 xx2,.int .i64 yy2] 46 w11 (by rw[hw11];exact Kept.refl _));obtain⟨p2,hp2⟩:=eX (w10.heap.size)
  rw[hp2] at P2;go_upto_region 12 with fail
  try rw[hw11]
  try rw[hp2]
  clear hw11 hp2;obtain⟨HL,Va,HK,VD,P1⟩:=lH5 (HL.out.kept kk) (Va.out.kept kk) (HK.out.trans kk) (VD.out.kept kk) (P1.out.kept kk);try clear y0 y1 y2 y3 y4
  obtain⟨y0,y1,y2,y3,y4⟩:=HL.out.at5;clear kk;obtain rfl:k1=k2:=V7.out.trans Td.out.symm;have g1:¬cnt<n.lo:=by omega
  have g2:¬n.hi<cnt:=by omega
  cases k1 with
  | false =>
   have hl0:l2=0:=by have:=V7.out;simp at this;omega
   subst hl0;go_wp2;go_quiet (fail)
   go_wp2;go_ret;exact⟨rfl,HK.out.trans (by first | exact Kept.refl _ | exact Kept.drew _ | exact Kept.drewN _ _)⟩
  | true =>
   have hl0:0<l2:=by have:=V7.out;simpa using this
   have hl0i:(0:Int)<(l2:Int):=by omega
   have hd0:decide (0<l2)=true:=by simpa using hl0
   obtain⟨a9,c9,e9,hcl,hcm,hrow⟩:=Va.out.rungs;obtain⟨rfl,rfl⟩:a2=a9∧c2=c9:=by cases e9;exact⟨rfl,rfl⟩
   rw[UD.out] at hrow;obtain⟨rb,off,rfl⟩:∃b off,a2=some ⟨b,off,none⟩:=by rcases hrow.form with h | h;omega;exact h
   obtain⟨m,hm⟩:∃m,l2=m+1:=⟨l2-1,by omega⟩
   obtain⟨u9,x9,y9,hn9,-,-,-,q0,-,-⟩:=hrow.rung (show m<l2 by omega);have Ra:=lH (show n.rungs.getLast?=some (u9,x9,y9) by rw[List.getLast?_eq_getElem?,UD.out,hm,Nat.add_sub_cancel];exact hn9);have Uk:=lH q0;have s1:o1=some (u1,xx1,yy1):=by
    obtain⟨z,hz⟩:=Option.isSome_iff_exists.1 Ta.out;rw[hz];rw[show z=(u1,xx1,yy1) by have:=Vf.out;rw[hz] at this;exact this]
   have s2:o2=some (u2,xx2,yy2):=by
    obtain⟨z,hz⟩:=Option.isSome_iff_exists.1 Tc.out;rw[hz];rw[show z=(u2,xx2,yy2) by have:=Vh.out;rw[hz] at this;exact this]
   have hup:u1≤u2:=jah VS.out.2.2 HM.out.2.1 (UC.out.trans s1) (Tb.out.trans s2);have U8:=lH (show m2≤u2∨u2=u9 by
    rcases rungAt_high (Tb.out.trans s2) with h | h
    · exact .inl h
    · rw[Ra.out] at h;exact .inr (by cases h;rfl))
   have g8:(l2:Int)-1=(m:Int):=by omega
   have gw:IntKind.i64.wrap (m:Int)=(m:Int):=by rw[IntKind.wrap_i64];have:=hrow.2.1;unfold maxLen at this;omega
   have g9:(m:Int)<(l2:Int):=by omega
   clear hcl hcm hrow e9 hn9 s1 s2 hm;have VW:=lH (show ∀W,Kept w11 W→W.cell? ⟨p1,0,none⟩=some (.int .i64 u1)∧W.cell? ⟨p2,0,none⟩=some (.int .i64 u2)∧W.cell? ⟨lb,2,none⟩=some (.slice (some ⟨rb,off,none⟩) l2 c2)∧W.cell? ⟨rb,off+m*3,none⟩=some (.int .i64 u9) from fun W k=>⟨(P1.out.kept k).at3.1,(P2.out.kept k).at3.1,(HL.out.kept k).at5.2.2.1,cell_later k Uk.out⟩);have gm1:IntKind.i64.wrap (max (A:Int) (B:Int))=max (A:Int) (B:Int):=by rw[IntKind.wrap_i64];omega
   have gm2:IntKind.i64.wrap (1+max (A:Int) (B:Int))=1+max (A:Int) (B:Int):=by rw[IntKind.wrap_i64];omega
   by_cases hq:1+max (A:Int) (B:Int)≤u2
   · have hq2:decide (1+max (A:Int) (B:Int)≤u2)=true:=decide_eq_true hq;go_upto_region 14 with fail
     refine wp_region_held_drew (S:=fun W=>W.cell? ⟨p1,0,none⟩=some (.int .i64 u1)∧W.cell? ⟨p2,0,none⟩=some (.int .i64 u2)∧W.cell? ⟨lb,2,none⟩=some (.slice (some ⟨rb,off,none⟩) l2 c2)∧W.cell? ⟨rb,off+m*3,none⟩=some (.int .i64 u9)) (by kernel_rfl) (VW.out _ (Kept.drew _)) (fun hHeld=>?_);refine tR 0 rfl (by kernel_rfl) (fun _ _ _=>id) (Or.inl ⟨by rfl,by rintro W ⟨s0,s1,s2,s3⟩;go_simp<;>with_reducible rfl⟩) ‹_› ?_;try simp only[nA,nB,nC,nD,nE]
     refine tR 1 rfl (by kernel_rfl) (fun _ _ _=>id) (Or.inl ⟨by rfl,by rintro W ⟨s0,s1,s2,s3⟩;go_simp<;>with_reducible rfl⟩) ‹_› ?_;try simp only[nA,nB,nC,nD,nE]
     refine tR 2 rfl (by kernel_rfl) (fun _ _ _=>id) (Or.inl ⟨by rfl,by rintro W ⟨s0,s1,s2,s3⟩;go_simp<;>with_reducible rfl⟩) ‹_› ?_;try simp only[nA,nB,nC,nD,nE]
     refine tR 3 rfl (by kernel_rfl) (fun _ _ _=>id) (Or.inl ⟨by rfl,by rintro W ⟨s0,s1,s2,s3⟩;go_simp<;>with_reducible rfl⟩) ‹_› ?_;try simp only[nA,nB,nC,nD,nE]
     refine tR 4 rfl (by kernel_rfl) (fun _ _ _=>id) (Or.inl ⟨by rfl,by rintro W ⟨s0,s1,s2,s3⟩;go_simp<;>with_reducible rfl⟩) ‹_› ?_;try simp only[nA,nB,nC,nD,nE]
     refine tR 5 rfl (by kernel_rfl) (fun _ _ _=>id) (Or.inl ⟨by rfl,by rintro W ⟨s0,s1,s2,s3⟩;go_simp<;>with_reducible rfl⟩) ‹_› ?_;try simp only[nA,nB,nC,nD,nE]
     refine tR 6 rfl (by kernel_rfl) (fun _ _ _=>id) (Or.inl ⟨by rfl,by rintro W ⟨s0,s1,s2,s3⟩;go_simp<;>with_reducible rfl⟩) ‹_› ?_;try simp only[nA,nB,nC,nD,nE]
     refine tR 7 rfl (by kernel_rfl) (fun _ _ _=>id) (Or.inl ⟨by rfl,by rintro W ⟨s0,s1,s2,s3⟩;go_simp<;>with_reducible rfl⟩) ‹_› ?_;try simp only[nA,nB,nC,nD,nE]
     refine tR 8 rfl (by kernel_rfl) (fun _ _ _=>id) (Or.inl ⟨by rfl,by rintro W ⟨s0,s1,s2,s3⟩;go_simp<;>with_reducible rfl⟩) ‹_› ?_;try simp only[nA,nB,nC,nD,nE]
     refine tR 9 rfl (by kernel_rfl) (fun _ _ _=>id) (Or.inl ⟨by rfl,by rintro W ⟨s0,s1,s2,s3⟩;go_simp<;>with_reducible rfl⟩) ‹_› ?_;try simp only[nA,nB,nC,nD,nE]
     refine tR 10 rfl (by kernel_rfl) (fun _ _ _=>id) (Or.inl ⟨by rfl,by rintro W ⟨s0,s1,s2,s3⟩;go_simp<;>with_reducible rfl⟩) ‹_› ?_;try simp only[nA,nB,nC,nD,nE]
     refine tR 11 rfl (by kernel_rfl) (fun _ _ _=>id) (Or.inl ⟨by rfl,by rintro W ⟨s0,s1,s2,s3⟩;go_simp<;>with_reducible rfl⟩) ‹_› ?_;try simp only[nA,nB,nC,nD,nE]
     refine tR 12 rfl (by kernel_rfl) (fun _ _ _=>id) (Or.inl ⟨by rfl,by rintro W ⟨s0,s1,s2,s3⟩;go_simp<;>with_reducible rfl⟩) ‹_› ?_;try simp only[nA,nB,nC,nD,nE]
     refine tR 13 rfl (by kernel_rfl) (fun _ _ _=>id) (Or.inl ⟨by rfl,by rintro W ⟨s0,s1,s2,s3⟩;go_simp<;>with_reducible rfl⟩) ‹_› ?_;try simp only[nA,nB,nC,nD,nE]
     refine wpAnyH_take  (i:=14) (v:=.int .i64 (max (A:Int) (B:Int))) (by rw[List.getElem?_toArray];exact rfl) (by kernel_rfl) (by kernel_rfl) (by kernel_rfl) (by exact fun _ _ _ h=>h) (Or.inl ⟨by rfl,(by rintro W ⟨s0,s1,s2,s3⟩;go_simp;first | done | rw[gm1])⟩) (by assumption) ?_;try simp only[nA,nB,nC,nD,nE]
     refine wpAnyH_take  (i:=15) (v:=.int .i64 (1+max (A:Int) (B:Int))) (by rw[List.getElem?_toArray];exact rfl) (by kernel_rfl) (by kernel_rfl) (by kernel_rfl) (by exact fun _ _ _ h=>h) (Or.inl ⟨by rfl,(by rintro W ⟨s0,s1,s2,s3⟩;go_simp;first | done | rw[gm2])⟩) (by assumption) ?_;try simp only[nA,nB,nC,nD,nE]
     refine tR 16 rfl (by kernel_rfl) (fun _ _ _=>id) (Or.inl ⟨by rfl,by rintro W ⟨s0,s1,s2,s3⟩;go_simp<;>with_reducible rfl⟩) ‹_› ?_;try simp only[nA,nB,nC,nD,nE]
     try rw[hq2]
     refine tR 17 rfl (by kernel_rfl) (fun _ _ _=>id) (Or.inl ⟨by rfl,by rintro W ⟨s0,s1,s2,s3⟩;go_simp<;>with_reducible rfl⟩) ‹_› ?_;try simp only[nA,nB,nC,nD,nE]
     refine tR 18 (v:=undef) rfl (by kernel_rfl) (fun _ _ _=>id) (Or.inr ⟨by rfl,rfl⟩) ‹_› ?_;try simp only[nA,nB,nC,nD,nE]
     refine tR 19 (v:=undef) rfl (by kernel_rfl) (fun _ _ _=>id) (Or.inr ⟨by rfl,rfl⟩) ‹_› ?_;try simp only[nA,nB,nC,nD,nE]
     refine tR 20 (v:=undef) rfl (by kernel_rfl) (fun _ _ _=>id) (Or.inr ⟨by rfl,rfl⟩) ‹_› ?_;try simp only[nA,nB,nC,nD,nE]
     refine tR 21 (v:=undef) rfl (by kernel_rfl) (fun _ _ _=>id) (Or.inr ⟨by rfl,rfl⟩) ‹_› ?_;try simp only[nA,nB,nC,nD,nE]
     refine tR 22 (v:=undef) rfl (by kernel_rfl) (fun _ _ _=>id) (Or.inr ⟨by rfl,rfl⟩) ‹_› ?_;try simp only[nA,nB,nC,nD,nE]
     refine tR 23 (v:=undef) rfl (by kernel_rfl) (fun _ _ _=>id) (Or.inr ⟨by rfl,rfl⟩) ‹_› ?_;try simp only[nA,nB,nC,nD,nE]
     refine tR 24 (v:=undef) rfl (by kernel_rfl) (fun _ _ _=>id) (Or.inr ⟨by rfl,rfl⟩) ‹_› ?_;try simp only[nA,nB,nC,nD,nE]
     refine tR 25 (v:=undef) rfl (by kernel_rfl) (fun _ _ _=>id) (Or.inr ⟨by rfl,rfl⟩) ‹_› ?_;try simp only[nA,nB,nC,nD,nE]
     refine tR 26 (v:=undef) rfl (by kernel_rfl) (fun _ _ _=>id) (Or.inr ⟨by rfl,rfl⟩) ‹_› ?_;try simp only[nA,nB,nC,nD,nE]
     refine tR 27 (v:=undef) rfl (by kernel_rfl) (fun _ _ _=>id) (Or.inr ⟨by rfl,rfl⟩) ‹_› ?_;try simp only[nA,nB,nC,nD,nE]
     refine tR 28 (v:=undef) rfl (by kernel_rfl) (fun _ _ _=>id) (Or.inr ⟨by rfl,rfl⟩) ‹_› ?_;try simp only[nA,nB,nC,nD,nE]
     refine tR 29 (v:=undef) rfl (by kernel_rfl) (fun _ _ _=>id) (Or.inr ⟨by rfl,rfl⟩) ‹_› ?_;try simp only[nA,nB,nC,nD,nE]
     refine tR 30 rfl (by kernel_rfl) (fun _ _ _=>id) (Or.inl ⟨by rfl,by rintro W ⟨s0,s1,s2,s3⟩;go_simp<;>with_reducible rfl⟩) ‹_› ?_;try simp only[nA,nB,nC,nD,nE]
     refine tR 31 rfl (by kernel_rfl) (fun _ _ _=>id) (Or.inl ⟨by rfl,by rintro W ⟨s0,s1,s2,s3⟩;go_simp<;>with_reducible rfl⟩) ‹_› ?_;try simp only[nA,nB,nC,nD,nE]
     refine tR 32 rfl (by kernel_rfl) (fun _ _ _=>id) (Or.inl ⟨by rfl,by rintro W ⟨s0,s1,s2,s3⟩;go_simp<;>with_reducible rfl⟩) ‹_› ?_;try simp only[nA,nB,nC,nD,nE]
     refine tR 33 rfl (by kernel_rfl) (fun _ _ _=>id) (Or.inl ⟨by rfl,by rintro W ⟨s0,s1,s2,s3⟩;go_simp<;>with_reducible rfl⟩) ‹_› ?_;try simp only[nA,nB,nC,nD,nE]
     refine wpAnyH_done (by kernel_rfl) ?_ _;go_wp2;go_ret;exact⟨rfl,HK.out.trans (by first | exact Kept.refl _ | exact Kept.drew _ | exact Kept.drewN _ _)⟩
   · obtain rfl:u2=u9:=by have:=TC.out;rcases U8.out with h | h;omega;exact h
     have hq2:decide (1+max (A:Int) (B:Int)≤u2)=false:=decide_eq_false hq;go_upto_region 14 with fail
     refine wp_region_held_drew (S:=fun W=>W.cell? ⟨p1,0,none⟩=some (.int .i64 u1)∧W.cell? ⟨p2,0,none⟩=some (.int .i64 u2)∧W.cell? ⟨lb,2,none⟩=some (.slice (some ⟨rb,off,none⟩) l2 c2)∧W.cell? ⟨rb,off+m*3,none⟩=some (.int .i64 u2)) (by kernel_rfl) (VW.out _ (Kept.drew _)) (fun hHeld=>?_);refine tR 0 rfl (by kernel_rfl) (fun _ _ _=>id) (Or.inl ⟨by rfl,by rintro W ⟨s0,s1,s2,s3⟩;go_simp<;>with_reducible rfl⟩) ‹_› ?_;try simp only[nA,nB,nC,nD,nE]
     refine tR 1 rfl (by kernel_rfl) (fun _ _ _=>id) (Or.inl ⟨by rfl,by rintro W ⟨s0,s1,s2,s3⟩;go_simp<;>with_reducible rfl⟩) ‹_› ?_;try simp only[nA,nB,nC,nD,nE]
     refine tR 2 rfl (by kernel_rfl) (fun _ _ _=>id) (Or.inl ⟨by rfl,by rintro W ⟨s0,s1,s2,s3⟩;go_simp<;>with_reducible rfl⟩) ‹_› ?_;try simp only[nA,nB,nC,nD,nE]
     refine tR 3 rfl (by kernel_rfl) (fun _ _ _=>id) (Or.inl ⟨by rfl,by rintro W ⟨s0,s1,s2,s3⟩;go_simp<;>with_reducible rfl⟩) ‹_› ?_;try simp only[nA,nB,nC,nD,nE]
     refine tR 4 rfl (by kernel_rfl) (fun _ _ _=>id) (Or.inl ⟨by rfl,by rintro W ⟨s0,s1,s2,s3⟩;go_simp<;>with_reducible rfl⟩) ‹_› ?_;try simp only[nA,nB,nC,nD,nE]
     refine tR 5 rfl (by kernel_rfl) (fun _ _ _=>id) (Or.inl ⟨by rfl,by rintro W ⟨s0,s1,s2,s3⟩;go_simp<;>with_reducible rfl⟩) ‹_› ?_;try simp only[nA,nB,nC,nD,nE]
     refine tR 6 rfl (by kernel_rfl) (fun _ _ _=>id) (Or.inl ⟨by rfl,by rintro W ⟨s0,s1,s2,s3⟩;go_simp<;>with_reducible rfl⟩) ‹_› ?_;try simp only[nA,nB,nC,nD,nE]
     refine tR 7 rfl (by kernel_rfl) (fun _ _ _=>id) (Or.inl ⟨by rfl,by rintro W ⟨s0,s1,s2,s3⟩;go_simp<;>with_reducible rfl⟩) ‹_› ?_;try simp only[nA,nB,nC,nD,nE]
     refine tR 8 rfl (by kernel_rfl) (fun _ _ _=>id) (Or.inl ⟨by rfl,by rintro W ⟨s0,s1,s2,s3⟩;go_simp<;>with_reducible rfl⟩) ‹_› ?_;try simp only[nA,nB,nC,nD,nE]
     refine tR 9 rfl (by kernel_rfl) (fun _ _ _=>id) (Or.inl ⟨by rfl,by rintro W ⟨s0,s1,s2,s3⟩;go_simp<;>with_reducible rfl⟩) ‹_› ?_;try simp only[nA,nB,nC,nD,nE]
     refine tR 10 rfl (by kernel_rfl) (fun _ _ _=>id) (Or.inl ⟨by rfl,by rintro W ⟨s0,s1,s2,s3⟩;go_simp<;>with_reducible rfl⟩) ‹_› ?_;try simp only[nA,nB,nC,nD,nE]
     refine tR 11 rfl (by kernel_rfl) (fun _ _ _=>id) (Or.inl ⟨by rfl,by rintro W ⟨s0,s1,s2,s3⟩;go_simp<;>with_reducible rfl⟩) ‹_› ?_;try simp only[nA,nB,nC,nD,nE]
     refine tR 12 rfl (by kernel_rfl) (fun _ _ _=>id) (Or.inl ⟨by rfl,by rintro W ⟨s0,s1,s2,s3⟩;go_simp<;>with_reducible rfl⟩) ‹_› ?_;try simp only[nA,nB,nC,nD,nE]
     refine tR 13 rfl (by kernel_rfl) (fun _ _ _=>id) (Or.inl ⟨by rfl,by rintro W ⟨s0,s1,s2,s3⟩;go_simp<;>with_reducible rfl⟩) ‹_› ?_;try simp only[nA,nB,nC,nD,nE]
     refine wpAnyH_take  (i:=14) (v:=.int .i64 (max (A:Int) (B:Int))) (by rw[List.getElem?_toArray];exact rfl) (by kernel_rfl) (by kernel_rfl) (by kernel_rfl) (by exact fun _ _ _ h=>h) (Or.inl ⟨by rfl,(by rintro W ⟨s0,s1,s2,s3⟩;go_simp;first | done | rw[gm1])⟩) (by assumption) ?_;try simp only[nA,nB,nC,nD,nE]
     refine wpAnyH_take  (i:=15) (v:=.int .i64 (1+max (A:Int) (B:Int))) (by rw[List.getElem?_toArray];exact rfl) (by kernel_rfl) (by kernel_rfl) (by kernel_rfl) (by exact fun _ _ _ h=>h) (Or.inl ⟨by rfl,(by rintro W ⟨s0,s1,s2,s3⟩;go_simp;first | done | rw[gm2])⟩) (by assumption) ?_;try simp only[nA,nB,nC,nD,nE]
     refine tR 16 rfl (by kernel_rfl) (fun _ _ _=>id) (Or.inl ⟨by rfl,by rintro W ⟨s0,s1,s2,s3⟩;go_simp<;>with_reducible rfl⟩) ‹_› ?_;try simp only[nA,nB,nC,nD,nE]
     try rw[hq2]
     refine tR 17 rfl (by kernel_rfl) (fun _ _ _=>id) (Or.inl ⟨by rfl,by rintro W ⟨s0,s1,s2,s3⟩;go_simp<;>with_reducible rfl⟩) ‹_› ?_;try simp only[nA,nB,nC,nD,nE]
     refine tR 18 rfl (by kernel_rfl) (fun _ _ _=>id) (Or.inl ⟨by rfl,by rintro W ⟨s0,s1,s2,s3⟩;go_simp<;>with_reducible rfl⟩) ‹_› ?_;try simp only[nA,nB,nC,nD,nE]
     refine tR 19 rfl (by kernel_rfl) (fun _ _ _=>id) (Or.inl ⟨by rfl,by rintro W ⟨s0,s1,s2,s3⟩;go_simp<;>with_reducible rfl⟩) ‹_› ?_;try simp only[nA,nB,nC,nD,nE]
     refine tR 20 rfl (by kernel_rfl) (fun _ _ _=>id) (Or.inl ⟨by rfl,by rintro W ⟨s0,s1,s2,s3⟩;go_simp<;>with_reducible rfl⟩) ‹_› ?_;try simp only[nA,nB,nC,nD,nE]
     refine tR 21 rfl (by kernel_rfl) (fun _ _ _=>id) (Or.inl ⟨by rfl,by rintro W ⟨s0,s1,s2,s3⟩;go_simp<;>with_reducible rfl⟩) ‹_› ?_;try simp only[nA,nB,nC,nD,nE]
     refine tR 22 rfl (by kernel_rfl) (fun _ _ _=>id) (Or.inl ⟨by rfl,by rintro W ⟨s0,s1,s2,s3⟩;go_simp<;>with_reducible rfl⟩) ‹_› ?_;try simp only[nA,nB,nC,nD,nE]
     refine tR 23 rfl (by kernel_rfl) (fun _ _ _=>id) (Or.inl ⟨by rfl,by rintro W ⟨s0,s1,s2,s3⟩;go_simp<;>with_reducible rfl⟩) ‹_› ?_;try simp only[nA,nB,nC,nD,nE]
     refine tR 24 rfl (by kernel_rfl) (fun _ _ _=>id) (Or.inl ⟨by rfl,by rintro W ⟨s0,s1,s2,s3⟩;go_simp<;>with_reducible rfl⟩) ‹_› ?_;try simp only[nA,nB,nC,nD,nE]
     refine tR 25 rfl (by kernel_rfl) (fun _ _ _=>id) (Or.inl ⟨by rfl,by rintro W ⟨s0,s1,s2,s3⟩;go_simp<;>with_reducible rfl⟩) ‹_› ?_;try simp only[nA,nB,nC,nD,nE]
     refine tR 26 rfl (by kernel_rfl) (fun _ _ _=>id) (Or.inl ⟨by rfl,by rintro W ⟨s0,s1,s2,s3⟩;go_simp<;>with_reducible rfl⟩) ‹_› ?_;try simp only[nA,nB,nC,nD,nE]
     refine tR 27 rfl (by kernel_rfl) (fun _ _ _=>id) (Or.inl ⟨by rfl,by rintro W ⟨s0,s1,s2,s3⟩;go_simp<;>with_reducible rfl⟩) ‹_› ?_;try simp only[nA,nB,nC,nD,nE]
     refine tR 28 rfl (by kernel_rfl) (fun _ _ _=>id) (Or.inl ⟨by rfl,by rintro W ⟨s0,s1,s2,s3⟩;go_simp<;>with_reducible rfl⟩) ‹_› ?_;try simp only[nA,nB,nC,nD,nE]
     refine tR 29 rfl (by kernel_rfl) (fun _ _ _=>id) (Or.inl ⟨by rfl,by rintro W ⟨s0,s1,s2,s3⟩;go_simp<;>with_reducible rfl⟩) ‹_› ?_;try simp only[nA,nB,nC,nD,nE]
     refine tR 30 rfl (by kernel_rfl) (fun _ _ _=>id) (Or.inl ⟨by rfl,by rintro W ⟨s0,s1,s2,s3⟩;go_simp<;>with_reducible rfl⟩) ‹_› ?_;try simp only[nA,nB,nC,nD,nE]
     refine tR 31 rfl (by kernel_rfl) (fun _ _ _=>id) (Or.inl ⟨by rfl,by rintro W ⟨s0,s1,s2,s3⟩;go_simp<;>with_reducible rfl⟩) ‹_› ?_;try simp only[nA,nB,nC,nD,nE]
     refine tR 32 rfl (by kernel_rfl) (fun _ _ _=>id) (Or.inl ⟨by rfl,by rintro W ⟨s0,s1,s2,s3⟩;go_simp<;>with_reducible rfl⟩) ‹_› ?_;try simp only[nA,nB,nC,nD,nE]
     refine tR 33 rfl (by kernel_rfl) (fun _ _ _=>id) (Or.inl ⟨by rfl,by rintro W ⟨s0,s1,s2,s3⟩;go_simp<;>with_reducible rfl⟩) ‹_› ?_;try simp only[nA,nB,nC,nD,nE]
     refine wpAnyH_done (by kernel_rfl) ?_ _;go_wp2;go_ret;exact⟨rfl,HK.out.trans (by first | exact Kept.refl _ | exact Kept.drew _ | exact Kept.drewN _ _)⟩
end Go.Proofs.YtnfojaidmnccoaaGreatDoor
