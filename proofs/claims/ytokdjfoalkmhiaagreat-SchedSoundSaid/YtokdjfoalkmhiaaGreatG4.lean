/- C. -/
import Derived.Test.YtokdjfoalkmhiaaGreatG0
import Derived.Test.YtokdjfoalkmhiaaGreatG1
import Derived.Test.YtokdjfoalkmhiaaGreatG2
import Derived.Test.YtokdjfoalkmhiaaGreatG3
set_option linter.unusedVariables false
set_option maxRecDepth 100000
set_option maxHeartbeats 25600000
namespace Go.Proofs.YtokdjfoalkmhiaaGreat
open Go.RowKit
theorem jn5 {v:Value} {l:TL} {w:World} (h:Reads jP w v l) (hf:l.length≤1000000) :
 Calls Tryz.prog 190 #[v] w (fun e w'=>∃x,e=.returned x∧Own jP 288 w' w.heap.size x l∧Kept w w'):=by
 obtain⟨a,cap,rfl,h1,h2,h3⟩:=h;exact jkU a _ cap l w h3 hf
theorem joL {v:Value} {l:NL} {w:World} (h:Reads ju w v l) (hf:l.length≤1000000) :
 Calls Tryz.prog 191 #[v] w (fun e w'=>∃x,e=.returned x∧Own ju 289 w' w.heap.size x l∧Kept w w'):=by
 obtain⟨a,cap,rfl,h1,h2,h3⟩:=h;exact jmQ a _ cap l w h3 hf
abbrev PX:=Pd×SX×SX×SX×SX
abbrev joH (z:PX):Value:=jx z.1 (slV z.2.1) (slV z.2.2.1) (slV z.2.2.2.1) (slV z.2.2.2.2)
def At4 (w:World) (z:PX):Prop:=ji w (slV z.2.1) (slV z.2.2.1) (slV z.2.2.2.1) (slV z.2.2.2.2) z.1
def Btw (lo hi:Nat) (a:Option Addr):Prop:=∀b off sp,a=some ⟨b,off,sp⟩→lo≤b∧b<hi
theorem Btw.up {lo hi lo' hi':Nat} {a:Option Addr} (h:Btw lo hi a) (h1:lo'≤lo) (h2:hi≤hi'):Btw lo' hi' a:=fun b o s e=>⟨Nat.le_trans h1 (h b o s e).1,Nat.lt_of_lt_of_le (h b o s e).2 h2⟩
theorem Btw.behind {lo hi:Nat} {a:Option Addr} (h:Btw lo hi a):j4 lo a:=fun b o s e=>(h b o s e).1
def YK (lo hi:Nat) (z:PX):Prop:=Btw lo hi z.2.1.1∧Btw lo hi z.2.2.1.1∧Btw lo hi z.2.2.2.1.1∧Btw lo hi z.2.2.2.2.1
theorem YK.up {lo hi lo' hi':Nat} {z:PX} (h:YK lo hi z) (h1:lo'≤lo) (h2:hi≤hi'):YK lo' hi' z:=⟨h.1.up h1 h2,h.2.1.up h1 h2,h.2.2.1.up h1 h2,h.2.2.2.up h1 h2⟩
theorem ji.at4 {w:World} {n:Pd} {x1 x2 x3 x4:SX} (h:ji w (slV x1) (slV x2) (slV x3) (slV x4) n):At4 w (n,x1,x2,x3,x4):=h
theorem jm5 (n:Pd) (v1 v2 v3 v4:Value) (w:World) (h:ji w v1 v2 v3 v4 n) (hl:JO n) :
 Calls Tryz.prog 130 #[jx n v1 v2 v3 v4] w fun e w'=>∃z:PX,e=.returned (joH z)∧z.1=n∧At4 w' z∧YK w.heap.size w'.heap.size z∧Kept w w':=by
 obtain⟨HH,E1,E2,E3,E4⟩:=lH5 h (fun W (k:Kept w W)=>(jnZ (h.need.kept k) hl.need).mono fun _ _=>jeq) (fun W (k:Kept w W)=>(jny (h.labels.kept k) hl.labels).mono fun _ _=>YE) (fun W (k:Kept w W)=>(jn5 (h.sel.kept k) hl.sel).mono fun _ _=>YE) (fun W (k:Kept w W)=>(joL (h.tols.kept k) hl.tols).mono fun _ _=>YE);obtain⟨⟨x0,x1,x2,l1,l2,l3,l4,x3,x4,x5,x6⟩,hnn⟩:∃m,m=n:=⟨n,rfl⟩
 subst hnn;dsimp only at E1 E2 E3 E4;obtain⟨Y,hY⟩:=eX (w.alloc (.cells #[.string x0,.string x1,.int .i64 x2,v1,v2,v3,v4,.string x3,.int .i64 x4,.string x5,.bool x6] 44))
 obtain⟨W0,hW0⟩:=eX ((w.alloc (.cells #[.string x0,.string x1,.int .i64 x2,v1,v2,v3,v4,.string x3,.int .i64 x4,.string x5,.bool x6] 44)).alloc (.cells #[.string ⟨#[]⟩,.string ⟨#[]⟩,.int .i64 0,.slice none 0 0,.slice none 0 0,.slice none 0 0,.slice none 0 0,.string ⟨#[]⟩,.int .i64 0,.string ⟨#[]⟩,.bool false] 118))
 have hk0:Kept w W0:=by rw[←hW0];exact jn _ _ _
 have hzs:W0.heap.size=w.heap.size+2:=by rw[←hW0];simp
 have HB:=lH (show ∀W,Kept W0 W→W.cell? ⟨w.heap.size,0,none⟩=some (.string x0)∧W.cell? ⟨w.heap.size,1,none⟩=some (.string x1)∧W.cell? ⟨w.heap.size,2,none⟩=some (.int .i64 x2)∧W.cell? ⟨w.heap.size,3,none⟩=some (v1)∧W.cell? ⟨w.heap.size,4,none⟩=some (v2)∧W.cell? ⟨w.heap.size,5,none⟩=some (v3)∧W.cell? ⟨w.heap.size,6,none⟩=some (v4)∧W.cell? ⟨w.heap.size,7,none⟩=some (.string x3)∧W.cell? ⟨w.heap.size,8,none⟩=some (.int .i64 x4)∧W.cell? ⟨w.heap.size,9,none⟩=some (.string x5)∧W.cell? ⟨w.heap.size,10,none⟩=some (.bool x6) from fun W k=>by
  have:=jc w (.string x0) [.string x1,.int .i64 x2,v1,v2,v3,v4,.string x3,.int .i64 x4,.string x5,.bool x6] 44 W ((by rw[←hW0];exact ja _ _:Kept (w.alloc (.cells #[.string x0,.string x1,.int .i64 x2,v1,v2,v3,v4,.string x3,.int .i64 x4,.string x5,.bool x6] 44)) W0).trans k);exact⟨this.at_ 0 _ rfl,this.at_ 1 _ rfl,this.at_ 2 _ rfl,this.at_ 3 _ rfl,this.at_ 4 _ rfl,this.at_ 5 _ rfl,this.at_ 6 _ rfl,this.at_ 7 _ rfl,this.at_ 8 _ rfl,this.at_ 9 _ rfl,this.at_ 10 _ rfl⟩)
 have HQ:=lH (show ∀W,Kept W0 W→jf (w.heap.size+1) [.string ⟨#[]⟩,.string ⟨#[]⟩,.int .i64 0,.slice none 0 0,.slice none 0 0,.slice none 0 0,.slice none 0 0,.string ⟨#[]⟩,.int .i64 0,.string ⟨#[]⟩,.bool false] W from fun W k=>by
  have:=jc (w.alloc (.cells #[.string x0,.string x1,.int .i64 x2,v1,v2,v3,v4,.string x3,.int .i64 x4,.string x5,.bool x6] 44)) (.string ⟨#[]⟩) [.string ⟨#[]⟩,.int .i64 0,.slice none 0 0,.slice none 0 0,.slice none 0 0,.slice none 0 0,.string ⟨#[]⟩,.int .i64 0,.string ⟨#[]⟩,.bool false] 118 W (by rw[hW0];exact k);rw[World.size_alloc] at this;exact this)
 have HZ:=lH hzs;have Va:=lH hk0;obtain⟨b0,b1,b2,b3,b4,b5,b6,b7,b8,b9,b10⟩:=HB.out _ (Kept.refl _);clear h hl hk0 hzs hY Y;unfold jx;dsimp only;go_enter Tryz.func130,Tryz.ntmps130;go_wp2;try rw[hW0]
 clear hW0;refine wp_region_held_drew (S:=fun W=>W.cell? ⟨w.heap.size,0,none⟩=some (.string x0)∧W.cell? ⟨w.heap.size,1,none⟩=some (.string x1)∧W.cell? ⟨w.heap.size,2,none⟩=some (.int .i64 x2)∧W.cell? ⟨w.heap.size,3,none⟩=some (v1)∧W.cell? ⟨w.heap.size,4,none⟩=some (v2)∧W.cell? ⟨w.heap.size,5,none⟩=some (v3)∧W.cell? ⟨w.heap.size,6,none⟩=some (v4)∧W.cell? ⟨w.heap.size,7,none⟩=some (.string x3)∧W.cell? ⟨w.heap.size,8,none⟩=some (.int .i64 x4)∧W.cell? ⟨w.heap.size,9,none⟩=some (.string x5)∧W.cell? ⟨w.heap.size,10,none⟩=some (.bool x6)) (by kernel_rfl) (HB.out _ (Kept.drew _)) (fun hHeld=>?_);refine tkI 0 ?_;refine tkI 1 ?_;refine tkI 2 ?_;refine tkI 3 ?_;refine tkI 4 ?_;refine tkI 5 ?_;refine tkI 6 ?_;refine tkI 7 ?_;refine tkI 9 ?_;refine tkI 10 ?_;refine tkI 12 ?_;refine tkI 13 ?_;refine tkI 15 ?_;refine tkI 16 ?_;refine tkI 18 ?_;refine tkI 19 ?_;refine tkI 20 ?_;refine tkI 21 ?_;refine tkI 22 ?_;refine tkI 23 ?_;refine tkI 24 ?_;refine tkI 25 ?_;try simp only[nP]
 refine rd1 8 fun K9 Ky=>?_;go_simp;refine(E1.out _ (Va.out.trans (Kept.drew _))).mono ?_;rintro e1 w1 ⟨b1,n1,d1,rfl,r1,g1,k1⟩;obtain⟨K1,G1,R1⟩:=lH3 (Kept.trans (Kept.drew _) k1) (show Btw (w.heap.size+2) w1.heap.size b1 from fun b o s e=>⟨Nat.le_trans (by rw[←HZ.out];exact Below.size (Kept.drew _)) (g1 b o s e).1,(g1 b o s e).2⟩) r1;clear k1 r1 g1;refine Ky.out _ _ (HB.out _ K1.out) (fun _=>?_);clear Ky K9;try simp only[nP]
 refine rd1 11 fun K9 Ky=>?_;go_simp;refine(E2.out _ (Va.out.trans K1.out)).mono ?_;rintro e2 w2 ⟨b2,n2,d2,rfl,r2,g2,k2⟩;obtain⟨K2,G2,R2,R1,G1⟩:=lH5 (Kept.trans K1.out k2) (show Btw (w.heap.size+2) w2.heap.size b2 from fun b o s e=>⟨Nat.le_trans (by rw[←HZ.out];exact Below.size K1.out) (g2 b o s e).1,(g2 b o s e).2⟩) r2 (R1.out.kept k2) (G1.out.up (Nat.le_refl _) k2.size);clear k2 r2 g2;refine Ky.out _ _ (HB.out _ K2.out) (fun _=>?_);clear Ky K9;try simp only[nP]
 refine rd1 14 fun K9 Ky=>?_;go_simp;refine(E3.out _ (Va.out.trans K2.out)).mono ?_;rintro e3 w3 ⟨b3,n3,d3,rfl,r3,g3,k3⟩;obtain⟨K3,G3,R3,R1,G1,R2,G2⟩:=lH7 (Kept.trans K2.out k3) (show Btw (w.heap.size+2) w3.heap.size b3 from fun b o s e=>⟨Nat.le_trans (by rw[←HZ.out];exact Below.size K2.out) (g3 b o s e).1,(g3 b o s e).2⟩) r3 (R1.out.kept k3) (G1.out.up (Nat.le_refl _) k3.size) (R2.out.kept k3) (G2.out.up (Nat.le_refl _) k3.size);clear k3 r3 g3;refine Ky.out _ _ (HB.out _ K3.out) (fun _=>?_);clear Ky K9;try simp only[nP]
 refine rd1 17 fun K9 Ky=>?_;go_simp;refine(E4.out _ (Va.out.trans K3.out)).mono ?_;rintro e4 w4 ⟨b4,n4,d4,rfl,r4,g4,k4⟩;obtain⟨K4,G4,R4,R1,G1,R2,G2,R3⟩:=lH8 (Kept.trans K3.out k4) (show Btw (w.heap.size+2) w4.heap.size b4 from fun b o s e=>⟨Nat.le_trans (by rw[←HZ.out];exact Below.size K3.out) (g4 b o s e).1,(g4 b o s e).2⟩) r4 (R1.out.kept k4) (G1.out.up (Nat.le_refl _) k4.size) (R2.out.kept k4) (G2.out.up (Nat.le_refl _) k4.size) (R3.out.kept k4);have G3:=lH (G3.out.up (Nat.le_refl _) k4.size);clear k4 r4 g4;refine Ky.out _ _ (HB.out _ K4.out) (fun _=>?_);clear Ky K9;try simp only[nP]
 refine tkI 26 ?_;try simp only[nP]
 have VP:=lH (HQ.out _ K4.out);obtain⟨z0,z1,z2,z3,z4,z5,z6,z7,z8,z9,z10⟩:=VP.out.at11;have f0:=VP.out.free 0;have f1:=VP.out.free 1;have f2:=VP.out.free 2;have f3:=VP.out.free 3;have f4:=VP.out.free 4;have f5:=VP.out.free 5;have f6:=VP.out.free 6;have f7:=VP.out.free 7;have f8:=VP.out.free 8;have f9:=VP.out.free 9;have f10:=VP.out.free 10;refine rd1 27 fun K9 Ky=>?_;go_simp;refine Ky.out _ _ (jg7 (HB.out _ K4.out) (by omega)) (fun hHeldS=>?_);clear Ky K9 hHeldS;try simp only[nP]
 refine wpAnyH_done (by kernel_rfl) ?_ _;have P:=lH (j5 (vs:=[.string x0,.string x1,.int .i64 x2,.slice b1 n1 d1,.slice b2 n2 d2,.slice b3 n3 d3,.slice b4 n4 d4,.string x3,.int .i64 x4,.string x5,.bool x6]) VP.out rfl);clear z0 f0 z1 f1 z2 f2 z3 f3 z4 f4 z5 f5 z6 f6 z7 f7 z8 f8 z9 f9 z10 f10;go_wp2;(try simp only[Exit.inBlock,Exit.then])
 obtain⟨WE,hWE⟩:=eX (w4.setCells (w.heap.size+1) 0 [.string x0,.string x1,.int .i64 x2,.slice b1 n1 d1,.slice b2 n2 d2,.slice b3 n3 d3,.slice b4 n4 d4,.string x3,.int .i64 x4,.string x5,.bool x6])
 have hWE2:(((((((((((w4.setCell ⟨w.heap.size+1,0,none⟩ (.string x0)).setCell ⟨w.heap.size+1,1,none⟩ (.string x1)).setCell ⟨w.heap.size+1,2,none⟩ (.int .i64 x2)).setCell ⟨w.heap.size+1,3,none⟩ (.slice b1 n1 d1)).setCell ⟨w.heap.size+1,4,none⟩ (.slice b2 n2 d2)).setCell ⟨w.heap.size+1,5,none⟩ (.slice b3 n3 d3)).setCell ⟨w.heap.size+1,6,none⟩ (.slice b4 n4 d4)).setCell ⟨w.heap.size+1,7,none⟩ (.string x3)).setCell ⟨w.heap.size+1,8,none⟩ (.int .i64 x4)).setCell ⟨w.heap.size+1,9,none⟩ (.string x5)).setCell ⟨w.heap.size+1,10,none⟩ (.bool x6))=WE:=hWE;rw[hWE] at P;rw[hWE2];clear hWE hWE2;obtain⟨PC,hsz,hbl,hkp⟩:=P.out;refine bodyPost_ret (by simp[results,Tryz.results130,go_sem,PC.at_ 0 _ rfl,PC.at_ 1 _ rfl,PC.at_ 2 _ rfl,PC.at_ 3 _ rfl,PC.at_ 4 _ rfl,PC.at_ 5 _ rfl,PC.at_ 6 _ rfl,PC.at_ 7 _ rfl,PC.at_ 8 _ rfl,PC.at_ 9 _ rfl,PC.at_ 10 _ rfl];try rfl) rfl ?_;refine⟨(⟨x0,x1,x2,l1,l2,l3,l4,x3,x4,x5,x6⟩,(b1,n1,d1),(b2,n2,d2),(b3,n3,d3),(b4,n4,d4)),rfl,rfl,ji.at4 (ji.far (B:=w.heap.size+2) (n:=⟨x0,x1,x2,l1,l2,l3,l4,x3,x4,x5,x6⟩) ⟨HH.out.name,HH.out.owner,HH.out.key,HH.out.node,HH.out.prio,HH.out.most,R1.out,R2.out,R3.out,R4.out⟩ hsz (fun b hb=>hbl b (by omega)) G1.out.behind G2.out.behind G3.out.behind G4.out.behind),?_,hkp _ _ (by omega) (Va.out.trans K4.out)⟩;rw[hsz];exact⟨G1.out.up (by omega) (Nat.le_refl _),G2.out.up (by omega) (Nat.le_refl _),G3.out.up (by omega) (Nat.le_refl _),G4.out.up (by omega) (Nat.le_refl _)⟩
theorem Reads.grown {α:Type} {L:Lay α} {w w':World} {row:Option Nat} {a:Option Addr} {m c:Nat} {l:List α} (h:Reads L w (.slice a m c) l) (hg:w.grownBy w' row) (hb:∀b off sp,a=some ⟨b,off,sp⟩→some b≠row):Reads L w' (.slice a m c) l:=by
 obtain⟨a',cap',e,h1,h2,h3,h4,h5,h6⟩:=h
 cases e
 refine⟨a,c,rfl,h1,h2,h3,h4,h5,h6.imp id ?_⟩;rintro ⟨b,off,rfl,hlt,hc⟩;exact⟨b,off,rfl,Nat.lt_of_lt_of_le hlt hg.size,fun i x j u hi hj=>(World.cell?_of_block (a:=⟨b,off+i*L.m+j,none⟩) (hg.block b hlt (hb b off none rfl))).trans (hc i x j u hi hj)⟩
theorem Vec.Reads.grown {w w':World} {row:Option Nat} {a:Option Addr} {m c:Nat} {l:Vec.V} (h:Vec.Reads w (.slice a m c) l) (hg:w.grownBy w' row) (hb:∀b off sp,a=some ⟨b,off,sp⟩→some b≠row):Vec.Reads w' (.slice a m c) l:=by
 obtain⟨a',cap',e,h1,h2,h3,h4,h5,h6⟩:=h
 cases e
 refine⟨a,c,rfl,h1,h2,h3,h4,h5,h6.imp id ?_⟩;rintro ⟨b,off,rfl,hlt,hc⟩;exact⟨b,off,rfl,Nat.lt_of_lt_of_le hlt hg.size,fun i hi=>⟨(World.cell?_of_block (a:=⟨b,off+i*2,none⟩) (hg.block b hlt (hb b off none rfl))).trans (hc i hi).1,(World.cell?_of_block (a:=⟨b,off+i*2+1,none⟩) (hg.block b hlt (hb b off none rfl))).trans (hc i hi).2⟩⟩
theorem jea (x:NX) (u:Value) (h:u ∈ [Value.string x.1.name,slV x.2.1,slV x.2.2.1,slV x.2.2.2,.bool x.1.cordon]):u.oneCell'=true:=by
 simp only[List.mem_cons,List.not_mem_nil,or_false] at h;rcases h with rfl | rfl | rfl | rfl | rfl<;>rfl
def zH:Lay NX:={ m:=5,cs:=fun x=>[.string x.1.name,slV x.2.1,slV x.2.2.1,slV x.2.2.2,.bool x.1.cordon],fine:=fun _=>True,len:=fun _=>rfl,one:=jea,pos:=by decide }
def jle (w:World) (v:Value) (l:List NX):Prop:=∀z ∈ l,At3 w z∧XG 0 w.heap.size z∧(∀b off sp,z.2.1.1=some ⟨b,off,sp⟩→v.ownBlock≠some b)∧(∀b off sp,z.2.2.1.1=some ⟨b,off,sp⟩→v.ownBlock≠some b)∧(∀b off sp,z.2.2.2.1=some ⟨b,off,sp⟩→v.ownBlock≠some b)
theorem jaR {lo lo' hi hi':Nat} {z:NX} (h:XG lo hi z) (h1:lo'≤lo) (h2:hi≤hi'):XG lo' hi' z :=
 ⟨fun b o s e=>⟨Nat.le_trans h1 (h.1 b o s e).1,Nat.lt_of_lt_of_le (h.1 b o s e).2 h2⟩,fun b o s e=>⟨Nat.le_trans h1 (h.2.1 b o s e).1,Nat.lt_of_lt_of_le (h.2.1 b o s e).2 h2⟩,fun b o s e=>⟨Nat.le_trans h1 (h.2.2 b o s e).1,Nat.lt_of_lt_of_le (h.2.2 b o s e).2 h2⟩⟩
theorem jlS {wr w1 w2:World} {o:Obj} {v:Value} {l:List NX} {z0:NX} {gg n cap:Nat} (hv:jle wr v l) (k:Kept wr w1) (hz:At3 w1 z0) (hw:XG wr.heap.size w1.heap.size z0) (hown:∀g,v.ownBlock=some g→g<wr.heap.size)
 (hgrow:(w1.alloc o).grownBy w2 v.ownBlock) (hat:v.ownBlock=some gg∨gg=w1.heap.size+1):jle w2 (.slice (some ⟨gg,0,none⟩) n cap) (l++[z0]):=by
 have hs:=hgrow.size;rw[World.size_alloc] at hs;have hk:=k.size
 have key:∀z,At3 w1 z→XG 0 w1.heap.size z→(∀b off sp,z.2.1.1=some ⟨b,off,sp⟩→v.ownBlock≠some b)→(∀b off sp,z.2.2.1.1=some ⟨b,off,sp⟩→v.ownBlock≠some b)→(∀b off sp,z.2.2.2.1=some ⟨b,off,sp⟩→v.ownBlock≠some b) →
  At3 w2 z∧XG 0 w2.heap.size z∧(∀b off sp,z.2.1.1=some ⟨b,off,sp⟩→some gg≠some b)∧(∀b off sp,z.2.2.1.1=some ⟨b,off,sp⟩→some gg≠some b)∧(∀b off sp,z.2.2.2.1=some ⟨b,off,sp⟩→some gg≠some b):=by
  intro z h3 hwz f1 f2 f3;have ne:∀b,b<w1.heap.size→v.ownBlock≠some b→some gg≠some b:=by
   intro b hb hne e;rcases hat with hat | hat
   · exact hne (hat.trans e)
   · have:gg=b:=Option.some.inj e;omega
  have h3':=h3.kept (ja w1 o)
  exact⟨⟨h3'.size,h3'.cap.grown hgrow (fun b off sp e=>Ne.symm (f1 b off sp e)),h3'.labels.grown hgrow (fun b off sp e=>Ne.symm (f2 b off sp e)),h3'.taints.grown hgrow (fun b off sp e=>Ne.symm (f3 b off sp e))⟩,
   jaR hwz (Nat.le_refl _) (by omega),fun b off sp e=>ne b (hwz.1 b off sp e).2 (f1 b off sp e),fun b off sp e=>ne b (hwz.2.1 b off sp e).2 (f2 b off sp e),fun b off sp e=>ne b (hwz.2.2 b off sp e).2 (f3 b off sp e)⟩
 intro z hzm;rcases List.mem_append.1 hzm with hzm | hzm
 · obtain⟨h0,h1,h2,h3,h4⟩:=hv z hzm;exact key z (h0.kept k) (jaR h1 (Nat.le_refl _) hk) h2 h3 h4
 · obtain rfl:z=z0:=by simpa using hzm
   exact key z hz (jaR hw (Nat.zero_le _) (Nat.le_refl _)) (fun b off sp e f=>by have:=(hw.1 b off sp e).1;have:=hown b f;omega) (fun b off sp e f=>by have:=(hw.2.1 b off sp e).1;have:=hown b f;omega) (fun b off sp e f=>by have:=(hw.2.2 b off sp e).1;have:=hown b f;omega)
theorem jec {w:World} {T:TypeId} {B:Nat} {v:Value} {lx:List NX} (ho:Own zH T w B v lx) (hf:∀z ∈ lx,At3 w z):Jz w v (lx.map fun z=>z.1):=by
 obtain⟨a,cap,rfl,h1,h2,h3⟩:=ho.at_;obtain⟨g0,g1,g2,g3⟩:=h3;refine⟨a,cap,by rw[List.length_map],by rw[List.length_map];exact h1,h2,rfl,by rw[List.length_map];exact g1,?_⟩;rw[List.length_map];rcases g3 with g3 | ⟨b,off,rfl,hb,hc⟩
 · exact .inl g3
 · refine .inr ⟨b,off,rfl,hb,fun i n hi=>?_⟩;rw[List.getElem?_map] at hi;obtain⟨z,hz,rfl⟩:=Option.map_eq_some_iff.1 hi;exact⟨_,_,_,_,_,_,_,_,_,hc i z 0 _ hz rfl,hc i z 1 _ hz rfl,hc i z 2 _ hz rfl,hc i z 3 _ hz rfl,hc i z 4 _ hz rfl,hf z (List.mem_of_getElem? hz)⟩
theorem jol:(Tryz.prog.info? 121).map (fun i=>(i.zero,i.size,i.bytes))=some (some (.agg #[.string ByteArray.empty,.slice none 0 0,.slice none 0 0,.slice none 0 0,.bool false]),5,96):=by kernel_rfl
theorem jkS (a:Option Addr) (len cap:Nat) (l:List Nod) (w:World) (hr:jo w a len l) (hlow:∀n ∈ l,zP n) (hlen:len≤1000) :
 Calls Tryz.prog 69 #[.slice a len cap] w fun e w'=>∃v,e=.returned v∧Jz w' v l∧Kept w w':=by
 have hl:=hr.1;have Vo:=lH hlow;obtain⟨i0,hi,hz0,hz1,hz2'⟩:=info_parts jol;rcases hr.form with h0 | ⟨b,off,rfl⟩
 · subst h0;have hl0:l=[]:=List.eq_nil_of_length_eq_zero hl;subst hl0;clear hr hl hi hz0 hz1 hz2' hlow;go_enter Tryz.func69,Tryz.ntmps69;go_wp2;refine wp_loop_rounds 1 ?_;rw[rounds_succ];go_wp2;go_ret;exact⟨_,rfl,⟨none,0,rfl,Nat.le_refl _,by decide,rfl,by decide,.inl rfl⟩,Kept.refl _⟩
 · have HR:=lH hr;have HL:=lH hl;clear hr hl hlow;go_enter Tryz.func69,Tryz.ntmps69;go_wp2;go_loopw [3,4] (fun v i wr=>∃k:Nat,k≤len∧i=.int .i64 k∧∃lx:List NX,(lx.map fun z=>z.1)=l.take k∧Own zH 121 wr w.heap.size v lx∧jle wr v lx∧Below w.heap.size w wr) (fun _ i _=>len-(intOf i).toNat)
   case atStart=>exact⟨0,Nat.zero_le _,rfl,[],rfl,Own.nil _ _ _,(fun z h=>by cases h),Below.refl _ _⟩
   case round =>
    obtain⟨k,hk,rfl,lx,hlx,ho,hv,hB⟩:=hrel;obtain⟨HX,HO,HV,HB,HT⟩:=lH5 hlx ho hv hB (show lx.length=k by have:=congrArg List.length hlx;rw[List.length_map,List.length_take,HL.out] at this;omega);have Vj:=lH (show wr.ownsRow w.heap.size 121 5 u3 k (je zH lx) by have:=HO.out.1;rw[HT.out] at this;exact this);have hbase:w.heap.size≤wr.heap.size:=hB.size;by_cases hlt:k<len
    · obtain⟨n,a1,m1,c1,a2,m2,c2,a3,m3,c3,hn,hd,hb,p0,p1,p2,p3,p4,hat⟩:=(HR.out.kept hB).at_ hlt;have HN:=lH hn;have Vy:=lH (jmR n (.slice a1 m1 c1) (.slice a2 m2 c2) (.slice a3 m3 c3) wr hat (Vo.out n (List.mem_of_getElem? hn)));have hk1:(k:Int)<(len:Int):=by omega
      clear hlx ho hv hB hn hd hat;go_wp2_with fail
      refine Vy.out.mono ?_;rintro e w1 ⟨z,rfl,hz,h3,hwi,kk⟩;obtain⟨HZ,H3,HW,KK⟩:=lH4 hz h3 hwi kk;have hs1:wr.heap.size≤w1.heap.size:=kk.size;have VF:=lH (show w1.ownsRow w.heap.size 121 5 u3 k (je zH lx) by have:=(HO.out.kept kk).1;rw[HT.out] at this;exact this);clear hz h3 hwi kk;go_wp2_with (at_builtin;refine wpList_append_lies _ rfl _ _ _ rfl w.heap.size 121 i0 _ 5 96 Tryz.underlying66 hi hz0 hz1 hz2' rfl (by decide) u3 k (je zH lx) rfl (VF.out.alloc _) ⟨w1.heap.size,0,none⟩ 1 1 (zH.cs z) rfl rfl (World.news_of_block (cs:=#[.string z.1.name,slV z.2.1,slV z.2.2.1,slV z.2.2.2,.bool z.1.cordon]) (t:=121) (fr:=(0,0)) (heap_alloc_new w1 _)) (jea z) (by decide) (by unfold maxLen;omega) (by omega) (by simp;omega) (w1.heap.size+1) (by simp) ?_;intro gg cap1 w2 hown1 hgrow hat hlt1)
      have Uv:=lH (jlS (n:=k+1) (cap:=cap1) HV.out KK.out H3.out HW.out (fun g h=>(Vj.out.lt g h).2) hgrow hat);have VQ:=lH ((HB.out.trans ((Below.mono KK.out hbase).trans (Below.mono (ja w1 _) (by omega)))).grown hgrow (by simp;omega) (fun j hj=>(Vj.out.lt j hj).1));go_wp2;go_roundw
      case rel=>exact⟨k+1,by omega,by go_num,lx++[z],by rw[List.map_append,HX.out,zI HN.out,←HZ.out];rfl,Own.snoc hown1 (by rw[HT.out]) HO.out.2 trivial,Uv.out,VQ.out⟩
      case measure=>simp[intOf];omega
    · have HK:=lH (show l.take k=l by rw[List.take_of_length_le (by rw[HL.out];omega)]);have Ub:=lH (show Jz wr u3 l by have:=jec HO.out (fun z hz=>(HV.out z hz).1);rw[HX.out,HK.out] at this;exact this);clear hlx ho hv hB;go_wp2;go_ret;exact⟨_,rfl,Ub.out,HB.out⟩
theorem jnD {v:Value} {l:List Nod} {w:World} (h:Jz w v l) (hlow:∀n ∈ l,zP n) (hlen:l.length≤1000) :
 Calls Tryz.prog 69 #[v] w fun e w'=>∃v,e=.returned v∧Jz w' v l∧Kept w w':=by
 obtain⟨a,cap,rfl,_,_,hr⟩:=h;exact jkS a _ cap l w hr hlow hlen
theorem qL (x:PX) (u:Value) (h:u ∈ [Value.string x.1.name,.string x.1.owner,.int .i64 x.1.prio,slV x.2.1,slV x.2.2.1,slV x.2.2.2.1,slV x.2.2.2.2,.string x.1.key,.int .i64 x.1.most,.string x.1.node,.bool x.1.hold]):u.oneCell'=true:=by
 simp only[List.mem_cons,List.not_mem_nil,or_false] at h;rcases h with rfl | rfl | rfl | rfl | rfl | rfl | rfl | rfl | rfl | rfl | rfl<;>rfl
def PodLay0:Lay PX:={ m:=11,cs:=fun x=>[.string x.1.name,.string x.1.owner,.int .i64 x.1.prio,slV x.2.1,slV x.2.2.1,slV x.2.2.2.1,slV x.2.2.2.2,.string x.1.key,.int .i64 x.1.most,.string x.1.node,.bool x.1.hold],fine:=fun _=>True,len:=fun _=>rfl,one:=qL,pos:=by decide }
def Zy (v:Value) (a:Option Addr):Prop:=∀b off sp,a=some ⟨b,off,sp⟩→v.ownBlock≠some b
def jlz (w:World) (v:Value) (l:List PX):Prop:=∀z ∈ l,At4 w z∧YK 0 w.heap.size z∧Zy v z.2.1.1∧Zy v z.2.2.1.1∧Zy v z.2.2.2.1.1∧Zy v z.2.2.2.2.1
theorem jj8 {wr w1 w2:World} {o:Obj} {v:Value} {l:List PX} {z0:PX} {gg n cap:Nat} (hv:jlz wr v l) (k:Kept wr w1) (hz:At4 w1 z0) (hw:YK wr.heap.size w1.heap.size z0) (hown:∀g,v.ownBlock=some g→g<wr.heap.size)
 (hgrow:(w1.alloc o).grownBy w2 v.ownBlock) (hat:v.ownBlock=some gg∨gg=w1.heap.size+1):jlz w2 (.slice (some ⟨gg,0,none⟩) n cap) (l++[z0]):=by
 have hs:=hgrow.size;rw[World.size_alloc] at hs;have hk:=k.size;have key:∀z,At4 w1 z→YK 0 w1.heap.size z→Zy v z.2.1.1→Zy v z.2.2.1.1→Zy v z.2.2.2.1.1→Zy v z.2.2.2.2.1 →
  At4 w2 z∧YK 0 w2.heap.size z∧Zy (.slice (some ⟨gg,0,none⟩) n cap) z.2.1.1∧Zy (.slice (some ⟨gg,0,none⟩) n cap) z.2.2.1.1∧Zy (.slice (some ⟨gg,0,none⟩) n cap) z.2.2.2.1.1∧Zy (.slice (some ⟨gg,0,none⟩) n cap) z.2.2.2.2.1:=by
  intro z h3 hwz f1 f2 f3 f4;have ne:∀b,b<w1.heap.size→v.ownBlock≠some b→(Value.slice (some ⟨gg,0,none⟩) n cap).ownBlock≠some b:=by
   intro b hb hne e;have e:some gg=some b:=e;rcases hat with hat | hat
   · exact hne (hat.trans e)
   · have:gg=b:=Option.some.inj e;omega
  have h3':=ji.kept h3 (ja w1 o)
  exact⟨⟨h3'.name,h3'.owner,h3'.key,h3'.node,h3'.prio,h3'.most,h3'.need.grown hgrow (fun b off sp e=>Ne.symm (f1 b off sp e)),h3'.labels.grown hgrow (fun b off sp e=>Ne.symm (f2 b off sp e)),h3'.sel.grown hgrow (fun b off sp e=>Ne.symm (f3 b off sp e)),h3'.tols.grown hgrow (fun b off sp e=>Ne.symm (f4 b off sp e))⟩,
   hwz.up (Nat.le_refl _) (by omega),fun b off sp e=>ne b (hwz.1 b off sp e).2 (f1 b off sp e),fun b off sp e=>ne b (hwz.2.1 b off sp e).2 (f2 b off sp e),fun b off sp e=>ne b (hwz.2.2.1 b off sp e).2 (f3 b off sp e),fun b off sp e=>ne b (hwz.2.2.2 b off sp e).2 (f4 b off sp e)⟩
 intro z hzm;rcases List.mem_append.1 hzm with hzm | hzm
 · obtain⟨h0,h1,h2,h3,h4,h5⟩:=hv z hzm;exact key z (ji.kept h0 k) (h1.up (Nat.le_refl _) hk) h2 h3 h4 h5
 · obtain rfl:z=z0:=by simpa using hzm
   exact key z hz (hw.up (Nat.zero_le _) (Nat.le_refl _)) (fun b off sp e f=>by have:=(hw.1 b off sp e).1;have:=hown b f;omega) (fun b off sp e f=>by have:=(hw.2.1 b off sp e).1;have:=hown b f;omega) (fun b off sp e f=>by have:=(hw.2.2.1 b off sp e).1;have:=hown b f;omega) (fun b off sp e f=>by have:=(hw.2.2.2 b off sp e).1;have:=hown b f;omega)
theorem qX {w:World} {T:TypeId} {B:Nat} {v:Value} {lx:List PX} (ho:Own PodLay0 T w B v lx) (hf:∀z ∈ lx,At4 w z):Jo w v (lx.map fun z=>z.1):=by
 obtain⟨a,cap,rfl,h1,h2,h3⟩:=ho.at_;obtain⟨g0,g1,g2,g3⟩:=h3;refine⟨a,cap,by rw[List.length_map],by rw[List.length_map];exact h1,h2,rfl,by rw[List.length_map];exact g1,?_⟩;rw[List.length_map];rcases g3 with g3 | ⟨b,off,rfl,hb,hc⟩
 · exact .inl g3
 · refine .inr ⟨b,off,rfl,hb,fun i n hi=>?_⟩;rw[List.getElem?_map] at hi;obtain⟨z,hz,rfl⟩:=Option.map_eq_some_iff.1 hi;exact⟨slV z.2.1,slV z.2.2.1,slV z.2.2.2.1,slV z.2.2.2.2,hc i z 0 _ hz rfl,hc i z 1 _ hz rfl,hc i z 2 _ hz rfl,hc i z 3 _ hz rfl,hc i z 4 _ hz rfl,hc i z 5 _ hz rfl,hc i z 6 _ hz rfl,hc i z 7 _ hz rfl,hc i z 8 _ hz rfl,hc i z 9 _ hz rfl,hc i z 10 _ hz rfl,hf z (List.mem_of_getElem? hz)⟩
theorem jnQ:(Tryz.prog.info? 118).map (fun i=>(i.zero,i.size,i.bytes))=some (some (.agg #[.string ByteArray.empty,.string ByteArray.empty,.int .i64 0,.slice none 0 0,.slice none 0 0,.slice none 0 0,.slice none 0 0,.string ByteArray.empty,.int .i64 0,.string ByteArray.empty,.bool false]),11,184):=by kernel_rfl
theorem jiC (a:Option Addr) (len cap:Nat) (l:List Pd) (w:World) (hr:jy w a len l) (hlow:∀n ∈ l,JO n) (hlen:len≤1000) :
 Calls Tryz.prog 70 #[.slice a len cap] w fun e w'=>∃v,e=.returned v∧Jo w' v l∧Kept w w':=by
 have hl:=hr.1;have Vo:=lH hlow;obtain⟨i0,hi,hz0,hz1,hz2'⟩:=info_parts jnQ;rcases hr.form with h0 | ⟨b,off,rfl⟩
 · subst h0;have hl0:l=[]:=List.eq_nil_of_length_eq_zero hl;subst hl0;clear hr hl hi hz0 hz1 hz2' hlow;go_enter Tryz.func70,Tryz.ntmps70;go_wp2;refine wp_loop_rounds 1 ?_;rw[rounds_succ];go_wp2;go_ret;exact⟨_,rfl,⟨none,0,rfl,Nat.le_refl _,by decide,rfl,by decide,.inl rfl⟩,Kept.refl _⟩
 · have HR:=lH hr;have HL:=lH hl;clear hr hl hlow;go_enter Tryz.func70,Tryz.ntmps70;go_wp2;go_loopw [3,4] (fun v i wr=>∃k:Nat,k≤len∧i=.int .i64 k∧∃lx:List PX,(lx.map fun z=>z.1)=l.take k∧Own PodLay0 118 wr w.heap.size v lx∧jlz wr v lx∧Below w.heap.size w wr) (fun _ i _=>len-(intOf i).toNat)
   case atStart=>exact⟨0,Nat.zero_le _,rfl,[],rfl,Own.nil _ _ _,(fun z h=>by cases h),Below.refl _ _⟩
   case round =>
    obtain⟨k,hk,rfl,lx,hlx,ho,hv,hB⟩:=hrel;obtain⟨HX,HO,HV,HB,HT⟩:=lH5 hlx ho hv hB (show lx.length=k by have:=congrArg List.length hlx;rw[List.length_map,List.length_take,HL.out] at this;omega);have Vj:=lH (show wr.ownsRow w.heap.size 118 11 u3 k (je PodLay0 lx) by have:=HO.out.1;rw[HT.out] at this;exact this);have hbase:w.heap.size≤wr.heap.size:=hB.size;by_cases hlt:k<len
    · obtain⟨n,a1,m1,c1,a2,m2,c2,a3,m3,c3,a4,m4,c4,hn,hd,hb,p0,p1,p2,p3,p4,p5,p6,p7,p8,p9,p10,hat⟩:=(HR.out.kept hB).at_ hlt;have HN:=lH hn;have Vy:=lH (jm5 n (.slice a1 m1 c1) (.slice a2 m2 c2) (.slice a3 m3 c3) (.slice a4 m4 c4) wr hat (Vo.out n (List.mem_of_getElem? hn)));have hk1:(k:Int)<(len:Int):=by omega
      clear hlx ho hv hB hn hd hat;go_wp2_with fail
      refine Vy.out.mono ?_;rintro e w1 ⟨z,rfl,hz,h3,hwi,kk⟩;obtain⟨HZ,H3,HW,KK⟩:=lH4 hz h3 hwi kk;have hs1:wr.heap.size≤w1.heap.size:=kk.size;have VF:=lH (show w1.ownsRow w.heap.size 118 11 u3 k (je PodLay0 lx) by have:=(HO.out.kept kk).1;rw[HT.out] at this;exact this);clear hz h3 hwi kk;go_wp2_with (at_builtin;refine wpList_append_lies _ rfl _ _ _ rfl w.heap.size 118 i0 _ 11 184 Tryz.underlying67 hi hz0 hz1 hz2' rfl (by decide) u3 k (je PodLay0 lx) rfl (VF.out.alloc _) ⟨w1.heap.size,0,none⟩ 1 1 (PodLay0.cs z) rfl rfl (World.news_of_block (cs:=#[.string z.1.name,.string z.1.owner,.int .i64 z.1.prio,slV z.2.1,slV z.2.2.1,slV z.2.2.2.1,slV z.2.2.2.2,.string z.1.key,.int .i64 z.1.most,.string z.1.node,.bool z.1.hold]) (t:=118) (fr:=(0,0)) (heap_alloc_new w1 _)) (qL z) (by decide) (by unfold maxLen;omega) (by omega) (by simp;omega) (w1.heap.size+1) (by simp) ?_;intro gg cap1 w2 hown1 hgrow hat hlt1)
      have Uv:=lH (jj8 (n:=k+1) (cap:=cap1) HV.out KK.out H3.out HW.out (fun g h=>(Vj.out.lt g h).2) hgrow hat);have VQ:=lH ((HB.out.trans ((Below.mono KK.out hbase).trans (Below.mono (ja w1 _) (by omega)))).grown hgrow (by simp;omega) (fun j hj=>(Vj.out.lt j hj).1));go_wp2;go_roundw
      case rel=>exact⟨k+1,by omega,by go_num,lx++[z],by rw[List.map_append,HX.out,zI HN.out,←HZ.out];rfl,Own.snoc hown1 (by rw[HT.out]) HO.out.2 trivial,Uv.out,VQ.out⟩
      case measure=>simp[intOf];omega
    · have HK:=lH (show l.take k=l by rw[List.take_of_length_le (by rw[HL.out];omega)]);have Ub:=lH (show Jo wr u3 l by have:=qX HO.out (fun z hz=>(HV.out z hz).1);rw[HX.out,HK.out] at this;exact this);clear hlx ho hv hB;go_wp2;go_ret;exact⟨_,rfl,Ub.out,HB.out⟩
theorem jm8 {v:Value} {l:List Pd} {w:World} (h:Jo w v l) (hlow:∀n ∈ l,JO n) (hlen:l.length≤1000) :
 Calls Tryz.prog 70 #[v] w fun e w'=>∃v,e=.returned v∧Jo w' v l∧Kept w w':=by
 obtain⟨a,cap,rfl,_,_,hr⟩:=h;exact jiC a _ cap l w hr hlow hlen
open Go.ChangeShapes Go.WideShapes Go.ChangeAt Go.RowKit Go.Deep
def jgt (w:World):Lay PX:={ m:=11,cs:=PodLay0.cs,fine:=At4 w,len:=fun _=>rfl,one:=PodLay0.one,pos:=by decide }
theorem jfV {H:Type} {enc:TypeId×Value→H} {w:World} {base fuel:Nat} {sp:Nat→Bool} {held:Bool} {cs:List Value} {x:DataW H×List MemPlace} (h:DataW.trod enc Tryz.prog w base sp held fuel 44 cs=some x) :
 ∃a:PX,cs=(jgt w).cs a∧(jgt w).fine a:=by
 obtain⟨n,v1,v2,v3,v4,e,hat⟩:=jg3 h;obtain⟨b1,n1,d1,b2,n2,d2,b3,n3,d3,b4,n4,d4,rfl,rfl,rfl,rfl⟩:=hat.spelt;exact⟨(n,(b1,n1,d1),(b2,n2,d2),(b3,n3,d3),(b4,n4,d4)),e,hat⟩
theorem jfJ {H:Type} {enc:TypeId×Value→H} {w:World} {base fuel:Nat} {sp:Nat→Bool} {held:Bool} {v:Value} {x:DataW H×List MemPlace} (h:DataW.trod enc Tryz.prog w base sp held fuel 23 [v]=some x):∃l,Jo w v l:=by
 obtain⟨l,a,cap,rfl,h1,h2,h3⟩:=zJ (jgt w) Tryz.underlying23 jhZ (fun _ _ _ h=>jfV h) h;obtain⟨g0,g1,g2,g3⟩:=h3;refine⟨l.map (fun z=>z.1),a,cap,by rw[List.length_map],by rw[List.length_map];exact h1,h2,rfl,by rw[List.length_map];exact g1,?_⟩;rw[List.length_map];rcases g3 with g3 | ⟨b,off,rfl,hb,hc⟩
 · exact .inl g3
 · refine .inr ⟨b,off,rfl,hb,fun i n hi=>?_⟩;rw[List.getElem?_map] at hi;obtain⟨z,hz,rfl⟩:=Option.map_eq_some_iff.1 hi;exact⟨slV z.2.1,slV z.2.2.1,slV z.2.2.2.1,slV z.2.2.2.2,hc i z 0 _ hz rfl,hc i z 1 _ hz rfl,hc i z 2 _ hz rfl,hc i z 3 _ hz rfl,hc i z 4 _ hz rfl,hc i z 5 _ hz rfl,hc i z 6 _ hz rfl,hc i z 7 _ hz rfl,hc i z 8 _ hz rfl,hc i z 9 _ hz rfl,hc i z 10 _ hz rfl,g2 z (List.mem_of_getElem? hz)⟩
structure Bd where
 name:ByteArray
 sel:TL
 floor:Int
def Bd.zero:Bd:=⟨ByteArray.empty,[],0⟩
abbrev JY (n:Bd) (v1:Value):Value:=.agg #[.string n.name,v1,.int .i64 n.floor]
structure zt (w:World) (v1:Value) (n:Bd):Prop where
 name:n.name.size≤maxLen
 floor:-9223372036854775808≤n.floor∧n.floor≤9223372036854775807
 sel:Reads jP w v1 n.sel
theorem zt.kept {w w':World} {v1:Value} {n:Bd} (h:zt w v1 n) (k:Kept w w'):zt w' v1 n:=⟨h.name,h.floor,h.sel.kept k⟩
def ji0 (w:World) (v:Value) (n:Bd):Prop:=∃v1,v=JY n v1∧zt w v1 n
theorem ji0.kept {w w':World} {v:Value} {n:Bd} (h:ji0 w v n) (k:Kept w w'):ji0 w' v n:=by
 obtain⟨v1,e,h⟩:=h;exact⟨v1,e,h.kept k⟩
def Yh (B:Nat) (w:World) (v:Value) (n:Bd):Prop:=∃b1 n1 d1,v=JY n (.slice b1 n1 d1)∧zt w (.slice b1 n1 d1) n∧j4 B b1
theorem Yh.toR {B:Nat} {w:World} {v:Value} {n:Bd} (h:Yh B w v n):ji0 w v n:=by
 obtain⟨b1,n1,d1,e,h,-⟩:=h;exact⟨_,e,h⟩
theorem zt.far {B:Nat} {w w':World} {n:Bd} {b1:Option Addr} {n1 d1:Nat} (h:zt w (.slice b1 n1 d1) n) (hs:w'.heap.size=w.heap.size) (hb:∀b,B≤b→w'.heap[b]?=w.heap[b]?) (g1:j4 B b1):zt w' (.slice b1 n1 d1) n :=
 ⟨h.name,h.floor,h.sel.far hs (fun b o s e=>hb b (g1 b o s e))⟩
theorem Yh.far {B:Nat} {w w':World} {v:Value} {n:Bd} (h:Yh B w v n) (hs:w'.heap.size=w.heap.size) (hb:∀b,B≤b→w'.heap[b]?=w.heap[b]?):Yh B w' v n:=by
 obtain⟨b1,n1,d1,e,h,g1⟩:=h;exact⟨b1,n1,d1,e,h.far hs hb g1,g1⟩
theorem Yh.less {B B':Nat} {w:World} {v:Value} {n:Bd} (h:Yh B w v n) (hb:B'≤B):Yh B' w v n:=by
 obtain⟨b1,n1,d1,e,h,g1⟩:=h;exact⟨b1,n1,d1,e,h,g1.less hb⟩
theorem Yh.kept {B:Nat} {w w':World} {v:Value} {n:Bd} (h:Yh B w v n) (k:Kept w w'):Yh B w' v n:=by
 obtain⟨b1,n1,d1,e,h,g1⟩:=h;exact⟨b1,n1,d1,e,h.kept k,g1⟩
theorem zt.spelt {w:World} {v1:Value} {n:Bd} (h:zt w v1 n):∃b1 n1 d1,v1=.slice b1 n1 d1:=by
 obtain⟨a,c,e,-⟩:=h.sel;exact⟨_,_,_,e⟩
def XF (x:ByteArray):Int:=if isName x=true then 0 else 3
def zR (m:Int):Int:=if m<0∨128<m then 1 else 0
def Jq (n:Bd):Int:=orL [XF n.name,Zr n.sel,zR n.floor]
theorem jdv (x:ByteArray) (w:World) (hx:x.size≤maxLen) :
 Calls Tryz.prog 207 #[.string x] w fun e w'=>e=.returned (.int .i64 (XF x))∧w=w':=by
 obtain⟨q,hq⟩:=eX (isName x)
 obtain⟨HV,HR,HX⟩:=lH3 (show XF x=if q=true then 0 else 3 by unfold XF;rw[hq]) hq hx;clear hq hx
 cases q <;>
 (go_enter Tryz.func207,Tryz.ntmps207
  go_wp2_with fail
  refine(Vec.qZ HX.out HR.out).mono ?_;rintro e w' ⟨rfl,rfl⟩;go_wp2;go_ret;exact⟨jb HV.out.symm,rfl⟩)
theorem jdw (m:Int) (w:World) :
 Calls Tryz.prog 208 #[.int .i64 m] w fun e w'=>e=.returned (.int .i64 (zR m))∧w=w':=by
 by_cases z:m<0
 · have HW:=lH (show zR m=1 by unfold zR;rw[if_pos (.inl z)]);go_enter Tryz.func208,Tryz.ntmps208;go_wp2;go_ret;exact⟨jb HW.out.symm,rfl⟩
 · by_cases y:128<m
   · have HW:=lH (show zR m=1 by unfold zR;rw[if_pos (.inr y)]);have z':0≤m:=by omega
     clear z;go_enter Tryz.func208,Tryz.ntmps208;go_wp2;go_ret;exact⟨jb HW.out.symm,rfl⟩
   · have HW:=lH (show zR m=0 by unfold zR;rw[if_neg (by omega)]);have z':0≤m:=by omega
     have y':m≤128:=by omega
     clear z y;go_enter Tryz.func208,Tryz.ntmps208;go_wp2;go_ret;exact⟨jb HW.out.symm,rfl⟩
theorem jhc (W:World) (x1 x2 x3:Int) (T:TypeId) (i:Nat) (x:Int) (hi:([x1,x2,x3]:List Int)[i]?=some x) :
 (W.alloc (.cells #[.int .i64 x1,.int .i64 x2,.int .i64 x3] T)).cell? ⟨W.heap.size,i,none⟩=some (.int .i64 x):=by
 refine(jc W (.int .i64 x1) [.int .i64 x2,.int .i64 x3] T _ (Kept.refl _)).at_ i _ ?_
 match i,hi with
 | 0,h=>simpa using h
 | 1,h=>simpa using h
 | 2,h=>simpa using h
 | j+3,h=>simp at h
theorem jiA (n:Bd) (v1:Value) (w:World) (h:zt w v1 n) :
 Calls Tryz.prog 158 #[JY n v1] w (Say (.int .i64 (Jq n)) w):=by
 obtain⟨W0,hW0⟩:=eX (w.alloc (.cells #[.string n.name,v1,.int .i64 n.floor] 92))
 have hk0:Kept w W0:=by rw[←hW0];exact ja _ _
 have HC:=lH (show ∀W,Kept W0 W→W.cell? ⟨w.heap.size,0,none⟩=some (.string n.name)∧W.cell? ⟨w.heap.size,1,none⟩=some (v1)∧W.cell? ⟨w.heap.size,2,none⟩=some (.int .i64 n.floor) from fun W k=>by
  have c:=jc w (.string n.name) [v1,.int .i64 n.floor] 92 W (by rw[hW0];exact k);exact⟨c.at_ 0 _ rfl,c.at_ 1 _ rfl,c.at_ 2 _ rfl⟩)
 obtain⟨E1,E5,E7,Va⟩:=lH4 (fun W=>jdv n.name W h.name) (fun W (k:Kept W0 W)=>jdR (h.sel.kept (hk0.trans k)) rfl) (fun W=>jdw n.floor W) hk0;obtain⟨x1,hx1⟩:=eX (XF n.name)
 rw[hx1] at E1;obtain⟨x2,hx2⟩:=eX (Zr n.sel)
 rw[hx2] at E5;obtain⟨x3,hx3⟩:=eX (zR n.floor)
 rw[hx3] at E7;have HV:=lH (show Jq n=orL [x1,x2,x3] by unfold Jq;rw[hx1,hx2,hx3]);have ORC:=lH (fun W=>jhc W x1 x2 x3 45);clear hx1 hx2 hx3 h hk0;obtain⟨c0,c1,c2⟩:=HC.out _ (Kept.refl _);unfold JY;go_enter Tryz.func158,Tryz.ntmps158;go_wp2;try rw[hW0]
 clear hW0
 go_region_held3 (fun W=>W.cell? ⟨w.heap.size,0,none⟩=some (.string n.name)∧W.cell? ⟨w.heap.size,1,none⟩=some (v1)∧W.cell? ⟨w.heap.size,2,none⟩=some (.int .i64 n.floor))
  (first | exact HC.out _ (Kept.drew _) | exact HC.out _ K5.out | exact HC.out _ (K5.out.trans (ja _ _)))
  (first | (go_at_call 207;refine(E1.out _).mono ?_;rintro e1 w1 ⟨rfl,rfl⟩)
         | (go_at_call 203;refine(E5.out _ (Kept.drew _)).mono ?_;rintro e5 w5 ⟨rfl,k5⟩;have K5:=lH ((Kept.drew _).trans k5);clear k5)
         | (go_at_call 208;refine(E7.out _).mono ?_;rintro e7 w7 ⟨rfl,rfl⟩)
         | (go_at_call 89;refine(jhz _ 3 [x1,x2,x3] _ rfl (by decide) (ORC.out _)).mono ?_;rintro e9 w9 ⟨rfl,rfl⟩))
 go_wp2;go_ret;exact⟨jb HV.out.symm,Va.out.trans (K5.out.trans (ja _ _))⟩
def j9 (w:World) (a:Option Addr) (len:Nat) (l:List Bd):Prop :=
 l.length=len∧len≤maxLen∧(len=0∨∃b off,a=some ⟨b,off,none⟩∧b<w.heap.size∧∀i n,l[i]?=some n→∃v1,
  w.cell? ⟨b,off+i*3,none⟩=some (.string n.name)∧w.cell? ⟨b,off+i*3+1,none⟩=some (v1)∧w.cell? ⟨b,off+i*3+2,none⟩=some (.int .i64 n.floor)∧zt w v1 n)
theorem j9.kept {w w':World} {a:Option Addr} {len:Nat} {l:List Bd} (h:j9 w a len l) (k:Kept w w'):j9 w' a len l:=by
 obtain⟨h0,h1,h2⟩:=h;refine⟨h0,h1,h2.imp id ?_⟩;rintro ⟨b,off,rfl,hb,hc⟩;refine⟨b,off,rfl,Nat.lt_of_lt_of_le hb k.size,fun i n hi=>?_⟩;obtain⟨v1,p0,p1,p2,hn⟩:=hc i n hi;exact⟨v1,cell_later k p0,cell_later k p1,cell_later k p2,hn.kept k⟩
theorem j9.form {w:World} {a:Option Addr} {len:Nat} {l:List Bd} (h:j9 w a len l):len=0∨∃b off,a=some ⟨b,off,none⟩:=by
 obtain⟨_,_,h2⟩:=h;exact h2.imp id fun ⟨b,off,e,_⟩=>⟨b,off,e⟩
theorem j9.at_ {w:World} {b off len:Nat} {l:List Bd} {k:Nat} (h:j9 w (some ⟨b,off,none⟩) len l) (hk:k<len):∃n a1 m1 c1,l[k]?=some n∧l.drop k=n::l.drop (k+1)∧b<w.heap.size ∧
 w.cell? ⟨b,off+k*3,none⟩=some (.string n.name)∧w.cell? ⟨b,off+k*3+1,none⟩=some (.slice a1 m1 c1)∧w.cell? ⟨b,off+k*3+2,none⟩=some (.int .i64 n.floor)∧zt w (.slice a1 m1 c1) n:=by
 obtain⟨h0,_,h3⟩:=h;have hkl:k<l.length:=by omega
 rcases h3 with h3 | ⟨b',off',e,hb,hc⟩
 · omega
 · injection e with e;injection e with e1 e2 e3;subst e1;subst e2;have he:l[k]?=some l[k]:=List.getElem?_eq_getElem hkl;obtain⟨v1,r⟩:=hc k _ he;obtain⟨a1,m1,c1,rfl⟩:=zt.spelt r.2.2.2;exact⟨l[k],a1,m1,c1,he,List.drop_eq_getElem_cons hkl,hb,r⟩
def Zf (w:World) (v:Value) (l:List Bd):Prop:=∃a cap,v=.slice a l.length cap∧l.length≤cap∧cap≤maxLen∧j9 w a l.length l
theorem Zf.kept {w w':World} {v:Value} {l:List Bd} (h:Zf w v l) (k:Kept w w'):Zf w' v l:=by
 obtain⟨a,cap,e,h1,h2,h3⟩:=h;exact⟨a,cap,e,h1,h2,h3.kept k⟩
def jj1 (c:Int) (n:Bd) (w:World) (e:Ending) (w':World):Prop:=(c=0→∃v,e=.returned v∧Yh w.heap.size w' v n)∧(c≠0→e=.panicked [zx c])∧Kept w w'
theorem jj1.bad {c:Int} {n:Bd} {w w':World} (hc:c≠0) (hb:Kept w w'):jj1 c n w (.panicked [zx c]) w':=⟨fun g=>absurd g hc,fun _=>rfl,hb⟩
theorem ji9 {W:World} {q p:Nat} {c0 c1 c2 u0 u1 u2:Value} (h:(W).cell? ⟨q,0,none⟩=some (c0)∧(W).cell? ⟨q,1,none⟩=some (c1)∧(W).cell? ⟨q,2,none⟩=some (c2)) (hne:q≠p) :
 ((((W.setCell ⟨p,0,none⟩ u0).setCell ⟨p,1,none⟩ u1).setCell ⟨p,2,none⟩ u2)).cell? ⟨q,0,none⟩=some (c0)∧((((W.setCell ⟨p,0,none⟩ u0).setCell ⟨p,1,none⟩ u1).setCell ⟨p,2,none⟩ u2)).cell? ⟨q,1,none⟩=some (c1)∧((((W.setCell ⟨p,0,none⟩ u0).setCell ⟨p,1,none⟩ u1).setCell ⟨p,2,none⟩ u2)).cell? ⟨q,2,none⟩=some (c2):=by
 have e:(W.setCells p 0 [u0,u1,u2]).heap[q]?=W.heap[q]?:=Yb p _ 0 W q hne;have c:∀j,((((W.setCell ⟨p,0,none⟩ u0).setCell ⟨p,1,none⟩ u1).setCell ⟨p,2,none⟩ u2)).cell? ⟨q,j,none⟩=W.cell? ⟨q,j,none⟩:=fun j=>World.cell?_of_block (a:=⟨q,j,none⟩) e;simp only[c];exact h
abbrev BX:=Bd×SX
abbrev joz (z:BX):Value:=JY z.1 (slV z.2)
def At1 (w:World) (z:BX):Prop:=zt w (slV z.2) z.1
theorem zt.at1 {w:World} {n:Bd} {x1:SX} (h:zt w (slV x1) n):At1 w (n,x1):=h
theorem jnf (n:Bd) (v1:Value) (w:World) (h:zt w v1 n) (hl:n.sel.length≤1000000) :
 Calls Tryz.prog 131 #[JY n v1] w fun e w'=>∃z:BX,e=.returned (joz z)∧z.1=n∧At1 w' z∧Btw w.heap.size w'.heap.size z.2.1∧Kept w w':=by
 have HH:=lH h;have E3:=lH (fun W (k:Kept w W)=>(jn5 (h.sel.kept k) hl).mono fun _ _=>YE);obtain⟨⟨x0,l3,m⟩,hnn⟩:∃m,m=n:=⟨n,rfl⟩
 subst hnn;dsimp only at E3;obtain⟨W0,hW0⟩:=eX ((w.alloc (.cells #[.string x0,v1,.int .i64 m] 92)).alloc (.cells #[.string ⟨#[]⟩,.slice none 0 0,.int .i64 0] 194))
 have hk0:Kept w W0:=by rw[←hW0];exact jn _ _ _
 have hzs:W0.heap.size=w.heap.size+2:=by rw[←hW0];simp
 have HB:=lH (show ∀W,Kept W0 W→W.cell? ⟨w.heap.size,0,none⟩=some (.string x0)∧W.cell? ⟨w.heap.size,1,none⟩=some (v1)∧W.cell? ⟨w.heap.size,2,none⟩=some (.int .i64 m) from fun W k=>by
  have:=jc w (.string x0) [v1,.int .i64 m] 92 W ((by rw[←hW0];exact ja _ _:Kept (w.alloc (.cells #[.string x0,v1,.int .i64 m] 92)) W0).trans k);exact⟨this.at_ 0 _ rfl,this.at_ 1 _ rfl,this.at_ 2 _ rfl⟩)
 have HQ:=lH (show ∀W,Kept W0 W→jf (w.heap.size+1) [.string ⟨#[]⟩,.slice none 0 0,.int .i64 0] W from fun W k=>by
  have:=jc (w.alloc (.cells #[.string x0,v1,.int .i64 m] 92)) (.string ⟨#[]⟩) [.slice none 0 0,.int .i64 0] 194 W (by rw[hW0];exact k);rw[World.size_alloc] at this;exact this)
 have HZ:=lH hzs;have Va:=lH hk0;obtain⟨b0,b1,b2⟩:=HB.out _ (Kept.refl _);clear h hl hk0 hzs;unfold JY;dsimp only;go_enter Tryz.func131,Tryz.ntmps131;go_wp2;try rw[hW0]
 clear hW0
 go_region_held3 (fun W=>(W.cell? ⟨w.heap.size,0,none⟩=some (.string x0)∧W.cell? ⟨w.heap.size,1,none⟩=some (v1)∧W.cell? ⟨w.heap.size,2,none⟩=some (.int .i64 m)))
  (first | with_reducible exact HB.out _ K4.out | exact ji9 (HB.out _ K4.out) (by omega) | exact HB.out _ (Kept.drew _))
  (first | (go_at_call 190;refine(E3.out _ (Va.out.trans (Kept.drew _))).mono ?_;rintro e1 w4 ⟨b1,n1,d1,rfl,r1,g1,k1⟩;obtain⟨K4,G1,R1⟩:=lH3 (Kept.trans (Kept.drew _) k1) (show Btw (w.heap.size+2) w4.heap.size b1 from fun b o s e=>⟨Nat.le_trans (by rw[←HZ.out];exact Below.size (Kept.drew _)) (g1 b o s e).1,(g1 b o s e).2⟩) r1;clear k1 r1 g1;have VP:=lH (HQ.out _ K4.out);have z0:=VP.out.at_ 0 _ rfl;have f0:=VP.out.free 0;have z1:=VP.out.at_ 1 _ rfl;have f1:=VP.out.free 1;have z2:=VP.out.at_ 2 _ rfl;have f2:=VP.out.free 2))
 have P:=lH (j5 (vs:=[.string x0,.slice b1 n1 d1,.int .i64 m]) VP.out rfl);go_wp2;obtain⟨WE,hWE⟩:=eX (w4.setCells (w.heap.size+1) 0 [.string x0,.slice b1 n1 d1,.int .i64 m])
 have hWE2:(((w4.setCell ⟨w.heap.size+1,0,none⟩ (.string x0)).setCell ⟨w.heap.size+1,1,none⟩ (.slice b1 n1 d1)).setCell ⟨w.heap.size+1,2,none⟩ (.int .i64 m))=WE:=hWE;rw[hWE] at P;rw[hWE2];clear hWE hWE2;obtain⟨PC,hsz,hbl,hkp⟩:=P.out;refine bodyPost_ret (by simp[results,Tryz.results131,go_sem,PC.at_ 0 _ rfl,PC.at_ 1 _ rfl,PC.at_ 2 _ rfl];try rfl) rfl ?_;refine⟨(⟨x0,l3,m⟩,(b1,n1,d1)),rfl,rfl,zt.at1 (zt.far (B:=w.heap.size+2) (n:=⟨x0,l3,m⟩) ⟨HH.out.name,HH.out.floor,R1.out⟩ hsz (fun b hb=>hbl b (by omega)) G1.out.behind),?_,hkp _ _ (Nat.le_succ _) (Va.out.trans K4.out)⟩;rw[hsz];exact G1.out.up (by omega) (Nat.le_refl _)
theorem jf4 (x:BX) (u:Value) (h:u ∈ [Value.string x.1.name,slV x.2,.int .i64 x.1.floor]):u.oneCell'=true:=by
 simp only[List.mem_cons,List.not_mem_nil,or_false] at h;rcases h with rfl | rfl | rfl<;>rfl
def zv:Lay BX:={ m:=3,cs:=fun x=>[.string x.1.name,slV x.2,.int .i64 x.1.floor],fine:=fun _=>True,len:=fun _=>rfl,one:=jf4,pos:=by decide }
def jmc (w:World) (v:Value) (l:List BX):Prop:=∀z ∈ l,At1 w z∧Btw 0 w.heap.size z.2.1∧Zy v z.2.1
theorem jjm {wr w1 w2:World} {o:Obj} {v:Value} {l:List BX} {z0:BX} {gg n cap:Nat} (hv:jmc wr v l) (k:Kept wr w1) (hz:At1 w1 z0) (hw:Btw wr.heap.size w1.heap.size z0.2.1) (hown:∀g,v.ownBlock=some g→g<wr.heap.size)
 (hgrow:(w1.alloc o).grownBy w2 v.ownBlock) (hat:v.ownBlock=some gg∨gg=w1.heap.size+1):jmc w2 (.slice (some ⟨gg,0,none⟩) n cap) (l++[z0]):=by
 have hs:=hgrow.size;rw[World.size_alloc] at hs;have hk:=k.size;have key:∀z,At1 w1 z→Btw 0 w1.heap.size z.2.1→Zy v z.2.1→At1 w2 z∧Btw 0 w2.heap.size z.2.1∧Zy (.slice (some ⟨gg,0,none⟩) n cap) z.2.1:=by
  intro z h3 hwz f1;have ne:∀b,b<w1.heap.size→v.ownBlock≠some b→(Value.slice (some ⟨gg,0,none⟩) n cap).ownBlock≠some b:=by
   intro b hb hne e;have e:some gg=some b:=e;rcases hat with hat | hat
   · exact hne (hat.trans e)
   · have:gg=b:=Option.some.inj e;omega
  have h3':=zt.kept h3 (ja w1 o);exact⟨⟨h3'.name,h3'.floor,h3'.sel.grown hgrow (fun b off sp e=>Ne.symm (f1 b off sp e))⟩,hwz.up (Nat.le_refl _) (by omega),fun b off sp e=>ne b (hwz b off sp e).2 (f1 b off sp e)⟩
 intro z hzm;rcases List.mem_append.1 hzm with hzm | hzm
 · obtain⟨h0,h1,h2⟩:=hv z hzm;exact key z (zt.kept h0 k) (h1.up (Nat.le_refl _) hk) h2
 · obtain rfl:z=z0:=by simpa using hzm
   exact key z hz (hw.up (Nat.zero_le _) (Nat.le_refl _)) (fun b off sp e f=>by have:=(hw b off sp e).1;have:=hown b f;omega)
theorem jfY {w:World} {T:TypeId} {B:Nat} {v:Value} {lx:List BX} (ho:Own zv T w B v lx) (hf:∀z ∈ lx,At1 w z):Zf w v (lx.map fun z=>z.1):=by
 obtain⟨a,cap,rfl,h1,h2,h3⟩:=ho.at_;obtain⟨g0,g1,g2,g3⟩:=h3;refine⟨a,cap,by rw[List.length_map],by rw[List.length_map];exact h1,h2,rfl,by rw[List.length_map];exact g1,?_⟩;rw[List.length_map];rcases g3 with g3 | ⟨b,off,rfl,hb,hc⟩
 · exact .inl g3
 · refine .inr ⟨b,off,rfl,hb,fun i n hi=>?_⟩;rw[List.getElem?_map] at hi;obtain⟨z,hz,rfl⟩:=Option.map_eq_some_iff.1 hi;exact⟨slV z.2,hc i z 0 _ hz rfl,hc i z 1 _ hz rfl,hc i z 2 _ hz rfl,hf z (List.mem_of_getElem? hz)⟩
theorem jn2:(Tryz.prog.info? 194).map (fun i=>(i.zero,i.size,i.bytes))=some (some (.agg #[.string ByteArray.empty,.slice none 0 0,.int .i64 0]),3,48):=by kernel_rfl
theorem jiK (a:Option Addr) (len cap:Nat) (l:List Bd) (w:World) (hr:j9 w a len l) (hlow:∀n ∈ l,n.sel.length≤1000000) (hlen:len≤1000) :
 Calls Tryz.prog 71 #[.slice a len cap] w fun e w'=>∃v,e=.returned v∧Zf w' v l∧Kept w w':=by
 have hl:=hr.1;have Vo:=lH hlow;obtain⟨i0,hi,hz0,hz1,hz2'⟩:=info_parts jn2;rcases hr.form with h0 | ⟨b,off,rfl⟩
 · subst h0;have hl0:l=[]:=List.eq_nil_of_length_eq_zero hl;subst hl0;clear hr hl hi hz0 hz1 hz2' hlow;go_enter Tryz.func71,Tryz.ntmps71;go_wp2;refine wp_loop_rounds 1 ?_;rw[rounds_succ];go_wp2;go_ret;exact⟨_,rfl,⟨none,0,rfl,Nat.le_refl _,by decide,rfl,by decide,.inl rfl⟩,Kept.refl _⟩
 · have HR:=lH hr;have HL:=lH hl;clear hr hl hlow;go_enter Tryz.func71,Tryz.ntmps71;go_wp2;go_loopw [3,4] (fun v i wr=>∃k:Nat,k≤len∧i=.int .i64 k∧∃lx:List BX,(lx.map fun z=>z.1)=l.take k∧Own zv 194 wr w.heap.size v lx∧jmc wr v lx∧Below w.heap.size w wr) (fun _ i _=>len-(intOf i).toNat)
   case atStart=>exact⟨0,Nat.zero_le _,rfl,[],rfl,Own.nil _ _ _,(fun z h=>by cases h),Below.refl _ _⟩
   case round =>
    obtain⟨k,hk,rfl,lx,hlx,ho,hv,hB⟩:=hrel;obtain⟨HX,HO,HV,HB,HT⟩:=lH5 hlx ho hv hB (show lx.length=k by have:=congrArg List.length hlx;rw[List.length_map,List.length_take,HL.out] at this;omega);have Vj:=lH (show wr.ownsRow w.heap.size 194 3 u3 k (je zv lx) by have:=HO.out.1;rw[HT.out] at this;exact this);have hbase:w.heap.size≤wr.heap.size:=hB.size;by_cases hlt:k<len
    · obtain⟨n,a1,m1,c1,hn,hd,hb,p0,p1,p2,hat⟩:=(HR.out.kept hB).at_ hlt;have HN:=lH hn;have Vy:=lH (jnf n (.slice a1 m1 c1) wr hat (Vo.out n (List.mem_of_getElem? hn)));have hk1:(k:Int)<(len:Int):=by omega
      clear hlx ho hv hB hn hd hat;go_wp2_with fail
      refine Vy.out.mono ?_;rintro e w1 ⟨z,rfl,hz,h3,hwi,kk⟩;obtain⟨HZ,H3,HW,KK⟩:=lH4 hz h3 hwi kk;have hs1:wr.heap.size≤w1.heap.size:=kk.size;have VF:=lH (show w1.ownsRow w.heap.size 194 3 u3 k (je zv lx) by have:=(HO.out.kept kk).1;rw[HT.out] at this;exact this);clear hz h3 hwi kk;go_wp2_with (at_builtin;refine wpList_append_lies _ rfl _ _ _ rfl w.heap.size 194 i0 _ 3 48 Tryz.underlying68 hi hz0 hz1 hz2' rfl (by decide) u3 k (je zv lx) rfl (VF.out.alloc _) ⟨w1.heap.size,0,none⟩ 1 1 (zv.cs z) rfl rfl (World.news_of_block (cs:=#[.string z.1.name,slV z.2,.int .i64 z.1.floor]) (t:=194) (fr:=(0,0)) (heap_alloc_new w1 _)) (jf4 z) (by decide) (by unfold maxLen;omega) (by omega) (by simp;omega) (w1.heap.size+1) (by simp) ?_;intro gg cap1 w2 hown1 hgrow hat hlt1)
      have Uv:=lH (jjm (n:=k+1) (cap:=cap1) HV.out KK.out H3.out HW.out (fun g h=>(Vj.out.lt g h).2) hgrow hat);have VQ:=lH ((HB.out.trans ((Below.mono KK.out hbase).trans (Below.mono (ja w1 _) (by omega)))).grown hgrow (by simp;omega) (fun j hj=>(Vj.out.lt j hj).1));go_wp2;go_roundw
      case rel=>exact⟨k+1,by omega,by go_num,lx++[z],by rw[List.map_append,HX.out,zI HN.out,←HZ.out];rfl,Own.snoc hown1 (by rw[HT.out]) HO.out.2 trivial,Uv.out,VQ.out⟩
      case measure=>simp[intOf];omega
    · have HK:=lH (show l.take k=l by rw[List.take_of_length_le (by rw[HL.out];omega)]);have Ub:=lH (show Zf wr u3 l by have:=jfY HO.out (fun z hz=>(HV.out z hz).1);rw[HX.out,HK.out] at this;exact this);clear hlx ho hv hB;go_wp2;go_ret;exact⟨_,rfl,Ub.out,HB.out⟩
theorem jmO {v:Value} {l:List Bd} {w:World} (h:Zf w v l) (hlow:∀n ∈ l,n.sel.length≤1000000) (hlen:l.length≤1000) :
 Calls Tryz.prog 71 #[v] w fun e w'=>∃v,e=.returned v∧Zf w' v l∧Kept w w':=by
 obtain⟨a,cap,rfl,_,_,hr⟩:=h;exact jiK a _ cap l w hr hlow hlen
def jgl (w:World):Lay BX:={ m:=3,cs:=zv.cs,fine:=At1 w,len:=fun _=>rfl,one:=zv.one,pos:=by decide }
theorem jhS:Tryz.prog.cellsOf 92=3:=by kernel_rfl
theorem jfQ {H:Type} {enc:TypeId×Value→H} {w:World} {base fuel:Nat} {sp:Nat→Bool} {held:Bool} {cs:List Value} {x:DataW H×List MemPlace} (h:DataW.trod enc Tryz.prog w base sp held fuel 92 cs=some x) :
 ∃a:BX,cs=(jgl w).cs a∧(jgl w).fine a:=by
 obtain⟨ys,m,-,-,hlen,hyl,hf⟩:=DataW.trod_struct Tryz.underlying92 h;rw[jhS] at hlen
 match cs,hlen with
 | [c0,c1,c2],_ =>
  have h0:DataW.trod enc Tryz.prog w base sp held m 9 (([c0,c1,c2].drop 0).take (Tryz.prog.cellsOf 9))=ys[0]?:=hf 0 _ rfl;have h1:DataW.trod enc Tryz.prog w base sp held m 41 (([c0,c1,c2].drop 1).take (Tryz.prog.cellsOf 41))=ys[1]?:=hf 1 _ rfl;have h2:DataW.trod enc Tryz.prog w base sp held m 3 (([c0,c1,c2].drop 2).take (Tryz.prog.cellsOf 3))=ys[2]?:=hf 2 _ rfl;rw[ZF] at h0;rw[jhs] at h1;rw[qz] at h2;obtain⟨y0,e0⟩:∃y,ys[0]?=some y:=⟨_,List.getElem?_eq_getElem (by rw[hyl];decide)⟩
  rw[e0] at h0;obtain⟨y1,e1⟩:∃y,ys[1]?=some y:=⟨_,List.getElem?_eq_getElem (by rw[hyl];decide)⟩
  rw[e1] at h1;obtain⟨y2,e2⟩:∃y,ys[2]?=some y:=⟨_,List.getElem?_eq_getElem (by rw[hyl];decide)⟩
  rw[e2] at h2;simp only[List.drop_zero,List.take_succ_cons,List.take_zero,List.drop_succ_cons] at h0 h1 h2;obtain⟨s0,q0,-,z0⟩:=DataW.trod_string Tryz.underlying9 h0;obtain⟨l3,r5⟩:=jbK h1;obtain⟨s2,q2,-,z2⟩:=DataW.trod_int Tryz.underlying3 h2;have r5':=r5;obtain⟨a1,d1,rfl,-⟩:=r5';simp only[List.cons.injEq,and_true] at q0 q2;subst q0;subst q2;exact⟨(⟨s0,l3,s2⟩,(a1,l3.length,d1)),rfl,⟨z0,bounds_i64 z2,r5⟩⟩
theorem je8 {H:Type} {enc:TypeId×Value→H} {w:World} {base fuel:Nat} {sp:Nat→Bool} {held:Bool} {v:Value} {x:DataW H×List MemPlace} (h:DataW.trod enc Tryz.prog w base sp held fuel 24 [v]=some x):∃l,Zf w v l:=by
 obtain⟨l,a,cap,rfl,h1,h2,h3⟩:=zJ (jgl w) Tryz.underlying24 jhS (fun _ _ _ h=>jfQ h) h;obtain⟨g0,g1,g2,g3⟩:=h3;refine⟨l.map (fun z=>z.1),a,cap,by rw[List.length_map],by rw[List.length_map];exact h1,h2,rfl,by rw[List.length_map];exact g1,?_⟩;rw[List.length_map];rcases g3 with g3 | ⟨b,off,rfl,hb,hc⟩
 · exact .inl g3
 · refine .inr ⟨b,off,rfl,hb,fun i n hi=>?_⟩;rw[List.getElem?_map] at hi;obtain⟨z,hz,rfl⟩:=Option.map_eq_some_iff.1 hi;exact⟨slV z.2,hc i z 0 _ hz rfl,hc i z 1 _ hz rfl,hc i z 2 _ hz rfl,g2 z (List.mem_of_getElem? hz)⟩
theorem jbH (n:Pd) (v1 v2 v3 v4:Value) (w:World):Calls Tryz.prog 154 #[jx n v1 v2 v3 v4] w fun e w'=>e=.returned (.string n.name)∧Kept w w':=by
 unfold jx;go_enter Tryz.func154,Tryz.ntmps154;go_wp2;go_ret;exact⟨rfl,ja _ _⟩
def JP (l:List Pd) (x:ByteArray):Option Pd:=l.find? fun n=>eqS n.name x
def jX:Option ByteArray→List Pd→Int
 | _,[]=>0
 | prev,n::t=>if zC n≠0 then zC n else if Vec.jK prev n.name=true then 13 else jX (some n.name) t
def jD (l:List Pd):Int:=if 128<l.length then 4 else jX none l
def ZB (l:List Pd) (k:Nat):Option ByteArray:=if k=0 then none else (l[k-1]?).map Pd.name
theorem jbP {l:List Pd} {k:Nat} (h:k=0) (s:ByteArray):Vec.jK (ZB l k) s=false:=by unfold ZB;rw[if_pos h];rfl
theorem jbY {l:List Pd} {k:Nat} {n:Pd} (h:¬k=0) (hn:l[k-1]?=some n) (s:ByteArray):Vec.jK (ZB l k) s=leS s n.name:=by unfold ZB;rw[if_neg h,hn];rfl
theorem jbO {l:List Pd} {k:Nat} {n:Pd} (hn:l[k]?=some n):ZB l (k+1)=some n.name:=by unfold ZB;rw[if_neg (by omega),Nat.add_sub_cancel,hn];rfl
theorem qO {p:Option ByteArray} {n:Pd} {t:List Pd} (h:zC n≠0):jX p (n::t)=zC n:=by rw[jX,if_pos h]
theorem Xy {p:Option ByteArray} {n:Pd} {t:List Pd} (h:zC n=0) (b:Vec.jK p n.name=true):jX p (n::t)=13:=by rw[jX,if_neg (by rw[h];decide),if_pos b]
theorem ZQ {p:Option ByteArray} {n:Pd} {t:List Pd} (h:zC n=0) (b:Vec.jK p n.name=false):jX p (n::t)=jX (some n.name) t:=by rw[jX,if_neg (by rw[h];decide),if_neg (by rw[b];decide)]
theorem jdu (a:Option Addr) (len cap:Nat) (l:List Pd) (w:World) (hr:jy w a len l) :
 Calls Tryz.prog 153 #[.slice a len cap,.int .i64 128,.func (.func 154) #[] #[],.func (.func 155) #[] #[]] w (Say (.int .i64 (jD l)) w):=by
 have hl:=hr.1;have hm:=hr.2.1;unfold maxLen at hm;by_cases h32:128<len
 · have HV:=lH (show jD l=4 by unfold jD;rw[if_pos (by omega)]);clear hr hl;go_enter Tryz.func153,Tryz.ntmps153;go_wp2;go_ret;exact⟨jb HV.out.symm,Kept.refl _⟩
 · have HV:=lH (show jD l=jX none l by unfold jD;rw[if_neg (by omega)]);have h32':len≤128:=by omega
   by_cases h0:len=0
   · subst h0;have HE:=lH (show jD l=0 by rw[HV.out,List.eq_nil_of_length_eq_zero hl];rfl);clear hr hl h32;go_enter Tryz.func153,Tryz.ntmps153;go_wp2;refine wp_loop_rounds 1 ?_;rw[rounds_succ];go_wp2;go_ret;exact⟨jb HE.out.symm,Kept.refl _⟩
   · obtain⟨b,off,rfl⟩:=hr.form.resolve_left h0;have HR:=lH hr;have HL:=lH hl;clear hr hl h0 h32;go_enter Tryz.func153,Tryz.ntmps153;go_wp2;go_loopw [18] (fun i wr=>∃k:Nat,k≤len∧i=.int .i64 k∧jX (ZB l k) (l.drop k)=jX none l∧Kept w wr) (fun i _=>len-(intOf i).toNat)
     case atStart=>exact⟨0,Nat.zero_le _,rfl,rfl,Kept.refl _⟩
     case round =>
      obtain⟨k,hk,rfl,hrest,hK⟩:=hrel;obtain⟨HS,HT,HK⟩:=lH3 (HV.out.trans hrest.symm) hrest hK;by_cases hlt:k<len
      · obtain⟨n,a1,m1,c1,a2,m2,c2,a3,m3,c3,a4,m4,c4,hn,hd,hb,p0,p1,p2,p3,p4,p5,p6,p7,p8,p9,p10,hat⟩:=(HR.out.kept hK).at_ hlt;obtain⟨VH,HD,VD⟩:=lH3 hat hd (jbO hn);have VE:=lH (fun W (kk:Kept wr W)=>jiz n (.slice a1 m1 c1) (.slice a2 m2 c2) (.slice a3 m3 c3) (.slice a4 m4 c4) W (VH.out.kept kk));have Uu:=lH (fun W=>jbH n (.slice a1 m1 c1) (.slice a2 m2 c2) (.slice a3 m3 c3) (.slice a4 m4 c4) W);unfold jx at VE Uu;obtain⟨ck,hck⟩:=eX (zC n)
        have VG:=lH hck;rw[hck] at VE;have hkk:(k:Int)<(len:Int):=by omega
        clear hrest hK hat hd hck;by_cases z1:ck=0
        · subst z1;by_cases h0:k=0
          · have hd0:decide (0<k)=false:=by subst h0;decide
            have HP:=lH (jbP (l:=l) h0 n.name);clear h0;go_wp2_with fail
            refine(VE.out _ (ja _ _)).mono ?_;rintro e w1 ⟨rfl,kk⟩;have KW:=lH (Kept.trans (ja _ _) kk);have Vd:=lH (fun W k=>jc wr (.string n.name) [.string n.owner,.int .i64 n.prio,.slice a1 m1 c1,.slice a2 m2 c2,.slice a3 m3 c3,.slice a4 m4 c4,.string n.key,.int .i64 n.most,.string n.node,.bool n.hold] 44 W (Kept.trans kk k));have y0:=(Vd.out w1 (Kept.refl _)).at_ 0 _ rfl;have y1:=(Vd.out w1 (Kept.refl _)).at_ 1 _ rfl;have y2:=(Vd.out w1 (Kept.refl _)).at_ 2 _ rfl;have y3:=(Vd.out w1 (Kept.refl _)).at_ 3 _ rfl;have y4:=(Vd.out w1 (Kept.refl _)).at_ 4 _ rfl;have y5:=(Vd.out w1 (Kept.refl _)).at_ 5 _ rfl;have y6:=(Vd.out w1 (Kept.refl _)).at_ 6 _ rfl;have y7:=(Vd.out w1 (Kept.refl _)).at_ 7 _ rfl;have y8:=(Vd.out w1 (Kept.refl _)).at_ 8 _ rfl;have y9:=(Vd.out w1 (Kept.refl _)).at_ 9 _ rfl;have y10:=(Vd.out w1 (Kept.refl _)).at_ 10 _ rfl;clear kk;go_wp2;go_quiet (fail)
            go_wp2;go_roundw
            case rel=>exact⟨k+1,by omega,by go_num,(show jX (ZB l (k+1)) (l.drop (k+1))=jX none l by rw[←HT.out,HD.out,ZQ VG.out HP.out,VD.out]),HK.out.trans (KW.out.trans (Kept.drewN _ _))⟩
            case measure=>simp[intOf];omega
          · have hd0:decide (0<k)=true:=by simp;omega
            obtain⟨q,hqk⟩:∃q,k=q+1:=⟨k-1,by omega⟩
            have g1:(k:Int)-1=(q:Int):=by omega
            have gw:IntKind.i64.wrap (q:Int)=(q:Int):=by rw[IntKind.wrap_i64];omega
            have g2:(q:Int)<(len:Int):=by omega
            obtain⟨n9,b1,h1,d1,b2,h2,d2,b3,h3,d3,b4,h4,d4,hn9,-,hb9,q0,q1,q2,q3,q4,q5,q6,q7,q8,q9,q10,-⟩:=(HR.out.kept HK.out).at_ (show q<len by omega);have RJ:=lH hqk;have hqk1:k-1=q:=by omega
            have HP:=lH (jbY (l:=l) h0 (show l[k-1]?=some n9 by rw[hqk1];exact hn9) n.name);clear hqk hqk1;have Vv:=lH (fun W=>jbH n9 (.slice b1 h1 d1) (.slice b2 h2 d2) (.slice b3 h3 d3) (.slice b4 h4 d4) W);unfold jx at Vv;clear h0 hn9;by_cases n3:leS n.name n9.name=true
            · have n3':(Op.bytesLess n.name.toList n9.name.toList||n.name.toList==n9.name.toList)=true:=n3;have N3:=lH n3;clear n3;go_wp2_with fail
              refine(VE.out _ (ja _ _)).mono ?_;rintro e w1 ⟨rfl,kk⟩;have KW:=lH (Kept.trans (ja _ _) kk);have Vd:=lH (fun W k=>jc wr (.string n.name) [.string n.owner,.int .i64 n.prio,.slice a1 m1 c1,.slice a2 m2 c2,.slice a3 m3 c3,.slice a4 m4 c4,.string n.key,.int .i64 n.most,.string n.node,.bool n.hold] 44 W (Kept.trans kk k));have y0:=(Vd.out w1 (Kept.refl _)).at_ 0 _ rfl;have y1:=(Vd.out w1 (Kept.refl _)).at_ 1 _ rfl;have y2:=(Vd.out w1 (Kept.refl _)).at_ 2 _ rfl;have y3:=(Vd.out w1 (Kept.refl _)).at_ 3 _ rfl;have y4:=(Vd.out w1 (Kept.refl _)).at_ 4 _ rfl;have y5:=(Vd.out w1 (Kept.refl _)).at_ 5 _ rfl;have y6:=(Vd.out w1 (Kept.refl _)).at_ 6 _ rfl;have y7:=(Vd.out w1 (Kept.refl _)).at_ 7 _ rfl;have y8:=(Vd.out w1 (Kept.refl _)).at_ 8 _ rfl;have y9:=(Vd.out w1 (Kept.refl _)).at_ 9 _ rfl;have y10:=(Vd.out w1 (Kept.refl _)).at_ 10 _ rfl;have HO:=lH (show ∀W,Kept w1 W→(W.cell? ⟨wr.heap.size,0,none⟩=some (.string n.name)∧W.cell? ⟨wr.heap.size,1,none⟩=some (.string n.owner)∧W.cell? ⟨wr.heap.size,2,none⟩=some (.int .i64 n.prio)∧W.cell? ⟨wr.heap.size,3,none⟩=some (.slice a1 m1 c1)∧W.cell? ⟨wr.heap.size,4,none⟩=some (.slice a2 m2 c2)∧W.cell? ⟨wr.heap.size,5,none⟩=some (.slice a3 m3 c3)∧W.cell? ⟨wr.heap.size,6,none⟩=some (.slice a4 m4 c4)∧W.cell? ⟨wr.heap.size,7,none⟩=some (.string n.key)∧W.cell? ⟨wr.heap.size,8,none⟩=some (.int .i64 n.most)∧W.cell? ⟨wr.heap.size,9,none⟩=some (.string n.node)∧W.cell? ⟨wr.heap.size,10,none⟩=some (.bool n.hold))∧(W.cell? ⟨b,off+q*11,none⟩=some (.string n9.name)∧W.cell? ⟨b,off+q*11+1,none⟩=some (.string n9.owner)∧W.cell? ⟨b,off+q*11+2,none⟩=some (.int .i64 n9.prio)∧W.cell? ⟨b,off+q*11+3,none⟩=some (.slice b1 h1 d1)∧W.cell? ⟨b,off+q*11+4,none⟩=some (.slice b2 h2 d2)∧W.cell? ⟨b,off+q*11+5,none⟩=some (.slice b3 h3 d3)∧W.cell? ⟨b,off+q*11+6,none⟩=some (.slice b4 h4 d4)∧W.cell? ⟨b,off+q*11+7,none⟩=some (.string n9.key)∧W.cell? ⟨b,off+q*11+8,none⟩=some (.int .i64 n9.most)∧W.cell? ⟨b,off+q*11+9,none⟩=some (.string n9.node)∧W.cell? ⟨b,off+q*11+10,none⟩=some (.bool n9.hold)) from fun W k=>⟨⟨(Vd.out W k).at_ 0 _ rfl,(Vd.out W k).at_ 1 _ rfl,(Vd.out W k).at_ 2 _ rfl,(Vd.out W k).at_ 3 _ rfl,(Vd.out W k).at_ 4 _ rfl,(Vd.out W k).at_ 5 _ rfl,(Vd.out W k).at_ 6 _ rfl,(Vd.out W k).at_ 7 _ rfl,(Vd.out W k).at_ 8 _ rfl,(Vd.out W k).at_ 9 _ rfl,(Vd.out W k).at_ 10 _ rfl⟩,⟨cell_later (KW.out.trans k) q0,cell_later (KW.out.trans k) q1,cell_later (KW.out.trans k) q2,cell_later (KW.out.trans k) q3,cell_later (KW.out.trans k) q4,cell_later (KW.out.trans k) q5,cell_later (KW.out.trans k) q6,cell_later (KW.out.trans k) q7,cell_later (KW.out.trans k) q8,cell_later (KW.out.trans k) q9,cell_later (KW.out.trans k) q10⟩⟩);clear kk q0 q1 q2 q3 q4 q5 q6 q7 q8 q9 q10;go_wp2
              go_region_held3 (fun W=>(W.cell? ⟨wr.heap.size,0,none⟩=some (.string n.name)∧W.cell? ⟨wr.heap.size,1,none⟩=some (.string n.owner)∧W.cell? ⟨wr.heap.size,2,none⟩=some (.int .i64 n.prio)∧W.cell? ⟨wr.heap.size,3,none⟩=some (.slice a1 m1 c1)∧W.cell? ⟨wr.heap.size,4,none⟩=some (.slice a2 m2 c2)∧W.cell? ⟨wr.heap.size,5,none⟩=some (.slice a3 m3 c3)∧W.cell? ⟨wr.heap.size,6,none⟩=some (.slice a4 m4 c4)∧W.cell? ⟨wr.heap.size,7,none⟩=some (.string n.key)∧W.cell? ⟨wr.heap.size,8,none⟩=some (.int .i64 n.most)∧W.cell? ⟨wr.heap.size,9,none⟩=some (.string n.node)∧W.cell? ⟨wr.heap.size,10,none⟩=some (.bool n.hold))∧(W.cell? ⟨b,off+q*11,none⟩=some (.string n9.name)∧W.cell? ⟨b,off+q*11+1,none⟩=some (.string n9.owner)∧W.cell? ⟨b,off+q*11+2,none⟩=some (.int .i64 n9.prio)∧W.cell? ⟨b,off+q*11+3,none⟩=some (.slice b1 h1 d1)∧W.cell? ⟨b,off+q*11+4,none⟩=some (.slice b2 h2 d2)∧W.cell? ⟨b,off+q*11+5,none⟩=some (.slice b3 h3 d3)∧W.cell? ⟨b,off+q*11+6,none⟩=some (.slice b4 h4 d4)∧W.cell? ⟨b,off+q*11+7,none⟩=some (.string n9.key)∧W.cell? ⟨b,off+q*11+8,none⟩=some (.int .i64 n9.most)∧W.cell? ⟨b,off+q*11+9,none⟩=some (.string n9.node)∧W.cell? ⟨b,off+q*11+10,none⟩=some (.bool n9.hold)))
               (first | exact HO.out _ (Kept.drew _) | exact HO.out _ J1.out | exact HO.out _ J2.out)
               (first | (go_at_call 154;refine(Uu.out _).mono ?_;rintro e1 w2 ⟨rfl,k1⟩;have J1:=lH ((Kept.drew _).trans k1);clear k1)
                      | (go_at_call 154;refine(Vv.out _).mono ?_;rintro e2 w3 ⟨rfl,k1⟩;have J2:=lH (J1.out.trans k1);clear k1))
              go_wp2;go_ret;exact⟨jb (show (13:Int)=jD l by rw[HS.out,HD.out,Xy VG.out (HP.out.trans N3.out)]),HK.out.trans (KW.out.trans J2.out)⟩
            · have n3:leS n.name n9.name=false:=by simpa using n3
              have n3':(Op.bytesLess n.name.toList n9.name.toList||n.name.toList==n9.name.toList)=false:=n3;have N3:=lH n3;clear n3;go_wp2_with fail
              refine(VE.out _ (ja _ _)).mono ?_;rintro e w1 ⟨rfl,kk⟩;have KW:=lH (Kept.trans (ja _ _) kk);have Vd:=lH (fun W k=>jc wr (.string n.name) [.string n.owner,.int .i64 n.prio,.slice a1 m1 c1,.slice a2 m2 c2,.slice a3 m3 c3,.slice a4 m4 c4,.string n.key,.int .i64 n.most,.string n.node,.bool n.hold] 44 W (Kept.trans kk k));have y0:=(Vd.out w1 (Kept.refl _)).at_ 0 _ rfl;have y1:=(Vd.out w1 (Kept.refl _)).at_ 1 _ rfl;have y2:=(Vd.out w1 (Kept.refl _)).at_ 2 _ rfl;have y3:=(Vd.out w1 (Kept.refl _)).at_ 3 _ rfl;have y4:=(Vd.out w1 (Kept.refl _)).at_ 4 _ rfl;have y5:=(Vd.out w1 (Kept.refl _)).at_ 5 _ rfl;have y6:=(Vd.out w1 (Kept.refl _)).at_ 6 _ rfl;have y7:=(Vd.out w1 (Kept.refl _)).at_ 7 _ rfl;have y8:=(Vd.out w1 (Kept.refl _)).at_ 8 _ rfl;have y9:=(Vd.out w1 (Kept.refl _)).at_ 9 _ rfl;have y10:=(Vd.out w1 (Kept.refl _)).at_ 10 _ rfl;have HO:=lH (show ∀W,Kept w1 W→(W.cell? ⟨wr.heap.size,0,none⟩=some (.string n.name)∧W.cell? ⟨wr.heap.size,1,none⟩=some (.string n.owner)∧W.cell? ⟨wr.heap.size,2,none⟩=some (.int .i64 n.prio)∧W.cell? ⟨wr.heap.size,3,none⟩=some (.slice a1 m1 c1)∧W.cell? ⟨wr.heap.size,4,none⟩=some (.slice a2 m2 c2)∧W.cell? ⟨wr.heap.size,5,none⟩=some (.slice a3 m3 c3)∧W.cell? ⟨wr.heap.size,6,none⟩=some (.slice a4 m4 c4)∧W.cell? ⟨wr.heap.size,7,none⟩=some (.string n.key)∧W.cell? ⟨wr.heap.size,8,none⟩=some (.int .i64 n.most)∧W.cell? ⟨wr.heap.size,9,none⟩=some (.string n.node)∧W.cell? ⟨wr.heap.size,10,none⟩=some (.bool n.hold))∧(W.cell? ⟨b,off+q*11,none⟩=some (.string n9.name)∧W.cell? ⟨b,off+q*11+1,none⟩=some (.string n9.owner)∧W.cell? ⟨b,off+q*11+2,none⟩=some (.int .i64 n9.prio)∧W.cell? ⟨b,off+q*11+3,none⟩=some (.slice b1 h1 d1)∧W.cell? ⟨b,off+q*11+4,none⟩=some (.slice b2 h2 d2)∧W.cell? ⟨b,off+q*11+5,none⟩=some (.slice b3 h3 d3)∧W.cell? ⟨b,off+q*11+6,none⟩=some (.slice b4 h4 d4)∧W.cell? ⟨b,off+q*11+7,none⟩=some (.string n9.key)∧W.cell? ⟨b,off+q*11+8,none⟩=some (.int .i64 n9.most)∧W.cell? ⟨b,off+q*11+9,none⟩=some (.string n9.node)∧W.cell? ⟨b,off+q*11+10,none⟩=some (.bool n9.hold)) from fun W k=>⟨⟨(Vd.out W k).at_ 0 _ rfl,(Vd.out W k).at_ 1 _ rfl,(Vd.out W k).at_ 2 _ rfl,(Vd.out W k).at_ 3 _ rfl,(Vd.out W k).at_ 4 _ rfl,(Vd.out W k).at_ 5 _ rfl,(Vd.out W k).at_ 6 _ rfl,(Vd.out W k).at_ 7 _ rfl,(Vd.out W k).at_ 8 _ rfl,(Vd.out W k).at_ 9 _ rfl,(Vd.out W k).at_ 10 _ rfl⟩,⟨cell_later (KW.out.trans k) q0,cell_later (KW.out.trans k) q1,cell_later (KW.out.trans k) q2,cell_later (KW.out.trans k) q3,cell_later (KW.out.trans k) q4,cell_later (KW.out.trans k) q5,cell_later (KW.out.trans k) q6,cell_later (KW.out.trans k) q7,cell_later (KW.out.trans k) q8,cell_later (KW.out.trans k) q9,cell_later (KW.out.trans k) q10⟩⟩);clear kk q0 q1 q2 q3 q4 q5 q6 q7 q8 q9 q10;go_wp2
              go_region_held3 (fun W=>(W.cell? ⟨wr.heap.size,0,none⟩=some (.string n.name)∧W.cell? ⟨wr.heap.size,1,none⟩=some (.string n.owner)∧W.cell? ⟨wr.heap.size,2,none⟩=some (.int .i64 n.prio)∧W.cell? ⟨wr.heap.size,3,none⟩=some (.slice a1 m1 c1)∧W.cell? ⟨wr.heap.size,4,none⟩=some (.slice a2 m2 c2)∧W.cell? ⟨wr.heap.size,5,none⟩=some (.slice a3 m3 c3)∧W.cell? ⟨wr.heap.size,6,none⟩=some (.slice a4 m4 c4)∧W.cell? ⟨wr.heap.size,7,none⟩=some (.string n.key)∧W.cell? ⟨wr.heap.size,8,none⟩=some (.int .i64 n.most)∧W.cell? ⟨wr.heap.size,9,none⟩=some (.string n.node)∧W.cell? ⟨wr.heap.size,10,none⟩=some (.bool n.hold))∧(W.cell? ⟨b,off+q*11,none⟩=some (.string n9.name)∧W.cell? ⟨b,off+q*11+1,none⟩=some (.string n9.owner)∧W.cell? ⟨b,off+q*11+2,none⟩=some (.int .i64 n9.prio)∧W.cell? ⟨b,off+q*11+3,none⟩=some (.slice b1 h1 d1)∧W.cell? ⟨b,off+q*11+4,none⟩=some (.slice b2 h2 d2)∧W.cell? ⟨b,off+q*11+5,none⟩=some (.slice b3 h3 d3)∧W.cell? ⟨b,off+q*11+6,none⟩=some (.slice b4 h4 d4)∧W.cell? ⟨b,off+q*11+7,none⟩=some (.string n9.key)∧W.cell? ⟨b,off+q*11+8,none⟩=some (.int .i64 n9.most)∧W.cell? ⟨b,off+q*11+9,none⟩=some (.string n9.node)∧W.cell? ⟨b,off+q*11+10,none⟩=some (.bool n9.hold)))
               (first | exact HO.out _ (Kept.drew _) | exact HO.out _ J1.out | exact HO.out _ J2.out)
               (first | (go_at_call 154;refine(Uu.out _).mono ?_;rintro e1 w2 ⟨rfl,k1⟩;have J1:=lH ((Kept.drew _).trans k1);clear k1)
                      | (go_at_call 154;refine(Vv.out _).mono ?_;rintro e2 w3 ⟨rfl,k1⟩;have J2:=lH (J1.out.trans k1);clear k1))
              go_wp2;go_roundw
              case rel=>exact⟨k+1,by omega,by go_num,(show jX (ZB l (k+1)) (l.drop (k+1))=jX none l by rw[←HT.out,HD.out,ZQ VG.out (HP.out.trans N3.out),VD.out]),HK.out.trans (KW.out.trans J2.out)⟩
              case measure=>simp[intOf];omega
        · have z1':(ck != 0)=true:=by simpa using z1
          have HB:=lH (show jD l=ck by rw[HS.out,HD.out,qO (by rw[VG.out];exact z1),VG.out]);clear z1;go_wp2_with fail
          refine(VE.out _ (ja _ _)).mono ?_;rintro e w1 ⟨rfl,kk⟩;have KW:=lH (Kept.trans (ja _ _) kk);have Vd:=lH (fun W k=>jc wr (.string n.name) [.string n.owner,.int .i64 n.prio,.slice a1 m1 c1,.slice a2 m2 c2,.slice a3 m3 c3,.slice a4 m4 c4,.string n.key,.int .i64 n.most,.string n.node,.bool n.hold] 44 W (Kept.trans kk k));have y0:=(Vd.out w1 (Kept.refl _)).at_ 0 _ rfl;have y1:=(Vd.out w1 (Kept.refl _)).at_ 1 _ rfl;have y2:=(Vd.out w1 (Kept.refl _)).at_ 2 _ rfl;have y3:=(Vd.out w1 (Kept.refl _)).at_ 3 _ rfl;have y4:=(Vd.out w1 (Kept.refl _)).at_ 4 _ rfl;have y5:=(Vd.out w1 (Kept.refl _)).at_ 5 _ rfl;have y6:=(Vd.out w1 (Kept.refl _)).at_ 6 _ rfl;have y7:=(Vd.out w1 (Kept.refl _)).at_ 7 _ rfl;have y8:=(Vd.out w1 (Kept.refl _)).at_ 8 _ rfl;have y9:=(Vd.out w1 (Kept.refl _)).at_ 9 _ rfl;have y10:=(Vd.out w1 (Kept.refl _)).at_ 10 _ rfl;clear kk;go_wp2;go_ret;exact⟨jb HB.out.symm,HK.out.trans KW.out⟩
      · have HE:=lH (show jD l=0 by rw[HS.out,List.drop_of_length_le (by rw[HL.out];omega)];rfl);clear hrest hK;go_wp2;go_ret;exact⟨jb HE.out.symm,HK.out⟩
theorem jex (a:Option Addr) (len cap:Nat) (l:List Pd) (w:World) (hr:jy w a len l) :
 Calls Tryz.prog 91 #[.slice a len cap] w (Say (.int .i64 (jD l)) w):=by
 have H:=lH (jdu a len cap l w hr);clear hr;go_enter Tryz.func91,Tryz.ntmps91;go_wp2_with fail
 refine H.out.mono ?_;rintro e w1 ⟨rfl,k⟩;have K:=lH k;clear k;go_wp2;go_ret;exact⟨rfl,K.out⟩
def jY:Option ByteArray→List Bd→Int
 | _,[]=>0
 | prev,n::t=>if Jq n≠0 then Jq n else if Vec.jK prev n.name=true then 13 else jY (some n.name) t
def jH (l:List Bd):Int:=if 8<l.length then 4 else jY none l
def ZD (l:List Bd) (k:Nat):Option ByteArray:=if k=0 then none else (l[k-1]?).map Bd.name
theorem jbG {l:List Bd} {k:Nat} (h:k=0) (s:ByteArray):Vec.jK (ZD l k) s=false:=by unfold ZD;rw[if_pos h];rfl
theorem jb0 {l:List Bd} {k:Nat} {n:Bd} (h:¬k=0) (hn:l[k-1]?=some n) (s:ByteArray):Vec.jK (ZD l k) s=leS s n.name:=by unfold ZD;rw[if_neg h,hn];rfl
theorem jbV {l:List Bd} {k:Nat} {n:Bd} (hn:l[k]?=some n):ZD l (k+1)=some n.name:=by unfold ZD;rw[if_neg (by omega),Nat.add_sub_cancel,hn];rfl
theorem jdT {p:Option ByteArray} {n:Bd} {t:List Bd} (h:Jq n≠0):jY p (n::t)=Jq n:=by rw[jY,if_pos h]
theorem jbT {p:Option ByteArray} {n:Bd} {t:List Bd} (h:Jq n=0) (b:Vec.jK p n.name=true):jY p (n::t)=13:=by rw[jY,if_neg (by rw[h];decide),if_pos b]
theorem Xw {p:Option ByteArray} {n:Bd} {t:List Bd} (h:Jq n=0) (b:Vec.jK p n.name=false):jY p (n::t)=jY (some n.name) t:=by rw[jY,if_neg (by rw[h];decide),if_neg (by rw[b];decide)]
theorem jbI (n:Bd) (v1:Value) (w:World):Calls Tryz.prog 157 #[JY n v1] w fun e w'=>e=.returned (.string n.name)∧Kept w w':=by
 unfold JY;go_enter Tryz.func157,Tryz.ntmps157;go_wp2;go_ret;exact⟨rfl,ja _ _⟩
theorem jdj (a:Option Addr) (len cap:Nat) (l:List Bd) (w:World) (hr:j9 w a len l) :
 Calls Tryz.prog 156 #[.slice a len cap,.int .i64 8,.func (.func 157) #[] #[],.func (.func 158) #[] #[]] w (Say (.int .i64 (jH l)) w):=by
 have hl:=hr.1;have hm:=hr.2.1;unfold maxLen at hm;by_cases h32:8<len
 · have HV:=lH (show jH l=4 by unfold jH;rw[if_pos (by omega)]);clear hr hl;go_enter Tryz.func156,Tryz.ntmps156;go_wp2;go_ret;exact⟨jb HV.out.symm,Kept.refl _⟩
 · have HV:=lH (show jH l=jY none l by unfold jH;rw[if_neg (by omega)]);have h32':len≤8:=by omega
   by_cases h0:len=0
   · subst h0;have HE:=lH (show jH l=0 by rw[HV.out,List.eq_nil_of_length_eq_zero hl];rfl);clear hr hl h32;go_enter Tryz.func156,Tryz.ntmps156;go_wp2;refine wp_loop_rounds 1 ?_;rw[rounds_succ];go_wp2;go_ret;exact⟨jb HE.out.symm,Kept.refl _⟩
   · obtain⟨b,off,rfl⟩:=hr.form.resolve_left h0;have HR:=lH hr;have HL:=lH hl;clear hr hl h0 h32;go_enter Tryz.func156,Tryz.ntmps156;go_wp2;go_loopw [18] (fun i wr=>∃k:Nat,k≤len∧i=.int .i64 k∧jY (ZD l k) (l.drop k)=jY none l∧Kept w wr) (fun i _=>len-(intOf i).toNat)
     case atStart=>exact⟨0,Nat.zero_le _,rfl,rfl,Kept.refl _⟩
     case round =>
      obtain⟨k,hk,rfl,hrest,hK⟩:=hrel;obtain⟨HS,HT,HK⟩:=lH3 (HV.out.trans hrest.symm) hrest hK;by_cases hlt:k<len
      · obtain⟨n,a1,m1,c1,hn,hd,hb,p0,p1,p2,hat⟩:=(HR.out.kept hK).at_ hlt;obtain⟨VH,HD,VD⟩:=lH3 hat hd (jbV hn);have VE:=lH (fun W (kk:Kept wr W)=>jiA n (.slice a1 m1 c1) W (VH.out.kept kk));have Uu:=lH (fun W=>jbI n (.slice a1 m1 c1) W);unfold JY at VE Uu;obtain⟨ck,hck⟩:=eX (Jq n)
        have VG:=lH hck;rw[hck] at VE;have hkk:(k:Int)<(len:Int):=by omega
        clear hrest hK hat hd hck;by_cases z1:ck=0
        · subst z1;by_cases h0:k=0
          · have hd0:decide (0<k)=false:=by subst h0;decide
            have HP:=lH (jbG (l:=l) h0 n.name);clear h0;go_wp2_with fail
            refine(VE.out _ (ja _ _)).mono ?_;rintro e w1 ⟨rfl,kk⟩;have KW:=lH (Kept.trans (ja _ _) kk);have Vd:=lH (fun W k=>jc wr (.string n.name) [.slice a1 m1 c1,.int .i64 n.floor] 92 W (Kept.trans kk k));have y0:=(Vd.out w1 (Kept.refl _)).at_ 0 _ rfl;have y1:=(Vd.out w1 (Kept.refl _)).at_ 1 _ rfl;have y2:=(Vd.out w1 (Kept.refl _)).at_ 2 _ rfl;clear kk;go_wp2;go_quiet (fail)
            go_wp2;go_roundw
            case rel=>exact⟨k+1,by omega,by go_num,(show jY (ZD l (k+1)) (l.drop (k+1))=jY none l by rw[←HT.out,HD.out,Xw VG.out HP.out,VD.out]),HK.out.trans (KW.out.trans (Kept.drewN _ _))⟩
            case measure=>simp[intOf];omega
          · have hd0:decide (0<k)=true:=by simp;omega
            obtain⟨q,hqk⟩:∃q,k=q+1:=⟨k-1,by omega⟩
            have g1:(k:Int)-1=(q:Int):=by omega
            have gw:IntKind.i64.wrap (q:Int)=(q:Int):=by rw[IntKind.wrap_i64];omega
            have g2:(q:Int)<(len:Int):=by omega
            obtain⟨n9,b1,h1,d1,hn9,-,hb9,q0,q1,q2,-⟩:=(HR.out.kept HK.out).at_ (show q<len by omega);have RJ:=lH hqk;have hqk1:k-1=q:=by omega
            have HP:=lH (jb0 (l:=l) h0 (show l[k-1]?=some n9 by rw[hqk1];exact hn9) n.name);clear hqk hqk1;have Vv:=lH (fun W=>jbI n9 (.slice b1 h1 d1) W);unfold JY at Vv;clear h0 hn9;by_cases n3:leS n.name n9.name=true
            · have n3':(Op.bytesLess n.name.toList n9.name.toList||n.name.toList==n9.name.toList)=true:=n3;have N3:=lH n3;clear n3;go_wp2_with fail
              refine(VE.out _ (ja _ _)).mono ?_;rintro e w1 ⟨rfl,kk⟩;have KW:=lH (Kept.trans (ja _ _) kk);have Vd:=lH (fun W k=>jc wr (.string n.name) [.slice a1 m1 c1,.int .i64 n.floor] 92 W (Kept.trans kk k));have y0:=(Vd.out w1 (Kept.refl _)).at_ 0 _ rfl;have y1:=(Vd.out w1 (Kept.refl _)).at_ 1 _ rfl;have y2:=(Vd.out w1 (Kept.refl _)).at_ 2 _ rfl;have HO:=lH (show ∀W,Kept w1 W→(W.cell? ⟨wr.heap.size,0,none⟩=some (.string n.name)∧W.cell? ⟨wr.heap.size,1,none⟩=some (.slice a1 m1 c1)∧W.cell? ⟨wr.heap.size,2,none⟩=some (.int .i64 n.floor))∧(W.cell? ⟨b,off+q*3,none⟩=some (.string n9.name)∧W.cell? ⟨b,off+q*3+1,none⟩=some (.slice b1 h1 d1)∧W.cell? ⟨b,off+q*3+2,none⟩=some (.int .i64 n9.floor)) from fun W k=>⟨⟨(Vd.out W k).at_ 0 _ rfl,(Vd.out W k).at_ 1 _ rfl,(Vd.out W k).at_ 2 _ rfl⟩,⟨cell_later (KW.out.trans k) q0,cell_later (KW.out.trans k) q1,cell_later (KW.out.trans k) q2⟩⟩);clear kk q0 q1 q2;go_wp2
              go_region_held3 (fun W=>(W.cell? ⟨wr.heap.size,0,none⟩=some (.string n.name)∧W.cell? ⟨wr.heap.size,1,none⟩=some (.slice a1 m1 c1)∧W.cell? ⟨wr.heap.size,2,none⟩=some (.int .i64 n.floor))∧(W.cell? ⟨b,off+q*3,none⟩=some (.string n9.name)∧W.cell? ⟨b,off+q*3+1,none⟩=some (.slice b1 h1 d1)∧W.cell? ⟨b,off+q*3+2,none⟩=some (.int .i64 n9.floor)))
               (first | exact HO.out _ (Kept.drew _) | exact HO.out _ J1.out | exact HO.out _ J2.out)
               (first | (go_at_call 157;refine(Uu.out _).mono ?_;rintro e1 w2 ⟨rfl,k1⟩;have J1:=lH ((Kept.drew _).trans k1);clear k1)
                      | (go_at_call 157;refine(Vv.out _).mono ?_;rintro e2 w3 ⟨rfl,k1⟩;have J2:=lH (J1.out.trans k1);clear k1))
              go_wp2;go_ret;exact⟨jb (show (13:Int)=jH l by rw[HS.out,HD.out,jbT VG.out (HP.out.trans N3.out)]),HK.out.trans (KW.out.trans J2.out)⟩
            · have n3:leS n.name n9.name=false:=by simpa using n3
              have n3':(Op.bytesLess n.name.toList n9.name.toList||n.name.toList==n9.name.toList)=false:=n3;have N3:=lH n3;clear n3;go_wp2_with fail
              refine(VE.out _ (ja _ _)).mono ?_;rintro e w1 ⟨rfl,kk⟩;have KW:=lH (Kept.trans (ja _ _) kk);have Vd:=lH (fun W k=>jc wr (.string n.name) [.slice a1 m1 c1,.int .i64 n.floor] 92 W (Kept.trans kk k));have y0:=(Vd.out w1 (Kept.refl _)).at_ 0 _ rfl;have y1:=(Vd.out w1 (Kept.refl _)).at_ 1 _ rfl;have y2:=(Vd.out w1 (Kept.refl _)).at_ 2 _ rfl;have HO:=lH (show ∀W,Kept w1 W→(W.cell? ⟨wr.heap.size,0,none⟩=some (.string n.name)∧W.cell? ⟨wr.heap.size,1,none⟩=some (.slice a1 m1 c1)∧W.cell? ⟨wr.heap.size,2,none⟩=some (.int .i64 n.floor))∧(W.cell? ⟨b,off+q*3,none⟩=some (.string n9.name)∧W.cell? ⟨b,off+q*3+1,none⟩=some (.slice b1 h1 d1)∧W.cell? ⟨b,off+q*3+2,none⟩=some (.int .i64 n9.floor)) from fun W k=>⟨⟨(Vd.out W k).at_ 0 _ rfl,(Vd.out W k).at_ 1 _ rfl,(Vd.out W k).at_ 2 _ rfl⟩,⟨cell_later (KW.out.trans k) q0,cell_later (KW.out.trans k) q1,cell_later (KW.out.trans k) q2⟩⟩);clear kk q0 q1 q2;go_wp2
              go_region_held3 (fun W=>(W.cell? ⟨wr.heap.size,0,none⟩=some (.string n.name)∧W.cell? ⟨wr.heap.size,1,none⟩=some (.slice a1 m1 c1)∧W.cell? ⟨wr.heap.size,2,none⟩=some (.int .i64 n.floor))∧(W.cell? ⟨b,off+q*3,none⟩=some (.string n9.name)∧W.cell? ⟨b,off+q*3+1,none⟩=some (.slice b1 h1 d1)∧W.cell? ⟨b,off+q*3+2,none⟩=some (.int .i64 n9.floor)))
               (first | exact HO.out _ (Kept.drew _) | exact HO.out _ J1.out | exact HO.out _ J2.out)
               (first | (go_at_call 157;refine(Uu.out _).mono ?_;rintro e1 w2 ⟨rfl,k1⟩;have J1:=lH ((Kept.drew _).trans k1);clear k1)
                      | (go_at_call 157;refine(Vv.out _).mono ?_;rintro e2 w3 ⟨rfl,k1⟩;have J2:=lH (J1.out.trans k1);clear k1))
              go_wp2;go_roundw
              case rel=>exact⟨k+1,by omega,by go_num,(show jY (ZD l (k+1)) (l.drop (k+1))=jY none l by rw[←HT.out,HD.out,Xw VG.out (HP.out.trans N3.out),VD.out]),HK.out.trans (KW.out.trans J2.out)⟩
              case measure=>simp[intOf];omega
        · have z1':(ck != 0)=true:=by simpa using z1
          have HB:=lH (show jH l=ck by rw[HS.out,HD.out,jdT (by rw[VG.out];exact z1),VG.out]);clear z1;go_wp2_with fail
          refine(VE.out _ (ja _ _)).mono ?_;rintro e w1 ⟨rfl,kk⟩;have KW:=lH (Kept.trans (ja _ _) kk);have Vd:=lH (fun W k=>jc wr (.string n.name) [.slice a1 m1 c1,.int .i64 n.floor] 92 W (Kept.trans kk k));have y0:=(Vd.out w1 (Kept.refl _)).at_ 0 _ rfl;have y1:=(Vd.out w1 (Kept.refl _)).at_ 1 _ rfl;have y2:=(Vd.out w1 (Kept.refl _)).at_ 2 _ rfl;clear kk;go_wp2;go_ret;exact⟨jb HB.out.symm,HK.out.trans KW.out⟩
      · have HE:=lH (show jH l=0 by rw[HS.out,List.drop_of_length_le (by rw[HL.out];omega)];rfl);clear hrest hK;go_wp2;go_ret;exact⟨jb HE.out.symm,HK.out⟩
theorem jez (a:Option Addr) (len cap:Nat) (l:List Bd) (w:World) (hr:j9 w a len l) :
 Calls Tryz.prog 92 #[.slice a len cap] w (Say (.int .i64 (jH l)) w):=by
 have H:=lH (jdj a len cap l w hr);clear hr;go_enter Tryz.func92,Tryz.ntmps92;go_wp2_with fail
 refine H.out.mono ?_;rintro e w1 ⟨rfl,k⟩;have K:=lH k;clear k;go_wp2;go_ret;exact⟨rfl,K.out⟩
structure Clu where
 nodes:List Nod
 pods:List Pd
 buds:List Bd
abbrev Jg (v1 v2 v3:Value):Value:=.agg #[v1,v2,v3]
structure jdc (w:World) (v1 v2 v3:Value) (s:Clu):Prop where
 nodes:Jz w v1 s.nodes
 pods:Jo w v2 s.pods
 buds:Zf w v3 s.buds
theorem jdc.kept {w w':World} {v1 v2 v3:Value} {s:Clu} (h:jdc w v1 v2 v3 s) (k:Kept w w'):jdc w' v1 v2 v3 s:=⟨h.nodes.kept k,h.pods.kept k,h.buds.kept k⟩
def jC (w:World) (v:Value) (s:Clu):Prop:=∃v1 v2 v3,v=Jg v1 v2 v3∧jdc w v1 v2 v3 s
theorem jC.kept {w w':World} {v:Value} {s:Clu} (h:jC w v s) (k:Kept w w'):jC w' v s:=by
 obtain⟨v1,v2,v3,e,h⟩:=h;exact⟨v1,v2,v3,e,h.kept k⟩
structure jE (s:Clu):Prop where
 nodes:∀n ∈ s.nodes,zP n
 pods:∀n ∈ s.pods,JO n
 buds:∀n ∈ s.buds,n.sel.length≤1000000
 nodesN:s.nodes.length≤100000
 podsN:s.pods.length≤100000
 budsN:s.buds.length≤100000
def jJ (x:ByteArray):List Pd→Vec.V→Int×Vec.V
 | [],v=>(0,v)
 | p::t,v=>if eqS p.node x=true then (if (Vec.jj Vec.jG v p.need).1=0 then jJ x t (Vec.jj Vec.jG v p.need).2 else ((Vec.jj Vec.jG v p.need).1,[])) else jJ x t v
theorem jaT {x:ByteArray} {p:Pd} {t:List Pd} {v:Vec.V} (h:eqS p.node x=false):jJ x (p::t) v=jJ x t v:=by
 rw[jJ,if_neg (by rw[h];decide)]
theorem jch {x:ByteArray} {p:Pd} {t:List Pd} {v m:Vec.V} (h:eqS p.node x=true) (g:Vec.jj Vec.jG v p.need=(0,m)):jJ x (p::t) v=jJ x t m:=by
 rw[jJ,if_pos h,g,if_pos rfl]
theorem jcl {x:ByteArray} {p:Pd} {t:List Pd} {v m:Vec.V} {c:Int} (h:eqS p.node x=true) (g:Vec.jj Vec.jG v p.need=(c,m)) (hc:c≠0):jJ x (p::t) v=(c,[]):=by
 rw[jJ,if_pos h,g,if_neg hc]
theorem jbi {x:ByteArray}:∀{l:List Pd} {v:Vec.V},(jJ x l v).1≠0→(jJ x l v).2=[]
 | [],v,h=>absurd rfl h
 | p::t,v,h=>by
  rw[jJ] at h ⊢;split at h
  · rename_i h1;rw[if_pos h1];split at h
    · rename_i h2;rw[if_pos h2];exact jbi h
    · rename_i h2;rw[if_neg h2]
  · rename_i h1;rw[if_neg h1];exact jbi h
def Js:List Nod→Vec.V→Int×Vec.V
 | [],v=>(0,v)
 | n::t,v=>if (Vec.jj Vec.jG v n.cap).1=0 then Js t (Vec.jj Vec.jG v n.cap).2 else ((Vec.jj Vec.jG v n.cap).1,[])
theorem jgq {n:Nod} {t:List Nod} {v m:Vec.V} (g:Vec.jj Vec.jG v n.cap=(0,m)):Js (n::t) v=Js t m:=by
 rw[Js,g,if_pos rfl]
theorem jfB {n:Nod} {t:List Nod} {v m:Vec.V} {c:Int} (g:Vec.jj Vec.jG v n.cap=(c,m)) (hc:c≠0):Js (n::t) v=(c,[]):=by
 rw[Js,g,if_neg hc]
def JW (s:Clu) (x:ByteArray):Int×Vec.V:=match jl s.nodes x with | none=>(3,[]) | some n=>jJ n.name s.pods []
def ZV (s:Clu) (x:ByteArray):Int×Vec.V:=match jl s.nodes x with | none=>(3,[]) | some n=>if (jJ n.name s.pods []).1=0 then Vec.jj Vec.zo n.cap (jJ n.name s.pods []).2 else ((jJ n.name s.pods []).1,[])
def jmP (s:Clu):Int×Vec.V:=Js s.nodes []
def jA (nodes:List Nod):List Pd→Int
 | []=>0
 | p::t=>if zp p.node=false∧(jl nodes p.node).isSome=false then 3 else jA nodes t
theorem jau {nodes:List Nod} {p:Pd} {t:List Pd} (h:zp p.node=false) (g:(jl nodes p.node).isSome=false):jA nodes (p::t)=3:=by
 rw[jA,if_pos ⟨h,g⟩]
theorem jbD {nodes:List Nod} {p:Pd} {t:List Pd} (h:zp p.node=true):jA nodes (p::t)=jA nodes t:=by
 rw[jA,if_neg (by rw[h];simp)]
theorem jbJ {nodes:List Nod} {p:Pd} {t:List Pd} (g:(jl nodes p.node).isSome=true):jA nodes (p::t)=jA nodes t:=by
 rw[jA,if_neg (by rw[g];simp)]
def jM (pods:List Pd):List Nod→Int
 | []=>0
 | n::t=>if (jJ n.name pods []).1=0 then (if Vec.jB n.cap (jJ n.name pods []).2=true then jM pods t else 7) else (jJ n.name pods []).1
theorem ja3 {pods:List Pd} {n:Nod} {t:List Nod} {c:Int} {u:Vec.V} (h:jJ n.name pods []=(c,u)) (hc:c≠0):jM pods (n::t)=c:=by
 rw[jM,h,if_neg hc]
theorem qR {pods:List Pd} {n:Nod} {t:List Nod} {u:Vec.V} (h:jJ n.name pods []=(0,u)) (hf:Vec.jB n.cap u=false):jM pods (n::t)=7:=by
 rw[jM,h,if_pos rfl,if_neg (by rw[hf];decide)]
theorem XC {pods:List Pd} {n:Nod} {t:List Nod} {u:Vec.V} (h:jJ n.name pods []=(0,u)) (hf:Vec.jB n.cap u=true):jM pods (n::t)=jM pods t:=by
 rw[jM,h,if_pos rfl,if_pos hf]
def zN (s:Clu):Int :=
 if or3 (jI s.nodes) (jD s.pods) (jH s.buds)≠0 then or3 (jI s.nodes) (jD s.pods) (jH s.buds)
 else if jA s.nodes s.pods≠0 then jA s.nodes s.pods
 else if jM s.pods s.nodes≠0 then jM s.pods s.nodes
 else (Js s.nodes []).1
def onP (x:ByteArray) (l:List Pd):List Pd:=if zp x=true then [] else l.filter fun p=>eqS p.node x
def zc (x:ByteArray):List Pd→List Pd
 | []=>[]
 | p::t=>if eqS p.name x=true then t else p::zc x t
def JU (p:Pd):List Pd→List Pd
 | []=>[p]
 | q::t=>if ltS p.name q.name=true then p::q::t else q::JU p t
def Jn (x y:ByteArray):List Pd→List Pd
 | []=>[]
 | p::t=>if eqS p.name x=true then { p with node:=y }::t else p::Jn x y t
def zG (s:Clu) (x:ByteArray):Clu:={ s with pods:=zc x s.pods }
def Jv (s:Clu) (p:Pd):Clu:={ s with pods:=JU p (zc p.name s.pods) }
def zZ (s:Clu) (x y:ByteArray):Clu:={ s with pods:=Jn x y s.pods }
def jF {α:Type} (f:α→α→Bool):List α→List α→Bool
 | [],[]=>true
 | x::s,y::t=>f x y&&jF f s t
 | [],_::_=>false
 | _::_,[]=>false
theorem jnt:Tryz.prog.cellsOf 26=3:=by kernel_rfl
theorem jlM:Tryz.prog.cellsOf 22=1:=by kernel_rfl
theorem jl8:Tryz.prog.cellsOf 23=1:=by kernel_rfl
theorem jlh:Tryz.prog.cellsOf 24=1:=by kernel_rfl
theorem jgB {H:Type} {enc:TypeId×Value→H} {w:World} {base fuel:Nat} {sp:Nat→Bool} {held:Bool} {cs:List Value} {x:DataW H×List MemPlace} (h:DataW.trod enc Tryz.prog w base sp held fuel 26 cs=some x) :
 ∃v1 v2 v3 s,cs=[v1,v2,v3]∧jdc w v1 v2 v3 s:=by
 obtain⟨ys,m,-,-,hlen,hyl,hf⟩:=DataW.trod_struct Tryz.underlying26 h;rw[jnt] at hlen
 match cs,hlen with
 | [c0,c1,c2],_ =>
  have h0:DataW.trod enc Tryz.prog w base sp held m 22 (([c0,c1,c2].drop 0).take (Tryz.prog.cellsOf 22))=ys[0]?:=hf 0 _ rfl;rw[jlM] at h0;obtain⟨y0,e0⟩:∃y,ys[0]?=some y:=⟨_,List.getElem?_eq_getElem (by rw[hyl];decide)⟩
  rw[e0] at h0;have h1:DataW.trod enc Tryz.prog w base sp held m 23 (([c0,c1,c2].drop 1).take (Tryz.prog.cellsOf 23))=ys[1]?:=hf 1 _ rfl;rw[jl8] at h1;obtain⟨y1,e1⟩:∃y,ys[1]?=some y:=⟨_,List.getElem?_eq_getElem (by rw[hyl];decide)⟩
  rw[e1] at h1;have h2:DataW.trod enc Tryz.prog w base sp held m 24 (([c0,c1,c2].drop 2).take (Tryz.prog.cellsOf 24))=ys[2]?:=hf 2 _ rfl;rw[jlh] at h2;obtain⟨y2,e2⟩:∃y,ys[2]?=some y:=⟨_,List.getElem?_eq_getElem (by rw[hyl];decide)⟩
  rw[e2] at h2;simp only[List.drop_zero,List.take_succ_cons,List.take_zero,List.drop_succ_cons] at h0 h1 h2;obtain⟨l0,r0⟩:=jeL h0;obtain⟨l1,r1⟩:=jfJ h1;obtain⟨l2,r2⟩:=je8 h2;exact⟨c0,c1,c2,⟨l0,l1,l2⟩,rfl,⟨r0,r1,r2⟩⟩
theorem jmM {H:Type} {enc:TypeId×Value→H} {W:World} {r:Reach} {b0 base:Nat} {sp:Nat→Bool} {held:Bool} {v:Value} {d:DataW H} {ps:List MemPlace} (hval:Value.okWide Tryz.prog W r b0 26 v) (h:DataW.Trod enc Tryz.prog W base sp held 26 v d ps):∃s,jC W v s:=by
 obtain⟨cs,rfl,hsz⟩:=okWide_struct Tryz.underlying26 hval;obtain⟨fuel,hf⟩:=h;obtain⟨v1,v2,v3,s,ha,hat⟩:=jgB hf;have e:cs.toList=[v1,v2,v3]:=by
  have:(Value.agg cs).cells.toList=[v1,v2,v3]:=ha;simpa [Value.cells] using this
 have:cs=#[v1,v2,v3]:=Array.ext' e;rw[this];exact⟨s,v1,v2,v3,rfl,hat⟩
def Y8 (p q:Pd):Bool:=!zp p.owner&&(eqS q.owner p.owner&&(!q.hold&&!eqS q.name p.name))
def onN (p:Pd) (x:ByteArray):List Pd→Nat
 | []=>0
 | q::t=>(if Y8 p q=true∧q.node=x then 1 else 0)+onN p x t
theorem jcC (p:Pd) (x:ByteArray):∀l:List Pd,onN p x l≤l.length
 | []=>Nat.zero_le _
 | q::t=>by
  have:=jcC p x t;unfold onN;simp only[List.length_cons];split<;>omega
def inD (p:Pd) (pods:List Pd) (d:ByteArray):List Nod→Nat
 | []=>0
 | n::t=>(if Jf n.labels p.key=some d then onN p n.name pods else 0)+inD p pods d t
theorem jgd (p:Pd) (pods:List Pd) (d:ByteArray):∀l:List Nod,inD p pods d l≤l.length*pods.length
 | []=>Nat.zero_le _
 | n::t=>by
  have h1:=jgd p pods d t;have h2:=jcC p n.name pods;unfold inD;simp only[List.length_cons,Nat.add_mul];split<;>omega
def ZW (k d:ByteArray) (l:List Nod):Bool:=l.any fun n=>decide (Jf n.labels k=some d)
theorem jdn (p:Pd) (x:ByteArray):∀(a b:List Pd),onN p x (a++b)=onN p x a+onN p x b
 | [],b=>by simp[onN]
 | q::t,b=>by
  have:=jdn p x t b;simp only[List.cons_append,onN,this];omega
theorem jdH (p:Pd) (pods:List Pd) (d:ByteArray):∀(a b:List Nod),inD p pods d (a++b)=inD p pods d a+inD p pods d b
 | [],b=>by simp[inD]
 | q::t,b=>by
  have:=jdH p pods d t b;simp only[List.cons_append,inD,this];omega
def domV (key name:ByteArray):List Nod→Option ByteArray
 | []=>none
 | n::t=>if eqS n.name name=true then Jf n.labels key else domV key name t
def Xo (p:Pd) (pods:List Pd) (nodes:List Nod) (d:ByteArray):List Nod→Nat→Nat
 | [],m=>m
 | n::t,m=>Xo p pods nodes d t (match Jf n.labels p.key with
  | none=>m
  | some e=>min m (inD p pods e nodes+(if e=d then 1 else 0)))
def Xj (p:Pd) (s:Clu) (d:ByteArray):Int:=((inD p s.pods d s.nodes+1:Nat):Int)-(Xo p s.pods s.nodes d s.nodes (inD p s.pods d s.nodes+1):Int)
def ZO (p:Pd) (s:Clu) (name:ByteArray):Int×Bool :=
 if zp p.key=true then (0,true) else match domV p.key name s.nodes with
  | none=>(0,false)
  | some d=>(Xj p s d,true)
theorem qp (p:Pd) (pods:List Pd) (nodes:List Nod) (d:ByteArray):∀(l:List Nod) (m:Nat),
 Xo p pods nodes d l m≤m∧(∀n ∈ l,∀e,Jf n.labels p.key=some e→Xo p pods nodes d l m≤inD p pods e nodes+(if e=d then 1 else 0)) ∧
 (Xo p pods nodes d l m=m∨∃n ∈ l,∃e,Jf n.labels p.key=some e∧Xo p pods nodes d l m=inD p pods e nodes+(if e=d then 1 else 0))
 | [],m=>⟨Nat.le_refl _,fun n h=>absurd h (by simp),.inl rfl⟩
 | n::t,m=>by
  rw[Xo]
  cases h:Jf n.labels p.key with
  | none =>
   dsimp only;obtain⟨h1,h2,h3⟩:=qp p pods nodes d t m;refine⟨h1,fun x hx e he=>?_,h3.imp id fun ⟨x,hx,e,he⟩=>⟨x,by simp[hx],e,he⟩⟩;rcases List.mem_cons.1 hx with rfl | hx
   · rw[h] at he;cases he
   · exact h2 x hx e he
  | some c =>
   dsimp only;obtain⟨h1,h2,h3⟩:=qp p pods nodes d t (min m (inD p pods c nodes+(if c=d then 1 else 0)));refine⟨Nat.le_trans h1 (Nat.min_le_left _ _),fun x hx e he=>?_,?_⟩
   · rcases List.mem_cons.1 hx with rfl | hx
     · rw[h] at he;cases he;exact Nat.le_trans h1 (Nat.min_le_right _ _)
     · exact h2 x hx e he
   · rcases h3 with h3 | ⟨x,hx,e,he,h3⟩
     · by_cases g:m≤inD p pods c nodes+(if c=d then 1 else 0)
       · exact .inl (by rw[h3,Nat.min_eq_left g])
       · exact .inr ⟨n,by simp,c,h,by rw[h3,Nat.min_eq_right (by omega)]⟩
     · exact .inr ⟨x,by simp[hx],e,he,h3⟩
theorem jjR {p:Pd} {pods:List Pd} {nodes:List Nod} {d:ByteArray} {m z:Nat} (hd:ZW p.key d nodes=true) (hm:m=inD p pods d nodes+1)
 (h1:∀e,ZW p.key e nodes=true→z≤inD p pods e nodes+(if e=d then 1 else 0)) (h2:∃e,ZW p.key e nodes=true∧z=inD p pods e nodes+(if e=d then 1 else 0)):Xo p pods nodes d nodes m=z:=by
 have has:∀{n:Nod} {e:ByteArray},n ∈ nodes→Jf n.labels p.key=some e→ZW p.key e nodes=true:=fun {n e} hn he=>by
  unfold ZW;rw[List.any_eq_true];exact⟨n,hn,by simpa using he⟩
 have un:∀{e:ByteArray},ZW p.key e nodes=true→∃n ∈ nodes,Jf n.labels p.key=some e:=fun {e} h=>by
  unfold ZW at h;rw[List.any_eq_true] at h;obtain⟨n,hn,he⟩:=h;exact⟨n,hn,by simpa using he⟩
 obtain⟨g1,g2,g3⟩:=qp p pods nodes d nodes m;obtain⟨e,he,hz⟩:=h2;obtain⟨n,hn,hne⟩:=un he;have a:=g2 n hn e hne;rcases g3 with g3 | ⟨x,hx,c,hc,g3⟩
 · have b:=h1 d hd;rw[if_pos rfl] at b;omega
 · have b:=h1 c (has hx hc);omega
theorem jcp {key name d:ByteArray}:∀{l:List Nod},domV key name l=some d→ZW key d l=true
 | n::t,h=>by
  rw[domV] at h;unfold ZW;rw[List.any_cons];split at h
  · rw[h];simp
  · have:=jcp h;unfold ZW at this;rw[this,Bool.or_true]
def ZG (s:Clu) (p:Pd) (x:ByteArray):Bool:=if zp p.key=true then false else (!(ZO p s x).2||decide (p.most<(ZO p s x).1))
def Zd (p:Pd) (n:Nod):Bool:=!n.cordon&&ZS p.sel n.labels
def ZZ (p:Pd) (n:Nod):Bool:=!(Jj p.tols n.taints).isSome
def YU (s:Clu) (p:Pd) (x:ByteArray):Bool:=decide ((ZV s x).1=0)&&Vec.jB (ZV s x).2 p.need
def zW (s:Clu) (p:Pd) (n:Nod) (x:ByteArray):Int:=if Zd p n=false then 8 else if ZZ p n=false then 9 else if ZG s p x=true then 10 else if YU s p x=false then 7 else 0
def zX (s:Clu) (p:Pd) (x:ByteArray):Int:=match jl s.nodes x with
 | none=>3
 | some n=>zW s p n x
def qq (s:Clu) (p:Pd) (x:ByteArray):Int:=zX (zG s p.name) p x
def XQ (s:Clu) (p:Pd) (l:List Nod):List Int:=l.map fun n=>qq s p n.name
def zL (s:Clu) (p:Pd) (l:List Nod):List ByteArray:=(l.filter fun n=>decide (qq s p n.name=0)).map fun n=>n.name
theorem jbX {s:Clu} {p:Pd} {x:ByteArray} (h:jl s.nodes x=none):zX s p x=3:=by unfold zX;rw[h]
theorem jbW {s:Clu} {p:Pd} {x:ByteArray} {n:Nod} (h:jl s.nodes x=some n):zX s p x=zW s p n x:=by unfold zX;rw[h]
theorem jbE {s:Clu} {p:Pd} {n:Nod} {x:ByteArray} (h:Zd p n=false):zW s p n x=8:=by unfold zW;rw[if_pos h]
theorem jaE {s:Clu} {p:Pd} {n:Nod} {x:ByteArray} (h:Zd p n=true) (h2:ZZ p n=false):zW s p n x=9:=by unfold zW;rw[if_neg (by rw[h];decide),if_pos h2]
theorem jbl {s:Clu} {p:Pd} {n:Nod} {x:ByteArray} (h:Zd p n=true) (h2:ZZ p n=true) (h3:ZG s p x=true):zW s p n x=10:=by unfold zW;rw[if_neg (by rw[h];decide),if_neg (by rw[h2];decide),if_pos h3]
theorem jaY {s:Clu} {p:Pd} {n:Nod} {x:ByteArray} (h:Zd p n=true) (h2:ZZ p n=true) (h3:ZG s p x=false) (h4:YU s p x=false):zW s p n x=7:=by unfold zW;rw[if_neg (by rw[h];decide),if_neg (by rw[h2];decide),if_neg (by rw[h3];decide),if_pos h4]
theorem jie {s:Clu} {p:Pd} {n:Nod} {x:ByteArray} (h:Zd p n=true) (h2:ZZ p n=true) (h3:ZG s p x=false) (h4:YU s p x=true):zW s p n x=0:=by unfold zW;rw[if_neg (by rw[h];decide),if_neg (by rw[h2];decide),if_neg (by rw[h3];decide),if_neg (by rw[h4];decide)]
theorem je4 {s:Clu} {p:Pd} {n:Nod} {x:ByteArray} (h:zW s p n x=0):Zd p n=true∧ZZ p n=true∧ZG s p x=false∧YU s p x=true:=by
 cases h1:Zd p n with
 | false=>rw[jbE h1] at h;cases h
 | true =>
  cases h2:ZZ p n with
  | false=>rw[jaE h1 h2] at h;cases h
  | true =>
   cases h3:ZG s p x with
   | true=>rw[jbl h1 h2 h3] at h;cases h
   | false =>
    cases h4:YU s p x with
    | false=>rw[jaY h1 h2 h3 h4] at h;cases h
    | true=>exact⟨rfl,rfl,rfl,rfl⟩
theorem jgI {s:Clu} {p:Pd} {x:ByteArray} (h:zX s p x=0):∃n,jl s.nodes x=some n∧zW s p n x=0:=by
 cases hf:jl s.nodes x with
 | none=>rw[jbX hf] at h;cases h
 | some n=>rw[jbW hf] at h;exact⟨n,rfl,h⟩
theorem jiW (s:Clu) (p:Pd) (n:Nod) (x:ByteArray):0≤zW s p n x∧zW s p n x≤10:=by
 unfold zW;split
 · decide
 · split
   · decide
   · split
     · decide
     · split<;>decide
theorem jjo (s:Clu) (p:Pd) (x:ByteArray):0≤zX s p x∧zX s p x≤10:=by
 unfold zX;split
 · decide
 · exact jiW _ _ _ _
theorem jep {l:List Nod} {x:ByteArray} {n:Nod} (h:jl l x=some n):n ∈ l∧n.name=x:=by
 unfold jl at h;have h2:eqS n.name x=true:=List.find?_some (p:=fun n:Nod=>eqS n.name x) h;exact⟨List.mem_of_find?_eq_some h,jR.1 h2⟩
theorem jk2 {s:Clu} {p:Pd} {l:List Nod} {k:Nat} {n:Nod} (h:l[k]?=some n):XQ s p (l.take (k+1))=XQ s p (l.take k)++[qq s p n.name]:=by
 unfold XQ;rw[List.take_add_one,h,List.map_append];rfl
theorem jb9 (s:Clu) (p:Pd) (l:List Nod):(XQ s p l).length=l.length:=by unfold XQ;rw[List.length_map]
theorem jmJ {s:Clu} {p:Pd} {l:List Nod} {k:Nat} {n:Nod} (h:l[k]?=some n):(XQ s p l)[k]?=some (qq s p n.name):=by unfold XQ;rw[List.getElem?_map,h];rfl
theorem ji5 {s:Clu} {p:Pd} {l:List Nod} {k:Nat} {n:Nod} (h:l[k]?=some n):zL s p (l.take (k+1))=zL s p (l.take k)++(if qq s p n.name=0 then [n.name] else []):=by
 unfold zL;rw[List.take_add_one,h,List.filter_append,List.map_append];by_cases hb:qq s p n.name=0
 · rw[if_pos hb];simp[hb]
 · rw[if_neg hb];simp[hb]
theorem jbe (s:Clu) (p:Pd) (l:List Nod):(zL s p l).length≤l.length:=by
 unfold zL;rw[List.length_map];exact List.length_filter_le _ _
theorem jaO {s:Clu} {p:Pd} {l:List Nod} {x:ByteArray} (h:x ∈ zL s p l):qq s p x=0∧∃n ∈ l,n.name=x:=by
 unfold zL at h;obtain⟨n,hn,rfl⟩:=List.mem_map.1 h;obtain⟨h1,h2⟩:=List.mem_filter.1 hn;exact⟨of_decide_eq_true h2,n,h1,rfl⟩
end Go.Proofs.YtokdjfoalkmhiaaGreat
