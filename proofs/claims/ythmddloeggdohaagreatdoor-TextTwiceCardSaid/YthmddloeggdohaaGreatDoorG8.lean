/- What serves all packages,and package by package the contracts of the functions that the law calls. -/
import Derived.Test.YthmddloeggdohaaGreatDoorG2
import Derived.Test.YthmddloeggdohaaGreatDoorG4
import Derived.Test.YthmddloeggdohaaGreatDoorG5
import Derived.Test.YthmddloeggdohaaGreatDoorG6
import Derived.Test.YthmddloeggdohaaGreatDoorG7
import Derived.Lib.AppendZerosOnto
import Derived.Shelf.Spec.SlicesInsert
set_option linter.unusedVariables false
set_option maxRecDepth 100000
set_option maxHeartbeats 25600000
namespace Go.Proofs.YthmddloeggdohaaGreatDoor
open Go.RowKit
def jmR (s:List UInt8) (n:Bd):Prop:=∃a b c:List UInt8,je 32 s=[a,b,c]∧n.name=bytes a∧JU b=(0,n.sel)∧X8 c=some n.floor
def Xu (c:Int) (n:Bd) (w:World) (e:Ending) (w':World):Prop:=(c=0→∃v,e=.returned v∧ZP w.heap.size w' v n)∧(c≠0→e=.panicked [ju c])∧Kept w w'
theorem Xu.bad {c:Int} {n:Bd} {w w':World} (hc:c≠0) (hb:Kept w w'):Xu c n w (.panicked [ju c]) w':=⟨fun g=>absurd g hc,fun _=>rfl,hb⟩
theorem qo (x0:ByteArray) (x2:Int) (b1:Option Addr) (n1 d1:Nat) (w:World):Calls Tryz.prog 92 #[.agg #[.string x0,.slice b1 n1 d1,.int .i64 x2],.int .i64 0] w fun e w'=>e=.returned (.agg #[.string x0,.slice b1 n1 d1,.int .i64 x2])∧Kept w w':=by
 go_enter Tryz.func92,Tryz.ntmps92;go_wp2;go_returns
 exact⟨rfl,jk _ _ _⟩
theorem jhL (x0:ByteArray) (x2:Int) (b1:Option Addr) (n1 d1:Nat) (c:Int) (w:World) (h:c≠0):Calls Tryz.prog 92 #[.agg #[.string x0,.slice b1 n1 d1,.int .i64 x2],.int .i64 c] w fun e w'=>e=.panicked [ju c]∧Kept w w':=by
 have h3:(c != 0)=true:=by simpa using h
 clear h;go_enter Tryz.func92,Tryz.ntmps92;go_wp2;exact⟨rfl,rfl,jk _ _ _⟩
theorem jdF {W:World} {q p:Nat} {c0 c1 c2 u0 u1 u2:Value} (h:(W).cell? ⟨q,0,none⟩=some (c0)∧(W).cell? ⟨q,1,none⟩=some (c1)∧(W).cell? ⟨q,2,none⟩=some (c2)) (hne:q≠p) :
 ((((W.setCell ⟨p,0,none⟩ u0).setCell ⟨p,1,none⟩ u1).setCell ⟨p,2,none⟩ u2)).cell? ⟨q,0,none⟩=some (c0)∧((((W.setCell ⟨p,0,none⟩ u0).setCell ⟨p,1,none⟩ u1).setCell ⟨p,2,none⟩ u2)).cell? ⟨q,1,none⟩=some (c1)∧((((W.setCell ⟨p,0,none⟩ u0).setCell ⟨p,1,none⟩ u1).setCell ⟨p,2,none⟩ u2)).cell? ⟨q,2,none⟩=some (c2):=by
 have e:(W.setCells p 0 [u0,u1,u2]).heap[q]?=W.heap[q]?:=YR p _ 0 W q hne;have c:∀j,((((W.setCell ⟨p,0,none⟩ u0).setCell ⟨p,1,none⟩ u1).setCell ⟨p,2,none⟩ u2)).cell? ⟨q,j,none⟩=W.cell? ⟨q,j,none⟩:=fun j=>World.cell?_of_block (a:=⟨q,j,none⟩) e;simp only[c];exact h
theorem jgz (s:List UInt8) (n:Bd) (c:Int) (w:World) (hE:Jf w) (hs:s.length≤900000) (h:jmR s n) (hc:zx n=c) :
 Calls Tryz.prog 137 #[.string (bytes s)] w (Xu c n w):=by
 obtain⟨a,b,c0,hp,ha,hf,hcc⟩:=h;obtain⟨x0,l3,x2⟩:=n;dsimp only at ha hf hcc;subst ha;have hlen:∀p ∈ [a,b,c0],p.length≤s.length:=fun p hm=>Z9 32 s p (by rw[hp];exact hm);have la:=hlen a (by simp);have lb:=hlen b (by simp);have lc:=hlen c0 (by simp);obtain⟨Z,hZ⟩:∃Z,w.alloc (.cells #[.string ⟨#[]⟩,.slice none 0 0,.int .i64 0] 66)=Z:=⟨_,rfl⟩
 have hkz:Kept w Z:=by rw[←hZ];exact ja _ _
 have hzs:Z.heap.size=w.heap.size+1:=by rw[←hZ];simp
 have HR0:=lH (show jf w.heap.size [.string ⟨#[]⟩,.slice none 0 0,.int .i64 0] Z from jg w (.string ⟨#[]⟩) [.slice none 0 0,.int .i64 0] 66 Z (by rw[hZ];exact Kept.refl _));have HWD:=lH (jnr s Z (hE.kept hkz).toEnvT.toEnv.base (by omega));have H2:=lH (fun W=>jbU c0 x2 W (by omega) hcc);have H0:=lH (fun W=>Zp (bytes a) W (by rw[ji];omega));have H5:=lH (fun W (k:Kept w W)=>(jbq b W (hE.kept k).toEnvT.toEnv.base (by omega)).mono fun _ _=>Xf);rw[hf] at H5;dsimp only at H5;have S0:=lH (show (bytes a).size≤maxLen by rw[ji];unfold maxLen;omega);have S2:=lH (jc2 hcc);have HCH:=lH hc;have HP:=lH hp;have HKZ:=lH hkz;have HZS:=lH hzs;clear hE hs hc hp hcc hf hlen la lb lc hkz hzs;go_enter Tryz.func137,Tryz.ntmps137;go_wp2_with fail
 try rw[hZ]
 clear hZ;refine HWD.out.mono ?_;rintro ee w1 ⟨hw,-,k⟩;obtain⟨g,cap,rfl,-,hcells⟩:=hw (by rw[HP.out];rfl);have K:=lH (HKZ.out.trans k);have HR1:=lH (HR0.out.kept k);have HRS:=lH (show w.heap.size+1≤w1.heap.size by have:=k.size;rw[HZS.out] at this;exact this);rw[HP.out] at hcells;have HC:=lH (show ∀W,Kept w1 W→W.cell? ⟨g,0,none⟩=some (.string (bytes a))∧W.cell? ⟨g,1,none⟩=some (.string (bytes b))∧W.cell? ⟨g,2,none⟩=some (.string (bytes c0)) from fun W k =>
  ⟨cell_later k (hcells 0 a rfl),cell_later k (hcells 1 b rfl),cell_later k (hcells 2 c0 rfl)⟩)
 clear hw k hcells HWD;obtain⟨g0,g1,g2⟩:=HC.out _ (Kept.refl _);go_wp2_with fail
 refine(H2.out _).mono ?_;rintro e9 w2 ⟨rfl,k⟩;have KK:=lH k;clear g0 g1 g2;obtain⟨g0,g1,g2⟩:=HC.out _ (k.trans (ja w2 (.cells #[.string ⟨#[]⟩,.slice none 0 0,.int .i64 x2] 66)));clear k;go_wp2_with fail
 clear g0 g1 g2;have hn:=jg w2 (.string ⟨#[]⟩) [.slice none 0 0,.int .i64 x2] 66 _ (Kept.refl _);have hq1:w1.heap.size≤w2.heap.size:=KK.out.size;have k2:=KK.out.trans (ja w2 (.cells #[.string ⟨#[]⟩,.slice none 0 0,.int .i64 x2] 66));obtain⟨q,hqe⟩:∃z,w2.heap.size=z:=⟨_,rfl⟩
 rw[hqe] at hn hq1;try rw[hqe]
 obtain⟨w3,hw3⟩:∃W,w2.alloc (.cells #[.string ⟨#[]⟩,.slice none 0 0,.int .i64 x2] 66)=W:=⟨_,rfl⟩
 rw[hw3] at hn k2;try rw[hw3]
 clear hw3 hqe;have Q:=lH hn;have HQ1:=lH hq1;have KK:=lH k2;clear hn hq1 k2;refine(H0.out _).mono ?_;rintro e9 w4 ⟨rfl,k⟩;have KK:=lH (KK.out.trans k);have Q:=lH (Q.out.kept k);clear k;have y:=Q.out.at_ 0 _ rfl;have x:=Q.out.free 0;have Q:=lH (show jf q [.string (bytes a),.slice none 0 0,.int .i64 x2] (w4.setCell ⟨q,0,none⟩ (.string (bytes a))) from Q.out.set (j:=0) (by simp));have KK:=lH (show Kept w1 (w4.setCell ⟨q,0,none⟩ (.string (bytes a))) from KK.out.setCell (p:=⟨q,0,none⟩) HQ1.out _);obtain⟨g0,g1,g2⟩:=HC.out _ KK.out;go_wp2_with fail
 clear g0 g1 g2 y x;obtain⟨W0,hW⟩:∃W,w4.setCell ⟨q,0,none⟩ (.string (bytes a))=W:=⟨_,rfl⟩
 rw[hW] at Q KK;try rw[hW]
 clear hW;refine(H5.out _ (K.out.trans KK.out)).mono ?_;rintro e9 v3 ⟨b1,n1,d1,rfl,rr,gg,k⟩;have G1:=lH (show j2 (q+1) b1 from fun b o s e=>Nat.le_trans Q.out.lt (gg b o s e).1);have R1:=lH rr;have KK:=lH (KK.out.trans k);have Q:=lH (Q.out.kept k);clear k rr gg;go_wp2_with fail
 refine(jbC _ _).mono ?_;rintro e9 w9 ⟨rfl,rfl⟩;have y:=Q.out.at_ 1 _ rfl;have x:=Q.out.free 1;have Q:=lH (show jf q [.string (bytes a),.slice b1 n1 d1,.int .i64 x2] (v3.setCell ⟨q,1,none⟩ (.slice b1 n1 d1)) from Q.out.set (j:=1) (by simp));have KK:=lH (show Kept w1 (v3.setCell ⟨q,1,none⟩ (.slice b1 n1 d1)) from KK.out.setCell (p:=⟨q,1,none⟩) HQ1.out _);have R1:=lH (Zr (p:=q) (j:=1) (u:=.slice b1 n1 d1) R1.out G1.out (Nat.lt_succ_self q));go_wp2;clear y x;obtain⟨W7,hW⟩:∃W,v3.setCell ⟨q,1,none⟩ (.slice b1 n1 d1)=W:=⟨_,rfl⟩
 rw[hW] at Q KK R1;try rw[hW]
 clear hW;have HAT:=lH (show zL W7 (.slice b1 n1 d1) ⟨bytes a,l3,x2⟩ from⟨S0.out,S2.out,R1.out⟩);have HCK:=lH (fun W (k:Kept W7 W)=>jdv ⟨bytes a,l3,x2⟩ (.slice b1 n1 d1) W (HAT.out.kept k));rw[HCH.out] at HCK;unfold Zt at HCK;dsimp only at HCK;have HS:=lH (show ∀W,Kept W7 W→W.cell? ⟨q,0,none⟩=some (.string (bytes a))∧W.cell? ⟨q,1,none⟩=some (.slice b1 n1 d1)∧W.cell? ⟨q,2,none⟩=some (.int .i64 x2) from fun W k=>by
  have h:=jf.kept Q.out k;exact⟨h.at_ 0 _ rfl,h.at_ 1 _ rfl,h.at_ 2 _ rfl⟩)
 have HR7:=lH (fun W (k:Kept W7 W)=>jf.kept HR1.out (KK.out.trans k));have HQR:=lH (show q≠w.heap.size by have:=HQ1.out;have:=HRS.out;omega);have HRT:=lH (show w.heap.size<W7.heap.size by have:=KK.out.size;have:=HRS.out;omega);obtain⟨r0,r1,r2⟩:=HS.out _ (Kept.refl _);refine wp_region_held_drew (S:=fun W=>W.cell? ⟨q,0,none⟩=some (.string (bytes a))∧W.cell? ⟨q,1,none⟩=some (.slice b1 n1 d1)∧W.cell? ⟨q,2,none⟩=some (.int .i64 x2)) (by kernel_rfl) (HS.out _ (Kept.drew _)) (fun hHeld=>?_);refine tkI 0 ?_;refine tkI 1 ?_;try simp only[nP]
 refine rd1 2 fun K9 hK9=>?_;go_simp;refine(HCK.out _ (Kept.drew _)).mono ?_;rintro e9 u1 ⟨rfl,k⟩;have J1:=lH ((Kept.drew _).trans k);clear k;refine hK9.out _ _ (HS.out _ J1.out) (fun hHeld1=>?_);clear hK9 K9;try simp only[nP]
 by_cases z:c=0
 · subst z;refine rd1 3 fun K9 hK9=>?_;go_simp;refine(qo _ _ _ _ _ _).mono ?_;rintro e8 u2 ⟨rfl,k⟩;have J2:=lH (J1.out.trans k);clear k;refine hK9.out _ _ (HS.out _ J2.out) (fun hHeld2=>?_);clear hK9 K9;try simp only[nP]
   have z0:=(HR7.out _ J2.out).at_ 0 _ rfl;have z1:=(HR7.out _ J2.out).at_ 1 _ rfl;have z2:=(HR7.out _ J2.out).at_ 2 _ rfl;have f0:=(HR7.out _ J2.out).free 0;have f1:=(HR7.out _ J2.out).free 1;have f2:=(HR7.out _ J2.out).free 2;refine rd1 4 fun K9 hK9=>?_;go_simp;refine hK9.out _ _ (jdF (HS.out _ J2.out) HQR.out) (fun hHeldS=>?_);clear hK9 K9 hHeldS;try simp only[nP]
   refine wpAnyH_done (by kernel_rfl) ?_ _;have P:=lH (J7 (vs:=[.string (bytes a),.slice b1 n1 d1,.int .i64 x2]) (HR7.out _ J2.out) rfl);clear z0 f0 z1 f1 z2 f2;go_wp2;(try simp only[Exit.inBlock,Exit.then])
   obtain⟨WE,hWE⟩:∃W,u2.setCells w.heap.size 0 [.string (bytes a),.slice b1 n1 d1,.int .i64 x2]=W:=⟨_,rfl⟩
   have hWE2:(((u2.setCell ⟨w.heap.size,0,none⟩ (.string (bytes a))).setCell ⟨w.heap.size,1,none⟩ (.slice b1 n1 d1)).setCell ⟨w.heap.size,2,none⟩ (.int .i64 x2))=WE:=hWE;rw[hWE] at P;rw[hWE2];clear hWE hWE2;obtain⟨PC,hsz,hbl,hkp⟩:=P.out;refine bodyPost_ret (by simp[results,Tryz.results137,go_sem,PC.at_ 0 _ rfl,PC.at_ 1 _ rfl,PC.at_ 2 _ rfl];try rfl) rfl ?_;refine⟨fun _=>⟨_,rfl,⟨_,_,_,rfl,zL.far (B:=q+1) (HAT.out.kept J2.out) hsz (fun b hb=>hbl b (by have:=HQ1.out;have:=HRS.out;omega)) G1.out,G1.out.less (by have:=HQ1.out;have:=HRS.out;omega)⟩⟩,fun h=>absurd rfl h,hkp _ _ (Nat.le_refl _) (K.out.trans (KK.out.trans J2.out))⟩
 · skip;refine rd1 3 fun K9 hK9=>?_;go_simp;refine(jhL _ _ _ _ _ _ _ z).mono ?_;rintro e8 u2 ⟨rfl,k⟩;exact⟨rfl,Xu.bad z (K.out.trans (KK.out.trans (J1.out.trans k)))⟩
abbrev BX:=Bd×SX
abbrev jpb (z:BX):Value:=Zt z.1 (slV z.2)
def At1 (w:World) (z:BX):Prop:=zL w (slV z.2) z.1
theorem zL.at1 {w:World} {n:Bd} {x1:SX} (h:zL w (slV x1) n):At1 w (n,x1):=h
theorem jm5 (n:Bd) (v1:Value) (w:World) (h:zL w v1 n) (hl:n.sel.length≤1000000) :
 Calls Tryz.prog 66 #[Zt n v1] w fun e w'=>∃z:BX,e=.returned (jpb z)∧z.1=n∧At1 w' z∧Btw w.heap.size w'.heap.size z.2.1∧Kept w w':=by
 have HH:=lH h;have E3:=lH (fun W (k:Kept w W)=>(jn7 (h.sel.kept k) hl).mono fun _ _=>Xe);obtain⟨⟨x0,l3,m⟩,hnn⟩:∃m,m=n:=⟨n,rfl⟩
 subst hnn;dsimp only at E3;obtain⟨W0,hW0⟩:∃Z,(w.alloc (.cells #[.string x0,v1,.int .i64 m] 66)).alloc (.cells #[.string ⟨#[]⟩,.slice none 0 0,.int .i64 0] 131)=Z:=⟨_,rfl⟩
 have hk0:Kept w W0:=by rw[←hW0];exact jk _ _ _
 have hzs:W0.heap.size=w.heap.size+2:=by rw[←hW0];simp
 have HB:=lH (show ∀W,Kept W0 W→W.cell? ⟨w.heap.size,0,none⟩=some (.string x0)∧W.cell? ⟨w.heap.size,1,none⟩=some (v1)∧W.cell? ⟨w.heap.size,2,none⟩=some (.int .i64 m) from fun W k=>by
  have:=jg w (.string x0) [v1,.int .i64 m] 66 W ((by rw[←hW0];exact ja _ _:Kept (w.alloc (.cells #[.string x0,v1,.int .i64 m] 66)) W0).trans k);exact⟨this.at_ 0 _ rfl,this.at_ 1 _ rfl,this.at_ 2 _ rfl⟩)
 have HQ:=lH (show ∀W,Kept W0 W→jf (w.heap.size+1) [.string ⟨#[]⟩,.slice none 0 0,.int .i64 0] W from fun W k=>by
  have:=jg (w.alloc (.cells #[.string x0,v1,.int .i64 m] 66)) (.string ⟨#[]⟩) [.slice none 0 0,.int .i64 0] 131 W (by rw[hW0];exact k);rw[World.size_alloc] at this;exact this)
 have HZ:=lH hzs;have HK0:=lH hk0;obtain⟨b0,b1,b2⟩:=HB.out _ (Kept.refl _);clear h hl hk0 hzs;unfold Zt;dsimp only;go_enter Tryz.func66,Tryz.ntmps66;go_wp2;try rw[hW0]
 clear hW0;go_region_held3 (fun W=>(W.cell? ⟨w.heap.size,0,none⟩=some (.string x0)∧W.cell? ⟨w.heap.size,1,none⟩=some (v1)∧W.cell? ⟨w.heap.size,2,none⟩=some (.int .i64 m)))
  (first | with_reducible exact HB.out _ K4.out | exact jdF (HB.out _ K4.out) (by omega) | exact HB.out _ (Kept.drew _))
  (first | (go_at_call 111;refine(E3.out _ (HK0.out.trans (Kept.drew _))).mono ?_;rintro e1 w4 ⟨b1,n1,d1,rfl,r1,g1,k1⟩;have K4:=lH (Kept.trans (Kept.drew _) k1);have G1:=lH (show Btw (w.heap.size+2) w4.heap.size b1 from fun b o s e=>⟨Nat.le_trans (by rw[←HZ.out];exact Below.size (Kept.drew _)) (g1 b o s e).1,(g1 b o s e).2⟩);have R1:=lH r1;clear k1 r1 g1;have HQ4:=lH (HQ.out _ K4.out);have z0:=HQ4.out.at_ 0 _ rfl;have f0:=HQ4.out.free 0;have z1:=HQ4.out.at_ 1 _ rfl;have f1:=HQ4.out.free 1;have z2:=HQ4.out.at_ 2 _ rfl;have f2:=HQ4.out.free 2))
 have P:=lH (J7 (vs:=[.string x0,.slice b1 n1 d1,.int .i64 m]) HQ4.out rfl);go_wp2;obtain⟨WE,hWE⟩:∃W,w4.setCells (w.heap.size+1) 0 [.string x0,.slice b1 n1 d1,.int .i64 m]=W:=⟨_,rfl⟩
 have hWE2:(((w4.setCell ⟨w.heap.size+1,0,none⟩ (.string x0)).setCell ⟨w.heap.size+1,1,none⟩ (.slice b1 n1 d1)).setCell ⟨w.heap.size+1,2,none⟩ (.int .i64 m))=WE:=hWE;rw[hWE] at P;rw[hWE2];clear hWE hWE2;obtain⟨PC,hsz,hbl,hkp⟩:=P.out;refine bodyPost_ret (by simp[results,Tryz.results66,go_sem,PC.at_ 0 _ rfl,PC.at_ 1 _ rfl,PC.at_ 2 _ rfl];try rfl) rfl ?_;refine⟨(⟨x0,l3,m⟩,(b1,n1,d1)),rfl,rfl,zL.at1 (zL.far (B:=w.heap.size+2) (n:=⟨x0,l3,m⟩) ⟨HH.out.name,HH.out.floor,R1.out⟩ hsz (fun b hb=>hbl b (by omega)) G1.out.behind),?_,hkp _ _ (Nat.le_succ _) (HK0.out.trans K4.out)⟩;rw[hsz];exact G1.out.up (by omega) (Nat.le_refl _)
theorem jdb (x:BX) (u:Value) (h:u ∈ [Value.string x.1.name,slV x.2,.int .i64 x.1.floor]):u.oneCell'=true:=by
 simp only[List.mem_cons,List.not_mem_nil,or_false] at h;rcases h with rfl | rfl | rfl<;>rfl
def zu:Lay BX:={ m:=3,cs:=fun x=>[.string x.1.name,slV x.2,.int .i64 x.1.floor],fine:=fun _=>True,len:=fun _=>rfl,one:=jdb,pos:=by decide }
def jmi (w:World) (v:Value) (l:List BX):Prop:=∀z ∈ l,At1 w z∧Btw 0 w.heap.size z.2.1∧Yf v z.2.1
theorem jlo {wr w1 w2:World} {o:Obj} {v:Value} {l:List BX} {z0:BX} {gg n cap:Nat} (hv:jmi wr v l) (k:Kept wr w1) (hz:At1 w1 z0) (hw:Btw wr.heap.size w1.heap.size z0.2.1) (hown:∀g,v.ownBlock=some g→g<wr.heap.size)
 (hgrow:(w1.alloc o).grownBy w2 v.ownBlock) (hat:v.ownBlock=some gg∨gg=w1.heap.size+1):jmi w2 (.slice (some ⟨gg,0,none⟩) n cap) (l++[z0]):=by
 have hs:=hgrow.size;rw[World.size_alloc] at hs;have hk:=k.size;have key:∀z,At1 w1 z→Btw 0 w1.heap.size z.2.1→Yf v z.2.1→At1 w2 z∧Btw 0 w2.heap.size z.2.1∧Yf (.slice (some ⟨gg,0,none⟩) n cap) z.2.1:=by
  intro z h3 hwz f1;have ne:∀b,b<w1.heap.size→v.ownBlock≠some b→(Value.slice (some ⟨gg,0,none⟩) n cap).ownBlock≠some b:=by
   intro b hb hne e;have e:some gg=some b:=e;rcases hat with hat | hat
   · exact hne (hat.trans e)
   · have:gg=b:=Option.some.inj e;omega
  have h3':=zL.kept h3 (ja w1 o);exact⟨⟨h3'.name,h3'.floor,h3'.sel.grown hgrow (fun b off sp e=>Ne.symm (f1 b off sp e))⟩,hwz.up (Nat.le_refl _) (by omega),fun b off sp e=>ne b (hwz b off sp e).2 (f1 b off sp e)⟩
 intro z hzm;rcases List.mem_append.1 hzm with hzm | hzm
 · obtain⟨h0,h1,h2⟩:=hv z hzm;exact key z (zL.kept h0 k) (h1.up (Nat.le_refl _) hk) h2
 · obtain rfl:z=z0:=by simpa using hzm
   exact key z hz (hw.up (Nat.zero_le _) (Nat.le_refl _)) (fun b off sp e f=>by have:=(hw b off sp e).1;have:=hown b f;omega)
theorem jf1 {w:World} {T:TypeId} {B:Nat} {v:Value} {lx:List BX} (ho:Own zu T w B v lx) (hf:∀z ∈ lx,At1 w z):ZQ w v (lx.map fun z=>z.1):=by
 obtain⟨a,cap,rfl,h1,h2,h3⟩:=ho.at_;obtain⟨g0,g1,g2,g3⟩:=h3;refine⟨a,cap,by rw[List.length_map],by rw[List.length_map];exact h1,h2,rfl,by rw[List.length_map];exact g1,?_⟩;rw[List.length_map];rcases g3 with g3 | ⟨b,off,rfl,hb,hc⟩
 · exact .inl g3
 · refine .inr ⟨b,off,rfl,hb,fun i n hi=>?_⟩;rw[List.getElem?_map] at hi;obtain⟨z,hz,rfl⟩:=Option.map_eq_some_iff.1 hi;exact⟨slV z.2,hc i z 0 _ hz rfl,hc i z 1 _ hz rfl,hc i z 2 _ hz rfl,hf z (List.mem_of_getElem? hz)⟩
theorem jn2:(Tryz.prog.info? 131).map (fun i=>(i.zero,i.size,i.bytes))=some (some (.agg #[.string ByteArray.empty,.slice none 0 0,.int .i64 0]),3,48):=by kernel_rfl
theorem ji0 (a:Option Addr) (len cap:Nat) (l:List Bd) (w:World) (hr:Je w a len l) (hlow:∀n ∈ l,n.sel.length≤1000000) (hlen:len≤1000) :
 Calls Tryz.prog 35 #[.slice a len cap] w fun e w'=>∃v,e=.returned v∧ZQ w' v l∧Kept w w':=by
 have hl:=hr.1;have HLOW:=lH hlow;obtain⟨i0,hi,hz0,hz1,hz2'⟩:=info_parts jn2;rcases hr.form with h0 | ⟨b,off,rfl⟩
 · subst h0;have hl0:l=[]:=List.eq_nil_of_length_eq_zero hl;subst hl0;clear hr hl hi hz0 hz1 hz2' hlow;go_enter Tryz.func35,Tryz.ntmps35;go_wp2;refine wp_loop_rounds 1 ?_;rw[rounds_succ];go_wp2;go_ret;exact⟨_,rfl,⟨none,0,rfl,Nat.le_refl _,by decide,rfl,by decide,.inl rfl⟩,Kept.refl _⟩
 · have HR:=lH hr;have HL:=lH hl;clear hr hl hlow;go_enter Tryz.func35,Tryz.ntmps35;go_wp2;go_loopw [3,4] (fun v i wr=>∃k:Nat,k≤len∧i=.int .i64 k∧∃lx:List BX,(lx.map fun z=>z.1)=l.take k∧Own zu 131 wr w.heap.size v lx∧jmi wr v lx∧Below w.heap.size w wr) (fun _ i _=>len-(intOf i).toNat)
   case atStart=>exact⟨0,Nat.zero_le _,rfl,[],rfl,Own.nil _ _ _,(fun z h=>by cases h),Below.refl _ _⟩
   case round =>
    obtain⟨k,hk,rfl,lx,hlx,ho,hv,hB⟩:=hrel;have HX:=lH hlx;have HO:=lH ho;have HV:=lH hv;have HB:=lH hB;have HT:=lH (show lx.length=k by have:=congrArg List.length hlx;rw[List.length_map,List.length_take,HL.out] at this;omega);have HOWN:=lH (show wr.ownsRow w.heap.size 131 3 u3 k (jd zu lx) by have:=HO.out.1;rw[HT.out] at this;exact this);have hbase:w.heap.size≤wr.heap.size:=hB.size;by_cases hlt:k<len
    · obtain⟨n,a1,m1,c1,hn,hd,hb,p0,p1,p2,hat⟩:=(HR.out.kept hB).at_ hlt;have HN:=lH hn;have HOF:=lH (jm5 n (.slice a1 m1 c1) wr hat (HLOW.out n (List.mem_of_getElem? hn)));have hk1:(k:Int)<(len:Int):=by omega
      clear hlx ho hv hB hn hd hat;go_wp2_with fail
      refine HOF.out.mono ?_;rintro e w1 ⟨z,rfl,hz,h3,hwi,kk⟩;have HZ:=lH hz;have H3:=lH h3;have HW:=lH hwi;have KK:=lH kk;have hs1:wr.heap.size≤w1.heap.size:=kk.size;have HOW2:=lH (show w1.ownsRow w.heap.size 131 3 u3 k (jd zu lx) by have:=(HO.out.kept kk).1;rw[HT.out] at this;exact this);clear hz h3 hwi kk;go_wp2_with (at_builtin;refine wpList_append_lies _ rfl _ _ _ rfl w.heap.size 131 i0 _ 3 48 Tryz.underlying46 hi hz0 hz1 hz2' rfl (by decide) u3 k (jd zu lx) rfl (HOW2.out.alloc _) ⟨w1.heap.size,0,none⟩ 1 1 (zu.cs z) rfl rfl (World.news_of_block (cs:=#[.string z.1.name,slV z.2,.int .i64 z.1.floor]) (t:=131) (fr:=(0,0)) (heap_alloc_new w1 _)) (jdb z) (by decide) (by unfold maxLen;omega) (by omega) (by simp;omega) (w1.heap.size+1) (by simp) ?_;intro gg cap1 w2 hown1 hgrow hat hlt1)
      have HFAR:=lH (jlo (n:=k+1) (cap:=cap1) HV.out KK.out H3.out HW.out (fun g h=>(HOWN.out.lt g h).2) hgrow hat);have HBW:=lH ((HB.out.trans ((Below.mono KK.out hbase).trans (Below.mono (ja w1 _) (by omega)))).grown hgrow (by simp;omega) (fun j hj=>(HOWN.out.lt j hj).1));go_wp2;go_roundw
      case rel=>exact⟨k+1,by omega,by go_num,lx++[z],by rw[List.map_append,HX.out,zW HN.out,←HZ.out];rfl,Own.snoc hown1 (by rw[HT.out]) HO.out.2 trivial,HFAR.out,HBW.out⟩
      case measure=>simp[intOf];omega
    · have HK:=lH (show l.take k=l by rw[List.take_of_length_le (by rw[HL.out];omega)]);have HRES:=lH (show ZQ wr u3 l by have:=jf1 HO.out (fun z hz=>(HV.out z hz).1);rw[HX.out,HK.out] at this;exact this);clear hlx ho hv hB;go_wp2;go_ret;exact⟨_,rfl,HRES.out,HB.out⟩
theorem jm4 {v:Value} {l:List Bd} {w:World} (h:ZQ w v l) (hlow:∀n ∈ l,n.sel.length≤1000000) (hlen:l.length≤1000) :
 Calls Tryz.prog 35 #[v] w fun e w'=>∃v,e=.returned v∧ZQ w' v l∧Kept w w':=by
 obtain⟨a,cap,rfl,_,_,hr⟩:=h;exact ji0 a _ cap l w hr hlow hlen
open Go.ChangeShapes Go.WideShapes Go.ChangeAt Go.RowKit Go.Deep
def jgp (w:World):Lay BX:={ m:=3,cs:=zu.cs,fine:=At1 w,len:=fun _=>rfl,one:=zu.one,pos:=by decide }
theorem jiy:Tryz.prog.cellsOf 66=3:=by kernel_rfl
theorem jgk {H:Type} {enc:TypeId×Value→H} {w:World} {base fuel:Nat} {sp:Nat→Bool} {held:Bool} {cs:List Value} {x:DataW H×List MemPlace} (h:DataW.trod enc Tryz.prog w base sp held fuel 66 cs=some x) :
 ∃a:BX,cs=(jgp w).cs a∧(jgp w).fine a:=by
 obtain⟨ys,m,-,-,hlen,hyl,hf⟩:=DataW.trod_struct Tryz.underlying66 h;rw[jiy] at hlen
 match cs,hlen with
 | [c0,c1,c2],_ =>
  have h0:DataW.trod enc Tryz.prog w base sp held m 9 (([c0,c1,c2].drop 0).take (Tryz.prog.cellsOf 9))=ys[0]?:=hf 0 _ rfl;have h1:DataW.trod enc Tryz.prog w base sp held m 59 (([c0,c1,c2].drop 1).take (Tryz.prog.cellsOf 59))=ys[1]?:=hf 1 _ rfl;have h2:DataW.trod enc Tryz.prog w base sp held m 3 (([c0,c1,c2].drop 2).take (Tryz.prog.cellsOf 3))=ys[2]?:=hf 2 _ rfl;rw[ZL] at h0;rw[jiG] at h1;rw[jan] at h2;obtain⟨y0,e0⟩:∃y,ys[0]?=some y:=⟨_,List.getElem?_eq_getElem (by rw[hyl];decide)⟩
  rw[e0] at h0;obtain⟨y1,e1⟩:∃y,ys[1]?=some y:=⟨_,List.getElem?_eq_getElem (by rw[hyl];decide)⟩
  rw[e1] at h1;obtain⟨y2,e2⟩:∃y,ys[2]?=some y:=⟨_,List.getElem?_eq_getElem (by rw[hyl];decide)⟩
  rw[e2] at h2;simp only[List.drop_zero,List.take_succ_cons,List.take_zero,List.drop_succ_cons] at h0 h1 h2;obtain⟨s0,q0,-,z0⟩:=DataW.trod_string Tryz.underlying9 h0;obtain⟨l3,r5⟩:=jcM h1;obtain⟨s2,q2,-,z2⟩:=DataW.trod_int Tryz.underlying3 h2;have r5':=r5;obtain⟨a1,d1,rfl,-⟩:=r5';simp only[List.cons.injEq,and_true] at q0 q2;subst q0;subst q2;exact⟨(⟨s0,l3,s2⟩,(a1,l3.length,d1)),rfl,⟨z0,bounds_i64 z2,r5⟩⟩
theorem jfT {H:Type} {enc:TypeId×Value→H} {w:World} {base fuel:Nat} {sp:Nat→Bool} {held:Bool} {v:Value} {x:DataW H×List MemPlace} (h:DataW.trod enc Tryz.prog w base sp held fuel 24 [v]=some x):∃l,ZQ w v l:=by
 obtain⟨l,a,cap,rfl,h1,h2,h3⟩:=zX (jgp w) Tryz.underlying24 jiy (fun _ _ _ h=>jgk h) h;obtain⟨g0,g1,g2,g3⟩:=h3;refine⟨l.map (fun z=>z.1),a,cap,by rw[List.length_map],by rw[List.length_map];exact h1,h2,rfl,by rw[List.length_map];exact g1,?_⟩;rw[List.length_map];rcases g3 with g3 | ⟨b,off,rfl,hb,hc⟩
 · exact .inl g3
 · refine .inr ⟨b,off,rfl,hb,fun i n hi=>?_⟩;rw[List.getElem?_map] at hi;obtain⟨z,hz,rfl⟩:=Option.map_eq_some_iff.1 hi;exact⟨slV z.2,hc i z 0 _ hz rfl,hc i z 1 _ hz rfl,hc i z 2 _ hz rfl,g2 z (List.mem_of_getElem? hz)⟩
theorem jcu (n:Pd) (v1 v2 v3 v4:Value) (w:World):Calls Tryz.prog 189 #[JQ n v1 v2 v3 v4] w fun e w'=>e=.returned (.string n.name)∧Kept w w':=by
 unfold JQ;go_enter Tryz.func189,Tryz.ntmps189;go_wp2;go_ret;exact⟨rfl,ja _ _⟩
def j4:Option ByteArray→List Pd→Int
 | _,[]=>0
 | prev,n::t=>if zV n≠0 then zV n else if Vec.jI prev n.name=true then 13 else j4 (some n.name) t
def jK (l:List Pd):Int:=if 128<l.length then 4 else j4 none l
def Yi (l:List Pd) (k:Nat):Option ByteArray:=if k=0 then none else (l[k-1]?).map Pd.name
theorem jcN {l:List Pd} {k:Nat} (h:k=0) (s:ByteArray):Vec.jI (Yi l k) s=false:=by unfold Yi;rw[if_pos h];rfl
theorem jcG {l:List Pd} {k:Nat} {n:Pd} (h:¬k=0) (hn:l[k-1]?=some n) (s:ByteArray):Vec.jI (Yi l k) s=leS s n.name:=by unfold Yi;rw[if_neg h,hn];rfl
theorem jcx {l:List Pd} {k:Nat} {n:Pd} (hn:l[k]?=some n):Yi l (k+1)=some n.name:=by unfold Yi;rw[if_neg (by omega),Nat.add_sub_cancel,hn];rfl
theorem jaA {p:Option ByteArray} {n:Pd} {t:List Pd} (h:zV n≠0):j4 p (n::t)=zV n:=by rw[j4,if_pos h]
theorem qp {p:Option ByteArray} {n:Pd} {t:List Pd} (h:zV n=0) (b:Vec.jI p n.name=true):j4 p (n::t)=13:=by rw[j4,if_neg (by rw[h];decide),if_pos b]
theorem Xc {p:Option ByteArray} {n:Pd} {t:List Pd} (h:zV n=0) (b:Vec.jI p n.name=false):j4 p (n::t)=j4 (some n.name) t:=by rw[j4,if_neg (by rw[h];decide),if_neg (by rw[b];decide)]
theorem jed (a:Option Addr) (len cap:Nat) (l:List Pd) (w:World) (hr:Jd w a len l) :
 Calls Tryz.prog 188 #[.slice a len cap,.int .i64 128,.func (.func 189) #[] #[],.func (.func 180) #[] #[]] w (Say (.int .i64 (jK l)) w):=by
 have hl:=hr.1;have hm:=hr.2.1;unfold maxLen at hm;by_cases h32:128<len
 · have HV:=lH (show jK l=4 by unfold jK;rw[if_pos (by omega)]);clear hr hl;go_enter Tryz.func188,Tryz.ntmps188;go_wp2;go_ret;exact⟨jb HV.out.symm,Kept.refl _⟩
 · have HV:=lH (show jK l=j4 none l by unfold jK;rw[if_neg (by omega)]);have h32':len≤128:=by omega
   by_cases h0:len=0
   · subst h0;have HE:=lH (show jK l=0 by rw[HV.out,List.eq_nil_of_length_eq_zero hl];rfl);clear hr hl h32;go_enter Tryz.func188,Tryz.ntmps188;go_wp2;refine wp_loop_rounds 1 ?_;rw[rounds_succ];go_wp2;go_ret;exact⟨jb HE.out.symm,Kept.refl _⟩
   · obtain⟨b,off,rfl⟩:=hr.form.resolve_left h0;have HR:=lH hr;have HL:=lH hl;clear hr hl h0 h32;go_enter Tryz.func188,Tryz.ntmps188;go_wp2;go_loopw [18] (fun i wr=>∃k:Nat,k≤len∧i=.int .i64 k∧j4 (Yi l k) (l.drop k)=j4 none l∧Kept w wr) (fun i _=>len-(intOf i).toNat)
     case atStart=>exact⟨0,Nat.zero_le _,rfl,rfl,Kept.refl _⟩
     case round =>
      obtain⟨k,hk,rfl,hrest,hK⟩:=hrel;have HS:=lH (HV.out.trans hrest.symm);have HT:=lH hrest;have HK:=lH hK;by_cases hlt:k<len
      · obtain⟨n,a1,m1,c1,a2,m2,c2,a3,m3,c3,a4,m4,c4,hn,hd,hb,p0,p1,p2,p3,p4,p5,p6,p7,p8,p9,p10,hat⟩:=(HR.out.kept hK).at_ hlt;have HAT:=lH hat;have HD:=lH hd;have HNX:=lH (jcx hn);have HCK:=lH (fun W (kk:Kept wr W)=>jdh n (.slice a1 m1 c1) (.slice a2 m2 c2) (.slice a3 m3 c3) (.slice a4 m4 c4) W (HAT.out.kept kk));have HNA:=lH (fun W=>jcu n (.slice a1 m1 c1) (.slice a2 m2 c2) (.slice a3 m3 c3) (.slice a4 m4 c4) W);unfold JQ at HCK HNA;obtain⟨ck,hck⟩:∃x,zV n=x:=⟨_,rfl⟩
        have HCN:=lH hck;rw[hck] at HCK;have hkk:(k:Int)<(len:Int):=by omega
        clear hrest hK hat hd hck;by_cases z1:ck=0
        · subst z1;by_cases h0:k=0
          · have hd0:decide (0<k)=false:=by subst h0;decide
            have HP:=lH (jcN (l:=l) h0 n.name);clear h0;go_wp2_with fail
            refine(HCK.out _ (ja _ _)).mono ?_;rintro e w1 ⟨rfl,kk⟩;have KW:=lH (Kept.trans (ja _ _) kk);have HBX:=lH (fun W k=>jg wr (.string n.name) [.string n.owner,.int .i64 n.prio,.slice a1 m1 c1,.slice a2 m2 c2,.slice a3 m3 c3,.slice a4 m4 c4,.string n.key,.int .i64 n.most,.string n.node,.bool n.hold] 62 W (Kept.trans kk k));have y0:=(HBX.out w1 (Kept.refl _)).at_ 0 _ rfl;have y1:=(HBX.out w1 (Kept.refl _)).at_ 1 _ rfl;have y2:=(HBX.out w1 (Kept.refl _)).at_ 2 _ rfl;have y3:=(HBX.out w1 (Kept.refl _)).at_ 3 _ rfl;have y4:=(HBX.out w1 (Kept.refl _)).at_ 4 _ rfl;have y5:=(HBX.out w1 (Kept.refl _)).at_ 5 _ rfl;have y6:=(HBX.out w1 (Kept.refl _)).at_ 6 _ rfl;have y7:=(HBX.out w1 (Kept.refl _)).at_ 7 _ rfl;have y8:=(HBX.out w1 (Kept.refl _)).at_ 8 _ rfl;have y9:=(HBX.out w1 (Kept.refl _)).at_ 9 _ rfl;have y10:=(HBX.out w1 (Kept.refl _)).at_ 10 _ rfl;clear kk;go_wp2;go_quiet (fail)
            go_wp2;go_roundw
            case rel=>exact⟨k+1,by omega,by go_num,(show j4 (Yi l (k+1)) (l.drop (k+1))=j4 none l by rw[←HT.out,HD.out,Xc HCN.out HP.out,HNX.out]),HK.out.trans (KW.out.trans (Kept.drewN _ _))⟩
            case measure=>simp[intOf];omega
          · have hd0:decide (0<k)=true:=by simp;omega
            obtain⟨q,hqk⟩:∃q,k=q+1:=⟨k-1,by omega⟩
            have g1:(k:Int)-1=(q:Int):=by omega
            have gw:IntKind.i64.wrap (q:Int)=(q:Int):=by rw[IntKind.wrap_i64];omega
            have g2:(q:Int)<(len:Int):=by omega
            obtain⟨n9,b1,h1,d1,b2,h2,d2,b3,h3,d3,b4,h4,d4,hn9,-,hb9,q0,q1,q2,q3,q4,q5,q6,q7,q8,q9,q10,-⟩:=(HR.out.kept HK.out).at_ (show q<len by omega);have HQK:=lH hqk;have hqk1:k-1=q:=by omega
            have HP:=lH (jcG (l:=l) h0 (show l[k-1]?=some n9 by rw[hqk1];exact hn9) n.name);clear hqk hqk1;have HNB:=lH (fun W=>jcu n9 (.slice b1 h1 d1) (.slice b2 h2 d2) (.slice b3 h3 d3) (.slice b4 h4 d4) W);unfold JQ at HNB;clear h0 hn9;by_cases n3:leS n.name n9.name=true
            · have n3':(Op.bytesLess n.name.toList n9.name.toList||n.name.toList==n9.name.toList)=true:=n3;have N3:=lH n3;clear n3;go_wp2_with fail
              refine(HCK.out _ (ja _ _)).mono ?_;rintro e w1 ⟨rfl,kk⟩;have KW:=lH (Kept.trans (ja _ _) kk);have HBX:=lH (fun W k=>jg wr (.string n.name) [.string n.owner,.int .i64 n.prio,.slice a1 m1 c1,.slice a2 m2 c2,.slice a3 m3 c3,.slice a4 m4 c4,.string n.key,.int .i64 n.most,.string n.node,.bool n.hold] 62 W (Kept.trans kk k));have y0:=(HBX.out w1 (Kept.refl _)).at_ 0 _ rfl;have y1:=(HBX.out w1 (Kept.refl _)).at_ 1 _ rfl;have y2:=(HBX.out w1 (Kept.refl _)).at_ 2 _ rfl;have y3:=(HBX.out w1 (Kept.refl _)).at_ 3 _ rfl;have y4:=(HBX.out w1 (Kept.refl _)).at_ 4 _ rfl;have y5:=(HBX.out w1 (Kept.refl _)).at_ 5 _ rfl;have y6:=(HBX.out w1 (Kept.refl _)).at_ 6 _ rfl;have y7:=(HBX.out w1 (Kept.refl _)).at_ 7 _ rfl;have y8:=(HBX.out w1 (Kept.refl _)).at_ 8 _ rfl;have y9:=(HBX.out w1 (Kept.refl _)).at_ 9 _ rfl;have y10:=(HBX.out w1 (Kept.refl _)).at_ 10 _ rfl;have HO:=lH (show ∀W,Kept w1 W→(W.cell? ⟨wr.heap.size,0,none⟩=some (.string n.name)∧W.cell? ⟨wr.heap.size,1,none⟩=some (.string n.owner)∧W.cell? ⟨wr.heap.size,2,none⟩=some (.int .i64 n.prio)∧W.cell? ⟨wr.heap.size,3,none⟩=some (.slice a1 m1 c1)∧W.cell? ⟨wr.heap.size,4,none⟩=some (.slice a2 m2 c2)∧W.cell? ⟨wr.heap.size,5,none⟩=some (.slice a3 m3 c3)∧W.cell? ⟨wr.heap.size,6,none⟩=some (.slice a4 m4 c4)∧W.cell? ⟨wr.heap.size,7,none⟩=some (.string n.key)∧W.cell? ⟨wr.heap.size,8,none⟩=some (.int .i64 n.most)∧W.cell? ⟨wr.heap.size,9,none⟩=some (.string n.node)∧W.cell? ⟨wr.heap.size,10,none⟩=some (.bool n.hold))∧(W.cell? ⟨b,off+q*11,none⟩=some (.string n9.name)∧W.cell? ⟨b,off+q*11+1,none⟩=some (.string n9.owner)∧W.cell? ⟨b,off+q*11+2,none⟩=some (.int .i64 n9.prio)∧W.cell? ⟨b,off+q*11+3,none⟩=some (.slice b1 h1 d1)∧W.cell? ⟨b,off+q*11+4,none⟩=some (.slice b2 h2 d2)∧W.cell? ⟨b,off+q*11+5,none⟩=some (.slice b3 h3 d3)∧W.cell? ⟨b,off+q*11+6,none⟩=some (.slice b4 h4 d4)∧W.cell? ⟨b,off+q*11+7,none⟩=some (.string n9.key)∧W.cell? ⟨b,off+q*11+8,none⟩=some (.int .i64 n9.most)∧W.cell? ⟨b,off+q*11+9,none⟩=some (.string n9.node)∧W.cell? ⟨b,off+q*11+10,none⟩=some (.bool n9.hold)) from fun W k=>⟨⟨(HBX.out W k).at_ 0 _ rfl,(HBX.out W k).at_ 1 _ rfl,(HBX.out W k).at_ 2 _ rfl,(HBX.out W k).at_ 3 _ rfl,(HBX.out W k).at_ 4 _ rfl,(HBX.out W k).at_ 5 _ rfl,(HBX.out W k).at_ 6 _ rfl,(HBX.out W k).at_ 7 _ rfl,(HBX.out W k).at_ 8 _ rfl,(HBX.out W k).at_ 9 _ rfl,(HBX.out W k).at_ 10 _ rfl⟩,⟨cell_later (KW.out.trans k) q0,cell_later (KW.out.trans k) q1,cell_later (KW.out.trans k) q2,cell_later (KW.out.trans k) q3,cell_later (KW.out.trans k) q4,cell_later (KW.out.trans k) q5,cell_later (KW.out.trans k) q6,cell_later (KW.out.trans k) q7,cell_later (KW.out.trans k) q8,cell_later (KW.out.trans k) q9,cell_later (KW.out.trans k) q10⟩⟩);clear kk q0 q1 q2 q3 q4 q5 q6 q7 q8 q9 q10;go_wp2;go_region_held3 (fun W=>(W.cell? ⟨wr.heap.size,0,none⟩=some (.string n.name)∧W.cell? ⟨wr.heap.size,1,none⟩=some (.string n.owner)∧W.cell? ⟨wr.heap.size,2,none⟩=some (.int .i64 n.prio)∧W.cell? ⟨wr.heap.size,3,none⟩=some (.slice a1 m1 c1)∧W.cell? ⟨wr.heap.size,4,none⟩=some (.slice a2 m2 c2)∧W.cell? ⟨wr.heap.size,5,none⟩=some (.slice a3 m3 c3)∧W.cell? ⟨wr.heap.size,6,none⟩=some (.slice a4 m4 c4)∧W.cell? ⟨wr.heap.size,7,none⟩=some (.string n.key)∧W.cell? ⟨wr.heap.size,8,none⟩=some (.int .i64 n.most)∧W.cell? ⟨wr.heap.size,9,none⟩=some (.string n.node)∧W.cell? ⟨wr.heap.size,10,none⟩=some (.bool n.hold))∧(W.cell? ⟨b,off+q*11,none⟩=some (.string n9.name)∧W.cell? ⟨b,off+q*11+1,none⟩=some (.string n9.owner)∧W.cell? ⟨b,off+q*11+2,none⟩=some (.int .i64 n9.prio)∧W.cell? ⟨b,off+q*11+3,none⟩=some (.slice b1 h1 d1)∧W.cell? ⟨b,off+q*11+4,none⟩=some (.slice b2 h2 d2)∧W.cell? ⟨b,off+q*11+5,none⟩=some (.slice b3 h3 d3)∧W.cell? ⟨b,off+q*11+6,none⟩=some (.slice b4 h4 d4)∧W.cell? ⟨b,off+q*11+7,none⟩=some (.string n9.key)∧W.cell? ⟨b,off+q*11+8,none⟩=some (.int .i64 n9.most)∧W.cell? ⟨b,off+q*11+9,none⟩=some (.string n9.node)∧W.cell? ⟨b,off+q*11+10,none⟩=some (.bool n9.hold)))
               (first | exact HO.out _ (Kept.drew _) | exact HO.out _ J1.out | exact HO.out _ J2.out)
               (first | (go_at_call 189;refine(HNA.out _).mono ?_;rintro e1 w2 ⟨rfl,k1⟩;have J1:=lH ((Kept.drew _).trans k1);clear k1)
                      | (go_at_call 189;refine(HNB.out _).mono ?_;rintro e2 w3 ⟨rfl,k1⟩;have J2:=lH (J1.out.trans k1);clear k1))
              go_wp2;go_ret;exact⟨jb (show (13:Int)=jK l by rw[HS.out,HD.out,qp HCN.out (HP.out.trans N3.out)]),HK.out.trans (KW.out.trans J2.out)⟩
            · have n3:leS n.name n9.name=false:=by simpa using n3
              have n3':(Op.bytesLess n.name.toList n9.name.toList||n.name.toList==n9.name.toList)=false:=n3;have N3:=lH n3;clear n3;go_wp2_with fail
              refine(HCK.out _ (ja _ _)).mono ?_;rintro e w1 ⟨rfl,kk⟩;have KW:=lH (Kept.trans (ja _ _) kk);have HBX:=lH (fun W k=>jg wr (.string n.name) [.string n.owner,.int .i64 n.prio,.slice a1 m1 c1,.slice a2 m2 c2,.slice a3 m3 c3,.slice a4 m4 c4,.string n.key,.int .i64 n.most,.string n.node,.bool n.hold] 62 W (Kept.trans kk k));have y0:=(HBX.out w1 (Kept.refl _)).at_ 0 _ rfl;have y1:=(HBX.out w1 (Kept.refl _)).at_ 1 _ rfl;have y2:=(HBX.out w1 (Kept.refl _)).at_ 2 _ rfl;have y3:=(HBX.out w1 (Kept.refl _)).at_ 3 _ rfl;have y4:=(HBX.out w1 (Kept.refl _)).at_ 4 _ rfl;have y5:=(HBX.out w1 (Kept.refl _)).at_ 5 _ rfl;have y6:=(HBX.out w1 (Kept.refl _)).at_ 6 _ rfl;have y7:=(HBX.out w1 (Kept.refl _)).at_ 7 _ rfl;have y8:=(HBX.out w1 (Kept.refl _)).at_ 8 _ rfl;have y9:=(HBX.out w1 (Kept.refl _)).at_ 9 _ rfl;have y10:=(HBX.out w1 (Kept.refl _)).at_ 10 _ rfl;have HO:=lH (show ∀W,Kept w1 W→(W.cell? ⟨wr.heap.size,0,none⟩=some (.string n.name)∧W.cell? ⟨wr.heap.size,1,none⟩=some (.string n.owner)∧W.cell? ⟨wr.heap.size,2,none⟩=some (.int .i64 n.prio)∧W.cell? ⟨wr.heap.size,3,none⟩=some (.slice a1 m1 c1)∧W.cell? ⟨wr.heap.size,4,none⟩=some (.slice a2 m2 c2)∧W.cell? ⟨wr.heap.size,5,none⟩=some (.slice a3 m3 c3)∧W.cell? ⟨wr.heap.size,6,none⟩=some (.slice a4 m4 c4)∧W.cell? ⟨wr.heap.size,7,none⟩=some (.string n.key)∧W.cell? ⟨wr.heap.size,8,none⟩=some (.int .i64 n.most)∧W.cell? ⟨wr.heap.size,9,none⟩=some (.string n.node)∧W.cell? ⟨wr.heap.size,10,none⟩=some (.bool n.hold))∧(W.cell? ⟨b,off+q*11,none⟩=some (.string n9.name)∧W.cell? ⟨b,off+q*11+1,none⟩=some (.string n9.owner)∧W.cell? ⟨b,off+q*11+2,none⟩=some (.int .i64 n9.prio)∧W.cell? ⟨b,off+q*11+3,none⟩=some (.slice b1 h1 d1)∧W.cell? ⟨b,off+q*11+4,none⟩=some (.slice b2 h2 d2)∧W.cell? ⟨b,off+q*11+5,none⟩=some (.slice b3 h3 d3)∧W.cell? ⟨b,off+q*11+6,none⟩=some (.slice b4 h4 d4)∧W.cell? ⟨b,off+q*11+7,none⟩=some (.string n9.key)∧W.cell? ⟨b,off+q*11+8,none⟩=some (.int .i64 n9.most)∧W.cell? ⟨b,off+q*11+9,none⟩=some (.string n9.node)∧W.cell? ⟨b,off+q*11+10,none⟩=some (.bool n9.hold)) from fun W k=>⟨⟨(HBX.out W k).at_ 0 _ rfl,(HBX.out W k).at_ 1 _ rfl,(HBX.out W k).at_ 2 _ rfl,(HBX.out W k).at_ 3 _ rfl,(HBX.out W k).at_ 4 _ rfl,(HBX.out W k).at_ 5 _ rfl,(HBX.out W k).at_ 6 _ rfl,(HBX.out W k).at_ 7 _ rfl,(HBX.out W k).at_ 8 _ rfl,(HBX.out W k).at_ 9 _ rfl,(HBX.out W k).at_ 10 _ rfl⟩,⟨cell_later (KW.out.trans k) q0,cell_later (KW.out.trans k) q1,cell_later (KW.out.trans k) q2,cell_later (KW.out.trans k) q3,cell_later (KW.out.trans k) q4,cell_later (KW.out.trans k) q5,cell_later (KW.out.trans k) q6,cell_later (KW.out.trans k) q7,cell_later (KW.out.trans k) q8,cell_later (KW.out.trans k) q9,cell_later (KW.out.trans k) q10⟩⟩);clear kk q0 q1 q2 q3 q4 q5 q6 q7 q8 q9 q10;go_wp2;go_region_held3 (fun W=>(W.cell? ⟨wr.heap.size,0,none⟩=some (.string n.name)∧W.cell? ⟨wr.heap.size,1,none⟩=some (.string n.owner)∧W.cell? ⟨wr.heap.size,2,none⟩=some (.int .i64 n.prio)∧W.cell? ⟨wr.heap.size,3,none⟩=some (.slice a1 m1 c1)∧W.cell? ⟨wr.heap.size,4,none⟩=some (.slice a2 m2 c2)∧W.cell? ⟨wr.heap.size,5,none⟩=some (.slice a3 m3 c3)∧W.cell? ⟨wr.heap.size,6,none⟩=some (.slice a4 m4 c4)∧W.cell? ⟨wr.heap.size,7,none⟩=some (.string n.key)∧W.cell? ⟨wr.heap.size,8,none⟩=some (.int .i64 n.most)∧W.cell? ⟨wr.heap.size,9,none⟩=some (.string n.node)∧W.cell? ⟨wr.heap.size,10,none⟩=some (.bool n.hold))∧(W.cell? ⟨b,off+q*11,none⟩=some (.string n9.name)∧W.cell? ⟨b,off+q*11+1,none⟩=some (.string n9.owner)∧W.cell? ⟨b,off+q*11+2,none⟩=some (.int .i64 n9.prio)∧W.cell? ⟨b,off+q*11+3,none⟩=some (.slice b1 h1 d1)∧W.cell? ⟨b,off+q*11+4,none⟩=some (.slice b2 h2 d2)∧W.cell? ⟨b,off+q*11+5,none⟩=some (.slice b3 h3 d3)∧W.cell? ⟨b,off+q*11+6,none⟩=some (.slice b4 h4 d4)∧W.cell? ⟨b,off+q*11+7,none⟩=some (.string n9.key)∧W.cell? ⟨b,off+q*11+8,none⟩=some (.int .i64 n9.most)∧W.cell? ⟨b,off+q*11+9,none⟩=some (.string n9.node)∧W.cell? ⟨b,off+q*11+10,none⟩=some (.bool n9.hold)))
               (first | exact HO.out _ (Kept.drew _) | exact HO.out _ J1.out | exact HO.out _ J2.out)
               (first | (go_at_call 189;refine(HNA.out _).mono ?_;rintro e1 w2 ⟨rfl,k1⟩;have J1:=lH ((Kept.drew _).trans k1);clear k1)
                      | (go_at_call 189;refine(HNB.out _).mono ?_;rintro e2 w3 ⟨rfl,k1⟩;have J2:=lH (J1.out.trans k1);clear k1))
              go_wp2;go_roundw
              case rel=>exact⟨k+1,by omega,by go_num,(show j4 (Yi l (k+1)) (l.drop (k+1))=j4 none l by rw[←HT.out,HD.out,Xc HCN.out (HP.out.trans N3.out),HNX.out]),HK.out.trans (KW.out.trans J2.out)⟩
              case measure=>simp[intOf];omega
        · have z1':(ck != 0)=true:=by simpa using z1
          have HB:=lH (show jK l=ck by rw[HS.out,HD.out,jaA (by rw[HCN.out];exact z1),HCN.out]);clear z1;go_wp2_with fail
          refine(HCK.out _ (ja _ _)).mono ?_;rintro e w1 ⟨rfl,kk⟩;have KW:=lH (Kept.trans (ja _ _) kk);have HBX:=lH (fun W k=>jg wr (.string n.name) [.string n.owner,.int .i64 n.prio,.slice a1 m1 c1,.slice a2 m2 c2,.slice a3 m3 c3,.slice a4 m4 c4,.string n.key,.int .i64 n.most,.string n.node,.bool n.hold] 62 W (Kept.trans kk k));have y0:=(HBX.out w1 (Kept.refl _)).at_ 0 _ rfl;have y1:=(HBX.out w1 (Kept.refl _)).at_ 1 _ rfl;have y2:=(HBX.out w1 (Kept.refl _)).at_ 2 _ rfl;have y3:=(HBX.out w1 (Kept.refl _)).at_ 3 _ rfl;have y4:=(HBX.out w1 (Kept.refl _)).at_ 4 _ rfl;have y5:=(HBX.out w1 (Kept.refl _)).at_ 5 _ rfl;have y6:=(HBX.out w1 (Kept.refl _)).at_ 6 _ rfl;have y7:=(HBX.out w1 (Kept.refl _)).at_ 7 _ rfl;have y8:=(HBX.out w1 (Kept.refl _)).at_ 8 _ rfl;have y9:=(HBX.out w1 (Kept.refl _)).at_ 9 _ rfl;have y10:=(HBX.out w1 (Kept.refl _)).at_ 10 _ rfl;clear kk;go_wp2;go_ret;exact⟨jb HB.out.symm,HK.out.trans KW.out⟩
      · have HE:=lH (show jK l=0 by rw[HS.out,List.drop_of_length_le (by rw[HL.out];omega)];rfl);clear hrest hK;go_wp2;go_ret;exact⟨jb HE.out.symm,HK.out⟩
theorem jfq (a:Option Addr) (len cap:Nat) (l:List Pd) (w:World) (hr:Jd w a len l) :
 Calls Tryz.prog 142 #[.slice a len cap] w (Say (.int .i64 (jK l)) w):=by
 have H:=lH (jed a len cap l w hr);clear hr;go_enter Tryz.func142,Tryz.ntmps142;go_wp2_with fail
 refine H.out.mono ?_;rintro e w1 ⟨rfl,k⟩;have K:=lH k;clear k;go_wp2;go_ret;exact⟨rfl,K.out⟩
def jX:Option ByteArray→List Bd→Int
 | _,[]=>0
 | prev,n::t=>if zx n≠0 then zx n else if Vec.jI prev n.name=true then 13 else jX (some n.name) t
def jA (l:List Bd):Int:=if 8<l.length then 4 else jX none l
def Yk (l:List Bd) (k:Nat):Option ByteArray:=if k=0 then none else (l[k-1]?).map Bd.name
theorem jcS {l:List Bd} {k:Nat} (h:k=0) (s:ByteArray):Vec.jI (Yk l k) s=false:=by unfold Yk;rw[if_pos h];rfl
theorem jcC {l:List Bd} {k:Nat} {n:Bd} (h:¬k=0) (hn:l[k-1]?=some n) (s:ByteArray):Vec.jI (Yk l k) s=leS s n.name:=by unfold Yk;rw[if_neg h,hn];rfl
theorem jct {l:List Bd} {k:Nat} {n:Bd} (hn:l[k]?=some n):Yk l (k+1)=some n.name:=by unfold Yk;rw[if_neg (by omega),Nat.add_sub_cancel,hn];rfl
theorem jbB {p:Option ByteArray} {n:Bd} {t:List Bd} (h:zx n≠0):jX p (n::t)=zx n:=by rw[jX,if_pos h]
theorem jab {p:Option ByteArray} {n:Bd} {t:List Bd} (h:zx n=0) (b:Vec.jI p n.name=true):jX p (n::t)=13:=by rw[jX,if_neg (by rw[h];decide),if_pos b]
theorem Xt {p:Option ByteArray} {n:Bd} {t:List Bd} (h:zx n=0) (b:Vec.jI p n.name=false):jX p (n::t)=jX (some n.name) t:=by rw[jX,if_neg (by rw[h];decide),if_neg (by rw[b];decide)]
theorem jcB (n:Bd) (v1:Value) (w:World):Calls Tryz.prog 191 #[Zt n v1] w fun e w'=>e=.returned (.string n.name)∧Kept w w':=by
 unfold Zt;go_enter Tryz.func191,Tryz.ntmps191;go_wp2;go_ret;exact⟨rfl,ja _ _⟩
theorem jeu (a:Option Addr) (len cap:Nat) (l:List Bd) (w:World) (hr:Je w a len l) :
 Calls Tryz.prog 190 #[.slice a len cap,.int .i64 8,.func (.func 191) #[] #[],.func (.func 185) #[] #[]] w (Say (.int .i64 (jA l)) w):=by
 have hl:=hr.1;have hm:=hr.2.1;unfold maxLen at hm;by_cases h32:8<len
 · have HV:=lH (show jA l=4 by unfold jA;rw[if_pos (by omega)]);clear hr hl;go_enter Tryz.func190,Tryz.ntmps190;go_wp2;go_ret;exact⟨jb HV.out.symm,Kept.refl _⟩
 · have HV:=lH (show jA l=jX none l by unfold jA;rw[if_neg (by omega)]);have h32':len≤8:=by omega
   by_cases h0:len=0
   · subst h0;have HE:=lH (show jA l=0 by rw[HV.out,List.eq_nil_of_length_eq_zero hl];rfl);clear hr hl h32;go_enter Tryz.func190,Tryz.ntmps190;go_wp2;refine wp_loop_rounds 1 ?_;rw[rounds_succ];go_wp2;go_ret;exact⟨jb HE.out.symm,Kept.refl _⟩
   · obtain⟨b,off,rfl⟩:=hr.form.resolve_left h0;have HR:=lH hr;have HL:=lH hl;clear hr hl h0 h32;go_enter Tryz.func190,Tryz.ntmps190;go_wp2;go_loopw [18] (fun i wr=>∃k:Nat,k≤len∧i=.int .i64 k∧jX (Yk l k) (l.drop k)=jX none l∧Kept w wr) (fun i _=>len-(intOf i).toNat)
     case atStart=>exact⟨0,Nat.zero_le _,rfl,rfl,Kept.refl _⟩
     case round =>
      obtain⟨k,hk,rfl,hrest,hK⟩:=hrel;have HS:=lH (HV.out.trans hrest.symm);have HT:=lH hrest;have HK:=lH hK;by_cases hlt:k<len
      · obtain⟨n,a1,m1,c1,hn,hd,hb,p0,p1,p2,hat⟩:=(HR.out.kept hK).at_ hlt;have HAT:=lH hat;have HD:=lH hd;have HNX:=lH (jct hn);have HCK:=lH (fun W (kk:Kept wr W)=>jdv n (.slice a1 m1 c1) W (HAT.out.kept kk));have HNA:=lH (fun W=>jcB n (.slice a1 m1 c1) W);unfold Zt at HCK HNA;obtain⟨ck,hck⟩:∃x,zx n=x:=⟨_,rfl⟩
        have HCN:=lH hck;rw[hck] at HCK;have hkk:(k:Int)<(len:Int):=by omega
        clear hrest hK hat hd hck;by_cases z1:ck=0
        · subst z1;by_cases h0:k=0
          · have hd0:decide (0<k)=false:=by subst h0;decide
            have HP:=lH (jcS (l:=l) h0 n.name);clear h0;go_wp2_with fail
            refine(HCK.out _ (ja _ _)).mono ?_;rintro e w1 ⟨rfl,kk⟩;have KW:=lH (Kept.trans (ja _ _) kk);have HBX:=lH (fun W k=>jg wr (.string n.name) [.slice a1 m1 c1,.int .i64 n.floor] 66 W (Kept.trans kk k));have y0:=(HBX.out w1 (Kept.refl _)).at_ 0 _ rfl;have y1:=(HBX.out w1 (Kept.refl _)).at_ 1 _ rfl;have y2:=(HBX.out w1 (Kept.refl _)).at_ 2 _ rfl;clear kk;go_wp2;go_quiet (fail)
            go_wp2;go_roundw
            case rel=>exact⟨k+1,by omega,by go_num,(show jX (Yk l (k+1)) (l.drop (k+1))=jX none l by rw[←HT.out,HD.out,Xt HCN.out HP.out,HNX.out]),HK.out.trans (KW.out.trans (Kept.drewN _ _))⟩
            case measure=>simp[intOf];omega
          · have hd0:decide (0<k)=true:=by simp;omega
            obtain⟨q,hqk⟩:∃q,k=q+1:=⟨k-1,by omega⟩
            have g1:(k:Int)-1=(q:Int):=by omega
            have gw:IntKind.i64.wrap (q:Int)=(q:Int):=by rw[IntKind.wrap_i64];omega
            have g2:(q:Int)<(len:Int):=by omega
            obtain⟨n9,b1,h1,d1,hn9,-,hb9,q0,q1,q2,-⟩:=(HR.out.kept HK.out).at_ (show q<len by omega);have HQK:=lH hqk;have hqk1:k-1=q:=by omega
            have HP:=lH (jcC (l:=l) h0 (show l[k-1]?=some n9 by rw[hqk1];exact hn9) n.name);clear hqk hqk1;have HNB:=lH (fun W=>jcB n9 (.slice b1 h1 d1) W);unfold Zt at HNB;clear h0 hn9;by_cases n3:leS n.name n9.name=true
            · have n3':(Op.bytesLess n.name.toList n9.name.toList||n.name.toList==n9.name.toList)=true:=n3;have N3:=lH n3;clear n3;go_wp2_with fail
              refine(HCK.out _ (ja _ _)).mono ?_;rintro e w1 ⟨rfl,kk⟩;have KW:=lH (Kept.trans (ja _ _) kk);have HBX:=lH (fun W k=>jg wr (.string n.name) [.slice a1 m1 c1,.int .i64 n.floor] 66 W (Kept.trans kk k));have y0:=(HBX.out w1 (Kept.refl _)).at_ 0 _ rfl;have y1:=(HBX.out w1 (Kept.refl _)).at_ 1 _ rfl;have y2:=(HBX.out w1 (Kept.refl _)).at_ 2 _ rfl;have HO:=lH (show ∀W,Kept w1 W→(W.cell? ⟨wr.heap.size,0,none⟩=some (.string n.name)∧W.cell? ⟨wr.heap.size,1,none⟩=some (.slice a1 m1 c1)∧W.cell? ⟨wr.heap.size,2,none⟩=some (.int .i64 n.floor))∧(W.cell? ⟨b,off+q*3,none⟩=some (.string n9.name)∧W.cell? ⟨b,off+q*3+1,none⟩=some (.slice b1 h1 d1)∧W.cell? ⟨b,off+q*3+2,none⟩=some (.int .i64 n9.floor)) from fun W k=>⟨⟨(HBX.out W k).at_ 0 _ rfl,(HBX.out W k).at_ 1 _ rfl,(HBX.out W k).at_ 2 _ rfl⟩,⟨cell_later (KW.out.trans k) q0,cell_later (KW.out.trans k) q1,cell_later (KW.out.trans k) q2⟩⟩);clear kk q0 q1 q2;go_wp2;go_region_held3 (fun W=>(W.cell? ⟨wr.heap.size,0,none⟩=some (.string n.name)∧W.cell? ⟨wr.heap.size,1,none⟩=some (.slice a1 m1 c1)∧W.cell? ⟨wr.heap.size,2,none⟩=some (.int .i64 n.floor))∧(W.cell? ⟨b,off+q*3,none⟩=some (.string n9.name)∧W.cell? ⟨b,off+q*3+1,none⟩=some (.slice b1 h1 d1)∧W.cell? ⟨b,off+q*3+2,none⟩=some (.int .i64 n9.floor)))
               (first | exact HO.out _ (Kept.drew _) | exact HO.out _ J1.out | exact HO.out _ J2.out)
               (first | (go_at_call 191;refine(HNA.out _).mono ?_;rintro e1 w2 ⟨rfl,k1⟩;have J1:=lH ((Kept.drew _).trans k1);clear k1)
                      | (go_at_call 191;refine(HNB.out _).mono ?_;rintro e2 w3 ⟨rfl,k1⟩;have J2:=lH (J1.out.trans k1);clear k1))
              go_wp2;go_ret;exact⟨jb (show (13:Int)=jA l by rw[HS.out,HD.out,jab HCN.out (HP.out.trans N3.out)]),HK.out.trans (KW.out.trans J2.out)⟩
            · have n3:leS n.name n9.name=false:=by simpa using n3
              have n3':(Op.bytesLess n.name.toList n9.name.toList||n.name.toList==n9.name.toList)=false:=n3;have N3:=lH n3;clear n3;go_wp2_with fail
              refine(HCK.out _ (ja _ _)).mono ?_;rintro e w1 ⟨rfl,kk⟩;have KW:=lH (Kept.trans (ja _ _) kk);have HBX:=lH (fun W k=>jg wr (.string n.name) [.slice a1 m1 c1,.int .i64 n.floor] 66 W (Kept.trans kk k));have y0:=(HBX.out w1 (Kept.refl _)).at_ 0 _ rfl;have y1:=(HBX.out w1 (Kept.refl _)).at_ 1 _ rfl;have y2:=(HBX.out w1 (Kept.refl _)).at_ 2 _ rfl;have HO:=lH (show ∀W,Kept w1 W→(W.cell? ⟨wr.heap.size,0,none⟩=some (.string n.name)∧W.cell? ⟨wr.heap.size,1,none⟩=some (.slice a1 m1 c1)∧W.cell? ⟨wr.heap.size,2,none⟩=some (.int .i64 n.floor))∧(W.cell? ⟨b,off+q*3,none⟩=some (.string n9.name)∧W.cell? ⟨b,off+q*3+1,none⟩=some (.slice b1 h1 d1)∧W.cell? ⟨b,off+q*3+2,none⟩=some (.int .i64 n9.floor)) from fun W k=>⟨⟨(HBX.out W k).at_ 0 _ rfl,(HBX.out W k).at_ 1 _ rfl,(HBX.out W k).at_ 2 _ rfl⟩,⟨cell_later (KW.out.trans k) q0,cell_later (KW.out.trans k) q1,cell_later (KW.out.trans k) q2⟩⟩);clear kk q0 q1 q2;go_wp2;go_region_held3 (fun W=>(W.cell? ⟨wr.heap.size,0,none⟩=some (.string n.name)∧W.cell? ⟨wr.heap.size,1,none⟩=some (.slice a1 m1 c1)∧W.cell? ⟨wr.heap.size,2,none⟩=some (.int .i64 n.floor))∧(W.cell? ⟨b,off+q*3,none⟩=some (.string n9.name)∧W.cell? ⟨b,off+q*3+1,none⟩=some (.slice b1 h1 d1)∧W.cell? ⟨b,off+q*3+2,none⟩=some (.int .i64 n9.floor)))
               (first | exact HO.out _ (Kept.drew _) | exact HO.out _ J1.out | exact HO.out _ J2.out)
               (first | (go_at_call 191;refine(HNA.out _).mono ?_;rintro e1 w2 ⟨rfl,k1⟩;have J1:=lH ((Kept.drew _).trans k1);clear k1)
                      | (go_at_call 191;refine(HNB.out _).mono ?_;rintro e2 w3 ⟨rfl,k1⟩;have J2:=lH (J1.out.trans k1);clear k1))
              go_wp2;go_roundw
              case rel=>exact⟨k+1,by omega,by go_num,(show jX (Yk l (k+1)) (l.drop (k+1))=jX none l by rw[←HT.out,HD.out,Xt HCN.out (HP.out.trans N3.out),HNX.out]),HK.out.trans (KW.out.trans J2.out)⟩
              case measure=>simp[intOf];omega
        · have z1':(ck != 0)=true:=by simpa using z1
          have HB:=lH (show jA l=ck by rw[HS.out,HD.out,jbB (by rw[HCN.out];exact z1),HCN.out]);clear z1;go_wp2_with fail
          refine(HCK.out _ (ja _ _)).mono ?_;rintro e w1 ⟨rfl,kk⟩;have KW:=lH (Kept.trans (ja _ _) kk);have HBX:=lH (fun W k=>jg wr (.string n.name) [.slice a1 m1 c1,.int .i64 n.floor] 66 W (Kept.trans kk k));have y0:=(HBX.out w1 (Kept.refl _)).at_ 0 _ rfl;have y1:=(HBX.out w1 (Kept.refl _)).at_ 1 _ rfl;have y2:=(HBX.out w1 (Kept.refl _)).at_ 2 _ rfl;clear kk;go_wp2;go_ret;exact⟨jb HB.out.symm,HK.out.trans KW.out⟩
      · have HE:=lH (show jA l=0 by rw[HS.out,List.drop_of_length_le (by rw[HL.out];omega)];rfl);clear hrest hK;go_wp2;go_ret;exact⟨jb HE.out.symm,HK.out⟩
theorem je8 (a:Option Addr) (len cap:Nat) (l:List Bd) (w:World) (hr:Je w a len l) :
 Calls Tryz.prog 143 #[.slice a len cap] w (Say (.int .i64 (jA l)) w):=by
 have H:=lH (jeu a len cap l w hr);clear hr;go_enter Tryz.func143,Tryz.ntmps143;go_wp2_with fail
 refine H.out.mono ?_;rintro e w1 ⟨rfl,k⟩;have K:=lH k;clear k;go_wp2;go_ret;exact⟨rfl,K.out⟩
structure Clu where
 nodes:List Nod
 pods:List Pd
 buds:List Bd
abbrev jnN (v1 v2 v3:Value):Value:=.agg #[v1,v2,v3]
structure jdH (w:World) (v1 v2 v3:Value) (s:Clu):Prop where
 nodes:Zf w v1 s.nodes
 pods:Yw w v2 s.pods
 buds:ZQ w v3 s.buds
theorem jdH.kept {w w':World} {v1 v2 v3:Value} {s:Clu} (h:jdH w v1 v2 v3 s) (k:Kept w w'):jdH w' v1 v2 v3 s:=⟨h.nodes.kept k,h.pods.kept k,h.buds.kept k⟩
def Zl (w:World) (v:Value) (s:Clu):Prop:=∃v1 v2 v3,v=jnN v1 v2 v3∧jdH w v1 v2 v3 s
theorem Zl.kept {w w':World} {v:Value} {s:Clu} (h:Zl w v s) (k:Kept w w'):Zl w' v s:=by
 obtain⟨v1,v2,v3,e,h⟩:=h;exact⟨v1,v2,v3,e,h.kept k⟩
structure jdw (s:Clu):Prop where
 nodes:∀n ∈ s.nodes,zO n
 pods:∀n ∈ s.pods,jdZ n
 buds:∀n ∈ s.buds,n.sel.length≤1000000
 nodesN:s.nodes.length≤100000
 podsN:s.pods.length≤100000
 budsN:s.buds.length≤100000
def zF (x:ByteArray):List Pd→Vec.V→Int×Vec.V
 | [],v=>(0,v)
 | p::t,v=>if eqS p.node x=true then (if (Vec.jx Vec.jR v p.need).1=0 then zF x t (Vec.jx Vec.jR v p.need).2 else ((Vec.jx Vec.jR v p.need).1,[])) else zF x t v
theorem jeG {x:ByteArray} {p:Pd} {t:List Pd} {v:Vec.V} (h:eqS p.node x=false):zF x (p::t) v=zF x t v:=by
 rw[zF,if_neg (by rw[h];decide)]
theorem jgo {x:ByteArray} {p:Pd} {t:List Pd} {v m:Vec.V} (h:eqS p.node x=true) (g:Vec.jx Vec.jR v p.need=(0,m)):zF x (p::t) v=zF x t m:=by
 rw[zF,if_pos h,g,if_pos rfl]
theorem jgY {x:ByteArray} {p:Pd} {t:List Pd} {v m:Vec.V} {c:Int} (h:eqS p.node x=true) (g:Vec.jx Vec.jR v p.need=(c,m)) (hc:c≠0):zF x (p::t) v=(c,[]):=by
 rw[zF,if_pos h,g,if_neg hc]
def JN:List Nod→Vec.V→Int×Vec.V
 | [],v=>(0,v)
 | n::t,v=>if (Vec.jx Vec.jR v n.cap).1=0 then JN t (Vec.jx Vec.jR v n.cap).2 else ((Vec.jx Vec.jR v n.cap).1,[])
theorem jf4 {n:Nod} {t:List Nod} {v m:Vec.V} (g:Vec.jx Vec.jR v n.cap=(0,m)):JN (n::t) v=JN t m:=by
 rw[JN,g,if_pos rfl]
theorem jg0 {n:Nod} {t:List Nod} {v m:Vec.V} {c:Int} (g:Vec.jx Vec.jR v n.cap=(c,m)) (hc:c≠0):JN (n::t) v=(c,[]):=by
 rw[JN,g,if_neg hc]
def X5 (s:Clu) (x:ByteArray):Int×Vec.V:=match jT s.nodes x with | none=>(3,[]) | some n=>zF n.name s.pods []
def jnd (s:Clu):Int×Vec.V:=JN s.nodes []
def jz (nodes:List Nod):List Pd→Int
 | []=>0
 | p::t=>if Zj p.node=false∧(jT nodes p.node).isSome=false then 3 else jz nodes t
theorem jdx {nodes:List Nod} {p:Pd} {t:List Pd} (h:Zj p.node=false) (g:(jT nodes p.node).isSome=false):jz nodes (p::t)=3:=by
 rw[jz,if_pos ⟨h,g⟩]
theorem jcE {nodes:List Nod} {p:Pd} {t:List Pd} (h:Zj p.node=true):jz nodes (p::t)=jz nodes t:=by
 rw[jz,if_neg (by rw[h];simp)]
theorem jcz {nodes:List Nod} {p:Pd} {t:List Pd} (g:(jT nodes p.node).isSome=true):jz nodes (p::t)=jz nodes t:=by
 rw[jz,if_neg (by rw[g];simp)]
def jV (pods:List Pd):List Nod→Int
 | []=>0
 | n::t=>if (zF n.name pods []).1=0 then (if Vec.jP n.cap (zF n.name pods []).2=true then jV pods t else 7) else (zF n.name pods []).1
theorem jeP {pods:List Pd} {n:Nod} {t:List Nod} {c:Int} {u:Vec.V} (h:zF n.name pods []=(c,u)) (hc:c≠0):jV pods (n::t)=c:=by
 rw[jV,h,if_neg hc]
theorem jdj {pods:List Pd} {n:Nod} {t:List Nod} {u:Vec.V} (h:zF n.name pods []=(0,u)) (hf:Vec.jP n.cap u=false):jV pods (n::t)=7:=by
 rw[jV,h,if_pos rfl,if_neg (by rw[hf];decide)]
theorem jdn {pods:List Pd} {n:Nod} {t:List Nod} {u:Vec.V} (h:zF n.name pods []=(0,u)) (hf:Vec.jP n.cap u=true):jV pods (n::t)=jV pods t:=by
 rw[jV,h,if_pos rfl,if_pos hf]
def zB (s:Clu):Int :=
 if or3 (jJ s.nodes) (jK s.pods) (jA s.buds)≠0 then or3 (jJ s.nodes) (jK s.pods) (jA s.buds)
 else if jz s.nodes s.pods≠0 then jz s.nodes s.pods
 else if jV s.pods s.nodes≠0 then jV s.pods s.nodes
 else (JN s.nodes []).1
theorem jm9:Tryz.prog.cellsOf 26=3:=by kernel_rfl
theorem jl9:Tryz.prog.cellsOf 22=1:=by kernel_rfl
theorem jl6:Tryz.prog.cellsOf 23=1:=by kernel_rfl
theorem jlX:Tryz.prog.cellsOf 24=1:=by kernel_rfl
theorem jhm {H:Type} {enc:TypeId×Value→H} {w:World} {base fuel:Nat} {sp:Nat→Bool} {held:Bool} {cs:List Value} {x:DataW H×List MemPlace} (h:DataW.trod enc Tryz.prog w base sp held fuel 26 cs=some x) :
 ∃v1 v2 v3 s,cs=[v1,v2,v3]∧jdH w v1 v2 v3 s:=by
 obtain⟨ys,m,-,-,hlen,hyl,hf⟩:=DataW.trod_struct Tryz.underlying26 h;rw[jm9] at hlen
 match cs,hlen with
 | [c0,c1,c2],_ =>
  have h0:DataW.trod enc Tryz.prog w base sp held m 22 (([c0,c1,c2].drop 0).take (Tryz.prog.cellsOf 22))=ys[0]?:=hf 0 _ rfl;rw[jl9] at h0;obtain⟨y0,e0⟩:∃y,ys[0]?=some y:=⟨_,List.getElem?_eq_getElem (by rw[hyl];decide)⟩
  rw[e0] at h0;have h1:DataW.trod enc Tryz.prog w base sp held m 23 (([c0,c1,c2].drop 1).take (Tryz.prog.cellsOf 23))=ys[1]?:=hf 1 _ rfl;rw[jl6] at h1;obtain⟨y1,e1⟩:∃y,ys[1]?=some y:=⟨_,List.getElem?_eq_getElem (by rw[hyl];decide)⟩
  rw[e1] at h1;have h2:DataW.trod enc Tryz.prog w base sp held m 24 (([c0,c1,c2].drop 2).take (Tryz.prog.cellsOf 24))=ys[2]?:=hf 2 _ rfl;rw[jlX] at h2;obtain⟨y2,e2⟩:∃y,ys[2]?=some y:=⟨_,List.getElem?_eq_getElem (by rw[hyl];decide)⟩
  rw[e2] at h2;simp only[List.drop_zero,List.take_succ_cons,List.take_zero,List.drop_succ_cons] at h0 h1 h2;obtain⟨l0,r0⟩:=jfe h0;obtain⟨l1,r1⟩:=jfC h1;obtain⟨l2,r2⟩:=jfT h2;exact⟨c0,c1,c2,⟨l0,l1,l2⟩,rfl,⟨r0,r1,r2⟩⟩
theorem jna {H:Type} {enc:TypeId×Value→H} {W:World} {r:Reach} {b0 base:Nat} {sp:Nat→Bool} {held:Bool} {v:Value} {d:DataW H} {ps:List MemPlace} (hval:Value.okWide Tryz.prog W r b0 26 v) (h:DataW.Trod enc Tryz.prog W base sp held 26 v d ps):∃s,Zl W v s:=by
 obtain⟨cs,rfl,hsz⟩:=okWide_struct Tryz.underlying26 hval;obtain⟨fuel,hf⟩:=h;obtain⟨v1,v2,v3,s,ha,hat⟩:=jhm hf;have e:cs.toList=[v1,v2,v3]:=by
  have:(Value.agg cs).cells.toList=[v1,v2,v3]:=ha;simpa [Value.cells] using this
 have:cs=#[v1,v2,v3]:=Array.ext' e;rw[this];exact⟨s,v1,v2,v3,rfl,hat⟩
def Zx (a b:ByteArray):Int:=if ltS a b=true then -1 else if eqS a b=true then 0 else 1
theorem jgC (x:ByteArray) (w:World):Calls Tryz.prog 155 #[.string x] w fun e w'=>e=.returned (.bool false)∧w=w':=by
 have h:(x.toList==x.toList)=true:=by simp
 go_enter Tryz.func155,Tryz.ntmps155;go_wp2;go_ret;exact⟨rfl,rfl⟩
theorem jc6 (a b:ByteArray) (w:World):Calls Tryz.prog 121 #[.string a,.string b] w fun e w'=>e=.returned (.int .i64 (Zx a b))∧w=w':=by
 have HA:=lH (jgC a w);have HB:=lH (jgC b w)
 cases h:ltS a b with
 | true =>
  have h':Op.bytesLess a.toList b.toList=true:=h;have HV:=lH (show Zx a b=-1 by unfold Zx;rw[if_pos h]);clear h;go_enter Tryz.func121,Tryz.ntmps121;go_wp2_with fail
  refine HA.out.mono ?_;rintro e w1 ⟨rfl,rfl⟩;go_wp2_with fail
  refine HB.out.mono ?_;rintro e w2 ⟨rfl,rfl⟩;go_wp2;go_ret;exact⟨jb HV.out.symm,rfl⟩
 | false =>
  have h':Op.bytesLess a.toList b.toList=false:=h
  cases g:eqS a b with
  | true =>
   have g':(a.toList==b.toList)=true:=g;have HV:=lH (show Zx a b=0 by unfold Zx;rw[if_neg (by rw[h];decide),if_pos g]);clear h g;go_enter Tryz.func121,Tryz.ntmps121;go_wp2_with fail
   refine HA.out.mono ?_;rintro e w1 ⟨rfl,rfl⟩;go_wp2_with fail
   refine HB.out.mono ?_;rintro e w2 ⟨rfl,rfl⟩;go_wp2;go_ret;exact⟨jb HV.out.symm,rfl⟩
  | false =>
   have g':(a.toList==b.toList)=false:=g;have HV:=lH (show Zx a b=1 by unfold Zx;rw[if_neg (by rw[h];decide),if_neg (by rw[g];decide)]);clear h g;go_enter Tryz.func121,Tryz.ntmps121;go_wp2_with fail
   refine HA.out.mono ?_;rintro e w1 ⟨rfl,rfl⟩;go_wp2_with fail
   refine HB.out.mono ?_;rintro e w2 ⟨rfl,rfl⟩;go_wp2;go_ret;exact⟨jb HV.out.symm,rfl⟩
def zo (x:ByteArray):List ByteArray→Nat
 | []=>0
 | y::t=>if ltS y x=true then zo x t+1 else 0
def hasB (x:ByteArray) (l:List ByteArray):Bool:=l.any fun y=>eqS y x
def Zs (l:List ByteArray):Prop:=l.Pairwise fun x y=>ltS x y=true
theorem Yr (x:ByteArray):∀l:List ByteArray,zo x l≤l.length
 | []=>Nat.le_refl _
 | y::t=>by
  have:=Yr x t;rw[zo];split
  · rw[List.length_cons];omega
  · exact Nat.zero_le _
theorem jb7 {x:ByteArray}:∀{l:List ByteArray} {h:Nat} {y:ByteArray},Zs l→l[h]?=some y→ltS y x=true→h+1≤zo x l
 | z::t,0,y,ha,hy,e=>by
  obtain rfl:z=y:=by simpa using hy
  rw[zo,if_pos e];omega
 | z::t,h+1,y,ha,hy,e=>by
  obtain⟨h1,h2⟩:=List.pairwise_cons.1 ha;have hy':t[h]?=some y:=by simpa using hy
  have:=jb7 (x:=x) h2 hy' e;rw[zo,if_pos (Vec.JZ (h1 y (List.mem_of_getElem? hy')) e)];omega
theorem jb2 {x:ByteArray}:∀{l:List ByteArray} {h:Nat} {y:ByteArray},l[h]?=some y→ltS y x=false→zo x l≤h
 | z::t,0,y,hy,e=>by
  obtain rfl:z=y:=by simpa using hy
  rw[zo,if_neg (by rw[e];decide)];omega
 | z::t,h+1,y,hy,e=>by
  have:=jb2 (x:=x) (l:=t) (h:=h) (y:=y) (by simpa using hy) e;rw[zo];split
  · omega
  · exact Nat.zero_le _
theorem jca {x:ByteArray}:∀{l:List ByteArray} {y:ByteArray},Zs l→l[zo x l]?=some y→hasB x l=eqS y x
 | z::t,y,ha,hy=>by
  obtain⟨h1,h2⟩:=List.pairwise_cons.1 ha;unfold hasB;rw[List.any_cons]
  cases e:ltS z x with
  | true =>
   rw[zo,if_pos e] at hy;have:=jca (x:=x) h2 (by simpa using hy);unfold hasB at this;rw[this,show eqS z x=false from by
    cases g:eqS z x with
    | false=>rfl
    | true=>exact absurd (zt.1 g) (Vec.Xr e)]
   rfl
  | false =>
   rw[zo,if_neg (by rw[e];decide)] at hy;obtain rfl:z=y:=by simpa using hy
   cases g:eqS z x with
   | true=>rfl
   | false =>
    show (false||t.any fun y=>eqS y x)=false;rw[Bool.false_or,List.any_eq_false];intro r hr g2;have hlt:=h1 r hr;rw[zt.1 g2] at hlt;rw[hlt] at e
    cases e
theorem jay {x:ByteArray}:∀{l:List ByteArray},l.length≤zo x l→hasB x l=false
 | [],_=>rfl
 | z::t,h=>by
  rw[zo] at h;split at h
  · rename_i e;have:=jay (x:=x) (l:=t) (by rw[List.length_cons] at h;omega);unfold hasB at this ⊢;rw[List.any_cons,this,show eqS z x=false from by
     cases g:eqS z x with
     | false=>rfl
     | true=>exact absurd (zt.1 g) (Vec.Xr e)]
    rfl
  · rw[List.length_cons] at h;omega
theorem jcZ {a b:ByteArray} (h:ltS a b=true):Zx a b=-1:=by unfold Zx;rw[if_pos h]
theorem jdc {a b:ByteArray} (h:ltS a b=false):Zx a b=if eqS a b=true then 0 else 1:=by unfold Zx;rw[if_neg (by rw[h];decide)]
theorem jec {a b:ByteArray}:(Zx a b==0)=eqS a b:=by
 unfold Zx
 cases h:ltS a b with
 | true =>
  rw[if_pos rfl]
  cases g:eqS a b with
  | false=>rfl
  | true=>exact absurd (zt.1 g) (Vec.Xr h)
 | false =>
  rw[if_neg (by decide)]
  cases g:eqS a b with
  | false=>rfl
  | true=>rfl
def jbM (d:Array Value):Nat→List Value→Array Value
 | _,[]=>d
 | k,x::r=>jbM (d.setIfInBounds k x) (k+1) r
theorem Z3:∀(xs:List Value) (d:Array Value) (k:Nat),(jbM d k xs).size=d.size
 | [],_,_=>rfl
 | x::r,d,k=>by rw[jbM,Z3 r];simp
theorem YH:∀(xs:List Value) (d:Array Value) (k j:Nat),k+xs.length≤d.size→(jbM d k xs)[j]?=if k≤j∧j<k+xs.length then xs[j-k]? else d[j]?
 | [],d,k,j,_=>by rw[jbM,if_neg (by simp only[List.length_nil];omega)]
 | x::r,d,k,j,h=>by
  have hl:k+(r.length+1)≤d.size:=by simpa using h
  rw[jbM,YH r _ _ _ (by simp;omega)];simp only[List.length_cons];by_cases c1:k+1≤j∧j<k+1+r.length
  · rw[if_pos c1,if_pos (by omega),show j-k=(j-(k+1))+1 by omega,List.getElem?_cons_succ]
  · rw[if_neg c1];by_cases c2:j=k
    · subst c2;rw[if_pos (by omega),Nat.sub_self,List.getElem?_cons_zero,Array.getElem?_setIfInBounds_self_of_lt (by omega)]
    · rw[if_neg (by omega),Array.getElem?_setIfInBounds_ne (by omega)]
theorem YP:∀(vs:List Value) (g o:Nat) (w:World) (cur:Array Value) (e:TypeId),w.heap[g]?=some (.cells cur e (0,0))→(w.setCells g o vs).heap[g]?=some (.cells (jbM cur o vs) e (0,0))
 | [],_,_,_,_,_,h=>h
 | v::r,g,o,w,cur,e,h=>by
  rw[World.setCells,jbM];exact YP r g (o+1) _ _ e (heap_setCell_same w g o cur e v h)
theorem ZH {w:World} {B:Nat} {e:TypeId} {s g n cap:Nat} {xs:List Value} (h:w.ownsRow B e s (.slice (some ⟨g,0,none⟩) n cap) n xs) :
 ∃cur,B≤g∧w.heap[g]?=some (.cells cur e (0,0))∧n≤cap∧cap≤maxLen∧cur.size=cap*s∧cur.toList.take (n*s)=xs∧xs.length=n*s:=by
 obtain⟨hl,h⟩:=h;rcases h with ⟨h0,_⟩ | ⟨g2,cap2,cur,h0,hb,hg,hn,hm,hs,ht⟩
 · cases h0
 · cases h0
   exact⟨cur,hb,hg,hn,hm,hs,ht,hl⟩
theorem jhf {cur:Array Value} {m:Nat} {xs:List Value} (hl:xs.length=m) (hm:m≤cur.size) (h:∀j,j<m→cur[j]?=xs[j]?):cur.toList.take m=xs:=by
 apply List.ext_getElem?;intro j;rw[List.getElem?_take];by_cases hj:j<m
 · rw[if_pos hj,Array.getElem?_toList];exact h j hj
 · rw[if_neg hj,List.getElem?_eq_none (by omega)]
theorem jcI {cur:Array Value} {m j:Nat} {xs:List Value} (ht:cur.toList.take m=xs) (hj:j<m):cur[j]?=xs[j]?:=by
 rw[←ht,List.getElem?_take,if_pos hj,Array.getElem?_toList]
theorem jd8 {w:World} {B:Nat} {e:TypeId} {s g n cap:Nat} {xs:List Value} {cur:Array Value} (hB:B≤g) (hg:w.heap[g]?=some (.cells cur e (0,0))) (hn:n≤cap) (hm:cap≤maxLen) (hs:cur.size=cap*s) (hl:xs.length=n*s) (h:∀j,j<n*s→cur[j]?=xs[j]?) :
 w.ownsRow B e s (.slice (some ⟨g,0,none⟩) n cap) n xs :=
 ⟨hl,.inr ⟨g,cap,cur,rfl,hB,hg,hn,hm,hs,jhf hl (by rw[hs];exact Nat.mul_le_mul_right s hn) h⟩⟩
theorem jlU {w:World} {B:Nat} {e:TypeId} {s g n cap o:Nat} {xs vs:List Value} (h:w.ownsRow B e s (.slice (some ⟨g,0,none⟩) n cap) n xs) (ho:o+vs.length≤n*s) :
 (w.setCells g o vs).ownsRow B e s (.slice (some ⟨g,0,none⟩) n cap) n (xs.take o++vs++xs.drop (o+vs.length)):=by
 obtain⟨cur,hB,hg,hn,hm,hs,ht,hl⟩:=ZH h;have hns:n*s≤cap*s:=Nat.mul_le_mul_right s hn;refine jd8 hB (YP vs g o w cur e hg) hn hm (by rw[Z3];exact hs) (by simp;omega) (fun j hj=>?_);rw[YH _ _ _ _ (by omega)];by_cases c1:o≤j∧j<o+vs.length
 · rw[if_pos c1,List.append_assoc,List.getElem?_append_right (by simp;omega),List.getElem?_append_left (by simp;omega)];congr 1
   simp;omega
 · rw[if_neg c1,jcI ht hj];by_cases c2:j<o
   · rw[List.append_assoc,List.getElem?_append_left (by simp;omega),List.getElem?_take,if_pos c2]
   · rw[List.getElem?_append_right (by simp;omega),List.getElem?_drop];congr 1
     simp;omega
theorem ja0 {w:World} {B:Nat} {e:TypeId} {s g n cap i:Nat} {xs vs:List Value} (h:w.ownsRow B e s (.slice (some ⟨g,0,none⟩) n cap) n xs) (hi:i≤n) (hv:vs.length=s) (hr:n+1≤cap) :
 ((w.setCells g ((i+1)*s) (xs.drop (i*s))).setCells g (i*s) vs).ownsRow B e s (.slice (some ⟨g,0,none⟩) (n+1) cap) (n+1) (xs.take (i*s)++vs++xs.drop (i*s)):=by
 obtain⟨cur,hB,hg,hn,hm,hs,ht,hl⟩:=ZH h;have hns:(n+1)*s≤cap*s:=Nat.mul_le_mul_right s hr;have his:i*s≤n*s:=Nat.mul_le_mul_right s hi;have e0:(n+1)*s=n*s+s:=by rw[Nat.add_mul,Nat.one_mul]
 have e1:(i+1)*s=i*s+s:=by rw[Nat.add_mul,Nat.one_mul]
 have hld:(xs.drop (i*s)).length=n*s-i*s:=by rw[List.length_drop,hl]
 refine jd8 hB (YP vs g _ _ _ e (YP _ g ((i+1)*s) w cur e hg)) hr hm (by rw[Z3,Z3];exact hs) (by rw[List.length_append,List.length_append,List.length_take,hld,hl,e0];omega) (fun t htl=>?_);rw[e0] at htl;rw[YH _ _ _ _ (by rw[Z3,hv];omega),hv];by_cases c1:t<i*s
 · rw[if_neg (by omega),YH _ _ _ _ (by rw[hld,e1];omega),if_neg (by omega),jcI ht (by omega),List.append_assoc,List.getElem?_append_left (by rw[List.length_take,hl];omega),List.getElem?_take,if_pos c1]
 · by_cases c2:t<i*s+s
   · rw[if_pos (by omega),List.append_assoc,List.getElem?_append_right (by rw[List.length_take,hl];omega),List.getElem?_append_left (by rw[List.length_take,hl,hv];omega),List.length_take,hl];congr 1
     omega
   · rw[if_neg (by omega),YH _ _ _ _ (by rw[hld,e1];omega),hld,e1,if_pos (by omega),List.getElem?_append_right (by rw[List.length_append,List.length_take,hl,hv];omega),List.length_append,List.length_take,hl,hv];congr 1
     omega
theorem zv (w:World) (dT sT ty elem:TypeId) (i0:TypeInfo) (b o dLen dCap:Nat) (a:Addr) (sLen sCap:Nat) (cs:List Value)
 (hu:Tryz.prog.underlying dT=some (.slice elem)) (hi:Tryz.prog.info? elem=some i0) (hn:cs.length=Nat.min sLen dLen*i0.size)
 (hsrc:∀j v,cs[j]?=some v→w.cell? (a.add j)=some v) (hc:∀j,j<cs.length→(w.cell? ⟨b,o+j,none⟩).isSome=true) (hf:∀j,j<cs.length→w.frozen? ⟨b,o+j,none⟩=false) (h1:∀v ∈ cs,v.oneCell'=true) :
 (Builtin.copy_ #[dT,sT] ty #[.slice (some ⟨b,o,none⟩) dLen dCap,.slice (some a) sLen sCap]).run Tryz.prog w=.ok (goInt (Nat.min sLen dLen)) (w.setCells b o cs):=by
 have hl:=run_loadCells_list (P:=Tryz.prog) w a cs hsrc;have hst:=run_storeCells_cells (P:=Tryz.prog) b o cs 0 w (by simpa using hc) (by simpa using hf) h1;simp[Builtin.copy_,run_underlying hu,Builtin.lenOf,Builtin.firstCells,sizeOf,typeInfo,hi,←hn,hl,hst]
structure jc (S:Nat→Prop) (w w':World):Prop where
 os:w'.os=w.os
 tape:w'.tape=w.tape
 output:w'.output=w.output
 size:w.heap.size≤w'.heap.size
 block:∀k,k<w.heap.size→¬S k→w'.heap[k]?=w.heap[k]?
theorem jc.trans {S:Nat→Prop} {a b c:World} (h:jc S a b) (k:jc S b c):jc S a c :=
 ⟨k.os.trans h.os,k.tape.trans h.tape,k.output.trans h.output,Nat.le_trans h.size k.size,fun i hi hs=>(k.block i (Nat.lt_of_lt_of_le hi h.size) hs).trans (h.block i hi hs)⟩
theorem jc.mono {S S':Nat→Prop} {a b:World} (h:jc S a b) (hs:∀k,S k→S' k):jc S' a b:=⟨h.os,h.tape,h.output,h.size,fun i hi hn=>h.block i hi fun e=>hn (hs i e)⟩
theorem jc.of {S:Nat→Prop} {a b:World} (k:Kept a b):jc S a b:=⟨k.os,k.tape,k.output,k.size,fun i hi _=>k.block i hi⟩
theorem jc.below {S:Nat→Prop} {a b c:World} (k:Kept a b) (h:jc S b c) (hs:∀i,S i→a.heap.size≤i):Kept a c :=
 ⟨h.os.trans k.os,h.tape.trans k.tape,h.output.trans k.output,Nat.le_trans k.size h.size,fun i hi=>(h.block i (Nat.lt_of_lt_of_le hi k.size) fun e=>by have:=hs i e;omega).trans (k.block i hi)⟩
theorem jc.cell {S:Nat→Prop} {a:World} (g i:Nat) (u:Value) (hg:S g):jc S a (a.setCell ⟨g,i,none⟩ u) :=
 ⟨rfl,rfl,rfl,by simp[World.setCell],fun k _ hn=>Below.heap_setCell a ⟨g,i,none⟩ u k (fun e=>hn (by rw[show k=g from e];exact hg))⟩
theorem jc.cells {S:Nat→Prop} (g:Nat) (hg:S g):∀(vs:List Value) (o:Nat) (a:World),jc S a (a.setCells g o vs)
 | [],_,a=>jc.of (Kept.refl a)
 | v::r,o,a=>by rw[World.setCells];exact(jc.cell g o v hg).trans (jc.cells g hg r (o+1) _)
theorem jc.grown {S:Nat→Prop} {a b:World} {o:Option Nat} (h:a.grownBy b o) (hs:∀k,o=some k→S k):jc S a b :=
 ⟨h.os,h.tape,h.output,h.size,fun i hi hn=>h.block i hi fun e=>hn (hs i e.symm)⟩
theorem jc.drew {S:Nat→Prop} (a:World):jc S a a.drew:=jc.of (Kept.drew a)
def Off (S:Nat→Prop) (w:World) (Φ:World→Prop):Prop:=∀w',jc S w w'→Φ w'
theorem Off.here {S:Nat→Prop} {w:World} {Φ:World→Prop} (h:Off S w Φ):Φ w:=h w (jc.of (Kept.refl w))
theorem Off.step {S:Nat→Prop} {w w':World} {Φ:World→Prop} (h:Off S w Φ) (g:jc S w w'):Off S w' Φ:=fun u k=>h u (g.trans k)
theorem Off.less {S S':Nat→Prop} {w:World} {Φ:World→Prop} (h:Off S w Φ) (hs:∀k,S' k→S k):Off S' w Φ:=fun u k=>h u (k.mono hs)
theorem Off.imp {S:Nat→Prop} {w:World} {Φ Ψ:World→Prop} (h:Off S w Φ) (f:∀u,Φ u→Ψ u):Off S w Ψ:=fun u k=>f u (h u k)
theorem Off.of {S:Nat→Prop} {a w:World} {Φ:World→Prop} (h:∀u,Kept a u→Φ u) (k:Kept a w) (hs:∀i,S i→a.heap.size≤i):Off S w Φ:=fun u g=>h u (g.below k hs)
theorem Off.new {S S':Nat→Prop} {w w':World} {Φ:World→Prop} (h:Off S w Φ) (g:jc S w w') (hs:∀k,S' k→S k∨w.heap.size≤k):Off S' w' Φ:=fun u k =>
 h u ⟨k.os.trans g.os,k.tape.trans g.tape,k.output.trans g.output,Nat.le_trans g.size k.size,fun i hi hn=>(k.block i (Nat.lt_of_lt_of_le hi g.size) fun e=>by rcases hs i e with e | e;exact hn e;omega).trans (g.block i hi hn)⟩
theorem jbF {S:Nat→Prop} {o:Option Addr} {B:Nat} (hb:j2 B o) (hs:∀k,B≤k→¬S k):∀b off sp,o=some ⟨b,off,sp⟩→¬S b:=fun b off sp e=>hs b (hb b off sp e)
theorem jr.goff {α:Type} {L:Lay α} {S:Nat→Prop} {w w':World} {a:Option Addr} {len:Nat} {l:List α} (h:jr L w a len l) (g:jc S w w') (hn:∀b off sp,a=some ⟨b,off,sp⟩→¬S b):jr L w' a len l:=by
 obtain⟨h0,h1,h2,h3⟩:=h;refine⟨h0,h1,h2,h3.imp id ?_⟩;rintro ⟨b,off,ha,hb,hc⟩;exact⟨b,off,ha,Nat.lt_of_lt_of_le hb g.size,fun i x j u hi hj=>(World.cell?_of_block (w:=w) (g.block b hb (hn b off none ha))).trans (hc i x j u hi hj)⟩
theorem Reads.goff {α:Type} {L:Lay α} {S:Nat→Prop} {w w':World} {a:Option Addr} {m c:Nat} {l:List α} (h:Reads L w (.slice a m c) l) (g:jc S w w') (hn:∀b off sp,a=some ⟨b,off,sp⟩→¬S b):Reads L w' (.slice a m c) l:=by
 obtain⟨a',c',e,h1,h2,h3⟩:=h
 cases e
 exact⟨a,c,rfl,h1,h2,h3.goff g hn⟩
theorem Vec.jt.goff {S:Nat→Prop} {w w':World} {a:Option Addr} {len:Nat} {l:Vec.V} (h:Vec.jt w a len l) (g:jc S w w') (hn:∀b off sp,a=some ⟨b,off,sp⟩→¬S b):Vec.jt w' a len l:=by
 obtain⟨h0,h1,h2,h3⟩:=h;refine⟨h0,h1,h2,h3.imp id ?_⟩;rintro ⟨b,off,ha,hb,hc⟩;refine⟨b,off,ha,Nat.lt_of_lt_of_le hb g.size,fun i hi=>?_⟩;have e:∀j,w'.cell? ⟨b,j,none⟩=w.cell? ⟨b,j,none⟩:=fun j=>World.cell?_of_block (a:=⟨b,j,none⟩) (g.block b hb (hn b off none ha));rw[e,e];exact hc i hi
theorem Vec.Reads.goff {S:Nat→Prop} {w w':World} {a:Option Addr} {m c:Nat} {l:Vec.V} (h:Vec.Reads w (.slice a m c) l) (g:jc S w w') (hn:∀b off sp,a=some ⟨b,off,sp⟩→¬S b):Vec.Reads w' (.slice a m c) l:=by
 obtain⟨a',c',e,h1,h2,h3⟩:=h
 cases e
 exact⟨a,c,rfl,h1,h2,Vec.jt.goff h3 g hn⟩
theorem zl.off {S:Nat→Prop} {B:Nat} {w:World} {n:Pd} {b1 b2 b3 b4:Option Addr} {n1 d1 n2 d2 n3 d3 n4 d4:Nat} (h:zl w (.slice b1 n1 d1) (.slice b2 n2 d2) (.slice b3 n3 d3) (.slice b4 n4 d4) n) (g1:j2 B b1) (g2:j2 B b2) (g3:j2 B b3) (g4:j2 B b4) (hs:∀k,B≤k→¬S k) :
 Off S w fun u=>zl u (.slice b1 n1 d1) (.slice b2 n2 d2) (.slice b3 n3 d3) (.slice b4 n4 d4) n:=fun u g =>
 ⟨h.name,h.owner,h.key,h.node,h.prio,h.most,h.need.goff g (jbF g1 hs),h.labels.goff g (jbF g2 hs),h.sel.goff g (jbF g3 hs),h.tols.goff g (jbF g4 hs)⟩
theorem Jo.off {S:Nat→Prop} {B:Nat} {w:World} {n:Nod} {b1 b2 b3:Option Addr} {n1 d1 n2 d2 n3 d3:Nat} (h:Jo w (.slice b1 n1 d1) (.slice b2 n2 d2) (.slice b3 n3 d3) n) (g1:j2 B b1) (g2:j2 B b2) (g3:j2 B b3) (hs:∀k,B≤k→¬S k) :
 Off S w fun u=>Jo u (.slice b1 n1 d1) (.slice b2 n2 d2) (.slice b3 n3 d3) n:=fun u g =>
 ⟨h.size,h.cap.goff g (jbF g1 hs),h.labels.goff g (jbF g2 hs),h.taints.goff g (jbF g3 hs)⟩
theorem zL.off {S:Nat→Prop} {B:Nat} {w:World} {n:Bd} {b1:Option Addr} {n1 d1:Nat} (h:zL w (.slice b1 n1 d1) n) (g1:j2 B b1) (hs:∀k,B≤k→¬S k) :
 Off S w fun u=>zL u (.slice b1 n1 d1) n:=fun u g=>⟨h.name,h.floor,h.sel.goff g (jbF g1 hs)⟩
theorem Own.goff {α:Type} {L:Lay α} {e:TypeId} {S:Nat→Prop} {w w':World} {B:Nat} {v:Value} {l:List α} (h:Own L e w B v l) (g:jc S w w') (hn:∀k,v.ownBlock=some k→¬S k):Own L e w' B v l:=by
 obtain⟨⟨h0,h1⟩,hf⟩:=h;refine⟨⟨h0,h1.imp id ?_⟩,hf⟩;rintro ⟨q,cap,cur,rfl,hbg,hg,hr⟩;have hlt:q<w.heap.size:=by
  rcases Nat.lt_or_ge q w.heap.size with hlt | hge
  · exact hlt
  · rw[Array.getElem?_eq_none hge] at hg;cases hg
 exact⟨q,cap,cur,rfl,hbg,(g.block q hlt (hn q rfl)).trans hg,hr⟩
structure Deep {X:Type} (L:Lay X) (T:TypeId) (At:World→X→Prop) (w:World) (B:Nat) (v:Value) (lx:List X):Prop where
 own:Own L T w B v lx
 off:∀z ∈ lx,Off (fun b=>v.ownBlock=some b) w fun u=>At u z
theorem Deep.kept {X:Type} {L:Lay X} {T:TypeId} {At:World→X→Prop} {w w':World} {B:Nat} {v:Value} {lx:List X} (h:Deep L T At w B v lx) (k:Kept w w'):Deep L T At w' B v lx:=⟨h.own.kept k,fun z hz=>(h.off z hz).step (jc.of k)⟩
theorem Deep.less {X:Type} {L:Lay X} {T:TypeId} {At:World→X→Prop} {w:World} {B B':Nat} {v:Value} {lx:List X} (h:Deep L T At w B v lx) (hb:B'≤B):Deep L T At w B' v lx:=⟨h.own.base_le hb,h.off⟩
theorem Deep.goff {X:Type} {L:Lay X} {T:TypeId} {At:World→X→Prop} {w w':World} {B q:Nat} {v:Value} {lx:List X} (h:Deep L T At w B v lx) (g:jc (fun b=>b=q) w w') (hq:q<B) (ha:∀z ∈ lx,Off (fun b=>v.ownBlock=some b∨b=q) w fun u=>At u z):Deep L T At w' B v lx :=
 ⟨h.own.goff g (fun k hk e=>by
  have hl:B≤k:=by
   rcases h.own.1.2 with ⟨rfl,_⟩ | ⟨q2,cap,cur,rfl,hb,_⟩
   · cases hk
   · cases hk;exact hb
  omega),fun z hz=>((ha z hz).step (g.mono fun k e=>.inr e)).less fun k e=>.inl e⟩
theorem jb0 {X:Type} {L:Lay X} {T:TypeId} {w:World} {B:Nat} {v:Value} {lx:List X} (h:Own L T w B v lx):∀g,v.ownBlock=some g→B≤g∧g<w.heap.size:=h.1.lt
theorem jbA {X:Type} (L:Lay X):∀(lx:List X) (k:Nat) (z:X),k<lx.length→(jd L lx).take (k*L.m)++L.cs z++(jd L lx).drop (k*L.m+L.m)=jd L (lx.set k z)
 | [],_,_,h=>by simp at h
 | x::t,0,z,_=>by
  rw[Nat.zero_mul,List.take_zero,List.nil_append,Nat.zero_add,List.set_cons_zero];unfold jd;rw[List.flatMap_cons,List.flatMap_cons,List.drop_append_of_le_length (by rw[L.len];exact Nat.le_refl _),List.drop_of_length_le (by rw[L.len];exact Nat.le_refl _),List.nil_append]
 | x::t,k+1,z,h=>by
  have ih:=jbA L t k z (by simpa using h);rw[List.set_cons_succ];unfold jd at ih ⊢;rw[List.flatMap_cons,List.flatMap_cons,←ih,Nat.add_mul,Nat.one_mul];have hx:(L.cs x).length=L.m:=L.len x;rw[show k*L.m+L.m=(L.cs x).length+k*L.m by rw[hx,Nat.add_comm],List.take_length_add_append,show (L.cs x).length+k*L.m+L.m=(L.cs x).length+(k*L.m+L.m) by omega,List.drop_length_add_append];simp only[List.append_assoc];rw[show (L.cs x).length+k*L.m=k*L.m+L.m by rw[hx,Nat.add_comm]]
theorem Own.Xk {X:Type} {L:Lay X} {T:TypeId} {w:World} {B g n cap:Nat} {lx:List X} (h:Own L T w B (.slice (some ⟨g,0,none⟩) n cap) lx) {k:Nat} (hk:k<lx.length) (z:X) (hf:L.fine z):Own L T (w.setCells g (k*L.m) (L.cs z)) B (.slice (some ⟨g,0,none⟩) n cap) (lx.set k z):=by
 obtain⟨a,c,e,_⟩:=h.at_
 cases e
 have hm:k*L.m+L.m≤lx.length*L.m:=by rw[←Nat.succ_mul];exact Nat.mul_le_mul_right _ hk
 have:=jlU h.1 (o:=k*L.m) (vs:=L.cs z) (by rw[L.len];exact hm);rw[L.len,jbA L lx k z hk] at this;refine⟨by rw[List.length_set];exact this,fun x hx=>?_⟩;rcases List.mem_or_eq_of_mem_set hx with hx | hx
 · exact h.2 x hx
 · subst hx;exact hf
def Tri (S:Nat→Prop) (v1 v2 v3:Value) (b:Nat):Prop:=S b∨v1.ownBlock=some b∨v2.ownBlock=some b∨v3.ownBlock=some b
structure jW (S:Nat→Prop) (B:Nat) (w:World) (v1 v2 v3:Value) (s:Clu):Prop where
 n:∃lx:List NX,(lx.map fun z=>z.1)=s.nodes∧Own zJ 42 w B v1 lx∧∀z ∈ lx,Off (Tri S v1 v2 v3) w fun u=>At3 u z
 p:∃lx:List PX,(lx.map fun z=>z.1)=s.pods∧Own zi 62 w B v2 lx∧∀z ∈ lx,Off (Tri S v1 v2 v3) w fun u=>At4 u z
 b:∃lx:List BX,(lx.map fun z=>z.1)=s.buds∧Own zu 66 w B v3 lx∧∀z ∈ lx,Off (Tri S v1 v2 v3) w fun u=>At1 u z
 sep:∀k,(v1.ownBlock=some k∨v2.ownBlock=some k∨v3.ownBlock=some k)→¬S k
 d12:∀k,v1.ownBlock=some k→v2.ownBlock≠some k
 d13:∀k,v1.ownBlock=some k→v3.ownBlock≠some k
 d23:∀k,v2.ownBlock=some k→v3.ownBlock≠some k
theorem jW.toR {S:Nat→Prop} {B:Nat} {w:World} {v1 v2 v3:Value} {s:Clu} (h:jW S B w v1 v2 v3 s):Zl w (.agg #[v1,v2,v3]) s:=by
 obtain⟨l1,e1,o1,d1⟩:=h.n;obtain⟨l2,e2,o2,d2⟩:=h.p;obtain⟨l3,e3,o3,d3⟩:=h.b;exact⟨v1,v2,v3,rfl,by rw[←e1];exact jeH o1 fun z hz=>(d1 z hz).here,by rw[←e2];exact jc4 o2 fun z hz=>(d2 z hz).here,by rw[←e3];exact jf1 o3 fun z hz=>(d3 z hz).here⟩
theorem jW.lt {S:Nat→Prop} {B:Nat} {w:World} {v1 v2 v3:Value} {s:Clu} (h:jW S B w v1 v2 v3 s) {g:Nat} (hg:v1.ownBlock=some g∨v2.ownBlock=some g∨v3.ownBlock=some g):B≤g∧g<w.heap.size:=by
 obtain⟨l1,e1,o1,d1⟩:=h.n;obtain⟨l2,e2,o2,d2⟩:=h.p;obtain⟨l3,e3,o3,d3⟩:=h.b;rcases hg with hg | hg | hg
 · exact jb0 o1 g hg
 · exact jb0 o2 g hg
 · exact jb0 o3 g hg
theorem jW.step {S:Nat→Prop} {B:Nat} {w w':World} {v1 v2 v3:Value} {s:Clu} (h:jW S B w v1 v2 v3 s) (g:jc S w w'):jW S B w' v1 v2 v3 s:=by
 obtain⟨l1,e1,o1,d1⟩:=h.n;obtain⟨l2,e2,o2,d2⟩:=h.p;obtain⟨l3,e3,o3,d3⟩:=h.b;have g':jc (Tri S v1 v2 v3) w w':=g.mono fun b e=>.inl e;exact⟨⟨l1,e1,o1.goff g fun k e=>h.sep k (.inl e),fun z hz=>(d1 z hz).step g'⟩,⟨l2,e2,o2.goff g fun k e=>h.sep k (.inr (.inl e)),fun z hz=>(d2 z hz).step g'⟩,⟨l3,e3,o3.goff g fun k e=>h.sep k (.inr (.inr e)),fun z hz=>(d3 z hz).step g'⟩,h.sep,h.d12,h.d13,h.d23⟩
theorem jW.kept {S:Nat→Prop} {B:Nat} {w w':World} {v1 v2 v3:Value} {s:Clu} (h:jW S B w v1 v2 v3 s) (k:Kept w w'):jW S B w' v1 v2 v3 s:=h.step (jc.of k)
theorem jW.none (S:Nat→Prop) (B:Nat) (w:World):jW S B w (.slice none 0 0) (.slice none 0 0) (.slice none 0 0) ⟨[],[],[]⟩ :=
 ⟨⟨[],rfl,Own.nil _ _ _,fun z hz=>by cases hz⟩,⟨[],rfl,Own.nil _ _ _,fun z hz=>by cases hz⟩,⟨[],rfl,Own.nil _ _ _,fun z hz=>by cases hz⟩,(fun k e=>by rcases e with e | e | e<;>cases e),(fun k e=>by cases e),(fun k e=>by cases e),(fun k e=>by cases e)⟩
theorem jW.elsN {S:Nat→Prop} {w w':World} {v1 v2 v3 v':Value} {Φ:World→Prop} (h:Off (Tri S v1 v2 v3) w Φ) (g:jc (fun b=>v1.ownBlock=some b) w w') (hn:∀k,v'.ownBlock=some k→v1.ownBlock=some k∨w.heap.size≤k):Off (Tri S v' v2 v3) w' Φ :=
 h.new (g.mono fun b e=>.inr (.inl e)) fun b e=>by
  rcases e with e | e | e | e
  · exact .inl (.inl e)
  · rcases hn b e with e | e
    · exact .inl (.inr (.inl e))
    · exact .inr e
  · exact .inl (.inr (.inr (.inl e)))
  · exact .inl (.inr (.inr (.inr e)))
theorem jW.turnN {S:Nat→Prop} {B:Nat} {w w':World} {v1 v2 v3 v':Value} {s:Clu} {l:List Nod} (h:jW S B w v1 v2 v3 s) (g:jc (fun b=>v1.ownBlock=some b) w w') (hn:∀k,v'.ownBlock=some k→v1.ownBlock=some k∨w.heap.size≤k) (hS:∀k,S k→k<w.heap.size)
 (hp:∃lx:List NX,(lx.map fun z=>z.1)=l∧Own zJ 42 w' B v' lx∧∀z ∈ lx,Off (Tri S v' v2 v3) w' fun u=>At3 u z):jW S B w' v' v2 v3 { s with nodes:=l }:=by
 obtain⟨lp,ep,op,dp⟩:=h.p;obtain⟨lb,eb,ob,db⟩:=h.b;have hs:∀k,v'.ownBlock=some k→¬S k:=fun k e he=>by
  rcases hn k e with e | e
  · exact h.sep k (.inl e) he
  · have:=hS k he;omega
 have hd12:∀k,v'.ownBlock=some k→v2.ownBlock≠some k:=fun k e e2=>by
  rcases hn k e with q | q
  · exact h.d12 k q e2
  · have:=(h.lt (g:=k) (.inr (.inl e2))).2;omega
 have hd13:∀k,v'.ownBlock=some k→v3.ownBlock≠some k:=fun k e e2=>by
  rcases hn k e with q | q
  · exact h.d13 k q e2
  · have:=(h.lt (g:=k) (.inr (.inr e2))).2;omega
 exact⟨hp,⟨lp,ep,op.goff g (fun k e e2=>h.d12 k e2 e),fun z hz=>jW.elsN (dp z hz) g hn⟩,⟨lb,eb,ob.goff g (fun k e e2=>h.d13 k e2 e),fun z hz=>jW.elsN (db z hz) g hn⟩,fun k e=>by
  rcases e with e | e | e
  · exact hs k e
  · exact h.sep k (.inr (.inl e))
  · exact h.sep k (.inr (.inr e)),hd12,hd13,h.d23⟩
theorem jW.elsP {S:Nat→Prop} {w w':World} {v1 v2 v3 v':Value} {Φ:World→Prop} (h:Off (Tri S v1 v2 v3) w Φ) (g:jc (fun b=>v2.ownBlock=some b) w w') (hn:∀k,v'.ownBlock=some k→v2.ownBlock=some k∨w.heap.size≤k):Off (Tri S v1 v' v3) w' Φ :=
 h.new (g.mono fun b e=>.inr (.inr (.inl e))) fun b e=>by
  rcases e with e | e | e | e
  · exact .inl (.inl e)
  · exact .inl (.inr (.inl e))
  · rcases hn b e with e | e
    · exact .inl (.inr (.inr (.inl e)))
    · exact .inr e
  · exact .inl (.inr (.inr (.inr e)))
theorem jW.turnP {S:Nat→Prop} {B:Nat} {w w':World} {v1 v2 v3 v':Value} {s:Clu} {l:List Pd} (h:jW S B w v1 v2 v3 s) (g:jc (fun b=>v2.ownBlock=some b) w w') (hn:∀k,v'.ownBlock=some k→v2.ownBlock=some k∨w.heap.size≤k) (hS:∀k,S k→k<w.heap.size)
 (hp:∃lx:List PX,(lx.map fun z=>z.1)=l∧Own zi 62 w' B v' lx∧∀z ∈ lx,Off (Tri S v1 v' v3) w' fun u=>At4 u z):jW S B w' v1 v' v3 { s with pods:=l }:=by
 obtain⟨ln,en,on,dn⟩:=h.n;obtain⟨lb,eb,ob,db⟩:=h.b;have hs:∀k,v'.ownBlock=some k→¬S k:=fun k e he=>by
  rcases hn k e with e | e
  · exact h.sep k (.inr (.inl e)) he
  · have:=hS k he;omega
 have hd12:∀k,v1.ownBlock=some k→v'.ownBlock≠some k:=fun k e e2=>by
  rcases hn k e2 with q | q
  · exact h.d12 k e q
  · have:=(h.lt (g:=k) (.inl e)).2;omega
 have hd23:∀k,v'.ownBlock=some k→v3.ownBlock≠some k:=fun k e e2=>by
  rcases hn k e with q | q
  · exact h.d23 k q e2
  · have:=(h.lt (g:=k) (.inr (.inr e2))).2;omega
 exact⟨⟨ln,en,on.goff g (fun k e e2=>h.d12 k e e2),fun z hz=>jW.elsP (dn z hz) g hn⟩,hp,⟨lb,eb,ob.goff g (fun k e e2=>h.d23 k e2 e),fun z hz=>jW.elsP (db z hz) g hn⟩,fun k e=>by
  rcases e with e | e | e
  · exact h.sep k (.inl e)
  · exact hs k e
  · exact h.sep k (.inr (.inr e)),hd12,h.d13,hd23⟩
theorem jW.elsB {S:Nat→Prop} {w w':World} {v1 v2 v3 v':Value} {Φ:World→Prop} (h:Off (Tri S v1 v2 v3) w Φ) (g:jc (fun b=>v3.ownBlock=some b) w w') (hn:∀k,v'.ownBlock=some k→v3.ownBlock=some k∨w.heap.size≤k):Off (Tri S v1 v2 v') w' Φ :=
 h.new (g.mono fun b e=>.inr (.inr (.inr e))) fun b e=>by
  rcases e with e | e | e | e
  · exact .inl (.inl e)
  · exact .inl (.inr (.inl e))
  · exact .inl (.inr (.inr (.inl e)))
  · rcases hn b e with e | e
    · exact .inl (.inr (.inr (.inr e)))
    · exact .inr e
theorem jW.turnB {S:Nat→Prop} {B:Nat} {w w':World} {v1 v2 v3 v':Value} {s:Clu} {l:List Bd} (h:jW S B w v1 v2 v3 s) (g:jc (fun b=>v3.ownBlock=some b) w w') (hn:∀k,v'.ownBlock=some k→v3.ownBlock=some k∨w.heap.size≤k) (hS:∀k,S k→k<w.heap.size)
 (hp:∃lx:List BX,(lx.map fun z=>z.1)=l∧Own zu 66 w' B v' lx∧∀z ∈ lx,Off (Tri S v1 v2 v') w' fun u=>At1 u z):jW S B w' v1 v2 v' { s with buds:=l }:=by
 obtain⟨ln,en,on,dn⟩:=h.n;obtain⟨lp,ep,op,dp⟩:=h.p;have hs:∀k,v'.ownBlock=some k→¬S k:=fun k e he=>by
  rcases hn k e with e | e
  · exact h.sep k (.inr (.inr e)) he
  · have:=hS k he;omega
 have hd13:∀k,v1.ownBlock=some k→v'.ownBlock≠some k:=fun k e e2=>by
  rcases hn k e2 with q | q
  · exact h.d13 k e q
  · have:=(h.lt (g:=k) (.inl e)).2;omega
 have hd23:∀k,v2.ownBlock=some k→v'.ownBlock≠some k:=fun k e e2=>by
  rcases hn k e2 with q | q
  · exact h.d23 k e q
  · have:=(h.lt (g:=k) (.inr (.inl e))).2;omega
 exact⟨⟨ln,en,on.goff g (fun k e e2=>h.d13 k e e2),fun z hz=>jW.elsB (dn z hz) g hn⟩,⟨lp,ep,op.goff g (fun k e e2=>h.d23 k e e2),fun z hz=>jW.elsB (dp z hz) g hn⟩,hp,fun k e=>by
  rcases e with e | e | e
  · exact h.sep k (.inl e)
  · exact h.sep k (.inr (.inl e))
  · exact hs k e,h.d12,hd13,hd23⟩
inductive jD where
 | skip:jD
 | node:Nod→jD
 | pod:Pd→jD
 | bud:Bd→jD
 | bad:jD
def qg (s:Clu) (n:Nod):Clu:={ s with nodes:=s.nodes.take (zo n.name (s.nodes.map fun n=>n.name))++n::s.nodes.drop (zo n.name (s.nodes.map fun n=>n.name)) }
def qk (s:Clu) (n:Pd):Clu:={ s with pods:=s.pods.take (zo n.name (s.pods.map fun n=>n.name))++n::s.pods.drop (zo n.name (s.pods.map fun n=>n.name)) }
def qj (s:Clu) (n:Bd):Clu:={ s with buds:=s.buds.take (zo n.name (s.buds.map fun n=>n.name))++n::s.buds.drop (zo n.name (s.buds.map fun n=>n.name)) }
def jj (s:Clu):jD→Int×Clu
 | .skip=>(0,s)
 | .node n=>if hasB n.name (s.nodes.map fun n=>n.name)=true then (6,s) else if s.nodes.length=32 then (4,s) else (0,qg s n)
 | .pod n=>if hasB n.name (s.pods.map fun n=>n.name)=true then (6,s) else if s.pods.length=128 then (4,s) else (0,qk s n)
 | .bud n=>if hasB n.name (s.buds.map fun n=>n.name)=true then (6,s) else if s.buds.length=8 then (4,s) else (0,qj s n)
 | .bad=>(2,s)
def XL (R B:Nat) (line:Int) (s:Clu) (m:jD) (w:World) (e:Ending) (w':World):Prop :=
 jc (fun b=>b=R∨B≤b) w w'∧∃v1 v2 v3,jf R [v1,v2,v3,.int .i64 line] w'∧jW (fun b=>b<B) B w' v1 v2 v3 (jj s m).2∧(((jj s m).1=0∧∃x,e=.returned x)∨((jj s m).1≠0∧e=.panicked [ju (jj s m).1]))
theorem ZK {w:World} {B:Nat} {e:TypeId} {s:Nat} {v:Value} {n:Nat} {xs:List Value} (h:w.ownsRow B e s v n xs):w.drew.ownsRow B e s v n xs:=h
theorem jgV:(Tryz.prog.info? 62).map (fun i=>(i.zero,i.size,i.bytes))=some (some (.agg #[.string ByteArray.empty,.string ByteArray.empty,.int .i64 0,.slice none 0 0,.slice none 0 0,.slice none 0 0,.slice none 0 0,.string ByteArray.empty,.int .i64 0,.string ByteArray.empty,.bool false]),11,184):=by kernel_rfl
def X0:Array Value:=#[.string ByteArray.empty,.string ByteArray.empty,.int .i64 0,.slice none 0 0,.slice none 0 0,.slice none 0 0,.slice none 0 0,.string ByteArray.empty,.int .i64 0,.string ByteArray.empty,.bool false]
theorem zQ (n:Nat):(Builtin.zeroCells X0 n).size=n*11:=by
 unfold Builtin.zeroCells;rw[Array.size_map,Array.size_range];rfl
end Go.Proofs.YthmddloeggdohaaGreatDoor
