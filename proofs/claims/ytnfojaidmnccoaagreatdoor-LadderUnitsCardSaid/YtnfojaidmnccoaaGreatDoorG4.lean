/- C. -/
import Derived.Test.YtnfojaidmnccoaaGreatDoorG0
import Derived.Test.YtnfojaidmnccoaaGreatDoorG2
import Derived.Test.YtnfojaidmnccoaaGreatDoorG3
set_option linter.unusedVariables false
set_option maxRecDepth 100000
set_option maxHeartbeats 25600000
namespace Go.Proofs.YtnfojaidmnccoaaGreatDoor
open Go.RowKit
def w3L (s:List UInt8) (i:Nat):List UInt8:=(jb 32 s).getD i []
def j5 (s:List UInt8) (i:Nat):List UInt8:=(jb 47 (w3L s 2)).getD i []
def Zq (s:List UInt8):Lad:=⟨bytes (w3L s 0),(Vec.zf (w3L s 1)).2,(((jb 32 s).drop 3).map jH).take 9,(Vec.valL (j5 s 0):Int),(Vec.valL (j5 s 1):Int)⟩
def Zu (s:List UInt8):Bool:=decide (3≤(jb 32 s).length)&&(jI 47 2 (w3L s 2)&&j4 ((jb 32 s).drop 3))
def Zn (s:List UInt8):Bool:=inQ (j5 s 0)&&(inQ (j5 s 1)&&zd ((jb 32 s).drop 3))
def jc (s:List UInt8):Int×Lad :=
 if Zu s=false then (2,Lad.zero) else if Zn s=false then (5,Lad.zero) else if (Vec.zf (w3L s 1)).1≠0 then ((Vec.zf (w3L s 1)).1,Lad.zero)
 else if jU (Zq s)≠0 then (jU (Zq s),Lad.zero) else (0,Zq s)
def zE (B:Nat) (w:World) (v:Value) (n:Lad):Prop:=∃a1 m1 c1 a2 m2 c2,v=.agg #[.string n.what,.slice a1 m1 c1,.slice a2 m2 c2,.int .i64 n.lo,.int .i64 n.hi]∧jZ w (.slice a1 m1 c1) (.slice a2 m2 c2) n∧(∀b off sp,a1=some ⟨b,off,sp⟩→B≤b)∧(∀b off sp,a2=some ⟨b,off,sp⟩→B≤b)
def jB (r:Int×Lad) (w:World) (e:Ending) (w':World):Prop:=(r.1=0→∃v,e=.returned v∧zE w.heap.size w' v r.2)∧(r.1≠0→e=.panicked [js r.1])∧Kept w w'
theorem jB.bad {r:Int×Lad} {w w':World} {c:Int} (h:r.1=c) (hc:c≠0) (hb:Kept w w'):jB r w (.panicked [js c]) w':=⟨fun g=>absurd (h.symm.trans g) hc,fun _=>by rw[h],hb⟩
theorem JQ {s:List UInt8} (h:3≤(jb 32 s).length) (i:Nat) (hi:i<3):(jb 32 s)[i]?=some (w3L s i):=by
 unfold w3L;rw[List.getElem?_eq_getElem (by omega)];simp[List.getD,show i<(jb 32 s).length by omega]
theorem jaV {s:List UInt8} (h:(jb 47 (w3L s 2)).length=2) (i:Nat) (hi:i<2):(jb 47 (w3L s 2))[i]?=some (j5 s i):=by
 unfold j5;rw[List.getElem?_eq_getElem (by omega)];simp[List.getD,show i<(jb 47 (w3L s 2)).length by omega]
theorem XW (x:ByteArray) (a1 a2:Option Addr) (l1 c1 l2 c2:Nat) (lo hi:Int) (w:World):Calls Tryz.prog 77 #[.agg #[.string x,.slice a1 l1 c1,.slice a2 l2 c2,.int .i64 lo,.int .i64 hi],.int .i64 0] w fun e w'=>e=.returned (.agg #[.string x,.slice a1 l1 c1,.slice a2 l2 c2,.int .i64 lo,.int .i64 hi])∧Kept w w':=by
 go_enter Tryz.func77,Tryz.ntmps77;go_wp2;go_returns
 exact⟨rfl,jE _ _ _⟩
theorem YO (x:ByteArray) (a1 a2:Option Addr) (l1 c1 l2 c2:Nat) (lo hi:Int) (c:Int) (w:World) (h:c≠0):Calls Tryz.prog 77 #[.agg #[.string x,.slice a1 l1 c1,.slice a2 l2 c2,.int .i64 lo,.int .i64 hi],.int .i64 c] w fun e w'=>e=.panicked [js c]∧Kept w w':=by
 have h3:(c != 0)=true:=by simpa using h
 clear h;go_enter Tryz.func77,Tryz.ntmps77;go_wp2;exact⟨rfl,rfl,jE _ _ _⟩
theorem Yj (s:List UInt8) (w:World) (hE:Vec.jX w) (hs:s.length≤900000) :
 Calls Tryz.prog 50 #[.string (bytes s)] w (jB (jc s) w):=by
 obtain⟨Z,hZ⟩:=eX (w.alloc (.cells #[.string ⟨#[]⟩,.slice none 0 0,.slice none 0 0,.int .i64 0,.int .i64 0] 26))
 have hkz:Kept w Z:=by rw[←hZ];exact ja _ _
 have VL:=lH (ju w (.string ⟨#[]⟩) [.slice none 0 0,.slice none 0 0,.int .i64 0,.int .i64 0] 26 Z (by rw[hZ];exact Kept.refl _));obtain⟨q0,hq0⟩:=eX (w.heap.size)
 rw[hq0] at VL;obtain⟨UF,TE,K,HE,UG⟩:=lH5 hq0 (show Z.heap.size=q0+1 by rw[←hZ,World.size_alloc,hq0]) hkz hE (qW s Z (hE.kept hkz).toEnv.base (by omega));unfold Yy at UG;have VR:=lH (show ∀p ∈ jb 32 s,p.length≤1000000 from fun p h=>by have:=jG 32 s p h;omega);clear hE hkz;go_enter Tryz.func50,Tryz.ntmps50;go_wp2_with fail
 try rw[hZ]
 try rw[hq0]
 clear hZ hq0;refine UG.out.mono ?_;rintro e w1 ⟨hbad,hok,kk⟩;obtain⟨VL,K,Tb⟩:=lH3 (VL.out.kept kk) (K.out.trans kk) (show q0+1≤w1.heap.size by have:=kk.size;rw[TE.out] at this;exact this);clear kk UG;by_cases h3:(jb 32 s).length<3
 · obtain rfl:=hbad h3;have HV:=lH (show (jc s).1=2 by unfold jc Zu;rw[decide_eq_false (by omega:¬3≤(jb 32 s).length)];rfl);clear hbad hok h3;go_wp2;exact⟨rfl,jB.bad HV.out (by decide) K.out⟩
 · obtain⟨g,cap,bw,bc,r,rfl,hcells,hrest,hrp,hrs⟩:=hok (by omega);have h3':3≤(jb 32 s).length:=by omega
   obtain⟨H3,VX,V5,VQ,HC,VZ,VK,Ug⟩:=lH8 h3' (VR.out _ (List.mem_of_getElem? (JQ h3' 0 (by decide)))) (VR.out _ (List.mem_of_getElem? (JQ h3' 1 (by decide)))) (VR.out _ (List.mem_of_getElem? (JQ h3' 2 (by decide)))) (show ∀W,Kept w1 W→W.cell? ⟨g,0,none⟩=some (.string (bytes (w3L s 0)))∧W.cell? ⟨g,1,none⟩=some (.string (bytes (w3L s 1)))∧W.cell? ⟨g,2,none⟩=some (.string (bytes (w3L s 2))) from fun W k=>⟨cell_later k (hcells 0 _ (by decide) (JQ h3' 0 (by decide))),cell_later k (hcells 1 _ (by decide) (JQ h3' 1 (by decide))),cell_later k (hcells 2 _ (by decide) (JQ h3' 2 (by decide)))⟩) hrest hrp (show ∀q,r=some q→q.length≤1000000 from fun q h=>by have:=hrs q h;omega);have Ul:=lH (fun W (k:Kept w W)=>Yw (w3L s 2) W (HE.out.kept k).toEnv.base VQ.out);unfold J6 at Ul;obtain⟨c0,c1,c2⟩:=HC.out _ (Kept.refl _);clear hbad hok h3 h3' hcells hrest hrp hrs;obtain⟨Vz,VH,VA,VM⟩:=lH4 (show Zq s=⟨bytes (w3L s 0),(Vec.zf (w3L s 1)).2,(((jb 32 s).drop 3).map jH).take 9,(Vec.valL (j5 s 0):Int),(Vec.valL (j5 s 1):Int)⟩ from rfl) (show Zu s=(jI 47 2 (w3L s 2)&&j4 ((jb 32 s).drop 3)) by unfold Zu;rw[decide_eq_true H3.out];rfl) (show Zn s=(inQ (j5 s 0)&&(inQ (j5 s 1)&&zd ((jb 32 s).drop 3))) from rfl) (fun h i hi=>jaV (s:=s) h i hi);obtain⟨a,ha⟩:=eX (w3L s 0)
   obtain⟨b,hb⟩:=eX (w3L s 1)
   obtain⟨c,hc⟩:=eX (w3L s 2)
   have VE:=lH (show w3L s 1=b from hb);rw[ha] at HC VX Vz c0;rw[hb] at HC V5 Vz c1;rw[hc] at HC VQ Ul VH VM c2;obtain⟨rs,hrs⟩:=eX ((jb 32 s).drop 3)
   rw[hrs] at VK Vz VH VA;clear ha hb hc hrs;obtain⟨f1,hf1⟩:=eX (jI 47 2 c)
   have UH:=lH hf1;rw[hf1] at VH;clear hf1;go_wp2_with fail
   refine(Ul.out _ K.out).mono ?_;rintro e w2 ⟨hok,hbad,kk⟩;obtain⟨VL,VZ,HC,TF,K⟩:=lH5 (VL.out.kept kk) (VZ.out.kept kk) (fun W (k:Kept w2 W)=>HC.out W (kk.trans k)) (Nat.le_trans Tb.out kk.size) (K.out.trans kk);clear kk Ul c0 c1 c2
   cases f1 with
   | false =>
    obtain rfl:=hbad UH.out;have HV:=lH (show (jc s).1=2 by unfold jc;rw[VH.out];rfl);clear hbad hok;go_wp2;exact⟨rfl,jB.bad HV.out (by decide) K.out⟩
   | true =>
    obtain⟨g2,cap2,rfl,hc2⟩:=hok UH.out;obtain⟨hl2,hall2⟩:=Yz UH.out;obtain⟨UI,UJ,Ve⟩:=lH3 (show Vec.jk (j5 s 0)=true∧(j5 s 0).length≤1000000 from⟨hall2 _ (List.mem_of_getElem? (VM.out hl2 0 (by decide))),Nat.le_trans (jG 47 c _ (List.mem_of_getElem? (VM.out hl2 0 (by decide)))) VQ.out⟩) (show Vec.jk (j5 s 1)=true∧(j5 s 1).length≤1000000 from⟨hall2 _ (List.mem_of_getElem? (VM.out hl2 1 (by decide))),Nat.le_trans (jG 47 c _ (List.mem_of_getElem? (VM.out hl2 1 (by decide)))) VQ.out⟩) (show ∀W,Kept w2 W→W.cell? ⟨g2,0,none⟩=some (.string (bytes (j5 s 0)))∧W.cell? ⟨g2,1,none⟩=some (.string (bytes (j5 s 1))) from fun W k=>⟨cell_later k (hc2 0 _ (VM.out hl2 0 (by decide))),cell_later k (hc2 1 _ (VM.out hl2 1 (by decide)))⟩);clear hbad hok hc2 hl2 hall2 VM;obtain⟨n0,hn0⟩:=eX (j5 s 0)
    obtain⟨n1,hn1⟩:=eX (j5 s 1)
    rw[hn0] at UI Ve Vz VA;rw[hn1] at UJ Ve Vz VA;clear hn0 hn1;have Um:=lH (fun W (k:Kept w W) (h:zs W bw bc r)=>Zo bw bc r W (HE.out.kept k).toEnv.base h Ug.out);unfold qc at Um;rw[VK.out] at Um;obtain⟨f2,hf2⟩:=eX (j4 rs)
    have UK:=lH hf2;rw[hf2] at VH;clear hf2;go_wp2_with fail
    refine(Um.out _ K.out VZ.out).mono ?_;rintro e w3 ⟨hok,hbad,kk⟩;obtain⟨VL,VZ,HC,Ve,VN,K⟩:=lH6 (VL.out.kept kk) (VZ.out.kept kk) (fun W (k:Kept w3 W)=>HC.out W (kk.trans k)) (fun W (k:Kept w3 W)=>Ve.out W (kk.trans k)) (Nat.le_trans TF.out kk.size) (K.out.trans kk);clear kk Um
    cases f2 with
    | false =>
     obtain rfl:=hbad UK.out;have HV:=lH (show (jc s).1=2 by unfold jc;rw[VH.out];rfl);clear hbad hok;go_wp2;exact⟨rfl,jB.bad HV.out (by decide) K.out⟩
    | true =>
     obtain⟨v9,rfl⟩:=hok UK.out;clear hbad hok;have Vn:=lH (fun W (k:Kept w W)=>z6 n0 W (HE.out.kept k).toEnv UI.out.2 UI.out.1);have Vl:=lH (fun W (k:Kept w W)=>z6 n1 W (HE.out.kept k).toEnv UJ.out.2 UJ.out.1);unfold Zb at Vn Vl;have Vf:=lH (fun W (k:Kept w3 W)=>YQ bw bc r W (HE.out.kept (K.out.trans k)).toEnv (VZ.out.kept k) Ug.out (by rw[VK.out];exact UK.out));unfold qK at Vf;rw[VK.out] at Vf;obtain⟨p0,hp0⟩:=eX (inQ n0)
     rw[hp0] at VA Vn;have V8:=lH (show p0=true→(Vec.valL n0:Int)≤9223372036854775807 from fun h=>by rw[←hp0] at h;unfold inQ at h;have:=of_decide_eq_true h;omega);clear hp0;obtain⟨p1,hp1⟩:=eX (inQ n1)
     rw[hp1] at VA Vl;have V9:=lH (show p1=true→(Vec.valL n1:Int)≤9223372036854775807 from fun h=>by rw[←hp1] at h;unfold inQ at h;have:=of_decide_eq_true h;omega);clear hp1;obtain⟨p2,hp2⟩:=eX (zd rs)
     rw[hp2] at VA Vf;clear hp2;obtain⟨u0,hu0⟩:=eX (Vec.valL n0)
     rw[hu0] at Vz Vn V8;clear hu0;obtain⟨u1,hu1⟩:=eX (Vec.valL n1)
     rw[hu1] at Vz Vl V9;clear hu1;obtain⟨rl,hrl⟩:=eX ((rs.map jH).take 9)
     rw[hrl] at Vz Vf;clear hrl;go_upto_region 4 with fail
     by_cases hnum:Zn s=true
     · skip;obtain⟨rfl,rfl,rfl⟩:p0=true∧p1=true∧p2=true:=by
        have h:=hnum;rw[VA.out] at h;simpa using h
       have VS:=lH (show ∀W,Kept w W→Calls Tryz.prog 72 #[.string (bytes n0)] W (fun e w'=>e=.returned (.int .i64 (u0:Int))∧Kept W w') from fun W k=>(Vn.out W k).mono fun e w' h=>⟨by simpa using h.1,h.2⟩);have VI:=lH (show ∀W,Kept w W→Calls Tryz.prog 72 #[.string (bytes n1)] W (fun e w'=>e=.returned (.int .i64 (u1:Int))∧Kept W w') from fun W k=>(Vl.out W k).mono fun e w' h=>⟨by simpa using h.1,h.2⟩);have VB:=lH (fun W (k:Kept w3 W)=>(Vf.out W k).mono fun e w' h=>(show ∃av n9 cv,e=.returned (.slice av n9 cv)∧Reads jR w' (.slice av n9 cv) rl∧(∀b off sp,av=some ⟨b,off,sp⟩→W.heap.size≤b∧b<w'.heap.size)∧Kept W w' by
        obtain⟨v,e1,ho⟩:=h.1 rfl;obtain⟨a,cap,rfl,h1,h2,h3⟩:=ho.at_;exact⟨a,_,cap,e1,⟨a,cap,rfl,h1,h2,h3⟩,fun b off sp e=>ho.1.lt b (by subst e;rfl),h.2.2⟩))
       clear Vn Vl Vf;have Ua:=lH hnum;clear hnum;have U0:=lH (V8.out rfl);have U1:=lH (V9.out rfl);go_cut [6] from 18 to 28 (fun s6 wx=>∃q av n9 cv,s6=.pointer (some ⟨q,0,none⟩)∧Hid (jA q [.string ⟨#[]⟩,.slice none 0 0,.slice av n9 cv,.int .i64 (u0:Int),.int .i64 (u1:Int)] wx∧Reads jR wx (.slice av n9 cv) rl∧(∀b off sp,av=some ⟨b,off,sp⟩→b≠q∧w3.heap.size≤b)∧Kept w3 wx∧w3.heap.size≤q))
       case first =>
        have J:=lH (Kept.drew w3);refine wp_region_held_drew (S:=fun W=>Kept w3 W) (by kernel_rfl) (J.out) (fun hHeld=>?_);obtain⟨wd,hwd⟩:=eX (w3.drew)
        rw[hwd] at J hHeld;try rw[hwd]
        clear hwd;refine tR 0 rfl (by kernel_rfl) (fun _ _ _=>id) (Or.inl ⟨by rfl,(by intro W hSw;obtain⟨o0,o1⟩:=Ve.out _ hSw;go_simp<;>with_reducible rfl)⟩) ‹_› ?_;try simp only[nA,nB,nC,nD,nE]
        refine tR 1 rfl (by kernel_rfl) (fun _ _ _=>id) (Or.inl ⟨by rfl,(by intro W hSw;obtain⟨o0,o1⟩:=Ve.out _ hSw;go_simp<;>with_reducible rfl)⟩) ‹_› ?_;try simp only[nA,nB,nC,nD,nE]
        refine tR 2 rfl (by kernel_rfl) (fun _ _ _=>id) (Or.inl ⟨by rfl,(by intro W hSw;obtain⟨o0,o1⟩:=Ve.out _ hSw;go_simp<;>with_reducible rfl)⟩) ‹_› ?_;try simp only[nA,nB,nC,nD,nE]
        refine tR 4 rfl (by kernel_rfl) (fun _ _ _=>id) (Or.inl ⟨by rfl,(by intro W hSw;obtain⟨o0,o1⟩:=Ve.out _ hSw;go_simp<;>with_reducible rfl)⟩) ‹_› ?_;try simp only[nA,nB,nC,nD,nE]
        refine tR 5 rfl (by kernel_rfl) (fun _ _ _=>id) (Or.inl ⟨by rfl,(by intro W hSw;obtain⟨o0,o1⟩:=Ve.out _ hSw;go_simp<;>with_reducible rfl)⟩) ‹_› ?_;try simp only[nA,nB,nC,nD,nE]
        refine tR 6 rfl (by kernel_rfl) (fun _ _ _=>id) (Or.inl ⟨by rfl,(by intro W hSw;obtain⟨o0,o1⟩:=Ve.out _ hSw;go_simp<;>with_reducible rfl)⟩) ‹_› ?_;try simp only[nA,nB,nC,nD,nE]
        refine tR 8 rfl (by kernel_rfl) (fun _ _ _=>id) (Or.inl ⟨by rfl,(by intro W hSw;obtain⟨o0,o1⟩:=Ve.out _ hSw;go_simp<;>with_reducible rfl)⟩) ‹_› ?_;try simp only[nA,nB,nC,nD,nE]
        refine wpAnyH_ready  (rs:=[3,11]) (by kernel_rfl) (by simp) (AllReadyH.cons  (by rw[List.getElem?_toArray];exact rfl) (fun K9 Ky=>?_) (AllReadyH.cons  (by rw[List.getElem?_toArray];exact rfl) (fun K9 Ky=>?_) AllReadyH.nil))
        · skip;go_simp;refine(VS.out _ (K.out.trans J.out)).mono ?_;rintro e9 ww1 ⟨rfl,kk⟩;have J:=lH (J.out.trans kk);clear kk;refine Ky.out _ _ (J.out) (fun _=>?_);clear Ky K9;try simp only[nA,nB,nC,nD,nE]
          refine wpAnyH_ready  (rs:=[7,11]) (by kernel_rfl) (by simp) (AllReadyH.cons  (by rw[List.getElem?_toArray];exact rfl) (fun K9 Ky=>?_) (AllReadyH.cons  (by rw[List.getElem?_toArray];exact rfl) (fun K9 Ky=>?_) AllReadyH.nil))
          · skip;go_simp;refine(VI.out _ (K.out.trans J.out)).mono ?_;rintro e9 ww3 ⟨rfl,kk⟩;have J:=lH (J.out.trans kk);clear kk;refine Ky.out _ _ (J.out) (fun _=>?_);clear Ky K9;try simp only[nA,nB,nC,nD,nE]
            refine wpAnyH_ready  (rs:=[9,11]) (by kernel_rfl) (by simp) (AllReadyH.cons  (by rw[List.getElem?_toArray];exact rfl) (fun K9 Ky=>?_) (AllReadyH.cons  (by rw[List.getElem?_toArray];exact rfl) (fun K9 Ky=>?_) AllReadyH.nil))
            · skip;go_simp;refine(VB.out _ J.out).mono ?_;rintro e9 ww5 ⟨av,n9,cv,rfl,rd,rb,kk⟩;obtain⟨RB,RL,RD,J⟩:=lH4 (show ∀b off sp,av=some ⟨b,off,sp⟩→True∧w3.heap.size≤b from fun b off sp e=>⟨trivial,Nat.le_trans J.out.size (rb b off sp e).1⟩) (fun b off sp e=>(rb b off sp e).2) rd (J.out.trans kk);clear rd rb;clear kk;refine Ky.out _ _ (J.out) (fun _=>?_);clear Ky K9;try simp only[nA,nB,nC,nD,nE]
              refine tR 10 rfl (by kernel_rfl) (fun _ _ _=>id) (Or.inl ⟨by rfl,(by intro W hSw;obtain⟨o0,o1⟩:=Ve.out _ hSw;go_simp<;>with_reducible rfl)⟩) ‹_› ?_;try simp only[nA,nB,nC,nD,nE]
              refine rd1 11 fun K9 Ky=>?_;go_simp;have kk:=ja ww5 (.cells #[.string ⟨#[]⟩,.slice none 0 0,.slice none 0 0,.int .i64 0,.int .i64 0] 26);have hn:=ju ww5 (.string ⟨#[]⟩) [.slice none 0 0,.slice none 0 0,.int .i64 0,.int .i64 0] 26 _ (Kept.refl _);have hp9:w3.heap.size≤ww5.heap.size:=J.out.size;have RB:=lH (show ∀b off sp,av=some ⟨b,off,sp⟩→b≠ww5.heap.size∧w3.heap.size≤b from fun b off sp e=>⟨by have:=RL.out b off sp e;omega,(RB.out b off sp e).2⟩);obtain⟨q,hqe⟩:=eX (ww5.heap.size)
              rw[hqe] at hn hp9 RB ⊢;obtain⟨ww7,hnw⟩:=eX (ww5.alloc (.cells #[.string ⟨#[]⟩,.slice none 0 0,.slice none 0 0,.int .i64 0,.int .i64 0] 26))
              rw[hnw] at hn kk ⊢;clear hnw hqe;obtain⟨J,QA,Vi,RD⟩:=lH4 (J.out.trans kk) hn hp9 (RD.out.kept kk);clear hn kk hp9;refine Ky.out _ _ (J.out) (fun _=>?_);clear Ky K9;try simp only[nA,nB,nC,nD,nE]
              refine rd1 12 fun K9 Ky=>?_;obtain⟨z0,z1,z2,z3,z4⟩:=QA.out.at5;have y0:=QA.out.free 0;have y1:=QA.out.free 1;have y2:=QA.out.free 2;have y3:=QA.out.free 3;have y4:=QA.out.free 4;go_simp;have PP:=lH (Jv (vs:=[.string ⟨#[]⟩,.slice none 0 0,.slice av n9 cv,.int .i64 (u0:Int),.int .i64 (u1:Int)]) QA.out rfl);obtain⟨ww9,hnw⟩:=eX (ww7.setCells q 0 [.string ⟨#[]⟩,.slice none 0 0,.slice av n9 cv,.int .i64 (u0:Int),.int .i64 (u1:Int)])
              have hnw2:(((((ww7.setCell ⟨q,0,none⟩ (.string ⟨#[]⟩)).setCell ⟨q,1,none⟩ (.slice none 0 0)).setCell ⟨q,2,none⟩ (.slice av n9 cv)).setCell ⟨q,3,none⟩ (.int .i64 (u0:Int))).setCell ⟨q,4,none⟩ (.int .i64 (u1:Int)))=ww9:=hnw;rw[hnw] at PP;rw[hnw2];clear hnw hnw2 z0 y0 z1 y1 z2 y2 z3 y3 z4 y4;obtain⟨J,QA,RD⟩:=lH3 (show Kept w3 ww9 from PP.out.below _ _ Vi.out J.out) PP.out.cells (RD.out.far PP.out.size (fun b o sp e=>PP.out.far b (RB.out b o sp e).1));clear PP;refine Ky.out _ _ (J.out) (fun _=>?_);clear Ky K9;try simp only[nA,nB,nC,nD,nE]
              refine wpAnyH_done (by kernel_rfl) ?_ _;go_wp2;go_meet
              case rel=>exact⟨q,av,n9,cv,rfl,lH ⟨QA.out,RD.out,RB.out,J.out,Vi.out⟩⟩
            · skip;go_simp;have kk:=ja ww3 (.cells #[.string ⟨#[]⟩,.slice none 0 0,.slice none 0 0,.int .i64 0,.int .i64 0] 26);have hn:=ju ww3 (.string ⟨#[]⟩) [.slice none 0 0,.slice none 0 0,.int .i64 0,.int .i64 0] 26 _ (Kept.refl _);have hp9:w3.heap.size≤ww3.heap.size:=J.out.size;obtain⟨q,hqe⟩:=eX (ww3.heap.size)
              rw[hqe] at hn hp9 ⊢;obtain⟨ww11,hnw⟩:=eX (ww3.alloc (.cells #[.string ⟨#[]⟩,.slice none 0 0,.slice none 0 0,.int .i64 0,.int .i64 0] 26))
              rw[hnw] at hn kk ⊢;clear hnw hqe;obtain⟨J,QA,Vi⟩:=lH3 (J.out.trans kk) hn hp9;clear hn kk hp9;refine Ky.out _ _ (J.out) (fun _=>?_);clear Ky K9;try simp only[nA,nB,nC,nD,nE]
              refine rd1 9 fun K9 Ky=>?_;go_simp;refine(VB.out _ J.out).mono ?_;rintro e9 ww13 ⟨av,n9,cv,rfl,rd,rb,kk⟩;obtain⟨RB,RL,RD,J⟩:=lH4 (show ∀b off sp,av=some ⟨b,off,sp⟩→b≠q∧w3.heap.size≤b from fun b off sp e=>⟨by have:=(rb b off sp e).1;have:=QA.out.lt;omega,Nat.le_trans J.out.size (rb b off sp e).1⟩) (fun b off sp e=>(rb b off sp e).2) rd (J.out.trans kk);clear rd rb;have QA:=lH (QA.out.kept kk);clear kk;refine Ky.out _ _ (J.out) (fun _=>?_);clear Ky K9;try simp only[nA,nB,nC,nD,nE]
              refine tR 10 rfl (by kernel_rfl) (fun _ _ _=>id) (Or.inl ⟨by rfl,(by intro W hSw;obtain⟨o0,o1⟩:=Ve.out _ hSw;go_simp<;>with_reducible rfl)⟩) ‹_› ?_;try simp only[nA,nB,nC,nD,nE]
              refine rd1 12 fun K9 Ky=>?_;obtain⟨z0,z1,z2,z3,z4⟩:=QA.out.at5;have y0:=QA.out.free 0;have y1:=QA.out.free 1;have y2:=QA.out.free 2;have y3:=QA.out.free 3;have y4:=QA.out.free 4;go_simp;have PP:=lH (Jv (vs:=[.string ⟨#[]⟩,.slice none 0 0,.slice av n9 cv,.int .i64 (u0:Int),.int .i64 (u1:Int)]) QA.out rfl);obtain⟨ww15,hnw⟩:=eX (ww13.setCells q 0 [.string ⟨#[]⟩,.slice none 0 0,.slice av n9 cv,.int .i64 (u0:Int),.int .i64 (u1:Int)])
              have hnw2:(((((ww13.setCell ⟨q,0,none⟩ (.string ⟨#[]⟩)).setCell ⟨q,1,none⟩ (.slice none 0 0)).setCell ⟨q,2,none⟩ (.slice av n9 cv)).setCell ⟨q,3,none⟩ (.int .i64 (u0:Int))).setCell ⟨q,4,none⟩ (.int .i64 (u1:Int)))=ww15:=hnw;rw[hnw] at PP;rw[hnw2];clear hnw hnw2 z0 y0 z1 y1 z2 y2 z3 y3 z4 y4;obtain⟨J,QA,RD⟩:=lH3 (show Kept w3 ww15 from PP.out.below _ _ Vi.out J.out) PP.out.cells (RD.out.far PP.out.size (fun b o sp e=>PP.out.far b (RB.out b o sp e).1));clear PP;refine Ky.out _ _ (J.out) (fun _=>?_);clear Ky K9;try simp only[nA,nB,nC,nD,nE]
              refine wpAnyH_done (by kernel_rfl) ?_ _;go_wp2;go_meet
              case rel=>exact⟨q,av,n9,cv,rfl,lH ⟨QA.out,RD.out,RB.out,J.out,Vi.out⟩⟩
          · skip;go_simp;have kk:=ja ww1 (.cells #[.string ⟨#[]⟩,.slice none 0 0,.slice none 0 0,.int .i64 0,.int .i64 0] 26);have hn:=ju ww1 (.string ⟨#[]⟩) [.slice none 0 0,.slice none 0 0,.int .i64 0,.int .i64 0] 26 _ (Kept.refl _);have hp9:w3.heap.size≤ww1.heap.size:=J.out.size;obtain⟨q,hqe⟩:=eX (ww1.heap.size)
            rw[hqe] at hn hp9 ⊢;obtain⟨ww17,hnw⟩:=eX (ww1.alloc (.cells #[.string ⟨#[]⟩,.slice none 0 0,.slice none 0 0,.int .i64 0,.int .i64 0] 26))
            rw[hnw] at hn kk ⊢;clear hnw hqe;obtain⟨J,QA,Vi⟩:=lH3 (J.out.trans kk) hn hp9;clear hn kk hp9;refine Ky.out _ _ (J.out) (fun _=>?_);clear Ky K9;try simp only[nA,nB,nC,nD,nE]
            refine rd1 7 fun K9 Ky=>?_;go_simp;refine(VI.out _ (K.out.trans J.out)).mono ?_;rintro e9 ww19 ⟨rfl,kk⟩;have J:=lH (J.out.trans kk);have QA:=lH (QA.out.kept kk);clear kk;refine Ky.out _ _ (J.out) (fun _=>?_);clear Ky K9;try simp only[nA,nB,nC,nD,nE]
            refine rd1 9 fun K9 Ky=>?_;go_simp;refine(VB.out _ J.out).mono ?_;rintro e9 ww21 ⟨av,n9,cv,rfl,rd,rb,kk⟩;obtain⟨RB,RL,RD,J⟩:=lH4 (show ∀b off sp,av=some ⟨b,off,sp⟩→b≠q∧w3.heap.size≤b from fun b off sp e=>⟨by have:=(rb b off sp e).1;have:=QA.out.lt;omega,Nat.le_trans J.out.size (rb b off sp e).1⟩) (fun b off sp e=>(rb b off sp e).2) rd (J.out.trans kk);clear rd rb;have QA:=lH (QA.out.kept kk);clear kk;refine Ky.out _ _ (J.out) (fun _=>?_);clear Ky K9;try simp only[nA,nB,nC,nD,nE]
            refine tR 10 rfl (by kernel_rfl) (fun _ _ _=>id) (Or.inl ⟨by rfl,(by intro W hSw;obtain⟨o0,o1⟩:=Ve.out _ hSw;go_simp<;>with_reducible rfl)⟩) ‹_› ?_;try simp only[nA,nB,nC,nD,nE]
            refine rd1 12 fun K9 Ky=>?_;obtain⟨z0,z1,z2,z3,z4⟩:=QA.out.at5;have y0:=QA.out.free 0;have y1:=QA.out.free 1;have y2:=QA.out.free 2;have y3:=QA.out.free 3;have y4:=QA.out.free 4;go_simp;have PP:=lH (Jv (vs:=[.string ⟨#[]⟩,.slice none 0 0,.slice av n9 cv,.int .i64 (u0:Int),.int .i64 (u1:Int)]) QA.out rfl);obtain⟨ww23,hnw⟩:=eX (ww21.setCells q 0 [.string ⟨#[]⟩,.slice none 0 0,.slice av n9 cv,.int .i64 (u0:Int),.int .i64 (u1:Int)])
            have hnw2:(((((ww21.setCell ⟨q,0,none⟩ (.string ⟨#[]⟩)).setCell ⟨q,1,none⟩ (.slice none 0 0)).setCell ⟨q,2,none⟩ (.slice av n9 cv)).setCell ⟨q,3,none⟩ (.int .i64 (u0:Int))).setCell ⟨q,4,none⟩ (.int .i64 (u1:Int)))=ww23:=hnw;rw[hnw] at PP;rw[hnw2];clear hnw hnw2 z0 y0 z1 y1 z2 y2 z3 y3 z4 y4;obtain⟨J,QA,RD⟩:=lH3 (show Kept w3 ww23 from PP.out.below _ _ Vi.out J.out) PP.out.cells (RD.out.far PP.out.size (fun b o sp e=>PP.out.far b (RB.out b o sp e).1));clear PP;refine Ky.out _ _ (J.out) (fun _=>?_);clear Ky K9;try simp only[nA,nB,nC,nD,nE]
            refine wpAnyH_done (by kernel_rfl) ?_ _;go_wp2;go_meet
            case rel=>exact⟨q,av,n9,cv,rfl,lH ⟨QA.out,RD.out,RB.out,J.out,Vi.out⟩⟩
        · skip;go_simp;have kk:=ja wd (.cells #[.string ⟨#[]⟩,.slice none 0 0,.slice none 0 0,.int .i64 0,.int .i64 0] 26);have hn:=ju wd (.string ⟨#[]⟩) [.slice none 0 0,.slice none 0 0,.int .i64 0,.int .i64 0] 26 _ (Kept.refl _);have hp9:w3.heap.size≤wd.heap.size:=J.out.size;obtain⟨q,hqe⟩:=eX (wd.heap.size)
          rw[hqe] at hn hp9 ⊢;obtain⟨ww25,hnw⟩:=eX (wd.alloc (.cells #[.string ⟨#[]⟩,.slice none 0 0,.slice none 0 0,.int .i64 0,.int .i64 0] 26))
          rw[hnw] at hn kk ⊢;clear hnw hqe;obtain⟨J,QA,Vi⟩:=lH3 (J.out.trans kk) hn hp9;clear hn kk hp9;refine Ky.out _ _ (J.out) (fun _=>?_);clear Ky K9;try simp only[nA,nB,nC,nD,nE]
          refine rd1 3 fun K9 Ky=>?_;go_simp;refine(VS.out _ (K.out.trans J.out)).mono ?_;rintro e9 ww27 ⟨rfl,kk⟩;have J:=lH (J.out.trans kk);have QA:=lH (QA.out.kept kk);clear kk;refine Ky.out _ _ (J.out) (fun _=>?_);clear Ky K9;try simp only[nA,nB,nC,nD,nE]
          refine rd1 7 fun K9 Ky=>?_;go_simp;refine(VI.out _ (K.out.trans J.out)).mono ?_;rintro e9 ww29 ⟨rfl,kk⟩;have J:=lH (J.out.trans kk);have QA:=lH (QA.out.kept kk);clear kk;refine Ky.out _ _ (J.out) (fun _=>?_);clear Ky K9;try simp only[nA,nB,nC,nD,nE]
          refine rd1 9 fun K9 Ky=>?_;go_simp;refine(VB.out _ J.out).mono ?_;rintro e9 ww31 ⟨av,n9,cv,rfl,rd,rb,kk⟩;obtain⟨RB,RL,RD,J⟩:=lH4 (show ∀b off sp,av=some ⟨b,off,sp⟩→b≠q∧w3.heap.size≤b from fun b off sp e=>⟨by have:=(rb b off sp e).1;have:=QA.out.lt;omega,Nat.le_trans J.out.size (rb b off sp e).1⟩) (fun b off sp e=>(rb b off sp e).2) rd (J.out.trans kk);clear rd rb;have QA:=lH (QA.out.kept kk);clear kk;refine Ky.out _ _ (J.out) (fun _=>?_);clear Ky K9;try simp only[nA,nB,nC,nD,nE]
          refine tR 10 rfl (by kernel_rfl) (fun _ _ _=>id) (Or.inl ⟨by rfl,(by intro W hSw;obtain⟨o0,o1⟩:=Ve.out _ hSw;go_simp<;>with_reducible rfl)⟩) ‹_› ?_;try simp only[nA,nB,nC,nD,nE]
          refine rd1 12 fun K9 Ky=>?_;obtain⟨z0,z1,z2,z3,z4⟩:=QA.out.at5;have y0:=QA.out.free 0;have y1:=QA.out.free 1;have y2:=QA.out.free 2;have y3:=QA.out.free 3;have y4:=QA.out.free 4;go_simp;have PP:=lH (Jv (vs:=[.string ⟨#[]⟩,.slice none 0 0,.slice av n9 cv,.int .i64 (u0:Int),.int .i64 (u1:Int)]) QA.out rfl);obtain⟨ww33,hnw⟩:=eX (ww31.setCells q 0 [.string ⟨#[]⟩,.slice none 0 0,.slice av n9 cv,.int .i64 (u0:Int),.int .i64 (u1:Int)])
          have hnw2:(((((ww31.setCell ⟨q,0,none⟩ (.string ⟨#[]⟩)).setCell ⟨q,1,none⟩ (.slice none 0 0)).setCell ⟨q,2,none⟩ (.slice av n9 cv)).setCell ⟨q,3,none⟩ (.int .i64 (u0:Int))).setCell ⟨q,4,none⟩ (.int .i64 (u1:Int)))=ww33:=hnw;rw[hnw] at PP;rw[hnw2];clear hnw hnw2 z0 y0 z1 y1 z2 y2 z3 y3 z4 y4;obtain⟨J,QA,RD⟩:=lH3 (show Kept w3 ww33 from PP.out.below _ _ Vi.out J.out) PP.out.cells (RD.out.far PP.out.size (fun b o sp e=>PP.out.far b (RB.out b o sp e).1));clear PP;refine Ky.out _ _ (J.out) (fun _=>?_);clear Ky K9;try simp only[nA,nB,nC,nD,nE]
          refine wpAnyH_done (by kernel_rfl) ?_ _;go_wp2;go_meet
          case rel=>exact⟨q,av,n9,cv,rfl,lH ⟨QA.out,RD.out,RB.out,J.out,Vi.out⟩⟩
       case rest =>
        obtain⟨q,av,n9,cv,rfl,hx⟩:=hcut;obtain⟨w4,hw4⟩:∃W,W=wc:=⟨_,rfl⟩
        subst hw4;obtain⟨hqa,hrd,hrb,hj,hqp⟩:=hx.out;obtain⟨QA,RD,RB,J,Vi⟩:=lH5 hqa hrd hrb hj hqp;clear hx hqa hrd hrb hj hqp VS VI VB;obtain⟨c0,c1,c2⟩:=HC.out _ J.out;have Td:=lH (fun W=>ZI (bytes a) W (by rw[jh];have:=VX.out;omega));go_wp2_with fail
        refine(Td.out _).mono ?_;rintro e w5 ⟨rfl,kk⟩;obtain⟨J,QA,RD⟩:=lH3 (J.out.trans kk) (QA.out.kept kk) (RD.out.kept kk);clear kk c0 c1 c2 Td;have x0:=QA.out.at_ 0 _ rfl;have f0:=QA.out.free 0;obtain⟨QA,J,RD⟩:=lH3 (show jA q [.string (bytes a),.slice none 0 0,.slice av n9 cv,.int .i64 (u0:Int),.int .i64 (u1:Int)] (w5.setCell ⟨q,0,none⟩ (.string (bytes a))) from QA.out.set (j:=0) (by simp)) (show Kept w3 (w5.setCell ⟨q,0,none⟩ (.string (bytes a))) from J.out.setCell (p:=⟨q,0,none⟩) Vi.out _) (RD.out.far (w':=(w5.setCell ⟨q,0,none⟩ (.string (bytes a)))) (by simp[World.setCell]) (fun b o sp e=>Below.heap_setCell w5 ⟨q,0,none⟩ _ b (show b≠q from(RB.out b o sp e).1)));obtain⟨c0,c1,c2⟩:=HC.out _ J.out;obtain⟨⟨e1,m1⟩,hpv⟩:∃x,Vec.zf b=x:=⟨_,rfl⟩
        have Te:=lH hpv;have Un:=lH (fun W (k:Kept w3 W)=>(Vec.X8 b W (HE.out.kept (K.out.trans k)).toEnv V5.out).mono fun _ _=>Vec.Ja.spelt);rw[hpv] at Un Vz;clear hpv;dsimp only at Un Vz;go_wp2_with fail
        obtain⟨w6,hw6⟩:=eX ((w5.setCell ⟨q,0,none⟩ (.string (bytes a))))
        rw[hw6] at QA J RD c0 c1 c2 ⊢;clear hw6 x0 f0 c0 c1 c2;refine(Un.out _ J.out).mono ?_;rintro e w7 ⟨a1,m9,d1,rfl,hru,hgu,kk⟩;obtain⟨RU,RUB,QA,RD,J⟩:=lH5 hru (show ∀b off sp,a1=some ⟨b,off,sp⟩→b≠q∧w3.heap.size≤b from fun b off sp e=>⟨by have:=(hgu b off sp e).1;have:=QA.out.lt;omega,Nat.le_trans J.out.size (hgu b off sp e).1⟩) (QA.out.kept kk) (RD.out.kept kk) (J.out.trans kk);clear hru hgu kk Un;go_wp2_with fail
        by_cases z1:e1=0
        · subst z1;refine(qi _ _).mono ?_;rintro e w9 ⟨rfl,rfl⟩;have x0:=QA.out.at_ 1 _ rfl;have f0:=QA.out.free 1;obtain⟨QA,J,RD,RU⟩:=lH4 (show jA q [.string (bytes a),.slice a1 m9 d1,.slice av n9 cv,.int .i64 (u0:Int),.int .i64 (u1:Int)] (w7.setCell ⟨q,1,none⟩ (.slice a1 m9 d1)) from QA.out.set (j:=1) (by simp)) (show Kept w3 (w7.setCell ⟨q,1,none⟩ (.slice a1 m9 d1)) from J.out.setCell (p:=⟨q,1,none⟩) Vi.out _) (RD.out.far (w':=(w7.setCell ⟨q,1,none⟩ (.slice a1 m9 d1))) (by simp[World.setCell]) (fun b o sp e=>Below.heap_setCell w7 ⟨q,1,none⟩ _ b (show b≠q from(RB.out b o sp e).1))) (RU.out.far (w':=(w7.setCell ⟨q,1,none⟩ (.slice a1 m9 d1))) (by simp[World.setCell]) (fun b o sp e=>Below.heap_setCell w7 ⟨q,1,none⟩ _ b (show b≠q from(RUB.out b o sp e).1)));go_upto_region 7 with fail
          obtain⟨w8,hw8⟩:=eX ((w7.setCell ⟨q,1,none⟩ (.slice a1 m9 d1)))
          rw[hw8] at QA J RD RU ⊢;clear hw8 x0 f0;have Va:=lH (show jZ w8 (.slice a1 m9 d1) (.slice av n9 cv) ⟨bytes a,m1,rl,(u0:Int),(u1:Int)⟩ from⟨by rw[jh];have:=VX.out;unfold maxLen;omega,RU.out,RD.out,⟨by dsimp only;omega,U0.out⟩,⟨by dsimp only;omega,U1.out⟩⟩);have UL:=lH (show jc s=if jU ⟨bytes a,m1,rl,(u0:Int),(u1:Int)⟩≠0 then (jU ⟨bytes a,m1,rl,(u0:Int),(u1:Int)⟩,Lad.zero) else (0,⟨bytes a,m1,rl,(u0:Int),(u1:Int)⟩) by
           unfold jc;rw[VH.out,Ua.out,VE.out,Te.out,Vz.out];simp)
          obtain⟨ck,hck⟩:=eX (jU ⟨bytes a,m1,rl,(u0:Int),(u1:Int)⟩)
          have VG:=lH (fun W (k:Kept w8 W)=>Jm ⟨bytes a,m1,rl,(u0:Int),(u1:Int)⟩ (.slice a1 m9 d1) (.slice av n9 cv) W (Va.out.kept k));rw[hck] at VG UL;unfold Yo at VG;dsimp only at VG;clear hck;have Uo:=lH (show ∀W,Kept w8 W→W.cell? ⟨q,0,none⟩=some (.string (bytes a))∧W.cell? ⟨q,1,none⟩=some (.slice a1 m9 d1)∧W.cell? ⟨q,2,none⟩=some (.slice av n9 cv)∧W.cell? ⟨q,3,none⟩=some (.int .i64 (u0:Int))∧W.cell? ⟨q,4,none⟩=some (.int .i64 (u1:Int)) from fun W k=>(jA.kept QA.out k).at5);have TG:=lH (fun W (k:Kept w8 W)=>jA.kept VL.out (J.out.trans k));have hq0q:q≠q0:=by have:=Vi.out;have:=VN.out;omega
          have UM:=lH hq0q;clear hq0q;have J7:=lH (Kept.drew w8);refine wp_region_held_drew (S:=fun W=>W.cell? ⟨q,0,none⟩=some (.string (bytes a))∧W.cell? ⟨q,1,none⟩=some (.slice a1 m9 d1)∧W.cell? ⟨q,2,none⟩=some (.slice av n9 cv)∧W.cell? ⟨q,3,none⟩=some (.int .i64 (u0:Int))∧W.cell? ⟨q,4,none⟩=some (.int .i64 (u1:Int))) (by kernel_rfl) (Uo.out _ J7.out) (fun hHeld=>?_);obtain⟨wd,hwd⟩:=eX (w8.drew)
          rw[hwd] at J7 hHeld;try rw[hwd]
          clear hwd;refine tR 0 rfl (by kernel_rfl) (fun _ _ _=>id) (Or.inl ⟨by rfl,by rintro W ⟨o0,o1,o2,o3,o4⟩;go_simp<;>with_reducible rfl⟩) ‹_› ?_;try simp only[nA,nB,nC,nD,nE]
          refine tR 1 rfl (by kernel_rfl) (fun _ _ _=>id) (Or.inl ⟨by rfl,by rintro W ⟨o0,o1,o2,o3,o4⟩;go_simp<;>with_reducible rfl⟩) ‹_› ?_;try simp only[nA,nB,nC,nD,nE]
          refine rd1 2 fun K9 Ky=>?_;go_simp;refine(VG.out _ J7.out).mono ?_;rintro e y1 ⟨rfl,kk⟩;have J7:=lH (J7.out.trans kk);clear kk;refine Ky.out _ _ (Uo.out _ J7.out) (fun _=>?_);clear Ky K9;try simp only[nA,nB,nC,nD,nE]
          by_cases z2:ck=0
          · subst z2;refine rd1 3 fun K9 Ky=>?_;go_simp;refine(XW _ _ _ _ _ _ _ _ _ _).mono ?_;rintro e y2 ⟨rfl,kk⟩;have J7:=lH (J7.out.trans kk);clear kk;refine Ky.out _ _ (Uo.out _ J7.out) (fun _=>?_);clear Ky K9;try simp only[nA,nB,nC,nD,nE]
            have VT:=lH (TG.out _ J7.out);obtain⟨z0,z1,z2,z3,z4⟩:=VT.out.at5;have g0_:=VT.out.free 0;have g1_:=VT.out.free 1;have g2_:=VT.out.free 2;have g3_:=VT.out.free 3;have g4_:=VT.out.free 4;have P:=lH (Jv (vs:=[.string (bytes a),.slice a1 m9 d1,.slice av n9 cv,.int .i64 (u0:Int),.int .i64 (u1:Int)]) VT.out rfl);refine rd1 4 fun K9 Ky=>?_;go_simp;obtain⟨WE,hWE⟩:=eX (y2.setCells q0 0 [.string (bytes a),.slice a1 m9 d1,.slice av n9 cv,.int .i64 (u0:Int),.int .i64 (u1:Int)])
            have hWE2:(((((y2.setCell ⟨q0,0,none⟩ (.string (bytes a))).setCell ⟨q0,1,none⟩ (.slice a1 m9 d1)).setCell ⟨q0,2,none⟩ (.slice av n9 cv)).setCell ⟨q0,3,none⟩ (.int .i64 (u0:Int))).setCell ⟨q0,4,none⟩ (.int .i64 (u1:Int)))=WE:=hWE;rw[hWE] at P;try rw[hWE2]
            have TH:=lH (show WE.cell? ⟨q,0,none⟩=some (.string (bytes a))∧WE.cell? ⟨q,1,none⟩=some (.slice a1 m9 d1)∧WE.cell? ⟨q,2,none⟩=some (.slice av n9 cv)∧WE.cell? ⟨q,3,none⟩=some (.int .i64 (u0:Int))∧WE.cell? ⟨q,4,none⟩=some (.int .i64 (u1:Int)) by
             have e:∀j,WE.cell? ⟨q,j,none⟩=y2.cell? ⟨q,j,none⟩:=fun j=>World.cell?_of_block (a:=⟨q,j,none⟩) (P.out.far q UM.out);simp only[e];exact Uo.out _ J7.out)
            clear hWE hWE2 z0 z1 z2 z3 z4 g0_ g1_ g2_ g3_ g4_;refine Ky.out _ _ (TH.out) (fun _=>?_);clear Ky K9;try simp only[nA,nB,nC,nD,nE]
            refine wpAnyH_done (by kernel_rfl) ?_ _;go_wp2;have PC:=P.out.cells;refine bodyPost_ret (by simp[results,Tryz.results50,go_sem,PC.at_ 0 _ rfl,PC.at_ 1 _ rfl,PC.at_ 2 _ rfl,PC.at_ 3 _ rfl,PC.at_ 4 _ rfl];try rfl) rfl ?_;have hr2:jc s=(0,⟨bytes a,m1,rl,(u0:Int),(u1:Int)⟩):=by rw[UL.out];simp
            refine⟨fun _=>⟨_,rfl,?_⟩,fun h=>(by rw[hr2] at h;exact absurd rfl h),P.out.below _ _ (by have:=UF.out;omega) (K.out.trans (J.out.trans J7.out))⟩;rw[hr2];have hat:=Va.out.kept J7.out;refine⟨a1,m9,d1,av,n9,cv,rfl,⟨hat.size,hat.unit.far P.out.size (fun b o sp e=>P.out.far b (by have:=(RUB.out b o sp e).2;have:=VN.out;omega)),hat.rungs.far P.out.size (fun b o sp e=>P.out.far b (by have:=(RB.out b o sp e).2;have:=VN.out;omega)),hat.lo,hat.hi⟩,fun b o sp e=>?_,fun b o sp e=>?_⟩
            · have:=(RUB.out b o sp e).2;have:=VN.out;have:=UF.out;omega
            · have:=(RB.out b o sp e).2;have:=VN.out;have:=UF.out;omega
          · skip;refine rd1 3 fun K9 Ky=>?_;go_simp;refine(YO _ _ _ _ _ _ _ _ _ _ _ z2).mono ?_;rintro e y2 ⟨rfl,kk⟩;have hr2:(jc s).1=ck:=by rw[UL.out];simp[z2]
            exact⟨rfl,jB.bad hr2 z2 (K.out.trans (J.out.trans (J7.out.trans kk)))⟩
        · skip;have HV:=lH (show (jc s).1=e1 by unfold jc;rw[VH.out,Ua.out,VE.out,Te.out];simp[z1]);refine(Xz _ _ _ z1).mono ?_;rintro e w9 ⟨rfl,rfl⟩;go_wp2;exact⟨rfl,jB.bad HV.out z1 (K.out.trans J.out)⟩
     · have hnum:Zn s=false:=by simpa using hnum
       have HV:=lH (show (jc s).1=5 by unfold jc;rw[VH.out,hnum];rfl);have J:=lH (Kept.drew w3);refine wp_region_held_drew (S:=fun W=>Kept w3 W) (by kernel_rfl) (J.out) (fun hHeld=>?_);obtain⟨wd,hwd⟩:=eX (w3.drew)
       rw[hwd] at J hHeld;try rw[hwd]
       clear hwd;refine tR 0 rfl (by kernel_rfl) (fun _ _ _=>id) (Or.inl ⟨by rfl,(by intro W hSw;obtain⟨o0,o1⟩:=Ve.out _ hSw;go_simp<;>with_reducible rfl)⟩) ‹_› ?_;try simp only[nA,nB,nC,nD,nE]
       refine tR 1 rfl (by kernel_rfl) (fun _ _ _=>id) (Or.inl ⟨by rfl,(by intro W hSw;obtain⟨o0,o1⟩:=Ve.out _ hSw;go_simp<;>with_reducible rfl)⟩) ‹_› ?_;try simp only[nA,nB,nC,nD,nE]
       refine tR 2 rfl (by kernel_rfl) (fun _ _ _=>id) (Or.inl ⟨by rfl,(by intro W hSw;obtain⟨o0,o1⟩:=Ve.out _ hSw;go_simp<;>with_reducible rfl)⟩) ‹_› ?_;try simp only[nA,nB,nC,nD,nE]
       refine tR 4 rfl (by kernel_rfl) (fun _ _ _=>id) (Or.inl ⟨by rfl,(by intro W hSw;obtain⟨o0,o1⟩:=Ve.out _ hSw;go_simp<;>with_reducible rfl)⟩) ‹_› ?_;try simp only[nA,nB,nC,nD,nE]
       refine tR 5 rfl (by kernel_rfl) (fun _ _ _=>id) (Or.inl ⟨by rfl,(by intro W hSw;obtain⟨o0,o1⟩:=Ve.out _ hSw;go_simp<;>with_reducible rfl)⟩) ‹_› ?_;try simp only[nA,nB,nC,nD,nE]
       refine tR 6 rfl (by kernel_rfl) (fun _ _ _=>id) (Or.inl ⟨by rfl,(by intro W hSw;obtain⟨o0,o1⟩:=Ve.out _ hSw;go_simp<;>with_reducible rfl)⟩) ‹_› ?_;try simp only[nA,nB,nC,nD,nE]
       refine tR 8 rfl (by kernel_rfl) (fun _ _ _=>id) (Or.inl ⟨by rfl,(by intro W hSw;obtain⟨o0,o1⟩:=Ve.out _ hSw;go_simp<;>with_reducible rfl)⟩) ‹_› ?_;try simp only[nA,nB,nC,nD,nE]
       refine wpAnyH_ready  (rs:=[3,11]) (by kernel_rfl) (by simp) (AllReadyH.cons  (by rw[List.getElem?_toArray];exact rfl) (fun K9 Ky=>?_) (AllReadyH.cons  (by rw[List.getElem?_toArray];exact rfl) (fun K9 Ky=>?_) AllReadyH.nil))
       · skip;go_simp;refine(Vn.out _ (K.out.trans J.out)).mono ?_;rintro e9 ww35 ⟨he,kk⟩
         cases p0 with
         | false =>
          obtain rfl:e9=.panicked [js 5]:=he;exact⟨rfl,jB.bad HV.out (by decide) (K.out.trans (J.out.trans kk))⟩
         | true =>
          obtain rfl:e9=.returned (.int .i64 (u0:Int)):=he;have J:=lH (J.out.trans kk);clear kk;refine Ky.out _ _ (J.out) (fun _=>?_);clear Ky K9;try simp only[nA,nB,nC,nD,nE]
          refine wpAnyH_ready  (rs:=[7,11]) (by kernel_rfl) (by simp) (AllReadyH.cons  (by rw[List.getElem?_toArray];exact rfl) (fun K9 Ky=>?_) (AllReadyH.cons  (by rw[List.getElem?_toArray];exact rfl) (fun K9 Ky=>?_) AllReadyH.nil))
          · skip;go_simp;refine(Vl.out _ (K.out.trans J.out)).mono ?_;rintro e9 ww37 ⟨he,kk⟩
            cases p1 with
            | false =>
             obtain rfl:e9=.panicked [js 5]:=he;exact⟨rfl,jB.bad HV.out (by decide) (K.out.trans (J.out.trans kk))⟩
            | true =>
             obtain rfl:e9=.returned (.int .i64 (u1:Int)):=he;have J:=lH (J.out.trans kk);clear kk;refine Ky.out _ _ (J.out) (fun _=>?_);clear Ky K9;try simp only[nA,nB,nC,nD,nE]
             refine wpAnyH_ready  (rs:=[9,11]) (by kernel_rfl) (by simp) (AllReadyH.cons  (by rw[List.getElem?_toArray];exact rfl) (fun K9 Ky=>?_) (AllReadyH.cons  (by rw[List.getElem?_toArray];exact rfl) (fun K9 Ky=>?_) AllReadyH.nil))
             · skip;go_simp;refine(Vf.out _ J.out).mono ?_;rintro e9 ww39 ⟨-,hbad,kk⟩;obtain rfl:=hbad (by have h:=hnum;rw[VA.out] at h;simpa using h);exact⟨rfl,jB.bad HV.out (by decide) (K.out.trans (J.out.trans kk))⟩
             · skip;go_simp;have kk:=ja ww37 (.cells #[.string ⟨#[]⟩,.slice none 0 0,.slice none 0 0,.int .i64 0,.int .i64 0] 26);have hn:=ju ww37 (.string ⟨#[]⟩) [.slice none 0 0,.slice none 0 0,.int .i64 0,.int .i64 0] 26 _ (Kept.refl _);have hp9:w3.heap.size≤ww37.heap.size:=J.out.size;obtain⟨q,hqe⟩:=eX (ww37.heap.size)
               rw[hqe] at hn hp9 ⊢;obtain⟨ww40,hnw⟩:=eX (ww37.alloc (.cells #[.string ⟨#[]⟩,.slice none 0 0,.slice none 0 0,.int .i64 0,.int .i64 0] 26))
               rw[hnw] at hn kk ⊢;clear hnw hqe;obtain⟨J,QA,Vi⟩:=lH3 (J.out.trans kk) hn hp9;clear hn kk hp9;refine Ky.out _ _ (J.out) (fun _=>?_);clear Ky K9;try simp only[nA,nB,nC,nD,nE]
               refine rd1 9 fun K9 Ky=>?_;go_simp;refine(Vf.out _ J.out).mono ?_;rintro e9 ww42 ⟨-,hbad,kk⟩;obtain rfl:=hbad (by have h:=hnum;rw[VA.out] at h;simpa using h);exact⟨rfl,jB.bad HV.out (by decide) (K.out.trans (J.out.trans kk))⟩
          · skip;go_simp;have kk:=ja ww35 (.cells #[.string ⟨#[]⟩,.slice none 0 0,.slice none 0 0,.int .i64 0,.int .i64 0] 26);have hn:=ju ww35 (.string ⟨#[]⟩) [.slice none 0 0,.slice none 0 0,.int .i64 0,.int .i64 0] 26 _ (Kept.refl _);have hp9:w3.heap.size≤ww35.heap.size:=J.out.size;obtain⟨q,hqe⟩:=eX (ww35.heap.size)
            rw[hqe] at hn hp9 ⊢;obtain⟨ww43,hnw⟩:=eX (ww35.alloc (.cells #[.string ⟨#[]⟩,.slice none 0 0,.slice none 0 0,.int .i64 0,.int .i64 0] 26))
            rw[hnw] at hn kk ⊢;clear hnw hqe;obtain⟨J,QA,Vi⟩:=lH3 (J.out.trans kk) hn hp9;clear hn kk hp9;refine Ky.out _ _ (J.out) (fun _=>?_);clear Ky K9;try simp only[nA,nB,nC,nD,nE]
            refine rd1 7 fun K9 Ky=>?_;go_simp;refine(Vl.out _ (K.out.trans J.out)).mono ?_;rintro e9 ww45 ⟨he,kk⟩
            cases p1 with
            | false =>
             obtain rfl:e9=.panicked [js 5]:=he;exact⟨rfl,jB.bad HV.out (by decide) (K.out.trans (J.out.trans kk))⟩
            | true =>
             obtain rfl:e9=.returned (.int .i64 (u1:Int)):=he;have J:=lH (J.out.trans kk);clear kk;refine Ky.out _ _ (J.out) (fun _=>?_);clear Ky K9;try simp only[nA,nB,nC,nD,nE]
             refine rd1 9 fun K9 Ky=>?_;go_simp;refine(Vf.out _ J.out).mono ?_;rintro e9 ww47 ⟨-,hbad,kk⟩;obtain rfl:=hbad (by have h:=hnum;rw[VA.out] at h;simpa using h);exact⟨rfl,jB.bad HV.out (by decide) (K.out.trans (J.out.trans kk))⟩
       · skip;go_simp;have kk:=ja wd (.cells #[.string ⟨#[]⟩,.slice none 0 0,.slice none 0 0,.int .i64 0,.int .i64 0] 26);have hn:=ju wd (.string ⟨#[]⟩) [.slice none 0 0,.slice none 0 0,.int .i64 0,.int .i64 0] 26 _ (Kept.refl _);have hp9:w3.heap.size≤wd.heap.size:=J.out.size;obtain⟨q,hqe⟩:=eX (wd.heap.size)
         rw[hqe] at hn hp9 ⊢;obtain⟨ww48,hnw⟩:=eX (wd.alloc (.cells #[.string ⟨#[]⟩,.slice none 0 0,.slice none 0 0,.int .i64 0,.int .i64 0] 26))
         rw[hnw] at hn kk ⊢;clear hnw hqe;obtain⟨J,QA,Vi⟩:=lH3 (J.out.trans kk) hn hp9;clear hn kk hp9;refine Ky.out _ _ (J.out) (fun _=>?_);clear Ky K9;try simp only[nA,nB,nC,nD,nE]
         refine rd1 3 fun K9 Ky=>?_;go_simp;refine(Vn.out _ (K.out.trans J.out)).mono ?_;rintro e9 ww50 ⟨he,kk⟩
         cases p0 with
         | false =>
          obtain rfl:e9=.panicked [js 5]:=he;exact⟨rfl,jB.bad HV.out (by decide) (K.out.trans (J.out.trans kk))⟩
         | true =>
          obtain rfl:e9=.returned (.int .i64 (u0:Int)):=he;have J:=lH (J.out.trans kk);clear kk;refine Ky.out _ _ (J.out) (fun _=>?_);clear Ky K9;try simp only[nA,nB,nC,nD,nE]
          refine rd1 7 fun K9 Ky=>?_;go_simp;refine(Vl.out _ (K.out.trans J.out)).mono ?_;rintro e9 ww52 ⟨he,kk⟩
          cases p1 with
          | false =>
           obtain rfl:e9=.panicked [js 5]:=he;exact⟨rfl,jB.bad HV.out (by decide) (K.out.trans (J.out.trans kk))⟩
          | true =>
           obtain rfl:e9=.returned (.int .i64 (u1:Int)):=he;have J:=lH (J.out.trans kk);clear kk;refine Ky.out _ _ (J.out) (fun _=>?_);clear Ky K9;try simp only[nA,nB,nC,nD,nE]
           refine rd1 9 fun K9 Ky=>?_;go_simp;refine(Vf.out _ J.out).mono ?_;rintro e9 ww54 ⟨-,hbad,kk⟩;obtain rfl:=hbad (by have h:=hnum;rw[VA.out] at h;simpa using h);exact⟨rfl,jB.bad HV.out (by decide) (K.out.trans (J.out.trans kk))⟩
theorem JC (B:Nat) (q:Nat) (x y:Int) (w:World) (hq:w.cell? ⟨q,0,none⟩=some (.int .i64 y)) (hzq:w.frozen? ⟨q,0,none⟩=false) (hBq:B≤q) :
 CallsD Tryz.prog 68 #[.pointer (some ⟨q,0,none⟩)] (.panicking [js x]) w fun e u' w' =>
  e=.returned (.tuple #[])∧u'=.panicking [{ js x with recovered:=true }]∧w'=w.setCell ⟨q,0,none⟩ (.int .i64 x)∧w'.cell? ⟨q,0,none⟩=some (.int .i64 x)∧Below B w w':=by
 have hta:∀W,(Instr.typeAssert (.iface 38 (.int .i64 x)) 20 38 false).run Tryz.prog W=.ok (.int .i64 x) W:=fun _=>by kernel_rfl
 refine callsD_of_wpS Tryz.func68 rfl fun c₀ cs hu=>?_;apply wpS_seq;apply wpS_region;simp[wpOpsS,go_sem,recoverD,hu,Tryz.ntmps68,Exit.thenS];apply wpS_seq;apply wpS_region;simp[wpOpsS,go_sem,recoverD,Exit.thenS];refine wpS_cond (t:=true) (by simp[Act.eval,Array.replicate]) ?_;simp only[if_true];refine wpS_of_wp ?_;simp[Array.replicate];go_wp2;simp[bodyPostS,results,Tryz.results68];exact⟨World.cell?_setCell_same' _ _ _ (by rw[hq];rfl),(Below.refl B w).setCell (p:=⟨q,0,none⟩) hBq _⟩
theorem ZX (q:Addr) (w:World) :
 CallsD Tryz.prog 68 #[.pointer (some q)] .returning w fun e u' w'=>e=.returned (.tuple #[])∧u'=.returning∧w'=w:=by
 refine callsD_of_wpS Tryz.func68 rfl fun c₀ cs hu=>?_;apply wpS_seq;apply wpS_region;simp[wpOpsS,go_sem,recoverD,hu,Tryz.ntmps68,Exit.thenS];apply wpS_seq;apply wpS_region;simp[wpOpsS,go_sem,recoverD,hu,Exit.thenS];refine wpS_cond (t:=false) (by simp[Act.eval,Array.replicate]) ?_;simp only[Bool.false_eq_true,if_false];refine wpS_of_wp (wp_skip ?_)
 cases c₀
 simp_all [bodyPostS,results,Tryz.results68]
def XY (r:Int×Lad) (w:World) (e:Ending) (w':World):Prop:=∃v,e=.returned (.tuple #[v,.int .i64 r.1])∧zE w.heap.size w' v r.2∧Kept w w'
theorem JI {s:List UInt8} (h:(jc s).1≠0):(jc s).2=Lad.zero:=by
 unfold jc at h ⊢;split
 · rfl
 · rename_i h1;rw[if_neg h1] at h;split
   · rfl
   · rename_i h2;rw[if_neg h2] at h;split
     · rfl
     · rename_i h3;rw[if_neg h3] at h;split
       · rfl
       · rename_i h4;rw[if_neg h4] at h;exact absurd rfl h
theorem Yd (B:Nat) (w:World):zE B w (.agg #[.string ⟨#[]⟩,.slice none 0 0,.slice none 0 0,.int .i64 0,.int .i64 0]) Lad.zero :=
 ⟨none,0,0,none,0,0,rfl,⟨(by decide:(0:Nat)≤maxLen),Vec.Reads.nil w,Reads.nil w,(by unfold I64;decide),(by unfold I64;decide)⟩,(fun _ _ _ e=>by cases e),(fun _ _ _ e=>by cases e)⟩
theorem zE.less {B B':Nat} {w:World} {v:Value} {n:Lad} (h:zE B w v n) (hb:B'≤B):zE B' w v n:=by
 obtain⟨a1,m1,c1,a2,m2,c2,e,h0,g1,g2⟩:=h;exact⟨a1,m1,c1,a2,m2,c2,e,h0,fun b o s e=>Nat.le_trans hb (g1 b o s e),fun b o s e=>Nat.le_trans hb (g2 b o s e)⟩
theorem zE.far {B:Nat} {w w':World} {v:Value} {n:Lad} (h:zE B w v n) (hs:w'.heap.size=w.heap.size) (hb:∀b,B≤b→w'.heap[b]?=w.heap[b]?):zE B w' v n:=by
 obtain⟨a1,m1,c1,a2,m2,c2,e,h0,g1,g2⟩:=h;exact⟨a1,m1,c1,a2,m2,c2,e,⟨h0.size,h0.unit.far hs (fun b o s e=>hb b (g1 b o s e)),h0.rungs.far hs (fun b o s e=>hb b (g2 b o s e)),h0.lo,h0.hi⟩,g1,g2⟩
theorem jB.good {r:Int×Lad} {w w':World} {v:Value} (h:r.1=0) (ho:zE w.heap.size w' v r.2) (hb:Kept w w'):jB r w (.returned v) w':=⟨fun _=>⟨v,rfl,ho⟩,fun g=>absurd h g,hb⟩
def jaG (q:Nat) (x:ByteArray) (a1 a2:Option Addr) (m1 c1 m2 c2:Nat) (lo b:Int) (W W':World):Prop :=
 (W'.cell? ⟨q,0,none⟩=some (.string x)∧W'.cell? ⟨q,1,none⟩=some (.slice a1 m1 c1)∧W'.cell? ⟨q,2,none⟩=some (.slice a2 m2 c2)∧W'.cell? ⟨q,3,none⟩=some (.int .i64 lo)∧W'.cell? ⟨q,4,none⟩=some (.int .i64 b)) ∧
  W'.heap.size=W.heap.size∧(∀j,j≠q→W'.heap[j]?=W.heap[j]?)∧∀B w,B≤q→Below B w W→Below B w W'
theorem J5 {W:World} {q:Nat} {v0 v1 v2 v3 v4:Value} (y:W.cell? ⟨q,0,none⟩=some v0∧W.cell? ⟨q,1,none⟩=some v1∧W.cell? ⟨q,2,none⟩=some v2∧W.cell? ⟨q,3,none⟩=some v3∧W.cell? ⟨q,4,none⟩=some v4) (x:ByteArray) (a1 a2:Option Addr) (m1 c1 m2 c2:Nat) (lo b:Int) :
 jaG q x a1 a2 m1 c1 m2 c2 lo b W (((((W.setCell ⟨q,0,none⟩ (.string x)).setCell ⟨q,1,none⟩ (.slice a1 m1 c1)).setCell ⟨q,2,none⟩ (.slice a2 m2 c2)).setCell ⟨q,3,none⟩ (.int .i64 lo)).setCell ⟨q,4,none⟩ (.int .i64 b)) :=
 ⟨XJ y.1 y.2.1 y.2.2.1 y.2.2.2.1 y.2.2.2.2 _ rfl,qk _ _ _ _ _ _ _,fun j hj=>XF _ _ _ _ _ _ _ j hj,
  fun B w hB hk=>((((hk.setCell (p:=⟨q,0,none⟩) hB _).setCell (p:=⟨q,1,none⟩) hB _).setCell (p:=⟨q,2,none⟩) hB _).setCell (p:=⟨q,3,none⟩) hB _).setCell (p:=⟨q,4,none⟩) hB _⟩
theorem qP (C:Addr) (s:List UInt8) (w:World) (h1:w.cell? C=some (.string (bytes s))) (hE:Vec.jX w) (hs:s.length≤900000) :
 Calls Tryz.prog 49 #[.pointer (some C)] w (jB (jc s) w):=by
 obtain⟨Z,hZ⟩:=eX (w.alloc (.cells #[.string ⟨#[]⟩,.slice none 0 0,.slice none 0 0,.int .i64 0,.int .i64 0] 26))
 have hk:Kept w Z:=by rw[←hZ];exact ja _ _
 have hzs:Z.heap.size=w.heap.size+1:=by rw[←hZ,World.size_alloc]
 have hc:=cell_later hk h1;obtain⟨HP,HK,HZ⟩:=lH3 (Yj s Z (hE.kept hk) hs) hk (fun W (kk:Kept Z W)=>Yi w (.string ⟨#[]⟩) (.slice none 0 0) (.slice none 0 0) (.int .i64 0) (.int .i64 0) 26 W (by rw[hZ];exact kk));clear hE h1 hk hs;go_enter Tryz.func49,Tryz.ntmps49;go_wp2_with fail
 try rw[hZ]
 refine HP.out.mono ?_;rintro e w2 ⟨g0,g1,k⟩;have KK:=lH k;obtain⟨⟨y0,y1,y2,y3,y4⟩,x0,x1,x2,x3,x4⟩:=HZ.out _ k;have Y:=lH (And.intro y0 (And.intro y1 (And.intro y2 (And.intro y3 y4))));by_cases hx:(jc s).1=0
 · obtain⟨v,rfl,hn⟩:=g0 hx;have HX:=lH hx;have HN:=lH hn;obtain⟨a1,m1,c1,a2,m2,c2,rfl,-⟩:=hn;have P:=lH (J5 Y.out (jc s).2.what a1 a2 m1 c1 m2 c2 (jc s).2.lo (jc s).2.hi);clear g0 g1 k hx Y hZ;obtain⟨x,hxx⟩:=eX ((jc s).2.what)
   obtain⟨lo,hlo⟩:=eX ((jc s).2.lo)
   obtain⟨cd,hcd⟩:=eX ((jc s).2.hi)
   rw[hxx,hlo,hcd] at P HN;rw[hxx,hlo,hcd];clear hxx hlo hcd;go_wp2;obtain⟨WE,hWE⟩:=eX ((((((w2.setCell ⟨w.heap.size,0,none⟩ (.string x)).setCell ⟨w.heap.size,1,none⟩ (.slice a1 m1 c1)).setCell ⟨w.heap.size,2,none⟩ (.slice a2 m2 c2)).setCell ⟨w.heap.size,3,none⟩ (.int .i64 lo)).setCell ⟨w.heap.size,4,none⟩ (.int .i64 cd)))
   rw[hWE] at P ⊢;clear hWE y0 y1 y2 y3 y4 x0 x1 x2 x3 x4;obtain⟨⟨d0,d1,d2,d3,d4⟩,hsz,hbl,hkp⟩:=P.out;refine bodyPost_ret (by simp[results,Tryz.results49,go_sem,d0,d1,d2,d3,d4];try rfl) rfl ?_;exact jB.good HX.out ((HN.out.far hsz (fun b hb=>hbl b (by omega))).less (by omega)) (hkp _ _ (Nat.le_refl _) (HK.out.trans KK.out))
 · obtain rfl:=g1 hx;have HX:=lH hx;clear g0 g1 k hx Y hZ;go_wp2;exact⟨rfl,jB.bad rfl HX.out (HK.out.trans KK.out)⟩
theorem Yf (C:Addr) (r:Int×Lad) (w:World) (hr:r.1≠0→r.2=Lad.zero)
 (hk:∀W,Kept w W→Calls Tryz.prog 49 #[.pointer (some C)] W (jB r W)) :
 Calls Tryz.prog 48 #[.func (.func 49) #[] #[.pointer (some C)]] w (XY r w):=by
 have hmf:=hmfL (P:=Tryz.prog);have HR:=lH hr;obtain⟨Z,hZ⟩:=eX ((w.alloc (.cells #[.string ⟨#[]⟩,.slice none 0 0,.slice none 0 0,.int .i64 0,.int .i64 0] 26)).alloc (.cells #[.int .i64 0] 38))
 have hkz:Kept w Z:=by rw[←hZ];exact jE _ _ _
 have hzs:Z.heap.size=w.heap.size+2:=by rw[←hZ];simp
 have HK:=lH hkz;have HZ:=lH (fun W (kk:Kept Z W)=>Yi w (.string ⟨#[]⟩) (.slice none 0 0) (.slice none 0 0) (.int .i64 0) (.int .i64 0) 26 W (by rw[←hZ] at kk;exact(ja _ _).trans kk));have TI:=lH (show ∀W,Kept Z W→W.cell? ⟨w.heap.size+1,0,none⟩=some (.int .i64 0)∧W.frozen? ⟨w.heap.size+1,0,none⟩=false from fun W kk=>by
  have hb:=zR (w.alloc (.cells #[.string ⟨#[]⟩,.slice none 0 0,.slice none 0 0,.int .i64 0,.int .i64 0] 26)) (.int .i64 0) 38;rw[hZ,World.size_alloc] at hb;exact⟨cell_later kk hb.1,(kk.frozen (p:=⟨w.heap.size+1,0,none⟩) (by rw[hzs];exact Nat.lt_succ_self _)).trans hb.2⟩)
 have TJ:=lH (hk Z hkz);clear hk hr hkz;obtain⟨r1,r2⟩:=r;go_enter_defers Tryz.func48,Tryz.ntmps48
 go_wp2_with fail
 try rw[hZ]
 refine TJ.out.mono ?_;rintro e1 w1 ⟨h0,h1,hb⟩;have KK:=lH hb;obtain⟨⟨y0,y1,y2,y3,y4⟩,x0,x1,x2,x3,x4⟩:=HZ.out _ hb;obtain⟨z0,z1⟩:=TI.out _ hb;have Y:=lH (And.intro y0 (And.intro y1 (And.intro y2 (And.intro y3 y4))));have hws:w.heap.size+1<w1.heap.size:=by have:=hb.size;omega
 by_cases hx:r1=0
 · subst hx;obtain⟨v,rfl,hn⟩:=h0 rfl;have HN:=lH hn;obtain⟨a1,m1,c1,a2,m2,c2,rfl,-⟩:=hn;have P:=lH (J5 Y.out r2.what a1 a2 m1 c1 m2 c2 r2.lo r2.hi);clear h0 h1 hb Y hZ;obtain⟨x,hxx⟩:=eX (r2.what)
   obtain⟨lo,hlo⟩:=eX (r2.lo)
   obtain⟨cd,hcd⟩:=eX (r2.hi)
   dsimp only at P HN ⊢;rw[hxx,hlo,hcd] at P HN;rw[hxx,hlo,hcd];clear hxx hlo hcd;go_wp2_with fail
   obtain⟨WE,hWE⟩:=eX ((((((w1.setCell ⟨w.heap.size,0,none⟩ (.string x)).setCell ⟨w.heap.size,1,none⟩ (.slice a1 m1 c1)).setCell ⟨w.heap.size,2,none⟩ (.slice a2 m2 c2)).setCell ⟨w.heap.size,3,none⟩ (.int .i64 lo)).setCell ⟨w.heap.size,4,none⟩ (.int .i64 cd)))
   rw[hWE] at P ⊢;obtain⟨⟨d0,d1,d2,d3,d4⟩,hsz,hbl,hkp⟩:=P.out;have ez:WE.cell? ⟨w.heap.size+1,0,none⟩=some (.int .i64 0):=(World.cell?_of_block (a:=⟨w.heap.size+1,0,none⟩) (hbl (w.heap.size+1) (by omega))).trans z0;have hb2:∀b,b≠w.heap.size+1→(WE.setCell ⟨w.heap.size+1,0,none⟩ (.int .i64 0)).heap[b]?=WE.heap[b]?:=fun b hb=>Below.heap_setCell WE ⟨w.heap.size+1,0,none⟩ _ b hb;have fe:=World.cell?_setCell_same' WE ⟨w.heap.size+1,0,none⟩ (.int .i64 0) (by rw[ez];rfl);have ff:∀j v,WE.cell? ⟨w.heap.size,j,none⟩=some v→(WE.setCell ⟨w.heap.size+1,0,none⟩ (.int .i64 0)).cell? ⟨w.heap.size,j,none⟩=some v:=fun j v h=>(World.cell?_of_block (a:=⟨w.heap.size,j,none⟩) (hb2 w.heap.size (by omega))).trans h;have f0:=ff 0 _ d0;have f1:=ff 1 _ d1;have f2:=ff 2 _ d2;have f3:=ff 3 _ d3;have f4:=ff 4 _ d4;have KF:=lH (show Kept w (WE.setCell ⟨w.heap.size+1,0,none⟩ (.int .i64 0)) from(hkp _ _ (Nat.le_refl _) (HK.out.trans KK.out)).setCell (p:=⟨w.heap.size+1,0,none⟩) (Nat.le_succ _) _);have NF:=lH ((HN.out.far (w':=WE.setCell ⟨w.heap.size+1,0,none⟩ (.int .i64 0)) (by simp[World.setCell,hsz]) (fun b hb=>(hb2 b (by omega)).trans (hbl b (by omega)))).less (B':=w.heap.size) (by omega));obtain⟨WF,hWF⟩:=eX (WE.setCell ⟨w.heap.size+1,0,none⟩ (.int .i64 0))
   rw[hWF] at fe f0 f1 f2 f3 f4 KF NF ⊢;clear hWE hWF ff hb2 ez P hbl hkp d0 d1 d2 d3 d4 y0 y1 y2 y3 y4 x0 x1 x2 x3 x4 z0 z1;refine leaves_cons (f:=68) (args:=#[.pointer (some ⟨w.heap.size+1,0,none⟩)]) (by simp) (by simp[go_sem]) ?_;refine(ZX ⟨w.heap.size+1,0,none⟩ _).mono ?_;rintro e u' w'' ⟨rfl,rfl,rfl⟩;simp[Leaves,settle,results,Tryz.results48,go_sem,fe,f0,f1,f2,f3,f4];exact⟨_,rfl,NF.out,KF.out⟩
 · obtain rfl:=h1 hx;obtain rfl:=HR.out hx;have KW:=lH (HK.out.trans KK.out);clear h0 h1 hb hZ Y;go_wp2_with fail
   refine leaves_cons (f:=68) (args:=#[.pointer (some ⟨w.heap.size+1,0,none⟩)]) (by simp) (by simp[go_sem]) ?_;refine(JC w.heap.size (w.heap.size+1) r1 0 _ z0 z1 (by omega)).mono ?_;rintro e u' w'' ⟨rfl,rfl,rfl,q2,q3⟩;have hb2:(w1.setCell ⟨w.heap.size+1,0,none⟩ (.int .i64 r1)).heap[w.heap.size]?=w1.heap[w.heap.size]?:=Below.heap_setCell w1 ⟨w.heap.size+1,0,none⟩ _ w.heap.size (by simp);have ff:∀j v,w1.cell? ⟨w.heap.size,j,none⟩=some v→(w1.setCell ⟨w.heap.size+1,0,none⟩ (.int .i64 r1)).cell? ⟨w.heap.size,j,none⟩=some v:=fun j v h=>(World.cell?_of_block (a:=⟨w.heap.size,j,none⟩) hb2).trans h;have f0:=ff 0 _ y0;have f1:=ff 1 _ y1;have f2:=ff 2 _ y2;have f3:=ff 3 _ y3;have f4:=ff 4 _ y4;have KF:=lH (show Kept w _ from Below.trans KW.out q3);obtain⟨WF,hWF⟩:=eX (w1.setCell ⟨w.heap.size+1,0,none⟩ (.int .i64 r1))
   rw[hWF] at q2 f0 f1 f2 f3 f4 KF ⊢;clear hWF ff hb2 q3 y0 y1 y2 y3 y4 x0 x1 x2 x3 x4 z0 z1;simp[Leaves,settle,results,Tryz.results48,go_sem,q2,f0,f1,f2,f3,f4];exact⟨_,rfl,Yd _ _,KF.out⟩
theorem JH (s:List UInt8) (w:World) (hE:Vec.jX w) (hs:s.length≤900000) :
 Calls Tryz.prog 24 #[.string (bytes s)] w (XY (jc s) w):=by
 have hmf:=hmfL (P:=Tryz.prog);obtain⟨Z,hZ⟩:=eX ((w.alloc (.cells #[.string (bytes s)] 9)).alloc (.cells #[.string ⟨#[]⟩,.slice none 0 0,.slice none 0 0,.int .i64 0,.int .i64 0] 26))
 have hkz:Kept w Z:=by rw[←hZ];exact jE _ _ _
 have hzs:Z.heap.size=w.heap.size+2:=by rw[←hZ];simp
 have hzc:Z.cell? ⟨w.heap.size,0,none⟩=some (.string (bytes s)):=by
  rw[←hZ];exact cell_later (ja _ _) (by have hh:=w.alloc_heap_new (.cells #[.string (bytes s)] 9);rw[Lib.cell_of_heap hh];rfl)
 have HK:=lH hkz;have HZ:=lH (fun W (kk:Kept Z W)=>Yi (w.alloc (.cells #[.string (bytes s)] 9)) (.string ⟨#[]⟩) (.slice none 0 0) (.slice none 0 0) (.int .i64 0) (.int .i64 0) 26 W (by rw[hZ];exact kk));rw[World.size_alloc] at HZ;have HC:=lH (Yf ⟨w.heap.size,0,none⟩ (jc s) Z JI (fun W k=>qP ⟨w.heap.size,0,none⟩ s W (cell_later k hzc) (hE.kept (hkz.trans k)) hs));clear hE hs hzc;go_enter Tryz.func24,Tryz.ntmps24;go_wp2_with fail
 try rw[hZ]
 refine HC.out.mono ?_;rintro e w1 ⟨v,rfl,hn,k⟩;have KK:=lH k;have HN:=lH hn;obtain⟨⟨y0,y1,y2,y3,y4⟩,x0,x1,x2,x3,x4⟩:=HZ.out _ k;have Y:=lH (And.intro y0 (And.intro y1 (And.intro y2 (And.intro y3 y4))));obtain⟨a1,m1,c1,a2,m2,c2,rfl,-⟩:=hn;have P:=lH (J5 Y.out (jc s).2.what a1 a2 m1 c1 m2 c2 (jc s).2.lo (jc s).2.hi);obtain⟨x,hxx⟩:=eX ((jc s).2.what)
 obtain⟨lo,hlo⟩:=eX ((jc s).2.lo)
 obtain⟨cd,hcd⟩:=eX ((jc s).2.hi)
 obtain⟨r1,hr1⟩:=eX ((jc s).1)
 obtain⟨r2,hr2⟩:=eX ((jc s).2)
 rw[hxx,hlo,hcd] at P HN;rw[hxx,hlo,hcd,hr1];rw[hr2] at HN;have HR:=lH (show jc s=(r1,r2) by rw[←hr1,←hr2]);clear hxx hlo hcd hr1 hr2 k Y hZ;go_wp2;obtain⟨WE,hWE⟩:=eX ((((((w1.setCell ⟨w.heap.size+1,0,none⟩ (.string x)).setCell ⟨w.heap.size+1,1,none⟩ (.slice a1 m1 c1)).setCell ⟨w.heap.size+1,2,none⟩ (.slice a2 m2 c2)).setCell ⟨w.heap.size+1,3,none⟩ (.int .i64 lo)).setCell ⟨w.heap.size+1,4,none⟩ (.int .i64 cd)))
 rw[hWE] at P ⊢;clear hWE y0 y1 y2 y3 y4 x0 x1 x2 x3 x4;obtain⟨⟨d0,d1,d2,d3,d4⟩,hsz,hbl,hkp⟩:=P.out;refine bodyPost_ret (by simp[results,Tryz.results24,go_sem,d0,d1,d2,d3,d4];try rfl) rfl ?_;rw[HR.out];exact⟨_,rfl,(HN.out.far hsz (fun b hb=>hbl b (by omega))).less (by omega),hkp _ _ (Nat.le_succ _) (HK.out.trans KK.out)⟩
def Jr (lo hi:Int):List UInt8:=Lib.itoa lo++([47]++Lib.itoa hi)
def zH (r:Int×Int×Int):List UInt8:=Lib.itoa r.1++([58]++(Lib.itoa r.2.1++([58]++Lib.itoa r.2.2)))
def zl (n:Lad):List (List UInt8):=n.what.data.toList::Vec.j2 n.unit::Jr n.lo n.hi::n.rungs.map zH
def qN (n:Lad):List UInt8:=Lib.join (zl n) [32]
theorem jaU:Kind 87 9 1 16:=by
 obtain⟨i,hi,hz,h1,h2⟩:=info_parts (show (Tryz.prog.info? 9).map (fun i=>(i.zero,i.size,i.bytes))=some (some (.string ByteArray.empty),1,16) by kernel_rfl);exact⟨i,_,Tryz.underlying87,hi,hz,h1,h2,rfl,by decide⟩
theorem qE (w:World) (B:Nat) (a b c:Value) (e:TypeId) (hB:B≤w.heap.size) (ha:a.oneCell'=true) (hb:b.oneCell'=true) (hc:c.oneCell'=true):(w.alloc (.cells #[a,b,c] e)).ownsRow B e 1 (.slice (some ⟨w.heap.size,0,none⟩) 3 3) 3 [a,b,c] :=
 ⟨by simp[ha,hb,hc],.inr ⟨w.heap.size,3,#[a,b,c],rfl,hB,World.alloc_heap_new w _,by omega,by decide,by simp,by simp⟩⟩
theorem Jq (n:Int) (w:World) (hE:Vec.jX w) (h0:-9223372036854775808≤n) (h1:n≤9223372036854775807) :
 Calls Tryz.prog 66 #[.int .i64 n] w fun e w'=>e=.returned (.string (bytes (Lib.itoa n)))∧Kept w w':=by
 refine(Tryz.strconv_Itoa n h0 h1 w hE.tab).mono ?_;rintro e w' ⟨rfl,k,os,rfl⟩;exact⟨rfl,Lib.below_grow _ _ (Nat.le_refl _) _ _⟩
theorem zk (a b:List UInt8):bytes a++bytes b=bytes (a++b):=by apply Go.WideShapes.bytes_inj;simp[bytes,ByteArray.data_append]
theorem ZN:∀(ts:List (List UInt8)) (B:Nat),(∀x ∈ ts,x.length≤B)→(Lib.join ts [32]).length≤ts.length*(B+1)
 | [],B,_=>by simp[Lib.join]
 | [x],B,h=>by
  have:=h x (by simp);rw[Lib.join_one];simp;omega
 | x::y::t,B,h=>by
  have h1:=h x (by simp);have ih:=ZN (y::t) B (fun z hz=>h z (by simp[hz]));have s:(Lib.join (x::y::t) [32])=x++[32]++Lib.join (y::t) [32]:=by simp[Lib.join,List.intercalate]
  rw[s,List.length_append,List.length_append];simp only[List.length_cons,List.length_nil] at ih ⊢;rw[Nat.add_mul (t.length+1) 1 (B+1),Nat.one_mul];omega
theorem Y8 (a b:Int) (w:World) (hE:Vec.jX w) (ha:I64 a) (hb:I64 b) :
 Calls Tryz.prog 43 #[.int .i64 a,.int .i64 b] w fun e w'=>e=.returned (.string (bytes (Jr a b)))∧Kept w w':=by
 have H1:=lH (fun W (k:Kept w W)=>Jq a W (hE.kept k) ha.1 ha.2);have H2:=lH (fun W (k:Kept w W)=>Jq b W (hE.kept k) hb.1 hb.2);have hz1:=Lib.itoa_length_le a ha.1 ha.2;have hz2:=Lib.itoa_length_le b hb.1 hb.2;have HV:=lH (show bytes (Lib.itoa a)++⟨#[47]⟩++bytes (Lib.itoa b)=bytes (Jr a b) by
  rw[show (⟨#[47]⟩:ByteArray)=bytes [47] from rfl,zk,zk];unfold Jr;rw[List.append_assoc])
 obtain⟨t1,ht1⟩:=eX (bytes (Lib.itoa a))
 obtain⟨t2,ht2⟩:=eX (bytes (Lib.itoa b))
 have hs1:t1.size≤100:=by rw[←ht1,jh];omega
 have hs2:t2.size≤100:=by rw[←ht2,jh];omega
 rw[ht1,ht2] at HV;rw[ht1] at H1;rw[ht2] at H2;clear ht1 ht2 hz1 hz2 hE;go_enter Tryz.func43,Tryz.ntmps43;go_wp2_with fail
 refine(H1.out _ (Kept.refl _)).mono ?_;rintro e w1 ⟨rfl,k1⟩;have K:=lH k1;clear k1;go_wp2_with fail
 refine(H2.out _ K.out).mono ?_;rintro e w2 ⟨rfl,k2⟩;have K:=lH (K.out.trans k2);clear k2;go_wp2;go_ret;exact⟨ZA HV.out,K.out⟩
theorem jaH {w:World} {B g n cap:Nat} {e:TypeId} {xs:List ByteArray} (h:w.ownsRow B e 1 (.slice (some ⟨g,0,none⟩) n cap) n (xs.map Value.string)):n≤cap∧g<w.heap.size∧∀(j:Nat) x,xs[j]?=some x→w.cell? ⟨g,0+j,none⟩=some (.string x):=by
 refine⟨?_,(h.lt g rfl).2,qj h⟩;rcases h.2 with ⟨h0,_⟩ | ⟨g2,cap2,cur,h0,hb,hg,hr,_⟩
 · cases h0
 · cases h0;exact hr
theorem Xu {α:Type} {l:List α} {k:Nat} {x:α} (h:l[k]?=some x):l.take (k+1)=l.take k++[x]:=by rw[List.take_add_one,h];rfl
theorem qb {g n cap:Nat} {w:World} {xs:List ByteArray} (hc:∀(j:Nat) x,xs[j]?=some x→w.cell? ⟨g,0+j,none⟩=some (.string x)) (hg:g<w.heap.size) (hn:xs.length=n) (hcap:n≤cap) (hm:n≤1000000) (hl:(Lib.join (xs.map (·.data.toList)) [32]).length≤10000000) :
 Calls Tryz.prog 45 #[.slice (some ⟨g,0,none⟩) n cap] w fun e w'=>e=.returned (.string (bytes (Lib.join (xs.map (·.data.toList)) [32])))∧Kept w w':=by
 have hn2:xs.length≤140737488355328:=by omega
 have H:=lH (Tryz.strings_Join g 0 cap xs ⟨#[32]⟩ w hc hg hn2 (by omega) (Nat.le_trans hl (by decide)));rw[hn] at H;clear hc hl hn2;go_enter Tryz.func45,Tryz.ntmps45;go_wp2_with fail
 refine H.out.mono ?_;rintro e w1 ⟨rfl,k⟩;have K:=lH (show Kept w w1 from k);clear k;go_wp2;go_ret;exact⟨rfl,K.out⟩
theorem jaN {n:Lad} {tu tl:ByteArray} {ws:List ByteArray} (h:n.what::tu::tl::n.rungs.map (fun r=>bytes (zH r))=ws) (h1:bytes (Vec.j2 n.unit)=tu) (h2:bytes (Jr n.lo n.hi)=tl):ws.map (·.data.toList)=zl n:=by
 subst h;subst h1;subst h2;unfold zl;simp[bytes]
theorem jaR {a b:Int} (ha:I64 a) (hb:I64 b):(Jr a b).length≤100:=by
 have h1:=Lib.itoa_length_le a ha.1 ha.2;have h2:=Lib.itoa_length_le b hb.1 hb.2;unfold Jr;simp only[List.length_append,List.length_cons,List.length_nil];omega
theorem jab {r:Int×Int×Int} (hu:I64 r.1) (hc:I64 r.2.1) (hp:I64 r.2.2):(zH r).length≤100:=by
 have h1:=Lib.itoa_length_le r.1 hu.1 hu.2;have h2:=Lib.itoa_length_le r.2.1 hc.1 hc.2;have h3:=Lib.itoa_length_le r.2.2 hp.1 hp.2;unfold zH;simp only[List.length_append,List.length_cons,List.length_nil];omega
theorem qq {n:Lad} (h0:n.what.size≤1000) (h1:(Vec.j2 n.unit).length≤2000) (h2:(Jr n.lo n.hi).length≤100) (h3:∀x ∈ n.rungs,jR.fine x):∀p ∈ zl n,p.length≤2000:=by
 intro p hp;unfold zl at hp;simp only[List.mem_cons,List.mem_map] at hp;rcases hp with rfl | rfl | rfl | ⟨r,hr,rfl⟩
 · rw[Array.length_toList,ByteArray.size_data];omega
 · exact h1
 · omega
 · have h:=h3 r hr;have:=jab h.1 h.2.1 h.2.2;omega
theorem Yu (u c p:Int) (w:World) (hE:Vec.jX w) (hu:I64 u) (hc:I64 c) (hp:I64 p) :
 Calls Tryz.prog 44 #[.agg #[.int .i64 u,.int .i64 c,.int .i64 p]] w fun e w'=>e=.returned (.string (bytes (zH (u,c,p))))∧Kept w w':=by
 obtain⟨W0,hW0⟩:=eX (w.alloc (.cells #[.int .i64 u,.int .i64 c,.int .i64 p] 46))
 have hk0:Kept w W0:=by rw[←hW0];exact ja _ _
 obtain⟨HC,H1,H2,H3⟩:=lH4 (show ∀W,Kept W0 W→W.cell? ⟨w.heap.size,0,none⟩=some (.int .i64 u)∧W.cell? ⟨w.heap.size,1,none⟩=some (.int .i64 c)∧W.cell? ⟨w.heap.size,2,none⟩=some (.int .i64 p) from fun W k=>(ju w (.int .i64 u) [.int .i64 c,.int .i64 p] 46 W (by rw[hW0];exact k)).at3) (fun W (k:Kept W0 W)=>Vec.zO u W (hE.kept (hk0.trans k)) hu.1 hu.2) (fun W (k:Kept W0 W)=>Jq c W (hE.kept (hk0.trans k)) hc.1 hc.2) (fun W (k:Kept W0 W)=>Vec.zO p W (hE.kept (hk0.trans k)) hp.1 hp.2);have hz1:=Lib.itoa_length_le u hu.1 hu.2;have hz2:=Lib.itoa_length_le c hc.1 hc.2;have hz3:=Lib.itoa_length_le p hp.1 hp.2;have HV:=lH (show bytes (Lib.itoa u)++⟨#[58]⟩++bytes (Lib.itoa c)++⟨#[58]⟩++bytes (Lib.itoa p)=bytes (zH (u,c,p)) by
  rw[show (⟨#[58]⟩:ByteArray)=bytes [58] from rfl,zk,zk,zk,zk];unfold zH;simp only[List.append_assoc])
 obtain⟨t1,ht1⟩:=eX (bytes (Lib.itoa u))
 have hs1:t1.size≤100:=by rw[←ht1,jh];omega
 rw[ht1] at H1;obtain⟨t2,ht2⟩:=eX (bytes (Lib.itoa c))
 have hs2:t2.size≤100:=by rw[←ht2,jh];omega
 rw[ht2] at H2;obtain⟨t3,ht3⟩:=eX (bytes (Lib.itoa p))
 have hs3:t3.size≤100:=by rw[←ht3,jh];omega
 rw[ht3] at H3;rw[ht1,ht2,ht3] at HV;have hone:(⟨#[58]⟩:ByteArray).size=1:=rfl;have ad1:∀W,(Op.stringOp .add t1 (⟨#[58]⟩:ByteArray)).run Tryz.prog W=.ok (.string (t1++(⟨#[58]⟩:ByteArray))) W:=fun W=>run_string_add_sum W _ _ (by omega);have ad2:∀W,(Op.stringOp .add (t1++(⟨#[58]⟩:ByteArray)) t2).run Tryz.prog W=.ok (.string (t1++(⟨#[58]⟩:ByteArray)++t2)) W:=fun W=>run_string_add_sum W _ _ (by simp only[ByteArray.size_append];omega);have ad3:∀W,(Op.stringOp .add (t1++(⟨#[58]⟩:ByteArray)++t2) (⟨#[58]⟩:ByteArray)).run Tryz.prog W=.ok (.string (t1++(⟨#[58]⟩:ByteArray)++t2++(⟨#[58]⟩:ByteArray))) W:=fun W=>run_string_add_sum W _ _ (by simp only[ByteArray.size_append];omega);have ad4:∀W,(Op.stringOp .add (t1++(⟨#[58]⟩:ByteArray)++t2++(⟨#[58]⟩:ByteArray)) t3).run Tryz.prog W=.ok (.string (t1++(⟨#[58]⟩:ByteArray)++t2++(⟨#[58]⟩:ByteArray)++t3)) W:=fun W=>run_string_add_sum W _ _ (by simp only[ByteArray.size_append];omega);have V7:=lH hk0;clear ht1 ht2 ht3 hz1 hz2 hz3 hE hk0;go_enter Tryz.func44,Tryz.ntmps44;go_upto_region 1 with fail
 try rw[hW0]
 clear hW0;have J:=lH (Kept.drew W0);refine wp_region_held_drew (S:=fun W=>W.cell? ⟨w.heap.size,0,none⟩=some (.int .i64 u)∧W.cell? ⟨w.heap.size,1,none⟩=some (.int .i64 c)∧W.cell? ⟨w.heap.size,2,none⟩=some (.int .i64 p)) (by kernel_rfl) (HC.out _ J.out) (fun hHeld=>?_);obtain⟨wd,hwd⟩:=eX (W0.drew)
 rw[hwd] at J hHeld;try rw[hwd]
 clear hwd;refine tR 0 rfl (by kernel_rfl) (fun _ _ _=>id) (Or.inl ⟨by rfl,by rintro W ⟨o0,o1,o2⟩;go_simp<;>with_reducible rfl⟩) ‹_› ?_;try simp only[nA,nB,nC,nD,nE]
 refine tR 1 rfl (by kernel_rfl) (fun _ _ _=>id) (Or.inl ⟨by rfl,by rintro W ⟨o0,o1,o2⟩;go_simp<;>with_reducible rfl⟩) ‹_› ?_;try simp only[nA,nB,nC,nD,nE]
 refine tR 4 rfl (by kernel_rfl) (fun _ _ _=>id) (Or.inl ⟨by rfl,by rintro W ⟨o0,o1,o2⟩;go_simp<;>with_reducible rfl⟩) ‹_› ?_;try simp only[nA,nB,nC,nD,nE]
 refine tR 5 rfl (by kernel_rfl) (fun _ _ _=>id) (Or.inl ⟨by rfl,by rintro W ⟨o0,o1,o2⟩;go_simp<;>with_reducible rfl⟩) ‹_› ?_;try simp only[nA,nB,nC,nD,nE]
 refine tR 9 rfl (by kernel_rfl) (fun _ _ _=>id) (Or.inl ⟨by rfl,by rintro W ⟨o0,o1,o2⟩;go_simp<;>with_reducible rfl⟩) ‹_› ?_;try simp only[nA,nB,nC,nD,nE]
 refine tR 10 rfl (by kernel_rfl) (fun _ _ _=>id) (Or.inl ⟨by rfl,by rintro W ⟨o0,o1,o2⟩;go_simp<;>with_reducible rfl⟩) ‹_› ?_;try simp only[nA,nB,nC,nD,nE]
 refine rd1 2 fun K9 Ky=>?_;go_simp;refine(H1.out _ J.out).mono ?_;rintro e w1 ⟨rfl,kk⟩;have J:=lH (J.out.trans kk);clear kk;refine Ky.out _ _ (HC.out _ J.out) (fun _=>?_);clear Ky K9;try simp only[nA,nB,nC,nD,nE]
 refine tR 3 rfl (by kernel_rfl) (fun _ _ _=>id) (Or.inl ⟨by rfl,by rintro W ⟨o0,o1,o2⟩;go_simp<;>with_reducible rfl⟩) ‹_› ?_;try simp only[nA,nB,nC,nD,nE]
 refine rd1 6 fun K9 Ky=>?_;go_simp;refine(H2.out _ J.out).mono ?_;rintro e w2 ⟨rfl,kk⟩;have J:=lH (J.out.trans kk);clear kk;refine Ky.out _ _ (HC.out _ J.out) (fun _=>?_);clear Ky K9;try simp only[nA,nB,nC,nD,nE]
 refine tR 7 rfl (by kernel_rfl) (fun _ _ _=>id) (Or.inl ⟨by rfl,by rintro W ⟨o0,o1,o2⟩;go_simp<;>with_reducible rfl⟩) ‹_› ?_;try simp only[nA,nB,nC,nD,nE]
 refine tR 8 rfl (by kernel_rfl) (fun _ _ _=>id) (Or.inl ⟨by rfl,by rintro W ⟨o0,o1,o2⟩;go_simp<;>with_reducible rfl⟩) ‹_› ?_;try simp only[nA,nB,nC,nD,nE]
 refine rd1 11 fun K9 Ky=>?_;go_simp;refine(H3.out _ J.out).mono ?_;rintro e w3 ⟨rfl,kk⟩;have J:=lH (J.out.trans kk);clear kk;refine Ky.out _ _ (HC.out _ J.out) (fun _=>?_);clear Ky K9;try simp only[nA,nB,nC,nD,nE]
 refine tR 12 rfl (by kernel_rfl) (fun _ _ _=>id) (Or.inl ⟨by rfl,by rintro W ⟨o0,o1,o2⟩;go_simp<;>with_reducible rfl⟩) ‹_› ?_;try simp only[nA,nB,nC,nD,nE]
 refine tR 13 rfl (by kernel_rfl) (fun _ _ _=>id) (Or.inl ⟨by rfl,by rintro W ⟨o0,o1,o2⟩;go_simp<;>with_reducible rfl⟩) ‹_› ?_;try simp only[nA,nB,nC,nD,nE]
 refine wpAnyH_done (by kernel_rfl) ?_ _;go_wp2;go_ret;exact⟨ZA HV.out,V7.out.trans J.out⟩
theorem XL (n:Lad) (v1:Value) (a2:Option Addr) (l2 c2:Nat) (w:World) (hE:Vec.jX w) (h:jZ w v1 (.slice a2 l2 c2) n) (hw:n.what.size≤1000) (hf:Vec.zh n.unit=true) (hn:n.rungs.length≤1000) :
 Calls Tryz.prog 22 #[.agg #[.string n.what,v1,.slice a2 l2 c2,.int .i64 n.lo,.int .i64 n.hi]] w (Say (.string (bytes (qN n))) w):=by
 obtain⟨W0,hW0⟩:=eX (w.alloc (.cells #[.string n.what,v1,.slice a2 l2 c2,.int .i64 n.lo,.int .i64 n.hi] 26))
 have hk0:Kept w W0:=by rw[←hW0];exact ja _ _
 have HL:=lH (ju w (.string n.what) [v1,.slice a2 l2 c2,.int .i64 n.lo,.int .i64 n.hi] 26 W0 (by rw[hW0];exact Kept.refl _));obtain⟨lb,hlb⟩:=eX (w.heap.size)
 rw[hlb] at HL;obtain⟨H1,H2,HE,HK,V7⟩:=lH5 (fun W (k:Kept W0 W)=>Vec.Z4 (hE.kept (hk0.trans k)) (h.unit.kept (hk0.trans k)) hf rfl) (fun W (k:Kept W0 W)=>Y8 n.lo n.hi W (hE.kept (hk0.trans k)) h.lo h.hi) hE hk0 hk0;obtain⟨a9,c9,e9,q1,q2,hrow⟩:=h.rungs;obtain⟨rfl,rfl,rfl⟩:a2=a9∧l2=n.rungs.length∧c2=c9:=by cases e9;exact⟨rfl,rfl,rfl⟩
 obtain⟨HR,Vo,TK,TL,TM⟩:=lH5 hrow h.size hw (qG hf (by obtain⟨_,_,-,-,-,q⟩:=h.unit;exact q.2.2.1)) (jaR h.lo h.hi);clear h e9 q1 q2 hrow hf hk0 hE;obtain⟨len,hlen⟩:=eX (n.rungs.length)
 have Vt:=lH hlen;rw[hlen] at HL HR hn hW0 ⊢;clear hlen;obtain⟨tu,htu⟩:=eX (bytes (Vec.j2 n.unit))
 obtain⟨tl,htl⟩:=eX (bytes (Jr n.lo n.hi))
 rw[htu] at H1;rw[htl] at H2;have TN:=lH htu;have UN:=lH htl;clear htu htl;have HS:=lH (show ∀W,Kept W0 W→W.cell? ⟨lb,0,none⟩=some (.string n.what)∧W.cell? ⟨lb,1,none⟩=some (v1)∧W.cell? ⟨lb,2,none⟩=some (.slice a2 len c2)∧W.cell? ⟨lb,3,none⟩=some (.int .i64 n.lo)∧W.cell? ⟨lb,4,none⟩=some (.int .i64 n.hi) from fun W k=>(HL.out.kept k).at5);go_enter Tryz.func22,Tryz.ntmps22;go_upto_region 1 with fail
 try rw[hW0]
 try rw[hlb]
 clear hW0
 go_region_held3 (fun W=>W.cell? ⟨lb,0,none⟩=some (.string n.what)∧W.cell? ⟨lb,1,none⟩=some (v1)∧W.cell? ⟨lb,2,none⟩=some (.slice a2 len c2)∧W.cell? ⟨lb,3,none⟩=some (.int .i64 n.lo)∧W.cell? ⟨lb,4,none⟩=some (.int .i64 n.hi))
  (first | exact HS.out _ (Kept.drew _) | exact HS.out _ K1.out | exact HS.out _ K2.out | exact HS.out _ (K2.out.trans (ja _ _)))
  (first | (go_at_call 31;refine(H1.out _ (Kept.drew _)).mono ?_;rintro e1 w1 ⟨rfl,k1⟩;have K1:=lH ((Kept.drew _).trans k1);clear k1)
         | (go_at_call 43;refine(H2.out _ K1.out).mono ?_;rintro e2 w2 ⟨rfl,k2⟩;have K2:=lH (K1.out.trans k2);clear k2))
 obtain⟨HK,UO,VN⟩:=lH3 (HK.out.trans (K2.out.trans (ja w2 (.cells #[.string n.what,.string tu,.string tl] 9)))) (qE w2 w2.heap.size (.string n.what) (.string tu) (.string tl) 9 (Nat.le_refl _) rfl rfl rfl) (HS.out _ (K2.out.trans (ja w2 (.cells #[.string n.what,.string tu,.string tl] 9))));obtain⟨w3,hw3⟩:=eX (w2.alloc (.cells #[.string n.what,.string tu,.string tl] 9))
 have TO:=lH (show Kept w2 w3 by rw[←hw3];exact ja _ _);have UP:=lH (show w.heap.size≤w2.heap.size from(V7.out.trans K2.out).size);have VU:=lH (show w2.heap.size≤w3.heap.size from TO.out.size);rw[hw3] at HK UO VN ⊢;obtain⟨B,hB⟩:=eX (w2.heap.size)
 have TY:=lH hB;rw[hB] at UO UP VU ⊢;obtain⟨y0,y1,y2,y3,y4⟩:=VN.out;clear hw3 hB hlb;obtain⟨ws,hws⟩:∃ws:List ByteArray,n.what::tu::tl::n.rungs.map (fun r=>bytes (zH r))=ws:=⟨_,rfl⟩
 have Tf:=lH (show ws.length=3+len by rw[←hws];simp only[List.length_cons,List.length_map];have:=Vt.out;omega);have TP:=lH (show ws.take 3=[n.what,tu,tl] by rw[←hws];rfl);have TQ:=lH (show ∀k r,n.rungs[k]?=some r→ws[3+k]?=some (bytes (zH r)) from fun k r h=>by
  rw[←hws,show 3+k=k+1+1+1 by omega,List.getElem?_cons_succ,List.getElem?_cons_succ,List.getElem?_cons_succ,List.getElem?_map,h];rfl)
 have UQ:=lH hws;clear hws;go_wp2;go_loopw [3,20] (fun sv iv wr=>∃(k g cap:Nat),k≤len∧iv=.int .i64 k∧sv=.slice (some ⟨g,0,none⟩) (3+k) cap∧wr.ownsRow B 9 1 (.slice (some ⟨g,0,none⟩) (3+k) cap) (3+k) ((ws.take (3+k)).map Value.string)∧Below B w3 wr) (fun _ iv _=>len-(intOf iv).toNat)
 case atStart=>exact⟨0,B,3,Nat.zero_le _,rfl,rfl,by rw[Nat.add_zero,TP.out];exact UO.out,Below.refl _ _⟩
 case round =>
  obtain⟨k,g,cap,hk,rfl,rfl,hown,hK⟩:=hrel;have Tg:=lH hown;have Vh:=lH hK;clear hown hK y0 y1 y2 y3 y4;by_cases hlt:k<len
  · skip;skip;obtain⟨b,off,rfl⟩:=HR.out.form.resolve_left (by omega);have Up:=lH (show Kept w wr from Below.trans HK.out (Below.mono Vh.out UP.out));obtain⟨u,c,p,hn2,hd,hb,hfine,p0,p1,p2⟩:=(HR.out.kept Up.out).rung hlt;have hkk:(k:Int)<(len:Int):=by omega
    have HX:=lH (TQ.out k _ hn2);obtain⟨w4,hw4⟩:=eX (wr.alloc (.cells #[.int .i64 u,.int .i64 c,.int .i64 p] 46))
    have k4:Kept wr w4:=by rw[←hw4];exact ja _ _
    obtain⟨r0,r1,r2⟩:=(ju wr (.int .i64 u) [.int .i64 c,.int .i64 p] 46 w4 (by rw[hw4];exact Kept.refl _)).at3;obtain⟨rb,hrb⟩:=eX (wr.heap.size)
    rw[hrb] at r0 r1 r2;have HT:=lH (fun W (k:Kept w W)=>Yu u c p W (HE.out.kept k) hfine.1 hfine.2.1 hfine.2.2);obtain⟨t,ht⟩:=eX (bytes (zH (u,c,p)))
    rw[ht] at HT HX;have Uk:=lH k4;clear hn2 hd hfine ht k4 hb;go_wp2_with fail
    try rw[hw4]
    try rw[hrb]
    clear hw4 hrb;refine(HT.out _ (Up.out.trans Uk.out)).mono ?_;rintro e w5 ⟨rfl,k5⟩;have Ub:=lH (Uk.out.trans k5);clear k5 r0 r1 r2 p0 p1 p2 HT;have hb1:3+k+1≤maxLen:=by unfold maxLen;omega
    have hb2:((3+k+1)+(3+k+1) / 4+192)*16≤281474976710656:=by omega
    have hBs:B≤(w5.alloc (.cells #[.string t] 9)).heap.size:=by have:=Ub.out.size;have:=Vh.out.size;have:=VU.out;simp;omega
    go_wp2_with (at_builtin;refine Jk jaU _ rfl (.tmp 24) (.tmp 27) rfl B hBs g (3+k) cap _ rfl (qv (YD Tg.out Ub.out) _) _ 1 [.string t] rfl rfl (fun u hu=>by obtain rfl:=List.mem_singleton.1 hu;rfl) (jau rfl (World.alloc_heap_new w5 _)) hb1 hb2 ?_;intro g1 k1 W1 ho hd hg;have TR:=lH ho;have Ud:=lH hd;clear ho hd hg;refine Hid.out ?_)
    refine lH ?_;go_wp2;go_roundw
    case rel=>exact⟨k+1,g1,k1,by omega,by go_num,rfl,by rw[show 3+(k+1)=3+k+1 by omega,Xu HX.out,List.map_append];exact TR.out,Below.trans Vh.out (Below.trans (Below.mono (Ub.out.trans (ja w5 _)) (by have:=Vh.out.size;have:=VU.out;omega)) Ud.out)⟩
    case measure=>simp[intOf];omega
  · skip;have hkk:¬(k:Int)<(len:Int):=by omega
    obtain rfl:k=len:=by omega
    have hfull:=Tg.out;rw[List.take_of_length_le (by rw[Tf.out];exact Nat.le_refl _)] at hfull;obtain⟨hc1,hp1,hcells⟩:=jaH hfull;have Th:=lH (jaN UQ.out TN.out UN.out);have HJ:=lH (qb hcells hp1 Tf.out hc1 (by omega) (by
     rw[Th.out];refine Nat.le_trans (ZN (zl n) 2000 (qq TK.out TL.out TM.out (by obtain⟨_,_,q,_⟩:=HR.out;exact q))) ?_;have:(zl n).length=3+k:=by unfold zl;simp only[List.length_cons,List.length_map];have:=Vt.out;omega
     rw[this];have h2:(3+k)*(2000+1)≤1003*2001:=Nat.mul_le_mul (by omega) (by omega);omega))
    rw[Th.out] at HJ;have Up:=lH (show Kept w wr from Below.trans HK.out (Below.mono Vh.out UP.out));clear hfull hc1 hp1 hcells;go_wp2_with fail
    refine HJ.out.mono ?_;rintro e w5 ⟨rfl,k5⟩;have Ub:=lH k5;clear k5;go_wp2;go_ret;exact⟨ZA rfl,Up.out.trans Ub.out⟩
def lk1:List UInt8:=[99,112,117,32,99,112,117,61,49,48,44,109,101,109,61,52,32,49,47,51,32,49,48,48,58,50,58,53,48,48,32,50,48,48,58,57,58,49,48,48,48]
def lk2:List UInt8:=[99,112,117,32,45,32,49,32,49,58,49,58,49]
def lk3:List UInt8:=[99,112,117,32,45,32,51,47,49]
def lk4:List UInt8:=[99,112,117,32,45,32,48,47,49,32,53,58,49,58,49,32,53,58,49,58,49]
def kLd:Lad:=⟨Vec.cpu,[(Vec.cpu,10),(Vec.mem,4)],[(100,2,500),(200,9,1000)],1,3⟩
def kLe:Lad:=⟨Vec.cpu,[],[],0,0⟩
def kLf:Lad:=⟨Vec.cpu,[(Vec.cpu,1)],[],2,3⟩
theorem jbb:jU kLd=0:=by kernel_rfl
theorem jbm:jc lk1=(0,kLd):=by kernel_rfl
theorem jbA:(jc lk2).1=2:=by kernel_rfl
theorem jbu:(jc lk3).1=1:=by kernel_rfl
theorem jbt:(jc lk4).1=13:=by kernel_rfl
theorem jbl:j6 kLd [(Vec.cpu,100)]=(2,[(Vec.cpu,5),(Vec.mem,2)],0):=by kernel_rfl
theorem jbr:j6 kLd [(Vec.cpu,999)]=(3,[(Vec.cpu,10),(Vec.mem,4)],0):=by kernel_rfl
theorem jby:j6 kLf []=(2,[(Vec.cpu,1)],0):=by kernel_rfl
theorem jbB:atL kLd []=some (100,2,500):=by kernel_rfl
theorem jbv:atL kLe []=none:=by kernel_rfl
theorem jbw:Vec.j2 [(Vec.cpu,5),(Vec.mem,2)]=[99,112,117,61,53,44,109,101,109,61,50]:=by kernel_rfl
theorem jbx:Vec.j2 [(Vec.cpu,10),(Vec.mem,4)]=[99,112,117,61,49,48,44,109,101,109,61,52]:=by kernel_rfl
theorem jbp:Vec.j2 [(Vec.cpu,1)]=[99,112,117,61,49]:=by kernel_rfl
theorem jbo:qN kLd=lk1:=by kernel_rfl
theorem J8 (w:World) (s:ByteArray) (m:Int) (T:TypeId) (hs:s.size≤maxLen) (hm:-9223372036854775808≤m∧m≤9223372036854775807) :
 Vec.Reads (w.alloc (.cells #[.string s,.int .i64 m] T)) (.slice (some ⟨w.heap.size,0,none⟩) 1 1) [(s,m)]:=by
 refine⟨_,1,rfl,Nat.le_refl _,by decide,rfl,(by decide:1≤maxLen),Vec.jP.cons.2 ⟨⟨hs,hm⟩,Vec.jP.nil⟩,.inr ⟨w.heap.size,0,rfl,by simp,fun i hi=>?_⟩⟩;have hh:=w.alloc_heap_new (.cells #[.string s,.int .i64 m] T)
 match i,hi with
 | 0,_=>exact⟨by rw[Lib.cell_of_heap hh];rfl,by rw[Lib.cell_of_heap hh];rfl⟩
theorem qQ (w:World) (hE:Vec.jX w):Calls Tryz.prog 24 #[.string ⟨#[99,112,117,32,99,112,117,61,49,48,44,109,101,109,61,52,32,49,47,51,32,49,48,48,58,50,58,53,48,48,32,50,48,48,58,57,58,49,48,48,48]⟩] w fun e w'=>∃a1 m1 c1 a2 m2 c2,e=.returned (.tuple #[.agg #[.string ⟨#[99,112,117]⟩,.slice a1 m1 c1,.slice a2 m2 c2,.int .i64 1,.int .i64 3],.int .i64 0])∧jZ w' (.slice a1 m1 c1) (.slice a2 m2 c2) kLd∧Kept w w':=by
 refine(JH lk1 w hE (by decide)).mono ?_;rintro e w' ⟨v,he,hn,k⟩;rw[jbm] at he hn;obtain⟨a1,m1,c1,a2,m2,c2,rfl,hat,-⟩:=hn;exact⟨a1,m1,c1,a2,m2,c2,he,hat,k⟩
theorem JF (s:List UInt8) (c:Int) (w:World) (hE:Vec.jX w) (hs:s.length≤900000) (h:(jc s).1=c) (hc:c≠0):Calls Tryz.prog 24 #[.string (bytes s)] w fun e w'=>∃a1 m1 c1 a2 m2 c2,e=.returned (.tuple #[.agg #[.string ⟨#[]⟩,.slice a1 m1 c1,.slice a2 m2 c2,.int .i64 0,.int .i64 0],.int .i64 c])∧Kept w w':=by
 refine(JH s w hE hs).mono ?_;rintro e w' ⟨v,he,hn,k⟩;rw[JI (by rw[h];exact hc)] at hn;rw[h] at he;obtain⟨a1,m1,c1,a2,m2,c2,rfl,hat,-⟩:=hn;exact⟨a1,m1,c1,a2,m2,c2,he,k⟩
theorem jaZ (w:World):jZ w (.slice none 0 0) (.slice none 0 0) kLe:=⟨by decide,Vec.Reads.nil _,Reads.nil _,by unfold I64 kLe;decide,by unfold I64 kLe;decide⟩
theorem jaY (w:World) (T:TypeId):jZ (w.alloc (.cells #[.string Vec.cpu,.int .i64 1] T)) (.slice (some ⟨w.heap.size,0,none⟩) 1 1) (.slice none 0 0) kLf:=⟨by decide,J8 w _ _ T (by decide) (by decide),Reads.nil _,by unfold I64 kLf;decide,by unfold I64 kLf;decide⟩
theorem jaB {v:Value} (w:World) (hE:Vec.jX w) (h:Vec.Reads w v [(Vec.cpu,5),(Vec.mem,2)]):Calls Tryz.prog 31 #[v] w fun e w'=>e=.returned (.string ⟨#[99,112,117,61,53,44,109,101,109,61,50]⟩)∧Kept w w':=Vec.Z4 hE h (by kernel_rfl) jbw
theorem jaK {v:Value} (w:World) (hE:Vec.jX w) (h:Vec.Reads w v [(Vec.cpu,10),(Vec.mem,4)]):Calls Tryz.prog 31 #[v] w fun e w'=>e=.returned (.string ⟨#[99,112,117,61,49,48,44,109,101,109,61,52]⟩)∧Kept w w':=Vec.Z4 hE h (by kernel_rfl) jbx
theorem jaw {v:Value} (w:World) (hE:Vec.jX w) (h:Vec.Reads w v [(Vec.cpu,1)]):Calls Tryz.prog 31 #[v] w fun e w'=>e=.returned (.string ⟨#[99,112,117,61,49]⟩)∧Kept w w':=Vec.Z4 hE h (by kernel_rfl) jbp
theorem jaa (a1 a2:Option Addr) (m1 c1 m2 c2:Nat) (w:World) (hE:Vec.jX w) (h:jZ w (.slice a1 m1 c1) (.slice a2 m2 c2) kLd):Calls Tryz.prog 22 #[.agg #[.string ⟨#[99,112,117]⟩,.slice a1 m1 c1,.slice a2 m2 c2,.int .i64 1,.int .i64 3]] w fun e w'=>e=.returned (.string ⟨#[99,112,117,32,99,112,117,61,49,48,44,109,101,109,61,52,32,49,47,51,32,49,48,48,58,50,58,53,48,48,32,50,48,48,58,57,58,49,48,48,48]⟩)∧Kept w w':=by
 have:=XL kLd (.slice a1 m1 c1) a2 m2 c2 w hE h (by decide) (by kernel_rfl) (by decide);rw[jbo] at this;exact this
theorem YZ (w:World) (hE:Vec.jX w):Calls Tryz.prog 9 #[] w (Say (.bool true) w):=by
 have HE:=lH hE;clear hE;go_enter Tryz.func9,Tryz.ntmps9;go_wp2_with fail
 refine(qQ _ HE.out).mono ?_;rintro e w1 ⟨a1,m1,c1,a2,m2,c2,rfl,hat,kk⟩;have Va:=lH hat;have K:=lH kk;clear hat kk;obtain⟨v2,hv2⟩:=eX (w1.alloc (.cells #[.string ⟨#[99,112,117]⟩,.slice a1 m1 c1,.slice a2 m2 c2,.int .i64 1,.int .i64 3] 26))
 have kk:Kept w1 v2:=by rw[←hv2];exact ja _ _
 have Hkb:=lH (ju w1 (.string ⟨#[99,112,117]⟩) [.slice a1 m1 c1,.slice a2 m2 c2,.int .i64 1,.int .i64 3] 26 v2 (by rw[hv2];exact Kept.refl _));obtain⟨kb,hkb⟩:=eX (w1.heap.size)
 rw[hkb] at Hkb;have Va:=lH (Va.out.kept kk);have K:=lH (K.out.trans kk);clear kk;have Ev2:=lH hv2;clear hv2;have Ekb:=lH hkb;clear hkb;go_wp2_with fail
 try rw[Ev2.out]
 clear Ev2;try rw[Ekb.out]
 clear Ekb;refine(JF lk2 2 _ (HE.out.kept K.out) (by decide) jbA (by decide)).mono ?_;rintro e w2 ⟨x1,x2,x3,x4,x5,x6,rfl,kk⟩;obtain⟨Va,Hkb,K⟩:=lH3 (Va.out.kept kk) (Hkb.out.kept kk) (K.out.trans kk);clear kk;obtain⟨v3,hv3⟩:=eX (w2.alloc (.cells #[.string ⟨#[]⟩,.slice x1 x2 x3,.slice x4 x5 x6,.int .i64 0,.int .i64 0] 26))
 have kk:Kept w2 v3:=by rw[←hv3];exact ja _ _
 obtain⟨Va,Hkb,K⟩:=lH3 (Va.out.kept kk) (Hkb.out.kept kk) (K.out.trans kk);clear kk;have Ev3:=lH hv3;clear hv3;go_wp2_with fail
 try rw[Ev3.out]
 clear Ev3;refine(JF lk3 1 _ (HE.out.kept K.out) (by decide) jbu (by decide)).mono ?_;rintro e w3 ⟨x1,x2,x3,x4,x5,x6,rfl,kk⟩;obtain⟨Va,Hkb,K⟩:=lH3 (Va.out.kept kk) (Hkb.out.kept kk) (K.out.trans kk);clear kk;obtain⟨v4,hv4⟩:=eX (w3.alloc (.cells #[.string ⟨#[]⟩,.slice x1 x2 x3,.slice x4 x5 x6,.int .i64 0,.int .i64 0] 26))
 have kk:Kept w3 v4:=by rw[←hv4];exact ja _ _
 obtain⟨Va,Hkb,K⟩:=lH3 (Va.out.kept kk) (Hkb.out.kept kk) (K.out.trans kk);clear kk;have Ev4:=lH hv4;clear hv4;go_wp2_with fail
 try rw[Ev4.out]
 clear Ev4;refine(JF lk4 13 _ (HE.out.kept K.out) (by decide) jbt (by decide)).mono ?_;rintro e w4 ⟨x1,x2,x3,x4,x5,x6,rfl,kk⟩;obtain⟨Va,Hkb,K⟩:=lH3 (Va.out.kept kk) (Hkb.out.kept kk) (K.out.trans kk);clear kk;obtain⟨v5,hv5⟩:=eX (w4.alloc (.cells #[.string ⟨#[]⟩,.slice x1 x2 x3,.slice x4 x5 x6,.int .i64 0,.int .i64 0] 26))
 have kk:Kept w4 v5:=by rw[←hv5];exact ja _ _
 obtain⟨Va,Hkb,K⟩:=lH3 (Va.out.kept kk) (Hkb.out.kept kk) (K.out.trans kk);clear kk;have Ev5:=lH hv5;clear hv5;obtain⟨y0,y1,y2,y3,y4⟩:=Hkb.out.at5;go_upto_region 5 with fail
 try rw[Ev5.out]
 clear Ev5;go_wp2_with fail
 refine(YJ (n:=kLd) (t:=[(Vec.cpu,100)]) ⟨_,_,rfl,Va.out.kept (ja _ _)⟩ (J8 _ _ _ _ (by decide) (by decide)) jbl).mono ?_;rintro e w5 ⟨r1,rfl,hr,kk⟩;have kk:=(ja v5 _).trans kk;obtain⟨Va,Hkb,K,Vd⟩:=lH4 (Va.out.kept kk) (Hkb.out.kept kk) (K.out.trans kk) hr;clear hr kk y0 y1 y2 y3 y4;obtain⟨y0,y1,y2,y3,y4⟩:=Hkb.out.at5;go_wp2_with fail
 refine(YJ (n:=kLd) (t:=[(Vec.cpu,999)]) ⟨_,_,rfl,Va.out.kept (ja _ _)⟩ (J8 _ _ _ _ (by decide) (by decide)) jbr).mono ?_;rintro e w6 ⟨r2,rfl,hr,kk⟩;have kk:=(ja w5 _).trans kk;obtain⟨Va,Hkb,Vd,K,Vg⟩:=lH5 (Va.out.kept kk) (Hkb.out.kept kk) (Vd.out.kept kk) (K.out.trans kk) hr;clear hr kk y0 y1 y2 y3 y4;obtain⟨y0,y1,y2,y3,y4⟩:=Hkb.out.at5;go_wp2_with fail
 refine(ja3 (n:=kLd) (t:=[]) ⟨_,_,rfl,Va.out⟩ (Vec.Reads.nil _) jbB).mono ?_;rintro e w7 ⟨rfl,kk⟩;obtain⟨Va,Hkb,Vd,Vg,K⟩:=lH5 (Va.out.kept kk) (Hkb.out.kept kk) (Vd.out.kept kk) (Vg.out.kept kk) (K.out.trans kk);clear kk y0 y1 y2 y3 y4;obtain⟨v6,hv6⟩:=eX (w7.alloc (.cells #[.int .i64 100,.int .i64 2,.int .i64 500] 46))
 have kk:Kept w7 v6:=by rw[←hv6];exact ja _ _
 have Hrb:=lH (ju w7 (.int .i64 100) [.int .i64 2,.int .i64 500] 46 v6 (by rw[hv6];exact Kept.refl _));obtain⟨rb,hrb⟩:=eX (w7.heap.size)
 rw[hrb] at Hrb;obtain⟨Va,Hkb,Vd,Vg,K⟩:=lH5 (Va.out.kept kk) (Hkb.out.kept kk) (Vd.out.kept kk) (Vg.out.kept kk) (K.out.trans kk);clear kk;have Ev6:=lH hv6;clear hv6;have Erb:=lH hrb;clear hrb;go_upto_region 8 with fail
 try rw[Ev6.out]
 clear Ev6;try rw[Erb.out]
 clear Erb;go_wp2_with fail
 refine(ja3 (n:=kLe) (t:=[]) ⟨_,_,rfl,jaZ _⟩ (Vec.Reads.nil _) jbv).mono ?_;rintro e w8 ⟨rfl,kk⟩;obtain⟨Va,Hkb,Vd,Vg,Hrb,K⟩:=lH6 (Va.out.kept kk) (Hkb.out.kept kk) (Vd.out.kept kk) (Vg.out.kept kk) (Hrb.out.kept kk) (K.out.trans kk);clear kk;obtain⟨v7,hv7⟩:=eX (w8.alloc (.cells #[.int .i64 0,.int .i64 0,.int .i64 0] 46))
 have kk:Kept w8 v7:=by rw[←hv7];exact ja _ _
 obtain⟨Va,Hkb,Vd,Vg,Hrb,K⟩:=lH6 (Va.out.kept kk) (Hkb.out.kept kk) (Vd.out.kept kk) (Vg.out.kept kk) (Hrb.out.kept kk) (K.out.trans kk);clear kk;have Ev7:=lH hv7;clear hv7;go_upto_region 9 with fail
 try rw[Ev7.out]
 clear Ev7;go_wp2_with fail
 refine(YJ (n:=kLf) (t:=[]) ⟨_,_,rfl,jaY v7 _⟩ (Vec.Reads.nil _) jby).mono ?_;rintro e w9 ⟨r3,rfl,hr,kk⟩;have kk:=(ja v7 _).trans kk;obtain⟨Va,Hkb,Vd,Vg,Hrb,K,VC⟩:=lH7 (Va.out.kept kk) (Hkb.out.kept kk) (Vd.out.kept kk) (Vg.out.kept kk) (Hrb.out.kept kk) (K.out.trans kk) hr;clear hr kk;obtain⟨y0,y1,y2,y3,y4⟩:=Hkb.out.at5;obtain⟨q0,q1,q2⟩:=Hrb.out.at3;go_wp2_with fail
 refine(jaB _ (HE.out.kept K.out) Vd.out).mono ?_;rintro e t1 ⟨rfl,kk⟩;obtain⟨Va,Hkb,Vd,Vg,Hrb,VC,K⟩:=lH7 (Va.out.kept kk) (Hkb.out.kept kk) (Vd.out.kept kk) (Vg.out.kept kk) (Hrb.out.kept kk) (VC.out.kept kk) (K.out.trans kk);clear kk y0 y1 y2 y3 y4 q0 q1 q2;obtain⟨y0,y1,y2,y3,y4⟩:=Hkb.out.at5;obtain⟨q0,q1,q2⟩:=Hrb.out.at3;go_wp2_with fail
 refine(jaK _ (HE.out.kept K.out) Vg.out).mono ?_;rintro e t2 ⟨rfl,kk⟩;obtain⟨Va,Hkb,Vd,Vg,Hrb,VC,K⟩:=lH7 (Va.out.kept kk) (Hkb.out.kept kk) (Vd.out.kept kk) (Vg.out.kept kk) (Hrb.out.kept kk) (VC.out.kept kk) (K.out.trans kk);clear kk y0 y1 y2 y3 y4 q0 q1 q2;obtain⟨y0,y1,y2,y3,y4⟩:=Hkb.out.at5;obtain⟨q0,q1,q2⟩:=Hrb.out.at3;go_wp2_with fail
 refine(jaw _ (HE.out.kept K.out) VC.out).mono ?_;rintro e t3 ⟨rfl,kk⟩;obtain⟨Va,Hkb,Vd,Vg,Hrb,VC,K⟩:=lH7 (Va.out.kept kk) (Hkb.out.kept kk) (Vd.out.kept kk) (Vg.out.kept kk) (Hrb.out.kept kk) (VC.out.kept kk) (K.out.trans kk);clear kk y0 y1 y2 y3 y4 q0 q1 q2;obtain⟨y0,y1,y2,y3,y4⟩:=Hkb.out.at5;obtain⟨q0,q1,q2⟩:=Hrb.out.at3;go_wp2_with fail
 refine(jaa _ _ _ _ _ _ _ (HE.out.kept K.out) Va.out).mono ?_;rintro e t4 ⟨rfl,kk⟩;obtain⟨Va,Hkb,Vd,Vg,Hrb,VC,K⟩:=lH7 (Va.out.kept kk) (Hkb.out.kept kk) (Vd.out.kept kk) (Vg.out.kept kk) (Hrb.out.kept kk) (VC.out.kept kk) (K.out.trans kk);clear kk y0 y1 y2 y3 y4 q0 q1 q2;obtain⟨y0,y1,y2,y3,y4⟩:=Hkb.out.at5;go_wp2_with fail
 refine(jay (n:=kLd) ⟨_,_,rfl,Va.out⟩ jbb).mono ?_;rintro e t5 ⟨rfl,kk⟩;obtain⟨Va,Hkb,Vd,Vg,Hrb,VC,K⟩:=lH7 (Va.out.kept kk) (Hkb.out.kept kk) (Vd.out.kept kk) (Vg.out.kept kk) (Hrb.out.kept kk) (VC.out.kept kk) (K.out.trans kk);clear kk y0 y1 y2 y3 y4;go_wp2;go_ret;exact⟨rfl,K.out⟩
end Go.Proofs.YtnfojaidmnccoaaGreatDoor
namespace Go.Proofs.YtnfojaidmnccoaaGreatDoor.Vec
open Go.RowKit
theorem XG {l:V} (h:Gd l) (hl:l.length≤8):jy jd 1000 l=(0,l):=by
 have hv:∀x:Int,x≤9223372036854775807→jd x 1000=(x,0):=fun x hx=>by
  have:jO x 1000=x:=by unfold jO;omega
  unfold jd;rw[if_neg (by decide),this,if_pos hx]
 have e:jy jd 1000 l=jt jd 1000 l []:=by unfold jy;rw[if_neg (by rw[Jl h hl];decide)]
 rcases each_spec (f:=jd) (k:=1000) (hv 0 (by decide)) (fun x hx=>.inl (by rw[hv x hx.2])) (fun x hx=>by rw[hv x hx.2];exact hx) l h with ⟨⟨n,hn⟩,_⟩ | ⟨_,r,hr,hm,_⟩
 · rw[hv _ (zS n h).2] at hn;exact absurd rfl hn
 · have:r=l:=Gd.ext hm.1 h fun n=>by rw[hm.2 n];show (jd _ _).1=_;rw[hv _ (zS n h).2]
   rw[e,hr,this];rfl
end Go.Proofs.YtnfojaidmnccoaaGreatDoor.Vec
namespace Go.Proofs.YtnfojaidmnccoaaGreatDoor
open Go.RowKit
theorem Xy {l:Vec.V} {p:Int} (h:Vec.Gd l) (hl:l.length≤8) (hp:0≤p) (hp2:p≤1000):∃r,Vec.jy Vec.jd p l=(0,r)∧Vec.jD l r=true∧Vec.jf r=0:=by
 have hq:∀x:Int,0≤x→0≤Vec.jO x p∧Vec.jO x p≤x:=fun x hx=>by
  have h1:0≤x*p:=Int.mul_nonneg hx hp;have h2:x*p≤x*1000:=Int.mul_le_mul_of_nonneg_left hp2 hx;unfold Vec.jO;omega
 have hv:∀x:Int,0≤x∧x≤9223372036854775807→Vec.jd x p=(Vec.jO x p,0):=fun x hx=>by
  have:=hq x hx.1;unfold Vec.jd;rw[if_neg (by omega),if_pos (by omega)]
 have hz:Vec.jd 0 p=(0,0):=by rw[hv 0 (by decide)];unfold Vec.jO;simp
 have e:Vec.jy Vec.jd p l=Vec.jt Vec.jd p l []:=by unfold Vec.jy;rw[if_neg (by rw[Vec.Jl h hl];decide)]
 rcases Vec.each_spec (f:=Vec.jd) (k:=p) hz (fun x hx=>.inl (by rw[hv x hx])) (fun x hx=>Vec.Z7 hx.1 hx.2) l h with ⟨⟨n,hn⟩,_⟩ | ⟨_,r,hr,hm,_⟩
 · rw[hv _ (Vec.zS n h)] at hn;exact absurd rfl hn
 · have hg:∀n,Vec.ji r n=Vec.jO (Vec.ji l n) p:=fun n=>by rw[hm.2 n];show (Vec.jd _ _).1=_;rw[hv _ (Vec.zS n h)]
   have hlen:r.length≤l.length:=Vec.Gd.len hm.1 h (fun n hn=>by
    intro e0;rw[hg n,e0] at hn;exact hn (by unfold Vec.jO;simp))
   exact⟨r,by rw[e,hr];rfl,(Vec.qS hm.1 h).2 (fun n=>by rw[hg n];exact(hq _ (Vec.zS n h).1).2),Vec.Jl hm.1 (by omega)⟩
theorem YN {u c p:Int} (hu:0≤u) (hc:0≤c) (hc2:c≤128) (hp:0≤p) (hp2:p≤1000000):jw u c p=0:=by
 unfold jw;rw[if_neg (by omega)]
def Z3 (n:Lad):Bool:=decide (n.what.size≤50)&&(Vec.zh n.unit&&decide (n.rungs.length≤20))
theorem X3 (n:Lad) (a1 a2:Option Addr) (l1 c1 l2 c2:Nat) (w:World) (h:jZ w (.slice a1 l1 c1) (.slice a2 l2 c2) n):Calls Tryz.prog 10 #[.agg #[.string n.what,.slice a1 l1 c1,.slice a2 l2 c2,.int .i64 n.lo,.int .i64 n.hi]] w (Say (.bool (Z3 n)) w):=by
 obtain⟨W0,hW0⟩:=eX (w.alloc (.cells #[.string n.what,.slice a1 l1 c1,.slice a2 l2 c2,.int .i64 n.lo,.int .i64 n.hi] 26))
 have hk0:Kept w W0:=by rw[←hW0];exact ja _ _
 have HL:=lH (ju w (.string n.what) [.slice a1 l1 c1,.slice a2 l2 c2,.int .i64 n.lo,.int .i64 n.hi] 26 W0 (by rw[hW0];exact Kept.refl _));obtain⟨lb,hlb⟩:=eX (w.heap.size)
 rw[hlb] at HL;obtain⟨a9,c9,e9,-,-,-⟩:=h.rungs;obtain⟨rfl,rfl,rfl⟩:a2=a9∧l2=n.rungs.length∧c2=c9:=by cases e9;exact⟨rfl,rfl,rfl⟩
 obtain⟨fv,hfv⟩:=eX (Vec.zh n.unit)
 have HF:=lH (fun W (k:Kept w W)=>Vec.jbq (h.unit.kept k) hfv);have HV:=lH (show Z3 n=(decide (n.what.size≤50)&&(fv&&decide (n.rungs.length≤20))) by unfold Z3;rw[hfv]);obtain⟨len,hlen⟩:=eX (n.rungs.length)
 rw[hlen] at HV HL hW0 ⊢;obtain⟨x,hx⟩:=eX (n.what)
 rw[hx] at HV HL hW0 ⊢;have HK:=lH hk0;clear hk0 h e9 hfv hlen hx;by_cases h1:x.size≤50
 · have e1:decide (x.size≤50)=true:=decide_eq_true h1;rw[e1] at HV;have h1':(x.size:Int)≤50:=by omega
   clear e1 h1
   cases fv with
   | true =>
    obtain⟨y0,y1,y2,y3,y4⟩:=HL.out.at5;go_enter Tryz.func10,Tryz.ntmps10;go_wp2_with fail
    try rw[hW0]
    try rw[hlb]
    clear hW0 hlb;refine(HF.out _ HK.out).mono ?_;rintro e w1 ⟨rfl,rfl⟩;clear HF;have hd:decide ((len:Int)≤20)=decide (len≤20):=by simp;omega
    go_wp2;go_ret;exact⟨by rw[HV.out];first | rfl | (simp;omega),HK.out⟩
   | false =>
    obtain⟨y0,y1,y2,y3,y4⟩:=HL.out.at5;go_enter Tryz.func10,Tryz.ntmps10;go_wp2_with fail
    try rw[hW0]
    try rw[hlb]
    clear hW0 hlb;refine(HF.out _ HK.out).mono ?_;rintro e w1 ⟨rfl,rfl⟩;clear HF;go_wp2;go_ret;exact⟨by rw[HV.out];rfl,HK.out⟩
 · have e1:decide (x.size≤50)=false:=decide_eq_false h1;rw[e1] at HV;have h1':¬(x.size:Int)≤50:=by omega
   clear e1 h1 HF;obtain⟨y0,y1,y2,y3,y4⟩:=HL.out.at5;go_enter Tryz.func10,Tryz.ntmps10;go_wp2;try rw[hW0]
   clear hW0 hlb;go_ret;exact⟨by rw[HV.out];rfl,HK.out⟩
def Xw (o:Option (Int×Int×Int)) (lo hi:Int) (u:Vec.V):Int×Vec.V×Int:=match o with
 | none=>(lo,u,0)
 | some r=>if (Vec.jy Vec.jd r.2.2 u).1≠0 then (0,[],(Vec.jy Vec.jd r.2.2 u).1) else (Yr r.2.1 lo hi,(Vec.jy Vec.jd r.2.2 u).2,0)
theorem jam {n:Lad} {t:Vec.V} (h:jU n=0):j6 n t=Xw (atL n t) n.lo n.hi n.unit:=by
 unfold j6 Xw;rw[if_neg (by rw[h];decide)];rfl
theorem qX {a b:Int} (h1:0≤a) (h2:a≤b) (h3:b≤128):jY a b=0:=by unfold jY;rw[if_neg (by omega)]
end Go.Proofs.YtnfojaidmnccoaaGreatDoor
