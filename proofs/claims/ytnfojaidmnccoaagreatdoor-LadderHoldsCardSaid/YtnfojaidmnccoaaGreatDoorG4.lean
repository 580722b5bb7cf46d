/- C. -/
import Derived.Test.YtnfojaidmnccoaaGreatDoorG0
import Derived.Test.YtnfojaidmnccoaaGreatDoorG2
import Derived.Test.YtnfojaidmnccoaaGreatDoorG3
set_option linter.unusedVariables false
set_option maxRecDepth 100000
set_option maxHeartbeats 25600000
namespace Go.Proofs.YtnfojaidmnccoaaGreatDoor
open Go.RowKit
def w3L (s:List UInt8) (i:Nat):List UInt8:=(jb 32 s).getD i []
def j6 (s:List UInt8) (i:Nat):List UInt8:=(jb 47 (w3L s 2)).getD i []
def ZM (s:List UInt8):Lad:=⟨bytes (w3L s 0),(Vec.zk (w3L s 1)).2,(((jb 32 s).drop 3).map jI).take 9,(Vec.valL (j6 s 0):Int),(Vec.valL (j6 s 1):Int)⟩
def Zr (s:List UInt8):Bool:=decide (3≤(jb 32 s).length)&&(jL 47 2 (w3L s 2)&&j3 ((jb 32 s).drop 3))
def Zz (s:List UInt8):Bool:=inQ (j6 s 0)&&(inQ (j6 s 1)&&zh ((jb 32 s).drop 3))
def jc (s:List UInt8):Int×Lad :=
 if Zr s=false then (2,Lad.zero) else if Zz s=false then (5,Lad.zero) else if (Vec.zk (w3L s 1)).1≠0 then ((Vec.zk (w3L s 1)).1,Lad.zero)
 else if jK (ZM s)≠0 then (jK (ZM s),Lad.zero) else (0,ZM s)
def zg (B:Nat) (w:World) (v:Value) (n:Lad):Prop:=∃a1 m1 c1 a2 m2 c2,v=.agg #[.string n.what,.slice a1 m1 c1,.slice a2 m2 c2,.int .i64 n.lo,.int .i64 n.hi]∧jW w (.slice a1 m1 c1) (.slice a2 m2 c2) n∧(∀b off sp,a1=some ⟨b,off,sp⟩→B≤b)∧(∀b off sp,a2=some ⟨b,off,sp⟩→B≤b)
theorem zg.toR {B:Nat} {w:World} {v:Value} {n:Lad} (h:zg B w v n):Jc w v n:=by
 obtain⟨a1,m1,c1,a2,m2,c2,e,h0,_⟩:=h;exact⟨_,_,e,h0⟩
def jE (r:Int×Lad) (w:World) (e:Ending) (w':World):Prop:=(r.1=0→∃v,e=.returned v∧zg w.heap.size w' v r.2)∧(r.1≠0→e=.panicked [jt r.1])∧Kept w w'
theorem jE.bad {r:Int×Lad} {w w':World} {c:Int} (h:r.1=c) (hc:c≠0) (hb:Kept w w'):jE r w (.panicked [jt c]) w':=⟨fun g=>absurd (h.symm.trans g) hc,fun _=>by rw[h],hb⟩
theorem JX {s:List UInt8} (h:3≤(jb 32 s).length) (i:Nat) (hi:i<3):(jb 32 s)[i]?=some (w3L s i):=by
 unfold w3L;rw[List.getElem?_eq_getElem (by omega)];simp[List.getD,show i<(jb 32 s).length by omega]
theorem jbe {s:List UInt8} (h:(jb 47 (w3L s 2)).length=2) (i:Nat) (hi:i<2):(jb 47 (w3L s 2))[i]?=some (j6 s i):=by
 unfold j6;rw[List.getElem?_eq_getElem (by omega)];simp[List.getD,show i<(jb 47 (w3L s 2)).length by omega]
theorem XX (x:ByteArray) (a1 a2:Option Addr) (l1 c1 l2 c2:Nat) (lo hi:Int) (w:World):Calls Tryz.prog 77 #[.agg #[.string x,.slice a1 l1 c1,.slice a2 l2 c2,.int .i64 lo,.int .i64 hi],.int .i64 0] w fun e w'=>e=.returned (.agg #[.string x,.slice a1 l1 c1,.slice a2 l2 c2,.int .i64 lo,.int .i64 hi])∧Kept w w':=by
 go_enter Tryz.func77,Tryz.ntmps77;go_wp2;go_returns
 exact⟨rfl,jG _ _ _⟩
theorem Xa (x:ByteArray) (a1 a2:Option Addr) (l1 c1 l2 c2:Nat) (lo hi:Int) (c:Int) (w:World) (h:c≠0):Calls Tryz.prog 77 #[.agg #[.string x,.slice a1 l1 c1,.slice a2 l2 c2,.int .i64 lo,.int .i64 hi],.int .i64 c] w fun e w'=>e=.panicked [jt c]∧Kept w w':=by
 have h3:(c != 0)=true:=by simpa using h
 clear h;go_enter Tryz.func77,Tryz.ntmps77;go_wp2;exact⟨rfl,rfl,jG _ _ _⟩
theorem YW (s:List UInt8) (w:World) (hE:Vec.jX w) (hs:s.length≤900000) :
 Calls Tryz.prog 50 #[.string (bytes s)] w (jE (jc s) w):=by
 obtain⟨Z,hZ⟩:=eX (w.alloc (.cells #[.string ⟨#[]⟩,.slice none 0 0,.slice none 0 0,.int .i64 0,.int .i64 0] 26))
 have hkz:Kept w Z:=by rw[←hZ];exact ja _ _
 have VR:=lH (jl w (.string ⟨#[]⟩) [.slice none 0 0,.slice none 0 0,.int .i64 0,.int .i64 0] 26 Z (by rw[hZ];exact Kept.refl _));obtain⟨q0,hq0⟩:=eX (w.heap.size)
 rw[hq0] at VR;obtain⟨Uk,TU,K,HE,UU⟩:=lH5 hq0 (show Z.heap.size=q0+1 by rw[←hZ,World.size_alloc,hq0]) hkz hE (jam s Z (hE.kept hkz).toEnv.base (by omega));unfold YZ at UU;have V1:=lH (show ∀p ∈ jb 32 s,p.length≤1000000 from fun p h=>by have:=jH 32 s p h;omega);clear hE hkz;go_enter Tryz.func50,Tryz.ntmps50;go_wp2_with fail
 try rw[hZ]
 try rw[hq0]
 clear hZ hq0;refine UU.out.mono ?_;rintro e w1 ⟨hbad,hok,kk⟩;obtain⟨VR,K,Tr⟩:=lH3 (VR.out.kept kk) (K.out.trans kk) (show q0+1≤w1.heap.size by have:=kk.size;rw[TU.out] at this;exact this);clear kk UU;by_cases h3:(jb 32 s).length<3
 · obtain rfl:=hbad h3;have HV:=lH (show (jc s).1=2 by unfold jc Zr;rw[decide_eq_false (by omega:¬3≤(jb 32 s).length)];rfl);clear hbad hok h3;go_wp2;exact⟨rfl,jE.bad HV.out (by decide) K.out⟩
 · obtain⟨g,cap,bw,bc,r,rfl,hcells,hrest,hrp,hrs⟩:=hok (by omega);have h3':3≤(jb 32 s).length:=by omega
   obtain⟨H3,V9,Vx,Vv,HC,VS,VQ,Uu⟩:=lH8 h3' (V1.out _ (List.mem_of_getElem? (JX h3' 0 (by decide)))) (V1.out _ (List.mem_of_getElem? (JX h3' 1 (by decide)))) (V1.out _ (List.mem_of_getElem? (JX h3' 2 (by decide)))) (show ∀W,Kept w1 W→W.cell? ⟨g,0,none⟩=some (.string (bytes (w3L s 0)))∧W.cell? ⟨g,1,none⟩=some (.string (bytes (w3L s 1)))∧W.cell? ⟨g,2,none⟩=some (.string (bytes (w3L s 2))) from fun W k=>⟨cell_later k (hcells 0 _ (by decide) (JX h3' 0 (by decide))),cell_later k (hcells 1 _ (by decide) (JX h3' 1 (by decide))),cell_later k (hcells 2 _ (by decide) (JX h3' 2 (by decide)))⟩) hrest hrp (show ∀q,r=some q→q.length≤1000000 from fun q h=>by have:=hrs q h;omega);have Uy:=lH (fun W (k:Kept w W)=>Y2 (w3L s 2) W (HE.out.kept k).toEnv.base Vv.out);unfold Zp at Uy;obtain⟨c0,c1,c2⟩:=HC.out _ (Kept.refl _);clear hbad hok h3 h3' hcells hrest hrp hrs;obtain⟨VG,VN,VH,VT⟩:=lH4 (show ZM s=⟨bytes (w3L s 0),(Vec.zk (w3L s 1)).2,(((jb 32 s).drop 3).map jI).take 9,(Vec.valL (j6 s 0):Int),(Vec.valL (j6 s 1):Int)⟩ from rfl) (show Zr s=(jL 47 2 (w3L s 2)&&j3 ((jb 32 s).drop 3)) by unfold Zr;rw[decide_eq_true H3.out];rfl) (show Zz s=(inQ (j6 s 0)&&(inQ (j6 s 1)&&zh ((jb 32 s).drop 3))) from rfl) (fun h i hi=>jbe (s:=s) h i hi);obtain⟨a,ha⟩:=eX (w3L s 0)
   obtain⟨b,hb⟩:=eX (w3L s 1)
   obtain⟨c,hc⟩:=eX (w3L s 2)
   have VL:=lH (show w3L s 1=b from hb);rw[ha] at HC V9 VG c0;rw[hb] at HC Vx VG c1;rw[hc] at HC Vv Uy VN VT c2;obtain⟨rs,hrs⟩:=eX ((jb 32 s).drop 3)
   rw[hrs] at VQ VG VN VH;clear ha hb hc hrs;obtain⟨f1,hf1⟩:=eX (jL 47 2 c)
   have Ul:=lH hf1;rw[hf1] at VN;clear hf1;go_wp2_with fail
   refine(Uy.out _ K.out).mono ?_;rintro e w2 ⟨hok,hbad,kk⟩;obtain⟨VR,VS,HC,TV,K⟩:=lH5 (VR.out.kept kk) (VS.out.kept kk) (fun W (k:Kept w2 W)=>HC.out W (kk.trans k)) (Nat.le_trans Tr.out kk.size) (K.out.trans kk);clear kk Uy c0 c1 c2
   cases f1 with
   | false =>
    obtain rfl:=hbad Ul.out;have HV:=lH (show (jc s).1=2 by unfold jc;rw[VN.out];rfl);clear hbad hok;go_wp2;exact⟨rfl,jE.bad HV.out (by decide) K.out⟩
   | true =>
    obtain⟨g2,cap2,rfl,hc2⟩:=hok Ul.out;obtain⟨hl2,hall2⟩:=Ys Ul.out;obtain⟨UW,UX,Vi⟩:=lH3 (show Vec.jo (j6 s 0)=true∧(j6 s 0).length≤1000000 from⟨hall2 _ (List.mem_of_getElem? (VT.out hl2 0 (by decide))),Nat.le_trans (jH 47 c _ (List.mem_of_getElem? (VT.out hl2 0 (by decide)))) Vv.out⟩) (show Vec.jo (j6 s 1)=true∧(j6 s 1).length≤1000000 from⟨hall2 _ (List.mem_of_getElem? (VT.out hl2 1 (by decide))),Nat.le_trans (jH 47 c _ (List.mem_of_getElem? (VT.out hl2 1 (by decide)))) Vv.out⟩) (show ∀W,Kept w2 W→W.cell? ⟨g2,0,none⟩=some (.string (bytes (j6 s 0)))∧W.cell? ⟨g2,1,none⟩=some (.string (bytes (j6 s 1))) from fun W k=>⟨cell_later k (hc2 0 _ (VT.out hl2 0 (by decide))),cell_later k (hc2 1 _ (VT.out hl2 1 (by decide)))⟩);clear hbad hok hc2 hl2 hall2 VT;obtain⟨n0,hn0⟩:=eX (j6 s 0)
    obtain⟨n1,hn1⟩:=eX (j6 s 1)
    rw[hn0] at UW Vi VG VH;rw[hn1] at UX Vi VG VH;clear hn0 hn1;have Uz:=lH (fun W (k:Kept w W) (h:zt W bw bc r)=>ZH bw bc r W (HE.out.kept k).toEnv.base h Uu.out);unfold qC at Uz;rw[VQ.out] at Uz;obtain⟨f2,hf2⟩:=eX (j3 rs)
    have UY:=lH hf2;rw[hf2] at VN;clear hf2;go_wp2_with fail
    refine(Uz.out _ K.out VS.out).mono ?_;rintro e w3 ⟨hok,hbad,kk⟩;obtain⟨VR,VS,HC,Vi,VU,K⟩:=lH6 (VR.out.kept kk) (VS.out.kept kk) (fun W (k:Kept w3 W)=>HC.out W (kk.trans k)) (fun W (k:Kept w3 W)=>Vi.out W (kk.trans k)) (Nat.le_trans TV.out kk.size) (K.out.trans kk);clear kk Uz
    cases f2 with
    | false =>
     obtain rfl:=hbad UY.out;have HV:=lH (show (jc s).1=2 by unfold jc;rw[VN.out];rfl);clear hbad hok;go_wp2;exact⟨rfl,jE.bad HV.out (by decide) K.out⟩
    | true =>
     obtain⟨v9,rfl⟩:=hok UY.out;clear hbad hok;have Vw:=lH (fun W (k:Kept w W)=>Jb n0 W (HE.out.kept k).toEnv UW.out.2 UW.out.1);have Vr:=lH (fun W (k:Kept w W)=>Jb n1 W (HE.out.kept k).toEnv UX.out.2 UX.out.1);unfold Zg at Vw Vr;have Vk:=lH (fun W (k:Kept w3 W)=>Xs bw bc r W (HE.out.kept (K.out.trans k)).toEnv (VS.out.kept k) Uu.out (by rw[VQ.out];exact UY.out));unfold qH at Vk;rw[VQ.out] at Vk;obtain⟨p0,hp0⟩:=eX (inQ n0)
     rw[hp0] at VH Vw;have Um:=lH (show p0=true→(Vec.valL n0:Int)≤9223372036854775807 from fun h=>by rw[←hp0] at h;unfold inQ at h;have:=of_decide_eq_true h;omega);clear hp0;obtain⟨p1,hp1⟩:=eX (inQ n1)
     rw[hp1] at VH Vr;have Un:=lH (show p1=true→(Vec.valL n1:Int)≤9223372036854775807 from fun h=>by rw[←hp1] at h;unfold inQ at h;have:=of_decide_eq_true h;omega);clear hp1;obtain⟨p2,hp2⟩:=eX (zh rs)
     rw[hp2] at VH Vk;clear hp2;obtain⟨u0,hu0⟩:=eX (Vec.valL n0)
     rw[hu0] at VG Vw Um;clear hu0;obtain⟨u1,hu1⟩:=eX (Vec.valL n1)
     rw[hu1] at VG Vr Un;clear hu1;obtain⟨rl,hrl⟩:=eX ((rs.map jI).take 9)
     rw[hrl] at VG Vk;clear hrl;go_upto_region 4 with fail
     by_cases hnum:Zz s=true
     · skip;obtain⟨rfl,rfl,rfl⟩:p0=true∧p1=true∧p2=true:=by
        have h:=hnum;rw[VH.out] at h;simpa using h
       have V2:=lH (show ∀W,Kept w W→Calls Tryz.prog 72 #[.string (bytes n0)] W (fun e w'=>e=.returned (.int .i64 (u0:Int))∧Kept W w') from fun W k=>(Vw.out W k).mono fun e w' h=>⟨by simpa using h.1,h.2⟩);have VO:=lH (show ∀W,Kept w W→Calls Tryz.prog 72 #[.string (bytes n1)] W (fun e w'=>e=.returned (.int .i64 (u1:Int))∧Kept W w') from fun W k=>(Vr.out W k).mono fun e w' h=>⟨by simpa using h.1,h.2⟩);have VI:=lH (fun W (k:Kept w3 W)=>(Vk.out W k).mono fun e w' h=>(show ∃av n9 cv,e=.returned (.slice av n9 cv)∧Reads jr w' (.slice av n9 cv) rl∧(∀b off sp,av=some ⟨b,off,sp⟩→W.heap.size≤b∧b<w'.heap.size)∧Kept W w' by
        obtain⟨v,e1,ho⟩:=h.1 rfl;obtain⟨a,cap,rfl,h1,h2,h3⟩:=ho.at_;exact⟨a,_,cap,e1,⟨a,cap,rfl,h1,h2,h3⟩,fun b off sp e=>ho.1.lt b (by subst e;rfl),h.2.2⟩))
       clear Vw Vr Vk;have Uo:=lH hnum;clear hnum;have U0:=lH (Um.out rfl);have U1:=lH (Un.out rfl);go_cut [6] from 18 to 28 (fun s6 wx=>∃q av n9 cv,s6=.pointer (some ⟨q,0,none⟩)∧Hid (js q [.string ⟨#[]⟩,.slice none 0 0,.slice av n9 cv,.int .i64 (u0:Int),.int .i64 (u1:Int)] wx∧Reads jr wx (.slice av n9 cv) rl∧(∀b off sp,av=some ⟨b,off,sp⟩→b≠q∧w3.heap.size≤b)∧Kept w3 wx∧w3.heap.size≤q))
       case first =>
        have J:=lH (Kept.drew w3);refine wp_region_held_drew (S:=fun W=>Kept w3 W) (by kernel_rfl) (J.out) (fun hHeld=>?_);obtain⟨wd,hwd⟩:=eX (w3.drew)
        rw[hwd] at J hHeld;try rw[hwd]
        clear hwd;refine tR 0 rfl (by kernel_rfl) (fun _ _ _=>id) (Or.inl ⟨by rfl,(by intro W hSw;obtain⟨o0,o1⟩:=Vi.out _ hSw;go_simp<;>with_reducible rfl)⟩) ‹_› ?_;try simp only[nA,nB,nC,nD,nE]
        refine tR 1 rfl (by kernel_rfl) (fun _ _ _=>id) (Or.inl ⟨by rfl,(by intro W hSw;obtain⟨o0,o1⟩:=Vi.out _ hSw;go_simp<;>with_reducible rfl)⟩) ‹_› ?_;try simp only[nA,nB,nC,nD,nE]
        refine tR 2 rfl (by kernel_rfl) (fun _ _ _=>id) (Or.inl ⟨by rfl,(by intro W hSw;obtain⟨o0,o1⟩:=Vi.out _ hSw;go_simp<;>with_reducible rfl)⟩) ‹_› ?_;try simp only[nA,nB,nC,nD,nE]
        refine tR 4 rfl (by kernel_rfl) (fun _ _ _=>id) (Or.inl ⟨by rfl,(by intro W hSw;obtain⟨o0,o1⟩:=Vi.out _ hSw;go_simp<;>with_reducible rfl)⟩) ‹_› ?_;try simp only[nA,nB,nC,nD,nE]
        refine tR 5 rfl (by kernel_rfl) (fun _ _ _=>id) (Or.inl ⟨by rfl,(by intro W hSw;obtain⟨o0,o1⟩:=Vi.out _ hSw;go_simp<;>with_reducible rfl)⟩) ‹_› ?_;try simp only[nA,nB,nC,nD,nE]
        refine tR 6 rfl (by kernel_rfl) (fun _ _ _=>id) (Or.inl ⟨by rfl,(by intro W hSw;obtain⟨o0,o1⟩:=Vi.out _ hSw;go_simp<;>with_reducible rfl)⟩) ‹_› ?_;try simp only[nA,nB,nC,nD,nE]
        refine tR 8 rfl (by kernel_rfl) (fun _ _ _=>id) (Or.inl ⟨by rfl,(by intro W hSw;obtain⟨o0,o1⟩:=Vi.out _ hSw;go_simp<;>with_reducible rfl)⟩) ‹_› ?_;try simp only[nA,nB,nC,nD,nE]
        refine wpAnyH_ready  (rs:=[3,11]) (by kernel_rfl) (by simp) (AllReadyH.cons  (by rw[List.getElem?_toArray];exact rfl) (fun K9 Ky=>?_) (AllReadyH.cons  (by rw[List.getElem?_toArray];exact rfl) (fun K9 Ky=>?_) AllReadyH.nil))
        · skip;go_simp;refine(V2.out _ (K.out.trans J.out)).mono ?_;rintro e9 ww1 ⟨rfl,kk⟩;have J:=lH (J.out.trans kk);clear kk;refine Ky.out _ _ (J.out) (fun _=>?_);clear Ky K9;try simp only[nA,nB,nC,nD,nE]
          refine wpAnyH_ready  (rs:=[7,11]) (by kernel_rfl) (by simp) (AllReadyH.cons  (by rw[List.getElem?_toArray];exact rfl) (fun K9 Ky=>?_) (AllReadyH.cons  (by rw[List.getElem?_toArray];exact rfl) (fun K9 Ky=>?_) AllReadyH.nil))
          · skip;go_simp;refine(VO.out _ (K.out.trans J.out)).mono ?_;rintro e9 ww3 ⟨rfl,kk⟩;have J:=lH (J.out.trans kk);clear kk;refine Ky.out _ _ (J.out) (fun _=>?_);clear Ky K9;try simp only[nA,nB,nC,nD,nE]
            refine wpAnyH_ready  (rs:=[9,11]) (by kernel_rfl) (by simp) (AllReadyH.cons  (by rw[List.getElem?_toArray];exact rfl) (fun K9 Ky=>?_) (AllReadyH.cons  (by rw[List.getElem?_toArray];exact rfl) (fun K9 Ky=>?_) AllReadyH.nil))
            · skip;go_simp;refine(VI.out _ J.out).mono ?_;rintro e9 ww5 ⟨av,n9,cv,rfl,rd,rb,kk⟩;obtain⟨RB,RL,RD,J⟩:=lH4 (show ∀b off sp,av=some ⟨b,off,sp⟩→True∧w3.heap.size≤b from fun b off sp e=>⟨trivial,Nat.le_trans J.out.size (rb b off sp e).1⟩) (fun b off sp e=>(rb b off sp e).2) rd (J.out.trans kk);clear rd rb;clear kk;refine Ky.out _ _ (J.out) (fun _=>?_);clear Ky K9;try simp only[nA,nB,nC,nD,nE]
              refine tR 10 rfl (by kernel_rfl) (fun _ _ _=>id) (Or.inl ⟨by rfl,(by intro W hSw;obtain⟨o0,o1⟩:=Vi.out _ hSw;go_simp<;>with_reducible rfl)⟩) ‹_› ?_;try simp only[nA,nB,nC,nD,nE]
              refine rd1 11 fun K9 Ky=>?_;go_simp;have kk:=ja ww5 (.cells #[.string ⟨#[]⟩,.slice none 0 0,.slice none 0 0,.int .i64 0,.int .i64 0] 26);have hn:=jl ww5 (.string ⟨#[]⟩) [.slice none 0 0,.slice none 0 0,.int .i64 0,.int .i64 0] 26 _ (Kept.refl _);have hp9:w3.heap.size≤ww5.heap.size:=J.out.size;have RB:=lH (show ∀b off sp,av=some ⟨b,off,sp⟩→b≠ww5.heap.size∧w3.heap.size≤b from fun b off sp e=>⟨by have:=RL.out b off sp e;omega,(RB.out b off sp e).2⟩);obtain⟨q,hqe⟩:=eX (ww5.heap.size)
              rw[hqe] at hn hp9 RB ⊢;obtain⟨ww7,hnw⟩:=eX (ww5.alloc (.cells #[.string ⟨#[]⟩,.slice none 0 0,.slice none 0 0,.int .i64 0,.int .i64 0] 26))
              rw[hnw] at hn kk ⊢;clear hnw hqe;obtain⟨J,QA,Vb,RD⟩:=lH4 (J.out.trans kk) hn hp9 (RD.out.kept kk);clear hn kk hp9;refine Ky.out _ _ (J.out) (fun _=>?_);clear Ky K9;try simp only[nA,nB,nC,nD,nE]
              refine rd1 12 fun K9 Ky=>?_;obtain⟨z0,z1,z2,z3,z4⟩:=QA.out.at5;have y0:=QA.out.free 0;have y1:=QA.out.free 1;have y2:=QA.out.free 2;have y3:=QA.out.free 3;have y4:=QA.out.free 4;go_simp;have PP:=lH (zL (vs:=[.string ⟨#[]⟩,.slice none 0 0,.slice av n9 cv,.int .i64 (u0:Int),.int .i64 (u1:Int)]) QA.out rfl);obtain⟨ww9,hnw⟩:=eX (ww7.setCells q 0 [.string ⟨#[]⟩,.slice none 0 0,.slice av n9 cv,.int .i64 (u0:Int),.int .i64 (u1:Int)])
              have hnw2:(((((ww7.setCell ⟨q,0,none⟩ (.string ⟨#[]⟩)).setCell ⟨q,1,none⟩ (.slice none 0 0)).setCell ⟨q,2,none⟩ (.slice av n9 cv)).setCell ⟨q,3,none⟩ (.int .i64 (u0:Int))).setCell ⟨q,4,none⟩ (.int .i64 (u1:Int)))=ww9:=hnw;rw[hnw] at PP;rw[hnw2];clear hnw hnw2 z0 y0 z1 y1 z2 y2 z3 y3 z4 y4;obtain⟨J,QA,RD⟩:=lH3 (show Kept w3 ww9 from PP.out.below _ _ Vb.out J.out) PP.out.cells (RD.out.far PP.out.size (fun b o sp e=>PP.out.far b (RB.out b o sp e).1));clear PP;refine Ky.out _ _ (J.out) (fun _=>?_);clear Ky K9;try simp only[nA,nB,nC,nD,nE]
              refine wpAnyH_done (by kernel_rfl) ?_ _;go_wp2;go_meet
              case rel=>exact⟨q,av,n9,cv,rfl,lH ⟨QA.out,RD.out,RB.out,J.out,Vb.out⟩⟩
            · skip;go_simp;have kk:=ja ww3 (.cells #[.string ⟨#[]⟩,.slice none 0 0,.slice none 0 0,.int .i64 0,.int .i64 0] 26);have hn:=jl ww3 (.string ⟨#[]⟩) [.slice none 0 0,.slice none 0 0,.int .i64 0,.int .i64 0] 26 _ (Kept.refl _);have hp9:w3.heap.size≤ww3.heap.size:=J.out.size;obtain⟨q,hqe⟩:=eX (ww3.heap.size)
              rw[hqe] at hn hp9 ⊢;obtain⟨ww11,hnw⟩:=eX (ww3.alloc (.cells #[.string ⟨#[]⟩,.slice none 0 0,.slice none 0 0,.int .i64 0,.int .i64 0] 26))
              rw[hnw] at hn kk ⊢;clear hnw hqe;obtain⟨J,QA,Vb⟩:=lH3 (J.out.trans kk) hn hp9;clear hn kk hp9;refine Ky.out _ _ (J.out) (fun _=>?_);clear Ky K9;try simp only[nA,nB,nC,nD,nE]
              refine rd1 9 fun K9 Ky=>?_;go_simp;refine(VI.out _ J.out).mono ?_;rintro e9 ww13 ⟨av,n9,cv,rfl,rd,rb,kk⟩;obtain⟨RB,RL,RD,J⟩:=lH4 (show ∀b off sp,av=some ⟨b,off,sp⟩→b≠q∧w3.heap.size≤b from fun b off sp e=>⟨by have:=(rb b off sp e).1;have:=QA.out.lt;omega,Nat.le_trans J.out.size (rb b off sp e).1⟩) (fun b off sp e=>(rb b off sp e).2) rd (J.out.trans kk);clear rd rb;have QA:=lH (QA.out.kept kk);clear kk;refine Ky.out _ _ (J.out) (fun _=>?_);clear Ky K9;try simp only[nA,nB,nC,nD,nE]
              refine tR 10 rfl (by kernel_rfl) (fun _ _ _=>id) (Or.inl ⟨by rfl,(by intro W hSw;obtain⟨o0,o1⟩:=Vi.out _ hSw;go_simp<;>with_reducible rfl)⟩) ‹_› ?_;try simp only[nA,nB,nC,nD,nE]
              refine rd1 12 fun K9 Ky=>?_;obtain⟨z0,z1,z2,z3,z4⟩:=QA.out.at5;have y0:=QA.out.free 0;have y1:=QA.out.free 1;have y2:=QA.out.free 2;have y3:=QA.out.free 3;have y4:=QA.out.free 4;go_simp;have PP:=lH (zL (vs:=[.string ⟨#[]⟩,.slice none 0 0,.slice av n9 cv,.int .i64 (u0:Int),.int .i64 (u1:Int)]) QA.out rfl);obtain⟨ww15,hnw⟩:=eX (ww13.setCells q 0 [.string ⟨#[]⟩,.slice none 0 0,.slice av n9 cv,.int .i64 (u0:Int),.int .i64 (u1:Int)])
              have hnw2:(((((ww13.setCell ⟨q,0,none⟩ (.string ⟨#[]⟩)).setCell ⟨q,1,none⟩ (.slice none 0 0)).setCell ⟨q,2,none⟩ (.slice av n9 cv)).setCell ⟨q,3,none⟩ (.int .i64 (u0:Int))).setCell ⟨q,4,none⟩ (.int .i64 (u1:Int)))=ww15:=hnw;rw[hnw] at PP;rw[hnw2];clear hnw hnw2 z0 y0 z1 y1 z2 y2 z3 y3 z4 y4;obtain⟨J,QA,RD⟩:=lH3 (show Kept w3 ww15 from PP.out.below _ _ Vb.out J.out) PP.out.cells (RD.out.far PP.out.size (fun b o sp e=>PP.out.far b (RB.out b o sp e).1));clear PP;refine Ky.out _ _ (J.out) (fun _=>?_);clear Ky K9;try simp only[nA,nB,nC,nD,nE]
              refine wpAnyH_done (by kernel_rfl) ?_ _;go_wp2;go_meet
              case rel=>exact⟨q,av,n9,cv,rfl,lH ⟨QA.out,RD.out,RB.out,J.out,Vb.out⟩⟩
          · skip;go_simp;have kk:=ja ww1 (.cells #[.string ⟨#[]⟩,.slice none 0 0,.slice none 0 0,.int .i64 0,.int .i64 0] 26);have hn:=jl ww1 (.string ⟨#[]⟩) [.slice none 0 0,.slice none 0 0,.int .i64 0,.int .i64 0] 26 _ (Kept.refl _);have hp9:w3.heap.size≤ww1.heap.size:=J.out.size;obtain⟨q,hqe⟩:=eX (ww1.heap.size)
            rw[hqe] at hn hp9 ⊢;obtain⟨ww17,hnw⟩:=eX (ww1.alloc (.cells #[.string ⟨#[]⟩,.slice none 0 0,.slice none 0 0,.int .i64 0,.int .i64 0] 26))
            rw[hnw] at hn kk ⊢;clear hnw hqe;obtain⟨J,QA,Vb⟩:=lH3 (J.out.trans kk) hn hp9;clear hn kk hp9;refine Ky.out _ _ (J.out) (fun _=>?_);clear Ky K9;try simp only[nA,nB,nC,nD,nE]
            refine rd1 7 fun K9 Ky=>?_;go_simp;refine(VO.out _ (K.out.trans J.out)).mono ?_;rintro e9 ww19 ⟨rfl,kk⟩;have J:=lH (J.out.trans kk);have QA:=lH (QA.out.kept kk);clear kk;refine Ky.out _ _ (J.out) (fun _=>?_);clear Ky K9;try simp only[nA,nB,nC,nD,nE]
            refine rd1 9 fun K9 Ky=>?_;go_simp;refine(VI.out _ J.out).mono ?_;rintro e9 ww21 ⟨av,n9,cv,rfl,rd,rb,kk⟩;obtain⟨RB,RL,RD,J⟩:=lH4 (show ∀b off sp,av=some ⟨b,off,sp⟩→b≠q∧w3.heap.size≤b from fun b off sp e=>⟨by have:=(rb b off sp e).1;have:=QA.out.lt;omega,Nat.le_trans J.out.size (rb b off sp e).1⟩) (fun b off sp e=>(rb b off sp e).2) rd (J.out.trans kk);clear rd rb;have QA:=lH (QA.out.kept kk);clear kk;refine Ky.out _ _ (J.out) (fun _=>?_);clear Ky K9;try simp only[nA,nB,nC,nD,nE]
            refine tR 10 rfl (by kernel_rfl) (fun _ _ _=>id) (Or.inl ⟨by rfl,(by intro W hSw;obtain⟨o0,o1⟩:=Vi.out _ hSw;go_simp<;>with_reducible rfl)⟩) ‹_› ?_;try simp only[nA,nB,nC,nD,nE]
            refine rd1 12 fun K9 Ky=>?_;obtain⟨z0,z1,z2,z3,z4⟩:=QA.out.at5;have y0:=QA.out.free 0;have y1:=QA.out.free 1;have y2:=QA.out.free 2;have y3:=QA.out.free 3;have y4:=QA.out.free 4;go_simp;have PP:=lH (zL (vs:=[.string ⟨#[]⟩,.slice none 0 0,.slice av n9 cv,.int .i64 (u0:Int),.int .i64 (u1:Int)]) QA.out rfl);obtain⟨ww23,hnw⟩:=eX (ww21.setCells q 0 [.string ⟨#[]⟩,.slice none 0 0,.slice av n9 cv,.int .i64 (u0:Int),.int .i64 (u1:Int)])
            have hnw2:(((((ww21.setCell ⟨q,0,none⟩ (.string ⟨#[]⟩)).setCell ⟨q,1,none⟩ (.slice none 0 0)).setCell ⟨q,2,none⟩ (.slice av n9 cv)).setCell ⟨q,3,none⟩ (.int .i64 (u0:Int))).setCell ⟨q,4,none⟩ (.int .i64 (u1:Int)))=ww23:=hnw;rw[hnw] at PP;rw[hnw2];clear hnw hnw2 z0 y0 z1 y1 z2 y2 z3 y3 z4 y4;obtain⟨J,QA,RD⟩:=lH3 (show Kept w3 ww23 from PP.out.below _ _ Vb.out J.out) PP.out.cells (RD.out.far PP.out.size (fun b o sp e=>PP.out.far b (RB.out b o sp e).1));clear PP;refine Ky.out _ _ (J.out) (fun _=>?_);clear Ky K9;try simp only[nA,nB,nC,nD,nE]
            refine wpAnyH_done (by kernel_rfl) ?_ _;go_wp2;go_meet
            case rel=>exact⟨q,av,n9,cv,rfl,lH ⟨QA.out,RD.out,RB.out,J.out,Vb.out⟩⟩
        · skip;go_simp;have kk:=ja wd (.cells #[.string ⟨#[]⟩,.slice none 0 0,.slice none 0 0,.int .i64 0,.int .i64 0] 26);have hn:=jl wd (.string ⟨#[]⟩) [.slice none 0 0,.slice none 0 0,.int .i64 0,.int .i64 0] 26 _ (Kept.refl _);have hp9:w3.heap.size≤wd.heap.size:=J.out.size;obtain⟨q,hqe⟩:=eX (wd.heap.size)
          rw[hqe] at hn hp9 ⊢;obtain⟨ww25,hnw⟩:=eX (wd.alloc (.cells #[.string ⟨#[]⟩,.slice none 0 0,.slice none 0 0,.int .i64 0,.int .i64 0] 26))
          rw[hnw] at hn kk ⊢;clear hnw hqe;obtain⟨J,QA,Vb⟩:=lH3 (J.out.trans kk) hn hp9;clear hn kk hp9;refine Ky.out _ _ (J.out) (fun _=>?_);clear Ky K9;try simp only[nA,nB,nC,nD,nE]
          refine rd1 3 fun K9 Ky=>?_;go_simp;refine(V2.out _ (K.out.trans J.out)).mono ?_;rintro e9 ww27 ⟨rfl,kk⟩;have J:=lH (J.out.trans kk);have QA:=lH (QA.out.kept kk);clear kk;refine Ky.out _ _ (J.out) (fun _=>?_);clear Ky K9;try simp only[nA,nB,nC,nD,nE]
          refine rd1 7 fun K9 Ky=>?_;go_simp;refine(VO.out _ (K.out.trans J.out)).mono ?_;rintro e9 ww29 ⟨rfl,kk⟩;have J:=lH (J.out.trans kk);have QA:=lH (QA.out.kept kk);clear kk;refine Ky.out _ _ (J.out) (fun _=>?_);clear Ky K9;try simp only[nA,nB,nC,nD,nE]
          refine rd1 9 fun K9 Ky=>?_;go_simp;refine(VI.out _ J.out).mono ?_;rintro e9 ww31 ⟨av,n9,cv,rfl,rd,rb,kk⟩;obtain⟨RB,RL,RD,J⟩:=lH4 (show ∀b off sp,av=some ⟨b,off,sp⟩→b≠q∧w3.heap.size≤b from fun b off sp e=>⟨by have:=(rb b off sp e).1;have:=QA.out.lt;omega,Nat.le_trans J.out.size (rb b off sp e).1⟩) (fun b off sp e=>(rb b off sp e).2) rd (J.out.trans kk);clear rd rb;have QA:=lH (QA.out.kept kk);clear kk;refine Ky.out _ _ (J.out) (fun _=>?_);clear Ky K9;try simp only[nA,nB,nC,nD,nE]
          refine tR 10 rfl (by kernel_rfl) (fun _ _ _=>id) (Or.inl ⟨by rfl,(by intro W hSw;obtain⟨o0,o1⟩:=Vi.out _ hSw;go_simp<;>with_reducible rfl)⟩) ‹_› ?_;try simp only[nA,nB,nC,nD,nE]
          refine rd1 12 fun K9 Ky=>?_;obtain⟨z0,z1,z2,z3,z4⟩:=QA.out.at5;have y0:=QA.out.free 0;have y1:=QA.out.free 1;have y2:=QA.out.free 2;have y3:=QA.out.free 3;have y4:=QA.out.free 4;go_simp;have PP:=lH (zL (vs:=[.string ⟨#[]⟩,.slice none 0 0,.slice av n9 cv,.int .i64 (u0:Int),.int .i64 (u1:Int)]) QA.out rfl);obtain⟨ww33,hnw⟩:=eX (ww31.setCells q 0 [.string ⟨#[]⟩,.slice none 0 0,.slice av n9 cv,.int .i64 (u0:Int),.int .i64 (u1:Int)])
          have hnw2:(((((ww31.setCell ⟨q,0,none⟩ (.string ⟨#[]⟩)).setCell ⟨q,1,none⟩ (.slice none 0 0)).setCell ⟨q,2,none⟩ (.slice av n9 cv)).setCell ⟨q,3,none⟩ (.int .i64 (u0:Int))).setCell ⟨q,4,none⟩ (.int .i64 (u1:Int)))=ww33:=hnw;rw[hnw] at PP;rw[hnw2];clear hnw hnw2 z0 y0 z1 y1 z2 y2 z3 y3 z4 y4;obtain⟨J,QA,RD⟩:=lH3 (show Kept w3 ww33 from PP.out.below _ _ Vb.out J.out) PP.out.cells (RD.out.far PP.out.size (fun b o sp e=>PP.out.far b (RB.out b o sp e).1));clear PP;refine Ky.out _ _ (J.out) (fun _=>?_);clear Ky K9;try simp only[nA,nB,nC,nD,nE]
          refine wpAnyH_done (by kernel_rfl) ?_ _;go_wp2;go_meet
          case rel=>exact⟨q,av,n9,cv,rfl,lH ⟨QA.out,RD.out,RB.out,J.out,Vb.out⟩⟩
       case rest =>
        obtain⟨q,av,n9,cv,rfl,hx⟩:=hcut;obtain⟨w4,hw4⟩:∃W,W=wc:=⟨_,rfl⟩
        subst hw4;obtain⟨hqa,hrd,hrb,hj,hqp⟩:=hx.out;obtain⟨QA,RD,RB,J,Vb⟩:=lH5 hqa hrd hrb hj hqp;clear hx hqa hrd hrb hj hqp V2 VO VI;obtain⟨c0,c1,c2⟩:=HC.out _ J.out;have Tu:=lH (fun W=>Z3 (bytes a) W (by rw[jk];have:=V9.out;omega));go_wp2_with fail
        refine(Tu.out _).mono ?_;rintro e w5 ⟨rfl,kk⟩;obtain⟨J,QA,RD⟩:=lH3 (J.out.trans kk) (QA.out.kept kk) (RD.out.kept kk);clear kk c0 c1 c2 Tu;have x0:=QA.out.at_ 0 _ rfl;have f0:=QA.out.free 0;obtain⟨QA,J,RD⟩:=lH3 (show js q [.string (bytes a),.slice none 0 0,.slice av n9 cv,.int .i64 (u0:Int),.int .i64 (u1:Int)] (w5.setCell ⟨q,0,none⟩ (.string (bytes a))) from QA.out.set (j:=0) (by simp)) (show Kept w3 (w5.setCell ⟨q,0,none⟩ (.string (bytes a))) from J.out.setCell (p:=⟨q,0,none⟩) Vb.out _) (RD.out.far (w':=(w5.setCell ⟨q,0,none⟩ (.string (bytes a)))) (by simp[World.setCell]) (fun b o sp e=>Below.heap_setCell w5 ⟨q,0,none⟩ _ b (show b≠q from(RB.out b o sp e).1)));obtain⟨c0,c1,c2⟩:=HC.out _ J.out;obtain⟨⟨e1,m1⟩,hpv⟩:∃x,Vec.zk b=x:=⟨_,rfl⟩
        have Tv:=lH hpv;have UA:=lH (fun W (k:Kept w3 W)=>(Vec.qU b W (HE.out.kept (K.out.trans k)).toEnv Vx.out).mono fun _ _=>Vec.Je.spelt);rw[hpv] at UA VG;clear hpv;dsimp only at UA VG;go_wp2_with fail
        obtain⟨w6,hw6⟩:=eX ((w5.setCell ⟨q,0,none⟩ (.string (bytes a))))
        rw[hw6] at QA J RD c0 c1 c2 ⊢;clear hw6 x0 f0 c0 c1 c2;refine(UA.out _ J.out).mono ?_;rintro e w7 ⟨a1,m9,d1,rfl,hru,hgu,kk⟩;obtain⟨RU,RUB,QA,RD,J⟩:=lH5 hru (show ∀b off sp,a1=some ⟨b,off,sp⟩→b≠q∧w3.heap.size≤b from fun b off sp e=>⟨by have:=(hgu b off sp e).1;have:=QA.out.lt;omega,Nat.le_trans J.out.size (hgu b off sp e).1⟩) (QA.out.kept kk) (RD.out.kept kk) (J.out.trans kk);clear hru hgu kk UA;go_wp2_with fail
        by_cases z1:e1=0
        · subst z1;refine(qT _ _).mono ?_;rintro e w9 ⟨rfl,rfl⟩;have x0:=QA.out.at_ 1 _ rfl;have f0:=QA.out.free 1;obtain⟨QA,J,RD,RU⟩:=lH4 (show js q [.string (bytes a),.slice a1 m9 d1,.slice av n9 cv,.int .i64 (u0:Int),.int .i64 (u1:Int)] (w7.setCell ⟨q,1,none⟩ (.slice a1 m9 d1)) from QA.out.set (j:=1) (by simp)) (show Kept w3 (w7.setCell ⟨q,1,none⟩ (.slice a1 m9 d1)) from J.out.setCell (p:=⟨q,1,none⟩) Vb.out _) (RD.out.far (w':=(w7.setCell ⟨q,1,none⟩ (.slice a1 m9 d1))) (by simp[World.setCell]) (fun b o sp e=>Below.heap_setCell w7 ⟨q,1,none⟩ _ b (show b≠q from(RB.out b o sp e).1))) (RU.out.far (w':=(w7.setCell ⟨q,1,none⟩ (.slice a1 m9 d1))) (by simp[World.setCell]) (fun b o sp e=>Below.heap_setCell w7 ⟨q,1,none⟩ _ b (show b≠q from(RUB.out b o sp e).1)));go_upto_region 7 with fail
          obtain⟨w8,hw8⟩:=eX ((w7.setCell ⟨q,1,none⟩ (.slice a1 m9 d1)))
          rw[hw8] at QA J RD RU ⊢;clear hw8 x0 f0;have Va:=lH (show jW w8 (.slice a1 m9 d1) (.slice av n9 cv) ⟨bytes a,m1,rl,(u0:Int),(u1:Int)⟩ from⟨by rw[jk];have:=V9.out;unfold maxLen;omega,RU.out,RD.out,⟨by dsimp only;omega,U0.out⟩,⟨by dsimp only;omega,U1.out⟩⟩);have UZ:=lH (show jc s=if jK ⟨bytes a,m1,rl,(u0:Int),(u1:Int)⟩≠0 then (jK ⟨bytes a,m1,rl,(u0:Int),(u1:Int)⟩,Lad.zero) else (0,⟨bytes a,m1,rl,(u0:Int),(u1:Int)⟩) by
           unfold jc;rw[VN.out,Uo.out,VL.out,Tv.out,VG.out];simp)
          obtain⟨ck,hck⟩:=eX (jK ⟨bytes a,m1,rl,(u0:Int),(u1:Int)⟩)
          have VC:=lH (fun W (k:Kept w8 W)=>Jq ⟨bytes a,m1,rl,(u0:Int),(u1:Int)⟩ (.slice a1 m9 d1) (.slice av n9 cv) W (Va.out.kept k));rw[hck] at VC UZ;unfold JO at VC;dsimp only at VC;clear hck;have UB:=lH (show ∀W,Kept w8 W→W.cell? ⟨q,0,none⟩=some (.string (bytes a))∧W.cell? ⟨q,1,none⟩=some (.slice a1 m9 d1)∧W.cell? ⟨q,2,none⟩=some (.slice av n9 cv)∧W.cell? ⟨q,3,none⟩=some (.int .i64 (u0:Int))∧W.cell? ⟨q,4,none⟩=some (.int .i64 (u1:Int)) from fun W k=>(js.kept QA.out k).at5);have TW:=lH (fun W (k:Kept w8 W)=>js.kept VR.out (J.out.trans k));have hq0q:q≠q0:=by have:=Vb.out;have:=VU.out;omega
          have U2:=lH hq0q;clear hq0q;have J7:=lH (Kept.drew w8);refine wp_region_held_drew (S:=fun W=>W.cell? ⟨q,0,none⟩=some (.string (bytes a))∧W.cell? ⟨q,1,none⟩=some (.slice a1 m9 d1)∧W.cell? ⟨q,2,none⟩=some (.slice av n9 cv)∧W.cell? ⟨q,3,none⟩=some (.int .i64 (u0:Int))∧W.cell? ⟨q,4,none⟩=some (.int .i64 (u1:Int))) (by kernel_rfl) (UB.out _ J7.out) (fun hHeld=>?_);obtain⟨wd,hwd⟩:=eX (w8.drew)
          rw[hwd] at J7 hHeld;try rw[hwd]
          clear hwd;refine tR 0 rfl (by kernel_rfl) (fun _ _ _=>id) (Or.inl ⟨by rfl,by rintro W ⟨o0,o1,o2,o3,o4⟩;go_simp<;>with_reducible rfl⟩) ‹_› ?_;try simp only[nA,nB,nC,nD,nE]
          refine tR 1 rfl (by kernel_rfl) (fun _ _ _=>id) (Or.inl ⟨by rfl,by rintro W ⟨o0,o1,o2,o3,o4⟩;go_simp<;>with_reducible rfl⟩) ‹_› ?_;try simp only[nA,nB,nC,nD,nE]
          refine rd1 2 fun K9 Ky=>?_;go_simp;refine(VC.out _ J7.out).mono ?_;rintro e y1 ⟨rfl,kk⟩;have J7:=lH (J7.out.trans kk);clear kk;refine Ky.out _ _ (UB.out _ J7.out) (fun _=>?_);clear Ky K9;try simp only[nA,nB,nC,nD,nE]
          by_cases z2:ck=0
          · subst z2;refine rd1 3 fun K9 Ky=>?_;go_simp;refine(XX _ _ _ _ _ _ _ _ _ _).mono ?_;rintro e y2 ⟨rfl,kk⟩;have J7:=lH (J7.out.trans kk);clear kk;refine Ky.out _ _ (UB.out _ J7.out) (fun _=>?_);clear Ky K9;try simp only[nA,nB,nC,nD,nE]
            have V3:=lH (TW.out _ J7.out);obtain⟨z0,z1,z2,z3,z4⟩:=V3.out.at5;have g0_:=V3.out.free 0;have g1_:=V3.out.free 1;have g2_:=V3.out.free 2;have g3_:=V3.out.free 3;have g4_:=V3.out.free 4;have P:=lH (zL (vs:=[.string (bytes a),.slice a1 m9 d1,.slice av n9 cv,.int .i64 (u0:Int),.int .i64 (u1:Int)]) V3.out rfl);refine rd1 4 fun K9 Ky=>?_;go_simp;obtain⟨WE,hWE⟩:=eX (y2.setCells q0 0 [.string (bytes a),.slice a1 m9 d1,.slice av n9 cv,.int .i64 (u0:Int),.int .i64 (u1:Int)])
            have hWE2:(((((y2.setCell ⟨q0,0,none⟩ (.string (bytes a))).setCell ⟨q0,1,none⟩ (.slice a1 m9 d1)).setCell ⟨q0,2,none⟩ (.slice av n9 cv)).setCell ⟨q0,3,none⟩ (.int .i64 (u0:Int))).setCell ⟨q0,4,none⟩ (.int .i64 (u1:Int)))=WE:=hWE;rw[hWE] at P;try rw[hWE2]
            have TX:=lH (show WE.cell? ⟨q,0,none⟩=some (.string (bytes a))∧WE.cell? ⟨q,1,none⟩=some (.slice a1 m9 d1)∧WE.cell? ⟨q,2,none⟩=some (.slice av n9 cv)∧WE.cell? ⟨q,3,none⟩=some (.int .i64 (u0:Int))∧WE.cell? ⟨q,4,none⟩=some (.int .i64 (u1:Int)) by
             have e:∀j,WE.cell? ⟨q,j,none⟩=y2.cell? ⟨q,j,none⟩:=fun j=>World.cell?_of_block (a:=⟨q,j,none⟩) (P.out.far q U2.out);simp only[e];exact UB.out _ J7.out)
            clear hWE hWE2 z0 z1 z2 z3 z4 g0_ g1_ g2_ g3_ g4_;refine Ky.out _ _ (TX.out) (fun _=>?_);clear Ky K9;try simp only[nA,nB,nC,nD,nE]
            refine wpAnyH_done (by kernel_rfl) ?_ _;go_wp2;have PC:=P.out.cells;refine bodyPost_ret (by simp[results,Tryz.results50,go_sem,PC.at_ 0 _ rfl,PC.at_ 1 _ rfl,PC.at_ 2 _ rfl,PC.at_ 3 _ rfl,PC.at_ 4 _ rfl];try rfl) rfl ?_;have hr2:jc s=(0,⟨bytes a,m1,rl,(u0:Int),(u1:Int)⟩):=by rw[UZ.out];simp
            refine⟨fun _=>⟨_,rfl,?_⟩,fun h=>(by rw[hr2] at h;exact absurd rfl h),P.out.below _ _ (by have:=Uk.out;omega) (K.out.trans (J.out.trans J7.out))⟩;rw[hr2];have hat:=Va.out.kept J7.out;refine⟨a1,m9,d1,av,n9,cv,rfl,⟨hat.size,hat.unit.far P.out.size (fun b o sp e=>P.out.far b (by have:=(RUB.out b o sp e).2;have:=VU.out;omega)),hat.rungs.far P.out.size (fun b o sp e=>P.out.far b (by have:=(RB.out b o sp e).2;have:=VU.out;omega)),hat.lo,hat.hi⟩,fun b o sp e=>?_,fun b o sp e=>?_⟩
            · have:=(RUB.out b o sp e).2;have:=VU.out;have:=Uk.out;omega
            · have:=(RB.out b o sp e).2;have:=VU.out;have:=Uk.out;omega
          · skip;refine rd1 3 fun K9 Ky=>?_;go_simp;refine(Xa _ _ _ _ _ _ _ _ _ _ _ z2).mono ?_;rintro e y2 ⟨rfl,kk⟩;have hr2:(jc s).1=ck:=by rw[UZ.out];simp[z2]
            exact⟨rfl,jE.bad hr2 z2 (K.out.trans (J.out.trans (J7.out.trans kk)))⟩
        · skip;have HV:=lH (show (jc s).1=e1 by unfold jc;rw[VN.out,Uo.out,VL.out,Tv.out];simp[z1]);refine(XK _ _ _ z1).mono ?_;rintro e w9 ⟨rfl,rfl⟩;go_wp2;exact⟨rfl,jE.bad HV.out z1 (K.out.trans J.out)⟩
     · have hnum:Zz s=false:=by simpa using hnum
       have HV:=lH (show (jc s).1=5 by unfold jc;rw[VN.out,hnum];rfl);have J:=lH (Kept.drew w3);refine wp_region_held_drew (S:=fun W=>Kept w3 W) (by kernel_rfl) (J.out) (fun hHeld=>?_);obtain⟨wd,hwd⟩:=eX (w3.drew)
       rw[hwd] at J hHeld;try rw[hwd]
       clear hwd;refine tR 0 rfl (by kernel_rfl) (fun _ _ _=>id) (Or.inl ⟨by rfl,(by intro W hSw;obtain⟨o0,o1⟩:=Vi.out _ hSw;go_simp<;>with_reducible rfl)⟩) ‹_› ?_;try simp only[nA,nB,nC,nD,nE]
       refine tR 1 rfl (by kernel_rfl) (fun _ _ _=>id) (Or.inl ⟨by rfl,(by intro W hSw;obtain⟨o0,o1⟩:=Vi.out _ hSw;go_simp<;>with_reducible rfl)⟩) ‹_› ?_;try simp only[nA,nB,nC,nD,nE]
       refine tR 2 rfl (by kernel_rfl) (fun _ _ _=>id) (Or.inl ⟨by rfl,(by intro W hSw;obtain⟨o0,o1⟩:=Vi.out _ hSw;go_simp<;>with_reducible rfl)⟩) ‹_› ?_;try simp only[nA,nB,nC,nD,nE]
       refine tR 4 rfl (by kernel_rfl) (fun _ _ _=>id) (Or.inl ⟨by rfl,(by intro W hSw;obtain⟨o0,o1⟩:=Vi.out _ hSw;go_simp<;>with_reducible rfl)⟩) ‹_› ?_;try simp only[nA,nB,nC,nD,nE]
       refine tR 5 rfl (by kernel_rfl) (fun _ _ _=>id) (Or.inl ⟨by rfl,(by intro W hSw;obtain⟨o0,o1⟩:=Vi.out _ hSw;go_simp<;>with_reducible rfl)⟩) ‹_› ?_;try simp only[nA,nB,nC,nD,nE]
       refine tR 6 rfl (by kernel_rfl) (fun _ _ _=>id) (Or.inl ⟨by rfl,(by intro W hSw;obtain⟨o0,o1⟩:=Vi.out _ hSw;go_simp<;>with_reducible rfl)⟩) ‹_› ?_;try simp only[nA,nB,nC,nD,nE]
       refine tR 8 rfl (by kernel_rfl) (fun _ _ _=>id) (Or.inl ⟨by rfl,(by intro W hSw;obtain⟨o0,o1⟩:=Vi.out _ hSw;go_simp<;>with_reducible rfl)⟩) ‹_› ?_;try simp only[nA,nB,nC,nD,nE]
       refine wpAnyH_ready  (rs:=[3,11]) (by kernel_rfl) (by simp) (AllReadyH.cons  (by rw[List.getElem?_toArray];exact rfl) (fun K9 Ky=>?_) (AllReadyH.cons  (by rw[List.getElem?_toArray];exact rfl) (fun K9 Ky=>?_) AllReadyH.nil))
       · skip;go_simp;refine(Vw.out _ (K.out.trans J.out)).mono ?_;rintro e9 ww35 ⟨he,kk⟩
         cases p0 with
         | false =>
          obtain rfl:e9=.panicked [jt 5]:=he;exact⟨rfl,jE.bad HV.out (by decide) (K.out.trans (J.out.trans kk))⟩
         | true =>
          obtain rfl:e9=.returned (.int .i64 (u0:Int)):=he;have J:=lH (J.out.trans kk);clear kk;refine Ky.out _ _ (J.out) (fun _=>?_);clear Ky K9;try simp only[nA,nB,nC,nD,nE]
          refine wpAnyH_ready  (rs:=[7,11]) (by kernel_rfl) (by simp) (AllReadyH.cons  (by rw[List.getElem?_toArray];exact rfl) (fun K9 Ky=>?_) (AllReadyH.cons  (by rw[List.getElem?_toArray];exact rfl) (fun K9 Ky=>?_) AllReadyH.nil))
          · skip;go_simp;refine(Vr.out _ (K.out.trans J.out)).mono ?_;rintro e9 ww37 ⟨he,kk⟩
            cases p1 with
            | false =>
             obtain rfl:e9=.panicked [jt 5]:=he;exact⟨rfl,jE.bad HV.out (by decide) (K.out.trans (J.out.trans kk))⟩
            | true =>
             obtain rfl:e9=.returned (.int .i64 (u1:Int)):=he;have J:=lH (J.out.trans kk);clear kk;refine Ky.out _ _ (J.out) (fun _=>?_);clear Ky K9;try simp only[nA,nB,nC,nD,nE]
             refine wpAnyH_ready  (rs:=[9,11]) (by kernel_rfl) (by simp) (AllReadyH.cons  (by rw[List.getElem?_toArray];exact rfl) (fun K9 Ky=>?_) (AllReadyH.cons  (by rw[List.getElem?_toArray];exact rfl) (fun K9 Ky=>?_) AllReadyH.nil))
             · skip;go_simp;refine(Vk.out _ J.out).mono ?_;rintro e9 ww39 ⟨-,hbad,kk⟩;obtain rfl:=hbad (by have h:=hnum;rw[VH.out] at h;simpa using h);exact⟨rfl,jE.bad HV.out (by decide) (K.out.trans (J.out.trans kk))⟩
             · skip;go_simp;have kk:=ja ww37 (.cells #[.string ⟨#[]⟩,.slice none 0 0,.slice none 0 0,.int .i64 0,.int .i64 0] 26);have hn:=jl ww37 (.string ⟨#[]⟩) [.slice none 0 0,.slice none 0 0,.int .i64 0,.int .i64 0] 26 _ (Kept.refl _);have hp9:w3.heap.size≤ww37.heap.size:=J.out.size;obtain⟨q,hqe⟩:=eX (ww37.heap.size)
               rw[hqe] at hn hp9 ⊢;obtain⟨ww40,hnw⟩:=eX (ww37.alloc (.cells #[.string ⟨#[]⟩,.slice none 0 0,.slice none 0 0,.int .i64 0,.int .i64 0] 26))
               rw[hnw] at hn kk ⊢;clear hnw hqe;obtain⟨J,QA,Vb⟩:=lH3 (J.out.trans kk) hn hp9;clear hn kk hp9;refine Ky.out _ _ (J.out) (fun _=>?_);clear Ky K9;try simp only[nA,nB,nC,nD,nE]
               refine rd1 9 fun K9 Ky=>?_;go_simp;refine(Vk.out _ J.out).mono ?_;rintro e9 ww42 ⟨-,hbad,kk⟩;obtain rfl:=hbad (by have h:=hnum;rw[VH.out] at h;simpa using h);exact⟨rfl,jE.bad HV.out (by decide) (K.out.trans (J.out.trans kk))⟩
          · skip;go_simp;have kk:=ja ww35 (.cells #[.string ⟨#[]⟩,.slice none 0 0,.slice none 0 0,.int .i64 0,.int .i64 0] 26);have hn:=jl ww35 (.string ⟨#[]⟩) [.slice none 0 0,.slice none 0 0,.int .i64 0,.int .i64 0] 26 _ (Kept.refl _);have hp9:w3.heap.size≤ww35.heap.size:=J.out.size;obtain⟨q,hqe⟩:=eX (ww35.heap.size)
            rw[hqe] at hn hp9 ⊢;obtain⟨ww43,hnw⟩:=eX (ww35.alloc (.cells #[.string ⟨#[]⟩,.slice none 0 0,.slice none 0 0,.int .i64 0,.int .i64 0] 26))
            rw[hnw] at hn kk ⊢;clear hnw hqe;obtain⟨J,QA,Vb⟩:=lH3 (J.out.trans kk) hn hp9;clear hn kk hp9;refine Ky.out _ _ (J.out) (fun _=>?_);clear Ky K9;try simp only[nA,nB,nC,nD,nE]
            refine rd1 7 fun K9 Ky=>?_;go_simp;refine(Vr.out _ (K.out.trans J.out)).mono ?_;rintro e9 ww45 ⟨he,kk⟩
            cases p1 with
            | false =>
             obtain rfl:e9=.panicked [jt 5]:=he;exact⟨rfl,jE.bad HV.out (by decide) (K.out.trans (J.out.trans kk))⟩
            | true =>
             obtain rfl:e9=.returned (.int .i64 (u1:Int)):=he;have J:=lH (J.out.trans kk);clear kk;refine Ky.out _ _ (J.out) (fun _=>?_);clear Ky K9;try simp only[nA,nB,nC,nD,nE]
             refine rd1 9 fun K9 Ky=>?_;go_simp;refine(Vk.out _ J.out).mono ?_;rintro e9 ww47 ⟨-,hbad,kk⟩;obtain rfl:=hbad (by have h:=hnum;rw[VH.out] at h;simpa using h);exact⟨rfl,jE.bad HV.out (by decide) (K.out.trans (J.out.trans kk))⟩
       · skip;go_simp;have kk:=ja wd (.cells #[.string ⟨#[]⟩,.slice none 0 0,.slice none 0 0,.int .i64 0,.int .i64 0] 26);have hn:=jl wd (.string ⟨#[]⟩) [.slice none 0 0,.slice none 0 0,.int .i64 0,.int .i64 0] 26 _ (Kept.refl _);have hp9:w3.heap.size≤wd.heap.size:=J.out.size;obtain⟨q,hqe⟩:=eX (wd.heap.size)
         rw[hqe] at hn hp9 ⊢;obtain⟨ww48,hnw⟩:=eX (wd.alloc (.cells #[.string ⟨#[]⟩,.slice none 0 0,.slice none 0 0,.int .i64 0,.int .i64 0] 26))
         rw[hnw] at hn kk ⊢;clear hnw hqe;obtain⟨J,QA,Vb⟩:=lH3 (J.out.trans kk) hn hp9;clear hn kk hp9;refine Ky.out _ _ (J.out) (fun _=>?_);clear Ky K9;try simp only[nA,nB,nC,nD,nE]
         refine rd1 3 fun K9 Ky=>?_;go_simp;refine(Vw.out _ (K.out.trans J.out)).mono ?_;rintro e9 ww50 ⟨he,kk⟩
         cases p0 with
         | false =>
          obtain rfl:e9=.panicked [jt 5]:=he;exact⟨rfl,jE.bad HV.out (by decide) (K.out.trans (J.out.trans kk))⟩
         | true =>
          obtain rfl:e9=.returned (.int .i64 (u0:Int)):=he;have J:=lH (J.out.trans kk);clear kk;refine Ky.out _ _ (J.out) (fun _=>?_);clear Ky K9;try simp only[nA,nB,nC,nD,nE]
          refine rd1 7 fun K9 Ky=>?_;go_simp;refine(Vr.out _ (K.out.trans J.out)).mono ?_;rintro e9 ww52 ⟨he,kk⟩
          cases p1 with
          | false =>
           obtain rfl:e9=.panicked [jt 5]:=he;exact⟨rfl,jE.bad HV.out (by decide) (K.out.trans (J.out.trans kk))⟩
          | true =>
           obtain rfl:e9=.returned (.int .i64 (u1:Int)):=he;have J:=lH (J.out.trans kk);clear kk;refine Ky.out _ _ (J.out) (fun _=>?_);clear Ky K9;try simp only[nA,nB,nC,nD,nE]
           refine rd1 9 fun K9 Ky=>?_;go_simp;refine(Vk.out _ J.out).mono ?_;rintro e9 ww54 ⟨-,hbad,kk⟩;obtain rfl:=hbad (by have h:=hnum;rw[VH.out] at h;simpa using h);exact⟨rfl,jE.bad HV.out (by decide) (K.out.trans (J.out.trans kk))⟩
theorem JQ (B:Nat) (q:Nat) (x y:Int) (w:World) (hq:w.cell? ⟨q,0,none⟩=some (.int .i64 y)) (hzq:w.frozen? ⟨q,0,none⟩=false) (hBq:B≤q) :
 CallsD Tryz.prog 68 #[.pointer (some ⟨q,0,none⟩)] (.panicking [jt x]) w fun e u' w' =>
  e=.returned (.tuple #[])∧u'=.panicking [{ jt x with recovered:=true }]∧w'=w.setCell ⟨q,0,none⟩ (.int .i64 x)∧w'.cell? ⟨q,0,none⟩=some (.int .i64 x)∧Below B w w':=by
 have hta:∀W,(Instr.typeAssert (.iface 38 (.int .i64 x)) 20 38 false).run Tryz.prog W=.ok (.int .i64 x) W:=fun _=>by kernel_rfl
 refine callsD_of_wpS Tryz.func68 rfl fun c₀ cs hu=>?_;apply wpS_seq;apply wpS_region;simp[wpOpsS,go_sem,recoverD,hu,Tryz.ntmps68,Exit.thenS];apply wpS_seq;apply wpS_region;simp[wpOpsS,go_sem,recoverD,Exit.thenS];refine wpS_cond (t:=true) (by simp[Act.eval,Array.replicate]) ?_;simp only[if_true];refine wpS_of_wp ?_;simp[Array.replicate];go_wp2;simp[bodyPostS,results,Tryz.results68];exact⟨World.cell?_setCell_same' _ _ _ (by rw[hq];rfl),(Below.refl B w).setCell (p:=⟨q,0,none⟩) hBq _⟩
theorem Ye (q:Addr) (w:World) :
 CallsD Tryz.prog 68 #[.pointer (some q)] .returning w fun e u' w'=>e=.returned (.tuple #[])∧u'=.returning∧w'=w:=by
 refine callsD_of_wpS Tryz.func68 rfl fun c₀ cs hu=>?_;apply wpS_seq;apply wpS_region;simp[wpOpsS,go_sem,recoverD,hu,Tryz.ntmps68,Exit.thenS];apply wpS_seq;apply wpS_region;simp[wpOpsS,go_sem,recoverD,hu,Exit.thenS];refine wpS_cond (t:=false) (by simp[Act.eval,Array.replicate]) ?_;simp only[Bool.false_eq_true,if_false];refine wpS_of_wp (wp_skip ?_)
 cases c₀
 simp_all [bodyPostS,results,Tryz.results68]
def qK (r:Int×Lad) (w:World) (e:Ending) (w':World):Prop:=∃v,e=.returned (.tuple #[v,.int .i64 r.1])∧zg w.heap.size w' v r.2∧Kept w w'
theorem JT {s:List UInt8} (h:(jc s).1≠0):(jc s).2=Lad.zero:=by
 unfold jc at h ⊢;split
 · rfl
 · rename_i h1;rw[if_neg h1] at h;split
   · rfl
   · rename_i h2;rw[if_neg h2] at h;split
     · rfl
     · rename_i h3;rw[if_neg h3] at h;split
       · rfl
       · rename_i h4;rw[if_neg h4] at h;exact absurd rfl h
theorem Y7 (B:Nat) (w:World):zg B w (.agg #[.string ⟨#[]⟩,.slice none 0 0,.slice none 0 0,.int .i64 0,.int .i64 0]) Lad.zero :=
 ⟨none,0,0,none,0,0,rfl,⟨(by decide:(0:Nat)≤maxLen),Vec.Reads.nil w,Reads.nil w,(by unfold I64;decide),(by unfold I64;decide)⟩,(fun _ _ _ e=>by cases e),(fun _ _ _ e=>by cases e)⟩
theorem zg.less {B B':Nat} {w:World} {v:Value} {n:Lad} (h:zg B w v n) (hb:B'≤B):zg B' w v n:=by
 obtain⟨a1,m1,c1,a2,m2,c2,e,h0,g1,g2⟩:=h;exact⟨a1,m1,c1,a2,m2,c2,e,h0,fun b o s e=>Nat.le_trans hb (g1 b o s e),fun b o s e=>Nat.le_trans hb (g2 b o s e)⟩
theorem zg.far {B:Nat} {w w':World} {v:Value} {n:Lad} (h:zg B w v n) (hs:w'.heap.size=w.heap.size) (hb:∀b,B≤b→w'.heap[b]?=w.heap[b]?):zg B w' v n:=by
 obtain⟨a1,m1,c1,a2,m2,c2,e,h0,g1,g2⟩:=h;exact⟨a1,m1,c1,a2,m2,c2,e,⟨h0.size,h0.unit.far hs (fun b o s e=>hb b (g1 b o s e)),h0.rungs.far hs (fun b o s e=>hb b (g2 b o s e)),h0.lo,h0.hi⟩,g1,g2⟩
theorem jE.good {r:Int×Lad} {w w':World} {v:Value} (h:r.1=0) (ho:zg w.heap.size w' v r.2) (hb:Kept w w'):jE r w (.returned v) w':=⟨fun _=>⟨v,rfl,ho⟩,fun g=>absurd h g,hb⟩
def jaU (q:Nat) (x:ByteArray) (a1 a2:Option Addr) (m1 c1 m2 c2:Nat) (lo b:Int) (W W':World):Prop :=
 (W'.cell? ⟨q,0,none⟩=some (.string x)∧W'.cell? ⟨q,1,none⟩=some (.slice a1 m1 c1)∧W'.cell? ⟨q,2,none⟩=some (.slice a2 m2 c2)∧W'.cell? ⟨q,3,none⟩=some (.int .i64 lo)∧W'.cell? ⟨q,4,none⟩=some (.int .i64 b)) ∧
  W'.heap.size=W.heap.size∧(∀j,j≠q→W'.heap[j]?=W.heap[j]?)∧∀B w,B≤q→Below B w W→Below B w W'
theorem Zn {W:World} {q:Nat} {v0 v1 v2 v3 v4:Value} (y:W.cell? ⟨q,0,none⟩=some v0∧W.cell? ⟨q,1,none⟩=some v1∧W.cell? ⟨q,2,none⟩=some v2∧W.cell? ⟨q,3,none⟩=some v3∧W.cell? ⟨q,4,none⟩=some v4) (x:ByteArray) (a1 a2:Option Addr) (m1 c1 m2 c2:Nat) (lo b:Int) :
 jaU q x a1 a2 m1 c1 m2 c2 lo b W (((((W.setCell ⟨q,0,none⟩ (.string x)).setCell ⟨q,1,none⟩ (.slice a1 m1 c1)).setCell ⟨q,2,none⟩ (.slice a2 m2 c2)).setCell ⟨q,3,none⟩ (.int .i64 lo)).setCell ⟨q,4,none⟩ (.int .i64 b)) :=
 ⟨XW y.1 y.2.1 y.2.2.1 y.2.2.2.1 y.2.2.2.2 _ rfl,qj _ _ _ _ _ _ _,fun j hj=>X6 _ _ _ _ _ _ _ j hj,
  fun B w hB hk=>((((hk.setCell (p:=⟨q,0,none⟩) hB _).setCell (p:=⟨q,1,none⟩) hB _).setCell (p:=⟨q,2,none⟩) hB _).setCell (p:=⟨q,3,none⟩) hB _).setCell (p:=⟨q,4,none⟩) hB _⟩
theorem qE (C:Addr) (s:List UInt8) (w:World) (h1:w.cell? C=some (.string (bytes s))) (hE:Vec.jX w) (hs:s.length≤900000) :
 Calls Tryz.prog 49 #[.pointer (some C)] w (jE (jc s) w):=by
 obtain⟨Z,hZ⟩:=eX (w.alloc (.cells #[.string ⟨#[]⟩,.slice none 0 0,.slice none 0 0,.int .i64 0,.int .i64 0] 26))
 have hk:Kept w Z:=by rw[←hZ];exact ja _ _
 have hzs:Z.heap.size=w.heap.size+1:=by rw[←hZ,World.size_alloc]
 have hc:=cell_later hk h1;obtain⟨HP,HK,HZ⟩:=lH3 (YW s Z (hE.kept hk) hs) hk (fun W (kk:Kept Z W)=>YG w (.string ⟨#[]⟩) (.slice none 0 0) (.slice none 0 0) (.int .i64 0) (.int .i64 0) 26 W (by rw[hZ];exact kk));clear hE h1 hk hs;go_enter Tryz.func49,Tryz.ntmps49;go_wp2_with fail
 try rw[hZ]
 refine HP.out.mono ?_;rintro e w2 ⟨g0,g1,k⟩;have KK:=lH k;obtain⟨⟨y0,y1,y2,y3,y4⟩,x0,x1,x2,x3,x4⟩:=HZ.out _ k;have Y:=lH (And.intro y0 (And.intro y1 (And.intro y2 (And.intro y3 y4))));by_cases hx:(jc s).1=0
 · obtain⟨v,rfl,hn⟩:=g0 hx;have HX:=lH hx;have HN:=lH hn;obtain⟨a1,m1,c1,a2,m2,c2,rfl,-⟩:=hn;have P:=lH (Zn Y.out (jc s).2.what a1 a2 m1 c1 m2 c2 (jc s).2.lo (jc s).2.hi);clear g0 g1 k hx Y hZ;obtain⟨x,hxx⟩:=eX ((jc s).2.what)
   obtain⟨lo,hlo⟩:=eX ((jc s).2.lo)
   obtain⟨cd,hcd⟩:=eX ((jc s).2.hi)
   rw[hxx,hlo,hcd] at P HN;rw[hxx,hlo,hcd];clear hxx hlo hcd;go_wp2;obtain⟨WE,hWE⟩:=eX ((((((w2.setCell ⟨w.heap.size,0,none⟩ (.string x)).setCell ⟨w.heap.size,1,none⟩ (.slice a1 m1 c1)).setCell ⟨w.heap.size,2,none⟩ (.slice a2 m2 c2)).setCell ⟨w.heap.size,3,none⟩ (.int .i64 lo)).setCell ⟨w.heap.size,4,none⟩ (.int .i64 cd)))
   rw[hWE] at P ⊢;clear hWE y0 y1 y2 y3 y4 x0 x1 x2 x3 x4;obtain⟨⟨d0,d1,d2,d3,d4⟩,hsz,hbl,hkp⟩:=P.out;refine bodyPost_ret (by simp[results,Tryz.results49,go_sem,d0,d1,d2,d3,d4];try rfl) rfl ?_;exact jE.good HX.out ((HN.out.far hsz (fun b hb=>hbl b (by omega))).less (by omega)) (hkp _ _ (Nat.le_refl _) (HK.out.trans KK.out))
 · obtain rfl:=g1 hx;have HX:=lH hx;clear g0 g1 k hx Y hZ;go_wp2;exact⟨rfl,jE.bad rfl HX.out (HK.out.trans KK.out)⟩
theorem Yy (C:Addr) (r:Int×Lad) (w:World) (hr:r.1≠0→r.2=Lad.zero)
 (hk:∀W,Kept w W→Calls Tryz.prog 49 #[.pointer (some C)] W (jE r W)) :
 Calls Tryz.prog 48 #[.func (.func 49) #[] #[.pointer (some C)]] w (qK r w):=by
 have hmf:=hmfL (P:=Tryz.prog);have HR:=lH hr;obtain⟨Z,hZ⟩:=eX ((w.alloc (.cells #[.string ⟨#[]⟩,.slice none 0 0,.slice none 0 0,.int .i64 0,.int .i64 0] 26)).alloc (.cells #[.int .i64 0] 38))
 have hkz:Kept w Z:=by rw[←hZ];exact jG _ _ _
 have hzs:Z.heap.size=w.heap.size+2:=by rw[←hZ];simp
 have HK:=lH hkz;have HZ:=lH (fun W (kk:Kept Z W)=>YG w (.string ⟨#[]⟩) (.slice none 0 0) (.slice none 0 0) (.int .i64 0) (.int .i64 0) 26 W (by rw[←hZ] at kk;exact(ja _ _).trans kk));have TY:=lH (show ∀W,Kept Z W→W.cell? ⟨w.heap.size+1,0,none⟩=some (.int .i64 0)∧W.frozen? ⟨w.heap.size+1,0,none⟩=false from fun W kk=>by
  have hb:=zR (w.alloc (.cells #[.string ⟨#[]⟩,.slice none 0 0,.slice none 0 0,.int .i64 0,.int .i64 0] 26)) (.int .i64 0) 38;rw[hZ,World.size_alloc] at hb;exact⟨cell_later kk hb.1,(kk.frozen (p:=⟨w.heap.size+1,0,none⟩) (by rw[hzs];exact Nat.lt_succ_self _)).trans hb.2⟩)
 have TZ:=lH (hk Z hkz);clear hk hr hkz;obtain⟨r1,r2⟩:=r;go_enter_defers Tryz.func48,Tryz.ntmps48
 go_wp2_with fail
 try rw[hZ]
 refine TZ.out.mono ?_;rintro e1 w1 ⟨h0,h1,hb⟩;have KK:=lH hb;obtain⟨⟨y0,y1,y2,y3,y4⟩,x0,x1,x2,x3,x4⟩:=HZ.out _ hb;obtain⟨z0,z1⟩:=TY.out _ hb;have Y:=lH (And.intro y0 (And.intro y1 (And.intro y2 (And.intro y3 y4))));have hws:w.heap.size+1<w1.heap.size:=by have:=hb.size;omega
 by_cases hx:r1=0
 · subst hx;obtain⟨v,rfl,hn⟩:=h0 rfl;have HN:=lH hn;obtain⟨a1,m1,c1,a2,m2,c2,rfl,-⟩:=hn;have P:=lH (Zn Y.out r2.what a1 a2 m1 c1 m2 c2 r2.lo r2.hi);clear h0 h1 hb Y hZ;obtain⟨x,hxx⟩:=eX (r2.what)
   obtain⟨lo,hlo⟩:=eX (r2.lo)
   obtain⟨cd,hcd⟩:=eX (r2.hi)
   dsimp only at P HN ⊢;rw[hxx,hlo,hcd] at P HN;rw[hxx,hlo,hcd];clear hxx hlo hcd;go_wp2_with fail
   obtain⟨WE,hWE⟩:=eX ((((((w1.setCell ⟨w.heap.size,0,none⟩ (.string x)).setCell ⟨w.heap.size,1,none⟩ (.slice a1 m1 c1)).setCell ⟨w.heap.size,2,none⟩ (.slice a2 m2 c2)).setCell ⟨w.heap.size,3,none⟩ (.int .i64 lo)).setCell ⟨w.heap.size,4,none⟩ (.int .i64 cd)))
   rw[hWE] at P ⊢;obtain⟨⟨d0,d1,d2,d3,d4⟩,hsz,hbl,hkp⟩:=P.out;have ez:WE.cell? ⟨w.heap.size+1,0,none⟩=some (.int .i64 0):=(World.cell?_of_block (a:=⟨w.heap.size+1,0,none⟩) (hbl (w.heap.size+1) (by omega))).trans z0;have hb2:∀b,b≠w.heap.size+1→(WE.setCell ⟨w.heap.size+1,0,none⟩ (.int .i64 0)).heap[b]?=WE.heap[b]?:=fun b hb=>Below.heap_setCell WE ⟨w.heap.size+1,0,none⟩ _ b hb;have fe:=World.cell?_setCell_same' WE ⟨w.heap.size+1,0,none⟩ (.int .i64 0) (by rw[ez];rfl);have ff:∀j v,WE.cell? ⟨w.heap.size,j,none⟩=some v→(WE.setCell ⟨w.heap.size+1,0,none⟩ (.int .i64 0)).cell? ⟨w.heap.size,j,none⟩=some v:=fun j v h=>(World.cell?_of_block (a:=⟨w.heap.size,j,none⟩) (hb2 w.heap.size (by omega))).trans h;have f0:=ff 0 _ d0;have f1:=ff 1 _ d1;have f2:=ff 2 _ d2;have f3:=ff 3 _ d3;have f4:=ff 4 _ d4;have KF:=lH (show Kept w (WE.setCell ⟨w.heap.size+1,0,none⟩ (.int .i64 0)) from(hkp _ _ (Nat.le_refl _) (HK.out.trans KK.out)).setCell (p:=⟨w.heap.size+1,0,none⟩) (Nat.le_succ _) _);have NF:=lH ((HN.out.far (w':=WE.setCell ⟨w.heap.size+1,0,none⟩ (.int .i64 0)) (by simp[World.setCell,hsz]) (fun b hb=>(hb2 b (by omega)).trans (hbl b (by omega)))).less (B':=w.heap.size) (by omega));obtain⟨WF,hWF⟩:=eX (WE.setCell ⟨w.heap.size+1,0,none⟩ (.int .i64 0))
   rw[hWF] at fe f0 f1 f2 f3 f4 KF NF ⊢;clear hWE hWF ff hb2 ez P hbl hkp d0 d1 d2 d3 d4 y0 y1 y2 y3 y4 x0 x1 x2 x3 x4 z0 z1;refine leaves_cons (f:=68) (args:=#[.pointer (some ⟨w.heap.size+1,0,none⟩)]) (by simp) (by simp[go_sem]) ?_;refine(Ye ⟨w.heap.size+1,0,none⟩ _).mono ?_;rintro e u' w'' ⟨rfl,rfl,rfl⟩;simp[Leaves,settle,results,Tryz.results48,go_sem,fe,f0,f1,f2,f3,f4];exact⟨_,rfl,NF.out,KF.out⟩
 · obtain rfl:=h1 hx;obtain rfl:=HR.out hx;have KW:=lH (HK.out.trans KK.out);clear h0 h1 hb hZ Y;go_wp2_with fail
   refine leaves_cons (f:=68) (args:=#[.pointer (some ⟨w.heap.size+1,0,none⟩)]) (by simp) (by simp[go_sem]) ?_;refine(JQ w.heap.size (w.heap.size+1) r1 0 _ z0 z1 (by omega)).mono ?_;rintro e u' w'' ⟨rfl,rfl,rfl,q2,q3⟩;have hb2:(w1.setCell ⟨w.heap.size+1,0,none⟩ (.int .i64 r1)).heap[w.heap.size]?=w1.heap[w.heap.size]?:=Below.heap_setCell w1 ⟨w.heap.size+1,0,none⟩ _ w.heap.size (by simp);have ff:∀j v,w1.cell? ⟨w.heap.size,j,none⟩=some v→(w1.setCell ⟨w.heap.size+1,0,none⟩ (.int .i64 r1)).cell? ⟨w.heap.size,j,none⟩=some v:=fun j v h=>(World.cell?_of_block (a:=⟨w.heap.size,j,none⟩) hb2).trans h;have f0:=ff 0 _ y0;have f1:=ff 1 _ y1;have f2:=ff 2 _ y2;have f3:=ff 3 _ y3;have f4:=ff 4 _ y4;have KF:=lH (show Kept w _ from Below.trans KW.out q3);obtain⟨WF,hWF⟩:=eX (w1.setCell ⟨w.heap.size+1,0,none⟩ (.int .i64 r1))
   rw[hWF] at q2 f0 f1 f2 f3 f4 KF ⊢;clear hWF ff hb2 q3 y0 y1 y2 y3 y4 x0 x1 x2 x3 x4 z0 z1;simp[Leaves,settle,results,Tryz.results48,go_sem,q2,f0,f1,f2,f3,f4];exact⟨_,rfl,Y7 _ _,KF.out⟩
theorem JW (s:List UInt8) (w:World) (hE:Vec.jX w) (hs:s.length≤900000) :
 Calls Tryz.prog 24 #[.string (bytes s)] w (qK (jc s) w):=by
 have hmf:=hmfL (P:=Tryz.prog);obtain⟨Z,hZ⟩:=eX ((w.alloc (.cells #[.string (bytes s)] 9)).alloc (.cells #[.string ⟨#[]⟩,.slice none 0 0,.slice none 0 0,.int .i64 0,.int .i64 0] 26))
 have hkz:Kept w Z:=by rw[←hZ];exact jG _ _ _
 have hzs:Z.heap.size=w.heap.size+2:=by rw[←hZ];simp
 have hzc:Z.cell? ⟨w.heap.size,0,none⟩=some (.string (bytes s)):=by
  rw[←hZ];exact cell_later (ja _ _) (by have hh:=w.alloc_heap_new (.cells #[.string (bytes s)] 9);rw[Lib.cell_of_heap hh];rfl)
 have HK:=lH hkz;have HZ:=lH (fun W (kk:Kept Z W)=>YG (w.alloc (.cells #[.string (bytes s)] 9)) (.string ⟨#[]⟩) (.slice none 0 0) (.slice none 0 0) (.int .i64 0) (.int .i64 0) 26 W (by rw[hZ];exact kk));rw[World.size_alloc] at HZ;have HC:=lH (Yy ⟨w.heap.size,0,none⟩ (jc s) Z JT (fun W k=>qE ⟨w.heap.size,0,none⟩ s W (cell_later k hzc) (hE.kept (hkz.trans k)) hs));clear hE hs hzc;go_enter Tryz.func24,Tryz.ntmps24;go_wp2_with fail
 try rw[hZ]
 refine HC.out.mono ?_;rintro e w1 ⟨v,rfl,hn,k⟩;have KK:=lH k;have HN:=lH hn;obtain⟨⟨y0,y1,y2,y3,y4⟩,x0,x1,x2,x3,x4⟩:=HZ.out _ k;have Y:=lH (And.intro y0 (And.intro y1 (And.intro y2 (And.intro y3 y4))));obtain⟨a1,m1,c1,a2,m2,c2,rfl,-⟩:=hn;have P:=lH (Zn Y.out (jc s).2.what a1 a2 m1 c1 m2 c2 (jc s).2.lo (jc s).2.hi);obtain⟨x,hxx⟩:=eX ((jc s).2.what)
 obtain⟨lo,hlo⟩:=eX ((jc s).2.lo)
 obtain⟨cd,hcd⟩:=eX ((jc s).2.hi)
 obtain⟨r1,hr1⟩:=eX ((jc s).1)
 obtain⟨r2,hr2⟩:=eX ((jc s).2)
 rw[hxx,hlo,hcd] at P HN;rw[hxx,hlo,hcd,hr1];rw[hr2] at HN;have HR:=lH (show jc s=(r1,r2) by rw[←hr1,←hr2]);clear hxx hlo hcd hr1 hr2 k Y hZ;go_wp2;obtain⟨WE,hWE⟩:=eX ((((((w1.setCell ⟨w.heap.size+1,0,none⟩ (.string x)).setCell ⟨w.heap.size+1,1,none⟩ (.slice a1 m1 c1)).setCell ⟨w.heap.size+1,2,none⟩ (.slice a2 m2 c2)).setCell ⟨w.heap.size+1,3,none⟩ (.int .i64 lo)).setCell ⟨w.heap.size+1,4,none⟩ (.int .i64 cd)))
 rw[hWE] at P ⊢;clear hWE y0 y1 y2 y3 y4 x0 x1 x2 x3 x4;obtain⟨⟨d0,d1,d2,d3,d4⟩,hsz,hbl,hkp⟩:=P.out;refine bodyPost_ret (by simp[results,Tryz.results24,go_sem,d0,d1,d2,d3,d4];try rfl) rfl ?_;rw[HR.out];exact⟨_,rfl,(HN.out.far hsz (fun b hb=>hbl b (by omega))).less (by omega),hkp _ _ (Nat.le_succ _) (HK.out.trans KK.out)⟩
def Ju (lo hi:Int):List UInt8:=Lib.itoa lo++([47]++Lib.itoa hi)
def zF (r:Int×Int×Int):List UInt8:=Lib.itoa r.1++([58]++(Lib.itoa r.2.1++([58]++Lib.itoa r.2.2)))
def zo (n:Lad):List (List UInt8):=n.what.data.toList::Vec.j1 n.unit::Ju n.lo n.hi::n.rungs.map zF
def q6 (n:Lad):List UInt8:=Lib.join (zo n) [32]
theorem jbn:Kind 87 9 1 16:=by
 obtain⟨i,hi,hz,h1,h2⟩:=info_parts (show (Tryz.prog.info? 9).map (fun i=>(i.zero,i.size,i.bytes))=some (some (.string ByteArray.empty),1,16) by kernel_rfl);exact⟨i,_,Tryz.underlying87,hi,hz,h1,h2,rfl,by decide⟩
theorem qO (w:World) (B:Nat) (a b c:Value) (e:TypeId) (hB:B≤w.heap.size) (ha:a.oneCell'=true) (hb:b.oneCell'=true) (hc:c.oneCell'=true):(w.alloc (.cells #[a,b,c] e)).ownsRow B e 1 (.slice (some ⟨w.heap.size,0,none⟩) 3 3) 3 [a,b,c] :=
 ⟨by simp[ha,hb,hc],.inr ⟨w.heap.size,3,#[a,b,c],rfl,hB,World.alloc_heap_new w _,by omega,by decide,by simp,by simp⟩⟩
theorem Jy (n:Int) (w:World) (hE:Vec.jX w) (h0:-9223372036854775808≤n) (h1:n≤9223372036854775807) :
 Calls Tryz.prog 66 #[.int .i64 n] w fun e w'=>e=.returned (.string (bytes (Lib.itoa n)))∧Kept w w':=by
 refine(Tryz.strconv_Itoa n h0 h1 w hE.tab).mono ?_;rintro e w' ⟨rfl,k,os,rfl⟩;exact⟨rfl,Lib.below_grow _ _ (Nat.le_refl _) _ _⟩
theorem zq (a b:List UInt8):bytes a++bytes b=bytes (a++b):=by apply Go.WideShapes.bytes_inj;simp[bytes,ByteArray.data_append]
theorem Z6:∀(ts:List (List UInt8)) (B:Nat),(∀x ∈ ts,x.length≤B)→(Lib.join ts [32]).length≤ts.length*(B+1)
 | [],B,_=>by simp[Lib.join]
 | [x],B,h=>by
  have:=h x (by simp);rw[Lib.join_one];simp;omega
 | x::y::t,B,h=>by
  have h1:=h x (by simp);have ih:=Z6 (y::t) B (fun z hz=>h z (by simp[hz]));have s:(Lib.join (x::y::t) [32])=x++[32]++Lib.join (y::t) [32]:=by simp[Lib.join,List.intercalate]
  rw[s,List.length_append,List.length_append];simp only[List.length_cons,List.length_nil] at ih ⊢;rw[Nat.add_mul (t.length+1) 1 (B+1),Nat.one_mul];omega
theorem Xk (a b:Int) (w:World) (hE:Vec.jX w) (ha:I64 a) (hb:I64 b) :
 Calls Tryz.prog 43 #[.int .i64 a,.int .i64 b] w fun e w'=>e=.returned (.string (bytes (Ju a b)))∧Kept w w':=by
 have H1:=lH (fun W (k:Kept w W)=>Jy a W (hE.kept k) ha.1 ha.2);have H2:=lH (fun W (k:Kept w W)=>Jy b W (hE.kept k) hb.1 hb.2);have hz1:=Lib.itoa_length_le a ha.1 ha.2;have hz2:=Lib.itoa_length_le b hb.1 hb.2;have HV:=lH (show bytes (Lib.itoa a)++⟨#[47]⟩++bytes (Lib.itoa b)=bytes (Ju a b) by
  rw[show (⟨#[47]⟩:ByteArray)=bytes [47] from rfl,zq,zq];unfold Ju;rw[List.append_assoc])
 obtain⟨t1,ht1⟩:=eX (bytes (Lib.itoa a))
 obtain⟨t2,ht2⟩:=eX (bytes (Lib.itoa b))
 have hs1:t1.size≤100:=by rw[←ht1,jk];omega
 have hs2:t2.size≤100:=by rw[←ht2,jk];omega
 rw[ht1,ht2] at HV;rw[ht1] at H1;rw[ht2] at H2;clear ht1 ht2 hz1 hz2 hE;go_enter Tryz.func43,Tryz.ntmps43;go_wp2_with fail
 refine(H1.out _ (Kept.refl _)).mono ?_;rintro e w1 ⟨rfl,k1⟩;have K:=lH k1;clear k1;go_wp2_with fail
 refine(H2.out _ K.out).mono ?_;rintro e w2 ⟨rfl,k2⟩;have K:=lH (K.out.trans k2);clear k2;go_wp2;go_ret;exact⟨ZU HV.out,K.out⟩
theorem ja9 {w:World} {B g n cap:Nat} {e:TypeId} {xs:List ByteArray} (h:w.ownsRow B e 1 (.slice (some ⟨g,0,none⟩) n cap) n (xs.map Value.string)):n≤cap∧g<w.heap.size∧∀(j:Nat) x,xs[j]?=some x→w.cell? ⟨g,0+j,none⟩=some (.string x):=by
 refine⟨?_,(h.lt g rfl).2,qi h⟩;rcases h.2 with ⟨h0,_⟩ | ⟨g2,cap2,cur,h0,hb,hg,hr,_⟩
 · cases h0
 · cases h0;exact hr
theorem X1 {α:Type} {l:List α} {k:Nat} {x:α} (h:l[k]?=some x):l.take (k+1)=l.take k++[x]:=by rw[List.take_add_one,h];rfl
theorem qk {g n cap:Nat} {w:World} {xs:List ByteArray} (hc:∀(j:Nat) x,xs[j]?=some x→w.cell? ⟨g,0+j,none⟩=some (.string x)) (hg:g<w.heap.size) (hn:xs.length=n) (hcap:n≤cap) (hm:n≤1000000) (hl:(Lib.join (xs.map (·.data.toList)) [32]).length≤10000000) :
 Calls Tryz.prog 45 #[.slice (some ⟨g,0,none⟩) n cap] w fun e w'=>e=.returned (.string (bytes (Lib.join (xs.map (·.data.toList)) [32])))∧Kept w w':=by
 have hn2:xs.length≤140737488355328:=by omega
 have H:=lH (Tryz.strings_Join g 0 cap xs ⟨#[32]⟩ w hc hg hn2 (by omega) (Nat.le_trans hl (by decide)));rw[hn] at H;clear hc hl hn2;go_enter Tryz.func45,Tryz.ntmps45;go_wp2_with fail
 refine H.out.mono ?_;rintro e w1 ⟨rfl,k⟩;have K:=lH (show Kept w w1 from k);clear k;go_wp2;go_ret;exact⟨rfl,K.out⟩
theorem jaL {n:Lad} {tu tl:ByteArray} {ws:List ByteArray} (h:n.what::tu::tl::n.rungs.map (fun r=>bytes (zF r))=ws) (h1:bytes (Vec.j1 n.unit)=tu) (h2:bytes (Ju n.lo n.hi)=tl):ws.map (·.data.toList)=zo n:=by
 subst h;subst h1;subst h2;unfold zo;simp[bytes]
theorem ja0 {a b:Int} (ha:I64 a) (hb:I64 b):(Ju a b).length≤100:=by
 have h1:=Lib.itoa_length_le a ha.1 ha.2;have h2:=Lib.itoa_length_le b hb.1 hb.2;unfold Ju;simp only[List.length_append,List.length_cons,List.length_nil];omega
theorem jay {r:Int×Int×Int} (hu:I64 r.1) (hc:I64 r.2.1) (hp:I64 r.2.2):(zF r).length≤100:=by
 have h1:=Lib.itoa_length_le r.1 hu.1 hu.2;have h2:=Lib.itoa_length_le r.2.1 hc.1 hc.2;have h3:=Lib.itoa_length_le r.2.2 hp.1 hp.2;unfold zF;simp only[List.length_append,List.length_cons,List.length_nil];omega
theorem qL {n:Lad} (h0:n.what.size≤1000) (h1:(Vec.j1 n.unit).length≤2000) (h2:(Ju n.lo n.hi).length≤100) (h3:∀x ∈ n.rungs,jr.fine x):∀p ∈ zo n,p.length≤2000:=by
 intro p hp;unfold zo at hp;simp only[List.mem_cons,List.mem_map] at hp;rcases hp with rfl | rfl | rfl | ⟨r,hr,rfl⟩
 · rw[Array.length_toList,ByteArray.size_data];omega
 · exact h1
 · omega
 · have h:=h3 r hr;have:=jay h.1 h.2.1 h.2.2;omega
theorem YJ (u c p:Int) (w:World) (hE:Vec.jX w) (hu:I64 u) (hc:I64 c) (hp:I64 p) :
 Calls Tryz.prog 44 #[.agg #[.int .i64 u,.int .i64 c,.int .i64 p]] w fun e w'=>e=.returned (.string (bytes (zF (u,c,p))))∧Kept w w':=by
 obtain⟨W0,hW0⟩:=eX (w.alloc (.cells #[.int .i64 u,.int .i64 c,.int .i64 p] 46))
 have hk0:Kept w W0:=by rw[←hW0];exact ja _ _
 obtain⟨HC,H1,H2,H3⟩:=lH4 (show ∀W,Kept W0 W→W.cell? ⟨w.heap.size,0,none⟩=some (.int .i64 u)∧W.cell? ⟨w.heap.size,1,none⟩=some (.int .i64 c)∧W.cell? ⟨w.heap.size,2,none⟩=some (.int .i64 p) from fun W k=>(jl w (.int .i64 u) [.int .i64 c,.int .i64 p] 46 W (by rw[hW0];exact k)).at3) (fun W (k:Kept W0 W)=>Vec.zO u W (hE.kept (hk0.trans k)) hu.1 hu.2) (fun W (k:Kept W0 W)=>Jy c W (hE.kept (hk0.trans k)) hc.1 hc.2) (fun W (k:Kept W0 W)=>Vec.zO p W (hE.kept (hk0.trans k)) hp.1 hp.2);have hz1:=Lib.itoa_length_le u hu.1 hu.2;have hz2:=Lib.itoa_length_le c hc.1 hc.2;have hz3:=Lib.itoa_length_le p hp.1 hp.2;have HV:=lH (show bytes (Lib.itoa u)++⟨#[58]⟩++bytes (Lib.itoa c)++⟨#[58]⟩++bytes (Lib.itoa p)=bytes (zF (u,c,p)) by
  rw[show (⟨#[58]⟩:ByteArray)=bytes [58] from rfl,zq,zq,zq,zq];unfold zF;simp only[List.append_assoc])
 obtain⟨t1,ht1⟩:=eX (bytes (Lib.itoa u))
 have hs1:t1.size≤100:=by rw[←ht1,jk];omega
 rw[ht1] at H1;obtain⟨t2,ht2⟩:=eX (bytes (Lib.itoa c))
 have hs2:t2.size≤100:=by rw[←ht2,jk];omega
 rw[ht2] at H2;obtain⟨t3,ht3⟩:=eX (bytes (Lib.itoa p))
 have hs3:t3.size≤100:=by rw[←ht3,jk];omega
 rw[ht3] at H3;rw[ht1,ht2,ht3] at HV;have hone:(⟨#[58]⟩:ByteArray).size=1:=rfl;have ad1:∀W,(Op.stringOp .add t1 (⟨#[58]⟩:ByteArray)).run Tryz.prog W=.ok (.string (t1++(⟨#[58]⟩:ByteArray))) W:=fun W=>run_string_add_sum W _ _ (by omega);have ad2:∀W,(Op.stringOp .add (t1++(⟨#[58]⟩:ByteArray)) t2).run Tryz.prog W=.ok (.string (t1++(⟨#[58]⟩:ByteArray)++t2)) W:=fun W=>run_string_add_sum W _ _ (by simp only[ByteArray.size_append];omega);have ad3:∀W,(Op.stringOp .add (t1++(⟨#[58]⟩:ByteArray)++t2) (⟨#[58]⟩:ByteArray)).run Tryz.prog W=.ok (.string (t1++(⟨#[58]⟩:ByteArray)++t2++(⟨#[58]⟩:ByteArray))) W:=fun W=>run_string_add_sum W _ _ (by simp only[ByteArray.size_append];omega);have ad4:∀W,(Op.stringOp .add (t1++(⟨#[58]⟩:ByteArray)++t2++(⟨#[58]⟩:ByteArray)) t3).run Tryz.prog W=.ok (.string (t1++(⟨#[58]⟩:ByteArray)++t2++(⟨#[58]⟩:ByteArray)++t3)) W:=fun W=>run_string_add_sum W _ _ (by simp only[ByteArray.size_append];omega);have Uj:=lH hk0;clear ht1 ht2 ht3 hz1 hz2 hz3 hE hk0;go_enter Tryz.func44,Tryz.ntmps44;go_upto_region 1 with fail
 try rw[hW0]
 clear hW0;have J:=lH (Kept.drew W0);refine wp_region_held_drew (S:=fun W=>W.cell? ⟨w.heap.size,0,none⟩=some (.int .i64 u)∧W.cell? ⟨w.heap.size,1,none⟩=some (.int .i64 c)∧W.cell? ⟨w.heap.size,2,none⟩=some (.int .i64 p)) (by kernel_rfl) (HC.out _ J.out) (fun hHeld=>?_);obtain⟨wd,hwd⟩:=eX (W0.drew)
 rw[hwd] at J hHeld;try rw[hwd]
 clear hwd;refine tR 0 rfl (by kernel_rfl) (fun _ _ _=>id) (Or.inl ⟨by rfl,by rintro W ⟨o0,o1,o2⟩;go_simp<;>with_reducible rfl⟩) ‹_› ?_;try simp only[nA,nB,nC,nD,nE]
 refine tR 1 rfl (by kernel_rfl) (fun _ _ _=>id) (Or.inl ⟨by rfl,by rintro W ⟨o0,o1,o2⟩;go_simp<;>with_reducible rfl⟩) ‹_› ?_;try simp only[nA,nB,nC,nD,nE]
 refine tR 4 rfl (by kernel_rfl) (fun _ _ _=>id) (Or.inl ⟨by rfl,by rintro W ⟨o0,o1,o2⟩;go_simp<;>with_reducible rfl⟩) ‹_› ?_;try simp only[nA,nB,nC,nD,nE]
 refine tR 5 rfl (by kernel_rfl) (fun _ _ _=>id) (Or.inl ⟨by rfl,by rintro W ⟨o0,o1,o2⟩;go_simp<;>with_reducible rfl⟩) ‹_› ?_;try simp only[nA,nB,nC,nD,nE]
 refine tR 9 rfl (by kernel_rfl) (fun _ _ _=>id) (Or.inl ⟨by rfl,by rintro W ⟨o0,o1,o2⟩;go_simp<;>with_reducible rfl⟩) ‹_› ?_;try simp only[nA,nB,nC,nD,nE]
 refine tR 10 rfl (by kernel_rfl) (fun _ _ _=>id) (Or.inl ⟨by rfl,by rintro W ⟨o0,o1,o2⟩;go_simp<;>with_reducible rfl⟩) ‹_› ?_;try simp only[nA,nB,nC,nD,nE]
 refine rd1 2 fun K9 Ky=>?_;go_simp;refine(H1.out _ J.out).mono ?_;rintro e w1 ⟨rfl,kk⟩;have J:=lH (J.out.trans kk);clear kk;refine Ky.out _ _ (HC.out _ J.out) (fun _=>?_);clear Ky K9;try simp only[nA,nB,nC,nD,nE]
 refine tR 3 rfl (by kernel_rfl) (fun _ _ _=>id) (Or.inl ⟨by rfl,by rintro W ⟨o0,o1,o2⟩;go_simp<;>with_reducible rfl⟩) ‹_› ?_;try simp only[nA,nB,nC,nD,nE]
 refine rd1 6 fun K9 Ky=>?_;go_simp;refine(H2.out _ J.out).mono ?_;rintro e w2 ⟨rfl,kk⟩;have J:=lH (J.out.trans kk);clear kk;refine Ky.out _ _ (HC.out _ J.out) (fun _=>?_);clear Ky K9;try simp only[nA,nB,nC,nD,nE]
 refine tR 7 rfl (by kernel_rfl) (fun _ _ _=>id) (Or.inl ⟨by rfl,by rintro W ⟨o0,o1,o2⟩;go_simp<;>with_reducible rfl⟩) ‹_› ?_;try simp only[nA,nB,nC,nD,nE]
 refine tR 8 rfl (by kernel_rfl) (fun _ _ _=>id) (Or.inl ⟨by rfl,by rintro W ⟨o0,o1,o2⟩;go_simp<;>with_reducible rfl⟩) ‹_› ?_;try simp only[nA,nB,nC,nD,nE]
 refine rd1 11 fun K9 Ky=>?_;go_simp;refine(H3.out _ J.out).mono ?_;rintro e w3 ⟨rfl,kk⟩;have J:=lH (J.out.trans kk);clear kk;refine Ky.out _ _ (HC.out _ J.out) (fun _=>?_);clear Ky K9;try simp only[nA,nB,nC,nD,nE]
 refine tR 12 rfl (by kernel_rfl) (fun _ _ _=>id) (Or.inl ⟨by rfl,by rintro W ⟨o0,o1,o2⟩;go_simp<;>with_reducible rfl⟩) ‹_› ?_;try simp only[nA,nB,nC,nD,nE]
 refine tR 13 rfl (by kernel_rfl) (fun _ _ _=>id) (Or.inl ⟨by rfl,by rintro W ⟨o0,o1,o2⟩;go_simp<;>with_reducible rfl⟩) ‹_› ?_;try simp only[nA,nB,nC,nD,nE]
 refine wpAnyH_done (by kernel_rfl) ?_ _;go_wp2;go_ret;exact⟨ZU HV.out,Uj.out.trans J.out⟩
theorem qh (n:Lad) (v1:Value) (a2:Option Addr) (l2 c2:Nat) (w:World) (hE:Vec.jX w) (h:jW w v1 (.slice a2 l2 c2) n) (hw:n.what.size≤1000) (hf:Vec.j8 n.unit=true) (hn:n.rungs.length≤1000) :
 Calls Tryz.prog 22 #[.agg #[.string n.what,v1,.slice a2 l2 c2,.int .i64 n.lo,.int .i64 n.hi]] w (Say (.string (bytes (q6 n))) w):=by
 obtain⟨W0,hW0⟩:=eX (w.alloc (.cells #[.string n.what,v1,.slice a2 l2 c2,.int .i64 n.lo,.int .i64 n.hi] 26))
 have hk0:Kept w W0:=by rw[←hW0];exact ja _ _
 have HL:=lH (jl w (.string n.what) [v1,.slice a2 l2 c2,.int .i64 n.lo,.int .i64 n.hi] 26 W0 (by rw[hW0];exact Kept.refl _));obtain⟨lb,hlb⟩:=eX (w.heap.size)
 rw[hlb] at HL;obtain⟨H1,H2,HE,HK,Uj⟩:=lH5 (fun W (k:Kept W0 W)=>Vec.Yn (hE.kept (hk0.trans k)) (h.unit.kept (hk0.trans k)) hf rfl) (fun W (k:Kept W0 W)=>Xk n.lo n.hi W (hE.kept (hk0.trans k)) h.lo h.hi) hE hk0 hk0;obtain⟨a9,c9,e9,q1,q2,hrow⟩:=h.rungs;obtain⟨rfl,rfl,rfl⟩:a2=a9∧l2=n.rungs.length∧c2=c9:=by cases e9;exact⟨rfl,rfl,rfl⟩
 obtain⟨HR,Vn,T0,U3,T1⟩:=lH5 hrow h.size hw (jad hf (by obtain⟨_,_,-,-,-,q⟩:=h.unit;exact q.2.2.1)) (ja0 h.lo h.hi);clear h e9 q1 q2 hrow hf hk0 hE;obtain⟨len,hlen⟩:=eX (n.rungs.length)
 have Vg:=lH hlen;rw[hlen] at HL HR hn hW0 ⊢;clear hlen;obtain⟨tu,htu⟩:=eX (bytes (Vec.j1 n.unit))
 obtain⟨tl,htl⟩:=eX (bytes (Ju n.lo n.hi))
 rw[htu] at H1;rw[htl] at H2;have T2:=lH htu;have U4:=lH htl;clear htu htl;have HS:=lH (show ∀W,Kept W0 W→W.cell? ⟨lb,0,none⟩=some (.string n.what)∧W.cell? ⟨lb,1,none⟩=some (v1)∧W.cell? ⟨lb,2,none⟩=some (.slice a2 len c2)∧W.cell? ⟨lb,3,none⟩=some (.int .i64 n.lo)∧W.cell? ⟨lb,4,none⟩=some (.int .i64 n.hi) from fun W k=>(HL.out.kept k).at5);go_enter Tryz.func22,Tryz.ntmps22;go_upto_region 1 with fail
 try rw[hW0]
 try rw[hlb]
 clear hW0
 go_region_held3 (fun W=>W.cell? ⟨lb,0,none⟩=some (.string n.what)∧W.cell? ⟨lb,1,none⟩=some (v1)∧W.cell? ⟨lb,2,none⟩=some (.slice a2 len c2)∧W.cell? ⟨lb,3,none⟩=some (.int .i64 n.lo)∧W.cell? ⟨lb,4,none⟩=some (.int .i64 n.hi))
  (first | exact HS.out _ (Kept.drew _) | exact HS.out _ K1.out | exact HS.out _ K2.out | exact HS.out _ (K2.out.trans (ja _ _)))
  (first | (go_at_call 31;refine(H1.out _ (Kept.drew _)).mono ?_;rintro e1 w1 ⟨rfl,k1⟩;have K1:=lH ((Kept.drew _).trans k1);clear k1)
         | (go_at_call 43;refine(H2.out _ K1.out).mono ?_;rintro e2 w2 ⟨rfl,k2⟩;have K2:=lH (K1.out.trans k2);clear k2))
 obtain⟨HK,U5,VU⟩:=lH3 (HK.out.trans (K2.out.trans (ja w2 (.cells #[.string n.what,.string tu,.string tl] 9)))) (qO w2 w2.heap.size (.string n.what) (.string tu) (.string tl) 9 (Nat.le_refl _) rfl rfl rfl) (HS.out _ (K2.out.trans (ja w2 (.cells #[.string n.what,.string tu,.string tl] 9))));obtain⟨w3,hw3⟩:=eX (w2.alloc (.cells #[.string n.what,.string tu,.string tl] 9))
 have T3:=lH (show Kept w2 w3 by rw[←hw3];exact ja _ _);have U6:=lH (show w.heap.size≤w2.heap.size from(Uj.out.trans K2.out).size);have V4:=lH (show w2.heap.size≤w3.heap.size from T3.out.size);rw[hw3] at HK U5 VU ⊢;obtain⟨B,hB⟩:=eX (w2.heap.size)
 have Re:=lH hB;rw[hB] at U5 U6 V4 ⊢;obtain⟨y0,y1,y2,y3,y4⟩:=VU.out;clear hw3 hB hlb;obtain⟨ws,hws⟩:∃ws:List ByteArray,n.what::tu::tl::n.rungs.map (fun r=>bytes (zF r))=ws:=⟨_,rfl⟩
 have Tw:=lH (show ws.length=3+len by rw[←hws];simp only[List.length_cons,List.length_map];have:=Vg.out;omega);have T4:=lH (show ws.take 3=[n.what,tu,tl] by rw[←hws];rfl);have Ua:=lH (show ∀k r,n.rungs[k]?=some r→ws[3+k]?=some (bytes (zF r)) from fun k r h=>by
  rw[←hws,show 3+k=k+1+1+1 by omega,List.getElem?_cons_succ,List.getElem?_cons_succ,List.getElem?_cons_succ,List.getElem?_map,h];rfl)
 have U7:=lH hws;clear hws;go_wp2;go_loopw [3,20] (fun sv iv wr=>∃(k g cap:Nat),k≤len∧iv=.int .i64 k∧sv=.slice (some ⟨g,0,none⟩) (3+k) cap∧wr.ownsRow B 9 1 (.slice (some ⟨g,0,none⟩) (3+k) cap) (3+k) ((ws.take (3+k)).map Value.string)∧Below B w3 wr) (fun _ iv _=>len-(intOf iv).toNat)
 case atStart=>exact⟨0,B,3,Nat.zero_le _,rfl,rfl,by rw[Nat.add_zero,T4.out];exact U5.out,Below.refl _ _⟩
 case round =>
  obtain⟨k,g,cap,hk,rfl,rfl,hown,hK⟩:=hrel;have Tx:=lH hown;have Vo:=lH hK;clear hown hK y0 y1 y2 y3 y4;by_cases hlt:k<len
  · skip;skip;obtain⟨b,off,rfl⟩:=HR.out.form.resolve_left (by omega);have Ub:=lH (show Kept w wr from Below.trans HK.out (Below.mono Vo.out U6.out));obtain⟨u,c,p,hn2,hd,hb,hfine,p0,p1,p2⟩:=(HR.out.kept Ub.out).rung hlt;have hkk:(k:Int)<(len:Int):=by omega
    have HX:=lH (Ua.out k _ hn2);obtain⟨w4,hw4⟩:=eX (wr.alloc (.cells #[.int .i64 u,.int .i64 c,.int .i64 p] 46))
    have k4:Kept wr w4:=by rw[←hw4];exact ja _ _
    obtain⟨r0,r1,r2⟩:=(jl wr (.int .i64 u) [.int .i64 c,.int .i64 p] 46 w4 (by rw[hw4];exact Kept.refl _)).at3;obtain⟨rb,hrb⟩:=eX (wr.heap.size)
    rw[hrb] at r0 r1 r2;have HT:=lH (fun W (k:Kept w W)=>YJ u c p W (HE.out.kept k) hfine.1 hfine.2.1 hfine.2.2);obtain⟨t,ht⟩:=eX (bytes (zF (u,c,p)))
    rw[ht] at HT HX;have Ux:=lH k4;clear hn2 hd hfine ht k4 hb;go_wp2_with fail
    try rw[hw4]
    try rw[hrb]
    clear hw4 hrb;refine(HT.out _ (Ub.out.trans Ux.out)).mono ?_;rintro e w5 ⟨rfl,k5⟩;have Up:=lH (Ux.out.trans k5);clear k5 r0 r1 r2 p0 p1 p2 HT;have hb1:3+k+1≤maxLen:=by unfold maxLen;omega
    have hb2:((3+k+1)+(3+k+1) / 4+192)*16≤281474976710656:=by omega
    have hBs:B≤(w5.alloc (.cells #[.string t] 9)).heap.size:=by have:=Up.out.size;have:=Vo.out.size;have:=V4.out;simp;omega
    go_wp2_with (at_builtin;refine Jk jbn _ rfl (.tmp 24) (.tmp 27) rfl B hBs g (3+k) cap _ rfl (jai (Yq Tx.out Up.out) _) _ 1 [.string t] rfl rfl (fun u hu=>by obtain rfl:=List.mem_singleton.1 hu;rfl) (jaP rfl (World.alloc_heap_new w5 _)) hb1 hb2 ?_;intro g1 k1 W1 ho hd hg;have UC:=lH ho;have Ur:=lH hd;clear ho hd hg;refine Hid.out ?_)
    refine lH ?_;go_wp2;go_roundw
    case rel=>exact⟨k+1,g1,k1,by omega,by go_num,rfl,by rw[show 3+(k+1)=3+k+1 by omega,X1 HX.out,List.map_append];exact UC.out,Below.trans Vo.out (Below.trans (Below.mono (Up.out.trans (ja w5 _)) (by have:=Vo.out.size;have:=V4.out;omega)) Ur.out)⟩
    case measure=>simp[intOf];omega
  · skip;have hkk:¬(k:Int)<(len:Int):=by omega
    obtain rfl:k=len:=by omega
    have hfull:=Tx.out;rw[List.take_of_length_le (by rw[Tw.out];exact Nat.le_refl _)] at hfull;obtain⟨hc1,hp1,hcells⟩:=ja9 hfull;have Ty:=lH (jaL U7.out T2.out U4.out);have HJ:=lH (qk hcells hp1 Tw.out hc1 (by omega) (by
     rw[Ty.out];refine Nat.le_trans (Z6 (zo n) 2000 (qL T0.out U3.out T1.out (by obtain⟨_,_,q,_⟩:=HR.out;exact q))) ?_;have:(zo n).length=3+k:=by unfold zo;simp only[List.length_cons,List.length_map];have:=Vg.out;omega
     rw[this];have h2:(3+k)*(2000+1)≤1003*2001:=Nat.mul_le_mul (by omega) (by omega);omega))
    rw[Ty.out] at HJ;have Ub:=lH (show Kept w wr from Below.trans HK.out (Below.mono Vo.out U6.out));clear hfull hc1 hp1 hcells;go_wp2_with fail
    refine HJ.out.mono ?_;rintro e w5 ⟨rfl,k5⟩;have Up:=lH k5;clear k5;go_wp2;go_ret;exact⟨ZU rfl,Ub.out.trans Up.out⟩
def lk1:List UInt8:=[99,112,117,32,99,112,117,61,49,48,44,109,101,109,61,52,32,49,47,51,32,49,48,48,58,50,58,53,48,48,32,50,48,48,58,57,58,49,48,48,48]
def lk2:List UInt8:=[99,112,117,32,45,32,49,32,49,58,49,58,49]
def lk3:List UInt8:=[99,112,117,32,45,32,51,47,49]
def lk4:List UInt8:=[99,112,117,32,45,32,48,47,49,32,53,58,49,58,49,32,53,58,49,58,49]
def kLd:Lad:=⟨Vec.cpu,[(Vec.cpu,10),(Vec.mem,4)],[(100,2,500),(200,9,1000)],1,3⟩
def kLe:Lad:=⟨Vec.cpu,[],[],0,0⟩
def kLf:Lad:=⟨Vec.cpu,[(Vec.cpu,1)],[],2,3⟩
theorem jbF:jK kLd=0:=by kernel_rfl
theorem jbJ:jc lk1=(0,kLd):=by kernel_rfl
theorem jbP:(jc lk2).1=2:=by kernel_rfl
theorem jbT:(jc lk3).1=1:=by kernel_rfl
theorem jbH:(jc lk4).1=13:=by kernel_rfl
theorem jbR:jV kLd [(Vec.cpu,100)]=(2,[(Vec.cpu,5),(Vec.mem,2)],0):=by kernel_rfl
theorem jbV:jV kLd [(Vec.cpu,999)]=(3,[(Vec.cpu,10),(Vec.mem,4)],0):=by kernel_rfl
theorem jbI:jV kLf []=(2,[(Vec.cpu,1)],0):=by kernel_rfl
theorem jbN:atL kLd []=some (100,2,500):=by kernel_rfl
theorem jbK:atL kLe []=none:=by kernel_rfl
theorem jbL:Vec.j1 [(Vec.cpu,5),(Vec.mem,2)]=[99,112,117,61,53,44,109,101,109,61,50]:=by kernel_rfl
theorem jbG:Vec.j1 [(Vec.cpu,10),(Vec.mem,4)]=[99,112,117,61,49,48,44,109,101,109,61,52]:=by kernel_rfl
theorem jbU:Vec.j1 [(Vec.cpu,1)]=[99,112,117,61,49]:=by kernel_rfl
theorem jbQ:q6 kLd=lk1:=by kernel_rfl
theorem zV (w:World) (s:ByteArray) (m:Int) (T:TypeId) (hs:s.size≤maxLen) (hm:-9223372036854775808≤m∧m≤9223372036854775807) :
 Vec.Reads (w.alloc (.cells #[.string s,.int .i64 m] T)) (.slice (some ⟨w.heap.size,0,none⟩) 1 1) [(s,m)]:=by
 refine⟨_,1,rfl,Nat.le_refl _,by decide,rfl,(by decide:1≤maxLen),Vec.jQ.cons.2 ⟨⟨hs,hm⟩,Vec.jQ.nil⟩,.inr ⟨w.heap.size,0,rfl,by simp,fun i hi=>?_⟩⟩;have hh:=w.alloc_heap_new (.cells #[.string s,.int .i64 m] T)
 match i,hi with
 | 0,_=>exact⟨by rw[Lib.cell_of_heap hh];rfl,by rw[Lib.cell_of_heap hh];rfl⟩
theorem qV (w:World) (hE:Vec.jX w):Calls Tryz.prog 24 #[.string ⟨#[99,112,117,32,99,112,117,61,49,48,44,109,101,109,61,52,32,49,47,51,32,49,48,48,58,50,58,53,48,48,32,50,48,48,58,57,58,49,48,48,48]⟩] w fun e w'=>∃a1 m1 c1 a2 m2 c2,e=.returned (.tuple #[.agg #[.string ⟨#[99,112,117]⟩,.slice a1 m1 c1,.slice a2 m2 c2,.int .i64 1,.int .i64 3],.int .i64 0])∧jW w' (.slice a1 m1 c1) (.slice a2 m2 c2) kLd∧Kept w w':=by
 refine(JW lk1 w hE (by decide)).mono ?_;rintro e w' ⟨v,he,hn,k⟩;rw[jbJ] at he hn;obtain⟨a1,m1,c1,a2,m2,c2,rfl,hat,-⟩:=hn;exact⟨a1,m1,c1,a2,m2,c2,he,hat,k⟩
theorem JV (s:List UInt8) (c:Int) (w:World) (hE:Vec.jX w) (hs:s.length≤900000) (h:(jc s).1=c) (hc:c≠0):Calls Tryz.prog 24 #[.string (bytes s)] w fun e w'=>∃a1 m1 c1 a2 m2 c2,e=.returned (.tuple #[.agg #[.string ⟨#[]⟩,.slice a1 m1 c1,.slice a2 m2 c2,.int .i64 0,.int .i64 0],.int .i64 c])∧Kept w w':=by
 refine(JW s w hE hs).mono ?_;rintro e w' ⟨v,he,hn,k⟩;rw[JT (by rw[h];exact hc)] at hn;rw[h] at he;obtain⟨a1,m1,c1,a2,m2,c2,rfl,hat,-⟩:=hn;exact⟨a1,m1,c1,a2,m2,c2,he,k⟩
theorem jbv (w:World):jW w (.slice none 0 0) (.slice none 0 0) kLe:=⟨by decide,Vec.Reads.nil _,Reads.nil _,by unfold I64 kLe;decide,by unfold I64 kLe;decide⟩
theorem jbo (w:World) (T:TypeId):jW (w.alloc (.cells #[.string Vec.cpu,.int .i64 1] T)) (.slice (some ⟨w.heap.size,0,none⟩) 1 1) (.slice none 0 0) kLf:=⟨by decide,zV w _ _ T (by decide) (by decide),Reads.nil _,by unfold I64 kLf;decide,by unfold I64 kLf;decide⟩
theorem ja2 {v:Value} (w:World) (hE:Vec.jX w) (h:Vec.Reads w v [(Vec.cpu,5),(Vec.mem,2)]):Calls Tryz.prog 31 #[v] w fun e w'=>e=.returned (.string ⟨#[99,112,117,61,53,44,109,101,109,61,50]⟩)∧Kept w w':=Vec.Yn hE h (by kernel_rfl) jbL
theorem jaQ {v:Value} (w:World) (hE:Vec.jX w) (h:Vec.Reads w v [(Vec.cpu,10),(Vec.mem,4)]):Calls Tryz.prog 31 #[v] w fun e w'=>e=.returned (.string ⟨#[99,112,117,61,49,48,44,109,101,109,61,52]⟩)∧Kept w w':=Vec.Yn hE h (by kernel_rfl) jbG
theorem ja4 {v:Value} (w:World) (hE:Vec.jX w) (h:Vec.Reads w v [(Vec.cpu,1)]):Calls Tryz.prog 31 #[v] w fun e w'=>e=.returned (.string ⟨#[99,112,117,61,49]⟩)∧Kept w w':=Vec.Yn hE h (by kernel_rfl) jbU
theorem jaB (a1 a2:Option Addr) (m1 c1 m2 c2:Nat) (w:World) (hE:Vec.jX w) (h:jW w (.slice a1 m1 c1) (.slice a2 m2 c2) kLd):Calls Tryz.prog 22 #[.agg #[.string ⟨#[99,112,117]⟩,.slice a1 m1 c1,.slice a2 m2 c2,.int .i64 1,.int .i64 3]] w fun e w'=>e=.returned (.string ⟨#[99,112,117,32,99,112,117,61,49,48,44,109,101,109,61,52,32,49,47,51,32,49,48,48,58,50,58,53,48,48,32,50,48,48,58,57,58,49,48,48,48]⟩)∧Kept w w':=by
 have:=qh kLd (.slice a1 m1 c1) a2 m2 c2 w hE h (by decide) (by kernel_rfl) (by decide);rw[jbQ] at this;exact this
theorem Xb (w:World) (hE:Vec.jX w):Calls Tryz.prog 9 #[] w (Say (.bool true) w):=by
 have HE:=lH hE;clear hE;go_enter Tryz.func9,Tryz.ntmps9;go_wp2_with fail
 refine(qV _ HE.out).mono ?_;rintro e w1 ⟨a1,m1,c1,a2,m2,c2,rfl,hat,kk⟩;have Va:=lH hat;have K:=lH kk;clear hat kk;obtain⟨v2,hv2⟩:=eX (w1.alloc (.cells #[.string ⟨#[99,112,117]⟩,.slice a1 m1 c1,.slice a2 m2 c2,.int .i64 1,.int .i64 3] 26))
 have kk:Kept w1 v2:=by rw[←hv2];exact ja _ _
 have Hkb:=lH (jl w1 (.string ⟨#[99,112,117]⟩) [.slice a1 m1 c1,.slice a2 m2 c2,.int .i64 1,.int .i64 3] 26 v2 (by rw[hv2];exact Kept.refl _));obtain⟨kb,hkb⟩:=eX (w1.heap.size)
 rw[hkb] at Hkb;have Va:=lH (Va.out.kept kk);have K:=lH (K.out.trans kk);clear kk;have Ev2:=lH hv2;clear hv2;have Ekb:=lH hkb;clear hkb;go_wp2_with fail
 try rw[Ev2.out]
 clear Ev2;try rw[Ekb.out]
 clear Ekb;refine(JV lk2 2 _ (HE.out.kept K.out) (by decide) jbP (by decide)).mono ?_;rintro e w2 ⟨x1,x2,x3,x4,x5,x6,rfl,kk⟩;obtain⟨Va,Hkb,K⟩:=lH3 (Va.out.kept kk) (Hkb.out.kept kk) (K.out.trans kk);clear kk;obtain⟨v3,hv3⟩:=eX (w2.alloc (.cells #[.string ⟨#[]⟩,.slice x1 x2 x3,.slice x4 x5 x6,.int .i64 0,.int .i64 0] 26))
 have kk:Kept w2 v3:=by rw[←hv3];exact ja _ _
 obtain⟨Va,Hkb,K⟩:=lH3 (Va.out.kept kk) (Hkb.out.kept kk) (K.out.trans kk);clear kk;have Ev3:=lH hv3;clear hv3;go_wp2_with fail
 try rw[Ev3.out]
 clear Ev3;refine(JV lk3 1 _ (HE.out.kept K.out) (by decide) jbT (by decide)).mono ?_;rintro e w3 ⟨x1,x2,x3,x4,x5,x6,rfl,kk⟩;obtain⟨Va,Hkb,K⟩:=lH3 (Va.out.kept kk) (Hkb.out.kept kk) (K.out.trans kk);clear kk;obtain⟨v4,hv4⟩:=eX (w3.alloc (.cells #[.string ⟨#[]⟩,.slice x1 x2 x3,.slice x4 x5 x6,.int .i64 0,.int .i64 0] 26))
 have kk:Kept w3 v4:=by rw[←hv4];exact ja _ _
 obtain⟨Va,Hkb,K⟩:=lH3 (Va.out.kept kk) (Hkb.out.kept kk) (K.out.trans kk);clear kk;have Ev4:=lH hv4;clear hv4;go_wp2_with fail
 try rw[Ev4.out]
 clear Ev4;refine(JV lk4 13 _ (HE.out.kept K.out) (by decide) jbH (by decide)).mono ?_;rintro e w4 ⟨x1,x2,x3,x4,x5,x6,rfl,kk⟩;obtain⟨Va,Hkb,K⟩:=lH3 (Va.out.kept kk) (Hkb.out.kept kk) (K.out.trans kk);clear kk;obtain⟨v5,hv5⟩:=eX (w4.alloc (.cells #[.string ⟨#[]⟩,.slice x1 x2 x3,.slice x4 x5 x6,.int .i64 0,.int .i64 0] 26))
 have kk:Kept w4 v5:=by rw[←hv5];exact ja _ _
 obtain⟨Va,Hkb,K⟩:=lH3 (Va.out.kept kk) (Hkb.out.kept kk) (K.out.trans kk);clear kk;have Ev5:=lH hv5;clear hv5;obtain⟨y0,y1,y2,y3,y4⟩:=Hkb.out.at5;go_upto_region 5 with fail
 try rw[Ev5.out]
 clear Ev5;go_wp2_with fail
 refine(Yr (n:=kLd) (t:=[(Vec.cpu,100)]) ⟨_,_,rfl,Va.out.kept (ja _ _)⟩ (zV _ _ _ _ (by decide) (by decide)) jbR).mono ?_;rintro e w5 ⟨r1,rfl,hr,kk⟩;have kk:=(ja v5 _).trans kk;obtain⟨Va,Hkb,K,Vf⟩:=lH4 (Va.out.kept kk) (Hkb.out.kept kk) (K.out.trans kk) hr;clear hr kk y0 y1 y2 y3 y4;obtain⟨y0,y1,y2,y3,y4⟩:=Hkb.out.at5;go_wp2_with fail
 refine(Yr (n:=kLd) (t:=[(Vec.cpu,999)]) ⟨_,_,rfl,Va.out.kept (ja _ _)⟩ (zV _ _ _ _ (by decide) (by decide)) jbV).mono ?_;rintro e w6 ⟨r2,rfl,hr,kk⟩;have kk:=(ja w5 _).trans kk;obtain⟨Va,Hkb,Vf,K,Vh⟩:=lH5 (Va.out.kept kk) (Hkb.out.kept kk) (Vf.out.kept kk) (K.out.trans kk) hr;clear hr kk y0 y1 y2 y3 y4;obtain⟨y0,y1,y2,y3,y4⟩:=Hkb.out.at5;go_wp2_with fail
 refine(jbr (n:=kLd) (t:=[]) ⟨_,_,rfl,Va.out⟩ (Vec.Reads.nil _) jbN).mono ?_;rintro e w7 ⟨rfl,kk⟩;obtain⟨Va,Hkb,Vf,Vh,K⟩:=lH5 (Va.out.kept kk) (Hkb.out.kept kk) (Vf.out.kept kk) (Vh.out.kept kk) (K.out.trans kk);clear kk y0 y1 y2 y3 y4;obtain⟨v6,hv6⟩:=eX (w7.alloc (.cells #[.int .i64 100,.int .i64 2,.int .i64 500] 46))
 have kk:Kept w7 v6:=by rw[←hv6];exact ja _ _
 have Hrb:=lH (jl w7 (.int .i64 100) [.int .i64 2,.int .i64 500] 46 v6 (by rw[hv6];exact Kept.refl _));obtain⟨rb,hrb⟩:=eX (w7.heap.size)
 rw[hrb] at Hrb;obtain⟨Va,Hkb,Vf,Vh,K⟩:=lH5 (Va.out.kept kk) (Hkb.out.kept kk) (Vf.out.kept kk) (Vh.out.kept kk) (K.out.trans kk);clear kk;have Ev6:=lH hv6;clear hv6;have Erb:=lH hrb;clear hrb;go_upto_region 8 with fail
 try rw[Ev6.out]
 clear Ev6;try rw[Erb.out]
 clear Erb;go_wp2_with fail
 refine(jbr (n:=kLe) (t:=[]) ⟨_,_,rfl,jbv _⟩ (Vec.Reads.nil _) jbK).mono ?_;rintro e w8 ⟨rfl,kk⟩;obtain⟨Va,Hkb,Vf,Vh,Hrb,K⟩:=lH6 (Va.out.kept kk) (Hkb.out.kept kk) (Vf.out.kept kk) (Vh.out.kept kk) (Hrb.out.kept kk) (K.out.trans kk);clear kk;obtain⟨v7,hv7⟩:=eX (w8.alloc (.cells #[.int .i64 0,.int .i64 0,.int .i64 0] 46))
 have kk:Kept w8 v7:=by rw[←hv7];exact ja _ _
 obtain⟨Va,Hkb,Vf,Vh,Hrb,K⟩:=lH6 (Va.out.kept kk) (Hkb.out.kept kk) (Vf.out.kept kk) (Vh.out.kept kk) (Hrb.out.kept kk) (K.out.trans kk);clear kk;have Ev7:=lH hv7;clear hv7;go_upto_region 9 with fail
 try rw[Ev7.out]
 clear Ev7;go_wp2_with fail
 refine(Yr (n:=kLf) (t:=[]) ⟨_,_,rfl,jbo v7 _⟩ (Vec.Reads.nil _) jbI).mono ?_;rintro e w9 ⟨r3,rfl,hr,kk⟩;have kk:=(ja v7 _).trans kk;obtain⟨Va,Hkb,Vf,Vh,Hrb,K,VJ⟩:=lH7 (Va.out.kept kk) (Hkb.out.kept kk) (Vf.out.kept kk) (Vh.out.kept kk) (Hrb.out.kept kk) (K.out.trans kk) hr;clear hr kk;obtain⟨y0,y1,y2,y3,y4⟩:=Hkb.out.at5;obtain⟨q0,q1,q2⟩:=Hrb.out.at3;go_wp2_with fail
 refine(ja2 _ (HE.out.kept K.out) Vf.out).mono ?_;rintro e t1 ⟨rfl,kk⟩;obtain⟨Va,Hkb,Vf,Vh,Hrb,VJ,K⟩:=lH7 (Va.out.kept kk) (Hkb.out.kept kk) (Vf.out.kept kk) (Vh.out.kept kk) (Hrb.out.kept kk) (VJ.out.kept kk) (K.out.trans kk);clear kk y0 y1 y2 y3 y4 q0 q1 q2;obtain⟨y0,y1,y2,y3,y4⟩:=Hkb.out.at5;obtain⟨q0,q1,q2⟩:=Hrb.out.at3;go_wp2_with fail
 refine(jaQ _ (HE.out.kept K.out) Vh.out).mono ?_;rintro e t2 ⟨rfl,kk⟩;obtain⟨Va,Hkb,Vf,Vh,Hrb,VJ,K⟩:=lH7 (Va.out.kept kk) (Hkb.out.kept kk) (Vf.out.kept kk) (Vh.out.kept kk) (Hrb.out.kept kk) (VJ.out.kept kk) (K.out.trans kk);clear kk y0 y1 y2 y3 y4 q0 q1 q2;obtain⟨y0,y1,y2,y3,y4⟩:=Hkb.out.at5;obtain⟨q0,q1,q2⟩:=Hrb.out.at3;go_wp2_with fail
 refine(ja4 _ (HE.out.kept K.out) VJ.out).mono ?_;rintro e t3 ⟨rfl,kk⟩;obtain⟨Va,Hkb,Vf,Vh,Hrb,VJ,K⟩:=lH7 (Va.out.kept kk) (Hkb.out.kept kk) (Vf.out.kept kk) (Vh.out.kept kk) (Hrb.out.kept kk) (VJ.out.kept kk) (K.out.trans kk);clear kk y0 y1 y2 y3 y4 q0 q1 q2;obtain⟨y0,y1,y2,y3,y4⟩:=Hkb.out.at5;obtain⟨q0,q1,q2⟩:=Hrb.out.at3;go_wp2_with fail
 refine(jaB _ _ _ _ _ _ _ (HE.out.kept K.out) Va.out).mono ?_;rintro e t4 ⟨rfl,kk⟩;obtain⟨Va,Hkb,Vf,Vh,Hrb,VJ,K⟩:=lH7 (Va.out.kept kk) (Hkb.out.kept kk) (Vf.out.kept kk) (Vh.out.kept kk) (Hrb.out.kept kk) (VJ.out.kept kk) (K.out.trans kk);clear kk y0 y1 y2 y3 y4 q0 q1 q2;obtain⟨y0,y1,y2,y3,y4⟩:=Hkb.out.at5;go_wp2_with fail
 refine(ja5 (n:=kLd) ⟨_,_,rfl,Va.out⟩ jbF).mono ?_;rintro e t5 ⟨rfl,kk⟩;obtain⟨Va,Hkb,Vf,Vh,Hrb,VJ,K⟩:=lH7 (Va.out.kept kk) (Hkb.out.kept kk) (Vf.out.kept kk) (Vh.out.kept kk) (Hrb.out.kept kk) (VJ.out.kept kk) (K.out.trans kk);clear kk y0 y1 y2 y3 y4;go_wp2;go_ret;exact⟨rfl,K.out⟩
theorem part_code {l:Vec.V} {p:Int} (h:Vec.Gd l) (hl:l.length≤8) (hp:0≤p):(Vec.jB Vec.jj p l).1=0∨(Vec.jB Vec.jj p l).1=5:=by
 have hcode:∀x:Int,(Vec.jj x p).2=0∨(Vec.jj x p).2=5:=fun x=>by
  unfold Vec.jj;rw[if_neg (by omega)];split
  · exact .inl rfl
  · exact .inr rfl
 have hz:Vec.jj 0 p=(0,0):=by
  have:Vec.j2 0 p=0:=by unfold Vec.j2;simp
  unfold Vec.jj;rw[if_neg (by omega),this,if_pos (by decide)]
 have e:Vec.jB Vec.jj p l=Vec.jv Vec.jj p l []:=by unfold Vec.jB;rw[if_neg (by rw[Vec.X3 h hl];decide)]
 rcases Vec.qX (f:=Vec.jj) (k:=p) hz (fun x _=>hcode x) (fun x hx=>Vec.Yp hx.1 hx.2) l h with ⟨_,hb⟩ | ⟨_,r,hr,_⟩
 · exact .inr (by rw[e,hb])
 · exact .inl (by rw[e,hr])
theorem qe {u c p:Int} (h:jg u c p=0):0≤u∧(0≤c∧c≤128)∧0≤p∧p≤1000000:=by
 unfold jg at h;split at h
 · cases h
 · omega
theorem JF:∀(l:RL) (prev:Option Int),je prev l=0→(∀r ∈ l,jg r.1 r.2.1 r.2.2=0)∧l.Pairwise (fun x y=>x.1<y.1)∧∀q,prev=some q→∀r ∈ l,q<r.1
 | [],prev,_=>⟨fun r h=>absurd h (by simp),.nil,fun q _ r h=>absurd h (by simp)⟩
 | n::t,prev,h=>by
  rw[je] at h;split at h
  · rename_i h1;exact absurd h h1
  · rename_i h1;split at h
    · cases h
    · rename_i h2;have h1':jg n.1 n.2.1 n.2.2=0:=by omega
      obtain⟨i1,i2,i3⟩:=JF t (some n.1) h;have hall:=i3 n.1 rfl;refine⟨fun r hr=>?_,List.pairwise_cons.2 ⟨fun r hr=>hall r hr,i2⟩,fun q hq r hr=>?_⟩
      · rcases List.mem_cons.1 hr with rfl | h
        · exact h1'
        · exact i1 r h
      · subst hq;have hlt:q<n.1:=by
         simp only[qb,decide_eq_true_eq] at h2;omega
        rcases List.mem_cons.1 hr with rfl | h
        · exact hlt
        · have:=hall r h;omega
theorem ZI {l:RL} (h:jF l=0):l.length≤8∧(∀r ∈ l,jg r.1 r.2.1 r.2.2=0)∧l.Pairwise (fun x y=>x.1<y.1):=by
 unfold jF at h;split at h
 · cases h
 · have:=JF l none h;exact⟨by omega,this.1,this.2.1⟩
theorem Jt {l:RL} {g:Int} {r:Int×Int×Int} (h:jJ l g=some r):r ∈ l:=by
 unfold jJ at h;split at h
 · rename_i r' hr;obtain rfl:=Option.some.inj h;exact List.mem_of_find?_eq_some hr
 · exact List.mem_of_getLast? h
theorem JA {l:RL} {g:Int}:(jJ l g).isSome=decide (0<l.length):=by
 cases l with
 | nil=>rfl
 | cons x t =>
  unfold jJ;split
  · simp
  · simp[List.getLast?_cons]
theorem rungAt_high {l:RL} {g:Int} {r:Int×Int×Int} (h:jJ l g=some r):g≤r.1∨l.getLast?=some r:=by
 unfold jJ at h;split at h
 · rename_i r' hr;obtain rfl:=Option.some.inj h;exact .inl (by simpa using List.find?_some hr)
 · exact .inr h
theorem YA:∀{l:RL} {r:Int×Int×Int},l.Pairwise (fun x y=>x.1<y.1)→l.getLast?=some r→∀x ∈ l,x.1≤r.1
 | [],r,_,h,x,hx=>absurd hx (by simp)
 | [y],r,_,h,x,hx=>by
  obtain rfl:y=r:=by simpa using h
  obtain rfl:x=y:=by simpa using hx
  exact Int.le_refl _
 | y::z::t,r,hp,h,x,hx=>by
  rw[List.getLast?_cons_cons] at h;have hp':=List.pairwise_cons.1 hp;rcases List.mem_cons.1 hx with rfl | h2
  · exact Int.le_of_lt (hp'.1 r (List.mem_of_getLast? h))
  · exact YA hp'.2 h x h2
theorem Yv:∀{l:RL} {g:Int} {r:Int×Int×Int},l.Pairwise (fun x y=>x.1<y.1)→l.find? (fun r=>decide (g≤r.1))=some r→∀x ∈ l,g≤x.1→r.1≤x.1
 | [],g,r,_,h,x,hx,_=>absurd hx (by simp)
 | y::t,g,r,hp,h,x,hx,hg=>by
  have hp':=List.pairwise_cons.1 hp;by_cases hy:g≤y.1
  · rw[List.find?_cons_of_pos (by simpa using hy)] at h;obtain rfl:=Option.some.inj h;rcases List.mem_cons.1 hx with rfl | h2
    · exact Int.le_refl _
    · exact Int.le_of_lt (hp'.1 x h2)
  · rw[List.find?_cons_of_neg (by simpa using hy)] at h;rcases List.mem_cons.1 hx with rfl | h2
    · exact absurd hg hy
    · exact Yv hp'.2 h x h2 hg
theorem jah {l:RL} {g g2:Int} {p q:Int×Int×Int} (hp:l.Pairwise (fun x y=>x.1<y.1)) (hg:g≤g2) (h:jJ l g=some p) (h2:jJ l g2=some q):p.1≤q.1:=by
 rcases rungAt_high h2 with h3 | h3
 · have hm:=Jt h2;unfold jJ at h;split at h
   · rename_i r' hr;obtain rfl:=Option.some.inj h;exact Yv hp hr q hm (by omega)
   · rename_i hn;have:=List.find?_eq_none.1 hn q hm;simp at this;omega
 · exact YA hp h3 p (Jt h)
def J0 (n:Lad):Bool:=decide (n.what.size≤50)&&(Vec.j8 n.unit&&decide (n.rungs.length≤20))
theorem q7 (n:Lad) (a1 a2:Option Addr) (l1 c1 l2 c2:Nat) (w:World) (h:jW w (.slice a1 l1 c1) (.slice a2 l2 c2) n):Calls Tryz.prog 10 #[.agg #[.string n.what,.slice a1 l1 c1,.slice a2 l2 c2,.int .i64 n.lo,.int .i64 n.hi]] w (Say (.bool (J0 n)) w):=by
 obtain⟨W0,hW0⟩:=eX (w.alloc (.cells #[.string n.what,.slice a1 l1 c1,.slice a2 l2 c2,.int .i64 n.lo,.int .i64 n.hi] 26))
 have hk0:Kept w W0:=by rw[←hW0];exact ja _ _
 have HL:=lH (jl w (.string n.what) [.slice a1 l1 c1,.slice a2 l2 c2,.int .i64 n.lo,.int .i64 n.hi] 26 W0 (by rw[hW0];exact Kept.refl _));obtain⟨lb,hlb⟩:=eX (w.heap.size)
 rw[hlb] at HL;obtain⟨a9,c9,e9,-,-,-⟩:=h.rungs;obtain⟨rfl,rfl,rfl⟩:a2=a9∧l2=n.rungs.length∧c2=c9:=by cases e9;exact⟨rfl,rfl,rfl⟩
 obtain⟨fv,hfv⟩:=eX (Vec.j8 n.unit)
 have HF:=lH (fun W (k:Kept w W)=>Vec.jbM (h.unit.kept k) hfv);have HV:=lH (show J0 n=(decide (n.what.size≤50)&&(fv&&decide (n.rungs.length≤20))) by unfold J0;rw[hfv]);obtain⟨len,hlen⟩:=eX (n.rungs.length)
 rw[hlen] at HV HL hW0 ⊢;obtain⟨x,hx⟩:=eX (n.what)
 rw[hx] at HV HL hW0 ⊢;have HK:=lH hk0;clear hk0 h e9 hfv hlen hx;by_cases h1:x.size≤50
 · have e1:decide (x.size≤50)=true:=decide_eq_true h1;rw[e1] at HV;have h1':(x.size:Int)≤50:=by omega
   clear e1 h1
   cases fv with
   | true =>
    obtain⟨y0,y1,y2,y3,y4⟩:=HL.out.at5;go_enter Tryz.func10,Tryz.ntmps10;go_wp2_with fail
    try rw[hW0]
    try rw[hlb]
    clear hW0 hlb;refine(HF.out _ HK.out).mono ?_;rintro e w1 ⟨rfl,rfl⟩;clear HF;have hd:decide ((len:Int)≤20)=decide (len≤20):=by simp;omega
    go_wp2;go_ret;exact⟨by rw[HV.out];first | rfl | (simp;omega),HK.out⟩
   | false =>
    obtain⟨y0,y1,y2,y3,y4⟩:=HL.out.at5;go_enter Tryz.func10,Tryz.ntmps10;go_wp2_with fail
    try rw[hW0]
    try rw[hlb]
    clear hW0 hlb;refine(HF.out _ HK.out).mono ?_;rintro e w1 ⟨rfl,rfl⟩;clear HF;go_wp2;go_ret;exact⟨by rw[HV.out];rfl,HK.out⟩
 · have e1:decide (x.size≤50)=false:=decide_eq_false h1;rw[e1] at HV;have h1':¬(x.size:Int)≤50:=by omega
   clear e1 h1 HF;obtain⟨y0,y1,y2,y3,y4⟩:=HL.out.at5;go_enter Tryz.func10,Tryz.ntmps10;go_wp2;try rw[hW0]
   clear hW0 hlb;go_ret;exact⟨by rw[HV.out];rfl,HK.out⟩
def X8 (o:Option (Int×Int×Int)) (lo hi:Int) (u:Vec.V):Int×Vec.V×Int:=match o with
 | none=>(lo,u,0)
 | some r=>if (Vec.jB Vec.jj r.2.2 u).1≠0 then (0,[],(Vec.jB Vec.jj r.2.2 u).1) else (zY r.2.1 lo hi,(Vec.jB Vec.jj r.2.2 u).2,0)
theorem jal {n:Lad} {t:Vec.V} (h:jK n=0):jV n t=X8 (atL n t) n.lo n.hi n.unit:=by
 unfold jV X8;rw[if_neg (by rw[h];decide)];rfl
theorem qt {n:Lad} (h:J0 n=true):n.what.size≤50∧Vec.j8 n.unit=true∧n.rungs.length≤20:=by
 unfold J0 at h;simpa [Bool.and_eq_true] using h
theorem JL {n:Lad} (h:jK n=0):zz n.what=0∧Vec.jf n.unit=0∧jz n.lo n.hi=0∧jF n.rungs=0:=Yz h
theorem jbp {a b:Int} (h:jz a b=0):0≤a∧a≤b∧b≤128:=by
 unfold jz at h;split at h
 · cases h
 · omega
end Go.Proofs.YtnfojaidmnccoaaGreatDoor
