/- What serves all packages,and package by package the contracts of the functions that the law calls. -/
import Derived.Test.YthmddloeggdohaaGreatDoorG3
import Derived.Test.YthmddloeggdohaaGreatDoorG4
import Derived.Test.YthmddloeggdohaaGreatDoorG5
import Derived.Test.YthmddloeggdohaaGreatDoorG6
import Derived.Test.YthmddloeggdohaaGreatDoorG7
import Derived.Test.YthmddloeggdohaaGreatDoorG8
import Derived.Test.YthmddloeggdohaaGreatDoorG9
set_option linter.unusedVariables false
set_option maxRecDepth 100000
set_option maxHeartbeats 25600000
namespace Go.Proofs.YthmddloeggdohaaGreatDoor
open Go.RowKit
theorem jjR (R B:Nat) (line:Int) (r:List UInt8) (n:Nod) (v1 v2 v3:Value) (s:Clu) (w:World) (hE:Jf w) (hr:r.length≤900000) (hP:∀W,Jf W→Calls Tryz.prog 85 #[.string (bytes r)] W fun e w'=>∃v,e=.returned (.tuple #[v,.int .i64 0])∧JJ W.heap.size w' v n∧Kept W w') (hR:jf R [v1,v2,v3,.int .i64 line] w) (h:jW (fun b=>b<B) B w v1 v2 v3 s) (hRB:R<B) (hB:B≤w.heap.size) (hl:s.nodes.length≤1000) (ha:Zs (s.nodes.map fun n=>n.name)) :
 Calls Tryz.prog 50 #[.pointer (some ⟨R,0,none⟩),.string (bytes ([110,111,100,101]++32::r))] w (XL R B line s (.node n) w):=by
 obtain⟨ap,len,cap,hlen,rfl⟩:∃ap len cap,s.nodes.length=len∧v1=.slice ap len cap:=by
  obtain⟨lx,e,ho,-⟩:=h.n;obtain⟨a,c,e2,-⟩:=ho.at_;exact⟨a,_,c,by rw[←e,List.length_map],e2⟩
 obtain⟨tx,htx⟩:∃q,bytes ([110,111,100,101]++32::r)=q:=⟨_,rfl⟩
 have HTX:=lH htx;have hne:(tx.toList==([]:List UInt8))=false:=by rw[←htx,jn];rfl
 have HPF:=lH (show Calls Tryz.prog 81 #[.string tx,.string ⟨#[35]⟩] w fun e w'=>e=.returned (.bool false)∧w'=w by
  have:=Zd ([110,111,100,101]++32::r) [35] w;rw[htx] at this;exact this)
 have HCU:=lH (show Calls Tryz.prog 82 #[.string tx,.string ⟨#[32]⟩] w fun e w'=>e=.returned (.tuple #[.string ⟨#[110,111,100,101]⟩,.string (bytes r),.bool true])∧∃n,w'=w.drewN n by
  have:=JC 32 ([110,111,100,101]++32::r) w hE.toEnvT.toEnv.base (by simp;omega);rw[JM (c:=32) (x:=[110,111,100,101]) r (by decide),htx] at this;exact this)
 have HE:=lH hE;have HP:=lH hP;have HR:=lH hR;have H3:=lH h;have HA:=lH ha;have HL:=lH hlen;have HB:=lH hB;rw[hlen] at hl;rw[htx];clear hE hP hR h ha hB htx hlen;go_enter Tryz.func50,Tryz.ntmps50;go_wp2_with fail
 refine HPF.out.mono ?_;rintro e wa ⟨rfl,rfl⟩;obtain⟨w,rfl⟩:∃W,W=wa:=⟨_,rfl⟩
 go_wp2_with fail
 refine HCU.out.mono ?_;rintro e wa ⟨rfl,nq,rfl⟩;go_upto_region 5 with fail
 obtain⟨w1,hw1⟩:∃W,w.drewN nq=W:=⟨_,rfl⟩
 have K1:=lH (show Kept w w1 by rw[←hw1];exact Kept.drewN _ _);try rw[hw1]
 clear hw1 hne HPF HCU;have J:=lH (K1.out.trans (Kept.drew w1));refine wp_region_held_drew (S:=fun W=>True) (by kernel_rfl) trivial (fun hHeld=>?_);obtain⟨w2,hw2⟩:∃W,w1.drew=W:=⟨_,rfl⟩
 rw[hw2] at J;try rw[hw2]
 clear hw2;refine tkJ 0 ?_;refine tkJ 1 ?_;refine tkJ 2 ?_;refine tkJ 3 ?_;refine tkJ 4 ?_;refine tkJ 6 ?_;try simp only[nP]
 refine rdH (rs:=[5,7]) (h:=coH (fun K9 hK9=>?_) (coH (fun K9 hK9=>?_) AllReadyH.nil))
 · skip;have yq:=(HR.out.kept J.out).at_ 0 _ rfl;go_simp;refine hK9.out _ _ trivial (fun hHeldL=>?_);clear hK9 K9 yq;try simp only[nP]
   refine rd1 7 fun K9 hK9=>?_;go_simp;refine(HP.out _ (HE.out.kept J.out)).mono ?_;rintro e x1 ⟨pv,rfl,hv,kk⟩;have HSZ:=lH J.out.size;have H3P:=lH (H3.out.kept J.out);have J:=lH (J.out.trans kk);obtain⟨a1,m1,c1,a2,m2,c2,a3,m3,c3,rfl,g0,g1,g2,g3,b1,b2,b3⟩:=hv;have hat:Jo x1 (.slice a1 m1 c1) (.slice a2 m2 c2) (.slice a3 m3 c3) n:=⟨g0,g1,g2,g3⟩
   have HZ:=lH (show Off (Tri (fun b=>b<B) (.slice ap len cap) v2 v3) x1 fun u=>At3 u (n,(a1,m1,c1),(a2,m2,c2),(a3,m3,c3)) from Jo.off (B:=w2.heap.size) hat b1 b2 b3 (fun q hq ht=>by
    rcases ht with ht | ht
    · have:=HB.out;have:=HSZ.out;omega
    · have:=(H3P.out.lt ht).2;omega))
   skip;clear hat kk b1 b2 b3 g0 g1 g2 g3;refine hK9.out _ _ trivial (fun hHeldP=>?_);clear hK9 K9;try simp only[nP]
   refine tkJ 8 ?_;refine tkJ 9 ?_;try simp only[nP]
   refine rd1 10 fun K9 hK9=>?_;go_simp;refine(qX _ _ _ _ _ _ _ _ _ _ _ _).mono ?_;rintro e x2 ⟨rfl,kk⟩;have J:=lH (J.out.trans kk);have HZ:=lH (HZ.out.step (jc.of kk));clear kk;refine hK9.out _ _ trivial (fun hHeldS=>?_);clear hK9 K9;try simp only[nP]
   refine rd1 11 fun K9 hK9=>?_;go_simp;refine(jbp (fun b=>b<B) B ap len cap v2 v3 s n a1 m1 c1 a2 m2 c2 a3 m3 c3 32 x2 (H3.out.kept J.out) (by omega) (fun q hq=>by have:=HB.out;have:=J.out.size;omega) (Nat.le_trans HB.out J.out.size) HZ.out HA.out).mono ?_;rintro e x3 (⟨hh,rfl,kk⟩ | ⟨hh,hm,rfl,kk⟩ | ⟨hh,hm,g,c,rfl,ho,hg⟩)
   · have hst:jj s (.node n)=(6,s):=by unfold jj;dsimp only;rw[if_pos hh]
     exact⟨rfl,jc.of (J.out.trans kk),_,_,_,HR.out.kept (J.out.trans kk),by rw[hst];exact H3.out.kept (J.out.trans kk),.inr ⟨by rw[hst];exact(by decide:(6:Int)≠0),by rw[hst]⟩⟩
   · have hst:jj s (.node n)=(4,s):=by unfold jj;dsimp only;rw[if_neg (by rw[hh];decide),if_pos (HL.out.trans hm)]
     exact⟨rfl,jc.of (J.out.trans kk),_,_,_,HR.out.kept (J.out.trans kk),by rw[hst];exact H3.out.kept (J.out.trans kk),.inr ⟨by rw[hst];exact(by decide:(4:Int)≠0),by rw[hst]⟩⟩
   · have HST:=lH (show jj s (.node n)=(0,qg s n) by unfold jj;dsimp only;rw[if_neg (by rw[hh];decide),if_neg (by rw[HL.out];exact hm)]);have HO:=lH ho;have HG:=lH hg;have HNR:=lH (show ∀q,(Value.slice ap len cap).ownBlock=some q→q≠R from fun q e he=>H3.out.sep q (.inl e) (by rw[he];exact hRB));have HGE:=lH (show ∀q,(Value.slice ap len cap).ownBlock=some q→B≤q from fun q e=>(H3.out.lt (.inl e)).1);clear hh hm ho hg;have HRX:=lH ((HR.out.kept J.out).block (HG.out.block R (by have:=HB.out;have:=J.out.size;omega) (fun e=>HNR.out R e rfl)));refine hK9.out _ _ trivial (fun hHeldW=>?_);clear hK9 K9;try simp only[nP]
     refine tkJ 12 ?_;refine tkJ 13 ?_;refine tkJ 14 ?_;try simp only[nP]
     have q1:=HRX.out.at_ 0 _ rfl;have f1:=HRX.out.free 0;refine rd1 15 fun K9 hK9=>?_;go_simp;obtain⟨x4,hx4⟩:∃W,x3.setCell ⟨R,0,none⟩ (.slice (some ⟨g,0,none⟩) (len+1) c)=W:=⟨_,rfl⟩
     have HRY:=lH (show jf R [.slice (some ⟨g,0,none⟩) (len+1) c,v2,v3,.int .i64 line] x4 by rw[←hx4];exact HRX.out.set (j:=0) (by simp));have HGC:=lH (show jc (fun b=>b=R) x3 x4 by rw[←hx4];exact jc.cell (S:=fun b=>b=R) R _ _ rfl);try rw[hx4]
     refine hK9.out _ _ trivial (fun hHeldX=>?_);clear hK9 K9 q1 f1 hx4;try simp only[nP]
     refine wpAnyH_done (by kernel_rfl) ?_ _;go_wp2;refine⟨rfl,.tuple #[],by simp[results,Tryz.results50,go_sem],?_⟩;exact⟨((jc.of J.out).trans (HG.out.mono fun b e=>.inr (HGE.out b e))).trans (HGC.out.mono fun b e=>.inl e),_,_,_,HRY.out,by rw[HST.out];exact HO.out.step (HGC.out.mono fun b e=>by rw[e];exact hRB),.inl ⟨by rw[HST.out],_,rfl⟩⟩
 · go_simp;refine(HP.out _ (HE.out.kept J.out)).mono ?_;rintro e x1 ⟨pv,rfl,hv,kk⟩;have HSZ:=lH J.out.size;have H3P:=lH (H3.out.kept J.out);have J:=lH (J.out.trans kk);obtain⟨a1,m1,c1,a2,m2,c2,a3,m3,c3,rfl,g0,g1,g2,g3,b1,b2,b3⟩:=hv;have hat:Jo x1 (.slice a1 m1 c1) (.slice a2 m2 c2) (.slice a3 m3 c3) n:=⟨g0,g1,g2,g3⟩
   have HZ:=lH (show Off (Tri (fun b=>b<B) (.slice ap len cap) v2 v3) x1 fun u=>At3 u (n,(a1,m1,c1),(a2,m2,c2),(a3,m3,c3)) from Jo.off (B:=w2.heap.size) hat b1 b2 b3 (fun q hq ht=>by
    rcases ht with ht | ht
    · have:=HB.out;have:=HSZ.out;omega
    · have:=(H3P.out.lt ht).2;omega))
   skip;clear hat kk b1 b2 b3 g0 g1 g2 g3;refine hK9.out _ _ trivial (fun hHeldP=>?_);clear hK9 K9;try simp only[nP]
   refine tkJ 8 ?_;refine tkJ 9 ?_;try simp only[nP]
   refine rdH (rs:=[5,10]) (h:=coH (fun K9 hK9=>?_) (coH (fun K9 hK9=>?_) AllReadyH.nil))
   · skip;have yq:=(HR.out.kept J.out).at_ 0 _ rfl;go_simp;refine hK9.out _ _ trivial (fun hHeldL=>?_);clear hK9 K9 yq;try simp only[nP]
     refine rd1 10 fun K9 hK9=>?_;go_simp;refine(qX _ _ _ _ _ _ _ _ _ _ _ _).mono ?_;rintro e x2 ⟨rfl,kk⟩;have J:=lH (J.out.trans kk);have HZ:=lH (HZ.out.step (jc.of kk));clear kk;refine hK9.out _ _ trivial (fun hHeldS=>?_);clear hK9 K9;try simp only[nP]
     refine rd1 11 fun K9 hK9=>?_;go_simp;refine(jbp (fun b=>b<B) B ap len cap v2 v3 s n a1 m1 c1 a2 m2 c2 a3 m3 c3 32 x2 (H3.out.kept J.out) (by omega) (fun q hq=>by have:=HB.out;have:=J.out.size;omega) (Nat.le_trans HB.out J.out.size) HZ.out HA.out).mono ?_;rintro e x3 (⟨hh,rfl,kk⟩ | ⟨hh,hm,rfl,kk⟩ | ⟨hh,hm,g,c,rfl,ho,hg⟩)
     · have hst:jj s (.node n)=(6,s):=by unfold jj;dsimp only;rw[if_pos hh]
       exact⟨rfl,jc.of (J.out.trans kk),_,_,_,HR.out.kept (J.out.trans kk),by rw[hst];exact H3.out.kept (J.out.trans kk),.inr ⟨by rw[hst];exact(by decide:(6:Int)≠0),by rw[hst]⟩⟩
     · have hst:jj s (.node n)=(4,s):=by unfold jj;dsimp only;rw[if_neg (by rw[hh];decide),if_pos (HL.out.trans hm)]
       exact⟨rfl,jc.of (J.out.trans kk),_,_,_,HR.out.kept (J.out.trans kk),by rw[hst];exact H3.out.kept (J.out.trans kk),.inr ⟨by rw[hst];exact(by decide:(4:Int)≠0),by rw[hst]⟩⟩
     · have HST:=lH (show jj s (.node n)=(0,qg s n) by unfold jj;dsimp only;rw[if_neg (by rw[hh];decide),if_neg (by rw[HL.out];exact hm)]);have HO:=lH ho;have HG:=lH hg;have HNR:=lH (show ∀q,(Value.slice ap len cap).ownBlock=some q→q≠R from fun q e he=>H3.out.sep q (.inl e) (by rw[he];exact hRB));have HGE:=lH (show ∀q,(Value.slice ap len cap).ownBlock=some q→B≤q from fun q e=>(H3.out.lt (.inl e)).1);clear hh hm ho hg;have HRX:=lH ((HR.out.kept J.out).block (HG.out.block R (by have:=HB.out;have:=J.out.size;omega) (fun e=>HNR.out R e rfl)));refine hK9.out _ _ trivial (fun hHeldW=>?_);clear hK9 K9;try simp only[nP]
       refine tkJ 12 ?_;refine tkJ 13 ?_;refine tkJ 14 ?_;try simp only[nP]
       have q1:=HRX.out.at_ 0 _ rfl;have f1:=HRX.out.free 0;refine rd1 15 fun K9 hK9=>?_;go_simp;obtain⟨x4,hx4⟩:∃W,x3.setCell ⟨R,0,none⟩ (.slice (some ⟨g,0,none⟩) (len+1) c)=W:=⟨_,rfl⟩
       have HRY:=lH (show jf R [.slice (some ⟨g,0,none⟩) (len+1) c,v2,v3,.int .i64 line] x4 by rw[←hx4];exact HRX.out.set (j:=0) (by simp));have HGC:=lH (show jc (fun b=>b=R) x3 x4 by rw[←hx4];exact jc.cell (S:=fun b=>b=R) R _ _ rfl);try rw[hx4]
       refine hK9.out _ _ trivial (fun hHeldX=>?_);clear hK9 K9 q1 f1 hx4;try simp only[nP]
       refine wpAnyH_done (by kernel_rfl) ?_ _;go_wp2;refine⟨rfl,.tuple #[],by simp[results,Tryz.results50,go_sem],?_⟩;exact⟨((jc.of J.out).trans (HG.out.mono fun b e=>.inr (HGE.out b e))).trans (HGC.out.mono fun b e=>.inl e),_,_,_,HRY.out,by rw[HST.out];exact HO.out.step (HGC.out.mono fun b e=>by rw[e];exact hRB),.inl ⟨by rw[HST.out],_,rfl⟩⟩
   · go_simp;refine(qX _ _ _ _ _ _ _ _ _ _ _ _).mono ?_;rintro e x2 ⟨rfl,kk⟩;have J:=lH (J.out.trans kk);have HZ:=lH (HZ.out.step (jc.of kk));clear kk;refine hK9.out _ _ trivial (fun hHeldS=>?_);clear hK9 K9;try simp only[nP]
     refine rd1 5 fun K9 hK9=>?_;have yq:=(HR.out.kept J.out).at_ 0 _ rfl;go_simp;refine hK9.out _ _ trivial (fun hHeldL=>?_);clear hK9 K9 yq;try simp only[nP]
     refine rd1 11 fun K9 hK9=>?_;go_simp;refine(jbp (fun b=>b<B) B ap len cap v2 v3 s n a1 m1 c1 a2 m2 c2 a3 m3 c3 32 x2 (H3.out.kept J.out) (by omega) (fun q hq=>by have:=HB.out;have:=J.out.size;omega) (Nat.le_trans HB.out J.out.size) HZ.out HA.out).mono ?_;rintro e x3 (⟨hh,rfl,kk⟩ | ⟨hh,hm,rfl,kk⟩ | ⟨hh,hm,g,c,rfl,ho,hg⟩)
     · have hst:jj s (.node n)=(6,s):=by unfold jj;dsimp only;rw[if_pos hh]
       exact⟨rfl,jc.of (J.out.trans kk),_,_,_,HR.out.kept (J.out.trans kk),by rw[hst];exact H3.out.kept (J.out.trans kk),.inr ⟨by rw[hst];exact(by decide:(6:Int)≠0),by rw[hst]⟩⟩
     · have hst:jj s (.node n)=(4,s):=by unfold jj;dsimp only;rw[if_neg (by rw[hh];decide),if_pos (HL.out.trans hm)]
       exact⟨rfl,jc.of (J.out.trans kk),_,_,_,HR.out.kept (J.out.trans kk),by rw[hst];exact H3.out.kept (J.out.trans kk),.inr ⟨by rw[hst];exact(by decide:(4:Int)≠0),by rw[hst]⟩⟩
     · have HST:=lH (show jj s (.node n)=(0,qg s n) by unfold jj;dsimp only;rw[if_neg (by rw[hh];decide),if_neg (by rw[HL.out];exact hm)]);have HO:=lH ho;have HG:=lH hg;have HNR:=lH (show ∀q,(Value.slice ap len cap).ownBlock=some q→q≠R from fun q e he=>H3.out.sep q (.inl e) (by rw[he];exact hRB));have HGE:=lH (show ∀q,(Value.slice ap len cap).ownBlock=some q→B≤q from fun q e=>(H3.out.lt (.inl e)).1);clear hh hm ho hg;have HRX:=lH ((HR.out.kept J.out).block (HG.out.block R (by have:=HB.out;have:=J.out.size;omega) (fun e=>HNR.out R e rfl)));refine hK9.out _ _ trivial (fun hHeldW=>?_);clear hK9 K9;try simp only[nP]
       refine tkJ 12 ?_;refine tkJ 13 ?_;refine tkJ 14 ?_;try simp only[nP]
       have q1:=HRX.out.at_ 0 _ rfl;have f1:=HRX.out.free 0;refine rd1 15 fun K9 hK9=>?_;go_simp;obtain⟨x4,hx4⟩:∃W,x3.setCell ⟨R,0,none⟩ (.slice (some ⟨g,0,none⟩) (len+1) c)=W:=⟨_,rfl⟩
       have HRY:=lH (show jf R [.slice (some ⟨g,0,none⟩) (len+1) c,v2,v3,.int .i64 line] x4 by rw[←hx4];exact HRX.out.set (j:=0) (by simp));have HGC:=lH (show jc (fun b=>b=R) x3 x4 by rw[←hx4];exact jc.cell (S:=fun b=>b=R) R _ _ rfl);try rw[hx4]
       refine hK9.out _ _ trivial (fun hHeldX=>?_);clear hK9 K9 q1 f1 hx4;try simp only[nP]
       refine wpAnyH_done (by kernel_rfl) ?_ _;go_wp2;refine⟨rfl,.tuple #[],by simp[results,Tryz.results50,go_sem],?_⟩;exact⟨((jc.of J.out).trans (HG.out.mono fun b e=>.inr (HGE.out b e))).trans (HGC.out.mono fun b e=>.inl e),_,_,_,HRY.out,by rw[HST.out];exact HO.out.step (HGC.out.mono fun b e=>by rw[e];exact hRB),.inl ⟨by rw[HST.out],_,rfl⟩⟩
theorem jeE (n:Pd) (a1:Option Addr) (m1:Nat) (c1:Nat) (a2:Option Addr) (m2:Nat) (c2:Nat) (a3:Option Addr) (m3:Nat) (c3:Nat) (a4:Option Addr) (m4:Nat) (c4:Nat) (w:World):Calls Tryz.prog 90 #[.agg #[.string n.name,.string n.owner,.int .i64 n.prio,.slice a1 m1 c1,.slice a2 m2 c2,.slice a3 m3 c3,.slice a4 m4 c4,.string n.key,.int .i64 n.most,.string n.node,.bool n.hold]] w (Say (.string n.name) w):=by
 obtain⟨Z,hZ⟩:∃Z,w.alloc (.cells #[.string n.name,.string n.owner,.int .i64 n.prio,.slice a1 m1 c1,.slice a2 m2 c2,.slice a3 m3 c3,.slice a4 m4 c4,.string n.key,.int .i64 n.most,.string n.node,.bool n.hold] 62)=Z:=⟨_,rfl⟩
 have hkz:Kept w Z:=by rw[←hZ];exact ja _ _
 have c0:=(jg w (.string n.name) [.string n.owner,.int .i64 n.prio,.slice a1 m1 c1,.slice a2 m2 c2,.slice a3 m3 c3,.slice a4 m4 c4,.string n.key,.int .i64 n.most,.string n.node,.bool n.hold] 62 Z (by rw[hZ];exact Kept.refl _)).at_ 0 _ rfl;have HKZ:=lH hkz;clear hkz;go_enter Tryz.func90,Tryz.ntmps90;go_upto_region 1 with fail
 try rw[hZ]
 clear hZ;go_wp2;go_ret;exact⟨rfl,HKZ.out⟩
theorem jfJ (n:Pd) (a1:Option Addr) (m1:Nat) (c1:Nat) (a2:Option Addr) (m2:Nat) (c2:Nat) (a3:Option Addr) (m3:Nat) (c3:Nat) (a4:Option Addr) (m4:Nat) (c4:Nat) (x:ByteArray) (q:Nat) (w:World) (hq:w.cell? ⟨q,0,none⟩=some (.func (.func 90) #[] #[])):Calls Tryz.prog 127 #[.agg #[.string n.name,.string n.owner,.int .i64 n.prio,.slice a1 m1 c1,.slice a2 m2 c2,.slice a3 m3 c3,.slice a4 m4 c4,.string n.key,.int .i64 n.most,.string n.node,.bool n.hold],.string x,.pointer (some ⟨q,0,none⟩)] w (Say (.int .i64 (Zx n.name x)) w):=by
 obtain⟨Z,hZ⟩:∃Z,w.alloc (.cells #[.string n.name,.string n.owner,.int .i64 n.prio,.slice a1 m1 c1,.slice a2 m2 c2,.slice a3 m3 c3,.slice a4 m4 c4,.string n.key,.int .i64 n.most,.string n.node,.bool n.hold] 62)=Z:=⟨_,rfl⟩
 have hkz:Kept w Z:=by rw[←hZ];exact ja _ _
 have HC:=lH (show jf w.heap.size [.string n.name,.string n.owner,.int .i64 n.prio,.slice a1 m1 c1,.slice a2 m2 c2,.slice a3 m3 c3,.slice a4 m4 c4,.string n.key,.int .i64 n.most,.string n.node,.bool n.hold] Z from jg w (.string n.name) [.string n.owner,.int .i64 n.prio,.slice a1 m1 c1,.slice a2 m2 c2,.slice a3 m3 c3,.slice a4 m4 c4,.string n.key,.int .i64 n.most,.string n.node,.bool n.hold] 62 Z (by rw[hZ];exact Kept.refl _));have zq:=cell_later hkz hq;have HKZ:=lH hkz;clear hkz hq;have z0:=HC.out.at_ 0 _ rfl;have z1:=HC.out.at_ 1 _ rfl;have z2:=HC.out.at_ 2 _ rfl;have z3:=HC.out.at_ 3 _ rfl;have z4:=HC.out.at_ 4 _ rfl;have z5:=HC.out.at_ 5 _ rfl;have z6:=HC.out.at_ 6 _ rfl;have z7:=HC.out.at_ 7 _ rfl;have z8:=HC.out.at_ 8 _ rfl;have z9:=HC.out.at_ 9 _ rfl;have z10:=HC.out.at_ 10 _ rfl;go_enter Tryz.func127,Tryz.ntmps127;go_upto_region 1 with fail
 try rw[hZ]
 clear hZ;go_wp2_with fail
 refine(jeE n a1 m1 c1 a2 m2 c2 a3 m3 c3 a4 m4 c4 Z).mono ?_;rintro e w1 ⟨rfl,kk⟩;have K1:=lH kk;clear kk;go_wp2_with fail
 refine(jc6 n.name x w1).mono ?_;rintro e w2 ⟨rfl,rfl⟩;go_wp2;go_ret;exact⟨rfl,HKZ.out.trans K1.out⟩
theorem jhg (a:Option Addr) (len cap:Nat) (l:List Pd) (x:ByteArray) (q:Nat) (w:World) (hr:Jd w a len l) (ha:Zs (l.map fun n=>n.name)) (hlen:len≤100000) (hq:w.cell? ⟨q,0,none⟩=some (.func (.func 90) #[] #[])):Calls Tryz.prog 126 #[.slice a len cap,.string x,.func (.func 127) #[] #[.pointer (some ⟨q,0,none⟩)]] w (Say (.tuple #[.int .i64 ((zo x (l.map fun n=>n.name):Nat):Int),.bool (hasB x (l.map fun n=>n.name))]) w):=by
 obtain⟨LB,hLB⟩:∃q,zo x (l.map fun n=>n.name)=q:=⟨_,rfl⟩
 obtain⟨HB,hHB⟩:∃q,hasB x (l.map fun n=>n.name)=q:=⟨_,rfl⟩
 have HLB:=lH hLB;have HHB:=lH hHB;have hle:LB≤len:=by have:=Yr x (l.map fun n=>n.name);rw[hLB,List.length_map,hr.1] at this;exact this
 have HL:=lH (show (l.map fun n=>n.name).length=len by rw[List.length_map,hr.1]);have HR:=lH hr;have HA:=lH ha;have HQ:=lH hq;rw[hLB,hHB];clear hr ha hq hLB hHB;go_enter Tryz.func126,Tryz.ntmps126;go_wp2;go_loopw [9,10] (fun iv jv wr=>∃i j:Nat,i≤LB∧LB≤j∧j≤len∧iv=.int .i64 i∧jv=.int .i64 j∧Kept w wr) (fun iv jv _=>(intOf jv).toNat-(intOf iv).toNat)
 case atStart=>exact⟨0,len,Nat.zero_le _,hle,Nat.le_refl _,rfl,rfl,Kept.refl _⟩
 case round =>
  obtain⟨i,j,hi,hj,hjl,rfl,rfl,hK⟩:=hrel;have HK:=lH hK;by_cases hlt:i<j
  · have hij:(i:Int)<(j:Int):=by omega
    obtain⟨hN,hhN⟩:∃q,q=(i+j) / 2:=⟨_,rfl⟩
    have hNl:hN<len:=by omega
    have hNb:i≤hN∧hN<j:=by omega
    have eh:((i:Int)+(j:Int)) / 2=(hN:Int):=by omega
    have hh0:¬(hN:Int)<0:=by omega
    have hh1:(hN:Int)<(len:Int):=by omega
    obtain⟨b,off,rfl⟩:=HR.out.form.resolve_left (by omega);obtain⟨n9,a1,m1,c1,a2,m2,c2,a3,m3,c3,a4,m4,c4,hn,hd,hb,p0,p1,p2,p3,p4,p5,p6,p7,p8,p9,p10,hat⟩:=(HR.out.kept hK).at_ hNl;have HN:=lH (show (l.map fun n=>n.name)[hN]?=some n9.name by rw[List.getElem?_map,hn];rfl);have hq1:=cell_later hK HQ.out;have HCM:=lH (jfJ n9 a1 m1 c1 a2 m2 c2 a3 m3 c3 a4 m4 c4 x q wr hq1);obtain⟨c,hc⟩:∃c,Zx n9.name x=c:=⟨_,rfl⟩
    rw[hc] at HCM;have HC:=lH hc;clear hhN hn hd hb hat hK hq1 hc;go_wp2_with fail
    refine HCM.out.mono ?_;rintro e w1 ⟨rfl,kk⟩;have K1:=lH (HK.out.trans kk);clear kk p0 p1 p2 p3 p4 p5 p6 p7 p8 p9 p10
    cases he:ltS n9.name x with
    | true =>
     have h1:=jb7 HA.out HN.out he;rw[HLB.out] at h1;have hc2:c<0:=by rw[←HC.out,jcZ he];decide
     clear he;go_wp2;go_roundw
     case rel=>exact⟨hN+1,j,h1,hj,hjl,by go_num,rfl,K1.out⟩
     case measure=>simp[intOf];omega
    | false =>
     have h1:=jb2 HN.out he;rw[HLB.out] at h1;have hc2:¬c<0:=by rw[←HC.out,jdc he];split<;>decide
     clear he;go_wp2;go_roundw
     case rel=>exact⟨i,hN,hi,h1,by omega,rfl,rfl,K1.out⟩
     case measure=>simp[intOf];omega
  · have hij:¬(i:Int)<(j:Int):=by omega
    obtain rfl:i=LB:=by omega
    by_cases hle2:i<len
    · have hh1:(i:Int)<(len:Int):=by omega
      have hh0:¬(i:Int)<0:=by omega
      obtain⟨b,off,rfl⟩:=HR.out.form.resolve_left (by omega);obtain⟨n9,a1,m1,c1,a2,m2,c2,a3,m3,c3,a4,m4,c4,hn,hd,hb,p0,p1,p2,p3,p4,p5,p6,p7,p8,p9,p10,hat⟩:=(HR.out.kept hK).at_ hle2;have HN:=lH (show (l.map fun n=>n.name)[i]?=some n9.name by rw[List.getElem?_map,hn];rfl);have hq1:=cell_later hK HQ.out;have HCM:=lH (jfJ n9 a1 m1 c1 a2 m2 c2 a3 m3 c3 a4 m4 c4 x q wr hq1);obtain⟨c,hc⟩:∃c,Zx n9.name x=c:=⟨_,rfl⟩
      rw[hc] at HCM;have hcz:(c==0)=HB:=by rw[←hc,jec,←HHB.out];exact(jca HA.out (by rw[HLB.out];exact HN.out)).symm
      clear hn hd hb hat hK hq1 hc;go_wp2_with fail
      refine HCM.out.mono ?_;rintro e w1 ⟨rfl,kk⟩;have K1:=lH (HK.out.trans kk);clear kk p0 p1 p2 p3 p4 p5 p6 p7 p8 p9 p10;go_wp2;go_ret2
      exact⟨rfl,K1.out⟩
    · have hh1:¬(i:Int)<(len:Int):=by omega
      obtain rfl:HB=false:=by rw[←HHB.out];exact jay (by rw[HLB.out,HL.out];omega)
      clear hK;go_wp2;go_ret2
      exact⟨rfl,HK.out⟩
def joX (S:Nat→Prop) (B:Nat) (ap:Option Addr) (len cap:Nat) (v1 v3:Value) (s:Clu) (n:Pd) (M:Nat) (w:World) (e:Ending) (w':World):Prop :=
 (hasB n.name (s.pods.map fun n=>n.name)=true∧e=.panicked [ju 6]∧Kept w w')∨(hasB n.name (s.pods.map fun n=>n.name)=false∧len=M∧e=.panicked [ju 4]∧Kept w w') ∨
 (hasB n.name (s.pods.map fun n=>n.name)=false∧len≠M∧∃g c,e=.returned (.slice (some ⟨g,0,none⟩) (len+1) c)∧jW S B w' v1 (.slice (some ⟨g,0,none⟩) (len+1) c) v3 { s with pods:=s.pods.take (zo n.name (s.pods.map fun n=>n.name))++n::s.pods.drop (zo n.name (s.pods.map fun n=>n.name)) }∧jc (fun b=>(Value.slice ap len cap).ownBlock=some b) w w')
theorem jbL (S:Nat→Prop) (B:Nat) (ap:Option Addr) (len cap:Nat) (v1 v3:Value) (s:Clu) (n:Pd) (a1:Option Addr) (m1:Nat) (c1:Nat) (a2:Option Addr) (m2:Nat) (c2:Nat) (a3:Option Addr) (m3:Nat) (c3:Nat) (a4:Option Addr) (m4:Nat) (c4:Nat) (M:Nat) (w:World) (h:jW S B w v1 (.slice ap len cap) v3 s) (hlen:len≤100000) (hS:∀k,S k→k<w.heap.size) (hB:B≤w.heap.size) (hz:Off (Tri S v1 (.slice ap len cap) v3) w fun u=>At4 u (n,(a1,m1,c1),(a2,m2,c2),(a3,m3,c3),(a4,m4,c4))) (ha:Zs (s.pods.map fun n=>n.name)) :
 Calls Tryz.prog 87 #[.slice ap len cap,.agg #[.string n.name,.string n.owner,.int .i64 n.prio,.slice a1 m1 c1,.slice a2 m2 c2,.slice a3 m3 c3,.slice a4 m4 c4,.string n.key,.int .i64 n.most,.string n.node,.bool n.hold],.func (.func 90) #[] #[],.int .i64 (M:Int)] w (joX S B ap len cap v1 v3 s n M w):=by
 obtain⟨Z,hZ⟩:∃Z,(w.alloc (.cells #[.string n.name,.string n.owner,.int .i64 n.prio,.slice a1 m1 c1,.slice a2 m2 c2,.slice a3 m3 c3,.slice a4 m4 c4,.string n.key,.int .i64 n.most,.string n.node,.bool n.hold] 62)).alloc (.cells #[.func (.func 90) #[] #[]] 63)=Z:=⟨_,rfl⟩
 have hkz:Kept w Z:=by rw[←hZ];exact jk _ _ _
 have HC:=lH (show jf w.heap.size [.string n.name,.string n.owner,.int .i64 n.prio,.slice a1 m1 c1,.slice a2 m2 c2,.slice a3 m3 c3,.slice a4 m4 c4,.string n.key,.int .i64 n.most,.string n.node,.bool n.hold] Z from jg w (.string n.name) [.string n.owner,.int .i64 n.prio,.slice a1 m1 c1,.slice a2 m2 c2,.slice a3 m3 c3,.slice a4 m4 c4,.string n.key,.int .i64 n.most,.string n.node,.bool n.hold] 62 Z (by rw[←hZ];exact ja _ _));have HQ:=lH (show jf (w.heap.size+1) [.func (.func 90) #[] #[]] Z by
  have dd:=jg (w.alloc (.cells #[.string n.name,.string n.owner,.int .i64 n.prio,.slice a1 m1 c1,.slice a2 m2 c2,.slice a3 m3 c3,.slice a4 m4 c4,.string n.key,.int .i64 n.most,.string n.node,.bool n.hold] 62)) (.func (.func 90) #[] #[]) [] 63 Z (by rw[hZ];exact Kept.refl _);rw[World.size_alloc] at dd;exact dd)
 have hrow:Jd Z ap len s.pods:=by
  have hr:=(h.kept hkz).toR;obtain⟨_,_,_,e,hat⟩:=hr
  cases e
  obtain⟨_,_,e,-,-,g⟩:=hat.pods
  cases e
  exact g
 have HR:=lH hrow;have H3:=lH (h.kept hkz);have HZ9:=lH (hz.step (jc.of hkz));have HS:=lH (show ∀k,S k→k<Z.heap.size from fun k e=>Nat.lt_of_lt_of_le (hS k e) hkz.size);have HB:=lH (show B≤Z.heap.size from Nat.le_trans hB hkz.size);have HA:=lH ha;have HLN:=lH (show s.pods.length=len from hrow.1);have HKZ:=lH hkz;have HLT:=lH (show ∀g,(Value.slice ap len cap).ownBlock=some g→g<w.heap.size from fun g hg=>(h.lt (by first | exact .inl hg | exact .inr (.inl hg) | exact .inr (.inr hg))).2);obtain⟨HBv,hHB⟩:∃q,hasB n.name (s.pods.map fun n=>n.name)=q:=⟨_,rfl⟩
 obtain⟨LB,hLB⟩:∃q,zo n.name (s.pods.map fun n=>n.name)=q:=⟨_,rfl⟩
 have HHB:=lH hHB;have HLB:=lH hLB;have hle:LB≤len:=by rw[←hLB];have:=Yr n.name (s.pods.map fun n=>n.name);rw[List.length_map,hrow.1] at this;exact this
 clear h hz hS hB hkz hrow ha hHB hLB;have c0z:=HC.out.at_ 0 _ rfl;have c1z:=HC.out.at_ 1 _ rfl;have c2z:=HC.out.at_ 2 _ rfl;have c3z:=HC.out.at_ 3 _ rfl;have c4z:=HC.out.at_ 4 _ rfl;have c5z:=HC.out.at_ 5 _ rfl;have c6z:=HC.out.at_ 6 _ rfl;have c7z:=HC.out.at_ 7 _ rfl;have c8z:=HC.out.at_ 8 _ rfl;have c9z:=HC.out.at_ 9 _ rfl;have c10z:=HC.out.at_ 10 _ rfl;have cqz:=HQ.out.at_ 0 _ rfl;go_enter Tryz.func87,Tryz.ntmps87;go_upto_region 1 with fail
 try rw[hZ]
 clear hZ;go_wp2_with fail
 refine(jeE n a1 m1 c1 a2 m2 c2 a3 m3 c3 a4 m4 c4 Z).mono ?_;rintro e w1 ⟨rfl,kk⟩;have K1:=lH kk;clear kk;have HSE:=lH (jhg ap len cap s.pods n.name (w.heap.size+1) w1 (HR.out.kept K1.out) HA.out hlen ((HQ.out.kept K1.out).at_ 0 _ rfl));rw[HHB.out,HLB.out] at HSE;go_wp2_with fail
 refine HSE.out.mono ?_;rintro e w2 ⟨rfl,kk⟩;have K2:=lH (K1.out.trans kk);clear kk HSE c0z c1z c2z c3z c4z c5z c6z c7z c8z c9z c10z cqz
 cases HBv with
 | true =>
  go_wp2;exact⟨rfl,.inl ⟨HHB.out,rfl,HKZ.out.trans K2.out⟩⟩
 | false =>
  by_cases hM:len=M
  · subst hM;have hme:((len:Int)==(len:Int))=true:=by simp
    go_wp2;exact⟨rfl,.inr (.inl ⟨HHB.out,rfl,rfl,HKZ.out.trans K2.out⟩)⟩
  have hme:((len:Int)==(M:Int))=false:=by simp;omega
  have c0z:=(HC.out.kept K2.out).at_ 0 _ rfl;have c1z:=(HC.out.kept K2.out).at_ 1 _ rfl;have c2z:=(HC.out.kept K2.out).at_ 2 _ rfl;have c3z:=(HC.out.kept K2.out).at_ 3 _ rfl;have c4z:=(HC.out.kept K2.out).at_ 4 _ rfl;have c5z:=(HC.out.kept K2.out).at_ 5 _ rfl;have c6z:=(HC.out.kept K2.out).at_ 6 _ rfl;have c7z:=(HC.out.kept K2.out).at_ 7 _ rfl;have c8z:=(HC.out.kept K2.out).at_ 8 _ rfl;have c9z:=(HC.out.kept K2.out).at_ 9 _ rfl;have c10z:=(HC.out.kept K2.out).at_ 10 _ rfl;go_wp2_with fail
  obtain⟨W3,hW3⟩:∃W,w2.alloc (.cells #[.string n.name,.string n.owner,.int .i64 n.prio,.slice a1 m1 c1,.slice a2 m2 c2,.slice a3 m3 c3,.slice a4 m4 c4,.string n.key,.int .i64 n.most,.string n.node,.bool n.hold] 62)=W:=⟨_,rfl⟩
  have hk3:Kept w2 W3:=by rw[←hW3];exact ja _ _
  have hh3:W3.heap[w2.heap.size]?=some (.cells (zi.cs (n,(a1,m1,c1),(a2,m2,c2),(a3,m3,c3),(a4,m4,c4))).toArray 62 (0,0)):=by rw[←hW3];exact World.alloc_heap_new w2 _
  have K3:=lH (K2.out.trans hk3);try rw[hW3]
  have hins:=jml (i:=LB) (vc:=1) (H3.out.kept K3.out) (n,(a1,m1,c1),(a2,m2,c2),(a3,m3,c3),(a4,m4,c4)) hle hlen (Nat.le_trans HB.out K3.out.size) (fun k e=>Nat.lt_of_lt_of_le (HS.out k e) K3.out.size) hh3 (fun e=>by have h1:=HLT.out _ e;have h2:=HKZ.out.size;have h3:=K2.out.size;omega) (HZ9.out.step (jc.of K3.out));clear hW3 hk3 hh3 c0z c1z c2z c3z c4z c5z c6z c7z c8z c9z c10z;refine hins.mono ?_;clear hins;rintro e w4 ⟨g,c,rfl,ho,hg,-⟩;have HO:=lH ho;have HG:=lH ((jc.of (HKZ.out.trans K3.out)).trans hg);clear ho hg;go_wp2;go_ret;exact .inr (.inr ⟨HHB.out,hM,g,c,rfl,by rw[HLB.out];exact HO.out,HG.out⟩)
theorem jbk (B:Nat) (q:Nat) (x y:Int) (w:World) (hq:w.cell? ⟨q,0,none⟩=some (.int .i64 y)) (hzq:w.frozen? ⟨q,0,none⟩=false) (hBq:B≤q) :
 CallsD Tryz.prog 170 #[.pointer (some ⟨q,0,none⟩)] (.panicking [ju x]) w fun e u' w' =>
  e=.returned (.tuple #[])∧u'=.panicking [{ ju x with recovered:=true }]∧w'=w.setCell ⟨q,0,none⟩ (.int .i64 x)∧w'.cell? ⟨q,0,none⟩=some (.int .i64 x)∧Below B w w':=by
 have hta:∀W,(Instr.typeAssert (.iface 32 (.int .i64 x)) 20 32 false).run Tryz.prog W=.ok (.int .i64 x) W:=fun _=>by kernel_rfl
 refine callsD_of_wpS Tryz.func170 rfl fun c₀ cs hu=>?_;apply wpS_seq;apply wpS_region;simp[wpOpsS,go_sem,recoverD,hu,Tryz.ntmps170,Exit.thenS];apply wpS_seq;apply wpS_region;simp[wpOpsS,go_sem,recoverD,Exit.thenS];refine wpS_cond (t:=true) (by simp[Act.eval,Array.replicate]) ?_;simp only[if_true];refine wpS_of_wp ?_;simp[Array.replicate];go_wp2;simp[bodyPostS,results,Tryz.results170];exact⟨World.cell?_setCell_same' _ _ _ (by rw[hq];rfl),(Below.refl B w).setCell (p:=⟨q,0,none⟩) hBq _⟩
theorem jfo (q:Addr) (w:World) :
 CallsD Tryz.prog 170 #[.pointer (some q)] .returning w fun e u' w'=>e=.returned (.tuple #[])∧u'=.returning∧w'=w:=by
 refine callsD_of_wpS Tryz.func170 rfl fun c₀ cs hu=>?_;apply wpS_seq;apply wpS_region;simp[wpOpsS,go_sem,recoverD,hu,Tryz.ntmps170,Exit.thenS];apply wpS_seq;apply wpS_region;simp[wpOpsS,go_sem,recoverD,hu,Exit.thenS];refine wpS_cond (t:=false) (by simp[Act.eval,Array.replicate]) ?_;simp only[Bool.false_eq_true,if_false];refine wpS_of_wp (wp_skip ?_)
 cases c₀
 simp_all [bodyPostS,results,Tryz.results170]
def jgr (c:Int) (n:Pd) (w:World) (e:Ending) (w':World):Prop:=∃v,e=.returned (.tuple #[v,.int .i64 c])∧ZT w.heap.size w' v (if c=0 then n else Pd.zero)∧Kept w w'
theorem jkI (C:Addr) (s:List UInt8) (n:Pd) (c:Int) (w:World) (h1:w.cell? C=some (.string (bytes s))) (hP:∀W,Kept w W→Calls Tryz.prog 131 #[.string (bytes s)] W (XB c n W)) :
 Calls Tryz.prog 130 #[.pointer (some C)] w (XB c n w):=by
 obtain⟨Z,hZ⟩:∃Z,w.alloc (.cells #[.string ⟨#[]⟩,.string ⟨#[]⟩,.int .i64 0,.slice none 0 0,.slice none 0 0,.slice none 0 0,.slice none 0 0,.string ⟨#[]⟩,.int .i64 0,.string ⟨#[]⟩,.bool false] 62)=Z:=⟨_,rfl⟩
 have hk:Kept w Z:=by rw[←hZ];exact ja _ _
 have hzs:Z.heap.size=w.heap.size+1:=by rw[←hZ];simp
 have hcc:=cell_later hk h1;have HP:=lH (hP Z hk);have HK:=lH hk;have HQ:=lH (show jf w.heap.size [.string ⟨#[]⟩,.string ⟨#[]⟩,.int .i64 0,.slice none 0 0,.slice none 0 0,.slice none 0 0,.slice none 0 0,.string ⟨#[]⟩,.int .i64 0,.string ⟨#[]⟩,.bool false] Z from jg w (.string ⟨#[]⟩) [.string ⟨#[]⟩,.int .i64 0,.slice none 0 0,.slice none 0 0,.slice none 0 0,.slice none 0 0,.string ⟨#[]⟩,.int .i64 0,.string ⟨#[]⟩,.bool false] 62 Z (by rw[hZ];exact Kept.refl _));have HZS:=lH hzs;clear h1 hk hP hzs;go_enter Tryz.func130,Tryz.ntmps130;go_wp2_with fail
 try rw[hZ]
 refine HP.out.mono ?_;rintro e w2 ⟨g0,g1,k⟩;have KK:=lH k;have HQ2:=lH (HQ.out.kept k);by_cases hx:c=0
 · obtain⟨v,rfl,hn⟩:=g0 hx;have HX:=lH hx;have HN:=lH hn;obtain⟨b1,n1,d1,b2,n2,d2,b3,n3,d3,b4,n4,d4,rfl,-⟩:=hn;clear g0 g1 k hx hZ;obtain⟨z0,hz0⟩:∃z,n.name=z:=⟨_,rfl⟩
   obtain⟨z1,hz1⟩:∃z,n.owner=z:=⟨_,rfl⟩
   obtain⟨z2,hz2⟩:∃z,n.prio=z:=⟨_,rfl⟩
   obtain⟨z3,hz3⟩:∃z,n.key=z:=⟨_,rfl⟩
   obtain⟨z4,hz4⟩:∃z,n.most=z:=⟨_,rfl⟩
   obtain⟨z5,hz5⟩:∃z,n.node=z:=⟨_,rfl⟩
   obtain⟨z6,hz6⟩:∃z,n.hold=z:=⟨_,rfl⟩
   unfold JQ at HN ⊢;rw[hz0,hz1,hz2,hz3,hz4,hz5,hz6] at HN;rw[hz0,hz1,hz2,hz3,hz4,hz5,hz6];have P:=lH (J7 (vs:=[.string z0,.string z1,.int .i64 z2,.slice b1 n1 d1,.slice b2 n2 d2,.slice b3 n3 d3,.slice b4 n4 d4,.string z3,.int .i64 z4,.string z5,.bool z6]) HQ2.out rfl);have y0:=HQ2.out.at_ 0 _ rfl;have y1:=HQ2.out.at_ 1 _ rfl;have y2:=HQ2.out.at_ 2 _ rfl;have y3:=HQ2.out.at_ 3 _ rfl;have y4:=HQ2.out.at_ 4 _ rfl;have y5:=HQ2.out.at_ 5 _ rfl;have y6:=HQ2.out.at_ 6 _ rfl;have y7:=HQ2.out.at_ 7 _ rfl;have y8:=HQ2.out.at_ 8 _ rfl;have y9:=HQ2.out.at_ 9 _ rfl;have y10:=HQ2.out.at_ 10 _ rfl;have x0:=HQ2.out.free 0;have x1:=HQ2.out.free 1;have x2:=HQ2.out.free 2;have x3:=HQ2.out.free 3;have x4:=HQ2.out.free 4;have x5:=HQ2.out.free 5;have x6:=HQ2.out.free 6;have x7:=HQ2.out.free 7;have x8:=HQ2.out.free 8;have x9:=HQ2.out.free 9;have x10:=HQ2.out.free 10;clear hz0 hz1 hz2 hz3 hz4 hz5 hz6;go_wp2;obtain⟨WE,hWE⟩:∃W,w2.setCells w.heap.size 0 [.string z0,.string z1,.int .i64 z2,.slice b1 n1 d1,.slice b2 n2 d2,.slice b3 n3 d3,.slice b4 n4 d4,.string z3,.int .i64 z4,.string z5,.bool z6]=W:=⟨_,rfl⟩
   have hWE2:(((((((((((w2.setCell ⟨w.heap.size,0,none⟩ (.string z0)).setCell ⟨w.heap.size,1,none⟩ (.string z1)).setCell ⟨w.heap.size,2,none⟩ (.int .i64 z2)).setCell ⟨w.heap.size,3,none⟩ (.slice b1 n1 d1)).setCell ⟨w.heap.size,4,none⟩ (.slice b2 n2 d2)).setCell ⟨w.heap.size,5,none⟩ (.slice b3 n3 d3)).setCell ⟨w.heap.size,6,none⟩ (.slice b4 n4 d4)).setCell ⟨w.heap.size,7,none⟩ (.string z3)).setCell ⟨w.heap.size,8,none⟩ (.int .i64 z4)).setCell ⟨w.heap.size,9,none⟩ (.string z5)).setCell ⟨w.heap.size,10,none⟩ (.bool z6))=WE:=hWE;rw[hWE] at P;rw[hWE2];clear hWE hWE2 y0 x0 y1 x1 y2 x2 y3 x3 y4 x4 y5 x5 y6 x6 y7 x7 y8 x8 y9 x9 y10 x10;obtain⟨PC,hsz,hbl,hkp⟩:=P.out;refine bodyPost_ret (by simp[results,Tryz.results130,go_sem,PC.at_ 0 _ rfl,PC.at_ 1 _ rfl,PC.at_ 2 _ rfl,PC.at_ 3 _ rfl,PC.at_ 4 _ rfl,PC.at_ 5 _ rfl,PC.at_ 6 _ rfl,PC.at_ 7 _ rfl,PC.at_ 8 _ rfl,PC.at_ 9 _ rfl,PC.at_ 10 _ rfl];try rfl) rfl ?_;exact⟨fun _=>⟨_,rfl,(HN.out.far hsz (fun b hb=>hbl b (by have:=HZS.out;omega))).less (by have:=HZS.out;omega)⟩,fun h=>absurd HX.out h,hkp _ _ (Nat.le_refl _) (HK.out.trans KK.out)⟩
 · obtain rfl:=g1 hx;have HX:=lH hx;clear g0 g1 k hx hZ;go_wp2;exact⟨rfl,XB.bad HX.out (HK.out.trans KK.out)⟩
theorem jfE (C:Addr) (n:Pd) (c:Int) (w:World)
 (hk:∀W,Kept w W→Calls Tryz.prog 130 #[.pointer (some C)] W (XB c n W)) :
 Calls Tryz.prog 129 #[.func (.func 130) #[] #[.pointer (some C)]] w (jgr c n w):=by
 have hmf:=hmfL (P:=Tryz.prog);obtain⟨Z,hZ⟩:∃Z,(w.alloc (.cells #[.string ⟨#[]⟩,.string ⟨#[]⟩,.int .i64 0,.slice none 0 0,.slice none 0 0,.slice none 0 0,.slice none 0 0,.string ⟨#[]⟩,.int .i64 0,.string ⟨#[]⟩,.bool false] 62)).alloc (.cells #[.int .i64 0] 32)=Z:=⟨_,rfl⟩
 have hkz:Kept w Z:=by rw[←hZ];exact jk _ _ _
 have hzs:Z.heap.size=w.heap.size+2:=by rw[←hZ];simp
 have HK:=lH hkz;have HQ:=lH (show jf w.heap.size [.string ⟨#[]⟩,.string ⟨#[]⟩,.int .i64 0,.slice none 0 0,.slice none 0 0,.slice none 0 0,.slice none 0 0,.string ⟨#[]⟩,.int .i64 0,.string ⟨#[]⟩,.bool false] Z from jg w (.string ⟨#[]⟩) [.string ⟨#[]⟩,.int .i64 0,.slice none 0 0,.slice none 0 0,.slice none 0 0,.slice none 0 0,.string ⟨#[]⟩,.int .i64 0,.string ⟨#[]⟩,.bool false] 62 Z (by rw[←hZ];exact ja _ _));have HZE:=lH (show jf (w.heap.size+1) [.int .i64 0] Z by
  have:=jg (w.alloc (.cells #[.string ⟨#[]⟩,.string ⟨#[]⟩,.int .i64 0,.slice none 0 0,.slice none 0 0,.slice none 0 0,.slice none 0 0,.string ⟨#[]⟩,.int .i64 0,.string ⟨#[]⟩,.bool false] 62)) (.int .i64 0) [] 32 Z (by rw[hZ];exact Kept.refl _);rw[World.size_alloc] at this;exact this)
 have HZS:=lH hzs;have HKC:=lH (hk Z hkz);clear hk hkz hzs;go_enter_defers Tryz.func129,Tryz.ntmps129
 go_wp2_with fail
 try rw[hZ]
 refine HKC.out.mono ?_;rintro e1 w1 ⟨h0,h1,hb⟩;have KK:=lH hb;have HQ1:=lH (HQ.out.kept hb);have HE1:=lH (HZE.out.kept hb);have hws:w.heap.size+1<w1.heap.size:=by have:=hb.size;have:=HZS.out;omega
 have ze:=HE1.out.at_ 0 _ rfl;have zf:=HE1.out.free 0;by_cases hx:c=0
 · subst hx;obtain⟨v,rfl,hn⟩:=h0 rfl;have HN:=lH hn;obtain⟨b1,n1,d1,b2,n2,d2,b3,n3,d3,b4,n4,d4,rfl,-⟩:=hn;clear h0 h1 hb hZ;obtain⟨z0,hz0⟩:∃z,n.name=z:=⟨_,rfl⟩
   obtain⟨z1,hz1⟩:∃z,n.owner=z:=⟨_,rfl⟩
   obtain⟨z2,hz2⟩:∃z,n.prio=z:=⟨_,rfl⟩
   obtain⟨z3,hz3⟩:∃z,n.key=z:=⟨_,rfl⟩
   obtain⟨z4,hz4⟩:∃z,n.most=z:=⟨_,rfl⟩
   obtain⟨z5,hz5⟩:∃z,n.node=z:=⟨_,rfl⟩
   obtain⟨z6,hz6⟩:∃z,n.hold=z:=⟨_,rfl⟩
   unfold JQ at HN ⊢;rw[hz0,hz1,hz2,hz3,hz4,hz5,hz6] at HN;rw[hz0,hz1,hz2,hz3,hz4,hz5,hz6];have P:=lH (J7 (vs:=[.string z0,.string z1,.int .i64 z2,.slice b1 n1 d1,.slice b2 n2 d2,.slice b3 n3 d3,.slice b4 n4 d4,.string z3,.int .i64 z4,.string z5,.bool z6]) HQ1.out rfl);have y0:=HQ1.out.at_ 0 _ rfl;have y1:=HQ1.out.at_ 1 _ rfl;have y2:=HQ1.out.at_ 2 _ rfl;have y3:=HQ1.out.at_ 3 _ rfl;have y4:=HQ1.out.at_ 4 _ rfl;have y5:=HQ1.out.at_ 5 _ rfl;have y6:=HQ1.out.at_ 6 _ rfl;have y7:=HQ1.out.at_ 7 _ rfl;have y8:=HQ1.out.at_ 8 _ rfl;have y9:=HQ1.out.at_ 9 _ rfl;have y10:=HQ1.out.at_ 10 _ rfl;have x0:=HQ1.out.free 0;have x1:=HQ1.out.free 1;have x2:=HQ1.out.free 2;have x3:=HQ1.out.free 3;have x4:=HQ1.out.free 4;have x5:=HQ1.out.free 5;have x6:=HQ1.out.free 6;have x7:=HQ1.out.free 7;have x8:=HQ1.out.free 8;have x9:=HQ1.out.free 9;have x10:=HQ1.out.free 10;clear hz0 hz1 hz2 hz3 hz4 hz5 hz6;go_wp2_with fail
   obtain⟨WE,hWE⟩:∃W,w1.setCells w.heap.size 0 [.string z0,.string z1,.int .i64 z2,.slice b1 n1 d1,.slice b2 n2 d2,.slice b3 n3 d3,.slice b4 n4 d4,.string z3,.int .i64 z4,.string z5,.bool z6]=W:=⟨_,rfl⟩
   have hWE2:(((((((((((w1.setCell ⟨w.heap.size,0,none⟩ (.string z0)).setCell ⟨w.heap.size,1,none⟩ (.string z1)).setCell ⟨w.heap.size,2,none⟩ (.int .i64 z2)).setCell ⟨w.heap.size,3,none⟩ (.slice b1 n1 d1)).setCell ⟨w.heap.size,4,none⟩ (.slice b2 n2 d2)).setCell ⟨w.heap.size,5,none⟩ (.slice b3 n3 d3)).setCell ⟨w.heap.size,6,none⟩ (.slice b4 n4 d4)).setCell ⟨w.heap.size,7,none⟩ (.string z3)).setCell ⟨w.heap.size,8,none⟩ (.int .i64 z4)).setCell ⟨w.heap.size,9,none⟩ (.string z5)).setCell ⟨w.heap.size,10,none⟩ (.bool z6))=WE:=hWE;rw[hWE] at P;rw[hWE2];clear hWE hWE2 y0 x0 y1 x1 y2 x2 y3 x3 y4 x4 y5 x5 y6 x6 y7 x7 y8 x8 y9 x9 y10 x10;obtain⟨PC,hsz,hbl,hkp⟩:=P.out;have ez:jf (w.heap.size+1) [.int .i64 0] WE:=HE1.out.block (hbl _ (by omega));have hb2:∀b,b≠w.heap.size+1→(WE.setCell ⟨w.heap.size+1,0,none⟩ (.int .i64 0)).heap[b]?=WE.heap[b]?:=fun b hb=>Below.heap_setCell WE ⟨w.heap.size+1,0,none⟩ _ b hb;have FE:=lH (ez.set (j:=0) (u:=.int .i64 0) (by simp));have FQ:=lH (PC.block (hb2 w.heap.size (by omega)));have KF:=lH (show Kept w (WE.setCell ⟨w.heap.size+1,0,none⟩ (.int .i64 0)) from(hkp _ _ (Nat.le_refl _) (HK.out.trans KK.out)).setCell (p:=⟨w.heap.size+1,0,none⟩) (Nat.le_succ _) _);have NF:=lH ((HN.out.far (w':=WE.setCell ⟨w.heap.size+1,0,none⟩ (.int .i64 0)) (by simp[World.setCell,hsz]) (fun b hb=>(hb2 b (by have:=HZS.out;omega)).trans (hbl b (by have:=HZS.out;omega)))).less (B':=w.heap.size) (by have:=HZS.out;omega));obtain⟨WF,hWF⟩:∃W,WE.setCell ⟨w.heap.size+1,0,none⟩ (.int .i64 0)=W:=⟨_,rfl⟩
   rw[hWF] at FE FQ KF NF ⊢;have fe:=FE.out.at_ 0 _ rfl;clear hWF hb2 ez P hbl hkp PC ze zf;refine leaves_cons (f:=170) (args:=#[.pointer (some ⟨w.heap.size+1,0,none⟩)]) (by simp) (by simp[go_sem]) ?_;refine(jfo ⟨w.heap.size+1,0,none⟩ _).mono ?_;rintro e u' w'' ⟨rfl,rfl,rfl⟩;simp[Leaves,settle,results,Tryz.results129,go_sem,fe,FQ.out.at_ 0 _ rfl,FQ.out.at_ 1 _ rfl,FQ.out.at_ 2 _ rfl,FQ.out.at_ 3 _ rfl,FQ.out.at_ 4 _ rfl,FQ.out.at_ 5 _ rfl,FQ.out.at_ 6 _ rfl,FQ.out.at_ 7 _ rfl,FQ.out.at_ 8 _ rfl,FQ.out.at_ 9 _ rfl,FQ.out.at_ 10 _ rfl];exact⟨_,rfl,by rw[if_pos rfl];exact NF.out,KF.out⟩
 · obtain rfl:=h1 hx;have HX:=lH hx;have KW:=lH (HK.out.trans KK.out);clear h0 h1 hb hZ hx;go_wp2_with fail
   refine leaves_cons (f:=170) (args:=#[.pointer (some ⟨w.heap.size+1,0,none⟩)]) (by simp) (by simp[go_sem]) ?_;refine(jbk w.heap.size (w.heap.size+1) c 0 _ ze zf (by omega)).mono ?_;rintro e u' w'' ⟨rfl,rfl,rfl,q2,q3⟩;have hb2:(w1.setCell ⟨w.heap.size+1,0,none⟩ (.int .i64 c)).heap[w.heap.size]?=w1.heap[w.heap.size]?:=Below.heap_setCell w1 ⟨w.heap.size+1,0,none⟩ _ w.heap.size (by simp);have FQ:=lH (HQ1.out.block hb2);have KF:=lH (show Kept w _ from Below.trans KW.out q3);obtain⟨WF,hWF⟩:∃W,w1.setCell ⟨w.heap.size+1,0,none⟩ (.int .i64 c)=W:=⟨_,rfl⟩
   rw[hWF] at q2 FQ KF ⊢;clear hWF hb2 q3 ze zf;simp[Leaves,settle,results,Tryz.results129,go_sem,q2,FQ.out.at_ 0 _ rfl,FQ.out.at_ 1 _ rfl,FQ.out.at_ 2 _ rfl,FQ.out.at_ 3 _ rfl,FQ.out.at_ 4 _ rfl,FQ.out.at_ 5 _ rfl,FQ.out.at_ 6 _ rfl,FQ.out.at_ 7 _ rfl,FQ.out.at_ 8 _ rfl,FQ.out.at_ 9 _ rfl,FQ.out.at_ 10 _ rfl];exact⟨_,rfl,by rw[if_neg HX.out];exact jh2 _ _,KF.out⟩
theorem jhV (s:List UInt8) (n:Pd) (c:Int) (w:World) (hP:∀W,Kept w W→Calls Tryz.prog 131 #[.string (bytes s)] W (XB c n W)) :
 Calls Tryz.prog 89 #[.string (bytes s)] w (jgr c n w):=by
 have hmf:=hmfL (P:=Tryz.prog);obtain⟨Z,hZ⟩:∃Z,(w.alloc (.cells #[.string (bytes s)] 9)).alloc (.cells #[.string ⟨#[]⟩,.string ⟨#[]⟩,.int .i64 0,.slice none 0 0,.slice none 0 0,.slice none 0 0,.slice none 0 0,.string ⟨#[]⟩,.int .i64 0,.string ⟨#[]⟩,.bool false] 62)=Z:=⟨_,rfl⟩
 have hkz:Kept w Z:=by rw[←hZ];exact jk _ _ _
 have hzs:Z.heap.size=w.heap.size+2:=by rw[←hZ];simp
 have hzc:Z.cell? ⟨w.heap.size,0,none⟩=some (.string (bytes s)):=(jg w (.string (bytes s)) [] 9 Z (by rw[←hZ];exact ja _ _)).at_ 0 _ rfl;have HK:=lH hkz;have HQ:=lH (show jf (w.heap.size+1) [.string ⟨#[]⟩,.string ⟨#[]⟩,.int .i64 0,.slice none 0 0,.slice none 0 0,.slice none 0 0,.slice none 0 0,.string ⟨#[]⟩,.int .i64 0,.string ⟨#[]⟩,.bool false] Z by
  have:=jg (w.alloc (.cells #[.string (bytes s)] 9)) (.string ⟨#[]⟩) [.string ⟨#[]⟩,.int .i64 0,.slice none 0 0,.slice none 0 0,.slice none 0 0,.slice none 0 0,.string ⟨#[]⟩,.int .i64 0,.string ⟨#[]⟩,.bool false] 62 Z (by rw[hZ];exact Kept.refl _);rw[World.size_alloc] at this;exact this)
 have HZS:=lH hzs;have HC:=lH (jfE ⟨w.heap.size,0,none⟩ n c Z (fun W k=>jkI ⟨w.heap.size,0,none⟩ s n c W (cell_later k hzc) (fun W' k'=>hP W' (hkz.trans (k.trans k')))));obtain⟨m,hm⟩:∃m,(if c=0 then n else Pd.zero)=m:=⟨_,rfl⟩
 unfold jgr at HC ⊢;rw[hm] at HC;rw[hm];clear hP hzc hkz hzs hm;go_enter Tryz.func89,Tryz.ntmps89;go_wp2_with fail
 try rw[hZ]
 refine HC.out.mono ?_;rintro e w1 ⟨v,rfl,hn,k⟩;have KK:=lH k;have HN:=lH hn;have HQ1:=lH (HQ.out.kept k);obtain⟨b1,n1,d1,b2,n2,d2,b3,n3,d3,b4,n4,d4,rfl,-⟩:=hn;clear k hZ;obtain⟨z0,hz0⟩:∃z,m.name=z:=⟨_,rfl⟩
 obtain⟨z1,hz1⟩:∃z,m.owner=z:=⟨_,rfl⟩
 obtain⟨z2,hz2⟩:∃z,m.prio=z:=⟨_,rfl⟩
 obtain⟨z3,hz3⟩:∃z,m.key=z:=⟨_,rfl⟩
 obtain⟨z4,hz4⟩:∃z,m.most=z:=⟨_,rfl⟩
 obtain⟨z5,hz5⟩:∃z,m.node=z:=⟨_,rfl⟩
 obtain⟨z6,hz6⟩:∃z,m.hold=z:=⟨_,rfl⟩
 unfold JQ at HN ⊢;rw[hz0,hz1,hz2,hz3,hz4,hz5,hz6] at HN;rw[hz0,hz1,hz2,hz3,hz4,hz5,hz6];have P:=lH (J7 (vs:=[.string z0,.string z1,.int .i64 z2,.slice b1 n1 d1,.slice b2 n2 d2,.slice b3 n3 d3,.slice b4 n4 d4,.string z3,.int .i64 z4,.string z5,.bool z6]) HQ1.out rfl);have y0:=HQ1.out.at_ 0 _ rfl;have y1:=HQ1.out.at_ 1 _ rfl;have y2:=HQ1.out.at_ 2 _ rfl;have y3:=HQ1.out.at_ 3 _ rfl;have y4:=HQ1.out.at_ 4 _ rfl;have y5:=HQ1.out.at_ 5 _ rfl;have y6:=HQ1.out.at_ 6 _ rfl;have y7:=HQ1.out.at_ 7 _ rfl;have y8:=HQ1.out.at_ 8 _ rfl;have y9:=HQ1.out.at_ 9 _ rfl;have y10:=HQ1.out.at_ 10 _ rfl;have x0:=HQ1.out.free 0;have x1:=HQ1.out.free 1;have x2:=HQ1.out.free 2;have x3:=HQ1.out.free 3;have x4:=HQ1.out.free 4;have x5:=HQ1.out.free 5;have x6:=HQ1.out.free 6;have x7:=HQ1.out.free 7;have x8:=HQ1.out.free 8;have x9:=HQ1.out.free 9;have x10:=HQ1.out.free 10;clear hz0 hz1 hz2 hz3 hz4 hz5 hz6;go_wp2;obtain⟨WE,hWE⟩:∃W,w1.setCells (w.heap.size+1) 0 [.string z0,.string z1,.int .i64 z2,.slice b1 n1 d1,.slice b2 n2 d2,.slice b3 n3 d3,.slice b4 n4 d4,.string z3,.int .i64 z4,.string z5,.bool z6]=W:=⟨_,rfl⟩
 have hWE2:(((((((((((w1.setCell ⟨(w.heap.size+1),0,none⟩ (.string z0)).setCell ⟨(w.heap.size+1),1,none⟩ (.string z1)).setCell ⟨(w.heap.size+1),2,none⟩ (.int .i64 z2)).setCell ⟨(w.heap.size+1),3,none⟩ (.slice b1 n1 d1)).setCell ⟨(w.heap.size+1),4,none⟩ (.slice b2 n2 d2)).setCell ⟨(w.heap.size+1),5,none⟩ (.slice b3 n3 d3)).setCell ⟨(w.heap.size+1),6,none⟩ (.slice b4 n4 d4)).setCell ⟨(w.heap.size+1),7,none⟩ (.string z3)).setCell ⟨(w.heap.size+1),8,none⟩ (.int .i64 z4)).setCell ⟨(w.heap.size+1),9,none⟩ (.string z5)).setCell ⟨(w.heap.size+1),10,none⟩ (.bool z6))=WE:=hWE;rw[hWE] at P;rw[hWE2];clear hWE hWE2 y0 x0 y1 x1 y2 x2 y3 x3 y4 x4 y5 x5 y6 x6 y7 x7 y8 x8 y9 x9 y10 x10;obtain⟨PC,hsz,hbl,hkp⟩:=P.out;refine bodyPost_ret (by simp[results,Tryz.results89,go_sem,PC.at_ 0 _ rfl,PC.at_ 1 _ rfl,PC.at_ 2 _ rfl,PC.at_ 3 _ rfl,PC.at_ 4 _ rfl,PC.at_ 5 _ rfl,PC.at_ 6 _ rfl,PC.at_ 7 _ rfl,PC.at_ 8 _ rfl,PC.at_ 9 _ rfl,PC.at_ 10 _ rfl];try rfl) rfl ?_;exact⟨_,rfl,(HN.out.far hsz (fun b hb=>hbl b (by have:=HZS.out;omega))).less (by have:=HZS.out;omega),hkp _ _ (Nat.le_succ _) (HK.out.trans KK.out)⟩
theorem jk7 (R B:Nat) (line:Int) (r:List UInt8) (n:Pd) (v1 v2 v3:Value) (s:Clu) (w:World) (hE:Jf w) (hr:r.length≤900000) (hP:∀W,Jf W→Calls Tryz.prog 89 #[.string (bytes r)] W fun e w'=>∃v,e=.returned (.tuple #[v,.int .i64 0])∧ZT W.heap.size w' v n∧Kept W w') (hR:jf R [v1,v2,v3,.int .i64 line] w) (h:jW (fun b=>b<B) B w v1 v2 v3 s) (hRB:R<B) (hB:B≤w.heap.size) (hl:s.pods.length≤1000) (ha:Zs (s.pods.map fun n=>n.name)) :
 Calls Tryz.prog 50 #[.pointer (some ⟨R,0,none⟩),.string (bytes ([112,111,100]++32::r))] w (XL R B line s (.pod n) w):=by
 obtain⟨ap,len,cap,hlen,rfl⟩:∃ap len cap,s.pods.length=len∧v2=.slice ap len cap:=by
  obtain⟨lx,e,ho,-⟩:=h.p;obtain⟨a,c,e2,-⟩:=ho.at_;exact⟨a,_,c,by rw[←e,List.length_map],e2⟩
 obtain⟨tx,htx⟩:∃q,bytes ([112,111,100]++32::r)=q:=⟨_,rfl⟩
 have HTX:=lH htx;have hne:(tx.toList==([]:List UInt8))=false:=by rw[←htx,jn];rfl
 have HPF:=lH (show Calls Tryz.prog 81 #[.string tx,.string ⟨#[35]⟩] w fun e w'=>e=.returned (.bool false)∧w'=w by
  have:=Zd ([112,111,100]++32::r) [35] w;rw[htx] at this;exact this)
 have HCU:=lH (show Calls Tryz.prog 82 #[.string tx,.string ⟨#[32]⟩] w fun e w'=>e=.returned (.tuple #[.string ⟨#[112,111,100]⟩,.string (bytes r),.bool true])∧∃n,w'=w.drewN n by
  have:=JC 32 ([112,111,100]++32::r) w hE.toEnvT.toEnv.base (by simp;omega);rw[JM (c:=32) (x:=[112,111,100]) r (by decide),htx] at this;exact this)
 have HE:=lH hE;have HP:=lH hP;have HR:=lH hR;have H3:=lH h;have HA:=lH ha;have HL:=lH hlen;have HB:=lH hB;rw[hlen] at hl;rw[htx];clear hE hP hR h ha hB htx hlen;go_enter Tryz.func50,Tryz.ntmps50;go_wp2_with fail
 refine HPF.out.mono ?_;rintro e wa ⟨rfl,rfl⟩;obtain⟨w,rfl⟩:∃W,W=wa:=⟨_,rfl⟩
 go_wp2_with fail
 refine HCU.out.mono ?_;rintro e wa ⟨rfl,nq,rfl⟩;go_upto_region 7 with fail
 obtain⟨w1,hw1⟩:∃W,w.drewN nq=W:=⟨_,rfl⟩
 have K1:=lH (show Kept w w1 by rw[←hw1];exact Kept.drewN _ _);try rw[hw1]
 clear hw1 hne HPF HCU;have J:=lH (K1.out.trans (Kept.drew w1));refine wp_region_held_drew (S:=fun W=>True) (by kernel_rfl) trivial (fun hHeld=>?_);obtain⟨w2,hw2⟩:∃W,w1.drew=W:=⟨_,rfl⟩
 rw[hw2] at J;try rw[hw2]
 clear hw2;refine tkJ 0 ?_;refine tkJ 1 ?_;refine tkJ 2 ?_;refine tkJ 3 ?_;refine tkJ 4 ?_;refine tkJ 6 ?_;try simp only[nP]
 refine rdH (rs:=[5,7]) (h:=coH (fun K9 hK9=>?_) (coH (fun K9 hK9=>?_) AllReadyH.nil))
 · skip;have yq:=(HR.out.kept J.out).at_ 1 _ rfl;go_simp;refine hK9.out _ _ trivial (fun hHeldL=>?_);clear hK9 K9 yq;try simp only[nP]
   refine rd1 7 fun K9 hK9=>?_;go_simp;refine(HP.out _ (HE.out.kept J.out)).mono ?_;rintro e x1 ⟨pv,rfl,hv,kk⟩;have HSZ:=lH J.out.size;have H3P:=lH (H3.out.kept J.out);have J:=lH (J.out.trans kk);obtain⟨a1,m1,c1,a2,m2,c2,a3,m3,c3,a4,m4,c4,rfl,hat,b1,b2,b3,b4⟩:=hv;unfold JQ;have HZ:=lH (show Off (Tri (fun b=>b<B) v1 (.slice ap len cap) v3) x1 fun u=>At4 u (n,(a1,m1,c1),(a2,m2,c2),(a3,m3,c3),(a4,m4,c4)) from zl.off (B:=w2.heap.size) hat b1 b2 b3 b4 (fun q hq ht=>by
    rcases ht with ht | ht
    · have:=HB.out;have:=HSZ.out;omega
    · have:=(H3P.out.lt ht).2;omega))
   skip;clear hat kk b1 b2 b3 b4;refine hK9.out _ _ trivial (fun hHeldP=>?_);clear hK9 K9;try simp only[nP]
   refine tkJ 8 ?_;refine tkJ 9 ?_;try simp only[nP]
   refine rd1 10 fun K9 hK9=>?_;go_simp;refine(qu _ _ _ _ _ _ _ _ _ _ _ _ _ _ _ _ _ _ _ _).mono ?_;rintro e x2 ⟨rfl,kk⟩;have J:=lH (J.out.trans kk);have HZ:=lH (HZ.out.step (jc.of kk));clear kk;refine hK9.out _ _ trivial (fun hHeldS=>?_);clear hK9 K9;try simp only[nP]
   refine rd1 11 fun K9 hK9=>?_;go_simp;refine(jbL (fun b=>b<B) B ap len cap v1 v3 s n a1 m1 c1 a2 m2 c2 a3 m3 c3 a4 m4 c4 128 x2 (H3.out.kept J.out) (by omega) (fun q hq=>by have:=HB.out;have:=J.out.size;omega) (Nat.le_trans HB.out J.out.size) HZ.out HA.out).mono ?_;rintro e x3 (⟨hh,rfl,kk⟩ | ⟨hh,hm,rfl,kk⟩ | ⟨hh,hm,g,c,rfl,ho,hg⟩)
   · have hst:jj s (.pod n)=(6,s):=by unfold jj;dsimp only;rw[if_pos hh]
     exact⟨rfl,jc.of (J.out.trans kk),_,_,_,HR.out.kept (J.out.trans kk),by rw[hst];exact H3.out.kept (J.out.trans kk),.inr ⟨by rw[hst];exact(by decide:(6:Int)≠0),by rw[hst]⟩⟩
   · have hst:jj s (.pod n)=(4,s):=by unfold jj;dsimp only;rw[if_neg (by rw[hh];decide),if_pos (HL.out.trans hm)]
     exact⟨rfl,jc.of (J.out.trans kk),_,_,_,HR.out.kept (J.out.trans kk),by rw[hst];exact H3.out.kept (J.out.trans kk),.inr ⟨by rw[hst];exact(by decide:(4:Int)≠0),by rw[hst]⟩⟩
   · have HST:=lH (show jj s (.pod n)=(0,qk s n) by unfold jj;dsimp only;rw[if_neg (by rw[hh];decide),if_neg (by rw[HL.out];exact hm)]);have HO:=lH ho;have HG:=lH hg;have HNR:=lH (show ∀q,(Value.slice ap len cap).ownBlock=some q→q≠R from fun q e he=>H3.out.sep q (.inr (.inl e)) (by rw[he];exact hRB));have HGE:=lH (show ∀q,(Value.slice ap len cap).ownBlock=some q→B≤q from fun q e=>(H3.out.lt (.inr (.inl e))).1);clear hh hm ho hg;have HRX:=lH ((HR.out.kept J.out).block (HG.out.block R (by have:=HB.out;have:=J.out.size;omega) (fun e=>HNR.out R e rfl)));refine hK9.out _ _ trivial (fun hHeldW=>?_);clear hK9 K9;try simp only[nP]
     refine tkJ 12 ?_;refine tkJ 13 ?_;refine tkJ 14 ?_;try simp only[nP]
     have q1:=HRX.out.at_ 1 _ rfl;have f1:=HRX.out.free 1;refine rd1 15 fun K9 hK9=>?_;go_simp;obtain⟨x4,hx4⟩:∃W,x3.setCell ⟨R,1,none⟩ (.slice (some ⟨g,0,none⟩) (len+1) c)=W:=⟨_,rfl⟩
     have HRY:=lH (show jf R [v1,.slice (some ⟨g,0,none⟩) (len+1) c,v3,.int .i64 line] x4 by rw[←hx4];exact HRX.out.set (j:=1) (by simp));have HGC:=lH (show jc (fun b=>b=R) x3 x4 by rw[←hx4];exact jc.cell (S:=fun b=>b=R) R _ _ rfl);try rw[hx4]
     refine hK9.out _ _ trivial (fun hHeldX=>?_);clear hK9 K9 q1 f1 hx4;try simp only[nP]
     refine wpAnyH_done (by kernel_rfl) ?_ _;go_wp2;refine⟨rfl,.tuple #[],by simp[results,Tryz.results50,go_sem],?_⟩;exact⟨((jc.of J.out).trans (HG.out.mono fun b e=>.inr (HGE.out b e))).trans (HGC.out.mono fun b e=>.inl e),_,_,_,HRY.out,by rw[HST.out];exact HO.out.step (HGC.out.mono fun b e=>by rw[e];exact hRB),.inl ⟨by rw[HST.out],_,rfl⟩⟩
 · go_simp;refine(HP.out _ (HE.out.kept J.out)).mono ?_;rintro e x1 ⟨pv,rfl,hv,kk⟩;have HSZ:=lH J.out.size;have H3P:=lH (H3.out.kept J.out);have J:=lH (J.out.trans kk);obtain⟨a1,m1,c1,a2,m2,c2,a3,m3,c3,a4,m4,c4,rfl,hat,b1,b2,b3,b4⟩:=hv;unfold JQ;have HZ:=lH (show Off (Tri (fun b=>b<B) v1 (.slice ap len cap) v3) x1 fun u=>At4 u (n,(a1,m1,c1),(a2,m2,c2),(a3,m3,c3),(a4,m4,c4)) from zl.off (B:=w2.heap.size) hat b1 b2 b3 b4 (fun q hq ht=>by
    rcases ht with ht | ht
    · have:=HB.out;have:=HSZ.out;omega
    · have:=(H3P.out.lt ht).2;omega))
   skip;clear hat kk b1 b2 b3 b4;refine hK9.out _ _ trivial (fun hHeldP=>?_);clear hK9 K9;try simp only[nP]
   refine tkJ 8 ?_;refine tkJ 9 ?_;try simp only[nP]
   refine rdH (rs:=[5,10]) (h:=coH (fun K9 hK9=>?_) (coH (fun K9 hK9=>?_) AllReadyH.nil))
   · skip;have yq:=(HR.out.kept J.out).at_ 1 _ rfl;go_simp;refine hK9.out _ _ trivial (fun hHeldL=>?_);clear hK9 K9 yq;try simp only[nP]
     refine rd1 10 fun K9 hK9=>?_;go_simp;refine(qu _ _ _ _ _ _ _ _ _ _ _ _ _ _ _ _ _ _ _ _).mono ?_;rintro e x2 ⟨rfl,kk⟩;have J:=lH (J.out.trans kk);have HZ:=lH (HZ.out.step (jc.of kk));clear kk;refine hK9.out _ _ trivial (fun hHeldS=>?_);clear hK9 K9;try simp only[nP]
     refine rd1 11 fun K9 hK9=>?_;go_simp;refine(jbL (fun b=>b<B) B ap len cap v1 v3 s n a1 m1 c1 a2 m2 c2 a3 m3 c3 a4 m4 c4 128 x2 (H3.out.kept J.out) (by omega) (fun q hq=>by have:=HB.out;have:=J.out.size;omega) (Nat.le_trans HB.out J.out.size) HZ.out HA.out).mono ?_;rintro e x3 (⟨hh,rfl,kk⟩ | ⟨hh,hm,rfl,kk⟩ | ⟨hh,hm,g,c,rfl,ho,hg⟩)
     · have hst:jj s (.pod n)=(6,s):=by unfold jj;dsimp only;rw[if_pos hh]
       exact⟨rfl,jc.of (J.out.trans kk),_,_,_,HR.out.kept (J.out.trans kk),by rw[hst];exact H3.out.kept (J.out.trans kk),.inr ⟨by rw[hst];exact(by decide:(6:Int)≠0),by rw[hst]⟩⟩
     · have hst:jj s (.pod n)=(4,s):=by unfold jj;dsimp only;rw[if_neg (by rw[hh];decide),if_pos (HL.out.trans hm)]
       exact⟨rfl,jc.of (J.out.trans kk),_,_,_,HR.out.kept (J.out.trans kk),by rw[hst];exact H3.out.kept (J.out.trans kk),.inr ⟨by rw[hst];exact(by decide:(4:Int)≠0),by rw[hst]⟩⟩
     · have HST:=lH (show jj s (.pod n)=(0,qk s n) by unfold jj;dsimp only;rw[if_neg (by rw[hh];decide),if_neg (by rw[HL.out];exact hm)]);have HO:=lH ho;have HG:=lH hg;have HNR:=lH (show ∀q,(Value.slice ap len cap).ownBlock=some q→q≠R from fun q e he=>H3.out.sep q (.inr (.inl e)) (by rw[he];exact hRB));have HGE:=lH (show ∀q,(Value.slice ap len cap).ownBlock=some q→B≤q from fun q e=>(H3.out.lt (.inr (.inl e))).1);clear hh hm ho hg;have HRX:=lH ((HR.out.kept J.out).block (HG.out.block R (by have:=HB.out;have:=J.out.size;omega) (fun e=>HNR.out R e rfl)));refine hK9.out _ _ trivial (fun hHeldW=>?_);clear hK9 K9;try simp only[nP]
       refine tkJ 12 ?_;refine tkJ 13 ?_;refine tkJ 14 ?_;try simp only[nP]
       have q1:=HRX.out.at_ 1 _ rfl;have f1:=HRX.out.free 1;refine rd1 15 fun K9 hK9=>?_;go_simp;obtain⟨x4,hx4⟩:∃W,x3.setCell ⟨R,1,none⟩ (.slice (some ⟨g,0,none⟩) (len+1) c)=W:=⟨_,rfl⟩
       have HRY:=lH (show jf R [v1,.slice (some ⟨g,0,none⟩) (len+1) c,v3,.int .i64 line] x4 by rw[←hx4];exact HRX.out.set (j:=1) (by simp));have HGC:=lH (show jc (fun b=>b=R) x3 x4 by rw[←hx4];exact jc.cell (S:=fun b=>b=R) R _ _ rfl);try rw[hx4]
       refine hK9.out _ _ trivial (fun hHeldX=>?_);clear hK9 K9 q1 f1 hx4;try simp only[nP]
       refine wpAnyH_done (by kernel_rfl) ?_ _;go_wp2;refine⟨rfl,.tuple #[],by simp[results,Tryz.results50,go_sem],?_⟩;exact⟨((jc.of J.out).trans (HG.out.mono fun b e=>.inr (HGE.out b e))).trans (HGC.out.mono fun b e=>.inl e),_,_,_,HRY.out,by rw[HST.out];exact HO.out.step (HGC.out.mono fun b e=>by rw[e];exact hRB),.inl ⟨by rw[HST.out],_,rfl⟩⟩
   · go_simp;refine(qu _ _ _ _ _ _ _ _ _ _ _ _ _ _ _ _ _ _ _ _).mono ?_;rintro e x2 ⟨rfl,kk⟩;have J:=lH (J.out.trans kk);have HZ:=lH (HZ.out.step (jc.of kk));clear kk;refine hK9.out _ _ trivial (fun hHeldS=>?_);clear hK9 K9;try simp only[nP]
     refine rd1 5 fun K9 hK9=>?_;have yq:=(HR.out.kept J.out).at_ 1 _ rfl;go_simp;refine hK9.out _ _ trivial (fun hHeldL=>?_);clear hK9 K9 yq;try simp only[nP]
     refine rd1 11 fun K9 hK9=>?_;go_simp;refine(jbL (fun b=>b<B) B ap len cap v1 v3 s n a1 m1 c1 a2 m2 c2 a3 m3 c3 a4 m4 c4 128 x2 (H3.out.kept J.out) (by omega) (fun q hq=>by have:=HB.out;have:=J.out.size;omega) (Nat.le_trans HB.out J.out.size) HZ.out HA.out).mono ?_;rintro e x3 (⟨hh,rfl,kk⟩ | ⟨hh,hm,rfl,kk⟩ | ⟨hh,hm,g,c,rfl,ho,hg⟩)
     · have hst:jj s (.pod n)=(6,s):=by unfold jj;dsimp only;rw[if_pos hh]
       exact⟨rfl,jc.of (J.out.trans kk),_,_,_,HR.out.kept (J.out.trans kk),by rw[hst];exact H3.out.kept (J.out.trans kk),.inr ⟨by rw[hst];exact(by decide:(6:Int)≠0),by rw[hst]⟩⟩
     · have hst:jj s (.pod n)=(4,s):=by unfold jj;dsimp only;rw[if_neg (by rw[hh];decide),if_pos (HL.out.trans hm)]
       exact⟨rfl,jc.of (J.out.trans kk),_,_,_,HR.out.kept (J.out.trans kk),by rw[hst];exact H3.out.kept (J.out.trans kk),.inr ⟨by rw[hst];exact(by decide:(4:Int)≠0),by rw[hst]⟩⟩
     · have HST:=lH (show jj s (.pod n)=(0,qk s n) by unfold jj;dsimp only;rw[if_neg (by rw[hh];decide),if_neg (by rw[HL.out];exact hm)]);have HO:=lH ho;have HG:=lH hg;have HNR:=lH (show ∀q,(Value.slice ap len cap).ownBlock=some q→q≠R from fun q e he=>H3.out.sep q (.inr (.inl e)) (by rw[he];exact hRB));have HGE:=lH (show ∀q,(Value.slice ap len cap).ownBlock=some q→B≤q from fun q e=>(H3.out.lt (.inr (.inl e))).1);clear hh hm ho hg;have HRX:=lH ((HR.out.kept J.out).block (HG.out.block R (by have:=HB.out;have:=J.out.size;omega) (fun e=>HNR.out R e rfl)));refine hK9.out _ _ trivial (fun hHeldW=>?_);clear hK9 K9;try simp only[nP]
       refine tkJ 12 ?_;refine tkJ 13 ?_;refine tkJ 14 ?_;try simp only[nP]
       have q1:=HRX.out.at_ 1 _ rfl;have f1:=HRX.out.free 1;refine rd1 15 fun K9 hK9=>?_;go_simp;obtain⟨x4,hx4⟩:∃W,x3.setCell ⟨R,1,none⟩ (.slice (some ⟨g,0,none⟩) (len+1) c)=W:=⟨_,rfl⟩
       have HRY:=lH (show jf R [v1,.slice (some ⟨g,0,none⟩) (len+1) c,v3,.int .i64 line] x4 by rw[←hx4];exact HRX.out.set (j:=1) (by simp));have HGC:=lH (show jc (fun b=>b=R) x3 x4 by rw[←hx4];exact jc.cell (S:=fun b=>b=R) R _ _ rfl);try rw[hx4]
       refine hK9.out _ _ trivial (fun hHeldX=>?_);clear hK9 K9 q1 f1 hx4;try simp only[nP]
       refine wpAnyH_done (by kernel_rfl) ?_ _;go_wp2;refine⟨rfl,.tuple #[],by simp[results,Tryz.results50,go_sem],?_⟩;exact⟨((jc.of J.out).trans (HG.out.mono fun b e=>.inr (HGE.out b e))).trans (HGC.out.mono fun b e=>.inl e),_,_,_,HRY.out,by rw[HST.out];exact HO.out.step (HGC.out.mono fun b e=>by rw[e];exact hRB),.inl ⟨by rw[HST.out],_,rfl⟩⟩
theorem jeU (n:Bd) (a1:Option Addr) (m1:Nat) (c1:Nat) (w:World):Calls Tryz.prog 94 #[.agg #[.string n.name,.slice a1 m1 c1,.int .i64 n.floor]] w (Say (.string n.name) w):=by
 obtain⟨Z,hZ⟩:∃Z,w.alloc (.cells #[.string n.name,.slice a1 m1 c1,.int .i64 n.floor] 66)=Z:=⟨_,rfl⟩
 have hkz:Kept w Z:=by rw[←hZ];exact ja _ _
 have c0:=(jg w (.string n.name) [.slice a1 m1 c1,.int .i64 n.floor] 66 Z (by rw[hZ];exact Kept.refl _)).at_ 0 _ rfl;have HKZ:=lH hkz;clear hkz;go_enter Tryz.func94,Tryz.ntmps94;go_upto_region 1 with fail
 try rw[hZ]
 clear hZ;go_wp2;go_ret;exact⟨rfl,HKZ.out⟩
theorem jfF (n:Bd) (a1:Option Addr) (m1:Nat) (c1:Nat) (x:ByteArray) (q:Nat) (w:World) (hq:w.cell? ⟨q,0,none⟩=some (.func (.func 94) #[] #[])):Calls Tryz.prog 133 #[.agg #[.string n.name,.slice a1 m1 c1,.int .i64 n.floor],.string x,.pointer (some ⟨q,0,none⟩)] w (Say (.int .i64 (Zx n.name x)) w):=by
 obtain⟨Z,hZ⟩:∃Z,w.alloc (.cells #[.string n.name,.slice a1 m1 c1,.int .i64 n.floor] 66)=Z:=⟨_,rfl⟩
 have hkz:Kept w Z:=by rw[←hZ];exact ja _ _
 have HC:=lH (show jf w.heap.size [.string n.name,.slice a1 m1 c1,.int .i64 n.floor] Z from jg w (.string n.name) [.slice a1 m1 c1,.int .i64 n.floor] 66 Z (by rw[hZ];exact Kept.refl _));have zq:=cell_later hkz hq;have HKZ:=lH hkz;clear hkz hq;have z0:=HC.out.at_ 0 _ rfl;have z1:=HC.out.at_ 1 _ rfl;have z2:=HC.out.at_ 2 _ rfl;go_enter Tryz.func133,Tryz.ntmps133;go_upto_region 1 with fail
 try rw[hZ]
 clear hZ;go_wp2_with fail
 refine(jeU n a1 m1 c1 Z).mono ?_;rintro e w1 ⟨rfl,kk⟩;have K1:=lH kk;clear kk;go_wp2_with fail
 refine(jc6 n.name x w1).mono ?_;rintro e w2 ⟨rfl,rfl⟩;go_wp2;go_ret;exact⟨rfl,HKZ.out.trans K1.out⟩
theorem jha (a:Option Addr) (len cap:Nat) (l:List Bd) (x:ByteArray) (q:Nat) (w:World) (hr:Je w a len l) (ha:Zs (l.map fun n=>n.name)) (hlen:len≤100000) (hq:w.cell? ⟨q,0,none⟩=some (.func (.func 94) #[] #[])):Calls Tryz.prog 132 #[.slice a len cap,.string x,.func (.func 133) #[] #[.pointer (some ⟨q,0,none⟩)]] w (Say (.tuple #[.int .i64 ((zo x (l.map fun n=>n.name):Nat):Int),.bool (hasB x (l.map fun n=>n.name))]) w):=by
 obtain⟨LB,hLB⟩:∃q,zo x (l.map fun n=>n.name)=q:=⟨_,rfl⟩
 obtain⟨HB,hHB⟩:∃q,hasB x (l.map fun n=>n.name)=q:=⟨_,rfl⟩
 have HLB:=lH hLB;have HHB:=lH hHB;have hle:LB≤len:=by have:=Yr x (l.map fun n=>n.name);rw[hLB,List.length_map,hr.1] at this;exact this
 have HL:=lH (show (l.map fun n=>n.name).length=len by rw[List.length_map,hr.1]);have HR:=lH hr;have HA:=lH ha;have HQ:=lH hq;rw[hLB,hHB];clear hr ha hq hLB hHB;go_enter Tryz.func132,Tryz.ntmps132;go_wp2;go_loopw [9,10] (fun iv jv wr=>∃i j:Nat,i≤LB∧LB≤j∧j≤len∧iv=.int .i64 i∧jv=.int .i64 j∧Kept w wr) (fun iv jv _=>(intOf jv).toNat-(intOf iv).toNat)
 case atStart=>exact⟨0,len,Nat.zero_le _,hle,Nat.le_refl _,rfl,rfl,Kept.refl _⟩
 case round =>
  obtain⟨i,j,hi,hj,hjl,rfl,rfl,hK⟩:=hrel;have HK:=lH hK;by_cases hlt:i<j
  · have hij:(i:Int)<(j:Int):=by omega
    obtain⟨hN,hhN⟩:∃q,q=(i+j) / 2:=⟨_,rfl⟩
    have hNl:hN<len:=by omega
    have hNb:i≤hN∧hN<j:=by omega
    have eh:((i:Int)+(j:Int)) / 2=(hN:Int):=by omega
    have hh0:¬(hN:Int)<0:=by omega
    have hh1:(hN:Int)<(len:Int):=by omega
    obtain⟨b,off,rfl⟩:=HR.out.form.resolve_left (by omega);obtain⟨n9,a1,m1,c1,hn,hd,hb,p0,p1,p2,hat⟩:=(HR.out.kept hK).at_ hNl;have HN:=lH (show (l.map fun n=>n.name)[hN]?=some n9.name by rw[List.getElem?_map,hn];rfl);have hq1:=cell_later hK HQ.out;have HCM:=lH (jfF n9 a1 m1 c1 x q wr hq1);obtain⟨c,hc⟩:∃c,Zx n9.name x=c:=⟨_,rfl⟩
    rw[hc] at HCM;have HC:=lH hc;clear hhN hn hd hb hat hK hq1 hc;go_wp2_with fail
    refine HCM.out.mono ?_;rintro e w1 ⟨rfl,kk⟩;have K1:=lH (HK.out.trans kk);clear kk p0 p1 p2
    cases he:ltS n9.name x with
    | true =>
     have h1:=jb7 HA.out HN.out he;rw[HLB.out] at h1;have hc2:c<0:=by rw[←HC.out,jcZ he];decide
     clear he;go_wp2;go_roundw
     case rel=>exact⟨hN+1,j,h1,hj,hjl,by go_num,rfl,K1.out⟩
     case measure=>simp[intOf];omega
    | false =>
     have h1:=jb2 HN.out he;rw[HLB.out] at h1;have hc2:¬c<0:=by rw[←HC.out,jdc he];split<;>decide
     clear he;go_wp2;go_roundw
     case rel=>exact⟨i,hN,hi,h1,by omega,rfl,rfl,K1.out⟩
     case measure=>simp[intOf];omega
  · have hij:¬(i:Int)<(j:Int):=by omega
    obtain rfl:i=LB:=by omega
    by_cases hle2:i<len
    · have hh1:(i:Int)<(len:Int):=by omega
      have hh0:¬(i:Int)<0:=by omega
      obtain⟨b,off,rfl⟩:=HR.out.form.resolve_left (by omega);obtain⟨n9,a1,m1,c1,hn,hd,hb,p0,p1,p2,hat⟩:=(HR.out.kept hK).at_ hle2;have HN:=lH (show (l.map fun n=>n.name)[i]?=some n9.name by rw[List.getElem?_map,hn];rfl);have hq1:=cell_later hK HQ.out;have HCM:=lH (jfF n9 a1 m1 c1 x q wr hq1);obtain⟨c,hc⟩:∃c,Zx n9.name x=c:=⟨_,rfl⟩
      rw[hc] at HCM;have hcz:(c==0)=HB:=by rw[←hc,jec,←HHB.out];exact(jca HA.out (by rw[HLB.out];exact HN.out)).symm
      clear hn hd hb hat hK hq1 hc;go_wp2_with fail
      refine HCM.out.mono ?_;rintro e w1 ⟨rfl,kk⟩;have K1:=lH (HK.out.trans kk);clear kk p0 p1 p2;go_wp2;go_ret2
      exact⟨rfl,K1.out⟩
    · have hh1:¬(i:Int)<(len:Int):=by omega
      obtain rfl:HB=false:=by rw[←HHB.out];exact jay (by rw[HLB.out,HL.out];omega)
      clear hK;go_wp2;go_ret2
      exact⟨rfl,HK.out⟩
def joU (S:Nat→Prop) (B:Nat) (ap:Option Addr) (len cap:Nat) (v1 v2:Value) (s:Clu) (n:Bd) (M:Nat) (w:World) (e:Ending) (w':World):Prop :=
 (hasB n.name (s.buds.map fun n=>n.name)=true∧e=.panicked [ju 6]∧Kept w w')∨(hasB n.name (s.buds.map fun n=>n.name)=false∧len=M∧e=.panicked [ju 4]∧Kept w w') ∨
 (hasB n.name (s.buds.map fun n=>n.name)=false∧len≠M∧∃g c,e=.returned (.slice (some ⟨g,0,none⟩) (len+1) c)∧jW S B w' v1 v2 (.slice (some ⟨g,0,none⟩) (len+1) c) { s with buds:=s.buds.take (zo n.name (s.buds.map fun n=>n.name))++n::s.buds.drop (zo n.name (s.buds.map fun n=>n.name)) }∧jc (fun b=>(Value.slice ap len cap).ownBlock=some b) w w')
theorem jbv (S:Nat→Prop) (B:Nat) (ap:Option Addr) (len cap:Nat) (v1 v2:Value) (s:Clu) (n:Bd) (a1:Option Addr) (m1:Nat) (c1:Nat) (M:Nat) (w:World) (h:jW S B w v1 v2 (.slice ap len cap) s) (hlen:len≤100000) (hS:∀k,S k→k<w.heap.size) (hB:B≤w.heap.size) (hz:Off (Tri S v1 v2 (.slice ap len cap)) w fun u=>At1 u (n,(a1,m1,c1))) (ha:Zs (s.buds.map fun n=>n.name)) :
 Calls Tryz.prog 91 #[.slice ap len cap,.agg #[.string n.name,.slice a1 m1 c1,.int .i64 n.floor],.func (.func 94) #[] #[],.int .i64 (M:Int)] w (joU S B ap len cap v1 v2 s n M w):=by
 obtain⟨Z,hZ⟩:∃Z,(w.alloc (.cells #[.string n.name,.slice a1 m1 c1,.int .i64 n.floor] 66)).alloc (.cells #[.func (.func 94) #[] #[]] 67)=Z:=⟨_,rfl⟩
 have hkz:Kept w Z:=by rw[←hZ];exact jk _ _ _
 have HC:=lH (show jf w.heap.size [.string n.name,.slice a1 m1 c1,.int .i64 n.floor] Z from jg w (.string n.name) [.slice a1 m1 c1,.int .i64 n.floor] 66 Z (by rw[←hZ];exact ja _ _));have HQ:=lH (show jf (w.heap.size+1) [.func (.func 94) #[] #[]] Z by
  have dd:=jg (w.alloc (.cells #[.string n.name,.slice a1 m1 c1,.int .i64 n.floor] 66)) (.func (.func 94) #[] #[]) [] 67 Z (by rw[hZ];exact Kept.refl _);rw[World.size_alloc] at dd;exact dd)
 have hrow:Je Z ap len s.buds:=by
  have hr:=(h.kept hkz).toR;obtain⟨_,_,_,e,hat⟩:=hr
  cases e
  obtain⟨_,_,e,-,-,g⟩:=hat.buds
  cases e
  exact g
 have HR:=lH hrow;have H3:=lH (h.kept hkz);have HZ9:=lH (hz.step (jc.of hkz));have HS:=lH (show ∀k,S k→k<Z.heap.size from fun k e=>Nat.lt_of_lt_of_le (hS k e) hkz.size);have HB:=lH (show B≤Z.heap.size from Nat.le_trans hB hkz.size);have HA:=lH ha;have HLN:=lH (show s.buds.length=len from hrow.1);have HKZ:=lH hkz;have HLT:=lH (show ∀g,(Value.slice ap len cap).ownBlock=some g→g<w.heap.size from fun g hg=>(h.lt (by first | exact .inl hg | exact .inr (.inl hg) | exact .inr (.inr hg))).2);obtain⟨HBv,hHB⟩:∃q,hasB n.name (s.buds.map fun n=>n.name)=q:=⟨_,rfl⟩
 obtain⟨LB,hLB⟩:∃q,zo n.name (s.buds.map fun n=>n.name)=q:=⟨_,rfl⟩
 have HHB:=lH hHB;have HLB:=lH hLB;have hle:LB≤len:=by rw[←hLB];have:=Yr n.name (s.buds.map fun n=>n.name);rw[List.length_map,hrow.1] at this;exact this
 clear h hz hS hB hkz hrow ha hHB hLB;have c0z:=HC.out.at_ 0 _ rfl;have c1z:=HC.out.at_ 1 _ rfl;have c2z:=HC.out.at_ 2 _ rfl;have cqz:=HQ.out.at_ 0 _ rfl;go_enter Tryz.func91,Tryz.ntmps91;go_upto_region 1 with fail
 try rw[hZ]
 clear hZ;go_wp2_with fail
 refine(jeU n a1 m1 c1 Z).mono ?_;rintro e w1 ⟨rfl,kk⟩;have K1:=lH kk;clear kk;have HSE:=lH (jha ap len cap s.buds n.name (w.heap.size+1) w1 (HR.out.kept K1.out) HA.out hlen ((HQ.out.kept K1.out).at_ 0 _ rfl));rw[HHB.out,HLB.out] at HSE;go_wp2_with fail
 refine HSE.out.mono ?_;rintro e w2 ⟨rfl,kk⟩;have K2:=lH (K1.out.trans kk);clear kk HSE c0z c1z c2z cqz
 cases HBv with
 | true =>
  go_wp2;exact⟨rfl,.inl ⟨HHB.out,rfl,HKZ.out.trans K2.out⟩⟩
 | false =>
  by_cases hM:len=M
  · subst hM;have hme:((len:Int)==(len:Int))=true:=by simp
    go_wp2;exact⟨rfl,.inr (.inl ⟨HHB.out,rfl,rfl,HKZ.out.trans K2.out⟩)⟩
  have hme:((len:Int)==(M:Int))=false:=by simp;omega
  have c0z:=(HC.out.kept K2.out).at_ 0 _ rfl;have c1z:=(HC.out.kept K2.out).at_ 1 _ rfl;have c2z:=(HC.out.kept K2.out).at_ 2 _ rfl;go_wp2_with fail
  obtain⟨W3,hW3⟩:∃W,w2.alloc (.cells #[.string n.name,.slice a1 m1 c1,.int .i64 n.floor] 66)=W:=⟨_,rfl⟩
  have hk3:Kept w2 W3:=by rw[←hW3];exact ja _ _
  have hh3:W3.heap[w2.heap.size]?=some (.cells (zu.cs (n,(a1,m1,c1))).toArray 66 (0,0)):=by rw[←hW3];exact World.alloc_heap_new w2 _
  have K3:=lH (K2.out.trans hk3);try rw[hW3]
  have hins:=jmJ (i:=LB) (vc:=1) (H3.out.kept K3.out) (n,(a1,m1,c1)) hle hlen (Nat.le_trans HB.out K3.out.size) (fun k e=>Nat.lt_of_lt_of_le (HS.out k e) K3.out.size) hh3 (fun e=>by have h1:=HLT.out _ e;have h2:=HKZ.out.size;have h3:=K2.out.size;omega) (HZ9.out.step (jc.of K3.out));clear hW3 hk3 hh3 c0z c1z c2z;refine hins.mono ?_;clear hins;rintro e w4 ⟨g,c,rfl,ho,hg,-⟩;have HO:=lH ho;have HG:=lH ((jc.of (HKZ.out.trans K3.out)).trans hg);clear ho hg;go_wp2;go_ret;exact .inr (.inr ⟨HHB.out,hM,g,c,rfl,by rw[HLB.out];exact HO.out,HG.out⟩)
theorem jbZ (B:Nat) (q:Nat) (x y:Int) (w:World) (hq:w.cell? ⟨q,0,none⟩=some (.int .i64 y)) (hzq:w.frozen? ⟨q,0,none⟩=false) (hBq:B≤q) :
 CallsD Tryz.prog 183 #[.pointer (some ⟨q,0,none⟩)] (.panicking [ju x]) w fun e u' w' =>
  e=.returned (.tuple #[])∧u'=.panicking [{ ju x with recovered:=true }]∧w'=w.setCell ⟨q,0,none⟩ (.int .i64 x)∧w'.cell? ⟨q,0,none⟩=some (.int .i64 x)∧Below B w w':=by
 have hta:∀W,(Instr.typeAssert (.iface 32 (.int .i64 x)) 20 32 false).run Tryz.prog W=.ok (.int .i64 x) W:=fun _=>by kernel_rfl
 refine callsD_of_wpS Tryz.func183 rfl fun c₀ cs hu=>?_;apply wpS_seq;apply wpS_region;simp[wpOpsS,go_sem,recoverD,hu,Tryz.ntmps183,Exit.thenS];apply wpS_seq;apply wpS_region;simp[wpOpsS,go_sem,recoverD,Exit.thenS];refine wpS_cond (t:=true) (by simp[Act.eval,Array.replicate]) ?_;simp only[if_true];refine wpS_of_wp ?_;simp[Array.replicate];go_wp2;simp[bodyPostS,results,Tryz.results183];exact⟨World.cell?_setCell_same' _ _ _ (by rw[hq];rfl),(Below.refl B w).setCell (p:=⟨q,0,none⟩) hBq _⟩
theorem jfh (q:Addr) (w:World) :
 CallsD Tryz.prog 183 #[.pointer (some q)] .returning w fun e u' w'=>e=.returned (.tuple #[])∧u'=.returning∧w'=w:=by
 refine callsD_of_wpS Tryz.func183 rfl fun c₀ cs hu=>?_;apply wpS_seq;apply wpS_region;simp[wpOpsS,go_sem,recoverD,hu,Tryz.ntmps183,Exit.thenS];apply wpS_seq;apply wpS_region;simp[wpOpsS,go_sem,recoverD,hu,Exit.thenS];refine wpS_cond (t:=false) (by simp[Act.eval,Array.replicate]) ?_;simp only[Bool.false_eq_true,if_false];refine wpS_of_wp (wp_skip ?_)
 cases c₀
 simp_all [bodyPostS,results,Tryz.results183]
def jgS (c:Int) (n:Bd) (w:World) (e:Ending) (w':World):Prop:=∃v,e=.returned (.tuple #[v,.int .i64 c])∧ZP w.heap.size w' v (if c=0 then n else Bd.zero)∧Kept w w'
theorem jkr (C:Addr) (s:List UInt8) (n:Bd) (c:Int) (w:World) (h1:w.cell? C=some (.string (bytes s))) (hP:∀W,Kept w W→Calls Tryz.prog 137 #[.string (bytes s)] W (Xu c n W)) :
 Calls Tryz.prog 136 #[.pointer (some C)] w (Xu c n w):=by
 obtain⟨Z,hZ⟩:∃Z,w.alloc (.cells #[.string ⟨#[]⟩,.slice none 0 0,.int .i64 0] 66)=Z:=⟨_,rfl⟩
 have hk:Kept w Z:=by rw[←hZ];exact ja _ _
 have hzs:Z.heap.size=w.heap.size+1:=by rw[←hZ];simp
 have hcc:=cell_later hk h1;have HP:=lH (hP Z hk);have HK:=lH hk;have HQ:=lH (show jf w.heap.size [.string ⟨#[]⟩,.slice none 0 0,.int .i64 0] Z from jg w (.string ⟨#[]⟩) [.slice none 0 0,.int .i64 0] 66 Z (by rw[hZ];exact Kept.refl _));have HZS:=lH hzs;clear h1 hk hP hzs;go_enter Tryz.func136,Tryz.ntmps136;go_wp2_with fail
 try rw[hZ]
 refine HP.out.mono ?_;rintro e w2 ⟨g0,g1,k⟩;have KK:=lH k;have HQ2:=lH (HQ.out.kept k);by_cases hx:c=0
 · obtain⟨v,rfl,hn⟩:=g0 hx;have HX:=lH hx;have HN:=lH hn;obtain⟨b1,n1,d1,rfl,-⟩:=hn;clear g0 g1 k hx hZ;obtain⟨z0,hz0⟩:∃z,n.name=z:=⟨_,rfl⟩
   obtain⟨z2,hz2⟩:∃z,n.floor=z:=⟨_,rfl⟩
   unfold Zt at HN ⊢;rw[hz0,hz2] at HN;rw[hz0,hz2];have P:=lH (J7 (vs:=[.string z0,.slice b1 n1 d1,.int .i64 z2]) HQ2.out rfl);have y0:=HQ2.out.at_ 0 _ rfl;have y1:=HQ2.out.at_ 1 _ rfl;have y2:=HQ2.out.at_ 2 _ rfl;have x0:=HQ2.out.free 0;have x1:=HQ2.out.free 1;have x2:=HQ2.out.free 2;clear hz0 hz2;go_wp2;obtain⟨WE,hWE⟩:∃W,w2.setCells w.heap.size 0 [.string z0,.slice b1 n1 d1,.int .i64 z2]=W:=⟨_,rfl⟩
   have hWE2:(((w2.setCell ⟨w.heap.size,0,none⟩ (.string z0)).setCell ⟨w.heap.size,1,none⟩ (.slice b1 n1 d1)).setCell ⟨w.heap.size,2,none⟩ (.int .i64 z2))=WE:=hWE;rw[hWE] at P;rw[hWE2];clear hWE hWE2 y0 x0 y1 x1 y2 x2;obtain⟨PC,hsz,hbl,hkp⟩:=P.out;refine bodyPost_ret (by simp[results,Tryz.results136,go_sem,PC.at_ 0 _ rfl,PC.at_ 1 _ rfl,PC.at_ 2 _ rfl];try rfl) rfl ?_;exact⟨fun _=>⟨_,rfl,(HN.out.far hsz (fun b hb=>hbl b (by have:=HZS.out;omega))).less (by have:=HZS.out;omega)⟩,fun h=>absurd HX.out h,hkp _ _ (Nat.le_refl _) (HK.out.trans KK.out)⟩
 · obtain rfl:=g1 hx;have HX:=lH hx;clear g0 g1 k hx hZ;go_wp2;exact⟨rfl,Xu.bad HX.out (HK.out.trans KK.out)⟩
theorem jgd (C:Addr) (n:Bd) (c:Int) (w:World)
 (hk:∀W,Kept w W→Calls Tryz.prog 136 #[.pointer (some C)] W (Xu c n W)) :
 Calls Tryz.prog 135 #[.func (.func 136) #[] #[.pointer (some C)]] w (jgS c n w):=by
 have hmf:=hmfL (P:=Tryz.prog);obtain⟨Z,hZ⟩:∃Z,(w.alloc (.cells #[.string ⟨#[]⟩,.slice none 0 0,.int .i64 0] 66)).alloc (.cells #[.int .i64 0] 32)=Z:=⟨_,rfl⟩
 have hkz:Kept w Z:=by rw[←hZ];exact jk _ _ _
 have hzs:Z.heap.size=w.heap.size+2:=by rw[←hZ];simp
 have HK:=lH hkz;have HQ:=lH (show jf w.heap.size [.string ⟨#[]⟩,.slice none 0 0,.int .i64 0] Z from jg w (.string ⟨#[]⟩) [.slice none 0 0,.int .i64 0] 66 Z (by rw[←hZ];exact ja _ _));have HZE:=lH (show jf (w.heap.size+1) [.int .i64 0] Z by
  have:=jg (w.alloc (.cells #[.string ⟨#[]⟩,.slice none 0 0,.int .i64 0] 66)) (.int .i64 0) [] 32 Z (by rw[hZ];exact Kept.refl _);rw[World.size_alloc] at this;exact this)
 have HZS:=lH hzs;have HKC:=lH (hk Z hkz);clear hk hkz hzs;go_enter_defers Tryz.func135,Tryz.ntmps135
 go_wp2_with fail
 try rw[hZ]
 refine HKC.out.mono ?_;rintro e1 w1 ⟨h0,h1,hb⟩;have KK:=lH hb;have HQ1:=lH (HQ.out.kept hb);have HE1:=lH (HZE.out.kept hb);have hws:w.heap.size+1<w1.heap.size:=by have:=hb.size;have:=HZS.out;omega
 have ze:=HE1.out.at_ 0 _ rfl;have zf:=HE1.out.free 0;by_cases hx:c=0
 · subst hx;obtain⟨v,rfl,hn⟩:=h0 rfl;have HN:=lH hn;obtain⟨b1,n1,d1,rfl,-⟩:=hn;clear h0 h1 hb hZ;obtain⟨z0,hz0⟩:∃z,n.name=z:=⟨_,rfl⟩
   obtain⟨z2,hz2⟩:∃z,n.floor=z:=⟨_,rfl⟩
   unfold Zt at HN ⊢;rw[hz0,hz2] at HN;rw[hz0,hz2];have P:=lH (J7 (vs:=[.string z0,.slice b1 n1 d1,.int .i64 z2]) HQ1.out rfl);have y0:=HQ1.out.at_ 0 _ rfl;have y1:=HQ1.out.at_ 1 _ rfl;have y2:=HQ1.out.at_ 2 _ rfl;have x0:=HQ1.out.free 0;have x1:=HQ1.out.free 1;have x2:=HQ1.out.free 2;clear hz0 hz2;go_wp2_with fail
   obtain⟨WE,hWE⟩:∃W,w1.setCells w.heap.size 0 [.string z0,.slice b1 n1 d1,.int .i64 z2]=W:=⟨_,rfl⟩
   have hWE2:(((w1.setCell ⟨w.heap.size,0,none⟩ (.string z0)).setCell ⟨w.heap.size,1,none⟩ (.slice b1 n1 d1)).setCell ⟨w.heap.size,2,none⟩ (.int .i64 z2))=WE:=hWE;rw[hWE] at P;rw[hWE2];clear hWE hWE2 y0 x0 y1 x1 y2 x2;obtain⟨PC,hsz,hbl,hkp⟩:=P.out;have ez:jf (w.heap.size+1) [.int .i64 0] WE:=HE1.out.block (hbl _ (by omega));have hb2:∀b,b≠w.heap.size+1→(WE.setCell ⟨w.heap.size+1,0,none⟩ (.int .i64 0)).heap[b]?=WE.heap[b]?:=fun b hb=>Below.heap_setCell WE ⟨w.heap.size+1,0,none⟩ _ b hb;have FE:=lH (ez.set (j:=0) (u:=.int .i64 0) (by simp));have FQ:=lH (PC.block (hb2 w.heap.size (by omega)));have KF:=lH (show Kept w (WE.setCell ⟨w.heap.size+1,0,none⟩ (.int .i64 0)) from(hkp _ _ (Nat.le_refl _) (HK.out.trans KK.out)).setCell (p:=⟨w.heap.size+1,0,none⟩) (Nat.le_succ _) _);have NF:=lH ((HN.out.far (w':=WE.setCell ⟨w.heap.size+1,0,none⟩ (.int .i64 0)) (by simp[World.setCell,hsz]) (fun b hb=>(hb2 b (by have:=HZS.out;omega)).trans (hbl b (by have:=HZS.out;omega)))).less (B':=w.heap.size) (by have:=HZS.out;omega));obtain⟨WF,hWF⟩:∃W,WE.setCell ⟨w.heap.size+1,0,none⟩ (.int .i64 0)=W:=⟨_,rfl⟩
   rw[hWF] at FE FQ KF NF ⊢;have fe:=FE.out.at_ 0 _ rfl;clear hWF hb2 ez P hbl hkp PC ze zf;refine leaves_cons (f:=183) (args:=#[.pointer (some ⟨w.heap.size+1,0,none⟩)]) (by simp) (by simp[go_sem]) ?_;refine(jfh ⟨w.heap.size+1,0,none⟩ _).mono ?_;rintro e u' w'' ⟨rfl,rfl,rfl⟩;simp[Leaves,settle,results,Tryz.results135,go_sem,fe,FQ.out.at_ 0 _ rfl,FQ.out.at_ 1 _ rfl,FQ.out.at_ 2 _ rfl];exact⟨_,rfl,by rw[if_pos rfl];exact NF.out,KF.out⟩
 · obtain rfl:=h1 hx;have HX:=lH hx;have KW:=lH (HK.out.trans KK.out);clear h0 h1 hb hZ hx;go_wp2_with fail
   refine leaves_cons (f:=183) (args:=#[.pointer (some ⟨w.heap.size+1,0,none⟩)]) (by simp) (by simp[go_sem]) ?_;refine(jbZ w.heap.size (w.heap.size+1) c 0 _ ze zf (by omega)).mono ?_;rintro e u' w'' ⟨rfl,rfl,rfl,q2,q3⟩;have hb2:(w1.setCell ⟨w.heap.size+1,0,none⟩ (.int .i64 c)).heap[w.heap.size]?=w1.heap[w.heap.size]?:=Below.heap_setCell w1 ⟨w.heap.size+1,0,none⟩ _ w.heap.size (by simp);have FQ:=lH (HQ1.out.block hb2);have KF:=lH (show Kept w _ from Below.trans KW.out q3);obtain⟨WF,hWF⟩:∃W,w1.setCell ⟨w.heap.size+1,0,none⟩ (.int .i64 c)=W:=⟨_,rfl⟩
   rw[hWF] at q2 FQ KF ⊢;clear hWF hb2 q3 ze zf;simp[Leaves,settle,results,Tryz.results135,go_sem,q2,FQ.out.at_ 0 _ rfl,FQ.out.at_ 1 _ rfl,FQ.out.at_ 2 _ rfl];exact⟨_,rfl,by rw[if_neg HX.out];exact jg6 _ _,KF.out⟩
theorem jhx (s:List UInt8) (n:Bd) (c:Int) (w:World) (hP:∀W,Kept w W→Calls Tryz.prog 137 #[.string (bytes s)] W (Xu c n W)) :
 Calls Tryz.prog 93 #[.string (bytes s)] w (jgS c n w):=by
 have hmf:=hmfL (P:=Tryz.prog);obtain⟨Z,hZ⟩:∃Z,(w.alloc (.cells #[.string (bytes s)] 9)).alloc (.cells #[.string ⟨#[]⟩,.slice none 0 0,.int .i64 0] 66)=Z:=⟨_,rfl⟩
 have hkz:Kept w Z:=by rw[←hZ];exact jk _ _ _
 have hzs:Z.heap.size=w.heap.size+2:=by rw[←hZ];simp
 have hzc:Z.cell? ⟨w.heap.size,0,none⟩=some (.string (bytes s)):=(jg w (.string (bytes s)) [] 9 Z (by rw[←hZ];exact ja _ _)).at_ 0 _ rfl;have HK:=lH hkz;have HQ:=lH (show jf (w.heap.size+1) [.string ⟨#[]⟩,.slice none 0 0,.int .i64 0] Z by
  have:=jg (w.alloc (.cells #[.string (bytes s)] 9)) (.string ⟨#[]⟩) [.slice none 0 0,.int .i64 0] 66 Z (by rw[hZ];exact Kept.refl _);rw[World.size_alloc] at this;exact this)
 have HZS:=lH hzs;have HC:=lH (jgd ⟨w.heap.size,0,none⟩ n c Z (fun W k=>jkr ⟨w.heap.size,0,none⟩ s n c W (cell_later k hzc) (fun W' k'=>hP W' (hkz.trans (k.trans k')))));obtain⟨m,hm⟩:∃m,(if c=0 then n else Bd.zero)=m:=⟨_,rfl⟩
 unfold jgS at HC ⊢;rw[hm] at HC;rw[hm];clear hP hzc hkz hzs hm;go_enter Tryz.func93,Tryz.ntmps93;go_wp2_with fail
 try rw[hZ]
 refine HC.out.mono ?_;rintro e w1 ⟨v,rfl,hn,k⟩;have KK:=lH k;have HN:=lH hn;have HQ1:=lH (HQ.out.kept k);obtain⟨b1,n1,d1,rfl,-⟩:=hn;clear k hZ;obtain⟨z0,hz0⟩:∃z,m.name=z:=⟨_,rfl⟩
 obtain⟨z2,hz2⟩:∃z,m.floor=z:=⟨_,rfl⟩
 unfold Zt at HN ⊢;rw[hz0,hz2] at HN;rw[hz0,hz2];have P:=lH (J7 (vs:=[.string z0,.slice b1 n1 d1,.int .i64 z2]) HQ1.out rfl);have y0:=HQ1.out.at_ 0 _ rfl;have y1:=HQ1.out.at_ 1 _ rfl;have y2:=HQ1.out.at_ 2 _ rfl;have x0:=HQ1.out.free 0;have x1:=HQ1.out.free 1;have x2:=HQ1.out.free 2;clear hz0 hz2;go_wp2;obtain⟨WE,hWE⟩:∃W,w1.setCells (w.heap.size+1) 0 [.string z0,.slice b1 n1 d1,.int .i64 z2]=W:=⟨_,rfl⟩
 have hWE2:(((w1.setCell ⟨(w.heap.size+1),0,none⟩ (.string z0)).setCell ⟨(w.heap.size+1),1,none⟩ (.slice b1 n1 d1)).setCell ⟨(w.heap.size+1),2,none⟩ (.int .i64 z2))=WE:=hWE;rw[hWE] at P;rw[hWE2];clear hWE hWE2 y0 x0 y1 x1 y2 x2;obtain⟨PC,hsz,hbl,hkp⟩:=P.out;refine bodyPost_ret (by simp[results,Tryz.results93,go_sem,PC.at_ 0 _ rfl,PC.at_ 1 _ rfl,PC.at_ 2 _ rfl];try rfl) rfl ?_;exact⟨_,rfl,(HN.out.far hsz (fun b hb=>hbl b (by have:=HZS.out;omega))).less (by have:=HZS.out;omega),hkp _ _ (Nat.le_succ _) (HK.out.trans KK.out)⟩
theorem jkj (R B:Nat) (line:Int) (r:List UInt8) (n:Bd) (v1 v2 v3:Value) (s:Clu) (w:World) (hE:Jf w) (hr:r.length≤900000) (hP:∀W,Jf W→Calls Tryz.prog 93 #[.string (bytes r)] W fun e w'=>∃v,e=.returned (.tuple #[v,.int .i64 0])∧ZP W.heap.size w' v n∧Kept W w') (hR:jf R [v1,v2,v3,.int .i64 line] w) (h:jW (fun b=>b<B) B w v1 v2 v3 s) (hRB:R<B) (hB:B≤w.heap.size) (hl:s.buds.length≤1000) (ha:Zs (s.buds.map fun n=>n.name)) :
 Calls Tryz.prog 50 #[.pointer (some ⟨R,0,none⟩),.string (bytes ([98,117,100,103,101,116]++32::r))] w (XL R B line s (.bud n) w):=by
 obtain⟨ap,len,cap,hlen,rfl⟩:∃ap len cap,s.buds.length=len∧v3=.slice ap len cap:=by
  obtain⟨lx,e,ho,-⟩:=h.b;obtain⟨a,c,e2,-⟩:=ho.at_;exact⟨a,_,c,by rw[←e,List.length_map],e2⟩
 obtain⟨tx,htx⟩:∃q,bytes ([98,117,100,103,101,116]++32::r)=q:=⟨_,rfl⟩
 have HTX:=lH htx;have hne:(tx.toList==([]:List UInt8))=false:=by rw[←htx,jn];rfl
 have HPF:=lH (show Calls Tryz.prog 81 #[.string tx,.string ⟨#[35]⟩] w fun e w'=>e=.returned (.bool false)∧w'=w by
  have:=Zd ([98,117,100,103,101,116]++32::r) [35] w;rw[htx] at this;exact this)
 have HCU:=lH (show Calls Tryz.prog 82 #[.string tx,.string ⟨#[32]⟩] w fun e w'=>e=.returned (.tuple #[.string ⟨#[98,117,100,103,101,116]⟩,.string (bytes r),.bool true])∧∃n,w'=w.drewN n by
  have:=JC 32 ([98,117,100,103,101,116]++32::r) w hE.toEnvT.toEnv.base (by simp;omega);rw[JM (c:=32) (x:=[98,117,100,103,101,116]) r (by decide),htx] at this;exact this)
 have HE:=lH hE;have HP:=lH hP;have HR:=lH hR;have H3:=lH h;have HA:=lH ha;have HL:=lH hlen;have HB:=lH hB;rw[hlen] at hl;rw[htx];clear hE hP hR h ha hB htx hlen;go_enter Tryz.func50,Tryz.ntmps50;go_wp2_with fail
 refine HPF.out.mono ?_;rintro e wa ⟨rfl,rfl⟩;obtain⟨w,rfl⟩:∃W,W=wa:=⟨_,rfl⟩
 go_wp2_with fail
 refine HCU.out.mono ?_;rintro e wa ⟨rfl,nq,rfl⟩;go_upto_region 9 with fail
 obtain⟨w1,hw1⟩:∃W,w.drewN nq=W:=⟨_,rfl⟩
 have K1:=lH (show Kept w w1 by rw[←hw1];exact Kept.drewN _ _);try rw[hw1]
 clear hw1 hne HPF HCU;have J:=lH (K1.out.trans (Kept.drew w1));refine wp_region_held_drew (S:=fun W=>True) (by kernel_rfl) trivial (fun hHeld=>?_);obtain⟨w2,hw2⟩:∃W,w1.drew=W:=⟨_,rfl⟩
 rw[hw2] at J;try rw[hw2]
 clear hw2;refine tkJ 0 ?_;refine tkJ 1 ?_;refine tkJ 2 ?_;refine tkJ 3 ?_;refine tkJ 4 ?_;refine tkJ 6 ?_;try simp only[nP]
 refine rdH (rs:=[5,7]) (h:=coH (fun K9 hK9=>?_) (coH (fun K9 hK9=>?_) AllReadyH.nil))
 · skip;have yq:=(HR.out.kept J.out).at_ 2 _ rfl;go_simp;refine hK9.out _ _ trivial (fun hHeldL=>?_);clear hK9 K9 yq;try simp only[nP]
   refine rd1 7 fun K9 hK9=>?_;go_simp;refine(HP.out _ (HE.out.kept J.out)).mono ?_;rintro e x1 ⟨pv,rfl,hv,kk⟩;have HSZ:=lH J.out.size;have H3P:=lH (H3.out.kept J.out);have J:=lH (J.out.trans kk);obtain⟨a1,m1,c1,rfl,hat,b1⟩:=hv;unfold Zt;have HZ:=lH (show Off (Tri (fun b=>b<B) v1 v2 (.slice ap len cap)) x1 fun u=>At1 u (n,(a1,m1,c1)) from zL.off (B:=w2.heap.size) hat b1 (fun q hq ht=>by
    rcases ht with ht | ht
    · have:=HB.out;have:=HSZ.out;omega
    · have:=(H3P.out.lt ht).2;omega))
   skip;clear hat kk b1;refine hK9.out _ _ trivial (fun hHeldP=>?_);clear hK9 K9;try simp only[nP]
   refine tkJ 8 ?_;refine tkJ 9 ?_;try simp only[nP]
   refine rd1 10 fun K9 hK9=>?_;go_simp;refine(qo _ _ _ _ _ _).mono ?_;rintro e x2 ⟨rfl,kk⟩;have J:=lH (J.out.trans kk);have HZ:=lH (HZ.out.step (jc.of kk));clear kk;refine hK9.out _ _ trivial (fun hHeldS=>?_);clear hK9 K9;try simp only[nP]
   refine rd1 11 fun K9 hK9=>?_;go_simp;refine(jbv (fun b=>b<B) B ap len cap v1 v2 s n a1 m1 c1 8 x2 (H3.out.kept J.out) (by omega) (fun q hq=>by have:=HB.out;have:=J.out.size;omega) (Nat.le_trans HB.out J.out.size) HZ.out HA.out).mono ?_;rintro e x3 (⟨hh,rfl,kk⟩ | ⟨hh,hm,rfl,kk⟩ | ⟨hh,hm,g,c,rfl,ho,hg⟩)
   · have hst:jj s (.bud n)=(6,s):=by unfold jj;dsimp only;rw[if_pos hh]
     exact⟨rfl,jc.of (J.out.trans kk),_,_,_,HR.out.kept (J.out.trans kk),by rw[hst];exact H3.out.kept (J.out.trans kk),.inr ⟨by rw[hst];exact(by decide:(6:Int)≠0),by rw[hst]⟩⟩
   · have hst:jj s (.bud n)=(4,s):=by unfold jj;dsimp only;rw[if_neg (by rw[hh];decide),if_pos (HL.out.trans hm)]
     exact⟨rfl,jc.of (J.out.trans kk),_,_,_,HR.out.kept (J.out.trans kk),by rw[hst];exact H3.out.kept (J.out.trans kk),.inr ⟨by rw[hst];exact(by decide:(4:Int)≠0),by rw[hst]⟩⟩
   · have HST:=lH (show jj s (.bud n)=(0,qj s n) by unfold jj;dsimp only;rw[if_neg (by rw[hh];decide),if_neg (by rw[HL.out];exact hm)]);have HO:=lH ho;have HG:=lH hg;have HNR:=lH (show ∀q,(Value.slice ap len cap).ownBlock=some q→q≠R from fun q e he=>H3.out.sep q (.inr (.inr e)) (by rw[he];exact hRB));have HGE:=lH (show ∀q,(Value.slice ap len cap).ownBlock=some q→B≤q from fun q e=>(H3.out.lt (.inr (.inr e))).1);clear hh hm ho hg;have HRX:=lH ((HR.out.kept J.out).block (HG.out.block R (by have:=HB.out;have:=J.out.size;omega) (fun e=>HNR.out R e rfl)));refine hK9.out _ _ trivial (fun hHeldW=>?_);clear hK9 K9;try simp only[nP]
     refine tkJ 12 ?_;refine tkJ 13 ?_;refine tkJ 14 ?_;try simp only[nP]
     have q1:=HRX.out.at_ 2 _ rfl;have f1:=HRX.out.free 2;refine rd1 15 fun K9 hK9=>?_;go_simp;obtain⟨x4,hx4⟩:∃W,x3.setCell ⟨R,2,none⟩ (.slice (some ⟨g,0,none⟩) (len+1) c)=W:=⟨_,rfl⟩
     have HRY:=lH (show jf R [v1,v2,.slice (some ⟨g,0,none⟩) (len+1) c,.int .i64 line] x4 by rw[←hx4];exact HRX.out.set (j:=2) (by simp));have HGC:=lH (show jc (fun b=>b=R) x3 x4 by rw[←hx4];exact jc.cell (S:=fun b=>b=R) R _ _ rfl);try rw[hx4]
     refine hK9.out _ _ trivial (fun hHeldX=>?_);clear hK9 K9 q1 f1 hx4;try simp only[nP]
     refine wpAnyH_done (by kernel_rfl) ?_ _;go_wp2;refine⟨rfl,.tuple #[],by simp[results,Tryz.results50,go_sem],?_⟩;exact⟨((jc.of J.out).trans (HG.out.mono fun b e=>.inr (HGE.out b e))).trans (HGC.out.mono fun b e=>.inl e),_,_,_,HRY.out,by rw[HST.out];exact HO.out.step (HGC.out.mono fun b e=>by rw[e];exact hRB),.inl ⟨by rw[HST.out],_,rfl⟩⟩
 · go_simp;refine(HP.out _ (HE.out.kept J.out)).mono ?_;rintro e x1 ⟨pv,rfl,hv,kk⟩;have HSZ:=lH J.out.size;have H3P:=lH (H3.out.kept J.out);have J:=lH (J.out.trans kk);obtain⟨a1,m1,c1,rfl,hat,b1⟩:=hv;unfold Zt;have HZ:=lH (show Off (Tri (fun b=>b<B) v1 v2 (.slice ap len cap)) x1 fun u=>At1 u (n,(a1,m1,c1)) from zL.off (B:=w2.heap.size) hat b1 (fun q hq ht=>by
    rcases ht with ht | ht
    · have:=HB.out;have:=HSZ.out;omega
    · have:=(H3P.out.lt ht).2;omega))
   skip;clear hat kk b1;refine hK9.out _ _ trivial (fun hHeldP=>?_);clear hK9 K9;try simp only[nP]
   refine tkJ 8 ?_;refine tkJ 9 ?_;try simp only[nP]
   refine rdH (rs:=[5,10]) (h:=coH (fun K9 hK9=>?_) (coH (fun K9 hK9=>?_) AllReadyH.nil))
   · skip;have yq:=(HR.out.kept J.out).at_ 2 _ rfl;go_simp;refine hK9.out _ _ trivial (fun hHeldL=>?_);clear hK9 K9 yq;try simp only[nP]
     refine rd1 10 fun K9 hK9=>?_;go_simp;refine(qo _ _ _ _ _ _).mono ?_;rintro e x2 ⟨rfl,kk⟩;have J:=lH (J.out.trans kk);have HZ:=lH (HZ.out.step (jc.of kk));clear kk;refine hK9.out _ _ trivial (fun hHeldS=>?_);clear hK9 K9;try simp only[nP]
     refine rd1 11 fun K9 hK9=>?_;go_simp;refine(jbv (fun b=>b<B) B ap len cap v1 v2 s n a1 m1 c1 8 x2 (H3.out.kept J.out) (by omega) (fun q hq=>by have:=HB.out;have:=J.out.size;omega) (Nat.le_trans HB.out J.out.size) HZ.out HA.out).mono ?_;rintro e x3 (⟨hh,rfl,kk⟩ | ⟨hh,hm,rfl,kk⟩ | ⟨hh,hm,g,c,rfl,ho,hg⟩)
     · have hst:jj s (.bud n)=(6,s):=by unfold jj;dsimp only;rw[if_pos hh]
       exact⟨rfl,jc.of (J.out.trans kk),_,_,_,HR.out.kept (J.out.trans kk),by rw[hst];exact H3.out.kept (J.out.trans kk),.inr ⟨by rw[hst];exact(by decide:(6:Int)≠0),by rw[hst]⟩⟩
     · have hst:jj s (.bud n)=(4,s):=by unfold jj;dsimp only;rw[if_neg (by rw[hh];decide),if_pos (HL.out.trans hm)]
       exact⟨rfl,jc.of (J.out.trans kk),_,_,_,HR.out.kept (J.out.trans kk),by rw[hst];exact H3.out.kept (J.out.trans kk),.inr ⟨by rw[hst];exact(by decide:(4:Int)≠0),by rw[hst]⟩⟩
     · have HST:=lH (show jj s (.bud n)=(0,qj s n) by unfold jj;dsimp only;rw[if_neg (by rw[hh];decide),if_neg (by rw[HL.out];exact hm)]);have HO:=lH ho;have HG:=lH hg;have HNR:=lH (show ∀q,(Value.slice ap len cap).ownBlock=some q→q≠R from fun q e he=>H3.out.sep q (.inr (.inr e)) (by rw[he];exact hRB));have HGE:=lH (show ∀q,(Value.slice ap len cap).ownBlock=some q→B≤q from fun q e=>(H3.out.lt (.inr (.inr e))).1);clear hh hm ho hg;have HRX:=lH ((HR.out.kept J.out).block (HG.out.block R (by have:=HB.out;have:=J.out.size;omega) (fun e=>HNR.out R e rfl)));refine hK9.out _ _ trivial (fun hHeldW=>?_);clear hK9 K9;try simp only[nP]
       refine tkJ 12 ?_;refine tkJ 13 ?_;refine tkJ 14 ?_;try simp only[nP]
       have q1:=HRX.out.at_ 2 _ rfl;have f1:=HRX.out.free 2;refine rd1 15 fun K9 hK9=>?_;go_simp;obtain⟨x4,hx4⟩:∃W,x3.setCell ⟨R,2,none⟩ (.slice (some ⟨g,0,none⟩) (len+1) c)=W:=⟨_,rfl⟩
       have HRY:=lH (show jf R [v1,v2,.slice (some ⟨g,0,none⟩) (len+1) c,.int .i64 line] x4 by rw[←hx4];exact HRX.out.set (j:=2) (by simp));have HGC:=lH (show jc (fun b=>b=R) x3 x4 by rw[←hx4];exact jc.cell (S:=fun b=>b=R) R _ _ rfl);try rw[hx4]
       refine hK9.out _ _ trivial (fun hHeldX=>?_);clear hK9 K9 q1 f1 hx4;try simp only[nP]
       refine wpAnyH_done (by kernel_rfl) ?_ _;go_wp2;refine⟨rfl,.tuple #[],by simp[results,Tryz.results50,go_sem],?_⟩;exact⟨((jc.of J.out).trans (HG.out.mono fun b e=>.inr (HGE.out b e))).trans (HGC.out.mono fun b e=>.inl e),_,_,_,HRY.out,by rw[HST.out];exact HO.out.step (HGC.out.mono fun b e=>by rw[e];exact hRB),.inl ⟨by rw[HST.out],_,rfl⟩⟩
   · go_simp;refine(qo _ _ _ _ _ _).mono ?_;rintro e x2 ⟨rfl,kk⟩;have J:=lH (J.out.trans kk);have HZ:=lH (HZ.out.step (jc.of kk));clear kk;refine hK9.out _ _ trivial (fun hHeldS=>?_);clear hK9 K9;try simp only[nP]
     refine rd1 5 fun K9 hK9=>?_;have yq:=(HR.out.kept J.out).at_ 2 _ rfl;go_simp;refine hK9.out _ _ trivial (fun hHeldL=>?_);clear hK9 K9 yq;try simp only[nP]
     refine rd1 11 fun K9 hK9=>?_;go_simp;refine(jbv (fun b=>b<B) B ap len cap v1 v2 s n a1 m1 c1 8 x2 (H3.out.kept J.out) (by omega) (fun q hq=>by have:=HB.out;have:=J.out.size;omega) (Nat.le_trans HB.out J.out.size) HZ.out HA.out).mono ?_;rintro e x3 (⟨hh,rfl,kk⟩ | ⟨hh,hm,rfl,kk⟩ | ⟨hh,hm,g,c,rfl,ho,hg⟩)
     · have hst:jj s (.bud n)=(6,s):=by unfold jj;dsimp only;rw[if_pos hh]
       exact⟨rfl,jc.of (J.out.trans kk),_,_,_,HR.out.kept (J.out.trans kk),by rw[hst];exact H3.out.kept (J.out.trans kk),.inr ⟨by rw[hst];exact(by decide:(6:Int)≠0),by rw[hst]⟩⟩
     · have hst:jj s (.bud n)=(4,s):=by unfold jj;dsimp only;rw[if_neg (by rw[hh];decide),if_pos (HL.out.trans hm)]
       exact⟨rfl,jc.of (J.out.trans kk),_,_,_,HR.out.kept (J.out.trans kk),by rw[hst];exact H3.out.kept (J.out.trans kk),.inr ⟨by rw[hst];exact(by decide:(4:Int)≠0),by rw[hst]⟩⟩
     · have HST:=lH (show jj s (.bud n)=(0,qj s n) by unfold jj;dsimp only;rw[if_neg (by rw[hh];decide),if_neg (by rw[HL.out];exact hm)]);have HO:=lH ho;have HG:=lH hg;have HNR:=lH (show ∀q,(Value.slice ap len cap).ownBlock=some q→q≠R from fun q e he=>H3.out.sep q (.inr (.inr e)) (by rw[he];exact hRB));have HGE:=lH (show ∀q,(Value.slice ap len cap).ownBlock=some q→B≤q from fun q e=>(H3.out.lt (.inr (.inr e))).1);clear hh hm ho hg;have HRX:=lH ((HR.out.kept J.out).block (HG.out.block R (by have:=HB.out;have:=J.out.size;omega) (fun e=>HNR.out R e rfl)));refine hK9.out _ _ trivial (fun hHeldW=>?_);clear hK9 K9;try simp only[nP]
       refine tkJ 12 ?_;refine tkJ 13 ?_;refine tkJ 14 ?_;try simp only[nP]
       have q1:=HRX.out.at_ 2 _ rfl;have f1:=HRX.out.free 2;refine rd1 15 fun K9 hK9=>?_;go_simp;obtain⟨x4,hx4⟩:∃W,x3.setCell ⟨R,2,none⟩ (.slice (some ⟨g,0,none⟩) (len+1) c)=W:=⟨_,rfl⟩
       have HRY:=lH (show jf R [v1,v2,.slice (some ⟨g,0,none⟩) (len+1) c,.int .i64 line] x4 by rw[←hx4];exact HRX.out.set (j:=2) (by simp));have HGC:=lH (show jc (fun b=>b=R) x3 x4 by rw[←hx4];exact jc.cell (S:=fun b=>b=R) R _ _ rfl);try rw[hx4]
       refine hK9.out _ _ trivial (fun hHeldX=>?_);clear hK9 K9 q1 f1 hx4;try simp only[nP]
       refine wpAnyH_done (by kernel_rfl) ?_ _;go_wp2;refine⟨rfl,.tuple #[],by simp[results,Tryz.results50,go_sem],?_⟩;exact⟨((jc.of J.out).trans (HG.out.mono fun b e=>.inr (HGE.out b e))).trans (HGC.out.mono fun b e=>.inl e),_,_,_,HRY.out,by rw[HST.out];exact HO.out.step (HGC.out.mono fun b e=>by rw[e];exact hRB),.inl ⟨by rw[HST.out],_,rfl⟩⟩
end Go.Proofs.YthmddloeggdohaaGreatDoor
