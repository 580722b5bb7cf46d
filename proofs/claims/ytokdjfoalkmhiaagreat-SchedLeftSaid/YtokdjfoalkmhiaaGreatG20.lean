/- The law. -/
import Derived.Test.YtokdjfoalkmhiaaGreatG12
import Derived.Test.YtokdjfoalkmhiaaGreatG14
import Derived.Test.YtokdjfoalkmhiaaGreatG19
set_option linter.unusedVariables false
set_option maxRecDepth 100000
set_option maxHeartbeats 25600000
namespace Go.Proofs.YtokdjfoalkmhiaaGreat
open Go.RowKit
theorem jlJ {s:Clu} (h:Jt s=0):s.pods.length≤128:=by
 have:=(jbc h).pods;unfold jK at this;split at this
 · cases this
 · omega
theorem jmK {s:Clu} {p:Pd} (h:jO s p s.nodes≠[]):0<(jO s p s.nodes).length:=by
 cases e:jO s p s.nodes with
 | nil=>exact absurd e h
 | cons a t=>simp
theorem SchedLeft_walk (v:Value) (s:Clu) (pk:Bool) (w:World) (h:jB w v s):Calls Tryz.prog 3 #[v,.bool pk] w fun e w'=>e=.returned (.bool true)∧Kept w w':=by
 obtain⟨sa1,sl1,sc1,sa2,sl2,sc2,sa3,sl3,sc3,rfl⟩:=Y0 h;obtain⟨Z,hZ⟩:=eX (w.alloc (.cells #[.slice sa1 sl1 sc1,.slice sa2 sl2 sc2,.slice sa3 sl3 sc3] 26))
 have hkz:Kept w Z:=by rw[←hZ];exact ja _ _
 obtain⟨VE,HS,K⟩:=lH3 (jb w (.slice sa1 sl1 sc1) [.slice sa2 sl2 sc2,.slice sa3 sl3 sc3] 26 Z (by rw[hZ];exact Kept.refl _)) (h.kept hkz) hkz;clear h hkz;obtain⟨qs,hqs⟩:=eX (w.heap.size)
 rw[hqs] at VE;go_enter Tryz.func3,Tryz.ntmps3;go_wp2_with fail
 try rw[hZ]
 try rw[hqs]
 clear hZ hqs;refine(jf2 Z).mono ?_;rintro e w1 ⟨rfl,kk⟩;obtain⟨VE,HS,K⟩:=lH3 (VE.out.kept kk) (HS.out.kept kk) (K.out.trans kk);clear kk;obtain⟨e1,he1⟩:=eX (Zs s)
 have Uy:=lH he1;obtain⟨y0,y1,y2⟩:=VE.out.at3;go_wp2_with fail
 refine(jlv HS.out he1).mono ?_;rintro e w2 ⟨rfl,kk⟩;obtain⟨VE,HS,K⟩:=lH3 (VE.out.kept kk) (HS.out.kept kk) (K.out.trans kk);clear kk he1 y0 y1 y2
 cases e1 with
 | false =>
  go_wp2;go_ret;exact⟨rfl,K.out⟩
 | true =>
  have HW:=lH (show zY s from⟨Xg Uy.out,jdX Uy.out HS.out,(jee (jkE Uy.out)).1,jlJ (Xg Uy.out)⟩);have hpb:s.pods.length+1≤100000:=by have:=HW.out.few;omega
  have Vt:=lH hpb;obtain⟨y0,y1,y2⟩:=VE.out.at3;go_wp2_with fail
  refine(Xu HS.out HW.out.low HW.out.asc).mono ?_;rintro e wl ⟨_,rfl,⟨la,lc,rfl,-,-,hrow⟩,kk⟩;obtain⟨VO,VE,HS,K⟩:=lH4 hrow (VE.out.kept kk) (HS.out.kept kk) (K.out.trans kk);obtain⟨ln,hln⟩:=eX ((zr s.pods).length)
  rw[hln] at VO;try rw[hln]
  have Rt:=lH hln;have hlb:ln≤100000:=by rw[←hln];exact Nat.le_trans (Xf _) HW.out.low.podsN
  clear kk hrow hln;clear y0 y1 y2;obtain⟨o,ho⟩:=eX (nextS s pk)
  have VC:=lH ho;obtain⟨x,hx⟩:=eX ((o.getD (⟨#[]⟩,⟨#[]⟩)).1)
  obtain⟨y,hy⟩:=eX ((o.getD (⟨#[]⟩,⟨#[]⟩)).2)
  obtain⟨ok,hok⟩:=eX (o.isSome)
  obtain⟨HX,HY,Ru,HN⟩:=lH4 hx hy hok (jba sa1 sa2 sa3 sl1 sc1 sl2 sc2 sl3 sc3 pk s wl HS.out HW.out.low HW.out.asc Vt.out);unfold jbo at HN;rw[ho,hx,hy,hok] at HN;clear ho hx hy hok;obtain⟨y0,y1,y2⟩:=VE.out.at3;go_wp2_with fail
  refine HN.out.mono ?_;rintro e w3 ⟨rfl,kk⟩;obtain⟨VE,HS,VO,K⟩:=lH4 (VE.out.kept kk) (HS.out.kept kk) (VO.out.kept kk) (K.out.trans kk);clear kk HN y0 y1 y2;obtain⟨gb,hgb⟩:=eX (w3.heap.size)
  obtain⟨w4,hw4⟩:=eX (w3.alloc (.cells #[.string x,.string y] 31))
  have kk:Kept w3 w4:=by rw[←hw4];exact ja _ _
  have Ve:=lH (show je gb [.string x,.string y] w4 by
   have c:=jb w3 (.string x) [.string y] 31 w4 (by rw[hw4];exact Kept.refl _);rw[hgb] at c;exact c)
  obtain⟨VE,HS,VO,K⟩:=lH4 (VE.out.kept kk) (HS.out.kept kk) (VO.out.kept kk) (K.out.trans kk);clear kk;obtain⟨pl,hpl⟩:=eX (zr s.pods)
  have VZ:=lH hpl;rw[hpl] at VO Rt;clear hpl hpb;go_upto_region 7 with fail
  try rw[hw4]
  try rw[hgb]
  clear hw4 hgb;go_wp2_with fail
  go_loopw [8] (fun iv wr=>∃k:Nat,k≤ln∧iv=.int .i64 k∧(∀j q,j<k→pl[j]?=some q→jO s q s.nodes=[])∧Kept w4 wr) (fun iv _=>ln-(intOf iv).toNat)
  case atStart=>exact⟨0,Nat.zero_le _,rfl,(fun j q h=>absurd h (Nat.not_lt_zero _)),Kept.refl _⟩
  case round =>
   obtain⟨k,hk,rfl,hall,hK⟩:=hrel;have TJ:=lH hall;have HK:=lH hK;clear hall hK;by_cases hlt:k<ln
   · skip;obtain⟨g,off,rfl⟩:=VO.out.form.resolve_left (by omega);obtain⟨n,b1,m1,c1,b2,m2,c2,b3,m3,c3,b4,m4,c4,hn,hd,hb,p0,p1,p2,p3,p4,p5,p6,p7,p8,p9,p10,hat⟩:=(VO.out.kept HK.out).at_ hlt;have R9:=lH hn;have VD:=lH hat;have hkk:(k:Int)<(ln:Int):=by omega
     have hk0:¬(k:Int)<0:=by omega
     have HF:=lH (show ∀W,Kept wr W→W.cell? ⟨qs,0,none⟩=some (.slice sa1 sl1 sc1)∧W.cell? ⟨qs,1,none⟩=some (.slice sa2 sl2 sc2)∧W.cell? ⟨qs,2,none⟩=some (.slice sa3 sl3 sc3)∧W.cell? ⟨g,off+k*11,none⟩=some (.string n.name)∧W.cell? ⟨g,off+k*11+1,none⟩=some (.string n.owner)∧W.cell? ⟨g,off+k*11+2,none⟩=some (.int .i64 n.prio)∧W.cell? ⟨g,off+k*11+3,none⟩=some (.slice b1 m1 c1)∧W.cell? ⟨g,off+k*11+4,none⟩=some (.slice b2 m2 c2)∧W.cell? ⟨g,off+k*11+5,none⟩=some (.slice b3 m3 c3)∧W.cell? ⟨g,off+k*11+6,none⟩=some (.slice b4 m4 c4)∧W.cell? ⟨g,off+k*11+7,none⟩=some (.string n.key)∧W.cell? ⟨g,off+k*11+8,none⟩=some (.int .i64 n.most)∧W.cell? ⟨g,off+k*11+9,none⟩=some (.string n.node)∧W.cell? ⟨g,off+k*11+10,none⟩=some (.bool n.hold)∧W.cell? ⟨gb,0,none⟩=some (.string x)∧W.cell? ⟨gb,1,none⟩=some (.string y) from fun W q=>by
      have h1:=VE.out.kept (HK.out.trans q);have h2:=Ve.out.kept (HK.out.trans q);exact⟨h1.at_ 0 _ rfl,h1.at_ 1 _ rfl,h1.at_ 2 _ rfl,cell_later q p0,cell_later q p1,cell_later q p2,cell_later q p3,cell_later q p4,cell_later q p5,cell_later q p6,cell_later q p7,cell_later q p8,cell_later q p9,cell_later q p10,h2.at_ 0 _ rfl,h2.at_ 1 _ rfl⟩)
     clear hn hd hb p0 p1 p2 p3 p4 p5 p6 p7 p8 p9 p10 hat;go_upto_region 10 with fail
     have J:=lH (Kept.drew wr);refine wp_region_held_drew (S:=fun W=>W.cell? ⟨qs,0,none⟩=some (.slice sa1 sl1 sc1)∧W.cell? ⟨qs,1,none⟩=some (.slice sa2 sl2 sc2)∧W.cell? ⟨qs,2,none⟩=some (.slice sa3 sl3 sc3)∧W.cell? ⟨g,off+k*11,none⟩=some (.string n.name)∧W.cell? ⟨g,off+k*11+1,none⟩=some (.string n.owner)∧W.cell? ⟨g,off+k*11+2,none⟩=some (.int .i64 n.prio)∧W.cell? ⟨g,off+k*11+3,none⟩=some (.slice b1 m1 c1)∧W.cell? ⟨g,off+k*11+4,none⟩=some (.slice b2 m2 c2)∧W.cell? ⟨g,off+k*11+5,none⟩=some (.slice b3 m3 c3)∧W.cell? ⟨g,off+k*11+6,none⟩=some (.slice b4 m4 c4)∧W.cell? ⟨g,off+k*11+7,none⟩=some (.string n.key)∧W.cell? ⟨g,off+k*11+8,none⟩=some (.int .i64 n.most)∧W.cell? ⟨g,off+k*11+9,none⟩=some (.string n.node)∧W.cell? ⟨g,off+k*11+10,none⟩=some (.bool n.hold)∧W.cell? ⟨gb,0,none⟩=some (.string x)∧W.cell? ⟨gb,1,none⟩=some (.string y)) (by kernel_rfl) (HF.out _ J.out) (fun hHeld=>?_);obtain⟨wd,hwd⟩:=eX (wr.drew)
     rw[hwd] at J hHeld;try rw[hwd]
     clear hwd;refine tR 0 rfl (by kernel_rfl) (fun _ _ _=>id) (Or.inl ⟨by rfl,by rintro W ⟨o0,o1,o2,o3,o4,o5,o6,o7,o8,o9,o10,o11,o12,o13,o14,o15⟩;go_simp<;>with_reducible rfl⟩) ‹_› ?_;refine tR 1 rfl (by kernel_rfl) (fun _ _ _=>id) (Or.inl ⟨by rfl,by rintro W ⟨o0,o1,o2,o3,o4,o5,o6,o7,o8,o9,o10,o11,o12,o13,o14,o15⟩;go_simp<;>with_reducible rfl⟩) ‹_› ?_;refine tR 2 rfl (by kernel_rfl) (fun _ _ _=>id) (Or.inl ⟨by rfl,by rintro W ⟨o0,o1,o2,o3,o4,o5,o6,o7,o8,o9,o10,o11,o12,o13,o14,o15⟩;go_simp<;>with_reducible rfl⟩) ‹_› ?_;refine tR 3 rfl (by kernel_rfl) (fun _ _ _=>id) (Or.inl ⟨by rfl,by rintro W ⟨o0,o1,o2,o3,o4,o5,o6,o7,o8,o9,o10,o11,o12,o13,o14,o15⟩;go_simp<;>with_reducible rfl⟩) ‹_› ?_;refine tR 4 rfl (by kernel_rfl) (fun _ _ _=>id) (Or.inl ⟨by rfl,by rintro W ⟨o0,o1,o2,o3,o4,o5,o6,o7,o8,o9,o10,o11,o12,o13,o14,o15⟩;go_simp<;>with_reducible rfl⟩) ‹_› ?_;try simp only[nA,nB,nC,nD,nE]
     refine rd1 5 fun K9 Ky=>?_;go_simp;refine(YB sa1 sa2 sa3 sl1 sc1 sl2 sc2 sl3 sc3 b1 b2 b3 b4 m1 c1 m2 c2 m3 c3 m4 c4 n s wd (HS.out.kept (HK.out.trans J.out)) HW.out.low (ji.kept VD.out J.out)).mono ?_;rintro e wf ⟨vf,rfl,hv,kk⟩;obtain⟨fa,fc,rfl,-,-,-⟩:=hv.reads;obtain⟨nf,hnf⟩:=eX ((jO s n s.nodes).length)
     try rw[hnf]
     have Rl:=lH hnf;have J:=lH (J.out.trans kk);clear kk hv hnf;refine Ky.out _ _ (HF.out _ J.out) (fun _=>?_);clear Ky K9;try simp only[nA,nB,nC,nD,nE]
     refine tR 6 rfl (by kernel_rfl) (fun _ _ _=>id) (Or.inl ⟨by rfl,by rintro W ⟨o0,o1,o2,o3,o4,o5,o6,o7,o8,o9,o10,o11,o12,o13,o14,o15⟩;go_simp<;>with_reducible rfl⟩) ‹_› ?_;refine tR 7 rfl (by kernel_rfl) (fun _ _ _=>id) (Or.inl ⟨by rfl,by rintro W ⟨o0,o1,o2,o3,o4,o5,o6,o7,o8,o9,o10,o11,o12,o13,o14,o15⟩;go_simp<;>with_reducible rfl⟩) ‹_› ?_;refine tR 8 rfl (by kernel_rfl) (fun _ _ _=>id) (Or.inl ⟨by rfl,by rintro W ⟨o0,o1,o2,o3,o4,o5,o6,o7,o8,o9,o10,o11,o12,o13,o14,o15⟩;go_simp<;>with_reducible rfl⟩) ‹_› ?_;try simp only[nA,nB,nC,nD,nE]
     refine wpAnyH_done (by kernel_rfl) ?_ _;by_cases hf:nf=0
     · skip;have TK:=lH (show jO s n s.nodes=[] from List.length_eq_zero_iff.1 (Rl.out.trans hf));subst hf;have HK:=lH (HK.out.trans J.out);have Rv:=lH (show ∀j q,j<k+1→pl[j]?=some q→jO s q s.nodes=[] from fun j q hj hq=>by
        rcases Nat.lt_or_eq_of_le (Nat.le_of_lt_succ hj) with h | h
        · exact TJ.out j q h hq
        · subst h;rw[R9.out] at hq;obtain rfl:=Option.some.inj hq;exact TK.out)
       clear J HF;by_cases hl:k+1=ln
       · skip;have Rw:=lH (show ok=false by
          have h1:nextS s pk=none:=by
           unfold nextS;rw[VZ.out];exact jff fun q hq=>by
            obtain⟨j,hj,rfl⟩:=List.mem_iff_getElem.1 hq;exact Rv.out j _ (by have:=Rt.out;omega) (List.getElem?_eq_getElem hj)
          rw[←Ru.out,←VC.out,h1];rfl)
         have hok:=Rw.out;subst hok;have h1:(k:Int)=(ln:Int)-1:=by omega
         have h2:((k:Int)==(ln:Int)-1)=true:=by rw[h1];simp
         have h3:IntKind.i64.wrap ((ln:Int)-1)=(ln:Int)-1:=IntWalk.i64_in _ (by omega);clear h1 hl;go_wp2;go_roundw
         case rel=>exact⟨k+1,by omega,by go_num,Rv.out,HK.out⟩
         case measure=>simp[intOf];omega
       · skip;have h2:((k:Int)==(ln:Int)-1)=false:=beq_eq_false_iff_ne.2 (by omega);have h3:IntKind.i64.wrap ((ln:Int)-1)=(ln:Int)-1:=IntWalk.i64_in _ (by omega);clear hl;go_wp2;go_roundw
         case rel=>exact⟨k+1,by omega,by go_num,Rv.out,HK.out⟩
         case measure=>simp[intOf];omega
     · skip;obtain⟨t,hsk,htm⟩:=jgx (s:=s) (pack:=pk) R9.out TJ.out (fun h=>hf (by rw[←Rl.out,h];rfl));have hnx:nextS s pk=some (n.name,t):=by unfold nextS;rw[VZ.out];exact hsk
       have ho:=VC.out.symm.trans hnx;have hok:=Ru.out;have hx:=HX.out;have hy:=HY.out;rw[ho] at hok hx hy;have hok2:ok=true:=hok.symm;have hx2:n.name=x:=hx;have hy2:t=y:=hy;have NU:=lH (show Ys s n y=0 by rw[←hy2];exact(XP htm).1);have Na:=lH hx2;clear ho hok hx hy hsk htm hnx hy2;subst hok2;have h1:(0:Int)<(nf:Int):=by omega
       have h2:0<nf:=by omega
       have h3:decide (0<nf)=true:=decide_eq_true h2;clear hf;have exx:(x.toList==x.toList)=true:=by simp
       have HF:=lH (show ∀W,Kept wf W→W.cell? ⟨qs,0,none⟩=some (.slice sa1 sl1 sc1)∧W.cell? ⟨qs,1,none⟩=some (.slice sa2 sl2 sc2)∧W.cell? ⟨qs,2,none⟩=some (.slice sa3 sl3 sc3)∧W.cell? ⟨g,off+k*11,none⟩=some (.string x)∧W.cell? ⟨g,off+k*11+1,none⟩=some (.string n.owner)∧W.cell? ⟨g,off+k*11+2,none⟩=some (.int .i64 n.prio)∧W.cell? ⟨g,off+k*11+3,none⟩=some (.slice b1 m1 c1)∧W.cell? ⟨g,off+k*11+4,none⟩=some (.slice b2 m2 c2)∧W.cell? ⟨g,off+k*11+5,none⟩=some (.slice b3 m3 c3)∧W.cell? ⟨g,off+k*11+6,none⟩=some (.slice b4 m4 c4)∧W.cell? ⟨g,off+k*11+7,none⟩=some (.string n.key)∧W.cell? ⟨g,off+k*11+8,none⟩=some (.int .i64 n.most)∧W.cell? ⟨g,off+k*11+9,none⟩=some (.string n.node)∧W.cell? ⟨g,off+k*11+10,none⟩=some (.bool n.hold)∧W.cell? ⟨gb,0,none⟩=some (.string x)∧W.cell? ⟨gb,1,none⟩=some (.string y) from fun W q=>by have h:=HF.out W (J.out.trans q);rw[Na.out] at h;exact h);have KJ:=lH J.out;go_upto_region 12 with fail
       have J:=lH (Kept.drew wf);refine wp_region_held_drew (S:=fun W=>W.cell? ⟨qs,0,none⟩=some (.slice sa1 sl1 sc1)∧W.cell? ⟨qs,1,none⟩=some (.slice sa2 sl2 sc2)∧W.cell? ⟨qs,2,none⟩=some (.slice sa3 sl3 sc3)∧W.cell? ⟨g,off+k*11,none⟩=some (.string x)∧W.cell? ⟨g,off+k*11+1,none⟩=some (.string n.owner)∧W.cell? ⟨g,off+k*11+2,none⟩=some (.int .i64 n.prio)∧W.cell? ⟨g,off+k*11+3,none⟩=some (.slice b1 m1 c1)∧W.cell? ⟨g,off+k*11+4,none⟩=some (.slice b2 m2 c2)∧W.cell? ⟨g,off+k*11+5,none⟩=some (.slice b3 m3 c3)∧W.cell? ⟨g,off+k*11+6,none⟩=some (.slice b4 m4 c4)∧W.cell? ⟨g,off+k*11+7,none⟩=some (.string n.key)∧W.cell? ⟨g,off+k*11+8,none⟩=some (.int .i64 n.most)∧W.cell? ⟨g,off+k*11+9,none⟩=some (.string n.node)∧W.cell? ⟨g,off+k*11+10,none⟩=some (.bool n.hold)∧W.cell? ⟨gb,0,none⟩=some (.string x)∧W.cell? ⟨gb,1,none⟩=some (.string y)) (by kernel_rfl) (HF.out _ J.out) (fun hHeld=>?_);obtain⟨wd2,hwd⟩:=eX (wf.drew)
       rw[hwd] at J hHeld;try rw[hwd]
       clear hwd;refine tR 0 rfl (by kernel_rfl) (fun _ _ _=>id) (Or.inl ⟨by rfl,by rintro W ⟨o0,o1,o2,o3,o4,o5,o6,o7,o8,o9,o10,o11,o12,o13,o14,o15⟩;go_simp<;>with_reducible rfl⟩) ‹_› ?_;refine tR 1 rfl (by kernel_rfl) (fun _ _ _=>id) (Or.inl ⟨by rfl,by rintro W ⟨o0,o1,o2,o3,o4,o5,o6,o7,o8,o9,o10,o11,o12,o13,o14,o15⟩;go_simp<;>with_reducible rfl⟩) ‹_› ?_;refine tR 2 rfl (by kernel_rfl) (fun _ _ _=>id) (Or.inl ⟨by rfl,by rintro W ⟨o0,o1,o2,o3,o4,o5,o6,o7,o8,o9,o10,o11,o12,o13,o14,o15⟩;go_simp<;>with_reducible rfl⟩) ‹_› ?_;refine tR 3 rfl (by kernel_rfl) (fun _ _ _=>id) (Or.inl ⟨by rfl,by rintro W ⟨o0,o1,o2,o3,o4,o5,o6,o7,o8,o9,o10,o11,o12,o13,o14,o15⟩;go_simp<;>with_reducible rfl⟩) ‹_› ?_;refine tR 4 rfl (by kernel_rfl) (fun _ _ _=>id) (Or.inl ⟨by rfl,by rintro W ⟨o0,o1,o2,o3,o4,o5,o6,o7,o8,o9,o10,o11,o12,o13,o14,o15⟩;go_simp<;>with_reducible rfl⟩) ‹_› ?_;try simp only[nA,nB,nC,nD,nE]
       refine tR 5 rfl (by kernel_rfl) (fun _ _ _=>id) (Or.inl ⟨by rfl,by rintro W ⟨o0,o1,o2,o3,o4,o5,o6,o7,o8,o9,o10,o11,o12,o13,o14,o15⟩;go_simp<;>with_reducible rfl⟩) ‹_› ?_;refine tR 6 rfl (by kernel_rfl) (fun _ _ _=>id) (Or.inl ⟨by rfl,by rintro W ⟨o0,o1,o2,o3,o4,o5,o6,o7,o8,o9,o10,o11,o12,o13,o14,o15⟩;go_simp<;>with_reducible rfl⟩) ‹_› ?_;refine tR 7 rfl (by kernel_rfl) (fun _ _ _=>id) (Or.inl ⟨by rfl,by rintro W ⟨o0,o1,o2,o3,o4,o5,o6,o7,o8,o9,o10,o11,o12,o13,o14,o15⟩;go_simp<;>with_reducible rfl⟩) ‹_› ?_;refine tR 8 rfl (by kernel_rfl) (fun _ _ _=>id) (Or.inl ⟨by rfl,by rintro W ⟨o0,o1,o2,o3,o4,o5,o6,o7,o8,o9,o10,o11,o12,o13,o14,o15⟩;go_simp<;>with_reducible rfl⟩) ‹_› ?_;refine tR 9 rfl (by kernel_rfl) (fun _ _ _=>id) (Or.inl ⟨by rfl,by rintro W ⟨o0,o1,o2,o3,o4,o5,o6,o7,o8,o9,o10,o11,o12,o13,o14,o15⟩;go_simp<;>with_reducible rfl⟩) ‹_› ?_;try simp only[nA,nB,nC,nD,nE]
       refine tR 10 rfl (by kernel_rfl) (fun _ _ _=>id) (Or.inl ⟨by rfl,by rintro W ⟨o0,o1,o2,o3,o4,o5,o6,o7,o8,o9,o10,o11,o12,o13,o14,o15⟩;go_simp<;>with_reducible rfl⟩) ‹_› ?_;refine tR 11 rfl (by kernel_rfl) (fun _ _ _=>id) (Or.inl ⟨by rfl,by rintro W ⟨o0,o1,o2,o3,o4,o5,o6,o7,o8,o9,o10,o11,o12,o13,o14,o15⟩;go_simp<;>with_reducible rfl⟩) ‹_› ?_;refine tR 12 rfl (by kernel_rfl) (fun _ _ _=>id) (Or.inl ⟨by rfl,by rintro W ⟨o0,o1,o2,o3,o4,o5,o6,o7,o8,o9,o10,o11,o12,o13,o14,o15⟩;go_simp<;>with_reducible rfl⟩) ‹_› ?_;refine tR 13 rfl (by kernel_rfl) (fun _ _ _=>id) (Or.inl ⟨by rfl,by rintro W ⟨o0,o1,o2,o3,o4,o5,o6,o7,o8,o9,o10,o11,o12,o13,o14,o15⟩;go_simp<;>with_reducible rfl⟩) ‹_› ?_;refine tR 14 rfl (by kernel_rfl) (fun _ _ _=>id) (Or.inl ⟨by rfl,by rintro W ⟨o0,o1,o2,o3,o4,o5,o6,o7,o8,o9,o10,o11,o12,o13,o14,o15⟩;go_simp<;>with_reducible rfl⟩) ‹_› ?_;try simp only[nA,nB,nC,nD,nE]
       refine tR 15 rfl (by kernel_rfl) (fun _ _ _=>id) (Or.inl ⟨by rfl,by rintro W ⟨o0,o1,o2,o3,o4,o5,o6,o7,o8,o9,o10,o11,o12,o13,o14,o15⟩;go_simp<;>with_reducible rfl⟩) ‹_› ?_;refine tR 16 rfl (by kernel_rfl) (fun _ _ _=>id) (Or.inl ⟨by rfl,by rintro W ⟨o0,o1,o2,o3,o4,o5,o6,o7,o8,o9,o10,o11,o12,o13,o14,o15⟩;go_simp<;>with_reducible rfl⟩) ‹_› ?_;refine tR 17 rfl (by kernel_rfl) (fun _ _ _=>id) (Or.inl ⟨by rfl,by rintro W ⟨o0,o1,o2,o3,o4,o5,o6,o7,o8,o9,o10,o11,o12,o13,o14,o15⟩;go_simp<;>with_reducible rfl⟩) ‹_› ?_;refine tR 18 rfl (by kernel_rfl) (fun _ _ _=>id) (Or.inl ⟨by rfl,by rintro W ⟨o0,o1,o2,o3,o4,o5,o6,o7,o8,o9,o10,o11,o12,o13,o14,o15⟩;go_simp<;>with_reducible rfl⟩) ‹_› ?_;refine tR 19 rfl (by kernel_rfl) (fun _ _ _=>id) (Or.inl ⟨by rfl,by rintro W ⟨o0,o1,o2,o3,o4,o5,o6,o7,o8,o9,o10,o11,o12,o13,o14,o15⟩;go_simp<;>with_reducible rfl⟩) ‹_› ?_;try simp only[nA,nB,nC,nD,nE]
       have Nb:=lH (show Calls Tryz.prog 11 #[.agg #[.slice sa1 sl1 sc1,.slice sa2 sl2 sc2,.slice sa3 sl3 sc3],.agg #[.string x,.string n.owner,.int .i64 n.prio,.slice b1 m1 c1,.slice b2 m2 c2,.slice b3 m3 c3,.slice b4 m4 c4,.string n.key,.int .i64 n.most,.string n.node,.bool n.hold],.string y] wd2 (Say (.int .i64 0) wd2) from by
        have h:=jlr sa1 sa2 sa3 sl1 sc1 sl2 sc2 sl3 sc3 b1 b2 b3 b4 m1 c1 m2 c2 m3 c3 m4 c4 n s y wd2 (HS.out.kept (HK.out.trans (KJ.out.trans J.out))) HW.out.low (ji.kept VD.out (KJ.out.trans J.out));rw[NU.out] at h;unfold jw at h;rw[Na.out] at h;exact h)
       refine rd1 20 fun K9 Ky=>?_;go_simp;refine Nb.out.mono ?_;rintro e wg ⟨rfl,kk⟩;have J:=lH (J.out.trans kk);clear kk;refine Ky.out _ _ (HF.out _ J.out) (fun _=>?_);clear Ky K9;try simp only[nA,nB,nC,nD,nE]
       refine tR 21 rfl (by kernel_rfl) (fun _ _ _=>id) (Or.inl ⟨by rfl,by rintro W ⟨o0,o1,o2,o3,o4,o5,o6,o7,o8,o9,o10,o11,o12,o13,o14,o15⟩;go_simp<;>with_reducible rfl⟩) ‹_› ?_;refine tR 22 rfl (by kernel_rfl) (fun _ _ _=>id) (Or.inl ⟨by rfl,by rintro W ⟨o0,o1,o2,o3,o4,o5,o6,o7,o8,o9,o10,o11,o12,o13,o14,o15⟩;go_simp<;>with_reducible rfl⟩) ‹_› ?_;try simp only[nA,nB,nC,nD,nE]
       refine wpAnyH_done (by kernel_rfl) ?_ _;have KK:=lH (HK.out.trans (KJ.out.trans J.out));obtain⟨VE,HS,VO,Ve,K⟩:=lH5 (VE.out.kept KK.out) (HS.out.kept KK.out) (VO.out.kept KK.out) (Ve.out.kept KK.out) (K.out.trans KK.out);clear J KJ KK HF Nb HK h1 h2 h3 exx;have hpb:s.pods.length+1≤100000:=Vt.out;obtain⟨y0,y1,y2⟩:=VE.out.at3;have HA:=lH (jcn sa1 sa2 sa3 sl1 sc1 sl2 sc2 sl3 sc3 pk s wg HS.out HW.out);go_wp2_with fail
       refine HA.out.mono ?_;rintro e w6 ⟨vt,vm,rfl,hct,-,kk⟩;obtain⟨ta1,tl1,tc1,ta2,tl2,tc2,ta3,tl3,tc3,rfl⟩:=Y0 hct;obtain⟨VE,HS,VO,Ve,K,HT⟩:=lH6 (VE.out.kept kk) (HS.out.kept kk) (VO.out.kept kk) (Ve.out.kept kk) (K.out.trans kk) hct;clear kk hct HA y0 y1 y2;obtain⟨gt,hgt⟩:=eX (w6.heap.size)
       obtain⟨w7,hw7⟩:=eX (w6.alloc (.cells #[.slice ta1 tl1 tc1,.slice ta2 tl2 tc2,.slice ta3 tl3 tc3] 26))
       have kk:Kept w6 w7:=by rw[←hw7];exact ja _ _
       have VM:=lH (show je gt [.slice ta1 tl1 tc1,.slice ta2 tl2 tc2,.slice ta3 tl3 tc3] w7 by
        have c:=jb w6 (.slice ta1 tl1 tc1) [.slice ta2 tl2 tc2,.slice ta3 tl3 tc3] 26 w7 (by rw[hw7];exact Kept.refl _);rw[hgt] at c;exact c)
       obtain⟨VE,HS,VO,Ve,HT,K⟩:=lH6 (VE.out.kept kk) (HS.out.kept kk) (VO.out.kept kk) (Ve.out.kept kk) (HT.out.kept kk) (K.out.trans kk);clear kk;obtain⟨T,hT⟩:=eX (goS (JS s pk) s)
       have Ua:=lH (show zY T by rw[←hT];exact jcV HW.out pk);have Rx:=lH (show nextS T pk=none by rw[←hT];exact jes HW.out pk);rw[hT] at HT;clear hT;obtain⟨y0,y1,y2⟩:=VM.out.at3;go_wp2_with fail
       try rw[hw7]
       try rw[hgt]
       go_wp2_with fail
       try rw[hw7]
       try rw[hgt]
       clear hw7 hgt y0 y1 y2;refine(Xu HT.out Ua.out.low Ua.out.asc).mono ?_;rintro e wm ⟨_,rfl,⟨ma,mc,rfl,-,-,hrow⟩,kk⟩;obtain⟨UQ,VE,HS,VO,Ve,HT,VM,K⟩:=lH8 hrow (VE.out.kept kk) (HS.out.kept kk) (VO.out.kept kk) (Ve.out.kept kk) (HT.out.kept kk) (VM.out.kept kk) (K.out.trans kk);obtain⟨mn,hmn⟩:=eX ((zr T.pods).length)
       rw[hmn] at UQ;try rw[hmn]
       have NW:=lH hmn;have hmb:mn≤100000:=by rw[←hmn];exact Nat.le_trans (Xf _) Ua.out.low.podsN
       clear kk hrow hmn;obtain⟨ml,hml⟩:=eX (zr T.pods)
       have Ry:=lH (show ∀q ∈ ml,jO T q T.nodes=[]∧q ∈ T.pods by rw[←hml];exact fun q hq=>⟨jdn Rx.out q hq,(XG.1 hq).1⟩);rw[hml] at UQ;clear hml;go_wp2_with fail
       go_loopw [13] (fun iv wr=>∃k:Nat,k≤mn∧iv=.int .i64 k∧Kept wm wr) (fun iv _=>mn-(intOf iv).toNat)
       case atStart=>exact⟨0,Nat.zero_le _,rfl,Kept.refl _⟩
       case round =>
        obtain⟨k2,hk2,rfl,hK2⟩:=hrel;have VR:=lH hK2;clear hK2;by_cases hlt2:k2<mn
        · skip;obtain⟨g,off,rfl⟩:=UQ.out.form.resolve_left (by omega);obtain⟨n,b1,m1,c1,b2,m2,c2,b3,m3,c3,b4,m4,c4,hn,hd,hb,p0,p1,p2,p3,p4,p5,p6,p7,p8,p9,p10,hat⟩:=(UQ.out.kept VR.out).at_ hlt2;have TK:=lH (Ry.out n (List.mem_of_getElem? hn));have VD:=lH hat;have hkk:(k2:Int)<(mn:Int):=by omega
          have hk0:¬(k2:Int)<0:=by omega
          have HF:=lH (show ∀W,Kept wr W→W.cell? ⟨gt,0,none⟩=some (.slice ta1 tl1 tc1)∧W.cell? ⟨gt,1,none⟩=some (.slice ta2 tl2 tc2)∧W.cell? ⟨gt,2,none⟩=some (.slice ta3 tl3 tc3)∧W.cell? ⟨g,off+k2*11,none⟩=some (.string n.name)∧W.cell? ⟨g,off+k2*11+1,none⟩=some (.string n.owner)∧W.cell? ⟨g,off+k2*11+2,none⟩=some (.int .i64 n.prio)∧W.cell? ⟨g,off+k2*11+3,none⟩=some (.slice b1 m1 c1)∧W.cell? ⟨g,off+k2*11+4,none⟩=some (.slice b2 m2 c2)∧W.cell? ⟨g,off+k2*11+5,none⟩=some (.slice b3 m3 c3)∧W.cell? ⟨g,off+k2*11+6,none⟩=some (.slice b4 m4 c4)∧W.cell? ⟨g,off+k2*11+7,none⟩=some (.string n.key)∧W.cell? ⟨g,off+k2*11+8,none⟩=some (.int .i64 n.most)∧W.cell? ⟨g,off+k2*11+9,none⟩=some (.string n.node)∧W.cell? ⟨g,off+k2*11+10,none⟩=some (.bool n.hold) from fun W q=>by
           have h1:=VM.out.kept (VR.out.trans q);exact⟨h1.at_ 0 _ rfl,h1.at_ 1 _ rfl,h1.at_ 2 _ rfl,cell_later q p0,cell_later q p1,cell_later q p2,cell_later q p3,cell_later q p4,cell_later q p5,cell_later q p6,cell_later q p7,cell_later q p8,cell_later q p9,cell_later q p10⟩)
          clear hn hd hb p0 p1 p2 p3 p4 p5 p6 p7 p8 p9 p10 hat;go_upto_region 21 with fail
          have J:=lH (Kept.drew wr);refine wp_region_held_drew (S:=fun W=>W.cell? ⟨gt,0,none⟩=some (.slice ta1 tl1 tc1)∧W.cell? ⟨gt,1,none⟩=some (.slice ta2 tl2 tc2)∧W.cell? ⟨gt,2,none⟩=some (.slice ta3 tl3 tc3)∧W.cell? ⟨g,off+k2*11,none⟩=some (.string n.name)∧W.cell? ⟨g,off+k2*11+1,none⟩=some (.string n.owner)∧W.cell? ⟨g,off+k2*11+2,none⟩=some (.int .i64 n.prio)∧W.cell? ⟨g,off+k2*11+3,none⟩=some (.slice b1 m1 c1)∧W.cell? ⟨g,off+k2*11+4,none⟩=some (.slice b2 m2 c2)∧W.cell? ⟨g,off+k2*11+5,none⟩=some (.slice b3 m3 c3)∧W.cell? ⟨g,off+k2*11+6,none⟩=some (.slice b4 m4 c4)∧W.cell? ⟨g,off+k2*11+7,none⟩=some (.string n.key)∧W.cell? ⟨g,off+k2*11+8,none⟩=some (.int .i64 n.most)∧W.cell? ⟨g,off+k2*11+9,none⟩=some (.string n.node)∧W.cell? ⟨g,off+k2*11+10,none⟩=some (.bool n.hold)) (by kernel_rfl) (HF.out _ J.out) (fun hHeld=>?_);obtain⟨wd,hwd⟩:=eX (wr.drew)
          rw[hwd] at J hHeld;try rw[hwd]
          clear hwd;refine tR 0 rfl (by kernel_rfl) (fun _ _ _=>id) (Or.inl ⟨by rfl,by rintro W ⟨o0,o1,o2,o3,o4,o5,o6,o7,o8,o9,o10,o11,o12,o13⟩;go_simp<;>with_reducible rfl⟩) ‹_› ?_;refine tR 1 rfl (by kernel_rfl) (fun _ _ _=>id) (Or.inl ⟨by rfl,by rintro W ⟨o0,o1,o2,o3,o4,o5,o6,o7,o8,o9,o10,o11,o12,o13⟩;go_simp<;>with_reducible rfl⟩) ‹_› ?_;refine tR 2 rfl (by kernel_rfl) (fun _ _ _=>id) (Or.inl ⟨by rfl,by rintro W ⟨o0,o1,o2,o3,o4,o5,o6,o7,o8,o9,o10,o11,o12,o13⟩;go_simp<;>with_reducible rfl⟩) ‹_› ?_;refine tR 3 rfl (by kernel_rfl) (fun _ _ _=>id) (Or.inl ⟨by rfl,by rintro W ⟨o0,o1,o2,o3,o4,o5,o6,o7,o8,o9,o10,o11,o12,o13⟩;go_simp<;>with_reducible rfl⟩) ‹_› ?_;refine tR 4 rfl (by kernel_rfl) (fun _ _ _=>id) (Or.inl ⟨by rfl,by rintro W ⟨o0,o1,o2,o3,o4,o5,o6,o7,o8,o9,o10,o11,o12,o13⟩;go_simp<;>with_reducible rfl⟩) ‹_› ?_;try simp only[nA,nB,nC,nD,nE]
          refine rd1 5 fun K9 Ky=>?_;go_simp;refine(YB ta1 ta2 ta3 tl1 tc1 tl2 tc2 tl3 tc3 b1 b2 b3 b4 m1 c1 m2 c2 m3 c3 m4 c4 n T wd (HT.out.kept (VR.out.trans J.out)) Ua.out.low (ji.kept VD.out J.out)).mono ?_;rintro e wf ⟨vf,rfl,hv,kk⟩;obtain⟨fa,fc,rfl,-,-,-⟩:=hv.reads;rw[show (jO T n T.nodes).length=0 by rw[TK.out.1];rfl];have J:=lH (J.out.trans kk);clear kk hv;refine Ky.out _ _ (HF.out _ J.out) (fun _=>?_);clear Ky K9;try simp only[nA,nB,nC,nD,nE]
          refine tR 6 rfl (by kernel_rfl) (fun _ _ _=>id) (Or.inl ⟨by rfl,by rintro W ⟨o0,o1,o2,o3,o4,o5,o6,o7,o8,o9,o10,o11,o12,o13⟩;go_simp<;>with_reducible rfl⟩) ‹_› ?_;refine tR 7 rfl (by kernel_rfl) (fun _ _ _=>id) (Or.inl ⟨by rfl,by rintro W ⟨o0,o1,o2,o3,o4,o5,o6,o7,o8,o9,o10,o11,o12,o13⟩;go_simp<;>with_reducible rfl⟩) ‹_› ?_;try simp only[nA,nB,nC,nD,nE]
          refine wpAnyH_done (by kernel_rfl) ?_ _;have VR:=lH (VR.out.trans J.out);clear J HF;go_wp2;go_roundw
          case rel=>exact⟨k2+1,by omega,by go_num,VR.out⟩
          case measure=>simp[intOf];omega
        · skip;have hkk:¬(k2:Int)<(mn:Int):=by omega
          have h0:0<ln:=by omega
          have h1:(0:Int)<(ln:Int):=by omega
          have h3:decide (0<ln)=true:=decide_eq_true h0;go_wp2;go_ret;exact⟨by first | rfl | simp | (simp;omega),K.out.trans VR.out⟩
   · skip;have hkk:¬(k:Int)<(ln:Int):=by omega
     obtain⟨VE,HS,VO,Ve,K⟩:=lH5 (VE.out.kept HK.out) (HS.out.kept HK.out) (VO.out.kept HK.out) (Ve.out.kept HK.out) (K.out.trans HK.out);clear HK;have hpb:s.pods.length+1≤100000:=Vt.out;obtain⟨y0,y1,y2⟩:=VE.out.at3;have HA:=lH (jcn sa1 sa2 sa3 sl1 sc1 sl2 sc2 sl3 sc3 pk s wr HS.out HW.out);go_wp2_with fail
     refine HA.out.mono ?_;rintro e w6 ⟨vt,vm,rfl,hct,-,kk⟩;obtain⟨ta1,tl1,tc1,ta2,tl2,tc2,ta3,tl3,tc3,rfl⟩:=Y0 hct;obtain⟨VE,HS,VO,Ve,K,HT⟩:=lH6 (VE.out.kept kk) (HS.out.kept kk) (VO.out.kept kk) (Ve.out.kept kk) (K.out.trans kk) hct;clear kk hct HA y0 y1 y2;obtain⟨gt,hgt⟩:=eX (w6.heap.size)
     obtain⟨w7,hw7⟩:=eX (w6.alloc (.cells #[.slice ta1 tl1 tc1,.slice ta2 tl2 tc2,.slice ta3 tl3 tc3] 26))
     have kk:Kept w6 w7:=by rw[←hw7];exact ja _ _
     have VM:=lH (show je gt [.slice ta1 tl1 tc1,.slice ta2 tl2 tc2,.slice ta3 tl3 tc3] w7 by
      have c:=jb w6 (.slice ta1 tl1 tc1) [.slice ta2 tl2 tc2,.slice ta3 tl3 tc3] 26 w7 (by rw[hw7];exact Kept.refl _);rw[hgt] at c;exact c)
     obtain⟨VE,HS,VO,Ve,HT,K⟩:=lH6 (VE.out.kept kk) (HS.out.kept kk) (VO.out.kept kk) (Ve.out.kept kk) (HT.out.kept kk) (K.out.trans kk);clear kk;obtain⟨T,hT⟩:=eX (goS (JS s pk) s)
     have Ua:=lH (show zY T by rw[←hT];exact jcV HW.out pk);have Rx:=lH (show nextS T pk=none by rw[←hT];exact jes HW.out pk);rw[hT] at HT;clear hT;obtain⟨y0,y1,y2⟩:=VM.out.at3;go_wp2_with fail
     try rw[hw7]
     try rw[hgt]
     go_wp2_with fail
     try rw[hw7]
     try rw[hgt]
     clear hw7 hgt y0 y1 y2;refine(Xu HT.out Ua.out.low Ua.out.asc).mono ?_;rintro e wm ⟨_,rfl,⟨ma,mc,rfl,-,-,hrow⟩,kk⟩;obtain⟨UQ,VE,HS,VO,Ve,HT,VM,K⟩:=lH8 hrow (VE.out.kept kk) (HS.out.kept kk) (VO.out.kept kk) (Ve.out.kept kk) (HT.out.kept kk) (VM.out.kept kk) (K.out.trans kk);obtain⟨mn,hmn⟩:=eX ((zr T.pods).length)
     rw[hmn] at UQ;try rw[hmn]
     have NW:=lH hmn;have hmb:mn≤100000:=by rw[←hmn];exact Nat.le_trans (Xf _) Ua.out.low.podsN
     clear kk hrow hmn;obtain⟨ml,hml⟩:=eX (zr T.pods)
     have Ry:=lH (show ∀q ∈ ml,jO T q T.nodes=[]∧q ∈ T.pods by rw[←hml];exact fun q hq=>⟨jdn Rx.out q hq,(XG.1 hq).1⟩);rw[hml] at UQ;clear hml;go_wp2_with fail
     go_loopw [13] (fun iv wr=>∃k:Nat,k≤mn∧iv=.int .i64 k∧Kept wm wr) (fun iv _=>mn-(intOf iv).toNat)
     case atStart=>exact⟨0,Nat.zero_le _,rfl,Kept.refl _⟩
     case round =>
      obtain⟨k2,hk2,rfl,hK2⟩:=hrel;have VR:=lH hK2;clear hK2;by_cases hlt2:k2<mn
      · skip;obtain⟨g,off,rfl⟩:=UQ.out.form.resolve_left (by omega);obtain⟨n,b1,m1,c1,b2,m2,c2,b3,m3,c3,b4,m4,c4,hn,hd,hb,p0,p1,p2,p3,p4,p5,p6,p7,p8,p9,p10,hat⟩:=(UQ.out.kept VR.out).at_ hlt2;have TK:=lH (Ry.out n (List.mem_of_getElem? hn));have VD:=lH hat;have hkk:(k2:Int)<(mn:Int):=by omega
        have hk0:¬(k2:Int)<0:=by omega
        have HF:=lH (show ∀W,Kept wr W→W.cell? ⟨gt,0,none⟩=some (.slice ta1 tl1 tc1)∧W.cell? ⟨gt,1,none⟩=some (.slice ta2 tl2 tc2)∧W.cell? ⟨gt,2,none⟩=some (.slice ta3 tl3 tc3)∧W.cell? ⟨g,off+k2*11,none⟩=some (.string n.name)∧W.cell? ⟨g,off+k2*11+1,none⟩=some (.string n.owner)∧W.cell? ⟨g,off+k2*11+2,none⟩=some (.int .i64 n.prio)∧W.cell? ⟨g,off+k2*11+3,none⟩=some (.slice b1 m1 c1)∧W.cell? ⟨g,off+k2*11+4,none⟩=some (.slice b2 m2 c2)∧W.cell? ⟨g,off+k2*11+5,none⟩=some (.slice b3 m3 c3)∧W.cell? ⟨g,off+k2*11+6,none⟩=some (.slice b4 m4 c4)∧W.cell? ⟨g,off+k2*11+7,none⟩=some (.string n.key)∧W.cell? ⟨g,off+k2*11+8,none⟩=some (.int .i64 n.most)∧W.cell? ⟨g,off+k2*11+9,none⟩=some (.string n.node)∧W.cell? ⟨g,off+k2*11+10,none⟩=some (.bool n.hold) from fun W q=>by
         have h1:=VM.out.kept (VR.out.trans q);exact⟨h1.at_ 0 _ rfl,h1.at_ 1 _ rfl,h1.at_ 2 _ rfl,cell_later q p0,cell_later q p1,cell_later q p2,cell_later q p3,cell_later q p4,cell_later q p5,cell_later q p6,cell_later q p7,cell_later q p8,cell_later q p9,cell_later q p10⟩)
        clear hn hd hb p0 p1 p2 p3 p4 p5 p6 p7 p8 p9 p10 hat;go_upto_region 21 with fail
        have J:=lH (Kept.drew wr);refine wp_region_held_drew (S:=fun W=>W.cell? ⟨gt,0,none⟩=some (.slice ta1 tl1 tc1)∧W.cell? ⟨gt,1,none⟩=some (.slice ta2 tl2 tc2)∧W.cell? ⟨gt,2,none⟩=some (.slice ta3 tl3 tc3)∧W.cell? ⟨g,off+k2*11,none⟩=some (.string n.name)∧W.cell? ⟨g,off+k2*11+1,none⟩=some (.string n.owner)∧W.cell? ⟨g,off+k2*11+2,none⟩=some (.int .i64 n.prio)∧W.cell? ⟨g,off+k2*11+3,none⟩=some (.slice b1 m1 c1)∧W.cell? ⟨g,off+k2*11+4,none⟩=some (.slice b2 m2 c2)∧W.cell? ⟨g,off+k2*11+5,none⟩=some (.slice b3 m3 c3)∧W.cell? ⟨g,off+k2*11+6,none⟩=some (.slice b4 m4 c4)∧W.cell? ⟨g,off+k2*11+7,none⟩=some (.string n.key)∧W.cell? ⟨g,off+k2*11+8,none⟩=some (.int .i64 n.most)∧W.cell? ⟨g,off+k2*11+9,none⟩=some (.string n.node)∧W.cell? ⟨g,off+k2*11+10,none⟩=some (.bool n.hold)) (by kernel_rfl) (HF.out _ J.out) (fun hHeld=>?_);obtain⟨wd,hwd⟩:=eX (wr.drew)
        rw[hwd] at J hHeld;try rw[hwd]
        clear hwd;refine tR 0 rfl (by kernel_rfl) (fun _ _ _=>id) (Or.inl ⟨by rfl,by rintro W ⟨o0,o1,o2,o3,o4,o5,o6,o7,o8,o9,o10,o11,o12,o13⟩;go_simp<;>with_reducible rfl⟩) ‹_› ?_;refine tR 1 rfl (by kernel_rfl) (fun _ _ _=>id) (Or.inl ⟨by rfl,by rintro W ⟨o0,o1,o2,o3,o4,o5,o6,o7,o8,o9,o10,o11,o12,o13⟩;go_simp<;>with_reducible rfl⟩) ‹_› ?_;refine tR 2 rfl (by kernel_rfl) (fun _ _ _=>id) (Or.inl ⟨by rfl,by rintro W ⟨o0,o1,o2,o3,o4,o5,o6,o7,o8,o9,o10,o11,o12,o13⟩;go_simp<;>with_reducible rfl⟩) ‹_› ?_;refine tR 3 rfl (by kernel_rfl) (fun _ _ _=>id) (Or.inl ⟨by rfl,by rintro W ⟨o0,o1,o2,o3,o4,o5,o6,o7,o8,o9,o10,o11,o12,o13⟩;go_simp<;>with_reducible rfl⟩) ‹_› ?_;refine tR 4 rfl (by kernel_rfl) (fun _ _ _=>id) (Or.inl ⟨by rfl,by rintro W ⟨o0,o1,o2,o3,o4,o5,o6,o7,o8,o9,o10,o11,o12,o13⟩;go_simp<;>with_reducible rfl⟩) ‹_› ?_;try simp only[nA,nB,nC,nD,nE]
        refine rd1 5 fun K9 Ky=>?_;go_simp;refine(YB ta1 ta2 ta3 tl1 tc1 tl2 tc2 tl3 tc3 b1 b2 b3 b4 m1 c1 m2 c2 m3 c3 m4 c4 n T wd (HT.out.kept (VR.out.trans J.out)) Ua.out.low (ji.kept VD.out J.out)).mono ?_;rintro e wf ⟨vf,rfl,hv,kk⟩;obtain⟨fa,fc,rfl,-,-,-⟩:=hv.reads;rw[show (jO T n T.nodes).length=0 by rw[TK.out.1];rfl];have J:=lH (J.out.trans kk);clear kk hv;refine Ky.out _ _ (HF.out _ J.out) (fun _=>?_);clear Ky K9;try simp only[nA,nB,nC,nD,nE]
        refine tR 6 rfl (by kernel_rfl) (fun _ _ _=>id) (Or.inl ⟨by rfl,by rintro W ⟨o0,o1,o2,o3,o4,o5,o6,o7,o8,o9,o10,o11,o12,o13⟩;go_simp<;>with_reducible rfl⟩) ‹_› ?_;refine tR 7 rfl (by kernel_rfl) (fun _ _ _=>id) (Or.inl ⟨by rfl,by rintro W ⟨o0,o1,o2,o3,o4,o5,o6,o7,o8,o9,o10,o11,o12,o13⟩;go_simp<;>with_reducible rfl⟩) ‹_› ?_;try simp only[nA,nB,nC,nD,nE]
        refine wpAnyH_done (by kernel_rfl) ?_ _;have VR:=lH (VR.out.trans J.out);clear J HF;go_wp2;go_roundw
        case rel=>exact⟨k2+1,by omega,by go_num,VR.out⟩
        case measure=>simp[intOf];omega
      · skip;have hkk:¬(k2:Int)<(mn:Int):=by omega
        cases ok with
        | false =>
         by_cases h0:ln=0
         · subst h0;go_wp2;go_ret;exact⟨by first | rfl | simp,K.out.trans VR.out⟩
         · have h1:(0:Int)<(ln:Int):=by omega
           have h2:0<ln:=by omega
           have h3:decide (0<ln)=true:=decide_eq_true h2;go_wp2;go_ret;exact⟨by first | rfl | simp | (simp;omega),K.out.trans VR.out⟩
        | true =>
         have h0:0<ln:=by
          rcases Nat.eq_zero_or_pos ln with h | h
          · exfalso;have h1:=VC.out;unfold nextS at h1;rw[VZ.out,List.length_eq_zero_iff.1 (Rt.out.trans h)] at h1;have h2:=Ru.out;rw[←h1] at h2
            cases h2
          · exact h
         have h1:(0:Int)<(ln:Int):=by omega
         have h3:decide (0<ln)=true:=decide_eq_true h0;go_wp2;go_ret;exact⟨by first | rfl | simp | (simp;omega),K.out.trans VR.out⟩
end Go.Proofs.YtokdjfoalkmhiaaGreat
