/- C. -/
import Derived.Test.YtibepooajeakfaaGreatG0
import Derived.Test.YtibepooajeakfaaGreatG10
set_option linter.unusedVariables false
set_option maxRecDepth 100000
set_option maxHeartbeats 25600000
namespace Go.Proofs.YtibepooajeakfaaGreat
open Go.RowKit
theorem jnA {v v':Value} {l l':Vec.V} {w:World} (h:Vec.Reads w v l) (h':Vec.Reads w v' l'):Calls Tryz.prog 230 #[v,v'] w (Vec.Y2 (Vec.jj Vec.zl l l') w):=by
 obtain⟨a,cap,rfl,h1,h2,hr⟩:=h;obtain⟨a',cap',rfl,h1',h2',hr'⟩:=h';exact Vec.jnk a a' _ cap _ cap' l l' w hr hr' h1 h2 h1' h2'
theorem qp (a a8 a9:Option Addr) (len cap m8 c8 m9 c9:Nat) (l:List Nod) (x:ByteArray) (w:World) (hr:jo w a len l) (hlow:∀n ∈ l,zP n) (hf:jl l x=none) :
 Calls Tryz.prog 94 #[.agg #[.slice a len cap,.slice a8 m8 c8,.slice a9 m9 c9],.string x] w fun e w'=>e=.panicked [zw 3]∧Kept w w':=by
 refine(jc9 a a8 a9 len cap m8 c8 m9 c9 l x w hr hlow).mono ?_;rintro e w' ⟨-,h,k⟩;exact⟨h hf,k⟩
theorem ZH (a a8 a9:Option Addr) (len cap m8 c8 m9 c9:Nat) (l:List Nod) (x:ByteArray) (n:Nod) (w:World) (hr:jo w a len l) (hlow:∀n ∈ l,zP n) (hf:jl l x=some n) :
 Calls Tryz.prog 94 #[.agg #[.slice a len cap,.slice a8 m8 c8,.slice a9 m9 c9],.string x] w fun e w'=>∃b1 n1 d1 b2 n2 d2 b3 n3 d3,e=.returned (.agg #[.string n.name,.slice b1 n1 d1,.slice b2 n2 d2,.slice b3 n3 d3,.bool n.cordon])∧zp w' (.slice b1 n1 d1) (.slice b2 n2 d2) (.slice b3 n3 d3) n∧Kept w w':=by
 refine(jc9 a a8 a9 len cap m8 c8 m9 c9 l x w hr hlow).mono ?_;rintro e w' ⟨h,-,k⟩;obtain⟨v,rfl,b1,n1,d1,b2,n2,d2,b3,n3,d3,rfl,s0,s1,s2,s3,-⟩:=h n hf;exact⟨b1,n1,d1,b2,n2,d2,b3,n3,d3,rfl,⟨s0,s1,s2,s3⟩,k⟩
theorem Ji.ok {m:Vec.V} {w w':World} {e:Ending} {r:Int×Vec.V} (h:Ji r w e w') (hr:r=(0,m)):∃v,e=.returned v∧Vec.jT 114 w' w.heap.size v m∧Kept w w':=by
 subst hr;obtain⟨v,rfl,g⟩:=h.1 rfl;exact⟨v,rfl,g,h.2.2⟩
theorem Ji.not {m:Vec.V} {c:Int} {w w':World} {e:Ending} {r:Int×Vec.V} (h:Ji r w e w') (hr:r=(c,m)) (hc:c≠0):e=.panicked [zw c]∧Kept w w':=by
 subst hr;exact⟨h.2.1 hc,h.2.2⟩
theorem jhd (C:Addr×Addr) (r:Int×Vec.V) (w:World) (hr:r.1≠0→r.2=[])
 (hk:∀W,Kept w W→Calls Tryz.prog 310 #[.pointer (some C.1),.pointer (some C.2)] W (Ji r W)) :
 Calls Tryz.prog 188 #[.func (.func 310) #[] #[.pointer (some C.1),.pointer (some C.2)]] w (Vec.Y2 r w):=by
 have hmf:=hmfL (P:=Tryz.prog);have HK:=lH hk;have HR:=lH hr;clear hk hr;obtain⟨r1,r2⟩:=r;go_enter_defers Tryz.func188,Tryz.ntmps188
 go_wp2_with fail
 refine(HK.out _ (ja _ _)).mono ?_;rintro e1 w1 ⟨h0,h1,hb⟩;have k1:=hb.size;simp only[World.size_alloc] at k1;have c2:=(hb.cell (p:=⟨w.heap.size,0,none⟩) (by simp))
 have z2:=(hb.frozen (p:=⟨w.heap.size,0,none⟩) (by simp))
 have e2':w1.cell? ⟨w.heap.size,0,none⟩=some (.int .i64 0):=by rw[c2];go_simp
 have y2:w1.frozen? ⟨w.heap.size,0,none⟩=false:=by rw[z2];go_simp
 clear c2 z2;have KB:=lH (show Below w.heap.size w w1 from(ja w _).trans hb);by_cases hx:r1=0
 · subst hx;obtain⟨v,rfl,ho⟩:=h0 rfl;have HO:=lH ho;obtain⟨av,cv,rfl,_,_,_⟩:=ho.at_;have hsz:=World.size_alloc w (.cells #[.int .i64 0] 69);clear h0 h1 hb ho;go_wp2_with fail
   refine leaves_cons (f:=218) (args:=#[.pointer (some ⟨w.heap.size,0,none⟩)]) (by simp) (by simp[go_sem]) ?_;refine(Vec.Yp ⟨w.heap.size,0,none⟩ _).mono ?_;rintro e u' w'' ⟨rfl,rfl,rfl⟩;simp[Leaves,settle,results,Tryz.results188,go_sem,e2'];exact⟨_,rfl,(HO.out.setCell_below (a:=⟨w.heap.size,0,none⟩) (by simp) _).base_le (by simp),KB.out.setCell (p:=⟨w.heap.size,0,none⟩) (Nat.le_refl _) _⟩
 · obtain rfl:=h1 hx;obtain rfl:=HR.out hx;clear h0 h1 hb;go_wp2_with fail
   refine leaves_cons (f:=218) (args:=#[.pointer (some ⟨w.heap.size,0,none⟩)]) (by simp) (by simp[go_sem]) ?_;refine(Vec.J7 w.heap.size w.heap.size r1 0 _ e2' y2 (by omega)).mono ?_;rintro e u' w'' ⟨rfl,rfl,q2,q3⟩;simp[Leaves,settle,results,Tryz.results188,go_sem,q2];exact⟨_,rfl,Vec.jT.nil _ _ _,KB.out.trans q3⟩
theorem jgR (C:Addr×Addr) (r:Int×Vec.V) (w:World) (hr:r.1≠0→r.2=[])
 (hk:∀W,Kept w W→Calls Tryz.prog 229 #[.pointer (some C.1),.pointer (some C.2)] W (Ji r W)) :
 Calls Tryz.prog 188 #[.func (.func 229) #[] #[.pointer (some C.1),.pointer (some C.2)]] w (Vec.Y2 r w):=by
 have hmf:=hmfL (P:=Tryz.prog);have HK:=lH hk;have HR:=lH hr;clear hk hr;obtain⟨r1,r2⟩:=r;go_enter_defers Tryz.func188,Tryz.ntmps188
 go_wp2_with fail
 refine(HK.out _ (ja _ _)).mono ?_;rintro e1 w1 ⟨h0,h1,hb⟩;have k1:=hb.size;simp only[World.size_alloc] at k1;have c2:=(hb.cell (p:=⟨w.heap.size,0,none⟩) (by simp))
 have z2:=(hb.frozen (p:=⟨w.heap.size,0,none⟩) (by simp))
 have e2':w1.cell? ⟨w.heap.size,0,none⟩=some (.int .i64 0):=by rw[c2];go_simp
 have y2:w1.frozen? ⟨w.heap.size,0,none⟩=false:=by rw[z2];go_simp
 clear c2 z2;have KB:=lH (show Below w.heap.size w w1 from(ja w _).trans hb);by_cases hx:r1=0
 · subst hx;obtain⟨v,rfl,ho⟩:=h0 rfl;have HO:=lH ho;obtain⟨av,cv,rfl,_,_,_⟩:=ho.at_;have hsz:=World.size_alloc w (.cells #[.int .i64 0] 69);clear h0 h1 hb ho;go_wp2_with fail
   refine leaves_cons (f:=218) (args:=#[.pointer (some ⟨w.heap.size,0,none⟩)]) (by simp) (by simp[go_sem]) ?_;refine(Vec.Yp ⟨w.heap.size,0,none⟩ _).mono ?_;rintro e u' w'' ⟨rfl,rfl,rfl⟩;simp[Leaves,settle,results,Tryz.results188,go_sem,e2'];exact⟨_,rfl,(HO.out.setCell_below (a:=⟨w.heap.size,0,none⟩) (by simp) _).base_le (by simp),KB.out.setCell (p:=⟨w.heap.size,0,none⟩) (Nat.le_refl _) _⟩
 · obtain rfl:=h1 hx;obtain rfl:=HR.out hx;clear h0 h1 hb;go_wp2_with fail
   refine leaves_cons (f:=218) (args:=#[.pointer (some ⟨w.heap.size,0,none⟩)]) (by simp) (by simp[go_sem]) ?_;refine(Vec.J7 w.heap.size w.heap.size r1 0 _ e2' y2 (by omega)).mono ?_;rintro e u' w'' ⟨rfl,rfl,q2,q3⟩;simp[Leaves,settle,results,Tryz.results188,go_sem,q2];exact⟨_,rfl,Vec.jT.nil _ _ _,KB.out.trans q3⟩
def Yu (nl:List Nod) (pl:List Pd) (x:ByteArray):Int×Vec.V:=match jl nl x with | none=>(3,[]) | some n=>jJ n.name pl []
def ZO (nl:List Nod) (pl:List Pd) (x:ByteArray):Int×Vec.V:=match jl nl x with | none=>(3,[]) | some n=>if (jJ n.name pl []).1=0 then Vec.jj Vec.zl n.cap (jJ n.name pl []).2 else ((jJ n.name pl []).1,[])
theorem jid {nl:List Nod} {pl:List Pd} {x:ByteArray} (h:jl nl x=none):Yu nl pl x=(3,[]):=by unfold Yu;rw[h]
theorem jcL {nl:List Nod} {pl:List Pd} {x:ByteArray} {n:Nod} (h:jl nl x=some n):Yu nl pl x=jJ n.name pl []:=by unfold Yu;rw[h]
theorem jh2 {nl:List Nod} {pl:List Pd} {x:ByteArray} (h:jl nl x=none):ZO nl pl x=(3,[]):=by unfold ZO;rw[h]
theorem jky {nl:List Nod} {pl:List Pd} {x:ByteArray} {n:Nod} {c:Int} {m:Vec.V} (h:jl nl x=some n) (g:jJ n.name pl []=(c,m)) (hc:c≠0):ZO nl pl x=(c,[]):=by unfold ZO;rw[h];show (if (jJ n.name pl []).1=0 then _ else ((jJ n.name pl []).1,[]))=_;rw[g,if_neg hc]
theorem jlx {nl:List Nod} {pl:List Pd} {x:ByteArray} {n:Nod} {m:Vec.V} (h:jl nl x=some n) (g:jJ n.name pl []=(0,m)):ZO nl pl x=Vec.jj Vec.zl n.cap m:=by unfold ZO;rw[h];show (if (jJ n.name pl []).1=0 then Vec.jj Vec.zl n.cap (jJ n.name pl []).2 else _)=_;rw[g,if_pos rfl]
theorem jiX {nl:List Nod} {pl:List Pd} {x:ByteArray}:(Yu nl pl x).1≠0→(Yu nl pl x).2=[]:=by
 unfold Yu;split
 · exact fun _=>rfl
 · exact jaY
theorem jh8 {nl:List Nod} {pl:List Pd} {x:ByteArray}:(ZO nl pl x).1≠0→(ZO nl pl x).2=[]:=by
 unfold ZO;split
 · exact fun _=>rfl
 · split
   · exact Vec.XY _ _
   · exact fun _=>rfl
theorem jia (a b d:Option Addr) (len cap m c n e:Nat) (nl:List Nod) (pl:List Pd) (p q:Nat) (x:ByteArray) (w:World) (h0:w.cell? ⟨p,0,none⟩=some (.slice a len cap)) (h1:w.cell? ⟨p,1,none⟩=some (.slice b m c)) (h2:w.cell? ⟨p,2,none⟩=some (.slice d n e)) (hq:w.cell? ⟨q,0,none⟩=some (.string x)) (hn:jo w a len nl) (hp:jy w b m pl) (hlow:∀n ∈ nl,zP n) :
 Calls Tryz.prog 310 #[.pointer (some ⟨p,0,none⟩),.pointer (some ⟨q,0,none⟩)] w (Ji (Yu nl pl x) w):=by
 obtain⟨HS,HN,HP,Vo⟩:=lH4 (show ∀W,Kept w W→W.cell? ⟨p,0,none⟩=some (.slice a len cap)∧W.cell? ⟨p,1,none⟩=some (.slice b m c)∧W.cell? ⟨p,2,none⟩=some (.slice d n e)∧W.cell? ⟨q,0,none⟩=some (.string x) from fun W k=>⟨cell_later k h0,cell_later k h1,cell_later k h2,cell_later k hq⟩) hn hp hlow;clear h0 h1 h2 hq hn hp hlow
 cases hf:jl nl x with
 | none =>
  have HE:=lH (jid (pl:=pl) hf);have HF:=lH hf;clear hf;go_enter Tryz.func310,Tryz.ntmps310;go_wp2;refine wp_region_held_drew (S:=fun W=>W.cell? ⟨p,0,none⟩=some (.slice a len cap)∧W.cell? ⟨p,1,none⟩=some (.slice b m c)∧W.cell? ⟨p,2,none⟩=some (.slice d n e)∧W.cell? ⟨q,0,none⟩=some (.string x)) (by kernel_rfl) (HS.out _ (Kept.drew _)) (fun hHeld=>?_);refine tkI 0 ?_;refine tkI 1 ?_;refine tkI 2 ?_;try simp only[nP]
  refine rd1 3 fun K9 Ky=>?_;go_simp;refine(qp a b d len cap m c n e nl x _ (HN.out.kept (Kept.drew _)) Vo.out HF.out).mono ?_;rintro e1 w1 ⟨rfl,kk⟩;exact⟨rfl,Ji.bad HE.out (by decide) ((Kept.drew _).trans kk)⟩
 | some n9 =>
  obtain⟨c9,m9,hu⟩:∃c m,jJ n9.name pl []=(c,m):=⟨_,_,rfl⟩
  have HU:=lH hu;have HF:=lH hf;clear hf hu;by_cases hc:c9=0
  · subst hc;have HE:=lH ((jcL (pl:=pl) HF.out).trans HU.out);go_enter Tryz.func310,Tryz.ntmps310;go_wp2;refine wp_region_held_drew (S:=fun W=>W.cell? ⟨p,0,none⟩=some (.slice a len cap)∧W.cell? ⟨p,1,none⟩=some (.slice b m c)∧W.cell? ⟨p,2,none⟩=some (.slice d n e)∧W.cell? ⟨q,0,none⟩=some (.string x)) (by kernel_rfl) (HS.out _ (Kept.drew _)) (fun hHeld=>?_);refine tkI 0 ?_;refine tkI 1 ?_;refine tkI 2 ?_;try simp only[nP]
    refine rd1 3 fun K9 Ky=>?_;go_simp;refine(ZH a b d len cap m c n e nl x n9 _ (HN.out.kept (Kept.drew _)) Vo.out HF.out).mono ?_;rintro e1 w1 ⟨b1,n1,d1,b2,n2,d2,b3,n3,d3,rfl,hat,kk⟩;have J1:=lH ((Kept.drew _).trans kk);clear kk hat;refine Ky.out _ _ (HS.out _ J1.out) (fun _=>?_);clear Ky K9;try simp only[nP]
    refine rd1 4 fun K9 Ky=>?_;go_simp;refine((Y4 b a d b1 b2 b3 m c len cap n e n1 d1 n2 d2 n3 d3 n9.name n9.cordon pl _ (HP.out.kept J1.out)).mono fun _ _ h=>h.ok HU.out).mono ?_;rintro e2 w2 ⟨v,rfl,ho,kk⟩;have J2:=lH (J1.out.trans kk);have HO:=lH (ho.base_le J1.out.size);clear kk ho;refine Ky.out _ _ (HS.out _ J2.out) (fun _=>?_);clear Ky K9;try simp only[nP]
    refine tkI 5 ?_;try simp only[nP]
    refine wpAnyH_done (by kernel_rfl) ?_ _;go_wp2;go_ret;exact Ji.good HE.out HO.out J2.out
  · have HE:=lH (show Yu nl pl x=(c9,m9) from(jcL (pl:=pl) HF.out).trans HU.out);have HC:=lH hc;clear hc;go_enter Tryz.func310,Tryz.ntmps310;go_wp2;refine wp_region_held_drew (S:=fun W=>W.cell? ⟨p,0,none⟩=some (.slice a len cap)∧W.cell? ⟨p,1,none⟩=some (.slice b m c)∧W.cell? ⟨p,2,none⟩=some (.slice d n e)∧W.cell? ⟨q,0,none⟩=some (.string x)) (by kernel_rfl) (HS.out _ (Kept.drew _)) (fun hHeld=>?_);refine tkI 0 ?_;refine tkI 1 ?_;refine tkI 2 ?_;try simp only[nP]
    refine rd1 3 fun K9 Ky=>?_;go_simp;refine(ZH a b d len cap m c n e nl x n9 _ (HN.out.kept (Kept.drew _)) Vo.out HF.out).mono ?_;rintro e1 w1 ⟨b1,n1,d1,b2,n2,d2,b3,n3,d3,rfl,hat,kk⟩;have J1:=lH ((Kept.drew _).trans kk);clear kk hat;refine Ky.out _ _ (HS.out _ J1.out) (fun _=>?_);clear Ky K9;try simp only[nP]
    refine rd1 4 fun K9 Ky=>?_;go_simp;refine((Y4 b a d b1 b2 b3 m c len cap n e n1 d1 n2 d2 n3 d3 n9.name n9.cordon pl _ (HP.out.kept J1.out)).mono fun _ _ h=>h.not HU.out HC.out).mono ?_;rintro e2 w2 ⟨rfl,kk⟩;exact⟨rfl,Ji.bad HE.out HC.out (J1.out.trans kk)⟩
theorem jiA (a b d:Option Addr) (len cap m c n e:Nat) (nl:List Nod) (pl:List Pd) (p q:Nat) (x:ByteArray) (w:World) (h0:w.cell? ⟨p,0,none⟩=some (.slice a len cap)) (h1:w.cell? ⟨p,1,none⟩=some (.slice b m c)) (h2:w.cell? ⟨p,2,none⟩=some (.slice d n e)) (hq:w.cell? ⟨q,0,none⟩=some (.string x)) (hn:jo w a len nl) (hp:jy w b m pl) (hlow:∀n ∈ nl,zP n) :
 Calls Tryz.prog 229 #[.pointer (some ⟨p,0,none⟩),.pointer (some ⟨q,0,none⟩)] w (Ji (ZO nl pl x) w):=by
 obtain⟨HS,HN,HP,Vo⟩:=lH4 (show ∀W,Kept w W→W.cell? ⟨p,0,none⟩=some (.slice a len cap)∧W.cell? ⟨p,1,none⟩=some (.slice b m c)∧W.cell? ⟨p,2,none⟩=some (.slice d n e) from fun W k=>⟨cell_later k h0,cell_later k h1,cell_later k h2⟩) hn hp hlow;clear hn hp hlow
 cases hf:jl nl x with
 | none =>
  have HE:=lH (jh2 (pl:=pl) hf);have HF:=lH hf;clear hf;go_enter Tryz.func229,Tryz.ntmps229;go_wp2_with fail
  refine(qp a b d len cap m c n e nl x _ HN.out Vo.out HF.out).mono ?_;rintro e1 w1 ⟨rfl,kk⟩;go_wp2;exact⟨rfl,Ji.bad HE.out (by decide) kk⟩
 | some n9 =>
  obtain⟨c9,m9,hu⟩:∃c m,jJ n9.name pl []=(c,m):=⟨_,_,rfl⟩
  have HU:=lH hu;have HF:=lH hf;clear hf hu;by_cases hc:c9=0
  · subst hc;obtain⟨c8,m8,hs⟩:∃c m,Vec.jj Vec.zl n9.cap m9=(c,m):=⟨_,_,rfl⟩
    have HM:=lH hs;have HE:=lH (show ZO nl pl x=(c8,m8) from(jlx HF.out HU.out).trans hs);clear hs;by_cases hc:c8=0
    · subst hc;go_enter Tryz.func229,Tryz.ntmps229;go_wp2_with fail
      refine(ZH a b d len cap m c n e nl x n9 _ HN.out Vo.out HF.out).mono ?_;rintro e1 w1 ⟨b1,n1,d1,b2,n2,d2,b3,n3,d3,rfl,hat,kk⟩;have HA:=lH hat;obtain⟨z0,hz0⟩:=eX (n9.name)
      obtain⟨z4,hz4⟩:=eX (n9.cordon)
      rw[hz0,hz4];rw[hz0] at HU;obtain⟨W1,hW1⟩:=eX (w1.alloc (.cells #[.string z0,.slice b1 n1 d1,.slice b2 n2 d2,.slice b3 n3 d3,.bool z4] 78))
      have hk1:Kept w1 W1:=by rw[←hW1];exact ja _ _
      obtain⟨HB,J0,TY⟩:=lH3 (fun W (k:Kept W1 W)=>jc w1 (.string z0) [.slice b1 n1 d1,.slice b2 n2 d2,.slice b3 n3 d3,.bool z4] 78 W (by rw[hW1];exact k)) (kk.trans hk1) (fun W (k:Kept W1 W)=>HA.out.kept (hk1.trans k));clear kk hat hk1 h0 h1 h2;go_wp2_with fail
      try rw[hW1]
      clear hW1;have HT:=lH (show ∀W,Kept W1 W→W.cell? ⟨p,0,none⟩=some (.slice a len cap)∧W.cell? ⟨p,1,none⟩=some (.slice b m c)∧W.cell? ⟨p,2,none⟩=some (.slice d n e)∧W.cell? ⟨w1.heap.size,0,none⟩=some (.string z0)∧W.cell? ⟨w1.heap.size,1,none⟩=some (.slice b1 n1 d1)∧W.cell? ⟨w1.heap.size,2,none⟩=some (.slice b2 n2 d2)∧W.cell? ⟨w1.heap.size,3,none⟩=some (.slice b3 n3 d3)∧W.cell? ⟨w1.heap.size,4,none⟩=some (.bool z4) from fun W k=>by
       obtain⟨o0,o1,o2⟩:=HS.out W (J0.out.trans k);have c:=HB.out W k;exact⟨o0,o1,o2,c.at_ 0 _ rfl,c.at_ 1 _ rfl,c.at_ 2 _ rfl,c.at_ 3 _ rfl,c.at_ 4 _ rfl⟩)
      refine wp_region_held_drew (S:=fun W=>W.cell? ⟨p,0,none⟩=some (.slice a len cap)∧W.cell? ⟨p,1,none⟩=some (.slice b m c)∧W.cell? ⟨p,2,none⟩=some (.slice d n e)∧W.cell? ⟨w1.heap.size,0,none⟩=some (.string z0)∧W.cell? ⟨w1.heap.size,1,none⟩=some (.slice b1 n1 d1)∧W.cell? ⟨w1.heap.size,2,none⟩=some (.slice b2 n2 d2)∧W.cell? ⟨w1.heap.size,3,none⟩=some (.slice b3 n3 d3)∧W.cell? ⟨w1.heap.size,4,none⟩=some (.bool z4)) (by kernel_rfl) (HT.out _ (Kept.drew _)) (fun hHeld=>?_);refine tkI 0 ?_;refine tkI 1 ?_;refine tkI 2 ?_;refine tkI 3 ?_;try simp only[nP]
      refine rd1 4 fun K9 Ky=>?_;go_simp;refine((Y4 b a d b1 b2 b3 m c len cap n e n1 d1 n2 d2 n3 d3 z0 z4 pl _ (HP.out.kept (J0.out.trans (Kept.drew _)))).mono fun _ _ h=>h.ok HU.out).mono ?_;rintro e2 w2 ⟨v,rfl,ho,kk⟩;have J2:=lH ((Kept.drew _).trans kk);have HO:=lH ho;clear kk ho;refine Ky.out _ _ (HT.out _ J2.out) (fun _=>?_);clear Ky K9;try simp only[nP]
      refine rd1 5 fun K9 Ky=>?_;go_simp;have Vw:=jnA (TY.out _ J2.out).cap HO.out.reads;rw[HM.out] at Vw;refine Vw.mono ?_;rintro e3 w3 ⟨x3,rfl,ho3,kk⟩;have J3:=lH (J2.out.trans kk);have RQ:=lH (ho3.base_le (show w.heap.size≤_ from(J0.out.trans J2.out).size));clear kk ho3;refine Ky.out _ _ (HT.out _ J3.out) (fun _=>?_);clear Ky K9;try simp only[nP]
      refine tkI 6 ?_;refine tkI 7 ?_;try simp only[nP]
      refine rd1 8 fun K9 Ky=>?_;go_simp;refine(jaZ _ _).mono ?_;rintro e4 w4 ⟨rfl,rfl⟩;refine Ky.out _ _ (HT.out _ J3.out) (fun _=>?_);clear Ky K9;try simp only[nP]
      refine tkI 9 ?_;try simp only[nP]
      refine wpAnyH_done (by kernel_rfl) ?_ _;go_wp2;go_ret;exact Ji.good HE.out RQ.out (J0.out.trans J3.out)
    · have HC:=lH hc;clear hc;go_enter Tryz.func229,Tryz.ntmps229;go_wp2_with fail
      refine(ZH a b d len cap m c n e nl x n9 _ HN.out Vo.out HF.out).mono ?_;rintro e1 w1 ⟨b1,n1,d1,b2,n2,d2,b3,n3,d3,rfl,hat,kk⟩;have HA:=lH hat;obtain⟨z0,hz0⟩:=eX (n9.name)
      obtain⟨z4,hz4⟩:=eX (n9.cordon)
      rw[hz0,hz4];rw[hz0] at HU;obtain⟨W1,hW1⟩:=eX (w1.alloc (.cells #[.string z0,.slice b1 n1 d1,.slice b2 n2 d2,.slice b3 n3 d3,.bool z4] 78))
      have hk1:Kept w1 W1:=by rw[←hW1];exact ja _ _
      obtain⟨HB,J0,TY⟩:=lH3 (fun W (k:Kept W1 W)=>jc w1 (.string z0) [.slice b1 n1 d1,.slice b2 n2 d2,.slice b3 n3 d3,.bool z4] 78 W (by rw[hW1];exact k)) (kk.trans hk1) (fun W (k:Kept W1 W)=>HA.out.kept (hk1.trans k));clear kk hat hk1 h0 h1 h2;go_wp2_with fail
      try rw[hW1]
      clear hW1;have HT:=lH (show ∀W,Kept W1 W→W.cell? ⟨p,0,none⟩=some (.slice a len cap)∧W.cell? ⟨p,1,none⟩=some (.slice b m c)∧W.cell? ⟨p,2,none⟩=some (.slice d n e)∧W.cell? ⟨w1.heap.size,0,none⟩=some (.string z0)∧W.cell? ⟨w1.heap.size,1,none⟩=some (.slice b1 n1 d1)∧W.cell? ⟨w1.heap.size,2,none⟩=some (.slice b2 n2 d2)∧W.cell? ⟨w1.heap.size,3,none⟩=some (.slice b3 n3 d3)∧W.cell? ⟨w1.heap.size,4,none⟩=some (.bool z4) from fun W k=>by
       obtain⟨o0,o1,o2⟩:=HS.out W (J0.out.trans k);have c:=HB.out W k;exact⟨o0,o1,o2,c.at_ 0 _ rfl,c.at_ 1 _ rfl,c.at_ 2 _ rfl,c.at_ 3 _ rfl,c.at_ 4 _ rfl⟩)
      refine wp_region_held_drew (S:=fun W=>W.cell? ⟨p,0,none⟩=some (.slice a len cap)∧W.cell? ⟨p,1,none⟩=some (.slice b m c)∧W.cell? ⟨p,2,none⟩=some (.slice d n e)∧W.cell? ⟨w1.heap.size,0,none⟩=some (.string z0)∧W.cell? ⟨w1.heap.size,1,none⟩=some (.slice b1 n1 d1)∧W.cell? ⟨w1.heap.size,2,none⟩=some (.slice b2 n2 d2)∧W.cell? ⟨w1.heap.size,3,none⟩=some (.slice b3 n3 d3)∧W.cell? ⟨w1.heap.size,4,none⟩=some (.bool z4)) (by kernel_rfl) (HT.out _ (Kept.drew _)) (fun hHeld=>?_);refine tkI 0 ?_;refine tkI 1 ?_;refine tkI 2 ?_;refine tkI 3 ?_;try simp only[nP]
      refine rd1 4 fun K9 Ky=>?_;go_simp;refine((Y4 b a d b1 b2 b3 m c len cap n e n1 d1 n2 d2 n3 d3 z0 z4 pl _ (HP.out.kept (J0.out.trans (Kept.drew _)))).mono fun _ _ h=>h.ok HU.out).mono ?_;rintro e2 w2 ⟨v,rfl,ho,kk⟩;have J2:=lH ((Kept.drew _).trans kk);have HO:=lH ho;clear kk ho;refine Ky.out _ _ (HT.out _ J2.out) (fun _=>?_);clear Ky K9;try simp only[nP]
      refine rd1 5 fun K9 Ky=>?_;go_simp;have Vw:=jnA (TY.out _ J2.out).cap HO.out.reads;rw[HM.out] at Vw;refine Vw.mono ?_;rintro e3 w3 ⟨x3,rfl,ho3,kk⟩;have J3:=lH (J2.out.trans kk);have RQ:=lH (ho3.base_le (show w.heap.size≤_ from(J0.out.trans J2.out).size));clear kk ho3;refine Ky.out _ _ (HT.out _ J3.out) (fun _=>?_);clear Ky K9;try simp only[nP]
      refine tkI 6 ?_;refine tkI 7 ?_;try simp only[nP]
      refine rd1 8 fun K9 Ky=>?_;go_simp;refine(qT _ _ _ HC.out).mono ?_;rintro e4 w4 ⟨rfl,rfl⟩;exact⟨rfl,Ji.bad HE.out HC.out (J0.out.trans J3.out)⟩
  · have HE:=lH (jky (pl:=pl) HF.out HU.out hc);have HC:=lH hc;clear hc;go_enter Tryz.func229,Tryz.ntmps229;go_wp2_with fail
    refine(ZH a b d len cap m c n e nl x n9 _ HN.out Vo.out HF.out).mono ?_;rintro e1 w1 ⟨b1,n1,d1,b2,n2,d2,b3,n3,d3,rfl,hat,kk⟩;have HA:=lH hat;obtain⟨z0,hz0⟩:=eX (n9.name)
    obtain⟨z4,hz4⟩:=eX (n9.cordon)
    rw[hz0,hz4];rw[hz0] at HU;obtain⟨W1,hW1⟩:=eX (w1.alloc (.cells #[.string z0,.slice b1 n1 d1,.slice b2 n2 d2,.slice b3 n3 d3,.bool z4] 78))
    have hk1:Kept w1 W1:=by rw[←hW1];exact ja _ _
    obtain⟨HB,J0,TY⟩:=lH3 (fun W (k:Kept W1 W)=>jc w1 (.string z0) [.slice b1 n1 d1,.slice b2 n2 d2,.slice b3 n3 d3,.bool z4] 78 W (by rw[hW1];exact k)) (kk.trans hk1) (fun W (k:Kept W1 W)=>HA.out.kept (hk1.trans k));clear kk hat hk1 h0 h1 h2;go_wp2_with fail
    try rw[hW1]
    clear hW1;have HT:=lH (show ∀W,Kept W1 W→W.cell? ⟨p,0,none⟩=some (.slice a len cap)∧W.cell? ⟨p,1,none⟩=some (.slice b m c)∧W.cell? ⟨p,2,none⟩=some (.slice d n e)∧W.cell? ⟨w1.heap.size,0,none⟩=some (.string z0)∧W.cell? ⟨w1.heap.size,1,none⟩=some (.slice b1 n1 d1)∧W.cell? ⟨w1.heap.size,2,none⟩=some (.slice b2 n2 d2)∧W.cell? ⟨w1.heap.size,3,none⟩=some (.slice b3 n3 d3)∧W.cell? ⟨w1.heap.size,4,none⟩=some (.bool z4) from fun W k=>by
     obtain⟨o0,o1,o2⟩:=HS.out W (J0.out.trans k);have c:=HB.out W k;exact⟨o0,o1,o2,c.at_ 0 _ rfl,c.at_ 1 _ rfl,c.at_ 2 _ rfl,c.at_ 3 _ rfl,c.at_ 4 _ rfl⟩)
    refine wp_region_held_drew (S:=fun W=>W.cell? ⟨p,0,none⟩=some (.slice a len cap)∧W.cell? ⟨p,1,none⟩=some (.slice b m c)∧W.cell? ⟨p,2,none⟩=some (.slice d n e)∧W.cell? ⟨w1.heap.size,0,none⟩=some (.string z0)∧W.cell? ⟨w1.heap.size,1,none⟩=some (.slice b1 n1 d1)∧W.cell? ⟨w1.heap.size,2,none⟩=some (.slice b2 n2 d2)∧W.cell? ⟨w1.heap.size,3,none⟩=some (.slice b3 n3 d3)∧W.cell? ⟨w1.heap.size,4,none⟩=some (.bool z4)) (by kernel_rfl) (HT.out _ (Kept.drew _)) (fun hHeld=>?_);refine tkI 0 ?_;refine tkI 1 ?_;refine tkI 2 ?_;refine tkI 3 ?_;try simp only[nP]
    refine rd1 4 fun K9 Ky=>?_;go_simp;refine((Y4 b a d b1 b2 b3 m c len cap n e n1 d1 n2 d2 n3 d3 z0 z4 pl _ (HP.out.kept (J0.out.trans (Kept.drew _)))).mono fun _ _ h=>h.not HU.out HC.out).mono ?_;rintro e2 w2 ⟨rfl,kk⟩;exact⟨rfl,Ji.bad HE.out HC.out (J0.out.trans ((Kept.drew _).trans kk))⟩
theorem jkQ (a b d:Option Addr) (len cap m c n e:Nat) (nl:List Nod) (pl:List Pd) (x:ByteArray) (w:World) (hn:jo w a len nl) (hp:jy w b m pl) (hlow:∀n ∈ nl,zP n) :
 Calls Tryz.prog 295 #[.agg #[.slice a len cap,.slice b m c,.slice d n e],.string x] w (Vec.Y2 (Yu nl pl x) w):=by
 have hmf:=hmfL (P:=Tryz.prog);obtain⟨Z,hZ⟩:=eX ((w.alloc (.cells #[.slice a len cap,.slice b m c,.slice d n e] 26)).alloc (.cells #[.string x] 9))
 have hkz:Kept w Z:=by rw[←hZ];exact jn _ _ _
 have hC:∀W,Kept Z W→Calls Tryz.prog 310 #[.pointer (some ⟨w.heap.size,0,none⟩),.pointer (some ⟨w.heap.size+1,0,none⟩)] W (Ji (Yu nl pl x) W):=by
  intro W k;have cc:=jc w (.slice a len cap) [.slice b m c,.slice d n e] 26 W (by have:=(ja (w.alloc (.cells #[.slice a len cap,.slice b m c,.slice d n e] 26)) (.cells #[.string x] 9));rw[hZ] at this;exact this.trans k);have dd:=jc (w.alloc (.cells #[.slice a len cap,.slice b m c,.slice d n e] 26)) (.string x) [] 9 W (by rw[hZ];exact k);rw[World.size_alloc] at dd;exact jia a b d len cap m c n e nl pl w.heap.size (w.heap.size+1) x W (cc.at_ 0 _ rfl) (cc.at_ 1 _ rfl) (cc.at_ 2 _ rfl) (dd.at_ 0 _ rfl) (hn.kept (hkz.trans k)) (hp.kept (hkz.trans k)) hlow
 have HC:=lH hC;have Vc:=lH hkz;clear hC hn hkz hp hlow;go_enter Tryz.func295,Tryz.ntmps295;go_wp2_with fail
 try rw[hZ]
 refine(jhd (⟨w.heap.size,0,none⟩,⟨w.heap.size+1,0,none⟩) (Yu nl pl x) _ jiX HC.out).mono ?_;rintro e1 w1 ⟨v,rfl,ho,k⟩;have HO:=lH ho;have HK:=lH k;clear ho k;go_wp2;go_ret2
 exact⟨v,rfl,HO.out.base_le Vc.out.size,Vc.out.trans HK.out⟩
theorem jkp (a b d:Option Addr) (len cap m c n e:Nat) (nl:List Nod) (pl:List Pd) (x:ByteArray) (w:World) (hn:jo w a len nl) (hp:jy w b m pl) (hlow:∀n ∈ nl,zP n) :
 Calls Tryz.prog 195 #[.agg #[.slice a len cap,.slice b m c,.slice d n e],.string x] w (Vec.Y2 (ZO nl pl x) w):=by
 have hmf:=hmfL (P:=Tryz.prog);obtain⟨Z,hZ⟩:=eX ((w.alloc (.cells #[.slice a len cap,.slice b m c,.slice d n e] 26)).alloc (.cells #[.string x] 9))
 have hkz:Kept w Z:=by rw[←hZ];exact jn _ _ _
 have hC:∀W,Kept Z W→Calls Tryz.prog 229 #[.pointer (some ⟨w.heap.size,0,none⟩),.pointer (some ⟨w.heap.size+1,0,none⟩)] W (Ji (ZO nl pl x) W):=by
  intro W k;have cc:=jc w (.slice a len cap) [.slice b m c,.slice d n e] 26 W (by have:=(ja (w.alloc (.cells #[.slice a len cap,.slice b m c,.slice d n e] 26)) (.cells #[.string x] 9));rw[hZ] at this;exact this.trans k);have dd:=jc (w.alloc (.cells #[.slice a len cap,.slice b m c,.slice d n e] 26)) (.string x) [] 9 W (by rw[hZ];exact k);rw[World.size_alloc] at dd;exact jiA a b d len cap m c n e nl pl w.heap.size (w.heap.size+1) x W (cc.at_ 0 _ rfl) (cc.at_ 1 _ rfl) (cc.at_ 2 _ rfl) (dd.at_ 0 _ rfl) (hn.kept (hkz.trans k)) (hp.kept (hkz.trans k)) hlow
 have HC:=lH hC;have Vc:=lH hkz;clear hC hn hkz hp hlow;go_enter Tryz.func195,Tryz.ntmps195;go_wp2_with fail
 try rw[hZ]
 refine(jgR (⟨w.heap.size,0,none⟩,⟨w.heap.size+1,0,none⟩) (ZO nl pl x) _ jh8 HC.out).mono ?_;rintro e1 w1 ⟨v,rfl,ho,k⟩;have HO:=lH ho;have HK:=lH k;clear ho k;go_wp2;go_ret2
 exact⟨v,rfl,HO.out.base_le Vc.out.size,Vc.out.trans HK.out⟩
def JV (c:Int) (v:Value) (w:World) (e:Ending) (w':World):Prop:=(c=0→e=.returned v)∧(c≠0→e=.panicked [zw c])∧Kept w w'
theorem JV.good {x c:Int} {v:Value} {w w':World} (h:x=c) (hc:c=0) (k:Kept w w'):JV x v w (.returned v) w':=by
 subst h;exact⟨fun _=>rfl,fun h=>absurd hc h,k⟩
theorem JV.bad {x c:Int} {v:Value} {w w':World} (h:x=c) (hc:c≠0) (k:Kept w w'):JV x v w (.panicked [zw c]) w':=by
 subst h;exact⟨fun h=>absurd h hc,fun _=>rfl,k⟩
theorem jab {nl:List Nod} {pl:List Pd} {bl:List Bd} {c:Int} (h:or3 (jI nl) (jD pl) (jH bl)=c) (hc:c≠0):zK ⟨nl,pl,bl⟩=c:=by
 unfold zK;dsimp only;rw[h,if_pos hc]
theorem jbp {nl:List Nod} {pl:List Pd} {bl:List Bd} {c:Int} (h:or3 (jI nl) (jD pl) (jH bl)=0) (g:jA nl pl=c) (hc:c≠0):zK ⟨nl,pl,bl⟩=c:=by
 unfold zK;dsimp only;rw[h,if_neg (by simp),g,if_pos hc]
theorem XV {nl:List Nod} {pl:List Pd} {bl:List Bd} {c:Int} (h:or3 (jI nl) (jD pl) (jH bl)=0) (g:jA nl pl=0) (r:jM pl nl=c) (hc:c≠0):zK ⟨nl,pl,bl⟩=c:=by
 unfold zK;dsimp only;rw[h,if_neg (by simp),g,if_neg (by simp),r,if_pos hc]
theorem jaw {nl:List Nod} {pl:List Pd} {bl:List Bd} (h:or3 (jI nl) (jD pl) (jH bl)=0) (g:jA nl pl=0) (r:jM pl nl=0):zK ⟨nl,pl,bl⟩=(Jr nl []).1:=by
 unfold zK;dsimp only;rw[h,if_neg (by simp),g,if_neg (by simp),r,if_neg (by simp)]
theorem jeQ (a b d:Option Addr) (len cap m c n e:Nat) (nl:List Nod) (pl:List Pd) (bl:List Bd) (w:World) (hn:jo w a len nl) (hp:jy w b m pl) (hb:j9 w d n bl) (hlow:∀n ∈ nl,zP n) :
 Calls Tryz.prog 47 #[.agg #[.slice a len cap,.slice b m c,.slice d n e]] w (JV (zK ⟨nl,pl,bl⟩) (.agg #[.slice a len cap,.slice b m c,.slice d n e]) w):=by
 have hlN:=hn.1;have hlP:=hp.1;have hmN:=hn.2.1;have hmP:=hp.2.1;unfold maxLen at hmN hmP;obtain⟨Z,hZ⟩:=eX ((w.alloc (.cells #[.slice a len cap,.slice b m c,.slice d n e] 26)).alloc (.cells #[.slice none 0 0,.slice none 0 0,.slice none 0 0] 26))
 have hkz:Kept w Z:=by rw[←hZ];exact jn _ _ _
 have HS:=lH (show ∀W,Kept Z W→W.cell? ⟨w.heap.size,0,none⟩=some (.slice a len cap)∧W.cell? ⟨w.heap.size,1,none⟩=some (.slice b m c)∧W.cell? ⟨w.heap.size,2,none⟩=some (.slice d n e) from fun W k=>by
  have cc:=jc w (.slice a len cap) [.slice b m c,.slice d n e] 26 W (by have:=ja (w.alloc (.cells #[.slice a len cap,.slice b m c,.slice d n e] 26)) (.cells #[.slice none 0 0,.slice none 0 0,.slice none 0 0] 26);rw[hZ] at this;exact this.trans k);exact⟨cc.at_ 0 _ rfl,cc.at_ 1 _ rfl,cc.at_ 2 _ rfl⟩)
 have HQ:=lH (show ∀W,Kept Z W→jf (w.heap.size+1) [.slice none 0 0,.slice none 0 0,.slice none 0 0] W from fun W k=>by
  have dd:=jc (w.alloc (.cells #[.slice a len cap,.slice b m c,.slice d n e] 26)) (.slice none 0 0) [.slice none 0 0,.slice none 0 0] 26 W (by rw[hZ];exact k);rw[World.size_alloc] at dd;exact dd)
 obtain⟨HN,HP,HB,Vo,U7,Ud,Vc⟩:=lH7 (hn.kept hkz) (hp.kept hkz) (hb.kept hkz) hlow hlN hlP hkz;obtain⟨x1,hx1⟩:=eX (jI nl)
 obtain⟨x2,hx2⟩:=eX (jD pl)
 obtain⟨x3,hx3⟩:=eX (jH bl)
 obtain⟨x0,hx0⟩:=eX (or3 x1 x2 x3)
 obtain⟨RR,Ue,H1,H2,H3⟩:=lH5 hx0 (show or3 (jI nl) (jD pl) (jH bl)=x0 by rw[hx1,hx2,hx3,hx0]) (fun W (k:Kept Z W)=>je0 a len cap nl W (HN.out.kept k)) (fun W (k:Kept Z W)=>jeK b m c pl W (HP.out.kept k)) (fun W (k:Kept Z W)=>jeA d n e bl W (HB.out.kept k));rw[hx1] at H1;rw[hx2] at H2;rw[hx3] at H3;clear hn hp hb hlow hlN hlP hkz hx1 hx2 hx3 hx0;by_cases hc:x0=0
 · subst hc;go_enter Tryz.func47,Tryz.ntmps47;go_wp2;try rw[hZ]
   clear hZ;refine wp_region_held_drew (S:=fun W=>W.cell? ⟨w.heap.size,0,none⟩=some (.slice a len cap)∧W.cell? ⟨w.heap.size,1,none⟩=some (.slice b m c)∧W.cell? ⟨w.heap.size,2,none⟩=some (.slice d n e)) (by kernel_rfl) (HS.out _ (Kept.drew _)) (fun hHeld=>?_);refine tkI 0 ?_;refine tkI 1 ?_;refine tkI 3 ?_;refine tkI 4 ?_;refine tkI 6 ?_;refine tkI 7 ?_;try simp only[nP]
   refine rd1 2 fun K9 Ky=>?_;go_simp;refine(H1.out _ (Kept.drew _)).mono ?_;rintro e1 w1 ⟨rfl,kk⟩;have J1:=lH ((Kept.drew _).trans kk);clear kk;refine Ky.out _ _ (HS.out _ J1.out) (fun _=>?_);clear Ky K9;try simp only[nP]
   refine rd1 5 fun K9 Ky=>?_;go_simp;refine(H2.out _ J1.out).mono ?_;rintro e2 w2 ⟨rfl,kk⟩;have J2:=lH ((J1.out).trans kk);clear kk;refine Ky.out _ _ (HS.out _ J2.out) (fun _=>?_);clear Ky K9;try simp only[nP]
   refine rd1 8 fun K9 Ky=>?_;go_simp;refine(H3.out _ J2.out).mono ?_;rintro e3 w3 ⟨rfl,kk⟩;have J3:=lH ((J2.out).trans kk);clear kk;refine Ky.out _ _ (HS.out _ J3.out) (fun _=>?_);clear Ky K9;try simp only[nP]
   refine rd1 9 fun K9 Ky=>?_;go_simp;have J4:=lH (J3.out.trans (ja w3 (.cells #[.int .i64 x1,.int .i64 x2,.int .i64 x3] 69)));refine Ky.out _ _ (HS.out _ J4.out) (fun _=>?_);clear Ky K9;try simp only[nP]
   refine rd1 10 fun K9 Ky=>?_;go_simp;refine(jdk _ x1 x2 x3 _ (by go_simp) (by go_simp) (by go_simp)).mono ?_;rintro e4 w4 ⟨rfl,rfl⟩;rw[RR.out];refine Ky.out _ _ (HS.out _ J4.out) (fun _=>?_);clear Ky K9;try simp only[nP]
   refine rd1 11 fun K9 Ky=>?_;go_simp;refine(jjU _).mono ?_;rintro e5 w5 ⟨rfl,rfl⟩;refine Ky.out _ _ (HS.out _ J4.out) (fun _=>?_);clear Ky K9;try simp only[nP]
   refine wpAnyH_done (by kernel_rfl) ?_ _;obtain⟨W0,hW0⟩:=eX (w3.alloc (.cells #[.int .i64 x1,.int .i64 x2,.int .i64 x3] 69))
   rw[hW0] at J4 ⊢;obtain⟨o0,o1,o2⟩:=HS.out _ J4.out;clear hW0;go_wp2;clear o0 o1 o2;go_loopw [22] (fun i wr=>∃k:Nat,k≤m∧i=.int .i64 k∧jA nl (pl.drop k)=jA nl pl∧Kept Z wr) (fun i _=>m-(intOf i).toNat)
   case atStart=>exact⟨0,Nat.zero_le _,rfl,rfl,J4.out⟩
   case round =>
    obtain⟨k,hk,rfl,hrest,hK⟩:=hrel;have HT:=lH hrest;have HK:=lH hK;by_cases hlt:k<m
    · obtain⟨b0,off,rfl⟩:=HP.out.form.resolve_left (by omega);obtain⟨p,a1,m1,c1,a2,m2,c2,a3,m3,c3,a4,m4,c4,hn,hd,hb,y0,y1,y2,y3,y4,y5,y6,y7,y8,y9,y10,hat⟩:=(HP.out.kept hK).at_ hlt;have HD:=lH hd;obtain⟨t,ht⟩:=eX ((p.node.toList==([]:List UInt8)))
      have Ua:=lH (show zo p.node=t by rw[JY];exact ht);have hkk:(k:Int)<(m:Int):=by omega
      have KA:=lH (hK.trans (ja wr (.cells #[.string p.name,.string p.owner,.int .i64 p.prio,.slice a1 m1 c1,.slice a2 m2 c2,.slice a3 m3 c3,.slice a4 m4 c4,.string p.key,.int .i64 p.most,.string p.node,.bool p.hold] 52)));obtain⟨o0,o1,o2⟩:=HS.out _ KA.out;clear hrest hK hat hd hn
      cases t with
      | true =>
       have HX:=lH (show jA nl (pl.drop (k+1))=jA nl pl by rw[←HT.out,HD.out,jbI Ua.out]);go_wp2;go_roundw
       case rel=>exact⟨k+1,by omega,by go_num,HX.out,KA.out⟩
       case measure=>simp[intOf];omega
      | false =>
       cases hf:jl nl p.node with
       | none =>
        have HX:=lH (show jA nl pl=3 by rw[←HT.out,HD.out,qI Ua.out (by rw[hf];rfl)]);have HF:=lH hf;clear hf;go_wp2_with fail
        refine(qp a _ d len cap m c n e nl p.node _ (HN.out.kept KA.out) Vo.out HF.out).mono ?_;rintro e1 v1 ⟨rfl,kk⟩;go_wp2;exact⟨rfl,JV.bad (jbp Ue.out HX.out (by decide)) (by decide) (Vc.out.trans (KA.out.trans kk))⟩
       | some n9 =>
        have HX:=lH (show jA nl (pl.drop (k+1))=jA nl pl by rw[←HT.out,HD.out,jbO (by rw[hf];rfl)]);have HF:=lH hf;clear hf;go_wp2_with fail
        refine(ZH a _ d len cap m c n e nl p.node n9 _ (HN.out.kept KA.out) Vo.out HF.out).mono ?_;rintro e1 v1 ⟨b1,n1,d1,b2,n2,d2,b3,n3,d3,rfl,-,kk⟩;have KB:=lH (KA.out.trans kk);clear kk o0 o1 o2;go_wp2;go_roundw
        case rel=>exact⟨k+1,by omega,by go_num,HX.out,KB.out⟩
        case measure=>simp[intOf];omega
    · have V1:=lH (show jA nl pl=0 by rw[←hrest,List.drop_of_length_le (by rw[Ud.out];omega)];rfl);obtain⟨o0,o1,o2⟩:=HS.out _ hK;clear hrest hK;go_wp2;clear o0 o1 o2;go_loopw [37] (fun i wr=>∃k:Nat,k≤len∧i=.int .i64 k∧jM pl (nl.drop k)=jM pl nl∧Kept Z wr) (fun i _=>len-(intOf i).toNat)
      case atStart=>exact⟨0,Nat.zero_le _,rfl,rfl,HK.out⟩
      case round =>
       obtain⟨k,hk,rfl,hrest,hK⟩:=hrel;have HT:=lH hrest;have HK:=lH hK;by_cases hlt:k<len
       · obtain⟨b0,off,rfl⟩:=HN.out.form.resolve_left (by omega);obtain⟨p,a1,m1,c1,a2,m2,c2,a3,m3,c3,hn,hd,hb,y0,y1,y2,y3,y4,hat⟩:=(HN.out.kept hK).at_ hlt;have HD:=lH hd;have HA:=lH hat;have hkk:(k:Int)<(len:Int):=by omega
         obtain⟨c9,m9,hu⟩:∃c m,jJ p.name pl []=(c,m):=⟨_,_,rfl⟩
         have HU:=lH hu;obtain⟨z0,hz0⟩:=eX (p.name)
         obtain⟨z4,hz4⟩:=eX (p.cordon)
         have To:=lH hz0;rw[hz0] at y0;rw[hz4] at y4;have Um:=lH (show ∀W,Kept (wr.alloc (.cells #[.string z0,.slice a1 m1 c1,.slice a2 m2 c2,.slice a3 m3 c3,.bool z4] 78)) W→W.cell? ⟨w.heap.size,0,none⟩=some (.slice (some ⟨b0,off,none⟩) len cap)∧W.cell? ⟨w.heap.size,1,none⟩=some (.slice b m c)∧W.cell? ⟨w.heap.size,2,none⟩=some (.slice d n e)∧W.cell? ⟨wr.heap.size,0,none⟩=some (.string z0)∧W.cell? ⟨wr.heap.size,1,none⟩=some (.slice a1 m1 c1)∧W.cell? ⟨wr.heap.size,2,none⟩=some (.slice a2 m2 c2)∧W.cell? ⟨wr.heap.size,3,none⟩=some (.slice a3 m3 c3)∧W.cell? ⟨wr.heap.size,4,none⟩=some (.bool z4) from fun W k=>by
          obtain⟨o0,o1,o2⟩:=HS.out W (hK.trans ((ja _ _).trans k));have cc:=jc wr (.string z0) [.slice a1 m1 c1,.slice a2 m2 c2,.slice a3 m3 c3,.bool z4] 78 W k;exact⟨o0,o1,o2,cc.at_ 0 _ rfl,cc.at_ 1 _ rfl,cc.at_ 2 _ rfl,cc.at_ 3 _ rfl,cc.at_ 4 _ rfl⟩)
         have TM:=lH (fun W (k:Kept wr W)=>Y4 b (some ⟨b0,off,none⟩) d a1 a2 a3 m c len cap n e m1 c1 m2 c2 m3 c3 z0 z4 pl W (HP.out.kept (HK.out.trans k)));clear hrest hK hat hd hn hu;by_cases hc:c9=0
         · subst hc;obtain⟨t,ht⟩:=eX (Vec.jB p.cap m9)
           have UG:=lH ht;clear ht
           cases t with
           | true =>
            have HX:=lH (show jM pl (nl.drop (k+1))=jM pl nl by rw[←HT.out,HD.out,Xv HU.out UG.out]);obtain⟨o0,o1,o2,-⟩:=Um.out _ (Kept.refl _);go_wp2;clear o0 o1 o2;refine wp_region_held_drew (S:=fun W=>W.cell? ⟨w.heap.size,0,none⟩=some (.slice (some ⟨b0,off,none⟩) len cap)∧W.cell? ⟨w.heap.size,1,none⟩=some (.slice b m c)∧W.cell? ⟨w.heap.size,2,none⟩=some (.slice d n e)∧W.cell? ⟨wr.heap.size,0,none⟩=some (.string z0)∧W.cell? ⟨wr.heap.size,1,none⟩=some (.slice a1 m1 c1)∧W.cell? ⟨wr.heap.size,2,none⟩=some (.slice a2 m2 c2)∧W.cell? ⟨wr.heap.size,3,none⟩=some (.slice a3 m3 c3)∧W.cell? ⟨wr.heap.size,4,none⟩=some (.bool z4)) (by kernel_rfl) (Um.out _ (Kept.drew _)) (fun hHeld=>?_);refine tkI 0 ?_;refine tkI 1 ?_;refine tkI 3 ?_;refine tkI 4 ?_;try simp only[nP]
            refine rd1 2 fun K9 Ky=>?_;go_simp;refine(((TM.out _ ((ja wr (.cells #[.string z0,.slice a1 m1 c1,.slice a2 m2 c2,.slice a3 m3 c3,.bool z4] 78)).trans (Kept.drew _))).mono fun _ _ h=>h.ok (by rw[←To.out];exact HU.out))).mono ?_;rintro e1 v1 ⟨v,rfl,ho,kk⟩;have J1:=lH ((Kept.drew _).trans kk);have HO:=lH ho;clear kk ho;refine Ky.out _ _ (Um.out _ J1.out) (fun _=>?_);clear Ky K9;try simp only[nP]
            refine rd1 5 fun K9 Ky=>?_;go_simp;refine(Vec.jh6 HO.out.reads (HA.out.kept ((ja wr (.cells #[.string z0,.slice a1 m1 c1,.slice a2 m2 c2,.slice a3 m3 c3,.bool z4] 78)).trans J1.out)).cap UG.out).mono ?_;rintro e2 v2 ⟨rfl,kk⟩;have J2:=lH (J1.out.trans kk);clear kk;refine Ky.out _ _ (Um.out _ J2.out) (fun _=>?_);clear Ky K9;try simp only[nP]
            refine tkI 6 ?_;try simp only[nP]
            refine wpAnyH_done (by kernel_rfl) ?_ _;have KB:=lH (HK.out.trans ((ja wr (.cells #[.string z0,.slice a1 m1 c1,.slice a2 m2 c2,.slice a3 m3 c3,.bool z4] 78)).trans J2.out));go_wp2;go_roundw
            case rel=>exact⟨k+1,by omega,by go_num,HX.out,KB.out⟩
            case measure=>simp[intOf];omega
           | false =>
            have HX:=lH (show jM pl nl=7 by rw[←HT.out,HD.out,qE HU.out UG.out]);obtain⟨o0,o1,o2,-⟩:=Um.out _ (Kept.refl _);go_wp2;clear o0 o1 o2;refine wp_region_held_drew (S:=fun W=>W.cell? ⟨w.heap.size,0,none⟩=some (.slice (some ⟨b0,off,none⟩) len cap)∧W.cell? ⟨w.heap.size,1,none⟩=some (.slice b m c)∧W.cell? ⟨w.heap.size,2,none⟩=some (.slice d n e)∧W.cell? ⟨wr.heap.size,0,none⟩=some (.string z0)∧W.cell? ⟨wr.heap.size,1,none⟩=some (.slice a1 m1 c1)∧W.cell? ⟨wr.heap.size,2,none⟩=some (.slice a2 m2 c2)∧W.cell? ⟨wr.heap.size,3,none⟩=some (.slice a3 m3 c3)∧W.cell? ⟨wr.heap.size,4,none⟩=some (.bool z4)) (by kernel_rfl) (Um.out _ (Kept.drew _)) (fun hHeld=>?_);refine tkI 0 ?_;refine tkI 1 ?_;refine tkI 3 ?_;refine tkI 4 ?_;try simp only[nP]
            refine rd1 2 fun K9 Ky=>?_;go_simp;refine(((TM.out _ ((ja wr (.cells #[.string z0,.slice a1 m1 c1,.slice a2 m2 c2,.slice a3 m3 c3,.bool z4] 78)).trans (Kept.drew _))).mono fun _ _ h=>h.ok (by rw[←To.out];exact HU.out))).mono ?_;rintro e1 v1 ⟨v,rfl,ho,kk⟩;have J1:=lH ((Kept.drew _).trans kk);have HO:=lH ho;clear kk ho;refine Ky.out _ _ (Um.out _ J1.out) (fun _=>?_);clear Ky K9;try simp only[nP]
            refine rd1 5 fun K9 Ky=>?_;go_simp;refine(Vec.jh6 HO.out.reads (HA.out.kept ((ja wr (.cells #[.string z0,.slice a1 m1 c1,.slice a2 m2 c2,.slice a3 m3 c3,.bool z4] 78)).trans J1.out)).cap UG.out).mono ?_;rintro e2 v2 ⟨rfl,kk⟩;have J2:=lH (J1.out.trans kk);clear kk;refine Ky.out _ _ (Um.out _ J2.out) (fun _=>?_);clear Ky K9;try simp only[nP]
            refine tkI 6 ?_;try simp only[nP]
            refine wpAnyH_done (by kernel_rfl) ?_ _;have KB:=lH (HK.out.trans ((ja wr (.cells #[.string z0,.slice a1 m1 c1,.slice a2 m2 c2,.slice a3 m3 c3,.bool z4] 78)).trans J2.out));go_wp2;exact⟨rfl,JV.bad (XV Ue.out V1.out HX.out (by decide)) (by decide) (Vc.out.trans KB.out)⟩
         · have HX:=lH (show jM pl nl=c9 by rw[←HT.out,HD.out,jbr HU.out hc]);have HC:=lH hc;clear hc;obtain⟨o0,o1,o2,-⟩:=Um.out _ (Kept.refl _);go_wp2;clear o0 o1 o2;refine wp_region_held_drew (S:=fun W=>W.cell? ⟨w.heap.size,0,none⟩=some (.slice (some ⟨b0,off,none⟩) len cap)∧W.cell? ⟨w.heap.size,1,none⟩=some (.slice b m c)∧W.cell? ⟨w.heap.size,2,none⟩=some (.slice d n e)∧W.cell? ⟨wr.heap.size,0,none⟩=some (.string z0)∧W.cell? ⟨wr.heap.size,1,none⟩=some (.slice a1 m1 c1)∧W.cell? ⟨wr.heap.size,2,none⟩=some (.slice a2 m2 c2)∧W.cell? ⟨wr.heap.size,3,none⟩=some (.slice a3 m3 c3)∧W.cell? ⟨wr.heap.size,4,none⟩=some (.bool z4)) (by kernel_rfl) (Um.out _ (Kept.drew _)) (fun hHeld=>?_);refine tkI 0 ?_;refine tkI 1 ?_;refine tkI 3 ?_;refine tkI 4 ?_;try simp only[nP]
           refine rd1 2 fun K9 Ky=>?_;go_simp;refine(((TM.out _ ((ja wr (.cells #[.string z0,.slice a1 m1 c1,.slice a2 m2 c2,.slice a3 m3 c3,.bool z4] 78)).trans (Kept.drew _))).mono fun _ _ h=>h.not (by rw[←To.out];exact HU.out) HC.out)).mono ?_;rintro e1 v1 ⟨rfl,kk⟩;exact⟨rfl,JV.bad (XV Ue.out V1.out HX.out HC.out) HC.out (Vc.out.trans (HK.out.trans ((ja wr (.cells #[.string z0,.slice a1 m1 c1,.slice a2 m2 c2,.slice a3 m3 c3,.bool z4] 78)).trans ((Kept.drew _).trans kk))))⟩
       · have Rj:=lH (show jM pl nl=0 by rw[←hrest,List.drop_of_length_le (by rw[U7.out];omega)];rfl);obtain⟨o0,o1,o2⟩:=HS.out _ hK;have RS:=lH (jjQ a b d len cap m c n e nl wr (HN.out.kept hK));have Nx:=lH (jaw Ue.out V1.out Rj.out);obtain⟨c9,m9,hu⟩:∃c m,Jr nl []=(c,m):=⟨_,_,rfl⟩
         have HU:=lH hu;have HV:=lH (show zK ⟨nl,pl,bl⟩=c9 by rw[Nx.out,hu]);clear hrest hK hu;by_cases hc:c9=0
         · subst hc;go_wp2_with fail
           refine(RS.out.mono fun _ _ h=>h.ok HU.out).mono ?_;rintro e1 v1 ⟨v,rfl,ho,kk⟩;have KB:=lH (HK.out.trans kk);clear kk ho o0 o1 o2;obtain⟨o0,o1,o2⟩:=HS.out _ KB.out;have y0:=(HQ.out _ KB.out).at_ 0 _ rfl;have y1:=(HQ.out _ KB.out).at_ 1 _ rfl;have y2:=(HQ.out _ KB.out).at_ 2 _ rfl;have f0:=(HQ.out _ KB.out).free 0;have f1:=(HQ.out _ KB.out).free 1;have f2:=(HQ.out _ KB.out).free 2;have PP:=lH (j6 (vs:=[.slice a len cap,.slice b m c,.slice d n e]) (HQ.out _ KB.out) rfl);go_wp2;obtain⟨WE,hWE⟩:=eX (v1.setCells (w.heap.size+1) 0 [.slice a len cap,.slice b m c,.slice d n e])
           have hWE2:(((v1.setCell ⟨(w.heap.size+1),0,none⟩ (.slice a len cap)).setCell ⟨(w.heap.size+1),1,none⟩ (.slice b m c)).setCell ⟨(w.heap.size+1),2,none⟩ (.slice d n e))=WE:=hWE;rw[hWE] at PP;try rw[hWE2]
           clear hWE hWE2;obtain⟨PC,hsz,hbl,hkp⟩:=PP.out;refine bodyPost_ret (by simp[results,Tryz.results47,go_sem,PC.at_ 0 _ rfl,PC.at_ 1 _ rfl,PC.at_ 2 _ rfl];try rfl) rfl ?_;exact JV.good HV.out rfl (hkp _ _ (by omega) (Vc.out.trans KB.out))
         · have HC:=lH hc;clear hc;go_wp2_with fail
           refine(RS.out.mono fun _ _ h=>h.not HU.out HC.out).mono ?_;rintro e1 v1 ⟨rfl,kk⟩;go_wp2;exact⟨rfl,JV.bad HV.out HC.out (Vc.out.trans (HK.out.trans kk))⟩
 · have HC:=lH hc;clear hc;go_enter Tryz.func47,Tryz.ntmps47;go_wp2;try rw[hZ]
   clear hZ;refine wp_region_held_drew (S:=fun W=>W.cell? ⟨w.heap.size,0,none⟩=some (.slice a len cap)∧W.cell? ⟨w.heap.size,1,none⟩=some (.slice b m c)∧W.cell? ⟨w.heap.size,2,none⟩=some (.slice d n e)) (by kernel_rfl) (HS.out _ (Kept.drew _)) (fun hHeld=>?_);refine tkI 0 ?_;refine tkI 1 ?_;refine tkI 3 ?_;refine tkI 4 ?_;refine tkI 6 ?_;refine tkI 7 ?_;try simp only[nP]
   refine rd1 2 fun K9 Ky=>?_;go_simp;refine(H1.out _ (Kept.drew _)).mono ?_;rintro e1 w1 ⟨rfl,kk⟩;have J1:=lH ((Kept.drew _).trans kk);clear kk;refine Ky.out _ _ (HS.out _ J1.out) (fun _=>?_);clear Ky K9;try simp only[nP]
   refine rd1 5 fun K9 Ky=>?_;go_simp;refine(H2.out _ J1.out).mono ?_;rintro e2 w2 ⟨rfl,kk⟩;have J2:=lH ((J1.out).trans kk);clear kk;refine Ky.out _ _ (HS.out _ J2.out) (fun _=>?_);clear Ky K9;try simp only[nP]
   refine rd1 8 fun K9 Ky=>?_;go_simp;refine(H3.out _ J2.out).mono ?_;rintro e3 w3 ⟨rfl,kk⟩;have J3:=lH ((J2.out).trans kk);clear kk;refine Ky.out _ _ (HS.out _ J3.out) (fun _=>?_);clear Ky K9;try simp only[nP]
   refine rd1 9 fun K9 Ky=>?_;go_simp;have J4:=lH (J3.out.trans (ja w3 (.cells #[.int .i64 x1,.int .i64 x2,.int .i64 x3] 69)));refine Ky.out _ _ (HS.out _ J4.out) (fun _=>?_);clear Ky K9;try simp only[nP]
   refine rd1 10 fun K9 Ky=>?_;go_simp;refine(jdk _ x1 x2 x3 _ (by go_simp) (by go_simp) (by go_simp)).mono ?_;rintro e4 w4 ⟨rfl,rfl⟩;rw[RR.out];refine Ky.out _ _ (HS.out _ J4.out) (fun _=>?_);clear Ky K9;try simp only[nP]
   refine rd1 11 fun K9 Ky=>?_;go_simp;refine(jit _ _ HC.out).mono ?_;rintro e5 w5 ⟨rfl,rfl⟩;exact⟨rfl,JV.bad (jab Ue.out HC.out) HC.out (Vc.out.trans J4.out)⟩
theorem jg7 (a b d:Option Addr) (len cap m c n e p:Nat) (nl:List Nod) (pl:List Pd) (bl:List Bd) (w:World) (hn:jo w a len nl) (hp:jy w b m pl) (hb:j9 w d n bl) (hlow:∀n ∈ nl,zP n) (hs:w.cell? ⟨p,0,none⟩=some (.slice a len cap)∧w.cell? ⟨p,1,none⟩=some (.slice b m c)∧w.cell? ⟨p,2,none⟩=some (.slice d n e)) :
 Calls Tryz.prog 46 #[.pointer (some ⟨p,0,none⟩)] w (JV (zK ⟨nl,pl,bl⟩) (.agg #[.slice a len cap,.slice b m c,.slice d n e]) w):=by
 obtain⟨Z,hZ⟩:=eX (w.alloc (.cells #[.slice none 0 0,.slice none 0 0,.slice none 0 0] 26))
 have hkz:Kept w Z:=by rw[←hZ];exact ja _ _
 obtain⟨HQ,HS,HC,Vc⟩:=lH4 (show ∀W,Kept Z W→jf w.heap.size [.slice none 0 0,.slice none 0 0,.slice none 0 0] W from fun W k=>jc w (.slice none 0 0) [.slice none 0 0,.slice none 0 0] 26 W (by rw[hZ];exact k)) (show Z.cell? ⟨p,0,none⟩=some (.slice a len cap)∧Z.cell? ⟨p,1,none⟩=some (.slice b m c)∧Z.cell? ⟨p,2,none⟩=some (.slice d n e) from⟨cell_later hkz hs.1,cell_later hkz hs.2.1,cell_later hkz hs.2.2⟩) (jeQ a b d len cap m c n e nl pl bl Z (hn.kept hkz) (hp.kept hkz) (hb.kept hkz) hlow) hkz;obtain⟨c9,hc9⟩:=eX (zK ⟨nl,pl,bl⟩)
 rw[hc9] at HC ⊢;obtain⟨o0,o1,o2⟩:=HS.out;clear hn hp hb hlow hs hkz hc9;go_enter Tryz.func46,Tryz.ntmps46;go_wp2_with fail
 try rw[hZ]
 go_wp2_with fail
 try rw[hZ]
 clear hZ;refine HC.out.mono ?_;rintro e1 w1 ⟨h0,h1,k⟩;have KB:=lH k;by_cases hc:c9=0
 · subst hc;obtain rfl:=h0 rfl;clear h0 h1 k;have y0:=(HQ.out _ KB.out).at_ 0 _ rfl;have y1:=(HQ.out _ KB.out).at_ 1 _ rfl;have y2:=(HQ.out _ KB.out).at_ 2 _ rfl;have f0:=(HQ.out _ KB.out).free 0;have f1:=(HQ.out _ KB.out).free 1;have f2:=(HQ.out _ KB.out).free 2;have PP:=lH (j6 (vs:=[.slice a len cap,.slice b m c,.slice d n e]) (HQ.out _ KB.out) rfl);go_wp2;obtain⟨WE,hWE⟩:=eX (w1.setCells w.heap.size 0 [.slice a len cap,.slice b m c,.slice d n e])
   have hWE2:(((w1.setCell ⟨w.heap.size,0,none⟩ (.slice a len cap)).setCell ⟨w.heap.size,1,none⟩ (.slice b m c)).setCell ⟨w.heap.size,2,none⟩ (.slice d n e))=WE:=hWE;rw[hWE] at PP;try rw[hWE2]
   clear hWE hWE2;obtain⟨PC,hsz,hbl,hkp⟩:=PP.out;refine bodyPost_ret (by simp[results,Tryz.results46,go_sem,PC.at_ 0 _ rfl,PC.at_ 1 _ rfl,PC.at_ 2 _ rfl];try rfl) rfl ?_;exact JV.good rfl rfl (hkp _ _ (Nat.le_refl _) (Vc.out.trans KB.out))
 · obtain rfl:=h1 hc;have HX:=lH hc;clear h0 h1 k hc;go_wp2;exact⟨rfl,JV.bad rfl HX.out (Vc.out.trans KB.out)⟩
theorem jaK (B:Nat) (q:Nat) (x y:Int) (w:World) (hq:w.cell? ⟨q,0,none⟩=some (.int .i64 y)) (hzq:w.frozen? ⟨q,0,none⟩=false) (hBq:B≤q) :
 CallsD Tryz.prog 88 #[.pointer (some ⟨q,0,none⟩)] (.panicking [zw x]) w fun e u' w' =>
  e=.returned (.tuple #[])∧u'=.panicking [{ zw x with recovered:=true }]∧w'=w.setCell ⟨q,0,none⟩ (.int .i64 x)∧w'.cell? ⟨q,0,none⟩=some (.int .i64 x)∧Below B w w':=by
 have hta:∀W,(Instr.typeAssert (.iface 69 (.int .i64 x)) 20 69 false).run Tryz.prog W=.ok (.int .i64 x) W:=fun _=>by kernel_rfl
 refine callsD_of_wpS Tryz.func88 rfl fun c₀ cs hu=>?_;apply wpS_seq;apply wpS_region;simp[wpOpsS,go_sem,recoverD,hu,Tryz.ntmps88,Exit.thenS];apply wpS_seq;apply wpS_region;simp[wpOpsS,go_sem,recoverD,Exit.thenS];refine wpS_cond (t:=true) (by simp[Act.eval,Array.replicate]) ?_;simp only[if_true];refine wpS_of_wp ?_;simp[Array.replicate];go_wp2;simp[bodyPostS,results,Tryz.results88];exact⟨World.cell?_setCell_same' _ _ _ (by rw[hq];rfl),(Below.refl B w).setCell (p:=⟨q,0,none⟩) hBq _⟩
theorem jeE (q:Addr) (w:World) :
 CallsD Tryz.prog 88 #[.pointer (some q)] .returning w fun e u' w'=>e=.returned (.tuple #[])∧u'=.returning∧w'=w:=by
 refine callsD_of_wpS Tryz.func88 rfl fun c₀ cs hu=>?_;apply wpS_seq;apply wpS_region;simp[wpOpsS,go_sem,recoverD,hu,Tryz.ntmps88,Exit.thenS];apply wpS_seq;apply wpS_region;simp[wpOpsS,go_sem,recoverD,hu,Exit.thenS];refine wpS_cond (t:=false) (by simp[Act.eval,Array.replicate]) ?_;simp only[Bool.false_eq_true,if_false];refine wpS_of_wp (wp_skip ?_)
 cases c₀
 simp_all [bodyPostS,results,Tryz.results88]
theorem jfu (C:Addr) (r:Int) (a b d:Option Addr) (len cap m c n e:Nat) (w:World)
 (hk:∀W,Kept w W→Calls Tryz.prog 46 #[.pointer (some C)] W (JV r (.agg #[.slice a len cap,.slice b m c,.slice d n e]) W)) :
 Calls Tryz.prog 45 #[.func (.func 46) #[] #[.pointer (some C)]] w fun e w'=>∃a b d len cap m c n f,e=.returned (.tuple #[.agg #[.slice a len cap,.slice b m c,.slice d n f],.int .i64 r])∧Kept w w':=by
 have hmf:=hmfL (P:=Tryz.prog);obtain⟨Z,hZ⟩:=eX ((w.alloc (.cells #[.slice none 0 0,.slice none 0 0,.slice none 0 0] 26)).alloc (.cells #[.int .i64 0] 69))
 have hkz:Kept w Z:=by rw[←hZ];exact jn _ _ _
 have hzs:Z.heap.size=w.heap.size+2:=by rw[←hZ];simp
 have HK:=lH hkz;have HZ:=lH (fun W (kk:Kept Z W)=>jc w (.slice none 0 0) [.slice none 0 0,.slice none 0 0] 26 W (by rw[←hZ] at kk;exact(ja _ _).trans kk));have Re:=lH (show ∀W,Kept Z W→W.cell? ⟨w.heap.size+1,0,none⟩=some (.int .i64 0)∧W.frozen? ⟨w.heap.size+1,0,none⟩=false from fun W kk=>by
  have hb:=jc (w.alloc (.cells #[.slice none 0 0,.slice none 0 0,.slice none 0 0] 26)) (.int .i64 0) [] 69 W (by rw[hZ];exact kk);rw[World.size_alloc] at hb;exact⟨hb.at_ 0 _ rfl,hb.free 0⟩)
 have Tp:=lH (hk Z hkz);clear hk hkz;go_enter_defers Tryz.func45,Tryz.ntmps45
 go_wp2_with fail
 try rw[hZ]
 refine Tp.out.mono ?_;rintro e1 w1 ⟨h0,h1,hb⟩;have KK:=lH hb;have QQ:=HZ.out _ hb;obtain⟨z0,z1⟩:=Re.out _ hb;have y0:=QQ.at_ 0 _ rfl;have y1:=QQ.at_ 1 _ rfl;have y2:=QQ.at_ 2 _ rfl;have x0:=QQ.free 0;have x1:=QQ.free 1;have x2:=QQ.free 2;have PP:=lH (j6 (vs:=[.slice a len cap,.slice b m c,.slice d n e]) QQ rfl);clear QQ;have hws:w.heap.size+1<w1.heap.size:=by have:=hb.size;omega
 by_cases hx:r=0
 · subst hx;obtain rfl:=h0 rfl;clear h0 h1 hb hZ;go_wp2_with fail
   obtain⟨WE,hWE⟩:=eX ((((w1.setCell ⟨w.heap.size,0,none⟩ (.slice a len cap)).setCell ⟨w.heap.size,1,none⟩ (.slice b m c)).setCell ⟨w.heap.size,2,none⟩ (.slice d n e)))
   have hWE2:w1.setCells w.heap.size 0 [.slice a len cap,.slice b m c,.slice d n e]=WE:=hWE;rw[hWE2] at PP;rw[hWE];obtain⟨PC,hsz,hbl,hkp⟩:=PP.out;have ez:WE.cell? ⟨w.heap.size+1,0,none⟩=some (.int .i64 0):=(World.cell?_of_block (a:=⟨w.heap.size+1,0,none⟩) (hbl (w.heap.size+1) (by omega))).trans z0;have hb2:∀b,b≠w.heap.size+1→(WE.setCell ⟨w.heap.size+1,0,none⟩ (.int .i64 0)).heap[b]?=WE.heap[b]?:=fun b hb=>Below.heap_setCell WE ⟨w.heap.size+1,0,none⟩ _ b hb;have fe:=World.cell?_setCell_same' WE ⟨w.heap.size+1,0,none⟩ (.int .i64 0) (by rw[ez];rfl);have ff:∀j v,WE.cell? ⟨w.heap.size,j,none⟩=some v→(WE.setCell ⟨w.heap.size+1,0,none⟩ (.int .i64 0)).cell? ⟨w.heap.size,j,none⟩=some v:=fun j v h=>(World.cell?_of_block (a:=⟨w.heap.size,j,none⟩) (hb2 w.heap.size (by omega))).trans h;have f0:=ff 0 _ (PC.at_ 0 _ rfl);have f1:=ff 1 _ (PC.at_ 1 _ rfl);have f2:=ff 2 _ (PC.at_ 2 _ rfl);have KF:=lH (show Kept w (WE.setCell ⟨w.heap.size+1,0,none⟩ (.int .i64 0)) from(hkp _ _ (Nat.le_refl _) (HK.out.trans KK.out)).setCell (p:=⟨w.heap.size+1,0,none⟩) (Nat.le_succ _) _);obtain⟨WF,hWF⟩:=eX (WE.setCell ⟨w.heap.size+1,0,none⟩ (.int .i64 0))
   rw[hWF] at fe f0 f1 f2 KF ⊢;clear hWE hWE2 hWF ff hb2 ez PP hbl hkp PC y0 y1 y2 x0 x1 x2 z0 z1;refine leaves_cons (f:=88) (args:=#[.pointer (some ⟨w.heap.size+1,0,none⟩)]) (by simp) (by simp[go_sem]) ?_;refine(jeE ⟨w.heap.size+1,0,none⟩ _).mono ?_;rintro e u' w'' ⟨rfl,rfl,rfl⟩;simp[Leaves,settle,results,Tryz.results45,go_sem,fe,f0,f1,f2];exact KF.out
 · obtain rfl:=h1 hx;have KW:=lH (HK.out.trans KK.out);clear h0 h1 hb hZ PP;go_wp2_with fail
   refine leaves_cons (f:=88) (args:=#[.pointer (some ⟨w.heap.size+1,0,none⟩)]) (by simp) (by simp[go_sem]) ?_;refine(jaK w.heap.size (w.heap.size+1) r 0 _ z0 z1 (by omega)).mono ?_;rintro e u' w'' ⟨rfl,rfl,rfl,q2,q3⟩;have hb2:(w1.setCell ⟨w.heap.size+1,0,none⟩ (.int .i64 r)).heap[w.heap.size]?=w1.heap[w.heap.size]?:=Below.heap_setCell w1 ⟨w.heap.size+1,0,none⟩ _ w.heap.size (by simp);have ff:∀j v,w1.cell? ⟨w.heap.size,j,none⟩=some v→(w1.setCell ⟨w.heap.size+1,0,none⟩ (.int .i64 r)).cell? ⟨w.heap.size,j,none⟩=some v:=fun j v h=>(World.cell?_of_block (a:=⟨w.heap.size,j,none⟩) hb2).trans h;have f0:=ff 0 _ y0;have f1:=ff 1 _ y1;have f2:=ff 2 _ y2;simp[Leaves,settle,results,Tryz.results45,go_sem,q2,f0,f1,f2];exact Below.trans KW.out q3
theorem jgM (a b d:Option Addr) (len cap m c n e:Nat) (nl:List Nod) (pl:List Pd) (bl:List Bd) (w:World) (hn:jo w a len nl) (hp:jy w b m pl) (hb:j9 w d n bl) (hlow:∀n ∈ nl,zP n) :
 Calls Tryz.prog 18 #[.agg #[.slice a len cap,.slice b m c,.slice d n e]] w (Say (.int .i64 (zK ⟨nl,pl,bl⟩)) w):=by
 have hmf:=hmfL (P:=Tryz.prog);obtain⟨Z,hZ⟩:=eX (w.alloc (.cells #[.slice a len cap,.slice b m c,.slice d n e] 26))
 have hkz:Kept w Z:=by rw[←hZ];exact ja _ _
 have HC:=lH (jfu ⟨w.heap.size,0,none⟩ (zK ⟨nl,pl,bl⟩) a b d len cap m c n e Z fun W k=>by
  have cc:=jc w (.slice a len cap) [.slice b m c,.slice d n e] 26 W (by rw[hZ];exact k);exact jg7 a b d len cap m c n e w.heap.size nl pl bl W (hn.kept (hkz.trans k)) (hp.kept (hkz.trans k)) (hb.kept (hkz.trans k)) hlow ⟨cc.at_ 0 _ rfl,cc.at_ 1 _ rfl,cc.at_ 2 _ rfl⟩)
 have Vc:=lH hkz;clear hn hp hb hlow hkz;obtain⟨c9,hc9⟩:=eX (zK ⟨nl,pl,bl⟩)
 rw[hc9] at HC ⊢;clear hc9;go_enter Tryz.func18,Tryz.ntmps18;go_wp2_with fail
 try rw[hZ]
 clear hZ;refine HC.out.mono ?_;rintro e1 w1 ⟨a',b',d',len',cap',m',c',n',f',rfl,k⟩;have KB:=lH (Vc.out.trans k);clear k;go_wp2;go_ret;exact⟨rfl,KB.out.trans (ja _ _)⟩
theorem jlE {v:Value} {s:Clu} {c:Int} {w:World} (h:jC w v s) (hl:∀n ∈ s.nodes,zP n) (hc:zK s=c):Calls Tryz.prog 18 #[v] w (Say (.int .i64 c) w):=by
 subst hc;obtain⟨v1,v2,v3,rfl,⟨a,cap,rfl,_,_,hn⟩,⟨b,cp,rfl,_,_,hp⟩,⟨d,cb,rfl,_,_,hb⟩⟩:=h;exact jgM a b d _ cap _ cp _ cb s.nodes s.pods s.buds w hn hp hb hl
end Go.Proofs.YtibepooajeakfaaGreat
