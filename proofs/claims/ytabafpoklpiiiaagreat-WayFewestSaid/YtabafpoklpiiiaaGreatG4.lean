/- C. -/
import Derived.Test.YtabafpoklpiiiaaGreatG0
import Derived.Test.YtabafpoklpiiiaaGreatG1
import Derived.Test.YtabafpoklpiiiaaGreatG2
import Derived.Test.YtabafpoklpiiiaaGreatG3
set_option linter.unusedVariables false
set_option maxRecDepth 100000
set_option maxHeartbeats 25600000
namespace Go.Proofs.YtabafpoklpiiiaaGreat
open Go.RowKit
def Jp (r:Int×Vec.V) (w:World) (e:Ending) (w':World):Prop:=(r.1=0→∃v,e=.returned v∧Vec.jP 88 w' w.heap.size v r.2)∧(r.1≠0→e=.panicked [jV r.1])∧Kept w w'
theorem Jp.good {r:Int×Vec.V} {m:Vec.V} {v:Value} {w w':World} (h:r=(0,m)) (g:Vec.jP 88 w' w.heap.size v m) (k:Kept w w'):Jp r w (.returned v) w':=by
 subst h;exact⟨fun _=>⟨v,rfl,g⟩,fun h=>absurd rfl h,k⟩
theorem Jp.bad {r:Int×Vec.V} {m:Vec.V} {c:Int} {w w':World} (h:r=(c,m)) (hc:c≠0) (k:Kept w w'):Jp r w (.panicked [jV c]) w':=by
 subst h;exact⟨fun h=>absurd h hc,fun _=>rfl,k⟩
theorem jg1 {v v':Value} {l l':Vec.V} {w:World} (h:Vec.Reads w v l) (h':Vec.Reads w v' l'):Calls Tryz.prog 170 #[v,v'] w (Vec.ZS (Vec.jg Vec.jB l l') w):=by
 obtain⟨a,cap,rfl,h1,h2,hr⟩:=h;obtain⟨a',cap',rfl,h1',h2',hr'⟩:=h';exact Vec.jf9 a a' _ cap _ cap' l l' w hr hr' h1 h2 h1' h2'
def jfQ (o:Option Nod) (w:World) (e:Ending) (w':World):Prop:=(∀n,o=some n→∃v,e=.returned v∧zK w.heap.size w' v n)∧(o=none→e=.panicked [jV 3])∧Kept w w'
theorem qC (a a8 a9:Option Addr) (len cap m8 c8 m9 c9:Nat) (l:List Nod) (x:ByteArray) (w:World) (hr:jt w a len l) (hlow:∀n ∈ l,JL n) :
 Calls Tryz.prog 122 #[.agg #[.slice a len cap,.slice a8 m8 c8,.slice a9 m9 c9],.string x] w (jfQ (jl l x) w):=by
 obtain⟨Z,hZ⟩:=eX ((w.alloc (.cells #[.slice a len cap,.slice a8 m8 c8,.slice a9 m9 c9] 35)).alloc (.cells #[.string ⟨#[]⟩,.slice none 0 0,.slice none 0 0,.slice none 0 0,.bool false] 29))
 have hkz:Kept w Z:=by rw[←hZ];exact ji _ _ _
 have hzs:Z.heap.size=w.heap.size+2:=by rw[←hZ];simp
 have Ur:=lH (show je (w.heap.size+1) [.string ⟨#[]⟩,.slice none 0 0,.slice none 0 0,.slice none 0 0,.bool false] Z by
  have:=jc (w.alloc (.cells #[.slice a len cap,.slice a8 m8 c8,.slice a9 m9 c9] 35)) (.string ⟨#[]⟩) [.slice none 0 0,.slice none 0 0,.slice none 0 0,.bool false] 29 Z (by rw[hZ];exact Kept.refl _);rw[World.size_alloc] at this;exact this)
 have hst:Z.cell? ⟨w.heap.size,0,none⟩=some (.slice a len cap):=(jc w (.slice a len cap) [.slice a8 m8 c8,.slice a9 m9 c9] 35 Z (by rw[←hZ];exact ja _ _)).at_ 0 _ rfl;obtain⟨HF,Vd,Vc⟩:=lH3 (jea a len cap l x Z (hr.kept hkz) hlow) hkz hzs;obtain⟨o,ho⟩:=eX (jl l x)
 rw[ho] at HF ⊢;clear hr hlow hkz hzs ho
 cases o with
 | none =>
  go_enter Tryz.func122,Tryz.ntmps122;go_wp2_with fail
  try rw[hZ]
  clear hZ hst;refine HF.out.mono ?_;rintro e w1 ⟨v,rfl,hn,k1⟩;have KW:=lH (Vd.out.trans k1);obtain⟨b1,n1,d1,b2,n2,d2,b3,n3,d3,rfl,-⟩:=hn;clear k1;go_wp2;exact⟨rfl,(fun n h=>by cases h),(fun _=>rfl),KW.out.trans (ja _ _)⟩
 | some n9 =>
  go_enter Tryz.func122,Tryz.ntmps122;go_wp2_with fail
  try rw[hZ]
  clear hZ hst;refine HF.out.mono ?_;rintro e w1 ⟨v,rfl,hn,k1⟩;obtain⟨HN,Vj,KW⟩:=lH3 hn (Ur.out.kept k1) (Vd.out.trans k1);obtain⟨b1,n1,d1,b2,n2,d2,b3,n3,d3,hv,-⟩:=hn;have hv:v=.agg #[.string n9.name,.slice b1 n1 d1,.slice b2 n2 d2,.slice b3 n3 d3,.bool n9.cordon]:=hv;subst hv;obtain⟨z,hz⟩:=eX (n9.name)
  obtain⟨cd,hcd⟩:=eX (n9.cordon)
  have UT:=lH (show w.heap.size+2≤w1.heap.size by have:=k1.size;rw[Vc.out] at this;exact this);rw[hz,hcd];rw[hz,hcd] at HN;clear k1;have Uk:=lH (Vj.out.kept (ja w1 (.cells #[.string z,.slice b1 n1 d1,.slice b2 n2 d2,.slice b3 n3 d3,.bool cd] 29)));clear Vj;obtain⟨W1,hW1⟩:=eX (w1.alloc (.cells #[.string z,.slice b1 n1 d1,.slice b2 n2 d2,.slice b3 n3 d3,.bool cd] 29))
  rw[hW1] at Uk;have c:=jc w1 (.string z) [.slice b1 n1 d1,.slice b2 n2 d2,.slice b3 n3 d3,.bool cd] 29 W1 (by rw[hW1];exact Kept.refl _);have g0:=c.at_ 0 _ rfl;have g1:=c.at_ 1 _ rfl;have g2:=c.at_ 2 _ rfl;have g3:=c.at_ 3 _ rfl;have g4:=c.at_ 4 _ rfl;have TI:=lH (HN.out.kept (show Kept w1 W1 by rw[←hW1];exact ja _ _));have UE:=lH (KW.out.trans (show Kept w1 W1 by rw[←hW1];exact ja _ _));obtain⟨y0,y1,y2,y3,y4⟩:=Uk.out.at5;have x0:=Uk.out.free 0;have x1:=Uk.out.free 1;have x2:=Uk.out.free 2;have x3:=Uk.out.free 3;have x4:=Uk.out.free 4;have P:=lH (jW (vs:=[.string z,.slice b1 n1 d1,.slice b2 n2 d2,.slice b3 n3 d3,.bool cd]) Uk.out rfl);clear Uk c;go_wp2_with fail
  try rw[hW1]
  clear hW1;go_wp2;obtain⟨WE,hWE⟩:=eX (W1.setCells (w.heap.size+1) 0 [.string z,.slice b1 n1 d1,.slice b2 n2 d2,.slice b3 n3 d3,.bool cd])
  have hWE2:(((((W1.setCell ⟨(w.heap.size+1),0,none⟩ (.string z)).setCell ⟨(w.heap.size+1),1,none⟩ (.slice b1 n1 d1)).setCell ⟨(w.heap.size+1),2,none⟩ (.slice b2 n2 d2)).setCell ⟨(w.heap.size+1),3,none⟩ (.slice b3 n3 d3)).setCell ⟨(w.heap.size+1),4,none⟩ (.bool cd))=WE:=hWE;rw[hWE] at P;try rw[hWE2]
  clear hWE hWE2;obtain⟨PC,hsz,hbl,hkp⟩:=P.out;refine bodyPost_ret (by simp[results,Tryz.results122,go_sem,PC.at_ 0 _ rfl,PC.at_ 1 _ rfl,PC.at_ 2 _ rfl,PC.at_ 3 _ rfl,PC.at_ 4 _ rfl];try rfl) rfl ?_;exact⟨(fun n h=>by cases h;exact⟨_,rfl,(TI.out.far hsz (fun b hb=>hbl b (by have:=Vc.out;omega))).less (by have:=Vc.out;omega)⟩),(fun h=>by cases h),hkp _ _ (by omega) UE.out⟩
theorem XY (a a8 a9 b1 b2 b3:Option Addr) (len cap m8 c8 m9 c9 n1 d1 n2 d2 n3 d3:Nat) (q:ByteArray) (cd:Bool) (l:List Pd) (w:World) (hr:jv w a len l) :
 Calls Tryz.prog 124 #[.agg #[.slice a8 m8 c8,.slice a len cap,.slice a9 m9 c9],.agg #[.string q,.slice b1 n1 d1,.slice b2 n2 d2,.slice b3 n3 d3,.bool cd]] w (Jp (jD q l []) w):=by
 have hl:=hr.1;have hm:=hr.2.1;unfold maxLen at hm;obtain⟨Z,hZ⟩:=eX ((w.alloc (.cells #[.slice a8 m8 c8,.slice a len cap,.slice a9 m9 c9] 35)).alloc (.cells #[.string q,.slice b1 n1 d1,.slice b2 n2 d2,.slice b3 n3 d3,.bool cd] 29))
 have hkz:Kept w Z:=by rw[←hZ];exact ji _ _ _
 have HQ:=lH (show ∀W,Kept Z W→W.cell? ⟨w.heap.size+1,0,none⟩=some (.string q) from fun W k=>by
  have:=jc (w.alloc (.cells #[.slice a8 m8 c8,.slice a len cap,.slice a9 m9 c9] 35)) (.string q) [.slice b1 n1 d1,.slice b2 n2 d2,.slice b3 n3 d3,.bool cd] 29 W (by rw[hZ];exact k);rw[World.size_alloc] at this;exact this.at_ 0 _ rfl)
 have hst:Z.cell? ⟨w.heap.size,1,none⟩=some (.slice a len cap):=(jc w (.slice a8 m8 c8) [.slice a len cap,.slice a9 m9 c9] 35 Z (by rw[←hZ];exact ja _ _)).at_ 1 _ rfl;obtain⟨HR,HL,Vd⟩:=lH3 (hr.kept hkz) hl hkz;by_cases h0:len=0
 · subst h0;have HE:=lH (show jD q l []=(0,[]) by rw[List.eq_nil_of_length_eq_zero hl];rfl);clear hr hl hkz;go_enter Tryz.func124,Tryz.ntmps124;go_wp2;try rw[hZ]
   refine wp_loop_rounds 1 ?_;rw[rounds_succ];go_wp2;go_ret;exact Jp.good HE.out (Vec.jP.nil _ _ _) (by first | exact Vd.out | (rw[hZ];exact Vd.out))
 · obtain⟨b,off,rfl⟩:=hr.form.resolve_left h0;clear hr hl hkz h0;go_enter Tryz.func124,Tryz.ntmps124;go_wp2;try rw[hZ]
   clear hZ hst;go_loopw [5,11] (fun s i wr=>∃k:Nat,k≤len∧i=.int .i64 k∧∃acc:Vec.V,Vec.jP 88 wr w.heap.size s acc∧jD q (l.drop k) acc=jD q l []∧Kept Z wr) (fun _ i _=>len-(intOf i).toNat)
   case atStart=>exact⟨0,Nat.zero_le _,rfl,[],Vec.jP.nil _ _ _,rfl,Kept.refl _⟩
   case round =>
    obtain⟨k,hk,rfl,acc,hv,hrest,hK⟩:=hrel;obtain⟨HS,HV,HK⟩:=lH3 hrest hv hK;by_cases hlt:k<len
    · obtain⟨n,a1,m1,c1,a2,m2,c2,a3,m3,c3,a4,m4,c4,hn,hd,hb,p0,p1,p2,p3,p4,p5,p6,p7,p8,p9,p10,hat⟩:=(HR.out.kept hK).at_ hlt;have HD:=lH hd;have VM:=lH hat;have q0:=HQ.out _ hK;obtain⟨t,ht⟩:=eX (eqS n.node q)
      have ht':(n.node.toList==q.toList)=t:=ht;have HT:=lH ht;have hkk:(k:Int)<(len:Int):=by omega
      have z0:=HQ.out _ (hK.trans (ja wr (.cells #[.string n.name,.string n.owner,.int .i64 n.prio,.slice a1 m1 c1,.slice a2 m2 c2,.slice a3 m3 c3,.slice a4 m4 c4,.string n.key,.int .i64 n.most,.string n.node,.bool n.hold] 41)));clear hrest hK hat hd hn ht hv
      cases t with
      | false =>
       have HX:=lH (show jD q (l.drop (k+1)) acc=jD q l [] by rw[←HS.out,HD.out,jap HT.out]);go_wp2;go_roundw
       case rel=>exact⟨k+1,by omega,by go_num,acc,HV.out.kept (ja _ _),HX.out,HK.out.trans (ja _ _)⟩
       case measure=>simp[intOf];omega
      | true =>
       obtain⟨c,m,hcm⟩:∃c m,Vec.jg Vec.jB acc n.need=(c,m):=⟨_,_,rfl⟩
       obtain⟨Tj,Ug,UF⟩:=lH3 hcm (show w.heap.size≤wr.heap.size from(Vd.out.trans HK.out).size) (fun W (kk:Kept wr W)=>jg1 (HV.out.kept kk).reads (VM.out.need.kept kk));rw[hcm] at UF;clear hcm;by_cases hc:c=0
       · subst hc;have HX:=lH (show jD q (l.drop (k+1)) m=jD q l [] by rw[←HS.out,HD.out,jaY HT.out Tj.out]);go_wp2_with fail
         refine(UF.out _ (ja _ _)).mono ?_;rintro e w1 ⟨x,rfl,r,kk⟩;have RX:=lH (r.base_le (show w.heap.size≤_ by rw[World.size_alloc];have:=Ug.out;omega));have KW:=lH (HK.out.trans ((ja _ _).trans kk));clear r kk;go_wp2_with fail
         refine(jai _ _).mono ?_;rintro e w2 ⟨rfl,rfl⟩;go_wp2;go_roundw
         case rel=>exact⟨k+1,by omega,by go_num,m,RX.out,HX.out,KW.out⟩
         case measure=>simp[intOf];omega
       · have HX:=lH (show jD q l []=(c,[]) by rw[←HS.out,HD.out,jaZ HT.out Tj.out hc]);have HC:=lH hc;clear hc;go_wp2_with fail
         refine(UF.out _ (ja _ _)).mono ?_;rintro e w1 ⟨x,rfl,r,kk⟩;have KW:=lH (HK.out.trans ((ja _ _).trans kk));clear r kk;go_wp2_with fail
         refine(X9 _ _ _ HC.out).mono ?_;rintro e w2 ⟨rfl,rfl⟩;go_wp2;exact⟨rfl,Jp.bad HX.out HC.out (Vd.out.trans KW.out)⟩
    · have HE:=lH (show jD q l []=(0,acc) by rw[←hrest,List.drop_of_length_le (by rw[HL.out];omega)];rfl);clear hrest hK hv;go_wp2;go_ret;exact Jp.good HE.out HV.out (Vd.out.trans HK.out)
theorem jgh {v v':Value} {l l':Vec.V} {w:World} (h:Vec.Reads w v l) (h':Vec.Reads w v' l'):Calls Tryz.prog 221 #[v,v'] w (Vec.ZS (Vec.jg Vec.jO l l') w):=by
 obtain⟨a,cap,rfl,h1,h2,hr⟩:=h;obtain⟨a',cap',rfl,h1',h2',hr'⟩:=h';exact Vec.jf4 a a' _ cap _ cap' l l' w hr hr' h1 h2 h1' h2'
theorem jca (a a8 a9:Option Addr) (len cap m8 c8 m9 c9:Nat) (l:List Nod) (x:ByteArray) (w:World) (hr:jt w a len l) (hlow:∀n ∈ l,JL n) (hf:jl l x=none) :
 Calls Tryz.prog 122 #[.agg #[.slice a len cap,.slice a8 m8 c8,.slice a9 m9 c9],.string x] w fun e w'=>e=.panicked [jV 3]∧Kept w w':=by
 refine(qC a a8 a9 len cap m8 c8 m9 c9 l x w hr hlow).mono ?_;rintro e w' ⟨-,h,k⟩;exact⟨h hf,k⟩
theorem Yw (a a8 a9:Option Addr) (len cap m8 c8 m9 c9:Nat) (l:List Nod) (x:ByteArray) (n:Nod) (w:World) (hr:jt w a len l) (hlow:∀n ∈ l,JL n) (hf:jl l x=some n) :
 Calls Tryz.prog 122 #[.agg #[.slice a len cap,.slice a8 m8 c8,.slice a9 m9 c9],.string x] w fun e w'=>∃b1 n1 d1 b2 n2 d2 b3 n3 d3,e=.returned (.agg #[.string n.name,.slice b1 n1 d1,.slice b2 n2 d2,.slice b3 n3 d3,.bool n.cordon])∧zA w' (.slice b1 n1 d1) (.slice b2 n2 d2) (.slice b3 n3 d3) n∧Kept w w':=by
 refine(qC a a8 a9 len cap m8 c8 m9 c9 l x w hr hlow).mono ?_;rintro e w' ⟨h,-,k⟩;obtain⟨v,rfl,b1,n1,d1,b2,n2,d2,b3,n3,d3,rfl,s0,s1,s2,s3,-⟩:=h n hf;exact⟨b1,n1,d1,b2,n2,d2,b3,n3,d3,rfl,⟨s0,s1,s2,s3⟩,k⟩
theorem Jp.ok {m:Vec.V} {w w':World} {e:Ending} {r:Int×Vec.V} (h:Jp r w e w') (hr:r=(0,m)):∃v,e=.returned v∧Vec.jP 88 w' w.heap.size v m∧Kept w w':=by
 subst hr;obtain⟨v,rfl,g⟩:=h.1 rfl;exact⟨v,rfl,g,h.2.2⟩
theorem Jp.not {m:Vec.V} {c:Int} {w w':World} {e:Ending} {r:Int×Vec.V} (h:Jp r w e w') (hr:r=(c,m)) (hc:c≠0):e=.panicked [jV c]∧Kept w w':=by
 subst hr;exact⟨h.2.1 hc,h.2.2⟩
theorem jbU (C:Addr×Addr) (r:Int×Vec.V) (w:World) (hr:r.1≠0→r.2=[])
 (hk:∀W,Kept w W→Calls Tryz.prog 220 #[.pointer (some C.1),.pointer (some C.2)] W (Jp r W)) :
 Calls Tryz.prog 205 #[.func (.func 220) #[] #[.pointer (some C.1),.pointer (some C.2)]] w (Vec.ZS r w):=by
 have hmf:=hmfL (P:=Tryz.prog);have HK:=lH hk;have HR:=lH hr;clear hk hr;obtain⟨r1,r2⟩:=r;go_enter_defers Tryz.func205,Tryz.ntmps205
 go_wp2_with fail
 refine(HK.out _ (ja _ _)).mono ?_;rintro e1 w1 ⟨h0,h1,hb⟩;have k1:=hb.size;simp only[World.size_alloc] at k1;have c2:=(hb.cell (p:=⟨w.heap.size,0,none⟩) (by simp))
 have z2:=(hb.frozen (p:=⟨w.heap.size,0,none⟩) (by simp))
 have e2':w1.cell? ⟨w.heap.size,0,none⟩=some (.int .i64 0):=by rw[c2];go_simp
 have y2:w1.frozen? ⟨w.heap.size,0,none⟩=false:=by rw[z2];go_simp
 clear c2 z2;have KB:=lH (show Below w.heap.size w w1 from(ja w _).trans hb);by_cases hx:r1=0
 · subst hx;obtain⟨v,rfl,ho⟩:=h0 rfl;have HO:=lH ho;obtain⟨av,cv,rfl,_,_,_⟩:=ho.at_;have hsz:=World.size_alloc w (.cells #[.int .i64 0] 53);clear h0 h1 hb ho;go_wp2_with fail
   refine leaves_cons (f:=231) (args:=#[.pointer (some ⟨w.heap.size,0,none⟩)]) (by simp) (by simp[go_sem]) ?_;refine(Vec.Yr ⟨w.heap.size,0,none⟩ _).mono ?_;rintro e u' w'' ⟨rfl,rfl,rfl⟩;simp[Leaves,settle,results,Tryz.results205,go_sem,e2'];exact⟨_,rfl,(HO.out.setCell_below (a:=⟨w.heap.size,0,none⟩) (by simp) _).base_le (by simp),KB.out.setCell (p:=⟨w.heap.size,0,none⟩) (Nat.le_refl _) _⟩
 · obtain rfl:=h1 hx;obtain rfl:=HR.out hx;clear h0 h1 hb;go_wp2_with fail
   refine leaves_cons (f:=231) (args:=#[.pointer (some ⟨w.heap.size,0,none⟩)]) (by simp) (by simp[go_sem]) ?_;refine(Vec.J6 w.heap.size w.heap.size r1 0 _ e2' y2 (by omega)).mono ?_;rintro e u' w'' ⟨rfl,rfl,q2,q3⟩;simp[Leaves,settle,results,Tryz.results205,go_sem,q2];exact⟨_,rfl,Vec.jP.nil _ _ _,KB.out.trans q3⟩
def Ju (nl:List Nod) (pl:List Pd) (x:ByteArray):Int×Vec.V:=match jl nl x with | none=>(3,[]) | some n=>if (jD n.name pl []).1=0 then Vec.jg Vec.jO n.cap (jD n.name pl []).2 else ((jD n.name pl []).1,[])
theorem jdd {nl:List Nod} {pl:List Pd} {x:ByteArray} (h:jl nl x=none):Ju nl pl x=(3,[]):=by unfold Ju;rw[h]
theorem jd6 {nl:List Nod} {pl:List Pd} {x:ByteArray} {n:Nod} {c:Int} {m:Vec.V} (h:jl nl x=some n) (g:jD n.name pl []=(c,m)) (hc:c≠0):Ju nl pl x=(c,[]):=by unfold Ju;rw[h];show (if (jD n.name pl []).1=0 then _ else ((jD n.name pl []).1,[]))=_;rw[g,if_neg hc]
theorem jeQ {nl:List Nod} {pl:List Pd} {x:ByteArray} {n:Nod} {m:Vec.V} (h:jl nl x=some n) (g:jD n.name pl []=(0,m)):Ju nl pl x=Vec.jg Vec.jO n.cap m:=by unfold Ju;rw[h];show (if (jD n.name pl []).1=0 then Vec.jg Vec.jO n.cap (jD n.name pl []).2 else _)=_;rw[g,if_pos rfl]
theorem jde {nl:List Nod} {pl:List Pd} {x:ByteArray}:(Ju nl pl x).1≠0→(Ju nl pl x).2=[]:=by
 unfold Ju;split
 · exact fun _=>rfl
 · split
   · exact Vec.Yf _ _
   · exact fun _=>rfl
theorem jdn (a b d:Option Addr) (len cap m c n e:Nat) (nl:List Nod) (pl:List Pd) (p q:Nat) (x:ByteArray) (w:World) (h0:w.cell? ⟨p,0,none⟩=some (.slice a len cap)) (h1:w.cell? ⟨p,1,none⟩=some (.slice b m c)) (h2:w.cell? ⟨p,2,none⟩=some (.slice d n e)) (hq:w.cell? ⟨q,0,none⟩=some (.string x)) (hn:jt w a len nl) (hp:jv w b m pl) (hlow:∀n ∈ nl,JL n) :
 Calls Tryz.prog 220 #[.pointer (some ⟨p,0,none⟩),.pointer (some ⟨q,0,none⟩)] w (Jp (Ju nl pl x) w):=by
 obtain⟨HS,HN,HP,Vq⟩:=lH4 (show ∀W,Kept w W→W.cell? ⟨p,0,none⟩=some (.slice a len cap)∧W.cell? ⟨p,1,none⟩=some (.slice b m c)∧W.cell? ⟨p,2,none⟩=some (.slice d n e) from fun W k=>⟨cell_later k h0,cell_later k h1,cell_later k h2⟩) hn hp hlow;clear hn hp hlow
 cases hf:jl nl x with
 | none =>
  have HE:=lH (jdd (pl:=pl) hf);have HF:=lH hf;clear hf;go_enter Tryz.func220,Tryz.ntmps220;go_wp2_with fail
  refine(jca a b d len cap m c n e nl x _ HN.out Vq.out HF.out).mono ?_;rintro e1 w1 ⟨rfl,kk⟩;go_wp2;exact⟨rfl,Jp.bad HE.out (by decide) kk⟩
 | some n9 =>
  obtain⟨c9,m9,hu⟩:∃c m,jD n9.name pl []=(c,m):=⟨_,_,rfl⟩
  have HU:=lH hu;have HF:=lH hf;clear hf hu;by_cases hc:c9=0
  · subst hc;obtain⟨c8,m8,hs⟩:∃c m,Vec.jg Vec.jO n9.cap m9=(c,m):=⟨_,_,rfl⟩
    have HM:=lH hs;have HE:=lH (show Ju nl pl x=(c8,m8) from(jeQ HF.out HU.out).trans hs);clear hs;by_cases hc:c8=0
    · subst hc;go_enter Tryz.func220,Tryz.ntmps220;go_wp2_with fail
      refine(Yw a b d len cap m c n e nl x n9 _ HN.out Vq.out HF.out).mono ?_;rintro e1 w1 ⟨b1,n1,d1,b2,n2,d2,b3,n3,d3,rfl,hat,kk⟩;have HA:=lH hat;obtain⟨z0,hz0⟩:=eX (n9.name)
      obtain⟨z4,hz4⟩:=eX (n9.cordon)
      rw[hz0,hz4];rw[hz0] at HU;obtain⟨W1,hW1⟩:=eX (w1.alloc (.cells #[.string z0,.slice b1 n1 d1,.slice b2 n2 d2,.slice b3 n3 d3,.bool z4] 29))
      have hk1:Kept w1 W1:=by rw[←hW1];exact ja _ _
      obtain⟨HB,J0,TJ⟩:=lH3 (fun W (k:Kept W1 W)=>jc w1 (.string z0) [.slice b1 n1 d1,.slice b2 n2 d2,.slice b3 n3 d3,.bool z4] 29 W (by rw[hW1];exact k)) (kk.trans hk1) (fun W (k:Kept W1 W)=>HA.out.kept (hk1.trans k));clear kk hat hk1 h0 h1 h2;go_wp2_with fail
      try rw[hW1]
      clear hW1;have HT:=lH (show ∀W,Kept W1 W→W.cell? ⟨p,0,none⟩=some (.slice a len cap)∧W.cell? ⟨p,1,none⟩=some (.slice b m c)∧W.cell? ⟨p,2,none⟩=some (.slice d n e)∧W.cell? ⟨w1.heap.size,0,none⟩=some (.string z0)∧W.cell? ⟨w1.heap.size,1,none⟩=some (.slice b1 n1 d1)∧W.cell? ⟨w1.heap.size,2,none⟩=some (.slice b2 n2 d2)∧W.cell? ⟨w1.heap.size,3,none⟩=some (.slice b3 n3 d3)∧W.cell? ⟨w1.heap.size,4,none⟩=some (.bool z4) from fun W k=>by
       obtain⟨o0,o1,o2⟩:=HS.out W (J0.out.trans k);have c:=HB.out W k;exact⟨o0,o1,o2,c.at_ 0 _ rfl,c.at_ 1 _ rfl,c.at_ 2 _ rfl,c.at_ 3 _ rfl,c.at_ 4 _ rfl⟩)
      refine wp_region_held_drew (S:=fun W=>W.cell? ⟨p,0,none⟩=some (.slice a len cap)∧W.cell? ⟨p,1,none⟩=some (.slice b m c)∧W.cell? ⟨p,2,none⟩=some (.slice d n e)∧W.cell? ⟨w1.heap.size,0,none⟩=some (.string z0)∧W.cell? ⟨w1.heap.size,1,none⟩=some (.slice b1 n1 d1)∧W.cell? ⟨w1.heap.size,2,none⟩=some (.slice b2 n2 d2)∧W.cell? ⟨w1.heap.size,3,none⟩=some (.slice b3 n3 d3)∧W.cell? ⟨w1.heap.size,4,none⟩=some (.bool z4)) (by kernel_rfl) (HT.out _ (Kept.drew _)) (fun hHeld=>?_);refine tR 0 rfl (by kernel_rfl) (fun _ _ _=>id) (Or.inl ⟨by rfl,by rintro W ⟨o0,o1,o2,o3,o4,o5,o6,o7⟩;go_simp<;>with_reducible rfl⟩) ‹_› ?_;refine tR 1 rfl (by kernel_rfl) (fun _ _ _=>id) (Or.inl ⟨by rfl,by rintro W ⟨o0,o1,o2,o3,o4,o5,o6,o7⟩;go_simp<;>with_reducible rfl⟩) ‹_› ?_;refine tR 2 rfl (by kernel_rfl) (fun _ _ _=>id) (Or.inl ⟨by rfl,by rintro W ⟨o0,o1,o2,o3,o4,o5,o6,o7⟩;go_simp<;>with_reducible rfl⟩) ‹_› ?_;refine tR 3 rfl (by kernel_rfl) (fun _ _ _=>id) (Or.inl ⟨by rfl,by rintro W ⟨o0,o1,o2,o3,o4,o5,o6,o7⟩;go_simp<;>with_reducible rfl⟩) ‹_› ?_;try simp only[nA,nB,nC,nD,nE]
      refine rd1 4 fun K9 Ky=>?_;go_simp;refine((XY b a d b1 b2 b3 m c len cap n e n1 d1 n2 d2 n3 d3 z0 z4 pl _ (HP.out.kept (J0.out.trans (Kept.drew _)))).mono fun _ _ h=>h.ok HU.out).mono ?_;rintro e2 w2 ⟨v,rfl,ho,kk⟩;have J2:=lH ((Kept.drew _).trans kk);have HO:=lH ho;clear kk ho;refine Ky.out _ _ (HT.out _ J2.out) (fun _=>?_);clear Ky K9;try simp only[nA,nB,nC,nD,nE]
      refine rd1 5 fun K9 Ky=>?_;go_simp;have Vh:=jgh (TJ.out _ J2.out).cap HO.out.reads;rw[HM.out] at Vh;refine Vh.mono ?_;rintro e3 w3 ⟨x3,rfl,ho3,kk⟩;have J3:=lH (J2.out.trans kk);have RL:=lH (ho3.base_le (show w.heap.size≤_ from(J0.out.trans J2.out).size));clear kk ho3;refine Ky.out _ _ (HT.out _ J3.out) (fun _=>?_);clear Ky K9;try simp only[nA,nB,nC,nD,nE]
      refine tR 6 rfl (by kernel_rfl) (fun _ _ _=>id) (Or.inl ⟨by rfl,by rintro W ⟨o0,o1,o2,o3,o4,o5,o6,o7⟩;go_simp<;>with_reducible rfl⟩) ‹_› ?_;refine tR 7 rfl (by kernel_rfl) (fun _ _ _=>id) (Or.inl ⟨by rfl,by rintro W ⟨o0,o1,o2,o3,o4,o5,o6,o7⟩;go_simp<;>with_reducible rfl⟩) ‹_› ?_;try simp only[nA,nB,nC,nD,nE]
      refine rd1 8 fun K9 Ky=>?_;go_simp;refine(jai _ _).mono ?_;rintro e4 w4 ⟨rfl,rfl⟩;refine Ky.out _ _ (HT.out _ J3.out) (fun _=>?_);clear Ky K9;try simp only[nA,nB,nC,nD,nE]
      refine tR 9 rfl (by kernel_rfl) (fun _ _ _=>id) (Or.inl ⟨by rfl,by rintro W ⟨o0,o1,o2,o3,o4,o5,o6,o7⟩;go_simp<;>with_reducible rfl⟩) ‹_› ?_;try simp only[nA,nB,nC,nD,nE]
      refine wpAnyH_done (by kernel_rfl) ?_ _;go_wp2;go_ret;exact Jp.good HE.out RL.out (J0.out.trans J3.out)
    · have HC:=lH hc;clear hc;go_enter Tryz.func220,Tryz.ntmps220;go_wp2_with fail
      refine(Yw a b d len cap m c n e nl x n9 _ HN.out Vq.out HF.out).mono ?_;rintro e1 w1 ⟨b1,n1,d1,b2,n2,d2,b3,n3,d3,rfl,hat,kk⟩;have HA:=lH hat;obtain⟨z0,hz0⟩:=eX (n9.name)
      obtain⟨z4,hz4⟩:=eX (n9.cordon)
      rw[hz0,hz4];rw[hz0] at HU;obtain⟨W1,hW1⟩:=eX (w1.alloc (.cells #[.string z0,.slice b1 n1 d1,.slice b2 n2 d2,.slice b3 n3 d3,.bool z4] 29))
      have hk1:Kept w1 W1:=by rw[←hW1];exact ja _ _
      obtain⟨HB,J0,TJ⟩:=lH3 (fun W (k:Kept W1 W)=>jc w1 (.string z0) [.slice b1 n1 d1,.slice b2 n2 d2,.slice b3 n3 d3,.bool z4] 29 W (by rw[hW1];exact k)) (kk.trans hk1) (fun W (k:Kept W1 W)=>HA.out.kept (hk1.trans k));clear kk hat hk1 h0 h1 h2;go_wp2_with fail
      try rw[hW1]
      clear hW1;have HT:=lH (show ∀W,Kept W1 W→W.cell? ⟨p,0,none⟩=some (.slice a len cap)∧W.cell? ⟨p,1,none⟩=some (.slice b m c)∧W.cell? ⟨p,2,none⟩=some (.slice d n e)∧W.cell? ⟨w1.heap.size,0,none⟩=some (.string z0)∧W.cell? ⟨w1.heap.size,1,none⟩=some (.slice b1 n1 d1)∧W.cell? ⟨w1.heap.size,2,none⟩=some (.slice b2 n2 d2)∧W.cell? ⟨w1.heap.size,3,none⟩=some (.slice b3 n3 d3)∧W.cell? ⟨w1.heap.size,4,none⟩=some (.bool z4) from fun W k=>by
       obtain⟨o0,o1,o2⟩:=HS.out W (J0.out.trans k);have c:=HB.out W k;exact⟨o0,o1,o2,c.at_ 0 _ rfl,c.at_ 1 _ rfl,c.at_ 2 _ rfl,c.at_ 3 _ rfl,c.at_ 4 _ rfl⟩)
      refine wp_region_held_drew (S:=fun W=>W.cell? ⟨p,0,none⟩=some (.slice a len cap)∧W.cell? ⟨p,1,none⟩=some (.slice b m c)∧W.cell? ⟨p,2,none⟩=some (.slice d n e)∧W.cell? ⟨w1.heap.size,0,none⟩=some (.string z0)∧W.cell? ⟨w1.heap.size,1,none⟩=some (.slice b1 n1 d1)∧W.cell? ⟨w1.heap.size,2,none⟩=some (.slice b2 n2 d2)∧W.cell? ⟨w1.heap.size,3,none⟩=some (.slice b3 n3 d3)∧W.cell? ⟨w1.heap.size,4,none⟩=some (.bool z4)) (by kernel_rfl) (HT.out _ (Kept.drew _)) (fun hHeld=>?_);refine tR 0 rfl (by kernel_rfl) (fun _ _ _=>id) (Or.inl ⟨by rfl,by rintro W ⟨o0,o1,o2,o3,o4,o5,o6,o7⟩;go_simp<;>with_reducible rfl⟩) ‹_› ?_;refine tR 1 rfl (by kernel_rfl) (fun _ _ _=>id) (Or.inl ⟨by rfl,by rintro W ⟨o0,o1,o2,o3,o4,o5,o6,o7⟩;go_simp<;>with_reducible rfl⟩) ‹_› ?_;refine tR 2 rfl (by kernel_rfl) (fun _ _ _=>id) (Or.inl ⟨by rfl,by rintro W ⟨o0,o1,o2,o3,o4,o5,o6,o7⟩;go_simp<;>with_reducible rfl⟩) ‹_› ?_;refine tR 3 rfl (by kernel_rfl) (fun _ _ _=>id) (Or.inl ⟨by rfl,by rintro W ⟨o0,o1,o2,o3,o4,o5,o6,o7⟩;go_simp<;>with_reducible rfl⟩) ‹_› ?_;try simp only[nA,nB,nC,nD,nE]
      refine rd1 4 fun K9 Ky=>?_;go_simp;refine((XY b a d b1 b2 b3 m c len cap n e n1 d1 n2 d2 n3 d3 z0 z4 pl _ (HP.out.kept (J0.out.trans (Kept.drew _)))).mono fun _ _ h=>h.ok HU.out).mono ?_;rintro e2 w2 ⟨v,rfl,ho,kk⟩;have J2:=lH ((Kept.drew _).trans kk);have HO:=lH ho;clear kk ho;refine Ky.out _ _ (HT.out _ J2.out) (fun _=>?_);clear Ky K9;try simp only[nA,nB,nC,nD,nE]
      refine rd1 5 fun K9 Ky=>?_;go_simp;have Vh:=jgh (TJ.out _ J2.out).cap HO.out.reads;rw[HM.out] at Vh;refine Vh.mono ?_;rintro e3 w3 ⟨x3,rfl,ho3,kk⟩;have J3:=lH (J2.out.trans kk);have RL:=lH (ho3.base_le (show w.heap.size≤_ from(J0.out.trans J2.out).size));clear kk ho3;refine Ky.out _ _ (HT.out _ J3.out) (fun _=>?_);clear Ky K9;try simp only[nA,nB,nC,nD,nE]
      refine tR 6 rfl (by kernel_rfl) (fun _ _ _=>id) (Or.inl ⟨by rfl,by rintro W ⟨o0,o1,o2,o3,o4,o5,o6,o7⟩;go_simp<;>with_reducible rfl⟩) ‹_› ?_;refine tR 7 rfl (by kernel_rfl) (fun _ _ _=>id) (Or.inl ⟨by rfl,by rintro W ⟨o0,o1,o2,o3,o4,o5,o6,o7⟩;go_simp<;>with_reducible rfl⟩) ‹_› ?_;try simp only[nA,nB,nC,nD,nE]
      refine rd1 8 fun K9 Ky=>?_;go_simp;refine(X9 _ _ _ HC.out).mono ?_;rintro e4 w4 ⟨rfl,rfl⟩;exact⟨rfl,Jp.bad HE.out HC.out (J0.out.trans J3.out)⟩
  · have HE:=lH (jd6 (pl:=pl) HF.out HU.out hc);have HC:=lH hc;clear hc;go_enter Tryz.func220,Tryz.ntmps220;go_wp2_with fail
    refine(Yw a b d len cap m c n e nl x n9 _ HN.out Vq.out HF.out).mono ?_;rintro e1 w1 ⟨b1,n1,d1,b2,n2,d2,b3,n3,d3,rfl,hat,kk⟩;have HA:=lH hat;obtain⟨z0,hz0⟩:=eX (n9.name)
    obtain⟨z4,hz4⟩:=eX (n9.cordon)
    rw[hz0,hz4];rw[hz0] at HU;obtain⟨W1,hW1⟩:=eX (w1.alloc (.cells #[.string z0,.slice b1 n1 d1,.slice b2 n2 d2,.slice b3 n3 d3,.bool z4] 29))
    have hk1:Kept w1 W1:=by rw[←hW1];exact ja _ _
    obtain⟨HB,J0,TJ⟩:=lH3 (fun W (k:Kept W1 W)=>jc w1 (.string z0) [.slice b1 n1 d1,.slice b2 n2 d2,.slice b3 n3 d3,.bool z4] 29 W (by rw[hW1];exact k)) (kk.trans hk1) (fun W (k:Kept W1 W)=>HA.out.kept (hk1.trans k));clear kk hat hk1 h0 h1 h2;go_wp2_with fail
    try rw[hW1]
    clear hW1;have HT:=lH (show ∀W,Kept W1 W→W.cell? ⟨p,0,none⟩=some (.slice a len cap)∧W.cell? ⟨p,1,none⟩=some (.slice b m c)∧W.cell? ⟨p,2,none⟩=some (.slice d n e)∧W.cell? ⟨w1.heap.size,0,none⟩=some (.string z0)∧W.cell? ⟨w1.heap.size,1,none⟩=some (.slice b1 n1 d1)∧W.cell? ⟨w1.heap.size,2,none⟩=some (.slice b2 n2 d2)∧W.cell? ⟨w1.heap.size,3,none⟩=some (.slice b3 n3 d3)∧W.cell? ⟨w1.heap.size,4,none⟩=some (.bool z4) from fun W k=>by
     obtain⟨o0,o1,o2⟩:=HS.out W (J0.out.trans k);have c:=HB.out W k;exact⟨o0,o1,o2,c.at_ 0 _ rfl,c.at_ 1 _ rfl,c.at_ 2 _ rfl,c.at_ 3 _ rfl,c.at_ 4 _ rfl⟩)
    refine wp_region_held_drew (S:=fun W=>W.cell? ⟨p,0,none⟩=some (.slice a len cap)∧W.cell? ⟨p,1,none⟩=some (.slice b m c)∧W.cell? ⟨p,2,none⟩=some (.slice d n e)∧W.cell? ⟨w1.heap.size,0,none⟩=some (.string z0)∧W.cell? ⟨w1.heap.size,1,none⟩=some (.slice b1 n1 d1)∧W.cell? ⟨w1.heap.size,2,none⟩=some (.slice b2 n2 d2)∧W.cell? ⟨w1.heap.size,3,none⟩=some (.slice b3 n3 d3)∧W.cell? ⟨w1.heap.size,4,none⟩=some (.bool z4)) (by kernel_rfl) (HT.out _ (Kept.drew _)) (fun hHeld=>?_);refine tR 0 rfl (by kernel_rfl) (fun _ _ _=>id) (Or.inl ⟨by rfl,by rintro W ⟨o0,o1,o2,o3,o4,o5,o6,o7⟩;go_simp<;>with_reducible rfl⟩) ‹_› ?_;refine tR 1 rfl (by kernel_rfl) (fun _ _ _=>id) (Or.inl ⟨by rfl,by rintro W ⟨o0,o1,o2,o3,o4,o5,o6,o7⟩;go_simp<;>with_reducible rfl⟩) ‹_› ?_;refine tR 2 rfl (by kernel_rfl) (fun _ _ _=>id) (Or.inl ⟨by rfl,by rintro W ⟨o0,o1,o2,o3,o4,o5,o6,o7⟩;go_simp<;>with_reducible rfl⟩) ‹_› ?_;refine tR 3 rfl (by kernel_rfl) (fun _ _ _=>id) (Or.inl ⟨by rfl,by rintro W ⟨o0,o1,o2,o3,o4,o5,o6,o7⟩;go_simp<;>with_reducible rfl⟩) ‹_› ?_;try simp only[nA,nB,nC,nD,nE]
    refine rd1 4 fun K9 Ky=>?_;go_simp;refine((XY b a d b1 b2 b3 m c len cap n e n1 d1 n2 d2 n3 d3 z0 z4 pl _ (HP.out.kept (J0.out.trans (Kept.drew _)))).mono fun _ _ h=>h.not HU.out HC.out).mono ?_;rintro e2 w2 ⟨rfl,kk⟩;exact⟨rfl,Jp.bad HE.out HC.out (J0.out.trans ((Kept.drew _).trans kk))⟩
theorem jd7 (a b d:Option Addr) (len cap m c n e:Nat) (nl:List Nod) (pl:List Pd) (x:ByteArray) (w:World) (hn:jt w a len nl) (hp:jv w b m pl) (hlow:∀n ∈ nl,JL n) :
 Calls Tryz.prog 190 #[.agg #[.slice a len cap,.slice b m c,.slice d n e],.string x] w (Vec.ZS (Ju nl pl x) w):=by
 have hmf:=hmfL (P:=Tryz.prog);obtain⟨Z,hZ⟩:=eX ((w.alloc (.cells #[.slice a len cap,.slice b m c,.slice d n e] 35)).alloc (.cells #[.string x] 9))
 have hkz:Kept w Z:=by rw[←hZ];exact ji _ _ _
 have hC:∀W,Kept Z W→Calls Tryz.prog 220 #[.pointer (some ⟨w.heap.size,0,none⟩),.pointer (some ⟨w.heap.size+1,0,none⟩)] W (Jp (Ju nl pl x) W):=by
  intro W k;have cc:=jc w (.slice a len cap) [.slice b m c,.slice d n e] 35 W (by have:=(ja (w.alloc (.cells #[.slice a len cap,.slice b m c,.slice d n e] 35)) (.cells #[.string x] 9));rw[hZ] at this;exact this.trans k);have dd:=jc (w.alloc (.cells #[.slice a len cap,.slice b m c,.slice d n e] 35)) (.string x) [] 9 W (by rw[hZ];exact k);rw[World.size_alloc] at dd;exact jdn a b d len cap m c n e nl pl w.heap.size (w.heap.size+1) x W (cc.at_ 0 _ rfl) (cc.at_ 1 _ rfl) (cc.at_ 2 _ rfl) (dd.at_ 0 _ rfl) (hn.kept (hkz.trans k)) (hp.kept (hkz.trans k)) hlow
 have HC:=lH hC;have Vd:=lH hkz;clear hC hn hkz hp hlow;go_enter Tryz.func190,Tryz.ntmps190;go_wp2_with fail
 try rw[hZ]
 refine(jbU (⟨w.heap.size,0,none⟩,⟨w.heap.size+1,0,none⟩) (Ju nl pl x) _ jde HC.out).mono ?_;rintro e1 w1 ⟨v,rfl,ho,k⟩;have HO:=lH ho;have HK:=lH k;clear ho k;go_wp2;go_ret2
 exact⟨v,rfl,HO.out.base_le Vd.out.size,Vd.out.trans HK.out⟩
def jdF (c:Int) (v:Value) (w:World) (e:Ending) (w':World):Prop:=(c=0→e=.returned v)∧(c≠0→e=.panicked [jV c])∧Kept w w'
theorem jdF.bad {x c:Int} {v:Value} {w w':World} (h:x=c) (hc:c≠0) (k:Kept w w'):jdF x v w (.panicked [jV c]) w':=by
 subst h;exact⟨fun h=>absurd h hc,fun _=>rfl,k⟩
theorem jfF {nl:List Nod} {pl:List Pd} {bl:List Bd} {c:Int} (h:or3 (zx nl) (zw pl) (Ja bl)=c) (hc:c≠0):JS ⟨nl,pl,bl⟩=c:=by
 unfold JS;dsimp only;rw[h,if_pos hc]
theorem jew {nl:List Nod} {pl:List Pd} {bl:List Bd} {c:Int} (h:or3 (zx nl) (zw pl) (Ja bl)=0) (g:jU nl pl=c) (hc:c≠0):JS ⟨nl,pl,bl⟩=c:=by
 unfold JS;dsimp only;rw[h,if_neg (by simp),g,if_pos hc]
theorem jeL {nl:List Nod} {pl:List Pd} {bl:List Bd} {c:Int} (h:or3 (zx nl) (zw pl) (Ja bl)=0) (g:jU nl pl=0) (r:jY pl nl=c) (hc:c≠0):JS ⟨nl,pl,bl⟩=c:=by
 unfold JS;dsimp only;rw[h,if_neg (by simp),g,if_neg (by simp),r,if_pos hc]
theorem jbA {nl:List Nod} {pl:List Pd} {bl:List Bd} (h:or3 (zx nl) (zw pl) (Ja bl)=0) (g:jU nl pl=0) (r:jY pl nl=0):JS ⟨nl,pl,bl⟩=(ja4 nl []).1:=by
 unfold JS;dsimp only;rw[h,if_neg (by simp),g,if_neg (by simp),r,if_neg (by simp)]
theorem Ji (n:Pd) (v1 v2 v3 v4:Value) (w:World) (h:jq w v1 v2 v3 v4 n) (hl:ZG n) :
 Calls Tryz.prog 36 #[jo n v1 v2 v3 v4] w fun e w'=>∃v,e=.returned v∧JP w.heap.size w' v n∧Kept w w':=by
 have HH:=lH h;have E1:=lH (show ∀W,Kept w W→Calls Tryz.prog 87 #[v1] W fun e w'=>∃a' m' c',e=.returned (.slice a' m' c')∧Vec.Reads w' (.slice a' m' c') n.need∧(∀b off sp,a'=some ⟨b,off,sp⟩→W.heap.size≤b)∧Kept W w' from fun W k=>by
  obtain⟨x,y,rfl,p,q,r⟩:=h.need;exact YN x _ y n.need W (r.kept k) p q hl.need)
 have E2:=lH (show ∀W,Kept w W→Calls Tryz.prog 88 #[v2] W fun e w'=>∃a' m' c',e=.returned (.slice a' m' c')∧Reads zc w' (.slice a' m' c') n.labels∧(∀b off sp,a'=some ⟨b,off,sp⟩→W.heap.size≤b)∧Kept W w' from fun W k=>by
  obtain⟨x,y,rfl,p,q,r⟩:=h.labels;exact YS x _ y n.labels W (r.kept k) p q hl.labels)
 have E3:=lH (show ∀W,Kept w W→Calls Tryz.prog 89 #[v3] W fun e w'=>∃a' m' c',e=.returned (.slice a' m' c')∧Reads zT w' (.slice a' m' c') n.sel∧(∀b off sp,a'=some ⟨b,off,sp⟩→W.heap.size≤b)∧Kept W w' from fun W k=>by
  obtain⟨x,y,rfl,p,q,r⟩:=h.sel;exact qx x _ y n.sel W (r.kept k) p q hl.sel)
 have E4:=lH (show ∀W,Kept w W→Calls Tryz.prog 90 #[v4] W fun e w'=>∃a' m' c',e=.returned (.slice a' m' c')∧Reads zr w' (.slice a' m' c') n.tols∧(∀b off sp,a'=some ⟨b,off,sp⟩→W.heap.size≤b)∧Kept W w' from fun W k=>by
  obtain⟨x,y,rfl,p,q,r⟩:=h.tols;exact jcI x _ y n.tols W (r.kept k) p q hl.tols)
 obtain⟨x0,hx0⟩:=eX (n.name)
 obtain⟨x1,hx1⟩:=eX (n.owner)
 obtain⟨x2,hx2⟩:=eX (n.prio)
 obtain⟨x3,hx3⟩:=eX (n.key)
 obtain⟨x4,hx4⟩:=eX (n.most)
 obtain⟨x5,hx5⟩:=eX (n.node)
 obtain⟨x6,hx6⟩:=eX (n.hold)
 unfold jo;rw[hx0,hx1,hx2,hx3,hx4,hx5,hx6];have T4:=lH (And.intro hx0 (And.intro hx1 (And.intro hx2 (And.intro hx3 (And.intro hx4 (And.intro hx5 hx6))))));clear h hl hx0 hx1 hx2 hx3 hx4 hx5 hx6;obtain⟨Z,hZ⟩:=eX ((w.alloc (.cells #[.string x0,.string x1,.int .i64 x2,v1,v2,v3,v4,.string x3,.int .i64 x4,.string x5,.bool x6] 41)).alloc (.cells #[.string ⟨#[]⟩,.string ⟨#[]⟩,.int .i64 0,.slice none 0 0,.slice none 0 0,.slice none 0 0,.slice none 0 0,.string ⟨#[]⟩,.int .i64 0,.string ⟨#[]⟩,.bool false] 41))
 have hkz:Kept w Z:=by rw[←hZ];exact ji _ _ _
 have hzs:Z.heap.size=w.heap.size+2:=by rw[←hZ];simp
 have Q0:=lH (show je w.heap.size [.string x0,.string x1,.int .i64 x2,v1,v2,v3,v4,.string x3,.int .i64 x4,.string x5,.bool x6] Z from jc w (.string x0) [.string x1,.int .i64 x2,v1,v2,v3,v4,.string x3,.int .i64 x4,.string x5,.bool x6] 41 Z (by rw[←hZ];exact ja _ _));have Q1:=lH (show je (w.heap.size+1) [.string ⟨#[]⟩,.string ⟨#[]⟩,.int .i64 0,.slice none 0 0,.slice none 0 0,.slice none 0 0,.slice none 0 0,.string ⟨#[]⟩,.int .i64 0,.string ⟨#[]⟩,.bool false] Z by
  have:=jc (w.alloc (.cells #[.string x0,.string x1,.int .i64 x2,v1,v2,v3,v4,.string x3,.int .i64 x4,.string x5,.bool x6] 41)) (.string ⟨#[]⟩) [.string ⟨#[]⟩,.int .i64 0,.slice none 0 0,.slice none 0 0,.slice none 0 0,.slice none 0 0,.string ⟨#[]⟩,.int .i64 0,.string ⟨#[]⟩,.bool false] 41 Z (by rw[hZ];exact Kept.refl _);rw[World.size_alloc] at this;exact this)
 have K:=lH hkz;have HZ:=lH (show w.heap.size+2≤Z.heap.size by omega);clear hkz hzs;go_enter Tryz.func36,Tryz.ntmps36;have y:=Q0.out.at_ 3 _ rfl;go_wp2_with fail
 try rw[hZ]
 clear hZ;clear y;refine(E1.out _ K.out).mono ?_;rintro e w1 ⟨b1,n1,d1,rfl,rr,gg,k⟩;obtain⟨G1,R1,K,HZ,Q0,Q1⟩:=lH6 (show jz (w.heap.size+2) b1 from fun b o s e=>Nat.le_trans HZ.out (gg b o s e)) rr (K.out.trans k) (Nat.le_trans HZ.out k.size) (Q0.out.kept k) (Q1.out.kept k);clear rr gg k;have y:=Q0.out.at_ 3 _ rfl;have x:=Q0.out.free 3;obtain⟨Q0,Q1,R1,K,HZ⟩:=lH5 (show je w.heap.size [.string x0,.string x1,.int .i64 x2,.slice b1 n1 d1,v2,v3,v4,.string x3,.int .i64 x4,.string x5,.bool x6] (w1.setCell ⟨w.heap.size,3,none⟩ (.slice b1 n1 d1)) from Q0.out.set (j:=3) (by simp)) (Q1.out.other (p:=w.heap.size) (j:=3) (u:=.slice b1 n1 d1) (by omega)) (zY (p:=w.heap.size) (j:=3) (u:=.slice b1 n1 d1) R1.out G1.out (by omega)) (show Kept w (w1.setCell ⟨w.heap.size,3,none⟩ (.slice b1 n1 d1)) from K.out.setCell (p:=⟨w.heap.size,3,none⟩) (Nat.le_refl _) _) (show w.heap.size+2≤(w1.setCell ⟨w.heap.size,3,none⟩ (.slice b1 n1 d1)).heap.size by simpa [World.setCell] using HZ.out);have y9:=Q0.out.at_ 4 _ rfl;go_wp2_with fail
 clear y x y9;obtain⟨W1,hW1⟩:=eX (w1.setCell ⟨w.heap.size,3,none⟩ (.slice b1 n1 d1))
 rw[hW1] at Q0 Q1 R1 K HZ ⊢;clear hW1;refine(E2.out _ K.out).mono ?_;rintro e w2 ⟨b2,n2,d2,rfl,rr,gg,k⟩;obtain⟨G2,R2,K,HZ,Q0,Q1,R1⟩:=lH7 (show jz (w.heap.size+2) b2 from fun b o s e=>Nat.le_trans HZ.out (gg b o s e)) rr (K.out.trans k) (Nat.le_trans HZ.out k.size) (Q0.out.kept k) (Q1.out.kept k) (R1.out.kept k);clear rr gg k;have y:=Q0.out.at_ 4 _ rfl;have x:=Q0.out.free 4;obtain⟨Q0,Q1,R1,R2,K,HZ⟩:=lH6 (show je w.heap.size [.string x0,.string x1,.int .i64 x2,.slice b1 n1 d1,.slice b2 n2 d2,v3,v4,.string x3,.int .i64 x4,.string x5,.bool x6] (w2.setCell ⟨w.heap.size,4,none⟩ (.slice b2 n2 d2)) from Q0.out.set (j:=4) (by simp)) (Q1.out.other (p:=w.heap.size) (j:=4) (u:=.slice b2 n2 d2) (by omega)) (zY (p:=w.heap.size) (j:=4) (u:=.slice b2 n2 d2) R1.out G1.out (by omega)) (zM (p:=w.heap.size) (j:=4) (u:=.slice b2 n2 d2) R2.out G2.out (by omega)) (show Kept w (w2.setCell ⟨w.heap.size,4,none⟩ (.slice b2 n2 d2)) from K.out.setCell (p:=⟨w.heap.size,4,none⟩) (Nat.le_refl _) _) (show w.heap.size+2≤(w2.setCell ⟨w.heap.size,4,none⟩ (.slice b2 n2 d2)).heap.size by simpa [World.setCell] using HZ.out);have y9:=Q0.out.at_ 5 _ rfl;go_wp2_with fail
 clear y x y9;obtain⟨W2,hW2⟩:=eX (w2.setCell ⟨w.heap.size,4,none⟩ (.slice b2 n2 d2))
 rw[hW2] at Q0 Q1 R1 R2 K HZ ⊢;clear hW2;refine(E3.out _ K.out).mono ?_;rintro e w3 ⟨b3,n3,d3,rfl,rr,gg,k⟩;obtain⟨G3,R3,K,HZ,Q0,Q1,R1,R2⟩:=lH8 (show jz (w.heap.size+2) b3 from fun b o s e=>Nat.le_trans HZ.out (gg b o s e)) rr (K.out.trans k) (Nat.le_trans HZ.out k.size) (Q0.out.kept k) (Q1.out.kept k) (R1.out.kept k) (R2.out.kept k);clear rr gg k;have y:=Q0.out.at_ 5 _ rfl;have x:=Q0.out.free 5;obtain⟨Q0,Q1,R1,R2,R3,K,HZ⟩:=lH7 (show je w.heap.size [.string x0,.string x1,.int .i64 x2,.slice b1 n1 d1,.slice b2 n2 d2,.slice b3 n3 d3,v4,.string x3,.int .i64 x4,.string x5,.bool x6] (w3.setCell ⟨w.heap.size,5,none⟩ (.slice b3 n3 d3)) from Q0.out.set (j:=5) (by simp)) (Q1.out.other (p:=w.heap.size) (j:=5) (u:=.slice b3 n3 d3) (by omega)) (zY (p:=w.heap.size) (j:=5) (u:=.slice b3 n3 d3) R1.out G1.out (by omega)) (zM (p:=w.heap.size) (j:=5) (u:=.slice b3 n3 d3) R2.out G2.out (by omega)) (zM (p:=w.heap.size) (j:=5) (u:=.slice b3 n3 d3) R3.out G3.out (by omega)) (show Kept w (w3.setCell ⟨w.heap.size,5,none⟩ (.slice b3 n3 d3)) from K.out.setCell (p:=⟨w.heap.size,5,none⟩) (Nat.le_refl _) _) (show w.heap.size+2≤(w3.setCell ⟨w.heap.size,5,none⟩ (.slice b3 n3 d3)).heap.size by simpa [World.setCell] using HZ.out);have y9:=Q0.out.at_ 6 _ rfl;go_wp2_with fail
 clear y x y9;obtain⟨W3,hW3⟩:=eX (w3.setCell ⟨w.heap.size,5,none⟩ (.slice b3 n3 d3))
 rw[hW3] at Q0 Q1 R1 R2 R3 K HZ ⊢;clear hW3;refine(E4.out _ K.out).mono ?_;rintro e w4 ⟨b4,n4,d4,rfl,rr,gg,k⟩;obtain⟨G4,R4,K,HZ,Q0,Q1,R1,R2⟩:=lH8 (show jz (w.heap.size+2) b4 from fun b o s e=>Nat.le_trans HZ.out (gg b o s e)) rr (K.out.trans k) (Nat.le_trans HZ.out k.size) (Q0.out.kept k) (Q1.out.kept k) (R1.out.kept k) (R2.out.kept k);have R3:=lH (R3.out.kept k);clear rr gg k;have y:=Q0.out.at_ 6 _ rfl;have x:=Q0.out.free 6;obtain⟨Q0,Q1,R1,R2,R3,R4,K,HZ⟩:=lH8 (show je w.heap.size [.string x0,.string x1,.int .i64 x2,.slice b1 n1 d1,.slice b2 n2 d2,.slice b3 n3 d3,.slice b4 n4 d4,.string x3,.int .i64 x4,.string x5,.bool x6] (w4.setCell ⟨w.heap.size,6,none⟩ (.slice b4 n4 d4)) from Q0.out.set (j:=6) (by simp)) (Q1.out.other (p:=w.heap.size) (j:=6) (u:=.slice b4 n4 d4) (by omega)) (zY (p:=w.heap.size) (j:=6) (u:=.slice b4 n4 d4) R1.out G1.out (by omega)) (zM (p:=w.heap.size) (j:=6) (u:=.slice b4 n4 d4) R2.out G2.out (by omega)) (zM (p:=w.heap.size) (j:=6) (u:=.slice b4 n4 d4) R3.out G3.out (by omega)) (zM (p:=w.heap.size) (j:=6) (u:=.slice b4 n4 d4) R4.out G4.out (by omega)) (show Kept w (w4.setCell ⟨w.heap.size,6,none⟩ (.slice b4 n4 d4)) from K.out.setCell (p:=⟨w.heap.size,6,none⟩) (Nat.le_refl _) _) (show w.heap.size+2≤(w4.setCell ⟨w.heap.size,6,none⟩ (.slice b4 n4 d4)).heap.size by simpa [World.setCell] using HZ.out);obtain⟨y0,y1,y2,y3,y4,y5,y6,y7,y8,y9,y10⟩:=Q0.out.at11;obtain⟨z0,z1,z2,z3,z4,z5,z6,z7,z8,z9,z10⟩:=Q1.out.at11;have f0:=Q1.out.free 0;have f1:=Q1.out.free 1;have f2:=Q1.out.free 2;have f3:=Q1.out.free 3;have f4:=Q1.out.free 4;have f5:=Q1.out.free 5;have f6:=Q1.out.free 6;have f7:=Q1.out.free 7;have f8:=Q1.out.free 8;have f9:=Q1.out.free 9;have f10:=Q1.out.free 10;have P:=lH (jW (vs:=[.string x0,.string x1,.int .i64 x2,.slice b1 n1 d1,.slice b2 n2 d2,.slice b3 n3 d3,.slice b4 n4 d4,.string x3,.int .i64 x4,.string x5,.bool x6]) Q1.out rfl);go_wp2;obtain⟨WE,hWE⟩:=eX ((w4.setCell ⟨w.heap.size,6,none⟩ (.slice b4 n4 d4)).setCells (w.heap.size+1) 0 [.string x0,.string x1,.int .i64 x2,.slice b1 n1 d1,.slice b2 n2 d2,.slice b3 n3 d3,.slice b4 n4 d4,.string x3,.int .i64 x4,.string x5,.bool x6])
 have hWE2:((((((((((((w4.setCell ⟨w.heap.size,6,none⟩ (.slice b4 n4 d4)).setCell ⟨w.heap.size+1,0,none⟩ (.string x0)).setCell ⟨w.heap.size+1,1,none⟩ (.string x1)).setCell ⟨w.heap.size+1,2,none⟩ (.int .i64 x2)).setCell ⟨w.heap.size+1,3,none⟩ (.slice b1 n1 d1)).setCell ⟨w.heap.size+1,4,none⟩ (.slice b2 n2 d2)).setCell ⟨w.heap.size+1,5,none⟩ (.slice b3 n3 d3)).setCell ⟨w.heap.size+1,6,none⟩ (.slice b4 n4 d4)).setCell ⟨w.heap.size+1,7,none⟩ (.string x3)).setCell ⟨w.heap.size+1,8,none⟩ (.int .i64 x4)).setCell ⟨w.heap.size+1,9,none⟩ (.string x5)).setCell ⟨w.heap.size+1,10,none⟩ (.bool x6))=WE:=hWE;rw[hWE] at P;rw[hWE2];clear hWE hWE2;obtain⟨PC,hsz,hbl,hkp⟩:=P.out;refine bodyPost_ret (by simp[results,Tryz.results36,go_sem,PC.at_ 0 _ rfl,PC.at_ 1 _ rfl,PC.at_ 2 _ rfl,PC.at_ 3 _ rfl,PC.at_ 4 _ rfl,PC.at_ 5 _ rfl,PC.at_ 6 _ rfl,PC.at_ 7 _ rfl,PC.at_ 8 _ rfl,PC.at_ 9 _ rfl,PC.at_ 10 _ rfl];try rfl) rfl ?_;obtain⟨hx0,hx1,hx2,hx3,hx4,hx5,hx6⟩:=T4.out;exact⟨_,rfl,⟨b1,n1,d1,b2,n2,d2,b3,n3,d3,b4,n4,d4,by unfold jo;rw[hx0,hx1,hx2,hx3,hx4,hx5,hx6],(show jq _ (.slice b1 n1 d1) (.slice b2 n2 d2) (.slice b3 n3 d3) (.slice b4 n4 d4) n from jq.far (B:=w.heap.size+2) ⟨HH.out.name,HH.out.owner,HH.out.key,HH.out.node,HH.out.prio,HH.out.most,R1.out,R2.out,R3.out,R4.out⟩ hsz (fun b hb=>hbl b (by omega)) G1.out G2.out G3.out G4.out),G1.out.less (by omega),G2.out.less (by omega),G3.out.less (by omega),G4.out.less (by omega)⟩,hkp _ _ (by omega) K.out⟩
theorem jaQ (n:Nod) (a1 a2 a3:Option Addr) (m1 c1 m2 c2 m3 c3:Nat) (w:World) (h:zA w (.slice a1 m1 c1) (.slice a2 m2 c2) (.slice a3 m3 c3) n) (hl:JL n) :
 Calls Tryz.prog 111 #[.agg #[.string n.name,.slice a1 m1 c1,.slice a2 m2 c2,.slice a3 m3 c3,.bool n.cordon]] w fun e w'=>∃v,e=.returned v∧zK w.heap.size w' v n∧Kept w w':=by
 have hsz:=h.size;obtain⟨x1,y1,e1,p1,q1,r1⟩:=h.cap
 cases e1
 obtain⟨x2,y2,e2,p2,q2,r2⟩:=h.labels
 cases e2
 obtain⟨x3,y3,e3,p3,q3,r3⟩:=h.taints
 cases e3
 obtain⟨H1,H2,H3⟩:=lH3 (fun W (k:Kept w W)=>YN a1 n.cap.length c1 n.cap W (r1.kept k) p1 q1 hl.cap) (fun W (k:Kept w W)=>YS a2 n.labels.length c2 n.labels W (r2.kept k) p2 q2 hl.labels) (fun W (k:Kept w W)=>qu a3 n.taints.length c3 n.taints W (r3.kept k) p3 q3 hl.taints);obtain⟨k1,hk1⟩:=eX (n.cap.length)
 obtain⟨k2,hk2⟩:=eX (n.labels.length)
 obtain⟨k3,hk3⟩:=eX (n.taints.length)
 obtain⟨x,hx⟩:=eX (n.name)
 obtain⟨cd,hcd⟩:=eX (n.cordon)
 have hxs:x.size≤maxLen:=by rw[←hx];exact hsz
 rw[hk1] at H1;rw[hk2] at H2;rw[hk3] at H3;rw[hk1,hk2,hk3,hx,hcd];have HX:=lH hx;have TZ:=lH hcd;clear h hl p1 q1 r1 p2 q2 r2 p3 q3 r3 hk1 hk2 hk3 hx hcd hsz;obtain⟨Z,hZ⟩:=eX ((w.alloc (.cells #[.string x,.slice a1 k1 c1,.slice a2 k2 c2,.slice a3 k3 c3,.bool cd] 29)).alloc (.cells #[.string ⟨#[]⟩,.slice none 0 0,.slice none 0 0,.slice none 0 0,.bool false] 29))
 have hkz:Kept w Z:=by rw[←hZ];exact ji _ _ _
 have hzs:Z.heap.size=w.heap.size+2:=by rw[←hZ];simp
 have Q0:=lH (show jX w.heap.size (.string x) (.slice a1 k1 c1) (.slice a2 k2 c2) (.slice a3 k3 c3) (.bool cd) Z from X7 w _ _ _ _ _ 29 Z (by rw[←hZ];exact ja _ _));have Q1:=lH (show jX (w.heap.size+1) (.string ⟨#[]⟩) (.slice none 0 0) (.slice none 0 0) (.slice none 0 0) (.bool false) Z by
  have:=X7 (w.alloc (.cells #[.string x,.slice a1 k1 c1,.slice a2 k2 c2,.slice a3 k3 c3,.bool cd] 29)) (.string ⟨#[]⟩) (.slice none 0 0) (.slice none 0 0) (.slice none 0 0) (.bool false) 29 Z (by rw[hZ];exact Kept.refl _);rw[World.size_alloc] at this;exact this)
 have K:=lH hkz;have hs0:w.heap.size+2≤Z.heap.size:=by omega
 clear hkz hzs;obtain⟨⟨y0,y1,y2,y3,y4⟩,x0,x1,x2,x3,x4⟩:=Q0.out;go_enter Tryz.func111,Tryz.ntmps111;go_wp2_with fail
 try rw[hZ]
 clear hZ;clear y0 y1 y2 y3 y4 x0 x1 x2 x3 x4;refine(H1.out _ K.out).mono ?_;rintro e w1 ⟨b1,n1,d1,rfl,rr,gg,k⟩;obtain⟨V3,RA,K⟩:=lH3 (show ∀b off sp,b1=some ⟨b,off,sp⟩→w.heap.size+2≤b from fun b o s e=>by have:=gg b o s e;omega) rr (K.out.trans k);have hs1:w.heap.size+2≤w1.heap.size:=by have:=k.size;omega
 have Q0:=lH (Q0.out.kept k);have Q1:=lH (Q1.out.kept k);clear rr gg k hs0;obtain⟨⟨y0,y1,y2,y3,y4⟩,x0,x1,x2,x3,x4⟩:=Q0.out;obtain⟨Q0,Q1,RA,K⟩:=lH4 (Q0.out.set1 (.slice b1 n1 d1)) (Q1.out.other (p:=w.heap.size) (j:=1) (u:=.slice b1 n1 d1) (by omega)) (zY (p:=w.heap.size) (j:=1) (u:=.slice b1 n1 d1) RA.out V3.out (by omega)) (show Kept w (w1.setCell ⟨w.heap.size,1,none⟩ (.slice b1 n1 d1)) from K.out.setCell (p:=⟨w.heap.size,1,none⟩) (Nat.le_refl _) _);have hs0:w.heap.size+2≤(w1.setCell ⟨w.heap.size,1,none⟩ (.slice b1 n1 d1)).heap.size:=by simpa [World.setCell] using hs1
 clear hs1;obtain⟨⟨z0,z1,z2,z3,z4⟩,-⟩:=Q0.out;go_wp2_with fail
 clear y0 y1 y2 y3 y4 x0 x1 x2 x3 x4 z0 z1 z2 z3 z4;obtain⟨W1,hW1⟩:=eX (w1.setCell ⟨w.heap.size,1,none⟩ (.slice b1 n1 d1))
 rw[hW1] at Q0 Q1 RA K hs0 ⊢;clear hW1;refine(H2.out _ K.out).mono ?_;rintro e w2 ⟨b2,n2,d2,rfl,rr,gg,k⟩;obtain⟨Va,RB,K⟩:=lH3 (show ∀b off sp,b2=some ⟨b,off,sp⟩→w.heap.size+2≤b from fun b o s e=>by have:=gg b o s e;omega) rr (K.out.trans k);have hs1:w.heap.size+2≤w2.heap.size:=by have:=k.size;omega
 obtain⟨Q0,Q1,RA⟩:=lH3 (Q0.out.kept k) (Q1.out.kept k) (RA.out.kept k);clear rr gg k hs0;obtain⟨⟨y0,y1,y2,y3,y4⟩,x0,x1,x2,x3,x4⟩:=Q0.out;obtain⟨Q0,Q1,RA,RB,K⟩:=lH5 (Q0.out.set2 (.slice b2 n2 d2)) (Q1.out.other (p:=w.heap.size) (j:=2) (u:=.slice b2 n2 d2) (by omega)) (zY (p:=w.heap.size) (j:=2) (u:=.slice b2 n2 d2) RA.out V3.out (by omega)) (zM (p:=w.heap.size) (j:=2) (u:=.slice b2 n2 d2) RB.out Va.out (by omega)) (show Kept w (w2.setCell ⟨w.heap.size,2,none⟩ (.slice b2 n2 d2)) from K.out.setCell (p:=⟨w.heap.size,2,none⟩) (Nat.le_refl _) _);have hs0:w.heap.size+2≤(w2.setCell ⟨w.heap.size,2,none⟩ (.slice b2 n2 d2)).heap.size:=by simpa [World.setCell] using hs1
 clear hs1;obtain⟨⟨z0,z1,z2,z3,z4⟩,-⟩:=Q0.out;go_wp2_with fail
 clear y0 y1 y2 y3 y4 x0 x1 x2 x3 x4 z0 z1 z2 z3 z4;obtain⟨W2,hW2⟩:=eX (w2.setCell ⟨w.heap.size,2,none⟩ (.slice b2 n2 d2))
 rw[hW2] at Q0 Q1 RA RB K hs0 ⊢;clear hW2;refine(H3.out _ K.out).mono ?_;rintro e w3 ⟨b3,n3,d3,rfl,rr,gg,k⟩;obtain⟨Uz,RC,K⟩:=lH3 (show ∀b off sp,b3=some ⟨b,off,sp⟩→w.heap.size+2≤b from fun b o s e=>by have:=gg b o s e;omega) rr (K.out.trans k);have hs1:w.heap.size+2≤w3.heap.size:=by have:=k.size;omega
 obtain⟨Q0,Q1,RA,RB⟩:=lH4 (Q0.out.kept k) (Q1.out.kept k) (RA.out.kept k) (RB.out.kept k);clear rr gg k hs0;obtain⟨⟨y0,y1,y2,y3,y4⟩,x0,x1,x2,x3,x4⟩:=Q0.out;obtain⟨Q0,Q1,RA,RB,RC,K⟩:=lH6 (Q0.out.set3 (.slice b3 n3 d3)) (Q1.out.other (p:=w.heap.size) (j:=3) (u:=.slice b3 n3 d3) (by omega)) (zY (p:=w.heap.size) (j:=3) (u:=.slice b3 n3 d3) RA.out V3.out (by omega)) (zM (p:=w.heap.size) (j:=3) (u:=.slice b3 n3 d3) RB.out Va.out (by omega)) (zM (p:=w.heap.size) (j:=3) (u:=.slice b3 n3 d3) RC.out Uz.out (by omega)) (show Kept w (w3.setCell ⟨w.heap.size,3,none⟩ (.slice b3 n3 d3)) from K.out.setCell (p:=⟨w.heap.size,3,none⟩) (Nat.le_refl _) _);have hs0:w.heap.size+2≤(w3.setCell ⟨w.heap.size,3,none⟩ (.slice b3 n3 d3)).heap.size:=by simpa [World.setCell] using hs1
 clear hs1;obtain⟨⟨z0,z1,z2,z3,z4⟩,-⟩:=Q0.out;obtain⟨⟨g0,g1,g2,g3,g4⟩,f0,f1,f2,f3,f4⟩:=Q1.out;go_wp2;have P:=lH (Zz ⟨g0,g1,g2,g3,g4⟩ x b1 b2 b3 n1 d1 n2 d2 n3 d3 cd);clear y0 y1 y2 y3 y4 x0 x1 x2 x3 x4 z0 z1 z2 z3 z4 g0 g1 g2 g3 g4 f0 f1 f2 f3 f4;obtain⟨W3,hW3⟩:=eX (w3.setCell ⟨w.heap.size,3,none⟩ (.slice b3 n3 d3))
 rw[hW3] at RA RB RC K hs0 P ⊢;obtain⟨WE,hWE⟩:=eX ((((((W3.setCell ⟨w.heap.size+1,0,none⟩ (.string x)).setCell ⟨w.heap.size+1,1,none⟩ (.slice b1 n1 d1)).setCell ⟨w.heap.size+1,2,none⟩ (.slice b2 n2 d2)).setCell ⟨w.heap.size+1,3,none⟩ (.slice b3 n3 d3)).setCell ⟨w.heap.size+1,4,none⟩ (.bool cd)))
 rw[hWE] at P ⊢;clear hWE hW3;obtain⟨⟨e0,e1,e2,e3,e4⟩,hsz,hbl,hkp⟩:=P.out;refine bodyPost_ret (by simp[results,Tryz.results111,go_sem,e0,e1,e2,e3,e4];try rfl) rfl ?_;exact⟨_,rfl,⟨b1,n1,d1,b2,n2,d2,b3,n3,d3,by rw[HX.out,TZ.out],by rw[HX.out];exact hxs,RA.out.far hsz (fun b o s e=>hbl b (by have:=V3.out b o s e;omega)),RB.out.far hsz (fun b o s e=>hbl b (by have:=Va.out b o s e;omega)),RC.out.far hsz (fun b o s e=>hbl b (by have:=Uz.out b o s e;omega)),fun b o s e=>Nat.le_trans (Nat.le_add_right _ 2) (V3.out b o s e),fun b o s e=>Nat.le_trans (Nat.le_add_right _ 2) (Va.out b o s e),fun b o s e=>Nat.le_trans (Nat.le_add_right _ 2) (Uz.out b o s e)⟩,hkp _ _ (Nat.le_succ _) K.out⟩
theorem qq (k:Bd) (a1:Option Addr) (m1 c1:Nat) (w:World) (h:zB w (.slice a1 m1 c1) k) (hl:k.sel.length≤1000000) :
 Calls Tryz.prog 114 #[jbC k (.slice a1 m1 c1)] w fun e w'=>∃v,e=.returned v∧JO w.heap.size w' v k∧Kept w w':=by
 obtain⟨x,s,m⟩:=k;have HH:=lH h;have E1:=lH (show ∀W,Kept w W→Calls Tryz.prog 89 #[.slice a1 m1 c1] W fun e w'=>∃a' m' c',e=.returned (.slice a' m' c')∧Reads zT w' (.slice a' m' c') s∧(∀b off sp,a'=some ⟨b,off,sp⟩→W.heap.size≤b)∧Kept W w' from fun W k=>by
  obtain⟨p,y,e,q1,q2,r⟩:=h.sel
  cases e
  exact qx a1 _ c1 s W (r.kept k) q1 q2 hl)
 obtain⟨Z,hZ⟩:=eX ((w.alloc (.cells #[.string x,.slice a1 m1 c1,.int .i64 m] 178)).alloc (.cells #[.string ⟨#[]⟩,.slice none 0 0,.int .i64 0] 178))
 have hkz:Kept w Z:=by rw[←hZ];exact ji _ _ _
 have hzs:Z.heap.size=w.heap.size+2:=by rw[←hZ];simp
 have Q0:=lH (show je w.heap.size [.string x,.slice a1 m1 c1,.int .i64 m] Z from jc w (.string x) [.slice a1 m1 c1,.int .i64 m] 178 Z (by rw[←hZ];exact ja _ _));have Q1:=lH (show je (w.heap.size+1) [.string ⟨#[]⟩,.slice none 0 0,.int .i64 0] Z by
  have:=jc (w.alloc (.cells #[.string x,.slice a1 m1 c1,.int .i64 m] 178)) (.string ⟨#[]⟩) [.slice none 0 0,.int .i64 0] 178 Z (by rw[hZ];exact Kept.refl _);rw[World.size_alloc] at this;exact this)
 have K:=lH hkz;have HZ:=lH (show w.heap.size+2≤Z.heap.size by omega);clear hkz hzs h hl;unfold jbC;dsimp only;go_enter Tryz.func114,Tryz.ntmps114;have y:=Q0.out.at_ 1 _ rfl;go_wp2_with fail
 try rw[hZ]
 clear hZ;clear y;refine(E1.out _ K.out).mono ?_;rintro e w1 ⟨b1,n1,d1,rfl,rr,gg,k⟩;obtain⟨G1,R1,K,HZ,Q0,Q1⟩:=lH6 (show jz (w.heap.size+2) b1 from fun b o s e=>Nat.le_trans HZ.out (gg b o s e)) rr (K.out.trans k) (Nat.le_trans HZ.out k.size) (Q0.out.kept k) (Q1.out.kept k);clear rr gg k;have y:=Q0.out.at_ 1 _ rfl;have xf:=Q0.out.free 1;obtain⟨Q0,Q1,R1,K⟩:=lH4 (show je w.heap.size [.string x,.slice b1 n1 d1,.int .i64 m] (w1.setCell ⟨w.heap.size,1,none⟩ (.slice b1 n1 d1)) from Q0.out.set (j:=1) (by simp)) (Q1.out.other (p:=w.heap.size) (j:=1) (u:=.slice b1 n1 d1) (by omega)) (zM (p:=w.heap.size) (j:=1) (u:=.slice b1 n1 d1) R1.out G1.out (by omega)) (show Kept w (w1.setCell ⟨w.heap.size,1,none⟩ (.slice b1 n1 d1)) from K.out.setCell (p:=⟨w.heap.size,1,none⟩) (Nat.le_refl _) _);obtain⟨y0,y1,y2⟩:=Q0.out.at3;obtain⟨g0,g1,g2⟩:=Q1.out.at3;have f0:=Q1.out.free 0;have f1:=Q1.out.free 1;have f2:=Q1.out.free 2;have P:=lH (jW (vs:=[.string x,.slice b1 n1 d1,.int .i64 m]) Q1.out rfl);go_wp2;obtain⟨WE,hWE⟩:=eX ((w1.setCell ⟨w.heap.size,1,none⟩ (.slice b1 n1 d1)).setCells (w.heap.size+1) 0 [.string x,.slice b1 n1 d1,.int .i64 m])
 have hWE2:((((w1.setCell ⟨w.heap.size,1,none⟩ (.slice b1 n1 d1)).setCell ⟨(w.heap.size+1),0,none⟩ (.string x)).setCell ⟨(w.heap.size+1),1,none⟩ (.slice b1 n1 d1)).setCell ⟨(w.heap.size+1),2,none⟩ (.int .i64 m))=WE:=hWE;rw[hWE] at P;try rw[hWE2]
 clear hWE hWE2;obtain⟨PC,hsz,hbl,hkp⟩:=P.out;refine bodyPost_ret (by simp[results,Tryz.results114,go_sem,PC.at_ 0 _ rfl,PC.at_ 1 _ rfl,PC.at_ 2 _ rfl];try rfl) rfl ?_;exact⟨_,rfl,⟨b1,n1,d1,rfl,⟨HH.out.name,HH.out.floor,R1.out.far hsz (fun b o s e=>hbl b (by have:=G1.out b o s e;omega))⟩,G1.out.less (by omega)⟩,hkp _ _ (by omega) K.out⟩
theorem jge {w:World} {a:Option Addr} {len:Nat} {l:List Nod} (h:jt w a len l):∃lx:List NX,(lx.map fun z=>z.1)=l∧jk zH w a len lx∧∀z ∈ lx,At3 w z:=by
 obtain⟨h0,h1,h2⟩:=h;rcases h2 with h2 | ⟨b,off,rfl,hb,hc⟩
 · have:l=[]:=List.eq_nil_of_length_eq_zero (by omega);subst this;subst h2;exact⟨[],rfl,jk.nil w a,fun z hz=>absurd hz (by simp)⟩
 · have step:∀m,m≤l.length→∃lx:List NX,(lx.map fun z=>z.1)=l.take m∧(∀i x j u,lx[i]?=some x→(zH.cs x)[j]?=some u→w.cell? ⟨b,off+i*5+j,none⟩=some u)∧∀z ∈ lx,At3 w z:=by
    intro m
    induction m with
    | zero=>exact fun _=>⟨[],rfl,fun i x j u hi=>by simp at hi,fun z hz=>absurd hz (by simp)⟩
    | succ m ih =>
     intro hm;obtain⟨lx,e,hcell,hat⟩:=ih (by omega);obtain⟨n,hn⟩:∃n,l[m]?=some n:=⟨_,List.getElem?_eq_getElem (by omega)⟩
     obtain⟨a1,m1,c1,a2,m2,c2,a3,m3,c3,p0,p1,p2,p3,p4,hp⟩:=hc m n hn;have hlen:lx.length=m:=by
      have:=congrArg List.length e;rw[List.length_map,List.length_take] at this;omega
     refine⟨lx++[(n,(a1,m1,c1),(a2,m2,c2),(a3,m3,c3))],?_,?_,?_⟩
     · rw[List.map_append,e,Yg hn];rfl
     · intro i x j u hi hj;by_cases him:i<m
       · rw[List.getElem?_append_left (by omega)] at hi;exact hcell i x j u hi hj
       · have hi2:=(List.getElem?_eq_some_iff.1 hi).1;rw[List.length_append,List.length_singleton] at hi2;obtain rfl:i=m:=by omega
         rw[List.getElem?_append_right (by omega),hlen,Nat.sub_self] at hi;obtain rfl:=Option.some.inj hi
         match j,hj with
         | 0,hj=>obtain rfl:=Option.some.inj hj;exact p0
         | 1,hj=>obtain rfl:=Option.some.inj hj;exact p1
         | 2,hj=>obtain rfl:=Option.some.inj hj;exact p2
         | 3,hj=>obtain rfl:=Option.some.inj hj;exact p3
         | 4,hj=>obtain rfl:=Option.some.inj hj;exact p4
         | j+5,hj=>simp[zH] at hj
     · intro z hz;rcases List.mem_append.1 hz with hz | hz
       · exact hat z hz
       · obtain rfl:z=_:=List.mem_singleton.1 hz;exact hp
   obtain⟨lx,e,hcell,hat⟩:=step l.length (Nat.le_refl _);rw[List.take_of_length_le (Nat.le_refl _)] at e;have hl:lx.length=len:=by rw[←h0,←e,List.length_map]
   exact⟨lx,e,⟨hl,h1,fun _ _=>trivial,.inr ⟨b,off,rfl,hb,hcell⟩⟩,hat⟩
theorem jfO {w:World} {a:Option Addr} {len:Nat} {l:List Bd} (h:zu w a len l):∃lx:List BX,(lx.map fun z=>z.1)=l∧jk zN w a len lx∧∀z ∈ lx,At1 w z:=by
 obtain⟨h0,h1,h2⟩:=h;rcases h2 with h2 | ⟨b,off,rfl,hb,hc⟩
 · have:l=[]:=List.eq_nil_of_length_eq_zero (by omega);subst this;subst h2;exact⟨[],rfl,jk.nil w a,fun z hz=>absurd hz (by simp)⟩
 · have step:∀m,m≤l.length→∃lx:List BX,(lx.map fun z=>z.1)=l.take m∧(∀i x j u,lx[i]?=some x→(zN.cs x)[j]?=some u→w.cell? ⟨b,off+i*3+j,none⟩=some u)∧∀z ∈ lx,At1 w z:=by
    intro m
    induction m with
    | zero=>exact fun _=>⟨[],rfl,fun i x j u hi=>by simp at hi,fun z hz=>absurd hz (by simp)⟩
    | succ m ih =>
     intro hm;obtain⟨lx,e,hcell,hat⟩:=ih (by omega);obtain⟨n,hn⟩:∃n,l[m]?=some n:=⟨_,List.getElem?_eq_getElem (by omega)⟩
     obtain⟨w1,p0,p1,p2,hp⟩:=hc m n hn;obtain⟨a1,m1,c1,rfl⟩:=hp.spelt;have hlen:lx.length=m:=by
      have:=congrArg List.length e;rw[List.length_map,List.length_take] at this;omega
     refine⟨lx++[(n,(a1,m1,c1))],?_,?_,?_⟩
     · rw[List.map_append,e,Yg hn];rfl
     · intro i x j u hi hj;by_cases him:i<m
       · rw[List.getElem?_append_left (by omega)] at hi;exact hcell i x j u hi hj
       · have hi2:=(List.getElem?_eq_some_iff.1 hi).1;rw[List.length_append,List.length_singleton] at hi2;obtain rfl:i=m:=by omega
         rw[List.getElem?_append_right (by omega),hlen,Nat.sub_self] at hi;obtain rfl:=Option.some.inj hi
         match j,hj with
         | 0,hj=>obtain rfl:=Option.some.inj hj;exact p0
         | 1,hj=>obtain rfl:=Option.some.inj hj;exact p1
         | 2,hj=>obtain rfl:=Option.some.inj hj;exact p2
         | j+3,hj=>simp[zN] at hj
     · intro z hz;rcases List.mem_append.1 hz with hz | hz
       · exact hat z hz
       · obtain rfl:z=_:=List.mem_singleton.1 hz;exact hp
   obtain⟨lx,e,hcell,hat⟩:=step l.length (Nat.le_refl _);rw[List.take_of_length_le (Nat.le_refl _)] at e;have hl:lx.length=len:=by rw[←h0,←e,List.length_map]
   exact⟨lx,e,⟨hl,h1,fun _ _=>trivial,.inr ⟨b,off,rfl,hb,hcell⟩⟩,hat⟩
theorem jcl {w:World} {a:Option Addr} {len:Nat} {l:List Pd} (h:jv w a len l):∃lx:List PX,(lx.map fun z=>z.1)=l∧jk PodLay0 w a len lx∧∀z ∈ lx,At4 w z:=by
 obtain⟨h0,h1,h2⟩:=h;rcases h2 with h2 | ⟨b,off,rfl,hb,hc⟩
 · have:l=[]:=List.eq_nil_of_length_eq_zero (by omega);subst this;subst h2;exact⟨[],rfl,jk.nil w a,fun z hz=>absurd hz (by simp)⟩
 · have step:∀m,m≤l.length→∃lx:List PX,(lx.map fun z=>z.1)=l.take m∧(∀i x j u,lx[i]?=some x→(PodLay0.cs x)[j]?=some u→w.cell? ⟨b,off+i*11+j,none⟩=some u)∧∀z ∈ lx,At4 w z:=by
    intro m
    induction m with
    | zero=>exact fun _=>⟨[],rfl,fun i x j u hi=>by simp at hi,fun z hz=>absurd hz (by simp)⟩
    | succ m ih =>
     intro hm;obtain⟨lx,e,hcell,hat⟩:=ih (by omega);obtain⟨n,hn⟩:∃n,l[m]?=some n:=⟨_,List.getElem?_eq_getElem (by omega)⟩
     obtain⟨v1,v2,v3,v4,p0,p1,p2,p3,p4,p5,p6,p7,p8,p9,p10,hp⟩:=hc m n hn;obtain⟨b1,n1,d1,b2,n2,d2,b3,n3,d3,b4,n4,d4,rfl,rfl,rfl,rfl⟩:=hp.spelt;have hlen:lx.length=m:=by
      have:=congrArg List.length e;rw[List.length_map,List.length_take] at this;omega
     refine⟨lx++[(n,(b1,n1,d1),(b2,n2,d2),(b3,n3,d3),(b4,n4,d4))],?_,?_,?_⟩
     · rw[List.map_append,e,Yg hn];rfl
     · intro i x j u hi hj;by_cases him:i<m
       · rw[List.getElem?_append_left (by omega)] at hi;exact hcell i x j u hi hj
       · have hi2:=(List.getElem?_eq_some_iff.1 hi).1;rw[List.length_append,List.length_singleton] at hi2;obtain rfl:i=m:=by omega
         rw[List.getElem?_append_right (by omega),hlen,Nat.sub_self] at hi;obtain rfl:=Option.some.inj hi
         match j,hj with
         | 0,hj=>obtain rfl:=Option.some.inj hj;exact p0
         | 1,hj=>obtain rfl:=Option.some.inj hj;exact p1
         | 2,hj=>obtain rfl:=Option.some.inj hj;exact p2
         | 3,hj=>obtain rfl:=Option.some.inj hj;exact p3
         | 4,hj=>obtain rfl:=Option.some.inj hj;exact p4
         | 5,hj=>obtain rfl:=Option.some.inj hj;exact p5
         | 6,hj=>obtain rfl:=Option.some.inj hj;exact p6
         | 7,hj=>obtain rfl:=Option.some.inj hj;exact p7
         | 8,hj=>obtain rfl:=Option.some.inj hj;exact p8
         | 9,hj=>obtain rfl:=Option.some.inj hj;exact p9
         | 10,hj=>obtain rfl:=Option.some.inj hj;exact p10
         | j+11,hj=>simp[PodLay0] at hj
     · intro z hz;rcases List.mem_append.1 hz with hz | hz
       · exact hat z hz
       · obtain rfl:z=_:=List.mem_singleton.1 hz;exact jq.at4 hp
   obtain⟨lx,e,hcell,hat⟩:=step l.length (Nat.le_refl _);rw[List.take_of_length_le (Nat.le_refl _)] at e;have hl:lx.length=len:=by rw[←h0,←e,List.length_map]
   exact⟨lx,e,⟨hl,h1,fun _ _=>trivial,.inr ⟨b,off,rfl,hb,hcell⟩⟩,hat⟩
theorem jfp:Kind 31 29 5 96:=by
 obtain⟨i,hi,hz,h1,h2⟩:=info_parts (show (Tryz.prog.info? 29).map (fun i=>(i.zero,i.size,i.bytes))=some (some (.agg #[.string ByteArray.empty,.slice none 0 0,.slice none 0 0,.slice none 0 0,.bool false]),5,96) by kernel_rfl);exact⟨i,_,Tryz.underlying31,hi,hz,h1,h2,rfl,by decide⟩
theorem jaR (a:Option Addr) (len cap:Nat) (lx:List NX) (w:World) (hr:jk zH w a len lx) (hc:len≤cap) (hm:cap≤maxLen) (hn:len≤100000) :
 Calls Tryz.prog 155 #[.slice a len cap] w fun e w'=>((e=.returned (.slice none 0 0)∧lx=[])∨∃g c,e=.returned (.slice (some ⟨g,0,none⟩) len c)∧Own zH 29 w' w.heap.size (.slice (some ⟨g,0,none⟩) len c) lx)∧Kept w w':=by
 have hl:=hr.1;have q22:∀(w:World) (a:Option Addr) (n c n' c':Nat),(binOp .eql 31 (.slice a n c) (.slice none n' c')).run Tryz.prog w=.ok (.bool a.isNone) w:=fun w a n c n' c'=>Lib.run_eql_slice_nil w _ _ a n c n' c' Tryz.underlying31
 cases a with
 | none =>
  have h0:len=0:=by
   rcases hr.form with h | ⟨b,off,h⟩
   · exact h
   · cases h
  subst h0;have hl0:lx=[]:=List.eq_nil_of_length_eq_zero hl;subst hl0;clear hr hl;go_enter Tryz.func155,Tryz.ntmps155;go_wp2;go_ret;exact⟨.inl ⟨rfl,by first | rfl | trivial⟩,Kept.refl _⟩
 | some ad =>
  have HR:=lH hr;have HL:=lH hl;have hrl:(jd zH lx).length=len*5:=by rw[jx,hl];rfl
  have hb1:0+len≤maxLen:=by unfold maxLen;omega
  have hb2:((0+len)+(0+len) / 4+192)*96≤281474976710656:=by omega
  clear hr hl;go_enter Tryz.func155,Tryz.ntmps155;go_wp2_with (at_builtin;refine zg jfp _ rfl (.tmp 5) (.tmp 6) rfl w.heap.size (by simp) w.heap.size 0 0 [] rfl (Jk w w.heap.size 5 _ (Nat.le_refl _)) _ len (jd zH lx) rfl hrl (zl _ _) (jk.src (HR.out.kept (ja _ _))) hb1 hb2 ?_;intro g1 k1 W1 ho hd hg;have HO:=lH ho;have HD:=lH hd;clear ho hd hg;refine Hid.out ?_)
  refine lH ?_;simp only[Nat.zero_add,List.nil_append] at HO ⊢;go_wp2;go_ret;exact⟨.inr ⟨g1,k1,rfl,by rw[HL.out];exact HO.out,fun x _=>trivial⟩,Below.trans (ja w _) HD.out⟩
theorem je2:Kind 32 41 11 184:=by
 obtain⟨i,hi,hz,h1,h2⟩:=info_parts (show (Tryz.prog.info? 41).map (fun i=>(i.zero,i.size,i.bytes))=some (some (.agg #[.string ByteArray.empty,.string ByteArray.empty,.int .i64 0,.slice none 0 0,.slice none 0 0,.slice none 0 0,.slice none 0 0,.string ByteArray.empty,.int .i64 0,.string ByteArray.empty,.bool false]),11,184) by kernel_rfl);exact⟨i,_,Tryz.underlying32,hi,hz,h1,h2,rfl,by decide⟩
theorem Y6 (a:Option Addr) (len cap:Nat) (lx:List PX) (w:World) (hr:jk PodLay0 w a len lx) (hc:len≤cap) (hm:cap≤maxLen) (hn:len≤100000) :
 Calls Tryz.prog 157 #[.slice a len cap] w fun e w'=>((e=.returned (.slice none 0 0)∧lx=[])∨∃g c,e=.returned (.slice (some ⟨g,0,none⟩) len c)∧Own PodLay0 41 w' w.heap.size (.slice (some ⟨g,0,none⟩) len c) lx)∧Kept w w':=by
 have hl:=hr.1;have q22:∀(w:World) (a:Option Addr) (n c n' c':Nat),(binOp .eql 32 (.slice a n c) (.slice none n' c')).run Tryz.prog w=.ok (.bool a.isNone) w:=fun w a n c n' c'=>Lib.run_eql_slice_nil w _ _ a n c n' c' Tryz.underlying32
 cases a with
 | none =>
  have h0:len=0:=by
   rcases hr.form with h | ⟨b,off,h⟩
   · exact h
   · cases h
  subst h0;have hl0:lx=[]:=List.eq_nil_of_length_eq_zero hl;subst hl0;clear hr hl;go_enter Tryz.func157,Tryz.ntmps157;go_wp2;go_ret;exact⟨.inl ⟨rfl,by first | rfl | trivial⟩,Kept.refl _⟩
 | some ad =>
  have HR:=lH hr;have HL:=lH hl;have hrl:(jd PodLay0 lx).length=len*11:=by rw[jx,hl];rfl
  have hb1:0+len≤maxLen:=by unfold maxLen;omega
  have hb2:((0+len)+(0+len) / 4+192)*184≤281474976710656:=by omega
  clear hr hl;go_enter Tryz.func157,Tryz.ntmps157;go_wp2_with (at_builtin;refine zg je2 _ rfl (.tmp 5) (.tmp 6) rfl w.heap.size (by simp) w.heap.size 0 0 [] rfl (Jk w w.heap.size 11 _ (Nat.le_refl _)) _ len (jd PodLay0 lx) rfl hrl (zl _ _) (jk.src (HR.out.kept (ja _ _))) hb1 hb2 ?_;intro g1 k1 W1 ho hd hg;have HO:=lH ho;have HD:=lH hd;clear ho hd hg;refine Hid.out ?_)
  refine lH ?_;simp only[Nat.zero_add,List.nil_append] at HO ⊢;go_wp2;go_ret;exact⟨.inr ⟨g1,k1,rfl,by rw[HL.out];exact HO.out,fun x _=>trivial⟩,Below.trans (ja w _) HD.out⟩
theorem je3:Kind 33 178 3 48:=by
 obtain⟨i,hi,hz,h1,h2⟩:=info_parts (show (Tryz.prog.info? 178).map (fun i=>(i.zero,i.size,i.bytes))=some (some (.agg #[.string ByteArray.empty,.slice none 0 0,.int .i64 0]),3,48) by kernel_rfl);exact⟨i,_,Tryz.underlying33,hi,hz,h1,h2,rfl,by decide⟩
theorem jaG (a:Option Addr) (len cap:Nat) (lx:List BX) (w:World) (hr:jk zN w a len lx) (hc:len≤cap) (hm:cap≤maxLen) (hn:len≤100000) :
 Calls Tryz.prog 158 #[.slice a len cap] w fun e w'=>((e=.returned (.slice none 0 0)∧lx=[])∨∃g c,e=.returned (.slice (some ⟨g,0,none⟩) len c)∧Own zN 178 w' w.heap.size (.slice (some ⟨g,0,none⟩) len c) lx)∧Kept w w':=by
 have hl:=hr.1;have q22:∀(w:World) (a:Option Addr) (n c n' c':Nat),(binOp .eql 33 (.slice a n c) (.slice none n' c')).run Tryz.prog w=.ok (.bool a.isNone) w:=fun w a n c n' c'=>Lib.run_eql_slice_nil w _ _ a n c n' c' Tryz.underlying33
 cases a with
 | none =>
  have h0:len=0:=by
   rcases hr.form with h | ⟨b,off,h⟩
   · exact h
   · cases h
  subst h0;have hl0:lx=[]:=List.eq_nil_of_length_eq_zero hl;subst hl0;clear hr hl;go_enter Tryz.func158,Tryz.ntmps158;go_wp2;go_ret;exact⟨.inl ⟨rfl,by first | rfl | trivial⟩,Kept.refl _⟩
 | some ad =>
  have HR:=lH hr;have HL:=lH hl;have hrl:(jd zN lx).length=len*3:=by rw[jx,hl];rfl
  have hb1:0+len≤maxLen:=by unfold maxLen;omega
  have hb2:((0+len)+(0+len) / 4+192)*48≤281474976710656:=by omega
  clear hr hl;go_enter Tryz.func158,Tryz.ntmps158;go_wp2_with (at_builtin;refine zg je3 _ rfl (.tmp 5) (.tmp 6) rfl w.heap.size (by simp) w.heap.size 0 0 [] rfl (Jk w w.heap.size 3 _ (Nat.le_refl _)) _ len (jd zN lx) rfl hrl (zl _ _) (jk.src (HR.out.kept (ja _ _))) hb1 hb2 ?_;intro g1 k1 W1 ho hd hg;have HO:=lH ho;have HD:=lH hd;clear ho hd hg;refine Hid.out ?_)
  refine lH ?_;simp only[Nat.zero_add,List.nil_append] at HO ⊢;go_wp2;go_ret;exact⟨.inr ⟨g1,k1,rfl,by rw[HL.out];exact HO.out,fun x _=>trivial⟩,Below.trans (ja w _) HD.out⟩
structure JT {X A:Type} (L:Lay X) (T:TypeId) (At:World→X→Prop) (fst:X→A) (B g len c k:Nat) (l:List A) (w wr:World) (lx:List X):Prop where
 own:Own L T wr B (.slice (some ⟨g,0,none⟩) len c) lx
 map:lx.map fst=l
 done:∀j z,lx[j]?=some z→j<k→Off (fun b=>b<B∨b=g) wr fun u=>At u z
 todo:∀j z,lx[j]?=some z→k≤j→Off (fun b=>B≤b) wr fun u=>At u z
 kept:Below B w wr
theorem JT.start {X A:Type} {L:Lay X} {T:TypeId} {At:World→X→Prop} {fst:X→A} {g len c:Nat} {l:List A} {w wr:World} {lx:List X} (ho:Own L T wr w.heap.size (.slice (some ⟨g,0,none⟩) len c) lx) (hm:lx.map fst=l) (hk:Kept w wr) (hat:∀z ∈ lx,∀u,Kept w u→At u z) :
 JT L T At fst w.heap.size g len c 0 l w wr lx :=
 ⟨ho,hm,fun j z _ h=>absurd h (Nat.not_lt_zero _),fun j z hz _=>Off.of (hat z (List.mem_of_getElem? hz)) hk fun i h=>h,hk⟩
theorem JT.next {X A:Type} {L:Lay X} {T:TypeId} {At:World→X→Prop} {fst:X→A} {B g len c k:Nat} {l:List A} {w wr w1:World} {lx:List X} {z z':X} (h:JT L T At fst B g len c k l w wr lx) (hz:lx[k]?=some z) (hf:fst z'=fst z) (hfine:L.fine z') (hk:Kept wr w1) (hB:B≤wr.heap.size)
 (hat:Off (fun b=>b<B∨b=g) w1 fun u=>At u z'):JT L T At fst B g len c (k+1) l w (w1.setCells g (k*L.m) (L.cs z')) (lx.set k z'):=by
 have hl:k<lx.length:=(List.getElem?_eq_some_iff.1 hz).1;have hg:=jR h.own g rfl;refine⟨(h.own.kept hk).Zz hl z' hfine,?_,fun j y hy hj=>?_,fun j y hy hj=>?_,jm g _ _ _ B w hg.1 (h.kept.trans (Below.mono hk hB))⟩
 · rw[←h.map];apply List.ext_getElem?;intro i;rw[List.getElem?_map,List.getElem?_map];by_cases e:k=i
   · subst e;rw[List.getElem?_set_self hl,hz];simp[hf]
   · rw[List.getElem?_set_ne e]
 · have gc:jb (fun b=>b<B∨b=g) w1 (w1.setCells g (k*L.m) (L.cs z')):=jb.cells (S:=fun b=>b<B∨b=g) g (.inr rfl) _ _ _;by_cases e:k=j
   · subst e;rw[List.getElem?_set_self hl] at hy;obtain rfl:=Option.some.inj hy;exact hat.step gc
   · rw[List.getElem?_set_ne e] at hy;exact((h.done j y hy (by omega)).step (jb.of hk)).step gc
 · have gc:jb (fun b=>B≤b) w1 (w1.setCells g (k*L.m) (L.cs z')):=jb.cells (S:=fun b=>B≤b) g hg.1 _ _ _;rw[List.getElem?_set_ne (by omega)] at hy;exact((h.todo j y hy (by omega)).step (jb.of hk)).step gc
theorem JT.deep {X A:Type} {L:Lay X} {T:TypeId} {At:World→X→Prop} {fst:X→A} {B g len c k:Nat} {l:List A} {w wr:World} {lx:List X} (h:JT L T At fst B g len c k l w wr lx) (hk:lx.length≤k):Deep L T At wr B (.slice (some ⟨g,0,none⟩) len c) lx∧∀z ∈ lx,Off (fun b=>b<B∨b=g) wr fun u=>At u z:=by
 have key:∀z ∈ lx,Off (fun b=>b<B∨b=g) wr fun u=>At u z:=fun z hz=>by
  obtain⟨j,hj,e⟩:=List.getElem_of_mem hz;exact h.done j z (by rw[List.getElem?_eq_getElem hj,e]) (by omega)
 exact⟨⟨h.own,fun z hz=>(key z hz).less fun b e=>.inr (Option.some.inj e).symm⟩,key⟩
def Jo {X:Type} (L:Lay X) (T:TypeId) (At:World→X→Prop) (B:Nat) (w:World) (v:Value) (lx:List X):Prop:=(∃a n c,v=.slice a n c)∧Deep L T At w B v lx∧∀z ∈ lx,Off (fun b=>b<B∨v.ownBlock=some b) w fun u=>At u z
theorem jdQ (a:Option Addr) (len cap:Nat) (l:List Nod) (w:World) (hr:jt w a len l) (hc:len≤cap) (hm:cap≤maxLen) (hn:len≤100000) (hlow:∀n ∈ l,JL n) :
 Calls Tryz.prog 110 #[.slice a len cap,.func (.func 111) #[] #[]] w fun e w'=>∃v lx,e=.returned v∧(lx.map fun z=>z.1)=l∧Jo zH 29 At3 w.heap.size w' v lx∧Kept w w':=by
 obtain⟨lx0,hmap,hrx,hat0⟩:=jge hr;obtain⟨HC,Vq,VE,V7,Tk⟩:=lH5 (jaR a len cap lx0 w hrx hc hm hn) hlow hmap hat0 hrx.1;clear hr hmap hrx hat0 hlow hc hm;go_enter Tryz.func110,Tryz.ntmps110;go_wp2_with fail
 refine HC.out.mono ?_;rintro e w1 ⟨hres,hk⟩;have K0:=lH hk;rcases hres with ⟨rfl,h0⟩ | ⟨g,c,rfl,ho⟩
 · have HE:=lH (show l=[] by rw[←VE.out,h0];rfl);clear h0 hk;go_wp2;refine wp_loop_rounds 1 ?_;rw[rounds_succ];go_wp2;go_ret;exact⟨_,[],rfl,HE.out.symm,⟨⟨_,_,_,rfl⟩,⟨Own.nil _ _ _,fun z h=>by cases h⟩,fun z h=>by cases h⟩,K0.out⟩
 · have HI:=lH (JT.start (At:=At3) (fst:=(fun z=>z.1)) ho VE.out hk fun z hz u k=>zA.kept (V7.out z hz) k);clear ho hk;go_wp2;go_loopw [12] (fun i wr=>∃(k:Nat) (lx:List NX),k≤len∧i=.int .i64 k∧lx.length=len∧JT zH 29 At3 (fun z=>z.1) w.heap.size g len c k l w wr lx) (fun i _=>len-(intOf i).toNat)
   case atStart=>exact⟨0,lx0,Nat.zero_le _,rfl,Tk.out,HI.out⟩
   case round =>
    obtain⟨k,lx,hk,rfl,hlen,hinv⟩:=hrel;have HV:=lH hinv;have V8:=lH hlen;by_cases hlt:k<len
    · obtain⟨z,hz⟩:∃z,lx[k]?=some z:=⟨_,List.getElem?_eq_getElem (by omega)⟩
      obtain⟨n,⟨b1,n1,d1⟩,⟨b2,n2,d2⟩,⟨b3,n3,d3⟩⟩:=z;have p0:wr.cell? ⟨g,k*5,none⟩=some (.string n.name):=hinv.own.cell_at hz (j:=0) rfl;have p1:wr.cell? ⟨g,k*5+1,none⟩=some (.slice b1 n1 d1):=hinv.own.cell_at hz (j:=1) rfl;have p2:wr.cell? ⟨g,k*5+2,none⟩=some (.slice b2 n2 d2):=hinv.own.cell_at hz (j:=2) rfl;have p3:wr.cell? ⟨g,k*5+3,none⟩=some (.slice b3 n3 d3):=hinv.own.cell_at hz (j:=3) rfl;have p4:wr.cell? ⟨g,k*5+4,none⟩=some (.bool n.cordon):=hinv.own.cell_at hz (j:=4) rfl;obtain⟨HZ,HN,HA,Ug⟩:=lH4 hz (show n ∈ l by rw[←hinv.map];exact List.mem_map.2 ⟨_,List.mem_of_getElem? hz,rfl⟩) ((hinv.todo k _ hz (Nat.le_refl _)).here) hinv.kept.size;have hkk:(k:Int)<(len:Int):=by omega
      have Uu:=lH (jR hinv.own g rfl);have HO:=lH (jaQ n b1 b2 b3 n1 d1 n2 d2 n3 d3 _ (zA.kept HA.out (ja wr (.cells #[.string n.name,.slice b1 n1 d1,.slice b2 n2 d2,.slice b3 n3 d3,.bool n.cordon] 29))) (Vq.out n HN.out));clear hz hlen hinv;go_wp2_with fail
      refine HO.out.mono ?_;rintro e w2 ⟨v,rfl,hv,kk⟩;have KW:=lH ((ja wr (.cells #[.string n.name,.slice b1 n1 d1,.slice b2 n2 d2,.slice b3 n3 d3,.bool n.cordon] 29)).trans kk);obtain⟨x1,y1,e1,x2,y2,e2,x3,y3,e3,rfl,s0,s1,s2,s3,g1,g2,g3⟩:=hv;have Vo:=lH (show Off (fun b=>b<w.heap.size∨b=g) w2 fun u=>At3 u (n,(x1,y1,e1),(x2,y2,e2),(x3,y3,e3)) from zA.off (B:=wr.heap.size+1) ⟨s0,s1,s2,s3⟩ (by simpa [jz] using g1) (by simpa [jz] using g2) (by simpa [jz] using g3) (fun b hb h=>by have:=Uu.out;have:=Ug.out;rcases h with h | h<;>omega));clear s0 s1 s2 s3 g1 g2 g3 kk;have q0:=cell_later KW.out p0;have q1:=cell_later KW.out p1;have q2:=cell_later KW.out p2;have q3:=cell_later KW.out p3;have q4:=cell_later KW.out p4;have x0f:w2.frozen? ⟨g,k*5,none⟩=false:=(HV.out.own.kept KW.out).frozen_at _;have x1f:w2.frozen? ⟨g,k*5+1,none⟩=false:=(HV.out.own.kept KW.out).frozen_at _;have x2f:w2.frozen? ⟨g,k*5+2,none⟩=false:=(HV.out.own.kept KW.out).frozen_at _;have x3f:w2.frozen? ⟨g,k*5+3,none⟩=false:=(HV.out.own.kept KW.out).frozen_at _;have x4f:w2.frozen? ⟨g,k*5+4,none⟩=false:=(HV.out.own.kept KW.out).frozen_at _;clear p0 p1 p2 p3 p4;have Vz:=lH (HV.out.next (z':=(n,(x1,y1,e1),(x2,y2,e2),(x3,y3,e3))) HZ.out rfl trivial KW.out Ug.out Vo.out);go_wp2;obtain⟨WE,hWE⟩:=eX (w2.setCells g (k*5) [.string n.name,.slice x1 y1 e1,.slice x2 y2 e2,.slice x3 y3 e3,.bool n.cordon])
      have hWE2:(((((w2.setCell ⟨g,k*5,none⟩ (.string n.name)).setCell ⟨g,k*5+1,none⟩ (.slice x1 y1 e1)).setCell ⟨g,k*5+2,none⟩ (.slice x2 y2 e2)).setCell ⟨g,k*5+3,none⟩ (.slice x3 y3 e3)).setCell ⟨g,k*5+4,none⟩ (.bool n.cordon))=WE:=hWE;have Vz:=lH (show JT zH 29 At3 (fun z=>z.1) w.heap.size g len c (k+1) l w WE (lx.set k (n,(x1,y1,e1),(x2,y2,e2),(x3,y3,e3))) by rw[←hWE];exact Vz.out);try rw[hWE2]
      clear hWE hWE2 q0 q1 q2 q3 q4 x0f x1f x2f x3f x4f;go_roundw
      case rel=>exact⟨k+1,_,by omega,by go_num,by rw[List.length_set];exact V8.out,Vz.out⟩
      case measure=>simp[intOf];omega
    · obtain⟨HD,UE,Tl⟩:=lH3 (hinv.deep (by omega)) hinv.kept hinv.map;clear hinv hlen;go_wp2;go_ret;exact⟨_,lx,rfl,Tl.out,⟨⟨_,_,_,rfl⟩,HD.out.1,fun z hz=>(HD.out.2 z hz).less fun b h=>h.imp id fun e=>(Option.some.inj e).symm⟩,UE.out⟩
theorem jdS (a:Option Addr) (len cap:Nat) (l:List Pd) (w:World) (hr:jv w a len l) (hc:len≤cap) (hm:cap≤maxLen) (hn:len≤100000) (hlow:∀n ∈ l,ZG n) :
 Calls Tryz.prog 112 #[.slice a len cap,.func (.func 36) #[] #[]] w fun e w'=>∃v lx,e=.returned v∧(lx.map fun z=>z.1)=l∧Jo PodLay0 41 At4 w.heap.size w' v lx∧Kept w w':=by
 obtain⟨lx0,hmap,hrx,hat0⟩:=jcl hr;obtain⟨HC,Vq,VE,V7,Tk⟩:=lH5 (Y6 a len cap lx0 w hrx hc hm hn) hlow hmap hat0 hrx.1;clear hr hmap hrx hat0 hlow hc hm;go_enter Tryz.func112,Tryz.ntmps112;go_wp2_with fail
 refine HC.out.mono ?_;rintro e w1 ⟨hres,hk⟩;have K0:=lH hk;rcases hres with ⟨rfl,h0⟩ | ⟨g,c,rfl,ho⟩
 · have HE:=lH (show l=[] by rw[←VE.out,h0];rfl);clear h0 hk;go_wp2;refine wp_loop_rounds 1 ?_;rw[rounds_succ];go_wp2;go_ret;exact⟨_,[],rfl,HE.out.symm,⟨⟨_,_,_,rfl⟩,⟨Own.nil _ _ _,fun z h=>by cases h⟩,fun z h=>by cases h⟩,K0.out⟩
 · have HI:=lH (JT.start (At:=At4) (fst:=(fun z=>z.1)) ho VE.out hk fun z hz u k=>jq.kept (V7.out z hz) k);clear ho hk;go_wp2;go_loopw [12] (fun i wr=>∃(k:Nat) (lx:List PX),k≤len∧i=.int .i64 k∧lx.length=len∧JT PodLay0 41 At4 (fun z=>z.1) w.heap.size g len c k l w wr lx) (fun i _=>len-(intOf i).toNat)
   case atStart=>exact⟨0,lx0,Nat.zero_le _,rfl,Tk.out,HI.out⟩
   case round =>
    obtain⟨k,lx,hk,rfl,hlen,hinv⟩:=hrel;have HV:=lH hinv;have V8:=lH hlen;by_cases hlt:k<len
    · obtain⟨z,hz⟩:∃z,lx[k]?=some z:=⟨_,List.getElem?_eq_getElem (by omega)⟩
      obtain⟨n,⟨b1,n1,d1⟩,⟨b2,n2,d2⟩,⟨b3,n3,d3⟩,⟨b4,n4,d4⟩⟩:=z;have p0:wr.cell? ⟨g,k*11,none⟩=some (.string n.name):=hinv.own.cell_at hz (j:=0) rfl;have p1:wr.cell? ⟨g,k*11+1,none⟩=some (.string n.owner):=hinv.own.cell_at hz (j:=1) rfl;have p2:wr.cell? ⟨g,k*11+2,none⟩=some (.int .i64 n.prio):=hinv.own.cell_at hz (j:=2) rfl;have p3:wr.cell? ⟨g,k*11+3,none⟩=some (.slice b1 n1 d1):=hinv.own.cell_at hz (j:=3) rfl;have p4:wr.cell? ⟨g,k*11+4,none⟩=some (.slice b2 n2 d2):=hinv.own.cell_at hz (j:=4) rfl;have p5:wr.cell? ⟨g,k*11+5,none⟩=some (.slice b3 n3 d3):=hinv.own.cell_at hz (j:=5) rfl;have p6:wr.cell? ⟨g,k*11+6,none⟩=some (.slice b4 n4 d4):=hinv.own.cell_at hz (j:=6) rfl;have p7:wr.cell? ⟨g,k*11+7,none⟩=some (.string n.key):=hinv.own.cell_at hz (j:=7) rfl;have p8:wr.cell? ⟨g,k*11+8,none⟩=some (.int .i64 n.most):=hinv.own.cell_at hz (j:=8) rfl;have p9:wr.cell? ⟨g,k*11+9,none⟩=some (.string n.node):=hinv.own.cell_at hz (j:=9) rfl;have p10:wr.cell? ⟨g,k*11+10,none⟩=some (.bool n.hold):=hinv.own.cell_at hz (j:=10) rfl;obtain⟨HZ,HN,HA,Ug⟩:=lH4 hz (show n ∈ l by rw[←hinv.map];exact List.mem_map.2 ⟨_,List.mem_of_getElem? hz,rfl⟩) ((hinv.todo k _ hz (Nat.le_refl _)).here) hinv.kept.size;have hkk:(k:Int)<(len:Int):=by omega
      have Uu:=lH (jR hinv.own g rfl);have HO:=lH (Ji n (.slice b1 n1 d1) (.slice b2 n2 d2) (.slice b3 n3 d3) (.slice b4 n4 d4) _ (jq.kept HA.out (ja wr (.cells #[.string n.name,.string n.owner,.int .i64 n.prio,.slice b1 n1 d1,.slice b2 n2 d2,.slice b3 n3 d3,.slice b4 n4 d4,.string n.key,.int .i64 n.most,.string n.node,.bool n.hold] 41))) (Vq.out n HN.out));unfold jo at HO;clear hz hlen hinv;go_wp2_with fail
      refine HO.out.mono ?_;rintro e w2 ⟨v,rfl,hv,kk⟩;have KW:=lH ((ja wr (.cells #[.string n.name,.string n.owner,.int .i64 n.prio,.slice b1 n1 d1,.slice b2 n2 d2,.slice b3 n3 d3,.slice b4 n4 d4,.string n.key,.int .i64 n.most,.string n.node,.bool n.hold] 41)).trans kk);obtain⟨x1,y1,e1,x2,y2,e2,x3,y3,e3,x4,y4,e4,hv9,s0,g1,g2,g3,g4⟩:=hv;rw[World.size_alloc] at g1 g2 g3 g4;have hv9:v=.agg #[.string n.name,.string n.owner,.int .i64 n.prio,.slice x1 y1 e1,.slice x2 y2 e2,.slice x3 y3 e3,.slice x4 y4 e4,.string n.key,.int .i64 n.most,.string n.node,.bool n.hold]:=hv9;subst hv9;have Vo:=lH (show Off (fun b=>b<w.heap.size∨b=g) w2 fun u=>At4 u (n,(x1,y1,e1),(x2,y2,e2),(x3,y3,e3),(x4,y4,e4)) from jq.off (B:=wr.heap.size+1) s0 g1 g2 g3 g4 (fun b hb h=>by have:=Uu.out;have:=Ug.out;rcases h with h | h<;>omega));clear s0 g1 g2 g3 g4 kk;have q0:=cell_later KW.out p0;have q1:=cell_later KW.out p1;have q2:=cell_later KW.out p2;have q3:=cell_later KW.out p3;have q4:=cell_later KW.out p4;have q5:=cell_later KW.out p5;have q6:=cell_later KW.out p6;have q7:=cell_later KW.out p7;have q8:=cell_later KW.out p8;have q9:=cell_later KW.out p9;have q10:=cell_later KW.out p10;have x0f:w2.frozen? ⟨g,k*11,none⟩=false:=(HV.out.own.kept KW.out).frozen_at _;have x1f:w2.frozen? ⟨g,k*11+1,none⟩=false:=(HV.out.own.kept KW.out).frozen_at _;have x2f:w2.frozen? ⟨g,k*11+2,none⟩=false:=(HV.out.own.kept KW.out).frozen_at _;have x3f:w2.frozen? ⟨g,k*11+3,none⟩=false:=(HV.out.own.kept KW.out).frozen_at _;have x4f:w2.frozen? ⟨g,k*11+4,none⟩=false:=(HV.out.own.kept KW.out).frozen_at _;have x5f:w2.frozen? ⟨g,k*11+5,none⟩=false:=(HV.out.own.kept KW.out).frozen_at _;have x6f:w2.frozen? ⟨g,k*11+6,none⟩=false:=(HV.out.own.kept KW.out).frozen_at _;have x7f:w2.frozen? ⟨g,k*11+7,none⟩=false:=(HV.out.own.kept KW.out).frozen_at _;have x8f:w2.frozen? ⟨g,k*11+8,none⟩=false:=(HV.out.own.kept KW.out).frozen_at _;have x9f:w2.frozen? ⟨g,k*11+9,none⟩=false:=(HV.out.own.kept KW.out).frozen_at _;have x10f:w2.frozen? ⟨g,k*11+10,none⟩=false:=(HV.out.own.kept KW.out).frozen_at _;clear p0 p1 p2 p3 p4 p5 p6 p7 p8 p9 p10;have Vz:=lH (HV.out.next (z':=(n,(x1,y1,e1),(x2,y2,e2),(x3,y3,e3),(x4,y4,e4))) HZ.out rfl trivial KW.out Ug.out Vo.out);go_wp2;obtain⟨WE,hWE⟩:=eX (w2.setCells g (k*11) [.string n.name,.string n.owner,.int .i64 n.prio,.slice x1 y1 e1,.slice x2 y2 e2,.slice x3 y3 e3,.slice x4 y4 e4,.string n.key,.int .i64 n.most,.string n.node,.bool n.hold])
      have hWE2:(((((((((((w2.setCell ⟨g,k*11,none⟩ (.string n.name)).setCell ⟨g,k*11+1,none⟩ (.string n.owner)).setCell ⟨g,k*11+2,none⟩ (.int .i64 n.prio)).setCell ⟨g,k*11+3,none⟩ (.slice x1 y1 e1)).setCell ⟨g,k*11+4,none⟩ (.slice x2 y2 e2)).setCell ⟨g,k*11+5,none⟩ (.slice x3 y3 e3)).setCell ⟨g,k*11+6,none⟩ (.slice x4 y4 e4)).setCell ⟨g,k*11+7,none⟩ (.string n.key)).setCell ⟨g,k*11+8,none⟩ (.int .i64 n.most)).setCell ⟨g,k*11+9,none⟩ (.string n.node)).setCell ⟨g,k*11+10,none⟩ (.bool n.hold))=WE:=hWE;have Vz:=lH (show JT PodLay0 41 At4 (fun z=>z.1) w.heap.size g len c (k+1) l w WE (lx.set k (n,(x1,y1,e1),(x2,y2,e2),(x3,y3,e3),(x4,y4,e4))) by rw[←hWE];exact Vz.out);try rw[hWE2]
      clear hWE hWE2 q0 q1 q2 q3 q4 q5 q6 q7 q8 q9 q10 x0f x1f x2f x3f x4f x5f x6f x7f x8f x9f x10f;go_roundw
      case rel=>exact⟨k+1,_,by omega,by go_num,by rw[List.length_set];exact V8.out,Vz.out⟩
      case measure=>simp[intOf];omega
    · obtain⟨HD,UE,Tl⟩:=lH3 (hinv.deep (by omega)) hinv.kept hinv.map;clear hinv hlen;go_wp2;go_ret;exact⟨_,lx,rfl,Tl.out,⟨⟨_,_,_,rfl⟩,HD.out.1,fun z hz=>(HD.out.2 z hz).less fun b h=>h.imp id fun e=>(Option.some.inj e).symm⟩,UE.out⟩
theorem jdC (a:Option Addr) (len cap:Nat) (l:List Bd) (w:World) (hr:zu w a len l) (hc:len≤cap) (hm:cap≤maxLen) (hn:len≤100000) (hlow:∀n ∈ l,n.sel.length≤1000000) :
 Calls Tryz.prog 113 #[.slice a len cap,.func (.func 114) #[] #[]] w fun e w'=>∃v lx,e=.returned v∧(lx.map fun z=>z.1)=l∧Jo zN 178 At1 w.heap.size w' v lx∧Kept w w':=by
 obtain⟨lx0,hmap,hrx,hat0⟩:=jfO hr;obtain⟨HC,Vq,VE,V7,Tk⟩:=lH5 (jaG a len cap lx0 w hrx hc hm hn) hlow hmap hat0 hrx.1;clear hr hmap hrx hat0 hlow hc hm;go_enter Tryz.func113,Tryz.ntmps113;go_wp2_with fail
 refine HC.out.mono ?_;rintro e w1 ⟨hres,hk⟩;have K0:=lH hk;rcases hres with ⟨rfl,h0⟩ | ⟨g,c,rfl,ho⟩
 · have HE:=lH (show l=[] by rw[←VE.out,h0];rfl);clear h0 hk;go_wp2;refine wp_loop_rounds 1 ?_;rw[rounds_succ];go_wp2;go_ret;exact⟨_,[],rfl,HE.out.symm,⟨⟨_,_,_,rfl⟩,⟨Own.nil _ _ _,fun z h=>by cases h⟩,fun z h=>by cases h⟩,K0.out⟩
 · have HI:=lH (JT.start (At:=At1) (fst:=(fun z=>z.1)) ho VE.out hk fun z hz u k=>zB.kept (V7.out z hz) k);clear ho hk;go_wp2;go_loopw [12] (fun i wr=>∃(k:Nat) (lx:List BX),k≤len∧i=.int .i64 k∧lx.length=len∧JT zN 178 At1 (fun z=>z.1) w.heap.size g len c k l w wr lx) (fun i _=>len-(intOf i).toNat)
   case atStart=>exact⟨0,lx0,Nat.zero_le _,rfl,Tk.out,HI.out⟩
   case round =>
    obtain⟨k,lx,hk,rfl,hlen,hinv⟩:=hrel;have HV:=lH hinv;have V8:=lH hlen;by_cases hlt:k<len
    · obtain⟨z,hz⟩:∃z,lx[k]?=some z:=⟨_,List.getElem?_eq_getElem (by omega)⟩
      obtain⟨n,⟨b1,n1,d1⟩⟩:=z;have p0:wr.cell? ⟨g,k*3,none⟩=some (.string n.name):=hinv.own.cell_at hz (j:=0) rfl;have p1:wr.cell? ⟨g,k*3+1,none⟩=some (.slice b1 n1 d1):=hinv.own.cell_at hz (j:=1) rfl;have p2:wr.cell? ⟨g,k*3+2,none⟩=some (.int .i64 n.floor):=hinv.own.cell_at hz (j:=2) rfl;obtain⟨HZ,HN,HA,Ug⟩:=lH4 hz (show n ∈ l by rw[←hinv.map];exact List.mem_map.2 ⟨_,List.mem_of_getElem? hz,rfl⟩) ((hinv.todo k _ hz (Nat.le_refl _)).here) hinv.kept.size;have hkk:(k:Int)<(len:Int):=by omega
      have Uu:=lH (jR hinv.own g rfl);have HO:=lH (qq n b1 n1 d1 _ (zB.kept HA.out (ja wr (.cells #[.string n.name,.slice b1 n1 d1,.int .i64 n.floor] 178))) (Vq.out n HN.out));unfold jbC at HO;clear hz hlen hinv;go_wp2_with fail
      refine HO.out.mono ?_;rintro e w2 ⟨v,rfl,hv,kk⟩;have KW:=lH ((ja wr (.cells #[.string n.name,.slice b1 n1 d1,.int .i64 n.floor] 178)).trans kk);obtain⟨x1,y1,e1,hv9,s0,g1⟩:=hv;rw[World.size_alloc] at g1;have hv9:v=.agg #[.string n.name,.slice x1 y1 e1,.int .i64 n.floor]:=hv9;subst hv9;have Vo:=lH (show Off (fun b=>b<w.heap.size∨b=g) w2 fun u=>At1 u (n,(x1,y1,e1)) from zB.off (B:=wr.heap.size+1) s0 g1 (fun b hb h=>by have:=Uu.out;have:=Ug.out;rcases h with h | h<;>omega));clear s0 g1 kk;have q0:=cell_later KW.out p0;have q1:=cell_later KW.out p1;have q2:=cell_later KW.out p2;have x0f:w2.frozen? ⟨g,k*3,none⟩=false:=(HV.out.own.kept KW.out).frozen_at _;have x1f:w2.frozen? ⟨g,k*3+1,none⟩=false:=(HV.out.own.kept KW.out).frozen_at _;have x2f:w2.frozen? ⟨g,k*3+2,none⟩=false:=(HV.out.own.kept KW.out).frozen_at _;clear p0 p1 p2;have Vz:=lH (HV.out.next (z':=(n,(x1,y1,e1))) HZ.out rfl trivial KW.out Ug.out Vo.out);go_wp2;obtain⟨WE,hWE⟩:=eX (w2.setCells g (k*3) [.string n.name,.slice x1 y1 e1,.int .i64 n.floor])
      have hWE2:(((w2.setCell ⟨g,k*3,none⟩ (.string n.name)).setCell ⟨g,k*3+1,none⟩ (.slice x1 y1 e1)).setCell ⟨g,k*3+2,none⟩ (.int .i64 n.floor))=WE:=hWE;have Vz:=lH (show JT zN 178 At1 (fun z=>z.1) w.heap.size g len c (k+1) l w WE (lx.set k (n,(x1,y1,e1))) by rw[←hWE];exact Vz.out);try rw[hWE2]
      clear hWE hWE2 q0 q1 q2 x0f x1f x2f;go_roundw
      case rel=>exact⟨k+1,_,by omega,by go_num,by rw[List.length_set];exact V8.out,Vz.out⟩
      case measure=>simp[intOf];omega
    · obtain⟨HD,UE,Tl⟩:=lH3 (hinv.deep (by omega)) hinv.kept hinv.map;clear hinv hlen;go_wp2;go_ret;exact⟨_,lx,rfl,Tl.out,⟨⟨_,_,_,rfl⟩,HD.out.1,fun z hz=>(HD.out.2 z hz).less fun b h=>h.imp id fun e=>(Option.some.inj e).symm⟩,UE.out⟩
end Go.Proofs.YtabafpoklpiiiaaGreat
