/- What serves all packages,and package by package the contracts of the functions that the law calls. -/
import Derived.Test.YthmddloeggdohaaGreatDoorG0
import Derived.Test.YthmddloeggdohaaGreatDoorG1
import Derived.Test.YthmddloeggdohaaGreatDoorG2
import Derived.Test.YthmddloeggdohaaGreatDoorG3
set_option linter.unusedVariables false
set_option maxRecDepth 100000
set_option maxHeartbeats 25600000
namespace Go.Proofs.YthmddloeggdohaaGreatDoor
open Go.RowKit
theorem jci (B:Nat) (q:Nat) (x y:Int) (w:World) (hq:w.cell? ⟨q,0,none⟩=some (.int .i64 y)) (hzq:w.frozen? ⟨q,0,none⟩=false) (hBq:B≤q) :
 CallsD Tryz.prog 259 #[.pointer (some ⟨q,0,none⟩)] (.panicking [ju x]) w fun e u' w' =>
  e=.returned (.tuple #[])∧u'=.panicking [{ ju x with recovered:=true }]∧w'.cell? ⟨q,0,none⟩=some (.int .i64 x)∧Below B w w':=by
 have hta:∀W,(Instr.typeAssert (.iface 32 (.int .i64 x)) 20 32 false).run Tryz.prog W=.ok (.int .i64 x) W:=fun _=>by kernel_rfl
 refine callsD_of_wpS Tryz.func259 rfl fun c₀ cs hu=>?_;apply wpS_seq;apply wpS_region;simp[wpOpsS,go_sem,recoverD,hu,Tryz.ntmps259,Exit.thenS];apply wpS_seq;apply wpS_region;simp[wpOpsS,go_sem,recoverD,Exit.thenS];refine wpS_cond (t:=true) (by simp[Act.eval,Array.replicate]) ?_;simp only[if_true];refine wpS_of_wp ?_;simp[Array.replicate];go_wp2;simp[bodyPostS,results,Tryz.results259];exact⟨World.cell?_setCell_same' _ _ _ (by rw[hq];rfl),(Below.refl B w).setCell (p:=⟨q,0,none⟩) hBq _⟩
theorem jfW (q:Addr) (w:World) :
 CallsD Tryz.prog 259 #[.pointer (some q)] .returning w fun e u' w'=>e=.returned (.tuple #[])∧u'=.returning∧w'=w:=by
 refine callsD_of_wpS Tryz.func259 rfl fun c₀ cs hu=>?_;apply wpS_seq;apply wpS_region;simp[wpOpsS,go_sem,recoverD,hu,Tryz.ntmps259,Exit.thenS];apply wpS_seq;apply wpS_region;simp[wpOpsS,go_sem,recoverD,hu,Exit.thenS];refine wpS_cond (t:=false) (by simp[Act.eval,Array.replicate]) ?_;simp only[Bool.false_eq_true,if_false];refine wpS_of_wp (wp_skip ?_)
 cases c₀
 simp_all [bodyPostS,results,Tryz.results259]
def jmL (r:Int×NL) (w:World) (e:Ending) (w':World):Prop :=
 ∃v,e=.returned (.tuple #[v,.int .i64 r.1])∧Own jq 148 w' w.heap.size v r.2∧Kept w w'
theorem jhu (C:Addr) (r:Int×NL) (w:World) (hr:r.1≠0→r.2=[])
 (hk:∀W,Kept w W→Calls Tryz.prog 215 #[.pointer (some C)] W (jw jq 148 r W.heap.size W)) :
 Calls Tryz.prog 214 #[.func (.func 215) #[] #[.pointer (some C)]] w (jmL r w):=by
 have hmf:=hmfL (P:=Tryz.prog);have HK:=lH hk;have HR:=lH hr;clear hk hr;obtain⟨r1,r2⟩:=r;go_enter_defers Tryz.func214,Tryz.ntmps214
 go_wp2_with fail
 refine(HK.out _ (ja _ _)).mono ?_;rintro e1 w1 ⟨h0,h1,hb⟩;have k1:=hb.size;simp only[World.size_alloc] at k1;have c2:=(hb.cell (p:=⟨w.heap.size,0,none⟩) (by simp))
 have z2:=(hb.frozen (p:=⟨w.heap.size,0,none⟩) (by simp))
 have e2':w1.cell? ⟨w.heap.size,0,none⟩=some (.int .i64 0):=by rw[c2];go_simp
 have y2:w1.frozen? ⟨w.heap.size,0,none⟩=false:=by rw[z2];go_simp
 clear c2 z2;have KB:=lH (show Below w.heap.size w w1 from(ja w _).trans hb);by_cases hx:r1=0
 · subst hx;obtain⟨v,rfl,ho⟩:=h0 rfl;have HO:=lH ho;obtain⟨av,cv,rfl,_,_,_⟩:=ho.at_;have hsz:=World.size_alloc w (.cells #[.int .i64 0] 32);clear h0 h1 hb ho;go_wp2_with fail
   refine leaves_cons (f:=259) (args:=#[.pointer (some ⟨w.heap.size,0,none⟩)]) (by simp) (by simp[go_sem]) ?_;refine(jfW ⟨w.heap.size,0,none⟩ _).mono ?_;rintro e u' w'' ⟨rfl,rfl,rfl⟩;simp[Leaves,settle,results,Tryz.results214,go_sem,e2'];exact⟨_,rfl,(HO.out.setCell_below (a:=⟨w.heap.size,0,none⟩) (by simp) _).base_le (by simp),(KB.out.setCell (p:=⟨w.heap.size,0,none⟩) (Nat.le_refl _) _)⟩
 · obtain rfl:=h1 hx;obtain rfl:=HR.out hx;clear h0 h1 hb;go_wp2_with fail
   refine leaves_cons (f:=259) (args:=#[.pointer (some ⟨w.heap.size,0,none⟩)]) (by simp) (by simp[go_sem]) ?_;refine(jci w.heap.size w.heap.size r1 0 _ e2' y2 (by omega)).mono ?_;rintro e u' w'' ⟨rfl,rfl,q2,q3⟩;simp[Leaves,settle,results,Tryz.results214,go_sem,q2];exact⟨_,rfl,Own.nil _ _ _,KB.out.trans q3⟩
theorem jhc (s:List UInt8) (w:World) (hE:Env w) (hs:s.length≤1000000) :
 Calls Tryz.prog 216 #[.string (bytes s),.func (.func 217) #[] #[],.func (.func 218) #[] #[]] w (jw jq 148 (Jj s) w.heap.size w):=by
 by_cases h:s=[45]
 · subst h;exact jgq w
 · exact jhW s w hE hs h
theorem jmw (C:Addr) (s:List UInt8) (w:World) (h1:w.cell? C=some (.string (bytes s))) (hE:Env w) (hs:s.length≤1000000) :
 Calls Tryz.prog 215 #[.pointer (some C)] w (jw jq 148 (Jj s) w.heap.size w):=by
 have HE:=lH hE;clear hE;go_enter Tryz.func215,Tryz.ntmps215;go_wp2_with fail
 refine(jhc s _ HE.out hs).mono ?_;rintro e w' ⟨g0,g1,k⟩;by_cases hx:(Jj s).1=0
 · obtain⟨v,rfl,ho⟩:=g0 hx;have HX:=lH hx;have HO:=lH ho;have HK:=lH k;clear g0 g1 hx ho k;go_wp2;go_ret;exact jw.good HX.out HO.out HK.out
 · obtain rfl:=g1 hx;have HX:=lH hx;have HK:=lH k;clear g0 g1 hx k;go_wp2;exact⟨rfl,jw.bad rfl HX.out HK.out⟩
theorem jjb (s:List UInt8) (w:World) (hE:Env w) (hs:s.length≤1000000) :
 Calls Tryz.prog 166 #[.string (bytes s)] w (jmL (Jj s) w):=by
 have hmf:=hmfL (P:=Tryz.prog);have hC:∀W,Kept (w.alloc (.cells #[.string (bytes s)] 9)) W→Calls Tryz.prog 215 #[.pointer (some ⟨w.heap.size,0,none⟩)] W (jw jq 148 (Jj s) W.heap.size W):=by
  intro W k;have c1:=k.cell (p:=⟨w.heap.size,0,none⟩) (by simp);exact jmw ⟨w.heap.size,0,none⟩ s W (by rw[c1];go_simp) (hE.kept ((ja w _).trans k)) hs
 have HC:=lH hC;clear hC hE hs;go_enter Tryz.func166,Tryz.ntmps166;go_wp2_with fail
 refine(jhu ⟨w.heap.size,0,none⟩ (Jj s) _ Xs HC.out).mono ?_;rintro e w' ⟨v,rfl,ho,k⟩;have HO:=lH ho;have HK:=lH k;clear ho k;go_wp2;go_ret2
 exact⟨v,rfl,HO.out.base_le (by simp),(ja w _).trans HK.out⟩
open Go.RowKit Go.Shelf
attribute [local go_sem] Oper.semAt_some
theorem joy:(Tryz.prog.info? 156).map (fun i=>(i.zero,i.size,i.bytes))=some (some (.agg #[.string ByteArray.empty,.string ByteArray.empty,.bool false]),3,40):=by kernel_rfl
theorem jjL {p:List UInt8} (h:p.length≤1000000):jq.fine (JA p):=by
 have h1:=(Yl p [58]).1;have h2:=(Yl p [58]).2;unfold JA;refine⟨?_,?_⟩
 · show (jer _).size≤maxLen;unfold jer;split
   · exact Nat.zero_le _
   · rw[ji];unfold maxLen;omega
 · show (bytes _).size≤maxLen;rw[ji];unfold maxLen;omega
def J8 (s:List UInt8):=Js JO JA zw s
theorem jfQ (w:World) :
 Calls Tryz.prog 230 #[.string (bytes [45]),.func (.func 231) #[] #[],.func (.func 232) #[] #[]] w (jw jq 156 (J8 [45]) w.heap.size w):=by
 have e:((bytes [45]).toList==[45])=true:=by rw[jn];rfl
 go_enter Tryz.func230,Tryz.ntmps230;go_wp2;go_ret;exact jw.good rfl (Own.nil _ _ _) (ja _ _)
theorem jhU (s:List UInt8) (w:World) (hE:Env w) (hs:s.length≤1000000) (hd:s≠[45]) :
 Calls Tryz.prog 230 #[.string (bytes s),.func (.func 231) #[] #[],.func (.func 232) #[] #[]] w (jw jq 156 (J8 s) w.heap.size w):=by
 have hdash:((bytes s).toList==[45])=false:=by rw[jn];simpa using hd
 have HD0:=lH hd;clear hd;refine ZC (n:=6) Tryz.func230 rfl ?_;simp only[Tryz.ntmps230,List.size_toArray,List.length_cons,List.length_nil,Nat.reduceAdd,Nat.reduceSub,Array.replicate_succ,Array.replicate_zero,List.push_toArray,List.append_toArray,List.nil_append,List.cons_append];refine jQ (j6 (n:=6) ?_);gi_wp2
 refine jQ (j6 (n:=6) ?_);gi_wp2
 refine jQ (j6 (n:=6) ?_);gi_wp2
 obtain⟨V0,hV0⟩:∃V0,(w.alloc (.cells #[.func (.func 231) #[] #[]] 300)).alloc (.cells #[.slice none 0 0] 60)=V0:=⟨_,rfl⟩
 have HV0S:=lH (show V0.heap.size=w.heap.size+2 by rw[←hV0];simp);have HV0K:=lH (show Kept w V0 by rw[←hV0];exact jk _ _ _);have HV0C:=lH (show V0.cell? ⟨w.heap.size+1,0,none⟩=some (.slice none 0 0)∧V0.frozen? ⟨w.heap.size+1,0,none⟩=false∧V0.cell? ⟨w.heap.size,0,none⟩=some (.func (.func 231) #[] #[]) by
  rw[←hV0];exact qJ w _ _ _ _)
 rw[hV0];clear hV0;have HE:=lH hE;have HPL:=lH (fun p (h:p ∈ partsOf s)=>Nat.le_trans (YG s p h) hs);have hcl:(bytes s).size≤281474976710656:=by rw[ji];omega
 clear hE;refine jQ (jQ (j6 (n:=6) ?_));gi_wp2_with (first | (refine⟨trivial,?_⟩;gi_at_call 160;refine(callsIn_wide.2 (Zp _ _ hcl)).mono ?_;rintro e w1 ⟨rfl,k1⟩;have K1:=lH k1;clear k1) | (refine⟨trivial,?_⟩;gi_at_call 252;refine(callsIn_wide.2 (ZX s _)).mono ?_;rintro e w2 ⟨rfl,rfl⟩))
 refine Yg ?_;obtain⟨m,hm⟩:∃m,w1.heap.size=m:=⟨_,rfl⟩
 have bc:=Yp w1 s;have bsz:=YQ w1 s;rw[hm] at bc bsz ⊢;have HM:=lH hm;have hwm:w.heap.size+2≤m:=by rw[←hm,←HV0S.out];exact K1.out.size
 have HWM:=lH hwm;have HB0:=lH (show Below w.heap.size w (boxes w1 s) from HV0K.out.trans (K1.out.trans (Jq w1 s)));have HK0:=lH (show Kept V0 (boxes w1 s) from K1.out.trans (Jq w1 s));have HC0:=lH (show (boxes w1 s).cell? ⟨w.heap.size+1,0,none⟩=some (.slice none 0 0)∧(boxes w1 s).frozen? ⟨w.heap.size+1,0,none⟩=false∧(boxes w1 s).cell? ⟨w.heap.size,0,none⟩=some (.func (.func 231) #[] #[]) from
  ⟨cell_later HK0.out HV0C.out.1,(HK0.out.frozen (p:=⟨w.heap.size+1,0,none⟩) (by rw[HV0S.out];exact Nat.lt_succ_self _)).trans HV0C.out.2.1,cell_later HK0.out HV0C.out.2.2⟩)
 clear hm;refine YO (n:=6) Tryz.func230 (by decide) (m+1) m (m+2) rfl s hs (by omega) (by omega) (by omega) (by omega) (by omega) bc.1 bc.2.1 bc.2.2.1 bc.2.2.2
  (fun k W'=>Below w.heap.size w W'∧(∀p ∈ (partsOf s).take k,JO p=false)∧W'.cell? ⟨w.heap.size,0,none⟩=some (.func (.func 231) #[] #[])∧X7 jq 156 (m+5) (w.heap.size+1) (zN JA (partsOf s) k) W')
  (fun c W'=>c=[ju 2]∧Below w.heap.size w W'∧(partsOf s).any JO=true)
  (fun k W1 W2 h st=>⟨Below.st h.1 st (by omega) (by omega),h.2.1,jcc h.2.2.1 st (by omega) (by omega),h.2.2.2.st st (by omega) (by omega) (by omega)⟩) (fun k W' h=>HE.out.kept h.1) ⟨HB0.out,by simp,HC0.out.2.2,⟨_,HC0.out.1,HC0.out.2.1,Own.nil _ _ _⟩⟩
  (fun x=>{ tmps:=#[.string (bytes s),.func (.func 231) #[] #[],.func (.func 232) #[] #[],undef,.pointer (some ⟨w.heap.size,0,none⟩),undef,.slice none 0 0,.pointer (some ⟨w.heap.size+1,0,none⟩),.string x,undef,.string (bytes s),.bool false,.string (bytes s),.string (bytes s),
    .func (.func 301) #[] #[.pointer (some ⟨m+1,0,none⟩),.pointer (some ⟨m,0,none⟩),.pointer (some ⟨m+2,0,none⟩)],.string x,
    undef,undef,undef,undef,undef,undef,undef,undef,undef,undef,undef,undef,undef,undef,undef],defers:=[] }) ?assign ?body ?done ?panic
 case assign =>
  intro l x W' K hK;gi_wp2
  exact hK
 case panic =>
  rintro c W' ⟨rfl,hB',hbad⟩ hk';have HV:=lH (show J8 s=(2,[]) by unfold J8 Js;rw[if_neg HD0.out,if_pos hbad]);refine⟨by simp,.inl ⟨_,_,rfl,run_takeDeferred hk',?_⟩⟩;exact jw.bad (by rw[HV.out]) (by decide) (zn hB' (by omega))
 case body =>
  rintro l k p W' hp ⟨hB',hd',hfc,v,hvc',hvf',hvo⟩ hlt';have hmem:p ∈ partsOf s:=List.mem_of_getElem? hp;have HMEM:=lH hmem;have hpl:=HPL.out p hmem;have HE':=lH (HE.out.kept hB');have HB':=lH hB';have HD':=lH hd';have HP:=lH hp;have hvb:w.heap.size+1<W'.heap.size:=by rw[bsz] at hlt';omega
  have HLT:=lH (show m+5≤W'.heap.size by rw[bsz] at hlt';omega);have HHD:Hid ((boxes w1 s).heap.size=m+3):=lH bsz;by_cases hgood:JO p=false
  · have HGOOD:=lH hgood;obtain⟨x,y,bb,hxy⟩:∃x y bb,JA p=(x,y,bb):=⟨_,_,_,rfl⟩
    have HXY:=lH hxy;have HCALL:=lH (jlx p W' HE'.out hpl hgood);rw[hxy] at HCALL;obtain⟨av,cv,rfl,q1,q2,q3⟩:=hvo.at_;obtain⟨n,hn⟩:∃n,(zN JA (partsOf s) k).length=n:=⟨_,rfl⟩
    rw[hn] at hvo hvc';have HVO:=lH hvo;have HFC0:=lH hfc;have HN:=lH hn;have hn9:n≤9:=by
     have:=XG (f:=JA) (show k≤(partsOf s).length from Nat.le_of_lt (List.getElem?_eq_some_iff.1 hp).1);omega
    clear bc bsz hB' hd' hp hmem hlt' q3 hvo hn q1 q2 hgood hxy;gi_wp2_with (refine⟨trivial,?_⟩;gi_at_call 231;refine(CallsIn.inRound l (callsIn_wide.2 HCALL.out)).mono ?_;rintro e W1 ⟨rfl,k1⟩;have K1':=lH k1;have hvc1:=cell_later k1 hvc';have hvf1:=(k1.frozen (p:=⟨w.heap.size+1,0,none⟩) hvb).trans hvf';have hm1:w.heap.size+1<W1.heap.size:=Nat.lt_of_lt_of_le hvb k1.size;clear k1 hvc' hvf' hfc;refine Hid.out ?_)
    refine lH ?_;by_cases h8:n≤8
    · obtain⟨i0,hi,hz0,hz1,hz2⟩:=info_parts joy;gi_wp2_with (gi_at_builtin;go_must (refine wpListIn_append_own _ rfl (.tmp 22) (.tmp 24) _ rfl (m+5) 156 i0 _ 3 40 Tryz.underlying60 hi hz0 hz1 hz2 rfl (by decide) _ n (jd jq (zN JA (partsOf s) k)) rfl (((HVO.out.kept K1'.out).kept (jk W1 (.cells #[.string x,.string y,.bool bb] 156) (.cells #[.string x,.string y,.bool bb] 156))).row HN.out) ⟨W1.heap.size+1,0,none⟩ 1 1 [.string x,.string y,.bool bb] rfl rfl (jiN _ _ (.string x) (.string y) (.bool bb) _) (jap x y bb) (by unfold maxLen;omega) (by omega) (by rw[World.size_alloc,World.size_alloc];have:=HLT.out;have:=K1'.out.size;omega) ?_);intro v' w2 hown' hgrow _;refine Hid.out ?_)
      refine lH ?_;obtain⟨g',cap',rfl⟩:=ownsRow_succ hown';have KA:=lH (show Kept W' ((W1.alloc (.cells #[.string x,.string y,.bool bb] 156)).alloc (.cells #[.string x,.string y,.bool bb] 156)) from K1'.out.trans (jk W1 _ _));have hrow:∀r,(Value.slice av n cv).ownBlock=some r→m+5≤r:=fun r hr=>(HVO.out.1.lt r hr).1;have hbl:∀b,b<m+5→w2.heap[b]?=W'.heap[b]?:=fun b hb=>(hgrow.block b (Nat.lt_of_lt_of_le hb (Nat.le_trans HLT.out KA.out.size)) (fun e=>by have:=hrow b e.symm;omega)).trans (KA.out.block b (Nat.lt_of_lt_of_le hb HLT.out));have HBL:=lH hbl;have hvc2:w2.cell? ⟨w.heap.size+1,0,none⟩=some (.slice av n cv):=(World.cell?_of_block (a:=⟨w.heap.size+1,0,none⟩) (hgrow.block (w.heap.size+1) (by simp;omega) (fun e=>by have:=hrow _ e.symm;omega))).trans (cell_later (jk W1 _ _) hvc1);have hvf2:w2.frozen? ⟨w.heap.size+1,0,none⟩=false:=(World.frozen?_of_block (a:=⟨w.heap.size+1,0,none⟩) (hgrow.block (w.heap.size+1) (by simp;omega) (fun e=>by have:=hrow _ e.symm;omega))).trans (((jk W1 _ _).frozen (p:=⟨w.heap.size+1,0,none⟩) hm1).trans hvf1);have HOWN:=lH hown';have HGS:=lH (show Below w.heap.size w w2 from⟨hgrow.os.trans (KA.out.os.trans HB'.out.os),hgrow.tape.trans (KA.out.tape.trans HB'.out.tape),hgrow.output.trans (KA.out.output.trans HB'.out.output),Nat.le_trans HB'.out.size (Nat.le_trans KA.out.size hgrow.size),fun b hb=>(HBL.out b (by omega)).trans (HB'.out.block b hb)⟩);have HFC:=lH (show w2.cell? ⟨w.heap.size,0,none⟩=some (.func (.func 231) #[] #[]) from(World.cell?_of_block (a:=⟨w.heap.size,0,none⟩) (HBL.out w.heap.size (by omega))).trans HFC0.out);clear hvc1 hvf1 hown' hgrow hrow hbl hi hz0 hz1 hz2;gi_wp2
      refine⟨fun b hb=>?_,HGS.out.setCell (p:=⟨w.heap.size+1,0,none⟩) (by show w.heap.size≤w.heap.size+1;omega) _,Z6 HD'.out HP.out HGOOD.out,?_,⟨_,World.cell?_setCell_same' _ _ _ (by rw[hvc2];rfl),by rw[World.frozen?_setCell];exact hvf2,?_⟩⟩
      · have hbm:b<m+5∧b≠w.heap.size+1:=by have:=HHD.out;rcases hb with h | h | h | h | h<;>omega
        exact(Below.heap_setCell w2 ⟨w.heap.size+1,0,none⟩ _ b hbm.2).trans (HBL.out b hbm.1)
      · rw[World.cell?_setCell_other _ _ _ _ (by intro e;injection e with e;omega)];exact HFC.out
      · have hl:(zN JA (partsOf s) (k+1)).length=n+1:=by rw[JD HP.out (by rw[HN.out];exact h8),List.length_append,HN.out];rfl
        have ho:Own jq 156 w2 (m+5) (.slice (some ⟨g',0,none⟩) (n+1) cap') (zN JA (partsOf s) (k+1)):=by
         refine⟨?_,?_⟩
         · rw[hl,JD HP.out (by rw[HN.out];exact h8),jC,HXY.out];exact HOWN.out
         · rw[JD HP.out (by rw[HN.out];exact h8)];intro z hz;rcases List.mem_append.1 hz with g | g
           · exact HVO.out.2 z g
           · have:z=JA p:=by simpa using g
             rw[this];exact jjL hpl
        exact ho.setCell_below (a:=⟨w.heap.size+1,0,none⟩) (by show w.heap.size+1<m+5;omega) _
    · have HFULL:=lH (qO (f:=JA) HP.out (by rw[HN.out];exact h8));have h9:8<n:=by omega
      have HQ1:=lH (cell_later (ja W1 (.cells #[.string x,.string y,.bool bb] 156)) hvc1);have HQ2:=lH (((ja W1 (.cells #[.string x,.string y,.bool bb] 156)).frozen (p:=⟨w.heap.size+1,0,none⟩) hm1).trans hvf1);have HFC:=lH (show (W1.alloc (.cells #[.string x,.string y,.bool bb] 156)).cell? ⟨w.heap.size,0,none⟩=some (.func (.func 231) #[] #[]) from cell_later (K1'.out.trans (ja W1 _)) HFC0.out);clear h8;gi_wp2
      refine⟨fun b hb=>?_,HB'.out.trans (Below.mono (Kept.trans K1'.out (ja W1 _)) HB'.out.size),Z6 HD'.out HP.out HGOOD.out,HFC.out,⟨.slice av n cv,HQ1.out,HQ2.out,?_⟩⟩
      · have hbm:b<m+5:=by have:=HHD.out;rcases hb with h | h | h | h | h<;>omega
        exact(Kept.trans K1'.out (ja W1 _)).block b (Nat.lt_of_lt_of_le hbm HLT.out)
      · rw[HFULL.out];exact HVO.out.kept (Kept.trans K1'.out (ja W1 _))
  · have HBAD:=lH (show JO p=true by simpa using hgood);clear bc bsz hB' hd' hp hmem hlt' hvo hvc' hvf' hgood;gi_wp2_with (refine⟨trivial,?_⟩;gi_at_call 231;refine(CallsIn.inRound l (callsIn_wide.2 (jkO p _ HE'.out hpl HBAD.out))).mono ?_;rintro e W1 ⟨rfl,k1⟩;have K1':=lH k1;clear k1)
    refine⟨rfl,fun b hb=>?_,rfl,HB'.out.trans (Below.mono K1'.out HB'.out.size),?_⟩
    · have hbm:b<m+5:=by have:=HHD.out;rcases hb with h | h | h | h | h<;>omega
      exact K1'.out.block b (Nat.lt_of_lt_of_le hbm HLT.out)
    · rw[List.any_eq_true];exact⟨p,HMEM.out,HBAD.out⟩
 case done =>
  rintro W' ⟨hB',hd',hfc,v,hvc',hvf',hvo⟩ hk';have hany:(partsOf s).any JO=false:=by
   rw[List.any_eq_false];intro p hp;rw[hd' p (by simpa using hp)];decide
  have hacc:zN JA (partsOf s) (partsOf s).length=((partsOf s).map JA).take 9:=by unfold zN;rw[List.take_length]
  rw[hacc] at hvo;obtain⟨R,hR⟩:∃R,((partsOf s).map JA).take 9=R:=⟨_,rfl⟩
  have HV:=lH (show J8 s=if zw R≠0 then (zw R,[]) else (0,R) by unfold J8 Js;rw[if_neg HD0.out,if_neg (by rw[hany];decide),hR]);rw[hR] at hvo;obtain⟨av,cv,rfl,q1,q2,q3⟩:=hvo.at_;have HVO:=lH hvo;have HCHK:=lH (fun W (k:Kept W' W)=>jdf av R.length cv R W (q3.kept k));have HDD:=lH hk';have HB':=lH hB';have HLT:=lH (show m+3<W'.heap.size by have:=(Array.getElem?_eq_some_iff.1 hk').1;rw[bsz] at this;exact this);have HBS:=lH bsz;have hvb:w.heap.size+1<W'.heap.size:=by have:=HLT.out;omega
  clear bc bsz hB' hd' hk' hvo q3 q1 q2 hR hacc hany hfc;refine j6 (n:=6) (wpIn_wide.2 ?_);have KD:=lH (Kept.drew W');have f1:=cell_later KD.out hvc';by_cases hc:zw R=0
  · have HC:=lH hc;have HCW:=lH (HCHK.out _ KD.out);rw[hc] at HCW;clear hc;go_wp2;go_region_held3 (fun W=>W.cell? ⟨w.heap.size+1,0,none⟩=some (.slice av R.length cv)∧Kept W' W)
     (first | exact⟨f1,KD.out⟩ | exact⟨cell_later K1.out f1,KD.out.trans K1.out⟩)
     (first | (go_at_call 232;refine HCW.out.mono ?_;rintro e1 W1 ⟨rfl,k1⟩;have K1:=lH k1;clear k1) | (go_at_call 178;refine(jeL _ _).mono ?_;rintro e2 w2 ⟨rfl,rfl⟩))
    go_wp2;have K1':=lH (KD.out.trans K1.out);have e1:W1.heap[(boxes w1 s).heap.size]?=some (.deferred (some [])):=(K1'.out.block _ (by rw[HBS.out];exact HLT.out)).trans HDD.out;refine⟨by simp,.inl ⟨_,_,rfl,run_takeDeferred e1,?_⟩⟩;refine⟨_,results_tmp rfl _ _ _,?_⟩;refine jw.good (by rw[HV.out,if_neg (by rw[HC.out];decide)]) (by rw[HV.out,if_neg (by rw[HC.out];decide)];exact((HVO.out.kept K1'.out).put (by rw[HBS.out];omega) _).base_le (by omega)) ?_;exact zn (HB'.out.trans (Below.mono K1'.out HB'.out.size)) (by rw[HBS.out];omega)
  · have HC:=lH hc;have HCW:=lH (HCHK.out _ KD.out);clear hc;go_wp2;refine Code.wp_mono (Q:=fun e a W=>match e with | .panic c=>c=[ju (zw R)]∧Kept W' W∧a.defers=[{ target:=.collected (boxes w1 s).heap.size,args:=#[] }] | _=>False) ?post ?_
    case post =>
     intro e a' W1 h
     cases e<;>try exact h.elim
     obtain⟨rfl,hk,hd⟩:=h;obtain⟨tm,df⟩:=a';dsimp only at hd;subst hd;have e1:W1.heap[(boxes w1 s).heap.size]?=some (.deferred (some [])):=(hk.block _ (by rw[HBS.out];exact HLT.out)).trans HDD.out;refine⟨by simp,.inl ⟨_,_,rfl,run_takeDeferred e1,?_⟩⟩;exact jw.bad (by rw[HV.out,if_pos HC.out]) HC.out (zn (HB'.out.trans (Below.mono hk HB'.out.size)) (by rw[HBS.out];omega))
    refine wp_region_held_drew (S:=fun W=>W.cell? ⟨w.heap.size+1,0,none⟩=some (.slice av R.length cv)∧Kept W' W) (by kernel_rfl) ⟨f1,KD.out⟩ (fun hHeld=>?_);refine tkI 0 ?_;refine tkI 1 ?_;refine tkI 2 ?_;try simp only[nP]
    refine rdH (rs:=[3]) (h:=AllReadyH.cons rfl (fun K hK=>?_) AllReadyH.nil);go_simp;refine HCW.out.mono ?_;rintro e1 W1 ⟨rfl,k1⟩;have K1:=lH k1;refine hK.out _ _ ⟨cell_later k1 f1,KD.out.trans k1⟩ (fun hHeld2=>?_);clear hK K k1;try simp only[nP]
    refine rdH (rs:=[4]) (h:=AllReadyH.cons rfl (fun K hK=>?_) AllReadyH.nil);go_simp;refine(ji1 _ _ _ HC.out).mono ?_;rintro e2 w2 ⟨rfl,rfl⟩;first | exact⟨rfl,KD.out.trans K1.out⟩ | exact⟨rfl,rfl,KD.out.trans K1.out,rfl⟩ | exact⟨rfl,KD.out.trans K1.out,rfl⟩
end Go.Proofs.YthmddloeggdohaaGreatDoor
namespace Go.Proofs.YthmddloeggdohaaGreatDoor
open Go.RowKit
theorem jcg (B:Nat) (q:Nat) (x y:Int) (w:World) (hq:w.cell? ⟨q,0,none⟩=some (.int .i64 y)) (hzq:w.frozen? ⟨q,0,none⟩=false) (hBq:B≤q) :
 CallsD Tryz.prog 270 #[.pointer (some ⟨q,0,none⟩)] (.panicking [ju x]) w fun e u' w' =>
  e=.returned (.tuple #[])∧u'=.panicking [{ ju x with recovered:=true }]∧w'.cell? ⟨q,0,none⟩=some (.int .i64 x)∧Below B w w':=by
 have hta:∀W,(Instr.typeAssert (.iface 32 (.int .i64 x)) 20 32 false).run Tryz.prog W=.ok (.int .i64 x) W:=fun _=>by kernel_rfl
 refine callsD_of_wpS Tryz.func270 rfl fun c₀ cs hu=>?_;apply wpS_seq;apply wpS_region;simp[wpOpsS,go_sem,recoverD,hu,Tryz.ntmps270,Exit.thenS];apply wpS_seq;apply wpS_region;simp[wpOpsS,go_sem,recoverD,Exit.thenS];refine wpS_cond (t:=true) (by simp[Act.eval,Array.replicate]) ?_;simp only[if_true];refine wpS_of_wp ?_;simp[Array.replicate];go_wp2;simp[bodyPostS,results,Tryz.results270];exact⟨World.cell?_setCell_same' _ _ _ (by rw[hq];rfl),(Below.refl B w).setCell (p:=⟨q,0,none⟩) hBq _⟩
theorem jf5 (q:Addr) (w:World) :
 CallsD Tryz.prog 270 #[.pointer (some q)] .returning w fun e u' w'=>e=.returned (.tuple #[])∧u'=.returning∧w'=w:=by
 refine callsD_of_wpS Tryz.func270 rfl fun c₀ cs hu=>?_;apply wpS_seq;apply wpS_region;simp[wpOpsS,go_sem,recoverD,hu,Tryz.ntmps270,Exit.thenS];apply wpS_seq;apply wpS_region;simp[wpOpsS,go_sem,recoverD,hu,Exit.thenS];refine wpS_cond (t:=false) (by simp[Act.eval,Array.replicate]) ?_;simp only[Bool.false_eq_true,if_false];refine wpS_of_wp (wp_skip ?_)
 cases c₀
 simp_all [bodyPostS,results,Tryz.results270]
def jmK (r:Int×NL) (w:World) (e:Ending) (w':World):Prop :=
 ∃v,e=.returned (.tuple #[v,.int .i64 r.1])∧Own jq 156 w' w.heap.size v r.2∧Kept w w'
theorem jhD (C:Addr) (r:Int×NL) (w:World) (hr:r.1≠0→r.2=[])
 (hk:∀W,Kept w W→Calls Tryz.prog 229 #[.pointer (some C)] W (jw jq 156 r W.heap.size W)) :
 Calls Tryz.prog 228 #[.func (.func 229) #[] #[.pointer (some C)]] w (jmK r w):=by
 have hmf:=hmfL (P:=Tryz.prog);have HK:=lH hk;have HR:=lH hr;clear hk hr;obtain⟨r1,r2⟩:=r;go_enter_defers Tryz.func228,Tryz.ntmps228
 go_wp2_with fail
 refine(HK.out _ (ja _ _)).mono ?_;rintro e1 w1 ⟨h0,h1,hb⟩;have k1:=hb.size;simp only[World.size_alloc] at k1;have c2:=(hb.cell (p:=⟨w.heap.size,0,none⟩) (by simp))
 have z2:=(hb.frozen (p:=⟨w.heap.size,0,none⟩) (by simp))
 have e2':w1.cell? ⟨w.heap.size,0,none⟩=some (.int .i64 0):=by rw[c2];go_simp
 have y2:w1.frozen? ⟨w.heap.size,0,none⟩=false:=by rw[z2];go_simp
 clear c2 z2;have KB:=lH (show Below w.heap.size w w1 from(ja w _).trans hb);by_cases hx:r1=0
 · subst hx;obtain⟨v,rfl,ho⟩:=h0 rfl;have HO:=lH ho;obtain⟨av,cv,rfl,_,_,_⟩:=ho.at_;have hsz:=World.size_alloc w (.cells #[.int .i64 0] 32);clear h0 h1 hb ho;go_wp2_with fail
   refine leaves_cons (f:=270) (args:=#[.pointer (some ⟨w.heap.size,0,none⟩)]) (by simp) (by simp[go_sem]) ?_;refine(jf5 ⟨w.heap.size,0,none⟩ _).mono ?_;rintro e u' w'' ⟨rfl,rfl,rfl⟩;simp[Leaves,settle,results,Tryz.results228,go_sem,e2'];exact⟨_,rfl,(HO.out.setCell_below (a:=⟨w.heap.size,0,none⟩) (by simp) _).base_le (by simp),(KB.out.setCell (p:=⟨w.heap.size,0,none⟩) (Nat.le_refl _) _)⟩
 · obtain rfl:=h1 hx;obtain rfl:=HR.out hx;clear h0 h1 hb;go_wp2_with fail
   refine leaves_cons (f:=270) (args:=#[.pointer (some ⟨w.heap.size,0,none⟩)]) (by simp) (by simp[go_sem]) ?_;refine(jcg w.heap.size w.heap.size r1 0 _ e2' y2 (by omega)).mono ?_;rintro e u' w'' ⟨rfl,rfl,q2,q3⟩;simp[Leaves,settle,results,Tryz.results228,go_sem,q2];exact⟨_,rfl,Own.nil _ _ _,KB.out.trans q3⟩
theorem jh1 (s:List UInt8) (w:World) (hE:Env w) (hs:s.length≤1000000) :
 Calls Tryz.prog 230 #[.string (bytes s),.func (.func 231) #[] #[],.func (.func 232) #[] #[]] w (jw jq 156 (J8 s) w.heap.size w):=by
 by_cases h:s=[45]
 · subst h;exact jfQ w
 · exact jhU s w hE hs h
theorem jlH (C:Addr) (s:List UInt8) (w:World) (h1:w.cell? C=some (.string (bytes s))) (hE:Env w) (hs:s.length≤1000000) :
 Calls Tryz.prog 229 #[.pointer (some C)] w (jw jq 156 (J8 s) w.heap.size w):=by
 have HE:=lH hE;clear hE;go_enter Tryz.func229,Tryz.ntmps229;go_wp2_with fail
 refine(jh1 s _ HE.out hs).mono ?_;rintro e w' ⟨g0,g1,k⟩;by_cases hx:(J8 s).1=0
 · obtain⟨v,rfl,ho⟩:=g0 hx;have HX:=lH hx;have HO:=lH ho;have HK:=lH k;clear g0 g1 hx ho k;go_wp2;go_ret;exact jw.good HX.out HO.out HK.out
 · obtain rfl:=g1 hx;have HX:=lH hx;have HK:=lH k;clear g0 g1 hx k;go_wp2;exact⟨rfl,jw.bad rfl HX.out HK.out⟩
theorem ji5 (s:List UInt8) (w:World) (hE:Env w) (hs:s.length≤1000000) :
 Calls Tryz.prog 179 #[.string (bytes s)] w (jmK (J8 s) w):=by
 have hmf:=hmfL (P:=Tryz.prog);have hC:∀W,Kept (w.alloc (.cells #[.string (bytes s)] 9)) W→Calls Tryz.prog 229 #[.pointer (some ⟨w.heap.size,0,none⟩)] W (jw jq 156 (J8 s) W.heap.size W):=by
  intro W k;have c1:=k.cell (p:=⟨w.heap.size,0,none⟩) (by simp);exact jlH ⟨w.heap.size,0,none⟩ s W (by rw[c1];go_simp) (hE.kept ((ja w _).trans k)) hs
 have HC:=lH hC;clear hC hE hs;go_enter Tryz.func179,Tryz.ntmps179;go_wp2_with fail
 refine(jhD ⟨w.heap.size,0,none⟩ (J8 s) _ Xs HC.out).mono ?_;rintro e w' ⟨v,rfl,ho,k⟩;have HO:=lH ho;have HK:=lH k;clear ho k;go_wp2;go_ret2
 exact⟨v,rfl,HO.out.base_le (by simp),(ja w _).trans HK.out⟩
def zh (x:NT):ByteArray:=if x.2.2=true then x.1++⟨#[58]⟩++x.2.1++⟨#[33]⟩ else x.1++⟨#[58]⟩++x.2.1
def JI (x:ByteArray):ByteArray:=if Zj x=true then ⟨#[42]⟩ else x
def Jx (x:NT):ByteArray:=if x.2.2=true then JI x.1 else JI x.1++⟨#[58]⟩++x.2.1
theorem jjp (x y:ByteArray):zh (x,y,true)=x++⟨#[58]⟩++y++⟨#[33]⟩:=rfl
theorem jkU (x y:ByteArray):zh (x,y,false)=x++⟨#[58]⟩++y:=rfl
theorem jcQ {x:NT} (h1:x.1.size≤900000) (h2:x.2.1.size≤900000):(zh x).size≤2000001:=by
 have e1:(⟨#[58]⟩:ByteArray).size=1:=rfl;have e2:(⟨#[33]⟩:ByteArray).size=1:=rfl;unfold zh;split
 · rw[ByteArray.size_append,ByteArray.size_append,ByteArray.size_append];omega
 · rw[ByteArray.size_append,ByteArray.size_append];omega
theorem jiS {x:ByteArray} (h:x.size≤900000):(JI x).size≤900000:=by
 unfold JI;split
 · exact(by decide:(⟨#[42]⟩:ByteArray).size≤900000)
 · exact h
theorem jlh {x:NT} (h1:x.1.size≤900000) (h2:x.2.1.size≤900000):(Jx x).size≤2000001:=by
 have e1:(⟨#[58]⟩:ByteArray).size=1:=rfl;have:=jiS h1;unfold Jx;split
 · omega
 · rw[ByteArray.size_append,ByteArray.size_append];omega
theorem jfa (x y:ByteArray) (m:Bool) (w:World) (hx:x.size≤900000) (hy:y.size≤900000) :
 Calls Tryz.prog 73 #[NV x y m] w fun e w'=>e=.returned (.string (zh (x,y,m)))∧Kept w w':=by
 cases m
 · go_enter Tryz.func73,Tryz.ntmps73;go_wp2;go_ret;exact⟨rfl,ja _ _⟩
 · go_enter Tryz.func73,Tryz.ntmps73;go_wp2;go_ret;exact⟨rfl,ja _ _⟩
theorem jh7 (x y:ByteArray) (m:Bool) (w:World) (hx:x.size≤900000) (hy:y.size≤900000) :
 Calls Tryz.prog 78 #[NV x y m] w fun e w'=>e=.returned (.string (Jx (x,y,m)))∧Kept w w':=by
 obtain⟨q,hq⟩:∃q,(x.toList==([]:List UInt8))=q:=⟨_,rfl⟩
 have HV:=lH (show Jx (x,y,m)=if m=true then (if q=true then ⟨#[42]⟩ else x) else (if q=true then ⟨#[42]⟩ else x)++⟨#[58]⟩++y by
  unfold Jx JI;rw[ZY,hq])
 cases m<;>cases q <;>
 (go_enter Tryz.func78,Tryz.ntmps78
  go_wp2;go_ret;exact⟨Jt HV.out.symm,ja _ _⟩)
def zS (l:NL):ByteArray:=if l=[] then ⟨#[45]⟩ else zZ (l.map zh)
theorem jj8 (a:Option Addr) (len cap:Nat) (l:NL) (w:World) (hr:jr jq w a len l) (hf:∀x ∈ l,x.1.size≤900000∧x.2.1.size≤900000) (hn:len≤1000000) :
 Calls Tryz.prog 72 #[.slice a len cap,.func (.func 73) #[] #[]] w fun e w'=>e=.returned (.string (zS l))∧Kept w w':=by
 have hl:=hr.1;rcases hr.form with h0 | ⟨b,off,rfl⟩
 · subst h0;have HE:=lH (show zS l=⟨#[45]⟩ by unfold zS;rw[if_pos (List.eq_nil_of_length_eq_zero hl)]);clear hr hl hf;go_enter Tryz.func72,Tryz.ntmps72;go_wp2;go_ret;exact⟨Jt HE.out.symm,Kept.refl _⟩
 · by_cases h0:len=0
   · subst h0;have HE:=lH (show zS l=⟨#[45]⟩ by unfold zS;rw[if_pos (List.eq_nil_of_length_eq_zero hl)]);clear hr hl hf;go_enter Tryz.func72,Tryz.ntmps72;go_wp2;go_ret;exact⟨Jt HE.out.symm,Kept.refl _⟩
   · have h0':((len:Int)==0)=false:=by
      have:(len:Int)≠0:=by omega
      simpa using this
     have HE:=lH (show zS l=zZ (l.map zh) by unfold zS;rw[if_neg (by intro e;rw[e] at hl;simp at hl;omega)]);have HR:=lH hr;have HL:=lH hl;have HF:=lH hf;have HN:=lH h0;obtain⟨i0,hi,hz0,hz1,hz2⟩:=info_parts jas;have hib:i0.bytes*len≤281474976710656:=by rw[hz2];omega
     have hlm:len≤maxLen:=by unfold maxLen;omega
     clear hr hl hf h0;go_enter Tryz.func72,Tryz.ntmps72;go_wp2_with (refine wpList_make_full _ rfl (.tmp 12) (.tmp 12) _ rfl w.heap.size 9 i0 _ 1 Tryz.underlying29 hi hz0 hz1 .i64 .i64 len len len rfl rfl rfl rfl hib hlm (Nat.le_refl _) ?_;intro w1 own1 grow1;rw[Xn,←qh (l.map zh)] at own1;have O1:=lH own1;have K1:=lH (show Kept w w1 from(Below.refl _ w).grown grow1 (Nat.le_refl _) (fun k hk=>by cases hk));have hp1:=(own1.lt w.heap.size rfl).2;clear own1 grow1)
     go_loopw [16] (fun i wr=>∃k:Nat,k≤len∧i=.int .i64 k∧wr.ownsRow w.heap.size 9 1 (.slice (some ⟨w.heap.size,0,none⟩) len len) len (YN (l.map zh) len k)∧Kept w wr) (fun i _=>len-(intOf i).toNat)
     case atStart=>exact⟨0,Nat.zero_le _,rfl,O1.out,K1.out⟩
     case round =>
      obtain⟨k,hk,rfl,hown,hK⟩:=hrel;by_cases hlt:k<len
      · obtain⟨x,y,m,hx,hd,hb,hz,hz2,c1,c2,c3⟩:=(HR.out.kept hK).tri hlt;clear hz hz2;have hz:=show x.size≤900000 from(HF.out _ (List.mem_of_getElem? hx)).1;have hz2:=show y.size≤900000 from(HF.out _ (List.mem_of_getElem? hx)).2;have HX:=lH (show (l.map zh)[k]?=some (zh (x,y,m)) by rw[List.getElem?_map,hx];rfl);have HK:=lH hK;have HO:=lH hown;clear hK hx hd hown;go_wp2_with (go_at_call 73;refine(jfa x y m _ hz hz2).mono ?_;rintro e w2 ⟨rfl,k2⟩;have K2:=lH k2;have O2:=lH (XA HO.out ((ja wr _).trans k2));clear k2;have z2:=O2.out.frozenAt k;have q2:=jbP O2.out (jaL (by rw[List.length_map];exact HL.out) hlt))
        go_roundw
        case rel =>
         refine⟨k+1,by omega,by go_num,?_,?_⟩
         · have:=(O2.out.stored k (.string (zh (x,y,m)))).1;rw[qT (by rw[List.length_map];exact HL.out) HX.out] at this;exact this
         · exact Below.setCell (HK.out.trans ((ja _ _).trans K2.out)) (p:=⟨w.heap.size,k,none⟩) (Nat.le_refl _) _
        case measure=>simp[intOf];omega
      · have HK:=lH hK;obtain rfl:k=len:=by omega
        have hfull:=hown;rw[jaa (by rw[List.length_map];exact HL.out)] at hfull;have HC:=lH hfull;have HK2:=lH ((hown.lt w.heap.size rfl).2);clear hK hown hfull;have hml:(l.map zh).length=k:=by rw[List.length_map];exact HL.out
        have hjl:=Y6 (l.map zh) 2000001 (by
         intro z hz;obtain⟨x,hx,rfl⟩:=List.mem_map.1 hz;exact jcQ (HF.out x hx).1 (HF.out x hx).2)
        rw[hml] at hjl;have hpl:w.heap.size<wr.heap.size:=HK2.out;have J:=Tryz.strings_Join w.heap.size 0 k (l.map zh) ⟨#[44]⟩ wr (qW HC.out) hpl (by rw[hml];omega) (by rw[hml];exact Nat.le_refl _) (Nat.le_trans hjl (by omega));rw[hml] at J;have HJ:=lH J;clear J hjl hml hpl;go_wp2_with (go_at_call 68;refine HJ.out.mono ?_;rintro e w2 ⟨rfl,k2⟩;have K2:=lH (show Kept wr w2 from k2);clear k2)
        go_ret;exact⟨Jt (HE.out.trans (by unfold zZ;rw[List.map_map])).symm,HK.out.trans K2.out⟩
theorem jlt (a:Option Addr) (len cap:Nat) (l:NL) (w:World) (hr:jr jq w a len l) (hf:∀x ∈ l,x.1.size≤900000∧x.2.1.size≤900000) (hn:len≤1000000) :
 Calls Tryz.prog 40 #[.slice a len cap] w fun e w'=>e=.returned (.string (zS l))∧Kept w w':=by
 have HJ:=lH (jj8 a len cap l w hr hf hn);clear hr hf hn;go_enter Tryz.func40,Tryz.ntmps40;go_wp2_with (go_at_call 72;refine HJ.out.mono ?_;rintro e w2 ⟨rfl,k2⟩)
 go_ret;exact⟨rfl,k2⟩
def Jh (l:NL):ByteArray:=if l=[] then ⟨#[45]⟩ else zZ (l.map Jx)
theorem jjV (a:Option Addr) (len cap:Nat) (l:NL) (w:World) (hr:jr jq w a len l) (hf:∀x ∈ l,x.1.size≤900000∧x.2.1.size≤900000) (hn:len≤1000000) :
 Calls Tryz.prog 77 #[.slice a len cap,.func (.func 78) #[] #[]] w fun e w'=>e=.returned (.string (Jh l))∧Kept w w':=by
 have hl:=hr.1;rcases hr.form with h0 | ⟨b,off,rfl⟩
 · subst h0;have HE:=lH (show Jh l=⟨#[45]⟩ by unfold Jh;rw[if_pos (List.eq_nil_of_length_eq_zero hl)]);clear hr hl hf;go_enter Tryz.func77,Tryz.ntmps77;go_wp2;go_ret;exact⟨Jt HE.out.symm,Kept.refl _⟩
 · by_cases h0:len=0
   · subst h0;have HE:=lH (show Jh l=⟨#[45]⟩ by unfold Jh;rw[if_pos (List.eq_nil_of_length_eq_zero hl)]);clear hr hl hf;go_enter Tryz.func77,Tryz.ntmps77;go_wp2;go_ret;exact⟨Jt HE.out.symm,Kept.refl _⟩
   · have h0':((len:Int)==0)=false:=by
      have:(len:Int)≠0:=by omega
      simpa using this
     have HE:=lH (show Jh l=zZ (l.map Jx) by unfold Jh;rw[if_neg (by intro e;rw[e] at hl;simp at hl;omega)]);have HR:=lH hr;have HL:=lH hl;have HF:=lH hf;have HN:=lH h0;obtain⟨i0,hi,hz0,hz1,hz2⟩:=info_parts jas;have hib:i0.bytes*len≤281474976710656:=by rw[hz2];omega
     have hlm:len≤maxLen:=by unfold maxLen;omega
     clear hr hl hf h0;go_enter Tryz.func77,Tryz.ntmps77;go_wp2_with (refine wpList_make_full _ rfl (.tmp 12) (.tmp 12) _ rfl w.heap.size 9 i0 _ 1 Tryz.underlying29 hi hz0 hz1 .i64 .i64 len len len rfl rfl rfl rfl hib hlm (Nat.le_refl _) ?_;intro w1 own1 grow1;rw[Xn,←qh (l.map Jx)] at own1;have O1:=lH own1;have K1:=lH (show Kept w w1 from(Below.refl _ w).grown grow1 (Nat.le_refl _) (fun k hk=>by cases hk));have hp1:=(own1.lt w.heap.size rfl).2;clear own1 grow1)
     go_loopw [16] (fun i wr=>∃k:Nat,k≤len∧i=.int .i64 k∧wr.ownsRow w.heap.size 9 1 (.slice (some ⟨w.heap.size,0,none⟩) len len) len (YN (l.map Jx) len k)∧Kept w wr) (fun i _=>len-(intOf i).toNat)
     case atStart=>exact⟨0,Nat.zero_le _,rfl,O1.out,K1.out⟩
     case round =>
      obtain⟨k,hk,rfl,hown,hK⟩:=hrel;by_cases hlt:k<len
      · obtain⟨x,y,m,hx,hd,hb,hz,hz2,c1,c2,c3⟩:=(HR.out.kept hK).tri hlt;clear hz hz2;have hz:=show x.size≤900000 from(HF.out _ (List.mem_of_getElem? hx)).1;have hz2:=show y.size≤900000 from(HF.out _ (List.mem_of_getElem? hx)).2;have HX:=lH (show (l.map Jx)[k]?=some (Jx (x,y,m)) by rw[List.getElem?_map,hx];rfl);have HK:=lH hK;have HO:=lH hown;clear hK hx hd hown;go_wp2_with (go_at_call 78;refine(jh7 x y m _ hz hz2).mono ?_;rintro e w2 ⟨rfl,k2⟩;have K2:=lH k2;have O2:=lH (XA HO.out ((ja wr _).trans k2));clear k2;have z2:=O2.out.frozenAt k;have q2:=jbP O2.out (jaL (by rw[List.length_map];exact HL.out) hlt))
        go_roundw
        case rel =>
         refine⟨k+1,by omega,by go_num,?_,?_⟩
         · have:=(O2.out.stored k (.string (Jx (x,y,m)))).1;rw[qT (by rw[List.length_map];exact HL.out) HX.out] at this;exact this
         · exact Below.setCell (HK.out.trans ((ja _ _).trans K2.out)) (p:=⟨w.heap.size,k,none⟩) (Nat.le_refl _) _
        case measure=>simp[intOf];omega
      · have HK:=lH hK;obtain rfl:k=len:=by omega
        have hfull:=hown;rw[jaa (by rw[List.length_map];exact HL.out)] at hfull;have HC:=lH hfull;have HK2:=lH ((hown.lt w.heap.size rfl).2);clear hK hown hfull;have hml:(l.map Jx).length=k:=by rw[List.length_map];exact HL.out
        have hjl:=Y6 (l.map Jx) 2000001 (by
         intro z hz;obtain⟨x,hx,rfl⟩:=List.mem_map.1 hz;exact jlh (HF.out x hx).1 (HF.out x hx).2)
        rw[hml] at hjl;have hpl:w.heap.size<wr.heap.size:=HK2.out;have J:=Tryz.strings_Join w.heap.size 0 k (l.map Jx) ⟨#[44]⟩ wr (qW HC.out) hpl (by rw[hml];omega) (by rw[hml];exact Nat.le_refl _) (Nat.le_trans hjl (by omega));rw[hml] at J;have HJ:=lH J;clear J hjl hml hpl;go_wp2_with (go_at_call 68;refine HJ.out.mono ?_;rintro e w2 ⟨rfl,k2⟩;have K2:=lH (show Kept wr w2 from k2);clear k2)
        go_ret;exact⟨Jt (HE.out.trans (by unfold zZ;rw[List.map_map])).symm,HK.out.trans K2.out⟩
theorem jjN (a:Option Addr) (len cap:Nat) (l:NL) (w:World) (hr:jr jq w a len l) (hf:∀x ∈ l,x.1.size≤900000∧x.2.1.size≤900000) (hn:len≤1000000) :
 Calls Tryz.prog 45 #[.slice a len cap] w fun e w'=>e=.returned (.string (Jh l))∧Kept w w':=by
 have HJ:=lH (jjV a len cap l w hr hf hn);clear hr hf hn;go_enter Tryz.func45,Tryz.ntmps45;go_wp2_with (go_at_call 77;refine HJ.out.mono ?_;rintro e w2 ⟨rfl,k2⟩)
 go_ret;exact⟨rfl,k2⟩
theorem jni {v:Value} {l:NL} {c:Int} {w:World} (h:Reads jq w v l) (hc:Jg l=c) :
 Calls Tryz.prog 218 #[v] w (Say (.int .i64 c) w):=by
 obtain⟨a,cap,rfl,hcap,_,hr⟩:=h;exact(jd1 a _ cap l w hr hcap).mono fun e w' ⟨he,k⟩=>⟨by rw[he,hc],k⟩
theorem jm0 {v:Value} {l:NL} {c:Int} {w:World} (h:Reads jq w v l) (hc:zw l=c) :
 Calls Tryz.prog 232 #[v] w (Say (.int .i64 c) w):=by
 obtain⟨a,cap,rfl,_,_,hr⟩:=h;exact(jdf a _ cap l w hr).mono fun e w' ⟨he,k⟩=>⟨by rw[he,hc],k⟩
theorem jor {v:Value} {l:NL} {t:ByteArray} {w:World} (h:Reads jq w v l) (hf:∀x ∈ l,x.1.size≤900000∧x.2.1.size≤900000) (hn:l.length≤1000000) (ht:zS l=t) :
 Calls Tryz.prog 40 #[v] w (Say (.string t) w):=by
 obtain⟨a,cap,rfl,_,_,hr⟩:=h;exact(jlt a _ cap l w hr hf hn).mono fun e w' ⟨he,k⟩=>⟨by rw[he,ht],k⟩
theorem jod {v:Value} {l:NL} {t:ByteArray} {w:World} (h:Reads jq w v l) (hf:∀x ∈ l,x.1.size≤900000∧x.2.1.size≤900000) (hn:l.length≤1000000) (ht:Jh l=t) :
 Calls Tryz.prog 45 #[v] w (Say (.string t) w):=by
 obtain⟨a,cap,rfl,_,_,hr⟩:=h;exact(jjN a _ cap l w hr hf hn).mono fun e w' ⟨he,k⟩=>⟨by rw[he,ht],k⟩
open Go.RowKit Go.Sort
theorem jfp (a:Option Addr) (len cap:Nat) (l:NL) (w:World) (hr:jr jq w a len l) :
 Calls Tryz.prog 103 #[.slice a len cap] w fun e w'=>e=.returned (.int .i64 (zw l))∧Kept w w':=by
 have hl:=hr.1;have hm:=hr.2.1;unfold maxLen at hm;by_cases h8:len≤8
 · have HV:=lH (show zw l=if l.all zm=true then 0 else 3 by unfold zw;rw[if_neg (by omega)]);rcases hr.form with h0 | ⟨b,off,rfl⟩
   · subst h0;have HE:=lH (show zw l=0 by rw[HV.out];rw[List.eq_nil_of_length_eq_zero hl];rfl);clear hr hl;go_enter Tryz.func103,Tryz.ntmps103;go_wp2;refine wp_loop_rounds 1 ?_;rw[rounds_succ];go_wp2;go_ret;exact⟨jb HE.out.symm,Kept.refl _⟩
   · have HR:=lH hr;have HL:=lH hl;clear hr hl;go_enter Tryz.func103,Tryz.ntmps103;go_wp2;go_loopw [3] (fun i wr=>∃k:Nat,k≤len∧i=.int .i64 k∧(l.drop k).all zm=l.all zm∧Kept w wr) (fun i _=>len-(intOf i).toNat)
     case atStart=>exact⟨0,Nat.zero_le _,rfl,rfl,Kept.refl _⟩
     case round =>
      obtain⟨k,hk,rfl,hrest,hK⟩:=hrel;by_cases hlt:k<len
      · obtain⟨x,y,m,hx,hd,hb,hz,hz2,c1,c2,c3⟩:=(HR.out.kept hK).tri hlt;have HK:=lH hK;have HS:=lH (hrest.symm.trans ((congrArg (fun z=>z.all zm) hd).trans jeY));obtain⟨q0,hq0⟩:∃q,(x.toList==([]:List UInt8))=q:=⟨_,rfl⟩
        obtain⟨q2,hq2⟩:∃q,(y.toList==([]:List UInt8))=q:=⟨_,rfl⟩
        obtain⟨n1,hn1⟩:∃q,isName x=q:=⟨_,rfl⟩
        obtain⟨n2,hn2⟩:∃q,isName y=q:=⟨_,rfl⟩
        have HN:=lH (show zm (x,y,m)=((q0||n1)&&(if m=true then q2 else n2)) by unfold zm;rw[ZY,ZY,hq0,hq2,hn1,hn2]);clear hK hrest hx hd
        cases q0 with
        | true =>
         cases m with
         | true =>
          cases q2 with
          | true =>
           have HQ:=lH (show zm (x,y,true)=true by rw[HN.out];rfl);go_wp2_with (go_at_call 98;refine(jo _ _ (by assumption)).mono ?_;rintro e w' ⟨rfl,rfl⟩)
           go_roundw
           case rel=>exact⟨k+1,by omega,by go_num,(HS.out.trans (by rw[HQ.out];exact Bool.true_and _)).symm,HK.out.trans (ja _ _)⟩
           case measure=>simp[intOf];omega
          | false =>
           have HQ:=lH (show zw l=3 by rw[HV.out,HS.out,HN.out];rfl);go_wp2_with (go_at_call 98;refine(jo _ _ (by assumption)).mono ?_;rintro e w' ⟨rfl,rfl⟩)
           go_ret;exact⟨jb HQ.out.symm,HK.out.trans (ja _ _)⟩
         | false =>
          cases n2 with
          | true =>
           have HQ:=lH (show zm (x,y,false)=true by rw[HN.out];rfl);go_wp2_with (go_at_call 98;refine(jo _ _ (by assumption)).mono ?_;rintro e w' ⟨rfl,rfl⟩)
           go_roundw
           case rel=>exact⟨k+1,by omega,by go_num,(HS.out.trans (by rw[HQ.out];exact Bool.true_and _)).symm,HK.out.trans (ja _ _)⟩
           case measure=>simp[intOf];omega
          | false =>
           have HQ:=lH (show zw l=3 by rw[HV.out,HS.out,HN.out];rfl);go_wp2_with (go_at_call 98;refine(jo _ _ (by assumption)).mono ?_;rintro e w' ⟨rfl,rfl⟩)
           go_ret;exact⟨jb HQ.out.symm,HK.out.trans (ja _ _)⟩
        | false =>
         cases n1 with
         | true =>
          cases m with
          | true =>
           cases q2 with
           | true =>
            have HQ:=lH (show zm (x,y,true)=true by rw[HN.out];rfl);go_wp2_with (go_at_call 98;refine(jo _ _ (by assumption)).mono ?_;rintro e w' ⟨rfl,rfl⟩)
            go_roundw
            case rel=>exact⟨k+1,by omega,by go_num,(HS.out.trans (by rw[HQ.out];exact Bool.true_and _)).symm,HK.out.trans (ja _ _)⟩
            case measure=>simp[intOf];omega
           | false =>
            have HQ:=lH (show zw l=3 by rw[HV.out,HS.out,HN.out];rfl);go_wp2_with (go_at_call 98;refine(jo _ _ (by assumption)).mono ?_;rintro e w' ⟨rfl,rfl⟩)
            go_ret;exact⟨jb HQ.out.symm,HK.out.trans (ja _ _)⟩
          | false =>
           cases n2 with
           | true =>
            have HQ:=lH (show zm (x,y,false)=true by rw[HN.out];rfl);go_wp2_with (go_at_call 98;refine(jo _ _ (by assumption)).mono ?_;rintro e w' ⟨rfl,rfl⟩)
            go_roundw
            case rel=>exact⟨k+1,by omega,by go_num,(HS.out.trans (by rw[HQ.out];exact Bool.true_and _)).symm,HK.out.trans (ja _ _)⟩
            case measure=>simp[intOf];omega
           | false =>
            have HQ:=lH (show zw l=3 by rw[HV.out,HS.out,HN.out];rfl);go_wp2_with (go_at_call 98;refine(jo _ _ (by assumption)).mono ?_;rintro e w' ⟨rfl,rfl⟩)
            go_ret;exact⟨jb HQ.out.symm,HK.out.trans (ja _ _)⟩
         | false =>
          have HQ:=lH (show zw l=3 by rw[HV.out,HS.out,HN.out];rfl);go_wp2_with (go_at_call 98;refine(jo _ _ (by assumption)).mono ?_;rintro e w' ⟨rfl,rfl⟩)
          go_ret;exact⟨jb HQ.out.symm,HK.out.trans (ja _ _)⟩
      · have HK:=lH hK;have HS:=lH (hrest.symm.trans (congrArg (fun z=>z.all zm) (JS (by rw[HL.out];exact hlt))));have HF:=lH (show zw l=0 by rw[HV.out,HS.out];rfl);clear hK hrest;go_wp2;go_ret;exact⟨jb HF.out.symm,HK.out⟩
 · have HV:=lH (show zw l=4 by unfold zw;rw[if_pos (by omega)]);have h9:8<len:=by omega
   clear h8 hr hl;go_enter Tryz.func103,Tryz.ntmps103;go_wp2;go_ret;exact⟨jb HV.out.symm,Kept.refl _⟩
theorem ji4 {l:NL} {k j:Nat} {t z:NT} (hj:j<k) (hz:l[j]?=some z) (h:Jw t z=true):(l.take k).any (Jw t)=true:=by
 rw[List.any_eq_true];refine⟨z,List.mem_of_getElem? (i:=j) ?_,h⟩;rw[List.getElem?_take,if_pos hj];exact hz
theorem jeS {l:NL} {j:Nat} {t z:NT} (hz:l[j]?=some z) (h:(l.take j).any (Jw t)=false) (g:Jw t z=false):(l.take (j+1)).any (Jw t)=false:=by
 rw[zW hz,List.any_append,h];simp[g]
theorem jfc (a:Option Addr) (len cap:Nat) (l:NL) (w:World) (hr:jr jq w a len l) :
 Calls Tryz.prog 101 #[.slice a len cap] w fun e w'=>e=.returned (.int .i64 (Jg l))∧Kept w w':=by
 have hl:=hr.1;have hm:=hr.2.1;unfold maxLen at hm;by_cases h8:len≤8
 · have HV:=lH (show Jg l=JF [] l by unfold Jg;rw[if_neg (by omega)]);rcases hr.form with h0 | ⟨b,off,rfl⟩
   · subst h0;have HE:=lH (show Jg l=0 by rw[HV.out];rw[List.eq_nil_of_length_eq_zero hl];rfl);clear hr hl;go_enter Tryz.func101,Tryz.ntmps101;go_wp2;refine wp_loop_rounds 1 ?_;rw[rounds_succ];go_wp2;go_ret;exact⟨jb HE.out.symm,Kept.refl _⟩
   · have HR:=lH hr;have HL:=lH hl;clear hr hl;go_enter Tryz.func101,Tryz.ntmps101;go_wp2;go_loopw [3] (fun i wr=>∃k:Nat,k≤len∧i=.int .i64 k∧JF (l.take k) (l.drop k)=JF [] l∧Kept w wr) (fun i _=>len-(intOf i).toNat)
     case atStart=>exact⟨0,Nat.zero_le _,rfl,rfl,Kept.refl _⟩
     case round =>
      obtain⟨k,hk,rfl,hrest,hK⟩:=hrel;by_cases hlt:k<len
      · obtain⟨x,y,m,hx,hd,hb,hz,hz2,c1,c2,c3⟩:=(HR.out.kept hK).tri hlt;have HX:=lH hx;have HK:=lH hK;have HT:=lH (hrest.symm.trans (congrArg (JF (l.take k)) hd));have HS:=lH (HV.out.trans HT.out);clear hK hrest hx hd;by_cases n1:isName x=true
        · by_cases n2:isName y=true
          · have N1:=lH n1;have N2:=lH n2;go_wp2_with (go_at_call 98;refine(jo _ _ (by assumption)).mono ?_;rintro e w' ⟨rfl,rfl⟩)
            go_loopw [4] (fun i wr2=>∃j:Nat,j≤k∧i=.int .i64 j∧(l.take j).any (Jw (x,y,m))=false∧Kept w wr2) (fun i _=>k-(intOf i).toNat)
            case atStart=>exact⟨0,Nat.zero_le _,rfl,rfl,HK.out⟩
            case round =>
             obtain⟨j,hj,rfl,hnone,hK2⟩:=hrel;have HK2:=lH hK2;have HNO:=lH hnone;by_cases hjk:j<k
             · obtain⟨x',y',m',hx',_,hb',_,_,d1,d2,d3⟩:=(HR.out.kept hK2).tri (show j<len by omega);obtain⟨x9,y9,m9,hx9,_,_,_,_,e1,e2,e3⟩:=(HR.out.kept hK2).tri hlt;obtain⟨rfl,rfl,rfl⟩:x=x9∧y=y9∧m=m9:=by rw[HX.out] at hx9;simpa using hx9
               have HX':=lH hx';obtain⟨q1,hq1⟩:∃q,(x'.toList==x.toList)=q:=⟨_,rfl⟩
               obtain⟨q2,hq2⟩:∃q,(y'.toList==y.toList)=q:=⟨_,rfl⟩
               have HTW:=lH (show Jw (x,y,m) (x',y',m')=(q1&&q2) by unfold Jw eqS;rw[hq1,hq2]);have hjl:(j:Int)<(len:Int):=by omega
               clear hx9 hx' hnone hK2
               cases q1 with
               | true =>
                cases q2 with
                | true =>
                 go_wp2_with fail
                 go_quiet (fail)
                 go_wp2;go_ret;exact⟨jb (HS.out.trans (jdp N1.out N2.out (ji4 hjk HX'.out HTW.out))).symm,HK2.out.trans (Kept.drewN _ _)⟩
                | false =>
                 go_wp2_with fail
                 go_quiet (fail)
                 go_wp2;go_roundw
                 case rel=>exact⟨j+1,by omega,by go_num,jeS HX'.out HNO.out HTW.out,HK2.out.trans (Kept.drewN _ _)⟩
                 case measure=>simp[intOf];omega
               | false =>
                go_wp2_with fail
                go_quiet (fail)
                go_wp2;go_roundw
                case rel=>exact⟨j+1,by omega,by go_num,jeS HX'.out HNO.out HTW.out,HK2.out.trans (Kept.drewN _ _)⟩
                case measure=>simp[intOf];omega
             · obtain rfl:j=k:=by omega
               clear hnone hK2;go_wp2;go_roundw
               case rel=>exact⟨j+1,by omega,by go_num,by rw[zW HX.out];exact(jeA N1.out N2.out HNO.out).symm.trans HT.out.symm,HK2.out⟩
               case measure=>simp[intOf];omega
          · have n2:isName y=false:=by simpa using n2
            have N:=lH (show (isName x&&isName y)=false by rw[n2,Bool.and_false]);go_wp2_with (go_at_call 98;refine(jo _ _ (by assumption)).mono ?_;rintro e w' ⟨rfl,rfl⟩)
            go_ret;exact⟨jb (HS.out.trans (qK N.out)).symm,HK.out⟩
        · have n1:isName x=false:=by simpa using n1
          have N:=lH (show (isName x&&isName y)=false by rw[n1,Bool.false_and]);go_wp2_with (go_at_call 98;refine(jo _ _ (by assumption)).mono ?_;rintro e w' ⟨rfl,rfl⟩)
          go_ret;exact⟨jb (HS.out.trans (qK N.out)).symm,HK.out⟩
      · have HK:=lH hK;have HS:=lH ((HV.out.trans hrest.symm).trans (congrArg (JF (l.take k)) (JS (by rw[HL.out];exact hlt))));clear hK hrest;go_wp2;go_ret;exact⟨jb (HS.out.trans rfl).symm,HK.out⟩
 · have HV:=lH (show Jg l=4 by unfold Jg;rw[if_pos (by omega)]);have h9:8<len:=by omega
   clear h8 hr hl;go_enter Tryz.func101,Tryz.ntmps101;go_wp2;go_ret;exact⟨jb HV.out.symm,Kept.refl _⟩
theorem ji9 {v:Value} {l:NL} {c:Int} {w:World} (h:Reads jq w v l) (hc:Jg l=c):Calls Tryz.prog 101 #[v] w (Say (.int .i64 c) w):=by
 obtain⟨a,cap,rfl,_,_,hr⟩:=h;exact(jfc a _ cap l w hr).mono fun e w' ⟨he,k⟩=>⟨by rw[he,hc],k⟩
theorem jjd {v:Value} {l:NL} {c:Int} {w:World} (h:Reads jq w v l) (hc:zw l=c):Calls Tryz.prog 103 #[v] w (Say (.int .i64 c) w):=by
 obtain⟨a,cap,rfl,_,_,hr⟩:=h;exact(jfp a _ cap l w hr).mono fun e w' ⟨he,k⟩=>⟨by rw[he,hc],k⟩
def je (c:UInt8):List UInt8→List (List UInt8)
 | []=>[[]]
 | b::t=>if b=c then []::je c t else match je c t with
  | []=>[[b]]
  | p::ps=>(b::p)::ps
theorem JY (c:UInt8) (l:List UInt8):je c l≠[]:=by
 cases l with
 | nil=>simp[je]
 | cons b t=>unfold je;split;simp;split<;>simp
theorem jcR (c:UInt8):∀(t:List UInt8),je c (t++[c])=je c t++[[]]
 | []=>by simp[je]
 | b::t=>by
  rw[List.cons_append,je,je,jcR c t];split
  · rfl
  · cases h:je c t with
    | nil=>exact absurd h (JY c t)
    | cons p ps=>rfl
theorem jbr (c b:UInt8) (hb:b≠c):∀(t:List UInt8) (q:List (List UInt8)) (z:List UInt8),je c t=q++[z]→je c (t++[b])=q++[z++[b]]
 | [],q,z,h=>by
  have:q=[]∧z=[]:=by
   cases q with
   | nil=>simpa [je] using h.symm
   | cons x q=>simp[je] at h
  obtain⟨rfl,rfl⟩:=this;simp[je,hb]
 | d::t,q,z,h=>by
  obtain⟨q',z',hq⟩:∃q' z',je c t=q'++[z']:=⟨_,_,(List.dropLast_concat_getLast (JY c t)).symm⟩
  have ih:=jbr c b hb t q' z' hq;rw[List.cons_append,je,ih];rw[je,hq] at h;split
  · rename_i e;rw[if_pos e] at h;have:q=[]::q'∧z=z':=by
     have h':([]::q')++[z']=q++[z]:=h;have:=List.append_inj' h' rfl;exact⟨this.1.symm,by simpa using this.2.symm⟩
    obtain⟨rfl,rfl⟩:=this;rfl
  · rename_i e;rw[if_neg e] at h
    cases q' with
    | nil =>
     have h':[]++[d::z']=q++[z]:=h;have:=List.append_inj' h' rfl;obtain⟨h1,h2⟩:=this;subst h1;have:z=d::z':=by simpa using h2.symm
     subst this;rfl
    | cons p ps =>
     have h':((d::p)::ps)++[z']=q++[z]:=h;have:=List.append_inj' h' rfl;obtain⟨h1,h2⟩:=this;subst h1;have:z=z':=by simpa using h2.symm
     subst this;rfl
def splitB (c:UInt8) (s:List UInt8):List ByteArray:=(je c s).map bytes
theorem qd (c:UInt8):∀s:List UInt8,(splitB c s).length≤s.length+1
 | []=>by simp[splitB,je]
 | b::t=>by
  have ih:=qd c t;unfold splitB at ih ⊢;rw[je];rw[List.length_map] at ih ⊢;split
  · simp;omega
  · cases h:je c t with
    | nil=>simp
    | cons p ps=>rw[h] at ih;simp at ih ⊢;omega
theorem jiY (c:UInt8) (t:List UInt8):splitB c (t++[c])=splitB c t++[⟨#[]⟩]:=by unfold splitB;rw[jcR,List.map_append];rfl
theorem jiJ (z:List UInt8) (b:UInt8):bytes (z++[b])=bytes z++⟨#[b]⟩:=by
 apply Go.WideShapes.bytes_inj;simp[bytes,ByteArray.data_append]
theorem Z9 (c:UInt8):∀(s:List UInt8) (p:List UInt8),p ∈ je c s→p.length≤s.length
 | [],p,h=>by
  have:p=[]:=by simpa [je] using h
  subst this;simp
 | b::t,p,h=>by
  rw[je] at h;split at h
  · rcases List.mem_cons.1 h with rfl | h
    · simp
    · have:=Z9 c t p h;simp;omega
  · cases hp:je c t with
    | nil=>exact absurd hp (JY c t)
    | cons q qs =>
     rw[hp] at h;rcases List.mem_cons.1 h with rfl | h
     · have:=Z9 c t q (by rw[hp];simp);simp;omega
     · have:=Z9 c t p (by rw[hp];simp[h]);simp;omega
theorem jnK {A:List ByteArray} {m:Nat} {x v:ByteArray} (h:A.length=m):(jd zy (A++[x])).set m (.string v)=jd zy (A++[v]):=by
 rw[jC,jC];have e:(jd zy A).length=m:=by rw[JB,h];exact Nat.mul_one m
 rw[List.set_append_right _ _ (by omega),e,Nat.sub_self];rfl
theorem jmX (w:World) (x:ByteArray) (hx:x.size≤maxLen):Own zy 9 (w.alloc (.cells #[.string x] 9)) w.heap.size (.slice (some ⟨w.heap.size,0,none⟩) 1 1) [x] :=
 ⟨⟨rfl,.inr ⟨w.heap.size,1,#[.string x],rfl,Nat.le_refl _,World.alloc_heap_new w _,Nat.le_refl _,by decide,rfl,rfl⟩⟩,fun z hz=>by
  have:z=x:=by simpa using hz
  rw[this];exact hx⟩
theorem jgj (c:UInt8) (s:List UInt8) (w:World) (hs:s.length≤1000000) :
 Calls Tryz.prog 12 #[.string (bytes s),.int .u8 (c.toNat:Int)] w (fun e w'=>∃v,e=.returned v∧Own zy 9 w' w.heap.size v (splitB c s)∧Kept w w'):=by
 have hsz:(bytes s).size=s.length:=ji s;have HSZ:=lH hsz;have hlen:(bytes s).size≤1000000:=by omega
 obtain⟨i0,hi,hz0,hz1,hz2⟩:=info_parts jas;go_enter Tryz.func12,Tryz.ntmps12;go_wp2;go_loopw [5,6] (fun v i wr=>∃k:Nat,k≤s.length∧i=.int .i64 k∧Own zy 9 wr w.heap.size v (splitB c (s.take k))∧Kept w wr) (fun _ i _=>s.length-(intOf i).toNat)
 case atStart=>exact⟨0,Nat.zero_le _,rfl,jmX w _ (by decide),ja _ _⟩
 case round =>
  obtain⟨k,hk,rfl,ho,hB⟩:=hrel;have HO:=lH ho;have HB:=lH hB;have hbs:w.heap.size≤wr.heap.size:=hB.size;by_cases hlt:k<s.length
  · have hlt':k<(bytes s).size:=by omega
    have hsk:s[k]?=some s[k]:=List.getElem?_eq_getElem hlt;have HSK:=lH (show s.take (k+1)=s.take k++[s[k]] from zW hsk);have hbk:(bytes s)[k]=s[k]:=by
     simp[bytes,ByteArray.getElem_eq_getElem_data];rfl
    obtain⟨b,hb⟩:∃b,s[k]=b:=⟨_,rfl⟩
    rw[hb] at HSK hbk;obtain⟨n,hn⟩:∃n,(splitB c (s.take k)).length=n:=⟨_,rfl⟩
    have hn6:n≤1000001:=by have:=qd c (s.take k);rw[List.length_take] at this;omega
    have HN:=lH hn;clear ho hB hsk hb hn;by_cases hbc:b=c
    · have e1:(((bytes s)[k].toNat:Int)==(c.toNat:Int))=true:=by rw[hbk,hbc];exact beq_self_eq_true _
      have HOWN:=lH (show wr.ownsRow w.heap.size 9 1 u5 n (jd zy (splitB c (s.take k))) by have:=HO.out.1;rw[HN.out] at this;exact this);have HBC:=lH hbc;clear hbk hbc;go_wp2_with (at_builtin;refine wpList_append_lies _ rfl (.tmp 19) (.tmp 20) _ rfl w.heap.size 9 i0 _ 1 16 Tryz.underlying29 hi hz0 hz1 hz2 rfl (by decide) u5 n (jd zy (splitB c (s.take k))) rfl (HOWN.out.alloc _) ⟨wr.heap.size,0,none⟩ 1 1 [.string ⟨#[]⟩] rfl rfl (World.news_of_block (cs:=#[.string ⟨#[]⟩]) (t:=9) (fr:=(0,0)) (wr.alloc_heap_new _)) (jaM _) (by decide) (by unfold maxLen;omega) (by omega) (by rw[World.size_alloc];omega) (wr.heap.size+1) (World.size_alloc _ _) ?_;intro g cap w21 hown1 hgrow hg hlt1;have HOWN1:=lH hown1;have K21:=lH ((HB.out.trans (ja wr (.cells #[.string ⟨#[]⟩] 9))).grown hgrow (by rw[World.size_alloc];omega) (fun k hk=>(HOWN.out.lt k hk).1));clear hown1 hgrow hg hlt1)
      go_roundw
      case rel=>exact⟨k+1,by omega,by go_num,by rw[HSK.out,HBC.out,jiY];exact Own.snoc HOWN1.out (by rw[HN.out]) HO.out.2 (Nat.zero_le _),K21.out⟩
      case measure=>simp[intOf];omega
    · have e1:(((bytes s)[k].toNat:Int)==(c.toNat:Int))=false:=by
       rw[hbk];have:(b.toNat:Int)≠(c.toNat:Int):=fun e=>hbc (UInt8.toNat.inj (by omega));simpa using this
      obtain⟨q,z,hq⟩:∃q z,je c (s.take k)=q++[z]:=⟨_,_,(List.dropLast_concat_getLast (JY c _)).symm⟩
      have HQ:=lH hq;have HNEXT:=lH (show splitB c (s.take k++[b])=q.map bytes++[bytes z++⟨#[b]⟩] by unfold splitB;rw[jbr c b hbc _ q z hq,List.map_append];simp[jiJ]);have HCUR:=lH (show splitB c (s.take k)=q.map bytes++[bytes z] by unfold splitB;rw[hq,List.map_append];rfl);obtain⟨m,hm⟩:∃m,q.length=m:=⟨_,rfl⟩
      have HM:=lH hm;have hnm:n=m+1:=by rw[←HN.out,HCUR.out];simp[hm]
      subst hnm;have hown:=HO.out.1;rw[HN.out] at hown;obtain⟨g,cap,rfl⟩:=ownsRow_succ hown;rw[HCUR.out] at hown;have hlast:(jd zy (q.map bytes++[bytes z]))[m]?=some (.string (bytes z)):=by
       rw[jC];have e:(jd zy (q.map bytes)).length=m:=by rw[JB,List.length_map,hm];exact Nat.mul_one m
       rw[List.getElem?_append_right (by omega),e,Nat.sub_self];rfl
      have c1:=jbP hown hlast;have z1:=hown.frozenAt m;have hgb:=(hown.lt g rfl).1;have HOWN:=lH hown;have hex:(bytes s).extract k (k+1)=⟨#[b]⟩:=by
       apply Go.WideShapes.bytes_inj;have e:((bytes s).extract k (k+1)).data.toList=(s.take (k+1)).drop k:=by
        simp[bytes,ByteArray.data_extract];rw[List.drop_take,show k+1-k=1 by omega]
       rw[e,HSK.out,List.drop_append_of_le_length (by rw[List.length_take];omega),List.drop_of_length_le (by rw[List.length_take];omega)];rfl
      have hzl:(bytes z).size≤1000000:=by
       rw[ji];have:=Z9 c (s.take k) z (by rw[hq];simp);rw[List.length_take] at this;omega
      have hk1:(k:Int)+1≤((bytes s).size:Int):=by omega
      have hk2:((k:Int)+1).toNat=k+1:=by omega
      clear hm hq hlast hown hbk hbc;go_wp2;go_region
      go_wp2;go_roundw
      case rel =>
       refine⟨k+1,by omega,by go_num,⟨?_,?_⟩,?_⟩
       · have:=(HOWN.out.stored m (.string (bytes z++⟨#[b]⟩))).1.drew;rw[jnK (by rw[List.length_map];exact HM.out)] at this;rw[HSK.out,HNEXT.out,List.length_append,List.length_map,HM.out];exact this
       · rw[HSK.out,HNEXT.out];intro y hy;rcases List.mem_append.1 hy with h | h
         · exact HO.out.2 y (by rw[HCUR.out];exact List.mem_append.2 (.inl h))
         · have:y=bytes z++⟨#[b]⟩:=by simpa using h
           rw[this];show (bytes z++⟨#[b]⟩).size≤maxLen;rw[ByteArray.size_append];have:(⟨#[b]⟩:ByteArray).size=1:=rfl;unfold maxLen;omega
       · exact((Below.setCell HB.out (p:=⟨g,m,none⟩) hgb _)).drew
      case measure=>simp[intOf];omega
  · have HK:=lH (show s.take k=s from List.take_of_length_le (by omega));clear ho hB;go_wp2;go_ret;exact⟨_,rfl,by have h:=HO.out;rw[HK.out] at h;exact h,HB.out⟩
theorem joq (c:UInt8) (s:List UInt8) (w:World) (hs:s.length≤1000000) {v:Value} (hv:v=.int .u8 (c.toNat:Int)) :
 Calls Tryz.prog 12 #[.string (bytes s),v] w (fun e w'=>∃v,e=.returned v∧Own zy 9 w' w.heap.size v (splitB c s)∧Kept w w'):=by
 subst hv;exact jgj c s w hs
theorem index_one (c b:UInt8) (t:List UInt8):Lib.index (b::t) [c]=if b=c then 0 else if Lib.index t [c]==-1 then -1 else Lib.index t [c]+1:=by
 rw[Lib.index];by_cases h:b=c
 · subst h;rw[if_pos rfl,if_pos (by simp[List.isPrefixOf])]
 · rw[if_neg h,if_neg (by simp[List.isPrefixOf];exact fun e=>h e.symm)]
theorem jaq (c:UInt8):Lib.cut [] [c]=([],[],false):=by unfold Lib.cut;simp[Lib.index]
theorem Y4 (c b:UInt8) (t:List UInt8):Lib.cut (b::t) [c]=if b=c then ([],t,true) else (b::(Lib.cut t [c]).1,(Lib.cut t [c]).2.1,(Lib.cut t [c]).2.2):=by
 have hge:=Lib.index_ge t [c];unfold Lib.cut;rw[index_one];by_cases h:b=c
 · subst h;simp
 · rw[if_neg h,if_neg h];by_cases h1:Lib.index t [c]=-1
   · rw[h1];simp
   · have h2:0≤Lib.index t [c]:=by omega
     obtain⟨i,hi⟩:=Int.eq_ofNat_of_zero_le h2;rw[hi];have e1:((i:Int)==-1)=false:=beq_eq_false_iff_ne.2 (by omega);rw[e1];have e2:(0:Int)≤(i:Int)+1:=by omega
     have e3:((i:Int)+1).toNat=i+1:=by omega
     simp[e2,e3]
theorem jaK {c:UInt8}:∀{p:List UInt8},c ∉ p→Lib.cut p [c]=(p,[],false)
 | [],_=>jaq c
 | b::t,h=>by
  rw[Y4,if_neg (by intro e;exact h (by simp[e])),jaK (by intro e;exact h (by simp[e]))]
theorem JM {c:UInt8}:∀{x:List UInt8} (y:List UInt8),c ∉ x→Lib.cut (x++c::y) [c]=(x,y,true)
 | [],y,_=>by rw[List.nil_append,Y4,if_pos rfl]
 | b::t,y,h=>by
  rw[List.cons_append,Y4,if_neg (by intro e;exact h (by simp[e])),JM y (by intro e;exact h (by simp[e]))]
theorem Xh (c:UInt8):∀p:List UInt8,je c p=if (Lib.cut p [c]).2.2=true then (Lib.cut p [c]).1::je c (Lib.cut p [c]).2.1 else [p]
 | []=>by rw[jaq];rfl
 | b::t=>by
  rw[je,Y4];by_cases h:b=c
  · rw[if_pos h,if_pos h];rfl
  · rw[if_neg h,if_neg h,Xh c t];dsimp only;by_cases h1:(Lib.cut t [c]).2.2=true
    · rw[if_pos h1,if_pos h1]
    · rw[if_neg h1,if_neg h1]
theorem jao (c:UInt8):∀q:List UInt8,decide (0≤Lib.indexByte q c)=decide (c ∈ q)
 | []=>by simp[Lib.indexByte]
 | b::t=>by
  have ih:=jao c t;have hge:=Lib.indexByte_ge t c;rw[Lib.indexByte];by_cases h:b=c
  · subst h;simp
  · have e1:(b==c)=false:=by simpa using h
    rw[e1];have hm:decide (c ∈ b::t)=decide (c ∈ t):=by
     simp[List.mem_cons];intro e;exact absurd e.symm h
    rw[hm,←ih];by_cases h1:Lib.indexByte t c=-1
    · rw[h1];simp
    · have e2:(Lib.indexByte t c==-1)=false:=by simpa using h1
      rw[e2];have:0≤Lib.indexByte t c:=by omega
      simp[this];omega
theorem jeK (c:UInt8):∀q:List UInt8,(je c q).length=1↔c ∉ q
 | []=>by simp[je]
 | b::t=>by
  have ih:=jeK c t;rw[je];by_cases h:b=c
  · rw[if_pos h];have:=JY c t;constructor
    · intro e;exfalso;have:(je c t).length=0:=by simpa using e
      exact JY c t (List.eq_nil_of_length_eq_zero this)
    · intro e;exact absurd (by simp[h]) e
  · rw[if_neg h]
    cases hp:je c t with
    | nil=>exact absurd hp (JY c t)
    | cons p ps =>
     rw[hp] at ih;have e:((b::p)::ps).length=(p::ps).length:=rfl;dsimp only;rw[e,ih];simp[List.mem_cons,Ne.symm h]
theorem jaS (c:UInt8):∀p:List UInt8,(Lib.cut p [c]).2.2=true→(Lib.cut p [c]).1++c::(Lib.cut p [c]).2.1=p
 | [],h=>by rw[jaq] at h;cases h
 | b::t,h=>by
  rw[Y4] at h ⊢;by_cases hb:b=c
  · rw[if_pos hb] at h ⊢;subst hb;rfl
  · rw[if_neg hb] at h ⊢;have ih:=jaS c t h;show b::((Lib.cut t [c]).1++c::(Lib.cut t [c]).2.1)=b::t;rw[ih]
theorem jcP:∀{p:List UInt8},(44:UInt8) ∉ p→partsOf p=[p]
 | [],_=>rfl
 | b::t,h=>by
  rw[YJ,if_neg (by intro e;exact h (by simp[e])),jcP (p:=t) (by intro e;exact h (by simp[e]))]
theorem jeC:∀(x:List UInt8) (y:List UInt8),(44:UInt8) ∉ x→partsOf (x++44::y)=x::partsOf y
 | [],y,_=>by rw[List.nil_append,YJ,if_pos rfl]
 | b::t,y,h=>by
  rw[List.cons_append,YJ,if_neg (by intro e;exact h (by simp[e])),jeC t y (by intro e;exact h (by simp[e]))]
theorem jaN:∀(ts:List (List UInt8)),ts≠[]→(∀p ∈ ts,(44:UInt8) ∉ p)→partsOf (Lib.join ts [44])=ts
 | [],h,_=>absurd rfl h
 | [p],_,h=>by rw[Lib.join_one];exact jcP (h p (by simp))
 | p::q::t,_,h=>by
  rw[qi];have e:p++[44]++Lib.join (q::t) [44]=p++44::Lib.join (q::t) [44]:=by simp
  rw[e,jeC _ _ (h p (by simp)),jaN (q::t) (by simp) (fun z hz=>h z (by simp[hz]))]
theorem jar {b:UInt8} (h:ZF b=true):b≠58∧b≠33∧b≠44∧b≠45:=by
 rw[Yb] at h;refine⟨?_,?_,?_,?_⟩<;>(rintro rfl;revert h;decide)
theorem Ya {x:ByteArray} (h:isName x=true):∀b ∈ x.data.toList,ZF b=true:=by
 unfold isName at h;simp only[Bool.and_eq_true,decide_eq_true_eq] at h;exact List.all_eq_true.1 h.2
theorem X3 {x:ByteArray} (h:isName x=true):∃b t,x.data.toList=b::t∧ZF b=true:=by
 have hb:=Ya h;unfold isName at h;simp only[Bool.and_eq_true,decide_eq_true_eq] at h
 cases hl:x.data.toList with
 | nil =>
  have:x.size=0:=by rw[←ByteArray.size_data,←Array.length_toList,hl];rfl
  omega
 | cons b t=>exact⟨b,t,rfl,hb b (by rw[hl];simp)⟩
theorem Zy {x:ByteArray} (h:isName x=true):(58:UInt8) ∉ x.data.toList∧(33:UInt8) ∉ x.data.toList∧(44:UInt8) ∉ x.data.toList:=by
 have hb:=Ya h;exact⟨fun e=>(jar (hb _ e)).1 rfl,fun e=>(jar (hb _ e)).2.1 rfl,fun e=>(jar (hb _ e)).2.2.1 rfl⟩
theorem Zu (x y:ByteArray) (c:UInt8):(x++⟨#[c]⟩++y).data.toList=x.data.toList++c::y.data.toList:=by simp[ByteArray.data_append]
theorem XW {α:Type} {bad:List UInt8→Bool} {f:List UInt8→α} {chk:List α→Int} {g:α→ByteArray} {l:List α} (hl:l.length≤8) (hne:l≠[]) (hc:chk l=0)
 (hg:∀x ∈ l,(44:UInt8) ∉ (g x).data.toList∧bad (g x).data.toList=false∧f (g x).data.toList=x) (hd:∀x ∈ l,(g x).data.toList≠[45]) :
 Js bad f chk (zZ (l.map g)).data.toList=(0,l):=by
 have e:(zZ (l.map g)).data.toList=Lib.join (l.map fun x=>(g x).data.toList) [44]:=by
  unfold zZ;rw[List.map_map];rfl
 have hp:partsOf (zZ (l.map g)).data.toList=l.map fun x=>(g x).data.toList:=by
  rw[e];refine jaN _ (by simpa using hne) ?_;intro p hp;obtain⟨x,hx,rfl⟩:=List.mem_map.1 hp;exact(hg x hx).1
 have hm:((partsOf (zZ (l.map g)).data.toList).map f).take 9=l:=by
  rw[hp,List.map_map];have:l.map (f ∘ fun x=>(g x).data.toList)=l.map id:=List.map_congr_left fun x hx=>(hg x hx).2.2;rw[this,List.map_id,List.take_of_length_le (by omega)]
 unfold Js;rw[if_neg,if_neg,hm,if_neg (by rw[hc];decide)]
 · rw[hp];simp only[List.any_map,List.any_eq_true,not_exists,not_and];intro x hx;rw[Function.comp,(hg x hx).2.1];decide
 · intro h45;rw[h45] at hp;have h1:l.map (fun x=>(g x).data.toList)=[[45]]:=by rw[←hp];rfl
   cases l with
   | nil=>exact absurd rfl hne
   | cons x t =>
    have:(g x).data.toList=[45]:=by simpa using (List.cons.inj h1).1
    exact hd x (by simp) this
end Go.Proofs.YthmddloeggdohaaGreatDoor
namespace Go.Proofs.YthmddloeggdohaaGreatDoor.Vec
open Go.RowKit Go.Proofs.YthmddloeggdohaaGreatDoor
theorem jnv {l:List UInt8} (h:zT l=true):l.all zs=true:=by
 cases l with
 | nil=>cases h
 | cons c t=>rw[ZN,Bool.and_eq_true] at h;exact h.2
theorem jcp {c:UInt8}:∀{p:List UInt8},¬(Lib.cut p [c]).2.2=true→(Lib.cut p [c]).2.1=[]
 | [],_=>by rw[jaq]
 | b::t,h=>by
  rw[Y4] at h ⊢;by_cases hb:b=c
  · rw[if_pos hb] at h;exact absurd rfl h
  · rw[if_neg hb] at h ⊢;exact jcp (p:=t) h
theorem jby (acc:Nat) (l:List UInt8) (c:UInt8):J9 acc (l++[c])=J9 acc l*10+(c.toNat-48):=by
 unfold J9;rw[List.foldl_append];rfl
theorem jfB {c:UInt8} (h:zs c=true):UInt8.ofNat (48+(c.toNat-48))=c:=by
 have:=Xb h;rw[show 48+(c.toNat-48)=c.toNat by omega];exact UInt8.ofNat_toNat
theorem jlY {n d:Nat} (hn:0<n) (hd:d<10):Lib.decDigits (n*10+d)=Lib.decDigits n++[UInt8.ofNat (48+d)]:=by
 rw[Lib.decDigits,dif_neg (by omega),show (n*10+d) / 10=n by omega,show (n*10+d) % 10=d by omega]
theorem jeV {c:UInt8} (hc:zs c=true) (h0:c≠48):∀(n:Nat) (t:List UInt8),t.length=n→t.all zs=true→0<valL (c::t)∧Lib.decDigits (valL (c::t))=c::t
 | 0,t,hl,_=>by
  obtain rfl:t=[]:=List.eq_nil_of_length_eq_zero hl;have hd:=Xb hc;have hne:c.toNat≠48:=fun e=>h0 (UInt8.toNat.inj e);have e:valL [c]=c.toNat-48:=by unfold valL;rw[qA];show 0*10+_=_;omega
  refine⟨by omega,?_⟩;rw[e,Lib.decDigits,dif_pos (by omega),jfB hc]
 | n+1,t,hl,ha=>by
  obtain⟨q,z,rfl⟩:∃q z,t=q++[z]:=⟨_,_,(List.dropLast_concat_getLast (by intro e;rw[e] at hl;cases hl)).symm⟩
  rw[List.all_append,Bool.and_eq_true] at ha;have hz:zs z=true:=by have:=ha.2;simpa using this
  have hd:=Xb hz;obtain⟨i1,i2⟩:=jeV hc h0 n q (by simpa using hl) ha.1;have e:valL (c::(q++[z]))=valL (c::q)*10+(z.toNat-48):=jby 0 (c::q) z;refine⟨by omega,?_⟩;rw[e,jlY i1 (by omega),i2,jfB hz];rfl
theorem jmh {l:List UInt8} (h:zT l=true):Lib.itoa (valL l:Int)=l:=by
 have e:Lib.itoa (valL l:Int)=Lib.decDigits (valL l):=by
  unfold Lib.itoa;rw[if_neg (by omega)];rfl
 rw[e]
 cases l with
 | nil=>cases h
 | cons c t =>
  have ha:=jnv h;rw[List.all_cons,Bool.and_eq_true] at ha;by_cases h0:c=48
  · subst h0;rw[ZN,Bool.and_eq_true] at h;have ht:t=[]:=by
     cases t with
     | nil=>rfl
     | cons d u=>exact absurd h.1 (by simp)
    subst ht;rw[show valL [48]=0 from rfl,Lib.decDigits,dif_pos (by omega)];rfl
  · exact(jeV ha.1 h0 t.length t rfl ha.2).2
theorem jf0 {p:List UInt8} (h:zT (jB p)=true):(j3 p).1.data.toList++([61]++Lib.itoa (j3 p).2)=p:=by
 have hf:(Lib.cut p [61]).2.2=true:=Classical.byContradiction fun hf=>by
  have:jB p=[]:=jcp hf;rw[this] at h;cases h
 show (bytes (nameOf p)).data.toList++([61]++Lib.itoa (valL (jB p):Int))=p;rw[jmh h];have:=jaS 61 p hf;unfold nameOf jB;simpa [bytes] using this
theorem X9:∀(ps:List (List UInt8)),(∀p ∈ ps,zT (jB p)=true)→∀q,zT (jB q)=true→j8 true ((q::ps).map j3)=Lib.join (q::ps) [44]∧j8 false ((q::ps).map j3)=44::Lib.join (q::ps) [44]
 | [],_,q,hq=>by
  have e:=jf0 hq;have h1:j8 true ([q].map j3)=q:=by
   show (j3 q).1.data.toList++([61]++(Lib.itoa (j3 q).2++[]))=q;rw[List.append_nil];exact e
  refine⟨by rw[h1,Lib.join_one],?_⟩;show 44::j8 true ([q].map j3)=_;rw[h1,Lib.join_one]
 | x::ps,hps,q,hq=>by
  have e:=jf0 hq;have ih:=(X9 ps (fun p hp=>hps p (List.mem_cons_of_mem _ hp)) x (hps x (List.mem_cons_self ..))).2;have h1:j8 true ((q::x::ps).map j3)=q++44::Lib.join (x::ps) [44]:=by
   show (j3 q).1.data.toList++([61]++(Lib.itoa (j3 q).2++j8 false ((x::ps).map j3)))=_;rw[ih,←List.append_assoc [61],←List.append_assoc,e]
  refine⟨by rw[h1,qi];simp,?_⟩;show 44::j8 true ((q::x::ps).map j3)=_;rw[h1,qi];simp
def qI (w:World) (v:Value) (vs:List (Nat×Nat)) (ps:List (List UInt8)):Prop :=
 ∀(i:Nat) (x:Nat×Nat) (p:List UInt8),vs[i]?=some x→ps[i]?=some p→x.1<w.heap.size∧v.ownBlock≠some x.1 ∧
  w.cell? ⟨x.1,0,none⟩=some (.string (bytes (nameOf p)))∧w.cell? ⟨x.1,1,none⟩=some (.string (bytes (jB p)))
theorem qI.nil (w:World) (v:Value) (ps:List (List UInt8)):qI w v [] ps:=fun i x p h=>by simp at h
theorem qI.kept {w w':World} {v:Value} {vs:List (Nat×Nat)} {ps:List (List UInt8)} (h:qI w v vs ps) (k:Kept w w'):qI w' v vs ps:=fun i x p hx hp=>by
 obtain⟨h1,h2,h3,h4⟩:=h i x p hx hp;exact⟨Nat.lt_of_lt_of_le h1 k.size,h2,cell_later k h3,cell_later k h4⟩
theorem qI.snoc {w w':World} {v:Value} {vs:List (Nat×Nat)} {ps:List (List UInt8)} {g n cap b c:Nat} {p:List UInt8} (h:qI w v vs ps) (hg:w.grownBy w' v.ownBlock) (hgo:v.ownBlock=some g∨g=w.heap.size)
 (hp:ps[vs.length]?=some p) (hb:b<w.heap.size) (hne:v.ownBlock≠some b)
 (c0:w.cell? ⟨b,0,none⟩=some (.string (bytes (nameOf p)))) (c1:w.cell? ⟨b,1,none⟩=some (.string (bytes (jB p)))) :
 qI w' (.slice (some ⟨g,0,none⟩) n cap) (vs++[(b,c)]) ps:=by
 have far:∀d,d<w.heap.size→v.ownBlock≠some d→d<w'.heap.size∧(Value.slice (some ⟨g,0,none⟩) n cap).ownBlock≠some d∧∀j,w'.cell? ⟨d,j,none⟩=w.cell? ⟨d,j,none⟩:=fun d hd hn=>by
  refine⟨Nat.lt_of_lt_of_le hd hg.size,?_,fun j=>hg.cell_far ⟨d,j,none⟩ hd (fun e=>hn e.symm)⟩;show some g≠some d;intro e;have e':g=d:=Option.some.inj e;rcases hgo with h1 | h1
  · exact hn (by rw[h1,e'])
  · omega
 intro i x q hx hq;by_cases hi:i<vs.length
 · rw[List.getElem?_append_left hi] at hx;obtain⟨h1,h2,h3,h4⟩:=h i x q hx hq;obtain⟨f1,f2,f3⟩:=far x.1 h1 h2;exact⟨f1,f2,(f3 0).trans h3,(f3 1).trans h4⟩
 · have hi2:i=vs.length:=by
    have:=(List.getElem?_eq_some_iff.1 hx).1;simp at this;omega
   subst hi2;have hxx:(b,c)=x:=by simpa using hx
   have hqq:q=p:=Option.some.inj (hq.symm.trans hp);subst hxx;subst hqq;obtain⟨f1,f2,f3⟩:=far b hb hne;exact⟨f1,f2,(f3 0).trans c0,(f3 1).trans c1⟩
open Go.RowKit
theorem jj7 (a b:Int) (w:World) (ha:0≤a) (hb:0≤b) (hb':b≤9223372036854775807) (h:9223372036854775807<a+b):Calls Tryz.prog 106 #[.int .i64 a,.int .i64 b] w (qS 0 5 w):=by
 go_enter Tryz.func106,Tryz.ntmps106;go_wp2;go_ret2
 exact⟨rfl,rfl⟩
theorem jmY (a b:Int) (w:World) (ha:0≤a) (hb:0≤b) (h:a+b≤9223372036854775807):Calls Tryz.prog 106 #[.int .i64 a,.int .i64 b] w (qS (a+b) 0 w):=by
 go_enter Tryz.func106,Tryz.ntmps106;go_wp2;go_ret2
 exact⟨rfl,rfl⟩
def Told (c:Int) (m:V) (w:World) (e:Ending) (w':World):Prop:=∃x,e=.returned (.tuple #[x,.int .i64 c])∧jH 134 w' w.heap.size x m∧Kept w w'
theorem Told.none {c:Int} {w w':World} (k:Kept w w'):Told c [] w (.returned (.tuple #[.slice none 0 0,.int .i64 c])) w':=⟨_,rfl,jH.nil _ _ _,k⟩
theorem XE (a:Option Addr) (len cap:Nat) (l:V) (n:ByteArray) (w:World) (hr:jt w a len l) :
 Calls Tryz.prog 63 #[.slice a len cap,.string n] w fun e w'=>e=.returned (.int .i64 (jN l n))∧Kept w w':=by
 have hl:=hr.1;have hm:=hr.2.1;unfold maxLen at hm;rcases hr.form with h0 | ⟨b,off,rfl⟩
 · subst h0;have HE:=lH (show jN l n=0 by rw[List.eq_nil_of_length_eq_zero hl];rfl);clear hr hl;go_enter Tryz.func63,Tryz.ntmps63;go_wp2;refine wp_loop_rounds 1 ?_;rw[rounds_succ];go_wp2;go_ret;exact⟨jb HE.out.symm,Kept.refl _⟩
 · have HR:=lH hr;have HL:=lH hl;clear hr hl;go_enter Tryz.func63,Tryz.ntmps63;go_wp2;go_loopw [5] (fun i wr=>∃k:Nat,k≤len∧i=.int .i64 k∧jN (l.drop k) n=jN l n∧Kept w wr) (fun i _=>len-(intOf i).toNat)
   case atStart=>exact⟨0,Nat.zero_le _,rfl,rfl,Kept.refl _⟩
   case round =>
    obtain⟨k,hk,rfl,hrest,hK⟩:=hrel;have HK:=lH hK;have HS:=lH hrest;by_cases hlt:k<len
    · obtain⟨hb,c1,c2⟩:=(HR.out.kept hK).cells hlt;clear hK hrest;have HI:=lH (show k<l.length by rw[HL.out];exact hlt);by_cases e:eqS (nm l k) n=true
      · have E:=lH e;have e':((nm l k).toList==n.toList)=true:=e;clear e;go_wp2;go_ret;exact⟨jb (HS.out.symm.trans (jgs HI.out E.out)).symm,HK.out⟩
      · have e:eqS (nm l k) n=false:=by simpa using e
        have E:=lH e;have e':((nm l k).toList==n.toList)=false:=e;clear e;go_wp2;go_roundw
        case rel=>exact⟨k+1,by omega,by go_num,(jgD HI.out E.out).symm.trans HS.out,HK.out⟩
        case measure=>simp[intOf];omega
    · have HI:=lH (show ¬k<l.length by rw[HL.out];exact hlt);clear hK hrest;go_wp2;go_ret;exact⟨jb (HS.out.symm.trans (jil HI.out)).symm,HK.out⟩
theorem jkC (a a':Option Addr) (len cap len' cap':Nat) (l l':V) (w:World) (hr:jt w a len l) (hr':jt w a' len' l') :
 Calls Tryz.prog 31 #[.slice a len cap,.slice a' len' cap'] w fun e w'=>e=.returned (.bool (jP l' l))∧Kept w w':=by
 have hl:=hr.1;have hm:=hr.2.1;unfold maxLen at hm;rcases hr.form with h0 | ⟨b,off,rfl⟩
 · subst h0;have HE:=lH (show jP l' l=true by rw[List.eq_nil_of_length_eq_zero hl];rfl);clear hr hl hr';go_enter Tryz.func31,Tryz.ntmps31;go_wp2;refine wp_loop_rounds 1 ?_;rw[rounds_succ];go_wp2;go_ret;exact⟨jh HE.out.symm,Kept.refl _⟩
 · have HR:=lH hr;have HL:=lH hl;have HR':=lH hr';clear hr hl hr';go_enter Tryz.func31,Tryz.ntmps31;go_wp2;go_loopw [5] (fun i wr=>∃k:Nat,k≤len∧i=.int .i64 k∧jP l' (l.drop k)=jP l' l∧Kept w wr) (fun i _=>len-(intOf i).toNat)
   case atStart=>exact⟨0,Nat.zero_le _,rfl,rfl,Kept.refl _⟩
   case round =>
    obtain⟨k,hk,rfl,hrest,hK⟩:=hrel;have HS:=lH hrest;have HK:=lH hK;by_cases hlt:k<len
    · obtain⟨hb,c1,c2⟩:=(HR.out.kept hK).cells hlt;clear hrest hK;have HI:=lH (show k<l.length by rw[HL.out];exact hlt);by_cases e:qn l k≤jN l' (nm l k)
      · have E:=lH (show jP l' (l.drop k)=jP l' (l.drop (k+1)) by rw[drop_cons HI.out,jP,decide_eq_true e];rfl);go_wp2;have f1:wr.drew.cell? ⟨b,off+k*2,none⟩=some (.string (nm l k)):=c1;have f2:wr.drew.cell? ⟨b,off+k*2+1,none⟩=some (.int .i64 (qn l k)):=c2;have f3:Kept w wr.drew:=HK.out.trans (Kept.drewN _ 1);go_region_held3 (fun W=>W.cell? ⟨b,off+k*2,none⟩=some (.string (nm l k))∧W.cell? ⟨b,off+k*2+1,none⟩=some (.int .i64 (qn l k))∧Kept w W) (first | exact⟨f1,f2,f3⟩ | assumption | exact qM (by assumption) (by assumption))
         (first | (go_at_call 63;refine(XE _ _ _ l' _ _ (HR'.out.kept (Z7 (by assumption)))).mono ?_;rintro e W2 ⟨rfl,hk2⟩))
        all_goals
         go_wp2;go_roundw
         case rel=>exact⟨k+1,by omega,by go_num,E.out.symm.trans HS.out,Z7 (by assumption)⟩
         case measure=>simp[intOf];omega
      · have E:=lH (show jP l' (l.drop k)=false by rw[drop_cons HI.out,jP,decide_eq_false e];rfl);have e':jN l' (nm l k)<qn l k:=by omega
        clear e;go_wp2;have f1:wr.drew.cell? ⟨b,off+k*2,none⟩=some (.string (nm l k)):=c1;have f2:wr.drew.cell? ⟨b,off+k*2+1,none⟩=some (.int .i64 (qn l k)):=c2;have f3:Kept w wr.drew:=HK.out.trans (Kept.drewN _ 1);go_region_held3 (fun W=>W.cell? ⟨b,off+k*2,none⟩=some (.string (nm l k))∧W.cell? ⟨b,off+k*2+1,none⟩=some (.int .i64 (qn l k))∧Kept w W) (first | exact⟨f1,f2,f3⟩ | assumption | exact qM (by assumption) (by assumption))
         (first | (go_at_call 63;refine(XE _ _ _ l' _ _ (HR'.out.kept (Z7 (by assumption)))).mono ?_;rintro e W2 ⟨rfl,hk2⟩))
        all_goals
         go_wp2;go_ret;exact⟨jh (HS.out.symm.trans E.out).symm,Z7 (by assumption)⟩
    · have E:=lH (show jP l' (l.drop k)=true by rw[List.drop_of_length_le (by rw[HL.out];omega),jP]);clear hrest hK;go_wp2;go_ret;exact⟨jh (HS.out.symm.trans E.out).symm,HK.out⟩
theorem jH.reads {e:TypeId} {w:World} {B:Nat} {v:Value} {l:V} (h:jH e w B v l):Reads w v l:=h.at_
theorem Xp {n:ByteArray} {c:Bool} {w:World} (h:n.size≤maxLen) (e:isName n=c) :
 Calls Tryz.prog 98 #[.string n] w fun x w'=>x=.returned (.bool c)∧w=w':=by
 subst e;exact jo n w h
end Go.Proofs.YthmddloeggdohaaGreatDoor.Vec
namespace Go.Proofs.YthmddloeggdohaaGreatDoor
open Go.RowKit
structure jf (q:Nat) (vs:List Value) (W:World):Prop where
 at_:∀i v,vs[i]?=some v→W.cell? ⟨q,i,none⟩=some v
 free:∀i,W.frozen? ⟨q,i,none⟩=false
theorem jf.block {q:Nat} {vs:List Value} {W W':World} (h:jf q vs W) (e:W'.heap[q]?=W.heap[q]?):jf q vs W' :=
 ⟨fun i v hv=>(World.cell?_of_block (a:=⟨q,i,none⟩) e).trans (h.at_ i v hv),fun i=>(World.frozen?_of_block (a:=⟨q,i,none⟩) e).trans (h.free i)⟩
theorem jf.lt {q:Nat} {v:Value} {vs:List Value} {W:World} (h:jf q (v::vs) W):q<W.heap.size:=World.block_lt_of_cell? _ _ (h.at_ 0 v rfl)
theorem jf.kept {q:Nat} {v:Value} {vs:List Value} {W W':World} (h:jf q (v::vs) W) (k:Kept W W'):jf q (v::vs) W':=h.block (k.block q h.lt)
theorem jf.other {q p j:Nat} {u:Value} {vs:List Value} {W:World} (h:jf q vs W) (hp:q≠p):jf q vs (W.setCell ⟨p,j,none⟩ u):=h.block (Below.heap_setCell W ⟨p,j,none⟩ u q hp)
theorem jg (w:World) (v:Value) (vs:List Value) (T:TypeId) (W:World) (k:Kept (w.alloc (.cells (v::vs).toArray T)) W):jf w.heap.size (v::vs) W:=by
 have hh:=w.alloc_heap_new (.cells (v::vs).toArray T);have h:jf w.heap.size (v::vs) (w.alloc (.cells (v::vs).toArray T)):=⟨fun i u hu=>by rw[Lib.cell_of_heap hh];simpa using hu,fun i=>by
  unfold World.frozen?;rw[show (w.alloc (.cells (v::vs).toArray T)).heap[(⟨w.heap.size,i,none⟩:Addr).block]?=some (.cells (v::vs).toArray T) from hh];simp⟩
 exact h.kept k
theorem jf.set {q j:Nat} {u:Value} {vs:List Value} {W:World} (h:jf q vs W) (hj:j<vs.length):jf q (vs.set j u) (W.setCell ⟨q,j,none⟩ u):=by
 refine⟨fun i v hv=>?_,fun i=>by rw[World.frozen?_setCell];exact h.free i⟩;by_cases e:j=i
 · subst e;have hv':v=u:=by rw[List.getElem?_set_self hj] at hv;exact(Option.some.inj hv).symm
   subst hv';exact World.cell?_setCell_same _ _ _ (h.at_ j _ (List.getElem?_eq_getElem hj))
 · rw[List.getElem?_set_ne e] at hv;rw[World.cell?_setCell_other _ _ _ _ (by simp)];exact h.at_ i v hv
theorem jbc (q:Nat):∀(vs:List Value) (o:Nat) (W:World),(W.setCells q o vs).heap.size=W.heap.size
 | [],_,_=>rfl
 | v::r,o,W=>by rw[World.setCells,jbc q r];simp[World.setCell]
theorem YR (q:Nat):∀(vs:List Value) (o:Nat) (W:World) (b:Nat),b≠q→(W.setCells q o vs).heap[b]?=W.heap[b]?
 | [],_,_,_,_=>rfl
 | v::r,o,W,b,h=>by rw[World.setCells,YR q r _ _ b h];exact Below.heap_setCell W ⟨q,o,none⟩ v b h
theorem zA (q:Nat):∀(vs:List Value) (o:Nat) (W:World) (B:Nat) (w:World),B≤q→Below B w W→Below B w (W.setCells q o vs)
 | [],_,_,_,_,_,k=>k
 | v::r,o,W,B,w,h,k=>by rw[World.setCells];exact zA q r _ _ B w h (k.setCell (p:=⟨q,o,none⟩) h _)
structure jo8 (q:Nat) (vs:List Value) (W W':World):Prop where
 cells:jf q vs W'
 size:W'.heap.size=W.heap.size
 far:∀b,b≠q→W'.heap[b]?=W.heap[b]?
 below:∀B w,B≤q→Below B w W→Below B w W'
theorem J7 {q:Nat} {us vs:List Value} {W:World} (h:jf q us W) (hl:us.length=vs.length):jo8 q vs W (W.setCells q 0 vs):=by
 refine⟨⟨fun i v hv=>?_,fun i=>by rw[World.frozen?_setCells];exact h.free i⟩,jbc q vs 0 W,fun b hb=>YR q vs 0 W b hb,fun B w hB k=>zA q vs 0 W B w hB k⟩;have hi:i<vs.length:=(List.getElem?_eq_some_iff.1 hv).1;have:=World.cell?_setCells_in q vs 0 W (fun j hj=>by rw[Nat.zero_add,h.at_ j _ (List.getElem?_eq_getElem (by omega))];rfl) i hi;rw[Nat.zero_add] at this;rw[this];obtain⟨_,e⟩:=List.getElem?_eq_some_iff.1 hv;rw[e]
end Go.Proofs.YthmddloeggdohaaGreatDoor
