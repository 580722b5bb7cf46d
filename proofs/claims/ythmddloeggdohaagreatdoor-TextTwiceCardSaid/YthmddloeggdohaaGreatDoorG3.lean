/- What serves all packages,and package by package the contracts of the functions that the law calls. -/
import Derived.Test.YthmddloeggdohaaGreatDoorG0
import Derived.Test.YthmddloeggdohaaGreatDoorG1
import Derived.Test.YthmddloeggdohaaGreatDoorG2
import Derived.Shelf.SlSortCmp.QuietGrown
set_option linter.unusedVariables false
set_option maxRecDepth 100000
set_option maxHeartbeats 25600000
namespace Go.Proofs.YthmddloeggdohaaGreatDoor
open Go.RowKit Go.Shelf
attribute [local go_sem] Oper.semAt_some
theorem joF:(Tryz.prog.info? 152).map (fun i=>(i.zero,i.size,i.bytes))=some (some (.agg #[.int .i64 0,.string ByteArray.empty,.string ByteArray.empty]),3,40):=by kernel_rfl
theorem ji8 {p:List UInt8} (h:p.length≤1000000):jL.fine (zC p):=by
 have h1:=(Yl p [58]).1;have h2:=(Yl p [58]).2;have h3:=(Yl p [33]).1;have h4:=(Yl p [33]).2;have h5:(Lib.trimPrefix p [45]).length≤p.length:=by unfold Lib.trimPrefix;split<;>simp
 have he:ByteArray.empty.size≤maxLen:=Nat.zero_le _;have mk:∀q:List UInt8,q.length≤p.length→(bytes q).size≤maxLen:=fun q hq=>by rw[ji];unfold maxLen;omega
 unfold zC;split
 · exact⟨⟨by dsimp only;omega,by dsimp only;omega⟩,mk _ h5,he⟩
 · split
   · exact⟨⟨by dsimp only;omega,by dsimp only;omega⟩,mk _ (Nat.le_refl _),he⟩
   · split
     · exact⟨⟨by dsimp only;omega,by dsimp only;omega⟩,mk _ h1,mk _ h2⟩
     · exact⟨⟨by dsimp only;omega,by dsimp only;omega⟩,mk _ h3,mk _ h4⟩
def JU (s:List UInt8):=Js JW zC zb s
theorem jgn (w:World) :
 Calls Tryz.prog 225 #[.string (bytes [45]),.func (.func 226) #[] #[],.func (.func 227) #[] #[]] w (jw jL 152 (JU [45]) w.heap.size w):=by
 have e:((bytes [45]).toList==[45])=true:=by rw[jn];rfl
 go_enter Tryz.func225,Tryz.ntmps225;go_wp2;go_ret;exact jw.good rfl (Own.nil _ _ _) (ja _ _)
theorem jhK (s:List UInt8) (w:World) (hE:Env w) (hs:s.length≤1000000) (hd:s≠[45]) :
 Calls Tryz.prog 225 #[.string (bytes s),.func (.func 226) #[] #[],.func (.func 227) #[] #[]] w (jw jL 152 (JU s) w.heap.size w):=by
 have hdash:((bytes s).toList==[45])=false:=by rw[jn];simpa using hd
 have HD0:=lH hd;clear hd;refine ZC (n:=6) Tryz.func225 rfl ?_;simp only[Tryz.ntmps225,List.size_toArray,List.length_cons,List.length_nil,Nat.reduceAdd,Nat.reduceSub,Array.replicate_succ,Array.replicate_zero,List.push_toArray,List.append_toArray,List.nil_append,List.cons_append];refine jQ (j6 (n:=6) ?_);gi_wp2
 refine jQ (j6 (n:=6) ?_);gi_wp2
 refine jQ (j6 (n:=6) ?_);gi_wp2
 obtain⟨V0,hV0⟩:∃V0,(w.alloc (.cells #[.func (.func 226) #[] #[]] 295)).alloc (.cells #[.slice none 0 0] 59)=V0:=⟨_,rfl⟩
 have HV0S:=lH (show V0.heap.size=w.heap.size+2 by rw[←hV0];simp);have HV0K:=lH (show Kept w V0 by rw[←hV0];exact jk _ _ _);have HV0C:=lH (show V0.cell? ⟨w.heap.size+1,0,none⟩=some (.slice none 0 0)∧V0.frozen? ⟨w.heap.size+1,0,none⟩=false∧V0.cell? ⟨w.heap.size,0,none⟩=some (.func (.func 226) #[] #[]) by
  rw[←hV0];exact qJ w _ _ _ _)
 rw[hV0];clear hV0;have HE:=lH hE;have HPL:=lH (fun p (h:p ∈ partsOf s)=>Nat.le_trans (YG s p h) hs);have hcl:(bytes s).size≤281474976710656:=by rw[ji];omega
 clear hE;refine jQ (jQ (j6 (n:=6) ?_));gi_wp2_with (first | (refine⟨trivial,?_⟩;gi_at_call 160;refine(callsIn_wide.2 (Zp _ _ hcl)).mono ?_;rintro e w1 ⟨rfl,k1⟩;have K1:=lH k1;clear k1) | (refine⟨trivial,?_⟩;gi_at_call 252;refine(callsIn_wide.2 (ZX s _)).mono ?_;rintro e w2 ⟨rfl,rfl⟩))
 refine Yg ?_;obtain⟨m,hm⟩:∃m,w1.heap.size=m:=⟨_,rfl⟩
 have bc:=Yp w1 s;have bsz:=YQ w1 s;rw[hm] at bc bsz ⊢;have HM:=lH hm;have hwm:w.heap.size+2≤m:=by rw[←hm,←HV0S.out];exact K1.out.size
 have HWM:=lH hwm;have HB0:=lH (show Below w.heap.size w (boxes w1 s) from HV0K.out.trans (K1.out.trans (Jq w1 s)));have HK0:=lH (show Kept V0 (boxes w1 s) from K1.out.trans (Jq w1 s));have HC0:=lH (show (boxes w1 s).cell? ⟨w.heap.size+1,0,none⟩=some (.slice none 0 0)∧(boxes w1 s).frozen? ⟨w.heap.size+1,0,none⟩=false∧(boxes w1 s).cell? ⟨w.heap.size,0,none⟩=some (.func (.func 226) #[] #[]) from
  ⟨cell_later HK0.out HV0C.out.1,(HK0.out.frozen (p:=⟨w.heap.size+1,0,none⟩) (by rw[HV0S.out];exact Nat.lt_succ_self _)).trans HV0C.out.2.1,cell_later HK0.out HV0C.out.2.2⟩)
 clear hm;refine YO (n:=6) Tryz.func225 (by decide) (m+1) m (m+2) rfl s hs (by omega) (by omega) (by omega) (by omega) (by omega) bc.1 bc.2.1 bc.2.2.1 bc.2.2.2
  (fun k W'=>Below w.heap.size w W'∧(∀p ∈ (partsOf s).take k,JW p=false)∧W'.cell? ⟨w.heap.size,0,none⟩=some (.func (.func 226) #[] #[])∧X7 jL 152 (m+5) (w.heap.size+1) (zN zC (partsOf s) k) W')
  (fun c W'=>c=[ju 2]∧Below w.heap.size w W'∧(partsOf s).any JW=true)
  (fun k W1 W2 h st=>⟨Below.st h.1 st (by omega) (by omega),h.2.1,jcc h.2.2.1 st (by omega) (by omega),h.2.2.2.st st (by omega) (by omega) (by omega)⟩) (fun k W' h=>HE.out.kept h.1) ⟨HB0.out,by simp,HC0.out.2.2,⟨_,HC0.out.1,HC0.out.2.1,Own.nil _ _ _⟩⟩
  (fun x=>{ tmps:=#[.string (bytes s),.func (.func 226) #[] #[],.func (.func 227) #[] #[],undef,.pointer (some ⟨w.heap.size,0,none⟩),undef,.slice none 0 0,.pointer (some ⟨w.heap.size+1,0,none⟩),.string x,undef,.string (bytes s),.bool false,.string (bytes s),.string (bytes s),
    .func (.func 301) #[] #[.pointer (some ⟨m+1,0,none⟩),.pointer (some ⟨m,0,none⟩),.pointer (some ⟨m+2,0,none⟩)],.string x,
    undef,undef,undef,undef,undef,undef,undef,undef,undef,undef,undef,undef,undef,undef,undef],defers:=[] }) ?assign ?body ?done ?panic
 case assign =>
  intro l x W' K hK;gi_wp2
  exact hK
 case panic =>
  rintro c W' ⟨rfl,hB',hbad⟩ hk';have HV:=lH (show JU s=(2,[]) by unfold JU Js;rw[if_neg HD0.out,if_pos hbad]);refine⟨by simp,.inl ⟨_,_,rfl,run_takeDeferred hk',?_⟩⟩;exact jw.bad (by rw[HV.out]) (by decide) (zn hB' (by omega))
 case body =>
  rintro l k p W' hp ⟨hB',hd',hfc,v,hvc',hvf',hvo⟩ hlt';have hmem:p ∈ partsOf s:=List.mem_of_getElem? hp;have HMEM:=lH hmem;have hpl:=HPL.out p hmem;have HE':=lH (HE.out.kept hB');have HB':=lH hB';have HD':=lH hd';have HP:=lH hp;have hvb:w.heap.size+1<W'.heap.size:=by rw[bsz] at hlt';omega
  have HLT:=lH (show m+5≤W'.heap.size by rw[bsz] at hlt';omega);have HHD:Hid ((boxes w1 s).heap.size=m+3):=lH bsz;by_cases hgood:JW p=false
  · have HGOOD:=lH hgood;obtain⟨o,x,y,hxy⟩:∃o x y,zC p=(o,x,y):=⟨_,_,_,rfl⟩
    have HXY:=lH hxy;have HCALL:=lH (jm7 p W' HE'.out hpl hgood);rw[hxy] at HCALL;obtain⟨av,cv,rfl,q1,q2,q3⟩:=hvo.at_;obtain⟨n,hn⟩:∃n,(zN zC (partsOf s) k).length=n:=⟨_,rfl⟩
    rw[hn] at hvo hvc';have HVO:=lH hvo;have HFC0:=lH hfc;have HN:=lH hn;have hn9:n≤9:=by
     have:=XG (f:=zC) (show k≤(partsOf s).length from Nat.le_of_lt (List.getElem?_eq_some_iff.1 hp).1);omega
    clear bc bsz hB' hd' hp hmem hlt' q3 hvo hn q1 q2 hgood hxy;gi_wp2_with (refine⟨trivial,?_⟩;gi_at_call 226;refine(CallsIn.inRound l (callsIn_wide.2 HCALL.out)).mono ?_;rintro e W1 ⟨rfl,k1⟩;have K1':=lH k1;have hvc1:=cell_later k1 hvc';have hvf1:=(k1.frozen (p:=⟨w.heap.size+1,0,none⟩) hvb).trans hvf';have hm1:w.heap.size+1<W1.heap.size:=Nat.lt_of_lt_of_le hvb k1.size;clear k1 hvc' hvf' hfc;refine Hid.out ?_)
    refine lH ?_;by_cases h8:n≤8
    · obtain⟨i0,hi,hz0,hz1,hz2⟩:=info_parts joF;gi_wp2_with (gi_at_builtin;go_must (refine wpListIn_append_own _ rfl (.tmp 22) (.tmp 24) _ rfl (m+5) 152 i0 _ 3 40 Tryz.underlying59 hi hz0 hz1 hz2 rfl (by decide) _ n (jd jL (zN zC (partsOf s) k)) rfl (((HVO.out.kept K1'.out).kept (jk W1 (.cells #[.int .i64 o,.string x,.string y] 152) (.cells #[.int .i64 o,.string x,.string y] 152))).row HN.out) ⟨W1.heap.size+1,0,none⟩ 1 1 [.int .i64 o,.string x,.string y] rfl rfl (jiN _ _ (.int .i64 o) (.string x) (.string y) _) (jeq o x y) (by unfold maxLen;omega) (by omega) (by rw[World.size_alloc,World.size_alloc];have:=HLT.out;have:=K1'.out.size;omega) ?_);intro v' w2 hown' hgrow _;refine Hid.out ?_)
      refine lH ?_;obtain⟨g',cap',rfl⟩:=ownsRow_succ hown';have KA:=lH (show Kept W' ((W1.alloc (.cells #[.int .i64 o,.string x,.string y] 152)).alloc (.cells #[.int .i64 o,.string x,.string y] 152)) from K1'.out.trans (jk W1 _ _));have hrow:∀r,(Value.slice av n cv).ownBlock=some r→m+5≤r:=fun r hr=>(HVO.out.1.lt r hr).1;have hbl:∀b,b<m+5→w2.heap[b]?=W'.heap[b]?:=fun b hb=>(hgrow.block b (Nat.lt_of_lt_of_le hb (Nat.le_trans HLT.out KA.out.size)) (fun e=>by have:=hrow b e.symm;omega)).trans (KA.out.block b (Nat.lt_of_lt_of_le hb HLT.out));have HBL:=lH hbl;have hvc2:w2.cell? ⟨w.heap.size+1,0,none⟩=some (.slice av n cv):=(World.cell?_of_block (a:=⟨w.heap.size+1,0,none⟩) (hgrow.block (w.heap.size+1) (by simp;omega) (fun e=>by have:=hrow _ e.symm;omega))).trans (cell_later (jk W1 _ _) hvc1);have hvf2:w2.frozen? ⟨w.heap.size+1,0,none⟩=false:=(World.frozen?_of_block (a:=⟨w.heap.size+1,0,none⟩) (hgrow.block (w.heap.size+1) (by simp;omega) (fun e=>by have:=hrow _ e.symm;omega))).trans (((jk W1 _ _).frozen (p:=⟨w.heap.size+1,0,none⟩) hm1).trans hvf1);have HOWN:=lH hown';have HGS:=lH (show Below w.heap.size w w2 from⟨hgrow.os.trans (KA.out.os.trans HB'.out.os),hgrow.tape.trans (KA.out.tape.trans HB'.out.tape),hgrow.output.trans (KA.out.output.trans HB'.out.output),Nat.le_trans HB'.out.size (Nat.le_trans KA.out.size hgrow.size),fun b hb=>(HBL.out b (by omega)).trans (HB'.out.block b hb)⟩);have HFC:=lH (show w2.cell? ⟨w.heap.size,0,none⟩=some (.func (.func 226) #[] #[]) from(World.cell?_of_block (a:=⟨w.heap.size,0,none⟩) (HBL.out w.heap.size (by omega))).trans HFC0.out);clear hvc1 hvf1 hown' hgrow hrow hbl hi hz0 hz1 hz2;gi_wp2
      refine⟨fun b hb=>?_,HGS.out.setCell (p:=⟨w.heap.size+1,0,none⟩) (by show w.heap.size≤w.heap.size+1;omega) _,Z6 HD'.out HP.out HGOOD.out,?_,⟨_,World.cell?_setCell_same' _ _ _ (by rw[hvc2];rfl),by rw[World.frozen?_setCell];exact hvf2,?_⟩⟩
      · have hbm:b<m+5∧b≠w.heap.size+1:=by have:=HHD.out;rcases hb with h | h | h | h | h<;>omega
        exact(Below.heap_setCell w2 ⟨w.heap.size+1,0,none⟩ _ b hbm.2).trans (HBL.out b hbm.1)
      · rw[World.cell?_setCell_other _ _ _ _ (by intro e;injection e with e;omega)];exact HFC.out
      · have hl:(zN zC (partsOf s) (k+1)).length=n+1:=by rw[JD HP.out (by rw[HN.out];exact h8),List.length_append,HN.out];rfl
        have ho:Own jL 152 w2 (m+5) (.slice (some ⟨g',0,none⟩) (n+1) cap') (zN zC (partsOf s) (k+1)):=by
         refine⟨?_,?_⟩
         · rw[hl,JD HP.out (by rw[HN.out];exact h8),jC,HXY.out];exact HOWN.out
         · rw[JD HP.out (by rw[HN.out];exact h8)];intro z hz;rcases List.mem_append.1 hz with g | g
           · exact HVO.out.2 z g
           · have:z=zC p:=by simpa using g
             rw[this];exact ji8 hpl
        exact ho.setCell_below (a:=⟨w.heap.size+1,0,none⟩) (by show w.heap.size+1<m+5;omega) _
    · have HFULL:=lH (qO (f:=zC) HP.out (by rw[HN.out];exact h8));have h9:8<n:=by omega
      have HQ1:=lH (cell_later (ja W1 (.cells #[.int .i64 o,.string x,.string y] 152)) hvc1);have HQ2:=lH (((ja W1 (.cells #[.int .i64 o,.string x,.string y] 152)).frozen (p:=⟨w.heap.size+1,0,none⟩) hm1).trans hvf1);have HFC:=lH (show (W1.alloc (.cells #[.int .i64 o,.string x,.string y] 152)).cell? ⟨w.heap.size,0,none⟩=some (.func (.func 226) #[] #[]) from cell_later (K1'.out.trans (ja W1 _)) HFC0.out);clear h8;gi_wp2
      refine⟨fun b hb=>?_,HB'.out.trans (Below.mono (Kept.trans K1'.out (ja W1 _)) HB'.out.size),Z6 HD'.out HP.out HGOOD.out,HFC.out,⟨.slice av n cv,HQ1.out,HQ2.out,?_⟩⟩
      · have hbm:b<m+5:=by have:=HHD.out;rcases hb with h | h | h | h | h<;>omega
        exact(Kept.trans K1'.out (ja W1 _)).block b (Nat.lt_of_lt_of_le hbm HLT.out)
      · rw[HFULL.out];exact HVO.out.kept (Kept.trans K1'.out (ja W1 _))
  · have HBAD:=lH (show JW p=true by simpa using hgood);clear bc bsz hB' hd' hp hmem hlt' hvo hvc' hvf' hgood;gi_wp2_with (refine⟨trivial,?_⟩;gi_at_call 226;refine(CallsIn.inRound l (callsIn_wide.2 (jl0 p _ HE'.out hpl HBAD.out))).mono ?_;rintro e W1 ⟨rfl,k1⟩;have K1':=lH k1;clear k1)
    refine⟨rfl,fun b hb=>?_,rfl,HB'.out.trans (Below.mono K1'.out HB'.out.size),?_⟩
    · have hbm:b<m+5:=by have:=HHD.out;rcases hb with h | h | h | h | h<;>omega
      exact K1'.out.block b (Nat.lt_of_lt_of_le hbm HLT.out)
    · rw[List.any_eq_true];exact⟨p,HMEM.out,HBAD.out⟩
 case done =>
  rintro W' ⟨hB',hd',hfc,v,hvc',hvf',hvo⟩ hk';have hany:(partsOf s).any JW=false:=by
   rw[List.any_eq_false];intro p hp;rw[hd' p (by simpa using hp)];decide
  have hacc:zN zC (partsOf s) (partsOf s).length=((partsOf s).map zC).take 9:=by unfold zN;rw[List.take_length]
  rw[hacc] at hvo;obtain⟨R,hR⟩:∃R,((partsOf s).map zC).take 9=R:=⟨_,rfl⟩
  have HV:=lH (show JU s=if zb R≠0 then (zb R,[]) else (0,R) by unfold JU Js;rw[if_neg HD0.out,if_neg (by rw[hany];decide),hR]);rw[hR] at hvo;obtain⟨av,cv,rfl,q1,q2,q3⟩:=hvo.at_;have HVO:=lH hvo;have HCHK:=lH (fun W (k:Kept W' W)=>jbn av R.length cv R W (q3.kept k));have HDD:=lH hk';have HB':=lH hB';have HLT:=lH (show m+3<W'.heap.size by have:=(Array.getElem?_eq_some_iff.1 hk').1;rw[bsz] at this;exact this);have HBS:=lH bsz;have hvb:w.heap.size+1<W'.heap.size:=by have:=HLT.out;omega
  clear bc bsz hB' hd' hk' hvo q3 q1 q2 hR hacc hany hfc;refine j6 (n:=6) (wpIn_wide.2 ?_);have KD:=lH (Kept.drew W');have f1:=cell_later KD.out hvc';by_cases hc:zb R=0
  · have HC:=lH hc;have HCW:=lH (HCHK.out _ KD.out);rw[hc] at HCW;clear hc;go_wp2;go_region_held3 (fun W=>W.cell? ⟨w.heap.size+1,0,none⟩=some (.slice av R.length cv)∧Kept W' W)
     (first | exact⟨f1,KD.out⟩ | exact⟨cell_later K1.out f1,KD.out.trans K1.out⟩)
     (first | (go_at_call 227;refine HCW.out.mono ?_;rintro e1 W1 ⟨rfl,k1⟩;have K1:=lH k1;clear k1) | (go_at_call 176;refine(jbC _ _).mono ?_;rintro e2 w2 ⟨rfl,rfl⟩))
    go_wp2;have K1':=lH (KD.out.trans K1.out);have e1:W1.heap[(boxes w1 s).heap.size]?=some (.deferred (some [])):=(K1'.out.block _ (by rw[HBS.out];exact HLT.out)).trans HDD.out;refine⟨by simp,.inl ⟨_,_,rfl,run_takeDeferred e1,?_⟩⟩;refine⟨_,results_tmp rfl _ _ _,?_⟩;refine jw.good (by rw[HV.out,if_neg (by rw[HC.out];decide)]) (by rw[HV.out,if_neg (by rw[HC.out];decide)];exact((HVO.out.kept K1'.out).put (by rw[HBS.out];omega) _).base_le (by omega)) ?_;exact zn (HB'.out.trans (Below.mono K1'.out HB'.out.size)) (by rw[HBS.out];omega)
  · have HC:=lH hc;have HCW:=lH (HCHK.out _ KD.out);clear hc;go_wp2;refine Code.wp_mono (Q:=fun e a W=>match e with | .panic c=>c=[ju (zb R)]∧Kept W' W∧a.defers=[{ target:=.collected (boxes w1 s).heap.size,args:=#[] }] | _=>False) ?post ?_
    case post =>
     intro e a' W1 h
     cases e<;>try exact h.elim
     obtain⟨rfl,hk,hd⟩:=h;obtain⟨tm,df⟩:=a';dsimp only at hd;subst hd;have e1:W1.heap[(boxes w1 s).heap.size]?=some (.deferred (some [])):=(hk.block _ (by rw[HBS.out];exact HLT.out)).trans HDD.out;refine⟨by simp,.inl ⟨_,_,rfl,run_takeDeferred e1,?_⟩⟩;exact jw.bad (by rw[HV.out,if_pos HC.out]) HC.out (zn (HB'.out.trans (Below.mono hk HB'.out.size)) (by rw[HBS.out];omega))
    refine wp_region_held_drew (S:=fun W=>W.cell? ⟨w.heap.size+1,0,none⟩=some (.slice av R.length cv)∧Kept W' W) (by kernel_rfl) ⟨f1,KD.out⟩ (fun hHeld=>?_);refine tkI 0 ?_;refine tkI 1 ?_;refine tkI 2 ?_;try simp only[nP]
    refine rdH (rs:=[3]) (h:=AllReadyH.cons rfl (fun K hK=>?_) AllReadyH.nil);go_simp;refine HCW.out.mono ?_;rintro e1 W1 ⟨rfl,k1⟩;have K1:=lH k1;refine hK.out _ _ ⟨cell_later k1 f1,KD.out.trans k1⟩ (fun hHeld2=>?_);clear hK K k1;try simp only[nP]
    refine rdH (rs:=[4]) (h:=AllReadyH.cons rfl (fun K hK=>?_) AllReadyH.nil);go_simp;refine(jjq _ _ _ HC.out).mono ?_;rintro e2 w2 ⟨rfl,rfl⟩;first | exact⟨rfl,KD.out.trans K1.out⟩ | exact⟨rfl,rfl,KD.out.trans K1.out,rfl⟩ | exact⟨rfl,KD.out.trans K1.out,rfl⟩
end Go.Proofs.YthmddloeggdohaaGreatDoor
namespace Go.Proofs.YthmddloeggdohaaGreatDoor
open Go.RowKit
theorem jck (B:Nat) (q:Nat) (x y:Int) (w:World) (hq:w.cell? ⟨q,0,none⟩=some (.int .i64 y)) (hzq:w.frozen? ⟨q,0,none⟩=false) (hBq:B≤q) :
 CallsD Tryz.prog 267 #[.pointer (some ⟨q,0,none⟩)] (.panicking [ju x]) w fun e u' w' =>
  e=.returned (.tuple #[])∧u'=.panicking [{ ju x with recovered:=true }]∧w'.cell? ⟨q,0,none⟩=some (.int .i64 x)∧Below B w w':=by
 have hta:∀W,(Instr.typeAssert (.iface 32 (.int .i64 x)) 20 32 false).run Tryz.prog W=.ok (.int .i64 x) W:=fun _=>by kernel_rfl
 refine callsD_of_wpS Tryz.func267 rfl fun c₀ cs hu=>?_;apply wpS_seq;apply wpS_region;simp[wpOpsS,go_sem,recoverD,hu,Tryz.ntmps267,Exit.thenS];apply wpS_seq;apply wpS_region;simp[wpOpsS,go_sem,recoverD,Exit.thenS];refine wpS_cond (t:=true) (by simp[Act.eval,Array.replicate]) ?_;simp only[if_true];refine wpS_of_wp ?_;simp[Array.replicate];go_wp2;simp[bodyPostS,results,Tryz.results267];exact⟨World.cell?_setCell_same' _ _ _ (by rw[hq];rfl),(Below.refl B w).setCell (p:=⟨q,0,none⟩) hBq _⟩
theorem jfU (q:Addr) (w:World) :
 CallsD Tryz.prog 267 #[.pointer (some q)] .returning w fun e u' w'=>e=.returned (.tuple #[])∧u'=.returning∧w'=w:=by
 refine callsD_of_wpS Tryz.func267 rfl fun c₀ cs hu=>?_;apply wpS_seq;apply wpS_region;simp[wpOpsS,go_sem,recoverD,hu,Tryz.ntmps267,Exit.thenS];apply wpS_seq;apply wpS_region;simp[wpOpsS,go_sem,recoverD,hu,Exit.thenS];refine wpS_cond (t:=false) (by simp[Act.eval,Array.replicate]) ?_;simp only[Bool.false_eq_true,if_false];refine wpS_of_wp (wp_skip ?_)
 cases c₀
 simp_all [bodyPostS,results,Tryz.results267]
def jmM (r:Int×TL) (w:World) (e:Ending) (w':World):Prop :=
 ∃v,e=.returned (.tuple #[v,.int .i64 r.1])∧Own jL 152 w' w.heap.size v r.2∧Kept w w'
theorem jhF (C:Addr) (r:Int×TL) (w:World) (hr:r.1≠0→r.2=[])
 (hk:∀W,Kept w W→Calls Tryz.prog 224 #[.pointer (some C)] W (jw jL 152 r W.heap.size W)) :
 Calls Tryz.prog 223 #[.func (.func 224) #[] #[.pointer (some C)]] w (jmM r w):=by
 have hmf:=hmfL (P:=Tryz.prog);have HK:=lH hk;have HR:=lH hr;clear hk hr;obtain⟨r1,r2⟩:=r;go_enter_defers Tryz.func223,Tryz.ntmps223
 go_wp2_with fail
 refine(HK.out _ (ja _ _)).mono ?_;rintro e1 w1 ⟨h0,h1,hb⟩;have k1:=hb.size;simp only[World.size_alloc] at k1;have c2:=(hb.cell (p:=⟨w.heap.size,0,none⟩) (by simp))
 have z2:=(hb.frozen (p:=⟨w.heap.size,0,none⟩) (by simp))
 have e2':w1.cell? ⟨w.heap.size,0,none⟩=some (.int .i64 0):=by rw[c2];go_simp
 have y2:w1.frozen? ⟨w.heap.size,0,none⟩=false:=by rw[z2];go_simp
 clear c2 z2;have KB:=lH (show Below w.heap.size w w1 from(ja w _).trans hb);by_cases hx:r1=0
 · subst hx;obtain⟨v,rfl,ho⟩:=h0 rfl;have HO:=lH ho;obtain⟨av,cv,rfl,_,_,_⟩:=ho.at_;have hsz:=World.size_alloc w (.cells #[.int .i64 0] 32);clear h0 h1 hb ho;go_wp2_with fail
   refine leaves_cons (f:=267) (args:=#[.pointer (some ⟨w.heap.size,0,none⟩)]) (by simp) (by simp[go_sem]) ?_;refine(jfU ⟨w.heap.size,0,none⟩ _).mono ?_;rintro e u' w'' ⟨rfl,rfl,rfl⟩;simp[Leaves,settle,results,Tryz.results223,go_sem,e2'];exact⟨_,rfl,(HO.out.setCell_below (a:=⟨w.heap.size,0,none⟩) (by simp) _).base_le (by simp),(KB.out.setCell (p:=⟨w.heap.size,0,none⟩) (Nat.le_refl _) _)⟩
 · obtain rfl:=h1 hx;obtain rfl:=HR.out hx;clear h0 h1 hb;go_wp2_with fail
   refine leaves_cons (f:=267) (args:=#[.pointer (some ⟨w.heap.size,0,none⟩)]) (by simp) (by simp[go_sem]) ?_;refine(jck w.heap.size w.heap.size r1 0 _ e2' y2 (by omega)).mono ?_;rintro e u' w'' ⟨rfl,rfl,q2,q3⟩;simp[Leaves,settle,results,Tryz.results223,go_sem,q2];exact⟨_,rfl,Own.nil _ _ _,KB.out.trans q3⟩
theorem jg9 (s:List UInt8) (w:World) (hE:Env w) (hs:s.length≤1000000) :
 Calls Tryz.prog 225 #[.string (bytes s),.func (.func 226) #[] #[],.func (.func 227) #[] #[]] w (jw jL 152 (JU s) w.heap.size w):=by
 by_cases h:s=[45]
 · subst h;exact jgn w
 · exact jhK s w hE hs h
theorem jme (C:Addr) (s:List UInt8) (w:World) (h1:w.cell? C=some (.string (bytes s))) (hE:Env w) (hs:s.length≤1000000) :
 Calls Tryz.prog 224 #[.pointer (some C)] w (jw jL 152 (JU s) w.heap.size w):=by
 have HE:=lH hE;clear hE;go_enter Tryz.func224,Tryz.ntmps224;go_wp2_with fail
 refine(jg9 s _ HE.out hs).mono ?_;rintro e w' ⟨g0,g1,k⟩;by_cases hx:(JU s).1=0
 · obtain⟨v,rfl,ho⟩:=g0 hx;have HX:=lH hx;have HO:=lH ho;have HK:=lH k;clear g0 g1 hx ho k;go_wp2;go_ret;exact jw.good HX.out HO.out HK.out
 · obtain rfl:=g1 hx;have HX:=lH hx;have HK:=lH k;clear g0 g1 hx k;go_wp2;exact⟨rfl,jw.bad rfl HX.out HK.out⟩
theorem jbq (s:List UInt8) (w:World) (hE:Env w) (hs:s.length≤1000000) :
 Calls Tryz.prog 177 #[.string (bytes s)] w (jmM (JU s) w):=by
 have hmf:=hmfL (P:=Tryz.prog);have hC:∀W,Kept (w.alloc (.cells #[.string (bytes s)] 9)) W→Calls Tryz.prog 224 #[.pointer (some ⟨w.heap.size,0,none⟩)] W (jw jL 152 (JU s) W.heap.size W):=by
  intro W k;have c1:=k.cell (p:=⟨w.heap.size,0,none⟩) (by simp);exact jme ⟨w.heap.size,0,none⟩ s W (by rw[c1];go_simp) (hE.kept ((ja w _).trans k)) hs
 have HC:=lH hC;clear hC hE hs;go_enter Tryz.func177,Tryz.ntmps177;go_wp2_with fail
 refine(jhF ⟨w.heap.size,0,none⟩ (JU s) _ Xs HC.out).mono ?_;rintro e w' ⟨v,rfl,ho,k⟩;have HO:=lH ho;have HK:=lH k;clear ho k;go_wp2;go_ret2
 exact⟨v,rfl,HO.out.base_le (by simp),(ja w _).trans HK.out⟩
def zR (x:ByteArray×ByteArray):ByteArray:=x.1++⟨#[58]⟩++x.2
def zK (t:Int×ByteArray×ByteArray):ByteArray :=
 if t.1=1 then t.2.1++⟨#[58]⟩++t.2.2 else if t.1=2 then t.2.1++⟨#[33]⟩++t.2.2 else if t.1=4 then ⟨#[45]⟩++t.2.1 else t.2.1
theorem jfO (x y:ByteArray) (w:World) (hx:x.size≤1000000) (hy:y.size≤1000000) :
 Calls Tryz.prog 71 #[.agg #[.string x,.string y]] w fun e w'=>e=.returned (.string (zR (x,y)))∧Kept w w':=by
 go_enter Tryz.func71,Tryz.ntmps71;go_wp2;go_ret;exact⟨rfl,ja _ _⟩
theorem jgm (o:Int) (x y:ByteArray) (w:World) (hx:x.size≤1000000) (hy:y.size≤1000000) :
 Calls Tryz.prog 76 #[TV o x y] w fun e w'=>e=.returned (.string (zK (o,x,y)))∧Kept w w':=by
 by_cases h1:o=1
 · subst h1;go_enter Tryz.func76,Tryz.ntmps76;go_wp2;go_ret;exact⟨rfl,ja _ _⟩
 · by_cases h2:o=2
   · subst h2;go_enter Tryz.func76,Tryz.ntmps76;go_wp2;go_ret;exact⟨rfl,ja _ _⟩
   · by_cases h4:o=4
     · subst h4;go_enter Tryz.func76,Tryz.ntmps76;go_wp2;go_ret;exact⟨rfl,ja _ _⟩
     · have HV:=lH (show zK (o,x,y)=x by unfold zK;rw[if_neg h1,if_neg h2,if_neg h4]);have e1:(o==1)=false:=by simpa using h1
       have e2:(o==2)=false:=by simpa using h2
       have e4:(o==4)=false:=by simpa using h4
       clear h1 h2 h4;go_enter Tryz.func76,Tryz.ntmps76;go_wp2;go_ret;exact⟨Jt HV.out.symm,ja _ _⟩
theorem jdk {x:ByteArray×ByteArray} (h1:x.1.size≤1000000) (h2:x.2.size≤1000000):(zR x).size≤2000001:=by
 unfold zR;rw[ByteArray.size_append,ByteArray.size_append];have:(⟨#[58]⟩:ByteArray).size=1:=rfl;omega
theorem jjo {t:Int×ByteArray×ByteArray} (h1:t.2.1.size≤1000000) (h2:t.2.2.size≤1000000):(zK t).size≤2000001:=by
 unfold zK;have e1:(⟨#[58]⟩:ByteArray).size=1:=rfl;have e2:(⟨#[33]⟩:ByteArray).size=1:=rfl;have e3:(⟨#[45]⟩:ByteArray).size=1:=rfl;split
 · rw[ByteArray.size_append,ByteArray.size_append];omega
 · split
   · rw[ByteArray.size_append,ByteArray.size_append];omega
   · split
     · rw[ByteArray.size_append];omega
     · omega
def zr (l:PL):ByteArray:=if l=[] then ⟨#[45]⟩ else zZ (l.map zR)
theorem jkD (a:Option Addr) (len cap:Nat) (l:PL) (w:World) (hr:jr js w a len l) (hf:∀x ∈ l,x.1.size≤1000000∧x.2.size≤1000000) (hn:len≤1000000) :
 Calls Tryz.prog 70 #[.slice a len cap,.func (.func 71) #[] #[]] w fun e w'=>e=.returned (.string (zr l))∧Kept w w':=by
 have hl:=hr.1;rcases hr.form with h0 | ⟨b,off,rfl⟩
 · subst h0;have HE:=lH (show zr l=⟨#[45]⟩ by unfold zr;rw[if_pos (List.eq_nil_of_length_eq_zero hl)]);clear hr hl hf;go_enter Tryz.func70,Tryz.ntmps70;go_wp2;go_ret;exact⟨Jt HE.out.symm,Kept.refl _⟩
 · by_cases h0:len=0
   · subst h0;have HE:=lH (show zr l=⟨#[45]⟩ by unfold zr;rw[if_pos (List.eq_nil_of_length_eq_zero hl)]);clear hr hl hf;go_enter Tryz.func70,Tryz.ntmps70;go_wp2;go_ret;exact⟨Jt HE.out.symm,Kept.refl _⟩
   · have h0':((len:Int)==0)=false:=by
      have:(len:Int)≠0:=by omega
      simpa using this
     have HE:=lH (show zr l=zZ (l.map zR) by unfold zr;rw[if_neg (by intro e;rw[e] at hl;simp at hl;omega)]);have HR:=lH hr;have HL:=lH hl;have HF:=lH hf;have HN:=lH h0;obtain⟨i0,hi,hz0,hz1,hz2⟩:=info_parts jas;have hib:i0.bytes*len≤281474976710656:=by rw[hz2];omega
     have hlm:len≤maxLen:=by unfold maxLen;omega
     clear hr hl hf h0;go_enter Tryz.func70,Tryz.ntmps70;go_wp2_with (refine wpList_make_full _ rfl (.tmp 12) (.tmp 12) _ rfl w.heap.size 9 i0 _ 1 Tryz.underlying29 hi hz0 hz1 .i64 .i64 len len len rfl rfl rfl rfl hib hlm (Nat.le_refl _) ?_;intro w1 own1 grow1;rw[Xn,←qh (l.map zR)] at own1;have O1:=lH own1;have K1:=lH (show Kept w w1 from(Below.refl _ w).grown grow1 (Nat.le_refl _) (fun k hk=>by cases hk));have hp1:=(own1.lt w.heap.size rfl).2;clear own1 grow1)
     go_loopw [16] (fun i wr=>∃k:Nat,k≤len∧i=.int .i64 k∧wr.ownsRow w.heap.size 9 1 (.slice (some ⟨w.heap.size,0,none⟩) len len) len (YN (l.map zR) len k)∧Kept w wr) (fun i _=>len-(intOf i).toNat)
     case atStart=>exact⟨0,Nat.zero_le _,rfl,O1.out,K1.out⟩
     case round =>
      obtain⟨k,hk,rfl,hown,hK⟩:=hrel;by_cases hlt:k<len
      · obtain⟨x,y,hx,hd,hb,hz,hz2,c1,c2⟩:=(HR.out.kept hK).pair hlt;clear hz hz2;have hz:=show x.size≤1000000 from(HF.out _ (List.mem_of_getElem? hx)).1;have hz2:=show y.size≤1000000 from(HF.out _ (List.mem_of_getElem? hx)).2;have HX:=lH (show (l.map zR)[k]?=some (zR (x,y)) by rw[List.getElem?_map,hx];rfl);have HK:=lH hK;have HO:=lH hown;clear hK hx hd hown;go_wp2_with (go_at_call 71;refine(jfO x y _ hz hz2).mono ?_;rintro e w2 ⟨rfl,k2⟩;have K2:=lH k2;have O2:=lH (XA HO.out ((ja wr _).trans k2));clear k2;have z2:=O2.out.frozenAt k;have q2:=jbP O2.out (jaL (by rw[List.length_map];exact HL.out) hlt))
        go_roundw
        case rel =>
         refine⟨k+1,by omega,by go_num,?_,?_⟩
         · have:=(O2.out.stored k (.string (zR (x,y)))).1;rw[qT (by rw[List.length_map];exact HL.out) HX.out] at this;exact this
         · exact Below.setCell (HK.out.trans ((ja _ _).trans K2.out)) (p:=⟨w.heap.size,k,none⟩) (Nat.le_refl _) _
        case measure=>simp[intOf];omega
      · have HK:=lH hK;obtain rfl:k=len:=by omega
        have hfull:=hown;rw[jaa (by rw[List.length_map];exact HL.out)] at hfull;have HC:=lH hfull;have HK2:=lH ((hown.lt w.heap.size rfl).2);clear hK hown hfull;have hml:(l.map zR).length=k:=by rw[List.length_map];exact HL.out
        have hjl:=Y6 (l.map zR) 2000001 (by
         intro z hz;obtain⟨x,hx,rfl⟩:=List.mem_map.1 hz;exact jdk (HF.out x hx).1 (HF.out x hx).2)
        rw[hml] at hjl;have hpl:w.heap.size<wr.heap.size:=HK2.out;have J:=Tryz.strings_Join w.heap.size 0 k (l.map zR) ⟨#[44]⟩ wr (qW HC.out) hpl (by rw[hml];omega) (by rw[hml];exact Nat.le_refl _) (Nat.le_trans hjl (by omega));rw[hml] at J;have HJ:=lH J;clear J hjl hml hpl;go_wp2_with (go_at_call 68;refine HJ.out.mono ?_;rintro e w2 ⟨rfl,k2⟩;have K2:=lH (show Kept wr w2 from k2);clear k2)
        go_ret;exact⟨Jt (HE.out.trans (by unfold zZ;rw[List.map_map])).symm,HK.out.trans K2.out⟩
theorem jdd (a:Option Addr) (len cap:Nat) (l:PL) (w:World) (hr:jr js w a len l) (hf:∀x ∈ l,x.1.size≤1000000∧x.2.size≤1000000) (hn:len≤1000000) :
 Calls Tryz.prog 39 #[.slice a len cap] w fun e w'=>e=.returned (.string (zr l))∧Kept w w':=by
 have HJ:=lH (jkD a len cap l w hr hf hn);clear hr hf hn;go_enter Tryz.func39,Tryz.ntmps39;go_wp2_with (go_at_call 70;refine HJ.out.mono ?_;rintro e w2 ⟨rfl,k2⟩)
 go_ret;exact⟨rfl,k2⟩
def zD (l:TL):ByteArray:=if l=[] then ⟨#[45]⟩ else zZ (l.map zK)
theorem jjP (a:Option Addr) (len cap:Nat) (l:TL) (w:World) (hr:jr jL w a len l) (hf:∀x ∈ l,x.2.1.size≤1000000∧x.2.2.size≤1000000) (hn:len≤1000000) :
 Calls Tryz.prog 75 #[.slice a len cap,.func (.func 76) #[] #[]] w fun e w'=>e=.returned (.string (zD l))∧Kept w w':=by
 have hl:=hr.1;rcases hr.form with h0 | ⟨b,off,rfl⟩
 · subst h0;have HE:=lH (show zD l=⟨#[45]⟩ by unfold zD;rw[if_pos (List.eq_nil_of_length_eq_zero hl)]);clear hr hl hf;go_enter Tryz.func75,Tryz.ntmps75;go_wp2;go_ret;exact⟨Jt HE.out.symm,Kept.refl _⟩
 · by_cases h0:len=0
   · subst h0;have HE:=lH (show zD l=⟨#[45]⟩ by unfold zD;rw[if_pos (List.eq_nil_of_length_eq_zero hl)]);clear hr hl hf;go_enter Tryz.func75,Tryz.ntmps75;go_wp2;go_ret;exact⟨Jt HE.out.symm,Kept.refl _⟩
   · have h0':((len:Int)==0)=false:=by
      have:(len:Int)≠0:=by omega
      simpa using this
     have HE:=lH (show zD l=zZ (l.map zK) by unfold zD;rw[if_neg (by intro e;rw[e] at hl;simp at hl;omega)]);have HR:=lH hr;have HL:=lH hl;have HF:=lH hf;have HN:=lH h0;obtain⟨i0,hi,hz0,hz1,hz2⟩:=info_parts jas;have hib:i0.bytes*len≤281474976710656:=by rw[hz2];omega
     have hlm:len≤maxLen:=by unfold maxLen;omega
     clear hr hl hf h0;go_enter Tryz.func75,Tryz.ntmps75;go_wp2_with (refine wpList_make_full _ rfl (.tmp 12) (.tmp 12) _ rfl w.heap.size 9 i0 _ 1 Tryz.underlying29 hi hz0 hz1 .i64 .i64 len len len rfl rfl rfl rfl hib hlm (Nat.le_refl _) ?_;intro w1 own1 grow1;rw[Xn,←qh (l.map zK)] at own1;have O1:=lH own1;have K1:=lH (show Kept w w1 from(Below.refl _ w).grown grow1 (Nat.le_refl _) (fun k hk=>by cases hk));have hp1:=(own1.lt w.heap.size rfl).2;clear own1 grow1)
     go_loopw [16] (fun i wr=>∃k:Nat,k≤len∧i=.int .i64 k∧wr.ownsRow w.heap.size 9 1 (.slice (some ⟨w.heap.size,0,none⟩) len len) len (YN (l.map zK) len k)∧Kept w wr) (fun i _=>len-(intOf i).toNat)
     case atStart=>exact⟨0,Nat.zero_le _,rfl,O1.out,K1.out⟩
     case round =>
      obtain⟨k,hk,rfl,hown,hK⟩:=hrel;by_cases hlt:k<len
      · obtain⟨o,x,y,hx,hd,hb,ho,hz,hz2,c1,c2,c3⟩:=(HR.out.kept hK).term hlt;clear hz hz2;have hz:=show x.size≤1000000 from(HF.out _ (List.mem_of_getElem? hx)).1;have hz2:=show y.size≤1000000 from(HF.out _ (List.mem_of_getElem? hx)).2;have HX:=lH (show (l.map zK)[k]?=some (zK (o,x,y)) by rw[List.getElem?_map,hx];rfl);have HK:=lH hK;have HO:=lH hown;clear hK hx hd hown;go_wp2_with (go_at_call 76;refine(jgm o x y _ hz hz2).mono ?_;rintro e w2 ⟨rfl,k2⟩;have K2:=lH k2;have O2:=lH (XA HO.out ((ja wr _).trans k2));clear k2;have z2:=O2.out.frozenAt k;have q2:=jbP O2.out (jaL (by rw[List.length_map];exact HL.out) hlt))
        go_roundw
        case rel =>
         refine⟨k+1,by omega,by go_num,?_,?_⟩
         · have:=(O2.out.stored k (.string (zK (o,x,y)))).1;rw[qT (by rw[List.length_map];exact HL.out) HX.out] at this;exact this
         · exact Below.setCell (HK.out.trans ((ja _ _).trans K2.out)) (p:=⟨w.heap.size,k,none⟩) (Nat.le_refl _) _
        case measure=>simp[intOf];omega
      · have HK:=lH hK;obtain rfl:k=len:=by omega
        have hfull:=hown;rw[jaa (by rw[List.length_map];exact HL.out)] at hfull;have HC:=lH hfull;have HK2:=lH ((hown.lt w.heap.size rfl).2);clear hK hown hfull;have hml:(l.map zK).length=k:=by rw[List.length_map];exact HL.out
        have hjl:=Y6 (l.map zK) 2000001 (by
         intro z hz;obtain⟨x,hx,rfl⟩:=List.mem_map.1 hz;exact jjo (HF.out x hx).1 (HF.out x hx).2)
        rw[hml] at hjl;have hpl:w.heap.size<wr.heap.size:=HK2.out;have J:=Tryz.strings_Join w.heap.size 0 k (l.map zK) ⟨#[44]⟩ wr (qW HC.out) hpl (by rw[hml];omega) (by rw[hml];exact Nat.le_refl _) (Nat.le_trans hjl (by omega));rw[hml] at J;have HJ:=lH J;clear J hjl hml hpl;go_wp2_with (go_at_call 68;refine HJ.out.mono ?_;rintro e w2 ⟨rfl,k2⟩;have K2:=lH (show Kept wr w2 from k2);clear k2)
        go_ret;exact⟨Jt (HE.out.trans (by unfold zZ;rw[List.map_map])).symm,HK.out.trans K2.out⟩
theorem jho (a:Option Addr) (len cap:Nat) (l:TL) (w:World) (hr:jr jL w a len l) (hf:∀x ∈ l,x.2.1.size≤1000000∧x.2.2.size≤1000000) (hn:len≤1000000) :
 Calls Tryz.prog 44 #[.slice a len cap] w fun e w'=>e=.returned (.string (zD l))∧Kept w w':=by
 have HJ:=lH (jjP a len cap l w hr hf hn);clear hr hf hn;go_enter Tryz.func44,Tryz.ntmps44;go_wp2_with (go_at_call 75;refine HJ.out.mono ?_;rintro e w2 ⟨rfl,k2⟩)
 go_ret;exact⟨rfl,k2⟩
theorem jbJ {v:Value} {l:PL} {c:Int} {w:World} (h:Reads js w v l) (hc:zE l=c) :
 Calls Tryz.prog 213 #[v] w (Say (.int .i64 c) w):=by
 obtain⟨a,cap,rfl,_,_,hr⟩:=h;exact(qV a _ cap l w hr).mono fun e w' ⟨he,k⟩=>⟨by rw[he,hc],k⟩
theorem jeZ {v:Value} {l:TL} {c:Int} {w:World} (h:Reads jL w v l) (hc:zb l=c) :
 Calls Tryz.prog 227 #[v] w (Say (.int .i64 c) w):=by
 obtain⟨a,cap,rfl,_,_,hr⟩:=h;exact(jbn a _ cap l w hr).mono fun e w' ⟨he,k⟩=>⟨by rw[he,hc],k⟩
theorem jdQ {v:Value} {l:PL} {t:ByteArray} {w:World} (h:Reads js w v l) (hf:∀x ∈ l,x.1.size≤1000000∧x.2.size≤1000000) (hn:l.length≤1000000) (ht:zr l=t) :
 Calls Tryz.prog 39 #[v] w (Say (.string t) w):=by
 obtain⟨a,cap,rfl,_,_,hr⟩:=h;exact(jdd a _ cap l w hr hf hn).mono fun e w' ⟨he,k⟩=>⟨by rw[he,ht],k⟩
theorem jgU {v:Value} {l:TL} {t:ByteArray} {w:World} (h:Reads jL w v l) (hf:∀x ∈ l,x.2.1.size≤1000000∧x.2.2.size≤1000000) (hn:l.length≤1000000) (ht:zD l=t) :
 Calls Tryz.prog 44 #[v] w (Say (.string t) w):=by
 obtain⟨a,cap,rfl,_,_,hr⟩:=h;exact(jho a _ cap l w hr hf hn).mono fun e w' ⟨he,k⟩=>⟨by rw[he,ht],k⟩
def XD (x:ByteArray×ByteArray):Bool:=decide (x.1.size≤50)&&decide (x.2.size≤50)
def XP (x:Int×ByteArray×ByteArray):Bool:=decide (x.2.1.size≤50)&&decide (x.2.2.size≤50)
def Yt (l:PL):Bool:=decide (l.length≤20)&&l.all XD
def Ys (l:TL):Bool:=decide (l.length≤20)&&l.all XP
theorem jeg (a:Option Addr) (len cap:Nat) (l:PL) (w:World) (hr:jr js w a len l) :
 Calls Tryz.prog 56 #[.slice a len cap] w fun e w'=>e=.returned (.bool (Yt l))∧w=w':=by
 have hl:=hr.1;have hm:=hr.2.1;unfold maxLen at hm;by_cases h20:len≤20
 · have HV:=lH (show Yt l=l.all XD by unfold Yt;rw[decide_eq_true (by omega)];rfl);rcases hr.form with h0 | ⟨b,off,rfl⟩
   · subst h0;have HE:=lH (show Yt l=true by rw[HV.out,List.eq_nil_of_length_eq_zero hl];rfl);clear hr hl;go_enter Tryz.func56,Tryz.ntmps56;go_wp2;refine wp_loop_rounds 1 ?_;rw[rounds_succ];go_wp2;go_ret;exact⟨jh HE.out.symm,rfl⟩
   · have HR:=lH hr;have HL:=lH hl;clear hr hl;go_enter Tryz.func56,Tryz.ntmps56;go_wp2;go_loop [3] (fun i=>∃k:Nat,k≤len∧i=.int .i64 k∧(l.drop k).all XD=l.all XD) (fun i=>len-(intOf i).toNat)
     case atStart=>exact⟨0,Nat.zero_le _,rfl,rfl⟩
     case round =>
      obtain⟨k,hk,rfl,hrest⟩:=hrel;by_cases hlt:k<len
      · obtain⟨x,y,hx,hd,hb,hz,hz2,c1,c2⟩:=HR.out.pair hlt;have HT:=lH (hrest.symm.trans ((congrArg (fun z=>z.all XD) hd).trans (all_cons _ _ _)));clear hrest hx hd;unfold maxLen at hz hz2;by_cases e:x.size≤50
        · by_cases e2:y.size≤50
          · have E:=lH (show XD (x,y)=true by unfold XD;rw[decide_eq_true e,decide_eq_true e2];rfl);go_wp2;go_round
            case rel=>exact⟨k+1,by omega,by go_num,(HT.out.trans (by rw[E.out];exact Bool.true_and _)).symm⟩
            case measure=>simp[intOf];omega
          · have E:=lH (show XD (x,y)=false by unfold XD;rw[decide_eq_false e2];exact Bool.and_false _);have e2':50<y.size:=by omega
            clear e2;go_wp2;go_ret;exact⟨jh (HV.out.trans (HT.out.trans (by rw[E.out];exact Bool.false_and _))).symm,rfl⟩
        · have E:=lH (show XD (x,y)=false by unfold XD;rw[decide_eq_false e];exact Bool.false_and _);have e':50<x.size:=by omega
          clear e;go_wp2;go_ret;exact⟨jh (HV.out.trans (HT.out.trans (by rw[E.out];exact Bool.false_and _))).symm,rfl⟩
      · have HS:=lH ((HV.out.trans hrest.symm).trans (congrArg (fun z=>z.all XD) (JS (by rw[HL.out];exact hlt))));clear hrest;go_wp2;go_ret;exact⟨jh (HS.out.trans rfl).symm,rfl⟩
 · have HV:=lH (show Yt l=false by unfold Yt;rw[decide_eq_false (by omega)];rfl);have h9:20<len:=by omega
   clear h20 hr hl;go_enter Tryz.func56,Tryz.ntmps56;go_wp2;go_ret;exact⟨jh HV.out.symm,rfl⟩
theorem jji (a:Option Addr) (len cap:Nat) (l:TL) (w:World) (hr:jr jL w a len l) :
 Calls Tryz.prog 54 #[.slice a len cap] w fun e w'=>e=.returned (.bool (Ys l))∧w=w':=by
 have hl:=hr.1;have hm:=hr.2.1;unfold maxLen at hm;by_cases h20:len≤20
 · have HV:=lH (show Ys l=l.all XP by unfold Ys;rw[decide_eq_true (by omega)];rfl);rcases hr.form with h0 | ⟨b,off,rfl⟩
   · subst h0;have HE:=lH (show Ys l=true by rw[HV.out,List.eq_nil_of_length_eq_zero hl];rfl);clear hr hl;go_enter Tryz.func54,Tryz.ntmps54;go_wp2;refine wp_loop_rounds 1 ?_;rw[rounds_succ];go_wp2;go_ret;exact⟨jh HE.out.symm,rfl⟩
   · have HR:=lH hr;have HL:=lH hl;clear hr hl;go_enter Tryz.func54,Tryz.ntmps54;go_wp2;go_loop [3] (fun i=>∃k:Nat,k≤len∧i=.int .i64 k∧(l.drop k).all XP=l.all XP) (fun i=>len-(intOf i).toNat)
     case atStart=>exact⟨0,Nat.zero_le _,rfl,rfl⟩
     case round =>
      obtain⟨k,hk,rfl,hrest⟩:=hrel;by_cases hlt:k<len
      · obtain⟨o,x,y,hx,hd,hb,ho,hz,hz2,c0,c1,c2⟩:=HR.out.term hlt;have HT:=lH (hrest.symm.trans ((congrArg (fun z=>z.all XP) hd).trans (all_cons _ _ _)));clear hrest hx hd;unfold maxLen at hz hz2;by_cases e:x.size≤50
        · by_cases e2:y.size≤50
          · have E:=lH (show XP (o,x,y)=true by unfold XP;rw[decide_eq_true e,decide_eq_true e2];rfl);go_wp2;go_round
            case rel=>exact⟨k+1,by omega,by go_num,(HT.out.trans (by rw[E.out];exact Bool.true_and _)).symm⟩
            case measure=>simp[intOf];omega
          · have E:=lH (show XP (o,x,y)=false by unfold XP;rw[decide_eq_false e2];exact Bool.and_false _);have e2':50<y.size:=by omega
            clear e2;go_wp2;go_ret;exact⟨jh (HV.out.trans (HT.out.trans (by rw[E.out];exact Bool.false_and _))).symm,rfl⟩
        · have E:=lH (show XP (o,x,y)=false by unfold XP;rw[decide_eq_false e];exact Bool.false_and _);have e':50<x.size:=by omega
          clear e;go_wp2;go_ret;exact⟨jh (HV.out.trans (HT.out.trans (by rw[E.out];exact Bool.false_and _))).symm,rfl⟩
      · have HS:=lH ((HV.out.trans hrest.symm).trans (congrArg (fun z=>z.all XP) (JS (by rw[HL.out];exact hlt))));clear hrest;go_wp2;go_ret;exact⟨jh (HS.out.trans rfl).symm,rfl⟩
 · have HV:=lH (show Ys l=false by unfold Ys;rw[decide_eq_false (by omega)];rfl);have h9:20<len:=by omega
   clear h20 hr hl;go_enter Tryz.func54,Tryz.ntmps54;go_wp2;go_ret;exact⟨jh HV.out.symm,rfl⟩
theorem jdO (a:Option Addr) (len cap:Nat) (l:PL) (w:World) (hr:jr js w a len l) :
 Calls Tryz.prog 100 #[.slice a len cap] w fun e w'=>e=.returned (.int .i64 (zE l))∧Kept w w':=by
 have hl:=hr.1;have hm:=hr.2.1;unfold maxLen at hm;by_cases h8:len≤8
 · have HV:=lH (show zE l=zI none l by unfold zE;rw[if_neg (by omega)]);rcases hr.form with h0 | ⟨b,off,rfl⟩
   · subst h0;have HE:=lH (show zE l=0 by rw[HV.out];rw[List.eq_nil_of_length_eq_zero hl];rfl);clear hr hl;go_enter Tryz.func100,Tryz.ntmps100;go_wp2;refine wp_loop_rounds 1 ?_;rw[rounds_succ];go_wp2;go_ret;exact⟨jb HE.out.symm,Kept.refl _⟩
   · have HR:=lH hr;have HL:=lH hl;clear hr hl;go_enter Tryz.func100,Tryz.ntmps100;go_wp2;go_loopw [3] (fun i wr=>∃k:Nat,k≤len∧i=.int .i64 k∧zI (Y0 l k) (l.drop k)=zI none l∧Kept w wr) (fun i _=>len-(intOf i).toNat)
     case atStart=>exact⟨0,Nat.zero_le _,rfl,rfl,Kept.refl _⟩
     case round =>
      obtain⟨k,hk,rfl,hrest,hK⟩:=hrel;by_cases hlt:k<len
      · obtain⟨x,y,hx,hd,hb,hz,hz2,c1,c2⟩:=(HR.out.kept hK).pair hlt;have HX:=lH hx;have HK:=lH hK;have HT:=lH (hrest.symm.trans (congrArg (zI (Y0 l k)) hd));have HS:=lH (HV.out.trans HT.out);clear hK hrest hx hd;by_cases n1:isName x=true
        · by_cases n2:isName y=true
          · have N1:=lH n1;have N2:=lH n2;by_cases h0:k=0
            · have hd:decide (0<k)=false:=by subst h0;decide
              have HP:=lH (YT (l:=l) h0 x);clear h0;go_wp2_with (go_at_call 98;refine(jo _ _ (by assumption)).mono ?_;rintro e w' ⟨rfl,rfl⟩)
              go_quiet (fail)
              go_wp2;go_roundw
              case rel=>exact⟨k+1,by omega,by go_num,by rw[Xi HX.out];exact(Yh N1.out N2.out HP.out).symm.trans HT.out.symm,HK.out.trans (Kept.drewN _ _)⟩
              case measure=>simp[intOf];omega
            · have hd:decide (0<k)=true:=by simp;omega
              have g1:0≤(k:Int)-1:=by omega
              have g2:(k:Int)-1<(len:Int):=by omega
              have g3:((k:Int)-1).toNat=k-1:=by omega
              obtain⟨px,py,hpx,_,_,_,_,d1,d2⟩:=(HR.out.kept HK.out).pair (show k-1<len by omega);have HP:=lH (YU (l:=l) h0 hpx x);clear hpx;by_cases n3:leS x px=true
              · have n3':(Op.bytesLess x.toList px.toList||x.toList==px.toList)=true:=n3;have N3:=lH n3;clear n3;go_wp2_with (go_at_call 98;refine(jo _ _ (by assumption)).mono ?_;rintro e w' ⟨rfl,rfl⟩)
                go_quiet (fail)
                go_wp2;go_ret;exact⟨jb (HS.out.trans (XZ N1.out N2.out (HP.out.trans N3.out))).symm,HK.out.trans (Kept.drewN _ _)⟩
              · have n3:leS x px=false:=by simpa using n3
                have n3':(Op.bytesLess x.toList px.toList||x.toList==px.toList)=false:=n3;have N3:=lH n3;clear n3;go_wp2_with (go_at_call 98;refine(jo _ _ (by assumption)).mono ?_;rintro e w' ⟨rfl,rfl⟩)
                go_quiet (fail)
                go_wp2;go_roundw
                case rel=>exact⟨k+1,by omega,by go_num,by rw[Xi HX.out];exact(Yh N1.out N2.out (HP.out.trans N3.out)).symm.trans HT.out.symm,HK.out.trans (Kept.drewN _ _)⟩
                case measure=>simp[intOf];omega
          · have n2:isName y=false:=by simpa using n2
            have N:=lH (show (isName x&&isName y)=false by rw[n2,Bool.and_false]);go_wp2_with (go_at_call 98;refine(jo _ _ (by assumption)).mono ?_;rintro e w' ⟨rfl,rfl⟩)
            go_ret;exact⟨jb (HS.out.trans (Y2 N.out)).symm,HK.out⟩
        · have n1:isName x=false:=by simpa using n1
          have N:=lH (show (isName x&&isName y)=false by rw[n1,Bool.false_and]);go_wp2_with (go_at_call 98;refine(jo x _ hz).mono ?_;rintro e w' ⟨rfl,rfl⟩)
          go_ret;exact⟨jb (HS.out.trans (Y2 N.out)).symm,HK.out⟩
      · have HK:=lH hK;have HS:=lH ((HV.out.trans hrest.symm).trans (congrArg (zI (Y0 l k)) (JS (by rw[HL.out];exact hlt))));clear hK hrest;go_wp2;go_ret;exact⟨jb (HS.out.trans rfl).symm,HK.out⟩
 · have HV:=lH (show zE l=4 by unfold zE;rw[if_pos (by omega)]);have h9:8<len:=by omega
   clear h8 hr hl;go_enter Tryz.func100,Tryz.ntmps100;go_wp2;go_ret;exact⟨jb HV.out.symm,Kept.refl _⟩
theorem jdr (a:Option Addr) (len cap:Nat) (l:TL) (w:World) (hr:jr jL w a len l) :
 Calls Tryz.prog 102 #[.slice a len cap] w fun e w'=>e=.returned (.int .i64 (zb l))∧Kept w w':=by
 have hl:=hr.1;have hm:=hr.2.1;unfold maxLen at hm;by_cases h8:len≤8
 · have HV:=lH (show zb l=JG l by unfold zb;rw[if_neg (by omega)]);rcases hr.form with h0 | ⟨b,off,rfl⟩
   · subst h0;have HE:=lH (show zb l=0 by rw[HV.out];rw[List.eq_nil_of_length_eq_zero hl];rfl);clear hr hl;go_enter Tryz.func102,Tryz.ntmps102;go_wp2;refine wp_loop_rounds 1 ?_;rw[rounds_succ];go_wp2;go_ret;exact⟨jb HE.out.symm,Kept.refl _⟩
   · have HR:=lH hr;have HL:=lH hl;clear hr hl;go_enter Tryz.func102,Tryz.ntmps102;go_wp2;go_loopw [3] (fun i wr=>∃k:Nat,k≤len∧i=.int .i64 k∧JG (l.drop k)=JG l∧Kept w wr) (fun i _=>len-(intOf i).toNat)
     case atStart=>exact⟨0,Nat.zero_le _,rfl,rfl,Kept.refl _⟩
     case round =>
      obtain⟨k,hk,rfl,hrest,hK⟩:=hrel;by_cases hlt:k<len
      · obtain⟨o,x,y,hx,hd,hb,ho,hz,hz2,c1,c2,c3⟩:=(HR.out.kept hK).term hlt;have HK:=lH hK;have HT:=lH (hrest.symm.trans ((congrArg JG hd).trans (jaE _ _)));have HS:=lH (HV.out.trans HT.out);clear hK hrest hx hd;by_cases g1:o<1
        · have N:=lH (show Ja (o,x,y)=1 by rw[Za,if_neg (by omega),if_neg (by omega)]);go_wp2_with (go_at_call 98;refine(jo _ _ (by assumption)).mono ?_;rintro e w' ⟨rfl,rfl⟩)
          go_ret;exact⟨jb (HS.out.trans ((if_pos (by rw[N.out];decide)).trans N.out)).symm,HK.out.trans (ja _ _)⟩
        · by_cases g4:4<o
          · have g1':¬o<1:=g1;have N:=lH (show Ja (o,x,y)=1 by rw[Za,if_neg (by omega),if_neg (by omega)]);go_wp2_with (go_at_call 98;refine(jo _ _ (by assumption)).mono ?_;rintro e w' ⟨rfl,rfl⟩)
            go_ret;exact⟨jb (HS.out.trans ((if_pos (by rw[N.out];decide)).trans N.out)).symm,HK.out.trans (ja _ _)⟩
          · have hcase:(o=1∨o=2)∨(o=3∨o=4):=by omega
            clear g1 g4;rcases hcase with hcase | hcase
            · have hc:=hcase;by_cases n1:isName x=true
              · by_cases n2:isName y=true
                · have NN:=lH (show Ja (o,x,y)=0 by rw[Za,if_pos hc,if_pos (by rw[n1,n2];rfl)]);clear hc;rcases hcase with rfl | rfl
                  · have N:=lH (NN.out);go_wp2_with (go_at_call 98;refine(jo _ _ (by assumption)).mono ?_;rintro e w' ⟨rfl,rfl⟩)
                    go_roundw
                    case rel=>exact⟨k+1,by omega,by go_num,(HT.out.trans (if_neg (by rw[N.out];decide))).symm,HK.out.trans (ja _ _)⟩
                    case measure=>simp[intOf];omega
                  · have N:=lH (NN.out);go_wp2_with (go_at_call 98;refine(jo _ _ (by assumption)).mono ?_;rintro e w' ⟨rfl,rfl⟩)
                    go_roundw
                    case rel=>exact⟨k+1,by omega,by go_num,(HT.out.trans (if_neg (by rw[N.out];decide))).symm,HK.out.trans (ja _ _)⟩
                    case measure=>simp[intOf];omega
                · have n2:isName y=false:=by simpa using n2
                  have NN:=lH (show Ja (o,x,y)=3 by rw[Za,if_pos hc,if_neg (by rw[n2,Bool.and_false];decide)]);clear hc;rcases hcase with rfl | rfl
                  · have N:=lH (NN.out);go_wp2_with (go_at_call 98;refine(jo _ _ (by assumption)).mono ?_;rintro e w' ⟨rfl,rfl⟩)
                    go_ret;exact⟨jb (HS.out.trans ((if_pos (by rw[N.out];decide)).trans N.out)).symm,HK.out.trans (ja _ _)⟩
                  · have N:=lH (NN.out);go_wp2_with (go_at_call 98;refine(jo _ _ (by assumption)).mono ?_;rintro e w' ⟨rfl,rfl⟩)
                    go_ret;exact⟨jb (HS.out.trans ((if_pos (by rw[N.out];decide)).trans N.out)).symm,HK.out.trans (ja _ _)⟩
              · have n1:isName x=false:=by simpa using n1
                have NN:=lH (show Ja (o,x,y)=3 by rw[Za,if_pos hc,if_neg (by rw[n1,Bool.false_and];decide)]);clear hc;rcases hcase with rfl | rfl
                · have N:=lH (NN.out);go_wp2_with (go_at_call 98;refine(jo _ _ (by assumption)).mono ?_;rintro e w' ⟨rfl,rfl⟩)
                  go_ret;exact⟨jb (HS.out.trans ((if_pos (by rw[N.out];decide)).trans N.out)).symm,HK.out.trans (ja _ _)⟩
                · have N:=lH (NN.out);go_wp2_with (go_at_call 98;refine(jo _ _ (by assumption)).mono ?_;rintro e w' ⟨rfl,rfl⟩)
                  go_ret;exact⟨jb (HS.out.trans ((if_pos (by rw[N.out];decide)).trans N.out)).symm,HK.out.trans (ja _ _)⟩
            · have hc:=hcase;have hn:¬(o=1∨o=2):=by omega
              by_cases n1:isName x=true
              · by_cases n2:eqS y ByteArray.empty=true
                · have NN:=lH (show Ja (o,x,y)=0 by rw[Za,if_neg hn,if_pos hc,if_pos (by rw[n1,n2];rfl)]);have n2':(y.toList==([]:List UInt8))=true:=by unfold eqS at n2;simpa using n2
                  clear hc hn n2;rcases hcase with rfl | rfl
                  · have N:=lH (NN.out);go_wp2_with (go_at_call 98;refine(jo _ _ (by assumption)).mono ?_;rintro e w' ⟨rfl,rfl⟩)
                    go_roundw
                    case rel=>exact⟨k+1,by omega,by go_num,(HT.out.trans (if_neg (by rw[N.out];decide))).symm,HK.out.trans (ja _ _)⟩
                    case measure=>simp[intOf];omega
                  · have N:=lH (NN.out);go_wp2_with (go_at_call 98;refine(jo _ _ (by assumption)).mono ?_;rintro e w' ⟨rfl,rfl⟩)
                    go_roundw
                    case rel=>exact⟨k+1,by omega,by go_num,(HT.out.trans (if_neg (by rw[N.out];decide))).symm,HK.out.trans (ja _ _)⟩
                    case measure=>simp[intOf];omega
                · have n2:eqS y ByteArray.empty=false:=by simpa using n2
                  have NN:=lH (show Ja (o,x,y)=3 by rw[Za,if_neg hn,if_pos hc,if_neg (by rw[n2,Bool.and_false];decide)]);have n2':(y.toList==([]:List UInt8))=false:=by unfold eqS at n2;simpa using n2
                  clear hc hn n2;rcases hcase with rfl | rfl
                  · have N:=lH (NN.out);go_wp2_with (go_at_call 98;refine(jo _ _ (by assumption)).mono ?_;rintro e w' ⟨rfl,rfl⟩)
                    go_ret;exact⟨jb (HS.out.trans ((if_pos (by rw[N.out];decide)).trans N.out)).symm,HK.out.trans (ja _ _)⟩
                  · have N:=lH (NN.out);go_wp2_with (go_at_call 98;refine(jo _ _ (by assumption)).mono ?_;rintro e w' ⟨rfl,rfl⟩)
                    go_ret;exact⟨jb (HS.out.trans ((if_pos (by rw[N.out];decide)).trans N.out)).symm,HK.out.trans (ja _ _)⟩
              · have n1:isName x=false:=by simpa using n1
                have NN:=lH (show Ja (o,x,y)=3 by rw[Za,if_neg hn,if_pos hc,if_neg (by rw[n1,Bool.false_and];decide)]);clear hc hn;rcases hcase with rfl | rfl
                · have N:=lH (NN.out);go_wp2_with (go_at_call 98;refine(jo _ _ (by assumption)).mono ?_;rintro e w' ⟨rfl,rfl⟩)
                  go_ret;exact⟨jb (HS.out.trans ((if_pos (by rw[N.out];decide)).trans N.out)).symm,HK.out.trans (ja _ _)⟩
                · have N:=lH (NN.out);go_wp2_with (go_at_call 98;refine(jo _ _ (by assumption)).mono ?_;rintro e w' ⟨rfl,rfl⟩)
                  go_ret;exact⟨jb (HS.out.trans ((if_pos (by rw[N.out];decide)).trans N.out)).symm,HK.out.trans (ja _ _)⟩
      · have HK:=lH hK;have HS:=lH ((HV.out.trans hrest.symm).trans (congrArg JG (JS (by rw[HL.out];exact hlt))));clear hK hrest;go_wp2;go_ret;exact⟨jb (HS.out.trans rfl).symm,HK.out⟩
 · have HV:=lH (show zb l=4 by unfold zb;rw[if_pos (by omega)]);have h9:8<len:=by omega
   clear h8 hr hl;go_enter Tryz.func102,Tryz.ntmps102;go_wp2;go_ret;exact⟨jb HV.out.symm,Kept.refl _⟩
theorem jlR:(Tryz.prog.info? 223).map (fun i=>(i.zero,i.size,i.bytes))=some (some (.agg #[.string ByteArray.empty,.string ByteArray.empty]),2,32):=by kernel_rfl
theorem jfY (a:Option Addr) (len cap:Nat) (l:PL) (w:World) (hr:jr js w a len l) (hlen:len≤1000000) :
 Calls Tryz.prog 109 #[.slice a len cap] w (fun e w'=>∃x,e=.returned x∧Own js 223 w' w.heap.size x l∧Kept w w'):=by
 have hl:=hr.1;obtain⟨i0,hi,hz0,hz1,hz2'⟩:=info_parts jlR;rcases hr.form with h0 | ⟨b,off,rfl⟩
 · subst h0;have hl0:l=[]:=List.eq_nil_of_length_eq_zero hl;subst hl0;clear hr hl hi hz0 hz1 hz2';go_enter Tryz.func109,Tryz.ntmps109;go_wp2;refine wp_loop_rounds 1 ?_;rw[rounds_succ];go_wp2;go_ret;exact⟨_,rfl,Own.nil _ _ _,Kept.refl _⟩
 · have HR:=lH hr;have HL:=lH hl;clear hr hl;go_enter Tryz.func109,Tryz.ntmps109;go_wp2;go_loopw [3,4] (fun v i wr=>∃k:Nat,k≤len∧i=.int .i64 k∧Own js 223 wr w.heap.size v (l.take k)∧Below w.heap.size w wr) (fun _ i _=>len-(intOf i).toNat)
   case atStart=>exact⟨0,Nat.zero_le _,rfl,Own.nil _ _ _,Below.refl _ _⟩
   case round =>
    obtain⟨k,hk,rfl,ho,hB⟩:=hrel;have HO:=lH ho;have HB:=lH hB;have HT:=lH (show (l.take k).length=k by rw[List.length_take,HL.out];omega);have HOWN:=lH (show wr.ownsRow w.heap.size 223 2 u3 k (jd js (l.take k)) by have:=HO.out.1;rw[HT.out] at this;exact this);by_cases hlt:k<len
    · obtain⟨x,y,hx,hd,hb,hz,hz2,c1,c2⟩:=(HR.out.kept hB).pair hlt;have HX:=lH hx;have hbw:b<w.heap.size:=by obtain⟨z,_,_,h,_⟩:=HR.out.cells hlt;exact h
      have hbase:w.heap.size≤wr.heap.size:=hB.size;have HNE:=lH (show u3.ownBlock≠some b by
       intro e;have:=(HOWN.out.lt b e).1;omega)
      have HBASE:=lH (show w.heap.size≤(wr.alloc (.cells #[.string x,.string y] 223)).drew.heap.size by simp;omega);have HBD:=lH (show Below w.heap.size w ((wr.alloc (.cells #[.string x,.string y] 223)).drew) from HB.out.trans (Below.mono ((ja wr _).trans (Kept.drewN _ 1)) hbase));have hk1:(k:Int)<(len:Int):=by omega
      have HFK:=lH (show js.fine (x,y) from⟨hz,hz2⟩);clear ho hB hx hd hz hz2;go_wp2_with fail
      go_region_held3 (fun W=>W.cell? ⟨b,off+k*2,none⟩=some (.string x)∧W.cell? ⟨b,off+k*2+1,none⟩=some (.string y))
       (first
         | go_keep
         | (go_split_ands
            refine⟨?_,?_⟩
            · (refine(hgrow.cell_far ⟨b,off+k*2,none⟩ (by simp;omega) (Ne.symm HNE.out)).trans ?_;assumption)
            · (refine(hgrow.cell_far ⟨b,off+k*2+1,none⟩ (by simp;omega) (Ne.symm HNE.out)).trans ?_;assumption)))
       ((refine step_append_lies _ (by rfl) _ _ _ (by rfl) w.heap.size 223 i0 _ 2 32 Tryz.underlying82 hi hz0 hz1 hz2' rfl (by decide) u3 k (jd js (l.take k)) (by rfl) ((HOWN.out.alloc _).drew)
          ⟨wr.heap.size,0,none⟩ 1 1 [.string x,.string y] (by rfl) (by rfl) (World.news_of_block (cs:=#[.string x,.string y]) (t:=223) (fr:=(0,0)) (heap_alloc_new wr _)) (jfX x y)
          (by decide) (by unfold maxLen;omega) (by omega) (by simp;omega) (wr.heap.size+1) (by simp) ?_;intro gg cap1 w1 hown1 hgrow hat hlt1))
      all_goals
       go_wp2;go_roundw
       case rel=>exact⟨k+1,by omega,by go_num,by rw[zW HX.out];exact Own.snoc hown1 (by rw[HT.out]) HO.out.2 HFK.out,HBD.out.grown hgrow HBASE.out (fun j hj=>(HOWN.out.lt j hj).1)⟩
       case measure=>simp[intOf];omega
    · have HK:=lH (show l.take k=l by rw[List.take_of_length_le (by rw[HL.out];omega)]);clear ho hB;go_wp2;go_ret;exact⟨_,rfl,by have h:=HO.out;rw[HK.out] at h;exact h,HB.out⟩
theorem jmy:(Tryz.prog.info? 225).map (fun i=>(i.zero,i.size,i.bytes))=some (some (.agg #[.int .i64 0,.string ByteArray.empty,.string ByteArray.empty]),3,40):=by kernel_rfl
theorem jlq (a:Option Addr) (len cap:Nat) (l:TL) (w:World) (hr:jr jL w a len l) (hlen:len≤1000000) :
 Calls Tryz.prog 111 #[.slice a len cap] w (fun e w'=>∃x,e=.returned x∧Own jL 225 w' w.heap.size x l∧Kept w w'):=by
 have hl:=hr.1;obtain⟨i0,hi,hz0,hz1,hz2'⟩:=info_parts jmy;rcases hr.form with h0 | ⟨b,off,rfl⟩
 · subst h0;have hl0:l=[]:=List.eq_nil_of_length_eq_zero hl;subst hl0;clear hr hl hi hz0 hz1 hz2';go_enter Tryz.func111,Tryz.ntmps111;go_wp2;refine wp_loop_rounds 1 ?_;rw[rounds_succ];go_wp2;go_ret;exact⟨_,rfl,Own.nil _ _ _,Kept.refl _⟩
 · have HR:=lH hr;have HL:=lH hl;clear hr hl;go_enter Tryz.func111,Tryz.ntmps111;go_wp2;go_loopw [3,4] (fun v i wr=>∃k:Nat,k≤len∧i=.int .i64 k∧Own jL 225 wr w.heap.size v (l.take k)∧Below w.heap.size w wr) (fun _ i _=>len-(intOf i).toNat)
   case atStart=>exact⟨0,Nat.zero_le _,rfl,Own.nil _ _ _,Below.refl _ _⟩
   case round =>
    obtain⟨k,hk,rfl,ho,hB⟩:=hrel;have HO:=lH ho;have HB:=lH hB;have HT:=lH (show (l.take k).length=k by rw[List.length_take,HL.out];omega);have HOWN:=lH (show wr.ownsRow w.heap.size 225 3 u3 k (jd jL (l.take k)) by have:=HO.out.1;rw[HT.out] at this;exact this);by_cases hlt:k<len
    · obtain⟨o,x,y,hx,hd,hb,ho9,hz,hz2,c0,c1,c2⟩:=(HR.out.kept hB).term hlt;have HX:=lH hx;have hbw:b<w.heap.size:=by obtain⟨z,_,_,h,_⟩:=HR.out.cells hlt;exact h
      have hbase:w.heap.size≤wr.heap.size:=hB.size;have HNE:=lH (show u3.ownBlock≠some b by
       intro e;have:=(HOWN.out.lt b e).1;omega)
      have HBASE:=lH (show w.heap.size≤(wr.alloc (.cells #[.int .i64 o,.string x,.string y] 225)).drew.heap.size by simp;omega);have HBD:=lH (show Below w.heap.size w ((wr.alloc (.cells #[.int .i64 o,.string x,.string y] 225)).drew) from HB.out.trans (Below.mono ((ja wr _).trans (Kept.drewN _ 1)) hbase));have hk1:(k:Int)<(len:Int):=by omega
      have HFK:=lH (show jL.fine (o,x,y) from⟨ho9,hz,hz2⟩);clear ho hB hx hd hz hz2;go_wp2_with fail
      go_region_held3 (fun W=>W.cell? ⟨b,off+k*3,none⟩=some (.int .i64 o)∧W.cell? ⟨b,off+k*3+1,none⟩=some (.string x)∧W.cell? ⟨b,off+k*3+2,none⟩=some (.string y))
       (first
         | go_keep
         | (go_split_ands
            refine⟨?_,?_,?_⟩
            · (refine(hgrow.cell_far ⟨b,off+k*3,none⟩ (by simp;omega) (Ne.symm HNE.out)).trans ?_;assumption)
            · (refine(hgrow.cell_far ⟨b,off+k*3+1,none⟩ (by simp;omega) (Ne.symm HNE.out)).trans ?_;assumption)
            · (refine(hgrow.cell_far ⟨b,off+k*3+2,none⟩ (by simp;omega) (Ne.symm HNE.out)).trans ?_;assumption)))
       ((refine step_append_lies _ (by rfl) _ _ _ (by rfl) w.heap.size 225 i0 _ 3 40 Tryz.underlying83 hi hz0 hz1 hz2' rfl (by decide) u3 k (jd jL (l.take k)) (by rfl) ((HOWN.out.alloc _).drew)
          ⟨wr.heap.size,0,none⟩ 1 1 [.int .i64 o,.string x,.string y] (by rfl) (by rfl) (World.news_of_block (cs:=#[.int .i64 o,.string x,.string y]) (t:=225) (fr:=(0,0)) (heap_alloc_new wr _)) (jeq o x y)
          (by decide) (by unfold maxLen;omega) (by omega) (by simp;omega) (wr.heap.size+1) (by simp) ?_;intro gg cap1 w1 hown1 hgrow hat hlt1))
      all_goals
       go_wp2;go_roundw
       case rel=>exact⟨k+1,by omega,by go_num,by rw[zW HX.out];exact Own.snoc hown1 (by rw[HT.out]) HO.out.2 HFK.out,HBD.out.grown hgrow HBASE.out (fun j hj=>(HOWN.out.lt j hj).1)⟩
       case measure=>simp[intOf];omega
    · have HK:=lH (show l.take k=l by rw[List.take_of_length_le (by rw[HL.out];omega)]);clear ho hB;go_wp2;go_ret;exact⟨_,rfl,by have h:=HO.out;rw[HK.out] at h;exact h,HB.out⟩
theorem jf9 {v:Value} {l:PL} {w:World} (h:Reads js w v l):Calls Tryz.prog 56 #[v] w fun e w'=>e=.returned (.bool (Yt l))∧w=w':=by
 obtain⟨a,cap,rfl,_,_,hr⟩:=h;exact jeg a _ cap l w hr
theorem jex {v:Value} {l:TL} {w:World} (h:Reads jL w v l):Calls Tryz.prog 54 #[v] w fun e w'=>e=.returned (.bool (Ys l))∧w=w':=by
 obtain⟨a,cap,rfl,_,_,hr⟩:=h;exact jji a _ cap l w hr
theorem Z1 {v:Value} {l:PL} {c:Int} {w:World} (h:Reads js w v l) (hc:zE l=c):Calls Tryz.prog 100 #[v] w (Say (.int .i64 c) w):=by
 obtain⟨a,cap,rfl,_,_,hr⟩:=h;exact(jdO a _ cap l w hr).mono fun e w' ⟨he,k⟩=>⟨by rw[he,hc],k⟩
theorem jbD {v:Value} {l:TL} {c:Int} {w:World} (h:Reads jL w v l) (hc:zb l=c):Calls Tryz.prog 102 #[v] w (Say (.int .i64 c) w):=by
 obtain⟨a,cap,rfl,_,_,hr⟩:=h;exact(jdr a _ cap l w hr).mono fun e w' ⟨he,k⟩=>⟨by rw[he,hc],k⟩
theorem Zd (p q:List UInt8) (w:World) :
 Calls Tryz.prog 81 #[.string (bytes p),.string (bytes q)] w fun e w'=>e=.returned (.bool (Lib.hasPrefix p q))∧w'=w :=
 Tryz.strings_HasPrefix (bytes p) (bytes q) w
theorem je9 (p:List UInt8) (w:World) (hp:p.length≤1000000) :
 Calls Tryz.prog 261 #[.string (bytes p),.string ⟨#[33]⟩] w fun e w'=>e=.returned (.tuple #[.string (bytes (Lib.trimSuffix p [33])),.bool (Lib.hasSuffix p [33])])∧w'=w :=
 Tryz.strings_CutSuffix (bytes p) ⟨#[33]⟩ w (by rw[ji];omega)
def Jr (p:List UInt8):NT:=(bytes (Lib.cut (Lib.trimSuffix p [33]) [58]).1,bytes (Lib.cut (Lib.trimSuffix p [33]) [58]).2.1,Lib.hasSuffix p [33])
def JX (p:List UInt8):Bool:=decide (Lib.countByte p 58≠1)
def jer (k:List UInt8):ByteArray:=if k=[42] then ByteArray.empty else bytes k
def JA (p:List UInt8):NT:=(jer (Lib.cut p [58]).1,bytes (Lib.cut p [58]).2.1,!(Lib.cut p [58]).2.2)
def JO (p:List UInt8):Bool:=decide (p=[])||Lib.hasPrefix p [58]||decide (1<Lib.countByte p 58)
theorem jmF (p:List UInt8) (w:World) (hE:Env w) (hp:p.length≤1000000) (h:JX p=false) :
 Calls Tryz.prog 217 #[.string (bytes p)] w fun e w'=>e=.returned (NV (Jr p).1 (Jr p).2.1 (Jr p).2.2)∧Kept w w':=by
 have HE:=lH hE;have h1:Lib.countByte p 58=1:=by unfold JX at h;simpa using h
 have HN:=lH (fun W=>J6 58 p W);rw[h1] at HN;obtain⟨s,hs⟩:∃s,Lib.trimSuffix p [33]=s:=⟨_,rfl⟩
 have hsl:s.length≤1000000:=by rw[←hs];have:=Lib.trimSuffix_le p [33];omega
 obtain⟨q,hq⟩:∃q,Lib.hasSuffix p [33]=q:=⟨_,rfl⟩
 have HS:=lH (fun W=>je9 p W hp);rw[hs,hq] at HS;have HV:=lH (show Jr p=(bytes (Lib.cut s [58]).1,bytes (Lib.cut s [58]).2.1,q) by unfold Jr;rw[hs,hq]);have HC:=lH (fun W (hW:Env W)=>JC 58 s W hW hsl);clear hE h h1 hs hq;rw[HV.out];go_enter Tryz.func217,Tryz.ntmps217;go_wp2_with (first | (go_at_call 260;refine(HN.out _).mono ?_;rintro e w' ⟨rfl,rfl⟩) | (go_at_call 261;refine(HS.out _).mono ?_;rintro e w' ⟨rfl,rfl⟩) | (go_at_call 82;refine(HC.out _ (HE.out.kept (ja _ _))).mono ?_;rintro e w' ⟨rfl,n,rfl⟩))
 (try simp only[Exit.inBlock,Exit.then])
 refine bodyPost_ret (v:=NV (bytes (Lib.cut s [58]).1) (bytes (Lib.cut s [58]).2.1) q) (by simp[results,Tryz.results217,go_sem]) rfl ?_;exact⟨rfl,zH (zH (zH ((ja _ _).trans (Kept.drewN _ _)) (Nat.le_refl _) _) (Nat.le_refl _) _) (Nat.le_refl _) _⟩
theorem jk4 (p:List UInt8) (w:World) (hE:Env w) (hp:p.length≤1000000) (h:JX p=true) :
 Calls Tryz.prog 217 #[.string (bytes p)] w fun e w'=>e=.panicked [ju 2]∧Kept w w':=by
 have h1:Lib.countByte p 58≠1:=by unfold JX at h;simpa using h
 obtain⟨A,eA⟩:∃A,Lib.countByte p 58=A:=⟨_,rfl⟩
 have HN:=lH (fun W=>J6 58 p W);rw[eA] at HN h1;have h2:((A:Int) != 1)=true:=by
  have:(A:Int)≠1:=by omega
  simpa using this
 clear hE h h1;go_enter Tryz.func217,Tryz.ntmps217;go_wp2_with (go_at_call 260;refine(HN.out _).mono ?_;rintro e w' ⟨rfl,rfl⟩)
 first | exact⟨rfl,rfl,Kept.refl _⟩ | exact⟨rfl,rfl,ja _ _⟩
theorem jlx (p:List UInt8) (w:World) (hE:Env w) (hp:p.length≤1000000) (h:JO p=false) :
 Calls Tryz.prog 231 #[.string (bytes p)] w fun e w'=>e=.returned (NV (JA p).1 (JA p).2.1 (JA p).2.2)∧Kept w w':=by
 have HE:=lH hE;unfold JO at h;rw[Bool.or_eq_false_iff,Bool.or_eq_false_iff] at h;obtain⟨⟨h0,h1⟩,h2⟩:=h;have e0:((bytes p).toList==([]:List UInt8))=false:=by rw[jn];simpa using h0
 have h2:¬1<Lib.countByte p 58:=by simpa using h2
 have hA:=count_le p 58;have HP:=lH (fun W=>Zd p [58] W);rw[h1] at HP;have HN:=lH (fun W=>J6 58 p W);obtain⟨A,eA⟩:∃A,Lib.countByte p 58=A:=⟨_,rfl⟩
 rw[eA] at HN h2 hA;obtain⟨k,hk⟩:∃k,(Lib.cut p [58]).1=k:=⟨_,rfl⟩
 obtain⟨v,hv⟩:∃v,(Lib.cut p [58]).2.1=v:=⟨_,rfl⟩
 obtain⟨q,hq⟩:∃q,(Lib.cut p [58]).2.2=q:=⟨_,rfl⟩
 have HC:=lH (fun W (hW:Env W)=>JC 58 p W hW hp);rw[hk,hv,hq] at HC;obtain⟨z,hz⟩:∃z,((bytes k).toList==[42])=z:=⟨_,rfl⟩
 have HV:=lH (show JA p=((if z=true then ByteArray.empty else bytes k),bytes v,!q) by
  unfold JA jer;rw[hk,hv,hq];have:(k=[42])↔z=true:=by rw[←hz,jn];simp
  by_cases hkk:k=[42]
  · rw[if_pos hkk,if_pos (this.1 hkk)]
  · rw[if_neg hkk,if_neg (fun h=>hkk (this.2 h))])
 clear hE h0 h1 hk hv hq eA;rw[HV.out]
 cases z with
 | true =>
  go_enter Tryz.func231,Tryz.ntmps231;go_wp2_with (first | (go_at_call 260;refine(HN.out _).mono ?_;rintro e w' ⟨rfl,rfl⟩) | (go_at_call 81;refine(HP.out _).mono ?_;rintro e w' ⟨rfl,rfl⟩) | (go_at_call 82;refine(HC.out _ (HE.out.kept (ja _ _))).mono ?_;rintro e w' ⟨rfl,n,rfl⟩))
  (try simp only[Exit.inBlock,Exit.then])
  refine bodyPost_ret (v:=NV ⟨#[]⟩ (bytes v) (!q)) (by simp[results,Tryz.results231,go_sem]) rfl ?_;exact⟨rfl,zH (zH (zH ((ja _ _).trans (Kept.drewN _ _)) (Nat.le_refl _) _) (Nat.le_refl _) _) (Nat.le_refl _) _⟩
 | false =>
  go_enter Tryz.func231,Tryz.ntmps231;go_wp2_with (first | (go_at_call 260;refine(HN.out _).mono ?_;rintro e w' ⟨rfl,rfl⟩) | (go_at_call 81;refine(HP.out _).mono ?_;rintro e w' ⟨rfl,rfl⟩) | (go_at_call 82;refine(HC.out _ (HE.out.kept (ja _ _))).mono ?_;rintro e w' ⟨rfl,n,rfl⟩))
  (try simp only[Exit.inBlock,Exit.then])
  refine bodyPost_ret (v:=NV (bytes k) (bytes v) (!q)) (by simp[results,Tryz.results231,go_sem]) rfl ?_;exact⟨rfl,zH (zH (zH ((ja _ _).trans (Kept.drewN _ _)) (Nat.le_refl _) _) (Nat.le_refl _) _) (Nat.le_refl _) _⟩
theorem jkO (p:List UInt8) (w:World) (hE:Env w) (hp:p.length≤1000000) (h:JO p=true) :
 Calls Tryz.prog 231 #[.string (bytes p)] w fun e w'=>e=.panicked [ju 2]∧Kept w w':=by
 unfold JO at h;have hA:=count_le p 58;have HP:=lH (fun W=>Zd p [58] W);have HN:=lH (fun W=>J6 58 p W);obtain⟨A,eA⟩:∃A,Lib.countByte p 58=A:=⟨_,rfl⟩
 obtain⟨q,hq⟩:∃q,Lib.hasPrefix p [58]=q:=⟨_,rfl⟩
 rw[eA] at HN h hA;rw[hq] at HP h;by_cases h0:p=[]
 · have e0:((bytes p).toList==([]:List UInt8))=true:=by rw[jn,h0];rfl
   clear h h0 hE eA hq;go_enter Tryz.func231,Tryz.ntmps231;go_wp2;first | exact⟨rfl,rfl,Kept.refl _⟩ | exact⟨rfl,rfl,ja _ _⟩
 · have e0:((bytes p).toList==([]:List UInt8))=false:=by rw[jn];simpa using h0
   cases q with
   | true =>
    clear h h0 hE eA hq;go_enter Tryz.func231,Tryz.ntmps231;go_wp2_with (go_at_call 81;refine(HP.out _).mono ?_;rintro e w' ⟨rfl,rfl⟩)
    first | exact⟨rfl,rfl,Kept.refl _⟩ | exact⟨rfl,rfl,ja _ _⟩
   | false =>
    have h2:1<A:=by
     have e1:decide (p=[])=false:=by simpa using h0
     rw[e1] at h;simpa using h
    have h2':(1:Int)<(A:Int):=by omega
    clear h h0 hE eA hq h2;go_enter Tryz.func231,Tryz.ntmps231;go_wp2_with (first | (go_at_call 260;refine(HN.out _).mono ?_;rintro e w' ⟨rfl,rfl⟩) | (go_at_call 81;refine(HP.out _).mono ?_;rintro e w' ⟨rfl,rfl⟩))
    first | exact⟨rfl,rfl,Kept.refl _⟩ | exact⟨rfl,rfl,ja _ _⟩
open Go.RowKit Go.Sort
def Grw (w w':World):Prop:=∃q os,w'=grow (w.drewN q) os
theorem Grw.refl (w:World):Grw w w:=⟨0,#[],by rw[grow_empty];rfl⟩
theorem Grw.grown {w W:World} (h:Grw w W) (n:Nat) (os:Array Obj):Grw w (grow (W.drewN n) os):=by
 obtain⟨q,os0,rfl⟩:=h;exact⟨q+n,os0++os,by show grow (grow ((w.drewN q).drewN n) os0) os=_;rw[grow_grow,World.drewN_drewN]⟩
theorem Grw.trans {a b c:World} (h:Grw a b) (k:Grw b c):Grw a c:=by
 obtain⟨q,os,rfl⟩:=k;exact h.grown q os
theorem Grw.alloc (w:World) (o:Obj):Grw w (w.alloc o):=⟨0,#[o],alloc_eq_grow _ _⟩
theorem Grw.drewN (w:World) (n:Nat):Grw w (w.drewN n):=⟨n,#[],by rw[grow_empty]⟩
theorem Yy (w:World) (n:Nat) (os:Array Obj):Kept w (grow (w.drewN n) os):=Go.Lib.below_grow w.heap.size w (Nat.le_refl _) n os
theorem Grw.kept {w w':World} (h:Grw w w'):Kept w w':=by
 obtain⟨q,os,rfl⟩:=h;exact Yy w q os
def XT (w:World) (c:Nat) (t:NT):Prop:=w.cell? ⟨c,0,none⟩=some (.string t.1)∧w.cell? ⟨c,1,none⟩=some (.string t.2.1)∧w.cell? ⟨c,2,none⟩=some (.bool t.2.2)
theorem XT.kept {w w':World} {c:Nat} {t:NT} (h:XT w c t) (k:Kept w w'):XT w' c t:=⟨cell_later k h.1,cell_later k h.2.1,cell_later k h.2.2⟩
theorem XT.new (w:World) (x y:ByteArray) (m:Bool) (T:TypeId):XT (w.alloc (.cells #[.string x,.string y,.bool m] T)) w.heap.size (x,y,m):=by
 have hh:=w.alloc_heap_new (.cells #[.string x,.string y,.bool m] T);exact⟨by rw[Lib.cell_of_heap hh];rfl,by rw[Lib.cell_of_heap hh];rfl,by rw[Lib.cell_of_heap hh];rfl⟩
theorem jgJ (c:Nat) (t:NT) (x y:ByteArray) (m:Bool) (w:World) (h:XT w c t) :
 Calls Tryz.prog 292 #[NV x y m,.pointer (some ⟨c,0,none⟩)] w fun e w'=>e=.returned (.bool (Jw t (x,y,m)))∧Grw w w':=by
 obtain⟨t1,t2,t3⟩:=t;obtain⟨h1,h2,h3⟩:=h;dsimp only at h1 h2 h3;have g1:=cell_later (ja w (.cells #[.string x,.string y,.bool m] 148)) h1;have g2:=cell_later (ja w (.cells #[.string x,.string y,.bool m] 148)) h2;have g3:=cell_later (ja w (.cells #[.string x,.string y,.bool m] 148)) h3;obtain⟨q1,hq1⟩:∃q,(x.toList==t1.toList)=q:=⟨_,rfl⟩
 obtain⟨q2,hq2⟩:∃q,(y.toList==t2.toList)=q:=⟨_,rfl⟩
 have HV:=lH (show Jw (t1,t2,t3) (x,y,m)=(q1&&q2) by unfold Jw eqS;rw[hq1,hq2])
 cases q1<;>cases q2 <;>
 (go_enter Tryz.func292,Tryz.ntmps292
  go_wp2;go_ret;exact⟨jh HV.out.symm,Grw.alloc _ _⟩)
theorem jjr (a:Option Addr) (len cap:Nat) (l:NL) (c:Nat) (t:NT) (w:World) (hr:jr jq w a len l) (ht:XT w c t) :
 Calls Tryz.prog 303 #[.slice a len cap,.func (.func 292) #[] #[.pointer (some ⟨c,0,none⟩)]] w fun e w'=>∃i:Int,e=.returned (.int .i64 i)∧decide (0≤i)=l.any (Jw t)∧Grw w w':=by
 have hl:=hr.1;have hm:=hr.2.1;unfold maxLen at hm;rcases hr.form with h0 | ⟨b,off,rfl⟩
 · subst h0;have HE:=lH (show l.any (Jw t)=false by rw[List.eq_nil_of_length_eq_zero hl];rfl);clear hr hl ht;go_enter Tryz.func303,Tryz.ntmps303;go_wp2;refine wp_loop_rounds 1 ?_;rw[rounds_succ];go_wp2;go_ret;exact⟨-1,rfl,HE.out.symm,Grw.refl _⟩
 · have HR:=lH hr;have HL:=lH hl;have HT:=lH ht;clear hr hl ht;go_enter Tryz.func303,Tryz.ntmps303;go_wp2;go_loopw [8] (fun i wr=>∃k:Nat,k≤len∧i=.int .i64 k∧(l.drop k).any (Jw t)=l.any (Jw t)∧Grw w wr) (fun i _=>len-(intOf i).toNat)
   case atStart=>exact⟨0,Nat.zero_le _,rfl,rfl,Grw.refl _⟩
   case round =>
    obtain⟨k,hk,rfl,hrest,hG⟩:=hrel;have hK:=hG.kept;have HG:=lH hG;by_cases hlt:k<len
    · obtain⟨x,y,m,hx,hd,hb,hz,hz2,c1,c2,c3⟩:=(HR.out.kept hK).tri hlt;have HK:=lH hK;have HS:=lH (hrest.symm.trans ((congrArg (fun z=>z.any (Jw t)) hd).trans (List.any_cons)));obtain⟨q,hq⟩:∃q,Jw t (x,y,m)=q:=⟨_,rfl⟩
      rw[hq] at HS;have HQ:=lH hq;have HC:=lH (HT.out.kept hK);clear hK hrest hx hd hG hq
      cases q with
      | true =>
       go_wp2_with (go_at_call 292;refine(jgJ c t x y m _ HC.out).mono ?_;rw[HQ.out];rintro e w1 ⟨rfl,k1⟩;have K1:=lH k1;clear k1)
       go_ret;exact⟨(k:Int),rfl,by rw[HS.out];simp,HG.out.trans K1.out⟩
      | false =>
       go_wp2_with (go_at_call 292;refine(jgJ c t x y m _ HC.out).mono ?_;rw[HQ.out];rintro e w1 ⟨rfl,k1⟩;have K1:=lH k1;clear k1)
       go_roundw
       case rel=>exact⟨k+1,by omega,by go_num,(HS.out.trans (Bool.false_or _)).symm,HG.out.trans K1.out⟩
       case measure=>simp[intOf];omega
    · have HS:=lH (hrest.symm.trans (congrArg (fun z=>z.any (Jw t)) (JS (by rw[HL.out];exact hlt))));clear hK hrest hG;go_wp2;go_ret;exact⟨-1,rfl,by rw[HS.out];rfl,HG.out⟩
theorem jfj (a:Option Addr) (len cap:Nat) (l:NL) (c:Nat) (t:NT) (w:World) (hr:jr jq w a len l) (ht:XT w c t) :
 Calls Tryz.prog 291 #[.slice a len cap,.func (.func 292) #[] #[.pointer (some ⟨c,0,none⟩)]] w fun e w'=>e=.returned (.bool (l.any (Jw t)))∧Grw w w':=by
 have HI:=lH (jjr a len cap l c t w hr ht);clear hr ht;go_enter Tryz.func291,Tryz.ntmps291;go_wp2_with fail
 refine HI.out.mono ?_;rintro e w1 ⟨i,rfl,hi,k1⟩;have K1:=lH k1;have HB:=lH hi;clear hi k1;go_wp2;go_ret;exact⟨jh HB.out,K1.out⟩
theorem jli (a:Option Addr) (len cap:Nat) (l:NL) (t1 t2:ByteArray) (t3:Bool) (w:World) (hr:jr jq w a len l) :
 Calls Tryz.prog 262 #[.slice a len cap,NV t1 t2 t3] w fun e w'=>e=.returned (.bool (l.any (Jw (t1,t2,t3))))∧Grw w w':=by
 have hmf:=hmfL (P:=Tryz.prog);have HI:=lH (jfj a len cap l w.heap.size (t1,t2,t3) (w.alloc (.cells #[.string t1,.string t2,.bool t3] 148)) (hr.kept (ja _ _)) (XT.new w t1 t2 t3 _));clear hr;go_enter Tryz.func262,Tryz.ntmps262;go_wp2_with fail
 refine HI.out.mono ?_;rintro e w1 ⟨rfl,k1⟩;have K1:=lH k1;clear k1;go_wp2;go_ret;exact⟨rfl,(Grw.alloc _ _).trans K1.out⟩
theorem jkT (x y:ByteArray) (m:Bool) (w:World) (hx:x.size≤maxLen) (hy:y.size≤maxLen) :
 Calls Tryz.prog 271 #[NV x y m] w fun e w'=>e=.returned (.bool (zm (x,y,m)))∧Kept w w':=by
 obtain⟨q0,hq0⟩:∃q,(x.toList==([]:List UInt8))=q:=⟨_,rfl⟩
 obtain⟨q2,hq2⟩:∃q,(y.toList==([]:List UInt8))=q:=⟨_,rfl⟩
 obtain⟨n1,hn1⟩:∃q,isName x=q:=⟨_,rfl⟩
 obtain⟨n2,hn2⟩:∃q,isName y=q:=⟨_,rfl⟩
 have HV:=lH (show zm (x,y,m)=((q0||n1)&&(if m=true then q2 else n2)) by unfold zm;rw[ZY,ZY,hq0,hq2,hn1,hn2])
 cases q0<;>cases n1<;>cases m<;>cases q2<;>cases n2 <;>
 (go_enter Tryz.func271,Tryz.ntmps271
  go_wp2_with (go_at_call 219;refine(zk _ _ (by assumption)).mono ?_;rintro e w' ⟨rfl,rfl⟩)
  go_ret;exact⟨jh HV.out.symm,ja _ _⟩)
theorem jeY {x:NT} {t:NL}:(x::t).all zm=(zm x&&t.all zm):=rfl
theorem jdf (a:Option Addr) (len cap:Nat) (l:NL) (w:World) (hr:jr jq w a len l) :
 Calls Tryz.prog 232 #[.slice a len cap] w fun e w'=>e=.returned (.int .i64 (zw l))∧Kept w w':=by
 have hl:=hr.1;have hm:=hr.2.1;unfold maxLen at hm;by_cases h8:len≤8
 · have HV:=lH (show zw l=if l.all zm=true then 0 else 3 by unfold zw;rw[if_neg (by omega)]);rcases hr.form with h0 | ⟨b,off,rfl⟩
   · subst h0;have HE:=lH (show zw l=0 by rw[HV.out];rw[List.eq_nil_of_length_eq_zero hl];rfl);clear hr hl;go_enter Tryz.func232,Tryz.ntmps232;go_wp2;refine wp_loop_rounds 1 ?_;rw[rounds_succ];go_wp2;go_ret;exact⟨jb HE.out.symm,Kept.refl _⟩
   · have HR:=lH hr;have HL:=lH hl;clear hr hl;go_enter Tryz.func232,Tryz.ntmps232;go_wp2;go_loopw [10] (fun i wr=>∃k:Nat,k≤len∧i=.int .i64 k∧(l.drop k).all zm=l.all zm∧Kept w wr) (fun i _=>len-(intOf i).toNat)
     case atStart=>exact⟨0,Nat.zero_le _,rfl,rfl,Kept.refl _⟩
     case round =>
      obtain⟨k,hk,rfl,hrest,hK⟩:=hrel;by_cases hlt:k<len
      · obtain⟨x,y,m,hx,hd,hb,hz,hz2,c1,c2,c3⟩:=(HR.out.kept hK).tri hlt;have HK:=lH hK;obtain⟨q,hq⟩:∃q,zm (x,y,m)=q:=⟨_,rfl⟩
        have HS:=lH (hrest.symm.trans ((congrArg (fun z=>z.all zm) hd).trans (jeY.trans (by rw[hq]))));have HC:=lH (fun W=>jkT x y m W hz hz2);rw[hq] at HC;clear hK hrest hx hd hq
        cases q with
        | true =>
         go_wp2_with (go_at_call 271;refine(HC.out _).mono ?_;rintro e w1 ⟨rfl,k1⟩;have K1:=lH k1;clear k1)
         go_roundw
         case rel=>exact⟨k+1,by omega,by go_num,(HS.out.trans (Bool.true_and _)).symm,HK.out.trans ((ja _ _).trans K1.out)⟩
         case measure=>simp[intOf];omega
        | false =>
         have HF:=lH (show zw l=3 by rw[HV.out,HS.out];rfl);go_wp2_with (go_at_call 271;refine(HC.out _).mono ?_;rintro e w1 ⟨rfl,k1⟩;have K1:=lH k1;clear k1)
         go_ret;exact⟨jb HF.out.symm,HK.out.trans ((ja _ _).trans K1.out)⟩
      · have HK:=lH hK;have HS:=lH (hrest.symm.trans (congrArg (fun z=>z.all zm) (JS (by rw[HL.out];exact hlt))));have HF:=lH (show zw l=0 by rw[HV.out,HS.out];rfl);clear hK hrest;go_wp2;go_ret;exact⟨jb HF.out.symm,HK.out⟩
 · have HV:=lH (show zw l=4 by unfold zw;rw[if_pos (by omega)]);have h9:8<len:=by omega
   clear h8 hr hl;go_enter Tryz.func232,Tryz.ntmps232;go_wp2;go_ret;exact⟨jb HV.out.symm,Kept.refl _⟩
theorem jr.front {α:Type} {L:Lay α} {w:World} {a:Option Addr} {len:Nat} {l:List α} (h:jr L w a len l) {k:Nat} (hk:k≤len):jr L w a k (l.take k):=by
 obtain⟨h0,h1,h2,h3⟩:=h;refine⟨by rw[List.length_take];omega,by omega,fun x hx=>h2 x (List.mem_of_mem_take hx),?_⟩;rcases h3 with h3 | ⟨b,off,e,hb,hc⟩
 · exact .inl (by omega)
 · refine .inr ⟨b,off,e,hb,fun i x j u hi hj=>?_⟩;rw[List.getElem?_take] at hi;split at hi
   · exact hc i x j u hi hj
   · cases hi
theorem jd1 (a:Option Addr) (len cap:Nat) (l:NL) (w:World) (hr:jr jq w a len l) (hc:len≤cap) :
 Calls Tryz.prog 218 #[.slice a len cap] w fun e w'=>e=.returned (.int .i64 (Jg l))∧Kept w w':=by
 have hl:=hr.1;have hm:=hr.2.1;unfold maxLen at hm;by_cases h8:len≤8
 · have HV:=lH (show Jg l=JF [] l by unfold Jg;rw[if_neg (by omega)]);rcases hr.form with h0 | ⟨b,off,rfl⟩
   · subst h0;have HE:=lH (show Jg l=0 by rw[HV.out];rw[List.eq_nil_of_length_eq_zero hl];rfl);clear hr hl;go_enter Tryz.func218,Tryz.ntmps218;go_wp2;refine wp_loop_rounds 1 ?_;rw[rounds_succ];go_wp2;go_ret;exact⟨jb HE.out.symm,Kept.refl _⟩
   · have HR:=lH hr;have HL:=lH hl;clear hr hl;go_enter Tryz.func218,Tryz.ntmps218;go_wp2;go_loopw [10] (fun i wr=>∃k:Nat,k≤len∧i=.int .i64 k∧JF (l.take k) (l.drop k)=JF [] l∧Kept w wr) (fun i _=>len-(intOf i).toNat)
     case atStart=>exact⟨0,Nat.zero_le _,rfl,rfl,Kept.refl _⟩
     case round =>
      obtain⟨k,hk,rfl,hrest,hK⟩:=hrel;by_cases hlt:k<len
      · obtain⟨x,y,m,hx,hd,hb,hz,hz2,c1,c2,c3⟩:=(HR.out.kept hK).tri hlt;have HX:=lH hx;have HK:=lH hK;have HT:=lH (hrest.symm.trans (congrArg (JF (l.take k)) hd));have HS:=lH (HV.out.trans HT.out);have HROW:=lH ((HR.out.kept hK).front hk);clear hK hrest hx hd;by_cases n1:isName x=true
        · by_cases n2:isName y=true
          · have N1:=lH n1;have N2:=lH n2;obtain⟨q,hq⟩:∃q,(l.take k).any (Jw (x,y,m))=q:=⟨_,rfl⟩
            have HQ:=lH hq;have tn:=XT.new wr x y m 148;have l1:∀(n:Nat) (os:Array Obj),(grow ((wr.alloc (.cells #[.string x,.string y,.bool m] 148)).drewN n) os).cell? ⟨wr.heap.size,0,none⟩=some (.string x):=fun n os=>cell_later (Yy _ n os) tn.1;have l2:∀(n:Nat) (os:Array Obj),(grow ((wr.alloc (.cells #[.string x,.string y,.bool m] 148)).drewN n) os).cell? ⟨wr.heap.size,1,none⟩=some (.string y):=fun n os=>cell_later (Yy _ n os) tn.2.1;have l3:∀(n:Nat) (os:Array Obj),(grow ((wr.alloc (.cells #[.string x,.string y,.bool m] 148)).drewN n) os).cell? ⟨wr.heap.size,2,none⟩=some (.bool m):=fun n os=>cell_later (Yy _ n os) tn.2.2;have cz:∀(n:Nat) (os:Array Obj),Calls Tryz.prog 262 #[.slice (some ⟨b,off,none⟩) k cap,NV x y m] (grow ((wr.alloc (.cells #[.string x,.string y,.bool m] 148)).drewN n) os) fun e w''=>e=.returned (.bool q)∧∃q' os',w''=grow ((grow ((wr.alloc (.cells #[.string x,.string y,.bool m] 148)).drewN n) os).drewN q') os':=fun n os=>by
             rw[←hq];exact jli (some ⟨b,off,none⟩) k cap (l.take k) x y m _ ((HROW.out.kept (ja _ _)).kept (Yy _ n os))
            have r1:(k:Int)≤(cap:Int):=by omega
            have r2:k≤cap:=by omega
            have mixed:Tryz.prog.follows Departure.mixedOrders=true:=by kernel_rfl
            clear tn hq
            cases q with
            | true =>
             go_wp2_with (go_at_call 219;refine(zk _ _ (by assumption)).mono ?_;rintro e w' ⟨rfl,rfl⟩)
             go_quiet_grown (first | (go_at_call 262;refine Calls.grown_of (cz _ _)))
             go_wp2;go_ret;exact⟨jb (HS.out.trans (jdp N1.out N2.out HQ.out)).symm,HK.out.trans ((ja _ _).trans (Yy _ _ _))⟩
            | false =>
             go_wp2_with (go_at_call 219;refine(zk _ _ (by assumption)).mono ?_;rintro e w' ⟨rfl,rfl⟩)
             go_quiet_grown (first | (go_at_call 262;refine Calls.grown_of (cz _ _)))
             go_wp2;go_roundw
             case rel=>exact⟨k+1,by omega,by go_num,by rw[zW HX.out];exact(jeA N1.out N2.out HQ.out).symm.trans HT.out.symm,HK.out.trans ((ja _ _).trans (Yy _ _ _))⟩
             case measure=>simp[intOf];omega
          · have n2:isName y=false:=by simpa using n2
            have N:=lH (show (isName x&&isName y)=false by rw[n2,Bool.and_false]);go_wp2_with (go_at_call 219;refine(zk _ _ (by assumption)).mono ?_;rintro e w' ⟨rfl,rfl⟩)
            go_ret;exact⟨jb (HS.out.trans (qK N.out)).symm,HK.out.trans (ja _ _)⟩
        · have n1:isName x=false:=by simpa using n1
          have N:=lH (show (isName x&&isName y)=false by rw[n1,Bool.false_and]);go_wp2_with (go_at_call 219;refine(zk x _ hz).mono ?_;rintro e w' ⟨rfl,rfl⟩)
          go_ret;exact⟨jb (HS.out.trans (qK N.out)).symm,HK.out.trans (ja _ _)⟩
      · have HK:=lH hK;have HS:=lH ((HV.out.trans hrest.symm).trans (congrArg (JF (l.take k)) (JS (by rw[HL.out];exact hlt))));clear hK hrest;go_wp2;go_ret;exact⟨jb (HS.out.trans rfl).symm,HK.out⟩
 · have HV:=lH (show Jg l=4 by unfold Jg;rw[if_pos (by omega)]);have h9:8<len:=by omega
   clear h8 hr hl;go_enter Tryz.func218,Tryz.ntmps218;go_wp2;go_ret;exact⟨jb HV.out.symm,Kept.refl _⟩
open Go.RowKit Go.Shelf
attribute [local go_sem] Oper.semAt_some
theorem joC:(Tryz.prog.info? 148).map (fun i=>(i.zero,i.size,i.bytes))=some (some (.agg #[.string ByteArray.empty,.string ByteArray.empty,.bool false]),3,40):=by kernel_rfl
theorem jja {p:List UInt8} (h:p.length≤1000000):jq.fine (Jr p):=by
 have h0:=Lib.trimSuffix_le p [33];have h1:=(Yl (Lib.trimSuffix p [33]) [58]).1;have h2:=(Yl (Lib.trimSuffix p [33]) [58]).2;unfold Jr;refine⟨?_,?_⟩
 · show (bytes _).size≤maxLen;rw[ji];unfold maxLen;omega
 · show (bytes _).size≤maxLen;rw[ji];unfold maxLen;omega
def Jj (s:List UInt8):=Js JX Jr Jg s
theorem jgq (w:World) :
 Calls Tryz.prog 216 #[.string (bytes [45]),.func (.func 217) #[] #[],.func (.func 218) #[] #[]] w (jw jq 148 (Jj [45]) w.heap.size w):=by
 have e:((bytes [45]).toList==[45])=true:=by rw[jn];rfl
 go_enter Tryz.func216,Tryz.ntmps216;go_wp2;go_ret;exact jw.good rfl (Own.nil _ _ _) (ja _ _)
theorem jhW (s:List UInt8) (w:World) (hE:Env w) (hs:s.length≤1000000) (hd:s≠[45]) :
 Calls Tryz.prog 216 #[.string (bytes s),.func (.func 217) #[] #[],.func (.func 218) #[] #[]] w (jw jq 148 (Jj s) w.heap.size w):=by
 have hdash:((bytes s).toList==[45])=false:=by rw[jn];simpa using hd
 have HD0:=lH hd;clear hd;refine ZC (n:=6) Tryz.func216 rfl ?_;simp only[Tryz.ntmps216,List.size_toArray,List.length_cons,List.length_nil,Nat.reduceAdd,Nat.reduceSub,Array.replicate_succ,Array.replicate_zero,List.push_toArray,List.append_toArray,List.nil_append,List.cons_append];refine jQ (j6 (n:=6) ?_);gi_wp2
 refine jQ (j6 (n:=6) ?_);gi_wp2
 refine jQ (j6 (n:=6) ?_);gi_wp2
 obtain⟨V0,hV0⟩:∃V0,(w.alloc (.cells #[.func (.func 217) #[] #[]] 288)).alloc (.cells #[.slice none 0 0] 40)=V0:=⟨_,rfl⟩
 have HV0S:=lH (show V0.heap.size=w.heap.size+2 by rw[←hV0];simp);have HV0K:=lH (show Kept w V0 by rw[←hV0];exact jk _ _ _);have HV0C:=lH (show V0.cell? ⟨w.heap.size+1,0,none⟩=some (.slice none 0 0)∧V0.frozen? ⟨w.heap.size+1,0,none⟩=false∧V0.cell? ⟨w.heap.size,0,none⟩=some (.func (.func 217) #[] #[]) by
  rw[←hV0];exact qJ w _ _ _ _)
 rw[hV0];clear hV0;have HE:=lH hE;have HPL:=lH (fun p (h:p ∈ partsOf s)=>Nat.le_trans (YG s p h) hs);have hcl:(bytes s).size≤281474976710656:=by rw[ji];omega
 clear hE;refine jQ (jQ (j6 (n:=6) ?_));gi_wp2_with (first | (refine⟨trivial,?_⟩;gi_at_call 160;refine(callsIn_wide.2 (Zp _ _ hcl)).mono ?_;rintro e w1 ⟨rfl,k1⟩;have K1:=lH k1;clear k1) | (refine⟨trivial,?_⟩;gi_at_call 252;refine(callsIn_wide.2 (ZX s _)).mono ?_;rintro e w2 ⟨rfl,rfl⟩))
 refine Yg ?_;obtain⟨m,hm⟩:∃m,w1.heap.size=m:=⟨_,rfl⟩
 have bc:=Yp w1 s;have bsz:=YQ w1 s;rw[hm] at bc bsz ⊢;have HM:=lH hm;have hwm:w.heap.size+2≤m:=by rw[←hm,←HV0S.out];exact K1.out.size
 have HWM:=lH hwm;have HB0:=lH (show Below w.heap.size w (boxes w1 s) from HV0K.out.trans (K1.out.trans (Jq w1 s)));have HK0:=lH (show Kept V0 (boxes w1 s) from K1.out.trans (Jq w1 s));have HC0:=lH (show (boxes w1 s).cell? ⟨w.heap.size+1,0,none⟩=some (.slice none 0 0)∧(boxes w1 s).frozen? ⟨w.heap.size+1,0,none⟩=false∧(boxes w1 s).cell? ⟨w.heap.size,0,none⟩=some (.func (.func 217) #[] #[]) from
  ⟨cell_later HK0.out HV0C.out.1,(HK0.out.frozen (p:=⟨w.heap.size+1,0,none⟩) (by rw[HV0S.out];exact Nat.lt_succ_self _)).trans HV0C.out.2.1,cell_later HK0.out HV0C.out.2.2⟩)
 clear hm;refine YO (n:=6) Tryz.func216 (by decide) (m+1) m (m+2) rfl s hs (by omega) (by omega) (by omega) (by omega) (by omega) bc.1 bc.2.1 bc.2.2.1 bc.2.2.2
  (fun k W'=>Below w.heap.size w W'∧(∀p ∈ (partsOf s).take k,JX p=false)∧W'.cell? ⟨w.heap.size,0,none⟩=some (.func (.func 217) #[] #[])∧X7 jq 148 (m+5) (w.heap.size+1) (zN Jr (partsOf s) k) W')
  (fun c W'=>c=[ju 2]∧Below w.heap.size w W'∧(partsOf s).any JX=true)
  (fun k W1 W2 h st=>⟨Below.st h.1 st (by omega) (by omega),h.2.1,jcc h.2.2.1 st (by omega) (by omega),h.2.2.2.st st (by omega) (by omega) (by omega)⟩) (fun k W' h=>HE.out.kept h.1) ⟨HB0.out,by simp,HC0.out.2.2,⟨_,HC0.out.1,HC0.out.2.1,Own.nil _ _ _⟩⟩
  (fun x=>{ tmps:=#[.string (bytes s),.func (.func 217) #[] #[],.func (.func 218) #[] #[],undef,.pointer (some ⟨w.heap.size,0,none⟩),undef,.slice none 0 0,.pointer (some ⟨w.heap.size+1,0,none⟩),.string x,undef,.string (bytes s),.bool false,.string (bytes s),.string (bytes s),
    .func (.func 301) #[] #[.pointer (some ⟨m+1,0,none⟩),.pointer (some ⟨m,0,none⟩),.pointer (some ⟨m+2,0,none⟩)],.string x,
    undef,undef,undef,undef,undef,undef,undef,undef,undef,undef,undef,undef,undef,undef,undef],defers:=[] }) ?assign ?body ?done ?panic
 case assign =>
  intro l x W' K hK;gi_wp2
  exact hK
 case panic =>
  rintro c W' ⟨rfl,hB',hbad⟩ hk';have HV:=lH (show Jj s=(2,[]) by unfold Jj Js;rw[if_neg HD0.out,if_pos hbad]);refine⟨by simp,.inl ⟨_,_,rfl,run_takeDeferred hk',?_⟩⟩;exact jw.bad (by rw[HV.out]) (by decide) (zn hB' (by omega))
 case body =>
  rintro l k p W' hp ⟨hB',hd',hfc,v,hvc',hvf',hvo⟩ hlt';have hmem:p ∈ partsOf s:=List.mem_of_getElem? hp;have HMEM:=lH hmem;have hpl:=HPL.out p hmem;have HE':=lH (HE.out.kept hB');have HB':=lH hB';have HD':=lH hd';have HP:=lH hp;have hvb:w.heap.size+1<W'.heap.size:=by rw[bsz] at hlt';omega
  have HLT:=lH (show m+5≤W'.heap.size by rw[bsz] at hlt';omega);have HHD:Hid ((boxes w1 s).heap.size=m+3):=lH bsz;by_cases hgood:JX p=false
  · have HGOOD:=lH hgood;obtain⟨x,y,bb,hxy⟩:∃x y bb,Jr p=(x,y,bb):=⟨_,_,_,rfl⟩
    have HXY:=lH hxy;have HCALL:=lH (jmF p W' HE'.out hpl hgood);rw[hxy] at HCALL;obtain⟨av,cv,rfl,q1,q2,q3⟩:=hvo.at_;obtain⟨n,hn⟩:∃n,(zN Jr (partsOf s) k).length=n:=⟨_,rfl⟩
    rw[hn] at hvo hvc';have HVO:=lH hvo;have HFC0:=lH hfc;have HN:=lH hn;have hn9:n≤9:=by
     have:=XG (f:=Jr) (show k≤(partsOf s).length from Nat.le_of_lt (List.getElem?_eq_some_iff.1 hp).1);omega
    clear bc bsz hB' hd' hp hmem hlt' q3 hvo hn q1 q2 hgood hxy;gi_wp2_with (refine⟨trivial,?_⟩;gi_at_call 217;refine(CallsIn.inRound l (callsIn_wide.2 HCALL.out)).mono ?_;rintro e W1 ⟨rfl,k1⟩;have K1':=lH k1;have hvc1:=cell_later k1 hvc';have hvf1:=(k1.frozen (p:=⟨w.heap.size+1,0,none⟩) hvb).trans hvf';have hm1:w.heap.size+1<W1.heap.size:=Nat.lt_of_lt_of_le hvb k1.size;clear k1 hvc' hvf' hfc;refine Hid.out ?_)
    refine lH ?_;by_cases h8:n≤8
    · obtain⟨i0,hi,hz0,hz1,hz2⟩:=info_parts joC;gi_wp2_with (gi_at_builtin;go_must (refine wpListIn_append_own _ rfl (.tmp 22) (.tmp 24) _ rfl (m+5) 148 i0 _ 3 40 Tryz.underlying40 hi hz0 hz1 hz2 rfl (by decide) _ n (jd jq (zN Jr (partsOf s) k)) rfl (((HVO.out.kept K1'.out).kept (jk W1 (.cells #[.string x,.string y,.bool bb] 148) (.cells #[.string x,.string y,.bool bb] 148))).row HN.out) ⟨W1.heap.size+1,0,none⟩ 1 1 [.string x,.string y,.bool bb] rfl rfl (jiN _ _ (.string x) (.string y) (.bool bb) _) (jap x y bb) (by unfold maxLen;omega) (by omega) (by rw[World.size_alloc,World.size_alloc];have:=HLT.out;have:=K1'.out.size;omega) ?_);intro v' w2 hown' hgrow _;refine Hid.out ?_)
      refine lH ?_;obtain⟨g',cap',rfl⟩:=ownsRow_succ hown';have KA:=lH (show Kept W' ((W1.alloc (.cells #[.string x,.string y,.bool bb] 148)).alloc (.cells #[.string x,.string y,.bool bb] 148)) from K1'.out.trans (jk W1 _ _));have hrow:∀r,(Value.slice av n cv).ownBlock=some r→m+5≤r:=fun r hr=>(HVO.out.1.lt r hr).1;have hbl:∀b,b<m+5→w2.heap[b]?=W'.heap[b]?:=fun b hb=>(hgrow.block b (Nat.lt_of_lt_of_le hb (Nat.le_trans HLT.out KA.out.size)) (fun e=>by have:=hrow b e.symm;omega)).trans (KA.out.block b (Nat.lt_of_lt_of_le hb HLT.out));have HBL:=lH hbl;have hvc2:w2.cell? ⟨w.heap.size+1,0,none⟩=some (.slice av n cv):=(World.cell?_of_block (a:=⟨w.heap.size+1,0,none⟩) (hgrow.block (w.heap.size+1) (by simp;omega) (fun e=>by have:=hrow _ e.symm;omega))).trans (cell_later (jk W1 _ _) hvc1);have hvf2:w2.frozen? ⟨w.heap.size+1,0,none⟩=false:=(World.frozen?_of_block (a:=⟨w.heap.size+1,0,none⟩) (hgrow.block (w.heap.size+1) (by simp;omega) (fun e=>by have:=hrow _ e.symm;omega))).trans (((jk W1 _ _).frozen (p:=⟨w.heap.size+1,0,none⟩) hm1).trans hvf1);have HOWN:=lH hown';have HGS:=lH (show Below w.heap.size w w2 from⟨hgrow.os.trans (KA.out.os.trans HB'.out.os),hgrow.tape.trans (KA.out.tape.trans HB'.out.tape),hgrow.output.trans (KA.out.output.trans HB'.out.output),Nat.le_trans HB'.out.size (Nat.le_trans KA.out.size hgrow.size),fun b hb=>(HBL.out b (by omega)).trans (HB'.out.block b hb)⟩);have HFC:=lH (show w2.cell? ⟨w.heap.size,0,none⟩=some (.func (.func 217) #[] #[]) from(World.cell?_of_block (a:=⟨w.heap.size,0,none⟩) (HBL.out w.heap.size (by omega))).trans HFC0.out);clear hvc1 hvf1 hown' hgrow hrow hbl hi hz0 hz1 hz2;gi_wp2
      refine⟨fun b hb=>?_,HGS.out.setCell (p:=⟨w.heap.size+1,0,none⟩) (by show w.heap.size≤w.heap.size+1;omega) _,Z6 HD'.out HP.out HGOOD.out,?_,⟨_,World.cell?_setCell_same' _ _ _ (by rw[hvc2];rfl),by rw[World.frozen?_setCell];exact hvf2,?_⟩⟩
      · have hbm:b<m+5∧b≠w.heap.size+1:=by have:=HHD.out;rcases hb with h | h | h | h | h<;>omega
        exact(Below.heap_setCell w2 ⟨w.heap.size+1,0,none⟩ _ b hbm.2).trans (HBL.out b hbm.1)
      · rw[World.cell?_setCell_other _ _ _ _ (by intro e;injection e with e;omega)];exact HFC.out
      · have hl:(zN Jr (partsOf s) (k+1)).length=n+1:=by rw[JD HP.out (by rw[HN.out];exact h8),List.length_append,HN.out];rfl
        have ho:Own jq 148 w2 (m+5) (.slice (some ⟨g',0,none⟩) (n+1) cap') (zN Jr (partsOf s) (k+1)):=by
         refine⟨?_,?_⟩
         · rw[hl,JD HP.out (by rw[HN.out];exact h8),jC,HXY.out];exact HOWN.out
         · rw[JD HP.out (by rw[HN.out];exact h8)];intro z hz;rcases List.mem_append.1 hz with g | g
           · exact HVO.out.2 z g
           · have:z=Jr p:=by simpa using g
             rw[this];exact jja hpl
        exact ho.setCell_below (a:=⟨w.heap.size+1,0,none⟩) (by show w.heap.size+1<m+5;omega) _
    · have HFULL:=lH (qO (f:=Jr) HP.out (by rw[HN.out];exact h8));have h9:8<n:=by omega
      have HQ1:=lH (cell_later (ja W1 (.cells #[.string x,.string y,.bool bb] 148)) hvc1);have HQ2:=lH (((ja W1 (.cells #[.string x,.string y,.bool bb] 148)).frozen (p:=⟨w.heap.size+1,0,none⟩) hm1).trans hvf1);have HFC:=lH (show (W1.alloc (.cells #[.string x,.string y,.bool bb] 148)).cell? ⟨w.heap.size,0,none⟩=some (.func (.func 217) #[] #[]) from cell_later (K1'.out.trans (ja W1 _)) HFC0.out);clear h8;gi_wp2
      refine⟨fun b hb=>?_,HB'.out.trans (Below.mono (Kept.trans K1'.out (ja W1 _)) HB'.out.size),Z6 HD'.out HP.out HGOOD.out,HFC.out,⟨.slice av n cv,HQ1.out,HQ2.out,?_⟩⟩
      · have hbm:b<m+5:=by have:=HHD.out;rcases hb with h | h | h | h | h<;>omega
        exact(Kept.trans K1'.out (ja W1 _)).block b (Nat.lt_of_lt_of_le hbm HLT.out)
      · rw[HFULL.out];exact HVO.out.kept (Kept.trans K1'.out (ja W1 _))
  · have HBAD:=lH (show JX p=true by simpa using hgood);clear bc bsz hB' hd' hp hmem hlt' hvo hvc' hvf' hgood;gi_wp2_with (refine⟨trivial,?_⟩;gi_at_call 217;refine(CallsIn.inRound l (callsIn_wide.2 (jk4 p _ HE'.out hpl HBAD.out))).mono ?_;rintro e W1 ⟨rfl,k1⟩;have K1':=lH k1;clear k1)
    refine⟨rfl,fun b hb=>?_,rfl,HB'.out.trans (Below.mono K1'.out HB'.out.size),?_⟩
    · have hbm:b<m+5:=by have:=HHD.out;rcases hb with h | h | h | h | h<;>omega
      exact K1'.out.block b (Nat.lt_of_lt_of_le hbm HLT.out)
    · rw[List.any_eq_true];exact⟨p,HMEM.out,HBAD.out⟩
 case done =>
  rintro W' ⟨hB',hd',hfc,v,hvc',hvf',hvo⟩ hk';have hany:(partsOf s).any JX=false:=by
   rw[List.any_eq_false];intro p hp;rw[hd' p (by simpa using hp)];decide
  have hacc:zN Jr (partsOf s) (partsOf s).length=((partsOf s).map Jr).take 9:=by unfold zN;rw[List.take_length]
  rw[hacc] at hvo;obtain⟨R,hR⟩:∃R,((partsOf s).map Jr).take 9=R:=⟨_,rfl⟩
  have HV:=lH (show Jj s=if Jg R≠0 then (Jg R,[]) else (0,R) by unfold Jj Js;rw[if_neg HD0.out,if_neg (by rw[hany];decide),hR]);rw[hR] at hvo;obtain⟨av,cv,rfl,q1,q2,q3⟩:=hvo.at_;have HVO:=lH hvo;have HCHK:=lH (fun W (k:Kept W' W)=>jd1 av R.length cv R W (q3.kept k) q1);have HDD:=lH hk';have HB':=lH hB';have HLT:=lH (show m+3<W'.heap.size by have:=(Array.getElem?_eq_some_iff.1 hk').1;rw[bsz] at this;exact this);have HBS:=lH bsz;have hvb:w.heap.size+1<W'.heap.size:=by have:=HLT.out;omega
  clear bc bsz hB' hd' hk' hvo q3 q1 q2 hR hacc hany hfc;refine j6 (n:=6) (wpIn_wide.2 ?_);have KD:=lH (Kept.drew W');have f1:=cell_later KD.out hvc';by_cases hc:Jg R=0
  · have HC:=lH hc;have HCW:=lH (HCHK.out _ KD.out);rw[hc] at HCW;clear hc;go_wp2;go_region_held3 (fun W=>W.cell? ⟨w.heap.size+1,0,none⟩=some (.slice av R.length cv)∧Kept W' W)
     (first | exact⟨f1,KD.out⟩ | exact⟨cell_later K1.out f1,KD.out.trans K1.out⟩)
     (first | (go_at_call 218;refine HCW.out.mono ?_;rintro e1 W1 ⟨rfl,k1⟩;have K1:=lH k1;clear k1) | (go_at_call 165;refine(ZI _ _).mono ?_;rintro e2 w2 ⟨rfl,rfl⟩))
    go_wp2;have K1':=lH (KD.out.trans K1.out);have e1:W1.heap[(boxes w1 s).heap.size]?=some (.deferred (some [])):=(K1'.out.block _ (by rw[HBS.out];exact HLT.out)).trans HDD.out;refine⟨by simp,.inl ⟨_,_,rfl,run_takeDeferred e1,?_⟩⟩;refine⟨_,results_tmp rfl _ _ _,?_⟩;refine jw.good (by rw[HV.out,if_neg (by rw[HC.out];decide)]) (by rw[HV.out,if_neg (by rw[HC.out];decide)];exact((HVO.out.kept K1'.out).put (by rw[HBS.out];omega) _).base_le (by omega)) ?_;exact zn (HB'.out.trans (Below.mono K1'.out HB'.out.size)) (by rw[HBS.out];omega)
  · have HC:=lH hc;have HCW:=lH (HCHK.out _ KD.out);clear hc;go_wp2;refine Code.wp_mono (Q:=fun e a W=>match e with | .panic c=>c=[ju (Jg R)]∧Kept W' W∧a.defers=[{ target:=.collected (boxes w1 s).heap.size,args:=#[] }] | _=>False) ?post ?_
    case post =>
     intro e a' W1 h
     cases e<;>try exact h.elim
     obtain⟨rfl,hk,hd⟩:=h;obtain⟨tm,df⟩:=a';dsimp only at hd;subst hd;have e1:W1.heap[(boxes w1 s).heap.size]?=some (.deferred (some [])):=(hk.block _ (by rw[HBS.out];exact HLT.out)).trans HDD.out;refine⟨by simp,.inl ⟨_,_,rfl,run_takeDeferred e1,?_⟩⟩;exact jw.bad (by rw[HV.out,if_pos HC.out]) HC.out (zn (HB'.out.trans (Below.mono hk HB'.out.size)) (by rw[HBS.out];omega))
    refine wp_region_held_drew (S:=fun W=>W.cell? ⟨w.heap.size+1,0,none⟩=some (.slice av R.length cv)∧Kept W' W) (by kernel_rfl) ⟨f1,KD.out⟩ (fun hHeld=>?_);refine tkI 0 ?_;refine tkI 1 ?_;refine tkI 2 ?_;try simp only[nP]
    refine rdH (rs:=[3]) (h:=AllReadyH.cons rfl (fun K hK=>?_) AllReadyH.nil);go_simp;refine HCW.out.mono ?_;rintro e1 W1 ⟨rfl,k1⟩;have K1:=lH k1;refine hK.out _ _ ⟨cell_later k1 f1,KD.out.trans k1⟩ (fun hHeld2=>?_);clear hK K k1;try simp only[nP]
    refine rdH (rs:=[4]) (h:=AllReadyH.cons rfl (fun K hK=>?_) AllReadyH.nil);go_simp;refine(jjc _ _ _ HC.out).mono ?_;rintro e2 w2 ⟨rfl,rfl⟩;first | exact⟨rfl,KD.out.trans K1.out⟩ | exact⟨rfl,rfl,KD.out.trans K1.out,rfl⟩ | exact⟨rfl,KD.out.trans K1.out,rfl⟩
end Go.Proofs.YthmddloeggdohaaGreatDoor
