/- C. -/
import Derived.Test.YtnfojaidmnccoaaGreatDoorG0
import Derived.RangeFuncNested
import Derived.RangeFuncBound
import Derived.Shelf.RegionOpen
import Derived.OwnWalkIn
import Derived.LoopNIn
import Derived.LoopIn
set_option linter.unusedVariables false
set_option maxRecDepth 100000
set_option maxHeartbeats 25600000
namespace Go.Proofs.YtnfojaidmnccoaaGreatDoor.Vec
open Go.RowKit
theorem X4 (C:Addr×Addr) (r:Int×V) (w:World) (hr:r.1≠0→r.2=[])
 (hk:∀W,Kept w W→Calls Tryz.prog 58 #[.pointer (some C.1),.pointer (some C.2)] W (jM r W.heap.size W)) :
 Calls Tryz.prog 54 #[.func (.func 58) #[] #[.pointer (some C.1),.pointer (some C.2)]] w (JJ r w):=by
 have hmf:=hmfL (P:=Tryz.prog);have HK:=lH hk;have HR:=lH hr;clear hk hr;obtain⟨r1,r2⟩:=r;go_enter_defers Tryz.func54,Tryz.ntmps54
 go_wp2_with fail
 refine(HK.out _ (jb _ _)).mono ?_;rintro e1 w1 ⟨h0,h1,hb⟩;have k1:=hb.size;simp only[World.size_alloc] at k1;have c2:=(hb.cell (p:=⟨w.heap.size,0,none⟩) (by simp))
 have z2:=(hb.frozen (p:=⟨w.heap.size,0,none⟩) (by simp))
 have e2':w1.cell? ⟨w.heap.size,0,none⟩=some (.int .i64 0):=by rw[c2];go_simp
 have y2:w1.frozen? ⟨w.heap.size,0,none⟩=false:=by rw[z2];go_simp
 clear c2 z2;have KB:=lH (show Below w.heap.size w w1 from(jb w _).trans hb);by_cases hx:r1=0
 · subst hx;obtain⟨v,rfl,ho⟩:=h0 rfl;have HO:=lH ho;obtain⟨av,cv,rfl,_,_,_⟩:=ho.at_;have hsz:=World.size_alloc w (.cells #[.int .i64 0] 38);clear h0 h1 hb ho;go_wp2_with fail
   refine leaves_cons (f:=80) (args:=#[.pointer (some ⟨w.heap.size,0,none⟩)]) (by simp) (by simp[go_sem]) ?_;refine(JH ⟨w.heap.size,0,none⟩ _).mono ?_;rintro e u' w'' ⟨rfl,rfl,rfl⟩;simp[Leaves,settle,results,Tryz.results54,go_sem,e2'];exact⟨_,rfl,(HO.out.setCell_below (a:=⟨w.heap.size,0,none⟩) (by simp) _).base_le (by simp),KB.out.setCell (p:=⟨w.heap.size,0,none⟩) (Nat.le_refl _) _⟩
 · obtain rfl:=h1 hx;obtain rfl:=HR.out hx;clear h0 h1 hb;go_wp2_with fail
   refine leaves_cons (f:=80) (args:=#[.pointer (some ⟨w.heap.size,0,none⟩)]) (by simp) (by simp[go_sem]) ?_;refine(zF w.heap.size w.heap.size r1 0 _ e2' y2 (by omega)).mono ?_;rintro e u' w'' ⟨rfl,rfl,q2,q3⟩;simp[Leaves,settle,results,Tryz.results54,go_sem,q2];exact⟨_,rfl,jt.nil _ _ _,KB.out.trans q3⟩
theorem XJ (C:Addr×Addr) (a:Option Addr) (len cap:Nat) (l:V) (n:Int) (w:World) (h1:w.cell? C.1=some (.slice a len cap)) (h2:w.cell? C.2=some (.int .i64 n))
 (hr:jJ w a len l) (hn:-9223372036854775808≤n) (hn':n≤9223372036854775807) :
 Calls Tryz.prog 58 #[.pointer (some C.1),.pointer (some C.2)] w (jM (jZ jE n l) w.heap.size w):=by
 have HR:=lH hr;clear hr;go_enter Tryz.func58,Tryz.ntmps58;go_wp2_with fail
 refine(jaj a len cap l n _ HR.out hn hn').mono ?_;rintro e w' ⟨g0,g1,k⟩;by_cases hx:(jZ jE n l).1=0
 · obtain⟨v,rfl,ho⟩:=g0 hx;obtain⟨HX,HO,HK⟩:=lH3 hx ho k;clear g0 g1 hx ho k;go_wp2;go_ret;exact jM.good HX.out HO.out HK.out
 · obtain rfl:=g1 hx;have HX:=lH hx;have HK:=lH k;clear g0 g1 hx k;go_wp2;exact⟨rfl,jM.bad rfl HX.out HK.out⟩
theorem YA (n:Int) (l:V):(jZ jE n l).1≠0→(jZ jE n l).2=[]:=by
 unfold jZ;split
 · exact fun _=>rfl
 · exact Zi _ _ _ _
theorem jbu (a:Option Addr) (len cap:Nat) (l:V) (n:Int) (w:World)
 (hr:jJ w a len l) (hn:-9223372036854775808≤n) (hn':n≤9223372036854775807) :
 Calls Tryz.prog 30 #[.slice a len cap,.int .i64 n] w (JJ (jZ jE n l) w):=by
 have hmf:=hmfL (P:=Tryz.prog);have hC:∀W,Kept ((w.alloc (.cells #[.slice a len cap] 23)).alloc (.cells #[.int .i64 n] 2)) W→Calls Tryz.prog 58 #[.pointer (some ⟨w.heap.size,0,none⟩),.pointer (some ⟨w.heap.size+1,0,none⟩)] W (jM (jZ jE n l) W.heap.size W):=by
  intro W k;have c1:=k.cell (p:=⟨w.heap.size,0,none⟩) (by simp;omega);have c2:=k.cell (p:=⟨w.heap.size+1,0,none⟩) (by simp);exact XJ (⟨w.heap.size,0,none⟩,⟨w.heap.size+1,0,none⟩) a len cap l n W (by rw[c1];go_simp) (by rw[c2];go_simp) (hr.kept ((jQ w _ _).trans k)) hn hn'
 have HC:=lH hC;clear hC hr;go_enter Tryz.func30,Tryz.ntmps30;go_wp2_with fail
 refine(X4 (⟨w.heap.size,0,none⟩,⟨w.heap.size+1,0,none⟩) (jZ jE n l) _ (YA n l) HC.out).mono ?_;rintro e w' ⟨v,rfl,ho,k⟩;have HO:=lH ho;have HK:=lH k;clear ho k;go_wp2;go_ret2
 exact⟨v,rfl,HO.out.base_le (by simp;omega),(jQ w _ _).trans HK.out⟩
end Go.Proofs.YtnfojaidmnccoaaGreatDoor.Vec
namespace Go.Proofs.YtnfojaidmnccoaaGreatDoor
open Go.RowKit
theorem all_cons {α:Type} (f:α→Bool) (x:α) (t:List α):(x::t).all f=(f x&&t.all f):=rfl
theorem jaz {α:Type} {l:List α} {k:Nat} {x:α} (h:l[k]?=some x):l.take (k+1)=l.take k++[x]:=by rw[List.take_add_one,h];rfl
theorem Own.snoc {α:Type} {L:Lay α} {e:TypeId} {w:World} {base n:Nat} {v:Value} {l:List α} {x:α} (h:w.ownsRow base e L.m v n (jg L l++L.cs x)) (hn:l.length+1=n) (hf:∀z ∈ l,L.fine z) (hx:L.fine x):Own L e w base v (l++[x]):=by
 refine⟨?_,fun z hz=>?_⟩
 · rw[List.length_append,ze];show w.ownsRow base e L.m v (l.length+1) (jg L l++jg L [x]);rw[hn];have e:jg L [x]=L.cs x:=by unfold jg;simp
   rw[e];exact h
 · rcases List.mem_append.1 hz with g | g
   · exact hf z g
   · have:z=x:=by simpa using g
     rw[this];exact hx
def Got {α:Type} (L:Lay α) (c:Int) (l:List α) (w:World) (e:Ending) (w':World):Prop:=∃v,e=.returned (.tuple #[v,.int .i64 c])∧Reads L w' v l∧Kept w w'
def Say (v:Value) (w:World) (e:Ending) (w':World):Prop:=e=.returned v∧Kept w w'
theorem Reads.nil {α:Type} {L:Lay α} (w:World):Reads L w (.slice none 0 0) []:=⟨none,0,rfl,Nat.le_refl _,by decide,jT.nil w none⟩
theorem Reads.fine {α:Type} {L:Lay α} {v:Value} {l:List α} {w:World} (h:Reads L w v l):∀x ∈ l,L.fine x:=by
 obtain⟨a,cap,rfl,h1,h2,h3⟩:=h;exact h3.2.2.1
theorem jT.part {α:Type} {L:Lay α} {w:World} {b off len:Nat} {l:List α} (h:jT L w (some ⟨b,off,none⟩) len l) (i n:Nat) (hi:i+n≤len) :
 jT L w (some ⟨b,off+i*L.m,none⟩) n ((l.drop i).take n):=by
 obtain⟨h0,h1,h2,h3⟩:=h;refine⟨by rw[List.length_take,List.length_drop];omega,by omega,fun x hx=>h2 x (List.mem_of_mem_drop (List.mem_of_mem_take hx)),?_⟩;rcases h3 with h3 | ⟨b',off',e,hb,hc⟩
 · exact .inl (by omega)
 · injection e with e;injection e with e1 e2 e3;subst e1;subst e2;refine .inr ⟨b,_,rfl,hb,fun k x j u hk hj=>?_⟩;have hkn:k<n:=by have:=(List.getElem?_eq_some_iff.1 hk).1;rw[List.length_take] at this;omega
   have hk':l[i+k]?=some x:=by
    rw[List.getElem?_take,if_pos hkn,List.getElem?_drop] at hk;exact hk
   have:=hc (i+k) x j u hk' hj;rw[show off+i*L.m+k*L.m+j=off+(i+k)*L.m+j by rw[Nat.add_mul];omega];exact this
theorem jb1:(Tryz.prog.info? 9).map (fun i=>(i.zero,i.size,i.bytes))=some (some (.string ByteArray.empty),1,16):=by kernel_rfl
theorem Xk {w w':World} {base n:Nat} {e:TypeId} {m:Nat} {v:Value} {xs:List Value} (h:w.ownsRow base e m v n xs) (k:Kept w w'):w'.ownsRow base e m v n xs:=by
 obtain⟨h0,h1⟩:=h;refine⟨h0,h1.imp id ?_⟩;rintro ⟨g,cap,cur,rfl,hbg,hg,hn,hm,hs,ht⟩;refine⟨g,cap,cur,rfl,hbg,?_,hn,hm,hs,ht⟩;have hlt:g<w.heap.size:=by
  rcases Nat.lt_or_ge g w.heap.size with hlt | hge
  · exact hlt
  · rw[Array.getElem?_eq_none hge] at hg;cases hg
 exact(k.block g hlt).trans hg
theorem jaS {w:World} {base p n cap:Nat} {e:TypeId} {xs:List ByteArray} (h:w.ownsRow base e 1 (.slice (some ⟨p,0,none⟩) n cap) n (xs.map Value.string)) :
 ∀(j:Nat) x,xs[j]?=some x→w.cell? ⟨p,0+j,none⟩=some (.string x):=by
 intro j x hx;have:=h.cells (g:=p) rfl j (.string x) (by simp[hx]);rw[←this];congr 1
 unfold Addr.add;split<;>simp_all
theorem JU {w:World} {base p n cap:Nat} {e:TypeId} {xs:List Value} (h:w.ownsRow base e 1 (.slice (some ⟨p,0,none⟩) n cap) n xs) {k:Nat} {u:Value} (hk:xs[k]?=some u):w.cell? ⟨p,k,none⟩=some u:=by
 have:=h.cells (g:=p) rfl k u hk;rw[←this];congr 1
 unfold Addr.add;split<;>simp_all
def qU (ts:List ByteArray):ByteArray:=⟨(Lib.join (ts.map (·.data.toList)) [44]).toArray⟩
theorem zP (x y:List UInt8) (t:List (List UInt8)):Lib.join (x::y::t) [44]=x++[44]++Lib.join (y::t) [44]:=by simp[Lib.join,List.intercalate]
theorem jas (b:UInt8) (p:List UInt8) (ps:List (List UInt8)):Lib.join ((b::p)::ps) [44]=b::Lib.join (p::ps) [44]:=by
 cases ps with
 | nil=>rw[Lib.join_one,Lib.join_one]
 | cons q qs=>rw[zP,zP];rfl
open Go
def qJ (P:Program) (l:Nat) (R:Ending→World→Prop):Exit→Act→World→Prop
 | .panic chain,a,w=>a.defers=[]∧R (.panicked chain) w
 | .outgrown,_,_=>False
 | .normal,_,w=>∃v w',(Instr.endRound l none).run P w=.ok v w'∧R (.returned v) w'
 | _,_,_=>False
theorem zi {F:Fence} {n:Nat} {P:Program} {l:Nat} {f:FuncId} {fn:Func} {tmps:Array Value} {assign body:Code} {w:World} {R:Ending→World→Prop} (hF:F.fn f) (hfn:P.funcs[f]?=some fn)
 (h:assign.wpIn (F.inRound l) n P (Exit.then (fun a₁ w₁=>∃w₂,(Instr.beginRound l).run P w₁=.ok () w₂∧body.wpIn (F.inRound l) n P (qJ P l R) a₁ w₂) (fun _ _ _=>False))
   { tmps:=tmps,defers:=[] } w) :
 RoundIn F n P l f tmps assign body w R:=by
 refine⟨hF,fun c cs hr=>?_⟩;let b:Frame:={ (default:Frame) with fn:=f,kind:=.normal,roundOf:=some l }
 have hb0:Frame.round l f tmps assign body .normal=b.atR { tmps:=tmps,defers:=[] } [.code assign,.beginRound,.code body]:=by
  simp[Frame.round,Frame.atR,b]
 have hr':(F.inRound l).room ((c::cs).length+1+n):=hr;have hF':(F.inRound l).fn b.fn:=hF;obtain⟨e,a₁,w₁,hq,harr⟩:=h b [.beginRound,.code body] (c::cs) rfl hF' hr';rw[←hb0] at harr
 cases e with
 | normal =>
  obtain⟨w₂,hbr,hbody⟩:=hq
  have s1:StepsIn (Machine.fenced P (F.inRound l)) P (lone (b.atR a₁ [.beginRound,.code body]) (c::cs) w₁) (lone (b.atR a₁ [.code body]) (c::cs) w₂) :=
   .one (fenced_calm (fr:=b.atR a₁ [.beginRound,.code body]) hF' hr' rfl) (stepR_beginRound rfl hbr)
  obtain⟨e₂,a₂,w₃,hq₂,harr₂⟩:=hbody b [] (c::cs) rfl hF' hr'
  cases e₂ with
  | normal =>
   obtain⟨v,w₄,hend,hR⟩:=hq₂;exact⟨.returned v,w₄,hR,(StepsIn.trans harr s1).trans (StepsIn.trans harr₂ (.one (fenced_calm (fr:=b.atR a₂ []) hF' hr' rfl) (stepR_round_end rfl rfl hend)))⟩
  | ret=>exact hq₂.elim
  | exit id=>exact hq₂.elim
  | goto t=>exact hq₂.elim
  | panic chain =>
   obtain⟨hd,hR⟩:=hq₂;obtain⟨todo,hs⟩:=harr₂;have hl:({ b.atR a₂ todo with mode:=.panicking chain }:Frame).leaving P w₃ (.panicked chain):=⟨rfl,hd,fn,hfn⟩
   exact⟨.panicked chain,w₃,hR,(StepsIn.trans harr s1).trans (StepsIn.trans hs (.one (fenced_leaving (n:=n) (F:=F.inRound l) hF' hr' hl) (step_leave_panicked hl)))⟩
  | outgrown=>exact hq₂.elim
 | exit id=>exact hq.elim
 | goto t=>exact hq.elim
 | ret=>exact hq.elim
 | panic chain=>exact hq.elim
 | outgrown=>exact hq.elim
open Go.RowKit Go.Shelf
def bytes (l:List UInt8):ByteArray:=⟨l.toArray⟩
def partsOf:List UInt8→List (List UInt8)
 | []=>[[]]
 | c::t =>
  if c=44 then []::partsOf t
  else match partsOf t with
   | []=>[[c]]
   | p::ps=>(c::p)::ps
theorem JA (c:UInt8) (t:List UInt8):partsOf (c::t)=if c=44 then []::partsOf t else match partsOf t with
 | []=>[[c]]
 | p::ps=>(c::p)::ps:=rfl
theorem zA (l:List UInt8):partsOf l≠[]:=by
 cases l with
 | nil=>simp[partsOf]
 | cons c t=>unfold partsOf;split;simp;split<;>simp
theorem ZL (c:UInt8) (t:List UInt8):Lib.index (c::t) [44]=if c=44 then 0 else if Lib.index t [44]==-1 then -1 else Lib.index t [44]+1:=by
 rw[Lib.index];by_cases h:c=44
 · subst h;rfl
 · rw[if_neg h,if_neg (by simp[List.isPrefixOf];exact fun e=>h e.symm)]
theorem Yf:∀(l:List UInt8),Lib.index l [44]<0→partsOf l=[l]
 | [],_=>rfl
 | c::t,h=>by
  rw[ZL] at h;by_cases hc:c=44
  · rw[if_pos hc] at h;omega
  · rw[if_neg hc] at h;have ht:Lib.index t [44]<0:=by
     split at h
     · rename_i e;have:Lib.index t [44]=-1:=by simpa using e
       omega
     · omega
    unfold partsOf;rw[if_neg hc,Yf t ht]
theorem Yg:∀(l:List UInt8) (i:Nat),Lib.index l [44]=(i:Int)→i<l.length∧partsOf l=l.take i::partsOf (l.drop (i+1))
 | [],i,h=>by simp[Lib.index] at h
 | c::t,i,h=>by
  rw[ZL] at h;by_cases hc:c=44
  · rw[if_pos hc] at h;obtain rfl:i=0:=by omega
    refine⟨by simp,?_⟩;rw[JA,if_pos hc];rfl
  · rw[if_neg hc] at h;split at h
    · omega
    · rename_i e;have hge:=Lib.index_ge t [44];have hne:Lib.index t [44]≠-1:=by simpa using e
      obtain⟨j,hj⟩:=Int.eq_ofNat_of_zero_le (show 0≤Lib.index t [44] by omega);obtain⟨h1,h2⟩:=Yg t j hj;obtain rfl:i=j+1:=by omega
      refine⟨by simpa using h1,?_⟩;rw[partsOf,if_neg hc,h2];simp
def Xs (b1 b2 b3:Nat) (W W':World):Prop :=
 ∀b,b=b1∨b=b2∨b=b3→W'.cell? ⟨b,0,none⟩=W.cell? ⟨b,0,none⟩∧W'.frozen? ⟨b,0,none⟩=W.frozen? ⟨b,0,none⟩
def Yo (w:World) (b:Nat):Nat:=match w.cell? ⟨b,0,none⟩ with
 | some (.string s)=>s.size
 | _=>0
structure ja8 (F:Fence) (n:Nat) (l b1 b2 b3:Nat) (ps:List (List UInt8)) (J:Nat→World→Prop) (Jp:List PanicEntry→World→Prop):Prop where
 yields:∀(k:Nat) (p:List UInt8) (W:World),ps[k]?=some p→J k W→YieldAt F (n-1) Tryz.prog l #[.string (bytes p)] W fun e W' =>
  (e=.returned (.bool true)∧J (k+1) W'∧Xs b1 b2 b3 W W')∨(∃c,e=.panicked c∧Jp c W')
 store:∀(k:Nat) (W:World) (s:ByteArray),J k W→J k (W.setCell ⟨b2,0,none⟩ (.string s))
 drew:∀(k:Nat) (W:World) (n:Nat),J k W→J k (W.drewN n)
 env:∀(k:Nat) (W:World),J k W→∃m,W.cell? ⟨3,0,none⟩=some (.int .i64 m)
def Z8 (N:Nat) (J:Nat→World→Prop) (Jp:List PanicEntry→World→Prop) (e:Ending) (w':World):Prop :=
 ((∃v,e=.returned v)∧J N w')∨(∃c,e=.panicked c∧Jp c w')
theorem qK (n:Nat) (hn:1≤n) (l b1 b2 b3:Nat) (s:List UInt8) (hs:s.length≤1000000) (J:Nat→World→Prop) (Jp:List PanicEntry→World→Prop)
 (hY:ja8 Fence.wide n l b1 b2 b3 (partsOf s) J Jp) (h12:b1≠b2) (h32:b3≠b2) (W:World)
 (c1:W.cell? ⟨b1,0,none⟩=some (.string ⟨#[44]⟩)) (c2:W.cell? ⟨b2,0,none⟩=some (.string (bytes s))) (c3:W.cell? ⟨b3,0,none⟩=some (.int .i64 0))
 (z2:W.frozen? ⟨b2,0,none⟩=false) (h0:J 0 W) :
 CallsIn Fence.wide n Tryz.prog 128 #[.func (.yield l) #[] #[],.pointer (some ⟨b1,0,none⟩),.pointer (some ⟨b2,0,none⟩),.pointer (some ⟨b3,0,none⟩)] W (Z8 (partsOf s).length J Jp):=by
 have HY:=lH hY;have H0:=lH h0;clear hY h0;refine callsIn_of_wp Tryz.func128 rfl trivial ?_ rfl;simp only[Tryz.ntmps128,List.size_toArray,List.length_cons,List.length_nil,Nat.reduceAdd,Nat.reduceSub,Array.replicate_succ,Array.replicate_zero,List.push_toArray,List.append_toArray,List.nil_append,List.cons_append];gi_wp2
 gi_loopw [7] (fun i wr=>∃(k:Nat) (rest:List UInt8),partsOf rest=(partsOf s).drop k∧rest.length≤s.length∧wr.cell? ⟨b1,0,none⟩=some (.string ⟨#[44]⟩)∧wr.cell? ⟨b2,0,none⟩=some (.string (bytes rest))∧wr.cell? ⟨b3,0,none⟩=some (.int .i64 0)∧wr.frozen? ⟨b2,0,none⟩=false∧J k wr)
  (fun i wr=>Yo wr b2)
 case atStart=>exact⟨0,s,rfl,Nat.le_refl _,c1,c2,c3,z2,H0.out⟩
 case round =>
  obtain⟨k,rest,hp,hl,c1,c2,c3,z2,hJ⟩:=hrel;have HJ:=lH hJ;have HP:=lH hp;have hl6:rest.length≤1000000:=Nat.le_trans hl hs;have hsz:(bytes rest).size=rest.length:=by simp[bytes,ByteArray.size]
  have Vy:=lH hsz;obtain⟨m,hm⟩:=HY.out.env k wr hJ;by_cases hix:Lib.index rest [44]<0
  · have hone:=Yf rest hix;have IX:=lH (show Calls Tryz.prog 127 #[.string (bytes rest),.string ⟨#[44]⟩] wr fun e w'=>e=.returned (.int .i64 (Lib.index rest [44]))∧w'=wr from Tryz.strings_Index (bytes rest) ⟨#[44]⟩ m wr (by omega) hm);have hk:(partsOf s)[k]?=some rest:=by
     have:=congrArg (fun x=>x[0]?) hp;rw[hone] at this;simpa using this.symm
    have HN:=lH (show k+1=(partsOf s).length by
     have:=congrArg List.length hp;rw[hone,List.length_drop] at this;simp only[List.length_cons,List.length_nil] at this;omega)
    obtain⟨fn,tmps,assign,body,hy,hR⟩:=HY.out.yields k rest wr hk hJ;have HR:=lH hR;obtain⟨ix,hixe⟩:=eX (Lib.index rest [44])
    rw[hixe] at IX hix;clear hm hJ hp hone hk hR hsz hixe;gi_wp2_with (refine⟨trivial,?_⟩;gi_at_call 127;refine(callsIn_wide.2 IX.out).mono ?_;rintro e w' ⟨rfl,rfl⟩)
    refine HR.out.mono ?_;rintro e W' (⟨rfl,hJ',hk'⟩ | ⟨c,rfl,hp'⟩)
    · have HJ':=lH hJ';clear hJ' hk';gi_wp2
      go_end0
      exact .inl ⟨⟨_,rfl⟩,by rw[←HN.out];exact HJ'.out⟩
    · have HP':=lH hp';clear hp';gi_wp2
      exact⟨rfl,.inr ⟨c,rfl,HP'.out⟩⟩
  · obtain⟨i,hi⟩:=Int.eq_ofNat_of_zero_le (show 0≤Lib.index rest [44] by omega);obtain⟨hlt,hsome⟩:=Yg rest i hi;have IX:=lH (show Calls Tryz.prog 127 #[.string (bytes rest),.string ⟨#[44]⟩] wr fun e w'=>e=.returned (.int .i64 (i:Int))∧w'=wr by
     have:=Tryz.strings_Index (bytes rest) ⟨#[44]⟩ m wr (by omega) hm;rw[show Lib.index (bytes rest).data.toList [44]=(i:Int) from hi] at this;exact this)
    have hk:(partsOf s)[k]?=some (rest.take i):=by
     have:=congrArg (fun x=>x[0]?) hp;rw[hsome] at this;simpa using this.symm
    have HN:=lH (show partsOf (rest.drop (i+1))=(partsOf s).drop (k+1) by
     have:=congrArg (fun x=>x.drop 1) hp;rw[hsome] at this;simpa [List.drop_drop] using this)
    obtain⟨fn,tmps,assign,body,hy,hR⟩:=HY.out.yields k (rest.take i) wr hk hJ;have HR:=lH hR;have hfrag:(bytes rest).extract 0 i=bytes (rest.take i):=by
     apply Go.WideShapes.bytes_inj;simp[bytes,ByteArray.data_extract]
    have hrest:(bytes rest).extract (i+1) rest.length=bytes (rest.drop (i+1)):=by
     apply Go.WideShapes.bytes_inj;simp[bytes,ByteArray.data_extract,List.take_of_length_le]
    have Vf:=lH hrest;have Td:=lH HY.out.store;clear hm hJ hp hsome hk hR hix hi hrest;have hi1:(i:Int)≤((bytes rest).size:Int):=by rw[hsz];omega
    gi_wp2_with (refine⟨trivial,?_⟩;gi_at_call 127;refine(callsIn_wide.2 IX.out).mono ?_;rintro e w' ⟨rfl,rfl⟩)
    refine HR.out.mono ?_;rintro e W' (⟨rfl,hJ',hk'⟩ | ⟨c,rfl,hp'⟩)
    · have HJ':=lH hJ';obtain⟨d1,y1⟩:=hk' b1 (.inl rfl);obtain⟨d2,y2⟩:=hk' b2 (.inr (.inl rfl));obtain⟨d3,y3⟩:=hk' b3 (.inr (.inr rfl));have e1:=d1.trans c1;have e2:=d2.trans c2;have e3:=d3.trans c3;have x2:=y2.trans z2;have hsz':=Vy.out;have hrest:=Vf.out;have hi2:((i:Int)+1)≤((bytes rest).size:Int):=by rw[hsz'];omega
      have hi3:((i:Int)+1).toNat=i+1:=by omega
      obtain⟨E1,E2,E3,X2,C2⟩:=lH5 e1 e2 e3 x2 c2;clear hJ' hk' d1 d2 d3 y1 y2 y3 c1 c2 c3 z2;gi_wp2
      go_roundw
      case rel =>
       exact⟨k+1,rest.drop (i+1),HN.out,by rw[List.length_drop];omega,
        by rw[World.cell?_setCell_other _ _ _ _ (by intro e;injection e with e;exact h12 e.symm)];exact E1.out,
        World.cell?_setCell_same' _ _ _ (by rw[E2.out];rfl),
        by rw[World.cell?_setCell_other _ _ _ _ (by intro e;injection e with e;exact h32 e.symm)];exact E3.out,
        by rw[World.frozen?_setCell];exact X2.out,Td.out _ _ _ HJ'.out⟩
      case measure =>
       unfold Yo;rw[World.cell?_setCell_same' _ _ _ (by rw[E2.out];rfl),C2.out];simp[bytes,ByteArray.size];omega
    · have HP':=lH hp';clear hp';gi_wp2
      exact⟨rfl,.inr ⟨c,rfl,HP'.out⟩⟩
structure Env (w:World):Prop where
 most:∃m,w.cell? ⟨3,0,none⟩=some (.int .i64 m)
theorem Env.kept {w w':World} (h:Env w) (k:Kept w w'):Env w':=by
 obtain⟨m,hm⟩:=h;exact⟨m,cell_later k hm⟩
theorem jn (p:List UInt8):(bytes p).size=p.length:=by simp[bytes,ByteArray.size]
theorem Xc (p:List UInt8):(bytes p).toList=p:=by rw[Lib.toList_data];simp[bytes]
theorem JX (c:UInt8) (p:List UInt8) (w:World) (hE:Env w) (hp:p.length≤1000000) :
 Calls Tryz.prog 132 #[.string (bytes p),.string ⟨#[c]⟩] w fun e w'=>e=.returned (.tuple #[.string (bytes (Lib.cut p [c]).1),.string (bytes (Lib.cut p [c]).2.1),.bool (Lib.cut p [c]).2.2])∧∃n,w'=w.drewN n:=by
 obtain⟨m,hm⟩:=hE.most;exact Tryz.strings_Cut (bytes p) ⟨#[c]⟩ m w (by rw[jn];omega) hm
theorem YD (s:ByteArray) (w:World) (h:s.size≤281474976710656) :
 Calls Tryz.prog 74 #[.string s] w fun e w'=>e=.returned (.string s)∧Kept w w':=by
 go_enter Tryz.func74,Tryz.ntmps74;go_wp2_with fail
 refine(Tryz.stringslite_Clone s _ h).mono ?_;rintro e w' ⟨rfl,k⟩;go_wp2;go_ret;exact⟨rfl,k⟩
theorem jco (p q:List UInt8):(Lib.cut p q).1.length≤p.length∧(Lib.cut p q).2.1.length≤p.length:=by
 unfold Lib.cut;split
 · simp;omega
 · simp
def zG (fid:FuncId) (P:Program) (c:Code) (Q:Exit→Act→World→Prop) (a:Act) (w:World):Prop :=
 ∀(b:Frame) (k:List Item) (cs:List Frame),b.fn=fid→b.roundOf=none →
  ∃e a' w',Q e a' w'∧ArrivesIn (Machine.fenced P Fence.wide) P (lone (b.atR a (.code c::k)) cs w) b k cs e a' w'
section
variable {fid:FuncId} {P:Program} {Q:Exit→Act→World→Prop} {a:Act} {w:World}
theorem jK {n:Nat} {c:Code} (h:c.wpIn Fence.wide n P Q a w):zG fid P c Q a w :=
 fun b k cs _ hro=>h b k cs hro trivial (room_wide _)
theorem jy {x y:Code} (h:zG fid P x (Exit.then (zG fid P y Q) Q) a w):zG fid P (Code.seq x y) Q a w:=by
 intro b k cs hb hro;obtain⟨e,a₁,w₁,hq,harr⟩:=h b (.code y::k) cs hb hro;have h0:=StepsIn.one (I:=Machine.fenced P Fence.wide) (fenced_wide P _) (stepR_seq (P:=P) (b:=b) (a:=a) (k:=k) (cs:=cs) (w:=w) (x:=x) (y:=y))
 cases e with
 | normal =>
  obtain⟨e₂,a₂,w₂,hq₂,harr₂⟩:=hq b k cs hb hro;exact⟨e₂,a₂,w₂,hq₂,.of_steps (h0.trans harr) harr₂⟩
 | exit id=>exact⟨_,a₁,w₁,hq,.of_steps h0 (.pass (x:=.code y) rfl (fun _ _=>.inl (by simp)) harr)⟩
 | goto l=>exact⟨_,a₁,w₁,hq,.of_steps h0 (.pass (x:=.code y) rfl (fun _ _=>.inl (by simp)) harr)⟩
 | ret=>exact⟨_,a₁,w₁,hq,.of_steps h0 (.pass (x:=.code y) rfl (fun _ _=>.inl (by simp)) harr)⟩
 | panic ch=>exact⟨_,a₁,w₁,hq,.of_steps h0 (.pass (x:=.code y) rfl (fun _ _=>.inl (by simp)) harr)⟩
 | outgrown=>exact⟨_,a₁,w₁,hq,.of_steps h0 (.pass (x:=.code y) rfl (fun _ _=>.inl (by simp)) harr)⟩
def jaM (Q:Exit→Act→World→Prop):Exit→Act→World→Prop
 | .normal,a,w=>Q .normal a w
 | .panic c,a,w=>Q (.panic c) a w
 | _,_,_=>False
theorem Jt {id:Nat} {c:Code} (h:zG fid P c (jaM Q) a w):zG fid P (Code.block id c) Q a w:=by
 intro b k cs hb hro;obtain⟨e,a₁,w₁,hq,harr⟩:=h b (.inBlock id::k) cs hb hro;have h0:=StepsIn.one (I:=Machine.fenced P Fence.wide) (fenced_wide P _) (stepR_block (P:=P) (b:=b) (a:=a) (k:=k) (cs:=cs) (w:=w) (id:=id) (c:=c))
 cases e with
 | normal=>exact⟨.normal,a₁,w₁,hq,(h0.trans harr).trans (.one (fenced_wide P _) stepR_inBlock)⟩
 | panic ch=>obtain⟨todo,hs⟩:=harr;exact⟨.panic ch,a₁,w₁,hq,todo,h0.trans hs⟩
 | exit id=>exact hq.elim
 | goto l=>exact hq.elim
 | ret=>exact hq.elim
 | outgrown=>exact hq.elim
def XO (P:Program) (l:Nat) (Q:Exit→Act→World→Prop) (a':Act):Ending→World→Prop
 | .returned _,w₃=>∃w₄,(Instr.endLoop l).run P w₃=.ok none w₄∧Q .normal a' w₄
 | .panicked chain,w₃=>Q (.panic chain) a' w₃
 | .outgrown,_=>False
theorem zZ {n:Nat} {g:Operand} {ps:Array Tmp} {assign body:Code} {l:Nat} {mark:List Deferred} {w₁:World} {d:Deferred} {f:FuncId} {args:Array Value}
 (he:(Instr.enterLoop fid a.tmps ps assign body none).run P w=.ok (l,mark) w₁) (hres:(resolve a.eval (rangeCall g l) 0).run P w₁=.ok d w₁) (hinv:(invoke d.target d.args).run P w₁=.ok (.enter f args) w₁)
 (hcall:CallsIn Fence.wide n P f args w₁ (XO P l Q { a with defers:=mark++a.defers })):zG fid P (Code.rangeFunc g ps assign body) Q a w:=by
 intro b k cs hb hro;have henter:=stepR_rangeFunc (P:=P) (b:=b) (a:=a) (k:=k) (cs:=cs) (w:=w) (by rw[hb,hro];exact he) hres hinv;obtain⟨e,w₃,fr,hR,hsteps,hfn,hleave⟩:=hcall.2 (b.atR { a with defers:=mark++a.defers } (.inRangeFunc l::k)::cs) (room_wide _)
 cases e with
 | outgrown=>exact hR.elim
 | returned v =>
  obtain⟨w₄,hend,hq⟩:=hR;have back:=step_leave_returned (c:=b.atR { a with defers:=mark++a.defers } (.inRangeFunc l::k)) (cs:=cs) hleave;rw[finish_atR_inRangeFunc] at back;exact⟨.normal,_,w₄,hq,.head (fenced_wide P _) henter (StepsIn.trans hsteps (.head (fenced_wide P _) back (.one (fenced_wide P _) (stepR_endRangeFunc (jump:=none) hend))))⟩
 | panicked chain =>
  have back:=step_leave_panicked (c:=b.atR { a with defers:=mark++a.defers } (.inRangeFunc l::k)) (cs:=cs) hleave;rw[Frame.raise_atR] at back;exact⟨.panic chain,_,w₃,hR,.inRangeFunc l::k,.head (fenced_wide P _) henter (StepsIn.trans hsteps (.one (fenced_wide P _) back))⟩
theorem zE {n:Nat} {fn:Func} {c:Code} {args:Array Value} {R:Ending→World→Prop} (hf:P.funcs[fid]?=some fn) (hb:fn.body=some c)
 (h:zG fid P c (bodyPostM Fence.wide n P fn R) { tmps:=args++Array.replicate (fn.ntmps-args.size) undef,defers:=[] } w):Calls P fid args w R:=by
 refine(callsIn_wide (n:=n)).1 ⟨trivial,fun cs _=>?_⟩;let b:Frame:={ (default:Frame) with fn:=fid,kind:=.normal,roundOf:=none }
 have henter:Frame.enter P fid args .normal=b.atR { tmps:=args++Array.replicate (fn.ntmps-args.size) undef,defers:=[] } [.code c]:=by
  simp[Frame.enter,Frame.atR,hf,hb,b]
 obtain⟨e,a',w',hq,harr⟩:=h b [] cs rfl rfl;rw[←henter] at harr
 cases e with
 | normal =>
  obtain⟨e',w'',fr',hR,hs,hfn,hl⟩:=leaves_stepsInM (F:=Fence.wide) (n:=n) a'.defers .returning w' { b.atR a' [] with mode:=.returning } cs rfl rfl rfl hf rfl trivial (room_wide _) hq;exact⟨e',w'',fr',hR,ComesIn.of_steps (StepsIn.trans harr (.one (fenced_wide P _) (stepR_end rfl))) hs,hfn,hl⟩
 | ret =>
  obtain⟨todo,hs₀⟩:=harr.1 rfl;obtain⟨e',w'',fr',hR,hs,hfn,hl⟩:=leaves_stepsInM (F:=Fence.wide) (n:=n) a'.defers .returning w' { b.atR a' todo with mode:=.returning } cs rfl rfl rfl hf rfl trivial (room_wide _) hq;exact⟨e',w'',fr',hR,ComesIn.of_steps hs₀ hs,hfn,hl⟩
 | panic chain =>
  obtain⟨todo,hs₀⟩:=harr;obtain⟨e',w'',fr',hR,hs,hfn,hl⟩:=leaves_stepsInM (F:=Fence.wide) (n:=n) a'.defers (.panicking chain) w' { b.atR a' todo with mode:=.panicking chain } cs rfl rfl rfl hf rfl trivial (room_wide _) hq;exact⟨e',w'',fr',hR,ComesIn.of_steps hs₀ hs,hfn,hl⟩
 | exit id=>exact hq.elim
 | goto l=>exact hq.elim
 | outgrown=>exact⟨.outgrown,w',b,hq,harr.resolve_left (by simp[b]),rfl,trivial⟩
end
end Go.Proofs.YtnfojaidmnccoaaGreatDoor
namespace Go.Proofs.YtnfojaidmnccoaaGreatDoor
open Go.RowKit Go.Shelf
attribute [local go_sem] Oper.semAt_some
structure St (b2 D:Nat) (W W':World):Prop where
 os:W'.os=W.os
 tape:W'.tape=W.tape
 output:W'.output=W.output
 size:W.heap.size≤W'.heap.size
 block:∀b,b≠b2→b≠D→b≠D+1→W'.heap[b]?=W.heap[b]?
theorem St.setCell {b2 D:Nat} (W:World) (v:Value):St b2 D W (W.setCell ⟨b2,0,none⟩ v) :=
 ⟨rfl,rfl,rfl,by show W.heap.size≤(W.heap.modify _ _).size;rw[Array.size_modify];exact Nat.le_refl _,fun b h _ _=>Below.heap_setCell W ⟨b2,0,none⟩ v b h⟩
theorem St.drewN {b2 D:Nat} (W:World) (n:Nat):St b2 D W (W.drewN n):=⟨rfl,rfl,rfl,Nat.le_refl _,fun _ _ _ _=>rfl⟩
theorem St.put {b2 D:Nat} (W:World) (o:Obj):St b2 D W (W.putObj (D+1) o):=⟨rfl,rfl,rfl,by simp,fun b _ _ h=>World.putObj_heap_other h⟩
theorem St.begin (b2:Nat) (W:World) (o o':Obj):St b2 W.heap.size W ((W.alloc o).alloc o') :=
 ⟨rfl,rfl,rfl,by simp;omega,fun b _ h1 h2=>by
  by_cases h:b<W.heap.size
  · exact(Below.heap_alloc _ o' b (by simp;omega)).trans (Below.heap_alloc W o b h)
  · rw[Array.getElem?_eq_none (by simp;omega),Array.getElem?_eq_none (by omega)]⟩
def KeptAt (b1 b2 b3 D:Nat) (W W':World):Prop:=∀b,b=b1∨b=b2∨b=b3∨b=D∨b=D+1→W'.heap[b]?=W.heap[b]?
theorem KeptAt.trans {b1 b2 b3 D:Nat} {A B C:World} (h:KeptAt b1 b2 b3 D A B) (k:KeptAt b1 b2 b3 D B C):KeptAt b1 b2 b3 D A C:=fun b hb=>(k b hb).trans (h b hb)
theorem KeptAt.drewN {b1 b2 b3 D:Nat} (W:World) (n:Nat):KeptAt b1 b2 b3 D W (W.drewN n):=fun _ _=>rfl
def jbL (b1 b2 b3 D k:Nat) (I:Nat→World→Prop) (JP:List PanicEntry→World→Prop) (W:World):Exit→Act→World→Prop
 | .normal,_,W'=>KeptAt b1 b2 b3 D W W'∧I (k+1) W'
 | .panic c,a,W'=>a.defers=[]∧KeptAt b1 b2 b3 D W W'∧JP c W'
 | _,_,_=>False
theorem ZN {b1 b2 b3:Nat} {W W':World} (h:∀b,b=b1∨b=b2∨b=b3→W'.heap[b]?=W.heap[b]?):Xs b1 b2 b3 W W':=fun b hb =>
 ⟨World.cell?_of_block (a:=⟨b,0,none⟩) (h b hb),World.frozen?_of_block (a:=⟨b,0,none⟩) (h b hb)⟩
theorem Yl {g:Operand} {t:Tmp} {assign body:Code} {Q:Exit→Act→World→Prop} {a:Act} {w:World} {n fid:Nat} {fn:Func} (hfn:Tryz.prog.funcs[fid]?=some fn) (hn:2≤n)
 (b1 b2 b3:Nat) (hg:a.eval g=.func (.func 128) #[] #[.pointer (some ⟨b1,0,none⟩),.pointer (some ⟨b2,0,none⟩),.pointer (some ⟨b3,0,none⟩)])
 (s:List UInt8) (hs:s.length≤1000000) (h12:b1≠b2) (h32:b3≠b2) (hb1:b1<w.heap.size) (hb2:b2<w.heap.size) (hb3:b3<w.heap.size)
 (c1:w.cell? ⟨b1,0,none⟩=some (.string ⟨#[44]⟩)) (c2:w.cell? ⟨b2,0,none⟩=some (.string (bytes s))) (c3:w.cell? ⟨b3,0,none⟩=some (.int .i64 0)) (z2:w.frozen? ⟨b2,0,none⟩=false)
 (I:Nat→World→Prop) (JP:List PanicEntry→World→Prop) (hI:∀k W W',I k W→St b2 w.heap.size W W'→I k W') (hE:∀k W,I k W→Env W) (h0:I 0 w) (a₁:ByteArray→Act)
 (hassign:∀(l:Nat) (x:ByteArray) (W:World) (K:Act→World→Prop),K (a₁ x) W →
   assign.wpIn (Fence.wide.inRound l) (n-1) Tryz.prog (Exit.then K (fun _ _ _=>False)) { tmps:=(#[t].zip #[Value.string x]).foldl (fun tt (p,v)=>tt.setIfInBounds p v) a.tmps,defers:=[] } W)
 (hbody:∀(l k:Nat) (p:List UInt8) (W:World),(partsOf s)[k]?=some p→I k W→w.heap.size+2≤W.heap.size→body.wpIn (Fence.wide.inRound l) (n-1) Tryz.prog (jbL b1 b2 b3 w.heap.size k I JP W) (a₁ (bytes p)) W)
 (hdone:∀(W:World),I (partsOf s).length W→W.heap[w.heap.size]?=some (.deferred (some []))→Q .normal { a with defers:={ target:=.collected w.heap.size,args:=#[] }::a.defers } W)
 (hpanic:∀(c:List PanicEntry) (W:World),JP c W→W.heap[w.heap.size]?=some (.deferred (some []))→Q (.panic c) { a with defers:={ target:=.collected w.heap.size,args:=#[] }::a.defers } W) :
 zG fid Tryz.prog (Code.rangeFunc g #[t] assign body) Q a w:=by
 obtain⟨rec,hrec⟩:∃rec:LoopState→Option Code→Loop,rec=fun st pe=>{ state:=st,pending:=pe,fn:=fid,tmps:=a.tmps,params:=#[t],assign,body,defers:=w.heap.size }:=⟨_,rfl⟩
 obtain⟨W1,hW1⟩:=eX ((w.alloc (.deferred (some []))).alloc (.loop (rec .ready none)))
 have hL1:W1.heap[w.heap.size+1]?=some (.loop (rec .ready none)):=by
  rw[←hW1];have:=World.alloc_heap_new (w.alloc (.deferred (some []))) (.loop (rec .ready none));rwa [World.size_alloc] at this
 have hK1:W1.heap[w.heap.size]?=some (.deferred (some [])):=by
  rw[←hW1];exact(Below.heap_alloc _ _ _ (by simp)).trans (World.alloc_heap_new w _)
 have hS1:St b2 w.heap.size w W1:=by rw[←hW1];exact St.begin b2 w _ _
 have hB1:Below w.heap.size w W1:=by rw[←hW1];exact(jb w _).trans (jb _ _)
 refine zZ (n:=n) (l:=w.heap.size+1) (mark:=[{ target:=.collected w.heap.size,args:=#[] }]) (w₁:=W1) (d:={ target:=.fn (.func 128) #[.pointer (some ⟨b1,0,none⟩),.pointer (some ⟨b2,0,none⟩),.pointer (some ⟨b3,0,none⟩)],args:=#[.func (.yield (w.heap.size+1)) #[] #[]] })
  (f:=128) (args:=#[.func (.yield (w.heap.size+1)) #[] #[],.pointer (some ⟨b1,0,none⟩),.pointer (some ⟨b2,0,none⟩),.pointer (some ⟨b3,0,none⟩)]) ?_ ?_ ?_ ?_
 · rw[←hW1,hrec];exact run_enterLoop_outer _ _ _ _ _
 · simp only[resolve,hg];simp[go_sem]
 · have eg:=enters_of (P:=Tryz.prog) Tryz.func128 (by kernel_rfl) rfl;simp[invoke,go_sem,eg]
 · refine(qK n (by omega) (w.heap.size+1) b1 b2 b3 s hs
    (fun k W=>I k W∧W.heap[w.heap.size+1]?=some (.loop (rec .ready none))∧W.heap[w.heap.size]?=some (.deferred (some [])))
    (fun c W=>JP c W∧W.heap[w.heap.size]?=some (.deferred (some [])))
    ⟨?_,?_,?_,?_⟩ h12 h32 W1 ((hB1.cell (p:=⟨b1,0,none⟩) hb1).trans c1) ((hB1.cell (p:=⟨b2,0,none⟩) hb2).trans c2) ((hB1.cell (p:=⟨b3,0,none⟩) hb3).trans c3)
    ((hB1.frozen (p:=⟨b2,0,none⟩) hb2).trans z2) ⟨hI 0 w W1 h0 hS1,hL1,hK1⟩).mono ?_
   · rintro k p W hp ⟨hi,hl,hk⟩;have hlt:w.heap.size+1<W.heap.size:=(Array.getElem?_eq_some_iff.1 hl).1;have hy:=run_yield (P:=Tryz.prog) (args:=#[.string (bytes p)]) hl (by rw[hrec];rfl);rw[hrec] at hy;refine⟨fid,_,assign,body,hy,zi trivial hfn ?_⟩;refine hassign _ (bytes p) W _ ?_;refine⟨_,run_beginRound hl (by rw[hrec]),?_⟩;have hl2:(W.putObj (w.heap.size+1) (.loop { rec .ready none with state:=.busy })).heap[w.heap.size+1]?=some (.loop { rec .ready none with state:=.busy }):=World.putObj_heap_same hlt;have hk2:(W.putObj (w.heap.size+1) (.loop { rec .ready none with state:=.busy })).heap[w.heap.size]?=some (.deferred (some [])):=(World.putObj_heap_other (by omega)).trans hk;refine wpIn_mono (hbody _ k p _ hp (hI k _ _ hi (St.put W _)) (by simp;omega)) ?_;rintro e a3 W3 hp3
     cases e with
     | normal =>
      obtain⟨hk3,hi3⟩:=hp3;have hl3:=(hk3 (w.heap.size+1) (by simp)).trans hl2;have hr:=run_endRound (P:=Tryz.prog) none hl3;refine⟨_,_,hr,.inl ⟨rfl,⟨hI _ _ _ hi3 (St.put W3 _),?_,?_⟩,?_⟩⟩
      · rw[World.putObj_heap_same (Array.getElem?_eq_some_iff.1 hl3).1,hrec];rfl
      · exact((World.putObj_heap_other (by omega)).trans (hk3 w.heap.size (by simp))).trans hk2
      · refine ZN fun b hb=>?_;have hbl:b≠w.heap.size+1:=by rcases hb with h | h | h<;>omega
        exact((World.putObj_heap_other hbl).trans (hk3 b (by rcases hb with h | h | h<;>simp[h]))).trans (World.putObj_heap_other hbl)
     | panic c =>
      obtain⟨hd,hk3,hj⟩:=hp3;exact⟨hd,.inr ⟨c,rfl,hj,(hk3 w.heap.size (by simp)).trans hk2⟩⟩
     | ret=>exact hp3.elim
     | exit id=>exact hp3.elim
     | goto t=>exact hp3.elim
     | outgrown=>exact hp3.elim
   · rintro k W x ⟨hi,hl,hk⟩;exact⟨hI _ _ _ hi (St.setCell W _),(Below.heap_setCell W ⟨b2,0,none⟩ _ _ (by simp;omega)).trans hl,(Below.heap_setCell W ⟨b2,0,none⟩ _ _ (by simp;omega)).trans hk⟩
   · rintro k W m ⟨hi,hl,hk⟩;exact⟨hI _ _ _ hi (St.drewN W _),hl,hk⟩
   · rintro k W ⟨hi,_,_⟩;exact(hE k W hi).most
   · rintro e W2 (⟨⟨v,rfl⟩,hi,hl,hk⟩ | ⟨c,rfl,hj,hk⟩)
     · exact⟨_,run_endLoop (P:=Tryz.prog) hl (by rw[hrec];simp) |>.trans (by rw[hrec]),hdone _ (hI _ _ _ hi (St.put W2 _)) ((World.putObj_heap_other (by omega)).trans hk)⟩
     · exact hpanic c W2 hj hk
end Go.Proofs.YtnfojaidmnccoaaGreatDoor
namespace Go.Proofs.YtnfojaidmnccoaaGreatDoor
open Go.RowKit Go.Shelf
attribute [local go_sem] Oper.semAt_some
def boxes (w:World) (s:List UInt8):World:=((w.alloc (.cells #[.string (bytes s)] 9)).alloc (.cells #[.string ⟨#[44]⟩] 9)).alloc (.cells #[.int .i64 0] 3)
theorem Zp (s:List UInt8) (w:World) :
 Calls Tryz.prog 93 #[.string (bytes s),.string ⟨#[44]⟩] w fun e w' =>
  e=.returned (.func (.func 128) #[] #[.pointer (some ⟨w.heap.size+1,0,none⟩),.pointer (some ⟨w.heap.size,0,none⟩),.pointer (some ⟨w.heap.size+2,0,none⟩)])∧w'=boxes w s:=by
 have hmf:=hmfL (P:=Tryz.prog);go_enter Tryz.func93,Tryz.ntmps93;go_wp2;go_ret;exact⟨rfl,rfl⟩
theorem Yb (w:World) (s:List UInt8):(boxes w s).heap.size=w.heap.size+3:=by simp[boxes]
theorem Jn (w:World) (s:List UInt8):Kept w (boxes w s):=((jb w _).trans (jb _ _)).trans (jb _ _)
theorem ZR (w:World) (s:List UInt8):(boxes w s).cell? ⟨w.heap.size+1,0,none⟩=some (.string ⟨#[44]⟩)∧(boxes w s).cell? ⟨w.heap.size,0,none⟩=some (.string (bytes s))∧(boxes w s).cell? ⟨w.heap.size+2,0,none⟩=some (.int .i64 0)∧(boxes w s).frozen? ⟨w.heap.size,0,none⟩=false:=by
 unfold boxes;refine⟨?_,?_,?_,?_⟩<;>go_simp
theorem Below.st {B b2 D:Nat} {w W W':World} (h:Below B w W) (k:St b2 D W W') (h2:B≤b2) (hD:B≤D):Below B w W' :=
 ⟨k.os.trans h.os,k.tape.trans h.tape,k.output.trans h.output,Nat.le_trans h.size k.size,fun b hb=>(k.block b (by omega) (by omega) (by omega)).trans (h.block b hb)⟩
theorem j1 {B D:Nat} {w W:World} {o:Obj} (h:Below B w W) (hD:B≤D):Below B w (W.putObj D o) :=
 ⟨h.os,h.tape,h.output,by rw[World.putObj_size];exact h.size,fun b hb=>(World.putObj_heap_other (by omega)).trans (h.block b hb)⟩
theorem Own.st {α:Type} {L:Lay α} {e:TypeId} {b2 D:Nat} {W W':World} {v:Value} {l:List α} (h:Own L e W (D+2) v l) (k:St b2 D W W') (h2:b2<D):Own L e W' (D+2) v l:=by
 obtain⟨⟨h0,h1⟩,hf⟩:=h;refine⟨⟨h0,h1.imp id ?_⟩,hf⟩;rintro ⟨g,cap,cur,rfl,hbg,hg,hn,hm,hs,ht⟩;exact⟨g,cap,cur,rfl,hbg,(k.block g (by omega) (by omega) (by omega)).trans hg,hn,hm,hs,ht⟩
theorem Own.row {α:Type} {L:Lay α} {e:TypeId} {w:World} {B n:Nat} {v:Value} {l:List α} (h:Own L e w B v l) (hn:l.length=n):w.ownsRow B e L.m v n (jg L l):=hn▸h.1
theorem Jv (W:World) (v:Value) (T:TypeId):(W.alloc (.cells #[v] T)).cell? ⟨W.heap.size,0,none⟩=some v∧(W.alloc (.cells #[v] T)).frozen? ⟨W.heap.size,0,none⟩=false:=by
 constructor<;>go_simp
def Jk {α:Type} (L:Lay α) (e:TypeId) (B vb:Nat) (l:List α) (W:World):Prop:=∃v,W.cell? ⟨vb,0,none⟩=some v∧W.frozen? ⟨vb,0,none⟩=false∧Own L e W B v l
theorem Jk.st {α:Type} {L:Lay α} {e:TypeId} {b2 D vb:Nat} {W W':World} {l:List α} {B:Nat} (h:Jk L e B vb l W) (k:St b2 D W W') (hB:B=D+2) (hvb:vb<b2) (h2:b2<D):Jk L e B vb l W':=by
 subst hB;obtain⟨v,h1,h3,h4⟩:=h;have hb:=k.block vb (by omega) (by omega) (by omega);exact⟨v,(World.cell?_of_block (a:=⟨vb,0,none⟩) hb).trans h1,(World.frozen?_of_block (a:=⟨vb,0,none⟩) hb).trans h3,h4.st k h2⟩
theorem jcT (w:World) (o:Obj) (a b c:Value) (T:TypeId):∀j u,[a,b,c][j]?=some u→((w.alloc o).alloc (.cells #[a,b,c] T)).cell? ((⟨w.heap.size+1,0,none⟩:Addr).add j)=some u:=by
 have:=World.news_of_block (cs:=#[a,b,c]) (t:=T) (fr:=(0,0)) ((w.alloc o).alloc_heap_new _);rw[World.size_alloc] at this;exact this
theorem J6:∀(s:List UInt8) (p:List UInt8),p ∈ partsOf s→p.length≤s.length
 | [],p,h=>by
  have:p=[]:=by simpa [partsOf] using h
  subst this;simp
 | c::t,p,h=>by
  rw[JA] at h;split at h
  · rcases List.mem_cons.1 h with rfl | h
    · simp
    · have:=J6 t p h;simp;omega
  · cases hp:partsOf t with
    | nil=>exact absurd hp (zA t)
    | cons q qs =>
     rw[hp] at h;rcases List.mem_cons.1 h with rfl | h
     · have:=J6 t q (by rw[hp];simp);simp;omega
     · have:=J6 t p (by rw[hp];simp[h]);simp;omega
def Ye {α:Type} (L:Lay α) (e:TypeId) (r:Int×List α) (base:Nat) (w:World) (en:Ending) (w':World):Prop :=
 (r.1=0→∃v,en=.returned v∧Own L e w' base v r.2)∧(r.1≠0→en=.panicked [jG r.1])∧Below base w w'
theorem Ye.good {α:Type} {L:Lay α} {e:TypeId} {r:Int×List α} {base:Nat} {w w':World} {v:Value} (h:r.1=0) (ho:Own L e w' base v r.2) (hb:Below base w w'):Ye L e r base w (.returned v) w':=⟨fun _=>⟨v,rfl,ho⟩,fun g=>absurd h g,hb⟩
theorem Ye.bad {α:Type} {L:Lay α} {e:TypeId} {r:Int×List α} {base:Nat} {w w':World} {c:Int} (h:r.1=c) (hc:c≠0) (hb:Below base w w'):Ye L e r base w (.panicked [jG c]) w':=⟨fun g=>absurd (h.symm.trans g) hc,fun _=>by rw[h],hb⟩
def Yy {α:Type} (bad:List UInt8→Bool) (f:List UInt8→α) (chk:List α→Int) (s:List UInt8):Int×List α :=
 if s=[45] then (0,[])
 else if (partsOf s).any bad=true then (2,[])
 else if chk (((partsOf s).map f).take 9)≠0 then (chk (((partsOf s).map f).take 9),[])
 else (0,((partsOf s).map f).take 9)
end Go.Proofs.YtnfojaidmnccoaaGreatDoor
namespace Go.Proofs.YtnfojaidmnccoaaGreatDoor.Vec
open Go.RowKit
def jD (c:UInt8):Bool:=decide (48≤(c.toNat:Int))&&decide ((c.toNat:Int)≤57)
theorem j8 (c:UInt8):jD c=true↔(48≤(c.toNat:Int)∧(c.toNat:Int)≤57):=by
 unfold jD;simp only[Bool.and_eq_true,decide_eq_true_eq]
def je:List UInt8→Bool
 | []=>false
 | c::t=>!(c==48&&!t.isEmpty)&&(c::t).all jD
theorem zf (c:UInt8) (t:List UInt8):je (c::t)=(!(c==48&&!t.isEmpty)&&(c::t).all jD):=rfl
def jL (s:ByteArray):Bool:=je s.data.toList
theorem Yw {s:ByteArray} (h:s.data.toList.all jD=true) (i:Nat) (hi:i<s.size):jD s[i]=true:=by
 rw[List.all_eq_true] at h;exact h _ (by simp[ByteArray.getElem_eq_getElem_data])
theorem ZJ {s:ByteArray} (h:¬s.data.toList.all jD=true):∃(j:Nat) (hj:j<s.size),jD s[j]=false:=by
 rw[List.all_eq_true] at h;obtain⟨x,h⟩:=Classical.not_forall.1 h;obtain⟨hx,hn⟩:=Classical.not_imp.1 h;obtain⟨j,hj,e⟩:=List.getElem_of_mem hx;refine⟨j,by simpa using hj,?_⟩;have:s[j]'(by simpa using hj)=x:=by rw[←e];simp[ByteArray.getElem_eq_getElem_data]
 rw[this];simpa using hn
theorem Jx (s:ByteArray) (w:World) (hs:s.size≤maxLen) :
 Calls Tryz.prog 95 #[.string s] w fun e w'=>e=.returned (.bool (jL s))∧w=w':=by
 unfold maxLen at hs;obtain⟨l,hl⟩:=eX (s.data.toList)
 have hsz:s.size=l.length:=by rw[←hl,Array.length_toList,ByteArray.size_data]
 cases l with
 | nil =>
  have HV:=lH (show jL s=false by unfold jL;rw[hl];rfl);have h0:s=ByteArray.empty:=Jj hsz;subst h0;clear hl hsz;go_enter Tryz.func95,Tryz.ntmps95;go_wp2;go_ret;exact⟨jv HV.out.symm,rfl⟩
 | cons c t =>
  have h0:0<s.size:=by rw[hsz];simp
  have hne:(s.toList==([]:List UInt8))=false:=by rw[Lib.toList_data,hl];rfl
  have hc:s[0]=c:=by
   have:s.data.toList[0]'(by rw[hl];simp)=c:=by simp[hl]
   rw[←this];simp[ByteArray.getElem_eq_getElem_data]
  by_cases hz:c=48∧t≠[]
  · obtain⟨rfl,ht⟩:=hz;have HV:=lH (show jL s=false by
     unfold jL;rw[hl,zf]
     cases t with
     | nil=>exact absurd rfl ht
     | cons d u=>rfl)
    have h1:1<s.size:=by
     rw[hsz]
     cases t with
     | nil=>exact absurd rfl ht
     | cons d u=>simp
    have h48:((s[0].toNat:Int)==48)=true:=by rw[hc];rfl
    clear hl hsz hc ht;go_enter Tryz.func95,Tryz.ntmps95;go_wp2;go_ret;exact⟨jv HV.out.symm,rfl⟩
  · have hcase:(s.size=1)∨(1<s.size∧((s[0].toNat:Int)==48)=false):=by
     by_cases h1:s.size=1
     · exact .inl h1
     · refine .inr ⟨by omega,?_⟩;rw[hc];have ht:t≠[]:=by intro e;rw[e] at hsz;simp at hsz;omega
       have hc48:c≠48:=fun e=>hz ⟨e,ht⟩;have:(c.toNat:Int)≠48:=by
        intro e;apply hc48;apply UInt8.toNat.inj;have:c.toNat=48:=by omega
        rw[this];rfl
       simpa using this
    have hdec:jL s=s.data.toList.all jD:=by
     unfold jL;rw[hl,zf];have:(c==48&&!t.isEmpty)=false:=by
      cases t with
      | nil=>simp
      | cons d u =>
       have:c≠48:=fun e=>hz ⟨e,by simp⟩;simp[this]
     rw[this];rfl
    clear hz hc;by_cases hall:s.data.toList.all jD=true
    · have HV:=lH (show jL s=true from hdec.trans hall);have HA:=lH (Yw hall);clear hall hdec hl hsz;rcases hcase with h1 | ⟨h1,h48⟩
      case' inl=>(have h1':s.size≤1:=by omega)
      case' inl=>(clear h1)
      all_goals
       go_enter Tryz.func95,Tryz.ntmps95;go_wp2;go_loop [18] (fun i=>∃k:Nat,k≤s.size∧i=.int .i64 k) (fun i=>s.size-(intOf i).toNat)
       case atStart=>exact⟨0,Nat.zero_le _,rfl⟩
       case round =>
        obtain⟨k,hk,rfl⟩:=hrel;by_cases hlt:k<s.size
        · obtain⟨c2,c3⟩:=(j8 _).1 (HA.out k hlt);go_wp2_with (go_at_call 88;refine(JF _ _ c2 c3).mono ?_;rintro e w' ⟨rfl,rfl⟩)
          go_round
          case rel=>exact⟨k+1,by omega,by go_num⟩
          case measure=>simp[intOf];omega
        · go_wp2;go_ret;exact⟨jv HV.out.symm,rfl⟩
    · have HV:=lH (show jL s=false from hdec.trans (by simpa using hall));obtain⟨j,hj,hbad⟩:=ZJ hall;have HB:=lH hbad;clear hall hdec hl hsz hbad;rcases hcase with h1 | ⟨h1,h48⟩
      case' inl=>(have h1':s.size≤1:=by omega)
      case' inl=>(clear h1)
      all_goals
       go_enter Tryz.func95,Tryz.ntmps95;go_wp2;go_loop [18] (fun i=>∃k:Nat,k≤j∧i=.int .i64 k) (fun i=>s.size-(intOf i).toNat)
       case atStart=>exact⟨0,Nat.zero_le _,rfl⟩
       case round =>
        obtain⟨k,hk,rfl⟩:=hrel;have hlt:k<s.size:=by omega
        by_cases hok:jD s[k]=true
        · have hkj:k+1≤j:=by
           rcases Nat.lt_or_eq_of_le hk with g | g
           · exact g
           · subst g;rw[HB.out] at hok;cases hok
          obtain⟨c2,c3⟩:=(j8 _).1 hok;clear hok;go_wp2_with (go_at_call 88;refine(JF _ _ c2 c3).mono ?_;rintro e w' ⟨rfl,rfl⟩)
          go_round
          case rel=>exact⟨k+1,by omega,by go_num⟩
          case measure=>simp[intOf];omega
        · have c4:(s[k].toNat:Int)<48∨57<(s[k].toNat:Int):=by
           have:¬(48≤(s[k].toNat:Int)∧(s[k].toNat:Int)≤57):=fun g=>hok ((j8 _).2 g);omega
          have C4:=lH c4;clear hok c4;go_wp2_with (go_at_call 88;refine(Z5 _ _ C4.out).mono ?_;rintro e w' ⟨rfl,rfl⟩)
          go_ret;exact⟨jv HV.out.symm,rfl⟩
structure Env (w:World):Prop where
 most:∃m,w.cell? ⟨3,0,none⟩=some (.int .i64 m)
 range:∃ev,w.cell? ⟨9,0,none⟩=some ev∧(ev=.nilIface∨∃te pe,ev=.iface te pe)
theorem Env.kept {w w':World} (h:Env w) (k:Kept w w'):Env w':=by
 obtain⟨⟨m,hm⟩,⟨ev,hv,h2⟩⟩:=h;exact⟨⟨m,cell_later k hm⟩,⟨ev,cell_later k hv,h2⟩⟩
theorem Env.base {w:World} (h:Env w):Go.Proofs.YtnfojaidmnccoaaGreatDoor.Env w:=⟨h.most⟩
theorem Env.lt {w:World} (h:Env w):3<w.heap.size∧9<w.heap.size:=by
 obtain⟨⟨m,hm⟩,⟨ev,hv,h2⟩⟩:=h;exact⟨World.block_lt_of_cell? _ _ hm,World.block_lt_of_cell? _ _ hv⟩
theorem Env.setCell {w:World} (h:Env w) {b:Nat} (hb:3<b∧9<b) (u:Value):Env (w.setCell ⟨b,0,none⟩ u):=by
 obtain⟨⟨m,hm⟩,⟨ev,hv,h2⟩⟩:=h;refine⟨⟨m,?_⟩,⟨ev,?_,h2⟩⟩
 · rw[World.cell?_setCell_other _ _ _ _ (by intro e;injection e with e;omega)];exact hm
 · rw[World.cell?_setCell_other _ _ _ _ (by intro e;injection e with e;omega)];exact hv
def nameOf (p:List UInt8):List UInt8:=(Lib.cut p [61]).1
def jc (p:List UInt8):List UInt8:=(Lib.cut p [61]).2.1
theorem JX (p:List UInt8) (w:World) (hE:Env w) (hp:p.length≤1000000) :
 Calls Tryz.prog 132 #[.string (bytes p),.string ⟨#[61]⟩] w fun e w'=>e=.returned (.tuple #[.string (bytes (nameOf p)),.string (bytes (jc p)),.bool (Lib.cut p [61]).2.2])∧∃n,w'=w.drewN n:=by
 obtain⟨m,hm⟩:=hE.most;exact Tryz.strings_Cut (bytes p) ⟨#[61]⟩ m w (by simp[bytes,ByteArray.size];omega) hm
theorem JQ (p:List UInt8):(jc p).length≤p.length:=by
 unfold jc Lib.cut;split
 · simp
 · simp
theorem qj (p:List UInt8):(nameOf p).length≤p.length:=by
 unfold nameOf Lib.cut;split
 · simp;omega
 · simp
theorem jar (p:List UInt8) (w:World) (hE:Env w) (hp:p.length≤1000000) (h:je (jc p)=true) :
 Calls Tryz.prog 115 #[.string (bytes p)] w fun e w'=>e=.returned (.tuple #[])∧∃n,w'=w.drewN n:=by
 obtain⟨HE,H,HZ⟩:=lH3 hE (show jL (bytes (jc p))=true from h) (show (bytes (jc p)).size≤maxLen by have:=JQ p;unfold maxLen;simp[bytes,ByteArray.size];omega);clear hE h;go_enter Tryz.func115,Tryz.ntmps115;go_wp2_with fail
 refine(JX p _ HE.out hp).mono ?_;rintro e w' ⟨rfl,n,rfl⟩;go_wp2_with fail
 refine(Jx _ _ HZ.out).mono ?_;rintro e w' ⟨rfl,rfl⟩;have h:=H.out;go_wp2;go_end0
 exact⟨rfl,_,rfl⟩
theorem qQ (p:List UInt8) (w:World) (hE:Env w) (hp:p.length≤1000000) (h:je (jc p)=false) :
 Calls Tryz.prog 115 #[.string (bytes p)] w fun e w'=>e=.panicked [jG 2]∧∃n,w'=w.drewN n:=by
 obtain⟨HE,H,HZ⟩:=lH3 hE (show jL (bytes (jc p))=false from h) (show (bytes (jc p)).size≤maxLen by have:=JQ p;unfold maxLen;simp[bytes,ByteArray.size];omega);clear hE h;go_enter Tryz.func115,Tryz.ntmps115;go_wp2_with fail
 refine(JX p _ HE.out hp).mono ?_;rintro e w' ⟨rfl,n,rfl⟩;go_wp2_with fail
 refine(Jx _ _ HZ.out).mono ?_;rintro e w' ⟨rfl,rfl⟩;have h:=H.out;go_wp2;exact⟨rfl,rfl,_,rfl⟩
end Go.Proofs.YtnfojaidmnccoaaGreatDoor.Vec
namespace Go.Proofs.YtnfojaidmnccoaaGreatDoor.Vec
open Go.RowKit
def zd (acc:Nat) (l:List UInt8):Nat:=l.foldl (fun a c=>a*10+(c.toNat-48)) acc
theorem zK (acc:Nat) (c:UInt8) (t:List UInt8):zd acc (c::t)=zd (acc*10+(c.toNat-48)) t:=List.foldl_cons ..
def valL (l:List UInt8):Nat:=zd 0 l
theorem Zf:∀(l:List UInt8) (acc:Nat),acc≤zd acc l
 | [],_=>Nat.le_refl _
 | c::t,acc=>by have:=Zf t (acc*10+(c.toNat-48));rw[zK];omega
theorem Jh {c:UInt8} (h:jD c=true):48≤c.toNat∧c.toNat≤57:=by
 have:=(j8 c).1 h;omega
theorem XV (M acc:Nat) (c:UInt8) (r:List UInt8) (h:48≤c.toNat∧c.toNat≤57):Lib.parseUintM M acc (c::r)=(if 1844674407370955162≤acc then .range else if M<acc*10+(c.toNat-48) then .range else Lib.parseUintM M (acc*10+(c.toNat-48)) r):=by rw[Lib.parseUintM,if_pos h]
theorem Zw (M:Nat) (hM:M<18446744073709551620):∀(l:List UInt8) (acc:Nat),l.all jD=true→acc≤M→Lib.parseUintM M acc l=if zd acc l≤M then .ok (zd acc l) else .range
 | [],acc,_,h=>by rw[Lib.parseUintM,if_pos (show zd acc []≤M from h)];rfl
 | c::t,acc,h,ha=>by
  simp only[List.all_cons,Bool.and_eq_true] at h;have hd:=Jh h.1;have hge:=Zf t (acc*10+(c.toNat-48));rw[XV _ _ _ _ hd,zK];by_cases h1:1844674407370955162≤acc
  · rw[if_pos h1,if_neg (by omega)]
  · rw[if_neg h1];by_cases h2:M<acc*10+(c.toNat-48)
    · rw[if_pos h2,if_neg (by omega)]
    · rw[if_neg h2];exact Zw M hM t _ h.2 (by omega)
theorem YC {l:List UInt8} (h:je l=true):Lib.parseIntB 64 l=if valL l≤9223372036854775807 then .ok (valL l:Int) else .range:=by
 cases l with
 | nil=>cases h
 | cons c t =>
  rw[zf,Bool.and_eq_true] at h;have hc:jD c=true:=by have:=h.2;simp only[List.all_cons,Bool.and_eq_true] at this;exact this.1
  have hd:=Jh hc;have hu:Lib.parseUintB 64 (c::t)=if valL (c::t)≤18446744073709551615 then .ok (valL (c::t)) else .range:=by
   unfold Lib.parseUintB;rw[if_neg (by simp)];exact Zw (2 ^ 64-1) (by decide) (c::t) 0 h.2 (by omega)
  unfold Lib.parseIntB;dsimp only;rw[if_neg (by omega),hu];by_cases h1:valL (c::t)≤18446744073709551615
  · rw[if_pos h1];dsimp only;by_cases h2:valL (c::t)≤9223372036854775807
    · rw[if_pos h2,if_neg (by simp;omega),if_neg (by omega),if_neg (by omega)]
    · rw[if_neg h2,if_pos ⟨by omega,by simp;omega⟩]
  · rw[if_neg h1,if_neg (by omega)]
theorem Jc (p:List UInt8):jL (bytes p)=je p:=by unfold jL;rw[show (bytes p).data.toList=p by simp[bytes]]
theorem qx (p:List UInt8) (w:World) (hp:p.length≤1000000) (h:je p=true) (hv:valL p≤9223372036854775807) :
 Calls Tryz.prog 97 #[.string (bytes p)] w fun e w'=>e=.returned (.int .i64 (valL p:Int))∧Kept w w':=by
 have HD:=lH (show Calls Tryz.prog 95 #[.string (bytes p)] w fun e w'=>e=.returned (.bool true)∧w=w' by
  have:=Jx (bytes p) w (by rw[jn];unfold maxLen;omega);rw[Jc,h] at this;exact this)
 have HZ:=lH (show (bytes p).size≤9223372036854775806 by simp[bytes,ByteArray.size];omega);have HP:=lH ((YC h).trans (if_pos hv));obtain⟨v,hve⟩:=eX (valL p)
 rw[hve] at HP hv ⊢;clear h hve;go_enter Tryz.func97,Tryz.ntmps97;go_wp2_with fail
 refine HD.out.mono ?_;rintro e w1 ⟨rfl,rfl⟩;go_wp2_with fail
 refine(Tryz.strconv_ParseInt_10_at64_ok (bytes p) HZ.out _ HP.out _).mono ?_;rintro e w2 ⟨rfl,hw⟩;have HK:=lH (show Kept w w2 by
  rcases hw with rfl | ⟨t,rfl⟩
  · exact Kept.refl _
  · exact Lib.bytesWorld_below _ _ _)
 clear hw;go_wp2;go_ret;exact⟨rfl,HK.out⟩
theorem YL (p:List UInt8) (w:World) (hE:Env w) (hp:p.length≤1000000) (h:je p=true) (hv:¬valL p≤9223372036854775807) :
 Calls Tryz.prog 97 #[.string (bytes p)] w fun e w'=>e=.panicked [jG 5]∧Kept w w':=by
 have HD:=lH (show Calls Tryz.prog 95 #[.string (bytes p)] w fun e w'=>e=.returned (.bool true)∧w=w' by
  have:=Jx (bytes p) w (by rw[jn];unfold maxLen;omega);rw[Jc,h] at this;exact this)
 have HZ:=lH (show (bytes p).size≤281474976710656 by simp[bytes,ByteArray.size];omega);have HP:=lH ((YC h).trans (if_neg hv));obtain⟨ev,hev,hev2⟩:=hE.range;have Rm:=lH hev;have Te:=lH hev2;clear h hev hev2 hE;go_enter Tryz.func97,Tryz.ntmps97;go_wp2_with fail
 refine HD.out.mono ?_;rintro e w1 ⟨rfl,rfl⟩;go_wp2_with fail
 refine(Tryz.strconv_ParseInt_10_at64_range (bytes p) HZ.out HP.out ev _ Rm.out Te.out).mono ?_;rintro e w2 ⟨N,rfl,_,_,k⟩;have HK:=lH k;clear k;go_wp2;exact⟨rfl,rfl,HK.out⟩
def jl (p:List UInt8):ByteArray×Int:=(bytes (nameOf p),(valL (jc p):Int))
theorem jbc (p:List UInt8) (w:World) (hE:Env w) (hp:p.length≤1000000) (h:je (jc p)=true) (hv:valL (jc p)≤9223372036854775807) :
 Calls Tryz.prog 116 #[.string (bytes p)] w fun e w'=>e=.returned (.agg #[.string (jl p).1,.int .i64 (jl p).2])∧Kept w w':=by
 have HE:=lH (hE.kept (jb w (.cells #[.string ByteArray.empty,.int .i64 0] 63)));have HQ:=lH (fun W=>qx (jc p) W (by have:=JQ p;omega) h hv);clear hE h hv;go_enter Tryz.func116,Tryz.ntmps116;go_wp2_with fail
 refine(JX p _ HE.out hp).mono ?_;rintro e w1 ⟨rfl,n,rfl⟩;go_wp2_with fail
 refine(HQ.out _).mono ?_;rintro e w2 ⟨rfl,k⟩;have c1:=k.cell (p:=⟨w.heap.size,0,none⟩) (by simp);have c2:=k.cell (p:=⟨w.heap.size,1,none⟩) (by simp);have z1:=k.frozen (p:=⟨w.heap.size,0,none⟩) (by simp);have z2:=k.frozen (p:=⟨w.heap.size,1,none⟩) (by simp);have HK:=lH (((jb w _).trans (Kept.drewN _ n)).trans k);have e1:w2.cell? ⟨w.heap.size,0,none⟩=some (.string ByteArray.empty):=by rw[c1];go_simp
 have e2:w2.cell? ⟨w.heap.size,1,none⟩=some (.int .i64 0):=by rw[c2];go_simp
 have y1:w2.frozen? ⟨w.heap.size,0,none⟩=false:=by rw[z1];go_simp
 have y2:w2.frozen? ⟨w.heap.size,1,none⟩=false:=by rw[z2];go_simp
 clear c1 c2 z1 z2 k HQ;go_wp2;refine bodyPost_ret (v:=.agg #[.string (bytes (nameOf p)),.int .i64 (valL (jc p):Int)]) (by simp[results,Tryz.results116,go_sem,e1,e2]) rfl ⟨rfl,?_⟩;exact(HK.out.setCell (p:=⟨w.heap.size,0,none⟩) (Nat.le_refl _) _).setCell (p:=⟨w.heap.size,1,none⟩) (Nat.le_refl _) _
theorem q6 (p:List UInt8) (w:World) (hE:Env w) (hp:p.length≤1000000) (h:je (jc p)=true) (hv:¬valL (jc p)≤9223372036854775807) :
 Calls Tryz.prog 116 #[.string (bytes p)] w fun e w'=>e=.panicked [jG 5]∧Kept w w':=by
 have HE:=lH (hE.kept (jb w (.cells #[.string ByteArray.empty,.int .i64 0] 63)));have HQ:=lH (fun W (hE:Env W)=>YL (jc p) W hE (by have:=JQ p;omega) h hv);clear hE h hv;go_enter Tryz.func116,Tryz.ntmps116;go_wp2_with fail
 refine(JX p _ HE.out hp).mono ?_;rintro e w1 ⟨rfl,n,rfl⟩;have Us:=lH (HE.out.kept (Kept.drewN _ n));go_wp2_with fail
 refine(HQ.out _ Us.out).mono ?_;rintro e w2 ⟨rfl,k⟩;have HK:=lH (((jb w _).trans (Kept.drewN _ n)).trans k);clear k;go_wp2;exact⟨rfl,rfl,HK.out⟩
def jcQ (v:Value) (l:V) (base:Nat) (w:World) (e:Ending) (w':World):Prop:=e=.returned v∧jt 63 w' base v l∧Below base w w'
theorem jt.same_name {e:TypeId} {w:World} {base g cap:Nat} {l:V} (h:jt e w base (.slice (some ⟨g,0,none⟩) l.length cap) l) {k:Nat} (hk:k<l.length) :
 jt e (w.setCell ⟨g,k*2,none⟩ (.string (nm l k))) base (.slice (some ⟨g,0,none⟩) l.length cap) l:=by
 refine⟨?_,h.2⟩;have:=h.1.stored (k*2) (.string (nm l k));have c:=(Jr l k hk).1;obtain⟨hlt,he⟩:=List.getElem?_eq_some_iff.1 c;rw[←he,List.set_getElem_self] at this;rw[←he];exact this.1
theorem jaB (a:Option Addr) (cap base:Nat) (l:V) (w:World) (h:jt 63 w base (.slice a l.length cap) l) (hb:base≤w.heap.size) (hl:l.length≤1000000) (hs:∀k,k<l.length→(nm l k).size≤281474976710656) :
 Calls Tryz.prog 117 #[.slice a l.length cap] w (jcQ (.slice a l.length cap) l base w):=by
 by_cases h0:l.length=0
 · have HH:=lH h;have HB:=lH hb;clear h hs hb;rw[h0] at HH ⊢;go_enter Tryz.func117,Tryz.ntmps117;go_wp2;refine wp_loop_rounds 1 ?_;rw[rounds_succ];go_wp2;go_ret;exact⟨rfl,HH.out,Below.refl _ _⟩
 · have hform:∃g,a=some ⟨g,0,none⟩:=by
    obtain⟨_,h1⟩:=h.1;rcases h1 with ⟨_,e⟩ | ⟨g,cap',cur,e,_⟩
    · exact absurd e h0
    · injection e with e;exact⟨g,e⟩
   obtain⟨g,rfl⟩:=hform;have hbg:=(h.1.lt g rfl).1;obtain⟨n,hn⟩:=eX (l.length)
   obtain⟨HN,HH,HB,HS⟩:=lH4 hn h hb hs;clear h hb hs;rw[hn] at hl h0 ⊢;clear hn;go_enter Tryz.func117,Tryz.ntmps117;go_wp2;go_loopw [6] (fun i wr=>∃k:Nat,k≤n∧i=.int .i64 k∧jt 63 wr base (.slice (some ⟨g,0,none⟩) l.length cap) l∧Below base w wr) (fun i _=>n-(intOf i).toNat)
   case atStart=>exact⟨0,Nat.zero_le _,rfl,HH.out,Below.refl _ _⟩
   case round =>
    obtain⟨k,hk,rfl,ho,hB⟩:=hrel;have HO:=lH ho;have Vt:=lH hB;by_cases hlt:k<n
    · have HI:=lH (show k<l.length by rw[HN.out];exact hlt);obtain⟨a',cap',e,_,_,hv⟩:=ho.at_;injection e with e1 e2 e3;subst e1;obtain⟨_,c1,_⟩:=hv.cells HI.out;simp only[Nat.zero_add] at c1;clear ho hB hv e3;go_wp2_with fail
      refine(YD _ _ (HS.out k HI.out)).mono ?_;rintro e w1 ⟨rfl,hk1⟩;have O1:=lH (HO.out.kept hk1);have d1:=cell_later hk1 c1;have z1:=O1.out.1.frozenAt (k*2);have B1:=lH (Vt.out.trans (Below.mono hk1 (Nat.le_trans HB.out Vt.out.size)));clear hk1 c1;go_wp2;go_roundw
      case rel=>exact⟨k+1,by omega,by go_num,O1.out.same_name HI.out,B1.out.setCell (p:=⟨g,k*2,none⟩) hbg _⟩
      case measure=>simp[intOf];omega
    · clear ho hB;go_wp2;go_ret;exact⟨rfl,by rw[←HN.out];exact HO.out,Vt.out⟩
open Go.RowKit Go.Shelf
attribute [local go_sem] Oper.semAt_some
theorem jt.st {e:TypeId} {b2 D:Nat} {W W':World} {v:Value} {l:V} (h:jt e W (D+2) v l) (k:St b2 D W W') (h2:b2<D):jt e W' (D+2) v l:=by
 obtain⟨⟨h0,h1⟩,hf⟩:=h;refine⟨⟨h0,h1.imp id ?_⟩,hf⟩;rintro ⟨g,cap,cur,rfl,hbg,hg,hn,hm,hs,ht⟩;exact⟨g,cap,cur,rfl,hbg,(k.block g (by omega) (by omega) (by omega)).trans hg,hn,hm,hs,ht⟩
def Jk (B vb:Nat) (l:V) (W:World):Prop:=∃v,W.cell? ⟨vb,0,none⟩=some v∧W.frozen? ⟨vb,0,none⟩=false∧jt 63 W B v l
theorem Jk.st {b2 D vb:Nat} {W W':World} {l:V} {B:Nat} (h:Jk B vb l W) (k:St b2 D W W') (hB:B=D+2) (hvb:vb<b2) (h2:b2<D):Jk B vb l W':=by
 subst hB;obtain⟨v,h1,h3,h4⟩:=h;have hb:=k.block vb (by omega) (by omega) (by omega);exact⟨v,(World.cell?_of_block (a:=⟨vb,0,none⟩) hb).trans h1,(World.frozen?_of_block (a:=⟨vb,0,none⟩) hb).trans h3,h4.st k h2⟩
theorem jt.put {e:TypeId} {w:World} {B D:Nat} {v:Value} {l:V} (h:jt e w B v l) (hD:D<B) (o:Obj):jt e (w.putObj D o) B v l:=by
 obtain⟨⟨h0,h1⟩,hf⟩:=h;refine⟨⟨h0,h1.imp id ?_⟩,hf⟩;rintro ⟨g,cap,cur,rfl,hbg,hg,rest⟩;exact⟨g,cap,cur,rfl,hbg,(World.putObj_heap_other (by omega)).trans hg,rest⟩
theorem Ys {ps:List (List UInt8)} {k:Nat} {p:List UInt8} (h:∀q ∈ ps.take k,valL (jc q)≤9223372036854775807) (hp:ps[k]?=some p) (hv:valL (jc p)≤9223372036854775807) :
 ∀q ∈ ps.take (k+1),valL (jc q)≤9223372036854775807:=by
 intro q hq;rw[List.take_add_one,hp] at hq;rcases List.mem_append.1 hq with g | g
 · exact h q g
 · have:q=p:=by simpa using g
   rw[this];exact hv
theorem Ya {p:List UInt8} (h:p.length≤1000000):(jl p).1.size≤maxLen:=by
 have:=qj p;show (bytes (nameOf p)).size≤_;simp only[bytes,ByteArray.size,List.size_toArray];unfold maxLen;omega
theorem jaw (w:World) (o:Obj) (s:ByteArray) (n:Int) (T:TypeId):∀j u,[Value.string s,.int .i64 n][j]?=some u →
 ((w.alloc o).alloc (.cells #[.string s,.int .i64 n] T)).cell? ((⟨w.heap.size+1,0,none⟩:Addr).add j)=some u:=by
 have:=Z7 (w.alloc o) s n T;rw[World.size_alloc] at this;exact this
theorem jt.row {e:TypeId} {w:World} {B n:Nat} {v:Value} {l:V} (h:jt e w B v l) (hn:l.length=n):w.ownsRow B e 2 v n (cellsOf l):=hn▸h.1
def zv (ps:List (List UInt8)) (k:Nat):V:=((ps.take k).map jl).take 9
theorem Z9 {ps:List (List UInt8)} {k:Nat} (h:k≤ps.length):(zv ps k).length=min 9 k:=by
 unfold zv;rw[List.length_take,List.length_map,List.length_take];omega
theorem Zn {ps:List (List UInt8)} {k:Nat} {p:List UInt8} (hp:ps[k]?=some p) (h:(zv ps k).length≤8):zv ps (k+1)=zv ps k++[jl p]:=by
 have hk:k<ps.length:=(List.getElem?_eq_some_iff.1 hp).1;rw[Z9 (by omega)] at h;unfold zv;have e:ps.take (k+1)=ps.take k++[p]:=by rw[List.take_add_one,hp];rfl
 rw[e,List.map_append,List.take_of_length_le (l:=(ps.take k).map jl) (by simp;omega),List.take_of_length_le (by simp;omega)];rfl
theorem jat {ps:List (List UInt8)} {k:Nat} {p:List UInt8} (hp:ps[k]?=some p) (h:¬(zv ps k).length≤8):zv ps (k+1)=zv ps k:=by
 have hk:k<ps.length:=(List.getElem?_eq_some_iff.1 hp).1;rw[Z9 (by omega)] at h;unfold zv;have e:ps.take (k+1)=ps.take k++[p]:=by rw[List.take_add_one,hp];rfl
 rw[e,List.map_append,List.take_append_of_le_length (by simp;omega)]
def zh (ps:List (List UInt8)):Bool:=ps.any fun p=>!je (jc p)
def zw (ps:List (List UInt8)):Bool:=ps.any fun p=>decide (9223372036854775807<valL (jc p))
def jI (s:List UInt8):Int×V :=
 if zh (partsOf s)=true then (2,[])
 else if zw (partsOf s)=true then (5,[])
 else if jf (((partsOf s).map jl).take 9)≠0 then (jf (((partsOf s).map jl).take 9),[])
 else (0,((partsOf s).map jl).take 9)
theorem qL (s:List UInt8) (w:World) (hE:Env w) (hs:s.length≤1000000) :
 Calls Tryz.prog 101 #[.string (bytes s)] w (jM (jI s) w.heap.size w):=by
 refine zE (n:=6) Tryz.func101 rfl ?_;simp only[Tryz.ntmps101,List.size_toArray,List.length_cons,List.length_nil,Nat.reduceAdd,Nat.reduceSub,Array.replicate_succ,Array.replicate_zero,List.push_toArray,List.append_toArray,List.nil_append,List.cons_append];refine jy (jK (n:=6) ?_);gi_wp2
 refine jy (jy (jK (n:=6) ?_));gi_wp2_with (refine⟨trivial,?_⟩;gi_at_call 93;refine(callsIn_wide.2 (Zp s _)).mono ?_;rintro e w1 ⟨rfl,rfl⟩)
 refine Jt ?_;have HE:=lH hE;have Vo:=lH (fun p (h:p ∈ partsOf s)=>Nat.le_trans (J6 s p h) hs);have bc:=ZR w s;have bsz:=Yb w s
 refine Yl (n:=6) Tryz.func101 (by decide) (w.heap.size+1) w.heap.size (w.heap.size+2) rfl s hs (by omega) (by omega) (by omega) (by omega) (by omega) bc.1 bc.2.1 bc.2.2.1 bc.2.2.2
  (fun k W=>Below w.heap.size w W∧∀p ∈ (partsOf s).take k,je (jc p)=true)
  (fun c W=>c=[jG 2]∧Below w.heap.size w W∧zh (partsOf s)=true)
  (fun k W W' h st=>⟨Below.st h.1 st (Nat.le_refl _) (by omega),h.2⟩) (fun k W h=>(HE.out.kept h.1).base) ⟨Jn w s,by simp⟩
  (fun x=>{ tmps:=#[.string (bytes s),undef,.slice none 0 0,.string x,undef,undef,undef,.string (bytes s),
    .func (.func 128) #[] #[.pointer (some ⟨w.heap.size+1,0,none⟩),.pointer (some ⟨w.heap.size,0,none⟩),.pointer (some ⟨w.heap.size+2,0,none⟩)],.string x,
    undef,undef,undef,undef,undef,undef,undef,undef,undef,undef,undef,undef,undef,undef,undef,undef,undef],defers:=[] }) ?assign ?body ?done ?panic
 case assign =>
  intro l x W K hK;gi_wp2
  exact hK
 case body =>
  rintro l k p W hp ⟨hB,hd⟩ _;obtain⟨HB,HD,HP⟩:=lH3 hB hd hp;have hmem:p ∈ partsOf s:=List.mem_of_getElem? hp;have HM:=lH hmem;have hpl:=Vo.out p hmem;clear bc bsz hB hd hp hmem hE;by_cases hdec:je (jc p)=true
  · have Vz:=lH hdec;clear hdec;gi_wp2_with (refine⟨trivial,?_⟩;gi_at_call 115;refine(CallsIn.inRound l (callsIn_wide.2 (jar p _ (HE.out.kept HB.out) hpl Vz.out))).mono ?_;rintro e W1 ⟨rfl,n,rfl⟩)
    refine⟨KeptAt.drewN W n,below_drewN HB.out n,fun q hq=>?_⟩;rw[List.take_add_one,HP.out] at hq;rcases List.mem_append.1 hq with h | h
    · exact HD.out q h
    · have:q=p:=by simpa using h
      rw[this];exact Vz.out
  · have Vz:=lH (show je (jc p)=false by simpa using hdec);clear hdec;gi_wp2_with (refine⟨trivial,?_⟩;gi_at_call 115;refine(CallsIn.inRound l (callsIn_wide.2 (qQ p _ (HE.out.kept HB.out) hpl Vz.out))).mono ?_;rintro e W1 ⟨rfl,n,rfl⟩)
    refine⟨rfl,KeptAt.drewN W n,rfl,below_drewN HB.out n,?_⟩;unfold zh;rw[List.any_eq_true];exact⟨p,HM.out,by rw[Vz.out];rfl⟩
 case panic =>
  rintro c W ⟨rfl,hB,hbad⟩ hk;have HV:=lH (show jI s=(2,[]) by unfold jI;rw[if_pos hbad]);refine⟨by simp,.inl ⟨_,_,rfl,run_takeDeferred hk,?_⟩⟩;exact jM.bad (by rw[HV.out]) (by decide) (j1 hB (by omega))
 case done =>
  rintro W ⟨hB,hd⟩ hk;have hform:zh (partsOf s)=false:=by
   unfold zh;rw[List.any_eq_false];intro p hp;rw[hd p (by simpa using hp)];decide
  obtain⟨Vn,Vh,VU,VV⟩:=lH4 hform hB hk (fun p (h:p ∈ partsOf s)=>hd p (by simpa using h));have hsize:=hB.size;have hD1:w.heap.size+3<W.heap.size:=by have:=(Array.getElem?_eq_some_iff.1 hk).1;rw[bsz] at this;exact this
  rw[bsz] at VU ⊢;clear bc hB hd hk hE hform hsize bsz;obtain⟨m,hm⟩:=eX (W.heap.size)
  have HM:=lH hm;refine jy (jK (n:=6) ?_);gi_wp2
  obtain⟨V0,hV0⟩:=eX (W.alloc (.cells #[.slice none 0 0] 23))
  have R3:=lH hV0;have hv0s:V0.heap.size=m+1:=by rw[←hV0,World.size_alloc,hm]
  have Ud:=lH hv0s;have Tf:=lH (show Kept W V0 by rw[←hV0];exact jb _ _);have UD:=lH (show V0.cell? ⟨m,0,none⟩=some (.slice none 0 0)∧V0.frozen? ⟨m,0,none⟩=false by
   rw[←hV0,←hm];exact Jv W _ _)
  rw[hV0];clear hV0 hv0s hm;refine jy (jy (jK (n:=6) ?_));gi_wp2_with (refine⟨trivial,?_⟩;gi_at_call 93;refine(callsIn_wide.2 (Zp s _)).mono ?_;rintro e w1 ⟨rfl,rfl⟩)
  refine Jt ?_;have bc:=ZR V0 s;have bsz:=Yb V0 s;rw[Ud.out] at bc bsz ⊢;have hB0:Below W.heap.size W (boxes V0 s):=Kept.trans Tf.out (Jn V0 s);have hvc:(boxes V0 s).cell? ⟨m,0,none⟩=some (.slice none 0 0):=((Jn V0 s).cell (p:=⟨m,0,none⟩) (by rw[Ud.out];exact Nat.lt_succ_self m)).trans UD.out.1;have hvf:(boxes V0 s).frozen? ⟨m,0,none⟩=false:=((Jn V0 s).frozen (p:=⟨m,0,none⟩) (by rw[Ud.out];exact Nat.lt_succ_self m)).trans UD.out.2;have hm0:W.heap.size=m:=HM.out
  refine Yl (n:=6) Tryz.func101 (by decide) (m+1+1) (m+1) (m+1+2) rfl s hs (by omega) (by omega) (by omega) (by omega) (by omega) bc.1 bc.2.1 bc.2.2.1 bc.2.2.2
   (fun k W'=>Below W.heap.size W W'∧(∀p ∈ (partsOf s).take k,valL (jc p)≤9223372036854775807)∧Jk (m+6) m (zv (partsOf s) k) W')
   (fun c W'=>c=[jG 5]∧Below W.heap.size W W'∧zw (partsOf s)=true)
   (fun k W1 W2 h st=>⟨Below.st h.1 st (by omega) (by omega),h.2.1,h.2.2.st st (by omega) (by omega) (by omega)⟩) (fun k W' h=>((HE.out.kept Vh.out).kept h.1).base) ⟨hB0,by simp,⟨_,hvc,hvf,jt.nil _ _ _⟩⟩
   (fun x=>{ tmps:=#[.string (bytes s),undef,.slice none 0 0,undef,.pointer (some ⟨m,0,none⟩),.string x,undef,.string (bytes s),
     .func (.func 128) #[] #[.pointer (some ⟨w.heap.size+1,0,none⟩),.pointer (some ⟨w.heap.size,0,none⟩),.pointer (some ⟨w.heap.size+2,0,none⟩)],undef,undef,undef,.string (bytes s),
     .func (.func 128) #[] #[.pointer (some ⟨m+1+1,0,none⟩),.pointer (some ⟨m+1,0,none⟩),.pointer (some ⟨m+1+2,0,none⟩)],.string x,
     undef,undef,undef,undef,undef,undef,undef,undef,undef,undef,undef,undef],defers:=[] }) ?assign2 ?body2 ?done2 ?panic2
  case assign2 =>
   intro l x W' K hK;gi_wp2
   exact hK
  case panic2 =>
   rintro c W' ⟨rfl,hB',hbad⟩ hk';have HV:=lH (show jI s=(5,[]) by unfold jI;rw[if_neg (by rw[Vn.out];decide),if_pos hbad])
   have hk1:(W'.putObj (boxes V0 s).heap.size (.deferred none)).heap[w.heap.size+3]?=some (.deferred (some [])) :=
    (World.putObj_heap_other (by rw[bsz];omega)).trans ((hB'.block _ hD1).trans VU.out)
   refine⟨by simp,.inl ⟨_,_,rfl,run_takeDeferred hk',?_⟩⟩;refine⟨by simp,.inl ⟨_,_,rfl,run_takeDeferred hk1,?_⟩⟩;exact jM.bad (by rw[HV.out]) (by decide) (j1 (j1 (Vh.out.trans (Below.mono hB' Vh.out.size)) (by rw[bsz];have:=Vh.out.size;omega)) (by omega))
  case body2 =>
   rintro l k p W' hp ⟨hB',hd',v,hvc',hvf',hvo⟩ hlt';have hmem:p ∈ partsOf s:=List.mem_of_getElem? hp;have Tg:=lH hmem;have Vz:=lH (VV.out p hmem);have hpl:=Vo.out p hmem;have HE':=lH ((HE.out.kept Vh.out).kept hB');have HB':=lH hB';have HD':=lH hd';have HP:=lH hp;have hmW:m<W'.heap.size:=by rw[bsz] at hlt';omega
   have VA:=lH (show m+6≤W'.heap.size by rw[bsz] at hlt';omega);have Th:Hid ((boxes V0 s).heap.size=m+1+3):=lH bsz;by_cases hval:valL (jc p)≤9223372036854775807
   · have VG:=lH hval;obtain⟨av,cv,rfl,q1,q2,q3⟩:=hvo.at_;obtain⟨n,hn⟩:=eX ((zv (partsOf s) k).length)
     rw[hn] at hvo;have VE:=lH hvo;have HN:=lH hn;have hn9:n≤9:=by
      have:=Z9 (show k≤(partsOf s).length from Nat.le_of_lt (List.getElem?_eq_some_iff.1 hp).1);omega
     rw[hn] at hvc';clear bc bsz hB' hd' hp hmem hlt' hval q3 hvo hn q1 q2 hvc hvf hB0;gi_wp2_with (refine⟨trivial,?_⟩;gi_at_call 116;refine(CallsIn.inRound l (callsIn_wide.2 (jbc p _ HE'.out hpl Vz.out VG.out))).mono ?_;rintro e W1 ⟨rfl,k1⟩;have K1:=lH k1;have hvc1:=cell_later k1 hvc';have hvf1:=(k1.frozen (p:=⟨m,0,none⟩) hmW).trans hvf';have hm1:m<W1.heap.size:=Nat.lt_of_lt_of_le hmW k1.size;clear k1 hvc' hvf';refine Hid.out ?_)
     refine lH ?_;by_cases h8:n≤8
     · obtain⟨i0,hi,hz0,hz1,hz2⟩:=info_parts qp;gi_wp2_with (gi_at_builtin;go_must (refine wpListIn_append_own _ rfl (.tmp 20) (.tmp 22) _ rfl (m+6) 63 i0 _ 2 24 Tryz.underlying23 hi hz0 hz1 hz2 rfl (by decide) _ n (cellsOf (zv (partsOf s) k)) rfl (((VE.out.kept K1.out).kept (jQ W1 (.cells #[.string (jl p).1,.int .i64 (jl p).2] 63) (.cells #[.string (jl p).1,.int .i64 (jl p).2] 63))).row HN.out) ⟨W1.heap.size+1,0,none⟩ 1 1 [.string (jl p).1,.int .i64 (jl p).2] rfl rfl (jaw _ _ _ _ _) (zo [jl p]) (by unfold maxLen;omega) (by omega) (by rw[World.size_alloc,World.size_alloc];have:=VA.out;have:=K1.out.size;omega) ?_);intro v' w2 hown' hgrow _;refine Hid.out ?_)
       refine lH ?_;obtain⟨g',cap',rfl⟩:=ownsRow_succ hown';have KA:=lH (show Kept W' ((W1.alloc (.cells #[.string (jl p).1,.int .i64 (jl p).2] 63)).alloc (.cells #[.string (jl p).1,.int .i64 (jl p).2] 63)) from K1.out.trans (jQ W1 _ _));have hrow:∀r,(Value.slice av n cv).ownBlock=some r→m+6≤r:=fun r hr=>(VE.out.1.lt r hr).1;have hbl:∀b,b<m+6→w2.heap[b]?=W'.heap[b]?:=fun b hb=>(hgrow.block b (Nat.lt_of_lt_of_le hb (Nat.le_trans VA.out KA.out.size)) (fun e=>by have:=hrow b e.symm;omega)).trans (KA.out.block b (Nat.lt_of_lt_of_le hb VA.out));have UE:=lH hbl;have hvc2:w2.cell? ⟨m,0,none⟩=some (.slice av n cv):=(World.cell?_of_block (a:=⟨m,0,none⟩) (hgrow.block m (by simp;omega) (fun e=>by have:=hrow m e.symm;omega))).trans (by go_simp);have hvf2:w2.frozen? ⟨m,0,none⟩=false:=(World.frozen?_of_block (a:=⟨m,0,none⟩) (hgrow.block m (by simp;omega) (fun e=>by have:=hrow m e.symm;omega))).trans (by go_simp);have Vg:=lH hown';have Ti:=lH (show Below W.heap.size W w2 from⟨hgrow.os.trans (KA.out.os.trans HB'.out.os),hgrow.tape.trans (KA.out.tape.trans HB'.out.tape),hgrow.output.trans (KA.out.output.trans HB'.out.output),Nat.le_trans HB'.out.size (Nat.le_trans KA.out.size hgrow.size),fun b hb=>(UE.out b (by have:=HM.out;omega)).trans (HB'.out.block b hb)⟩);clear hvc1 hvf1 hown' hgrow hrow hbl hi hz0 hz1 hz2;gi_wp2
       refine⟨fun b hb=>?_,Ti.out.setCell (p:=⟨m,0,none⟩) (by have:=HM.out;show W.heap.size≤m;omega) _,Ys HD'.out HP.out VG.out,⟨_,World.cell?_setCell_same' _ _ _ (by rw[hvc2];rfl),by rw[World.frozen?_setCell];exact hvf2,?_⟩⟩
       · have hbm:b<m+6∧b≠m:=by have:=Th.out;rcases hb with h | h | h | h | h<;>omega
         exact(Below.heap_setCell w2 ⟨m,0,none⟩ _ b hbm.2).trans (UE.out b hbm.1)
       · have hl:(zv (partsOf s) (k+1)).length=n+1:=by rw[Zn HP.out (by rw[HN.out];exact h8),List.length_append,HN.out];rfl
         have ho:jt 63 w2 (m+6) (.slice (some ⟨g',0,none⟩) (n+1) cap') (zv (partsOf s) (k+1)):=by
          refine⟨?_,?_⟩
          · rw[hl,Zn HP.out (by rw[HN.out];exact h8),zg];exact Vg.out
          · rw[Zn HP.out (by rw[HN.out];exact h8)];exact VE.out.2.snoc (Ya hpl) (by show -9223372036854775808≤(valL (jc p):Int);omega) (by show (valL (jc p):Int)≤_;have:=VG.out;omega)
         exact ho.setCell_below (a:=⟨m,0,none⟩) (by show m<m+6;omega) _
     · have hfull:=jat HP.out (by rw[HN.out];exact h8);have VW:=lH hfull;have h9:8<n:=by omega
       clear hfull h8;gi_wp2
       refine⟨fun b hb=>?_,HB'.out.trans (Below.mono (Kept.trans K1.out (jb W1 _)) HB'.out.size),Ys HD'.out HP.out VG.out,⟨.slice av n cv,by go_simp,by go_simp,?_⟩⟩
       · have hbm:b<m+6:=by have:=Th.out;rcases hb with h | h | h | h | h<;>omega
         exact(Kept.trans K1.out (jb W1 _)).block b (Nat.lt_of_lt_of_le hbm VA.out)
       · rw[VW.out];exact VE.out.kept (Kept.trans K1.out (jb W1 _))
   · have VG:=lH hval;clear bc bsz hB' hd' hp hmem hlt' hval hvo hvc' hvf' hvc hvf hB0;gi_wp2_with (refine⟨trivial,?_⟩;gi_at_call 116;refine(CallsIn.inRound l (callsIn_wide.2 (q6 p _ HE'.out hpl Vz.out VG.out))).mono ?_;rintro e W1 ⟨rfl,k1⟩;have K1:=lH k1;clear k1)
     refine⟨rfl,fun b hb=>?_,rfl,HB'.out.trans (Below.mono K1.out HB'.out.size),?_⟩
     · have hbm:b<m+6:=by have:=Th.out;rcases hb with h | h | h | h | h<;>omega
       exact K1.out.block b (Nat.lt_of_lt_of_le hbm VA.out)
     · unfold zw;rw[List.any_eq_true];exact⟨p,Tg.out,by have:=VG.out;simp;omega⟩
  case done2 =>
   rintro W' ⟨hB',hd',v,hvc',hvf',hvo⟩ hk';have hover:zw (partsOf s)=false:=by
    unfold zw;rw[List.any_eq_false];intro p hp;have:=hd' p (by simpa using hp);simp only[decide_eq_true_eq];omega
   have hacc:zv (partsOf s) (partsOf s).length=((partsOf s).map jl).take 9:=by unfold zv;rw[List.take_length]
   rw[hacc] at hvo;obtain⟨L,hL⟩:=eX (((partsOf s).map jl).take 9)
   have HV:=lH (show jI s=if jf L≠0 then (jf L,[]) else (0,L) by unfold jI;rw[if_neg (by rw[Vn.out];decide),if_neg (by rw[hover];decide),hL]);rw[hL] at hvo;have hL9:L.length≤1000000:=by rw[←hL,List.length_take];omega
   have Ut:=lH (show ∀k,k<L.length→(nm L k).size≤281474976710656 by
    intro k hk;have hmem:=jan hk;rw[←hL] at hmem;obtain⟨p,hp,he⟩:=List.mem_map.1 (List.mem_of_mem_take hmem);have h1:(jl p).1=nm L k:=by rw[he,hL]
    rw[←h1];have h2:=Ya (Vo.out p hp);have h3:=qj p;have h4:=Vo.out p hp;show (bytes (nameOf p)).size≤_;simp only[bytes,ByteArray.size,List.size_toArray];omega)
   have hk1:W'.heap[w.heap.size+3]?=some (.deferred (some [])):=(hB'.block _ hD1).trans VU.out;have TP:=lH bsz;obtain⟨av,cv,rfl,q1,q2,q3⟩:=hvo.at_;obtain⟨VE,TQ,UU,TR⟩:=lH4 hvo q3 hk1 hk';have HB':=lH hB';have VA:=lH (show m+4<W'.heap.size by have:=(Array.getElem?_eq_some_iff.1 hk').1;rw[bsz] at this;exact this);clear bc bsz hB' hd' hk' hk1 hvo q3 q1 q2 hL hover hacc hvc hvf hB0;refine jK (n:=6) ?_;by_cases hc:jf L=0
   · have HC:=lH hc;clear hc;gi_wp2_with (refine⟨trivial,?_⟩;gi_at_call 56;refine(callsIn_wide.2 (zn _ _ _ L _ TQ.out)).mono ?_;rintro e1 w1 ⟨g1,_,k1⟩;obtain rfl:=g1 HC.out;have K1:=lH k1;clear g1 k1;refine Hid.out ?_)
     refine lH ?_;gi_wp2_with (refine⟨trivial,?_⟩;gi_at_call 117;refine(callsIn_wide.2 (jaB _ _ (m+5) L _ ((VE.out.kept K1.out).base_le (by omega)) (by have:=K1.out.size;have:=VA.out;omega) hL9 Ut.out)).mono ?_;rintro e2 w2 ⟨rfl,o2,b2⟩;have O2:=lH o2;have B2:=lH b2;clear o2 b2)
     have hsz:=HM.out;have hbs:=TP.out;have e1:w2.heap[(boxes V0 s).heap.size]?=some (.deferred (some [])):=(B2.out.block _ (by omega)).trans ((K1.out.block _ (by have:=VA.out;omega)).trans TR.out);have e2:w2.heap[w.heap.size+3]?=some (.deferred (some [])):=(B2.out.block _ (by omega)).trans ((K1.out.block _ (by have:=VA.out;omega)).trans UU.out);have e3:(w2.putObj (boxes V0 s).heap.size (.deferred none)).heap[w.heap.size+3]?=some (.deferred (some [])):=(World.putObj_heap_other (by omega)).trans e2;refine⟨by simp,.inl ⟨_,_,rfl,run_takeDeferred e1,?_⟩⟩;refine⟨by simp,.inl ⟨_,_,rfl,run_takeDeferred e3,?_⟩⟩;refine⟨_,results_tmp rfl _ _ _,?_⟩;refine jM.good (by rw[HV.out,if_neg (by rw[HC.out];decide)]) (by rw[HV.out,if_neg (by rw[HC.out];decide)];exact((O2.out.put (by omega) _).put (by omega) _).base_le (by omega)) ?_;exact j1 (j1 ((Vh.out.trans (Below.mono (HB'.out.trans (Below.mono K1.out HB'.out.size)) Vh.out.size)).trans (Below.mono B2.out (by have:=Vh.out.size;omega))) (by omega)) (by omega)
   · have HC:=lH hc;clear hc;gi_wp2_with (refine⟨trivial,?_⟩;gi_at_call 56;refine(callsIn_wide.2 (zn _ _ _ L _ TQ.out)).mono ?_;rintro e1 w1 ⟨_,g1,k1⟩;obtain rfl:=g1 HC.out;have K1:=lH k1;clear g1 k1)
     have hsz:=HM.out;have hbs:=TP.out;have e1:w1.heap[(boxes V0 s).heap.size]?=some (.deferred (some [])):=(K1.out.block _ (by have:=VA.out;omega)).trans TR.out;have e2:w1.heap[w.heap.size+3]?=some (.deferred (some [])):=(K1.out.block _ (by have:=VA.out;omega)).trans UU.out;have e3:(w1.putObj (boxes V0 s).heap.size (.deferred none)).heap[w.heap.size+3]?=some (.deferred (some [])):=(World.putObj_heap_other (by omega)).trans e2;refine⟨by simp,.inl ⟨_,_,rfl,run_takeDeferred e1,?_⟩⟩;refine⟨by simp,.inl ⟨_,_,rfl,run_takeDeferred e3,?_⟩⟩;exact jM.bad (by rw[HV.out,if_pos HC.out]) HC.out (j1 (j1 (Vh.out.trans (Below.mono (HB'.out.trans (Below.mono K1.out HB'.out.size)) Vh.out.size)) (by have:=Vh.out.size;omega)) (by omega))
end Go.Proofs.YtnfojaidmnccoaaGreatDoor.Vec
namespace Go.Proofs.YtnfojaidmnccoaaGreatDoor.Vec
open Go.RowKit
theorem XN (C:Addr) (r:Int×V) (w:World) (hr:r.1≠0→r.2=[])
 (hk:∀W,Kept w W→Calls Tryz.prog 100 #[.pointer (some C)] W (jM r W.heap.size W)) :
 Calls Tryz.prog 54 #[.func (.func 100) #[] #[.pointer (some C)]] w (JJ r w):=by
 have hmf:=hmfL (P:=Tryz.prog);have HK:=lH hk;have HR:=lH hr;clear hk hr;obtain⟨r1,r2⟩:=r;go_enter_defers Tryz.func54,Tryz.ntmps54
 go_wp2_with fail
 refine(HK.out _ (jb _ _)).mono ?_;rintro e1 w1 ⟨h0,h1,hb⟩;have k1:=hb.size;simp only[World.size_alloc] at k1;have c2:=(hb.cell (p:=⟨w.heap.size,0,none⟩) (by simp))
 have z2:=(hb.frozen (p:=⟨w.heap.size,0,none⟩) (by simp))
 have e2':w1.cell? ⟨w.heap.size,0,none⟩=some (.int .i64 0):=by rw[c2];go_simp
 have y2:w1.frozen? ⟨w.heap.size,0,none⟩=false:=by rw[z2];go_simp
 clear c2 z2;have KB:=lH (show Below w.heap.size w w1 from(jb w _).trans hb);by_cases hx:r1=0
 · subst hx;obtain⟨v,rfl,ho⟩:=h0 rfl;have HO:=lH ho;obtain⟨av,cv,rfl,_,_,_⟩:=ho.at_;have hsz:=World.size_alloc w (.cells #[.int .i64 0] 38);clear h0 h1 hb ho;go_wp2_with fail
   refine leaves_cons (f:=80) (args:=#[.pointer (some ⟨w.heap.size,0,none⟩)]) (by simp) (by simp[go_sem]) ?_;refine(JH ⟨w.heap.size,0,none⟩ _).mono ?_;rintro e u' w'' ⟨rfl,rfl,rfl⟩;simp[Leaves,settle,results,Tryz.results54,go_sem,e2'];exact⟨_,rfl,(HO.out.setCell_below (a:=⟨w.heap.size,0,none⟩) (by simp) _).base_le (by simp),KB.out.setCell (p:=⟨w.heap.size,0,none⟩) (Nat.le_refl _) _⟩
 · obtain rfl:=h1 hx;obtain rfl:=HR.out hx;clear h0 h1 hb;go_wp2_with fail
   refine leaves_cons (f:=80) (args:=#[.pointer (some ⟨w.heap.size,0,none⟩)]) (by simp) (by simp[go_sem]) ?_;refine(zF w.heap.size w.heap.size r1 0 _ e2' y2 (by omega)).mono ?_;rintro e u' w'' ⟨rfl,rfl,q2,q3⟩;simp[Leaves,settle,results,Tryz.results54,go_sem,q2];exact⟨_,rfl,jt.nil _ _ _,KB.out.trans q3⟩
theorem X6 (s:List UInt8):(jI s).1≠0→(jI s).2=[]:=by
 unfold jI;split
 · exact fun _=>rfl
 · split
   · exact fun _=>rfl
   · split
     · exact fun _=>rfl
     · exact fun h=>absurd rfl h
theorem YY (C:Addr) (s:List UInt8) (w:World) (h1:w.cell? C=some (.string (bytes s))) (hE:Env w) (hs:s.length≤1000000) :
 Calls Tryz.prog 100 #[.pointer (some C)] w (jM (jI s) w.heap.size w):=by
 have HE:=lH hE;clear hE;go_enter Tryz.func100,Tryz.ntmps100;go_wp2_with fail
 refine(qL s _ HE.out hs).mono ?_;rintro e w' ⟨g0,g1,k⟩;by_cases hx:(jI s).1=0
 · obtain⟨v,rfl,ho⟩:=g0 hx;obtain⟨HX,HO,HK⟩:=lH3 hx ho k;clear g0 g1 hx ho k;go_wp2;go_ret;exact jM.good HX.out HO.out HK.out
 · obtain rfl:=g1 hx;have HX:=lH hx;have HK:=lH k;clear g0 g1 hx k;go_wp2;exact⟨rfl,jM.bad rfl HX.out HK.out⟩
def jH (s:List UInt8):Int×V:=if s=[45] then (0,[]) else jI s
theorem ja2 (s:List UInt8) (w:World) (hE:Env w) (hs:s.length≤1000000) :
 Calls Tryz.prog 76 #[.string (bytes s)] w (JJ (jH s) w):=by
 by_cases hd:s=[45]
 · have HV:=lH (show jH s=(0,[]) by unfold jH;rw[if_pos hd]);have e:((bytes s).toList==[45])=true:=by rw[hd,Lib.toList_data];rfl
   clear hE hs hd;go_enter Tryz.func76,Tryz.ntmps76;go_wp2;go_ret2
   exact⟨_,by rw[HV.out];rfl,by rw[HV.out];exact jt.nil _ _ _,jb _ _⟩
 · have HV:=lH (show jH s=jI s by unfold jH;rw[if_neg hd]);have e:((bytes s).toList==[45])=false:=by
    rw[Lib.toList_data];show (s.toArray.toList==[45])=false;simpa using hd
   have hmf:=hmfL (P:=Tryz.prog);have hC:∀W,Kept (w.alloc (.cells #[.string (bytes s)] 9)) W→Calls Tryz.prog 100 #[.pointer (some ⟨w.heap.size,0,none⟩)] W (jM (jI s) W.heap.size W):=by
    intro W k;have c1:=k.cell (p:=⟨w.heap.size,0,none⟩) (by simp);exact YY ⟨w.heap.size,0,none⟩ s W (by rw[c1];go_simp) (hE.kept ((jb w _).trans k)) hs
   have HC:=lH hC;clear hC hE hs hd;go_enter Tryz.func76,Tryz.ntmps76;go_wp2_with fail
   refine(XN ⟨w.heap.size,0,none⟩ (jI s) _ (X6 s) HC.out).mono ?_;rintro e w' ⟨v,rfl,ho,k⟩;have HO:=lH ho;have HK:=lH k;clear ho k;go_wp2;go_ret2
   exact⟨v,by rw[HV.out];rfl,by rw[HV.out];exact HO.out.base_le (by simp),(jb w _).trans HK.out⟩
theorem XE (C:Addr) (a:Option Addr) (len cap:Nat) (l:V) (w:World)
 (hk:∀W,Kept w W→Calls Tryz.prog 55 #[.pointer (some C)] W (Chk l (.slice a len cap) W)) :
 Calls Tryz.prog 54 #[.func (.func 55) #[] #[.pointer (some C)]] w (fun e w'=>∃v,e=.returned (.tuple #[v,.int .i64 (jf l)])∧Kept w w'):=by
 have hmf:=hmfL (P:=Tryz.prog);have HK:=lH hk;clear hk;obtain⟨r1,hr1⟩:=eX (jf l)
 rw[hr1];have Vk:=lH hr1;clear hr1;go_enter_defers Tryz.func54,Tryz.ntmps54
 go_wp2_with fail
 refine(HK.out _ (jb _ _)).mono ?_;rintro e1 w1 ⟨h0,h1,hb⟩;have k1:=hb.size;simp only[World.size_alloc] at k1;have c2:=(hb.cell (p:=⟨w.heap.size,0,none⟩) (by simp))
 have z2:=(hb.frozen (p:=⟨w.heap.size,0,none⟩) (by simp))
 have e2':w1.cell? ⟨w.heap.size,0,none⟩=some (.int .i64 0):=by rw[c2];go_simp
 have y2:w1.frozen? ⟨w.heap.size,0,none⟩=false:=by rw[z2];go_simp
 clear c2 z2;have KB:=lH (show Below w.heap.size w w1 from(jb w _).trans hb);rw[Vk.out] at h0 h1;by_cases hx:r1=0
 · subst hx;obtain rfl:=h0 rfl;have hsz:=World.size_alloc w (.cells #[.int .i64 0] 38);clear h0 h1 hb;go_wp2_with fail
   refine leaves_cons (f:=80) (args:=#[.pointer (some ⟨w.heap.size,0,none⟩)]) (by simp) (by simp[go_sem]) ?_;refine(JH ⟨w.heap.size,0,none⟩ _).mono ?_;rintro e u' w'' ⟨rfl,rfl,rfl⟩;simp[Leaves,settle,results,Tryz.results54,go_sem,e2'];exact KB.out.setCell (p:=⟨w.heap.size,0,none⟩) (Nat.le_refl _) _
 · obtain rfl:=h1 hx;clear h0 h1 hb;go_wp2_with fail
   refine leaves_cons (f:=80) (args:=#[.pointer (some ⟨w.heap.size,0,none⟩)]) (by simp) (by simp[go_sem]) ?_;refine(zF w.heap.size w.heap.size r1 0 _ e2' y2 (by omega)).mono ?_;rintro e u' w'' ⟨rfl,rfl,q2,q3⟩;simp[Leaves,settle,results,Tryz.results54,go_sem,q2];exact KB.out.trans q3
theorem YV (C:Addr) (a:Option Addr) (len cap:Nat) (l:V) (w:World) (h1:w.cell? C=some (.slice a len cap)) (hr:jJ w a len l) :
 Calls Tryz.prog 55 #[.pointer (some C)] w (Chk l (.slice a len cap) w):=by
 have HR:=lH hr;clear hr;go_enter Tryz.func55,Tryz.ntmps55;go_wp2_with fail
 refine(zn a len cap l _ HR.out).mono ?_;rintro e w' ⟨g0,g1,k⟩;by_cases hx:jf l=0
 · obtain rfl:=g0 hx;have HX:=lH hx;have HK:=lH k;clear g0 g1 hx k;go_wp2;go_ret;exact Chk.good HX.out HK.out
 · obtain rfl:=g1 hx;have HX:=lH hx;have HK:=lH k;clear g0 g1 hx k;go_wp2;exact⟨rfl,Chk.bad rfl HX.out HK.out⟩
theorem jay (a:Option Addr) (len cap:Nat) (l:V) (w:World) (hr:jJ w a len l) :
 Calls Tryz.prog 27 #[.slice a len cap] w fun e w'=>e=.returned (.int .i64 (jf l))∧Kept w w':=by
 have hmf:=hmfL (P:=Tryz.prog);have hC:∀W,Kept (w.alloc (.cells #[.slice a len cap] 23)) W→Calls Tryz.prog 55 #[.pointer (some ⟨w.heap.size,0,none⟩)] W (Chk l (.slice a len cap) W):=by
  intro W k;have c1:=k.cell (p:=⟨w.heap.size,0,none⟩) (by simp);exact YV ⟨w.heap.size,0,none⟩ a len cap l W (by rw[c1];go_simp) (hr.kept ((jb w _).trans k))
 have HC:=lH hC;clear hC hr;go_enter Tryz.func27,Tryz.ntmps27;go_wp2_with fail
 refine(XE ⟨w.heap.size,0,none⟩ a len cap l _ HC.out).mono ?_;rintro e w' ⟨v,rfl,k⟩;have HK:=lH k;clear k;go_wp2;go_ret;exact⟨rfl,(jb w _).trans HK.out⟩
open Go.RowKit Go.Shelf
theorem jbO:(Tryz.prog.info? 106).map (·.size)=some 2:=by kernel_rfl
theorem jcM:liesAt Tryz.prog Tryz.prog.depth 106 (2 / Tryz.prog.cellsOf 106) 0 106 1=true:=by kernel_rfl
theorem jbp:(Tryz.prog.info? 5).map (fun i=>(i.zero,i.size,i.bytes))=some (some (.int .u8 0),1,1):=by kernel_rfl
abbrev IsB (B b:Nat) (l:List UInt8) (w:World):Prop:=Lib.IsBuilder 106 5 B b (Lib.byteCells l) w
theorem jau (b:Nat) (w:World) (h0:w.cell? ⟨b,0,none⟩=some (.pointer (some ⟨b,0,none⟩))) :
 Calls Tryz.prog 85 #[.pointer (some ⟨b,0,none⟩)] w fun e w'=>e=.returned (.tuple #[])∧w'=w:=by
 obtain⟨j,hj,_⟩:=Option.map_eq_some_iff.1 jbO;go_enter Tryz.func85,Tryz.ntmps85;go_wp2;rw[Lib.run_neq_ptr_same w _ Tryz.underlying104 hj];go_wp2;go_end0
 exact⟨rfl,rfl⟩
theorem qV (b:Nat) (w:World) (h0:w.cell? ⟨b,0,none⟩=some (.pointer none)) (hsh:w.shape? b=some (106,2)) (hfz:w.frozen? ⟨b,0,none⟩=false) :
 Calls Tryz.prog 85 #[.pointer (some ⟨b,0,none⟩)] w fun e w'=>e=.returned (.tuple #[])∧w'=w.setCell ⟨b,0,none⟩ (.pointer (some ⟨b,0,none⟩)):=by
 obtain⟨j,hj,hjs⟩:=Option.map_eq_some_iff.1 jbO;go_enter Tryz.func85,Tryz.ntmps85;go_wp2;rw[Lib.run_to_unsafe w ⟨b,0,none⟩ Tryz.underlying104 Tryz.underlying154 hj (by rw[hjs];decide) hsh (Nat.zero_lt_succ 1)];simp only[Result.andThen];rw[Oper.upon_value];go_wp2;rw[run_callFunc_extern Tryz.func104 (by kernel_rfl) (by kernel_rfl) (by kernel_rfl) (e:=Extern.AbiNoEscape.same) (by kernel_rfl)];rw[Lib.run_noEscape];simp only[Result.andThen];rw[Oper.upon_value];go_wp2;rw[Lib.run_from_unsafe w ⟨b,0,none⟩ Tryz.underlying154 Tryz.underlying104 hj hsh jcM];simp only[Result.andThen];rw[Oper.upon_value];go_wp2;go_end0
 exact⟨rfl,rfl⟩
theorem jbt (B b:Nat) (l:List UInt8) (w:World) (h:IsB B b l w) :
 Calls Tryz.prog 85 #[.pointer (some ⟨b,0,none⟩)] w fun e w'=>e=.returned (.tuple #[])∧(Lib.BuilderAt 106 5 B b (.pointer (some ⟨b,0,none⟩)) (Lib.byteCells l) w'∧Below B w w'∧∀g,g≠b→w'.heap[g]?=w.heap[g]?):=by
 rcases h with h | h
 · refine(qV b w h.cell0 h.shape h.frozen0).mono ?_;rintro e w' ⟨rfl,rfl⟩;exact⟨rfl,h.used _,(Below.refl B w).setCell (p:=⟨b,0,none⟩) h.1 _,fun g hg=>Below.heap_setCell w ⟨b,0,none⟩ _ g hg⟩
 · refine(jau b w h.cell0).mono ?_;rintro e w' ⟨rfl,rfl⟩;exact⟨rfl,h,Below.refl _ _,fun _ _=>rfl⟩
theorem IsB.lt {B b:Nat} {l:List UInt8} {w:World} (h:IsB B b l w):b<w.heap.size:=by
 rcases h with h | h<;>exact h.lt
theorem IsB.kept {B b:Nat} {l:List UInt8} {w w':World} (h:IsB B b l w) (k:Kept w w'):IsB B b l w':=by
 have key:∀p,Lib.BuilderAt 106 5 B b p (Lib.byteCells l) w→Lib.BuilderAt 106 5 B b p (Lib.byteCells l) w':=by
  rintro p ⟨hB,v,hb,⟨h0,h1⟩,hne⟩;refine⟨hB,v,(k.block b (Array.getElem?_eq_some_iff.1 hb).1).trans hb,⟨h0,h1.imp id ?_⟩,hne⟩;rintro ⟨g,cap,cur,rfl,hbg,hg,rest⟩;exact⟨g,cap,cur,rfl,hbg,(k.block g (Array.getElem?_eq_some_iff.1 hg).1).trans hg,rest⟩
 exact h.imp (key _) (key _)
def JY (b:Nat) (w w':World):Prop:=∀g cs fr,g≠b→w.heap[g]?=some (.cells cs 63 fr)→w'.heap[g]?=w.heap[g]?
theorem JY.trans {b:Nat} {x y z:World} (h:JY b x y) (k:JY b y z):JY b x z:=fun g cs fr hg hc=>(k g cs fr hg ((h g cs fr hg hc).trans hc)).trans (h g cs fr hg hc)
def jcL (B b:Nat) (l:List UInt8) (n:Nat) (w:World) (e:Ending) (w':World):Prop:=e=.returned (.tuple #[.int .i64 (n:Int),.nilIface])∧IsB B b l w'∧Below B w w'∧JY b w w'
theorem zu (B b:Nat) (l:List UInt8) (s:ByteArray) (w:World) (h:IsB B b l w) (hlen:l.length+s.size≤140737488355328) (hBw:B≤w.heap.size) :
 Calls Tryz.prog 61 #[.pointer (some ⟨b,0,none⟩),.string s] w (jcL B b (l++s.data.toList) s.size w):=by
 obtain⟨i0,hi,hz0,hz1,hz2⟩:=info_parts jbp;go_enter Tryz.func61,Tryz.ntmps61;go_wp2_with fail
 refine(jbt B b l _ h).mono ?_;rintro e w1 ⟨rfl,h1,hb1,ho1⟩;obtain⟨hB,v,hbk,hown,hne⟩:=h1;have c0:w1.cell? ⟨b,0,none⟩=some (.pointer (some ⟨b,0,none⟩)):=by rw[Lib.cell_of_heap hbk];rfl
 have c1:w1.cell? ⟨b,1,none⟩=some v:=by rw[Lib.cell_of_heap hbk];rfl
 have hll:(Lib.byteCells l).length=l.length:=Lib.byteCells_length l;have UW:=lH hll;clear hll;go_wp2_with (at_builtin;refine Lib.wpList_append_own_string _ rfl _ _ 65 9 rfl B 5 i0 Tryz.underlying65 Tryz.underlying9 hi hz0 hz1 hz2 _ _ _ rfl hown s rfl (by rw[UW.out];unfold maxLen;omega) (by rw[UW.out];omega) (by have:=hb1.size;omega) ?_;intro v' w2 hown' hgrow _;refine Hid.out ?_)
 refine lH ?_;have hlt:b<w1.heap.size:=(Array.getElem?_eq_some_iff.1 hbk).1;have hb2:w2.heap[b]?=some (.cells #[.pointer (some ⟨b,0,none⟩),v] 106 (0,0)):=by
  rw[hgrow.block b hlt (fun e=>hne e.symm)];exact hbk
 have d0:w2.cell? ⟨b,0,none⟩=some (.pointer (some ⟨b,0,none⟩)):=by rw[Lib.cell_of_heap hb2];rfl
 have d1:w2.cell? ⟨b,1,none⟩=some v:=by rw[Lib.cell_of_heap hb2];rfl
 have f1:w2.frozen? ⟨b,1,none⟩=false:=Lib.frozen_of_heap hb2 1;obtain⟨ao,n',cap,rfl⟩:∃ao n' cap,v'=.slice ao n' cap:=by
  rcases hown'.2 with ⟨hv,_⟩ | ⟨g,cap,cur,hv,_⟩
  · exact⟨_,_,_,hv⟩
  · exact⟨_,_,_,hv⟩
 have HG:=lH (hb1.grown hgrow (by have:=hb1.size;omega) (fun k hk=>(hown.lt k hk).1));have HO:=lH hown';have Rn:=lH (show JY b w w2 from fun g cs fr hg hc=>by
  have hc1:=(ho1 g hg).trans hc;refine(hgrow.block g (Array.getElem?_eq_some_iff.1 hc1).1 (fun e=>?_)).trans (ho1 g hg);rcases hown.2 with ⟨rfl,_⟩ | ⟨g',cap',cur,rfl,_,hg',_⟩
  · cases e
  · have e2:(some g:Option Nat)=some g':=e;injection e2 with e2;subst e2;rw[hg'] at hc1;injection hc1 with hc1;injection hc1 with _ ht;exact absurd ht (by decide))
 have Vt:=lH hb2;clear hbk hown hne hown' hgrow hb2 hi hz0 hz1 hz2 h hb1 c0 c1 ho1;go_wp2;go_ret2
 refine⟨rfl,.inr ?_,HG.out.setCell (p:=⟨b,1,none⟩) hB _,Rn.out.trans (fun g cs fr hg _=>Below.heap_setCell w2 ⟨b,1,none⟩ _ g hg)⟩;refine Lib.BuilderAt.put (T:=106) (e:=5) hB Vt.out (bs':=Lib.byteCells (l++s.data.toList)) ?_ (by decide);have:=HO.out;rw[UW.out] at this;have e1:Lib.byteCells (l++s.data.toList)=Lib.byteCells l++Lib.strCells s:=by simp[Lib.byteCells,Lib.strCells]
 rw[e1,List.length_append,UW.out,Lib.strCells_length];exact this
end Go.Proofs.YtnfojaidmnccoaaGreatDoor.Vec
