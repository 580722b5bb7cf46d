/- C. -/
import Derived.Test.YtibepooajeakfaaGreatG0
set_option linter.unusedVariables false
set_option maxRecDepth 100000
set_option maxHeartbeats 25600000
namespace Go.Proofs.YtibepooajeakfaaGreat.Vec
open Go.RowKit
def cellsOf:V→List Value
 | []=>[]
 | x::t=>.string x.1::.int .i64 x.2::cellsOf t
theorem YF:∀l:V,(cellsOf l).length=l.length*2
 | []=>rfl
 | x::t=>by simp only[cellsOf,List.length_cons,YF t];omega
theorem ZG:∀l m:V,cellsOf (l++m)=cellsOf l++cellsOf m
 | [],_=>rfl
 | x::t,m=>by simp only[List.cons_append,cellsOf,ZG t m]
theorem jlc (x:ByteArray×Int) (t:V):nm (x::t) 0=x.1:=rfl
theorem jgM (x:ByteArray×Int) (t:V) (i:Nat):nm (x::t) (i+1)=nm t i:=rfl
theorem jlg (x:ByteArray×Int) (t:V):qn (x::t) 0=x.2:=rfl
theorem jgH (x:ByteArray×Int) (t:V) (i:Nat):qn (x::t) (i+1)=qn t i:=rfl
theorem qc:∀(l:V) (i:Nat),i<l.length→(cellsOf l)[i*2]?=some (.string (nm l i))∧(cellsOf l)[i*2+1]?=some (.int .i64 (qn l i))
 | [],i,h=>absurd h (by simp)
 | x::t,0,_=>⟨rfl,rfl⟩
 | x::t,i+1,h=>by
  have:=qc t i (by simpa using h);rw[jgM,jgH,show (i+1)*2=i*2+1+1 from by omega];exact this
theorem ZP:∀(l:V) (u:Value),u ∈ cellsOf l→u.oneCell'=true
 | x::t,u,h=>by
  simp only[cellsOf,List.mem_cons] at h;rcases h with rfl | rfl | h
  · rfl
  · rfl
  · exact ZP t u h
theorem zY.cons {x:ByteArray×Int} {t:V}:zY (x::t)↔(x.1.size≤maxLen∧-9223372036854775808≤x.2∧x.2≤9223372036854775807)∧zY t:=by
 constructor
 · intro h;exact⟨h 0 (by simp),fun i hi=>h (i+1) (by simpa using hi)⟩
 · rintro ⟨h0,h⟩ i hi
   cases i with
   | zero=>exact h0
   | succ i=>exact h i (by simpa using hi)
theorem zY.nil:zY []:=fun i hi=>absurd hi (by simp)
theorem zY.snoc:∀{l:V} {s:ByteArray} {n:Int},zY l→s.size≤maxLen→-9223372036854775808≤n→n≤9223372036854775807→zY (l++[(s,n)])
 | [],s,n,_,h1,h2,h3=>zY.cons.2 ⟨⟨h1,h2,h3⟩,zY.nil⟩
 | x::t,s,n,h,h1,h2,h3=>by
  rw[zY.cons] at h;exact zY.cons.2 ⟨h.1,h.2.snoc h1 h2 h3⟩
def jQ (e:TypeId) (w:World) (base:Nat) (v:Value) (l:V):Prop:=w.ownsRow base e 2 v l.length (cellsOf l)∧zY l
theorem jQ.nil (e:TypeId) (w:World) (base:Nat):jQ e w base (.slice none 0 0) []:=⟨World.ownsRow_nil w base e 2,zY.nil⟩
theorem jQ.at_ {e:TypeId} {w:World} {base:Nat} {v:Value} {l:V} (h:jQ e w base v l) :
 ∃a cap,v=.slice a l.length cap∧l.length≤cap∧cap≤maxLen∧ju w a l.length l:=by
 obtain⟨h,hf⟩:=h;have h':=h;obtain⟨_,h1⟩:=h;rcases h1 with ⟨rfl,h0⟩ | ⟨g,cap,cur,rfl,hbg,hg,hn,hm,hs,ht⟩
 · have:l=[]:=List.eq_nil_of_length_eq_zero h0;subst this;exact⟨none,0,rfl,Nat.le_refl _,by decide,ju.nil w⟩
 · refine⟨_,cap,rfl,hn,hm,rfl,Nat.le_trans hn hm,hf,.inr ⟨g,0,rfl,?_,fun i hi=>?_⟩⟩
   · rcases Nat.lt_or_ge g w.heap.size with hlt | hge
     · exact hlt
     · rw[Array.getElem?_eq_none hge] at hg;cases hg
   · have c:=h'.cells (g:=g) rfl;have d:=qc l i hi;have c1:=c _ _ d.1;have c2:=c _ _ d.2;constructor
     · rw[←c1];congr 1;unfold Addr.add;split<;>simp_all
     · rw[←c2];congr 1
theorem jQ.kept {e:TypeId} {w w':World} {base:Nat} {v:Value} {l:V} (h:jQ e w base v l) (k:Kept w w'):jQ e w' base v l:=by
 obtain⟨⟨h0,h1⟩,hf⟩:=h;refine⟨⟨h0,h1.imp id ?_⟩,hf⟩;rintro ⟨g,cap,cur,rfl,hbg,hg,hn,hm,hs,ht⟩;refine⟨g,cap,cur,rfl,hbg,?_,hn,hm,hs,ht⟩;have hlt:g<w.heap.size:=by
  rcases Nat.lt_or_ge g w.heap.size with hlt | hge
  · exact hlt
  · rw[Array.getElem?_eq_none hge] at hg;cases hg
 exact(k.block g hlt).trans hg
theorem jlo:(Tryz.prog.info? 114).map (fun i=>(i.zero,i.size,i.bytes))=some (some (.agg #[.string ByteArray.empty,.int .i64 0]),2,24):=by kernel_rfl
def jmh (base:Nat) (l:V) (w:World) (e:Ending) (w':World):Prop:=∃v,e=.returned v∧jQ 114 w' base v l∧Below base w w'
theorem jez (w:World) (s:ByteArray) (n:Int) (T:TypeId):∀j u,[Value.string s,.int .i64 n][j]?=some u →
 (w.alloc (.cells #[.string s,.int .i64 n] T)).cell? ((⟨w.heap.size,0,none⟩:Addr).add j)=some u :=
 World.news_of_block (cs:=#[.string s,.int .i64 n]) (t:=T) (fr:=(0,0)) (w.alloc_heap_new _)
theorem jda (v:Value) (s:ByteArray) (w:World) :
 Calls Tryz.prog 221 #[v,.string s,.int .i64 0] w fun e w'=>e=.returned v∧w=w':=by
 go_enter Tryz.func221,Tryz.ntmps221;go_wp2;go_ret;exact⟨rfl,rfl⟩
theorem jdq (v:Value) (s:ByteArray) (n:Int) (base:Nat) (l:V) (w:World) (h:jQ 114 w base v l) (hn:n≠0) (hs:s.size≤maxLen) (h1:-9223372036854775808≤n) (h2:n≤9223372036854775807)
 (hl:l.length≤1000000) (hb:base≤w.heap.size) :
 Calls Tryz.prog 221 #[v,.string s,.int .i64 n] w (jmh base (l++[(s,n)]) w):=by
 have h3:(n==0)=false:=by simpa using hn
 clear hn;obtain⟨i0,hi,hz0,hz1,hz2⟩:=info_parts jlo;obtain⟨hown,hf⟩:=h;have HF:=lH (hf.snoc hs h1 h2);clear hf hs;go_enter Tryz.func221,Tryz.ntmps221;go_wp2_with (at_builtin;refine wpList_append_lies _ rfl (.tmp 10) (.tmp 14) _ rfl base 114 i0 _ 2 24 Tryz.underlying45 hi hz0 hz1 hz2 rfl (by decide) v l.length (cellsOf l) rfl (hown.alloc _) ⟨w.heap.size,0,none⟩ 1 1 [.string s,.int .i64 n] rfl rfl (jez _ _ _ _) (ZP [(s,n)]) (by decide) (by unfold maxLen;omega) (by omega) (by rw[World.size_alloc];omega) (w.heap.size+1) (World.size_alloc _ _) ?_;intro g cap w1 hown1 hgrow hg hlt;refine Hid.out ?_)
 refine lH ?_;go_wp2;go_ret;refine⟨_,rfl,⟨?_,HF.out⟩,((Below.refl _ w).alloc hb _).grown hgrow (by rw[World.size_alloc];omega) (fun k hk=>?_)⟩
 · rw[List.length_append,ZG];exact hown1
 · exact(hown.lt k hk).1
def jq:V→ByteArray→Int×V
 | [],_=>(0,[])
 | x::t,n=>if eqS x.1 n=true then (x.2,t) else (0,x::t)
def jl:V→V→ByteArray
 | [],[]=>ByteArray.empty
 | [],y::_=>y.1
 | x::_,[]=>x.1
 | x::_,y::_=>if ltS y.1 x.1=true then y.1 else x.1
def Reads (w:World) (v:Value) (l:V):Prop:=∃a cap,v=.slice a l.length cap∧l.length≤cap∧cap≤maxLen∧ju w a l.length l
theorem Reads.kept {w w':World} {v:Value} {l:V} (h:Reads w v l) (k:Kept w w'):Reads w' v l:=by
 obtain⟨a,cap,e,h1,h2,h3⟩:=h;exact⟨a,cap,e,h1,h2,h3.kept k⟩
theorem jfc (n:Int) (w:World):Calls Tryz.prog 222 #[.int .i64 n,.int .i64 0] w fun e w'=>e=.returned (.int .i64 n)∧w=w':=by
 go_enter Tryz.func222,Tryz.ntmps222;go_wp2;go_ret;exact⟨rfl,rfl⟩
theorem jc7 (n x:Int) (w:World) (h:x≠0):Calls Tryz.prog 222 #[.int .i64 n,.int .i64 x] w fun e w'=>e=.panicked [zo x]∧w=w':=by
 have h3:(x != 0)=true:=by simpa using h
 clear h;go_enter Tryz.func222,Tryz.ntmps222;go_wp2;exact⟨rfl,rfl,rfl⟩
theorem ju.first {w:World} {b off len:Nat} {x:ByteArray×Int} {t:V} (h:ju w (some ⟨b,off,none⟩) len (x::t)) :
 b<w.heap.size∧w.cell? ⟨b,off,none⟩=some (.string x.1)∧w.cell? ⟨b,off+1,none⟩=some (.int .i64 x.2):=by
 have hl:0<len:=by have:=h.1;simp only[List.length_cons] at this;omega
 have:=h.cells hl;simpa [jlc,jlg] using this
theorem jan (a a':Option Addr) (len cap len' cap':Nat) (l l':V) (w:World) (hr:ju w a len l) (hr':ju w a' len' l') (hne:0<len+len') :
 Calls Tryz.prog 219 #[.slice a len cap,.slice a' len' cap'] w fun e w'=>e=.returned (.string (jl l l'))∧Kept w w':=by
 have hl:=hr.1;have hm:=hr.2.1;have hl':=hr'.1;have hm':=hr'.2.1;unfold maxLen at hm hm'
 cases l with
 | nil =>
  obtain rfl:len=0:=by simpa using hl.symm
  cases l' with
  | nil=>exfalso;simp at hl';omega
  | cons y t =>
   have h0:0<len':=by omega
   rcases hr'.form with h | ⟨b,off,rfl⟩
   · omega
   obtain⟨hb,c1,c2⟩:=hr'.first
   clear hr hr' hl hl';have h1:decide (0<len')=true:=by simpa using h0
   go_enter Tryz.func219,Tryz.ntmps219;go_wp2;go_quiet (fail)
   go_wp2;go_ret;exact⟨rfl,Kept.drewN _ _⟩
 | cons x s =>
  have h0:0<len:=by simp only[List.length_cons] at hl;omega
  have h0':((len:Int)==0)=false:=by
   have:(len:Int)≠0:=by omega
   simpa using this
  rcases hr.form with h | ⟨b,off,rfl⟩
  · omega
  obtain⟨hb,c1,c2⟩:=hr.first
  cases l' with
  | nil =>
   obtain rfl:len'=0:=by simpa using hl'.symm
   clear hr hr' hl hl';go_enter Tryz.func219,Tryz.ntmps219;go_wp2;go_quiet (fail)
   go_wp2;go_ret;exact⟨rfl,Kept.drewN _ _⟩
  | cons y t =>
   have g0:0<len':=by simp only[List.length_cons] at hl';omega
   have g1:decide (0<len')=true:=by simpa using g0
   rcases hr'.form with h | ⟨b',off',rfl⟩
   · omega
   obtain⟨hb',d1,d2⟩:=hr'.first
   clear hr hr' hl hl';by_cases e:ltS y.1 x.1=true
   · have E:=lH (show jl (x::s) (y::t)=y.1 by rw[jl,if_pos e]);have e':Op.bytesLess y.1.toList x.1.toList=true:=e;clear e;go_enter Tryz.func219,Tryz.ntmps219;go_wp2;go_quiet (fail)
     go_wp2;go_ret;exact⟨by rw[E.out];rfl,Kept.drewN _ _⟩
   · have e:ltS y.1 x.1=false:=by simpa using e
     have E:=lH (show jl (x::s) (y::t)=x.1 by rw[jl,if_neg (by rw[e];decide)]);have e':Op.bytesLess y.1.toList x.1.toList=false:=e;clear e;go_enter Tryz.func219,Tryz.ntmps219;go_wp2;go_quiet (fail)
     go_wp2;go_ret;exact⟨by rw[E.out];rfl,Kept.drewN _ _⟩
def jfh (a:Option Addr) (len:Nat) (l:V) (n:ByteArray) (w:World) (e:Ending) (w':World):Prop :=
 ∃A c,e=.returned (.tuple #[.int .i64 (jq l n).1,.slice A (jq l n).2.length c])∧(jq l n).2.length≤c∧c≤maxLen∧(∀W,ju W a len l→ju W A (jq l n).2.length (jq l n).2)∧Kept w w'
theorem ju.tail {w:World} {b off len:Nat} {x:ByteArray×Int} {t:V} (h:ju w (some ⟨b,off,none⟩) len (x::t)):ju w (some ⟨b,off+2,none⟩) (len-1) t:=by
 have hl:=h.1;simp only[List.length_cons] at hl;refine⟨by omega,by have:=h.2.1;omega,(zY.cons.1 h.2.2.1).2,?_⟩;by_cases h0:len-1=0
 · exact .inl h0
 · refine .inr ⟨b,off+2,rfl,(h.cells (k:=0) (by omega)).1,fun i hi=>?_⟩;have:=(h.cells (k:=i+1) (by omega)).2;rw[jgM,jgH,show off+(i+1)*2=off+2+i*2 from by omega] at this;exact this
theorem ju.none_tail {w:World} {a:Option Addr} {len:Nat} {x:ByteArray×Int} {t:V} (h:ju w a len (x::t)) (h1:len=1):ju w a (len-1) t:=by
 have hl:=h.1;simp only[List.length_cons] at hl;exact⟨by omega,by have:=h.2.1;omega,(zY.cons.1 h.2.2.1).2,.inl (by omega)⟩
theorem XC (a:Option Addr) (len cap:Nat) (l:V) (n:ByteArray) (w:World) (hr:ju w a len l) (hc:len≤cap) (hm:cap≤maxLen) :
 Calls Tryz.prog 220 #[.slice a len cap,.string n] w (jfh a len l n w):=by
 have hl:=hr.1;have hm':=hm;unfold maxLen at hm
 cases l with
 | nil =>
  obtain rfl:len=0:=by simpa using hl.symm
  have HT:=lH (show jfh a 0 [] n w (.returned (.tuple #[.int .i64 0,.slice a 0 cap])) w from⟨a,cap,rfl,hc,hm',fun _ h=>h,Kept.refl _⟩);clear hr hl hm';go_enter Tryz.func220,Tryz.ntmps220;go_wp2;go_ret2
  exact HT.out
 | cons x s =>
  have h0:0<len:=by simp only[List.length_cons] at hl;omega
  have h0':((len:Int)==0)=false:=by
   have:(len:Int)≠0:=by omega
   simpa using this
  rcases hr.form with h | ⟨b,off,rfl⟩
  · omega
  obtain⟨hb,c1,c2⟩:=hr.first
  by_cases e:eqS x.1 n=true
  · have E:=lH (show jq (x::s) n=(x.2,s) by rw[jq,if_pos e]);have e':(x.1.toList==n.toList)=true:=e;have e'':(x.1.toList != n.toList)=false:=by rw[bne,e'];rfl
    obtain⟨HR,HM,HL⟩:=lH3 hr hm' hl;clear e hr hl hm';by_cases hcap:cap=1
    · subst hcap;obtain rfl:len=1:=by omega
      obtain rfl:s=[]:=by have:=HL.out;simp only[List.length_cons] at this;exact List.eq_nil_of_length_eq_zero (by omega)
      have HT:=lH (show ∀k,jfh (some ⟨b,off,none⟩) 1 [x] n w (.returned (.tuple #[.int .i64 x.2,.slice (some ⟨b,off,none⟩) 0 0])) (w.drewN k) from fun k=>⟨some ⟨b,off,none⟩,0,by rw[E.out];rfl,by rw[E.out];exact Nat.le_refl _,by decide,by rw[E.out];exact fun W h=>h.none_tail rfl,Kept.drewN _ _⟩);go_enter Tryz.func220,Tryz.ntmps220;go_wp2;go_quiet (fail)
      go_wp2;go_ret2
      exact HT.out _
    · have hc2:2≤cap:=by omega
      have hl1:len-1=s.length:=by have:=HL.out;simp only[List.length_cons] at this;omega
      have HT:=lH (show ∀k,jfh (some ⟨b,off,none⟩) len (x::s) n w (.returned (.tuple #[.int .i64 x.2,.slice (some ⟨b,off+2,none⟩) (len-1) (cap-1)])) (w.drewN k) from fun k =>
       ⟨some ⟨b,off+2,none⟩,cap-1,by rw[E.out,hl1],by rw[E.out];show s.length≤cap-1;omega,by unfold maxLen;omega,by rw[E.out];intro W h;have:=h.tail;rw[hl1] at this;exact this,Kept.drewN _ _⟩)
      clear hl1;have hc3:¬cap=1:=hcap;have hc4:¬cap-1=0:=by omega
      clear hcap;go_enter Tryz.func220,Tryz.ntmps220;go_wp2;go_quiet (fail)
      go_wp2;go_ret2
      exact HT.out _
  · have e:eqS x.1 n=false:=by simpa using e
    have E:=lH (show jq (x::s) n=(0,x::s) by rw[jq,if_neg (by rw[e];decide)]);have e':(x.1.toList==n.toList)=false:=e;have e'':(x.1.toList != n.toList)=true:=by rw[bne,e'];rfl
    have HT:=lH (show jfh (some ⟨b,off,none⟩) len (x::s) n w (.returned (.tuple #[.int .i64 0,.slice (some ⟨b,off,none⟩) len cap])) w from⟨some ⟨b,off,none⟩,cap,by rw[E.out];show _=Ending.returned (.tuple #[_,Value.slice _ (x::s).length _]);rw[hl],by rw[E.out];show (x::s).length≤cap;omega,hm',by rw[E.out];intro W h;show ju W _ (x::s).length (x::s);rw[hl];exact h,Kept.refl _⟩);clear e hr hl hm';go_enter Tryz.func220,Tryz.ntmps220;go_wp2;go_ret2
    exact HT.out
def jD (x y:Int):Int×Int:=if x+y≤9223372036854775807 then (x+y,0) else (0,5)
def j5 (x y:Int):Int×Int:=if y≤x then (x-y,0) else (0,5)
theorem jcJ {x y:Int} (h:0≤x∧x≤9223372036854775807) (g:0≤y∧y≤9223372036854775807):0≤(jD x y).1∧(jD x y).1≤9223372036854775807:=by
 unfold jD;split
 · dsimp only;omega
 · decide
theorem jgA {x y:Int} (h:0≤x∧x≤9223372036854775807) (g:0≤y∧y≤9223372036854775807):0≤(j5 x y).1∧(j5 x y).1≤9223372036854775807:=by
 unfold j5;split
 · dsimp only;omega
 · decide
def ZQ (acc:V) (s:ByteArray) (n:Int):V:=if n=0 then acc else acc++[(s,n)]
def jW (f:Int→Int→Int×Int):Nat→V→V→V→Int×V
 | 0,_,_,acc=>(0,acc)
 | fuel+1,la,lb,acc =>
  if la.length+lb.length=0 then (0,acc)
  else
   let s:=jl la lb
   let r:=f (jq la s).1 (jq lb s).1
   if r.2≠0 then (r.2,[]) else jW f fuel (jq la s).2 (jq lb s).2 (ZQ acc s r.1)
def jj (f:Int→Int→Int×Int) (l l':V):Int×V :=
 if jv l≠0 then (jv l,[])
 else if jv l'≠0 then (jv l',[])
 else
  let r:=jW f (l.length+l'.length) l l' []
  if r.1≠0 then (r.1,[]) else if 8<r.2.length then (4,[]) else (0,r.2)
theorem jaq {f:Int→Int→Int×Int} {fuel:Nat} {la lb acc:V} (h:la.length+lb.length=0):jW f fuel la lb acc=(0,acc):=by
 cases fuel with
 | zero=>rfl
 | succ n=>rw[jW,if_pos h]
theorem jdm {f:Int→Int→Int×Int} {fuel:Nat} {la lb acc:V} (h:0<la.length+lb.length) (hf:la.length+lb.length≤fuel)
 (hx:(f (jq la (jl la lb)).1 (jq lb (jl la lb)).1).2≠0):jW f fuel la lb acc=((f (jq la (jl la lb)).1 (jq lb (jl la lb)).1).2,[]):=by
 cases fuel with
 | zero=>omega
 | succ n=>rw[jW,if_neg (by omega)];dsimp only;rw[if_pos hx]
theorem jb7 {f:Int→Int→Int×Int} {fuel:Nat} {la lb acc:V} (h:0<la.length+lb.length) (hf:la.length+lb.length≤fuel)
 (hx:(f (jq la (jl la lb)).1 (jq lb (jl la lb)).1).2=0) :
 ∃fuel',fuel=fuel'+1∧jW f fuel la lb acc=jW f fuel' (jq la (jl la lb)).2 (jq lb (jl la lb)).2 (ZQ acc (jl la lb) (f (jq la (jl la lb)).1 (jq lb (jl la lb)).1).1):=by
 cases fuel with
 | zero=>omega
 | succ n=>exact⟨n,rfl,by rw[jW,if_neg (by omega)];dsimp only;rw[if_neg (by rw[hx];decide)]⟩
theorem J7 (s:ByteArray):eqS s s=true:=by unfold eqS;exact beq_self_eq_true _
theorem zw (x:ByteArray×Int) (t:V) (n:ByteArray):jq (x::t) n=if eqS x.1 n=true then (x.2,t) else (0,x::t):=rfl
theorem JD (x y:ByteArray×Int) (s t:V):jl (x::s) (y::t)=if ltS y.1 x.1=true then y.1 else x.1:=rfl
theorem jeS (l:V) (s:ByteArray):(jq l s).2.length≤l.length:=by
 cases l with
 | nil=>exact Nat.le_refl _
 | cons x t=>rw[zw];split<;>simp
theorem qg {x:ByteArray×Int} (t:V):(jq (x::t) x.1).2.length=t.length:=by
 rw[zw,if_pos (J7 _)]
theorem qy {la lb:V} (h:0<la.length+lb.length):(jq la (jl la lb)).2.length+(jq lb (jl la lb)).2.length+1≤la.length+lb.length:=by
 cases la with
 | nil =>
  cases lb with
  | nil=>simp at h
  | cons y t =>
   have e:jl [] (y::t)=y.1:=rfl;rw[e,qg t];simp[jq]
 | cons x s =>
  cases lb with
  | nil =>
   have e:jl (x::s) []=x.1:=rfl;rw[e,qg s];simp[jq]
  | cons y t =>
   by_cases hlt:ltS y.1 x.1=true
   · have e:jl (x::s) (y::t)=y.1:=by rw[jl,if_pos hlt]
     have:=jeS (x::s) y.1;rw[e,qg t];simp only[List.length_cons] at *;omega
   · have e:jl (x::s) (y::t)=x.1:=by rw[jl,if_neg hlt]
     have:=jeS (y::t) x.1;rw[e,qg s];simp only[List.length_cons] at *;omega
def Pos (l:V):Prop:=∀x ∈ l,0≤x.2∧x.2≤9223372036854775807∧x.1.size≤maxLen
theorem XL {l:V} (h:Pos l) (s:ByteArray):(0≤(jq l s).1∧(jq l s).1≤9223372036854775807)∧Pos (jq l s).2:=by
 cases l with
 | nil=>exact⟨⟨by simp[jq],by simp[jq]⟩,h⟩
 | cons x t =>
  have hx:=h x (by simp);rw[zw];split
  · exact⟨⟨hx.1,hx.2.1⟩,fun y hy=>h y (by simp[hy])⟩
  · exact⟨⟨Int.le_refl _,by show (0:Int)≤_;omega⟩,h⟩
theorem qR {la lb:V} (ha:Pos la) (hb:Pos lb):(jl la lb).size≤maxLen:=by
 cases la with
 | nil =>
  cases lb with
  | nil=>show 0≤maxLen;exact Nat.zero_le _
  | cons y t=>exact(hb y (by simp)).2.2
 | cons x s =>
  cases lb with
  | nil=>exact(ha x (by simp)).2.2
  | cons y t =>
   rw[JD];split
   · exact(hb y (by simp)).2.2
   · exact(ha x (by simp)).2.2
theorem Xv {l:V} (h:jv l=0) (hf:zY l):Pos l:=by
 have h2:jJ none l=0:=by
  unfold jv at h;split at h
  · cases h
  · exact h
 have key:∀(l:V) (p:Option ByteArray),jJ p l=0→zY l→Pos l:=by
  intro l
  induction l with
  | nil=>intro _ _ _ x hx;cases hx
  | cons x t ih =>
   intro p hc hf;rw[zY.cons] at hf;unfold jJ at hc;split at hc
   · cases hc
   · split at hc
     · cases hc
     · split at hc
       · cases hc
       · intro y hy;rcases List.mem_cons.1 hy with rfl | hy
         · exact⟨by omega,hf.1.2.2,hf.1.1⟩
         · exact ih _ hc hf.2 y hy
 exact key l none h2 hf
theorem Zz {l:V} (h:jv l=0):l.length≤8:=by
 unfold jv at h;split at h
 · cases h
 · omega
def lenOf:Value→Nat
 | .slice _ n _=>n
 | _=>0
def j6 (r:Int×V) (base:Nat) (w:World) (e:Ending) (w':World):Prop :=
 (r.1=0→∃v,e=.returned v∧jQ 114 w' base v r.2)∧(r.1≠0→e=.panicked [zo r.1])∧Below base w w'
theorem j6.good {r:Int×V} {base:Nat} {w w':World} {v:Value} (h:r.1=0) (ho:jQ 114 w' base v r.2) (hb:Below base w w'):j6 r base w (.returned v) w':=⟨fun _=>⟨v,rfl,ho⟩,fun g=>absurd h g,hb⟩
theorem j6.bad {r:Int×V} {base:Nat} {w w':World} {c:Int} (h:r.1=c) (hc:c≠0) (hb:Below base w w'):j6 r base w (.panicked [zo c]) w':=⟨fun g=>absurd (h.symm.trans g) hc,fun _=>by rw[h],hb⟩
theorem Za (B:Nat) (q:Nat) (x y:Int) (w:World) (hq:w.cell? ⟨q,0,none⟩=some (.int .i64 y)) (hzq:w.frozen? ⟨q,0,none⟩=false) (hBq:B≤q) :
 CallsD Tryz.prog 218 #[.pointer (some ⟨q,0,none⟩)] (.panicking [zo x]) w fun e u' w' =>
  e=.returned (.tuple #[])∧u'=.panicking [{ zo x with recovered:=true }]∧w'.cell? ⟨q,0,none⟩=some (.int .i64 x)∧Below B w w':=by
 have hta:∀W,(Instr.typeAssert (.iface 69 (.int .i64 x)) 20 69 false).run Tryz.prog W=.ok (.int .i64 x) W:=fun _=>by kernel_rfl
 refine callsD_of_wpS Tryz.func218 rfl fun c₀ cs hu=>?_;apply wpS_seq;apply wpS_region;simp[wpOpsS,go_sem,recoverD,hu,Tryz.ntmps218,Exit.thenS];apply wpS_seq;apply wpS_region;simp[wpOpsS,go_sem,recoverD,Exit.thenS];refine wpS_cond (t:=true) (by simp[Act.eval,Array.replicate]) ?_;simp only[if_true];refine wpS_of_wp ?_;simp[Array.replicate];go_wp2;simp[bodyPostS,results,Tryz.results218];exact⟨World.cell?_setCell_same' _ _ _ (by rw[hq];rfl),(Below.refl B w).setCell (p:=⟨q,0,none⟩) hBq _⟩
theorem YN (q:Addr) (w:World) :
 CallsD Tryz.prog 218 #[.pointer (some q)] .returning w fun e u' w'=>e=.returned (.tuple #[])∧u'=.returning∧w'=w:=by
 refine callsD_of_wpS Tryz.func218 rfl fun c₀ cs hu=>?_;apply wpS_seq;apply wpS_region;simp[wpOpsS,go_sem,recoverD,hu,Tryz.ntmps218,Exit.thenS];apply wpS_seq;apply wpS_region;simp[wpOpsS,go_sem,recoverD,hu,Exit.thenS];refine wpS_cond (t:=false) (by simp[Act.eval,Array.replicate]) ?_;simp only[Bool.false_eq_true,if_false];refine wpS_of_wp (wp_skip ?_)
 cases c₀
 simp_all [bodyPostS,results,Tryz.results218]
theorem jQ.base_le {e:TypeId} {w:World} {B B':Nat} {v:Value} {l:V} (h:jQ e w B' v l) (hb:B≤B'):jQ e w B v l:=by
 obtain⟨⟨h0,h1⟩,hf⟩:=h;refine⟨⟨h0,h1.imp id ?_⟩,hf⟩;rintro ⟨g,cap,cur,rfl,hbg,rest⟩;exact⟨g,cap,cur,rfl,Nat.le_trans hb hbg,rest⟩
theorem jQ.setCell_below {e:TypeId} {w:World} {B:Nat} {v:Value} {l:V} (h:jQ e w B v l) {a:Addr} (ha:a.block<B) (u:Value):jQ e (w.setCell a u) B v l :=
 ⟨ownsRow_setCell_below h.1 ha u,h.2⟩
def Yy (r:Int×V) (w:World) (e:Ending) (w':World):Prop :=
 ∃v,e=.returned (.tuple #[v,.int .i64 r.1])∧jQ 114 w' w.heap.size v r.2∧Kept w w'
theorem jml (x y:Int) (w:World) (h0:0≤x) (h1:x≤9223372036854775807) (h2:0≤y) (h3:y≤9223372036854775807) :
 Calls Tryz.prog 191 #[.int .i64 x,.int .i64 y] w (Ans (jD x y).1 (jD x y).2 w):=by
 by_cases h:x+y≤9223372036854775807
 · have e:jD x y=(x+y,0):=by unfold jD;rw[if_pos h]
   rw[e];exact(jmu x y w h0 h2 h).mono fun _ _ g=>g.ans
 · have e:jD x y=(0,5):=by unfold jD;rw[if_neg h]
   rw[e];exact(jj6 x y w h0 h2 h3 (by omega)).mono fun _ _ g=>g.ans
theorem jg8 (a a':Option Addr) (len cap len' cap':Nat) (l l':V) (w:World) (hr:ju w a len l) (hr':ju w a' len' l') (hc:len≤cap) (hm:cap≤maxLen) (hc':len'≤cap') (hm':cap'≤maxLen) :
 Calls Tryz.prog 190 #[.slice a len cap,.slice a' len' cap',.func (.func 191) #[] #[]] w (j6 (jj jD l l') w.heap.size w):=by
 by_cases h1:jv l=0
 · by_cases h2:jv l'=0
   · have HL:=lH hr.1;have HL':=lH hr'.1;have P1:=lH (Xv h1 hr.2.2.1);have P2:=lH (Xv h2 hr'.2.2.1);have n8:len≤8:=by have:=Zz h1;rw[hr.1] at this;exact this
     have n8':len'≤8:=by have:=Zz h2;rw[hr'.1] at this;exact this
     obtain⟨R,hR⟩:=eX (jW jD (l.length+l'.length) l l' [])
     have HM:=lH (show jj jD l l'=if R.1≠0 then (R.1,[]) else if 8<R.2.length then (4,[]) else (0,R.2) by
      unfold jj;rw[if_neg (by rw[h1];decide),if_neg (by rw[h2];decide)];dsimp only;rw[hR])
     obtain⟨HR,H1,H2,HA,HB⟩:=lH5 hR h1 h2 hr hr';clear hR h1 h2 hr hr';go_enter Tryz.func190,Tryz.ntmps190;go_wp2_with fail
     refine(zQ _ _ _ l _ HA.out).mono ?_;rintro e1 w1 ⟨g1,_,k1⟩;obtain rfl:=g1 H1.out;have K1:=lH k1;clear g1 k1;go_wp2_with fail
     refine(zQ _ _ _ l' _ (HB.out.kept K1.out)).mono ?_;rintro e2 w2 ⟨g2,_,k2⟩;obtain rfl:=g2 H2.out;have K2:=lH (K1.out.trans k2);clear g2 k2;go_wp2
     go_loopw [0,1,7] (fun va vb v wr=>∃(A B:Option Addr) (n c n' c':Nat) (la lb acc:V) (fuel:Nat),va=.slice A n c∧vb=.slice B n' c'∧n≤c∧c≤maxLen∧n'≤c'∧c'≤maxLen ∧
      ju w A n la∧ju w B n' lb∧Pos la∧Pos lb∧jQ 114 wr w.heap.size v acc∧Below w.heap.size w wr∧n+n'≤fuel∧jW jD fuel la lb acc=R∧acc.length+n+n'≤16)
      (fun va vb _ _=>lenOf va+lenOf vb)
     case atStart =>
      exact⟨a,a',len,cap,len',cap',l,l',[],l.length+l'.length,rfl,rfl,hc,hm,hc',hm',HA.out,HB.out,P1.out,P2.out,jQ.nil _ _ _,K2.out,by rw[HL.out,HL'.out];exact Nat.le_refl _,HR.out,by simp;omega⟩
     case round =>
      obtain⟨A,B,n,c,n',c',la,lb,acc,fuel,rfl,rfl,c1,c2,c3,c4,va1,vb1,pa,pb,ho,hB,hfuel,hres,h16⟩:=hrel;obtain⟨VA,VB,PA,PB,HO,Vg,HQ,LA⟩:=lH8 va1 vb1 pa pb ho hB hres va1.1;have LB:=lH vb1.1;clear va1 vb1 pa pb ho hB hres;by_cases hz:n+n'=0
      · obtain rfl:n=0:=by omega
        obtain rfl:n'=0:=by omega
        clear hz;obtain⟨av,cv,rfl,g1,g2,g3⟩:=HO.out.at_;have HE:=lH (show R=(0,acc) from HQ.out.symm.trans (jaq (by rw[LA.out,LB.out])));have hal:acc.length≤9223372036854775807:=by omega
        clear g3 g1 g2;by_cases h8:acc.length≤8
        · have HF:=lH (show jj jD l l'=(0,acc) by rw[HM.out,HE.out];dsimp only;rw[if_neg (by decide),if_neg (by omega)]);go_wp2_with fail
          refine(jaE _ _ _ _ h8).mono ?_;rintro e3 w3 ⟨rfl,rfl⟩;go_wp2;go_ret;exact j6.good (by rw[HF.out]) (by rw[HF.out];exact HO.out) Vg.out
        · have HF:=lH (show jj jD l l'=(4,[]) by rw[HM.out,HE.out];dsimp only;rw[if_neg (by decide),if_pos (by omega)]);go_wp2_with fail
          refine(jbn _ _ _ _ (by omega) hal).mono ?_;rintro e3 w3 ⟨rfl,rfl⟩;go_wp2;exact⟨rfl,j6.bad (by rw[HF.out]) (by decide) Vg.out⟩
      · have hpos:0<n+n':=by omega
        clear hz;obtain⟨HP,HU,HS,T1,T2⟩:=lH5 (show 0<la.length+lb.length by rw[LA.out,LB.out];exact hpos) (show la.length+lb.length≤fuel by rw[LA.out,LB.out];exact hfuel) (qR PA.out PB.out) (XL PA.out (jl la lb)) (XL PB.out (jl la lb));have Vw:=lH (qy HP.out);obtain⟨r1,r2,hr⟩:∃r1 r2,jD (jq la (jl la lb)).1 (jq lb (jl la lb)).1=(r1,r2):=⟨_,_,rfl⟩
        have QF:=lH (show ∀W,Calls Tryz.prog 191 #[.int .i64 (jq la (jl la lb)).1,.int .i64 (jq lb (jl la lb)).1] W (Ans r1 r2 W) from fun W=>by
         have:=jml _ _ W T1.out.1.1 T1.out.1.2 T2.out.1.1 T2.out.1.2;rw[hr] at this;exact this)
        have V9:=lH hr;have RB:=lH (show 0≤r1∧r1≤9223372036854775807 by have:=jcJ (T1.out.1) (T2.out.1);rw[hr] at this;exact this);clear hr;have hd:(decide (0<n)||decide (0<n'))=true:=by simp;omega
        rcases Nat.eq_zero_or_pos n with h0 | h0
        case' inl=>(have d2:decide (0<n')=true:=by simp;omega)
        case' inl=>(subst h0)
        case' inr=>(have d1:decide (0<n)=true:=by simp;omega)
        all_goals
         clear hd;go_wp2_with fail
         refine(jan _ _ _ _ _ _ la lb _ (VA.out.kept Vg.out) (VB.out.kept Vg.out) (by omega)).mono ?_;rintro e3 w3 ⟨rfl,k3⟩;have K3:=lH k3;clear k3;go_wp2_with fail
         refine(XC _ _ _ la _ _ ((VA.out.kept Vg.out).kept K3.out) c1 c2).mono ?_;rintro e4 w4 ⟨A4,c4',rfl,q1,q2,V4,k4⟩;have K4:=lH (K3.out.trans k4);have Tp:=lH V4;clear k4 V4;go_wp2_with fail
         refine(XC _ _ _ lb _ _ ((VB.out.kept Vg.out).kept K4.out) c3 c4).mono ?_;rintro e5 w5 ⟨A5,c5',rfl,q3,q4,V5,k5⟩;have K5:=lH (K4.out.trans k5);have Tq:=lH V5;clear k5 V5;go_wp2_with fail
         refine(QF.out _).mono ?_;rintro e6 w6 ⟨rfl,k6⟩;have K6:=lH (K5.out.trans k6);clear k6;by_cases hx:r2=0
         · subst hx;go_wp2_with fail
           refine(jfc _ _).mono ?_;rintro e7 w7 ⟨rfl,rfl⟩;obtain⟨fuel',hf1,hf2⟩:=jb7 (f:=jD) (acc:=acc) HP.out HU.out (by rw[V9.out]);have Tr:=lH hf1;have Ts:=lH hf2;clear hf1 hf2;have Ve:=lH (show Below w.heap.size w w6 from Vg.out.trans (Below.mono K6.out Vg.out.size));by_cases hy:r1=0
           · subst hy;go_wp2_with fail
             refine(jda _ _ _).mono ?_;rintro e8 w8 ⟨rfl,rfl⟩;go_wp2;go_roundw
             case rel =>
              refine⟨A4,A5,_,c4',_,c5',_,_,acc,fuel',rfl,rfl,q1,q2,q3,q4,Tp.out w VA.out,Tq.out w VB.out,T1.out.2,T2.out.2,HO.out.kept K6.out,Ve.out,?_,?_,?_⟩
              · have:=Vw.out;have:=HU.out;have:=Tr.out;omega
              · have:=Ts.out;rw[V9.out] at this;rw[←HQ.out,this];rfl
              · have:=Vw.out;have:=LA.out;have:=LB.out;omega
             case measure=>(show lenOf (Value.slice _ _ _)+lenOf (Value.slice _ _ _)<lenOf (Value.slice _ _ _)+lenOf (Value.slice _ _ _);simp only[lenOf];have:=Vw.out;have:=LA.out;have:=LB.out;omega)
           · go_wp2_with fail
             refine(jdq _ _ r1 w.heap.size acc _ (HO.out.kept K6.out) hy HS.out (by have:=RB.out;omega) (by have:=RB.out;omega) (by omega) Ve.out.size).mono ?_;rintro e8 w8 ⟨v8,rfl,o8,b8⟩;obtain⟨O8,B8,HY⟩:=lH3 o8 b8 hy;clear o8 b8 hy;go_wp2;go_roundw
             case rel =>
              refine⟨A4,A5,_,c4',_,c5',_,_,_,fuel',rfl,rfl,q1,q2,q3,q4,Tp.out w VA.out,Tq.out w VB.out,T1.out.2,T2.out.2,O8.out,Ve.out.trans B8.out,?_,?_,?_⟩
              · have:=Vw.out;have:=HU.out;have:=Tr.out;omega
              · have:=Ts.out;rw[V9.out] at this;rw[←HQ.out,this];dsimp only;unfold ZQ;rw[if_neg HY.out]
              · have:=Vw.out;have:=LA.out;have:=LB.out;rw[List.length_append];simp only[List.length_cons,List.length_nil];omega
             case measure=>(show lenOf (Value.slice _ _ _)+lenOf (Value.slice _ _ _)<lenOf (Value.slice _ _ _)+lenOf (Value.slice _ _ _);simp only[lenOf];have:=Vw.out;have:=LA.out;have:=LB.out;omega)
         · have HX:=lH hx;have HE:=lH (show jj jD l l'=(r2,[]) by
            rw[HM.out,←HQ.out,jdm HP.out HU.out (by rw[V9.out];exact hx),V9.out];dsimp only;rw[if_pos hx])
           go_wp2_with fail
           refine(jc7 _ _ _ hx).mono ?_;rintro e7 w7 ⟨rfl,rfl⟩;clear hx;go_wp2;exact⟨rfl,j6.bad (by rw[HE.out]) HX.out (Vg.out.trans (Below.mono K6.out Vg.out.size))⟩
   · obtain⟨HM,HA,HB,H1,H2⟩:=lH5 (show jj jD l l'=(jv l',[]) by unfold jj;rw[if_neg (by rw[h1];decide),if_pos h2]) hr hr' h1 h2;clear h1 h2 hr hr';go_enter Tryz.func190,Tryz.ntmps190;go_wp2_with fail
     refine(zQ _ _ _ l _ HA.out).mono ?_;rintro e1 w1 ⟨g1,_,k1⟩;obtain rfl:=g1 H1.out;have K1:=lH k1;clear g1 k1;go_wp2_with fail
     refine(zQ _ _ _ l' _ (HB.out.kept K1.out)).mono ?_;rintro e2 w2 ⟨_,g2,k2⟩;obtain rfl:=g2 H2.out;have K2:=lH (K1.out.trans k2);clear g2 k2;go_wp2;exact⟨rfl,j6.bad (by rw[HM.out]) H2.out K2.out⟩
 · obtain⟨HM,HA,H1⟩:=lH3 (show jj jD l l'=(jv l,[]) by unfold jj;rw[if_pos h1]) hr h1;clear h1 hr hr';go_enter Tryz.func190,Tryz.ntmps190;go_wp2_with fail
   refine(zQ _ _ _ l _ HA.out).mono ?_;rintro e1 w1 ⟨_,g1,k1⟩;obtain rfl:=g1 H1.out;have K1:=lH k1;clear g1 k1;go_wp2;exact⟨rfl,j6.bad (by rw[HM.out]) H1.out K1.out⟩
theorem jhG (C:Addr×Addr) (r:Int×V) (w:World) (hr:r.1≠0→r.2=[])
 (hk:∀W,Kept w W→Calls Tryz.prog 189 #[.pointer (some C.1),.pointer (some C.2)] W (j6 r W.heap.size W)) :
 Calls Tryz.prog 188 #[.func (.func 189) #[] #[.pointer (some C.1),.pointer (some C.2)]] w (Yy r w):=by
 have hmf:=hmfL (P:=Tryz.prog);have HK:=lH hk;have HR:=lH hr;clear hk hr;obtain⟨r1,r2⟩:=r;go_enter_defers Tryz.func188,Tryz.ntmps188
 go_wp2_with fail
 refine(HK.out _ (ja _ _)).mono ?_;rintro e1 w1 ⟨h0,h1,hb⟩;have k1:=hb.size;simp only[World.size_alloc] at k1;have c2:=(hb.cell (p:=⟨w.heap.size,0,none⟩) (by simp))
 have z2:=(hb.frozen (p:=⟨w.heap.size,0,none⟩) (by simp))
 have e2':w1.cell? ⟨w.heap.size,0,none⟩=some (.int .i64 0):=by rw[c2];go_simp
 have y2:w1.frozen? ⟨w.heap.size,0,none⟩=false:=by rw[z2];go_simp
 clear c2 z2;have KB:=lH (show Below w.heap.size w w1 from(ja w _).trans hb);by_cases hx:r1=0
 · subst hx;obtain⟨v,rfl,ho⟩:=h0 rfl;have HO:=lH ho;obtain⟨av,cv,rfl,_,_,_⟩:=ho.at_;have hsz:=World.size_alloc w (.cells #[.int .i64 0] 69);clear h0 h1 hb ho;go_wp2_with fail
   refine leaves_cons (f:=218) (args:=#[.pointer (some ⟨w.heap.size,0,none⟩)]) (by simp) (by simp[go_sem]) ?_;refine(YN ⟨w.heap.size,0,none⟩ _).mono ?_;rintro e u' w'' ⟨rfl,rfl,rfl⟩;simp[Leaves,settle,results,Tryz.results188,go_sem,e2'];exact⟨_,rfl,(HO.out.setCell_below (a:=⟨w.heap.size,0,none⟩) (by simp) _).base_le (by simp),KB.out.setCell (p:=⟨w.heap.size,0,none⟩) (Nat.le_refl _) _⟩
 · obtain rfl:=h1 hx;obtain rfl:=HR.out hx;clear h0 h1 hb;go_wp2_with fail
   refine leaves_cons (f:=218) (args:=#[.pointer (some ⟨w.heap.size,0,none⟩)]) (by simp) (by simp[go_sem]) ?_;refine(Za w.heap.size w.heap.size r1 0 _ e2' y2 (by omega)).mono ?_;rintro e u' w'' ⟨rfl,rfl,q2,q3⟩;simp[Leaves,settle,results,Tryz.results188,go_sem,q2];exact⟨_,rfl,jQ.nil _ _ _,KB.out.trans q3⟩
theorem jfz (C:Addr×Addr) (a a':Option Addr) (len cap len' cap':Nat) (l l':V) (w:World) (h1:w.cell? C.1=some (.slice a len cap)) (h2:w.cell? C.2=some (.slice a' len' cap'))
 (hr:ju w a len l) (hr':ju w a' len' l') (hc:len≤cap) (hm:cap≤maxLen) (hc':len'≤cap') (hm':cap'≤maxLen) :
 Calls Tryz.prog 189 #[.pointer (some C.1),.pointer (some C.2)] w (j6 (jj jD l l') w.heap.size w):=by
 have HR:=lH hr;have HR':=lH hr';have HM:=lH hm;have HM':=lH hm';clear hr hr' hm hm';go_enter Tryz.func189,Tryz.ntmps189;go_wp2_with fail
 refine(jg8 a a' len cap len' cap' l l' _ HR.out HR'.out hc HM.out hc' HM'.out).mono ?_;rintro e w' ⟨g0,g1,k⟩;by_cases hx:(jj jD l l').1=0
 · obtain⟨v,rfl,ho⟩:=g0 hx;obtain⟨HX,HO,HK⟩:=lH3 hx ho k;clear g0 g1 hx ho k;go_wp2;go_ret;exact j6.good HX.out HO.out HK.out
 · obtain rfl:=g1 hx;have HX:=lH hx;have HK:=lH k;clear g0 g1 hx k;go_wp2;exact⟨rfl,j6.bad rfl HX.out HK.out⟩
theorem jcc (l l':V):(jj jD l l').1≠0→(jj jD l l').2=[]:=by
 unfold jj;split
 · exact fun _=>rfl
 · split
   · exact fun _=>rfl
   · dsimp only;split
     · exact fun _=>rfl
     · split
       · exact fun _=>rfl
       · exact fun h=>absurd rfl h
theorem jlO (a a':Option Addr) (len cap len' cap':Nat) (l l':V) (w:World)
 (hr:ju w a len l) (hr':ju w a' len' l') (hc:len≤cap) (hm:cap≤maxLen) (hc':len'≤cap') (hm':cap'≤maxLen) :
 Calls Tryz.prog 149 #[.slice a len cap,.slice a' len' cap'] w (Yy (jj jD l l') w):=by
 have hmf:=hmfL (P:=Tryz.prog);have hC:∀W,Kept ((w.alloc (.cells #[.slice a len cap] 45)).alloc (.cells #[.slice a' len' cap'] 45)) W→Calls Tryz.prog 189 #[.pointer (some ⟨w.heap.size,0,none⟩),.pointer (some ⟨w.heap.size+1,0,none⟩)] W (j6 (jj jD l l') W.heap.size W):=by
  intro W k;have c1:=k.cell (p:=⟨w.heap.size,0,none⟩) (by simp;omega);have c2:=k.cell (p:=⟨w.heap.size+1,0,none⟩) (by simp);exact jfz (⟨w.heap.size,0,none⟩,⟨w.heap.size+1,0,none⟩) a a' len cap len' cap' l l' W (by rw[c1];go_simp) (by rw[c2];go_simp) (hr.kept ((jm w _ _).trans k)) (hr'.kept ((jm w _ _).trans k)) hc hm hc' hm'
 have HC:=lH hC;clear hC hr hr' hm hm';go_enter Tryz.func149,Tryz.ntmps149;go_wp2_with fail
 refine(jhG (⟨w.heap.size,0,none⟩,⟨w.heap.size+1,0,none⟩) (jj jD l l') _ (jcc l l') HC.out).mono ?_;rintro e w' ⟨v,rfl,ho,k⟩;have HO:=lH ho;have HK:=lH k;clear ho k;go_wp2;go_ret2
 exact⟨v,rfl,HO.out.base_le (by simp;omega),(jm w _ _).trans HK.out⟩
theorem jma (x y:Int) (w:World) (h0:0≤x) (h1:x≤9223372036854775807) (h2:0≤y) (h3:y≤9223372036854775807) :
 Calls Tryz.prog 258 #[.int .i64 x,.int .i64 y] w (Ans (j5 x y).1 (j5 x y).2 w):=by
 by_cases h:y≤x
 · have e:j5 x y=(x-y,0):=by unfold j5;rw[if_pos h]
   rw[e];exact(jmj x y w h2 h1 h).mono fun _ _ g=>g.ans
 · have e:j5 x y=(0,5):=by unfold j5;rw[if_neg h]
   rw[e];exact(jkK x y w h0 h3 (by omega)).mono fun _ _ g=>g.ans
theorem jhu (a a':Option Addr) (len cap len' cap':Nat) (l l':V) (w:World) (hr:ju w a len l) (hr':ju w a' len' l') (hc:len≤cap) (hm:cap≤maxLen) (hc':len'≤cap') (hm':cap'≤maxLen) :
 Calls Tryz.prog 190 #[.slice a len cap,.slice a' len' cap',.func (.func 258) #[] #[]] w (j6 (jj j5 l l') w.heap.size w):=by
 by_cases h1:jv l=0
 · by_cases h2:jv l'=0
   · have HL:=lH hr.1;have HL':=lH hr'.1;have P1:=lH (Xv h1 hr.2.2.1);have P2:=lH (Xv h2 hr'.2.2.1);have n8:len≤8:=by have:=Zz h1;rw[hr.1] at this;exact this
     have n8':len'≤8:=by have:=Zz h2;rw[hr'.1] at this;exact this
     obtain⟨R,hR⟩:=eX (jW j5 (l.length+l'.length) l l' [])
     have HM:=lH (show jj j5 l l'=if R.1≠0 then (R.1,[]) else if 8<R.2.length then (4,[]) else (0,R.2) by
      unfold jj;rw[if_neg (by rw[h1];decide),if_neg (by rw[h2];decide)];dsimp only;rw[hR])
     obtain⟨HR,H1,H2,HA,HB⟩:=lH5 hR h1 h2 hr hr';clear hR h1 h2 hr hr';go_enter Tryz.func190,Tryz.ntmps190;go_wp2_with fail
     refine(zQ _ _ _ l _ HA.out).mono ?_;rintro e1 w1 ⟨g1,_,k1⟩;obtain rfl:=g1 H1.out;have K1:=lH k1;clear g1 k1;go_wp2_with fail
     refine(zQ _ _ _ l' _ (HB.out.kept K1.out)).mono ?_;rintro e2 w2 ⟨g2,_,k2⟩;obtain rfl:=g2 H2.out;have K2:=lH (K1.out.trans k2);clear g2 k2;go_wp2
     go_loopw [0,1,7] (fun va vb v wr=>∃(A B:Option Addr) (n c n' c':Nat) (la lb acc:V) (fuel:Nat),va=.slice A n c∧vb=.slice B n' c'∧n≤c∧c≤maxLen∧n'≤c'∧c'≤maxLen ∧
      ju w A n la∧ju w B n' lb∧Pos la∧Pos lb∧jQ 114 wr w.heap.size v acc∧Below w.heap.size w wr∧n+n'≤fuel∧jW j5 fuel la lb acc=R∧acc.length+n+n'≤16)
      (fun va vb _ _=>lenOf va+lenOf vb)
     case atStart =>
      exact⟨a,a',len,cap,len',cap',l,l',[],l.length+l'.length,rfl,rfl,hc,hm,hc',hm',HA.out,HB.out,P1.out,P2.out,jQ.nil _ _ _,K2.out,by rw[HL.out,HL'.out];exact Nat.le_refl _,HR.out,by simp;omega⟩
     case round =>
      obtain⟨A,B,n,c,n',c',la,lb,acc,fuel,rfl,rfl,c1,c2,c3,c4,va1,vb1,pa,pb,ho,hB,hfuel,hres,h16⟩:=hrel;obtain⟨VA,VB,PA,PB,HO,Vg,HQ,LA⟩:=lH8 va1 vb1 pa pb ho hB hres va1.1;have LB:=lH vb1.1;clear va1 vb1 pa pb ho hB hres;by_cases hz:n+n'=0
      · obtain rfl:n=0:=by omega
        obtain rfl:n'=0:=by omega
        clear hz;obtain⟨av,cv,rfl,g1,g2,g3⟩:=HO.out.at_;have HE:=lH (show R=(0,acc) from HQ.out.symm.trans (jaq (by rw[LA.out,LB.out])));have hal:acc.length≤9223372036854775807:=by omega
        clear g3 g1 g2;by_cases h8:acc.length≤8
        · have HF:=lH (show jj j5 l l'=(0,acc) by rw[HM.out,HE.out];dsimp only;rw[if_neg (by decide),if_neg (by omega)]);go_wp2_with fail
          refine(jaE _ _ _ _ h8).mono ?_;rintro e3 w3 ⟨rfl,rfl⟩;go_wp2;go_ret;exact j6.good (by rw[HF.out]) (by rw[HF.out];exact HO.out) Vg.out
        · have HF:=lH (show jj j5 l l'=(4,[]) by rw[HM.out,HE.out];dsimp only;rw[if_neg (by decide),if_pos (by omega)]);go_wp2_with fail
          refine(jbn _ _ _ _ (by omega) hal).mono ?_;rintro e3 w3 ⟨rfl,rfl⟩;go_wp2;exact⟨rfl,j6.bad (by rw[HF.out]) (by decide) Vg.out⟩
      · have hpos:0<n+n':=by omega
        clear hz;obtain⟨HP,HU,HS,T1,T2⟩:=lH5 (show 0<la.length+lb.length by rw[LA.out,LB.out];exact hpos) (show la.length+lb.length≤fuel by rw[LA.out,LB.out];exact hfuel) (qR PA.out PB.out) (XL PA.out (jl la lb)) (XL PB.out (jl la lb));have Vw:=lH (qy HP.out);obtain⟨r1,r2,hr⟩:∃r1 r2,j5 (jq la (jl la lb)).1 (jq lb (jl la lb)).1=(r1,r2):=⟨_,_,rfl⟩
        have QF:=lH (show ∀W,Calls Tryz.prog 258 #[.int .i64 (jq la (jl la lb)).1,.int .i64 (jq lb (jl la lb)).1] W (Ans r1 r2 W) from fun W=>by
         have:=jma _ _ W T1.out.1.1 T1.out.1.2 T2.out.1.1 T2.out.1.2;rw[hr] at this;exact this)
        have V9:=lH hr;have RB:=lH (show 0≤r1∧r1≤9223372036854775807 by have:=jgA (T1.out.1) (T2.out.1);rw[hr] at this;exact this);clear hr;have hd:(decide (0<n)||decide (0<n'))=true:=by simp;omega
        rcases Nat.eq_zero_or_pos n with h0 | h0
        case' inl=>(have d2:decide (0<n')=true:=by simp;omega)
        case' inl=>(subst h0)
        case' inr=>(have d1:decide (0<n)=true:=by simp;omega)
        all_goals
         clear hd;go_wp2_with fail
         refine(jan _ _ _ _ _ _ la lb _ (VA.out.kept Vg.out) (VB.out.kept Vg.out) (by omega)).mono ?_;rintro e3 w3 ⟨rfl,k3⟩;have K3:=lH k3;clear k3;go_wp2_with fail
         refine(XC _ _ _ la _ _ ((VA.out.kept Vg.out).kept K3.out) c1 c2).mono ?_;rintro e4 w4 ⟨A4,c4',rfl,q1,q2,V4,k4⟩;have K4:=lH (K3.out.trans k4);have Tp:=lH V4;clear k4 V4;go_wp2_with fail
         refine(XC _ _ _ lb _ _ ((VB.out.kept Vg.out).kept K4.out) c3 c4).mono ?_;rintro e5 w5 ⟨A5,c5',rfl,q3,q4,V5,k5⟩;have K5:=lH (K4.out.trans k5);have Tq:=lH V5;clear k5 V5;go_wp2_with fail
         refine(QF.out _).mono ?_;rintro e6 w6 ⟨rfl,k6⟩;have K6:=lH (K5.out.trans k6);clear k6;by_cases hx:r2=0
         · subst hx;go_wp2_with fail
           refine(jfc _ _).mono ?_;rintro e7 w7 ⟨rfl,rfl⟩;obtain⟨fuel',hf1,hf2⟩:=jb7 (f:=j5) (acc:=acc) HP.out HU.out (by rw[V9.out]);have Tr:=lH hf1;have Ts:=lH hf2;clear hf1 hf2;have Ve:=lH (show Below w.heap.size w w6 from Vg.out.trans (Below.mono K6.out Vg.out.size));by_cases hy:r1=0
           · subst hy;go_wp2_with fail
             refine(jda _ _ _).mono ?_;rintro e8 w8 ⟨rfl,rfl⟩;go_wp2;go_roundw
             case rel =>
              refine⟨A4,A5,_,c4',_,c5',_,_,acc,fuel',rfl,rfl,q1,q2,q3,q4,Tp.out w VA.out,Tq.out w VB.out,T1.out.2,T2.out.2,HO.out.kept K6.out,Ve.out,?_,?_,?_⟩
              · have:=Vw.out;have:=HU.out;have:=Tr.out;omega
              · have:=Ts.out;rw[V9.out] at this;rw[←HQ.out,this];rfl
              · have:=Vw.out;have:=LA.out;have:=LB.out;omega
             case measure=>(show lenOf (Value.slice _ _ _)+lenOf (Value.slice _ _ _)<lenOf (Value.slice _ _ _)+lenOf (Value.slice _ _ _);simp only[lenOf];have:=Vw.out;have:=LA.out;have:=LB.out;omega)
           · go_wp2_with fail
             refine(jdq _ _ r1 w.heap.size acc _ (HO.out.kept K6.out) hy HS.out (by have:=RB.out;omega) (by have:=RB.out;omega) (by omega) Ve.out.size).mono ?_;rintro e8 w8 ⟨v8,rfl,o8,b8⟩;obtain⟨O8,B8,HY⟩:=lH3 o8 b8 hy;clear o8 b8 hy;go_wp2;go_roundw
             case rel =>
              refine⟨A4,A5,_,c4',_,c5',_,_,_,fuel',rfl,rfl,q1,q2,q3,q4,Tp.out w VA.out,Tq.out w VB.out,T1.out.2,T2.out.2,O8.out,Ve.out.trans B8.out,?_,?_,?_⟩
              · have:=Vw.out;have:=HU.out;have:=Tr.out;omega
              · have:=Ts.out;rw[V9.out] at this;rw[←HQ.out,this];dsimp only;unfold ZQ;rw[if_neg HY.out]
              · have:=Vw.out;have:=LA.out;have:=LB.out;rw[List.length_append];simp only[List.length_cons,List.length_nil];omega
             case measure=>(show lenOf (Value.slice _ _ _)+lenOf (Value.slice _ _ _)<lenOf (Value.slice _ _ _)+lenOf (Value.slice _ _ _);simp only[lenOf];have:=Vw.out;have:=LA.out;have:=LB.out;omega)
         · have HX:=lH hx;have HE:=lH (show jj j5 l l'=(r2,[]) by
            rw[HM.out,←HQ.out,jdm HP.out HU.out (by rw[V9.out];exact hx),V9.out];dsimp only;rw[if_pos hx])
           go_wp2_with fail
           refine(jc7 _ _ _ hx).mono ?_;rintro e7 w7 ⟨rfl,rfl⟩;clear hx;go_wp2;exact⟨rfl,j6.bad (by rw[HE.out]) HX.out (Vg.out.trans (Below.mono K6.out Vg.out.size))⟩
   · obtain⟨HM,HA,HB,H1,H2⟩:=lH5 (show jj j5 l l'=(jv l',[]) by unfold jj;rw[if_neg (by rw[h1];decide),if_pos h2]) hr hr' h1 h2;clear h1 h2 hr hr';go_enter Tryz.func190,Tryz.ntmps190;go_wp2_with fail
     refine(zQ _ _ _ l _ HA.out).mono ?_;rintro e1 w1 ⟨g1,_,k1⟩;obtain rfl:=g1 H1.out;have K1:=lH k1;clear g1 k1;go_wp2_with fail
     refine(zQ _ _ _ l' _ (HB.out.kept K1.out)).mono ?_;rintro e2 w2 ⟨_,g2,k2⟩;obtain rfl:=g2 H2.out;have K2:=lH (K1.out.trans k2);clear g2 k2;go_wp2;exact⟨rfl,j6.bad (by rw[HM.out]) H2.out K2.out⟩
 · obtain⟨HM,HA,H1⟩:=lH3 (show jj j5 l l'=(jv l,[]) by unfold jj;rw[if_pos h1]) hr h1;clear h1 hr hr';go_enter Tryz.func190,Tryz.ntmps190;go_wp2_with fail
   refine(zQ _ _ _ l _ HA.out).mono ?_;rintro e1 w1 ⟨_,g1,k1⟩;obtain rfl:=g1 H1.out;have K1:=lH k1;clear g1 k1;go_wp2;exact⟨rfl,j6.bad (by rw[HM.out]) H1.out K1.out⟩
theorem jhv (C:Addr×Addr) (r:Int×V) (w:World) (hr:r.1≠0→r.2=[])
 (hk:∀W,Kept w W→Calls Tryz.prog 257 #[.pointer (some C.1),.pointer (some C.2)] W (j6 r W.heap.size W)) :
 Calls Tryz.prog 188 #[.func (.func 257) #[] #[.pointer (some C.1),.pointer (some C.2)]] w (Yy r w):=by
 have hmf:=hmfL (P:=Tryz.prog);have HK:=lH hk;have HR:=lH hr;clear hk hr;obtain⟨r1,r2⟩:=r;go_enter_defers Tryz.func188,Tryz.ntmps188
 go_wp2_with fail
 refine(HK.out _ (ja _ _)).mono ?_;rintro e1 w1 ⟨h0,h1,hb⟩;have k1:=hb.size;simp only[World.size_alloc] at k1;have c2:=(hb.cell (p:=⟨w.heap.size,0,none⟩) (by simp))
 have z2:=(hb.frozen (p:=⟨w.heap.size,0,none⟩) (by simp))
 have e2':w1.cell? ⟨w.heap.size,0,none⟩=some (.int .i64 0):=by rw[c2];go_simp
 have y2:w1.frozen? ⟨w.heap.size,0,none⟩=false:=by rw[z2];go_simp
 clear c2 z2;have KB:=lH (show Below w.heap.size w w1 from(ja w _).trans hb);by_cases hx:r1=0
 · subst hx;obtain⟨v,rfl,ho⟩:=h0 rfl;have HO:=lH ho;obtain⟨av,cv,rfl,_,_,_⟩:=ho.at_;have hsz:=World.size_alloc w (.cells #[.int .i64 0] 69);clear h0 h1 hb ho;go_wp2_with fail
   refine leaves_cons (f:=218) (args:=#[.pointer (some ⟨w.heap.size,0,none⟩)]) (by simp) (by simp[go_sem]) ?_;refine(YN ⟨w.heap.size,0,none⟩ _).mono ?_;rintro e u' w'' ⟨rfl,rfl,rfl⟩;simp[Leaves,settle,results,Tryz.results188,go_sem,e2'];exact⟨_,rfl,(HO.out.setCell_below (a:=⟨w.heap.size,0,none⟩) (by simp) _).base_le (by simp),KB.out.setCell (p:=⟨w.heap.size,0,none⟩) (Nat.le_refl _) _⟩
 · obtain rfl:=h1 hx;obtain rfl:=HR.out hx;clear h0 h1 hb;go_wp2_with fail
   refine leaves_cons (f:=218) (args:=#[.pointer (some ⟨w.heap.size,0,none⟩)]) (by simp) (by simp[go_sem]) ?_;refine(Za w.heap.size w.heap.size r1 0 _ e2' y2 (by omega)).mono ?_;rintro e u' w'' ⟨rfl,rfl,q2,q3⟩;simp[Leaves,settle,results,Tryz.results188,go_sem,q2];exact⟨_,rfl,jQ.nil _ _ _,KB.out.trans q3⟩
theorem jf3 (C:Addr×Addr) (a a':Option Addr) (len cap len' cap':Nat) (l l':V) (w:World) (h1:w.cell? C.1=some (.slice a len cap)) (h2:w.cell? C.2=some (.slice a' len' cap'))
 (hr:ju w a len l) (hr':ju w a' len' l') (hc:len≤cap) (hm:cap≤maxLen) (hc':len'≤cap') (hm':cap'≤maxLen) :
 Calls Tryz.prog 257 #[.pointer (some C.1),.pointer (some C.2)] w (j6 (jj j5 l l') w.heap.size w):=by
 have HR:=lH hr;have HR':=lH hr';have HM:=lH hm;have HM':=lH hm';clear hr hr' hm hm';go_enter Tryz.func257,Tryz.ntmps257;go_wp2_with fail
 refine(jhu a a' len cap len' cap' l l' _ HR.out HR'.out hc HM.out hc' HM'.out).mono ?_;rintro e w' ⟨g0,g1,k⟩;by_cases hx:(jj j5 l l').1=0
 · obtain⟨v,rfl,ho⟩:=g0 hx;obtain⟨HX,HO,HK⟩:=lH3 hx ho k;clear g0 g1 hx ho k;go_wp2;go_ret;exact j6.good HX.out HO.out HK.out
 · obtain rfl:=g1 hx;have HX:=lH hx;have HK:=lH k;clear g0 g1 hx k;go_wp2;exact⟨rfl,j6.bad rfl HX.out HK.out⟩
theorem XM (l l':V):(jj j5 l l').1≠0→(jj j5 l l').2=[]:=by
 unfold jj;split
 · exact fun _=>rfl
 · split
   · exact fun _=>rfl
   · dsimp only;split
     · exact fun _=>rfl
     · split
       · exact fun _=>rfl
       · exact fun h=>absurd rfl h
theorem jk3 (a a':Option Addr) (len cap len' cap':Nat) (l l':V) (w:World)
 (hr:ju w a len l) (hr':ju w a' len' l') (hc:len≤cap) (hm:cap≤maxLen) (hc':len'≤cap') (hm':cap'≤maxLen) :
 Calls Tryz.prog 230 #[.slice a len cap,.slice a' len' cap'] w (Yy (jj j5 l l') w):=by
 have hmf:=hmfL (P:=Tryz.prog);have hC:∀W,Kept ((w.alloc (.cells #[.slice a len cap] 45)).alloc (.cells #[.slice a' len' cap'] 45)) W→Calls Tryz.prog 257 #[.pointer (some ⟨w.heap.size,0,none⟩),.pointer (some ⟨w.heap.size+1,0,none⟩)] W (j6 (jj j5 l l') W.heap.size W):=by
  intro W k;have c1:=k.cell (p:=⟨w.heap.size,0,none⟩) (by simp;omega);have c2:=k.cell (p:=⟨w.heap.size+1,0,none⟩) (by simp);exact jf3 (⟨w.heap.size,0,none⟩,⟨w.heap.size+1,0,none⟩) a a' len cap len' cap' l l' W (by rw[c1];go_simp) (by rw[c2];go_simp) (hr.kept ((jm w _ _).trans k)) (hr'.kept ((jm w _ _).trans k)) hc hm hc' hm'
 have HC:=lH hC;clear hC hr hr' hm hm';go_enter Tryz.func230,Tryz.ntmps230;go_wp2_with fail
 refine(jhv (⟨w.heap.size,0,none⟩,⟨w.heap.size+1,0,none⟩) (jj j5 l l') _ (XM l l') HC.out).mono ?_;rintro e w' ⟨v,rfl,ho,k⟩;have HO:=lH ho;have HK:=lH k;clear ho k;go_wp2;go_ret2
 exact⟨v,rfl,HO.out.base_le (by simp;omega),(jm w _ _).trans HK.out⟩
end Go.Proofs.YtibepooajeakfaaGreat.Vec
