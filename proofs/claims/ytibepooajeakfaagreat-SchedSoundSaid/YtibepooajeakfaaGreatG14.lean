/- C. -/
import Derived.Test.YtibepooajeakfaaGreatG2
import Derived.Test.YtibepooajeakfaaGreatG5
import Derived.Test.YtibepooajeakfaaGreatG10
import Derived.Test.YtibepooajeakfaaGreatG12
import Derived.Test.YtibepooajeakfaaGreatG13
set_option linter.unusedVariables false
set_option maxRecDepth 100000
set_option maxHeartbeats 25600000
namespace Go.Proofs.YtibepooajeakfaaGreat
open Go.Sort
variable {α:Type} [Inhabited α] {lt:α→α→Bool}
structure Rot (lo i j:Nat) (d d':Array α):Prop where
 size:d'.size=d.size
 fst:∀k,lo≤k→k<lo+j→d'[k]! = d[k+i]!
 snd:∀k,lo+j≤k→k<lo+i+j→d'[k]! = d[k-j]!
 out:∀k,k<lo∨lo+i+j≤k→d'[k]! = d[k]!
structure Yj (a b n:Nat) (d d':Array α):Prop where
 size:d'.size=d.size
 fst:∀k,a≤k→k<a+n→d'[k]! = d[k+(b-a)]!
 snd:∀k,b≤k→k<b+n→d'[k]! = d[k-(b-a)]!
 out:∀k,k<a∨(a+n≤k∧k<b)∨b+n≤k→d'[k]! = d[k]!
theorem Yj.zero (a b:Nat) (d:Array α):Yj a b 0 d d:=⟨rfl,fun k _ _=>by omega,fun k _ _=>by omega,fun k _=>rfl⟩
theorem Yj.step {a b n:Nat} {d dk:Array α} (h:Yj a b n d dk) (hab:a+(n+1)≤b) (hb:b+n<d.size):Yj a b (n+1) d (swp dk (a+n) (b+n)):=by
 have hs:=h.size;refine⟨by rw[size_swp];exact hs,fun k h1 h2=>?_,fun k h1 h2=>?_,fun k h1=>?_⟩
 · by_cases e:k=a+n
   · rw[e,swp_left _ _ _ (by omega) (by omega),h.out (b+n) (by omega)];congr 1;omega
   · rw[swp_other _ _ _ _ e (by omega)];exact h.fst k h1 (by omega)
 · by_cases e:k=b+n
   · rw[e,swp_right _ _ _ (by omega),h.out (a+n) (by omega)];congr 1;omega
   · rw[swp_other _ _ _ _ (by omega) e];exact h.snd k h1 (by omega)
 · rw[swp_other _ _ _ _ (by omega) (by omega)];exact h.out k (by omega)
theorem Rot.of_exch {lo i:Nat} {d d':Array α} (h:Yj lo (lo+i) i d d'):Rot lo i i d d' :=
 ⟨h.size,fun k h1 h2=>by rw[h.fst k h1 h2];congr 1;omega,fun k h1 h2=>by rw[h.snd k h1 (by omega)];congr 1;omega,fun k h1=>h.out k (by omega)⟩
theorem Rot.big {lo i j:Nat} {d d1 d':Array α} (hij:j<i) (h:Yj lo (lo+i) j d d1) (g:Rot (lo+j) (i-j) j d1 d'):Rot lo i j d d':=by
 refine⟨g.size.trans h.size,fun k h1 h2=>?_,fun k h1 h2=>?_,fun k h1=>?_⟩
 · rw[g.out k (by omega),h.fst k h1 h2];congr 1;omega
 · by_cases e:k<lo+j+j
   · rw[g.fst k (by omega) e,h.snd _ (by omega) (by omega)];congr 1;omega
   · rw[g.snd k (by omega) (by omega),h.out _ (by omega)]
 · rw[g.out k (by omega),h.out k (by omega)]
theorem Rot.small {lo i j:Nat} {d d1 d':Array α} (hij:i<j) (h:Yj lo (lo+j) i d d1) (g:Rot lo i (j-i) d1 d'):Rot lo i j d d':=by
 refine⟨g.size.trans h.size,fun k h1 h2=>?_,fun k h1 h2=>?_,fun k h1=>?_⟩
 · by_cases e:k<lo+(j-i)
   · rw[g.fst k h1 e,h.out _ (by omega)]
   · rw[g.snd k (by omega) (by omega),h.fst _ (by omega) (by omega)];congr 1;omega
 · rw[g.out k (by omega),h.snd k (by omega) (by omega)];congr 1;omega
 · rw[g.out k (by omega),h.out k (by omega)]
theorem Rot.triv {lo i j:Nat} {d:Array α} (h:i=0∨j=0):Rot lo i j d d :=
 ⟨rfl,fun k h1 h2=>by congr 1;omega,fun k h1 h2=>by congr 1;omega,fun _ _=>rfl⟩
theorem Rot.up {a n:Nat} {d dk:Array α} (h:Rot a 1 n d dk) (hs:a+n+1<d.size):Rot a 1 (n+1) d (swp dk (a+n) (a+n+1)):=by
 have hz:=h.size;refine⟨by rw[size_swp];exact hz,fun k h1 h2=>?_,fun k h1 h2=>?_,fun k h1=>?_⟩
 · by_cases e:k=a+n
   · rw[e,swp_left _ _ _ (by omega) (by omega),h.out _ (by omega)]
   · rw[swp_other _ _ _ _ e (by omega)];exact h.fst k h1 (by omega)
 · have e:k=a+n+1:=by omega
   rw[e,swp_right _ _ _ (by omega),h.snd _ (by omega) (by omega)];congr 1;omega
 · rw[swp_other _ _ _ _ (by omega) (by omega)];exact h.out k (by omega)
theorem Rot.down {k n:Nat} {d dk:Array α} (h:Rot (k+1) n 1 d dk) (hs:k+1+n<d.size):Rot k (n+1) 1 d (swp dk (k+1) k):=by
 have hz:=h.size;refine⟨by rw[size_swp];exact hz,fun x h1 h2=>?_,fun x h1 h2=>?_,fun x h1=>?_⟩
 · have e:x=k:=by omega
   rw[e,swp_right _ _ _ (by omega),h.fst _ (by omega) (by omega)];congr 1;omega
 · by_cases e:x=k+1
   · rw[e,swp_left _ _ _ (by omega) (by omega),h.out _ (by omega)];congr 1
   · rw[swp_other _ _ _ _ e (by omega)];exact h.snd x (by omega) (by omega)
 · rw[swp_other _ _ _ _ (by omega) (by omega)];exact h.out x (by omega)
theorem jaY {β:Type} {lt:β→β→Bool} (hS:SWO lt) {x y:β} (h:lt x y=true):lt y x=false:=by
 cases g:lt y x
 · rfl
 · have:=hS.trans _ _ _ h g;rw[hS.irrefl] at this;cases this
theorem Zx (hS:SWO lt) {a b:Nat} {d:Array α} (h:SortedIn lt a b d) {i j:Nat} (h1:a≤i) (h2:i≤j) (h3:j<b):lt d[j]! d[i]! = false:=by
 rcases Nat.lt_or_eq_of_le h2 with g | g
 · exact h i j h1 g h3
 · rw[g];exact hS.irrefl _
theorem jk9 (hS:SWO lt) {a b n:Nat} {d d':Array α} (hr:Rot a 1 n d d') (hn:a+1+n≤b) (hs:SortedIn lt (a+1) b d)
 (h1:n=0∨lt d[a+n]! d[a]! = true) (h2:a+1+n=b∨lt d[a+1+n]! d[a]! = false):SortedIn lt a b d':=by
 intro x y hx hxy hy;have lo:∀k,a+1≤k→k≤a+n→lt d[a]! d[k]! = false:=fun k g1 g2=>by
  rcases h1 with h1 | h1
  · omega
  · exact hS.ntrans _ _ _ (jaY hS h1) (Zx hS hs g1 g2 (by omega))
 have hi:∀k,a+1+n≤k→k<b→lt d[k]! d[a]! = false:=fun k g1 g2=>by
  rcases h2 with h2 | h2
  · omega
  · exact hS.ntrans _ _ _ (Zx hS hs (by omega) g1 g2) h2
 rcases Nat.lt_trichotomy x (a+n) with c | c | c
 · rw[hr.fst x hx c];rcases Nat.lt_trichotomy y (a+n) with e | e | e
   · rw[hr.fst y (by omega) e];exact hs _ _ (by omega) (by omega) (by omega)
   · rw[e,hr.snd (a+n) (by omega) (by omega),show a+n-n=a from by omega];exact lo _ (by omega) (by omega)
   · rw[hr.out y (by omega)];exact hs _ _ (by omega) (by omega) hy
 · rw[c,hr.snd (a+n) (by omega) (by omega),show a+n-n=a from by omega,hr.out y (by omega)];exact hi y (by omega) hy
 · rw[hr.out x (by omega),hr.out y (by omega)];exact hs _ _ (by omega) hxy hy
theorem jjk (hS:SWO lt) {a i n:Nat} {d d':Array α} (hr:Rot i n 1 d d') (ha:a≤i) (hs:SortedIn lt a (i+n) d)
 (h1:i=a∨lt d[i+n]! d[i-1]! = false) (h2:n=0∨lt d[i+n]! d[i]! = true):SortedIn lt a (i+n+1) d':=by
 intro x y hx hxy hy;have lo:∀k,a≤k→k<i→lt d[i+n]! d[k]! = false:=fun k g1 g2=>by
  rcases h1 with h1 | h1
  · omega
  · exact hS.ntrans _ _ _ h1 (Zx hS hs g1 (by omega) (by omega))
 have hi:∀k,i≤k→k<i+n→lt d[k]! d[i+n]! = false:=fun k g1 g2=>by
  rcases h2 with h2 | h2
  · omega
  · exact hS.ntrans _ _ _ (Zx hS hs (by omega) g1 g2) (jaY hS h2)
 have ei:d'[i]! = d[i+n]!:=hr.fst i (by omega) (by omega);rcases Nat.lt_trichotomy x i with c | c | c
 · rw[hr.out x (by omega)];rcases Nat.lt_trichotomy y i with e | e | e
   · rw[hr.out y (by omega)];exact hs _ _ hx hxy (by omega)
   · rw[e,ei];exact lo x hx c
   · rw[hr.snd y (by omega) (by omega)];exact hs _ _ hx (by omega) (by omega)
 · rw[c,ei,hr.snd y (by omega) (by omega)];exact hi _ (by omega) (by omega)
 · rw[hr.snd x (by omega) (by omega),hr.snd y (by omega) (by omega)];exact hs _ _ (by omega) (by omega) (by omega)
structure Found (lt:α→α→Bool) (a m b mid s:Nat) (d:Array α):Prop where
 am:a<m
 mb:m<b
 mida:a<mid
 midb:mid<b
 sa:a≤s
 sm:s≤m
 sd:s≤mid
 em:m≤mid+m-s
 eb:mid+m-s≤b
 low:s=a∨mid+m-s=b∨lt d[mid+m-s]! d[s-1]! = false
 high:s=m∨s=mid∨lt d[mid+m-1-s]! d[s]! = true
variable {a m b mid s:Nat} {d d1:Array α}
theorem Found.parts (h:Found lt a m b mid s d) (hr:Rot s (m-s) (mid-s) d d1) (h1:SortedIn lt a m d) (h2:SortedIn lt m b d) :
 SortedIn lt a s d1∧SortedIn lt s mid d1∧SortedIn lt mid (mid+m-s) d1∧SortedIn lt (mid+m-s) b d1:=by
 obtain⟨q1,q2,q3,q4,q5,q6,q7,q8,q9,_,_⟩:=h;refine⟨fun x y hx hxy hy=>?_,fun x y hx hxy hy=>?_,fun x y hx hxy hy=>?_,fun x y hx hxy hy=>?_⟩
 · rw[hr.out x (by omega),hr.out y (by omega)];exact h1 _ _ hx hxy (by omega)
 · rw[hr.fst x hx (by omega),hr.fst y (by omega) (by omega)];exact h2 _ _ (by omega) (by omega) (by omega)
 · rw[hr.snd x (by omega) (by omega),hr.snd y (by omega) (by omega)];exact h1 _ _ (by omega) (by omega) (by omega)
 · rw[hr.out x (by omega),hr.out y (by omega)];exact h2 _ _ (by omega) hxy hy
theorem Found.cross (hS:SWO lt) (h:Found lt a m b mid s d) (hr:Rot s (m-s) (mid-s) d d1) (h1:SortedIn lt a m d) (h2:SortedIn lt m b d) :
 ∀x y,a≤x→x<mid→mid≤y→y<b→lt d1[y]! d1[x]! = false:=by
 obtain⟨q1,q2,q3,q4,q5,q6,q7,q8,q9,low,high⟩:=h;intro x y hx hx2 hy hy2;by_cases cx:x<s
 · rw[hr.out x (by omega)];by_cases cy:y<mid+m-s
   · rw[hr.snd y (by omega) (by omega)];exact h1 _ _ hx (by omega) (by omega)
   · rw[hr.out y (by omega)];rcases low with l | l | l
     · omega
     · omega
     · exact hS.ntrans _ _ _ (hS.ntrans _ _ _ (Zx hS h2 (by omega) (by omega) hy2) l) (Zx hS h1 hx (by omega) (by omega))
 · rw[hr.fst x (by omega) (by omega)];by_cases cy:y<mid+m-s
   · rw[hr.snd y (by omega) (by omega)];rcases high with l | l | l
     · omega
     · omega
     · exact hS.ntrans _ _ _ (hS.ntrans _ _ _ (Zx hS h1 (show a≤s by omega) (show s≤y-(mid-s) by omega) (by omega)) (jaY hS l)) (Zx hS h2 (by omega) (by omega) (by omega))
   · rw[hr.out y (by omega)];exact h2 _ _ (by omega) (by omega) hy2
theorem qm {d2 d3:Array α} (hb:b≤d1.size) (hmb:mid≤b) (p1:PermIn a mid d1 d2) (s1:SortedIn lt a mid d2) (p2:PermIn mid b d2 d3) (s2:SortedIn lt mid b d3)
 (cross:∀x y,a≤x→x<mid→mid≤y→y<b→lt d1[y]! d1[x]! = false):SortedIn lt a b d3:=by
 have c1:∀y,mid≤y→y<b→∀x,a≤x→x<mid→lt d1[y]! d2[x]! = false:=fun y g1 g2 =>
  permIn_all d1 d2 a mid (fun v=>lt d1[y]! v=false) (by omega) p1 (fun x g3 g4=>cross x y g3 g4 g1 g2)
 have c2:∀x,a≤x→x<mid→∀y,mid≤y→y<b→lt d3[y]! d2[x]! = false:=fun x g1 g2 =>
  permIn_all d2 d3 mid b (fun v=>lt v d2[x]! = false) (by rw[p1.1];exact hb) p2 (fun y g3 g4=>by rw[p1.2.1 y (by omega)];exact c1 y g3 g4 x g1 g2)
 intro x y hx hxy hy;by_cases cx:x<mid
 · rw[p2.2.1 x (by omega)];by_cases cy:y<mid
   · rw[p2.2.1 y (by omega)];exact s1 x y hx hxy cy
   · exact c2 x hx cx y (by omega) hy
 · exact s2 x y (by omega) hxy hy
end Go.Proofs.YtibepooajeakfaaGreat
namespace Go.Proofs.YtibepooajeakfaaGreat
open Go.RowKit Go.Shelf Go.Lib Go.Sort
structure Yq (P:Program) (kE:Nat):Prop where
 mixed:P.follows .mixedOrders=true
 fSwap:P.funcs[196]?=some Tryz.f196
 fRot:P.funcs[168]?=some Tryz.f168
 fMrg:P.funcs[119]?=some Tryz.f119
 fIns:P.funcs[118]?=some Tryz.f118
 fStb:P.funcs[70]?=some Tryz.f70
 t0:P.underlying 0=Tryz.prog.underlying 0
 a0:∀w,(isAgg 0).run P w=.ok false w
 z0:∀w,(Go.sizeOf 0).run P w=.ok 1 w
 t3:P.underlying 3=Tryz.prog.underlying 3
 a3:∀w,(isAgg 3).run P w=.ok false w
 z3:∀w,(Go.sizeOf 3).run P w=.ok 1 w
 t4:P.underlying 4=Tryz.prog.underlying 4
 a4:∀w,(isAgg 4).run P w=.ok false w
 z4:∀w,(Go.sizeOf 4).run P w=.ok 1 w
 t39:P.underlying 239=Tryz.prog.underlying 239
 a39:∀w,(isAgg 239).run P w=.ok false w
 z39:∀w,(Go.sizeOf 239).run P w=.ok 1 w
 t22:P.underlying 23=Tryz.prog.underlying 23
 a22:∀w,(isAgg 23).run P w=.ok false w
 z22:∀w,(Go.sizeOf 23).run P w=.ok 1 w
 t25:P.underlying 88=Tryz.prog.underlying 88
 a25:∀w,(isAgg 88).run P w=.ok false w
 z25:∀w,(Go.sizeOf 88).run P w=.ok 1 w
 v0:∀w,(zeroValue 0).run P w=.ok (Value.tuple #[]) w
 v3:∀w,(zeroValue 3).run P w=.ok (Value.int IntKind.i64 0) w
 v4:∀w,(zeroValue 4).run P w=.ok (Value.bool false) w
 aE:∀w,(isAgg 52).run P w=.ok true w
 zE:∀w,(Go.sizeOf 52).run P w=.ok kE w
theorem jkr:Yq Tryz.prog 11 where
 mixed:=by kernel_rfl
 fSwap:=Tryz.func196
 fRot:=Tryz.func168
 fMrg:=Tryz.func119
 fIns:=Tryz.func118
 fStb:=Tryz.func70
 t0:=rfl
 a0:=Tryz.isAgg0
 z0:=Tryz.sizeOf0
 t3:=rfl
 a3:=Tryz.isAgg3
 z3:=Tryz.sizeOf3
 t4:=rfl
 a4:=Tryz.isAgg4
 z4:=Tryz.sizeOf4
 t39:=rfl
 a39:=Tryz.isAgg239
 z39:=Tryz.sizeOf239
 t22:=rfl
 a22:=Tryz.isAgg23
 z22:=Tryz.sizeOf23
 t25:=rfl
 a25:=Tryz.isAgg88
 z25:=Tryz.sizeOf88
 v0:=Tryz.zeroValue0
 v3:=Tryz.zeroValue3
 v4:=Tryz.zeroValue4
 aE:=Tryz.isAgg52
 zE:=Tryz.sizeOf52
theorem jdJ {α:Type} [Inhabited α] {P:Program} {kE:Nat} (L:Yq P kE) (enc:α→List Value) (w0:World) (blk off cap a b n:Nat) (d0 d:Array α) (w:World) (R:RowK enc kE w0 blk off d0) (hs:d0.size=d.size) (S:SWK enc kE w0 blk off d w) (hab:a+n≤b) (hb:b+n≤d.size) (hsz:d.size<4611686018427387904) (cmp:Value) :
 Calls P 196 #[.slice (some ⟨blk,off,none⟩) d.size cap,.int .i64 a,.int .i64 b,.int .i64 n,cmp] w
  fun e w'=>e=.returned (.tuple #[])∧∃d',Yj a b n d d'∧PermIn a (b+n) d d'∧SWK enc kE w0 blk off d' w':=by
 have mixed:=L.mixed;have t0:=L.t0.trans Tryz.underlying0;have a0:=L.a0;have z0:=L.z0;have t3:=L.t3.trans Tryz.underlying3;have a3:=L.a3;have z3:=L.z3;have t4:=L.t4.trans Tryz.underlying4;have a4:=L.a4;have z4:=L.z4;have t39:=L.t39.trans Tryz.underlying239;have a39:=L.a39;have z39:=L.z39;have t22:=L.t22.trans Tryz.underlying23;have a22:=L.a22;have z22:=L.z22;have t25:=L.t25.trans Tryz.underlying88;have a25:=L.a25;have z25:=L.z25;have v0:=L.v0;have v3:=L.v3;have v4:=L.v4;have aE:=L.aE;have zE:=L.zE;have u22:=run_underlying t22;have eSwap:∀args w,(callFunc 196 args).run P w=.ok (.enter 196 args) w:=enters_of L.fSwap (by kernel_rfl) rfl;have eRot:∀args w,(callFunc 168 args).run P w=.ok (.enter 168 args) w:=enters_of L.fRot (by kernel_rfl) rfl;have eMrg:∀args w,(callFunc 119 args).run P w=.ok (.enter 119 args) w:=enters_of L.fMrg (by kernel_rfl) rfl;have eIns:∀args w,(callFunc 118 args).run P w=.ok (.enter 118 args) w:=enters_of L.fIns (by kernel_rfl) rfl;have eStb:∀args w,(callFunc 70 args).run P w=.ok (.enter 70 args) w:=enters_of L.fStb (by kernel_rfl) rfl;have HR:Aside _:=R;have S0:Aside (SWK enc kE w0 blk off d w):=S;clear S R;go_enter L.fSwap,Tryz.ntmps196;go_wp2;go_loopg [10] n (fun g1 vi wr=>∃(i:Nat) (dk:Array α),vi=.int .i64 i∧i≤n∧n-i≤g1∧dk.size=d.size∧Aside (SWK enc kE w0 blk off dk wr)∧Hid (Yj a b i d dk∧PermIn a (b+n) d dk))
 case atStart=>exact⟨0,d,by go_num,by omega,by omega,rfl,S0,Yj.zero _ _ _,permIn_refl _ _ _⟩
 case round =>
  clear S0;obtain⟨i,dk,rfl,hi,hg1,hsk,S1,HX⟩:=hrel;by_cases hlt:i<n
  · have hltz:(i:Int)<(n:Int):=by omega
    obtain⟨iN,hiN⟩:∃q,q=a+i:=⟨_,rfl⟩
    obtain⟨jN,hjN⟩:∃q,q=b+i:=⟨_,rfl⟩
    have ea:((a:Int)+(i:Int)).toNat=iN:=by omega
    have pa:(0:Int)≤(a:Int)+(i:Int):=by omega
    have ba:(a:Int)+(i:Int)<(d.size:Int):=by omega
    have ra:IntKind.i64.wrap ((a:Int)+(i:Int))=(a:Int)+(i:Int):=by rw[IntKind.wrap_i64];omega
    have ec:((b:Int)+(i:Int)).toNat=jN:=by omega
    have pc:(0:Int)≤(b:Int)+(i:Int):=by omega
    have bc:(b:Int)+(i:Int)<(d.size:Int):=by omega
    have rc:IntKind.i64.wrap ((b:Int)+(i:Int))=(b:Int)+(i:Int):=by rw[IntKind.wrap_i64];omega
    have S3:Aside (SWK enc kE w0 blk off (swp dk (iN) (jN)) ((wr.drew.setCells blk (off+(iN)*kE) (enc dk[jN]!)).setCells blk (off+(jN)*kE) (enc dk[iN]!))):=S1.out.swapped HR.out (iN) (jN) (by omega) (by omega);have lA:=S1.out.ld1 HR.out (by omega) P (iN) (by omega);have lB:=S1.out.ld1 HR.out (by omega) P (jN) (by omega);have sA:=S1.out.st1 HR.out (by omega) P (iN) (by omega) dk[jN]!;have sB:=S1.out.st2 HR.out (by omega) P (iN) (jN) (by omega) (by omega) dk[jN]! dk[iN]!;have nA:(enc dk[iN]!).length=kE:=HR.out.hk _;have nB:(enc dk[jN]!).length=kE:=HR.out.hk _;generalize enc dk[iN]! = cI at S3 lA sB nA
    generalize enc dk[jN]! = cJ at S3 lB sA sB nB
    have UD:Hid (Yj a b (i+1) d (swp dk iN jN)∧PermIn a (b+n) d (swp dk iN jN)):=by
     rw[hiN,hjN];exact⟨HX.out.1.step (by omega) (by omega),permIn_trans _ _ _ _ _ HX.out.2 (swp_permIn dk a (b+n) (a+i) (b+i) (by omega) (by omega) (by omega) (by omega) (by omega))⟩
    clear S1 hiN hjN;go_wp2_with fail
    go_big_region_o
    clear lA lB sA sB;generalize (wr.drew.setCells blk (off+(iN)*kE) cJ).setCells blk (off+(jN)*kE) cI=w3 at S3 ⊢
    clear ea ec;go_wp2;go_roundg (n-(i+1))
    case measure=>omega
    case rel=>exact⟨i+1,swp dk iN jN,by go_num,by omega,Nat.le_refl _,by rw[size_swp];exact hsk,S3,UD⟩
  · have hltz:¬(i:Int)<(n:Int):=by omega
    have hin:i=n:=by omega
    subst hin;go_wp2;go_end0
    exact⟨rfl,dk,HX.out.1,HX.out.2,S1.out⟩
def jnl {α:Type} [Inhabited α] (kE:Nat) (enc:α→List Value) (w0:World) (blk off:Nat) (a b n:Nat) (d:Array α) (e:Ending) (w':World):Prop :=
 e=.returned (.tuple #[])∧∃d',Yj a b n d d'∧PermIn a (b+n) d d'∧SWK enc kE w0 blk off d' w'
theorem Xq {α:Type} [Inhabited α] {P:Program} {kE:Nat} (L:Yq P kE) (enc:α→List Value) (w0:World) (blk off cap a b n:Nat) (za zb zn:Int) (d0 d:Array α) (w:World) (R:RowK enc kE w0 blk off d0) (hs:d0.size=d.size) (S:SWK enc kE w0 blk off d w) (hab:a+n≤b) (hb:b+n≤d.size) (hsz:d.size<4611686018427387904) (cmp:Value)
 (ea:za=a) (eb:zb=b) (en:zn=n) (N:Nat) (hN:N=d.size) :
 Calls P 196 #[.slice (some ⟨blk,off,none⟩) N cap,.int .i64 za,.int .i64 zb,.int .i64 zn,cmp] w (jnl kE enc w0 blk off a b n d):=by
 subst ea eb en hN;exact jdJ L enc w0 blk off cap a b n d0 d w R hs S hab hb hsz cmp
theorem jg9 {α:Type} [Inhabited α] {P:Program} {kE:Nat} (L:Yq P kE) (enc:α→List Value) (w0:World) (blk off cap a m b:Nat) (d0 d:Array α) (w:World) (R:RowK enc kE w0 blk off d0) (hs:d0.size=d.size) (S:SWK enc kE w0 blk off d w) (ham:a<m) (hmb:m<b) (hb:b≤d.size) (hsz:d.size<4611686018427387904) (cmp:Value) :
 Calls P 168 #[.slice (some ⟨blk,off,none⟩) d.size cap,.int .i64 a,.int .i64 m,.int .i64 b,cmp] w
  fun e w'=>e=.returned (.tuple #[])∧∃d',Rot a (m-a) (b-m) d d'∧PermIn a b d d'∧SWK enc kE w0 blk off d' w':=by
 have mixed:=L.mixed;have t0:=L.t0.trans Tryz.underlying0;have a0:=L.a0;have z0:=L.z0;have t3:=L.t3.trans Tryz.underlying3;have a3:=L.a3;have z3:=L.z3;have t4:=L.t4.trans Tryz.underlying4;have a4:=L.a4;have z4:=L.z4;have t39:=L.t39.trans Tryz.underlying239;have a39:=L.a39;have z39:=L.z39;have t22:=L.t22.trans Tryz.underlying23;have a22:=L.a22;have z22:=L.z22;have t25:=L.t25.trans Tryz.underlying88;have a25:=L.a25;have z25:=L.z25;have v0:=L.v0;have v3:=L.v3;have v4:=L.v4;have aE:=L.aE;have zE:=L.zE;have u22:=run_underlying t22;have eSwap:∀args w,(callFunc 196 args).run P w=.ok (.enter 196 args) w:=enters_of L.fSwap (by kernel_rfl) rfl;have eRot:∀args w,(callFunc 168 args).run P w=.ok (.enter 168 args) w:=enters_of L.fRot (by kernel_rfl) rfl;have eMrg:∀args w,(callFunc 119 args).run P w=.ok (.enter 119 args) w:=enters_of L.fMrg (by kernel_rfl) rfl;have eIns:∀args w,(callFunc 118 args).run P w=.ok (.enter 118 args) w:=enters_of L.fIns (by kernel_rfl) rfl;have eStb:∀args w,(callFunc 70 args).run P w=.ok (.enter 70 args) w:=enters_of L.fStb (by kernel_rfl) rfl;have HR:Aside _:=R;have S0:Aside (SWK enc kE w0 blk off d w):=S;have r1:IntKind.i64.wrap ((m:Int)-(a:Int))=(m:Int)-(a:Int):=by rw[IntKind.wrap_i64];omega
 have r2:IntKind.i64.wrap ((b:Int)-(m:Int))=(b:Int)-(m:Int):=by rw[IntKind.wrap_i64];omega
 clear S R;go_enter L.fRot,Tryz.ntmps168;go_wp2;go_loopg [10,11] (b-a) (fun g1 vi vj wr=>∃(i j:Nat) (dk:Array α),vi=.int .i64 i∧vj=.int .i64 j∧0<i∧0<j∧i≤m-a∧j≤b-m∧i+j≤g1∧dk.size=d.size∧Aside (SWK enc kE w0 blk off dk wr)∧Hid ((∀d',Rot (m-i) i j dk d'→Rot a (m-a) (b-m) d d')∧PermIn a b d dk))
 case atStart=>exact⟨m-a,b-m,d,by congr 1;omega,by congr 1;omega,by omega,by omega,by omega,by omega,by omega,rfl,S0,fun d' h=>by rwa [show m-(m-a)=a from by omega] at h,permIn_refl _ _ _⟩
 case round =>
  clear S0;obtain⟨i,j,dk,rfl,rfl,hi,hj,hia,hjb,hg1,hsk,S1,HX⟩:=hrel;have r3:IntKind.i64.wrap ((m:Int)-(i:Int))=(m:Int)-(i:Int):=by rw[IntKind.wrap_i64];omega
  rcases Nat.lt_trichotomy j i with hlt | hlt | hlt
  · have q1:((i:Int) != (j:Int))=true:=by simp;omega
    have q2:(j:Int)<(i:Int):=by omega
    have r4:IntKind.i64.wrap ((i:Int)-(j:Int))=(i:Int)-(j:Int):=by rw[IntKind.wrap_i64];omega
    have hc:=lH (Xq L enc w0 blk off cap (m-i) m j ((m:Int)-i) m j d0 dk wr HR.out (by omega) S1.out (by omega) (by omega) (by omega) cmp (by omega) rfl rfl d.size hsk.symm);clear S1;go_wp2_with (go_at_call 196;refine hc.out.mono ?_;rintro e w1 ⟨rfl,d1,hE,hP,hS⟩)
    have H1:Hid (Yj (m-i) m j dk d1):=hE;have H2:Hid (PermIn (m-i) (m+j) dk d1):=hP;have S2:Aside (SWK enc kE w0 blk off d1 w1):=hS;clear hE hP hS;go_roundg (i+j-j)
    case measure=>omega
    case rel =>
     have hz:=H1.out.size;refine⟨i-j,j,d1,by congr 1;omega,rfl,by omega,by omega,by omega,by omega,by omega,by omega,S2,fun d' h=>HX.out.1 d' (Rot.big hlt (by rw[show m-i+i=m from by omega];exact H1.out) (by rw[show m-i+j=m-(i-j) from by omega];exact h)),permIn_trans _ _ _ _ _ HX.out.2 (permIn_mono _ _ _ _ _ _ (by omega) (by omega) (by omega) H2.out)⟩
  · subst hlt;have q1:((j:Int) != (j:Int))=false:=by simp
    have hc:=lH (Xq L enc w0 blk off cap (m-j) m j ((m:Int)-j) m j d0 dk wr HR.out (by omega) S1.out (by omega) (by omega) (by omega) cmp (by omega) rfl rfl d.size hsk.symm);clear S1;go_wp2_with (go_at_call 196;refine hc.out.mono ?_;rintro e w1 ⟨rfl,d1,hE,hP,hS⟩)
    have H1:Hid (Yj (m-j) m j dk d1):=hE;have H2:Hid (PermIn (m-j) (m+j) dk d1):=hP;have S2:Aside (SWK enc kE w0 blk off d1 w1):=hS;clear hE hP hS;go_end0
    exact⟨rfl,d1,HX.out.1 d1 (Rot.of_exch (by rw[show m-j+j=m from by omega];exact H1.out)),permIn_trans _ _ _ _ _ HX.out.2 (permIn_mono _ _ _ _ _ _ (by omega) (by omega) (by omega) H2.out),S2.out⟩
  · have q1:((i:Int) != (j:Int))=true:=by simp;omega
    have q2:¬(j:Int)<(i:Int):=by omega
    have r4:IntKind.i64.wrap ((j:Int)-(i:Int))=(j:Int)-(i:Int):=by rw[IntKind.wrap_i64];omega
    have r5:IntKind.i64.wrap ((m:Int)+(j:Int))=(m:Int)+(j:Int):=by rw[IntKind.wrap_i64];omega
    have r6:IntKind.i64.wrap ((m:Int)+(j:Int)-(i:Int))=(m:Int)+(j:Int)-(i:Int):=by rw[IntKind.wrap_i64];omega
    have hc:=lH (Xq L enc w0 blk off cap (m-i) (m+j-i) i ((m:Int)-i) ((m:Int)+j-i) i d0 dk wr HR.out (by omega) S1.out (by omega) (by omega) (by omega) cmp (by omega) (by omega) rfl d.size hsk.symm);clear S1;go_wp2_with (go_at_call 196;refine hc.out.mono ?_;rintro e w1 ⟨rfl,d1,hE,hP,hS⟩)
    have H1:Hid (Yj (m-i) (m+j-i) i dk d1):=hE;have H2:Hid (PermIn (m-i) (m+j-i+i) dk d1):=hP;have S2:Aside (SWK enc kE w0 blk off d1 w1):=hS;clear hE hP hS;go_roundg (i+j-i)
    case measure=>omega
    case rel =>
     have hz:=H1.out.size;refine⟨i,j-i,d1,rfl,by congr 1;omega,by omega,by omega,by omega,by omega,by omega,by omega,S2,fun d' h=>HX.out.1 d' (Rot.small hlt (by rw[show m-i+j=m+j-i from by omega];exact H1.out) h),permIn_trans _ _ _ _ _ HX.out.2 (permIn_mono _ _ _ _ _ _ (by omega) (by omega) (by omega) H2.out)⟩
def jak {α:Type} [Inhabited α] (kE:Nat) (enc:α→List Value) (cf:α→α→Int) (w0:World) (blk off a b:Nat) (d:Array α) (e:Ending) (w':World):Prop :=
 e=.returned (.tuple #[])∧∃d',PermIn a b d d'∧SortedIn (ltOf cf) a b d'∧SWK enc kE w0 blk off d' w'
theorem jdO {α:Type} [Inhabited α] {P:Program} {kE:Nat} (L:Yq P kE) (enc:α→List Value) (cf:α→α→Int) (hO:SWO (ltOf cf)) (g:Nat) (cb:Array Value) (w0:World) (blk off cap a b:Nat) (d0 d:Array α) (w:World)
 (eg:∀args w,(callFunc g args).run P w=.ok (.enter g args) w) (hcmp:CmpLays P g cb enc kE cf blk off d0.size w0) (R:RowK enc kE w0 blk off d0) (hs:d0.size=d.size) (S:SWK enc kE w0 blk off d w)
 (hab:a+1<b) (hb:b≤d.size) (hsz:d.size<2305843009213693952) (s2:SortedIn (ltOf cf) (a+1) b d) :
 Calls P 119 #[.slice (some ⟨blk,off,none⟩) d.size cap,.int .i64 a,.int .i64 ((a:Int)+1),.int .i64 b,.func (.func g) #[] cb] w (jak kE enc cf w0 blk off a b d):=by
 unfold jak;have mixed:=L.mixed;have t0:=L.t0.trans Tryz.underlying0;have a0:=L.a0;have z0:=L.z0;have t3:=L.t3.trans Tryz.underlying3;have a3:=L.a3;have z3:=L.z3;have t4:=L.t4.trans Tryz.underlying4;have a4:=L.a4;have z4:=L.z4;have t39:=L.t39.trans Tryz.underlying239;have a39:=L.a39;have z39:=L.z39;have t22:=L.t22.trans Tryz.underlying23;have a22:=L.a22;have z22:=L.z22;have t25:=L.t25.trans Tryz.underlying88;have a25:=L.a25;have z25:=L.z25;have v0:=L.v0;have v3:=L.v3;have v4:=L.v4;have aE:=L.aE;have zE:=L.zE;have u22:=run_underlying t22;have eSwap:∀args w,(callFunc 196 args).run P w=.ok (.enter 196 args) w:=enters_of L.fSwap (by kernel_rfl) rfl;have eRot:∀args w,(callFunc 168 args).run P w=.ok (.enter 168 args) w:=enters_of L.fRot (by kernel_rfl) rfl;have eMrg:∀args w,(callFunc 119 args).run P w=.ok (.enter 119 args) w:=enters_of L.fMrg (by kernel_rfl) rfl;have eIns:∀args w,(callFunc 118 args).run P w=.ok (.enter 118 args) w:=enters_of L.fIns (by kernel_rfl) rfl;have eStb:∀args w,(callFunc 70 args).run P w=.ok (.enter 70 args) w:=enters_of L.fStb (by kernel_rfl) rfl;have HR:Aside _:=R;have HC:Aside _:=hcmp;have SS:Aside _:=s2;have OO:Aside _:=hO;have S0:Aside (SWK enc kE w0 blk off d w):=S;have r1:IntKind.i64.wrap ((a:Int)+1-(a:Int))=1:=by rw[IntKind.wrap_i64];omega
 have baz:(a:Int)<(d.size:Int):=by omega
 clear S R hcmp s2 hO;go_enter L.fMrg,Tryz.ntmps119;go_wp2
 go_loopg [10,11] b (fun g1 vi vj wr=>∃lo hi:Nat,vi=.int .i64 lo∧vj=.int .i64 hi∧a+1≤lo∧lo≤hi∧hi≤b∧hi-lo≤g1∧Aside (SWK enc kE w0 blk off d wr) ∧
  Hid ((lo=a+1∨ltOf cf d[lo-1]! d[a]! = true)∧(hi=b∨ltOf cf d[hi]! d[a]! = false)))
 case atStart=>exact⟨a+1,b,by go_num,rfl,by omega,by omega,by omega,by omega,S0,.inl rfl,.inl rfl⟩
 case round =>
  clear S0;obtain⟨lo,hi,rfl,rfl,hal,hlh,hhb,hg1,S1,HX⟩:=hrel;by_cases hlt:lo<hi
  · have hltz:(lo:Int)<(hi:Int):=by omega
    obtain⟨x,hx⟩:∃x,x=d[(lo+hi) / 2]!:=⟨_,rfl⟩
    obtain⟨y,hy⟩:∃x,x=d[a]!:=⟨_,rfl⟩
    have l1:=S1.out.ld HR.out (by omega) P ((lo+hi) / 2) (by omega);have l2:=S1.out.ld HR.out (by omega) P a (by omega);obtain⟨hN,hhN⟩:∃q,q=(lo+hi) / 2:=⟨_,rfl⟩
    rw[←hx,←hhN] at l1;rw[←hy] at l2;have ea:(((lo:Int)+(hi:Int)) / 2).toNat=hN:=by omega
    have pa:(0:Int)≤((lo:Int)+(hi:Int)) / 2:=by omega
    have ra:IntKind.i64.wrap (((lo:Int)+(hi:Int)) / 2)=((lo:Int)+(hi:Int)) / 2:=by rw[IntKind.wrap_i64];omega
    have hc:=S1.out.cmp HC.out (by omega) x y;have bm:((lo:Int)+(hi:Int)) / 2<(d.size:Int):=by omega
    have V8:Hid (x=d[(lo+hi) / 2]!∧y=d[a]!):=⟨hx,hy⟩
    clear hx hy hhN;by_cases hv:cf x y<0
    · have hd:decide (cf x y<0)=true:=decide_eq_true hv;go_wp2_with fail
      go_quiet_grown (first | (go_at_fn g;refine Calls.grown_of (hc _ _)))
      have S2:Aside (SWK enc kE w0 blk off d (grow (wr.drewN nq) osq)):=S1.out.grown nq osq;clear l1 l2 hc S1;generalize grow (wr.drewN nq) osq=w2 at S2 ⊢
      clear nq osq;go_wp2;go_roundg (hi-((lo+hi) / 2+1))
      case measure=>omega
      case rel =>
       refine⟨(lo+hi) / 2+1,hi,by rw[show ((lo:Int)+(hi:Int)) / 2+1=(((lo+hi) / 2+1:Nat):Int) by omega],rfl,by omega,by omega,by omega,Nat.le_refl _,S2,?_,HX.out.2⟩;right
       rw[show (lo+hi) / 2+1-1=(lo+hi) / 2 from by omega,←V8.out.1,←V8.out.2];exact hd
    · have hd:decide (cf x y<0)=false:=decide_eq_false hv;go_wp2_with fail
      go_quiet_grown (first | (go_at_fn g;refine Calls.grown_of (hc _ _)))
      have S2:Aside (SWK enc kE w0 blk off d (grow (wr.drewN nq) osq)):=S1.out.grown nq osq;clear l1 l2 hc S1;generalize grow (wr.drewN nq) osq=w2 at S2 ⊢
      clear nq osq;go_wp2;go_roundg ((lo+hi) / 2-lo)
      case measure=>omega
      case rel =>
       refine⟨lo,(lo+hi) / 2,rfl,by rw[show ((lo:Int)+(hi:Int)) / 2=(((lo+hi) / 2:Nat):Int) by omega],by omega,by omega,by omega,Nat.le_refl _,S2,HX.out.1,?_⟩;right
       rw[←V8.out.1,←V8.out.2];exact hd
  · obtain rfl:hi=lo:=by omega
    have r2:IntKind.i64.wrap ((hi:Int)-1)=(hi:Int)-1:=by rw[IntKind.wrap_i64];omega
    have hq:¬(hi:Int)<(hi:Int):=by omega
    go_wp2;go_loopg [13] b (fun g2 vk wr2=>∃(n:Nat) (dk:Array α),vk=.int .i64 ((a+n:Nat):Int)∧a+n+1≤hi∧b-(a+n)≤g2∧dk.size=d.size∧Aside (SWK enc kE w0 blk off dk wr2)∧Hid (Rot a 1 n d dk∧PermIn a b d dk))
    case atStart=>exact⟨0,d,by go_num,by omega,by omega,rfl,S1,Rot.triv (.inr rfl),permIn_refl _ _ _⟩
    case round =>
     clear S1;obtain⟨n,dk,rfl,hn,hg2,hsk,S2,HY⟩:=hrel;by_cases hk:a+n+1<hi
     · have hkz:((a+n:Nat):Int)<(hi:Int)-1:=by omega
       obtain⟨kN,hkN⟩:∃q,q=a+n:=⟨_,rfl⟩
       rw[←hkN] at hkz ⊢;obtain⟨jN,hjN⟩:∃q,q=kN+1:=⟨_,rfl⟩
       have ea:((kN:Int)+1).toNat=jN:=by omega
       have pa:(0:Int)≤(kN:Int)+1:=by omega
       have ba:(kN:Int)+1<(d.size:Int):=by omega
       have bk:(kN:Int)<(d.size:Int):=by omega
       have ra:IntKind.i64.wrap ((kN:Int)+1)=(kN:Int)+1:=by rw[IntKind.wrap_i64];omega
       have S3:Aside (SWK enc kE w0 blk off (swp dk (kN) (jN)) ((wr.drew.setCells blk (off+(kN)*kE) (enc dk[jN]!)).setCells blk (off+(jN)*kE) (enc dk[kN]!))):=S2.out.swapped HR.out (kN) (jN) (by omega) (by omega);have lA:=S2.out.ld1 HR.out (by omega) P (kN) (by omega);have lB:=S2.out.ld1 HR.out (by omega) P (jN) (by omega);have sA:=S2.out.st1 HR.out (by omega) P (kN) (by omega) dk[jN]!;have sB:=S2.out.st2 HR.out (by omega) P (kN) (jN) (by omega) (by omega) dk[jN]! dk[kN]!;have nA:(enc dk[kN]!).length=kE:=HR.out.hk _;have nB:(enc dk[jN]!).length=kE:=HR.out.hk _;generalize enc dk[kN]! = cI at S3 lA sB nA
       generalize enc dk[jN]! = cJ at S3 lB sA sB nB
       have Tv:Hid (Rot a 1 (n+1) d (swp dk kN jN)∧PermIn a b d (swp dk kN jN)) :=
        ⟨by rw[hjN,hkN];exact HY.out.1.up (by omega),permIn_trans _ _ _ _ _ HY.out.2 (swp_permIn dk a b kN jN (by omega) (by omega) (by omega) (by omega) (by omega))⟩
       have HK:Hid (kN=a+n):=hkN;clear S2 hjN hkN;go_wp2_with fail
       go_big_region_o
       clear lA lB sA sB;generalize (wr.drew.setCells blk (off+(kN)*kE) cJ).setCells blk (off+(jN)*kE) cI=w3 at S3 ⊢
       clear ea;go_wp2;go_roundg (b-(a+(n+1)))
       case measure=>have:=HK.out;omega
       case rel=>exact⟨n+1,swp dk kN jN,by rw[HK.out];go_num,by omega,Nat.le_refl _,by rw[size_swp];exact hsk,S3,Tv⟩
     · have hkz:¬((a+n:Nat):Int)<(hi:Int)-1:=by omega
       have en:hi=a+1+n:=by omega
       have R1:Hid (Rot a 1 n d dk∧PermIn a b d dk):=HY;have EN:Hid (hi=a+1+n):=en;obtain⟨kN,hkN⟩:∃q,q=a+n:=⟨_,rfl⟩
       rw[←hkN] at hkz ⊢;clear en hkN;go_wp2;refine bodyPost_ret (results_none rfl _ _ _) rfl ?_;have e1:=EN.out;refine⟨rfl,dk,R1.out.2,jk9 OO.out R1.out.1 (by omega) SS.out ?_ ?_,S2.out⟩
       · rcases HX.out.1 with h | h
         · exact .inl (by omega)
         · right;rw[show a+n=hi-1 from by omega];exact h
       · rcases HX.out.2 with h | h
         · exact .inl (by omega)
         · right;rw[←e1];exact h
theorem jc1 {α:Type} [Inhabited α] {P:Program} {kE:Nat} (L:Yq P kE) (enc:α→List Value) (cf:α→α→Int) (hO:SWO (ltOf cf)) (g:Nat) (cb:Array Value) (w0:World) (blk off cap a m:Nat) (d0 d:Array α) (w:World)
 (eg:∀args w,(callFunc g args).run P w=.ok (.enter g args) w) (hcmp:CmpLays P g cb enc kE cf blk off d0.size w0) (R:RowK enc kE w0 blk off d0) (hs:d0.size=d.size) (S:SWK enc kE w0 blk off d w)
 (ham:a+1<m) (hb:m+1≤d.size) (hsz:d.size<2305843009213693952) (s1:SortedIn (ltOf cf) a m d) :
 Calls P 119 #[.slice (some ⟨blk,off,none⟩) d.size cap,.int .i64 a,.int .i64 m,.int .i64 ((m:Int)+1),.func (.func g) #[] cb] w (jak kE enc cf w0 blk off a (m+1) d):=by
 unfold jak;have mixed:=L.mixed;have t0:=L.t0.trans Tryz.underlying0;have a0:=L.a0;have z0:=L.z0;have t3:=L.t3.trans Tryz.underlying3;have a3:=L.a3;have z3:=L.z3;have t4:=L.t4.trans Tryz.underlying4;have a4:=L.a4;have z4:=L.z4;have t39:=L.t39.trans Tryz.underlying239;have a39:=L.a39;have z39:=L.z39;have t22:=L.t22.trans Tryz.underlying23;have a22:=L.a22;have z22:=L.z22;have t25:=L.t25.trans Tryz.underlying88;have a25:=L.a25;have z25:=L.z25;have v0:=L.v0;have v3:=L.v3;have v4:=L.v4;have aE:=L.aE;have zE:=L.zE;have u22:=run_underlying t22;have eSwap:∀args w,(callFunc 196 args).run P w=.ok (.enter 196 args) w:=enters_of L.fSwap (by kernel_rfl) rfl;have eRot:∀args w,(callFunc 168 args).run P w=.ok (.enter 168 args) w:=enters_of L.fRot (by kernel_rfl) rfl;have eMrg:∀args w,(callFunc 119 args).run P w=.ok (.enter 119 args) w:=enters_of L.fMrg (by kernel_rfl) rfl;have eIns:∀args w,(callFunc 118 args).run P w=.ok (.enter 118 args) w:=enters_of L.fIns (by kernel_rfl) rfl;have eStb:∀args w,(callFunc 70 args).run P w=.ok (.enter 70 args) w:=enters_of L.fStb (by kernel_rfl) rfl;have HR:Aside _:=R;have HC:Aside _:=hcmp;have SS:Aside _:=s1;have OO:Aside _:=hO;have S0:Aside (SWK enc kE w0 blk off d w):=S;have r0:IntKind.i64.wrap ((m:Int)-(a:Int))=(m:Int)-(a:Int):=by rw[IntKind.wrap_i64];omega
 have q0:((m:Int)-(a:Int)==1)=false:=by simp;omega
 have r1:IntKind.i64.wrap ((m:Int)+1-(m:Int))=1:=by rw[IntKind.wrap_i64];omega
 have bmz:(m:Int)<(d.size:Int):=by omega
 clear S R hcmp s1 hO;go_enter L.fMrg,Tryz.ntmps119;go_wp2
 go_loopg [14,15] m (fun g1 vi vj wr=>∃lo hi:Nat,vi=.int .i64 lo∧vj=.int .i64 hi∧a≤lo∧lo≤hi∧hi≤m∧hi-lo≤g1∧Aside (SWK enc kE w0 blk off d wr) ∧
  Hid ((lo=a∨ltOf cf d[m]! d[lo-1]! = false)∧(hi=m∨ltOf cf d[m]! d[hi]! = true)))
 case atStart=>exact⟨a,m,rfl,rfl,by omega,by omega,by omega,by omega,S0,.inl rfl,.inl rfl⟩
 case round =>
  clear S0;obtain⟨lo,hi,rfl,rfl,hal,hlh,hhb,hg1,S1,HX⟩:=hrel;by_cases hlt:lo<hi
  · have hltz:(lo:Int)<(hi:Int):=by omega
    obtain⟨x,hx⟩:∃x,x=d[(lo+hi) / 2]!:=⟨_,rfl⟩
    obtain⟨y,hy⟩:∃x,x=d[m]!:=⟨_,rfl⟩
    have l1:=S1.out.ld HR.out (by omega) P ((lo+hi) / 2) (by omega);have l2:=S1.out.ld HR.out (by omega) P m (by omega);obtain⟨hN,hhN⟩:∃q,q=(lo+hi) / 2:=⟨_,rfl⟩
    rw[←hx,←hhN] at l1;rw[←hy] at l2;have ea:(((lo:Int)+(hi:Int)) / 2).toNat=hN:=by omega
    have pa:(0:Int)≤((lo:Int)+(hi:Int)) / 2:=by omega
    have ra:IntKind.i64.wrap (((lo:Int)+(hi:Int)) / 2)=((lo:Int)+(hi:Int)) / 2:=by rw[IntKind.wrap_i64];omega
    have hc:=S1.out.cmp HC.out (by omega) y x;have bm:((lo:Int)+(hi:Int)) / 2<(d.size:Int):=by omega
    have V8:Hid (x=d[(lo+hi) / 2]!∧y=d[m]!):=⟨hx,hy⟩
    clear hx hy hhN;by_cases hv:cf y x<0
    · have hd:decide (cf y x<0)=true:=decide_eq_true hv;go_wp2_with fail
      go_quiet_grown (first | (go_at_fn g;refine Calls.grown_of (hc _ _)))
      have S2:Aside (SWK enc kE w0 blk off d (grow (wr.drewN nq) osq)):=S1.out.grown nq osq;clear l1 l2 hc S1;generalize grow (wr.drewN nq) osq=w2 at S2 ⊢
      clear nq osq;go_wp2;go_roundg ((lo+hi) / 2-lo)
      case measure=>omega
      case rel =>
       refine⟨lo,(lo+hi) / 2,rfl,by rw[show ((lo:Int)+(hi:Int)) / 2=(((lo+hi) / 2:Nat):Int) by omega],by omega,by omega,by omega,Nat.le_refl _,S2,HX.out.1,?_⟩;right
       rw[←V8.out.1,←V8.out.2];exact hd
    · have hd:decide (cf y x<0)=false:=decide_eq_false hv;go_wp2_with fail
      go_quiet_grown (first | (go_at_fn g;refine Calls.grown_of (hc _ _)))
      have S2:Aside (SWK enc kE w0 blk off d (grow (wr.drewN nq) osq)):=S1.out.grown nq osq;clear l1 l2 hc S1;generalize grow (wr.drewN nq) osq=w2 at S2 ⊢
      clear nq osq;go_wp2;go_roundg (hi-((lo+hi) / 2+1))
      case measure=>omega
      case rel =>
       refine⟨(lo+hi) / 2+1,hi,by rw[show ((lo:Int)+(hi:Int)) / 2+1=(((lo+hi) / 2+1:Nat):Int) by omega],rfl,by omega,by omega,by omega,Nat.le_refl _,S2,?_,HX.out.2⟩;right
       rw[show (lo+hi) / 2+1-1=(lo+hi) / 2 from by omega,←V8.out.1,←V8.out.2];exact hd
  · obtain rfl:hi=lo:=by omega
    have hq:¬(hi:Int)<(hi:Int):=by omega
    go_wp2;go_loopg [17] m (fun g2 vk wr2=>∃(k n:Nat) (dk:Array α),vk=.int .i64 (k:Int)∧k+n=m∧hi≤k∧k≤g2∧dk.size=d.size∧Aside (SWK enc kE w0 blk off dk wr2)∧Hid (Rot k n 1 d dk∧PermIn a (m+1) d dk))
    case atStart=>exact⟨m,0,d,rfl,by omega,by omega,by omega,rfl,S1,Rot.triv (.inl rfl),permIn_refl _ _ _⟩
    case round =>
     clear S1;obtain⟨k,n,dk,rfl,hkn,hhk,hg2,hsk,S2,HY⟩:=hrel;by_cases hk:hi<k
     · obtain⟨jN,hjN⟩:∃q,q+1=k:=⟨k-1,by omega⟩
       subst hjN;have hkz:(hi:Int)<(jN:Int)+1:=by omega
       obtain⟨kN,hkN⟩:∃q,q=jN+1:=⟨_,rfl⟩
       have ea:((jN:Int)+1).toNat=kN:=by omega
       have pa:(0:Int)≤(jN:Int)+1:=by omega
       have ba:(jN:Int)+1<(d.size:Int):=by omega
       have bk:(jN:Int)<(d.size:Int):=by omega
       have ra:IntKind.i64.wrap (jN:Int)=(jN:Int):=by rw[IntKind.wrap_i64];omega
       have ra2:IntKind.i64.wrap ((jN:Int)+1-1)=(jN:Int):=by rw[IntKind.wrap_i64];omega
       have S3:Aside (SWK enc kE w0 blk off (swp dk (kN) (jN)) ((wr.drew.setCells blk (off+(kN)*kE) (enc dk[jN]!)).setCells blk (off+(jN)*kE) (enc dk[kN]!))):=S2.out.swapped HR.out (kN) (jN) (by omega) (by omega);have lA:=S2.out.ld1 HR.out (by omega) P (kN) (by omega);have lB:=S2.out.ld1 HR.out (by omega) P (jN) (by omega);have sA:=S2.out.st1 HR.out (by omega) P (kN) (by omega) dk[jN]!;have sB:=S2.out.st2 HR.out (by omega) P (kN) (jN) (by omega) (by omega) dk[jN]! dk[kN]!;have nA:(enc dk[kN]!).length=kE:=HR.out.hk _;have nB:(enc dk[jN]!).length=kE:=HR.out.hk _;generalize enc dk[kN]! = cI at S3 lA sB nA
       generalize enc dk[jN]! = cJ at S3 lB sA sB nB
       have Tv:Hid (Rot jN (n+1) 1 d (swp dk kN jN)∧PermIn a (m+1) d (swp dk kN jN)) :=
        ⟨by rw[hkN];exact HY.out.1.down (by omega),permIn_trans _ _ _ _ _ HY.out.2 (swp_permIn dk a (m+1) kN jN (by omega) (by omega) (by omega) (by omega) (by omega))⟩
       clear S2 hkN;go_wp2_with fail
       go_big_region_o
       clear lA lB sA sB;generalize (wr.drew.setCells blk (off+(kN)*kE) cJ).setCells blk (off+(jN)*kE) cI=w3 at S3 ⊢
       clear ea;go_wp2;go_roundg jN
       case measure=>omega
       case rel=>exact⟨jN,n+1,swp dk kN jN,by first | rfl | go_num | (congr 1;omega),by omega,by omega,Nat.le_refl _,by rw[size_swp];exact hsk,S3,Tv⟩
     · have en:k=hi:=by omega
       subst en;have hkz:¬(k:Int)<(k:Int):=by omega
       have KN:Hid (k+n=m):=hkn;clear hkn;go_wp2;refine bodyPost_ret (results_none rfl _ _ _) rfl ?_;have e1:=KN.out;refine⟨rfl,dk,HY.out.2,?_,S2.out⟩;have:=jjk OO.out HY.out.1 hal (by rw[e1];exact SS.out) ?_ ?_
       · rw[e1] at this;exact this
       · rcases HX.out.1 with h | h
         · exact .inl h
         · right;rw[e1];exact h
       · rcases HX.out.2 with h | h
         · exact .inl (by omega)
         · right;rw[e1];exact h
theorem jid {α:Type} [Inhabited α] {P:Program} {kE:Nat} (L:Yq P kE) (enc:α→List Value) (w0:World) (blk off cap a m b:Nat) (za zm zb:Int) (d0 d:Array α) (w:World) (R:RowK enc kE w0 blk off d0) (hs:d0.size=d.size) (S:SWK enc kE w0 blk off d w) (ham:a<m) (hmb:m<b) (hb:b≤d.size) (hsz:d.size<4611686018427387904) (cmp:Value)
 (ea:za=a) (em:zm=m) (eb:zb=b) (N:Nat) (hN:N=d.size) :
 Calls P 168 #[.slice (some ⟨blk,off,none⟩) N cap,.int .i64 za,.int .i64 zm,.int .i64 zb,cmp] w
  fun e w'=>e=.returned (.tuple #[])∧∃d',Rot a (m-a) (b-m) d d'∧PermIn a b d d'∧SWK enc kE w0 blk off d' w':=by
 subst ea em eb hN;exact jg9 L enc w0 blk off cap a m b d0 d w R hs S ham hmb hb hsz cmp
def jel {α:Type} [Inhabited α] (P:Program) (kE:Nat) (enc:α→List Value) (cf:α→α→Int) (g:Nat) (cb:Array Value) (w0:World) (blk off cap size n:Nat):Prop :=
 ∀(a m b:Nat) (za zm zb:Int) (d:Array α) (w:World),b-a<n→a<m→m<b→b≤size→d.size=size→za=a→zm=m→zb=b→SWK enc kE w0 blk off d w→SortedIn (ltOf cf) a m d→SortedIn (ltOf cf) m b d →
  Calls P 119 #[.slice (some ⟨blk,off,none⟩) size cap,.int .i64 za,.int .i64 zm,.int .i64 zb,.func (.func g) #[] cb] w (jak kE enc cf w0 blk off a b d)
theorem jeV {α:Type} [Inhabited α] {P:Program} {kE:Nat} (L:Yq P kE) (enc:α→List Value) (cf:α→α→Int) (hO:SWO (ltOf cf)) (g:Nat) (cb:Array Value) (w0:World) (blk off cap a m b:Nat) (d0 d:Array α) (w:World)
 (eg:∀args w,(callFunc g args).run P w=.ok (.enter g args) w) (hcmp:CmpLays P g cb enc kE cf blk off d0.size w0) (R:RowK enc kE w0 blk off d0) (hs:d0.size=d.size) (S:SWK enc kE w0 blk off d w)
 (ham:a+1<m) (hmb:m+1<b) (hb:b≤d.size) (hsz:d.size<2305843009213693952) (s1:SortedIn (ltOf cf) a m d) (s2:SortedIn (ltOf cf) m b d)
 (IH:jel P kE enc cf g cb w0 blk off cap d.size (b-a)) :
 Calls P 119 #[.slice (some ⟨blk,off,none⟩) d.size cap,.int .i64 a,.int .i64 m,.int .i64 b,.func (.func g) #[] cb] w (jak kE enc cf w0 blk off a b d):=by
 unfold jak;have mixed:=L.mixed;have t0:=L.t0.trans Tryz.underlying0;have a0:=L.a0;have z0:=L.z0;have t3:=L.t3.trans Tryz.underlying3;have a3:=L.a3;have z3:=L.z3;have t4:=L.t4.trans Tryz.underlying4;have a4:=L.a4;have z4:=L.z4;have t39:=L.t39.trans Tryz.underlying239;have a39:=L.a39;have z39:=L.z39;have t22:=L.t22.trans Tryz.underlying23;have a22:=L.a22;have z22:=L.z22;have t25:=L.t25.trans Tryz.underlying88;have a25:=L.a25;have z25:=L.z25;have v0:=L.v0;have v3:=L.v3;have v4:=L.v4;have aE:=L.aE;have zE:=L.zE;have u22:=run_underlying t22;have eSwap:∀args w,(callFunc 196 args).run P w=.ok (.enter 196 args) w:=enters_of L.fSwap (by kernel_rfl) rfl;have eRot:∀args w,(callFunc 168 args).run P w=.ok (.enter 168 args) w:=enters_of L.fRot (by kernel_rfl) rfl;have eMrg:∀args w,(callFunc 119 args).run P w=.ok (.enter 119 args) w:=enters_of L.fMrg (by kernel_rfl) rfl;have eIns:∀args w,(callFunc 118 args).run P w=.ok (.enter 118 args) w:=enters_of L.fIns (by kernel_rfl) rfl;have eStb:∀args w,(callFunc 70 args).run P w=.ok (.enter 70 args) w:=enters_of L.fStb (by kernel_rfl) rfl;have HR:Aside _:=R;have HC:Aside _:=hcmp;have T1:Aside _:=s1;have T2:Aside _:=s2;have OO:Aside _:=hO;have HI:Aside _:=IH;have S0:Aside (SWK enc kE w0 blk off d w):=S;have r0:IntKind.i64.wrap ((m:Int)-(a:Int))=(m:Int)-(a:Int):=by rw[IntKind.wrap_i64];omega
 have q0:((m:Int)-(a:Int)==1)=false:=by simp;omega
 have r1:IntKind.i64.wrap ((b:Int)-(m:Int))=(b:Int)-(m:Int):=by rw[IntKind.wrap_i64];omega
 have q1:((b:Int)-(m:Int)==1)=false:=by simp;omega
 obtain⟨mid,hmid⟩:∃mid,mid=(a+b) / 2:=⟨_,rfl⟩
 have em:((a:Int)+(b:Int)) / 2=(mid:Int):=by omega
 have m1:a<mid:=by omega
 have m2:mid<b:=by omega
 have m3:2*mid≤a+b:=by omega
 have m4:a+b≤2*mid+1:=by omega
 clear S R hcmp s1 s2 hO IH hmid;have r2:IntKind.i64.wrap ((mid:Int)+(m:Int))=(mid:Int)+(m:Int):=by rw[IntKind.wrap_i64];omega
 have r3:IntKind.i64.wrap ((mid:Int)+(m:Int)-(b:Int))=(mid:Int)+(m:Int)-(b:Int):=by rw[IntKind.wrap_i64];omega
 have r4:IntKind.i64.wrap ((mid:Int)+(m:Int)-1)=(mid:Int)+(m:Int)-1:=by rw[IntKind.wrap_i64];omega
 go_enter L.fMrg,Tryz.ntmps119;go_upto_if 140 with fail
 go_cut [20,21] from 25 (fun s20 s21 wx=>w=wx∧∃lo hi:Nat,s20=.int .i64 lo∧s21=.int .i64 hi∧((m≤mid∧lo=a∧hi=m)∨(mid<m∧lo+b=mid+m∧hi=mid)))
 case first =>
  by_cases hmm:mid<m
  · have hz:(mid:Int)<(m:Int):=by omega
    go_wp2;go_meet
    case rel=>exact⟨rfl,mid+m-b,mid,by congr 1;omega,rfl,.inr ⟨hmm,by omega,rfl⟩⟩
  · have hz:¬(mid:Int)<(m:Int):=by omega
    go_wp2;go_meet
    case rel=>exact⟨rfl,a,m,rfl,rfl,.inl ⟨by omega,rfl,rfl⟩⟩
 case rest =>
  obtain⟨rfl,lo,hi,rfl,rfl,hlh⟩:=hcut;have HL:Hid ((m≤mid∧lo=a∧hi=m)∨(mid<m∧lo+b=mid+m∧hi=mid)):=hlh;have l1:a≤lo:=by omega
  have l2:hi≤m:=by omega
  have l3:hi≤mid:=by omega
  have l4:mid+m≤lo+b:=by omega
  have l5:lo≤hi:=by omega
  clear hlh;go_wp2
  go_loopg [20,21] b (fun g1 vi vj wr=>∃s r:Nat,vi=.int .i64 s∧vj=.int .i64 r∧lo≤s∧s≤r∧r≤hi∧r-s≤g1∧Aside (SWK enc kE w0 blk off d wr) ∧
   Hid ((s=lo∨ltOf cf d[mid+m-s]! d[s-1]! = false)∧(r=hi∨ltOf cf d[mid+m-1-r]! d[r]! = true)))
  case atStart=>exact⟨lo,hi,rfl,rfl,by omega,by omega,by omega,by omega,S0,.inl rfl,.inl rfl⟩
  case round =>
   clear S0;obtain⟨s,r,rfl,rfl,hls,hsr,hrh,hg1,S1,HX⟩:=hrel;by_cases hlt:s<r
   · have hltz:(s:Int)<(r:Int):=by omega
     obtain⟨hN,hhN⟩:∃q,q=(s+r) / 2:=⟨_,rfl⟩
     obtain⟨pN,hpN⟩:∃q,q=mid+m-1-hN:=⟨_,rfl⟩
     obtain⟨x,hx⟩:∃x,x=d[hN]!:=⟨_,rfl⟩
     obtain⟨y,hy⟩:∃x,x=d[pN]!:=⟨_,rfl⟩
     have l1':=S1.out.ld HR.out (by omega) P hN (by omega);have l2':=S1.out.ld HR.out (by omega) P pN (by omega);rw[←hx] at l1';rw[←hy] at l2';have eh:((s:Int)+(r:Int)) / 2=(hN:Int):=by omega
     have ed:(mid:Int)+(m:Int)-1-(hN:Int)=(pN:Int):=by omega
     have bp:(pN:Int)<(d.size:Int):=by omega
     have bh:(hN:Int)<(d.size:Int):=by omega
     have ra:IntKind.i64.wrap (pN:Int)=(pN:Int):=by rw[IntKind.wrap_i64];omega
     have hc:=S1.out.cmp HC.out (by omega) y x;have V8:Hid (x=d[hN]!∧y=d[pN]!∧hN=(s+r) / 2∧pN=mid+m-1-hN):=⟨hx,hy,hhN,hpN⟩
     have b1:s≤hN:=by omega
     have b2:hN<r:=by omega
     clear hx hy hhN hpN;by_cases hv:cf y x<0
     · have hd:decide (cf y x<0)=true:=decide_eq_true hv;go_wp2_with fail
       go_quiet_grown (first | (go_at_fn g;refine Calls.grown_of (hc _ _)))
       have S2:Aside (SWK enc kE w0 blk off d (grow (wr.drewN nq) osq)):=S1.out.grown nq osq;clear l1' l2' hc S1;generalize grow (wr.drewN nq) osq=w2 at S2 ⊢
       clear nq osq;go_wp2;go_roundg (hN-s)
       case measure=>omega
       case rel =>
        refine⟨s,hN,rfl,rfl,by omega,by omega,by omega,Nat.le_refl _,S2,HX.out.1,?_⟩;right
        rw[←V8.out.2.2.2,←V8.out.1,←V8.out.2.1];exact hd
     · have hd:decide (cf y x<0)=false:=decide_eq_false hv;go_wp2_with fail
       go_quiet_grown (first | (go_at_fn g;refine Calls.grown_of (hc _ _)))
       have S2:Aside (SWK enc kE w0 blk off d (grow (wr.drewN nq) osq)):=S1.out.grown nq osq;clear l1' l2' hc S1;generalize grow (wr.drewN nq) osq=w2 at S2 ⊢
       clear nq osq;go_wp2;go_roundg (r-(hN+1))
       case measure=>omega
       case rel =>
        refine⟨hN+1,r,by go_num,rfl,by omega,by omega,by omega,Nat.le_refl _,S2,?_,HX.out.2⟩;right
        rw[show hN+1-1=hN from by omega,show mid+m-(hN+1)=mid+m-1-hN from by omega,←V8.out.2.2.2,←V8.out.1,←V8.out.2.1];exact hd
   · obtain rfl:r=s:=by omega
     have hq:¬(r:Int)<(r:Int):=by omega
     have r5:IntKind.i64.wrap ((mid:Int)+(m:Int)-(r:Int))=(mid:Int)+(m:Int)-(r:Int):=by rw[IntKind.wrap_i64];omega
     have hF:Found (ltOf cf) a m b mid r d:=by
      refine⟨by omega,by omega,m1,m2,by omega,by omega,by omega,by omega,by omega,?_,?_⟩
      · rcases HX.out.1 with h | h
        · rcases HL.out with ⟨h1,h2,h3⟩ | ⟨h1,h2,h3⟩
          · exact .inl (by omega)
          · exact .inr (.inl (by omega))
        · exact .inr (.inr h)
      · rcases HX.out.2 with h | h
        · rcases HL.out with ⟨h1,h2,h3⟩ | ⟨h1,h2,h3⟩
          · exact .inl (by omega)
          · exact .inr (.inl (by omega))
        · exact .inr (.inr h)
     have FF:Hid _:=hF;obtain⟨z,hz⟩:∃z,z=mid+m-r:=⟨_,rfl⟩
     have ez:(mid:Int)+(m:Int)-(r:Int)=(z:Int):=by omega
     have z1:m≤z:=hz▸hF.em;have z2:z≤b:=hz▸hF.eb;have z3:mid≤z:=by omega
     have HZ:Hid (z=mid+m-r):=hz;clear hF hz;go_upto_region 39 with fail
     go_cut [185] from 178 (fun s185 wx=>s185=.bool (decide (r<m)&&decide (m<z))∧wr=wx)
     case first =>
      by_cases c1:r<m
      · have c1z:(r:Int)<(m:Int):=by omega
        by_cases c2:m<z
        · have c2z:(m:Int)<(z:Int):=by omega
          go_wp2;go_meet
          case rel=>exact⟨by simp[c1,c2],rfl⟩
        · have c2z:¬(m:Int)<(z:Int):=by omega
          go_wp2;go_meet
          case rel=>exact⟨by simp[c1,c2],rfl⟩
      · have c1z:¬(r:Int)<(m:Int):=by omega
        go_wp2;go_meet
        case rel=>exact⟨by simp[c1],rfl⟩
     case rest =>
     obtain⟨rfl,rfl⟩:=hcut;go_upto_if 185 with fail
     go_cut [] from 25 (fun wx=>∃d1:Array α,d1.size=d.size∧Aside (SWK enc kE w0 blk off d1 wx)∧Hid (Rot r (m-r) (mid-r) d d1∧PermIn a b d d1))
     case first =>
      by_cases c1:r<m
      · have c1z:(r:Int)<(m:Int):=by omega
        by_cases c2:m<z
        · have c2z:(m:Int)<(z:Int):=by omega
          have hc:=lH (jid L enc w0 blk off cap r m z r m z d0 d wr HR.out hs S1.out c1 c2 (by omega) (by omega) (.func (.func g) #[] cb) rfl rfl rfl d.size rfl);go_wp2_with (go_at_call 168;refine hc.out.mono ?_;rintro e w1 ⟨rfl,d1,hE,hP,hS⟩)
          have H1:Hid (Rot r (m-r) (z-m) d d1):=hE;have H2:Hid (PermIn r z d d1):=hP;have S2:Aside (SWK enc kE w0 blk off d1 w1):=hS;clear hE hP hS;go_meet
          case rel=>exact⟨d1,H1.out.size,S2,by rw[show mid-r=z-m from by omega];exact H1.out,permIn_mono _ _ _ _ _ _ (by omega) (by omega) (by omega) H2.out⟩
        · have c2z:¬(m:Int)<(z:Int):=by omega
          go_wp2;go_meet
          case rel=>exact⟨d,rfl,S1,Rot.triv (.inr (by omega)),permIn_refl _ _ _⟩
      · have c1z:¬(r:Int)<(m:Int):=by omega
        go_wp2;go_meet
        case rel=>exact⟨d,rfl,S1,Rot.triv (.inl (by omega)),permIn_refl _ _ _⟩
     case rest =>
      obtain⟨d1,hd1,S2,H1⟩:=hcut;have HP:Hid (SortedIn (ltOf cf) a r d1∧SortedIn (ltOf cf) r mid d1∧SortedIn (ltOf cf) mid z d1∧SortedIn (ltOf cf) z b d1):=by
       rw[show z=mid+m-r from HZ.out];exact FF.out.parts H1.out.1 T1.out T2.out
      have HQ:Hid (∀x y,a≤x→x<mid→mid≤y→y<b→ltOf cf d1[y]! d1[x]! = false):=FF.out.cross OO.out H1.out.1 T1.out T2.out;clear S1;go_upto_region 41 with fail
      go_cut [199] from 192 (fun s199 wx=>s199=.bool (decide (a<r)&&decide (r<mid))∧wc=wx)
      case first =>
       by_cases c1:a<r
       · have c1z:(a:Int)<(r:Int):=by omega
         by_cases c2:r<mid
         · have c2z:(r:Int)<(mid:Int):=by omega
           go_wp2;go_meet
           case rel=>exact⟨by simp[c1,c2],rfl⟩
         · have c2z:¬(r:Int)<(mid:Int):=by omega
           go_wp2;go_meet
           case rel=>exact⟨by simp[c1,c2],rfl⟩
       · have c1z:¬(a:Int)<(r:Int):=by omega
         go_wp2;go_meet
         case rel=>exact⟨by simp[c1],rfl⟩
      case rest =>
      obtain⟨rfl,rfl⟩:=hcut;go_upto_if 199 with fail
      go_cut [] from 25 (fun wx=>∃d2:Array α,d2.size=d.size∧Aside (SWK enc kE w0 blk off d2 wx)∧Hid (PermIn a mid d1 d2∧SortedIn (ltOf cf) a mid d2))
      case first =>
       by_cases c1:a<r
       · have c1z:(a:Int)<(r:Int):=by omega
         by_cases c2:r<mid
         · have c2z:(r:Int)<(mid:Int):=by omega
           have hc:=lH (HI.out a r mid a r mid d1 wc (by omega) c1 c2 (by omega) hd1 rfl rfl rfl S2.out HP.out.1 HP.out.2.1);go_wp2_with (go_at_call 119;refine hc.out.mono ?_;rintro e w1 ⟨rfl,d2,hE,hP,hS⟩)
           have H3:Hid (PermIn a mid d1 d2):=hE;have H4:Hid (SortedIn (ltOf cf) a mid d2):=hP;have S3:Aside (SWK enc kE w0 blk off d2 w1):=hS;clear hE hP hS;go_meet
           case rel=>exact⟨d2,by rw[H3.out.1];exact hd1,S3,H3.out,H4.out⟩
         · have c2z:¬(r:Int)<(mid:Int):=by omega
           go_wp2;go_meet
           case rel=>exact⟨d1,hd1,S2,permIn_refl _ _ _,by have:=HP.out.1;rw[show r=mid from by omega] at this;exact this⟩
       · have c1z:¬(a:Int)<(r:Int):=by omega
         go_wp2;go_meet
         case rel=>exact⟨d1,hd1,S2,permIn_refl _ _ _,by have:=HP.out.2.1;rw[show r=a from by omega] at this;exact this⟩
      case rest =>
       obtain⟨d2,hd2,S3,H3⟩:=hcut;clear S2;by_cases c1:mid<z
       · have c1z:(mid:Int)<(z:Int):=by omega
         by_cases c2:z<b
         · have c2z:(z:Int)<(b:Int):=by omega
           have hc:=lH (HI.out mid z b mid z b d2 wc (by omega) c1 c2 (by omega) hd2 rfl rfl rfl S3.out
            (HP.out.2.2.1.congr fun i g1 g2=>H3.out.1.2.1 i (by omega)) (HP.out.2.2.2.congr fun i g1 g2=>H3.out.1.2.1 i (by omega)))
           go_wp2_with (go_at_call 119;refine hc.out.mono ?_;rintro e w1 ⟨rfl,d3,hE,hP,hS⟩)
           go_end0
           exact⟨rfl,d3,permIn_trans _ _ _ _ _ H1.out.2 (permIn_trans _ _ _ _ _ (permIn_mono _ _ _ _ _ _ (by omega) (by omega) (by omega) H3.out.1) (permIn_mono _ _ _ _ _ _ (by omega) (by omega) (by omega) hE)),qm (by omega) (by omega) H3.out.1 H3.out.2 hE hP HQ.out,hS⟩
         · have c2z:¬(z:Int)<(b:Int):=by omega
           have hs4:SortedIn (ltOf cf) mid b d2:=by
            have h4:=HP.out.2.2.1;rw[show z=b from by omega] at h4;exact h4.congr fun i g1 g2=>H3.out.1.2.1 i (by omega)
           have Ry:Hid _:=hs4;clear hs4;go_wp2;go_end0
           exact⟨rfl,d2,permIn_trans _ _ _ _ _ H1.out.2 (permIn_mono _ _ _ _ _ _ (by omega) (by omega) (by omega) H3.out.1),qm (by omega) (by omega) H3.out.1 H3.out.2 (permIn_refl _ _ _) Ry.out HQ.out,S3.out⟩
       · have c1z:¬(mid:Int)<(z:Int):=by omega
         have hs4:SortedIn (ltOf cf) mid b d2:=by
          have h4:=HP.out.2.2.2;rw[show z=mid from by omega] at h4;exact h4.congr fun i g1 g2=>H3.out.1.2.1 i (by omega)
         have Ry:Hid _:=hs4;clear hs4;go_wp2;go_end0
         exact⟨rfl,d2,permIn_trans _ _ _ _ _ H1.out.2 (permIn_mono _ _ _ _ _ _ (by omega) (by omega) (by omega) H3.out.1),qm (by omega) (by omega) H3.out.1 H3.out.2 (permIn_refl _ _ _) Ry.out HQ.out,S3.out⟩
theorem jdc {α:Type} [Inhabited α] {P:Program} {kE:Nat} (L:Yq P kE) (enc:α→List Value) (cf:α→α→Int) (hO:SWO (ltOf cf)) (g:Nat) (cb:Array Value) (w0:World) (blk off cap size:Nat) (d0:Array α) (hs:d0.size=size)
 (eg:∀args w,(callFunc g args).run P w=.ok (.enter g args) w) (hcmp:CmpLays P g cb enc kE cf blk off d0.size w0) (R:RowK enc kE w0 blk off d0) (hsz:size<2305843009213693952) :
 ∀n,jel P kE enc cf g cb w0 blk off cap size n:=by
 intro n
 induction n with
 | zero=>intro a m b za zm zb d w h;omega
 | succ n ih =>
  intro a m b za zm zb d w hn ham hmb hb hd ea em eb S s1 s2;subst ea em eb;subst hd;by_cases h1:m=a+1
  · subst h1;have:=jdO L enc cf hO g cb w0 blk off cap a b d0 d w eg hcmp R hs S hmb hb hsz s2;rw[show ((a+1:Nat):Int)=(a:Int)+1 from by omega];exact this
  · by_cases h2:b=m+1
    · subst h2;have:=jc1 L enc cf hO g cb w0 blk off cap a m d0 d w eg hcmp R hs S (by omega) hb hsz s1;rw[show ((m+1:Nat):Int)=(m:Int)+1 from by omega];exact this
    · exact jeV L enc cf hO g cb w0 blk off cap a m b d0 d w eg hcmp R hs S (by omega) (by omega) hb hsz s1 s2
       (fun a' m' b' za zm zb d' w' h=>ih a' m' b' za zm zb d' w' (by omega))
theorem ja0 {α:Type} [Inhabited α] {P:Program} {kE:Nat} (L:Yq P kE) (enc:α→List Value) (cf:α→α→Int) (hO:SWO (ltOf cf)) (g:Nat) (cb:Array Value) (w0:World) (blk off cap a m b:Nat) (za zm zb:Int) (d0 d:Array α) (w:World)
 (eg:∀args w,(callFunc g args).run P w=.ok (.enter g args) w) (hcmp:CmpLays P g cb enc kE cf blk off d0.size w0) (R:RowK enc kE w0 blk off d0) (hs:d0.size=d.size) (hsz:d.size<2305843009213693952) (S:SWK enc kE w0 blk off d w)
 (ham:a<m) (hmb:m<b) (hb:b≤d.size) (ea:za=a) (em:zm=m) (eb:zb=b) (s1:SortedIn (ltOf cf) a m d) (s2:SortedIn (ltOf cf) m b d) (N:Nat) (hN:N=d.size) :
 Calls P 119 #[.slice (some ⟨blk,off,none⟩) N cap,.int .i64 za,.int .i64 zm,.int .i64 zb,.func (.func g) #[] cb] w (jak kE enc cf w0 blk off a b d):=by
 subst hN;exact jdc L enc cf hO g cb w0 blk off cap d.size d0 hs eg hcmp R hsz (b-a+1) a m b za zm zb d w (by omega) ham hmb hb rfl ea em eb S s1 s2
def jkL:Go.Shelf.Ren:=⟨fun | 20=>118 | n=>n,fun | 0=>0 | 3=>3 | 4=>4 | 22=>23 | 24=>52 | 25=>88 | n=>n,fun | n=>n⟩
theorem joc:Go.Proofs.SlLaysF0.n20 Tryz.prog jkL:={
 mixed:=by kernel_rfl
 f20:=⟨Tryz.f118.name,by decide,Tryz.func118.trans (congrArg some (by kernel_rfl))⟩
 t0:=Tryz.underlying0
 a0:=Tryz.isAgg0
 z0:=Tryz.sizeOf0
 v0:=Tryz.zeroValue0
 t3:=Tryz.underlying3
 a3:=Tryz.isAgg3
 z3:=Tryz.sizeOf3
 v3:=Tryz.zeroValue3
 t4:=Tryz.underlying4
 a4:=Tryz.isAgg4
 z4:=Tryz.sizeOf4
 v4:=Tryz.zeroValue4
 t22:=Tryz.underlying23
 a22:=Tryz.isAgg23
 z22:=Tryz.sizeOf23
 v22:=Tryz.zeroValue23
 t25:=Tryz.underlying88
 a25:=Tryz.isAgg88
 z25:=Tryz.sizeOf88
 v25:=Tryz.zeroValue88 }
theorem jbE {α:Type} [Inhabited α] (enc:α→List Value) (cf:α→α→Int) (hO:SWO (ltOf cf)) (g:Nat) (cb:Array Value) (w0:World) (blk off cap a b:Nat) (za zb:Int) (d0 d:Array α) (w:World)
 (eg:∀args w,(callFunc g args).run Tryz.prog w=.ok (.enter g args) w) (hcmp:CmpLays Tryz.prog g cb enc 11 cf blk off d0.size w0) (R:RowK enc 11 w0 blk off d0) (hs:d0.size=d.size) (hsz:d.size<2305843009213693952) (S:SWK enc 11 w0 blk off d w)
 (hab:a≤b) (hb:b≤d.size) (ea:za=a) (eb:zb=b) (N:Nat) (hN:N=d.size) :
 Calls Tryz.prog 118 #[.slice (some ⟨blk,off,none⟩) N cap,.int .i64 za,.int .i64 zb,.func (.func g) #[] cb] w (jak 11 enc cf w0 blk off a b d):=by
 subst hN ea eb;have hc:CmpLays Tryz.prog g cb enc 11 cf blk off d.size w:=fun m os dk hk x y=>by
  obtain⟨m',os',e⟩:=S.on R.hblk m dk os hk;rw[e];exact hcmp m' os' dk (hk.trans hs.symm) x y
 have hst:=AnyQ.insertionSortCmpFunc joc 11 Tryz.isAgg52 Tryz.sizeOf52 enc R.hk R.h1 cf g cb blk off cap a b d w eg hc (S.holds R.hblk R.hH hs.symm) (S.lt R.hblk) hab hb (by omega);change Calls Tryz.prog 118 _ _ _ at hst;refine hst.mono ?_;rintro e w' ⟨rfl,n,os,rfl⟩;have h:=insertionSort_holds hO d a b hab hb;exact⟨rfl,_,h.1,h.2,S.on R.hblk n _ os h.1.1⟩
inductive Xf {α:Type} [Inhabited α] (lt:α→α→Bool) (s:Nat) (d:Array α):Nat→Prop
 | zero:Xf lt s d 0
 | snoc {a:Nat}:Xf lt s d a→SortedIn lt a (a+s) d→Xf lt s d (a+s)
inductive ZV {α:Type} [Inhabited α] (lt:α→α→Bool) (s n:Nat) (d:Array α):Nat→Prop
 | done {a:Nat}:n≤a→ZV lt s n d a
 | step {a:Nat}:SortedIn lt a (min (a+s) n) d→ZV lt s n d (a+s)→ZV lt s n d a
section
variable {α:Type} [Inhabited α] {lt:α→α→Bool} {s n a:Nat} {d d':Array α}
theorem Xf.congr (h:Xf lt s d a):(∀i,i<a→d'[i]! = d[i]!)→Xf lt s d' a:=by
 induction h with
 | zero=>exact fun _=>.zero
 | snoc _ h2 ih=>exact fun g=>.snoc (ih fun i hi=>g i (by omega)) (h2.congr fun i h1 h2=>g i (by omega))
theorem ZV.congr (h:ZV lt s n d a):(∀i,a≤i→i<n→d'[i]! = d[i]!)→ZV lt s n d' a:=by
 induction h with
 | done h=>exact fun _=>.done h
 | step h1 _ ih=>exact fun g=>.step (h1.congr fun i h1 h2=>g i h1 (by omega)) (ih fun i hi=>g i (by omega))
theorem Xf.blks (h:Xf lt s d a):a≤n→ZV lt s n d a→ZV lt s n d 0:=by
 induction h with
 | zero=>exact fun _ g=>g
 | snoc h1 h2 ih=>exact fun hn g=>ih (by omega) (.step (by rw[Nat.min_eq_left hn];exact h2) g)
theorem ZV.head (h:ZV lt s n d a) (ha:a<n):SortedIn lt a (min (a+s) n) d∧ZV lt s n d (a+s):=by
 cases h with
 | done h=>omega
 | step h1 h2=>exact⟨h1,h2⟩
end
def jnz {α:Type} [Inhabited α] (enc:α→List Value) (cf:α→α→Int) (w0:World) (blk:Nat) (d:Array α) (e:Ending) (w':World):Prop :=
 e=.returned (.tuple #[])∧∃d',PermIn 0 d.size d d'∧SortedIn (ltOf cf) 0 d.size d'∧SWK enc 11 w0 blk 0 d' w'
theorem jln {α:Type} [Inhabited α] (enc:α→List Value) (cf:α→α→Int) (hO:SWO (ltOf cf)) (g:Nat) (cb:Array Value) (w:World) (blk cap:Nat) (d:Array α)
 (eg:∀args w,(callFunc g args).run Tryz.prog w=.ok (.enter g args) w) (hcmp:CmpLays Tryz.prog g cb enc 11 cf blk 0 d.size w) (R:RowK enc 11 w blk 0 d) (hsz:d.size<1000000000) :
 Calls Tryz.prog 70 #[.slice (some ⟨blk,0,none⟩) d.size cap,.int .i64 d.size,.func (.func g) #[] cb] w (jnz enc cf w blk d):=by
 have HR:Aside _:=R;have HC:Aside _:=hcmp;have OO:Aside _:=hO;have S0:Aside (SWK enc 11 w blk 0 d w):=SWK.start R.hH;unfold jnz;clear R hcmp hO;go_enter Tryz.func70,Tryz.ntmps70;go_wp2;go_loopg [7,8] d.size (fun g1 va vb wr=>∃(a:Nat) (dk:Array α),va=.int .i64 a∧vb=.int .i64 ((a:Int)+20)∧a≤d.size∧d.size-a≤g1∧dk.size=d.size∧Aside (SWK enc 11 w blk 0 dk wr)∧Hid (PermIn 0 d.size d dk∧Xf (ltOf cf) 20 dk a))
 case atStart=>exact⟨0,d,by go_num,by go_num,by omega,by omega,rfl,S0,permIn_refl _ _ _,.zero⟩
 case round =>
  clear S0;obtain⟨a,dk,rfl,rfl,ha,hg1,hsk,S1,HX⟩:=hrel;by_cases hlt:a+20≤d.size
  · have hz:(a:Int)+20≤(d.size:Int):=by omega
    have r1:IntKind.i64.wrap ((a:Int)+20+20)=(a:Int)+20+20:=by rw[IntKind.wrap_i64];omega
    have hc:=lH (jbE enc cf OO.out g cb w blk 0 cap a (a+20) a ((a:Int)+20) d dk wr eg HC.out HR.out hsk.symm (by omega) S1.out (by omega) (by omega) rfl (by omega) d.size hsk.symm);clear S1;go_wp2_with (go_at_call 118;refine hc.out.mono ?_;rintro e w1 ⟨rfl,d1,hE,hP,hS⟩)
    have H1:Hid (PermIn a (a+20) dk d1):=hE;have H2:Hid (SortedIn (ltOf cf) a (a+20) d1):=hP;have S2:Aside (SWK enc 11 w blk 0 d1 w1):=hS;clear hE hP hS;go_roundg (d.size-(a+20))
    case measure=>omega
    case rel=>exact⟨a+20,d1,by first | rfl | go_num | (congr 1;omega),by first | rfl | go_num | (congr 1;omega),by omega,Nat.le_refl _,by rw[H1.out.1];exact hsk,S2,permIn_trans _ _ _ _ _ HX.out.1 (permIn_mono _ _ _ _ _ _ (by omega) (by omega) (by omega) H1.out),.snoc (HX.out.2.congr fun i hi=>H1.out.2.1 i (by omega)) H2.out⟩
  · have hz:¬(a:Int)+20≤(d.size:Int):=by omega
    have hc:=lH (jbE enc cf OO.out g cb w blk 0 cap a d.size a d.size d dk wr eg HC.out HR.out hsk.symm (by omega) S1.out (by omega) (by omega) rfl rfl d.size hsk.symm);clear S1;go_wp2_with (go_at_call 118;refine hc.out.mono ?_;rintro e w1 ⟨rfl,d1,hE,hP,hS⟩)
    have HB:Hid (PermIn 0 d.size d d1∧ZV (ltOf cf) 20 d.size d1 0) :=
     ⟨permIn_trans _ _ _ _ _ HX.out.1 (permIn_mono _ _ _ _ _ _ (by omega) (by omega) (by omega) hE),(HX.out.2.congr fun i hi=>hE.2.1 i (by omega)).blks ha (.step (by rw[Nat.min_eq_right (by omega)];exact hP) (.done (by omega)))⟩
    have hz1:d1.size=d.size:=by rw[hE.1];exact hsk
    have S2:Aside (SWK enc 11 w blk 0 d1 w1):=hS;clear hE hP hS hc HX hz hlt ha hg1;go_loopg [6,7,8] d.size (fun g2 vs va vb wr2=>∃(s:Nat) (dk:Array α),vs=.int .i64 s∧0<s∧s≤2*d.size+20∧d.size-s≤g2∧dk.size=d.size∧Aside (SWK enc 11 w blk 0 dk wr2)∧Hid (PermIn 0 d.size d dk∧ZV (ltOf cf) s d.size dk 0))
    case atStart=>exact⟨20,d1,rfl,by omega,by omega,by omega,hz1,S2,HB⟩
    case round =>
     clear S2 HB hz1;obtain⟨s,dk,rfl,hs0,hs1,hg2,hsk,S3,HX⟩:=hrel;by_cases hls:s<d.size
     · have hlz:(s:Int)<(d.size:Int):=by omega
       have r2:IntKind.i64.wrap (2*(s:Int))=2*(s:Int):=by rw[IntKind.wrap_i64];omega
       have r2':IntKind.i64.wrap ((s:Int)*2)=(s:Int)*2:=by rw[IntKind.wrap_i64];omega
       go_wp2_with fail
       go_loopg [7,8] d.size (fun g3 va vb wr3=>∃(a:Nat) (dj:Array α),va=.int .i64 a∧vb=.int .i64 ((a:Int)+2*(s:Int))∧a≤d.size∧d.size-a≤g3∧dj.size=d.size∧Aside (SWK enc 11 w blk 0 dj wr3)∧Hid (PermIn 0 d.size d dj∧Xf (ltOf cf) (2*s) dj a∧ZV (ltOf cf) s d.size dj a))
       case atStart=>exact⟨0,dk,by first | rfl | go_num,by first | rfl | go_num | (congr 1;omega),by omega,by omega,hsk,S3,HX.out.1,.zero,HX.out.2⟩
       case round =>
        clear S3 HX hsk;obtain⟨a,dj,rfl,rfl,ha,hg3,hsk,S4,HY⟩:=hrel;have r3:IntKind.i64.wrap ((a:Int)+(s:Int))=(a:Int)+(s:Int):=by rw[IntKind.wrap_i64];omega
        have r4:IntKind.i64.wrap ((a:Int)+2*(s:Int)+2*(s:Int))=(a:Int)+2*(s:Int)+2*(s:Int):=by rw[IntKind.wrap_i64];omega
        by_cases hlt:a+2*s≤d.size
        · have hz:(a:Int)+2*(s:Int)≤(d.size:Int):=by omega
          obtain⟨p1,p2⟩:=HY.out.2.2.head (by omega);obtain⟨p3,p4⟩:=p2.head (by omega);rw[Nat.min_eq_left (by omega)] at p1;rw[Nat.min_eq_left (by omega)] at p3;have hc:=lH (ja0 jkr enc cf OO.out g cb w blk 0 cap a (a+s) (a+2*s) a ((a:Int)+s) ((a:Int)+2*s) d dj wr eg HC.out HR.out hsk.symm (by omega) S4.out (by omega) (by omega) (by omega) rfl (by omega) (by omega) p1 (by rw[show a+2*s=a+s+s from by omega];exact p3) d.size hsk.symm);have H4:Hid (ZV (ltOf cf) s d.size dj (a+2*s)):=by rw[show a+2*s=a+s+s from by omega];exact p4
          clear S4 p1 p2 p3 p4;go_wp2_with (go_at_call 119;refine hc.out.mono ?_;rintro e w2 ⟨rfl,d2,hE,hP,hS⟩)
          have H1:Hid (PermIn a (a+2*s) dj d2):=hE;have H2:Hid (SortedIn (ltOf cf) a (a+2*s) d2):=hP;have S5:Aside (SWK enc 11 w blk 0 d2 w2):=hS;clear hE hP hS hc;go_roundg (d.size-(a+2*s))
          case measure=>omega
          case rel=>exact⟨a+2*s,d2,by first | rfl | go_num | (congr 1;omega),by first | rfl | go_num | (congr 1;omega),by omega,Nat.le_refl _,by rw[H1.out.1];exact hsk,S5,permIn_trans _ _ _ _ _ HY.out.1 (permIn_mono _ _ _ _ _ _ (by omega) (by omega) (by omega) H1.out),.snoc (HY.out.2.1.congr fun i hi=>H1.out.2.1 i (by omega)) H2.out,H4.out.congr fun i h1 h2=>H1.out.2.1 i (by omega)⟩
        · have hz:¬(a:Int)+2*(s:Int)≤(d.size:Int):=by omega
          by_cases hm:a+s<d.size
          · have hmz:(a:Int)+(s:Int)<(d.size:Int):=by omega
            obtain⟨p1,p2⟩:=HY.out.2.2.head (by omega);obtain⟨p3,p4⟩:=p2.head hm;rw[Nat.min_eq_left (by omega)] at p1;rw[Nat.min_eq_right (by omega)] at p3;have hc:=lH (ja0 jkr enc cf OO.out g cb w blk 0 cap a (a+s) d.size a ((a:Int)+s) d.size d dj wr eg HC.out HR.out hsk.symm (by omega) S4.out (by omega) (by omega) (by omega) rfl (by omega) rfl p1 p3 d.size hsk.symm);clear S4 p1 p2 p3 p4;go_wp2_with (go_at_call 119;refine hc.out.mono ?_;rintro e w2 ⟨rfl,d2,hE,hP,hS⟩)
            have HB:Hid (PermIn 0 d.size d d2∧ZV (ltOf cf) (2*s) d.size d2 0) :=
             ⟨permIn_trans _ _ _ _ _ HY.out.1 (permIn_mono _ _ _ _ _ _ (by omega) (by omega) (by omega) hE),(HY.out.2.1.congr fun i hi=>hE.2.1 i (by omega)).blks ha (.step (by rw[Nat.min_eq_right (by omega)];exact hP) (.done (by omega)))⟩
            have hz1:d2.size=d.size:=by rw[hE.1];exact hsk
            have S5:Aside (SWK enc 11 w blk 0 d2 w2):=hS;clear hE hP hS hc HY;go_roundg (d.size-2*s)
            case measure=>omega
            case rel=>exact⟨2*s,d2,by first | rfl | go_num | (congr 1;omega),by omega,by omega,Nat.le_refl _,hz1,S5,HB⟩
          · have hmz:¬(a:Int)+(s:Int)<(d.size:Int):=by omega
            have HB:Hid (PermIn 0 d.size d dj∧ZV (ltOf cf) (2*s) d.size dj 0) :=
             ⟨HY.out.1,HY.out.2.1.blks ha (by
              rcases Nat.lt_or_ge a d.size with q | q
              · obtain⟨p1,p2⟩:=HY.out.2.2.head q;rw[Nat.min_eq_right (by omega)] at p1;exact .step (by rw[Nat.min_eq_right (by omega)];exact p1) (.done (by omega))
              · exact .done q)⟩
            clear HY;go_wp2_with fail
            go_roundg (d.size-2*s)
            case measure=>omega
            case rel=>exact⟨2*s,dj,by first | rfl | go_num | (congr 1;omega),by omega,by omega,Nat.le_refl _,hsk,S4,HB⟩
     · have hlz:¬(s:Int)<(d.size:Int):=by omega
       have HF:Hid (SortedIn (ltOf cf) 0 d.size dk):=by
        rcases Nat.eq_zero_or_pos d.size with q | q
        · intro i j h1 h2 h3;omega
        · obtain⟨p1,-⟩:=HX.out.2.head q;rw[Nat.min_eq_right (by omega)] at p1;exact p1
       go_wp2_with fail
       go_end0
       exact⟨rfl,dk,HX.out.1,HF.out,S3.out⟩
end Go.Proofs.YtibepooajeakfaaGreat
namespace Go.Proofs.YtibepooajeakfaaGreat
open Go.RowKit Go.Shelf Go.Lib Go.Sort
instance:Inhabited Pd:=⟨Pd.zero⟩
theorem jjY (n m:Pd) (v1 v2 v3 v4 u1 u2 u3 u4:Value) (w:World) :
 Calls Tryz.prog 33 #[jy n v1 v2 v3 v4,jy m u1 u2 u3 u4] w fun e w'=>e=.returned (.int .i64 (Xi n m))∧Grw w w':=by
 obtain⟨W0,hW0⟩:=eX ((w.alloc (.cells #[.string n.name,.string n.owner,.int .i64 n.prio,v1,v2,v3,v4,.string n.key,.int .i64 n.most,.string n.node,.bool n.hold] 52)).alloc (.cells #[.string m.name,.string m.owner,.int .i64 m.prio,u1,u2,u3,u4,.string m.key,.int .i64 m.most,.string m.node,.bool m.hold] 52))
 have hk0:Kept w W0:=by rw[←hW0];exact jn _ _ _
 have HC:=lH (show ∀W,Kept W0 W→W.cell? ⟨w.heap.size,0,none⟩=some (.string n.name)∧W.cell? ⟨w.heap.size,2,none⟩=some (.int .i64 n.prio)∧W.cell? ⟨w.heap.size+1,0,none⟩=some (.string m.name)∧W.cell? ⟨w.heap.size+1,2,none⟩=some (.int .i64 m.prio) from fun W k=>by
  have c:=jc w (.string n.name) [.string n.owner,.int .i64 n.prio,v1,v2,v3,v4,.string n.key,.int .i64 n.most,.string n.node,.bool n.hold] 52 W (by rw[←hW0] at k;exact(ja _ _).trans k);have d:=jc (w.alloc (.cells #[.string n.name,.string n.owner,.int .i64 n.prio,v1,v2,v3,v4,.string n.key,.int .i64 n.most,.string n.node,.bool n.hold] 52)) (.string m.name) [.string m.owner,.int .i64 m.prio,u1,u2,u3,u4,.string m.key,.int .i64 m.most,.string m.node,.bool m.hold] 52 W (by rw[hW0];exact k);rw[World.size_alloc] at d;exact⟨c.at_ 0 _ rfl,c.at_ 2 _ rfl,d.at_ 0 _ rfl,d.at_ 2 _ rfl⟩)
 have EI:=lH (fun W=>jfj m.prio n.prio W);have ES:=lH (fun W=>jf7 n.name m.name W);obtain⟨x,hx⟩:=eX (Zs m.prio n.prio)
 obtain⟨y,hy⟩:=eX (YA n.name m.name)
 rw[hx] at EI;rw[hy] at ES;have HV:=lH (show Xi n m=orL [x,y] by
  unfold Xi;rw[hx,hy];show _=if x≠0 then x else if y≠0 then y else 0
  by_cases z:y=0
  · subst z;simp
  · rw[if_pos z])
 have Ue:=lH (show Calls Tryz.prog 71 #[.slice (some ⟨W0.heap.size,0,none⟩) 2 2] (W0.drew.alloc (.cells #[.int .i64 x,.int .i64 y] 3)) _ from jhZ W0.heap.size 2 [x,y] _ rfl (by decide) (jle W0.drew x y 3));have Va:=lH (show Grw w W0 by rw[←hW0];exact(Grw.alloc _ _).trans (Grw.alloc _ _));clear hx hy hk0;obtain⟨c0,c1,c2,c3⟩:=HC.out _ (Kept.refl _);unfold jy;go_enter Tryz.func33,Tryz.ntmps33;go_wp2;try rw[hW0]
 clear hW0
 go_region_held3 (fun W=>W.cell? ⟨w.heap.size,0,none⟩=some (.string n.name)∧W.cell? ⟨w.heap.size,2,none⟩=some (.int .i64 n.prio)∧W.cell? ⟨w.heap.size+1,0,none⟩=some (.string m.name)∧W.cell? ⟨w.heap.size+1,2,none⟩=some (.int .i64 m.prio))
  (first | exact HC.out _ (Kept.drew _) | exact HC.out _ ((Kept.drew _).trans (ja _ _)))
  (first | (go_at_call 72;refine(EI.out _).mono ?_;rintro e1 w1 ⟨rfl,rfl⟩)
         | (go_at_call 73;refine(ES.out _).mono ?_;rintro e2 w2 ⟨rfl,rfl⟩)
         | (go_at_call 71;refine Ue.out.mono ?_;rintro e3 w3 ⟨rfl,rfl⟩))
 go_wp2;go_ret;exact⟨jb HV.out.symm,Va.out.trans ((Grw.drewN _ 1).trans (Grw.alloc _ _))⟩
theorem jgD:∀args w,(callFunc 33 args).run Tryz.prog w=.ok (.enter 33 args) w:=enters_of Tryz.func33 (by kernel_rfl) rfl
def cfP (x y:PX):Int:=Xi x.1 y.1
theorem jku (blk size:Nat) (w:World):CmpLays Tryz.prog 33 #[] PodLay0.cs 11 cfP blk 0 size w:=fun m os dk hs x y =>
 jjY x.1 y.1 (slV x.2.1) (slV x.2.2.1) (slV x.2.2.2.1) (slV x.2.2.2.2) (slV y.2.1) (slV y.2.2.1) (slV y.2.2.2.1) (slV y.2.2.2.2) _
theorem jmI:SWO (ltOf cfP) where
 irrefl x:=jaH x.1
 trans x y z h1 h2:=XU (x:=x.1) (y:=y.1) (z:=z.1) h1 h2
 ntrans x y z h1 h2:=jaD (x:=x.1) (y:=y.1) (z:=z.1) h1 h2
theorem jfC (zs:List PX) (t:Nat) (h:t<zs.length*11):∃u,(je PodLay0 zs)[t]?=some u∧(flatK PodLay0.cs 11 zs.toArray)[t]! = u:=by
 have h3:t / 11<zs.length:=by omega
 have h4:t % 11<(PodLay0.cs zs[t / 11]).length:=by show t % 11<11;omega
 have e2:=Yr PodLay0 zs (t / 11) zs[t / 11] (t % 11) ((PodLay0.cs zs[t / 11])[t % 11]'h4) (List.getElem?_eq_getElem h3) (List.getElem?_eq_getElem h4);rw[show t / 11*PodLay0.m+t % 11=t from by show t / 11*11+t % 11=t;omega] at e2;refine⟨_,e2,?_⟩;rw[get_flatK _ _ _ _ (by simpa using h),getElem!_pos zs.toArray (t / 11) (by simpa using h3)];simp only[List.getElem_toArray];rw[getElem!_pos (PodLay0.cs zs[t / 11]) (t % 11) h4]
theorem jkm {W:World} {T:TypeId} {base g n cap:Nat} {zs:List PX} (h:Own PodLay0 T W base (.slice (some ⟨g,0,none⟩) n cap) zs):HoldsK PodLay0.cs 11 W g 0 zs.toArray:=fun t htl=>by
 have htl2:t<zs.length*11:=by simpa using htl
 obtain⟨u,h1,h2⟩:=jfC zs t htl2;have hn:n=zs.length:=by obtain⟨a,c,e,_⟩:=h.at_;cases e;rfl
 refine⟨?_,h.frozen_at _⟩;rw[h2,Nat.zero_add];subst hn;rw[h.1.cellAt t htl2];exact h1
theorem jh2 {w:World} {B g n cap m:Nat} {lx ly:List PX} {os:Array Obj} (ho:Own PodLay0 52 w B (.slice (some ⟨g,0,none⟩) n cap) lx) (hl:ly.length=lx.length):Own PodLay0 52 (sortWorldK PodLay0.cs 11 w g 0 m ly.toArray os) B (.slice (some ⟨g,0,none⟩) n cap) ly:=by
 have hn9:n=lx.length:=by obtain⟨a,c,e,_⟩:=ho.at_;cases e;rfl
 subst hn9;obtain⟨cur,hB,hg,hn,hm,hs,ht,hlen⟩:=Ju ho.1;have hlt:g<w.heap.size:=by
  rcases Nat.lt_or_ge g w.heap.size with h | h
  · exact h
  · rw[Array.getElem?_eq_none h] at hg;cases hg
 have h1:(sortWorldK PodLay0.cs 11 w g 0 m ly.toArray os).heap[g]?=some (.cells (putCells id 0 (flatK PodLay0.cs 11 ly.toArray) cur) 52 (0,0)):=by
  unfold sortWorldK putRowK putRow;have e0:((mapBlock (Sort.ahead w m) g (putCells id 0 (flatK PodLay0.cs 11 ly.toArray))).heap)[g]?=some (.cells (putCells id 0 (flatK PodLay0.cs 11 ly.toArray) cur) 52 (0,0)):=by
   unfold mapBlock;have:(Sort.ahead w m).heap[g]?=some (.cells cur 52 (0,0)):=hg;simp only[Array.getElem?_modify,if_true,this,Option.map_some,onCells]
  unfold grow;rw[Array.getElem?_append_left (by
   rcases Nat.lt_or_ge g (mapBlock (Sort.ahead w m) g (putCells id 0 (flatK PodLay0.cs 11 ly.toArray))).heap.size with h | h
   · exact h
   · rw[Array.getElem?_eq_none h] at e0;cases e0)]
  exact e0
 have hl2:(je PodLay0 ly).length=lx.length*11:=by rw[jZ,hl];rfl
 have hown:=qu (s:=11) (n:=lx.length) (cap:=cap) (xs:=je PodLay0 ly) hB h1 hn hm (by simp only[putCells,Array.size_mapIdx];exact hs) hl2 (fun j hj=>by
  obtain⟨u,g1,g2⟩:=jfC ly j (by omega);have hj2:j<cur.size:=by rw[hs];have:=Nat.mul_le_mul_right 11 hn;show j<cap*11;omega
  rw[g1];simp only[putCells,Array.getElem?_mapIdx,Array.getElem?_eq_getElem hj2,Option.map_some];rw[if_pos ⟨Nat.zero_le _,by rw[size_flatK];simp;omega⟩,Nat.sub_zero,g2];rfl)
 refine⟨?_,fun _ _=>trivial⟩;rw[hl];exact hown
theorem jgP (w:World) (g m:Nat) (ly:Array PX) (os:Array Obj):jg (fun b=>b=g) w (sortWorldK PodLay0.cs 11 w g 0 m ly os):=by
 unfold sortWorldK putRowK;have h1:jg (fun b=>b=g) w (putRow id (Sort.ahead w m) g 0 (flatK PodLay0.cs 11 ly)):=by
  refine⟨rfl,rfl,rfl,?_,fun k hk hn=>?_⟩
  · unfold putRow mapBlock;simp[Sort.ahead]
  · unfold putRow mapBlock;simp only[Array.getElem?_modify];rw[if_neg (fun e=>hn e.symm)];rfl
 exact h1.trans (jg.of (Go.Lib.below_grow _ _ (Nat.le_refl _) 0 os))
def jlJ (B g n cap:Nat) (lx:List PX) (w:World) (e:Ending) (w':World):Prop:=e=.returned (.tuple #[])∧∃ly:List PX,ly.Perm lx∧(ly.Pairwise fun a b=>zA b.1 a.1=false)∧Own PodLay0 52 w' B (.slice (some ⟨g,0,none⟩) n cap) ly∧jg (fun b=>b=g) w w'
theorem jgu (B g n cap:Nat) (lx:List PX) (w:World) (ho:Own PodLay0 52 w B (.slice (some ⟨g,0,none⟩) n cap) lx) (hn:n<1000000000) :
 Calls Tryz.prog 70 #[.slice (some ⟨g,0,none⟩) n cap,.int .i64 n,.func (.func 33) #[] #[]] w (jlJ B g n cap lx w):=by
 have hn9:n=lx.length:=by obtain⟨a,c,e,_⟩:=ho.at_;cases e;rfl
 subst hn9;have h:=jln PodLay0.cs cfP jmI 33 #[] w g cap lx.toArray jgD (jku _ _ _) ⟨PodLay0.len,PodLay0.one,jkm ho,(J7 ho g rfl).2⟩ (by simpa using hn);simp only[List.size_toArray] at h;refine h.mono ?_;rintro e w' ⟨rfl,d',hp,hs,m,os,rfl⟩;have hsz:d'.size=lx.length:=by simpa using hp.1
 have hperm:d'.toList.Perm lx:=by
  have:=hp.2.2;simp only[Array.toList_extract,List.extract_eq_take_drop,List.drop_zero,Nat.sub_zero] at this;rw[List.take_of_length_le (by simp;omega),List.take_of_length_le (by simp)] at this;exact this
 refine⟨rfl,d'.toList,hperm,?_,?_,?_⟩
 · rw[List.pairwise_iff_getElem];intro i j hi hj hij;have h2:=hs i j (Nat.zero_le _) hij (by have q:=hj;simp only[Array.length_toList] at q;simp only[List.size_toArray];omega);rw[getElem!_pos d' j (by simpa using hj),getElem!_pos d' i (by simpa using hi)] at h2;simp only[Array.getElem_toList];exact h2
 · have:=jh2 (m:=m) (os:=os) (ly:=d'.toList) ho (by simpa using hsz);simpa using this
 · have:=jgP w g m d' os;simpa using this
theorem jiq (B g n cap:Nat) (lx:List PX) (w:World) (ho:Own PodLay0 52 w B (.slice (some ⟨g,0,none⟩) n cap) lx) (hn:n<1000000000) :
 Calls Tryz.prog 32 #[.slice (some ⟨g,0,none⟩) n cap,.func (.func 33) #[] #[]] w (jlJ B g n cap lx w):=by
 have HC:=lH (jgu B g n cap lx w ho hn);clear ho hn;unfold jlJ at HC ⊢;go_enter Tryz.func32,Tryz.ntmps32;go_wp2_with fail
 refine HC.out.mono ?_;rintro e w1 ⟨rfl,d',hp⟩;have HP:=lH hp;clear hp;go_wp2_with fail
 go_end0
 exact⟨rfl,d',HP.out⟩
theorem jeM (w:World):Calls Tryz.prog 70 #[.slice none 0 0,.int .i64 0,.func (.func 33) #[] #[]] w
 fun e w'=>e=.returned (.tuple #[])∧w=w':=by
 have hi:Calls Tryz.prog 118 #[.slice none 0 0,.int .i64 0,.int .i64 0,.func (.func 33) #[] #[]] w fun e w'=>e=.returned (.tuple #[])∧w=w':=by
  go_enter Tryz.func118,Tryz.ntmps118;go_wp2;refine wp_loop_rounds 1 ?_;rw[rounds_succ];go_wp2;go_end0
  exact⟨rfl,rfl⟩
 go_enter Tryz.func70,Tryz.ntmps70;go_wp2;refine wp_loop_rounds 1 ?_;rw[rounds_succ];go_wp2_with fail
 refine hi.mono ?_;rintro e w1 ⟨rfl,rfl⟩;go_wp2_with fail
 refine wp_loop_rounds 1 ?_;rw[rounds_succ];go_wp2;go_end0
 exact⟨rfl,rfl⟩
theorem jg2 (w:World):Calls Tryz.prog 32 #[.slice none 0 0,.func (.func 33) #[] #[]] w
 fun e w'=>e=.returned (.tuple #[])∧w=w':=by
 have HC:=lH (jeM w);go_enter Tryz.func32,Tryz.ntmps32;go_wp2_with fail
 refine HC.out.mono ?_;rintro e w1 ⟨rfl,rfl⟩;go_wp2_with fail
 go_end0
 exact⟨rfl,rfl⟩
open Go.RowKit
theorem jbH (a b d:Option Addr) (len cap m c n e:Nat) (nl:List Nod) (pl:List Pd) (bl:List Bd) (w:World) (hn:jo w a len nl) (hp:jx w b m pl) (hb:j8 w d n bl) (h1:len≤cap) (h2:cap≤maxLen) (h3:m≤c) (h4:c≤maxLen) (h5:n≤e) (h6:e≤maxLen) (hl:jE ⟨nl,pl,bl⟩) :
 Calls Tryz.prog 30 #[.agg #[.slice a len cap,.slice b m c,.slice d n e]] w fun e w'=>∃a1 n1 c1 a2 n2 c2 a3 n3 c3,e=.returned (.agg #[.slice a1 n1 c1,.slice a2 n2 c2,.slice a3 n3 c3])∧jQ (fun b=>b<w.heap.size) w.heap.size w' (.slice a1 n1 c1) (.slice a2 n2 c2) (.slice a3 n3 c3) ⟨nl,pl,bl⟩∧Kept w w':=by
 obtain⟨Z,hZ⟩:=eX ((w.alloc (.cells #[.slice a len cap,.slice b m c,.slice d n e] 26)).alloc (.cells #[.slice none 0 0,.slice none 0 0,.slice none 0 0] 26))
 have hkz:Kept w Z:=by rw[←hZ];exact jn _ _ _
 have hzs:Z.heap.size=w.heap.size+2:=by rw[←hZ];simp
 have cc:=jc w (.slice a len cap) [.slice b m c,.slice d n e] 26 Z (by rw[←hZ];exact ja _ _);have HQ:=lH (show jf (w.heap.size+1) [.slice none 0 0,.slice none 0 0,.slice none 0 0] Z by
  have dd:=jc (w.alloc (.cells #[.slice a len cap,.slice b m c,.slice d n e] 26)) (.slice none 0 0) [.slice none 0 0,.slice none 0 0] 26 Z (by rw[hZ];exact Kept.refl _);rw[World.size_alloc] at dd;exact dd)
 have Vc:=lH hkz;have Vf:=lH hzs;by_cases hm0:m=0
 · subst hm0;have hpl:pl=[]:=List.length_eq_zero_iff.1 hp.1;subst hpl;have h0:(((0:Nat):Int)==0)=true:=rfl;have HC:=lH (jaa a b d len cap 0 c n e nl [] bl ⟨#[]⟩ ⟨#[]⟩ Z (by decide) (hn.kept hkz) (hp.kept hkz) (hb.kept hkz) h1 h2 h3 h4 h5 h6 hl);obtain⟨o0,o1,o2⟩:=cc.at3;clear hn hp hb h1 h2 h3 h4 h5 h6 hl hkz cc hzs;go_enter Tryz.func30,Tryz.ntmps30;go_wp2_with fail
   try rw[hZ]
   go_wp2_with fail
   try rw[hZ]
   clear hZ o0 o1 o2;refine HC.out.mono ?_;rintro e9 w1 ⟨a1,n1,c1,a2,n2,c2,a3,n3,c3,rfl,ho,k⟩;obtain⟨HO,K,HQ⟩:=lH3 ho k (HQ.out.kept k);clear ho k HC;obtain⟨z0,z1,z2⟩:=HQ.out.at3;have f0:=HQ.out.free 0;have f1:=HQ.out.free 1;have f2:=HQ.out.free 2;have P:=lH (j5 (vs:=[.slice a1 n1 c1,.slice a2 n2 c2,.slice a3 n3 c3]) HQ.out rfl);go_wp2;obtain⟨WE,hWE⟩:=eX (w1.setCells (w.heap.size+1) 0 [.slice a1 n1 c1,.slice a2 n2 c2,.slice a3 n3 c3])
   have hWE2:(((w1.setCell ⟨(w.heap.size+1),0,none⟩ (.slice a1 n1 c1)).setCell ⟨(w.heap.size+1),1,none⟩ (.slice a2 n2 c2)).setCell ⟨(w.heap.size+1),2,none⟩ (.slice a3 n3 c3))=WE:=hWE;rw[hWE] at P;try rw[hWE2]
   have GE:=lH (show jg (fun b=>b<Z.heap.size) w1 WE by rw[←hWE];exact jg.cells (S:=fun b=>b<Z.heap.size) _ (by have:=Vf.out;omega) _ _ _);clear hWE hWE2;obtain⟨PC,hsz,hbl,hkp⟩:=P.out;refine bodyPost_ret (by simp[results,Tryz.results30,go_sem,PC.at_ 0 _ rfl,PC.at_ 1 _ rfl,PC.at_ 2 _ rfl];try rfl) rfl ?_;have Vr:=(HO.out.step GE.out).less (B':=w.heap.size) (S':=fun b=>b<w.heap.size) Vc.out.size (fun b hb=>Nat.lt_of_lt_of_le hb Vc.out.size);exact⟨_,_,_,_,_,_,_,_,_,rfl,Vr,hkp _ _ (by omega) (Vc.out.trans K.out)⟩
 · have h0:((m:Int)==0)=false:=by simp;omega
   obtain⟨bb,bo,rfl⟩:=hp.form.resolve_left (by omega);obtain⟨x,xa1,xm1,xc1,xa2,xm2,xc2,xa3,xm3,xc3,xa4,xm4,xc4,hx,hd,hbl9,p0,p1,p2,p3,p4,p5,p6,p7,p8,p9,p10,hat⟩:=hp.at_ (show 0<m by omega);have hpx:pl=x::pl.drop 1:=hd;have hmv:zZ ⟨nl,pl,bl⟩ x.name x.node=⟨nl,pl,bl⟩:=by
    unfold zZ;rw[hpx];show (⟨nl,Jn x.name x.node (x::pl.drop 1),bl⟩:Clu)=_;rw[Jn,if_pos (zh _)]
   simp only[Nat.zero_mul,Nat.add_zero] at p0 p9;have HF:=lH (show ∀W,jg (fun b=>b=w.heap.size+1) Z W→W.cell? ⟨w.heap.size,0,none⟩=some (.slice a len cap)∧W.cell? ⟨w.heap.size,1,none⟩=some (.slice (some ⟨bb,bo,none⟩) m c)∧W.cell? ⟨w.heap.size,2,none⟩=some (.slice d n e)∧W.cell? ⟨bb,bo,none⟩=some (.string x.name)∧W.cell? ⟨bb,bo+9,none⟩=some (.string x.node) from fun W g=>by
    have h1:=cc.block (g.block w.heap.size (by omega) (by omega));have q0:=(World.cell?_of_block (a:=⟨bb,bo,none⟩) (g.block bb (by omega) (by omega))).trans (cell_later hkz p0);have q9:=(World.cell?_of_block (a:=⟨bb,bo+9,none⟩) (g.block bb (by omega) (by omega))).trans (cell_later hkz p9);exact⟨h1.at_ 0 _ rfl,h1.at_ 1 _ rfl,h1.at_ 2 _ rfl,q0,q9⟩)
   have HC:=lH (show ∀W,Kept Z W→Calls Tryz.prog 17 #[.agg #[.slice a len cap,.slice (some ⟨bb,bo,none⟩) m c,.slice d n e],.string x.name,.string x.node] W fun e w'=>∃a1 n1 c1 a2 n2 c2 a3 n3 c3,e=.returned (.agg #[.slice a1 n1 c1,.slice a2 n2 c2,.slice a3 n3 c3])∧jQ (fun b=>b<W.heap.size) W.heap.size w' (.slice a1 n1 c1) (.slice a2 n2 c2) (.slice a3 n3 c3) ⟨nl,pl,bl⟩∧Kept W w' from fun W k=>by
    have hc:=jaa a (some ⟨bb,bo,none⟩) d len cap m c n e nl pl bl x.name x.node W hat.node (hn.kept (hkz.trans k)) (hp.kept (hkz.trans k)) (hb.kept (hkz.trans k)) h1 h2 h3 h4 h5 h6 hl;rw[hmv] at hc;exact hc)
   have hmz:(0:Int)<(m:Int):=by omega
   have hmn:0<m:=by omega
   obtain⟨xn,hxn⟩:=eX (x.name)
   obtain⟨xd,hxd⟩:=eX (x.node)
   rw[hxn,hxd] at HF HC;obtain⟨o0,o1,o2,o3,o4⟩:=HF.out Z (jg.of (Kept.refl _));clear hn hp hb h1 h2 h3 h4 h5 h6 hl hkz cc hat hd hbl9 hx hpx hmv p0 p1 p2 p3 p4 p5 p6 p7 p8 p9 p10 hm0 hzs hxn hxd;go_enter Tryz.func30,Tryz.ntmps30;go_upto_region 3 with fail
   try rw[hZ]
   clear hZ o0 o1 o2 o3 o4;have J:=lH (Kept.drew Z);refine wp_region_held_drew (S:=fun W=>W.cell? ⟨w.heap.size,0,none⟩=some (.slice a len cap)∧W.cell? ⟨w.heap.size,1,none⟩=some (.slice (some ⟨bb,bo,none⟩) m c)∧W.cell? ⟨w.heap.size,2,none⟩=some (.slice d n e)∧W.cell? ⟨bb,bo,none⟩=some (.string xn)∧W.cell? ⟨bb,bo+9,none⟩=some (.string xd)) (by kernel_rfl) (HF.out _ (jg.of J.out)) (fun hHeld=>?_);obtain⟨wd,hwd⟩:=eX (Z.drew)
   rw[hwd] at J hHeld;try rw[hwd]
   clear hwd;refine tkI 0 ?_;refine tkI 1 ?_;refine tkI 2 ?_;refine tkI 3 ?_;refine tkI 4 ?_;refine tkI 5 ?_;refine tkI 6 ?_;refine tkI 7 ?_;refine tkI 8 ?_;refine tkI 9 ?_;refine tkI 10 ?_;try simp only[nP]
   refine rd1 11 fun K9 Ky=>?_;go_simp;refine(HC.out _ J.out).mono ?_;rintro e9 w1 ⟨a1,n1,c1,a2,n2,c2,a3,n3,c3,rfl,ho,k⟩;have K:=lH (J.out.trans k);have HO:=lH (ho.less (B':=Z.heap.size) (S':=fun b=>b<Z.heap.size) J.out.size (fun b hb=>Nat.lt_of_lt_of_le hb J.out.size));clear ho k HC;refine Ky.out _ _ (HF.out _ (jg.of K.out)) (fun _=>?_);clear Ky K9;try simp only[nP]
   have HQ:=lH (HQ.out.kept K.out);obtain⟨z0,z1,z2⟩:=HQ.out.at3;have f0:=HQ.out.free 0;have f1:=HQ.out.free 1;have f2:=HQ.out.free 2;have P:=lH (j5 (vs:=[.slice a1 n1 c1,.slice a2 n2 c2,.slice a3 n3 c3]) HQ.out rfl);refine rd1 12 fun K9 Ky=>?_;go_simp;obtain⟨WE,hWE⟩:=eX (w1.setCells (w.heap.size+1) 0 [.slice a1 n1 c1,.slice a2 n2 c2,.slice a3 n3 c3])
   have hWE2:(((w1.setCell ⟨(w.heap.size+1),0,none⟩ (.slice a1 n1 c1)).setCell ⟨(w.heap.size+1),1,none⟩ (.slice a2 n2 c2)).setCell ⟨(w.heap.size+1),2,none⟩ (.slice a3 n3 c3))=WE:=hWE;rw[hWE] at P;try rw[hWE2]
   have GE:=lH (show jg (fun b=>b<Z.heap.size) w1 WE by rw[←hWE];exact jg.cells (S:=fun b=>b<Z.heap.size) _ (by have:=Vf.out;omega) _ _ _);have GQ:=lH (show jg (fun b=>b=w.heap.size+1) w1 WE by rw[←hWE];exact jg.cells (S:=fun b=>b=w.heap.size+1) _ rfl _ _ _);clear hWE hWE2;obtain⟨PC,hsz,hbl,hkp⟩:=P.out;refine Ky.out _ _ (HF.out _ ((jg.of K.out).trans (show jg (fun b=>b=w.heap.size+1) w1 WE from GQ.out))) (fun _=>?_);clear Ky K9;try simp only[nP]
   refine wpAnyH_done (by kernel_rfl) ?_ _;go_wp2;refine bodyPost_ret (by simp[results,Tryz.results30,go_sem,PC.at_ 0 _ rfl,PC.at_ 1 _ rfl,PC.at_ 2 _ rfl];try rfl) rfl ?_;have Vr:=(HO.out.step GE.out).less (B':=w.heap.size) (S':=fun b=>b<w.heap.size) Vc.out.size (fun b hb=>Nat.lt_of_lt_of_le hb Vc.out.size);exact⟨_,_,_,_,_,_,_,_,_,rfl,Vr,hkp _ _ (by omega) (Vc.out.trans K.out)⟩
def jnx (pl:List Pd) (w:World) (e:Ending) (w':World):Prop:=∃v lx,e=.returned v∧Xw pl (lx.map fun z:PX=>z.1)∧Zy PodLay0 52 At4 w.heap.size w' v lx∧Kept w w'
theorem jj9 {lx ly:List PX} (h:ly.Perm (lx.filter fun z=>jS z.1)) (g:ly.Pairwise fun a b=>zA b.1 a.1=false):Xw (lx.map fun z=>z.1) (ly.map fun z=>z.1):=by
 refine⟨?_,?_⟩
 · have h2:=h.map fun z=>z.1;rw[List.filter_map];exact h2
 · rw[List.pairwise_map];exact g
theorem jgG (a b d:Option Addr) (len cap m c n e:Nat) (nl:List Nod) (pl:List Pd) (bl:List Bd) (w:World) (hn:jo w a len nl) (hp:jx w b m pl) (hb:j8 w d n bl) (h1:len≤cap) (h2:cap≤maxLen) (h3:m≤c) (h4:c≤maxLen) (h5:n≤e) (h6:e≤maxLen) (hl:jE ⟨nl,pl,bl⟩) :
 Calls Tryz.prog 9 #[.agg #[.slice a len cap,.slice b m c,.slice d n e]] w (jnx pl w):=by
 obtain⟨Z,hZ⟩:=eX (w.alloc (.cells #[.slice a len cap,.slice b m c,.slice d n e] 26))
 have hkz:Kept w Z:=by rw[←hZ];exact ja _ _
 have cc:=jc w (.slice a len cap) [.slice b m c,.slice d n e] 26 Z (by rw[hZ];exact Kept.refl _);obtain⟨o0,o1,o2⟩:=cc.at3;obtain⟨Vc,HC,HM⟩:=lH3 hkz (jbH a b d len cap m c n e nl pl bl Z (hn.kept hkz) (hp.kept hkz) (hb.kept hkz) h1 h2 h3 h4 h5 h6 hl) (show pl.length≤100000 from hl.podsN);clear hn hp hb h1 h2 h3 h4 h5 h6 hl hkz cc;unfold jnx;go_enter Tryz.func9,Tryz.ntmps9;go_wp2_with fail
 try rw[hZ]
 go_wp2_with fail
 try rw[hZ]
 clear hZ o0 o1 o2;refine HC.out.mono ?_;rintro e w1 ⟨a1,n1,c1,a2,n2,c2,a3,n3,c3,rfl,ho1,k⟩;have ho:=ho1.less (B':=w.heap.size) (S':=fun b=>b<w.heap.size) Vc.out.size (fun b e=>Nat.lt_of_lt_of_le e Vc.out.size);have K:=lH (Vc.out.trans k);obtain⟨lx,hlx,hox,hdx⟩:=ho.pods;have hlen:lx.length≤100000:=by have:=congrArg List.length hlx;rw[List.length_map] at this;rw[this];exact HM.out
 have NO:=lH hlx;have NP:=lH hdx;have hlx2:(lx.map fun z=>z.1)=pl:=hlx;have nfl:∀(x y z:Value) (W:World),(Instr.field 26 (.agg #[x,y,z]) 1).run Tryz.prog W=.ok y W:=fun _ _ _ _=>by kernel_rfl
 clear k ho ho1 hlx HC;rcases hox.1.2 with ⟨e0,hz⟩ | ⟨g,cp,cur,e0,hbg,hg,hr⟩
 · cases e0
   have hlz:lx=[]:=List.length_eq_zero_iff.1 hz;subst hlz;have hpl:pl=[]:=hlx2.symm;subst hpl;clear hox hdx hlen hz hlx2;go_wp2_with fail
   refine(jkU _).mono ?_;rintro e w2 ⟨rfl,k2⟩;have K:=lH (K.out.trans k2);clear k2;go_wp2_with fail
   refine(jg2 _).mono ?_;rintro e w3 ⟨rfl,rfl⟩;go_wp2;go_ret;exact⟨_,[],rfl,⟨List.Perm.refl _,List.Pairwise.nil⟩,⟨⟨_,_,_,rfl⟩,⟨Own.nil _ _ _,fun z h=>by cases h⟩,fun z h=>by cases h⟩,K.out⟩
 · obtain⟨ea,en,ec⟩:a2=some ⟨g,0,none⟩∧n2=lx.length∧c2=cp:=by cases e0;exact⟨rfl,rfl,rfl⟩
   subst ea en ec;obtain⟨HD,HB,U7⟩:=lH3 (jmt g lx.length c2 w.heap.size lx w1 hox (fun z hz=>(hdx z hz).here) hlen) (show w.heap.size≤g from(J7 hox g rfl).1) hlen;obtain⟨n9,hn9⟩:=eX (lx.length)
   rw[hn9] at HD;try rw[hn9]
   clear hox hdx hlen hlx2 hbg hg hr e0;go_wp2_with fail
   refine HD.out.mono ?_;rintro e w2 ⟨n8,rfl,ho2,g2⟩;have hn8:n8=(lx.filter fun z=>jS z.1).length:=by obtain⟨a,c,e,_⟩:=ho2.at_;cases e;rfl
   have HS:=lH (jiq w.heap.size g n8 c2 (lx.filter fun z=>jS z.1) w2 ho2 (by have:=List.length_filter_le (fun z=>jS z.1) lx;have:=U7.out;omega));have G2:=lH g2;clear ho2 g2 hn8 HD hn9;go_wp2_with fail
   refine HS.out.mono ?_;rintro e w3 ⟨rfl,ly,hp,hs,ho3,g3⟩;obtain⟨G,HP,HO,Rx⟩:=lH4 (G2.out.trans g3) (show Xw pl (ly.map fun z=>z.1) by rw[←NO.out];exact jj9 hp hs) ho3 hp;clear hp hs ho3 g3 HS;go_wp2;go_ret;have key:∀z ∈ ly,Off (fun b=>b<w.heap.size∨b=g) w3 fun u=>At4 u z:=fun z hz =>
    ((NP.out z (List.mem_filter.1 (Rx.out.mem_iff.1 hz)).1).step (G.out.mono fun b e=>by subst e;exact .inr rfl)).less fun b e=>e.imp id fun e=>by subst e;rfl
   refine⟨_,ly,rfl,HP.out,⟨⟨_,_,_,rfl⟩,⟨HO.out,fun z hz=>(key z hz).less fun b e=>.inr (Option.some.inj e).symm⟩,fun z hz=>(key z hz).less fun b e=>e.imp id fun e=>(Option.some.inj e).symm⟩,?_⟩;exact jg.below K.out G.out fun i e=>by subst e;exact HB.out
theorem qW {v:Value} {s:Clu} {w:World} (h:jC w v s) (hl:jE s) (ha:Asc s.pods):Calls Tryz.prog 9 #[v] w fun e w'=>∃y,e=.returned y∧Jo w' y (zC s.pods)∧Kept w w':=by
 obtain⟨v1,v2,v3,rfl,⟨a,cap,rfl,l1,m1,h1⟩,⟨b,cp,rfl,l2,m2,h2⟩,⟨d,cb,rfl,l3,m3,h3⟩⟩:=h;refine(jgG a b d _ cap _ cp _ cb s.nodes s.pods s.buds w h1 h2 h3 l1 m1 l2 m2 l3 m3 hl).mono ?_;rintro e w' ⟨v,lx,rfl,hp,hf,kk⟩;refine⟨v,rfl,?_,kk⟩;rw[←qM ha hp];exact jcA hf.2.1
abbrev jl9 (x y:ByteArray):PanicEntry:={ v:=.iface 54 (.agg #[.string x,.string y]),recovered:=false }
def jmw (o:Option (ByteArray×ByteArray)) (w:World) (e:Ending) (w':World):Prop:=(∀x y,o=some (x,y)→e=.panicked [jl9 x y])∧(o=none→e=.returned (.tuple #[]))∧Kept w w'
theorem jmg (s1 s2 s3:Option Addr) (n1 e1 n2 e2 n3 e3:Nat) (pack:Bool) (s:Clu) (w:World) (hs:jC w (Jk (.slice s1 n1 e1) (.slice s2 n2 e2) (.slice s3 n3 e3)) s) (hl:jE s) (ha:Asc s.pods) (hb:s.pods.length+1≤100000):Calls Tryz.prog 75 #[.agg #[.slice s1 n1 e1,.slice s2 n2 e2,.slice s3 n3 e3],.bool pack] w (jmw (nextS s pack) w):=by
 obtain⟨Z,hZ⟩:=eX (w.alloc (.cells #[.slice s1 n1 e1,.slice s2 n2 e2,.slice s3 n3 e3] 26))
 have hkz:Kept w Z:=by rw[←hZ];exact ja _ _
 obtain⟨Vj,HS,HL,HB,HK,HP⟩:=lH6 (jc w (.slice s1 n1 e1) [.slice s2 n2 e2,.slice s3 n3 e3] 26 Z (by rw[hZ];exact Kept.refl _)) (hs.kept hkz) hl hb hkz (qW (hs.kept hkz) hl ha);clear hs hkz hl ha hb;unfold jmw;obtain⟨y0,y1,y2⟩:=Vj.out.at3;go_enter Tryz.func75,Tryz.ntmps75;go_wp2_with fail
 try rw[hZ]
 go_wp2_with fail
 try rw[hZ]
 clear hZ y0 y1 y2;refine HP.out.mono ?_;rintro e w1 ⟨y,rfl,⟨pa,pc,rfl,-,-,hrow⟩,kk⟩;have K:=lH kk;have HR:=lH hrow;obtain⟨pl,hpl⟩:=eX (zC s.pods)
 have V1:=lH hpl;rw[hpl] at HR;try rw[hpl]
 obtain⟨pn,hpn⟩:=eX (pl.length)
 have UH:=lH hpn;have hpb:pn≤100000:=by have:=qS s.pods;have h2:=V1.out;rw[h2] at this;have:=HB.out;omega
 rw[hpn] at HR;try rw[hpn]
 clear kk hrow hpl hpn HP;go_wp2_with fail
 go_loopw [11] (fun iv wr=>∃k:Nat,k≤pn∧iv=.int .i64 k∧Yf s pack (pl.drop k)=nextS s pack∧Kept w1 wr) (fun iv _=>pn-(intOf iv).toNat)
 case atStart=>exact⟨0,Nat.zero_le _,rfl,by rw[←V1.out];rfl,Kept.refl _⟩
 case round =>
  obtain⟨k,hk,rfl,hS,hK⟩:=hrel;have Up:=lH hS;have Uo:=lH hK;clear hS hK;by_cases hlt:k<pn
  · obtain⟨g,off,rfl⟩:=HR.out.form.resolve_left (by omega);obtain⟨n,b1,m1,c1,b2,m2,c2,b3,m3,c3,b4,m4,c4,hn,hd,hb,p0,p1,p2,p3,p4,p5,p6,p7,p8,p9,p10,hat⟩:=(HR.out.kept Uo.out).at_ hlt;have HD:=lH hd;have hmem:n ∈ s.pods:=(jem.1 (by rw[V1.out];exact List.mem_of_getElem? hn)).1;have U7:=lH (HL.out.pods n hmem);have hkk:(k:Int)<(pn:Int):=by omega
    have hk0:¬(k:Int)<0:=by omega
    obtain⟨wx,hwx⟩:=eX (wr.alloc (.cells #[.string n.name,.string n.owner,.int .i64 n.prio,.slice b1 m1 c1,.slice b2 m2 c2,.slice b3 m3 c3,.slice b4 m4 c4,.string n.key,.int .i64 n.most,.string n.node,.bool n.hold] 52))
    have hkx:Kept wr wx:=by rw[←hwx];exact ja _ _
    have Vt:=lH (jc wr (.string n.name) [.string n.owner,.int .i64 n.prio,.slice b1 m1 c1,.slice b2 m2 c2,.slice b3 m3 c3,.slice b4 m4 c4,.string n.key,.int .i64 n.most,.string n.node,.bool n.hold] 52 wx (by rw[hwx];exact Kept.refl _));obtain⟨bq,hbq⟩:=eX (wr.heap.size)
    rw[hbq] at Vt;have KX:=lH (Uo.out.trans hkx);have HC:=lH (jh4 s1 s2 s3 n1 e1 n2 e2 n3 e3 b1 b2 b3 b4 m1 c1 m2 c2 m3 c3 m4 c4 pack n s wx (HS.out.kept (K.out.trans KX.out)) HL.out HB.out (hat.kept hkx) U7.out);unfold jy at HC;go_upto_region 4 with fail
    try rw[hwx]
    try rw[hbq]
    clear hwx hbq hd hb hn hkx hk0 hkk hat hmem p0 p1 p2 p3 p4 p5 p6 p7 p8 p9 p10;obtain⟨y0,y1,y2⟩:=(Vj.out.kept (K.out.trans KX.out)).at3;obtain⟨q0,q1,q2,q3,q4,q5,q6,q7,q8,q9,q10⟩:=Vt.out.at11;go_wp2_with fail
    refine HC.out.mono ?_;rintro e w2 ⟨l,ho,rfl,kk⟩;obtain⟨HO,K2,Vt⟩:=lH3 (jkl ho) (KX.out.trans kk) (Vt.out.kept kk);clear ho kk HC y0 y1 y2 q0 q1 q2 q3 q4 q5 q6 q7 q8 q9 q10
    cases l with
    | nil =>
     have HE:=lH (show Yf s pack (pl.drop (k+1))=nextS s pack by
      rw[←Up.out,HD.out,Yf,←HO.out];rfl)
     go_wp2;go_roundw
     case rel=>exact⟨k+1,by omega,by go_num,HE.out,K2.out⟩
     case measure=>simp[intOf];omega
    | cons x r =>
     have HE:=lH (show nextS s pack=some (n.name,x) by
      rw[←Up.out,HD.out,Yf,←HO.out];rfl)
     have q0:=Vt.out.at_ 0 _ rfl;go_wp2;rw[HE.out];refine⟨rfl,?_,?_,HK.out.trans (K.out.trans K2.out)⟩
     · intro u v h;obtain⟨e1,e2⟩:=Prod.mk.inj (Option.some.inj h);rw[e1,e2]
     · intro h
       cases h
  · have HE:=lH (show nextS s pack=none by
     rw[←Up.out,List.drop_of_length_le (by rw[UH.out];omega)];rfl)
    have hkk:¬(k:Int)<(pn:Int):=by omega
    go_wp2;go_end0
    rw[HE.out];exact⟨(fun u v h=>by cases h),fun _=>rfl,HK.out.trans (K.out.trans Uo.out)⟩
end Go.Proofs.YtibepooajeakfaaGreat
