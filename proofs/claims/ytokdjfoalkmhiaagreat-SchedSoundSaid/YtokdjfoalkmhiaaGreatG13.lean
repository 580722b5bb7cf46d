/- C. -/
import Derived.Test.YtokdjfoalkmhiaaGreatG12
set_option linter.unusedVariables false
set_option maxRecDepth 100000
set_option maxHeartbeats 25600000
namespace Go.Proofs.YtokdjfoalkmhiaaGreat
open Go.RowKit Go.Shelf Go.Lib Go.Sort
def jmX {α:Type} [Inhabited α] (kE:Nat) (enc:α→List Value) (w0:World) (blk off:Nat) (a b n:Nat) (d:Array α) (e:Ending) (w':World):Prop :=
 e=.returned (.tuple #[])∧∃d',Yk a b n d d'∧PermIn a (b+n) d d'∧SWK enc kE w0 blk off d' w'
theorem Xs {α:Type} [Inhabited α] {P:Program} {kE:Nat} (L:Yo P kE) (enc:α→List Value) (w0:World) (blk off cap a b n:Nat) (za zb zn:Int) (d0 d:Array α) (w:World) (R:RowK enc kE w0 blk off d0) (hs:d0.size=d.size) (S:SWK enc kE w0 blk off d w) (hab:a+n≤b) (hb:b+n≤d.size) (hsz:d.size<4611686018427387904) (cmp:Value)
 (ea:za=a) (eb:zb=b) (en:zn=n) (N:Nat) (hN:N=d.size) :
 Calls P 224 #[.slice (some ⟨blk,off,none⟩) N cap,.int .i64 za,.int .i64 zb,.int .i64 zn,cmp] w (jmX kE enc w0 blk off a b n d):=by
 subst ea eb en hN;exact jdk L enc w0 blk off cap a b n d0 d w R hs S hab hb hsz cmp
theorem jgA {α:Type} [Inhabited α] {P:Program} {kE:Nat} (L:Yo P kE) (enc:α→List Value) (w0:World) (blk off cap a m b:Nat) (d0 d:Array α) (w:World) (R:RowK enc kE w0 blk off d0) (hs:d0.size=d.size) (S:SWK enc kE w0 blk off d w) (ham:a<m) (hmb:m<b) (hb:b≤d.size) (hsz:d.size<4611686018427387904) (cmp:Value) :
 Calls P 192 #[.slice (some ⟨blk,off,none⟩) d.size cap,.int .i64 a,.int .i64 m,.int .i64 b,cmp] w
  fun e w'=>e=.returned (.tuple #[])∧∃d',Rot a (m-a) (b-m) d d'∧PermIn a b d d'∧SWK enc kE w0 blk off d' w':=by
 have mixed:=L.mixed;have t0:=L.t0.trans Tryz.underlying0;have a0:=L.a0;have z0:=L.z0;have t3:=L.t3.trans Tryz.underlying3;have a3:=L.a3;have z3:=L.z3;have t4:=L.t4.trans Tryz.underlying4;have a4:=L.a4;have z4:=L.z4;have t39:=L.t39.trans Tryz.underlying258;have a39:=L.a39;have z39:=L.z39;have t22:=L.t22.trans Tryz.underlying23;have a22:=L.a22;have z22:=L.z22;have t25:=L.t25.trans Tryz.underlying76;have a25:=L.a25;have z25:=L.z25;have v0:=L.v0;have v3:=L.v3;have v4:=L.v4;have aE:=L.aE;have zE:=L.zE;have u22:=run_underlying t22;have eSwap:∀args w,(callFunc 224 args).run P w=.ok (.enter 224 args) w:=enters_of L.fSwap (by kernel_rfl) rfl;have eRot:∀args w,(callFunc 192 args).run P w=.ok (.enter 192 args) w:=enters_of L.fRot (by kernel_rfl) rfl;have eMrg:∀args w,(callFunc 133 args).run P w=.ok (.enter 133 args) w:=enters_of L.fMrg (by kernel_rfl) rfl;have eIns:∀args w,(callFunc 132 args).run P w=.ok (.enter 132 args) w:=enters_of L.fIns (by kernel_rfl) rfl;have eStb:∀args w,(callFunc 73 args).run P w=.ok (.enter 73 args) w:=enters_of L.fStb (by kernel_rfl) rfl;have HR:Aside _:=R;have S0:Aside (SWK enc kE w0 blk off d w):=S;have r1:IntKind.i64.wrap ((m:Int)-(a:Int))=(m:Int)-(a:Int):=by rw[IntKind.wrap_i64];omega
 have r2:IntKind.i64.wrap ((b:Int)-(m:Int))=(b:Int)-(m:Int):=by rw[IntKind.wrap_i64];omega
 clear S R;go_enter L.fRot,Tryz.ntmps192;go_wp2;go_loopg [10,11] (b-a) (fun g1 vi vj wr=>∃(i j:Nat) (dk:Array α),vi=.int .i64 i∧vj=.int .i64 j∧0<i∧0<j∧i≤m-a∧j≤b-m∧i+j≤g1∧dk.size=d.size∧Aside (SWK enc kE w0 blk off dk wr)∧Hid ((∀d',Rot (m-i) i j dk d'→Rot a (m-a) (b-m) d d')∧PermIn a b d dk))
 case atStart=>exact⟨m-a,b-m,d,by congr 1;omega,by congr 1;omega,by omega,by omega,by omega,by omega,by omega,rfl,S0,fun d' h=>by rwa [show m-(m-a)=a from by omega] at h,permIn_refl _ _ _⟩
 case round =>
  clear S0;obtain⟨i,j,dk,rfl,rfl,hi,hj,hia,hjb,hg1,hsk,S1,HX⟩:=hrel;have r3:IntKind.i64.wrap ((m:Int)-(i:Int))=(m:Int)-(i:Int):=by rw[IntKind.wrap_i64];omega
  rcases Nat.lt_trichotomy j i with hlt | hlt | hlt
  · have q1:((i:Int) != (j:Int))=true:=by simp;omega
    have q2:(j:Int)<(i:Int):=by omega
    have r4:IntKind.i64.wrap ((i:Int)-(j:Int))=(i:Int)-(j:Int):=by rw[IntKind.wrap_i64];omega
    have hc:=lH (Xs L enc w0 blk off cap (m-i) m j ((m:Int)-i) m j d0 dk wr HR.out (by omega) S1.out (by omega) (by omega) (by omega) cmp (by omega) rfl rfl d.size hsk.symm);clear S1;go_wp2_with (go_at_call 224;refine hc.out.mono ?_;rintro e w1 ⟨rfl,d1,hE,hP,hS⟩)
    have H1:Hid (Yk (m-i) m j dk d1):=hE;have H2:Hid (PermIn (m-i) (m+j) dk d1):=hP;have S2:Aside (SWK enc kE w0 blk off d1 w1):=hS;clear hE hP hS;go_roundg (i+j-j)
    case measure=>omega
    case rel =>
     have hz:=H1.out.size;refine⟨i-j,j,d1,by congr 1;omega,rfl,by omega,by omega,by omega,by omega,by omega,by omega,S2,fun d' h=>HX.out.1 d' (Rot.big hlt (by rw[show m-i+i=m from by omega];exact H1.out) (by rw[show m-i+j=m-(i-j) from by omega];exact h)),permIn_trans _ _ _ _ _ HX.out.2 (permIn_mono _ _ _ _ _ _ (by omega) (by omega) (by omega) H2.out)⟩
  · subst hlt;have q1:((j:Int) != (j:Int))=false:=by simp
    have hc:=lH (Xs L enc w0 blk off cap (m-j) m j ((m:Int)-j) m j d0 dk wr HR.out (by omega) S1.out (by omega) (by omega) (by omega) cmp (by omega) rfl rfl d.size hsk.symm);clear S1;go_wp2_with (go_at_call 224;refine hc.out.mono ?_;rintro e w1 ⟨rfl,d1,hE,hP,hS⟩)
    have H1:Hid (Yk (m-j) m j dk d1):=hE;have H2:Hid (PermIn (m-j) (m+j) dk d1):=hP;have S2:Aside (SWK enc kE w0 blk off d1 w1):=hS;clear hE hP hS;go_end0
    exact⟨rfl,d1,HX.out.1 d1 (Rot.of_exch (by rw[show m-j+j=m from by omega];exact H1.out)),permIn_trans _ _ _ _ _ HX.out.2 (permIn_mono _ _ _ _ _ _ (by omega) (by omega) (by omega) H2.out),S2.out⟩
  · have q1:((i:Int) != (j:Int))=true:=by simp;omega
    have q2:¬(j:Int)<(i:Int):=by omega
    have r4:IntKind.i64.wrap ((j:Int)-(i:Int))=(j:Int)-(i:Int):=by rw[IntKind.wrap_i64];omega
    have r5:IntKind.i64.wrap ((m:Int)+(j:Int))=(m:Int)+(j:Int):=by rw[IntKind.wrap_i64];omega
    have r6:IntKind.i64.wrap ((m:Int)+(j:Int)-(i:Int))=(m:Int)+(j:Int)-(i:Int):=by rw[IntKind.wrap_i64];omega
    have hc:=lH (Xs L enc w0 blk off cap (m-i) (m+j-i) i ((m:Int)-i) ((m:Int)+j-i) i d0 dk wr HR.out (by omega) S1.out (by omega) (by omega) (by omega) cmp (by omega) (by omega) rfl d.size hsk.symm);clear S1;go_wp2_with (go_at_call 224;refine hc.out.mono ?_;rintro e w1 ⟨rfl,d1,hE,hP,hS⟩)
    have H1:Hid (Yk (m-i) (m+j-i) i dk d1):=hE;have H2:Hid (PermIn (m-i) (m+j-i+i) dk d1):=hP;have S2:Aside (SWK enc kE w0 blk off d1 w1):=hS;clear hE hP hS;go_roundg (i+j-i)
    case measure=>omega
    case rel =>
     have hz:=H1.out.size;refine⟨i,j-i,d1,rfl,by congr 1;omega,by omega,by omega,by omega,by omega,by omega,by omega,S2,fun d' h=>HX.out.1 d' (Rot.small hlt (by rw[show m-i+j=m+j-i from by omega];exact H1.out) h),permIn_trans _ _ _ _ _ HX.out.2 (permIn_mono _ _ _ _ _ _ (by omega) (by omega) (by omega) H2.out)⟩
def jah {α:Type} [Inhabited α] (kE:Nat) (enc:α→List Value) (cf:α→α→Int) (w0:World) (blk off a b:Nat) (d:Array α) (e:Ending) (w':World):Prop :=
 e=.returned (.tuple #[])∧∃d',PermIn a b d d'∧SortedIn (ltOf cf) a b d'∧SWK enc kE w0 blk off d' w'
theorem jdp {α:Type} [Inhabited α] {P:Program} {kE:Nat} (L:Yo P kE) (enc:α→List Value) (cf:α→α→Int) (hO:SWO (ltOf cf)) (g:Nat) (cb:Array Value) (w0:World) (blk off cap a b:Nat) (d0 d:Array α) (w:World)
 (eg:∀args w,(callFunc g args).run P w=.ok (.enter g args) w) (hcmp:CmpLays P g cb enc kE cf blk off d0.size w0) (R:RowK enc kE w0 blk off d0) (hs:d0.size=d.size) (S:SWK enc kE w0 blk off d w)
 (hab:a+1<b) (hb:b≤d.size) (hsz:d.size<2305843009213693952) (s2:SortedIn (ltOf cf) (a+1) b d) :
 Calls P 133 #[.slice (some ⟨blk,off,none⟩) d.size cap,.int .i64 a,.int .i64 ((a:Int)+1),.int .i64 b,.func (.func g) #[] cb] w (jah kE enc cf w0 blk off a b d):=by
 unfold jah;have mixed:=L.mixed;have t0:=L.t0.trans Tryz.underlying0;have a0:=L.a0;have z0:=L.z0;have t3:=L.t3.trans Tryz.underlying3;have a3:=L.a3;have z3:=L.z3;have t4:=L.t4.trans Tryz.underlying4;have a4:=L.a4;have z4:=L.z4;have t39:=L.t39.trans Tryz.underlying258;have a39:=L.a39;have z39:=L.z39;have t22:=L.t22.trans Tryz.underlying23;have a22:=L.a22;have z22:=L.z22;have t25:=L.t25.trans Tryz.underlying76;have a25:=L.a25;have z25:=L.z25;have v0:=L.v0;have v3:=L.v3;have v4:=L.v4;have aE:=L.aE;have zE:=L.zE;have u22:=run_underlying t22;have eSwap:∀args w,(callFunc 224 args).run P w=.ok (.enter 224 args) w:=enters_of L.fSwap (by kernel_rfl) rfl;have eRot:∀args w,(callFunc 192 args).run P w=.ok (.enter 192 args) w:=enters_of L.fRot (by kernel_rfl) rfl;have eMrg:∀args w,(callFunc 133 args).run P w=.ok (.enter 133 args) w:=enters_of L.fMrg (by kernel_rfl) rfl;have eIns:∀args w,(callFunc 132 args).run P w=.ok (.enter 132 args) w:=enters_of L.fIns (by kernel_rfl) rfl;have eStb:∀args w,(callFunc 73 args).run P w=.ok (.enter 73 args) w:=enters_of L.fStb (by kernel_rfl) rfl;have HR:Aside _:=R;have HC:Aside _:=hcmp;have SS:Aside _:=s2;have OO:Aside _:=hO;have S0:Aside (SWK enc kE w0 blk off d w):=S;have r1:IntKind.i64.wrap ((a:Int)+1-(a:Int))=1:=by rw[IntKind.wrap_i64];omega
 have baz:(a:Int)<(d.size:Int):=by omega
 clear S R hcmp s2 hO;go_enter L.fMrg,Tryz.ntmps133;go_wp2
 go_loopg [10,11] b (fun g1 vi vj wr=>∃lo hi:Nat,vi=.int .i64 lo∧vj=.int .i64 hi∧a+1≤lo∧lo≤hi∧hi≤b∧hi-lo≤g1∧Aside (SWK enc kE w0 blk off d wr) ∧
  Hid ((lo=a+1∨ltOf cf d[lo-1]! d[a]! = true)∧(hi=b∨ltOf cf d[hi]! d[a]! = false)))
 case atStart=>exact⟨a+1,b,by go_num,rfl,by omega,by omega,by omega,by omega,S0,.inl rfl,.inl rfl⟩
 case round =>
  clear S0;obtain⟨lo,hi,rfl,rfl,hal,hlh,hhb,hg1,S1,HX⟩:=hrel;by_cases hlt:lo<hi
  · have hltz:(lo:Int)<(hi:Int):=by omega
    obtain⟨x,hx⟩:∃x,x=d[(lo+hi) / 2]!:=⟨_,rfl⟩
    obtain⟨y,hy⟩:∃x,x=d[a]!:=⟨_,rfl⟩
    have l1:=S1.out.ld HR.out (by omega) P ((lo+hi) / 2) (by omega);have l2:=S1.out.ld HR.out (by omega) P a (by omega);obtain⟨hN,hhN⟩:∃q,q=(lo+hi) / 2:=⟨_,rfl⟩
    rw[←hx,←hhN] at l1;rw[←hy] at l2;have ea:(((lo:Int)+(hi:Int)) / 2).toNat=hN:=by omega
    have pa:(0:Int)≤((lo:Int)+(hi:Int)) / 2:=by omega
    have ra:IntKind.i64.wrap (((lo:Int)+(hi:Int)) / 2)=((lo:Int)+(hi:Int)) / 2:=by rw[IntKind.wrap_i64];omega
    have hc:=S1.out.cmp HC.out (by omega) x y;have bm:((lo:Int)+(hi:Int)) / 2<(d.size:Int):=by omega
    have V8:Hid (x=d[(lo+hi) / 2]!∧y=d[a]!):=⟨hx,hy⟩
    clear hx hy hhN;by_cases hv:cf x y<0
    · have hd:decide (cf x y<0)=true:=decide_eq_true hv;go_wp2_with fail
      go_quiet_grown (first | (go_at_fn g;refine Calls.grown_of (hc _ _)))
      have S2:Aside (SWK enc kE w0 blk off d (grow (wr.drewN nq) osq)):=S1.out.grown nq osq;clear l1 l2 hc S1;generalize grow (wr.drewN nq) osq=w2 at S2 ⊢
      clear nq osq;go_wp2;go_roundg (hi-((lo+hi) / 2+1))
      case measure=>omega
      case rel =>
       refine⟨(lo+hi) / 2+1,hi,by rw[show ((lo:Int)+(hi:Int)) / 2+1=(((lo+hi) / 2+1:Nat):Int) by omega],rfl,by omega,by omega,by omega,Nat.le_refl _,S2,?_,HX.out.2⟩;right
       rw[show (lo+hi) / 2+1-1=(lo+hi) / 2 from by omega,←V8.out.1,←V8.out.2];exact hd
    · have hd:decide (cf x y<0)=false:=decide_eq_false hv;go_wp2_with fail
      go_quiet_grown (first | (go_at_fn g;refine Calls.grown_of (hc _ _)))
      have S2:Aside (SWK enc kE w0 blk off d (grow (wr.drewN nq) osq)):=S1.out.grown nq osq;clear l1 l2 hc S1;generalize grow (wr.drewN nq) osq=w2 at S2 ⊢
      clear nq osq;go_wp2;go_roundg ((lo+hi) / 2-lo)
      case measure=>omega
      case rel =>
       refine⟨lo,(lo+hi) / 2,rfl,by rw[show ((lo:Int)+(hi:Int)) / 2=(((lo+hi) / 2:Nat):Int) by omega],by omega,by omega,by omega,Nat.le_refl _,S2,HX.out.1,?_⟩;right
       rw[←V8.out.1,←V8.out.2];exact hd
  · obtain rfl:hi=lo:=by omega
    have r2:IntKind.i64.wrap ((hi:Int)-1)=(hi:Int)-1:=by rw[IntKind.wrap_i64];omega
    have hq:¬(hi:Int)<(hi:Int):=by omega
    go_wp2;go_loopg [13] b (fun g2 vk wr2=>∃(n:Nat) (dk:Array α),vk=.int .i64 ((a+n:Nat):Int)∧a+n+1≤hi∧b-(a+n)≤g2∧dk.size=d.size∧Aside (SWK enc kE w0 blk off dk wr2)∧Hid (Rot a 1 n d dk∧PermIn a b d dk))
    case atStart=>exact⟨0,d,by go_num,by omega,by omega,rfl,S1,Rot.triv (.inr rfl),permIn_refl _ _ _⟩
    case round =>
     clear S1;obtain⟨n,dk,rfl,hn,hg2,hsk,S2,HY⟩:=hrel;by_cases hk:a+n+1<hi
     · have hkz:((a+n:Nat):Int)<(hi:Int)-1:=by omega
       obtain⟨kN,hkN⟩:∃q,q=a+n:=⟨_,rfl⟩
       rw[←hkN] at hkz ⊢;obtain⟨jN,hjN⟩:∃q,q=kN+1:=⟨_,rfl⟩
       have ea:((kN:Int)+1).toNat=jN:=by omega
       have pa:(0:Int)≤(kN:Int)+1:=by omega
       have ba:(kN:Int)+1<(d.size:Int):=by omega
       have bk:(kN:Int)<(d.size:Int):=by omega
       have ra:IntKind.i64.wrap ((kN:Int)+1)=(kN:Int)+1:=by rw[IntKind.wrap_i64];omega
       have S3:Aside (SWK enc kE w0 blk off (swp dk (kN) (jN)) ((wr.drew.setCells blk (off+(kN)*kE) (enc dk[jN]!)).setCells blk (off+(jN)*kE) (enc dk[kN]!))):=S2.out.swapped HR.out (kN) (jN) (by omega) (by omega);have lA:=S2.out.ld1 HR.out (by omega) P (kN) (by omega);have lB:=S2.out.ld1 HR.out (by omega) P (jN) (by omega);have sA:=S2.out.st1 HR.out (by omega) P (kN) (by omega) dk[jN]!;have sB:=S2.out.st2 HR.out (by omega) P (kN) (jN) (by omega) (by omega) dk[jN]! dk[kN]!;have nA:(enc dk[kN]!).length=kE:=HR.out.hk _;have nB:(enc dk[jN]!).length=kE:=HR.out.hk _;generalize enc dk[kN]! = cI at S3 lA sB nA
       generalize enc dk[jN]! = cJ at S3 lB sA sB nB
       have Tv:Hid (Rot a 1 (n+1) d (swp dk kN jN)∧PermIn a b d (swp dk kN jN)) :=
        ⟨by rw[hjN,hkN];exact HY.out.1.up (by omega),permIn_trans _ _ _ _ _ HY.out.2 (swp_permIn dk a b kN jN (by omega) (by omega) (by omega) (by omega) (by omega))⟩
       have HK:Hid (kN=a+n):=hkN;clear S2 hjN hkN;go_wp2_with fail
       go_big_region_o
       clear lA lB sA sB;generalize (wr.drew.setCells blk (off+(kN)*kE) cJ).setCells blk (off+(jN)*kE) cI=w3 at S3 ⊢
       clear ea;go_wp2;go_roundg (b-(a+(n+1)))
       case measure=>have:=HK.out;omega
       case rel=>exact⟨n+1,swp dk kN jN,by rw[HK.out];go_num,by omega,Nat.le_refl _,by rw[size_swp];exact hsk,S3,Tv⟩
     · have hkz:¬((a+n:Nat):Int)<(hi:Int)-1:=by omega
       have en:hi=a+1+n:=by omega
       have R1:Hid (Rot a 1 n d dk∧PermIn a b d dk):=HY;have EN:Hid (hi=a+1+n):=en;obtain⟨kN,hkN⟩:∃q,q=a+n:=⟨_,rfl⟩
       rw[←hkN] at hkz ⊢;clear en hkN;go_wp2;refine bodyPost_ret (results_none rfl _ _ _) rfl ?_;have e1:=EN.out;refine⟨rfl,dk,R1.out.2,jlJ OO.out R1.out.1 (by omega) SS.out ?_ ?_,S2.out⟩
       · rcases HX.out.1 with h | h
         · exact .inl (by omega)
         · right;rw[show a+n=hi-1 from by omega];exact h
       · rcases HX.out.2 with h | h
         · exact .inl (by omega)
         · right;rw[←e1];exact h
theorem jcv {α:Type} [Inhabited α] {P:Program} {kE:Nat} (L:Yo P kE) (enc:α→List Value) (cf:α→α→Int) (hO:SWO (ltOf cf)) (g:Nat) (cb:Array Value) (w0:World) (blk off cap a m:Nat) (d0 d:Array α) (w:World)
 (eg:∀args w,(callFunc g args).run P w=.ok (.enter g args) w) (hcmp:CmpLays P g cb enc kE cf blk off d0.size w0) (R:RowK enc kE w0 blk off d0) (hs:d0.size=d.size) (S:SWK enc kE w0 blk off d w)
 (ham:a+1<m) (hb:m+1≤d.size) (hsz:d.size<2305843009213693952) (s1:SortedIn (ltOf cf) a m d) :
 Calls P 133 #[.slice (some ⟨blk,off,none⟩) d.size cap,.int .i64 a,.int .i64 m,.int .i64 ((m:Int)+1),.func (.func g) #[] cb] w (jah kE enc cf w0 blk off a (m+1) d):=by
 unfold jah;have mixed:=L.mixed;have t0:=L.t0.trans Tryz.underlying0;have a0:=L.a0;have z0:=L.z0;have t3:=L.t3.trans Tryz.underlying3;have a3:=L.a3;have z3:=L.z3;have t4:=L.t4.trans Tryz.underlying4;have a4:=L.a4;have z4:=L.z4;have t39:=L.t39.trans Tryz.underlying258;have a39:=L.a39;have z39:=L.z39;have t22:=L.t22.trans Tryz.underlying23;have a22:=L.a22;have z22:=L.z22;have t25:=L.t25.trans Tryz.underlying76;have a25:=L.a25;have z25:=L.z25;have v0:=L.v0;have v3:=L.v3;have v4:=L.v4;have aE:=L.aE;have zE:=L.zE;have u22:=run_underlying t22;have eSwap:∀args w,(callFunc 224 args).run P w=.ok (.enter 224 args) w:=enters_of L.fSwap (by kernel_rfl) rfl;have eRot:∀args w,(callFunc 192 args).run P w=.ok (.enter 192 args) w:=enters_of L.fRot (by kernel_rfl) rfl;have eMrg:∀args w,(callFunc 133 args).run P w=.ok (.enter 133 args) w:=enters_of L.fMrg (by kernel_rfl) rfl;have eIns:∀args w,(callFunc 132 args).run P w=.ok (.enter 132 args) w:=enters_of L.fIns (by kernel_rfl) rfl;have eStb:∀args w,(callFunc 73 args).run P w=.ok (.enter 73 args) w:=enters_of L.fStb (by kernel_rfl) rfl;have HR:Aside _:=R;have HC:Aside _:=hcmp;have SS:Aside _:=s1;have OO:Aside _:=hO;have S0:Aside (SWK enc kE w0 blk off d w):=S;have r0:IntKind.i64.wrap ((m:Int)-(a:Int))=(m:Int)-(a:Int):=by rw[IntKind.wrap_i64];omega
 have q0:((m:Int)-(a:Int)==1)=false:=by simp;omega
 have r1:IntKind.i64.wrap ((m:Int)+1-(m:Int))=1:=by rw[IntKind.wrap_i64];omega
 have bmz:(m:Int)<(d.size:Int):=by omega
 clear S R hcmp s1 hO;go_enter L.fMrg,Tryz.ntmps133;go_wp2
 go_loopg [14,15] m (fun g1 vi vj wr=>∃lo hi:Nat,vi=.int .i64 lo∧vj=.int .i64 hi∧a≤lo∧lo≤hi∧hi≤m∧hi-lo≤g1∧Aside (SWK enc kE w0 blk off d wr) ∧
  Hid ((lo=a∨ltOf cf d[m]! d[lo-1]! = false)∧(hi=m∨ltOf cf d[m]! d[hi]! = true)))
 case atStart=>exact⟨a,m,rfl,rfl,by omega,by omega,by omega,by omega,S0,.inl rfl,.inl rfl⟩
 case round =>
  clear S0;obtain⟨lo,hi,rfl,rfl,hal,hlh,hhb,hg1,S1,HX⟩:=hrel;by_cases hlt:lo<hi
  · have hltz:(lo:Int)<(hi:Int):=by omega
    obtain⟨x,hx⟩:∃x,x=d[(lo+hi) / 2]!:=⟨_,rfl⟩
    obtain⟨y,hy⟩:∃x,x=d[m]!:=⟨_,rfl⟩
    have l1:=S1.out.ld HR.out (by omega) P ((lo+hi) / 2) (by omega);have l2:=S1.out.ld HR.out (by omega) P m (by omega);obtain⟨hN,hhN⟩:∃q,q=(lo+hi) / 2:=⟨_,rfl⟩
    rw[←hx,←hhN] at l1;rw[←hy] at l2;have ea:(((lo:Int)+(hi:Int)) / 2).toNat=hN:=by omega
    have pa:(0:Int)≤((lo:Int)+(hi:Int)) / 2:=by omega
    have ra:IntKind.i64.wrap (((lo:Int)+(hi:Int)) / 2)=((lo:Int)+(hi:Int)) / 2:=by rw[IntKind.wrap_i64];omega
    have hc:=S1.out.cmp HC.out (by omega) y x;have bm:((lo:Int)+(hi:Int)) / 2<(d.size:Int):=by omega
    have V8:Hid (x=d[(lo+hi) / 2]!∧y=d[m]!):=⟨hx,hy⟩
    clear hx hy hhN;by_cases hv:cf y x<0
    · have hd:decide (cf y x<0)=true:=decide_eq_true hv;go_wp2_with fail
      go_quiet_grown (first | (go_at_fn g;refine Calls.grown_of (hc _ _)))
      have S2:Aside (SWK enc kE w0 blk off d (grow (wr.drewN nq) osq)):=S1.out.grown nq osq;clear l1 l2 hc S1;generalize grow (wr.drewN nq) osq=w2 at S2 ⊢
      clear nq osq;go_wp2;go_roundg ((lo+hi) / 2-lo)
      case measure=>omega
      case rel =>
       refine⟨lo,(lo+hi) / 2,rfl,by rw[show ((lo:Int)+(hi:Int)) / 2=(((lo+hi) / 2:Nat):Int) by omega],by omega,by omega,by omega,Nat.le_refl _,S2,HX.out.1,?_⟩;right
       rw[←V8.out.1,←V8.out.2];exact hd
    · have hd:decide (cf y x<0)=false:=decide_eq_false hv;go_wp2_with fail
      go_quiet_grown (first | (go_at_fn g;refine Calls.grown_of (hc _ _)))
      have S2:Aside (SWK enc kE w0 blk off d (grow (wr.drewN nq) osq)):=S1.out.grown nq osq;clear l1 l2 hc S1;generalize grow (wr.drewN nq) osq=w2 at S2 ⊢
      clear nq osq;go_wp2;go_roundg (hi-((lo+hi) / 2+1))
      case measure=>omega
      case rel =>
       refine⟨(lo+hi) / 2+1,hi,by rw[show ((lo:Int)+(hi:Int)) / 2+1=(((lo+hi) / 2+1:Nat):Int) by omega],rfl,by omega,by omega,by omega,Nat.le_refl _,S2,?_,HX.out.2⟩;right
       rw[show (lo+hi) / 2+1-1=(lo+hi) / 2 from by omega,←V8.out.1,←V8.out.2];exact hd
  · obtain rfl:hi=lo:=by omega
    have hq:¬(hi:Int)<(hi:Int):=by omega
    go_wp2;go_loopg [17] m (fun g2 vk wr2=>∃(k n:Nat) (dk:Array α),vk=.int .i64 (k:Int)∧k+n=m∧hi≤k∧k≤g2∧dk.size=d.size∧Aside (SWK enc kE w0 blk off dk wr2)∧Hid (Rot k n 1 d dk∧PermIn a (m+1) d dk))
    case atStart=>exact⟨m,0,d,rfl,by omega,by omega,by omega,rfl,S1,Rot.triv (.inl rfl),permIn_refl _ _ _⟩
    case round =>
     clear S1;obtain⟨k,n,dk,rfl,hkn,hhk,hg2,hsk,S2,HY⟩:=hrel;by_cases hk:hi<k
     · obtain⟨jN,hjN⟩:∃q,q+1=k:=⟨k-1,by omega⟩
       subst hjN;have hkz:(hi:Int)<(jN:Int)+1:=by omega
       obtain⟨kN,hkN⟩:∃q,q=jN+1:=⟨_,rfl⟩
       have ea:((jN:Int)+1).toNat=kN:=by omega
       have pa:(0:Int)≤(jN:Int)+1:=by omega
       have ba:(jN:Int)+1<(d.size:Int):=by omega
       have bk:(jN:Int)<(d.size:Int):=by omega
       have ra:IntKind.i64.wrap (jN:Int)=(jN:Int):=by rw[IntKind.wrap_i64];omega
       have ra2:IntKind.i64.wrap ((jN:Int)+1-1)=(jN:Int):=by rw[IntKind.wrap_i64];omega
       have S3:Aside (SWK enc kE w0 blk off (swp dk (kN) (jN)) ((wr.drew.setCells blk (off+(kN)*kE) (enc dk[jN]!)).setCells blk (off+(jN)*kE) (enc dk[kN]!))):=S2.out.swapped HR.out (kN) (jN) (by omega) (by omega);have lA:=S2.out.ld1 HR.out (by omega) P (kN) (by omega);have lB:=S2.out.ld1 HR.out (by omega) P (jN) (by omega);have sA:=S2.out.st1 HR.out (by omega) P (kN) (by omega) dk[jN]!;have sB:=S2.out.st2 HR.out (by omega) P (kN) (jN) (by omega) (by omega) dk[jN]! dk[kN]!;have nA:(enc dk[kN]!).length=kE:=HR.out.hk _;have nB:(enc dk[jN]!).length=kE:=HR.out.hk _;generalize enc dk[kN]! = cI at S3 lA sB nA
       generalize enc dk[jN]! = cJ at S3 lB sA sB nB
       have Tv:Hid (Rot jN (n+1) 1 d (swp dk kN jN)∧PermIn a (m+1) d (swp dk kN jN)) :=
        ⟨by rw[hkN];exact HY.out.1.down (by omega),permIn_trans _ _ _ _ _ HY.out.2 (swp_permIn dk a (m+1) kN jN (by omega) (by omega) (by omega) (by omega) (by omega))⟩
       clear S2 hkN;go_wp2_with fail
       go_big_region_o
       clear lA lB sA sB;generalize (wr.drew.setCells blk (off+(kN)*kE) cJ).setCells blk (off+(jN)*kE) cI=w3 at S3 ⊢
       clear ea;go_wp2;go_roundg jN
       case measure=>omega
       case rel=>exact⟨jN,n+1,swp dk kN jN,by first | rfl | go_num | (congr 1;omega),by omega,by omega,Nat.le_refl _,by rw[size_swp];exact hsk,S3,Tv⟩
     · have en:k=hi:=by omega
       subst en;have hkz:¬(k:Int)<(k:Int):=by omega
       have KN:Hid (k+n=m):=hkn;clear hkn;go_wp2;refine bodyPost_ret (results_none rfl _ _ _) rfl ?_;have e1:=KN.out;refine⟨rfl,dk,HY.out.2,?_,S2.out⟩;have:=jkE OO.out HY.out.1 hal (by rw[e1];exact SS.out) ?_ ?_
       · rw[e1] at this;exact this
       · rcases HX.out.1 with h | h
         · exact .inl h
         · right;rw[e1];exact h
       · rcases HX.out.2 with h | h
         · exact .inl (by omega)
         · right;rw[e1];exact h
end Go.Proofs.YtokdjfoalkmhiaaGreat
