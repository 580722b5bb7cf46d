/- C. -/
import Derived.Test.YtokdjfoalkmhiaaGreatG13
set_option linter.unusedVariables false
set_option maxRecDepth 100000
set_option maxHeartbeats 25600000
namespace Go.Proofs.YtokdjfoalkmhiaaGreat
open Go.RowKit Go.Shelf Go.Lib Go.Sort
theorem jiU {α:Type} [Inhabited α] {P:Program} {kE:Nat} (L:Yo P kE) (enc:α→List Value) (w0:World) (blk off cap a m b:Nat) (za zm zb:Int) (d0 d:Array α) (w:World) (R:RowK enc kE w0 blk off d0) (hs:d0.size=d.size) (S:SWK enc kE w0 blk off d w) (ham:a<m) (hmb:m<b) (hb:b≤d.size) (hsz:d.size<4611686018427387904) (cmp:Value)
 (ea:za=a) (em:zm=m) (eb:zb=b) (N:Nat) (hN:N=d.size) :
 Calls P 192 #[.slice (some ⟨blk,off,none⟩) N cap,.int .i64 za,.int .i64 zm,.int .i64 zb,cmp] w
  fun e w'=>e=.returned (.tuple #[])∧∃d',Rot a (m-a) (b-m) d d'∧PermIn a b d d'∧SWK enc kE w0 blk off d' w':=by
 subst ea em eb hN;exact jgA L enc w0 blk off cap a m b d0 d w R hs S ham hmb hb hsz cmp
def jd6 {α:Type} [Inhabited α] (P:Program) (kE:Nat) (enc:α→List Value) (cf:α→α→Int) (g:Nat) (cb:Array Value) (w0:World) (blk off cap size n:Nat):Prop :=
 ∀(a m b:Nat) (za zm zb:Int) (d:Array α) (w:World),b-a<n→a<m→m<b→b≤size→d.size=size→za=a→zm=m→zb=b→SWK enc kE w0 blk off d w→SortedIn (ltOf cf) a m d→SortedIn (ltOf cf) m b d →
  Calls P 133 #[.slice (some ⟨blk,off,none⟩) size cap,.int .i64 za,.int .i64 zm,.int .i64 zb,.func (.func g) #[] cb] w (jah kE enc cf w0 blk off a b d)
theorem jeQ {α:Type} [Inhabited α] {P:Program} {kE:Nat} (L:Yo P kE) (enc:α→List Value) (cf:α→α→Int) (hO:SWO (ltOf cf)) (g:Nat) (cb:Array Value) (w0:World) (blk off cap a m b:Nat) (d0 d:Array α) (w:World)
 (eg:∀args w,(callFunc g args).run P w=.ok (.enter g args) w) (hcmp:CmpLays P g cb enc kE cf blk off d0.size w0) (R:RowK enc kE w0 blk off d0) (hs:d0.size=d.size) (S:SWK enc kE w0 blk off d w)
 (ham:a+1<m) (hmb:m+1<b) (hb:b≤d.size) (hsz:d.size<2305843009213693952) (s1:SortedIn (ltOf cf) a m d) (s2:SortedIn (ltOf cf) m b d)
 (IH:jd6 P kE enc cf g cb w0 blk off cap d.size (b-a)) :
 Calls P 133 #[.slice (some ⟨blk,off,none⟩) d.size cap,.int .i64 a,.int .i64 m,.int .i64 b,.func (.func g) #[] cb] w (jah kE enc cf w0 blk off a b d):=by
 unfold jah;have mixed:=L.mixed;have t0:=L.t0.trans Tryz.underlying0;have a0:=L.a0;have z0:=L.z0;have t3:=L.t3.trans Tryz.underlying3;have a3:=L.a3;have z3:=L.z3;have t4:=L.t4.trans Tryz.underlying4;have a4:=L.a4;have z4:=L.z4;have t39:=L.t39.trans Tryz.underlying258;have a39:=L.a39;have z39:=L.z39;have t22:=L.t22.trans Tryz.underlying23;have a22:=L.a22;have z22:=L.z22;have t25:=L.t25.trans Tryz.underlying76;have a25:=L.a25;have z25:=L.z25;have v0:=L.v0;have v3:=L.v3;have v4:=L.v4;have aE:=L.aE;have zE:=L.zE;have u22:=run_underlying t22;have eSwap:∀args w,(callFunc 224 args).run P w=.ok (.enter 224 args) w:=enters_of L.fSwap (by kernel_rfl) rfl;have eRot:∀args w,(callFunc 192 args).run P w=.ok (.enter 192 args) w:=enters_of L.fRot (by kernel_rfl) rfl;have eMrg:∀args w,(callFunc 133 args).run P w=.ok (.enter 133 args) w:=enters_of L.fMrg (by kernel_rfl) rfl;have eIns:∀args w,(callFunc 132 args).run P w=.ok (.enter 132 args) w:=enters_of L.fIns (by kernel_rfl) rfl;have eStb:∀args w,(callFunc 73 args).run P w=.ok (.enter 73 args) w:=enters_of L.fStb (by kernel_rfl) rfl;have HR:Aside _:=R;have HC:Aside _:=hcmp;have T1:Aside _:=s1;have T2:Aside _:=s2;have OO:Aside _:=hO;have HI:Aside _:=IH;have S0:Aside (SWK enc kE w0 blk off d w):=S;have r0:IntKind.i64.wrap ((m:Int)-(a:Int))=(m:Int)-(a:Int):=by rw[IntKind.wrap_i64];omega
 have q0:((m:Int)-(a:Int)==1)=false:=by simp;omega
 have r1:IntKind.i64.wrap ((b:Int)-(m:Int))=(b:Int)-(m:Int):=by rw[IntKind.wrap_i64];omega
 have q1:((b:Int)-(m:Int)==1)=false:=by simp;omega
 obtain⟨mid,hmid⟩:∃mid,mid=(a+b) / 2:=⟨_,rfl⟩
 have em:((a:Int)+(b:Int)) / 2=(mid:Int):=by omega
 have m1:a<mid:=by omega
 have m2:mid<b:=by omega
 have m3:2*mid≤a+b:=by omega
 have m4:a+b≤2*mid+1:=by omega
 clear S R hcmp s1 s2 hO IH hmid;have r2:IntKind.i64.wrap ((mid:Int)+(m:Int))=(mid:Int)+(m:Int):=by rw[IntKind.wrap_i64];omega
 have r3:IntKind.i64.wrap ((mid:Int)+(m:Int)-(b:Int))=(mid:Int)+(m:Int)-(b:Int):=by rw[IntKind.wrap_i64];omega
 have r4:IntKind.i64.wrap ((mid:Int)+(m:Int)-1)=(mid:Int)+(m:Int)-1:=by rw[IntKind.wrap_i64];omega
 go_enter L.fMrg,Tryz.ntmps133;go_upto_if 140 with fail
 go_cut [20,21] from 25 (fun s20 s21 wx=>w=wx∧∃lo hi:Nat,s20=.int .i64 lo∧s21=.int .i64 hi∧((m≤mid∧lo=a∧hi=m)∨(mid<m∧lo+b=mid+m∧hi=mid)))
 case first =>
  by_cases hmm:mid<m
  · have hz:(mid:Int)<(m:Int):=by omega
    go_wp2;go_meet
    case rel=>exact⟨rfl,mid+m-b,mid,by congr 1;omega,rfl,.inr ⟨hmm,by omega,rfl⟩⟩
  · have hz:¬(mid:Int)<(m:Int):=by omega
    go_wp2;go_meet
    case rel=>exact⟨rfl,a,m,rfl,rfl,.inl ⟨by omega,rfl,rfl⟩⟩
 case rest =>
  obtain⟨rfl,lo,hi,rfl,rfl,hlh⟩:=hcut;have HL:Hid ((m≤mid∧lo=a∧hi=m)∨(mid<m∧lo+b=mid+m∧hi=mid)):=hlh;have l1:a≤lo:=by omega
  have l2:hi≤m:=by omega
  have l3:hi≤mid:=by omega
  have l4:mid+m≤lo+b:=by omega
  have l5:lo≤hi:=by omega
  clear hlh;go_wp2
  go_loopg [20,21] b (fun g1 vi vj wr=>∃s r:Nat,vi=.int .i64 s∧vj=.int .i64 r∧lo≤s∧s≤r∧r≤hi∧r-s≤g1∧Aside (SWK enc kE w0 blk off d wr) ∧
   Hid ((s=lo∨ltOf cf d[mid+m-s]! d[s-1]! = false)∧(r=hi∨ltOf cf d[mid+m-1-r]! d[r]! = true)))
  case atStart=>exact⟨lo,hi,rfl,rfl,by omega,by omega,by omega,by omega,S0,.inl rfl,.inl rfl⟩
  case round =>
   clear S0;obtain⟨s,r,rfl,rfl,hls,hsr,hrh,hg1,S1,HX⟩:=hrel;by_cases hlt:s<r
   · have hltz:(s:Int)<(r:Int):=by omega
     obtain⟨hN,hhN⟩:∃q,q=(s+r) / 2:=⟨_,rfl⟩
     obtain⟨pN,hpN⟩:∃q,q=mid+m-1-hN:=⟨_,rfl⟩
     obtain⟨x,hx⟩:∃x,x=d[hN]!:=⟨_,rfl⟩
     obtain⟨y,hy⟩:∃x,x=d[pN]!:=⟨_,rfl⟩
     have l1':=S1.out.ld HR.out (by omega) P hN (by omega);have l2':=S1.out.ld HR.out (by omega) P pN (by omega);rw[←hx] at l1';rw[←hy] at l2';have eh:((s:Int)+(r:Int)) / 2=(hN:Int):=by omega
     have ed:(mid:Int)+(m:Int)-1-(hN:Int)=(pN:Int):=by omega
     have bp:(pN:Int)<(d.size:Int):=by omega
     have bh:(hN:Int)<(d.size:Int):=by omega
     have ra:IntKind.i64.wrap (pN:Int)=(pN:Int):=by rw[IntKind.wrap_i64];omega
     have hc:=S1.out.cmp HC.out (by omega) y x;have V8:Hid (x=d[hN]!∧y=d[pN]!∧hN=(s+r) / 2∧pN=mid+m-1-hN):=⟨hx,hy,hhN,hpN⟩
     have b1:s≤hN:=by omega
     have b2:hN<r:=by omega
     clear hx hy hhN hpN;by_cases hv:cf y x<0
     · have hd:decide (cf y x<0)=true:=decide_eq_true hv;go_wp2_with fail
       go_quiet_grown (first | (go_at_fn g;refine Calls.grown_of (hc _ _)))
       have S2:Aside (SWK enc kE w0 blk off d (grow (wr.drewN nq) osq)):=S1.out.grown nq osq;clear l1' l2' hc S1;generalize grow (wr.drewN nq) osq=w2 at S2 ⊢
       clear nq osq;go_wp2;go_roundg (hN-s)
       case measure=>omega
       case rel =>
        refine⟨s,hN,rfl,rfl,by omega,by omega,by omega,Nat.le_refl _,S2,HX.out.1,?_⟩;right
        rw[←V8.out.2.2.2,←V8.out.1,←V8.out.2.1];exact hd
     · have hd:decide (cf y x<0)=false:=decide_eq_false hv;go_wp2_with fail
       go_quiet_grown (first | (go_at_fn g;refine Calls.grown_of (hc _ _)))
       have S2:Aside (SWK enc kE w0 blk off d (grow (wr.drewN nq) osq)):=S1.out.grown nq osq;clear l1' l2' hc S1;generalize grow (wr.drewN nq) osq=w2 at S2 ⊢
       clear nq osq;go_wp2;go_roundg (r-(hN+1))
       case measure=>omega
       case rel =>
        refine⟨hN+1,r,by go_num,rfl,by omega,by omega,by omega,Nat.le_refl _,S2,?_,HX.out.2⟩;right
        rw[show hN+1-1=hN from by omega,show mid+m-(hN+1)=mid+m-1-hN from by omega,←V8.out.2.2.2,←V8.out.1,←V8.out.2.1];exact hd
   · obtain rfl:r=s:=by omega
     have hq:¬(r:Int)<(r:Int):=by omega
     have r5:IntKind.i64.wrap ((mid:Int)+(m:Int)-(r:Int))=(mid:Int)+(m:Int)-(r:Int):=by rw[IntKind.wrap_i64];omega
     have hF:Found (ltOf cf) a m b mid r d:=by
      refine⟨by omega,by omega,m1,m2,by omega,by omega,by omega,by omega,by omega,?_,?_⟩
      · rcases HX.out.1 with h | h
        · rcases HL.out with ⟨h1,h2,h3⟩ | ⟨h1,h2,h3⟩
          · exact .inl (by omega)
          · exact .inr (.inl (by omega))
        · exact .inr (.inr h)
      · rcases HX.out.2 with h | h
        · rcases HL.out with ⟨h1,h2,h3⟩ | ⟨h1,h2,h3⟩
          · exact .inl (by omega)
          · exact .inr (.inl (by omega))
        · exact .inr (.inr h)
     have FF:Hid _:=hF;obtain⟨z,hz⟩:∃z,z=mid+m-r:=⟨_,rfl⟩
     have ez:(mid:Int)+(m:Int)-(r:Int)=(z:Int):=by omega
     have z1:m≤z:=hz▸hF.em;have z2:z≤b:=hz▸hF.eb;have z3:mid≤z:=by omega
     have HZ:Hid (z=mid+m-r):=hz;clear hF hz;go_upto_region 39 with fail
     go_cut [185] from 178 (fun s185 wx=>s185=.bool (decide (r<m)&&decide (m<z))∧wr=wx)
     case first =>
      by_cases c1:r<m
      · have c1z:(r:Int)<(m:Int):=by omega
        by_cases c2:m<z
        · have c2z:(m:Int)<(z:Int):=by omega
          go_wp2;go_meet
          case rel=>exact⟨by simp[c1,c2],rfl⟩
        · have c2z:¬(m:Int)<(z:Int):=by omega
          go_wp2;go_meet
          case rel=>exact⟨by simp[c1,c2],rfl⟩
      · have c1z:¬(r:Int)<(m:Int):=by omega
        go_wp2;go_meet
        case rel=>exact⟨by simp[c1],rfl⟩
     case rest =>
     obtain⟨rfl,rfl⟩:=hcut;go_upto_if 185 with fail
     go_cut [] from 25 (fun wx=>∃d1:Array α,d1.size=d.size∧Aside (SWK enc kE w0 blk off d1 wx)∧Hid (Rot r (m-r) (mid-r) d d1∧PermIn a b d d1))
     case first =>
      by_cases c1:r<m
      · have c1z:(r:Int)<(m:Int):=by omega
        by_cases c2:m<z
        · have c2z:(m:Int)<(z:Int):=by omega
          have hc:=lH (jiU L enc w0 blk off cap r m z r m z d0 d wr HR.out hs S1.out c1 c2 (by omega) (by omega) (.func (.func g) #[] cb) rfl rfl rfl d.size rfl);go_wp2_with (go_at_call 192;refine hc.out.mono ?_;rintro e w1 ⟨rfl,d1,hE,hP,hS⟩)
          have H1:Hid (Rot r (m-r) (z-m) d d1):=hE;have H2:Hid (PermIn r z d d1):=hP;have S2:Aside (SWK enc kE w0 blk off d1 w1):=hS;clear hE hP hS;go_meet
          case rel=>exact⟨d1,H1.out.size,S2,by rw[show mid-r=z-m from by omega];exact H1.out,permIn_mono _ _ _ _ _ _ (by omega) (by omega) (by omega) H2.out⟩
        · have c2z:¬(m:Int)<(z:Int):=by omega
          go_wp2;go_meet
          case rel=>exact⟨d,rfl,S1,Rot.triv (.inr (by omega)),permIn_refl _ _ _⟩
      · have c1z:¬(r:Int)<(m:Int):=by omega
        go_wp2;go_meet
        case rel=>exact⟨d,rfl,S1,Rot.triv (.inl (by omega)),permIn_refl _ _ _⟩
     case rest =>
      obtain⟨d1,hd1,S2,H1⟩:=hcut;have HP:Hid (SortedIn (ltOf cf) a r d1∧SortedIn (ltOf cf) r mid d1∧SortedIn (ltOf cf) mid z d1∧SortedIn (ltOf cf) z b d1):=by
       rw[show z=mid+m-r from HZ.out];exact FF.out.parts H1.out.1 T1.out T2.out
      have HQ:Hid (∀x y,a≤x→x<mid→mid≤y→y<b→ltOf cf d1[y]! d1[x]! = false):=FF.out.cross OO.out H1.out.1 T1.out T2.out;clear S1;go_upto_region 41 with fail
      go_cut [199] from 192 (fun s199 wx=>s199=.bool (decide (a<r)&&decide (r<mid))∧wc=wx)
      case first =>
       by_cases c1:a<r
       · have c1z:(a:Int)<(r:Int):=by omega
         by_cases c2:r<mid
         · have c2z:(r:Int)<(mid:Int):=by omega
           go_wp2;go_meet
           case rel=>exact⟨by simp[c1,c2],rfl⟩
         · have c2z:¬(r:Int)<(mid:Int):=by omega
           go_wp2;go_meet
           case rel=>exact⟨by simp[c1,c2],rfl⟩
       · have c1z:¬(a:Int)<(r:Int):=by omega
         go_wp2;go_meet
         case rel=>exact⟨by simp[c1],rfl⟩
      case rest =>
      obtain⟨rfl,rfl⟩:=hcut;go_upto_if 199 with fail
      go_cut [] from 25 (fun wx=>∃d2:Array α,d2.size=d.size∧Aside (SWK enc kE w0 blk off d2 wx)∧Hid (PermIn a mid d1 d2∧SortedIn (ltOf cf) a mid d2))
      case first =>
       by_cases c1:a<r
       · have c1z:(a:Int)<(r:Int):=by omega
         by_cases c2:r<mid
         · have c2z:(r:Int)<(mid:Int):=by omega
           have hc:=lH (HI.out a r mid a r mid d1 wc (by omega) c1 c2 (by omega) hd1 rfl rfl rfl S2.out HP.out.1 HP.out.2.1);go_wp2_with (go_at_call 133;refine hc.out.mono ?_;rintro e w1 ⟨rfl,d2,hE,hP,hS⟩)
           have H3:Hid (PermIn a mid d1 d2):=hE;have H4:Hid (SortedIn (ltOf cf) a mid d2):=hP;have S3:Aside (SWK enc kE w0 blk off d2 w1):=hS;clear hE hP hS;go_meet
           case rel=>exact⟨d2,by rw[H3.out.1];exact hd1,S3,H3.out,H4.out⟩
         · have c2z:¬(r:Int)<(mid:Int):=by omega
           go_wp2;go_meet
           case rel=>exact⟨d1,hd1,S2,permIn_refl _ _ _,by have:=HP.out.1;rw[show r=mid from by omega] at this;exact this⟩
       · have c1z:¬(a:Int)<(r:Int):=by omega
         go_wp2;go_meet
         case rel=>exact⟨d1,hd1,S2,permIn_refl _ _ _,by have:=HP.out.2.1;rw[show r=a from by omega] at this;exact this⟩
      case rest =>
       obtain⟨d2,hd2,S3,H3⟩:=hcut;clear S2;by_cases c1:mid<z
       · have c1z:(mid:Int)<(z:Int):=by omega
         by_cases c2:z<b
         · have c2z:(z:Int)<(b:Int):=by omega
           have hc:=lH (HI.out mid z b mid z b d2 wc (by omega) c1 c2 (by omega) hd2 rfl rfl rfl S3.out
            (HP.out.2.2.1.congr fun i g1 g2=>H3.out.1.2.1 i (by omega)) (HP.out.2.2.2.congr fun i g1 g2=>H3.out.1.2.1 i (by omega)))
           go_wp2_with (go_at_call 133;refine hc.out.mono ?_;rintro e w1 ⟨rfl,d3,hE,hP,hS⟩)
           go_end0
           exact⟨rfl,d3,permIn_trans _ _ _ _ _ H1.out.2 (permIn_trans _ _ _ _ _ (permIn_mono _ _ _ _ _ _ (by omega) (by omega) (by omega) H3.out.1) (permIn_mono _ _ _ _ _ _ (by omega) (by omega) (by omega) hE)),ql (by omega) (by omega) H3.out.1 H3.out.2 hE hP HQ.out,hS⟩
         · have c2z:¬(z:Int)<(b:Int):=by omega
           have hs4:SortedIn (ltOf cf) mid b d2:=by
            have h4:=HP.out.2.2.1;rw[show z=b from by omega] at h4;exact h4.congr fun i g1 g2=>H3.out.1.2.1 i (by omega)
           have Ry:Hid _:=hs4;clear hs4;go_wp2;go_end0
           exact⟨rfl,d2,permIn_trans _ _ _ _ _ H1.out.2 (permIn_mono _ _ _ _ _ _ (by omega) (by omega) (by omega) H3.out.1),ql (by omega) (by omega) H3.out.1 H3.out.2 (permIn_refl _ _ _) Ry.out HQ.out,S3.out⟩
       · have c1z:¬(mid:Int)<(z:Int):=by omega
         have hs4:SortedIn (ltOf cf) mid b d2:=by
          have h4:=HP.out.2.2.2;rw[show z=mid from by omega] at h4;exact h4.congr fun i g1 g2=>H3.out.1.2.1 i (by omega)
         have Ry:Hid _:=hs4;clear hs4;go_wp2;go_end0
         exact⟨rfl,d2,permIn_trans _ _ _ _ _ H1.out.2 (permIn_mono _ _ _ _ _ _ (by omega) (by omega) (by omega) H3.out.1),ql (by omega) (by omega) H3.out.1 H3.out.2 (permIn_refl _ _ _) Ry.out HQ.out,S3.out⟩
end Go.Proofs.YtokdjfoalkmhiaaGreat
