/- C. -/
import Derived.Test.YtokdjfoalkmhiaaGreatG1
import Derived.Test.YtokdjfoalkmhiaaGreatG5
import Derived.Test.YtokdjfoalkmhiaaGreatG9
import Derived.Test.YtokdjfoalkmhiaaGreatG11
import Derived.Test.YtokdjfoalkmhiaaGreatG12
import Derived.Test.YtokdjfoalkmhiaaGreatG14
set_option linter.unusedVariables false
set_option maxRecDepth 100000
set_option maxHeartbeats 25600000
namespace Go.Proofs.YtokdjfoalkmhiaaGreat
open Go.RowKit Go.Shelf Go.Lib Go.Sort
theorem jcx {α:Type} [Inhabited α] {P:Program} {kE:Nat} (L:Yo P kE) (enc:α→List Value) (cf:α→α→Int) (hO:SWO (ltOf cf)) (g:Nat) (cb:Array Value) (w0:World) (blk off cap size:Nat) (d0:Array α) (hs:d0.size=size)
 (eg:∀args w,(callFunc g args).run P w=.ok (.enter g args) w) (hcmp:CmpLays P g cb enc kE cf blk off d0.size w0) (R:RowK enc kE w0 blk off d0) (hsz:size<2305843009213693952) :
 ∀n,jd6 P kE enc cf g cb w0 blk off cap size n:=by
 intro n
 induction n with
 | zero=>intro a m b za zm zb d w h;omega
 | succ n ih =>
  intro a m b za zm zb d w hn ham hmb hb hd ea em eb S s1 s2;subst ea em eb;subst hd;by_cases h1:m=a+1
  · subst h1;have:=jdp L enc cf hO g cb w0 blk off cap a b d0 d w eg hcmp R hs S hmb hb hsz s2;rw[show ((a+1:Nat):Int)=(a:Int)+1 from by omega];exact this
  · by_cases h2:b=m+1
    · subst h2;have:=jcv L enc cf hO g cb w0 blk off cap a m d0 d w eg hcmp R hs S (by omega) hb hsz s1;rw[show ((m+1:Nat):Int)=(m:Int)+1 from by omega];exact this
    · exact jeQ L enc cf hO g cb w0 blk off cap a m b d0 d w eg hcmp R hs S (by omega) (by omega) hb hsz s1 s2
       (fun a' m' b' za zm zb d' w' h=>ih a' m' b' za zm zb d' w' (by omega))
theorem ja2 {α:Type} [Inhabited α] {P:Program} {kE:Nat} (L:Yo P kE) (enc:α→List Value) (cf:α→α→Int) (hO:SWO (ltOf cf)) (g:Nat) (cb:Array Value) (w0:World) (blk off cap a m b:Nat) (za zm zb:Int) (d0 d:Array α) (w:World)
 (eg:∀args w,(callFunc g args).run P w=.ok (.enter g args) w) (hcmp:CmpLays P g cb enc kE cf blk off d0.size w0) (R:RowK enc kE w0 blk off d0) (hs:d0.size=d.size) (hsz:d.size<2305843009213693952) (S:SWK enc kE w0 blk off d w)
 (ham:a<m) (hmb:m<b) (hb:b≤d.size) (ea:za=a) (em:zm=m) (eb:zb=b) (s1:SortedIn (ltOf cf) a m d) (s2:SortedIn (ltOf cf) m b d) (N:Nat) (hN:N=d.size) :
 Calls P 133 #[.slice (some ⟨blk,off,none⟩) N cap,.int .i64 za,.int .i64 zm,.int .i64 zb,.func (.func g) #[] cb] w (jah kE enc cf w0 blk off a b d):=by
 subst hN;exact jcx L enc cf hO g cb w0 blk off cap d.size d0 hs eg hcmp R hsz (b-a+1) a m b za zm zb d w (by omega) ham hmb hb rfl ea em eb S s1 s2
def jkK:Go.Shelf.Ren:=⟨fun | 20=>132 | n=>n,fun | 0=>0 | 3=>3 | 4=>4 | 22=>23 | 24=>44 | 25=>76 | n=>n,fun | n=>n⟩
theorem jon:Go.Proofs.SlLaysF0.n20 Tryz.prog jkK:={
 mixed:=by kernel_rfl
 f20:=⟨Tryz.f132.name,by decide,Tryz.func132.trans (congrArg some (by kernel_rfl))⟩
 t0:=Tryz.underlying0
 a0:=Tryz.isAgg0
 z0:=Tryz.sizeOf0
 v0:=Tryz.zeroValue0
 t3:=Tryz.underlying3
 a3:=Tryz.isAgg3
 z3:=Tryz.sizeOf3
 v3:=Tryz.zeroValue3
 t4:=Tryz.underlying4
 a4:=Tryz.isAgg4
 z4:=Tryz.sizeOf4
 v4:=Tryz.zeroValue4
 t22:=Tryz.underlying23
 a22:=Tryz.isAgg23
 z22:=Tryz.sizeOf23
 v22:=Tryz.zeroValue23
 t25:=Tryz.underlying76
 a25:=Tryz.isAgg76
 z25:=Tryz.sizeOf76
 v25:=Tryz.zeroValue76 }
theorem jbR {α:Type} [Inhabited α] (enc:α→List Value) (cf:α→α→Int) (hO:SWO (ltOf cf)) (g:Nat) (cb:Array Value) (w0:World) (blk off cap a b:Nat) (za zb:Int) (d0 d:Array α) (w:World)
 (eg:∀args w,(callFunc g args).run Tryz.prog w=.ok (.enter g args) w) (hcmp:CmpLays Tryz.prog g cb enc 11 cf blk off d0.size w0) (R:RowK enc 11 w0 blk off d0) (hs:d0.size=d.size) (hsz:d.size<2305843009213693952) (S:SWK enc 11 w0 blk off d w)
 (hab:a≤b) (hb:b≤d.size) (ea:za=a) (eb:zb=b) (N:Nat) (hN:N=d.size) :
 Calls Tryz.prog 132 #[.slice (some ⟨blk,off,none⟩) N cap,.int .i64 za,.int .i64 zb,.func (.func g) #[] cb] w (jah 11 enc cf w0 blk off a b d):=by
 subst hN ea eb;have hc:CmpLays Tryz.prog g cb enc 11 cf blk off d.size w:=fun m os dk hk x y=>by
  obtain⟨m',os',e⟩:=S.on R.hblk m dk os hk;rw[e];exact hcmp m' os' dk (hk.trans hs.symm) x y
 have hst:=AnyQ.insertionSortCmpFunc jon 11 Tryz.isAgg44 Tryz.sizeOf44 enc R.hk R.h1 cf g cb blk off cap a b d w eg hc (S.holds R.hblk R.hH hs.symm) (S.lt R.hblk) hab hb (by omega);change Calls Tryz.prog 132 _ _ _ at hst;refine hst.mono ?_;rintro e w' ⟨rfl,n,os,rfl⟩;have h:=insertionSort_holds hO d a b hab hb;exact⟨rfl,_,h.1,h.2,S.on R.hblk n _ os h.1.1⟩
inductive Xf {α:Type} [Inhabited α] (lt:α→α→Bool) (s:Nat) (d:Array α):Nat→Prop
 | zero:Xf lt s d 0
 | snoc {a:Nat}:Xf lt s d a→SortedIn lt a (a+s) d→Xf lt s d (a+s)
inductive Z0 {α:Type} [Inhabited α] (lt:α→α→Bool) (s n:Nat) (d:Array α):Nat→Prop
 | done {a:Nat}:n≤a→Z0 lt s n d a
 | step {a:Nat}:SortedIn lt a (min (a+s) n) d→Z0 lt s n d (a+s)→Z0 lt s n d a
section
variable {α:Type} [Inhabited α] {lt:α→α→Bool} {s n a:Nat} {d d':Array α}
theorem Xf.congr (h:Xf lt s d a):(∀i,i<a→d'[i]! = d[i]!)→Xf lt s d' a:=by
 induction h with
 | zero=>exact fun _=>.zero
 | snoc _ h2 ih=>exact fun g=>.snoc (ih fun i hi=>g i (by omega)) (h2.congr fun i h1 h2=>g i (by omega))
theorem Z0.congr (h:Z0 lt s n d a):(∀i,a≤i→i<n→d'[i]! = d[i]!)→Z0 lt s n d' a:=by
 induction h with
 | done h=>exact fun _=>.done h
 | step h1 _ ih=>exact fun g=>.step (h1.congr fun i h1 h2=>g i h1 (by omega)) (ih fun i hi=>g i (by omega))
theorem Xf.blks (h:Xf lt s d a):a≤n→Z0 lt s n d a→Z0 lt s n d 0:=by
 induction h with
 | zero=>exact fun _ g=>g
 | snoc h1 h2 ih=>exact fun hn g=>ih (by omega) (.step (by rw[Nat.min_eq_left hn];exact h2) g)
theorem Z0.head (h:Z0 lt s n d a) (ha:a<n):SortedIn lt a (min (a+s) n) d∧Z0 lt s n d (a+s):=by
 cases h with
 | done h=>omega
 | step h1 h2=>exact⟨h1,h2⟩
end
def jnA {α:Type} [Inhabited α] (enc:α→List Value) (cf:α→α→Int) (w0:World) (blk:Nat) (d:Array α) (e:Ending) (w':World):Prop :=
 e=.returned (.tuple #[])∧∃d',PermIn 0 d.size d d'∧SortedIn (ltOf cf) 0 d.size d'∧SWK enc 11 w0 blk 0 d' w'
theorem jls {α:Type} [Inhabited α] (enc:α→List Value) (cf:α→α→Int) (hO:SWO (ltOf cf)) (g:Nat) (cb:Array Value) (w:World) (blk cap:Nat) (d:Array α)
 (eg:∀args w,(callFunc g args).run Tryz.prog w=.ok (.enter g args) w) (hcmp:CmpLays Tryz.prog g cb enc 11 cf blk 0 d.size w) (R:RowK enc 11 w blk 0 d) (hsz:d.size<1000000000) :
 Calls Tryz.prog 73 #[.slice (some ⟨blk,0,none⟩) d.size cap,.int .i64 d.size,.func (.func g) #[] cb] w (jnA enc cf w blk d):=by
 have HR:Aside _:=R;have HC:Aside _:=hcmp;have OO:Aside _:=hO;have S0:Aside (SWK enc 11 w blk 0 d w):=SWK.start R.hH;unfold jnA;clear R hcmp hO;go_enter Tryz.func73,Tryz.ntmps73;go_wp2;go_loopg [7,8] d.size (fun g1 va vb wr=>∃(a:Nat) (dk:Array α),va=.int .i64 a∧vb=.int .i64 ((a:Int)+20)∧a≤d.size∧d.size-a≤g1∧dk.size=d.size∧Aside (SWK enc 11 w blk 0 dk wr)∧Hid (PermIn 0 d.size d dk∧Xf (ltOf cf) 20 dk a))
 case atStart=>exact⟨0,d,by go_num,by go_num,by omega,by omega,rfl,S0,permIn_refl _ _ _,.zero⟩
 case round =>
  clear S0;obtain⟨a,dk,rfl,rfl,ha,hg1,hsk,S1,HX⟩:=hrel;by_cases hlt:a+20≤d.size
  · have hz:(a:Int)+20≤(d.size:Int):=by omega
    have r1:IntKind.i64.wrap ((a:Int)+20+20)=(a:Int)+20+20:=by rw[IntKind.wrap_i64];omega
    have hc:=lH (jbR enc cf OO.out g cb w blk 0 cap a (a+20) a ((a:Int)+20) d dk wr eg HC.out HR.out hsk.symm (by omega) S1.out (by omega) (by omega) rfl (by omega) d.size hsk.symm);clear S1;go_wp2_with (go_at_call 132;refine hc.out.mono ?_;rintro e w1 ⟨rfl,d1,hE,hP,hS⟩)
    have H1:Hid (PermIn a (a+20) dk d1):=hE;have H2:Hid (SortedIn (ltOf cf) a (a+20) d1):=hP;have S2:Aside (SWK enc 11 w blk 0 d1 w1):=hS;clear hE hP hS;go_roundg (d.size-(a+20))
    case measure=>omega
    case rel=>exact⟨a+20,d1,by first | rfl | go_num | (congr 1;omega),by first | rfl | go_num | (congr 1;omega),by omega,Nat.le_refl _,by rw[H1.out.1];exact hsk,S2,permIn_trans _ _ _ _ _ HX.out.1 (permIn_mono _ _ _ _ _ _ (by omega) (by omega) (by omega) H1.out),.snoc (HX.out.2.congr fun i hi=>H1.out.2.1 i (by omega)) H2.out⟩
  · have hz:¬(a:Int)+20≤(d.size:Int):=by omega
    have hc:=lH (jbR enc cf OO.out g cb w blk 0 cap a d.size a d.size d dk wr eg HC.out HR.out hsk.symm (by omega) S1.out (by omega) (by omega) rfl rfl d.size hsk.symm);clear S1;go_wp2_with (go_at_call 132;refine hc.out.mono ?_;rintro e w1 ⟨rfl,d1,hE,hP,hS⟩)
    have HB:Hid (PermIn 0 d.size d d1∧Z0 (ltOf cf) 20 d.size d1 0) :=
     ⟨permIn_trans _ _ _ _ _ HX.out.1 (permIn_mono _ _ _ _ _ _ (by omega) (by omega) (by omega) hE),(HX.out.2.congr fun i hi=>hE.2.1 i (by omega)).blks ha (.step (by rw[Nat.min_eq_right (by omega)];exact hP) (.done (by omega)))⟩
    have hz1:d1.size=d.size:=by rw[hE.1];exact hsk
    have S2:Aside (SWK enc 11 w blk 0 d1 w1):=hS;clear hE hP hS hc HX hz hlt ha hg1;go_loopg [6,7,8] d.size (fun g2 vs va vb wr2=>∃(s:Nat) (dk:Array α),vs=.int .i64 s∧0<s∧s≤2*d.size+20∧d.size-s≤g2∧dk.size=d.size∧Aside (SWK enc 11 w blk 0 dk wr2)∧Hid (PermIn 0 d.size d dk∧Z0 (ltOf cf) s d.size dk 0))
    case atStart=>exact⟨20,d1,rfl,by omega,by omega,by omega,hz1,S2,HB⟩
    case round =>
     clear S2 HB hz1;obtain⟨s,dk,rfl,hs0,hs1,hg2,hsk,S3,HX⟩:=hrel;by_cases hls:s<d.size
     · have hlz:(s:Int)<(d.size:Int):=by omega
       have r2:IntKind.i64.wrap (2*(s:Int))=2*(s:Int):=by rw[IntKind.wrap_i64];omega
       have r2':IntKind.i64.wrap ((s:Int)*2)=(s:Int)*2:=by rw[IntKind.wrap_i64];omega
       go_wp2_with fail
       go_loopg [7,8] d.size (fun g3 va vb wr3=>∃(a:Nat) (dj:Array α),va=.int .i64 a∧vb=.int .i64 ((a:Int)+2*(s:Int))∧a≤d.size∧d.size-a≤g3∧dj.size=d.size∧Aside (SWK enc 11 w blk 0 dj wr3)∧Hid (PermIn 0 d.size d dj∧Xf (ltOf cf) (2*s) dj a∧Z0 (ltOf cf) s d.size dj a))
       case atStart=>exact⟨0,dk,by first | rfl | go_num,by first | rfl | go_num | (congr 1;omega),by omega,by omega,hsk,S3,HX.out.1,.zero,HX.out.2⟩
       case round =>
        clear S3 HX hsk;obtain⟨a,dj,rfl,rfl,ha,hg3,hsk,S4,HY⟩:=hrel;have r3:IntKind.i64.wrap ((a:Int)+(s:Int))=(a:Int)+(s:Int):=by rw[IntKind.wrap_i64];omega
        have r4:IntKind.i64.wrap ((a:Int)+2*(s:Int)+2*(s:Int))=(a:Int)+2*(s:Int)+2*(s:Int):=by rw[IntKind.wrap_i64];omega
        by_cases hlt:a+2*s≤d.size
        · have hz:(a:Int)+2*(s:Int)≤(d.size:Int):=by omega
          obtain⟨p1,p2⟩:=HY.out.2.2.head (by omega);obtain⟨p3,p4⟩:=p2.head (by omega);rw[Nat.min_eq_left (by omega)] at p1;rw[Nat.min_eq_left (by omega)] at p3;have hc:=lH (ja2 jkB enc cf OO.out g cb w blk 0 cap a (a+s) (a+2*s) a ((a:Int)+s) ((a:Int)+2*s) d dj wr eg HC.out HR.out hsk.symm (by omega) S4.out (by omega) (by omega) (by omega) rfl (by omega) (by omega) p1 (by rw[show a+2*s=a+s+s from by omega];exact p3) d.size hsk.symm);have H4:Hid (Z0 (ltOf cf) s d.size dj (a+2*s)):=by rw[show a+2*s=a+s+s from by omega];exact p4
          clear S4 p1 p2 p3 p4;go_wp2_with (go_at_call 133;refine hc.out.mono ?_;rintro e w2 ⟨rfl,d2,hE,hP,hS⟩)
          have H1:Hid (PermIn a (a+2*s) dj d2):=hE;have H2:Hid (SortedIn (ltOf cf) a (a+2*s) d2):=hP;have S5:Aside (SWK enc 11 w blk 0 d2 w2):=hS;clear hE hP hS hc;go_roundg (d.size-(a+2*s))
          case measure=>omega
          case rel=>exact⟨a+2*s,d2,by first | rfl | go_num | (congr 1;omega),by first | rfl | go_num | (congr 1;omega),by omega,Nat.le_refl _,by rw[H1.out.1];exact hsk,S5,permIn_trans _ _ _ _ _ HY.out.1 (permIn_mono _ _ _ _ _ _ (by omega) (by omega) (by omega) H1.out),.snoc (HY.out.2.1.congr fun i hi=>H1.out.2.1 i (by omega)) H2.out,H4.out.congr fun i h1 h2=>H1.out.2.1 i (by omega)⟩
        · have hz:¬(a:Int)+2*(s:Int)≤(d.size:Int):=by omega
          by_cases hm:a+s<d.size
          · have hmz:(a:Int)+(s:Int)<(d.size:Int):=by omega
            obtain⟨p1,p2⟩:=HY.out.2.2.head (by omega);obtain⟨p3,p4⟩:=p2.head hm;rw[Nat.min_eq_left (by omega)] at p1;rw[Nat.min_eq_right (by omega)] at p3;have hc:=lH (ja2 jkB enc cf OO.out g cb w blk 0 cap a (a+s) d.size a ((a:Int)+s) d.size d dj wr eg HC.out HR.out hsk.symm (by omega) S4.out (by omega) (by omega) (by omega) rfl (by omega) rfl p1 p3 d.size hsk.symm);clear S4 p1 p2 p3 p4;go_wp2_with (go_at_call 133;refine hc.out.mono ?_;rintro e w2 ⟨rfl,d2,hE,hP,hS⟩)
            have HB:Hid (PermIn 0 d.size d d2∧Z0 (ltOf cf) (2*s) d.size d2 0) :=
             ⟨permIn_trans _ _ _ _ _ HY.out.1 (permIn_mono _ _ _ _ _ _ (by omega) (by omega) (by omega) hE),(HY.out.2.1.congr fun i hi=>hE.2.1 i (by omega)).blks ha (.step (by rw[Nat.min_eq_right (by omega)];exact hP) (.done (by omega)))⟩
            have hz1:d2.size=d.size:=by rw[hE.1];exact hsk
            have S5:Aside (SWK enc 11 w blk 0 d2 w2):=hS;clear hE hP hS hc HY;go_roundg (d.size-2*s)
            case measure=>omega
            case rel=>exact⟨2*s,d2,by first | rfl | go_num | (congr 1;omega),by omega,by omega,Nat.le_refl _,hz1,S5,HB⟩
          · have hmz:¬(a:Int)+(s:Int)<(d.size:Int):=by omega
            have HB:Hid (PermIn 0 d.size d dj∧Z0 (ltOf cf) (2*s) d.size dj 0) :=
             ⟨HY.out.1,HY.out.2.1.blks ha (by
              rcases Nat.lt_or_ge a d.size with q | q
              · obtain⟨p1,p2⟩:=HY.out.2.2.head q;rw[Nat.min_eq_right (by omega)] at p1;exact .step (by rw[Nat.min_eq_right (by omega)];exact p1) (.done (by omega))
              · exact .done q)⟩
            clear HY;go_wp2_with fail
            go_roundg (d.size-2*s)
            case measure=>omega
            case rel=>exact⟨2*s,dj,by first | rfl | go_num | (congr 1;omega),by omega,by omega,Nat.le_refl _,hsk,S4,HB⟩
     · have hlz:¬(s:Int)<(d.size:Int):=by omega
       have HF:Hid (SortedIn (ltOf cf) 0 d.size dk):=by
        rcases Nat.eq_zero_or_pos d.size with q | q
        · intro i j h1 h2 h3;omega
        · obtain⟨p1,-⟩:=HX.out.2.head q;rw[Nat.min_eq_right (by omega)] at p1;exact p1
       go_wp2_with fail
       go_end0
       exact⟨rfl,dk,HX.out.1,HF.out,S3.out⟩
end Go.Proofs.YtokdjfoalkmhiaaGreat
namespace Go.Proofs.YtokdjfoalkmhiaaGreat
open Go.RowKit Go.Shelf Go.Lib Go.Sort
instance:Inhabited Pd:=⟨Pd.zero⟩
theorem jjC (n m:Pd) (v1 v2 v3 v4 u1 u2 u3 u4:Value) (w:World) :
 Calls Tryz.prog 29 #[jx n v1 v2 v3 v4,jx m u1 u2 u3 u4] w fun e w'=>e=.returned (.int .i64 (Xg n m))∧Grw w w':=by
 obtain⟨W0,hW0⟩:=eX ((w.alloc (.cells #[.string n.name,.string n.owner,.int .i64 n.prio,v1,v2,v3,v4,.string n.key,.int .i64 n.most,.string n.node,.bool n.hold] 44)).alloc (.cells #[.string m.name,.string m.owner,.int .i64 m.prio,u1,u2,u3,u4,.string m.key,.int .i64 m.most,.string m.node,.bool m.hold] 44))
 have hk0:Kept w W0:=by rw[←hW0];exact jn _ _ _
 have HC:=lH (show ∀W,Kept W0 W→W.cell? ⟨w.heap.size,0,none⟩=some (.string n.name)∧W.cell? ⟨w.heap.size,2,none⟩=some (.int .i64 n.prio)∧W.cell? ⟨w.heap.size+1,0,none⟩=some (.string m.name)∧W.cell? ⟨w.heap.size+1,2,none⟩=some (.int .i64 m.prio) from fun W k=>by
  have c:=jc w (.string n.name) [.string n.owner,.int .i64 n.prio,v1,v2,v3,v4,.string n.key,.int .i64 n.most,.string n.node,.bool n.hold] 44 W (by rw[←hW0] at k;exact(ja _ _).trans k);have d:=jc (w.alloc (.cells #[.string n.name,.string n.owner,.int .i64 n.prio,v1,v2,v3,v4,.string n.key,.int .i64 n.most,.string n.node,.bool n.hold] 44)) (.string m.name) [.string m.owner,.int .i64 m.prio,u1,u2,u3,u4,.string m.key,.int .i64 m.most,.string m.node,.bool m.hold] 44 W (by rw[hW0];exact k);rw[World.size_alloc] at d;exact⟨c.at_ 0 _ rfl,c.at_ 2 _ rfl,d.at_ 0 _ rfl,d.at_ 2 _ rfl⟩)
 have EI:=lH (fun W=>jgr m.prio n.prio W);have ES:=lH (fun W=>jfW n.name m.name W);obtain⟨x,hx⟩:=eX (Zs m.prio n.prio)
 obtain⟨y,hy⟩:=eX (YC n.name m.name)
 rw[hx] at EI;rw[hy] at ES;have HV:=lH (show Xg n m=orL [x,y] by
  unfold Xg;rw[hx,hy];show _=if x≠0 then x else if y≠0 then y else 0
  by_cases z:y=0
  · subst z;simp
  · rw[if_pos z])
 have Ue:=lH (show Calls Tryz.prog 53 #[.slice (some ⟨W0.heap.size,0,none⟩) 2 2] (W0.drew.alloc (.cells #[.int .i64 x,.int .i64 y] 3)) _ from jhU W0.heap.size 2 [x,y] _ rfl (by decide) (jmm W0.drew x y 3));have Va:=lH (show Grw w W0 by rw[←hW0];exact(Grw.alloc _ _).trans (Grw.alloc _ _));clear hx hy hk0;obtain⟨c0,c1,c2,c3⟩:=HC.out _ (Kept.refl _);unfold jx;go_enter Tryz.func29,Tryz.ntmps29;go_wp2;try rw[hW0]
 clear hW0
 go_region_held3 (fun W=>W.cell? ⟨w.heap.size,0,none⟩=some (.string n.name)∧W.cell? ⟨w.heap.size,2,none⟩=some (.int .i64 n.prio)∧W.cell? ⟨w.heap.size+1,0,none⟩=some (.string m.name)∧W.cell? ⟨w.heap.size+1,2,none⟩=some (.int .i64 m.prio))
  (first | exact HC.out _ (Kept.drew _) | exact HC.out _ ((Kept.drew _).trans (ja _ _)))
  (first | (go_at_call 54;refine(EI.out _).mono ?_;rintro e1 w1 ⟨rfl,rfl⟩)
         | (go_at_call 74;refine(ES.out _).mono ?_;rintro e2 w2 ⟨rfl,rfl⟩)
         | (go_at_call 53;refine Ue.out.mono ?_;rintro e3 w3 ⟨rfl,rfl⟩))
 go_wp2;go_ret;exact⟨jb HV.out.symm,Va.out.trans ((Grw.drewN _ 1).trans (Grw.alloc _ _))⟩
theorem jhj:∀args w,(callFunc 29 args).run Tryz.prog w=.ok (.enter 29 args) w:=enters_of Tryz.func29 (by kernel_rfl) rfl
def cfP (x y:PX):Int:=Xg x.1 y.1
theorem jky (blk size:Nat) (w:World):CmpLays Tryz.prog 29 #[] PodLay0.cs 11 cfP blk 0 size w:=fun m os dk hs x y =>
 jjC x.1 y.1 (slV x.2.1) (slV x.2.2.1) (slV x.2.2.2.1) (slV x.2.2.2.2) (slV y.2.1) (slV y.2.2.1) (slV y.2.2.2.1) (slV y.2.2.2.2) _
theorem jmA:SWO (ltOf cfP) where
 irrefl x:=jaA x.1
 trans x y z h1 h2:=XT (x:=x.1) (y:=y.1) (z:=z.1) h1 h2
 ntrans x y z h1 h2:=jaB (x:=x.1) (y:=y.1) (z:=z.1) h1 h2
theorem jf2 (zs:List PX) (t:Nat) (h:t<zs.length*11):∃u,(je PodLay0 zs)[t]?=some u∧(flatK PodLay0.cs 11 zs.toArray)[t]! = u:=by
 have h3:t / 11<zs.length:=by omega
 have h4:t % 11<(PodLay0.cs zs[t / 11]).length:=by show t % 11<11;omega
 have e2:=Yr PodLay0 zs (t / 11) zs[t / 11] (t % 11) ((PodLay0.cs zs[t / 11])[t % 11]'h4) (List.getElem?_eq_getElem h3) (List.getElem?_eq_getElem h4);rw[show t / 11*PodLay0.m+t % 11=t from by show t / 11*11+t % 11=t;omega] at e2;refine⟨_,e2,?_⟩;rw[get_flatK _ _ _ _ (by simpa using h),getElem!_pos zs.toArray (t / 11) (by simpa using h3)];simp only[List.getElem_toArray];rw[getElem!_pos (PodLay0.cs zs[t / 11]) (t % 11) h4]
theorem jk0 {W:World} {T:TypeId} {base g n cap:Nat} {zs:List PX} (h:Own PodLay0 T W base (.slice (some ⟨g,0,none⟩) n cap) zs):HoldsK PodLay0.cs 11 W g 0 zs.toArray:=fun t htl=>by
 have htl2:t<zs.length*11:=by simpa using htl
 obtain⟨u,h1,h2⟩:=jf2 zs t htl2;have hn:n=zs.length:=by obtain⟨a,c,e,_⟩:=h.at_;cases e;rfl
 refine⟨?_,h.frozen_at _⟩;rw[h2,Nat.zero_add];subst hn;rw[h.1.cellAt t htl2];exact h1
theorem jjh {w:World} {B g n cap m:Nat} {lx ly:List PX} {os:Array Obj} (ho:Own PodLay0 44 w B (.slice (some ⟨g,0,none⟩) n cap) lx) (hl:ly.length=lx.length):Own PodLay0 44 (sortWorldK PodLay0.cs 11 w g 0 m ly.toArray os) B (.slice (some ⟨g,0,none⟩) n cap) ly:=by
 have hn9:n=lx.length:=by obtain⟨a,c,e,_⟩:=ho.at_;cases e;rfl
 subst hn9;obtain⟨cur,hB,hg,hn,hm,hs,ht,hlen⟩:=Jw ho.1;have hlt:g<w.heap.size:=by
  rcases Nat.lt_or_ge g w.heap.size with h | h
  · exact h
  · rw[Array.getElem?_eq_none h] at hg;cases hg
 have h1:(sortWorldK PodLay0.cs 11 w g 0 m ly.toArray os).heap[g]?=some (.cells (putCells id 0 (flatK PodLay0.cs 11 ly.toArray) cur) 44 (0,0)):=by
  unfold sortWorldK putRowK putRow;have e0:((mapBlock (Sort.ahead w m) g (putCells id 0 (flatK PodLay0.cs 11 ly.toArray))).heap)[g]?=some (.cells (putCells id 0 (flatK PodLay0.cs 11 ly.toArray) cur) 44 (0,0)):=by
   unfold mapBlock;have:(Sort.ahead w m).heap[g]?=some (.cells cur 44 (0,0)):=hg;simp only[Array.getElem?_modify,if_true,this,Option.map_some,onCells]
  unfold grow;rw[Array.getElem?_append_left (by
   rcases Nat.lt_or_ge g (mapBlock (Sort.ahead w m) g (putCells id 0 (flatK PodLay0.cs 11 ly.toArray))).heap.size with h | h
   · exact h
   · rw[Array.getElem?_eq_none h] at e0;cases e0)]
  exact e0
 have hl2:(je PodLay0 ly).length=lx.length*11:=by rw[jZ,hl];rfl
 have hown:=qx (s:=11) (n:=lx.length) (cap:=cap) (xs:=je PodLay0 ly) hB h1 hn hm (by simp only[putCells,Array.size_mapIdx];exact hs) hl2 (fun j hj=>by
  obtain⟨u,g1,g2⟩:=jf2 ly j (by omega);have hj2:j<cur.size:=by rw[hs];have:=Nat.mul_le_mul_right 11 hn;show j<cap*11;omega
  rw[g1];simp only[putCells,Array.getElem?_mapIdx,Array.getElem?_eq_getElem hj2,Option.map_some];rw[if_pos ⟨Nat.zero_le _,by rw[size_flatK];simp;omega⟩,Nat.sub_zero,g2];rfl)
 refine⟨?_,fun _ _=>trivial⟩;rw[hl];exact hown
theorem jg1 (w:World) (g m:Nat) (ly:Array PX) (os:Array Obj):jg (fun b=>b=g) w (sortWorldK PodLay0.cs 11 w g 0 m ly os):=by
 unfold sortWorldK putRowK;have h1:jg (fun b=>b=g) w (putRow id (Sort.ahead w m) g 0 (flatK PodLay0.cs 11 ly)):=by
  refine⟨rfl,rfl,rfl,?_,fun k hk hn=>?_⟩
  · unfold putRow mapBlock;simp[Sort.ahead]
  · unfold putRow mapBlock;simp only[Array.getElem?_modify];rw[if_neg (fun e=>hn e.symm)];rfl
 exact h1.trans (jg.of (Go.Lib.below_grow _ _ (Nat.le_refl _) 0 os))
def jma (B g n cap:Nat) (lx:List PX) (w:World) (e:Ending) (w':World):Prop:=e=.returned (.tuple #[])∧∃ly:List PX,ly.Perm lx∧(ly.Pairwise fun a b=>zy b.1 a.1=false)∧Own PodLay0 44 w' B (.slice (some ⟨g,0,none⟩) n cap) ly∧jg (fun b=>b=g) w w'
theorem jfl (B g n cap:Nat) (lx:List PX) (w:World) (ho:Own PodLay0 44 w B (.slice (some ⟨g,0,none⟩) n cap) lx) (hn:n<1000000000) :
 Calls Tryz.prog 73 #[.slice (some ⟨g,0,none⟩) n cap,.int .i64 n,.func (.func 29) #[] #[]] w (jma B g n cap lx w):=by
 have hn9:n=lx.length:=by obtain⟨a,c,e,_⟩:=ho.at_;cases e;rfl
 subst hn9;have h:=jls PodLay0.cs cfP jmA 29 #[] w g cap lx.toArray jhj (jky _ _ _) ⟨PodLay0.len,PodLay0.one,jk0 ho,(J5 ho g rfl).2⟩ (by simpa using hn);simp only[List.size_toArray] at h;refine h.mono ?_;rintro e w' ⟨rfl,d',hp,hs,m,os,rfl⟩;have hsz:d'.size=lx.length:=by simpa using hp.1
 have hperm:d'.toList.Perm lx:=by
  have:=hp.2.2;simp only[Array.toList_extract,List.extract_eq_take_drop,List.drop_zero,Nat.sub_zero] at this;rw[List.take_of_length_le (by simp;omega),List.take_of_length_le (by simp)] at this;exact this
 refine⟨rfl,d'.toList,hperm,?_,?_,?_⟩
 · rw[List.pairwise_iff_getElem];intro i j hi hj hij;have h2:=hs i j (Nat.zero_le _) hij (by have q:=hj;simp only[Array.length_toList] at q;simp only[List.size_toArray];omega);rw[getElem!_pos d' j (by simpa using hj),getElem!_pos d' i (by simpa using hi)] at h2;simp only[Array.getElem_toList];exact h2
 · have:=jjh (m:=m) (os:=os) (ly:=d'.toList) ho (by simpa using hsz);simpa using this
 · have:=jg1 w g m d' os;simpa using this
theorem jiL (B g n cap:Nat) (lx:List PX) (w:World) (ho:Own PodLay0 44 w B (.slice (some ⟨g,0,none⟩) n cap) lx) (hn:n<1000000000) :
 Calls Tryz.prog 28 #[.slice (some ⟨g,0,none⟩) n cap,.func (.func 29) #[] #[]] w (jma B g n cap lx w):=by
 have HC:=lH (jfl B g n cap lx w ho hn);clear ho hn;unfold jma at HC ⊢;go_enter Tryz.func28,Tryz.ntmps28;go_wp2_with fail
 refine HC.out.mono ?_;rintro e w1 ⟨rfl,d',hp⟩;have HP:=lH hp;clear hp;go_wp2_with fail
 go_end0
 exact⟨rfl,d',HP.out⟩
theorem jeM (w:World):Calls Tryz.prog 73 #[.slice none 0 0,.int .i64 0,.func (.func 29) #[] #[]] w
 fun e w'=>e=.returned (.tuple #[])∧w=w':=by
 have hi:Calls Tryz.prog 132 #[.slice none 0 0,.int .i64 0,.int .i64 0,.func (.func 29) #[] #[]] w fun e w'=>e=.returned (.tuple #[])∧w=w':=by
  go_enter Tryz.func132,Tryz.ntmps132;go_wp2;refine wp_loop_rounds 1 ?_;rw[rounds_succ];go_wp2;go_end0
  exact⟨rfl,rfl⟩
 go_enter Tryz.func73,Tryz.ntmps73;go_wp2;refine wp_loop_rounds 1 ?_;rw[rounds_succ];go_wp2_with fail
 refine hi.mono ?_;rintro e w1 ⟨rfl,rfl⟩;go_wp2_with fail
 refine wp_loop_rounds 1 ?_;rw[rounds_succ];go_wp2;go_end0
 exact⟨rfl,rfl⟩
theorem jg6 (w:World):Calls Tryz.prog 28 #[.slice none 0 0,.func (.func 29) #[] #[]] w
 fun e w'=>e=.returned (.tuple #[])∧w=w':=by
 have HC:=lH (jeM w);go_enter Tryz.func28,Tryz.ntmps28;go_wp2_with fail
 refine HC.out.mono ?_;rintro e w1 ⟨rfl,rfl⟩;go_wp2_with fail
 go_end0
 exact⟨rfl,rfl⟩
open Go.RowKit
theorem jbM (a b d:Option Addr) (len cap m c n e:Nat) (nl:List Nod) (pl:List Pd) (bl:List Bd) (w:World) (hn:jo w a len nl) (hp:jy w b m pl) (hb:j9 w d n bl) (h1:len≤cap) (h2:cap≤maxLen) (h3:m≤c) (h4:c≤maxLen) (h5:n≤e) (h6:e≤maxLen) (hl:jE ⟨nl,pl,bl⟩) :
 Calls Tryz.prog 26 #[.agg #[.slice a len cap,.slice b m c,.slice d n e]] w fun e w'=>∃a1 n1 c1 a2 n2 c2 a3 n3 c3,e=.returned (.agg #[.slice a1 n1 c1,.slice a2 n2 c2,.slice a3 n3 c3])∧jO (fun b=>b<w.heap.size) w.heap.size w' (.slice a1 n1 c1) (.slice a2 n2 c2) (.slice a3 n3 c3) ⟨nl,pl,bl⟩∧Kept w w':=by
 obtain⟨Z,hZ⟩:=eX ((w.alloc (.cells #[.slice a len cap,.slice b m c,.slice d n e] 26)).alloc (.cells #[.slice none 0 0,.slice none 0 0,.slice none 0 0] 26))
 have hkz:Kept w Z:=by rw[←hZ];exact jn _ _ _
 have hzs:Z.heap.size=w.heap.size+2:=by rw[←hZ];simp
 have cc:=jc w (.slice a len cap) [.slice b m c,.slice d n e] 26 Z (by rw[←hZ];exact ja _ _);have HQ:=lH (show jf (w.heap.size+1) [.slice none 0 0,.slice none 0 0,.slice none 0 0] Z by
  have dd:=jc (w.alloc (.cells #[.slice a len cap,.slice b m c,.slice d n e] 26)) (.slice none 0 0) [.slice none 0 0,.slice none 0 0] 26 Z (by rw[hZ];exact Kept.refl _);rw[World.size_alloc] at dd;exact dd)
 have Vc:=lH hkz;have Vf:=lH hzs;by_cases hm0:m=0
 · subst hm0;have hpl:pl=[]:=List.length_eq_zero_iff.1 hp.1;subst hpl;have h0:(((0:Nat):Int)==0)=true:=rfl;have HC:=lH (jad a b d len cap 0 c n e nl [] bl ⟨#[]⟩ ⟨#[]⟩ Z (by decide) (hn.kept hkz) (hp.kept hkz) (hb.kept hkz) h1 h2 h3 h4 h5 h6 hl);obtain⟨o0,o1,o2⟩:=cc.at3;clear hn hp hb h1 h2 h3 h4 h5 h6 hl hkz cc hzs;go_enter Tryz.func26,Tryz.ntmps26;go_wp2_with fail
   try rw[hZ]
   go_wp2_with fail
   try rw[hZ]
   clear hZ o0 o1 o2;refine HC.out.mono ?_;rintro e9 w1 ⟨a1,n1,c1,a2,n2,c2,a3,n3,c3,rfl,ho,k⟩;obtain⟨HO,K,HQ⟩:=lH3 ho k (HQ.out.kept k);clear ho k HC;obtain⟨z0,z1,z2⟩:=HQ.out.at3;have f0:=HQ.out.free 0;have f1:=HQ.out.free 1;have f2:=HQ.out.free 2;have P:=lH (j5 (vs:=[.slice a1 n1 c1,.slice a2 n2 c2,.slice a3 n3 c3]) HQ.out rfl);go_wp2;obtain⟨WE,hWE⟩:=eX (w1.setCells (w.heap.size+1) 0 [.slice a1 n1 c1,.slice a2 n2 c2,.slice a3 n3 c3])
   have hWE2:(((w1.setCell ⟨(w.heap.size+1),0,none⟩ (.slice a1 n1 c1)).setCell ⟨(w.heap.size+1),1,none⟩ (.slice a2 n2 c2)).setCell ⟨(w.heap.size+1),2,none⟩ (.slice a3 n3 c3))=WE:=hWE;rw[hWE] at P;try rw[hWE2]
   have GE:=lH (show jg (fun b=>b<Z.heap.size) w1 WE by rw[←hWE];exact jg.cells (S:=fun b=>b<Z.heap.size) _ (by have:=Vf.out;omega) _ _ _);clear hWE hWE2;obtain⟨PC,hsz,hbl,hkp⟩:=P.out;refine bodyPost_ret (by simp[results,Tryz.results26,go_sem,PC.at_ 0 _ rfl,PC.at_ 1 _ rfl,PC.at_ 2 _ rfl];try rfl) rfl ?_;have Vr:=(HO.out.step GE.out).less (B':=w.heap.size) (S':=fun b=>b<w.heap.size) Vc.out.size (fun b hb=>Nat.lt_of_lt_of_le hb Vc.out.size);exact⟨_,_,_,_,_,_,_,_,_,rfl,Vr,hkp _ _ (by omega) (Vc.out.trans K.out)⟩
 · have h0:((m:Int)==0)=false:=by simp;omega
   obtain⟨bb,bo,rfl⟩:=hp.form.resolve_left (by omega);obtain⟨x,xa1,xm1,xc1,xa2,xm2,xc2,xa3,xm3,xc3,xa4,xm4,xc4,hx,hd,hbl9,p0,p1,p2,p3,p4,p5,p6,p7,p8,p9,p10,hat⟩:=hp.at_ (show 0<m by omega);have hpx:pl=x::pl.drop 1:=hd;have hmv:zZ ⟨nl,pl,bl⟩ x.name x.node=⟨nl,pl,bl⟩:=by
    unfold zZ;rw[hpx];show (⟨nl,Jn x.name x.node (x::pl.drop 1),bl⟩:Clu)=_;rw[Jn,if_pos (zh _)]
   simp only[Nat.zero_mul,Nat.add_zero] at p0 p9;have HF:=lH (show ∀W,jg (fun b=>b=w.heap.size+1) Z W→W.cell? ⟨w.heap.size,0,none⟩=some (.slice a len cap)∧W.cell? ⟨w.heap.size,1,none⟩=some (.slice (some ⟨bb,bo,none⟩) m c)∧W.cell? ⟨w.heap.size,2,none⟩=some (.slice d n e)∧W.cell? ⟨bb,bo,none⟩=some (.string x.name)∧W.cell? ⟨bb,bo+9,none⟩=some (.string x.node) from fun W g=>by
    have h1:=cc.block (g.block w.heap.size (by omega) (by omega));have q0:=(World.cell?_of_block (a:=⟨bb,bo,none⟩) (g.block bb (by omega) (by omega))).trans (cell_later hkz p0);have q9:=(World.cell?_of_block (a:=⟨bb,bo+9,none⟩) (g.block bb (by omega) (by omega))).trans (cell_later hkz p9);exact⟨h1.at_ 0 _ rfl,h1.at_ 1 _ rfl,h1.at_ 2 _ rfl,q0,q9⟩)
   have HC:=lH (show ∀W,Kept Z W→Calls Tryz.prog 13 #[.agg #[.slice a len cap,.slice (some ⟨bb,bo,none⟩) m c,.slice d n e],.string x.name,.string x.node] W fun e w'=>∃a1 n1 c1 a2 n2 c2 a3 n3 c3,e=.returned (.agg #[.slice a1 n1 c1,.slice a2 n2 c2,.slice a3 n3 c3])∧jO (fun b=>b<W.heap.size) W.heap.size w' (.slice a1 n1 c1) (.slice a2 n2 c2) (.slice a3 n3 c3) ⟨nl,pl,bl⟩∧Kept W w' from fun W k=>by
    have hc:=jad a (some ⟨bb,bo,none⟩) d len cap m c n e nl pl bl x.name x.node W hat.node (hn.kept (hkz.trans k)) (hp.kept (hkz.trans k)) (hb.kept (hkz.trans k)) h1 h2 h3 h4 h5 h6 hl;rw[hmv] at hc;exact hc)
   have hmz:(0:Int)<(m:Int):=by omega
   have hmn:0<m:=by omega
   obtain⟨xn,hxn⟩:=eX (x.name)
   obtain⟨xd,hxd⟩:=eX (x.node)
   rw[hxn,hxd] at HF HC;obtain⟨o0,o1,o2,o3,o4⟩:=HF.out Z (jg.of (Kept.refl _));clear hn hp hb h1 h2 h3 h4 h5 h6 hl hkz cc hat hd hbl9 hx hpx hmv p0 p1 p2 p3 p4 p5 p6 p7 p8 p9 p10 hm0 hzs hxn hxd;go_enter Tryz.func26,Tryz.ntmps26;go_upto_region 3 with fail
   try rw[hZ]
   clear hZ o0 o1 o2 o3 o4;have J:=lH (Kept.drew Z);refine wp_region_held_drew (S:=fun W=>W.cell? ⟨w.heap.size,0,none⟩=some (.slice a len cap)∧W.cell? ⟨w.heap.size,1,none⟩=some (.slice (some ⟨bb,bo,none⟩) m c)∧W.cell? ⟨w.heap.size,2,none⟩=some (.slice d n e)∧W.cell? ⟨bb,bo,none⟩=some (.string xn)∧W.cell? ⟨bb,bo+9,none⟩=some (.string xd)) (by kernel_rfl) (HF.out _ (jg.of J.out)) (fun hHeld=>?_);obtain⟨wd,hwd⟩:=eX (Z.drew)
   rw[hwd] at J hHeld;try rw[hwd]
   clear hwd;refine tkI 0 ?_;refine tkI 1 ?_;refine tkI 2 ?_;refine tkI 3 ?_;refine tkI 4 ?_;refine tkI 5 ?_;refine tkI 6 ?_;refine tkI 7 ?_;refine tkI 8 ?_;refine tkI 9 ?_;refine tkI 10 ?_;try simp only[nP]
   refine rd1 11 fun K9 Ky=>?_;go_simp;refine(HC.out _ J.out).mono ?_;rintro e9 w1 ⟨a1,n1,c1,a2,n2,c2,a3,n3,c3,rfl,ho,k⟩;have K:=lH (J.out.trans k);have HO:=lH (ho.less (B':=Z.heap.size) (S':=fun b=>b<Z.heap.size) J.out.size (fun b hb=>Nat.lt_of_lt_of_le hb J.out.size));clear ho k HC;refine Ky.out _ _ (HF.out _ (jg.of K.out)) (fun _=>?_);clear Ky K9;try simp only[nP]
   have HQ:=lH (HQ.out.kept K.out);obtain⟨z0,z1,z2⟩:=HQ.out.at3;have f0:=HQ.out.free 0;have f1:=HQ.out.free 1;have f2:=HQ.out.free 2;have P:=lH (j5 (vs:=[.slice a1 n1 c1,.slice a2 n2 c2,.slice a3 n3 c3]) HQ.out rfl);refine rd1 12 fun K9 Ky=>?_;go_simp;obtain⟨WE,hWE⟩:=eX (w1.setCells (w.heap.size+1) 0 [.slice a1 n1 c1,.slice a2 n2 c2,.slice a3 n3 c3])
   have hWE2:(((w1.setCell ⟨(w.heap.size+1),0,none⟩ (.slice a1 n1 c1)).setCell ⟨(w.heap.size+1),1,none⟩ (.slice a2 n2 c2)).setCell ⟨(w.heap.size+1),2,none⟩ (.slice a3 n3 c3))=WE:=hWE;rw[hWE] at P;try rw[hWE2]
   have GE:=lH (show jg (fun b=>b<Z.heap.size) w1 WE by rw[←hWE];exact jg.cells (S:=fun b=>b<Z.heap.size) _ (by have:=Vf.out;omega) _ _ _);have GQ:=lH (show jg (fun b=>b=w.heap.size+1) w1 WE by rw[←hWE];exact jg.cells (S:=fun b=>b=w.heap.size+1) _ rfl _ _ _);clear hWE hWE2;obtain⟨PC,hsz,hbl,hkp⟩:=P.out;refine Ky.out _ _ (HF.out _ ((jg.of K.out).trans (show jg (fun b=>b=w.heap.size+1) w1 WE from GQ.out))) (fun _=>?_);clear Ky K9;try simp only[nP]
   refine wpAnyH_done (by kernel_rfl) ?_ _;go_wp2;refine bodyPost_ret (by simp[results,Tryz.results26,go_sem,PC.at_ 0 _ rfl,PC.at_ 1 _ rfl,PC.at_ 2 _ rfl];try rfl) rfl ?_;have Vr:=(HO.out.step GE.out).less (B':=w.heap.size) (S':=fun b=>b<w.heap.size) Vc.out.size (fun b hb=>Nat.lt_of_lt_of_le hb Vc.out.size);exact⟨_,_,_,_,_,_,_,_,_,rfl,Vr,hkp _ _ (by omega) (Vc.out.trans K.out)⟩
def jnO (pl:List Pd) (w:World) (e:Ending) (w':World):Prop:=∃v lx,e=.returned v∧Xu pl (lx.map fun z:PX=>z.1)∧Zz PodLay0 44 At4 w.heap.size w' v lx∧Kept w w'
theorem jjU {lx ly:List PX} (h:ly.Perm (lx.filter fun z=>jS z.1)) (g:ly.Pairwise fun a b=>zy b.1 a.1=false):Xu (lx.map fun z=>z.1) (ly.map fun z=>z.1):=by
 refine⟨?_,?_⟩
 · have h2:=h.map fun z=>z.1;rw[List.filter_map];exact h2
 · rw[List.pairwise_map];exact g
theorem jg4 (a b d:Option Addr) (len cap m c n e:Nat) (nl:List Nod) (pl:List Pd) (bl:List Bd) (w:World) (hn:jo w a len nl) (hp:jy w b m pl) (hb:j9 w d n bl) (h1:len≤cap) (h2:cap≤maxLen) (h3:m≤c) (h4:c≤maxLen) (h5:n≤e) (h6:e≤maxLen) (hl:jE ⟨nl,pl,bl⟩) :
 Calls Tryz.prog 8 #[.agg #[.slice a len cap,.slice b m c,.slice d n e]] w (jnO pl w):=by
 obtain⟨Z,hZ⟩:=eX (w.alloc (.cells #[.slice a len cap,.slice b m c,.slice d n e] 26))
 have hkz:Kept w Z:=by rw[←hZ];exact ja _ _
 have cc:=jc w (.slice a len cap) [.slice b m c,.slice d n e] 26 Z (by rw[hZ];exact Kept.refl _);obtain⟨o0,o1,o2⟩:=cc.at3;obtain⟨Vc,HC,HM⟩:=lH3 hkz (jbM a b d len cap m c n e nl pl bl Z (hn.kept hkz) (hp.kept hkz) (hb.kept hkz) h1 h2 h3 h4 h5 h6 hl) (show pl.length≤100000 from hl.podsN);clear hn hp hb h1 h2 h3 h4 h5 h6 hl hkz cc;unfold jnO;go_enter Tryz.func8,Tryz.ntmps8;go_wp2_with fail
 try rw[hZ]
 go_wp2_with fail
 try rw[hZ]
 clear hZ o0 o1 o2;refine HC.out.mono ?_;rintro e w1 ⟨a1,n1,c1,a2,n2,c2,a3,n3,c3,rfl,ho1,k⟩;have ho:=ho1.less (B':=w.heap.size) (S':=fun b=>b<w.heap.size) Vc.out.size (fun b e=>Nat.lt_of_lt_of_le e Vc.out.size);have K:=lH (Vc.out.trans k);obtain⟨lx,hlx,hox,hdx⟩:=ho.pods;have hlen:lx.length≤100000:=by have:=congrArg List.length hlx;rw[List.length_map] at this;rw[this];exact HM.out
 have NO:=lH hlx;have NP:=lH hdx;have hlx2:(lx.map fun z=>z.1)=pl:=hlx;have nfl:∀(x y z:Value) (W:World),(Instr.field 26 (.agg #[x,y,z]) 1).run Tryz.prog W=.ok y W:=fun _ _ _ _=>by kernel_rfl
 clear k ho ho1 hlx HC;rcases hox.1.2 with ⟨e0,hz⟩ | ⟨g,cp,cur,e0,hbg,hg,hr⟩
 · cases e0
   have hlz:lx=[]:=List.length_eq_zero_iff.1 hz;subst hlz;have hpl:pl=[]:=hlx2.symm;subst hpl;clear hox hdx hlen hz hlx2;go_wp2_with fail
   refine(jjs _).mono ?_;rintro e w2 ⟨rfl,k2⟩;have K:=lH (K.out.trans k2);clear k2;go_wp2_with fail
   refine(jg6 _).mono ?_;rintro e w3 ⟨rfl,rfl⟩;go_wp2;go_ret;exact⟨_,[],rfl,⟨List.Perm.refl _,List.Pairwise.nil⟩,⟨⟨_,_,_,rfl⟩,⟨Own.nil _ _ _,fun z h=>by cases h⟩,fun z h=>by cases h⟩,K.out⟩
 · obtain⟨ea,en,ec⟩:a2=some ⟨g,0,none⟩∧n2=lx.length∧c2=cp:=by cases e0;exact⟨rfl,rfl,rfl⟩
   subst ea en ec;obtain⟨HD,HB,U7⟩:=lH3 (jlT g lx.length c2 w.heap.size lx w1 hox (fun z hz=>(hdx z hz).here) hlen) (show w.heap.size≤g from(J5 hox g rfl).1) hlen;obtain⟨n9,hn9⟩:=eX (lx.length)
   rw[hn9] at HD;try rw[hn9]
   clear hox hdx hlen hlx2 hbg hg hr e0;go_wp2_with fail
   refine HD.out.mono ?_;rintro e w2 ⟨n8,rfl,ho2,g2⟩;have hn8:n8=(lx.filter fun z=>jS z.1).length:=by obtain⟨a,c,e,_⟩:=ho2.at_;cases e;rfl
   have HS:=lH (jiL w.heap.size g n8 c2 (lx.filter fun z=>jS z.1) w2 ho2 (by have:=List.length_filter_le (fun z=>jS z.1) lx;have:=U7.out;omega));have G2:=lH g2;clear ho2 g2 hn8 HD hn9;go_wp2_with fail
   refine HS.out.mono ?_;rintro e w3 ⟨rfl,ly,hp,hs,ho3,g3⟩;obtain⟨G,HP,HO,Rx⟩:=lH4 (G2.out.trans g3) (show Xu pl (ly.map fun z=>z.1) by rw[←NO.out];exact jjU hp hs) ho3 hp;clear hp hs ho3 g3 HS;go_wp2;go_ret;have key:∀z ∈ ly,Off (fun b=>b<w.heap.size∨b=g) w3 fun u=>At4 u z:=fun z hz =>
    ((NP.out z (List.mem_filter.1 (Rx.out.mem_iff.1 hz)).1).step (G.out.mono fun b e=>by subst e;exact .inr rfl)).less fun b e=>e.imp id fun e=>by subst e;rfl
   refine⟨_,ly,rfl,HP.out,⟨⟨_,_,_,rfl⟩,⟨HO.out,fun z hz=>(key z hz).less fun b e=>.inr (Option.some.inj e).symm⟩,fun z hz=>(key z hz).less fun b e=>e.imp id fun e=>(Option.some.inj e).symm⟩,?_⟩;exact jg.below K.out G.out fun i e=>by subst e;exact HB.out
theorem jac {v:Value} {s:Clu} {w:World} (h:jC w v s) (hl:jE s) (ha:Asc s.pods):Calls Tryz.prog 8 #[v] w fun e w'=>∃y,e=.returned y∧Jo w' y (zD s.pods)∧Kept w w':=by
 obtain⟨v1,v2,v3,rfl,⟨a,cap,rfl,l1,m1,h1⟩,⟨b,cp,rfl,l2,m2,h2⟩,⟨d,cb,rfl,l3,m3,h3⟩⟩:=h;refine(jg4 a b d _ cap _ cp _ cb s.nodes s.pods s.buds w h1 h2 h3 l1 m1 l2 m2 l3 m3 hl).mono ?_;rintro e w' ⟨v,lx,rfl,hp,hf,kk⟩;refine⟨v,rfl,?_,kk⟩;rw[←jaw ha hp];exact jcQ hf.2.1
abbrev jmn (x y:ByteArray):PanicEntry:={ v:=.iface 31 (.agg #[.string x,.string y]),recovered:=false }
def jeX (o:Option (ByteArray×ByteArray)) (w:World) (e:Ending) (w':World):Prop:=(∀x y,o=some (x,y)→e=.panicked [jmn x y])∧(o=none→e=.returned (.tuple #[]))∧Kept w w'
theorem jlu (s1 s2 s3:Option Addr) (n1 e1 n2 e2 n3 e3:Nat) (pack:Bool) (s:Clu) (w:World) (hs:jC w (Jg (.slice s1 n1 e1) (.slice s2 n2 e2) (.slice s3 n3 e3)) s) (hl:jE s) (ha:Asc s.pods) (hb:s.pods.length+1≤100000):Calls Tryz.prog 32 #[.agg #[.slice s1 n1 e1,.slice s2 n2 e2,.slice s3 n3 e3],.bool pack] w (jeX (nextS s pack) w):=by
 obtain⟨Z,hZ⟩:=eX (w.alloc (.cells #[.slice s1 n1 e1,.slice s2 n2 e2,.slice s3 n3 e3] 26))
 have hkz:Kept w Z:=by rw[←hZ];exact ja _ _
 obtain⟨Vk,HS,HL,HB,HK,HP⟩:=lH6 (jc w (.slice s1 n1 e1) [.slice s2 n2 e2,.slice s3 n3 e3] 26 Z (by rw[hZ];exact Kept.refl _)) (hs.kept hkz) hl hb hkz (jac (hs.kept hkz) hl ha);clear hs hkz hl ha hb;unfold jeX;obtain⟨y0,y1,y2⟩:=Vk.out.at3;go_enter Tryz.func32,Tryz.ntmps32;go_wp2_with fail
 try rw[hZ]
 go_wp2_with fail
 try rw[hZ]
 clear hZ y0 y1 y2;refine HP.out.mono ?_;rintro e w1 ⟨y,rfl,⟨pa,pc,rfl,-,-,hrow⟩,kk⟩;have K:=lH kk;have HR:=lH hrow;obtain⟨pl,hpl⟩:=eX (zD s.pods)
 have V1:=lH hpl;rw[hpl] at HR;try rw[hpl]
 obtain⟨pn,hpn⟩:=eX (pl.length)
 have UI:=lH hpn;have hpb:pn≤100000:=by have:=qP s.pods;have h2:=V1.out;rw[h2] at this;have:=HB.out;omega
 rw[hpn] at HR;try rw[hpn]
 clear kk hrow hpl hpn HP;go_wp2_with fail
 go_loopw [11] (fun iv wr=>∃k:Nat,k≤pn∧iv=.int .i64 k∧Yc s pack (pl.drop k)=nextS s pack∧Kept w1 wr) (fun iv _=>pn-(intOf iv).toNat)
 case atStart=>exact⟨0,Nat.zero_le _,rfl,by rw[←V1.out];rfl,Kept.refl _⟩
 case round =>
  obtain⟨k,hk,rfl,hS,hK⟩:=hrel;have Up:=lH hS;have Uo:=lH hK;clear hS hK;by_cases hlt:k<pn
  · obtain⟨g,off,rfl⟩:=HR.out.form.resolve_left (by omega);obtain⟨n,b1,m1,c1,b2,m2,c2,b3,m3,c3,b4,m4,c4,hn,hd,hb,p0,p1,p2,p3,p4,p5,p6,p7,p8,p9,p10,hat⟩:=(HR.out.kept Uo.out).at_ hlt;have HD:=lH hd;have hmem:n ∈ s.pods:=(jen.1 (by rw[V1.out];exact List.mem_of_getElem? hn)).1;have U7:=lH (HL.out.pods n hmem);have hkk:(k:Int)<(pn:Int):=by omega
    have hk0:¬(k:Int)<0:=by omega
    obtain⟨wx,hwx⟩:=eX (wr.alloc (.cells #[.string n.name,.string n.owner,.int .i64 n.prio,.slice b1 m1 c1,.slice b2 m2 c2,.slice b3 m3 c3,.slice b4 m4 c4,.string n.key,.int .i64 n.most,.string n.node,.bool n.hold] 44))
    have hkx:Kept wr wx:=by rw[←hwx];exact ja _ _
    have Vt:=lH (jc wr (.string n.name) [.string n.owner,.int .i64 n.prio,.slice b1 m1 c1,.slice b2 m2 c2,.slice b3 m3 c3,.slice b4 m4 c4,.string n.key,.int .i64 n.most,.string n.node,.bool n.hold] 44 wx (by rw[hwx];exact Kept.refl _));obtain⟨bq,hbq⟩:=eX (wr.heap.size)
    rw[hbq] at Vt;have KX:=lH (Uo.out.trans hkx);have HC:=lH (jiw s1 s2 s3 n1 e1 n2 e2 n3 e3 b1 b2 b3 b4 m1 c1 m2 c2 m3 c3 m4 c4 pack n s wx (HS.out.kept (K.out.trans KX.out)) HL.out HB.out (hat.kept hkx) U7.out);unfold jx at HC;go_upto_region 4 with fail
    try rw[hwx]
    try rw[hbq]
    clear hwx hbq hd hb hn hkx hk0 hkk hat hmem p0 p1 p2 p3 p4 p5 p6 p7 p8 p9 p10;obtain⟨y0,y1,y2⟩:=(Vk.out.kept (K.out.trans KX.out)).at3;obtain⟨q0,q1,q2,q3,q4,q5,q6,q7,q8,q9,q10⟩:=Vt.out.at11;go_wp2_with fail
    refine HC.out.mono ?_;rintro e w2 ⟨l,ho,rfl,kk⟩;obtain⟨HO,K2,Vt⟩:=lH3 (jkT ho) (KX.out.trans kk) (Vt.out.kept kk);clear ho kk HC y0 y1 y2 q0 q1 q2 q3 q4 q5 q6 q7 q8 q9 q10
    cases l with
    | nil =>
     have HE:=lH (show Yc s pack (pl.drop (k+1))=nextS s pack by
      rw[←Up.out,HD.out,Yc,←HO.out];rfl)
     go_wp2;go_roundw
     case rel=>exact⟨k+1,by omega,by go_num,HE.out,K2.out⟩
     case measure=>simp[intOf];omega
    | cons x r =>
     have HE:=lH (show nextS s pack=some (n.name,x) by
      rw[←Up.out,HD.out,Yc,←HO.out];rfl)
     have q0:=Vt.out.at_ 0 _ rfl;go_wp2;rw[HE.out];refine⟨rfl,?_,?_,HK.out.trans (K.out.trans K2.out)⟩
     · intro u v h;obtain⟨e1,e2⟩:=Prod.mk.inj (Option.some.inj h);rw[e1,e2]
     · intro h
       cases h
  · have HE:=lH (show nextS s pack=none by
     rw[←Up.out,List.drop_of_length_le (by rw[UI.out];omega)];rfl)
    have hkk:¬(k:Int)<(pn:Int):=by omega
    go_wp2;go_end0
    rw[HE.out];exact⟨(fun u v h=>by cases h),fun _=>rfl,HK.out.trans (K.out.trans Uo.out)⟩
open Go.RowKit Go.Shelf
theorem jbA (q:Nat) (x y:ByteArray) (w:World) (hq:jf q [.string ⟨#[]⟩,.string ⟨#[]⟩] w) (hr:jf (q+1) [.bool false] w) :
 CallsD Tryz.prog 75 #[.pointer (some ⟨q,0,none⟩),.pointer (some ⟨q+1,0,none⟩)] (.panicking [jmn x y]) w fun e u' w' =>
  e=.returned (.tuple #[])∧u'=.panicking [{ jmn x y with recovered:=true }]∧w'=((w.setCell ⟨q,0,none⟩ (.string x)).setCell ⟨q,1,none⟩ (.string y)).setCell ⟨q+1,0,none⟩ (.bool true):=by
 have hta:∀W,(Instr.typeAssert (.iface 31 (.agg #[.string x,.string y])) 20 31 false).run Tryz.prog W=.ok (.agg #[.string x,.string y]) W:=fun _=>by kernel_rfl
 have c0:=hq.at_ 0 _ rfl;have c1:=hq.at_ 1 _ rfl;have f0:=hq.free 0;have f1:=hq.free 1;have c2:=hr.at_ 0 _ rfl;have f2:=hr.free 0;refine callsD_of_wpS Tryz.func75 rfl fun c₀ cs hu=>?_;apply wpS_seq;apply wpS_region;simp[wpOpsS,go_sem,recoverD,hu,Tryz.ntmps75,Exit.thenS];apply wpS_seq;apply wpS_region;simp[wpOpsS,go_sem,recoverD,Exit.thenS];refine wpS_cond (t:=true) (by simp[Act.eval,Array.replicate]) ?_;simp only[if_true];refine wpS_of_wp ?_;simp[Array.replicate];go_wp2;simp[bodyPostS,results,Tryz.results75]
theorem jfq (p q:Addr) (w:World) :
 CallsD Tryz.prog 75 #[.pointer (some p),.pointer (some q)] .returning w fun e u' w'=>e=.returned (.tuple #[])∧u'=.returning∧w'=w:=by
 refine callsD_of_wpS Tryz.func75 rfl fun c₀ cs hu=>?_;apply wpS_seq;apply wpS_region;simp[wpOpsS,go_sem,recoverD,hu,Tryz.ntmps75,Exit.thenS];apply wpS_seq;apply wpS_region;simp[wpOpsS,go_sem,recoverD,hu,Exit.thenS];refine wpS_cond (t:=false) (by simp[Act.eval,Array.replicate]) ?_;simp only[Bool.false_eq_true,if_false];refine wpS_of_wp (wp_skip ?_)
 cases c₀
 simp_all [bodyPostS,results,Tryz.results75]
def jcj (o:Option (ByteArray×ByteArray)) (w:World) (e:Ending) (w':World):Prop:=e=.returned (.tuple #[.agg #[.string (o.getD (⟨#[]⟩,⟨#[]⟩)).1,.string (o.getD (⟨#[]⟩,⟨#[]⟩)).2],.bool o.isSome])∧Kept w w'
theorem jiq (q r:Nat) (s1 s2 s3:Option Addr) (n1 e1 n2 e2 n3 e3:Nat) (pack:Bool) (s:Clu) (w:World) (hs:jC w (Jg (.slice s1 n1 e1) (.slice s2 n2 e2) (.slice s3 n3 e3)) s) (hl:jE s) (ha:Asc s.pods) (hb:s.pods.length+1≤100000) (hq:jf q [.slice s1 n1 e1,.slice s2 n2 e2,.slice s3 n3 e3] w) (hr:jf r [.bool pack] w):Calls Tryz.prog 31 #[.pointer (some ⟨q,0,none⟩),.pointer (some ⟨r,0,none⟩)] w (jeX (nextS s pack) w):=by
 have HC:=lH (jlu s1 s2 s3 n1 e1 n2 e2 n3 e3 pack s w hs hl ha hb);obtain⟨y0,y1,y2⟩:=hq.at3;have z0:=hr.at_ 0 _ rfl;obtain⟨o,ho⟩:=eX (nextS s pack)
 rw[ho] at HC ⊢;clear hs hl ha hb hq hr ho;go_enter Tryz.func31,Tryz.ntmps31;go_wp2_with fail
 refine HC.out.mono ?_;intro e1 w1 hsp;have HG:=lH hsp;obtain⟨g1,g0,kk⟩:=hsp;clear HC y0 y1 y2 z0
 cases hn:o with
 | none =>
  obtain rfl:=g0 hn;clear g0 g1 hn kk;go_wp2;go_end0
  exact HG.out
 | some b =>
  obtain⟨x,y⟩:=b;obtain rfl:=g1 x y hn;rw[hn] at HG;clear g0 g1 hn kk;go_wp2;exact⟨rfl,HG.out⟩
theorem jkX (q r:Nat) (o:Option (ByteArray×ByteArray)) (w:World) (hC:∀W,Kept w W→Calls Tryz.prog 31 #[.pointer (some ⟨q,0,none⟩),.pointer (some ⟨r,0,none⟩)] W (jeX o W)) :
 Calls Tryz.prog 30 #[.func (.func 31) #[] #[.pointer (some ⟨q,0,none⟩),.pointer (some ⟨r,0,none⟩)]] w (jcj o w):=by
 have hmf:=hmfL (P:=Tryz.prog);obtain⟨Z,hZ⟩:=eX ((w.alloc (.cells #[.string ⟨#[]⟩,.string ⟨#[]⟩] 31)).alloc (.cells #[.bool false] 4))
 have hkz:Kept w Z:=by rw[←hZ];exact jn _ _ _
 have Vh:=lH (jc w (.string ⟨#[]⟩) [.string ⟨#[]⟩] 31 Z (by rw[←hZ];exact ja _ _));have VT:=lH (show jf (w.heap.size+1) [.bool false] Z by
  have dd:=jc (w.alloc (.cells #[.string ⟨#[]⟩,.string ⟨#[]⟩] 31)) (.bool false) [] 4 Z (by rw[hZ];exact Kept.refl _);rw[World.size_alloc] at dd;exact dd)
 have HK:=lH hkz;have HC:=lH (hC Z hkz);clear hC hkz;unfold jcj;obtain⟨bq,hbq⟩:=eX (w.heap.size)
 rw[hbq] at Vh VT;have UZ:=lH (show w.heap.size≤bq by omega);go_enter_defers Tryz.func30,Tryz.ntmps30
 go_wp2_with fail
 try rw[hZ]
 try rw[hbq]
 go_wp2_with fail
 try rw[hZ]
 try rw[hbq]
 clear hZ hbq;refine HC.out.mono ?_;rintro e1 w1 ⟨g1,g0,kk⟩;obtain⟨K,Vh,VT⟩:=lH3 (HK.out.trans kk) (Vh.out.kept kk) (VT.out.kept kk);clear kk HC
 cases hn:o with
 | none =>
  obtain rfl:=g0 hn;have HN:=lH hn;clear g0 g1 hn;have c0:=Vh.out.at_ 0 _ rfl;have c1:=Vh.out.at_ 1 _ rfl;have f0:=Vh.out.free 0;have f1:=Vh.out.free 1;have c2:=VT.out.at_ 0 _ rfl;have f2:=VT.out.free 0;have P:=lH (j5 (vs:=[.string ⟨#[]⟩,.string ⟨#[]⟩]) Vh.out rfl);have KF:=lH (show Kept w ((w1.setCells bq 0 [.string ⟨#[]⟩,.string ⟨#[]⟩]).setCell ⟨bq+1,0,none⟩ (.bool false)) from JQ (jt bq _ _ _ _ _ UZ.out K.out) (a:=⟨bq+1,0,none⟩) (by show w.heap.size≤bq+1;have:=UZ.out;omega) _);go_wp2_with fail
  obtain⟨WE,hWE⟩:=eX (w1.setCells bq 0 [.string ⟨#[]⟩,.string ⟨#[]⟩])
  have hWE2:((w1.setCell ⟨bq,0,none⟩ (.string ⟨#[]⟩)).setCell ⟨bq,1,none⟩ (.string ⟨#[]⟩))=WE:=hWE;rw[hWE] at P KF;try rw[hWE2]
  have FQ:=lH (P.out.cells.other (p:=bq+1) (j:=0) (u:=.bool false) (by omega));have FE:=lH (show jf (bq+1) [.bool false] (WE.setCell ⟨bq+1,0,none⟩ (.bool false)) by
   have h1:jf (bq+1) [.bool false] WE:=by rw[←hWE2];exact(VT.out.other (by omega)).other (by omega)
   exact h1.set (j:=0) (u:=.bool false) (by simp))
  obtain⟨WF,hWF⟩:=eX (WE.setCell ⟨bq+1,0,none⟩ (.bool false))
  rw[hWF] at FQ FE KF;try rw[hWF]
  clear hWE hWE2 hWF c0 c1 c2 f0 f1 f2;refine leaves_cons (f:=75) (args:=#[.pointer (some ⟨bq,0,none⟩),.pointer (some ⟨bq+1,0,none⟩)]) (by simp) (by simp[go_sem]) ?_;refine(jfq ⟨bq,0,none⟩ ⟨bq+1,0,none⟩ _).mono ?_;rintro e u' w'' ⟨rfl,rfl,rfl⟩;simp[Leaves,settle,results,Tryz.results30,go_sem,FE.out.at_ 0 _ rfl,FQ.out.at_ 0 _ rfl,FQ.out.at_ 1 _ rfl];exact⟨⟨⟨by rw[HN.out];rfl,by rw[HN.out];rfl⟩,HN.out⟩,KF.out⟩
 | some b =>
  obtain⟨x,y⟩:=b;obtain rfl:=g1 x y hn;have HN:=lH hn;clear g0 g1 hn;go_wp2_with fail
  refine leaves_cons (f:=75) (args:=#[.pointer (some ⟨bq,0,none⟩),.pointer (some ⟨bq+1,0,none⟩)]) (by simp) (by simp[go_sem]) ?_;refine(jbA bq x y _ Vh.out VT.out).mono ?_;rintro e u' w'' ⟨rfl,rfl,rfl⟩;obtain⟨FQ,FE,KF⟩:=lH3 (((Vh.out.set (j:=0) (u:=.string x) (by simp)).set (j:=1) (u:=.string y) (by simp)).other (p:=bq+1) (j:=0) (u:=.bool true) (by omega)) (((VT.out.other (p:=bq) (j:=0) (u:=.string x) (by omega)).other (p:=bq) (j:=1) (u:=.string y) (by omega)).set (j:=0) (u:=.bool true) (by simp)) (show Kept w (((w1.setCell ⟨bq,0,none⟩ (.string x)).setCell ⟨bq,1,none⟩ (.string y)).setCell ⟨bq+1,0,none⟩ (.bool true)) from JQ (JQ (JQ K.out (a:=⟨bq,0,none⟩) UZ.out _) (a:=⟨bq,1,none⟩) UZ.out _) (a:=⟨bq+1,0,none⟩) (by show w.heap.size≤bq+1;have:=UZ.out;omega) _);obtain⟨WF,hWF⟩:=eX (((w1.setCell ⟨bq,0,none⟩ (.string x)).setCell ⟨bq,1,none⟩ (.string y)).setCell ⟨bq+1,0,none⟩ (.bool true))
  rw[hWF] at FQ FE KF ⊢;clear hWF;simp[Leaves,settle,results,Tryz.results30,go_sem,FE.out.at_ 0 _ rfl,FQ.out.at_ 0 _ rfl,FQ.out.at_ 1 _ rfl];exact⟨⟨⟨by rw[HN.out];rfl,by rw[HN.out];rfl⟩,by rw[HN.out];rfl⟩,KF.out⟩
theorem jck (s1 s2 s3:Option Addr) (n1 e1 n2 e2 n3 e3:Nat) (pack:Bool) (s:Clu) (w:World) (hs:jC w (Jg (.slice s1 n1 e1) (.slice s2 n2 e2) (.slice s3 n3 e3)) s) (hl:jE s) (ha:Asc s.pods) (hb:s.pods.length+1≤100000):Calls Tryz.prog 9 #[.agg #[.slice s1 n1 e1,.slice s2 n2 e2,.slice s3 n3 e3],.bool pack] w (jcj (nextS s pack) w):=by
 have hmf:=hmfL (P:=Tryz.prog);obtain⟨Z,hZ⟩:=eX (((w.alloc (.cells #[.slice s1 n1 e1,.slice s2 n2 e2,.slice s3 n3 e3] 26)).alloc (.cells #[.bool pack] 4)).alloc (.cells #[.string ⟨#[]⟩,.string ⟨#[]⟩] 31))
 have hkz:Kept w Z:=by rw[←hZ];exact(jn _ _ _).trans (ja _ _)
 have Vk:=lH (jc w (.slice s1 n1 e1) [.slice s2 n2 e2,.slice s3 n3 e3] 26 Z (by rw[←hZ];exact(ja _ _).trans (ja _ _)));have VT:=lH (show jf (w.heap.size+1) [.bool pack] Z by
  have dd:=jc (w.alloc (.cells #[.slice s1 n1 e1,.slice s2 n2 e2,.slice s3 n3 e3] 26)) (.bool pack) [] 4 Z (by rw[←hZ];exact ja _ _);rw[World.size_alloc] at dd;exact dd)
 have Vh:=lH (show jf (w.heap.size+1+1) [.string ⟨#[]⟩,.string ⟨#[]⟩] Z by
  have dd:=jc ((w.alloc (.cells #[.slice s1 n1 e1,.slice s2 n2 e2,.slice s3 n3 e3] 26)).alloc (.cells #[.bool pack] 4)) (.string ⟨#[]⟩) [.string ⟨#[]⟩] 31 Z (by rw[hZ];exact Kept.refl _);rw[World.size_alloc,World.size_alloc] at dd;exact dd)
 have HK:=lH hkz;have HC:=lH (jkX w.heap.size (w.heap.size+1) (nextS s pack) Z fun W k=>jiq w.heap.size (w.heap.size+1) s1 s2 s3 n1 e1 n2 e2 n3 e3 pack s W (hs.kept (hkz.trans k)) hl ha hb (Vk.out.kept k) (VT.out.kept k));clear hs hkz hl ha hb;unfold jcj at HC ⊢;obtain⟨o,ho⟩:=eX (nextS s pack)
 rw[ho] at HC ⊢;obtain⟨x,hx⟩:=eX ((o.getD (⟨#[]⟩,⟨#[]⟩)).1)
 obtain⟨y,hy⟩:=eX ((o.getD (⟨#[]⟩,⟨#[]⟩)).2)
 obtain⟨t,ht⟩:=eX (o.isSome)
 rw[hx,hy,ht] at HC ⊢;obtain⟨y0,y1,y2⟩:=Vk.out.at3;obtain⟨bq,hbq⟩:=eX (w.heap.size+1+1)
 rw[hbq] at Vh;have UZ:=lH (show w.heap.size≤bq by omega);clear ho hx hy ht;go_enter Tryz.func9,Tryz.ntmps9;go_wp2_with fail
 try rw[hZ]
 try rw[hbq]
 go_wp2_with fail
 try rw[hZ]
 try rw[hbq]
 clear hZ hbq y0 y1 y2;refine HC.out.mono ?_;rintro e1 w1 ⟨rfl,kk⟩;have K:=lH (HK.out.trans kk);have Vh:=lH (Vh.out.kept kk);clear kk HC;have c0:=Vh.out.at_ 0 _ rfl;have c1:=Vh.out.at_ 1 _ rfl;have f0:=Vh.out.free 0;have f1:=Vh.out.free 1;have P:=lH (j5 (vs:=[.string x,.string y]) Vh.out rfl);have KF:=lH (show Kept w (w1.setCells bq 0 [.string x,.string y]) from jt bq _ _ _ _ _ UZ.out K.out);go_wp2;obtain⟨WE,hWE⟩:=eX (w1.setCells bq 0 [.string x,.string y])
 have hWE2:((w1.setCell ⟨bq,0,none⟩ (.string x)).setCell ⟨bq,1,none⟩ (.string y))=WE:=hWE;rw[hWE] at P KF;try rw[hWE2]
 clear hWE hWE2 c0 c1 f0 f1;refine bodyPost_ret (by simp[results,Tryz.results9,go_sem,P.out.cells.at_ 0 _ rfl,P.out.cells.at_ 1 _ rfl];try rfl) rfl ?_;exact⟨rfl,KF.out⟩
theorem jhQ {p:Pd} {y:ByteArray} (hr:zp p.node=true):∀{l:List Pd},Asc l→p ∈ l→∀{i:Nat} {q:Pd},l[i]?=some q→∃q',(Jn p.name y l)[i]?=some q'∧q'.name=q.name∧(zp q.node=false→q'.node=q.node)
 | [],_,h,_,_,_=>by cases h
 | z::r,ha,h,i,q,hq=>by
  obtain⟨h1,h2⟩:=List.pairwise_cons.1 ha;rw[Jn];by_cases e:eqS z.name p.name=true
  · rw[if_pos e];have hz:z=p:=jay ha (by simp) h (jR.1 e)
    cases i with
    | zero =>
     obtain rfl:z=q:=by simpa using hq
     exact⟨_,rfl,rfl,fun g=>by rw[hz,hr] at g;cases g⟩
    | succ i=>exact⟨q,hq,rfl,fun _=>rfl⟩
  · rw[if_neg e];have hp:p ∈ r:=(List.mem_cons.1 h).resolve_left fun g=>e (by rw[g];exact zh _)
    cases i with
    | zero=>exact⟨q,hq,rfl,fun _=>rfl⟩
    | succ i=>exact jhQ hr h2 hp (i:=i) hq
theorem jmS {p:Pd} (h:jS p=true):zp p.node=true:=(Bool.and_eq_true_iff.1 h).1
theorem jkN {s:Clu} (h:Je s) (pack:Bool) {i:Nat} {q:Pd} (hq:s.pods[i]?=some q):∀{k:Nat},k≤(JG s pack).length→∃q',(goS ((JG s pack).take k) s).pods[i]?=some q'∧q'.name=q.name∧(zp q.node=false→q'.node=q.node)
 | 0,_=>⟨q,hq,rfl,fun _=>rfl⟩
 | k+1,hk=>by
  obtain⟨q1,e1,e2,e3⟩:=jkN h pack hq (k:=k) (by omega);obtain⟨⟨x,t⟩,hb⟩:∃b,(JG s pack)[k]?=some b:=⟨_,List.getElem?_eq_getElem (by omega)⟩
  have hn:=jce h pack (k:=k) (by omega);have hw:=XX h pack (k:=k) (by omega);rw[hb] at hn;rw[jb6 hb];obtain⟨p,hp,hr,rfl,-⟩:=XH hn;obtain⟨q2,f1,f2,f3⟩:=jhQ (y:=t) (jmS hr) hw.asc hp e1;refine⟨q2,f1,f2.trans e2,fun g=>?_⟩;have g1:=e3 g;rw[←g1];exact f3 (by rw[g1];exact g)
theorem jdP {s:Clu} {pack:Bool}:goS ((JG s pack).take (JG s pack).length) s=goS (JG s pack) s:=by rw[List.take_of_length_le (Nat.le_refl _)]
theorem jl4 {s:Clu} (h:Je s) (pack:Bool):nextS (goS (JG s pack) s) pack=none:=by
 have:=jce h pack (Nat.le_refl _);rwa [jdP,List.getElem?_eq_none (Nat.le_refl _)] at this
theorem jjv {s:Clu} (h:Je s) (pack:Bool):Je (goS (JG s pack) s):=by have:=XX h pack (Nat.le_refl _);rwa [jdP] at this
theorem jmI:(Tryz.prog.info? 31).map (fun i=>(i.zero,i.size,i.bytes))=some (some (.agg #[.string ByteArray.empty,.string ByteArray.empty]),2,32):=by kernel_rfl
theorem jd5 {w:World} {v:Value} {s:Clu} (h:jC w v s):(∀p ∈ s.pods,p.name.size≤maxLen)∧∀n ∈ s.nodes,n.name.size≤maxLen:=by
 obtain⟨v1,v2,v3,rfl,⟨a,cap,rfl,l1,m1,h1⟩,⟨b,cp,rfl,l2,m2,h2⟩,-⟩:=h;refine⟨fun p hp=>?_,fun n hn=>?_⟩
 · obtain⟨k,hk,rfl⟩:=List.mem_iff_getElem.1 hp;obtain⟨g,off,rfl⟩:=h2.form.resolve_left (by omega);obtain⟨n,b1,m1,c1,b2,m2,c2,b3,m3,c3,b4,m4,c4,hn,hd,hb,p0,p1,p2,p3,p4,p5,p6,p7,p8,p9,p10,hat⟩:=h2.at_ hk;rw[List.getElem?_eq_getElem hk] at hn;obtain rfl:=Option.some.inj hn;exact hat.name
 · obtain⟨k,hk,rfl⟩:=List.mem_iff_getElem.1 hn;obtain⟨g,off,rfl⟩:=h1.form.resolve_left (by omega);obtain⟨n,b1,q1,f1,b2,q2,f2,b3,q3,f3,hn,hd,hb,u0,u1,u2,u3,u4,hat⟩:=h1.at_ hk;rw[List.getElem?_eq_getElem hk] at hn;obtain rfl:=Option.some.inj hn;exact hat.size
theorem jht {v:Value} {s:Clu} {w:World} (h:jC w v s) (x y:ByteArray) (hy:y.size≤maxLen) (hl:jE s):Calls Tryz.prog 13 #[v,.string x,.string y] w fun e w'=>∃u1 v1 x1 u2 v2 x2 u3 v3 x3,e=.returned (.agg #[.slice u1 v1 x1,.slice u2 v2 x2,.slice u3 v3 x3])∧jO (fun b=>b<w.heap.size) w.heap.size w' (.slice u1 v1 x1) (.slice u2 v2 x2) (.slice u3 v3 x3) (zZ s x y)∧Kept w w':=by
 obtain⟨v1,v2,v3,rfl,⟨a,cap,rfl,l1,m1,h1⟩,⟨b,cp,rfl,l2,m2,h2⟩,⟨d,cb,rfl,l3,m3,h3⟩⟩:=h;exact jad a b d _ cap _ cp _ cb s.nodes s.pods s.buds x y w hy h1 h2 h3 l1 m1 l2 m2 l3 m3 hl
theorem jlX {v:Value} {s:Clu} {w:World} (h:jC w v s) (hl:jE s):Calls Tryz.prog 26 #[v] w fun e w'=>∃u1 v1 x1 u2 v2 x2 u3 v3 x3,e=.returned (.agg #[.slice u1 v1 x1,.slice u2 v2 x2,.slice u3 v3 x3])∧(Off (fun b=>b<w.heap.size) w' fun u=>jC u (.agg #[.slice u1 v1 x1,.slice u2 v2 x2,.slice u3 v3 x3]) s)∧Kept w w':=by
 obtain⟨v1,v2,v3,rfl,⟨a,cap,rfl,l1,m1,h1⟩,⟨b,cp,rfl,l2,m2,h2⟩,⟨d,cb,rfl,l3,m3,h3⟩⟩:=h;refine(jbM a b d _ cap _ cp _ cb s.nodes s.pods s.buds w h1 h2 h3 l1 m1 l2 m2 l3 m3 hl).mono ?_;rintro e w' ⟨_,_,_,_,_,_,_,_,_,rfl,ho,kk⟩;exact⟨_,_,_,_,_,_,_,_,_,rfl,fun u g=>(ho.step g).toR,kk⟩
def jnW (zq mq:Nat) (s:Clu) (bs:List (ByteArray×ByteArray)) (k:Nat) (Y wr:World) (dv:Value):Prop:=∃a1 t1 c1 a2 t2 c2 a3 t3 c3,jf mq [.slice a1 t1 c1,.slice a2 t2 c2,.slice a3 t3 c3] wr∧(Off (fun b=>b<zq) wr fun u=>jC u (.agg #[.slice a1 t1 c1,.slice a2 t2 c2,.slice a3 t3 c3]) (goS (bs.take k) s))∧Own jz 31 wr (mq+1) dv (bs.take k)∧Go.RowKit.Below mq Y wr
def jnw (s:Clu) (pack:Bool) (w:World) (e:Ending) (w':World):Prop:=∃v y,e=.returned (.tuple #[v,y])∧jC w' v (goS (JG s pack) s)∧Reads jz w' y (JG s pack)∧Kept w w'
theorem jhp (s1 s2 s3:Option Addr) (n1 e1 n2 e2 n3 e3:Nat) (pack:Bool) (s:Clu) (w:World) (hs:jC w (Jg (.slice s1 n1 e1) (.slice s2 n2 e2) (.slice s3 n3 e3)) s) (hw:Je s):Calls Tryz.prog 12 #[.agg #[.slice s1 n1 e1,.slice s2 n2 e2,.slice s3 n3 e3],.bool pack] w (jnw s pack w):=by
 obtain⟨i0,hi,hz0,hz1,hz2'⟩:=info_parts jmI;obtain⟨Z,hZ⟩:=eX ((w.alloc (.cells #[.slice s1 n1 e1,.slice s2 n2 e2,.slice s3 n3 e3] 26)).alloc (.cells #[.slice none 0 0,.slice none 0 0,.slice none 0 0] 26))
 have hkz:Kept w Z:=by rw[←hZ];exact jn _ _ _
 have hzs:Z.heap.size=w.heap.size+2:=by rw[←hZ];simp
 have Vk:=lH (jc w (.slice s1 n1 e1) [.slice s2 n2 e2,.slice s3 n3 e3] 26 Z (by rw[←hZ];exact ja _ _));have Rz:=lH (show jf (w.heap.size+1) [.slice none 0 0,.slice none 0 0,.slice none 0 0] Z by
  have dd:=jc (w.alloc (.cells #[.slice s1 n1 e1,.slice s2 n2 e2,.slice s3 n3 e3] 26)) (.slice none 0 0) [.slice none 0 0,.slice none 0 0] 26 Z (by rw[hZ];exact Kept.refl _);rw[World.size_alloc] at dd;exact dd)
 obtain⟨HS,HW,HK,Vf,HC⟩:=lH5 (hs.kept hkz) hw hkz hzs (jlX (hs.kept hkz) hw.low);clear hs hkz hw hzs;obtain⟨bs,hbs⟩:=eX (JG s pack)
 have Vu:=lH hbs;unfold jnw;rw[hbs];clear hbs;obtain⟨rq,hrq⟩:=eX (w.heap.size+1)
 have U3:=lH hrq;rw[hrq] at Rz;obtain⟨y0,y1,y2⟩:=Vk.out.at3;go_enter Tryz.func12,Tryz.ntmps12;go_wp2_with fail
 try rw[hZ]
 try rw[hrq]
 go_wp2_with fail
 try rw[hZ]
 try rw[hrq]
 clear hZ hrq y0 y1 y2;refine HC.out.mono ?_;rintro e9 w1 ⟨u1,v1,x1,u2,v2,x2,u3,v3,x3,rfl,ho,kk⟩;obtain⟨W1,hW1⟩:=eX (w1.alloc (.cells #[.slice u1 v1 x1,.slice u2 v2 x2,.slice u3 v3 x3] 26))
 have hkw:Kept w1 W1:=by rw[←hW1];exact ja _ _
 obtain⟨HM,Ux,Tw,U4,KZ⟩:=lH5 (jc w1 (.slice u1 v1 x1) [.slice u2 v2 x2,.slice u3 v3 x3] 26 W1 (by rw[hW1];exact Kept.refl _)) (ho.step (jg.of hkw)) (show W1.heap.size=w1.heap.size+1 by rw[←hW1];simp) (show Z.heap.size≤w1.heap.size from kk.size) (kk.trans hkw);obtain⟨mq,hmq⟩:=eX (w1.heap.size)
 rw[hmq] at HM Tw U4;clear ho kk hkw HC;have HP:=lH (jac (HS.out.kept KZ.out) HW.out.low HW.out.asc);obtain⟨y0,y1,y2⟩:=(Vk.out.kept KZ.out).at3;go_wp2_with fail
 try rw[hW1]
 try rw[hmq]
 go_wp2_with fail
 try rw[hW1]
 try rw[hmq]
 clear hW1 hmq y0 y1 y2;refine HP.out.mono ?_;rintro e9 w2 ⟨y,rfl,⟨pa,pc,rfl,-,-,hrow⟩,kk⟩;have K1:=lH kk;obtain⟨pn,hpn⟩:=eX ((zD s.pods).length)
 try rw[hpn]
 have UI:=lH hpn;have T5:=lH (show bs.length≤pn by rw[←Vu.out,←hpn];exact qJ _ _ _);have hpb:pn≤128:=by rw[←hpn];exact Nat.le_trans (qP _) HW.out.few
 clear kk hrow hpn HP;go_wp2_with fail
 go_loopw [15,7] (fun iv dv wr=>∃k:Nat,k≤pn∧k≤bs.length∧iv=.int .i64 k∧jnW Z.heap.size mq s bs k W1 wr dv) (fun iv _ _=>pn-(intOf iv).toNat)
 case atStart=>exact⟨0,Nat.zero_le _,Nat.zero_le _,rfl,_,_,_,_,_,_,_,_,_,HM.out.kept K1.out,Ux.out.step (jg.of K1.out),Own.nil _ _ _,Below.mono K1.out (by have:=Tw.out;omega)⟩
 case round =>
  obtain⟨k,hk,hkb,rfl,hinv⟩:=hrel;obtain⟨a1,t1,c1,a2,t2,c2,a3,t3,c3,hm,hc,ho,hbl⟩:=hinv;obtain⟨Uq,VV,HO,Uk⟩:=lH4 hm hc ho hbl;clear hm hc ho hbl HM Ux;by_cases hlt:k<pn
  · skip;have hkk:(k:Int)<(pn:Int):=by omega
    have U5:=lH (show Je (goS (bs.take k) s) by rw[←Vu.out];exact XX HW.out pack (by rw[Vu.out];exact hkb));have VD:=lH (show nextS (goS (bs.take k) s) pack=bs[k]? by rw[←Vu.out];exact jce HW.out pack (by rw[Vu.out];exact hkb));obtain⟨sk,hsk⟩:=eX (goS (bs.take k) s)
    have Up:=lH hsk;rw[hsk] at U5 VD VV;clear hsk;have HN:=lH (jck a1 a2 a3 t1 c1 t2 c2 t3 c3 pack sk wr VV.out.here U5.out.low U5.out.asc (by have:=U5.out.few;omega));unfold jcj at HN;rw[VD.out] at HN;obtain⟨y0,y1,y2⟩:=Uq.out.at3
    cases hb:bs[k]? with
    | none =>
     rw[hb] at HN;have HN:=lH (show Calls Tryz.prog 9 #[.agg #[.slice a1 t1 c1,.slice a2 t2 c2,.slice a3 t3 c3],.bool pack] wr (fun e w'=>e=.returned (.tuple #[.agg #[.string ⟨#[]⟩,.string ⟨#[]⟩],.bool false])∧Kept wr w') from HN.out);go_wp2_with fail
     refine HN.out.mono ?_;rintro e9 w3 ⟨rfl,kk⟩;obtain⟨wx,hwx⟩:=eX (w3.alloc (.cells #[.string ⟨#[]⟩,.string ⟨#[]⟩] 31))
     have hkx:Kept wr wx:=by rw[←hwx];exact kk.trans (ja _ _)
     obtain⟨KX,Tl,RD,RF,Vd,VU⟩:=lH6 hkx (Uq.out.kept hkx) (VV.out.step (jg.of hkx)) (HO.out.kept hkx) (show Go.RowKit.Below mq W1 wx from Uk.out.trans (Below.mono hkx (by have:=Uk.out.size;have:=Tw.out;omega))) hwx;clear kk hkx hwx HN y0 y1 y2;go_upto_region 10 with fail
     try rw[VU.out]
     clear VU;have RD:=lH (show Off (fun b=>b<Z.heap.size) wx fun u=>jC u (.agg #[.slice a1 t1 c1,.slice a2 t2 c2,.slice a3 t3 c3]) (goS (bs.take k) s) by rw[Up.out];exact RD.out);have hfull:bs.take k=bs:=by rw[List.take_of_length_le (List.getElem?_eq_none_iff.1 hb)]
     have RB:=lH ((Rz.out.kept KZ.out).block (Vd.out.block rq (by have:=U4.out;have:=Vf.out;have:=U3.out;omega)));obtain⟨z0,z1,z2⟩:=RB.out.at3;have f0:=RB.out.free 0;have f1:=RB.out.free 1;have f2:=RB.out.free 2;obtain⟨y0,y1,y2⟩:=Tl.out.at3;obtain⟨P,GE,Th,Vy,KF⟩:=lH5 (j5 (vs:=[.slice a1 t1 c1,.slice a2 t2 c2,.slice a3 t3 c3]) RB.out rfl) (jg.cells (S:=fun b=>b=rq) rq rfl [.slice a1 t1 c1,.slice a2 t2 c2,.slice a3 t3 c3] 0 wx) (show Off (fun b=>b<Z.heap.size) wx fun u=>jC u (.agg #[.slice a1 t1 c1,.slice a2 t2 c2,.slice a3 t3 c3]) (goS bs s) by have:=RD.out;rw[hfull] at this;exact this) (show Own jz 31 wx (mq+1) _ bs by have:=RF.out;rw[hfull] at this;exact this) (show Kept w wx from Below.trans (HK.out.trans KZ.out) (Below.mono Vd.out (by have:=U4.out;have:=Vf.out;omega)));clear hfull;go_wp2;obtain⟨WE,hWE⟩:=eX (wx.setCells rq 0 [.slice a1 t1 c1,.slice a2 t2 c2,.slice a3 t3 c3])
     have hWE2:(((wx.setCell ⟨rq,0,none⟩ (.slice a1 t1 c1)).setCell ⟨rq,1,none⟩ (.slice a2 t2 c2)).setCell ⟨rq,2,none⟩ (.slice a3 t3 c3))=WE:=hWE;rw[hWE] at P GE;try rw[hWE2]
     have KE:=lH (show Kept w WE by rw[←hWE];exact jt rq _ _ _ _ _ (by have:=U3.out;omega) KF.out);clear hWE hWE2 z0 z1 z2 f0 f1 f2 y0 y1 y2;refine bodyPost_ret (by simp[results,Tryz.results12,go_sem,P.out.cells.at_ 0 _ rfl,P.out.cells.at_ 1 _ rfl,P.out.cells.at_ 2 _ rfl];try rfl) rfl ?_;exact⟨_,_,rfl,(Th.out.step (GE.out.mono fun b e=>by subst e;have:=Vf.out;have:=U3.out;omega)).here,Vy.out.goff GE.out (fun j hj e=>by have:=(J5 Vy.out j hj).1;have:=U4.out;have:=Vf.out;have:=U3.out;omega) |>.reads,KE.out⟩
    | some b =>
     obtain⟨x,t⟩:=b;rw[hb] at HN;have T6:=lH hb;have HN:=lH (show Calls Tryz.prog 9 #[.agg #[.slice a1 t1 c1,.slice a2 t2 c2,.slice a3 t3 c3],.bool pack] wr (fun e w'=>e=.returned (.tuple #[.agg #[.string x,.string t],.bool true])∧Kept wr w') from HN.out);have Na:=lH (show x.size≤maxLen∧t.size≤maxLen by
      obtain⟨p,hp,-,rfl,ht⟩:=XH (VD.out.trans hb);obtain⟨-,n,hn,rfl⟩:=jaO ht;exact⟨(jd5 VV.out.here).1 p hp,(jd5 VV.out.here).2 n hn⟩)
     clear hb;go_wp2_with fail
     refine HN.out.mono ?_;rintro e9 w3 ⟨rfl,kk⟩;obtain⟨wx,hwx⟩:=eX (w3.alloc (.cells #[.string x,.string t] 31))
     have hkx:Kept wr wx:=by rw[←hwx];exact kk.trans (ja _ _)
     obtain⟨Vh,UR,KX,Tl,RF,Vd,Nb⟩:=lH7 (jc w3 (.string x) [.string t] 31 wx (by rw[hwx];exact Kept.refl _)) (show w3.heap.size<wx.heap.size by rw[←hwx];simp) hkx (Uq.out.kept hkx) (HO.out.kept hkx) (show Go.RowKit.Below mq W1 wx from Uk.out.trans (Below.mono hkx (by have:=Uk.out.size;have:=Tw.out;omega))) (show wr.heap.size≤w3.heap.size from kk.size);obtain⟨bq,hbq⟩:=eX (w3.heap.size)
     rw[hbq] at Vh UR Nb;have Nc:=lH (jht (VV.out.here.kept hkx) x t Na.out.2 U5.out.low);clear kk hkx HN y0 y1 y2;obtain⟨y0,y1,y2⟩:=Tl.out.at3;have b0:=Vh.out.at_ 0 _ rfl;have b1:=Vh.out.at_ 1 _ rfl;go_wp2_with fail
     try rw[hwx]
     try rw[hbq]
     go_wp2_with fail
     try rw[hwx]
     try rw[hbq]
     clear hwx hbq y0 y1 y2 b0 b1;refine Nc.out.mono ?_;rintro e9 w4 ⟨u1,v1,x1,u2,v2,x2,u3,v3,x3,rfl,hoc,kk⟩;obtain⟨T7,KM,UQ,Vh,Nd⟩:=lH5 hoc kk (Tl.out.kept kk) (Vh.out.kept kk) (RF.out.kept kk);clear hoc kk Nc;obtain⟨z0,z1,z2⟩:=UQ.out.at3;have f0:=UQ.out.free 0;have f1:=UQ.out.free 1;have f2:=UQ.out.free 2;obtain⟨P,GE,Uh⟩:=lH3 (j5 (vs:=[.slice u1 v1 x1,.slice u2 v2 x2,.slice u3 v3 x3]) UQ.out rfl) (jg.cells (S:=fun b=>b=mq) mq rfl [.slice u1 v1 x1,.slice u2 v2 x2,.slice u3 v3 x3] 0 w4) (show mq<wr.heap.size from Uq.out.lt);go_upto_region 8 with fail
     obtain⟨WE,hWE⟩:=eX (w4.setCells mq 0 [.slice u1 v1 x1,.slice u2 v2 x2,.slice u3 v3 x3])
     have hWE2:(((w4.setCell ⟨mq,0,none⟩ (.slice u1 v1 x1)).setCell ⟨mq,1,none⟩ (.slice u2 v2 x2)).setCell ⟨mq,2,none⟩ (.slice u3 v3 x3))=WE:=hWE;rw[hWE] at P GE;try rw[hWE2]
     have Tu:=lH (show Go.RowKit.Below mq W1 WE from by rw[←hWE];exact jt mq _ _ _ _ _ (Nat.le_refl _) (Vd.out.trans (Below.mono KM.out (by have:=Vd.out.size;have:=Tw.out;omega))));clear hWE hWE2 z0 z1 z2 f0 f1 f2;obtain⟨Nf,Tx,RG⟩:=lH3 (Vh.out.block (GE.out.block bq (Nat.lt_of_lt_of_le UR.out KM.out.size) (by have:=Nb.out;have:=Uh.out;omega))) (Nd.out.goff GE.out (fun j hj e=>by have:=(J5 Nd.out j hj).1;omega)) (T7.out.step (GE.out.mono fun b e=>by subst e;have:=Uh.out;have:=KX.out.size;omega));obtain⟨m,hm⟩:=eX ((bs.take k).length)
     have hmk:m=k:=by rw[←hm,List.length_take];omega
     have UY:=lH hmk;have VK:=lH (show WE.ownsRow (mq+1) 31 2 u7 m (je jz (bs.take k)) by have:=Tx.out.1;rw[hm] at this;exact this);have b0:=Nf.out.at_ 0 _ rfl;have b1:=Nf.out.at_ 1 _ rfl;have NQ:=lH (show mq+1≤WE.heap.size by have:=Tu.out.size;have:=Tw.out;omega);have hwz:=NQ.out;go_wp2_with (at_builtin;refine wpList_append_lies _ rfl _ _ _ rfl (mq+1) 31 i0 _ 2 32 Tryz.underlying47 hi hz0 hz1 hz2' rfl (by decide) u7 m (je jz (bs.take k)) rfl (VK.out.alloc _) ⟨WE.heap.size,0,none⟩ 1 1 (jz.cs (x,t)) rfl rfl (World.news_of_block (cs:=#[.string x,.string t]) (t:=31) (fr:=(0,0)) (heap_alloc_new WE _)) (jfb x t) (by decide) (by unfold maxLen;omega) (by omega) (by simp;omega) (WE.heap.size+1) (by simp) ?_;intro gg cap1 w6 hown1 hgrow hat hlt1)
     obtain⟨GA,UP,Ti⟩:=lH3 ((jg.of (ja WE _)).trans (jg.grown (S:=fun b=>u7.ownBlock=some b) hgrow (fun j hj=>hj))) (show bs.take (k+1)=bs.take k++[(x,t)] by rw[List.take_add_one,T6.out];rfl) (show goS (bs.take (k+1)) s=zZ sk x t by rw[jb6 T6.out,Up.out]);have NR:=lH (show jnW Z.heap.size mq s bs (k+1) W1 w6 _ from⟨_,_,_,_,_,_,_,_,_,P.out.cells.block (GA.out.block mq (by omega) (fun e=>by have:=(VK.out.lt mq e).1;omega)),by rw[Ti.out];exact fun u g9=>((RG.out.step (GA.out.mono fun b e=>by have:=(HO.out.1.lt b e).2;have:=KX.out.size;omega)).step (g9.mono fun b e=>by have:=U4.out;have:=Uh.out;have:=KX.out.size;omega)).toR,by rw[UP.out];exact Own.snoc hown1 (by rw[hm]) HO.out.2 Na.out,Tu.out.trans (GA.out.at_below (fun j hj=>by have:=(VK.out.lt j hj).1;omega) (by omega))⟩);have hkb2:k+1≤bs.length:=by have:=(List.getElem?_eq_some_iff.1 T6.out).1;omega
     clear b0 b1 hwz hown1 hgrow hat hlt1 hm hmk;go_wp2;go_roundw
     case rel=>exact⟨k+1,by omega,hkb2,by go_num,by have h9:=NR.out;rw[UY.out] at h9;exact h9⟩
     case measure=>simp[intOf];omega
  · skip;have hkk:¬(k:Int)<(pn:Int):=by omega
    go_upto_region 10 with fail
    have hfull:bs.take k=bs:=by rw[List.take_of_length_le (by have:=T5.out;omega)]
    have RB:=lH ((Rz.out.kept KZ.out).block (Uk.out.block rq (by have:=U4.out;have:=Vf.out;have:=U3.out;omega)));obtain⟨z0,z1,z2⟩:=RB.out.at3;have f0:=RB.out.free 0;have f1:=RB.out.free 1;have f2:=RB.out.free 2;obtain⟨y0,y1,y2⟩:=Uq.out.at3;obtain⟨P,GE,Th,Vy,KF⟩:=lH5 (j5 (vs:=[.slice a1 t1 c1,.slice a2 t2 c2,.slice a3 t3 c3]) RB.out rfl) (jg.cells (S:=fun b=>b=rq) rq rfl [.slice a1 t1 c1,.slice a2 t2 c2,.slice a3 t3 c3] 0 wr) (show Off (fun b=>b<Z.heap.size) wr fun u=>jC u (.agg #[.slice a1 t1 c1,.slice a2 t2 c2,.slice a3 t3 c3]) (goS bs s) by have:=VV.out;rw[hfull] at this;exact this) (show Own jz 31 wr (mq+1) _ bs by have:=HO.out;rw[hfull] at this;exact this) (show Kept w wr from Below.trans (HK.out.trans KZ.out) (Below.mono Uk.out (by have:=U4.out;have:=Vf.out;omega)));clear hfull;go_wp2;obtain⟨WE,hWE⟩:=eX (wr.setCells rq 0 [.slice a1 t1 c1,.slice a2 t2 c2,.slice a3 t3 c3])
    have hWE2:(((wr.setCell ⟨rq,0,none⟩ (.slice a1 t1 c1)).setCell ⟨rq,1,none⟩ (.slice a2 t2 c2)).setCell ⟨rq,2,none⟩ (.slice a3 t3 c3))=WE:=hWE;rw[hWE] at P GE;try rw[hWE2]
    have KE:=lH (show Kept w WE by rw[←hWE];exact jt rq _ _ _ _ _ (by have:=U3.out;omega) KF.out);clear hWE hWE2 z0 z1 z2 f0 f1 f2 y0 y1 y2;refine bodyPost_ret (by simp[results,Tryz.results12,go_sem,P.out.cells.at_ 0 _ rfl,P.out.cells.at_ 1 _ rfl,P.out.cells.at_ 2 _ rfl];try rfl) rfl ?_;exact⟨_,_,rfl,(Th.out.step (GE.out.mono fun b e=>by subst e;have:=Vf.out;have:=U3.out;omega)).here,Vy.out.goff GE.out (fun j hj e=>by have:=(J5 Vy.out j hj).1;have:=U4.out;have:=Vf.out;have:=U3.out;omega) |>.reads,KE.out⟩
end Go.Proofs.YtokdjfoalkmhiaaGreat
