/- C. -/
import Derived.Test.YtibepooajeakfaaGreatG3
import Derived.Test.YtibepooajeakfaaGreatG9
import Derived.Test.YtibepooajeakfaaGreatG17
import Derived.Test.YtibepooajeakfaaGreatG18
import Derived.Test.YtibepooajeakfaaGreatG21
import Derived.Test.YtibepooajeakfaaGreatG24
import Derived.Test.YtibepooajeakfaaGreatG26
set_option linter.unusedVariables false
set_option maxRecDepth 100000
set_option maxHeartbeats 25600000
namespace Go.Proofs.YtibepooajeakfaaGreat
open Go.RowKit Go.Shelf Go.Lib Go.Sort
theorem jch {α:Type} [Inhabited α] {P:Program} {kE:Nat} (L:ZO P kE) (enc:α→List Value) (cf:α→α→Int) (hO:SWO (ltOf cf)) (g:Nat) (cb:Array Value) (w0:World) (blk off cap size:Nat) (d0:Array α) (hs:d0.size=size)
 (eg:∀args w,(callFunc g args).run P w=.ok (.enter g args) w) (hcmp:CmpLays P g cb enc kE cf blk off d0.size w0) (R:RowK enc kE w0 blk off d0) (hsz:size<2305843009213693952) :
 ∀n,jdl P kE enc cf g cb w0 blk off cap size n:=by
 intro n
 induction n with
 | zero=>intro a m b za zm zb d w h;omega
 | succ n ih =>
  intro a m b za zm zb d w hn ham hmb hb hd ea em eb S s1 s2;subst ea em eb;subst hd;by_cases h1:m=a+1
  · subst h1;have:=jcm L enc cf hO g cb w0 blk off cap a b d0 d w eg hcmp R hs S hmb hb hsz s2;rw[show ((a+1:Nat):Int)=(a:Int)+1 from by omega];exact this
  · by_cases h2:b=m+1
    · subst h2;have:=jbR L enc cf hO g cb w0 blk off cap a m d0 d w eg hcmp R hs S (by omega) hb hsz s1;rw[show ((m+1:Nat):Int)=(m:Int)+1 from by omega];exact this
    · exact jdF L enc cf hO g cb w0 blk off cap a m b d0 d w eg hcmp R hs S (by omega) (by omega) hb hsz s1 s2
       (fun a' m' b' za zm zb d' w' h=>ih a' m' b' za zm zb d' w' (by omega))
theorem qX {α:Type} [Inhabited α] {P:Program} {kE:Nat} (L:ZO P kE) (enc:α→List Value) (cf:α→α→Int) (hO:SWO (ltOf cf)) (g:Nat) (cb:Array Value) (w0:World) (blk off cap a m b:Nat) (za zm zb:Int) (d0 d:Array α) (w:World)
 (eg:∀args w,(callFunc g args).run P w=.ok (.enter g args) w) (hcmp:CmpLays P g cb enc kE cf blk off d0.size w0) (R:RowK enc kE w0 blk off d0) (hs:d0.size=d.size) (hsz:d.size<2305843009213693952) (S:SWK enc kE w0 blk off d w)
 (ham:a<m) (hmb:m<b) (hb:b≤d.size) (ea:za=a) (em:zm=m) (eb:zb=b) (s1:SortedIn (ltOf cf) a m d) (s2:SortedIn (ltOf cf) m b d) (N:Nat) (hN:N=d.size) :
 Calls P 119 #[.slice (some ⟨blk,off,none⟩) N cap,.int .i64 za,.int .i64 zm,.int .i64 zb,.func (.func g) #[] cb] w (qx kE enc cf w0 blk off a b d):=by
 subst hN;exact jch L enc cf hO g cb w0 blk off cap d.size d0 hs eg hcmp R hsz (b-a+1) a m b za zm zb d w (by omega) ham hmb hb rfl ea em eb S s1 s2
def jhV:Go.Shelf.Ren:=⟨fun | 20=>118 | n=>n,fun | 0=>0 | 3=>3 | 4=>4 | 22=>23 | 24=>52 | 25=>88 | n=>n,fun | n=>n⟩
theorem jmN:Go.Proofs.SlLaysF0.n20 Tryz.prog jhV:={
 mixed:=by kernel_rfl
 f20:=⟨Tryz.f118.name,by decide,Tryz.func118.trans (congrArg some (by kernel_rfl))⟩
 t0:=Tryz.underlying0
 a0:=Tryz.isAgg0
 z0:=Tryz.sizeOf0
 v0:=Tryz.zeroValue0
 t3:=Tryz.underlying3
 a3:=Tryz.isAgg3
 z3:=Tryz.sizeOf3
 v3:=Tryz.zeroValue3
 t4:=Tryz.underlying4
 a4:=Tryz.isAgg4
 z4:=Tryz.sizeOf4
 v4:=Tryz.zeroValue4
 t22:=Tryz.underlying23
 a22:=Tryz.isAgg23
 z22:=Tryz.sizeOf23
 v22:=Tryz.zeroValue23
 t25:=Tryz.underlying88
 a25:=Tryz.isAgg88
 z25:=Tryz.sizeOf88
 v25:=Tryz.zeroValue88 }
theorem jaU {α:Type} [Inhabited α] (enc:α→List Value) (cf:α→α→Int) (hO:SWO (ltOf cf)) (g:Nat) (cb:Array Value) (w0:World) (blk off cap a b:Nat) (za zb:Int) (d0 d:Array α) (w:World)
 (eg:∀args w,(callFunc g args).run Tryz.prog w=.ok (.enter g args) w) (hcmp:CmpLays Tryz.prog g cb enc 11 cf blk off d0.size w0) (R:RowK enc 11 w0 blk off d0) (hs:d0.size=d.size) (hsz:d.size<2305843009213693952) (S:SWK enc 11 w0 blk off d w)
 (hab:a≤b) (hb:b≤d.size) (ea:za=a) (eb:zb=b) (N:Nat) (hN:N=d.size) :
 Calls Tryz.prog 118 #[.slice (some ⟨blk,off,none⟩) N cap,.int .i64 za,.int .i64 zb,.func (.func g) #[] cb] w (qx 11 enc cf w0 blk off a b d):=by
 subst hN ea eb;have hc:CmpLays Tryz.prog g cb enc 11 cf blk off d.size w:=fun m os dk hk x y=>by
  obtain⟨m',os',e⟩:=S.on R.hblk m dk os hk;rw[e];exact hcmp m' os' dk (hk.trans hs.symm) x y
 have hst:=AnyQ.insertionSortCmpFunc jmN 11 Tryz.isAgg52 Tryz.sizeOf52 enc R.hk R.h1 cf g cb blk off cap a b d w eg hc (S.holds R.hblk R.hH hs.symm) (S.lt R.hblk) hab hb (by omega);change Calls Tryz.prog 118 _ _ _ at hst;refine hst.mono ?_;rintro e w' ⟨rfl,n,os,rfl⟩;have h:=insertionSort_holds hO d a b hab hb;exact⟨rfl,_,h.1,h.2,S.on R.hblk n _ os h.1.1⟩
inductive YL {α:Type} [Inhabited α] (lt:α→α→Bool) (s:Nat) (d:Array α):Nat→Prop
 | zero:YL lt s d 0
 | snoc {a:Nat}:YL lt s d a→SortedIn lt a (a+s) d→YL lt s d (a+s)
inductive Zo {α:Type} [Inhabited α] (lt:α→α→Bool) (s n:Nat) (d:Array α):Nat→Prop
 | done {a:Nat}:n≤a→Zo lt s n d a
 | step {a:Nat}:SortedIn lt a (min (a+s) n) d→Zo lt s n d (a+s)→Zo lt s n d a
section
variable {α:Type} [Inhabited α] {lt:α→α→Bool} {s n a:Nat} {d d':Array α}
theorem YL.congr (h:YL lt s d a):(∀i,i<a→d'[i]! = d[i]!)→YL lt s d' a:=by
 induction h with
 | zero=>exact fun _=>.zero
 | snoc _ h2 ih=>exact fun g=>.snoc (ih fun i hi=>g i (by omega)) (h2.congr fun i h1 h2=>g i (by omega))
theorem Zo.congr (h:Zo lt s n d a):(∀i,a≤i→i<n→d'[i]! = d[i]!)→Zo lt s n d' a:=by
 induction h with
 | done h=>exact fun _=>.done h
 | step h1 _ ih=>exact fun g=>.step (h1.congr fun i h1 h2=>g i h1 (by omega)) (ih fun i hi=>g i (by omega))
theorem YL.blks (h:YL lt s d a):a≤n→Zo lt s n d a→Zo lt s n d 0:=by
 induction h with
 | zero=>exact fun _ g=>g
 | snoc h1 h2 ih=>exact fun hn g=>ih (by omega) (.step (by rw[Nat.min_eq_left hn];exact h2) g)
theorem Zo.head (h:Zo lt s n d a) (ha:a<n):SortedIn lt a (min (a+s) n) d∧Zo lt s n d (a+s):=by
 cases h with
 | done h=>omega
 | step h1 h2=>exact⟨h1,h2⟩
end
def jl7 {α:Type} [Inhabited α] (enc:α→List Value) (cf:α→α→Int) (w0:World) (blk:Nat) (d:Array α) (e:Ending) (w':World):Prop :=
 e=.returned (.tuple #[])∧∃d',PermIn 0 d.size d d'∧SortedIn (ltOf cf) 0 d.size d'∧SWK enc 11 w0 blk 0 d' w'
theorem jkS {α:Type} [Inhabited α] (enc:α→List Value) (cf:α→α→Int) (hO:SWO (ltOf cf)) (g:Nat) (cb:Array Value) (w:World) (blk cap:Nat) (d:Array α)
 (eg:∀args w,(callFunc g args).run Tryz.prog w=.ok (.enter g args) w) (hcmp:CmpLays Tryz.prog g cb enc 11 cf blk 0 d.size w) (R:RowK enc 11 w blk 0 d) (hsz:d.size<1000000000) :
 Calls Tryz.prog 70 #[.slice (some ⟨blk,0,none⟩) d.size cap,.int .i64 d.size,.func (.func g) #[] cb] w (jl7 enc cf w blk d):=by
 have HR:Aside _:=R;have HC:Aside _:=hcmp;have OO:Aside _:=hO;have S0:Aside (SWK enc 11 w blk 0 d w):=SWK.start R.hH;unfold jl7;clear R hcmp hO;go_enter Tryz.func70,Tryz.ntmps70;go_wp2;go_loopg [7,8] d.size (fun g1 va vb wr=>∃(a:Nat) (dk:Array α),va=.int .i64 a∧vb=.int .i64 ((a:Int)+20)∧a≤d.size∧d.size-a≤g1∧dk.size=d.size∧Aside (SWK enc 11 w blk 0 dk wr)∧Hid (PermIn 0 d.size d dk∧YL (ltOf cf) 20 dk a))
 case atStart=>exact⟨0,d,by go_num,by go_num,by omega,by omega,rfl,S0,permIn_refl _ _ _,.zero⟩
 case round =>
  clear S0;obtain⟨a,dk,rfl,rfl,ha,hg1,hsk,S1,HX⟩:=hrel;by_cases hlt:a+20≤d.size
  · have hz:(a:Int)+20≤(d.size:Int):=by omega
    have r1:IntKind.i64.wrap ((a:Int)+20+20)=(a:Int)+20+20:=by rw[IntKind.wrap_i64];omega
    have hc:=lH (jaU enc cf OO.out g cb w blk 0 cap a (a+20) a ((a:Int)+20) d dk wr eg HC.out HR.out hsk.symm (by omega) S1.out (by omega) (by omega) rfl (by omega) d.size hsk.symm);clear S1;go_wp2_with (go_at_call 118;refine hc.out.mono ?_;rintro e w1 ⟨rfl,d1,hE,hP,hS⟩)
    have H1:Hid (PermIn a (a+20) dk d1):=hE;have H2:Hid (SortedIn (ltOf cf) a (a+20) d1):=hP;have S2:Aside (SWK enc 11 w blk 0 d1 w1):=hS;clear hE hP hS;go_roundg (d.size-(a+20))
    case measure=>omega
    case rel=>exact⟨a+20,d1,by first | rfl | go_num | (congr 1;omega),by first | rfl | go_num | (congr 1;omega),by omega,Nat.le_refl _,by rw[H1.out.1];exact hsk,S2,permIn_trans _ _ _ _ _ HX.out.1 (permIn_mono _ _ _ _ _ _ (by omega) (by omega) (by omega) H1.out),.snoc (HX.out.2.congr fun i hi=>H1.out.2.1 i (by omega)) H2.out⟩
  · have hz:¬(a:Int)+20≤(d.size:Int):=by omega
    have hc:=lH (jaU enc cf OO.out g cb w blk 0 cap a d.size a d.size d dk wr eg HC.out HR.out hsk.symm (by omega) S1.out (by omega) (by omega) rfl rfl d.size hsk.symm);clear S1;go_wp2_with (go_at_call 118;refine hc.out.mono ?_;rintro e w1 ⟨rfl,d1,hE,hP,hS⟩)
    have HB:Hid (PermIn 0 d.size d d1∧Zo (ltOf cf) 20 d.size d1 0) :=
     ⟨permIn_trans _ _ _ _ _ HX.out.1 (permIn_mono _ _ _ _ _ _ (by omega) (by omega) (by omega) hE),(HX.out.2.congr fun i hi=>hE.2.1 i (by omega)).blks ha (.step (by rw[Nat.min_eq_right (by omega)];exact hP) (.done (by omega)))⟩
    have hz1:d1.size=d.size:=by rw[hE.1];exact hsk
    have S2:Aside (SWK enc 11 w blk 0 d1 w1):=hS;clear hE hP hS hc HX hz hlt ha hg1;go_loopg [6,7,8] d.size (fun g2 vs va vb wr2=>∃(s:Nat) (dk:Array α),vs=.int .i64 s∧0<s∧s≤2*d.size+20∧d.size-s≤g2∧dk.size=d.size∧Aside (SWK enc 11 w blk 0 dk wr2)∧Hid (PermIn 0 d.size d dk∧Zo (ltOf cf) s d.size dk 0))
    case atStart=>exact⟨20,d1,rfl,by omega,by omega,by omega,hz1,S2,HB⟩
    case round =>
     clear S2 HB hz1;obtain⟨s,dk,rfl,hs0,hs1,hg2,hsk,S3,HX⟩:=hrel;by_cases hls:s<d.size
     · have hlz:(s:Int)<(d.size:Int):=by omega
       have r2:IntKind.i64.wrap (2*(s:Int))=2*(s:Int):=by rw[IntKind.wrap_i64];omega
       have r2':IntKind.i64.wrap ((s:Int)*2)=(s:Int)*2:=by rw[IntKind.wrap_i64];omega
       go_wp2_with fail
       go_loopg [7,8] d.size (fun g3 va vb wr3=>∃(a:Nat) (dj:Array α),va=.int .i64 a∧vb=.int .i64 ((a:Int)+2*(s:Int))∧a≤d.size∧d.size-a≤g3∧dj.size=d.size∧Aside (SWK enc 11 w blk 0 dj wr3)∧Hid (PermIn 0 d.size d dj∧YL (ltOf cf) (2*s) dj a∧Zo (ltOf cf) s d.size dj a))
       case atStart=>exact⟨0,dk,by first | rfl | go_num,by first | rfl | go_num | (congr 1;omega),by omega,by omega,hsk,S3,HX.out.1,.zero,HX.out.2⟩
       case round =>
        clear S3 HX hsk;obtain⟨a,dj,rfl,rfl,ha,hg3,hsk,S4,HY⟩:=hrel;have r3:IntKind.i64.wrap ((a:Int)+(s:Int))=(a:Int)+(s:Int):=by rw[IntKind.wrap_i64];omega
        have r4:IntKind.i64.wrap ((a:Int)+2*(s:Int)+2*(s:Int))=(a:Int)+2*(s:Int)+2*(s:Int):=by rw[IntKind.wrap_i64];omega
        by_cases hlt:a+2*s≤d.size
        · have hz:(a:Int)+2*(s:Int)≤(d.size:Int):=by omega
          obtain⟨p1,p2⟩:=HY.out.2.2.head (by omega);obtain⟨p3,p4⟩:=p2.head (by omega);rw[Nat.min_eq_left (by omega)] at p1;rw[Nat.min_eq_left (by omega)] at p3;have hc:=lH (qX jiT enc cf OO.out g cb w blk 0 cap a (a+s) (a+2*s) a ((a:Int)+s) ((a:Int)+2*s) d dj wr eg HC.out HR.out hsk.symm (by omega) S4.out (by omega) (by omega) (by omega) rfl (by omega) (by omega) p1 (by rw[show a+2*s=a+s+s from by omega];exact p3) d.size hsk.symm);have H4:Hid (Zo (ltOf cf) s d.size dj (a+2*s)):=by rw[show a+2*s=a+s+s from by omega];exact p4
          clear S4 p1 p2 p3 p4;go_wp2_with (go_at_call 119;refine hc.out.mono ?_;rintro e w2 ⟨rfl,d2,hE,hP,hS⟩)
          have H1:Hid (PermIn a (a+2*s) dj d2):=hE;have H2:Hid (SortedIn (ltOf cf) a (a+2*s) d2):=hP;have S5:Aside (SWK enc 11 w blk 0 d2 w2):=hS;clear hE hP hS hc;go_roundg (d.size-(a+2*s))
          case measure=>omega
          case rel=>exact⟨a+2*s,d2,by first | rfl | go_num | (congr 1;omega),by first | rfl | go_num | (congr 1;omega),by omega,Nat.le_refl _,by rw[H1.out.1];exact hsk,S5,permIn_trans _ _ _ _ _ HY.out.1 (permIn_mono _ _ _ _ _ _ (by omega) (by omega) (by omega) H1.out),.snoc (HY.out.2.1.congr fun i hi=>H1.out.2.1 i (by omega)) H2.out,H4.out.congr fun i h1 h2=>H1.out.2.1 i (by omega)⟩
        · have hz:¬(a:Int)+2*(s:Int)≤(d.size:Int):=by omega
          by_cases hm:a+s<d.size
          · have hmz:(a:Int)+(s:Int)<(d.size:Int):=by omega
            obtain⟨p1,p2⟩:=HY.out.2.2.head (by omega);obtain⟨p3,p4⟩:=p2.head hm;rw[Nat.min_eq_left (by omega)] at p1;rw[Nat.min_eq_right (by omega)] at p3;have hc:=lH (qX jiT enc cf OO.out g cb w blk 0 cap a (a+s) d.size a ((a:Int)+s) d.size d dj wr eg HC.out HR.out hsk.symm (by omega) S4.out (by omega) (by omega) (by omega) rfl (by omega) rfl p1 p3 d.size hsk.symm);clear S4 p1 p2 p3 p4;go_wp2_with (go_at_call 119;refine hc.out.mono ?_;rintro e w2 ⟨rfl,d2,hE,hP,hS⟩)
            have HB:Hid (PermIn 0 d.size d d2∧Zo (ltOf cf) (2*s) d.size d2 0) :=
             ⟨permIn_trans _ _ _ _ _ HY.out.1 (permIn_mono _ _ _ _ _ _ (by omega) (by omega) (by omega) hE),(HY.out.2.1.congr fun i hi=>hE.2.1 i (by omega)).blks ha (.step (by rw[Nat.min_eq_right (by omega)];exact hP) (.done (by omega)))⟩
            have hz1:d2.size=d.size:=by rw[hE.1];exact hsk
            have S5:Aside (SWK enc 11 w blk 0 d2 w2):=hS;clear hE hP hS hc HY;go_roundg (d.size-2*s)
            case measure=>omega
            case rel=>exact⟨2*s,d2,by first | rfl | go_num | (congr 1;omega),by omega,by omega,Nat.le_refl _,hz1,S5,HB⟩
          · have hmz:¬(a:Int)+(s:Int)<(d.size:Int):=by omega
            have HB:Hid (PermIn 0 d.size d dj∧Zo (ltOf cf) (2*s) d.size dj 0) :=
             ⟨HY.out.1,HY.out.2.1.blks ha (by
              rcases Nat.lt_or_ge a d.size with q | q
              · obtain⟨p1,p2⟩:=HY.out.2.2.head q;rw[Nat.min_eq_right (by omega)] at p1;exact .step (by rw[Nat.min_eq_right (by omega)];exact p1) (.done (by omega))
              · exact .done q)⟩
            clear HY;go_wp2_with fail
            go_roundg (d.size-2*s)
            case measure=>omega
            case rel=>exact⟨2*s,dj,by first | rfl | go_num | (congr 1;omega),by omega,by omega,Nat.le_refl _,hsk,S4,HB⟩
     · have hlz:¬(s:Int)<(d.size:Int):=by omega
       have HF:Hid (SortedIn (ltOf cf) 0 d.size dk):=by
        rcases Nat.eq_zero_or_pos d.size with q | q
        · intro i j h1 h2 h3;omega
        · obtain⟨p1,-⟩:=HX.out.2.head q;rw[Nat.min_eq_right (by omega)] at p1;exact p1
       go_wp2_with fail
       go_end0
       exact⟨rfl,dk,HX.out.1,HF.out,S3.out⟩
end Go.Proofs.YtibepooajeakfaaGreat
namespace Go.Proofs.YtibepooajeakfaaGreat
open Go.RowKit Go.Shelf Go.Lib Go.Sort
instance:Inhabited Pd:=⟨Pd.zero⟩
theorem jiy (n m:Pd) (v1 v2 v3 v4 u1 u2 u3 u4:Value) (w:World) :
 Calls Tryz.prog 33 #[jw n v1 v2 v3 v4,jw m u1 u2 u3 u4] w fun e w'=>e=.returned (.int .i64 (YO n m))∧Grw w w':=by
 obtain⟨W0,hW0⟩:=eX ((w.alloc (.cells #[.string n.name,.string n.owner,.int .i64 n.prio,v1,v2,v3,v4,.string n.key,.int .i64 n.most,.string n.node,.bool n.hold] 52)).alloc (.cells #[.string m.name,.string m.owner,.int .i64 m.prio,u1,u2,u3,u4,.string m.key,.int .i64 m.most,.string m.node,.bool m.hold] 52))
 have hk0:Kept w W0:=by rw[←hW0];exact jm _ _ _
 have HC:=lH (show ∀W,Kept W0 W→W.cell? ⟨w.heap.size,0,none⟩=some (.string n.name)∧W.cell? ⟨w.heap.size,2,none⟩=some (.int .i64 n.prio)∧W.cell? ⟨w.heap.size+1,0,none⟩=some (.string m.name)∧W.cell? ⟨w.heap.size+1,2,none⟩=some (.int .i64 m.prio) from fun W k=>by
  have c:=jb w (.string n.name) [.string n.owner,.int .i64 n.prio,v1,v2,v3,v4,.string n.key,.int .i64 n.most,.string n.node,.bool n.hold] 52 W (by rw[←hW0] at k;exact(ja _ _).trans k);have d:=jb (w.alloc (.cells #[.string n.name,.string n.owner,.int .i64 n.prio,v1,v2,v3,v4,.string n.key,.int .i64 n.most,.string n.node,.bool n.hold] 52)) (.string m.name) [.string m.owner,.int .i64 m.prio,u1,u2,u3,u4,.string m.key,.int .i64 m.most,.string m.node,.bool m.hold] 52 W (by rw[hW0];exact k);rw[World.size_alloc] at d;exact⟨c.at_ 0 _ rfl,c.at_ 2 _ rfl,d.at_ 0 _ rfl,d.at_ 2 _ rfl⟩)
 have EI:=lH (fun W=>jep m.prio n.prio W);have ES:=lH (fun W=>je8 n.name m.name W);obtain⟨x,hx⟩:=eX (JX m.prio n.prio)
 obtain⟨y,hy⟩:=eX (ZW n.name m.name)
 rw[hx] at EI;rw[hy] at ES;have HV:=lH (show YO n m=orL [x,y] by
  unfold YO;rw[hx,hy];show _=if x≠0 then x else if y≠0 then y else 0
  by_cases z:y=0
  · subst z;simp
  · rw[if_pos z])
 have UJ:=lH (show Calls Tryz.prog 71 #[.slice (some ⟨W0.heap.size,0,none⟩) 2 2] (W0.drew.alloc (.cells #[.int .i64 x,.int .i64 y] 3)) _ from jf7 W0.heap.size 2 [x,y] _ rfl (by decide) (jj9 W0.drew x y 3));have Vd:=lH (show Grw w W0 by rw[←hW0];exact(Grw.alloc _ _).trans (Grw.alloc _ _));clear hx hy hk0;obtain⟨c0,c1,c2,c3⟩:=HC.out _ (Kept.refl _);unfold jw;go_enter Tryz.func33,Tryz.ntmps33;go_wp2;try rw[hW0]
 clear hW0
 go_region_held3 (fun W=>W.cell? ⟨w.heap.size,0,none⟩=some (.string n.name)∧W.cell? ⟨w.heap.size,2,none⟩=some (.int .i64 n.prio)∧W.cell? ⟨w.heap.size+1,0,none⟩=some (.string m.name)∧W.cell? ⟨w.heap.size+1,2,none⟩=some (.int .i64 m.prio))
  (first | exact HC.out _ (Kept.drew _) | exact HC.out _ ((Kept.drew _).trans (ja _ _)))
  (first | (go_at_call 72;refine(EI.out _).mono ?_;rintro e1 w1 ⟨rfl,rfl⟩)
         | (go_at_call 73;refine(ES.out _).mono ?_;rintro e2 w2 ⟨rfl,rfl⟩)
         | (go_at_call 71;refine UJ.out.mono ?_;rintro e3 w3 ⟨rfl,rfl⟩))
 go_wp2;go_ret;exact⟨jc HV.out.symm,Vd.out.trans ((Grw.drewN _ 1).trans (Grw.alloc _ _))⟩
theorem jfS:∀args w,(callFunc 33 args).run Tryz.prog w=.ok (.enter 33 args) w:=enters_of Tryz.func33 (by kernel_rfl) rfl
def cfP (x y:PX):Int:=YO x.1 y.1
theorem jiO (blk size:Nat) (w:World):CmpLays Tryz.prog 33 #[] PodLay0.cs 11 cfP blk 0 size w:=fun m os dk hs x y =>
 jiy x.1 y.1 (slV x.2.1) (slV x.2.2.1) (slV x.2.2.2.1) (slV x.2.2.2.2) (slV y.2.1) (slV y.2.2.1) (slV y.2.2.2.1) (slV y.2.2.2.2) _
theorem jk4:SWO (ltOf cfP) where
 irrefl x:=qQ x.1
 trans x y z h1 h2:=Xs (x:=x.1) (y:=y.1) (z:=z.1) h1 h2
 ntrans x y z h1 h2:=qJ (x:=x.1) (y:=y.1) (z:=z.1) h1 h2
theorem jfb (zs:List PX) (t:Nat) (h:t<zs.length*11):∃u,(jd PodLay0 zs)[t]?=some u∧(flatK PodLay0.cs 11 zs.toArray)[t]! = u:=by
 have h3:t / 11<zs.length:=by omega
 have h4:t % 11<(PodLay0.cs zs[t / 11]).length:=by show t % 11<11;omega
 have e2:=ZL PodLay0 zs (t / 11) zs[t / 11] (t % 11) ((PodLay0.cs zs[t / 11])[t % 11]'h4) (List.getElem?_eq_getElem h3) (List.getElem?_eq_getElem h4);rw[show t / 11*PodLay0.m+t % 11=t from by show t / 11*11+t % 11=t;omega] at e2;refine⟨_,e2,?_⟩;rw[get_flatK _ _ _ _ (by simpa using h),getElem!_pos zs.toArray (t / 11) (by simpa using h3)];simp only[List.getElem_toArray];rw[getElem!_pos (PodLay0.cs zs[t / 11]) (t % 11) h4]
theorem jiw {W:World} {T:TypeId} {base g n cap:Nat} {zs:List PX} (h:Own PodLay0 T W base (.slice (some ⟨g,0,none⟩) n cap) zs):HoldsK PodLay0.cs 11 W g 0 zs.toArray:=fun t htl=>by
 have htl2:t<zs.length*11:=by simpa using htl
 obtain⟨u,h1,h2⟩:=jfb zs t htl2;have hn:n=zs.length:=by obtain⟨a,c,e,_⟩:=h.at_;cases e;rfl
 refine⟨?_,h.frozen_at _⟩;rw[h2,Nat.zero_add];subst hn;rw[h.1.cellAt t htl2];exact h1
theorem jg1 {w:World} {B g n cap m:Nat} {lx ly:List PX} {os:Array Obj} (ho:Own PodLay0 52 w B (.slice (some ⟨g,0,none⟩) n cap) lx) (hl:ly.length=lx.length):Own PodLay0 52 (sortWorldK PodLay0.cs 11 w g 0 m ly.toArray os) B (.slice (some ⟨g,0,none⟩) n cap) ly:=by
 have hn9:n=lx.length:=by obtain⟨a,c,e,_⟩:=ho.at_;cases e;rfl
 subst hn9;obtain⟨cur,hB,hg,hn,hm,hs,ht,hlen⟩:=Jc ho.1;have hlt:g<w.heap.size:=by
  rcases Nat.lt_or_ge g w.heap.size with h | h
  · exact h
  · rw[Array.getElem?_eq_none h] at hg;cases hg
 have h1:(sortWorldK PodLay0.cs 11 w g 0 m ly.toArray os).heap[g]?=some (.cells (putCells id 0 (flatK PodLay0.cs 11 ly.toArray) cur) 52 (0,0)):=by
  unfold sortWorldK putRowK putRow;have e0:((mapBlock (Sort.ahead w m) g (putCells id 0 (flatK PodLay0.cs 11 ly.toArray))).heap)[g]?=some (.cells (putCells id 0 (flatK PodLay0.cs 11 ly.toArray) cur) 52 (0,0)):=by
   unfold mapBlock;have:(Sort.ahead w m).heap[g]?=some (.cells cur 52 (0,0)):=hg;simp only[Array.getElem?_modify,if_true,this,Option.map_some,onCells]
  unfold grow;rw[Array.getElem?_append_left (by
   rcases Nat.lt_or_ge g (mapBlock (Sort.ahead w m) g (putCells id 0 (flatK PodLay0.cs 11 ly.toArray))).heap.size with h | h
   · exact h
   · rw[Array.getElem?_eq_none h] at e0;cases e0)]
  exact e0
 have hl2:(jd PodLay0 ly).length=lx.length*11:=by rw[jR,hl];rfl
 have hown:=X4 (s:=11) (n:=lx.length) (cap:=cap) (xs:=jd PodLay0 ly) hB h1 hn hm (by simp only[putCells,Array.size_mapIdx];exact hs) hl2 (fun j hj=>by
  obtain⟨u,g1,g2⟩:=jfb ly j (by omega);have hj2:j<cur.size:=by rw[hs];have:=Nat.mul_le_mul_right 11 hn;show j<cap*11;omega
  rw[g1];simp only[putCells,Array.getElem?_mapIdx,Array.getElem?_eq_getElem hj2,Option.map_some];rw[if_pos ⟨Nat.zero_le _,by rw[size_flatK];simp;omega⟩,Nat.sub_zero,g2];rfl)
 refine⟨?_,fun _ _=>trivial⟩;rw[hl];exact hown
theorem jfV (w:World) (g m:Nat) (ly:Array PX) (os:Array Obj):jg (fun b=>b=g) w (sortWorldK PodLay0.cs 11 w g 0 m ly os):=by
 unfold sortWorldK putRowK;have h1:jg (fun b=>b=g) w (putRow id (Sort.ahead w m) g 0 (flatK PodLay0.cs 11 ly)):=by
  refine⟨rfl,rfl,rfl,?_,fun k hk hn=>?_⟩
  · unfold putRow mapBlock;simp[Sort.ahead]
  · unfold putRow mapBlock;simp only[Array.getElem?_modify];rw[if_neg (fun e=>hn e.symm)];rfl
 exact h1.trans (jg.of (Go.Lib.below_grow _ _ (Nat.le_refl _) 0 os))
def jjQ (B g n cap:Nat) (lx:List PX) (w:World) (e:Ending) (w':World):Prop:=e=.returned (.tuple #[])∧∃ly:List PX,ly.Perm lx∧(ly.Pairwise fun a b=>zh b.1 a.1=false)∧Own PodLay0 52 w' B (.slice (some ⟨g,0,none⟩) n cap) ly∧jg (fun b=>b=g) w w'
theorem jd7 (B g n cap:Nat) (lx:List PX) (w:World) (ho:Own PodLay0 52 w B (.slice (some ⟨g,0,none⟩) n cap) lx) (hn:n<1000000000) :
 Calls Tryz.prog 70 #[.slice (some ⟨g,0,none⟩) n cap,.int .i64 n,.func (.func 33) #[] #[]] w (jjQ B g n cap lx w):=by
 have hn9:n=lx.length:=by obtain⟨a,c,e,_⟩:=ho.at_;cases e;rfl
 subst hn9;have h:=jkS PodLay0.cs cfP jk4 33 #[] w g cap lx.toArray jfS (jiO _ _ _) ⟨PodLay0.len,PodLay0.one,jiw ho,(Jy ho g rfl).2⟩ (by simpa using hn);simp only[List.size_toArray] at h;refine h.mono ?_;rintro e w' ⟨rfl,d',hp,hs,m,os,rfl⟩;have hsz:d'.size=lx.length:=by simpa using hp.1
 have hperm:d'.toList.Perm lx:=by
  have:=hp.2.2;simp only[Array.toList_extract,List.extract_eq_take_drop,List.drop_zero,Nat.sub_zero] at this;rw[List.take_of_length_le (by simp;omega),List.take_of_length_le (by simp)] at this;exact this
 refine⟨rfl,d'.toList,hperm,?_,?_,?_⟩
 · rw[List.pairwise_iff_getElem];intro i j hi hj hij;have h2:=hs i j (Nat.zero_le _) hij (by have q:=hj;simp only[Array.length_toList] at q;simp only[List.size_toArray];omega);rw[getElem!_pos d' j (by simpa using hj),getElem!_pos d' i (by simpa using hi)] at h2;simp only[Array.getElem_toList];exact h2
 · have:=jg1 (m:=m) (os:=os) (ly:=d'.toList) ho (by simpa using hsz);simpa using this
 · have:=jfV w g m d' os;simpa using this
theorem jgT (B g n cap:Nat) (lx:List PX) (w:World) (ho:Own PodLay0 52 w B (.slice (some ⟨g,0,none⟩) n cap) lx) (hn:n<1000000000) :
 Calls Tryz.prog 32 #[.slice (some ⟨g,0,none⟩) n cap,.func (.func 33) #[] #[]] w (jjQ B g n cap lx w):=by
 have HC:=lH (jd7 B g n cap lx w ho hn);clear ho hn;unfold jjQ at HC ⊢;go_enter Tryz.func32,Tryz.ntmps32;go_wp2_with fail
 refine HC.out.mono ?_;rintro e w1 ⟨rfl,d',hp⟩;have HP:=lH hp;clear hp;go_wp2_with fail
 go_end0
 exact⟨rfl,d',HP.out⟩
theorem jdx (w:World):Calls Tryz.prog 70 #[.slice none 0 0,.int .i64 0,.func (.func 33) #[] #[]] w
 fun e w'=>e=.returned (.tuple #[])∧w=w':=by
 have hi:Calls Tryz.prog 118 #[.slice none 0 0,.int .i64 0,.int .i64 0,.func (.func 33) #[] #[]] w fun e w'=>e=.returned (.tuple #[])∧w=w':=by
  go_enter Tryz.func118,Tryz.ntmps118;go_wp2;refine wp_loop_rounds 1 ?_;rw[rounds_succ];go_wp2;go_end0
  exact⟨rfl,rfl⟩
 go_enter Tryz.func70,Tryz.ntmps70;go_wp2;refine wp_loop_rounds 1 ?_;rw[rounds_succ];go_wp2_with fail
 refine hi.mono ?_;rintro e w1 ⟨rfl,rfl⟩;go_wp2_with fail
 refine wp_loop_rounds 1 ?_;rw[rounds_succ];go_wp2;go_end0
 exact⟨rfl,rfl⟩
theorem jfy (w:World):Calls Tryz.prog 32 #[.slice none 0 0,.func (.func 33) #[] #[]] w
 fun e w'=>e=.returned (.tuple #[])∧w=w':=by
 have HC:=lH (jdx w);go_enter Tryz.func32,Tryz.ntmps32;go_wp2_with fail
 refine HC.out.mono ?_;rintro e w1 ⟨rfl,rfl⟩;go_wp2_with fail
 go_end0
 exact⟨rfl,rfl⟩
open Go.RowKit
theorem jaR (a b d:Option Addr) (len cap m c n e:Nat) (nl:List Nod) (pl:List Pd) (bl:List Bd) (w:World) (hn:jt w a len nl) (hp:jC w b m pl) (hb:zA w d n bl) (h1:len≤cap) (h2:cap≤maxLen) (h3:m≤c) (h4:c≤maxLen) (h5:n≤e) (h6:e≤maxLen) (hl:jA ⟨nl,pl,bl⟩) :
 Calls Tryz.prog 30 #[.agg #[.slice a len cap,.slice b m c,.slice d n e]] w fun e w'=>∃a1 n1 c1 a2 n2 c2 a3 n3 c3,e=.returned (.agg #[.slice a1 n1 c1,.slice a2 n2 c2,.slice a3 n3 c3])∧jI (fun b=>b<w.heap.size) w.heap.size w' (.slice a1 n1 c1) (.slice a2 n2 c2) (.slice a3 n3 c3) ⟨nl,pl,bl⟩∧Kept w w':=by
 obtain⟨Z,hZ⟩:=eX ((w.alloc (.cells #[.slice a len cap,.slice b m c,.slice d n e] 26)).alloc (.cells #[.slice none 0 0,.slice none 0 0,.slice none 0 0] 26))
 have hkz:Kept w Z:=by rw[←hZ];exact jm _ _ _
 have hzs:Z.heap.size=w.heap.size+2:=by rw[←hZ];simp
 have cc:=jb w (.slice a len cap) [.slice b m c,.slice d n e] 26 Z (by rw[←hZ];exact ja _ _);have HQ:=lH (show je (w.heap.size+1) [.slice none 0 0,.slice none 0 0,.slice none 0 0] Z by
  have dd:=jb (w.alloc (.cells #[.slice a len cap,.slice b m c,.slice d n e] 26)) (.slice none 0 0) [.slice none 0 0,.slice none 0 0] 26 Z (by rw[hZ];exact Kept.refl _);rw[World.size_alloc] at dd;exact dd)
 have Vc:=lH hkz;have Vf:=lH hzs;by_cases hm0:m=0
 · subst hm0;have hpl:pl=[]:=List.length_eq_zero_iff.1 hp.1;subst hpl;have h0:(((0:Nat):Int)==0)=true:=rfl;have HC:=lH (qE a b d len cap 0 c n e nl [] bl ⟨#[]⟩ ⟨#[]⟩ Z (by decide) (hn.kept hkz) (hp.kept hkz) (hb.kept hkz) h1 h2 h3 h4 h5 h6 hl);obtain⟨o0,o1,o2⟩:=cc.at3;clear hn hp hb h1 h2 h3 h4 h5 h6 hl hkz cc hzs;go_enter Tryz.func30,Tryz.ntmps30;go_wp2_with fail
   try rw[hZ]
   go_wp2_with fail
   try rw[hZ]
   clear hZ o0 o1 o2;refine HC.out.mono ?_;rintro e9 w1 ⟨a1,n1,c1,a2,n2,c2,a3,n3,c3,rfl,ho,k⟩;obtain⟨HO,K,HQ⟩:=lH3 ho k (HQ.out.kept k);clear ho k HC;obtain⟨z0,z1,z2⟩:=HQ.out.at3;have f0:=HQ.out.free 0;have f1:=HQ.out.free 1;have f2:=HQ.out.free 2;have P:=lH (j4 (vs:=[.slice a1 n1 c1,.slice a2 n2 c2,.slice a3 n3 c3]) HQ.out rfl);go_wp2;obtain⟨WE,hWE⟩:=eX (w1.setCells (w.heap.size+1) 0 [.slice a1 n1 c1,.slice a2 n2 c2,.slice a3 n3 c3])
   have hWE2:(((w1.setCell ⟨(w.heap.size+1),0,none⟩ (.slice a1 n1 c1)).setCell ⟨(w.heap.size+1),1,none⟩ (.slice a2 n2 c2)).setCell ⟨(w.heap.size+1),2,none⟩ (.slice a3 n3 c3))=WE:=hWE;rw[hWE] at P;try rw[hWE2]
   have GE:=lH (show jg (fun b=>b<Z.heap.size) w1 WE by rw[←hWE];exact jg.cells (S:=fun b=>b<Z.heap.size) _ (by have:=Vf.out;omega) _ _ _);clear hWE hWE2;obtain⟨PC,hsz,hbl,hkp⟩:=P.out;refine bodyPost_ret (by simp[results,Tryz.results30,go_sem,PC.at_ 0 _ rfl,PC.at_ 1 _ rfl,PC.at_ 2 _ rfl];try rfl) rfl ?_;have Vo:=(HO.out.step GE.out).less (B':=w.heap.size) (S':=fun b=>b<w.heap.size) Vc.out.size (fun b hb=>Nat.lt_of_lt_of_le hb Vc.out.size);exact⟨_,_,_,_,_,_,_,_,_,rfl,Vo,hkp _ _ (by omega) (Vc.out.trans K.out)⟩
 · have h0:((m:Int)==0)=false:=by simp;omega
   obtain⟨bb,bo,rfl⟩:=hp.form.resolve_left (by omega);obtain⟨x,xa1,xm1,xc1,xa2,xm2,xc2,xa3,xm3,xc3,xa4,xm4,xc4,hx,hd,hbl9,p0,p1,p2,p3,p4,p5,p6,p7,p8,p9,p10,hat⟩:=hp.at_ (show 0<m by omega);have hpx:pl=x::pl.drop 1:=hd;have hmv:zL ⟨nl,pl,bl⟩ x.name x.node=⟨nl,pl,bl⟩:=by
    unfold zL;rw[hpx];show (⟨nl,Jm x.name x.node (x::pl.drop 1),bl⟩:Clu)=_;rw[Jm,if_pos (J7 _)]
   simp only[Nat.zero_mul,Nat.add_zero] at p0 p9;have HF:=lH (show ∀W,jg (fun b=>b=w.heap.size+1) Z W→W.cell? ⟨w.heap.size,0,none⟩=some (.slice a len cap)∧W.cell? ⟨w.heap.size,1,none⟩=some (.slice (some ⟨bb,bo,none⟩) m c)∧W.cell? ⟨w.heap.size,2,none⟩=some (.slice d n e)∧W.cell? ⟨bb,bo,none⟩=some (.string x.name)∧W.cell? ⟨bb,bo+9,none⟩=some (.string x.node) from fun W g=>by
    have h1:=cc.block (g.block w.heap.size (by omega) (by omega));have q0:=(World.cell?_of_block (a:=⟨bb,bo,none⟩) (g.block bb (by omega) (by omega))).trans (cell_later hkz p0);have q9:=(World.cell?_of_block (a:=⟨bb,bo+9,none⟩) (g.block bb (by omega) (by omega))).trans (cell_later hkz p9);exact⟨h1.at_ 0 _ rfl,h1.at_ 1 _ rfl,h1.at_ 2 _ rfl,q0,q9⟩)
   have HC:=lH (show ∀W,Kept Z W→Calls Tryz.prog 17 #[.agg #[.slice a len cap,.slice (some ⟨bb,bo,none⟩) m c,.slice d n e],.string x.name,.string x.node] W fun e w'=>∃a1 n1 c1 a2 n2 c2 a3 n3 c3,e=.returned (.agg #[.slice a1 n1 c1,.slice a2 n2 c2,.slice a3 n3 c3])∧jI (fun b=>b<W.heap.size) W.heap.size w' (.slice a1 n1 c1) (.slice a2 n2 c2) (.slice a3 n3 c3) ⟨nl,pl,bl⟩∧Kept W w' from fun W k=>by
    have hc:=qE a (some ⟨bb,bo,none⟩) d len cap m c n e nl pl bl x.name x.node W hat.node (hn.kept (hkz.trans k)) (hp.kept (hkz.trans k)) (hb.kept (hkz.trans k)) h1 h2 h3 h4 h5 h6 hl;rw[hmv] at hc;exact hc)
   have hmz:(0:Int)<(m:Int):=by omega
   have hmn:0<m:=by omega
   obtain⟨xn,hxn⟩:=eX (x.name)
   obtain⟨xd,hxd⟩:=eX (x.node)
   rw[hxn,hxd] at HF HC;obtain⟨o0,o1,o2,o3,o4⟩:=HF.out Z (jg.of (Kept.refl _));clear hn hp hb h1 h2 h3 h4 h5 h6 hl hkz cc hat hd hbl9 hx hpx hmv p0 p1 p2 p3 p4 p5 p6 p7 p8 p9 p10 hm0 hzs hxn hxd;go_enter Tryz.func30,Tryz.ntmps30;go_upto_region 3 with fail
   try rw[hZ]
   clear hZ o0 o1 o2 o3 o4;have J:=lH (Kept.drew Z);refine wp_region_held_drew (S:=fun W=>W.cell? ⟨w.heap.size,0,none⟩=some (.slice a len cap)∧W.cell? ⟨w.heap.size,1,none⟩=some (.slice (some ⟨bb,bo,none⟩) m c)∧W.cell? ⟨w.heap.size,2,none⟩=some (.slice d n e)∧W.cell? ⟨bb,bo,none⟩=some (.string xn)∧W.cell? ⟨bb,bo+9,none⟩=some (.string xd)) (by kernel_rfl) (HF.out _ (jg.of J.out)) (fun hHeld=>?_);obtain⟨wd,hwd⟩:=eX (Z.drew)
   rw[hwd] at J hHeld;try rw[hwd]
   clear hwd;refine wpAnyH_take  (i:=0) (v:=?_) (by rw[List.getElem?_toArray];exact rfl) (by kernel_rfl) (by kernel_rfl) (by kernel_rfl) (by exact fun _ _ _ h=>h) (Or.inl ⟨by rfl,(by rintro W ⟨o0,o1,o2,o3,o4⟩;go_simp<;>with_reducible rfl)⟩) (by assumption) ?_;try simp only  [Act.put,List.setIfInBounds_toArray,List.set_cons_zero,List.set_cons_succ]
   refine wpAnyH_take  (i:=1) (v:=?_) (by rw[List.getElem?_toArray];exact rfl) (by kernel_rfl) (by kernel_rfl) (by kernel_rfl) (by exact fun _ _ _ h=>h) (Or.inl ⟨by rfl,(by rintro W ⟨o0,o1,o2,o3,o4⟩;go_simp<;>with_reducible rfl)⟩) (by assumption) ?_;try simp only  [Act.put,List.setIfInBounds_toArray,List.set_cons_zero,List.set_cons_succ]
   refine wpAnyH_take  (i:=2) (v:=?_) (by rw[List.getElem?_toArray];exact rfl) (by kernel_rfl) (by kernel_rfl) (by kernel_rfl) (by exact fun _ _ _ h=>h) (Or.inl ⟨by rfl,(by rintro W ⟨o0,o1,o2,o3,o4⟩;go_simp<;>with_reducible rfl)⟩) (by assumption) ?_;try simp only  [Act.put,List.setIfInBounds_toArray,List.set_cons_zero,List.set_cons_succ]
   refine wpAnyH_take  (i:=3) (v:=?_) (by rw[List.getElem?_toArray];exact rfl) (by kernel_rfl) (by kernel_rfl) (by kernel_rfl) (by exact fun _ _ _ h=>h) (Or.inl ⟨by rfl,(by rintro W ⟨o0,o1,o2,o3,o4⟩;go_simp<;>with_reducible rfl)⟩) (by assumption) ?_;try simp only  [Act.put,List.setIfInBounds_toArray,List.set_cons_zero,List.set_cons_succ]
   refine wpAnyH_take  (i:=4) (v:=?_) (by rw[List.getElem?_toArray];exact rfl) (by kernel_rfl) (by kernel_rfl) (by kernel_rfl) (by exact fun _ _ _ h=>h) (Or.inl ⟨by rfl,(by rintro W ⟨o0,o1,o2,o3,o4⟩;go_simp<;>with_reducible rfl)⟩) (by assumption) ?_;try simp only  [Act.put,List.setIfInBounds_toArray,List.set_cons_zero,List.set_cons_succ]
   refine wpAnyH_take  (i:=5) (v:=?_) (by rw[List.getElem?_toArray];exact rfl) (by kernel_rfl) (by kernel_rfl) (by kernel_rfl) (by exact fun _ _ _ h=>h) (Or.inl ⟨by rfl,(by rintro W ⟨o0,o1,o2,o3,o4⟩;go_simp<;>with_reducible rfl)⟩) (by assumption) ?_;try simp only  [Act.put,List.setIfInBounds_toArray,List.set_cons_zero,List.set_cons_succ]
   refine wpAnyH_take  (i:=6) (v:=?_) (by rw[List.getElem?_toArray];exact rfl) (by kernel_rfl) (by kernel_rfl) (by kernel_rfl) (by exact fun _ _ _ h=>h) (Or.inl ⟨by rfl,(by rintro W ⟨o0,o1,o2,o3,o4⟩;go_simp<;>with_reducible rfl)⟩) (by assumption) ?_;try simp only  [Act.put,List.setIfInBounds_toArray,List.set_cons_zero,List.set_cons_succ]
   refine wpAnyH_take  (i:=7) (v:=?_) (by rw[List.getElem?_toArray];exact rfl) (by kernel_rfl) (by kernel_rfl) (by kernel_rfl) (by exact fun _ _ _ h=>h) (Or.inl ⟨by rfl,(by rintro W ⟨o0,o1,o2,o3,o4⟩;go_simp<;>with_reducible rfl)⟩) (by assumption) ?_;try simp only  [Act.put,List.setIfInBounds_toArray,List.set_cons_zero,List.set_cons_succ]
   refine wpAnyH_take  (i:=8) (v:=?_) (by rw[List.getElem?_toArray];exact rfl) (by kernel_rfl) (by kernel_rfl) (by kernel_rfl) (by exact fun _ _ _ h=>h) (Or.inl ⟨by rfl,(by rintro W ⟨o0,o1,o2,o3,o4⟩;go_simp<;>with_reducible rfl)⟩) (by assumption) ?_;try simp only  [Act.put,List.setIfInBounds_toArray,List.set_cons_zero,List.set_cons_succ]
   refine wpAnyH_take  (i:=9) (v:=?_) (by rw[List.getElem?_toArray];exact rfl) (by kernel_rfl) (by kernel_rfl) (by kernel_rfl) (by exact fun _ _ _ h=>h) (Or.inl ⟨by rfl,(by rintro W ⟨o0,o1,o2,o3,o4⟩;go_simp<;>with_reducible rfl)⟩) (by assumption) ?_;try simp only  [Act.put,List.setIfInBounds_toArray,List.set_cons_zero,List.set_cons_succ]
   refine wpAnyH_take  (i:=10) (v:=?_) (by rw[List.getElem?_toArray];exact rfl) (by kernel_rfl) (by kernel_rfl) (by kernel_rfl) (by exact fun _ _ _ h=>h) (Or.inl ⟨by rfl,(by rintro W ⟨o0,o1,o2,o3,o4⟩;go_simp<;>with_reducible rfl)⟩) (by assumption) ?_;try simp only  [Act.put,List.setIfInBounds_toArray,List.set_cons_zero,List.set_cons_succ]
   refine wpAnyH_ready  (rs:=[11]) (by kernel_rfl) (by simp) (AllReadyH.cons  (by rw[List.getElem?_toArray];exact rfl) (fun K9 Ky=>?_) AllReadyH.nil);go_simp;refine(HC.out _ J.out).mono ?_;rintro e9 w1 ⟨a1,n1,c1,a2,n2,c2,a3,n3,c3,rfl,ho,k⟩;have K:=lH (J.out.trans k);have HO:=lH (ho.less (B':=Z.heap.size) (S':=fun b=>b<Z.heap.size) J.out.size (fun b hb=>Nat.lt_of_lt_of_le hb J.out.size));clear ho k HC;refine Ky.out _ _ (HF.out _ (jg.of K.out)) (fun _=>?_);clear Ky K9;try simp only  [Act.put,List.setIfInBounds_toArray,List.set_cons_zero,List.set_cons_succ]
   have HQ:=lH (HQ.out.kept K.out);obtain⟨z0,z1,z2⟩:=HQ.out.at3;have f0:=HQ.out.free 0;have f1:=HQ.out.free 1;have f2:=HQ.out.free 2;have P:=lH (j4 (vs:=[.slice a1 n1 c1,.slice a2 n2 c2,.slice a3 n3 c3]) HQ.out rfl);refine wpAnyH_ready  (rs:=[12]) (by kernel_rfl) (by simp) (AllReadyH.cons  (by rw[List.getElem?_toArray];exact rfl) (fun K9 Ky=>?_) AllReadyH.nil);go_simp;obtain⟨WE,hWE⟩:=eX (w1.setCells (w.heap.size+1) 0 [.slice a1 n1 c1,.slice a2 n2 c2,.slice a3 n3 c3])
   have hWE2:(((w1.setCell ⟨(w.heap.size+1),0,none⟩ (.slice a1 n1 c1)).setCell ⟨(w.heap.size+1),1,none⟩ (.slice a2 n2 c2)).setCell ⟨(w.heap.size+1),2,none⟩ (.slice a3 n3 c3))=WE:=hWE;rw[hWE] at P;try rw[hWE2]
   have GE:=lH (show jg (fun b=>b<Z.heap.size) w1 WE by rw[←hWE];exact jg.cells (S:=fun b=>b<Z.heap.size) _ (by have:=Vf.out;omega) _ _ _);have GQ:=lH (show jg (fun b=>b=w.heap.size+1) w1 WE by rw[←hWE];exact jg.cells (S:=fun b=>b=w.heap.size+1) _ rfl _ _ _);clear hWE hWE2;obtain⟨PC,hsz,hbl,hkp⟩:=P.out;refine Ky.out _ _ (HF.out _ ((jg.of K.out).trans (show jg (fun b=>b=w.heap.size+1) w1 WE from GQ.out))) (fun _=>?_);clear Ky K9;try simp only  [Act.put,List.setIfInBounds_toArray,List.set_cons_zero,List.set_cons_succ]
   refine wpAnyH_done (by kernel_rfl) ?_ _;go_wp2;refine bodyPost_ret (by simp[results,Tryz.results30,go_sem,PC.at_ 0 _ rfl,PC.at_ 1 _ rfl,PC.at_ 2 _ rfl];try rfl) rfl ?_;have Vo:=(HO.out.step GE.out).less (B':=w.heap.size) (S':=fun b=>b<w.heap.size) Vc.out.size (fun b hb=>Nat.lt_of_lt_of_le hb Vc.out.size);exact⟨_,_,_,_,_,_,_,_,_,rfl,Vo,hkp _ _ (by omega) (Vc.out.trans K.out)⟩
def jlX (pl:List Pd) (w:World) (e:Ending) (w':World):Prop:=∃v lx,e=.returned v∧Y4 pl (lx.map fun z:PX=>z.1)∧J8 PodLay0 52 At4 w.heap.size w' v lx∧Kept w w'
theorem jjg {lx ly:List PX} (h:ly.Perm (lx.filter fun z=>jL z.1)) (g:ly.Pairwise fun a b=>zh b.1 a.1=false):Y4 (lx.map fun z=>z.1) (ly.map fun z=>z.1):=by
 refine⟨?_,?_⟩
 · have h2:=h.map fun z=>z.1;rw[List.filter_map];exact h2
 · rw[List.pairwise_map];exact g
theorem jf2 (a b d:Option Addr) (len cap m c n e:Nat) (nl:List Nod) (pl:List Pd) (bl:List Bd) (w:World) (hn:jt w a len nl) (hp:jC w b m pl) (hb:zA w d n bl) (h1:len≤cap) (h2:cap≤maxLen) (h3:m≤c) (h4:c≤maxLen) (h5:n≤e) (h6:e≤maxLen) (hl:jA ⟨nl,pl,bl⟩) :
 Calls Tryz.prog 9 #[.agg #[.slice a len cap,.slice b m c,.slice d n e]] w (jlX pl w):=by
 obtain⟨Z,hZ⟩:=eX (w.alloc (.cells #[.slice a len cap,.slice b m c,.slice d n e] 26))
 have hkz:Kept w Z:=by rw[←hZ];exact ja _ _
 have cc:=jb w (.slice a len cap) [.slice b m c,.slice d n e] 26 Z (by rw[hZ];exact Kept.refl _);obtain⟨o0,o1,o2⟩:=cc.at3;obtain⟨Vc,HC,HM⟩:=lH3 hkz (jaR a b d len cap m c n e nl pl bl Z (hn.kept hkz) (hp.kept hkz) (hb.kept hkz) h1 h2 h3 h4 h5 h6 hl) (show pl.length≤100000 from hl.podsN);clear hn hp hb h1 h2 h3 h4 h5 h6 hl hkz cc;unfold jlX;go_enter Tryz.func9,Tryz.ntmps9;go_wp2_with fail
 try rw[hZ]
 go_wp2_with fail
 try rw[hZ]
 clear hZ o0 o1 o2;refine HC.out.mono ?_;rintro e w1 ⟨a1,n1,c1,a2,n2,c2,a3,n3,c3,rfl,ho1,k⟩;have ho:=ho1.less (B':=w.heap.size) (S':=fun b=>b<w.heap.size) Vc.out.size (fun b e=>Nat.lt_of_lt_of_le e Vc.out.size);have K:=lH (Vc.out.trans k);obtain⟨lx,hlx,hox,hdx⟩:=ho.pods;have hlen:lx.length≤100000:=by have:=congrArg List.length hlx;rw[List.length_map] at this;rw[this];exact HM.out
 have NG:=lH hlx;have NH:=lH hdx;have hlx2:(lx.map fun z=>z.1)=pl:=hlx;have nfl:∀(x y z:Value) (W:World),(Instr.field 26 (.agg #[x,y,z]) 1).run Tryz.prog W=.ok y W:=fun _ _ _ _=>by kernel_rfl
 clear k ho ho1 hlx HC;rcases hox.1.2 with ⟨e0,hz⟩ | ⟨g,cp,cur,e0,hbg,hg,hr⟩
 · cases e0
   have hlz:lx=[]:=List.length_eq_zero_iff.1 hz;subst hlz;have hpl:pl=[]:=hlx2.symm;subst hpl;clear hox hdx hlen hz hlx2;go_wp2_with fail
   refine(jiZ _).mono ?_;rintro e w2 ⟨rfl,k2⟩;have K:=lH (K.out.trans k2);clear k2;go_wp2_with fail
   refine(jfy _).mono ?_;rintro e w3 ⟨rfl,rfl⟩;go_wp2;go_ret;exact⟨_,[],rfl,⟨List.Perm.refl _,List.Pairwise.nil⟩,⟨⟨_,_,_,rfl⟩,⟨Own.nil _ _ _,fun z h=>by cases h⟩,fun z h=>by cases h⟩,K.out⟩
 · obtain⟨ea,en,ec⟩:a2=some ⟨g,0,none⟩∧n2=lx.length∧c2=cp:=by cases e0;exact⟨rfl,rfl,rfl⟩
   subst ea en ec;obtain⟨HD,HB,Tt⟩:=lH3 (jkz g lx.length c2 w.heap.size lx w1 hox (fun z hz=>(hdx z hz).here) hlen) (show w.heap.size≤g from(Jy hox g rfl).1) hlen;obtain⟨n9,hn9⟩:=eX (lx.length)
   rw[hn9] at HD;try rw[hn9]
   clear hox hdx hlen hlx2 hbg hg hr e0;go_wp2_with fail
   refine HD.out.mono ?_;rintro e w2 ⟨n8,rfl,ho2,g2⟩;have hn8:n8=(lx.filter fun z=>jL z.1).length:=by obtain⟨a,c,e,_⟩:=ho2.at_;cases e;rfl
   have HS:=lH (jgT w.heap.size g n8 c2 (lx.filter fun z=>jL z.1) w2 ho2 (by have:=List.length_filter_le (fun z=>jL z.1) lx;have:=Tt.out;omega));have G2:=lH g2;clear ho2 g2 hn8 HD hn9;go_wp2_with fail
   refine HS.out.mono ?_;rintro e w3 ⟨rfl,ly,hp,hs,ho3,g3⟩;obtain⟨G,HP,HO,Rm⟩:=lH4 (G2.out.trans g3) (show Y4 pl (ly.map fun z=>z.1) by rw[←NG.out];exact jjg hp hs) ho3 hp;clear hp hs ho3 g3 HS;go_wp2;go_ret;have key:∀z ∈ ly,Off (fun b=>b<w.heap.size∨b=g) w3 fun u=>At4 u z:=fun z hz =>
    ((NH.out z (List.mem_filter.1 (Rm.out.mem_iff.1 hz)).1).step (G.out.mono fun b e=>by subst e;exact .inr rfl)).less fun b e=>e.imp id fun e=>by subst e;rfl
   refine⟨_,ly,rfl,HP.out,⟨⟨_,_,_,rfl⟩,⟨HO.out,fun z hz=>(key z hz).less fun b e=>.inr (Option.some.inj e).symm⟩,fun z hz=>(key z hz).less fun b e=>e.imp id fun e=>(Option.some.inj e).symm⟩,?_⟩;exact jg.below K.out G.out fun i e=>by subst e;exact HB.out
theorem XA {v:Value} {s:Clu} {w:World} (h:jB w v s) (hl:jA s) (ha:Asc s.pods):Calls Tryz.prog 9 #[v] w fun e w'=>∃y,e=.returned y∧zU w' y (zr s.pods)∧Kept w w':=by
 obtain⟨v1,v2,v3,rfl,⟨a,cap,rfl,l1,m1,h1⟩,⟨b,cp,rfl,l2,m2,h2⟩,⟨d,cb,rfl,l3,m3,h3⟩⟩:=h;refine(jf2 a b d _ cap _ cp _ cb s.nodes s.pods s.buds w h1 h2 h3 l1 m1 l2 m2 l3 m3 hl).mono ?_;rintro e w' ⟨v,lx,rfl,hp,hf,kk⟩;refine⟨v,rfl,?_,kk⟩;rw[←qH ha hp];exact jbJ hf.2.1
abbrev jku (x y:ByteArray):PanicEntry:={ v:=.iface 54 (.agg #[.string x,.string y]),recovered:=false }
def jkW (o:Option (ByteArray×ByteArray)) (w:World) (e:Ending) (w':World):Prop:=(∀x y,o=some (x,y)→e=.panicked [jku x y])∧(o=none→e=.returned (.tuple #[]))∧Kept w w'
theorem jkV (s1 s2 s3:Option Addr) (n1 e1 n2 e2 n3 e3:Nat) (pack:Bool) (s:Clu) (w:World) (hs:jB w (zO (.slice s1 n1 e1) (.slice s2 n2 e2) (.slice s3 n3 e3)) s) (hl:jA s) (ha:Asc s.pods) (hb:s.pods.length+1≤100000):Calls Tryz.prog 75 #[.agg #[.slice s1 n1 e1,.slice s2 n2 e2,.slice s3 n3 e3],.bool pack] w (jkW (nextS s pack) w):=by
 obtain⟨Z,hZ⟩:=eX (w.alloc (.cells #[.slice s1 n1 e1,.slice s2 n2 e2,.slice s3 n3 e3] 26))
 have hkz:Kept w Z:=by rw[←hZ];exact ja _ _
 obtain⟨Vi,HS,HL,HB,HK,HP⟩:=lH6 (jb w (.slice s1 n1 e1) [.slice s2 n2 e2,.slice s3 n3 e3] 26 Z (by rw[hZ];exact Kept.refl _)) (hs.kept hkz) hl hb hkz (XA (hs.kept hkz) hl ha);clear hs hkz hl ha hb;unfold jkW;obtain⟨y0,y1,y2⟩:=Vi.out.at3;go_enter Tryz.func75,Tryz.ntmps75;go_wp2_with fail
 try rw[hZ]
 go_wp2_with fail
 try rw[hZ]
 clear hZ y0 y1 y2;refine HP.out.mono ?_;rintro e w1 ⟨y,rfl,⟨pa,pc,rfl,-,-,hrow⟩,kk⟩;have K:=lH kk;have HR:=lH hrow;obtain⟨pl,hpl⟩:=eX (zr s.pods)
 have VZ:=lH hpl;rw[hpl] at HR;try rw[hpl]
 obtain⟨pn,hpn⟩:=eX (pl.length)
 have UU:=lH hpn;have hpb:pn≤100000:=by have:=Xt s.pods;have h2:=VZ.out;rw[h2] at this;have:=HB.out;omega
 rw[hpn] at HR;try rw[hpn]
 clear kk hrow hpl hpn HP;go_wp2_with fail
 go_loopw [11] (fun iv wr=>∃k:Nat,k≤pn∧iv=.int .i64 k∧Ji s pack (pl.drop k)=nextS s pack∧Kept w1 wr) (fun iv _=>pn-(intOf iv).toNat)
 case atStart=>exact⟨0,Nat.zero_le _,rfl,by rw[←VZ.out];rfl,Kept.refl _⟩
 case round =>
  obtain⟨k,hk,rfl,hS,hK⟩:=hrel;have Uj:=lH hS;have Ui:=lH hK;clear hS hK;by_cases hlt:k<pn
  · obtain⟨g,off,rfl⟩:=HR.out.form.resolve_left (by omega);obtain⟨n,b1,m1,c1,b2,m2,c2,b3,m3,c3,b4,m4,c4,hn,hd,hb,p0,p1,p2,p3,p4,p5,p6,p7,p8,p9,p10,hat⟩:=(HR.out.kept Ui.out).at_ hlt;have HD:=lH hd;have hmem:n ∈ s.pods:=(Xw.1 (by rw[VZ.out];exact List.mem_of_getElem? hn)).1;have Tt:=lH (HL.out.pods n hmem);have hkk:(k:Int)<(pn:Int):=by omega
    have hk0:¬(k:Int)<0:=by omega
    obtain⟨wx,hwx⟩:=eX (wr.alloc (.cells #[.string n.name,.string n.owner,.int .i64 n.prio,.slice b1 m1 c1,.slice b2 m2 c2,.slice b3 m3 c3,.slice b4 m4 c4,.string n.key,.int .i64 n.most,.string n.node,.bool n.hold] 52))
    have hkx:Kept wr wx:=by rw[←hwx];exact ja _ _
    have Vq:=lH (jb wr (.string n.name) [.string n.owner,.int .i64 n.prio,.slice b1 m1 c1,.slice b2 m2 c2,.slice b3 m3 c3,.slice b4 m4 c4,.string n.key,.int .i64 n.most,.string n.node,.bool n.hold] 52 wx (by rw[hwx];exact Kept.refl _));obtain⟨bq,hbq⟩:=eX (wr.heap.size)
    rw[hbq] at Vq;have KX:=lH (Ui.out.trans hkx);have HC:=lH (jhl s1 s2 s3 n1 e1 n2 e2 n3 e3 b1 b2 b3 b4 m1 c1 m2 c2 m3 c3 m4 c4 pack n s wx (HS.out.kept (K.out.trans KX.out)) HL.out HB.out (hat.kept hkx) Tt.out);unfold jw at HC;go_upto_region 4 with fail
    try rw[hwx]
    try rw[hbq]
    clear hwx hbq hd hb hn hkx hk0 hkk hat hmem p0 p1 p2 p3 p4 p5 p6 p7 p8 p9 p10;obtain⟨y0,y1,y2⟩:=(Vi.out.kept (K.out.trans KX.out)).at3;obtain⟨q0,q1,q2,q3,q4,q5,q6,q7,q8,q9,q10⟩:=Vq.out.at11;go_wp2_with fail
    refine HC.out.mono ?_;rintro e w2 ⟨l,ho,rfl,kk⟩;obtain⟨HO,K2,Vq⟩:=lH3 (jig ho) (KX.out.trans kk) (Vq.out.kept kk);clear ho kk HC y0 y1 y2 q0 q1 q2 q3 q4 q5 q6 q7 q8 q9 q10
    cases l with
    | nil =>
     have HE:=lH (show Ji s pack (pl.drop (k+1))=nextS s pack by
      rw[←Uj.out,HD.out,Ji,←HO.out];rfl)
     go_wp2;go_roundw
     case rel=>exact⟨k+1,by omega,by go_num,HE.out,K2.out⟩
     case measure=>simp[intOf];omega
    | cons x r =>
     have HE:=lH (show nextS s pack=some (n.name,x) by
      rw[←Uj.out,HD.out,Ji,←HO.out];rfl)
     have q0:=Vq.out.at_ 0 _ rfl;go_wp2;rw[HE.out];refine⟨rfl,?_,?_,HK.out.trans (K.out.trans K2.out)⟩
     · intro u v h;obtain⟨e1,e2⟩:=Prod.mk.inj (Option.some.inj h);rw[e1,e2]
     · intro h
       cases h
  · have HE:=lH (show nextS s pack=none by
     rw[←Uj.out,List.drop_of_length_le (by rw[UU.out];omega)];rfl)
    have hkk:¬(k:Int)<(pn:Int):=by omega
    go_wp2;go_end0
    rw[HE.out];exact⟨(fun u v h=>by cases h),fun _=>rfl,HK.out.trans (K.out.trans Ui.out)⟩
end Go.Proofs.YtibepooajeakfaaGreat
