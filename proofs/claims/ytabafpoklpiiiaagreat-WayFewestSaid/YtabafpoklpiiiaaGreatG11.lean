/- C. -/
import Derived.Test.YtabafpoklpiiiaaGreatG0
import Derived.Test.YtabafpoklpiiiaaGreatG1
import Derived.Test.YtabafpoklpiiiaaGreatG2
import Derived.Test.YtabafpoklpiiiaaGreatG3
import Derived.Test.YtabafpoklpiiiaaGreatG4
import Derived.Test.YtabafpoklpiiiaaGreatG5
import Derived.Test.YtabafpoklpiiiaaGreatG6
import Derived.Test.YtabafpoklpiiiaaGreatG7
import Derived.Test.YtabafpoklpiiiaaGreatG9
import Derived.Test.YtabafpoklpiiiaaGreatG10
set_option linter.unusedVariables false
set_option maxRecDepth 100000
set_option maxHeartbeats 25600000
namespace Go.Proofs.YtabafpoklpiiiaaGreat
open Go.RowKit Go.Shelf Go.Lib Go.Sort
theorem qH {α:Type} [Inhabited α] {P:Program} {kE:Nat} (L:JV P kE) (enc:α→List Value) (cf:α→α→Int) (hO:SWO (ltOf cf)) (g:Nat) (cb:Array Value) (w0:World) (blk off cap size:Nat) (d0:Array α) (hs:d0.size=size)
 (eg:∀args w,(callFunc g args).run P w=.ok (.enter g args) w) (hcmp:CmpLays P g cb enc kE cf blk off d0.size w0) (R:RowK enc kE w0 blk off d0) (hsz:size<2305843009213693952) :
 ∀n,jah P kE enc cf g cb w0 blk off cap size n:=by
 intro n
 induction n with
 | zero=>intro a m b za zm zb d w h;omega
 | succ n ih =>
  intro a m b za zm zb d w hn ham hmb hb hd ea em eb S s1 s2;subst ea em eb;subst hd;by_cases h1:m=a+1
  · subst h1;have:=qL L enc cf hO g cb w0 blk off cap a b d0 d w eg hcmp R hs S hmb hb hsz s2;rw[show ((a+1:Nat):Int)=(a:Int)+1 from by omega];exact this
  · by_cases h2:b=m+1
    · subst h2;have:=qs L enc cf hO g cb w0 blk off cap a m d0 d w eg hcmp R hs S (by omega) hb hsz s1;rw[show ((m+1:Nat):Int)=(m:Int)+1 from by omega];exact this
    · exact jaE L enc cf hO g cb w0 blk off cap a m b d0 d w eg hcmp R hs S (by omega) (by omega) hb hsz s1 s2
       (fun a' m' b' za zm zb d' w' h=>ih a' m' b' za zm zb d' w' (by omega))
theorem Xm {α:Type} [Inhabited α] {P:Program} {kE:Nat} (L:JV P kE) (enc:α→List Value) (cf:α→α→Int) (hO:SWO (ltOf cf)) (g:Nat) (cb:Array Value) (w0:World) (blk off cap a m b:Nat) (za zm zb:Int) (d0 d:Array α) (w:World)
 (eg:∀args w,(callFunc g args).run P w=.ok (.enter g args) w) (hcmp:CmpLays P g cb enc kE cf blk off d0.size w0) (R:RowK enc kE w0 blk off d0) (hs:d0.size=d.size) (hsz:d.size<2305843009213693952) (S:SWK enc kE w0 blk off d w)
 (ham:a<m) (hmb:m<b) (hb:b≤d.size) (ea:za=a) (em:zm=m) (eb:zb=b) (s1:SortedIn (ltOf cf) a m d) (s2:SortedIn (ltOf cf) m b d) (N:Nat) (hN:N=d.size) :
 Calls P 145 #[.slice (some ⟨blk,off,none⟩) N cap,.int .i64 za,.int .i64 zm,.int .i64 zb,.func (.func g) #[] cb] w (YJ kE enc cf w0 blk off a b d):=by
 subst hN;exact qH L enc cf hO g cb w0 blk off cap d.size d0 hs eg hcmp R hsz (b-a+1) a m b za zm zb d w (by omega) ham hmb hb rfl ea em eb S s1 s2
def jdD:Go.Shelf.Ren:=⟨fun | 20=>144 | n=>n,fun | 0=>0 | 3=>3 | 4=>4 | 22=>32 | 24=>41 | 25=>99 | n=>n,fun | n=>n⟩
theorem jgS:Go.Proofs.SlLaysF0.n20 Tryz.prog jdD:={
 mixed:=by kernel_rfl
 f20:=⟨Tryz.f144.name,by decide,Tryz.func144.trans (congrArg some (by kernel_rfl))⟩
 t0:=Tryz.underlying0
 a0:=Tryz.isAgg0
 z0:=Tryz.sizeOf0
 v0:=Tryz.zeroValue0
 t3:=Tryz.underlying3
 a3:=Tryz.isAgg3
 z3:=Tryz.sizeOf3
 v3:=Tryz.zeroValue3
 t4:=Tryz.underlying4
 a4:=Tryz.isAgg4
 z4:=Tryz.sizeOf4
 v4:=Tryz.zeroValue4
 t22:=Tryz.underlying32
 a22:=Tryz.isAgg32
 z22:=Tryz.sizeOf32
 v22:=Tryz.zeroValue32
 t25:=Tryz.underlying99
 a25:=Tryz.isAgg99
 z25:=Tryz.sizeOf99
 v25:=Tryz.zeroValue99 }
theorem XG {α:Type} [Inhabited α] (enc:α→List Value) (cf:α→α→Int) (hO:SWO (ltOf cf)) (g:Nat) (cb:Array Value) (w0:World) (blk off cap a b:Nat) (za zb:Int) (d0 d:Array α) (w:World)
 (eg:∀args w,(callFunc g args).run Tryz.prog w=.ok (.enter g args) w) (hcmp:CmpLays Tryz.prog g cb enc 11 cf blk off d0.size w0) (R:RowK enc 11 w0 blk off d0) (hs:d0.size=d.size) (hsz:d.size<2305843009213693952) (S:SWK enc 11 w0 blk off d w)
 (hab:a≤b) (hb:b≤d.size) (ea:za=a) (eb:zb=b) (N:Nat) (hN:N=d.size) :
 Calls Tryz.prog 144 #[.slice (some ⟨blk,off,none⟩) N cap,.int .i64 za,.int .i64 zb,.func (.func g) #[] cb] w (YJ 11 enc cf w0 blk off a b d):=by
 subst hN ea eb;have hc:CmpLays Tryz.prog g cb enc 11 cf blk off d.size w:=fun m os dk hk x y=>by
  obtain⟨m',os',e⟩:=S.on R.hblk m dk os hk;rw[e];exact hcmp m' os' dk (hk.trans hs.symm) x y
 have hst:=AnyQ.insertionSortCmpFunc jgS 11 Tryz.isAgg41 Tryz.sizeOf41 enc R.hk R.h1 cf g cb blk off cap a b d w eg hc (S.holds R.hblk R.hH hs.symm) (S.lt R.hblk) hab hb (by omega);change Calls Tryz.prog 144 _ _ _ at hst;refine hst.mono ?_;rintro e w' ⟨rfl,n,os,rfl⟩;have h:=insertionSort_holds hO d a b hab hb;exact⟨rfl,_,h.1,h.2,S.on R.hblk n _ os h.1.1⟩
inductive Zp {α:Type} [Inhabited α] (lt:α→α→Bool) (s:Nat) (d:Array α):Nat→Prop
 | zero:Zp lt s d 0
 | snoc {a:Nat}:Zp lt s d a→SortedIn lt a (a+s) d→Zp lt s d (a+s)
inductive JH {α:Type} [Inhabited α] (lt:α→α→Bool) (s n:Nat) (d:Array α):Nat→Prop
 | done {a:Nat}:n≤a→JH lt s n d a
 | step {a:Nat}:SortedIn lt a (min (a+s) n) d→JH lt s n d (a+s)→JH lt s n d a
section
variable {α:Type} [Inhabited α] {lt:α→α→Bool} {s n a:Nat} {d d':Array α}
theorem Zp.congr (h:Zp lt s d a):(∀i,i<a→d'[i]! = d[i]!)→Zp lt s d' a:=by
 induction h with
 | zero=>exact fun _=>.zero
 | snoc _ h2 ih=>exact fun g=>.snoc (ih fun i hi=>g i (by omega)) (h2.congr fun i h1 h2=>g i (by omega))
theorem JH.congr (h:JH lt s n d a):(∀i,a≤i→i<n→d'[i]! = d[i]!)→JH lt s n d' a:=by
 induction h with
 | done h=>exact fun _=>.done h
 | step h1 _ ih=>exact fun g=>.step (h1.congr fun i h1 h2=>g i h1 (by omega)) (ih fun i hi=>g i (by omega))
theorem Zp.blks (h:Zp lt s d a):a≤n→JH lt s n d a→JH lt s n d 0:=by
 induction h with
 | zero=>exact fun _ g=>g
 | snoc h1 h2 ih=>exact fun hn g=>ih (by omega) (.step (by rw[Nat.min_eq_left hn];exact h2) g)
theorem JH.head (h:JH lt s n d a) (ha:a<n):SortedIn lt a (min (a+s) n) d∧JH lt s n d (a+s):=by
 cases h with
 | done h=>omega
 | step h1 h2=>exact⟨h1,h2⟩
end
def jgz {α:Type} [Inhabited α] (enc:α→List Value) (cf:α→α→Int) (w0:World) (blk:Nat) (d:Array α) (e:Ending) (w':World):Prop :=
 e=.returned (.tuple #[])∧∃d',PermIn 0 d.size d d'∧SortedIn (ltOf cf) 0 d.size d'∧SWK enc 11 w0 blk 0 d' w'
theorem jeV {α:Type} [Inhabited α] (enc:α→List Value) (cf:α→α→Int) (hO:SWO (ltOf cf)) (g:Nat) (cb:Array Value) (w:World) (blk cap:Nat) (d:Array α)
 (eg:∀args w,(callFunc g args).run Tryz.prog w=.ok (.enter g args) w) (hcmp:CmpLays Tryz.prog g cb enc 11 cf blk 0 d.size w) (R:RowK enc 11 w blk 0 d) (hsz:d.size<1000000000) :
 Calls Tryz.prog 103 #[.slice (some ⟨blk,0,none⟩) d.size cap,.int .i64 d.size,.func (.func g) #[] cb] w (jgz enc cf w blk d):=by
 have HR:Aside _:=R;have HC:Aside _:=hcmp;have OO:Aside _:=hO;have S0:Aside (SWK enc 11 w blk 0 d w):=SWK.start R.hH;unfold jgz;clear R hcmp hO;go_enter Tryz.func103,Tryz.ntmps103;go_wp2;go_loopg [7,8] d.size (fun g1 va vb wr=>∃(a:Nat) (dk:Array α),va=.int .i64 a∧vb=.int .i64 ((a:Int)+20)∧a≤d.size∧d.size-a≤g1∧dk.size=d.size∧Aside (SWK enc 11 w blk 0 dk wr)∧Hid (PermIn 0 d.size d dk∧Zp (ltOf cf) 20 dk a))
 case atStart=>exact⟨0,d,by go_num,by go_num,by omega,by omega,rfl,S0,permIn_refl _ _ _,.zero⟩
 case round =>
  clear S0;obtain⟨a,dk,rfl,rfl,ha,hg1,hsk,S1,HX⟩:=hrel;by_cases hlt:a+20≤d.size
  · have hz:(a:Int)+20≤(d.size:Int):=by omega
    have r1:IntKind.i64.wrap ((a:Int)+20+20)=(a:Int)+20+20:=by rw[IntKind.wrap_i64];omega
    have hc:=lH (XG enc cf OO.out g cb w blk 0 cap a (a+20) a ((a:Int)+20) d dk wr eg HC.out HR.out hsk.symm (by omega) S1.out (by omega) (by omega) rfl (by omega) d.size hsk.symm);clear S1;go_wp2_with (go_at_call 144;refine hc.out.mono ?_;rintro e w1 ⟨rfl,d1,hE,hP,hS⟩)
    have H1:Hid (PermIn a (a+20) dk d1):=hE;have H2:Hid (SortedIn (ltOf cf) a (a+20) d1):=hP;have S2:Aside (SWK enc 11 w blk 0 d1 w1):=hS;clear hE hP hS;go_roundg (d.size-(a+20))
    case measure=>omega
    case rel=>exact⟨a+20,d1,by first | rfl | go_num | (congr 1;omega),by first | rfl | go_num | (congr 1;omega),by omega,Nat.le_refl _,by rw[H1.out.1];exact hsk,S2,permIn_trans _ _ _ _ _ HX.out.1 (permIn_mono _ _ _ _ _ _ (by omega) (by omega) (by omega) H1.out),.snoc (HX.out.2.congr fun i hi=>H1.out.2.1 i (by omega)) H2.out⟩
  · have hz:¬(a:Int)+20≤(d.size:Int):=by omega
    have hc:=lH (XG enc cf OO.out g cb w blk 0 cap a d.size a d.size d dk wr eg HC.out HR.out hsk.symm (by omega) S1.out (by omega) (by omega) rfl rfl d.size hsk.symm);clear S1;go_wp2_with (go_at_call 144;refine hc.out.mono ?_;rintro e w1 ⟨rfl,d1,hE,hP,hS⟩)
    have HB:Hid (PermIn 0 d.size d d1∧JH (ltOf cf) 20 d.size d1 0) :=
     ⟨permIn_trans _ _ _ _ _ HX.out.1 (permIn_mono _ _ _ _ _ _ (by omega) (by omega) (by omega) hE),(HX.out.2.congr fun i hi=>hE.2.1 i (by omega)).blks ha (.step (by rw[Nat.min_eq_right (by omega)];exact hP) (.done (by omega)))⟩
    have hz1:d1.size=d.size:=by rw[hE.1];exact hsk
    have S2:Aside (SWK enc 11 w blk 0 d1 w1):=hS;clear hE hP hS hc HX hz hlt ha hg1;go_loopg [6,7,8] d.size (fun g2 vs va vb wr2=>∃(s:Nat) (dk:Array α),vs=.int .i64 s∧0<s∧s≤2*d.size+20∧d.size-s≤g2∧dk.size=d.size∧Aside (SWK enc 11 w blk 0 dk wr2)∧Hid (PermIn 0 d.size d dk∧JH (ltOf cf) s d.size dk 0))
    case atStart=>exact⟨20,d1,rfl,by omega,by omega,by omega,hz1,S2,HB⟩
    case round =>
     clear S2 HB hz1;obtain⟨s,dk,rfl,hs0,hs1,hg2,hsk,S3,HX⟩:=hrel;by_cases hls:s<d.size
     · have hlz:(s:Int)<(d.size:Int):=by omega
       have r2:IntKind.i64.wrap (2*(s:Int))=2*(s:Int):=by rw[IntKind.wrap_i64];omega
       have r2':IntKind.i64.wrap ((s:Int)*2)=(s:Int)*2:=by rw[IntKind.wrap_i64];omega
       go_wp2_with fail
       go_loopg [7,8] d.size (fun g3 va vb wr3=>∃(a:Nat) (dj:Array α),va=.int .i64 a∧vb=.int .i64 ((a:Int)+2*(s:Int))∧a≤d.size∧d.size-a≤g3∧dj.size=d.size∧Aside (SWK enc 11 w blk 0 dj wr3)∧Hid (PermIn 0 d.size d dj∧Zp (ltOf cf) (2*s) dj a∧JH (ltOf cf) s d.size dj a))
       case atStart=>exact⟨0,dk,by first | rfl | go_num,by first | rfl | go_num | (congr 1;omega),by omega,by omega,hsk,S3,HX.out.1,.zero,HX.out.2⟩
       case round =>
        clear S3 HX hsk;obtain⟨a,dj,rfl,rfl,ha,hg3,hsk,S4,HY⟩:=hrel;have r3:IntKind.i64.wrap ((a:Int)+(s:Int))=(a:Int)+(s:Int):=by rw[IntKind.wrap_i64];omega
        have r4:IntKind.i64.wrap ((a:Int)+2*(s:Int)+2*(s:Int))=(a:Int)+2*(s:Int)+2*(s:Int):=by rw[IntKind.wrap_i64];omega
        by_cases hlt:a+2*s≤d.size
        · have hz:(a:Int)+2*(s:Int)≤(d.size:Int):=by omega
          obtain⟨p1,p2⟩:=HY.out.2.2.head (by omega);obtain⟨p3,p4⟩:=p2.head (by omega);rw[Nat.min_eq_left (by omega)] at p1;rw[Nat.min_eq_left (by omega)] at p3;have hc:=lH (Xm jd3 enc cf OO.out g cb w blk 0 cap a (a+s) (a+2*s) a ((a:Int)+s) ((a:Int)+2*s) d dj wr eg HC.out HR.out hsk.symm (by omega) S4.out (by omega) (by omega) (by omega) rfl (by omega) (by omega) p1 (by rw[show a+2*s=a+s+s from by omega];exact p3) d.size hsk.symm);have H4:Hid (JH (ltOf cf) s d.size dj (a+2*s)):=by rw[show a+2*s=a+s+s from by omega];exact p4
          clear S4 p1 p2 p3 p4;go_wp2_with (go_at_call 145;refine hc.out.mono ?_;rintro e w2 ⟨rfl,d2,hE,hP,hS⟩)
          have H1:Hid (PermIn a (a+2*s) dj d2):=hE;have H2:Hid (SortedIn (ltOf cf) a (a+2*s) d2):=hP;have S5:Aside (SWK enc 11 w blk 0 d2 w2):=hS;clear hE hP hS hc;go_roundg (d.size-(a+2*s))
          case measure=>omega
          case rel=>exact⟨a+2*s,d2,by first | rfl | go_num | (congr 1;omega),by first | rfl | go_num | (congr 1;omega),by omega,Nat.le_refl _,by rw[H1.out.1];exact hsk,S5,permIn_trans _ _ _ _ _ HY.out.1 (permIn_mono _ _ _ _ _ _ (by omega) (by omega) (by omega) H1.out),.snoc (HY.out.2.1.congr fun i hi=>H1.out.2.1 i (by omega)) H2.out,H4.out.congr fun i h1 h2=>H1.out.2.1 i (by omega)⟩
        · have hz:¬(a:Int)+2*(s:Int)≤(d.size:Int):=by omega
          by_cases hm:a+s<d.size
          · have hmz:(a:Int)+(s:Int)<(d.size:Int):=by omega
            obtain⟨p1,p2⟩:=HY.out.2.2.head (by omega);obtain⟨p3,p4⟩:=p2.head hm;rw[Nat.min_eq_left (by omega)] at p1;rw[Nat.min_eq_right (by omega)] at p3;have hc:=lH (Xm jd3 enc cf OO.out g cb w blk 0 cap a (a+s) d.size a ((a:Int)+s) d.size d dj wr eg HC.out HR.out hsk.symm (by omega) S4.out (by omega) (by omega) (by omega) rfl (by omega) rfl p1 p3 d.size hsk.symm);clear S4 p1 p2 p3 p4;go_wp2_with (go_at_call 145;refine hc.out.mono ?_;rintro e w2 ⟨rfl,d2,hE,hP,hS⟩)
            have HB:Hid (PermIn 0 d.size d d2∧JH (ltOf cf) (2*s) d.size d2 0) :=
             ⟨permIn_trans _ _ _ _ _ HY.out.1 (permIn_mono _ _ _ _ _ _ (by omega) (by omega) (by omega) hE),(HY.out.2.1.congr fun i hi=>hE.2.1 i (by omega)).blks ha (.step (by rw[Nat.min_eq_right (by omega)];exact hP) (.done (by omega)))⟩
            have hz1:d2.size=d.size:=by rw[hE.1];exact hsk
            have S5:Aside (SWK enc 11 w blk 0 d2 w2):=hS;clear hE hP hS hc HY;go_roundg (d.size-2*s)
            case measure=>omega
            case rel=>exact⟨2*s,d2,by first | rfl | go_num | (congr 1;omega),by omega,by omega,Nat.le_refl _,hz1,S5,HB⟩
          · have hmz:¬(a:Int)+(s:Int)<(d.size:Int):=by omega
            have HB:Hid (PermIn 0 d.size d dj∧JH (ltOf cf) (2*s) d.size dj 0) :=
             ⟨HY.out.1,HY.out.2.1.blks ha (by
              rcases Nat.lt_or_ge a d.size with q | q
              · obtain⟨p1,p2⟩:=HY.out.2.2.head q;rw[Nat.min_eq_right (by omega)] at p1;exact .step (by rw[Nat.min_eq_right (by omega)];exact p1) (.done (by omega))
              · exact .done q)⟩
            clear HY;go_wp2_with fail
            go_roundg (d.size-2*s)
            case measure=>omega
            case rel=>exact⟨2*s,dj,by first | rfl | go_num | (congr 1;omega),by omega,by omega,Nat.le_refl _,hsk,S4,HB⟩
     · have hlz:¬(s:Int)<(d.size:Int):=by omega
       have HF:Hid (SortedIn (ltOf cf) 0 d.size dk):=by
        rcases Nat.eq_zero_or_pos d.size with q | q
        · intro i j h1 h2 h3;omega
        · obtain⟨p1,-⟩:=HX.out.2.head q;rw[Nat.min_eq_right (by omega)] at p1;exact p1
       go_wp2_with fail
       go_end0
       exact⟨rfl,dk,HX.out.1,HF.out,S3.out⟩
end Go.Proofs.YtabafpoklpiiiaaGreat
namespace Go.Proofs.YtabafpoklpiiiaaGreat
open Go.RowKit Go.Shelf Go.Lib Go.Sort
instance:Inhabited Pd:=⟨Pd.zero⟩
theorem jeh (n m:Pd) (v1 v2 v3 v4 u1 u2 u3 u4:Value) (w:World) :
 Calls Tryz.prog 47 #[jo n v1 v2 v3 v4,jo m u1 u2 u3 u4] w fun e w'=>e=.returned (.int .i64 (Zq n m))∧Grw w w':=by
 obtain⟨W0,hW0⟩:=eX ((w.alloc (.cells #[.string n.name,.string n.owner,.int .i64 n.prio,v1,v2,v3,v4,.string n.key,.int .i64 n.most,.string n.node,.bool n.hold] 41)).alloc (.cells #[.string m.name,.string m.owner,.int .i64 m.prio,u1,u2,u3,u4,.string m.key,.int .i64 m.most,.string m.node,.bool m.hold] 41))
 have hk0:Kept w W0:=by rw[←hW0];exact ji _ _ _
 have HC:=lH (show ∀W,Kept W0 W→W.cell? ⟨w.heap.size,0,none⟩=some (.string n.name)∧W.cell? ⟨w.heap.size,2,none⟩=some (.int .i64 n.prio)∧W.cell? ⟨w.heap.size+1,0,none⟩=some (.string m.name)∧W.cell? ⟨w.heap.size+1,2,none⟩=some (.int .i64 m.prio) from fun W k=>by
  have c:=jc w (.string n.name) [.string n.owner,.int .i64 n.prio,v1,v2,v3,v4,.string n.key,.int .i64 n.most,.string n.node,.bool n.hold] 41 W (by rw[←hW0] at k;exact(ja _ _).trans k);have d:=jc (w.alloc (.cells #[.string n.name,.string n.owner,.int .i64 n.prio,v1,v2,v3,v4,.string n.key,.int .i64 n.most,.string n.node,.bool n.hold] 41)) (.string m.name) [.string m.owner,.int .i64 m.prio,u1,u2,u3,u4,.string m.key,.int .i64 m.most,.string m.node,.bool m.hold] 41 W (by rw[hW0];exact k);rw[World.size_alloc] at d;exact⟨c.at_ 0 _ rfl,c.at_ 2 _ rfl,d.at_ 0 _ rfl,d.at_ 2 _ rfl⟩)
 have EI:=lH (fun W=>jfa m.prio n.prio W);have ES:=lH (fun W=>je7 n.name m.name W);obtain⟨x,hx⟩:=eX (Z3 m.prio n.prio)
 obtain⟨y,hy⟩:=eX (Yu n.name m.name)
 rw[hx] at EI;rw[hy] at ES;have HV:=lH (show Zq n m=orL [x,y] by
  unfold Zq;rw[hx,hy];show _=if x≠0 then x else if y≠0 then y else 0
  by_cases z:y=0
  · subst z;simp
  · rw[if_pos z])
 have NG:=lH (show Calls Tryz.prog 104 #[.slice (some ⟨W0.heap.size,0,none⟩) 2 2] (W0.drew.alloc (.cells #[.int .i64 x,.int .i64 y] 3)) _ from jfT W0.heap.size 2 [x,y] _ rfl (by decide) (jeF W0.drew x y 3));have NH:=lH (show Grw w W0 by rw[←hW0];exact(Grw.alloc _ _).trans (Grw.alloc _ _));clear hx hy hk0;obtain⟨c0,c1,c2,c3⟩:=HC.out _ (Kept.refl _);unfold jo;go_enter Tryz.func47,Tryz.ntmps47;go_wp2;try rw[hW0]
 clear hW0
 go_region_held3 (fun W=>W.cell? ⟨w.heap.size,0,none⟩=some (.string n.name)∧W.cell? ⟨w.heap.size,2,none⟩=some (.int .i64 n.prio)∧W.cell? ⟨w.heap.size+1,0,none⟩=some (.string m.name)∧W.cell? ⟨w.heap.size+1,2,none⟩=some (.int .i64 m.prio))
  (first | exact HC.out _ (Kept.drew _) | exact HC.out _ ((Kept.drew _).trans (ja _ _)))
  (first | (go_at_call 105;refine(EI.out _).mono ?_;rintro e1 w1 ⟨rfl,rfl⟩)
         | (go_at_call 106;refine(ES.out _).mono ?_;rintro e2 w2 ⟨rfl,rfl⟩)
         | (go_at_call 104;refine NG.out.mono ?_;rintro e3 w3 ⟨rfl,rfl⟩))
 go_wp2;go_ret;exact⟨zL HV.out.symm,NH.out.trans ((Grw.drewN _ 1).trans (Grw.alloc _ _))⟩
theorem jcf:∀args w,(callFunc 47 args).run Tryz.prog w=.ok (.enter 47 args) w:=enters_of Tryz.func47 (by kernel_rfl) rfl
def cfP (x y:PX):Int:=Zq x.1 y.1
theorem jdB (blk size:Nat) (w:World):CmpLays Tryz.prog 47 #[] PodLay0.cs 11 cfP blk 0 size w:=fun m os dk hs x y =>
 jeh x.1 y.1 (slV x.2.1) (slV x.2.2.1) (slV x.2.2.2.1) (slV x.2.2.2.2) (slV y.2.1) (slV y.2.2.1) (slV y.2.2.2.1) (slV y.2.2.2.2) _
theorem jf5:SWO (ltOf cfP) where
 irrefl x:=Y0 x.1
 trans x y z h1 h2:=Z5 (x:=x.1) (y:=y.1) (z:=z.1) h1 h2
 ntrans x y z h1 h2:=Y7 (x:=x.1) (y:=y.1) (z:=z.1) h1 h2
theorem jbq (zs:List PX) (t:Nat) (h:t<zs.length*11):∃u,(jd PodLay0 zs)[t]?=some u∧(flatK PodLay0.cs 11 zs.toArray)[t]! = u:=by
 have h3:t / 11<zs.length:=by omega
 have h4:t % 11<(PodLay0.cs zs[t / 11]).length:=by show t % 11<11;omega
 have e2:=Zs PodLay0 zs (t / 11) zs[t / 11] (t % 11) ((PodLay0.cs zs[t / 11])[t % 11]'h4) (List.getElem?_eq_getElem h3) (List.getElem?_eq_getElem h4);rw[show t / 11*PodLay0.m+t % 11=t from by show t / 11*11+t % 11=t;omega] at e2;refine⟨_,e2,?_⟩;rw[get_flatK _ _ _ _ (by simpa using h),getElem!_pos zs.toArray (t / 11) (by simpa using h3)];simp only[List.getElem_toArray];rw[getElem!_pos (PodLay0.cs zs[t / 11]) (t % 11) h4]
theorem jec {W:World} {T:TypeId} {base g n cap:Nat} {zs:List PX} (h:Own PodLay0 T W base (.slice (some ⟨g,0,none⟩) n cap) zs):HoldsK PodLay0.cs 11 W g 0 zs.toArray:=fun t htl=>by
 have htl2:t<zs.length*11:=by simpa using htl
 obtain⟨u,h1,h2⟩:=jbq zs t htl2;have hn:n=zs.length:=by obtain⟨a,c,e,_⟩:=h.at_;cases e;rfl
 refine⟨?_,h.frozen_at _⟩;rw[h2,Nat.zero_add];subst hn;rw[h.1.cellAt t htl2];exact h1
theorem jcL {w:World} {B g n cap m:Nat} {lx ly:List PX} {os:Array Obj} (ho:Own PodLay0 41 w B (.slice (some ⟨g,0,none⟩) n cap) lx) (hl:ly.length=lx.length):Own PodLay0 41 (sortWorldK PodLay0.cs 11 w g 0 m ly.toArray os) B (.slice (some ⟨g,0,none⟩) n cap) ly:=by
 have hn9:n=lx.length:=by obtain⟨a,c,e,_⟩:=ho.at_;cases e;rfl
 subst hn9;obtain⟨cur,hB,hg,hn,hm,hs,ht,hlen⟩:=zp ho.1;have hlt:g<w.heap.size:=by
  rcases Nat.lt_or_ge g w.heap.size with h | h
  · exact h
  · rw[Array.getElem?_eq_none h] at hg;cases hg
 have h1:(sortWorldK PodLay0.cs 11 w g 0 m ly.toArray os).heap[g]?=some (.cells (putCells id 0 (flatK PodLay0.cs 11 ly.toArray) cur) 41 (0,0)):=by
  unfold sortWorldK putRowK putRow;have e0:((mapBlock (Sort.ahead w m) g (putCells id 0 (flatK PodLay0.cs 11 ly.toArray))).heap)[g]?=some (.cells (putCells id 0 (flatK PodLay0.cs 11 ly.toArray) cur) 41 (0,0)):=by
   unfold mapBlock;have:(Sort.ahead w m).heap[g]?=some (.cells cur 41 (0,0)):=hg;simp only[Array.getElem?_modify,if_true,this,Option.map_some,onCells]
  unfold grow;rw[Array.getElem?_append_left (by
   rcases Nat.lt_or_ge g (mapBlock (Sort.ahead w m) g (putCells id 0 (flatK PodLay0.cs 11 ly.toArray))).heap.size with h | h
   · exact h
   · rw[Array.getElem?_eq_none h] at e0;cases e0)]
  exact e0
 have hl2:(jd PodLay0 ly).length=lx.length*11:=by rw[jx,hl];rfl
 have hown:=YB (s:=11) (n:=lx.length) (cap:=cap) (xs:=jd PodLay0 ly) hB h1 hn hm (by simp only[putCells,Array.size_mapIdx];exact hs) hl2 (fun j hj=>by
  obtain⟨u,g1,g2⟩:=jbq ly j (by omega);have hj2:j<cur.size:=by rw[hs];have:=Nat.mul_le_mul_right 11 hn;show j<cap*11;omega
  rw[g1];simp only[putCells,Array.getElem?_mapIdx,Array.getElem?_eq_getElem hj2,Option.map_some];rw[if_pos ⟨Nat.zero_le _,by rw[size_flatK];simp;omega⟩,Nat.sub_zero,g2];rfl)
 refine⟨?_,fun _ _=>trivial⟩;rw[hl];exact hown
theorem jb1 (w:World) (g m:Nat) (ly:Array PX) (os:Array Obj):jb (fun b=>b=g) w (sortWorldK PodLay0.cs 11 w g 0 m ly os):=by
 unfold sortWorldK putRowK;have h1:jb (fun b=>b=g) w (putRow id (Sort.ahead w m) g 0 (flatK PodLay0.cs 11 ly)):=by
  refine⟨rfl,rfl,rfl,?_,fun k hk hn=>?_⟩
  · unfold putRow mapBlock;simp[Sort.ahead]
  · unfold putRow mapBlock;simp only[Array.getElem?_modify];rw[if_neg (fun e=>hn e.symm)];rfl
 exact h1.trans (jb.of (Go.Lib.below_grow _ _ (Nat.le_refl _) 0 os))
def je5 (B g n cap:Nat) (lx:List PX) (w:World) (e:Ending) (w':World):Prop:=e=.returned (.tuple #[])∧∃ly:List PX,ly.Perm lx∧(ly.Pairwise fun a b=>j5 b.1 a.1=false)∧Own PodLay0 41 w' B (.slice (some ⟨g,0,none⟩) n cap) ly∧jb (fun b=>b=g) w w'
theorem jbj (B g n cap:Nat) (lx:List PX) (w:World) (ho:Own PodLay0 41 w B (.slice (some ⟨g,0,none⟩) n cap) lx) (hn:n<1000000000) :
 Calls Tryz.prog 103 #[.slice (some ⟨g,0,none⟩) n cap,.int .i64 n,.func (.func 47) #[] #[]] w (je5 B g n cap lx w):=by
 have hn9:n=lx.length:=by obtain⟨a,c,e,_⟩:=ho.at_;cases e;rfl
 subst hn9;have h:=jeV PodLay0.cs cfP jf5 47 #[] w g cap lx.toArray jcf (jdB _ _ _) ⟨PodLay0.len,PodLay0.one,jec ho,(jR ho g rfl).2⟩ (by simpa using hn);simp only[List.size_toArray] at h;refine h.mono ?_;rintro e w' ⟨rfl,d',hp,hs,m,os,rfl⟩;have hsz:d'.size=lx.length:=by simpa using hp.1
 have hperm:d'.toList.Perm lx:=by
  have:=hp.2.2;simp only[Array.toList_extract,List.extract_eq_take_drop,List.drop_zero,Nat.sub_zero] at this;rw[List.take_of_length_le (by simp;omega),List.take_of_length_le (by simp)] at this;exact this
 refine⟨rfl,d'.toList,hperm,?_,?_,?_⟩
 · rw[List.pairwise_iff_getElem];intro i j hi hj hij;have h2:=hs i j (Nat.zero_le _) hij (by have q:=hj;simp only[Array.length_toList] at q;simp only[List.size_toArray];omega);rw[getElem!_pos d' j (by simpa using hj),getElem!_pos d' i (by simpa using hi)] at h2;simp only[Array.getElem_toList];exact h2
 · have:=jcL (m:=m) (os:=os) (ly:=d'.toList) ho (by simpa using hsz);simpa using this
 · have:=jb1 w g m d' os;simpa using this
theorem jc8 (B g n cap:Nat) (lx:List PX) (w:World) (ho:Own PodLay0 41 w B (.slice (some ⟨g,0,none⟩) n cap) lx) (hn:n<1000000000) :
 Calls Tryz.prog 46 #[.slice (some ⟨g,0,none⟩) n cap,.func (.func 47) #[] #[]] w (je5 B g n cap lx w):=by
 have HC:=lH (jbj B g n cap lx w ho hn);clear ho hn;unfold je5 at HC ⊢;go_enter Tryz.func46,Tryz.ntmps46;go_wp2_with fail
 refine HC.out.mono ?_;rintro e w1 ⟨rfl,d',hp⟩;have HP:=lH hp;clear hp;go_wp2_with fail
 go_end0
 exact⟨rfl,d',HP.out⟩
theorem jaH (w:World):Calls Tryz.prog 103 #[.slice none 0 0,.int .i64 0,.func (.func 47) #[] #[]] w
 fun e w'=>e=.returned (.tuple #[])∧w=w':=by
 have hi:Calls Tryz.prog 144 #[.slice none 0 0,.int .i64 0,.int .i64 0,.func (.func 47) #[] #[]] w fun e w'=>e=.returned (.tuple #[])∧w=w':=by
  go_enter Tryz.func144,Tryz.ntmps144;go_wp2;refine wp_loop_rounds 1 ?_;rw[rounds_succ];go_wp2;go_end0
  exact⟨rfl,rfl⟩
 go_enter Tryz.func103,Tryz.ntmps103;go_wp2;refine wp_loop_rounds 1 ?_;rw[rounds_succ];go_wp2_with fail
 refine hi.mono ?_;rintro e w1 ⟨rfl,rfl⟩;go_wp2_with fail
 refine wp_loop_rounds 1 ?_;rw[rounds_succ];go_wp2;go_end0
 exact⟨rfl,rfl⟩
theorem jce (w:World):Calls Tryz.prog 46 #[.slice none 0 0,.func (.func 47) #[] #[]] w
 fun e w'=>e=.returned (.tuple #[])∧w=w':=by
 have HC:=lH (jaH w);go_enter Tryz.func46,Tryz.ntmps46;go_wp2_with fail
 refine HC.out.mono ?_;rintro e w1 ⟨rfl,rfl⟩;go_wp2_with fail
 go_end0
 exact⟨rfl,rfl⟩
open Go.RowKit
theorem jcg (a b d:Option Addr) (len cap m c n e:Nat) (nl:List Nod) (pl:List Pd) (bl:List Bd) (w:World) (hn:jt w a len nl) (hp:jv w b m pl) (hb:zu w d n bl) (h1:len≤cap) (h2:cap≤maxLen) (h3:m≤c) (h4:c≤maxLen) (h5:n≤e) (h6:e≤maxLen) (hl:jn ⟨nl,pl,bl⟩) :
 Calls Tryz.prog 44 #[.agg #[.slice a len cap,.slice b m c,.slice d n e]] w fun e w'=>∃a1 n1 c1 a2 n2 c2 a3 n3 c3,e=.returned (.agg #[.slice a1 n1 c1,.slice a2 n2 c2,.slice a3 n3 c3])∧ju (fun b=>b<w.heap.size) w.heap.size w' (.slice a1 n1 c1) (.slice a2 n2 c2) (.slice a3 n3 c3) ⟨nl,pl,bl⟩∧Kept w w':=by
 obtain⟨Z,hZ⟩:=eX ((w.alloc (.cells #[.slice a len cap,.slice b m c,.slice d n e] 35)).alloc (.cells #[.slice none 0 0,.slice none 0 0,.slice none 0 0] 35))
 have hkz:Kept w Z:=by rw[←hZ];exact ji _ _ _
 have hzs:Z.heap.size=w.heap.size+2:=by rw[←hZ];simp
 have cc:=jc w (.slice a len cap) [.slice b m c,.slice d n e] 35 Z (by rw[←hZ];exact ja _ _);have HQ:=lH (show je (w.heap.size+1) [.slice none 0 0,.slice none 0 0,.slice none 0 0] Z by
  have dd:=jc (w.alloc (.cells #[.slice a len cap,.slice b m c,.slice d n e] 35)) (.slice none 0 0) [.slice none 0 0,.slice none 0 0] 35 Z (by rw[hZ];exact Kept.refl _);rw[World.size_alloc] at dd;exact dd)
 have Vd:=lH hkz;have Vc:=lH hzs;by_cases hm0:m=0
 · subst hm0;have hpl:pl=[]:=List.length_eq_zero_iff.1 hp.1;subst hpl;have h0:(((0:Nat):Int)==0)=true:=rfl;have HC:=lH (YV a b d len cap 0 c n e nl [] bl ⟨#[]⟩ ⟨#[]⟩ Z (by decide) (hn.kept hkz) (hp.kept hkz) (hb.kept hkz) h1 h2 h3 h4 h5 h6 hl);obtain⟨o0,o1,o2⟩:=cc.at3;clear hn hp hb h1 h2 h3 h4 h5 h6 hl hkz cc hzs;go_enter Tryz.func44,Tryz.ntmps44;go_wp2_with fail
   try rw[hZ]
   go_wp2_with fail
   try rw[hZ]
   clear hZ o0 o1 o2;refine HC.out.mono ?_;rintro e9 w1 ⟨a1,n1,c1,a2,n2,c2,a3,n3,c3,rfl,ho,k⟩;obtain⟨HO,K,HQ⟩:=lH3 ho k (HQ.out.kept k);clear ho k HC;obtain⟨z0,z1,z2⟩:=HQ.out.at3;have f0:=HQ.out.free 0;have f1:=HQ.out.free 1;have f2:=HQ.out.free 2;have P:=lH (jW (vs:=[.slice a1 n1 c1,.slice a2 n2 c2,.slice a3 n3 c3]) HQ.out rfl);go_wp2;obtain⟨WE,hWE⟩:=eX (w1.setCells (w.heap.size+1) 0 [.slice a1 n1 c1,.slice a2 n2 c2,.slice a3 n3 c3])
   have hWE2:(((w1.setCell ⟨(w.heap.size+1),0,none⟩ (.slice a1 n1 c1)).setCell ⟨(w.heap.size+1),1,none⟩ (.slice a2 n2 c2)).setCell ⟨(w.heap.size+1),2,none⟩ (.slice a3 n3 c3))=WE:=hWE;rw[hWE] at P;try rw[hWE2]
   have GE:=lH (show jb (fun b=>b<Z.heap.size) w1 WE by rw[←hWE];exact jb.cells (S:=fun b=>b<Z.heap.size) _ (by have:=Vc.out;omega) _ _ _);clear hWE hWE2;obtain⟨PC,hsz,hbl,hkp⟩:=P.out;refine bodyPost_ret (by simp[results,Tryz.results44,go_sem,PC.at_ 0 _ rfl,PC.at_ 1 _ rfl,PC.at_ 2 _ rfl];try rfl) rfl ?_;have Vf:=(HO.out.step GE.out).less (B':=w.heap.size) (S':=fun b=>b<w.heap.size) Vd.out.size (fun b hb=>Nat.lt_of_lt_of_le hb Vd.out.size);exact⟨_,_,_,_,_,_,_,_,_,rfl,Vf,hkp _ _ (by omega) (Vd.out.trans K.out)⟩
 · have h0:((m:Int)==0)=false:=by simp;omega
   obtain⟨bb,bo,rfl⟩:=hp.form.resolve_left (by omega);obtain⟨x,xa1,xm1,xc1,xa2,xm2,xc2,xa3,xm3,xc3,xa4,xm4,xc4,hx,hd,hbl9,p0,p1,p2,p3,p4,p5,p6,p7,p8,p9,p10,hat⟩:=hp.at_ (show 0<m by omega);have hpx:pl=x::pl.drop 1:=hd;have hmv:zv ⟨nl,pl,bl⟩ x.name x.node=⟨nl,pl,bl⟩:=by
    unfold zv;rw[hpx];show (⟨nl,Zr x.name x.node (x::pl.drop 1),bl⟩:Clu)=_;rw[Zr,if_pos (Jz _)]
   simp only[Nat.zero_mul,Nat.add_zero] at p0 p9;have HF:=lH (show ∀W,jb (fun b=>b=w.heap.size+1) Z W→W.cell? ⟨w.heap.size,0,none⟩=some (.slice a len cap)∧W.cell? ⟨w.heap.size,1,none⟩=some (.slice (some ⟨bb,bo,none⟩) m c)∧W.cell? ⟨w.heap.size,2,none⟩=some (.slice d n e)∧W.cell? ⟨bb,bo,none⟩=some (.string x.name)∧W.cell? ⟨bb,bo+9,none⟩=some (.string x.node) from fun W g=>by
    have h1:=cc.block (g.block w.heap.size (by omega) (by omega));have q0:=(World.cell?_of_block (a:=⟨bb,bo,none⟩) (g.block bb (by omega) (by omega))).trans (cell_later hkz p0);have q9:=(World.cell?_of_block (a:=⟨bb,bo+9,none⟩) (g.block bb (by omega) (by omega))).trans (cell_later hkz p9);exact⟨h1.at_ 0 _ rfl,h1.at_ 1 _ rfl,h1.at_ 2 _ rfl,q0,q9⟩)
   have HC:=lH (show ∀W,Kept Z W→Calls Tryz.prog 66 #[.agg #[.slice a len cap,.slice (some ⟨bb,bo,none⟩) m c,.slice d n e],.string x.name,.string x.node] W fun e w'=>∃a1 n1 c1 a2 n2 c2 a3 n3 c3,e=.returned (.agg #[.slice a1 n1 c1,.slice a2 n2 c2,.slice a3 n3 c3])∧ju (fun b=>b<W.heap.size) W.heap.size w' (.slice a1 n1 c1) (.slice a2 n2 c2) (.slice a3 n3 c3) ⟨nl,pl,bl⟩∧Kept W w' from fun W k=>by
    have hc:=YV a (some ⟨bb,bo,none⟩) d len cap m c n e nl pl bl x.name x.node W hat.node (hn.kept (hkz.trans k)) (hp.kept (hkz.trans k)) (hb.kept (hkz.trans k)) h1 h2 h3 h4 h5 h6 hl;rw[hmv] at hc;exact hc)
   have hmz:(0:Int)<(m:Int):=by omega
   have hmn:0<m:=by omega
   obtain⟨xn,hxn⟩:=eX (x.name)
   obtain⟨xd,hxd⟩:=eX (x.node)
   rw[hxn,hxd] at HF HC;obtain⟨o0,o1,o2,o3,o4⟩:=HF.out Z (jb.of (Kept.refl _));clear hn hp hb h1 h2 h3 h4 h5 h6 hl hkz cc hat hd hbl9 hx hpx hmv p0 p1 p2 p3 p4 p5 p6 p7 p8 p9 p10 hm0 hzs hxn hxd;go_enter Tryz.func44,Tryz.ntmps44;go_upto_region 3 with fail
   try rw[hZ]
   clear hZ o0 o1 o2 o3 o4;have J:=lH (Kept.drew Z);refine wp_region_held_drew (S:=fun W=>W.cell? ⟨w.heap.size,0,none⟩=some (.slice a len cap)∧W.cell? ⟨w.heap.size,1,none⟩=some (.slice (some ⟨bb,bo,none⟩) m c)∧W.cell? ⟨w.heap.size,2,none⟩=some (.slice d n e)∧W.cell? ⟨bb,bo,none⟩=some (.string xn)∧W.cell? ⟨bb,bo+9,none⟩=some (.string xd)) (by kernel_rfl) (HF.out _ (jb.of J.out)) (fun hHeld=>?_);obtain⟨wd,hwd⟩:=eX (Z.drew)
   rw[hwd] at J hHeld;try rw[hwd]
   clear hwd;refine tR 0 rfl (by kernel_rfl) (fun _ _ _=>id) (Or.inl ⟨by rfl,by rintro W ⟨o0,o1,o2,o3,o4⟩;go_simp<;>with_reducible rfl⟩) ‹_› ?_;refine tR 1 rfl (by kernel_rfl) (fun _ _ _=>id) (Or.inl ⟨by rfl,by rintro W ⟨o0,o1,o2,o3,o4⟩;go_simp<;>with_reducible rfl⟩) ‹_› ?_;refine tR 2 rfl (by kernel_rfl) (fun _ _ _=>id) (Or.inl ⟨by rfl,by rintro W ⟨o0,o1,o2,o3,o4⟩;go_simp<;>with_reducible rfl⟩) ‹_› ?_;refine tR 3 rfl (by kernel_rfl) (fun _ _ _=>id) (Or.inl ⟨by rfl,by rintro W ⟨o0,o1,o2,o3,o4⟩;go_simp<;>with_reducible rfl⟩) ‹_› ?_;refine tR 4 rfl (by kernel_rfl) (fun _ _ _=>id) (Or.inl ⟨by rfl,by rintro W ⟨o0,o1,o2,o3,o4⟩;go_simp<;>with_reducible rfl⟩) ‹_› ?_;try simp only[nA,nB,nC,nD,nE]
   refine tR 5 rfl (by kernel_rfl) (fun _ _ _=>id) (Or.inl ⟨by rfl,by rintro W ⟨o0,o1,o2,o3,o4⟩;go_simp<;>with_reducible rfl⟩) ‹_› ?_;refine tR 6 rfl (by kernel_rfl) (fun _ _ _=>id) (Or.inl ⟨by rfl,by rintro W ⟨o0,o1,o2,o3,o4⟩;go_simp<;>with_reducible rfl⟩) ‹_› ?_;refine tR 7 rfl (by kernel_rfl) (fun _ _ _=>id) (Or.inl ⟨by rfl,by rintro W ⟨o0,o1,o2,o3,o4⟩;go_simp<;>with_reducible rfl⟩) ‹_› ?_;refine tR 8 rfl (by kernel_rfl) (fun _ _ _=>id) (Or.inl ⟨by rfl,by rintro W ⟨o0,o1,o2,o3,o4⟩;go_simp<;>with_reducible rfl⟩) ‹_› ?_;refine tR 9 rfl (by kernel_rfl) (fun _ _ _=>id) (Or.inl ⟨by rfl,by rintro W ⟨o0,o1,o2,o3,o4⟩;go_simp<;>with_reducible rfl⟩) ‹_› ?_;try simp only[nA,nB,nC,nD,nE]
   refine tR 10 rfl (by kernel_rfl) (fun _ _ _=>id) (Or.inl ⟨by rfl,by rintro W ⟨o0,o1,o2,o3,o4⟩;go_simp<;>with_reducible rfl⟩) ‹_› ?_;try simp only[nA,nB,nC,nD,nE]
   refine rd1 11 fun K9 Ky=>?_;go_simp;refine(HC.out _ J.out).mono ?_;rintro e9 w1 ⟨a1,n1,c1,a2,n2,c2,a3,n3,c3,rfl,ho,k⟩;have K:=lH (J.out.trans k);have HO:=lH (ho.less (B':=Z.heap.size) (S':=fun b=>b<Z.heap.size) J.out.size (fun b hb=>Nat.lt_of_lt_of_le hb J.out.size));clear ho k HC;refine Ky.out _ _ (HF.out _ (jb.of K.out)) (fun _=>?_);clear Ky K9;try simp only[nA,nB,nC,nD,nE]
   have HQ:=lH (HQ.out.kept K.out);obtain⟨z0,z1,z2⟩:=HQ.out.at3;have f0:=HQ.out.free 0;have f1:=HQ.out.free 1;have f2:=HQ.out.free 2;have P:=lH (jW (vs:=[.slice a1 n1 c1,.slice a2 n2 c2,.slice a3 n3 c3]) HQ.out rfl);refine rd1 12 fun K9 Ky=>?_;go_simp;obtain⟨WE,hWE⟩:=eX (w1.setCells (w.heap.size+1) 0 [.slice a1 n1 c1,.slice a2 n2 c2,.slice a3 n3 c3])
   have hWE2:(((w1.setCell ⟨(w.heap.size+1),0,none⟩ (.slice a1 n1 c1)).setCell ⟨(w.heap.size+1),1,none⟩ (.slice a2 n2 c2)).setCell ⟨(w.heap.size+1),2,none⟩ (.slice a3 n3 c3))=WE:=hWE;rw[hWE] at P;try rw[hWE2]
   have GE:=lH (show jb (fun b=>b<Z.heap.size) w1 WE by rw[←hWE];exact jb.cells (S:=fun b=>b<Z.heap.size) _ (by have:=Vc.out;omega) _ _ _);have GQ:=lH (show jb (fun b=>b=w.heap.size+1) w1 WE by rw[←hWE];exact jb.cells (S:=fun b=>b=w.heap.size+1) _ rfl _ _ _);clear hWE hWE2;obtain⟨PC,hsz,hbl,hkp⟩:=P.out;refine Ky.out _ _ (HF.out _ ((jb.of K.out).trans (show jb (fun b=>b=w.heap.size+1) w1 WE from GQ.out))) (fun _=>?_);clear Ky K9;try simp only[nA,nB,nC,nD,nE]
   refine wpAnyH_done (by kernel_rfl) ?_ _;go_wp2;refine bodyPost_ret (by simp[results,Tryz.results44,go_sem,PC.at_ 0 _ rfl,PC.at_ 1 _ rfl,PC.at_ 2 _ rfl];try rfl) rfl ?_;have Vf:=(HO.out.step GE.out).less (B':=w.heap.size) (S':=fun b=>b<w.heap.size) Vd.out.size (fun b hb=>Nat.lt_of_lt_of_le hb Vd.out.size);exact⟨_,_,_,_,_,_,_,_,_,rfl,Vf,hkp _ _ (by omega) (Vd.out.trans K.out)⟩
def jgt (pl:List Pd) (w:World) (e:Ending) (w':World):Prop:=∃v lx,e=.returned v∧Yp pl (lx.map fun z:PX=>z.1)∧Jo PodLay0 41 At4 w.heap.size w' v lx∧Kept w w'
theorem jez {lx ly:List PX} (h:ly.Perm (lx.filter fun z=>jG z.1)) (g:ly.Pairwise fun a b=>j5 b.1 a.1=false):Yp (lx.map fun z=>z.1) (ly.map fun z=>z.1):=by
 refine⟨?_,?_⟩
 · have h2:=h.map fun z=>z.1;rw[List.filter_map];exact h2
 · rw[List.pairwise_map];exact g
theorem jcd (a b d:Option Addr) (len cap m c n e:Nat) (nl:List Nod) (pl:List Pd) (bl:List Bd) (w:World) (hn:jt w a len nl) (hp:jv w b m pl) (hb:zu w d n bl) (h1:len≤cap) (h2:cap≤maxLen) (h3:m≤c) (h4:c≤maxLen) (h5:n≤e) (h6:e≤maxLen) (hl:jn ⟨nl,pl,bl⟩) :
 Calls Tryz.prog 14 #[.agg #[.slice a len cap,.slice b m c,.slice d n e]] w (jgt pl w):=by
 obtain⟨Z,hZ⟩:=eX (w.alloc (.cells #[.slice a len cap,.slice b m c,.slice d n e] 35))
 have hkz:Kept w Z:=by rw[←hZ];exact ja _ _
 have cc:=jc w (.slice a len cap) [.slice b m c,.slice d n e] 35 Z (by rw[hZ];exact Kept.refl _);obtain⟨o0,o1,o2⟩:=cc.at3;obtain⟨Vd,HC,HM⟩:=lH3 hkz (jcg a b d len cap m c n e nl pl bl Z (hn.kept hkz) (hp.kept hkz) (hb.kept hkz) h1 h2 h3 h4 h5 h6 hl) (show pl.length≤100000 from hl.podsN);clear hn hp hb h1 h2 h3 h4 h5 h6 hl hkz cc;unfold jgt;go_enter Tryz.func14,Tryz.ntmps14;go_wp2_with fail
 try rw[hZ]
 go_wp2_with fail
 try rw[hZ]
 clear hZ o0 o1 o2;refine HC.out.mono ?_;rintro e w1 ⟨a1,n1,c1,a2,n2,c2,a3,n3,c3,rfl,ho1,k⟩;have ho:=ho1.less (B':=w.heap.size) (S':=fun b=>b<w.heap.size) Vd.out.size (fun b e=>Nat.lt_of_lt_of_le e Vd.out.size);have K:=lH (Vd.out.trans k);obtain⟨lx,hlx,hox,hdx⟩:=ho.pods;have hlen:lx.length≤100000:=by have:=congrArg List.length hlx;rw[List.length_map] at this;rw[this];exact HM.out
 have TR:=lH hlx;have NI:=lH hdx;have hlx2:(lx.map fun z=>z.1)=pl:=hlx;have nfl:∀(x y z:Value) (W:World),(Instr.field 35 (.agg #[x,y,z]) 1).run Tryz.prog W=.ok y W:=fun _ _ _ _=>by kernel_rfl
 clear k ho ho1 hlx HC;rcases hox.1.2 with ⟨e0,hz⟩ | ⟨g,cp,cur,e0,hbg,hg,hr⟩
 · cases e0
   have hlz:lx=[]:=List.length_eq_zero_iff.1 hz;subst hlz;have hpl:pl=[]:=hlx2.symm;subst hpl;clear hox hdx hlen hz hlx2;go_wp2_with fail
   refine(jdL _).mono ?_;rintro e w2 ⟨rfl,k2⟩;have K:=lH (K.out.trans k2);clear k2;go_wp2_with fail
   refine(jce _).mono ?_;rintro e w3 ⟨rfl,rfl⟩;go_wp2;go_ret;exact⟨_,[],rfl,⟨List.Perm.refl _,List.Pairwise.nil⟩,⟨⟨_,_,_,rfl⟩,⟨Own.nil _ _ _,fun z h=>by cases h⟩,fun z h=>by cases h⟩,K.out⟩
 · obtain⟨ea,en,ec⟩:a2=some ⟨g,0,none⟩∧n2=lx.length∧c2=cp:=by cases e0;exact⟨rfl,rfl,rfl⟩
   subst ea en ec;obtain⟨HD,HB,VX⟩:=lH3 (jeI g lx.length c2 w.heap.size lx w1 hox (fun z hz=>(hdx z hz).here) hlen) (show w.heap.size≤g from(jR hox g rfl).1) hlen;obtain⟨n9,hn9⟩:=eX (lx.length)
   rw[hn9] at HD;try rw[hn9]
   clear hox hdx hlen hlx2 hbg hg hr e0;go_wp2_with fail
   refine HD.out.mono ?_;rintro e w2 ⟨n8,rfl,ho2,g2⟩;have hn8:n8=(lx.filter fun z=>jG z.1).length:=by obtain⟨a,c,e,_⟩:=ho2.at_;cases e;rfl
   have HS:=lH (jc8 w.heap.size g n8 c2 (lx.filter fun z=>jG z.1) w2 ho2 (by have:=List.length_filter_le (fun z=>jG z.1) lx;have:=VX.out;omega));have G2:=lH g2;clear ho2 g2 hn8 HD hn9;go_wp2_with fail
   refine HS.out.mono ?_;rintro e w3 ⟨rfl,ly,hp,hs,ho3,g3⟩;obtain⟨G,HP,HO,NJ⟩:=lH4 (G2.out.trans g3) (show Yp pl (ly.map fun z=>z.1) by rw[←TR.out];exact jez hp hs) ho3 hp;clear hp hs ho3 g3 HS;go_wp2;go_ret;have key:∀z ∈ ly,Off (fun b=>b<w.heap.size∨b=g) w3 fun u=>At4 u z:=fun z hz =>
    ((NI.out z (List.mem_filter.1 (NJ.out.mem_iff.1 hz)).1).step (G.out.mono fun b e=>by subst e;exact .inr rfl)).less fun b e=>e.imp id fun e=>by subst e;rfl
   refine⟨_,ly,rfl,HP.out,⟨⟨_,_,_,rfl⟩,⟨HO.out,fun z hz=>(key z hz).less fun b e=>.inr (Option.some.inj e).symm⟩,fun z hz=>(key z hz).less fun b e=>e.imp id fun e=>(Option.some.inj e).symm⟩,?_⟩;exact jb.below K.out G.out fun i e=>by subst e;exact HB.out
def JQ (s:Clu):List Pd→Option Jb
 | []=>none
 | p::t=>match JY s p with
  | some x=>some x
  | none=>JQ s t
def zO (s:Clu):Option Jb:=JQ s (Zo s.pods)
theorem XE {s:Clu} {p:Pd} {t:List Pd} {x:Jb} (h:JY s p=some x):JQ s (p::t)=some x:=by rw[JQ,h]
theorem jbG {s:Clu} {p:Pd} {t:List Pd} (h:JY s p=none):JQ s (p::t)=JQ s t:=by rw[JQ,h]
theorem jgB {v:Value} {s:Clu} {w:World} (h:jC w v s) (hl:jn s) (ha:Asc s.pods):Calls Tryz.prog 14 #[v] w fun e w'=>∃y,e=.returned y∧Jw w' y (Zo s.pods)∧Kept w w':=by
 obtain⟨v1,v2,v3,rfl,⟨a,cap,rfl,l1,m1,h1⟩,⟨b,cp,rfl,l2,m2,h2⟩,⟨d,cb,rfl,l3,m3,h3⟩⟩:=h;refine(jcd a b d _ cap _ cp _ cb s.nodes s.pods s.buds w h1 h2 h3 l1 m1 l2 m2 l3 m3 hl).mono ?_;rintro e w' ⟨v,lx,rfl,hp,hf,kk⟩;refine⟨v,rfl,?_,kk⟩;rw[←jbb ha hp];exact qz hf.2.1
theorem jaN (s1 s2 s3:Option Addr) (n1 e1 n2 e2 n3 e3:Nat) (s:Clu) (w:World) (hs:jC w (j9 (.slice s1 n1 e1) (.slice s2 n2 e2) (.slice s3 n3 e3)) s) (hl:jn s) (ha:Asc s.pods):Calls Tryz.prog 78 #[.agg #[.slice s1 n1 e1,.slice s2 n2 e2,.slice s3 n3 e3]] w (YK (zO s) w):=by
 obtain⟨Z,hZ⟩:=eX (w.alloc (.cells #[.slice s1 n1 e1,.slice s2 n2 e2,.slice s3 n3 e3] 35))
 have hkz:Kept w Z:=by rw[←hZ];exact ja _ _
 obtain⟨Vg,HS,HL,HK,HP⟩:=lH5 (jc w (.slice s1 n1 e1) [.slice s2 n2 e2,.slice s3 n3 e3] 35 Z (by rw[hZ];exact Kept.refl _)) (hs.kept hkz) hl hkz (jgB (hs.kept hkz) hl ha);clear hs hkz hl ha;unfold YK;have y0:=Vg.out.at_ 0 _ rfl;have y1:=Vg.out.at_ 1 _ rfl;have y2:=Vg.out.at_ 2 _ rfl;go_enter Tryz.func78,Tryz.ntmps78;go_wp2_with fail
 try rw[hZ]
 go_wp2_with fail
 try rw[hZ]
 clear hZ y0 y1 y2;refine HP.out.mono ?_;rintro e w1 ⟨y,rfl,⟨pa,pc,rfl,-,-,hrow⟩,kk⟩;have K:=lH kk;have HR:=lH hrow;obtain⟨pl,hpl⟩:=eX (Zo s.pods)
 have VO:=lH hpl;rw[hpl] at HR;try rw[hpl]
 obtain⟨pn,hpn⟩:=eX (pl.length)
 have VY:=lH hpn;have hpb:pn≤100000:=by have:=jfm s.pods;have h2:=VO.out;rw[h2] at this;have:=HL.out.podsN;omega
 rw[hpn] at HR;try rw[hpn]
 clear kk hrow hpl hpn HP;go_wp2_with fail
 go_loopw [9] (fun iv wr=>∃k:Nat,k≤pn∧iv=.int .i64 k∧JQ s (pl.drop k)=zO s∧Kept w1 wr) (fun iv _=>pn-(intOf iv).toNat)
 case atStart=>exact⟨0,Nat.zero_le _,rfl,by rw[←VO.out];rfl,Kept.refl _⟩
 case round =>
  obtain⟨k,hk,rfl,hS,hK⟩:=hrel;have Uj:=lH hS;have Us:=lH hK;clear hS hK;by_cases hlt:k<pn
  · skip;obtain⟨g,off,rfl⟩:=HR.out.form.resolve_left (by omega);obtain⟨n,b1,m1,c1,b2,m2,c2,b3,m3,c3,b4,m4,c4,hn,hd,hb,p0,p1,p2,p3,p4,p5,p6,p7,p8,p9,p10,hat⟩:=(HR.out.kept Us.out).at_ hlt;have HD:=lH hd;have hkk:(k:Int)<(pn:Int):=by omega
    have hk0:¬(k:Int)<0:=by omega
    obtain⟨wx,hwx⟩:=eX (wr.alloc (.cells #[.string n.name,.string n.owner,.int .i64 n.prio,.slice b1 m1 c1,.slice b2 m2 c2,.slice b3 m3 c3,.slice b4 m4 c4,.string n.key,.int .i64 n.most,.string n.node,.bool n.hold] 41))
    have hkx:Kept wr wx:=by rw[←hwx];exact ja _ _
    have Vt:=lH (jc wr (.string n.name) [.string n.owner,.int .i64 n.prio,.slice b1 m1 c1,.slice b2 m2 c2,.slice b3 m3 c3,.slice b4 m4 c4,.string n.key,.int .i64 n.most,.string n.node,.bool n.hold] 41 wx (by rw[hwx];exact Kept.refl _));obtain⟨bq,hbq⟩:=eX (wr.heap.size)
    rw[hbq] at Vt;have KX:=lH (Us.out.trans hkx);have HC:=lH (Z4 s1 s2 s3 n1 e1 n2 e2 n3 e3 b1 b2 b3 b4 m1 c1 m2 c2 m3 c3 m4 c4 n s wx (HS.out.kept (K.out.trans KX.out)) HL.out (hat.kept hkx));unfold jo at HC;obtain⟨ow,how⟩:=eX (JY s n)
    have Vs:=lH how;rw[how] at HC;unfold Jt at HC;go_upto_region 4 with fail
    try rw[hwx]
    try rw[hbq]
    clear hwx hbq hd hb hn hkx hk0 hkk hat how p0 p1 p2 p3 p4 p5 p6 p7 p8 p9 p10;obtain⟨y0,y1,y2⟩:=(Vg.out.kept (K.out.trans KX.out)).at3;obtain⟨q0,q1,q2,q3,q4,q5,q6,q7,q8,q9,q10⟩:=Vt.out.at11;go_wp2_with fail
    refine HC.out.mono ?_;rintro e w2 ⟨v,rfl,⟨a,nn,c,rfl,hrd⟩,kk⟩;have K2:=lH (KX.out.trans kk);have Vm:=lH hrd;clear kk HC hrd y0 y1 y2 q0 q1 q2 q3 q4 q5 q6 q7 q8 q9 q10
    cases ow with
    | none =>
     have HE:=lH (show JQ s (pl.drop (k+1))=zO s by
      rw[←Uj.out,HD.out,jbG Vs.out])
     go_wp2;go_roundw
     case rel=>exact⟨k+1,by omega,by go_num,HE.out,K2.out.trans (ja _ _)⟩
     case measure=>simp[intOf];omega
    | some b =>
     obtain⟨x,t,h⟩:=b;have HE:=lH (show zO s=some (x,t,h) by rw[←Uj.out,HD.out,XE Vs.out]);have Vm:=lH (show Off (fun b=>b<wx.heap.size) w2 fun u=>Reads jK u (.slice a nn c) h from Vm.out);obtain⟨w3,hw3⟩:=eX (w2.alloc (.cells #[.string x,.string t,.slice a nn c] 46))
     have hk3:Kept w2 w3:=by rw[←hw3];exact ja _ _
     obtain⟨V9,Vm,K3⟩:=lH3 (jc w2 (.string x) [.string t,.slice a nn c] 46 w3 (by rw[hw3];exact Kept.refl _)) (Vm.out.step (jb.of hk3)) (K2.out.trans hk3);clear hk3;go_upto_region 5 with fail
     try rw[show (Option.some (x,t,h):Option Jb).getD wzP=(x,t,h) from rfl]
     try dsimp only
     try rw[hw3]
     clear hw3;obtain⟨z0,z1,z2⟩:=V9.out.at3;go_wp2;rw[HE.out];refine⟨rfl,?_,?_,HK.out.trans (K.out.trans K3.out)⟩
     · intro u v l e2
       cases e2
       exact⟨a,nn,c,rfl,Vm.out.less fun b e=>Nat.lt_of_lt_of_le (Nat.lt_of_lt_of_le e HK.out.size) (K.out.trans KX.out).size⟩
     · intro e2
       cases e2
  · have HE:=lH (show zO s=none by
     rw[←Uj.out,List.drop_of_length_le (by rw[VY.out];omega)];rfl)
    have hkk:¬(k:Int)<(pn:Int):=by omega
    go_wp2;go_end0
    rw[HE.out];exact⟨(by intros;rename_i h;cases h),fun _=>rfl,HK.out.trans (K.out.trans Us.out)⟩
theorem jcc (q:Nat) (s1 s2 s3:Option Addr) (n1 e1 n2 e2 n3 e3:Nat) (s:Clu) (w:World) (hs:jC w (j9 (.slice s1 n1 e1) (.slice s2 n2 e2) (.slice s3 n3 e3)) s) (hl:jn s) (ha:Asc s.pods) (hq:je q [.slice s1 n1 e1,.slice s2 n2 e2,.slice s3 n3 e3] w):Calls Tryz.prog 77 #[.pointer (some ⟨q,0,none⟩)] w (YK (zO s) w):=by
 have HC:=lH (jaN s1 s2 s3 n1 e1 n2 e2 n3 e3 s w hs hl ha);have y0:=hq.at_ 0 _ rfl;have y1:=hq.at_ 1 _ rfl;have y2:=hq.at_ 2 _ rfl;obtain⟨o,ho⟩:=eX (zO s)
 rw[ho] at HC ⊢;clear hs hl ha hq ho;go_enter Tryz.func77,Tryz.ntmps77;go_wp2_with fail
 refine HC.out.mono ?_;intro e1 w1 hsp;have HG:=lH hsp;obtain⟨g1,g0,kk⟩:=hsp;clear HC y0 y1 y2
 cases hn:o with
 | none =>
  obtain rfl:=g0 hn;clear g0 g1 hn kk;go_wp2;go_end0
  exact HG.out
 | some z =>
  obtain⟨x,t,h⟩:=z;obtain⟨a,n,c,rfl,-⟩:=g1 x t h hn;rw[hn] at HG;clear g0 g1 hn kk;go_wp2;exact⟨rfl,HG.out⟩
theorem jdt (s1 s2 s3:Option Addr) (n1 e1 n2 e2 n3 e3:Nat) (s:Clu) (w:World) (hs:jC w (j9 (.slice s1 n1 e1) (.slice s2 n2 e2) (.slice s3 n3 e3)) s) (hl:jn s) (ha:Asc s.pods):Calls Tryz.prog 29 #[.agg #[.slice s1 n1 e1,.slice s2 n2 e2,.slice s3 n3 e3]] w (Jt (zO s) w):=by
 have hmf:=hmfL (P:=Tryz.prog);obtain⟨Z,hZ⟩:=eX ((w.alloc (.cells #[.slice s1 n1 e1,.slice s2 n2 e2,.slice s3 n3 e3] 35)).alloc (.cells #[.string ⟨#[]⟩,.string ⟨#[]⟩,.slice none 0 0] 46))
 have hkz:Kept w Z:=by rw[←hZ];exact ji _ _ _
 have Vg:=lH (jc w (.slice s1 n1 e1) [.slice s2 n2 e2,.slice s3 n3 e3] 35 Z (by rw[←hZ];exact ja _ _));have Va:=lH (show je (w.heap.size+1) [.string ⟨#[]⟩,.string ⟨#[]⟩,.slice none 0 0] Z by
  have dd:=jc (w.alloc (.cells #[.slice s1 n1 e1,.slice s2 n2 e2,.slice s3 n3 e3] 35)) (.string ⟨#[]⟩) [.string ⟨#[]⟩,.slice none 0 0] 46 Z (by rw[hZ];exact Kept.refl _);rw[World.size_alloc] at dd;exact dd)
 obtain⟨HK,U7,HC⟩:=lH3 hkz (show w.heap.size+1<Z.heap.size by rw[←hZ];simp) (qJ w.heap.size (zO s) Z fun W k=>jcc w.heap.size s1 s2 s3 n1 e1 n2 e2 n3 e3 s W (hs.kept (hkz.trans k)) hl ha (Vg.out.kept k));obtain⟨ow,how⟩:=eX (zO s)
 rw[how] at HC ⊢;clear hs hl ha hkz how;unfold Jt at HC;have y0:=Vg.out.at_ 0 _ rfl;have y1:=Vg.out.at_ 1 _ rfl;have y2:=Vg.out.at_ 2 _ rfl;obtain⟨bq,hbq⟩:=eX (w.heap.size+1)
 rw[hbq] at Va U7;have Vn:=lH (show w.heap.size≤bq by omega);go_enter Tryz.func29,Tryz.ntmps29;go_wp2_with fail
 try rw[hZ]
 try rw[hbq]
 go_wp2_with fail
 try rw[hZ]
 try rw[hbq]
 clear hZ y0 y1 y2;refine HC.out.mono ?_;rintro e1 w1 ⟨v,rfl,⟨a,n,c,rfl,hrd⟩,kk⟩;obtain⟨K,Va,Vm⟩:=lH3 (HK.out.trans kk) (Va.out.kept kk) hrd;clear kk HC hrd;obtain⟨x,hx⟩:=eX ((ow.getD wzP).1)
 obtain⟨y,hy⟩:=eX ((ow.getD wzP).2.1)
 obtain⟨t,ht⟩:=eX (ow.isSome)
 obtain⟨HX,HY,Ru⟩:=lH3 hx hy ht;try rw[hx]
 try rw[hy]
 try rw[ht]
 clear hx hy ht;have c0:=Va.out.at_ 0 _ rfl;have c1:=Va.out.at_ 1 _ rfl;have c2:=Va.out.at_ 2 _ rfl;have f0:=Va.out.free 0;have f1:=Va.out.free 1;have f2:=Va.out.free 2;obtain⟨P,KF,GE⟩:=lH3 (jW (vs:=[.string x,.string y,.slice a n c]) Va.out rfl) (show Kept w (w1.setCells bq 0 [.string x,.string y,.slice a n c]) from jm bq _ _ _ _ _ Vn.out K.out) (jb.cells (S:=fun b=>b<Z.heap.size) bq U7.out [.string x,.string y,.slice a n c] 0 w1);go_wp2;obtain⟨WE,hWE⟩:=eX (w1.setCells bq 0 [.string x,.string y,.slice a n c])
 have hWE2:(((w1.setCell ⟨bq,0,none⟩ (.string x)).setCell ⟨bq,1,none⟩ (.string y)).setCell ⟨bq,2,none⟩ (.slice a n c))=WE:=hWE;rw[hWE] at P KF GE;try rw[hWE2]
 clear hWE hWE2 c0 c1 c2 f0 f1 f2;refine bodyPost_ret (by simp[results,Tryz.results29,go_sem,P.out.cells.at_ 0 _ rfl,P.out.cells.at_ 1 _ rfl,P.out.cells.at_ 2 _ rfl];try rfl) rfl ?_;exact⟨_,by rw[Ru.out],⟨a,n,c,by rw[HX.out,HY.out],(Vm.out.step GE.out).less fun b e=>Nat.lt_of_lt_of_le e HK.out.size⟩,KF.out⟩
def Je (x:ByteArray) (c:Int) (y:ByteArray):Pd:=⟨x,⟨#[]⟩,-1,[(⟨#[99,112,117]⟩,c)],[],[],[],⟨#[]⟩,0,y,true⟩
theorem J5 (i:Nat) (hi:i<1000) (c:Int) (x y:ByteArray) (hc:-9223372036854775808≤c∧c≤9223372036854775807) (hA:((⟨#[104,111,108,100]⟩:ByteArray)++bytes (Lib.itoa (i:Int)))=x) (hd:(bytes (Lib.itoa (i:Int))).size≤20) (hx:x.size≤maxLen) (hy:y.size≤maxLen) (w:World) :
 Calls Tryz.prog 10 #[.int .i64 (i:Int),.int .i64 c,.string y] w fun e w'=>∃b1 n1 d1,e=.returned (.agg #[.string x,.string ⟨#[]⟩,.int .i64 (-1),.slice b1 n1 d1,.slice none 0 0,.slice none 0 0,.slice none 0 0,.string ⟨#[]⟩,.int .i64 0,.string y,.bool true])∧jq w' (.slice b1 n1 d1) (.slice none 0 0) (.slice none 0 0) (.slice none 0 0) (Je x c y)∧Kept w w'∧jz w.heap.size b1:=by
 have cc:=jc w (.string ⟨#[]⟩) [.string ⟨#[]⟩,.int .i64 0,.slice none 0 0,.slice none 0 0,.slice none 0 0,.slice none 0 0,.string ⟨#[]⟩,.int .i64 0,.string ⟨#[]⟩,.bool false] 41 _ (Kept.refl _);obtain⟨W0,hW0⟩:=eX (w.alloc (.cells #[.string ⟨#[]⟩,.string ⟨#[]⟩,.int .i64 0,.slice none 0 0,.slice none 0 0,.slice none 0 0,.slice none 0 0,.string ⟨#[]⟩,.int .i64 0,.string ⟨#[]⟩,.bool false] 41))
 have k0:Kept w W0:=by rw[←hW0];exact ja _ _
 rw[hW0] at cc;obtain⟨C0,K0,Tw⟩:=lH3 cc k0 (show ∀W,Calls Tryz.prog 37 #[.int .i64 (i:Int)] W (fun e w'=>e=.returned (.string (bytes (Lib.itoa (i:Int))))∧Kept W w') from fun W=>Vec.jbV (i:Int) W (by omega) (by omega));obtain⟨d9,hd9⟩:=eX (bytes (Lib.itoa (i:Int)))
 rw[hd9] at Tw hA hd;have HA:=lH hA;clear cc k0 hA hd9;go_enter Tryz.func10,Tryz.ntmps10;go_wp2_with fail
 try rw[hW0]
 go_wp2_with fail
 try rw[hW0]
 clear hW0;refine(Tw.out _).mono ?_;rintro e w9 ⟨rfl,k9⟩;have K9:=lH (K0.out.trans k9);have C9:=lH (C0.out.kept k9);clear k9;go_wp2_with fail
 rw[HA.out];refine(jbJ x c y hc hx hy _).mono ?_;rintro e w1 ⟨b1,n1,d1,rfl,HN,kk,hfar⟩;have RZ:=lH hfar;clear hfar;obtain⟨W2,hW2⟩:=eX (w1.alloc (.cells #[.string x,.string ⟨#[]⟩,.int .i64 0,.slice b1 n1 d1,.slice none 0 0,.slice none 0 0,.slice none 0 0,.string ⟨#[]⟩,.int .i64 0,.string y,.bool false] 41))
 have k2:Kept w1 W2:=by rw[←hW2];exact ja _ _
 obtain⟨HB,Uh,KW,C2,NK,U3,Tx,T7⟩:=lH8 (jc w1 (.string x) [.string ⟨#[]⟩,.int .i64 0,.slice b1 n1 d1,.slice none 0 0,.slice none 0 0,.slice none 0 0,.string ⟨#[]⟩,.int .i64 0,.string y,.bool false] 41 W2 (by rw[hW2];exact Kept.refl _)) (HN.kept k2) (K9.out.trans (kk.trans k2)) (C9.out.kept (kk.trans k2)) kk.size C9.out.lt K9.out.size HN;obtain⟨pq,hpq⟩:=eX (w1.heap.size)
 have U6:=lH hpq;rw[hpq] at HB;clear kk k2;have V0:=lH hW2;clear hW2 hpq;go_upto_region 2 with fail
 try rw[V0.out]
 try rw[U6.out]
 have y10:=HB.out.at_ 10 _ rfl;have f10:=HB.out.free 10;have y2:=HB.out.at_ 2 _ rfl;have f2:=HB.out.free 2;obtain⟨W3,hW3⟩:=eX ((W2.setCell ⟨pq,10,none⟩ (.bool true)).setCell ⟨pq,2,none⟩ (.int .i64 (-1)))
 have VK:=lH (show je pq [.string x,.string ⟨#[]⟩,.int .i64 (-1),.slice b1 n1 d1,.slice none 0 0,.slice none 0 0,.slice none 0 0,.string ⟨#[]⟩,.int .i64 0,.string y,.bool true] W3 by rw[←hW3];exact(HB.out.set (j:=10) (u:=.bool true) (by simp)).set (j:=2) (u:=.int .i64 (-1)) (by simp));have hpw:w.heap.size<pq:=by have:=U6.out;have:=NK.out;have:=U3.out;omega
 obtain⟨C3,K13,KW3⟩:=lH3 (show je w.heap.size [.string ⟨#[]⟩,.string ⟨#[]⟩,.int .i64 0,.slice none 0 0,.slice none 0 0,.slice none 0 0,.slice none 0 0,.string ⟨#[]⟩,.int .i64 0,.string ⟨#[]⟩,.bool false] W3 by rw[←hW3];exact(C2.out.other (p:=pq) (j:=10) (u:=.bool true) (by omega)).other (p:=pq) (j:=2) (u:=.int .i64 (-1)) (by omega)) (show Kept w1 W3 by rw[←hW3];exact jA (jA (by rw[←V0.out];exact ja _ _) (a:=⟨pq,10,none⟩) (by show w1.heap.size≤pq;have:=U6.out;omega) _) (a:=⟨pq,2,none⟩) (by show w1.heap.size≤pq;have:=U6.out;omega) _) (show Kept w W3 by rw[←hW3];exact jA (jA KW.out (a:=⟨pq,10,none⟩) (by show w.heap.size≤pq;omega) _) (a:=⟨pq,2,none⟩) (by show w.heap.size≤pq;omega) _);go_upto_region 3 with fail
 try rw[hW3]
 clear hW3 y10 f10 y2 f2;have y0:=VK.out.at_ 0 _ rfl;have y1:=VK.out.at_ 1 _ rfl;have y2:=VK.out.at_ 2 _ rfl;have y3:=VK.out.at_ 3 _ rfl;have y4:=VK.out.at_ 4 _ rfl;have y5:=VK.out.at_ 5 _ rfl;have y6:=VK.out.at_ 6 _ rfl;have y7:=VK.out.at_ 7 _ rfl;have y8:=VK.out.at_ 8 _ rfl;have y9:=VK.out.at_ 9 _ rfl;have y10:=VK.out.at_ 10 _ rfl;have z0:=C3.out.at_ 0 _ rfl;have z1:=C3.out.at_ 1 _ rfl;have z2:=C3.out.at_ 2 _ rfl;have z3:=C3.out.at_ 3 _ rfl;have z4:=C3.out.at_ 4 _ rfl;have z5:=C3.out.at_ 5 _ rfl;have z6:=C3.out.at_ 6 _ rfl;have z7:=C3.out.at_ 7 _ rfl;have z8:=C3.out.at_ 8 _ rfl;have z9:=C3.out.at_ 9 _ rfl;have z10:=C3.out.at_ 10 _ rfl;have f0:=C3.out.free 0;have f1:=C3.out.free 1;have f2:=C3.out.free 2;have f3:=C3.out.free 3;have f4:=C3.out.free 4;have f5:=C3.out.free 5;have f6:=C3.out.free 6;have f7:=C3.out.free 7;have f8:=C3.out.free 8;have f9:=C3.out.free 9;have f10:=C3.out.free 10;have PP:=lH (jW (vs:=[.string x,.string ⟨#[]⟩,.int .i64 (-1),.slice b1 n1 d1,.slice none 0 0,.slice none 0 0,.slice none 0 0,.string ⟨#[]⟩,.int .i64 0,.string y,.bool true]) C3.out rfl);go_wp2;obtain⟨WE,hWE⟩:=eX (W3.setCells w.heap.size 0 [.string x,.string ⟨#[]⟩,.int .i64 (-1),.slice b1 n1 d1,.slice none 0 0,.slice none 0 0,.slice none 0 0,.string ⟨#[]⟩,.int .i64 0,.string y,.bool true])
 have hWE2:(((((((((((W3.setCell ⟨w.heap.size,0,none⟩ (.string x)).setCell ⟨w.heap.size,1,none⟩ (.string ⟨#[]⟩)).setCell ⟨w.heap.size,2,none⟩ (.int .i64 (-1))).setCell ⟨w.heap.size,3,none⟩ (.slice b1 n1 d1)).setCell ⟨w.heap.size,4,none⟩ (.slice none 0 0)).setCell ⟨w.heap.size,5,none⟩ (.slice none 0 0)).setCell ⟨w.heap.size,6,none⟩ (.slice none 0 0)).setCell ⟨w.heap.size,7,none⟩ (.string ⟨#[]⟩)).setCell ⟨w.heap.size,8,none⟩ (.int .i64 0)).setCell ⟨w.heap.size,9,none⟩ (.string y)).setCell ⟨w.heap.size,10,none⟩ (.bool true))=WE:=hWE;rw[hWE] at PP;try rw[hWE2]
 clear hWE hWE2;obtain⟨PC,hsz9,hbl,hkp⟩:=PP.out;refine bodyPost_ret (by simp[results,Tryz.results10,go_sem,PC.at_ 0 _ rfl,PC.at_ 1 _ rfl,PC.at_ 2 _ rfl,PC.at_ 3 _ rfl,PC.at_ 4 _ rfl,PC.at_ 5 _ rfl,PC.at_ 6 _ rfl,PC.at_ 7 _ rfl,PC.at_ 8 _ rfl,PC.at_ 9 _ rfl,PC.at_ 10 _ rfl];try rfl) rfl ?_;have h9:=T7.out.kept K13.out;refine⟨_,_,_,rfl,⟨h9.name,h9.owner,h9.key,h9.node,(by decide:(-9223372036854775808:Int)≤-1∧(-1:Int)≤9223372036854775807),h9.most,?_,Reads.nil _,Reads.nil _,Reads.nil _⟩,hkp _ _ (Nat.le_refl _) KW3.out,fun b o s e=>by have:=RZ.out b o s e;have:=Tx.out;omega⟩;exact h9.need.far hsz9 fun b o s e=>hbl b (by have:=RZ.out b o s e;have:=Tx.out;have:=U3.out;omega)
def peX:Pd:=jbw ⟨#[120]⟩ 9 ⟨#[]⟩
def peY:Pd:=jbw ⟨#[121]⟩ 11 ⟨#[]⟩
def peS:Clu:=⟨[Ys ⟨#[97]⟩ 10,Ys ⟨#[98]⟩ 10],[Je ⟨#[104,111,108,100,48]⟩ 4 ⟨#[97]⟩,Je ⟨#[104,111,108,100,49]⟩ 5 ⟨#[97]⟩,Je ⟨#[104,111,108,100,50]⟩ 8 ⟨#[98]⟩,peX],[]⟩
theorem jgC (p:Pd) (h:p=peX∨∃x c y,p=Je x c y):ZG p:=by
 rcases h with rfl | ⟨x,c,y,rfl⟩<;>exact⟨(by decide:(1:Nat)≤1000000),(by decide:(0:Nat)≤1000000),(by decide:(0:Nat)≤1000000),(by decide:(0:Nat)≤1000000)⟩
theorem Xk:jn peS:=⟨fun n hn=>by
 unfold peS at hn;simp only[List.mem_cons,List.not_mem_nil,or_false] at hn;rcases hn with rfl | rfl<;>exact⟨(by decide:(1:Nat)≤1000000),(by decide:(0:Nat)≤1000000),(by decide:(0:Nat)≤1000000)⟩,
 fun n hn=>by
  unfold peS at hn;simp only[List.mem_cons,List.not_mem_nil,or_false] at hn;refine jgC n ?_;rcases hn with rfl | rfl | rfl | rfl
  · exact .inr ⟨_,_,_,rfl⟩
  · exact .inr ⟨_,_,_,rfl⟩
  · exact .inr ⟨_,_,_,rfl⟩
  · exact .inl rfl,(fun n h=>by cases h),(by decide:(2:Nat)≤100000),(by decide:(4:Nat)≤100000),(by decide:(0:Nat)≤100000)⟩
theorem jdN:Asc peS.pods:=by unfold Asc peS;decide +kernel
theorem jgD:JY peS peX=some (⟨#[120]⟩,⟨#[98]⟩,[⟨#[104,111,108,100,50]⟩]):=by kernel_rfl
theorem jhc:JY peS peY=none:=by kernel_rfl
theorem jgZ:JY peS (Je ⟨#[104,111,108,100,57]⟩ 1 ⟨#[]⟩)=none:=by kernel_rfl
theorem jg2:peS.pods.filter jG=[peX]:=by kernel_rfl
theorem jg8:Zo peS.pods=[peX]:=(jbb jdN ⟨by rw[jg2],List.Pairwise.cons (fun z hz=>by cases hz) List.Pairwise.nil⟩).symm
theorem jg4:zO peS=some (⟨#[120]⟩,⟨#[98]⟩,[⟨#[104,111,108,100,50]⟩]):=by
 unfold zO;rw[jg8,XE jgD]
theorem jg7:((zv (jw peS ⟨#[104,111,108,100,50]⟩) ⟨#[120]⟩ ⟨#[98]⟩).pods.map fun p=>p.node)=[⟨#[97]⟩,⟨#[97]⟩,⟨#[98]⟩]:=by kernel_rfl
theorem zU:∀i:Nat,i<20→(⟨#[104,111,108,100]⟩:ByteArray)++bytes (Lib.itoa (i:Int))=(if i<10 then ⟨#[104,111,108,100,(48+i).toUInt8]⟩ else ⟨#[104,111,108,100,49,(38+i).toUInt8]⟩)∧(bytes (Lib.itoa (i:Int))).size≤20:=by
 intro i hi;have h:i=0∨i=1∨i=2∨i=3∨i=4∨i=5∨i=6∨i=7∨i=8∨i=9∨i=10∨i=11∨i=12∨i=13∨i=14∨i=15∨i=16∨i=17∨i=18∨i=19:=by omega
 rcases h with rfl | rfl | rfl | rfl | rfl | rfl | rfl | rfl | rfl | rfl | rfl | rfl | rfl | rfl | rfl | rfl | rfl | rfl | rfl | rfl<;>refine⟨?_,?_⟩<;>first | (apply Go.WideShapes.bytes_inj;simp[Lib.itoa,Lib.decDigits,bytes,ByteArray.data_append]) | (simp[Lib.itoa,Lib.decDigits,bytes,ByteArray.size])
def X3 (i:Nat):ByteArray:=if i<10 then ⟨#[104,111,108,100,(48+i).toUInt8]⟩ else ⟨#[104,111,108,100,49,(38+i).toUInt8]⟩
def wfA:Nat→Clu
 | 0=>⟨[Ys ⟨#[97]⟩ 9,Ys ⟨#[98]⟩ 9],[],[]⟩
 | n+1=>zo (wfA n) (Je (X3 n) 1 ⟨#[97]⟩)
def wfB (x:Nat):Nat→Clu
 | 0=>wfA x
 | n+1=>zo (wfB x n) (Je (X3 (10+n)) 1 ⟨#[98]⟩)
def wfZ (n:Nat):Pd:=jbw ⟨#[122]⟩ (n:Int) ⟨#[]⟩
def wfK (x n:Nat):Nat:=n+x-9
def Z8 (x y n:Nat):ByteArray:=if wfK y n<wfK x n then ⟨#[98]⟩ else ⟨#[97]⟩
def jgj (x y n:Nat):Bool:=match JY (wfB x y) (wfZ n) with
 | none=>decide (9<n)
 | some t=>decide (n≤9)&&eqS t.1 ⟨#[122]⟩&&eqS t.2.1 (Z8 x y n)&&decide (t.2.2.length=min (wfK x n) (wfK y n))
theorem jgG:∀x,x<10→∀y,y<10→∀n,n<12→jgj x y (n+1)=true:=by decide +kernel
def Jg (s:Clu) (l:List ByteArray):Clu:=l.foldl jw s
theorem Xe {s:Clu} (h:jn s):∀l:List ByteArray,jn (Jg s l)
 | []=>h
 | x::t=>Xe (s:=jw s x) (Z6 h x) t
theorem jc0 (s:Clu) (l:List ByteArray) (x:ByteArray):Jg s (l++[x])=jw (Jg s l) x:=by unfold Jg;rw[List.foldl_append];rfl
theorem jfN {v:Value} {s:Clu} {w:World} (h:jC w v s) (x y:ByteArray) (hy:y.size≤maxLen) (hl:jn s):Calls Tryz.prog 66 #[v,.string x,.string y] w fun e w'=>∃u1 v1 x1 u2 v2 x2 u3 v3 x3,e=.returned (.agg #[.slice u1 v1 x1,.slice u2 v2 x2,.slice u3 v3 x3])∧(Off (fun b=>b<w.heap.size) w' fun u=>jC u (.agg #[.slice u1 v1 x1,.slice u2 v2 x2,.slice u3 v3 x3]) (zv s x y))∧Kept w w':=by
 obtain⟨v1,v2,v3,rfl,⟨a,cap,rfl,l1,m1,h1⟩,⟨b,cp,rfl,l2,m2,h2⟩,⟨d,cb,rfl,l3,m3,h3⟩⟩:=h;refine(YV a b d _ cap _ cp _ cb s.nodes s.pods s.buds x y w hy h1 h2 h3 l1 m1 l2 m2 l3 m3 hl).mono ?_;rintro e w' ⟨_,_,_,_,_,_,_,_,_,rfl,ho,kk⟩;exact⟨_,_,_,_,_,_,_,_,_,rfl,fun u g=>(ho.step g).toR,kk⟩
def jgM (w Z:World) (s:Clu) (l:List ByteArray) (k:Nat) (wr:World):Prop:=∃x1 v1 f1 x2 v2 f2 x3 v3 f3,je w.heap.size [.slice x1 v1 f1,.slice x2 v2 f2,.slice x3 v3 f3] wr∧(Off (fun b=>b=w.heap.size) wr fun u=>jC u (.agg #[.slice x1 v1 f1,.slice x2 v2 f2,.slice x3 v3 f3]) (Jg s (l.take k)))∧jb (fun b=>b=w.heap.size) Z wr
theorem jfI (s1 s2 s3:Option Addr) (n1 e1 n2 e2 n3 e3:Nat) (s:Clu) (x y:ByteArray) (a:Option Addr) (n c:Nat) (l:List ByteArray) (w:World) (hs:jC w (j9 (.slice s1 n1 e1) (.slice s2 n2 e2) (.slice s3 n3 e3)) s) (hl:jn s) (hr:Reads jK w (.slice a n c) l) (hy:y.size≤maxLen):Calls Tryz.prog 22 #[.agg #[.slice s1 n1 e1,.slice s2 n2 e2,.slice s3 n3 e3],.agg #[.string x,.string y,.slice a n c]] w (jbi (zv (Jg s l) x y) w):=by
 obtain⟨Z,hZ⟩:=eX (((w.alloc (.cells #[.slice s1 n1 e1,.slice s2 n2 e2,.slice s3 n3 e3] 35)).alloc (.cells #[.string x,.string y,.slice a n c] 46)).alloc (.cells #[.slice none 0 0,.slice none 0 0,.slice none 0 0] 35))
 have hkz:Kept w Z:=by rw[←hZ];exact(ji _ _ _).trans (ja _ _)
 have Vg:=lH (jc w (.slice s1 n1 e1) [.slice s2 n2 e2,.slice s3 n3 e3] 35 Z (by rw[←hZ];exact(ja _ _).trans (ja _ _)));have Vb:=lH (show je (w.heap.size+1) [.string x,.string y,.slice a n c] Z by
  have dd:=jc (w.alloc (.cells #[.slice s1 n1 e1,.slice s2 n2 e2,.slice s3 n3 e3] 35)) (.string x) [.string y,.slice a n c] 46 Z (by rw[←hZ];exact ja _ _);rw[World.size_alloc] at dd;exact dd)
 have NM:=lH (show je (w.heap.size+1+1) [.slice none 0 0,.slice none 0 0,.slice none 0 0] Z by
  have dd:=jc ((w.alloc (.cells #[.slice s1 n1 e1,.slice s2 n2 e2,.slice s3 n3 e3] 35)).alloc (.cells #[.string x,.string y,.slice a n c] 46)) (.slice none 0 0) [.slice none 0 0,.slice none 0 0] 35 Z (by rw[hZ];exact Kept.refl _);rw[World.size_alloc,World.size_alloc] at dd;exact dd)
 obtain⟨Vc,HK,HS,HL⟩:=lH4 (show Z.heap.size=w.heap.size+3 by rw[←hZ];simp) hkz (show Off (fun b=>b=w.heap.size) Z fun u=>jC u (j9 (.slice s1 n1 e1) (.slice s2 n2 e2) (.slice s3 n3 e3)) s from Off.of (fun u k=>hs.kept k) hkz (fun i e=>by have e2:i=w.heap.size:=e;omega)) hl;obtain⟨a9,c9,e9,h1,h2,h3⟩:=hr
 cases e9
 have TT:=lH (show ∀b off sp,a=some ⟨b,off,sp⟩→0<l.length→b<w.heap.size from fun b off sp e hp=>by
  obtain⟨-,-,-,h4⟩:=h3;rcases h4 with h4 | ⟨b2,o2,e2,h5,-⟩
  · omega
  · rw[e2] at e;cases e;exact h5)
 have HR:=lH (h3.kept hkz);have hlb:l.length≤maxLen:=Nat.le_trans h1 h2;clear hs hl h1 h2 h3 hkz;obtain⟨n,hn⟩:=eX (l.length)
 have HN:=lH hn;rw[hn] at Vb HR hZ hlb TT;try rw[hn]
 clear hn;unfold maxLen at hlb;have y0:=Vg.out.at_ 0 _ rfl;have y1:=Vg.out.at_ 1 _ rfl;have y2:=Vg.out.at_ 2 _ rfl;have r0:=Vb.out.at_ 0 _ rfl;have r1:=Vb.out.at_ 1 _ rfl;have r2:=Vb.out.at_ 2 _ rfl;go_enter Tryz.func22,Tryz.ntmps22;go_upto_region 1 with fail
 try rw[hZ]
 clear hZ;go_wp2_with fail
 clear y0 y1 y2 r0 r1 r2;go_loopw [10] (fun iv wr=>∃k:Nat,k≤n∧iv=.int .i64 k∧jgM w Z s l k wr) (fun iv _=>n-(intOf iv).toNat)
 case atStart=>exact⟨0,Nat.zero_le _,rfl,_,_,_,_,_,_,_,_,_,Vg.out,HS.out,jb.of (Kept.refl _)⟩
 case round =>
  obtain⟨k,hk,rfl,x1,v1,f1,x2,v2,f2,x3,v3,f3,hq,hc,hb⟩:=hrel;obtain⟨HQ,HC,V1⟩:=lH3 hq hc hb;clear hq hc hb;by_cases hlt:k<n
  · skip;have Ub:=lH (show jk jK wr a n l from HR.out.goff V1.out (fun b off sp e h=>by have h1:b=w.heap.size:=h;have h2:=TT.out b off sp e (by omega);omega));obtain⟨g,off,rfl⟩:=Ub.out.form.resolve_left (by omega);obtain⟨z,hz,hd,hb,hzs,u0⟩:=Ub.out.str hlt;have hkk:(k:Int)<(n:Int):=by omega
    have hk0:¬(k:Int)<0:=by omega
    obtain⟨y0,y1,y2⟩:=HQ.out.at3;have VP:=lH (show Jg s (l.take (k+1))=jw (Jg s (l.take k)) z by rw[List.take_add_one,hz];exact jc0 _ _ _);have R0:=lH (jcu HC.out.here z (Xe HL.out _));clear hz hd hb;go_wp2_with fail
    clear y0 y1 y2 u0;refine R0.out.mono ?_;rintro e9 w3 ⟨u1,g1,h1,u2,g2,h2,u3,g3,h3,rfl,hoff,kk⟩;obtain⟨Vo,UI,VK,NN⟩:=lH4 hoff (HQ.out.kept kk) (V1.out.trans (jb.of kk)) (show w.heap.size<wr.heap.size from HQ.out.lt);clear hoff kk R0;obtain⟨z0,z1,z2⟩:=UI.out.at3;have f0:=UI.out.free 0;have f1:=UI.out.free 1;have f2:=UI.out.free 2;have P:=lH (jW (vs:=[.slice u1 g1 h1,.slice u2 g2 h2,.slice u3 g3 h3]) UI.out rfl);have GE:=lH (jb.cells (S:=fun b=>b=w.heap.size) w.heap.size rfl [.slice u1 g1 h1,.slice u2 g2 h2,.slice u3 g3 h3] 0 w3);skip;go_wp2;obtain⟨WE,hWE⟩:=eX (w3.setCells w.heap.size 0 [.slice u1 g1 h1,.slice u2 g2 h2,.slice u3 g3 h3])
    have hWE2:(((w3.setCell ⟨w.heap.size,0,none⟩ (.slice u1 g1 h1)).setCell ⟨w.heap.size,1,none⟩ (.slice u2 g2 h2)).setCell ⟨w.heap.size,2,none⟩ (.slice u3 g3 h3))=WE:=hWE;rw[hWE] at P GE;try rw[hWE2]
    have BE:=lH (VK.out.trans GE.out);clear hWE hWE2 z0 z1 z2 f0 f1 f2;go_roundw
    case rel=>exact⟨k+1,by omega,by go_num,_,_,_,_,_,_,_,_,_,P.out.cells,by rw[VP.out];exact((Vo.out.less fun b e=>by have e2:b=w.heap.size:=e;have:=NN.out;omega).step GE.out),BE.out⟩
    case measure=>simp[intOf];omega
  · have hkk:¬(k:Int)<(n:Int):=by omega
    have UK:=lH (show l.take k=l from List.take_of_length_le (by rw[HN.out];omega));obtain⟨y0,y1,y2⟩:=HQ.out.at3;obtain⟨r0,r1,r2⟩:=(Vb.out.block (V1.out.block (w.heap.size+1) (by have:=Vc.out;omega) (by show ¬(w.heap.size+1=w.heap.size);omega))).at3;obtain⟨y0,y1,y2⟩:=HQ.out.at3;have R5:=lH (jfN (show jC wr _ (Jg s l) by have h:=HC.out.here;rwa [UK.out] at h) x y hy (Xe HL.out l));go_wp2_with fail
    clear y0 y1 y2 r0 r1 r2;refine R5.out.mono ?_;rintro e9 w3 ⟨u1,g1,h1,u2,g2,h2,u3,g3,h3,rfl,hmv,kk⟩;have Ty:=lH ((NM.out.block (V1.out.block (w.heap.size+1+1) (by have:=Vc.out;omega) (by show ¬(w.heap.size+1+1=w.heap.size);omega))).kept kk);have K3:=lH (jb.below HK.out (V1.out.trans (jb.of kk)) (fun i e=>by have e2:i=w.heap.size:=e;omega));obtain⟨z0,z1,z2⟩:=Ty.out.at3;have f0:=Ty.out.free 0;have f1:=Ty.out.free 1;have f2:=Ty.out.free 2;have P:=lH (jW (vs:=[.slice u1 g1 h1,.slice u2 g2 h2,.slice u3 g3 h3]) Ty.out rfl);have GE:=lH (jb.cells (S:=fun b=>b=w.heap.size+1+1) (w.heap.size+1+1) rfl [.slice u1 g1 h1,.slice u2 g2 h2,.slice u3 g3 h3] 0 w3);have Rx:=lH (show ∀W,jb (fun b=>b=w.heap.size+1+1) w3 W→jC W (.agg #[.slice u1 g1 h1,.slice u2 g2 h2,.slice u3 g3 h3]) (zv (Jg s l) x y) from fun W gg=>hmv W (gg.mono fun b e=>by
     have e2:b=w.heap.size+1+1:=e;have h1:=V1.out.size;have h2:=Vc.out;show b<wr.heap.size;omega))
    clear hmv kk R5;go_wp2;obtain⟨WE,hWE⟩:=eX (w3.setCells (w.heap.size+1+1) 0 [.slice u1 g1 h1,.slice u2 g2 h2,.slice u3 g3 h3])
    have hWE2:(((w3.setCell ⟨(w.heap.size+1+1),0,none⟩ (.slice u1 g1 h1)).setCell ⟨(w.heap.size+1+1),1,none⟩ (.slice u2 g2 h2)).setCell ⟨(w.heap.size+1+1),2,none⟩ (.slice u3 g3 h3))=WE:=hWE;rw[hWE] at P GE;try rw[hWE2]
    have KF:=lH (show Kept w WE by rw[←hWE];exact jm (w.heap.size+1+1) _ _ _ _ _ (by omega) K3.out);clear hWE hWE2 z0 z1 z2 f0 f1 f2;refine bodyPost_ret (by simp[results,Tryz.results22,go_sem,P.out.cells.at_ 0 _ rfl,P.out.cells.at_ 1 _ rfl,P.out.cells.at_ 2 _ rfl];try rfl) rfl ?_;exact⟨_,rfl,Rx.out WE GE.out,KF.out⟩
end Go.Proofs.YtabafpoklpiiiaaGreat
