/- C. -/
import Derived.Test.YtokdjfoalkmhiaaGreatG0
import Derived.Shelf.Strings.BuilderX
import Derived.StillTailTactics
import Derived.Lib.ItoaLen
import Derived.Lib.AppendIntMem
import Derived.Lib.SmallJoins
import Derived.Test.YtokdjfoalkmhiaaGreatRows
import Derived.Stop.LaidErr
import Derived.Stop.Joined
import Derived.MakeChecks
import Derived.Shelf.SlSortCmp.QuietGrown
set_option linter.unusedVariables false
set_option maxRecDepth 100000
set_option maxHeartbeats 25600000
namespace Go.Proofs.YtokdjfoalkmhiaaGreat.Vec
open Go.RowKit
theorem je7 (C:Addr) (a:Option Addr) (len cap:Nat) (l:V) (w:World)
 (hk:∀W,Kept w W→Calls Tryz.prog 232 #[.pointer (some C)] W (Chk l (.slice a len cap) W)) :
 Calls Tryz.prog 211 #[.func (.func 232) #[] #[.pointer (some C)]] w (fun e w'=>∃v,e=.returned (.tuple #[v,.int .i64 (jv l)])∧Kept w w'):=by
 have hmf:=hmfL (P:=Tryz.prog);have HK:=lH hk;clear hk;obtain⟨r1,hr1⟩:=eX (jv l)
 rw[hr1];have Nk:=lH hr1;clear hr1;go_enter_defers Tryz.func211,Tryz.ntmps211
 go_wp2_with fail
 refine(HK.out _ (ja _ _)).mono ?_;rintro e1 w1 ⟨h0,h1,hb⟩;have k1:=hb.size;simp only[World.size_alloc] at k1;have c2:=(hb.cell (p:=⟨w.heap.size,0,none⟩) (by simp))
 have z2:=(hb.frozen (p:=⟨w.heap.size,0,none⟩) (by simp))
 have e2':w1.cell? ⟨w.heap.size,0,none⟩=some (.int .i64 0):=by rw[c2];go_simp
 have y2:w1.frozen? ⟨w.heap.size,0,none⟩=false:=by rw[z2];go_simp
 clear c2 z2;have KB:=lH (show Below w.heap.size w w1 from(ja w _).trans hb);rw[Nk.out] at h0 h1;by_cases hx:r1=0
 · subst hx;obtain rfl:=h0 rfl;have hsz:=World.size_alloc w (.cells #[.int .i64 0] 45);clear h0 h1 hb;go_wp2_with fail
   refine leaves_cons (f:=240) (args:=#[.pointer (some ⟨w.heap.size,0,none⟩)]) (by simp) (by simp[go_sem]) ?_;refine(Yq ⟨w.heap.size,0,none⟩ _).mono ?_;rintro e u' w'' ⟨rfl,rfl,rfl⟩;simp[Leaves,settle,results,Tryz.results211,go_sem,e2'];exact KB.out.setCell (p:=⟨w.heap.size,0,none⟩) (Nat.le_refl _) _
 · obtain rfl:=h1 hx;clear h0 h1 hb;go_wp2_with fail
   refine leaves_cons (f:=240) (args:=#[.pointer (some ⟨w.heap.size,0,none⟩)]) (by simp) (by simp[go_sem]) ?_;refine(JX w.heap.size w.heap.size r1 0 _ e2' y2 (by omega)).mono ?_;rintro e u' w'' ⟨rfl,rfl,q2,q3⟩;simp[Leaves,settle,results,Tryz.results211,go_sem,q2];exact KB.out.trans q3
theorem jeF (C:Addr) (a:Option Addr) (len cap:Nat) (l:V) (w:World) (h1:w.cell? C=some (.slice a len cap)) (hr:jw w a len l) :
 Calls Tryz.prog 232 #[.pointer (some C)] w (Chk l (.slice a len cap) w):=by
 have HR:=lH hr;clear hr;go_enter Tryz.func232,Tryz.ntmps232;go_wp2_with fail
 refine(zY a len cap l _ HR.out).mono ?_;rintro e w' ⟨g0,g1,k⟩;by_cases hx:jv l=0
 · obtain rfl:=g0 hx;have HX:=lH hx;have HK:=lH k;clear g0 g1 hx k;go_wp2;go_ret;exact Chk.good HX.out HK.out
 · obtain rfl:=g1 hx;have HX:=lH hx;have HK:=lH k;clear g0 g1 hx k;go_wp2;exact⟨rfl,Chk.bad rfl HX.out HK.out⟩
theorem jbp (a:Option Addr) (len cap:Nat) (l:V) (w:World) (hr:jw w a len l) :
 Calls Tryz.prog 198 #[.slice a len cap] w fun e w'=>e=.returned (.int .i64 (jv l))∧Kept w w':=by
 have hmf:=hmfL (P:=Tryz.prog);have hC:∀W,Kept (w.alloc (.cells #[.slice a len cap] 37)) W→Calls Tryz.prog 232 #[.pointer (some ⟨w.heap.size,0,none⟩)] W (Chk l (.slice a len cap) W):=by
  intro W k;have c1:=k.cell (p:=⟨w.heap.size,0,none⟩) (by simp);exact jeF ⟨w.heap.size,0,none⟩ a len cap l W (by rw[c1];go_simp) (hr.kept ((ja w _).trans k))
 have HC:=lH hC;clear hC hr;go_enter Tryz.func198,Tryz.ntmps198;go_wp2_with fail
 refine(je7 ⟨w.heap.size,0,none⟩ a len cap l _ HC.out).mono ?_;rintro e w' ⟨v,rfl,k⟩;have HK:=lH k;clear k;go_wp2;go_ret;exact⟨rfl,(ja w _).trans HK.out⟩
open Go.RowKit Go.Shelf
def jc8 (b:Nat) (w w':World):Prop:=∀g cs fr,g≠b→w.heap[g]?=some (.cells cs 100 fr)→w'.heap[g]?=w.heap[g]?
theorem jc8.trans {b:Nat} {x y z:World} (h:jc8 b x y) (k:jc8 b y z):jc8 b x z:=fun g cs fr hg hc=>(k g cs fr hg ((h g cs fr hg hc).trans hc)).trans (h g cs fr hg hc)
theorem Reads.nil (w:World):Reads w (.slice none 0 0) []:=⟨none,0,rfl,Nat.le_refl _,by decide,jw.nil w⟩
theorem jbk {v:Value} {l:V} {c:Int} {w:World} (h:Reads w v l) (e:jv l=c) :
 Calls Tryz.prog 198 #[v] w fun x w'=>x=.returned (.int .i64 c)∧Kept w w':=by
 subst e;obtain⟨a,cap,rfl,h1,h2,h3⟩:=h;exact jbp a _ cap l w h3
theorem Zv {v:Value} {l:V} {c:Int} {w:World} (h:Reads w v l) (e:jv l=c) :
 Calls Tryz.prog 178 #[v] w fun x w'=>x=.returned (.int .i64 c)∧Kept w w':=by
 subst e;obtain⟨a,cap,rfl,h1,h2,h3⟩:=h;exact YP a _ cap l w h3
theorem jf3 {v:Value} {l:V} {n:ByteArray} {c:Int} {w:World} (h:Reads w v l) (e:jh l n=c) :
 Calls Tryz.prog 160 #[v,.string n] w fun x w'=>x=.returned (.int .i64 c)∧Kept w w':=by
 subst e;obtain⟨a,cap,rfl,h1,h2,h3⟩:=h;exact XD a _ cap l n w h3
theorem Z9 {v v':Value} {l l':V} {c:Bool} {w:World} (h:Reads w v l) (h':Reads w v' l') (e:jW l l'=c) :
 Calls Tryz.prog 97 #[v,v'] w fun x w'=>x=.returned (.bool c)∧Kept w w':=by
 subst e;obtain⟨a,cap,rfl,h1,h2,h3⟩:=h;obtain⟨a',cap',rfl,h1',h2',h3'⟩:=h';exact jmf a a' _ cap _ cap' l l' w h3 h3'
theorem jis {v v':Value} {l l':V} {c:Bool} {w:World} (h:Reads w v l) (h':Reads w v' l') (e:jB l' l=c) :
 Calls Tryz.prog 94 #[v,v'] w fun x w'=>x=.returned (.bool c)∧Kept w w':=by
 subst e;obtain⟨a,cap,rfl,h1,h2,h3⟩:=h;obtain⟨a',cap',rfl,h1',h2',h3'⟩:=h';exact jco a a' _ cap _ cap' l l' w h3 h3'
theorem qZ {n:ByteArray} {c:Bool} {w:World} (h:n.size≤maxLen) (e:isName n=c) :
 Calls Tryz.prog 197 #[.string n] w fun x w'=>x=.returned (.bool c)∧w=w':=by
 subst e;exact zg n w h
theorem jfj {v:Value} {l:V} {c:Bool} {w:World} (h:Reads w v l) (e:YN l=c) :
 Calls Tryz.prog 120 #[v] w fun x w'=>x=.returned (.bool c)∧w=w':=by
 subst e;obtain⟨a,cap,rfl,h1,h2,h3⟩:=h;exact jdK a _ cap l w h3
def cpu:ByteArray:=⟨#[99,112,117]⟩
def mem:ByteArray:=⟨#[109,101,109]⟩
def kA:V:=[(cpu,100),(mem,5)]
theorem jhE:(Tryz.prog.info? 196).map (fun i=>(i.zero,i.size,i.bytes))=some (some (.agg #[.string ByteArray.empty,.int .i64 0]),2,24):=by kernel_rfl
theorem jdX {l:V} {k:Nat} (h:k<l.length):l.take (k+1)=l.take k++[(nm l k,qn l k)]:=by
 rw[List.take_add_one];congr 1;have:l.getD k (ByteArray.empty,0)=l[k]:=by simp[List.getD,h]
 have e:(nm l k,qn l k)=l[k]:=by simp only[nm,qn,this]
 rw[e];simp[h]
theorem jfA (a:Option Addr) (len cap:Nat) (l:V) (w:World) (hr:jw w a len l) (hlen:len≤1000000) :
 Calls Tryz.prog 187 #[.slice a len cap] w (fun e w'=>∃x,e=.returned x∧jT 196 w' w.heap.size x l∧Kept w w'):=by
 have hl:=hr.1;obtain⟨i0,hi,hz0,hz1,hz2⟩:=info_parts jhE;rcases hr.form with h0 | ⟨b,off,rfl⟩
 · subst h0;have hl0:l=[]:=List.eq_nil_of_length_eq_zero hl;subst hl0;clear hr hl hi hz0 hz1 hz2;go_enter Tryz.func187,Tryz.ntmps187;go_wp2;refine wp_loop_rounds 1 ?_;rw[rounds_succ];go_wp2;go_ret;exact⟨_,rfl,jT.nil _ _ _,Kept.refl _⟩
 · obtain⟨HR,HL,HF⟩:=lH3 hr hl hr.2.2.1;clear hr hl;go_enter Tryz.func187,Tryz.ntmps187;go_wp2;go_loopw [3,4] (fun v i wr=>∃k:Nat,k≤len∧i=.int .i64 k∧jT 196 wr w.heap.size v (l.take k)∧Below w.heap.size w wr) (fun _ i _=>len-(intOf i).toNat)
   case atStart=>exact⟨0,Nat.zero_le _,rfl,jT.nil _ _ _,Below.refl _ _⟩
   case round =>
    obtain⟨k,hk,rfl,ho,hB⟩:=hrel;obtain⟨HO,HB,HT⟩:=lH3 ho hB (show (l.take k).length=k by rw[List.length_take,HL.out];omega);have Vj:=lH (show wr.ownsRow w.heap.size 196 2 u3 k (cellsOf (l.take k)) by have:=HO.out.1;rw[HT.out] at this;exact this);by_cases hlt:k<len
    · obtain⟨hb,c1,c2⟩:=(HR.out.kept hB).cells hlt;have HI:=lH (show k<l.length by rw[HL.out];exact hlt);have hbw:b<w.heap.size:=(HR.out.cells hlt).1;have hbase:w.heap.size≤wr.heap.size:=hB.size;have V0:=lH (show u3.ownBlock≠some b by
       intro e;have:=(Vj.out.lt b e).1;omega)
      have VL:=lH (show w.heap.size≤(wr.alloc (.cells #[.string (nm l k),.int .i64 (qn l k)] 196)).drew.heap.size by simp;omega);have UK:=lH (show Below w.heap.size w ((wr.alloc (.cells #[.string (nm l k),.int .i64 (qn l k)] 196)).drew) from HB.out.trans (Below.mono ((ja wr _).trans (Kept.drewN _ 1)) hbase));have hk1:(k:Int)<(len:Int):=by omega
      have Ur:=lH (HF.out k HI.out);clear ho hB;go_wp2_with fail
      go_region_held3 (fun W=>W.cell? ⟨b,off+k*2,none⟩=some (.string (nm l k))∧W.cell? ⟨b,off+k*2+1,none⟩=some (.int .i64 (qn l k)))
       (first
         | go_keep
         | (go_split_ands
            refine⟨?_,?_⟩
            · (refine(hgrow.cell_far ⟨b,off+k*2,none⟩ (by simp;omega) (Ne.symm V0.out)).trans ?_;assumption)
            · (refine(hgrow.cell_far ⟨b,off+k*2+1,none⟩ (by simp;omega) (Ne.symm V0.out)).trans ?_;assumption)))
       ((refine step_append_lies _ (by rfl) _ _ _ (by rfl) w.heap.size 196 i0 _ 2 24 Tryz.underlying113 hi hz0 hz1 hz2 rfl (by decide) u3 k (cellsOf (l.take k)) (by rfl) ((Vj.out.alloc _).drew)
          ⟨wr.heap.size,0,none⟩ 1 1 [.string (nm l k),.int .i64 (qn l k)] (by rfl) (by rfl) (World.news_of_block (cs:=#[.string (nm l k),.int .i64 (qn l k)]) (t:=196) (fr:=(0,0)) (heap_alloc_new wr _)) (Yn [(nm l k,qn l k)])
          (by decide) (by unfold maxLen;omega) (by omega) (by simp;omega) (wr.heap.size+1) (by simp) ?_;intro gg cap1 w1 hown1 hgrow hat hlt1))
      all_goals
       go_wp2;go_roundw
       case rel=>exact⟨k+1,by omega,by go_num,⟨by rw[jdX HI.out,Yg,List.length_append,HT.out];exact hown1,by rw[jdX HI.out];exact HO.out.2.snoc Ur.out.1 Ur.out.2.1 Ur.out.2.2⟩,UK.out.grown hgrow VL.out (fun j hj=>(Vj.out.lt j hj).1)⟩
       case measure=>simp[intOf];omega
    · have HK:=lH (show l.take k=l by rw[List.take_of_length_le (by rw[HL.out];omega)]);clear ho hB;go_wp2;go_ret;exact⟨_,rfl,by have h:=HO.out;rw[HK.out] at h;exact h,HB.out⟩
theorem jbS:∀s:List UInt8,Op.bytesLess s s=false
 | []=>rfl
 | a::s=>by
  have:¬a<a:=UInt8.lt_irrefl a;simp[Op.bytesLess,jbS s,this]
theorem jcL:∀{a b c:List UInt8},Op.bytesLess a b=true→Op.bytesLess b c=true→Op.bytesLess a c=true
 | _,_,[],_,h=>by simp[Op.bytesLess] at h
 | [],_,_::_,_,_=>by simp[Op.bytesLess]
 | x::a,[],z::c,h,_=>by simp[Op.bytesLess] at h
 | x::a,y::b,z::c,h,g=>by
  simp only[Op.bytesLess,Bool.or_eq_true,Bool.and_eq_true,decide_eq_true_eq,beq_iff_eq] at h g ⊢;rcases h with h | ⟨rfl,h⟩
  · rcases g with g | ⟨rfl,g⟩
    · exact .inl (UInt8.lt_trans h g)
    · exact .inl h
  · rcases g with g | ⟨rfl,g⟩
    · exact .inl g
    · exact .inr ⟨rfl,jcL h g⟩
theorem jfm:∀{a b:List UInt8},Op.bytesLess a b=false→Op.bytesLess b a=false→a=b
 | [],[],_,_=>rfl
 | [],_::_,h,_=>by simp[Op.bytesLess] at h
 | _::_,[],_,h=>by simp[Op.bytesLess] at h
 | x::a,y::b,h,g=>by
  simp only[Op.bytesLess,Bool.or_eq_false_iff,decide_eq_false_iff_not,Bool.and_eq_false_iff,beq_eq_false_iff_ne] at h g;have e:x=y:=by
   have h1:=UInt8.not_lt.1 h.1;have h2:=UInt8.not_lt.1 g.1;exact UInt8.le_antisymm h2 h1
  subst e;have h2:=h.2.resolve_left (by simp);have g2:=g.2.resolve_left (by simp);rw[jfm h2 g2]
theorem ji2 (s t:ByteArray):ltS s t=Op.bytesLess s.data.toList t.data.toList:=by unfold ltS;rw[Lib.toList_data,Lib.toList_data]
theorem jR {s t:ByteArray}:eqS s t=true↔s=t:=by
 unfold eqS;rw[Lib.toList_data,Lib.toList_data,beq_iff_eq];exact⟨fun h=>Go.WideShapes.bytes_inj h,fun h=>by rw[h]⟩
theorem YO (s:ByteArray):ltS s s=false:=by rw[ji2];exact jbS _
theorem Ja {s t u:ByteArray} (h:ltS s t=true) (g:ltS t u=true):ltS s u=true:=by
 rw[ji2] at *;exact jcL h g
theorem Y7 {s t:ByteArray} (h:ltS s t=false) (g:ltS t s=false):s=t:=by
 rw[ji2] at *;exact Go.WideShapes.bytes_inj (jfm h g)
theorem Yi {s t:ByteArray} (h:ltS s t=true):s≠t:=by rintro rfl;rw[YO] at h;cases h
theorem jbd {s t:ByteArray} (h:ltS s t=true) (g:ltS t s=true):False:=Yi (Ja h g) rfl
def Gd (l:V):Prop:=(∀x ∈ l,isName x.1=true∧0<x.2∧x.2≤9223372036854775807)∧l.Pairwise (fun x y=>ltS x.1 y.1=true)
theorem Gd.nil:Gd []:=⟨fun x hx=>absurd hx (by simp),.nil⟩
theorem Gd.cons {x:ByteArray×Int} {t:V}:Gd (x::t)↔(isName x.1=true∧0<x.2∧x.2≤9223372036854775807)∧(∀y ∈ t,ltS x.1 y.1=true)∧Gd t:=by
 unfold Gd;rw[List.pairwise_cons,List.forall_mem_cons];constructor
 · rintro ⟨⟨a,b⟩,c,d⟩;exact⟨a,c,b,d⟩
 · rintro ⟨a,c,b,d⟩;exact⟨⟨a,b⟩,c,d⟩
theorem Jr (x:ByteArray×Int) (t:V):jh (x::t) x.1=x.2:=by rw[jh,if_pos (jR.2 rfl)]
theorem Jy {x:ByteArray×Int} {n:ByteArray} (t:V) (h:x.1≠n):jh (x::t) n=jh t n:=by rw[jh,if_neg (fun e=>h (jR.1 e))]
theorem XU:∀{l:V} {n:ByteArray},(∀y ∈ l,y.1≠n)→jh l n=0
 | [],_,_=>rfl
 | x::t,n,h=>by rw[Jy t (h x (by simp))];exact XU fun y hy=>h y (by simp[hy])
theorem get_mem:∀{l:V} {n:ByteArray},jh l n≠0→∃y ∈ l,y.1=n
 | [],_,h=>absurd rfl h
 | x::t,n,h=>by
  by_cases e:x.1=n
  · exact⟨x,by simp,e⟩
  · rw[Jy t e] at h;obtain⟨y,hy,hn⟩:=get_mem h;exact⟨y,by simp[hy],hn⟩
theorem JB:∀{l:V} (n:ByteArray),Gd l→0≤jh l n∧jh l n≤9223372036854775807
 | [],_,_=>⟨Int.le_refl _,(by decide:(0:Int)≤9223372036854775807)⟩
 | x::t,n,h=>by
  have h':=Gd.cons.1 h;by_cases e:x.1=n
  · subst e;rw[Jr];omega
  · rw[Jy t e];exact JB n h'.2.2
theorem jda:∀{l:V} {x:ByteArray×Int},Gd l→x ∈ l→jh l x.1=x.2
 | [],_,_,h=>absurd h (by simp)
 | y::t,x,h,hx=>by
  have h':=Gd.cons.1 h;rcases List.mem_cons.1 hx with rfl | hx
  · exact Jr _ _
  · rw[Jy t (Yi (h'.2.1 x hx))];exact jda h'.2.2 hx
theorem Zh {l:V} {n:ByteArray} (h:∀y ∈ l,ltS n y.1=true):jh l n=0:=XU fun y hy=>(Yi (h y hy)).symm
theorem Gd.ext:∀{a b:V},Gd a→Gd b→(∀n,jh a n=jh b n)→a=b
 | [],[],_,_,_=>rfl
 | [],y::t,_,hb,h=>by
  have:=h y.1;rw[Jr] at this;have:=(Gd.cons.1 hb).1;rw[show jh [] y.1=0 from rfl] at *;omega
 | x::s,[],ha,_,h=>by
  have:=h x.1;rw[Jr] at this;have:=(Gd.cons.1 ha).1;rw[show jh [] x.1=0 from rfl] at *;omega
 | x::s,y::t,ha,hb,h=>by
  have ha':=Gd.cons.1 ha;have hb':=Gd.cons.1 hb;have e1:ltS x.1 y.1=false:=by
   cases e:ltS x.1 y.1 with
   | false=>rfl
   | true =>
    have hx:=h x.1;rw[Jr,Zh (l:=y::t) (fun z hz=>by
     rcases List.mem_cons.1 hz with rfl | hz
     · exact e
     · exact Ja e (hb'.2.1 z hz))] at hx
    omega
  have e2:ltS y.1 x.1=false:=by
   cases e:ltS y.1 x.1 with
   | false=>rfl
   | true =>
    have hx:=h y.1;rw[Jr,Zh (l:=x::s) (fun z hz=>by
     rcases List.mem_cons.1 hz with rfl | hz
     · exact e
     · exact Ja e (ha'.2.1 z hz))] at hx
    omega
  have e:=Y7 e1 e2;have hv:x.2=y.2:=by have:=h x.1;rw[Jr,e,Jr] at this;exact this
  have ht:s=t:=Gd.ext ha'.2.2 hb'.2.2 fun n=>by
   by_cases en:x.1=n
   · rw[Zh (fun z hz=>en▸ha'.2.1 z hz),Zh (fun z hz=>en▸e▸hb'.2.1 z hz)]
   · have:=h n;rw[Jy s en,Jy t (by rw[←e];exact en)] at this;exact this
  obtain⟨x1,x2⟩:=x;obtain⟨y1,y2⟩:=y
  cases e;cases hv;rw[ht]
theorem Gd.len:∀{b r:V},Gd r→Gd b→(∀n,jh r n≠0→jh b n≠0)→r.length≤b.length
 | [],[],_,_,_=>Nat.le_refl _
 | [],x::s,hr,_,h=>by
  have:=h x.1;rw[Jr] at this;have h1:=(Gd.cons.1 hr).1;exact absurd rfl (this (by omega))
 | y::t,[],_,_,_=>Nat.zero_le _
 | y::t,x::s,hr,hb,h=>by
  have hr':=Gd.cons.1 hr;have hb':=Gd.cons.1 hb;have:s.length≤t.length:=Gd.len hr'.2.2 hb'.2.2 fun n hn=>by
   obtain⟨z,hz,rfl⟩:=get_mem hn;have hlt:=hr'.2.1 z hz;have hb2:=h z.1 (by rw[Jy s (Yi hlt)];exact hn);by_cases e:y.1=z.1
   · obtain⟨u,hu,hux⟩:=get_mem (h x.1 (by rw[Jr];omega));rcases List.mem_cons.1 hu with rfl | hu
     · rw[←hux,e,YO] at hlt;cases hlt
     · have:=hb'.2.1 u hu;rw[hux,e] at this;exact(jbd hlt this).elim
   · rw[Jy t e] at hb2;exact hb2
  simp only[List.length_cons];omega
theorem X5 {s t:ByteArray} (h:leS s t=false):ltS t s=true:=by
 unfold leS at h;rw[Bool.or_eq_false_iff] at h
 cases e:ltS t s with
 | true=>rfl
 | false=>rw[Y7 h.1 e,jR.2 rfl] at h;cases h.2
theorem ja8 {s t:ByteArray} (h:ltS t s=true):leS s t=false:=by
 unfold leS;rw[Bool.or_eq_false_iff];refine⟨?_,?_⟩
 · cases e:ltS s t with
   | false=>rfl
   | true=>exact(jbd h e).elim
 · cases e:eqS s t with
   | false=>rfl
   | true=>exact absurd (jR.1 e).symm (Yi h)
theorem YW {l:V} (h:jv l=0) (hf:Jt l):Gd l:=by
 have h2:jQ none l=0:=by
  unfold jv at h;split at h
  · cases h
  · exact h
 have key:∀(l:V) (p:Option ByteArray),jQ p l=0→Jt l→Gd l∧(∀x,p=some x→∀y ∈ l,ltS x y.1=true):=by
  intro l
  induction l with
  | nil=>intro p _ _;exact⟨Gd.nil,fun _ _ y hy=>absurd hy (by simp)⟩
  | cons x t ih =>
   intro p hc hf;rw[Jt.cons] at hf;unfold jQ at hc;split at hc
   · cases hc
   · rename_i n1;split at hc
     · cases hc
     · rename_i n2;split at hc
       · cases hc
       · rename_i n3;obtain⟨hg,hall⟩:=ih _ hc hf.2;have hx:=hall x.1 rfl;refine⟨Gd.cons.2 ⟨⟨by simpa using n1,by omega,hf.1.2.2⟩,hx,hg⟩,?_⟩;rintro q rfl y hy;have hq:ltS q x.1=true:=X5 (by simpa [jK] using n3);rcases List.mem_cons.1 hy with rfl | hy
         · exact hq
         · exact Ja hq (hx y hy)
 exact(key l none h2 hf).1
theorem jcP {l:V} (h:Gd l) (hl:l.length≤8):jv l=0:=by
 have key:∀(l:V) (p:Option ByteArray),Gd l→(∀x,p=some x→∀y ∈ l,ltS x y.1=true)→jQ p l=0:=by
  intro l
  induction l with
  | nil=>intro p _ _;cases p<;>rfl
  | cons x t ih =>
   intro p hg hp;have hg':=Gd.cons.1 hg;rw[jQ,if_neg (by rw[hg'.1.1];decide),if_neg (by omega),if_neg]
   · exact ih _ hg'.2.2 fun q e y hy=>by cases e;exact hg'.2.1 y hy
   · cases p with
     | none=>simp[jK]
     | some q=>rw[show jK (some q) x.1=leS x.1 q from rfl,ja8 (hp q rfl x (by simp))];decide
 unfold jv;rw[if_neg (by omega)];exact key l none h (fun _ e=>by cases e)
theorem XY {l:V} {s:ByteArray} (hg:Gd l) (h:∀y ∈ l,y.1=s∨ltS s y.1=true) :
 (jr l s).1=jh l s∧Gd (jr l s).2∧(∀y ∈ (jr l s).2,ltS s y.1=true)∧(∀n,n≠s→jh (jr l s).2 n=jh l n)∧(∀m,(∀y ∈ l,ltS m y.1=true)→∀y ∈ (jr l s).2,ltS m y.1=true):=by
 cases l with
 | nil=>exact⟨rfl,hg,fun y hy=>absurd hy (by simp[jr]),fun _ _=>rfl,fun _ _ y hy=>absurd hy (by simp[jr])⟩
 | cons x t =>
  have hg':=Gd.cons.1 hg;rw[zM];by_cases e:x.1=s
  · rw[if_pos (jR.2 e)];subst e;exact⟨(Jr x t).symm,hg'.2.2,hg'.2.1,fun n hn=>(Jy t (Ne.symm hn)).symm,fun m hm y hy=>hm y (by simp[hy])⟩
  · rw[if_neg (fun c=>e (jR.1 c))];have hx:ltS s x.1=true:=(h x (by simp)).resolve_left e;have hall:∀y ∈ x::t,ltS s y.1=true:=fun y hy=>by
     rcases List.mem_cons.1 hy with rfl | hy
     · exact hx
     · exact Ja hx (hg'.2.1 y hy)
    exact⟨(Zh hall).symm,hg,hall,fun _ _=>rfl,fun m hm=>hm⟩
theorem jaH {la lb:V} (ha:Gd la) (hb:Gd lb) (h:0<la.length+lb.length) :
 isName (jm la lb)=true∧(∀y ∈ la,y.1=jm la lb∨ltS (jm la lb) y.1=true)∧(∀y ∈ lb,y.1=jm la lb∨ltS (jm la lb) y.1=true) ∧
  (∀m,(∀y ∈ la,ltS m y.1=true)→(∀y ∈ lb,ltS m y.1=true)→ltS m (jm la lb)=true):=by
 have own:∀{x:ByteArray×Int} {t:V},Gd (x::t)→∀y ∈ x::t,y.1=x.1∨ltS x.1 y.1=true:=fun {x t} hg y hy=>by
  rcases List.mem_cons.1 hy with rfl | hy
  · exact .inl rfl
  · exact .inr ((Gd.cons.1 hg).2.1 y hy)
 cases la with
 | nil =>
  cases lb with
  | nil=>simp at h
  | cons y t=>exact⟨(Gd.cons.1 hb).1.1,fun z hz=>absurd hz (by simp),own hb,fun m _ hm=>hm y (by simp)⟩
 | cons x s =>
  cases lb with
  | nil=>exact⟨(Gd.cons.1 ha).1.1,own ha,fun z hz=>absurd hz (by simp),fun m hm _=>hm x (by simp)⟩
  | cons y t =>
   rw[Za];by_cases e:ltS y.1 x.1=true
   · rw[if_pos e];refine⟨(Gd.cons.1 hb).1.1,fun z hz=>.inr ?_,own hb,fun m _ hm=>hm y (by simp)⟩;rcases own ha z hz with hz | hz
     · rw[hz];exact e
     · exact Ja e hz
   · rw[if_neg e];refine⟨(Gd.cons.1 ha).1.1,own ha,fun z hz=>?_,fun m hm _=>hm x (by simp)⟩;have e':ltS y.1 x.1=false:=by simpa using e
     have hxy:y.1=x.1∨ltS x.1 y.1=true:=by
      cases e2:ltS x.1 y.1 with
      | true=>exact .inr rfl
      | false=>exact .inl (Y7 e' e2)
     rcases own hb z hz with hz | hz
     · rw[hz];exact hxy
     · rcases hxy with hxy | hxy
       · rw[←hxy];exact .inr hz
       · exact .inr (Ja hxy hz)
structure Rk (f:Int→Int→Int×Int):Prop where
 zero:f 0 0=(0,0)
 code:∀x y,0≤x∧x≤9223372036854775807→0≤y∧y≤9223372036854775807→(f x y).2=0∨(f x y).2=5
 bd:∀x y,0≤x∧x≤9223372036854775807→0≤y∧y≤9223372036854775807→0≤(f x y).1∧(f x y).1≤9223372036854775807
theorem jj3:Rk jG:=by
 refine⟨by decide,fun x y hx hy=>?_,fun x y hx hy=>jdx hx hy⟩;unfold jG;split
 · exact .inl rfl
 · exact .inr rfl
theorem jk5:Rk zo:=by
 refine⟨by decide,fun x y hx hy=>?_,fun x y hx hy=>jhH hx hy⟩;unfold zo;split
 · exact .inl rfl
 · exact .inr rfl
def Made (f:ByteArray→Int) (r:V):Prop:=Gd r∧∀n,jh r n=f n
theorem jjO {r:V} {s:ByteArray} {v:Int} {g g':ByteArray→Int} (hr:Made g' r) (hs:isName s=true) (hv:0≤v∧v≤9223372036854775807) (hall:∀y ∈ r,ltS s y.1=true)
 (h1:g s=v) (h2:∀n,n≠s→g n=g' n):∃r',(∀acc,Yv acc s v++r=acc++r')∧Made g r'∧(∀m,ltS m s=true→(∀y ∈ r,ltS m y.1=true)→∀y ∈ r',ltS m y.1=true)∧r'.length≤r.length+1:=by
 by_cases e:v=0
 · refine⟨r,fun acc=>by unfold Yv;rw[if_pos e],⟨hr.1,fun n=>?_⟩,fun m _ h=>h,by omega⟩;by_cases en:n=s
   · subst en;rw[Zh hall,h1,e]
   · rw[hr.2 n,h2 n en]
 · refine⟨(s,v)::r,fun acc=>by unfold Yv;rw[if_neg e];simp,⟨Gd.cons.2 ⟨⟨hs,by omega,hv.2⟩,hall,hr.1⟩,fun n=>?_⟩,fun m hm h y hy=>?_,by simp⟩
   · by_cases en:n=s
     · subst en;rw[Jr (n,v) r,h1]
     · rw[Jy (x:=(s,v)) r (fun c=>en c.symm),hr.2 n,h2 n en]
   · rcases List.mem_cons.1 hy with rfl | hy
     · exact hm
     · exact h y hy
theorem merge_spec {f:Int→Int→Int×Int} (hf:Rk f):∀(fuel:Nat) (la lb:V),la.length+lb.length≤fuel→Gd la→Gd lb →
 ((∃n,(f (jh la n) (jh lb n)).2≠0)∧∀acc,j7 f fuel la lb acc=(5,[])) ∨
 ((∀n,(f (jh la n) (jh lb n)).2=0)∧∃r,(∀acc,j7 f fuel la lb acc=(0,acc++r))∧Made (fun n=>(f (jh la n) (jh lb n)).1) r ∧
   (∀m,(∀y ∈ la,ltS m y.1=true)→(∀y ∈ lb,ltS m y.1=true)→∀y ∈ r,ltS m y.1=true)):=by
 intro fuel
 induction fuel with
 | zero =>
  intro la lb hl ha hb;have e1:la=[]:=List.eq_nil_of_length_eq_zero (by omega);have e2:lb=[]:=List.eq_nil_of_length_eq_zero (by omega);subst e1;subst e2;refine .inr ⟨fun n=>by rw[show jh [] n=0 from rfl,hf.zero],[],fun acc=>by rw[j7,List.append_nil],⟨Gd.nil,fun n=>by show (0:Int)=(f 0 0).1;rw[hf.zero]⟩,fun m _ _ y hy=>absurd hy (by simp)⟩
 | succ fuel ih =>
  intro la lb hl ha hb;by_cases h0:la.length+lb.length=0
  · have e1:la=[]:=List.eq_nil_of_length_eq_zero (by omega);have e2:lb=[]:=List.eq_nil_of_length_eq_zero (by omega);subst e1;subst e2;refine .inr ⟨fun n=>by rw[show jh [] n=0 from rfl,hf.zero],[],fun acc=>by rw[jaV (by simp),List.append_nil],⟨Gd.nil,fun n=>by show (0:Int)=(f 0 0).1;rw[hf.zero]⟩,fun m _ _ y hy=>absurd hy (by simp)⟩
  · obtain⟨hs,hsa,hsb,hsm⟩:=jaH ha hb (by omega);have hless:=jas (la:=la) (lb:=lb) (by omega);obtain⟨s,es⟩:=eX (jm la lb)
    have hstep:∀acc,j7 f (fuel+1) la lb acc=if (f (jr la s).1 (jr lb s).1).2≠0 then ((f (jr la s).1 (jr lb s).1).2,[]) else j7 f fuel (jr la s).2 (jr lb s).2 (Yv acc s (f (jr la s).1 (jr lb s).1).1):=fun acc=>by
     rw[j7,if_neg h0];dsimp only;rw[es]
    rw[es] at hs hsa hsb hsm hless;obtain⟨a1,a2,a3,a4,a5⟩:=XY ha hsa;obtain⟨b1,b2,b3,b4,b5⟩:=XY hb hsb;rw[a1,b1] at hstep;have hca:=JB s ha;have hcb:=JB s hb;by_cases hx:(f (jh la s) (jh lb s)).2=0
    · have hstep2:∀acc,j7 f (fuel+1) la lb acc=j7 f fuel (jr la s).2 (jr lb s).2 (Yv acc s (f (jh la s) (jh lb s)).1):=fun acc=>by
       rw[hstep acc,if_neg (by rw[hx];decide)]
      have e0:∀n,n=s→f (jh (jr la s).2 n) (jh (jr lb s).2 n)=(0,0):=fun n hn=>by
       subst hn;rw[Zh a3,Zh b3,hf.zero]
      rcases ih (jr la s).2 (jr lb s).2 (by omega) a2 b2 with ⟨⟨n,hn⟩,hbad⟩ | ⟨hgood,r,hr,hm,hmin⟩
      · refine .inl ⟨⟨n,?_⟩,fun acc=>by rw[hstep2,hbad]⟩;by_cases en:n=s
        · rw[e0 n en] at hn;exact absurd rfl hn
        · rw[a4 n en,b4 n en] at hn;exact hn
      · obtain⟨r',h1,h2,h3,_⟩:=jjO (s:=s) (v:=(f (jh la s) (jh lb s)).1) (g:=fun n=>(f (jh la n) (jh lb n)).1) hm hs (hf.bd _ _ hca hcb) (hmin s a3 b3) rfl
         (fun n hn=>by show _=_;rw[a4 n hn,b4 n hn])
        refine .inr ⟨fun n=>?_,r',fun acc=>by rw[hstep2,hr,h1],h2,fun m hma hmb=>h3 m (hsm m hma hmb) (hmin m (a5 m hma) (b5 m hmb))⟩;by_cases en:n=s
        · rw[en];exact hx
        · have:=hgood n;rw[a4 n en,b4 n en] at this;exact this
    · refine .inl ⟨⟨s,hx⟩,fun acc=>?_⟩;rw[hstep acc,if_pos hx,(hf.code _ _ hca hcb).resolve_left hx]
theorem merged_spec {f:Int→Int→Int×Int} (hf:Rk f) {l l':V} (h:Gd l) (h':Gd l') (hl:l.length≤8) (hl':l'.length≤8) :
 ((∃n,(f (jh l n) (jh l' n)).2≠0)∧jj f l l'=(5,[])) ∨
 ((∀n,(f (jh l n) (jh l' n)).2=0)∧∃r,Made (fun n=>(f (jh l n) (jh l' n)).1) r∧((8<r.length∧jj f l l'=(4,[]))∨(r.length≤8∧jj f l l'=(0,r)))):=by
 have e:jj f l l'=(let r:=j7 f (l.length+l'.length) l l' [];if r.1≠0 then (r.1,[]) else if 8<r.2.length then (4,[]) else (0,r.2)):=by
  rw[jj,if_neg (by rw[jcP h hl];decide),if_neg (by rw[jcP h' hl'];decide)]
 rcases merge_spec hf (l.length+l'.length) l l' (Nat.le_refl _) h h' with ⟨hn,hb⟩ | ⟨hn,r,hr,hm,_⟩
 · exact .inl ⟨hn,by rw[e,hb];rfl⟩
 · refine .inr ⟨hn,r,hm,?_⟩;rw[e,hr];by_cases h8:8<r.length
   · exact .inl ⟨h8,by simp[h8]⟩
   · exact .inr ⟨by omega,by simp[h8]⟩
theorem jfR:∀{l h:V},jB h l=true↔∀x ∈ l,x.2≤jh h x.1
 | [],h=>⟨fun _ x hx=>absurd hx (by simp),fun _=>rfl⟩
 | x::t,h=>by
  rw[jB,Bool.and_eq_true,decide_eq_true_eq,jfR,List.forall_mem_cons]
theorem Xd {l h:V} (hl:Gd l) (hh:Gd h):jB h l=true↔∀n,jh l n≤jh h n:=by
 rw[jfR];constructor
 · intro hx n;by_cases e:jh l n=0
   · rw[e];exact(JB n hh).1
   · obtain⟨x,hm,rfl⟩:=get_mem e;rw[jda hl hm];exact hx x hm
 · intro hn x hx;have:=hn x.1;rw[jda hl hx] at this;exact this
theorem jaK:∀l:V,jW l l=true
 | []=>rfl
 | x::t=>by rw[jW,jaK t,jR.2 rfl];simp
theorem jes (x y:Int):(zo x y).2=0↔y≤x:=by
 unfold zo;split
 · simp only[true_iff];assumption
 · constructor
   · intro h;cases h
   · intro h;contradiction
theorem qf (x y:Int):(jG x y).2=0↔x+y≤9223372036854775807:=by
 unfold jG;split
 · simp only[true_iff];assumption
 · constructor
   · intro h;cases h
   · intro h;contradiction
theorem jlA {x y:Int} (h:y≤x):zo x y=(x-y,0):=by unfold zo;rw[if_pos h]
theorem jb5 {x y:Int} (h:x+y≤9223372036854775807):jG x y=(x+y,0):=by unfold jG;rw[if_pos h]
theorem jb2 {l l':V} (h:Gd l) (h':Gd l') (hl:l.length≤8) (hl':l'.length≤8) (hf:∀n,jh l' n≤jh l n) :
 ∃r,jj zo l l'=(0,r)∧Made (fun n=>jh l n-jh l' n) r∧r.length≤8:=by
 rcases merged_spec jk5 h h' hl hl' with ⟨⟨n,hn⟩,_⟩ | ⟨_,r,hm,hr⟩
 · exact absurd ((jes _ _).2 (hf n)) hn
 · have hm':Made (fun n=>jh l n-jh l' n) r:=⟨hm.1,fun n=>by rw[hm.2 n];show (zo _ _).1=_;rw[jlA (hf n)]⟩
   have hlen:r.length≤l.length:=Gd.len hm.1 h fun n hn=>by
    rw[hm'.2 n] at hn;dsimp only at hn;have h1:=JB n h;have h2:=JB n h';have:=hf n;omega
   rcases hr with ⟨h8,_⟩ | ⟨h8,e⟩
   · omega
   · exact⟨r,e,hm',h8⟩
theorem jlD {l l':V} (h:Gd l) (h':Gd l') (hl:l.length≤8) (hl':l'.length≤8):((jj zo l l').1=0)↔jB l l'=true:=by
 rw[Xd h' h];constructor
 · intro e;rcases merged_spec jk5 h h' hl hl' with ⟨⟨n,hn⟩,hb⟩ | ⟨hn,_⟩
   · rw[hb] at e;cases e
   · exact fun n=>(jes _ _).1 (hn n)
 · intro hf;obtain⟨r,e,_⟩:=jb2 h h' hl hl' hf;rw[e]
theorem jmv {l l' r:V} (h:Gd l) (h':Gd l') (hl:l.length≤8) (hl':l'.length≤8) (hs:∀n,jh l n+jh l' n≤9223372036854775807) (hr:Made (fun n=>jh l n+jh l' n) r) (h8:r.length≤8):jj jG l l'=(0,r):=by
 rcases merged_spec jj3 h h' hl hl' with ⟨⟨n,hn⟩,_⟩ | ⟨hn,q,hm,hq⟩
 · exact absurd ((qf _ _).2 (hs n)) hn
 · have e:q=r:=Gd.ext hm.1 hr.1 fun n=>by rw[hm.2 n,hr.2 n];show (jG _ _).1=_;rw[jb5 (hs n)]
   subst e;rcases hq with ⟨h9,_⟩ | ⟨_,e⟩
   · omega
   · exact e
theorem Reads.fine {v:Value} {l:V} {w:World} (h:Reads w v l):Jt l:=by
 obtain⟨a,cap,rfl,h1,h2,h3⟩:=h;exact h3.2.2.1
open Go.ChangeShapes Go.WideShapes Go.ChangeAt Go.RowKit Go.Deep
theorem jjY:Tryz.prog.cellsOf 100=2:=by kernel_rfl
theorem ZF:Tryz.prog.cellsOf 9=1:=by kernel_rfl
theorem qz:Tryz.prog.cellsOf 2=1:=by kernel_rfl
theorem jdM {H:Type} {enc:TypeId×Value→H} {w:World} {base fuel:Nat} {sp:Nat→Bool} {held:Bool} {cs:List Value} {x:DataW H×List MemPlace} (h:DataW.trod enc Tryz.prog w base sp held fuel 100 cs=some x) :
 ∃(s:ByteArray) (n:Int),cs=[.string s,.int .i64 n]∧s.size≤maxLen∧-9223372036854775808≤n∧n≤9223372036854775807:=by
 obtain⟨ys,m,-,-,hlen,hyl,hf⟩:=DataW.trod_struct Tryz.underlying100 h;rw[jjY] at hlen
 match cs,hlen with
 | [c0,c1],_ =>
  have h0:DataW.trod enc Tryz.prog w base sp held m 9 (([c0,c1].drop 0).take (Tryz.prog.cellsOf 9))=ys[0]?:=hf 0 _ rfl;have h1:DataW.trod enc Tryz.prog w base sp held m 2 (([c0,c1].drop 1).take (Tryz.prog.cellsOf 2))=ys[1]?:=hf 1 _ rfl;rw[ZF] at h0;rw[qz] at h1;obtain⟨y0,e0⟩:∃y,ys[0]?=some y:=⟨_,List.getElem?_eq_getElem (by rw[hyl];decide)⟩
  obtain⟨y1,e1⟩:∃y,ys[1]?=some y:=⟨_,List.getElem?_eq_getElem (by rw[hyl];decide)⟩
  rw[e0] at h0;rw[e1] at h1;obtain⟨s,q0,-,hs⟩:=DataW.trod_string Tryz.underlying9 h0;obtain⟨n,q1,-,hn⟩:=DataW.trod_int Tryz.underlying2 h1;simp only[List.drop_zero,List.take_succ_cons,List.take_zero,List.cons.injEq,and_true,List.drop_succ_cons] at q0 q1;subst q0;subst q1;have:=bounds_i64 hn;exact⟨s,n,rfl,hs,this.1,this.2⟩
theorem jh0 {l m:V} {i:Nat} (h:i<l.length):nm (l++m) i=nm l i∧qn (l++m) i=qn l i:=by
 unfold nm qn;simp[List.getD,List.getElem?_append_left h]
theorem jh1 (l:V) (s:ByteArray) (n:Int):nm (l++[(s,n)]) l.length=s∧qn (l++[(s,n)]) l.length=n:=by
 unfold nm qn;simp[List.getD]
theorem zJ {H:Type} {enc:TypeId×Value→H} {w:World} {base fuel:Nat} {sp:Nat→Bool} {held:Bool} {v:Value} {x:DataW H×List MemPlace} (h:DataW.trod enc Tryz.prog w base sp held fuel 37 [v]=some x) :
 ∃l,Reads w v l:=by
 rcases open_slice Tryz.underlying37 h with ⟨hcs,-⟩ | ⟨a,len,cap,m,n,D,Pl,hcs,hb,hl,hm,hmm,hx,hi⟩
 · cases hcs;exact⟨[],Reads.nil w⟩
 · cases hcs
   have hlm:len≤m:=by rw[hmm];split<;>omega
   have key:∀k,k≤len→∃l:V,l.length=k∧∀i,i<k→((nm l i).size≤maxLen∧-9223372036854775808≤qn l i∧qn l i≤9223372036854775807) ∧
    w.cell? ((a.add (i*2)).add 0)=some (.string (nm l i))∧w.cell? ((a.add (i*2)).add 1)=some (.int .i64 (qn l i)):=by
    intro k
    induction k with
    | zero=>exact fun _=>⟨[],rfl,fun i hi=>absurd hi (by omega)⟩
    | succ k ih =>
     intro hk;obtain⟨l,e,hall⟩:=ih (by omega);obtain⟨cs',hc,ht'⟩:=hi k (by omega);obtain⟨s,q,rfl,b1,b2,b3⟩:=jdM ht';rw[jjY] at hc;obtain⟨-,-,hat⟩:=World.cells?_some hc;refine⟨l++[(s,q)],by simp[e],fun i hi=>?_⟩;by_cases e2:i=k
     · subst e2;subst e;rw[(jh1 l s q).1,(jh1 l s q).2];exact⟨⟨b1,b2,b3⟩,hat 0 (by decide),hat 1 (by decide)⟩
     · rw[(jh0 (by omega)).1,(jh0 (by omega)).2];exact hall i (by omega)
   obtain⟨l,e,hall⟩:=key len (Nat.le_refl _);subst e;refine⟨l,_,cap,rfl,hl,hm,rfl,Nat.le_trans hl hm,fun i hi=>(hall i hi).1,?_⟩;by_cases h0:l.length=0
   · exact .inl h0
   · obtain⟨b,off,spot⟩:=a;have hc:=(hall 0 (by omega)).2.1;have hspot:spot=none:=by simpa [Addr.add] using World.cell?_spot hc
     subst hspot;have hcell:∀i,i<l.length→w.cell? ⟨b,off+i*2,none⟩=some (.string (nm l i))∧w.cell? ⟨b,off+i*2+1,none⟩=some (.int .i64 (qn l i)):=fun i hi=>by
      have c:=(hall i hi).2;by_cases hi0:i=0
      · subst hi0;simpa [Addr.add] using c
      · have h2:¬i*2=0:=by omega
        simpa [Addr.add,h2] using c
     exact .inr ⟨b,off,rfl,World.block_lt_of_cell? _ _ (hcell 0 (by omega)).1,hcell⟩
end Go.Proofs.YtokdjfoalkmhiaaGreat.Vec
namespace Go.Proofs.YtokdjfoalkmhiaaGreat
open Go.RowKit
abbrev PL:=List (ByteArray×ByteArray)
abbrev TL:=List (Int×ByteArray×ByteArray)
def jK (prev:Option ByteArray) (s:ByteArray):Bool:=match prev with | none=>false | some p=>leS s p
def Yu (l:PL) (k:Nat):Option ByteArray:=if k=0 then none else (l[k-1]?).map (·.1)
def zO:Option ByteArray→PL→Int
 | _,[]=>0
 | prev,x::t=>if (isName x.1&&isName x.2)=false then 3 else if jK prev x.1=true then 13 else zO (some x.1) t
def J9 (l:PL):Int:=if 8<l.length then 4 else zO none l
theorem Yl {l:PL} {k:Nat} (h:k=0) (s:ByteArray):jK (Yu l k) s=false:=by unfold Yu;rw[if_pos h];rfl
theorem Ym {l:PL} {k:Nat} {x y:ByteArray} (h:¬k=0) (hx:l[k-1]?=some (x,y)) (s:ByteArray):jK (Yu l k) s=leS s x:=by unfold Yu;rw[if_neg h,hx];rfl
theorem YI {l:PL} {k:Nat} {x y:ByteArray} (hx:l[k]?=some (x,y)):Yu l (k+1)=some x:=by unfold Yu;rw[if_neg (by omega),Nat.add_sub_cancel,hx];rfl
theorem YD {p:Option ByteArray} {x y:ByteArray} {t:PL} (n:(isName x&&isName y)=false):zO p ((x,y)::t)=3:=by rw[zO,if_pos n]
theorem Xp {p:Option ByteArray} {x y:ByteArray} {t:PL} (n1:isName x=true) (n2:isName y=true) (b:jK p x=true):zO p ((x,y)::t)=13:=by
 rw[zO,if_neg (by dsimp only;rw[n1,n2];decide),if_pos b]
theorem ZA {p:Option ByteArray} {x y:ByteArray} {t:PL} (n1:isName x=true) (n2:isName y=true) (b:jK p x=false):zO p ((x,y)::t)=zO (some x) t:=by
 rw[zO,if_neg (by dsimp only;rw[n1,n2];decide),if_neg (by dsimp only;rw[b];decide)]
theorem jbp (a:Option Addr) (len cap:Nat) (l:PL) (w:World) (hr:jk jz w a len l) :
 Calls Tryz.prog 199 #[.slice a len cap] w fun e w'=>e=.returned (.int .i64 (J9 l))∧Kept w w':=by
 have hl:=hr.1;have hm:=hr.2.1;unfold maxLen at hm;by_cases h8:len≤8
 · have HV:=lH (show J9 l=zO none l by unfold J9;rw[if_neg (by omega)]);rcases hr.form with h0 | ⟨b,off,rfl⟩
   · subst h0;have HE:=lH (show J9 l=0 by rw[HV.out];rw[List.eq_nil_of_length_eq_zero hl];rfl);clear hr hl;go_enter Tryz.func199,Tryz.ntmps199;go_wp2;refine wp_loop_rounds 1 ?_;rw[rounds_succ];go_wp2;go_ret;exact⟨jb HE.out.symm,Kept.refl _⟩
   · have HR:=lH hr;have HL:=lH hl;clear hr hl;go_enter Tryz.func199,Tryz.ntmps199;go_wp2;go_loopw [10] (fun i wr=>∃k:Nat,k≤len∧i=.int .i64 k∧zO (Yu l k) (l.drop k)=zO none l∧Kept w wr) (fun i _=>len-(intOf i).toNat)
     case atStart=>exact⟨0,Nat.zero_le _,rfl,rfl,Kept.refl _⟩
     case round =>
      obtain⟨k,hk,rfl,hrest,hK⟩:=hrel;by_cases hlt:k<len
      · obtain⟨x,y,hx,hd,hb,hz,hz2,c1,c2⟩:=(HR.out.kept hK).pair hlt;obtain⟨HX,HK,HT⟩:=lH3 hx hK (hrest.symm.trans (congrArg (zO (Yu l k)) hd));have HS:=lH (HV.out.trans HT.out);clear hK hrest hx hd;by_cases n1:isName x=true
        · by_cases n2:isName y=true
          · have N1:=lH n1;have N2:=lH n2;by_cases h0:k=0
            · have hd:decide (0<k)=false:=by subst h0;decide
              have HP:=lH (Yl (l:=l) h0 x);clear h0;go_wp2_with (go_at_call 197;refine(zg _ _ (by assumption)).mono ?_;rintro e w' ⟨rfl,rfl⟩)
              go_quiet (fail)
              go_wp2;go_roundw
              case rel=>exact⟨k+1,by omega,by go_num,by rw[YI HX.out];exact(ZA N1.out N2.out HP.out).symm.trans HT.out.symm,(HK.out.trans (JF _ _ _))⟩
              case measure=>simp[intOf];omega
            · have hd:decide (0<k)=true:=by simp;omega
              have g1:0≤(k:Int)-1:=by omega
              have g2:(k:Int)-1<(len:Int):=by omega
              have g3:((k:Int)-1).toNat=k-1:=by omega
              obtain⟨px,py,hpx,_,_,_,_,d1,d2⟩:=(HR.out.kept HK.out).pair (show k-1<len by omega);have HP:=lH (Ym (l:=l) h0 hpx x);clear hpx;by_cases n3:leS x px=true
              · have n3':(Op.bytesLess x.toList px.toList||x.toList==px.toList)=true:=n3;have N3:=lH n3;clear n3;go_wp2_with (go_at_call 197;refine(zg _ _ (by assumption)).mono ?_;rintro e w' ⟨rfl,rfl⟩)
                go_quiet (fail)
                go_wp2;go_ret;exact⟨jb (HS.out.trans (Xp N1.out N2.out (HP.out.trans N3.out))).symm,(HK.out.trans (JF _ _ _))⟩
              · have n3:leS x px=false:=by simpa using n3
                have n3':(Op.bytesLess x.toList px.toList||x.toList==px.toList)=false:=n3;have N3:=lH n3;clear n3;go_wp2_with (go_at_call 197;refine(zg _ _ (by assumption)).mono ?_;rintro e w' ⟨rfl,rfl⟩)
                go_quiet (fail)
                go_wp2;go_roundw
                case rel=>exact⟨k+1,by omega,by go_num,by rw[YI HX.out];exact(ZA N1.out N2.out (HP.out.trans N3.out)).symm.trans HT.out.symm,(HK.out.trans (JF _ _ _))⟩
                case measure=>simp[intOf];omega
          · have n2:isName y=false:=by simpa using n2
            have N:=lH (show (isName x&&isName y)=false by rw[n2,Bool.and_false]);go_wp2_with (go_at_call 197;refine(zg _ _ (by assumption)).mono ?_;rintro e w' ⟨rfl,rfl⟩)
            go_ret;exact⟨jb (HS.out.trans (YD N.out)).symm,HK.out.trans (ja _ _)⟩
        · have n1:isName x=false:=by simpa using n1
          have N:=lH (show (isName x&&isName y)=false by rw[n1,Bool.false_and]);go_wp2_with (go_at_call 197;refine(zg x _ hz).mono ?_;rintro e w' ⟨rfl,rfl⟩)
          go_ret;exact⟨jb (HS.out.trans (YD N.out)).symm,HK.out.trans (ja _ _)⟩
      · have HK:=lH hK;have HS:=lH ((HV.out.trans hrest.symm).trans (congrArg (zO (Yu l k)) (zB (by rw[HL.out];exact hlt))));clear hK hrest;go_wp2;go_ret;exact⟨jb (HS.out.trans rfl).symm,HK.out⟩
 · have HV:=lH (show J9 l=4 by unfold J9;rw[if_pos (by omega)]);have h9:8<len:=by omega
   clear h8 hr hl;go_enter Tryz.func199,Tryz.ntmps199;go_wp2;go_ret;exact⟨jb HV.out.symm,Kept.refl _⟩
abbrev TV (o:Int) (x y:ByteArray):Value:=.agg #[.int .i64 o,.string x,.string y]
def JH (t:Int×ByteArray×ByteArray):Int :=
 if t.1=1∨t.1=2 then (if (isName t.2.1&&isName t.2.2)=true then 0 else 3)
 else if t.1=3∨t.1=4 then (if (isName t.2.1&&eqS t.2.2 ByteArray.empty)=true then 0 else 3)
 else 1
def ZL:TL→Int
 | []=>0
 | t::r=>if JH t≠0 then JH t else ZL r
def Zr (l:TL):Int:=if 8<l.length then 4 else ZL l
theorem jjK (w:World):Calls Tryz.prog 269 #[.bool true] w fun e w'=>e=.returned (.int .i64 0)∧w=w':=by
 go_enter Tryz.func269,Tryz.ntmps269;go_wp2;go_ret;exact⟨rfl,rfl⟩
theorem jbt (w:World):Calls Tryz.prog 269 #[.bool false] w fun e w'=>e=.returned (.int .i64 3)∧w=w':=by
 go_enter Tryz.func269,Tryz.ntmps269;go_wp2;go_ret;exact⟨rfl,rfl⟩
theorem JS {o:Int} {x y:ByteArray}:JH (o,x,y)=if o=1∨o=2 then (if (isName x&&isName y)=true then 0 else 3)
 else if o=3∨o=4 then (if (isName x&&eqS y ByteArray.empty)=true then 0 else 3) else 1:=rfl
theorem jiu (o:Int) (x y:ByteArray) (w:World) (ho:o=1∨o=2) (hx:x.size≤maxLen) (hy:y.size≤maxLen) :
 Calls Tryz.prog 236 #[TV o x y] w fun e w'=>e=.returned (.int .i64 (JH (o,x,y)))∧Kept w w':=by
 by_cases n:(isName x&&isName y)=true
 · have HV:=lH (show JH (o,x,y)=0 by rw[JS,if_pos ho,if_pos n]);have n1:isName x=true:=by rw[Bool.and_eq_true] at n;exact n.1
   have n2:isName y=true:=by rw[Bool.and_eq_true] at n;exact n.2
   clear n;rcases ho with rfl | rfl <;>
    (go_enter Tryz.func236,Tryz.ntmps236
     go_wp2_with (first | (go_at_call 197;refine(zg _ _ (by assumption)).mono ?_;rintro e w' ⟨rfl,rfl⟩) | (go_at_call 269;refine(jjK _).mono ?_;rintro e w' ⟨rfl,rfl⟩))
     go_ret;exact⟨jb HV.out.symm,ja _ _⟩)
 · have HV:=lH (show JH (o,x,y)=3 by rw[JS,if_pos ho,if_neg n]);by_cases n1:isName x=true
   · have n2:isName y=false:=by rw[n1,Bool.true_and] at n;simpa using n
     clear n;rcases ho with rfl | rfl <;>
      (go_enter Tryz.func236,Tryz.ntmps236
       go_wp2_with (first | (go_at_call 197;refine(zg _ _ (by assumption)).mono ?_;rintro e w' ⟨rfl,rfl⟩) | (go_at_call 269;refine(jbt _).mono ?_;rintro e w' ⟨rfl,rfl⟩))
       go_ret;exact⟨jb HV.out.symm,ja _ _⟩)
   · have n1:isName x=false:=by simpa using n1
     clear n;rcases ho with rfl | rfl <;>
      (go_enter Tryz.func236,Tryz.ntmps236
       go_wp2_with (first | (go_at_call 197;refine(zg _ _ (by assumption)).mono ?_;rintro e w' ⟨rfl,rfl⟩) | (go_at_call 269;refine(jbt _).mono ?_;rintro e w' ⟨rfl,rfl⟩))
       go_ret;exact⟨jb HV.out.symm,ja _ _⟩)
theorem jmb (o:Int) (x y:ByteArray) (w:World) (ho:o=3∨o=4) (hx:x.size≤maxLen) (hy:y.size≤maxLen) :
 Calls Tryz.prog 236 #[TV o x y] w fun e w'=>e=.returned (.int .i64 (JH (o,x,y)))∧Kept w w':=by
 have ho':¬(o=1∨o=2):=by omega
 by_cases n:(isName x&&eqS y ByteArray.empty)=true
 · have HV:=lH (show JH (o,x,y)=0 by rw[JS,if_neg ho',if_pos ho,if_pos n]);have n1:isName x=true:=by rw[Bool.and_eq_true] at n;exact n.1
   have n2:(y.toList==([]:List UInt8))=true:=by rw[Bool.and_eq_true] at n;have:=n.2;unfold eqS at this;simpa using this
   clear n ho';rcases ho with rfl | rfl <;>
    (go_enter Tryz.func236,Tryz.ntmps236
     go_wp2_with (first | (go_at_call 197;refine(zg _ _ (by assumption)).mono ?_;rintro e w' ⟨rfl,rfl⟩) | (go_at_call 269;refine(jjK _).mono ?_;rintro e w' ⟨rfl,rfl⟩))
     go_ret;exact⟨jb HV.out.symm,ja _ _⟩)
 · have HV:=lH (show JH (o,x,y)=3 by rw[JS,if_neg ho',if_pos ho,if_neg n]);clear ho';by_cases n1:isName x=true
   · have n2:(y.toList==([]:List UInt8))=false:=by rw[n1,Bool.true_and] at n;unfold eqS at n;simpa using n
     clear n;rcases ho with rfl | rfl <;>
      (go_enter Tryz.func236,Tryz.ntmps236
       go_wp2_with (first | (go_at_call 197;refine(zg _ _ (by assumption)).mono ?_;rintro e w' ⟨rfl,rfl⟩) | (go_at_call 269;refine(jbt _).mono ?_;rintro e w' ⟨rfl,rfl⟩))
       go_ret;exact⟨jb HV.out.symm,ja _ _⟩)
   · have n1:isName x=false:=by simpa using n1
     clear n;rcases ho with rfl | rfl <;>
      (go_enter Tryz.func236,Tryz.ntmps236
       go_wp2_with (first | (go_at_call 197;refine(zg _ _ (by assumption)).mono ?_;rintro e w' ⟨rfl,rfl⟩) | (go_at_call 269;refine(jbt _).mono ?_;rintro e w' ⟨rfl,rfl⟩))
       go_ret;exact⟨jb HV.out.symm,ja _ _⟩)
theorem ji1 (o:Int) (x y:ByteArray) (w:World) (ho:¬(o=1∨o=2)) (ho':¬(o=3∨o=4)) :
 Calls Tryz.prog 236 #[TV o x y] w fun e w'=>e=.returned (.int .i64 (JH (o,x,y)))∧Kept w w':=by
 have HV:=lH (show JH (o,x,y)=1 by rw[JS,if_neg ho,if_neg ho']);have e1:(o==1)=false:=by (have:o≠1:=by omega);simpa using this
 have e2:(o==2)=false:=by (have:o≠2:=by omega);simpa using this
 have e3:(o==3)=false:=by (have:o≠3:=by omega);simpa using this
 have e4:(o==4)=false:=by (have:o≠4:=by omega);simpa using this
 clear ho ho';go_enter Tryz.func236,Tryz.ntmps236;go_wp2;go_ret;exact⟨jb HV.out.symm,ja _ _⟩
theorem jaI (o:Int) (x y:ByteArray) (w:World) (hx:x.size≤maxLen) (hy:y.size≤maxLen) :
 Calls Tryz.prog 236 #[TV o x y] w fun e w'=>e=.returned (.int .i64 (JH (o,x,y)))∧Kept w w':=by
 by_cases h1:o=1∨o=2
 · exact jiu o x y w h1 hx hy
 · by_cases h2:o=3∨o=4
   · exact jmb o x y w h2 hx hy
   · exact ji1 o x y w h1 h2
theorem jcO (t:Int×ByteArray×ByteArray) (r:TL):ZL (t::r)=if JH t≠0 then JH t else ZL r:=rfl
theorem je2 (a:Option Addr) (len cap:Nat) (l:TL) (w:World) (hr:jk jP w a len l) :
 Calls Tryz.prog 203 #[.slice a len cap] w fun e w'=>e=.returned (.int .i64 (Zr l))∧Kept w w':=by
 have hl:=hr.1;have hm:=hr.2.1;unfold maxLen at hm;by_cases h8:len≤8
 · have HV:=lH (show Zr l=ZL l by unfold Zr;rw[if_neg (by omega)]);rcases hr.form with h0 | ⟨b,off,rfl⟩
   · subst h0;have HE:=lH (show Zr l=0 by rw[HV.out];rw[List.eq_nil_of_length_eq_zero hl];rfl);clear hr hl;go_enter Tryz.func203,Tryz.ntmps203;go_wp2;refine wp_loop_rounds 1 ?_;rw[rounds_succ];go_wp2;go_ret;exact⟨jb HE.out.symm,Kept.refl _⟩
   · have HR:=lH hr;have HL:=lH hl;clear hr hl;go_enter Tryz.func203,Tryz.ntmps203;go_wp2;go_loopw [11] (fun i wr=>∃k:Nat,k≤len∧i=.int .i64 k∧ZL (l.drop k)=ZL l∧Kept w wr) (fun i _=>len-(intOf i).toNat)
     case atStart=>exact⟨0,Nat.zero_le _,rfl,rfl,Kept.refl _⟩
     case round =>
      obtain⟨k,hk,rfl,hrest,hK⟩:=hrel;by_cases hlt:k<len
      · obtain⟨o,x,y,hx,hd,hb,ho,hz,hz2,c1,c2,c3⟩:=(HR.out.kept hK).term hlt;have HK:=lH hK;have HT:=lH (hrest.symm.trans ((congrArg ZL hd).trans (jcO _ _)));have HS:=lH (HV.out.trans HT.out);clear hK hrest hx hd;by_cases n:JH (o,x,y)=0
        · have N:=lH n;have n':(JH (o,x,y) != 0)=false:=by simpa using n
          clear n;go_wp2_with (go_at_call 236;refine(jaI o x y _ hz hz2).mono ?_;rintro e w1 ⟨rfl,k1⟩;have K1:=lH k1;clear k1)
          go_roundw
          case rel=>exact⟨k+1,by omega,by go_num,(HT.out.trans (if_neg (by rw[N.out];decide))).symm,HK.out.trans ((ja _ _).trans K1.out)⟩
          case measure=>simp[intOf];omega
        · have N:=lH n;have n':(JH (o,x,y) != 0)=true:=by simpa using n
          clear n;go_wp2_with (go_at_call 236;refine(jaI o x y _ hz hz2).mono ?_;rintro e w1 ⟨rfl,k1⟩;have K1:=lH k1;clear k1)
          go_ret;exact⟨jb (HS.out.trans (if_pos N.out)).symm,HK.out.trans ((ja _ _).trans K1.out)⟩
      · have HK:=lH hK;have HS:=lH ((HV.out.trans hrest.symm).trans (congrArg ZL (zB (by rw[HL.out];exact hlt))));clear hK hrest;go_wp2;go_ret;exact⟨jb (HS.out.trans rfl).symm,HK.out⟩
 · have HV:=lH (show Zr l=4 by unfold Zr;rw[if_pos (by omega)]);have h9:8<len:=by omega
   clear h8 hr hl;go_enter Tryz.func203,Tryz.ntmps203;go_wp2;go_ret;exact⟨jb HV.out.symm,Kept.refl _⟩
def Jf:PL→ByteArray→Option ByteArray
 | [],_=>none
 | x::t,n=>if eqS x.1 n=true then some x.2 else Jf t n
def XS (s:PL) (n:ByteArray):ByteArray:=(Jf s n).getD ByteArray.empty
def Yz (s:PL) (n:ByteArray):Bool:=(Jf s n).isSome
theorem jk8 (x y:ByteArray) (t:PL) (n:ByteArray):Jf ((x,y)::t) n=if eqS x n=true then some y else Jf t n:=rfl
theorem jdq {s:PL} {n:ByteArray} {o:Option ByteArray} (h:Jf s n=o):Ending.returned (.tuple #[.string (o.getD ByteArray.empty),.bool o.isSome])=.returned (.tuple #[.string (XS s n),.bool (Yz s n)]):=by
 unfold XS Yz;rw[h]
theorem jej {s:PL} {n v:ByteArray} (hf:∀x ∈ s,jz.fine x) (h:Jf s n=some v):v.size≤maxLen:=by
 induction s with
 | nil=>cases h
 | cons x t ih =>
  rw[Jf] at h;split at h
  · injection h with h;subst h;exact(hf x (by simp)).2
  · exact ih (fun y hy=>hf y (by simp[hy])) h
theorem XD (a:Option Addr) (len cap:Nat) (l:PL) (n:ByteArray) (w:World) (hr:jk jz w a len l) :
 Calls Tryz.prog 258 #[.slice a len cap,.string n] w fun e w'=>e=.returned (.tuple #[.string (XS l n),.bool (Yz l n)])∧Kept w w':=by
 have hl:=hr.1;have hm:=hr.2.1;unfold maxLen at hm;rcases hr.form with h0 | ⟨b,off,rfl⟩
 · subst h0;have HE:=lH (show Jf l n=none by rw[List.eq_nil_of_length_eq_zero hl];rfl);clear hr hl;go_enter Tryz.func258,Tryz.ntmps258;go_wp2;refine wp_loop_rounds 1 ?_;rw[rounds_succ];go_wp2;go_ret2
   exact⟨jdq HE.out,Kept.refl _⟩
 · have HR:=lH hr;have HL:=lH hl;clear hr hl;go_enter Tryz.func258,Tryz.ntmps258;go_wp2;go_loopw [10] (fun i wr=>∃k:Nat,k≤len∧i=.int .i64 k∧Jf (l.drop k) n=Jf l n∧Kept w wr) (fun i _=>len-(intOf i).toNat)
   case atStart=>exact⟨0,Nat.zero_le _,rfl,rfl,Kept.refl _⟩
   case round =>
    obtain⟨k,hk,rfl,hrest,hK⟩:=hrel;by_cases hlt:k<len
    · obtain⟨x,y,hx,hd,hb,hz,hz2,c1,c2⟩:=(HR.out.kept hK).pair hlt;have HK:=lH hK;have HT:=lH (hrest.symm.trans ((congrArg (fun z=>Jf z n) hd).trans (jk8 _ _ _ _)));clear hK hrest hx hd;by_cases e:eqS x n=true
      · have E:=lH e;have e':(x.toList==n.toList)=true:=e;clear e;go_wp2;go_ret2
        exact⟨jdq (HT.out.trans (if_pos E.out)),HK.out.trans (ja _ _)⟩
      · have E:=lH e;have e':(x.toList==n.toList)=false:=by unfold eqS at e;simpa using e
        clear e;go_wp2;go_roundw
        case rel=>exact⟨k+1,by omega,by go_num,(HT.out.trans (if_neg E.out)).symm,HK.out.trans (ja _ _)⟩
        case measure=>simp[intOf];omega
    · have HK:=lH hK;have HS:=lH (hrest.symm.trans (congrArg (fun z=>Jf z n) (zB (by rw[HL.out];exact hlt))));clear hK hrest;go_wp2;go_ret2
      exact⟨jdq (HS.out.trans rfl),HK.out⟩
def Z8 (s:PL) (t:Int×ByteArray×ByteArray):Bool :=
 if t.1=1 then Yz s t.2.1&&eqS (XS s t.2.1) t.2.2
 else if t.1=2 then !Yz s t.2.1||!eqS (XS s t.2.1) t.2.2
 else if t.1=3 then Yz s t.2.1
 else if t.1=4 then !Yz s t.2.1 else false
theorem Xm {s:PL} {o:Int} {x y:ByteArray}:Z8 s (o,x,y)=if o=1 then Yz s x&&eqS (XS s x) y else if o=2 then !Yz s x||!eqS (XS s x) y else if o=3 then Yz s x else if o=4 then !Yz s x else false:=rfl
theorem jd9 (o:Int) (x y:ByteArray) (a:Option Addr) (len cap:Nat) (s:PL) (w:World) (hr:jk jz w a len s) :
 Calls Tryz.prog 225 #[TV o x y,.slice a len cap] w fun e w'=>e=.returned (.bool (Z8 s (o,x,y)))∧Kept w w':=by
 have HG:=lH (fun (w':World) (k:Kept w w')=>XD a len cap s x w' (hr.kept k));obtain⟨v,hv⟩:=eX (XS s x)
 obtain⟨h,hh⟩:=eX (Yz s x)
 obtain⟨q,hq⟩:=eX (eqS v y)
 have hq':(v.toList==y.toList)=q:=hq;rw[hv,hh] at HG;clear hr;by_cases h1:o=1
 · subst h1;have HV:=lH (show Z8 s (1,x,y)=(h&&q) by rw[Xm,if_pos rfl,hv,hh,hq]);clear hv hh hq
   cases h<;>cases q <;>
   (go_enter Tryz.func225,Tryz.ntmps225
    go_wp2_with (go_at_call 258;refine(HG.out _ (ja _ _)).mono ?_;rintro e w1 ⟨rfl,k1⟩;have K1:=lH k1;have c3:=cell_later k1 (show (w.alloc (.cells #[.int .i64 1,.string x,.string y] 162)).cell? ⟨w.heap.size,2,none⟩=some (.string y) by go_simp);have c0:=cell_later k1 (show (w.alloc (.cells #[.int .i64 1,.string x,.string y] 162)).cell? ⟨w.heap.size,0,none⟩=some (.int .i64 1) by go_simp);clear k1)
    go_ret;exact⟨jd HV.out.symm,(ja _ _).trans K1.out⟩)
 · by_cases h2:o=2
   · subst h2;have HV:=lH (show Z8 s (2,x,y)=(!h||!q) by rw[Xm,if_neg (by decide),if_pos rfl,hv,hh,hq]);clear hv hh hq h1
     cases h<;>cases q <;>
     (go_enter Tryz.func225,Tryz.ntmps225
      go_wp2_with (go_at_call 258;refine(HG.out _ (ja _ _)).mono ?_;rintro e w1 ⟨rfl,k1⟩;have K1:=lH k1;have c3:=cell_later k1 (show (w.alloc (.cells #[.int .i64 2,.string x,.string y] 162)).cell? ⟨w.heap.size,2,none⟩=some (.string y) by go_simp);have c0:=cell_later k1 (show (w.alloc (.cells #[.int .i64 2,.string x,.string y] 162)).cell? ⟨w.heap.size,0,none⟩=some (.int .i64 2) by go_simp);clear k1)
      go_ret;exact⟨jd HV.out.symm,(ja _ _).trans K1.out⟩)
   · by_cases h3:o=3
     · subst h3;have HV:=lH (show Z8 s (3,x,y)=h by rw[Xm,if_neg (by decide),if_neg (by decide),if_pos rfl,hh]);clear hv hh hq h1 h2;go_enter Tryz.func225,Tryz.ntmps225;go_wp2_with (go_at_call 258;refine(HG.out _ (ja _ _)).mono ?_;rintro e w1 ⟨rfl,k1⟩;have K1:=lH k1;have c0:=cell_later k1 (show (w.alloc (.cells #[.int .i64 3,.string x,.string y] 162)).cell? ⟨w.heap.size,0,none⟩=some (.int .i64 3) by go_simp);clear k1)
       go_ret;exact⟨jd HV.out.symm,(ja _ _).trans K1.out⟩
     · by_cases h4:o=4
       · subst h4;have HV:=lH (show Z8 s (4,x,y)=!h by rw[Xm,if_neg (by decide),if_neg (by decide),if_neg (by decide),if_pos rfl,hh]);clear hv hh hq h1 h2 h3;go_enter Tryz.func225,Tryz.ntmps225;go_wp2_with (go_at_call 258;refine(HG.out _ (ja _ _)).mono ?_;rintro e w1 ⟨rfl,k1⟩;have K1:=lH k1;have c0:=cell_later k1 (show (w.alloc (.cells #[.int .i64 4,.string x,.string y] 162)).cell? ⟨w.heap.size,0,none⟩=some (.int .i64 4) by go_simp);clear k1)
         go_ret;exact⟨jd HV.out.symm,(ja _ _).trans K1.out⟩
       · have HV:=lH (show Z8 s (o,x,y)=false by rw[Xm,if_neg h1,if_neg h2,if_neg h3,if_neg h4]);have e1:(o==1)=false:=by simpa using h1
         have e2:(o==2)=false:=by simpa using h2
         have e3:(o==3)=false:=by simpa using h3
         have e4:(o==4)=false:=by simpa using h4
         clear hv hh hq h1 h2 h3 h4;go_enter Tryz.func225,Tryz.ntmps225;go_wp2_with (go_at_call 258;refine(HG.out _ (ja _ _)).mono ?_;rintro e w1 ⟨rfl,k1⟩;have K1:=lH k1;have c0:=cell_later k1 (show (w.alloc (.cells #[.int .i64 o,.string x,.string y] 162)).cell? ⟨w.heap.size,0,none⟩=some (.int .i64 o) by go_simp);clear k1)
         go_ret;exact⟨jd HV.out.symm,(ja _ _).trans K1.out⟩
def ZS (l:TL) (s:PL):Bool:=l.all (Z8 s)
theorem jij (t:Int×ByteArray×ByteArray) (r:TL) (s:PL):ZS (t::r) s=(Z8 s t&&ZS r s):=rfl
theorem jjD (a a':Option Addr) (len cap len' cap':Nat) (l:TL) (s:PL) (w:World) (hr:jk jP w a len l) (hr':jk jz w a' len' s) :
 Calls Tryz.prog 193 #[.slice a len cap,.slice a' len' cap'] w fun e w'=>e=.returned (.bool (ZS l s))∧Kept w w':=by
 have hl:=hr.1;have hm:=hr.2.1;unfold maxLen at hm;rcases hr.form with h0 | ⟨b,off,rfl⟩
 · subst h0;have HE:=lH (show ZS l s=true by rw[List.eq_nil_of_length_eq_zero hl];rfl);clear hr hl hr';go_enter Tryz.func193,Tryz.ntmps193;go_wp2;refine wp_loop_rounds 1 ?_;rw[rounds_succ];go_wp2;go_ret;exact⟨jd HE.out.symm,Kept.refl _⟩
 · have HR:=lH hr;have HR':=lH hr';have HL:=lH hl;clear hr hl hr';go_enter Tryz.func193,Tryz.ntmps193;go_wp2;go_loopw [9] (fun i wr=>∃k:Nat,k≤len∧i=.int .i64 k∧ZS (l.drop k) s=ZS l s∧Kept w wr) (fun i _=>len-(intOf i).toNat)
   case atStart=>exact⟨0,Nat.zero_le _,rfl,rfl,Kept.refl _⟩
   case round =>
    obtain⟨k,hk,rfl,hrest,hK⟩:=hrel;by_cases hlt:k<len
    · obtain⟨o,x,y,hx,hd,hb,ho,hz,hz2,c1,c2,c3⟩:=(HR.out.kept hK).term hlt;have HK:=lH hK;have HT:=lH (hrest.symm.trans ((congrArg (fun z=>ZS z s) hd).trans (jij _ _ _)));clear hK hrest hx hd;by_cases n:Z8 s (o,x,y)=true
      · have N:=lH n;go_wp2_with (go_at_call 225;refine(jd9 o x y a' len' cap' s _ ((HR'.out.kept HK.out).kept (ja _ _))).mono ?_;rintro e w1 ⟨rfl,k1⟩;have K1:=lH k1;clear k1)
        go_roundw
        case rel=>exact⟨k+1,by omega,by go_num,(HT.out.trans (by rw[N.out];exact Bool.true_and _)).symm,HK.out.trans ((ja _ _).trans K1.out)⟩
        case measure=>simp[intOf];omega
      · have n:Z8 s (o,x,y)=false:=by simpa using n
        have N:=lH n;go_wp2_with (go_at_call 225;refine(jd9 o x y a' len' cap' s _ ((HR'.out.kept HK.out).kept (ja _ _))).mono ?_;rintro e w1 ⟨rfl,k1⟩;have K1:=lH k1;clear k1)
        go_ret;exact⟨jd (HT.out.trans (by rw[N.out];exact Bool.false_and _)).symm,HK.out.trans ((ja _ _).trans K1.out)⟩
    · have HK:=lH hK;have HS:=lH (hrest.symm.trans (congrArg (fun z=>ZS z s) (zB (by rw[HL.out];exact hlt))));clear hK hrest;go_wp2;go_ret;exact⟨jd (HS.out.trans rfl).symm,HK.out⟩
abbrev NT:=ByteArray×ByteArray×Bool
abbrev NL:=List NT
abbrev NV (x y:ByteArray) (b:Bool):Value:=.agg #[.string x,.string y,.bool b]
theorem jdG (x y:ByteArray) (b:Bool) (u:Value) (h:u ∈ [Value.string x,Value.string y,Value.bool b]):u.oneCell'=true:=by
 have e:u=Value.string x∨u=Value.string y∨u=Value.bool b:=by simpa using h
 rcases e with e | e | e<;>rw[e]<;>rfl
def ju:Lay NT:={ m:=3,cs:=fun x=>[.string x.1,.string x.2.1,.bool x.2.2],fine:=fun x=>x.1.size≤maxLen∧x.2.1.size≤maxLen,len:=fun _=>rfl,one:=fun x=>jdG x.1 x.2.1 x.2.2,pos:=by decide }
theorem jk.tri {w:World} {b off len:Nat} {l:NL} {k:Nat} (h:jk ju w (some ⟨b,off,none⟩) len l) (hk:k<len) :
 ∃(x y:ByteArray) (m:Bool),l[k]?=some (x,y,m)∧l.drop k=(x,y,m)::l.drop (k+1)∧b<w.heap.size∧x.size≤maxLen∧y.size≤maxLen ∧
  w.cell? ⟨b,off+k*3,none⟩=some (.string x)∧w.cell? ⟨b,off+k*3+1,none⟩=some (.string y)∧w.cell? ⟨b,off+k*3+2,none⟩=some (.bool m):=by
 obtain⟨⟨x,y,m⟩,h1,h2,h3,h4,h5⟩:=h.cells hk;exact⟨x,y,m,h1,h2,h3,h4.1,h4.2,h5 0 _ rfl,h5 1 _ rfl,h5 2 _ rfl⟩
def Jc (t z:NT):Bool:=eqS z.1 t.1&&eqS z.2.1 t.2.1
def JL:NL→NL→Int
 | _,[]=>0
 | pre,x::t=>if (isName x.1&&isName x.2.1)=false then 3 else if pre.any (Jc x)=true then 6 else JL (pre++[x]) t
def ZJ (l:NL):Int:=if 8<l.length then 4 else JL [] l
theorem qg {pre:NL} {x:NT} {t:NL} (n:(isName x.1&&isName x.2.1)=false):JL pre (x::t)=3:=by rw[JL,if_pos n]
theorem jcM {pre:NL} {x:NT} {t:NL} (n1:isName x.1=true) (n2:isName x.2.1=true) (b:pre.any (Jc x)=true):JL pre (x::t)=6:=by
 rw[JL,if_neg (by rw[n1,n2];decide),if_pos b]
theorem jeu {pre:NL} {x:NT} {t:NL} (n1:isName x.1=true) (n2:isName x.2.1=true) (b:pre.any (Jc x)=false):JL pre (x::t)=JL (pre++[x]) t:=by
 rw[JL,if_neg (by rw[n1,n2];decide),if_neg (by rw[b];decide)]
def zp (s:ByteArray):Bool:=eqS s ByteArray.empty
def zF (x:NT):Bool:=(zp x.1||isName x.1)&&(if x.2.2=true then zp x.2.1 else isName x.2.1)
def JI (l:NL):Int:=if 8<l.length then 4 else if l.all zF=true then 0 else 3
def Zp (t z:NT):Bool:=(zp z.1||eqS z.1 t.1)&&(z.2.2||eqS z.2.1 t.2.1)
def qw (l:NL) (t:NT):Bool:=l.any (Zp t)
def Jj (l:NL):NL→Option NT
 | []=>none
 | t::r=>if (t.2.2&&!qw l t)=true then some t else Jj l r
def softN (l:NL):NL→Nat
 | []=>0
 | t::r=>(if (!t.2.2&&!qw l t)=true then 1 else 0)+softN l r
theorem JV {s:ByteArray}:zp s=(s.toList==([]:List UInt8)):=by
 unfold zp eqS;rw[show ByteArray.empty.toList=([]:List UInt8) from by rw[Lib.toList_data];rfl]
def Jd:PL→PL→Bool
 | [],[]=>true
 | x::s,y::t=>(eqS x.1 y.1&&eqS x.2 y.2)&&Jd s t
 | _,_=>false
def jU:NL→NL→Bool
 | [],[]=>true
 | x::s,y::t=>(eqS x.1 y.1&&(eqS x.2.1 y.2.1&&(x.2.2==y.2.2)))&&jU s t
 | _,_=>false
theorem jaN:∀{l l':PL},l.length≠l'.length→Jd l l'=false
 | [],[],h=>absurd rfl h
 | [],_::_,_=>rfl
 | _::_,[],_=>rfl
 | x::s,y::t,h=>by rw[Jd,jaN (l:=s) (l':=t) (fun e=>h (by simp[e])),Bool.and_false]
theorem XO:∀{l l':NL},l.length≠l'.length→jU l l'=false
 | [],[],h=>absurd rfl h
 | [],_::_,_=>rfl
 | _::_,[],_=>rfl
 | x::s,y::t,h=>by rw[jU,XO (l:=s) (l':=t) (fun e=>h (by simp[e])),Bool.and_false]
theorem qE:∀l:PL,Jd l l=true
 | []=>rfl
 | x::t=>by rw[Jd,qE t,zh,zh];rfl
theorem jaa:∀l:NL,jU l l=true
 | []=>rfl
 | x::t=>by rw[jU,jaa t,zh,zh];simp
theorem jii (a a':Option Addr) (len cap len' cap':Nat) (l l':PL) (w:World) (hr:jk jz w a len l) (hr':jk jz w a' len' l') :
 Calls Tryz.prog 98 #[.slice a len cap,.slice a' len' cap'] w fun e w'=>e=.returned (.bool (Jd l l'))∧Kept w w':=by
 have hl:=hr.1;have hm:=hr.2.1;have hl':=hr'.1;have hm':=hr'.2.1;unfold maxLen at hm hm';by_cases hll:len=len'
 · subst hll;by_cases h0:len=0
   · subst h0;have HE:=lH (show Jd l l'=true by rw[List.eq_nil_of_length_eq_zero hl,List.eq_nil_of_length_eq_zero hl'];rfl);clear hr hl hr' hl';go_enter Tryz.func98,Tryz.ntmps98;go_wp2;refine wp_loop_rounds 1 ?_;rw[rounds_succ];go_wp2;go_ret;exact⟨jd HE.out.symm,Kept.refl _⟩
   · obtain⟨b,off,rfl⟩:∃b off,a=some ⟨b,off,none⟩:=hr.form.resolve_left h0;obtain⟨b',off',rfl⟩:∃b off,a'=some ⟨b,off,none⟩:=hr'.form.resolve_left h0;have HR:=lH hr;have HL:=lH hl;have HR':=lH hr';have HL':=lH hl';clear hr hl hr' hl' h0;go_enter Tryz.func98,Tryz.ntmps98;go_wp2;go_loopw [13] (fun i wr=>∃k:Nat,k≤len∧i=.int .i64 k∧Jd (l.drop k) (l'.drop k)=Jd l l'∧Kept w wr) (fun i _=>len-(intOf i).toNat)
     case atStart=>exact⟨0,Nat.zero_le _,rfl,rfl,Kept.refl _⟩
     case round =>
      obtain⟨k,hk,rfl,hrest,hK⟩:=hrel;have HS:=lH hrest;have HK:=lH hK;by_cases hlt:k<len
      · obtain⟨x,y,hx,hd,hb,_,_,c1,c2⟩:=(HR.out.kept hK).pair hlt;obtain⟨x9,y9,hx9,hd9,hb9,_,_,d1,d2⟩:=(HR'.out.kept hK).pair hlt;have HD:=lH hd;have VO:=lH hd9;clear hrest hK hx hx9 hd hd9;by_cases e0:eqS x x9=true
        · have E0:=lH e0;have e0':(x.toList==x9.toList)=true:=e0;clear e0;by_cases e1:eqS y y9=true
          · have E1:=lH e1;have e1':(y.toList==y9.toList)=true:=e1;clear e1;have E:=lH (show Jd (l.drop k) (l'.drop k)=Jd (l.drop (k+1)) (l'.drop (k+1)) by rw[HD.out,VO.out,Jd,E0.out,E1.out];rfl);go_wp2;go_quiet (fail)
            go_wp2;go_roundw
            case rel=>exact⟨k+1,by omega,by go_num,E.out.symm.trans HS.out,HK.out.trans (Kept.drewN _ _)⟩
            case measure=>simp[intOf];omega
          · have e1:eqS y y9=false:=by simpa using e1
            have E1:=lH e1;have e1':(y.toList==y9.toList)=false:=e1;clear e1;have E:=lH (show Jd (l.drop k) (l'.drop k)=false by rw[HD.out,VO.out,Jd,E0.out,E1.out];rfl);go_wp2;go_quiet (fail)
            go_wp2;go_ret;exact⟨jd (HS.out.symm.trans E.out).symm,HK.out.trans (Kept.drewN _ _)⟩
        · have e0:eqS x x9=false:=by simpa using e0
          have E0:=lH e0;have e0':(x.toList==x9.toList)=false:=e0;clear e0;have E:=lH (show Jd (l.drop k) (l'.drop k)=false by rw[HD.out,VO.out,Jd,E0.out];rfl);go_wp2;go_quiet (fail)
          go_wp2;go_ret;exact⟨jd (HS.out.symm.trans E.out).symm,HK.out.trans (Kept.drewN _ _)⟩
      · have E:=lH (show Jd (l.drop k) (l'.drop k)=true by
         rw[List.drop_of_length_le (by rw[HL.out];omega),List.drop_of_length_le (by rw[HL'.out];omega),Jd])
        clear hrest hK;go_wp2;go_ret;exact⟨jd (HS.out.symm.trans E.out).symm,HK.out⟩
 · have HV:=lH (show Jd l l'=false from jaN (by omega));clear hr hl hr' hl';have hn:((len:Int) != (len':Int))=true:=by
    simp only[bne_iff_ne,ne_eq];omega
   clear hll;go_enter Tryz.func98,Tryz.ntmps98;go_wp2;go_ret;exact⟨jd HV.out.symm,Kept.refl _⟩
theorem Zq {v v':Value} {l l':PL} {c:Bool} {w:World} (h:Reads jz w v l) (h':Reads jz w v' l') (hc:Jd l l'=c) :
 Calls Tryz.prog 98 #[v,v'] w (Say (.bool c) w):=by
 subst hc;obtain⟨a,cap,rfl,_,_,hr⟩:=h;obtain⟨a',cap',rfl,_,_,hr'⟩:=h';exact jii a a' _ cap _ cap' l l' w hr hr'
theorem jh4 (a a':Option Addr) (len cap len' cap':Nat) (l l':NL) (w:World) (hr:jk ju w a len l) (hr':jk ju w a' len' l') :
 Calls Tryz.prog 99 #[.slice a len cap,.slice a' len' cap'] w fun e w'=>e=.returned (.bool (jU l l'))∧Kept w w':=by
 have hl:=hr.1;have hm:=hr.2.1;have hl':=hr'.1;have hm':=hr'.2.1;unfold maxLen at hm hm';by_cases hll:len=len'
 · subst hll;by_cases h0:len=0
   · subst h0;have HE:=lH (show jU l l'=true by rw[List.eq_nil_of_length_eq_zero hl,List.eq_nil_of_length_eq_zero hl'];rfl);clear hr hl hr' hl';go_enter Tryz.func99,Tryz.ntmps99;go_wp2;refine wp_loop_rounds 1 ?_;rw[rounds_succ];go_wp2;go_ret;exact⟨jd HE.out.symm,Kept.refl _⟩
   · obtain⟨b,off,rfl⟩:∃b off,a=some ⟨b,off,none⟩:=hr.form.resolve_left h0;obtain⟨b',off',rfl⟩:∃b off,a'=some ⟨b,off,none⟩:=hr'.form.resolve_left h0;have HR:=lH hr;have HL:=lH hl;have HR':=lH hr';have HL':=lH hl';clear hr hl hr' hl' h0;go_enter Tryz.func99,Tryz.ntmps99;go_wp2;go_loopw [13] (fun i wr=>∃k:Nat,k≤len∧i=.int .i64 k∧jU (l.drop k) (l'.drop k)=jU l l'∧Kept w wr) (fun i _=>len-(intOf i).toNat)
     case atStart=>exact⟨0,Nat.zero_le _,rfl,rfl,Kept.refl _⟩
     case round =>
      obtain⟨k,hk,rfl,hrest,hK⟩:=hrel;have HS:=lH hrest;have HK:=lH hK;by_cases hlt:k<len
      · obtain⟨x,y,m,hx,hd,hb,_,_,c1,c2,c3⟩:=(HR.out.kept hK).tri hlt;obtain⟨x9,y9,m9,hx9,hd9,hb9,_,_,d1,d2,d3⟩:=(HR'.out.kept hK).tri hlt;have HD:=lH hd;have VO:=lH hd9;clear hrest hK hx hx9 hd hd9;by_cases e0:eqS x x9=true
        · have E0:=lH e0;have e0':(x.toList==x9.toList)=true:=e0;clear e0;by_cases e1:eqS y y9=true
          · have E1:=lH e1;have e1':(y.toList==y9.toList)=true:=e1;clear e1;by_cases e2:(m==m9)=true
            · have E2:=lH e2;have e2':(m==m9)=true:=e2;clear e2;have E:=lH (show jU (l.drop k) (l'.drop k)=jU (l.drop (k+1)) (l'.drop (k+1)) by rw[HD.out,VO.out,jU,E0.out,E1.out,E2.out];rfl);go_wp2;go_quiet (fail)
              go_wp2;go_roundw
              case rel=>exact⟨k+1,by omega,by go_num,E.out.symm.trans HS.out,HK.out.trans (Kept.drewN _ _)⟩
              case measure=>simp[intOf];omega
            · have e2:(m==m9)=false:=by simpa using e2
              have E2:=lH e2;have e2':(m==m9)=false:=e2;clear e2;have E:=lH (show jU (l.drop k) (l'.drop k)=false by rw[HD.out,VO.out,jU,E0.out,E1.out,E2.out];rfl);go_wp2;go_quiet (fail)
              go_wp2;go_ret;exact⟨jd (HS.out.symm.trans E.out).symm,HK.out.trans (Kept.drewN _ _)⟩
          · have e1:eqS y y9=false:=by simpa using e1
            have E1:=lH e1;have e1':(y.toList==y9.toList)=false:=e1;clear e1;have E:=lH (show jU (l.drop k) (l'.drop k)=false by rw[HD.out,VO.out,jU,E0.out,E1.out];rfl);go_wp2;go_quiet (fail)
            go_wp2;go_ret;exact⟨jd (HS.out.symm.trans E.out).symm,HK.out.trans (Kept.drewN _ _)⟩
        · have e0:eqS x x9=false:=by simpa using e0
          have E0:=lH e0;have e0':(x.toList==x9.toList)=false:=e0;clear e0;have E:=lH (show jU (l.drop k) (l'.drop k)=false by rw[HD.out,VO.out,jU,E0.out];rfl);go_wp2;go_quiet (fail)
          go_wp2;go_ret;exact⟨jd (HS.out.symm.trans E.out).symm,HK.out.trans (Kept.drewN _ _)⟩
      · have E:=lH (show jU (l.drop k) (l'.drop k)=true by
         rw[List.drop_of_length_le (by rw[HL.out];omega),List.drop_of_length_le (by rw[HL'.out];omega),jU])
        clear hrest hK;go_wp2;go_ret;exact⟨jd (HS.out.symm.trans E.out).symm,HK.out⟩
 · have HV:=lH (show jU l l'=false from XO (by omega));clear hr hl hr' hl';have hn:((len:Int) != (len':Int))=true:=by
    simp only[bne_iff_ne,ne_eq];omega
   clear hll;go_enter Tryz.func99,Tryz.ntmps99;go_wp2;go_ret;exact⟨jd HV.out.symm,Kept.refl _⟩
theorem jhn {v v':Value} {l l':NL} {c:Bool} {w:World} (h:Reads ju w v l) (h':Reads ju w v' l') (hc:jU l l'=c) :
 Calls Tryz.prog 99 #[v,v'] w (Say (.bool c) w):=by
 subst hc;obtain⟨a,cap,rfl,_,_,hr⟩:=h;obtain⟨a',cap',rfl,_,_,hr'⟩:=h';exact jh4 a a' _ cap _ cap' l l' w hr hr'
theorem jbo (v:Value) (w:World):Calls Tryz.prog 161 #[v,.int .i64 0] w fun e w'=>e=.returned v∧w=w':=by
 go_enter Tryz.func161,Tryz.ntmps161;go_wp2;go_ret;exact⟨rfl,rfl⟩
theorem jap (v:Value) (x:Int) (w:World) (h:x≠0):Calls Tryz.prog 161 #[v,.int .i64 x] w fun e w'=>e=.panicked [zx x]∧w=w':=by
 have h3:(x != 0)=true:=by simpa using h
 clear h;go_enter Tryz.func161,Tryz.ntmps161;go_wp2;exact⟨rfl,rfl,rfl⟩
open Go.RowKit Go.Shelf
attribute [local go_sem] Oper.semAt_some
end Go.Proofs.YtokdjfoalkmhiaaGreat
namespace Go.Proofs.YtokdjfoalkmhiaaGreat
open Go.RowKit Go.Shelf
attribute [local go_sem] Oper.semAt_some
end Go.Proofs.YtokdjfoalkmhiaaGreat
namespace Go.Proofs.YtokdjfoalkmhiaaGreat
open Go.RowKit
theorem jbk {v:Value} {l:PL} {c:Int} {w:World} (h:Reads jz w v l) (hc:J9 l=c) :
 Calls Tryz.prog 199 #[v] w (Say (.int .i64 c) w):=by
 obtain⟨a,cap,rfl,_,_,hr⟩:=h;exact(jbp a _ cap l w hr).mono fun e w' ⟨he,k⟩=>⟨by rw[he,hc],k⟩
theorem jdR {v:Value} {l:TL} {c:Int} {w:World} (h:Reads jP w v l) (hc:Zr l=c) :
 Calls Tryz.prog 203 #[v] w (Say (.int .i64 c) w):=by
 obtain⟨a,cap,rfl,_,_,hr⟩:=h;exact(je2 a _ cap l w hr).mono fun e w' ⟨he,k⟩=>⟨by rw[he,hc],k⟩
theorem jf3 {v:Value} {l:PL} {n x:ByteArray} {b:Bool} {w:World} (h:Reads jz w v l) (hx:XS l n=x) (hb:Yz l n=b) :
 Calls Tryz.prog 258 #[v,.string n] w (Say (.tuple #[.string x,.bool b]) w):=by
 obtain⟨a,cap,rfl,_,_,hr⟩:=h;exact(XD a _ cap l n w hr).mono fun e w' ⟨he,k⟩=>⟨by rw[he,hx,hb],k⟩
theorem jn8 {v v':Value} {l:TL} {s:PL} {b:Bool} {w:World} (h:Reads jP w v l) (h':Reads jz w v' s) (hb:ZS l s=b) :
 Calls Tryz.prog 193 #[v,v'] w (Say (.bool b) w):=by
 obtain⟨a,cap,rfl,_,_,hr⟩:=h;obtain⟨a',cap',rfl,_,_,hr'⟩:=h';exact(jjD a a' _ cap _ cap' l s w hr hr').mono fun e w' ⟨he,k⟩=>⟨by rw[he,hb],k⟩
def Y0 (x:ByteArray×ByteArray):Bool:=decide (x.1.size≤50)&&decide (x.2.size≤50)
def Y4 (x:Int×ByteArray×ByteArray):Bool:=decide (x.2.1.size≤50)&&decide (x.2.2.size≤50)
def YB (l:PL):Bool:=decide (l.length≤20)&&l.all Y0
def YA (l:TL):Bool:=decide (l.length≤20)&&l.all Y4
theorem jdK (a:Option Addr) (len cap:Nat) (l:PL) (w:World) (hr:jk jz w a len l) :
 Calls Tryz.prog 121 #[.slice a len cap] w fun e w'=>e=.returned (.bool (YB l))∧w=w':=by
 have hl:=hr.1;have hm:=hr.2.1;unfold maxLen at hm;by_cases h20:len≤20
 · have HV:=lH (show YB l=l.all Y0 by unfold YB;rw[decide_eq_true (by omega)];rfl);rcases hr.form with h0 | ⟨b,off,rfl⟩
   · subst h0;have HE:=lH (show YB l=true by rw[HV.out,List.eq_nil_of_length_eq_zero hl];rfl);clear hr hl;go_enter Tryz.func121,Tryz.ntmps121;go_wp2;refine wp_loop_rounds 1 ?_;rw[rounds_succ];go_wp2;go_ret;exact⟨jd HE.out.symm,rfl⟩
   · have HR:=lH hr;have HL:=lH hl;clear hr hl;go_enter Tryz.func121,Tryz.ntmps121;go_wp2;go_loop [3] (fun i=>∃k:Nat,k≤len∧i=.int .i64 k∧(l.drop k).all Y0=l.all Y0) (fun i=>len-(intOf i).toNat)
     case atStart=>exact⟨0,Nat.zero_le _,rfl,rfl⟩
     case round =>
      obtain⟨k,hk,rfl,hrest⟩:=hrel;by_cases hlt:k<len
      · obtain⟨x,y,hx,hd,hb,hz,hz2,c1,c2⟩:=HR.out.pair hlt;have HT:=lH (hrest.symm.trans ((congrArg (fun z=>z.all Y0) hd).trans (all_cons _ _ _)));clear hrest hx hd;unfold maxLen at hz hz2;by_cases e:x.size≤50
        · by_cases e2:y.size≤50
          · have E:=lH (show Y0 (x,y)=true by unfold Y0;rw[decide_eq_true e,decide_eq_true e2];rfl);go_wp2;go_round
            case rel=>exact⟨k+1,by omega,by go_num,(HT.out.trans (by rw[E.out];exact Bool.true_and _)).symm⟩
            case measure=>simp[intOf];omega
          · have E:=lH (show Y0 (x,y)=false by unfold Y0;rw[decide_eq_false e2];exact Bool.and_false _);have e2':50<y.size:=by omega
            clear e2;go_wp2;go_ret;exact⟨jd (HV.out.trans (HT.out.trans (by rw[E.out];exact Bool.false_and _))).symm,rfl⟩
        · have E:=lH (show Y0 (x,y)=false by unfold Y0;rw[decide_eq_false e];exact Bool.false_and _);have e':50<x.size:=by omega
          clear e;go_wp2;go_ret;exact⟨jd (HV.out.trans (HT.out.trans (by rw[E.out];exact Bool.false_and _))).symm,rfl⟩
      · have HS:=lH ((HV.out.trans hrest.symm).trans (congrArg (fun z=>z.all Y0) (zB (by rw[HL.out];exact hlt))));clear hrest;go_wp2;go_ret;exact⟨jd (HS.out.trans rfl).symm,rfl⟩
 · have HV:=lH (show YB l=false by unfold YB;rw[decide_eq_false (by omega)];rfl);have h9:20<len:=by omega
   clear h20 hr hl;go_enter Tryz.func121,Tryz.ntmps121;go_wp2;go_ret;exact⟨jd HV.out.symm,rfl⟩
theorem jjd (a:Option Addr) (len cap:Nat) (l:TL) (w:World) (hr:jk jP w a len l) :
 Calls Tryz.prog 119 #[.slice a len cap] w fun e w'=>e=.returned (.bool (YA l))∧w=w':=by
 have hl:=hr.1;have hm:=hr.2.1;unfold maxLen at hm;by_cases h20:len≤20
 · have HV:=lH (show YA l=l.all Y4 by unfold YA;rw[decide_eq_true (by omega)];rfl);rcases hr.form with h0 | ⟨b,off,rfl⟩
   · subst h0;have HE:=lH (show YA l=true by rw[HV.out,List.eq_nil_of_length_eq_zero hl];rfl);clear hr hl;go_enter Tryz.func119,Tryz.ntmps119;go_wp2;refine wp_loop_rounds 1 ?_;rw[rounds_succ];go_wp2;go_ret;exact⟨jd HE.out.symm,rfl⟩
   · have HR:=lH hr;have HL:=lH hl;clear hr hl;go_enter Tryz.func119,Tryz.ntmps119;go_wp2;go_loop [3] (fun i=>∃k:Nat,k≤len∧i=.int .i64 k∧(l.drop k).all Y4=l.all Y4) (fun i=>len-(intOf i).toNat)
     case atStart=>exact⟨0,Nat.zero_le _,rfl,rfl⟩
     case round =>
      obtain⟨k,hk,rfl,hrest⟩:=hrel;by_cases hlt:k<len
      · obtain⟨o,x,y,hx,hd,hb,ho,hz,hz2,c0,c1,c2⟩:=HR.out.term hlt;have HT:=lH (hrest.symm.trans ((congrArg (fun z=>z.all Y4) hd).trans (all_cons _ _ _)));clear hrest hx hd;unfold maxLen at hz hz2;by_cases e:x.size≤50
        · by_cases e2:y.size≤50
          · have E:=lH (show Y4 (o,x,y)=true by unfold Y4;rw[decide_eq_true e,decide_eq_true e2];rfl);go_wp2;go_round
            case rel=>exact⟨k+1,by omega,by go_num,(HT.out.trans (by rw[E.out];exact Bool.true_and _)).symm⟩
            case measure=>simp[intOf];omega
          · have E:=lH (show Y4 (o,x,y)=false by unfold Y4;rw[decide_eq_false e2];exact Bool.and_false _);have e2':50<y.size:=by omega
            clear e2;go_wp2;go_ret;exact⟨jd (HV.out.trans (HT.out.trans (by rw[E.out];exact Bool.false_and _))).symm,rfl⟩
        · have E:=lH (show Y4 (o,x,y)=false by unfold Y4;rw[decide_eq_false e];exact Bool.false_and _);have e':50<x.size:=by omega
          clear e;go_wp2;go_ret;exact⟨jd (HV.out.trans (HT.out.trans (by rw[E.out];exact Bool.false_and _))).symm,rfl⟩
      · have HS:=lH ((HV.out.trans hrest.symm).trans (congrArg (fun z=>z.all Y4) (zB (by rw[HL.out];exact hlt))));clear hrest;go_wp2;go_ret;exact⟨jd (HS.out.trans rfl).symm,rfl⟩
 · have HV:=lH (show YA l=false by unfold YA;rw[decide_eq_false (by omega)];rfl);have h9:20<len:=by omega
   clear h20 hr hl;go_enter Tryz.func119,Tryz.ntmps119;go_wp2;go_ret;exact⟨jd HV.out.symm,rfl⟩
theorem jcS (a:Option Addr) (len cap:Nat) (l:PL) (w:World) (hr:jk jz w a len l) :
 Calls Tryz.prog 179 #[.slice a len cap] w fun e w'=>e=.returned (.int .i64 (J9 l))∧Kept w w':=by
 have hl:=hr.1;have hm:=hr.2.1;unfold maxLen at hm;by_cases h8:len≤8
 · have HV:=lH (show J9 l=zO none l by unfold J9;rw[if_neg (by omega)]);rcases hr.form with h0 | ⟨b,off,rfl⟩
   · subst h0;have HE:=lH (show J9 l=0 by rw[HV.out];rw[List.eq_nil_of_length_eq_zero hl];rfl);clear hr hl;go_enter Tryz.func179,Tryz.ntmps179;go_wp2;refine wp_loop_rounds 1 ?_;rw[rounds_succ];go_wp2;go_ret;exact⟨jb HE.out.symm,Kept.refl _⟩
   · have HR:=lH hr;have HL:=lH hl;clear hr hl;go_enter Tryz.func179,Tryz.ntmps179;go_wp2;go_loopw [3] (fun i wr=>∃k:Nat,k≤len∧i=.int .i64 k∧zO (Yu l k) (l.drop k)=zO none l∧Kept w wr) (fun i _=>len-(intOf i).toNat)
     case atStart=>exact⟨0,Nat.zero_le _,rfl,rfl,Kept.refl _⟩
     case round =>
      obtain⟨k,hk,rfl,hrest,hK⟩:=hrel;by_cases hlt:k<len
      · obtain⟨x,y,hx,hd,hb,hz,hz2,c1,c2⟩:=(HR.out.kept hK).pair hlt;obtain⟨HX,HK,HT⟩:=lH3 hx hK (hrest.symm.trans (congrArg (zO (Yu l k)) hd));have HS:=lH (HV.out.trans HT.out);clear hK hrest hx hd;by_cases n1:isName x=true
        · by_cases n2:isName y=true
          · have N1:=lH n1;have N2:=lH n2;by_cases h0:k=0
            · have hd:decide (0<k)=false:=by subst h0;decide
              have HP:=lH (Yl (l:=l) h0 x);clear h0;go_wp2_with (go_at_call 177;refine(jq _ _ (by assumption)).mono ?_;rintro e w' ⟨rfl,rfl⟩)
              go_quiet (fail)
              go_wp2;go_roundw
              case rel=>exact⟨k+1,by omega,by go_num,by rw[YI HX.out];exact(ZA N1.out N2.out HP.out).symm.trans HT.out.symm,HK.out.trans (Kept.drewN _ _)⟩
              case measure=>simp[intOf];omega
            · have hd:decide (0<k)=true:=by simp;omega
              have g1:0≤(k:Int)-1:=by omega
              have g2:(k:Int)-1<(len:Int):=by omega
              have g3:((k:Int)-1).toNat=k-1:=by omega
              obtain⟨px,py,hpx,_,_,_,_,d1,d2⟩:=(HR.out.kept HK.out).pair (show k-1<len by omega);have HP:=lH (Ym (l:=l) h0 hpx x);clear hpx;by_cases n3:leS x px=true
              · have n3':(Op.bytesLess x.toList px.toList||x.toList==px.toList)=true:=n3;have N3:=lH n3;clear n3;go_wp2_with (go_at_call 177;refine(jq _ _ (by assumption)).mono ?_;rintro e w' ⟨rfl,rfl⟩)
                go_quiet (fail)
                go_wp2;go_ret;exact⟨jb (HS.out.trans (Xp N1.out N2.out (HP.out.trans N3.out))).symm,HK.out.trans (Kept.drewN _ _)⟩
              · have n3:leS x px=false:=by simpa using n3
                have n3':(Op.bytesLess x.toList px.toList||x.toList==px.toList)=false:=n3;have N3:=lH n3;clear n3;go_wp2_with (go_at_call 177;refine(jq _ _ (by assumption)).mono ?_;rintro e w' ⟨rfl,rfl⟩)
                go_quiet (fail)
                go_wp2;go_roundw
                case rel=>exact⟨k+1,by omega,by go_num,by rw[YI HX.out];exact(ZA N1.out N2.out (HP.out.trans N3.out)).symm.trans HT.out.symm,HK.out.trans (Kept.drewN _ _)⟩
                case measure=>simp[intOf];omega
          · have n2:isName y=false:=by simpa using n2
            have N:=lH (show (isName x&&isName y)=false by rw[n2,Bool.and_false]);go_wp2_with (go_at_call 177;refine(jq _ _ (by assumption)).mono ?_;rintro e w' ⟨rfl,rfl⟩)
            go_ret;exact⟨jb (HS.out.trans (YD N.out)).symm,HK.out⟩
        · have n1:isName x=false:=by simpa using n1
          have N:=lH (show (isName x&&isName y)=false by rw[n1,Bool.false_and]);go_wp2_with (go_at_call 177;refine(jq x _ hz).mono ?_;rintro e w' ⟨rfl,rfl⟩)
          go_ret;exact⟨jb (HS.out.trans (YD N.out)).symm,HK.out⟩
      · have HK:=lH hK;have HS:=lH ((HV.out.trans hrest.symm).trans (congrArg (zO (Yu l k)) (zB (by rw[HL.out];exact hlt))));clear hK hrest;go_wp2;go_ret;exact⟨jb (HS.out.trans rfl).symm,HK.out⟩
 · have HV:=lH (show J9 l=4 by unfold J9;rw[if_pos (by omega)]);have h9:8<len:=by omega
   clear h8 hr hl;go_enter Tryz.func179,Tryz.ntmps179;go_wp2;go_ret;exact⟨jb HV.out.symm,Kept.refl _⟩
theorem jcV (a:Option Addr) (len cap:Nat) (l:TL) (w:World) (hr:jk jP w a len l) :
 Calls Tryz.prog 181 #[.slice a len cap] w fun e w'=>e=.returned (.int .i64 (Zr l))∧Kept w w':=by
 have hl:=hr.1;have hm:=hr.2.1;unfold maxLen at hm;by_cases h8:len≤8
 · have HV:=lH (show Zr l=ZL l by unfold Zr;rw[if_neg (by omega)]);rcases hr.form with h0 | ⟨b,off,rfl⟩
   · subst h0;have HE:=lH (show Zr l=0 by rw[HV.out];rw[List.eq_nil_of_length_eq_zero hl];rfl);clear hr hl;go_enter Tryz.func181,Tryz.ntmps181;go_wp2;refine wp_loop_rounds 1 ?_;rw[rounds_succ];go_wp2;go_ret;exact⟨jb HE.out.symm,Kept.refl _⟩
   · have HR:=lH hr;have HL:=lH hl;clear hr hl;go_enter Tryz.func181,Tryz.ntmps181;go_wp2;go_loopw [3] (fun i wr=>∃k:Nat,k≤len∧i=.int .i64 k∧ZL (l.drop k)=ZL l∧Kept w wr) (fun i _=>len-(intOf i).toNat)
     case atStart=>exact⟨0,Nat.zero_le _,rfl,rfl,Kept.refl _⟩
     case round =>
      obtain⟨k,hk,rfl,hrest,hK⟩:=hrel;by_cases hlt:k<len
      · obtain⟨o,x,y,hx,hd,hb,ho,hz,hz2,c1,c2,c3⟩:=(HR.out.kept hK).term hlt;have HK:=lH hK;have HT:=lH (hrest.symm.trans ((congrArg ZL hd).trans (jcO _ _)));have HS:=lH (HV.out.trans HT.out);clear hK hrest hx hd;by_cases g1:o<1
        · have N:=lH (show JH (o,x,y)=1 by rw[JS,if_neg (by omega),if_neg (by omega)]);go_wp2_with (go_at_call 177;refine(jq _ _ (by assumption)).mono ?_;rintro e w' ⟨rfl,rfl⟩)
          go_ret;exact⟨jb (HS.out.trans ((if_pos (by rw[N.out];decide)).trans N.out)).symm,HK.out.trans (ja _ _)⟩
        · by_cases g4:4<o
          · have g1':¬o<1:=g1;have N:=lH (show JH (o,x,y)=1 by rw[JS,if_neg (by omega),if_neg (by omega)]);go_wp2_with (go_at_call 177;refine(jq _ _ (by assumption)).mono ?_;rintro e w' ⟨rfl,rfl⟩)
            go_ret;exact⟨jb (HS.out.trans ((if_pos (by rw[N.out];decide)).trans N.out)).symm,HK.out.trans (ja _ _)⟩
          · have hcase:(o=1∨o=2)∨(o=3∨o=4):=by omega
            clear g1 g4;rcases hcase with hcase | hcase
            · have hc:=hcase;by_cases n1:isName x=true
              · by_cases n2:isName y=true
                · have NN:=lH (show JH (o,x,y)=0 by rw[JS,if_pos hc,if_pos (by rw[n1,n2];rfl)]);clear hc;rcases hcase with rfl | rfl
                  · have N:=lH (NN.out);go_wp2_with (go_at_call 177;refine(jq _ _ (by assumption)).mono ?_;rintro e w' ⟨rfl,rfl⟩)
                    go_roundw
                    case rel=>exact⟨k+1,by omega,by go_num,(HT.out.trans (if_neg (by rw[N.out];decide))).symm,HK.out.trans (ja _ _)⟩
                    case measure=>simp[intOf];omega
                  · have N:=lH (NN.out);go_wp2_with (go_at_call 177;refine(jq _ _ (by assumption)).mono ?_;rintro e w' ⟨rfl,rfl⟩)
                    go_roundw
                    case rel=>exact⟨k+1,by omega,by go_num,(HT.out.trans (if_neg (by rw[N.out];decide))).symm,HK.out.trans (ja _ _)⟩
                    case measure=>simp[intOf];omega
                · have n2:isName y=false:=by simpa using n2
                  have NN:=lH (show JH (o,x,y)=3 by rw[JS,if_pos hc,if_neg (by rw[n2,Bool.and_false];decide)]);clear hc;rcases hcase with rfl | rfl
                  · have N:=lH (NN.out);go_wp2_with (go_at_call 177;refine(jq _ _ (by assumption)).mono ?_;rintro e w' ⟨rfl,rfl⟩)
                    go_ret;exact⟨jb (HS.out.trans ((if_pos (by rw[N.out];decide)).trans N.out)).symm,HK.out.trans (ja _ _)⟩
                  · have N:=lH (NN.out);go_wp2_with (go_at_call 177;refine(jq _ _ (by assumption)).mono ?_;rintro e w' ⟨rfl,rfl⟩)
                    go_ret;exact⟨jb (HS.out.trans ((if_pos (by rw[N.out];decide)).trans N.out)).symm,HK.out.trans (ja _ _)⟩
              · have n1:isName x=false:=by simpa using n1
                have NN:=lH (show JH (o,x,y)=3 by rw[JS,if_pos hc,if_neg (by rw[n1,Bool.false_and];decide)]);clear hc;rcases hcase with rfl | rfl
                · have N:=lH (NN.out);go_wp2_with (go_at_call 177;refine(jq _ _ (by assumption)).mono ?_;rintro e w' ⟨rfl,rfl⟩)
                  go_ret;exact⟨jb (HS.out.trans ((if_pos (by rw[N.out];decide)).trans N.out)).symm,HK.out.trans (ja _ _)⟩
                · have N:=lH (NN.out);go_wp2_with (go_at_call 177;refine(jq _ _ (by assumption)).mono ?_;rintro e w' ⟨rfl,rfl⟩)
                  go_ret;exact⟨jb (HS.out.trans ((if_pos (by rw[N.out];decide)).trans N.out)).symm,HK.out.trans (ja _ _)⟩
            · have hc:=hcase;have hn:¬(o=1∨o=2):=by omega
              by_cases n1:isName x=true
              · by_cases n2:eqS y ByteArray.empty=true
                · have NN:=lH (show JH (o,x,y)=0 by rw[JS,if_neg hn,if_pos hc,if_pos (by rw[n1,n2];rfl)]);have n2':(y.toList==([]:List UInt8))=true:=by unfold eqS at n2;simpa using n2
                  clear hc hn n2;rcases hcase with rfl | rfl
                  · have N:=lH (NN.out);go_wp2_with (go_at_call 177;refine(jq _ _ (by assumption)).mono ?_;rintro e w' ⟨rfl,rfl⟩)
                    go_roundw
                    case rel=>exact⟨k+1,by omega,by go_num,(HT.out.trans (if_neg (by rw[N.out];decide))).symm,HK.out.trans (ja _ _)⟩
                    case measure=>simp[intOf];omega
                  · have N:=lH (NN.out);go_wp2_with (go_at_call 177;refine(jq _ _ (by assumption)).mono ?_;rintro e w' ⟨rfl,rfl⟩)
                    go_roundw
                    case rel=>exact⟨k+1,by omega,by go_num,(HT.out.trans (if_neg (by rw[N.out];decide))).symm,HK.out.trans (ja _ _)⟩
                    case measure=>simp[intOf];omega
                · have n2:eqS y ByteArray.empty=false:=by simpa using n2
                  have NN:=lH (show JH (o,x,y)=3 by rw[JS,if_neg hn,if_pos hc,if_neg (by rw[n2,Bool.and_false];decide)]);have n2':(y.toList==([]:List UInt8))=false:=by unfold eqS at n2;simpa using n2
                  clear hc hn n2;rcases hcase with rfl | rfl
                  · have N:=lH (NN.out);go_wp2_with (go_at_call 177;refine(jq _ _ (by assumption)).mono ?_;rintro e w' ⟨rfl,rfl⟩)
                    go_ret;exact⟨jb (HS.out.trans ((if_pos (by rw[N.out];decide)).trans N.out)).symm,HK.out.trans (ja _ _)⟩
                  · have N:=lH (NN.out);go_wp2_with (go_at_call 177;refine(jq _ _ (by assumption)).mono ?_;rintro e w' ⟨rfl,rfl⟩)
                    go_ret;exact⟨jb (HS.out.trans ((if_pos (by rw[N.out];decide)).trans N.out)).symm,HK.out.trans (ja _ _)⟩
              · have n1:isName x=false:=by simpa using n1
                have NN:=lH (show JH (o,x,y)=3 by rw[JS,if_neg hn,if_pos hc,if_neg (by rw[n1,Bool.false_and];decide)]);clear hc hn;rcases hcase with rfl | rfl
                · have N:=lH (NN.out);go_wp2_with (go_at_call 177;refine(jq _ _ (by assumption)).mono ?_;rintro e w' ⟨rfl,rfl⟩)
                  go_ret;exact⟨jb (HS.out.trans ((if_pos (by rw[N.out];decide)).trans N.out)).symm,HK.out.trans (ja _ _)⟩
                · have N:=lH (NN.out);go_wp2_with (go_at_call 177;refine(jq _ _ (by assumption)).mono ?_;rintro e w' ⟨rfl,rfl⟩)
                  go_ret;exact⟨jb (HS.out.trans ((if_pos (by rw[N.out];decide)).trans N.out)).symm,HK.out.trans (ja _ _)⟩
      · have HK:=lH hK;have HS:=lH ((HV.out.trans hrest.symm).trans (congrArg ZL (zB (by rw[HL.out];exact hlt))));clear hK hrest;go_wp2;go_ret;exact⟨jb (HS.out.trans rfl).symm,HK.out⟩
 · have HV:=lH (show Zr l=4 by unfold Zr;rw[if_pos (by omega)]);have h9:8<len:=by omega
   clear h8 hr hl;go_enter Tryz.func181,Tryz.ntmps181;go_wp2;go_ret;exact⟨jb HV.out.symm,Kept.refl _⟩
theorem jl2:(Tryz.prog.info? 286).map (fun i=>(i.zero,i.size,i.bytes))=some (some (.agg #[.string ByteArray.empty,.string ByteArray.empty]),2,32):=by kernel_rfl
theorem jfA (a:Option Addr) (len cap:Nat) (l:PL) (w:World) (hr:jk jz w a len l) (hlen:len≤1000000) :
 Calls Tryz.prog 188 #[.slice a len cap] w (fun e w'=>∃x,e=.returned x∧Own jz 286 w' w.heap.size x l∧Kept w w'):=by
 have hl:=hr.1;obtain⟨i0,hi,hz0,hz1,hz2'⟩:=info_parts jl2;rcases hr.form with h0 | ⟨b,off,rfl⟩
 · subst h0;have hl0:l=[]:=List.eq_nil_of_length_eq_zero hl;subst hl0;clear hr hl hi hz0 hz1 hz2';go_enter Tryz.func188,Tryz.ntmps188;go_wp2;refine wp_loop_rounds 1 ?_;rw[rounds_succ];go_wp2;go_ret;exact⟨_,rfl,Own.nil _ _ _,Kept.refl _⟩
 · have HR:=lH hr;have HL:=lH hl;clear hr hl;go_enter Tryz.func188,Tryz.ntmps188;go_wp2;go_loopw [3,4] (fun v i wr=>∃k:Nat,k≤len∧i=.int .i64 k∧Own jz 286 wr w.heap.size v (l.take k)∧Below w.heap.size w wr) (fun _ i _=>len-(intOf i).toNat)
   case atStart=>exact⟨0,Nat.zero_le _,rfl,Own.nil _ _ _,Below.refl _ _⟩
   case round =>
    obtain⟨k,hk,rfl,ho,hB⟩:=hrel;obtain⟨HO,HB,HT⟩:=lH3 ho hB (show (l.take k).length=k by rw[List.length_take,HL.out];omega);have Vj:=lH (show wr.ownsRow w.heap.size 286 2 u3 k (je jz (l.take k)) by have:=HO.out.1;rw[HT.out] at this;exact this);by_cases hlt:k<len
    · obtain⟨x,y,hx,hd,hb,hz,hz2,c1,c2⟩:=(HR.out.kept hB).pair hlt;have HX:=lH hx;have hbw:b<w.heap.size:=by obtain⟨z,_,_,h,_⟩:=HR.out.cells hlt;exact h
      have hbase:w.heap.size≤wr.heap.size:=hB.size;have V0:=lH (show u3.ownBlock≠some b by
       intro e;have:=(Vj.out.lt b e).1;omega)
      have VL:=lH (show w.heap.size≤(wr.alloc (.cells #[.string x,.string y] 286)).drew.heap.size by simp;omega);have UK:=lH (show Below w.heap.size w ((wr.alloc (.cells #[.string x,.string y] 286)).drew) from HB.out.trans (Below.mono ((ja wr _).trans (Kept.drewN _ 1)) hbase));have hk1:(k:Int)<(len:Int):=by omega
      have Ur:=lH (show jz.fine (x,y) from⟨hz,hz2⟩);clear ho hB hx hd hz hz2;go_wp2_with fail
      go_region_held3 (fun W=>W.cell? ⟨b,off+k*2,none⟩=some (.string x)∧W.cell? ⟨b,off+k*2+1,none⟩=some (.string y))
       (first
         | go_keep
         | (go_split_ands
            refine⟨?_,?_⟩
            · (refine(hgrow.cell_far ⟨b,off+k*2,none⟩ (by simp;omega) (Ne.symm V0.out)).trans ?_;assumption)
            · (refine(hgrow.cell_far ⟨b,off+k*2+1,none⟩ (by simp;omega) (Ne.symm V0.out)).trans ?_;assumption)))
       ((refine step_append_lies _ (by rfl) _ _ _ (by rfl) w.heap.size 286 i0 _ 2 32 Tryz.underlying114 hi hz0 hz1 hz2' rfl (by decide) u3 k (je jz (l.take k)) (by rfl) ((Vj.out.alloc _).drew)
          ⟨wr.heap.size,0,none⟩ 1 1 [.string x,.string y] (by rfl) (by rfl) (World.news_of_block (cs:=#[.string x,.string y]) (t:=286) (fr:=(0,0)) (heap_alloc_new wr _)) (jfb x y)
          (by decide) (by unfold maxLen;omega) (by omega) (by simp;omega) (wr.heap.size+1) (by simp) ?_;intro gg cap1 w1 hown1 hgrow hat hlt1))
      all_goals
       go_wp2;go_roundw
       case rel=>exact⟨k+1,by omega,by go_num,by rw[zI HX.out];exact Own.snoc hown1 (by rw[HT.out]) HO.out.2 Ur.out,UK.out.grown hgrow VL.out (fun j hj=>(Vj.out.lt j hj).1)⟩
       case measure=>simp[intOf];omega
    · have HK:=lH (show l.take k=l by rw[List.take_of_length_le (by rw[HL.out];omega)]);clear ho hB;go_wp2;go_ret;exact⟨_,rfl,by have h:=HO.out;rw[HK.out] at h;exact h,HB.out⟩
theorem jl5:(Tryz.prog.info? 288).map (fun i=>(i.zero,i.size,i.bytes))=some (some (.agg #[.int .i64 0,.string ByteArray.empty,.string ByteArray.empty]),3,40):=by kernel_rfl
theorem jkU (a:Option Addr) (len cap:Nat) (l:TL) (w:World) (hr:jk jP w a len l) (hlen:len≤1000000) :
 Calls Tryz.prog 190 #[.slice a len cap] w (fun e w'=>∃x,e=.returned x∧Own jP 288 w' w.heap.size x l∧Kept w w'):=by
 have hl:=hr.1;obtain⟨i0,hi,hz0,hz1,hz2'⟩:=info_parts jl5;rcases hr.form with h0 | ⟨b,off,rfl⟩
 · subst h0;have hl0:l=[]:=List.eq_nil_of_length_eq_zero hl;subst hl0;clear hr hl hi hz0 hz1 hz2';go_enter Tryz.func190,Tryz.ntmps190;go_wp2;refine wp_loop_rounds 1 ?_;rw[rounds_succ];go_wp2;go_ret;exact⟨_,rfl,Own.nil _ _ _,Kept.refl _⟩
 · have HR:=lH hr;have HL:=lH hl;clear hr hl;go_enter Tryz.func190,Tryz.ntmps190;go_wp2;go_loopw [3,4] (fun v i wr=>∃k:Nat,k≤len∧i=.int .i64 k∧Own jP 288 wr w.heap.size v (l.take k)∧Below w.heap.size w wr) (fun _ i _=>len-(intOf i).toNat)
   case atStart=>exact⟨0,Nat.zero_le _,rfl,Own.nil _ _ _,Below.refl _ _⟩
   case round =>
    obtain⟨k,hk,rfl,ho,hB⟩:=hrel;obtain⟨HO,HB,HT⟩:=lH3 ho hB (show (l.take k).length=k by rw[List.length_take,HL.out];omega);have Vj:=lH (show wr.ownsRow w.heap.size 288 3 u3 k (je jP (l.take k)) by have:=HO.out.1;rw[HT.out] at this;exact this);by_cases hlt:k<len
    · obtain⟨o,x,y,hx,hd,hb,ho9,hz,hz2,c0,c1,c2⟩:=(HR.out.kept hB).term hlt;have HX:=lH hx;have hbw:b<w.heap.size:=by obtain⟨z,_,_,h,_⟩:=HR.out.cells hlt;exact h
      have hbase:w.heap.size≤wr.heap.size:=hB.size;have V0:=lH (show u3.ownBlock≠some b by
       intro e;have:=(Vj.out.lt b e).1;omega)
      have VL:=lH (show w.heap.size≤(wr.alloc (.cells #[.int .i64 o,.string x,.string y] 288)).drew.heap.size by simp;omega);have UK:=lH (show Below w.heap.size w ((wr.alloc (.cells #[.int .i64 o,.string x,.string y] 288)).drew) from HB.out.trans (Below.mono ((ja wr _).trans (Kept.drewN _ 1)) hbase));have hk1:(k:Int)<(len:Int):=by omega
      have Ur:=lH (show jP.fine (o,x,y) from⟨ho9,hz,hz2⟩);clear ho hB hx hd hz hz2;go_wp2_with fail
      go_region_held3 (fun W=>W.cell? ⟨b,off+k*3,none⟩=some (.int .i64 o)∧W.cell? ⟨b,off+k*3+1,none⟩=some (.string x)∧W.cell? ⟨b,off+k*3+2,none⟩=some (.string y))
       (first
         | go_keep
         | (go_split_ands
            refine⟨?_,?_,?_⟩
            · (refine(hgrow.cell_far ⟨b,off+k*3,none⟩ (by simp;omega) (Ne.symm V0.out)).trans ?_;assumption)
            · (refine(hgrow.cell_far ⟨b,off+k*3+1,none⟩ (by simp;omega) (Ne.symm V0.out)).trans ?_;assumption)
            · (refine(hgrow.cell_far ⟨b,off+k*3+2,none⟩ (by simp;omega) (Ne.symm V0.out)).trans ?_;assumption)))
       ((refine step_append_lies _ (by rfl) _ _ _ (by rfl) w.heap.size 288 i0 _ 3 40 Tryz.underlying115 hi hz0 hz1 hz2' rfl (by decide) u3 k (je jP (l.take k)) (by rfl) ((Vj.out.alloc _).drew)
          ⟨wr.heap.size,0,none⟩ 1 1 [.int .i64 o,.string x,.string y] (by rfl) (by rfl) (World.news_of_block (cs:=#[.int .i64 o,.string x,.string y]) (t:=288) (fr:=(0,0)) (heap_alloc_new wr _)) (jhm o x y)
          (by decide) (by unfold maxLen;omega) (by omega) (by simp;omega) (wr.heap.size+1) (by simp) ?_;intro gg cap1 w1 hown1 hgrow hat hlt1))
      all_goals
       go_wp2;go_roundw
       case rel=>exact⟨k+1,by omega,by go_num,by rw[zI HX.out];exact Own.snoc hown1 (by rw[HT.out]) HO.out.2 Ur.out,UK.out.grown hgrow VL.out (fun j hj=>(Vj.out.lt j hj).1)⟩
       case measure=>simp[intOf];omega
    · have HK:=lH (show l.take k=l by rw[List.take_of_length_le (by rw[HL.out];omega)]);clear ho hB;go_wp2;go_ret;exact⟨_,rfl,by have h:=HO.out;rw[HK.out] at h;exact h,HB.out⟩
theorem jfj {v:Value} {l:PL} {w:World} (h:Reads jz w v l):Calls Tryz.prog 121 #[v] w fun e w'=>e=.returned (.bool (YB l))∧w=w':=by
 obtain⟨a,cap,rfl,_,_,hr⟩:=h;exact jdK a _ cap l w hr
theorem jdI {v:Value} {l:TL} {w:World} (h:Reads jP w v l):Calls Tryz.prog 119 #[v] w fun e w'=>e=.returned (.bool (YA l))∧w=w':=by
 obtain⟨a,cap,rfl,_,_,hr⟩:=h;exact jjd a _ cap l w hr
theorem Zv {v:Value} {l:PL} {c:Int} {w:World} (h:Reads jz w v l) (hc:J9 l=c):Calls Tryz.prog 179 #[v] w (Say (.int .i64 c) w):=by
 obtain⟨a,cap,rfl,_,_,hr⟩:=h;exact(jcS a _ cap l w hr).mono fun e w' ⟨he,k⟩=>⟨by rw[he,hc],k⟩
theorem ja7 {v:Value} {l:TL} {c:Int} {w:World} (h:Reads jP w v l) (hc:Zr l=c):Calls Tryz.prog 181 #[v] w (Say (.int .i64 c) w):=by
 obtain⟨a,cap,rfl,_,_,hr⟩:=h;exact(jcV a _ cap l w hr).mono fun e w' ⟨he,k⟩=>⟨by rw[he,hc],k⟩
open Go.RowKit Go.Sort
def Grw (w w':World):Prop:=∃q os,w'=grow (w.drewN q) os
theorem Grw.refl (w:World):Grw w w:=⟨0,#[],by rw[grow_empty];rfl⟩
theorem Grw.grown {w W:World} (h:Grw w W) (n:Nat) (os:Array Obj):Grw w (grow (W.drewN n) os):=by
 obtain⟨q,os0,rfl⟩:=h;exact⟨q+n,os0++os,by show grow (grow ((w.drewN q).drewN n) os0) os=_;rw[grow_grow,World.drewN_drewN]⟩
theorem Grw.trans {a b c:World} (h:Grw a b) (k:Grw b c):Grw a c:=by
 obtain⟨q,os,rfl⟩:=k;exact h.grown q os
theorem Grw.alloc (w:World) (o:Obj):Grw w (w.alloc o):=⟨0,#[o],alloc_eq_grow _ _⟩
theorem Grw.drewN (w:World) (n:Nat):Grw w (w.drewN n):=⟨n,#[],by rw[grow_empty]⟩
theorem ZX (w:World) (n:Nat) (os:Array Obj):Kept w (grow (w.drewN n) os):=Go.Lib.below_grow w.heap.size w (Nat.le_refl _) n os
theorem Grw.kept {w w':World} (h:Grw w w'):Kept w w':=by
 obtain⟨q,os,rfl⟩:=h;exact ZX w q os
def Zo (w:World) (c:Nat) (t:NT):Prop:=w.cell? ⟨c,0,none⟩=some (.string t.1)∧w.cell? ⟨c,1,none⟩=some (.string t.2.1)∧w.cell? ⟨c,2,none⟩=some (.bool t.2.2)
theorem Zo.kept {w w':World} {c:Nat} {t:NT} (h:Zo w c t) (k:Kept w w'):Zo w' c t:=⟨cell_later k h.1,cell_later k h.2.1,cell_later k h.2.2⟩
theorem Zo.new (w:World) (x y:ByteArray) (m:Bool) (T:TypeId):Zo (w.alloc (.cells #[.string x,.string y,.bool m] T)) w.heap.size (x,y,m):=by
 have hh:=w.alloc_heap_new (.cells #[.string x,.string y,.bool m] T);exact⟨by rw[Lib.cell_of_heap hh];rfl,by rw[Lib.cell_of_heap hh];rfl,by rw[Lib.cell_of_heap hh];rfl⟩
theorem jgk (c:Nat) (t:NT) (x y:ByteArray) (m:Bool) (w:World) (h:Zo w c t) :
 Calls Tryz.prog 268 #[NV x y m,.pointer (some ⟨c,0,none⟩)] w fun e w'=>e=.returned (.bool (Jc t (x,y,m)))∧Grw w w':=by
 obtain⟨t1,t2,t3⟩:=t;obtain⟨h1,h2,h3⟩:=h;dsimp only at h1 h2 h3;have g1:=cell_later (ja w (.cells #[.string x,.string y,.bool m] 159)) h1;have g2:=cell_later (ja w (.cells #[.string x,.string y,.bool m] 159)) h2;have g3:=cell_later (ja w (.cells #[.string x,.string y,.bool m] 159)) h3;obtain⟨q1,hq1⟩:=eX ((x.toList==t1.toList))
 obtain⟨q2,hq2⟩:=eX ((y.toList==t2.toList))
 have HV:=lH (show Jc (t1,t2,t3) (x,y,m)=(q1&&q2) by unfold Jc eqS;rw[hq1,hq2])
 cases q1<;>cases q2 <;>
 (go_enter Tryz.func268,Tryz.ntmps268
  go_wp2;go_ret;exact⟨jd HV.out.symm,Grw.alloc _ _⟩)
theorem jlj (t1 t2:ByteArray) (t3:Bool) (x y:ByteArray) (m:Bool) (w:World) :
 Calls Tryz.prog 222 #[NV x y m,NV t1 t2 t3] w fun e w'=>e=.returned (.bool (Zp (t1,t2,t3) (x,y,m)))∧Grw w w':=by
 obtain⟨q0,hq0⟩:=eX ((x.toList==([]:List UInt8)))
 obtain⟨q1,hq1⟩:=eX ((x.toList==t1.toList))
 obtain⟨q2,hq2⟩:=eX ((y.toList==t2.toList))
 have HV:=lH (show Zp (t1,t2,t3) (x,y,m)=((q0||q1)&&(m||q2)) by unfold Zp;rw[JV,hq0];unfold eqS;rw[hq1,hq2])
 cases q0<;>cases q1<;>cases m<;>cases q2 <;>
 (go_enter Tryz.func222,Tryz.ntmps222
  go_wp2;go_ret;exact⟨jd HV.out.symm,(Grw.alloc _ _).trans (Grw.alloc _ _)⟩)
theorem jcF (c:Nat) (t:NT) (x y:ByteArray) (m:Bool) (w:World) (h:Zo w c t) :
 Calls Tryz.prog 221 #[NV x y m,.pointer (some ⟨c,0,none⟩)] w fun e w'=>e=.returned (.bool (Zp t (x,y,m)))∧Grw w w':=by
 obtain⟨t1,t2,t3⟩:=t;obtain⟨h1,h2,h3⟩:=h;dsimp only at h1 h2 h3;have g1:=cell_later (ja w (.cells #[.string x,.string y,.bool m] 165)) h1;have g2:=cell_later (ja w (.cells #[.string x,.string y,.bool m] 165)) h2;have g3:=cell_later (ja w (.cells #[.string x,.string y,.bool m] 165)) h3;go_enter Tryz.func221,Tryz.ntmps221;go_wp2_with (go_at_call 222;refine(jlj t1 t2 t3 x y m _).mono ?_;rintro e w1 ⟨rfl,k1⟩;have K1:=lH k1;clear k1)
 go_ret;exact⟨rfl,(Grw.alloc _ _).trans K1.out⟩
theorem jit (a:Option Addr) (len cap:Nat) (l:NL) (c:Nat) (t:NT) (w:World) (hr:jk ju w a len l) (ht:Zo w c t) :
 Calls Tryz.prog 279 #[.slice a len cap,.func (.func 268) #[] #[.pointer (some ⟨c,0,none⟩)]] w fun e w'=>∃i:Int,e=.returned (.int .i64 i)∧decide (0≤i)=l.any (Jc t)∧Grw w w':=by
 have hl:=hr.1;have hm:=hr.2.1;unfold maxLen at hm;rcases hr.form with h0 | ⟨b,off,rfl⟩
 · subst h0;have HE:=lH (show l.any (Jc t)=false by rw[List.eq_nil_of_length_eq_zero hl];rfl);clear hr hl ht;go_enter Tryz.func279,Tryz.ntmps279;go_wp2;refine wp_loop_rounds 1 ?_;rw[rounds_succ];go_wp2;go_ret;exact⟨-1,rfl,HE.out.symm,Grw.refl _⟩
 · obtain⟨HR,HL,HT⟩:=lH3 hr hl ht;clear hr hl ht;go_enter Tryz.func279,Tryz.ntmps279;go_wp2;go_loopw [8] (fun i wr=>∃k:Nat,k≤len∧i=.int .i64 k∧(l.drop k).any (Jc t)=l.any (Jc t)∧Grw w wr) (fun i _=>len-(intOf i).toNat)
   case atStart=>exact⟨0,Nat.zero_le _,rfl,rfl,Grw.refl _⟩
   case round =>
    obtain⟨k,hk,rfl,hrest,hG⟩:=hrel;have hK:=hG.kept;have HG:=lH hG;by_cases hlt:k<len
    · obtain⟨x,y,m,hx,hd,hb,hz,hz2,c1,c2,c3⟩:=(HR.out.kept hK).tri hlt;have HK:=lH hK;have HS:=lH (hrest.symm.trans ((congrArg (fun z=>z.any (Jc t)) hd).trans (List.any_cons)));obtain⟨q,hq⟩:=eX (Jc t (x,y,m))
      rw[hq] at HS;have HQ:=lH hq;have HC:=lH (HT.out.kept hK);clear hK hrest hx hd hG hq
      cases q with
      | true =>
       go_wp2_with (go_at_call 268;refine(jgk c t x y m _ HC.out).mono ?_;rw[HQ.out];rintro e w1 ⟨rfl,k1⟩;have K1:=lH k1;clear k1)
       go_ret;exact⟨(k:Int),rfl,by rw[HS.out];simp,HG.out.trans K1.out⟩
      | false =>
       go_wp2_with (go_at_call 268;refine(jgk c t x y m _ HC.out).mono ?_;rw[HQ.out];rintro e w1 ⟨rfl,k1⟩;have K1:=lH k1;clear k1)
       go_roundw
       case rel=>exact⟨k+1,by omega,by go_num,(HS.out.trans (Bool.false_or _)).symm,HG.out.trans K1.out⟩
       case measure=>simp[intOf];omega
    · have HS:=lH (hrest.symm.trans (congrArg (fun z=>z.any (Jc t)) (zB (by rw[HL.out];exact hlt))));clear hK hrest hG;go_wp2;go_ret;exact⟨-1,rfl,by rw[HS.out];rfl,HG.out⟩
theorem jew (a:Option Addr) (len cap:Nat) (l:NL) (c:Nat) (t:NT) (w:World) (hr:jk ju w a len l) (ht:Zo w c t) :
 Calls Tryz.prog 267 #[.slice a len cap,.func (.func 268) #[] #[.pointer (some ⟨c,0,none⟩)]] w fun e w'=>e=.returned (.bool (l.any (Jc t)))∧Grw w w':=by
 have HI:=lH (jit a len cap l c t w hr ht);clear hr ht;go_enter Tryz.func267,Tryz.ntmps267;go_wp2_with fail
 refine HI.out.mono ?_;rintro e w1 ⟨i,rfl,hi,k1⟩;have K1:=lH k1;have HB:=lH hi;clear hi k1;go_wp2;go_ret;exact⟨jd HB.out,K1.out⟩
theorem jjT (a:Option Addr) (len cap:Nat) (l:NL) (t1 t2:ByteArray) (t3:Bool) (w:World) (hr:jk ju w a len l) :
 Calls Tryz.prog 234 #[.slice a len cap,NV t1 t2 t3] w fun e w'=>e=.returned (.bool (l.any (Jc (t1,t2,t3))))∧Grw w w':=by
 have hmf:=hmfL (P:=Tryz.prog);have HI:=lH (jew a len cap l w.heap.size (t1,t2,t3) (w.alloc (.cells #[.string t1,.string t2,.bool t3] 159)) (hr.kept (ja _ _)) (Zo.new w t1 t2 t3 _));clear hr;go_enter Tryz.func234,Tryz.ntmps234;go_wp2_with fail
 refine HI.out.mono ?_;rintro e w1 ⟨rfl,k1⟩;have K1:=lH k1;clear k1;go_wp2;go_ret;exact⟨rfl,(Grw.alloc _ _).trans K1.out⟩
theorem jiG (a:Option Addr) (len cap:Nat) (l:NL) (c:Nat) (t:NT) (w:World) (hr:jk ju w a len l) (ht:Zo w c t) :
 Calls Tryz.prog 256 #[.slice a len cap,.func (.func 221) #[] #[.pointer (some ⟨c,0,none⟩)]] w fun e w'=>∃i:Int,e=.returned (.int .i64 i)∧decide (0≤i)=l.any (Zp t)∧Grw w w':=by
 have hl:=hr.1;have hm:=hr.2.1;unfold maxLen at hm;rcases hr.form with h0 | ⟨b,off,rfl⟩
 · subst h0;have HE:=lH (show l.any (Zp t)=false by rw[List.eq_nil_of_length_eq_zero hl];rfl);clear hr hl ht;go_enter Tryz.func256,Tryz.ntmps256;go_wp2;refine wp_loop_rounds 1 ?_;rw[rounds_succ];go_wp2;go_ret;exact⟨-1,rfl,HE.out.symm,Grw.refl _⟩
 · obtain⟨HR,HL,HT⟩:=lH3 hr hl ht;clear hr hl ht;go_enter Tryz.func256,Tryz.ntmps256;go_wp2;go_loopw [8] (fun i wr=>∃k:Nat,k≤len∧i=.int .i64 k∧(l.drop k).any (Zp t)=l.any (Zp t)∧Grw w wr) (fun i _=>len-(intOf i).toNat)
   case atStart=>exact⟨0,Nat.zero_le _,rfl,rfl,Grw.refl _⟩
   case round =>
    obtain⟨k,hk,rfl,hrest,hG⟩:=hrel;have hK:=hG.kept;have HG:=lH hG;by_cases hlt:k<len
    · obtain⟨x,y,m,hx,hd,hb,hz,hz2,c1,c2,c3⟩:=(HR.out.kept hK).tri hlt;have HK:=lH hK;have HS:=lH (hrest.symm.trans ((congrArg (fun z=>z.any (Zp t)) hd).trans (List.any_cons)));obtain⟨q,hq⟩:=eX (Zp t (x,y,m))
      rw[hq] at HS;have HQ:=lH hq;have HC:=lH (HT.out.kept hK);clear hK hrest hx hd hG hq
      cases q with
      | true =>
       go_wp2_with (go_at_call 221;refine(jcF c t x y m _ HC.out).mono ?_;rw[HQ.out];rintro e w1 ⟨rfl,k1⟩;have K1:=lH k1;clear k1)
       go_ret;exact⟨(k:Int),rfl,by rw[HS.out];simp,HG.out.trans K1.out⟩
      | false =>
       go_wp2_with (go_at_call 221;refine(jcF c t x y m _ HC.out).mono ?_;rw[HQ.out];rintro e w1 ⟨rfl,k1⟩;have K1:=lH k1;clear k1)
       go_roundw
       case rel=>exact⟨k+1,by omega,by go_num,(HS.out.trans (Bool.false_or _)).symm,HG.out.trans K1.out⟩
       case measure=>simp[intOf];omega
    · have HS:=lH (hrest.symm.trans (congrArg (fun z=>z.any (Zp t)) (zB (by rw[HL.out];exact hlt))));clear hK hrest hG;go_wp2;go_ret;exact⟨-1,rfl,by rw[HS.out];rfl,HG.out⟩
theorem jeU (a:Option Addr) (len cap:Nat) (l:NL) (c:Nat) (t:NT) (w:World) (hr:jk ju w a len l) (ht:Zo w c t) :
 Calls Tryz.prog 220 #[.slice a len cap,.func (.func 221) #[] #[.pointer (some ⟨c,0,none⟩)]] w fun e w'=>e=.returned (.bool (l.any (Zp t)))∧Grw w w':=by
 have HI:=lH (jiG a len cap l c t w hr ht);clear hr ht;go_enter Tryz.func220,Tryz.ntmps220;go_wp2_with fail
 refine HI.out.mono ?_;rintro e w1 ⟨i,rfl,hi,k1⟩;have K1:=lH k1;have HB:=lH hi;clear hi k1;go_wp2;go_ret;exact⟨jd HB.out,K1.out⟩
theorem bears_any (a:Option Addr) (len cap:Nat) (l:NL) (t1 t2:ByteArray) (t3:Bool) (w:World) (hr:jk ju w a len l) :
 Calls Tryz.prog 172 #[.slice a len cap,NV t1 t2 t3] w fun e w'=>e=.returned (.bool (l.any (Zp (t1,t2,t3))))∧Grw w w':=by
 have hmf:=hmfL (P:=Tryz.prog);have HI:=lH (jeU a len cap l w.heap.size (t1,t2,t3) (w.alloc (.cells #[.string t1,.string t2,.bool t3] 159)) (hr.kept (ja _ _)) (Zo.new w t1 t2 t3 _));clear hr;go_enter Tryz.func172,Tryz.ntmps172;go_wp2_with fail
 refine HI.out.mono ?_;rintro e w1 ⟨rfl,k1⟩;have K1:=lH k1;clear k1;go_wp2;go_ret;exact⟨rfl,(Grw.alloc _ _).trans K1.out⟩
end Go.Proofs.YtokdjfoalkmhiaaGreat
