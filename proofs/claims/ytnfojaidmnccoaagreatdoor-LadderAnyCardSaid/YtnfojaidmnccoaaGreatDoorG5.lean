/- C. -/
import Derived.Test.YtnfojaidmnccoaaGreatDoorG0
import Derived.Test.YtnfojaidmnccoaaGreatDoorG2
import Derived.Test.YtnfojaidmnccoaaGreatDoorG3
import Derived.Test.YtnfojaidmnccoaaGreatDoorG4
set_option linter.unusedVariables false
set_option maxRecDepth 100000
set_option maxHeartbeats 25600000
namespace Go.Proofs.YtnfojaidmnccoaaGreatDoor
open Go.RowKit
def zn (lo hi:Int):List UInt8:=Lib.itoa lo++([47]++Lib.itoa hi)
def jy (r:Int×Int×Int):List UInt8:=Lib.itoa r.1++([58]++(Lib.itoa r.2.1++([58]++Lib.itoa r.2.2)))
def jV (n:Lad):List (List UInt8):=n.what.data.toList::Vec.jz n.unit::zn n.lo n.hi::n.rungs.map jy
def jQ (n:Lad):List UInt8:=Lib.join (jV n) [32]
theorem jcK:Kind 87 9 1 16:=by
 obtain⟨i,hi,hz,h1,h2⟩:=info_parts (show (Tryz.prog.info? 9).map (fun i=>(i.zero,i.size,i.bytes))=some (some (.string ByteArray.empty),1,16) by kernel_rfl);exact⟨i,_,Tryz.underlying87,hi,hz,h1,h2,rfl,by decide⟩
theorem ja6 (w:World) (B:Nat) (a b c:Value) (e:TypeId) (hB:B≤w.heap.size) (ha:a.oneCell'=true) (hb:b.oneCell'=true) (hc:c.oneCell'=true):(w.alloc (.cells #[a,b,c] e)).ownsRow B e 1 (.slice (some ⟨w.heap.size,0,none⟩) 3 3) 3 [a,b,c] :=
 ⟨by simp[ha,hb,hc],.inr ⟨w.heap.size,3,#[a,b,c],rfl,hB,World.alloc_heap_new w _,by omega,by decide,by simp,by simp⟩⟩
theorem J3 (n:Int) (w:World) (hE:Vec.j5 w) (h0:-9223372036854775808≤n) (h1:n≤9223372036854775807) :
 Calls Tryz.prog 66 #[.int .i64 n] w fun e w'=>e=.returned (.string (bytes (Lib.itoa n)))∧Kept w w':=by
 refine(Tryz.strconv_Itoa n h0 h1 w hE.tab).mono ?_;rintro e w' ⟨rfl,k,os,rfl⟩;exact⟨rfl,Lib.below_grow _ _ (Nat.le_refl _) _ _⟩
theorem zI (a b:List UInt8):bytes a++bytes b=bytes (a++b):=by apply Go.WideShapes.bytes_inj;simp[bytes,ByteArray.data_append]
theorem Zu:∀(ts:List (List UInt8)) (B:Nat),(∀x ∈ ts,x.length≤B)→(Lib.join ts [32]).length≤ts.length*(B+1)
 | [],B,_=>by simp[Lib.join]
 | [x],B,h=>by
  have:=h x (by simp);rw[Lib.join_one];simp;omega
 | x::y::t,B,h=>by
  have h1:=h x (by simp);have ih:=Zu (y::t) B (fun z hz=>h z (by simp[hz]));have s:(Lib.join (x::y::t) [32])=x++[32]++Lib.join (y::t) [32]:=by simp[Lib.join,List.intercalate]
  rw[s,List.length_append,List.length_append];simp only[List.length_cons,List.length_nil] at ih ⊢;rw[Nat.add_mul (t.length+1) 1 (B+1),Nat.one_mul];omega
theorem qF (a b:Int) (w:World) (hE:Vec.j5 w) (ha:I64 a) (hb:I64 b) :
 Calls Tryz.prog 43 #[.int .i64 a,.int .i64 b] w fun e w'=>e=.returned (.string (bytes (zn a b)))∧Kept w w':=by
 have H1:=lH (fun W (k:Kept w W)=>J3 a W (hE.kept k) ha.1 ha.2);have H2:=lH (fun W (k:Kept w W)=>J3 b W (hE.kept k) hb.1 hb.2);have hz1:=Lib.itoa_length_le a ha.1 ha.2;have hz2:=Lib.itoa_length_le b hb.1 hb.2;have HV:=lH (show bytes (Lib.itoa a)++⟨#[47]⟩++bytes (Lib.itoa b)=bytes (zn a b) by
  rw[show (⟨#[47]⟩:ByteArray)=bytes [47] from rfl,zI,zI];unfold zn;rw[List.append_assoc])
 obtain⟨t1,ht1⟩:=eX (bytes (Lib.itoa a))
 obtain⟨t2,ht2⟩:=eX (bytes (Lib.itoa b))
 have hs1:t1.size≤100:=by rw[←ht1,jn];omega
 have hs2:t2.size≤100:=by rw[←ht2,jn];omega
 rw[ht1,ht2] at HV;rw[ht1] at H1;rw[ht2] at H2;clear ht1 ht2 hz1 hz2 hE;go_enter Tryz.func43,Tryz.ntmps43;go_wp2_with fail
 refine(H1.out _ (Kept.refl _)).mono ?_;rintro e w1 ⟨rfl,k1⟩;have K:=lH k1;clear k1;go_wp2_with fail
 refine(H2.out _ K.out).mono ?_;rintro e w2 ⟨rfl,k2⟩;have K:=lH (K.out.trans k2);clear k2;go_wp2;go_ret;exact⟨Yx HV.out,K.out⟩
theorem jcl {w:World} {B g n cap:Nat} {e:TypeId} {xs:List ByteArray} (h:w.ownsRow B e 1 (.slice (some ⟨g,0,none⟩) n cap) n (xs.map Value.string)):n≤cap∧g<w.heap.size∧∀(j:Nat) x,xs[j]?=some x→w.cell? ⟨g,0+j,none⟩=some (.string x):=by
 refine⟨?_,(h.lt g rfl).2,jaY h⟩;rcases h.2 with ⟨h0,_⟩ | ⟨g2,cap2,cur,h0,hb,hg,hr,_⟩
 · cases h0
 · cases h0;exact hr
theorem Yb {α:Type} {l:List α} {k:Nat} {x:α} (h:l[k]?=some x):l.take (k+1)=l.take k++[x]:=by rw[List.take_add_one,h];rfl
theorem jaW {g n cap:Nat} {w:World} {xs:List ByteArray} (hc:∀(j:Nat) x,xs[j]?=some x→w.cell? ⟨g,0+j,none⟩=some (.string x)) (hg:g<w.heap.size) (hn:xs.length=n) (hcap:n≤cap) (hm:n≤1000000) (hl:(Lib.join (xs.map (·.data.toList)) [32]).length≤10000000) :
 Calls Tryz.prog 45 #[.slice (some ⟨g,0,none⟩) n cap] w fun e w'=>e=.returned (.string (bytes (Lib.join (xs.map (·.data.toList)) [32])))∧Kept w w':=by
 have hn2:xs.length≤140737488355328:=by omega
 have H:=lH (Tryz.strings_Join g 0 cap xs ⟨#[32]⟩ w hc hg hn2 (by omega) (Nat.le_trans hl (by decide)));rw[hn] at H;clear hc hl hn2;go_enter Tryz.func45,Tryz.ntmps45;go_wp2_with fail
 refine H.out.mono ?_;rintro e w1 ⟨rfl,k⟩;have K:=lH (show Kept w w1 from k);clear k;go_wp2;go_ret;exact⟨rfl,K.out⟩
theorem jco {n:Lad} {tu tl:ByteArray} {ws:List ByteArray} (h:n.what::tu::tl::n.rungs.map (fun r=>bytes (jy r))=ws) (h1:bytes (Vec.jz n.unit)=tu) (h2:bytes (zn n.lo n.hi)=tl):ws.map (·.data.toList)=jV n:=by
 subst h;subst h1;subst h2;unfold jV;simp[bytes]
theorem qK {a b:Int} (ha:I64 a) (hb:I64 b):(zn a b).length≤100:=by
 have h1:=Lib.itoa_length_le a ha.1 ha.2;have h2:=Lib.itoa_length_le b hb.1 hb.2;unfold zn;simp only[List.length_append,List.length_cons,List.length_nil];omega
theorem Xv {r:Int×Int×Int} (hu:I64 r.1) (hc:I64 r.2.1) (hp:I64 r.2.2):(jy r).length≤100:=by
 have h1:=Lib.itoa_length_le r.1 hu.1 hu.2;have h2:=Lib.itoa_length_le r.2.1 hc.1 hc.2;have h3:=Lib.itoa_length_le r.2.2 hp.1 hp.2;unfold jy;simp only[List.length_append,List.length_cons,List.length_nil];omega
theorem YL {n:Lad} (h0:n.what.size≤1000) (h1:(Vec.jz n.unit).length≤2000) (h2:(zn n.lo n.hi).length≤100) (h3:∀x ∈ n.rungs,jt.fine x):∀p ∈ jV n,p.length≤2000:=by
 intro p hp;unfold jV at hp;simp only[List.mem_cons,List.mem_map] at hp;rcases hp with rfl | rfl | rfl | ⟨r,hr,rfl⟩
 · rw[Array.length_toList,ByteArray.size_data];omega
 · exact h1
 · omega
 · have h:=h3 r hr;have:=Xv h.1 h.2.1 h.2.2;omega
theorem X1 (u c p:Int) (w:World) (hE:Vec.j5 w) (hu:I64 u) (hc:I64 c) (hp:I64 p) :
 Calls Tryz.prog 44 #[.agg #[.int .i64 u,.int .i64 c,.int .i64 p]] w fun e w'=>e=.returned (.string (bytes (jy (u,c,p))))∧Kept w w':=by
 obtain⟨W0,hW0⟩:=eX (w.alloc (.cells #[.int .i64 u,.int .i64 c,.int .i64 p] 46))
 have hk0:Kept w W0:=by rw[←hW0];exact ja _ _
 obtain⟨HC,H1,H2,H3⟩:=lH4 (show ∀W,Kept W0 W→W.cell? ⟨w.heap.size,0,none⟩=some (.int .i64 u)∧W.cell? ⟨w.heap.size,1,none⟩=some (.int .i64 c)∧W.cell? ⟨w.heap.size,2,none⟩=some (.int .i64 p) from fun W k=>(jf w (.int .i64 u) [.int .i64 c,.int .i64 p] 46 W (by rw[hW0];exact k)).at3) (fun W (k:Kept W0 W)=>Vec.Ji u W (hE.kept (hk0.trans k)) hu.1 hu.2) (fun W (k:Kept W0 W)=>J3 c W (hE.kept (hk0.trans k)) hc.1 hc.2) (fun W (k:Kept W0 W)=>Vec.Ji p W (hE.kept (hk0.trans k)) hp.1 hp.2);have hz1:=Lib.itoa_length_le u hu.1 hu.2;have hz2:=Lib.itoa_length_le c hc.1 hc.2;have hz3:=Lib.itoa_length_le p hp.1 hp.2;have HV:=lH (show bytes (Lib.itoa u)++⟨#[58]⟩++bytes (Lib.itoa c)++⟨#[58]⟩++bytes (Lib.itoa p)=bytes (jy (u,c,p)) by
  rw[show (⟨#[58]⟩:ByteArray)=bytes [58] from rfl,zI,zI,zI,zI];unfold jy;simp only[List.append_assoc])
 obtain⟨t1,ht1⟩:=eX (bytes (Lib.itoa u))
 have hs1:t1.size≤100:=by rw[←ht1,jn];omega
 rw[ht1] at H1;obtain⟨t2,ht2⟩:=eX (bytes (Lib.itoa c))
 have hs2:t2.size≤100:=by rw[←ht2,jn];omega
 rw[ht2] at H2;obtain⟨t3,ht3⟩:=eX (bytes (Lib.itoa p))
 have hs3:t3.size≤100:=by rw[←ht3,jn];omega
 rw[ht3] at H3;rw[ht1,ht2,ht3] at HV;have hone:(⟨#[58]⟩:ByteArray).size=1:=rfl;have ad1:∀W,(Op.stringOp .add t1 (⟨#[58]⟩:ByteArray)).run Tryz.prog W=.ok (.string (t1++(⟨#[58]⟩:ByteArray))) W:=fun W=>run_string_add_sum W _ _ (by omega);have ad2:∀W,(Op.stringOp .add (t1++(⟨#[58]⟩:ByteArray)) t2).run Tryz.prog W=.ok (.string (t1++(⟨#[58]⟩:ByteArray)++t2)) W:=fun W=>run_string_add_sum W _ _ (by simp only[ByteArray.size_append];omega);have ad3:∀W,(Op.stringOp .add (t1++(⟨#[58]⟩:ByteArray)++t2) (⟨#[58]⟩:ByteArray)).run Tryz.prog W=.ok (.string (t1++(⟨#[58]⟩:ByteArray)++t2++(⟨#[58]⟩:ByteArray))) W:=fun W=>run_string_add_sum W _ _ (by simp only[ByteArray.size_append];omega);have ad4:∀W,(Op.stringOp .add (t1++(⟨#[58]⟩:ByteArray)++t2++(⟨#[58]⟩:ByteArray)) t3).run Tryz.prog W=.ok (.string (t1++(⟨#[58]⟩:ByteArray)++t2++(⟨#[58]⟩:ByteArray)++t3)) W:=fun W=>run_string_add_sum W _ _ (by simp only[ByteArray.size_append];omega);have Ux:=lH hk0;clear ht1 ht2 ht3 hz1 hz2 hz3 hE hk0;go_enter Tryz.func44,Tryz.ntmps44;go_upto_region 1 with fail
 try rw[hW0]
 clear hW0;have J:=lH (Kept.drew W0);refine wp_region_held_drew (S:=fun W=>W.cell? ⟨w.heap.size,0,none⟩=some (.int .i64 u)∧W.cell? ⟨w.heap.size,1,none⟩=some (.int .i64 c)∧W.cell? ⟨w.heap.size,2,none⟩=some (.int .i64 p)) (by kernel_rfl) (HC.out _ J.out) (fun hHeld=>?_);obtain⟨wd,hwd⟩:=eX (W0.drew)
 rw[hwd] at J hHeld;try rw[hwd]
 clear hwd;refine tR 0 rfl (by kernel_rfl) (fun _ _ _=>id) (Or.inl ⟨by rfl,by rintro W ⟨o0,o1,o2⟩;go_simp<;>with_reducible rfl⟩) ‹_› ?_;try simp only[nA,nB,nC,nD,nE]
 refine tR 1 rfl (by kernel_rfl) (fun _ _ _=>id) (Or.inl ⟨by rfl,by rintro W ⟨o0,o1,o2⟩;go_simp<;>with_reducible rfl⟩) ‹_› ?_;try simp only[nA,nB,nC,nD,nE]
 refine tR 4 rfl (by kernel_rfl) (fun _ _ _=>id) (Or.inl ⟨by rfl,by rintro W ⟨o0,o1,o2⟩;go_simp<;>with_reducible rfl⟩) ‹_› ?_;try simp only[nA,nB,nC,nD,nE]
 refine tR 5 rfl (by kernel_rfl) (fun _ _ _=>id) (Or.inl ⟨by rfl,by rintro W ⟨o0,o1,o2⟩;go_simp<;>with_reducible rfl⟩) ‹_› ?_;try simp only[nA,nB,nC,nD,nE]
 refine tR 9 rfl (by kernel_rfl) (fun _ _ _=>id) (Or.inl ⟨by rfl,by rintro W ⟨o0,o1,o2⟩;go_simp<;>with_reducible rfl⟩) ‹_› ?_;try simp only[nA,nB,nC,nD,nE]
 refine tR 10 rfl (by kernel_rfl) (fun _ _ _=>id) (Or.inl ⟨by rfl,by rintro W ⟨o0,o1,o2⟩;go_simp<;>with_reducible rfl⟩) ‹_› ?_;try simp only[nA,nB,nC,nD,nE]
 refine rd1 2 fun K9 Ky=>?_;go_simp;refine(H1.out _ J.out).mono ?_;rintro e w1 ⟨rfl,kk⟩;have J:=lH (J.out.trans kk);clear kk;refine Ky.out _ _ (HC.out _ J.out) (fun _=>?_);clear Ky K9;try simp only[nA,nB,nC,nD,nE]
 refine tR 3 rfl (by kernel_rfl) (fun _ _ _=>id) (Or.inl ⟨by rfl,by rintro W ⟨o0,o1,o2⟩;go_simp<;>with_reducible rfl⟩) ‹_› ?_;try simp only[nA,nB,nC,nD,nE]
 refine rd1 6 fun K9 Ky=>?_;go_simp;refine(H2.out _ J.out).mono ?_;rintro e w2 ⟨rfl,kk⟩;have J:=lH (J.out.trans kk);clear kk;refine Ky.out _ _ (HC.out _ J.out) (fun _=>?_);clear Ky K9;try simp only[nA,nB,nC,nD,nE]
 refine tR 7 rfl (by kernel_rfl) (fun _ _ _=>id) (Or.inl ⟨by rfl,by rintro W ⟨o0,o1,o2⟩;go_simp<;>with_reducible rfl⟩) ‹_› ?_;try simp only[nA,nB,nC,nD,nE]
 refine tR 8 rfl (by kernel_rfl) (fun _ _ _=>id) (Or.inl ⟨by rfl,by rintro W ⟨o0,o1,o2⟩;go_simp<;>with_reducible rfl⟩) ‹_› ?_;try simp only[nA,nB,nC,nD,nE]
 refine rd1 11 fun K9 Ky=>?_;go_simp;refine(H3.out _ J.out).mono ?_;rintro e w3 ⟨rfl,kk⟩;have J:=lH (J.out.trans kk);clear kk;refine Ky.out _ _ (HC.out _ J.out) (fun _=>?_);clear Ky K9;try simp only[nA,nB,nC,nD,nE]
 refine tR 12 rfl (by kernel_rfl) (fun _ _ _=>id) (Or.inl ⟨by rfl,by rintro W ⟨o0,o1,o2⟩;go_simp<;>with_reducible rfl⟩) ‹_› ?_;try simp only[nA,nB,nC,nD,nE]
 refine tR 13 rfl (by kernel_rfl) (fun _ _ _=>id) (Or.inl ⟨by rfl,by rintro W ⟨o0,o1,o2⟩;go_simp<;>with_reducible rfl⟩) ‹_› ?_;try simp only[nA,nB,nC,nD,nE]
 refine wpAnyH_done (by kernel_rfl) ?_ _;go_wp2;go_ret;exact⟨Yx HV.out,Ux.out.trans J.out⟩
theorem Yd (n:Lad) (v1:Value) (a2:Option Addr) (l2 c2:Nat) (w:World) (hE:Vec.j5 w) (h:jL w v1 (.slice a2 l2 c2) n) (hw:n.what.size≤1000) (hf:Vec.j4 n.unit=true) (hn:n.rungs.length≤1000) :
 Calls Tryz.prog 22 #[.agg #[.string n.what,v1,.slice a2 l2 c2,.int .i64 n.lo,.int .i64 n.hi]] w (Say (.string (bytes (jQ n))) w):=by
 obtain⟨W0,hW0⟩:=eX (w.alloc (.cells #[.string n.what,v1,.slice a2 l2 c2,.int .i64 n.lo,.int .i64 n.hi] 26))
 have hk0:Kept w W0:=by rw[←hW0];exact ja _ _
 have HL:=lH (jf w (.string n.what) [v1,.slice a2 l2 c2,.int .i64 n.lo,.int .i64 n.hi] 26 W0 (by rw[hW0];exact Kept.refl _));obtain⟨lb,hlb⟩:=eX (w.heap.size)
 rw[hlb] at HL;obtain⟨H1,H2,HE,HK,Ux⟩:=lH5 (fun W (k:Kept W0 W)=>Vec.Xf (hE.kept (hk0.trans k)) (h.unit.kept (hk0.trans k)) hf rfl) (fun W (k:Kept W0 W)=>qF n.lo n.hi W (hE.kept (hk0.trans k)) h.lo h.hi) hE hk0 hk0;obtain⟨a9,c9,e9,q1,q2,hrow⟩:=h.rungs;obtain⟨rfl,rfl,rfl⟩:a2=a9∧l2=n.rungs.length∧c2=c9:=by cases e9;exact⟨rfl,rfl,rfl⟩
 obtain⟨HR,Vq,T7,V6,T8⟩:=lH5 hrow h.size hw (Zl hf (by obtain⟨_,_,-,-,-,q⟩:=h.unit;exact q.2.2.1)) (qK h.lo h.hi);clear h e9 q1 q2 hrow hf hk0 hE;obtain⟨len,hlen⟩:=eX (n.rungs.length)
 have Vd:=lH hlen;rw[hlen] at HL HR hn hW0 ⊢;clear hlen;obtain⟨tu,htu⟩:=eX (bytes (Vec.jz n.unit))
 obtain⟨tl,htl⟩:=eX (bytes (zn n.lo n.hi))
 rw[htu] at H1;rw[htl] at H2;have T9:=lH htu;have Tf:=lH htl;clear htu htl;have HS:=lH (show ∀W,Kept W0 W→W.cell? ⟨lb,0,none⟩=some (.string n.what)∧W.cell? ⟨lb,1,none⟩=some (v1)∧W.cell? ⟨lb,2,none⟩=some (.slice a2 len c2)∧W.cell? ⟨lb,3,none⟩=some (.int .i64 n.lo)∧W.cell? ⟨lb,4,none⟩=some (.int .i64 n.hi) from fun W k=>(HL.out.kept k).at5);go_enter Tryz.func22,Tryz.ntmps22;go_upto_region 1 with fail
 try rw[hW0]
 try rw[hlb]
 clear hW0
 go_region_held3 (fun W=>W.cell? ⟨lb,0,none⟩=some (.string n.what)∧W.cell? ⟨lb,1,none⟩=some (v1)∧W.cell? ⟨lb,2,none⟩=some (.slice a2 len c2)∧W.cell? ⟨lb,3,none⟩=some (.int .i64 n.lo)∧W.cell? ⟨lb,4,none⟩=some (.int .i64 n.hi))
  (first | exact HS.out _ (Kept.drew _) | exact HS.out _ K1.out | exact HS.out _ K2.out | exact HS.out _ (K2.out.trans (ja _ _)))
  (first | (go_at_call 31;refine(H1.out _ (Kept.drew _)).mono ?_;rintro e1 w1 ⟨rfl,k1⟩;have K1:=lH ((Kept.drew _).trans k1);clear k1)
         | (go_at_call 43;refine(H2.out _ K1.out).mono ?_;rintro e2 w2 ⟨rfl,k2⟩;have K2:=lH (K1.out.trans k2);clear k2))
 obtain⟨HK,Tg,V5⟩:=lH3 (HK.out.trans (K2.out.trans (ja w2 (.cells #[.string n.what,.string tu,.string tl] 9)))) (ja6 w2 w2.heap.size (.string n.what) (.string tu) (.string tl) 9 (Nat.le_refl _) rfl rfl rfl) (HS.out _ (K2.out.trans (ja w2 (.cells #[.string n.what,.string tu,.string tl] 9))));obtain⟨w3,hw3⟩:=eX (w2.alloc (.cells #[.string n.what,.string tu,.string tl] 9))
 have Ra:=lH (show Kept w2 w3 by rw[←hw3];exact ja _ _);have Th:=lH (show w.heap.size≤w2.heap.size from(Ux.out.trans K2.out).size);have Ui:=lH (show w2.heap.size≤w3.heap.size from Ra.out.size);rw[hw3] at HK Tg V5 ⊢;obtain⟨B,hB⟩:=eX (w2.heap.size)
 have Rt:=lH hB;rw[hB] at Tg Th Ui ⊢;obtain⟨y0,y1,y2,y3,y4⟩:=V5.out;clear hw3 hB hlb;obtain⟨ws,hws⟩:∃ws:List ByteArray,n.what::tu::tl::n.rungs.map (fun r=>bytes (jy r))=ws:=⟨_,rfl⟩
 have Tw:=lH (show ws.length=3+len by rw[←hws];simp only[List.length_cons,List.length_map];have:=Vd.out;omega);have Rb:=lH (show ws.take 3=[n.what,tu,tl] by rw[←hws];rfl);have Rc:=lH (show ∀k r,n.rungs[k]?=some r→ws[3+k]?=some (bytes (jy r)) from fun k r h=>by
  rw[←hws,show 3+k=k+1+1+1 by omega,List.getElem?_cons_succ,List.getElem?_cons_succ,List.getElem?_cons_succ,List.getElem?_map,h];rfl)
 have Ti:=lH hws;clear hws;go_wp2;go_loopw [3,20] (fun sv iv wr=>∃(k g cap:Nat),k≤len∧iv=.int .i64 k∧sv=.slice (some ⟨g,0,none⟩) (3+k) cap∧wr.ownsRow B 9 1 (.slice (some ⟨g,0,none⟩) (3+k) cap) (3+k) ((ws.take (3+k)).map Value.string)∧Below B w3 wr) (fun _ iv _=>len-(intOf iv).toNat)
 case atStart=>exact⟨0,B,3,Nat.zero_le _,rfl,rfl,by rw[Nat.add_zero,Rb.out];exact Tg.out,Below.refl _ _⟩
 case round =>
  obtain⟨k,g,cap,hk,rfl,rfl,hown,hK⟩:=hrel;have Tx:=lH hown;have Vn:=lH hK;clear hown hK y0 y1 y2 y3 y4;by_cases hlt:k<len
  · skip;skip;obtain⟨b,off,rfl⟩:=HR.out.form.resolve_left (by omega);have Up:=lH (show Kept w wr from Below.trans HK.out (Below.mono Vn.out Th.out));obtain⟨u,c,p,hn2,hd,hb,hfine,p0,p1,p2⟩:=(HR.out.kept Up.out).rung hlt;have hkk:(k:Int)<(len:Int):=by omega
    have HX:=lH (Rc.out k _ hn2);obtain⟨w4,hw4⟩:=eX (wr.alloc (.cells #[.int .i64 u,.int .i64 c,.int .i64 p] 46))
    have k4:Kept wr w4:=by rw[←hw4];exact ja _ _
    obtain⟨r0,r1,r2⟩:=(jf wr (.int .i64 u) [.int .i64 c,.int .i64 p] 46 w4 (by rw[hw4];exact Kept.refl _)).at3;obtain⟨rb,hrb⟩:=eX (wr.heap.size)
    rw[hrb] at r0 r1 r2;have HT:=lH (fun W (k:Kept w W)=>X1 u c p W (HE.out.kept k) hfine.1 hfine.2.1 hfine.2.2);obtain⟨t,ht⟩:=eX (bytes (jy (u,c,p)))
    rw[ht] at HT HX;have UN:=lH k4;clear hn2 hd hfine ht k4 hb;go_wp2_with fail
    try rw[hw4]
    try rw[hrb]
    clear hw4 hrb;refine(HT.out _ (Up.out.trans UN.out)).mono ?_;rintro e w5 ⟨rfl,k5⟩;have UE:=lH (UN.out.trans k5);clear k5 r0 r1 r2 p0 p1 p2 HT;have hb1:3+k+1≤maxLen:=by unfold maxLen;omega
    have hb2:((3+k+1)+(3+k+1) / 4+192)*16≤281474976710656:=by omega
    have hBs:B≤(w5.alloc (.cells #[.string t] 9)).heap.size:=by have:=UE.out.size;have:=Vn.out.size;have:=Ui.out;simp;omega
    go_wp2_with (at_builtin;refine JO jcK _ rfl (.tmp 24) (.tmp 27) rfl B hBs g (3+k) cap _ rfl (jbu (XY Tx.out UE.out) _) _ 1 [.string t] rfl rfl (fun u hu=>by obtain rfl:=List.mem_singleton.1 hu;rfl) (jck rfl (World.alloc_heap_new w5 _)) hb1 hb2 ?_;intro g1 k1 W1 ho hd hg;have Rd:=lH ho;have Ua:=lH hd;clear ho hd hg;refine Hid.out ?_)
    refine lH ?_;go_wp2;go_roundw
    case rel=>exact⟨k+1,g1,k1,by omega,by go_num,rfl,by rw[show 3+(k+1)=3+k+1 by omega,Yb HX.out,List.map_append];exact Rd.out,Below.trans Vn.out (Below.trans (Below.mono (UE.out.trans (ja w5 _)) (by have:=Vn.out.size;have:=Ui.out;omega)) Ua.out)⟩
    case measure=>simp[intOf];omega
  · skip;have hkk:¬(k:Int)<(len:Int):=by omega
    obtain rfl:k=len:=by omega
    have hfull:=Tx.out;rw[List.take_of_length_le (by rw[Tw.out];exact Nat.le_refl _)] at hfull;obtain⟨hc1,hp1,hcells⟩:=jcl hfull;have Ty:=lH (jco Ti.out T9.out Tf.out);have HJ:=lH (jaW hcells hp1 Tw.out hc1 (by omega) (by
     rw[Ty.out];refine Nat.le_trans (Zu (jV n) 2000 (YL T7.out V6.out T8.out (by obtain⟨_,_,q,_⟩:=HR.out;exact q))) ?_;have:(jV n).length=3+k:=by unfold jV;simp only[List.length_cons,List.length_map];have:=Vd.out;omega
     rw[this];have h2:(3+k)*(2000+1)≤1003*2001:=Nat.mul_le_mul (by omega) (by omega);omega))
    rw[Ty.out] at HJ;have Up:=lH (show Kept w wr from Below.trans HK.out (Below.mono Vn.out Th.out));clear hfull hc1 hp1 hcells;go_wp2_with fail
    refine HJ.out.mono ?_;rintro e w5 ⟨rfl,k5⟩;have UE:=lH k5;clear k5;go_wp2;go_ret;exact⟨Yx rfl,Up.out.trans UE.out⟩
def lk1:List UInt8:=[99,112,117,32,99,112,117,61,49,48,44,109,101,109,61,52,32,49,47,51,32,49,48,48,58,50,58,53,48,48,32,50,48,48,58,57,58,49,48,48,48]
def lk2:List UInt8:=[99,112,117,32,45,32,49,32,49,58,49,58,49]
def lk3:List UInt8:=[99,112,117,32,45,32,51,47,49]
def lk4:List UInt8:=[99,112,117,32,45,32,48,47,49,32,53,58,49,58,49,32,53,58,49,58,49]
def kLd:Lad:=⟨Vec.cpu,[(Vec.cpu,10),(Vec.mem,4)],[(100,2,500),(200,9,1000)],1,3⟩
def kLe:Lad:=⟨Vec.cpu,[],[],0,0⟩
def kLf:Lad:=⟨Vec.cpu,[(Vec.cpu,1)],[],2,3⟩
theorem jde:jP kLd=0:=by kernel_rfl
theorem jdn:je lk1=(0,kLd):=by kernel_rfl
theorem jdl:(je lk2).1=2:=by kernel_rfl
theorem jdm:(je lk3).1=1:=by kernel_rfl
theorem jdr:(je lk4).1=13:=by kernel_rfl
theorem jdp:jW kLd [(Vec.cpu,100)]=(2,[(Vec.cpu,5),(Vec.mem,2)],0):=by kernel_rfl
theorem jds:jW kLd [(Vec.cpu,999)]=(3,[(Vec.cpu,10),(Vec.mem,4)],0):=by kernel_rfl
theorem jdk:jW kLf []=(2,[(Vec.cpu,1)],0):=by kernel_rfl
theorem jdh:atL kLd []=some (100,2,500):=by kernel_rfl
theorem jdt:atL kLe []=none:=by kernel_rfl
theorem jdw:Vec.jz [(Vec.cpu,5),(Vec.mem,2)]=[99,112,117,61,53,44,109,101,109,61,50]:=by kernel_rfl
theorem jdo:Vec.jz [(Vec.cpu,10),(Vec.mem,4)]=[99,112,117,61,49,48,44,109,101,109,61,52]:=by kernel_rfl
theorem jdv:Vec.jz [(Vec.cpu,1)]=[99,112,117,61,49]:=by kernel_rfl
theorem jdj:jQ kLd=lk1:=by kernel_rfl
theorem Z0 (w:World) (s:ByteArray) (m:Int) (T:TypeId) (hs:s.size≤maxLen) (hm:-9223372036854775808≤m∧m≤9223372036854775807) :
 Vec.Reads (w.alloc (.cells #[.string s,.int .i64 m] T)) (.slice (some ⟨w.heap.size,0,none⟩) 1 1) [(s,m)]:=by
 refine⟨_,1,rfl,Nat.le_refl _,by decide,rfl,(by decide:1≤maxLen),Vec.j2.cons.2 ⟨⟨hs,hm⟩,Vec.j2.nil⟩,.inr ⟨w.heap.size,0,rfl,by simp,fun i hi=>?_⟩⟩;have hh:=w.alloc_heap_new (.cells #[.string s,.int .i64 m] T)
 match i,hi with
 | 0,_=>exact⟨by rw[Lib.cell_of_heap hh];rfl,by rw[Lib.cell_of_heap hh];rfl⟩
theorem jba (w:World) (hE:Vec.j5 w):Calls Tryz.prog 24 #[.string ⟨#[99,112,117,32,99,112,117,61,49,48,44,109,101,109,61,52,32,49,47,51,32,49,48,48,58,50,58,53,48,48,32,50,48,48,58,57,58,49,48,48,48]⟩] w fun e w'=>∃a1 m1 c1 a2 m2 c2,e=.returned (.tuple #[.agg #[.string ⟨#[99,112,117]⟩,.slice a1 m1 c1,.slice a2 m2 c2,.int .i64 1,.int .i64 3],.int .i64 0])∧jL w' (.slice a1 m1 c1) (.slice a2 m2 c2) kLd∧Kept w w':=by
 refine(Jq lk1 w hE (by decide)).mono ?_;rintro e w' ⟨v,he,hn,k⟩;rw[jdn] at he hn;obtain⟨a1,m1,c1,a2,m2,c2,rfl,hat,-⟩:=hn;exact⟨a1,m1,c1,a2,m2,c2,he,hat,k⟩
theorem Zk (s:List UInt8) (c:Int) (w:World) (hE:Vec.j5 w) (hs:s.length≤900000) (h:(je s).1=c) (hc:c≠0):Calls Tryz.prog 24 #[.string (bytes s)] w fun e w'=>∃a1 m1 c1 a2 m2 c2,e=.returned (.tuple #[.agg #[.string ⟨#[]⟩,.slice a1 m1 c1,.slice a2 m2 c2,.int .i64 0,.int .i64 0],.int .i64 c])∧Kept w w':=by
 refine(Jq s w hE hs).mono ?_;rintro e w' ⟨v,he,hn,k⟩;rw[Zm (by rw[h];exact hc)] at hn;rw[h] at he;obtain⟨a1,m1,c1,a2,m2,c2,rfl,hat,-⟩:=hn;exact⟨a1,m1,c1,a2,m2,c2,he,k⟩
theorem jcQ (w:World):jL w (.slice none 0 0) (.slice none 0 0) kLe:=⟨by decide,Vec.Reads.nil _,Reads.nil _,by unfold I64 kLe;decide,by unfold I64 kLe;decide⟩
theorem jc5 (w:World) (T:TypeId):jL (w.alloc (.cells #[.string Vec.cpu,.int .i64 1] T)) (.slice (some ⟨w.heap.size,0,none⟩) 1 1) (.slice none 0 0) kLf:=⟨by decide,Z0 w _ _ T (by decide) (by decide),Reads.nil _,by unfold I64 kLf;decide,by unfold I64 kLf;decide⟩
theorem jcF {v:Value} (w:World) (hE:Vec.j5 w) (h:Vec.Reads w v [(Vec.cpu,5),(Vec.mem,2)]):Calls Tryz.prog 31 #[v] w fun e w'=>e=.returned (.string ⟨#[99,112,117,61,53,44,109,101,109,61,50]⟩)∧Kept w w':=Vec.Xf hE h (by kernel_rfl) jdw
theorem jcr {v:Value} (w:World) (hE:Vec.j5 w) (h:Vec.Reads w v [(Vec.cpu,10),(Vec.mem,4)]):Calls Tryz.prog 31 #[v] w fun e w'=>e=.returned (.string ⟨#[99,112,117,61,49,48,44,109,101,109,61,52]⟩)∧Kept w w':=Vec.Xf hE h (by kernel_rfl) jdo
theorem jcp {v:Value} (w:World) (hE:Vec.j5 w) (h:Vec.Reads w v [(Vec.cpu,1)]):Calls Tryz.prog 31 #[v] w fun e w'=>e=.returned (.string ⟨#[99,112,117,61,49]⟩)∧Kept w w':=Vec.Xf hE h (by kernel_rfl) jdv
theorem jbX (a1 a2:Option Addr) (m1 c1 m2 c2:Nat) (w:World) (hE:Vec.j5 w) (h:jL w (.slice a1 m1 c1) (.slice a2 m2 c2) kLd):Calls Tryz.prog 22 #[.agg #[.string ⟨#[99,112,117]⟩,.slice a1 m1 c1,.slice a2 m2 c2,.int .i64 1,.int .i64 3]] w fun e w'=>e=.returned (.string ⟨#[99,112,117,32,99,112,117,61,49,48,44,109,101,109,61,52,32,49,47,51,32,49,48,48,58,50,58,53,48,48,32,50,48,48,58,57,58,49,48,48,48]⟩)∧Kept w w':=by
 have:=Yd kLd (.slice a1 m1 c1) a2 m2 c2 w hE h (by decide) (by kernel_rfl) (by decide);rw[jdj] at this;exact this
theorem qx (w:World) (hE:Vec.j5 w):Calls Tryz.prog 9 #[] w (Say (.bool true) w):=by
 have HE:=lH hE;clear hE;go_enter Tryz.func9,Tryz.ntmps9;go_wp2_with fail
 refine(jba _ HE.out).mono ?_;rintro e w1 ⟨a1,m1,c1,a2,m2,c2,rfl,hat,kk⟩;have Va:=lH hat;have K:=lH kk;clear hat kk;obtain⟨v2,hv2⟩:=eX (w1.alloc (.cells #[.string ⟨#[99,112,117]⟩,.slice a1 m1 c1,.slice a2 m2 c2,.int .i64 1,.int .i64 3] 26))
 have kk:Kept w1 v2:=by rw[←hv2];exact ja _ _
 have Hkb:=lH (jf w1 (.string ⟨#[99,112,117]⟩) [.slice a1 m1 c1,.slice a2 m2 c2,.int .i64 1,.int .i64 3] 26 v2 (by rw[hv2];exact Kept.refl _));obtain⟨kb,hkb⟩:=eX (w1.heap.size)
 rw[hkb] at Hkb;have Va:=lH (Va.out.kept kk);have K:=lH (K.out.trans kk);clear kk;have Ev2:=lH hv2;clear hv2;have Ekb:=lH hkb;clear hkb;go_wp2_with fail
 try rw[Ev2.out]
 clear Ev2;try rw[Ekb.out]
 clear Ekb;refine(Zk lk2 2 _ (HE.out.kept K.out) (by decide) jdl (by decide)).mono ?_;rintro e w2 ⟨x1,x2,x3,x4,x5,x6,rfl,kk⟩;obtain⟨Va,Hkb,K⟩:=lH3 (Va.out.kept kk) (Hkb.out.kept kk) (K.out.trans kk);clear kk;obtain⟨v3,hv3⟩:=eX (w2.alloc (.cells #[.string ⟨#[]⟩,.slice x1 x2 x3,.slice x4 x5 x6,.int .i64 0,.int .i64 0] 26))
 have kk:Kept w2 v3:=by rw[←hv3];exact ja _ _
 obtain⟨Va,Hkb,K⟩:=lH3 (Va.out.kept kk) (Hkb.out.kept kk) (K.out.trans kk);clear kk;have Ev3:=lH hv3;clear hv3;go_wp2_with fail
 try rw[Ev3.out]
 clear Ev3;refine(Zk lk3 1 _ (HE.out.kept K.out) (by decide) jdm (by decide)).mono ?_;rintro e w3 ⟨x1,x2,x3,x4,x5,x6,rfl,kk⟩;obtain⟨Va,Hkb,K⟩:=lH3 (Va.out.kept kk) (Hkb.out.kept kk) (K.out.trans kk);clear kk;obtain⟨v4,hv4⟩:=eX (w3.alloc (.cells #[.string ⟨#[]⟩,.slice x1 x2 x3,.slice x4 x5 x6,.int .i64 0,.int .i64 0] 26))
 have kk:Kept w3 v4:=by rw[←hv4];exact ja _ _
 obtain⟨Va,Hkb,K⟩:=lH3 (Va.out.kept kk) (Hkb.out.kept kk) (K.out.trans kk);clear kk;have Ev4:=lH hv4;clear hv4;go_wp2_with fail
 try rw[Ev4.out]
 clear Ev4;refine(Zk lk4 13 _ (HE.out.kept K.out) (by decide) jdr (by decide)).mono ?_;rintro e w4 ⟨x1,x2,x3,x4,x5,x6,rfl,kk⟩;obtain⟨Va,Hkb,K⟩:=lH3 (Va.out.kept kk) (Hkb.out.kept kk) (K.out.trans kk);clear kk;obtain⟨v5,hv5⟩:=eX (w4.alloc (.cells #[.string ⟨#[]⟩,.slice x1 x2 x3,.slice x4 x5 x6,.int .i64 0,.int .i64 0] 26))
 have kk:Kept w4 v5:=by rw[←hv5];exact ja _ _
 obtain⟨Va,Hkb,K⟩:=lH3 (Va.out.kept kk) (Hkb.out.kept kk) (K.out.trans kk);clear kk;have Ev5:=lH hv5;clear hv5;obtain⟨y0,y1,y2,y3,y4⟩:=Hkb.out.at5;go_upto_region 5 with fail
 try rw[Ev5.out]
 clear Ev5;go_wp2_with fail
 refine(qh (n:=kLd) (t:=[(Vec.cpu,100)]) ⟨_,_,rfl,Va.out.kept (ja _ _)⟩ (Z0 _ _ _ _ (by decide) (by decide)) jdp).mono ?_;rintro e w5 ⟨r1,rfl,hr,kk⟩;have kk:=(ja v5 _).trans kk;obtain⟨Va,Hkb,K,Vl⟩:=lH4 (Va.out.kept kk) (Hkb.out.kept kk) (K.out.trans kk) hr;clear hr kk y0 y1 y2 y3 y4;obtain⟨y0,y1,y2,y3,y4⟩:=Hkb.out.at5;go_wp2_with fail
 refine(qh (n:=kLd) (t:=[(Vec.cpu,999)]) ⟨_,_,rfl,Va.out.kept (ja _ _)⟩ (Z0 _ _ _ _ (by decide) (by decide)) jds).mono ?_;rintro e w6 ⟨r2,rfl,hr,kk⟩;have kk:=(ja w5 _).trans kk;obtain⟨Va,Hkb,Vl,K,Vm⟩:=lH5 (Va.out.kept kk) (Hkb.out.kept kk) (Vl.out.kept kk) (K.out.trans kk) hr;clear hr kk y0 y1 y2 y3 y4;obtain⟨y0,y1,y2,y3,y4⟩:=Hkb.out.at5;go_wp2_with fail
 refine(jcX (n:=kLd) (t:=[]) ⟨_,_,rfl,Va.out⟩ (Vec.Reads.nil _) jdh).mono ?_;rintro e w7 ⟨rfl,kk⟩;obtain⟨Va,Hkb,Vl,Vm,K⟩:=lH5 (Va.out.kept kk) (Hkb.out.kept kk) (Vl.out.kept kk) (Vm.out.kept kk) (K.out.trans kk);clear kk y0 y1 y2 y3 y4;obtain⟨v6,hv6⟩:=eX (w7.alloc (.cells #[.int .i64 100,.int .i64 2,.int .i64 500] 46))
 have kk:Kept w7 v6:=by rw[←hv6];exact ja _ _
 have Hrb:=lH (jf w7 (.int .i64 100) [.int .i64 2,.int .i64 500] 46 v6 (by rw[hv6];exact Kept.refl _));obtain⟨rb,hrb⟩:=eX (w7.heap.size)
 rw[hrb] at Hrb;obtain⟨Va,Hkb,Vl,Vm,K⟩:=lH5 (Va.out.kept kk) (Hkb.out.kept kk) (Vl.out.kept kk) (Vm.out.kept kk) (K.out.trans kk);clear kk;have Ev6:=lH hv6;clear hv6;have Erb:=lH hrb;clear hrb;go_upto_region 8 with fail
 try rw[Ev6.out]
 clear Ev6;try rw[Erb.out]
 clear Erb;go_wp2_with fail
 refine(jcX (n:=kLe) (t:=[]) ⟨_,_,rfl,jcQ _⟩ (Vec.Reads.nil _) jdt).mono ?_;rintro e w8 ⟨rfl,kk⟩;obtain⟨Va,Hkb,Vl,Vm,Hrb,K⟩:=lH6 (Va.out.kept kk) (Hkb.out.kept kk) (Vl.out.kept kk) (Vm.out.kept kk) (Hrb.out.kept kk) (K.out.trans kk);clear kk;obtain⟨v7,hv7⟩:=eX (w8.alloc (.cells #[.int .i64 0,.int .i64 0,.int .i64 0] 46))
 have kk:Kept w8 v7:=by rw[←hv7];exact ja _ _
 obtain⟨Va,Hkb,Vl,Vm,Hrb,K⟩:=lH6 (Va.out.kept kk) (Hkb.out.kept kk) (Vl.out.kept kk) (Vm.out.kept kk) (Hrb.out.kept kk) (K.out.trans kk);clear kk;have Ev7:=lH hv7;clear hv7;go_upto_region 9 with fail
 try rw[Ev7.out]
 clear Ev7;go_wp2_with fail
 refine(qh (n:=kLf) (t:=[]) ⟨_,_,rfl,jc5 v7 _⟩ (Vec.Reads.nil _) jdk).mono ?_;rintro e w9 ⟨r3,rfl,hr,kk⟩;have kk:=(ja v7 _).trans kk;obtain⟨Va,Hkb,Vl,Vm,Hrb,K,VR⟩:=lH7 (Va.out.kept kk) (Hkb.out.kept kk) (Vl.out.kept kk) (Vm.out.kept kk) (Hrb.out.kept kk) (K.out.trans kk) hr;clear hr kk;obtain⟨y0,y1,y2,y3,y4⟩:=Hkb.out.at5;obtain⟨q0,q1,q2⟩:=Hrb.out.at3;go_wp2_with fail
 refine(jcF _ (HE.out.kept K.out) Vl.out).mono ?_;rintro e t1 ⟨rfl,kk⟩;obtain⟨Va,Hkb,Vl,Vm,Hrb,VR,K⟩:=lH7 (Va.out.kept kk) (Hkb.out.kept kk) (Vl.out.kept kk) (Vm.out.kept kk) (Hrb.out.kept kk) (VR.out.kept kk) (K.out.trans kk);clear kk y0 y1 y2 y3 y4 q0 q1 q2;obtain⟨y0,y1,y2,y3,y4⟩:=Hkb.out.at5;obtain⟨q0,q1,q2⟩:=Hrb.out.at3;go_wp2_with fail
 refine(jcr _ (HE.out.kept K.out) Vm.out).mono ?_;rintro e t2 ⟨rfl,kk⟩;obtain⟨Va,Hkb,Vl,Vm,Hrb,VR,K⟩:=lH7 (Va.out.kept kk) (Hkb.out.kept kk) (Vl.out.kept kk) (Vm.out.kept kk) (Hrb.out.kept kk) (VR.out.kept kk) (K.out.trans kk);clear kk y0 y1 y2 y3 y4 q0 q1 q2;obtain⟨y0,y1,y2,y3,y4⟩:=Hkb.out.at5;obtain⟨q0,q1,q2⟩:=Hrb.out.at3;go_wp2_with fail
 refine(jcp _ (HE.out.kept K.out) VR.out).mono ?_;rintro e t3 ⟨rfl,kk⟩;obtain⟨Va,Hkb,Vl,Vm,Hrb,VR,K⟩:=lH7 (Va.out.kept kk) (Hkb.out.kept kk) (Vl.out.kept kk) (Vm.out.kept kk) (Hrb.out.kept kk) (VR.out.kept kk) (K.out.trans kk);clear kk y0 y1 y2 y3 y4 q0 q1 q2;obtain⟨y0,y1,y2,y3,y4⟩:=Hkb.out.at5;obtain⟨q0,q1,q2⟩:=Hrb.out.at3;go_wp2_with fail
 refine(jbX _ _ _ _ _ _ _ (HE.out.kept K.out) Va.out).mono ?_;rintro e t4 ⟨rfl,kk⟩;obtain⟨Va,Hkb,Vl,Vm,Hrb,VR,K⟩:=lH7 (Va.out.kept kk) (Hkb.out.kept kk) (Vl.out.kept kk) (Vm.out.kept kk) (Hrb.out.kept kk) (VR.out.kept kk) (K.out.trans kk);clear kk y0 y1 y2 y3 y4 q0 q1 q2;obtain⟨y0,y1,y2,y3,y4⟩:=Hkb.out.at5;go_wp2_with fail
 refine(jcv (n:=kLd) ⟨_,_,rfl,Va.out⟩ jde).mono ?_;rintro e t5 ⟨rfl,kk⟩;obtain⟨Va,Hkb,Vl,Vm,Hrb,VR,K⟩:=lH7 (Va.out.kept kk) (Hkb.out.kept kk) (Vl.out.kept kk) (Vm.out.kept kk) (Hrb.out.kept kk) (VR.out.kept kk) (K.out.trans kk);clear kk y0 y1 y2 y3 y4;go_wp2;go_ret;exact⟨rfl,K.out⟩
theorem jac {u c p:Int} (h:ji u c p=0):0≤u∧(0≤c∧c≤128)∧0≤p∧p≤1000000:=by
 unfold ji at h;split at h
 · cases h
 · omega
theorem Zv:∀(l:RL) (prev:Option Int),jh prev l=0→(∀r ∈ l,ji r.1 r.2.1 r.2.2=0)∧l.Pairwise (fun x y=>x.1<y.1)∧∀q,prev=some q→∀r ∈ l,q<r.1
 | [],prev,_=>⟨fun r h=>absurd h (by simp),.nil,fun q _ r h=>absurd h (by simp)⟩
 | n::t,prev,h=>by
  rw[jh] at h;split at h
  · rename_i h1;exact absurd h h1
  · rename_i h1;split at h
    · cases h
    · rename_i h2;have h1':ji n.1 n.2.1 n.2.2=0:=by omega
      obtain⟨i1,i2,i3⟩:=Zv t (some n.1) h;have hall:=i3 n.1 rfl;refine⟨fun r hr=>?_,List.pairwise_cons.2 ⟨fun r hr=>hall r hr,i2⟩,fun q hq r hr=>?_⟩
      · rcases List.mem_cons.1 hr with rfl | h
        · exact h1'
        · exact i1 r h
      · subst hq;have hlt:q<n.1:=by
         simp only[jaq,decide_eq_true_eq] at h2;omega
        rcases List.mem_cons.1 hr with rfl | h
        · exact hlt
        · have:=hall r h;omega
theorem jab {l:RL} (h:jM l=0):l.length≤8∧(∀r ∈ l,ji r.1 r.2.1 r.2.2=0)∧l.Pairwise (fun x y=>x.1<y.1):=by
 unfold jM at h;split at h
 · cases h
 · have:=Zv l none h;exact⟨by omega,this.1,this.2.1⟩
def ZB (n:Lad):Bool:=decide (n.what.size≤50)&&(Vec.j4 n.unit&&decide (n.rungs.length≤20))
theorem jaZ (n:Lad) (a1 a2:Option Addr) (l1 c1 l2 c2:Nat) (w:World) (h:jL w (.slice a1 l1 c1) (.slice a2 l2 c2) n):Calls Tryz.prog 10 #[.agg #[.string n.what,.slice a1 l1 c1,.slice a2 l2 c2,.int .i64 n.lo,.int .i64 n.hi]] w (Say (.bool (ZB n)) w):=by
 obtain⟨W0,hW0⟩:=eX (w.alloc (.cells #[.string n.what,.slice a1 l1 c1,.slice a2 l2 c2,.int .i64 n.lo,.int .i64 n.hi] 26))
 have hk0:Kept w W0:=by rw[←hW0];exact ja _ _
 have HL:=lH (jf w (.string n.what) [.slice a1 l1 c1,.slice a2 l2 c2,.int .i64 n.lo,.int .i64 n.hi] 26 W0 (by rw[hW0];exact Kept.refl _));obtain⟨lb,hlb⟩:=eX (w.heap.size)
 rw[hlb] at HL;obtain⟨a9,c9,e9,-,-,-⟩:=h.rungs;obtain⟨rfl,rfl,rfl⟩:a2=a9∧l2=n.rungs.length∧c2=c9:=by cases e9;exact⟨rfl,rfl,rfl⟩
 obtain⟨fv,hfv⟩:=eX (Vec.j4 n.unit)
 have HF:=lH (fun W (k:Kept w W)=>Vec.jcP (h.unit.kept k) hfv);have HV:=lH (show ZB n=(decide (n.what.size≤50)&&(fv&&decide (n.rungs.length≤20))) by unfold ZB;rw[hfv]);obtain⟨len,hlen⟩:=eX (n.rungs.length)
 rw[hlen] at HV HL hW0 ⊢;obtain⟨x,hx⟩:=eX (n.what)
 rw[hx] at HV HL hW0 ⊢;have HK:=lH hk0;clear hk0 h e9 hfv hlen hx;by_cases h1:x.size≤50
 · have e1:decide (x.size≤50)=true:=decide_eq_true h1;rw[e1] at HV;have h1':(x.size:Int)≤50:=by omega
   clear e1 h1
   cases fv with
   | true =>
    obtain⟨y0,y1,y2,y3,y4⟩:=HL.out.at5;go_enter Tryz.func10,Tryz.ntmps10;go_wp2_with fail
    try rw[hW0]
    try rw[hlb]
    clear hW0 hlb;refine(HF.out _ HK.out).mono ?_;rintro e w1 ⟨rfl,rfl⟩;clear HF;have hd:decide ((len:Int)≤20)=decide (len≤20):=by simp;omega
    go_wp2;go_ret;exact⟨by rw[HV.out];first | rfl | (simp;omega),HK.out⟩
   | false =>
    obtain⟨y0,y1,y2,y3,y4⟩:=HL.out.at5;go_enter Tryz.func10,Tryz.ntmps10;go_wp2_with fail
    try rw[hW0]
    try rw[hlb]
    clear hW0 hlb;refine(HF.out _ HK.out).mono ?_;rintro e w1 ⟨rfl,rfl⟩;clear HF;go_wp2;go_ret;exact⟨by rw[HV.out];rfl,HK.out⟩
 · have e1:decide (x.size≤50)=false:=decide_eq_false h1;rw[e1] at HV;have h1':¬(x.size:Int)≤50:=by omega
   clear e1 h1 HF;obtain⟨y0,y1,y2,y3,y4⟩:=HL.out.at5;go_enter Tryz.func10,Tryz.ntmps10;go_wp2;try rw[hW0]
   clear hW0 hlb;go_ret;exact⟨by rw[HV.out];rfl,HK.out⟩
theorem jaU {n:Lad} (h:ZB n=true):n.what.size≤50∧Vec.j4 n.unit=true∧n.rungs.length≤20:=by
 unfold ZB at h;simpa [Bool.and_eq_true] using h
theorem jbn {n:Lad} (h:jP n=0):zF n.what=0∧Vec.jc n.unit=0∧jI n.lo n.hi=0∧jM n.rungs=0:=Xz h
theorem jcN {a b:Int} (h:jI a b=0):0≤a∧a≤b∧b≤128:=by
 unfold jI at h;split at h
 · cases h
 · omega
theorem Vec.Reads.grow {w w':World} {a:Option Addr} {m cap:Nat} {l:Vec.V} (h:Vec.Reads w (.slice a m cap) l) (hs:w.heap.size≤w'.heap.size) (hb:∀b off sp,a=some ⟨b,off,sp⟩→w'.heap[b]?=w.heap[b]?):Vec.Reads w' (.slice a m cap) l:=by
 obtain⟨a',cap',e,h1,h2,h3,h4,h5,h6⟩:=h
 cases e
 refine⟨a,cap,rfl,h1,h2,h3,h4,h5,h6.imp id ?_⟩;rintro ⟨b,off,rfl,hlt,hc⟩;exact⟨b,off,rfl,Nat.lt_of_lt_of_le hlt hs,fun i hi=>⟨(World.cell?_of_block (a:=⟨b,off+i*2,none⟩) (hb b off none rfl)).trans (hc i hi).1,(World.cell?_of_block (a:=⟨b,off+i*2+1,none⟩) (hb b off none rfl)).trans (hc i hi).2⟩⟩
theorem jbv:(Tryz.prog.info? 49).map (fun i=>(i.zero,i.size,i.bytes))=some (some (.agg #[.int .i64 0,.int .i64 0,.int .i64 0]),3,24):=by kernel_rfl
def jc7 (n:Lad) (w:World) (e:Ending) (w':World):Prop:=∃v,e=.returned v∧zy w.heap.size w' v n∧Kept w w'
theorem X5 (n:Lad) (a1 a2:Option Addr) (l1 c1 l2 c2:Nat) (w:World) (h:jL w (.slice a1 l1 c1) (.slice a2 l2 c2) n) (hu:n.unit.length≤1000) (hn:n.rungs.length≤1000):Calls Tryz.prog 14 #[.agg #[.string n.what,.slice a1 l1 c1,.slice a2 l2 c2,.int .i64 n.lo,.int .i64 n.hi]] w (jc7 n w):=by
 obtain⟨a9,c9,e9,-,-,hrow⟩:=id h.rungs;obtain⟨rfl,rfl,rfl⟩:a2=a9∧l2=n.rungs.length∧c2=c9:=by cases e9;exact⟨rfl,rfl,rfl⟩
 obtain⟨a8,c8,e8,-,-,hvec⟩:=id h.unit;obtain⟨rfl,rfl,rfl⟩:a1=a8∧l1=n.unit.length∧c1=c8:=by cases e8;exact⟨rfl,rfl,rfl⟩
 obtain⟨len,hlen⟩:=eX (n.rungs.length)
 have Vd:=lH hlen;obtain⟨l1,hl1⟩:=eX (n.unit.length)
 rw[hlen] at hrow hn ⊢;rw[hl1] at hvec hu ⊢;obtain⟨HR,Re,Vq,Rf,Rg⟩:=lH5 hrow hvec h.size h.lo h.hi;clear hlen hl1 e9 e8 hrow hvec h;obtain⟨W1,hW1⟩:=eX (w.alloc (.cells #[.string n.what,.slice a1 l1 c1,.slice a2 len c2,.int .i64 n.lo,.int .i64 n.hi] 26))
 have k1:Kept w W1:=by rw[←hW1];exact ja _ _
 have HL:=lH (jf w (.string n.what) [.slice a1 l1 c1,.slice a2 len c2,.int .i64 n.lo,.int .i64 n.hi] 26 W1 (by rw[hW1];exact Kept.refl _));obtain⟨q1,hq1⟩:=eX (w.heap.size)
 rw[hq1] at HL;obtain⟨W2,hW2⟩:=eX (W1.alloc (.cells #[.string ⟨#[]⟩,.slice none 0 0,.slice none 0 0,.int .i64 0,.int .i64 0] 35))
 have k2:Kept W1 W2:=by rw[←hW2];exact ja _ _
 have HZ:=lH (jf W1 (.string ⟨#[]⟩) [.slice none 0 0,.slice none 0 0,.int .i64 0,.int .i64 0] 35 W2 (by rw[hW2];exact Kept.refl _));have hz1:W1.heap.size=q1+1:=by rw[←hW1,World.size_alloc,hq1]
 rw[hz1] at HZ;obtain⟨To,HL,K,Tz,EW1,EW2⟩:=lH6 (show W2.heap.size=q1+2 by rw[←hW2,World.size_alloc,hz1]) (HL.out.kept k2) (k1.trans k2) hq1 hW1 hW2;clear k1 k2 hW1 hW2 hz1 hq1;go_enter Tryz.func14,Tryz.ntmps14;go_upto_region 1 with fail
 try rw[EW1.out]
 try rw[EW2.out]
 try rw[Tz.out]
 clear EW1 EW2;have HS:=lH (show ∀W,Kept W2 W→W.cell? ⟨q1,0,none⟩=some (.string n.what)∧W.cell? ⟨q1,1,none⟩=some (.slice a1 l1 c1)∧W.cell? ⟨q1,2,none⟩=some (.slice a2 len c2)∧W.cell? ⟨q1,3,none⟩=some (.int .i64 n.lo)∧W.cell? ⟨q1,4,none⟩=some (.int .i64 n.hi) from fun W k=>(HL.out.kept k).at5);have Vx:=lH (fun W (k:Kept w W)=>Vec.ja3 a1 l1 c1 n.unit W (Re.out.kept k) (by omega));go_cut [3] from 5 to 14 (fun s3 wx=>∃q xa xm xc,s3=.pointer (some ⟨q,0,none⟩)∧Hid (ju q [.string n.what,.slice xa xm xc,.slice none 0 0,.int .i64 n.lo,.int .i64 n.hi] wx∧Vec.Reads wx (.slice xa xm xc) n.unit∧(∀b off sp,xa=some ⟨b,off,sp⟩→b≠q∧W2.heap.size≤b∧b<wx.heap.size)∧Kept W2 wx∧W2.heap.size≤q))
 case first =>
  have J:=lH (Kept.drew W2);refine wp_region_held_drew (S:=fun W=>Kept W2 W) (by kernel_rfl) (J.out) (fun hHeld=>?_);obtain⟨wd,hwd⟩:=eX (W2.drew)
  rw[hwd] at J hHeld;try rw[hwd]
  clear hwd;refine tR 0 rfl (by kernel_rfl) (fun _ _ _=>id) (Or.inl ⟨by rfl,(by intro W hSw;obtain⟨o0,o1,o2,o3,o4⟩:=HS.out _ hSw;go_simp<;>with_reducible rfl)⟩) ‹_› ?_;try simp only[nA,nB,nC,nD,nE]
  refine tR 1 rfl (by kernel_rfl) (fun _ _ _=>id) (Or.inl ⟨by rfl,(by intro W hSw;obtain⟨o0,o1,o2,o3,o4⟩:=HS.out _ hSw;go_simp<;>with_reducible rfl)⟩) ‹_› ?_;try simp only[nA,nB,nC,nD,nE]
  refine tR 2 rfl (by kernel_rfl) (fun _ _ _=>id) (Or.inl ⟨by rfl,(by intro W hSw;obtain⟨o0,o1,o2,o3,o4⟩:=HS.out _ hSw;go_simp<;>with_reducible rfl)⟩) ‹_› ?_;try simp only[nA,nB,nC,nD,nE]
  refine tR 3 rfl (by kernel_rfl) (fun _ _ _=>id) (Or.inl ⟨by rfl,(by intro W hSw;obtain⟨o0,o1,o2,o3,o4⟩:=HS.out _ hSw;go_simp<;>with_reducible rfl)⟩) ‹_› ?_;try simp only[nA,nB,nC,nD,nE]
  refine tR 5 rfl (by kernel_rfl) (fun _ _ _=>id) (Or.inl ⟨by rfl,(by intro W hSw;obtain⟨o0,o1,o2,o3,o4⟩:=HS.out _ hSw;go_simp<;>with_reducible rfl)⟩) ‹_› ?_;try simp only[nA,nB,nC,nD,nE]
  refine tR 6 rfl (by kernel_rfl) (fun _ _ _=>id) (Or.inl ⟨by rfl,(by intro W hSw;obtain⟨o0,o1,o2,o3,o4⟩:=HS.out _ hSw;go_simp<;>with_reducible rfl)⟩) ‹_› ?_;try simp only[nA,nB,nC,nD,nE]
  refine tR 7 rfl (by kernel_rfl) (fun _ _ _=>id) (Or.inl ⟨by rfl,(by intro W hSw;obtain⟨o0,o1,o2,o3,o4⟩:=HS.out _ hSw;go_simp<;>with_reducible rfl)⟩) ‹_› ?_;try simp only[nA,nB,nC,nD,nE]
  refine tR 8 rfl (by kernel_rfl) (fun _ _ _=>id) (Or.inl ⟨by rfl,(by intro W hSw;obtain⟨o0,o1,o2,o3,o4⟩:=HS.out _ hSw;go_simp<;>with_reducible rfl)⟩) ‹_› ?_;try simp only[nA,nB,nC,nD,nE]
  refine wpAnyH_ready  (rs:=[4,10]) (by kernel_rfl) (by simp) (AllReadyH.cons  (by rw[List.getElem?_toArray];exact rfl) (fun K9 Ky=>?_) (AllReadyH.cons  (by rw[List.getElem?_toArray];exact rfl) (fun K9 Ky=>?_) AllReadyH.nil))
  · skip;go_simp;refine(Vx.out _ (K.out.trans J.out)).mono ?_;rintro e9 ww1 ⟨x9,rfl,ho9,kk⟩;obtain⟨xa,xc,rfl,hx1,hx2,hx3⟩:=id ho9.at_;obtain⟨xm,hxm⟩:=eX (n.unit.length)
    have RD:=lH (show Vec.Reads _ _ n.unit from⟨xa,xc,rfl,hx1,hx2,hx3⟩);have RB:=lH (show ∀b off sp,xa=some ⟨b,off,sp⟩→True∧W2.heap.size≤b∧b<ww1.heap.size from fun b off sp e=>by have h:=ho9.1.lt b (by subst e;rfl);refine⟨trivial,Nat.le_trans J.out.size h.1,h.2⟩);rw[hxm] at RD;try rw[hxm]
    clear ho9 hx1 hx2 hx3 hxm;have J:=lH (J.out.trans kk);clear kk;refine Ky.out _ _ (J.out) (fun _=>?_);clear Ky K9;try simp only[nA,nB,nC,nD,nE]
    refine tR 9 rfl (by kernel_rfl) (fun _ _ _=>id) (Or.inl ⟨by rfl,(by intro W hSw;obtain⟨o0,o1,o2,o3,o4⟩:=HS.out _ hSw;go_simp<;>with_reducible rfl)⟩) ‹_› ?_;try simp only[nA,nB,nC,nD,nE]
    refine rd1 10 fun K9 Ky=>?_;go_simp;have kk:=ja ww1 (.cells #[.string ⟨#[]⟩,.slice none 0 0,.slice none 0 0,.int .i64 0,.int .i64 0] 35);have hn9:=jf ww1 (.string ⟨#[]⟩) [.slice none 0 0,.slice none 0 0,.int .i64 0,.int .i64 0] 35 _ (Kept.refl _);have hp9:W2.heap.size≤ww1.heap.size:=J.out.size;have RB:=lH (show ∀b off sp,xa=some ⟨b,off,sp⟩→b≠ww1.heap.size∧W2.heap.size≤b∧b<(ww1.alloc (.cells #[.string ⟨#[]⟩,.slice none 0 0,.slice none 0 0,.int .i64 0,.int .i64 0] 35)).heap.size from fun b off sp e=>by have h:=RB.out b off sp e;refine⟨by omega,h.2.1,by simp;omega⟩);obtain⟨q,hqe⟩:=eX (ww1.heap.size)
    obtain⟨ww3,hnw⟩:=eX (ww1.alloc (.cells #[.string ⟨#[]⟩,.slice none 0 0,.slice none 0 0,.int .i64 0,.int .i64 0] 35))
    rw[hnw] at hn9 kk RB ⊢;rw[hqe] at hn9 hp9 RB ⊢;clear hnw hqe;obtain⟨J,QA,Vf,RD⟩:=lH4 (J.out.trans kk) hn9 hp9 (RD.out.kept kk);clear hn9 kk hp9;refine Ky.out _ _ (J.out) (fun _=>?_);clear Ky K9;try simp only[nA,nB,nC,nD,nE]
    refine rd1 11 fun K9 Ky=>?_;obtain⟨z0,z1,z2,z3,z4⟩:=QA.out.at5;have y0:=QA.out.free 0;have y1:=QA.out.free 1;have y2:=QA.out.free 2;have y3:=QA.out.free 3;have y4:=QA.out.free 4;go_simp;have PP:=lH (zo (vs:=[.string n.what,.slice xa xm xc,.slice none 0 0,.int .i64 n.lo,.int .i64 n.hi]) QA.out rfl);obtain⟨ww5,hnw⟩:=eX (ww3.setCells q 0 [.string n.what,.slice xa xm xc,.slice none 0 0,.int .i64 n.lo,.int .i64 n.hi])
    have hnw2:(((((ww3.setCell ⟨q,0,none⟩ (.string n.what)).setCell ⟨q,1,none⟩ (.slice xa xm xc)).setCell ⟨q,2,none⟩ (.slice none 0 0)).setCell ⟨q,3,none⟩ (.int .i64 n.lo)).setCell ⟨q,4,none⟩ (.int .i64 n.hi))=ww5:=hnw;rw[hnw] at PP;rw[hnw2];clear hnw hnw2 z0 y0 z1 y1 z2 y2 z3 y3 z4 y4;obtain⟨J,QA,RD,RB⟩:=lH4 (show Kept W2 ww5 from PP.out.below _ _ Vf.out J.out) PP.out.cells (RD.out.far PP.out.size (fun b o sp e=>PP.out.far b (RB.out b o sp e).1)) (show ∀b off sp,xa=some ⟨b,off,sp⟩→b≠q∧W2.heap.size≤b∧b<ww5.heap.size from fun b off sp e=>by rw[PP.out.size];exact RB.out b off sp e);clear PP;refine Ky.out _ _ (J.out) (fun _=>?_);clear Ky K9;try simp only[nA,nB,nC,nD,nE]
    refine wpAnyH_done (by kernel_rfl) ?_ _;go_wp2;go_meet
    case rel=>exact⟨q,xa,xm,xc,rfl,lH ⟨QA.out,RD.out,RB.out,J.out,Vf.out⟩⟩
  · skip;go_simp;have kk:=ja wd (.cells #[.string ⟨#[]⟩,.slice none 0 0,.slice none 0 0,.int .i64 0,.int .i64 0] 35);have hn9:=jf wd (.string ⟨#[]⟩) [.slice none 0 0,.slice none 0 0,.int .i64 0,.int .i64 0] 35 _ (Kept.refl _);have hp9:W2.heap.size≤wd.heap.size:=J.out.size;obtain⟨q,hqe⟩:=eX (wd.heap.size)
    obtain⟨ww7,hnw⟩:=eX (wd.alloc (.cells #[.string ⟨#[]⟩,.slice none 0 0,.slice none 0 0,.int .i64 0,.int .i64 0] 35))
    rw[hnw] at hn9 kk ⊢;rw[hqe] at hn9 hp9 ⊢;clear hnw hqe;obtain⟨J,QA,Vf⟩:=lH3 (J.out.trans kk) hn9 hp9;clear hn9 kk hp9;refine Ky.out _ _ (J.out) (fun _=>?_);clear Ky K9;try simp only[nA,nB,nC,nD,nE]
    refine rd1 4 fun K9 Ky=>?_;go_simp;refine(Vx.out _ (K.out.trans J.out)).mono ?_;rintro e9 ww9 ⟨x9,rfl,ho9,kk⟩;obtain⟨xa,xc,rfl,hx1,hx2,hx3⟩:=id ho9.at_;obtain⟨xm,hxm⟩:=eX (n.unit.length)
    have RD:=lH (show Vec.Reads _ _ n.unit from⟨xa,xc,rfl,hx1,hx2,hx3⟩);have RB:=lH (show ∀b off sp,xa=some ⟨b,off,sp⟩→b≠q∧W2.heap.size≤b∧b<ww9.heap.size from fun b off sp e=>by have h:=ho9.1.lt b (by subst e;rfl);refine⟨?_,Nat.le_trans J.out.size h.1,h.2⟩;have:=QA.out.lt;omega);rw[hxm] at RD;try rw[hxm]
    clear ho9 hx1 hx2 hx3 hxm;have J:=lH (J.out.trans kk);have QA:=lH (QA.out.kept kk);clear kk;refine Ky.out _ _ (J.out) (fun _=>?_);clear Ky K9;try simp only[nA,nB,nC,nD,nE]
    refine tR 9 rfl (by kernel_rfl) (fun _ _ _=>id) (Or.inl ⟨by rfl,(by intro W hSw;obtain⟨o0,o1,o2,o3,o4⟩:=HS.out _ hSw;go_simp<;>with_reducible rfl)⟩) ‹_› ?_;try simp only[nA,nB,nC,nD,nE]
    refine rd1 11 fun K9 Ky=>?_;obtain⟨z0,z1,z2,z3,z4⟩:=QA.out.at5;have y0:=QA.out.free 0;have y1:=QA.out.free 1;have y2:=QA.out.free 2;have y3:=QA.out.free 3;have y4:=QA.out.free 4;go_simp;have PP:=lH (zo (vs:=[.string n.what,.slice xa xm xc,.slice none 0 0,.int .i64 n.lo,.int .i64 n.hi]) QA.out rfl);obtain⟨ww11,hnw⟩:=eX (ww9.setCells q 0 [.string n.what,.slice xa xm xc,.slice none 0 0,.int .i64 n.lo,.int .i64 n.hi])
    have hnw2:(((((ww9.setCell ⟨q,0,none⟩ (.string n.what)).setCell ⟨q,1,none⟩ (.slice xa xm xc)).setCell ⟨q,2,none⟩ (.slice none 0 0)).setCell ⟨q,3,none⟩ (.int .i64 n.lo)).setCell ⟨q,4,none⟩ (.int .i64 n.hi))=ww11:=hnw;rw[hnw] at PP;rw[hnw2];clear hnw hnw2 z0 y0 z1 y1 z2 y2 z3 y3 z4 y4;obtain⟨J,QA,RD,RB⟩:=lH4 (show Kept W2 ww11 from PP.out.below _ _ Vf.out J.out) PP.out.cells (RD.out.far PP.out.size (fun b o sp e=>PP.out.far b (RB.out b o sp e).1)) (show ∀b off sp,xa=some ⟨b,off,sp⟩→b≠q∧W2.heap.size≤b∧b<ww11.heap.size from fun b off sp e=>by rw[PP.out.size];exact RB.out b off sp e);clear PP;refine Ky.out _ _ (J.out) (fun _=>?_);clear Ky K9;try simp only[nA,nB,nC,nD,nE]
    refine wpAnyH_done (by kernel_rfl) ?_ _;go_wp2;go_meet
    case rel=>exact⟨q,xa,xm,xc,rfl,lH ⟨QA.out,RD.out,RB.out,J.out,Vf.out⟩⟩
 case rest =>
  obtain⟨q,xa,xm,xc,rfl,hx⟩:=hcut;obtain⟨QA,RD,RB,J,Vf⟩:=hx.out;obtain⟨QA,RD,RB,J,Vf⟩:=lH5 QA RD RB J Vf;clear hx;obtain⟨B,hB⟩:=eX (wc.heap.size)
  have HB:=lH hB;rw[hB] at RB;have V7:=lH (show q<B by rw[←hB];exact QA.out.lt);clear hB;obtain⟨o0,o1,o2,o3,o4⟩:=HS.out _ J.out;go_wp2;go_loopw [4] (fun i wr=>∃(k:Nat) (av:Option Addr) (cv:Nat),k≤len∧i=.int .i64 k∧ju q [.string n.what,.slice xa xm xc,.slice av k cv,.int .i64 n.lo,.int .i64 n.hi] wr∧Own jt 49 wr B (.slice av k cv) (n.rungs.take k)∧Vec.Reads wr (.slice xa xm xc) n.unit∧Kept W2 wr∧B≤wr.heap.size) (fun i _=>len-(intOf i).toNat)
  case atStart=>exact⟨0,none,0,Nat.zero_le _,rfl,QA.out,Own.nil _ _ _,RD.out,J.out,Nat.le_of_eq HB.out.symm⟩
  case round =>
   obtain⟨k,av,cv,hk,rfl,hqa,how,hrd,hj,hbz⟩:=hrel;clear o0 o1 o2 o3 o4;obtain⟨HT,QA,OW,RD,J,Vp⟩:=lH6 (show (n.rungs.take k).length=k by rw[List.length_take,Vd.out];omega) hqa how hrd hj hbz;clear hqa how hrd hj hbz;obtain⟨o0,o1,o2,o3,o4⟩:=HS.out _ J.out;by_cases hlt:k<len
   · have hk1:(k:Int)<(len:Int):=by omega
     obtain⟨b,off,rfl⟩:∃b off,a2=some ⟨b,off,none⟩:=by rcases HR.out.form with h | h;omega;exact h
     obtain⟨u,c,p,e1,e2,e3,e4,c0,c1x,c2x⟩:=HR.out.rung hlt;obtain⟨Vj,TA,VK⟩:=lH3 (show ∀W,Kept w W→W.cell? ⟨b,off+k*3,none⟩=some (.int .i64 u)∧W.cell? ⟨b,off+k*3+1,none⟩=some (.int .i64 c)∧W.cell? ⟨b,off+k*3+2,none⟩=some (.int .i64 p) from fun W k=>⟨cell_later k c0,cell_later k c1x,cell_later k c2x⟩) (show n.rungs.take (k+1)=n.rungs.take k++[(u,c,p)] by rw[List.take_add_one,e1];rfl) e4;clear e1 e2 e3 e4 c0 c1x c2x;obtain⟨i0,hi,hz0,hz1,hz2⟩:=info_parts jbv;go_wp2_with fail
     clear o0 o1 o2 o3 o4;obtain⟨wd,hwd⟩:=eX (wr.drew)
     have kd:Kept wr wd:=by rw[←hwd];exact Kept.drew wr
     obtain⟨J,QA,OW,RD,Vp⟩:=lH5 (J.out.trans kd) (QA.out.kept kd) (OW.out.kept kd) (RD.out.kept kd) (Nat.le_trans Vp.out kd.size);refine wp_region_held_drew (S:=fun W=>Kept W2 W) (by kernel_rfl) (by rw[hwd];exact J.out) (fun hHeld=>?_);rw[hwd] at hHeld;try rw[hwd]
     clear hwd kd;refine tR 0 rfl (by kernel_rfl) (fun _ _ _=>id) (Or.inl ⟨by rfl,(by intro W hSw;obtain⟨o0,o1,o2,o3,o4⟩:=HS.out _ hSw;obtain⟨r0,r1,r2⟩:=Vj.out _ (K.out.trans hSw);go_simp<;>with_reducible rfl)⟩) ‹_› ?_;try simp only[nA,nB,nC,nD,nE]
     refine tR 2 rfl (by kernel_rfl) (fun _ _ _=>id) (Or.inl ⟨by rfl,(by intro W hSw;obtain⟨o0,o1,o2,o3,o4⟩:=HS.out _ hSw;obtain⟨r0,r1,r2⟩:=Vj.out _ (K.out.trans hSw);go_simp<;>with_reducible rfl)⟩) ‹_› ?_;try simp only[nA,nB,nC,nD,nE]
     refine tR 3 rfl (by kernel_rfl) (fun _ _ _=>id) (Or.inl ⟨by rfl,(by intro W hSw;obtain⟨o0,o1,o2,o3,o4⟩:=HS.out _ hSw;obtain⟨r0,r1,r2⟩:=Vj.out _ (K.out.trans hSw);go_simp<;>with_reducible rfl)⟩) ‹_› ?_;try simp only[nA,nB,nC,nD,nE]
     refine tR 4 rfl (by kernel_rfl) (fun _ _ _=>id) (Or.inl ⟨by rfl,(by intro W hSw;obtain⟨o0,o1,o2,o3,o4⟩:=HS.out _ hSw;obtain⟨r0,r1,r2⟩:=Vj.out _ (K.out.trans hSw);go_simp<;>with_reducible rfl)⟩) ‹_› ?_;try simp only[nA,nB,nC,nD,nE]
     refine tR 5 rfl (by kernel_rfl) (fun _ _ _=>id) (Or.inl ⟨by rfl,(by intro W hSw;obtain⟨o0,o1,o2,o3,o4⟩:=HS.out _ hSw;obtain⟨r0,r1,r2⟩:=Vj.out _ (K.out.trans hSw);go_simp<;>with_reducible rfl)⟩) ‹_› ?_;try simp only[nA,nB,nC,nD,nE]
     refine tR 6 rfl (by kernel_rfl) (fun _ _ _=>id) (Or.inl ⟨by rfl,(by intro W hSw;obtain⟨o0,o1,o2,o3,o4⟩:=HS.out _ hSw;obtain⟨r0,r1,r2⟩:=Vj.out _ (K.out.trans hSw);go_simp<;>with_reducible rfl)⟩) ‹_› ?_;try simp only[nA,nB,nC,nD,nE]
     refine tR 7 rfl (by kernel_rfl) (fun _ _ _=>id) (Or.inl ⟨by rfl,(by intro W hSw;obtain⟨o0,o1,o2,o3,o4⟩:=HS.out _ hSw;obtain⟨r0,r1,r2⟩:=Vj.out _ (K.out.trans hSw);go_simp<;>with_reducible rfl)⟩) ‹_› ?_;try simp only[nA,nB,nC,nD,nE]
     refine tR 8 rfl (by kernel_rfl) (fun _ _ _=>id) (Or.inl ⟨by rfl,(by intro W hSw;obtain⟨o0,o1,o2,o3,o4⟩:=HS.out _ hSw;obtain⟨r0,r1,r2⟩:=Vj.out _ (K.out.trans hSw);go_simp<;>with_reducible rfl)⟩) ‹_› ?_;try simp only[nA,nB,nC,nD,nE]
     refine tR 9 rfl (by kernel_rfl) (fun _ _ _=>id) (Or.inl ⟨by rfl,(by intro W hSw;obtain⟨o0,o1,o2,o3,o4⟩:=HS.out _ hSw;obtain⟨r0,r1,r2⟩:=Vj.out _ (K.out.trans hSw);go_simp<;>with_reducible rfl)⟩) ‹_› ?_;try simp only[nA,nB,nC,nD,nE]
     refine tR 10 rfl (by kernel_rfl) (fun _ _ _=>id) (Or.inl ⟨by rfl,(by intro W hSw;obtain⟨o0,o1,o2,o3,o4⟩:=HS.out _ hSw;obtain⟨r0,r1,r2⟩:=Vj.out _ (K.out.trans hSw);go_simp<;>with_reducible rfl)⟩) ‹_› ?_;try simp only[nA,nB,nC,nD,nE]
     refine tR 11 rfl (by kernel_rfl) (fun _ _ _=>id) (Or.inl ⟨by rfl,(by intro W hSw;obtain⟨o0,o1,o2,o3,o4⟩:=HS.out _ hSw;obtain⟨r0,r1,r2⟩:=Vj.out _ (K.out.trans hSw);go_simp<;>with_reducible rfl)⟩) ‹_› ?_;try simp only[nA,nB,nC,nD,nE]
     refine tR 12 rfl (by kernel_rfl) (fun _ _ _=>id) (Or.inl ⟨by rfl,(by intro W hSw;obtain⟨o0,o1,o2,o3,o4⟩:=HS.out _ hSw;obtain⟨r0,r1,r2⟩:=Vj.out _ (K.out.trans hSw);go_simp<;>with_reducible rfl)⟩) ‹_› ?_;try simp only[nA,nB,nC,nD,nE]
     refine tR 13 rfl (by kernel_rfl) (fun _ _ _=>id) (Or.inl ⟨by rfl,(by intro W hSw;obtain⟨o0,o1,o2,o3,o4⟩:=HS.out _ hSw;obtain⟨r0,r1,r2⟩:=Vj.out _ (K.out.trans hSw);go_simp<;>with_reducible rfl)⟩) ‹_› ?_;try simp only[nA,nB,nC,nD,nE]
     refine tR 14 rfl (by kernel_rfl) (fun _ _ _=>id) (Or.inl ⟨by rfl,(by intro W hSw;obtain⟨o0,o1,o2,o3,o4⟩:=HS.out _ hSw;obtain⟨r0,r1,r2⟩:=Vj.out _ (K.out.trans hSw);go_simp<;>with_reducible rfl)⟩) ‹_› ?_;try simp only[nA,nB,nC,nD,nE]
     refine tR 15 rfl (by kernel_rfl) (fun _ _ _=>id) (Or.inl ⟨by rfl,(by intro W hSw;obtain⟨o0,o1,o2,o3,o4⟩:=HS.out _ hSw;obtain⟨r0,r1,r2⟩:=Vj.out _ (K.out.trans hSw);go_simp<;>with_reducible rfl)⟩) ‹_› ?_;try simp only[nA,nB,nC,nD,nE]
     refine tR 16 rfl (by kernel_rfl) (fun _ _ _=>id) (Or.inl ⟨by rfl,(by intro W hSw;obtain⟨o0,o1,o2,o3,o4⟩:=HS.out _ hSw;obtain⟨r0,r1,r2⟩:=Vj.out _ (K.out.trans hSw);go_simp<;>with_reducible rfl)⟩) ‹_› ?_;try simp only[nA,nB,nC,nD,nE]
     refine tR 17 rfl (by kernel_rfl) (fun _ _ _=>id) (Or.inl ⟨by rfl,(by intro W hSw;obtain⟨o0,o1,o2,o3,o4⟩:=HS.out _ hSw;obtain⟨r0,r1,r2⟩:=Vj.out _ (K.out.trans hSw);go_simp<;>with_reducible rfl)⟩) ‹_› ?_;try simp only[nA,nB,nC,nD,nE]
     refine tR 18 rfl (by kernel_rfl) (fun _ _ _=>id) (Or.inl ⟨by rfl,(by intro W hSw;obtain⟨o0,o1,o2,o3,o4⟩:=HS.out _ hSw;obtain⟨r0,r1,r2⟩:=Vj.out _ (K.out.trans hSw);go_simp<;>with_reducible rfl)⟩) ‹_› ?_;try simp only[nA,nB,nC,nD,nE]
     refine tR 19 rfl (by kernel_rfl) (fun _ _ _=>id) (Or.inl ⟨by rfl,(by intro W hSw;obtain⟨o0,o1,o2,o3,o4⟩:=HS.out _ hSw;obtain⟨r0,r1,r2⟩:=Vj.out _ (K.out.trans hSw);go_simp<;>with_reducible rfl)⟩) ‹_› ?_;try simp only[nA,nB,nC,nD,nE]
     refine tR 20 rfl (by kernel_rfl) (fun _ _ _=>id) (Or.inl ⟨by rfl,(by intro W hSw;obtain⟨o0,o1,o2,o3,o4⟩:=HS.out _ hSw;obtain⟨r0,r1,r2⟩:=Vj.out _ (K.out.trans hSw);go_simp<;>with_reducible rfl)⟩) ‹_› ?_;try simp only[nA,nB,nC,nD,nE]
     refine wpAnyH_ready  (rs:=[1,21]) (by kernel_rfl) (by simp) (AllReadyH.cons  (by rw[List.getElem?_toArray];exact rfl) (fun K9 Ky=>?_) (AllReadyH.cons  (by rw[List.getElem?_toArray];exact rfl) (fun K9 Ky=>?_) AllReadyH.nil))
     · skip;obtain⟨z0,z1,z2,z3,z4⟩:=QA.out.at5;go_simp;clear z0 z1 z2 z3 z4;refine Ky.out _ _ (J.out) (fun _=>?_);clear Ky K9;try simp only[nA,nB,nC,nD,nE]
       refine rd1 21 fun K9 Ky=>?_;go_simp;obtain⟨g0,hg0⟩:=eX (wd.heap.size)
       obtain⟨vv15,hnw⟩:=eX (wd.alloc (.cells #[.int .i64 u,.int .i64 c,.int .i64 p] 49))
       have kk:Kept wd vv15:=by rw[←hnw];exact ja _ _
       have HC:=lH (show vv15.heap[g0]?=some (.cells #[.int .i64 u,.int .i64 c,.int .i64 p] 49) by rw[←hnw,←hg0];exact World.alloc_heap_new wd _);try rw[hnw]
       try rw[hg0]
       clear hnw hg0;obtain⟨J,QA,OW,RD,Vp⟩:=lH5 (J.out.trans kk) (QA.out.kept kk) (OW.out.kept kk) (RD.out.kept kk) (Nat.le_trans Vp.out kk.size);clear kk;refine Ky.out _ _ (J.out) (fun _=>?_);clear Ky K9;try simp only[nA,nB,nC,nD,nE]
       refine rd1 22 fun K9 Ky=>?_;refine step_append_lies _ (by rfl) _ _ _ (by rfl) B 49 i0 _ 3 24 Tryz.underlying33 hi hz0 hz1 hz2 rfl (by decide) (.slice av k cv) k (jG jt (n.rungs.take k)) (by rfl) (by have:=OW.out.1;rw[HT.out] at this;exact this) ⟨g0,0,none⟩ 1 1 [.int .i64 u,.int .i64 c,.int .i64 p] (by rfl) (by rfl) (World.news_of_block (cs:=#[.int .i64 u,.int .i64 c,.int .i64 p]) (t:=49) (fr:=(0,0)) HC.out) (Jn jt [(u,c,p)]) (by decide) (by unfold maxLen;omega) (by omega) Vp.out _ rfl ?_;intro gg cap1 vv17 hown1 hgrow hat hlt1;have Uj:=lH (show ∀r,(Value.slice av k cv).ownBlock=some r→B≤r from fun r hr=>(OW.out.1.lt r hr).1);obtain⟨QA,RD,J,Vp,OW⟩:=lH5 (QA.out.block (hgrow.block q QA.out.lt (fun e=>by have:=Uj.out q e.symm;have:=V7.out;omega))) (RD.out.grow hgrow.size (fun b o sp e=>hgrow.block b (by have:=(RB.out b o sp e).2.2;have:=Vp.out;omega) (fun e9=>by have:=Uj.out b e9.symm;have:=(RB.out b o sp e).2.2;omega))) (show Kept W2 vv17 from(show Below W2.heap.size W2 vv15 from J.out).grown hgrow J.out.size (fun j hj=>by have:=Uj.out j hj;have:=V7.out;have:=Vf.out;omega)) (Nat.le_trans Vp.out hgrow.size) (show Own jt 49 vv17 B (.slice (some ⟨gg,0,none⟩) (k+1) cap1) (n.rungs.take (k+1)) by rw[TA.out];exact Own.snoc hown1 (by rw[HT.out]) OW.out.2 VK.out);clear hgrow hat hlt1 hown1;refine Ky.out _ _ (J.out) (fun _=>?_);clear Ky K9;try simp only[nA,nB,nC,nD,nE]
       refine tR 23 rfl (by kernel_rfl) (fun _ _ _=>id) (Or.inl ⟨by rfl,(by intro W hSw;obtain⟨o0,o1,o2,o3,o4⟩:=HS.out _ hSw;obtain⟨r0,r1,r2⟩:=Vj.out _ (K.out.trans hSw);go_simp<;>with_reducible rfl)⟩) ‹_› ?_;try simp only[nA,nB,nC,nD,nE]
       refine rd1 24 fun K9 Ky=>?_;obtain⟨z0,z1,z2,z3,z4⟩:=QA.out.at5;have y2:=QA.out.free 2;go_simp;obtain⟨vv19,hnw⟩:=eX (vv17.setCell ⟨q,2,none⟩ (.slice (some ⟨gg,0,none⟩) (k+1) cap1))
       obtain⟨QA,OW,RD,J,Vp⟩:=lH5 (show ju q [.string n.what,.slice xa xm xc,.slice (some ⟨gg,0,none⟩) (k+1) cap1,.int .i64 n.lo,.int .i64 n.hi] vv19 by rw[←hnw];exact QA.out.set (j:=2) (by show 2<5;omega)) (show Own jt 49 vv19 B _ _ by rw[←hnw];exact OW.out.setCell_below (a:=⟨q,2,none⟩) V7.out _) (show Vec.Reads vv19 _ _ by rw[←hnw];exact RD.out.grow (by simp[World.setCell]) (fun b o sp e=>Below.heap_setCell _ ⟨q,2,none⟩ _ b (RB.out b o sp e).1)) (show Kept W2 vv19 by rw[←hnw];exact(show Below W2.heap.size W2 vv17 from J.out).setCell (p:=⟨q,2,none⟩) Vf.out _) (show B≤vv19.heap.size by rw[←hnw];have:=Vp.out;simpa [World.setCell] using this);try rw[hnw]
       clear hnw z0 z1 z2 z3 z4 y2;refine Ky.out _ _ (J.out) (fun _=>?_);clear Ky K9;try simp only[nA,nB,nC,nD,nE]
       refine wpAnyH_done (by kernel_rfl) ?_ _;go_wp2;go_roundw
       case rel=>exact⟨k+1,some ⟨gg,0,none⟩,cap1,by omega,by go_num,QA.out,OW.out,RD.out,J.out,Vp.out⟩
       case measure=>simp[intOf];omega
     · skip;go_simp;obtain⟨g0,hg0⟩:=eX (wd.heap.size)
       obtain⟨vv21,hnw⟩:=eX (wd.alloc (.cells #[.int .i64 u,.int .i64 c,.int .i64 p] 49))
       have kk:Kept wd vv21:=by rw[←hnw];exact ja _ _
       have HC:=lH (show vv21.heap[g0]?=some (.cells #[.int .i64 u,.int .i64 c,.int .i64 p] 49) by rw[←hnw,←hg0];exact World.alloc_heap_new wd _);try rw[hnw]
       try rw[hg0]
       clear hnw hg0;obtain⟨J,QA,OW,RD,Vp⟩:=lH5 (J.out.trans kk) (QA.out.kept kk) (OW.out.kept kk) (RD.out.kept kk) (Nat.le_trans Vp.out kk.size);clear kk;refine Ky.out _ _ (J.out) (fun _=>?_);clear Ky K9;try simp only[nA,nB,nC,nD,nE]
       refine rd1 1 fun K9 Ky=>?_;obtain⟨z0,z1,z2,z3,z4⟩:=QA.out.at5;go_simp;clear z0 z1 z2 z3 z4;refine Ky.out _ _ (J.out) (fun _=>?_);clear Ky K9;try simp only[nA,nB,nC,nD,nE]
       refine rd1 22 fun K9 Ky=>?_;refine step_append_lies _ (by rfl) _ _ _ (by rfl) B 49 i0 _ 3 24 Tryz.underlying33 hi hz0 hz1 hz2 rfl (by decide) (.slice av k cv) k (jG jt (n.rungs.take k)) (by rfl) (by have:=OW.out.1;rw[HT.out] at this;exact this) ⟨g0,0,none⟩ 1 1 [.int .i64 u,.int .i64 c,.int .i64 p] (by rfl) (by rfl) (World.news_of_block (cs:=#[.int .i64 u,.int .i64 c,.int .i64 p]) (t:=49) (fr:=(0,0)) HC.out) (Jn jt [(u,c,p)]) (by decide) (by unfold maxLen;omega) (by omega) Vp.out _ rfl ?_;intro gg cap1 vv25 hown1 hgrow hat hlt1;have Uj:=lH (show ∀r,(Value.slice av k cv).ownBlock=some r→B≤r from fun r hr=>(OW.out.1.lt r hr).1);obtain⟨QA,RD,J,Vp,OW⟩:=lH5 (QA.out.block (hgrow.block q QA.out.lt (fun e=>by have:=Uj.out q e.symm;have:=V7.out;omega))) (RD.out.grow hgrow.size (fun b o sp e=>hgrow.block b (by have:=(RB.out b o sp e).2.2;have:=Vp.out;omega) (fun e9=>by have:=Uj.out b e9.symm;have:=(RB.out b o sp e).2.2;omega))) (show Kept W2 vv25 from(show Below W2.heap.size W2 vv21 from J.out).grown hgrow J.out.size (fun j hj=>by have:=Uj.out j hj;have:=V7.out;have:=Vf.out;omega)) (Nat.le_trans Vp.out hgrow.size) (show Own jt 49 vv25 B (.slice (some ⟨gg,0,none⟩) (k+1) cap1) (n.rungs.take (k+1)) by rw[TA.out];exact Own.snoc hown1 (by rw[HT.out]) OW.out.2 VK.out);clear hgrow hat hlt1 hown1;refine Ky.out _ _ (J.out) (fun _=>?_);clear Ky K9;try simp only[nA,nB,nC,nD,nE]
       refine tR 23 rfl (by kernel_rfl) (fun _ _ _=>id) (Or.inl ⟨by rfl,(by intro W hSw;obtain⟨o0,o1,o2,o3,o4⟩:=HS.out _ hSw;obtain⟨r0,r1,r2⟩:=Vj.out _ (K.out.trans hSw);go_simp<;>with_reducible rfl)⟩) ‹_› ?_;try simp only[nA,nB,nC,nD,nE]
       refine rd1 24 fun K9 Ky=>?_;obtain⟨z0,z1,z2,z3,z4⟩:=QA.out.at5;have y2:=QA.out.free 2;go_simp;obtain⟨vv27,hnw⟩:=eX (vv25.setCell ⟨q,2,none⟩ (.slice (some ⟨gg,0,none⟩) (k+1) cap1))
       obtain⟨QA,OW,RD,J,Vp⟩:=lH5 (show ju q [.string n.what,.slice xa xm xc,.slice (some ⟨gg,0,none⟩) (k+1) cap1,.int .i64 n.lo,.int .i64 n.hi] vv27 by rw[←hnw];exact QA.out.set (j:=2) (by show 2<5;omega)) (show Own jt 49 vv27 B _ _ by rw[←hnw];exact OW.out.setCell_below (a:=⟨q,2,none⟩) V7.out _) (show Vec.Reads vv27 _ _ by rw[←hnw];exact RD.out.grow (by simp[World.setCell]) (fun b o sp e=>Below.heap_setCell _ ⟨q,2,none⟩ _ b (RB.out b o sp e).1)) (show Kept W2 vv27 by rw[←hnw];exact(show Below W2.heap.size W2 vv25 from J.out).setCell (p:=⟨q,2,none⟩) Vf.out _) (show B≤vv27.heap.size by rw[←hnw];have:=Vp.out;simpa [World.setCell] using this);try rw[hnw]
       clear hnw z0 z1 z2 z3 z4 y2;refine Ky.out _ _ (J.out) (fun _=>?_);clear Ky K9;try simp only[nA,nB,nC,nD,nE]
       refine wpAnyH_done (by kernel_rfl) ?_ _;go_wp2;go_roundw
       case rel=>exact⟨k+1,some ⟨gg,0,none⟩,cap1,by omega,by go_num,QA.out,OW.out,RD.out,J.out,Vp.out⟩
       case measure=>simp[intOf];omega
   · have hge:¬(k:Int)<(len:Int):=by omega
     obtain rfl:k=len:=by omega
     have V6:=lH (show n.rungs.take k=n.rungs by rw[List.take_of_length_le (by rw[Vd.out];omega)]);have HZ:=lH (HZ.out.kept J.out);obtain⟨z0,z1,z2,z3,z4⟩:=QA.out.at5;obtain⟨x0,x1,x2,x3,x4⟩:=HZ.out.at5;have y0:=HZ.out.free 0;have y1:=HZ.out.free 1;have y2:=HZ.out.free 2;have y3:=HZ.out.free 3;have y4:=HZ.out.free 4;have PP:=lH (zo (vs:=[.string n.what,.slice xa xm xc,.slice av k cv,.int .i64 n.lo,.int .i64 n.hi]) HZ.out rfl);obtain⟨WE,hWE⟩:=eX (wr.setCells (q1+1) 0 [.string n.what,.slice xa xm xc,.slice av k cv,.int .i64 n.lo,.int .i64 n.hi])
     have hWE2:(((((wr.setCell ⟨q1+1,0,none⟩ (Value.string n.what)).setCell ⟨q1+1,1,none⟩ (Value.slice xa xm xc)).setCell ⟨q1+1,2,none⟩ (Value.slice av k cv)).setCell ⟨q1+1,3,none⟩ (Value.int .i64 n.lo)).setCell ⟨q1+1,4,none⟩ (Value.int .i64 n.hi))=WE:=hWE;rw[hWE] at PP;have EWE:=lH hWE2;clear hWE hWE2;go_wp2;try rw[EWE.out]
     clear z0 z1 z2 z3 z4 x0 x1 x2 x3 x4 o0 o1 o2 o3 o4 y0 y1 y2 y3 y4;obtain⟨d0,d1,d2,d3,d4⟩:=PP.out.cells.at5;refine bodyPost_ret (by simp[results,Tryz.results14,go_sem,d0,d1,d2,d3,d4];try rfl) rfl ?_;have hq2:=To.out;have hq0:=Tz.out;have hkk:=K.out.size;have hr:=OW.out.reads;rw[V6.out] at hr;refine⟨_,rfl,⟨xa,xm,xc,av,k,cv,rfl,⟨Vq.out,RD.out.far PP.out.size (fun b o sp e=>PP.out.far b (by have:=(RB.out b o sp e).2.1;omega)),hr.far PP.out.size (fun b o sp e=>PP.out.far b ?_),Rf.out,Rg.out⟩,fun b o sp e=>by have:=(RB.out b o sp e).2.1;omega,fun b o sp e=>?_⟩,PP.out.below _ _ (by omega) (K.out.trans J.out)⟩
     · have:=(OW.out.1.lt b (by subst e;rfl)).1;have:=V7.out;have:=Vf.out;omega
     · have:=(OW.out.1.lt b (by subst e;rfl)).1;have:=V7.out;have:=Vf.out;omega
theorem jcO {a b c d v:Int} (h:a=v) (hv:v≠0):orL [a,b,c,d]=v:=by subst h;show (if a≠0 then a else _)=a;rw[if_pos hv]
theorem jcM {a b c d v:Int} (h1:a=0) (h:b=v) (hv:v≠0):orL [a,b,c,d]=v:=by
 subst h;subst h1;show (if (0:Int)≠0 then (0:Int) else if b≠0 then b else _)=b;rw[if_neg (by decide),if_pos hv]
theorem qf {a b c d v:Int} (h1:a=0) (h2:b=0) (h:c=v) (hv:v≠0):orL [a,b,c,d]=v:=by
 subst h;subst h1;subst h2;show (if (0:Int)≠0 then (0:Int) else if (0:Int)≠0 then (0:Int) else if c≠0 then c else _)=c;rw[if_neg (by decide),if_neg (by decide),if_pos hv]
theorem jcT {a b c d:Int} (h1:a=0) (h2:b=0) (h3:c=0):orL [a,b,c,d]=d:=by
 subst h1;subst h2;subst h3;show (if (0:Int)≠0 then (0:Int) else if (0:Int)≠0 then (0:Int) else if (0:Int)≠0 then (0:Int) else if d≠0 then d else 0)=d;rw[if_neg (by decide),if_neg (by decide),if_neg (by decide)];by_cases h:d=0
 · rw[if_neg (fun g=>g h),h]
 · rw[if_pos h]
theorem XL (n:Lad) (v1 v2:Value) (w:World) (h:jL w v1 v2 n):Calls Tryz.prog 15 #[zz n v1 v2] w (Say (.int .i64 (jP n)) w):=by
 obtain⟨x,un,l,lo,hi⟩:=n;obtain⟨a2,c2,rfl,-,-,hr⟩:=id h.rungs;have hl:l.length=l.length:=rfl;obtain⟨len,hlen⟩:=eX (l.length)
 dsimp only at hr;rw[hlen] at hr;have Vd:=lH hlen;have HR:=lH hr;have hm:=hr.2.1;unfold maxLen at hm;have s0:x.size≤maxLen:=h.size;unfold zz;dsimp only;rw[hlen];clear hl;obtain⟨W0,hW0⟩:=eX (w.alloc (.cells #[.string x,v1,.slice a2 len c2,.int .i64 lo,.int .i64 hi] 35))
 have hk0:Kept w W0:=by rw[←hW0];exact ja _ _
 obtain⟨Q,hQ⟩:=eX (w.heap.size)
 have HC:=lH (show ∀W,Kept W0 W→W.cell? ⟨Q,0,none⟩=some (.string x)∧W.cell? ⟨Q,1,none⟩=some (v1)∧W.cell? ⟨Q,2,none⟩=some (.slice a2 len c2)∧W.cell? ⟨Q,3,none⟩=some (.int .i64 lo)∧W.cell? ⟨Q,4,none⟩=some (.int .i64 hi) from fun W k=>by rw[←hQ];exact(jf w (.string x) [v1,.slice a2 len c2,.int .i64 lo,.int .i64 hi] 35 W (by rw[hW0];exact k)).at5);obtain⟨y1,hy1⟩:=eX (Vec.jc un)
 have E1:=lH (fun W (k:Kept W0 W)=>Vec.YH (h.unit.kept (hk0.trans k)) hy1);obtain⟨r0,hr0⟩:=eX (isName x)
 obtain⟨N0,HV,K0,HW,HQ⟩:=lH5 (fun W=>Vec.jc2 (w:=W) s0 hr0) (show jP ⟨x,un,l,lo,hi⟩=orL [if r0=true then 0 else 3,y1,jI lo hi,jM l] by rw[←hy1,←hr0];rfl) hk0 hW0 hQ;clear h hr hk0 hy1 hr0 hlen hW0 hQ;obtain⟨p0,p1,p2,p3,p4⟩:=HC.out _ (Kept.refl _);go_enter Tryz.func15,Tryz.ntmps15;go_upto_region 1 with fail
 try rw[HW.out]
 try rw[HQ.out]
 cases r0 with
 | false =>
  go_wp2_with (go_at_call 32;refine(N0.out _).mono ?_;rintro e w9 ⟨rfl,rfl⟩)
  go_ret;exact⟨jd (HV.out.trans (jcO (by simp) (by decide))).symm,K0.out⟩
 | true =>
  go_upto_region 3 with (go_at_call 32;refine(N0.out _).mono ?_;rintro e w9 ⟨rfl,rfl⟩)
  go_upto_region 4 with (go_at_call 12;refine(E1.out _ (Kept.refl _)).mono ?_;rintro e w1 ⟨rfl,k1⟩;have K1:=lH k1;clear k1;obtain⟨o0,o1,o2,o3,o4⟩:=HC.out _ K1.out)
  clear p0 p1 p2 p3 p4;by_cases z1:y1=0
  case neg =>
   have z1':(y1 != 0)=true:=by simpa using z1
   go_wp2;go_ret;exact⟨jd (HV.out.trans (jcM (by simp) rfl z1)).symm,K0.out.trans K1.out⟩
  subst z1;by_cases h0:lo<0
  case pos =>
   have HL:=lH (show jI lo hi=1 by unfold jI;rw[if_pos (by omega)]);go_wp2;go_ret;exact⟨jd (HV.out.trans (qf (by simp) rfl HL.out (by decide))).symm,K0.out.trans K1.out⟩
  by_cases h1:hi<lo
  case pos =>
   have HL:=lH (show jI lo hi=1 by unfold jI;rw[if_pos (by omega)]);go_wp2;go_ret;exact⟨jd (HV.out.trans (qf (by simp) rfl HL.out (by decide))).symm,K0.out.trans K1.out⟩
  by_cases h2:128<hi
  case pos =>
   have HL:=lH (show jI lo hi=1 by unfold jI;rw[if_pos (by omega)]);go_wp2;go_ret;exact⟨jd (HV.out.trans (qf (by simp) rfl HL.out (by decide))).symm,K0.out.trans K1.out⟩
  have HL:=lH (show jI lo hi=0 by unfold jI;rw[if_neg (by omega)]);have HV:=lH (HV.out.trans (jcT (by simp) rfl HL.out));by_cases h8:8<len
  case pos =>
   have Rh:=lH (show jM l=4 by unfold jM;rw[Vd.out,if_pos h8]);have h8i:(8:Int)<(len:Int):=by omega
   go_wp2;go_ret;exact⟨jd (HV.out.trans Rh.out).symm,K0.out.trans K1.out⟩
  have h8i:¬(8:Int)<(len:Int):=by omega
  have HV:=lH (HV.out.trans (show jM l=jh none l by unfold jM;rw[Vd.out,if_neg h8]));go_wp2;clear o0 o1 o2 o3 o4;go_loopw [4] (fun i wr=>∃k:Nat,k≤len∧i=.int .i64 k∧jh (j0 l k) (l.drop k)=jh none l∧Kept w1 wr) (fun i _=>len-(intOf i).toNat)
  case atStart=>exact⟨0,Nat.zero_le _,rfl,rfl,Kept.refl _⟩
  case round =>
   obtain⟨k,hk,rfl,hrest,hK⟩:=hrel;obtain⟨HS,HT,HK,Up⟩:=lH4 (HV.out.trans hrest.symm) hrest (K1.out.trans hK) hK;obtain⟨o0,o1,o2,o3,o4⟩:=HC.out _ HK.out;clear hrest hK;by_cases hlt:k<len
   · obtain⟨b,off,rfl⟩:∃b off,a2=some ⟨b,off,none⟩:=by rcases HR.out.form with h | h;omega;exact h
     obtain⟨u,c,p,hn,hd,hb,hfine,c0,c1x,c2x⟩:=(HR.out.kept (K0.out.trans HK.out)).rung hlt;have HD:=lH hd;have Uc:=lH (Yi hn);have hkk:(k:Int)<(len:Int):=by omega
     clear hd hn hfine;obtain⟨W2,hW2⟩:=eX (wr.alloc (.cells #[.int .i64 u,.int .i64 c,.int .i64 p] 49))
     have k2:Kept wr W2:=by rw[←hW2];exact ja _ _
     obtain⟨Q2,hQ2⟩:=eX (wr.heap.size)
     obtain⟨HB,K2,K2W,EW2,EQ2⟩:=lH5 (show ∀W,Kept W2 W→W.cell? ⟨Q2,0,none⟩=some (.int .i64 u)∧W.cell? ⟨Q2,1,none⟩=some (.int .i64 c)∧W.cell? ⟨Q2,2,none⟩=some (.int .i64 p) from fun W k=>by rw[←hQ2];exact(jf wr (.int .i64 u) [.int .i64 c,.int .i64 p] 49 W (by rw[hW2];exact k)).at3) (HK.out.trans k2) (Up.out.trans k2) hW2 hQ2;clear hW2 hQ2 k2;go_upto_region 14 with fail
     try rw[EW2.out]
     try rw[EQ2.out]
     clear o0 o1 o2 o3 o4 c0 c1x c2x;obtain⟨o0,o1,o2,o3,o4⟩:=HC.out _ K2.out;obtain⟨b0,b1,b2⟩:=HB.out _ (Kept.refl _);by_cases g0:u<0
     case pos =>
      have Vh:=lH (show ji u c p=1 by unfold ji;rw[if_pos (by omega)]);have Vk:=lH (show jh (j0 l k) (l.drop k)=1 by rw[HD.out,zZ (n:=(u,c,p)) (by dsimp only;rw[Vh.out];decide)];exact Vh.out);go_wp2;go_ret;exact⟨jd (HS.out.trans Vk.out).symm,K0.out.trans K2.out⟩
     by_cases g1:p<0
     case pos =>
      have Vh:=lH (show ji u c p=1 by unfold ji;rw[if_pos (by omega)]);have Vk:=lH (show jh (j0 l k) (l.drop k)=1 by rw[HD.out,zZ (n:=(u,c,p)) (by dsimp only;rw[Vh.out];decide)];exact Vh.out);go_wp2;go_ret;exact⟨jd (HS.out.trans Vk.out).symm,K0.out.trans K2.out⟩
     by_cases g2:1000000<p
     case pos =>
      have Vh:=lH (show ji u c p=1 by unfold ji;rw[if_pos (by omega)]);have Vk:=lH (show jh (j0 l k) (l.drop k)=1 by rw[HD.out,zZ (n:=(u,c,p)) (by dsimp only;rw[Vh.out];decide)];exact Vh.out);go_wp2;go_ret;exact⟨jd (HS.out.trans Vk.out).symm,K0.out.trans K2.out⟩
     by_cases g3:c<0
     case pos =>
      have Vh:=lH (show ji u c p=1 by unfold ji;rw[if_pos (by omega)]);have Vk:=lH (show jh (j0 l k) (l.drop k)=1 by rw[HD.out,zZ (n:=(u,c,p)) (by dsimp only;rw[Vh.out];decide)];exact Vh.out);go_wp2;go_ret;exact⟨jd (HS.out.trans Vk.out).symm,K0.out.trans K2.out⟩
     by_cases g4:128<c
     case pos =>
      have Vh:=lH (show ji u c p=1 by unfold ji;rw[if_pos (by omega)]);have Vk:=lH (show jh (j0 l k) (l.drop k)=1 by rw[HD.out,zZ (n:=(u,c,p)) (by dsimp only;rw[Vh.out];decide)];exact Vh.out);go_wp2;go_ret;exact⟨jd (HS.out.trans Vk.out).symm,K0.out.trans K2.out⟩
     have Ud:=lH (show ji u c p=0 by unfold ji;rw[if_neg (by omega)]);by_cases hz:k=0
     · have HP:=lH (Z6 (l:=l) (n:=(u,c,p)) (t:=l.drop (k+1)) hz Ud.out);have hd0:decide (0<k)=false:=by subst hz;decide
       have hk0:¬(0:Int)<(k:Int):=by omega
       go_wp2;go_quiet (fail)
       go_wp2;go_roundw
       case rel=>exact⟨k+1,by omega,by go_num,(show jh (j0 l (k+1)) (l.drop (k+1))=jh none l by rw[←HT.out,HD.out,HP.out,Uc.out]),K2W.out.trans (by first | exact Kept.refl _ | exact Kept.drew _ | exact Kept.drewN _ _)⟩
       case measure=>simp[intOf];omega
     · obtain⟨q,hqk⟩:∃q,k=q+1:=⟨k-1,by omega⟩
       have hd0:decide (0<k)=true:=by simp;omega
       have hk0:(0:Int)<(k:Int):=by omega
       have g8:(k:Int)-1=(q:Int):=by omega
       have gw:IntKind.i64.wrap (q:Int)=(q:Int):=by rw[IntKind.wrap_i64];omega
       have g9:(q:Int)<(len:Int):=by omega
       obtain⟨u9,c9,p9,hn9,-,hb9,-,q0,q1,q2⟩:=(HR.out.kept (K0.out.trans K2.out)).rung (show q<len by omega);have hqk1:k-1=q:=by omega
       have HP:=lH (YZ (l:=l) (n:=(u,c,p)) (q:=(u9,c9,p9)) (t:=l.drop (k+1)) hz (by rw[hqk1];exact hn9) Ud.out);dsimp only at HP;clear hqk hqk1 hn9 hz;have Uk:=lH (show ∀W,Kept W2 W→(W.cell? ⟨Q,2,none⟩=some (.slice (some ⟨b,off,none⟩) len c2))∧(W.cell? ⟨Q2,0,none⟩=some (.int .i64 u))∧(W.cell? ⟨b,off+q*3,none⟩=some (.int .i64 u9)) from fun W k=>⟨(HC.out _ (K2.out.trans k)).2.2.1,(HB.out _ k).1,cell_later k q0⟩);by_cases hle:u≤u9
       · have Ru:=Uk;go_wp2;go_region_held3 (fun W=>(W.cell? ⟨Q,2,none⟩=some (.slice (some ⟨b,off,none⟩) len c2))∧(W.cell? ⟨Q2,0,none⟩=some (.int .i64 u))∧(W.cell? ⟨b,off+q*3,none⟩=some (.int .i64 u9))) (first | exact Uk.out _ (Kept.drew _) | exact Uk.out _ (Kept.refl _)) (fail)
         go_wp2;go_ret;exact⟨jd (show (13:Int)=_ by rw[HS.out,HD.out,HP.out,if_pos hle]),K0.out.trans (K2.out.trans (by first | exact Kept.refl _ | exact Kept.drew _ | exact Kept.drewN _ _))⟩
       · go_wp2;go_region_held3 (fun W=>(W.cell? ⟨Q,2,none⟩=some (.slice (some ⟨b,off,none⟩) len c2))∧(W.cell? ⟨Q2,0,none⟩=some (.int .i64 u))∧(W.cell? ⟨b,off+q*3,none⟩=some (.int .i64 u9))) (first | exact Uk.out _ (Kept.drew _) | exact Uk.out _ (Kept.refl _)) (fail)
         go_wp2;go_roundw
         case rel=>exact⟨k+1,by omega,by go_num,(show jh (j0 l (k+1)) (l.drop (k+1))=jh none l by rw[←HT.out,HD.out,HP.out,if_neg (by omega),Uc.out]),K2W.out.trans (by first | exact Kept.refl _ | exact Kept.drew _ | exact Kept.drewN _ _)⟩
         case measure=>simp[intOf];omega
   · have HE:=lH (show jh (j0 l k) (l.drop k)=0 by rw[List.drop_of_length_le (by rw[Vd.out];omega)];rfl);have hkk:¬(k:Int)<(len:Int):=by omega
     go_wp2;go_ret;exact⟨jd (HS.out.trans HE.out).symm,K0.out.trans HK.out⟩
theorem YK {n:Lad} {v:Value} {c:Int} {w:World} (h:Jc w v n) (hc:jP n=c):Calls Tryz.prog 15 #[v] w (Say (.int .i64 c) w):=by
 subst hc;obtain⟨v1,v2,rfl,h⟩:=h;exact XL n v1 v2 w h
theorem q5 (n:Lad) (a1 a2:Option Addr) (l1 c1 l2 c2:Nat) (tv:Value) (t:Vec.V) (w:World) (h:jL w (.slice a1 l1 c1) (.slice a2 l2 c2) n) (ht:Vec.Reads w tv t) :
 Calls Tryz.prog 21 #[.agg #[.string n.what,.slice a1 l1 c1,.slice a2 l2 c2,.int .i64 n.lo,.int .i64 n.hi],tv] w (AtR (atL n t) w):=by
 obtain⟨W1,hW1⟩:=eX (w.alloc (.cells #[.string n.what,.slice a1 l1 c1,.slice a2 l2 c2,.int .i64 n.lo,.int .i64 n.hi] 35))
 have k1:Kept w W1:=by rw[←hW1];exact ja _ _
 obtain⟨W2,hW2⟩:=eX (W1.alloc (.cells #[.int .i64 0,.int .i64 0,.int .i64 0] 49))
 have k2:Kept W1 W2:=by rw[←hW2];exact ja _ _
 obtain⟨HL,HZ,HK,U7⟩:=lH4 ((jf w (.string n.what) [.slice a1 l1 c1,.slice a2 l2 c2,.int .i64 n.lo,.int .i64 n.hi] 35 W1 (by rw[hW1];exact Kept.refl _)).kept k2) (jf W1 (.int .i64 0) [.int .i64 0,.int .i64 0] 49 W2 (by rw[hW2];exact Kept.refl _)) (k1.trans k2) k1.size;obtain⟨zb,hzb⟩:=eX (W1.heap.size)
 obtain⟨lb,hlb⟩:=eX (w.heap.size)
 rw[hzb] at HZ;rw[hlb] at HL;have V2:=lH (show lb<zb by have:=(jf w (.string n.what) [.slice a1 l1 c1,.slice a2 l2 c2,.int .i64 n.lo,.int .i64 n.hi] 35 W1 (by rw[hW1];exact Kept.refl _)).lt;omega);have Ue:=lH hlb;obtain⟨g,hg⟩:=eX (Vec.jT t n.what)
 obtain⟨HG,HV,TZ⟩:=lH3 (fun W (k:Kept w W)=>Vec.jda (ht.kept k) hg) (show atL n t=zM n.rungs g by unfold atL;rw[hg]) hg;have hr:=h.rungs;obtain⟨a9,c9,e9,hcl,hcm,hrow⟩:=hr;obtain⟨rfl,rfl,rfl⟩:a2=a9∧l2=n.rungs.length∧c2=c9:=by cases e9;exact⟨rfl,rfl,rfl⟩
 obtain⟨len,hlen⟩:=eX (n.rungs.length)
 have Vd:=lH hlen;have HR:=lH hrow;have hm:=hrow.2.1;unfold maxLen at hm;rw[hlen] at HL HR hm hW1 ⊢;have hsz:=h.size;clear h ht hg e9 hcl hcm hrow k1 k2 hlen;obtain⟨y0,y1,y2,y3,y4⟩:=HL.out.at5;go_enter Tryz.func21,Tryz.ntmps21;go_wp2_with fail
 try rw[hW1]
 try rw[hzb]
 try rw[hW2]
 try rw[hlb]
 clear hW1 hW2 hzb hlb;refine(HG.out _ HK.out).mono ?_;rintro e w3 ⟨rfl,kk⟩;obtain⟨HL,HZ,HK⟩:=lH3 (HL.out.kept kk) (HZ.out.kept kk) (HK.out.trans kk);have HR:=lH (HR.out.kept HK.out);clear kk HG y0 y1 y2 y3 y4;go_wp2;go_loopw [7] (fun iv wr=>∃k:Nat,k≤len∧(k<len∨len=0)∧iv=.int .i64 k∧n.rungs.find? (fun r=>decide (g≤r.1))=(n.rungs.drop k).find? (fun r=>decide (g≤r.1))∧Kept w3 wr) (fun iv _=>len-(intOf iv).toNat)
 case atStart=>exact⟨0,Nat.zero_le _,by omega,rfl,rfl,Kept.refl _⟩
 case round =>
  obtain⟨k,hk,hkl,rfl,hfd,hK3⟩:=hrel;obtain⟨Uo,Vn,HL,HZ,VU⟩:=lH5 hfd hK3 (HL.out.kept hK3) (HZ.out.kept hK3) (HK.out.trans hK3);clear hfd hK3;obtain⟨y0,y1,y2,y3,y4⟩:=HL.out.at5;obtain⟨z0,z1,z2⟩:=HZ.out.at3;have f0:=HZ.out.free 0;have f1:=HZ.out.free 1;have f2:=HZ.out.free 2;by_cases hlt:k<len
  · skip;obtain⟨b,off,rfl⟩:=HR.out.form.resolve_left (by omega);obtain⟨u,c,p,hn,hd,hb,hfine,p0,p1,p2⟩:=(HR.out.kept Vn.out).rung hlt;have HD:=lH hd;have hkk:(k:Int)<(len:Int):=by omega
    have HN:=lH hn;clear hn hd hfine;by_cases hg:g≤u
    · skip;have HW:=lH (show atL n t=some (u,c,p) by rw[HV.out];exact Z4 Uo.out HD.out hg);go_wp2;have P:=lH (zo (vs:=[.int .i64 u,.int .i64 c,.int .i64 p]) HZ.out rfl);obtain⟨WE,hWE⟩:=eX (wr.setCells zb 0 [.int .i64 u,.int .i64 c,.int .i64 p])
      have hWE2:(((wr.setCell ⟨zb,0,none⟩ (.int .i64 u)).setCell ⟨zb,1,none⟩ (.int .i64 c)).setCell ⟨zb,2,none⟩ (.int .i64 p))=WE:=hWE;rw[hWE] at P;try rw[hWE2]
      clear hWE hWE2;have PC:=P.out.cells;refine bodyPost_ret (by simp[results,Tryz.results21,go_sem,PC.at_ 0 _ rfl,PC.at_ 1 _ rfl,PC.at_ 2 _ rfl];try rfl) rfl ?_;exact⟨by rw[HW.out];rfl,P.out.below _ _ (by have:=V2.out;have:=Ue.out;omega) VU.out⟩
    · have HM:=lH (ZJ Uo.out HD.out hg);by_cases hl9:k+1=len
      · skip;have g1:(len:Int)-1=(k:Int):=by omega
        have HW:=lH (show atL n t=some (u,c,p) by rw[HV.out];exact ZI HM.out (by rw[Vd.out];omega) (by rw[Vd.out,show len-1=k by omega];exact HN.out));go_wp2;have P:=lH (zo (vs:=[.int .i64 u,.int .i64 c,.int .i64 p]) HZ.out rfl);obtain⟨WE,hWE⟩:=eX (wr.setCells zb 0 [.int .i64 u,.int .i64 c,.int .i64 p])
        have hWE2:(((wr.setCell ⟨zb,0,none⟩ (.int .i64 u)).setCell ⟨zb,1,none⟩ (.int .i64 c)).setCell ⟨zb,2,none⟩ (.int .i64 p))=WE:=hWE;rw[hWE] at P;try rw[hWE2]
        clear hWE hWE2;have PC:=P.out.cells;refine bodyPost_ret (by simp[results,Tryz.results21,go_sem,PC.at_ 0 _ rfl,PC.at_ 1 _ rfl,PC.at_ 2 _ rfl];try rfl) rfl ?_;exact⟨by rw[HW.out];rfl,P.out.below _ _ (by have:=V2.out;have:=Ue.out;omega) VU.out⟩
      · have g1:¬(k:Int)=(len:Int)-1:=by omega
        go_wp2;go_roundw
        case rel=>exact⟨k+1,by omega,by omega,by go_num,HM.out,Vn.out⟩
        case measure=>simp[intOf];omega
  · skip;have hl0:len=0:=by omega
    subst hl0;have HN:=lH (show atL n t=none by rw[HV.out,List.eq_nil_of_length_eq_zero Vd.out];rfl);have hkk:¬(k:Int)<((0:Nat):Int):=by omega
    obtain rfl:k=0:=by omega
    go_wp2;have P:=lH (zo (vs:=[.int .i64 0,.int .i64 0,.int .i64 0]) HZ.out rfl);obtain⟨WE,hWE⟩:=eX (wr.setCells zb 0 [.int .i64 0,.int .i64 0,.int .i64 0])
    have hWE2:(((wr.setCell ⟨zb,0,none⟩ (.int .i64 0)).setCell ⟨zb,1,none⟩ (.int .i64 0)).setCell ⟨zb,2,none⟩ (.int .i64 0))=WE:=hWE;rw[hWE] at P;try rw[hWE2]
    clear hWE hWE2;have PC:=P.out.cells;refine bodyPost_ret (by simp[results,Tryz.results21,go_sem,PC.at_ 0 _ rfl,PC.at_ 1 _ rfl,PC.at_ 2 _ rfl];try rfl) rfl ?_;exact⟨by rw[HN.out];rfl,P.out.below _ _ (by have:=V2.out;have:=Ue.out;omega) VU.out⟩
end Go.Proofs.YtnfojaidmnccoaaGreatDoor
namespace Go.Proofs.YtnfojaidmnccoaaGreatDoor.Vec
open Go.RowKit
theorem jaj (a:Option Addr) (len cap:Nat) (l:V) (n:Int) (w:World) (hr:jw w a len l) (hn:-9223372036854775808≤n) (hn':n≤9223372036854775807) :
 Calls Tryz.prog 34 #[.slice a len cap,.int .i64 n] w (Told (jA jj n l).1 (jA jj n l).2 w):=by
 have HA:=lH hr;have HL:=lH hr.1;by_cases hc:jc l=0
 · have HM:=lH (show jA jj n l=jD jj n l [] by unfold jA;rw[if_neg (by rw[hc];decide)]);have HP:=lH (YF hc hr.2.2.1);have h8:len≤8:=by have:=JC hc;rw[HL.out] at this;exact this
   have HC:=lH hc;obtain⟨i0,hi,hz0,hz1,hz2⟩:=info_parts q6;rcases hr.form with h0 | ⟨b,off,rfl⟩
   · subst h0;have HE:=lH (show jA jj n l=(0,[]) by rw[HM.out,List.eq_nil_of_length_eq_zero HL.out];rfl);clear hr hc hi hz0 hz1 hz2;rw[HE.out];go_enter Tryz.func34,Tryz.ntmps34;go_wp2_with fail
     refine(zN _ _ _ l _ HA.out).mono ?_;rw[HC.out];rintro e1 w1 ⟨rfl,k1⟩;have K1:=lH k1;clear k1;go_wp2;refine wp_loop_rounds 1 ?_;rw[rounds_succ];go_wp2;go_ret2
     exact Told.none K1.out
   · clear hr hc;obtain⟨R,hR⟩:=eX (jA jj n l)
     have Ri:=lH (show jD jj n l []=R by rw[←hR,HM.out]);rw[hR];clear hR HM;go_enter Tryz.func34,Tryz.ntmps34;go_wp2_with fail
     refine(zN _ _ _ l _ HA.out).mono ?_;rw[HC.out];rintro e1 w1 ⟨rfl,k1⟩;have K1:=lH k1;clear k1;go_wp2
     go_loopw [7,8] (fun v i wr=>∃(k:Nat) (acc:V),k≤len∧i=.int .i64 k∧jD jj n (l.drop k) acc=R∧jq 74 wr w.heap.size v acc∧Below w.heap.size w wr∧acc.length≤k)
      (fun _ i _=>len-(intOf i).toNat)
     case atStart=>exact⟨0,[],Nat.zero_le _,rfl,Ri.out,jq.nil _ _ _,K1.out,Nat.le_refl _⟩
     case round =>
      obtain⟨k,acc,hk,rfl,hres,ho,hB,hacc⟩:=hrel;obtain⟨HQ,HO,Vk⟩:=lH3 hres ho hB;by_cases hlt:k<len
      · obtain⟨hb,c1,c2⟩:=(HA.out.kept hB).cells hlt;clear hres ho hB;have HI:=lH (show k<l.length by rw[HL.out];exact hlt);have UF:=lH (HP.out _ (Xo HI.out));have Vq:=lH (show (nm l k).size≤maxLen from UF.out.2.2);obtain⟨r1,r2,hr⟩:∃r1 r2,jj (qn l k) n=(r1,r2):=⟨_,_,rfl⟩
        have QF:=lH (show ∀W,Calls Tryz.prog 64 #[.int .i64 (qn l k),.int .i64 n] W (Ans r1 r2 W) from fun W=>by
         have:=jcx _ _ W UF.out.1 UF.out.2.1 hn hn';rw[hr] at this;exact this)
        have VD:=lH hr;have RB:=lH (show 0≤r1∧r1≤9223372036854775807 by have:=XJ (n:=n) UF.out.1 UF.out.2.1;rw[hr] at this;exact this);clear hr;by_cases hx:r2=0
        · subst hx;have HN:=lH (show jD jj n (l.drop (k+1)) (plusV acc (nm l k) r1)=R by
           have:=YY (f:=jj) (n:=n) (acc:=acc) HI.out (by rw[VD.out]);rw[VD.out] at this;rw[←this];exact HQ.out)
          go_wp2_with fail
          refine(QF.out _).mono ?_;rintro e6 w6 ⟨rfl,k6⟩;have B6:=lH (Vk.out.trans (Below.mono k6 Vk.out.size));have O6:=lH (HO.out.kept k6);obtain⟨hb6,d1,d2⟩:=(HA.out.kept B6.out).cells hlt;clear k6 c1 c2 hb;by_cases hy:r1=0
          · subst hy;go_wp2_with fail
            go_roundw
            case rel=>exact⟨k+1,acc,by omega,by go_num,by have:=HN.out;unfold plusV at this;rw[if_pos rfl] at this;exact this,O6.out,B6.out,by omega⟩
            case measure=>simp[intOf];omega
          · have hy1:0<r1:=by have:=RB.out;omega
            have HY:=lH hy;clear hy;have TB:=lH (show (w6.alloc (.cells #[.string (nm l k),.int .i64 r1] 74)).ownsRow w.heap.size 74 2 u7 acc.length (cellsOf acc) from(O6.out.1.alloc _));have Um:=lH (show w.heap.size≤w6.heap.size from B6.out.size);go_wp2_with (at_builtin;refine wpList_append_lies _ rfl (.tmp 37) (.tmp 45) _ rfl w.heap.size 74 i0 _ 2 24 Tryz.underlying31 hi hz0 hz1 hz2 rfl (by decide) u7 acc.length (cellsOf acc) rfl TB.out ⟨w6.heap.size,0,none⟩ 1 1 [.string (nm l k),.int .i64 r1] rfl rfl (ZU _ _ _ _) (zl [(nm l k,r1)]) (by decide) (by unfold maxLen;omega) (by omega) (by rw[World.size_alloc];have:=Um.out;omega) (w6.heap.size+1) (World.size_alloc _ _) ?_;intro g cap1 w7 hown1 hgrow hg hlt7;refine Hid.out ?_)
            refine lH ?_;go_wp2_with fail
            go_roundw
            case rel =>
             refine⟨k+1,acc++[(nm l k,r1)],by omega,by go_num,by have:=HN.out;unfold plusV at this;rw[if_neg HY.out] at this;exact this,⟨?_,O6.out.2.snoc Vq.out (by have:=RB.out;omega) (by have:=RB.out;omega)⟩,(B6.out.alloc Um.out _).grown hgrow (by rw[World.size_alloc];have:=Um.out;omega) (fun j hj=>(TB.out.lt j hj).1),by rw[List.length_append];simp only[List.length_cons,List.length_nil];omega⟩;rw[List.length_append,zd];exact hown1
            case measure=>simp[intOf];omega
        · have hx':(r2==0)=false:=by simpa using hx
          have HE:=lH (show R=(r2,[]) by rw[←HQ.out,qc HI.out (by rw[VD.out];exact hx),VD.out]);clear hx;go_wp2_with fail
          refine(QF.out _).mono ?_;rintro e6 w6 ⟨rfl,k6⟩;have B6:=lH (Vk.out.trans (Below.mono k6 Vk.out.size));clear k6 c1 c2 hb;go_wp2;go_ret2
          rw[HE.out];exact Told.none B6.out
      · have HE:=lH (show R=(0,acc) by
         have e:jD jj n (l.drop k) acc=(0,acc):=XQ (by rw[HL.out];exact hlt);rw[←HQ.out,e])
        clear hres ho hB;go_wp2;go_ret2
        rw[HE.out];exact⟨_,rfl,HO.out,Vk.out⟩
 · have HE:=lH (show jA jj n l=(jc l,[]) by unfold jA;rw[if_pos hc]);have hc':(jc l==0)=false:=by simpa using hc
   clear hr hc;rw[HE.out];go_enter Tryz.func34,Tryz.ntmps34;go_wp2_with fail
   refine(zN _ _ _ l _ HA.out).mono ?_;rintro e1 w1 ⟨rfl,k1⟩;have K1:=lH k1;clear k1;go_wp2;go_ret2
   exact Told.none K1.out
end Go.Proofs.YtnfojaidmnccoaaGreatDoor.Vec
namespace Go.Proofs.YtnfojaidmnccoaaGreatDoor
open Go.RowKit
theorem jc4 {v:Value} {l m:Vec.V} {c n:Int} {w:World} (h:Vec.Reads w v l) (hn:-9223372036854775808≤n) (hn':n≤9223372036854775807) (e:Vec.jA Vec.jj n l=(c,m)) :
 Calls Tryz.prog 34 #[v,.int .i64 n] w (Vec.Got c m w):=by
 obtain⟨a,cap,rfl,_,_,h3⟩:=h;refine(Vec.jaj a _ cap l n w h3 hn hn').mono ?_;rw[e];rintro e w' ⟨x,rfl,ho,k⟩;exact⟨x,rfl,ho.at_,k⟩
theorem jbc (n:Lad) (a1 a2:Option Addr) (l1 c1 l2 c2:Nat) (tv:Value) (t:Vec.V) (w:World) (h:jL w (.slice a1 l1 c1) (.slice a2 l2 c2) n) (ht:Vec.Reads w tv t) :
 Calls Tryz.prog 17 #[.agg #[.string n.what,.slice a1 l1 c1,.slice a2 l2 c2,.int .i64 n.lo,.int .i64 n.hi],tv] w (Xd (jW n t) w):=by
 obtain⟨W1,hW1⟩:=eX (w.alloc (.cells #[.string n.what,.slice a1 l1 c1,.slice a2 l2 c2,.int .i64 n.lo,.int .i64 n.hi] 35))
 have k1:Kept w W1:=by rw[←hW1];exact ja _ _
 have HL:=lH (jf w (.string n.what) [.slice a1 l1 c1,.slice a2 l2 c2,.int .i64 n.lo,.int .i64 n.hi] 35 W1 (by rw[hW1];exact Kept.refl _));obtain⟨lb,hlb⟩:=eX (w.heap.size)
 rw[hlb] at HL;obtain⟨HK,HA,HT,HF⟩:=lH4 k1 h ht (h.rungs.fine);clear h ht k1;obtain⟨e1,he1⟩:=eX (jP n)
 have VI:=lH he1;have HC:=lH (fun W (k:Kept w W)=>YK (n:=n) (w:=W) ⟨_,_,rfl,HA.out.kept k⟩ he1);unfold zz at HC;clear he1;obtain⟨y0,y1,y2,y3,y4⟩:=HL.out.at5;go_enter Tryz.func17,Tryz.ntmps17;go_wp2_with fail
 try rw[hW1]
 try rw[hlb]
 clear hW1 hlb;refine(HC.out _ HK.out).mono ?_;rintro e w2 ⟨rfl,kk⟩;have HL:=lH (HL.out.kept kk);have HK:=lH (HK.out.trans kk);clear kk HC y0 y1 y2 y3 y4;by_cases hz:e1=0
 · subst hz;obtain⟨o,ho⟩:=eX (atL n t)
   have HO:=lH ho;have Va:=lH (fun W (k:Kept w W)=>q5 n a1 a2 l1 c1 l2 c2 tv t W (HA.out.kept k) (HT.out.kept k));rw[ho] at Va;unfold AtR Xc at Va;obtain⟨⟨u,c,p⟩,hr⟩:∃r,o.getD (0,0,0)=r:=⟨_,rfl⟩
   rw[hr] at Va;have VD:=lH hr;obtain⟨ok,hok⟩:=eX (o.isSome)
   rw[hok] at Va;have Vy:=lH hok;dsimp only at Va;clear ho hr hok;obtain⟨y0,y1,y2,y3,y4⟩:=HL.out.at5;go_wp2_with fail
   refine(Va.out _ HK.out).mono ?_;rintro e w3 ⟨rfl,kk⟩;have HL:=lH (HL.out.kept kk);have HK:=lH (HK.out.trans kk);clear kk Va y0 y1 y2 y3 y4;obtain⟨w4,hw4⟩:=eX (w3.alloc (.cells #[.int .i64 u,.int .i64 c,.int .i64 p] 49))
   have k4:Kept w3 w4:=by rw[←hw4];exact ja _ _
   have HB:=lH (jf w3 (.int .i64 u) [.int .i64 c,.int .i64 p] 49 w4 (by rw[hw4];exact Kept.refl _));obtain⟨rb,hrb⟩:=eX (w3.heap.size)
   rw[hrb] at HB;have HL:=lH (HL.out.kept k4);have HK:=lH (HK.out.trans k4);clear k4;obtain⟨y0,y1,y2,y3,y4⟩:=HL.out.at5;obtain⟨r0,r1,r2⟩:=HB.out.at3
   cases ok with
   | false =>
    have HW:=lH (show jW n t=(n.lo,n.unit,0) by
     have e:o=none:=by cases o with
      | none=>rfl
      | some x=>exact absurd Vy.out (by simp)
     unfold jW;rw[if_neg (by rw[VI.out];decide),HO.out,e])
    clear r0 r1 r2;go_upto_region 6 with fail
    try rw[hw4]
    try rw[hrb]
    clear hw4 hrb y0 y1 y2 y3 y4;have HS:=lH (show ∀W,Kept w4 W→W.cell? ⟨lb,0,none⟩=some (.string n.what)∧W.cell? ⟨lb,1,none⟩=some (.slice a1 l1 c1)∧W.cell? ⟨lb,2,none⟩=some (.slice a2 l2 c2)∧W.cell? ⟨lb,3,none⟩=some (.int .i64 n.lo)∧W.cell? ⟨lb,4,none⟩=some (.int .i64 n.hi) from fun W k=>(HL.out.kept k).at5);have J:=lH (Kept.drew w4);refine wp_region_held_drew (S:=fun W=>W.cell? ⟨lb,0,none⟩=some (.string n.what)∧W.cell? ⟨lb,1,none⟩=some (.slice a1 l1 c1)∧W.cell? ⟨lb,2,none⟩=some (.slice a2 l2 c2)∧W.cell? ⟨lb,3,none⟩=some (.int .i64 n.lo)∧W.cell? ⟨lb,4,none⟩=some (.int .i64 n.hi)) (by kernel_rfl) (HS.out _ J.out) (fun hHeld=>?_);obtain⟨wd,hwd⟩:=eX (w4.drew)
    rw[hwd] at J hHeld;try rw[hwd]
    clear hwd;refine tR 0 rfl (by kernel_rfl) (fun _ _ _=>id) (Or.inl ⟨by rfl,by rintro W ⟨o0,o1,o2,o3,o4⟩;go_simp<;>with_reducible rfl⟩) ‹_› ?_;try simp only[nA,nB,nC,nD,nE]
    refine tR 1 rfl (by kernel_rfl) (fun _ _ _=>id) (Or.inl ⟨by rfl,by rintro W ⟨o0,o1,o2,o3,o4⟩;go_simp<;>with_reducible rfl⟩) ‹_› ?_;try simp only[nA,nB,nC,nD,nE]
    refine tR 2 rfl (by kernel_rfl) (fun _ _ _=>id) (Or.inl ⟨by rfl,by rintro W ⟨o0,o1,o2,o3,o4⟩;go_simp<;>with_reducible rfl⟩) ‹_› ?_;try simp only[nA,nB,nC,nD,nE]
    refine tR 3 rfl (by kernel_rfl) (fun _ _ _=>id) (Or.inl ⟨by rfl,by rintro W ⟨o0,o1,o2,o3,o4⟩;go_simp<;>with_reducible rfl⟩) ‹_› ?_;try simp only[nA,nB,nC,nD,nE]
    refine tR 4 rfl (by kernel_rfl) (fun _ _ _=>id) (Or.inl ⟨by rfl,by rintro W ⟨o0,o1,o2,o3,o4⟩;go_simp<;>with_reducible rfl⟩) ‹_› ?_;try simp only[nA,nB,nC,nD,nE]
    refine tR 5 rfl (by kernel_rfl) (fun _ _ _=>id) (Or.inl ⟨by rfl,by rintro W ⟨o0,o1,o2,o3,o4⟩;go_simp<;>with_reducible rfl⟩) ‹_› ?_;try simp only[nA,nB,nC,nD,nE]
    refine tR 6 rfl (by kernel_rfl) (fun _ _ _=>id) (Or.inl ⟨by rfl,by rintro W ⟨o0,o1,o2,o3,o4⟩;go_simp<;>with_reducible rfl⟩) ‹_› ?_;try simp only[nA,nB,nC,nD,nE]
    refine wpAnyH_done (by kernel_rfl) ?_ _;go_wp2;go_ret3
    exact⟨.slice a1 l1 c1,by rw[HW.out];rfl,by rw[HW.out];exact(HA.out.kept (HK.out.trans J.out)).unit,HK.out.trans J.out⟩
   | true =>
    have Uy:=lH (show o=some (u,c,p) by
     cases o with
     | none=>exact absurd Vy.out (by simp)
     | some x=>have:=VD.out;simp at this;rw[this])
    have VK:=lH (Xx HF.out (HO.out.trans Uy.out));obtain⟨⟨e2,m2⟩,hem⟩:∃x,Vec.jA Vec.jj p n.unit=x:=⟨_,rfl⟩
    have HW:=lH (show jW n t=if e2≠0 then (0,[],e2) else (zq c n.lo n.hi,m2,0) by
     unfold jW;rw[if_neg (by rw[VI.out];decide),HO.out,Uy.out];dsimp only;rw[hem])
    have HP:=lH (fun W (k:Kept w W)=>jc4 (n:=p) (HA.out.unit.kept k) VK.out.2.2.1 VK.out.2.2.2 hem);clear hem;by_cases g1:c<n.lo
    · by_cases g2:n.hi<n.lo
      · skip;have VT:=lH (show zq c n.lo n.hi=n.hi by unfold zq;omega);go_wp2_with fail
        try rw[hw4]
        try rw[hrb]
        clear hw4 hrb;refine(HP.out _ HK.out).mono ?_;rintro e w5 ⟨x,rfl,hrd,kk⟩;have VN:=lH hrd;have HK:=lH (HK.out.trans kk);clear hrd kk HP y0 y1 y2 y3 y4 r0 r1 r2;by_cases hz2:e2=0
        · subst hz2;go_wp2;go_ret3
          exact⟨x,by rw[HW.out,if_neg (by decide)];dsimp only;rw[VT.out];rfl,by rw[HW.out];exact VN.out,HK.out⟩
        · have hz3:(e2 != 0)=true:=by simpa using hz2
          have HN:=lH hz2;clear hz2;go_wp2;go_ret3
          exact⟨.slice none 0 0,by rw[HW.out,if_pos HN.out];rfl,by rw[HW.out,if_pos HN.out];exact Vec.Reads.nil _,HK.out⟩
      · skip;have VT:=lH (show zq c n.lo n.hi=n.lo by unfold zq;omega);go_wp2_with fail
        try rw[hw4]
        try rw[hrb]
        clear hw4 hrb;refine(HP.out _ HK.out).mono ?_;rintro e w5 ⟨x,rfl,hrd,kk⟩;have VN:=lH hrd;have HK:=lH (HK.out.trans kk);clear hrd kk HP y0 y1 y2 y3 y4 r0 r1 r2;by_cases hz2:e2=0
        · subst hz2;go_wp2;go_ret3
          exact⟨x,by rw[HW.out,if_neg (by decide)];dsimp only;rw[VT.out];rfl,by rw[HW.out];exact VN.out,HK.out⟩
        · have hz3:(e2 != 0)=true:=by simpa using hz2
          have HN:=lH hz2;clear hz2;go_wp2;go_ret3
          exact⟨.slice none 0 0,by rw[HW.out,if_pos HN.out];rfl,by rw[HW.out,if_pos HN.out];exact Vec.Reads.nil _,HK.out⟩
    · by_cases g2:n.hi<c
      · skip;have VT:=lH (show zq c n.lo n.hi=n.hi by unfold zq;omega);go_wp2_with fail
        try rw[hw4]
        try rw[hrb]
        clear hw4 hrb;refine(HP.out _ HK.out).mono ?_;rintro e w5 ⟨x,rfl,hrd,kk⟩;have VN:=lH hrd;have HK:=lH (HK.out.trans kk);clear hrd kk HP y0 y1 y2 y3 y4 r0 r1 r2;by_cases hz2:e2=0
        · subst hz2;go_wp2;go_ret3
          exact⟨x,by rw[HW.out,if_neg (by decide)];dsimp only;rw[VT.out];rfl,by rw[HW.out];exact VN.out,HK.out⟩
        · have hz3:(e2 != 0)=true:=by simpa using hz2
          have HN:=lH hz2;clear hz2;go_wp2;go_ret3
          exact⟨.slice none 0 0,by rw[HW.out,if_pos HN.out];rfl,by rw[HW.out,if_pos HN.out];exact Vec.Reads.nil _,HK.out⟩
      · skip;have VT:=lH (show zq c n.lo n.hi=c by unfold zq;omega);go_wp2_with fail
        try rw[hw4]
        try rw[hrb]
        clear hw4 hrb;refine(HP.out _ HK.out).mono ?_;rintro e w5 ⟨x,rfl,hrd,kk⟩;have VN:=lH hrd;have HK:=lH (HK.out.trans kk);clear hrd kk HP y0 y1 y2 y3 y4 r0 r1 r2;by_cases hz2:e2=0
        · subst hz2;go_wp2;go_ret3
          exact⟨x,by rw[HW.out,if_neg (by decide)];dsimp only;rw[VT.out];rfl,by rw[HW.out];exact VN.out,HK.out⟩
        · have hz3:(e2 != 0)=true:=by simpa using hz2
          have HN:=lH hz2;clear hz2;go_wp2;go_ret3
          exact⟨.slice none 0 0,by rw[HW.out,if_pos HN.out];rfl,by rw[HW.out,if_pos HN.out];exact Vec.Reads.nil _,HK.out⟩
 · have hz3:(e1 != 0)=true:=by simpa using hz
   have HW:=lH (show jW n t=(0,[],e1) by unfold jW;rw[VI.out,if_pos hz]);clear hz;go_wp2;go_ret3
   exact⟨.slice none 0 0,by rw[HW.out];rfl,by rw[HW.out];exact Vec.Reads.nil _,HK.out⟩
end Go.Proofs.YtnfojaidmnccoaaGreatDoor
