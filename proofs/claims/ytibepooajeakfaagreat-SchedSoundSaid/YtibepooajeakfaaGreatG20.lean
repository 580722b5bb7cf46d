/- C. -/
import Derived.Test.YtibepooajeakfaaGreatG14
import Derived.Test.YtibepooajeakfaaGreatG15
import Derived.Test.YtibepooajeakfaaGreatG16
import Derived.Test.YtibepooajeakfaaGreatG17
import Derived.Test.YtibepooajeakfaaGreatG19
set_option linter.unusedVariables false
set_option maxRecDepth 100000
set_option maxHeartbeats 25600000
namespace Go.Proofs.YtibepooajeakfaaGreat
open Go.RowKit
def sdX:Pd:=jdB ⟨#[120]⟩ 6 ⟨#[]⟩
def sdY:Pd:={ jdB ⟨#[121]⟩ 6 ⟨#[]⟩ with prio:=5 }
def sdZ:Pd:=jdB ⟨#[122]⟩ 3 ⟨#[]⟩
def sdA:ByteArray:=⟨#[97]⟩
def sdS:Clu:=⟨[YR ⟨#[97]⟩ 10],[sdX,sdY,sdZ],[]⟩
def sdT:Clu:=zY sdS ⟨#[121]⟩ ⟨#[97]⟩
def sdU:Clu:=zY sdT ⟨#[122]⟩ ⟨#[97]⟩
theorem jbp (p:Pd) (x y:ByteArray) (c:Int) (h:p.need=(jdB x c y).need∧p.labels=[]∧p.sel=[]∧p.tols=[]):JL p:=⟨by rw[h.1];exact(by decide:(1:Nat)≤1000000),by rw[h.2.1];exact(by decide:(0:Nat)≤1000000),by rw[h.2.2.1];exact(by decide:(0:Nat)≤1000000),by rw[h.2.2.2];exact(by decide:(0:Nat)≤1000000)⟩
theorem YW:jE sdS:=⟨fun n hn=>by
 unfold sdS at hn;obtain rfl:=List.mem_singleton.1 hn;exact⟨(by decide:(1:Nat)≤1000000),(by decide:(0:Nat)≤1000000),(by decide:(0:Nat)≤1000000)⟩,
 fun n hn=>by
  unfold sdS at hn;simp only[List.mem_cons,List.not_mem_nil,or_false] at hn;rcases hn with rfl | rfl | rfl
  · exact jbp _ ⟨#[]⟩ ⟨#[]⟩ 6 ⟨rfl,rfl,rfl,rfl⟩
  · exact jbp _ ⟨#[]⟩ ⟨#[]⟩ 6 ⟨rfl,rfl,rfl,rfl⟩
  · exact jbp _ ⟨#[]⟩ ⟨#[]⟩ 3 ⟨rfl,rfl,rfl,rfl⟩,(fun n h=>by cases h),(by decide:(1:Nat)≤100000),(by decide:(3:Nat)≤100000),(by decide:(0:Nat)≤100000)⟩
theorem jdK:ZV sdS=true:=by kernel_rfl
theorem jcx:Asc sdS.pods:=jgg jdK
theorem jm5 {w:World} {v:Value} (h:jC w v sdS):Je sdS:=⟨XS jdK,jf6 jdK h,YW,(by decide:(3:Nat)≤128)⟩
theorem jfx {r:Pd→Pd→Prop} {x y:Pd} (h:r x y):[x,y].Pairwise r:=List.Pairwise.cons (fun z hz=>by obtain rfl:=List.mem_singleton.1 hz;exact h) (List.Pairwise.cons (fun z hz=>by cases hz) List.Pairwise.nil)
theorem joF:sdS.pods.filter jS=[sdX,sdY,sdZ]:=by kernel_rfl
theorem joA:sdT.pods.filter jS=[sdX,sdZ]:=by kernel_rfl
theorem joL:sdU.pods.filter jS=[sdX]:=by kernel_rfl
theorem joD:zA sdX sdY=false:=by kernel_rfl
theorem joG:zA sdZ sdY=false:=by kernel_rfl
theorem jnP:zA sdZ sdX=false:=by kernel_rfl
theorem joQ:Xx sdS.pods [sdY,sdX,sdZ]:=⟨by rw[joF];exact List.Perm.swap _ _ _,List.Pairwise.cons (fun z hz=>by
 rcases List.mem_cons.1 hz with rfl | hz
 · exact joD
 · obtain rfl:=List.mem_singleton.1 hz;exact joG) (jfx jnP)⟩
theorem jh8:zF sdS.pods=[sdY,sdX,sdZ]:=(qY jcx joQ).symm
theorem joa:Asc sdT.pods:=by unfold Asc sdT;decide +kernel
theorem jmy:Asc sdU.pods:=by unfold Asc sdU;decide +kernel
theorem joK:zF sdT.pods=[sdX,sdZ]:=(qY joa ⟨by rw[joA],jfx jnP⟩).symm
theorem jnH:zF sdU.pods=[sdX]:=(qY jmy ⟨by rw[joL],List.Pairwise.cons (fun z hz=>by cases hz) List.Pairwise.nil⟩).symm
theorem joM:zN sdS sdY sdS.nodes=[sdA]:=by kernel_rfl
theorem jox:zN sdT sdX sdT.nodes=[]:=by kernel_rfl
theorem joH:zN sdT sdZ sdT.nodes=[sdA]:=by kernel_rfl
theorem jor:zN sdU sdX sdU.nodes=[]:=by kernel_rfl
theorem jhm {s:Clu} {p:Pd} {pack:Bool} {x:ByteArray} (h:zN s p s.nodes=[x]):jaY s p pack=some x :=
 (jjv (l:=[x]) ⟨by rw[h],List.Pairwise.cons (fun z hz=>by cases hz) List.Pairwise.nil⟩).symm
theorem jn0 (pack:Bool):nextS sdS pack=some (⟨#[121]⟩,sdA):=by
 unfold nextS;rw[jh8,Yf,jhm joM];rfl
theorem joR (pack:Bool):nextS sdT pack=some (⟨#[122]⟩,sdA):=by
 unfold nextS;rw[joK,Yf,jfY.2 jox];show Yf sdT pack [sdZ]=_;rw[Yf,jhm joH];rfl
theorem joC (pack:Bool):nextS sdU pack=none:=by
 unfold nextS;rw[jnH,Yf,jfY.2 jor];rfl
theorem sdB (pack:Bool):JI sdS pack=[(⟨#[121]⟩,sdA),(⟨#[122]⟩,sdA)]:=by
 unfold JI;rw[jh8];show Jq pack 3 sdS=_;rw[Jq,jn0];show _::Jq pack 2 sdT=_;rw[Jq,joR];show _::_::Jq pack 1 sdU=_;rw[Jq,joC]
theorem sdG (pack:Bool):goS (JI sdS pack) sdS=sdU:=by rw[sdB];rfl
theorem jkj:ByteArray.empty.toList=[]:=by first | rfl | decide | simp | kernel_rfl
theorem noE {x:ByteArray} (h:zo x=true):x.toList.isEmpty=true:=by
 rw[jR.1 (show eqS x ByteArray.empty=true from h),jkj];rfl
theorem noF {x:ByteArray} (h:zo x=false):x.toList.isEmpty=false:=by
 cases e:x.toList.isEmpty with
 | false=>rfl
 | true =>
  have:zo x=true:=by
   unfold zo eqS;rw[List.isEmpty_iff.1 e,jkj];rfl
  rw[this] at h;cases h
theorem jbM (n:Pd) (v1 v2 v3 v4:Value) (w:World):Calls Tryz.prog 31 #[jy n v1 v2 v3 v4] w fun e w'=>e=.returned (.bool (!jS n))∧Kept w w':=by
 have c9:=(jc w (.string n.name) [.string n.owner,.int .i64 n.prio,v1,v2,v3,v4,.string n.key,.int .i64 n.most,.string n.node,.bool n.hold] 52 _ (Kept.refl _)).at_ 9 _ rfl;have c10:=(jc w (.string n.name) [.string n.owner,.int .i64 n.prio,v1,v2,v3,v4,.string n.key,.int .i64 n.most,.string n.node,.bool n.hold] 52 _ (Kept.refl _)).at_ 10 _ rfl;have HV:=lH (show ∀a b,zo n.node=a→n.hold=b→(!jS n)=(!a||b) from fun a b ha hb=>by unfold jS;rw[ha,hb];cases a<;>cases b<;>rfl);unfold jy
 cases ha:zo n.node with
 | true =>
  have ha':n.node.toList.isEmpty=true:=noE ha;rw[HV.out true _ ha rfl];clear ha;go_enter Tryz.func31,Tryz.ntmps31;go_wp2;go_ret;exact⟨by first | rfl | simp,ja _ _⟩
 | false =>
  have ha':n.node.toList.isEmpty=false:=noF ha;rw[HV.out false _ ha rfl];clear ha;go_enter Tryz.func31,Tryz.ntmps31;go_wp2;go_ret;exact⟨by first | rfl | simp,ja _ _⟩
theorem jcz (a:Option Addr) (len cap:Nat) (l:List Pd) (w:World) (hr:jx w a len l) :
 Calls Tryz.prog 69 #[.slice a len cap,.func (.func 31) #[] #[]] w (Say (.int .i64 (jbj (idxB (fun p=>!jS p) l))) w):=by
 have hl:=hr.1;have hm:=hr.2.1;unfold maxLen at hm;have HL:=lH hl;have HR:=lH hr;clear hr hl;go_enter Tryz.func69,Tryz.ntmps69;go_wp2;go_loopw [8] (fun i wr=>∃k:Nat,k≤len∧i=.int .i64 k∧(idxB (fun p=>!jS p) (l.drop k)).map (·+k)=idxB (fun p=>!jS p) l∧Kept w wr) (fun i _=>len-(intOf i).toNat)
 case atStart=>exact⟨0,Nat.zero_le _,rfl,by simp,Kept.refl _⟩
 case round =>
  obtain⟨k,hk,rfl,hrest,hK⟩:=hrel;have HS:=lH hrest;have HK:=lH hK;by_cases hlt:k<len
  · obtain⟨b,off,rfl⟩:=HR.out.form.resolve_left (by omega);obtain⟨n,a1,m1,c1,a2,m2,c2,a3,m3,c3,a4,m4,c4,hn,hd,hb,p0,p1,p2,p3,p4,p5,p6,p7,p8,p9,p10,hat⟩:=(HR.out.kept hK).at_ hlt;have HD:=lH hd;have Tr:=lH (jbM n (.slice a1 m1 c1) (.slice a2 m2 c2) (.slice a3 m3 c3) (.slice a4 m4 c4) wr);obtain⟨t,ht⟩:=eX ((!jS n))
    have HT:=lH ht;unfold jy at Tr;have HC:=lH Tr.out;rw[ht] at HC;clear Tr;clear hrest hK hat hd hn ht
    cases t with
    | true =>
     have HF:=lH (jdr (f:=fun p=>!jS p) HD.out HT.out HS.out);go_wp2_with fail
     refine HC.out.mono ?_;rintro e w1 ⟨rfl,k1⟩;have K1:=lH (HK.out.trans k1);clear k1;go_wp2;go_ret;exact⟨by rw[HF.out];rfl,K1.out⟩
    | false =>
     have HE:=lH (jcr (f:=fun p=>!jS p) HD.out HT.out HS.out);go_wp2_with fail
     refine HC.out.mono ?_;rintro e w1 ⟨rfl,k1⟩;have K1:=lH (HK.out.trans k1);clear k1;go_wp2;go_roundw
     case rel=>exact⟨k+1,by omega,by go_num,HE.out,K1.out⟩
     case measure=>simp[intOf];omega
  · have HF:=lH (show idxB (fun p=>!jS p) l=none by rw[←hrest,List.drop_of_length_le (by rw[HL.out];omega)];rfl);clear hrest hK;go_wp2;go_ret;exact⟨by rw[HF.out];rfl,HK.out⟩
theorem jdi (l:List PX) (k:Nat):je PodLay0 (l.take k)=(je PodLay0 l).take (k*11):=by
 induction l generalizing k with
 | nil=>simp[je]
 | cons z t ih =>
  cases k with
  | zero=>simp[je]
  | succ k =>
   have e:(PodLay0.cs z).length=11:=rfl;have ih2:=ih k;unfold je at ih2 ⊢;rw[List.take_succ_cons,List.flatMap_cons,List.flatMap_cons,ih2,show (k+1)*11=(PodLay0.cs z).length+k*11 by rw[e];omega,List.take_length_add_append]
theorem jef:∀{lx:List PX},idxB (fun p=>!jS p) (lx.map fun z=>z.1)=none→lx.filter (fun z=>jS z.1)=lx
 | [],_=>rfl
 | z::t,h=>by
  rw[List.map_cons,idxB] at h;split at h
  · cases h
  · rename_i g;have g2:jS z.1=true:=by simpa using g
    rw[List.filter_cons_of_pos (by exact g2),jef (Option.map_eq_none_iff.1 h)]
theorem jed:∀{lx:List PX} {k:Nat},idxB (fun p=>!jS p) (lx.map fun z=>z.1)=some k→(lx.take (k+1)).filter (fun z=>jS z.1)=lx.take k
 | [],k,h=>by cases h
 | z::t,k,h=>by
  rw[List.map_cons,idxB] at h;split at h
  · rename_i g;obtain rfl:=Option.some.inj h;have g2:jS z.1=false:=by simpa using g
    rw[List.take_succ_cons,List.take_zero,List.take_zero,List.filter_cons_of_neg (by rw[g2];decide)];rfl
  · rename_i g;have g2:jS z.1=true:=by simpa using g
    cases e:idxB (fun p=>!jS p) (t.map fun z=>z.1) with
    | none=>rw[e] at h;cases h
    | some q =>
     rw[e] at h;obtain rfl:=Option.some.inj h;rw[List.take_succ_cons,List.take_succ_cons,List.filter_cons_of_pos (by exact g2),jed e]
structure jbd (B g len cap i j:Nat) (lx:List PX) (w wr:World) (ly:List PX):Prop where
 own:Own PodLay0 52 wr B (.slice (some ⟨g,0,none⟩) len cap) ly
 len:ly.length=len
 fst:ly.take i=(lx.take j).filter fun z=>jS z.1
 snd:ly.drop j=lx.drop j
 off:jg (fun b=>b=g) w wr
theorem jbd.skip {B g len cap i j:Nat} {lx ly:List PX} {w wr w1:World} {z:PX} (h:jbd B g len cap i j lx w wr ly) (hz:lx[j]?=some z) (hr:jS z.1=false) (k:Kept wr w1):jbd B g len cap i (j+1) lx w w1 ly:=by
 refine⟨h.own.kept k,h.len,?_,?_,h.off.trans (jg.of k)⟩
 · rw[h.fst,List.take_add_one,hz,List.filter_append];simp[hr]
 · rw[←List.drop_drop,←List.drop_drop,h.snd]
theorem jbd.keep {B g len cap i j:Nat} {lx ly:List PX} {w wr w1:World} {z:PX} (h:jbd B g len cap i j lx w wr ly) (hij:i<j) (hj:j<len) (hz:lx[j]?=some z) (hr:jS z.1=true) (k:Kept wr w1):jbd B g len cap (i+1) (j+1) lx w (w1.setCells g (i*11) (PodLay0.cs z)) (ly.set i z):=by
 have hi:i<ly.length:=by rw[h.len];omega
 refine⟨(h.own.kept k).ZC hi z trivial,by rw[List.length_set];exact h.len,?_,?_,(h.off.trans (jg.of k)).trans (jg.cells (S:=fun b=>b=g) g rfl _ _ _)⟩
 · rw[List.take_add_one,List.getElem?_set_self hi,List.take_set_of_le (Nat.le_refl _),h.fst,List.take_add_one,hz,List.filter_append];simp[hr]
 · rw[List.drop_set_of_lt (by omega),←List.drop_drop,←List.drop_drop,h.snd]
theorem jlk (g len cap B:Nat) (lx:List PX) (w:World) (ho:Own PodLay0 52 w B (.slice (some ⟨g,0,none⟩) len cap) lx) (hat:∀z ∈ lx,At4 w z) (hlen:len≤100000) :
 Calls Tryz.prog 29 #[.slice (some ⟨g,0,none⟩) len cap,.func (.func 31) #[] #[]] w fun e w'=>∃n,e=.returned (.slice (some ⟨g,0,none⟩) n cap)∧Own PodLay0 52 w' B (.slice (some ⟨g,0,none⟩) n cap) (lx.filter fun z=>jS z.1)∧jg (fun b=>b=g) w w':=by
 have hn:len=lx.length:=by obtain⟨a,c,e,_⟩:=ho.at_;cases e;rfl
 have hr:jx w (some ⟨g,0,none⟩) len (lx.map fun z=>z.1):=jl1 (qL ho hat);obtain⟨cur,hB,hg,hlc,hm,hsz,ht,hl⟩:=Ju (show w.ownsRow B 52 11 (.slice (some ⟨g,0,none⟩) len cap) len (je PodLay0 lx) by have:=ho.1;rw[←hn] at this;exact this);obtain⟨HI,HO,HN⟩:=lH3 (jcz (some ⟨g,0,none⟩) len cap (lx.map fun z=>z.1) w hr) ho hn;have hm':cap≤9223372036854775807:=by unfold maxLen at hm;omega
 clear ho hr hat hn hB hg hsz ht hl hm
 cases hi:idxB (fun p=>!jS p) (lx.map fun z=>z.1) with
 | none =>
  rw[hi] at HI;have HF:=lH (jef hi);clear hi;unfold jbj at HI;go_enter Tryz.func29,Tryz.ntmps29;go_wp2_with fail
  refine HI.out.mono ?_;rintro e w1 ⟨rfl,k⟩;have K:=lH k;clear k;go_wp2;go_ret;exact⟨len,rfl,by rw[HF.out];exact HO.out.kept K.out,jg.of K.out⟩
 | some k0 =>
  rw[hi] at HI;have hk0:k0<len:=by have:=qB hi;rw[List.length_map] at this;have:=HN.out;omega
  have HF:=lH (jed hi);clear hi;unfold jbj at HI;have hne:((k0:Int)==-1)=false:=beq_eq_false_iff_ne.2 (by omega);go_enter Tryz.func29,Tryz.ntmps29;go_wp2_with fail
  refine HI.out.mono ?_;rintro e w1 ⟨rfl,k⟩;have K:=lH k;clear k;go_wp2_with fail
  go_loopw [5,6] (fun vi vj wr=>∃(i j:Nat) (ly:List PX),vi=.int .i64 i∧vj=.int .i64 j∧i<j∧j≤len∧jbd B g len cap i j lx w wr ly) (fun _ vj _=>len-(intOf vj).toNat)
  case atStart=>exact⟨k0,k0+1,lx,rfl,by first | rfl | go_num,by omega,by omega,HO.out.kept K.out,HN.out.symm,HF.out.symm,rfl,jg.of K.out⟩
  case round =>
   obtain⟨i,j,ly,rfl,rfl,hij,hj,hinv⟩:=hrel;have HV:=lH hinv;have hly:=hinv.len;by_cases hlt:j<len
   · obtain⟨z,hz⟩:∃z,ly[j]?=some z:=⟨_,List.getElem?_eq_getElem (by omega)⟩
     have hzx:lx[j]?=some z:=by
      have h0:(ly.drop j)[0]?=(lx.drop j)[0]?:=by rw[hinv.snd]
      rw[List.getElem?_drop,List.getElem?_drop,Nat.add_zero] at h0;rw[←h0];exact hz
     obtain⟨y,hy⟩:∃z,ly[i]?=some z:=⟨_,List.getElem?_eq_getElem (by omega)⟩
     have HY:=lH hy;obtain⟨n,⟨b1,n1,d1⟩,⟨b2,n2,d2⟩,⟨b3,n3,d3⟩,⟨b4,n4,d4⟩⟩:=z;have p0:wr.cell? ⟨g,j*11,none⟩=some (.string n.name):=hinv.own.cell_at hz (j:=0) rfl;have p1:wr.cell? ⟨g,j*11+1,none⟩=some (.string n.owner):=hinv.own.cell_at hz (j:=1) rfl;have p2:wr.cell? ⟨g,j*11+2,none⟩=some (.int .i64 n.prio):=hinv.own.cell_at hz (j:=2) rfl;have p3:wr.cell? ⟨g,j*11+3,none⟩=some (.slice b1 n1 d1):=hinv.own.cell_at hz (j:=3) rfl;have p4:wr.cell? ⟨g,j*11+4,none⟩=some (.slice b2 n2 d2):=hinv.own.cell_at hz (j:=4) rfl;have p5:wr.cell? ⟨g,j*11+5,none⟩=some (.slice b3 n3 d3):=hinv.own.cell_at hz (j:=5) rfl;have p6:wr.cell? ⟨g,j*11+6,none⟩=some (.slice b4 n4 d4):=hinv.own.cell_at hz (j:=6) rfl;have p7:wr.cell? ⟨g,j*11+7,none⟩=some (.string n.key):=hinv.own.cell_at hz (j:=7) rfl;have p8:wr.cell? ⟨g,j*11+8,none⟩=some (.int .i64 n.most):=hinv.own.cell_at hz (j:=8) rfl;have p9:wr.cell? ⟨g,j*11+9,none⟩=some (.string n.node):=hinv.own.cell_at hz (j:=9) rfl;have p10:wr.cell? ⟨g,j*11+10,none⟩=some (.bool n.hold):=hinv.own.cell_at hz (j:=10) rfl;have R9:=lH hzx;have hjj:(j:Int)<(len:Int):=by omega
     have HS:=lH (jbM n (.slice b1 n1 d1) (.slice b2 n2 d2) (.slice b3 n3 d3) (.slice b4 n4 d4) (wr.alloc (.cells #[.string n.name,.string n.owner,.int .i64 n.prio,.slice b1 n1 d1,.slice b2 n2 d2,.slice b3 n3 d3,.slice b4 n4 d4,.string n.key,.int .i64 n.most,.string n.node,.bool n.hold] 52)));unfold jy at HS;obtain⟨c,hc⟩:=eX (jS n)
     have HC:=lH hc;rw[hc] at HS;clear hz hzx hy hinv hc hly
     cases c with
     | false =>
      go_wp2_with fail
      refine HS.out.mono ?_;rintro e w2 ⟨rfl,kk⟩;have HD:=lH (HV.out.skip R9.out HC.out ((ja _ _).trans kk));clear kk p0 p1 p2 p3 p4 p5 p6 p7 p8 p9 p10;go_wp2;go_roundw
      case rel=>exact⟨i,j+1,ly,rfl,by first | rfl | go_num,by omega,by omega,HD.out⟩
      case measure=>simp[intOf];omega
     | true =>
      go_wp2_with fail
      refine HS.out.mono ?_;rintro e w2 ⟨rfl,kk⟩;have KW:=lH ((ja wr (.cells #[.string n.name,.string n.owner,.int .i64 n.prio,.slice b1 n1 d1,.slice b2 n2 d2,.slice b3 n3 d3,.slice b4 n4 d4,.string n.key,.int .i64 n.most,.string n.node,.bool n.hold] 52)).trans kk);obtain⟨y0,y1,y2,y3,y4,y5,y6,y7,y8,y9,y10⟩:=(jc wr (.string n.name) [.string n.owner,.int .i64 n.prio,.slice b1 n1 d1,.slice b2 n2 d2,.slice b3 n3 d3,.slice b4 n4 d4,.string n.key,.int .i64 n.most,.string n.node,.bool n.hold] 52 w2 kk).at11;have HD:=lH (HV.out.keep hij hlt R9.out HC.out KW.out);obtain⟨u0,q0⟩:∃u,w2.cell? ⟨g,i*11,none⟩=some u:=⟨_,(HV.out.own.kept KW.out).cell_at HY.out (j:=0) rfl⟩
      obtain⟨u1,q1⟩:∃u,w2.cell? ⟨g,i*11+1,none⟩=some u:=⟨_,(HV.out.own.kept KW.out).cell_at HY.out (j:=1) rfl⟩
      obtain⟨u2,q2⟩:∃u,w2.cell? ⟨g,i*11+2,none⟩=some u:=⟨_,(HV.out.own.kept KW.out).cell_at HY.out (j:=2) rfl⟩
      obtain⟨u3,q3⟩:∃u,w2.cell? ⟨g,i*11+3,none⟩=some u:=⟨_,(HV.out.own.kept KW.out).cell_at HY.out (j:=3) rfl⟩
      obtain⟨u4,q4⟩:∃u,w2.cell? ⟨g,i*11+4,none⟩=some u:=⟨_,(HV.out.own.kept KW.out).cell_at HY.out (j:=4) rfl⟩
      obtain⟨u5,q5⟩:∃u,w2.cell? ⟨g,i*11+5,none⟩=some u:=⟨_,(HV.out.own.kept KW.out).cell_at HY.out (j:=5) rfl⟩
      obtain⟨u6,q6⟩:∃u,w2.cell? ⟨g,i*11+6,none⟩=some u:=⟨_,(HV.out.own.kept KW.out).cell_at HY.out (j:=6) rfl⟩
      obtain⟨u7,q7⟩:∃u,w2.cell? ⟨g,i*11+7,none⟩=some u:=⟨_,(HV.out.own.kept KW.out).cell_at HY.out (j:=7) rfl⟩
      obtain⟨u8,q8⟩:∃u,w2.cell? ⟨g,i*11+8,none⟩=some u:=⟨_,(HV.out.own.kept KW.out).cell_at HY.out (j:=8) rfl⟩
      obtain⟨u9,q9⟩:∃u,w2.cell? ⟨g,i*11+9,none⟩=some u:=⟨_,(HV.out.own.kept KW.out).cell_at HY.out (j:=9) rfl⟩
      obtain⟨u10,q10⟩:∃u,w2.cell? ⟨g,i*11+10,none⟩=some u:=⟨_,(HV.out.own.kept KW.out).cell_at HY.out (j:=10) rfl⟩
      have x0f:w2.frozen? ⟨g,i*11,none⟩=false:=(HV.out.own.kept KW.out).frozen_at _;have x1f:w2.frozen? ⟨g,i*11+1,none⟩=false:=(HV.out.own.kept KW.out).frozen_at _;have x2f:w2.frozen? ⟨g,i*11+2,none⟩=false:=(HV.out.own.kept KW.out).frozen_at _;have x3f:w2.frozen? ⟨g,i*11+3,none⟩=false:=(HV.out.own.kept KW.out).frozen_at _;have x4f:w2.frozen? ⟨g,i*11+4,none⟩=false:=(HV.out.own.kept KW.out).frozen_at _;have x5f:w2.frozen? ⟨g,i*11+5,none⟩=false:=(HV.out.own.kept KW.out).frozen_at _;have x6f:w2.frozen? ⟨g,i*11+6,none⟩=false:=(HV.out.own.kept KW.out).frozen_at _;have x7f:w2.frozen? ⟨g,i*11+7,none⟩=false:=(HV.out.own.kept KW.out).frozen_at _;have x8f:w2.frozen? ⟨g,i*11+8,none⟩=false:=(HV.out.own.kept KW.out).frozen_at _;have x9f:w2.frozen? ⟨g,i*11+9,none⟩=false:=(HV.out.own.kept KW.out).frozen_at _;have x10f:w2.frozen? ⟨g,i*11+10,none⟩=false:=(HV.out.own.kept KW.out).frozen_at _;have hii:(i:Int)<(len:Int):=by omega
      clear kk p0 p1 p2 p3 p4 p5 p6 p7 p8 p9 p10;go_wp2;obtain⟨WE,hWE⟩:=eX (w2.setCells g (i*11) [.string n.name,.string n.owner,.int .i64 n.prio,.slice b1 n1 d1,.slice b2 n2 d2,.slice b3 n3 d3,.slice b4 n4 d4,.string n.key,.int .i64 n.most,.string n.node,.bool n.hold])
      have hWE2:(((((((((((w2.setCell ⟨g,i*11,none⟩ (.string n.name)).setCell ⟨g,i*11+1,none⟩ (.string n.owner)).setCell ⟨g,i*11+2,none⟩ (.int .i64 n.prio)).setCell ⟨g,i*11+3,none⟩ (.slice b1 n1 d1)).setCell ⟨g,i*11+4,none⟩ (.slice b2 n2 d2)).setCell ⟨g,i*11+5,none⟩ (.slice b3 n3 d3)).setCell ⟨g,i*11+6,none⟩ (.slice b4 n4 d4)).setCell ⟨g,i*11+7,none⟩ (.string n.key)).setCell ⟨g,i*11+8,none⟩ (.int .i64 n.most)).setCell ⟨g,i*11+9,none⟩ (.string n.node)).setCell ⟨g,i*11+10,none⟩ (.bool n.hold))=WE:=hWE;have HD:=lH (show jbd B g len cap (i+1) (j+1) lx w WE (ly.set i (n,(b1,n1,d1),(b2,n2,d2),(b3,n3,d3),(b4,n4,d4))) by rw[←hWE];exact HD.out);try rw[hWE2]
      clear y0 y1 y2 y3 y4 y5 y6 y7 y8 y9 y10 hWE hWE2 q0 q1 q2 q3 q4 q5 q6 q7 q8 q9 q10 x0f x1f x2f x3f x4f x5f x6f x7f x8f x9f x10f;go_roundw
      case rel=>exact⟨i+1,j+1,_,by first | rfl | go_num,by first | rfl | go_num,by omega,by omega,HD.out⟩
      case measure=>simp[intOf];omega
   · obtain rfl:j=len:=by omega
     obtain⟨i0,hi0,hz0,hz1,hz2⟩:=info_parts qy;have hxs:ly.filter (fun _=>true)=ly:=by simp
     have hrl:(je PodLay0 ly).length=j*11:=by rw[jZ,hinv.len];rfl
     have hown:wr.ownsRow B 52 11 (.slice (some ⟨g,0,none⟩) j cap) j (je PodLay0 ly):=by have:=hinv.own.1;rw[hly] at this;exact this
     have hcell:∀t,t<j*11→(wr.cell? ⟨g,t,none⟩).isSome=true:=fun t h=>by
      rw[hown.cellAt t h,List.getElem?_eq_getElem (by rw[hrl];exact h)];rfl
     have hcl:∀ty,(Builtin.clear_ #[23] ty #[.slice (some ⟨g,i*11,none⟩) (j-i) (cap-i)]).run Tryz.prog wr=.ok (.tuple #[]) (wr.setCells g (i*11) (Builtin.zeroCells zP (j-i)).toList) :=
      fun ty=>qC wr _ 52 ty i0 (.agg zP) Tryz.underlying23 hi0 hz0 g _ _ _ (by omega) (jd2 _) (fun t h=>hcell _ (by rw[jaK,Zh] at h;omega)) (fun t h=>hinv.own.frozen_at _)
     have X:=lH (show Own PodLay0 52 (wr.setCells g (i*11) (Builtin.zeroCells zP (j-i)).toList) B (.slice (some ⟨g,0,none⟩) i cap) (lx.filter fun z=>jS z.1) by
      have hfl:ly.take i=lx.filter fun z=>jS z.1:=by rw[hinv.fst,List.take_of_length_le (by rw[HN.out];exact Nat.le_refl _)]
      have hli:(ly.take i).length=i:=by rw[List.length_take];omega
      have h:=je6 (i:=i) (j:=j) (zs:=(Builtin.zeroCells zP (j-i)).toList) hown (Nat.le_of_lt hij) (Nat.le_refl _) (by rw[Array.length_toList,Zh]);rw[List.drop_of_length_le (by rw[hrl];exact Nat.le_refl _),Nat.sub_self,Nat.add_zero,List.append_nil] at h;refine⟨?_,fun _ _=>trivial⟩;rw[←hfl,hli];have e2:je PodLay0 (ly.take i)=(je PodLay0 ly).take (i*11):=jdi ly i;rw[e2];exact h)
     have GX:=lH (show jg (fun b=>b=g) w (wr.setCells g (i*11) (Builtin.zeroCells zP (j-i)).toList) from hinv.off.trans (jg.cells (S:=fun b=>b=g) g rfl _ _ _));have hjj:¬(j:Int)<(j:Int):=by omega
     have hci:¬cap=i:=by omega
     have hic:i≤cap:=by omega
     have hil:i≤j:=by omega
     clear hinv hcell hown hrl hxs hly;go_wp2;go_ret;exact⟨i,rfl,X.out,GX.out⟩
theorem jkL (w:World):Calls Tryz.prog 29 #[.slice none 0 0,.func (.func 31) #[] #[]] w fun e w'=>e=.returned (.slice none 0 0)∧Kept w w':=by
 have HI:=lH (jcz none 0 0 [] w ⟨rfl,by decide,.inl rfl⟩);have HI:=lH (show Calls Tryz.prog 69 #[.slice none 0 0,.func (.func 31) #[] #[]] w (Say (.int .i64 (-1)) w) from HI.out);go_enter Tryz.func29,Tryz.ntmps29;go_wp2_with fail
 refine HI.out.mono ?_;rintro e w1 ⟨rfl,k⟩;have K:=lH k;clear k;go_wp2;go_ret;exact⟨rfl,K.out⟩
open Go.Sort
variable {α:Type} [Inhabited α] {lt:α→α→Bool}
structure Rot (lo i j:Nat) (d d':Array α):Prop where
 size:d'.size=d.size
 fst:∀k,lo≤k→k<lo+j→d'[k]! = d[k+i]!
 snd:∀k,lo+j≤k→k<lo+i+j→d'[k]! = d[k-j]!
 out:∀k,k<lo∨lo+i+j≤k→d'[k]! = d[k]!
structure Yj (a b n:Nat) (d d':Array α):Prop where
 size:d'.size=d.size
 fst:∀k,a≤k→k<a+n→d'[k]! = d[k+(b-a)]!
 snd:∀k,b≤k→k<b+n→d'[k]! = d[k-(b-a)]!
 out:∀k,k<a∨(a+n≤k∧k<b)∨b+n≤k→d'[k]! = d[k]!
theorem Yj.zero (a b:Nat) (d:Array α):Yj a b 0 d d:=⟨rfl,fun k _ _=>by omega,fun k _ _=>by omega,fun k _=>rfl⟩
theorem Yj.step {a b n:Nat} {d dk:Array α} (h:Yj a b n d dk) (hab:a+(n+1)≤b) (hb:b+n<d.size):Yj a b (n+1) d (swp dk (a+n) (b+n)):=by
 have hs:=h.size;refine⟨by rw[size_swp];exact hs,fun k h1 h2=>?_,fun k h1 h2=>?_,fun k h1=>?_⟩
 · by_cases e:k=a+n
   · rw[e,swp_left _ _ _ (by omega) (by omega),h.out (b+n) (by omega)];congr 1;omega
   · rw[swp_other _ _ _ _ e (by omega)];exact h.fst k h1 (by omega)
 · by_cases e:k=b+n
   · rw[e,swp_right _ _ _ (by omega),h.out (a+n) (by omega)];congr 1;omega
   · rw[swp_other _ _ _ _ (by omega) e];exact h.snd k h1 (by omega)
 · rw[swp_other _ _ _ _ (by omega) (by omega)];exact h.out k (by omega)
theorem Rot.of_exch {lo i:Nat} {d d':Array α} (h:Yj lo (lo+i) i d d'):Rot lo i i d d' :=
 ⟨h.size,fun k h1 h2=>by rw[h.fst k h1 h2];congr 1;omega,fun k h1 h2=>by rw[h.snd k h1 (by omega)];congr 1;omega,fun k h1=>h.out k (by omega)⟩
theorem Rot.big {lo i j:Nat} {d d1 d':Array α} (hij:j<i) (h:Yj lo (lo+i) j d d1) (g:Rot (lo+j) (i-j) j d1 d'):Rot lo i j d d':=by
 refine⟨g.size.trans h.size,fun k h1 h2=>?_,fun k h1 h2=>?_,fun k h1=>?_⟩
 · rw[g.out k (by omega),h.fst k h1 h2];congr 1;omega
 · by_cases e:k<lo+j+j
   · rw[g.fst k (by omega) e,h.snd _ (by omega) (by omega)];congr 1;omega
   · rw[g.snd k (by omega) (by omega),h.out _ (by omega)]
 · rw[g.out k (by omega),h.out k (by omega)]
theorem Rot.small {lo i j:Nat} {d d1 d':Array α} (hij:i<j) (h:Yj lo (lo+j) i d d1) (g:Rot lo i (j-i) d1 d'):Rot lo i j d d':=by
 refine⟨g.size.trans h.size,fun k h1 h2=>?_,fun k h1 h2=>?_,fun k h1=>?_⟩
 · by_cases e:k<lo+(j-i)
   · rw[g.fst k h1 e,h.out _ (by omega)]
   · rw[g.snd k (by omega) (by omega),h.fst _ (by omega) (by omega)];congr 1;omega
 · rw[g.out k (by omega),h.snd k (by omega) (by omega)];congr 1;omega
 · rw[g.out k (by omega),h.out k (by omega)]
theorem Rot.triv {lo i j:Nat} {d:Array α} (h:i=0∨j=0):Rot lo i j d d :=
 ⟨rfl,fun k h1 h2=>by congr 1;omega,fun k h1 h2=>by congr 1;omega,fun _ _=>rfl⟩
theorem Rot.up {a n:Nat} {d dk:Array α} (h:Rot a 1 n d dk) (hs:a+n+1<d.size):Rot a 1 (n+1) d (swp dk (a+n) (a+n+1)):=by
 have hz:=h.size;refine⟨by rw[size_swp];exact hz,fun k h1 h2=>?_,fun k h1 h2=>?_,fun k h1=>?_⟩
 · by_cases e:k=a+n
   · rw[e,swp_left _ _ _ (by omega) (by omega),h.out _ (by omega)]
   · rw[swp_other _ _ _ _ e (by omega)];exact h.fst k h1 (by omega)
 · have e:k=a+n+1:=by omega
   rw[e,swp_right _ _ _ (by omega),h.snd _ (by omega) (by omega)];congr 1;omega
 · rw[swp_other _ _ _ _ (by omega) (by omega)];exact h.out k (by omega)
theorem Rot.down {k n:Nat} {d dk:Array α} (h:Rot (k+1) n 1 d dk) (hs:k+1+n<d.size):Rot k (n+1) 1 d (swp dk (k+1) k):=by
 have hz:=h.size;refine⟨by rw[size_swp];exact hz,fun x h1 h2=>?_,fun x h1 h2=>?_,fun x h1=>?_⟩
 · have e:x=k:=by omega
   rw[e,swp_right _ _ _ (by omega),h.fst _ (by omega) (by omega)];congr 1;omega
 · by_cases e:x=k+1
   · rw[e,swp_left _ _ _ (by omega) (by omega),h.out _ (by omega)];congr 1
   · rw[swp_other _ _ _ _ e (by omega)];exact h.snd x (by omega) (by omega)
 · rw[swp_other _ _ _ _ (by omega) (by omega)];exact h.out x (by omega)
theorem jaT {β:Type} {lt:β→β→Bool} (hS:SWO lt) {x y:β} (h:lt x y=true):lt y x=false:=by
 cases g:lt y x
 · rfl
 · have:=hS.trans _ _ _ h g;rw[hS.irrefl] at this;cases this
theorem Zw (hS:SWO lt) {a b:Nat} {d:Array α} (h:SortedIn lt a b d) {i j:Nat} (h1:a≤i) (h2:i≤j) (h3:j<b):lt d[j]! d[i]! = false:=by
 rcases Nat.lt_or_eq_of_le h2 with g | g
 · exact h i j h1 g h3
 · rw[g];exact hS.irrefl _
theorem jl2 (hS:SWO lt) {a b n:Nat} {d d':Array α} (hr:Rot a 1 n d d') (hn:a+1+n≤b) (hs:SortedIn lt (a+1) b d)
 (h1:n=0∨lt d[a+n]! d[a]! = true) (h2:a+1+n=b∨lt d[a+1+n]! d[a]! = false):SortedIn lt a b d':=by
 intro x y hx hxy hy;have lo:∀k,a+1≤k→k≤a+n→lt d[a]! d[k]! = false:=fun k g1 g2=>by
  rcases h1 with h1 | h1
  · omega
  · exact hS.ntrans _ _ _ (jaT hS h1) (Zw hS hs g1 g2 (by omega))
 have hi:∀k,a+1+n≤k→k<b→lt d[k]! d[a]! = false:=fun k g1 g2=>by
  rcases h2 with h2 | h2
  · omega
  · exact hS.ntrans _ _ _ (Zw hS hs (by omega) g1 g2) h2
 rcases Nat.lt_trichotomy x (a+n) with c | c | c
 · rw[hr.fst x hx c];rcases Nat.lt_trichotomy y (a+n) with e | e | e
   · rw[hr.fst y (by omega) e];exact hs _ _ (by omega) (by omega) (by omega)
   · rw[e,hr.snd (a+n) (by omega) (by omega),show a+n-n=a from by omega];exact lo _ (by omega) (by omega)
   · rw[hr.out y (by omega)];exact hs _ _ (by omega) (by omega) hy
 · rw[c,hr.snd (a+n) (by omega) (by omega),show a+n-n=a from by omega,hr.out y (by omega)];exact hi y (by omega) hy
 · rw[hr.out x (by omega),hr.out y (by omega)];exact hs _ _ (by omega) hxy hy
theorem jjr (hS:SWO lt) {a i n:Nat} {d d':Array α} (hr:Rot i n 1 d d') (ha:a≤i) (hs:SortedIn lt a (i+n) d)
 (h1:i=a∨lt d[i+n]! d[i-1]! = false) (h2:n=0∨lt d[i+n]! d[i]! = true):SortedIn lt a (i+n+1) d':=by
 intro x y hx hxy hy;have lo:∀k,a≤k→k<i→lt d[i+n]! d[k]! = false:=fun k g1 g2=>by
  rcases h1 with h1 | h1
  · omega
  · exact hS.ntrans _ _ _ h1 (Zw hS hs g1 (by omega) (by omega))
 have hi:∀k,i≤k→k<i+n→lt d[k]! d[i+n]! = false:=fun k g1 g2=>by
  rcases h2 with h2 | h2
  · omega
  · exact hS.ntrans _ _ _ (Zw hS hs (by omega) g1 g2) (jaT hS h2)
 have ei:d'[i]! = d[i+n]!:=hr.fst i (by omega) (by omega);rcases Nat.lt_trichotomy x i with c | c | c
 · rw[hr.out x (by omega)];rcases Nat.lt_trichotomy y i with e | e | e
   · rw[hr.out y (by omega)];exact hs _ _ hx hxy (by omega)
   · rw[e,ei];exact lo x hx c
   · rw[hr.snd y (by omega) (by omega)];exact hs _ _ hx (by omega) (by omega)
 · rw[c,ei,hr.snd y (by omega) (by omega)];exact hi _ (by omega) (by omega)
 · rw[hr.snd x (by omega) (by omega),hr.snd y (by omega) (by omega)];exact hs _ _ (by omega) (by omega) (by omega)
structure Found (lt:α→α→Bool) (a m b mid s:Nat) (d:Array α):Prop where
 am:a<m
 mb:m<b
 mida:a<mid
 midb:mid<b
 sa:a≤s
 sm:s≤m
 sd:s≤mid
 em:m≤mid+m-s
 eb:mid+m-s≤b
 low:s=a∨mid+m-s=b∨lt d[mid+m-s]! d[s-1]! = false
 high:s=m∨s=mid∨lt d[mid+m-1-s]! d[s]! = true
variable {a m b mid s:Nat} {d d1:Array α}
theorem Found.parts (h:Found lt a m b mid s d) (hr:Rot s (m-s) (mid-s) d d1) (h1:SortedIn lt a m d) (h2:SortedIn lt m b d) :
 SortedIn lt a s d1∧SortedIn lt s mid d1∧SortedIn lt mid (mid+m-s) d1∧SortedIn lt (mid+m-s) b d1:=by
 obtain⟨q1,q2,q3,q4,q5,q6,q7,q8,q9,_,_⟩:=h;refine⟨fun x y hx hxy hy=>?_,fun x y hx hxy hy=>?_,fun x y hx hxy hy=>?_,fun x y hx hxy hy=>?_⟩
 · rw[hr.out x (by omega),hr.out y (by omega)];exact h1 _ _ hx hxy (by omega)
 · rw[hr.fst x hx (by omega),hr.fst y (by omega) (by omega)];exact h2 _ _ (by omega) (by omega) (by omega)
 · rw[hr.snd x (by omega) (by omega),hr.snd y (by omega) (by omega)];exact h1 _ _ (by omega) (by omega) (by omega)
 · rw[hr.out x (by omega),hr.out y (by omega)];exact h2 _ _ (by omega) hxy hy
theorem Found.cross (hS:SWO lt) (h:Found lt a m b mid s d) (hr:Rot s (m-s) (mid-s) d d1) (h1:SortedIn lt a m d) (h2:SortedIn lt m b d) :
 ∀x y,a≤x→x<mid→mid≤y→y<b→lt d1[y]! d1[x]! = false:=by
 obtain⟨q1,q2,q3,q4,q5,q6,q7,q8,q9,low,high⟩:=h;intro x y hx hx2 hy hy2;by_cases cx:x<s
 · rw[hr.out x (by omega)];by_cases cy:y<mid+m-s
   · rw[hr.snd y (by omega) (by omega)];exact h1 _ _ hx (by omega) (by omega)
   · rw[hr.out y (by omega)];rcases low with l | l | l
     · omega
     · omega
     · exact hS.ntrans _ _ _ (hS.ntrans _ _ _ (Zw hS h2 (by omega) (by omega) hy2) l) (Zw hS h1 hx (by omega) (by omega))
 · rw[hr.fst x (by omega) (by omega)];by_cases cy:y<mid+m-s
   · rw[hr.snd y (by omega) (by omega)];rcases high with l | l | l
     · omega
     · omega
     · exact hS.ntrans _ _ _ (hS.ntrans _ _ _ (Zw hS h1 (show a≤s by omega) (show s≤y-(mid-s) by omega) (by omega)) (jaT hS l)) (Zw hS h2 (by omega) (by omega) (by omega))
   · rw[hr.out y (by omega)];exact h2 _ _ (by omega) (by omega) hy2
theorem qi {d2 d3:Array α} (hb:b≤d1.size) (hmb:mid≤b) (p1:PermIn a mid d1 d2) (s1:SortedIn lt a mid d2) (p2:PermIn mid b d2 d3) (s2:SortedIn lt mid b d3)
 (cross:∀x y,a≤x→x<mid→mid≤y→y<b→lt d1[y]! d1[x]! = false):SortedIn lt a b d3:=by
 have c1:∀y,mid≤y→y<b→∀x,a≤x→x<mid→lt d1[y]! d2[x]! = false:=fun y g1 g2 =>
  permIn_all d1 d2 a mid (fun v=>lt d1[y]! v=false) (by omega) p1 (fun x g3 g4=>cross x y g3 g4 g1 g2)
 have c2:∀x,a≤x→x<mid→∀y,mid≤y→y<b→lt d3[y]! d2[x]! = false:=fun x g1 g2 =>
  permIn_all d2 d3 mid b (fun v=>lt v d2[x]! = false) (by rw[p1.1];exact hb) p2 (fun y g3 g4=>by rw[p1.2.1 y (by omega)];exact c1 y g3 g4 x g1 g2)
 intro x y hx hxy hy;by_cases cx:x<mid
 · rw[p2.2.1 x (by omega)];by_cases cy:y<mid
   · rw[p2.2.1 y (by omega)];exact s1 x y hx hxy cy
   · exact c2 x hx cx y (by omega) hy
 · exact s2 x y (by omega) hxy hy
end Go.Proofs.YtibepooajeakfaaGreat
namespace Go.Proofs.YtibepooajeakfaaGreat
open Go.RowKit Go.Shelf Go.Lib Go.Sort
structure Ym (P:Program) (kE:Nat):Prop where
 mixed:P.follows .mixedOrders=true
 fSwap:P.funcs[196]?=some Tryz.f196
 fRot:P.funcs[168]?=some Tryz.f168
 fMrg:P.funcs[119]?=some Tryz.f119
 fIns:P.funcs[118]?=some Tryz.f118
 fStb:P.funcs[70]?=some Tryz.f70
 t0:P.underlying 0=Tryz.prog.underlying 0
 a0:∀w,(isAgg 0).run P w=.ok false w
 z0:∀w,(Go.sizeOf 0).run P w=.ok 1 w
 t3:P.underlying 3=Tryz.prog.underlying 3
 a3:∀w,(isAgg 3).run P w=.ok false w
 z3:∀w,(Go.sizeOf 3).run P w=.ok 1 w
 t4:P.underlying 4=Tryz.prog.underlying 4
 a4:∀w,(isAgg 4).run P w=.ok false w
 z4:∀w,(Go.sizeOf 4).run P w=.ok 1 w
 t39:P.underlying 239=Tryz.prog.underlying 239
 a39:∀w,(isAgg 239).run P w=.ok false w
 z39:∀w,(Go.sizeOf 239).run P w=.ok 1 w
 t22:P.underlying 23=Tryz.prog.underlying 23
 a22:∀w,(isAgg 23).run P w=.ok false w
 z22:∀w,(Go.sizeOf 23).run P w=.ok 1 w
 t25:P.underlying 88=Tryz.prog.underlying 88
 a25:∀w,(isAgg 88).run P w=.ok false w
 z25:∀w,(Go.sizeOf 88).run P w=.ok 1 w
 v0:∀w,(zeroValue 0).run P w=.ok (Value.tuple #[]) w
 v3:∀w,(zeroValue 3).run P w=.ok (Value.int IntKind.i64 0) w
 v4:∀w,(zeroValue 4).run P w=.ok (Value.bool false) w
 aE:∀w,(isAgg 52).run P w=.ok true w
 zE:∀w,(Go.sizeOf 52).run P w=.ok kE w
theorem jjB:Ym Tryz.prog 11 where
 mixed:=by kernel_rfl
 fSwap:=Tryz.func196
 fRot:=Tryz.func168
 fMrg:=Tryz.func119
 fIns:=Tryz.func118
 fStb:=Tryz.func70
 t0:=rfl
 a0:=Tryz.isAgg0
 z0:=Tryz.sizeOf0
 t3:=rfl
 a3:=Tryz.isAgg3
 z3:=Tryz.sizeOf3
 t4:=rfl
 a4:=Tryz.isAgg4
 z4:=Tryz.sizeOf4
 t39:=rfl
 a39:=Tryz.isAgg239
 z39:=Tryz.sizeOf239
 t22:=rfl
 a22:=Tryz.isAgg23
 z22:=Tryz.sizeOf23
 t25:=rfl
 a25:=Tryz.isAgg88
 z25:=Tryz.sizeOf88
 v0:=Tryz.zeroValue0
 v3:=Tryz.zeroValue3
 v4:=Tryz.zeroValue4
 aE:=Tryz.isAgg52
 zE:=Tryz.sizeOf52
theorem jdJ {α:Type} [Inhabited α] {P:Program} {kE:Nat} (L:Ym P kE) (enc:α→List Value) (w0:World) (blk off cap a b n:Nat) (d0 d:Array α) (w:World) (R:RowK enc kE w0 blk off d0) (hs:d0.size=d.size) (S:SWK enc kE w0 blk off d w) (hab:a+n≤b) (hb:b+n≤d.size) (hsz:d.size<4611686018427387904) (cmp:Value) :
 Calls P 196 #[.slice (some ⟨blk,off,none⟩) d.size cap,.int .i64 a,.int .i64 b,.int .i64 n,cmp] w
  fun e w'=>e=.returned (.tuple #[])∧∃d',Yj a b n d d'∧PermIn a (b+n) d d'∧SWK enc kE w0 blk off d' w':=by
 have mixed:=L.mixed;have t0:=L.t0.trans Tryz.underlying0;have a0:=L.a0;have z0:=L.z0;have t3:=L.t3.trans Tryz.underlying3;have a3:=L.a3;have z3:=L.z3;have t4:=L.t4.trans Tryz.underlying4;have a4:=L.a4;have z4:=L.z4;have t39:=L.t39.trans Tryz.underlying239;have a39:=L.a39;have z39:=L.z39;have t22:=L.t22.trans Tryz.underlying23;have a22:=L.a22;have z22:=L.z22;have t25:=L.t25.trans Tryz.underlying88;have a25:=L.a25;have z25:=L.z25;have v0:=L.v0;have v3:=L.v3;have v4:=L.v4;have aE:=L.aE;have zE:=L.zE;have u22:=run_underlying t22;have eSwap:∀args w,(callFunc 196 args).run P w=.ok (.enter 196 args) w:=enters_of L.fSwap (by kernel_rfl) rfl;have eRot:∀args w,(callFunc 168 args).run P w=.ok (.enter 168 args) w:=enters_of L.fRot (by kernel_rfl) rfl;have eMrg:∀args w,(callFunc 119 args).run P w=.ok (.enter 119 args) w:=enters_of L.fMrg (by kernel_rfl) rfl;have eIns:∀args w,(callFunc 118 args).run P w=.ok (.enter 118 args) w:=enters_of L.fIns (by kernel_rfl) rfl;have eStb:∀args w,(callFunc 70 args).run P w=.ok (.enter 70 args) w:=enters_of L.fStb (by kernel_rfl) rfl;have HR:Aside _:=R;have S0:Aside (SWK enc kE w0 blk off d w):=S;clear S R;go_enter L.fSwap,Tryz.ntmps196;go_wp2;go_loopg [10] n (fun g1 vi wr=>∃(i:Nat) (dk:Array α),vi=.int .i64 i∧i≤n∧n-i≤g1∧dk.size=d.size∧Aside (SWK enc kE w0 blk off dk wr)∧Hid (Yj a b i d dk∧PermIn a (b+n) d dk))
 case atStart=>exact⟨0,d,by go_num,by omega,by omega,rfl,S0,Yj.zero _ _ _,permIn_refl _ _ _⟩
 case round =>
  clear S0;obtain⟨i,dk,rfl,hi,hg1,hsk,S1,HX⟩:=hrel;by_cases hlt:i<n
  · have hltz:(i:Int)<(n:Int):=by omega
    obtain⟨iN,hiN⟩:∃q,q=a+i:=⟨_,rfl⟩
    obtain⟨jN,hjN⟩:∃q,q=b+i:=⟨_,rfl⟩
    have ea:((a:Int)+(i:Int)).toNat=iN:=by omega
    have pa:(0:Int)≤(a:Int)+(i:Int):=by omega
    have ba:(a:Int)+(i:Int)<(d.size:Int):=by omega
    have ra:IntKind.i64.wrap ((a:Int)+(i:Int))=(a:Int)+(i:Int):=by rw[IntKind.wrap_i64];omega
    have ec:((b:Int)+(i:Int)).toNat=jN:=by omega
    have pc:(0:Int)≤(b:Int)+(i:Int):=by omega
    have bc:(b:Int)+(i:Int)<(d.size:Int):=by omega
    have rc:IntKind.i64.wrap ((b:Int)+(i:Int))=(b:Int)+(i:Int):=by rw[IntKind.wrap_i64];omega
    have S3:Aside (SWK enc kE w0 blk off (swp dk (iN) (jN)) ((wr.drew.setCells blk (off+(iN)*kE) (enc dk[jN]!)).setCells blk (off+(jN)*kE) (enc dk[iN]!))):=S1.out.swapped HR.out (iN) (jN) (by omega) (by omega);have lA:=S1.out.ld1 HR.out (by omega) P (iN) (by omega);have lB:=S1.out.ld1 HR.out (by omega) P (jN) (by omega);have sA:=S1.out.st1 HR.out (by omega) P (iN) (by omega) dk[jN]!;have sB:=S1.out.st2 HR.out (by omega) P (iN) (jN) (by omega) (by omega) dk[jN]! dk[iN]!;have nA:(enc dk[iN]!).length=kE:=HR.out.hk _;have nB:(enc dk[jN]!).length=kE:=HR.out.hk _;generalize enc dk[iN]! = cI at S3 lA sB nA
    generalize enc dk[jN]! = cJ at S3 lB sA sB nB
    have UD:Hid (Yj a b (i+1) d (swp dk iN jN)∧PermIn a (b+n) d (swp dk iN jN)):=by
     rw[hiN,hjN];exact⟨HX.out.1.step (by omega) (by omega),permIn_trans _ _ _ _ _ HX.out.2 (swp_permIn dk a (b+n) (a+i) (b+i) (by omega) (by omega) (by omega) (by omega) (by omega))⟩
    clear S1 hiN hjN;go_wp2_with fail
    go_big_region_o
    clear lA lB sA sB;generalize (wr.drew.setCells blk (off+(iN)*kE) cJ).setCells blk (off+(jN)*kE) cI=w3 at S3 ⊢
    clear ea ec;go_wp2;go_roundg (n-(i+1))
    case measure=>omega
    case rel=>exact⟨i+1,swp dk iN jN,by go_num,by omega,Nat.le_refl _,by rw[size_swp];exact hsk,S3,UD⟩
  · have hltz:¬(i:Int)<(n:Int):=by omega
    have hin:i=n:=by omega
    subst hin;go_wp2;go_end0
    exact⟨rfl,dk,HX.out.1,HX.out.2,S1.out⟩
def jmV {α:Type} [Inhabited α] (kE:Nat) (enc:α→List Value) (w0:World) (blk off:Nat) (a b n:Nat) (d:Array α) (e:Ending) (w':World):Prop :=
 e=.returned (.tuple #[])∧∃d',Yj a b n d d'∧PermIn a (b+n) d d'∧SWK enc kE w0 blk off d' w'
theorem Xq {α:Type} [Inhabited α] {P:Program} {kE:Nat} (L:Ym P kE) (enc:α→List Value) (w0:World) (blk off cap a b n:Nat) (za zb zn:Int) (d0 d:Array α) (w:World) (R:RowK enc kE w0 blk off d0) (hs:d0.size=d.size) (S:SWK enc kE w0 blk off d w) (hab:a+n≤b) (hb:b+n≤d.size) (hsz:d.size<4611686018427387904) (cmp:Value)
 (ea:za=a) (eb:zb=b) (en:zn=n) (N:Nat) (hN:N=d.size) :
 Calls P 196 #[.slice (some ⟨blk,off,none⟩) N cap,.int .i64 za,.int .i64 zb,.int .i64 zn,cmp] w (jmV kE enc w0 blk off a b n d):=by
 subst ea eb en hN;exact jdJ L enc w0 blk off cap a b n d0 d w R hs S hab hb hsz cmp
theorem jgJ {α:Type} [Inhabited α] {P:Program} {kE:Nat} (L:Ym P kE) (enc:α→List Value) (w0:World) (blk off cap a m b:Nat) (d0 d:Array α) (w:World) (R:RowK enc kE w0 blk off d0) (hs:d0.size=d.size) (S:SWK enc kE w0 blk off d w) (ham:a<m) (hmb:m<b) (hb:b≤d.size) (hsz:d.size<4611686018427387904) (cmp:Value) :
 Calls P 168 #[.slice (some ⟨blk,off,none⟩) d.size cap,.int .i64 a,.int .i64 m,.int .i64 b,cmp] w
  fun e w'=>e=.returned (.tuple #[])∧∃d',Rot a (m-a) (b-m) d d'∧PermIn a b d d'∧SWK enc kE w0 blk off d' w':=by
 have mixed:=L.mixed;have t0:=L.t0.trans Tryz.underlying0;have a0:=L.a0;have z0:=L.z0;have t3:=L.t3.trans Tryz.underlying3;have a3:=L.a3;have z3:=L.z3;have t4:=L.t4.trans Tryz.underlying4;have a4:=L.a4;have z4:=L.z4;have t39:=L.t39.trans Tryz.underlying239;have a39:=L.a39;have z39:=L.z39;have t22:=L.t22.trans Tryz.underlying23;have a22:=L.a22;have z22:=L.z22;have t25:=L.t25.trans Tryz.underlying88;have a25:=L.a25;have z25:=L.z25;have v0:=L.v0;have v3:=L.v3;have v4:=L.v4;have aE:=L.aE;have zE:=L.zE;have u22:=run_underlying t22;have eSwap:∀args w,(callFunc 196 args).run P w=.ok (.enter 196 args) w:=enters_of L.fSwap (by kernel_rfl) rfl;have eRot:∀args w,(callFunc 168 args).run P w=.ok (.enter 168 args) w:=enters_of L.fRot (by kernel_rfl) rfl;have eMrg:∀args w,(callFunc 119 args).run P w=.ok (.enter 119 args) w:=enters_of L.fMrg (by kernel_rfl) rfl;have eIns:∀args w,(callFunc 118 args).run P w=.ok (.enter 118 args) w:=enters_of L.fIns (by kernel_rfl) rfl;have eStb:∀args w,(callFunc 70 args).run P w=.ok (.enter 70 args) w:=enters_of L.fStb (by kernel_rfl) rfl;have HR:Aside _:=R;have S0:Aside (SWK enc kE w0 blk off d w):=S;have r1:IntKind.i64.wrap ((m:Int)-(a:Int))=(m:Int)-(a:Int):=by rw[IntKind.wrap_i64];omega
 have r2:IntKind.i64.wrap ((b:Int)-(m:Int))=(b:Int)-(m:Int):=by rw[IntKind.wrap_i64];omega
 clear S R;go_enter L.fRot,Tryz.ntmps168;go_wp2;go_loopg [10,11] (b-a) (fun g1 vi vj wr=>∃(i j:Nat) (dk:Array α),vi=.int .i64 i∧vj=.int .i64 j∧0<i∧0<j∧i≤m-a∧j≤b-m∧i+j≤g1∧dk.size=d.size∧Aside (SWK enc kE w0 blk off dk wr)∧Hid ((∀d',Rot (m-i) i j dk d'→Rot a (m-a) (b-m) d d')∧PermIn a b d dk))
 case atStart=>exact⟨m-a,b-m,d,by congr 1;omega,by congr 1;omega,by omega,by omega,by omega,by omega,by omega,rfl,S0,fun d' h=>by rwa [show m-(m-a)=a from by omega] at h,permIn_refl _ _ _⟩
 case round =>
  clear S0;obtain⟨i,j,dk,rfl,rfl,hi,hj,hia,hjb,hg1,hsk,S1,HX⟩:=hrel;have r3:IntKind.i64.wrap ((m:Int)-(i:Int))=(m:Int)-(i:Int):=by rw[IntKind.wrap_i64];omega
  rcases Nat.lt_trichotomy j i with hlt | hlt | hlt
  · have q1:((i:Int) != (j:Int))=true:=by simp;omega
    have q2:(j:Int)<(i:Int):=by omega
    have r4:IntKind.i64.wrap ((i:Int)-(j:Int))=(i:Int)-(j:Int):=by rw[IntKind.wrap_i64];omega
    have hc:=lH (Xq L enc w0 blk off cap (m-i) m j ((m:Int)-i) m j d0 dk wr HR.out (by omega) S1.out (by omega) (by omega) (by omega) cmp (by omega) rfl rfl d.size hsk.symm);clear S1;go_wp2_with (go_at_call 196;refine hc.out.mono ?_;rintro e w1 ⟨rfl,d1,hE,hP,hS⟩)
    have H1:Hid (Yj (m-i) m j dk d1):=hE;have H2:Hid (PermIn (m-i) (m+j) dk d1):=hP;have S2:Aside (SWK enc kE w0 blk off d1 w1):=hS;clear hE hP hS;go_roundg (i+j-j)
    case measure=>omega
    case rel =>
     have hz:=H1.out.size;refine⟨i-j,j,d1,by congr 1;omega,rfl,by omega,by omega,by omega,by omega,by omega,by omega,S2,fun d' h=>HX.out.1 d' (Rot.big hlt (by rw[show m-i+i=m from by omega];exact H1.out) (by rw[show m-i+j=m-(i-j) from by omega];exact h)),permIn_trans _ _ _ _ _ HX.out.2 (permIn_mono _ _ _ _ _ _ (by omega) (by omega) (by omega) H2.out)⟩
  · subst hlt;have q1:((j:Int) != (j:Int))=false:=by simp
    have hc:=lH (Xq L enc w0 blk off cap (m-j) m j ((m:Int)-j) m j d0 dk wr HR.out (by omega) S1.out (by omega) (by omega) (by omega) cmp (by omega) rfl rfl d.size hsk.symm);clear S1;go_wp2_with (go_at_call 196;refine hc.out.mono ?_;rintro e w1 ⟨rfl,d1,hE,hP,hS⟩)
    have H1:Hid (Yj (m-j) m j dk d1):=hE;have H2:Hid (PermIn (m-j) (m+j) dk d1):=hP;have S2:Aside (SWK enc kE w0 blk off d1 w1):=hS;clear hE hP hS;go_end0
    exact⟨rfl,d1,HX.out.1 d1 (Rot.of_exch (by rw[show m-j+j=m from by omega];exact H1.out)),permIn_trans _ _ _ _ _ HX.out.2 (permIn_mono _ _ _ _ _ _ (by omega) (by omega) (by omega) H2.out),S2.out⟩
  · have q1:((i:Int) != (j:Int))=true:=by simp;omega
    have q2:¬(j:Int)<(i:Int):=by omega
    have r4:IntKind.i64.wrap ((j:Int)-(i:Int))=(j:Int)-(i:Int):=by rw[IntKind.wrap_i64];omega
    have r5:IntKind.i64.wrap ((m:Int)+(j:Int))=(m:Int)+(j:Int):=by rw[IntKind.wrap_i64];omega
    have r6:IntKind.i64.wrap ((m:Int)+(j:Int)-(i:Int))=(m:Int)+(j:Int)-(i:Int):=by rw[IntKind.wrap_i64];omega
    have hc:=lH (Xq L enc w0 blk off cap (m-i) (m+j-i) i ((m:Int)-i) ((m:Int)+j-i) i d0 dk wr HR.out (by omega) S1.out (by omega) (by omega) (by omega) cmp (by omega) (by omega) rfl d.size hsk.symm);clear S1;go_wp2_with (go_at_call 196;refine hc.out.mono ?_;rintro e w1 ⟨rfl,d1,hE,hP,hS⟩)
    have H1:Hid (Yj (m-i) (m+j-i) i dk d1):=hE;have H2:Hid (PermIn (m-i) (m+j-i+i) dk d1):=hP;have S2:Aside (SWK enc kE w0 blk off d1 w1):=hS;clear hE hP hS;go_roundg (i+j-i)
    case measure=>omega
    case rel =>
     have hz:=H1.out.size;refine⟨i,j-i,d1,rfl,by congr 1;omega,by omega,by omega,by omega,by omega,by omega,by omega,S2,fun d' h=>HX.out.1 d' (Rot.small hlt (by rw[show m-i+j=m+j-i from by omega];exact H1.out) h),permIn_trans _ _ _ _ _ HX.out.2 (permIn_mono _ _ _ _ _ _ (by omega) (by omega) (by omega) H2.out)⟩
def jao {α:Type} [Inhabited α] (kE:Nat) (enc:α→List Value) (cf:α→α→Int) (w0:World) (blk off a b:Nat) (d:Array α) (e:Ending) (w':World):Prop :=
 e=.returned (.tuple #[])∧∃d',PermIn a b d d'∧SortedIn (ltOf cf) a b d'∧SWK enc kE w0 blk off d' w'
theorem jdF {α:Type} [Inhabited α] {P:Program} {kE:Nat} (L:Ym P kE) (enc:α→List Value) (cf:α→α→Int) (hO:SWO (ltOf cf)) (g:Nat) (cb:Array Value) (w0:World) (blk off cap a b:Nat) (d0 d:Array α) (w:World)
 (eg:∀args w,(callFunc g args).run P w=.ok (.enter g args) w) (hcmp:CmpLays P g cb enc kE cf blk off d0.size w0) (R:RowK enc kE w0 blk off d0) (hs:d0.size=d.size) (S:SWK enc kE w0 blk off d w)
 (hab:a+1<b) (hb:b≤d.size) (hsz:d.size<2305843009213693952) (s2:SortedIn (ltOf cf) (a+1) b d) :
 Calls P 119 #[.slice (some ⟨blk,off,none⟩) d.size cap,.int .i64 a,.int .i64 ((a:Int)+1),.int .i64 b,.func (.func g) #[] cb] w (jao kE enc cf w0 blk off a b d):=by
 unfold jao;have mixed:=L.mixed;have t0:=L.t0.trans Tryz.underlying0;have a0:=L.a0;have z0:=L.z0;have t3:=L.t3.trans Tryz.underlying3;have a3:=L.a3;have z3:=L.z3;have t4:=L.t4.trans Tryz.underlying4;have a4:=L.a4;have z4:=L.z4;have t39:=L.t39.trans Tryz.underlying239;have a39:=L.a39;have z39:=L.z39;have t22:=L.t22.trans Tryz.underlying23;have a22:=L.a22;have z22:=L.z22;have t25:=L.t25.trans Tryz.underlying88;have a25:=L.a25;have z25:=L.z25;have v0:=L.v0;have v3:=L.v3;have v4:=L.v4;have aE:=L.aE;have zE:=L.zE;have u22:=run_underlying t22;have eSwap:∀args w,(callFunc 196 args).run P w=.ok (.enter 196 args) w:=enters_of L.fSwap (by kernel_rfl) rfl;have eRot:∀args w,(callFunc 168 args).run P w=.ok (.enter 168 args) w:=enters_of L.fRot (by kernel_rfl) rfl;have eMrg:∀args w,(callFunc 119 args).run P w=.ok (.enter 119 args) w:=enters_of L.fMrg (by kernel_rfl) rfl;have eIns:∀args w,(callFunc 118 args).run P w=.ok (.enter 118 args) w:=enters_of L.fIns (by kernel_rfl) rfl;have eStb:∀args w,(callFunc 70 args).run P w=.ok (.enter 70 args) w:=enters_of L.fStb (by kernel_rfl) rfl;have HR:Aside _:=R;have HC:Aside _:=hcmp;have SS:Aside _:=s2;have OO:Aside _:=hO;have S0:Aside (SWK enc kE w0 blk off d w):=S;have r1:IntKind.i64.wrap ((a:Int)+1-(a:Int))=1:=by rw[IntKind.wrap_i64];omega
 have baz:(a:Int)<(d.size:Int):=by omega
 clear S R hcmp s2 hO;go_enter L.fMrg,Tryz.ntmps119;go_wp2
 go_loopg [10,11] b (fun g1 vi vj wr=>∃lo hi:Nat,vi=.int .i64 lo∧vj=.int .i64 hi∧a+1≤lo∧lo≤hi∧hi≤b∧hi-lo≤g1∧Aside (SWK enc kE w0 blk off d wr) ∧
  Hid ((lo=a+1∨ltOf cf d[lo-1]! d[a]! = true)∧(hi=b∨ltOf cf d[hi]! d[a]! = false)))
 case atStart=>exact⟨a+1,b,by go_num,rfl,by omega,by omega,by omega,by omega,S0,.inl rfl,.inl rfl⟩
 case round =>
  clear S0;obtain⟨lo,hi,rfl,rfl,hal,hlh,hhb,hg1,S1,HX⟩:=hrel;by_cases hlt:lo<hi
  · have hltz:(lo:Int)<(hi:Int):=by omega
    obtain⟨x,hx⟩:∃x,x=d[(lo+hi) / 2]!:=⟨_,rfl⟩
    obtain⟨y,hy⟩:∃x,x=d[a]!:=⟨_,rfl⟩
    have l1:=S1.out.ld HR.out (by omega) P ((lo+hi) / 2) (by omega);have l2:=S1.out.ld HR.out (by omega) P a (by omega);obtain⟨hN,hhN⟩:∃q,q=(lo+hi) / 2:=⟨_,rfl⟩
    rw[←hx,←hhN] at l1;rw[←hy] at l2;have ea:(((lo:Int)+(hi:Int)) / 2).toNat=hN:=by omega
    have pa:(0:Int)≤((lo:Int)+(hi:Int)) / 2:=by omega
    have ra:IntKind.i64.wrap (((lo:Int)+(hi:Int)) / 2)=((lo:Int)+(hi:Int)) / 2:=by rw[IntKind.wrap_i64];omega
    have hc:=S1.out.cmp HC.out (by omega) x y;have bm:((lo:Int)+(hi:Int)) / 2<(d.size:Int):=by omega
    have V8:Hid (x=d[(lo+hi) / 2]!∧y=d[a]!):=⟨hx,hy⟩
    clear hx hy hhN;by_cases hv:cf x y<0
    · have hd:decide (cf x y<0)=true:=decide_eq_true hv;go_wp2_with fail
      go_quiet_grown (first | (go_at_fn g;refine Calls.grown_of (hc _ _)))
      have S2:Aside (SWK enc kE w0 blk off d (grow (wr.drewN nq) osq)):=S1.out.grown nq osq;clear l1 l2 hc S1;generalize grow (wr.drewN nq) osq=w2 at S2 ⊢
      clear nq osq;go_wp2;go_roundg (hi-((lo+hi) / 2+1))
      case measure=>omega
      case rel =>
       refine⟨(lo+hi) / 2+1,hi,by rw[show ((lo:Int)+(hi:Int)) / 2+1=(((lo+hi) / 2+1:Nat):Int) by omega],rfl,by omega,by omega,by omega,Nat.le_refl _,S2,?_,HX.out.2⟩;right
       rw[show (lo+hi) / 2+1-1=(lo+hi) / 2 from by omega,←V8.out.1,←V8.out.2];exact hd
    · have hd:decide (cf x y<0)=false:=decide_eq_false hv;go_wp2_with fail
      go_quiet_grown (first | (go_at_fn g;refine Calls.grown_of (hc _ _)))
      have S2:Aside (SWK enc kE w0 blk off d (grow (wr.drewN nq) osq)):=S1.out.grown nq osq;clear l1 l2 hc S1;generalize grow (wr.drewN nq) osq=w2 at S2 ⊢
      clear nq osq;go_wp2;go_roundg ((lo+hi) / 2-lo)
      case measure=>omega
      case rel =>
       refine⟨lo,(lo+hi) / 2,rfl,by rw[show ((lo:Int)+(hi:Int)) / 2=(((lo+hi) / 2:Nat):Int) by omega],by omega,by omega,by omega,Nat.le_refl _,S2,HX.out.1,?_⟩;right
       rw[←V8.out.1,←V8.out.2];exact hd
  · obtain rfl:hi=lo:=by omega
    have r2:IntKind.i64.wrap ((hi:Int)-1)=(hi:Int)-1:=by rw[IntKind.wrap_i64];omega
    have hq:¬(hi:Int)<(hi:Int):=by omega
    go_wp2;go_loopg [13] b (fun g2 vk wr2=>∃(n:Nat) (dk:Array α),vk=.int .i64 ((a+n:Nat):Int)∧a+n+1≤hi∧b-(a+n)≤g2∧dk.size=d.size∧Aside (SWK enc kE w0 blk off dk wr2)∧Hid (Rot a 1 n d dk∧PermIn a b d dk))
    case atStart=>exact⟨0,d,by go_num,by omega,by omega,rfl,S1,Rot.triv (.inr rfl),permIn_refl _ _ _⟩
    case round =>
     clear S1;obtain⟨n,dk,rfl,hn,hg2,hsk,S2,HY⟩:=hrel;by_cases hk:a+n+1<hi
     · have hkz:((a+n:Nat):Int)<(hi:Int)-1:=by omega
       obtain⟨kN,hkN⟩:∃q,q=a+n:=⟨_,rfl⟩
       rw[←hkN] at hkz ⊢;obtain⟨jN,hjN⟩:∃q,q=kN+1:=⟨_,rfl⟩
       have ea:((kN:Int)+1).toNat=jN:=by omega
       have pa:(0:Int)≤(kN:Int)+1:=by omega
       have ba:(kN:Int)+1<(d.size:Int):=by omega
       have bk:(kN:Int)<(d.size:Int):=by omega
       have ra:IntKind.i64.wrap ((kN:Int)+1)=(kN:Int)+1:=by rw[IntKind.wrap_i64];omega
       have S3:Aside (SWK enc kE w0 blk off (swp dk (kN) (jN)) ((wr.drew.setCells blk (off+(kN)*kE) (enc dk[jN]!)).setCells blk (off+(jN)*kE) (enc dk[kN]!))):=S2.out.swapped HR.out (kN) (jN) (by omega) (by omega);have lA:=S2.out.ld1 HR.out (by omega) P (kN) (by omega);have lB:=S2.out.ld1 HR.out (by omega) P (jN) (by omega);have sA:=S2.out.st1 HR.out (by omega) P (kN) (by omega) dk[jN]!;have sB:=S2.out.st2 HR.out (by omega) P (kN) (jN) (by omega) (by omega) dk[jN]! dk[kN]!;have nA:(enc dk[kN]!).length=kE:=HR.out.hk _;have nB:(enc dk[jN]!).length=kE:=HR.out.hk _;generalize enc dk[kN]! = cI at S3 lA sB nA
       generalize enc dk[jN]! = cJ at S3 lB sA sB nB
       have Tv:Hid (Rot a 1 (n+1) d (swp dk kN jN)∧PermIn a b d (swp dk kN jN)) :=
        ⟨by rw[hjN,hkN];exact HY.out.1.up (by omega),permIn_trans _ _ _ _ _ HY.out.2 (swp_permIn dk a b kN jN (by omega) (by omega) (by omega) (by omega) (by omega))⟩
       have HK:Hid (kN=a+n):=hkN;clear S2 hjN hkN;go_wp2_with fail
       go_big_region_o
       clear lA lB sA sB;generalize (wr.drew.setCells blk (off+(kN)*kE) cJ).setCells blk (off+(jN)*kE) cI=w3 at S3 ⊢
       clear ea;go_wp2;go_roundg (b-(a+(n+1)))
       case measure=>have:=HK.out;omega
       case rel=>exact⟨n+1,swp dk kN jN,by rw[HK.out];go_num,by omega,Nat.le_refl _,by rw[size_swp];exact hsk,S3,Tv⟩
     · have hkz:¬((a+n:Nat):Int)<(hi:Int)-1:=by omega
       have en:hi=a+1+n:=by omega
       have R1:Hid (Rot a 1 n d dk∧PermIn a b d dk):=HY;have EN:Hid (hi=a+1+n):=en;obtain⟨kN,hkN⟩:∃q,q=a+n:=⟨_,rfl⟩
       rw[←hkN] at hkz ⊢;clear en hkN;go_wp2;refine bodyPost_ret (results_none rfl _ _ _) rfl ?_;have e1:=EN.out;refine⟨rfl,dk,R1.out.2,jl2 OO.out R1.out.1 (by omega) SS.out ?_ ?_,S2.out⟩
       · rcases HX.out.1 with h | h
         · exact .inl (by omega)
         · right;rw[show a+n=hi-1 from by omega];exact h
       · rcases HX.out.2 with h | h
         · exact .inl (by omega)
         · right;rw[←e1];exact h
theorem jc0 {α:Type} [Inhabited α] {P:Program} {kE:Nat} (L:Ym P kE) (enc:α→List Value) (cf:α→α→Int) (hO:SWO (ltOf cf)) (g:Nat) (cb:Array Value) (w0:World) (blk off cap a m:Nat) (d0 d:Array α) (w:World)
 (eg:∀args w,(callFunc g args).run P w=.ok (.enter g args) w) (hcmp:CmpLays P g cb enc kE cf blk off d0.size w0) (R:RowK enc kE w0 blk off d0) (hs:d0.size=d.size) (S:SWK enc kE w0 blk off d w)
 (ham:a+1<m) (hb:m+1≤d.size) (hsz:d.size<2305843009213693952) (s1:SortedIn (ltOf cf) a m d) :
 Calls P 119 #[.slice (some ⟨blk,off,none⟩) d.size cap,.int .i64 a,.int .i64 m,.int .i64 ((m:Int)+1),.func (.func g) #[] cb] w (jao kE enc cf w0 blk off a (m+1) d):=by
 unfold jao;have mixed:=L.mixed;have t0:=L.t0.trans Tryz.underlying0;have a0:=L.a0;have z0:=L.z0;have t3:=L.t3.trans Tryz.underlying3;have a3:=L.a3;have z3:=L.z3;have t4:=L.t4.trans Tryz.underlying4;have a4:=L.a4;have z4:=L.z4;have t39:=L.t39.trans Tryz.underlying239;have a39:=L.a39;have z39:=L.z39;have t22:=L.t22.trans Tryz.underlying23;have a22:=L.a22;have z22:=L.z22;have t25:=L.t25.trans Tryz.underlying88;have a25:=L.a25;have z25:=L.z25;have v0:=L.v0;have v3:=L.v3;have v4:=L.v4;have aE:=L.aE;have zE:=L.zE;have u22:=run_underlying t22;have eSwap:∀args w,(callFunc 196 args).run P w=.ok (.enter 196 args) w:=enters_of L.fSwap (by kernel_rfl) rfl;have eRot:∀args w,(callFunc 168 args).run P w=.ok (.enter 168 args) w:=enters_of L.fRot (by kernel_rfl) rfl;have eMrg:∀args w,(callFunc 119 args).run P w=.ok (.enter 119 args) w:=enters_of L.fMrg (by kernel_rfl) rfl;have eIns:∀args w,(callFunc 118 args).run P w=.ok (.enter 118 args) w:=enters_of L.fIns (by kernel_rfl) rfl;have eStb:∀args w,(callFunc 70 args).run P w=.ok (.enter 70 args) w:=enters_of L.fStb (by kernel_rfl) rfl;have HR:Aside _:=R;have HC:Aside _:=hcmp;have SS:Aside _:=s1;have OO:Aside _:=hO;have S0:Aside (SWK enc kE w0 blk off d w):=S;have r0:IntKind.i64.wrap ((m:Int)-(a:Int))=(m:Int)-(a:Int):=by rw[IntKind.wrap_i64];omega
 have q0:((m:Int)-(a:Int)==1)=false:=by simp;omega
 have r1:IntKind.i64.wrap ((m:Int)+1-(m:Int))=1:=by rw[IntKind.wrap_i64];omega
 have bmz:(m:Int)<(d.size:Int):=by omega
 clear S R hcmp s1 hO;go_enter L.fMrg,Tryz.ntmps119;go_wp2
 go_loopg [14,15] m (fun g1 vi vj wr=>∃lo hi:Nat,vi=.int .i64 lo∧vj=.int .i64 hi∧a≤lo∧lo≤hi∧hi≤m∧hi-lo≤g1∧Aside (SWK enc kE w0 blk off d wr) ∧
  Hid ((lo=a∨ltOf cf d[m]! d[lo-1]! = false)∧(hi=m∨ltOf cf d[m]! d[hi]! = true)))
 case atStart=>exact⟨a,m,rfl,rfl,by omega,by omega,by omega,by omega,S0,.inl rfl,.inl rfl⟩
 case round =>
  clear S0;obtain⟨lo,hi,rfl,rfl,hal,hlh,hhb,hg1,S1,HX⟩:=hrel;by_cases hlt:lo<hi
  · have hltz:(lo:Int)<(hi:Int):=by omega
    obtain⟨x,hx⟩:∃x,x=d[(lo+hi) / 2]!:=⟨_,rfl⟩
    obtain⟨y,hy⟩:∃x,x=d[m]!:=⟨_,rfl⟩
    have l1:=S1.out.ld HR.out (by omega) P ((lo+hi) / 2) (by omega);have l2:=S1.out.ld HR.out (by omega) P m (by omega);obtain⟨hN,hhN⟩:∃q,q=(lo+hi) / 2:=⟨_,rfl⟩
    rw[←hx,←hhN] at l1;rw[←hy] at l2;have ea:(((lo:Int)+(hi:Int)) / 2).toNat=hN:=by omega
    have pa:(0:Int)≤((lo:Int)+(hi:Int)) / 2:=by omega
    have ra:IntKind.i64.wrap (((lo:Int)+(hi:Int)) / 2)=((lo:Int)+(hi:Int)) / 2:=by rw[IntKind.wrap_i64];omega
    have hc:=S1.out.cmp HC.out (by omega) y x;have bm:((lo:Int)+(hi:Int)) / 2<(d.size:Int):=by omega
    have V8:Hid (x=d[(lo+hi) / 2]!∧y=d[m]!):=⟨hx,hy⟩
    clear hx hy hhN;by_cases hv:cf y x<0
    · have hd:decide (cf y x<0)=true:=decide_eq_true hv;go_wp2_with fail
      go_quiet_grown (first | (go_at_fn g;refine Calls.grown_of (hc _ _)))
      have S2:Aside (SWK enc kE w0 blk off d (grow (wr.drewN nq) osq)):=S1.out.grown nq osq;clear l1 l2 hc S1;generalize grow (wr.drewN nq) osq=w2 at S2 ⊢
      clear nq osq;go_wp2;go_roundg ((lo+hi) / 2-lo)
      case measure=>omega
      case rel =>
       refine⟨lo,(lo+hi) / 2,rfl,by rw[show ((lo:Int)+(hi:Int)) / 2=(((lo+hi) / 2:Nat):Int) by omega],by omega,by omega,by omega,Nat.le_refl _,S2,HX.out.1,?_⟩;right
       rw[←V8.out.1,←V8.out.2];exact hd
    · have hd:decide (cf y x<0)=false:=decide_eq_false hv;go_wp2_with fail
      go_quiet_grown (first | (go_at_fn g;refine Calls.grown_of (hc _ _)))
      have S2:Aside (SWK enc kE w0 blk off d (grow (wr.drewN nq) osq)):=S1.out.grown nq osq;clear l1 l2 hc S1;generalize grow (wr.drewN nq) osq=w2 at S2 ⊢
      clear nq osq;go_wp2;go_roundg (hi-((lo+hi) / 2+1))
      case measure=>omega
      case rel =>
       refine⟨(lo+hi) / 2+1,hi,by rw[show ((lo:Int)+(hi:Int)) / 2+1=(((lo+hi) / 2+1:Nat):Int) by omega],rfl,by omega,by omega,by omega,Nat.le_refl _,S2,?_,HX.out.2⟩;right
       rw[show (lo+hi) / 2+1-1=(lo+hi) / 2 from by omega,←V8.out.1,←V8.out.2];exact hd
  · obtain rfl:hi=lo:=by omega
    have hq:¬(hi:Int)<(hi:Int):=by omega
    go_wp2;go_loopg [17] m (fun g2 vk wr2=>∃(k n:Nat) (dk:Array α),vk=.int .i64 (k:Int)∧k+n=m∧hi≤k∧k≤g2∧dk.size=d.size∧Aside (SWK enc kE w0 blk off dk wr2)∧Hid (Rot k n 1 d dk∧PermIn a (m+1) d dk))
    case atStart=>exact⟨m,0,d,rfl,by omega,by omega,by omega,rfl,S1,Rot.triv (.inl rfl),permIn_refl _ _ _⟩
    case round =>
     clear S1;obtain⟨k,n,dk,rfl,hkn,hhk,hg2,hsk,S2,HY⟩:=hrel;by_cases hk:hi<k
     · obtain⟨jN,hjN⟩:∃q,q+1=k:=⟨k-1,by omega⟩
       subst hjN;have hkz:(hi:Int)<(jN:Int)+1:=by omega
       obtain⟨kN,hkN⟩:∃q,q=jN+1:=⟨_,rfl⟩
       have ea:((jN:Int)+1).toNat=kN:=by omega
       have pa:(0:Int)≤(jN:Int)+1:=by omega
       have ba:(jN:Int)+1<(d.size:Int):=by omega
       have bk:(jN:Int)<(d.size:Int):=by omega
       have ra:IntKind.i64.wrap (jN:Int)=(jN:Int):=by rw[IntKind.wrap_i64];omega
       have ra2:IntKind.i64.wrap ((jN:Int)+1-1)=(jN:Int):=by rw[IntKind.wrap_i64];omega
       have S3:Aside (SWK enc kE w0 blk off (swp dk (kN) (jN)) ((wr.drew.setCells blk (off+(kN)*kE) (enc dk[jN]!)).setCells blk (off+(jN)*kE) (enc dk[kN]!))):=S2.out.swapped HR.out (kN) (jN) (by omega) (by omega);have lA:=S2.out.ld1 HR.out (by omega) P (kN) (by omega);have lB:=S2.out.ld1 HR.out (by omega) P (jN) (by omega);have sA:=S2.out.st1 HR.out (by omega) P (kN) (by omega) dk[jN]!;have sB:=S2.out.st2 HR.out (by omega) P (kN) (jN) (by omega) (by omega) dk[jN]! dk[kN]!;have nA:(enc dk[kN]!).length=kE:=HR.out.hk _;have nB:(enc dk[jN]!).length=kE:=HR.out.hk _;generalize enc dk[kN]! = cI at S3 lA sB nA
       generalize enc dk[jN]! = cJ at S3 lB sA sB nB
       have Tv:Hid (Rot jN (n+1) 1 d (swp dk kN jN)∧PermIn a (m+1) d (swp dk kN jN)) :=
        ⟨by rw[hkN];exact HY.out.1.down (by omega),permIn_trans _ _ _ _ _ HY.out.2 (swp_permIn dk a (m+1) kN jN (by omega) (by omega) (by omega) (by omega) (by omega))⟩
       clear S2 hkN;go_wp2_with fail
       go_big_region_o
       clear lA lB sA sB;generalize (wr.drew.setCells blk (off+(kN)*kE) cJ).setCells blk (off+(jN)*kE) cI=w3 at S3 ⊢
       clear ea;go_wp2;go_roundg jN
       case measure=>omega
       case rel=>exact⟨jN,n+1,swp dk kN jN,by first | rfl | go_num | (congr 1;omega),by omega,by omega,Nat.le_refl _,by rw[size_swp];exact hsk,S3,Tv⟩
     · have en:k=hi:=by omega
       subst en;have hkz:¬(k:Int)<(k:Int):=by omega
       have KN:Hid (k+n=m):=hkn;clear hkn;go_wp2;refine bodyPost_ret (results_none rfl _ _ _) rfl ?_;have e1:=KN.out;refine⟨rfl,dk,HY.out.2,?_,S2.out⟩;have:=jjr OO.out HY.out.1 hal (by rw[e1];exact SS.out) ?_ ?_
       · rw[e1] at this;exact this
       · rcases HX.out.1 with h | h
         · exact .inl h
         · right;rw[e1];exact h
       · rcases HX.out.2 with h | h
         · exact .inl (by omega)
         · right;rw[e1];exact h
end Go.Proofs.YtibepooajeakfaaGreat
