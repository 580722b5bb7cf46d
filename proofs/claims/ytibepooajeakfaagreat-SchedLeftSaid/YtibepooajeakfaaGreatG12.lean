/- C. -/
import Derived.Test.YtibepooajeakfaaGreatG1
import Derived.Test.YtibepooajeakfaaGreatG4
import Derived.Test.YtibepooajeakfaaGreatG8
import Derived.Test.YtibepooajeakfaaGreatG10
import Derived.Sort.LotD2
import Derived.Shelf.SlSortCmp.KitK
set_option linter.unusedVariables false
set_option maxRecDepth 100000
set_option maxHeartbeats 25600000
namespace Go.Proofs.YtibepooajeakfaaGreat
open Go.RowKit
theorem jjp:ByteArray.empty.toList=[]:=by first | rfl | decide | simp | kernel_rfl
theorem noE {x:ByteArray} (h:zD x=true):x.toList.isEmpty=true:=by
 rw[jM.1 (show eqS x ByteArray.empty=true from h),jjp];rfl
theorem noF {x:ByteArray} (h:zD x=false):x.toList.isEmpty=false:=by
 cases e:x.toList.isEmpty with
 | false=>rfl
 | true =>
  have:zD x=true:=by
   unfold zD eqS;rw[List.isEmpty_iff.1 e,jjp];rfl
  rw[this] at h;cases h
theorem jaR (n:Pd) (v1 v2 v3 v4:Value) (w:World):Calls Tryz.prog 31 #[jw n v1 v2 v3 v4] w fun e w'=>e=.returned (.bool (!jL n))∧Kept w w':=by
 have c9:=(jb w (.string n.name) [.string n.owner,.int .i64 n.prio,v1,v2,v3,v4,.string n.key,.int .i64 n.most,.string n.node,.bool n.hold] 52 _ (Kept.refl _)).at_ 9 _ rfl;have c10:=(jb w (.string n.name) [.string n.owner,.int .i64 n.prio,v1,v2,v3,v4,.string n.key,.int .i64 n.most,.string n.node,.bool n.hold] 52 _ (Kept.refl _)).at_ 10 _ rfl;have HV:=lH (show ∀a b,zD n.node=a→n.hold=b→(!jL n)=(!a||b) from fun a b ha hb=>by unfold jL;rw[ha,hb];cases a<;>cases b<;>rfl);unfold jw
 cases ha:zD n.node with
 | true =>
  have ha':n.node.toList.isEmpty=true:=noE ha;rw[HV.out true _ ha rfl];clear ha;go_enter Tryz.func31,Tryz.ntmps31;go_wp2;go_ret;exact⟨by first | rfl | simp,ja _ _⟩
 | false =>
  have ha':n.node.toList.isEmpty=false:=noF ha;rw[HV.out false _ ha rfl];clear ha;go_enter Tryz.func31,Tryz.ntmps31;go_wp2;go_ret;exact⟨by first | rfl | simp,ja _ _⟩
theorem jbX (a:Option Addr) (len cap:Nat) (l:List Pd) (w:World) (hr:jC w a len l) :
 Calls Tryz.prog 69 #[.slice a len cap,.func (.func 31) #[] #[]] w (Say (.int .i64 (qZ (idxB (fun p=>!jL p) l))) w):=by
 have hl:=hr.1;have hm:=hr.2.1;unfold maxLen at hm;have HL:=lH hl;have HR:=lH hr;clear hr hl;go_enter Tryz.func69,Tryz.ntmps69;go_wp2;go_loopw [8] (fun i wr=>∃k:Nat,k≤len∧i=.int .i64 k∧(idxB (fun p=>!jL p) (l.drop k)).map (·+k)=idxB (fun p=>!jL p) l∧Kept w wr) (fun i _=>len-(intOf i).toNat)
 case atStart=>exact⟨0,Nat.zero_le _,rfl,by simp,Kept.refl _⟩
 case round =>
  obtain⟨k,hk,rfl,hrest,hK⟩:=hrel;have HS:=lH hrest;have HK:=lH hK;by_cases hlt:k<len
  · obtain⟨b,off,rfl⟩:=HR.out.form.resolve_left (by omega);obtain⟨n,a1,m1,c1,a2,m2,c2,a3,m3,c3,a4,m4,c4,hn,hd,hb,p0,p1,p2,p3,p4,p5,p6,p7,p8,p9,p10,hat⟩:=(HR.out.kept hK).at_ hlt;have HD:=lH hd;have Ti:=lH (jaR n (.slice a1 m1 c1) (.slice a2 m2 c2) (.slice a3 m3 c3) (.slice a4 m4 c4) wr);obtain⟨t,ht⟩:=eX ((!jL n))
    have HT:=lH ht;unfold jw at Ti;have HC:=lH Ti.out;rw[ht] at HC;clear Ti;clear hrest hK hat hd hn ht
    cases t with
    | true =>
     have HF:=lH (jcl (f:=fun p=>!jL p) HD.out HT.out HS.out);go_wp2_with fail
     refine HC.out.mono ?_;rintro e w1 ⟨rfl,k1⟩;have K1:=lH (HK.out.trans k1);clear k1;go_wp2;go_ret;exact⟨by rw[HF.out];rfl,K1.out⟩
    | false =>
     have HE:=lH (jbh (f:=fun p=>!jL p) HD.out HT.out HS.out);go_wp2_with fail
     refine HC.out.mono ?_;rintro e w1 ⟨rfl,k1⟩;have K1:=lH (HK.out.trans k1);clear k1;go_wp2;go_roundw
     case rel=>exact⟨k+1,by omega,by go_num,HE.out,K1.out⟩
     case measure=>simp[intOf];omega
  · have HF:=lH (show idxB (fun p=>!jL p) l=none by rw[←hrest,List.drop_of_length_le (by rw[HL.out];omega)];rfl);clear hrest hK;go_wp2;go_ret;exact⟨by rw[HF.out];rfl,HK.out⟩
theorem jcy (l:List PX) (k:Nat):jd PodLay0 (l.take k)=(jd PodLay0 l).take (k*11):=by
 induction l generalizing k with
 | nil=>simp[jd]
 | cons z t ih =>
  cases k with
  | zero=>simp[jd]
  | succ k =>
   have e:(PodLay0.cs z).length=11:=rfl;have ih2:=ih k;unfold jd at ih2 ⊢;rw[List.take_succ_cons,List.flatMap_cons,List.flatMap_cons,ih2,show (k+1)*11=(PodLay0.cs z).length+k*11 by rw[e];omega,List.take_length_add_append]
theorem jcT:∀{lx:List PX},idxB (fun p=>!jL p) (lx.map fun z=>z.1)=none→lx.filter (fun z=>jL z.1)=lx
 | [],_=>rfl
 | z::t,h=>by
  rw[List.map_cons,idxB] at h;split at h
  · cases h
  · rename_i g;have g2:jL z.1=true:=by simpa using g
    rw[List.filter_cons_of_pos (by exact g2),jcT (Option.map_eq_none_iff.1 h)]
theorem jdb:∀{lx:List PX} {k:Nat},idxB (fun p=>!jL p) (lx.map fun z=>z.1)=some k→(lx.take (k+1)).filter (fun z=>jL z.1)=lx.take k
 | [],k,h=>by cases h
 | z::t,k,h=>by
  rw[List.map_cons,idxB] at h;split at h
  · rename_i g;obtain rfl:=Option.some.inj h;have g2:jL z.1=false:=by simpa using g
    rw[List.take_succ_cons,List.take_zero,List.take_zero,List.filter_cons_of_neg (by rw[g2];decide)];rfl
  · rename_i g;have g2:jL z.1=true:=by simpa using g
    cases e:idxB (fun p=>!jL p) (t.map fun z=>z.1) with
    | none=>rw[e] at h;cases h
    | some q =>
     rw[e] at h;obtain rfl:=Option.some.inj h;rw[List.take_succ_cons,List.take_succ_cons,List.filter_cons_of_pos (by exact g2),jdb e]
structure jaw (B g len cap i j:Nat) (lx:List PX) (w wr:World) (ly:List PX):Prop where
 own:Own PodLay0 52 wr B (.slice (some ⟨g,0,none⟩) len cap) ly
 len:ly.length=len
 fst:ly.take i=(lx.take j).filter fun z=>jL z.1
 snd:ly.drop j=lx.drop j
 off:jg (fun b=>b=g) w wr
theorem jaw.skip {B g len cap i j:Nat} {lx ly:List PX} {w wr w1:World} {z:PX} (h:jaw B g len cap i j lx w wr ly) (hz:lx[j]?=some z) (hr:jL z.1=false) (k:Kept wr w1):jaw B g len cap i (j+1) lx w w1 ly:=by
 refine⟨h.own.kept k,h.len,?_,?_,h.off.trans (jg.of k)⟩
 · rw[h.fst,List.take_add_one,hz,List.filter_append];simp[hr]
 · rw[←List.drop_drop,←List.drop_drop,h.snd]
theorem jaw.keep {B g len cap i j:Nat} {lx ly:List PX} {w wr w1:World} {z:PX} (h:jaw B g len cap i j lx w wr ly) (hij:i<j) (hj:j<len) (hz:lx[j]?=some z) (hr:jL z.1=true) (k:Kept wr w1):jaw B g len cap (i+1) (j+1) lx w (w1.setCells g (i*11) (PodLay0.cs z)) (ly.set i z):=by
 have hi:i<ly.length:=by rw[h.len];omega
 refine⟨(h.own.kept k).Zd hi z trivial,by rw[List.length_set];exact h.len,?_,?_,(h.off.trans (jg.of k)).trans (jg.cells (S:=fun b=>b=g) g rfl _ _ _)⟩
 · rw[List.take_add_one,List.getElem?_set_self hi,List.take_set_of_le (Nat.le_refl _),h.fst,List.take_add_one,hz,List.filter_append];simp[hr]
 · rw[List.drop_set_of_lt (by omega),←List.drop_drop,←List.drop_drop,h.snd]
theorem jjI (g len cap B:Nat) (lx:List PX) (w:World) (ho:Own PodLay0 52 w B (.slice (some ⟨g,0,none⟩) len cap) lx) (hat:∀z ∈ lx,At4 w z) (hlen:len≤100000) :
 Calls Tryz.prog 29 #[.slice (some ⟨g,0,none⟩) len cap,.func (.func 31) #[] #[]] w fun e w'=>∃n,e=.returned (.slice (some ⟨g,0,none⟩) n cap)∧Own PodLay0 52 w' B (.slice (some ⟨g,0,none⟩) n cap) (lx.filter fun z=>jL z.1)∧jg (fun b=>b=g) w w':=by
 have hn:len=lx.length:=by obtain⟨a,c,e,_⟩:=ho.at_;cases e;rfl
 have hr:jC w (some ⟨g,0,none⟩) len (lx.map fun z=>z.1):=jjJ (qg ho hat);obtain⟨cur,hB,hg,hlc,hm,hsz,ht,hl⟩:=Jb (show w.ownsRow B 52 11 (.slice (some ⟨g,0,none⟩) len cap) len (jd PodLay0 lx) by have:=ho.1;rw[←hn] at this;exact this);obtain⟨HI,HO,HN⟩:=lH3 (jbX (some ⟨g,0,none⟩) len cap (lx.map fun z=>z.1) w hr) ho hn;have hm':cap≤9223372036854775807:=by unfold maxLen at hm;omega
 clear ho hr hat hn hB hg hsz ht hl hm
 cases hi:idxB (fun p=>!jL p) (lx.map fun z=>z.1) with
 | none =>
  rw[hi] at HI;have HF:=lH (jcT hi);clear hi;unfold qZ at HI;go_enter Tryz.func29,Tryz.ntmps29;go_wp2_with fail
  refine HI.out.mono ?_;rintro e w1 ⟨rfl,k⟩;have K:=lH k;clear k;go_wp2;go_ret;exact⟨len,rfl,by rw[HF.out];exact HO.out.kept K.out,jg.of K.out⟩
 | some k0 =>
  rw[hi] at HI;have hk0:k0<len:=by have:=X4 hi;rw[List.length_map] at this;have:=HN.out;omega
  have HF:=lH (jdb hi);clear hi;unfold qZ at HI;have hne:((k0:Int)==-1)=false:=beq_eq_false_iff_ne.2 (by omega);go_enter Tryz.func29,Tryz.ntmps29;go_wp2_with fail
  refine HI.out.mono ?_;rintro e w1 ⟨rfl,k⟩;have K:=lH k;clear k;go_wp2_with fail
  go_loopw [5,6] (fun vi vj wr=>∃(i j:Nat) (ly:List PX),vi=.int .i64 i∧vj=.int .i64 j∧i<j∧j≤len∧jaw B g len cap i j lx w wr ly) (fun _ vj _=>len-(intOf vj).toNat)
  case atStart=>exact⟨k0,k0+1,lx,rfl,by first | rfl | go_num,by omega,by omega,HO.out.kept K.out,HN.out.symm,HF.out.symm,rfl,jg.of K.out⟩
  case round =>
   obtain⟨i,j,ly,rfl,rfl,hij,hj,hinv⟩:=hrel;have HV:=lH hinv;have hly:=hinv.len;by_cases hlt:j<len
   · obtain⟨z,hz⟩:∃z,ly[j]?=some z:=⟨_,List.getElem?_eq_getElem (by omega)⟩
     have hzx:lx[j]?=some z:=by
      have h0:(ly.drop j)[0]?=(lx.drop j)[0]?:=by rw[hinv.snd]
      rw[List.getElem?_drop,List.getElem?_drop,Nat.add_zero] at h0;rw[←h0];exact hz
     obtain⟨y,hy⟩:∃z,ly[i]?=some z:=⟨_,List.getElem?_eq_getElem (by omega)⟩
     have HY:=lH hy;obtain⟨n,⟨b1,n1,d1⟩,⟨b2,n2,d2⟩,⟨b3,n3,d3⟩,⟨b4,n4,d4⟩⟩:=z;have p0:wr.cell? ⟨g,j*11,none⟩=some (.string n.name):=hinv.own.cell_at hz (j:=0) rfl;have p1:wr.cell? ⟨g,j*11+1,none⟩=some (.string n.owner):=hinv.own.cell_at hz (j:=1) rfl;have p2:wr.cell? ⟨g,j*11+2,none⟩=some (.int .i64 n.prio):=hinv.own.cell_at hz (j:=2) rfl;have p3:wr.cell? ⟨g,j*11+3,none⟩=some (.slice b1 n1 d1):=hinv.own.cell_at hz (j:=3) rfl;have p4:wr.cell? ⟨g,j*11+4,none⟩=some (.slice b2 n2 d2):=hinv.own.cell_at hz (j:=4) rfl;have p5:wr.cell? ⟨g,j*11+5,none⟩=some (.slice b3 n3 d3):=hinv.own.cell_at hz (j:=5) rfl;have p6:wr.cell? ⟨g,j*11+6,none⟩=some (.slice b4 n4 d4):=hinv.own.cell_at hz (j:=6) rfl;have p7:wr.cell? ⟨g,j*11+7,none⟩=some (.string n.key):=hinv.own.cell_at hz (j:=7) rfl;have p8:wr.cell? ⟨g,j*11+8,none⟩=some (.int .i64 n.most):=hinv.own.cell_at hz (j:=8) rfl;have p9:wr.cell? ⟨g,j*11+9,none⟩=some (.string n.node):=hinv.own.cell_at hz (j:=9) rfl;have p10:wr.cell? ⟨g,j*11+10,none⟩=some (.bool n.hold):=hinv.own.cell_at hz (j:=10) rfl;have RY:=lH hzx;have hjj:(j:Int)<(len:Int):=by omega
     have HS:=lH (jaR n (.slice b1 n1 d1) (.slice b2 n2 d2) (.slice b3 n3 d3) (.slice b4 n4 d4) (wr.alloc (.cells #[.string n.name,.string n.owner,.int .i64 n.prio,.slice b1 n1 d1,.slice b2 n2 d2,.slice b3 n3 d3,.slice b4 n4 d4,.string n.key,.int .i64 n.most,.string n.node,.bool n.hold] 52)));unfold jw at HS;obtain⟨c,hc⟩:=eX (jL n)
     have HC:=lH hc;rw[hc] at HS;clear hz hzx hy hinv hc hly
     cases c with
     | false =>
      go_wp2_with fail
      refine HS.out.mono ?_;rintro e w2 ⟨rfl,kk⟩;have HD:=lH (HV.out.skip RY.out HC.out ((ja _ _).trans kk));clear kk p0 p1 p2 p3 p4 p5 p6 p7 p8 p9 p10;go_wp2;go_roundw
      case rel=>exact⟨i,j+1,ly,rfl,by first | rfl | go_num,by omega,by omega,HD.out⟩
      case measure=>simp[intOf];omega
     | true =>
      go_wp2_with fail
      refine HS.out.mono ?_;rintro e w2 ⟨rfl,kk⟩;have KW:=lH ((ja wr (.cells #[.string n.name,.string n.owner,.int .i64 n.prio,.slice b1 n1 d1,.slice b2 n2 d2,.slice b3 n3 d3,.slice b4 n4 d4,.string n.key,.int .i64 n.most,.string n.node,.bool n.hold] 52)).trans kk);obtain⟨y0,y1,y2,y3,y4,y5,y6,y7,y8,y9,y10⟩:=(jb wr (.string n.name) [.string n.owner,.int .i64 n.prio,.slice b1 n1 d1,.slice b2 n2 d2,.slice b3 n3 d3,.slice b4 n4 d4,.string n.key,.int .i64 n.most,.string n.node,.bool n.hold] 52 w2 kk).at11;have HD:=lH (HV.out.keep hij hlt RY.out HC.out KW.out);obtain⟨u0,q0⟩:∃u,w2.cell? ⟨g,i*11,none⟩=some u:=⟨_,(HV.out.own.kept KW.out).cell_at HY.out (j:=0) rfl⟩
      obtain⟨u1,q1⟩:∃u,w2.cell? ⟨g,i*11+1,none⟩=some u:=⟨_,(HV.out.own.kept KW.out).cell_at HY.out (j:=1) rfl⟩
      obtain⟨u2,q2⟩:∃u,w2.cell? ⟨g,i*11+2,none⟩=some u:=⟨_,(HV.out.own.kept KW.out).cell_at HY.out (j:=2) rfl⟩
      obtain⟨u3,q3⟩:∃u,w2.cell? ⟨g,i*11+3,none⟩=some u:=⟨_,(HV.out.own.kept KW.out).cell_at HY.out (j:=3) rfl⟩
      obtain⟨u4,q4⟩:∃u,w2.cell? ⟨g,i*11+4,none⟩=some u:=⟨_,(HV.out.own.kept KW.out).cell_at HY.out (j:=4) rfl⟩
      obtain⟨u5,q5⟩:∃u,w2.cell? ⟨g,i*11+5,none⟩=some u:=⟨_,(HV.out.own.kept KW.out).cell_at HY.out (j:=5) rfl⟩
      obtain⟨u6,q6⟩:∃u,w2.cell? ⟨g,i*11+6,none⟩=some u:=⟨_,(HV.out.own.kept KW.out).cell_at HY.out (j:=6) rfl⟩
      obtain⟨u7,q7⟩:∃u,w2.cell? ⟨g,i*11+7,none⟩=some u:=⟨_,(HV.out.own.kept KW.out).cell_at HY.out (j:=7) rfl⟩
      obtain⟨u8,q8⟩:∃u,w2.cell? ⟨g,i*11+8,none⟩=some u:=⟨_,(HV.out.own.kept KW.out).cell_at HY.out (j:=8) rfl⟩
      obtain⟨u9,q9⟩:∃u,w2.cell? ⟨g,i*11+9,none⟩=some u:=⟨_,(HV.out.own.kept KW.out).cell_at HY.out (j:=9) rfl⟩
      obtain⟨u10,q10⟩:∃u,w2.cell? ⟨g,i*11+10,none⟩=some u:=⟨_,(HV.out.own.kept KW.out).cell_at HY.out (j:=10) rfl⟩
      have x0f:w2.frozen? ⟨g,i*11,none⟩=false:=(HV.out.own.kept KW.out).frozen_at _;have x1f:w2.frozen? ⟨g,i*11+1,none⟩=false:=(HV.out.own.kept KW.out).frozen_at _;have x2f:w2.frozen? ⟨g,i*11+2,none⟩=false:=(HV.out.own.kept KW.out).frozen_at _;have x3f:w2.frozen? ⟨g,i*11+3,none⟩=false:=(HV.out.own.kept KW.out).frozen_at _;have x4f:w2.frozen? ⟨g,i*11+4,none⟩=false:=(HV.out.own.kept KW.out).frozen_at _;have x5f:w2.frozen? ⟨g,i*11+5,none⟩=false:=(HV.out.own.kept KW.out).frozen_at _;have x6f:w2.frozen? ⟨g,i*11+6,none⟩=false:=(HV.out.own.kept KW.out).frozen_at _;have x7f:w2.frozen? ⟨g,i*11+7,none⟩=false:=(HV.out.own.kept KW.out).frozen_at _;have x8f:w2.frozen? ⟨g,i*11+8,none⟩=false:=(HV.out.own.kept KW.out).frozen_at _;have x9f:w2.frozen? ⟨g,i*11+9,none⟩=false:=(HV.out.own.kept KW.out).frozen_at _;have x10f:w2.frozen? ⟨g,i*11+10,none⟩=false:=(HV.out.own.kept KW.out).frozen_at _;have hii:(i:Int)<(len:Int):=by omega
      clear kk p0 p1 p2 p3 p4 p5 p6 p7 p8 p9 p10;go_wp2;obtain⟨WE,hWE⟩:=eX (w2.setCells g (i*11) [.string n.name,.string n.owner,.int .i64 n.prio,.slice b1 n1 d1,.slice b2 n2 d2,.slice b3 n3 d3,.slice b4 n4 d4,.string n.key,.int .i64 n.most,.string n.node,.bool n.hold])
      have hWE2:(((((((((((w2.setCell ⟨g,i*11,none⟩ (.string n.name)).setCell ⟨g,i*11+1,none⟩ (.string n.owner)).setCell ⟨g,i*11+2,none⟩ (.int .i64 n.prio)).setCell ⟨g,i*11+3,none⟩ (.slice b1 n1 d1)).setCell ⟨g,i*11+4,none⟩ (.slice b2 n2 d2)).setCell ⟨g,i*11+5,none⟩ (.slice b3 n3 d3)).setCell ⟨g,i*11+6,none⟩ (.slice b4 n4 d4)).setCell ⟨g,i*11+7,none⟩ (.string n.key)).setCell ⟨g,i*11+8,none⟩ (.int .i64 n.most)).setCell ⟨g,i*11+9,none⟩ (.string n.node)).setCell ⟨g,i*11+10,none⟩ (.bool n.hold))=WE:=hWE;have HD:=lH (show jaw B g len cap (i+1) (j+1) lx w WE (ly.set i (n,(b1,n1,d1),(b2,n2,d2),(b3,n3,d3),(b4,n4,d4))) by rw[←hWE];exact HD.out);try rw[hWE2]
      clear y0 y1 y2 y3 y4 y5 y6 y7 y8 y9 y10 hWE hWE2 q0 q1 q2 q3 q4 q5 q6 q7 q8 q9 q10 x0f x1f x2f x3f x4f x5f x6f x7f x8f x9f x10f;go_roundw
      case rel=>exact⟨i+1,j+1,_,by first | rfl | go_num,by first | rfl | go_num,by omega,by omega,HD.out⟩
      case measure=>simp[intOf];omega
   · obtain rfl:j=len:=by omega
     obtain⟨i0,hi0,hz0,hz1,hz2⟩:=info_parts XY;have hxs:ly.filter (fun _=>true)=ly:=by simp
     have hrl:(jd PodLay0 ly).length=j*11:=by rw[jS,hinv.len];rfl
     have hown:wr.ownsRow B 52 11 (.slice (some ⟨g,0,none⟩) j cap) j (jd PodLay0 ly):=by have:=hinv.own.1;rw[hly] at this;exact this
     have hcell:∀t,t<j*11→(wr.cell? ⟨g,t,none⟩).isSome=true:=fun t h=>by
      rw[hown.cellAt t h,List.getElem?_eq_getElem (by rw[hrl];exact h)];rfl
     have hcl:∀ty,(Builtin.clear_ #[23] ty #[.slice (some ⟨g,i*11,none⟩) (j-i) (cap-i)]).run Tryz.prog wr=.ok (.tuple #[]) (wr.setCells g (i*11) (Builtin.zeroCells zy (j-i)).toList) :=
      fun ty=>X3 wr _ 52 ty i0 (.agg zy) Tryz.underlying23 hi0 hz0 g _ _ _ (by omega) (jcX _) (fun t h=>hcell _ (by rw[jaf,JM] at h;omega)) (fun t h=>hinv.own.frozen_at _)
     have X:=lH (show Own PodLay0 52 (wr.setCells g (i*11) (Builtin.zeroCells zy (j-i)).toList) B (.slice (some ⟨g,0,none⟩) i cap) (lx.filter fun z=>jL z.1) by
      have hfl:ly.take i=lx.filter fun z=>jL z.1:=by rw[hinv.fst,List.take_of_length_le (by rw[HN.out];exact Nat.le_refl _)]
      have hli:(ly.take i).length=i:=by rw[List.length_take];omega
      have h:=je8 (i:=i) (j:=j) (zs:=(Builtin.zeroCells zy (j-i)).toList) hown (Nat.le_of_lt hij) (Nat.le_refl _) (by rw[Array.length_toList,JM]);rw[List.drop_of_length_le (by rw[hrl];exact Nat.le_refl _),Nat.sub_self,Nat.add_zero,List.append_nil] at h;refine⟨?_,fun _ _=>trivial⟩;rw[←hfl,hli];have e2:jd PodLay0 (ly.take i)=(jd PodLay0 ly).take (i*11):=jcy ly i;rw[e2];exact h)
     have GX:=lH (show jg (fun b=>b=g) w (wr.setCells g (i*11) (Builtin.zeroCells zy (j-i)).toList) from hinv.off.trans (jg.cells (S:=fun b=>b=g) g rfl _ _ _));have hjj:¬(j:Int)<(j:Int):=by omega
     have hci:¬cap=i:=by omega
     have hic:i≤cap:=by omega
     have hil:i≤j:=by omega
     clear hinv hcell hown hrl hxs hly;go_wp2;go_ret;exact⟨i,rfl,X.out,GX.out⟩
theorem jis (w:World):Calls Tryz.prog 29 #[.slice none 0 0,.func (.func 31) #[] #[]] w fun e w'=>e=.returned (.slice none 0 0)∧Kept w w':=by
 have HI:=lH (jbX none 0 0 [] w ⟨rfl,by decide,.inl rfl⟩);have HI:=lH (show Calls Tryz.prog 69 #[.slice none 0 0,.func (.func 31) #[] #[]] w (Say (.int .i64 (-1)) w) from HI.out);go_enter Tryz.func29,Tryz.ntmps29;go_wp2_with fail
 refine HI.out.mono ?_;rintro e w1 ⟨rfl,k⟩;have K:=lH k;clear k;go_wp2;go_ret;exact⟨rfl,K.out⟩
open Go.Sort
variable {α:Type} [Inhabited α] {lt:α→α→Bool}
structure Rot (lo i j:Nat) (d d':Array α):Prop where
 size:d'.size=d.size
 fst:∀k,lo≤k→k<lo+j→d'[k]! = d[k+i]!
 snd:∀k,lo+j≤k→k<lo+i+j→d'[k]! = d[k-j]!
 out:∀k,k<lo∨lo+i+j≤k→d'[k]! = d[k]!
structure ZI (a b n:Nat) (d d':Array α):Prop where
 size:d'.size=d.size
 fst:∀k,a≤k→k<a+n→d'[k]! = d[k+(b-a)]!
 snd:∀k,b≤k→k<b+n→d'[k]! = d[k-(b-a)]!
 out:∀k,k<a∨(a+n≤k∧k<b)∨b+n≤k→d'[k]! = d[k]!
theorem ZI.zero (a b:Nat) (d:Array α):ZI a b 0 d d:=⟨rfl,fun k _ _=>by omega,fun k _ _=>by omega,fun k _=>rfl⟩
theorem ZI.step {a b n:Nat} {d dk:Array α} (h:ZI a b n d dk) (hab:a+(n+1)≤b) (hb:b+n<d.size):ZI a b (n+1) d (swp dk (a+n) (b+n)):=by
 have hs:=h.size;refine⟨by rw[size_swp];exact hs,fun k h1 h2=>?_,fun k h1 h2=>?_,fun k h1=>?_⟩
 · by_cases e:k=a+n
   · rw[e,swp_left _ _ _ (by omega) (by omega),h.out (b+n) (by omega)];congr 1;omega
   · rw[swp_other _ _ _ _ e (by omega)];exact h.fst k h1 (by omega)
 · by_cases e:k=b+n
   · rw[e,swp_right _ _ _ (by omega),h.out (a+n) (by omega)];congr 1;omega
   · rw[swp_other _ _ _ _ (by omega) e];exact h.snd k h1 (by omega)
 · rw[swp_other _ _ _ _ (by omega) (by omega)];exact h.out k (by omega)
theorem Rot.of_exch {lo i:Nat} {d d':Array α} (h:ZI lo (lo+i) i d d'):Rot lo i i d d' :=
 ⟨h.size,fun k h1 h2=>by rw[h.fst k h1 h2];congr 1;omega,fun k h1 h2=>by rw[h.snd k h1 (by omega)];congr 1;omega,fun k h1=>h.out k (by omega)⟩
theorem Rot.big {lo i j:Nat} {d d1 d':Array α} (hij:j<i) (h:ZI lo (lo+i) j d d1) (g:Rot (lo+j) (i-j) j d1 d'):Rot lo i j d d':=by
 refine⟨g.size.trans h.size,fun k h1 h2=>?_,fun k h1 h2=>?_,fun k h1=>?_⟩
 · rw[g.out k (by omega),h.fst k h1 h2];congr 1;omega
 · by_cases e:k<lo+j+j
   · rw[g.fst k (by omega) e,h.snd _ (by omega) (by omega)];congr 1;omega
   · rw[g.snd k (by omega) (by omega),h.out _ (by omega)]
 · rw[g.out k (by omega),h.out k (by omega)]
theorem Rot.small {lo i j:Nat} {d d1 d':Array α} (hij:i<j) (h:ZI lo (lo+j) i d d1) (g:Rot lo i (j-i) d1 d'):Rot lo i j d d':=by
 refine⟨g.size.trans h.size,fun k h1 h2=>?_,fun k h1 h2=>?_,fun k h1=>?_⟩
 · by_cases e:k<lo+(j-i)
   · rw[g.fst k h1 e,h.out _ (by omega)]
   · rw[g.snd k (by omega) (by omega),h.fst _ (by omega) (by omega)];congr 1;omega
 · rw[g.out k (by omega),h.snd k (by omega) (by omega)];congr 1;omega
 · rw[g.out k (by omega),h.out k (by omega)]
theorem Rot.triv {lo i j:Nat} {d:Array α} (h:i=0∨j=0):Rot lo i j d d :=
 ⟨rfl,fun k h1 h2=>by congr 1;omega,fun k h1 h2=>by congr 1;omega,fun _ _=>rfl⟩
theorem Rot.up {a n:Nat} {d dk:Array α} (h:Rot a 1 n d dk) (hs:a+n+1<d.size):Rot a 1 (n+1) d (swp dk (a+n) (a+n+1)):=by
 have hz:=h.size;refine⟨by rw[size_swp];exact hz,fun k h1 h2=>?_,fun k h1 h2=>?_,fun k h1=>?_⟩
 · by_cases e:k=a+n
   · rw[e,swp_left _ _ _ (by omega) (by omega),h.out _ (by omega)]
   · rw[swp_other _ _ _ _ e (by omega)];exact h.fst k h1 (by omega)
 · have e:k=a+n+1:=by omega
   rw[e,swp_right _ _ _ (by omega),h.snd _ (by omega) (by omega)];congr 1;omega
 · rw[swp_other _ _ _ _ (by omega) (by omega)];exact h.out k (by omega)
theorem Rot.down {k n:Nat} {d dk:Array α} (h:Rot (k+1) n 1 d dk) (hs:k+1+n<d.size):Rot k (n+1) 1 d (swp dk (k+1) k):=by
 have hz:=h.size;refine⟨by rw[size_swp];exact hz,fun x h1 h2=>?_,fun x h1 h2=>?_,fun x h1=>?_⟩
 · have e:x=k:=by omega
   rw[e,swp_right _ _ _ (by omega),h.fst _ (by omega) (by omega)];congr 1;omega
 · by_cases e:x=k+1
   · rw[e,swp_left _ _ _ (by omega) (by omega),h.out _ (by omega)];congr 1
   · rw[swp_other _ _ _ _ e (by omega)];exact h.snd x (by omega) (by omega)
 · rw[swp_other _ _ _ _ (by omega) (by omega)];exact h.out x (by omega)
theorem jae {β:Type} {lt:β→β→Bool} (hS:SWO lt) {x y:β} (h:lt x y=true):lt y x=false:=by
 cases g:lt y x
 · rfl
 · have:=hS.trans _ _ _ h g;rw[hS.irrefl] at this;cases this
theorem J5 (hS:SWO lt) {a b:Nat} {d:Array α} (h:SortedIn lt a b d) {i j:Nat} (h1:a≤i) (h2:i≤j) (h3:j<b):lt d[j]! d[i]! = false:=by
 rcases Nat.lt_or_eq_of_le h2 with g | g
 · exact h i j h1 g h3
 · rw[g];exact hS.irrefl _
theorem jkM (hS:SWO lt) {a b n:Nat} {d d':Array α} (hr:Rot a 1 n d d') (hn:a+1+n≤b) (hs:SortedIn lt (a+1) b d)
 (h1:n=0∨lt d[a+n]! d[a]! = true) (h2:a+1+n=b∨lt d[a+1+n]! d[a]! = false):SortedIn lt a b d':=by
 intro x y hx hxy hy;have lo:∀k,a+1≤k→k≤a+n→lt d[a]! d[k]! = false:=fun k g1 g2=>by
  rcases h1 with h1 | h1
  · omega
  · exact hS.ntrans _ _ _ (jae hS h1) (J5 hS hs g1 g2 (by omega))
 have hi:∀k,a+1+n≤k→k<b→lt d[k]! d[a]! = false:=fun k g1 g2=>by
  rcases h2 with h2 | h2
  · omega
  · exact hS.ntrans _ _ _ (J5 hS hs (by omega) g1 g2) h2
 rcases Nat.lt_trichotomy x (a+n) with c | c | c
 · rw[hr.fst x hx c];rcases Nat.lt_trichotomy y (a+n) with e | e | e
   · rw[hr.fst y (by omega) e];exact hs _ _ (by omega) (by omega) (by omega)
   · rw[e,hr.snd (a+n) (by omega) (by omega),show a+n-n=a from by omega];exact lo _ (by omega) (by omega)
   · rw[hr.out y (by omega)];exact hs _ _ (by omega) (by omega) hy
 · rw[c,hr.snd (a+n) (by omega) (by omega),show a+n-n=a from by omega,hr.out y (by omega)];exact hi y (by omega) hy
 · rw[hr.out x (by omega),hr.out y (by omega)];exact hs _ _ (by omega) hxy hy
theorem jiX (hS:SWO lt) {a i n:Nat} {d d':Array α} (hr:Rot i n 1 d d') (ha:a≤i) (hs:SortedIn lt a (i+n) d)
 (h1:i=a∨lt d[i+n]! d[i-1]! = false) (h2:n=0∨lt d[i+n]! d[i]! = true):SortedIn lt a (i+n+1) d':=by
 intro x y hx hxy hy;have lo:∀k,a≤k→k<i→lt d[i+n]! d[k]! = false:=fun k g1 g2=>by
  rcases h1 with h1 | h1
  · omega
  · exact hS.ntrans _ _ _ h1 (J5 hS hs g1 (by omega) (by omega))
 have hi:∀k,i≤k→k<i+n→lt d[k]! d[i+n]! = false:=fun k g1 g2=>by
  rcases h2 with h2 | h2
  · omega
  · exact hS.ntrans _ _ _ (J5 hS hs (by omega) g1 g2) (jae hS h2)
 have ei:d'[i]! = d[i+n]!:=hr.fst i (by omega) (by omega);rcases Nat.lt_trichotomy x i with c | c | c
 · rw[hr.out x (by omega)];rcases Nat.lt_trichotomy y i with e | e | e
   · rw[hr.out y (by omega)];exact hs _ _ hx hxy (by omega)
   · rw[e,ei];exact lo x hx c
   · rw[hr.snd y (by omega) (by omega)];exact hs _ _ hx (by omega) (by omega)
 · rw[c,ei,hr.snd y (by omega) (by omega)];exact hi _ (by omega) (by omega)
 · rw[hr.snd x (by omega) (by omega),hr.snd y (by omega) (by omega)];exact hs _ _ (by omega) (by omega) (by omega)
structure Found (lt:α→α→Bool) (a m b mid s:Nat) (d:Array α):Prop where
 am:a<m
 mb:m<b
 mida:a<mid
 midb:mid<b
 sa:a≤s
 sm:s≤m
 sd:s≤mid
 em:m≤mid+m-s
 eb:mid+m-s≤b
 low:s=a∨mid+m-s=b∨lt d[mid+m-s]! d[s-1]! = false
 high:s=m∨s=mid∨lt d[mid+m-1-s]! d[s]! = true
variable {a m b mid s:Nat} {d d1:Array α}
theorem Found.parts (h:Found lt a m b mid s d) (hr:Rot s (m-s) (mid-s) d d1) (h1:SortedIn lt a m d) (h2:SortedIn lt m b d) :
 SortedIn lt a s d1∧SortedIn lt s mid d1∧SortedIn lt mid (mid+m-s) d1∧SortedIn lt (mid+m-s) b d1:=by
 obtain⟨q1,q2,q3,q4,q5,q6,q7,q8,q9,_,_⟩:=h;refine⟨fun x y hx hxy hy=>?_,fun x y hx hxy hy=>?_,fun x y hx hxy hy=>?_,fun x y hx hxy hy=>?_⟩
 · rw[hr.out x (by omega),hr.out y (by omega)];exact h1 _ _ hx hxy (by omega)
 · rw[hr.fst x hx (by omega),hr.fst y (by omega) (by omega)];exact h2 _ _ (by omega) (by omega) (by omega)
 · rw[hr.snd x (by omega) (by omega),hr.snd y (by omega) (by omega)];exact h1 _ _ (by omega) (by omega) (by omega)
 · rw[hr.out x (by omega),hr.out y (by omega)];exact h2 _ _ (by omega) hxy hy
theorem Found.cross (hS:SWO lt) (h:Found lt a m b mid s d) (hr:Rot s (m-s) (mid-s) d d1) (h1:SortedIn lt a m d) (h2:SortedIn lt m b d) :
 ∀x y,a≤x→x<mid→mid≤y→y<b→lt d1[y]! d1[x]! = false:=by
 obtain⟨q1,q2,q3,q4,q5,q6,q7,q8,q9,low,high⟩:=h;intro x y hx hx2 hy hy2;by_cases cx:x<s
 · rw[hr.out x (by omega)];by_cases cy:y<mid+m-s
   · rw[hr.snd y (by omega) (by omega)];exact h1 _ _ hx (by omega) (by omega)
   · rw[hr.out y (by omega)];rcases low with l | l | l
     · omega
     · omega
     · exact hS.ntrans _ _ _ (hS.ntrans _ _ _ (J5 hS h2 (by omega) (by omega) hy2) l) (J5 hS h1 hx (by omega) (by omega))
 · rw[hr.fst x (by omega) (by omega)];by_cases cy:y<mid+m-s
   · rw[hr.snd y (by omega) (by omega)];rcases high with l | l | l
     · omega
     · omega
     · exact hS.ntrans _ _ _ (hS.ntrans _ _ _ (J5 hS h1 (show a≤s by omega) (show s≤y-(mid-s) by omega) (by omega)) (jae hS l)) (J5 hS h2 (by omega) (by omega) (by omega))
   · rw[hr.out y (by omega)];exact h2 _ _ (by omega) (by omega) hy2
theorem XU {d2 d3:Array α} (hb:b≤d1.size) (hmb:mid≤b) (p1:PermIn a mid d1 d2) (s1:SortedIn lt a mid d2) (p2:PermIn mid b d2 d3) (s2:SortedIn lt mid b d3)
 (cross:∀x y,a≤x→x<mid→mid≤y→y<b→lt d1[y]! d1[x]! = false):SortedIn lt a b d3:=by
 have c1:∀y,mid≤y→y<b→∀x,a≤x→x<mid→lt d1[y]! d2[x]! = false:=fun y g1 g2 =>
  permIn_all d1 d2 a mid (fun v=>lt d1[y]! v=false) (by omega) p1 (fun x g3 g4=>cross x y g3 g4 g1 g2)
 have c2:∀x,a≤x→x<mid→∀y,mid≤y→y<b→lt d3[y]! d2[x]! = false:=fun x g1 g2 =>
  permIn_all d2 d3 mid b (fun v=>lt v d2[x]! = false) (by rw[p1.1];exact hb) p2 (fun y g3 g4=>by rw[p1.2.1 y (by omega)];exact c1 y g3 g4 x g1 g2)
 intro x y hx hxy hy;by_cases cx:x<mid
 · rw[p2.2.1 x (by omega)];by_cases cy:y<mid
   · rw[p2.2.1 y (by omega)];exact s1 x y hx hxy cy
   · exact c2 x hx cx y (by omega) hy
 · exact s2 x y (by omega) hxy hy
end Go.Proofs.YtibepooajeakfaaGreat
namespace Go.Proofs.YtibepooajeakfaaGreat
open Go.RowKit Go.Shelf Go.Lib Go.Sort
structure ZL (P:Program) (kE:Nat):Prop where
 mixed:P.follows .mixedOrders=true
 fSwap:P.funcs[196]?=some Tryz.f196
 fRot:P.funcs[168]?=some Tryz.f168
 fMrg:P.funcs[119]?=some Tryz.f119
 fIns:P.funcs[118]?=some Tryz.f118
 fStb:P.funcs[70]?=some Tryz.f70
 t0:P.underlying 0=Tryz.prog.underlying 0
 a0:∀w,(isAgg 0).run P w=.ok false w
 z0:∀w,(Go.sizeOf 0).run P w=.ok 1 w
 t3:P.underlying 3=Tryz.prog.underlying 3
 a3:∀w,(isAgg 3).run P w=.ok false w
 z3:∀w,(Go.sizeOf 3).run P w=.ok 1 w
 t4:P.underlying 4=Tryz.prog.underlying 4
 a4:∀w,(isAgg 4).run P w=.ok false w
 z4:∀w,(Go.sizeOf 4).run P w=.ok 1 w
 t39:P.underlying 239=Tryz.prog.underlying 239
 a39:∀w,(isAgg 239).run P w=.ok false w
 z39:∀w,(Go.sizeOf 239).run P w=.ok 1 w
 t22:P.underlying 23=Tryz.prog.underlying 23
 a22:∀w,(isAgg 23).run P w=.ok false w
 z22:∀w,(Go.sizeOf 23).run P w=.ok 1 w
 t25:P.underlying 88=Tryz.prog.underlying 88
 a25:∀w,(isAgg 88).run P w=.ok false w
 z25:∀w,(Go.sizeOf 88).run P w=.ok 1 w
 v0:∀w,(zeroValue 0).run P w=.ok (Value.tuple #[]) w
 v3:∀w,(zeroValue 3).run P w=.ok (Value.int IntKind.i64 0) w
 v4:∀w,(zeroValue 4).run P w=.ok (Value.bool false) w
 aE:∀w,(isAgg 52).run P w=.ok true w
 zE:∀w,(Go.sizeOf 52).run P w=.ok kE w
theorem jii:ZL Tryz.prog 11 where
 mixed:=by kernel_rfl
 fSwap:=Tryz.func196
 fRot:=Tryz.func168
 fMrg:=Tryz.func119
 fIns:=Tryz.func118
 fStb:=Tryz.func70
 t0:=rfl
 a0:=Tryz.isAgg0
 z0:=Tryz.sizeOf0
 t3:=rfl
 a3:=Tryz.isAgg3
 z3:=Tryz.sizeOf3
 t4:=rfl
 a4:=Tryz.isAgg4
 z4:=Tryz.sizeOf4
 t39:=rfl
 a39:=Tryz.isAgg239
 z39:=Tryz.sizeOf239
 t22:=rfl
 a22:=Tryz.isAgg23
 z22:=Tryz.sizeOf23
 t25:=rfl
 a25:=Tryz.isAgg88
 z25:=Tryz.sizeOf88
 v0:=Tryz.zeroValue0
 v3:=Tryz.zeroValue3
 v4:=Tryz.zeroValue4
 aE:=Tryz.isAgg52
 zE:=Tryz.sizeOf52
theorem jcm {α:Type} [Inhabited α] {P:Program} {kE:Nat} (L:ZL P kE) (enc:α→List Value) (w0:World) (blk off cap a b n:Nat) (d0 d:Array α) (w:World) (R:RowK enc kE w0 blk off d0) (hs:d0.size=d.size) (S:SWK enc kE w0 blk off d w) (hab:a+n≤b) (hb:b+n≤d.size) (hsz:d.size<4611686018427387904) (cmp:Value) :
 Calls P 196 #[.slice (some ⟨blk,off,none⟩) d.size cap,.int .i64 a,.int .i64 b,.int .i64 n,cmp] w
  fun e w'=>e=.returned (.tuple #[])∧∃d',ZI a b n d d'∧PermIn a (b+n) d d'∧SWK enc kE w0 blk off d' w':=by
 have mixed:=L.mixed;have t0:=L.t0.trans Tryz.underlying0;have a0:=L.a0;have z0:=L.z0;have t3:=L.t3.trans Tryz.underlying3;have a3:=L.a3;have z3:=L.z3;have t4:=L.t4.trans Tryz.underlying4;have a4:=L.a4;have z4:=L.z4;have t39:=L.t39.trans Tryz.underlying239;have a39:=L.a39;have z39:=L.z39;have t22:=L.t22.trans Tryz.underlying23;have a22:=L.a22;have z22:=L.z22;have t25:=L.t25.trans Tryz.underlying88;have a25:=L.a25;have z25:=L.z25;have v0:=L.v0;have v3:=L.v3;have v4:=L.v4;have aE:=L.aE;have zE:=L.zE;have u22:=run_underlying t22;have eSwap:∀args w,(callFunc 196 args).run P w=.ok (.enter 196 args) w:=enters_of L.fSwap (by kernel_rfl) rfl;have eRot:∀args w,(callFunc 168 args).run P w=.ok (.enter 168 args) w:=enters_of L.fRot (by kernel_rfl) rfl;have eMrg:∀args w,(callFunc 119 args).run P w=.ok (.enter 119 args) w:=enters_of L.fMrg (by kernel_rfl) rfl;have eIns:∀args w,(callFunc 118 args).run P w=.ok (.enter 118 args) w:=enters_of L.fIns (by kernel_rfl) rfl;have eStb:∀args w,(callFunc 70 args).run P w=.ok (.enter 70 args) w:=enters_of L.fStb (by kernel_rfl) rfl;have HR:Aside _:=R;have S0:Aside (SWK enc kE w0 blk off d w):=S;clear S R;go_enter L.fSwap,Tryz.ntmps196;go_wp2;go_loopg [10] n (fun g1 vi wr=>∃(i:Nat) (dk:Array α),vi=.int .i64 i∧i≤n∧n-i≤g1∧dk.size=d.size∧Aside (SWK enc kE w0 blk off dk wr)∧Hid (ZI a b i d dk∧PermIn a (b+n) d dk))
 case atStart=>exact⟨0,d,by go_num,by omega,by omega,rfl,S0,ZI.zero _ _ _,permIn_refl _ _ _⟩
 case round =>
  clear S0;obtain⟨i,dk,rfl,hi,hg1,hsk,S1,HX⟩:=hrel;by_cases hlt:i<n
  · have hltz:(i:Int)<(n:Int):=by omega
    obtain⟨iN,hiN⟩:∃q,q=a+i:=⟨_,rfl⟩
    obtain⟨jN,hjN⟩:∃q,q=b+i:=⟨_,rfl⟩
    have ea:((a:Int)+(i:Int)).toNat=iN:=by omega
    have pa:(0:Int)≤(a:Int)+(i:Int):=by omega
    have ba:(a:Int)+(i:Int)<(d.size:Int):=by omega
    have ra:IntKind.i64.wrap ((a:Int)+(i:Int))=(a:Int)+(i:Int):=by rw[IntKind.wrap_i64];omega
    have ec:((b:Int)+(i:Int)).toNat=jN:=by omega
    have pc:(0:Int)≤(b:Int)+(i:Int):=by omega
    have bc:(b:Int)+(i:Int)<(d.size:Int):=by omega
    have rc:IntKind.i64.wrap ((b:Int)+(i:Int))=(b:Int)+(i:Int):=by rw[IntKind.wrap_i64];omega
    have S3:Aside (SWK enc kE w0 blk off (swp dk (iN) (jN)) ((wr.drew.setCells blk (off+(iN)*kE) (enc dk[jN]!)).setCells blk (off+(jN)*kE) (enc dk[iN]!))):=S1.out.swapped HR.out (iN) (jN) (by omega) (by omega);have lA:=S1.out.ld1 HR.out (by omega) P (iN) (by omega);have lB:=S1.out.ld1 HR.out (by omega) P (jN) (by omega);have sA:=S1.out.st1 HR.out (by omega) P (iN) (by omega) dk[jN]!;have sB:=S1.out.st2 HR.out (by omega) P (iN) (jN) (by omega) (by omega) dk[jN]! dk[iN]!;have nA:(enc dk[iN]!).length=kE:=HR.out.hk _;have nB:(enc dk[jN]!).length=kE:=HR.out.hk _;generalize enc dk[iN]! = cI at S3 lA sB nA
    generalize enc dk[jN]! = cJ at S3 lB sA sB nB
    have Ux:Hid (ZI a b (i+1) d (swp dk iN jN)∧PermIn a (b+n) d (swp dk iN jN)):=by
     rw[hiN,hjN];exact⟨HX.out.1.step (by omega) (by omega),permIn_trans _ _ _ _ _ HX.out.2 (swp_permIn dk a (b+n) (a+i) (b+i) (by omega) (by omega) (by omega) (by omega) (by omega))⟩
    clear S1 hiN hjN;go_wp2_with fail
    go_big_region_o
    clear lA lB sA sB;generalize (wr.drew.setCells blk (off+(iN)*kE) cJ).setCells blk (off+(jN)*kE) cI=w3 at S3 ⊢
    clear ea ec;go_wp2;go_roundg (n-(i+1))
    case measure=>omega
    case rel=>exact⟨i+1,swp dk iN jN,by go_num,by omega,Nat.le_refl _,by rw[size_swp];exact hsk,S3,Ux⟩
  · have hltz:¬(i:Int)<(n:Int):=by omega
    have hin:i=n:=by omega
    subst hin;go_wp2;go_end0
    exact⟨rfl,dk,HX.out.1,HX.out.2,S1.out⟩
def jk5 {α:Type} [Inhabited α] (kE:Nat) (enc:α→List Value) (w0:World) (blk off:Nat) (a b n:Nat) (d:Array α) (e:Ending) (w':World):Prop :=
 e=.returned (.tuple #[])∧∃d',ZI a b n d d'∧PermIn a (b+n) d d'∧SWK enc kE w0 blk off d' w'
theorem YU {α:Type} [Inhabited α] {P:Program} {kE:Nat} (L:ZL P kE) (enc:α→List Value) (w0:World) (blk off cap a b n:Nat) (za zb zn:Int) (d0 d:Array α) (w:World) (R:RowK enc kE w0 blk off d0) (hs:d0.size=d.size) (S:SWK enc kE w0 blk off d w) (hab:a+n≤b) (hb:b+n≤d.size) (hsz:d.size<4611686018427387904) (cmp:Value)
 (ea:za=a) (eb:zb=b) (en:zn=n) (N:Nat) (hN:N=d.size) :
 Calls P 196 #[.slice (some ⟨blk,off,none⟩) N cap,.int .i64 za,.int .i64 zb,.int .i64 zn,cmp] w (jk5 kE enc w0 blk off a b n d):=by
 subst ea eb en hN;exact jcm L enc w0 blk off cap a b n d0 d w R hs S hab hb hsz cmp
theorem jfL {α:Type} [Inhabited α] {P:Program} {kE:Nat} (L:ZL P kE) (enc:α→List Value) (w0:World) (blk off cap a m b:Nat) (d0 d:Array α) (w:World) (R:RowK enc kE w0 blk off d0) (hs:d0.size=d.size) (S:SWK enc kE w0 blk off d w) (ham:a<m) (hmb:m<b) (hb:b≤d.size) (hsz:d.size<4611686018427387904) (cmp:Value) :
 Calls P 168 #[.slice (some ⟨blk,off,none⟩) d.size cap,.int .i64 a,.int .i64 m,.int .i64 b,cmp] w
  fun e w'=>e=.returned (.tuple #[])∧∃d',Rot a (m-a) (b-m) d d'∧PermIn a b d d'∧SWK enc kE w0 blk off d' w':=by
 have mixed:=L.mixed;have t0:=L.t0.trans Tryz.underlying0;have a0:=L.a0;have z0:=L.z0;have t3:=L.t3.trans Tryz.underlying3;have a3:=L.a3;have z3:=L.z3;have t4:=L.t4.trans Tryz.underlying4;have a4:=L.a4;have z4:=L.z4;have t39:=L.t39.trans Tryz.underlying239;have a39:=L.a39;have z39:=L.z39;have t22:=L.t22.trans Tryz.underlying23;have a22:=L.a22;have z22:=L.z22;have t25:=L.t25.trans Tryz.underlying88;have a25:=L.a25;have z25:=L.z25;have v0:=L.v0;have v3:=L.v3;have v4:=L.v4;have aE:=L.aE;have zE:=L.zE;have u22:=run_underlying t22;have eSwap:∀args w,(callFunc 196 args).run P w=.ok (.enter 196 args) w:=enters_of L.fSwap (by kernel_rfl) rfl;have eRot:∀args w,(callFunc 168 args).run P w=.ok (.enter 168 args) w:=enters_of L.fRot (by kernel_rfl) rfl;have eMrg:∀args w,(callFunc 119 args).run P w=.ok (.enter 119 args) w:=enters_of L.fMrg (by kernel_rfl) rfl;have eIns:∀args w,(callFunc 118 args).run P w=.ok (.enter 118 args) w:=enters_of L.fIns (by kernel_rfl) rfl;have eStb:∀args w,(callFunc 70 args).run P w=.ok (.enter 70 args) w:=enters_of L.fStb (by kernel_rfl) rfl;have HR:Aside _:=R;have S0:Aside (SWK enc kE w0 blk off d w):=S;have r1:IntKind.i64.wrap ((m:Int)-(a:Int))=(m:Int)-(a:Int):=by rw[IntKind.wrap_i64];omega
 have r2:IntKind.i64.wrap ((b:Int)-(m:Int))=(b:Int)-(m:Int):=by rw[IntKind.wrap_i64];omega
 clear S R;go_enter L.fRot,Tryz.ntmps168;go_wp2;go_loopg [10,11] (b-a) (fun g1 vi vj wr=>∃(i j:Nat) (dk:Array α),vi=.int .i64 i∧vj=.int .i64 j∧0<i∧0<j∧i≤m-a∧j≤b-m∧i+j≤g1∧dk.size=d.size∧Aside (SWK enc kE w0 blk off dk wr)∧Hid ((∀d',Rot (m-i) i j dk d'→Rot a (m-a) (b-m) d d')∧PermIn a b d dk))
 case atStart=>exact⟨m-a,b-m,d,by congr 1;omega,by congr 1;omega,by omega,by omega,by omega,by omega,by omega,rfl,S0,fun d' h=>by rwa [show m-(m-a)=a from by omega] at h,permIn_refl _ _ _⟩
 case round =>
  clear S0;obtain⟨i,j,dk,rfl,rfl,hi,hj,hia,hjb,hg1,hsk,S1,HX⟩:=hrel;have r3:IntKind.i64.wrap ((m:Int)-(i:Int))=(m:Int)-(i:Int):=by rw[IntKind.wrap_i64];omega
  rcases Nat.lt_trichotomy j i with hlt | hlt | hlt
  · have q1:((i:Int) != (j:Int))=true:=by simp;omega
    have q2:(j:Int)<(i:Int):=by omega
    have r4:IntKind.i64.wrap ((i:Int)-(j:Int))=(i:Int)-(j:Int):=by rw[IntKind.wrap_i64];omega
    have hc:=lH (YU L enc w0 blk off cap (m-i) m j ((m:Int)-i) m j d0 dk wr HR.out (by omega) S1.out (by omega) (by omega) (by omega) cmp (by omega) rfl rfl d.size hsk.symm);clear S1;go_wp2_with (go_at_call 196;refine hc.out.mono ?_;rintro e w1 ⟨rfl,d1,hE,hP,hS⟩)
    have H1:Hid (ZI (m-i) m j dk d1):=hE;have H2:Hid (PermIn (m-i) (m+j) dk d1):=hP;have S2:Aside (SWK enc kE w0 blk off d1 w1):=hS;clear hE hP hS;go_roundg (i+j-j)
    case measure=>omega
    case rel =>
     have hz:=H1.out.size;refine⟨i-j,j,d1,by congr 1;omega,rfl,by omega,by omega,by omega,by omega,by omega,by omega,S2,fun d' h=>HX.out.1 d' (Rot.big hlt (by rw[show m-i+i=m from by omega];exact H1.out) (by rw[show m-i+j=m-(i-j) from by omega];exact h)),permIn_trans _ _ _ _ _ HX.out.2 (permIn_mono _ _ _ _ _ _ (by omega) (by omega) (by omega) H2.out)⟩
  · subst hlt;have q1:((j:Int) != (j:Int))=false:=by simp
    have hc:=lH (YU L enc w0 blk off cap (m-j) m j ((m:Int)-j) m j d0 dk wr HR.out (by omega) S1.out (by omega) (by omega) (by omega) cmp (by omega) rfl rfl d.size hsk.symm);clear S1;go_wp2_with (go_at_call 196;refine hc.out.mono ?_;rintro e w1 ⟨rfl,d1,hE,hP,hS⟩)
    have H1:Hid (ZI (m-j) m j dk d1):=hE;have H2:Hid (PermIn (m-j) (m+j) dk d1):=hP;have S2:Aside (SWK enc kE w0 blk off d1 w1):=hS;clear hE hP hS;go_end0
    exact⟨rfl,d1,HX.out.1 d1 (Rot.of_exch (by rw[show m-j+j=m from by omega];exact H1.out)),permIn_trans _ _ _ _ _ HX.out.2 (permIn_mono _ _ _ _ _ _ (by omega) (by omega) (by omega) H2.out),S2.out⟩
  · have q1:((i:Int) != (j:Int))=true:=by simp;omega
    have q2:¬(j:Int)<(i:Int):=by omega
    have r4:IntKind.i64.wrap ((j:Int)-(i:Int))=(j:Int)-(i:Int):=by rw[IntKind.wrap_i64];omega
    have r5:IntKind.i64.wrap ((m:Int)+(j:Int))=(m:Int)+(j:Int):=by rw[IntKind.wrap_i64];omega
    have r6:IntKind.i64.wrap ((m:Int)+(j:Int)-(i:Int))=(m:Int)+(j:Int)-(i:Int):=by rw[IntKind.wrap_i64];omega
    have hc:=lH (YU L enc w0 blk off cap (m-i) (m+j-i) i ((m:Int)-i) ((m:Int)+j-i) i d0 dk wr HR.out (by omega) S1.out (by omega) (by omega) (by omega) cmp (by omega) (by omega) rfl d.size hsk.symm);clear S1;go_wp2_with (go_at_call 196;refine hc.out.mono ?_;rintro e w1 ⟨rfl,d1,hE,hP,hS⟩)
    have H1:Hid (ZI (m-i) (m+j-i) i dk d1):=hE;have H2:Hid (PermIn (m-i) (m+j-i+i) dk d1):=hP;have S2:Aside (SWK enc kE w0 blk off d1 w1):=hS;clear hE hP hS;go_roundg (i+j-i)
    case measure=>omega
    case rel =>
     have hz:=H1.out.size;refine⟨i,j-i,d1,rfl,by congr 1;omega,by omega,by omega,by omega,by omega,by omega,by omega,S2,fun d' h=>HX.out.1 d' (Rot.small hlt (by rw[show m-i+j=m+j-i from by omega];exact H1.out) h),permIn_trans _ _ _ _ _ HX.out.2 (permIn_mono _ _ _ _ _ _ (by omega) (by omega) (by omega) H2.out)⟩
def qo {α:Type} [Inhabited α] (kE:Nat) (enc:α→List Value) (cf:α→α→Int) (w0:World) (blk off a b:Nat) (d:Array α) (e:Ending) (w':World):Prop :=
 e=.returned (.tuple #[])∧∃d',PermIn a b d d'∧SortedIn (ltOf cf) a b d'∧SWK enc kE w0 blk off d' w'
theorem jcF {α:Type} [Inhabited α] {P:Program} {kE:Nat} (L:ZL P kE) (enc:α→List Value) (cf:α→α→Int) (hO:SWO (ltOf cf)) (g:Nat) (cb:Array Value) (w0:World) (blk off cap a b:Nat) (d0 d:Array α) (w:World)
 (eg:∀args w,(callFunc g args).run P w=.ok (.enter g args) w) (hcmp:CmpLays P g cb enc kE cf blk off d0.size w0) (R:RowK enc kE w0 blk off d0) (hs:d0.size=d.size) (S:SWK enc kE w0 blk off d w)
 (hab:a+1<b) (hb:b≤d.size) (hsz:d.size<2305843009213693952) (s2:SortedIn (ltOf cf) (a+1) b d) :
 Calls P 119 #[.slice (some ⟨blk,off,none⟩) d.size cap,.int .i64 a,.int .i64 ((a:Int)+1),.int .i64 b,.func (.func g) #[] cb] w (qo kE enc cf w0 blk off a b d):=by
 unfold qo;have mixed:=L.mixed;have t0:=L.t0.trans Tryz.underlying0;have a0:=L.a0;have z0:=L.z0;have t3:=L.t3.trans Tryz.underlying3;have a3:=L.a3;have z3:=L.z3;have t4:=L.t4.trans Tryz.underlying4;have a4:=L.a4;have z4:=L.z4;have t39:=L.t39.trans Tryz.underlying239;have a39:=L.a39;have z39:=L.z39;have t22:=L.t22.trans Tryz.underlying23;have a22:=L.a22;have z22:=L.z22;have t25:=L.t25.trans Tryz.underlying88;have a25:=L.a25;have z25:=L.z25;have v0:=L.v0;have v3:=L.v3;have v4:=L.v4;have aE:=L.aE;have zE:=L.zE;have u22:=run_underlying t22;have eSwap:∀args w,(callFunc 196 args).run P w=.ok (.enter 196 args) w:=enters_of L.fSwap (by kernel_rfl) rfl;have eRot:∀args w,(callFunc 168 args).run P w=.ok (.enter 168 args) w:=enters_of L.fRot (by kernel_rfl) rfl;have eMrg:∀args w,(callFunc 119 args).run P w=.ok (.enter 119 args) w:=enters_of L.fMrg (by kernel_rfl) rfl;have eIns:∀args w,(callFunc 118 args).run P w=.ok (.enter 118 args) w:=enters_of L.fIns (by kernel_rfl) rfl;have eStb:∀args w,(callFunc 70 args).run P w=.ok (.enter 70 args) w:=enters_of L.fStb (by kernel_rfl) rfl;have HR:Aside _:=R;have HC:Aside _:=hcmp;have SS:Aside _:=s2;have OO:Aside _:=hO;have S0:Aside (SWK enc kE w0 blk off d w):=S;have r1:IntKind.i64.wrap ((a:Int)+1-(a:Int))=1:=by rw[IntKind.wrap_i64];omega
 have baz:(a:Int)<(d.size:Int):=by omega
 clear S R hcmp s2 hO;go_enter L.fMrg,Tryz.ntmps119;go_wp2
 go_loopg [10,11] b (fun g1 vi vj wr=>∃lo hi:Nat,vi=.int .i64 lo∧vj=.int .i64 hi∧a+1≤lo∧lo≤hi∧hi≤b∧hi-lo≤g1∧Aside (SWK enc kE w0 blk off d wr) ∧
  Hid ((lo=a+1∨ltOf cf d[lo-1]! d[a]! = true)∧(hi=b∨ltOf cf d[hi]! d[a]! = false)))
 case atStart=>exact⟨a+1,b,by go_num,rfl,by omega,by omega,by omega,by omega,S0,.inl rfl,.inl rfl⟩
 case round =>
  clear S0;obtain⟨lo,hi,rfl,rfl,hal,hlh,hhb,hg1,S1,HX⟩:=hrel;by_cases hlt:lo<hi
  · have hltz:(lo:Int)<(hi:Int):=by omega
    obtain⟨x,hx⟩:∃x,x=d[(lo+hi) / 2]!:=⟨_,rfl⟩
    obtain⟨y,hy⟩:∃x,x=d[a]!:=⟨_,rfl⟩
    have l1:=S1.out.ld HR.out (by omega) P ((lo+hi) / 2) (by omega);have l2:=S1.out.ld HR.out (by omega) P a (by omega);obtain⟨hN,hhN⟩:∃q,q=(lo+hi) / 2:=⟨_,rfl⟩
    rw[←hx,←hhN] at l1;rw[←hy] at l2;have ea:(((lo:Int)+(hi:Int)) / 2).toNat=hN:=by omega
    have pa:(0:Int)≤((lo:Int)+(hi:Int)) / 2:=by omega
    have ra:IntKind.i64.wrap (((lo:Int)+(hi:Int)) / 2)=((lo:Int)+(hi:Int)) / 2:=by rw[IntKind.wrap_i64];omega
    have hc:=S1.out.cmp HC.out (by omega) x y;have bm:((lo:Int)+(hi:Int)) / 2<(d.size:Int):=by omega
    have V6:Hid (x=d[(lo+hi) / 2]!∧y=d[a]!):=⟨hx,hy⟩
    clear hx hy hhN;by_cases hv:cf x y<0
    · have hd:decide (cf x y<0)=true:=decide_eq_true hv;go_wp2_with fail
      go_quiet_grown (first | (go_at_fn g;refine Calls.grown_of (hc _ _)))
      have S2:Aside (SWK enc kE w0 blk off d (grow (wr.drewN nq) osq)):=S1.out.grown nq osq;clear l1 l2 hc S1;generalize grow (wr.drewN nq) osq=w2 at S2 ⊢
      clear nq osq;go_wp2;go_roundg (hi-((lo+hi) / 2+1))
      case measure=>omega
      case rel =>
       refine⟨(lo+hi) / 2+1,hi,by rw[show ((lo:Int)+(hi:Int)) / 2+1=(((lo+hi) / 2+1:Nat):Int) by omega],rfl,by omega,by omega,by omega,Nat.le_refl _,S2,?_,HX.out.2⟩;right
       rw[show (lo+hi) / 2+1-1=(lo+hi) / 2 from by omega,←V6.out.1,←V6.out.2];exact hd
    · have hd:decide (cf x y<0)=false:=decide_eq_false hv;go_wp2_with fail
      go_quiet_grown (first | (go_at_fn g;refine Calls.grown_of (hc _ _)))
      have S2:Aside (SWK enc kE w0 blk off d (grow (wr.drewN nq) osq)):=S1.out.grown nq osq;clear l1 l2 hc S1;generalize grow (wr.drewN nq) osq=w2 at S2 ⊢
      clear nq osq;go_wp2;go_roundg ((lo+hi) / 2-lo)
      case measure=>omega
      case rel =>
       refine⟨lo,(lo+hi) / 2,rfl,by rw[show ((lo:Int)+(hi:Int)) / 2=(((lo+hi) / 2:Nat):Int) by omega],by omega,by omega,by omega,Nat.le_refl _,S2,HX.out.1,?_⟩;right
       rw[←V6.out.1,←V6.out.2];exact hd
  · obtain rfl:hi=lo:=by omega
    have r2:IntKind.i64.wrap ((hi:Int)-1)=(hi:Int)-1:=by rw[IntKind.wrap_i64];omega
    have hq:¬(hi:Int)<(hi:Int):=by omega
    go_wp2;go_loopg [13] b (fun g2 vk wr2=>∃(n:Nat) (dk:Array α),vk=.int .i64 ((a+n:Nat):Int)∧a+n+1≤hi∧b-(a+n)≤g2∧dk.size=d.size∧Aside (SWK enc kE w0 blk off dk wr2)∧Hid (Rot a 1 n d dk∧PermIn a b d dk))
    case atStart=>exact⟨0,d,by go_num,by omega,by omega,rfl,S1,Rot.triv (.inr rfl),permIn_refl _ _ _⟩
    case round =>
     clear S1;obtain⟨n,dk,rfl,hn,hg2,hsk,S2,HY⟩:=hrel;by_cases hk:a+n+1<hi
     · have hkz:((a+n:Nat):Int)<(hi:Int)-1:=by omega
       obtain⟨kN,hkN⟩:∃q,q=a+n:=⟨_,rfl⟩
       rw[←hkN] at hkz ⊢;obtain⟨jN,hjN⟩:∃q,q=kN+1:=⟨_,rfl⟩
       have ea:((kN:Int)+1).toNat=jN:=by omega
       have pa:(0:Int)≤(kN:Int)+1:=by omega
       have ba:(kN:Int)+1<(d.size:Int):=by omega
       have bk:(kN:Int)<(d.size:Int):=by omega
       have ra:IntKind.i64.wrap ((kN:Int)+1)=(kN:Int)+1:=by rw[IntKind.wrap_i64];omega
       have S3:Aside (SWK enc kE w0 blk off (swp dk (kN) (jN)) ((wr.drew.setCells blk (off+(kN)*kE) (enc dk[jN]!)).setCells blk (off+(jN)*kE) (enc dk[kN]!))):=S2.out.swapped HR.out (kN) (jN) (by omega) (by omega);have lA:=S2.out.ld1 HR.out (by omega) P (kN) (by omega);have lB:=S2.out.ld1 HR.out (by omega) P (jN) (by omega);have sA:=S2.out.st1 HR.out (by omega) P (kN) (by omega) dk[jN]!;have sB:=S2.out.st2 HR.out (by omega) P (kN) (jN) (by omega) (by omega) dk[jN]! dk[kN]!;have nA:(enc dk[kN]!).length=kE:=HR.out.hk _;have nB:(enc dk[jN]!).length=kE:=HR.out.hk _;generalize enc dk[kN]! = cI at S3 lA sB nA
       generalize enc dk[jN]! = cJ at S3 lB sA sB nB
       have Tm:Hid (Rot a 1 (n+1) d (swp dk kN jN)∧PermIn a b d (swp dk kN jN)) :=
        ⟨by rw[hjN,hkN];exact HY.out.1.up (by omega),permIn_trans _ _ _ _ _ HY.out.2 (swp_permIn dk a b kN jN (by omega) (by omega) (by omega) (by omega) (by omega))⟩
       have HK:Hid (kN=a+n):=hkN;clear S2 hjN hkN;go_wp2_with fail
       go_big_region_o
       clear lA lB sA sB;generalize (wr.drew.setCells blk (off+(kN)*kE) cJ).setCells blk (off+(jN)*kE) cI=w3 at S3 ⊢
       clear ea;go_wp2;go_roundg (b-(a+(n+1)))
       case measure=>have:=HK.out;omega
       case rel=>exact⟨n+1,swp dk kN jN,by rw[HK.out];go_num,by omega,Nat.le_refl _,by rw[size_swp];exact hsk,S3,Tm⟩
     · have hkz:¬((a+n:Nat):Int)<(hi:Int)-1:=by omega
       have en:hi=a+1+n:=by omega
       have R1:Hid (Rot a 1 n d dk∧PermIn a b d dk):=HY;have EN:Hid (hi=a+1+n):=en;obtain⟨kN,hkN⟩:∃q,q=a+n:=⟨_,rfl⟩
       rw[←hkN] at hkz ⊢;clear en hkN;go_wp2;refine bodyPost_ret (results_none rfl _ _ _) rfl ?_;have e1:=EN.out;refine⟨rfl,dk,R1.out.2,jkM OO.out R1.out.1 (by omega) SS.out ?_ ?_,S2.out⟩
       · rcases HX.out.1 with h | h
         · exact .inl (by omega)
         · right;rw[show a+n=hi-1 from by omega];exact h
       · rcases HX.out.2 with h | h
         · exact .inl (by omega)
         · right;rw[←e1];exact h
theorem jca {α:Type} [Inhabited α] {P:Program} {kE:Nat} (L:ZL P kE) (enc:α→List Value) (cf:α→α→Int) (hO:SWO (ltOf cf)) (g:Nat) (cb:Array Value) (w0:World) (blk off cap a m:Nat) (d0 d:Array α) (w:World)
 (eg:∀args w,(callFunc g args).run P w=.ok (.enter g args) w) (hcmp:CmpLays P g cb enc kE cf blk off d0.size w0) (R:RowK enc kE w0 blk off d0) (hs:d0.size=d.size) (S:SWK enc kE w0 blk off d w)
 (ham:a+1<m) (hb:m+1≤d.size) (hsz:d.size<2305843009213693952) (s1:SortedIn (ltOf cf) a m d) :
 Calls P 119 #[.slice (some ⟨blk,off,none⟩) d.size cap,.int .i64 a,.int .i64 m,.int .i64 ((m:Int)+1),.func (.func g) #[] cb] w (qo kE enc cf w0 blk off a (m+1) d):=by
 unfold qo;have mixed:=L.mixed;have t0:=L.t0.trans Tryz.underlying0;have a0:=L.a0;have z0:=L.z0;have t3:=L.t3.trans Tryz.underlying3;have a3:=L.a3;have z3:=L.z3;have t4:=L.t4.trans Tryz.underlying4;have a4:=L.a4;have z4:=L.z4;have t39:=L.t39.trans Tryz.underlying239;have a39:=L.a39;have z39:=L.z39;have t22:=L.t22.trans Tryz.underlying23;have a22:=L.a22;have z22:=L.z22;have t25:=L.t25.trans Tryz.underlying88;have a25:=L.a25;have z25:=L.z25;have v0:=L.v0;have v3:=L.v3;have v4:=L.v4;have aE:=L.aE;have zE:=L.zE;have u22:=run_underlying t22;have eSwap:∀args w,(callFunc 196 args).run P w=.ok (.enter 196 args) w:=enters_of L.fSwap (by kernel_rfl) rfl;have eRot:∀args w,(callFunc 168 args).run P w=.ok (.enter 168 args) w:=enters_of L.fRot (by kernel_rfl) rfl;have eMrg:∀args w,(callFunc 119 args).run P w=.ok (.enter 119 args) w:=enters_of L.fMrg (by kernel_rfl) rfl;have eIns:∀args w,(callFunc 118 args).run P w=.ok (.enter 118 args) w:=enters_of L.fIns (by kernel_rfl) rfl;have eStb:∀args w,(callFunc 70 args).run P w=.ok (.enter 70 args) w:=enters_of L.fStb (by kernel_rfl) rfl;have HR:Aside _:=R;have HC:Aside _:=hcmp;have SS:Aside _:=s1;have OO:Aside _:=hO;have S0:Aside (SWK enc kE w0 blk off d w):=S;have r0:IntKind.i64.wrap ((m:Int)-(a:Int))=(m:Int)-(a:Int):=by rw[IntKind.wrap_i64];omega
 have q0:((m:Int)-(a:Int)==1)=false:=by simp;omega
 have r1:IntKind.i64.wrap ((m:Int)+1-(m:Int))=1:=by rw[IntKind.wrap_i64];omega
 have bmz:(m:Int)<(d.size:Int):=by omega
 clear S R hcmp s1 hO;go_enter L.fMrg,Tryz.ntmps119;go_wp2
 go_loopg [14,15] m (fun g1 vi vj wr=>∃lo hi:Nat,vi=.int .i64 lo∧vj=.int .i64 hi∧a≤lo∧lo≤hi∧hi≤m∧hi-lo≤g1∧Aside (SWK enc kE w0 blk off d wr) ∧
  Hid ((lo=a∨ltOf cf d[m]! d[lo-1]! = false)∧(hi=m∨ltOf cf d[m]! d[hi]! = true)))
 case atStart=>exact⟨a,m,rfl,rfl,by omega,by omega,by omega,by omega,S0,.inl rfl,.inl rfl⟩
 case round =>
  clear S0;obtain⟨lo,hi,rfl,rfl,hal,hlh,hhb,hg1,S1,HX⟩:=hrel;by_cases hlt:lo<hi
  · have hltz:(lo:Int)<(hi:Int):=by omega
    obtain⟨x,hx⟩:∃x,x=d[(lo+hi) / 2]!:=⟨_,rfl⟩
    obtain⟨y,hy⟩:∃x,x=d[m]!:=⟨_,rfl⟩
    have l1:=S1.out.ld HR.out (by omega) P ((lo+hi) / 2) (by omega);have l2:=S1.out.ld HR.out (by omega) P m (by omega);obtain⟨hN,hhN⟩:∃q,q=(lo+hi) / 2:=⟨_,rfl⟩
    rw[←hx,←hhN] at l1;rw[←hy] at l2;have ea:(((lo:Int)+(hi:Int)) / 2).toNat=hN:=by omega
    have pa:(0:Int)≤((lo:Int)+(hi:Int)) / 2:=by omega
    have ra:IntKind.i64.wrap (((lo:Int)+(hi:Int)) / 2)=((lo:Int)+(hi:Int)) / 2:=by rw[IntKind.wrap_i64];omega
    have hc:=S1.out.cmp HC.out (by omega) y x;have bm:((lo:Int)+(hi:Int)) / 2<(d.size:Int):=by omega
    have V6:Hid (x=d[(lo+hi) / 2]!∧y=d[m]!):=⟨hx,hy⟩
    clear hx hy hhN;by_cases hv:cf y x<0
    · have hd:decide (cf y x<0)=true:=decide_eq_true hv;go_wp2_with fail
      go_quiet_grown (first | (go_at_fn g;refine Calls.grown_of (hc _ _)))
      have S2:Aside (SWK enc kE w0 blk off d (grow (wr.drewN nq) osq)):=S1.out.grown nq osq;clear l1 l2 hc S1;generalize grow (wr.drewN nq) osq=w2 at S2 ⊢
      clear nq osq;go_wp2;go_roundg ((lo+hi) / 2-lo)
      case measure=>omega
      case rel =>
       refine⟨lo,(lo+hi) / 2,rfl,by rw[show ((lo:Int)+(hi:Int)) / 2=(((lo+hi) / 2:Nat):Int) by omega],by omega,by omega,by omega,Nat.le_refl _,S2,HX.out.1,?_⟩;right
       rw[←V6.out.1,←V6.out.2];exact hd
    · have hd:decide (cf y x<0)=false:=decide_eq_false hv;go_wp2_with fail
      go_quiet_grown (first | (go_at_fn g;refine Calls.grown_of (hc _ _)))
      have S2:Aside (SWK enc kE w0 blk off d (grow (wr.drewN nq) osq)):=S1.out.grown nq osq;clear l1 l2 hc S1;generalize grow (wr.drewN nq) osq=w2 at S2 ⊢
      clear nq osq;go_wp2;go_roundg (hi-((lo+hi) / 2+1))
      case measure=>omega
      case rel =>
       refine⟨(lo+hi) / 2+1,hi,by rw[show ((lo:Int)+(hi:Int)) / 2+1=(((lo+hi) / 2+1:Nat):Int) by omega],rfl,by omega,by omega,by omega,Nat.le_refl _,S2,?_,HX.out.2⟩;right
       rw[show (lo+hi) / 2+1-1=(lo+hi) / 2 from by omega,←V6.out.1,←V6.out.2];exact hd
  · obtain rfl:hi=lo:=by omega
    have hq:¬(hi:Int)<(hi:Int):=by omega
    go_wp2;go_loopg [17] m (fun g2 vk wr2=>∃(k n:Nat) (dk:Array α),vk=.int .i64 (k:Int)∧k+n=m∧hi≤k∧k≤g2∧dk.size=d.size∧Aside (SWK enc kE w0 blk off dk wr2)∧Hid (Rot k n 1 d dk∧PermIn a (m+1) d dk))
    case atStart=>exact⟨m,0,d,rfl,by omega,by omega,by omega,rfl,S1,Rot.triv (.inl rfl),permIn_refl _ _ _⟩
    case round =>
     clear S1;obtain⟨k,n,dk,rfl,hkn,hhk,hg2,hsk,S2,HY⟩:=hrel;by_cases hk:hi<k
     · obtain⟨jN,hjN⟩:∃q,q+1=k:=⟨k-1,by omega⟩
       subst hjN;have hkz:(hi:Int)<(jN:Int)+1:=by omega
       obtain⟨kN,hkN⟩:∃q,q=jN+1:=⟨_,rfl⟩
       have ea:((jN:Int)+1).toNat=kN:=by omega
       have pa:(0:Int)≤(jN:Int)+1:=by omega
       have ba:(jN:Int)+1<(d.size:Int):=by omega
       have bk:(jN:Int)<(d.size:Int):=by omega
       have ra:IntKind.i64.wrap (jN:Int)=(jN:Int):=by rw[IntKind.wrap_i64];omega
       have ra2:IntKind.i64.wrap ((jN:Int)+1-1)=(jN:Int):=by rw[IntKind.wrap_i64];omega
       have S3:Aside (SWK enc kE w0 blk off (swp dk (kN) (jN)) ((wr.drew.setCells blk (off+(kN)*kE) (enc dk[jN]!)).setCells blk (off+(jN)*kE) (enc dk[kN]!))):=S2.out.swapped HR.out (kN) (jN) (by omega) (by omega);have lA:=S2.out.ld1 HR.out (by omega) P (kN) (by omega);have lB:=S2.out.ld1 HR.out (by omega) P (jN) (by omega);have sA:=S2.out.st1 HR.out (by omega) P (kN) (by omega) dk[jN]!;have sB:=S2.out.st2 HR.out (by omega) P (kN) (jN) (by omega) (by omega) dk[jN]! dk[kN]!;have nA:(enc dk[kN]!).length=kE:=HR.out.hk _;have nB:(enc dk[jN]!).length=kE:=HR.out.hk _;generalize enc dk[kN]! = cI at S3 lA sB nA
       generalize enc dk[jN]! = cJ at S3 lB sA sB nB
       have Tm:Hid (Rot jN (n+1) 1 d (swp dk kN jN)∧PermIn a (m+1) d (swp dk kN jN)) :=
        ⟨by rw[hkN];exact HY.out.1.down (by omega),permIn_trans _ _ _ _ _ HY.out.2 (swp_permIn dk a (m+1) kN jN (by omega) (by omega) (by omega) (by omega) (by omega))⟩
       clear S2 hkN;go_wp2_with fail
       go_big_region_o
       clear lA lB sA sB;generalize (wr.drew.setCells blk (off+(kN)*kE) cJ).setCells blk (off+(jN)*kE) cI=w3 at S3 ⊢
       clear ea;go_wp2;go_roundg jN
       case measure=>omega
       case rel=>exact⟨jN,n+1,swp dk kN jN,by first | rfl | go_num | (congr 1;omega),by omega,by omega,Nat.le_refl _,by rw[size_swp];exact hsk,S3,Tm⟩
     · have en:k=hi:=by omega
       subst en;have hkz:¬(k:Int)<(k:Int):=by omega
       have KN:Hid (k+n=m):=hkn;clear hkn;go_wp2;refine bodyPost_ret (results_none rfl _ _ _) rfl ?_;have e1:=KN.out;refine⟨rfl,dk,HY.out.2,?_,S2.out⟩;have:=jiX OO.out HY.out.1 hal (by rw[e1];exact SS.out) ?_ ?_
       · rw[e1] at this;exact this
       · rcases HX.out.1 with h | h
         · exact .inl h
         · right;rw[e1];exact h
       · rcases HX.out.2 with h | h
         · exact .inl (by omega)
         · right;rw[e1];exact h
theorem jhr {α:Type} [Inhabited α] {P:Program} {kE:Nat} (L:ZL P kE) (enc:α→List Value) (w0:World) (blk off cap a m b:Nat) (za zm zb:Int) (d0 d:Array α) (w:World) (R:RowK enc kE w0 blk off d0) (hs:d0.size=d.size) (S:SWK enc kE w0 blk off d w) (ham:a<m) (hmb:m<b) (hb:b≤d.size) (hsz:d.size<4611686018427387904) (cmp:Value)
 (ea:za=a) (em:zm=m) (eb:zb=b) (N:Nat) (hN:N=d.size) :
 Calls P 168 #[.slice (some ⟨blk,off,none⟩) N cap,.int .i64 za,.int .i64 zm,.int .i64 zb,cmp] w
  fun e w'=>e=.returned (.tuple #[])∧∃d',Rot a (m-a) (b-m) d d'∧PermIn a b d d'∧SWK enc kE w0 blk off d' w':=by
 subst ea em eb hN;exact jfL L enc w0 blk off cap a m b d0 d w R hs S ham hmb hb hsz cmp
def jcS {α:Type} [Inhabited α] (P:Program) (kE:Nat) (enc:α→List Value) (cf:α→α→Int) (g:Nat) (cb:Array Value) (w0:World) (blk off cap size n:Nat):Prop :=
 ∀(a m b:Nat) (za zm zb:Int) (d:Array α) (w:World),b-a<n→a<m→m<b→b≤size→d.size=size→za=a→zm=m→zb=b→SWK enc kE w0 blk off d w→SortedIn (ltOf cf) a m d→SortedIn (ltOf cf) m b d →
  Calls P 119 #[.slice (some ⟨blk,off,none⟩) size cap,.int .i64 za,.int .i64 zm,.int .i64 zb,.func (.func g) #[] cb] w (qo kE enc cf w0 blk off a b d)
theorem jdM {α:Type} [Inhabited α] {P:Program} {kE:Nat} (L:ZL P kE) (enc:α→List Value) (cf:α→α→Int) (hO:SWO (ltOf cf)) (g:Nat) (cb:Array Value) (w0:World) (blk off cap a m b:Nat) (d0 d:Array α) (w:World)
 (eg:∀args w,(callFunc g args).run P w=.ok (.enter g args) w) (hcmp:CmpLays P g cb enc kE cf blk off d0.size w0) (R:RowK enc kE w0 blk off d0) (hs:d0.size=d.size) (S:SWK enc kE w0 blk off d w)
 (ham:a+1<m) (hmb:m+1<b) (hb:b≤d.size) (hsz:d.size<2305843009213693952) (s1:SortedIn (ltOf cf) a m d) (s2:SortedIn (ltOf cf) m b d)
 (IH:jcS P kE enc cf g cb w0 blk off cap d.size (b-a)) :
 Calls P 119 #[.slice (some ⟨blk,off,none⟩) d.size cap,.int .i64 a,.int .i64 m,.int .i64 b,.func (.func g) #[] cb] w (qo kE enc cf w0 blk off a b d):=by
 unfold qo;have mixed:=L.mixed;have t0:=L.t0.trans Tryz.underlying0;have a0:=L.a0;have z0:=L.z0;have t3:=L.t3.trans Tryz.underlying3;have a3:=L.a3;have z3:=L.z3;have t4:=L.t4.trans Tryz.underlying4;have a4:=L.a4;have z4:=L.z4;have t39:=L.t39.trans Tryz.underlying239;have a39:=L.a39;have z39:=L.z39;have t22:=L.t22.trans Tryz.underlying23;have a22:=L.a22;have z22:=L.z22;have t25:=L.t25.trans Tryz.underlying88;have a25:=L.a25;have z25:=L.z25;have v0:=L.v0;have v3:=L.v3;have v4:=L.v4;have aE:=L.aE;have zE:=L.zE;have u22:=run_underlying t22;have eSwap:∀args w,(callFunc 196 args).run P w=.ok (.enter 196 args) w:=enters_of L.fSwap (by kernel_rfl) rfl;have eRot:∀args w,(callFunc 168 args).run P w=.ok (.enter 168 args) w:=enters_of L.fRot (by kernel_rfl) rfl;have eMrg:∀args w,(callFunc 119 args).run P w=.ok (.enter 119 args) w:=enters_of L.fMrg (by kernel_rfl) rfl;have eIns:∀args w,(callFunc 118 args).run P w=.ok (.enter 118 args) w:=enters_of L.fIns (by kernel_rfl) rfl;have eStb:∀args w,(callFunc 70 args).run P w=.ok (.enter 70 args) w:=enters_of L.fStb (by kernel_rfl) rfl;have HR:Aside _:=R;have HC:Aside _:=hcmp;have T1:Aside _:=s1;have T2:Aside _:=s2;have OO:Aside _:=hO;have HI:Aside _:=IH;have S0:Aside (SWK enc kE w0 blk off d w):=S;have r0:IntKind.i64.wrap ((m:Int)-(a:Int))=(m:Int)-(a:Int):=by rw[IntKind.wrap_i64];omega
 have q0:((m:Int)-(a:Int)==1)=false:=by simp;omega
 have r1:IntKind.i64.wrap ((b:Int)-(m:Int))=(b:Int)-(m:Int):=by rw[IntKind.wrap_i64];omega
 have q1:((b:Int)-(m:Int)==1)=false:=by simp;omega
 obtain⟨mid,hmid⟩:∃mid,mid=(a+b) / 2:=⟨_,rfl⟩
 have em:((a:Int)+(b:Int)) / 2=(mid:Int):=by omega
 have m1:a<mid:=by omega
 have m2:mid<b:=by omega
 have m3:2*mid≤a+b:=by omega
 have m4:a+b≤2*mid+1:=by omega
 clear S R hcmp s1 s2 hO IH hmid;have r2:IntKind.i64.wrap ((mid:Int)+(m:Int))=(mid:Int)+(m:Int):=by rw[IntKind.wrap_i64];omega
 have r3:IntKind.i64.wrap ((mid:Int)+(m:Int)-(b:Int))=(mid:Int)+(m:Int)-(b:Int):=by rw[IntKind.wrap_i64];omega
 have r4:IntKind.i64.wrap ((mid:Int)+(m:Int)-1)=(mid:Int)+(m:Int)-1:=by rw[IntKind.wrap_i64];omega
 go_enter L.fMrg,Tryz.ntmps119;go_upto_if 140 with fail
 go_cut [20,21] from 25 (fun s20 s21 wx=>w=wx∧∃lo hi:Nat,s20=.int .i64 lo∧s21=.int .i64 hi∧((m≤mid∧lo=a∧hi=m)∨(mid<m∧lo+b=mid+m∧hi=mid)))
 case first =>
  by_cases hmm:mid<m
  · have hz:(mid:Int)<(m:Int):=by omega
    go_wp2;go_meet
    case rel=>exact⟨rfl,mid+m-b,mid,by congr 1;omega,rfl,.inr ⟨hmm,by omega,rfl⟩⟩
  · have hz:¬(mid:Int)<(m:Int):=by omega
    go_wp2;go_meet
    case rel=>exact⟨rfl,a,m,rfl,rfl,.inl ⟨by omega,rfl,rfl⟩⟩
 case rest =>
  obtain⟨rfl,lo,hi,rfl,rfl,hlh⟩:=hcut;have HL:Hid ((m≤mid∧lo=a∧hi=m)∨(mid<m∧lo+b=mid+m∧hi=mid)):=hlh;have l1:a≤lo:=by omega
  have l2:hi≤m:=by omega
  have l3:hi≤mid:=by omega
  have l4:mid+m≤lo+b:=by omega
  have l5:lo≤hi:=by omega
  clear hlh;go_wp2
  go_loopg [20,21] b (fun g1 vi vj wr=>∃s r:Nat,vi=.int .i64 s∧vj=.int .i64 r∧lo≤s∧s≤r∧r≤hi∧r-s≤g1∧Aside (SWK enc kE w0 blk off d wr) ∧
   Hid ((s=lo∨ltOf cf d[mid+m-s]! d[s-1]! = false)∧(r=hi∨ltOf cf d[mid+m-1-r]! d[r]! = true)))
  case atStart=>exact⟨lo,hi,rfl,rfl,by omega,by omega,by omega,by omega,S0,.inl rfl,.inl rfl⟩
  case round =>
   clear S0;obtain⟨s,r,rfl,rfl,hls,hsr,hrh,hg1,S1,HX⟩:=hrel;by_cases hlt:s<r
   · have hltz:(s:Int)<(r:Int):=by omega
     obtain⟨hN,hhN⟩:∃q,q=(s+r) / 2:=⟨_,rfl⟩
     obtain⟨pN,hpN⟩:∃q,q=mid+m-1-hN:=⟨_,rfl⟩
     obtain⟨x,hx⟩:∃x,x=d[hN]!:=⟨_,rfl⟩
     obtain⟨y,hy⟩:∃x,x=d[pN]!:=⟨_,rfl⟩
     have l1':=S1.out.ld HR.out (by omega) P hN (by omega);have l2':=S1.out.ld HR.out (by omega) P pN (by omega);rw[←hx] at l1';rw[←hy] at l2';have eh:((s:Int)+(r:Int)) / 2=(hN:Int):=by omega
     have ed:(mid:Int)+(m:Int)-1-(hN:Int)=(pN:Int):=by omega
     have bp:(pN:Int)<(d.size:Int):=by omega
     have bh:(hN:Int)<(d.size:Int):=by omega
     have ra:IntKind.i64.wrap (pN:Int)=(pN:Int):=by rw[IntKind.wrap_i64];omega
     have hc:=S1.out.cmp HC.out (by omega) y x;have V6:Hid (x=d[hN]!∧y=d[pN]!∧hN=(s+r) / 2∧pN=mid+m-1-hN):=⟨hx,hy,hhN,hpN⟩
     have b1:s≤hN:=by omega
     have b2:hN<r:=by omega
     clear hx hy hhN hpN;by_cases hv:cf y x<0
     · have hd:decide (cf y x<0)=true:=decide_eq_true hv;go_wp2_with fail
       go_quiet_grown (first | (go_at_fn g;refine Calls.grown_of (hc _ _)))
       have S2:Aside (SWK enc kE w0 blk off d (grow (wr.drewN nq) osq)):=S1.out.grown nq osq;clear l1' l2' hc S1;generalize grow (wr.drewN nq) osq=w2 at S2 ⊢
       clear nq osq;go_wp2;go_roundg (hN-s)
       case measure=>omega
       case rel =>
        refine⟨s,hN,rfl,rfl,by omega,by omega,by omega,Nat.le_refl _,S2,HX.out.1,?_⟩;right
        rw[←V6.out.2.2.2,←V6.out.1,←V6.out.2.1];exact hd
     · have hd:decide (cf y x<0)=false:=decide_eq_false hv;go_wp2_with fail
       go_quiet_grown (first | (go_at_fn g;refine Calls.grown_of (hc _ _)))
       have S2:Aside (SWK enc kE w0 blk off d (grow (wr.drewN nq) osq)):=S1.out.grown nq osq;clear l1' l2' hc S1;generalize grow (wr.drewN nq) osq=w2 at S2 ⊢
       clear nq osq;go_wp2;go_roundg (r-(hN+1))
       case measure=>omega
       case rel =>
        refine⟨hN+1,r,by go_num,rfl,by omega,by omega,by omega,Nat.le_refl _,S2,?_,HX.out.2⟩;right
        rw[show hN+1-1=hN from by omega,show mid+m-(hN+1)=mid+m-1-hN from by omega,←V6.out.2.2.2,←V6.out.1,←V6.out.2.1];exact hd
   · obtain rfl:r=s:=by omega
     have hq:¬(r:Int)<(r:Int):=by omega
     have r5:IntKind.i64.wrap ((mid:Int)+(m:Int)-(r:Int))=(mid:Int)+(m:Int)-(r:Int):=by rw[IntKind.wrap_i64];omega
     have hF:Found (ltOf cf) a m b mid r d:=by
      refine⟨by omega,by omega,m1,m2,by omega,by omega,by omega,by omega,by omega,?_,?_⟩
      · rcases HX.out.1 with h | h
        · rcases HL.out with ⟨h1,h2,h3⟩ | ⟨h1,h2,h3⟩
          · exact .inl (by omega)
          · exact .inr (.inl (by omega))
        · exact .inr (.inr h)
      · rcases HX.out.2 with h | h
        · rcases HL.out with ⟨h1,h2,h3⟩ | ⟨h1,h2,h3⟩
          · exact .inl (by omega)
          · exact .inr (.inl (by omega))
        · exact .inr (.inr h)
     have FF:Hid _:=hF;obtain⟨z,hz⟩:∃z,z=mid+m-r:=⟨_,rfl⟩
     have ez:(mid:Int)+(m:Int)-(r:Int)=(z:Int):=by omega
     have z1:m≤z:=hz▸hF.em;have z2:z≤b:=hz▸hF.eb;have z3:mid≤z:=by omega
     have HZ:Hid (z=mid+m-r):=hz;clear hF hz;go_upto_region 39 with fail
     go_cut [185] from 178 (fun s185 wx=>s185=.bool (decide (r<m)&&decide (m<z))∧wr=wx)
     case first =>
      by_cases c1:r<m
      · have c1z:(r:Int)<(m:Int):=by omega
        by_cases c2:m<z
        · have c2z:(m:Int)<(z:Int):=by omega
          go_wp2;go_meet
          case rel=>exact⟨by simp[c1,c2],rfl⟩
        · have c2z:¬(m:Int)<(z:Int):=by omega
          go_wp2;go_meet
          case rel=>exact⟨by simp[c1,c2],rfl⟩
      · have c1z:¬(r:Int)<(m:Int):=by omega
        go_wp2;go_meet
        case rel=>exact⟨by simp[c1],rfl⟩
     case rest =>
     obtain⟨rfl,rfl⟩:=hcut;go_upto_if 185 with fail
     go_cut [] from 25 (fun wx=>∃d1:Array α,d1.size=d.size∧Aside (SWK enc kE w0 blk off d1 wx)∧Hid (Rot r (m-r) (mid-r) d d1∧PermIn a b d d1))
     case first =>
      by_cases c1:r<m
      · have c1z:(r:Int)<(m:Int):=by omega
        by_cases c2:m<z
        · have c2z:(m:Int)<(z:Int):=by omega
          have hc:=lH (jhr L enc w0 blk off cap r m z r m z d0 d wr HR.out hs S1.out c1 c2 (by omega) (by omega) (.func (.func g) #[] cb) rfl rfl rfl d.size rfl);go_wp2_with (go_at_call 168;refine hc.out.mono ?_;rintro e w1 ⟨rfl,d1,hE,hP,hS⟩)
          have H1:Hid (Rot r (m-r) (z-m) d d1):=hE;have H2:Hid (PermIn r z d d1):=hP;have S2:Aside (SWK enc kE w0 blk off d1 w1):=hS;clear hE hP hS;go_meet
          case rel=>exact⟨d1,H1.out.size,S2,by rw[show mid-r=z-m from by omega];exact H1.out,permIn_mono _ _ _ _ _ _ (by omega) (by omega) (by omega) H2.out⟩
        · have c2z:¬(m:Int)<(z:Int):=by omega
          go_wp2;go_meet
          case rel=>exact⟨d,rfl,S1,Rot.triv (.inr (by omega)),permIn_refl _ _ _⟩
      · have c1z:¬(r:Int)<(m:Int):=by omega
        go_wp2;go_meet
        case rel=>exact⟨d,rfl,S1,Rot.triv (.inl (by omega)),permIn_refl _ _ _⟩
     case rest =>
      obtain⟨d1,hd1,S2,H1⟩:=hcut;have HP:Hid (SortedIn (ltOf cf) a r d1∧SortedIn (ltOf cf) r mid d1∧SortedIn (ltOf cf) mid z d1∧SortedIn (ltOf cf) z b d1):=by
       rw[show z=mid+m-r from HZ.out];exact FF.out.parts H1.out.1 T1.out T2.out
      have HQ:Hid (∀x y,a≤x→x<mid→mid≤y→y<b→ltOf cf d1[y]! d1[x]! = false):=FF.out.cross OO.out H1.out.1 T1.out T2.out;clear S1;go_upto_region 41 with fail
      go_cut [199] from 192 (fun s199 wx=>s199=.bool (decide (a<r)&&decide (r<mid))∧wc=wx)
      case first =>
       by_cases c1:a<r
       · have c1z:(a:Int)<(r:Int):=by omega
         by_cases c2:r<mid
         · have c2z:(r:Int)<(mid:Int):=by omega
           go_wp2;go_meet
           case rel=>exact⟨by simp[c1,c2],rfl⟩
         · have c2z:¬(r:Int)<(mid:Int):=by omega
           go_wp2;go_meet
           case rel=>exact⟨by simp[c1,c2],rfl⟩
       · have c1z:¬(a:Int)<(r:Int):=by omega
         go_wp2;go_meet
         case rel=>exact⟨by simp[c1],rfl⟩
      case rest =>
      obtain⟨rfl,rfl⟩:=hcut;go_upto_if 199 with fail
      go_cut [] from 25 (fun wx=>∃d2:Array α,d2.size=d.size∧Aside (SWK enc kE w0 blk off d2 wx)∧Hid (PermIn a mid d1 d2∧SortedIn (ltOf cf) a mid d2))
      case first =>
       by_cases c1:a<r
       · have c1z:(a:Int)<(r:Int):=by omega
         by_cases c2:r<mid
         · have c2z:(r:Int)<(mid:Int):=by omega
           have hc:=lH (HI.out a r mid a r mid d1 wc (by omega) c1 c2 (by omega) hd1 rfl rfl rfl S2.out HP.out.1 HP.out.2.1);go_wp2_with (go_at_call 119;refine hc.out.mono ?_;rintro e w1 ⟨rfl,d2,hE,hP,hS⟩)
           have H3:Hid (PermIn a mid d1 d2):=hE;have H4:Hid (SortedIn (ltOf cf) a mid d2):=hP;have S3:Aside (SWK enc kE w0 blk off d2 w1):=hS;clear hE hP hS;go_meet
           case rel=>exact⟨d2,by rw[H3.out.1];exact hd1,S3,H3.out,H4.out⟩
         · have c2z:¬(r:Int)<(mid:Int):=by omega
           go_wp2;go_meet
           case rel=>exact⟨d1,hd1,S2,permIn_refl _ _ _,by have:=HP.out.1;rw[show r=mid from by omega] at this;exact this⟩
       · have c1z:¬(a:Int)<(r:Int):=by omega
         go_wp2;go_meet
         case rel=>exact⟨d1,hd1,S2,permIn_refl _ _ _,by have:=HP.out.2.1;rw[show r=a from by omega] at this;exact this⟩
      case rest =>
       obtain⟨d2,hd2,S3,H3⟩:=hcut;clear S2;by_cases c1:mid<z
       · have c1z:(mid:Int)<(z:Int):=by omega
         by_cases c2:z<b
         · have c2z:(z:Int)<(b:Int):=by omega
           have hc:=lH (HI.out mid z b mid z b d2 wc (by omega) c1 c2 (by omega) hd2 rfl rfl rfl S3.out
            (HP.out.2.2.1.congr fun i g1 g2=>H3.out.1.2.1 i (by omega)) (HP.out.2.2.2.congr fun i g1 g2=>H3.out.1.2.1 i (by omega)))
           go_wp2_with (go_at_call 119;refine hc.out.mono ?_;rintro e w1 ⟨rfl,d3,hE,hP,hS⟩)
           go_end0
           exact⟨rfl,d3,permIn_trans _ _ _ _ _ H1.out.2 (permIn_trans _ _ _ _ _ (permIn_mono _ _ _ _ _ _ (by omega) (by omega) (by omega) H3.out.1) (permIn_mono _ _ _ _ _ _ (by omega) (by omega) (by omega) hE)),XU (by omega) (by omega) H3.out.1 H3.out.2 hE hP HQ.out,hS⟩
         · have c2z:¬(z:Int)<(b:Int):=by omega
           have hs4:SortedIn (ltOf cf) mid b d2:=by
            have h4:=HP.out.2.2.1;rw[show z=b from by omega] at h4;exact h4.congr fun i g1 g2=>H3.out.1.2.1 i (by omega)
           have Rn:Hid _:=hs4;clear hs4;go_wp2;go_end0
           exact⟨rfl,d2,permIn_trans _ _ _ _ _ H1.out.2 (permIn_mono _ _ _ _ _ _ (by omega) (by omega) (by omega) H3.out.1),XU (by omega) (by omega) H3.out.1 H3.out.2 (permIn_refl _ _ _) Rn.out HQ.out,S3.out⟩
       · have c1z:¬(mid:Int)<(z:Int):=by omega
         have hs4:SortedIn (ltOf cf) mid b d2:=by
          have h4:=HP.out.2.2.2;rw[show z=mid from by omega] at h4;exact h4.congr fun i g1 g2=>H3.out.1.2.1 i (by omega)
         have Rn:Hid _:=hs4;clear hs4;go_wp2;go_end0
         exact⟨rfl,d2,permIn_trans _ _ _ _ _ H1.out.2 (permIn_mono _ _ _ _ _ _ (by omega) (by omega) (by omega) H3.out.1),XU (by omega) (by omega) H3.out.1 H3.out.2 (permIn_refl _ _ _) Rn.out HQ.out,S3.out⟩
theorem jbT {α:Type} [Inhabited α] {P:Program} {kE:Nat} (L:ZL P kE) (enc:α→List Value) (cf:α→α→Int) (hO:SWO (ltOf cf)) (g:Nat) (cb:Array Value) (w0:World) (blk off cap size:Nat) (d0:Array α) (hs:d0.size=size)
 (eg:∀args w,(callFunc g args).run P w=.ok (.enter g args) w) (hcmp:CmpLays P g cb enc kE cf blk off d0.size w0) (R:RowK enc kE w0 blk off d0) (hsz:size<2305843009213693952) :
 ∀n,jcS P kE enc cf g cb w0 blk off cap size n:=by
 intro n
 induction n with
 | zero=>intro a m b za zm zb d w h;omega
 | succ n ih =>
  intro a m b za zm zb d w hn ham hmb hb hd ea em eb S s1 s2;subst ea em eb;subst hd;by_cases h1:m=a+1
  · subst h1;have:=jcF L enc cf hO g cb w0 blk off cap a b d0 d w eg hcmp R hs S hmb hb hsz s2;rw[show ((a+1:Nat):Int)=(a:Int)+1 from by omega];exact this
  · by_cases h2:b=m+1
    · subst h2;have:=jca L enc cf hO g cb w0 blk off cap a m d0 d w eg hcmp R hs S (by omega) hb hsz s1;rw[show ((m+1:Nat):Int)=(m:Int)+1 from by omega];exact this
    · exact jdM L enc cf hO g cb w0 blk off cap a m b d0 d w eg hcmp R hs S (by omega) (by omega) hb hsz s1 s2
       (fun a' m' b' za zm zb d' w' h=>ih a' m' b' za zm zb d' w' (by omega))
theorem jav {α:Type} [Inhabited α] {P:Program} {kE:Nat} (L:ZL P kE) (enc:α→List Value) (cf:α→α→Int) (hO:SWO (ltOf cf)) (g:Nat) (cb:Array Value) (w0:World) (blk off cap a m b:Nat) (za zm zb:Int) (d0 d:Array α) (w:World)
 (eg:∀args w,(callFunc g args).run P w=.ok (.enter g args) w) (hcmp:CmpLays P g cb enc kE cf blk off d0.size w0) (R:RowK enc kE w0 blk off d0) (hs:d0.size=d.size) (hsz:d.size<2305843009213693952) (S:SWK enc kE w0 blk off d w)
 (ham:a<m) (hmb:m<b) (hb:b≤d.size) (ea:za=a) (em:zm=m) (eb:zb=b) (s1:SortedIn (ltOf cf) a m d) (s2:SortedIn (ltOf cf) m b d) (N:Nat) (hN:N=d.size) :
 Calls P 119 #[.slice (some ⟨blk,off,none⟩) N cap,.int .i64 za,.int .i64 zm,.int .i64 zb,.func (.func g) #[] cb] w (qo kE enc cf w0 blk off a b d):=by
 subst hN;exact jbT L enc cf hO g cb w0 blk off cap d.size d0 hs eg hcmp R hsz (b-a+1) a m b za zm zb d w (by omega) ham hmb hb rfl ea em eb S s1 s2
def jiY:Go.Shelf.Ren:=⟨fun | 20=>118 | n=>n,fun | 0=>0 | 3=>3 | 4=>4 | 22=>23 | 24=>52 | 25=>88 | n=>n,fun | n=>n⟩
theorem jmL:Go.Proofs.SlLaysF0.n20 Tryz.prog jiY:={
 mixed:=by kernel_rfl
 f20:=⟨Tryz.f118.name,by decide,Tryz.func118.trans (congrArg some (by kernel_rfl))⟩
 t0:=Tryz.underlying0
 a0:=Tryz.isAgg0
 z0:=Tryz.sizeOf0
 v0:=Tryz.zeroValue0
 t3:=Tryz.underlying3
 a3:=Tryz.isAgg3
 z3:=Tryz.sizeOf3
 v3:=Tryz.zeroValue3
 t4:=Tryz.underlying4
 a4:=Tryz.isAgg4
 z4:=Tryz.sizeOf4
 v4:=Tryz.zeroValue4
 t22:=Tryz.underlying23
 a22:=Tryz.isAgg23
 z22:=Tryz.sizeOf23
 v22:=Tryz.zeroValue23
 t25:=Tryz.underlying88
 a25:=Tryz.isAgg88
 z25:=Tryz.sizeOf88
 v25:=Tryz.zeroValue88 }
theorem jaU {α:Type} [Inhabited α] (enc:α→List Value) (cf:α→α→Int) (hO:SWO (ltOf cf)) (g:Nat) (cb:Array Value) (w0:World) (blk off cap a b:Nat) (za zb:Int) (d0 d:Array α) (w:World)
 (eg:∀args w,(callFunc g args).run Tryz.prog w=.ok (.enter g args) w) (hcmp:CmpLays Tryz.prog g cb enc 11 cf blk off d0.size w0) (R:RowK enc 11 w0 blk off d0) (hs:d0.size=d.size) (hsz:d.size<2305843009213693952) (S:SWK enc 11 w0 blk off d w)
 (hab:a≤b) (hb:b≤d.size) (ea:za=a) (eb:zb=b) (N:Nat) (hN:N=d.size) :
 Calls Tryz.prog 118 #[.slice (some ⟨blk,off,none⟩) N cap,.int .i64 za,.int .i64 zb,.func (.func g) #[] cb] w (qo 11 enc cf w0 blk off a b d):=by
 subst hN ea eb;have hc:CmpLays Tryz.prog g cb enc 11 cf blk off d.size w:=fun m os dk hk x y=>by
  obtain⟨m',os',e⟩:=S.on R.hblk m dk os hk;rw[e];exact hcmp m' os' dk (hk.trans hs.symm) x y
 have hst:=AnyQ.insertionSortCmpFunc jmL 11 Tryz.isAgg52 Tryz.sizeOf52 enc R.hk R.h1 cf g cb blk off cap a b d w eg hc (S.holds R.hblk R.hH hs.symm) (S.lt R.hblk) hab hb (by omega);change Calls Tryz.prog 118 _ _ _ at hst;refine hst.mono ?_;rintro e w' ⟨rfl,n,os,rfl⟩;have h:=insertionSort_holds hO d a b hab hb;exact⟨rfl,_,h.1,h.2,S.on R.hblk n _ os h.1.1⟩
inductive YJ {α:Type} [Inhabited α] (lt:α→α→Bool) (s:Nat) (d:Array α):Nat→Prop
 | zero:YJ lt s d 0
 | snoc {a:Nat}:YJ lt s d a→SortedIn lt a (a+s) d→YJ lt s d (a+s)
inductive Zw {α:Type} [Inhabited α] (lt:α→α→Bool) (s n:Nat) (d:Array α):Nat→Prop
 | done {a:Nat}:n≤a→Zw lt s n d a
 | step {a:Nat}:SortedIn lt a (min (a+s) n) d→Zw lt s n d (a+s)→Zw lt s n d a
section
variable {α:Type} [Inhabited α] {lt:α→α→Bool} {s n a:Nat} {d d':Array α}
theorem YJ.congr (h:YJ lt s d a):(∀i,i<a→d'[i]! = d[i]!)→YJ lt s d' a:=by
 induction h with
 | zero=>exact fun _=>.zero
 | snoc _ h2 ih=>exact fun g=>.snoc (ih fun i hi=>g i (by omega)) (h2.congr fun i h1 h2=>g i (by omega))
theorem Zw.congr (h:Zw lt s n d a):(∀i,a≤i→i<n→d'[i]! = d[i]!)→Zw lt s n d' a:=by
 induction h with
 | done h=>exact fun _=>.done h
 | step h1 _ ih=>exact fun g=>.step (h1.congr fun i h1 h2=>g i h1 (by omega)) (ih fun i hi=>g i (by omega))
theorem YJ.blks (h:YJ lt s d a):a≤n→Zw lt s n d a→Zw lt s n d 0:=by
 induction h with
 | zero=>exact fun _ g=>g
 | snoc h1 h2 ih=>exact fun hn g=>ih (by omega) (.step (by rw[Nat.min_eq_left hn];exact h2) g)
theorem Zw.head (h:Zw lt s n d a) (ha:a<n):SortedIn lt a (min (a+s) n) d∧Zw lt s n d (a+s):=by
 cases h with
 | done h=>omega
 | step h1 h2=>exact⟨h1,h2⟩
end
def jme {α:Type} [Inhabited α] (enc:α→List Value) (cf:α→α→Int) (w0:World) (blk:Nat) (d:Array α) (e:Ending) (w':World):Prop :=
 e=.returned (.tuple #[])∧∃d',PermIn 0 d.size d d'∧SortedIn (ltOf cf) 0 d.size d'∧SWK enc 11 w0 blk 0 d' w'
theorem jko {α:Type} [Inhabited α] (enc:α→List Value) (cf:α→α→Int) (hO:SWO (ltOf cf)) (g:Nat) (cb:Array Value) (w:World) (blk cap:Nat) (d:Array α)
 (eg:∀args w,(callFunc g args).run Tryz.prog w=.ok (.enter g args) w) (hcmp:CmpLays Tryz.prog g cb enc 11 cf blk 0 d.size w) (R:RowK enc 11 w blk 0 d) (hsz:d.size<1000000000) :
 Calls Tryz.prog 70 #[.slice (some ⟨blk,0,none⟩) d.size cap,.int .i64 d.size,.func (.func g) #[] cb] w (jme enc cf w blk d):=by
 have HR:Aside _:=R;have HC:Aside _:=hcmp;have OO:Aside _:=hO;have S0:Aside (SWK enc 11 w blk 0 d w):=SWK.start R.hH;unfold jme;clear R hcmp hO;go_enter Tryz.func70,Tryz.ntmps70;go_wp2;go_loopg [7,8] d.size (fun g1 va vb wr=>∃(a:Nat) (dk:Array α),va=.int .i64 a∧vb=.int .i64 ((a:Int)+20)∧a≤d.size∧d.size-a≤g1∧dk.size=d.size∧Aside (SWK enc 11 w blk 0 dk wr)∧Hid (PermIn 0 d.size d dk∧YJ (ltOf cf) 20 dk a))
 case atStart=>exact⟨0,d,by go_num,by go_num,by omega,by omega,rfl,S0,permIn_refl _ _ _,.zero⟩
 case round =>
  clear S0;obtain⟨a,dk,rfl,rfl,ha,hg1,hsk,S1,HX⟩:=hrel;by_cases hlt:a+20≤d.size
  · have hz:(a:Int)+20≤(d.size:Int):=by omega
    have r1:IntKind.i64.wrap ((a:Int)+20+20)=(a:Int)+20+20:=by rw[IntKind.wrap_i64];omega
    have hc:=lH (jaU enc cf OO.out g cb w blk 0 cap a (a+20) a ((a:Int)+20) d dk wr eg HC.out HR.out hsk.symm (by omega) S1.out (by omega) (by omega) rfl (by omega) d.size hsk.symm);clear S1;go_wp2_with (go_at_call 118;refine hc.out.mono ?_;rintro e w1 ⟨rfl,d1,hE,hP,hS⟩)
    have H1:Hid (PermIn a (a+20) dk d1):=hE;have H2:Hid (SortedIn (ltOf cf) a (a+20) d1):=hP;have S2:Aside (SWK enc 11 w blk 0 d1 w1):=hS;clear hE hP hS;go_roundg (d.size-(a+20))
    case measure=>omega
    case rel=>exact⟨a+20,d1,by first | rfl | go_num | (congr 1;omega),by first | rfl | go_num | (congr 1;omega),by omega,Nat.le_refl _,by rw[H1.out.1];exact hsk,S2,permIn_trans _ _ _ _ _ HX.out.1 (permIn_mono _ _ _ _ _ _ (by omega) (by omega) (by omega) H1.out),.snoc (HX.out.2.congr fun i hi=>H1.out.2.1 i (by omega)) H2.out⟩
  · have hz:¬(a:Int)+20≤(d.size:Int):=by omega
    have hc:=lH (jaU enc cf OO.out g cb w blk 0 cap a d.size a d.size d dk wr eg HC.out HR.out hsk.symm (by omega) S1.out (by omega) (by omega) rfl rfl d.size hsk.symm);clear S1;go_wp2_with (go_at_call 118;refine hc.out.mono ?_;rintro e w1 ⟨rfl,d1,hE,hP,hS⟩)
    have HB:Hid (PermIn 0 d.size d d1∧Zw (ltOf cf) 20 d.size d1 0) :=
     ⟨permIn_trans _ _ _ _ _ HX.out.1 (permIn_mono _ _ _ _ _ _ (by omega) (by omega) (by omega) hE),(HX.out.2.congr fun i hi=>hE.2.1 i (by omega)).blks ha (.step (by rw[Nat.min_eq_right (by omega)];exact hP) (.done (by omega)))⟩
    have hz1:d1.size=d.size:=by rw[hE.1];exact hsk
    have S2:Aside (SWK enc 11 w blk 0 d1 w1):=hS;clear hE hP hS hc HX hz hlt ha hg1;go_loopg [6,7,8] d.size (fun g2 vs va vb wr2=>∃(s:Nat) (dk:Array α),vs=.int .i64 s∧0<s∧s≤2*d.size+20∧d.size-s≤g2∧dk.size=d.size∧Aside (SWK enc 11 w blk 0 dk wr2)∧Hid (PermIn 0 d.size d dk∧Zw (ltOf cf) s d.size dk 0))
    case atStart=>exact⟨20,d1,rfl,by omega,by omega,by omega,hz1,S2,HB⟩
    case round =>
     clear S2 HB hz1;obtain⟨s,dk,rfl,hs0,hs1,hg2,hsk,S3,HX⟩:=hrel;by_cases hls:s<d.size
     · have hlz:(s:Int)<(d.size:Int):=by omega
       have r2:IntKind.i64.wrap (2*(s:Int))=2*(s:Int):=by rw[IntKind.wrap_i64];omega
       have r2':IntKind.i64.wrap ((s:Int)*2)=(s:Int)*2:=by rw[IntKind.wrap_i64];omega
       go_wp2_with fail
       go_loopg [7,8] d.size (fun g3 va vb wr3=>∃(a:Nat) (dj:Array α),va=.int .i64 a∧vb=.int .i64 ((a:Int)+2*(s:Int))∧a≤d.size∧d.size-a≤g3∧dj.size=d.size∧Aside (SWK enc 11 w blk 0 dj wr3)∧Hid (PermIn 0 d.size d dj∧YJ (ltOf cf) (2*s) dj a∧Zw (ltOf cf) s d.size dj a))
       case atStart=>exact⟨0,dk,by first | rfl | go_num,by first | rfl | go_num | (congr 1;omega),by omega,by omega,hsk,S3,HX.out.1,.zero,HX.out.2⟩
       case round =>
        clear S3 HX hsk;obtain⟨a,dj,rfl,rfl,ha,hg3,hsk,S4,HY⟩:=hrel;have r3:IntKind.i64.wrap ((a:Int)+(s:Int))=(a:Int)+(s:Int):=by rw[IntKind.wrap_i64];omega
        have r4:IntKind.i64.wrap ((a:Int)+2*(s:Int)+2*(s:Int))=(a:Int)+2*(s:Int)+2*(s:Int):=by rw[IntKind.wrap_i64];omega
        by_cases hlt:a+2*s≤d.size
        · have hz:(a:Int)+2*(s:Int)≤(d.size:Int):=by omega
          obtain⟨p1,p2⟩:=HY.out.2.2.head (by omega);obtain⟨p3,p4⟩:=p2.head (by omega);rw[Nat.min_eq_left (by omega)] at p1;rw[Nat.min_eq_left (by omega)] at p3;have hc:=lH (jav jii enc cf OO.out g cb w blk 0 cap a (a+s) (a+2*s) a ((a:Int)+s) ((a:Int)+2*s) d dj wr eg HC.out HR.out hsk.symm (by omega) S4.out (by omega) (by omega) (by omega) rfl (by omega) (by omega) p1 (by rw[show a+2*s=a+s+s from by omega];exact p3) d.size hsk.symm);have H4:Hid (Zw (ltOf cf) s d.size dj (a+2*s)):=by rw[show a+2*s=a+s+s from by omega];exact p4
          clear S4 p1 p2 p3 p4;go_wp2_with (go_at_call 119;refine hc.out.mono ?_;rintro e w2 ⟨rfl,d2,hE,hP,hS⟩)
          have H1:Hid (PermIn a (a+2*s) dj d2):=hE;have H2:Hid (SortedIn (ltOf cf) a (a+2*s) d2):=hP;have S5:Aside (SWK enc 11 w blk 0 d2 w2):=hS;clear hE hP hS hc;go_roundg (d.size-(a+2*s))
          case measure=>omega
          case rel=>exact⟨a+2*s,d2,by first | rfl | go_num | (congr 1;omega),by first | rfl | go_num | (congr 1;omega),by omega,Nat.le_refl _,by rw[H1.out.1];exact hsk,S5,permIn_trans _ _ _ _ _ HY.out.1 (permIn_mono _ _ _ _ _ _ (by omega) (by omega) (by omega) H1.out),.snoc (HY.out.2.1.congr fun i hi=>H1.out.2.1 i (by omega)) H2.out,H4.out.congr fun i h1 h2=>H1.out.2.1 i (by omega)⟩
        · have hz:¬(a:Int)+2*(s:Int)≤(d.size:Int):=by omega
          by_cases hm:a+s<d.size
          · have hmz:(a:Int)+(s:Int)<(d.size:Int):=by omega
            obtain⟨p1,p2⟩:=HY.out.2.2.head (by omega);obtain⟨p3,p4⟩:=p2.head hm;rw[Nat.min_eq_left (by omega)] at p1;rw[Nat.min_eq_right (by omega)] at p3;have hc:=lH (jav jii enc cf OO.out g cb w blk 0 cap a (a+s) d.size a ((a:Int)+s) d.size d dj wr eg HC.out HR.out hsk.symm (by omega) S4.out (by omega) (by omega) (by omega) rfl (by omega) rfl p1 p3 d.size hsk.symm);clear S4 p1 p2 p3 p4;go_wp2_with (go_at_call 119;refine hc.out.mono ?_;rintro e w2 ⟨rfl,d2,hE,hP,hS⟩)
            have HB:Hid (PermIn 0 d.size d d2∧Zw (ltOf cf) (2*s) d.size d2 0) :=
             ⟨permIn_trans _ _ _ _ _ HY.out.1 (permIn_mono _ _ _ _ _ _ (by omega) (by omega) (by omega) hE),(HY.out.2.1.congr fun i hi=>hE.2.1 i (by omega)).blks ha (.step (by rw[Nat.min_eq_right (by omega)];exact hP) (.done (by omega)))⟩
            have hz1:d2.size=d.size:=by rw[hE.1];exact hsk
            have S5:Aside (SWK enc 11 w blk 0 d2 w2):=hS;clear hE hP hS hc HY;go_roundg (d.size-2*s)
            case measure=>omega
            case rel=>exact⟨2*s,d2,by first | rfl | go_num | (congr 1;omega),by omega,by omega,Nat.le_refl _,hz1,S5,HB⟩
          · have hmz:¬(a:Int)+(s:Int)<(d.size:Int):=by omega
            have HB:Hid (PermIn 0 d.size d dj∧Zw (ltOf cf) (2*s) d.size dj 0) :=
             ⟨HY.out.1,HY.out.2.1.blks ha (by
              rcases Nat.lt_or_ge a d.size with q | q
              · obtain⟨p1,p2⟩:=HY.out.2.2.head q;rw[Nat.min_eq_right (by omega)] at p1;exact .step (by rw[Nat.min_eq_right (by omega)];exact p1) (.done (by omega))
              · exact .done q)⟩
            clear HY;go_wp2_with fail
            go_roundg (d.size-2*s)
            case measure=>omega
            case rel=>exact⟨2*s,dj,by first | rfl | go_num | (congr 1;omega),by omega,by omega,Nat.le_refl _,hsk,S4,HB⟩
     · have hlz:¬(s:Int)<(d.size:Int):=by omega
       have HF:Hid (SortedIn (ltOf cf) 0 d.size dk):=by
        rcases Nat.eq_zero_or_pos d.size with q | q
        · intro i j h1 h2 h3;omega
        · obtain⟨p1,-⟩:=HX.out.2.head q;rw[Nat.min_eq_right (by omega)] at p1;exact p1
       go_wp2_with fail
       go_end0
       exact⟨rfl,dk,HX.out.1,HF.out,S3.out⟩
end Go.Proofs.YtibepooajeakfaaGreat
namespace Go.Proofs.YtibepooajeakfaaGreat
open Go.RowKit Go.Shelf Go.Lib Go.Sort
instance:Inhabited Pd:=⟨Pd.zero⟩
theorem jiB (n m:Pd) (v1 v2 v3 v4 u1 u2 u3 u4:Value) (w:World) :
 Calls Tryz.prog 33 #[jw n v1 v2 v3 v4,jw m u1 u2 u3 u4] w fun e w'=>e=.returned (.int .i64 (YK n m))∧Grw w w':=by
 obtain⟨W0,hW0⟩:=eX ((w.alloc (.cells #[.string n.name,.string n.owner,.int .i64 n.prio,v1,v2,v3,v4,.string n.key,.int .i64 n.most,.string n.node,.bool n.hold] 52)).alloc (.cells #[.string m.name,.string m.owner,.int .i64 m.prio,u1,u2,u3,u4,.string m.key,.int .i64 m.most,.string m.node,.bool m.hold] 52))
 have hk0:Kept w W0:=by rw[←hW0];exact jm _ _ _
 have HC:=lH (show ∀W,Kept W0 W→W.cell? ⟨w.heap.size,0,none⟩=some (.string n.name)∧W.cell? ⟨w.heap.size,2,none⟩=some (.int .i64 n.prio)∧W.cell? ⟨w.heap.size+1,0,none⟩=some (.string m.name)∧W.cell? ⟨w.heap.size+1,2,none⟩=some (.int .i64 m.prio) from fun W k=>by
  have c:=jb w (.string n.name) [.string n.owner,.int .i64 n.prio,v1,v2,v3,v4,.string n.key,.int .i64 n.most,.string n.node,.bool n.hold] 52 W (by rw[←hW0] at k;exact(ja _ _).trans k);have d:=jb (w.alloc (.cells #[.string n.name,.string n.owner,.int .i64 n.prio,v1,v2,v3,v4,.string n.key,.int .i64 n.most,.string n.node,.bool n.hold] 52)) (.string m.name) [.string m.owner,.int .i64 m.prio,u1,u2,u3,u4,.string m.key,.int .i64 m.most,.string m.node,.bool m.hold] 52 W (by rw[hW0];exact k);rw[World.size_alloc] at d;exact⟨c.at_ 0 _ rfl,c.at_ 2 _ rfl,d.at_ 0 _ rfl,d.at_ 2 _ rfl⟩)
 have EI:=lH (fun W=>jer m.prio n.prio W);have ES:=lH (fun W=>je6 n.name m.name W);obtain⟨x,hx⟩:=eX (JW m.prio n.prio)
 obtain⟨y,hy⟩:=eX (ZW n.name m.name)
 rw[hx] at EI;rw[hy] at ES;have HV:=lH (show YK n m=orL [x,y] by
  unfold YK;rw[hx,hy];show _=if x≠0 then x else if y≠0 then y else 0
  by_cases z:y=0
  · subst z;simp
  · rw[if_pos z])
 have UJ:=lH (show Calls Tryz.prog 71 #[.slice (some ⟨W0.heap.size,0,none⟩) 2 2] (W0.drew.alloc (.cells #[.int .i64 x,.int .i64 y] 3)) _ from jgN W0.heap.size 2 [x,y] _ rfl (by decide) (jkN W0.drew x y 3));have Vd:=lH (show Grw w W0 by rw[←hW0];exact(Grw.alloc _ _).trans (Grw.alloc _ _));clear hx hy hk0;obtain⟨c0,c1,c2,c3⟩:=HC.out _ (Kept.refl _);unfold jw;go_enter Tryz.func33,Tryz.ntmps33;go_wp2;try rw[hW0]
 clear hW0
 go_region_held3 (fun W=>W.cell? ⟨w.heap.size,0,none⟩=some (.string n.name)∧W.cell? ⟨w.heap.size,2,none⟩=some (.int .i64 n.prio)∧W.cell? ⟨w.heap.size+1,0,none⟩=some (.string m.name)∧W.cell? ⟨w.heap.size+1,2,none⟩=some (.int .i64 m.prio))
  (first | exact HC.out _ (Kept.drew _) | exact HC.out _ ((Kept.drew _).trans (ja _ _)))
  (first | (go_at_call 72;refine(EI.out _).mono ?_;rintro e1 w1 ⟨rfl,rfl⟩)
         | (go_at_call 73;refine(ES.out _).mono ?_;rintro e2 w2 ⟨rfl,rfl⟩)
         | (go_at_call 71;refine UJ.out.mono ?_;rintro e3 w3 ⟨rfl,rfl⟩))
 go_wp2;go_ret;exact⟨jc HV.out.symm,Vd.out.trans ((Grw.drewN _ 1).trans (Grw.alloc _ _))⟩
theorem jfD:∀args w,(callFunc 33 args).run Tryz.prog w=.ok (.enter 33 args) w:=enters_of Tryz.func33 (by kernel_rfl) rfl
def cfP (x y:PX):Int:=YK x.1 y.1
theorem jjn (blk size:Nat) (w:World):CmpLays Tryz.prog 33 #[] PodLay0.cs 11 cfP blk 0 size w:=fun m os dk hs x y =>
 jiB x.1 y.1 (slV x.2.1) (slV x.2.2.1) (slV x.2.2.2.1) (slV x.2.2.2.2) (slV y.2.1) (slV y.2.2.1) (slV y.2.2.2.1) (slV y.2.2.2.2) _
theorem jlJ:SWO (ltOf cfP) where
 irrefl x:=qL x.1
 trans x y z h1 h2:=Xp (x:=x.1) (y:=y.1) (z:=z.1) h1 h2
 ntrans x y z h1 h2:=qR (x:=x.1) (y:=y.1) (z:=z.1) h1 h2
theorem jdQ (zs:List PX) (t:Nat) (h:t<zs.length*11):∃u,(jd PodLay0 zs)[t]?=some u∧(flatK PodLay0.cs 11 zs.toArray)[t]! = u:=by
 have h3:t / 11<zs.length:=by omega
 have h4:t % 11<(PodLay0.cs zs[t / 11]).length:=by show t % 11<11;omega
 have e2:=ZM PodLay0 zs (t / 11) zs[t / 11] (t % 11) ((PodLay0.cs zs[t / 11])[t % 11]'h4) (List.getElem?_eq_getElem h3) (List.getElem?_eq_getElem h4);rw[show t / 11*PodLay0.m+t % 11=t from by show t / 11*11+t % 11=t;omega] at e2;refine⟨_,e2,?_⟩;rw[get_flatK _ _ _ _ (by simpa using h),getElem!_pos zs.toArray (t / 11) (by simpa using h3)];simp only[List.getElem_toArray];rw[getElem!_pos (PodLay0.cs zs[t / 11]) (t % 11) h4]
theorem jh6 {W:World} {T:TypeId} {base g n cap:Nat} {zs:List PX} (h:Own PodLay0 T W base (.slice (some ⟨g,0,none⟩) n cap) zs):HoldsK PodLay0.cs 11 W g 0 zs.toArray:=fun t htl=>by
 have htl2:t<zs.length*11:=by simpa using htl
 obtain⟨u,h1,h2⟩:=jdQ zs t htl2;have hn:n=zs.length:=by obtain⟨a,c,e,_⟩:=h.at_;cases e;rfl
 refine⟨?_,h.frozen_at _⟩;rw[h2,Nat.zero_add];subst hn;rw[h.1.cellAt t htl2];exact h1
theorem jhJ {w:World} {B g n cap m:Nat} {lx ly:List PX} {os:Array Obj} (ho:Own PodLay0 52 w B (.slice (some ⟨g,0,none⟩) n cap) lx) (hl:ly.length=lx.length):Own PodLay0 52 (sortWorldK PodLay0.cs 11 w g 0 m ly.toArray os) B (.slice (some ⟨g,0,none⟩) n cap) ly:=by
 have hn9:n=lx.length:=by obtain⟨a,c,e,_⟩:=ho.at_;cases e;rfl
 subst hn9;obtain⟨cur,hB,hg,hn,hm,hs,ht,hlen⟩:=Jb ho.1;have hlt:g<w.heap.size:=by
  rcases Nat.lt_or_ge g w.heap.size with h | h
  · exact h
  · rw[Array.getElem?_eq_none h] at hg;cases hg
 have h1:(sortWorldK PodLay0.cs 11 w g 0 m ly.toArray os).heap[g]?=some (.cells (putCells id 0 (flatK PodLay0.cs 11 ly.toArray) cur) 52 (0,0)):=by
  unfold sortWorldK putRowK putRow;have e0:((mapBlock (Sort.ahead w m) g (putCells id 0 (flatK PodLay0.cs 11 ly.toArray))).heap)[g]?=some (.cells (putCells id 0 (flatK PodLay0.cs 11 ly.toArray) cur) 52 (0,0)):=by
   unfold mapBlock;have:(Sort.ahead w m).heap[g]?=some (.cells cur 52 (0,0)):=hg;simp only[Array.getElem?_modify,if_true,this,Option.map_some,onCells]
  unfold grow;rw[Array.getElem?_append_left (by
   rcases Nat.lt_or_ge g (mapBlock (Sort.ahead w m) g (putCells id 0 (flatK PodLay0.cs 11 ly.toArray))).heap.size with h | h
   · exact h
   · rw[Array.getElem?_eq_none h] at e0;cases e0)]
  exact e0
 have hl2:(jd PodLay0 ly).length=lx.length*11:=by rw[jS,hl];rfl
 have hown:=X1 (s:=11) (n:=lx.length) (cap:=cap) (xs:=jd PodLay0 ly) hB h1 hn hm (by simp only[putCells,Array.size_mapIdx];exact hs) hl2 (fun j hj=>by
  obtain⟨u,g1,g2⟩:=jdQ ly j (by omega);have hj2:j<cur.size:=by rw[hs];have:=Nat.mul_le_mul_right 11 hn;show j<cap*11;omega
  rw[g1];simp only[putCells,Array.getElem?_mapIdx,Array.getElem?_eq_getElem hj2,Option.map_some];rw[if_pos ⟨Nat.zero_le _,by rw[size_flatK];simp;omega⟩,Nat.sub_zero,g2];rfl)
 refine⟨?_,fun _ _=>trivial⟩;rw[hl];exact hown
theorem jfn (w:World) (g m:Nat) (ly:Array PX) (os:Array Obj):jg (fun b=>b=g) w (sortWorldK PodLay0.cs 11 w g 0 m ly os):=by
 unfold sortWorldK putRowK;have h1:jg (fun b=>b=g) w (putRow id (Sort.ahead w m) g 0 (flatK PodLay0.cs 11 ly)):=by
  refine⟨rfl,rfl,rfl,?_,fun k hk hn=>?_⟩
  · unfold putRow mapBlock;simp[Sort.ahead]
  · unfold putRow mapBlock;simp only[Array.getElem?_modify];rw[if_neg (fun e=>hn e.symm)];rfl
 exact h1.trans (jg.of (Go.Lib.below_grow _ _ (Nat.le_refl _) 0 os))
def jkd (B g n cap:Nat) (lx:List PX) (w:World) (e:Ending) (w':World):Prop:=e=.returned (.tuple #[])∧∃ly:List PX,ly.Perm lx∧(ly.Pairwise fun a b=>zi b.1 a.1=false)∧Own PodLay0 52 w' B (.slice (some ⟨g,0,none⟩) n cap) ly∧jg (fun b=>b=g) w w'
theorem jeS (B g n cap:Nat) (lx:List PX) (w:World) (ho:Own PodLay0 52 w B (.slice (some ⟨g,0,none⟩) n cap) lx) (hn:n<1000000000) :
 Calls Tryz.prog 70 #[.slice (some ⟨g,0,none⟩) n cap,.int .i64 n,.func (.func 33) #[] #[]] w (jkd B g n cap lx w):=by
 have hn9:n=lx.length:=by obtain⟨a,c,e,_⟩:=ho.at_;cases e;rfl
 subst hn9;have h:=jko PodLay0.cs cfP jlJ 33 #[] w g cap lx.toArray jfD (jjn _ _ _) ⟨PodLay0.len,PodLay0.one,jh6 ho,(Jy ho g rfl).2⟩ (by simpa using hn);simp only[List.size_toArray] at h;refine h.mono ?_;rintro e w' ⟨rfl,d',hp,hs,m,os,rfl⟩;have hsz:d'.size=lx.length:=by simpa using hp.1
 have hperm:d'.toList.Perm lx:=by
  have:=hp.2.2;simp only[Array.toList_extract,List.extract_eq_take_drop,List.drop_zero,Nat.sub_zero] at this;rw[List.take_of_length_le (by simp;omega),List.take_of_length_le (by simp)] at this;exact this
 refine⟨rfl,d'.toList,hperm,?_,?_,?_⟩
 · rw[List.pairwise_iff_getElem];intro i j hi hj hij;have h2:=hs i j (Nat.zero_le _) hij (by have q:=hj;simp only[Array.length_toList] at q;simp only[List.size_toArray];omega);rw[getElem!_pos d' j (by simpa using hj),getElem!_pos d' i (by simpa using hi)] at h2;simp only[Array.getElem_toList];exact h2
 · have:=jhJ (m:=m) (os:=os) (ly:=d'.toList) ho (by simpa using hsz);simpa using this
 · have:=jfn w g m d' os;simpa using this
theorem jho (B g n cap:Nat) (lx:List PX) (w:World) (ho:Own PodLay0 52 w B (.slice (some ⟨g,0,none⟩) n cap) lx) (hn:n<1000000000) :
 Calls Tryz.prog 32 #[.slice (some ⟨g,0,none⟩) n cap,.func (.func 33) #[] #[]] w (jkd B g n cap lx w):=by
 have HC:=lH (jeS B g n cap lx w ho hn);clear ho hn;unfold jkd at HC ⊢;go_enter Tryz.func32,Tryz.ntmps32;go_wp2_with fail
 refine HC.out.mono ?_;rintro e w1 ⟨rfl,d',hp⟩;have HP:=lH hp;clear hp;go_wp2_with fail
 go_end0
 exact⟨rfl,d',HP.out⟩
theorem jdt (w:World):Calls Tryz.prog 70 #[.slice none 0 0,.int .i64 0,.func (.func 33) #[] #[]] w
 fun e w'=>e=.returned (.tuple #[])∧w=w':=by
 have hi:Calls Tryz.prog 118 #[.slice none 0 0,.int .i64 0,.int .i64 0,.func (.func 33) #[] #[]] w fun e w'=>e=.returned (.tuple #[])∧w=w':=by
  go_enter Tryz.func118,Tryz.ntmps118;go_wp2;refine wp_loop_rounds 1 ?_;rw[rounds_succ];go_wp2;go_end0
  exact⟨rfl,rfl⟩
 go_enter Tryz.func70,Tryz.ntmps70;go_wp2;refine wp_loop_rounds 1 ?_;rw[rounds_succ];go_wp2_with fail
 refine hi.mono ?_;rintro e w1 ⟨rfl,rfl⟩;go_wp2_with fail
 refine wp_loop_rounds 1 ?_;rw[rounds_succ];go_wp2;go_end0
 exact⟨rfl,rfl⟩
theorem jfS (w:World):Calls Tryz.prog 32 #[.slice none 0 0,.func (.func 33) #[] #[]] w
 fun e w'=>e=.returned (.tuple #[])∧w=w':=by
 have HC:=lH (jdt w);go_enter Tryz.func32,Tryz.ntmps32;go_wp2_with fail
 refine HC.out.mono ?_;rintro e w1 ⟨rfl,rfl⟩;go_wp2_with fail
 go_end0
 exact⟨rfl,rfl⟩
end Go.Proofs.YtibepooajeakfaaGreat
