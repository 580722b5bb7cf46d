/- C. -/
import Derived.Test.YtmlgobiifebjkabGreatG0
import Derived.Test.YtmlgobiifebjkabGreatG1
import Derived.Test.YtmlgobiifebjkabGreatG2
import Derived.Test.YtmlgobiifebjkabGreatG3
import Derived.Test.YtmlgobiifebjkabGreatG4
import Derived.Test.YtmlgobiifebjkabGreatG5
import Derived.Shelf.Spec.SlicesInsert
set_option linter.unusedVariables false
set_option maxRecDepth 100000
set_option maxHeartbeats 25600000
namespace Go.Proofs.YtmlgobiifebjkabGreat
open Go.RowKit
structure Z0 {X A:Type} (L:Lay X) (T:TypeId) (At:World→X→Prop) (fst:X→A) (B g len c k:Nat) (l:List A) (w wr:World) (lx:List X):Prop where
 own:Own L T wr B (.slice (some ⟨g,0,none⟩) len c) lx
 map:lx.map fst=l
 done:∀j z,lx[j]?=some z→j<k→Off (fun b=>b<B∨b=g) wr fun u=>At u z
 todo:∀j z,lx[j]?=some z→k≤j→Off (fun b=>B≤b) wr fun u=>At u z
 kept:Below B w wr
theorem Z0.start {X A:Type} {L:Lay X} {T:TypeId} {At:World→X→Prop} {fst:X→A} {g len c:Nat} {l:List A} {w wr:World} {lx:List X} (ho:Own L T wr w.heap.size (.slice (some ⟨g,0,none⟩) len c) lx) (hm:lx.map fst=l) (hk:Kept w wr) (hat:∀z ∈ lx,∀u,Kept w u→At u z) :
 Z0 L T At fst w.heap.size g len c 0 l w wr lx :=
 ⟨ho,hm,fun j z _ h=>absurd h (Nat.not_lt_zero _),fun j z hz _=>Off.of (hat z (List.mem_of_getElem? hz)) hk fun i h=>h,hk⟩
theorem Z0.next {X A:Type} {L:Lay X} {T:TypeId} {At:World→X→Prop} {fst:X→A} {B g len c k:Nat} {l:List A} {w wr w1:World} {lx:List X} {z z':X} (h:Z0 L T At fst B g len c k l w wr lx) (hz:lx[k]?=some z) (hf:fst z'=fst z) (hfine:L.fine z') (hk:Kept wr w1) (hB:B≤wr.heap.size)
 (hat:Off (fun b=>b<B∨b=g) w1 fun u=>At u z'):Z0 L T At fst B g len c (k+1) l w (w1.setCells g (k*L.m) (L.cs z')) (lx.set k z'):=by
 have hl:k<lx.length:=(List.getElem?_eq_some_iff.1 hz).1;have hg:=Z6 h.own g rfl;refine⟨(h.own.kept hk).Zi hl z' hfine,?_,fun j y hy hj=>?_,fun j y hy hj=>?_,jo g _ _ _ B w hg.1 (h.kept.trans (Below.mono hk hB))⟩
 · rw[←h.map];apply List.ext_getElem?;intro i;rw[List.getElem?_map,List.getElem?_map];by_cases e:k=i
   · subst e;rw[List.getElem?_set_self hl,hz];simp[hf]
   · rw[List.getElem?_set_ne e]
 · have gc:jq (fun b=>b<B∨b=g) w1 (w1.setCells g (k*L.m) (L.cs z')):=jq.cells (S:=fun b=>b<B∨b=g) g (.inr rfl) _ _ _;by_cases e:k=j
   · subst e;rw[List.getElem?_set_self hl] at hy;obtain rfl:=Option.some.inj hy;exact hat.step gc
   · rw[List.getElem?_set_ne e] at hy;exact((h.done j y hy (by omega)).step (jq.of hk)).step gc
 · have gc:jq (fun b=>B≤b) w1 (w1.setCells g (k*L.m) (L.cs z')):=jq.cells (S:=fun b=>B≤b) g hg.1 _ _ _;rw[List.getElem?_set_ne (by omega)] at hy;exact((h.todo j y hy (by omega)).step (jq.of hk)).step gc
theorem Z0.deep {X A:Type} {L:Lay X} {T:TypeId} {At:World→X→Prop} {fst:X→A} {B g len c k:Nat} {l:List A} {w wr:World} {lx:List X} (h:Z0 L T At fst B g len c k l w wr lx) (hk:lx.length≤k):Deep L T At wr B (.slice (some ⟨g,0,none⟩) len c) lx∧∀z ∈ lx,Off (fun b=>b<B∨b=g) wr fun u=>At u z:=by
 have key:∀z ∈ lx,Off (fun b=>b<B∨b=g) wr fun u=>At u z:=fun z hz=>by
  obtain⟨j,hj,e⟩:=List.getElem_of_mem hz;exact h.done j z (by rw[List.getElem?_eq_getElem hj,e]) (by omega)
 exact⟨⟨h.own,fun z hz=>(key z hz).less fun b e=>.inr (Option.some.inj e).symm⟩,key⟩
def ZG {X:Type} (L:Lay X) (T:TypeId) (At:World→X→Prop) (B:Nat) (w:World) (v:Value) (lx:List X):Prop:=(∃a n c,v=.slice a n c)∧Deep L T At w B v lx∧∀z ∈ lx,Off (fun b=>b<B∨v.ownBlock=some b) w fun u=>At u z
theorem jjq (a:Option Addr) (len cap:Nat) (l:List Nod) (w:World) (hr:jE w a len l) (hc:len≤cap) (hm:cap≤maxLen) (hn:len≤100000) (hlow:∀n ∈ l,Jk n) :
 Calls Tryz.prog 156 #[.slice a len cap,.func (.func 157) #[] #[]] w fun e w'=>∃v lx,e=.returned v∧(lx.map fun z=>z.1)=l∧ZG zD 71 At3 w.heap.size w' v lx∧Kept w w':=by
 obtain⟨lx0,hmap,hrx,hat0⟩:=jcX hr;have HC:=lH (jdM a len cap lx0 w hrx hc hm hn);have VF:=lH hlow;have Uu:=lH hmap;have U6:=lH hat0;have RM:=lH hrx.1;clear hr hmap hrx hat0 hlow hc hm;go_enter Tryz.func156,Tryz.ntmps156;go_wp2_with fail
 refine HC.out.mono ?_;rintro e w1 ⟨hres,hk⟩;have K0:=lH hk;rcases hres with ⟨rfl,h0⟩ | ⟨g,c,rfl,ho⟩
 · have HE:=lH (show l=[] by rw[←Uu.out,h0];rfl);clear h0 hk;go_wp2;refine wp_loop_rounds 1 ?_;rw[rounds_succ];go_wp2;go_ret;exact⟨_,[],rfl,HE.out.symm,⟨⟨_,_,_,rfl⟩,⟨Own.nil _ _ _,fun z h=>by cases h⟩,fun z h=>by cases h⟩,K0.out⟩
 · have HI:=lH (Z0.start (At:=At3) (fst:=(fun z=>z.1)) ho Uu.out hk fun z hz u k=>zp.kept (U6.out z hz) k);clear ho hk;go_wp2;go_loopw [12] (fun i wr=>∃(k:Nat) (lx:List NX),k≤len∧i=.int .i64 k∧lx.length=len∧Z0 zD 71 At3 (fun z=>z.1) w.heap.size g len c k l w wr lx) (fun i _=>len-(intOf i).toNat)
   case atStart=>exact⟨0,lx0,Nat.zero_le _,rfl,RM.out,HI.out⟩
   case round =>
    obtain⟨k,lx,hk,rfl,hlen,hinv⟩:=hrel;have HV:=lH hinv;have Vi:=lH hlen;by_cases hlt:k<len
    · obtain⟨z,hz⟩:∃z,lx[k]?=some z:=⟨_,List.getElem?_eq_getElem (by omega)⟩
      obtain⟨n,⟨b1,n1,d1⟩,⟨b2,n2,d2⟩,⟨b3,n3,d3⟩⟩:=z;have p0:wr.cell? ⟨g,k*5,none⟩=some (.string n.name):=hinv.own.cell_at hz (j:=0) rfl;have p1:wr.cell? ⟨g,k*5+1,none⟩=some (.slice b1 n1 d1):=hinv.own.cell_at hz (j:=1) rfl;have p2:wr.cell? ⟨g,k*5+2,none⟩=some (.slice b2 n2 d2):=hinv.own.cell_at hz (j:=2) rfl;have p3:wr.cell? ⟨g,k*5+3,none⟩=some (.slice b3 n3 d3):=hinv.own.cell_at hz (j:=3) rfl;have p4:wr.cell? ⟨g,k*5+4,none⟩=some (.bool n.cordon):=hinv.own.cell_at hz (j:=4) rfl;have HZ:=lH hz;have HN:=lH (show n ∈ l by rw[←hinv.map];exact List.mem_map.2 ⟨_,List.mem_of_getElem? hz,rfl⟩);have HA:=lH ((hinv.todo k _ hz (Nat.le_refl _)).here);have VD:=lH hinv.kept.size;have hkk:(k:Int)<(len:Int):=by omega
      have RN:=lH (Z6 hinv.own g rfl);have HO:=lH (jdP n b1 b2 b3 n1 d1 n2 d2 n3 d3 _ (zp.kept HA.out (ja wr (.cells #[.string n.name,.slice b1 n1 d1,.slice b2 n2 d2,.slice b3 n3 d3,.bool n.cordon] 71))) (VF.out n HN.out));clear hz hlen hinv;go_wp2_with fail
      refine HO.out.mono ?_;rintro e w2 ⟨v,rfl,hv,kk⟩;have KW:=lH ((ja wr (.cells #[.string n.name,.slice b1 n1 d1,.slice b2 n2 d2,.slice b3 n3 d3,.bool n.cordon] 71)).trans kk);obtain⟨x1,y1,e1,x2,y2,e2,x3,y3,e3,rfl,s0,s1,s2,s3,g1,g2,g3⟩:=hv;have VM:=lH (show Off (fun b=>b<w.heap.size∨b=g) w2 fun u=>At3 u (n,(x1,y1,e1),(x2,y2,e2),(x3,y3,e3)) from zp.off (B:=wr.heap.size+1) ⟨s0,s1,s2,s3⟩ (by simpa [zh] using g1) (by simpa [zh] using g2) (by simpa [zh] using g3) (fun b hb h=>by have:=RN.out;have:=VD.out;rcases h with h | h<;>omega));clear s0 s1 s2 s3 g1 g2 g3 kk;have q0:=cell_later KW.out p0;have q1:=cell_later KW.out p1;have q2:=cell_later KW.out p2;have q3:=cell_later KW.out p3;have q4:=cell_later KW.out p4;have x0f:w2.frozen? ⟨g,k*5,none⟩=false:=(HV.out.own.kept KW.out).frozen_at _;have x1f:w2.frozen? ⟨g,k*5+1,none⟩=false:=(HV.out.own.kept KW.out).frozen_at _;have x2f:w2.frozen? ⟨g,k*5+2,none⟩=false:=(HV.out.own.kept KW.out).frozen_at _;have x3f:w2.frozen? ⟨g,k*5+3,none⟩=false:=(HV.out.own.kept KW.out).frozen_at _;have x4f:w2.frozen? ⟨g,k*5+4,none⟩=false:=(HV.out.own.kept KW.out).frozen_at _;clear p0 p1 p2 p3 p4;have V3:=lH (HV.out.next (z':=(n,(x1,y1,e1),(x2,y2,e2),(x3,y3,e3))) HZ.out rfl trivial KW.out VD.out VM.out);go_wp2;obtain⟨WE,hWE⟩:∃W,w2.setCells g (k*5) [.string n.name,.slice x1 y1 e1,.slice x2 y2 e2,.slice x3 y3 e3,.bool n.cordon]=W:=⟨_,rfl⟩
      have hWE2:(((((w2.setCell ⟨g,k*5,none⟩ (.string n.name)).setCell ⟨g,k*5+1,none⟩ (.slice x1 y1 e1)).setCell ⟨g,k*5+2,none⟩ (.slice x2 y2 e2)).setCell ⟨g,k*5+3,none⟩ (.slice x3 y3 e3)).setCell ⟨g,k*5+4,none⟩ (.bool n.cordon))=WE:=hWE;have V3:=lH (show Z0 zD 71 At3 (fun z=>z.1) w.heap.size g len c (k+1) l w WE (lx.set k (n,(x1,y1,e1),(x2,y2,e2),(x3,y3,e3))) by rw[←hWE];exact V3.out);try rw[hWE2]
      clear hWE hWE2 q0 q1 q2 q3 q4 x0f x1f x2f x3f x4f;go_roundw
      case rel=>exact⟨k+1,_,by omega,by go_num,by rw[List.length_set];exact Vi.out,V3.out⟩
      case measure=>simp[intOf];omega
    · have HD:=lH (hinv.deep (by omega));have VX:=lH hinv.kept;have Rl:=lH hinv.map;clear hinv hlen;go_wp2;go_ret;exact⟨_,lx,rfl,Rl.out,⟨⟨_,_,_,rfl⟩,HD.out.1,fun z hz=>(HD.out.2 z hz).less fun b h=>h.imp id fun e=>(Option.some.inj e).symm⟩,VX.out⟩
theorem jid (a:Option Addr) (len cap:Nat) (l:List Pd) (w:World) (hr:jN w a len l) (hc:len≤cap) (hm:cap≤maxLen) (hn:len≤100000) (hlow:∀n ∈ l,Ju n) :
 Calls Tryz.prog 158 #[.slice a len cap,.func (.func 104) #[] #[]] w fun e w'=>∃v lx,e=.returned v∧(lx.map fun z=>z.1)=l∧ZG jg 35 At4 w.heap.size w' v lx∧Kept w w':=by
 obtain⟨lx0,hmap,hrx,hat0⟩:=jcY hr;have HC:=lH (jdQ a len cap lx0 w hrx hc hm hn);have VF:=lH hlow;have Uu:=lH hmap;have U6:=lH hat0;have RM:=lH hrx.1;clear hr hmap hrx hat0 hlow hc hm;go_enter Tryz.func158,Tryz.ntmps158;go_wp2_with fail
 refine HC.out.mono ?_;rintro e w1 ⟨hres,hk⟩;have K0:=lH hk;rcases hres with ⟨rfl,h0⟩ | ⟨g,c,rfl,ho⟩
 · have HE:=lH (show l=[] by rw[←Uu.out,h0];rfl);clear h0 hk;go_wp2;refine wp_loop_rounds 1 ?_;rw[rounds_succ];go_wp2;go_ret;exact⟨_,[],rfl,HE.out.symm,⟨⟨_,_,_,rfl⟩,⟨Own.nil _ _ _,fun z h=>by cases h⟩,fun z h=>by cases h⟩,K0.out⟩
 · have HI:=lH (Z0.start (At:=At4) (fst:=(fun z=>z.1)) ho Uu.out hk fun z hz u k=>js.kept (U6.out z hz) k);clear ho hk;go_wp2;go_loopw [12] (fun i wr=>∃(k:Nat) (lx:List PX),k≤len∧i=.int .i64 k∧lx.length=len∧Z0 jg 35 At4 (fun z=>z.1) w.heap.size g len c k l w wr lx) (fun i _=>len-(intOf i).toNat)
   case atStart=>exact⟨0,lx0,Nat.zero_le _,rfl,RM.out,HI.out⟩
   case round =>
    obtain⟨k,lx,hk,rfl,hlen,hinv⟩:=hrel;have HV:=lH hinv;have Vi:=lH hlen;by_cases hlt:k<len
    · obtain⟨z,hz⟩:∃z,lx[k]?=some z:=⟨_,List.getElem?_eq_getElem (by omega)⟩
      obtain⟨n,⟨b1,n1,d1⟩,⟨b2,n2,d2⟩,⟨b3,n3,d3⟩,⟨b4,n4,d4⟩⟩:=z;have p0:wr.cell? ⟨g,k*11,none⟩=some (.string n.name):=hinv.own.cell_at hz (j:=0) rfl;have p1:wr.cell? ⟨g,k*11+1,none⟩=some (.string n.owner):=hinv.own.cell_at hz (j:=1) rfl;have p2:wr.cell? ⟨g,k*11+2,none⟩=some (.int .i64 n.prio):=hinv.own.cell_at hz (j:=2) rfl;have p3:wr.cell? ⟨g,k*11+3,none⟩=some (.slice b1 n1 d1):=hinv.own.cell_at hz (j:=3) rfl;have p4:wr.cell? ⟨g,k*11+4,none⟩=some (.slice b2 n2 d2):=hinv.own.cell_at hz (j:=4) rfl;have p5:wr.cell? ⟨g,k*11+5,none⟩=some (.slice b3 n3 d3):=hinv.own.cell_at hz (j:=5) rfl;have p6:wr.cell? ⟨g,k*11+6,none⟩=some (.slice b4 n4 d4):=hinv.own.cell_at hz (j:=6) rfl;have p7:wr.cell? ⟨g,k*11+7,none⟩=some (.string n.key):=hinv.own.cell_at hz (j:=7) rfl;have p8:wr.cell? ⟨g,k*11+8,none⟩=some (.int .i64 n.most):=hinv.own.cell_at hz (j:=8) rfl;have p9:wr.cell? ⟨g,k*11+9,none⟩=some (.string n.node):=hinv.own.cell_at hz (j:=9) rfl;have p10:wr.cell? ⟨g,k*11+10,none⟩=some (.bool n.hold):=hinv.own.cell_at hz (j:=10) rfl;have HZ:=lH hz;have HN:=lH (show n ∈ l by rw[←hinv.map];exact List.mem_map.2 ⟨_,List.mem_of_getElem? hz,rfl⟩);have HA:=lH ((hinv.todo k _ hz (Nat.le_refl _)).here);have VD:=lH hinv.kept.size;have hkk:(k:Int)<(len:Int):=by omega
      have RN:=lH (Z6 hinv.own g rfl);have HO:=lH (Zg n (.slice b1 n1 d1) (.slice b2 n2 d2) (.slice b3 n3 d3) (.slice b4 n4 d4) _ (js.kept HA.out (ja wr (.cells #[.string n.name,.string n.owner,.int .i64 n.prio,.slice b1 n1 d1,.slice b2 n2 d2,.slice b3 n3 d3,.slice b4 n4 d4,.string n.key,.int .i64 n.most,.string n.node,.bool n.hold] 35))) (VF.out n HN.out));unfold jr at HO;clear hz hlen hinv;go_wp2_with fail
      refine HO.out.mono ?_;rintro e w2 ⟨v,rfl,hv,kk⟩;have KW:=lH ((ja wr (.cells #[.string n.name,.string n.owner,.int .i64 n.prio,.slice b1 n1 d1,.slice b2 n2 d2,.slice b3 n3 d3,.slice b4 n4 d4,.string n.key,.int .i64 n.most,.string n.node,.bool n.hold] 35)).trans kk);obtain⟨x1,y1,e1,x2,y2,e2,x3,y3,e3,x4,y4,e4,hv9,s0,g1,g2,g3,g4⟩:=hv;rw[World.size_alloc] at g1 g2 g3 g4;have hv9:v=.agg #[.string n.name,.string n.owner,.int .i64 n.prio,.slice x1 y1 e1,.slice x2 y2 e2,.slice x3 y3 e3,.slice x4 y4 e4,.string n.key,.int .i64 n.most,.string n.node,.bool n.hold]:=hv9;subst hv9;have VM:=lH (show Off (fun b=>b<w.heap.size∨b=g) w2 fun u=>At4 u (n,(x1,y1,e1),(x2,y2,e2),(x3,y3,e3),(x4,y4,e4)) from js.off (B:=wr.heap.size+1) s0 g1 g2 g3 g4 (fun b hb h=>by have:=RN.out;have:=VD.out;rcases h with h | h<;>omega));clear s0 g1 g2 g3 g4 kk;have q0:=cell_later KW.out p0;have q1:=cell_later KW.out p1;have q2:=cell_later KW.out p2;have q3:=cell_later KW.out p3;have q4:=cell_later KW.out p4;have q5:=cell_later KW.out p5;have q6:=cell_later KW.out p6;have q7:=cell_later KW.out p7;have q8:=cell_later KW.out p8;have q9:=cell_later KW.out p9;have q10:=cell_later KW.out p10;have x0f:w2.frozen? ⟨g,k*11,none⟩=false:=(HV.out.own.kept KW.out).frozen_at _;have x1f:w2.frozen? ⟨g,k*11+1,none⟩=false:=(HV.out.own.kept KW.out).frozen_at _;have x2f:w2.frozen? ⟨g,k*11+2,none⟩=false:=(HV.out.own.kept KW.out).frozen_at _;have x3f:w2.frozen? ⟨g,k*11+3,none⟩=false:=(HV.out.own.kept KW.out).frozen_at _;have x4f:w2.frozen? ⟨g,k*11+4,none⟩=false:=(HV.out.own.kept KW.out).frozen_at _;have x5f:w2.frozen? ⟨g,k*11+5,none⟩=false:=(HV.out.own.kept KW.out).frozen_at _;have x6f:w2.frozen? ⟨g,k*11+6,none⟩=false:=(HV.out.own.kept KW.out).frozen_at _;have x7f:w2.frozen? ⟨g,k*11+7,none⟩=false:=(HV.out.own.kept KW.out).frozen_at _;have x8f:w2.frozen? ⟨g,k*11+8,none⟩=false:=(HV.out.own.kept KW.out).frozen_at _;have x9f:w2.frozen? ⟨g,k*11+9,none⟩=false:=(HV.out.own.kept KW.out).frozen_at _;have x10f:w2.frozen? ⟨g,k*11+10,none⟩=false:=(HV.out.own.kept KW.out).frozen_at _;clear p0 p1 p2 p3 p4 p5 p6 p7 p8 p9 p10;have V3:=lH (HV.out.next (z':=(n,(x1,y1,e1),(x2,y2,e2),(x3,y3,e3),(x4,y4,e4))) HZ.out rfl trivial KW.out VD.out VM.out);go_wp2;obtain⟨WE,hWE⟩:∃W,w2.setCells g (k*11) [.string n.name,.string n.owner,.int .i64 n.prio,.slice x1 y1 e1,.slice x2 y2 e2,.slice x3 y3 e3,.slice x4 y4 e4,.string n.key,.int .i64 n.most,.string n.node,.bool n.hold]=W:=⟨_,rfl⟩
      have hWE2:(((((((((((w2.setCell ⟨g,k*11,none⟩ (.string n.name)).setCell ⟨g,k*11+1,none⟩ (.string n.owner)).setCell ⟨g,k*11+2,none⟩ (.int .i64 n.prio)).setCell ⟨g,k*11+3,none⟩ (.slice x1 y1 e1)).setCell ⟨g,k*11+4,none⟩ (.slice x2 y2 e2)).setCell ⟨g,k*11+5,none⟩ (.slice x3 y3 e3)).setCell ⟨g,k*11+6,none⟩ (.slice x4 y4 e4)).setCell ⟨g,k*11+7,none⟩ (.string n.key)).setCell ⟨g,k*11+8,none⟩ (.int .i64 n.most)).setCell ⟨g,k*11+9,none⟩ (.string n.node)).setCell ⟨g,k*11+10,none⟩ (.bool n.hold))=WE:=hWE;have V3:=lH (show Z0 jg 35 At4 (fun z=>z.1) w.heap.size g len c (k+1) l w WE (lx.set k (n,(x1,y1,e1),(x2,y2,e2),(x3,y3,e3),(x4,y4,e4))) by rw[←hWE];exact V3.out);try rw[hWE2]
      clear hWE hWE2 q0 q1 q2 q3 q4 q5 q6 q7 q8 q9 q10 x0f x1f x2f x3f x4f x5f x6f x7f x8f x9f x10f;go_roundw
      case rel=>exact⟨k+1,_,by omega,by go_num,by rw[List.length_set];exact Vi.out,V3.out⟩
      case measure=>simp[intOf];omega
    · have HD:=lH (hinv.deep (by omega));have VX:=lH hinv.kept;have Rl:=lH hinv.map;clear hinv hlen;go_wp2;go_ret;exact⟨_,lx,rfl,Rl.out,⟨⟨_,_,_,rfl⟩,HD.out.1,fun z hz=>(HD.out.2 z hz).less fun b h=>h.imp id fun e=>(Option.some.inj e).symm⟩,VX.out⟩
theorem jiT (a:Option Addr) (len cap:Nat) (l:List Bd) (w:World) (hr:Jc w a len l) (hc:len≤cap) (hm:cap≤maxLen) (hn:len≤100000) (hlow:∀n ∈ l,n.sel.length≤1000000) :
 Calls Tryz.prog 159 #[.slice a len cap,.func (.func 160) #[] #[]] w fun e w'=>∃v lx,e=.returned v∧(lx.map fun z=>z.1)=l∧ZG zt 153 At1 w.heap.size w' v lx∧Kept w w':=by
 obtain⟨lx0,hmap,hrx,hat0⟩:=jcQ hr;have HC:=lH (jdK a len cap lx0 w hrx hc hm hn);have VF:=lH hlow;have Uu:=lH hmap;have U6:=lH hat0;have RM:=lH hrx.1;clear hr hmap hrx hat0 hlow hc hm;go_enter Tryz.func159,Tryz.ntmps159;go_wp2_with fail
 refine HC.out.mono ?_;rintro e w1 ⟨hres,hk⟩;have K0:=lH hk;rcases hres with ⟨rfl,h0⟩ | ⟨g,c,rfl,ho⟩
 · have HE:=lH (show l=[] by rw[←Uu.out,h0];rfl);clear h0 hk;go_wp2;refine wp_loop_rounds 1 ?_;rw[rounds_succ];go_wp2;go_ret;exact⟨_,[],rfl,HE.out.symm,⟨⟨_,_,_,rfl⟩,⟨Own.nil _ _ _,fun z h=>by cases h⟩,fun z h=>by cases h⟩,K0.out⟩
 · have HI:=lH (Z0.start (At:=At1) (fst:=(fun z=>z.1)) ho Uu.out hk fun z hz u k=>zK.kept (U6.out z hz) k);clear ho hk;go_wp2;go_loopw [12] (fun i wr=>∃(k:Nat) (lx:List BX),k≤len∧i=.int .i64 k∧lx.length=len∧Z0 zt 153 At1 (fun z=>z.1) w.heap.size g len c k l w wr lx) (fun i _=>len-(intOf i).toNat)
   case atStart=>exact⟨0,lx0,Nat.zero_le _,rfl,RM.out,HI.out⟩
   case round =>
    obtain⟨k,lx,hk,rfl,hlen,hinv⟩:=hrel;have HV:=lH hinv;have Vi:=lH hlen;by_cases hlt:k<len
    · obtain⟨z,hz⟩:∃z,lx[k]?=some z:=⟨_,List.getElem?_eq_getElem (by omega)⟩
      obtain⟨n,⟨b1,n1,d1⟩⟩:=z;have p0:wr.cell? ⟨g,k*3,none⟩=some (.string n.name):=hinv.own.cell_at hz (j:=0) rfl;have p1:wr.cell? ⟨g,k*3+1,none⟩=some (.slice b1 n1 d1):=hinv.own.cell_at hz (j:=1) rfl;have p2:wr.cell? ⟨g,k*3+2,none⟩=some (.int .i64 n.floor):=hinv.own.cell_at hz (j:=2) rfl;have HZ:=lH hz;have HN:=lH (show n ∈ l by rw[←hinv.map];exact List.mem_map.2 ⟨_,List.mem_of_getElem? hz,rfl⟩);have HA:=lH ((hinv.todo k _ hz (Nat.le_refl _)).here);have VD:=lH hinv.kept.size;have hkk:(k:Int)<(len:Int):=by omega
      have RN:=lH (Z6 hinv.own g rfl);have HO:=lH (jcd n b1 n1 d1 _ (zK.kept HA.out (ja wr (.cells #[.string n.name,.slice b1 n1 d1,.int .i64 n.floor] 153))) (VF.out n HN.out));unfold Xz at HO;clear hz hlen hinv;go_wp2_with fail
      refine HO.out.mono ?_;rintro e w2 ⟨v,rfl,hv,kk⟩;have KW:=lH ((ja wr (.cells #[.string n.name,.slice b1 n1 d1,.int .i64 n.floor] 153)).trans kk);obtain⟨x1,y1,e1,hv9,s0,g1⟩:=hv;rw[World.size_alloc] at g1;have hv9:v=.agg #[.string n.name,.slice x1 y1 e1,.int .i64 n.floor]:=hv9;subst hv9;have VM:=lH (show Off (fun b=>b<w.heap.size∨b=g) w2 fun u=>At1 u (n,(x1,y1,e1)) from zK.off (B:=wr.heap.size+1) s0 g1 (fun b hb h=>by have:=RN.out;have:=VD.out;rcases h with h | h<;>omega));clear s0 g1 kk;have q0:=cell_later KW.out p0;have q1:=cell_later KW.out p1;have q2:=cell_later KW.out p2;have x0f:w2.frozen? ⟨g,k*3,none⟩=false:=(HV.out.own.kept KW.out).frozen_at _;have x1f:w2.frozen? ⟨g,k*3+1,none⟩=false:=(HV.out.own.kept KW.out).frozen_at _;have x2f:w2.frozen? ⟨g,k*3+2,none⟩=false:=(HV.out.own.kept KW.out).frozen_at _;clear p0 p1 p2;have V3:=lH (HV.out.next (z':=(n,(x1,y1,e1))) HZ.out rfl trivial KW.out VD.out VM.out);go_wp2;obtain⟨WE,hWE⟩:∃W,w2.setCells g (k*3) [.string n.name,.slice x1 y1 e1,.int .i64 n.floor]=W:=⟨_,rfl⟩
      have hWE2:(((w2.setCell ⟨g,k*3,none⟩ (.string n.name)).setCell ⟨g,k*3+1,none⟩ (.slice x1 y1 e1)).setCell ⟨g,k*3+2,none⟩ (.int .i64 n.floor))=WE:=hWE;have V3:=lH (show Z0 zt 153 At1 (fun z=>z.1) w.heap.size g len c (k+1) l w WE (lx.set k (n,(x1,y1,e1))) by rw[←hWE];exact V3.out);try rw[hWE2]
      clear hWE hWE2 q0 q1 q2 x0f x1f x2f;go_roundw
      case rel=>exact⟨k+1,_,by omega,by go_num,by rw[List.length_set];exact Vi.out,V3.out⟩
      case measure=>simp[intOf];omega
    · have HD:=lH (hinv.deep (by omega));have VX:=lH hinv.kept;have Rl:=lH hinv.map;clear hinv hlen;go_wp2;go_ret;exact⟨_,lx,rfl,Rl.out,⟨⟨_,_,_,rfl⟩,HD.out.1,fun z hz=>(HD.out.2 z hz).less fun b h=>h.imp id fun e=>(Option.some.inj e).symm⟩,VX.out⟩
structure zc (S:Nat→Prop) (B:Nat) (w:World) (v1 v2 v3:Value) (s:Clu):Prop where
 pods:∃lx:List PX,(lx.map fun z=>z.1)=s.pods∧Own jg 35 w B v2 lx∧∀z ∈ lx,Off (fun b=>S b∨v2.ownBlock=some b) w fun u=>At4 u z
 nodes:Off (fun b=>S b∨v2.ownBlock=some b) w fun u=>zV u v1 s.nodes
 buds:Off (fun b=>S b∨v2.ownBlock=some b) w fun u=>JG u v3 s.buds
 sep:∀k,v2.ownBlock=some k→¬S k
theorem zc.toR {S:Nat→Prop} {B:Nat} {w:World} {v1 v2 v3:Value} {s:Clu} (h:zc S B w v1 v2 v3 s):jA w (.agg #[v1,v2,v3]) s:=by
 obtain⟨lx,e,ho,hd⟩:=h.pods;exact⟨v1,v2,v3,rfl,h.nodes.here,by rw[←e];exact ZO ho fun z hz=>(hd z hz).here,h.buds.here⟩
theorem zc.lt {S:Nat→Prop} {B:Nat} {w:World} {v1 v2 v3:Value} {s:Clu} (h:zc S B w v1 v2 v3 s):∀g,v2.ownBlock=some g→B≤g∧g<w.heap.size:=by
 obtain⟨lx,e,ho,hd⟩:=h.pods;exact Z6 ho
theorem zc.step {S:Nat→Prop} {B:Nat} {w w':World} {v1 v2 v3:Value} {s:Clu} (h:zc S B w v1 v2 v3 s) (g:jq S w w'):zc S B w' v1 v2 v3 s:=by
 obtain⟨lx,e,ho,hd⟩:=h.pods;have g':jq (fun b=>S b∨v2.ownBlock=some b) w w':=g.mono fun b e=>.inl e;exact⟨⟨lx,e,ho.goff g h.sep,fun z hz=>(hd z hz).step g'⟩,h.nodes.step g',h.buds.step g',h.sep⟩
theorem zc.kept {S:Nat→Prop} {B:Nat} {w w':World} {v1 v2 v3:Value} {s:Clu} (h:zc S B w v1 v2 v3 s) (k:Kept w w'):zc S B w' v1 v2 v3 s:=h.step (jq.of k)
theorem zc.less {S S':Nat→Prop} {B B':Nat} {w:World} {v1 v2 v3:Value} {s:Clu} (h:zc S B w v1 v2 v3 s) (hb:B'≤B) (hs:∀k,S' k→S k):zc S' B' w v1 v2 v3 s:=by
 obtain⟨lx,e,ho,hd⟩:=h.pods;have m:∀k,(S' k∨v2.ownBlock=some k)→(S k∨v2.ownBlock=some k):=fun k e=>e.imp (hs k) id;exact⟨⟨lx,e,ho.base_le hb,fun z hz=>(hd z hz).less m⟩,h.nodes.less m,h.buds.less m,fun k hk e=>h.sep k hk (hs k e)⟩
theorem zc.more {S:Nat→Prop} {B q:Nat} {w w':World} {v1 v2 v3:Value} {s:Clu} (h:zc S B w v1 v2 v3 s) (k:Kept w w') (hq:w.heap.size≤q):zc (fun b=>S b∨b=q) B w' v1 v2 v3 s:=by
 obtain⟨lx,e,ho,hd⟩:=h.pods;have m:∀b,((S b∨b=q)∨v2.ownBlock=some b)→((S b∨v2.ownBlock=some b)∨w.heap.size≤b):=fun b e=>by
  rcases e with (e | e) | e
  · exact .inl (.inl e)
  · exact .inr (by omega)
  · exact .inl (.inr e)
 exact⟨⟨lx,e,ho.kept k,fun z hz=>(hd z hz).new (jq.of k) m⟩,h.nodes.new (jq.of k) m,h.buds.new (jq.of k) m,fun b hb e=>by
  rcases e with e | e
  · exact h.sep b hb e
  · have:=(h.lt b hb).2;omega⟩
theorem zc.turn {S:Nat→Prop} {B:Nat} {w w':World} {v1 v2 v3 v2':Value} {s:Clu} {l:List Pd} (h:zc S B w v1 v2 v3 s) (g:jq (fun b=>v2.ownBlock=some b) w w') (hn:∀k,v2'.ownBlock=some k→v2.ownBlock=some k∨w.heap.size≤k)
 (hS:∀k,S k→k<w.heap.size) (hp:∃lx:List PX,(lx.map fun z=>z.1)=l∧Own jg 35 w' B v2' lx∧∀z ∈ lx,Off (fun b=>S b∨v2'.ownBlock=some b) w' fun u=>At4 u z):zc S B w' v1 v2' v3 { s with pods:=l }:=by
 have g':jq (fun b=>S b∨v2.ownBlock=some b) w w':=g.mono fun b e=>.inr e;have m:∀b,(S b∨v2'.ownBlock=some b)→((S b∨v2.ownBlock=some b)∨w.heap.size≤b):=fun b e=>by
  rcases e with e | e
  · exact .inl (.inl e)
  · rcases hn b e with e | e
    · exact .inl (.inr e)
    · exact .inr e
 exact⟨hp,h.nodes.new g' m,h.buds.new g' m,fun k hk e=>by
  rcases hn k hk with h' | h'
  · exact h.sep k h' e
  · have:=hS k e;omega⟩
theorem zc.els {S:Nat→Prop} {B:Nat} {w w':World} {v2 v2':Value} {lx:List PX} (h:∀z ∈ lx,Off (fun b=>S b∨v2.ownBlock=some b) w fun u=>At4 u z) (g:jq (fun b=>v2.ownBlock=some b) w w') (hn:∀k,v2'.ownBlock=some k→v2.ownBlock=some k∨w.heap.size≤k):∀z ∈ lx,Off (fun b=>S b∨v2'.ownBlock=some b) w' fun u=>At4 u z:=fun z hz =>
 (h z hz).new (g.mono fun b e=>.inr e) fun b e=>by
  rcases e with e | e
  · exact .inl (.inl e)
  · rcases hn b e with e | e
    · exact .inl (.inr e)
    · exact .inr e
theorem jgj {T:TypeId} {B:Nat} {w:World} {v:Value} {lx:List NX} (h:ZG zD T At3 B w v lx):Off (fun b=>b<B) w fun u=>zV u v (lx.map fun z=>z.1):=fun u g =>
 jc2 (h.2.1.own.goff g fun k hk e=>by have:=(Z6 h.2.1.own k hk).1;omega) fun z hz=>(h.2.2 z hz) u (g.mono fun b hb=>.inl hb)
theorem jg9 {T:TypeId} {B:Nat} {w:World} {v:Value} {lx:List BX} (h:ZG zt T At1 B w v lx):Off (fun b=>b<B) w fun u=>JG u v (lx.map fun z=>z.1):=fun u g =>
 jfo (h.2.1.own.goff g fun k hk e=>by have:=(Z6 h.2.1.own k hk).1;omega) fun z hz=>(h.2.2 z hz) u (g.mono fun b hb=>.inl hb)
theorem jg4 {q B:Nat} {z w1 w2 w3 WE:World} {v1 v2 v3:Value} {lxn:List NX} {lxp:List PX} {lxb:List BX} (hq:q<z.heap.size) (hB:B≤z.heap.size)
 (fn:ZG zD 71 At3 z.heap.size w1 v1 lxn) (k1:Kept z w1) (fp:ZG jg 35 At4 w1.heap.size w2 v2 lxp) (k2:Kept w1 w2) (fb:ZG zt 153 At1 w2.heap.size w3 v3 lxb) (k3:Kept w2 w3)
 (g:jq (fun b=>b=q) w3 WE):zc (fun b=>b<B) w1.heap.size WE v1 v2 v3 ⟨lxn.map fun z=>z.1,lxp.map fun z=>z.1,lxb.map fun z=>z.1⟩:=by
 have s1:=k1.size;have s2:=k2.size;have hp:∀b,v2.ownBlock=some b→w1.heap.size≤b∧b<w2.heap.size:=fun b hb=>Z6 fp.2.1.own b hb;have gm:jq (fun b=>(b<B∨v2.ownBlock=some b)∨b=q) w3 WE:=g.mono fun b e=>.inr e;refine⟨⟨lxp,rfl,(fp.2.1.own.kept k3).goff g fun k hk e=>by have:=(hp k hk).1;omega,fun z hz=>(((fp.2.2 z hz).step (jq.of k3)).less (S':=fun b=>(b<B∨v2.ownBlock=some b)∨b=q) fun b e=>by
  rcases e with (e | e) | e
  · exact .inl (by omega)
  · exact .inr e
  · exact .inl (by omega)).step gm |>.less fun b e=>.inl e⟩,?_,?_,fun k hk e=>by have:=(hp k hk).1;omega⟩
 · have h:=(jgj fn).new (S':=fun b=>(b<B∨v2.ownBlock=some b)∨b=q) (jq.of (k2.trans k3)) fun b e=>by
    rcases e with (e | e) | e
    · exact .inl (by omega)
    · exact .inr (hp b e).1
    · exact .inl (by omega)
   exact(h.step gm).less fun b e=>.inl e
 · have h:=(jg9 fb).less (S':=fun b=>(b<B∨v2.ownBlock=some b)∨b=q) fun b e=>by
    rcases e with (e | e) | e
    · omega
    · exact(hp b e).2
    · omega
   exact(h.step gm).less fun b e=>.inl e
theorem jfZ (a b d:Option Addr) (len cap m c n e:Nat) (nl:List Nod) (pl:List Pd) (bl:List Bd) (w:World) (hn:jE w a len nl) (hp:jN w b m pl) (hb:Jc w d n bl) (h1:len≤cap) (h2:cap≤maxLen) (h3:m≤c) (h4:c≤maxLen) (h5:n≤e) (h6:e≤maxLen) (hl:jH ⟨nl,pl,bl⟩) :
 Calls Tryz.prog 131 #[.agg #[.slice a len cap,.slice b m c,.slice d n e]] w fun e w'=>∃a1 n1 c1 a2 n2 c2 a3 n3 c3,e=.returned (.agg #[.slice a1 n1 c1,.slice a2 n2 c2,.slice a3 n3 c3])∧zc (fun b=>b<w.heap.size) w.heap.size w' (.slice a1 n1 c1) (.slice a2 n2 c2) (.slice a3 n3 c3) ⟨nl,pl,bl⟩∧Kept w w':=by
 obtain⟨Z,hZ⟩:∃Z,(w.alloc (.cells #[.slice a len cap,.slice b m c,.slice d n e] 26)).alloc (.cells #[.slice none 0 0,.slice none 0 0,.slice none 0 0] 26)=Z:=⟨_,rfl⟩
 have hkz:Kept w Z:=by rw[←hZ];exact jm _ _ _
 have hzs:Z.heap.size=w.heap.size+2:=by rw[←hZ];simp
 have HS:=lH (show ∀W,Kept Z W→W.cell? ⟨w.heap.size,0,none⟩=some (.slice a len cap)∧W.cell? ⟨w.heap.size,1,none⟩=some (.slice b m c)∧W.cell? ⟨w.heap.size,2,none⟩=some (.slice d n e) from fun W k=>by
  have cc:=jd w (.slice a len cap) [.slice b m c,.slice d n e] 26 W (by have:=ja (w.alloc (.cells #[.slice a len cap,.slice b m c,.slice d n e] 26)) (.cells #[.slice none 0 0,.slice none 0 0,.slice none 0 0] 26);rw[hZ] at this;exact this.trans k);exact⟨cc.at_ 0 _ rfl,cc.at_ 1 _ rfl,cc.at_ 2 _ rfl⟩)
 have HQ:=lH (show ∀W,Kept Z W→jf (w.heap.size+1) [.slice none 0 0,.slice none 0 0,.slice none 0 0] W from fun W k=>by
  have dd:=jd (w.alloc (.cells #[.slice a len cap,.slice b m c,.slice d n e] 26)) (.slice none 0 0) [.slice none 0 0,.slice none 0 0] 26 W (by rw[hZ];exact k);rw[World.size_alloc] at dd;exact dd)
 have H1:=lH (fun W (k:Kept Z W)=>jjq a len cap nl W (hn.kept (hkz.trans k)) h1 h2 (by rw[←hn.1];exact hl.nodesN) hl.nodes);have H2:=lH (fun W (k:Kept Z W)=>jid b m c pl W (hp.kept (hkz.trans k)) h3 h4 (by rw[←hp.1];exact hl.podsN) hl.pods);have H3:=lH (fun W (k:Kept Z W)=>jiT d n e bl W (hb.kept (hkz.trans k)) h5 h6 (by rw[←hb.1];exact hl.budsN) hl.buds);have Ve:=lH hkz;have Vm:=lH hzs;clear hn hp hb h1 h2 h3 h4 h5 h6 hl hkz hzs;go_enter Tryz.func131,Tryz.ntmps131;go_wp2;try rw[hZ]
 clear hZ;refine wp_region_held_drew (S:=fun W=>W.cell? ⟨w.heap.size,0,none⟩=some (.slice a len cap)∧W.cell? ⟨w.heap.size,1,none⟩=some (.slice b m c)∧W.cell? ⟨w.heap.size,2,none⟩=some (.slice d n e)) (by kernel_rfl) (HS.out _ (Kept.drew _)) (fun hHeld=>?_);refine tkI 0 ?_;refine tkI 1 ?_;refine tkI 3 ?_;refine tkI 4 ?_;refine tkI 6 ?_;refine tkI 7 ?_;try simp only[nP]
 refine rd1 2 fun K9 Ky=>?_;go_simp;refine(H1.out _ (Kept.drew _)).mono ?_;rintro e1 w1 ⟨v1,lx1,rfl,hm1,hf1,kk⟩;have J1:=lH ((Kept.drew Z).trans kk);have K1:=lH kk;have M1:=lH hm1;have F1:=lH hf1;obtain⟨⟨a1,n1,c1,rfl⟩,-⟩:=hf1;clear kk hm1;refine Ky.out _ _ (HS.out _ J1.out) (fun _=>?_);clear Ky K9;try simp only[nP]
 refine rd1 5 fun K9 Ky=>?_;go_simp;refine(H2.out _ J1.out).mono ?_;rintro e2 w2 ⟨v2,lx2,rfl,hm2,hf2,kk⟩;have J2:=lH (J1.out.trans kk);have K2:=lH kk;have M2:=lH hm2;have F2:=lH hf2;obtain⟨⟨a2,n2,c2,rfl⟩,-⟩:=hf2;clear kk hm2;refine Ky.out _ _ (HS.out _ J2.out) (fun _=>?_);clear Ky K9;try simp only[nP]
 refine rd1 8 fun K9 Ky=>?_;go_simp;refine(H3.out _ J2.out).mono ?_;rintro e3 w3 ⟨v3,lx3,rfl,hm3,hf3,kk⟩;have J3:=lH (J2.out.trans kk);have K3:=lH kk;have M3:=lH hm3;have F3:=lH hf3;obtain⟨⟨a3,n3,c3,rfl⟩,-⟩:=hf3;clear kk hm3;refine Ky.out _ _ (HS.out _ J3.out) (fun _=>?_);clear Ky K9;try simp only[nP]
 refine tkI 9 ?_;try simp only[nP]
 have z0:=(HQ.out _ J3.out).at_ 0 _ rfl;have z1:=(HQ.out _ J3.out).at_ 1 _ rfl;have z2:=(HQ.out _ J3.out).at_ 2 _ rfl;have f0:=(HQ.out _ J3.out).free 0;have f1:=(HQ.out _ J3.out).free 1;have f2:=(HQ.out _ J3.out).free 2;refine rd1 10 fun K9 Ky=>?_;go_simp;have P:=lH (jW (vs:=[.slice a1 n1 c1,.slice a2 n2 c2,.slice a3 n3 c3]) (HQ.out _ J3.out) rfl);refine Ky.out _ _ (by obtain⟨PC,hsz,hbl,hkp⟩:=P.out;obtain⟨o0,o1,o2⟩:=HS.out _ J3.out;exact⟨(World.cell?_of_block (a:=⟨w.heap.size,0,none⟩) (hbl w.heap.size (by omega))).trans o0,(World.cell?_of_block (a:=⟨w.heap.size,1,none⟩) (hbl w.heap.size (by omega))).trans o1,(World.cell?_of_block (a:=⟨w.heap.size,2,none⟩) (hbl w.heap.size (by omega))).trans o2⟩) (fun hHeld9=>?_);clear Ky K9 hHeld9 z0 f0 z1 f1 z2 f2;try simp only[nP]
 refine wpAnyH_done (by kernel_rfl) ?_ _;go_wp2;obtain⟨WE,hWE⟩:∃W,w3.setCells (w.heap.size+1) 0 [.slice a1 n1 c1,.slice a2 n2 c2,.slice a3 n3 c3]=W:=⟨_,rfl⟩
 have hWE2:(((w3.setCell ⟨(w.heap.size+1),0,none⟩ (.slice a1 n1 c1)).setCell ⟨(w.heap.size+1),1,none⟩ (.slice a2 n2 c2)).setCell ⟨(w.heap.size+1),2,none⟩ (.slice a3 n3 c3))=WE:=hWE;rw[hWE] at P;try rw[hWE2]
 have GE:=lH (show jq (fun b=>b=w.heap.size+1) w3 WE by rw[←hWE];exact jq.cells (S:=fun b=>b=w.heap.size+1) _ rfl _ _ _);clear hWE hWE2;obtain⟨PC,hsz,hbl,hkp⟩:=P.out;have HO:=lH (jg4 (z:=Z.drew) (q:=w.heap.size+1) (B:=w.heap.size) (by show w.heap.size+1<Z.heap.size;have:=Vm.out;omega) (by show w.heap.size≤Z.heap.size;have:=Vm.out;omega) F1.out K1.out F2.out K2.out F3.out K3.out GE.out);rw[M1.out,M2.out,M3.out] at HO;refine bodyPost_ret (by simp[results,Tryz.results131,go_sem,PC.at_ 0 _ rfl,PC.at_ 1 _ rfl,PC.at_ 2 _ rfl];try rfl) rfl ?_;exact⟨a1,n1,c1,a2,n2,c2,a3,n3,c3,rfl,HO.out.less (Ve.out.trans J1.out).size (fun k e=>e),hkp _ _ (by omega) (Ve.out.trans J3.out)⟩
theorem qg {w:World} {B:Nat} {e:TypeId} {s:Nat} {v:Value} {n:Nat} {xs:List Value} (h:w.ownsRow B e s v n xs):w.drew.ownsRow B e s v n xs:=h
theorem jaz:(Tryz.prog.info? 35).map (fun i=>(i.zero,i.size,i.bytes))=some (some (.agg #[.string ByteArray.empty,.string ByteArray.empty,.int .i64 0,.slice none 0 0,.slice none 0 0,.slice none 0 0,.slice none 0 0,.string ByteArray.empty,.int .i64 0,.string ByteArray.empty,.bool false]),11,184):=by kernel_rfl
def Jt:Array Value:=#[.string ByteArray.empty,.string ByteArray.empty,.int .i64 0,.slice none 0 0,.slice none 0 0,.slice none 0 0,.slice none 0 0,.string ByteArray.empty,.int .i64 0,.string ByteArray.empty,.bool false]
theorem je3:(Value.agg Jt).cells=Jt:=rfl
theorem ZW (n:Nat):(Builtin.zeroCells Jt n).size=n*11:=by
 unfold Builtin.zeroCells;rw[Array.size_map,Array.size_range];rfl
theorem jjD (n:Nat):∀v ∈ (Builtin.zeroCells Jt n).toList,v.oneCell'=true:=by
 intro v hv;unfold Builtin.zeroCells at hv;rw[Array.toList_map,List.mem_map] at hv;obtain⟨k,_,rfl⟩:=hv;have hs:Jt.size=11:=rfl;rw[hs];have hk:k % 11<11:=Nat.mod_lt _ (by decide);generalize k % 11=m at hk
 match m,hk with
 | 0,_=>rfl
 | 1,_=>rfl
 | 2,_=>rfl
 | 3,_=>rfl
 | 4,_=>rfl
 | 5,_=>rfl
 | 6,_=>rfl
 | 7,_=>rfl
 | 8,_=>rfl
 | 9,_=>rfl
 | 10,_=>rfl
 | m+11,h=>omega
theorem jf8 (g i j len cap B:Nat) (xs:List Value) (w:World) (hown:w.ownsRow B 35 11 (.slice (some ⟨g,0,none⟩) len cap) len xs) (h1c:∀v ∈ xs,v.oneCell'=true) (hij:i<j) (hj:j≤len) :
 Calls Tryz.prog 133 #[.slice (some ⟨g,0,none⟩) len cap,.int .i64 i,.int .i64 j] w fun e w'=>e=.returned (.slice (some ⟨g,0,none⟩) (i+(len-j)) cap)∧w'.ownsRow B 35 11 (.slice (some ⟨g,0,none⟩) (i+(len-j)) cap) (i+(len-j)) (xs.take (i*11)++xs.drop (j*11))∧jq (fun b=>b=g) w w':=by
 obtain⟨cur,hB,hg,hn,hm,hs,ht,hl⟩:=J9 hown;obtain⟨i0,hi0,hz0,hz1,hz2⟩:=info_parts jaz;have hcell:∀t,t<len*11→w.cell? ⟨g,t,none⟩=xs[t]?:=fun t h=>hown.cellAt t h;have hfr:∀t,w.frozen? ⟨g,t,none⟩=false:=fun t=>hown.frozenAt t;obtain⟨news,hnews⟩:∃news,news=xs.drop (j*11):=⟨_,rfl⟩
 have hlen:news.length=(len-j)*11:=by rw[hnews,List.length_drop,hl,Nat.sub_mul]
 have hget:∀t u,news[t]?=some u→w.cell? ⟨g,j*11+t,none⟩=some u:=by
  intro t u hu;have ht:=(List.getElem?_eq_some_iff.1 hu).1;rw[hlen] at ht;rw[hnews,List.getElem?_drop] at hu;rw[hcell _ (by omega)];exact hu
 have hsome:∀t,t<len*11→(w.cell? ⟨g,t,none⟩).isSome=true:=fun t h=>by
  rw[hcell t h,List.getElem?_eq_getElem (by rw[hl];exact h)];rfl
 obtain⟨A,hA,hsrc⟩:∃A:Addr,(if cap=j then (some ⟨g,0,none⟩:Option Addr) else some ⟨g,j*11,none⟩)=some A∧Hid (∀t u,news[t]?=some u→w.drew.cell? (A.add t)=some u):=by
  by_cases h:cap=j
  · refine⟨⟨g,0,none⟩,by simp[h],fun t u hu=>?_⟩;have h0:news.length=0:=by rw[hlen];omega
    rw[List.length_eq_zero_iff.1 h0] at hu;simp at hu
  · refine⟨⟨g,j*11,none⟩,by simp[h],fun t u hu=>?_⟩;rw[Addr.add_lit];exact hget t u hu
 have s2:Hid (∀u ∈ news,u.oneCell'=true):=fun u hu=>h1c u (by rw[hnews] at hu;exact List.mem_of_mem_drop hu);have s3:Hid (∀t,t<news.length→(w.drew.cell? ⟨g,0+i*11+t,none⟩).isSome=true∧w.drew.frozen? ⟨g,0+i*11+t,none⟩=false):=fun t h=>by
  rw[hlen] at h;exact⟨hsome _ (by omega),hfr _⟩
 have s1:Hid (news.length=(len-j)*11):=hlen;obtain⟨W1,hW1⟩:∃W1,W1=w.drew.setCells g (0+i*11) news:=⟨_,rfl⟩
 have hW1c:∀t,t<len*11→(W1.cell? ⟨g,t,none⟩).isSome=true:=fun t h=>by
  rw[hW1];exact isSome_setCells g news (0+i*11) w.drew (fun q hq=>(s3 q hq).1) t (hsome t h)
 have hcl:∀ty,(Builtin.clear_ #[23] ty #[.slice (some ⟨g,(i+(len-j))*11,none⟩) (len-(i+(len-j))) (cap-(i+(len-j)))]).run Tryz.prog W1=.ok (.tuple #[]) (W1.setCells g ((i+(len-j))*11) (Builtin.zeroCells Jt (len-(i+(len-j)))).toList) :=
  fun ty=>jcy W1 _ 35 ty i0 (.agg Jt) Tryz.underlying23 hi0 hz0 g _ _ _ (by omega) (jjD _) (fun t h=>hW1c _ (by rw[je3,ZW] at h;omega)) (fun t h=>by rw[hW1,World.frozen?_setCells];exact hfr _)
 have X:=lH (show (W1.setCells g ((i+(len-j))*11) (Builtin.zeroCells Jt (len-(i+(len-j)))).toList).ownsRow B 35 11 (.slice (some ⟨g,0,none⟩) (i+(len-j)) cap) (i+(len-j)) (xs.take (i*11)++xs.drop (j*11)) by
  have h:=jkR (w:=w.drew) (zs:=(Builtin.zeroCells Jt (len-(i+(len-j)))).toList) (qg hown) (Nat.le_of_lt hij) hj (by rw[Array.length_toList,ZW,show len-(i+(len-j))=j-i by omega]);rw[hW1,Nat.zero_add,hnews];exact h)
 have GX:=lH (show jq (fun b=>b=g) w (W1.setCells g ((i+(len-j))*11) (Builtin.zeroCells Jt (len-(i+(len-j)))).toList) by
  rw[hW1];exact((jq.drew w).trans (jq.cells (S:=fun b=>b=g) g rfl _ _ _)).trans (jq.cells (S:=fun b=>b=g) g rfl _ _ _))
 have hW:Hid (W1=w.drew.setCells g (0+i*11) news):=hW1;have t23:=Tryz.underlying23;have hic:i≤cap:=by omega
 have hjc:j≤cap:=by omega
 have hil:i<len:=by omega
 have hm':cap≤9223372036854775807:=by unfold maxLen at hm;omega
 clear hown hB hg hs ht hl hcell hfr hnews hlen hget hsome h1c hW1 hW1c hm;go_enter Tryz.func133,Tryz.ntmps133;go_wp2_with fail
 go_region_law (refine step_append_room rfl (.tmp 22) (.tmp 25) 23 rfl 35 i0 11 t23 hi0 hz1 g 0 i cap (by simp[Act.eval,Act.put]) A (len-j) (cap-j) news (by simp[Act.eval,Act.put]) s1.out hsrc.out s2.out (by omega) s3.out ?_;rw[←hW.out])
 go_wp2;go_ret;exact⟨rfl,X.out,GX.out⟩
theorem jgx {x:ByteArray} {l:List Pd} {k:Nat} {n:Pd} (h:l[k]?=some n):(l.take (k+1)).filter (fun p=>eqS p.node x)=(l.take k).filter (fun p=>eqS p.node x)++(if eqS n.node x=true then [n] else []):=by
 rw[zE h,List.filter_append];congr 1
 rw[List.filter_cons,List.filter_nil]
theorem jks (a a8 a9:Option Addr) (len cap m8 c8 m9 c9:Nat) (l:List Pd) (x:ByteArray) (w:World) (hr:jN w a len l) (hlow:∀n ∈ l,Ju n) (hlen:len≤100000) :
 Calls Tryz.prog 105 #[.agg #[.slice a8 m8 c8,.slice a len cap,.slice a9 m9 c9],.string x] w fun e w'=>∃v,e=.returned v∧zr w' v (onP x l)∧Kept w w':=by
 have hl:=hr.1;have hm:=hr.2.1;unfold maxLen at hm;obtain⟨i0,hi,hz0,hz1,hz2'⟩:=info_parts jaz;obtain⟨Z,hZ⟩:∃Z,w.alloc (.cells #[.slice a8 m8 c8,.slice a len cap,.slice a9 m9 c9] 26)=Z:=⟨_,rfl⟩
 have hkz:Kept w Z:=by rw[←hZ];exact ja _ _
 have hst:Z.cell? ⟨w.heap.size,1,none⟩=some (.slice a len cap):=(jd w (.slice a8 m8 c8) [.slice a len cap,.slice a9 m9 c9] 26 Z (by rw[hZ];exact Kept.refl _)).at_ 1 _ rfl;have HR:=lH (hr.kept hkz);have HL:=lH hl;have VF:=lH hlow;have Ve:=lH hkz;obtain⟨t,ht⟩:∃t,(x.toList==([]:List UInt8))=t:=⟨_,rfl⟩
 have UQ:=lH (show zZ x=t by rw[JA];exact ht);clear hr hl hkz hlow
 cases t with
 | true =>
  have HE:=lH (show onP x l=[] by unfold onP;rw[if_pos UQ.out]);go_enter Tryz.func105,Tryz.ntmps105;go_wp2;try rw[hZ]
  go_ret;exact⟨_,rfl,by rw[HE.out];exact⟨none,0,rfl,Nat.le_refl _,by decide,rfl,by decide,.inl rfl⟩,by first | exact Ve.out | (rw[hZ];exact Ve.out)⟩
 | false =>
  have HE:=lH (show onP x l=l.filter (fun p=>eqS p.node x) by unfold onP;rw[if_neg (by rw[UQ.out];decide)]);go_enter Tryz.func105,Tryz.ntmps105;go_wp2;try rw[hZ]
  clear hZ hst ht;go_loopw [5,13] (fun v i wr=>∃k:Nat,k≤len∧i=.int .i64 k∧∃lx:List PX,(lx.map fun z=>z.1)=(l.take k).filter (fun p=>eqS p.node x)∧lx.length≤k∧Deep jg 35 At4 wr Z.heap.size v lx∧Kept Z wr) (fun _ i _=>len-(intOf i).toNat)
  case atStart=>exact⟨0,Nat.zero_le _,rfl,[],rfl,Nat.le_refl _,⟨Own.nil _ _ _,fun z h=>by cases h⟩,Kept.refl _⟩
  case round =>
   obtain⟨k,hk,rfl,lx,hlx,hll,hdp,hK⟩:=hrel;have HX:=lH hlx;have UM:=lH hll;have HD:=lH hdp;have HK:=lH hK;by_cases hlt:k<len
   · obtain⟨b,off,rfl⟩:=HR.out.form.resolve_left (by omega);obtain⟨n,a1,m1,c1,a2,m2,c2,a3,m3,c3,a4,m4,c4,hn,hd,hb,p0,p1,p2,p3,p4,p5,p6,p7,p8,p9,p10,hat⟩:=(HR.out.kept hK).at_ hlt;have HN:=lH hn;have Vu:=lH hat;obtain⟨t,ht⟩:∃t,eqS n.node x=t:=⟨_,rfl⟩
     have ht':(n.node.toList==x.toList)=t:=ht;have HT:=lH ht;have hkk:(k:Int)<(len:Int):=by omega
     clear hlx hll hdp hK hat hd hn ht
     cases t with
     | false =>
      have UD:=lH (show (lx.map fun z=>z.1)=(l.take (k+1)).filter (fun p=>eqS p.node x) by rw[jgx HN.out,if_neg (by rw[HT.out];decide),List.append_nil];exact HX.out);go_wp2;go_roundw
      case rel=>exact⟨k+1,by omega,by go_num,lx,UD.out,by have:=UM.out;omega,HD.out.kept (ja _ _),HK.out.trans (ja _ _)⟩
      case measure=>simp[intOf];omega
     | true =>
      have V2:=lH (show ∀W,Kept wr W→_ from fun W kk=>Zg n (.slice a1 m1 c1) (.slice a2 m2 c2) (.slice a3 m3 c3) (.slice a4 m4 c4) W (Vu.out.kept kk) (VF.out n (List.mem_of_getElem? HN.out)));unfold jr at V2;obtain⟨len1,hlen1⟩:∃q,lx.length=q:=⟨_,rfl⟩
      have Uz:=lH hlen1;rw[hlen1] at UM;clear hlen1;go_wp2_with fail
      refine(V2.out _ (ja _ _)).mono ?_;rintro e w1 ⟨v,rfl,hv,kk⟩;obtain⟨x1,y1,z1,x2,y2,z2,x3,y3,z3,x4,y4,z4,hv9,sp,g1,g2,g3,g4⟩:=hv;have hv9:v=.agg #[.string n.name,.string n.owner,.int .i64 n.prio,.slice x1 y1 z1,.slice x2 y2 z2,.slice x3 y3 z3,.slice x4 y4 z4,.string n.key,.int .i64 n.most,.string n.node,.bool n.hold]:=hv9;subst hv9;have KW:=lH ((ja wr _).trans kk);have hbase:Z.heap.size≤wr.heap.size:=HK.out.size;have VM:=lH (show Off (fun b=>u5.ownBlock=some b) w1 fun u=>At4 u (n,(x1,y1,z1),(x2,y2,z2),(x3,y3,z3),(x4,y4,z4)) from js.off (B:=wr.heap.size+1) sp (by rw[World.size_alloc] at g1;exact g1) (by rw[World.size_alloc] at g2;exact g2) (by rw[World.size_alloc] at g3;exact g3) (by rw[World.size_alloc] at g4;exact g4) (fun b hb h=>by have:=(Z6 HD.out.own b h).2;omega));have Mh:=lH (HD.out.kept KW.out);have Vo:=lH (show w1.ownsRow Z.heap.size 35 11 u5 len1 (jb jg lx) by have:=Mh.out.own.1;rw[Uz.out] at this;exact this);have hs1:wr.heap.size≤w1.heap.size:=KW.out.size;clear kk sp g1 g2 g3 g4;go_wp2_with (at_builtin;refine wpList_append_lies _ rfl _ _ _ rfl Z.heap.size 35 i0 _ 11 184 Tryz.underlying23 hi hz0 hz1 hz2' rfl (by decide) u5 len1 (jb jg lx) rfl (Vo.out.alloc _) ⟨w1.heap.size,0,none⟩ 1 1 (jg.cs (n,(x1,y1,z1),(x2,y2,z2),(x3,y3,z3),(x4,y4,z4))) rfl rfl (World.news_of_block (cs:=#[.string n.name,.string n.owner,.int .i64 n.prio,.slice x1 y1 z1,.slice x2 y2 z2,.slice x3 y3 z3,.slice x4 y4 z4,.string n.key,.int .i64 n.most,.string n.node,.bool n.hold]) (t:=35) (fr:=(0,0)) (heap_alloc_new w1 _)) (JN _) (by decide) (by unfold maxLen;have:=UM.out;omega) (by have:=UM.out;omega) (by simp;omega) (w1.heap.size+1) (by simp) ?_;intro gg cap1 w2 hown1 hgrow hat hlt1)
      have GG:=lH (jq.grown (S:=fun b=>u5.ownBlock=some b) hgrow fun q e=>e);have hnn:∀q,(Value.slice (some ⟨gg,0,none⟩) (len1+1) cap1).ownBlock=some q→u5.ownBlock=some q∨(w1.alloc (.cells #[.string n.name,.string n.owner,.int .i64 n.prio,.slice x1 y1 z1,.slice x2 y2 z2,.slice x3 y3 z3,.slice x4 y4 z4,.string n.key,.int .i64 n.most,.string n.node,.bool n.hold] 35)).heap.size≤q:=fun q hq=>by
       obtain rfl:gg=q:=Option.some.inj hq;exact hat.imp id fun e=>by rw[World.size_alloc];omega
      have MK:=lH (show Deep jg 35 At4 w2 Z.heap.size (.slice (some ⟨gg,0,none⟩) (len1+1) cap1) (lx++[(n,(x1,y1,z1),(x2,y2,z2),(x3,y3,z3),(x4,y4,z4))]) from⟨Own.snoc hown1 (by rw[Uz.out]) HD.out.own.2 trivial,fun z hz=>by
       rcases List.mem_append.1 hz with hz | hz
       · exact(((Mh.out.off z hz).step (jq.of (ja w1 (.cells #[.string n.name,.string n.owner,.int .i64 n.prio,.slice x1 y1 z1,.slice x2 y2 z2,.slice x3 y3 z3,.slice x4 y4 z4,.string n.key,.int .i64 n.most,.string n.node,.bool n.hold] 35)))).new GG.out fun b e=>hnn b e)
       · obtain rfl:=List.mem_singleton.1 hz;exact((VM.out.step (jq.of (ja w1 (.cells #[.string n.name,.string n.owner,.int .i64 n.prio,.slice x1 y1 z1,.slice x2 y2 z2,.slice x3 y3 z3,.slice x4 y4 z4,.string n.key,.int .i64 n.most,.string n.node,.bool n.hold] 35)))).new GG.out fun b e=>hnn b e)⟩)
      have Nz:=lH (show Kept Z w2 from Below.mono (show Below Z.heap.size Z w2 from Below.trans (HK.out.trans (KW.out.trans (ja w1 (.cells #[.string n.name,.string n.owner,.int .i64 n.prio,.slice x1 y1 z1,.slice x2 y2 z2,.slice x3 y3 z3,.slice x4 y4 z4,.string n.key,.int .i64 n.most,.string n.node,.bool n.hold] 35)))) (GG.out.at_below (B:=Z.heap.size) (fun q e=>(Z6 HD.out.own q e).1) (by have h1:=HK.out.size;rw[World.size_alloc];omega))) (Nat.le_refl _));have UD:=lH (show ((lx++[(n,(x1,y1,z1),(x2,y2,z2),(x3,y3,z3),(x4,y4,z4))]).map fun z=>z.1)=(l.take (k+1)).filter (fun p=>eqS p.node x) by rw[jgx HN.out,if_pos HT.out,List.map_append,HX.out];rfl);clear hown1 hgrow hat hlt1 hnn hs1 hbase;go_wp2;go_roundw
      case rel=>exact⟨k+1,by omega,by go_num,_,UD.out,by rw[List.length_append,Uz.out];have:=UM.out;simp;omega,MK.out,Nz.out⟩
      case measure=>simp[intOf];omega
   · have ML:=lH (show l.take k=l by rw[List.take_of_length_le (by rw[HL.out];omega)]);have UE:=lH (show zr wr u5 (onP x l) by have:=jhb HD.out;rw[HX.out,ML.out,←HE.out] at this;exact this);clear hlx hll hdp hK;go_wp2;go_ret;exact⟨_,rfl,UE.out,Ve.out.trans HK.out⟩
def ZI (n:Nod):Bool:=decide (n.name.size≤50)&&(Vec.YC n.cap&&(Yb n.labels&&Zd n.taints))
theorem jlg {n:Nod} (h:ZI n=true):Jk n:=by
 unfold ZI at h;simp only[Bool.and_eq_true,decide_eq_true_eq] at h;obtain⟨_,h1,h2,h3⟩:=h;refine⟨?_,?_,?_⟩
 · unfold Vec.YC at h1;simp only[Bool.and_eq_true,decide_eq_true_eq] at h1;omega
 · unfold Yb at h2;simp only[Bool.and_eq_true,decide_eq_true_eq] at h2;omega
 · have:=(jgV h3).1;omega
theorem jhr (n:Nod) (v1 v2 v3:Value) (w:World) (h:zp w v1 v2 v3 n) :
 Calls Tryz.prog 74 #[zw n v1 v2 v3] w (Say (.bool (ZI n)) w):=by
 have HB:=lH (show ∀W,Kept (w.alloc (.cells #[.string n.name,v1,v2,v3,.bool n.cordon] 71)) W→W.cell? ⟨w.heap.size,0,none⟩=some (.string n.name)∧W.cell? ⟨w.heap.size,1,none⟩=some v1∧W.cell? ⟨w.heap.size,2,none⟩=some v2∧W.cell? ⟨w.heap.size,3,none⟩=some v3∧W.cell? ⟨w.heap.size,4,none⟩=some (.bool n.cordon) from fun W k=>(Yx w _ _ _ _ _ 71 W k).1);have H:=lH (h.kept (ja w (.cells #[.string n.name,v1,v2,v3,.bool n.cordon] 71)));obtain⟨⟨nm,l1,l2,l3,cd⟩,hnn⟩:∃m,m=n:=⟨n,rfl⟩
 subst hnn;have hsz:nm.size≤maxLen:=h.size;unfold maxLen at hsz;obtain⟨b1,hb1⟩:∃b,Vec.YC l1=b:=⟨_,rfl⟩
 obtain⟨b2,hb2⟩:∃b,Yb l2=b:=⟨_,rfl⟩
 obtain⟨b3,hb3⟩:∃b,Zd l3=b:=⟨_,rfl⟩
 have HV:=lH (show ZI ⟨nm,l1,l2,l3,cd⟩=(decide (nm.size≤50)&&(b1&&(b2&&b3))) by unfold ZI;dsimp only;rw[hb1,hb2,hb3]);have H1:=lH (Vec.jd9 H.out.cap hb1);have H2:=lH (show Calls Tryz.prog 29 #[v2] _ fun e w'=>e=.returned (.bool b2)∧_=w' by rw[←hb2];exact jd9 H.out.labels);have H3:=lH (show Calls Tryz.prog 110 #[v3] _ fun e w'=>e=.returned (.bool b3)∧_=w' by rw[←hb3];exact jmG H.out.taints);clear h hb1 hb2 hb3 H;dsimp only at HB H1 H2 H3;obtain⟨y0,y1,y2,y3,y4⟩:=HB.out _ (Kept.refl _);unfold zw;dsimp only;by_cases hs:nm.size≤50
 · have hs':decide (nm.size≤50)=true:=decide_eq_true hs;have hsi:(nm.size:Int)≤50:=by omega
   cases b1 with
   | false =>
    go_enter Tryz.func74,Tryz.ntmps74;go_wp2_with fail
    refine H1.out.mono ?_;rintro e w' ⟨rfl,rfl⟩;go_wp2;go_ret;exact⟨je (by rw[HV.out,hs'];rfl),ja _ _⟩
   | true =>
    cases b2 with
    | false =>
     go_enter Tryz.func74,Tryz.ntmps74;go_wp2_with fail
     refine H1.out.mono ?_;rintro e w' ⟨rfl,rfl⟩;go_wp2_with fail
     refine H2.out.mono ?_;rintro e w' ⟨rfl,rfl⟩;go_wp2;go_ret;exact⟨je (by rw[HV.out,hs'];rfl),ja _ _⟩
    | true =>
     go_enter Tryz.func74,Tryz.ntmps74;go_wp2_with fail
     refine H1.out.mono ?_;rintro e w' ⟨rfl,rfl⟩;go_wp2_with fail
     refine H2.out.mono ?_;rintro e w' ⟨rfl,rfl⟩;go_wp2_with fail
     refine H3.out.mono ?_;rintro e w' ⟨rfl,rfl⟩;go_wp2;go_ret;exact⟨je (by rw[HV.out,hs'];cases b3<;>rfl),ja _ _⟩
 · have hs':decide (nm.size≤50)=false:=decide_eq_false hs;have hsi:(50:Int)<(nm.size:Int):=by omega
   go_enter Tryz.func74,Tryz.ntmps74;go_wp2;go_ret;exact⟨je (by rw[HV.out,hs'];rfl),ja _ _⟩
theorem jlq {v:Value} {n:Nod} {b:Bool} {w:World} (h:qk w v n) (hb:ZI n=b):Calls Tryz.prog 74 #[v] w (Say (.bool b) w):=by
 subst hb;obtain⟨v1,v2,v3,rfl,h⟩:=h;exact jhr n v1 v2 v3 w h
theorem jhI {l:PL} (h:Yb l=true):l.length≤20∧∀x ∈ l,x.1.size≤50∧x.2.size≤50:=by
 unfold Yb at h;simp only[Bool.and_eq_true,decide_eq_true_eq,List.all_eq_true] at h;refine⟨h.1,fun x hx=>?_⟩;have:=h.2 x hx;unfold YU at this;simpa only[Bool.and_eq_true,decide_eq_true_eq] using this
theorem jhp {l:TL} (h:Ye l=true):l.length≤20∧∀x ∈ l,x.2.1.size≤50∧x.2.2.size≤50:=by
 unfold Ye at h;simp only[Bool.and_eq_true,decide_eq_true_eq,List.all_eq_true] at h;refine⟨h.1,fun x hx=>?_⟩;have:=h.2 x hx;unfold YS at this;simpa only[Bool.and_eq_true,decide_eq_true_eq] using this
def Jq (n:Pd):Bool:=decide (n.name.size≤50)&&(decide (n.owner.size≤50)&&(decide (n.key.size≤50)&&(decide (n.node.size≤50)&&(Vec.YC n.need&&(Yb n.labels&&(Ye n.sel&&Zd n.tols))))))
theorem jf6 {n:Pd} (h:Jq n=true):n.name.size≤50∧n.owner.size≤50∧n.key.size≤50∧n.node.size≤50∧Vec.YC n.need=true∧Yb n.labels=true∧Ye n.sel=true∧Zd n.tols=true:=by
 unfold Jq at h;simpa only[Bool.and_eq_true,decide_eq_true_eq] using h
def Xl (n:Bd):Bool:=decide (n.name.size≤50)&&Ye n.sel
def Zz (l:List Bd):Bool:=decide (l.length≤20)&&l.all Xl
theorem jeE {l:List Bd} {n:Bd} {k:Nat} (h:l[k]?=some n) (g:Xl n=false):Zz l=false:=by
 unfold Zz;have:l.all Xl=false:=by
  rw[List.all_eq_false];exact⟨n,List.mem_of_getElem? h,by rw[g];decide⟩
 rw[this];simp
theorem jjs (a:Option Addr) (len cap:Nat) (l:List Bd) (w:World) (hr:Jc w a len l) :
 Calls Tryz.prog 73 #[.slice a len cap] w (Say (.bool (Zz l)) w):=by
 have hl:=hr.1;have hm:=hr.2.1;unfold maxLen at hm;by_cases h20:20<len
 · have HV:=lH (show Zz l=false by unfold Zz;rw[hl];simp;omega);clear hr hl;go_enter Tryz.func73,Tryz.ntmps73;go_wp2;go_ret;exact⟨je HV.out.symm,Kept.refl _⟩
 · have h20':len≤20:=by omega
   by_cases h0:len=0
   · subst h0;have HV:=lH (show Zz l=true by rw[List.eq_nil_of_length_eq_zero hl];rfl);clear hr hl h20;go_enter Tryz.func73,Tryz.ntmps73;go_wp2;refine wp_loop_rounds 1 ?_;rw[rounds_succ];go_wp2;go_ret;exact⟨je HV.out.symm,Kept.refl _⟩
   · obtain⟨b,off,rfl⟩:=hr.form.resolve_left h0;have HR:=lH hr;have HL:=lH hl;clear hr hl h0 h20;go_enter Tryz.func73,Tryz.ntmps73;go_wp2;go_loopw [3] (fun i wr=>∃k:Nat,k≤len∧i=.int .i64 k∧(∀n ∈ l.take k,Xl n=true)∧Kept w wr) (fun i _=>len-(intOf i).toNat)
     case atStart=>exact⟨0,Nat.zero_le _,rfl,(fun n h=>by cases h),Kept.refl _⟩
     case round =>
      obtain⟨k,hk,rfl,hrest,hK⟩:=hrel;have HS:=lH hrest;have HK:=lH hK;by_cases hlt:k<len
      · obtain⟨n,a1,m1,c1,hn,hd,hb,p0,p1,p2,hat⟩:=(HR.out.kept hK).at_ hlt;have HN:=lH hn;have Vu:=lH hat;clear hrest hK hat hd hn;by_cases z:50<n.name.size
        · have z1:(50:Int)<(n.name.size:Int):=by omega
          have HV:=lH (show Zz l=false from jeE HN.out (by unfold Xl;simp;omega));clear z;go_wp2;go_ret;exact⟨je HV.out.symm,HK.out⟩
        · have z1:(n.name.size:Int)≤50:=by omega
          have Z2:=lH (show n.name.size≤50 by omega);clear z
          cases f:Ye n.sel with
          | false =>
           have HV:=lH (show Zz l=false from jeE HN.out (by unfold Xl;rw[f];simp));have HF:=lH (jcK Vu.out.sel);rw[f] at HF;clear f;go_wp2_with fail
           refine HF.out.mono ?_;rintro e w1 ⟨rfl,rfl⟩;go_wp2;go_ret;exact⟨je HV.out.symm,HK.out⟩
          | true =>
           have HV:=lH (show Xl n=true by unfold Xl;rw[f];simp;exact Z2.out);have HF:=lH (jcK Vu.out.sel);rw[f] at HF;clear f;go_wp2_with fail
           refine HF.out.mono ?_;rintro e w1 ⟨rfl,rfl⟩;go_wp2;go_roundw
           case rel=>exact⟨k+1,by omega,by go_num,(fun x hx=>by
            rw[zE HN.out] at hx;rcases List.mem_append.1 hx with hx | hx
            · exact HS.out x hx
            · obtain rfl:x=n:=by simpa using hx
              exact HV.out),HK.out⟩
           case measure=>simp[intOf];omega
      · have HV:=lH (show Zz l=true by
         have e:l.take k=l:=List.take_of_length_le (by rw[HL.out];omega);rw[e] at hrest;unfold Zz;rw[List.all_eq_true.2 hrest,HL.out];simp;omega)
        clear hrest hK;go_wp2;go_ret;exact⟨je HV.out.symm,HK.out⟩
theorem jmv {v:Value} {l:List Bd} {c:Bool} {w:World} (h:JG w v l) (hc:Zz l=c):Calls Tryz.prog 73 #[v] w (Say (.bool c) w):=by
 subst hc;obtain⟨a,cap,rfl,_,_,hr⟩:=h;exact jjs a _ cap l w hr
theorem jif (n:Pd) (v1 v2 v3 v4:Value) (w:World) (h:js w v1 v2 v3 v4 n) :
 Calls Tryz.prog 7 #[jr n v1 v2 v3 v4] w (Say (.bool (Jq n)) w):=by
 obtain⟨x0,x1,x2,l1,l2,l3,l4,x3,x4,x5,x6⟩:=n;obtain⟨W0,hW0⟩:∃W0,w.alloc (.cells #[.string x0,.string x1,.int .i64 x2,v1,v2,v3,v4,.string x3,.int .i64 x4,.string x5,.bool x6] 35)=W0:=⟨_,rfl⟩
 have hk0:Kept w W0:=by rw[←hW0];exact ja _ _
 have hc:=jd w (.string x0) [.string x1,.int .i64 x2,v1,v2,v3,v4,.string x3,.int .i64 x4,.string x5,.bool x6] 35 W0 (by rw[hW0];exact Kept.refl _);have s0:x0.size≤maxLen:=h.name;have s1:x1.size≤maxLen:=h.owner;have s2:x3.size≤maxLen:=h.key;have s3:x5.size≤maxLen:=h.node;unfold maxLen at s0 s1 s2 s3;obtain⟨b0,hb0⟩:∃b,decide (x0.size≤50)=b:=⟨_,rfl⟩
 obtain⟨b1,hb1⟩:∃b,decide (x1.size≤50)=b:=⟨_,rfl⟩
 obtain⟨b2,hb2⟩:∃b,decide (x3.size≤50)=b:=⟨_,rfl⟩
 obtain⟨b3,hb3⟩:∃b,decide (x5.size≤50)=b:=⟨_,rfl⟩
 obtain⟨b4,hb4⟩:∃b,Vec.YC l1=b:=⟨_,rfl⟩
 obtain⟨b5,hb5⟩:∃b,Yb l2=b:=⟨_,rfl⟩
 obtain⟨b6,hb6⟩:∃b,Ye l3=b:=⟨_,rfl⟩
 obtain⟨b7,hb7⟩:∃b,Zd l4=b:=⟨_,rfl⟩
 have UR:=lH (show Jq ⟨x0,x1,x2,l1,l2,l3,l4,x3,x4,x5,x6⟩=(b0&&(b1&&(b2&&(b3&&(b4&&(b5&&(b6&&b7))))))) by unfold Jq;dsimp only;rw[hb0,hb1,hb2,hb3,hb4,hb5,hb6,hb7]);have E4:=lH (show Calls Tryz.prog 28 #[v1] W0 _ from Vec.jd9 (h.need.kept hk0) hb4);have E5:=lH (show Calls Tryz.prog 29 #[v2] W0 fun e w'=>e=.returned (.bool b5)∧W0=w' by rw[←hb5];exact jd9 (h.labels.kept hk0));have E6:=lH (show Calls Tryz.prog 30 #[v3] W0 fun e w'=>e=.returned (.bool b6)∧W0=w' by rw[←hb6];exact jcK (h.sel.kept hk0));have E7:=lH (show Calls Tryz.prog 31 #[v4] W0 fun e w'=>e=.returned (.bool b7)∧W0=w' by rw[←hb7];exact jmM (h.tols.kept hk0));have Vh:=lH hk0;have g0:decide ((x0.size:Int)≤50)=b0:=by rw[←hb0];simp only[decide_eq_decide];omega
 have g1:decide ((x1.size:Int)≤50)=b1:=by rw[←hb1];simp only[decide_eq_decide];omega
 have g2:decide ((x3.size:Int)≤50)=b2:=by rw[←hb2];simp only[decide_eq_decide];omega
 have g3:decide ((x5.size:Int)≤50)=b3:=by rw[←hb3];simp only[decide_eq_decide];omega
 have c0:=hc.at_ 0 _ rfl;have c1:=hc.at_ 1 _ rfl;have c3:=hc.at_ 3 _ rfl;have c4:=hc.at_ 4 _ rfl;have c5:=hc.at_ 5 _ rfl;have c6:=hc.at_ 6 _ rfl;have c7:=hc.at_ 7 _ rfl;have c9:=hc.at_ 9 _ rfl;clear hk0 h hc hb0 hb1 hb2 hb3 hb4 hb5 hb6 hb7;unfold jr;dsimp only
 cases b0 with
 | false =>
  have g0:50<(x0.size:Int):=by have:=of_decide_eq_false g0;omega
  have HV:=lH (show Jq ⟨x0,x1,x2,l1,l2,l3,l4,x3,x4,x5,x6⟩=false by rw[UR.out];simp);go_enter Tryz.func7,Tryz.ntmps7;go_wp2;try rw[hW0]
  go_ret;exact⟨je HV.out.symm,Vh.out⟩
 | true =>
  have g0:(x0.size:Int)≤50:=of_decide_eq_true g0
  cases b1 with
  | false =>
   have g1:50<(x1.size:Int):=by have:=of_decide_eq_false g1;omega
   have HV:=lH (show Jq ⟨x0,x1,x2,l1,l2,l3,l4,x3,x4,x5,x6⟩=false by rw[UR.out];simp);go_enter Tryz.func7,Tryz.ntmps7;go_wp2;try rw[hW0]
   go_ret;exact⟨je HV.out.symm,Vh.out⟩
  | true =>
   have g1:(x1.size:Int)≤50:=of_decide_eq_true g1
   cases b2 with
   | false =>
    have g2:50<(x3.size:Int):=by have:=of_decide_eq_false g2;omega
    have HV:=lH (show Jq ⟨x0,x1,x2,l1,l2,l3,l4,x3,x4,x5,x6⟩=false by rw[UR.out];simp);go_enter Tryz.func7,Tryz.ntmps7;go_wp2;try rw[hW0]
    go_ret;exact⟨je HV.out.symm,Vh.out⟩
   | true =>
    have g2:(x3.size:Int)≤50:=of_decide_eq_true g2
    cases b3 with
    | false =>
     have g3:50<(x5.size:Int):=by have:=of_decide_eq_false g3;omega
     have HV:=lH (show Jq ⟨x0,x1,x2,l1,l2,l3,l4,x3,x4,x5,x6⟩=false by rw[UR.out];simp);go_enter Tryz.func7,Tryz.ntmps7;go_wp2;try rw[hW0]
     go_ret;exact⟨je HV.out.symm,Vh.out⟩
    | true =>
     have g3:(x5.size:Int)≤50:=of_decide_eq_true g3
     cases b4 with
     | false =>
      have HV:=lH (show Jq ⟨x0,x1,x2,l1,l2,l3,l4,x3,x4,x5,x6⟩=false by rw[UR.out];simp);go_enter Tryz.func7,Tryz.ntmps7;go_wp2_with fail
      try rw[hW0]
      refine E4.out.mono ?_;rintro e w9 ⟨rfl,rfl⟩;go_wp2;go_ret;exact⟨je HV.out.symm,Vh.out⟩
     | true =>
      cases b5 with
      | false =>
       have HV:=lH (show Jq ⟨x0,x1,x2,l1,l2,l3,l4,x3,x4,x5,x6⟩=false by rw[UR.out];simp);go_enter Tryz.func7,Tryz.ntmps7;go_wp2_with fail
       try rw[hW0]
       refine E4.out.mono ?_;rintro e w9 ⟨rfl,rfl⟩;go_wp2_with fail
       refine E5.out.mono ?_;rintro e w9 ⟨rfl,rfl⟩;go_wp2;go_ret;exact⟨je HV.out.symm,Vh.out⟩
      | true =>
       cases b6 with
       | false =>
        have HV:=lH (show Jq ⟨x0,x1,x2,l1,l2,l3,l4,x3,x4,x5,x6⟩=false by rw[UR.out];simp);go_enter Tryz.func7,Tryz.ntmps7;go_wp2_with fail
        try rw[hW0]
        refine E4.out.mono ?_;rintro e w9 ⟨rfl,rfl⟩;go_wp2_with fail
        refine E5.out.mono ?_;rintro e w9 ⟨rfl,rfl⟩;go_wp2_with fail
        refine E6.out.mono ?_;rintro e w9 ⟨rfl,rfl⟩;go_wp2;go_ret;exact⟨je HV.out.symm,Vh.out⟩
       | true =>
        have HV:=lH (show Jq ⟨x0,x1,x2,l1,l2,l3,l4,x3,x4,x5,x6⟩=b7 by rw[UR.out];rfl);go_enter Tryz.func7,Tryz.ntmps7;go_wp2_with fail
        try rw[hW0]
        refine E4.out.mono ?_;rintro e w9 ⟨rfl,rfl⟩;go_wp2_with fail
        refine E5.out.mono ?_;rintro e w9 ⟨rfl,rfl⟩;go_wp2_with fail
        refine E6.out.mono ?_;rintro e w9 ⟨rfl,rfl⟩;go_wp2_with fail
        refine E7.out.mono ?_;rintro e w9 ⟨rfl,rfl⟩;go_wp2;go_ret;exact⟨je HV.out.symm,Vh.out⟩
theorem jiU {v:Value} {n:Pd} {b:Bool} {w:World} (h:YN w v n) (hb:Jq n=b):Calls Tryz.prog 7 #[v] w (Say (.bool b) w):=by
 subst hb;obtain⟨v1,v2,v3,v4,rfl,h⟩:=h;exact jif n v1 v2 v3 v4 w h
def XP (s:Clu):Bool:=decide (s.nodes.length≤34)&&(decide (s.pods.length≤130)&&(Zz s.buds&&(s.nodes.all ZI&&s.pods.all Jq)))
theorem qV {a:Option Addr} {len cap:Nat} {l:List Nod} {w:World} (h1:len≤cap) (h2:cap≤maxLen) (h:jE w a len l):zV w (.slice a len cap) l:=⟨a,cap,by rw[h.1],by rw[h.1];exact h1,h2,by rw[h.1];exact h⟩
theorem jgu {a:Option Addr} {len cap:Nat} {l:List Pd} {w:World} (h1:len≤cap) (h2:cap≤maxLen) (h:jN w a len l):zr w (.slice a len cap) l:=⟨a,cap,by rw[h.1],by rw[h.1];exact h1,h2,by rw[h.1];exact h⟩
theorem jcF {a:Option Addr} {len cap:Nat} {l:List Bd} {w:World} (h1:len≤cap) (h2:cap≤maxLen) (h:Jc w a len l):JG w (.slice a len cap) l:=⟨a,cap,by rw[h.1],by rw[h.1];exact h1,h2,by rw[h.1];exact h⟩
theorem jgZ {α:Type} {f:α→Bool} {l:List α} {k:Nat} {x:α} (hd:l.drop k=x::l.drop (k+1)) (h:f x=true) (hr:(l.drop k).all f=l.all f):(l.drop (k+1)).all f=l.all f:=by
 rw[←hr,hd,List.all_cons,h,Bool.true_and]
theorem jev {α:Type} {f:α→Bool} {l:List α} {k:Nat} {x:α} (hd:l.drop k=x::l.drop (k+1)) (h:f x=false) (hr:(l.drop k).all f=l.all f):l.all f=false:=by
 rw[←hr,hd,List.all_cons,h,Bool.false_and]
theorem jgt {α:Type} {f:α→Bool} {l:List α} {k:Nat} (h:l.length≤k) (hr:(l.drop k).all f=l.all f):l.all f=true:=by
 rw[←hr,List.drop_of_length_le h];rfl
theorem jmk {v:Value} {s:Clu} {c:Bool} {w:World} (h:jA w v s) (hc:XP s=c):Calls Tryz.prog 26 #[v] w (Say (.bool c) w):=by
 subst hc;obtain⟨v1,v2,v3,rfl,⟨a,cap,rfl,l1,m1,h1⟩,⟨b,cp,rfl,l2,m2,h2⟩,⟨d,cb,rfl,l3,m3,h3⟩⟩:=h;obtain⟨nl,pl,bl⟩:=s;dsimp only at *;obtain⟨len,hlen⟩:∃q,nl.length=q:=⟨_,rfl⟩
 obtain⟨m,hm⟩:∃q,pl.length=q:=⟨_,rfl⟩
 obtain⟨n,hn⟩:∃q,bl.length=q:=⟨_,rfl⟩
 rw[hlen] at h1 l1;rw[hm] at h2 l2;rw[hn] at h3 l3;try rw[hlen]
 try rw[hm]
 try rw[hn]
 skip;obtain⟨Z,hZ⟩:∃Z,w.alloc (.cells #[.slice a len cap,.slice b m cp,.slice d n cb] 26)=Z:=⟨_,rfl⟩
 have hkz:Kept w Z:=by rw[←hZ];exact ja _ _
 have HQ:=lH (show jf w.heap.size [.slice a len cap,.slice b m cp,.slice d n cb] Z from jd w (.slice a len cap) [.slice b m cp,.slice d n cb] 26 Z (by rw[hZ];exact Kept.refl _));obtain⟨e3,he3⟩:∃e,Zz bl=e:=⟨_,rfl⟩
 have HB:=lH (jmv (jcF l3 m3 (h3.kept hkz)) he3);have HV:=lH (show XP ⟨nl,pl,bl⟩=(decide (len≤34)&&(decide (m≤130)&&(e3&&(nl.all ZI&&pl.all Jq)))) by unfold XP;dsimp only;rw[hlen,hm,he3]);have HN:=lH (h1.kept hkz);have HP:=lH (h2.kept hkz);have Ve:=lH hkz;have Md:=lH (Nat.le_trans l1 m1);have Rl:=lH (Nat.le_trans l2 m2);have Uz:=lH hlen;have UJ:=lH hm;have hml1:=Nat.le_trans l1 m1;have hml2:=Nat.le_trans l2 m2;unfold maxLen at hml1 hml2;clear h1 h2 h3 l1 l2 l3 m1 m2 m3 he3 hkz;have cq0:=HQ.out.at_ 0 _ rfl;have cq1:=HQ.out.at_ 1 _ rfl;have cq2:=HQ.out.at_ 2 _ rfl;by_cases hA:34<len
 · have HX:=lH (HV.out.trans (by rw[decide_eq_false (show ¬len≤34 by omega),Bool.false_and]));have hA':(34:Int)<(len:Int):=by omega
   rw[HX.out];go_enter Tryz.func26,Tryz.ntmps26;go_wp2;try rw[hZ]
   go_ret;exact⟨rfl,Ve.out⟩
 by_cases hB:130<m
 · have HX:=lH (HV.out.trans (by rw[decide_eq_true (show len≤34 by omega),decide_eq_false (show ¬m≤130 by omega),Bool.false_and,Bool.and_false]));have hA':¬(34:Int)<(len:Int):=by omega
   have hB':(130:Int)<(m:Int):=by omega
   rw[HX.out];go_enter Tryz.func26,Tryz.ntmps26;go_wp2;try rw[hZ]
   go_ret;exact⟨rfl,Ve.out⟩
 have hA':¬(34:Int)<(len:Int):=by omega
 have hB':¬(130:Int)<(m:Int):=by omega
 have HX:=lH (HV.out.trans (by rw[decide_eq_true (show len≤34 by omega),decide_eq_true (show m≤130 by omega),Bool.true_and,Bool.true_and]));rw[HX.out];clear HV HX;go_enter Tryz.func26,Tryz.ntmps26;go_wp2_with fail
 try rw[hZ]
 clear hZ;refine HB.out.mono ?_;rintro e w1 ⟨rfl,kk⟩;have KW:=lH kk;clear kk cq0 cq1 cq2 HB
 cases e3 with
 | false =>
  go_wp2;go_ret;exact⟨rfl,Ve.out.trans KW.out⟩
 | true =>
  have cq0:=(HQ.out.kept KW.out).at_ 0 _ rfl;have cq1:=(HQ.out.kept KW.out).at_ 1 _ rfl;have cq2:=(HQ.out.kept KW.out).at_ 2 _ rfl;go_wp2;go_loopw [3] (fun i wr=>∃k:Nat,k≤len∧i=.int .i64 k∧(nl.drop k).all ZI=nl.all ZI∧Kept Z wr) (fun i _=>len-(intOf i).toNat)
  case atStart=>exact⟨0,Nat.zero_le _,rfl,rfl,KW.out⟩
  case round =>
   clear cq0 cq1 cq2;obtain⟨k,hk,rfl,hrest,hK⟩:=hrel;have HS:=lH hrest;have KN:=lH hK;have cq0:=(HQ.out.kept hK).at_ 0 _ rfl;have cq1:=(HQ.out.kept hK).at_ 1 _ rfl;have cq2:=(HQ.out.kept hK).at_ 2 _ rfl;by_cases hlt:k<len
   · obtain⟨b9,off,rfl⟩:=HN.out.form.resolve_left (by omega);obtain⟨n9,x1,y1,z1,x2,y2,z2,x3,y3,z3,hn,hd,hb,p0,p1,p2,p3,p4,hat⟩:=(HN.out.kept hK).at_ hlt;have HD:=lH hd;obtain⟨t,ht⟩:∃t,ZI n9=t:=⟨_,rfl⟩
     have HT:=lH ht;have HC:=lH (show Calls Tryz.prog 74 #[zw n9 (.slice x1 y1 z1) (.slice x2 y2 z2) (.slice x3 y3 z3)] wr (Say (.bool t) wr) from jlq ⟨_,_,_,rfl,hat⟩ ht);unfold zw at HC;have hkk:(k:Int)<(len:Int):=by omega
     clear hrest hK hat hn hd ht
     cases t with
     | false =>
      have HF:=lH (jev HD.out HT.out HS.out);go_wp2_with fail
      refine HC.out.mono ?_;rintro e w9 ⟨rfl,kk⟩;have KW:=lH (KN.out.trans kk);clear kk;go_wp2;go_ret;exact⟨by rw[HF.out];simp,Ve.out.trans KW.out⟩
     | true =>
      have HF:=lH (jgZ HD.out HT.out HS.out);go_wp2_with fail
      refine HC.out.mono ?_;rintro e w9 ⟨rfl,kk⟩;have KW:=lH (KN.out.trans kk);clear kk cq0 cq1 cq2;go_wp2;go_roundw
      case rel=>exact⟨k+1,by omega,by go_num,HF.out,KW.out⟩
      case measure=>simp[intOf];omega
   · have NA:=lH (jgt (by rw[Uz.out];omega) hrest);have hkk:¬(k:Int)<(len:Int):=by omega
     clear hrest hK;clear cq0 cq1 cq2;have cq0:=(HQ.out.kept KN.out).at_ 0 _ rfl;have cq1:=(HQ.out.kept KN.out).at_ 1 _ rfl;have cq2:=(HQ.out.kept KN.out).at_ 2 _ rfl;go_wp2;go_loopw [4] (fun i wr=>∃k:Nat,k≤m∧i=.int .i64 k∧(pl.drop k).all Jq=pl.all Jq∧Kept Z wr) (fun i _=>m-(intOf i).toNat)
     case atStart=>exact⟨0,Nat.zero_le _,rfl,rfl,KN.out⟩
     case round =>
      clear cq0 cq1 cq2;obtain⟨k,hk,rfl,hrest,hK⟩:=hrel;have HS:=lH hrest;have KP:=lH hK;have cq0:=(HQ.out.kept hK).at_ 0 _ rfl;have cq1:=(HQ.out.kept hK).at_ 1 _ rfl;have cq2:=(HQ.out.kept hK).at_ 2 _ rfl;by_cases hlt:k<m
      · obtain⟨b9,off,rfl⟩:=HP.out.form.resolve_left (by omega);obtain⟨n9,x1,y1,z1,x2,y2,z2,x3,y3,z3,x4,y4,z4,hn,hd,hb,p0,p1,p2,p3,p4,p5,p6,p7,p8,p9,p10,hat⟩:=(HP.out.kept hK).at_ hlt;have HD:=lH hd;obtain⟨t,ht⟩:∃t,Jq n9=t:=⟨_,rfl⟩
        have HT:=lH ht;have HC:=lH (show Calls Tryz.prog 7 #[jr n9 (.slice x1 y1 z1) (.slice x2 y2 z2) (.slice x3 y3 z3) (.slice x4 y4 z4)] wr (Say (.bool t) wr) from jiU ⟨_,_,_,_,rfl,hat⟩ ht);unfold jr at HC;have hkk:(k:Int)<(m:Int):=by omega
        clear hrest hK hat hn hd ht
        cases t with
        | false =>
         have HF:=lH (jev HD.out HT.out HS.out);go_wp2_with fail
         refine HC.out.mono ?_;rintro e w9 ⟨rfl,kk⟩;have KW:=lH (KP.out.trans kk);clear kk;go_wp2;go_ret;exact⟨by rw[HF.out];simp,Ve.out.trans KW.out⟩
        | true =>
         have HF:=lH (jgZ HD.out HT.out HS.out);go_wp2_with fail
         refine HC.out.mono ?_;rintro e w9 ⟨rfl,kk⟩;have KW:=lH (KP.out.trans kk);clear kk cq0 cq1 cq2;go_wp2;go_roundw
         case rel=>exact⟨k+1,by omega,by go_num,HF.out,KW.out⟩
         case measure=>simp[intOf];omega
      · have NB:=lH (jgt (by rw[UJ.out];omega) hrest);have hkk:¬(k:Int)<(m:Int):=by omega
        clear hrest hK;go_wp2;go_ret;exact⟨by rw[NA.out,NB.out];rfl,Ve.out.trans KP.out⟩
theorem X6 (a:Option Addr) (len cap:Nat) (l:List Nod) (x:ByteArray) (w:World) (hr:jE w a len l) :
 Calls Tryz.prog 48 #[.slice a len cap,.string x] w fun e w'=>∃v,e=.returned (.tuple #[v,.bool (jj l x).isSome])∧qk w' v ((jj l x).getD Nod.zero)∧Kept w w':=by
 have hl:=hr.1;have hm:=hr.2.1;unfold maxLen at hm;obtain⟨Z,hZ⟩:∃Z,w.alloc (.cells #[.string ⟨#[]⟩,.slice none 0 0,.slice none 0 0,.slice none 0 0,.bool false] 99)=Z:=⟨_,rfl⟩
 have hkz:Kept w Z:=by rw[←hZ];exact ja _ _
 have HQ:=lH (show zA w.heap.size (.string ⟨#[]⟩) (.slice none 0 0) (.slice none 0 0) (.slice none 0 0) (.bool false) Z from Yx w _ _ _ _ _ 99 Z (by rw[hZ];exact Kept.refl _));have HH:=lH (show Z.heap[w.heap.size]?=some (.cells #[.string ⟨#[]⟩,.slice none 0 0,.slice none 0 0,.slice none 0 0,.bool false] 99) by rw[←hZ];exact w.alloc_heap_new _);have Ve:=lH hkz;have HR:=lH (hr.kept hkz);have HL:=lH hl;obtain⟨⟨y0,y1,y2,y3,y4⟩,x0,x1,x2,x3,x4⟩:=HQ.out;have P0:=lH (Zi ⟨y0,y1,y2,y3,y4⟩ ⟨#[]⟩ none none none 0 0 0 0 0 0 false);by_cases h0:len=0
 · subst h0;have hl0:l=[]:=List.eq_nil_of_length_eq_zero hl;have HF:=lH (show jj l x=none by rw[hl0];rfl);clear hr hl hkz;go_enter Tryz.func48,Tryz.ntmps48;go_wp2;try rw[hZ]
   clear hZ;refine wp_loop_rounds 1 ?_;rw[rounds_succ];go_wp2;obtain⟨WE,hWE⟩:∃W,(((((Z.setCell ⟨w.heap.size,0,none⟩ (.string ⟨#[]⟩)).setCell ⟨w.heap.size,1,none⟩ (.slice none 0 0)).setCell ⟨w.heap.size,2,none⟩ (.slice none 0 0)).setCell ⟨w.heap.size,3,none⟩ (.slice none 0 0)).setCell ⟨w.heap.size,4,none⟩ (.bool false))=W:=⟨_,rfl⟩
   rw[hWE] at P0 ⊢;clear hWE y0 y1 y2 y3 y4 x0 x1 x2 x3 x4;obtain⟨⟨e0,e1,e2,e3,e4⟩,hsz,hbl,hkp⟩:=P0.out;refine bodyPost_ret (by simp[results,Tryz.results48,go_sem,e0,e1,e2,e3,e4];try rfl) rfl ?_;rw[HF.out];exact⟨_,rfl,(YH 0 _).toR,hkp _ _ (Nat.le_refl _) Ve.out⟩
 · obtain⟨b,off,rfl⟩:=hr.form.resolve_left h0;clear hr hl hkz h0;go_enter Tryz.func48,Tryz.ntmps48;go_wp2;try rw[hZ]
   clear hZ;go_loop [6] (fun i=>∃k:Nat,k≤len∧i=.int .i64 k∧jj (l.drop k) x=jj l x) (fun i=>len-(intOf i).toNat)
   case atStart=>exact⟨0,Nat.zero_le _,rfl,rfl⟩
   case round =>
    obtain⟨k,hk,rfl,hrest⟩:=hrel;have HS:=lH hrest;by_cases hlt:k<len
    · obtain⟨n,a1,m1,c1,a2,m2,c2,a3,m3,c3,hn,hd,hb,p0,p1,p2,p3,p4,hat⟩:=HR.out.at_ hlt;have Vu:=lH hat;have HD:=lH hd;clear hrest hat hd hn;by_cases he:eqS n.name x=true
      · have he':(n.name.toList==x.toList)=true:=he;have HF:=lH (show jj l x=some n by rw[←HS.out,HD.out];unfold jj;rw[List.find?_cons,he]);have P:=lH (Zi ⟨y0,y1,y2,y3,y4⟩ n.name a1 a2 a3 m1 c1 m2 c2 m3 c3 n.cordon);obtain⟨⟨z,l1,l2,l3,cd⟩,hnn⟩:∃m,m=n:=⟨n,rfl⟩
        subst hnn;dsimp only at P he' p0 p4;clear he;go_wp2;obtain⟨WE,hWE⟩:∃W,(((((Z.setCell ⟨w.heap.size,0,none⟩ (.string z)).setCell ⟨w.heap.size,1,none⟩ (.slice a1 m1 c1)).setCell ⟨w.heap.size,2,none⟩ (.slice a2 m2 c2)).setCell ⟨w.heap.size,3,none⟩ (.slice a3 m3 c3)).setCell ⟨w.heap.size,4,none⟩ (.bool cd))=W:=⟨_,rfl⟩
        rw[hWE] at P ⊢;clear hWE y0 y1 y2 y3 y4 x0 x1 x2 x3 x4;obtain⟨⟨e0,e1,e2,e3,e4⟩,hsz,hbl,hkp⟩:=P.out;refine bodyPost_ret (by simp[results,Tryz.results48,go_sem,e0,e1,e2,e3,e4];try rfl) rfl ?_;rw[HF.out];exact⟨_,rfl,⟨_,_,_,rfl,jau Vu.out hsz hbl (ji5 HH.out)⟩,hkp _ _ (Nat.le_refl _) Ve.out⟩
      · have he:eqS n.name x=false:=by simpa using he
        have he':(n.name.toList==x.toList)=false:=he;have HE:=lH (show jj (l.drop k) x=jj (l.drop (k+1)) x by rw[HD.out];unfold jj;rw[List.find?_cons,he]);clear he;go_wp2;go_round
        case rel=>exact⟨k+1,by omega,by go_num,HE.out.symm.trans HS.out⟩
        case measure=>simp[intOf];omega
    · have HF:=lH (show jj l x=none by rw[←hrest,List.drop_of_length_le (by rw[HL.out];omega)];rfl);clear hrest;go_wp2;obtain⟨WE,hWE⟩:∃W,(((((Z.setCell ⟨w.heap.size,0,none⟩ (.string ⟨#[]⟩)).setCell ⟨w.heap.size,1,none⟩ (.slice none 0 0)).setCell ⟨w.heap.size,2,none⟩ (.slice none 0 0)).setCell ⟨w.heap.size,3,none⟩ (.slice none 0 0)).setCell ⟨w.heap.size,4,none⟩ (.bool false))=W:=⟨_,rfl⟩
      rw[hWE] at P0 ⊢;clear hWE y0 y1 y2 y3 y4 x0 x1 x2 x3 x4;obtain⟨⟨e0,e1,e2,e3,e4⟩,hsz,hbl,hkp⟩:=P0.out;refine bodyPost_ret (by simp[results,Tryz.results48,go_sem,e0,e1,e2,e3,e4];try rfl) rfl ?_;rw[HF.out];exact⟨_,rfl,(YH 0 _).toR,hkp _ _ (Nat.le_refl _) Ve.out⟩
theorem jew {v:Value} {l:List Nod} {x:ByteArray} {w:World} (h:zV w v l) :
 Calls Tryz.prog 48 #[v,.string x] w fun e w'=>∃v,e=.returned (.tuple #[v,.bool (jj l x).isSome])∧qk w' v ((jj l x).getD Nod.zero)∧Kept w w':=by
 obtain⟨a,cap,rfl,_,_,hr⟩:=h;exact X6 a _ cap l x w hr
end Go.Proofs.YtmlgobiifebjkabGreat
namespace Go.Proofs.YtmlgobiifebjkabGreat.Vec
open Go.RowKit
def zg:Nat→V→V→List ByteArray
 | 0,_,_=>[]
 | fuel+1,la,lb =>
  if la.length+lb.length=0 then []
  else jn la lb::zg fuel (jC la (jn la lb)).2 (jC lb (jn la lb)).2
def Jh (f:Int→Int→Int×Int) (la lb:V):List ByteArray→V→Int×V
 | [],acc=>(0,acc)
 | n::t,acc=>if (f (jy la n) (jy lb n)).2≠0 then ((f (jy la n) (jy lb n)).2,[]) else Jh f la lb t (Xf acc n (f (jy la n) (jy lb n)).1)
theorem XR {l:V} {s:ByteArray}:∀y ∈ (jC l s).2,y ∈ l:=by
 cases l with
 | nil=>intro y hy;exact hy
 | cons x t =>
  rw[zO];split
  · exact fun y hy=>List.mem_cons_of_mem _ hy
  · exact fun y hy=>hy
theorem jas {la lb:V} (h:0<la.length+lb.length):(∃y ∈ la,y.1=jn la lb)∨(∃y ∈ lb,y.1=jn la lb):=by
 cases la with
 | nil =>
  cases lb with
  | nil=>simp at h
  | cons y t=>exact .inr ⟨y,by simp,rfl⟩
 | cons x s =>
  cases lb with
  | nil=>exact .inl ⟨x,by simp,rfl⟩
  | cons y t =>
   rw[JX];split
   · exact .inr ⟨y,by simp,rfl⟩
   · exact .inl ⟨x,by simp,rfl⟩
theorem jbU (f:Int→Int→Int×Int) (la0 lb0:V):∀(fuel:Nat) (la lb acc:V),Gd la→Gd lb →
 (∀n,((∃y ∈ la,y.1=n)∨(∃y ∈ lb,y.1=n))→jy la0 n=jy la n∧jy lb0 n=jy lb n) →
 Jh f la0 lb0 (zg fuel la lb) acc=zS f fuel la lb acc
 | 0,_,_,_,_,_,_=>rfl
 | fuel+1,la,lb,acc,ha,hb,h=>by
  unfold zg zS;by_cases h0:la.length+lb.length=0
  · rw[if_pos h0,if_pos h0];rfl
  · rw[if_neg h0,if_neg h0];obtain⟨hs,hsa,hsb,_⟩:=jdT ha hb (by omega);have hm:=h _ (jas (la:=la) (lb:=lb) (by omega));obtain⟨s,es⟩:∃s,jn la lb=s:=⟨_,rfl⟩
    rw[es] at hs hsa hsb hm ⊢;obtain⟨a1,a2,a3,a4,_⟩:=jdo ha hsa;obtain⟨b1,b2,b3,b4,_⟩:=jdo hb hsb;rw[Jh];dsimp only;rw[hm.1,hm.2,a1,b1];split
    · rfl
    · refine jbU f la0 lb0 fuel _ _ _ a2 b2 fun n hn=>?_;have hne:n≠s:=by
       rcases hn with ⟨y,hy,rfl⟩ | ⟨y,hy,rfl⟩
       · exact(ZX (a3 y hy)).symm
       · exact(ZX (b3 y hy)).symm
      rw[a4 n hne,b4 n hne];refine h n (hn.imp ?_ ?_)
      · rintro ⟨y,hy,e⟩;exact⟨y,XR y hy,e⟩
      · rintro ⟨y,hy,e⟩;exact⟨y,XR y hy,e⟩
theorem jbb (f:Int→Int→Int×Int) {l l':V} (h:jD l=0) (h':jD l'=0) (hf:Jj l) (hf':Jj l') :
 jk f l l'=(let r:=Jh f l l' (zg (l.length+l'.length) l l') [];if r.1≠0 then (r.1,[]) else if 8<r.2.length then (4,[]) else (0,r.2)):=by
 rw[jk,if_neg (by rw[h];decide),if_neg (by rw[h'];decide),jbU f l l' _ l l' [] (Zq h hf) (Zq h' hf') (fun n _=>⟨rfl,rfl⟩)]
theorem jiz {fuel:Nat} {la lb:V} (h:la.length+lb.length=0):zg fuel la lb=[]:=by
 cases fuel with
 | zero=>rfl
 | succ n=>rw[zg,if_pos h]
theorem jbQ {fuel:Nat} {l l':V} {i k:Nat} (hi:i<l.length) (h:¬k<l'.length∨(k<l'.length∧ltS (nm l i) (nm l' k)=true)) :
 zg (fuel+1) (l.drop i) (l'.drop k)=nm l i::zg fuel (l.drop (i+1)) (l'.drop k):=by
 rw[zg,if_neg (by simp only[List.length_drop];omega),drop_cons hi];rcases h with h | ⟨h,e⟩
 · rw[List.drop_of_length_le (l:=l') (by omega)];have e1:jn ((nm l i,qn l i)::l.drop (i+1)) []=nm l i:=rfl;rw[e1,zO,if_pos (jL.2 rfl)];rfl
 · rw[drop_cons h];have e2:ltS (nm l' k) (nm l i)=false:=by
    cases e3:ltS (nm l' k) (nm l i) with
    | false=>rfl
    | true=>exact(X9 e e3).elim
   rw[JX,if_neg (by rw[e2];decide),zO,if_pos (jL.2 rfl),zO,if_neg (fun c=>ZX e (jL.1 c).symm)]
theorem jba {fuel:Nat} {l l':V} {i k:Nat} (hk:k<l'.length) (h:¬i<l.length∨(i<l.length∧ltS (nm l' k) (nm l i)=true)) :
 zg (fuel+1) (l.drop i) (l'.drop k)=nm l' k::zg fuel (l.drop i) (l'.drop (k+1)):=by
 rw[zg,if_neg (by simp only[List.length_drop];omega),drop_cons hk];rcases h with h | ⟨h,e⟩
 · rw[List.drop_of_length_le (l:=l) (by omega)];have e1:jn [] ((nm l' k,qn l' k)::l'.drop (k+1))=nm l' k:=rfl;rw[e1,zO,if_pos (jL.2 rfl)];rfl
 · rw[drop_cons h];rw[JX,if_pos e,zO (nm l' k,qn l' k),if_pos (jL.2 rfl),zO,if_neg (fun c=>ZX e (jL.1 c).symm)]
theorem jjw {fuel:Nat} {l l':V} {i k:Nat} (hi:i<l.length) (hk:k<l'.length) (h1:ltS (nm l i) (nm l' k)=false) (h2:ltS (nm l' k) (nm l i)=false) :
 zg (fuel+1) (l.drop i) (l'.drop k)=nm l i::zg fuel (l.drop (i+1)) (l'.drop (k+1)):=by
 have e:=Xo h1 h2;rw[zg,if_neg (by simp only[List.length_drop];omega),drop_cons hi,drop_cons hk];rw[JX,if_neg (by rw[h2];decide),zO,if_pos (jL.2 rfl),zO,if_pos (jL.2 e.symm)]
end Go.Proofs.YtmlgobiifebjkabGreat.Vec
