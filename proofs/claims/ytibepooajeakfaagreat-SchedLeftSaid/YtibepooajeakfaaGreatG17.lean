/- C. -/
import Derived.Test.YtibepooajeakfaaGreatG5
import Derived.Test.YtibepooajeakfaaGreatG8
import Derived.Test.YtibepooajeakfaaGreatG10
import Derived.Test.YtibepooajeakfaaGreatG16
import Derived.Shelf.Spec.SlicesInsert
set_option linter.unusedVariables false
set_option maxRecDepth 100000
set_option maxHeartbeats 25600000
namespace Go.Proofs.YtibepooajeakfaaGreat
open Go.RowKit
structure ZI {X A:Type} (L:Lay X) (T:TypeId) (At:World→X→Prop) (fst:X→A) (B g len c k:Nat) (l:List A) (w wr:World) (lx:List X):Prop where
 own:Own L T wr B (.slice (some ⟨g,0,none⟩) len c) lx
 map:lx.map fst=l
 done:∀j z,lx[j]?=some z→j<k→Off (fun b=>b<B∨b=g) wr fun u=>At u z
 todo:∀j z,lx[j]?=some z→k≤j→Off (fun b=>B≤b) wr fun u=>At u z
 kept:Below B w wr
theorem ZI.start {X A:Type} {L:Lay X} {T:TypeId} {At:World→X→Prop} {fst:X→A} {g len c:Nat} {l:List A} {w wr:World} {lx:List X} (ho:Own L T wr w.heap.size (.slice (some ⟨g,0,none⟩) len c) lx) (hm:lx.map fst=l) (hk:Kept w wr) (hat:∀z ∈ lx,∀u,Kept w u→At u z) :
 ZI L T At fst w.heap.size g len c 0 l w wr lx :=
 ⟨ho,hm,fun j z _ h=>absurd h (Nat.not_lt_zero _),fun j z hz _=>Off.of (hat z (List.mem_of_getElem? hz)) hk fun i h=>h,hk⟩
theorem ZI.next {X A:Type} {L:Lay X} {T:TypeId} {At:World→X→Prop} {fst:X→A} {B g len c k:Nat} {l:List A} {w wr w1:World} {lx:List X} {z z':X} (h:ZI L T At fst B g len c k l w wr lx) (hz:lx[k]?=some z) (hf:fst z'=fst z) (hfine:L.fine z') (hk:Kept wr w1) (hB:B≤wr.heap.size)
 (hat:Off (fun b=>b<B∨b=g) w1 fun u=>At u z'):ZI L T At fst B g len c (k+1) l w (w1.setCells g (k*L.m) (L.cs z')) (lx.set k z'):=by
 have hl:k<lx.length:=(List.getElem?_eq_some_iff.1 hz).1;have hg:=Jy h.own g rfl;refine⟨(h.own.kept hk).Zc hl z' hfine,?_,fun j y hy hj=>?_,fun j y hy hj=>?_,js g _ _ _ B w hg.1 (h.kept.trans (Below.mono hk hB))⟩
 · rw[←h.map];apply List.ext_getElem?;intro i;rw[List.getElem?_map,List.getElem?_map];by_cases e:k=i
   · subst e;rw[List.getElem?_set_self hl,hz];simp[hf]
   · rw[List.getElem?_set_ne e]
 · have gc:jg (fun b=>b<B∨b=g) w1 (w1.setCells g (k*L.m) (L.cs z')):=jg.cells (S:=fun b=>b<B∨b=g) g (.inr rfl) _ _ _;by_cases e:k=j
   · subst e;rw[List.getElem?_set_self hl] at hy;obtain rfl:=Option.some.inj hy;exact hat.step gc
   · rw[List.getElem?_set_ne e] at hy;exact((h.done j y hy (by omega)).step (jg.of hk)).step gc
 · have gc:jg (fun b=>B≤b) w1 (w1.setCells g (k*L.m) (L.cs z')):=jg.cells (S:=fun b=>B≤b) g hg.1 _ _ _;rw[List.getElem?_set_ne (by omega)] at hy;exact((h.todo j y hy (by omega)).step (jg.of hk)).step gc
theorem ZI.deep {X A:Type} {L:Lay X} {T:TypeId} {At:World→X→Prop} {fst:X→A} {B g len c k:Nat} {l:List A} {w wr:World} {lx:List X} (h:ZI L T At fst B g len c k l w wr lx) (hk:lx.length≤k):Deep L T At wr B (.slice (some ⟨g,0,none⟩) len c) lx∧∀z ∈ lx,Off (fun b=>b<B∨b=g) wr fun u=>At u z:=by
 have key:∀z ∈ lx,Off (fun b=>b<B∨b=g) wr fun u=>At u z:=fun z hz=>by
  obtain⟨j,hj,e⟩:=List.getElem_of_mem hz;exact h.done j z (by rw[List.getElem?_eq_getElem hj,e]) (by omega)
 exact⟨⟨h.own,fun z hz=>(key z hz).less fun b e=>.inr (Option.some.inj e).symm⟩,key⟩
def J8 {X:Type} (L:Lay X) (T:TypeId) (At:World→X→Prop) (B:Nat) (w:World) (v:Value) (lx:List X):Prop:=(∃a n c,v=.slice a n c)∧Deep L T At w B v lx∧∀z ∈ lx,Off (fun b=>b<B∨v.ownBlock=some b) w fun u=>At u z
theorem jii (a:Option Addr) (len cap:Nat) (l:List Nod) (w:World) (hr:jt w a len l) (hc:len≤cap) (hm:cap≤maxLen) (hn:len≤100000) (hlow:∀n ∈ l,zW n) :
 Calls Tryz.prog 81 #[.slice a len cap,.func (.func 82) #[] #[]] w fun e w'=>∃v lx,e=.returned v∧(lx.map fun z=>z.1)=l∧J8 zp 78 At3 w.heap.size w' v lx∧Kept w w':=by
 obtain⟨lx0,hmap,hrx,hat0⟩:=jga hr;obtain⟨HC,Vr,V1,Us,TC⟩:=lH5 (jdK a len cap lx0 w hrx hc hm hn) hlow hmap hat0 hrx.1;clear hr hmap hrx hat0 hlow hc hm;go_enter Tryz.func81,Tryz.ntmps81;go_wp2_with fail
 refine HC.out.mono ?_;rintro e w1 ⟨hres,hk⟩;have K0:=lH hk;rcases hres with ⟨rfl,h0⟩ | ⟨g,c,rfl,ho⟩
 · have HE:=lH (show l=[] by rw[←V1.out,h0];rfl);clear h0 hk;go_wp2;refine wp_loop_rounds 1 ?_;rw[rounds_succ];go_wp2;go_ret;exact⟨_,[],rfl,HE.out.symm,⟨⟨_,_,_,rfl⟩,⟨Own.nil _ _ _,fun z h=>by cases h⟩,fun z h=>by cases h⟩,K0.out⟩
 · have HI:=lH (ZI.start (At:=At3) (fst:=(fun z=>z.1)) ho V1.out hk fun z hz u k=>zl.kept (Us.out z hz) k);clear ho hk;go_wp2;go_loopw [12] (fun i wr=>∃(k:Nat) (lx:List NX),k≤len∧i=.int .i64 k∧lx.length=len∧ZI zp 78 At3 (fun z=>z.1) w.heap.size g len c k l w wr lx) (fun i _=>len-(intOf i).toNat)
   case atStart=>exact⟨0,lx0,Nat.zero_le _,rfl,TC.out,HI.out⟩
   case round =>
    obtain⟨k,lx,hk,rfl,hlen,hinv⟩:=hrel;have HV:=lH hinv;have Ut:=lH hlen;by_cases hlt:k<len
    · obtain⟨z,hz⟩:∃z,lx[k]?=some z:=⟨_,List.getElem?_eq_getElem (by omega)⟩
      obtain⟨n,⟨b1,n1,d1⟩,⟨b2,n2,d2⟩,⟨b3,n3,d3⟩⟩:=z;have p0:wr.cell? ⟨g,k*5,none⟩=some (.string n.name):=hinv.own.cell_at hz (j:=0) rfl;have p1:wr.cell? ⟨g,k*5+1,none⟩=some (.slice b1 n1 d1):=hinv.own.cell_at hz (j:=1) rfl;have p2:wr.cell? ⟨g,k*5+2,none⟩=some (.slice b2 n2 d2):=hinv.own.cell_at hz (j:=2) rfl;have p3:wr.cell? ⟨g,k*5+3,none⟩=some (.slice b3 n3 d3):=hinv.own.cell_at hz (j:=3) rfl;have p4:wr.cell? ⟨g,k*5+4,none⟩=some (.bool n.cordon):=hinv.own.cell_at hz (j:=4) rfl;obtain⟨HZ,HN,HA,Vy⟩:=lH4 hz (show n ∈ l by rw[←hinv.map];exact List.mem_map.2 ⟨_,List.mem_of_getElem? hz,rfl⟩) ((hinv.todo k _ hz (Nat.le_refl _)).here) hinv.kept.size;have hkk:(k:Int)<(len:Int):=by omega
      have Uu:=lH (Jy hinv.own g rfl);have HO:=lH (jdu n b1 b2 b3 n1 d1 n2 d2 n3 d3 _ (zl.kept HA.out (ja wr (.cells #[.string n.name,.slice b1 n1 d1,.slice b2 n2 d2,.slice b3 n3 d3,.bool n.cordon] 78))) (Vr.out n HN.out));clear hz hlen hinv;go_wp2_with fail
      refine HO.out.mono ?_;rintro e w2 ⟨v,rfl,hv,kk⟩;have KW:=lH ((ja wr (.cells #[.string n.name,.slice b1 n1 d1,.slice b2 n2 d2,.slice b3 n3 d3,.bool n.cordon] 78)).trans kk);obtain⟨x1,y1,e1,x2,y2,e2,x3,y3,e3,rfl,s0,s1,s2,s3,g1,g2,g3⟩:=hv;have Vv:=lH (show Off (fun b=>b<w.heap.size∨b=g) w2 fun u=>At3 u (n,(x1,y1,e1),(x2,y2,e2),(x3,y3,e3)) from zl.off (B:=wr.heap.size+1) ⟨s0,s1,s2,s3⟩ (by simpa [jU] using g1) (by simpa [jU] using g2) (by simpa [jU] using g3) (fun b hb h=>by have:=Uu.out;have:=Vy.out;rcases h with h | h<;>omega));clear s0 s1 s2 s3 g1 g2 g3 kk;have q0:=cell_later KW.out p0;have q1:=cell_later KW.out p1;have q2:=cell_later KW.out p2;have q3:=cell_later KW.out p3;have q4:=cell_later KW.out p4;have x0f:w2.frozen? ⟨g,k*5,none⟩=false:=(HV.out.own.kept KW.out).frozen_at _;have x1f:w2.frozen? ⟨g,k*5+1,none⟩=false:=(HV.out.own.kept KW.out).frozen_at _;have x2f:w2.frozen? ⟨g,k*5+2,none⟩=false:=(HV.out.own.kept KW.out).frozen_at _;have x3f:w2.frozen? ⟨g,k*5+3,none⟩=false:=(HV.out.own.kept KW.out).frozen_at _;have x4f:w2.frozen? ⟨g,k*5+4,none⟩=false:=(HV.out.own.kept KW.out).frozen_at _;clear p0 p1 p2 p3 p4;have VC:=lH (HV.out.next (z':=(n,(x1,y1,e1),(x2,y2,e2),(x3,y3,e3))) HZ.out rfl trivial KW.out Vy.out Vv.out);go_wp2;obtain⟨WE,hWE⟩:=eX (w2.setCells g (k*5) [.string n.name,.slice x1 y1 e1,.slice x2 y2 e2,.slice x3 y3 e3,.bool n.cordon])
      have hWE2:(((((w2.setCell ⟨g,k*5,none⟩ (.string n.name)).setCell ⟨g,k*5+1,none⟩ (.slice x1 y1 e1)).setCell ⟨g,k*5+2,none⟩ (.slice x2 y2 e2)).setCell ⟨g,k*5+3,none⟩ (.slice x3 y3 e3)).setCell ⟨g,k*5+4,none⟩ (.bool n.cordon))=WE:=hWE;have VC:=lH (show ZI zp 78 At3 (fun z=>z.1) w.heap.size g len c (k+1) l w WE (lx.set k (n,(x1,y1,e1),(x2,y2,e2),(x3,y3,e3))) by rw[←hWE];exact VC.out);try rw[hWE2]
      clear hWE hWE2 q0 q1 q2 q3 q4 x0f x1f x2f x3f x4f;go_roundw
      case rel=>exact⟨k+1,_,by omega,by go_num,by rw[List.length_set];exact Ut.out,VC.out⟩
      case measure=>simp[intOf];omega
    · obtain⟨HD,VF,Uk⟩:=lH3 (hinv.deep (by omega)) hinv.kept hinv.map;clear hinv hlen;go_wp2;go_ret;exact⟨_,lx,rfl,Uk.out,⟨⟨_,_,_,rfl⟩,HD.out.1,fun z hz=>(HD.out.2 z hz).less fun b h=>h.imp id fun e=>(Option.some.inj e).symm⟩,VF.out⟩
theorem jil (a:Option Addr) (len cap:Nat) (l:List Pd) (w:World) (hr:jC w a len l) (hc:len≤cap) (hm:cap≤maxLen) (hn:len≤100000) (hlow:∀n ∈ l,Jq n) :
 Calls Tryz.prog 83 #[.slice a len cap,.func (.func 84) #[] #[]] w fun e w'=>∃v lx,e=.returned v∧(lx.map fun z=>z.1)=l∧J8 PodLay0 52 At4 w.heap.size w' v lx∧Kept w w':=by
 obtain⟨lx0,hmap,hrx,hat0⟩:=jgI hr;obtain⟨HC,Vr,V1,Us,TC⟩:=lH5 (jdz a len cap lx0 w hrx hc hm hn) hlow hmap hat0 hrx.1;clear hr hmap hrx hat0 hlow hc hm;go_enter Tryz.func83,Tryz.ntmps83;go_wp2_with fail
 refine HC.out.mono ?_;rintro e w1 ⟨hres,hk⟩;have K0:=lH hk;rcases hres with ⟨rfl,h0⟩ | ⟨g,c,rfl,ho⟩
 · have HE:=lH (show l=[] by rw[←V1.out,h0];rfl);clear h0 hk;go_wp2;refine wp_loop_rounds 1 ?_;rw[rounds_succ];go_wp2;go_ret;exact⟨_,[],rfl,HE.out.symm,⟨⟨_,_,_,rfl⟩,⟨Own.nil _ _ _,fun z h=>by cases h⟩,fun z h=>by cases h⟩,K0.out⟩
 · have HI:=lH (ZI.start (At:=At4) (fst:=(fun z=>z.1)) ho V1.out hk fun z hz u k=>ji.kept (Us.out z hz) k);clear ho hk;go_wp2;go_loopw [12] (fun i wr=>∃(k:Nat) (lx:List PX),k≤len∧i=.int .i64 k∧lx.length=len∧ZI PodLay0 52 At4 (fun z=>z.1) w.heap.size g len c k l w wr lx) (fun i _=>len-(intOf i).toNat)
   case atStart=>exact⟨0,lx0,Nat.zero_le _,rfl,TC.out,HI.out⟩
   case round =>
    obtain⟨k,lx,hk,rfl,hlen,hinv⟩:=hrel;have HV:=lH hinv;have Ut:=lH hlen;by_cases hlt:k<len
    · obtain⟨z,hz⟩:∃z,lx[k]?=some z:=⟨_,List.getElem?_eq_getElem (by omega)⟩
      obtain⟨n,⟨b1,n1,d1⟩,⟨b2,n2,d2⟩,⟨b3,n3,d3⟩,⟨b4,n4,d4⟩⟩:=z;have p0:wr.cell? ⟨g,k*11,none⟩=some (.string n.name):=hinv.own.cell_at hz (j:=0) rfl;have p1:wr.cell? ⟨g,k*11+1,none⟩=some (.string n.owner):=hinv.own.cell_at hz (j:=1) rfl;have p2:wr.cell? ⟨g,k*11+2,none⟩=some (.int .i64 n.prio):=hinv.own.cell_at hz (j:=2) rfl;have p3:wr.cell? ⟨g,k*11+3,none⟩=some (.slice b1 n1 d1):=hinv.own.cell_at hz (j:=3) rfl;have p4:wr.cell? ⟨g,k*11+4,none⟩=some (.slice b2 n2 d2):=hinv.own.cell_at hz (j:=4) rfl;have p5:wr.cell? ⟨g,k*11+5,none⟩=some (.slice b3 n3 d3):=hinv.own.cell_at hz (j:=5) rfl;have p6:wr.cell? ⟨g,k*11+6,none⟩=some (.slice b4 n4 d4):=hinv.own.cell_at hz (j:=6) rfl;have p7:wr.cell? ⟨g,k*11+7,none⟩=some (.string n.key):=hinv.own.cell_at hz (j:=7) rfl;have p8:wr.cell? ⟨g,k*11+8,none⟩=some (.int .i64 n.most):=hinv.own.cell_at hz (j:=8) rfl;have p9:wr.cell? ⟨g,k*11+9,none⟩=some (.string n.node):=hinv.own.cell_at hz (j:=9) rfl;have p10:wr.cell? ⟨g,k*11+10,none⟩=some (.bool n.hold):=hinv.own.cell_at hz (j:=10) rfl;obtain⟨HZ,HN,HA,Vy⟩:=lH4 hz (show n ∈ l by rw[←hinv.map];exact List.mem_map.2 ⟨_,List.mem_of_getElem? hz,rfl⟩) ((hinv.todo k _ hz (Nat.le_refl _)).here) hinv.kept.size;have hkk:(k:Int)<(len:Int):=by omega
      have Uu:=lH (Jy hinv.own g rfl);have HO:=lH (JW n (.slice b1 n1 d1) (.slice b2 n2 d2) (.slice b3 n3 d3) (.slice b4 n4 d4) _ (ji.kept HA.out (ja wr (.cells #[.string n.name,.string n.owner,.int .i64 n.prio,.slice b1 n1 d1,.slice b2 n2 d2,.slice b3 n3 d3,.slice b4 n4 d4,.string n.key,.int .i64 n.most,.string n.node,.bool n.hold] 52))) (Vr.out n HN.out));unfold jw at HO;clear hz hlen hinv;go_wp2_with fail
      refine HO.out.mono ?_;rintro e w2 ⟨v,rfl,hv,kk⟩;have KW:=lH ((ja wr (.cells #[.string n.name,.string n.owner,.int .i64 n.prio,.slice b1 n1 d1,.slice b2 n2 d2,.slice b3 n3 d3,.slice b4 n4 d4,.string n.key,.int .i64 n.most,.string n.node,.bool n.hold] 52)).trans kk);obtain⟨x1,y1,e1,x2,y2,e2,x3,y3,e3,x4,y4,e4,hv9,s0,g1,g2,g3,g4⟩:=hv;rw[World.size_alloc] at g1 g2 g3 g4;have hv9:v=.agg #[.string n.name,.string n.owner,.int .i64 n.prio,.slice x1 y1 e1,.slice x2 y2 e2,.slice x3 y3 e3,.slice x4 y4 e4,.string n.key,.int .i64 n.most,.string n.node,.bool n.hold]:=hv9;subst hv9;have Vv:=lH (show Off (fun b=>b<w.heap.size∨b=g) w2 fun u=>At4 u (n,(x1,y1,e1),(x2,y2,e2),(x3,y3,e3),(x4,y4,e4)) from ji.off (B:=wr.heap.size+1) s0 g1 g2 g3 g4 (fun b hb h=>by have:=Uu.out;have:=Vy.out;rcases h with h | h<;>omega));clear s0 g1 g2 g3 g4 kk;have q0:=cell_later KW.out p0;have q1:=cell_later KW.out p1;have q2:=cell_later KW.out p2;have q3:=cell_later KW.out p3;have q4:=cell_later KW.out p4;have q5:=cell_later KW.out p5;have q6:=cell_later KW.out p6;have q7:=cell_later KW.out p7;have q8:=cell_later KW.out p8;have q9:=cell_later KW.out p9;have q10:=cell_later KW.out p10;have x0f:w2.frozen? ⟨g,k*11,none⟩=false:=(HV.out.own.kept KW.out).frozen_at _;have x1f:w2.frozen? ⟨g,k*11+1,none⟩=false:=(HV.out.own.kept KW.out).frozen_at _;have x2f:w2.frozen? ⟨g,k*11+2,none⟩=false:=(HV.out.own.kept KW.out).frozen_at _;have x3f:w2.frozen? ⟨g,k*11+3,none⟩=false:=(HV.out.own.kept KW.out).frozen_at _;have x4f:w2.frozen? ⟨g,k*11+4,none⟩=false:=(HV.out.own.kept KW.out).frozen_at _;have x5f:w2.frozen? ⟨g,k*11+5,none⟩=false:=(HV.out.own.kept KW.out).frozen_at _;have x6f:w2.frozen? ⟨g,k*11+6,none⟩=false:=(HV.out.own.kept KW.out).frozen_at _;have x7f:w2.frozen? ⟨g,k*11+7,none⟩=false:=(HV.out.own.kept KW.out).frozen_at _;have x8f:w2.frozen? ⟨g,k*11+8,none⟩=false:=(HV.out.own.kept KW.out).frozen_at _;have x9f:w2.frozen? ⟨g,k*11+9,none⟩=false:=(HV.out.own.kept KW.out).frozen_at _;have x10f:w2.frozen? ⟨g,k*11+10,none⟩=false:=(HV.out.own.kept KW.out).frozen_at _;clear p0 p1 p2 p3 p4 p5 p6 p7 p8 p9 p10;have VC:=lH (HV.out.next (z':=(n,(x1,y1,e1),(x2,y2,e2),(x3,y3,e3),(x4,y4,e4))) HZ.out rfl trivial KW.out Vy.out Vv.out);go_wp2;obtain⟨WE,hWE⟩:=eX (w2.setCells g (k*11) [.string n.name,.string n.owner,.int .i64 n.prio,.slice x1 y1 e1,.slice x2 y2 e2,.slice x3 y3 e3,.slice x4 y4 e4,.string n.key,.int .i64 n.most,.string n.node,.bool n.hold])
      have hWE2:(((((((((((w2.setCell ⟨g,k*11,none⟩ (.string n.name)).setCell ⟨g,k*11+1,none⟩ (.string n.owner)).setCell ⟨g,k*11+2,none⟩ (.int .i64 n.prio)).setCell ⟨g,k*11+3,none⟩ (.slice x1 y1 e1)).setCell ⟨g,k*11+4,none⟩ (.slice x2 y2 e2)).setCell ⟨g,k*11+5,none⟩ (.slice x3 y3 e3)).setCell ⟨g,k*11+6,none⟩ (.slice x4 y4 e4)).setCell ⟨g,k*11+7,none⟩ (.string n.key)).setCell ⟨g,k*11+8,none⟩ (.int .i64 n.most)).setCell ⟨g,k*11+9,none⟩ (.string n.node)).setCell ⟨g,k*11+10,none⟩ (.bool n.hold))=WE:=hWE;have VC:=lH (show ZI PodLay0 52 At4 (fun z=>z.1) w.heap.size g len c (k+1) l w WE (lx.set k (n,(x1,y1,e1),(x2,y2,e2),(x3,y3,e3),(x4,y4,e4))) by rw[←hWE];exact VC.out);try rw[hWE2]
      clear hWE hWE2 q0 q1 q2 q3 q4 q5 q6 q7 q8 q9 q10 x0f x1f x2f x3f x4f x5f x6f x7f x8f x9f x10f;go_roundw
      case rel=>exact⟨k+1,_,by omega,by go_num,by rw[List.length_set];exact Ut.out,VC.out⟩
      case measure=>simp[intOf];omega
    · obtain⟨HD,VF,Uk⟩:=lH3 (hinv.deep (by omega)) hinv.kept hinv.map;clear hinv hlen;go_wp2;go_ret;exact⟨_,lx,rfl,Uk.out,⟨⟨_,_,_,rfl⟩,HD.out.1,fun z hz=>(HD.out.2 z hz).less fun b h=>h.imp id fun e=>(Option.some.inj e).symm⟩,VF.out⟩
theorem jiz (a:Option Addr) (len cap:Nat) (l:List Bd) (w:World) (hr:zA w a len l) (hc:len≤cap) (hm:cap≤maxLen) (hn:len≤100000) (hlow:∀n ∈ l,n.sel.length≤1000000) :
 Calls Tryz.prog 85 #[.slice a len cap,.func (.func 86) #[] #[]] w fun e w'=>∃v lx,e=.returned v∧(lx.map fun z=>z.1)=l∧J8 j9 108 At1 w.heap.size w' v lx∧Kept w w':=by
 obtain⟨lx0,hmap,hrx,hat0⟩:=jgy hr;obtain⟨HC,Vr,V1,Us,TC⟩:=lH5 (jdM a len cap lx0 w hrx hc hm hn) hlow hmap hat0 hrx.1;clear hr hmap hrx hat0 hlow hc hm;go_enter Tryz.func85,Tryz.ntmps85;go_wp2_with fail
 refine HC.out.mono ?_;rintro e w1 ⟨hres,hk⟩;have K0:=lH hk;rcases hres with ⟨rfl,h0⟩ | ⟨g,c,rfl,ho⟩
 · have HE:=lH (show l=[] by rw[←V1.out,h0];rfl);clear h0 hk;go_wp2;refine wp_loop_rounds 1 ?_;rw[rounds_succ];go_wp2;go_ret;exact⟨_,[],rfl,HE.out.symm,⟨⟨_,_,_,rfl⟩,⟨Own.nil _ _ _,fun z h=>by cases h⟩,fun z h=>by cases h⟩,K0.out⟩
 · have HI:=lH (ZI.start (At:=At1) (fst:=(fun z=>z.1)) ho V1.out hk fun z hz u k=>zk.kept (Us.out z hz) k);clear ho hk;go_wp2;go_loopw [12] (fun i wr=>∃(k:Nat) (lx:List BX),k≤len∧i=.int .i64 k∧lx.length=len∧ZI j9 108 At1 (fun z=>z.1) w.heap.size g len c k l w wr lx) (fun i _=>len-(intOf i).toNat)
   case atStart=>exact⟨0,lx0,Nat.zero_le _,rfl,TC.out,HI.out⟩
   case round =>
    obtain⟨k,lx,hk,rfl,hlen,hinv⟩:=hrel;have HV:=lH hinv;have Ut:=lH hlen;by_cases hlt:k<len
    · obtain⟨z,hz⟩:∃z,lx[k]?=some z:=⟨_,List.getElem?_eq_getElem (by omega)⟩
      obtain⟨n,⟨b1,n1,d1⟩⟩:=z;have p0:wr.cell? ⟨g,k*3,none⟩=some (.string n.name):=hinv.own.cell_at hz (j:=0) rfl;have p1:wr.cell? ⟨g,k*3+1,none⟩=some (.slice b1 n1 d1):=hinv.own.cell_at hz (j:=1) rfl;have p2:wr.cell? ⟨g,k*3+2,none⟩=some (.int .i64 n.floor):=hinv.own.cell_at hz (j:=2) rfl;obtain⟨HZ,HN,HA,Vy⟩:=lH4 hz (show n ∈ l by rw[←hinv.map];exact List.mem_map.2 ⟨_,List.mem_of_getElem? hz,rfl⟩) ((hinv.todo k _ hz (Nat.le_refl _)).here) hinv.kept.size;have hkk:(k:Int)<(len:Int):=by omega
      have Uu:=lH (Jy hinv.own g rfl);have HO:=lH (jb5 n b1 n1 d1 _ (zk.kept HA.out (ja wr (.cells #[.string n.name,.slice b1 n1 d1,.int .i64 n.floor] 108))) (Vr.out n HN.out));unfold Xp at HO;clear hz hlen hinv;go_wp2_with fail
      refine HO.out.mono ?_;rintro e w2 ⟨v,rfl,hv,kk⟩;have KW:=lH ((ja wr (.cells #[.string n.name,.slice b1 n1 d1,.int .i64 n.floor] 108)).trans kk);obtain⟨x1,y1,e1,hv9,s0,g1⟩:=hv;rw[World.size_alloc] at g1;have hv9:v=.agg #[.string n.name,.slice x1 y1 e1,.int .i64 n.floor]:=hv9;subst hv9;have Vv:=lH (show Off (fun b=>b<w.heap.size∨b=g) w2 fun u=>At1 u (n,(x1,y1,e1)) from zk.off (B:=wr.heap.size+1) s0 g1 (fun b hb h=>by have:=Uu.out;have:=Vy.out;rcases h with h | h<;>omega));clear s0 g1 kk;have q0:=cell_later KW.out p0;have q1:=cell_later KW.out p1;have q2:=cell_later KW.out p2;have x0f:w2.frozen? ⟨g,k*3,none⟩=false:=(HV.out.own.kept KW.out).frozen_at _;have x1f:w2.frozen? ⟨g,k*3+1,none⟩=false:=(HV.out.own.kept KW.out).frozen_at _;have x2f:w2.frozen? ⟨g,k*3+2,none⟩=false:=(HV.out.own.kept KW.out).frozen_at _;clear p0 p1 p2;have VC:=lH (HV.out.next (z':=(n,(x1,y1,e1))) HZ.out rfl trivial KW.out Vy.out Vv.out);go_wp2;obtain⟨WE,hWE⟩:=eX (w2.setCells g (k*3) [.string n.name,.slice x1 y1 e1,.int .i64 n.floor])
      have hWE2:(((w2.setCell ⟨g,k*3,none⟩ (.string n.name)).setCell ⟨g,k*3+1,none⟩ (.slice x1 y1 e1)).setCell ⟨g,k*3+2,none⟩ (.int .i64 n.floor))=WE:=hWE;have VC:=lH (show ZI j9 108 At1 (fun z=>z.1) w.heap.size g len c (k+1) l w WE (lx.set k (n,(x1,y1,e1))) by rw[←hWE];exact VC.out);try rw[hWE2]
      clear hWE hWE2 q0 q1 q2 x0f x1f x2f;go_roundw
      case rel=>exact⟨k+1,_,by omega,by go_num,by rw[List.length_set];exact Ut.out,VC.out⟩
      case measure=>simp[intOf];omega
    · obtain⟨HD,VF,Uk⟩:=lH3 (hinv.deep (by omega)) hinv.kept hinv.map;clear hinv hlen;go_wp2;go_ret;exact⟨_,lx,rfl,Uk.out,⟨⟨_,_,_,rfl⟩,HD.out.1,fun z hz=>(HD.out.2 z hz).less fun b h=>h.imp id fun e=>(Option.some.inj e).symm⟩,VF.out⟩
structure jI (S:Nat→Prop) (B:Nat) (w:World) (v1 v2 v3:Value) (s:Clu):Prop where
 pods:∃lx:List PX,(lx.map fun z=>z.1)=s.pods∧Own PodLay0 52 w B v2 lx∧∀z ∈ lx,Off (fun b=>S b∨v2.ownBlock=some b) w fun u=>At4 u z
 nodes:Off (fun b=>S b∨v2.ownBlock=some b) w fun u=>Jg u v1 s.nodes
 buds:Off (fun b=>S b∨v2.ownBlock=some b) w fun u=>JK u v3 s.buds
 sep:∀k,v2.ownBlock=some k→¬S k
theorem jI.toR {S:Nat→Prop} {B:Nat} {w:World} {v1 v2 v3:Value} {s:Clu} (h:jI S B w v1 v2 v3 s):jB w (.agg #[v1,v2,v3]) s:=by
 obtain⟨lx,e,ho,hd⟩:=h.pods;exact⟨v1,v2,v3,rfl,h.nodes.here,by rw[←e];exact qG ho fun z hz=>(hd z hz).here,h.buds.here⟩
theorem jI.lt {S:Nat→Prop} {B:Nat} {w:World} {v1 v2 v3:Value} {s:Clu} (h:jI S B w v1 v2 v3 s):∀g,v2.ownBlock=some g→B≤g∧g<w.heap.size:=by
 obtain⟨lx,e,ho,hd⟩:=h.pods;exact Jy ho
theorem jI.step {S:Nat→Prop} {B:Nat} {w w':World} {v1 v2 v3:Value} {s:Clu} (h:jI S B w v1 v2 v3 s) (g:jg S w w'):jI S B w' v1 v2 v3 s:=by
 obtain⟨lx,e,ho,hd⟩:=h.pods;have g':jg (fun b=>S b∨v2.ownBlock=some b) w w':=g.mono fun b e=>.inl e;exact⟨⟨lx,e,ho.goff g h.sep,fun z hz=>(hd z hz).step g'⟩,h.nodes.step g',h.buds.step g',h.sep⟩
theorem jI.kept {S:Nat→Prop} {B:Nat} {w w':World} {v1 v2 v3:Value} {s:Clu} (h:jI S B w v1 v2 v3 s) (k:Kept w w'):jI S B w' v1 v2 v3 s:=h.step (jg.of k)
theorem jI.less {S S':Nat→Prop} {B B':Nat} {w:World} {v1 v2 v3:Value} {s:Clu} (h:jI S B w v1 v2 v3 s) (hb:B'≤B) (hs:∀k,S' k→S k):jI S' B' w v1 v2 v3 s:=by
 obtain⟨lx,e,ho,hd⟩:=h.pods;have m:∀k,(S' k∨v2.ownBlock=some k)→(S k∨v2.ownBlock=some k):=fun k e=>e.imp (hs k) id;exact⟨⟨lx,e,ho.base_le hb,fun z hz=>(hd z hz).less m⟩,h.nodes.less m,h.buds.less m,fun k hk e=>h.sep k hk (hs k e)⟩
theorem jI.more {S:Nat→Prop} {B q:Nat} {w w':World} {v1 v2 v3:Value} {s:Clu} (h:jI S B w v1 v2 v3 s) (k:Kept w w') (hq:w.heap.size≤q):jI (fun b=>S b∨b=q) B w' v1 v2 v3 s:=by
 obtain⟨lx,e,ho,hd⟩:=h.pods;have m:∀b,((S b∨b=q)∨v2.ownBlock=some b)→((S b∨v2.ownBlock=some b)∨w.heap.size≤b):=fun b e=>by
  rcases e with (e | e) | e
  · exact .inl (.inl e)
  · exact .inr (by omega)
  · exact .inl (.inr e)
 exact⟨⟨lx,e,ho.kept k,fun z hz=>(hd z hz).new (jg.of k) m⟩,h.nodes.new (jg.of k) m,h.buds.new (jg.of k) m,fun b hb e=>by
  rcases e with e | e
  · exact h.sep b hb e
  · have:=(h.lt b hb).2;omega⟩
theorem jI.turn {S:Nat→Prop} {B:Nat} {w w':World} {v1 v2 v3 v2':Value} {s:Clu} {l:List Pd} (h:jI S B w v1 v2 v3 s) (g:jg (fun b=>v2.ownBlock=some b) w w') (hn:∀k,v2'.ownBlock=some k→v2.ownBlock=some k∨w.heap.size≤k)
 (hS:∀k,S k→k<w.heap.size) (hp:∃lx:List PX,(lx.map fun z=>z.1)=l∧Own PodLay0 52 w' B v2' lx∧∀z ∈ lx,Off (fun b=>S b∨v2'.ownBlock=some b) w' fun u=>At4 u z):jI S B w' v1 v2' v3 { s with pods:=l }:=by
 have g':jg (fun b=>S b∨v2.ownBlock=some b) w w':=g.mono fun b e=>.inr e;have m:∀b,(S b∨v2'.ownBlock=some b)→((S b∨v2.ownBlock=some b)∨w.heap.size≤b):=fun b e=>by
  rcases e with e | e
  · exact .inl (.inl e)
  · rcases hn b e with e | e
    · exact .inl (.inr e)
    · exact .inr e
 exact⟨hp,h.nodes.new g' m,h.buds.new g' m,fun k hk e=>by
  rcases hn k hk with h' | h'
  · exact h.sep k h' e
  · have:=hS k e;omega⟩
theorem jI.els {S:Nat→Prop} {B:Nat} {w w':World} {v2 v2':Value} {lx:List PX} (h:∀z ∈ lx,Off (fun b=>S b∨v2.ownBlock=some b) w fun u=>At4 u z) (g:jg (fun b=>v2.ownBlock=some b) w w') (hn:∀k,v2'.ownBlock=some k→v2.ownBlock=some k∨w.heap.size≤k):∀z ∈ lx,Off (fun b=>S b∨v2'.ownBlock=some b) w' fun u=>At4 u z:=fun z hz =>
 (h z hz).new (g.mono fun b e=>.inr e) fun b e=>by
  rcases e with e | e
  · exact .inl (.inl e)
  · rcases hn b e with e | e
    · exact .inl (.inr e)
    · exact .inr e
theorem jfl {T:TypeId} {B:Nat} {w:World} {v:Value} {lx:List NX} (h:J8 zp T At3 B w v lx):Off (fun b=>b<B) w fun u=>Jg u v (lx.map fun z=>z.1):=fun u g =>
 jds (h.2.1.own.goff g fun k hk e=>by have:=(Jy h.2.1.own k hk).1;omega) fun z hz=>(h.2.2 z hz) u (g.mono fun b hb=>.inl hb)
theorem jhg {T:TypeId} {B:Nat} {w:World} {v:Value} {lx:List BX} (h:J8 j9 T At1 B w v lx):Off (fun b=>b<B) w fun u=>JK u v (lx.map fun z=>z.1):=fun u g =>
 jes (h.2.1.own.goff g fun k hk e=>by have:=(Jy h.2.1.own k hk).1;omega) fun z hz=>(h.2.2 z hz) u (g.mono fun b hb=>.inl hb)
theorem jg2 {q B:Nat} {z w1 w2 w3 WE:World} {v1 v2 v3:Value} {lxn:List NX} {lxp:List PX} {lxb:List BX} (hq:q<z.heap.size) (hB:B≤z.heap.size)
 (fn:J8 zp 78 At3 z.heap.size w1 v1 lxn) (k1:Kept z w1) (fp:J8 PodLay0 52 At4 w1.heap.size w2 v2 lxp) (k2:Kept w1 w2) (fb:J8 j9 108 At1 w2.heap.size w3 v3 lxb) (k3:Kept w2 w3)
 (g:jg (fun b=>b=q) w3 WE):jI (fun b=>b<B) w1.heap.size WE v1 v2 v3 ⟨lxn.map fun z=>z.1,lxp.map fun z=>z.1,lxb.map fun z=>z.1⟩:=by
 have s1:=k1.size;have s2:=k2.size;have hp:∀b,v2.ownBlock=some b→w1.heap.size≤b∧b<w2.heap.size:=fun b hb=>Jy fp.2.1.own b hb;have gm:jg (fun b=>(b<B∨v2.ownBlock=some b)∨b=q) w3 WE:=g.mono fun b e=>.inr e;refine⟨⟨lxp,rfl,(fp.2.1.own.kept k3).goff g fun k hk e=>by have:=(hp k hk).1;omega,fun z hz=>(((fp.2.2 z hz).step (jg.of k3)).less (S':=fun b=>(b<B∨v2.ownBlock=some b)∨b=q) fun b e=>by
  rcases e with (e | e) | e
  · exact .inl (by omega)
  · exact .inr e
  · exact .inl (by omega)).step gm |>.less fun b e=>.inl e⟩,?_,?_,fun k hk e=>by have:=(hp k hk).1;omega⟩
 · have h:=(jfl fn).new (S':=fun b=>(b<B∨v2.ownBlock=some b)∨b=q) (jg.of (k2.trans k3)) fun b e=>by
    rcases e with (e | e) | e
    · exact .inl (by omega)
    · exact .inr (hp b e).1
    · exact .inl (by omega)
   exact(h.step gm).less fun b e=>.inl e
 · have h:=(jhg fb).less (S':=fun b=>(b<B∨v2.ownBlock=some b)∨b=q) fun b e=>by
    rcases e with (e | e) | e
    · omega
    · exact(hp b e).2
    · omega
   exact(h.step gm).less fun b e=>.inl e
theorem jaV (a b d:Option Addr) (len cap m c n e:Nat) (nl:List Nod) (pl:List Pd) (bl:List Bd) (w:World) (hn:jt w a len nl) (hp:jC w b m pl) (hb:zA w d n bl) (h1:len≤cap) (h2:cap≤maxLen) (h3:m≤c) (h4:c≤maxLen) (h5:n≤e) (h6:e≤maxLen) (hl:jA ⟨nl,pl,bl⟩) :
 Calls Tryz.prog 43 #[.agg #[.slice a len cap,.slice b m c,.slice d n e]] w fun e w'=>∃a1 n1 c1 a2 n2 c2 a3 n3 c3,e=.returned (.agg #[.slice a1 n1 c1,.slice a2 n2 c2,.slice a3 n3 c3])∧jI (fun b=>b<w.heap.size) w.heap.size w' (.slice a1 n1 c1) (.slice a2 n2 c2) (.slice a3 n3 c3) ⟨nl,pl,bl⟩∧Kept w w':=by
 obtain⟨Z,hZ⟩:=eX ((w.alloc (.cells #[.slice a len cap,.slice b m c,.slice d n e] 26)).alloc (.cells #[.slice none 0 0,.slice none 0 0,.slice none 0 0] 26))
 have hkz:Kept w Z:=by rw[←hZ];exact jm _ _ _
 have hzs:Z.heap.size=w.heap.size+2:=by rw[←hZ];simp
 have HS:=lH (show ∀W,Kept Z W→W.cell? ⟨w.heap.size,0,none⟩=some (.slice a len cap)∧W.cell? ⟨w.heap.size,1,none⟩=some (.slice b m c)∧W.cell? ⟨w.heap.size,2,none⟩=some (.slice d n e) from fun W k=>by
  have cc:=jb w (.slice a len cap) [.slice b m c,.slice d n e] 26 W (by have:=ja (w.alloc (.cells #[.slice a len cap,.slice b m c,.slice d n e] 26)) (.cells #[.slice none 0 0,.slice none 0 0,.slice none 0 0] 26);rw[hZ] at this;exact this.trans k);exact⟨cc.at_ 0 _ rfl,cc.at_ 1 _ rfl,cc.at_ 2 _ rfl⟩)
 have HQ:=lH (show ∀W,Kept Z W→je (w.heap.size+1) [.slice none 0 0,.slice none 0 0,.slice none 0 0] W from fun W k=>by
  have dd:=jb (w.alloc (.cells #[.slice a len cap,.slice b m c,.slice d n e] 26)) (.slice none 0 0) [.slice none 0 0,.slice none 0 0] 26 W (by rw[hZ];exact k);rw[World.size_alloc] at dd;exact dd)
 obtain⟨H1,H2,H3,Vc,Vf⟩:=lH5 (fun W (k:Kept Z W)=>jii a len cap nl W (hn.kept (hkz.trans k)) h1 h2 (by rw[←hn.1];exact hl.nodesN) hl.nodes) (fun W (k:Kept Z W)=>jil b m c pl W (hp.kept (hkz.trans k)) h3 h4 (by rw[←hp.1];exact hl.podsN) hl.pods) (fun W (k:Kept Z W)=>jiz d n e bl W (hb.kept (hkz.trans k)) h5 h6 (by rw[←hb.1];exact hl.budsN) hl.buds) hkz hzs;clear hn hp hb h1 h2 h3 h4 h5 h6 hl hkz hzs;go_enter Tryz.func43,Tryz.ntmps43;go_wp2;try rw[hZ]
 clear hZ;refine wp_region_held_drew (S:=fun W=>W.cell? ⟨w.heap.size,0,none⟩=some (.slice a len cap)∧W.cell? ⟨w.heap.size,1,none⟩=some (.slice b m c)∧W.cell? ⟨w.heap.size,2,none⟩=some (.slice d n e)) (by kernel_rfl) (HS.out _ (Kept.drew _)) (fun hHeld=>?_);refine wpAnyH_take  (i:=0) (v:=?_) (by rw[List.getElem?_toArray];exact rfl) (by kernel_rfl) (by kernel_rfl) (by kernel_rfl) (by exact fun _ _ _ h=>h) (Or.inl ⟨by rfl,(by rintro W ⟨o0,o1,o2⟩;go_simp<;>with_reducible rfl)⟩) (by assumption) ?_;try simp only  [Act.put,List.setIfInBounds_toArray,List.set_cons_zero,List.set_cons_succ]
 refine wpAnyH_take  (i:=1) (v:=?_) (by rw[List.getElem?_toArray];exact rfl) (by kernel_rfl) (by kernel_rfl) (by kernel_rfl) (by exact fun _ _ _ h=>h) (Or.inl ⟨by rfl,(by rintro W ⟨o0,o1,o2⟩;go_simp<;>with_reducible rfl)⟩) (by assumption) ?_;try simp only  [Act.put,List.setIfInBounds_toArray,List.set_cons_zero,List.set_cons_succ]
 refine wpAnyH_take  (i:=3) (v:=?_) (by rw[List.getElem?_toArray];exact rfl) (by kernel_rfl) (by kernel_rfl) (by kernel_rfl) (by exact fun _ _ _ h=>h) (Or.inl ⟨by rfl,(by rintro W ⟨o0,o1,o2⟩;go_simp<;>with_reducible rfl)⟩) (by assumption) ?_;try simp only  [Act.put,List.setIfInBounds_toArray,List.set_cons_zero,List.set_cons_succ]
 refine wpAnyH_take  (i:=4) (v:=?_) (by rw[List.getElem?_toArray];exact rfl) (by kernel_rfl) (by kernel_rfl) (by kernel_rfl) (by exact fun _ _ _ h=>h) (Or.inl ⟨by rfl,(by rintro W ⟨o0,o1,o2⟩;go_simp<;>with_reducible rfl)⟩) (by assumption) ?_;try simp only  [Act.put,List.setIfInBounds_toArray,List.set_cons_zero,List.set_cons_succ]
 refine wpAnyH_take  (i:=6) (v:=?_) (by rw[List.getElem?_toArray];exact rfl) (by kernel_rfl) (by kernel_rfl) (by kernel_rfl) (by exact fun _ _ _ h=>h) (Or.inl ⟨by rfl,(by rintro W ⟨o0,o1,o2⟩;go_simp<;>with_reducible rfl)⟩) (by assumption) ?_;try simp only  [Act.put,List.setIfInBounds_toArray,List.set_cons_zero,List.set_cons_succ]
 refine wpAnyH_take  (i:=7) (v:=?_) (by rw[List.getElem?_toArray];exact rfl) (by kernel_rfl) (by kernel_rfl) (by kernel_rfl) (by exact fun _ _ _ h=>h) (Or.inl ⟨by rfl,(by rintro W ⟨o0,o1,o2⟩;go_simp<;>with_reducible rfl)⟩) (by assumption) ?_;try simp only  [Act.put,List.setIfInBounds_toArray,List.set_cons_zero,List.set_cons_succ]
 refine wpAnyH_ready  (rs:=[2]) (by kernel_rfl) (by simp) (AllReadyH.cons  (by rw[List.getElem?_toArray];exact rfl) (fun K9 Ky=>?_) AllReadyH.nil);go_simp;refine(H1.out _ (Kept.drew _)).mono ?_;rintro e1 w1 ⟨v1,lx1,rfl,hm1,hf1,kk⟩;obtain⟨J1,K1,M1,F1⟩:=lH4 ((Kept.drew Z).trans kk) kk hm1 hf1;obtain⟨⟨a1,n1,c1,rfl⟩,-⟩:=hf1;clear kk hm1;refine Ky.out _ _ (HS.out _ J1.out) (fun _=>?_);clear Ky K9;try simp only  [Act.put,List.setIfInBounds_toArray,List.set_cons_zero,List.set_cons_succ]
 refine wpAnyH_ready  (rs:=[5]) (by kernel_rfl) (by simp) (AllReadyH.cons  (by rw[List.getElem?_toArray];exact rfl) (fun K9 Ky=>?_) AllReadyH.nil);go_simp;refine(H2.out _ J1.out).mono ?_;rintro e2 w2 ⟨v2,lx2,rfl,hm2,hf2,kk⟩;obtain⟨J2,K2,M2,F2⟩:=lH4 (J1.out.trans kk) kk hm2 hf2;obtain⟨⟨a2,n2,c2,rfl⟩,-⟩:=hf2;clear kk hm2;refine Ky.out _ _ (HS.out _ J2.out) (fun _=>?_);clear Ky K9;try simp only  [Act.put,List.setIfInBounds_toArray,List.set_cons_zero,List.set_cons_succ]
 refine wpAnyH_ready  (rs:=[8]) (by kernel_rfl) (by simp) (AllReadyH.cons  (by rw[List.getElem?_toArray];exact rfl) (fun K9 Ky=>?_) AllReadyH.nil);go_simp;refine(H3.out _ J2.out).mono ?_;rintro e3 w3 ⟨v3,lx3,rfl,hm3,hf3,kk⟩;obtain⟨J3,K3,M3,F3⟩:=lH4 (J2.out.trans kk) kk hm3 hf3;obtain⟨⟨a3,n3,c3,rfl⟩,-⟩:=hf3;clear kk hm3;refine Ky.out _ _ (HS.out _ J3.out) (fun _=>?_);clear Ky K9;try simp only  [Act.put,List.setIfInBounds_toArray,List.set_cons_zero,List.set_cons_succ]
 refine wpAnyH_take  (i:=9) (v:=?_) (by rw[List.getElem?_toArray];exact rfl) (by kernel_rfl) (by kernel_rfl) (by kernel_rfl) (by exact fun _ _ _ h=>h) (Or.inl ⟨by rfl,(by rintro W ⟨o0,o1,o2⟩;go_simp<;>with_reducible rfl)⟩) (by assumption) ?_;try simp only  [Act.put,List.setIfInBounds_toArray,List.set_cons_zero,List.set_cons_succ]
 have z0:=(HQ.out _ J3.out).at_ 0 _ rfl;have z1:=(HQ.out _ J3.out).at_ 1 _ rfl;have z2:=(HQ.out _ J3.out).at_ 2 _ rfl;have f0:=(HQ.out _ J3.out).free 0;have f1:=(HQ.out _ J3.out).free 1;have f2:=(HQ.out _ J3.out).free 2;refine wpAnyH_ready  (rs:=[10]) (by kernel_rfl) (by simp) (AllReadyH.cons  (by rw[List.getElem?_toArray];exact rfl) (fun K9 Ky=>?_) AllReadyH.nil);go_simp;have P:=lH (j4 (vs:=[.slice a1 n1 c1,.slice a2 n2 c2,.slice a3 n3 c3]) (HQ.out _ J3.out) rfl);refine Ky.out _ _ (by obtain⟨PC,hsz,hbl,hkp⟩:=P.out;obtain⟨o0,o1,o2⟩:=HS.out _ J3.out;exact⟨(World.cell?_of_block (a:=⟨w.heap.size,0,none⟩) (hbl w.heap.size (by omega))).trans o0,(World.cell?_of_block (a:=⟨w.heap.size,1,none⟩) (hbl w.heap.size (by omega))).trans o1,(World.cell?_of_block (a:=⟨w.heap.size,2,none⟩) (hbl w.heap.size (by omega))).trans o2⟩) (fun hHeld9=>?_);clear Ky K9 hHeld9 z0 f0 z1 f1 z2 f2;try simp only  [Act.put,List.setIfInBounds_toArray,List.set_cons_zero,List.set_cons_succ]
 refine wpAnyH_done (by kernel_rfl) ?_ _;go_wp2;obtain⟨WE,hWE⟩:=eX (w3.setCells (w.heap.size+1) 0 [.slice a1 n1 c1,.slice a2 n2 c2,.slice a3 n3 c3])
 have hWE2:(((w3.setCell ⟨(w.heap.size+1),0,none⟩ (.slice a1 n1 c1)).setCell ⟨(w.heap.size+1),1,none⟩ (.slice a2 n2 c2)).setCell ⟨(w.heap.size+1),2,none⟩ (.slice a3 n3 c3))=WE:=hWE;rw[hWE] at P;try rw[hWE2]
 have GE:=lH (show jg (fun b=>b=w.heap.size+1) w3 WE by rw[←hWE];exact jg.cells (S:=fun b=>b=w.heap.size+1) _ rfl _ _ _);clear hWE hWE2;obtain⟨PC,hsz,hbl,hkp⟩:=P.out;have HO:=lH (jg2 (z:=Z.drew) (q:=w.heap.size+1) (B:=w.heap.size) (by show w.heap.size+1<Z.heap.size;have:=Vf.out;omega) (by show w.heap.size≤Z.heap.size;have:=Vf.out;omega) F1.out K1.out F2.out K2.out F3.out K3.out GE.out);rw[M1.out,M2.out,M3.out] at HO;refine bodyPost_ret (by simp[results,Tryz.results43,go_sem,PC.at_ 0 _ rfl,PC.at_ 1 _ rfl,PC.at_ 2 _ rfl];try rfl) rfl ?_;exact⟨a1,n1,c1,a2,n2,c2,a3,n3,c3,rfl,HO.out.less (Vc.out.trans J1.out).size (fun k e=>e),hkp _ _ (by omega) (Vc.out.trans J3.out)⟩
def idxB (f:Pd→Bool):List Pd→Option Nat
 | []=>none
 | p::t=>if f p=true then some 0 else (idxB f t).map (·+1)
def jah:Option Nat→Int
 | none=>-1
 | some k=>(k:Int)
theorem jco {f:Pd→Bool} {l:List Pd} {p:Pd} {k:Nat} (hd:l.drop k=p::l.drop (k+1)) (h:f p=true) (hr:(idxB f (l.drop k)).map (·+k)=idxB f l):idxB f l=some k:=by
 rw[←hr,hd,idxB,if_pos h];simp
theorem jbq {f:Pd→Bool} {l:List Pd} {p:Pd} {k:Nat} (hd:l.drop k=p::l.drop (k+1)) (h:f p=false) (hr:(idxB f (l.drop k)).map (·+k)=idxB f l):(idxB f (l.drop (k+1))).map (·+(k+1))=idxB f l:=by
 rw[←hr,hd,idxB,if_neg (by rw[h];decide),Option.map_map];congr 1
 funext x
 show x+(k+1)=x+1+k;omega
theorem X7 {f:Pd→Bool}:∀{l:List Pd} {k:Nat},idxB f l=some k→k<l.length
 | [],k,h=>by cases h
 | p::t,k,h=>by
  rw[idxB] at h;split at h
  · obtain rfl:=Option.some.inj h;simp
  · cases e:idxB f t with
    | none=>rw[e] at h;cases h
    | some j=>rw[e] at h;obtain rfl:=Option.some.inj h;have:=X7 e;simp;omega
theorem jbu {x:ByteArray}:∀{l:List Pd},(match idxB (fun p=>eqS p.name x) l with | none=>l | some k=>l.take k++l.drop (k+1))=j0 x l
 | []=>rfl
 | p::t=>by
  rw[idxB,j0];by_cases h:eqS p.name x=true
  · rw[if_pos h,if_pos h];simp
  · rw[if_neg h,if_neg h,←jbu (l:=t)]
    cases e:idxB (fun p=>eqS p.name x) t with
    | none=>rfl
    | some j=>simp
theorem ja2 {x y:ByteArray}:∀{l:List Pd},(match idxB (fun p=>eqS p.name x) l with | none=>l | some k=>match l[k]? with | none=>l | some p=>l.set k { p with node:=y })=Jm x y l
 | []=>rfl
 | p::t=>by
  rw[idxB,Jm];by_cases h:eqS p.name x=true
  · rw[if_pos h,if_pos h];simp
  · rw[if_neg h,if_neg h,←ja2 (l:=t)]
    cases e:idxB (fun p=>eqS p.name x) t with
    | none=>rfl
    | some j =>
     simp only[Option.map_some,List.getElem?_cons_succ,List.set_cons_succ]
     cases t[j]?<;>rfl
def placeN (x:ByteArray) (l:List Pd):Nat:=match idxB (fun p=>!leS p.name x) l with | none=>l.length | some k=>k
theorem Xa (x:ByteArray) (l:List Pd):placeN x l≤l.length:=by
 unfold placeN
 cases e:idxB (fun p=>!leS p.name x) l with
 | none=>exact Nat.le_refl _
 | some k=>exact Nat.le_of_lt (X7 e)
theorem Z5 {p:Pd}:∀{l:List Pd},l.take (placeN p.name l)++p::l.drop (placeN p.name l)=Jw p l
 | []=>rfl
 | q::t=>by
  have ih:=Z5 (p:=p) (l:=t);rw[Jw];unfold placeN at ih ⊢;rw[idxB];by_cases h:leS q.name p.name=true
  · have hn:ltS p.name q.name=false:=by
     cases e:ltS p.name q.name with
     | false=>rfl
     | true =>
      have:=Vec.qU e;rw[h] at this;cases this
    rw[if_neg (by rw[h];decide),if_neg (by rw[hn];decide),←ih]
    cases e:idxB (fun q=>!leS q.name p.name) t with
    | none=>simp
    | some j=>simp
  · have h':leS q.name p.name=false:=by simpa using h
    rw[if_pos (by rw[h'];rfl),if_pos (Vec.XF h')];rfl
theorem jh3 (n:Pd) (a1 a2 a3 a4:Option Addr) (m1 c1 m2 c2 m3 c3 m4 c4 q:Nat) (x:ByteArray) (w:World) (hq:w.cell? ⟨q,0,none⟩=some (.string x)) :
 Calls Tryz.prog 87 #[.agg #[.string n.name,.string n.owner,.int .i64 n.prio,.slice a1 m1 c1,.slice a2 m2 c2,.slice a3 m3 c3,.slice a4 m4 c4,.string n.key,.int .i64 n.most,.string n.node,.bool n.hold],.pointer (some ⟨q,0,none⟩)] w fun e w'=>e=.returned (.bool (eqS n.name x))∧Kept w w':=by
 have hq2:=cell_later (ja w (.cells #[.string n.name,.string n.owner,.int .i64 n.prio,.slice a1 m1 c1,.slice a2 m2 c2,.slice a3 m3 c3,.slice a4 m4 c4,.string n.key,.int .i64 n.most,.string n.node,.bool n.hold] 52)) hq;obtain⟨t,ht⟩:=eX (eqS n.name x)
 have ht':(n.name.toList==x.toList)=t:=ht;rw[ht];go_enter Tryz.func87,Tryz.ntmps87;go_wp2;go_ret;exact⟨by first | rfl | (rw[←ht];rfl),ja _ _⟩
theorem jiC (n:Pd) (a1 a2 a3 a4:Option Addr) (m1 c1 m2 c2 m3 c3 m4 c4 q:Nat) (x:ByteArray) (w:World) (hq:w.cell? ⟨q,0,none⟩=some (.string x)) :
 Calls Tryz.prog 300 #[.agg #[.string n.name,.string n.owner,.int .i64 n.prio,.slice a1 m1 c1,.slice a2 m2 c2,.slice a3 m3 c3,.slice a4 m4 c4,.string n.key,.int .i64 n.most,.string n.node,.bool n.hold],.pointer (some ⟨q,0,none⟩)] w fun e w'=>e=.returned (.bool (!leS n.name x))∧Kept w w':=by
 have hq2:=cell_later (ja w (.cells #[.string n.name,.string n.owner,.int .i64 n.prio,.slice a1 m1 c1,.slice a2 m2 c2,.slice a3 m3 c3,.slice a4 m4 c4,.string n.key,.int .i64 n.most,.string n.node,.bool n.hold] 52)) hq;obtain⟨t,ht⟩:=eX (leS n.name x)
 have ht':(Op.bytesLess n.name.toList x.toList||n.name.toList==x.toList)=t:=ht;rw[ht];go_enter Tryz.func300,Tryz.ntmps300;go_wp2;go_ret;exact⟨by first | rfl | (rw[←ht];rfl),ja _ _⟩
theorem jjK (a:Option Addr) (len cap q:Nat) (l:List Pd) (x:ByteArray) (w:World) (hr:jC w a len l) (hq:w.cell? ⟨q,0,none⟩=some (.string x)) :
 Calls Tryz.prog 69 #[.slice a len cap,.func (.func 87) #[] #[.pointer (some ⟨q,0,none⟩)]] w (Say (.int .i64 (jah (idxB (fun p=>eqS p.name x) l))) w):=by
 have hl:=hr.1;have hm:=hr.2.1;unfold maxLen at hm;obtain⟨HL,HR,HQ⟩:=lH3 hl hr hq;clear hr hl hq;go_enter Tryz.func69,Tryz.ntmps69;go_wp2;go_loopw [8] (fun i wr=>∃k:Nat,k≤len∧i=.int .i64 k∧(idxB (fun p=>eqS p.name x) (l.drop k)).map (·+k)=idxB (fun p=>eqS p.name x) l∧Kept w wr) (fun i _=>len-(intOf i).toNat)
 case atStart=>exact⟨0,Nat.zero_le _,rfl,by simp,Kept.refl _⟩
 case round =>
  obtain⟨k,hk,rfl,hrest,hK⟩:=hrel;have HS:=lH hrest;have HK:=lH hK;by_cases hlt:k<len
  · obtain⟨b,off,rfl⟩:=HR.out.form.resolve_left (by omega);obtain⟨n,a1,m1,c1,a2,m2,c2,a3,m3,c3,a4,m4,c4,hn,hd,hb,p0,p1,p2,p3,p4,p5,p6,p7,p8,p9,p10,hat⟩:=(HR.out.kept hK).at_ hlt;have HD:=lH hd;have HC:=lH (jh3 n a1 a2 a3 a4 m1 c1 m2 c2 m3 c3 m4 c4 q x wr (cell_later hK HQ.out));obtain⟨t,ht⟩:=eX ((eqS n.name x))
    have HT:=lH ht;rw[ht] at HC;clear hrest hK hat hd hn ht
    cases t with
    | true =>
     have HF:=lH (jco (f:=fun p=>eqS p.name x) HD.out HT.out HS.out);go_wp2_with fail
     refine HC.out.mono ?_;rintro e w1 ⟨rfl,k1⟩;have K1:=lH (HK.out.trans k1);clear k1;go_wp2;go_ret;exact⟨by rw[HF.out];rfl,K1.out⟩
    | false =>
     have HE:=lH (jbq (f:=fun p=>eqS p.name x) HD.out HT.out HS.out);go_wp2_with fail
     refine HC.out.mono ?_;rintro e w1 ⟨rfl,k1⟩;have K1:=lH (HK.out.trans k1);clear k1;go_wp2;go_roundw
     case rel=>exact⟨k+1,by omega,by go_num,HE.out,K1.out⟩
     case measure=>simp[intOf];omega
  · have HF:=lH (show idxB (fun p=>eqS p.name x) l=none by rw[←hrest,List.drop_of_length_le (by rw[HL.out];omega)];rfl);clear hrest hK;go_wp2;go_ret;exact⟨by rw[HF.out];rfl,HK.out⟩
theorem jkx (a:Option Addr) (len cap q:Nat) (l:List Pd) (x:ByteArray) (w:World) (hr:jC w a len l) (hq:w.cell? ⟨q,0,none⟩=some (.string x)) :
 Calls Tryz.prog 69 #[.slice a len cap,.func (.func 300) #[] #[.pointer (some ⟨q,0,none⟩)]] w (Say (.int .i64 (jah (idxB (fun p=>!leS p.name x) l))) w):=by
 have hl:=hr.1;have hm:=hr.2.1;unfold maxLen at hm;obtain⟨HL,HR,HQ⟩:=lH3 hl hr hq;clear hr hl hq;go_enter Tryz.func69,Tryz.ntmps69;go_wp2;go_loopw [8] (fun i wr=>∃k:Nat,k≤len∧i=.int .i64 k∧(idxB (fun p=>!leS p.name x) (l.drop k)).map (·+k)=idxB (fun p=>!leS p.name x) l∧Kept w wr) (fun i _=>len-(intOf i).toNat)
 case atStart=>exact⟨0,Nat.zero_le _,rfl,by simp,Kept.refl _⟩
 case round =>
  obtain⟨k,hk,rfl,hrest,hK⟩:=hrel;have HS:=lH hrest;have HK:=lH hK;by_cases hlt:k<len
  · obtain⟨b,off,rfl⟩:=HR.out.form.resolve_left (by omega);obtain⟨n,a1,m1,c1,a2,m2,c2,a3,m3,c3,a4,m4,c4,hn,hd,hb,p0,p1,p2,p3,p4,p5,p6,p7,p8,p9,p10,hat⟩:=(HR.out.kept hK).at_ hlt;have HD:=lH hd;have HC:=lH (jiC n a1 a2 a3 a4 m1 c1 m2 c2 m3 c3 m4 c4 q x wr (cell_later hK HQ.out));obtain⟨t,ht⟩:=eX ((!leS n.name x))
    have HT:=lH ht;rw[ht] at HC;clear hrest hK hat hd hn ht
    cases t with
    | true =>
     have HF:=lH (jco (f:=fun p=>!leS p.name x) HD.out HT.out HS.out);go_wp2_with fail
     refine HC.out.mono ?_;rintro e w1 ⟨rfl,k1⟩;have K1:=lH (HK.out.trans k1);clear k1;go_wp2;go_ret;exact⟨by rw[HF.out];rfl,K1.out⟩
    | false =>
     have HE:=lH (jbq (f:=fun p=>!leS p.name x) HD.out HT.out HS.out);go_wp2_with fail
     refine HC.out.mono ?_;rintro e w1 ⟨rfl,k1⟩;have K1:=lH (HK.out.trans k1);clear k1;go_wp2;go_roundw
     case rel=>exact⟨k+1,by omega,by go_num,HE.out,K1.out⟩
     case measure=>simp[intOf];omega
  · have HF:=lH (show idxB (fun p=>!leS p.name x) l=none by rw[←hrest,List.drop_of_length_le (by rw[HL.out];omega)];rfl);clear hrest hK;go_wp2;go_ret;exact⟨by rw[HF.out];rfl,HK.out⟩
theorem jf1 (a:Option Addr) (len cap:Nat) (l:List Pd) (x:ByteArray) (w:World) (hr:jC w a len l) :
 Calls Tryz.prog 44 #[.slice a len cap,.string x] w (Say (.int .i64 (jah (idxB (fun p=>eqS p.name x) l))) w):=by
 have hmf:=hmfL (P:=Tryz.prog);have H:=lH (jjK a len cap w.heap.size l x (w.alloc (.cells #[.string x] 9)) (hr.kept (ja _ _)) ((jb w (.string x) [] 9 _ (Kept.refl _)).at_ 0 _ rfl));clear hr;go_enter Tryz.func44,Tryz.ntmps44;go_wp2_with fail
 refine H.out.mono ?_;rintro e w1 ⟨rfl,k⟩;have K:=lH ((ja _ _).trans k);clear k;go_wp2;go_ret;exact⟨rfl,K.out⟩
theorem XU (a:Option Addr) (len cap:Nat) (l:List Pd) (x:ByteArray) (w:World) (hr:jC w a len l) :
 Calls Tryz.prog 281 #[.slice a len cap,.string x] w (Say (.int .i64 (placeN x l:Nat)) w):=by
 have hmf:=hmfL (P:=Tryz.prog);have H:=lH (jkx a len cap w.heap.size l x (w.alloc (.cells #[.string x] 9)) (hr.kept (ja _ _)) ((jb w (.string x) [] 9 _ (Kept.refl _)).at_ 0 _ rfl));have HL:=lH hr.1;clear hr
 cases hi:idxB (fun p=>!leS p.name x) l with
 | none =>
  rw[hi] at H;have HP:=lH (show (placeN x l:Nat)=len by unfold placeN;rw[hi];exact HL.out);clear hi;unfold jah at H;go_enter Tryz.func281,Tryz.ntmps281;go_wp2_with fail
  refine H.out.mono ?_;rintro e w1 ⟨rfl,k⟩;have K:=lH ((ja _ _).trans k);clear k;go_wp2;go_ret;exact⟨by rw[HP.out];rfl,K.out⟩
 | some j =>
  rw[hi] at H;have HP:=lH (show (placeN x l:Nat)=j by unfold placeN;rw[hi]);clear hi;unfold jah at H;go_enter Tryz.func281,Tryz.ntmps281;go_wp2_with fail
  refine H.out.mono ?_;rintro e w1 ⟨rfl,k⟩;have K:=lH ((ja _ _).trans k);clear k;go_wp2;go_ret;exact⟨by rw[HP.out];rfl,K.out⟩
theorem XP {w:World} {B:Nat} {e:TypeId} {s:Nat} {v:Value} {n:Nat} {xs:List Value} (h:w.ownsRow B e s v n xs):w.drew.ownsRow B e s v n xs:=h
theorem X2:(Tryz.prog.info? 52).map (fun i=>(i.zero,i.size,i.bytes))=some (some (.agg #[.string ByteArray.empty,.string ByteArray.empty,.int .i64 0,.slice none 0 0,.slice none 0 0,.slice none 0 0,.slice none 0 0,.string ByteArray.empty,.int .i64 0,.string ByteArray.empty,.bool false]),11,184):=by kernel_rfl
def zB:Array Value:=#[.string ByteArray.empty,.string ByteArray.empty,.int .i64 0,.slice none 0 0,.slice none 0 0,.slice none 0 0,.slice none 0 0,.string ByteArray.empty,.int .i64 0,.string ByteArray.empty,.bool false]
theorem jam:(Value.agg zB).cells=zB:=rfl
theorem JM (n:Nat):(Builtin.zeroCells zB n).size=n*11:=by
 unfold Builtin.zeroCells;rw[Array.size_map,Array.size_range];rfl
theorem jc1 (n:Nat):∀v ∈ (Builtin.zeroCells zB n).toList,v.oneCell'=true:=by
 intro v hv;unfold Builtin.zeroCells at hv;rw[Array.toList_map,List.mem_map] at hv;obtain⟨k,_,rfl⟩:=hv;have hs:zB.size=11:=rfl;rw[hs];have hk:k % 11<11:=Nat.mod_lt _ (by decide);generalize k % 11=m at hk
 match m,hk with
 | 0,_=>rfl
 | 1,_=>rfl
 | 2,_=>rfl
 | 3,_=>rfl
 | 4,_=>rfl
 | 5,_=>rfl
 | 6,_=>rfl
 | 7,_=>rfl
 | 8,_=>rfl
 | 9,_=>rfl
 | 10,_=>rfl
 | m+11,h=>omega
theorem jfx (g i j len cap B:Nat) (xs:List Value) (w:World) (hown:w.ownsRow B 52 11 (.slice (some ⟨g,0,none⟩) len cap) len xs) (h1c:∀v ∈ xs,v.oneCell'=true) (hij:i<j) (hj:j≤len) :
 Calls Tryz.prog 106 #[.slice (some ⟨g,0,none⟩) len cap,.int .i64 i,.int .i64 j] w fun e w'=>e=.returned (.slice (some ⟨g,0,none⟩) (i+(len-j)) cap)∧w'.ownsRow B 52 11 (.slice (some ⟨g,0,none⟩) (i+(len-j)) cap) (i+(len-j)) (xs.take (i*11)++xs.drop (j*11))∧jg (fun b=>b=g) w w':=by
 obtain⟨cur,hB,hg,hn,hm,hs,ht,hl⟩:=Jc hown;obtain⟨i0,hi0,hz0,hz1,hz2⟩:=info_parts X2;have hcell:∀t,t<len*11→w.cell? ⟨g,t,none⟩=xs[t]?:=fun t h=>hown.cellAt t h;have hfr:∀t,w.frozen? ⟨g,t,none⟩=false:=fun t=>hown.frozenAt t;obtain⟨news,hnews⟩:∃news,news=xs.drop (j*11):=⟨_,rfl⟩
 have hlen:news.length=(len-j)*11:=by rw[hnews,List.length_drop,hl,Nat.sub_mul]
 have hget:∀t u,news[t]?=some u→w.cell? ⟨g,j*11+t,none⟩=some u:=by
  intro t u hu;have ht:=(List.getElem?_eq_some_iff.1 hu).1;rw[hlen] at ht;rw[hnews,List.getElem?_drop] at hu;rw[hcell _ (by omega)];exact hu
 have hsome:∀t,t<len*11→(w.cell? ⟨g,t,none⟩).isSome=true:=fun t h=>by
  rw[hcell t h,List.getElem?_eq_getElem (by rw[hl];exact h)];rfl
 obtain⟨A,hA,hsrc⟩:∃A:Addr,(if cap=j then (some ⟨g,0,none⟩:Option Addr) else some ⟨g,j*11,none⟩)=some A∧Hid (∀t u,news[t]?=some u→w.drew.cell? (A.add t)=some u):=by
  by_cases h:cap=j
  · refine⟨⟨g,0,none⟩,by simp[h],fun t u hu=>?_⟩;have h0:news.length=0:=by rw[hlen];omega
    rw[List.length_eq_zero_iff.1 h0] at hu;simp at hu
  · refine⟨⟨g,j*11,none⟩,by simp[h],fun t u hu=>?_⟩;rw[Addr.add_lit];exact hget t u hu
 have s2:Hid (∀u ∈ news,u.oneCell'=true):=fun u hu=>h1c u (by rw[hnews] at hu;exact List.mem_of_mem_drop hu);have s3:Hid (∀t,t<news.length→(w.drew.cell? ⟨g,0+i*11+t,none⟩).isSome=true∧w.drew.frozen? ⟨g,0+i*11+t,none⟩=false):=fun t h=>by
  rw[hlen] at h;exact⟨hsome _ (by omega),hfr _⟩
 have s1:Hid (news.length=(len-j)*11):=hlen;obtain⟨W1,hW1⟩:∃W1,W1=w.drew.setCells g (0+i*11) news:=⟨_,rfl⟩
 have hW1c:∀t,t<len*11→(W1.cell? ⟨g,t,none⟩).isSome=true:=fun t h=>by
  rw[hW1];exact isSome_setCells g news (0+i*11) w.drew (fun q hq=>(s3 q hq).1) t (hsome t h)
 have hcl:∀ty,(Builtin.clear_ #[23] ty #[.slice (some ⟨g,(i+(len-j))*11,none⟩) (len-(i+(len-j))) (cap-(i+(len-j)))]).run Tryz.prog W1=.ok (.tuple #[]) (W1.setCells g ((i+(len-j))*11) (Builtin.zeroCells zB (len-(i+(len-j)))).toList) :=
  fun ty=>XY W1 _ 52 ty i0 (.agg zB) Tryz.underlying23 hi0 hz0 g _ _ _ (by omega) (jc1 _) (fun t h=>hW1c _ (by rw[jam,JM] at h;omega)) (fun t h=>by rw[hW1,World.frozen?_setCells];exact hfr _)
 have X:=lH (show (W1.setCells g ((i+(len-j))*11) (Builtin.zeroCells zB (len-(i+(len-j)))).toList).ownsRow B 52 11 (.slice (some ⟨g,0,none⟩) (i+(len-j)) cap) (i+(len-j)) (xs.take (i*11)++xs.drop (j*11)) by
  have h:=jeL (w:=w.drew) (zs:=(Builtin.zeroCells zB (len-(i+(len-j)))).toList) (XP hown) (Nat.le_of_lt hij) hj (by rw[Array.length_toList,JM,show len-(i+(len-j))=j-i by omega]);rw[hW1,Nat.zero_add,hnews];exact h)
 have GX:=lH (show jg (fun b=>b=g) w (W1.setCells g ((i+(len-j))*11) (Builtin.zeroCells zB (len-(i+(len-j)))).toList) by
  rw[hW1];exact((jg.drew w).trans (jg.cells (S:=fun b=>b=g) g rfl _ _ _)).trans (jg.cells (S:=fun b=>b=g) g rfl _ _ _))
 have hW:Hid (W1=w.drew.setCells g (0+i*11) news):=hW1;have t23:=Tryz.underlying23;have hic:i≤cap:=by omega
 have hjc:j≤cap:=by omega
 have hil:i<len:=by omega
 have hm':cap≤9223372036854775807:=by unfold maxLen at hm;omega
 clear hown hB hg hs ht hl hcell hfr hnews hlen hget hsome h1c hW1 hW1c hm;go_enter Tryz.func106,Tryz.ntmps106;go_wp2_with fail
 go_region_law (refine step_append_room rfl (.tmp 22) (.tmp 25) 23 rfl 52 i0 11 t23 hi0 hz1 g 0 i cap (by simp[Act.eval,Act.put]) A (len-j) (cap-j) news (by simp[Act.eval,Act.put]) s1.out hsrc.out s2.out (by omega) s3.out ?_;rw[←hW.out])
 go_wp2;go_ret;exact⟨rfl,X.out,GX.out⟩
end Go.Proofs.YtibepooajeakfaaGreat
