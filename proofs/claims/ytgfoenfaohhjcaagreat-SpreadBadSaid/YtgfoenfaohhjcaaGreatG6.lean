/- What serves all packages,and package by package the contracts of the functions that the law calls. -/
import Derived.Test.YtgfoenfaohhjcaaGreatG0
import Derived.Test.YtgfoenfaohhjcaaGreatG1
import Derived.Test.YtgfoenfaohhjcaaGreatG2
import Derived.Test.YtgfoenfaohhjcaaGreatG3
import Derived.Test.YtgfoenfaohhjcaaGreatG4
import Derived.Test.YtgfoenfaohhjcaaGreatG5
import Derived.Shelf.Spec.SlicesInsert
set_option linter.unusedVariables false
set_option maxRecDepth 100000
set_option maxHeartbeats 25600000
namespace Go.Proofs.YtgfoenfaohhjcaaGreat
open Go.RowKit
structure zZ {X A:Type} (L:Lay X) (T:TypeId) (At:World→X→Prop) (fst:X→A) (B g len c k:Nat) (l:List A) (w wr:World) (lx:List X):Prop where
 own:Own L T wr B (.slice (some ⟨g,0,none⟩) len c) lx
 map:lx.map fst=l
 done:∀j z,lx[j]?=some z→j<k→Off (fun b=>b<B∨b=g) wr fun u=>At u z
 todo:∀j z,lx[j]?=some z→k≤j→Off (fun b=>B≤b) wr fun u=>At u z
 kept:Below B w wr
theorem zZ.start {X A:Type} {L:Lay X} {T:TypeId} {At:World→X→Prop} {fst:X→A} {g len c:Nat} {l:List A} {w wr:World} {lx:List X} (ho:Own L T wr w.heap.size (.slice (some ⟨g,0,none⟩) len c) lx) (hm:lx.map fst=l) (hk:Kept w wr) (hat:∀z ∈ lx,∀u,Kept w u→At u z) :
 zZ L T At fst w.heap.size g len c 0 l w wr lx :=
 ⟨ho,hm,fun j z _ h=>absurd h (Nat.not_lt_zero _),fun j z hz _=>Off.of (hat z (List.mem_of_getElem? hz)) hk fun i h=>h,hk⟩
theorem zZ.next {X A:Type} {L:Lay X} {T:TypeId} {At:World→X→Prop} {fst:X→A} {B g len c k:Nat} {l:List A} {w wr w1:World} {lx:List X} {z z':X} (h:zZ L T At fst B g len c k l w wr lx) (hz:lx[k]?=some z) (hf:fst z'=fst z) (hfine:L.fine z') (hk:Kept wr w1) (hB:B≤wr.heap.size)
 (hat:Off (fun b=>b<B∨b=g) w1 fun u=>At u z'):zZ L T At fst B g len c (k+1) l w (w1.setCells g (k*L.m) (L.cs z')) (lx.set k z'):=by
 have hl:k<lx.length:=(List.getElem?_eq_some_iff.1 hz).1;have hg:=JM h.own g rfl;refine⟨(h.own.kept hk).Zm hl z' hfine,?_,fun j y hy hj=>?_,fun j y hy hj=>?_,zt g _ _ _ B w hg.1 (h.kept.trans (Below.mono hk hB))⟩
 · rw[←h.map];apply List.ext_getElem?;intro i;rw[List.getElem?_map,List.getElem?_map];by_cases e:k=i
   · subst e;rw[List.getElem?_set_self hl,hz];simp[hf]
   · rw[List.getElem?_set_ne e]
 · have gc:jg (fun b=>b<B∨b=g) w1 (w1.setCells g (k*L.m) (L.cs z')):=jg.cells (S:=fun b=>b<B∨b=g) g (.inr rfl) _ _ _;by_cases e:k=j
   · subst e;rw[List.getElem?_set_self hl] at hy;obtain rfl:=Option.some.inj hy;exact hat.step gc
   · rw[List.getElem?_set_ne e] at hy;exact((h.done j y hy (by omega)).step (jg.of hk)).step gc
 · have gc:jg (fun b=>B≤b) w1 (w1.setCells g (k*L.m) (L.cs z')):=jg.cells (S:=fun b=>B≤b) g hg.1 _ _ _;rw[List.getElem?_set_ne (by omega)] at hy;exact((h.todo j y hy (by omega)).step (jg.of hk)).step gc
theorem zZ.deep {X A:Type} {L:Lay X} {T:TypeId} {At:World→X→Prop} {fst:X→A} {B g len c k:Nat} {l:List A} {w wr:World} {lx:List X} (h:zZ L T At fst B g len c k l w wr lx) (hk:lx.length≤k):Deep L T At wr B (.slice (some ⟨g,0,none⟩) len c) lx∧∀z ∈ lx,Off (fun b=>b<B∨b=g) wr fun u=>At u z:=by
 have key:∀z ∈ lx,Off (fun b=>b<B∨b=g) wr fun u=>At u z:=fun z hz=>by
  obtain⟨j,hj,e⟩:=List.getElem_of_mem hz;exact h.done j z (by rw[List.getElem?_eq_getElem hj,e]) (by omega)
 exact⟨⟨h.own,fun z hz=>(key z hz).less fun b e=>.inr (Option.some.inj e).symm⟩,key⟩
def zP {X:Type} (L:Lay X) (T:TypeId) (At:World→X→Prop) (B:Nat) (w:World) (v:Value) (lx:List X):Prop:=(∃a n c,v=.slice a n c)∧Deep L T At w B v lx∧∀z ∈ lx,Off (fun b=>b<B∨v.ownBlock=some b) w fun u=>At u z
theorem jbW (a:Option Addr) (len cap:Nat) (l:List Nod) (w:World) (hr:jo w a len l) (hc:len≤cap) (hm:cap≤maxLen) (hn:len≤100000) (hlow:∀n ∈ l,J6 n) :
 Calls Tryz.prog 76 #[.slice a len cap,.func (.func 77) #[] #[]] w fun e w'=>∃v lx,e=.returned v∧(lx.map fun z=>z.1)=l∧zP jP 68 At3 w.heap.size w' v lx∧Kept w w':=by
 obtain⟨lx0,hmap,hrx,hat0⟩:=jaG hr;have HC:=lH (XA a len cap lx0 w hrx hc hm hn);have HLOW:=lH hlow;have HMAP:=lH hmap;have HAT0:=lH hat0;have HL0:=lH hrx.1;clear hr hmap hrx hat0 hlow hc hm;go_enter Tryz.func76,Tryz.ntmps76;go_wp2_with fail
 refine HC.out.mono ?_;rintro e w1 ⟨hres,hk⟩;have K0:=lH hk;rcases hres with ⟨rfl,h0⟩ | ⟨g,c,rfl,ho⟩
 · have HE:=lH (show l=[] by rw[←HMAP.out,h0];rfl);clear h0 hk;go_wp2;refine wp_loop_rounds 1 ?_;rw[rounds_succ];go_wp2;go_ret;exact⟨_,[],rfl,HE.out.symm,⟨⟨_,_,_,rfl⟩,⟨Own.nil _ _ _,fun z h=>by cases h⟩,fun z h=>by cases h⟩,K0.out⟩
 · have HI:=lH (zZ.start (At:=At3) (fst:=(fun z=>z.1)) ho HMAP.out hk fun z hz u k=>j2.kept (HAT0.out z hz) k);clear ho hk;go_wp2;go_loopw [12] (fun i wr=>∃(k:Nat) (lx:List NX),k≤len∧i=.int .i64 k∧lx.length=len∧zZ jP 68 At3 (fun z=>z.1) w.heap.size g len c k l w wr lx) (fun i _=>len-(intOf i).toNat)
   case atStart=>exact⟨0,lx0,Nat.zero_le _,rfl,HL0.out,HI.out⟩
   case round =>
    obtain⟨k,lx,hk,rfl,hlen,hinv⟩:=hrel;have HV:=lH hinv;have HLEN:=lH hlen;by_cases hlt:k<len
    · obtain⟨z,hz⟩:∃z,lx[k]?=some z:=⟨_,List.getElem?_eq_getElem (by omega)⟩
      obtain⟨n,⟨b1,n1,d1⟩,⟨b2,n2,d2⟩,⟨b3,n3,d3⟩⟩:=z;have p0:wr.cell? ⟨g,k*5,none⟩=some (.string n.name):=hinv.own.cell_at hz (j:=0) rfl;have p1:wr.cell? ⟨g,k*5+1,none⟩=some (.slice b1 n1 d1):=hinv.own.cell_at hz (j:=1) rfl;have p2:wr.cell? ⟨g,k*5+2,none⟩=some (.slice b2 n2 d2):=hinv.own.cell_at hz (j:=2) rfl;have p3:wr.cell? ⟨g,k*5+3,none⟩=some (.slice b3 n3 d3):=hinv.own.cell_at hz (j:=3) rfl;have p4:wr.cell? ⟨g,k*5+4,none⟩=some (.bool n.cordon):=hinv.own.cell_at hz (j:=4) rfl;have HZ:=lH hz;have HN:=lH (show n ∈ l by rw[←hinv.map];exact List.mem_map.2 ⟨_,List.mem_of_getElem? hz,rfl⟩);have HA:=lH ((hinv.todo k _ hz (Nat.le_refl _)).here);have HBS:=lH hinv.kept.size;have hkk:(k:Int)<(len:Int):=by omega
      have HGL:=lH (JM hinv.own g rfl);have HO:=lH (XC n b1 b2 b3 n1 d1 n2 d2 n3 d3 _ (j2.kept HA.out (ja wr (.cells #[.string n.name,.slice b1 n1 d1,.slice b2 n2 d2,.slice b3 n3 d3,.bool n.cordon] 68))) (HLOW.out n HN.out));clear hz hlen hinv;go_wp2_with fail
      refine HO.out.mono ?_;rintro e w2 ⟨v,rfl,hv,kk⟩;have KW:=lH ((ja wr (.cells #[.string n.name,.slice b1 n1 d1,.slice b2 n2 d2,.slice b3 n3 d3,.bool n.cordon] 68)).trans kk);obtain⟨x1,y1,e1,x2,y2,e2,x3,y3,e3,rfl,s0,s1,s2,s3,g1,g2,g3⟩:=hv;have HOF:=lH (show Off (fun b=>b<w.heap.size∨b=g) w2 fun u=>At3 u (n,(x1,y1,e1),(x2,y2,e2),(x3,y3,e3)) from j2.off (B:=wr.heap.size+1) ⟨s0,s1,s2,s3⟩ (by simpa [jt] using g1) (by simpa [jt] using g2) (by simpa [jt] using g3) (fun b hb h=>by have:=HGL.out;have:=HBS.out;rcases h with h | h<;>omega));clear s0 s1 s2 s3 g1 g2 g3 kk;have q0:=cell_later KW.out p0;have q1:=cell_later KW.out p1;have q2:=cell_later KW.out p2;have q3:=cell_later KW.out p3;have q4:=cell_later KW.out p4;have x0f:w2.frozen? ⟨g,k*5,none⟩=false:=(HV.out.own.kept KW.out).frozen_at _;have x1f:w2.frozen? ⟨g,k*5+1,none⟩=false:=(HV.out.own.kept KW.out).frozen_at _;have x2f:w2.frozen? ⟨g,k*5+2,none⟩=false:=(HV.out.own.kept KW.out).frozen_at _;have x3f:w2.frozen? ⟨g,k*5+3,none⟩=false:=(HV.out.own.kept KW.out).frozen_at _;have x4f:w2.frozen? ⟨g,k*5+4,none⟩=false:=(HV.out.own.kept KW.out).frozen_at _;clear p0 p1 p2 p3 p4;have HNX:=lH (HV.out.next (z':=(n,(x1,y1,e1),(x2,y2,e2),(x3,y3,e3))) HZ.out rfl trivial KW.out HBS.out HOF.out);go_wp2;obtain⟨WE,hWE⟩:∃W,w2.setCells g (k*5) [.string n.name,.slice x1 y1 e1,.slice x2 y2 e2,.slice x3 y3 e3,.bool n.cordon]=W:=⟨_,rfl⟩
      have hWE2:(((((w2.setCell ⟨g,k*5,none⟩ (.string n.name)).setCell ⟨g,k*5+1,none⟩ (.slice x1 y1 e1)).setCell ⟨g,k*5+2,none⟩ (.slice x2 y2 e2)).setCell ⟨g,k*5+3,none⟩ (.slice x3 y3 e3)).setCell ⟨g,k*5+4,none⟩ (.bool n.cordon))=WE:=hWE;have HNX:=lH (show zZ jP 68 At3 (fun z=>z.1) w.heap.size g len c (k+1) l w WE (lx.set k (n,(x1,y1,e1),(x2,y2,e2),(x3,y3,e3))) by rw[←hWE];exact HNX.out);try rw[hWE2]
      clear hWE hWE2 q0 q1 q2 q3 q4 x0f x1f x2f x3f x4f;go_roundw
      case rel=>exact⟨k+1,_,by omega,by go_num,by rw[List.length_set];exact HLEN.out,HNX.out⟩
      case measure=>simp[intOf];omega
    · have HD:=lH (hinv.deep (by omega));have HKW:=lH hinv.kept;have HM2:=lH hinv.map;clear hinv hlen;go_wp2;go_ret;exact⟨_,lx,rfl,HM2.out,⟨⟨_,_,_,rfl⟩,HD.out.1,fun z hz=>(HD.out.2 z hz).less fun b h=>h.imp id fun e=>(Option.some.inj e).symm⟩,HKW.out⟩
theorem jcn (a:Option Addr) (len cap:Nat) (l:List Pd) (w:World) (hr:jz w a len l) (hc:len≤cap) (hm:cap≤maxLen) (hn:len≤100000) (hlow:∀n ∈ l,ZD n) :
 Calls Tryz.prog 78 #[.slice a len cap,.func (.func 79) #[] #[]] w fun e w'=>∃v lx,e=.returned v∧(lx.map fun z=>z.1)=l∧zP jy 39 At4 w.heap.size w' v lx∧Kept w w':=by
 obtain⟨lx0,hmap,hrx,hat0⟩:=jap hr;have HC:=lH (Xz a len cap lx0 w hrx hc hm hn);have HLOW:=lH hlow;have HMAP:=lH hmap;have HAT0:=lH hat0;have HL0:=lH hrx.1;clear hr hmap hrx hat0 hlow hc hm;go_enter Tryz.func78,Tryz.ntmps78;go_wp2_with fail
 refine HC.out.mono ?_;rintro e w1 ⟨hres,hk⟩;have K0:=lH hk;rcases hres with ⟨rfl,h0⟩ | ⟨g,c,rfl,ho⟩
 · have HE:=lH (show l=[] by rw[←HMAP.out,h0];rfl);clear h0 hk;go_wp2;refine wp_loop_rounds 1 ?_;rw[rounds_succ];go_wp2;go_ret;exact⟨_,[],rfl,HE.out.symm,⟨⟨_,_,_,rfl⟩,⟨Own.nil _ _ _,fun z h=>by cases h⟩,fun z h=>by cases h⟩,K0.out⟩
 · have HI:=lH (zZ.start (At:=At4) (fst:=(fun z=>z.1)) ho HMAP.out hk fun z hz u k=>jx.kept (HAT0.out z hz) k);clear ho hk;go_wp2;go_loopw [12] (fun i wr=>∃(k:Nat) (lx:List PX),k≤len∧i=.int .i64 k∧lx.length=len∧zZ jy 39 At4 (fun z=>z.1) w.heap.size g len c k l w wr lx) (fun i _=>len-(intOf i).toNat)
   case atStart=>exact⟨0,lx0,Nat.zero_le _,rfl,HL0.out,HI.out⟩
   case round =>
    obtain⟨k,lx,hk,rfl,hlen,hinv⟩:=hrel;have HV:=lH hinv;have HLEN:=lH hlen;by_cases hlt:k<len
    · obtain⟨z,hz⟩:∃z,lx[k]?=some z:=⟨_,List.getElem?_eq_getElem (by omega)⟩
      obtain⟨n,⟨b1,n1,d1⟩,⟨b2,n2,d2⟩,⟨b3,n3,d3⟩,⟨b4,n4,d4⟩⟩:=z;have p0:wr.cell? ⟨g,k*11,none⟩=some (.string n.name):=hinv.own.cell_at hz (j:=0) rfl;have p1:wr.cell? ⟨g,k*11+1,none⟩=some (.string n.owner):=hinv.own.cell_at hz (j:=1) rfl;have p2:wr.cell? ⟨g,k*11+2,none⟩=some (.int .i64 n.prio):=hinv.own.cell_at hz (j:=2) rfl;have p3:wr.cell? ⟨g,k*11+3,none⟩=some (.slice b1 n1 d1):=hinv.own.cell_at hz (j:=3) rfl;have p4:wr.cell? ⟨g,k*11+4,none⟩=some (.slice b2 n2 d2):=hinv.own.cell_at hz (j:=4) rfl;have p5:wr.cell? ⟨g,k*11+5,none⟩=some (.slice b3 n3 d3):=hinv.own.cell_at hz (j:=5) rfl;have p6:wr.cell? ⟨g,k*11+6,none⟩=some (.slice b4 n4 d4):=hinv.own.cell_at hz (j:=6) rfl;have p7:wr.cell? ⟨g,k*11+7,none⟩=some (.string n.key):=hinv.own.cell_at hz (j:=7) rfl;have p8:wr.cell? ⟨g,k*11+8,none⟩=some (.int .i64 n.most):=hinv.own.cell_at hz (j:=8) rfl;have p9:wr.cell? ⟨g,k*11+9,none⟩=some (.string n.node):=hinv.own.cell_at hz (j:=9) rfl;have p10:wr.cell? ⟨g,k*11+10,none⟩=some (.bool n.hold):=hinv.own.cell_at hz (j:=10) rfl;have HZ:=lH hz;have HN:=lH (show n ∈ l by rw[←hinv.map];exact List.mem_map.2 ⟨_,List.mem_of_getElem? hz,rfl⟩);have HA:=lH ((hinv.todo k _ hz (Nat.le_refl _)).here);have HBS:=lH hinv.kept.size;have hkk:(k:Int)<(len:Int):=by omega
      have HGL:=lH (JM hinv.own g rfl);have HO:=lH (qj n (.slice b1 n1 d1) (.slice b2 n2 d2) (.slice b3 n3 d3) (.slice b4 n4 d4) _ (jx.kept HA.out (ja wr (.cells #[.string n.name,.string n.owner,.int .i64 n.prio,.slice b1 n1 d1,.slice b2 n2 d2,.slice b3 n3 d3,.slice b4 n4 d4,.string n.key,.int .i64 n.most,.string n.node,.bool n.hold] 39))) (HLOW.out n HN.out));unfold jW at HO;clear hz hlen hinv;go_wp2_with fail
      refine HO.out.mono ?_;rintro e w2 ⟨v,rfl,hv,kk⟩;have KW:=lH ((ja wr (.cells #[.string n.name,.string n.owner,.int .i64 n.prio,.slice b1 n1 d1,.slice b2 n2 d2,.slice b3 n3 d3,.slice b4 n4 d4,.string n.key,.int .i64 n.most,.string n.node,.bool n.hold] 39)).trans kk);obtain⟨x1,y1,e1,x2,y2,e2,x3,y3,e3,x4,y4,e4,hv9,s0,g1,g2,g3,g4⟩:=hv;rw[World.size_alloc] at g1 g2 g3 g4;have hv9:v=.agg #[.string n.name,.string n.owner,.int .i64 n.prio,.slice x1 y1 e1,.slice x2 y2 e2,.slice x3 y3 e3,.slice x4 y4 e4,.string n.key,.int .i64 n.most,.string n.node,.bool n.hold]:=hv9;subst hv9;have HOF:=lH (show Off (fun b=>b<w.heap.size∨b=g) w2 fun u=>At4 u (n,(x1,y1,e1),(x2,y2,e2),(x3,y3,e3),(x4,y4,e4)) from jx.off (B:=wr.heap.size+1) s0 g1 g2 g3 g4 (fun b hb h=>by have:=HGL.out;have:=HBS.out;rcases h with h | h<;>omega));clear s0 g1 g2 g3 g4 kk;have q0:=cell_later KW.out p0;have q1:=cell_later KW.out p1;have q2:=cell_later KW.out p2;have q3:=cell_later KW.out p3;have q4:=cell_later KW.out p4;have q5:=cell_later KW.out p5;have q6:=cell_later KW.out p6;have q7:=cell_later KW.out p7;have q8:=cell_later KW.out p8;have q9:=cell_later KW.out p9;have q10:=cell_later KW.out p10;have x0f:w2.frozen? ⟨g,k*11,none⟩=false:=(HV.out.own.kept KW.out).frozen_at _;have x1f:w2.frozen? ⟨g,k*11+1,none⟩=false:=(HV.out.own.kept KW.out).frozen_at _;have x2f:w2.frozen? ⟨g,k*11+2,none⟩=false:=(HV.out.own.kept KW.out).frozen_at _;have x3f:w2.frozen? ⟨g,k*11+3,none⟩=false:=(HV.out.own.kept KW.out).frozen_at _;have x4f:w2.frozen? ⟨g,k*11+4,none⟩=false:=(HV.out.own.kept KW.out).frozen_at _;have x5f:w2.frozen? ⟨g,k*11+5,none⟩=false:=(HV.out.own.kept KW.out).frozen_at _;have x6f:w2.frozen? ⟨g,k*11+6,none⟩=false:=(HV.out.own.kept KW.out).frozen_at _;have x7f:w2.frozen? ⟨g,k*11+7,none⟩=false:=(HV.out.own.kept KW.out).frozen_at _;have x8f:w2.frozen? ⟨g,k*11+8,none⟩=false:=(HV.out.own.kept KW.out).frozen_at _;have x9f:w2.frozen? ⟨g,k*11+9,none⟩=false:=(HV.out.own.kept KW.out).frozen_at _;have x10f:w2.frozen? ⟨g,k*11+10,none⟩=false:=(HV.out.own.kept KW.out).frozen_at _;clear p0 p1 p2 p3 p4 p5 p6 p7 p8 p9 p10;have HNX:=lH (HV.out.next (z':=(n,(x1,y1,e1),(x2,y2,e2),(x3,y3,e3),(x4,y4,e4))) HZ.out rfl trivial KW.out HBS.out HOF.out);go_wp2;obtain⟨WE,hWE⟩:∃W,w2.setCells g (k*11) [.string n.name,.string n.owner,.int .i64 n.prio,.slice x1 y1 e1,.slice x2 y2 e2,.slice x3 y3 e3,.slice x4 y4 e4,.string n.key,.int .i64 n.most,.string n.node,.bool n.hold]=W:=⟨_,rfl⟩
      have hWE2:(((((((((((w2.setCell ⟨g,k*11,none⟩ (.string n.name)).setCell ⟨g,k*11+1,none⟩ (.string n.owner)).setCell ⟨g,k*11+2,none⟩ (.int .i64 n.prio)).setCell ⟨g,k*11+3,none⟩ (.slice x1 y1 e1)).setCell ⟨g,k*11+4,none⟩ (.slice x2 y2 e2)).setCell ⟨g,k*11+5,none⟩ (.slice x3 y3 e3)).setCell ⟨g,k*11+6,none⟩ (.slice x4 y4 e4)).setCell ⟨g,k*11+7,none⟩ (.string n.key)).setCell ⟨g,k*11+8,none⟩ (.int .i64 n.most)).setCell ⟨g,k*11+9,none⟩ (.string n.node)).setCell ⟨g,k*11+10,none⟩ (.bool n.hold))=WE:=hWE;have HNX:=lH (show zZ jy 39 At4 (fun z=>z.1) w.heap.size g len c (k+1) l w WE (lx.set k (n,(x1,y1,e1),(x2,y2,e2),(x3,y3,e3),(x4,y4,e4))) by rw[←hWE];exact HNX.out);try rw[hWE2]
      clear hWE hWE2 q0 q1 q2 q3 q4 q5 q6 q7 q8 q9 q10 x0f x1f x2f x3f x4f x5f x6f x7f x8f x9f x10f;go_roundw
      case rel=>exact⟨k+1,_,by omega,by go_num,by rw[List.length_set];exact HLEN.out,HNX.out⟩
      case measure=>simp[intOf];omega
    · have HD:=lH (hinv.deep (by omega));have HKW:=lH hinv.kept;have HM2:=lH hinv.map;clear hinv hlen;go_wp2;go_ret;exact⟨_,lx,rfl,HM2.out,⟨⟨_,_,_,rfl⟩,HD.out.1,fun z hz=>(HD.out.2 z hz).less fun b h=>h.imp id fun e=>(Option.some.inj e).symm⟩,HKW.out⟩
theorem jcf (a:Option Addr) (len cap:Nat) (l:List Bd) (w:World) (hr:j7 w a len l) (hc:len≤cap) (hm:cap≤maxLen) (hn:len≤100000) (hlow:∀n ∈ l,n.sel.length≤1000000) :
 Calls Tryz.prog 80 #[.slice a len cap,.func (.func 81) #[] #[]] w fun e w'=>∃v lx,e=.returned v∧(lx.map fun z=>z.1)=l∧zP jH 147 At1 w.heap.size w' v lx∧Kept w w':=by
 obtain⟨lx0,hmap,hrx,hat0⟩:=jay hr;have HC:=lH (XH a len cap lx0 w hrx hc hm hn);have HLOW:=lH hlow;have HMAP:=lH hmap;have HAT0:=lH hat0;have HL0:=lH hrx.1;clear hr hmap hrx hat0 hlow hc hm;go_enter Tryz.func80,Tryz.ntmps80;go_wp2_with fail
 refine HC.out.mono ?_;rintro e w1 ⟨hres,hk⟩;have K0:=lH hk;rcases hres with ⟨rfl,h0⟩ | ⟨g,c,rfl,ho⟩
 · have HE:=lH (show l=[] by rw[←HMAP.out,h0];rfl);clear h0 hk;go_wp2;refine wp_loop_rounds 1 ?_;rw[rounds_succ];go_wp2;go_ret;exact⟨_,[],rfl,HE.out.symm,⟨⟨_,_,_,rfl⟩,⟨Own.nil _ _ _,fun z h=>by cases h⟩,fun z h=>by cases h⟩,K0.out⟩
 · have HI:=lH (zZ.start (At:=At1) (fst:=(fun z=>z.1)) ho HMAP.out hk fun z hz u k=>jO.kept (HAT0.out z hz) k);clear ho hk;go_wp2;go_loopw [12] (fun i wr=>∃(k:Nat) (lx:List BX),k≤len∧i=.int .i64 k∧lx.length=len∧zZ jH 147 At1 (fun z=>z.1) w.heap.size g len c k l w wr lx) (fun i _=>len-(intOf i).toNat)
   case atStart=>exact⟨0,lx0,Nat.zero_le _,rfl,HL0.out,HI.out⟩
   case round =>
    obtain⟨k,lx,hk,rfl,hlen,hinv⟩:=hrel;have HV:=lH hinv;have HLEN:=lH hlen;by_cases hlt:k<len
    · obtain⟨z,hz⟩:∃z,lx[k]?=some z:=⟨_,List.getElem?_eq_getElem (by omega)⟩
      obtain⟨n,⟨b1,n1,d1⟩⟩:=z;have p0:wr.cell? ⟨g,k*3,none⟩=some (.string n.name):=hinv.own.cell_at hz (j:=0) rfl;have p1:wr.cell? ⟨g,k*3+1,none⟩=some (.slice b1 n1 d1):=hinv.own.cell_at hz (j:=1) rfl;have p2:wr.cell? ⟨g,k*3+2,none⟩=some (.int .i64 n.floor):=hinv.own.cell_at hz (j:=2) rfl;have HZ:=lH hz;have HN:=lH (show n ∈ l by rw[←hinv.map];exact List.mem_map.2 ⟨_,List.mem_of_getElem? hz,rfl⟩);have HA:=lH ((hinv.todo k _ hz (Nat.le_refl _)).here);have HBS:=lH hinv.kept.size;have hkk:(k:Int)<(len:Int):=by omega
      have HGL:=lH (JM hinv.own g rfl);have HO:=lH (YW n b1 n1 d1 _ (jO.kept HA.out (ja wr (.cells #[.string n.name,.slice b1 n1 d1,.int .i64 n.floor] 147))) (HLOW.out n HN.out));unfold J4 at HO;clear hz hlen hinv;go_wp2_with fail
      refine HO.out.mono ?_;rintro e w2 ⟨v,rfl,hv,kk⟩;have KW:=lH ((ja wr (.cells #[.string n.name,.slice b1 n1 d1,.int .i64 n.floor] 147)).trans kk);obtain⟨x1,y1,e1,hv9,s0,g1⟩:=hv;rw[World.size_alloc] at g1;have hv9:v=.agg #[.string n.name,.slice x1 y1 e1,.int .i64 n.floor]:=hv9;subst hv9;have HOF:=lH (show Off (fun b=>b<w.heap.size∨b=g) w2 fun u=>At1 u (n,(x1,y1,e1)) from jO.off (B:=wr.heap.size+1) s0 g1 (fun b hb h=>by have:=HGL.out;have:=HBS.out;rcases h with h | h<;>omega));clear s0 g1 kk;have q0:=cell_later KW.out p0;have q1:=cell_later KW.out p1;have q2:=cell_later KW.out p2;have x0f:w2.frozen? ⟨g,k*3,none⟩=false:=(HV.out.own.kept KW.out).frozen_at _;have x1f:w2.frozen? ⟨g,k*3+1,none⟩=false:=(HV.out.own.kept KW.out).frozen_at _;have x2f:w2.frozen? ⟨g,k*3+2,none⟩=false:=(HV.out.own.kept KW.out).frozen_at _;clear p0 p1 p2;have HNX:=lH (HV.out.next (z':=(n,(x1,y1,e1))) HZ.out rfl trivial KW.out HBS.out HOF.out);go_wp2;obtain⟨WE,hWE⟩:∃W,w2.setCells g (k*3) [.string n.name,.slice x1 y1 e1,.int .i64 n.floor]=W:=⟨_,rfl⟩
      have hWE2:(((w2.setCell ⟨g,k*3,none⟩ (.string n.name)).setCell ⟨g,k*3+1,none⟩ (.slice x1 y1 e1)).setCell ⟨g,k*3+2,none⟩ (.int .i64 n.floor))=WE:=hWE;have HNX:=lH (show zZ jH 147 At1 (fun z=>z.1) w.heap.size g len c (k+1) l w WE (lx.set k (n,(x1,y1,e1))) by rw[←hWE];exact HNX.out);try rw[hWE2]
      clear hWE hWE2 q0 q1 q2 x0f x1f x2f;go_roundw
      case rel=>exact⟨k+1,_,by omega,by go_num,by rw[List.length_set];exact HLEN.out,HNX.out⟩
      case measure=>simp[intOf];omega
    · have HD:=lH (hinv.deep (by omega));have HKW:=lH hinv.kept;have HM2:=lH hinv.map;clear hinv hlen;go_wp2;go_ret;exact⟨_,lx,rfl,HM2.out,⟨⟨_,_,_,rfl⟩,HD.out.1,fun z hz=>(HD.out.2 z hz).less fun b h=>h.imp id fun e=>(Option.some.inj e).symm⟩,HKW.out⟩
structure jA (S:Nat→Prop) (B:Nat) (w:World) (v1 v2 v3:Value) (s:Clu):Prop where
 pods:∃lx:List PX,(lx.map fun z=>z.1)=s.pods∧Own jy 39 w B v2 lx∧∀z ∈ lx,Off (fun b=>S b∨v2.ownBlock=some b) w fun u=>At4 u z
 nodes:Off (fun b=>S b∨v2.ownBlock=some b) w fun u=>j4 u v1 s.nodes
 buds:Off (fun b=>S b∨v2.ownBlock=some b) w fun u=>zo u v3 s.buds
 sep:∀k,v2.ownBlock=some k→¬S k
theorem jA.toR {S:Nat→Prop} {B:Nat} {w:World} {v1 v2 v3:Value} {s:Clu} (h:jA S B w v1 v2 v3 s):zr w (.agg #[v1,v2,v3]) s:=by
 obtain⟨lx,e,ho,hd⟩:=h.pods;exact⟨v1,v2,v3,rfl,h.nodes.here,by rw[←e];exact qc ho fun z hz=>(hd z hz).here,h.buds.here⟩
theorem jA.lt {S:Nat→Prop} {B:Nat} {w:World} {v1 v2 v3:Value} {s:Clu} (h:jA S B w v1 v2 v3 s):∀g,v2.ownBlock=some g→B≤g∧g<w.heap.size:=by
 obtain⟨lx,e,ho,hd⟩:=h.pods;exact JM ho
theorem jA.step {S:Nat→Prop} {B:Nat} {w w':World} {v1 v2 v3:Value} {s:Clu} (h:jA S B w v1 v2 v3 s) (g:jg S w w'):jA S B w' v1 v2 v3 s:=by
 obtain⟨lx,e,ho,hd⟩:=h.pods;have g':jg (fun b=>S b∨v2.ownBlock=some b) w w':=g.mono fun b e=>.inl e;exact⟨⟨lx,e,ho.goff g h.sep,fun z hz=>(hd z hz).step g'⟩,h.nodes.step g',h.buds.step g',h.sep⟩
theorem jA.kept {S:Nat→Prop} {B:Nat} {w w':World} {v1 v2 v3:Value} {s:Clu} (h:jA S B w v1 v2 v3 s) (k:Kept w w'):jA S B w' v1 v2 v3 s:=h.step (jg.of k)
theorem jA.less {S S':Nat→Prop} {B B':Nat} {w:World} {v1 v2 v3:Value} {s:Clu} (h:jA S B w v1 v2 v3 s) (hb:B'≤B) (hs:∀k,S' k→S k):jA S' B' w v1 v2 v3 s:=by
 obtain⟨lx,e,ho,hd⟩:=h.pods;have m:∀k,(S' k∨v2.ownBlock=some k)→(S k∨v2.ownBlock=some k):=fun k e=>e.imp (hs k) id;exact⟨⟨lx,e,ho.base_le hb,fun z hz=>(hd z hz).less m⟩,h.nodes.less m,h.buds.less m,fun k hk e=>h.sep k hk (hs k e)⟩
theorem jA.more {S:Nat→Prop} {B q:Nat} {w w':World} {v1 v2 v3:Value} {s:Clu} (h:jA S B w v1 v2 v3 s) (k:Kept w w') (hq:w.heap.size≤q):jA (fun b=>S b∨b=q) B w' v1 v2 v3 s:=by
 obtain⟨lx,e,ho,hd⟩:=h.pods;have m:∀b,((S b∨b=q)∨v2.ownBlock=some b)→((S b∨v2.ownBlock=some b)∨w.heap.size≤b):=fun b e=>by
  rcases e with (e | e) | e
  · exact .inl (.inl e)
  · exact .inr (by omega)
  · exact .inl (.inr e)
 exact⟨⟨lx,e,ho.kept k,fun z hz=>(hd z hz).new (jg.of k) m⟩,h.nodes.new (jg.of k) m,h.buds.new (jg.of k) m,fun b hb e=>by
  rcases e with e | e
  · exact h.sep b hb e
  · have:=(h.lt b hb).2;omega⟩
theorem jA.turn {S:Nat→Prop} {B:Nat} {w w':World} {v1 v2 v3 v2':Value} {s:Clu} {l:List Pd} (h:jA S B w v1 v2 v3 s) (g:jg (fun b=>v2.ownBlock=some b) w w') (hn:∀k,v2'.ownBlock=some k→v2.ownBlock=some k∨w.heap.size≤k)
 (hS:∀k,S k→k<w.heap.size) (hp:∃lx:List PX,(lx.map fun z=>z.1)=l∧Own jy 39 w' B v2' lx∧∀z ∈ lx,Off (fun b=>S b∨v2'.ownBlock=some b) w' fun u=>At4 u z):jA S B w' v1 v2' v3 { s with pods:=l }:=by
 have g':jg (fun b=>S b∨v2.ownBlock=some b) w w':=g.mono fun b e=>.inr e;have m:∀b,(S b∨v2'.ownBlock=some b)→((S b∨v2.ownBlock=some b)∨w.heap.size≤b):=fun b e=>by
  rcases e with e | e
  · exact .inl (.inl e)
  · rcases hn b e with e | e
    · exact .inl (.inr e)
    · exact .inr e
 exact⟨hp,h.nodes.new g' m,h.buds.new g' m,fun k hk e=>by
  rcases hn k hk with h' | h'
  · exact h.sep k h' e
  · have:=hS k e;omega⟩
theorem jA.els {S:Nat→Prop} {B:Nat} {w w':World} {v2 v2':Value} {lx:List PX} (h:∀z ∈ lx,Off (fun b=>S b∨v2.ownBlock=some b) w fun u=>At4 u z) (g:jg (fun b=>v2.ownBlock=some b) w w') (hn:∀k,v2'.ownBlock=some k→v2.ownBlock=some k∨w.heap.size≤k):∀z ∈ lx,Off (fun b=>S b∨v2'.ownBlock=some b) w' fun u=>At4 u z:=fun z hz =>
 (h z hz).new (g.mono fun b e=>.inr e) fun b e=>by
  rcases e with e | e
  · exact .inl (.inl e)
  · rcases hn b e with e | e
    · exact .inl (.inr e)
    · exact .inr e
theorem qY {T:TypeId} {B:Nat} {w:World} {v:Value} {lx:List NX} (h:zP jP T At3 B w v lx):Off (fun b=>b<B) w fun u=>j4 u v (lx.map fun z=>z.1):=fun u g =>
 Xx (h.2.1.own.goff g fun k hk e=>by have:=(JM h.2.1.own k hk).1;omega) fun z hz=>(h.2.2 z hz) u (g.mono fun b hb=>.inl hb)
theorem jaJ {T:TypeId} {B:Nat} {w:World} {v:Value} {lx:List BX} (h:zP jH T At1 B w v lx):Off (fun b=>b<B) w fun u=>zo u v (lx.map fun z=>z.1):=fun u g =>
 qd (h.2.1.own.goff g fun k hk e=>by have:=(JM h.2.1.own k hk).1;omega) fun z hz=>(h.2.2 z hz) u (g.mono fun b hb=>.inl hb)
theorem jaR {q B:Nat} {z w1 w2 w3 WE:World} {v1 v2 v3:Value} {lxn:List NX} {lxp:List PX} {lxb:List BX} (hq:q<z.heap.size) (hB:B≤z.heap.size)
 (fn:zP jP 68 At3 z.heap.size w1 v1 lxn) (k1:Kept z w1) (fp:zP jy 39 At4 w1.heap.size w2 v2 lxp) (k2:Kept w1 w2) (fb:zP jH 147 At1 w2.heap.size w3 v3 lxb) (k3:Kept w2 w3)
 (g:jg (fun b=>b=q) w3 WE):jA (fun b=>b<B) w1.heap.size WE v1 v2 v3 ⟨lxn.map fun z=>z.1,lxp.map fun z=>z.1,lxb.map fun z=>z.1⟩:=by
 have s1:=k1.size;have s2:=k2.size;have hp:∀b,v2.ownBlock=some b→w1.heap.size≤b∧b<w2.heap.size:=fun b hb=>JM fp.2.1.own b hb;have gm:jg (fun b=>(b<B∨v2.ownBlock=some b)∨b=q) w3 WE:=g.mono fun b e=>.inr e;refine⟨⟨lxp,rfl,(fp.2.1.own.kept k3).goff g fun k hk e=>by have:=(hp k hk).1;omega,fun z hz=>(((fp.2.2 z hz).step (jg.of k3)).less (S':=fun b=>(b<B∨v2.ownBlock=some b)∨b=q) fun b e=>by
  rcases e with (e | e) | e
  · exact .inl (by omega)
  · exact .inr e
  · exact .inl (by omega)).step gm |>.less fun b e=>.inl e⟩,?_,?_,fun k hk e=>by have:=(hp k hk).1;omega⟩
 · have h:=(qY fn).new (S':=fun b=>(b<B∨v2.ownBlock=some b)∨b=q) (jg.of (k2.trans k3)) fun b e=>by
    rcases e with (e | e) | e
    · exact .inl (by omega)
    · exact .inr (hp b e).1
    · exact .inl (by omega)
   exact(h.step gm).less fun b e=>.inl e
 · have h:=(jaJ fb).less (S':=fun b=>(b<B∨v2.ownBlock=some b)∨b=q) fun b e=>by
    rcases e with (e | e) | e
    · omega
    · exact(hp b e).2
    · omega
   exact(h.step gm).less fun b e=>.inl e
theorem qE (a b d:Option Addr) (len cap m c n e:Nat) (nl:List Nod) (pl:List Pd) (bl:List Bd) (w:World) (hn:jo w a len nl) (hp:jz w b m pl) (hb:j7 w d n bl) (h1:len≤cap) (h2:cap≤maxLen) (h3:m≤c) (h4:c≤maxLen) (h5:n≤e) (h6:e≤maxLen) (hl:ZP ⟨nl,pl,bl⟩) :
 Calls Tryz.prog 33 #[.agg #[.slice a len cap,.slice b m c,.slice d n e]] w fun e w'=>∃a1 n1 c1 a2 n2 c2 a3 n3 c3,e=.returned (.agg #[.slice a1 n1 c1,.slice a2 n2 c2,.slice a3 n3 c3])∧jA (fun b=>b<w.heap.size) w.heap.size w' (.slice a1 n1 c1) (.slice a2 n2 c2) (.slice a3 n3 c3) ⟨nl,pl,bl⟩∧Kept w w':=by
 obtain⟨Z,hZ⟩:∃Z,(w.alloc (.cells #[.slice a len cap,.slice b m c,.slice d n e] 26)).alloc (.cells #[.slice none 0 0,.slice none 0 0,.slice none 0 0] 26)=Z:=⟨_,rfl⟩
 have hkz:Kept w Z:=by rw[←hZ];exact jL _ _ _
 have hzs:Z.heap.size=w.heap.size+2:=by rw[←hZ];simp
 have HS:=lH (show ∀W,Kept Z W→W.cell? ⟨w.heap.size,0,none⟩=some (.slice a len cap)∧W.cell? ⟨w.heap.size,1,none⟩=some (.slice b m c)∧W.cell? ⟨w.heap.size,2,none⟩=some (.slice d n e) from fun W k=>by
  have cc:=je w (.slice a len cap) [.slice b m c,.slice d n e] 26 W (by have:=ja (w.alloc (.cells #[.slice a len cap,.slice b m c,.slice d n e] 26)) (.cells #[.slice none 0 0,.slice none 0 0,.slice none 0 0] 26);rw[hZ] at this;exact this.trans k);exact⟨cc.at_ 0 _ rfl,cc.at_ 1 _ rfl,cc.at_ 2 _ rfl⟩)
 have HQ:=lH (show ∀W,Kept Z W→ji (w.heap.size+1) [.slice none 0 0,.slice none 0 0,.slice none 0 0] W from fun W k=>by
  have dd:=je (w.alloc (.cells #[.slice a len cap,.slice b m c,.slice d n e] 26)) (.slice none 0 0) [.slice none 0 0,.slice none 0 0] 26 W (by rw[hZ];exact k);rw[World.size_alloc] at dd;exact dd)
 have H1:=lH (fun W (k:Kept Z W)=>jbW a len cap nl W (hn.kept (hkz.trans k)) h1 h2 (by rw[←hn.1];exact hl.nodesN) hl.nodes);have H2:=lH (fun W (k:Kept Z W)=>jcn b m c pl W (hp.kept (hkz.trans k)) h3 h4 (by rw[←hp.1];exact hl.podsN) hl.pods);have H3:=lH (fun W (k:Kept Z W)=>jcf d n e bl W (hb.kept (hkz.trans k)) h5 h6 (by rw[←hb.1];exact hl.budsN) hl.buds);have HKZ:=lH hkz;have HZS:=lH hzs;clear hn hp hb h1 h2 h3 h4 h5 h6 hl hkz hzs;go_enter Tryz.func33,Tryz.ntmps33;go_wp2;try rw[hZ]
 clear hZ;refine wp_region_held_drew (S:=fun W=>W.cell? ⟨w.heap.size,0,none⟩=some (.slice a len cap)∧W.cell? ⟨w.heap.size,1,none⟩=some (.slice b m c)∧W.cell? ⟨w.heap.size,2,none⟩=some (.slice d n e)) (by kernel_rfl) (HS.out _ (Kept.drew _)) (fun hHeld=>?_);refine wpAnyH_take  (i:=0) (v:=?_) (by rw[List.getElem?_toArray];exact rfl) (by kernel_rfl) (by kernel_rfl) (by kernel_rfl) (by exact fun _ _ _ h=>h) (Or.inl ⟨by rfl,(by rintro W ⟨o0,o1,o2⟩;go_simp<;>with_reducible rfl)⟩) (by assumption) ?_;try simp only  [Act.put,List.setIfInBounds_toArray,List.set_cons_zero,List.set_cons_succ]
 refine wpAnyH_take  (i:=1) (v:=?_) (by rw[List.getElem?_toArray];exact rfl) (by kernel_rfl) (by kernel_rfl) (by kernel_rfl) (by exact fun _ _ _ h=>h) (Or.inl ⟨by rfl,(by rintro W ⟨o0,o1,o2⟩;go_simp<;>with_reducible rfl)⟩) (by assumption) ?_;try simp only  [Act.put,List.setIfInBounds_toArray,List.set_cons_zero,List.set_cons_succ]
 refine wpAnyH_take  (i:=3) (v:=?_) (by rw[List.getElem?_toArray];exact rfl) (by kernel_rfl) (by kernel_rfl) (by kernel_rfl) (by exact fun _ _ _ h=>h) (Or.inl ⟨by rfl,(by rintro W ⟨o0,o1,o2⟩;go_simp<;>with_reducible rfl)⟩) (by assumption) ?_;try simp only  [Act.put,List.setIfInBounds_toArray,List.set_cons_zero,List.set_cons_succ]
 refine wpAnyH_take  (i:=4) (v:=?_) (by rw[List.getElem?_toArray];exact rfl) (by kernel_rfl) (by kernel_rfl) (by kernel_rfl) (by exact fun _ _ _ h=>h) (Or.inl ⟨by rfl,(by rintro W ⟨o0,o1,o2⟩;go_simp<;>with_reducible rfl)⟩) (by assumption) ?_;try simp only  [Act.put,List.setIfInBounds_toArray,List.set_cons_zero,List.set_cons_succ]
 refine wpAnyH_take  (i:=6) (v:=?_) (by rw[List.getElem?_toArray];exact rfl) (by kernel_rfl) (by kernel_rfl) (by kernel_rfl) (by exact fun _ _ _ h=>h) (Or.inl ⟨by rfl,(by rintro W ⟨o0,o1,o2⟩;go_simp<;>with_reducible rfl)⟩) (by assumption) ?_;try simp only  [Act.put,List.setIfInBounds_toArray,List.set_cons_zero,List.set_cons_succ]
 refine wpAnyH_take  (i:=7) (v:=?_) (by rw[List.getElem?_toArray];exact rfl) (by kernel_rfl) (by kernel_rfl) (by kernel_rfl) (by exact fun _ _ _ h=>h) (Or.inl ⟨by rfl,(by rintro W ⟨o0,o1,o2⟩;go_simp<;>with_reducible rfl)⟩) (by assumption) ?_;try simp only  [Act.put,List.setIfInBounds_toArray,List.set_cons_zero,List.set_cons_succ]
 refine wpAnyH_ready  (rs:=[2]) (by kernel_rfl) (by simp) (AllReadyH.cons  (by rw[List.getElem?_toArray];exact rfl) (fun K9 hK9=>?_) AllReadyH.nil);go_simp;refine(H1.out _ (Kept.drew _)).mono ?_;rintro e1 w1 ⟨v1,lx1,rfl,hm1,hf1,kk⟩;have J1:=lH ((Kept.drew Z).trans kk);have K1:=lH kk;have M1:=lH hm1;have F1:=lH hf1;obtain⟨⟨a1,n1,c1,rfl⟩,-⟩:=hf1;clear kk hm1;refine hK9.out _ _ (HS.out _ J1.out) (fun hHeld1=>?_);clear hK9 K9;try simp only  [Act.put,List.setIfInBounds_toArray,List.set_cons_zero,List.set_cons_succ]
 refine wpAnyH_ready  (rs:=[5]) (by kernel_rfl) (by simp) (AllReadyH.cons  (by rw[List.getElem?_toArray];exact rfl) (fun K9 hK9=>?_) AllReadyH.nil);go_simp;refine(H2.out _ J1.out).mono ?_;rintro e2 w2 ⟨v2,lx2,rfl,hm2,hf2,kk⟩;have J2:=lH (J1.out.trans kk);have K2:=lH kk;have M2:=lH hm2;have F2:=lH hf2;obtain⟨⟨a2,n2,c2,rfl⟩,-⟩:=hf2;clear kk hm2;refine hK9.out _ _ (HS.out _ J2.out) (fun hHeld2=>?_);clear hK9 K9;try simp only  [Act.put,List.setIfInBounds_toArray,List.set_cons_zero,List.set_cons_succ]
 refine wpAnyH_ready  (rs:=[8]) (by kernel_rfl) (by simp) (AllReadyH.cons  (by rw[List.getElem?_toArray];exact rfl) (fun K9 hK9=>?_) AllReadyH.nil);go_simp;refine(H3.out _ J2.out).mono ?_;rintro e3 w3 ⟨v3,lx3,rfl,hm3,hf3,kk⟩;have J3:=lH (J2.out.trans kk);have K3:=lH kk;have M3:=lH hm3;have F3:=lH hf3;obtain⟨⟨a3,n3,c3,rfl⟩,-⟩:=hf3;clear kk hm3;refine hK9.out _ _ (HS.out _ J3.out) (fun hHeld3=>?_);clear hK9 K9;try simp only  [Act.put,List.setIfInBounds_toArray,List.set_cons_zero,List.set_cons_succ]
 refine wpAnyH_take  (i:=9) (v:=?_) (by rw[List.getElem?_toArray];exact rfl) (by kernel_rfl) (by kernel_rfl) (by kernel_rfl) (by exact fun _ _ _ h=>h) (Or.inl ⟨by rfl,(by rintro W ⟨o0,o1,o2⟩;go_simp<;>with_reducible rfl)⟩) (by assumption) ?_;try simp only  [Act.put,List.setIfInBounds_toArray,List.set_cons_zero,List.set_cons_succ]
 have z0:=(HQ.out _ J3.out).at_ 0 _ rfl;have z1:=(HQ.out _ J3.out).at_ 1 _ rfl;have z2:=(HQ.out _ J3.out).at_ 2 _ rfl;have f0:=(HQ.out _ J3.out).free 0;have f1:=(HQ.out _ J3.out).free 1;have f2:=(HQ.out _ J3.out).free 2;refine wpAnyH_ready  (rs:=[10]) (by kernel_rfl) (by simp) (AllReadyH.cons  (by rw[List.getElem?_toArray];exact rfl) (fun K9 hK9=>?_) AllReadyH.nil);go_simp;have P:=lH (JP (vs:=[.slice a1 n1 c1,.slice a2 n2 c2,.slice a3 n3 c3]) (HQ.out _ J3.out) rfl);refine hK9.out _ _ (by obtain⟨PC,hsz,hbl,hkp⟩:=P.out;obtain⟨o0,o1,o2⟩:=HS.out _ J3.out;exact⟨(World.cell?_of_block (a:=⟨w.heap.size,0,none⟩) (hbl w.heap.size (by omega))).trans o0,(World.cell?_of_block (a:=⟨w.heap.size,1,none⟩) (hbl w.heap.size (by omega))).trans o1,(World.cell?_of_block (a:=⟨w.heap.size,2,none⟩) (hbl w.heap.size (by omega))).trans o2⟩) (fun hHeld9=>?_);clear hK9 K9 hHeld9 z0 f0 z1 f1 z2 f2;try simp only  [Act.put,List.setIfInBounds_toArray,List.set_cons_zero,List.set_cons_succ]
 refine wpAnyH_done (by kernel_rfl) ?_ _;go_wp2;obtain⟨WE,hWE⟩:∃W,w3.setCells (w.heap.size+1) 0 [.slice a1 n1 c1,.slice a2 n2 c2,.slice a3 n3 c3]=W:=⟨_,rfl⟩
 have hWE2:(((w3.setCell ⟨(w.heap.size+1),0,none⟩ (.slice a1 n1 c1)).setCell ⟨(w.heap.size+1),1,none⟩ (.slice a2 n2 c2)).setCell ⟨(w.heap.size+1),2,none⟩ (.slice a3 n3 c3))=WE:=hWE;rw[hWE] at P;try rw[hWE2]
 have GE:=lH (show jg (fun b=>b=w.heap.size+1) w3 WE by rw[←hWE];exact jg.cells (S:=fun b=>b=w.heap.size+1) _ rfl _ _ _);clear hWE hWE2;obtain⟨PC,hsz,hbl,hkp⟩:=P.out;have HO:=lH (jaR (z:=Z.drew) (q:=w.heap.size+1) (B:=w.heap.size) (by show w.heap.size+1<Z.heap.size;have:=HZS.out;omega) (by show w.heap.size≤Z.heap.size;have:=HZS.out;omega) F1.out K1.out F2.out K2.out F3.out K3.out GE.out);rw[M1.out,M2.out,M3.out] at HO;refine bodyPost_ret (by simp[results,Tryz.results33,go_sem,PC.at_ 0 _ rfl,PC.at_ 1 _ rfl,PC.at_ 2 _ rfl];try rfl) rfl ?_;exact⟨a1,n1,c1,a2,n2,c2,a3,n3,c3,rfl,HO.out.less (HKZ.out.trans J1.out).size (fun k e=>e),hkp _ _ (by omega) (HKZ.out.trans J3.out)⟩
def idxB (f:Pd→Bool):List Pd→Option Nat
 | []=>none
 | p::t=>if f p=true then some 0 else (idxB f t).map (·+1)
def jd4:Option Nat→Int
 | none=>-1
 | some k=>(k:Int)
theorem jdu {f:Pd→Bool} {l:List Pd} {p:Pd} {k:Nat} (hd:l.drop k=p::l.drop (k+1)) (h:f p=true) (hr:(idxB f (l.drop k)).map (·+k)=idxB f l):idxB f l=some k:=by
 rw[←hr,hd,idxB,if_pos h];simp
theorem jdb {f:Pd→Bool} {l:List Pd} {p:Pd} {k:Nat} (hd:l.drop k=p::l.drop (k+1)) (h:f p=false) (hr:(idxB f (l.drop k)).map (·+k)=idxB f l):(idxB f (l.drop (k+1))).map (·+(k+1))=idxB f l:=by
 rw[←hr,hd,idxB,if_neg (by rw[h];decide),Option.map_map];congr 1
 funext x
 show x+(k+1)=x+1+k;omega
theorem jbT {f:Pd→Bool}:∀{l:List Pd} {k:Nat},idxB f l=some k→k<l.length
 | [],k,h=>by cases h
 | p::t,k,h=>by
  rw[idxB] at h;split at h
  · obtain rfl:=Option.some.inj h;simp
  · cases e:idxB f t with
    | none=>rw[e] at h;cases h
    | some j=>rw[e] at h;obtain rfl:=Option.some.inj h;have:=jbT e;simp;omega
theorem Yq {x:ByteArray}:∀{l:List Pd},(match idxB (fun p=>eqS p.name x) l with | none=>l | some k=>l.take k++l.drop (k+1))=zV x l
 | []=>rfl
 | p::t=>by
  rw[idxB,zV];by_cases h:eqS p.name x=true
  · rw[if_pos h,if_pos h];simp
  · rw[if_neg h,if_neg h,←Yq (l:=t)]
    cases e:idxB (fun p=>eqS p.name x) t with
    | none=>rfl
    | some j=>simp
theorem jcu (n:Pd) (a1 a2 a3 a4:Option Addr) (m1 c1 m2 c2 m3 c3 m4 c4 q:Nat) (x:ByteArray) (w:World) (hq:w.cell? ⟨q,0,none⟩=some (.string x)) :
 Calls Tryz.prog 83 #[.agg #[.string n.name,.string n.owner,.int .i64 n.prio,.slice a1 m1 c1,.slice a2 m2 c2,.slice a3 m3 c3,.slice a4 m4 c4,.string n.key,.int .i64 n.most,.string n.node,.bool n.hold],.pointer (some ⟨q,0,none⟩)] w fun e w'=>e=.returned (.bool (eqS n.name x))∧Kept w w':=by
 have hq2:=cell_later (ja w (.cells #[.string n.name,.string n.owner,.int .i64 n.prio,.slice a1 m1 c1,.slice a2 m2 c2,.slice a3 m3 c3,.slice a4 m4 c4,.string n.key,.int .i64 n.most,.string n.node,.bool n.hold] 39)) hq;obtain⟨t,ht⟩:∃t,eqS n.name x=t:=⟨_,rfl⟩
 have ht':(n.name.toList==x.toList)=t:=ht;rw[ht];go_enter Tryz.func83,Tryz.ntmps83;go_wp2;go_ret;exact⟨by first | rfl | (rw[←ht];rfl),ja _ _⟩
theorem jcZ (a:Option Addr) (len cap q:Nat) (l:List Pd) (x:ByteArray) (w:World) (hr:jz w a len l) (hq:w.cell? ⟨q,0,none⟩=some (.string x)) :
 Calls Tryz.prog 82 #[.slice a len cap,.func (.func 83) #[] #[.pointer (some ⟨q,0,none⟩)]] w (Say (.int .i64 (jd4 (idxB (fun p=>eqS p.name x) l))) w):=by
 have hl:=hr.1;have hm:=hr.2.1;unfold maxLen at hm;have HL:=lH hl;have HR:=lH hr;have HQ:=lH hq;clear hr hl hq;go_enter Tryz.func82,Tryz.ntmps82;go_wp2;go_loopw [8] (fun i wr=>∃k:Nat,k≤len∧i=.int .i64 k∧(idxB (fun p=>eqS p.name x) (l.drop k)).map (·+k)=idxB (fun p=>eqS p.name x) l∧Kept w wr) (fun i _=>len-(intOf i).toNat)
 case atStart=>exact⟨0,Nat.zero_le _,rfl,by simp,Kept.refl _⟩
 case round =>
  obtain⟨k,hk,rfl,hrest,hK⟩:=hrel;have HS:=lH hrest;have HK:=lH hK;by_cases hlt:k<len
  · obtain⟨b,off,rfl⟩:=HR.out.form.resolve_left (by omega);obtain⟨n,a1,m1,c1,a2,m2,c2,a3,m3,c3,a4,m4,c4,hn,hd,hb,p0,p1,p2,p3,p4,p5,p6,p7,p8,p9,p10,hat⟩:=(HR.out.kept hK).at_ hlt;have HD:=lH hd;have HC:=lH (jcu n a1 a2 a3 a4 m1 c1 m2 c2 m3 c3 m4 c4 q x wr (cell_later hK HQ.out));obtain⟨t,ht⟩:∃t,(eqS n.name x)=t:=⟨_,rfl⟩
    have HT:=lH ht;rw[ht] at HC;clear hrest hK hat hd hn ht
    cases t with
    | true =>
     have HF:=lH (jdu (f:=fun p=>eqS p.name x) HD.out HT.out HS.out);go_wp2_with fail
     refine HC.out.mono ?_;rintro e w1 ⟨rfl,k1⟩;have K1:=lH (HK.out.trans k1);clear k1;go_wp2;go_ret;exact⟨by rw[HF.out];rfl,K1.out⟩
    | false =>
     have HE:=lH (jdb (f:=fun p=>eqS p.name x) HD.out HT.out HS.out);go_wp2_with fail
     refine HC.out.mono ?_;rintro e w1 ⟨rfl,k1⟩;have K1:=lH (HK.out.trans k1);clear k1;go_wp2;go_roundw
     case rel=>exact⟨k+1,by omega,by go_num,HE.out,K1.out⟩
     case measure=>simp[intOf];omega
  · have HF:=lH (show idxB (fun p=>eqS p.name x) l=none by rw[←hrest,List.drop_of_length_le (by rw[HL.out];omega)];rfl);clear hrest hK;go_wp2;go_ret;exact⟨by rw[HF.out];rfl,HK.out⟩
theorem qJ (a:Option Addr) (len cap:Nat) (l:List Pd) (x:ByteArray) (w:World) (hr:jz w a len l) :
 Calls Tryz.prog 34 #[.slice a len cap,.string x] w (Say (.int .i64 (jd4 (idxB (fun p=>eqS p.name x) l))) w):=by
 have hmf:=hmfL (P:=Tryz.prog);have H:=lH (jcZ a len cap w.heap.size l x (w.alloc (.cells #[.string x] 9)) (hr.kept (ja _ _)) ((je w (.string x) [] 9 _ (Kept.refl _)).at_ 0 _ rfl));clear hr;go_enter Tryz.func34,Tryz.ntmps34;go_wp2_with fail
 refine H.out.mono ?_;rintro e w1 ⟨rfl,k⟩;have K:=lH ((ja _ _).trans k);clear k;go_wp2;go_ret;exact⟨rfl,K.out⟩
theorem jbX {w:World} {B:Nat} {e:TypeId} {s:Nat} {v:Value} {n:Nat} {xs:List Value} (h:w.ownsRow B e s v n xs):w.drew.ownsRow B e s v n xs:=h
theorem jdR:(Tryz.prog.info? 39).map (fun i=>(i.zero,i.size,i.bytes))=some (some (.agg #[.string ByteArray.empty,.string ByteArray.empty,.int .i64 0,.slice none 0 0,.slice none 0 0,.slice none 0 0,.slice none 0 0,.string ByteArray.empty,.int .i64 0,.string ByteArray.empty,.bool false]),11,184):=by kernel_rfl
def Jc:Array Value:=#[.string ByteArray.empty,.string ByteArray.empty,.int .i64 0,.slice none 0 0,.slice none 0 0,.slice none 0 0,.slice none 0 0,.string ByteArray.empty,.int .i64 0,.string ByteArray.empty,.bool false]
theorem qs:(Value.agg Jc).cells=Jc:=rfl
theorem YU (n:Nat):(Builtin.zeroCells Jc n).size=n*11:=by
 unfold Builtin.zeroCells;rw[Array.size_map,Array.size_range];rfl
theorem jck (n:Nat):∀v ∈ (Builtin.zeroCells Jc n).toList,v.oneCell'=true:=by
 intro v hv;unfold Builtin.zeroCells at hv;rw[Array.toList_map,List.mem_map] at hv;obtain⟨k,_,rfl⟩:=hv;have hs:Jc.size=11:=rfl;rw[hs];have hk:k % 11<11:=Nat.mod_lt _ (by decide);generalize k % 11=m at hk
 match m,hk with
 | 0,_=>rfl
 | 1,_=>rfl
 | 2,_=>rfl
 | 3,_=>rfl
 | 4,_=>rfl
 | 5,_=>rfl
 | 6,_=>rfl
 | 7,_=>rfl
 | 8,_=>rfl
 | 9,_=>rfl
 | 10,_=>rfl
 | m+11,h=>omega
theorem qF (g i j len cap B:Nat) (xs:List Value) (w:World) (hown:w.ownsRow B 39 11 (.slice (some ⟨g,0,none⟩) len cap) len xs) (h1c:∀v ∈ xs,v.oneCell'=true) (hij:i<j) (hj:j≤len) :
 Calls Tryz.prog 35 #[.slice (some ⟨g,0,none⟩) len cap,.int .i64 i,.int .i64 j] w fun e w'=>e=.returned (.slice (some ⟨g,0,none⟩) (i+(len-j)) cap)∧w'.ownsRow B 39 11 (.slice (some ⟨g,0,none⟩) (i+(len-j)) cap) (i+(len-j)) (xs.take (i*11)++xs.drop (j*11))∧jg (fun b=>b=g) w w':=by
 obtain⟨cur,hB,hg,hn,hm,hs,ht,hl⟩:=Jz hown;obtain⟨i0,hi0,hz0,hz1,hz2⟩:=info_parts jdR;have hcell:∀t,t<len*11→w.cell? ⟨g,t,none⟩=xs[t]?:=fun t h=>hown.cellAt t h;have hfr:∀t,w.frozen? ⟨g,t,none⟩=false:=fun t=>hown.frozenAt t;obtain⟨news,hnews⟩:∃news,news=xs.drop (j*11):=⟨_,rfl⟩
 have hlen:news.length=(len-j)*11:=by rw[hnews,List.length_drop,hl,Nat.sub_mul]
 have hget:∀t u,news[t]?=some u→w.cell? ⟨g,j*11+t,none⟩=some u:=by
  intro t u hu;have ht:=(List.getElem?_eq_some_iff.1 hu).1;rw[hlen] at ht;rw[hnews,List.getElem?_drop] at hu;rw[hcell _ (by omega)];exact hu
 have hsome:∀t,t<len*11→(w.cell? ⟨g,t,none⟩).isSome=true:=fun t h=>by
  rw[hcell t h,List.getElem?_eq_getElem (by rw[hl];exact h)];rfl
 obtain⟨A,hA,hsrc⟩:∃A:Addr,(if cap=j then (some ⟨g,0,none⟩:Option Addr) else some ⟨g,j*11,none⟩)=some A∧Hid (∀t u,news[t]?=some u→w.drew.cell? (A.add t)=some u):=by
  by_cases h:cap=j
  · refine⟨⟨g,0,none⟩,by simp[h],fun t u hu=>?_⟩;have h0:news.length=0:=by rw[hlen];omega
    rw[List.length_eq_zero_iff.1 h0] at hu;simp at hu
  · refine⟨⟨g,j*11,none⟩,by simp[h],fun t u hu=>?_⟩;rw[Addr.add_lit];exact hget t u hu
 have s2:Hid (∀u ∈ news,u.oneCell'=true):=fun u hu=>h1c u (by rw[hnews] at hu;exact List.mem_of_mem_drop hu);have s3:Hid (∀t,t<news.length→(w.drew.cell? ⟨g,0+i*11+t,none⟩).isSome=true∧w.drew.frozen? ⟨g,0+i*11+t,none⟩=false):=fun t h=>by
  rw[hlen] at h;exact⟨hsome _ (by omega),hfr _⟩
 have s1:Hid (news.length=(len-j)*11):=hlen;obtain⟨W1,hW1⟩:∃W1,W1=w.drew.setCells g (0+i*11) news:=⟨_,rfl⟩
 have hW1c:∀t,t<len*11→(W1.cell? ⟨g,t,none⟩).isSome=true:=fun t h=>by
  rw[hW1];exact isSome_setCells g news (0+i*11) w.drew (fun q hq=>(s3 q hq).1) t (hsome t h)
 have hcl:∀ty,(Builtin.clear_ #[23] ty #[.slice (some ⟨g,(i+(len-j))*11,none⟩) (len-(i+(len-j))) (cap-(i+(len-j)))]).run Tryz.prog W1=.ok (.tuple #[]) (W1.setCells g ((i+(len-j))*11) (Builtin.zeroCells Jc (len-(i+(len-j)))).toList) :=
  fun ty=>Y5 W1 _ 39 ty i0 (.agg Jc) Tryz.underlying23 hi0 hz0 g _ _ _ (by omega) (jck _) (fun t h=>hW1c _ (by rw[qs,YU] at h;omega)) (fun t h=>by rw[hW1,World.frozen?_setCells];exact hfr _)
 have X:=lH (show (W1.setCells g ((i+(len-j))*11) (Builtin.zeroCells Jc (len-(i+(len-j)))).toList).ownsRow B 39 11 (.slice (some ⟨g,0,none⟩) (i+(len-j)) cap) (i+(len-j)) (xs.take (i*11)++xs.drop (j*11)) by
  have h:=jde (w:=w.drew) (zs:=(Builtin.zeroCells Jc (len-(i+(len-j)))).toList) (jbX hown) (Nat.le_of_lt hij) hj (by rw[Array.length_toList,YU,show len-(i+(len-j))=j-i by omega]);rw[hW1,Nat.zero_add,hnews];exact h)
 have GX:=lH (show jg (fun b=>b=g) w (W1.setCells g ((i+(len-j))*11) (Builtin.zeroCells Jc (len-(i+(len-j)))).toList) by
  rw[hW1];exact((jg.drew w).trans (jg.cells (S:=fun b=>b=g) g rfl _ _ _)).trans (jg.cells (S:=fun b=>b=g) g rfl _ _ _))
 have hW:Hid (W1=w.drew.setCells g (0+i*11) news):=hW1;have t23:=Tryz.underlying23;have hic:i≤cap:=by omega
 have hjc:j≤cap:=by omega
 have hil:i<len:=by omega
 have hm':cap≤9223372036854775807:=by unfold maxLen at hm;omega
 clear hown hB hg hs ht hl hcell hfr hnews hlen hget hsome h1c hW1 hW1c hm;go_enter Tryz.func35,Tryz.ntmps35;go_wp2_with fail
 go_region_law (refine step_append_room rfl (.tmp 22) (.tmp 25) 23 rfl 39 i0 11 t23 hi0 hz1 g 0 i cap (by simp[Act.eval,Act.put]) A (len-j) (cap-j) news (by simp[Act.eval,Act.put]) s1.out hsrc.out s2.out (by omega) s3.out ?_;rw[←hW.out])
 go_wp2;go_ret;exact⟨rfl,X.out,GX.out⟩
theorem jaT (a:Option Addr) (len cap:Nat) (l:List Pd) (x:ByteArray) (w:World) (hr:jz w a len l):Calls Tryz.prog 34 #[.slice a len cap,.string x] w fun e w'=>∃i:Int,e=.returned (.int .i64 i)∧((i=-1∧idxB (fun p=>eqS p.name x) l=none)∨∃k:Nat,i=(k:Int)∧idxB (fun p=>eqS p.name x) l=some k)∧Kept w w':=by
 refine(qJ a len cap l x w hr).mono ?_;rintro e w' ⟨rfl,k⟩;refine⟨_,rfl,?_,k⟩
 cases idxB (fun p=>eqS p.name x) l with
 | none=>exact .inl ⟨rfl,rfl⟩
 | some j=>exact .inr ⟨j,rfl,rfl⟩
theorem jbO {x:ByteArray} {l:List Pd} (h:idxB (fun p=>eqS p.name x) l=none):zV x l=l:=by have:=Yq (x:=x) (l:=l);rw[h] at this;exact this.symm
theorem jbz {x:ByteArray} {l:List Pd} {k:Nat} (h:idxB (fun p=>eqS p.name x) l=some k):zV x l=l.take k++l.drop (k+1):=by have:=Yq (x:=x) (l:=l);rw[h] at this;exact this.symm
theorem ZJ {X:Type} (L:Lay X) (l:List X) (k:Nat):jc L (l.take k)=(jc L l).take (k*L.m):=by
 have h:=zK L (l.take k) (l.drop k);rw[List.take_append_drop] at h;by_cases hk:k≤l.length
 · have hlen:(jc L (l.take k)).length=k*L.m:=by rw[jE,List.length_take,Nat.min_eq_left hk]
   have e:=List.take_left' (l₂:=jc L (l.drop k)) hlen;rw[←h] at e;exact e.symm
 · rw[List.take_of_length_le (by omega),List.take_of_length_le (by rw[jE];exact Nat.mul_le_mul_right _ (by omega))]
theorem XI {X:Type} (L:Lay X) (l:List X) (k:Nat):jc L (l.drop k)=(jc L l).drop (k*L.m):=by
 have h:=zK L (l.take k) (l.drop k);rw[List.take_append_drop,ZJ] at h;have h2:=List.take_append_drop (k*L.m) (jc L l);exact(List.append_cancel_left (h2.trans h)).symm
theorem jA.cut {S:Nat→Prop} {B g i j len cap:Nat} {w w':World} {v1 v3:Value} {s:Clu} (h:jA S B w v1 (.slice (some ⟨g,0,none⟩) len cap) v3 s) (hij:i≤j) (hj:j≤len) (hS:∀k,S k→k<w.heap.size)
 (ho:∀xs,w.ownsRow B 39 11 (.slice (some ⟨g,0,none⟩) len cap) len xs→w'.ownsRow B 39 11 (.slice (some ⟨g,0,none⟩) (i+(len-j)) cap) (i+(len-j)) (xs.take (i*11)++xs.drop (j*11))) (gg:jg (fun b=>b=g) w w') :
 jA S B w' v1 (.slice (some ⟨g,0,none⟩) (i+(len-j)) cap) v3 { s with pods:=s.pods.take i++s.pods.drop j }:=by
 obtain⟨lx,e,hown,hd⟩:=h.pods;obtain⟨a',c',e',_⟩:=hown.at_;have hlen:lx.length=len:=by cases e';rfl
 have g':jg (fun b=>(Value.slice (some ⟨g,0,none⟩) len cap).ownBlock=some b) w w':=gg.mono fun b e=>by rw[e];rfl
 refine h.turn g' (fun k hk=>.inl hk) hS ⟨lx.take i++lx.drop j,by rw[List.map_append,List.map_take,List.map_drop,e],⟨?_,fun x hx=>trivial⟩,jA.els (B:=B) (v2':=.slice (some ⟨g,0,none⟩) (i+(len-j)) cap) (fun z hz=>hd z ?_) g' (fun k hk=>.inl hk)⟩
 · have h1:=ho _ (by have:=hown.1;rw[hlen] at this;exact this);have hll:(lx.take i++lx.drop j).length=i+(len-j):=by rw[List.length_append,List.length_take,List.length_drop,hlen];omega
   rw[hll,zK,ZJ,XI];exact h1
 · rcases List.mem_append.1 hz with hz | hz
   · exact List.mem_of_mem_take hz
   · exact List.mem_of_mem_drop hz
theorem ja7 {S:Nat→Prop} {B g i j len cap:Nat} {w:World} {v1 v3:Value} {s:Clu} (h:jA S B w v1 (.slice (some ⟨g,0,none⟩) len cap) v3 s) (hij:i<j) (hj:j≤len) (hS:∀k,S k→k<w.heap.size) :
 Calls Tryz.prog 35 #[.slice (some ⟨g,0,none⟩) len cap,.int .i64 i,.int .i64 j] w fun e w'=>e=.returned (.slice (some ⟨g,0,none⟩) (i+(len-j)) cap)∧jA S B w' v1 (.slice (some ⟨g,0,none⟩) (i+(len-j)) cap) v3 { s with pods:=s.pods.take i++s.pods.drop j }∧jg (fun b=>b=g) w w':=by
 obtain⟨lx,e,hown,hd⟩:=h.pods;obtain⟨a',c',e',_⟩:=hown.at_;have hlen:lx.length=len:=by cases e';rfl
 refine(qF g i j len cap B (jc jy lx) w (by have:=hown.1;rw[hlen] at this;exact this) (j6 _ _) hij hj).mono ?_;rintro e w' ⟨rfl,ho,hg⟩;refine⟨rfl,h.cut (Nat.le_of_lt hij) hj hS (fun xs hx=>?_) hg,hg⟩;have:xs=jc jy lx:=by
  obtain⟨cur,_,h1,_,_,_,h2,_⟩:=Jz hx;obtain⟨cur',_,h1',_,_,_,h2',_⟩:=Jz (show w.ownsRow B 39 11 (.slice (some ⟨g,0,none⟩) len cap) len (jc jy lx) by have:=hown.1;rw[hlen] at this;exact this);rw[h1] at h1'
  cases h1'
  rw[←h2,←h2']
 rw[this];exact ho
theorem jaS (a b d:Option Addr) (len cap m c n e:Nat) (nl:List Nod) (pl:List Pd) (bl:List Bd) (x:ByteArray) (w:World) (hn:jo w a len nl) (hp:jz w b m pl) (hb:j7 w d n bl) (h1:len≤cap) (h2:cap≤maxLen) (h3:m≤c) (h4:c≤maxLen) (h5:n≤e) (h6:e≤maxLen) (hl:ZP ⟨nl,pl,bl⟩) :
 Calls Tryz.prog 9 #[.agg #[.slice a len cap,.slice b m c,.slice d n e],.string x] w fun e w'=>∃a1 n1 c1 a2 n2 c2 a3 n3 c3,e=.returned (.agg #[.slice a1 n1 c1,.slice a2 n2 c2,.slice a3 n3 c3])∧jA (fun b=>b<w.heap.size) w.heap.size w' (.slice a1 n1 c1) (.slice a2 n2 c2) (.slice a3 n3 c3) (zl ⟨nl,pl,bl⟩ x)∧Kept w w':=by
 obtain⟨Z,hZ⟩:∃Z,(w.alloc (.cells #[.slice a len cap,.slice b m c,.slice d n e] 26)).alloc (.cells #[.slice none 0 0,.slice none 0 0,.slice none 0 0] 26)=Z:=⟨_,rfl⟩
 have hkz:Kept w Z:=by rw[←hZ];exact jL _ _ _
 have hzs:Z.heap.size=w.heap.size+2:=by rw[←hZ];simp
 have cc:=je w (.slice a len cap) [.slice b m c,.slice d n e] 26 Z (by have:=ja (w.alloc (.cells #[.slice a len cap,.slice b m c,.slice d n e] 26)) (.cells #[.slice none 0 0,.slice none 0 0,.slice none 0 0] 26);rw[hZ] at this;exact this);have o0:=cc.at_ 0 _ rfl;have o1:=cc.at_ 1 _ rfl;have o2:=cc.at_ 2 _ rfl;have HQ:=lH (show ji (w.heap.size+1) [.slice none 0 0,.slice none 0 0,.slice none 0 0] Z by
  have dd:=je (w.alloc (.cells #[.slice a len cap,.slice b m c,.slice d n e] 26)) (.slice none 0 0) [.slice none 0 0,.slice none 0 0] 26 Z (by rw[hZ];exact Kept.refl _);rw[World.size_alloc] at dd;exact dd)
 have HO:=lH (qE a b d len cap m c n e nl pl bl Z (hn.kept hkz) (hp.kept hkz) (hb.kept hkz) h1 h2 h3 h4 h5 h6 hl);have HKZ:=lH hkz;have HZS:=lH hzs;have HPN:=lH hl.podsN;clear hn hp hb h1 h2 h3 h4 h5 h6 hl hkz hzs cc;go_enter Tryz.func9,Tryz.ntmps9;go_wp2_with fail
 try rw[hZ]
 go_wp2_with fail
 try rw[hZ]
 clear hZ o0 o1 o2;refine HO.out.mono ?_;rintro e1 w1 ⟨a1,n1,c1,a2,n2,c2,a3,n3,c3,rfl,ho,k1⟩;obtain⟨W1,hW1⟩:∃W,w1.alloc (.cells #[.slice a1 n1 c1,.slice a2 n2 c2,.slice a3 n3 c3] 26)=W:=⟨_,rfl⟩
 have hkw:Kept w1 W1:=by rw[←hW1];exact ja _ _
 have HC:=lH (ho.more (q:=w1.heap.size) hkw (Nat.le_refl _));have HW:=lH (show ji w1.heap.size [.slice a1 n1 c1,.slice a2 n2 c2,.slice a3 n3 c3] W1 from je w1 (.slice a1 n1 c1) [.slice a2 n2 c2,.slice a3 n3 c3] 26 W1 (by rw[hW1];exact Kept.refl _));have HQ:=lH (HQ.out.kept (k1.trans hkw));have K:=lH (k1.trans hkw);have HS1:=lH (show Z.heap.size≤w1.heap.size∧w1.heap.size<W1.heap.size from⟨k1.size,by rw[←hW1,World.size_alloc];exact Nat.lt_succ_self _⟩);clear ho k1 hkw;obtain⟨u1,u2,u3,hu,hat⟩:=HC.out.toR
 cases hu
 obtain⟨ap,cp,ep,l1,l2,hpat⟩:=hat.pods
 cases ep
 have HPA:=lH hpat;have HL12:=lH (And.intro l1 l2);clear hat hpat l1 l2;have y0:=HW.out.at_ 0 _ rfl;have y1:=HW.out.at_ 1 _ rfl;have y2:=HW.out.at_ 2 _ rfl;go_wp2_with fail
 try rw[hW1]
 go_wp2_with fail
 try rw[hW1]
 clear hW1 y0 y1 y2;refine(jaT a2 _ c2 pl x _ HPA.out).mono ?_;rintro e2 w2 ⟨i9,rfl,hidx,k2⟩;have K2:=lH (K.out.trans k2);have HC2:=lH (HC.out.kept k2);have HW2:=lH (HW.out.kept k2);have HQ2:=lH (HQ.out.kept k2);have HS2:=lH (show w1.heap.size<w2.heap.size from Nat.lt_of_lt_of_le HS1.out.2 k2.size);clear k2;rcases hidx with ⟨rfl,hi⟩ | ⟨k,rfl,hi⟩
 · skip;have HDE:=lH (show zl ⟨nl,pl,bl⟩ x=⟨nl,pl,bl⟩ by unfold zl;dsimp only;rw[jbO hi]);clear hi;have y0:=HW2.out.at_ 0 _ rfl;have y1:=HW2.out.at_ 1 _ rfl;have y2:=HW2.out.at_ 2 _ rfl;have z0:=HQ2.out.at_ 0 _ rfl;have z1:=HQ2.out.at_ 1 _ rfl;have z2:=HQ2.out.at_ 2 _ rfl;have f0:=HQ2.out.free 0;have f1:=HQ2.out.free 1;have f2:=HQ2.out.free 2;have P:=lH (JP (vs:=[.slice a1 n1 c1,.slice a2 pl.length c2,.slice a3 n3 c3]) HQ2.out rfl);go_wp2;obtain⟨WE,hWE⟩:∃W,w2.setCells (w.heap.size+1) 0 [.slice a1 n1 c1,.slice a2 pl.length c2,.slice a3 n3 c3]=W:=⟨_,rfl⟩
   have hWE2:(((w2.setCell ⟨(w.heap.size+1),0,none⟩ (.slice a1 n1 c1)).setCell ⟨(w.heap.size+1),1,none⟩ (.slice a2 pl.length c2)).setCell ⟨(w.heap.size+1),2,none⟩ (.slice a3 n3 c3))=WE:=hWE;rw[hWE] at P;try rw[hWE2]
   have GE:=lH (show jg (fun b=>b<Z.heap.size∨b=w1.heap.size) w2 WE by rw[←hWE];exact jg.cells (S:=fun b=>b<Z.heap.size∨b=w1.heap.size) _ (.inl (by have:=HZS.out;omega)) _ _ _);clear hWE hWE2;obtain⟨PC,hsz,hbl,hkp⟩:=P.out;refine bodyPost_ret (by simp[results,Tryz.results9,go_sem,PC.at_ 0 _ rfl,PC.at_ 1 _ rfl,PC.at_ 2 _ rfl];try rfl) rfl ?_;have HFIN:=((HC2.out).step GE.out).less (B':=w.heap.size) (S':=fun b=>b<w.heap.size) HKZ.out.size (fun b hb=>.inl (Nat.lt_of_lt_of_le hb HKZ.out.size));exact⟨_,_,_,_,_,_,_,_,_,rfl,by rw[HDE.out];exact HFIN,hkp _ _ (by omega) (HKZ.out.trans K2.out)⟩
 · skip;have hkl:=jbT hi;have HDE:=lH (show zl ⟨nl,pl,bl⟩ x=⟨nl,pl.take k++pl.drop (k+1),bl⟩ by unfold zl;dsimp only;rw[jbz hi]);have HKL:=lH hkl;clear hi;obtain⟨g,rfl⟩:∃g,a2=some ⟨g,0,none⟩:=by
    obtain⟨lx,e,ho,-⟩:=HC2.out.pods;rcases ho.1.2 with ⟨h0,h1⟩ | ⟨g,c9,cur,h0,-⟩
    · injection h0 with e1 e2 e3;omega
    · injection h0 with e1 e2 e3;exact⟨g,e1⟩
   have HGQ:=lH (show g≠w1.heap.size∧Z.heap.size≤g from by
    have h1:=HC2.out.sep g rfl;have h2:=(HC2.out.lt g rfl).1;exact⟨fun e=>h1 (.inr e),h2⟩)
   obtain⟨k1,hk1⟩:∃q:Nat,(k:Int)+1=(q:Int):=⟨k+1,by omega⟩
   have HK1:=lH (show k1=k+1 by omega);have HPN2:pl.length≤100000:=HPN.out;have hw9:IntKind.i64.wrap ((k1:Nat):Int)=(k1:Int):=by have:=HKL.out;have:=HK1.out;rw[IntKind.wrap_i64];omega
   have HDE:=lH (show zl ⟨nl,pl,bl⟩ x=⟨nl,pl.take k++pl.drop k1,bl⟩ by rw[HDE.out,HK1.out]);have HDC:=lH (ja7 (i:=k) (j:=k1) HC2.out (by have:=HK1.out;omega) (by have:=HK1.out;have:=HKL.out;omega) (fun b hb=>by have:=HS2.out;have:=HS1.out.1;rcases hb with hb | hb<;>omega));obtain⟨len9,hlen9⟩:∃q,pl.length=q:=⟨_,rfl⟩
   rw[hlen9] at HDC HW2 ⊢;have HL9:=lH hlen9;clear hkl HPN2 hlen9;have y1:=HW2.out.at_ 1 _ rfl;go_wp2_with fail
   clear y1;refine HDC.out.mono ?_;rintro e3 w3 ⟨rfl,hc3,hg3⟩;have HC3:=lH hc3;have HW3:=lH (HW2.out.block (hg3.block _ HS2.out (fun e=>HGQ.out.1 e.symm)));have HQ3:=lH (HQ2.out.block (hg3.block _ (by have:=HZS.out;have:=HS1.out.1;have:=HS2.out;omega) (fun e=>by have:=HGQ.out.2;have:=HZS.out;omega)));have K3:=lH (show Kept w w3 from Below.trans (HKZ.out.trans K2.out) (hg3.at_below (B:=w.heap.size) (fun q e=>by have:=HGQ.out.2;have:=HZS.out;omega) (HKZ.out.trans K2.out).size));clear hc3 hg3;have y1:=HW3.out.at_ 1 _ rfl;have x1:=HW3.out.free 1;have HW4:=lH (show ji w1.heap.size [.slice a1 n1 c1,.slice (some ⟨g,0,none⟩) (k+(len9-k1)) c2,.slice a3 n3 c3] (w3.setCell ⟨w1.heap.size,1,none⟩ (.slice (some ⟨g,0,none⟩) (k+(len9-k1)) c2)) from HW3.out.set (j:=1) (by simp));have HQ4:=lH (HQ3.out.other (p:=w1.heap.size) (j:=1) (u:=.slice (some ⟨g,0,none⟩) (k+(len9-k1)) c2) (by have:=HZS.out;have:=HS1.out.1;omega));have HC4:=lH (HC3.out.step (jg.cell (S:=fun b=>b<Z.heap.size∨b=w1.heap.size) w1.heap.size 1 (.slice (some ⟨g,0,none⟩) (k+(len9-k1)) c2) (.inr rfl)));have K4:=lH (show Kept w (w3.setCell ⟨w1.heap.size,1,none⟩ (.slice (some ⟨g,0,none⟩) (k+(len9-k1)) c2)) from K3.out.setCell (p:=⟨w1.heap.size,1,none⟩) (by have:=HZS.out;have:=HS1.out.1;show w.heap.size≤w1.heap.size;omega) _);have y0:=HW4.out.at_ 0 _ rfl;have y1:=HW4.out.at_ 1 _ rfl;have y2:=HW4.out.at_ 2 _ rfl;have z0:=HQ4.out.at_ 0 _ rfl;have z1:=HQ4.out.at_ 1 _ rfl;have z2:=HQ4.out.at_ 2 _ rfl;have f0:=HQ4.out.free 0;have f1:=HQ4.out.free 1;have f2:=HQ4.out.free 2;have P:=lH (JP (vs:=[.slice a1 n1 c1,.slice (some ⟨g,0,none⟩) (k+(len9-k1)) c2,.slice a3 n3 c3]) HQ4.out rfl);go_wp2;obtain⟨WE,hWE⟩:∃W,(w3.setCell ⟨w1.heap.size,1,none⟩ (.slice (some ⟨g,0,none⟩) (k+(len9-k1)) c2)).setCells (w.heap.size+1) 0 [.slice a1 n1 c1,.slice (some ⟨g,0,none⟩) (k+(len9-k1)) c2,.slice a3 n3 c3]=W:=⟨_,rfl⟩
   have hWE2:((((w3.setCell ⟨w1.heap.size,1,none⟩ (.slice (some ⟨g,0,none⟩) (k+(len9-k1)) c2)).setCell ⟨(w.heap.size+1),0,none⟩ (.slice a1 n1 c1)).setCell ⟨(w.heap.size+1),1,none⟩ (.slice (some ⟨g,0,none⟩) (k+(len9-k1)) c2)).setCell ⟨(w.heap.size+1),2,none⟩ (.slice a3 n3 c3))=WE:=hWE;rw[hWE] at P;try rw[hWE2]
   have GE:=lH (show jg (fun b=>b<Z.heap.size∨b=w1.heap.size) (w3.setCell ⟨w1.heap.size,1,none⟩ (.slice (some ⟨g,0,none⟩) (k+(len9-k1)) c2)) WE by rw[←hWE];exact jg.cells (S:=fun b=>b<Z.heap.size∨b=w1.heap.size) _ (.inl (by have:=HZS.out;omega)) _ _ _);clear hWE hWE2;obtain⟨PC,hsz,hbl,hkp⟩:=P.out;refine bodyPost_ret (by simp[results,Tryz.results9,go_sem,PC.at_ 0 _ rfl,PC.at_ 1 _ rfl,PC.at_ 2 _ rfl];try rfl) rfl ?_;have HFIN:=((HC4.out).step GE.out).less (B':=w.heap.size) (S':=fun b=>b<w.heap.size) HKZ.out.size (fun b hb=>.inl (Nat.lt_of_lt_of_le hb HKZ.out.size));exact⟨_,_,_,_,_,_,_,_,_,rfl,by rw[HDE.out];exact HFIN,hkp _ _ (by omega) K4.out⟩
def jbm (x:ByteArray) (c:Int):Nod:=⟨x,[(⟨#[99,112,117]⟩,c)],[],[],false⟩
def jc7 (x:ByteArray) (c:Int) (y:ByteArray):Pd:=⟨x,⟨#[]⟩,0,[(⟨#[99,112,117]⟩,c)],[],[],[],⟨#[]⟩,0,y,false⟩
theorem YO (w:World) (c:Int) (h:-9223372036854775808≤c∧c≤9223372036854775807) (W:World) (k:Kept (w.alloc (.cells #[.string ⟨#[99,112,117]⟩,.int .i64 c] 121)) W):Vec.Reads W (.slice (some ⟨w.heap.size,0,none⟩) 1 1) [(⟨#[99,112,117]⟩,c)]:=by
 have cc:=je w (.string ⟨#[99,112,117]⟩) [.int .i64 c] 121 W k;refine⟨_,1,rfl,(by decide:(1:Nat)≤1),(by decide:(1:Nat)≤maxLen),rfl,(by decide:(1:Nat)≤maxLen),fun i hi=>?_,.inr ⟨w.heap.size,0,rfl,cc.lt,fun i hi=>?_⟩⟩
 · obtain rfl:i=0:=by simpa using hi
   exact⟨(by decide:(3:Nat)≤maxLen),h.1,h.2⟩
 · obtain rfl:i=0:=by simpa using hi
   exact⟨cc.at_ 0 _ rfl,cc.at_ 1 _ rfl⟩
theorem qk (x:ByteArray) (c:Int) (hc:-9223372036854775808≤c∧c≤9223372036854775807) (hx:x.size≤maxLen) (w:World) :
 Calls Tryz.prog 22 #[.string x,.int .i64 c] w fun e w'=>∃b1 n1 d1,e=.returned (.agg #[.string x,.slice b1 n1 d1,.slice none 0 0,.slice none 0 0,.bool false])∧j2 w' (.slice b1 n1 d1) (.slice none 0 0) (.slice none 0 0) (jbm x c)∧Kept w w'∧∀b o z,b1=some ⟨b,o,z⟩→w.heap.size<b:=by
 have cc:=je w (.string ⟨#[]⟩) [.slice none 0 0,.slice none 0 0,.slice none 0 0,.bool false] 68 _ (Kept.refl _);obtain⟨W0,hW0⟩:∃W,w.alloc (.cells #[.string ⟨#[]⟩,.slice none 0 0,.slice none 0 0,.slice none 0 0,.bool false] 68)=W:=⟨_,rfl⟩
 have hs:W0.heap.size=w.heap.size+1:=by rw[←hW0];simp
 rw[hW0] at cc;obtain⟨W1,hW1⟩:∃W,W0.alloc (.cells #[.string ⟨#[99,112,117]⟩,.int .i64 c] 121)=W:=⟨_,rfl⟩
 have HR:=lH (YO W0 c hc W1 (by rw[hW1];exact Kept.refl _));rw[hs] at HR;have c1:=cc.kept (W':=W1) (by rw[←hW1];exact ja _ _);have KW:=lH (show Kept w W1 by rw[←hW1,←hW0];exact jL _ _ _);have y0:=c1.at_ 0 _ rfl;have y1:=c1.at_ 1 _ rfl;have y2:=c1.at_ 2 _ rfl;have y3:=c1.at_ 3 _ rfl;have y4:=c1.at_ 4 _ rfl;have f0:=c1.free 0;have f1:=c1.free 1;have f2:=c1.free 2;have f3:=c1.free 3;have f4:=c1.free 4;have P:=lH (JP (vs:=[.string x,.slice (some ⟨w.heap.size+1,0,none⟩) 1 1,.slice none 0 0,.slice none 0 0,.bool false]) c1 rfl);clear c1 cc;go_enter Tryz.func22,Tryz.ntmps22;go_wp2;try rw[hW0]
 try rw[hW1]
 obtain⟨WE,hWE⟩:∃W,W1.setCells w.heap.size 0 [.string x,.slice (some ⟨w.heap.size+1,0,none⟩) 1 1,.slice none 0 0,.slice none 0 0,.bool false]=W:=⟨_,rfl⟩
 have hWE2:(((((W1.setCell ⟨w.heap.size,0,none⟩ (.string x)).setCell ⟨w.heap.size,1,none⟩ (.slice (some ⟨w.heap.size+1,0,none⟩) 1 1)).setCell ⟨w.heap.size,2,none⟩ (.slice none 0 0)).setCell ⟨w.heap.size,3,none⟩ (.slice none 0 0)).setCell ⟨w.heap.size,4,none⟩ (.bool false))=WE:=hWE;rw[hWE] at P;try rw[hWE2]
 clear hWE hWE2;obtain⟨PC,hsz,hbl,hkp⟩:=P.out;refine bodyPost_ret (by simp[results,Tryz.results22,go_sem,PC.at_ 0 _ rfl,PC.at_ 1 _ rfl,PC.at_ 2 _ rfl,PC.at_ 3 _ rfl,PC.at_ 4 _ rfl];try rfl) rfl ?_;exact⟨_,_,_,rfl,⟨hx,(HR.out.far hsz (fun b o s e=>hbl b (by cases e;omega))),Reads.nil _,Reads.nil _⟩,hkp _ _ (Nat.le_refl _) KW.out,fun b o z e=>by cases e;omega⟩
theorem jcR (x:ByteArray) (c:Int) (hc:-9223372036854775808≤c∧c≤9223372036854775807) (hx:x.size≤maxLen) (w:World) :
 Calls Tryz.prog 22 #[.string x,.int .i64 c] w fun e w'=>∃b1 n1 d1,e=.returned (.agg #[.string x,.slice b1 n1 d1,.slice none 0 0,.slice none 0 0,.bool false])∧j2 w' (.slice b1 n1 d1) (.slice none 0 0) (.slice none 0 0) (jbm x c)∧Kept w w' :=
 (qk x c hc hx w).mono fun e w' ⟨b,n,d,h1,h2,h3,_⟩=>⟨b,n,d,h1,h2,h3⟩
theorem X4 (x:ByteArray) (c:Int) (y:ByteArray) (hc:-9223372036854775808≤c∧c≤9223372036854775807) (hx:x.size≤maxLen) (hy:y.size≤maxLen) (w:World) :
 Calls Tryz.prog 24 #[.string x,.int .i64 c,.string y] w fun e w'=>∃b1 n1 d1,e=.returned (.agg #[.string x,.string ⟨#[]⟩,.int .i64 0,.slice b1 n1 d1,.slice none 0 0,.slice none 0 0,.slice none 0 0,.string ⟨#[]⟩,.int .i64 0,.string y,.bool false])∧jx w' (.slice b1 n1 d1) (.slice none 0 0) (.slice none 0 0) (.slice none 0 0) (jc7 x c y)∧Kept w w'∧∀b o z,b1=some ⟨b,o,z⟩→w.heap.size<b:=by
 have cc:=je w (.string ⟨#[]⟩) [.string ⟨#[]⟩,.int .i64 0,.slice none 0 0,.slice none 0 0,.slice none 0 0,.slice none 0 0,.string ⟨#[]⟩,.int .i64 0,.string ⟨#[]⟩,.bool false] 39 _ (Kept.refl _);obtain⟨W0,hW0⟩:∃W,w.alloc (.cells #[.string ⟨#[]⟩,.string ⟨#[]⟩,.int .i64 0,.slice none 0 0,.slice none 0 0,.slice none 0 0,.slice none 0 0,.string ⟨#[]⟩,.int .i64 0,.string ⟨#[]⟩,.bool false] 39)=W:=⟨_,rfl⟩
 have hs:W0.heap.size=w.heap.size+1:=by rw[←hW0];simp
 rw[hW0] at cc;obtain⟨W1,hW1⟩:∃W,W0.alloc (.cells #[.string ⟨#[99,112,117]⟩,.int .i64 c] 121)=W:=⟨_,rfl⟩
 have HR:=lH (YO W0 c hc W1 (by rw[hW1];exact Kept.refl _));rw[hs] at HR;have c1:=cc.kept (W':=W1) (by rw[←hW1];exact ja _ _);have KW:=lH (show Kept w W1 by rw[←hW1,←hW0];exact jL _ _ _);have y0:=c1.at_ 0 _ rfl;have y1:=c1.at_ 1 _ rfl;have y2:=c1.at_ 2 _ rfl;have y3:=c1.at_ 3 _ rfl;have y4:=c1.at_ 4 _ rfl;have y5:=c1.at_ 5 _ rfl;have y6:=c1.at_ 6 _ rfl;have y7:=c1.at_ 7 _ rfl;have y8:=c1.at_ 8 _ rfl;have y9:=c1.at_ 9 _ rfl;have y10:=c1.at_ 10 _ rfl;have f0:=c1.free 0;have f1:=c1.free 1;have f2:=c1.free 2;have f3:=c1.free 3;have f4:=c1.free 4;have f5:=c1.free 5;have f6:=c1.free 6;have f7:=c1.free 7;have f8:=c1.free 8;have f9:=c1.free 9;have f10:=c1.free 10;have P:=lH (JP (vs:=[.string x,.string ⟨#[]⟩,.int .i64 0,.slice (some ⟨w.heap.size+1,0,none⟩) 1 1,.slice none 0 0,.slice none 0 0,.slice none 0 0,.string ⟨#[]⟩,.int .i64 0,.string y,.bool false]) c1 rfl);clear c1 cc;go_enter Tryz.func24,Tryz.ntmps24;go_wp2;try rw[hW0]
 try rw[hW1]
 obtain⟨WE,hWE⟩:∃W,W1.setCells w.heap.size 0 [.string x,.string ⟨#[]⟩,.int .i64 0,.slice (some ⟨w.heap.size+1,0,none⟩) 1 1,.slice none 0 0,.slice none 0 0,.slice none 0 0,.string ⟨#[]⟩,.int .i64 0,.string y,.bool false]=W:=⟨_,rfl⟩
 have hWE2:(((((((((((W1.setCell ⟨w.heap.size,0,none⟩ (.string x)).setCell ⟨w.heap.size,1,none⟩ (.string ⟨#[]⟩)).setCell ⟨w.heap.size,2,none⟩ (.int .i64 0)).setCell ⟨w.heap.size,3,none⟩ (.slice (some ⟨w.heap.size+1,0,none⟩) 1 1)).setCell ⟨w.heap.size,4,none⟩ (.slice none 0 0)).setCell ⟨w.heap.size,5,none⟩ (.slice none 0 0)).setCell ⟨w.heap.size,6,none⟩ (.slice none 0 0)).setCell ⟨w.heap.size,7,none⟩ (.string ⟨#[]⟩)).setCell ⟨w.heap.size,8,none⟩ (.int .i64 0)).setCell ⟨w.heap.size,9,none⟩ (.string y)).setCell ⟨w.heap.size,10,none⟩ (.bool false))=WE:=hWE;rw[hWE] at P;try rw[hWE2]
 clear hWE hWE2;obtain⟨PC,hsz,hbl,hkp⟩:=P.out;refine bodyPost_ret (by simp[results,Tryz.results24,go_sem,PC.at_ 0 _ rfl,PC.at_ 1 _ rfl,PC.at_ 2 _ rfl,PC.at_ 3 _ rfl,PC.at_ 4 _ rfl,PC.at_ 5 _ rfl,PC.at_ 6 _ rfl,PC.at_ 7 _ rfl,PC.at_ 8 _ rfl,PC.at_ 9 _ rfl,PC.at_ 10 _ rfl];try rfl) rfl ?_;exact⟨_,_,_,rfl,⟨hx,(by decide:(0:Nat)≤maxLen),(by decide:(0:Nat)≤maxLen),hy,(by decide:(-9223372036854775808:Int)≤0∧(0:Int)≤9223372036854775807),(by decide:(-9223372036854775808:Int)≤0∧(0:Int)≤9223372036854775807),(HR.out.far hsz (fun b o s e=>hbl b (by cases e;omega))),Reads.nil _,Reads.nil _,Reads.nil _⟩,hkp _ _ (Nat.le_refl _) KW.out,fun b o z e=>by cases e;omega⟩
theorem Xi {X:Type} {L:Lay X} {lx:List X} {q:Nat} {v:Value} {vs:List Value} {W:World} (hc:jc L lx=v::vs) (c:ji q (v::vs) W) (hf:∀x ∈ lx,L.fine x) (hm:lx.length≤maxLen):jh L W (some ⟨q,0,none⟩) lx.length lx :=
 ⟨rfl,hm,hf,.inr ⟨q,0,rfl,c.lt,fun i x j u hi hj=>by
  have:=JI L lx i x j u hi hj;rw[hc] at this;rw[Nat.zero_add];exact c.at_ _ u this⟩⟩
theorem Xs {w:World} {a:Option Addr} {len:Nat} {lx:List NX} (h:jh jP w a len lx) (hf:∀z ∈ lx,At3 w z):jo w a len (lx.map fun z=>z.1):=by
 obtain⟨g0,g1,g2,g3⟩:=h;refine⟨by rw[List.length_map];exact g0,g1,g3.imp id ?_⟩;rintro ⟨b,off,rfl,hb,hc⟩;refine⟨b,off,rfl,hb,fun i n hi=>?_⟩;rw[List.getElem?_map] at hi;obtain⟨z,hz,rfl⟩:=Option.map_eq_some_iff.1 hi;exact⟨_,_,_,_,_,_,_,_,_,hc i z 0 _ hz rfl,hc i z 1 _ hz rfl,hc i z 2 _ hz rfl,hc i z 3 _ hz rfl,hc i z 4 _ hz rfl,hf z (List.mem_of_getElem? hz)⟩
theorem XZ {w:World} {a:Option Addr} {len:Nat} {lx:List PX} (h:jh jy w a len lx) (hf:∀z ∈ lx,At4 w z):jz w a len (lx.map fun z=>z.1):=by
 obtain⟨g0,g1,g2,g3⟩:=h;refine⟨by rw[List.length_map];exact g0,g1,g3.imp id ?_⟩;rintro ⟨b,off,rfl,hb,hc⟩;refine⟨b,off,rfl,hb,fun i n hi=>?_⟩;rw[List.getElem?_map] at hi;obtain⟨z,hz,rfl⟩:=Option.map_eq_some_iff.1 hi;exact⟨_,_,_,_,hc i z 0 _ hz rfl,hc i z 1 _ hz rfl,hc i z 2 _ hz rfl,hc i z 3 _ hz rfl,hc i z 4 _ hz rfl,hc i z 5 _ hz rfl,hc i z 6 _ hz rfl,hc i z 7 _ hz rfl,hc i z 8 _ hz rfl,hc i z 9 _ hz rfl,hc i z 10 _ hz rfl,hf z (List.mem_of_getElem? hz)⟩
theorem jc0 (x:ByteArray) (c:Int) (y:ByteArray) (hc:-9223372036854775808≤c∧c≤9223372036854775807) (hx:x.size≤maxLen) (hy:y.size≤maxLen) (w:World) :
 Calls Tryz.prog 24 #[.string x,.int .i64 c,.string y] w fun e w'=>∃b1 n1 d1,e=.returned (.agg #[.string x,.string ⟨#[]⟩,.int .i64 0,.slice b1 n1 d1,.slice none 0 0,.slice none 0 0,.slice none 0 0,.string ⟨#[]⟩,.int .i64 0,.string y,.bool false])∧jx w' (.slice b1 n1 d1) (.slice none 0 0) (.slice none 0 0) (.slice none 0 0) (jc7 x c y)∧Kept w w' :=
 (X4 x c y hc hx hy w).mono fun e w' ⟨b,n,d,h1,h2,h3,_⟩=>⟨b,n,d,h1,h2,h3⟩
def Zz (W:World) (q:Nat):Prop:=∀i u,W.cell? ⟨q,i,none⟩=some u→∃a n c,u=.slice a n c
theorem jd3 {W:World} {q:Nat} {a1 a2 a3:Option Addr} {m1 c1 m2 c2 m3 c3:Nat} {T:TypeId} {fr:Nat×Nat} (hh:W.heap[q]?=some (.cells #[.slice a1 m1 c1,.slice a2 m2 c2,.slice a3 m3 c3] T fr)):Zz W q:=by
 intro i u h;rw[Lib.cell_of_heap hh] at h
 match i,h with
 | 0,h=>cases h;exact⟨_,_,_,rfl⟩
 | 1,h=>cases h;exact⟨_,_,_,rfl⟩
 | 2,h=>cases h;exact⟨_,_,_,rfl⟩
 | i+3,h=>simp at h
theorem Zz.noRow {W:World} {q:Nat} (h:Zz W q):YT W q:=fun o x u h1 _=>by
 obtain⟨_,_,_,e⟩:=h _ _ h1
 cases e
theorem Zu {α:Type} {L:Lay α} {w w':World} {a:Option Addr} {len:Nat} {l:List α} {N:Nat} (hL:∀x,∃u,(L.cs x)[0]?=some u∧∀a n c,u≠.slice a n c) (h:jh L w a len l) (hs:w'.heap.size=w.heap.size) (hb:∀b,b≠N→w'.heap[b]?=w.heap[b]?) (hn:Zz w N):jh L w' a len l:=by
 obtain⟨h3,h4,h5,h6⟩:=h;refine⟨h3,h4,h5,?_⟩;rcases h6 with h6 | ⟨b,off,rfl,hlt,hc⟩
 · exact .inl h6
 · cases l with
   | nil=>exact .inl h3.symm
   | cons x t =>
    have hne:b≠N:=by
     rintro rfl;obtain⟨u,g0,g1⟩:=hL x;obtain⟨_,_,_,e⟩:=hn _ _ (hc 0 x 0 _ rfl g0);exact g1 _ _ _ e
    exact .inr ⟨b,off,rfl,by rw[hs];exact hlt,fun i x j u hi hj=>(World.cell?_of_block (a:=⟨b,off+i*L.m+j,none⟩) (hb b hne)).trans (hc i x j u hi hj)⟩
theorem JJ {α:Type} {L:Lay α} {w w':World} {v:Value} {l:List α} {N:Nat} (hL:∀x,∃u,(L.cs x)[0]?=some u∧∀a n c,u≠.slice a n c) (h:Reads L w v l) (hs:w'.heap.size=w.heap.size) (hb:∀b,b≠N→w'.heap[b]?=w.heap[b]?) (hn:Zz w N):Reads L w' v l:=by
 obtain⟨a,cap,rfl,h1,h2,h3⟩:=h;exact⟨a,cap,rfl,h1,h2,Zu hL h3 hs hb hn⟩
theorem jej (x:ByteArray×ByteArray):∃u,(jm.cs x)[0]?=some u∧∀a n c,u≠.slice a n c:=⟨_,rfl,fun _ _ _ e=>by cases e⟩
theorem jeh (x:NT):∃u,(jk.cs x)[0]?=some u∧∀a n c,u≠.slice a n c:=⟨_,rfl,fun _ _ _ e=>by cases e⟩
theorem jdi (x:Int×ByteArray×ByteArray):∃u,(ju.cs x)[0]?=some u∧∀a n c,u≠.slice a n c:=⟨_,rfl,fun _ _ _ e=>by cases e⟩
theorem jee (x:NX):∃u,(jP.cs x)[0]?=some u∧∀a n c,u≠.slice a n c:=⟨_,rfl,fun _ _ _ e=>by cases e⟩
theorem jdZ (x:PX):∃u,(jy.cs x)[0]?=some u∧∀a n c,u≠.slice a n c:=⟨_,rfl,fun _ _ _ e=>by cases e⟩
theorem jec (x:BX):∃u,(jH.cs x)[0]?=some u∧∀a n c,u≠.slice a n c:=⟨_,rfl,fun _ _ _ e=>by cases e⟩
theorem jda {w:World} {a:Option Addr} {len:Nat} {lx:List BX} (h:jh jH w a len lx) (hf:∀z ∈ lx,At1 w z):j7 w a len (lx.map fun z=>z.1):=by
 obtain⟨g0,g1,g2,g3⟩:=h;refine⟨by rw[List.length_map];exact g0,g1,g3.imp id ?_⟩;rintro ⟨b,off,rfl,hb,hc⟩;refine⟨b,off,rfl,hb,fun i n hi=>?_⟩;rw[List.getElem?_map] at hi;obtain⟨z,hz,rfl⟩:=Option.map_eq_some_iff.1 hi;exact⟨_,hc i z 0 _ hz rfl,hc i z 1 _ hz rfl,hc i z 2 _ hz rfl,hf z (List.mem_of_getElem? hz)⟩
section
variable {w w':World} {N:Nat} (hs:w'.heap.size=w.heap.size) (hb:∀b,b≠N→w'.heap[b]?=w.heap[b]?) (hn:Zz w N)
include hs hb hn
theorem qS {v:Value} {l:List Nod} (h:j4 w v l):j4 w' v l:=by
 obtain⟨a,cap,rfl,h1,h2,h3⟩:=h;obtain⟨lx,hm,hr,hat⟩:=jaG h3;exact⟨a,cap,rfl,h1,h2,by rw[←hm];exact Xs (by rw[hm];exact Zu jee hr hs hb hn) fun z hz=>ZL (hat z hz) hs hb hn.noRow⟩
theorem jbi {v:Value} {l:List Pd} (h:zy w v l):zy w' v l:=by
 obtain⟨a,cap,rfl,h1,h2,h3⟩:=h;obtain⟨lx,hm,hr,hat⟩:=jap h3;exact⟨a,cap,rfl,h1,h2,by
  rw[←hm];exact XZ (by rw[hm];exact Zu jdZ hr hs hb hn) fun z hz=>by
   have g:=hat z hz;exact⟨g.name,g.owner,g.key,g.node,g.prio,g.most,qy g.need hs hb hn.noRow,JJ jej g.labels hs hb hn,JJ jdi g.sel hs hb hn,JJ jeh g.tols hs hb hn⟩⟩
theorem ja8 {v:Value} {l:List Bd} (h:zo w v l):zo w' v l:=by
 obtain⟨a,cap,rfl,h1,h2,h3⟩:=h;obtain⟨lx,hm,hr,hat⟩:=jay h3;exact⟨a,cap,rfl,h1,h2,by
  rw[←hm];exact jda (by rw[hm];exact Zu jec hr hs hb hn) fun z hz=>by
   have g:=hat z hz;exact⟨g.name,g.floor,JJ jdi g.sel hs hb hn⟩⟩
end
end Go.Proofs.YtgfoenfaohhjcaaGreat
namespace Go.Proofs.YtgfoenfaohhjcaaGreat
open Go.RowKit
theorem jet {v:Value} {s:Clu} {w:World} (h:zr w v s) (hl:ZP s) (e1:s.nodes.length≤1000) (e2:s.pods.length≤1000) (e3:s.buds.length≤1000):Calls Tryz.prog 14 #[v] w fun e w'=>∃v,e=.returned v∧zr w' v s∧Kept w w':=by
 obtain⟨v1,v2,v3,rfl,⟨a,cap,rfl,l1,m1,h1⟩,⟨b,cp,rfl,l2,m2,h2⟩,⟨d,cb,rfl,l3,m3,h3⟩⟩:=h;obtain⟨nl,pl,bl⟩:=s;dsimp only at *;obtain⟨len,hlen⟩:∃q,nl.length=q:=⟨_,rfl⟩
 obtain⟨m,hm⟩:∃q,pl.length=q:=⟨_,rfl⟩
 obtain⟨n,hn⟩:∃q,bl.length=q:=⟨_,rfl⟩
 rw[hlen] at h1 l1;rw[hm] at h2 l2;rw[hn] at h3 l3;try rw[hlen]
 try rw[hm]
 try rw[hn]
 obtain⟨Z,hZ⟩:∃Z,(w.alloc (.cells #[.slice a len cap,.slice b m cp,.slice d n cb] 26)).alloc (.cells #[.slice none 0 0,.slice none 0 0,.slice none 0 0] 56)=Z:=⟨_,rfl⟩
 have hkz:Kept w Z:=by rw[←hZ];exact jL _ _ _
 have cc:=je w (.slice a len cap) [.slice b m cp,.slice d n cb] 26 Z (by rw[←hZ];exact ja _ _);have HH:=lH (show ji (w.heap.size+1) [.slice none 0 0,.slice none 0 0,.slice none 0 0] Z by
  have dd:=je (w.alloc (.cells #[.slice a len cap,.slice b m cp,.slice d n cb] 26)) (.slice none 0 0) [.slice none 0 0,.slice none 0 0] 56 Z (by rw[hZ];exact Kept.refl _);rw[World.size_alloc] at dd;exact dd)
 have HN:=lH (fun W (k:Kept Z W)=>jdP (ZG l1 m1 (h1.kept (hkz.trans k))) hl.nodes e1);have HP:=lH (fun W (k:Kept Z W)=>jdL (jaD l2 m2 (h2.kept (hkz.trans k))) hl.pods e2);have HB:=lH (fun W (k:Kept Z W)=>jds (YZ l3 m3 (h3.kept (hkz.trans k))) hl.buds e3);have HKZ:=lH hkz;have HSL:=lH (show ∀W,Kept Z W→Zz W (w.heap.size+1) from fun W k=>by
  have hh:Z.heap[w.heap.size+1]?=some (.cells #[.slice none 0 0,.slice none 0 0,.slice none 0 0] 56):=by
   have:=(w.alloc (.cells #[.slice a len cap,.slice b m cp,.slice d n cb] 26)).alloc_heap_new (.cells #[.slice none 0 0,.slice none 0 0,.slice none 0 0] 56);rw[World.size_alloc,hZ] at this;exact this
  exact jd3 ((k.block _ (Array.getElem?_eq_some_iff.1 hh).1).trans hh))
 have HS:=lH (show ∀W,Kept Z W→W.cell? ⟨w.heap.size,0,none⟩=some (.slice a len cap)∧W.cell? ⟨w.heap.size,1,none⟩=some (.slice b m cp)∧W.cell? ⟨w.heap.size,2,none⟩=some (.slice d n cb) from fun W k=>⟨(cc.kept k).at_ 0 _ rfl,(cc.kept k).at_ 1 _ rfl,(cc.kept k).at_ 2 _ rfl⟩);have HS2:=lH (show ∀U W:World,(∀b,b≠w.heap.size+1→U.heap[b]?=W.heap[b]?)→Kept Z W→U.cell? ⟨w.heap.size,0,none⟩=some (.slice a len cap)∧U.cell? ⟨w.heap.size,1,none⟩=some (.slice b m cp)∧U.cell? ⟨w.heap.size,2,none⟩=some (.slice d n cb) from fun U W e k=>by
  have c:=(cc.kept k).block (e _ (by omega));exact⟨c.at_ 0 _ rfl,c.at_ 1 _ rfl,c.at_ 2 _ rfl⟩)
 clear h1 h2 h3 l1 l2 l3 m1 m2 m3 hkz cc hl e1 e2 e3;go_enter Tryz.func14,Tryz.ntmps14;go_wp2_with fail
 try rw[hZ]
 clear hZ;refine wp_region_held_drew (S:=fun W=>W.cell? ⟨w.heap.size,0,none⟩=some (.slice a len cap)∧W.cell? ⟨w.heap.size,1,none⟩=some (.slice b m cp)∧W.cell? ⟨w.heap.size,2,none⟩=some (.slice d n cb)) (by kernel_rfl) (HS.out _ (Kept.drew _)) (fun hHeld=>?_);refine wpAnyH_take  (i:=0) (v:=?_) (by rw[List.getElem?_toArray];exact rfl) (by kernel_rfl) (by kernel_rfl) (by kernel_rfl) (by exact fun _ _ _ h=>h) (Or.inl ⟨by rfl,(by rintro W ⟨o0,o1,o2⟩;go_simp<;>with_reducible rfl)⟩) (by assumption) ?_;try simp only  [Act.put,List.setIfInBounds_toArray,List.set_cons_zero,List.set_cons_succ]
 refine wpAnyH_take  (i:=1) (v:=?_) (by rw[List.getElem?_toArray];exact rfl) (by kernel_rfl) (by kernel_rfl) (by kernel_rfl) (by exact fun _ _ _ h=>h) (Or.inl ⟨by rfl,(by rintro W ⟨o0,o1,o2⟩;go_simp<;>with_reducible rfl)⟩) (by assumption) ?_;try simp only  [Act.put,List.setIfInBounds_toArray,List.set_cons_zero,List.set_cons_succ]
 refine wpAnyH_take  (i:=3) (v:=?_) (by rw[List.getElem?_toArray];exact rfl) (by kernel_rfl) (by kernel_rfl) (by kernel_rfl) (by exact fun _ _ _ h=>h) (Or.inl ⟨by rfl,(by rintro W ⟨o0,o1,o2⟩;go_simp<;>with_reducible rfl)⟩) (by assumption) ?_;try simp only  [Act.put,List.setIfInBounds_toArray,List.set_cons_zero,List.set_cons_succ]
 refine wpAnyH_take  (i:=4) (v:=?_) (by rw[List.getElem?_toArray];exact rfl) (by kernel_rfl) (by kernel_rfl) (by kernel_rfl) (by exact fun _ _ _ h=>h) (Or.inl ⟨by rfl,(by rintro W ⟨o0,o1,o2⟩;go_simp<;>with_reducible rfl)⟩) (by assumption) ?_;try simp only  [Act.put,List.setIfInBounds_toArray,List.set_cons_zero,List.set_cons_succ]
 refine wpAnyH_take  (i:=6) (v:=?_) (by rw[List.getElem?_toArray];exact rfl) (by kernel_rfl) (by kernel_rfl) (by kernel_rfl) (by exact fun _ _ _ h=>h) (Or.inl ⟨by rfl,(by rintro W ⟨o0,o1,o2⟩;go_simp<;>with_reducible rfl)⟩) (by assumption) ?_;try simp only  [Act.put,List.setIfInBounds_toArray,List.set_cons_zero,List.set_cons_succ]
 refine wpAnyH_take  (i:=7) (v:=?_) (by rw[List.getElem?_toArray];exact rfl) (by kernel_rfl) (by kernel_rfl) (by kernel_rfl) (by exact fun _ _ _ h=>h) (Or.inl ⟨by rfl,(by rintro W ⟨o0,o1,o2⟩;go_simp<;>with_reducible rfl)⟩) (by assumption) ?_;try simp only  [Act.put,List.setIfInBounds_toArray,List.set_cons_zero,List.set_cons_succ]
 have J:=lH (Kept.drew Z);refine wpAnyH_ready  (rs:=[2]) (by kernel_rfl) (by simp) (AllReadyH.cons  (by rw[List.getElem?_toArray];exact rfl) (fun K9 hK9=>?_) AllReadyH.nil);go_simp;refine(HN.out _ J.out).mono ?_;rintro e1 w1 ⟨u1,rfl,hr,kk⟩;have J:=lH (J.out.trans kk);have hr2:=hr;obtain⟨x1,q1,rfl,-,-,-⟩:=hr2;rw[hlen] at hr;try rw[hlen]
 have RR1:=lH hr;clear hr kk;refine hK9.out _ _ (HS.out _ J.out) (fun hHeld1=>?_);clear hK9 K9;try simp only  [Act.put,List.setIfInBounds_toArray,List.set_cons_zero,List.set_cons_succ]
 refine wpAnyH_ready  (rs:=[5]) (by kernel_rfl) (by simp) (AllReadyH.cons  (by rw[List.getElem?_toArray];exact rfl) (fun K9 hK9=>?_) AllReadyH.nil);go_simp;refine(HP.out _ J.out).mono ?_;rintro e2 w2 ⟨u2,rfl,hr,kk⟩;have J:=lH (J.out.trans kk);have RR1:=lH (RR1.out.kept kk);have hr2:=hr;obtain⟨x2,q2,rfl,-,-,-⟩:=hr2;rw[hm] at hr;try rw[hm]
 have RR2:=lH hr;clear hr kk;refine hK9.out _ _ (HS.out _ J.out) (fun hHeld2=>?_);clear hK9 K9;try simp only  [Act.put,List.setIfInBounds_toArray,List.set_cons_zero,List.set_cons_succ]
 refine wpAnyH_ready  (rs:=[8]) (by kernel_rfl) (by simp) (AllReadyH.cons  (by rw[List.getElem?_toArray];exact rfl) (fun K9 hK9=>?_) AllReadyH.nil);go_simp;refine(HB.out _ J.out).mono ?_;rintro e3 w3 ⟨u3,rfl,hr,kk⟩;have J:=lH (J.out.trans kk);have RR1:=lH (RR1.out.kept kk);have RR2:=lH (RR2.out.kept kk);have hr2:=hr;obtain⟨x3,q3,rfl,-,-,-⟩:=hr2;rw[hn] at hr;try rw[hn]
 have RR3:=lH hr;clear hr kk;refine hK9.out _ _ (HS.out _ J.out) (fun hHeld3=>?_);clear hK9 K9;try simp only  [Act.put,List.setIfInBounds_toArray,List.set_cons_zero,List.set_cons_succ]
 refine wpAnyH_take  (i:=9) (v:=?_) (by rw[List.getElem?_toArray];exact rfl) (by kernel_rfl) (by kernel_rfl) (by kernel_rfl) (by exact fun _ _ _ h=>h) (Or.inl ⟨by rfl,(by rintro W ⟨o0,o1,o2⟩;go_simp<;>with_reducible rfl)⟩) (by assumption) ?_;try simp only  [Act.put,List.setIfInBounds_toArray,List.set_cons_zero,List.set_cons_succ]
 have H9:=lH (HH.out.kept J.out);have z0:=H9.out.at_ 0 _ rfl;have z1:=H9.out.at_ 1 _ rfl;have z2:=H9.out.at_ 2 _ rfl;have f0:=H9.out.free 0;have f1:=H9.out.free 1;have f2:=H9.out.free 2;have PP:=lH (JP (vs:=[.slice x1 len q1,.slice x2 m q2,.slice x3 n q3]) H9.out rfl);refine wpAnyH_ready  (rs:=[10]) (by kernel_rfl) (by simp) (AllReadyH.cons  (by rw[List.getElem?_toArray];exact rfl) (fun K9 hK9=>?_) AllReadyH.nil);go_simp;obtain⟨WE,hWE⟩:∃W,w3.setCells (w.heap.size+1) 0 [.slice x1 len q1,.slice x2 m q2,.slice x3 n q3]=W:=⟨_,rfl⟩
 have hWE2:(((w3.setCell ⟨(w.heap.size+1),0,none⟩ (.slice x1 len q1)).setCell ⟨(w.heap.size+1),1,none⟩ (.slice x2 m q2)).setCell ⟨(w.heap.size+1),2,none⟩ (.slice x3 n q3))=WE:=hWE;rw[hWE] at PP;try rw[hWE2]
 obtain⟨PC,hsz,hbl,hkp⟩:=PP.out;skip;refine hK9.out _ _ (HS2.out _ _ hbl J.out) (fun hHeldS=>?_);clear hK9 K9 z0 z1 z2 f0 f1 f2;try simp only  [Act.put,List.setIfInBounds_toArray,List.set_cons_zero,List.set_cons_succ]
 refine wpAnyH_done (by kernel_rfl) ?_ _;go_wp2;refine bodyPost_ret (by simp[results,Tryz.results14,go_sem,PC.at_ 0 _ rfl,PC.at_ 1 _ rfl,PC.at_ 2 _ rfl];try rfl) rfl ?_;have SL:=HSL.out _ J.out;exact⟨_,rfl,⟨_,_,_,rfl,qS hsz hbl SL RR1.out,jbi hsz hbl SL RR2.out,ja8 hsz hbl SL RR3.out⟩,hkp _ _ (Nat.le_succ _) (HKZ.out.trans J.out)⟩
theorem jcN {n:Pd} (h:za n=true):ZD n:=by
 obtain⟨-,-,-,-,h1,h2,h3,h4⟩:=qG h;refine⟨?_,?_,?_,?_⟩
 · unfold Vec.Jt at h1;simp only[Bool.and_eq_true,decide_eq_true_eq] at h1;omega
 · have:=(jbl h2).1;omega
 · have:=(jaU h3).1;omega
 · have:=(jaC h4).1;omega
def Jd (s:Clu):Bool:=Zb s&&decide (zU s=0)
theorem Yr {s:Clu} (h:Zb s=true):ZP s∧s.nodes.length≤34∧s.pods.length≤130∧s.buds.length≤20:=by
 unfold Zb zJ at h;simp only[Bool.and_eq_true,decide_eq_true_eq,List.all_eq_true] at h;obtain⟨h1,h2,⟨h3,h4⟩,h5,h6⟩:=h;refine⟨⟨fun n hn=>jdx (h5 n hn),fun p hp=>jcN (h6 p hp),fun n hn=>?_,by omega,by omega,by omega⟩,by omega,by omega,by omega⟩;have:=h4 n hn;unfold JT Jg at this;simp only[Bool.and_eq_true,decide_eq_true_eq] at this;omega
theorem qm {s:Clu} (h:Jd s=true):Zb s=true:=by unfold Jd at h;exact(Bool.and_eq_true_iff.1 h).1
theorem XV {s:Clu} (h:Jd s=true):zU s=0:=by unfold Jd at h;exact of_decide_eq_true (Bool.and_eq_true_iff.1 h).2
theorem jdB {v:Value} {s:Clu} {c:Bool} {w:World} (h:zr w v s) (hc:Jd s=c):Calls Tryz.prog 6 #[v] w (Say (.bool c) w):=by
 subst hc;have h0:=h;obtain⟨v1,v2,v3,rfl,⟨a,cap,rfl,-,-,-⟩,⟨b,cp,rfl,-,-,-⟩,⟨d,cb,rfl,-,-,-⟩⟩:=h0;obtain⟨len,hl1⟩:∃q,s.nodes.length=q:=⟨_,rfl⟩
 obtain⟨m,hl2⟩:∃q,s.pods.length=q:=⟨_,rfl⟩
 obtain⟨n,hl3⟩:∃q,s.buds.length=q:=⟨_,rfl⟩
 rw[hl1,hl2,hl3] at h ⊢;clear hl1 hl2 hl3;obtain⟨Z,hZ⟩:∃Z,w.alloc (.cells #[.slice a len cap,.slice b m cp,.slice d n cb] 26)=Z:=⟨_,rfl⟩
 have hkz:Kept w Z:=by rw[←hZ];exact ja _ _
 have HC:=lH (show ji w.heap.size [.slice a len cap,.slice b m cp,.slice d n cb] Z from je w (.slice a len cap) [.slice b m cp,.slice d n cb] 26 Z (by rw[hZ];exact Kept.refl _));have HV:=lH (h.kept hkz);have HKZ:=lH hkz;obtain⟨e1,he1⟩:∃e,Zb s=e:=⟨_,rfl⟩
 have HE1:=lH he1;have HG:=lH (show Jd s=(e1&&decide (zU s=0)) by unfold Jd;rw[he1]);rw[HG.out];clear h hkz;have cq0:=(HC.out.kept (Kept.refl _)).at_ 0 _ rfl;have cq1:=(HC.out.kept (Kept.refl _)).at_ 1 _ rfl;have cq2:=(HC.out.kept (Kept.refl _)).at_ 2 _ rfl;go_enter Tryz.func6,Tryz.ntmps6;go_wp2_with fail
 try rw[hZ]
 clear hZ;refine(jd7 HV.out he1).mono ?_;rintro e w1 ⟨rfl,kk⟩;have K:=lH kk;clear kk he1 cq0 cq1 cq2;have cq0:=(HC.out.kept K.out).at_ 0 _ rfl;have cq1:=(HC.out.kept K.out).at_ 1 _ rfl;have cq2:=(HC.out.kept K.out).at_ 2 _ rfl
 cases e1 with
 | false =>
  go_wp2;go_ret;exact⟨rfl,HKZ.out.trans K.out⟩
 | true =>
  obtain⟨L1,L2,L3,L4⟩:=Yr HE1.out;have HL:=lH L1;clear L1;go_wp2_with fail
  refine(jet (HV.out.kept K.out) HL.out (by omega) (by omega) (by omega)).mono ?_;rintro e w2 ⟨x9,rfl,hx,kk⟩;have K2:=lH (K.out.trans kk);have HX:=lH hx;clear hx kk cq0 cq1 cq2;go_wp2_with fail
  obtain⟨c,hc⟩:∃c,zU s=c:=⟨_,rfl⟩
  refine(jci HX.out hc).mono ?_;rintro e w3 ⟨rfl,kk⟩;have K3:=lH (K2.out.trans kk);have HCC:=lH hc;clear kk;rw[hc];clear hc;obtain⟨t,ht⟩:∃t,decide (c=0)=t:=⟨_,rfl⟩
  have ht':(c==0)=t:=ht;go_wp2;go_ret;exact⟨by rw[HCC.out,ht];rfl,HKZ.out.trans K3.out⟩
def Asc (l:List Pd):Prop:=l.Pairwise fun x y=>ltS x.name y.name=true
theorem X8:∀{prev:Option ByteArray} {l:List Pd},jS prev l=0→(∀q,prev=some q→∀x ∈ l,ltS q x.name=true)∧Asc l
 | _,[],_=>⟨fun q _ x h=>absurd h (by simp),.nil⟩
 | prev,n::t,h=>by
  by_cases z:Jb n=0
  · by_cases y:Vec.jn prev n.name=true
    · rw[YQ z y] at h;cases h
    · have y:Vec.jn prev n.name=false:=by simpa using y
      rw[ZZ z y] at h;obtain⟨h2,h3⟩:=X8 h;refine⟨fun q hq x hx=>?_,List.pairwise_cons.2 ⟨fun x hx=>h2 _ rfl x hx,h3⟩⟩;subst hq;have hlt:ltS q n.name=true:=Vec.ZW y;rcases List.mem_cons.1 hx with rfl | hx
      · exact hlt
      · exact Vec.zv hlt (h2 _ rfl x hx)
  · rw[qg z] at h;exact absurd h z
theorem jcz {s:Clu} (h:Jd s=true):Asc s.pods:=by
 have hc:=XV h;have h0:or3 (jI s.nodes) (jG s.pods) (jD s.buds)=0:=Decidable.byContradiction fun g=>g ((YG (nl:=s.nodes) (pl:=s.pods) (bl:=s.buds) rfl g).symm.trans hc);have ho:jG s.pods=0:=by
  unfold or3 at h0;split at h0
  · rename_i h1;exact absurd h0 h1
  · split at h0
    · exact h0
    · rename_i h1;exact Decidable.of_not_not h1
 unfold jG at ho;split at ho
 · cases ho
 · exact(X8 ho).2
theorem YP {x:ByteArray}:∀{l:List Pd},(zV x l).length+(if (Zy l x).isSome=true then 1 else 0)=l.length
 | []=>rfl
 | p::t=>by
  by_cases e:eqS p.name x=true
  · have hf:Zy (p::t) x=some p:=by unfold Zy;exact List.find?_cons_of_pos (p:=fun n:Pd=>eqS n.name x) e
    rw[zV,if_pos e,hf];simp
  · have hf:Zy (p::t) x=Zy t x:=by unfold Zy;exact List.find?_cons_of_neg (p:=fun n:Pd=>eqS n.name x) e
    rw[zV,if_neg e,hf];have:=YP (x:=x) (l:=t);simp only[List.length_cons];omega
theorem jcd (s:Clu) (x:ByteArray):(zl s x).pods.length+(if (Zy s.pods x).isSome=true then 1 else 0)=s.pods.length:=YP
def jdN (l:Vec.V):Prop:=Vec.Gd l∧l.length≤8
theorem jdN.nil:jdN []:=⟨Vec.Gd.nil,by decide⟩
def qA (l:List Nod):Prop:=l.Pairwise fun x y=>ltS x.name y.name=true
theorem Xp:∀{prev:Option ByteArray} {l:List Nod},jU prev l=0→(∀q,prev=some q→∀x ∈ l,ltS q x.name=true)∧qA l∧∀n ∈ l,j8 n=0
 | _,[],_=>⟨fun q _ x h=>absurd h (by simp),.nil,fun n h=>absurd h (by simp)⟩
 | prev,n::t,h=>by
  by_cases z:j8 n=0
  · by_cases y:Vec.jn prev n.name=true
    · rw[YV z y] at h;cases h
    · have y:Vec.jn prev n.name=false:=by simpa using y
      rw[ZX z y] at h;obtain⟨h2,h3,h4⟩:=Xp h;refine⟨fun q hq x hx=>?_,List.pairwise_cons.2 ⟨fun x hx=>h2 _ rfl x hx,h3⟩,fun m hm=>?_⟩
      · subst hq;have hlt:ltS q n.name=true:=Vec.ZW y;rcases List.mem_cons.1 hx with rfl | hx
        · exact hlt
        · exact Vec.zv hlt (h2 _ rfl x hx)
      · rcases List.mem_cons.1 hm with rfl | hm
        · exact z
        · exact h4 m hm
  · rw[qf z] at h;exact absurd h z
theorem jb7 {s:Clu} (h:Jd s=true):qA s.nodes:=by
 have hc:=XV h;have h0:or3 (jI s.nodes) (jG s.pods) (jD s.buds)=0:=Decidable.byContradiction fun g=>g ((YG (nl:=s.nodes) (pl:=s.pods) (bl:=s.buds) rfl g).symm.trans hc);have ho:jI s.nodes=0:=by
  unfold or3 at h0;split at h0
  · rename_i h1;exact absurd h0 h1
  · rename_i h1;exact Decidable.of_not_not h1
 unfold jI at ho;split at ho
 · cases ho
 · exact(Xp ho).2.1
theorem Xm {x y:ByteArray} (h:ltS x y=true):x≠y:=fun e=>by subst e;exact absurd (Vec.zv h h) (by rw[Vec.Zw];decide)
theorem Yc (p q:Pd) (h:eqS q.name p.name=true):zi p q=false:=by unfold zi;rw[h];simp
theorem XN (p:Pd) (x:ByteArray):∀l:List Pd,onN p x (zV p.name l)=onN p x l
 | []=>rfl
 | q::t=>by
  rw[zV];by_cases h:eqS q.name p.name=true
  · rw[if_pos h,onN,Yc p q h];simp
  · rw[if_neg h,onN,onN,XN p x t]
theorem Yt (p:Pd) (d:ByteArray) (pods:List Pd):∀l:List Nod,inD p (zV p.name pods) d l=inD p pods d l
 | []=>rfl
 | n::t=>by rw[inD,inD,Yt p d pods t,XN]
theorem ZE (p:Pd) (pods:List Pd) (nodes:List Nod) (d:ByteArray):∀(l:List Nod) (m:Nat),zE p (zV p.name pods) nodes d l m=zE p pods nodes d l m
 | [],m=>rfl
 | n::t,m=>by
  rw[zE,zE]
  cases getS n.labels p.key with
  | none=>exact ZE p pods nodes d t m
  | some e=>dsimp only;rw[Yt];exact ZE p pods nodes d t _
theorem jbM (p:Pd) (s:Clu) (x:ByteArray):jC p (zl s p.name) x=jC p s x:=by
 unfold jC Ju zl;simp only[Yt,ZE]
def Yo (p:Pd):List Pd→Nat
 | []=>0
 | q::t=>(if zi p q=true then 1 else 0)+Yo p t
theorem jas (p:Pd):∀l:List Pd,Yo p l≤l.length
 | []=>Nat.le_refl _
 | q::t=>by have:=jas p t;rw[Yo,List.length_cons];split<;>omega
theorem jam (p:Pd):∀{l:List Pd},p ∈ l→Yo p l<l.length
 | q::t,h=>by
  rw[Yo,List.length_cons];rcases List.mem_cons.1 h with rfl | h
  · rw[Yc p p (Yp _)];have:=jas p t;simp;omega
  · have:=jam p h;split<;>omega
def ZT (p q:Pd) (d:ByteArray):List Nod→Nat
 | []=>0
 | n::t=>(if getS n.labels p.key=some d∧q.node=n.name then 1 else 0)+ZT p q d t
theorem qo (p q:Pd) (d:ByteArray):∀{l:List Nod},(∀n ∈ l,q.node≠n.name)→ZT p q d l=0
 | [],_=>rfl
 | n::t,h=>by rw[ZT,if_neg fun e=>h n (by simp) e.2,qo p q d fun x hx=>h x (by simp[hx])]
theorem jal (p q:Pd) (d:ByteArray):∀{l:List Nod},qA l→ZT p q d l≤1
 | [],_=>Nat.zero_le _
 | n::t,h=>by
  obtain⟨h1,h2⟩:=List.pairwise_cons.1 h;rw[ZT];by_cases e:q.node=n.name
  · rw[qo p q d fun x hx=>fun e2=>Xm (h1 x hx) (e.symm.trans e2)];split<;>omega
  · rw[if_neg fun g=>e g.2];have:=jal p q d h2;omega
theorem jaF (p:Pd) (d:ByteArray):∀l:List Nod,inD p [] d l=0
 | []=>rfl
 | n::t=>by rw[inD,jaF p d t];simp[onN]
theorem XQ (p q:Pd) (pods:List Pd) (d:ByteArray):∀l:List Nod,inD p (q::pods) d l=(if zi p q=true then ZT p q d l else 0)+inD p pods d l
 | []=>by simp[inD,ZT]
 | n::t=>by
  rw[inD,inD,ZT,XQ p q pods d t,onN];by_cases h1:zi p q=true<;>by_cases h2:getS n.labels p.key=some d<;>by_cases h3:q.node=n.name<;>simp[h1,h2,h3]<;>omega
theorem jao (p:Pd) (d:ByteArray) {nodes:List Nod} (h:qA nodes):∀l:List Pd,inD p l d nodes≤Yo p l
 | []=>by rw[jaF];exact Nat.zero_le _
 | q::t=>by
  have h1:=jao p d h t;have h2:=jal p q d h;rw[XQ,Yo];split<;>omega
theorem jdA {s:Clu} (h:qA s.nodes) {p:Pd} (hp:p ∈ s.pods) (x:ByteArray):(jC p s x).1≤(s.pods.length:Int):=by
 have hb:=jam p hp;unfold jC;split
 · exact Int.natCast_nonneg _
 · split
   · exact Int.natCast_nonneg _
   · rename_i d _;have:=jao p d h s.pods;show ((inD p s.pods d s.nodes+1:Nat):Int)-_≤_;omega
theorem jbH (s:Clu) (p:Pd) (t:List Pd):zg s (p::t)=(if zI s p=true then [p.name] else [])++zg s t:=by
 unfold zg;rw[List.filter_cons];split<;>simp
theorem jcI {s:Clu} {x:ByteArray} {l:List Pd} (h:x ∈ zg s l):∃q ∈ l,q.name=x:=by
 unfold zg at h;obtain⟨q,hq,e⟩:=List.mem_map.1 h;exact⟨q,(List.mem_filter.1 hq).1,e⟩
theorem jdg {s:Clu} (ha:Asc s.pods) {i:Nat} {p:Pd} (hp:s.pods[i]?=some p) {k:Nat} (hk:(zg s (s.pods.take i)).length=k) :
 (k<(Yk s).length∧(Yk s)[k]?=some p.name)↔zI s p=true:=by
 have hs:Yk s=zg s (s.pods.take i)++zg s (s.pods.drop i):=by
  show zg s s.pods=_;conv=>lhs;rw[←List.take_append_drop i s.pods]
  unfold zg;rw[List.filter_append,List.map_append]
 have hi:=(List.getElem?_eq_some_iff.1 hp).1;have hd:s.pods.drop i=p::s.pods.drop (i+1):=by rw[List.drop_eq_getElem_cons hi,(List.getElem?_eq_some_iff.1 hp).2]
 rw[hs,←hk,List.length_append,List.getElem?_append_right (Nat.le_refl _),Nat.sub_self,hd,jbH];constructor
 · rintro ⟨h1,h2⟩;refine Decidable.byContradiction fun h=>?_;rw[if_neg h,List.nil_append] at h2;have hm:=List.mem_of_getElem? h2;obtain⟨q,hq,e⟩:=jcI hm;have hp2:Asc (s.pods.drop i):=List.Pairwise.sublist (List.drop_sublist _ _) ha;rw[hd] at hp2;exact Xm ((List.pairwise_cons.1 hp2).1 q hq) e.symm
 · intro h;rw[if_pos h];exact⟨by simp,rfl⟩
def Za:ByteArray:=⟨#[122,111,110,101]⟩
def jdT:ByteArray:=⟨#[119,101,98]⟩
def Yl (x z:ByteArray):Nod:=⟨x,[(⟨#[99,112,117]⟩,100)],[(Za,z)],[],false⟩
def Yw (x y:ByteArray) (m:Int):Pd:=⟨x,jdT,0,[(⟨#[99,112,117]⟩,1)],[],[],[],Za,m,y,false⟩
theorem jcK {W:World} {b:Nat} {x y:ByteArray} (h:ji b [.string x,.string y] W) (hx:x.size≤maxLen) (hy:y.size≤maxLen):Reads jm W (.slice (some ⟨b,0,none⟩) 1 1) [(x,y)]:=by
 refine⟨_,1,rfl,(by decide:(1:Nat)≤1),(by decide:(1:Nat)≤maxLen),rfl,(by decide:(1:Nat)≤maxLen),fun z hz=>?_,.inr ⟨b,0,rfl,h.lt,fun i z j u hz hu=>?_⟩⟩
 · obtain rfl:z=(x,y):=by simpa using hz
   exact⟨hx,hy⟩
 · cases i with
   | zero =>
    cases hz
    match j,hu with
    | 0,hu=>cases hu;exact h.at_ 0 _ rfl
    | 1,hu=>cases hu;exact h.at_ 1 _ rfl
    | j+2,hu=>cases hu
   | succ i=>cases hz
theorem Z5 (x z:ByteArray) (hx:x.size≤maxLen) (hz:z.size≤maxLen) (w:World) :
 Calls Tryz.prog 21 #[.string x,.string z] w fun e w'=>∃b1 n1 d1 b2 n2 d2,e=.returned (.agg #[.string x,.slice b1 n1 d1,.slice b2 n2 d2,.slice none 0 0,.bool false])∧j2 w' (.slice b1 n1 d1) (.slice b2 n2 d2) (.slice none 0 0) (Yl x z)∧Kept w w':=by
 have cc:=je w (.string ⟨#[]⟩) [.slice none 0 0,.slice none 0 0,.slice none 0 0,.bool false] 68 _ (Kept.refl _);obtain⟨W0,hW0⟩:∃W,w.alloc (.cells #[.string ⟨#[]⟩,.slice none 0 0,.slice none 0 0,.slice none 0 0,.bool false] 68)=W:=⟨_,rfl⟩
 have k0:Kept w W0:=by rw[←hW0];exact ja _ _
 rw[hW0] at cc;have C0:=lH cc;have K0:=lH k0;clear cc k0;go_enter Tryz.func21,Tryz.ntmps21;go_wp2_with fail
 try rw[hW0]
 clear hW0;refine(qk x 100 (by decide) hx _).mono ?_;rintro e w1 ⟨b1,n1,d1,rfl,HN,kk,hfar⟩;have HFA:=lH hfar;clear hfar;obtain⟨W2,hW2⟩:∃W,(w1.alloc (.cells #[.string x,.slice b1 n1 d1,.slice (some ⟨w1.heap.size+1,0,none⟩) 1 1,.slice none 0 0,.bool false] 68)).alloc (.cells #[.string ⟨#[122,111,110,101]⟩,.string z] 119)=W:=⟨_,rfl⟩
 have k2:Kept w1 W2:=by rw[←hW2];exact jL _ _ _
 have HB:=lH (show ji (w1.heap.size+1) [.string ⟨#[122,111,110,101]⟩,.string z] W2 by
  have:=je (w1.alloc (.cells #[.string x,.slice b1 n1 d1,.slice (some ⟨w1.heap.size+1,0,none⟩) 1 1,.slice none 0 0,.bool false] 68)) (.string ⟨#[122,111,110,101]⟩) [.string z] 119 W2 (by rw[hW2];exact Kept.refl _);simpa using this)
 have ha:=je w1 (.string x) [.slice b1 n1 d1,.slice (some ⟨w1.heap.size+1,0,none⟩) 1 1,.slice none 0 0,.bool false] 68 W2 (by rw[←hW2];exact ja _ _);have z0:=ha.at_ 0 _ rfl;have z1:=ha.at_ 1 _ rfl;have z2:=ha.at_ 2 _ rfl;have z3:=ha.at_ 3 _ rfl;have z4:=ha.at_ 4 _ rfl;clear ha;have c1:=C0.out.kept (kk.trans k2);have hsz:=kk.size;have hlt:=C0.out.lt;have HN:=lH (HN.kept k2);have KW:=lH (K0.out.trans (kk.trans k2));have y0:=c1.at_ 0 _ rfl;have y1:=c1.at_ 1 _ rfl;have y2:=c1.at_ 2 _ rfl;have y3:=c1.at_ 3 _ rfl;have y4:=c1.at_ 4 _ rfl;have f0:=c1.free 0;have f1:=c1.free 1;have f2:=c1.free 2;have f3:=c1.free 3;have f4:=c1.free 4;have P:=lH (JP (vs:=[.string x,.slice b1 n1 d1,.slice (some ⟨w1.heap.size+1,0,none⟩) 1 1,.slice none 0 0,.bool false]) c1 rfl);clear c1 kk k2;go_upto_region 3 with fail
 try rw[hW2]
 clear hW2;go_wp2;obtain⟨WE,hWE⟩:∃W,W2.setCells w.heap.size 0 [.string x,.slice b1 n1 d1,.slice (some ⟨w1.heap.size+1,0,none⟩) 1 1,.slice none 0 0,.bool false]=W:=⟨_,rfl⟩
 have hWE2:(((((W2.setCell ⟨w.heap.size,0,none⟩ (.string x)).setCell ⟨w.heap.size,1,none⟩ (.slice b1 n1 d1)).setCell ⟨w.heap.size,2,none⟩ (.slice (some ⟨w1.heap.size+1,0,none⟩) 1 1)).setCell ⟨w.heap.size,3,none⟩ (.slice none 0 0)).setCell ⟨w.heap.size,4,none⟩ (.bool false))=WE:=hWE;rw[hWE] at P;try rw[hWE2]
 clear hWE hWE2;obtain⟨PC,hsz9,hbl,hkp⟩:=P.out;have HBE:ji (w1.heap.size+1) [.string ⟨#[122,111,110,101]⟩,.string z] WE:=HB.out.block (hbl _ (by omega));refine bodyPost_ret (by simp[results,Tryz.results21,go_sem,PC.at_ 0 _ rfl,PC.at_ 1 _ rfl,PC.at_ 2 _ rfl,PC.at_ 3 _ rfl,PC.at_ 4 _ rfl];try rfl) rfl ?_;refine⟨_,_,_,_,_,_,rfl,⟨hx,?_,?_,Reads.nil _⟩,hkp _ _ (Nat.le_refl _) KW.out⟩
 · exact HN.out.cap.far hsz9 fun b o s e=>hbl b (by have:=HFA.out b o s e;omega)
 · exact jcK HBE (by decide) hz
theorem JX (x y:ByteArray) (m:Int) (hx:x.size≤maxLen) (hy:y.size≤maxLen) (hm:-9223372036854775808≤m∧m≤9223372036854775807) (w:World) :
 Calls Tryz.prog 23 #[.string x,.string y,.int .i64 m] w fun e w'=>∃b1 n1 d1,e=.returned (.agg #[.string x,.string ⟨#[119,101,98]⟩,.int .i64 0,.slice b1 n1 d1,.slice none 0 0,.slice none 0 0,.slice none 0 0,.string ⟨#[122,111,110,101]⟩,.int .i64 m,.string y,.bool false])∧jx w' (.slice b1 n1 d1) (.slice none 0 0) (.slice none 0 0) (.slice none 0 0) (Yw x y m)∧Kept w w':=by
 have cc:=je w (.string ⟨#[]⟩) [.string ⟨#[]⟩,.int .i64 0,.slice none 0 0,.slice none 0 0,.slice none 0 0,.slice none 0 0,.string ⟨#[]⟩,.int .i64 0,.string ⟨#[]⟩,.bool false] 39 _ (Kept.refl _);obtain⟨W0,hW0⟩:∃W,w.alloc (.cells #[.string ⟨#[]⟩,.string ⟨#[]⟩,.int .i64 0,.slice none 0 0,.slice none 0 0,.slice none 0 0,.slice none 0 0,.string ⟨#[]⟩,.int .i64 0,.string ⟨#[]⟩,.bool false] 39)=W:=⟨_,rfl⟩
 have k0:Kept w W0:=by rw[←hW0];exact ja _ _
 rw[hW0] at cc;have C0:=lH cc;have K0:=lH k0;clear cc k0;go_enter Tryz.func23,Tryz.ntmps23;go_wp2_with fail
 try rw[hW0]
 clear hW0;refine(X4 x 1 y (by decide) hx hy _).mono ?_;rintro e w1 ⟨b1,n1,d1,rfl,HN,kk,hfar⟩;have HFA:=lH hfar;clear hfar;obtain⟨W2,hW2⟩:∃W,w1.alloc (.cells #[.string x,.string ⟨#[119,101,98]⟩,.int .i64 0,.slice b1 n1 d1,.slice none 0 0,.slice none 0 0,.slice none 0 0,.string ⟨#[122,111,110,101]⟩,.int .i64 m,.string y,.bool false] 39)=W:=⟨_,rfl⟩
 have k2:Kept w1 W2:=by rw[←hW2];exact ja _ _
 have ha:=je w1 (.string x) [.string ⟨#[119,101,98]⟩,.int .i64 0,.slice b1 n1 d1,.slice none 0 0,.slice none 0 0,.slice none 0 0,.string ⟨#[122,111,110,101]⟩,.int .i64 m,.string y,.bool false] 39 W2 (by rw[hW2];exact Kept.refl _);have z0:=ha.at_ 0 _ rfl;have z1:=ha.at_ 1 _ rfl;have z2:=ha.at_ 2 _ rfl;have z3:=ha.at_ 3 _ rfl;have z4:=ha.at_ 4 _ rfl;have z5:=ha.at_ 5 _ rfl;have z6:=ha.at_ 6 _ rfl;have z7:=ha.at_ 7 _ rfl;have z8:=ha.at_ 8 _ rfl;have z9:=ha.at_ 9 _ rfl;have z10:=ha.at_ 10 _ rfl;clear ha;have c1:=C0.out.kept (kk.trans k2);have hsz:=kk.size;have hlt:=C0.out.lt;have HN:=lH (HN.kept k2);have KW:=lH (K0.out.trans (kk.trans k2));have y0:=c1.at_ 0 _ rfl;have y1:=c1.at_ 1 _ rfl;have y2:=c1.at_ 2 _ rfl;have y3:=c1.at_ 3 _ rfl;have y4:=c1.at_ 4 _ rfl;have y5:=c1.at_ 5 _ rfl;have y6:=c1.at_ 6 _ rfl;have y7:=c1.at_ 7 _ rfl;have y8:=c1.at_ 8 _ rfl;have y9:=c1.at_ 9 _ rfl;have y10:=c1.at_ 10 _ rfl;have f0:=c1.free 0;have f1:=c1.free 1;have f2:=c1.free 2;have f3:=c1.free 3;have f4:=c1.free 4;have f5:=c1.free 5;have f6:=c1.free 6;have f7:=c1.free 7;have f8:=c1.free 8;have f9:=c1.free 9;have f10:=c1.free 10;have P:=lH (JP (vs:=[.string x,.string ⟨#[119,101,98]⟩,.int .i64 0,.slice b1 n1 d1,.slice none 0 0,.slice none 0 0,.slice none 0 0,.string ⟨#[122,111,110,101]⟩,.int .i64 m,.string y,.bool false]) c1 rfl);clear c1 kk k2;go_upto_region 4 with fail
 try rw[hW2]
 clear hW2;go_wp2;obtain⟨WE,hWE⟩:∃W,W2.setCells w.heap.size 0 [.string x,.string ⟨#[119,101,98]⟩,.int .i64 0,.slice b1 n1 d1,.slice none 0 0,.slice none 0 0,.slice none 0 0,.string ⟨#[122,111,110,101]⟩,.int .i64 m,.string y,.bool false]=W:=⟨_,rfl⟩
 have hWE2:(((((((((((W2.setCell ⟨w.heap.size,0,none⟩ (.string x)).setCell ⟨w.heap.size,1,none⟩ (.string ⟨#[119,101,98]⟩)).setCell ⟨w.heap.size,2,none⟩ (.int .i64 0)).setCell ⟨w.heap.size,3,none⟩ (.slice b1 n1 d1)).setCell ⟨w.heap.size,4,none⟩ (.slice none 0 0)).setCell ⟨w.heap.size,5,none⟩ (.slice none 0 0)).setCell ⟨w.heap.size,6,none⟩ (.slice none 0 0)).setCell ⟨w.heap.size,7,none⟩ (.string ⟨#[122,111,110,101]⟩)).setCell ⟨w.heap.size,8,none⟩ (.int .i64 m)).setCell ⟨w.heap.size,9,none⟩ (.string y)).setCell ⟨w.heap.size,10,none⟩ (.bool false))=WE:=hWE;rw[hWE] at P;try rw[hWE2]
 clear hWE hWE2;obtain⟨PC,hsz9,hbl,hkp⟩:=P.out;refine bodyPost_ret (by simp[results,Tryz.results23,go_sem,PC.at_ 0 _ rfl,PC.at_ 1 _ rfl,PC.at_ 2 _ rfl,PC.at_ 3 _ rfl,PC.at_ 4 _ rfl,PC.at_ 5 _ rfl,PC.at_ 6 _ rfl,PC.at_ 7 _ rfl,PC.at_ 8 _ rfl,PC.at_ 9 _ rfl,PC.at_ 10 _ rfl];try rfl) rfl ?_;refine⟨_,_,_,rfl,⟨hx,(by decide:jdT.size≤maxLen),(by decide:Za.size≤maxLen),hy,(by decide:(-9223372036854775808:Int)≤0∧(0:Int)≤9223372036854775807),hm,?_,Reads.nil _,Reads.nil _,Reads.nil _⟩,hkp _ _ (Nat.le_refl _) KW.out⟩;exact HN.out.need.far hsz9 fun b o s e=>hbl b (by have:=HFA.out b o s e;omega)
end Go.Proofs.YtgfoenfaohhjcaaGreat
