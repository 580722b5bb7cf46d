/- What serves all packages,and package by package the contracts of the functions that the law calls. -/
import Derived.Test.YtgfoenfaohhjcabGreatG4
import Derived.Test.YtgfoenfaohhjcabGreatG5
import Derived.Test.YtgfoenfaohhjcabGreatG8
import Derived.Test.YtgfoenfaohhjcabGreatG9
set_option linter.unusedVariables false
set_option maxRecDepth 100000
set_option maxHeartbeats 25600000
namespace Go.Proofs.YtgfoenfaohhjcabGreat
open Go.RowKit
def ftA:Nod:=qA ⟨#[97]⟩ 5
def ftB:Nod:={ qA ⟨#[98]⟩ 9 with cordon:=true }
def ftC:Nod:={ qA ⟨#[99]⟩ 9 with taints:=[(⟨#[103,112,117]⟩,⟨#[121,101,115]⟩,true)] }
def ftD:Nod:=qA ⟨#[100]⟩ 9
def ftX:Pd:=XL ⟨#[120]⟩ 3 ⟨#[97]⟩
def ftY:Pd:=XL ⟨#[121]⟩ 3 ⟨#[]⟩
def ftQ:Pd:={ XL ⟨#[121]⟩ 3 ⟨#[]⟩ with sel:=[(3,⟨#[122,111,110,101]⟩,⟨#[]⟩)] }
def ftR:Pd:={ XL ⟨#[121]⟩ 3 ⟨#[]⟩ with owner:=⟨#[119,101,98]⟩,key:=⟨#[122,111,110,101]⟩,most:=1 }
def ftZ:Pd:=XL ⟨#[120]⟩ 5 ⟨#[97]⟩
def ftS:Clu:=⟨[ftA,ftB,ftC,ftD],[ftX],[]⟩
theorem jgK:ZO ftS ftY ftS.nodes=[7,8,9,0]:=by kernel_rfl
theorem jga:Zl ftS ftY ftS.nodes=[⟨#[100]⟩]:=by kernel_rfl
theorem jgU:Jb ftS ftY ⟨#[122]⟩=3:=by kernel_rfl
theorem jgP:Jb ftS ftQ ⟨#[100]⟩=8:=by kernel_rfl
theorem jgA:Jb ftS ftR ⟨#[100]⟩=10:=by kernel_rfl
theorem jgy:Jb ftS ftZ ⟨#[97]⟩=0:=by kernel_rfl
theorem Z7:zn ftS:=⟨fun n hn=>by
 unfold ftS at hn;simp only[List.mem_cons,List.not_mem_nil,or_false] at hn;rcases hn with rfl | rfl | rfl | rfl<;>exact⟨(by decide:(1:Nat)≤1000000),(by decide:(0:Nat)≤1000000),(by decide)⟩,
 fun n hn=>by
  unfold ftS at hn;obtain rfl:=List.mem_singleton.1 hn;exact⟨(by decide:(1:Nat)≤1000000),(by decide:(0:Nat)≤1000000),(by decide:(0:Nat)≤1000000),(by decide:(0:Nat)≤1000000)⟩,(fun n h=>by cases h),(by decide:(4:Nat)≤100000),(by decide:(1:Nat)≤100000),(by decide:(0:Nat)≤100000)⟩
theorem jdJ {W:World} {b:Nat} {x y:ByteArray} {m:Bool} (h:je b [.string x,.string y,.bool m] W) (hx:x.size≤maxLen) (hy:y.size≤maxLen):Reads ju W (.slice (some ⟨b,0,none⟩) 1 1) [(x,y,m)]:=by
 refine⟨_,1,rfl,(by decide:(1:Nat)≤1),(by decide:(1:Nat)≤maxLen),rfl,(by decide:(1:Nat)≤maxLen),fun z hz=>?_,.inr ⟨b,0,rfl,h.lt,fun i z j u hz hu=>?_⟩⟩
 · obtain rfl:z=(x,y,m):=by simpa using hz
   exact⟨hx,hy⟩
 · cases i with
   | zero =>
    cases hz
    match j,hu with
    | 0,hu=>cases hu;exact h.at_ 0 _ rfl
    | 1,hu=>cases hu;exact h.at_ 1 _ rfl
    | 2,hu=>cases hu;exact h.at_ 2 _ rfl
    | j+3,hu=>cases hu
   | succ i=>cases hz
theorem jfq {W:World} {b:Nat} {o:Int} {x y:ByteArray} (h:je b [.int .i64 o,.string x,.string y] W) (ho:-9223372036854775808≤o∧o≤9223372036854775807) (hx:x.size≤maxLen) (hy:y.size≤maxLen):Reads jH W (.slice (some ⟨b,0,none⟩) 1 1) [(o,x,y)]:=by
 refine⟨_,1,rfl,(by decide:(1:Nat)≤1),(by decide:(1:Nat)≤maxLen),rfl,(by decide:(1:Nat)≤maxLen),fun z hz=>?_,.inr ⟨b,0,rfl,h.lt,fun i z j u hz hu=>?_⟩⟩
 · obtain rfl:z=(o,x,y):=by simpa using hz
   exact⟨ho,hx,hy⟩
 · cases i with
   | zero =>
    cases hz
    match j,hu with
    | 0,hu=>cases hu;exact h.at_ 0 _ rfl
    | 1,hu=>cases hu;exact h.at_ 1 _ rfl
    | 2,hu=>cases hu;exact h.at_ 2 _ rfl
    | j+3,hu=>cases hu
   | succ i=>cases hz
theorem ja4 {W:World} {b:Nat} {x:ByteArray} (h:je b [.string x] W) (hx:x.size≤maxLen):Reads j4 W (.slice (some ⟨b,0,none⟩) 1 1) [x]:=by
 refine⟨_,1,rfl,(by decide:(1:Nat)≤1),(by decide:(1:Nat)≤maxLen),rfl,(by decide:(1:Nat)≤maxLen),fun z hz=>?_,.inr ⟨b,0,rfl,h.lt,fun i z j u hz hu=>?_⟩⟩
 · obtain rfl:z=x:=by simpa using hz
   exact hx
 · cases i with
   | zero =>
    cases hz
    match j,hu with
    | 0,hu=>cases hu;exact h.at_ 0 _ rfl
    | j+1,hu=>cases hu
   | succ i=>cases hz
theorem jbQ (w:World):Calls Tryz.prog 7 #[] w (Say (.bool true) w):=by
 go_enter Tryz.func7,Tryz.ntmps7;go_wp2_with fail
 refine(YG ⟨#[97]⟩ 5 (by decide:(-9223372036854775808:Int)≤5∧(5:Int)≤9223372036854775807) (by decide:(1:Nat)≤maxLen) _).mono ?_;rintro e w1 ⟨b1,n1,d1,rfl,ha,k⟩;have K:=lH k;have HA1:=lH ha;clear k ha;go_wp2_with fail
 refine(YG ⟨#[98]⟩ 9 (by decide:(-9223372036854775808:Int)≤9∧(9:Int)≤9223372036854775807) (by decide:(1:Nat)≤maxLen) _).mono ?_;rintro e w2 ⟨b2,n2,d2,rfl,ha,k⟩;have K:=lH (K.out.trans k);have HA1:=lH (HA1.out.kept k);have HA2:=lH ha;clear k ha;go_wp2_with fail
 refine(YG ⟨#[99]⟩ 9 (by decide:(-9223372036854775808:Int)≤9∧(9:Int)≤9223372036854775807) (by decide:(1:Nat)≤maxLen) _).mono ?_;rintro e w3 ⟨b3,n3,d3,rfl,ha,k⟩;have K:=lH (K.out.trans k);have HA1:=lH (HA1.out.kept k);have HA2:=lH (HA2.out.kept k);have HA3:=lH ha;clear k ha;go_wp2_with fail
 refine(YG ⟨#[100]⟩ 9 (by decide:(-9223372036854775808:Int)≤9∧(9:Int)≤9223372036854775807) (by decide:(1:Nat)≤maxLen) _).mono ?_;rintro e w4 ⟨b4,n4,d4,rfl,ha,k⟩;have K:=lH (K.out.trans k);have HA1:=lH (HA1.out.kept k);have HA2:=lH (HA2.out.kept k);have HA3:=lH (HA3.out.kept k);have HA4:=lH ha;clear k ha;have K0:=lH K.out;have HB1:=lH HA1.out;have HB2:=lH HA2.out;have HB3:=lH HA3.out;have HB4:=lH HA4.out;obtain⟨g1,hg1⟩:∃g,w4.heap.size=g:=⟨_,rfl⟩
 obtain⟨z1,hz1⟩:∃W,w4.alloc (.cells #[.string ⟨#[]⟩,.slice none 0 0,.slice none 0 0,.slice none 0 0,.bool false] 65)=W:=⟨_,rfl⟩
 have hs1:z1.heap.size=g1+1:=by rw[←hz1,World.size_alloc,hg1]
 have kz1:Kept w4 z1:=by rw[←hz1];exact ja _ _
 have c1:je g1 [.string ⟨#[]⟩,.slice none 0 0,.slice none 0 0,.slice none 0 0,.bool false] z1:=by
  have c:=jc w4 (.string ⟨#[]⟩) [.slice none 0 0,.slice none 0 0,.slice none 0 0,.bool false] 65 z1 (by rw[hz1];exact Kept.refl _);rw[hg1] at c;exact c
 obtain⟨g2,hg2⟩:∃g,z1.heap.size=g:=⟨_,rfl⟩
 obtain⟨z2,hz2⟩:∃W,z1.alloc (.cells #[.string ⟨#[]⟩,.slice none 0 0,.slice none 0 0,.slice none 0 0,.bool false] 65)=W:=⟨_,rfl⟩
 have hs2:z2.heap.size=g2+1:=by rw[←hz2,World.size_alloc,hg2]
 have kz2:Kept z1 z2:=by rw[←hz2];exact ja _ _
 have c2:je g2 [.string ⟨#[]⟩,.slice none 0 0,.slice none 0 0,.slice none 0 0,.bool false] z2:=by
  have c:=jc z1 (.string ⟨#[]⟩) [.slice none 0 0,.slice none 0 0,.slice none 0 0,.bool false] 65 z2 (by rw[hz2];exact Kept.refl _);rw[hg2] at c;exact c
 obtain⟨g3,hg3⟩:∃g,z2.heap.size=g:=⟨_,rfl⟩
 obtain⟨z3,hz3⟩:∃W,z2.alloc (.cells #[.string ⟨#[]⟩,.slice none 0 0,.slice none 0 0,.slice none 0 0,.bool false] 65)=W:=⟨_,rfl⟩
 have hs3:z3.heap.size=g3+1:=by rw[←hz3,World.size_alloc,hg3]
 have kz3:Kept z2 z3:=by rw[←hz3];exact ja _ _
 have c3:je g3 [.string ⟨#[]⟩,.slice none 0 0,.slice none 0 0,.slice none 0 0,.bool false] z3:=by
  have c:=jc z2 (.string ⟨#[]⟩) [.slice none 0 0,.slice none 0 0,.slice none 0 0,.bool false] 65 z3 (by rw[hz3];exact Kept.refl _);rw[hg3] at c;exact c
 obtain⟨g4,hg4⟩:∃g,z3.heap.size=g:=⟨_,rfl⟩
 obtain⟨z4,hz4⟩:∃W,z3.alloc (.cells #[.string ⟨#[]⟩,.slice none 0 0,.slice none 0 0,.slice none 0 0,.bool false] 65)=W:=⟨_,rfl⟩
 have hs4:z4.heap.size=g4+1:=by rw[←hz4,World.size_alloc,hg4]
 have kz4:Kept z3 z4:=by rw[←hz4];exact ja _ _
 have c4:je g4 [.string ⟨#[]⟩,.slice none 0 0,.slice none 0 0,.slice none 0 0,.bool false] z4:=by
  have c:=jc z3 (.string ⟨#[]⟩) [.slice none 0 0,.slice none 0 0,.slice none 0 0,.bool false] 65 z4 (by rw[hz4];exact Kept.refl _);rw[hg4] at c;exact c
 have c1:=c1.kept (kz2.trans (kz3.trans kz4));have c2:=c2.kept (kz3.trans kz4);have c3:=c3.kept kz4;have hgl:w4.heap.size=g1∧g2=g1+1∧g3=g1+2∧g4=g1+3:=⟨hg1,by omega,by omega,by omega⟩
 have HGL:=lH hgl;have KZ:=lH ((kz1.trans kz2).trans (kz3.trans kz4));have e12:¬g1=g2:=by omega
 have e13:¬g1=g3:=by omega
 have e14:¬g1=g4:=by omega
 have e21:¬g2=g1:=by omega
 have e23:¬g2=g3:=by omega
 have e24:¬g2=g4:=by omega
 have e31:¬g3=g1:=by omega
 have e32:¬g3=g2:=by omega
 have e34:¬g3=g4:=by omega
 have e41:¬g4=g1:=by omega
 have e42:¬g4=g2:=by omega
 have e43:¬g4=g3:=by omega
 clear hgl hs1 hs2 hs3 hs4 kz1 kz2 kz3 kz4;have u10:=c1.at_ 0 _ rfl;have u11:=c1.at_ 1 _ rfl;have u12:=c1.at_ 2 _ rfl;have u13:=c1.at_ 3 _ rfl;have u14:=c1.at_ 4 _ rfl;have f10:=c1.free 0;have f11:=c1.free 1;have f12:=c1.free 2;have f13:=c1.free 3;have f14:=c1.free 4;obtain⟨v1,hv1⟩:∃W,z4.setCells g1 0 [.string ⟨#[97]⟩,.slice b1 n1 d1,.slice none 0 0,.slice none 0 0,.bool false]=W:=⟨_,rfl⟩
 have hn1:(((((z4.setCell ⟨g1,0,none⟩ (.string ⟨#[97]⟩)).setCell ⟨g1,1,none⟩ (.slice b1 n1 d1)).setCell ⟨g1,2,none⟩ (.slice none 0 0)).setCell ⟨g1,3,none⟩ (.slice none 0 0)).setCell ⟨g1,4,none⟩ (.bool false))=v1:=hv1;have p1:=zp (vs:=[.string ⟨#[97]⟩,.slice b1 n1 d1,.slice none 0 0,.slice none 0 0,.bool false]) c1 rfl;rw[hv1] at p1;obtain⟨c1,-,hb1,hk1⟩:=p1;have c2:=c2.block (hb1 g2 e21);have c3:=c3.block (hb1 g3 e31);have c4:=c4.block (hb1 g4 e41);have KZ:=lH (hk1 _ _ (by have:=HGL.out;omega) KZ.out);clear hv1 hb1 hk1;have u20:=c2.at_ 0 _ rfl;have u21:=c2.at_ 1 _ rfl;have u22:=c2.at_ 2 _ rfl;have u23:=c2.at_ 3 _ rfl;have u24:=c2.at_ 4 _ rfl;have f20:=c2.free 0;have f21:=c2.free 1;have f22:=c2.free 2;have f23:=c2.free 3;have f24:=c2.free 4;obtain⟨v2,hv2⟩:∃W,v1.setCells g2 0 [.string ⟨#[98]⟩,.slice b2 n2 d2,.slice none 0 0,.slice none 0 0,.bool false]=W:=⟨_,rfl⟩
 have hn2:(((((v1.setCell ⟨g2,0,none⟩ (.string ⟨#[98]⟩)).setCell ⟨g2,1,none⟩ (.slice b2 n2 d2)).setCell ⟨g2,2,none⟩ (.slice none 0 0)).setCell ⟨g2,3,none⟩ (.slice none 0 0)).setCell ⟨g2,4,none⟩ (.bool false))=v2:=hv2;have p2:=zp (vs:=[.string ⟨#[98]⟩,.slice b2 n2 d2,.slice none 0 0,.slice none 0 0,.bool false]) c2 rfl;rw[hv2] at p2;obtain⟨c2,-,hb2,hk2⟩:=p2;have c1:=c1.block (hb2 g1 e12);have c3:=c3.block (hb2 g3 e32);have c4:=c4.block (hb2 g4 e42);have KZ:=lH (hk2 _ _ (by have:=HGL.out;omega) KZ.out);clear hv2 hb2 hk2;have u30:=c3.at_ 0 _ rfl;have u31:=c3.at_ 1 _ rfl;have u32:=c3.at_ 2 _ rfl;have u33:=c3.at_ 3 _ rfl;have u34:=c3.at_ 4 _ rfl;have f30:=c3.free 0;have f31:=c3.free 1;have f32:=c3.free 2;have f33:=c3.free 3;have f34:=c3.free 4;obtain⟨v3,hv3⟩:∃W,v2.setCells g3 0 [.string ⟨#[99]⟩,.slice b3 n3 d3,.slice none 0 0,.slice none 0 0,.bool false]=W:=⟨_,rfl⟩
 have hn3:(((((v2.setCell ⟨g3,0,none⟩ (.string ⟨#[99]⟩)).setCell ⟨g3,1,none⟩ (.slice b3 n3 d3)).setCell ⟨g3,2,none⟩ (.slice none 0 0)).setCell ⟨g3,3,none⟩ (.slice none 0 0)).setCell ⟨g3,4,none⟩ (.bool false))=v3:=hv3;have p3:=zp (vs:=[.string ⟨#[99]⟩,.slice b3 n3 d3,.slice none 0 0,.slice none 0 0,.bool false]) c3 rfl;rw[hv3] at p3;obtain⟨c3,-,hb3,hk3⟩:=p3;have c1:=c1.block (hb3 g1 e13);have c2:=c2.block (hb3 g2 e23);have c4:=c4.block (hb3 g4 e43);have KZ:=lH (hk3 _ _ (by have:=HGL.out;omega) KZ.out);clear hv3 hb3 hk3;have u40:=c4.at_ 0 _ rfl;have u41:=c4.at_ 1 _ rfl;have u42:=c4.at_ 2 _ rfl;have u43:=c4.at_ 3 _ rfl;have u44:=c4.at_ 4 _ rfl;have f40:=c4.free 0;have f41:=c4.free 1;have f42:=c4.free 2;have f43:=c4.free 3;have f44:=c4.free 4;obtain⟨v4,hv4⟩:∃W,v3.setCells g4 0 [.string ⟨#[100]⟩,.slice b4 n4 d4,.slice none 0 0,.slice none 0 0,.bool false]=W:=⟨_,rfl⟩
 have hn4:(((((v3.setCell ⟨g4,0,none⟩ (.string ⟨#[100]⟩)).setCell ⟨g4,1,none⟩ (.slice b4 n4 d4)).setCell ⟨g4,2,none⟩ (.slice none 0 0)).setCell ⟨g4,3,none⟩ (.slice none 0 0)).setCell ⟨g4,4,none⟩ (.bool false))=v4:=hv4;have p4:=zp (vs:=[.string ⟨#[100]⟩,.slice b4 n4 d4,.slice none 0 0,.slice none 0 0,.bool false]) c4 rfl;rw[hv4] at p4;obtain⟨c4,-,hb4,hk4⟩:=p4;have c1:=c1.block (hb4 g1 e14);have c2:=c2.block (hb4 g2 e24);have c3:=c3.block (hb4 g3 e34);have KZ:=lH (hk4 _ _ (by have:=HGL.out;omega) KZ.out);clear hv4 hb4 hk4;have C1:=lH c1;have C2:=lH c2;have C3:=lH c3;have C4:=lH c4;have HA1:=lH (HA1.out.kept KZ.out);have HA2:=lH (HA2.out.kept KZ.out);have HA3:=lH (HA3.out.kept KZ.out);have HA4:=lH (HA4.out.kept KZ.out);have K:=lH (K.out.trans KZ.out);clear c1 c2 c3 c4;go_upto_region 2 with fail
 try rw[hn1]
 try rw[hn2]
 try rw[hn3]
 try rw[hn4]
 clear hn1 hn2 hn3 hn4 hz1 hz2 hz3 hz4 hg1 hg2 hg3 hg4 u10 f10 u11 f11 u12 f12 u13 f13 u14 f14 u20 f20 u21 f21 u22 f22 u23 f23 u24 f24 u30 f30 u31 f31 u32 f32 u33 f33 u34 f34 u40 f40 u41 f41 u42 f42 u43 f43 u44 f44;have y4:=C2.out.at_ 4 _ rfl;have f4:=C2.out.free 4;obtain⟨v5,hv5⟩:∃W,v4.setCell ⟨g2,4,none⟩ (.bool true)=W:=⟨_,rfl⟩
 have C2:=lH (show je g2 [.string ⟨#[98]⟩,.slice b2 n2 d2,.slice none 0 0,.slice none 0 0,.bool true] v5 by rw[←hv5];exact C2.out.set (j:=4) (u:=.bool true) (by simp));have C1:=lH (show je g1 [.string ⟨#[97]⟩,.slice b1 n1 d1,.slice none 0 0,.slice none 0 0,.bool false] v5 by rw[←hv5];exact C1.out.other e12);have C3:=lH (show je g3 [.string ⟨#[99]⟩,.slice b3 n3 d3,.slice none 0 0,.slice none 0 0,.bool false] v5 by rw[←hv5];exact C3.out.other e32);have C4:=lH (show je g4 [.string ⟨#[100]⟩,.slice b4 n4 d4,.slice none 0 0,.slice none 0 0,.bool false] v5 by rw[←hv5];exact C4.out.other e42);have KB:=lH (show Kept w4 v5 by rw[←hv5];exact KZ.out.setCell (p:=⟨g2,4,none⟩) (by show w4.heap.size≤g2;have:=HGL.out;omega) _);clear KZ;go_upto_region 3 with fail
 try rw[hv5]
 clear hv5 y4 f4;obtain⟨gt,hgt⟩:∃g,v5.heap.size=g:=⟨_,rfl⟩
 have e3t:¬gt=g3:=by have:=C3.out.lt;omega
 obtain⟨v6,hv6⟩:∃W,v5.alloc (.cells #[.string ⟨#[103,112,117]⟩,.string ⟨#[121,101,115]⟩,.bool true] 71)=W:=⟨_,rfl⟩
 have k6:Kept v5 v6:=by rw[←hv6];exact ja _ _
 have ct:je gt [.string ⟨#[103,112,117]⟩,.string ⟨#[121,101,115]⟩,.bool true] v6:=by
  have c:=jc v5 (.string ⟨#[103,112,117]⟩) [.string ⟨#[121,101,115]⟩,.bool true] 71 v6 (by rw[hv6];exact Kept.refl _);rw[hgt] at c;exact c
 have C1:=lH (C1.out.kept k6);have C2:=lH (C2.out.kept k6);have C3:=lH (C3.out.kept k6);have C4:=lH (C4.out.kept k6);have y3:=C3.out.at_ 3 _ rfl;have f3:=C3.out.free 3;obtain⟨v7,hv7⟩:∃W,v6.setCell ⟨g3,3,none⟩ (.slice (some ⟨gt,0,none⟩) 1 1)=W:=⟨_,rfl⟩
 have C3:=lH (show je g3 [.string ⟨#[99]⟩,.slice b3 n3 d3,.slice none 0 0,.slice (some ⟨gt,0,none⟩) 1 1,.bool false] v7 by rw[←hv7];exact C3.out.set (j:=3) (u:=.slice (some ⟨gt,0,none⟩) 1 1) (by simp));have C1:=lH (show je g1 [.string ⟨#[97]⟩,.slice b1 n1 d1,.slice none 0 0,.slice none 0 0,.bool false] v7 by rw[←hv7];exact C1.out.other e13);have C2:=lH (show je g2 [.string ⟨#[98]⟩,.slice b2 n2 d2,.slice none 0 0,.slice none 0 0,.bool true] v7 by rw[←hv7];exact C2.out.other e23);have C4:=lH (show je g4 [.string ⟨#[100]⟩,.slice b4 n4 d4,.slice none 0 0,.slice none 0 0,.bool false] v7 by rw[←hv7];exact C4.out.other e43);have CT:=lH (show je gt [.string ⟨#[103,112,117]⟩,.string ⟨#[121,101,115]⟩,.bool true] v7 by rw[←hv7];exact ct.other e3t);have KC:=lH (show Kept w4 v7 by rw[←hv7];exact(KB.out.trans k6).setCell (p:=⟨g3,3,none⟩) (by show w4.heap.size≤g3;have:=HGL.out;omega) _);clear ct k6 KB;go_upto_region 4 with fail
 try rw[hv6]
 try rw[hgt]
 try rw[hv7]
 clear hv6 hv7 hgt y3 f3 e3t;have H1:=lH (show At3 v7 (ftA,(b1,n1,d1),(none,0,0),(none,0,0)) from HB1.out.kept KC.out);have H2:=lH (show At3 v7 (ftB,(b2,n2,d2),(none,0,0),(none,0,0)) from by have h:=HB2.out.kept KC.out;exact⟨h.size,h.cap,h.labels,h.taints⟩);have H3:=lH (show At3 v7 (ftC,(b3,n3,d3),(none,0,0),(some ⟨gt,0,none⟩,1,1)) from by have h:=HB3.out.kept KC.out;exact⟨h.size,h.cap,h.labels,jdJ CT.out (by decide:(3:Nat)≤maxLen) (by decide:(3:Nat)≤maxLen)⟩);have H4:=lH (show At3 v7 (ftD,(b4,n4,d4),(none,0,0),(none,0,0)) from HB4.out.kept KC.out);have K:=lH (K0.out.trans KC.out);clear HB1 HB2 HB3 HB4 HA1 HA2 HA3 HA4 KC CT;have HS:=lH (show ∀W,Kept v7 W→W.cell? ⟨g1,0,none⟩=some (.string ⟨#[97]⟩)∧W.cell? ⟨g1,1,none⟩=some (.slice b1 n1 d1)∧W.cell? ⟨g1,2,none⟩=some (.slice none 0 0)∧W.cell? ⟨g1,3,none⟩=some (.slice none 0 0)∧W.cell? ⟨g1,4,none⟩=some (.bool false)∧W.cell? ⟨g2,0,none⟩=some (.string ⟨#[98]⟩)∧W.cell? ⟨g2,1,none⟩=some (.slice b2 n2 d2)∧W.cell? ⟨g2,2,none⟩=some (.slice none 0 0)∧W.cell? ⟨g2,3,none⟩=some (.slice none 0 0)∧W.cell? ⟨g2,4,none⟩=some (.bool true)∧W.cell? ⟨g3,0,none⟩=some (.string ⟨#[99]⟩)∧W.cell? ⟨g3,1,none⟩=some (.slice b3 n3 d3)∧W.cell? ⟨g3,2,none⟩=some (.slice none 0 0)∧W.cell? ⟨g3,3,none⟩=some (.slice (some ⟨gt,0,none⟩) 1 1)∧W.cell? ⟨g3,4,none⟩=some (.bool false)∧W.cell? ⟨g4,0,none⟩=some (.string ⟨#[100]⟩)∧W.cell? ⟨g4,1,none⟩=some (.slice b4 n4 d4)∧W.cell? ⟨g4,2,none⟩=some (.slice none 0 0)∧W.cell? ⟨g4,3,none⟩=some (.slice none 0 0)∧W.cell? ⟨g4,4,none⟩=some (.bool false) from fun W k=>by
  have q1:=C1.out.kept k;have q2:=C2.out.kept k;have q3:=C3.out.kept k;have q4:=C4.out.kept k;exact⟨q1.at_ 0 _ rfl,q1.at_ 1 _ rfl,q1.at_ 2 _ rfl,q1.at_ 3 _ rfl,q1.at_ 4 _ rfl,q2.at_ 0 _ rfl,q2.at_ 1 _ rfl,q2.at_ 2 _ rfl,q2.at_ 3 _ rfl,q2.at_ 4 _ rfl,q3.at_ 0 _ rfl,q3.at_ 1 _ rfl,q3.at_ 2 _ rfl,q3.at_ 3 _ rfl,q3.at_ 4 _ rfl,q4.at_ 0 _ rfl,q4.at_ 1 _ rfl,q4.at_ 2 _ rfl,q4.at_ 3 _ rfl,q4.at_ 4 _ rfl⟩)
 go_cut [5] from 18 to 25 (fun s5 wx=>∃q x1 x2,s5=.pointer (some ⟨q,0,none⟩)∧Hid (je q [.slice (some ⟨x1,0,none⟩) 4 4,.slice (some ⟨x2,0,none⟩) 1 1,.slice none 0 0] wx∧jP wx (.agg #[.slice (some ⟨x1,0,none⟩) 4 4,.slice (some ⟨x2,0,none⟩) 1 1,.slice none 0 0]) ftS∧Kept v7 wx))
 case first =>
  refine wp_region_held_drew (S:=fun W=>W.cell? ⟨g1,0,none⟩=some (.string ⟨#[97]⟩)∧W.cell? ⟨g1,1,none⟩=some (.slice b1 n1 d1)∧W.cell? ⟨g1,2,none⟩=some (.slice none 0 0)∧W.cell? ⟨g1,3,none⟩=some (.slice none 0 0)∧W.cell? ⟨g1,4,none⟩=some (.bool false)∧W.cell? ⟨g2,0,none⟩=some (.string ⟨#[98]⟩)∧W.cell? ⟨g2,1,none⟩=some (.slice b2 n2 d2)∧W.cell? ⟨g2,2,none⟩=some (.slice none 0 0)∧W.cell? ⟨g2,3,none⟩=some (.slice none 0 0)∧W.cell? ⟨g2,4,none⟩=some (.bool true)∧W.cell? ⟨g3,0,none⟩=some (.string ⟨#[99]⟩)∧W.cell? ⟨g3,1,none⟩=some (.slice b3 n3 d3)∧W.cell? ⟨g3,2,none⟩=some (.slice none 0 0)∧W.cell? ⟨g3,3,none⟩=some (.slice (some ⟨gt,0,none⟩) 1 1)∧W.cell? ⟨g3,4,none⟩=some (.bool false)∧W.cell? ⟨g4,0,none⟩=some (.string ⟨#[100]⟩)∧W.cell? ⟨g4,1,none⟩=some (.slice b4 n4 d4)∧W.cell? ⟨g4,2,none⟩=some (.slice none 0 0)∧W.cell? ⟨g4,3,none⟩=some (.slice none 0 0)∧W.cell? ⟨g4,4,none⟩=some (.bool false)) (by kernel_rfl) (HS.out _ (Kept.drew v7)) (fun hHeld=>?_);refine tkI 0 ?_;refine tkI 1 ?_;refine tkI 2 ?_;refine tkI 3 ?_;try simp only[nP]
  have J:=lH (Kept.drew v7);obtain⟨wq,hwq⟩:∃W,v7.drew=W:=⟨_,rfl⟩
  rw[hwq] at hHeld J;try rw[hwq]
  have H1:=lH (H1.out.kept (show Kept v7 wq from J.out));have H2:=lH (H2.out.kept (show Kept v7 wq from J.out));have H3:=lH (H3.out.kept (show Kept v7 wq from J.out));have H4:=lH (H4.out.kept (show Kept v7 wq from J.out));clear hwq;refine rdH (rs:=[4,5,8]) (h:=coH (fun K9 hK9=>?_) (coH (fun K9 hK9=>?_) (coH (fun K9 hK9=>?_) AllReadyH.nil)))
  · go_simp;refine hK9.out _ _ (HS.out _ (J.out.trans (ja _ _))) (fun hHeld51=>?_);clear hK9 K9;try simp only[nP]
    obtain⟨wb,hw⟩:∃W,wq.alloc (.cells #[.string ⟨#[97]⟩,.slice b1 n1 d1,.slice none 0 0,.slice none 0 0,.bool false,.string ⟨#[98]⟩,.slice b2 n2 d2,.slice none 0 0,.slice none 0 0,.bool true,.string ⟨#[99]⟩,.slice b3 n3 d3,.slice none 0 0,.slice (some ⟨gt,0,none⟩) 1 1,.bool false,.string ⟨#[100]⟩,.slice b4 n4 d4,.slice none 0 0,.slice none 0 0,.bool false] 65)=W:=⟨_,rfl⟩
    have kk:Kept wq wb:=by rw[←hw];exact ja _ _
    obtain⟨gB,hgB⟩:∃g,wq.heap.size=g:=⟨_,rfl⟩
    have HRN0:=lH (show jt wb (some ⟨gB,0,none⟩) 4 ftS.nodes from by
     have c:=jc wq (.string ⟨#[97]⟩) [.slice b1 n1 d1,.slice none 0 0,.slice none 0 0,.bool false,.string ⟨#[98]⟩,.slice b2 n2 d2,.slice none 0 0,.slice none 0 0,.bool true,.string ⟨#[99]⟩,.slice b3 n3 d3,.slice none 0 0,.slice (some ⟨gt,0,none⟩) 1 1,.bool false,.string ⟨#[100]⟩,.slice b4 n4 d4,.slice none 0 0,.slice none 0 0,.bool false] 65 wb (by rw[hw];exact Kept.refl _);rw[hgB] at c;exact zO (lx:=[(ftA,(b1,n1,d1),(none,0,0),(none,0,0)),(ftB,(b2,n2,d2),(none,0,0),(none,0,0)),(ftC,(b3,n3,d3),(none,0,0),(some ⟨gt,0,none⟩,1,1)),(ftD,(b4,n4,d4),(none,0,0),(none,0,0))]) (jO rfl c (fun _ _=>trivial) (by decide:(4:Nat)≤maxLen)) (fun z hz=>by
      rcases List.mem_cons.1 hz with rfl | hz
      · exact H1.out.kept kk
      rcases List.mem_cons.1 hz with rfl | hz
      · exact H2.out.kept kk
      rcases List.mem_cons.1 hz with rfl | hz
      · exact H3.out.kept kk
      obtain rfl:=List.mem_singleton.1 hz;exact H4.out.kept kk))
    have H1:=lH (H1.out.kept kk);have H2:=lH (H2.out.kept kk);have H3:=lH (H3.out.kept kk);have H4:=lH (H4.out.kept kk);have J:=lH (J.out.trans kk);have HRN:=lH HRN0.out;try rw[hw]
    try rw[hgB]
    clear hw kk HRN0 hgB H1 H2 H3 H4;have hHeldE0:=HS.out _ J.out;refine rdH (rs:=[5,8]) (h:=coH (fun K9 hK9=>?_) (coH (fun K9 hK9=>?_) AllReadyH.nil))
    · go_simp;refine(Jy ⟨#[120]⟩ 3 ⟨#[97]⟩ (by decide:(-9223372036854775808:Int)≤3∧(3:Int)≤9223372036854775807) (by decide:(1:Nat)≤maxLen) (by decide:(1:Nat)≤maxLen) _).mono ?_;rintro e wp ⟨p1,q1,r1,rfl,ha,kk⟩;have HRN:=lH (HRN.out.kept kk);have J:=lH (J.out.trans kk);have HP1:=lH ha;clear ha kk;refine hK9.out _ _ (HS.out _ J.out) (fun hHeld52=>?_);clear hK9 K9;try simp only[nP]
      refine rdH (rs:=[6,8]) (h:=coH (fun K9 hK9=>?_) (coH (fun K9 hK9=>?_) AllReadyH.nil))
      · go_simp;refine hK9.out _ _ (HS.out _ (J.out.trans (ja _ _))) (fun hHeld53=>?_);clear hK9 K9;try simp only[nP]
        obtain⟨ws,hw⟩:∃W,wp.alloc (.cells #[.string ⟨#[120]⟩,.string ⟨#[]⟩,.int .i64 0,.slice p1 q1 r1,.slice none 0 0,.slice none 0 0,.slice none 0 0,.string ⟨#[]⟩,.int .i64 0,.string ⟨#[97]⟩,.bool false] 35)=W:=⟨_,rfl⟩
        have kk:Kept wp ws:=by rw[←hw];exact ja _ _
        obtain⟨gS,hgS⟩:∃g,wp.heap.size=g:=⟨_,rfl⟩
        have HRP0:=lH (show jE ws (some ⟨gS,0,none⟩) 1 ftS.pods from by
         have c:=jc wp (.string ⟨#[120]⟩) [.string ⟨#[]⟩,.int .i64 0,.slice p1 q1 r1,.slice none 0 0,.slice none 0 0,.slice none 0 0,.string ⟨#[]⟩,.int .i64 0,.string ⟨#[97]⟩,.bool false] 35 ws (by rw[hw];exact Kept.refl _);rw[hgS] at c;exact zJ (lx:=[(ftX,(p1,q1,r1),(none,0,0),(none,0,0),(none,0,0))]) (jO rfl c (fun _ _=>trivial) (by decide:(1:Nat)≤maxLen)) (fun z hz=>by
          obtain rfl:=List.mem_singleton.1 hz;exact HP1.out.kept kk))
        have HRN:=lH (HRN.out.kept kk);have HP1:=lH (HP1.out.kept kk);have J:=lH (J.out.trans kk);have HRP:=lH HRP0.out;try rw[hw]
        try rw[hgS]
        clear hw kk HRP0 hgS HP1;have hHeldE2:=HS.out _ J.out;refine tkI 7 ?_;try simp only[nP]
        refine rd1 8 fun K9 hK9=>?_;go_simp;refine hK9.out _ _ (HS.out _ (J.out.trans (ja _ _))) (fun hHeld54=>?_);clear hK9 K9;try simp only[nP]
        obtain⟨wa,hw⟩:∃W,ws.alloc (.cells #[.slice none 0 0,.slice none 0 0,.slice none 0 0] 26)=W:=⟨_,rfl⟩
        have kk:Kept ws wa:=by rw[←hw];exact ja _ _
        obtain⟨gA,hgA⟩:∃g,ws.heap.size=g:=⟨_,rfl⟩
        have HQB:=lH (show v7.heap.size≤gA by rw[←hgA];exact J.out.size);have hqa:je gA [.slice none 0 0,.slice none 0 0,.slice none 0 0] wa:=by
         have c:=jc ws (.slice none 0 0) [.slice none 0 0,.slice none 0 0] 26 wa (by rw[hw];exact Kept.refl _);rw[hgA] at c;exact c
        have hha:wa.heap[gA]?=some (.cells #[.slice none 0 0,.slice none 0 0,.slice none 0 0] 26):=by rw[←hw,←hgA];exact World.alloc_heap_new ws _
        have HRN:=lH (HRN.out.kept kk);have HRP:=lH (HRP.out.kept kk);have J:=lH (J.out.trans kk);have HQA:=lH hqa;have HHA:=lH hha;have HQA0:=lH hqa.lt;try rw[hw]
        try rw[hgA]
        clear hw kk hqa hha hgA;have hHeldE3:=HS.out _ J.out;have z0:=HQA.out.at_ 0 _ rfl;have z1:=HQA.out.at_ 1 _ rfl;have z2:=HQA.out.at_ 2 _ rfl;have f0:=HQA.out.free 0;have f1:=HQA.out.free 1;have f2:=HQA.out.free 2;have PP:=lH (zp (vs:=[.slice (some ⟨gB,0,none⟩) 4 4,.slice (some ⟨gS,0,none⟩) 1 1,.slice none 0 0]) HQA.out rfl);refine rd1 9 fun K9 hK9=>?_;go_simp;obtain⟨WE,hWE⟩:∃W,wa.setCells gA 0 [.slice (some ⟨gB,0,none⟩) 4 4,.slice (some ⟨gS,0,none⟩) 1 1,.slice none 0 0]=W:=⟨_,rfl⟩
        have hWE2:(((wa.setCell ⟨gA,0,none⟩ (.slice (some ⟨gB,0,none⟩) 4 4)).setCell ⟨gA,1,none⟩ (.slice (some ⟨gS,0,none⟩) 1 1)).setCell ⟨gA,2,none⟩ (.slice none 0 0))=WE:=hWE;rw[hWE] at PP;try rw[hWE2]
        have RE:=lH (show jP WE (.agg #[.slice (some ⟨gB,0,none⟩) 4 4,.slice (some ⟨gS,0,none⟩) 1 1,.slice none 0 0]) ftS from zv (w:=wa) (N:=gA) PP.out.size PP.out.far (Jd HHA.out) ⟨_,_,_,rfl,⟨⟨_,_,rfl,by decide,by decide,HRN.out⟩,⟨_,_,rfl,by decide,by decide,HRP.out⟩,⟨_,_,rfl,by decide,by decide,zw _⟩⟩⟩);have JE:=lH (show Kept v7 WE by rw[←hWE];exact jA gA _ _ _ _ _ HQB.out J.out);clear hWE hWE2 z0 f0 z1 f1 z2 f2;refine hK9.out _ _ (HS.out _ JE.out) (fun hHeldS=>?_);clear hK9 K9;try simp only[nP]
        refine wpAnyH_done (by kernel_rfl) ?_ _;go_wp2;go_meet
        case rel=>exact⟨gA,gB,gS,rfl,PP.out.cells,RE.out,JE.out⟩
      · go_simp;refine hK9.out _ _ (HS.out _ (J.out.trans (ja _ _))) (fun hHeld55=>?_);clear hK9 K9;try simp only[nP]
        obtain⟨wa,hw⟩:∃W,wp.alloc (.cells #[.slice none 0 0,.slice none 0 0,.slice none 0 0] 26)=W:=⟨_,rfl⟩
        have kk:Kept wp wa:=by rw[←hw];exact ja _ _
        obtain⟨gA,hgA⟩:∃g,wp.heap.size=g:=⟨_,rfl⟩
        have HQB:=lH (show v7.heap.size≤gA by rw[←hgA];exact J.out.size);have hqa:je gA [.slice none 0 0,.slice none 0 0,.slice none 0 0] wa:=by
         have c:=jc wp (.slice none 0 0) [.slice none 0 0,.slice none 0 0] 26 wa (by rw[hw];exact Kept.refl _);rw[hgA] at c;exact c
        have hha:wa.heap[gA]?=some (.cells #[.slice none 0 0,.slice none 0 0,.slice none 0 0] 26):=by rw[←hw,←hgA];exact World.alloc_heap_new wp _
        have HRN:=lH (HRN.out.kept kk);have HP1:=lH (HP1.out.kept kk);have J:=lH (J.out.trans kk);have HQA:=lH hqa;have HHA:=lH hha;have HQA0:=lH hqa.lt;try rw[hw]
        try rw[hgA]
        clear hw kk hqa hha hgA;have hHeldE2:=HS.out _ J.out;refine rd1 6 fun K9 hK9=>?_;go_simp;refine hK9.out _ _ (HS.out _ (J.out.trans (ja _ _))) (fun hHeld56=>?_);clear hK9 K9;try simp only[nP]
        obtain⟨ws,hw⟩:∃W,wa.alloc (.cells #[.string ⟨#[120]⟩,.string ⟨#[]⟩,.int .i64 0,.slice p1 q1 r1,.slice none 0 0,.slice none 0 0,.slice none 0 0,.string ⟨#[]⟩,.int .i64 0,.string ⟨#[97]⟩,.bool false] 35)=W:=⟨_,rfl⟩
        have kk:Kept wa ws:=by rw[←hw];exact ja _ _
        obtain⟨gS,hgS⟩:∃g,wa.heap.size=g:=⟨_,rfl⟩
        have HRP0:=lH (show jE ws (some ⟨gS,0,none⟩) 1 ftS.pods from by
         have c:=jc wa (.string ⟨#[120]⟩) [.string ⟨#[]⟩,.int .i64 0,.slice p1 q1 r1,.slice none 0 0,.slice none 0 0,.slice none 0 0,.string ⟨#[]⟩,.int .i64 0,.string ⟨#[97]⟩,.bool false] 35 ws (by rw[hw];exact Kept.refl _);rw[hgS] at c;exact zJ (lx:=[(ftX,(p1,q1,r1),(none,0,0),(none,0,0),(none,0,0))]) (jO rfl c (fun _ _=>trivial) (by decide:(1:Nat)≤maxLen)) (fun z hz=>by
          obtain rfl:=List.mem_singleton.1 hz;exact HP1.out.kept kk))
        have HRN:=lH (HRN.out.kept kk);have HP1:=lH (HP1.out.kept kk);have HQA:=lH (HQA.out.kept kk);have J:=lH (J.out.trans kk);have HHA:=lH ((kk.block _ HQA0.out).trans HHA.out);have HQA0:=lH (Nat.lt_of_lt_of_le HQA0.out kk.size);have HRP:=lH HRP0.out;try rw[hw]
        try rw[hgS]
        clear hw kk HRP0 hgS HP1;have hHeldE3:=HS.out _ J.out;refine tkI 7 ?_;try simp only[nP]
        have z0:=HQA.out.at_ 0 _ rfl;have z1:=HQA.out.at_ 1 _ rfl;have z2:=HQA.out.at_ 2 _ rfl;have f0:=HQA.out.free 0;have f1:=HQA.out.free 1;have f2:=HQA.out.free 2;have PP:=lH (zp (vs:=[.slice (some ⟨gB,0,none⟩) 4 4,.slice (some ⟨gS,0,none⟩) 1 1,.slice none 0 0]) HQA.out rfl);refine rd1 9 fun K9 hK9=>?_;go_simp;obtain⟨WE,hWE⟩:∃W,ws.setCells gA 0 [.slice (some ⟨gB,0,none⟩) 4 4,.slice (some ⟨gS,0,none⟩) 1 1,.slice none 0 0]=W:=⟨_,rfl⟩
        have hWE2:(((ws.setCell ⟨gA,0,none⟩ (.slice (some ⟨gB,0,none⟩) 4 4)).setCell ⟨gA,1,none⟩ (.slice (some ⟨gS,0,none⟩) 1 1)).setCell ⟨gA,2,none⟩ (.slice none 0 0))=WE:=hWE;rw[hWE] at PP;try rw[hWE2]
        have RE:=lH (show jP WE (.agg #[.slice (some ⟨gB,0,none⟩) 4 4,.slice (some ⟨gS,0,none⟩) 1 1,.slice none 0 0]) ftS from zv (w:=ws) (N:=gA) PP.out.size PP.out.far (Jd HHA.out) ⟨_,_,_,rfl,⟨⟨_,_,rfl,by decide,by decide,HRN.out⟩,⟨_,_,rfl,by decide,by decide,HRP.out⟩,⟨_,_,rfl,by decide,by decide,zw _⟩⟩⟩);have JE:=lH (show Kept v7 WE by rw[←hWE];exact jA gA _ _ _ _ _ HQB.out J.out);clear hWE hWE2 z0 f0 z1 f1 z2 f2;refine hK9.out _ _ (HS.out _ JE.out) (fun hHeldS=>?_);clear hK9 K9;try simp only[nP]
        refine wpAnyH_done (by kernel_rfl) ?_ _;go_wp2;go_meet
        case rel=>exact⟨gA,gB,gS,rfl,PP.out.cells,RE.out,JE.out⟩
    · go_simp;refine hK9.out _ _ (HS.out _ (J.out.trans (ja _ _))) (fun hHeld57=>?_);clear hK9 K9;try simp only[nP]
      obtain⟨wa,hw⟩:∃W,wb.alloc (.cells #[.slice none 0 0,.slice none 0 0,.slice none 0 0] 26)=W:=⟨_,rfl⟩
      have kk:Kept wb wa:=by rw[←hw];exact ja _ _
      obtain⟨gA,hgA⟩:∃g,wb.heap.size=g:=⟨_,rfl⟩
      have HQB:=lH (show v7.heap.size≤gA by rw[←hgA];exact J.out.size);have hqa:je gA [.slice none 0 0,.slice none 0 0,.slice none 0 0] wa:=by
       have c:=jc wb (.slice none 0 0) [.slice none 0 0,.slice none 0 0] 26 wa (by rw[hw];exact Kept.refl _);rw[hgA] at c;exact c
      have hha:wa.heap[gA]?=some (.cells #[.slice none 0 0,.slice none 0 0,.slice none 0 0] 26):=by rw[←hw,←hgA];exact World.alloc_heap_new wb _
      have HRN:=lH (HRN.out.kept kk);have J:=lH (J.out.trans kk);have HQA:=lH hqa;have HHA:=lH hha;have HQA0:=lH hqa.lt;try rw[hw]
      try rw[hgA]
      clear hw kk hqa hha hgA;have hHeldE1:=HS.out _ J.out;refine rd1 5 fun K9 hK9=>?_;go_simp;refine(Jy ⟨#[120]⟩ 3 ⟨#[97]⟩ (by decide:(-9223372036854775808:Int)≤3∧(3:Int)≤9223372036854775807) (by decide:(1:Nat)≤maxLen) (by decide:(1:Nat)≤maxLen) _).mono ?_;rintro e wp ⟨p1,q1,r1,rfl,ha,kk⟩;have HRN:=lH (HRN.out.kept kk);have HQA:=lH (HQA.out.kept kk);have J:=lH (J.out.trans kk);have HHA:=lH ((kk.block _ HQA0.out).trans HHA.out);have HQA0:=lH (Nat.lt_of_lt_of_le HQA0.out kk.size);have HP1:=lH ha;clear ha kk;refine hK9.out _ _ (HS.out _ J.out) (fun hHeld58=>?_);clear hK9 K9;try simp only[nP]
      refine rd1 6 fun K9 hK9=>?_;go_simp;refine hK9.out _ _ (HS.out _ (J.out.trans (ja _ _))) (fun hHeld59=>?_);clear hK9 K9;try simp only[nP]
      obtain⟨ws,hw⟩:∃W,wp.alloc (.cells #[.string ⟨#[120]⟩,.string ⟨#[]⟩,.int .i64 0,.slice p1 q1 r1,.slice none 0 0,.slice none 0 0,.slice none 0 0,.string ⟨#[]⟩,.int .i64 0,.string ⟨#[97]⟩,.bool false] 35)=W:=⟨_,rfl⟩
      have kk:Kept wp ws:=by rw[←hw];exact ja _ _
      obtain⟨gS,hgS⟩:∃g,wp.heap.size=g:=⟨_,rfl⟩
      have HRP0:=lH (show jE ws (some ⟨gS,0,none⟩) 1 ftS.pods from by
       have c:=jc wp (.string ⟨#[120]⟩) [.string ⟨#[]⟩,.int .i64 0,.slice p1 q1 r1,.slice none 0 0,.slice none 0 0,.slice none 0 0,.string ⟨#[]⟩,.int .i64 0,.string ⟨#[97]⟩,.bool false] 35 ws (by rw[hw];exact Kept.refl _);rw[hgS] at c;exact zJ (lx:=[(ftX,(p1,q1,r1),(none,0,0),(none,0,0),(none,0,0))]) (jO rfl c (fun _ _=>trivial) (by decide:(1:Nat)≤maxLen)) (fun z hz=>by
        obtain rfl:=List.mem_singleton.1 hz;exact HP1.out.kept kk))
      have HRN:=lH (HRN.out.kept kk);have HP1:=lH (HP1.out.kept kk);have HQA:=lH (HQA.out.kept kk);have J:=lH (J.out.trans kk);have HHA:=lH ((kk.block _ HQA0.out).trans HHA.out);have HQA0:=lH (Nat.lt_of_lt_of_le HQA0.out kk.size);have HRP:=lH HRP0.out;try rw[hw]
      try rw[hgS]
      clear hw kk HRP0 hgS HP1;have hHeldE3:=HS.out _ J.out;refine tkI 7 ?_;try simp only[nP]
      have z0:=HQA.out.at_ 0 _ rfl;have z1:=HQA.out.at_ 1 _ rfl;have z2:=HQA.out.at_ 2 _ rfl;have f0:=HQA.out.free 0;have f1:=HQA.out.free 1;have f2:=HQA.out.free 2;have PP:=lH (zp (vs:=[.slice (some ⟨gB,0,none⟩) 4 4,.slice (some ⟨gS,0,none⟩) 1 1,.slice none 0 0]) HQA.out rfl);refine rd1 9 fun K9 hK9=>?_;go_simp;obtain⟨WE,hWE⟩:∃W,ws.setCells gA 0 [.slice (some ⟨gB,0,none⟩) 4 4,.slice (some ⟨gS,0,none⟩) 1 1,.slice none 0 0]=W:=⟨_,rfl⟩
      have hWE2:(((ws.setCell ⟨gA,0,none⟩ (.slice (some ⟨gB,0,none⟩) 4 4)).setCell ⟨gA,1,none⟩ (.slice (some ⟨gS,0,none⟩) 1 1)).setCell ⟨gA,2,none⟩ (.slice none 0 0))=WE:=hWE;rw[hWE] at PP;try rw[hWE2]
      have RE:=lH (show jP WE (.agg #[.slice (some ⟨gB,0,none⟩) 4 4,.slice (some ⟨gS,0,none⟩) 1 1,.slice none 0 0]) ftS from zv (w:=ws) (N:=gA) PP.out.size PP.out.far (Jd HHA.out) ⟨_,_,_,rfl,⟨⟨_,_,rfl,by decide,by decide,HRN.out⟩,⟨_,_,rfl,by decide,by decide,HRP.out⟩,⟨_,_,rfl,by decide,by decide,zw _⟩⟩⟩);have JE:=lH (show Kept v7 WE by rw[←hWE];exact jA gA _ _ _ _ _ HQB.out J.out);clear hWE hWE2 z0 f0 z1 f1 z2 f2;refine hK9.out _ _ (HS.out _ JE.out) (fun hHeldS=>?_);clear hK9 K9;try simp only[nP]
      refine wpAnyH_done (by kernel_rfl) ?_ _;go_wp2;go_meet
      case rel=>exact⟨gA,gB,gS,rfl,PP.out.cells,RE.out,JE.out⟩
  · go_simp;refine(Jy ⟨#[120]⟩ 3 ⟨#[97]⟩ (by decide:(-9223372036854775808:Int)≤3∧(3:Int)≤9223372036854775807) (by decide:(1:Nat)≤maxLen) (by decide:(1:Nat)≤maxLen) _).mono ?_;rintro e wp ⟨p1,q1,r1,rfl,ha,kk⟩;have H1:=lH (H1.out.kept kk);have H2:=lH (H2.out.kept kk);have H3:=lH (H3.out.kept kk);have H4:=lH (H4.out.kept kk);have J:=lH (J.out.trans kk);have HP1:=lH ha;clear ha kk;refine hK9.out _ _ (HS.out _ J.out) (fun hHeld60=>?_);clear hK9 K9;try simp only[nP]
    refine rdH (rs:=[4,6,8]) (h:=coH (fun K9 hK9=>?_) (coH (fun K9 hK9=>?_) (coH (fun K9 hK9=>?_) AllReadyH.nil)))
    · go_simp;refine hK9.out _ _ (HS.out _ (J.out.trans (ja _ _))) (fun hHeld61=>?_);clear hK9 K9;try simp only[nP]
      obtain⟨wb,hw⟩:∃W,wp.alloc (.cells #[.string ⟨#[97]⟩,.slice b1 n1 d1,.slice none 0 0,.slice none 0 0,.bool false,.string ⟨#[98]⟩,.slice b2 n2 d2,.slice none 0 0,.slice none 0 0,.bool true,.string ⟨#[99]⟩,.slice b3 n3 d3,.slice none 0 0,.slice (some ⟨gt,0,none⟩) 1 1,.bool false,.string ⟨#[100]⟩,.slice b4 n4 d4,.slice none 0 0,.slice none 0 0,.bool false] 65)=W:=⟨_,rfl⟩
      have kk:Kept wp wb:=by rw[←hw];exact ja _ _
      obtain⟨gB,hgB⟩:∃g,wp.heap.size=g:=⟨_,rfl⟩
      have HRN0:=lH (show jt wb (some ⟨gB,0,none⟩) 4 ftS.nodes from by
       have c:=jc wp (.string ⟨#[97]⟩) [.slice b1 n1 d1,.slice none 0 0,.slice none 0 0,.bool false,.string ⟨#[98]⟩,.slice b2 n2 d2,.slice none 0 0,.slice none 0 0,.bool true,.string ⟨#[99]⟩,.slice b3 n3 d3,.slice none 0 0,.slice (some ⟨gt,0,none⟩) 1 1,.bool false,.string ⟨#[100]⟩,.slice b4 n4 d4,.slice none 0 0,.slice none 0 0,.bool false] 65 wb (by rw[hw];exact Kept.refl _);rw[hgB] at c;exact zO (lx:=[(ftA,(b1,n1,d1),(none,0,0),(none,0,0)),(ftB,(b2,n2,d2),(none,0,0),(none,0,0)),(ftC,(b3,n3,d3),(none,0,0),(some ⟨gt,0,none⟩,1,1)),(ftD,(b4,n4,d4),(none,0,0),(none,0,0))]) (jO rfl c (fun _ _=>trivial) (by decide:(4:Nat)≤maxLen)) (fun z hz=>by
        rcases List.mem_cons.1 hz with rfl | hz
        · exact H1.out.kept kk
        rcases List.mem_cons.1 hz with rfl | hz
        · exact H2.out.kept kk
        rcases List.mem_cons.1 hz with rfl | hz
        · exact H3.out.kept kk
        obtain rfl:=List.mem_singleton.1 hz;exact H4.out.kept kk))
      have H1:=lH (H1.out.kept kk);have H2:=lH (H2.out.kept kk);have H3:=lH (H3.out.kept kk);have H4:=lH (H4.out.kept kk);have HP1:=lH (HP1.out.kept kk);have J:=lH (J.out.trans kk);have HRN:=lH HRN0.out;try rw[hw]
      try rw[hgB]
      clear hw kk HRN0 hgB H1 H2 H3 H4;have hHeldE1:=HS.out _ J.out;refine rdH (rs:=[6,8]) (h:=coH (fun K9 hK9=>?_) (coH (fun K9 hK9=>?_) AllReadyH.nil))
      · go_simp;refine hK9.out _ _ (HS.out _ (J.out.trans (ja _ _))) (fun hHeld62=>?_);clear hK9 K9;try simp only[nP]
        obtain⟨ws,hw⟩:∃W,wb.alloc (.cells #[.string ⟨#[120]⟩,.string ⟨#[]⟩,.int .i64 0,.slice p1 q1 r1,.slice none 0 0,.slice none 0 0,.slice none 0 0,.string ⟨#[]⟩,.int .i64 0,.string ⟨#[97]⟩,.bool false] 35)=W:=⟨_,rfl⟩
        have kk:Kept wb ws:=by rw[←hw];exact ja _ _
        obtain⟨gS,hgS⟩:∃g,wb.heap.size=g:=⟨_,rfl⟩
        have HRP0:=lH (show jE ws (some ⟨gS,0,none⟩) 1 ftS.pods from by
         have c:=jc wb (.string ⟨#[120]⟩) [.string ⟨#[]⟩,.int .i64 0,.slice p1 q1 r1,.slice none 0 0,.slice none 0 0,.slice none 0 0,.string ⟨#[]⟩,.int .i64 0,.string ⟨#[97]⟩,.bool false] 35 ws (by rw[hw];exact Kept.refl _);rw[hgS] at c;exact zJ (lx:=[(ftX,(p1,q1,r1),(none,0,0),(none,0,0),(none,0,0))]) (jO rfl c (fun _ _=>trivial) (by decide:(1:Nat)≤maxLen)) (fun z hz=>by
          obtain rfl:=List.mem_singleton.1 hz;exact HP1.out.kept kk))
        have HRN:=lH (HRN.out.kept kk);have HP1:=lH (HP1.out.kept kk);have J:=lH (J.out.trans kk);have HRP:=lH HRP0.out;try rw[hw]
        try rw[hgS]
        clear hw kk HRP0 hgS HP1;have hHeldE2:=HS.out _ J.out;refine tkI 7 ?_;try simp only[nP]
        refine rd1 8 fun K9 hK9=>?_;go_simp;refine hK9.out _ _ (HS.out _ (J.out.trans (ja _ _))) (fun hHeld63=>?_);clear hK9 K9;try simp only[nP]
        obtain⟨wa,hw⟩:∃W,ws.alloc (.cells #[.slice none 0 0,.slice none 0 0,.slice none 0 0] 26)=W:=⟨_,rfl⟩
        have kk:Kept ws wa:=by rw[←hw];exact ja _ _
        obtain⟨gA,hgA⟩:∃g,ws.heap.size=g:=⟨_,rfl⟩
        have HQB:=lH (show v7.heap.size≤gA by rw[←hgA];exact J.out.size);have hqa:je gA [.slice none 0 0,.slice none 0 0,.slice none 0 0] wa:=by
         have c:=jc ws (.slice none 0 0) [.slice none 0 0,.slice none 0 0] 26 wa (by rw[hw];exact Kept.refl _);rw[hgA] at c;exact c
        have hha:wa.heap[gA]?=some (.cells #[.slice none 0 0,.slice none 0 0,.slice none 0 0] 26):=by rw[←hw,←hgA];exact World.alloc_heap_new ws _
        have HRN:=lH (HRN.out.kept kk);have HRP:=lH (HRP.out.kept kk);have J:=lH (J.out.trans kk);have HQA:=lH hqa;have HHA:=lH hha;have HQA0:=lH hqa.lt;try rw[hw]
        try rw[hgA]
        clear hw kk hqa hha hgA;have hHeldE3:=HS.out _ J.out;have z0:=HQA.out.at_ 0 _ rfl;have z1:=HQA.out.at_ 1 _ rfl;have z2:=HQA.out.at_ 2 _ rfl;have f0:=HQA.out.free 0;have f1:=HQA.out.free 1;have f2:=HQA.out.free 2;have PP:=lH (zp (vs:=[.slice (some ⟨gB,0,none⟩) 4 4,.slice (some ⟨gS,0,none⟩) 1 1,.slice none 0 0]) HQA.out rfl);refine rd1 9 fun K9 hK9=>?_;go_simp;obtain⟨WE,hWE⟩:∃W,wa.setCells gA 0 [.slice (some ⟨gB,0,none⟩) 4 4,.slice (some ⟨gS,0,none⟩) 1 1,.slice none 0 0]=W:=⟨_,rfl⟩
        have hWE2:(((wa.setCell ⟨gA,0,none⟩ (.slice (some ⟨gB,0,none⟩) 4 4)).setCell ⟨gA,1,none⟩ (.slice (some ⟨gS,0,none⟩) 1 1)).setCell ⟨gA,2,none⟩ (.slice none 0 0))=WE:=hWE;rw[hWE] at PP;try rw[hWE2]
        have RE:=lH (show jP WE (.agg #[.slice (some ⟨gB,0,none⟩) 4 4,.slice (some ⟨gS,0,none⟩) 1 1,.slice none 0 0]) ftS from zv (w:=wa) (N:=gA) PP.out.size PP.out.far (Jd HHA.out) ⟨_,_,_,rfl,⟨⟨_,_,rfl,by decide,by decide,HRN.out⟩,⟨_,_,rfl,by decide,by decide,HRP.out⟩,⟨_,_,rfl,by decide,by decide,zw _⟩⟩⟩);have JE:=lH (show Kept v7 WE by rw[←hWE];exact jA gA _ _ _ _ _ HQB.out J.out);clear hWE hWE2 z0 f0 z1 f1 z2 f2;refine hK9.out _ _ (HS.out _ JE.out) (fun hHeldS=>?_);clear hK9 K9;try simp only[nP]
        refine wpAnyH_done (by kernel_rfl) ?_ _;go_wp2;go_meet
        case rel=>exact⟨gA,gB,gS,rfl,PP.out.cells,RE.out,JE.out⟩
      · go_simp;refine hK9.out _ _ (HS.out _ (J.out.trans (ja _ _))) (fun hHeld64=>?_);clear hK9 K9;try simp only[nP]
        obtain⟨wa,hw⟩:∃W,wb.alloc (.cells #[.slice none 0 0,.slice none 0 0,.slice none 0 0] 26)=W:=⟨_,rfl⟩
        have kk:Kept wb wa:=by rw[←hw];exact ja _ _
        obtain⟨gA,hgA⟩:∃g,wb.heap.size=g:=⟨_,rfl⟩
        have HQB:=lH (show v7.heap.size≤gA by rw[←hgA];exact J.out.size);have hqa:je gA [.slice none 0 0,.slice none 0 0,.slice none 0 0] wa:=by
         have c:=jc wb (.slice none 0 0) [.slice none 0 0,.slice none 0 0] 26 wa (by rw[hw];exact Kept.refl _);rw[hgA] at c;exact c
        have hha:wa.heap[gA]?=some (.cells #[.slice none 0 0,.slice none 0 0,.slice none 0 0] 26):=by rw[←hw,←hgA];exact World.alloc_heap_new wb _
        have HRN:=lH (HRN.out.kept kk);have HP1:=lH (HP1.out.kept kk);have J:=lH (J.out.trans kk);have HQA:=lH hqa;have HHA:=lH hha;have HQA0:=lH hqa.lt;try rw[hw]
        try rw[hgA]
        clear hw kk hqa hha hgA;have hHeldE2:=HS.out _ J.out;refine rd1 6 fun K9 hK9=>?_;go_simp;refine hK9.out _ _ (HS.out _ (J.out.trans (ja _ _))) (fun hHeld65=>?_);clear hK9 K9;try simp only[nP]
        obtain⟨ws,hw⟩:∃W,wa.alloc (.cells #[.string ⟨#[120]⟩,.string ⟨#[]⟩,.int .i64 0,.slice p1 q1 r1,.slice none 0 0,.slice none 0 0,.slice none 0 0,.string ⟨#[]⟩,.int .i64 0,.string ⟨#[97]⟩,.bool false] 35)=W:=⟨_,rfl⟩
        have kk:Kept wa ws:=by rw[←hw];exact ja _ _
        obtain⟨gS,hgS⟩:∃g,wa.heap.size=g:=⟨_,rfl⟩
        have HRP0:=lH (show jE ws (some ⟨gS,0,none⟩) 1 ftS.pods from by
         have c:=jc wa (.string ⟨#[120]⟩) [.string ⟨#[]⟩,.int .i64 0,.slice p1 q1 r1,.slice none 0 0,.slice none 0 0,.slice none 0 0,.string ⟨#[]⟩,.int .i64 0,.string ⟨#[97]⟩,.bool false] 35 ws (by rw[hw];exact Kept.refl _);rw[hgS] at c;exact zJ (lx:=[(ftX,(p1,q1,r1),(none,0,0),(none,0,0),(none,0,0))]) (jO rfl c (fun _ _=>trivial) (by decide:(1:Nat)≤maxLen)) (fun z hz=>by
          obtain rfl:=List.mem_singleton.1 hz;exact HP1.out.kept kk))
        have HRN:=lH (HRN.out.kept kk);have HP1:=lH (HP1.out.kept kk);have HQA:=lH (HQA.out.kept kk);have J:=lH (J.out.trans kk);have HHA:=lH ((kk.block _ HQA0.out).trans HHA.out);have HQA0:=lH (Nat.lt_of_lt_of_le HQA0.out kk.size);have HRP:=lH HRP0.out;try rw[hw]
        try rw[hgS]
        clear hw kk HRP0 hgS HP1;have hHeldE3:=HS.out _ J.out;refine tkI 7 ?_;try simp only[nP]
        have z0:=HQA.out.at_ 0 _ rfl;have z1:=HQA.out.at_ 1 _ rfl;have z2:=HQA.out.at_ 2 _ rfl;have f0:=HQA.out.free 0;have f1:=HQA.out.free 1;have f2:=HQA.out.free 2;have PP:=lH (zp (vs:=[.slice (some ⟨gB,0,none⟩) 4 4,.slice (some ⟨gS,0,none⟩) 1 1,.slice none 0 0]) HQA.out rfl);refine rd1 9 fun K9 hK9=>?_;go_simp;obtain⟨WE,hWE⟩:∃W,ws.setCells gA 0 [.slice (some ⟨gB,0,none⟩) 4 4,.slice (some ⟨gS,0,none⟩) 1 1,.slice none 0 0]=W:=⟨_,rfl⟩
        have hWE2:(((ws.setCell ⟨gA,0,none⟩ (.slice (some ⟨gB,0,none⟩) 4 4)).setCell ⟨gA,1,none⟩ (.slice (some ⟨gS,0,none⟩) 1 1)).setCell ⟨gA,2,none⟩ (.slice none 0 0))=WE:=hWE;rw[hWE] at PP;try rw[hWE2]
        have RE:=lH (show jP WE (.agg #[.slice (some ⟨gB,0,none⟩) 4 4,.slice (some ⟨gS,0,none⟩) 1 1,.slice none 0 0]) ftS from zv (w:=ws) (N:=gA) PP.out.size PP.out.far (Jd HHA.out) ⟨_,_,_,rfl,⟨⟨_,_,rfl,by decide,by decide,HRN.out⟩,⟨_,_,rfl,by decide,by decide,HRP.out⟩,⟨_,_,rfl,by decide,by decide,zw _⟩⟩⟩);have JE:=lH (show Kept v7 WE by rw[←hWE];exact jA gA _ _ _ _ _ HQB.out J.out);clear hWE hWE2 z0 f0 z1 f1 z2 f2;refine hK9.out _ _ (HS.out _ JE.out) (fun hHeldS=>?_);clear hK9 K9;try simp only[nP]
        refine wpAnyH_done (by kernel_rfl) ?_ _;go_wp2;go_meet
        case rel=>exact⟨gA,gB,gS,rfl,PP.out.cells,RE.out,JE.out⟩
    · go_simp;refine hK9.out _ _ (HS.out _ (J.out.trans (ja _ _))) (fun hHeld66=>?_);clear hK9 K9;try simp only[nP]
      obtain⟨ws,hw⟩:∃W,wp.alloc (.cells #[.string ⟨#[120]⟩,.string ⟨#[]⟩,.int .i64 0,.slice p1 q1 r1,.slice none 0 0,.slice none 0 0,.slice none 0 0,.string ⟨#[]⟩,.int .i64 0,.string ⟨#[97]⟩,.bool false] 35)=W:=⟨_,rfl⟩
      have kk:Kept wp ws:=by rw[←hw];exact ja _ _
      obtain⟨gS,hgS⟩:∃g,wp.heap.size=g:=⟨_,rfl⟩
      have HRP0:=lH (show jE ws (some ⟨gS,0,none⟩) 1 ftS.pods from by
       have c:=jc wp (.string ⟨#[120]⟩) [.string ⟨#[]⟩,.int .i64 0,.slice p1 q1 r1,.slice none 0 0,.slice none 0 0,.slice none 0 0,.string ⟨#[]⟩,.int .i64 0,.string ⟨#[97]⟩,.bool false] 35 ws (by rw[hw];exact Kept.refl _);rw[hgS] at c;exact zJ (lx:=[(ftX,(p1,q1,r1),(none,0,0),(none,0,0),(none,0,0))]) (jO rfl c (fun _ _=>trivial) (by decide:(1:Nat)≤maxLen)) (fun z hz=>by
        obtain rfl:=List.mem_singleton.1 hz;exact HP1.out.kept kk))
      have H1:=lH (H1.out.kept kk);have H2:=lH (H2.out.kept kk);have H3:=lH (H3.out.kept kk);have H4:=lH (H4.out.kept kk);have HP1:=lH (HP1.out.kept kk);have J:=lH (J.out.trans kk);have HRP:=lH HRP0.out;try rw[hw]
      try rw[hgS]
      clear hw kk HRP0 hgS HP1;have hHeldE1:=HS.out _ J.out;refine rdH (rs:=[4,8]) (h:=coH (fun K9 hK9=>?_) (coH (fun K9 hK9=>?_) AllReadyH.nil))
      · go_simp;refine hK9.out _ _ (HS.out _ (J.out.trans (ja _ _))) (fun hHeld67=>?_);clear hK9 K9;try simp only[nP]
        obtain⟨wb,hw⟩:∃W,ws.alloc (.cells #[.string ⟨#[97]⟩,.slice b1 n1 d1,.slice none 0 0,.slice none 0 0,.bool false,.string ⟨#[98]⟩,.slice b2 n2 d2,.slice none 0 0,.slice none 0 0,.bool true,.string ⟨#[99]⟩,.slice b3 n3 d3,.slice none 0 0,.slice (some ⟨gt,0,none⟩) 1 1,.bool false,.string ⟨#[100]⟩,.slice b4 n4 d4,.slice none 0 0,.slice none 0 0,.bool false] 65)=W:=⟨_,rfl⟩
        have kk:Kept ws wb:=by rw[←hw];exact ja _ _
        obtain⟨gB,hgB⟩:∃g,ws.heap.size=g:=⟨_,rfl⟩
        have HRN0:=lH (show jt wb (some ⟨gB,0,none⟩) 4 ftS.nodes from by
         have c:=jc ws (.string ⟨#[97]⟩) [.slice b1 n1 d1,.slice none 0 0,.slice none 0 0,.bool false,.string ⟨#[98]⟩,.slice b2 n2 d2,.slice none 0 0,.slice none 0 0,.bool true,.string ⟨#[99]⟩,.slice b3 n3 d3,.slice none 0 0,.slice (some ⟨gt,0,none⟩) 1 1,.bool false,.string ⟨#[100]⟩,.slice b4 n4 d4,.slice none 0 0,.slice none 0 0,.bool false] 65 wb (by rw[hw];exact Kept.refl _);rw[hgB] at c;exact zO (lx:=[(ftA,(b1,n1,d1),(none,0,0),(none,0,0)),(ftB,(b2,n2,d2),(none,0,0),(none,0,0)),(ftC,(b3,n3,d3),(none,0,0),(some ⟨gt,0,none⟩,1,1)),(ftD,(b4,n4,d4),(none,0,0),(none,0,0))]) (jO rfl c (fun _ _=>trivial) (by decide:(4:Nat)≤maxLen)) (fun z hz=>by
          rcases List.mem_cons.1 hz with rfl | hz
          · exact H1.out.kept kk
          rcases List.mem_cons.1 hz with rfl | hz
          · exact H2.out.kept kk
          rcases List.mem_cons.1 hz with rfl | hz
          · exact H3.out.kept kk
          obtain rfl:=List.mem_singleton.1 hz;exact H4.out.kept kk))
        have H1:=lH (H1.out.kept kk);have H2:=lH (H2.out.kept kk);have H3:=lH (H3.out.kept kk);have H4:=lH (H4.out.kept kk);have HRP:=lH (HRP.out.kept kk);have J:=lH (J.out.trans kk);have HRN:=lH HRN0.out;try rw[hw]
        try rw[hgB]
        clear hw kk HRN0 hgB H1 H2 H3 H4;have hHeldE2:=HS.out _ J.out;refine tkI 7 ?_;try simp only[nP]
        refine rd1 8 fun K9 hK9=>?_;go_simp;refine hK9.out _ _ (HS.out _ (J.out.trans (ja _ _))) (fun hHeld68=>?_);clear hK9 K9;try simp only[nP]
        obtain⟨wa,hw⟩:∃W,wb.alloc (.cells #[.slice none 0 0,.slice none 0 0,.slice none 0 0] 26)=W:=⟨_,rfl⟩
        have kk:Kept wb wa:=by rw[←hw];exact ja _ _
        obtain⟨gA,hgA⟩:∃g,wb.heap.size=g:=⟨_,rfl⟩
        have HQB:=lH (show v7.heap.size≤gA by rw[←hgA];exact J.out.size);have hqa:je gA [.slice none 0 0,.slice none 0 0,.slice none 0 0] wa:=by
         have c:=jc wb (.slice none 0 0) [.slice none 0 0,.slice none 0 0] 26 wa (by rw[hw];exact Kept.refl _);rw[hgA] at c;exact c
        have hha:wa.heap[gA]?=some (.cells #[.slice none 0 0,.slice none 0 0,.slice none 0 0] 26):=by rw[←hw,←hgA];exact World.alloc_heap_new wb _
        have HRN:=lH (HRN.out.kept kk);have HRP:=lH (HRP.out.kept kk);have J:=lH (J.out.trans kk);have HQA:=lH hqa;have HHA:=lH hha;have HQA0:=lH hqa.lt;try rw[hw]
        try rw[hgA]
        clear hw kk hqa hha hgA;have hHeldE3:=HS.out _ J.out;have z0:=HQA.out.at_ 0 _ rfl;have z1:=HQA.out.at_ 1 _ rfl;have z2:=HQA.out.at_ 2 _ rfl;have f0:=HQA.out.free 0;have f1:=HQA.out.free 1;have f2:=HQA.out.free 2;have PP:=lH (zp (vs:=[.slice (some ⟨gB,0,none⟩) 4 4,.slice (some ⟨gS,0,none⟩) 1 1,.slice none 0 0]) HQA.out rfl);refine rd1 9 fun K9 hK9=>?_;go_simp;obtain⟨WE,hWE⟩:∃W,wa.setCells gA 0 [.slice (some ⟨gB,0,none⟩) 4 4,.slice (some ⟨gS,0,none⟩) 1 1,.slice none 0 0]=W:=⟨_,rfl⟩
        have hWE2:(((wa.setCell ⟨gA,0,none⟩ (.slice (some ⟨gB,0,none⟩) 4 4)).setCell ⟨gA,1,none⟩ (.slice (some ⟨gS,0,none⟩) 1 1)).setCell ⟨gA,2,none⟩ (.slice none 0 0))=WE:=hWE;rw[hWE] at PP;try rw[hWE2]
        have RE:=lH (show jP WE (.agg #[.slice (some ⟨gB,0,none⟩) 4 4,.slice (some ⟨gS,0,none⟩) 1 1,.slice none 0 0]) ftS from zv (w:=wa) (N:=gA) PP.out.size PP.out.far (Jd HHA.out) ⟨_,_,_,rfl,⟨⟨_,_,rfl,by decide,by decide,HRN.out⟩,⟨_,_,rfl,by decide,by decide,HRP.out⟩,⟨_,_,rfl,by decide,by decide,zw _⟩⟩⟩);have JE:=lH (show Kept v7 WE by rw[←hWE];exact jA gA _ _ _ _ _ HQB.out J.out);clear hWE hWE2 z0 f0 z1 f1 z2 f2;refine hK9.out _ _ (HS.out _ JE.out) (fun hHeldS=>?_);clear hK9 K9;try simp only[nP]
        refine wpAnyH_done (by kernel_rfl) ?_ _;go_wp2;go_meet
        case rel=>exact⟨gA,gB,gS,rfl,PP.out.cells,RE.out,JE.out⟩
      · go_simp;refine hK9.out _ _ (HS.out _ (J.out.trans (ja _ _))) (fun hHeld69=>?_);clear hK9 K9;try simp only[nP]
        obtain⟨wa,hw⟩:∃W,ws.alloc (.cells #[.slice none 0 0,.slice none 0 0,.slice none 0 0] 26)=W:=⟨_,rfl⟩
        have kk:Kept ws wa:=by rw[←hw];exact ja _ _
        obtain⟨gA,hgA⟩:∃g,ws.heap.size=g:=⟨_,rfl⟩
        have HQB:=lH (show v7.heap.size≤gA by rw[←hgA];exact J.out.size);have hqa:je gA [.slice none 0 0,.slice none 0 0,.slice none 0 0] wa:=by
         have c:=jc ws (.slice none 0 0) [.slice none 0 0,.slice none 0 0] 26 wa (by rw[hw];exact Kept.refl _);rw[hgA] at c;exact c
        have hha:wa.heap[gA]?=some (.cells #[.slice none 0 0,.slice none 0 0,.slice none 0 0] 26):=by rw[←hw,←hgA];exact World.alloc_heap_new ws _
        have H1:=lH (H1.out.kept kk);have H2:=lH (H2.out.kept kk);have H3:=lH (H3.out.kept kk);have H4:=lH (H4.out.kept kk);have HRP:=lH (HRP.out.kept kk);have J:=lH (J.out.trans kk);have HQA:=lH hqa;have HHA:=lH hha;have HQA0:=lH hqa.lt;try rw[hw]
        try rw[hgA]
        clear hw kk hqa hha hgA;have hHeldE2:=HS.out _ J.out;refine rd1 4 fun K9 hK9=>?_;go_simp;refine hK9.out _ _ (HS.out _ (J.out.trans (ja _ _))) (fun hHeld70=>?_);clear hK9 K9;try simp only[nP]
        obtain⟨wb,hw⟩:∃W,wa.alloc (.cells #[.string ⟨#[97]⟩,.slice b1 n1 d1,.slice none 0 0,.slice none 0 0,.bool false,.string ⟨#[98]⟩,.slice b2 n2 d2,.slice none 0 0,.slice none 0 0,.bool true,.string ⟨#[99]⟩,.slice b3 n3 d3,.slice none 0 0,.slice (some ⟨gt,0,none⟩) 1 1,.bool false,.string ⟨#[100]⟩,.slice b4 n4 d4,.slice none 0 0,.slice none 0 0,.bool false] 65)=W:=⟨_,rfl⟩
        have kk:Kept wa wb:=by rw[←hw];exact ja _ _
        obtain⟨gB,hgB⟩:∃g,wa.heap.size=g:=⟨_,rfl⟩
        have HRN0:=lH (show jt wb (some ⟨gB,0,none⟩) 4 ftS.nodes from by
         have c:=jc wa (.string ⟨#[97]⟩) [.slice b1 n1 d1,.slice none 0 0,.slice none 0 0,.bool false,.string ⟨#[98]⟩,.slice b2 n2 d2,.slice none 0 0,.slice none 0 0,.bool true,.string ⟨#[99]⟩,.slice b3 n3 d3,.slice none 0 0,.slice (some ⟨gt,0,none⟩) 1 1,.bool false,.string ⟨#[100]⟩,.slice b4 n4 d4,.slice none 0 0,.slice none 0 0,.bool false] 65 wb (by rw[hw];exact Kept.refl _);rw[hgB] at c;exact zO (lx:=[(ftA,(b1,n1,d1),(none,0,0),(none,0,0)),(ftB,(b2,n2,d2),(none,0,0),(none,0,0)),(ftC,(b3,n3,d3),(none,0,0),(some ⟨gt,0,none⟩,1,1)),(ftD,(b4,n4,d4),(none,0,0),(none,0,0))]) (jO rfl c (fun _ _=>trivial) (by decide:(4:Nat)≤maxLen)) (fun z hz=>by
          rcases List.mem_cons.1 hz with rfl | hz
          · exact H1.out.kept kk
          rcases List.mem_cons.1 hz with rfl | hz
          · exact H2.out.kept kk
          rcases List.mem_cons.1 hz with rfl | hz
          · exact H3.out.kept kk
          obtain rfl:=List.mem_singleton.1 hz;exact H4.out.kept kk))
        have H1:=lH (H1.out.kept kk);have H2:=lH (H2.out.kept kk);have H3:=lH (H3.out.kept kk);have H4:=lH (H4.out.kept kk);have HRP:=lH (HRP.out.kept kk);have HQA:=lH (HQA.out.kept kk);have J:=lH (J.out.trans kk);have HHA:=lH ((kk.block _ HQA0.out).trans HHA.out);have HQA0:=lH (Nat.lt_of_lt_of_le HQA0.out kk.size);have HRN:=lH HRN0.out;try rw[hw]
        try rw[hgB]
        clear hw kk HRN0 hgB H1 H2 H3 H4;have hHeldE3:=HS.out _ J.out;refine tkI 7 ?_;try simp only[nP]
        have z0:=HQA.out.at_ 0 _ rfl;have z1:=HQA.out.at_ 1 _ rfl;have z2:=HQA.out.at_ 2 _ rfl;have f0:=HQA.out.free 0;have f1:=HQA.out.free 1;have f2:=HQA.out.free 2;have PP:=lH (zp (vs:=[.slice (some ⟨gB,0,none⟩) 4 4,.slice (some ⟨gS,0,none⟩) 1 1,.slice none 0 0]) HQA.out rfl);refine rd1 9 fun K9 hK9=>?_;go_simp;obtain⟨WE,hWE⟩:∃W,wb.setCells gA 0 [.slice (some ⟨gB,0,none⟩) 4 4,.slice (some ⟨gS,0,none⟩) 1 1,.slice none 0 0]=W:=⟨_,rfl⟩
        have hWE2:(((wb.setCell ⟨gA,0,none⟩ (.slice (some ⟨gB,0,none⟩) 4 4)).setCell ⟨gA,1,none⟩ (.slice (some ⟨gS,0,none⟩) 1 1)).setCell ⟨gA,2,none⟩ (.slice none 0 0))=WE:=hWE;rw[hWE] at PP;try rw[hWE2]
        have RE:=lH (show jP WE (.agg #[.slice (some ⟨gB,0,none⟩) 4 4,.slice (some ⟨gS,0,none⟩) 1 1,.slice none 0 0]) ftS from zv (w:=wb) (N:=gA) PP.out.size PP.out.far (Jd HHA.out) ⟨_,_,_,rfl,⟨⟨_,_,rfl,by decide,by decide,HRN.out⟩,⟨_,_,rfl,by decide,by decide,HRP.out⟩,⟨_,_,rfl,by decide,by decide,zw _⟩⟩⟩);have JE:=lH (show Kept v7 WE by rw[←hWE];exact jA gA _ _ _ _ _ HQB.out J.out);clear hWE hWE2 z0 f0 z1 f1 z2 f2;refine hK9.out _ _ (HS.out _ JE.out) (fun hHeldS=>?_);clear hK9 K9;try simp only[nP]
        refine wpAnyH_done (by kernel_rfl) ?_ _;go_wp2;go_meet
        case rel=>exact⟨gA,gB,gS,rfl,PP.out.cells,RE.out,JE.out⟩
    · go_simp;refine hK9.out _ _ (HS.out _ (J.out.trans (ja _ _))) (fun hHeld71=>?_);clear hK9 K9;try simp only[nP]
      obtain⟨wa,hw⟩:∃W,wp.alloc (.cells #[.slice none 0 0,.slice none 0 0,.slice none 0 0] 26)=W:=⟨_,rfl⟩
      have kk:Kept wp wa:=by rw[←hw];exact ja _ _
      obtain⟨gA,hgA⟩:∃g,wp.heap.size=g:=⟨_,rfl⟩
      have HQB:=lH (show v7.heap.size≤gA by rw[←hgA];exact J.out.size);have hqa:je gA [.slice none 0 0,.slice none 0 0,.slice none 0 0] wa:=by
       have c:=jc wp (.slice none 0 0) [.slice none 0 0,.slice none 0 0] 26 wa (by rw[hw];exact Kept.refl _);rw[hgA] at c;exact c
      have hha:wa.heap[gA]?=some (.cells #[.slice none 0 0,.slice none 0 0,.slice none 0 0] 26):=by rw[←hw,←hgA];exact World.alloc_heap_new wp _
      have H1:=lH (H1.out.kept kk);have H2:=lH (H2.out.kept kk);have H3:=lH (H3.out.kept kk);have H4:=lH (H4.out.kept kk);have HP1:=lH (HP1.out.kept kk);have J:=lH (J.out.trans kk);have HQA:=lH hqa;have HHA:=lH hha;have HQA0:=lH hqa.lt;try rw[hw]
      try rw[hgA]
      clear hw kk hqa hha hgA;have hHeldE1:=HS.out _ J.out;refine rdH (rs:=[4,6]) (h:=coH (fun K9 hK9=>?_) (coH (fun K9 hK9=>?_) AllReadyH.nil))
      · go_simp;refine hK9.out _ _ (HS.out _ (J.out.trans (ja _ _))) (fun hHeld72=>?_);clear hK9 K9;try simp only[nP]
        obtain⟨wb,hw⟩:∃W,wa.alloc (.cells #[.string ⟨#[97]⟩,.slice b1 n1 d1,.slice none 0 0,.slice none 0 0,.bool false,.string ⟨#[98]⟩,.slice b2 n2 d2,.slice none 0 0,.slice none 0 0,.bool true,.string ⟨#[99]⟩,.slice b3 n3 d3,.slice none 0 0,.slice (some ⟨gt,0,none⟩) 1 1,.bool false,.string ⟨#[100]⟩,.slice b4 n4 d4,.slice none 0 0,.slice none 0 0,.bool false] 65)=W:=⟨_,rfl⟩
        have kk:Kept wa wb:=by rw[←hw];exact ja _ _
        obtain⟨gB,hgB⟩:∃g,wa.heap.size=g:=⟨_,rfl⟩
        have HRN0:=lH (show jt wb (some ⟨gB,0,none⟩) 4 ftS.nodes from by
         have c:=jc wa (.string ⟨#[97]⟩) [.slice b1 n1 d1,.slice none 0 0,.slice none 0 0,.bool false,.string ⟨#[98]⟩,.slice b2 n2 d2,.slice none 0 0,.slice none 0 0,.bool true,.string ⟨#[99]⟩,.slice b3 n3 d3,.slice none 0 0,.slice (some ⟨gt,0,none⟩) 1 1,.bool false,.string ⟨#[100]⟩,.slice b4 n4 d4,.slice none 0 0,.slice none 0 0,.bool false] 65 wb (by rw[hw];exact Kept.refl _);rw[hgB] at c;exact zO (lx:=[(ftA,(b1,n1,d1),(none,0,0),(none,0,0)),(ftB,(b2,n2,d2),(none,0,0),(none,0,0)),(ftC,(b3,n3,d3),(none,0,0),(some ⟨gt,0,none⟩,1,1)),(ftD,(b4,n4,d4),(none,0,0),(none,0,0))]) (jO rfl c (fun _ _=>trivial) (by decide:(4:Nat)≤maxLen)) (fun z hz=>by
          rcases List.mem_cons.1 hz with rfl | hz
          · exact H1.out.kept kk
          rcases List.mem_cons.1 hz with rfl | hz
          · exact H2.out.kept kk
          rcases List.mem_cons.1 hz with rfl | hz
          · exact H3.out.kept kk
          obtain rfl:=List.mem_singleton.1 hz;exact H4.out.kept kk))
        have H1:=lH (H1.out.kept kk);have H2:=lH (H2.out.kept kk);have H3:=lH (H3.out.kept kk);have H4:=lH (H4.out.kept kk);have HP1:=lH (HP1.out.kept kk);have HQA:=lH (HQA.out.kept kk);have J:=lH (J.out.trans kk);have HHA:=lH ((kk.block _ HQA0.out).trans HHA.out);have HQA0:=lH (Nat.lt_of_lt_of_le HQA0.out kk.size);have HRN:=lH HRN0.out;try rw[hw]
        try rw[hgB]
        clear hw kk HRN0 hgB H1 H2 H3 H4;have hHeldE2:=HS.out _ J.out;refine rd1 6 fun K9 hK9=>?_;go_simp;refine hK9.out _ _ (HS.out _ (J.out.trans (ja _ _))) (fun hHeld73=>?_);clear hK9 K9;try simp only[nP]
        obtain⟨ws,hw⟩:∃W,wb.alloc (.cells #[.string ⟨#[120]⟩,.string ⟨#[]⟩,.int .i64 0,.slice p1 q1 r1,.slice none 0 0,.slice none 0 0,.slice none 0 0,.string ⟨#[]⟩,.int .i64 0,.string ⟨#[97]⟩,.bool false] 35)=W:=⟨_,rfl⟩
        have kk:Kept wb ws:=by rw[←hw];exact ja _ _
        obtain⟨gS,hgS⟩:∃g,wb.heap.size=g:=⟨_,rfl⟩
        have HRP0:=lH (show jE ws (some ⟨gS,0,none⟩) 1 ftS.pods from by
         have c:=jc wb (.string ⟨#[120]⟩) [.string ⟨#[]⟩,.int .i64 0,.slice p1 q1 r1,.slice none 0 0,.slice none 0 0,.slice none 0 0,.string ⟨#[]⟩,.int .i64 0,.string ⟨#[97]⟩,.bool false] 35 ws (by rw[hw];exact Kept.refl _);rw[hgS] at c;exact zJ (lx:=[(ftX,(p1,q1,r1),(none,0,0),(none,0,0),(none,0,0))]) (jO rfl c (fun _ _=>trivial) (by decide:(1:Nat)≤maxLen)) (fun z hz=>by
          obtain rfl:=List.mem_singleton.1 hz;exact HP1.out.kept kk))
        have HRN:=lH (HRN.out.kept kk);have HP1:=lH (HP1.out.kept kk);have HQA:=lH (HQA.out.kept kk);have J:=lH (J.out.trans kk);have HHA:=lH ((kk.block _ HQA0.out).trans HHA.out);have HQA0:=lH (Nat.lt_of_lt_of_le HQA0.out kk.size);have HRP:=lH HRP0.out;try rw[hw]
        try rw[hgS]
        clear hw kk HRP0 hgS HP1;have hHeldE3:=HS.out _ J.out;refine tkI 7 ?_;try simp only[nP]
        have z0:=HQA.out.at_ 0 _ rfl;have z1:=HQA.out.at_ 1 _ rfl;have z2:=HQA.out.at_ 2 _ rfl;have f0:=HQA.out.free 0;have f1:=HQA.out.free 1;have f2:=HQA.out.free 2;have PP:=lH (zp (vs:=[.slice (some ⟨gB,0,none⟩) 4 4,.slice (some ⟨gS,0,none⟩) 1 1,.slice none 0 0]) HQA.out rfl);refine rd1 9 fun K9 hK9=>?_;go_simp;obtain⟨WE,hWE⟩:∃W,ws.setCells gA 0 [.slice (some ⟨gB,0,none⟩) 4 4,.slice (some ⟨gS,0,none⟩) 1 1,.slice none 0 0]=W:=⟨_,rfl⟩
        have hWE2:(((ws.setCell ⟨gA,0,none⟩ (.slice (some ⟨gB,0,none⟩) 4 4)).setCell ⟨gA,1,none⟩ (.slice (some ⟨gS,0,none⟩) 1 1)).setCell ⟨gA,2,none⟩ (.slice none 0 0))=WE:=hWE;rw[hWE] at PP;try rw[hWE2]
        have RE:=lH (show jP WE (.agg #[.slice (some ⟨gB,0,none⟩) 4 4,.slice (some ⟨gS,0,none⟩) 1 1,.slice none 0 0]) ftS from zv (w:=ws) (N:=gA) PP.out.size PP.out.far (Jd HHA.out) ⟨_,_,_,rfl,⟨⟨_,_,rfl,by decide,by decide,HRN.out⟩,⟨_,_,rfl,by decide,by decide,HRP.out⟩,⟨_,_,rfl,by decide,by decide,zw _⟩⟩⟩);have JE:=lH (show Kept v7 WE by rw[←hWE];exact jA gA _ _ _ _ _ HQB.out J.out);clear hWE hWE2 z0 f0 z1 f1 z2 f2;refine hK9.out _ _ (HS.out _ JE.out) (fun hHeldS=>?_);clear hK9 K9;try simp only[nP]
        refine wpAnyH_done (by kernel_rfl) ?_ _;go_wp2;go_meet
        case rel=>exact⟨gA,gB,gS,rfl,PP.out.cells,RE.out,JE.out⟩
      · go_simp;refine hK9.out _ _ (HS.out _ (J.out.trans (ja _ _))) (fun hHeld74=>?_);clear hK9 K9;try simp only[nP]
        obtain⟨ws,hw⟩:∃W,wa.alloc (.cells #[.string ⟨#[120]⟩,.string ⟨#[]⟩,.int .i64 0,.slice p1 q1 r1,.slice none 0 0,.slice none 0 0,.slice none 0 0,.string ⟨#[]⟩,.int .i64 0,.string ⟨#[97]⟩,.bool false] 35)=W:=⟨_,rfl⟩
        have kk:Kept wa ws:=by rw[←hw];exact ja _ _
        obtain⟨gS,hgS⟩:∃g,wa.heap.size=g:=⟨_,rfl⟩
        have HRP0:=lH (show jE ws (some ⟨gS,0,none⟩) 1 ftS.pods from by
         have c:=jc wa (.string ⟨#[120]⟩) [.string ⟨#[]⟩,.int .i64 0,.slice p1 q1 r1,.slice none 0 0,.slice none 0 0,.slice none 0 0,.string ⟨#[]⟩,.int .i64 0,.string ⟨#[97]⟩,.bool false] 35 ws (by rw[hw];exact Kept.refl _);rw[hgS] at c;exact zJ (lx:=[(ftX,(p1,q1,r1),(none,0,0),(none,0,0),(none,0,0))]) (jO rfl c (fun _ _=>trivial) (by decide:(1:Nat)≤maxLen)) (fun z hz=>by
          obtain rfl:=List.mem_singleton.1 hz;exact HP1.out.kept kk))
        have H1:=lH (H1.out.kept kk);have H2:=lH (H2.out.kept kk);have H3:=lH (H3.out.kept kk);have H4:=lH (H4.out.kept kk);have HP1:=lH (HP1.out.kept kk);have HQA:=lH (HQA.out.kept kk);have J:=lH (J.out.trans kk);have HHA:=lH ((kk.block _ HQA0.out).trans HHA.out);have HQA0:=lH (Nat.lt_of_lt_of_le HQA0.out kk.size);have HRP:=lH HRP0.out;try rw[hw]
        try rw[hgS]
        clear hw kk HRP0 hgS HP1;have hHeldE2:=HS.out _ J.out;refine rd1 4 fun K9 hK9=>?_;go_simp;refine hK9.out _ _ (HS.out _ (J.out.trans (ja _ _))) (fun hHeld75=>?_);clear hK9 K9;try simp only[nP]
        obtain⟨wb,hw⟩:∃W,ws.alloc (.cells #[.string ⟨#[97]⟩,.slice b1 n1 d1,.slice none 0 0,.slice none 0 0,.bool false,.string ⟨#[98]⟩,.slice b2 n2 d2,.slice none 0 0,.slice none 0 0,.bool true,.string ⟨#[99]⟩,.slice b3 n3 d3,.slice none 0 0,.slice (some ⟨gt,0,none⟩) 1 1,.bool false,.string ⟨#[100]⟩,.slice b4 n4 d4,.slice none 0 0,.slice none 0 0,.bool false] 65)=W:=⟨_,rfl⟩
        have kk:Kept ws wb:=by rw[←hw];exact ja _ _
        obtain⟨gB,hgB⟩:∃g,ws.heap.size=g:=⟨_,rfl⟩
        have HRN0:=lH (show jt wb (some ⟨gB,0,none⟩) 4 ftS.nodes from by
         have c:=jc ws (.string ⟨#[97]⟩) [.slice b1 n1 d1,.slice none 0 0,.slice none 0 0,.bool false,.string ⟨#[98]⟩,.slice b2 n2 d2,.slice none 0 0,.slice none 0 0,.bool true,.string ⟨#[99]⟩,.slice b3 n3 d3,.slice none 0 0,.slice (some ⟨gt,0,none⟩) 1 1,.bool false,.string ⟨#[100]⟩,.slice b4 n4 d4,.slice none 0 0,.slice none 0 0,.bool false] 65 wb (by rw[hw];exact Kept.refl _);rw[hgB] at c;exact zO (lx:=[(ftA,(b1,n1,d1),(none,0,0),(none,0,0)),(ftB,(b2,n2,d2),(none,0,0),(none,0,0)),(ftC,(b3,n3,d3),(none,0,0),(some ⟨gt,0,none⟩,1,1)),(ftD,(b4,n4,d4),(none,0,0),(none,0,0))]) (jO rfl c (fun _ _=>trivial) (by decide:(4:Nat)≤maxLen)) (fun z hz=>by
          rcases List.mem_cons.1 hz with rfl | hz
          · exact H1.out.kept kk
          rcases List.mem_cons.1 hz with rfl | hz
          · exact H2.out.kept kk
          rcases List.mem_cons.1 hz with rfl | hz
          · exact H3.out.kept kk
          obtain rfl:=List.mem_singleton.1 hz;exact H4.out.kept kk))
        have H1:=lH (H1.out.kept kk);have H2:=lH (H2.out.kept kk);have H3:=lH (H3.out.kept kk);have H4:=lH (H4.out.kept kk);have HRP:=lH (HRP.out.kept kk);have HQA:=lH (HQA.out.kept kk);have J:=lH (J.out.trans kk);have HHA:=lH ((kk.block _ HQA0.out).trans HHA.out);have HQA0:=lH (Nat.lt_of_lt_of_le HQA0.out kk.size);have HRN:=lH HRN0.out;try rw[hw]
        try rw[hgB]
        clear hw kk HRN0 hgB H1 H2 H3 H4;have hHeldE3:=HS.out _ J.out;refine tkI 7 ?_;try simp only[nP]
        have z0:=HQA.out.at_ 0 _ rfl;have z1:=HQA.out.at_ 1 _ rfl;have z2:=HQA.out.at_ 2 _ rfl;have f0:=HQA.out.free 0;have f1:=HQA.out.free 1;have f2:=HQA.out.free 2;have PP:=lH (zp (vs:=[.slice (some ⟨gB,0,none⟩) 4 4,.slice (some ⟨gS,0,none⟩) 1 1,.slice none 0 0]) HQA.out rfl);refine rd1 9 fun K9 hK9=>?_;go_simp;obtain⟨WE,hWE⟩:∃W,wb.setCells gA 0 [.slice (some ⟨gB,0,none⟩) 4 4,.slice (some ⟨gS,0,none⟩) 1 1,.slice none 0 0]=W:=⟨_,rfl⟩
        have hWE2:(((wb.setCell ⟨gA,0,none⟩ (.slice (some ⟨gB,0,none⟩) 4 4)).setCell ⟨gA,1,none⟩ (.slice (some ⟨gS,0,none⟩) 1 1)).setCell ⟨gA,2,none⟩ (.slice none 0 0))=WE:=hWE;rw[hWE] at PP;try rw[hWE2]
        have RE:=lH (show jP WE (.agg #[.slice (some ⟨gB,0,none⟩) 4 4,.slice (some ⟨gS,0,none⟩) 1 1,.slice none 0 0]) ftS from zv (w:=wb) (N:=gA) PP.out.size PP.out.far (Jd HHA.out) ⟨_,_,_,rfl,⟨⟨_,_,rfl,by decide,by decide,HRN.out⟩,⟨_,_,rfl,by decide,by decide,HRP.out⟩,⟨_,_,rfl,by decide,by decide,zw _⟩⟩⟩);have JE:=lH (show Kept v7 WE by rw[←hWE];exact jA gA _ _ _ _ _ HQB.out J.out);clear hWE hWE2 z0 f0 z1 f1 z2 f2;refine hK9.out _ _ (HS.out _ JE.out) (fun hHeldS=>?_);clear hK9 K9;try simp only[nP]
        refine wpAnyH_done (by kernel_rfl) ?_ _;go_wp2;go_meet
        case rel=>exact⟨gA,gB,gS,rfl,PP.out.cells,RE.out,JE.out⟩
  · go_simp;refine hK9.out _ _ (HS.out _ (J.out.trans (ja _ _))) (fun hHeld76=>?_);clear hK9 K9;try simp only[nP]
    obtain⟨wa,hw⟩:∃W,wq.alloc (.cells #[.slice none 0 0,.slice none 0 0,.slice none 0 0] 26)=W:=⟨_,rfl⟩
    have kk:Kept wq wa:=by rw[←hw];exact ja _ _
    obtain⟨gA,hgA⟩:∃g,wq.heap.size=g:=⟨_,rfl⟩
    have HQB:=lH (show v7.heap.size≤gA by rw[←hgA];exact J.out.size);have hqa:je gA [.slice none 0 0,.slice none 0 0,.slice none 0 0] wa:=by
     have c:=jc wq (.slice none 0 0) [.slice none 0 0,.slice none 0 0] 26 wa (by rw[hw];exact Kept.refl _);rw[hgA] at c;exact c
    have hha:wa.heap[gA]?=some (.cells #[.slice none 0 0,.slice none 0 0,.slice none 0 0] 26):=by rw[←hw,←hgA];exact World.alloc_heap_new wq _
    have H1:=lH (H1.out.kept kk);have H2:=lH (H2.out.kept kk);have H3:=lH (H3.out.kept kk);have H4:=lH (H4.out.kept kk);have J:=lH (J.out.trans kk);have HQA:=lH hqa;have HHA:=lH hha;have HQA0:=lH hqa.lt;try rw[hw]
    try rw[hgA]
    clear hw kk hqa hha hgA;have hHeldE0:=HS.out _ J.out;refine rdH (rs:=[4,5]) (h:=coH (fun K9 hK9=>?_) (coH (fun K9 hK9=>?_) AllReadyH.nil))
    · go_simp;refine hK9.out _ _ (HS.out _ (J.out.trans (ja _ _))) (fun hHeld77=>?_);clear hK9 K9;try simp only[nP]
      obtain⟨wb,hw⟩:∃W,wa.alloc (.cells #[.string ⟨#[97]⟩,.slice b1 n1 d1,.slice none 0 0,.slice none 0 0,.bool false,.string ⟨#[98]⟩,.slice b2 n2 d2,.slice none 0 0,.slice none 0 0,.bool true,.string ⟨#[99]⟩,.slice b3 n3 d3,.slice none 0 0,.slice (some ⟨gt,0,none⟩) 1 1,.bool false,.string ⟨#[100]⟩,.slice b4 n4 d4,.slice none 0 0,.slice none 0 0,.bool false] 65)=W:=⟨_,rfl⟩
      have kk:Kept wa wb:=by rw[←hw];exact ja _ _
      obtain⟨gB,hgB⟩:∃g,wa.heap.size=g:=⟨_,rfl⟩
      have HRN0:=lH (show jt wb (some ⟨gB,0,none⟩) 4 ftS.nodes from by
       have c:=jc wa (.string ⟨#[97]⟩) [.slice b1 n1 d1,.slice none 0 0,.slice none 0 0,.bool false,.string ⟨#[98]⟩,.slice b2 n2 d2,.slice none 0 0,.slice none 0 0,.bool true,.string ⟨#[99]⟩,.slice b3 n3 d3,.slice none 0 0,.slice (some ⟨gt,0,none⟩) 1 1,.bool false,.string ⟨#[100]⟩,.slice b4 n4 d4,.slice none 0 0,.slice none 0 0,.bool false] 65 wb (by rw[hw];exact Kept.refl _);rw[hgB] at c;exact zO (lx:=[(ftA,(b1,n1,d1),(none,0,0),(none,0,0)),(ftB,(b2,n2,d2),(none,0,0),(none,0,0)),(ftC,(b3,n3,d3),(none,0,0),(some ⟨gt,0,none⟩,1,1)),(ftD,(b4,n4,d4),(none,0,0),(none,0,0))]) (jO rfl c (fun _ _=>trivial) (by decide:(4:Nat)≤maxLen)) (fun z hz=>by
        rcases List.mem_cons.1 hz with rfl | hz
        · exact H1.out.kept kk
        rcases List.mem_cons.1 hz with rfl | hz
        · exact H2.out.kept kk
        rcases List.mem_cons.1 hz with rfl | hz
        · exact H3.out.kept kk
        obtain rfl:=List.mem_singleton.1 hz;exact H4.out.kept kk))
      have H1:=lH (H1.out.kept kk);have H2:=lH (H2.out.kept kk);have H3:=lH (H3.out.kept kk);have H4:=lH (H4.out.kept kk);have HQA:=lH (HQA.out.kept kk);have J:=lH (J.out.trans kk);have HHA:=lH ((kk.block _ HQA0.out).trans HHA.out);have HQA0:=lH (Nat.lt_of_lt_of_le HQA0.out kk.size);have HRN:=lH HRN0.out;try rw[hw]
      try rw[hgB]
      clear hw kk HRN0 hgB H1 H2 H3 H4;have hHeldE1:=HS.out _ J.out;refine rd1 5 fun K9 hK9=>?_;go_simp;refine(Jy ⟨#[120]⟩ 3 ⟨#[97]⟩ (by decide:(-9223372036854775808:Int)≤3∧(3:Int)≤9223372036854775807) (by decide:(1:Nat)≤maxLen) (by decide:(1:Nat)≤maxLen) _).mono ?_;rintro e wp ⟨p1,q1,r1,rfl,ha,kk⟩;have HRN:=lH (HRN.out.kept kk);have HQA:=lH (HQA.out.kept kk);have J:=lH (J.out.trans kk);have HHA:=lH ((kk.block _ HQA0.out).trans HHA.out);have HQA0:=lH (Nat.lt_of_lt_of_le HQA0.out kk.size);have HP1:=lH ha;clear ha kk;refine hK9.out _ _ (HS.out _ J.out) (fun hHeld78=>?_);clear hK9 K9;try simp only[nP]
      refine rd1 6 fun K9 hK9=>?_;go_simp;refine hK9.out _ _ (HS.out _ (J.out.trans (ja _ _))) (fun hHeld79=>?_);clear hK9 K9;try simp only[nP]
      obtain⟨ws,hw⟩:∃W,wp.alloc (.cells #[.string ⟨#[120]⟩,.string ⟨#[]⟩,.int .i64 0,.slice p1 q1 r1,.slice none 0 0,.slice none 0 0,.slice none 0 0,.string ⟨#[]⟩,.int .i64 0,.string ⟨#[97]⟩,.bool false] 35)=W:=⟨_,rfl⟩
      have kk:Kept wp ws:=by rw[←hw];exact ja _ _
      obtain⟨gS,hgS⟩:∃g,wp.heap.size=g:=⟨_,rfl⟩
      have HRP0:=lH (show jE ws (some ⟨gS,0,none⟩) 1 ftS.pods from by
       have c:=jc wp (.string ⟨#[120]⟩) [.string ⟨#[]⟩,.int .i64 0,.slice p1 q1 r1,.slice none 0 0,.slice none 0 0,.slice none 0 0,.string ⟨#[]⟩,.int .i64 0,.string ⟨#[97]⟩,.bool false] 35 ws (by rw[hw];exact Kept.refl _);rw[hgS] at c;exact zJ (lx:=[(ftX,(p1,q1,r1),(none,0,0),(none,0,0),(none,0,0))]) (jO rfl c (fun _ _=>trivial) (by decide:(1:Nat)≤maxLen)) (fun z hz=>by
        obtain rfl:=List.mem_singleton.1 hz;exact HP1.out.kept kk))
      have HRN:=lH (HRN.out.kept kk);have HP1:=lH (HP1.out.kept kk);have HQA:=lH (HQA.out.kept kk);have J:=lH (J.out.trans kk);have HHA:=lH ((kk.block _ HQA0.out).trans HHA.out);have HQA0:=lH (Nat.lt_of_lt_of_le HQA0.out kk.size);have HRP:=lH HRP0.out;try rw[hw]
      try rw[hgS]
      clear hw kk HRP0 hgS HP1;have hHeldE3:=HS.out _ J.out;refine tkI 7 ?_;try simp only[nP]
      have z0:=HQA.out.at_ 0 _ rfl;have z1:=HQA.out.at_ 1 _ rfl;have z2:=HQA.out.at_ 2 _ rfl;have f0:=HQA.out.free 0;have f1:=HQA.out.free 1;have f2:=HQA.out.free 2;have PP:=lH (zp (vs:=[.slice (some ⟨gB,0,none⟩) 4 4,.slice (some ⟨gS,0,none⟩) 1 1,.slice none 0 0]) HQA.out rfl);refine rd1 9 fun K9 hK9=>?_;go_simp;obtain⟨WE,hWE⟩:∃W,ws.setCells gA 0 [.slice (some ⟨gB,0,none⟩) 4 4,.slice (some ⟨gS,0,none⟩) 1 1,.slice none 0 0]=W:=⟨_,rfl⟩
      have hWE2:(((ws.setCell ⟨gA,0,none⟩ (.slice (some ⟨gB,0,none⟩) 4 4)).setCell ⟨gA,1,none⟩ (.slice (some ⟨gS,0,none⟩) 1 1)).setCell ⟨gA,2,none⟩ (.slice none 0 0))=WE:=hWE;rw[hWE] at PP;try rw[hWE2]
      have RE:=lH (show jP WE (.agg #[.slice (some ⟨gB,0,none⟩) 4 4,.slice (some ⟨gS,0,none⟩) 1 1,.slice none 0 0]) ftS from zv (w:=ws) (N:=gA) PP.out.size PP.out.far (Jd HHA.out) ⟨_,_,_,rfl,⟨⟨_,_,rfl,by decide,by decide,HRN.out⟩,⟨_,_,rfl,by decide,by decide,HRP.out⟩,⟨_,_,rfl,by decide,by decide,zw _⟩⟩⟩);have JE:=lH (show Kept v7 WE by rw[←hWE];exact jA gA _ _ _ _ _ HQB.out J.out);clear hWE hWE2 z0 f0 z1 f1 z2 f2;refine hK9.out _ _ (HS.out _ JE.out) (fun hHeldS=>?_);clear hK9 K9;try simp only[nP]
      refine wpAnyH_done (by kernel_rfl) ?_ _;go_wp2;go_meet
      case rel=>exact⟨gA,gB,gS,rfl,PP.out.cells,RE.out,JE.out⟩
    · go_simp;refine(Jy ⟨#[120]⟩ 3 ⟨#[97]⟩ (by decide:(-9223372036854775808:Int)≤3∧(3:Int)≤9223372036854775807) (by decide:(1:Nat)≤maxLen) (by decide:(1:Nat)≤maxLen) _).mono ?_;rintro e wp ⟨p1,q1,r1,rfl,ha,kk⟩;have H1:=lH (H1.out.kept kk);have H2:=lH (H2.out.kept kk);have H3:=lH (H3.out.kept kk);have H4:=lH (H4.out.kept kk);have HQA:=lH (HQA.out.kept kk);have J:=lH (J.out.trans kk);have HHA:=lH ((kk.block _ HQA0.out).trans HHA.out);have HQA0:=lH (Nat.lt_of_lt_of_le HQA0.out kk.size);have HP1:=lH ha;clear ha kk;refine hK9.out _ _ (HS.out _ J.out) (fun hHeld80=>?_);clear hK9 K9;try simp only[nP]
      refine rdH (rs:=[4,6]) (h:=coH (fun K9 hK9=>?_) (coH (fun K9 hK9=>?_) AllReadyH.nil))
      · go_simp;refine hK9.out _ _ (HS.out _ (J.out.trans (ja _ _))) (fun hHeld81=>?_);clear hK9 K9;try simp only[nP]
        obtain⟨wb,hw⟩:∃W,wp.alloc (.cells #[.string ⟨#[97]⟩,.slice b1 n1 d1,.slice none 0 0,.slice none 0 0,.bool false,.string ⟨#[98]⟩,.slice b2 n2 d2,.slice none 0 0,.slice none 0 0,.bool true,.string ⟨#[99]⟩,.slice b3 n3 d3,.slice none 0 0,.slice (some ⟨gt,0,none⟩) 1 1,.bool false,.string ⟨#[100]⟩,.slice b4 n4 d4,.slice none 0 0,.slice none 0 0,.bool false] 65)=W:=⟨_,rfl⟩
        have kk:Kept wp wb:=by rw[←hw];exact ja _ _
        obtain⟨gB,hgB⟩:∃g,wp.heap.size=g:=⟨_,rfl⟩
        have HRN0:=lH (show jt wb (some ⟨gB,0,none⟩) 4 ftS.nodes from by
         have c:=jc wp (.string ⟨#[97]⟩) [.slice b1 n1 d1,.slice none 0 0,.slice none 0 0,.bool false,.string ⟨#[98]⟩,.slice b2 n2 d2,.slice none 0 0,.slice none 0 0,.bool true,.string ⟨#[99]⟩,.slice b3 n3 d3,.slice none 0 0,.slice (some ⟨gt,0,none⟩) 1 1,.bool false,.string ⟨#[100]⟩,.slice b4 n4 d4,.slice none 0 0,.slice none 0 0,.bool false] 65 wb (by rw[hw];exact Kept.refl _);rw[hgB] at c;exact zO (lx:=[(ftA,(b1,n1,d1),(none,0,0),(none,0,0)),(ftB,(b2,n2,d2),(none,0,0),(none,0,0)),(ftC,(b3,n3,d3),(none,0,0),(some ⟨gt,0,none⟩,1,1)),(ftD,(b4,n4,d4),(none,0,0),(none,0,0))]) (jO rfl c (fun _ _=>trivial) (by decide:(4:Nat)≤maxLen)) (fun z hz=>by
          rcases List.mem_cons.1 hz with rfl | hz
          · exact H1.out.kept kk
          rcases List.mem_cons.1 hz with rfl | hz
          · exact H2.out.kept kk
          rcases List.mem_cons.1 hz with rfl | hz
          · exact H3.out.kept kk
          obtain rfl:=List.mem_singleton.1 hz;exact H4.out.kept kk))
        have H1:=lH (H1.out.kept kk);have H2:=lH (H2.out.kept kk);have H3:=lH (H3.out.kept kk);have H4:=lH (H4.out.kept kk);have HP1:=lH (HP1.out.kept kk);have HQA:=lH (HQA.out.kept kk);have J:=lH (J.out.trans kk);have HHA:=lH ((kk.block _ HQA0.out).trans HHA.out);have HQA0:=lH (Nat.lt_of_lt_of_le HQA0.out kk.size);have HRN:=lH HRN0.out;try rw[hw]
        try rw[hgB]
        clear hw kk HRN0 hgB H1 H2 H3 H4;have hHeldE2:=HS.out _ J.out;refine rd1 6 fun K9 hK9=>?_;go_simp;refine hK9.out _ _ (HS.out _ (J.out.trans (ja _ _))) (fun hHeld82=>?_);clear hK9 K9;try simp only[nP]
        obtain⟨ws,hw⟩:∃W,wb.alloc (.cells #[.string ⟨#[120]⟩,.string ⟨#[]⟩,.int .i64 0,.slice p1 q1 r1,.slice none 0 0,.slice none 0 0,.slice none 0 0,.string ⟨#[]⟩,.int .i64 0,.string ⟨#[97]⟩,.bool false] 35)=W:=⟨_,rfl⟩
        have kk:Kept wb ws:=by rw[←hw];exact ja _ _
        obtain⟨gS,hgS⟩:∃g,wb.heap.size=g:=⟨_,rfl⟩
        have HRP0:=lH (show jE ws (some ⟨gS,0,none⟩) 1 ftS.pods from by
         have c:=jc wb (.string ⟨#[120]⟩) [.string ⟨#[]⟩,.int .i64 0,.slice p1 q1 r1,.slice none 0 0,.slice none 0 0,.slice none 0 0,.string ⟨#[]⟩,.int .i64 0,.string ⟨#[97]⟩,.bool false] 35 ws (by rw[hw];exact Kept.refl _);rw[hgS] at c;exact zJ (lx:=[(ftX,(p1,q1,r1),(none,0,0),(none,0,0),(none,0,0))]) (jO rfl c (fun _ _=>trivial) (by decide:(1:Nat)≤maxLen)) (fun z hz=>by
          obtain rfl:=List.mem_singleton.1 hz;exact HP1.out.kept kk))
        have HRN:=lH (HRN.out.kept kk);have HP1:=lH (HP1.out.kept kk);have HQA:=lH (HQA.out.kept kk);have J:=lH (J.out.trans kk);have HHA:=lH ((kk.block _ HQA0.out).trans HHA.out);have HQA0:=lH (Nat.lt_of_lt_of_le HQA0.out kk.size);have HRP:=lH HRP0.out;try rw[hw]
        try rw[hgS]
        clear hw kk HRP0 hgS HP1;have hHeldE3:=HS.out _ J.out;refine tkI 7 ?_;try simp only[nP]
        have z0:=HQA.out.at_ 0 _ rfl;have z1:=HQA.out.at_ 1 _ rfl;have z2:=HQA.out.at_ 2 _ rfl;have f0:=HQA.out.free 0;have f1:=HQA.out.free 1;have f2:=HQA.out.free 2;have PP:=lH (zp (vs:=[.slice (some ⟨gB,0,none⟩) 4 4,.slice (some ⟨gS,0,none⟩) 1 1,.slice none 0 0]) HQA.out rfl);refine rd1 9 fun K9 hK9=>?_;go_simp;obtain⟨WE,hWE⟩:∃W,ws.setCells gA 0 [.slice (some ⟨gB,0,none⟩) 4 4,.slice (some ⟨gS,0,none⟩) 1 1,.slice none 0 0]=W:=⟨_,rfl⟩
        have hWE2:(((ws.setCell ⟨gA,0,none⟩ (.slice (some ⟨gB,0,none⟩) 4 4)).setCell ⟨gA,1,none⟩ (.slice (some ⟨gS,0,none⟩) 1 1)).setCell ⟨gA,2,none⟩ (.slice none 0 0))=WE:=hWE;rw[hWE] at PP;try rw[hWE2]
        have RE:=lH (show jP WE (.agg #[.slice (some ⟨gB,0,none⟩) 4 4,.slice (some ⟨gS,0,none⟩) 1 1,.slice none 0 0]) ftS from zv (w:=ws) (N:=gA) PP.out.size PP.out.far (Jd HHA.out) ⟨_,_,_,rfl,⟨⟨_,_,rfl,by decide,by decide,HRN.out⟩,⟨_,_,rfl,by decide,by decide,HRP.out⟩,⟨_,_,rfl,by decide,by decide,zw _⟩⟩⟩);have JE:=lH (show Kept v7 WE by rw[←hWE];exact jA gA _ _ _ _ _ HQB.out J.out);clear hWE hWE2 z0 f0 z1 f1 z2 f2;refine hK9.out _ _ (HS.out _ JE.out) (fun hHeldS=>?_);clear hK9 K9;try simp only[nP]
        refine wpAnyH_done (by kernel_rfl) ?_ _;go_wp2;go_meet
        case rel=>exact⟨gA,gB,gS,rfl,PP.out.cells,RE.out,JE.out⟩
      · go_simp;refine hK9.out _ _ (HS.out _ (J.out.trans (ja _ _))) (fun hHeld83=>?_);clear hK9 K9;try simp only[nP]
        obtain⟨ws,hw⟩:∃W,wp.alloc (.cells #[.string ⟨#[120]⟩,.string ⟨#[]⟩,.int .i64 0,.slice p1 q1 r1,.slice none 0 0,.slice none 0 0,.slice none 0 0,.string ⟨#[]⟩,.int .i64 0,.string ⟨#[97]⟩,.bool false] 35)=W:=⟨_,rfl⟩
        have kk:Kept wp ws:=by rw[←hw];exact ja _ _
        obtain⟨gS,hgS⟩:∃g,wp.heap.size=g:=⟨_,rfl⟩
        have HRP0:=lH (show jE ws (some ⟨gS,0,none⟩) 1 ftS.pods from by
         have c:=jc wp (.string ⟨#[120]⟩) [.string ⟨#[]⟩,.int .i64 0,.slice p1 q1 r1,.slice none 0 0,.slice none 0 0,.slice none 0 0,.string ⟨#[]⟩,.int .i64 0,.string ⟨#[97]⟩,.bool false] 35 ws (by rw[hw];exact Kept.refl _);rw[hgS] at c;exact zJ (lx:=[(ftX,(p1,q1,r1),(none,0,0),(none,0,0),(none,0,0))]) (jO rfl c (fun _ _=>trivial) (by decide:(1:Nat)≤maxLen)) (fun z hz=>by
          obtain rfl:=List.mem_singleton.1 hz;exact HP1.out.kept kk))
        have H1:=lH (H1.out.kept kk);have H2:=lH (H2.out.kept kk);have H3:=lH (H3.out.kept kk);have H4:=lH (H4.out.kept kk);have HP1:=lH (HP1.out.kept kk);have HQA:=lH (HQA.out.kept kk);have J:=lH (J.out.trans kk);have HHA:=lH ((kk.block _ HQA0.out).trans HHA.out);have HQA0:=lH (Nat.lt_of_lt_of_le HQA0.out kk.size);have HRP:=lH HRP0.out;try rw[hw]
        try rw[hgS]
        clear hw kk HRP0 hgS HP1;have hHeldE2:=HS.out _ J.out;refine rd1 4 fun K9 hK9=>?_;go_simp;refine hK9.out _ _ (HS.out _ (J.out.trans (ja _ _))) (fun hHeld84=>?_);clear hK9 K9;try simp only[nP]
        obtain⟨wb,hw⟩:∃W,ws.alloc (.cells #[.string ⟨#[97]⟩,.slice b1 n1 d1,.slice none 0 0,.slice none 0 0,.bool false,.string ⟨#[98]⟩,.slice b2 n2 d2,.slice none 0 0,.slice none 0 0,.bool true,.string ⟨#[99]⟩,.slice b3 n3 d3,.slice none 0 0,.slice (some ⟨gt,0,none⟩) 1 1,.bool false,.string ⟨#[100]⟩,.slice b4 n4 d4,.slice none 0 0,.slice none 0 0,.bool false] 65)=W:=⟨_,rfl⟩
        have kk:Kept ws wb:=by rw[←hw];exact ja _ _
        obtain⟨gB,hgB⟩:∃g,ws.heap.size=g:=⟨_,rfl⟩
        have HRN0:=lH (show jt wb (some ⟨gB,0,none⟩) 4 ftS.nodes from by
         have c:=jc ws (.string ⟨#[97]⟩) [.slice b1 n1 d1,.slice none 0 0,.slice none 0 0,.bool false,.string ⟨#[98]⟩,.slice b2 n2 d2,.slice none 0 0,.slice none 0 0,.bool true,.string ⟨#[99]⟩,.slice b3 n3 d3,.slice none 0 0,.slice (some ⟨gt,0,none⟩) 1 1,.bool false,.string ⟨#[100]⟩,.slice b4 n4 d4,.slice none 0 0,.slice none 0 0,.bool false] 65 wb (by rw[hw];exact Kept.refl _);rw[hgB] at c;exact zO (lx:=[(ftA,(b1,n1,d1),(none,0,0),(none,0,0)),(ftB,(b2,n2,d2),(none,0,0),(none,0,0)),(ftC,(b3,n3,d3),(none,0,0),(some ⟨gt,0,none⟩,1,1)),(ftD,(b4,n4,d4),(none,0,0),(none,0,0))]) (jO rfl c (fun _ _=>trivial) (by decide:(4:Nat)≤maxLen)) (fun z hz=>by
          rcases List.mem_cons.1 hz with rfl | hz
          · exact H1.out.kept kk
          rcases List.mem_cons.1 hz with rfl | hz
          · exact H2.out.kept kk
          rcases List.mem_cons.1 hz with rfl | hz
          · exact H3.out.kept kk
          obtain rfl:=List.mem_singleton.1 hz;exact H4.out.kept kk))
        have H1:=lH (H1.out.kept kk);have H2:=lH (H2.out.kept kk);have H3:=lH (H3.out.kept kk);have H4:=lH (H4.out.kept kk);have HRP:=lH (HRP.out.kept kk);have HQA:=lH (HQA.out.kept kk);have J:=lH (J.out.trans kk);have HHA:=lH ((kk.block _ HQA0.out).trans HHA.out);have HQA0:=lH (Nat.lt_of_lt_of_le HQA0.out kk.size);have HRN:=lH HRN0.out;try rw[hw]
        try rw[hgB]
        clear hw kk HRN0 hgB H1 H2 H3 H4;have hHeldE3:=HS.out _ J.out;refine tkI 7 ?_;try simp only[nP]
        have z0:=HQA.out.at_ 0 _ rfl;have z1:=HQA.out.at_ 1 _ rfl;have z2:=HQA.out.at_ 2 _ rfl;have f0:=HQA.out.free 0;have f1:=HQA.out.free 1;have f2:=HQA.out.free 2;have PP:=lH (zp (vs:=[.slice (some ⟨gB,0,none⟩) 4 4,.slice (some ⟨gS,0,none⟩) 1 1,.slice none 0 0]) HQA.out rfl);refine rd1 9 fun K9 hK9=>?_;go_simp;obtain⟨WE,hWE⟩:∃W,wb.setCells gA 0 [.slice (some ⟨gB,0,none⟩) 4 4,.slice (some ⟨gS,0,none⟩) 1 1,.slice none 0 0]=W:=⟨_,rfl⟩
        have hWE2:(((wb.setCell ⟨gA,0,none⟩ (.slice (some ⟨gB,0,none⟩) 4 4)).setCell ⟨gA,1,none⟩ (.slice (some ⟨gS,0,none⟩) 1 1)).setCell ⟨gA,2,none⟩ (.slice none 0 0))=WE:=hWE;rw[hWE] at PP;try rw[hWE2]
        have RE:=lH (show jP WE (.agg #[.slice (some ⟨gB,0,none⟩) 4 4,.slice (some ⟨gS,0,none⟩) 1 1,.slice none 0 0]) ftS from zv (w:=wb) (N:=gA) PP.out.size PP.out.far (Jd HHA.out) ⟨_,_,_,rfl,⟨⟨_,_,rfl,by decide,by decide,HRN.out⟩,⟨_,_,rfl,by decide,by decide,HRP.out⟩,⟨_,_,rfl,by decide,by decide,zw _⟩⟩⟩);have JE:=lH (show Kept v7 WE by rw[←hWE];exact jA gA _ _ _ _ _ HQB.out J.out);clear hWE hWE2 z0 f0 z1 f1 z2 f2;refine hK9.out _ _ (HS.out _ JE.out) (fun hHeldS=>?_);clear hK9 K9;try simp only[nP]
        refine wpAnyH_done (by kernel_rfl) ?_ _;go_wp2;go_meet
        case rel=>exact⟨gA,gB,gS,rfl,PP.out.cells,RE.out,JE.out⟩
 case rest =>
  obtain⟨gs,x1,x2,rfl,hh⟩:=hcut;have HQ:=lH hh.out.1;have HC:=lH hh.out.2.1;have K:=lH (K.out.trans hh.out.2.2);clear hh HS H1 H2 H3 H4;have KW:=lH (Kept.refl wc);go_wp2_with fail
  refine(Jy ⟨#[121]⟩ 3 ⟨#[]⟩ (by decide:(-9223372036854775808:Int)≤3∧(3:Int)≤9223372036854775807) (by decide:(1:Nat)≤maxLen) (by decide:(0:Nat)≤maxLen) _).mono ?_;rintro e y1 ⟨p2,q2,r2,rfl,ha,kk⟩;have HQ:=lH (HQ.out.kept kk);have HC:=lH (HC.out.kept kk);have KW:=lH (KW.out.trans kk);have HY:=lH ha;clear ha kk;obtain⟨gp,hgp⟩:∃g,y1.heap.size=g:=⟨_,rfl⟩
  obtain⟨y2,hy2⟩:∃W,y1.alloc (.cells #[.string ⟨#[121]⟩,.string ⟨#[]⟩,.int .i64 0,.slice p2 q2 r2,.slice none 0 0,.slice none 0 0,.slice none 0 0,.string ⟨#[]⟩,.int .i64 0,.string ⟨#[]⟩,.bool false] 35)=W:=⟨_,rfl⟩
  have kk:Kept y1 y2:=by rw[←hy2];exact ja _ _
  have hsz:y2.heap.size=gp+1:=by rw[←hy2,World.size_alloc,hgp]
  have HSgp:=lH hsz;have CP:=lH (show je gp [.string ⟨#[121]⟩,.string ⟨#[]⟩,.int .i64 0,.slice p2 q2 r2,.slice none 0 0,.slice none 0 0,.slice none 0 0,.string ⟨#[]⟩,.int .i64 0,.string ⟨#[]⟩,.bool false] y2 from by
   have c:=jc y1 (.string ⟨#[121]⟩) [.string ⟨#[]⟩,.int .i64 0,.slice p2 q2 r2,.slice none 0 0,.slice none 0 0,.slice none 0 0,.string ⟨#[]⟩,.int .i64 0,.string ⟨#[]⟩,.bool false] 35 y2 (by rw[hy2];exact Kept.refl _);rw[hgp] at c;exact c)
  have HGgp:=lH hgp;have HNy2:=lH hy2;clear hgp hy2;have KY:=lH (show Kept y1 y2 from kk);have LP:=lH (Nat.le_of_eq HGgp.out);clear kk hsz;go_upto_region 6 with fail
  rw[HNy2.out];try rw[HGgp.out]
  clear HNy2;have u0:=CP.out.at_ 0 _ rfl;have u1:=CP.out.at_ 1 _ rfl;have u2:=CP.out.at_ 2 _ rfl;have u3:=CP.out.at_ 3 _ rfl;have u4:=CP.out.at_ 4 _ rfl;have u5:=CP.out.at_ 5 _ rfl;have u6:=CP.out.at_ 6 _ rfl;have u7:=CP.out.at_ 7 _ rfl;have u8:=CP.out.at_ 8 _ rfl;have u9:=CP.out.at_ 9 _ rfl;have u10:=CP.out.at_ 10 _ rfl;obtain⟨gq,hgq⟩:∃g,y2.heap.size=g:=⟨_,rfl⟩
  obtain⟨y3,hy3⟩:∃W,y2.alloc (.cells #[.string ⟨#[121]⟩,.string ⟨#[]⟩,.int .i64 0,.slice p2 q2 r2,.slice none 0 0,.slice none 0 0,.slice none 0 0,.string ⟨#[]⟩,.int .i64 0,.string ⟨#[]⟩,.bool false] 35)=W:=⟨_,rfl⟩
  have kk:Kept y2 y3:=by rw[←hy3];exact ja _ _
  have hsz:y3.heap.size=gq+1:=by rw[←hy3,World.size_alloc,hgq]
  have HSgq:=lH hsz;have CQ:=lH (show je gq [.string ⟨#[121]⟩,.string ⟨#[]⟩,.int .i64 0,.slice p2 q2 r2,.slice none 0 0,.slice none 0 0,.slice none 0 0,.string ⟨#[]⟩,.int .i64 0,.string ⟨#[]⟩,.bool false] y3 from by
   have c:=jc y2 (.string ⟨#[121]⟩) [.string ⟨#[]⟩,.int .i64 0,.slice p2 q2 r2,.slice none 0 0,.slice none 0 0,.slice none 0 0,.string ⟨#[]⟩,.int .i64 0,.string ⟨#[]⟩,.bool false] 35 y3 (by rw[hy3];exact Kept.refl _);rw[hgq] at c;exact c)
  have HGgq:=lH hgq;have HNy3:=lH hy3;clear hgq hy3;have KY:=lH (KY.out.trans kk);have CP:=lH (CP.out.kept kk);have GQ:=lH (show gq=gp+1 from HGgq.out.symm.trans HSgp.out);clear kk hsz;go_upto_region 7 with fail
  rw[HNy3.out];try rw[HGgq.out]
  clear HNy3 u0 u1 u2 u3 u4 u5 u6 u7 u8 u9 u10;obtain⟨gm,hgm⟩:∃g,y3.heap.size=g:=⟨_,rfl⟩
  obtain⟨y4,hy4⟩:∃W,y3.alloc (.cells #[.int .i64 3,.string ⟨#[122,111,110,101]⟩,.string ⟨#[]⟩] 74)=W:=⟨_,rfl⟩
  have kk:Kept y3 y4:=by rw[←hy4];exact ja _ _
  have hsz:y4.heap.size=gm+1:=by rw[←hy4,World.size_alloc,hgm]
  have HSgm:=lH hsz;have CM:=lH (show je gm [.int .i64 3,.string ⟨#[122,111,110,101]⟩,.string ⟨#[]⟩] y4 from by
   have c:=jc y3 (.int .i64 3) [.string ⟨#[122,111,110,101]⟩,.string ⟨#[]⟩] 74 y4 (by rw[hy4];exact Kept.refl _);rw[hgm] at c;exact c)
  have HGgm:=lH hgm;have HNy4:=lH hy4;clear hgm hy4;have KY:=lH (KY.out.trans kk);have CP:=lH (CP.out.kept kk);have CQ:=lH (CQ.out.kept kk);have GM:=lH (show gm=gp+2 from by have:=HGgm.out.symm.trans HSgq.out;have:=GQ.out;omega);clear kk hsz;have u5:=CQ.out.at_ 5 _ rfl;have f5:=CQ.out.free 5;obtain⟨y5,hy5⟩:∃W,y4.setCell ⟨gq,5,none⟩ (.slice (some ⟨gm,0,none⟩) 1 1)=W:=⟨_,rfl⟩
  have CP:=lH (show je gp [.string ⟨#[121]⟩,.string ⟨#[]⟩,.int .i64 0,.slice p2 q2 r2,.slice none 0 0,.slice none 0 0,.slice none 0 0,.string ⟨#[]⟩,.int .i64 0,.string ⟨#[]⟩,.bool false] y5 by rw[←hy5];exact CP.out.other (by have:=GQ.out;omega));have CQ:=lH (show je gq [.string ⟨#[121]⟩,.string ⟨#[]⟩,.int .i64 0,.slice p2 q2 r2,.slice none 0 0,.slice (some ⟨gm,0,none⟩) 1 1,.slice none 0 0,.string ⟨#[]⟩,.int .i64 0,.string ⟨#[]⟩,.bool false] y5 by rw[←hy5];exact CQ.out.set (j:=5) (u:=.slice (some ⟨gm,0,none⟩) 1 1) (by simp));have CM:=lH (show je gm [.int .i64 3,.string ⟨#[122,111,110,101]⟩,.string ⟨#[]⟩] y5 by rw[←hy5];exact CM.out.other (by have:=GQ.out;have:=GM.out;omega));have KY:=lH (show Kept y1 y5 by rw[←hy5];exact KY.out.setCell (p:=⟨gq,5,none⟩) (by show y1.heap.size≤gq;have:=GQ.out;have:=LP.out;omega) _);have HNy5:=lH hy5;have HS5:=lH (show y5.heap.size=gm+1 by have:=HSgm.out;rw[←hy5];simp[World.setCell,this]);clear hy5;have hy4:=HNy4.out;go_upto_region 8 with fail
  try rw[hy4]
  try rw[HGgm.out]
  try rw[HNy5.out]
  clear HNy4 HNy5 u5 f5 hy4;have u0:=CP.out.at_ 0 _ rfl;have u1:=CP.out.at_ 1 _ rfl;have u2:=CP.out.at_ 2 _ rfl;have u3:=CP.out.at_ 3 _ rfl;have u4:=CP.out.at_ 4 _ rfl;have u5:=CP.out.at_ 5 _ rfl;have u6:=CP.out.at_ 6 _ rfl;have u7:=CP.out.at_ 7 _ rfl;have u8:=CP.out.at_ 8 _ rfl;have u9:=CP.out.at_ 9 _ rfl;have u10:=CP.out.at_ 10 _ rfl;obtain⟨gr,hgr⟩:∃g,y5.heap.size=g:=⟨_,rfl⟩
  obtain⟨y6,hy6⟩:∃W,y5.alloc (.cells #[.string ⟨#[121]⟩,.string ⟨#[]⟩,.int .i64 0,.slice p2 q2 r2,.slice none 0 0,.slice none 0 0,.slice none 0 0,.string ⟨#[]⟩,.int .i64 0,.string ⟨#[]⟩,.bool false] 35)=W:=⟨_,rfl⟩
  have kk:Kept y5 y6:=by rw[←hy6];exact ja _ _
  have hsz:y6.heap.size=gr+1:=by rw[←hy6,World.size_alloc,hgr]
  have HSgr:=lH hsz;have CR:=lH (show je gr [.string ⟨#[121]⟩,.string ⟨#[]⟩,.int .i64 0,.slice p2 q2 r2,.slice none 0 0,.slice none 0 0,.slice none 0 0,.string ⟨#[]⟩,.int .i64 0,.string ⟨#[]⟩,.bool false] y6 from by
   have c:=jc y5 (.string ⟨#[121]⟩) [.string ⟨#[]⟩,.int .i64 0,.slice p2 q2 r2,.slice none 0 0,.slice none 0 0,.slice none 0 0,.string ⟨#[]⟩,.int .i64 0,.string ⟨#[]⟩,.bool false] 35 y6 (by rw[hy6];exact Kept.refl _);rw[hgr] at c;exact c)
  have HGgr:=lH hgr;have HNy6:=lH hy6;clear hgr hy6;have KY:=lH (KY.out.trans kk);have CP:=lH (CP.out.kept kk);have CQ:=lH (CQ.out.kept kk);have CM:=lH (CM.out.kept kk);have GR:=lH (show gr=gp+3 from by have:=HGgr.out.symm.trans HS5.out;have:=GM.out;omega);clear kk hsz;go_upto_region 9 with fail
  rw[HNy6.out];try rw[HGgr.out]
  clear HNy6 u0 u1 u2 u3 u4 u5 u6 u7 u8 u9 u10;have u1:=CR.out.at_ 1 _ rfl;have u7:=CR.out.at_ 7 _ rfl;have u8:=CR.out.at_ 8 _ rfl;have f1:=CR.out.free 1;have f7:=CR.out.free 7;have f8:=CR.out.free 8;obtain⟨y7,hy7⟩:∃W,((y6.setCell ⟨gr,1,none⟩ (.string ⟨#[119,101,98]⟩)).setCell ⟨gr,7,none⟩ (.string ⟨#[122,111,110,101]⟩)).setCell ⟨gr,8,none⟩ (.int .i64 1)=W:=⟨_,rfl⟩
  have CR:=lH (show je gr [.string ⟨#[121]⟩,.string ⟨#[119,101,98]⟩,.int .i64 0,.slice p2 q2 r2,.slice none 0 0,.slice none 0 0,.slice none 0 0,.string ⟨#[122,111,110,101]⟩,.int .i64 1,.string ⟨#[]⟩,.bool false] y7 by rw[←hy7];exact((CR.out.set (j:=1) (u:=.string ⟨#[119,101,98]⟩) (by simp)).set (j:=7) (u:=.string ⟨#[122,111,110,101]⟩) (by simp)).set (j:=8) (u:=.int .i64 1) (by simp));have CP:=lH (show je gp [.string ⟨#[121]⟩,.string ⟨#[]⟩,.int .i64 0,.slice p2 q2 r2,.slice none 0 0,.slice none 0 0,.slice none 0 0,.string ⟨#[]⟩,.int .i64 0,.string ⟨#[]⟩,.bool false] y7 by rw[←hy7];exact((CP.out.other (by have:=GQ.out;have:=GM.out;have:=GR.out;omega)).other (by have:=GQ.out;have:=GM.out;have:=GR.out;omega)).other (by have:=GQ.out;have:=GM.out;have:=GR.out;omega));have CQ:=lH (show je gq [.string ⟨#[121]⟩,.string ⟨#[]⟩,.int .i64 0,.slice p2 q2 r2,.slice none 0 0,.slice (some ⟨gm,0,none⟩) 1 1,.slice none 0 0,.string ⟨#[]⟩,.int .i64 0,.string ⟨#[]⟩,.bool false] y7 by rw[←hy7];exact((CQ.out.other (by have:=GQ.out;have:=GM.out;have:=GR.out;omega)).other (by have:=GQ.out;have:=GM.out;have:=GR.out;omega)).other (by have:=GQ.out;have:=GM.out;have:=GR.out;omega));have CM:=lH (show je gm [.int .i64 3,.string ⟨#[122,111,110,101]⟩,.string ⟨#[]⟩] y7 by rw[←hy7];exact((CM.out.other (by have:=GQ.out;have:=GM.out;have:=GR.out;omega)).other (by have:=GQ.out;have:=GM.out;have:=GR.out;omega)).other (by have:=GQ.out;have:=GM.out;have:=GR.out;omega));have kk:=(show Kept y1 y7 by rw[←hy7];exact((KY.out.setCell (p:=⟨gr,1,none⟩) (by show y1.heap.size≤gr;have:=GR.out;have:=LP.out;omega) _).setCell (p:=⟨gr,7,none⟩) (by show y1.heap.size≤gr;have:=GR.out;have:=LP.out;omega) _).setCell (p:=⟨gr,8,none⟩) (by show y1.heap.size≤gr;have:=GR.out;have:=LP.out;omega) _)
  have HQ:=lH (HQ.out.kept kk);have HC:=lH (HC.out.kept kk);have HY:=lH (HY.out.kept kk);have KW:=lH (KW.out.trans kk);have HNy7:=lH hy7;clear kk KY hy7;go_upto_region 10 with fail
  rw[HNy7.out];clear HNy7 u1 u7 u8 f1 f7 f8;have HYQ:=lH (show jC y7 (.slice p2 q2 r2) (.slice none 0 0) (.slice (some ⟨gm,0,none⟩) 1 1) (.slice none 0 0) ftQ from by have h:=HY.out;exact⟨h.name,h.owner,h.key,h.node,h.prio,h.most,h.need,h.labels,jfq CM.out (by decide) (by decide:(4:Nat)≤maxLen) (by decide:(0:Nat)≤maxLen),h.tols⟩);have HYR:=lH (show jC y7 (.slice p2 q2 r2) (.slice none 0 0) (.slice none 0 0) (.slice none 0 0) ftR from by have h:=HY.out;exact⟨h.name,(by decide:(3:Nat)≤maxLen),(by decide:(4:Nat)≤maxLen),h.node,h.prio,(by decide:(-9223372036854775808:Int)≤1∧(1:Int)≤9223372036854775807),h.need,h.labels,h.sel,h.tols⟩);have s0:=HQ.out.at_ 0 _ rfl;have s1:=HQ.out.at_ 1 _ rfl;have s2:=HQ.out.at_ 2 _ rfl;have u0:=CP.out.at_ 0 _ rfl;have u1:=CP.out.at_ 1 _ rfl;have u2:=CP.out.at_ 2 _ rfl;have u3:=CP.out.at_ 3 _ rfl;have u4:=CP.out.at_ 4 _ rfl;have u5:=CP.out.at_ 5 _ rfl;have u6:=CP.out.at_ 6 _ rfl;have u7:=CP.out.at_ 7 _ rfl;have u8:=CP.out.at_ 8 _ rfl;have u9:=CP.out.at_ 9 _ rfl;have u10:=CP.out.at_ 10 _ rfl;have HW:=jcF (some ⟨x1,0,none⟩) (some ⟨x2,0,none⟩) none 4 4 1 1 0 0 p2 none none none q2 r2 0 0 0 0 0 0 ftY ftS y7 HC.out Z7 HY.out;rw[jgK] at HW;go_wp2_with fail
  refine HW.mono ?_;clear HW;rintro e y8 ⟨v9,rfl,ho,kk⟩;obtain⟨la,lc,rfl,-,-,hrow⟩:=ho.reads;rw[show ([7,8,9,0]:List Int).length=4 from rfl] at hrow;try rw[show ([7,8,9,0]:List Int).length=4 from rfl]
  obtain⟨bw,ow,rfl⟩:=hrow.form.resolve_left (by decide);have cw0:y8.cell? ⟨bw,ow,none⟩=some (.int .i64 7):=by
   obtain⟨x,hx,-,-,c⟩:=hrow.err (k:=0) (by decide);obtain rfl:(7:Int)=x:=Option.some.inj (show some (7:Int)=some x from hx);exact c
  have cw1:y8.cell? ⟨bw,ow+1,none⟩=some (.int .i64 8):=by
   obtain⟨x,hx,-,-,c⟩:=hrow.err (k:=1) (by decide);obtain rfl:(8:Int)=x:=Option.some.inj (show some (8:Int)=some x from hx);exact c
  have cw2:y8.cell? ⟨bw,ow+2,none⟩=some (.int .i64 9):=by
   obtain⟨x,hx,-,-,c⟩:=hrow.err (k:=2) (by decide);obtain rfl:(9:Int)=x:=Option.some.inj (show some (9:Int)=some x from hx);exact c
  have cw3:y8.cell? ⟨bw,ow+3,none⟩=some (.int .i64 0):=by
   obtain⟨x,hx,-,-,c⟩:=hrow.err (k:=3) (by decide);obtain rfl:(0:Int)=x:=Option.some.inj (show some (0:Int)=some x from hx);exact c
  have HQ:=lH (HQ.out.kept kk);have HC:=lH (HC.out.kept kk);have HY:=lH (HY.out.kept kk);have CP:=lH (CP.out.kept kk);have CQ:=lH (CQ.out.kept kk);have CR:=lH (CR.out.kept kk);have HYQ:=lH (HYQ.out.kept kk);have HYR:=lH (HYR.out.kept kk);have KW:=lH (KW.out.trans kk);clear kk ho hrow s0 s1 s2 u0 u1 u2 u3 u4 u5 u6 u7 u8 u9 u10;have HS:=lH (show ∀W,Kept y8 W→W.cell? ⟨gs,0,none⟩=some (.slice (some ⟨x1,0,none⟩) 4 4)∧W.cell? ⟨gs,1,none⟩=some (.slice (some ⟨x2,0,none⟩) 1 1)∧W.cell? ⟨gs,2,none⟩=some (.slice none 0 0)∧W.cell? ⟨gp,0,none⟩=some (.string ⟨#[121]⟩)∧W.cell? ⟨gp,1,none⟩=some (.string ⟨#[]⟩)∧W.cell? ⟨gp,2,none⟩=some (.int .i64 0)∧W.cell? ⟨gp,3,none⟩=some (.slice p2 q2 r2)∧W.cell? ⟨gp,4,none⟩=some (.slice none 0 0)∧W.cell? ⟨gp,5,none⟩=some (.slice none 0 0)∧W.cell? ⟨gp,6,none⟩=some (.slice none 0 0)∧W.cell? ⟨gp,7,none⟩=some (.string ⟨#[]⟩)∧W.cell? ⟨gp,8,none⟩=some (.int .i64 0)∧W.cell? ⟨gp,9,none⟩=some (.string ⟨#[]⟩)∧W.cell? ⟨gp,10,none⟩=some (.bool false)∧W.cell? ⟨gq,0,none⟩=some (.string ⟨#[121]⟩)∧W.cell? ⟨gq,1,none⟩=some (.string ⟨#[]⟩)∧W.cell? ⟨gq,2,none⟩=some (.int .i64 0)∧W.cell? ⟨gq,3,none⟩=some (.slice p2 q2 r2)∧W.cell? ⟨gq,4,none⟩=some (.slice none 0 0)∧W.cell? ⟨gq,5,none⟩=some (.slice (some ⟨gm,0,none⟩) 1 1)∧W.cell? ⟨gq,6,none⟩=some (.slice none 0 0)∧W.cell? ⟨gq,7,none⟩=some (.string ⟨#[]⟩)∧W.cell? ⟨gq,8,none⟩=some (.int .i64 0)∧W.cell? ⟨gq,9,none⟩=some (.string ⟨#[]⟩)∧W.cell? ⟨gq,10,none⟩=some (.bool false)∧W.cell? ⟨gr,0,none⟩=some (.string ⟨#[121]⟩)∧W.cell? ⟨gr,1,none⟩=some (.string ⟨#[119,101,98]⟩)∧W.cell? ⟨gr,2,none⟩=some (.int .i64 0)∧W.cell? ⟨gr,3,none⟩=some (.slice p2 q2 r2)∧W.cell? ⟨gr,4,none⟩=some (.slice none 0 0)∧W.cell? ⟨gr,5,none⟩=some (.slice none 0 0)∧W.cell? ⟨gr,6,none⟩=some (.slice none 0 0)∧W.cell? ⟨gr,7,none⟩=some (.string ⟨#[122,111,110,101]⟩)∧W.cell? ⟨gr,8,none⟩=some (.int .i64 1)∧W.cell? ⟨gr,9,none⟩=some (.string ⟨#[]⟩)∧W.cell? ⟨gr,10,none⟩=some (.bool false)∧W.cell? ⟨bw,ow,none⟩=some (.int .i64 7)∧W.cell? ⟨bw,ow+1,none⟩=some (.int .i64 8)∧W.cell? ⟨bw,ow+2,none⟩=some (.int .i64 9)∧W.cell? ⟨bw,ow+3,none⟩=some (.int .i64 0) from fun W k=>by
   have h1:=HQ.out.kept k;have h2:=CP.out.kept k;have h3:=CQ.out.kept k;have h4:=CR.out.kept k;exact⟨h1.at_ 0 _ rfl,h1.at_ 1 _ rfl,h1.at_ 2 _ rfl,h2.at_ 0 _ rfl,h2.at_ 1 _ rfl,h2.at_ 2 _ rfl,h2.at_ 3 _ rfl,h2.at_ 4 _ rfl,h2.at_ 5 _ rfl,h2.at_ 6 _ rfl,h2.at_ 7 _ rfl,h2.at_ 8 _ rfl,h2.at_ 9 _ rfl,h2.at_ 10 _ rfl,h3.at_ 0 _ rfl,h3.at_ 1 _ rfl,h3.at_ 2 _ rfl,h3.at_ 3 _ rfl,h3.at_ 4 _ rfl,h3.at_ 5 _ rfl,h3.at_ 6 _ rfl,h3.at_ 7 _ rfl,h3.at_ 8 _ rfl,h3.at_ 9 _ rfl,h3.at_ 10 _ rfl,h4.at_ 0 _ rfl,h4.at_ 1 _ rfl,h4.at_ 2 _ rfl,h4.at_ 3 _ rfl,h4.at_ 4 _ rfl,h4.at_ 5 _ rfl,h4.at_ 6 _ rfl,h4.at_ 7 _ rfl,h4.at_ 8 _ rfl,h4.at_ 9 _ rfl,h4.at_ 10 _ rfl,cell_later k cw0,cell_later k cw1,cell_later k cw2,cell_later k cw3⟩)
  go_upto_region 13 with fail
  clear cw0 cw1 cw2 cw3;have HF1:=lH (show ∀W,Kept y8 W→Calls Tryz.prog 16 #[.agg #[.slice (some ⟨x1,0,none⟩) 4 4,.slice (some ⟨x2,0,none⟩) 1 1,.slice none 0 0],.agg #[.string ⟨#[121]⟩,.string ⟨#[]⟩,.int .i64 0,.slice p2 q2 r2,.slice none 0 0,.slice none 0 0,.slice none 0 0,.string ⟨#[]⟩,.int .i64 0,.string ⟨#[]⟩,.bool false],.string ⟨#[122]⟩] W (Say (.int .i64 3) W) from fun W k=>by
   have h:=ZB (some ⟨x1,0,none⟩) (some ⟨x2,0,none⟩) none 4 4 1 1 0 0 p2 none none none q2 r2 0 0 0 0 0 0 ftY ftS ⟨#[122]⟩ W (HC.out.kept k) Z7 (HY.out.kept k);rw[jgU] at h;exact h)
  have HF2:=lH (show ∀W,Kept y8 W→Calls Tryz.prog 16 #[.agg #[.slice (some ⟨x1,0,none⟩) 4 4,.slice (some ⟨x2,0,none⟩) 1 1,.slice none 0 0],.agg #[.string ⟨#[121]⟩,.string ⟨#[]⟩,.int .i64 0,.slice p2 q2 r2,.slice none 0 0,.slice (some ⟨gm,0,none⟩) 1 1,.slice none 0 0,.string ⟨#[]⟩,.int .i64 0,.string ⟨#[]⟩,.bool false],.string ⟨#[100]⟩] W (Say (.int .i64 8) W) from fun W k=>by
   have h:=ZB (some ⟨x1,0,none⟩) (some ⟨x2,0,none⟩) none 4 4 1 1 0 0 p2 none (some ⟨gm,0,none⟩) none q2 r2 0 0 1 1 0 0 ftQ ftS ⟨#[100]⟩ W (HC.out.kept k) Z7 (HYQ.out.kept k);rw[jgP] at h;exact h)
  have HF3:=lH (show ∀W,Kept y8 W→Calls Tryz.prog 16 #[.agg #[.slice (some ⟨x1,0,none⟩) 4 4,.slice (some ⟨x2,0,none⟩) 1 1,.slice none 0 0],.agg #[.string ⟨#[121]⟩,.string ⟨#[119,101,98]⟩,.int .i64 0,.slice p2 q2 r2,.slice none 0 0,.slice none 0 0,.slice none 0 0,.string ⟨#[122,111,110,101]⟩,.int .i64 1,.string ⟨#[]⟩,.bool false],.string ⟨#[100]⟩] W (Say (.int .i64 10) W) from fun W k=>by
   have h:=ZB (some ⟨x1,0,none⟩) (some ⟨x2,0,none⟩) none 4 4 1 1 0 0 p2 none none none q2 r2 0 0 0 0 0 0 ftR ftS ⟨#[100]⟩ W (HC.out.kept k) Z7 (HYR.out.kept k);rw[jgA] at h;exact h)
  have HFN:=lH (show ∀W,Kept y8 W→Calls Tryz.prog 12 #[.agg #[.slice (some ⟨x1,0,none⟩) 4 4,.slice (some ⟨x2,0,none⟩) 1 1,.slice none 0 0],.agg #[.string ⟨#[121]⟩,.string ⟨#[]⟩,.int .i64 0,.slice p2 q2 r2,.slice none 0 0,.slice none 0 0,.slice none 0 0,.string ⟨#[]⟩,.int .i64 0,.string ⟨#[]⟩,.bool false]] W (fun e w'=>∃v,e=.returned v∧Reads j4 w' v [⟨#[100]⟩]∧Kept W w') from fun W k=>by
   have h:=XJ (some ⟨x1,0,none⟩) (some ⟨x2,0,none⟩) none 4 4 1 1 0 0 p2 none none none q2 r2 0 0 0 0 0 0 ftY ftS W (HC.out.kept k) Z7 (HY.out.kept k);rw[jga] at h;exact h.mono fun e w' ⟨v,e1,e2,e3⟩=>⟨v,e1,e2.reads,e3⟩)
  refine wp_region_held_drew (S:=fun W=>W.cell? ⟨gs,0,none⟩=some (.slice (some ⟨x1,0,none⟩) 4 4)∧W.cell? ⟨gs,1,none⟩=some (.slice (some ⟨x2,0,none⟩) 1 1)∧W.cell? ⟨gs,2,none⟩=some (.slice none 0 0)∧W.cell? ⟨gp,0,none⟩=some (.string ⟨#[121]⟩)∧W.cell? ⟨gp,1,none⟩=some (.string ⟨#[]⟩)∧W.cell? ⟨gp,2,none⟩=some (.int .i64 0)∧W.cell? ⟨gp,3,none⟩=some (.slice p2 q2 r2)∧W.cell? ⟨gp,4,none⟩=some (.slice none 0 0)∧W.cell? ⟨gp,5,none⟩=some (.slice none 0 0)∧W.cell? ⟨gp,6,none⟩=some (.slice none 0 0)∧W.cell? ⟨gp,7,none⟩=some (.string ⟨#[]⟩)∧W.cell? ⟨gp,8,none⟩=some (.int .i64 0)∧W.cell? ⟨gp,9,none⟩=some (.string ⟨#[]⟩)∧W.cell? ⟨gp,10,none⟩=some (.bool false)∧W.cell? ⟨gq,0,none⟩=some (.string ⟨#[121]⟩)∧W.cell? ⟨gq,1,none⟩=some (.string ⟨#[]⟩)∧W.cell? ⟨gq,2,none⟩=some (.int .i64 0)∧W.cell? ⟨gq,3,none⟩=some (.slice p2 q2 r2)∧W.cell? ⟨gq,4,none⟩=some (.slice none 0 0)∧W.cell? ⟨gq,5,none⟩=some (.slice (some ⟨gm,0,none⟩) 1 1)∧W.cell? ⟨gq,6,none⟩=some (.slice none 0 0)∧W.cell? ⟨gq,7,none⟩=some (.string ⟨#[]⟩)∧W.cell? ⟨gq,8,none⟩=some (.int .i64 0)∧W.cell? ⟨gq,9,none⟩=some (.string ⟨#[]⟩)∧W.cell? ⟨gq,10,none⟩=some (.bool false)∧W.cell? ⟨gr,0,none⟩=some (.string ⟨#[121]⟩)∧W.cell? ⟨gr,1,none⟩=some (.string ⟨#[119,101,98]⟩)∧W.cell? ⟨gr,2,none⟩=some (.int .i64 0)∧W.cell? ⟨gr,3,none⟩=some (.slice p2 q2 r2)∧W.cell? ⟨gr,4,none⟩=some (.slice none 0 0)∧W.cell? ⟨gr,5,none⟩=some (.slice none 0 0)∧W.cell? ⟨gr,6,none⟩=some (.slice none 0 0)∧W.cell? ⟨gr,7,none⟩=some (.string ⟨#[122,111,110,101]⟩)∧W.cell? ⟨gr,8,none⟩=some (.int .i64 1)∧W.cell? ⟨gr,9,none⟩=some (.string ⟨#[]⟩)∧W.cell? ⟨gr,10,none⟩=some (.bool false)∧W.cell? ⟨bw,ow,none⟩=some (.int .i64 7)∧W.cell? ⟨bw,ow+1,none⟩=some (.int .i64 8)∧W.cell? ⟨bw,ow+2,none⟩=some (.int .i64 9)∧W.cell? ⟨bw,ow+3,none⟩=some (.int .i64 0)) (by kernel_rfl) (HS.out _ (Kept.drew y8)) (fun hHeld=>?_);refine tkI 0 ?_;refine tkI 1 ?_;refine tkI 2 ?_;refine tkI 3 ?_;refine tkI 4 ?_;refine tkI 5 ?_;refine tkI 6 ?_;refine tkI 7 ?_;refine tkI 8 ?_;refine tkI 9 ?_;refine tkI 10 ?_;refine tkI 11 ?_;refine tkI 12 ?_;refine tkI 13 ?_;refine tkI 14 ?_;refine tkI 15 ?_;refine tkI 16 ?_;refine tkI 17 ?_;refine tkI 18 ?_;refine tkI 19 ?_;refine tkI 20 ?_;refine tkI 21 ?_;refine tkI 22 ?_;refine tkI 23 ?_;refine tkI 24 ?_;try simp only[nP]
  have J:=lH (Kept.drew y8);obtain⟨wq,hwq⟩:∃W,y8.drew=W:=⟨_,rfl⟩
  rw[hwq] at hHeld J;try rw[hwq]
  clear hwq;refine rdH (rs:=[25,26]) (h:=coH (fun K9 hK9=>?_) (coH (fun K9 hK9=>?_) AllReadyH.nil))
  · go_simp;refine(HFN.out _ J.out).mono ?_;rintro e wn ⟨vn,rfl,hr,kk⟩;have J:=lH (J.out.trans kk);have HV:=lH hr;clear hr kk;refine hK9.out _ _ (HS.out _ J.out) (fun hHeld201=>?_);clear hK9 K9;try simp only[nP]
    refine rd1 26 fun K9 hK9=>?_;go_simp;refine hK9.out _ _ (HS.out _ (J.out.trans (ja _ _))) (fun hHeld202=>?_);clear hK9 K9;try simp only[nP]
    obtain⟨wl,hwl⟩:∃W,wn.alloc (.cells #[.string ⟨#[100]⟩] 9)=W:=⟨_,rfl⟩
    have kk:Kept wn wl:=by rw[←hwl];exact ja _ _
    have HL:=lH (ja4 (x:=⟨#[100]⟩) (jc wn (.string ⟨#[100]⟩) [] 9 wl (by rw[hwl];exact Kept.refl _)) (by decide:(1:Nat)≤maxLen));have J:=lH (J.out.trans kk);have HV:=lH (HV.out.kept kk);try rw[hwl]
    clear hwl kk;refine rd1 27 fun K9 hK9=>?_;go_simp;refine(jdC HV.out HL.out).mono ?_;rintro e wm ⟨rfl,kk⟩;have J:=lH (J.out.trans kk);clear kk HV HL;refine hK9.out _ _ (HS.out _ J.out) (fun hHeld203=>?_);clear hK9 K9;try simp only[nP]
    refine tkI 28 ?_;refine tkI 29 ?_;refine tkI 30 ?_;refine tkI 31 ?_;try simp only[nP]
    refine rd1 32 fun K9 hK9=>?_;go_simp;refine(HF1.out _ J.out).mono ?_;rintro e wf1 ⟨rfl,kk⟩;have J:=lH (J.out.trans kk);clear kk;refine hK9.out _ _ (HS.out _ J.out) (fun hHeld204=>?_);clear hK9 K9;try simp only[nP]
    refine tkI 33 ?_;refine tkI 34 ?_;refine tkI 35 ?_;refine tkI 36 ?_;refine tkI 37 ?_;try simp only[nP]
    refine rd1 38 fun K9 hK9=>?_;go_simp;refine(HF2.out _ J.out).mono ?_;rintro e wf2 ⟨rfl,kk⟩;have J:=lH (J.out.trans kk);clear kk;refine hK9.out _ _ (HS.out _ J.out) (fun hHeld205=>?_);clear hK9 K9;try simp only[nP]
    refine tkI 39 ?_;refine tkI 40 ?_;refine tkI 41 ?_;refine tkI 42 ?_;refine tkI 43 ?_;try simp only[nP]
    refine rd1 44 fun K9 hK9=>?_;go_simp;refine(HF3.out _ J.out).mono ?_;rintro e wf3 ⟨rfl,kk⟩;have J:=lH (J.out.trans kk);clear kk;refine hK9.out _ _ (HS.out _ J.out) (fun hHeld206=>?_);clear hK9 K9;try simp only[nP]
    refine tkI 45 ?_;refine tkI 46 ?_;refine tkI 47 ?_;refine tkI 48 ?_;try simp only[nP]
    refine rd1 49 fun K9 hK9=>?_;go_simp;refine(Jy ⟨#[120]⟩ 5 ⟨#[97]⟩ (by decide:(-9223372036854775808:Int)≤5∧(5:Int)≤9223372036854775807) (by decide:(1:Nat)≤maxLen) (by decide:(1:Nat)≤maxLen) _).mono ?_;rintro e wz ⟨p3,q3,r3,rfl,ha,kk⟩;have J:=lH (J.out.trans kk);have HZ:=lH ha;clear ha kk;refine hK9.out _ _ (HS.out _ J.out) (fun hHeld207=>?_);clear hK9 K9;try simp only[nP]
    refine rd1 50 fun K9 hK9=>?_;go_simp;have h:=ZB (some ⟨x1,0,none⟩) (some ⟨x2,0,none⟩) none 4 4 1 1 0 0 p3 none none none q3 r3 0 0 0 0 0 0 ftZ ftS ⟨#[97]⟩ wz (HC.out.kept J.out) Z7 HZ.out;rw[jgy] at h;refine h.mono ?_;clear h HZ;rintro e wy ⟨rfl,kk⟩;have J:=lH (J.out.trans kk);clear kk;refine hK9.out _ _ (HS.out _ J.out) (fun hHeld208=>?_);clear hK9 K9;try simp only[nP]
    refine tkI 51 ?_;refine tkI 52 ?_;refine tkI 53 ?_;try simp only[nP]
    refine wpAnyH_done (by kernel_rfl) ?_ _;go_wp2;go_ret;exact⟨rfl,K.out.trans (KW.out.trans J.out)⟩
  · go_simp;refine hK9.out _ _ (HS.out _ (J.out.trans (ja _ _))) (fun hHeld209=>?_);clear hK9 K9;try simp only[nP]
    obtain⟨wl,hwl⟩:∃W,wq.alloc (.cells #[.string ⟨#[100]⟩] 9)=W:=⟨_,rfl⟩
    have kk:Kept wq wl:=by rw[←hwl];exact ja _ _
    have HL:=lH (ja4 (x:=⟨#[100]⟩) (jc wq (.string ⟨#[100]⟩) [] 9 wl (by rw[hwl];exact Kept.refl _)) (by decide:(1:Nat)≤maxLen));have J:=lH (J.out.trans kk);try rw[hwl]
    clear hwl kk;refine rd1 25 fun K9 hK9=>?_;go_simp;refine(HFN.out _ J.out).mono ?_;rintro e wn ⟨vn,rfl,hr,kk⟩;have J:=lH (J.out.trans kk);have HV:=lH hr;have HL:=lH (HL.out.kept kk);clear hr kk;refine hK9.out _ _ (HS.out _ J.out) (fun hHeld210=>?_);clear hK9 K9;try simp only[nP]
    refine rd1 27 fun K9 hK9=>?_;go_simp;refine(jdC HV.out HL.out).mono ?_;rintro e wm ⟨rfl,kk⟩;have J:=lH (J.out.trans kk);clear kk HV HL;refine hK9.out _ _ (HS.out _ J.out) (fun hHeld211=>?_);clear hK9 K9;try simp only[nP]
    refine tkI 28 ?_;refine tkI 29 ?_;refine tkI 30 ?_;refine tkI 31 ?_;try simp only[nP]
    refine rd1 32 fun K9 hK9=>?_;go_simp;refine(HF1.out _ J.out).mono ?_;rintro e wf1 ⟨rfl,kk⟩;have J:=lH (J.out.trans kk);clear kk;refine hK9.out _ _ (HS.out _ J.out) (fun hHeld212=>?_);clear hK9 K9;try simp only[nP]
    refine tkI 33 ?_;refine tkI 34 ?_;refine tkI 35 ?_;refine tkI 36 ?_;refine tkI 37 ?_;try simp only[nP]
    refine rd1 38 fun K9 hK9=>?_;go_simp;refine(HF2.out _ J.out).mono ?_;rintro e wf2 ⟨rfl,kk⟩;have J:=lH (J.out.trans kk);clear kk;refine hK9.out _ _ (HS.out _ J.out) (fun hHeld213=>?_);clear hK9 K9;try simp only[nP]
    refine tkI 39 ?_;refine tkI 40 ?_;refine tkI 41 ?_;refine tkI 42 ?_;refine tkI 43 ?_;try simp only[nP]
    refine rd1 44 fun K9 hK9=>?_;go_simp;refine(HF3.out _ J.out).mono ?_;rintro e wf3 ⟨rfl,kk⟩;have J:=lH (J.out.trans kk);clear kk;refine hK9.out _ _ (HS.out _ J.out) (fun hHeld214=>?_);clear hK9 K9;try simp only[nP]
    refine tkI 45 ?_;refine tkI 46 ?_;refine tkI 47 ?_;refine tkI 48 ?_;try simp only[nP]
    refine rd1 49 fun K9 hK9=>?_;go_simp;refine(Jy ⟨#[120]⟩ 5 ⟨#[97]⟩ (by decide:(-9223372036854775808:Int)≤5∧(5:Int)≤9223372036854775807) (by decide:(1:Nat)≤maxLen) (by decide:(1:Nat)≤maxLen) _).mono ?_;rintro e wz ⟨p3,q3,r3,rfl,ha,kk⟩;have J:=lH (J.out.trans kk);have HZ:=lH ha;clear ha kk;refine hK9.out _ _ (HS.out _ J.out) (fun hHeld215=>?_);clear hK9 K9;try simp only[nP]
    refine rd1 50 fun K9 hK9=>?_;go_simp;have h:=ZB (some ⟨x1,0,none⟩) (some ⟨x2,0,none⟩) none 4 4 1 1 0 0 p3 none none none q3 r3 0 0 0 0 0 0 ftZ ftS ⟨#[97]⟩ wz (HC.out.kept J.out) Z7 HZ.out;rw[jgy] at h;refine h.mono ?_;clear h HZ;rintro e wy ⟨rfl,kk⟩;have J:=lH (J.out.trans kk);clear kk;refine hK9.out _ _ (HS.out _ J.out) (fun hHeld216=>?_);clear hK9 K9;try simp only[nP]
    refine tkI 51 ?_;refine tkI 52 ?_;refine tkI 53 ?_;try simp only[nP]
    refine wpAnyH_done (by kernel_rfl) ?_ _;go_wp2;go_ret;exact⟨rfl,K.out.trans (KW.out.trans J.out)⟩
end Go.Proofs.YtgfoenfaohhjcabGreat
