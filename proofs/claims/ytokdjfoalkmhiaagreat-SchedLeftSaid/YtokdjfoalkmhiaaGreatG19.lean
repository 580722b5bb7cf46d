/- C. -/
import Derived.Test.YtokdjfoalkmhiaaGreatG12
import Derived.Test.YtokdjfoalkmhiaaGreatG15
import Derived.Test.YtokdjfoalkmhiaaGreatG18
set_option linter.unusedVariables false
set_option maxRecDepth 100000
set_option maxHeartbeats 25600000
namespace Go.Proofs.YtokdjfoalkmhiaaGreat
open Go.RowKit
theorem Y0 {w:World} {y:Value} {s:Clu} (h:jB w y s):∃s1 n1 e1 s2 n2 e2 s3 n3 e3,y=zP (.slice s1 n1 e1) (.slice s2 n2 e2) (.slice s3 n3 e3):=by
 obtain⟨_,_,_,rfl,⟨a,c,rfl,-⟩,⟨b,d,rfl,-⟩,⟨e,f,rfl,-⟩⟩:=h;exact⟨a,_,c,b,_,d,e,_,f,rfl⟩
theorem moved_mem {x y:ByteArray}:∀{l:List Pd} {n:Pd},n ∈ Ji x y l→∃q ∈ l,n.need=q.need∧n.labels=q.labels∧n.sel=q.sel∧n.tols=q.tols
 | [],n,h=>by cases h
 | z::t,n,h=>by
  rw[Ji] at h;split at h
  · rcases List.mem_cons.1 h with rfl | h
    · exact⟨z,by simp,rfl,rfl,rfl,rfl⟩
    · exact⟨n,by simp[h],rfl,rfl,rfl,rfl⟩
  · rcases List.mem_cons.1 h with rfl | h
    · exact⟨n,by simp,rfl,rfl,rfl,rfl⟩
    · obtain⟨q,hq,g⟩:=moved_mem h;exact⟨q,by simp[hq],g⟩
theorem jlM:jA sdU:=⟨Z9.nodes,fun n hn=>by
 have hn':n ∈ Ji ⟨#[122]⟩ ⟨#[97]⟩ (Ji ⟨#[121]⟩ ⟨#[97]⟩ sdS.pods):=hn;rcases moved_mem hn' with ⟨q,hq,h⟩;rcases moved_mem hq with ⟨r,hr,g⟩;have hl:=Z9.pods r hr;exact⟨by rw[h.1,g.1];exact hl.need,by rw[h.2.1,g.2.1];exact hl.labels,by rw[h.2.2.1,g.2.2.1];exact hl.sel,by rw[h.2.2.2,g.2.2.2];exact hl.tols⟩,Z9.buds,Z9.nodesN,(by
 show (Ji _ _ (Ji _ _ sdS.pods)).length≤100000;rw[jay,jay];exact(by decide:(3:Nat)≤100000)),Z9.budsN⟩
theorem jf2 (w:World):Calls Tryz.prog 6 #[] w (Say (.bool true) w):=by
 go_enter Tryz.func6,Tryz.ntmps6;go_wp2_with fail
 refine(jbh ⟨#[120]⟩ 6 ⟨#[]⟩ (by decide:(-9223372036854775808:Int)≤6∧(6:Int)≤9223372036854775807) (by decide:(1:Nat)≤maxLen) (by decide:(0:Nat)≤maxLen) _).mono ?_;rintro e w1 ⟨b1,n1,d1,rfl,ha,k⟩;have K:=lH k;have To:=lH ha;clear k ha;go_wp2_with fail
 refine(jbh ⟨#[121]⟩ 6 ⟨#[]⟩ (by decide:(-9223372036854775808:Int)≤6∧(6:Int)≤9223372036854775807) (by decide:(1:Nat)≤maxLen) (by decide:(0:Nat)≤maxLen) _).mono ?_;rintro e w2 ⟨b2,n2,d2,rfl,ha,k⟩;obtain⟨K,To,TW⟩:=lH3 (K.out.trans k) (To.out.kept k) ha;clear k ha;go_wp2_with fail
 refine(jbh ⟨#[122]⟩ 3 ⟨#[]⟩ (by decide:(-9223372036854775808:Int)≤3∧(3:Int)≤9223372036854775807) (by decide:(1:Nat)≤maxLen) (by decide:(0:Nat)≤maxLen) _).mono ?_;rintro e w3 ⟨b3,n3,d3,rfl,ha,k⟩;obtain⟨K,To,TW,R8⟩:=lH4 (K.out.trans k) (To.out.kept k) (TW.out.kept k) ha;clear k ha;obtain⟨K0,Vi,Vg,TE⟩:=lH4 K.out To.out TW.out R8.out;obtain⟨g1,hg1⟩:=eX (w3.heap.size)
 obtain⟨z1,hz1⟩:=eX (w3.alloc (.cells #[.string ⟨#[]⟩,.string ⟨#[]⟩,.int .i64 0,.slice none 0 0,.slice none 0 0,.slice none 0 0,.slice none 0 0,.string ⟨#[]⟩,.int .i64 0,.string ⟨#[]⟩,.bool false] 44))
 have hs1:z1.heap.size=g1+1:=by rw[←hz1,World.size_alloc,hg1]
 have kz1:Kept w3 z1:=by rw[←hz1];exact ja _ _
 have c1:je g1 [.string ⟨#[]⟩,.string ⟨#[]⟩,.int .i64 0,.slice none 0 0,.slice none 0 0,.slice none 0 0,.slice none 0 0,.string ⟨#[]⟩,.int .i64 0,.string ⟨#[]⟩,.bool false] z1:=by
  have c:=jb w3 (.string ⟨#[]⟩) [.string ⟨#[]⟩,.int .i64 0,.slice none 0 0,.slice none 0 0,.slice none 0 0,.slice none 0 0,.string ⟨#[]⟩,.int .i64 0,.string ⟨#[]⟩,.bool false] 44 z1 (by rw[hz1];exact Kept.refl _);rw[hg1] at c;exact c
 obtain⟨g2,hg2⟩:=eX (z1.heap.size)
 obtain⟨z2,hz2⟩:=eX (z1.alloc (.cells #[.string ⟨#[]⟩,.string ⟨#[]⟩,.int .i64 0,.slice none 0 0,.slice none 0 0,.slice none 0 0,.slice none 0 0,.string ⟨#[]⟩,.int .i64 0,.string ⟨#[]⟩,.bool false] 44))
 have hs2:z2.heap.size=g2+1:=by rw[←hz2,World.size_alloc,hg2]
 have kz2:Kept z1 z2:=by rw[←hz2];exact ja _ _
 have c2:je g2 [.string ⟨#[]⟩,.string ⟨#[]⟩,.int .i64 0,.slice none 0 0,.slice none 0 0,.slice none 0 0,.slice none 0 0,.string ⟨#[]⟩,.int .i64 0,.string ⟨#[]⟩,.bool false] z2:=by
  have c:=jb z1 (.string ⟨#[]⟩) [.string ⟨#[]⟩,.int .i64 0,.slice none 0 0,.slice none 0 0,.slice none 0 0,.slice none 0 0,.string ⟨#[]⟩,.int .i64 0,.string ⟨#[]⟩,.bool false] 44 z2 (by rw[hz2];exact Kept.refl _);rw[hg2] at c;exact c
 obtain⟨g3,hg3⟩:=eX (z2.heap.size)
 obtain⟨z3,hz3⟩:=eX (z2.alloc (.cells #[.string ⟨#[]⟩,.string ⟨#[]⟩,.int .i64 0,.slice none 0 0,.slice none 0 0,.slice none 0 0,.slice none 0 0,.string ⟨#[]⟩,.int .i64 0,.string ⟨#[]⟩,.bool false] 44))
 have hs3:z3.heap.size=g3+1:=by rw[←hz3,World.size_alloc,hg3]
 have kz3:Kept z2 z3:=by rw[←hz3];exact ja _ _
 have c3:je g3 [.string ⟨#[]⟩,.string ⟨#[]⟩,.int .i64 0,.slice none 0 0,.slice none 0 0,.slice none 0 0,.slice none 0 0,.string ⟨#[]⟩,.int .i64 0,.string ⟨#[]⟩,.bool false] z3:=by
  have c:=jb z2 (.string ⟨#[]⟩) [.string ⟨#[]⟩,.int .i64 0,.slice none 0 0,.slice none 0 0,.slice none 0 0,.slice none 0 0,.string ⟨#[]⟩,.int .i64 0,.string ⟨#[]⟩,.bool false] 44 z3 (by rw[hz3];exact Kept.refl _);rw[hg3] at c;exact c
 have c1:=c1.kept (kz2.trans kz3);have c2:=c2.kept kz3;have hgl:w3.heap.size=g1∧g2=g1+1∧g3=g1+2:=⟨hg1,by omega,by omega⟩
 have Uu:=lH hgl;have KZ:=lH ((kz1.trans kz2).trans kz3);have e12:¬g1=g2:=by omega
 have e13:¬g1=g3:=by omega
 have e21:¬g2=g1:=by omega
 have e23:¬g2=g3:=by omega
 have e31:¬g3=g1:=by omega
 have e32:¬g3=g2:=by omega
 clear hgl hs1 hs2 hs3 kz1 kz2 kz3;have u10:=c1.at_ 0 _ rfl;have u11:=c1.at_ 1 _ rfl;have u12:=c1.at_ 2 _ rfl;have u13:=c1.at_ 3 _ rfl;have u14:=c1.at_ 4 _ rfl;have u15:=c1.at_ 5 _ rfl;have u16:=c1.at_ 6 _ rfl;have u17:=c1.at_ 7 _ rfl;have u18:=c1.at_ 8 _ rfl;have u19:=c1.at_ 9 _ rfl;have u110:=c1.at_ 10 _ rfl;have f10:=c1.free 0;have f11:=c1.free 1;have f12:=c1.free 2;have f13:=c1.free 3;have f14:=c1.free 4;have f15:=c1.free 5;have f16:=c1.free 6;have f17:=c1.free 7;have f18:=c1.free 8;have f19:=c1.free 9;have f110:=c1.free 10;obtain⟨v1,hv1⟩:=eX (z3.setCells g1 0 [.string ⟨#[120]⟩,.string ⟨#[]⟩,.int .i64 0,.slice b1 n1 d1,.slice none 0 0,.slice none 0 0,.slice none 0 0,.string ⟨#[]⟩,.int .i64 0,.string ⟨#[]⟩,.bool false])
 have hn1:(((((((((((z3.setCell ⟨g1,0,none⟩ (.string ⟨#[120]⟩)).setCell ⟨g1,1,none⟩ (.string ⟨#[]⟩)).setCell ⟨g1,2,none⟩ (.int .i64 0)).setCell ⟨g1,3,none⟩ (.slice b1 n1 d1)).setCell ⟨g1,4,none⟩ (.slice none 0 0)).setCell ⟨g1,5,none⟩ (.slice none 0 0)).setCell ⟨g1,6,none⟩ (.slice none 0 0)).setCell ⟨g1,7,none⟩ (.string ⟨#[]⟩)).setCell ⟨g1,8,none⟩ (.int .i64 0)).setCell ⟨g1,9,none⟩ (.string ⟨#[]⟩)).setCell ⟨g1,10,none⟩ (.bool false))=v1:=hv1;have p1:=j4 (vs:=[.string ⟨#[120]⟩,.string ⟨#[]⟩,.int .i64 0,.slice b1 n1 d1,.slice none 0 0,.slice none 0 0,.slice none 0 0,.string ⟨#[]⟩,.int .i64 0,.string ⟨#[]⟩,.bool false]) c1 rfl;rw[hv1] at p1;obtain⟨c1,-,hb1,hk1⟩:=p1;have c2:=c2.block (hb1 g2 e21);have c3:=c3.block (hb1 g3 e31);have KZ:=lH (hk1 _ _ (by have:=Uu.out;omega) KZ.out);clear hv1 hb1 hk1;have u20:=c2.at_ 0 _ rfl;have u21:=c2.at_ 1 _ rfl;have u22:=c2.at_ 2 _ rfl;have u23:=c2.at_ 3 _ rfl;have u24:=c2.at_ 4 _ rfl;have u25:=c2.at_ 5 _ rfl;have u26:=c2.at_ 6 _ rfl;have u27:=c2.at_ 7 _ rfl;have u28:=c2.at_ 8 _ rfl;have u29:=c2.at_ 9 _ rfl;have u210:=c2.at_ 10 _ rfl;have f20:=c2.free 0;have f21:=c2.free 1;have f22:=c2.free 2;have f23:=c2.free 3;have f24:=c2.free 4;have f25:=c2.free 5;have f26:=c2.free 6;have f27:=c2.free 7;have f28:=c2.free 8;have f29:=c2.free 9;have f210:=c2.free 10;obtain⟨v2,hv2⟩:=eX (v1.setCells g2 0 [.string ⟨#[121]⟩,.string ⟨#[]⟩,.int .i64 0,.slice b2 n2 d2,.slice none 0 0,.slice none 0 0,.slice none 0 0,.string ⟨#[]⟩,.int .i64 0,.string ⟨#[]⟩,.bool false])
 have hn2:(((((((((((v1.setCell ⟨g2,0,none⟩ (.string ⟨#[121]⟩)).setCell ⟨g2,1,none⟩ (.string ⟨#[]⟩)).setCell ⟨g2,2,none⟩ (.int .i64 0)).setCell ⟨g2,3,none⟩ (.slice b2 n2 d2)).setCell ⟨g2,4,none⟩ (.slice none 0 0)).setCell ⟨g2,5,none⟩ (.slice none 0 0)).setCell ⟨g2,6,none⟩ (.slice none 0 0)).setCell ⟨g2,7,none⟩ (.string ⟨#[]⟩)).setCell ⟨g2,8,none⟩ (.int .i64 0)).setCell ⟨g2,9,none⟩ (.string ⟨#[]⟩)).setCell ⟨g2,10,none⟩ (.bool false))=v2:=hv2;have p2:=j4 (vs:=[.string ⟨#[121]⟩,.string ⟨#[]⟩,.int .i64 0,.slice b2 n2 d2,.slice none 0 0,.slice none 0 0,.slice none 0 0,.string ⟨#[]⟩,.int .i64 0,.string ⟨#[]⟩,.bool false]) c2 rfl;rw[hv2] at p2;obtain⟨c2,-,hb2,hk2⟩:=p2;have c1:=c1.block (hb2 g1 e12);have c3:=c3.block (hb2 g3 e32);have KZ:=lH (hk2 _ _ (by have:=Uu.out;omega) KZ.out);clear hv2 hb2 hk2;have u30:=c3.at_ 0 _ rfl;have u31:=c3.at_ 1 _ rfl;have u32:=c3.at_ 2 _ rfl;have u33:=c3.at_ 3 _ rfl;have u34:=c3.at_ 4 _ rfl;have u35:=c3.at_ 5 _ rfl;have u36:=c3.at_ 6 _ rfl;have u37:=c3.at_ 7 _ rfl;have u38:=c3.at_ 8 _ rfl;have u39:=c3.at_ 9 _ rfl;have u310:=c3.at_ 10 _ rfl;have f30:=c3.free 0;have f31:=c3.free 1;have f32:=c3.free 2;have f33:=c3.free 3;have f34:=c3.free 4;have f35:=c3.free 5;have f36:=c3.free 6;have f37:=c3.free 7;have f38:=c3.free 8;have f39:=c3.free 9;have f310:=c3.free 10;obtain⟨v3,hv3⟩:=eX (v2.setCells g3 0 [.string ⟨#[122]⟩,.string ⟨#[]⟩,.int .i64 0,.slice b3 n3 d3,.slice none 0 0,.slice none 0 0,.slice none 0 0,.string ⟨#[]⟩,.int .i64 0,.string ⟨#[]⟩,.bool false])
 have hn3:(((((((((((v2.setCell ⟨g3,0,none⟩ (.string ⟨#[122]⟩)).setCell ⟨g3,1,none⟩ (.string ⟨#[]⟩)).setCell ⟨g3,2,none⟩ (.int .i64 0)).setCell ⟨g3,3,none⟩ (.slice b3 n3 d3)).setCell ⟨g3,4,none⟩ (.slice none 0 0)).setCell ⟨g3,5,none⟩ (.slice none 0 0)).setCell ⟨g3,6,none⟩ (.slice none 0 0)).setCell ⟨g3,7,none⟩ (.string ⟨#[]⟩)).setCell ⟨g3,8,none⟩ (.int .i64 0)).setCell ⟨g3,9,none⟩ (.string ⟨#[]⟩)).setCell ⟨g3,10,none⟩ (.bool false))=v3:=hv3;have p3:=j4 (vs:=[.string ⟨#[122]⟩,.string ⟨#[]⟩,.int .i64 0,.slice b3 n3 d3,.slice none 0 0,.slice none 0 0,.slice none 0 0,.string ⟨#[]⟩,.int .i64 0,.string ⟨#[]⟩,.bool false]) c3 rfl;rw[hv3] at p3;obtain⟨c3,-,hb3,hk3⟩:=p3;have c1:=c1.block (hb3 g1 e13);have c2:=c2.block (hb3 g2 e23);have KZ:=lH (hk3 _ _ (by have:=Uu.out;omega) KZ.out);clear hv3 hb3 hk3;obtain⟨C1,C2,C3⟩:=lH3 c1 c2 c3;clear c1 c2 c3;go_upto_region 2 with fail
 try rw[hn1]
 try rw[hn2]
 try rw[hn3]
 clear hn1 hn2 hn3 hz1 hz2 hz3 hg1 hg2 hg3 u10 f10 u11 f11 u12 f12 u13 f13 u14 f14 u15 f15 u16 f16 u17 f17 u18 f18 u19 f19 u110 f110 u20 f20 u21 f21 u22 f22 u23 f23 u24 f24 u25 f25 u26 f26 u27 f27 u28 f28 u29 f29 u210 f210 u30 f30 u31 f31 u32 f32 u33 f33 u34 f34 u35 f35 u36 f36 u37 f37 u38 f38 u39 f39 u310 f310;have y2:=C2.out.at_ 2 _ rfl;have f2:=C2.out.free 2;obtain⟨v7,hv7⟩:=eX (v3.setCell ⟨g2,2,none⟩ (.int .i64 5))
 obtain⟨C2,C1,C3,KB⟩:=lH4 (show je g2 [.string ⟨#[121]⟩,.string ⟨#[]⟩,.int .i64 5,.slice b2 n2 d2,.slice none 0 0,.slice none 0 0,.slice none 0 0,.string ⟨#[]⟩,.int .i64 0,.string ⟨#[]⟩,.bool false] v7 by rw[←hv7];exact C2.out.set (j:=2) (u:=.int .i64 5) (by simp)) (show je g1 [.string ⟨#[120]⟩,.string ⟨#[]⟩,.int .i64 0,.slice b1 n1 d1,.slice none 0 0,.slice none 0 0,.slice none 0 0,.string ⟨#[]⟩,.int .i64 0,.string ⟨#[]⟩,.bool false] v7 by rw[←hv7];exact C1.out.other e12) (show je g3 [.string ⟨#[122]⟩,.string ⟨#[]⟩,.int .i64 0,.slice b3 n3 d3,.slice none 0 0,.slice none 0 0,.slice none 0 0,.string ⟨#[]⟩,.int .i64 0,.string ⟨#[]⟩,.bool false] v7 by rw[←hv7];exact C3.out.other e32) (show Kept w3 v7 by rw[←hv7];exact KZ.out.setCell (p:=⟨g2,2,none⟩) (by show w3.heap.size≤g2;have:=Uu.out;omega) _);clear KZ;go_upto_region 3 with fail
 try rw[hv7]
 clear hv7 y2 f2;obtain⟨H1,H2,H3,K⟩:=lH4 (show At4 v7 (sdX,(b1,n1,d1),(none,0,0),(none,0,0),(none,0,0)) from Vi.out.kept KB.out) (show At4 v7 (sdY,(b2,n2,d2),(none,0,0),(none,0,0),(none,0,0)) from by have h:=Vg.out.kept KB.out;exact⟨h.name,h.owner,h.key,h.node,(by decide:(-9223372036854775808:Int)≤5∧(5:Int)≤9223372036854775807),h.most,h.need,h.labels,h.sel,h.tols⟩) (show At4 v7 (sdZ,(b3,n3,d3),(none,0,0),(none,0,0),(none,0,0)) from TE.out.kept KB.out) (K0.out.trans KB.out);clear Vi Vg TE To TW R8 KB;have HS:=lH (show ∀W,Kept v7 W→W.cell? ⟨g1,0,none⟩=some (.string ⟨#[120]⟩)∧W.cell? ⟨g1,1,none⟩=some (.string ⟨#[]⟩)∧W.cell? ⟨g1,2,none⟩=some (.int .i64 0)∧W.cell? ⟨g1,3,none⟩=some (.slice b1 n1 d1)∧W.cell? ⟨g1,4,none⟩=some (.slice none 0 0)∧W.cell? ⟨g1,5,none⟩=some (.slice none 0 0)∧W.cell? ⟨g1,6,none⟩=some (.slice none 0 0)∧W.cell? ⟨g1,7,none⟩=some (.string ⟨#[]⟩)∧W.cell? ⟨g1,8,none⟩=some (.int .i64 0)∧W.cell? ⟨g1,9,none⟩=some (.string ⟨#[]⟩)∧W.cell? ⟨g1,10,none⟩=some (.bool false)∧W.cell? ⟨g2,0,none⟩=some (.string ⟨#[121]⟩)∧W.cell? ⟨g2,1,none⟩=some (.string ⟨#[]⟩)∧W.cell? ⟨g2,2,none⟩=some (.int .i64 5)∧W.cell? ⟨g2,3,none⟩=some (.slice b2 n2 d2)∧W.cell? ⟨g2,4,none⟩=some (.slice none 0 0)∧W.cell? ⟨g2,5,none⟩=some (.slice none 0 0)∧W.cell? ⟨g2,6,none⟩=some (.slice none 0 0)∧W.cell? ⟨g2,7,none⟩=some (.string ⟨#[]⟩)∧W.cell? ⟨g2,8,none⟩=some (.int .i64 0)∧W.cell? ⟨g2,9,none⟩=some (.string ⟨#[]⟩)∧W.cell? ⟨g2,10,none⟩=some (.bool false)∧W.cell? ⟨g3,0,none⟩=some (.string ⟨#[122]⟩)∧W.cell? ⟨g3,1,none⟩=some (.string ⟨#[]⟩)∧W.cell? ⟨g3,2,none⟩=some (.int .i64 0)∧W.cell? ⟨g3,3,none⟩=some (.slice b3 n3 d3)∧W.cell? ⟨g3,4,none⟩=some (.slice none 0 0)∧W.cell? ⟨g3,5,none⟩=some (.slice none 0 0)∧W.cell? ⟨g3,6,none⟩=some (.slice none 0 0)∧W.cell? ⟨g3,7,none⟩=some (.string ⟨#[]⟩)∧W.cell? ⟨g3,8,none⟩=some (.int .i64 0)∧W.cell? ⟨g3,9,none⟩=some (.string ⟨#[]⟩)∧W.cell? ⟨g3,10,none⟩=some (.bool false) from fun W k=>by
  have q1:=C1.out.kept k;have q2:=C2.out.kept k;have q3:=C3.out.kept k;exact⟨q1.at_ 0 _ rfl,q1.at_ 1 _ rfl,q1.at_ 2 _ rfl,q1.at_ 3 _ rfl,q1.at_ 4 _ rfl,q1.at_ 5 _ rfl,q1.at_ 6 _ rfl,q1.at_ 7 _ rfl,q1.at_ 8 _ rfl,q1.at_ 9 _ rfl,q1.at_ 10 _ rfl,q2.at_ 0 _ rfl,q2.at_ 1 _ rfl,q2.at_ 2 _ rfl,q2.at_ 3 _ rfl,q2.at_ 4 _ rfl,q2.at_ 5 _ rfl,q2.at_ 6 _ rfl,q2.at_ 7 _ rfl,q2.at_ 8 _ rfl,q2.at_ 9 _ rfl,q2.at_ 10 _ rfl,q3.at_ 0 _ rfl,q3.at_ 1 _ rfl,q3.at_ 2 _ rfl,q3.at_ 3 _ rfl,q3.at_ 4 _ rfl,q3.at_ 5 _ rfl,q3.at_ 6 _ rfl,q3.at_ 7 _ rfl,q3.at_ 8 _ rfl,q3.at_ 9 _ rfl,q3.at_ 10 _ rfl⟩)
 go_cut [4] from 14 to 20 (fun s4 wx=>∃q x1 x2,s4=.pointer (some ⟨q,0,none⟩)∧Hid (je q [.slice (some ⟨x1,0,none⟩) 1 1,.slice (some ⟨x2,0,none⟩) 3 3,.slice none 0 0] wx∧jB wx (.agg #[.slice (some ⟨x1,0,none⟩) 1 1,.slice (some ⟨x2,0,none⟩) 3 3,.slice none 0 0]) sdS∧Kept v7 wx))
 case first =>
  refine wp_region_held_drew (S:=fun W=>W.cell? ⟨g1,0,none⟩=some (.string ⟨#[120]⟩)∧W.cell? ⟨g1,1,none⟩=some (.string ⟨#[]⟩)∧W.cell? ⟨g1,2,none⟩=some (.int .i64 0)∧W.cell? ⟨g1,3,none⟩=some (.slice b1 n1 d1)∧W.cell? ⟨g1,4,none⟩=some (.slice none 0 0)∧W.cell? ⟨g1,5,none⟩=some (.slice none 0 0)∧W.cell? ⟨g1,6,none⟩=some (.slice none 0 0)∧W.cell? ⟨g1,7,none⟩=some (.string ⟨#[]⟩)∧W.cell? ⟨g1,8,none⟩=some (.int .i64 0)∧W.cell? ⟨g1,9,none⟩=some (.string ⟨#[]⟩)∧W.cell? ⟨g1,10,none⟩=some (.bool false)∧W.cell? ⟨g2,0,none⟩=some (.string ⟨#[121]⟩)∧W.cell? ⟨g2,1,none⟩=some (.string ⟨#[]⟩)∧W.cell? ⟨g2,2,none⟩=some (.int .i64 5)∧W.cell? ⟨g2,3,none⟩=some (.slice b2 n2 d2)∧W.cell? ⟨g2,4,none⟩=some (.slice none 0 0)∧W.cell? ⟨g2,5,none⟩=some (.slice none 0 0)∧W.cell? ⟨g2,6,none⟩=some (.slice none 0 0)∧W.cell? ⟨g2,7,none⟩=some (.string ⟨#[]⟩)∧W.cell? ⟨g2,8,none⟩=some (.int .i64 0)∧W.cell? ⟨g2,9,none⟩=some (.string ⟨#[]⟩)∧W.cell? ⟨g2,10,none⟩=some (.bool false)∧W.cell? ⟨g3,0,none⟩=some (.string ⟨#[122]⟩)∧W.cell? ⟨g3,1,none⟩=some (.string ⟨#[]⟩)∧W.cell? ⟨g3,2,none⟩=some (.int .i64 0)∧W.cell? ⟨g3,3,none⟩=some (.slice b3 n3 d3)∧W.cell? ⟨g3,4,none⟩=some (.slice none 0 0)∧W.cell? ⟨g3,5,none⟩=some (.slice none 0 0)∧W.cell? ⟨g3,6,none⟩=some (.slice none 0 0)∧W.cell? ⟨g3,7,none⟩=some (.string ⟨#[]⟩)∧W.cell? ⟨g3,8,none⟩=some (.int .i64 0)∧W.cell? ⟨g3,9,none⟩=some (.string ⟨#[]⟩)∧W.cell? ⟨g3,10,none⟩=some (.bool false)) (by kernel_rfl) (HS.out _ (Kept.drew v7)) (fun hHeld=>?_);refine tR 2 rfl (by kernel_rfl) (fun _ _ _=>id) (Or.inl ⟨by rfl,by rintro W ⟨o0,o1,o2,o3,o4,o5,o6,o7,o8,o9,o10,o11,o12,o13,o14,o15,o16,o17,o18,o19,o20,o21,o22,o23,o24,o25,o26,o27,o28,o29,o30,o31,o32⟩;go_simp<;>with_reducible rfl⟩) ‹_› ?_;refine tR 3 rfl (by kernel_rfl) (fun _ _ _=>id) (Or.inl ⟨by rfl,by rintro W ⟨o0,o1,o2,o3,o4,o5,o6,o7,o8,o9,o10,o11,o12,o13,o14,o15,o16,o17,o18,o19,o20,o21,o22,o23,o24,o25,o26,o27,o28,o29,o30,o31,o32⟩;go_simp<;>with_reducible rfl⟩) ‹_› ?_;refine tR 4 rfl (by kernel_rfl) (fun _ _ _=>id) (Or.inl ⟨by rfl,by rintro W ⟨o0,o1,o2,o3,o4,o5,o6,o7,o8,o9,o10,o11,o12,o13,o14,o15,o16,o17,o18,o19,o20,o21,o22,o23,o24,o25,o26,o27,o28,o29,o30,o31,o32⟩;go_simp<;>with_reducible rfl⟩) ‹_› ?_;try simp only[nA,nB,nC,nD,nE]
  have J:=lH (Kept.drew v7);obtain⟨wq,hwq⟩:=eX (v7.drew)
  rw[hwq] at hHeld J;try rw[hwq]
  obtain⟨H1,H2,H3⟩:=lH3 (ji.kept H1.out (show Kept v7 wq from J.out)) (ji.kept H2.out (show Kept v7 wq from J.out)) (ji.kept H3.out (show Kept v7 wq from J.out));clear hwq;refine wpAnyH_ready  (rs:=[0,5,7]) (by kernel_rfl) (by simp) (AllReadyH.cons  (by rw[List.getElem?_toArray];exact rfl) (fun K9 Ky=>?_) (AllReadyH.cons  (by rw[List.getElem?_toArray];exact rfl) (fun K9 Ky=>?_) (AllReadyH.cons  (by rw[List.getElem?_toArray];exact rfl) (fun K9 Ky=>?_) AllReadyH.nil)))
  · go_simp;refine(Xp ⟨#[97]⟩ 10 (by decide:(-9223372036854775808:Int)≤10∧(10:Int)≤9223372036854775807) (by decide:(1:Nat)≤maxLen) _).mono ?_;rintro e wp ⟨p1,q1,r1,rfl,ha,kk⟩;obtain⟨H1,H2,H3,J,Vk⟩:=lH5 (ji.kept H1.out kk) (ji.kept H2.out kk) (ji.kept H3.out kk) (J.out.trans kk) ha;clear ha kk;refine Ky.out _ _ (HS.out _ J.out) (fun _=>?_);clear Ky K9;try simp only[nA,nB,nC,nD,nE]
    refine wpAnyH_ready  (rs:=[1,5,7]) (by kernel_rfl) (by simp) (AllReadyH.cons  (by rw[List.getElem?_toArray];exact rfl) (fun K9 Ky=>?_) (AllReadyH.cons  (by rw[List.getElem?_toArray];exact rfl) (fun K9 Ky=>?_) (AllReadyH.cons  (by rw[List.getElem?_toArray];exact rfl) (fun K9 Ky=>?_) AllReadyH.nil)))
    · go_simp;refine Ky.out _ _ (HS.out _ (J.out.trans (ja _ _))) (fun _=>?_);clear Ky K9;try simp only[nA,nB,nC,nD,nE]
      obtain⟨wb,hw⟩:=eX (wp.alloc (.cells #[.string ⟨#[97]⟩,.slice p1 q1 r1,.slice none 0 0,.slice none 0 0,.bool false] 57))
      have kk:Kept wp wb:=by rw[←hw];exact ja _ _
      obtain⟨gB,hgB⟩:=eX (wp.heap.size)
      have Vh:=lH (show jt wb (some ⟨gB,0,none⟩) 1 sdS.nodes from by
       have c:=jb wp (.string ⟨#[97]⟩) [.slice p1 q1 r1,.slice none 0 0,.slice none 0 0,.bool false] 57 wb (by rw[hw];exact Kept.refl _);rw[hgB] at c;exact zF (lx:=[(Yo ⟨#[97]⟩ 10,(p1,q1,r1),(none,0,0),(none,0,0))]) (jT rfl c (fun _ _=>trivial) (by decide:(1:Nat)≤maxLen)) (fun z hz=>by
        obtain rfl:=List.mem_singleton.1 hz;exact Vk.out.kept kk))
      obtain⟨H1,H2,H3,Vk,J,Vu⟩:=lH6 (ji.kept H1.out kk) (ji.kept H2.out kk) (ji.kept H3.out kk) (Vk.out.kept kk) (J.out.trans kk) Vh.out;try rw[hw]
      try rw[hgB]
      clear hw kk Vh hgB Vk;have hHeldE1:=HS.out _ J.out;refine wpAnyH_ready  (rs:=[5,7]) (by kernel_rfl) (by simp) (AllReadyH.cons  (by rw[List.getElem?_toArray];exact rfl) (fun K9 Ky=>?_) (AllReadyH.cons  (by rw[List.getElem?_toArray];exact rfl) (fun K9 Ky=>?_) AllReadyH.nil))
      · go_simp;refine Ky.out _ _ (HS.out _ (J.out.trans (ja _ _))) (fun _=>?_);clear Ky K9;try simp only[nA,nB,nC,nD,nE]
        obtain⟨ws,hw⟩:=eX (wb.alloc (.cells #[.string ⟨#[120]⟩,.string ⟨#[]⟩,.int .i64 0,.slice b1 n1 d1,.slice none 0 0,.slice none 0 0,.slice none 0 0,.string ⟨#[]⟩,.int .i64 0,.string ⟨#[]⟩,.bool false,.string ⟨#[121]⟩,.string ⟨#[]⟩,.int .i64 5,.slice b2 n2 d2,.slice none 0 0,.slice none 0 0,.slice none 0 0,.string ⟨#[]⟩,.int .i64 0,.string ⟨#[]⟩,.bool false,.string ⟨#[122]⟩,.string ⟨#[]⟩,.int .i64 0,.slice b3 n3 d3,.slice none 0 0,.slice none 0 0,.slice none 0 0,.string ⟨#[]⟩,.int .i64 0,.string ⟨#[]⟩,.bool false] 44))
        have kk:Kept wb ws:=by rw[←hw];exact ja _ _
        obtain⟨gS,hgS⟩:=eX (wb.heap.size)
        have Vp:=lH (show jC ws (some ⟨gS,0,none⟩) 3 sdS.pods from by
         have c:=jb wb (.string ⟨#[120]⟩) [.string ⟨#[]⟩,.int .i64 0,.slice b1 n1 d1,.slice none 0 0,.slice none 0 0,.slice none 0 0,.string ⟨#[]⟩,.int .i64 0,.string ⟨#[]⟩,.bool false,.string ⟨#[121]⟩,.string ⟨#[]⟩,.int .i64 5,.slice b2 n2 d2,.slice none 0 0,.slice none 0 0,.slice none 0 0,.string ⟨#[]⟩,.int .i64 0,.string ⟨#[]⟩,.bool false,.string ⟨#[122]⟩,.string ⟨#[]⟩,.int .i64 0,.slice b3 n3 d3,.slice none 0 0,.slice none 0 0,.slice none 0 0,.string ⟨#[]⟩,.int .i64 0,.string ⟨#[]⟩,.bool false] 44 ws (by rw[hw];exact Kept.refl _);rw[hgS] at c;exact JO (lx:=[(sdX,(b1,n1,d1),(none,0,0),(none,0,0),(none,0,0)),(sdY,(b2,n2,d2),(none,0,0),(none,0,0),(none,0,0)),(sdZ,(b3,n3,d3),(none,0,0),(none,0,0),(none,0,0))]) (jT rfl c (fun _ _=>trivial) (by decide:(3:Nat)≤maxLen)) (fun z hz=>by
          rcases List.mem_cons.1 hz with rfl | hz
          · exact ji.kept H1.out kk
          rcases List.mem_cons.1 hz with rfl | hz
          · exact ji.kept H2.out kk
          obtain rfl:=List.mem_singleton.1 hz;exact ji.kept H3.out kk))
        obtain⟨Vu,J,Vm⟩:=lH3 (Vu.out.kept kk) (J.out.trans kk) Vp.out;try rw[hw]
        try rw[hgS]
        clear hw kk Vp hgS H1 H2 H3;have hHeldE2:=HS.out _ J.out;refine tR 6 rfl (by kernel_rfl) (fun _ _ _=>id) (Or.inl ⟨by rfl,by rintro W ⟨o0,o1,o2,o3,o4,o5,o6,o7,o8,o9,o10,o11,o12,o13,o14,o15,o16,o17,o18,o19,o20,o21,o22,o23,o24,o25,o26,o27,o28,o29,o30,o31,o32⟩;go_simp<;>with_reducible rfl⟩) ‹_› ?_;try simp only[nA,nB,nC,nD,nE]
        refine rd1 7 fun K9 Ky=>?_;go_simp;refine Ky.out _ _ (HS.out _ (J.out.trans (ja _ _))) (fun _=>?_);clear Ky K9;try simp only[nA,nB,nC,nD,nE]
        obtain⟨wa,hw⟩:=eX (ws.alloc (.cells #[.slice none 0 0,.slice none 0 0,.slice none 0 0] 26))
        have kk:Kept ws wa:=by rw[←hw];exact ja _ _
        obtain⟨gA,hgA⟩:=eX (ws.heap.size)
        have Vq:=lH (show v7.heap.size≤gA by rw[←hgA];exact J.out.size);have hqa:je gA [.slice none 0 0,.slice none 0 0,.slice none 0 0] wa:=by
         have c:=jb ws (.slice none 0 0) [.slice none 0 0,.slice none 0 0] 26 wa (by rw[hw];exact Kept.refl _);rw[hgA] at c;exact c
        have hha:wa.heap[gA]?=some (.cells #[.slice none 0 0,.slice none 0 0,.slice none 0 0] 26):=by rw[←hw,←hgA];exact World.alloc_heap_new ws _
        obtain⟨Vu,Vm,J,Va,Vn,Vb⟩:=lH6 (Vu.out.kept kk) (Vm.out.kept kk) (J.out.trans kk) hqa hha hqa.lt;try rw[hw]
        try rw[hgA]
        clear hw kk hqa hha hgA;have hHeldE3:=HS.out _ J.out;have z0:=Va.out.at_ 0 _ rfl;have z1:=Va.out.at_ 1 _ rfl;have z2:=Va.out.at_ 2 _ rfl;have f0:=Va.out.free 0;have f1:=Va.out.free 1;have f2:=Va.out.free 2;have PP:=lH (j4 (vs:=[.slice (some ⟨gB,0,none⟩) 1 1,.slice (some ⟨gS,0,none⟩) 3 3,.slice none 0 0]) Va.out rfl);refine rd1 8 fun K9 Ky=>?_;go_simp;obtain⟨WE,hWE⟩:=eX (wa.setCells gA 0 [.slice (some ⟨gB,0,none⟩) 1 1,.slice (some ⟨gS,0,none⟩) 3 3,.slice none 0 0])
        have hWE2:(((wa.setCell ⟨gA,0,none⟩ (.slice (some ⟨gB,0,none⟩) 1 1)).setCell ⟨gA,1,none⟩ (.slice (some ⟨gS,0,none⟩) 3 3)).setCell ⟨gA,2,none⟩ (.slice none 0 0))=WE:=hWE;rw[hWE] at PP;try rw[hWE2]
        have RE:=lH (show jB WE (.agg #[.slice (some ⟨gB,0,none⟩) 1 1,.slice (some ⟨gS,0,none⟩) 3 3,.slice none 0 0]) sdS from zH (w:=wa) (N:=gA) PP.out.size PP.out.far (Jz Vn.out) ⟨_,_,_,rfl,⟨⟨_,_,rfl,by decide,by decide,Vu.out⟩,⟨_,_,rfl,by decide,by decide,Vm.out⟩,⟨_,_,rfl,by decide,by decide,zI _⟩⟩⟩);have JE:=lH (show Kept v7 WE by rw[←hWE];exact js gA _ _ _ _ _ Vq.out J.out);clear hWE hWE2 z0 f0 z1 f1 z2 f2;refine Ky.out _ _ (HS.out _ JE.out) (fun _=>?_);clear Ky K9;try simp only[nA,nB,nC,nD,nE]
        refine wpAnyH_done (by kernel_rfl) ?_ _;go_wp2;go_meet
        case rel=>exact⟨gA,gB,gS,rfl,PP.out.cells,RE.out,JE.out⟩
      · go_simp;refine Ky.out _ _ (HS.out _ (J.out.trans (ja _ _))) (fun _=>?_);clear Ky K9;try simp only[nA,nB,nC,nD,nE]
        obtain⟨wa,hw⟩:=eX (wb.alloc (.cells #[.slice none 0 0,.slice none 0 0,.slice none 0 0] 26))
        have kk:Kept wb wa:=by rw[←hw];exact ja _ _
        obtain⟨gA,hgA⟩:=eX (wb.heap.size)
        have Vq:=lH (show v7.heap.size≤gA by rw[←hgA];exact J.out.size);have hqa:je gA [.slice none 0 0,.slice none 0 0,.slice none 0 0] wa:=by
         have c:=jb wb (.slice none 0 0) [.slice none 0 0,.slice none 0 0] 26 wa (by rw[hw];exact Kept.refl _);rw[hgA] at c;exact c
        have hha:wa.heap[gA]?=some (.cells #[.slice none 0 0,.slice none 0 0,.slice none 0 0] 26):=by rw[←hw,←hgA];exact World.alloc_heap_new wb _
        obtain⟨H1,H2,H3,Vu,J,Va,Vn,Vb⟩:=lH8 (ji.kept H1.out kk) (ji.kept H2.out kk) (ji.kept H3.out kk) (Vu.out.kept kk) (J.out.trans kk) hqa hha hqa.lt;try rw[hw]
        try rw[hgA]
        clear hw kk hqa hha hgA;have hHeldE2:=HS.out _ J.out;refine rd1 5 fun K9 Ky=>?_;go_simp;refine Ky.out _ _ (HS.out _ (J.out.trans (ja _ _))) (fun _=>?_);clear Ky K9;try simp only[nA,nB,nC,nD,nE]
        obtain⟨ws,hw⟩:=eX (wa.alloc (.cells #[.string ⟨#[120]⟩,.string ⟨#[]⟩,.int .i64 0,.slice b1 n1 d1,.slice none 0 0,.slice none 0 0,.slice none 0 0,.string ⟨#[]⟩,.int .i64 0,.string ⟨#[]⟩,.bool false,.string ⟨#[121]⟩,.string ⟨#[]⟩,.int .i64 5,.slice b2 n2 d2,.slice none 0 0,.slice none 0 0,.slice none 0 0,.string ⟨#[]⟩,.int .i64 0,.string ⟨#[]⟩,.bool false,.string ⟨#[122]⟩,.string ⟨#[]⟩,.int .i64 0,.slice b3 n3 d3,.slice none 0 0,.slice none 0 0,.slice none 0 0,.string ⟨#[]⟩,.int .i64 0,.string ⟨#[]⟩,.bool false] 44))
        have kk:Kept wa ws:=by rw[←hw];exact ja _ _
        obtain⟨gS,hgS⟩:=eX (wa.heap.size)
        have Vp:=lH (show jC ws (some ⟨gS,0,none⟩) 3 sdS.pods from by
         have c:=jb wa (.string ⟨#[120]⟩) [.string ⟨#[]⟩,.int .i64 0,.slice b1 n1 d1,.slice none 0 0,.slice none 0 0,.slice none 0 0,.string ⟨#[]⟩,.int .i64 0,.string ⟨#[]⟩,.bool false,.string ⟨#[121]⟩,.string ⟨#[]⟩,.int .i64 5,.slice b2 n2 d2,.slice none 0 0,.slice none 0 0,.slice none 0 0,.string ⟨#[]⟩,.int .i64 0,.string ⟨#[]⟩,.bool false,.string ⟨#[122]⟩,.string ⟨#[]⟩,.int .i64 0,.slice b3 n3 d3,.slice none 0 0,.slice none 0 0,.slice none 0 0,.string ⟨#[]⟩,.int .i64 0,.string ⟨#[]⟩,.bool false] 44 ws (by rw[hw];exact Kept.refl _);rw[hgS] at c;exact JO (lx:=[(sdX,(b1,n1,d1),(none,0,0),(none,0,0),(none,0,0)),(sdY,(b2,n2,d2),(none,0,0),(none,0,0),(none,0,0)),(sdZ,(b3,n3,d3),(none,0,0),(none,0,0),(none,0,0))]) (jT rfl c (fun _ _=>trivial) (by decide:(3:Nat)≤maxLen)) (fun z hz=>by
          rcases List.mem_cons.1 hz with rfl | hz
          · exact ji.kept H1.out kk
          rcases List.mem_cons.1 hz with rfl | hz
          · exact ji.kept H2.out kk
          obtain rfl:=List.mem_singleton.1 hz;exact ji.kept H3.out kk))
        obtain⟨Vu,Va,J,Vn,Vb,Vm⟩:=lH6 (Vu.out.kept kk) (Va.out.kept kk) (J.out.trans kk) ((kk.block _ Vb.out).trans Vn.out) (Nat.lt_of_lt_of_le Vb.out kk.size) Vp.out;try rw[hw]
        try rw[hgS]
        clear hw kk Vp hgS H1 H2 H3;have hHeldE3:=HS.out _ J.out;refine tR 6 rfl (by kernel_rfl) (fun _ _ _=>id) (Or.inl ⟨by rfl,by rintro W ⟨o0,o1,o2,o3,o4,o5,o6,o7,o8,o9,o10,o11,o12,o13,o14,o15,o16,o17,o18,o19,o20,o21,o22,o23,o24,o25,o26,o27,o28,o29,o30,o31,o32⟩;go_simp<;>with_reducible rfl⟩) ‹_› ?_;try simp only[nA,nB,nC,nD,nE]
        have z0:=Va.out.at_ 0 _ rfl;have z1:=Va.out.at_ 1 _ rfl;have z2:=Va.out.at_ 2 _ rfl;have f0:=Va.out.free 0;have f1:=Va.out.free 1;have f2:=Va.out.free 2;have PP:=lH (j4 (vs:=[.slice (some ⟨gB,0,none⟩) 1 1,.slice (some ⟨gS,0,none⟩) 3 3,.slice none 0 0]) Va.out rfl);refine rd1 8 fun K9 Ky=>?_;go_simp;obtain⟨WE,hWE⟩:=eX (ws.setCells gA 0 [.slice (some ⟨gB,0,none⟩) 1 1,.slice (some ⟨gS,0,none⟩) 3 3,.slice none 0 0])
        have hWE2:(((ws.setCell ⟨gA,0,none⟩ (.slice (some ⟨gB,0,none⟩) 1 1)).setCell ⟨gA,1,none⟩ (.slice (some ⟨gS,0,none⟩) 3 3)).setCell ⟨gA,2,none⟩ (.slice none 0 0))=WE:=hWE;rw[hWE] at PP;try rw[hWE2]
        have RE:=lH (show jB WE (.agg #[.slice (some ⟨gB,0,none⟩) 1 1,.slice (some ⟨gS,0,none⟩) 3 3,.slice none 0 0]) sdS from zH (w:=ws) (N:=gA) PP.out.size PP.out.far (Jz Vn.out) ⟨_,_,_,rfl,⟨⟨_,_,rfl,by decide,by decide,Vu.out⟩,⟨_,_,rfl,by decide,by decide,Vm.out⟩,⟨_,_,rfl,by decide,by decide,zI _⟩⟩⟩);have JE:=lH (show Kept v7 WE by rw[←hWE];exact js gA _ _ _ _ _ Vq.out J.out);clear hWE hWE2 z0 f0 z1 f1 z2 f2;refine Ky.out _ _ (HS.out _ JE.out) (fun _=>?_);clear Ky K9;try simp only[nA,nB,nC,nD,nE]
        refine wpAnyH_done (by kernel_rfl) ?_ _;go_wp2;go_meet
        case rel=>exact⟨gA,gB,gS,rfl,PP.out.cells,RE.out,JE.out⟩
    · go_simp;refine Ky.out _ _ (HS.out _ (J.out.trans (ja _ _))) (fun _=>?_);clear Ky K9;try simp only[nA,nB,nC,nD,nE]
      obtain⟨ws,hw⟩:=eX (wp.alloc (.cells #[.string ⟨#[120]⟩,.string ⟨#[]⟩,.int .i64 0,.slice b1 n1 d1,.slice none 0 0,.slice none 0 0,.slice none 0 0,.string ⟨#[]⟩,.int .i64 0,.string ⟨#[]⟩,.bool false,.string ⟨#[121]⟩,.string ⟨#[]⟩,.int .i64 5,.slice b2 n2 d2,.slice none 0 0,.slice none 0 0,.slice none 0 0,.string ⟨#[]⟩,.int .i64 0,.string ⟨#[]⟩,.bool false,.string ⟨#[122]⟩,.string ⟨#[]⟩,.int .i64 0,.slice b3 n3 d3,.slice none 0 0,.slice none 0 0,.slice none 0 0,.string ⟨#[]⟩,.int .i64 0,.string ⟨#[]⟩,.bool false] 44))
      have kk:Kept wp ws:=by rw[←hw];exact ja _ _
      obtain⟨gS,hgS⟩:=eX (wp.heap.size)
      have Vp:=lH (show jC ws (some ⟨gS,0,none⟩) 3 sdS.pods from by
       have c:=jb wp (.string ⟨#[120]⟩) [.string ⟨#[]⟩,.int .i64 0,.slice b1 n1 d1,.slice none 0 0,.slice none 0 0,.slice none 0 0,.string ⟨#[]⟩,.int .i64 0,.string ⟨#[]⟩,.bool false,.string ⟨#[121]⟩,.string ⟨#[]⟩,.int .i64 5,.slice b2 n2 d2,.slice none 0 0,.slice none 0 0,.slice none 0 0,.string ⟨#[]⟩,.int .i64 0,.string ⟨#[]⟩,.bool false,.string ⟨#[122]⟩,.string ⟨#[]⟩,.int .i64 0,.slice b3 n3 d3,.slice none 0 0,.slice none 0 0,.slice none 0 0,.string ⟨#[]⟩,.int .i64 0,.string ⟨#[]⟩,.bool false] 44 ws (by rw[hw];exact Kept.refl _);rw[hgS] at c;exact JO (lx:=[(sdX,(b1,n1,d1),(none,0,0),(none,0,0),(none,0,0)),(sdY,(b2,n2,d2),(none,0,0),(none,0,0),(none,0,0)),(sdZ,(b3,n3,d3),(none,0,0),(none,0,0),(none,0,0))]) (jT rfl c (fun _ _=>trivial) (by decide:(3:Nat)≤maxLen)) (fun z hz=>by
        rcases List.mem_cons.1 hz with rfl | hz
        · exact ji.kept H1.out kk
        rcases List.mem_cons.1 hz with rfl | hz
        · exact ji.kept H2.out kk
        obtain rfl:=List.mem_singleton.1 hz;exact ji.kept H3.out kk))
      obtain⟨Vk,J,Vm⟩:=lH3 (Vk.out.kept kk) (J.out.trans kk) Vp.out;try rw[hw]
      try rw[hgS]
      clear hw kk Vp hgS H1 H2 H3;have hHeldE1:=HS.out _ J.out;refine wpAnyH_ready  (rs:=[1,7]) (by kernel_rfl) (by simp) (AllReadyH.cons  (by rw[List.getElem?_toArray];exact rfl) (fun K9 Ky=>?_) (AllReadyH.cons  (by rw[List.getElem?_toArray];exact rfl) (fun K9 Ky=>?_) AllReadyH.nil))
      · go_simp;refine Ky.out _ _ (HS.out _ (J.out.trans (ja _ _))) (fun _=>?_);clear Ky K9;try simp only[nA,nB,nC,nD,nE]
        obtain⟨wb,hw⟩:=eX (ws.alloc (.cells #[.string ⟨#[97]⟩,.slice p1 q1 r1,.slice none 0 0,.slice none 0 0,.bool false] 57))
        have kk:Kept ws wb:=by rw[←hw];exact ja _ _
        obtain⟨gB,hgB⟩:=eX (ws.heap.size)
        have Vh:=lH (show jt wb (some ⟨gB,0,none⟩) 1 sdS.nodes from by
         have c:=jb ws (.string ⟨#[97]⟩) [.slice p1 q1 r1,.slice none 0 0,.slice none 0 0,.bool false] 57 wb (by rw[hw];exact Kept.refl _);rw[hgB] at c;exact zF (lx:=[(Yo ⟨#[97]⟩ 10,(p1,q1,r1),(none,0,0),(none,0,0))]) (jT rfl c (fun _ _=>trivial) (by decide:(1:Nat)≤maxLen)) (fun z hz=>by
          obtain rfl:=List.mem_singleton.1 hz;exact Vk.out.kept kk))
        obtain⟨Vk,Vm,J,Vu⟩:=lH4 (Vk.out.kept kk) (Vm.out.kept kk) (J.out.trans kk) Vh.out;try rw[hw]
        try rw[hgB]
        clear hw kk Vh hgB Vk;have hHeldE2:=HS.out _ J.out;refine tR 6 rfl (by kernel_rfl) (fun _ _ _=>id) (Or.inl ⟨by rfl,by rintro W ⟨o0,o1,o2,o3,o4,o5,o6,o7,o8,o9,o10,o11,o12,o13,o14,o15,o16,o17,o18,o19,o20,o21,o22,o23,o24,o25,o26,o27,o28,o29,o30,o31,o32⟩;go_simp<;>with_reducible rfl⟩) ‹_› ?_;try simp only[nA,nB,nC,nD,nE]
        refine rd1 7 fun K9 Ky=>?_;go_simp;refine Ky.out _ _ (HS.out _ (J.out.trans (ja _ _))) (fun _=>?_);clear Ky K9;try simp only[nA,nB,nC,nD,nE]
        obtain⟨wa,hw⟩:=eX (wb.alloc (.cells #[.slice none 0 0,.slice none 0 0,.slice none 0 0] 26))
        have kk:Kept wb wa:=by rw[←hw];exact ja _ _
        obtain⟨gA,hgA⟩:=eX (wb.heap.size)
        have Vq:=lH (show v7.heap.size≤gA by rw[←hgA];exact J.out.size);have hqa:je gA [.slice none 0 0,.slice none 0 0,.slice none 0 0] wa:=by
         have c:=jb wb (.slice none 0 0) [.slice none 0 0,.slice none 0 0] 26 wa (by rw[hw];exact Kept.refl _);rw[hgA] at c;exact c
        have hha:wa.heap[gA]?=some (.cells #[.slice none 0 0,.slice none 0 0,.slice none 0 0] 26):=by rw[←hw,←hgA];exact World.alloc_heap_new wb _
        obtain⟨Vu,Vm,J,Va,Vn,Vb⟩:=lH6 (Vu.out.kept kk) (Vm.out.kept kk) (J.out.trans kk) hqa hha hqa.lt;try rw[hw]
        try rw[hgA]
        clear hw kk hqa hha hgA;have hHeldE3:=HS.out _ J.out;have z0:=Va.out.at_ 0 _ rfl;have z1:=Va.out.at_ 1 _ rfl;have z2:=Va.out.at_ 2 _ rfl;have f0:=Va.out.free 0;have f1:=Va.out.free 1;have f2:=Va.out.free 2;have PP:=lH (j4 (vs:=[.slice (some ⟨gB,0,none⟩) 1 1,.slice (some ⟨gS,0,none⟩) 3 3,.slice none 0 0]) Va.out rfl);refine rd1 8 fun K9 Ky=>?_;go_simp;obtain⟨WE,hWE⟩:=eX (wa.setCells gA 0 [.slice (some ⟨gB,0,none⟩) 1 1,.slice (some ⟨gS,0,none⟩) 3 3,.slice none 0 0])
        have hWE2:(((wa.setCell ⟨gA,0,none⟩ (.slice (some ⟨gB,0,none⟩) 1 1)).setCell ⟨gA,1,none⟩ (.slice (some ⟨gS,0,none⟩) 3 3)).setCell ⟨gA,2,none⟩ (.slice none 0 0))=WE:=hWE;rw[hWE] at PP;try rw[hWE2]
        have RE:=lH (show jB WE (.agg #[.slice (some ⟨gB,0,none⟩) 1 1,.slice (some ⟨gS,0,none⟩) 3 3,.slice none 0 0]) sdS from zH (w:=wa) (N:=gA) PP.out.size PP.out.far (Jz Vn.out) ⟨_,_,_,rfl,⟨⟨_,_,rfl,by decide,by decide,Vu.out⟩,⟨_,_,rfl,by decide,by decide,Vm.out⟩,⟨_,_,rfl,by decide,by decide,zI _⟩⟩⟩);have JE:=lH (show Kept v7 WE by rw[←hWE];exact js gA _ _ _ _ _ Vq.out J.out);clear hWE hWE2 z0 f0 z1 f1 z2 f2;refine Ky.out _ _ (HS.out _ JE.out) (fun _=>?_);clear Ky K9;try simp only[nA,nB,nC,nD,nE]
        refine wpAnyH_done (by kernel_rfl) ?_ _;go_wp2;go_meet
        case rel=>exact⟨gA,gB,gS,rfl,PP.out.cells,RE.out,JE.out⟩
      · go_simp;refine Ky.out _ _ (HS.out _ (J.out.trans (ja _ _))) (fun _=>?_);clear Ky K9;try simp only[nA,nB,nC,nD,nE]
        obtain⟨wa,hw⟩:=eX (ws.alloc (.cells #[.slice none 0 0,.slice none 0 0,.slice none 0 0] 26))
        have kk:Kept ws wa:=by rw[←hw];exact ja _ _
        obtain⟨gA,hgA⟩:=eX (ws.heap.size)
        have Vq:=lH (show v7.heap.size≤gA by rw[←hgA];exact J.out.size);have hqa:je gA [.slice none 0 0,.slice none 0 0,.slice none 0 0] wa:=by
         have c:=jb ws (.slice none 0 0) [.slice none 0 0,.slice none 0 0] 26 wa (by rw[hw];exact Kept.refl _);rw[hgA] at c;exact c
        have hha:wa.heap[gA]?=some (.cells #[.slice none 0 0,.slice none 0 0,.slice none 0 0] 26):=by rw[←hw,←hgA];exact World.alloc_heap_new ws _
        obtain⟨Vk,Vm,J,Va,Vn,Vb⟩:=lH6 (Vk.out.kept kk) (Vm.out.kept kk) (J.out.trans kk) hqa hha hqa.lt;try rw[hw]
        try rw[hgA]
        clear hw kk hqa hha hgA;have hHeldE2:=HS.out _ J.out;refine rd1 1 fun K9 Ky=>?_;go_simp;refine Ky.out _ _ (HS.out _ (J.out.trans (ja _ _))) (fun _=>?_);clear Ky K9;try simp only[nA,nB,nC,nD,nE]
        obtain⟨wb,hw⟩:=eX (wa.alloc (.cells #[.string ⟨#[97]⟩,.slice p1 q1 r1,.slice none 0 0,.slice none 0 0,.bool false] 57))
        have kk:Kept wa wb:=by rw[←hw];exact ja _ _
        obtain⟨gB,hgB⟩:=eX (wa.heap.size)
        have Vh:=lH (show jt wb (some ⟨gB,0,none⟩) 1 sdS.nodes from by
         have c:=jb wa (.string ⟨#[97]⟩) [.slice p1 q1 r1,.slice none 0 0,.slice none 0 0,.bool false] 57 wb (by rw[hw];exact Kept.refl _);rw[hgB] at c;exact zF (lx:=[(Yo ⟨#[97]⟩ 10,(p1,q1,r1),(none,0,0),(none,0,0))]) (jT rfl c (fun _ _=>trivial) (by decide:(1:Nat)≤maxLen)) (fun z hz=>by
          obtain rfl:=List.mem_singleton.1 hz;exact Vk.out.kept kk))
        obtain⟨Vk,Vm,Va,J,Vn,Vb,Vu⟩:=lH7 (Vk.out.kept kk) (Vm.out.kept kk) (Va.out.kept kk) (J.out.trans kk) ((kk.block _ Vb.out).trans Vn.out) (Nat.lt_of_lt_of_le Vb.out kk.size) Vh.out;try rw[hw]
        try rw[hgB]
        clear hw kk Vh hgB Vk;have hHeldE3:=HS.out _ J.out;refine tR 6 rfl (by kernel_rfl) (fun _ _ _=>id) (Or.inl ⟨by rfl,by rintro W ⟨o0,o1,o2,o3,o4,o5,o6,o7,o8,o9,o10,o11,o12,o13,o14,o15,o16,o17,o18,o19,o20,o21,o22,o23,o24,o25,o26,o27,o28,o29,o30,o31,o32⟩;go_simp<;>with_reducible rfl⟩) ‹_› ?_;try simp only[nA,nB,nC,nD,nE]
        have z0:=Va.out.at_ 0 _ rfl;have z1:=Va.out.at_ 1 _ rfl;have z2:=Va.out.at_ 2 _ rfl;have f0:=Va.out.free 0;have f1:=Va.out.free 1;have f2:=Va.out.free 2;have PP:=lH (j4 (vs:=[.slice (some ⟨gB,0,none⟩) 1 1,.slice (some ⟨gS,0,none⟩) 3 3,.slice none 0 0]) Va.out rfl);refine rd1 8 fun K9 Ky=>?_;go_simp;obtain⟨WE,hWE⟩:=eX (wb.setCells gA 0 [.slice (some ⟨gB,0,none⟩) 1 1,.slice (some ⟨gS,0,none⟩) 3 3,.slice none 0 0])
        have hWE2:(((wb.setCell ⟨gA,0,none⟩ (.slice (some ⟨gB,0,none⟩) 1 1)).setCell ⟨gA,1,none⟩ (.slice (some ⟨gS,0,none⟩) 3 3)).setCell ⟨gA,2,none⟩ (.slice none 0 0))=WE:=hWE;rw[hWE] at PP;try rw[hWE2]
        have RE:=lH (show jB WE (.agg #[.slice (some ⟨gB,0,none⟩) 1 1,.slice (some ⟨gS,0,none⟩) 3 3,.slice none 0 0]) sdS from zH (w:=wb) (N:=gA) PP.out.size PP.out.far (Jz Vn.out) ⟨_,_,_,rfl,⟨⟨_,_,rfl,by decide,by decide,Vu.out⟩,⟨_,_,rfl,by decide,by decide,Vm.out⟩,⟨_,_,rfl,by decide,by decide,zI _⟩⟩⟩);have JE:=lH (show Kept v7 WE by rw[←hWE];exact js gA _ _ _ _ _ Vq.out J.out);clear hWE hWE2 z0 f0 z1 f1 z2 f2;refine Ky.out _ _ (HS.out _ JE.out) (fun _=>?_);clear Ky K9;try simp only[nA,nB,nC,nD,nE]
        refine wpAnyH_done (by kernel_rfl) ?_ _;go_wp2;go_meet
        case rel=>exact⟨gA,gB,gS,rfl,PP.out.cells,RE.out,JE.out⟩
    · go_simp;refine Ky.out _ _ (HS.out _ (J.out.trans (ja _ _))) (fun _=>?_);clear Ky K9;try simp only[nA,nB,nC,nD,nE]
      obtain⟨wa,hw⟩:=eX (wp.alloc (.cells #[.slice none 0 0,.slice none 0 0,.slice none 0 0] 26))
      have kk:Kept wp wa:=by rw[←hw];exact ja _ _
      obtain⟨gA,hgA⟩:=eX (wp.heap.size)
      have Vq:=lH (show v7.heap.size≤gA by rw[←hgA];exact J.out.size);have hqa:je gA [.slice none 0 0,.slice none 0 0,.slice none 0 0] wa:=by
       have c:=jb wp (.slice none 0 0) [.slice none 0 0,.slice none 0 0] 26 wa (by rw[hw];exact Kept.refl _);rw[hgA] at c;exact c
      have hha:wa.heap[gA]?=some (.cells #[.slice none 0 0,.slice none 0 0,.slice none 0 0] 26):=by rw[←hw,←hgA];exact World.alloc_heap_new wp _
      obtain⟨H1,H2,H3,Vk,J,Va,Vn,Vb⟩:=lH8 (ji.kept H1.out kk) (ji.kept H2.out kk) (ji.kept H3.out kk) (Vk.out.kept kk) (J.out.trans kk) hqa hha hqa.lt;try rw[hw]
      try rw[hgA]
      clear hw kk hqa hha hgA;have hHeldE1:=HS.out _ J.out;refine wpAnyH_ready  (rs:=[1,5]) (by kernel_rfl) (by simp) (AllReadyH.cons  (by rw[List.getElem?_toArray];exact rfl) (fun K9 Ky=>?_) (AllReadyH.cons  (by rw[List.getElem?_toArray];exact rfl) (fun K9 Ky=>?_) AllReadyH.nil))
      · go_simp;refine Ky.out _ _ (HS.out _ (J.out.trans (ja _ _))) (fun _=>?_);clear Ky K9;try simp only[nA,nB,nC,nD,nE]
        obtain⟨wb,hw⟩:=eX (wa.alloc (.cells #[.string ⟨#[97]⟩,.slice p1 q1 r1,.slice none 0 0,.slice none 0 0,.bool false] 57))
        have kk:Kept wa wb:=by rw[←hw];exact ja _ _
        obtain⟨gB,hgB⟩:=eX (wa.heap.size)
        have Vh:=lH (show jt wb (some ⟨gB,0,none⟩) 1 sdS.nodes from by
         have c:=jb wa (.string ⟨#[97]⟩) [.slice p1 q1 r1,.slice none 0 0,.slice none 0 0,.bool false] 57 wb (by rw[hw];exact Kept.refl _);rw[hgB] at c;exact zF (lx:=[(Yo ⟨#[97]⟩ 10,(p1,q1,r1),(none,0,0),(none,0,0))]) (jT rfl c (fun _ _=>trivial) (by decide:(1:Nat)≤maxLen)) (fun z hz=>by
          obtain rfl:=List.mem_singleton.1 hz;exact Vk.out.kept kk))
        obtain⟨H1,H2,H3,Vk,Va,J,Vn,Vb⟩:=lH8 (ji.kept H1.out kk) (ji.kept H2.out kk) (ji.kept H3.out kk) (Vk.out.kept kk) (Va.out.kept kk) (J.out.trans kk) ((kk.block _ Vb.out).trans Vn.out) (Nat.lt_of_lt_of_le Vb.out kk.size);have Vu:=lH Vh.out;try rw[hw]
        try rw[hgB]
        clear hw kk Vh hgB Vk;have hHeldE2:=HS.out _ J.out;refine rd1 5 fun K9 Ky=>?_;go_simp;refine Ky.out _ _ (HS.out _ (J.out.trans (ja _ _))) (fun _=>?_);clear Ky K9;try simp only[nA,nB,nC,nD,nE]
        obtain⟨ws,hw⟩:=eX (wb.alloc (.cells #[.string ⟨#[120]⟩,.string ⟨#[]⟩,.int .i64 0,.slice b1 n1 d1,.slice none 0 0,.slice none 0 0,.slice none 0 0,.string ⟨#[]⟩,.int .i64 0,.string ⟨#[]⟩,.bool false,.string ⟨#[121]⟩,.string ⟨#[]⟩,.int .i64 5,.slice b2 n2 d2,.slice none 0 0,.slice none 0 0,.slice none 0 0,.string ⟨#[]⟩,.int .i64 0,.string ⟨#[]⟩,.bool false,.string ⟨#[122]⟩,.string ⟨#[]⟩,.int .i64 0,.slice b3 n3 d3,.slice none 0 0,.slice none 0 0,.slice none 0 0,.string ⟨#[]⟩,.int .i64 0,.string ⟨#[]⟩,.bool false] 44))
        have kk:Kept wb ws:=by rw[←hw];exact ja _ _
        obtain⟨gS,hgS⟩:=eX (wb.heap.size)
        have Vp:=lH (show jC ws (some ⟨gS,0,none⟩) 3 sdS.pods from by
         have c:=jb wb (.string ⟨#[120]⟩) [.string ⟨#[]⟩,.int .i64 0,.slice b1 n1 d1,.slice none 0 0,.slice none 0 0,.slice none 0 0,.string ⟨#[]⟩,.int .i64 0,.string ⟨#[]⟩,.bool false,.string ⟨#[121]⟩,.string ⟨#[]⟩,.int .i64 5,.slice b2 n2 d2,.slice none 0 0,.slice none 0 0,.slice none 0 0,.string ⟨#[]⟩,.int .i64 0,.string ⟨#[]⟩,.bool false,.string ⟨#[122]⟩,.string ⟨#[]⟩,.int .i64 0,.slice b3 n3 d3,.slice none 0 0,.slice none 0 0,.slice none 0 0,.string ⟨#[]⟩,.int .i64 0,.string ⟨#[]⟩,.bool false] 44 ws (by rw[hw];exact Kept.refl _);rw[hgS] at c;exact JO (lx:=[(sdX,(b1,n1,d1),(none,0,0),(none,0,0),(none,0,0)),(sdY,(b2,n2,d2),(none,0,0),(none,0,0),(none,0,0)),(sdZ,(b3,n3,d3),(none,0,0),(none,0,0),(none,0,0))]) (jT rfl c (fun _ _=>trivial) (by decide:(3:Nat)≤maxLen)) (fun z hz=>by
          rcases List.mem_cons.1 hz with rfl | hz
          · exact ji.kept H1.out kk
          rcases List.mem_cons.1 hz with rfl | hz
          · exact ji.kept H2.out kk
          obtain rfl:=List.mem_singleton.1 hz;exact ji.kept H3.out kk))
        obtain⟨Vu,Va,J,Vn,Vb,Vm⟩:=lH6 (Vu.out.kept kk) (Va.out.kept kk) (J.out.trans kk) ((kk.block _ Vb.out).trans Vn.out) (Nat.lt_of_lt_of_le Vb.out kk.size) Vp.out;try rw[hw]
        try rw[hgS]
        clear hw kk Vp hgS H1 H2 H3;have hHeldE3:=HS.out _ J.out;refine tR 6 rfl (by kernel_rfl) (fun _ _ _=>id) (Or.inl ⟨by rfl,by rintro W ⟨o0,o1,o2,o3,o4,o5,o6,o7,o8,o9,o10,o11,o12,o13,o14,o15,o16,o17,o18,o19,o20,o21,o22,o23,o24,o25,o26,o27,o28,o29,o30,o31,o32⟩;go_simp<;>with_reducible rfl⟩) ‹_› ?_;try simp only[nA,nB,nC,nD,nE]
        have z0:=Va.out.at_ 0 _ rfl;have z1:=Va.out.at_ 1 _ rfl;have z2:=Va.out.at_ 2 _ rfl;have f0:=Va.out.free 0;have f1:=Va.out.free 1;have f2:=Va.out.free 2;have PP:=lH (j4 (vs:=[.slice (some ⟨gB,0,none⟩) 1 1,.slice (some ⟨gS,0,none⟩) 3 3,.slice none 0 0]) Va.out rfl);refine rd1 8 fun K9 Ky=>?_;go_simp;obtain⟨WE,hWE⟩:=eX (ws.setCells gA 0 [.slice (some ⟨gB,0,none⟩) 1 1,.slice (some ⟨gS,0,none⟩) 3 3,.slice none 0 0])
        have hWE2:(((ws.setCell ⟨gA,0,none⟩ (.slice (some ⟨gB,0,none⟩) 1 1)).setCell ⟨gA,1,none⟩ (.slice (some ⟨gS,0,none⟩) 3 3)).setCell ⟨gA,2,none⟩ (.slice none 0 0))=WE:=hWE;rw[hWE] at PP;try rw[hWE2]
        have RE:=lH (show jB WE (.agg #[.slice (some ⟨gB,0,none⟩) 1 1,.slice (some ⟨gS,0,none⟩) 3 3,.slice none 0 0]) sdS from zH (w:=ws) (N:=gA) PP.out.size PP.out.far (Jz Vn.out) ⟨_,_,_,rfl,⟨⟨_,_,rfl,by decide,by decide,Vu.out⟩,⟨_,_,rfl,by decide,by decide,Vm.out⟩,⟨_,_,rfl,by decide,by decide,zI _⟩⟩⟩);have JE:=lH (show Kept v7 WE by rw[←hWE];exact js gA _ _ _ _ _ Vq.out J.out);clear hWE hWE2 z0 f0 z1 f1 z2 f2;refine Ky.out _ _ (HS.out _ JE.out) (fun _=>?_);clear Ky K9;try simp only[nA,nB,nC,nD,nE]
        refine wpAnyH_done (by kernel_rfl) ?_ _;go_wp2;go_meet
        case rel=>exact⟨gA,gB,gS,rfl,PP.out.cells,RE.out,JE.out⟩
      · go_simp;refine Ky.out _ _ (HS.out _ (J.out.trans (ja _ _))) (fun _=>?_);clear Ky K9;try simp only[nA,nB,nC,nD,nE]
        obtain⟨ws,hw⟩:=eX (wa.alloc (.cells #[.string ⟨#[120]⟩,.string ⟨#[]⟩,.int .i64 0,.slice b1 n1 d1,.slice none 0 0,.slice none 0 0,.slice none 0 0,.string ⟨#[]⟩,.int .i64 0,.string ⟨#[]⟩,.bool false,.string ⟨#[121]⟩,.string ⟨#[]⟩,.int .i64 5,.slice b2 n2 d2,.slice none 0 0,.slice none 0 0,.slice none 0 0,.string ⟨#[]⟩,.int .i64 0,.string ⟨#[]⟩,.bool false,.string ⟨#[122]⟩,.string ⟨#[]⟩,.int .i64 0,.slice b3 n3 d3,.slice none 0 0,.slice none 0 0,.slice none 0 0,.string ⟨#[]⟩,.int .i64 0,.string ⟨#[]⟩,.bool false] 44))
        have kk:Kept wa ws:=by rw[←hw];exact ja _ _
        obtain⟨gS,hgS⟩:=eX (wa.heap.size)
        have Vp:=lH (show jC ws (some ⟨gS,0,none⟩) 3 sdS.pods from by
         have c:=jb wa (.string ⟨#[120]⟩) [.string ⟨#[]⟩,.int .i64 0,.slice b1 n1 d1,.slice none 0 0,.slice none 0 0,.slice none 0 0,.string ⟨#[]⟩,.int .i64 0,.string ⟨#[]⟩,.bool false,.string ⟨#[121]⟩,.string ⟨#[]⟩,.int .i64 5,.slice b2 n2 d2,.slice none 0 0,.slice none 0 0,.slice none 0 0,.string ⟨#[]⟩,.int .i64 0,.string ⟨#[]⟩,.bool false,.string ⟨#[122]⟩,.string ⟨#[]⟩,.int .i64 0,.slice b3 n3 d3,.slice none 0 0,.slice none 0 0,.slice none 0 0,.string ⟨#[]⟩,.int .i64 0,.string ⟨#[]⟩,.bool false] 44 ws (by rw[hw];exact Kept.refl _);rw[hgS] at c;exact JO (lx:=[(sdX,(b1,n1,d1),(none,0,0),(none,0,0),(none,0,0)),(sdY,(b2,n2,d2),(none,0,0),(none,0,0),(none,0,0)),(sdZ,(b3,n3,d3),(none,0,0),(none,0,0),(none,0,0))]) (jT rfl c (fun _ _=>trivial) (by decide:(3:Nat)≤maxLen)) (fun z hz=>by
          rcases List.mem_cons.1 hz with rfl | hz
          · exact ji.kept H1.out kk
          rcases List.mem_cons.1 hz with rfl | hz
          · exact ji.kept H2.out kk
          obtain rfl:=List.mem_singleton.1 hz;exact ji.kept H3.out kk))
        obtain⟨Vk,Va,J,Vn,Vb,Vm⟩:=lH6 (Vk.out.kept kk) (Va.out.kept kk) (J.out.trans kk) ((kk.block _ Vb.out).trans Vn.out) (Nat.lt_of_lt_of_le Vb.out kk.size) Vp.out;try rw[hw]
        try rw[hgS]
        clear hw kk Vp hgS H1 H2 H3;have hHeldE2:=HS.out _ J.out;refine rd1 1 fun K9 Ky=>?_;go_simp;refine Ky.out _ _ (HS.out _ (J.out.trans (ja _ _))) (fun _=>?_);clear Ky K9;try simp only[nA,nB,nC,nD,nE]
        obtain⟨wb,hw⟩:=eX (ws.alloc (.cells #[.string ⟨#[97]⟩,.slice p1 q1 r1,.slice none 0 0,.slice none 0 0,.bool false] 57))
        have kk:Kept ws wb:=by rw[←hw];exact ja _ _
        obtain⟨gB,hgB⟩:=eX (ws.heap.size)
        have Vh:=lH (show jt wb (some ⟨gB,0,none⟩) 1 sdS.nodes from by
         have c:=jb ws (.string ⟨#[97]⟩) [.slice p1 q1 r1,.slice none 0 0,.slice none 0 0,.bool false] 57 wb (by rw[hw];exact Kept.refl _);rw[hgB] at c;exact zF (lx:=[(Yo ⟨#[97]⟩ 10,(p1,q1,r1),(none,0,0),(none,0,0))]) (jT rfl c (fun _ _=>trivial) (by decide:(1:Nat)≤maxLen)) (fun z hz=>by
          obtain rfl:=List.mem_singleton.1 hz;exact Vk.out.kept kk))
        obtain⟨Vk,Vm,Va,J,Vn,Vb,Vu⟩:=lH7 (Vk.out.kept kk) (Vm.out.kept kk) (Va.out.kept kk) (J.out.trans kk) ((kk.block _ Vb.out).trans Vn.out) (Nat.lt_of_lt_of_le Vb.out kk.size) Vh.out;try rw[hw]
        try rw[hgB]
        clear hw kk Vh hgB Vk;have hHeldE3:=HS.out _ J.out;refine tR 6 rfl (by kernel_rfl) (fun _ _ _=>id) (Or.inl ⟨by rfl,by rintro W ⟨o0,o1,o2,o3,o4,o5,o6,o7,o8,o9,o10,o11,o12,o13,o14,o15,o16,o17,o18,o19,o20,o21,o22,o23,o24,o25,o26,o27,o28,o29,o30,o31,o32⟩;go_simp<;>with_reducible rfl⟩) ‹_› ?_;try simp only[nA,nB,nC,nD,nE]
        have z0:=Va.out.at_ 0 _ rfl;have z1:=Va.out.at_ 1 _ rfl;have z2:=Va.out.at_ 2 _ rfl;have f0:=Va.out.free 0;have f1:=Va.out.free 1;have f2:=Va.out.free 2;have PP:=lH (j4 (vs:=[.slice (some ⟨gB,0,none⟩) 1 1,.slice (some ⟨gS,0,none⟩) 3 3,.slice none 0 0]) Va.out rfl);refine rd1 8 fun K9 Ky=>?_;go_simp;obtain⟨WE,hWE⟩:=eX (wb.setCells gA 0 [.slice (some ⟨gB,0,none⟩) 1 1,.slice (some ⟨gS,0,none⟩) 3 3,.slice none 0 0])
        have hWE2:(((wb.setCell ⟨gA,0,none⟩ (.slice (some ⟨gB,0,none⟩) 1 1)).setCell ⟨gA,1,none⟩ (.slice (some ⟨gS,0,none⟩) 3 3)).setCell ⟨gA,2,none⟩ (.slice none 0 0))=WE:=hWE;rw[hWE] at PP;try rw[hWE2]
        have RE:=lH (show jB WE (.agg #[.slice (some ⟨gB,0,none⟩) 1 1,.slice (some ⟨gS,0,none⟩) 3 3,.slice none 0 0]) sdS from zH (w:=wb) (N:=gA) PP.out.size PP.out.far (Jz Vn.out) ⟨_,_,_,rfl,⟨⟨_,_,rfl,by decide,by decide,Vu.out⟩,⟨_,_,rfl,by decide,by decide,Vm.out⟩,⟨_,_,rfl,by decide,by decide,zI _⟩⟩⟩);have JE:=lH (show Kept v7 WE by rw[←hWE];exact js gA _ _ _ _ _ Vq.out J.out);clear hWE hWE2 z0 f0 z1 f1 z2 f2;refine Ky.out _ _ (HS.out _ JE.out) (fun _=>?_);clear Ky K9;try simp only[nA,nB,nC,nD,nE]
        refine wpAnyH_done (by kernel_rfl) ?_ _;go_wp2;go_meet
        case rel=>exact⟨gA,gB,gS,rfl,PP.out.cells,RE.out,JE.out⟩
  · go_simp;refine Ky.out _ _ (HS.out _ (J.out.trans (ja _ _))) (fun _=>?_);clear Ky K9;try simp only[nA,nB,nC,nD,nE]
    obtain⟨ws,hw⟩:=eX (wq.alloc (.cells #[.string ⟨#[120]⟩,.string ⟨#[]⟩,.int .i64 0,.slice b1 n1 d1,.slice none 0 0,.slice none 0 0,.slice none 0 0,.string ⟨#[]⟩,.int .i64 0,.string ⟨#[]⟩,.bool false,.string ⟨#[121]⟩,.string ⟨#[]⟩,.int .i64 5,.slice b2 n2 d2,.slice none 0 0,.slice none 0 0,.slice none 0 0,.string ⟨#[]⟩,.int .i64 0,.string ⟨#[]⟩,.bool false,.string ⟨#[122]⟩,.string ⟨#[]⟩,.int .i64 0,.slice b3 n3 d3,.slice none 0 0,.slice none 0 0,.slice none 0 0,.string ⟨#[]⟩,.int .i64 0,.string ⟨#[]⟩,.bool false] 44))
    have kk:Kept wq ws:=by rw[←hw];exact ja _ _
    obtain⟨gS,hgS⟩:=eX (wq.heap.size)
    have Vp:=lH (show jC ws (some ⟨gS,0,none⟩) 3 sdS.pods from by
     have c:=jb wq (.string ⟨#[120]⟩) [.string ⟨#[]⟩,.int .i64 0,.slice b1 n1 d1,.slice none 0 0,.slice none 0 0,.slice none 0 0,.string ⟨#[]⟩,.int .i64 0,.string ⟨#[]⟩,.bool false,.string ⟨#[121]⟩,.string ⟨#[]⟩,.int .i64 5,.slice b2 n2 d2,.slice none 0 0,.slice none 0 0,.slice none 0 0,.string ⟨#[]⟩,.int .i64 0,.string ⟨#[]⟩,.bool false,.string ⟨#[122]⟩,.string ⟨#[]⟩,.int .i64 0,.slice b3 n3 d3,.slice none 0 0,.slice none 0 0,.slice none 0 0,.string ⟨#[]⟩,.int .i64 0,.string ⟨#[]⟩,.bool false] 44 ws (by rw[hw];exact Kept.refl _);rw[hgS] at c;exact JO (lx:=[(sdX,(b1,n1,d1),(none,0,0),(none,0,0),(none,0,0)),(sdY,(b2,n2,d2),(none,0,0),(none,0,0),(none,0,0)),(sdZ,(b3,n3,d3),(none,0,0),(none,0,0),(none,0,0))]) (jT rfl c (fun _ _=>trivial) (by decide:(3:Nat)≤maxLen)) (fun z hz=>by
      rcases List.mem_cons.1 hz with rfl | hz
      · exact ji.kept H1.out kk
      rcases List.mem_cons.1 hz with rfl | hz
      · exact ji.kept H2.out kk
      obtain rfl:=List.mem_singleton.1 hz;exact ji.kept H3.out kk))
    have J:=lH (J.out.trans kk);have Vm:=lH Vp.out;try rw[hw]
    try rw[hgS]
    clear hw kk Vp hgS H1 H2 H3;have hHeldE0:=HS.out _ J.out;refine wpAnyH_ready  (rs:=[0,7]) (by kernel_rfl) (by simp) (AllReadyH.cons  (by rw[List.getElem?_toArray];exact rfl) (fun K9 Ky=>?_) (AllReadyH.cons  (by rw[List.getElem?_toArray];exact rfl) (fun K9 Ky=>?_) AllReadyH.nil))
    · go_simp;refine(Xp ⟨#[97]⟩ 10 (by decide:(-9223372036854775808:Int)≤10∧(10:Int)≤9223372036854775807) (by decide:(1:Nat)≤maxLen) _).mono ?_;rintro e wp ⟨p1,q1,r1,rfl,ha,kk⟩;obtain⟨Vm,J,Vk⟩:=lH3 (Vm.out.kept kk) (J.out.trans kk) ha;clear ha kk;refine Ky.out _ _ (HS.out _ J.out) (fun _=>?_);clear Ky K9;try simp only[nA,nB,nC,nD,nE]
      refine wpAnyH_ready  (rs:=[1,7]) (by kernel_rfl) (by simp) (AllReadyH.cons  (by rw[List.getElem?_toArray];exact rfl) (fun K9 Ky=>?_) (AllReadyH.cons  (by rw[List.getElem?_toArray];exact rfl) (fun K9 Ky=>?_) AllReadyH.nil))
      · go_simp;refine Ky.out _ _ (HS.out _ (J.out.trans (ja _ _))) (fun _=>?_);clear Ky K9;try simp only[nA,nB,nC,nD,nE]
        obtain⟨wb,hw⟩:=eX (wp.alloc (.cells #[.string ⟨#[97]⟩,.slice p1 q1 r1,.slice none 0 0,.slice none 0 0,.bool false] 57))
        have kk:Kept wp wb:=by rw[←hw];exact ja _ _
        obtain⟨gB,hgB⟩:=eX (wp.heap.size)
        have Vh:=lH (show jt wb (some ⟨gB,0,none⟩) 1 sdS.nodes from by
         have c:=jb wp (.string ⟨#[97]⟩) [.slice p1 q1 r1,.slice none 0 0,.slice none 0 0,.bool false] 57 wb (by rw[hw];exact Kept.refl _);rw[hgB] at c;exact zF (lx:=[(Yo ⟨#[97]⟩ 10,(p1,q1,r1),(none,0,0),(none,0,0))]) (jT rfl c (fun _ _=>trivial) (by decide:(1:Nat)≤maxLen)) (fun z hz=>by
          obtain rfl:=List.mem_singleton.1 hz;exact Vk.out.kept kk))
        obtain⟨Vk,Vm,J,Vu⟩:=lH4 (Vk.out.kept kk) (Vm.out.kept kk) (J.out.trans kk) Vh.out;try rw[hw]
        try rw[hgB]
        clear hw kk Vh hgB Vk;have hHeldE2:=HS.out _ J.out;refine tR 6 rfl (by kernel_rfl) (fun _ _ _=>id) (Or.inl ⟨by rfl,by rintro W ⟨o0,o1,o2,o3,o4,o5,o6,o7,o8,o9,o10,o11,o12,o13,o14,o15,o16,o17,o18,o19,o20,o21,o22,o23,o24,o25,o26,o27,o28,o29,o30,o31,o32⟩;go_simp<;>with_reducible rfl⟩) ‹_› ?_;try simp only[nA,nB,nC,nD,nE]
        refine rd1 7 fun K9 Ky=>?_;go_simp;refine Ky.out _ _ (HS.out _ (J.out.trans (ja _ _))) (fun _=>?_);clear Ky K9;try simp only[nA,nB,nC,nD,nE]
        obtain⟨wa,hw⟩:=eX (wb.alloc (.cells #[.slice none 0 0,.slice none 0 0,.slice none 0 0] 26))
        have kk:Kept wb wa:=by rw[←hw];exact ja _ _
        obtain⟨gA,hgA⟩:=eX (wb.heap.size)
        have Vq:=lH (show v7.heap.size≤gA by rw[←hgA];exact J.out.size);have hqa:je gA [.slice none 0 0,.slice none 0 0,.slice none 0 0] wa:=by
         have c:=jb wb (.slice none 0 0) [.slice none 0 0,.slice none 0 0] 26 wa (by rw[hw];exact Kept.refl _);rw[hgA] at c;exact c
        have hha:wa.heap[gA]?=some (.cells #[.slice none 0 0,.slice none 0 0,.slice none 0 0] 26):=by rw[←hw,←hgA];exact World.alloc_heap_new wb _
        obtain⟨Vu,Vm,J,Va,Vn,Vb⟩:=lH6 (Vu.out.kept kk) (Vm.out.kept kk) (J.out.trans kk) hqa hha hqa.lt;try rw[hw]
        try rw[hgA]
        clear hw kk hqa hha hgA;have hHeldE3:=HS.out _ J.out;have z0:=Va.out.at_ 0 _ rfl;have z1:=Va.out.at_ 1 _ rfl;have z2:=Va.out.at_ 2 _ rfl;have f0:=Va.out.free 0;have f1:=Va.out.free 1;have f2:=Va.out.free 2;have PP:=lH (j4 (vs:=[.slice (some ⟨gB,0,none⟩) 1 1,.slice (some ⟨gS,0,none⟩) 3 3,.slice none 0 0]) Va.out rfl);refine rd1 8 fun K9 Ky=>?_;go_simp;obtain⟨WE,hWE⟩:=eX (wa.setCells gA 0 [.slice (some ⟨gB,0,none⟩) 1 1,.slice (some ⟨gS,0,none⟩) 3 3,.slice none 0 0])
        have hWE2:(((wa.setCell ⟨gA,0,none⟩ (.slice (some ⟨gB,0,none⟩) 1 1)).setCell ⟨gA,1,none⟩ (.slice (some ⟨gS,0,none⟩) 3 3)).setCell ⟨gA,2,none⟩ (.slice none 0 0))=WE:=hWE;rw[hWE] at PP;try rw[hWE2]
        have RE:=lH (show jB WE (.agg #[.slice (some ⟨gB,0,none⟩) 1 1,.slice (some ⟨gS,0,none⟩) 3 3,.slice none 0 0]) sdS from zH (w:=wa) (N:=gA) PP.out.size PP.out.far (Jz Vn.out) ⟨_,_,_,rfl,⟨⟨_,_,rfl,by decide,by decide,Vu.out⟩,⟨_,_,rfl,by decide,by decide,Vm.out⟩,⟨_,_,rfl,by decide,by decide,zI _⟩⟩⟩);have JE:=lH (show Kept v7 WE by rw[←hWE];exact js gA _ _ _ _ _ Vq.out J.out);clear hWE hWE2 z0 f0 z1 f1 z2 f2;refine Ky.out _ _ (HS.out _ JE.out) (fun _=>?_);clear Ky K9;try simp only[nA,nB,nC,nD,nE]
        refine wpAnyH_done (by kernel_rfl) ?_ _;go_wp2;go_meet
        case rel=>exact⟨gA,gB,gS,rfl,PP.out.cells,RE.out,JE.out⟩
      · go_simp;refine Ky.out _ _ (HS.out _ (J.out.trans (ja _ _))) (fun _=>?_);clear Ky K9;try simp only[nA,nB,nC,nD,nE]
        obtain⟨wa,hw⟩:=eX (wp.alloc (.cells #[.slice none 0 0,.slice none 0 0,.slice none 0 0] 26))
        have kk:Kept wp wa:=by rw[←hw];exact ja _ _
        obtain⟨gA,hgA⟩:=eX (wp.heap.size)
        have Vq:=lH (show v7.heap.size≤gA by rw[←hgA];exact J.out.size);have hqa:je gA [.slice none 0 0,.slice none 0 0,.slice none 0 0] wa:=by
         have c:=jb wp (.slice none 0 0) [.slice none 0 0,.slice none 0 0] 26 wa (by rw[hw];exact Kept.refl _);rw[hgA] at c;exact c
        have hha:wa.heap[gA]?=some (.cells #[.slice none 0 0,.slice none 0 0,.slice none 0 0] 26):=by rw[←hw,←hgA];exact World.alloc_heap_new wp _
        obtain⟨Vk,Vm,J,Va,Vn,Vb⟩:=lH6 (Vk.out.kept kk) (Vm.out.kept kk) (J.out.trans kk) hqa hha hqa.lt;try rw[hw]
        try rw[hgA]
        clear hw kk hqa hha hgA;have hHeldE2:=HS.out _ J.out;refine rd1 1 fun K9 Ky=>?_;go_simp;refine Ky.out _ _ (HS.out _ (J.out.trans (ja _ _))) (fun _=>?_);clear Ky K9;try simp only[nA,nB,nC,nD,nE]
        obtain⟨wb,hw⟩:=eX (wa.alloc (.cells #[.string ⟨#[97]⟩,.slice p1 q1 r1,.slice none 0 0,.slice none 0 0,.bool false] 57))
        have kk:Kept wa wb:=by rw[←hw];exact ja _ _
        obtain⟨gB,hgB⟩:=eX (wa.heap.size)
        have Vh:=lH (show jt wb (some ⟨gB,0,none⟩) 1 sdS.nodes from by
         have c:=jb wa (.string ⟨#[97]⟩) [.slice p1 q1 r1,.slice none 0 0,.slice none 0 0,.bool false] 57 wb (by rw[hw];exact Kept.refl _);rw[hgB] at c;exact zF (lx:=[(Yo ⟨#[97]⟩ 10,(p1,q1,r1),(none,0,0),(none,0,0))]) (jT rfl c (fun _ _=>trivial) (by decide:(1:Nat)≤maxLen)) (fun z hz=>by
          obtain rfl:=List.mem_singleton.1 hz;exact Vk.out.kept kk))
        obtain⟨Vk,Vm,Va,J,Vn,Vb,Vu⟩:=lH7 (Vk.out.kept kk) (Vm.out.kept kk) (Va.out.kept kk) (J.out.trans kk) ((kk.block _ Vb.out).trans Vn.out) (Nat.lt_of_lt_of_le Vb.out kk.size) Vh.out;try rw[hw]
        try rw[hgB]
        clear hw kk Vh hgB Vk;have hHeldE3:=HS.out _ J.out;refine tR 6 rfl (by kernel_rfl) (fun _ _ _=>id) (Or.inl ⟨by rfl,by rintro W ⟨o0,o1,o2,o3,o4,o5,o6,o7,o8,o9,o10,o11,o12,o13,o14,o15,o16,o17,o18,o19,o20,o21,o22,o23,o24,o25,o26,o27,o28,o29,o30,o31,o32⟩;go_simp<;>with_reducible rfl⟩) ‹_› ?_;try simp only[nA,nB,nC,nD,nE]
        have z0:=Va.out.at_ 0 _ rfl;have z1:=Va.out.at_ 1 _ rfl;have z2:=Va.out.at_ 2 _ rfl;have f0:=Va.out.free 0;have f1:=Va.out.free 1;have f2:=Va.out.free 2;have PP:=lH (j4 (vs:=[.slice (some ⟨gB,0,none⟩) 1 1,.slice (some ⟨gS,0,none⟩) 3 3,.slice none 0 0]) Va.out rfl);refine rd1 8 fun K9 Ky=>?_;go_simp;obtain⟨WE,hWE⟩:=eX (wb.setCells gA 0 [.slice (some ⟨gB,0,none⟩) 1 1,.slice (some ⟨gS,0,none⟩) 3 3,.slice none 0 0])
        have hWE2:(((wb.setCell ⟨gA,0,none⟩ (.slice (some ⟨gB,0,none⟩) 1 1)).setCell ⟨gA,1,none⟩ (.slice (some ⟨gS,0,none⟩) 3 3)).setCell ⟨gA,2,none⟩ (.slice none 0 0))=WE:=hWE;rw[hWE] at PP;try rw[hWE2]
        have RE:=lH (show jB WE (.agg #[.slice (some ⟨gB,0,none⟩) 1 1,.slice (some ⟨gS,0,none⟩) 3 3,.slice none 0 0]) sdS from zH (w:=wb) (N:=gA) PP.out.size PP.out.far (Jz Vn.out) ⟨_,_,_,rfl,⟨⟨_,_,rfl,by decide,by decide,Vu.out⟩,⟨_,_,rfl,by decide,by decide,Vm.out⟩,⟨_,_,rfl,by decide,by decide,zI _⟩⟩⟩);have JE:=lH (show Kept v7 WE by rw[←hWE];exact js gA _ _ _ _ _ Vq.out J.out);clear hWE hWE2 z0 f0 z1 f1 z2 f2;refine Ky.out _ _ (HS.out _ JE.out) (fun _=>?_);clear Ky K9;try simp only[nA,nB,nC,nD,nE]
        refine wpAnyH_done (by kernel_rfl) ?_ _;go_wp2;go_meet
        case rel=>exact⟨gA,gB,gS,rfl,PP.out.cells,RE.out,JE.out⟩
    · go_simp;refine Ky.out _ _ (HS.out _ (J.out.trans (ja _ _))) (fun _=>?_);clear Ky K9;try simp only[nA,nB,nC,nD,nE]
      obtain⟨wa,hw⟩:=eX (ws.alloc (.cells #[.slice none 0 0,.slice none 0 0,.slice none 0 0] 26))
      have kk:Kept ws wa:=by rw[←hw];exact ja _ _
      obtain⟨gA,hgA⟩:=eX (ws.heap.size)
      have Vq:=lH (show v7.heap.size≤gA by rw[←hgA];exact J.out.size);have hqa:je gA [.slice none 0 0,.slice none 0 0,.slice none 0 0] wa:=by
       have c:=jb ws (.slice none 0 0) [.slice none 0 0,.slice none 0 0] 26 wa (by rw[hw];exact Kept.refl _);rw[hgA] at c;exact c
      have hha:wa.heap[gA]?=some (.cells #[.slice none 0 0,.slice none 0 0,.slice none 0 0] 26):=by rw[←hw,←hgA];exact World.alloc_heap_new ws _
      obtain⟨Vm,J,Va,Vn,Vb⟩:=lH5 (Vm.out.kept kk) (J.out.trans kk) hqa hha hqa.lt;try rw[hw]
      try rw[hgA]
      clear hw kk hqa hha hgA;have hHeldE1:=HS.out _ J.out;refine rd1 0 fun K9 Ky=>?_;go_simp;refine(Xp ⟨#[97]⟩ 10 (by decide:(-9223372036854775808:Int)≤10∧(10:Int)≤9223372036854775807) (by decide:(1:Nat)≤maxLen) _).mono ?_;rintro e wp ⟨p1,q1,r1,rfl,ha,kk⟩;obtain⟨Vm,Va,J,Vn,Vb,Vk⟩:=lH6 (Vm.out.kept kk) (Va.out.kept kk) (J.out.trans kk) ((kk.block _ Vb.out).trans Vn.out) (Nat.lt_of_lt_of_le Vb.out kk.size) ha;clear ha kk;refine Ky.out _ _ (HS.out _ J.out) (fun _=>?_);clear Ky K9;try simp only[nA,nB,nC,nD,nE]
      refine rd1 1 fun K9 Ky=>?_;go_simp;refine Ky.out _ _ (HS.out _ (J.out.trans (ja _ _))) (fun _=>?_);clear Ky K9;try simp only[nA,nB,nC,nD,nE]
      obtain⟨wb,hw⟩:=eX (wp.alloc (.cells #[.string ⟨#[97]⟩,.slice p1 q1 r1,.slice none 0 0,.slice none 0 0,.bool false] 57))
      have kk:Kept wp wb:=by rw[←hw];exact ja _ _
      obtain⟨gB,hgB⟩:=eX (wp.heap.size)
      have Vh:=lH (show jt wb (some ⟨gB,0,none⟩) 1 sdS.nodes from by
       have c:=jb wp (.string ⟨#[97]⟩) [.slice p1 q1 r1,.slice none 0 0,.slice none 0 0,.bool false] 57 wb (by rw[hw];exact Kept.refl _);rw[hgB] at c;exact zF (lx:=[(Yo ⟨#[97]⟩ 10,(p1,q1,r1),(none,0,0),(none,0,0))]) (jT rfl c (fun _ _=>trivial) (by decide:(1:Nat)≤maxLen)) (fun z hz=>by
        obtain rfl:=List.mem_singleton.1 hz;exact Vk.out.kept kk))
      obtain⟨Vk,Vm,Va,J,Vn,Vb,Vu⟩:=lH7 (Vk.out.kept kk) (Vm.out.kept kk) (Va.out.kept kk) (J.out.trans kk) ((kk.block _ Vb.out).trans Vn.out) (Nat.lt_of_lt_of_le Vb.out kk.size) Vh.out;try rw[hw]
      try rw[hgB]
      clear hw kk Vh hgB Vk;have hHeldE3:=HS.out _ J.out;refine tR 6 rfl (by kernel_rfl) (fun _ _ _=>id) (Or.inl ⟨by rfl,by rintro W ⟨o0,o1,o2,o3,o4,o5,o6,o7,o8,o9,o10,o11,o12,o13,o14,o15,o16,o17,o18,o19,o20,o21,o22,o23,o24,o25,o26,o27,o28,o29,o30,o31,o32⟩;go_simp<;>with_reducible rfl⟩) ‹_› ?_;try simp only[nA,nB,nC,nD,nE]
      have z0:=Va.out.at_ 0 _ rfl;have z1:=Va.out.at_ 1 _ rfl;have z2:=Va.out.at_ 2 _ rfl;have f0:=Va.out.free 0;have f1:=Va.out.free 1;have f2:=Va.out.free 2;have PP:=lH (j4 (vs:=[.slice (some ⟨gB,0,none⟩) 1 1,.slice (some ⟨gS,0,none⟩) 3 3,.slice none 0 0]) Va.out rfl);refine rd1 8 fun K9 Ky=>?_;go_simp;obtain⟨WE,hWE⟩:=eX (wb.setCells gA 0 [.slice (some ⟨gB,0,none⟩) 1 1,.slice (some ⟨gS,0,none⟩) 3 3,.slice none 0 0])
      have hWE2:(((wb.setCell ⟨gA,0,none⟩ (.slice (some ⟨gB,0,none⟩) 1 1)).setCell ⟨gA,1,none⟩ (.slice (some ⟨gS,0,none⟩) 3 3)).setCell ⟨gA,2,none⟩ (.slice none 0 0))=WE:=hWE;rw[hWE] at PP;try rw[hWE2]
      have RE:=lH (show jB WE (.agg #[.slice (some ⟨gB,0,none⟩) 1 1,.slice (some ⟨gS,0,none⟩) 3 3,.slice none 0 0]) sdS from zH (w:=wb) (N:=gA) PP.out.size PP.out.far (Jz Vn.out) ⟨_,_,_,rfl,⟨⟨_,_,rfl,by decide,by decide,Vu.out⟩,⟨_,_,rfl,by decide,by decide,Vm.out⟩,⟨_,_,rfl,by decide,by decide,zI _⟩⟩⟩);have JE:=lH (show Kept v7 WE by rw[←hWE];exact js gA _ _ _ _ _ Vq.out J.out);clear hWE hWE2 z0 f0 z1 f1 z2 f2;refine Ky.out _ _ (HS.out _ JE.out) (fun _=>?_);clear Ky K9;try simp only[nA,nB,nC,nD,nE]
      refine wpAnyH_done (by kernel_rfl) ?_ _;go_wp2;go_meet
      case rel=>exact⟨gA,gB,gS,rfl,PP.out.cells,RE.out,JE.out⟩
  · go_simp;refine Ky.out _ _ (HS.out _ (J.out.trans (ja _ _))) (fun _=>?_);clear Ky K9;try simp only[nA,nB,nC,nD,nE]
    obtain⟨wa,hw⟩:=eX (wq.alloc (.cells #[.slice none 0 0,.slice none 0 0,.slice none 0 0] 26))
    have kk:Kept wq wa:=by rw[←hw];exact ja _ _
    obtain⟨gA,hgA⟩:=eX (wq.heap.size)
    have Vq:=lH (show v7.heap.size≤gA by rw[←hgA];exact J.out.size);have hqa:je gA [.slice none 0 0,.slice none 0 0,.slice none 0 0] wa:=by
     have c:=jb wq (.slice none 0 0) [.slice none 0 0,.slice none 0 0] 26 wa (by rw[hw];exact Kept.refl _);rw[hgA] at c;exact c
    have hha:wa.heap[gA]?=some (.cells #[.slice none 0 0,.slice none 0 0,.slice none 0 0] 26):=by rw[←hw,←hgA];exact World.alloc_heap_new wq _
    obtain⟨H1,H2,H3,J,Va,Vn,Vb⟩:=lH7 (ji.kept H1.out kk) (ji.kept H2.out kk) (ji.kept H3.out kk) (J.out.trans kk) hqa hha hqa.lt;try rw[hw]
    try rw[hgA]
    clear hw kk hqa hha hgA;have hHeldE0:=HS.out _ J.out;refine wpAnyH_ready  (rs:=[0,5]) (by kernel_rfl) (by simp) (AllReadyH.cons  (by rw[List.getElem?_toArray];exact rfl) (fun K9 Ky=>?_) (AllReadyH.cons  (by rw[List.getElem?_toArray];exact rfl) (fun K9 Ky=>?_) AllReadyH.nil))
    · go_simp;refine(Xp ⟨#[97]⟩ 10 (by decide:(-9223372036854775808:Int)≤10∧(10:Int)≤9223372036854775807) (by decide:(1:Nat)≤maxLen) _).mono ?_;rintro e wp ⟨p1,q1,r1,rfl,ha,kk⟩;obtain⟨H1,H2,H3,Va,J,Vn,Vb,Vk⟩:=lH8 (ji.kept H1.out kk) (ji.kept H2.out kk) (ji.kept H3.out kk) (Va.out.kept kk) (J.out.trans kk) ((kk.block _ Vb.out).trans Vn.out) (Nat.lt_of_lt_of_le Vb.out kk.size) ha;clear ha kk;refine Ky.out _ _ (HS.out _ J.out) (fun _=>?_);clear Ky K9;try simp only[nA,nB,nC,nD,nE]
      refine wpAnyH_ready  (rs:=[1,5]) (by kernel_rfl) (by simp) (AllReadyH.cons  (by rw[List.getElem?_toArray];exact rfl) (fun K9 Ky=>?_) (AllReadyH.cons  (by rw[List.getElem?_toArray];exact rfl) (fun K9 Ky=>?_) AllReadyH.nil))
      · go_simp;refine Ky.out _ _ (HS.out _ (J.out.trans (ja _ _))) (fun _=>?_);clear Ky K9;try simp only[nA,nB,nC,nD,nE]
        obtain⟨wb,hw⟩:=eX (wp.alloc (.cells #[.string ⟨#[97]⟩,.slice p1 q1 r1,.slice none 0 0,.slice none 0 0,.bool false] 57))
        have kk:Kept wp wb:=by rw[←hw];exact ja _ _
        obtain⟨gB,hgB⟩:=eX (wp.heap.size)
        have Vh:=lH (show jt wb (some ⟨gB,0,none⟩) 1 sdS.nodes from by
         have c:=jb wp (.string ⟨#[97]⟩) [.slice p1 q1 r1,.slice none 0 0,.slice none 0 0,.bool false] 57 wb (by rw[hw];exact Kept.refl _);rw[hgB] at c;exact zF (lx:=[(Yo ⟨#[97]⟩ 10,(p1,q1,r1),(none,0,0),(none,0,0))]) (jT rfl c (fun _ _=>trivial) (by decide:(1:Nat)≤maxLen)) (fun z hz=>by
          obtain rfl:=List.mem_singleton.1 hz;exact Vk.out.kept kk))
        obtain⟨H1,H2,H3,Vk,Va,J,Vn,Vb⟩:=lH8 (ji.kept H1.out kk) (ji.kept H2.out kk) (ji.kept H3.out kk) (Vk.out.kept kk) (Va.out.kept kk) (J.out.trans kk) ((kk.block _ Vb.out).trans Vn.out) (Nat.lt_of_lt_of_le Vb.out kk.size);have Vu:=lH Vh.out;try rw[hw]
        try rw[hgB]
        clear hw kk Vh hgB Vk;have hHeldE2:=HS.out _ J.out;refine rd1 5 fun K9 Ky=>?_;go_simp;refine Ky.out _ _ (HS.out _ (J.out.trans (ja _ _))) (fun _=>?_);clear Ky K9;try simp only[nA,nB,nC,nD,nE]
        obtain⟨ws,hw⟩:=eX (wb.alloc (.cells #[.string ⟨#[120]⟩,.string ⟨#[]⟩,.int .i64 0,.slice b1 n1 d1,.slice none 0 0,.slice none 0 0,.slice none 0 0,.string ⟨#[]⟩,.int .i64 0,.string ⟨#[]⟩,.bool false,.string ⟨#[121]⟩,.string ⟨#[]⟩,.int .i64 5,.slice b2 n2 d2,.slice none 0 0,.slice none 0 0,.slice none 0 0,.string ⟨#[]⟩,.int .i64 0,.string ⟨#[]⟩,.bool false,.string ⟨#[122]⟩,.string ⟨#[]⟩,.int .i64 0,.slice b3 n3 d3,.slice none 0 0,.slice none 0 0,.slice none 0 0,.string ⟨#[]⟩,.int .i64 0,.string ⟨#[]⟩,.bool false] 44))
        have kk:Kept wb ws:=by rw[←hw];exact ja _ _
        obtain⟨gS,hgS⟩:=eX (wb.heap.size)
        have Vp:=lH (show jC ws (some ⟨gS,0,none⟩) 3 sdS.pods from by
         have c:=jb wb (.string ⟨#[120]⟩) [.string ⟨#[]⟩,.int .i64 0,.slice b1 n1 d1,.slice none 0 0,.slice none 0 0,.slice none 0 0,.string ⟨#[]⟩,.int .i64 0,.string ⟨#[]⟩,.bool false,.string ⟨#[121]⟩,.string ⟨#[]⟩,.int .i64 5,.slice b2 n2 d2,.slice none 0 0,.slice none 0 0,.slice none 0 0,.string ⟨#[]⟩,.int .i64 0,.string ⟨#[]⟩,.bool false,.string ⟨#[122]⟩,.string ⟨#[]⟩,.int .i64 0,.slice b3 n3 d3,.slice none 0 0,.slice none 0 0,.slice none 0 0,.string ⟨#[]⟩,.int .i64 0,.string ⟨#[]⟩,.bool false] 44 ws (by rw[hw];exact Kept.refl _);rw[hgS] at c;exact JO (lx:=[(sdX,(b1,n1,d1),(none,0,0),(none,0,0),(none,0,0)),(sdY,(b2,n2,d2),(none,0,0),(none,0,0),(none,0,0)),(sdZ,(b3,n3,d3),(none,0,0),(none,0,0),(none,0,0))]) (jT rfl c (fun _ _=>trivial) (by decide:(3:Nat)≤maxLen)) (fun z hz=>by
          rcases List.mem_cons.1 hz with rfl | hz
          · exact ji.kept H1.out kk
          rcases List.mem_cons.1 hz with rfl | hz
          · exact ji.kept H2.out kk
          obtain rfl:=List.mem_singleton.1 hz;exact ji.kept H3.out kk))
        obtain⟨Vu,Va,J,Vn,Vb,Vm⟩:=lH6 (Vu.out.kept kk) (Va.out.kept kk) (J.out.trans kk) ((kk.block _ Vb.out).trans Vn.out) (Nat.lt_of_lt_of_le Vb.out kk.size) Vp.out;try rw[hw]
        try rw[hgS]
        clear hw kk Vp hgS H1 H2 H3;have hHeldE3:=HS.out _ J.out;refine tR 6 rfl (by kernel_rfl) (fun _ _ _=>id) (Or.inl ⟨by rfl,by rintro W ⟨o0,o1,o2,o3,o4,o5,o6,o7,o8,o9,o10,o11,o12,o13,o14,o15,o16,o17,o18,o19,o20,o21,o22,o23,o24,o25,o26,o27,o28,o29,o30,o31,o32⟩;go_simp<;>with_reducible rfl⟩) ‹_› ?_;try simp only[nA,nB,nC,nD,nE]
        have z0:=Va.out.at_ 0 _ rfl;have z1:=Va.out.at_ 1 _ rfl;have z2:=Va.out.at_ 2 _ rfl;have f0:=Va.out.free 0;have f1:=Va.out.free 1;have f2:=Va.out.free 2;have PP:=lH (j4 (vs:=[.slice (some ⟨gB,0,none⟩) 1 1,.slice (some ⟨gS,0,none⟩) 3 3,.slice none 0 0]) Va.out rfl);refine rd1 8 fun K9 Ky=>?_;go_simp;obtain⟨WE,hWE⟩:=eX (ws.setCells gA 0 [.slice (some ⟨gB,0,none⟩) 1 1,.slice (some ⟨gS,0,none⟩) 3 3,.slice none 0 0])
        have hWE2:(((ws.setCell ⟨gA,0,none⟩ (.slice (some ⟨gB,0,none⟩) 1 1)).setCell ⟨gA,1,none⟩ (.slice (some ⟨gS,0,none⟩) 3 3)).setCell ⟨gA,2,none⟩ (.slice none 0 0))=WE:=hWE;rw[hWE] at PP;try rw[hWE2]
        have RE:=lH (show jB WE (.agg #[.slice (some ⟨gB,0,none⟩) 1 1,.slice (some ⟨gS,0,none⟩) 3 3,.slice none 0 0]) sdS from zH (w:=ws) (N:=gA) PP.out.size PP.out.far (Jz Vn.out) ⟨_,_,_,rfl,⟨⟨_,_,rfl,by decide,by decide,Vu.out⟩,⟨_,_,rfl,by decide,by decide,Vm.out⟩,⟨_,_,rfl,by decide,by decide,zI _⟩⟩⟩);have JE:=lH (show Kept v7 WE by rw[←hWE];exact js gA _ _ _ _ _ Vq.out J.out);clear hWE hWE2 z0 f0 z1 f1 z2 f2;refine Ky.out _ _ (HS.out _ JE.out) (fun _=>?_);clear Ky K9;try simp only[nA,nB,nC,nD,nE]
        refine wpAnyH_done (by kernel_rfl) ?_ _;go_wp2;go_meet
        case rel=>exact⟨gA,gB,gS,rfl,PP.out.cells,RE.out,JE.out⟩
      · go_simp;refine Ky.out _ _ (HS.out _ (J.out.trans (ja _ _))) (fun _=>?_);clear Ky K9;try simp only[nA,nB,nC,nD,nE]
        obtain⟨ws,hw⟩:=eX (wp.alloc (.cells #[.string ⟨#[120]⟩,.string ⟨#[]⟩,.int .i64 0,.slice b1 n1 d1,.slice none 0 0,.slice none 0 0,.slice none 0 0,.string ⟨#[]⟩,.int .i64 0,.string ⟨#[]⟩,.bool false,.string ⟨#[121]⟩,.string ⟨#[]⟩,.int .i64 5,.slice b2 n2 d2,.slice none 0 0,.slice none 0 0,.slice none 0 0,.string ⟨#[]⟩,.int .i64 0,.string ⟨#[]⟩,.bool false,.string ⟨#[122]⟩,.string ⟨#[]⟩,.int .i64 0,.slice b3 n3 d3,.slice none 0 0,.slice none 0 0,.slice none 0 0,.string ⟨#[]⟩,.int .i64 0,.string ⟨#[]⟩,.bool false] 44))
        have kk:Kept wp ws:=by rw[←hw];exact ja _ _
        obtain⟨gS,hgS⟩:=eX (wp.heap.size)
        have Vp:=lH (show jC ws (some ⟨gS,0,none⟩) 3 sdS.pods from by
         have c:=jb wp (.string ⟨#[120]⟩) [.string ⟨#[]⟩,.int .i64 0,.slice b1 n1 d1,.slice none 0 0,.slice none 0 0,.slice none 0 0,.string ⟨#[]⟩,.int .i64 0,.string ⟨#[]⟩,.bool false,.string ⟨#[121]⟩,.string ⟨#[]⟩,.int .i64 5,.slice b2 n2 d2,.slice none 0 0,.slice none 0 0,.slice none 0 0,.string ⟨#[]⟩,.int .i64 0,.string ⟨#[]⟩,.bool false,.string ⟨#[122]⟩,.string ⟨#[]⟩,.int .i64 0,.slice b3 n3 d3,.slice none 0 0,.slice none 0 0,.slice none 0 0,.string ⟨#[]⟩,.int .i64 0,.string ⟨#[]⟩,.bool false] 44 ws (by rw[hw];exact Kept.refl _);rw[hgS] at c;exact JO (lx:=[(sdX,(b1,n1,d1),(none,0,0),(none,0,0),(none,0,0)),(sdY,(b2,n2,d2),(none,0,0),(none,0,0),(none,0,0)),(sdZ,(b3,n3,d3),(none,0,0),(none,0,0),(none,0,0))]) (jT rfl c (fun _ _=>trivial) (by decide:(3:Nat)≤maxLen)) (fun z hz=>by
          rcases List.mem_cons.1 hz with rfl | hz
          · exact ji.kept H1.out kk
          rcases List.mem_cons.1 hz with rfl | hz
          · exact ji.kept H2.out kk
          obtain rfl:=List.mem_singleton.1 hz;exact ji.kept H3.out kk))
        obtain⟨Vk,Va,J,Vn,Vb,Vm⟩:=lH6 (Vk.out.kept kk) (Va.out.kept kk) (J.out.trans kk) ((kk.block _ Vb.out).trans Vn.out) (Nat.lt_of_lt_of_le Vb.out kk.size) Vp.out;try rw[hw]
        try rw[hgS]
        clear hw kk Vp hgS H1 H2 H3;have hHeldE2:=HS.out _ J.out;refine rd1 1 fun K9 Ky=>?_;go_simp;refine Ky.out _ _ (HS.out _ (J.out.trans (ja _ _))) (fun _=>?_);clear Ky K9;try simp only[nA,nB,nC,nD,nE]
        obtain⟨wb,hw⟩:=eX (ws.alloc (.cells #[.string ⟨#[97]⟩,.slice p1 q1 r1,.slice none 0 0,.slice none 0 0,.bool false] 57))
        have kk:Kept ws wb:=by rw[←hw];exact ja _ _
        obtain⟨gB,hgB⟩:=eX (ws.heap.size)
        have Vh:=lH (show jt wb (some ⟨gB,0,none⟩) 1 sdS.nodes from by
         have c:=jb ws (.string ⟨#[97]⟩) [.slice p1 q1 r1,.slice none 0 0,.slice none 0 0,.bool false] 57 wb (by rw[hw];exact Kept.refl _);rw[hgB] at c;exact zF (lx:=[(Yo ⟨#[97]⟩ 10,(p1,q1,r1),(none,0,0),(none,0,0))]) (jT rfl c (fun _ _=>trivial) (by decide:(1:Nat)≤maxLen)) (fun z hz=>by
          obtain rfl:=List.mem_singleton.1 hz;exact Vk.out.kept kk))
        obtain⟨Vk,Vm,Va,J,Vn,Vb,Vu⟩:=lH7 (Vk.out.kept kk) (Vm.out.kept kk) (Va.out.kept kk) (J.out.trans kk) ((kk.block _ Vb.out).trans Vn.out) (Nat.lt_of_lt_of_le Vb.out kk.size) Vh.out;try rw[hw]
        try rw[hgB]
        clear hw kk Vh hgB Vk;have hHeldE3:=HS.out _ J.out;refine tR 6 rfl (by kernel_rfl) (fun _ _ _=>id) (Or.inl ⟨by rfl,by rintro W ⟨o0,o1,o2,o3,o4,o5,o6,o7,o8,o9,o10,o11,o12,o13,o14,o15,o16,o17,o18,o19,o20,o21,o22,o23,o24,o25,o26,o27,o28,o29,o30,o31,o32⟩;go_simp<;>with_reducible rfl⟩) ‹_› ?_;try simp only[nA,nB,nC,nD,nE]
        have z0:=Va.out.at_ 0 _ rfl;have z1:=Va.out.at_ 1 _ rfl;have z2:=Va.out.at_ 2 _ rfl;have f0:=Va.out.free 0;have f1:=Va.out.free 1;have f2:=Va.out.free 2;have PP:=lH (j4 (vs:=[.slice (some ⟨gB,0,none⟩) 1 1,.slice (some ⟨gS,0,none⟩) 3 3,.slice none 0 0]) Va.out rfl);refine rd1 8 fun K9 Ky=>?_;go_simp;obtain⟨WE,hWE⟩:=eX (wb.setCells gA 0 [.slice (some ⟨gB,0,none⟩) 1 1,.slice (some ⟨gS,0,none⟩) 3 3,.slice none 0 0])
        have hWE2:(((wb.setCell ⟨gA,0,none⟩ (.slice (some ⟨gB,0,none⟩) 1 1)).setCell ⟨gA,1,none⟩ (.slice (some ⟨gS,0,none⟩) 3 3)).setCell ⟨gA,2,none⟩ (.slice none 0 0))=WE:=hWE;rw[hWE] at PP;try rw[hWE2]
        have RE:=lH (show jB WE (.agg #[.slice (some ⟨gB,0,none⟩) 1 1,.slice (some ⟨gS,0,none⟩) 3 3,.slice none 0 0]) sdS from zH (w:=wb) (N:=gA) PP.out.size PP.out.far (Jz Vn.out) ⟨_,_,_,rfl,⟨⟨_,_,rfl,by decide,by decide,Vu.out⟩,⟨_,_,rfl,by decide,by decide,Vm.out⟩,⟨_,_,rfl,by decide,by decide,zI _⟩⟩⟩);have JE:=lH (show Kept v7 WE by rw[←hWE];exact js gA _ _ _ _ _ Vq.out J.out);clear hWE hWE2 z0 f0 z1 f1 z2 f2;refine Ky.out _ _ (HS.out _ JE.out) (fun _=>?_);clear Ky K9;try simp only[nA,nB,nC,nD,nE]
        refine wpAnyH_done (by kernel_rfl) ?_ _;go_wp2;go_meet
        case rel=>exact⟨gA,gB,gS,rfl,PP.out.cells,RE.out,JE.out⟩
    · go_simp;refine Ky.out _ _ (HS.out _ (J.out.trans (ja _ _))) (fun _=>?_);clear Ky K9;try simp only[nA,nB,nC,nD,nE]
      obtain⟨ws,hw⟩:=eX (wa.alloc (.cells #[.string ⟨#[120]⟩,.string ⟨#[]⟩,.int .i64 0,.slice b1 n1 d1,.slice none 0 0,.slice none 0 0,.slice none 0 0,.string ⟨#[]⟩,.int .i64 0,.string ⟨#[]⟩,.bool false,.string ⟨#[121]⟩,.string ⟨#[]⟩,.int .i64 5,.slice b2 n2 d2,.slice none 0 0,.slice none 0 0,.slice none 0 0,.string ⟨#[]⟩,.int .i64 0,.string ⟨#[]⟩,.bool false,.string ⟨#[122]⟩,.string ⟨#[]⟩,.int .i64 0,.slice b3 n3 d3,.slice none 0 0,.slice none 0 0,.slice none 0 0,.string ⟨#[]⟩,.int .i64 0,.string ⟨#[]⟩,.bool false] 44))
      have kk:Kept wa ws:=by rw[←hw];exact ja _ _
      obtain⟨gS,hgS⟩:=eX (wa.heap.size)
      have Vp:=lH (show jC ws (some ⟨gS,0,none⟩) 3 sdS.pods from by
       have c:=jb wa (.string ⟨#[120]⟩) [.string ⟨#[]⟩,.int .i64 0,.slice b1 n1 d1,.slice none 0 0,.slice none 0 0,.slice none 0 0,.string ⟨#[]⟩,.int .i64 0,.string ⟨#[]⟩,.bool false,.string ⟨#[121]⟩,.string ⟨#[]⟩,.int .i64 5,.slice b2 n2 d2,.slice none 0 0,.slice none 0 0,.slice none 0 0,.string ⟨#[]⟩,.int .i64 0,.string ⟨#[]⟩,.bool false,.string ⟨#[122]⟩,.string ⟨#[]⟩,.int .i64 0,.slice b3 n3 d3,.slice none 0 0,.slice none 0 0,.slice none 0 0,.string ⟨#[]⟩,.int .i64 0,.string ⟨#[]⟩,.bool false] 44 ws (by rw[hw];exact Kept.refl _);rw[hgS] at c;exact JO (lx:=[(sdX,(b1,n1,d1),(none,0,0),(none,0,0),(none,0,0)),(sdY,(b2,n2,d2),(none,0,0),(none,0,0),(none,0,0)),(sdZ,(b3,n3,d3),(none,0,0),(none,0,0),(none,0,0))]) (jT rfl c (fun _ _=>trivial) (by decide:(3:Nat)≤maxLen)) (fun z hz=>by
        rcases List.mem_cons.1 hz with rfl | hz
        · exact ji.kept H1.out kk
        rcases List.mem_cons.1 hz with rfl | hz
        · exact ji.kept H2.out kk
        obtain rfl:=List.mem_singleton.1 hz;exact ji.kept H3.out kk))
      obtain⟨Va,J,Vn,Vb,Vm⟩:=lH5 (Va.out.kept kk) (J.out.trans kk) ((kk.block _ Vb.out).trans Vn.out) (Nat.lt_of_lt_of_le Vb.out kk.size) Vp.out;try rw[hw]
      try rw[hgS]
      clear hw kk Vp hgS H1 H2 H3;have hHeldE1:=HS.out _ J.out;refine rd1 0 fun K9 Ky=>?_;go_simp;refine(Xp ⟨#[97]⟩ 10 (by decide:(-9223372036854775808:Int)≤10∧(10:Int)≤9223372036854775807) (by decide:(1:Nat)≤maxLen) _).mono ?_;rintro e wp ⟨p1,q1,r1,rfl,ha,kk⟩;obtain⟨Vm,Va,J,Vn,Vb,Vk⟩:=lH6 (Vm.out.kept kk) (Va.out.kept kk) (J.out.trans kk) ((kk.block _ Vb.out).trans Vn.out) (Nat.lt_of_lt_of_le Vb.out kk.size) ha;clear ha kk;refine Ky.out _ _ (HS.out _ J.out) (fun _=>?_);clear Ky K9;try simp only[nA,nB,nC,nD,nE]
      refine rd1 1 fun K9 Ky=>?_;go_simp;refine Ky.out _ _ (HS.out _ (J.out.trans (ja _ _))) (fun _=>?_);clear Ky K9;try simp only[nA,nB,nC,nD,nE]
      obtain⟨wb,hw⟩:=eX (wp.alloc (.cells #[.string ⟨#[97]⟩,.slice p1 q1 r1,.slice none 0 0,.slice none 0 0,.bool false] 57))
      have kk:Kept wp wb:=by rw[←hw];exact ja _ _
      obtain⟨gB,hgB⟩:=eX (wp.heap.size)
      have Vh:=lH (show jt wb (some ⟨gB,0,none⟩) 1 sdS.nodes from by
       have c:=jb wp (.string ⟨#[97]⟩) [.slice p1 q1 r1,.slice none 0 0,.slice none 0 0,.bool false] 57 wb (by rw[hw];exact Kept.refl _);rw[hgB] at c;exact zF (lx:=[(Yo ⟨#[97]⟩ 10,(p1,q1,r1),(none,0,0),(none,0,0))]) (jT rfl c (fun _ _=>trivial) (by decide:(1:Nat)≤maxLen)) (fun z hz=>by
        obtain rfl:=List.mem_singleton.1 hz;exact Vk.out.kept kk))
      obtain⟨Vk,Vm,Va,J,Vn,Vb,Vu⟩:=lH7 (Vk.out.kept kk) (Vm.out.kept kk) (Va.out.kept kk) (J.out.trans kk) ((kk.block _ Vb.out).trans Vn.out) (Nat.lt_of_lt_of_le Vb.out kk.size) Vh.out;try rw[hw]
      try rw[hgB]
      clear hw kk Vh hgB Vk;have hHeldE3:=HS.out _ J.out;refine tR 6 rfl (by kernel_rfl) (fun _ _ _=>id) (Or.inl ⟨by rfl,by rintro W ⟨o0,o1,o2,o3,o4,o5,o6,o7,o8,o9,o10,o11,o12,o13,o14,o15,o16,o17,o18,o19,o20,o21,o22,o23,o24,o25,o26,o27,o28,o29,o30,o31,o32⟩;go_simp<;>with_reducible rfl⟩) ‹_› ?_;try simp only[nA,nB,nC,nD,nE]
      have z0:=Va.out.at_ 0 _ rfl;have z1:=Va.out.at_ 1 _ rfl;have z2:=Va.out.at_ 2 _ rfl;have f0:=Va.out.free 0;have f1:=Va.out.free 1;have f2:=Va.out.free 2;have PP:=lH (j4 (vs:=[.slice (some ⟨gB,0,none⟩) 1 1,.slice (some ⟨gS,0,none⟩) 3 3,.slice none 0 0]) Va.out rfl);refine rd1 8 fun K9 Ky=>?_;go_simp;obtain⟨WE,hWE⟩:=eX (wb.setCells gA 0 [.slice (some ⟨gB,0,none⟩) 1 1,.slice (some ⟨gS,0,none⟩) 3 3,.slice none 0 0])
      have hWE2:(((wb.setCell ⟨gA,0,none⟩ (.slice (some ⟨gB,0,none⟩) 1 1)).setCell ⟨gA,1,none⟩ (.slice (some ⟨gS,0,none⟩) 3 3)).setCell ⟨gA,2,none⟩ (.slice none 0 0))=WE:=hWE;rw[hWE] at PP;try rw[hWE2]
      have RE:=lH (show jB WE (.agg #[.slice (some ⟨gB,0,none⟩) 1 1,.slice (some ⟨gS,0,none⟩) 3 3,.slice none 0 0]) sdS from zH (w:=wb) (N:=gA) PP.out.size PP.out.far (Jz Vn.out) ⟨_,_,_,rfl,⟨⟨_,_,rfl,by decide,by decide,Vu.out⟩,⟨_,_,rfl,by decide,by decide,Vm.out⟩,⟨_,_,rfl,by decide,by decide,zI _⟩⟩⟩);have JE:=lH (show Kept v7 WE by rw[←hWE];exact js gA _ _ _ _ _ Vq.out J.out);clear hWE hWE2 z0 f0 z1 f1 z2 f2;refine Ky.out _ _ (HS.out _ JE.out) (fun _=>?_);clear Ky K9;try simp only[nA,nB,nC,nD,nE]
      refine wpAnyH_done (by kernel_rfl) ?_ _;go_wp2;go_meet
      case rel=>exact⟨gA,gB,gS,rfl,PP.out.cells,RE.out,JE.out⟩
 case rest =>
  obtain⟨gs,x1,x2,rfl,hh⟩:=hcut;obtain⟨HQ,HC,K⟩:=lH3 hh.out.1 hh.out.2.1 (K.out.trans hh.out.2.2);clear hh HS H1 H2 H3 C1 C2 C3 Uu K0 e12 e13 e21 e23 e31 e32;obtain⟨W0,hW0⟩:∃W,W=wc:=⟨_,rfl⟩
  subst hW0;have NR:=lH (jk7 HC.out);have KW:=lH (Kept.refl W0);obtain⟨y0,y1,y2⟩:=HQ.out.at3;go_wp2_with fail
  refine(Xu HC.out Z9 jbB).mono ?_;rintro e y1w ⟨vl,rfl,⟨la,lc,rfl,-,-,hrow⟩,kk⟩;rw[jhn] at hrow ⊢;obtain⟨HR,HQ,HC,KW⟩:=lH4 (show jC y1w la 3 [sdY,sdX,sdZ] from hrow) (HQ.out.kept kk) (HC.out.kept kk) (KW.out.trans kk);clear kk hrow y0 y1 y2;have HN:=lH (jba (some ⟨x1,0,none⟩) (some ⟨x2,0,none⟩) none 1 1 3 3 0 0 false sdS y1w HC.out Z9 jbB (by decide:(4:Nat)≤100000));unfold jbo at HN;rw[jmg] at HN;have HN:=lH (show Calls Tryz.prog 9 #[.agg #[.slice (some ⟨x1,0,none⟩) 1 1,.slice (some ⟨x2,0,none⟩) 3 3,.slice none 0 0],.bool false] y1w (fun e w'=>e=.returned (.tuple #[.agg #[.string ⟨#[121]⟩,.string ⟨#[97]⟩],.bool true])∧Kept y1w w') from HN.out);obtain⟨y0,y1,y2⟩:=HQ.out.at3;go_wp2_with fail
  refine HN.out.mono ?_;rintro e y2w ⟨rfl,kk⟩;obtain⟨HQ,HC,HR,KW⟩:=lH4 (HQ.out.kept kk) (HC.out.kept kk) (HR.out.kept kk) (KW.out.trans kk);clear kk HN y0 y1 y2;obtain⟨gb,hgb⟩:=eX (y2w.heap.size)
  obtain⟨y3w,hy3⟩:=eX (y2w.alloc (.cells #[.string ⟨#[121]⟩,.string ⟨#[97]⟩] 31))
  have kk:Kept y2w y3w:=by rw[←hy3];exact ja _ _
  have Ve:=lH (show je gb [.string ⟨#[121]⟩,.string ⟨#[97]⟩] y3w by
   have c:=jb y2w (.string ⟨#[121]⟩) [.string ⟨#[97]⟩] 31 y3w (by rw[hy3];exact Kept.refl _);rw[hgb] at c;exact c)
  obtain⟨HQ,HC,HR,KW⟩:=lH4 (HQ.out.kept kk) (HC.out.kept kk) (HR.out.kept kk) (KW.out.trans kk);clear kk;obtain⟨y0,y1,y2⟩:=HQ.out.at3;have HA:=lH (jcn (some ⟨x1,0,none⟩) (some ⟨x2,0,none⟩) none 1 1 3 3 0 0 true sdS y3w HC.out NR.out);go_wp2_with fail
  try rw[hy3]
  try rw[hgb]
  go_wp2_with fail
  try rw[hy3]
  try rw[hgb]
  clear hy3 hgb;refine HA.out.mono ?_;rintro e y4w ⟨vt,vm,rfl,hct,hm,kk⟩;rw[sdG] at hct;rw[sdB] at hm;obtain⟨t1,m1,k1,t2,m2,k2,t3,m3,k3,rfl⟩:=Y0 hct;obtain⟨ma,mc,rfl,-,-,hmr⟩:=hm;obtain⟨UP,Tc,HQ,HC,HR,Ve,KW⟩:=lH7 (show jn jy y4w ma 2 _ from hmr) hct (HQ.out.kept kk) (HC.out.kept kk) (HR.out.kept kk) (Ve.out.kept kk) (KW.out.trans kk);clear kk hct hmr HA y0 y1 y2;obtain⟨gt,hgt⟩:=eX (y4w.heap.size)
  obtain⟨y5w,hy5⟩:=eX (y4w.alloc (.cells #[.slice t1 m1 k1,.slice t2 m2 k2,.slice t3 m3 k3] 26))
  have kk:Kept y4w y5w:=by rw[←hy5];exact ja _ _
  have VM:=lH (show je gt [.slice t1 m1 k1,.slice t2 m2 k2,.slice t3 m3 k3] y5w by
   have c:=jb y4w (.slice t1 m1 k1) [.slice t2 m2 k2,.slice t3 m3 k3] 26 y5w (by rw[hy5];exact Kept.refl _);rw[hgt] at c;exact c)
  obtain⟨HQ,HC,HR,Ve,UP,Tc,KW⟩:=lH7 (HQ.out.kept kk) (HC.out.kept kk) (HR.out.kept kk) (Ve.out.kept kk) (UP.out.kept kk) (Tc.out.kept kk) (KW.out.trans kk);clear kk;obtain⟨lb,lo,rfl⟩:=HR.out.form.resolve_left (by decide);obtain⟨mb,mo,rfl⟩:=UP.out.form.resolve_left (by decide);have ey:(((⟨#[121]⟩:ByteArray).toList==(⟨#[121]⟩:ByteArray).toList))=true:=by simp
  have ex:(((⟨#[120]⟩:ByteArray).toList==(⟨#[120]⟩:ByteArray).toList))=true:=by simp
  have ea:(((⟨#[97]⟩:ByteArray).toList==(⟨#[97]⟩:ByteArray).toList))=true:=by simp
  have ez:(((⟨#[122]⟩:ByteArray).toList==(⟨#[122]⟩:ByteArray).toList))=true:=by simp
  obtain⟨n0x,-,-,-,-,-,-,-,-,-,-,-,-,hn0,-,-,l0,-,-,-,-,-,-,-,-,-,-,-⟩:=HR.out.at_ (show 0<3 by decide);obtain rfl:=(Option.some.inj (show some sdY=some n0x from hn0))
  obtain⟨q0,r0,hq0,-,-,-,-,c0a,c0b⟩:=UP.out.pair (show 0<2 by decide);obtain⟨rfl,rfl⟩:=Prod.mk.inj (Option.some.inj (show some (⟨#[121]⟩,sdA)=some (q0,r0) from hq0));obtain⟨n1x,-,-,-,-,-,-,-,-,-,-,-,-,hn1,-,-,l1,-,-,-,-,-,-,-,-,-,-,-⟩:=HR.out.at_ (show 1<3 by decide);obtain rfl:=(Option.some.inj (show some sdX=some n1x from hn1))
  obtain⟨q1,r1,hq1,-,-,-,-,c1a,c1b⟩:=UP.out.pair (show 1<2 by decide);obtain⟨rfl,rfl⟩:=Prod.mk.inj (Option.some.inj (show some (⟨#[122]⟩,sdA)=some (q1,r1) from hq1));simp only[Nat.zero_mul,Nat.add_zero,Nat.one_mul] at l0 l1 c0a c1a;replace l0:y5w.cell? ⟨lb,lo,none⟩=some (.string ⟨#[121]⟩):=l0;replace l1:y5w.cell? ⟨lb,lo+11,none⟩=some (.string ⟨#[120]⟩):=l1;replace c0a:y5w.cell? ⟨mb,mo,none⟩=some (.string ⟨#[121]⟩):=c0a;replace c1a:y5w.cell? ⟨mb,mo+2,none⟩=some (.string ⟨#[122]⟩):=c1a;have b0:=Ve.out.at_ 0 _ rfl;have b1:=Ve.out.at_ 1 _ rfl;obtain⟨t0,t1c,t2c⟩:=VM.out.at3;obtain⟨y0,y1,y2⟩:=HQ.out.at3;go_upto_region 7 with fail
  try rw[hy5]
  try rw[hgt]
  clear hy5 hgt;go_wp2_with fail
  refine(Xu Tc.out jlM jk1).mono ?_;rintro e y6w ⟨vp,rfl,⟨pa,pc,rfl,-,-,-⟩,kk⟩;rw[jl1];obtain⟨HQ,HC,HR,Ve,UP,Tc,VM,KW⟩:=lH8 (HQ.out.kept kk) (HC.out.kept kk) (HR.out.kept kk) (Ve.out.kept kk) (UP.out.kept kk) (Tc.out.kept kk) (VM.out.kept kk) (KW.out.trans kk);clear kk l0 l1 c0a c1a b0 b1 t0 t1c t2c y0 y1 y2;obtain⟨y0,y1,y2⟩:=HQ.out.at3;go_wp2_with fail
  refine(Xu HC.out Z9 jbB).mono ?_;rintro e y7w ⟨vp,rfl,⟨pb,pd,rfl,-,-,-⟩,kk⟩;rw[jhn];obtain⟨HQ,HC,HR,Ve,UP,Tc,VM,KW⟩:=lH8 (HQ.out.kept kk) (HC.out.kept kk) (HR.out.kept kk) (Ve.out.kept kk) (UP.out.kept kk) (Tc.out.kept kk) (VM.out.kept kk) (KW.out.trans kk);clear kk y0 y1 y2;go_wp2;go_ret;exact⟨rfl,K.out.trans KW.out⟩
end Go.Proofs.YtokdjfoalkmhiaaGreat
