/- The law. -/
import Derived.Test.YtokdjfoalkmhiaaGreatG10
import Derived.Test.YtokdjfoalkmhiaaGreatG12
import Derived.Test.YtokdjfoalkmhiaaGreatG15
set_option linter.unusedVariables false
set_option maxRecDepth 100000
set_option maxHeartbeats 25600000
namespace Go.Proofs.YtokdjfoalkmhiaaGreat
open Go.RowKit
theorem qI {w:World} {y:Value} {s:Clu} (h:jC w y s):∃s1 n1 e1 s2 n2 e2 s3 n3 e3,y=Jg (.slice s1 n1 e1) (.slice s2 n2 e2) (.slice s3 n3 e3):=by
 obtain⟨_,_,_,rfl,⟨a,c,rfl,-⟩,⟨b,d,rfl,-⟩,⟨e,f,rfl,-⟩⟩:=h;exact⟨a,_,c,b,_,d,e,_,f,rfl⟩
theorem moved_mem {x y:ByteArray}:∀{l:List Pd} {n:Pd},n ∈ Jn x y l→∃q ∈ l,n.need=q.need∧n.labels=q.labels∧n.sel=q.sel∧n.tols=q.tols
 | [],n,h=>by cases h
 | z::t,n,h=>by
  rw[Jn] at h;split at h
  · rcases List.mem_cons.1 h with rfl | h
    · exact⟨z,by simp,rfl,rfl,rfl,rfl⟩
    · exact⟨n,by simp[h],rfl,rfl,rfl,rfl⟩
  · rcases List.mem_cons.1 h with rfl | h
    · exact⟨n,by simp,rfl,rfl,rfl,rfl⟩
    · obtain⟨q,hq,g⟩:=moved_mem h;exact⟨q,by simp[hq],g⟩
theorem jm6:jE sdU:=⟨YQ.nodes,fun n hn=>by
 have hn':n ∈ Jn ⟨#[122]⟩ ⟨#[97]⟩ (Jn ⟨#[121]⟩ ⟨#[97]⟩ sdS.pods):=hn;rcases moved_mem hn' with ⟨q,hq,h⟩;rcases moved_mem hq with ⟨r,hr,g⟩;have hl:=YQ.pods r hr;exact⟨by rw[h.1,g.1];exact hl.need,by rw[h.2.1,g.2.1];exact hl.labels,by rw[h.2.2.1,g.2.2.1];exact hl.sel,by rw[h.2.2.2,g.2.2.2];exact hl.tols⟩,YQ.buds,YQ.nodesN,(by
 show (Jn _ _ (Jn _ _ sdS.pods)).length≤100000;rw[X2,X2];exact(by decide:(3:Nat)≤100000)),YQ.budsN⟩
theorem jg2 (w:World):Calls Tryz.prog 6 #[] w (Say (.bool true) w):=by
 go_enter Tryz.func6,Tryz.ntmps6;go_wp2_with fail
 refine(jcb ⟨#[120]⟩ 6 ⟨#[]⟩ (by decide:(-9223372036854775808:Int)≤6∧(6:Int)≤9223372036854775807) (by decide:(1:Nat)≤maxLen) (by decide:(0:Nat)≤maxLen) _).mono ?_;rintro e w1 ⟨b1,n1,d1,rfl,ha,k⟩;have K:=lH k;have Ty:=lH ha;clear k ha;go_wp2_with fail
 refine(jcb ⟨#[121]⟩ 6 ⟨#[]⟩ (by decide:(-9223372036854775808:Int)≤6∧(6:Int)≤9223372036854775807) (by decide:(1:Nat)≤maxLen) (by decide:(0:Nat)≤maxLen) _).mono ?_;rintro e w2 ⟨b2,n2,d2,rfl,ha,k⟩;obtain⟨K,Ty,T8⟩:=lH3 (K.out.trans k) (Ty.out.kept k) ha;clear k ha;go_wp2_with fail
 refine(jcb ⟨#[122]⟩ 3 ⟨#[]⟩ (by decide:(-9223372036854775808:Int)≤3∧(3:Int)≤9223372036854775807) (by decide:(1:Nat)≤maxLen) (by decide:(0:Nat)≤maxLen) _).mono ?_;rintro e w3 ⟨b3,n3,d3,rfl,ha,k⟩;obtain⟨K,Ty,T8,Ng⟩:=lH4 (K.out.trans k) (Ty.out.kept k) (T8.out.kept k) ha;clear k ha;obtain⟨K0,Vk,Vg,TP⟩:=lH4 K.out Ty.out T8.out Ng.out;obtain⟨g1,hg1⟩:=eX (w3.heap.size)
 obtain⟨z1,hz1⟩:=eX (w3.alloc (.cells #[.string ⟨#[]⟩,.string ⟨#[]⟩,.int .i64 0,.slice none 0 0,.slice none 0 0,.slice none 0 0,.slice none 0 0,.string ⟨#[]⟩,.int .i64 0,.string ⟨#[]⟩,.bool false] 44))
 have hs1:z1.heap.size=g1+1:=by rw[←hz1,World.size_alloc,hg1]
 have kz1:Kept w3 z1:=by rw[←hz1];exact ja _ _
 have c1:jf g1 [.string ⟨#[]⟩,.string ⟨#[]⟩,.int .i64 0,.slice none 0 0,.slice none 0 0,.slice none 0 0,.slice none 0 0,.string ⟨#[]⟩,.int .i64 0,.string ⟨#[]⟩,.bool false] z1:=by
  have c:=jc w3 (.string ⟨#[]⟩) [.string ⟨#[]⟩,.int .i64 0,.slice none 0 0,.slice none 0 0,.slice none 0 0,.slice none 0 0,.string ⟨#[]⟩,.int .i64 0,.string ⟨#[]⟩,.bool false] 44 z1 (by rw[hz1];exact Kept.refl _);rw[hg1] at c;exact c
 obtain⟨g2,hg2⟩:=eX (z1.heap.size)
 obtain⟨z2,hz2⟩:=eX (z1.alloc (.cells #[.string ⟨#[]⟩,.string ⟨#[]⟩,.int .i64 0,.slice none 0 0,.slice none 0 0,.slice none 0 0,.slice none 0 0,.string ⟨#[]⟩,.int .i64 0,.string ⟨#[]⟩,.bool false] 44))
 have hs2:z2.heap.size=g2+1:=by rw[←hz2,World.size_alloc,hg2]
 have kz2:Kept z1 z2:=by rw[←hz2];exact ja _ _
 have c2:jf g2 [.string ⟨#[]⟩,.string ⟨#[]⟩,.int .i64 0,.slice none 0 0,.slice none 0 0,.slice none 0 0,.slice none 0 0,.string ⟨#[]⟩,.int .i64 0,.string ⟨#[]⟩,.bool false] z2:=by
  have c:=jc z1 (.string ⟨#[]⟩) [.string ⟨#[]⟩,.int .i64 0,.slice none 0 0,.slice none 0 0,.slice none 0 0,.slice none 0 0,.string ⟨#[]⟩,.int .i64 0,.string ⟨#[]⟩,.bool false] 44 z2 (by rw[hz2];exact Kept.refl _);rw[hg2] at c;exact c
 obtain⟨g3,hg3⟩:=eX (z2.heap.size)
 obtain⟨z3,hz3⟩:=eX (z2.alloc (.cells #[.string ⟨#[]⟩,.string ⟨#[]⟩,.int .i64 0,.slice none 0 0,.slice none 0 0,.slice none 0 0,.slice none 0 0,.string ⟨#[]⟩,.int .i64 0,.string ⟨#[]⟩,.bool false] 44))
 have hs3:z3.heap.size=g3+1:=by rw[←hz3,World.size_alloc,hg3]
 have kz3:Kept z2 z3:=by rw[←hz3];exact ja _ _
 have c3:jf g3 [.string ⟨#[]⟩,.string ⟨#[]⟩,.int .i64 0,.slice none 0 0,.slice none 0 0,.slice none 0 0,.slice none 0 0,.string ⟨#[]⟩,.int .i64 0,.string ⟨#[]⟩,.bool false] z3:=by
  have c:=jc z2 (.string ⟨#[]⟩) [.string ⟨#[]⟩,.int .i64 0,.slice none 0 0,.slice none 0 0,.slice none 0 0,.slice none 0 0,.string ⟨#[]⟩,.int .i64 0,.string ⟨#[]⟩,.bool false] 44 z3 (by rw[hz3];exact Kept.refl _);rw[hg3] at c;exact c
 have c1:=c1.kept (kz2.trans kz3);have c2:=c2.kept kz3;have hgl:w3.heap.size=g1∧g2=g1+1∧g3=g1+2:=⟨hg1,by omega,by omega⟩
 have UA:=lH hgl;have KZ:=lH ((kz1.trans kz2).trans kz3);have e12:¬g1=g2:=by omega
 have e13:¬g1=g3:=by omega
 have e21:¬g2=g1:=by omega
 have e23:¬g2=g3:=by omega
 have e31:¬g3=g1:=by omega
 have e32:¬g3=g2:=by omega
 clear hgl hs1 hs2 hs3 kz1 kz2 kz3;have u10:=c1.at_ 0 _ rfl;have u11:=c1.at_ 1 _ rfl;have u12:=c1.at_ 2 _ rfl;have u13:=c1.at_ 3 _ rfl;have u14:=c1.at_ 4 _ rfl;have u15:=c1.at_ 5 _ rfl;have u16:=c1.at_ 6 _ rfl;have u17:=c1.at_ 7 _ rfl;have u18:=c1.at_ 8 _ rfl;have u19:=c1.at_ 9 _ rfl;have u110:=c1.at_ 10 _ rfl;have f10:=c1.free 0;have f11:=c1.free 1;have f12:=c1.free 2;have f13:=c1.free 3;have f14:=c1.free 4;have f15:=c1.free 5;have f16:=c1.free 6;have f17:=c1.free 7;have f18:=c1.free 8;have f19:=c1.free 9;have f110:=c1.free 10;obtain⟨v1,hv1⟩:=eX (z3.setCells g1 0 [.string ⟨#[120]⟩,.string ⟨#[]⟩,.int .i64 0,.slice b1 n1 d1,.slice none 0 0,.slice none 0 0,.slice none 0 0,.string ⟨#[]⟩,.int .i64 0,.string ⟨#[]⟩,.bool false])
 have hn1:(((((((((((z3.setCell ⟨g1,0,none⟩ (.string ⟨#[120]⟩)).setCell ⟨g1,1,none⟩ (.string ⟨#[]⟩)).setCell ⟨g1,2,none⟩ (.int .i64 0)).setCell ⟨g1,3,none⟩ (.slice b1 n1 d1)).setCell ⟨g1,4,none⟩ (.slice none 0 0)).setCell ⟨g1,5,none⟩ (.slice none 0 0)).setCell ⟨g1,6,none⟩ (.slice none 0 0)).setCell ⟨g1,7,none⟩ (.string ⟨#[]⟩)).setCell ⟨g1,8,none⟩ (.int .i64 0)).setCell ⟨g1,9,none⟩ (.string ⟨#[]⟩)).setCell ⟨g1,10,none⟩ (.bool false))=v1:=hv1;have p1:=j5 (vs:=[.string ⟨#[120]⟩,.string ⟨#[]⟩,.int .i64 0,.slice b1 n1 d1,.slice none 0 0,.slice none 0 0,.slice none 0 0,.string ⟨#[]⟩,.int .i64 0,.string ⟨#[]⟩,.bool false]) c1 rfl;rw[hv1] at p1;obtain⟨c1,-,hb1,hk1⟩:=p1;have c2:=c2.block (hb1 g2 e21);have c3:=c3.block (hb1 g3 e31);have KZ:=lH (hk1 _ _ (by have:=UA.out;omega) KZ.out);clear hv1 hb1 hk1;have u20:=c2.at_ 0 _ rfl;have u21:=c2.at_ 1 _ rfl;have u22:=c2.at_ 2 _ rfl;have u23:=c2.at_ 3 _ rfl;have u24:=c2.at_ 4 _ rfl;have u25:=c2.at_ 5 _ rfl;have u26:=c2.at_ 6 _ rfl;have u27:=c2.at_ 7 _ rfl;have u28:=c2.at_ 8 _ rfl;have u29:=c2.at_ 9 _ rfl;have u210:=c2.at_ 10 _ rfl;have f20:=c2.free 0;have f21:=c2.free 1;have f22:=c2.free 2;have f23:=c2.free 3;have f24:=c2.free 4;have f25:=c2.free 5;have f26:=c2.free 6;have f27:=c2.free 7;have f28:=c2.free 8;have f29:=c2.free 9;have f210:=c2.free 10;obtain⟨v2,hv2⟩:=eX (v1.setCells g2 0 [.string ⟨#[121]⟩,.string ⟨#[]⟩,.int .i64 0,.slice b2 n2 d2,.slice none 0 0,.slice none 0 0,.slice none 0 0,.string ⟨#[]⟩,.int .i64 0,.string ⟨#[]⟩,.bool false])
 have hn2:(((((((((((v1.setCell ⟨g2,0,none⟩ (.string ⟨#[121]⟩)).setCell ⟨g2,1,none⟩ (.string ⟨#[]⟩)).setCell ⟨g2,2,none⟩ (.int .i64 0)).setCell ⟨g2,3,none⟩ (.slice b2 n2 d2)).setCell ⟨g2,4,none⟩ (.slice none 0 0)).setCell ⟨g2,5,none⟩ (.slice none 0 0)).setCell ⟨g2,6,none⟩ (.slice none 0 0)).setCell ⟨g2,7,none⟩ (.string ⟨#[]⟩)).setCell ⟨g2,8,none⟩ (.int .i64 0)).setCell ⟨g2,9,none⟩ (.string ⟨#[]⟩)).setCell ⟨g2,10,none⟩ (.bool false))=v2:=hv2;have p2:=j5 (vs:=[.string ⟨#[121]⟩,.string ⟨#[]⟩,.int .i64 0,.slice b2 n2 d2,.slice none 0 0,.slice none 0 0,.slice none 0 0,.string ⟨#[]⟩,.int .i64 0,.string ⟨#[]⟩,.bool false]) c2 rfl;rw[hv2] at p2;obtain⟨c2,-,hb2,hk2⟩:=p2;have c1:=c1.block (hb2 g1 e12);have c3:=c3.block (hb2 g3 e32);have KZ:=lH (hk2 _ _ (by have:=UA.out;omega) KZ.out);clear hv2 hb2 hk2;have u30:=c3.at_ 0 _ rfl;have u31:=c3.at_ 1 _ rfl;have u32:=c3.at_ 2 _ rfl;have u33:=c3.at_ 3 _ rfl;have u34:=c3.at_ 4 _ rfl;have u35:=c3.at_ 5 _ rfl;have u36:=c3.at_ 6 _ rfl;have u37:=c3.at_ 7 _ rfl;have u38:=c3.at_ 8 _ rfl;have u39:=c3.at_ 9 _ rfl;have u310:=c3.at_ 10 _ rfl;have f30:=c3.free 0;have f31:=c3.free 1;have f32:=c3.free 2;have f33:=c3.free 3;have f34:=c3.free 4;have f35:=c3.free 5;have f36:=c3.free 6;have f37:=c3.free 7;have f38:=c3.free 8;have f39:=c3.free 9;have f310:=c3.free 10;obtain⟨v3,hv3⟩:=eX (v2.setCells g3 0 [.string ⟨#[122]⟩,.string ⟨#[]⟩,.int .i64 0,.slice b3 n3 d3,.slice none 0 0,.slice none 0 0,.slice none 0 0,.string ⟨#[]⟩,.int .i64 0,.string ⟨#[]⟩,.bool false])
 have hn3:(((((((((((v2.setCell ⟨g3,0,none⟩ (.string ⟨#[122]⟩)).setCell ⟨g3,1,none⟩ (.string ⟨#[]⟩)).setCell ⟨g3,2,none⟩ (.int .i64 0)).setCell ⟨g3,3,none⟩ (.slice b3 n3 d3)).setCell ⟨g3,4,none⟩ (.slice none 0 0)).setCell ⟨g3,5,none⟩ (.slice none 0 0)).setCell ⟨g3,6,none⟩ (.slice none 0 0)).setCell ⟨g3,7,none⟩ (.string ⟨#[]⟩)).setCell ⟨g3,8,none⟩ (.int .i64 0)).setCell ⟨g3,9,none⟩ (.string ⟨#[]⟩)).setCell ⟨g3,10,none⟩ (.bool false))=v3:=hv3;have p3:=j5 (vs:=[.string ⟨#[122]⟩,.string ⟨#[]⟩,.int .i64 0,.slice b3 n3 d3,.slice none 0 0,.slice none 0 0,.slice none 0 0,.string ⟨#[]⟩,.int .i64 0,.string ⟨#[]⟩,.bool false]) c3 rfl;rw[hv3] at p3;obtain⟨c3,-,hb3,hk3⟩:=p3;have c1:=c1.block (hb3 g1 e13);have c2:=c2.block (hb3 g2 e23);have KZ:=lH (hk3 _ _ (by have:=UA.out;omega) KZ.out);clear hv3 hb3 hk3;obtain⟨C1,C2,C3⟩:=lH3 c1 c2 c3;clear c1 c2 c3;go_upto_region 2 with fail
 try rw[hn1]
 try rw[hn2]
 try rw[hn3]
 clear hn1 hn2 hn3 hz1 hz2 hz3 hg1 hg2 hg3 u10 f10 u11 f11 u12 f12 u13 f13 u14 f14 u15 f15 u16 f16 u17 f17 u18 f18 u19 f19 u110 f110 u20 f20 u21 f21 u22 f22 u23 f23 u24 f24 u25 f25 u26 f26 u27 f27 u28 f28 u29 f29 u210 f210 u30 f30 u31 f31 u32 f32 u33 f33 u34 f34 u35 f35 u36 f36 u37 f37 u38 f38 u39 f39 u310 f310;have y2:=C2.out.at_ 2 _ rfl;have f2:=C2.out.free 2;obtain⟨v7,hv7⟩:=eX (v3.setCell ⟨g2,2,none⟩ (.int .i64 5))
 obtain⟨C2,C1,C3,KB⟩:=lH4 (show jf g2 [.string ⟨#[121]⟩,.string ⟨#[]⟩,.int .i64 5,.slice b2 n2 d2,.slice none 0 0,.slice none 0 0,.slice none 0 0,.string ⟨#[]⟩,.int .i64 0,.string ⟨#[]⟩,.bool false] v7 by rw[←hv7];exact C2.out.set (j:=2) (u:=.int .i64 5) (by simp)) (show jf g1 [.string ⟨#[120]⟩,.string ⟨#[]⟩,.int .i64 0,.slice b1 n1 d1,.slice none 0 0,.slice none 0 0,.slice none 0 0,.string ⟨#[]⟩,.int .i64 0,.string ⟨#[]⟩,.bool false] v7 by rw[←hv7];exact C1.out.other e12) (show jf g3 [.string ⟨#[122]⟩,.string ⟨#[]⟩,.int .i64 0,.slice b3 n3 d3,.slice none 0 0,.slice none 0 0,.slice none 0 0,.string ⟨#[]⟩,.int .i64 0,.string ⟨#[]⟩,.bool false] v7 by rw[←hv7];exact C3.out.other e32) (show Kept w3 v7 by rw[←hv7];exact KZ.out.setCell (p:=⟨g2,2,none⟩) (by show w3.heap.size≤g2;have:=UA.out;omega) _);clear KZ;go_upto_region 3 with fail
 try rw[hv7]
 clear hv7 y2 f2;obtain⟨H1,H2,H3,K⟩:=lH4 (show At4 v7 (sdX,(b1,n1,d1),(none,0,0),(none,0,0),(none,0,0)) from Vk.out.kept KB.out) (show At4 v7 (sdY,(b2,n2,d2),(none,0,0),(none,0,0),(none,0,0)) from by have h:=Vg.out.kept KB.out;exact⟨h.name,h.owner,h.key,h.node,(by decide:(-9223372036854775808:Int)≤5∧(5:Int)≤9223372036854775807),h.most,h.need,h.labels,h.sel,h.tols⟩) (show At4 v7 (sdZ,(b3,n3,d3),(none,0,0),(none,0,0),(none,0,0)) from TP.out.kept KB.out) (K0.out.trans KB.out);clear Vk Vg TP Ty T8 Ng KB;have HS:=lH (show ∀W,Kept v7 W→W.cell? ⟨g1,0,none⟩=some (.string ⟨#[120]⟩)∧W.cell? ⟨g1,1,none⟩=some (.string ⟨#[]⟩)∧W.cell? ⟨g1,2,none⟩=some (.int .i64 0)∧W.cell? ⟨g1,3,none⟩=some (.slice b1 n1 d1)∧W.cell? ⟨g1,4,none⟩=some (.slice none 0 0)∧W.cell? ⟨g1,5,none⟩=some (.slice none 0 0)∧W.cell? ⟨g1,6,none⟩=some (.slice none 0 0)∧W.cell? ⟨g1,7,none⟩=some (.string ⟨#[]⟩)∧W.cell? ⟨g1,8,none⟩=some (.int .i64 0)∧W.cell? ⟨g1,9,none⟩=some (.string ⟨#[]⟩)∧W.cell? ⟨g1,10,none⟩=some (.bool false)∧W.cell? ⟨g2,0,none⟩=some (.string ⟨#[121]⟩)∧W.cell? ⟨g2,1,none⟩=some (.string ⟨#[]⟩)∧W.cell? ⟨g2,2,none⟩=some (.int .i64 5)∧W.cell? ⟨g2,3,none⟩=some (.slice b2 n2 d2)∧W.cell? ⟨g2,4,none⟩=some (.slice none 0 0)∧W.cell? ⟨g2,5,none⟩=some (.slice none 0 0)∧W.cell? ⟨g2,6,none⟩=some (.slice none 0 0)∧W.cell? ⟨g2,7,none⟩=some (.string ⟨#[]⟩)∧W.cell? ⟨g2,8,none⟩=some (.int .i64 0)∧W.cell? ⟨g2,9,none⟩=some (.string ⟨#[]⟩)∧W.cell? ⟨g2,10,none⟩=some (.bool false)∧W.cell? ⟨g3,0,none⟩=some (.string ⟨#[122]⟩)∧W.cell? ⟨g3,1,none⟩=some (.string ⟨#[]⟩)∧W.cell? ⟨g3,2,none⟩=some (.int .i64 0)∧W.cell? ⟨g3,3,none⟩=some (.slice b3 n3 d3)∧W.cell? ⟨g3,4,none⟩=some (.slice none 0 0)∧W.cell? ⟨g3,5,none⟩=some (.slice none 0 0)∧W.cell? ⟨g3,6,none⟩=some (.slice none 0 0)∧W.cell? ⟨g3,7,none⟩=some (.string ⟨#[]⟩)∧W.cell? ⟨g3,8,none⟩=some (.int .i64 0)∧W.cell? ⟨g3,9,none⟩=some (.string ⟨#[]⟩)∧W.cell? ⟨g3,10,none⟩=some (.bool false) from fun W k=>by
  have q1:=C1.out.kept k;have q2:=C2.out.kept k;have q3:=C3.out.kept k;exact⟨q1.at_ 0 _ rfl,q1.at_ 1 _ rfl,q1.at_ 2 _ rfl,q1.at_ 3 _ rfl,q1.at_ 4 _ rfl,q1.at_ 5 _ rfl,q1.at_ 6 _ rfl,q1.at_ 7 _ rfl,q1.at_ 8 _ rfl,q1.at_ 9 _ rfl,q1.at_ 10 _ rfl,q2.at_ 0 _ rfl,q2.at_ 1 _ rfl,q2.at_ 2 _ rfl,q2.at_ 3 _ rfl,q2.at_ 4 _ rfl,q2.at_ 5 _ rfl,q2.at_ 6 _ rfl,q2.at_ 7 _ rfl,q2.at_ 8 _ rfl,q2.at_ 9 _ rfl,q2.at_ 10 _ rfl,q3.at_ 0 _ rfl,q3.at_ 1 _ rfl,q3.at_ 2 _ rfl,q3.at_ 3 _ rfl,q3.at_ 4 _ rfl,q3.at_ 5 _ rfl,q3.at_ 6 _ rfl,q3.at_ 7 _ rfl,q3.at_ 8 _ rfl,q3.at_ 9 _ rfl,q3.at_ 10 _ rfl⟩)
 go_cut [4] from 14 to 20 (fun s4 wx=>∃q x1 x2,s4=.pointer (some ⟨q,0,none⟩)∧Hid (jf q [.slice (some ⟨x1,0,none⟩) 1 1,.slice (some ⟨x2,0,none⟩) 3 3,.slice none 0 0] wx∧jC wx (.agg #[.slice (some ⟨x1,0,none⟩) 1 1,.slice (some ⟨x2,0,none⟩) 3 3,.slice none 0 0]) sdS∧Kept v7 wx))
 case first =>
  refine wp_region_held_drew (S:=fun W=>W.cell? ⟨g1,0,none⟩=some (.string ⟨#[120]⟩)∧W.cell? ⟨g1,1,none⟩=some (.string ⟨#[]⟩)∧W.cell? ⟨g1,2,none⟩=some (.int .i64 0)∧W.cell? ⟨g1,3,none⟩=some (.slice b1 n1 d1)∧W.cell? ⟨g1,4,none⟩=some (.slice none 0 0)∧W.cell? ⟨g1,5,none⟩=some (.slice none 0 0)∧W.cell? ⟨g1,6,none⟩=some (.slice none 0 0)∧W.cell? ⟨g1,7,none⟩=some (.string ⟨#[]⟩)∧W.cell? ⟨g1,8,none⟩=some (.int .i64 0)∧W.cell? ⟨g1,9,none⟩=some (.string ⟨#[]⟩)∧W.cell? ⟨g1,10,none⟩=some (.bool false)∧W.cell? ⟨g2,0,none⟩=some (.string ⟨#[121]⟩)∧W.cell? ⟨g2,1,none⟩=some (.string ⟨#[]⟩)∧W.cell? ⟨g2,2,none⟩=some (.int .i64 5)∧W.cell? ⟨g2,3,none⟩=some (.slice b2 n2 d2)∧W.cell? ⟨g2,4,none⟩=some (.slice none 0 0)∧W.cell? ⟨g2,5,none⟩=some (.slice none 0 0)∧W.cell? ⟨g2,6,none⟩=some (.slice none 0 0)∧W.cell? ⟨g2,7,none⟩=some (.string ⟨#[]⟩)∧W.cell? ⟨g2,8,none⟩=some (.int .i64 0)∧W.cell? ⟨g2,9,none⟩=some (.string ⟨#[]⟩)∧W.cell? ⟨g2,10,none⟩=some (.bool false)∧W.cell? ⟨g3,0,none⟩=some (.string ⟨#[122]⟩)∧W.cell? ⟨g3,1,none⟩=some (.string ⟨#[]⟩)∧W.cell? ⟨g3,2,none⟩=some (.int .i64 0)∧W.cell? ⟨g3,3,none⟩=some (.slice b3 n3 d3)∧W.cell? ⟨g3,4,none⟩=some (.slice none 0 0)∧W.cell? ⟨g3,5,none⟩=some (.slice none 0 0)∧W.cell? ⟨g3,6,none⟩=some (.slice none 0 0)∧W.cell? ⟨g3,7,none⟩=some (.string ⟨#[]⟩)∧W.cell? ⟨g3,8,none⟩=some (.int .i64 0)∧W.cell? ⟨g3,9,none⟩=some (.string ⟨#[]⟩)∧W.cell? ⟨g3,10,none⟩=some (.bool false)) (by kernel_rfl) (HS.out _ (Kept.drew v7)) (fun hHeld=>?_);refine tkI 2 ?_;refine tkI 3 ?_;refine tkI 4 ?_;try simp only[nP]
  have J:=lH (Kept.drew v7);obtain⟨wq,hwq⟩:=eX (v7.drew)
  rw[hwq] at hHeld J;try rw[hwq]
  obtain⟨H1,H2,H3⟩:=lH3 (ji.kept H1.out (show Kept v7 wq from J.out)) (ji.kept H2.out (show Kept v7 wq from J.out)) (ji.kept H3.out (show Kept v7 wq from J.out));clear hwq;refine rdH (rs:=[0,5,7]) (h:=coH (fun K9 Ky=>?_) (coH (fun K9 Ky=>?_) (coH (fun K9 Ky=>?_) AllReadyH.nil)))
  · go_simp;refine(XJ ⟨#[97]⟩ 10 (by decide:(-9223372036854775808:Int)≤10∧(10:Int)≤9223372036854775807) (by decide:(1:Nat)≤maxLen) _).mono ?_;rintro e wp ⟨p1,q1,r1,rfl,ha,kk⟩;obtain⟨H1,H2,H3,J,Vl⟩:=lH5 (ji.kept H1.out kk) (ji.kept H2.out kk) (ji.kept H3.out kk) (J.out.trans kk) ha;clear ha kk;refine Ky.out _ _ (HS.out _ J.out) (fun _=>?_);clear Ky K9;try simp only[nP]
    refine rdH (rs:=[1,5,7]) (h:=coH (fun K9 Ky=>?_) (coH (fun K9 Ky=>?_) (coH (fun K9 Ky=>?_) AllReadyH.nil)))
    · go_simp;refine Ky.out _ _ (HS.out _ (J.out.trans (ja _ _))) (fun _=>?_);clear Ky K9;try simp only[nP]
      obtain⟨wb,hw⟩:=eX (wp.alloc (.cells #[.string ⟨#[97]⟩,.slice p1 q1 r1,.slice none 0 0,.slice none 0 0,.bool false] 57))
      have kk:Kept wp wb:=by rw[←hw];exact ja _ _
      obtain⟨gB,hgB⟩:=eX (wp.heap.size)
      have Vi:=lH (show jo wb (some ⟨gB,0,none⟩) 1 sdS.nodes from by
       have c:=jc wp (.string ⟨#[97]⟩) [.slice p1 q1 r1,.slice none 0 0,.slice none 0 0,.bool false] 57 wb (by rw[hw];exact Kept.refl _);rw[hgB] at c;exact zS (lx:=[(YV ⟨#[97]⟩ 10,(p1,q1,r1),(none,0,0),(none,0,0))]) (j0 rfl c (fun _ _=>trivial) (by decide:(1:Nat)≤maxLen)) (fun z hz=>by
        obtain rfl:=List.mem_singleton.1 hz;exact Vl.out.kept kk))
      obtain⟨H1,H2,H3,Vl,J,Vx⟩:=lH6 (ji.kept H1.out kk) (ji.kept H2.out kk) (ji.kept H3.out kk) (Vl.out.kept kk) (J.out.trans kk) Vi.out;try rw[hw]
      try rw[hgB]
      clear hw kk Vi hgB Vl;have hHeldE1:=HS.out _ J.out;refine rdH (rs:=[5,7]) (h:=coH (fun K9 Ky=>?_) (coH (fun K9 Ky=>?_) AllReadyH.nil))
      · go_simp;refine Ky.out _ _ (HS.out _ (J.out.trans (ja _ _))) (fun _=>?_);clear Ky K9;try simp only[nP]
        obtain⟨ws,hw⟩:=eX (wb.alloc (.cells #[.string ⟨#[120]⟩,.string ⟨#[]⟩,.int .i64 0,.slice b1 n1 d1,.slice none 0 0,.slice none 0 0,.slice none 0 0,.string ⟨#[]⟩,.int .i64 0,.string ⟨#[]⟩,.bool false,.string ⟨#[121]⟩,.string ⟨#[]⟩,.int .i64 5,.slice b2 n2 d2,.slice none 0 0,.slice none 0 0,.slice none 0 0,.string ⟨#[]⟩,.int .i64 0,.string ⟨#[]⟩,.bool false,.string ⟨#[122]⟩,.string ⟨#[]⟩,.int .i64 0,.slice b3 n3 d3,.slice none 0 0,.slice none 0 0,.slice none 0 0,.string ⟨#[]⟩,.int .i64 0,.string ⟨#[]⟩,.bool false] 44))
        have kk:Kept wb ws:=by rw[←hw];exact ja _ _
        obtain⟨gS,hgS⟩:=eX (wb.heap.size)
        have Vs:=lH (show jy ws (some ⟨gS,0,none⟩) 3 sdS.pods from by
         have c:=jc wb (.string ⟨#[120]⟩) [.string ⟨#[]⟩,.int .i64 0,.slice b1 n1 d1,.slice none 0 0,.slice none 0 0,.slice none 0 0,.string ⟨#[]⟩,.int .i64 0,.string ⟨#[]⟩,.bool false,.string ⟨#[121]⟩,.string ⟨#[]⟩,.int .i64 5,.slice b2 n2 d2,.slice none 0 0,.slice none 0 0,.slice none 0 0,.string ⟨#[]⟩,.int .i64 0,.string ⟨#[]⟩,.bool false,.string ⟨#[122]⟩,.string ⟨#[]⟩,.int .i64 0,.slice b3 n3 d3,.slice none 0 0,.slice none 0 0,.slice none 0 0,.string ⟨#[]⟩,.int .i64 0,.string ⟨#[]⟩,.bool false] 44 ws (by rw[hw];exact Kept.refl _);rw[hgS] at c;exact Zi (lx:=[(sdX,(b1,n1,d1),(none,0,0),(none,0,0),(none,0,0)),(sdY,(b2,n2,d2),(none,0,0),(none,0,0),(none,0,0)),(sdZ,(b3,n3,d3),(none,0,0),(none,0,0),(none,0,0))]) (j0 rfl c (fun _ _=>trivial) (by decide:(3:Nat)≤maxLen)) (fun z hz=>by
          rcases List.mem_cons.1 hz with rfl | hz
          · exact ji.kept H1.out kk
          rcases List.mem_cons.1 hz with rfl | hz
          · exact ji.kept H2.out kk
          obtain rfl:=List.mem_singleton.1 hz;exact ji.kept H3.out kk))
        obtain⟨Vx,J,Vp⟩:=lH3 (Vx.out.kept kk) (J.out.trans kk) Vs.out;try rw[hw]
        try rw[hgS]
        clear hw kk Vs hgS H1 H2 H3;have hHeldE2:=HS.out _ J.out;refine tkI 6 ?_;try simp only[nP]
        refine rd1 7 fun K9 Ky=>?_;go_simp;refine Ky.out _ _ (HS.out _ (J.out.trans (ja _ _))) (fun _=>?_);clear Ky K9;try simp only[nP]
        obtain⟨wa,hw⟩:=eX (ws.alloc (.cells #[.slice none 0 0,.slice none 0 0,.slice none 0 0] 26))
        have kk:Kept ws wa:=by rw[←hw];exact ja _ _
        obtain⟨gA,hgA⟩:=eX (ws.heap.size)
        have Vt:=lH (show v7.heap.size≤gA by rw[←hgA];exact J.out.size);have hqa:jf gA [.slice none 0 0,.slice none 0 0,.slice none 0 0] wa:=by
         have c:=jc ws (.slice none 0 0) [.slice none 0 0,.slice none 0 0] 26 wa (by rw[hw];exact Kept.refl _);rw[hgA] at c;exact c
        have hha:wa.heap[gA]?=some (.cells #[.slice none 0 0,.slice none 0 0,.slice none 0 0] 26):=by rw[←hw,←hgA];exact World.alloc_heap_new ws _
        obtain⟨Vx,Vp,J,Vb,Vq,Ve⟩:=lH6 (Vx.out.kept kk) (Vp.out.kept kk) (J.out.trans kk) hqa hha hqa.lt;try rw[hw]
        try rw[hgA]
        clear hw kk hqa hha hgA;have hHeldE3:=HS.out _ J.out;have z0:=Vb.out.at_ 0 _ rfl;have z1:=Vb.out.at_ 1 _ rfl;have z2:=Vb.out.at_ 2 _ rfl;have f0:=Vb.out.free 0;have f1:=Vb.out.free 1;have f2:=Vb.out.free 2;have PP:=lH (j5 (vs:=[.slice (some ⟨gB,0,none⟩) 1 1,.slice (some ⟨gS,0,none⟩) 3 3,.slice none 0 0]) Vb.out rfl);refine rd1 8 fun K9 Ky=>?_;go_simp;obtain⟨WE,hWE⟩:=eX (wa.setCells gA 0 [.slice (some ⟨gB,0,none⟩) 1 1,.slice (some ⟨gS,0,none⟩) 3 3,.slice none 0 0])
        have hWE2:(((wa.setCell ⟨gA,0,none⟩ (.slice (some ⟨gB,0,none⟩) 1 1)).setCell ⟨gA,1,none⟩ (.slice (some ⟨gS,0,none⟩) 3 3)).setCell ⟨gA,2,none⟩ (.slice none 0 0))=WE:=hWE;rw[hWE] at PP;try rw[hWE2]
        have RE:=lH (show jC WE (.agg #[.slice (some ⟨gB,0,none⟩) 1 1,.slice (some ⟨gS,0,none⟩) 3 3,.slice none 0 0]) sdS from zU (w:=wa) (N:=gA) PP.out.size PP.out.far (J7 Vq.out) ⟨_,_,_,rfl,⟨⟨_,_,rfl,by decide,by decide,Vx.out⟩,⟨_,_,rfl,by decide,by decide,Vp.out⟩,⟨_,_,rfl,by decide,by decide,zT _⟩⟩⟩);have JE:=lH (show Kept v7 WE by rw[←hWE];exact jt gA _ _ _ _ _ Vt.out J.out);clear hWE hWE2 z0 f0 z1 f1 z2 f2;refine Ky.out _ _ (HS.out _ JE.out) (fun _=>?_);clear Ky K9;try simp only[nP]
        refine wpAnyH_done (by kernel_rfl) ?_ _;go_wp2;go_meet
        case rel=>exact⟨gA,gB,gS,rfl,PP.out.cells,RE.out,JE.out⟩
      · go_simp;refine Ky.out _ _ (HS.out _ (J.out.trans (ja _ _))) (fun _=>?_);clear Ky K9;try simp only[nP]
        obtain⟨wa,hw⟩:=eX (wb.alloc (.cells #[.slice none 0 0,.slice none 0 0,.slice none 0 0] 26))
        have kk:Kept wb wa:=by rw[←hw];exact ja _ _
        obtain⟨gA,hgA⟩:=eX (wb.heap.size)
        have Vt:=lH (show v7.heap.size≤gA by rw[←hgA];exact J.out.size);have hqa:jf gA [.slice none 0 0,.slice none 0 0,.slice none 0 0] wa:=by
         have c:=jc wb (.slice none 0 0) [.slice none 0 0,.slice none 0 0] 26 wa (by rw[hw];exact Kept.refl _);rw[hgA] at c;exact c
        have hha:wa.heap[gA]?=some (.cells #[.slice none 0 0,.slice none 0 0,.slice none 0 0] 26):=by rw[←hw,←hgA];exact World.alloc_heap_new wb _
        obtain⟨H1,H2,H3,Vx,J,Vb,Vq,Ve⟩:=lH8 (ji.kept H1.out kk) (ji.kept H2.out kk) (ji.kept H3.out kk) (Vx.out.kept kk) (J.out.trans kk) hqa hha hqa.lt;try rw[hw]
        try rw[hgA]
        clear hw kk hqa hha hgA;have hHeldE2:=HS.out _ J.out;refine rd1 5 fun K9 Ky=>?_;go_simp;refine Ky.out _ _ (HS.out _ (J.out.trans (ja _ _))) (fun _=>?_);clear Ky K9;try simp only[nP]
        obtain⟨ws,hw⟩:=eX (wa.alloc (.cells #[.string ⟨#[120]⟩,.string ⟨#[]⟩,.int .i64 0,.slice b1 n1 d1,.slice none 0 0,.slice none 0 0,.slice none 0 0,.string ⟨#[]⟩,.int .i64 0,.string ⟨#[]⟩,.bool false,.string ⟨#[121]⟩,.string ⟨#[]⟩,.int .i64 5,.slice b2 n2 d2,.slice none 0 0,.slice none 0 0,.slice none 0 0,.string ⟨#[]⟩,.int .i64 0,.string ⟨#[]⟩,.bool false,.string ⟨#[122]⟩,.string ⟨#[]⟩,.int .i64 0,.slice b3 n3 d3,.slice none 0 0,.slice none 0 0,.slice none 0 0,.string ⟨#[]⟩,.int .i64 0,.string ⟨#[]⟩,.bool false] 44))
        have kk:Kept wa ws:=by rw[←hw];exact ja _ _
        obtain⟨gS,hgS⟩:=eX (wa.heap.size)
        have Vs:=lH (show jy ws (some ⟨gS,0,none⟩) 3 sdS.pods from by
         have c:=jc wa (.string ⟨#[120]⟩) [.string ⟨#[]⟩,.int .i64 0,.slice b1 n1 d1,.slice none 0 0,.slice none 0 0,.slice none 0 0,.string ⟨#[]⟩,.int .i64 0,.string ⟨#[]⟩,.bool false,.string ⟨#[121]⟩,.string ⟨#[]⟩,.int .i64 5,.slice b2 n2 d2,.slice none 0 0,.slice none 0 0,.slice none 0 0,.string ⟨#[]⟩,.int .i64 0,.string ⟨#[]⟩,.bool false,.string ⟨#[122]⟩,.string ⟨#[]⟩,.int .i64 0,.slice b3 n3 d3,.slice none 0 0,.slice none 0 0,.slice none 0 0,.string ⟨#[]⟩,.int .i64 0,.string ⟨#[]⟩,.bool false] 44 ws (by rw[hw];exact Kept.refl _);rw[hgS] at c;exact Zi (lx:=[(sdX,(b1,n1,d1),(none,0,0),(none,0,0),(none,0,0)),(sdY,(b2,n2,d2),(none,0,0),(none,0,0),(none,0,0)),(sdZ,(b3,n3,d3),(none,0,0),(none,0,0),(none,0,0))]) (j0 rfl c (fun _ _=>trivial) (by decide:(3:Nat)≤maxLen)) (fun z hz=>by
          rcases List.mem_cons.1 hz with rfl | hz
          · exact ji.kept H1.out kk
          rcases List.mem_cons.1 hz with rfl | hz
          · exact ji.kept H2.out kk
          obtain rfl:=List.mem_singleton.1 hz;exact ji.kept H3.out kk))
        obtain⟨Vx,Vb,J,Vq,Ve,Vp⟩:=lH6 (Vx.out.kept kk) (Vb.out.kept kk) (J.out.trans kk) ((kk.block _ Ve.out).trans Vq.out) (Nat.lt_of_lt_of_le Ve.out kk.size) Vs.out;try rw[hw]
        try rw[hgS]
        clear hw kk Vs hgS H1 H2 H3;have hHeldE3:=HS.out _ J.out;refine tkI 6 ?_;try simp only[nP]
        have z0:=Vb.out.at_ 0 _ rfl;have z1:=Vb.out.at_ 1 _ rfl;have z2:=Vb.out.at_ 2 _ rfl;have f0:=Vb.out.free 0;have f1:=Vb.out.free 1;have f2:=Vb.out.free 2;have PP:=lH (j5 (vs:=[.slice (some ⟨gB,0,none⟩) 1 1,.slice (some ⟨gS,0,none⟩) 3 3,.slice none 0 0]) Vb.out rfl);refine rd1 8 fun K9 Ky=>?_;go_simp;obtain⟨WE,hWE⟩:=eX (ws.setCells gA 0 [.slice (some ⟨gB,0,none⟩) 1 1,.slice (some ⟨gS,0,none⟩) 3 3,.slice none 0 0])
        have hWE2:(((ws.setCell ⟨gA,0,none⟩ (.slice (some ⟨gB,0,none⟩) 1 1)).setCell ⟨gA,1,none⟩ (.slice (some ⟨gS,0,none⟩) 3 3)).setCell ⟨gA,2,none⟩ (.slice none 0 0))=WE:=hWE;rw[hWE] at PP;try rw[hWE2]
        have RE:=lH (show jC WE (.agg #[.slice (some ⟨gB,0,none⟩) 1 1,.slice (some ⟨gS,0,none⟩) 3 3,.slice none 0 0]) sdS from zU (w:=ws) (N:=gA) PP.out.size PP.out.far (J7 Vq.out) ⟨_,_,_,rfl,⟨⟨_,_,rfl,by decide,by decide,Vx.out⟩,⟨_,_,rfl,by decide,by decide,Vp.out⟩,⟨_,_,rfl,by decide,by decide,zT _⟩⟩⟩);have JE:=lH (show Kept v7 WE by rw[←hWE];exact jt gA _ _ _ _ _ Vt.out J.out);clear hWE hWE2 z0 f0 z1 f1 z2 f2;refine Ky.out _ _ (HS.out _ JE.out) (fun _=>?_);clear Ky K9;try simp only[nP]
        refine wpAnyH_done (by kernel_rfl) ?_ _;go_wp2;go_meet
        case rel=>exact⟨gA,gB,gS,rfl,PP.out.cells,RE.out,JE.out⟩
    · go_simp;refine Ky.out _ _ (HS.out _ (J.out.trans (ja _ _))) (fun _=>?_);clear Ky K9;try simp only[nP]
      obtain⟨ws,hw⟩:=eX (wp.alloc (.cells #[.string ⟨#[120]⟩,.string ⟨#[]⟩,.int .i64 0,.slice b1 n1 d1,.slice none 0 0,.slice none 0 0,.slice none 0 0,.string ⟨#[]⟩,.int .i64 0,.string ⟨#[]⟩,.bool false,.string ⟨#[121]⟩,.string ⟨#[]⟩,.int .i64 5,.slice b2 n2 d2,.slice none 0 0,.slice none 0 0,.slice none 0 0,.string ⟨#[]⟩,.int .i64 0,.string ⟨#[]⟩,.bool false,.string ⟨#[122]⟩,.string ⟨#[]⟩,.int .i64 0,.slice b3 n3 d3,.slice none 0 0,.slice none 0 0,.slice none 0 0,.string ⟨#[]⟩,.int .i64 0,.string ⟨#[]⟩,.bool false] 44))
      have kk:Kept wp ws:=by rw[←hw];exact ja _ _
      obtain⟨gS,hgS⟩:=eX (wp.heap.size)
      have Vs:=lH (show jy ws (some ⟨gS,0,none⟩) 3 sdS.pods from by
       have c:=jc wp (.string ⟨#[120]⟩) [.string ⟨#[]⟩,.int .i64 0,.slice b1 n1 d1,.slice none 0 0,.slice none 0 0,.slice none 0 0,.string ⟨#[]⟩,.int .i64 0,.string ⟨#[]⟩,.bool false,.string ⟨#[121]⟩,.string ⟨#[]⟩,.int .i64 5,.slice b2 n2 d2,.slice none 0 0,.slice none 0 0,.slice none 0 0,.string ⟨#[]⟩,.int .i64 0,.string ⟨#[]⟩,.bool false,.string ⟨#[122]⟩,.string ⟨#[]⟩,.int .i64 0,.slice b3 n3 d3,.slice none 0 0,.slice none 0 0,.slice none 0 0,.string ⟨#[]⟩,.int .i64 0,.string ⟨#[]⟩,.bool false] 44 ws (by rw[hw];exact Kept.refl _);rw[hgS] at c;exact Zi (lx:=[(sdX,(b1,n1,d1),(none,0,0),(none,0,0),(none,0,0)),(sdY,(b2,n2,d2),(none,0,0),(none,0,0),(none,0,0)),(sdZ,(b3,n3,d3),(none,0,0),(none,0,0),(none,0,0))]) (j0 rfl c (fun _ _=>trivial) (by decide:(3:Nat)≤maxLen)) (fun z hz=>by
        rcases List.mem_cons.1 hz with rfl | hz
        · exact ji.kept H1.out kk
        rcases List.mem_cons.1 hz with rfl | hz
        · exact ji.kept H2.out kk
        obtain rfl:=List.mem_singleton.1 hz;exact ji.kept H3.out kk))
      obtain⟨Vl,J,Vp⟩:=lH3 (Vl.out.kept kk) (J.out.trans kk) Vs.out;try rw[hw]
      try rw[hgS]
      clear hw kk Vs hgS H1 H2 H3;have hHeldE1:=HS.out _ J.out;refine rdH (rs:=[1,7]) (h:=coH (fun K9 Ky=>?_) (coH (fun K9 Ky=>?_) AllReadyH.nil))
      · go_simp;refine Ky.out _ _ (HS.out _ (J.out.trans (ja _ _))) (fun _=>?_);clear Ky K9;try simp only[nP]
        obtain⟨wb,hw⟩:=eX (ws.alloc (.cells #[.string ⟨#[97]⟩,.slice p1 q1 r1,.slice none 0 0,.slice none 0 0,.bool false] 57))
        have kk:Kept ws wb:=by rw[←hw];exact ja _ _
        obtain⟨gB,hgB⟩:=eX (ws.heap.size)
        have Vi:=lH (show jo wb (some ⟨gB,0,none⟩) 1 sdS.nodes from by
         have c:=jc ws (.string ⟨#[97]⟩) [.slice p1 q1 r1,.slice none 0 0,.slice none 0 0,.bool false] 57 wb (by rw[hw];exact Kept.refl _);rw[hgB] at c;exact zS (lx:=[(YV ⟨#[97]⟩ 10,(p1,q1,r1),(none,0,0),(none,0,0))]) (j0 rfl c (fun _ _=>trivial) (by decide:(1:Nat)≤maxLen)) (fun z hz=>by
          obtain rfl:=List.mem_singleton.1 hz;exact Vl.out.kept kk))
        obtain⟨Vl,Vp,J,Vx⟩:=lH4 (Vl.out.kept kk) (Vp.out.kept kk) (J.out.trans kk) Vi.out;try rw[hw]
        try rw[hgB]
        clear hw kk Vi hgB Vl;have hHeldE2:=HS.out _ J.out;refine tkI 6 ?_;try simp only[nP]
        refine rd1 7 fun K9 Ky=>?_;go_simp;refine Ky.out _ _ (HS.out _ (J.out.trans (ja _ _))) (fun _=>?_);clear Ky K9;try simp only[nP]
        obtain⟨wa,hw⟩:=eX (wb.alloc (.cells #[.slice none 0 0,.slice none 0 0,.slice none 0 0] 26))
        have kk:Kept wb wa:=by rw[←hw];exact ja _ _
        obtain⟨gA,hgA⟩:=eX (wb.heap.size)
        have Vt:=lH (show v7.heap.size≤gA by rw[←hgA];exact J.out.size);have hqa:jf gA [.slice none 0 0,.slice none 0 0,.slice none 0 0] wa:=by
         have c:=jc wb (.slice none 0 0) [.slice none 0 0,.slice none 0 0] 26 wa (by rw[hw];exact Kept.refl _);rw[hgA] at c;exact c
        have hha:wa.heap[gA]?=some (.cells #[.slice none 0 0,.slice none 0 0,.slice none 0 0] 26):=by rw[←hw,←hgA];exact World.alloc_heap_new wb _
        obtain⟨Vx,Vp,J,Vb,Vq,Ve⟩:=lH6 (Vx.out.kept kk) (Vp.out.kept kk) (J.out.trans kk) hqa hha hqa.lt;try rw[hw]
        try rw[hgA]
        clear hw kk hqa hha hgA;have hHeldE3:=HS.out _ J.out;have z0:=Vb.out.at_ 0 _ rfl;have z1:=Vb.out.at_ 1 _ rfl;have z2:=Vb.out.at_ 2 _ rfl;have f0:=Vb.out.free 0;have f1:=Vb.out.free 1;have f2:=Vb.out.free 2;have PP:=lH (j5 (vs:=[.slice (some ⟨gB,0,none⟩) 1 1,.slice (some ⟨gS,0,none⟩) 3 3,.slice none 0 0]) Vb.out rfl);refine rd1 8 fun K9 Ky=>?_;go_simp;obtain⟨WE,hWE⟩:=eX (wa.setCells gA 0 [.slice (some ⟨gB,0,none⟩) 1 1,.slice (some ⟨gS,0,none⟩) 3 3,.slice none 0 0])
        have hWE2:(((wa.setCell ⟨gA,0,none⟩ (.slice (some ⟨gB,0,none⟩) 1 1)).setCell ⟨gA,1,none⟩ (.slice (some ⟨gS,0,none⟩) 3 3)).setCell ⟨gA,2,none⟩ (.slice none 0 0))=WE:=hWE;rw[hWE] at PP;try rw[hWE2]
        have RE:=lH (show jC WE (.agg #[.slice (some ⟨gB,0,none⟩) 1 1,.slice (some ⟨gS,0,none⟩) 3 3,.slice none 0 0]) sdS from zU (w:=wa) (N:=gA) PP.out.size PP.out.far (J7 Vq.out) ⟨_,_,_,rfl,⟨⟨_,_,rfl,by decide,by decide,Vx.out⟩,⟨_,_,rfl,by decide,by decide,Vp.out⟩,⟨_,_,rfl,by decide,by decide,zT _⟩⟩⟩);have JE:=lH (show Kept v7 WE by rw[←hWE];exact jt gA _ _ _ _ _ Vt.out J.out);clear hWE hWE2 z0 f0 z1 f1 z2 f2;refine Ky.out _ _ (HS.out _ JE.out) (fun _=>?_);clear Ky K9;try simp only[nP]
        refine wpAnyH_done (by kernel_rfl) ?_ _;go_wp2;go_meet
        case rel=>exact⟨gA,gB,gS,rfl,PP.out.cells,RE.out,JE.out⟩
      · go_simp;refine Ky.out _ _ (HS.out _ (J.out.trans (ja _ _))) (fun _=>?_);clear Ky K9;try simp only[nP]
        obtain⟨wa,hw⟩:=eX (ws.alloc (.cells #[.slice none 0 0,.slice none 0 0,.slice none 0 0] 26))
        have kk:Kept ws wa:=by rw[←hw];exact ja _ _
        obtain⟨gA,hgA⟩:=eX (ws.heap.size)
        have Vt:=lH (show v7.heap.size≤gA by rw[←hgA];exact J.out.size);have hqa:jf gA [.slice none 0 0,.slice none 0 0,.slice none 0 0] wa:=by
         have c:=jc ws (.slice none 0 0) [.slice none 0 0,.slice none 0 0] 26 wa (by rw[hw];exact Kept.refl _);rw[hgA] at c;exact c
        have hha:wa.heap[gA]?=some (.cells #[.slice none 0 0,.slice none 0 0,.slice none 0 0] 26):=by rw[←hw,←hgA];exact World.alloc_heap_new ws _
        obtain⟨Vl,Vp,J,Vb,Vq,Ve⟩:=lH6 (Vl.out.kept kk) (Vp.out.kept kk) (J.out.trans kk) hqa hha hqa.lt;try rw[hw]
        try rw[hgA]
        clear hw kk hqa hha hgA;have hHeldE2:=HS.out _ J.out;refine rd1 1 fun K9 Ky=>?_;go_simp;refine Ky.out _ _ (HS.out _ (J.out.trans (ja _ _))) (fun _=>?_);clear Ky K9;try simp only[nP]
        obtain⟨wb,hw⟩:=eX (wa.alloc (.cells #[.string ⟨#[97]⟩,.slice p1 q1 r1,.slice none 0 0,.slice none 0 0,.bool false] 57))
        have kk:Kept wa wb:=by rw[←hw];exact ja _ _
        obtain⟨gB,hgB⟩:=eX (wa.heap.size)
        have Vi:=lH (show jo wb (some ⟨gB,0,none⟩) 1 sdS.nodes from by
         have c:=jc wa (.string ⟨#[97]⟩) [.slice p1 q1 r1,.slice none 0 0,.slice none 0 0,.bool false] 57 wb (by rw[hw];exact Kept.refl _);rw[hgB] at c;exact zS (lx:=[(YV ⟨#[97]⟩ 10,(p1,q1,r1),(none,0,0),(none,0,0))]) (j0 rfl c (fun _ _=>trivial) (by decide:(1:Nat)≤maxLen)) (fun z hz=>by
          obtain rfl:=List.mem_singleton.1 hz;exact Vl.out.kept kk))
        obtain⟨Vl,Vp,Vb,J,Vq,Ve,Vx⟩:=lH7 (Vl.out.kept kk) (Vp.out.kept kk) (Vb.out.kept kk) (J.out.trans kk) ((kk.block _ Ve.out).trans Vq.out) (Nat.lt_of_lt_of_le Ve.out kk.size) Vi.out;try rw[hw]
        try rw[hgB]
        clear hw kk Vi hgB Vl;have hHeldE3:=HS.out _ J.out;refine tkI 6 ?_;try simp only[nP]
        have z0:=Vb.out.at_ 0 _ rfl;have z1:=Vb.out.at_ 1 _ rfl;have z2:=Vb.out.at_ 2 _ rfl;have f0:=Vb.out.free 0;have f1:=Vb.out.free 1;have f2:=Vb.out.free 2;have PP:=lH (j5 (vs:=[.slice (some ⟨gB,0,none⟩) 1 1,.slice (some ⟨gS,0,none⟩) 3 3,.slice none 0 0]) Vb.out rfl);refine rd1 8 fun K9 Ky=>?_;go_simp;obtain⟨WE,hWE⟩:=eX (wb.setCells gA 0 [.slice (some ⟨gB,0,none⟩) 1 1,.slice (some ⟨gS,0,none⟩) 3 3,.slice none 0 0])
        have hWE2:(((wb.setCell ⟨gA,0,none⟩ (.slice (some ⟨gB,0,none⟩) 1 1)).setCell ⟨gA,1,none⟩ (.slice (some ⟨gS,0,none⟩) 3 3)).setCell ⟨gA,2,none⟩ (.slice none 0 0))=WE:=hWE;rw[hWE] at PP;try rw[hWE2]
        have RE:=lH (show jC WE (.agg #[.slice (some ⟨gB,0,none⟩) 1 1,.slice (some ⟨gS,0,none⟩) 3 3,.slice none 0 0]) sdS from zU (w:=wb) (N:=gA) PP.out.size PP.out.far (J7 Vq.out) ⟨_,_,_,rfl,⟨⟨_,_,rfl,by decide,by decide,Vx.out⟩,⟨_,_,rfl,by decide,by decide,Vp.out⟩,⟨_,_,rfl,by decide,by decide,zT _⟩⟩⟩);have JE:=lH (show Kept v7 WE by rw[←hWE];exact jt gA _ _ _ _ _ Vt.out J.out);clear hWE hWE2 z0 f0 z1 f1 z2 f2;refine Ky.out _ _ (HS.out _ JE.out) (fun _=>?_);clear Ky K9;try simp only[nP]
        refine wpAnyH_done (by kernel_rfl) ?_ _;go_wp2;go_meet
        case rel=>exact⟨gA,gB,gS,rfl,PP.out.cells,RE.out,JE.out⟩
    · go_simp;refine Ky.out _ _ (HS.out _ (J.out.trans (ja _ _))) (fun _=>?_);clear Ky K9;try simp only[nP]
      obtain⟨wa,hw⟩:=eX (wp.alloc (.cells #[.slice none 0 0,.slice none 0 0,.slice none 0 0] 26))
      have kk:Kept wp wa:=by rw[←hw];exact ja _ _
      obtain⟨gA,hgA⟩:=eX (wp.heap.size)
      have Vt:=lH (show v7.heap.size≤gA by rw[←hgA];exact J.out.size);have hqa:jf gA [.slice none 0 0,.slice none 0 0,.slice none 0 0] wa:=by
       have c:=jc wp (.slice none 0 0) [.slice none 0 0,.slice none 0 0] 26 wa (by rw[hw];exact Kept.refl _);rw[hgA] at c;exact c
      have hha:wa.heap[gA]?=some (.cells #[.slice none 0 0,.slice none 0 0,.slice none 0 0] 26):=by rw[←hw,←hgA];exact World.alloc_heap_new wp _
      obtain⟨H1,H2,H3,Vl,J,Vb,Vq,Ve⟩:=lH8 (ji.kept H1.out kk) (ji.kept H2.out kk) (ji.kept H3.out kk) (Vl.out.kept kk) (J.out.trans kk) hqa hha hqa.lt;try rw[hw]
      try rw[hgA]
      clear hw kk hqa hha hgA;have hHeldE1:=HS.out _ J.out;refine rdH (rs:=[1,5]) (h:=coH (fun K9 Ky=>?_) (coH (fun K9 Ky=>?_) AllReadyH.nil))
      · go_simp;refine Ky.out _ _ (HS.out _ (J.out.trans (ja _ _))) (fun _=>?_);clear Ky K9;try simp only[nP]
        obtain⟨wb,hw⟩:=eX (wa.alloc (.cells #[.string ⟨#[97]⟩,.slice p1 q1 r1,.slice none 0 0,.slice none 0 0,.bool false] 57))
        have kk:Kept wa wb:=by rw[←hw];exact ja _ _
        obtain⟨gB,hgB⟩:=eX (wa.heap.size)
        have Vi:=lH (show jo wb (some ⟨gB,0,none⟩) 1 sdS.nodes from by
         have c:=jc wa (.string ⟨#[97]⟩) [.slice p1 q1 r1,.slice none 0 0,.slice none 0 0,.bool false] 57 wb (by rw[hw];exact Kept.refl _);rw[hgB] at c;exact zS (lx:=[(YV ⟨#[97]⟩ 10,(p1,q1,r1),(none,0,0),(none,0,0))]) (j0 rfl c (fun _ _=>trivial) (by decide:(1:Nat)≤maxLen)) (fun z hz=>by
          obtain rfl:=List.mem_singleton.1 hz;exact Vl.out.kept kk))
        obtain⟨H1,H2,H3,Vl,Vb,J,Vq,Ve⟩:=lH8 (ji.kept H1.out kk) (ji.kept H2.out kk) (ji.kept H3.out kk) (Vl.out.kept kk) (Vb.out.kept kk) (J.out.trans kk) ((kk.block _ Ve.out).trans Vq.out) (Nat.lt_of_lt_of_le Ve.out kk.size);have Vx:=lH Vi.out;try rw[hw]
        try rw[hgB]
        clear hw kk Vi hgB Vl;have hHeldE2:=HS.out _ J.out;refine rd1 5 fun K9 Ky=>?_;go_simp;refine Ky.out _ _ (HS.out _ (J.out.trans (ja _ _))) (fun _=>?_);clear Ky K9;try simp only[nP]
        obtain⟨ws,hw⟩:=eX (wb.alloc (.cells #[.string ⟨#[120]⟩,.string ⟨#[]⟩,.int .i64 0,.slice b1 n1 d1,.slice none 0 0,.slice none 0 0,.slice none 0 0,.string ⟨#[]⟩,.int .i64 0,.string ⟨#[]⟩,.bool false,.string ⟨#[121]⟩,.string ⟨#[]⟩,.int .i64 5,.slice b2 n2 d2,.slice none 0 0,.slice none 0 0,.slice none 0 0,.string ⟨#[]⟩,.int .i64 0,.string ⟨#[]⟩,.bool false,.string ⟨#[122]⟩,.string ⟨#[]⟩,.int .i64 0,.slice b3 n3 d3,.slice none 0 0,.slice none 0 0,.slice none 0 0,.string ⟨#[]⟩,.int .i64 0,.string ⟨#[]⟩,.bool false] 44))
        have kk:Kept wb ws:=by rw[←hw];exact ja _ _
        obtain⟨gS,hgS⟩:=eX (wb.heap.size)
        have Vs:=lH (show jy ws (some ⟨gS,0,none⟩) 3 sdS.pods from by
         have c:=jc wb (.string ⟨#[120]⟩) [.string ⟨#[]⟩,.int .i64 0,.slice b1 n1 d1,.slice none 0 0,.slice none 0 0,.slice none 0 0,.string ⟨#[]⟩,.int .i64 0,.string ⟨#[]⟩,.bool false,.string ⟨#[121]⟩,.string ⟨#[]⟩,.int .i64 5,.slice b2 n2 d2,.slice none 0 0,.slice none 0 0,.slice none 0 0,.string ⟨#[]⟩,.int .i64 0,.string ⟨#[]⟩,.bool false,.string ⟨#[122]⟩,.string ⟨#[]⟩,.int .i64 0,.slice b3 n3 d3,.slice none 0 0,.slice none 0 0,.slice none 0 0,.string ⟨#[]⟩,.int .i64 0,.string ⟨#[]⟩,.bool false] 44 ws (by rw[hw];exact Kept.refl _);rw[hgS] at c;exact Zi (lx:=[(sdX,(b1,n1,d1),(none,0,0),(none,0,0),(none,0,0)),(sdY,(b2,n2,d2),(none,0,0),(none,0,0),(none,0,0)),(sdZ,(b3,n3,d3),(none,0,0),(none,0,0),(none,0,0))]) (j0 rfl c (fun _ _=>trivial) (by decide:(3:Nat)≤maxLen)) (fun z hz=>by
          rcases List.mem_cons.1 hz with rfl | hz
          · exact ji.kept H1.out kk
          rcases List.mem_cons.1 hz with rfl | hz
          · exact ji.kept H2.out kk
          obtain rfl:=List.mem_singleton.1 hz;exact ji.kept H3.out kk))
        obtain⟨Vx,Vb,J,Vq,Ve,Vp⟩:=lH6 (Vx.out.kept kk) (Vb.out.kept kk) (J.out.trans kk) ((kk.block _ Ve.out).trans Vq.out) (Nat.lt_of_lt_of_le Ve.out kk.size) Vs.out;try rw[hw]
        try rw[hgS]
        clear hw kk Vs hgS H1 H2 H3;have hHeldE3:=HS.out _ J.out;refine tkI 6 ?_;try simp only[nP]
        have z0:=Vb.out.at_ 0 _ rfl;have z1:=Vb.out.at_ 1 _ rfl;have z2:=Vb.out.at_ 2 _ rfl;have f0:=Vb.out.free 0;have f1:=Vb.out.free 1;have f2:=Vb.out.free 2;have PP:=lH (j5 (vs:=[.slice (some ⟨gB,0,none⟩) 1 1,.slice (some ⟨gS,0,none⟩) 3 3,.slice none 0 0]) Vb.out rfl);refine rd1 8 fun K9 Ky=>?_;go_simp;obtain⟨WE,hWE⟩:=eX (ws.setCells gA 0 [.slice (some ⟨gB,0,none⟩) 1 1,.slice (some ⟨gS,0,none⟩) 3 3,.slice none 0 0])
        have hWE2:(((ws.setCell ⟨gA,0,none⟩ (.slice (some ⟨gB,0,none⟩) 1 1)).setCell ⟨gA,1,none⟩ (.slice (some ⟨gS,0,none⟩) 3 3)).setCell ⟨gA,2,none⟩ (.slice none 0 0))=WE:=hWE;rw[hWE] at PP;try rw[hWE2]
        have RE:=lH (show jC WE (.agg #[.slice (some ⟨gB,0,none⟩) 1 1,.slice (some ⟨gS,0,none⟩) 3 3,.slice none 0 0]) sdS from zU (w:=ws) (N:=gA) PP.out.size PP.out.far (J7 Vq.out) ⟨_,_,_,rfl,⟨⟨_,_,rfl,by decide,by decide,Vx.out⟩,⟨_,_,rfl,by decide,by decide,Vp.out⟩,⟨_,_,rfl,by decide,by decide,zT _⟩⟩⟩);have JE:=lH (show Kept v7 WE by rw[←hWE];exact jt gA _ _ _ _ _ Vt.out J.out);clear hWE hWE2 z0 f0 z1 f1 z2 f2;refine Ky.out _ _ (HS.out _ JE.out) (fun _=>?_);clear Ky K9;try simp only[nP]
        refine wpAnyH_done (by kernel_rfl) ?_ _;go_wp2;go_meet
        case rel=>exact⟨gA,gB,gS,rfl,PP.out.cells,RE.out,JE.out⟩
      · go_simp;refine Ky.out _ _ (HS.out _ (J.out.trans (ja _ _))) (fun _=>?_);clear Ky K9;try simp only[nP]
        obtain⟨ws,hw⟩:=eX (wa.alloc (.cells #[.string ⟨#[120]⟩,.string ⟨#[]⟩,.int .i64 0,.slice b1 n1 d1,.slice none 0 0,.slice none 0 0,.slice none 0 0,.string ⟨#[]⟩,.int .i64 0,.string ⟨#[]⟩,.bool false,.string ⟨#[121]⟩,.string ⟨#[]⟩,.int .i64 5,.slice b2 n2 d2,.slice none 0 0,.slice none 0 0,.slice none 0 0,.string ⟨#[]⟩,.int .i64 0,.string ⟨#[]⟩,.bool false,.string ⟨#[122]⟩,.string ⟨#[]⟩,.int .i64 0,.slice b3 n3 d3,.slice none 0 0,.slice none 0 0,.slice none 0 0,.string ⟨#[]⟩,.int .i64 0,.string ⟨#[]⟩,.bool false] 44))
        have kk:Kept wa ws:=by rw[←hw];exact ja _ _
        obtain⟨gS,hgS⟩:=eX (wa.heap.size)
        have Vs:=lH (show jy ws (some ⟨gS,0,none⟩) 3 sdS.pods from by
         have c:=jc wa (.string ⟨#[120]⟩) [.string ⟨#[]⟩,.int .i64 0,.slice b1 n1 d1,.slice none 0 0,.slice none 0 0,.slice none 0 0,.string ⟨#[]⟩,.int .i64 0,.string ⟨#[]⟩,.bool false,.string ⟨#[121]⟩,.string ⟨#[]⟩,.int .i64 5,.slice b2 n2 d2,.slice none 0 0,.slice none 0 0,.slice none 0 0,.string ⟨#[]⟩,.int .i64 0,.string ⟨#[]⟩,.bool false,.string ⟨#[122]⟩,.string ⟨#[]⟩,.int .i64 0,.slice b3 n3 d3,.slice none 0 0,.slice none 0 0,.slice none 0 0,.string ⟨#[]⟩,.int .i64 0,.string ⟨#[]⟩,.bool false] 44 ws (by rw[hw];exact Kept.refl _);rw[hgS] at c;exact Zi (lx:=[(sdX,(b1,n1,d1),(none,0,0),(none,0,0),(none,0,0)),(sdY,(b2,n2,d2),(none,0,0),(none,0,0),(none,0,0)),(sdZ,(b3,n3,d3),(none,0,0),(none,0,0),(none,0,0))]) (j0 rfl c (fun _ _=>trivial) (by decide:(3:Nat)≤maxLen)) (fun z hz=>by
          rcases List.mem_cons.1 hz with rfl | hz
          · exact ji.kept H1.out kk
          rcases List.mem_cons.1 hz with rfl | hz
          · exact ji.kept H2.out kk
          obtain rfl:=List.mem_singleton.1 hz;exact ji.kept H3.out kk))
        obtain⟨Vl,Vb,J,Vq,Ve,Vp⟩:=lH6 (Vl.out.kept kk) (Vb.out.kept kk) (J.out.trans kk) ((kk.block _ Ve.out).trans Vq.out) (Nat.lt_of_lt_of_le Ve.out kk.size) Vs.out;try rw[hw]
        try rw[hgS]
        clear hw kk Vs hgS H1 H2 H3;have hHeldE2:=HS.out _ J.out;refine rd1 1 fun K9 Ky=>?_;go_simp;refine Ky.out _ _ (HS.out _ (J.out.trans (ja _ _))) (fun _=>?_);clear Ky K9;try simp only[nP]
        obtain⟨wb,hw⟩:=eX (ws.alloc (.cells #[.string ⟨#[97]⟩,.slice p1 q1 r1,.slice none 0 0,.slice none 0 0,.bool false] 57))
        have kk:Kept ws wb:=by rw[←hw];exact ja _ _
        obtain⟨gB,hgB⟩:=eX (ws.heap.size)
        have Vi:=lH (show jo wb (some ⟨gB,0,none⟩) 1 sdS.nodes from by
         have c:=jc ws (.string ⟨#[97]⟩) [.slice p1 q1 r1,.slice none 0 0,.slice none 0 0,.bool false] 57 wb (by rw[hw];exact Kept.refl _);rw[hgB] at c;exact zS (lx:=[(YV ⟨#[97]⟩ 10,(p1,q1,r1),(none,0,0),(none,0,0))]) (j0 rfl c (fun _ _=>trivial) (by decide:(1:Nat)≤maxLen)) (fun z hz=>by
          obtain rfl:=List.mem_singleton.1 hz;exact Vl.out.kept kk))
        obtain⟨Vl,Vp,Vb,J,Vq,Ve,Vx⟩:=lH7 (Vl.out.kept kk) (Vp.out.kept kk) (Vb.out.kept kk) (J.out.trans kk) ((kk.block _ Ve.out).trans Vq.out) (Nat.lt_of_lt_of_le Ve.out kk.size) Vi.out;try rw[hw]
        try rw[hgB]
        clear hw kk Vi hgB Vl;have hHeldE3:=HS.out _ J.out;refine tkI 6 ?_;try simp only[nP]
        have z0:=Vb.out.at_ 0 _ rfl;have z1:=Vb.out.at_ 1 _ rfl;have z2:=Vb.out.at_ 2 _ rfl;have f0:=Vb.out.free 0;have f1:=Vb.out.free 1;have f2:=Vb.out.free 2;have PP:=lH (j5 (vs:=[.slice (some ⟨gB,0,none⟩) 1 1,.slice (some ⟨gS,0,none⟩) 3 3,.slice none 0 0]) Vb.out rfl);refine rd1 8 fun K9 Ky=>?_;go_simp;obtain⟨WE,hWE⟩:=eX (wb.setCells gA 0 [.slice (some ⟨gB,0,none⟩) 1 1,.slice (some ⟨gS,0,none⟩) 3 3,.slice none 0 0])
        have hWE2:(((wb.setCell ⟨gA,0,none⟩ (.slice (some ⟨gB,0,none⟩) 1 1)).setCell ⟨gA,1,none⟩ (.slice (some ⟨gS,0,none⟩) 3 3)).setCell ⟨gA,2,none⟩ (.slice none 0 0))=WE:=hWE;rw[hWE] at PP;try rw[hWE2]
        have RE:=lH (show jC WE (.agg #[.slice (some ⟨gB,0,none⟩) 1 1,.slice (some ⟨gS,0,none⟩) 3 3,.slice none 0 0]) sdS from zU (w:=wb) (N:=gA) PP.out.size PP.out.far (J7 Vq.out) ⟨_,_,_,rfl,⟨⟨_,_,rfl,by decide,by decide,Vx.out⟩,⟨_,_,rfl,by decide,by decide,Vp.out⟩,⟨_,_,rfl,by decide,by decide,zT _⟩⟩⟩);have JE:=lH (show Kept v7 WE by rw[←hWE];exact jt gA _ _ _ _ _ Vt.out J.out);clear hWE hWE2 z0 f0 z1 f1 z2 f2;refine Ky.out _ _ (HS.out _ JE.out) (fun _=>?_);clear Ky K9;try simp only[nP]
        refine wpAnyH_done (by kernel_rfl) ?_ _;go_wp2;go_meet
        case rel=>exact⟨gA,gB,gS,rfl,PP.out.cells,RE.out,JE.out⟩
  · go_simp;refine Ky.out _ _ (HS.out _ (J.out.trans (ja _ _))) (fun _=>?_);clear Ky K9;try simp only[nP]
    obtain⟨ws,hw⟩:=eX (wq.alloc (.cells #[.string ⟨#[120]⟩,.string ⟨#[]⟩,.int .i64 0,.slice b1 n1 d1,.slice none 0 0,.slice none 0 0,.slice none 0 0,.string ⟨#[]⟩,.int .i64 0,.string ⟨#[]⟩,.bool false,.string ⟨#[121]⟩,.string ⟨#[]⟩,.int .i64 5,.slice b2 n2 d2,.slice none 0 0,.slice none 0 0,.slice none 0 0,.string ⟨#[]⟩,.int .i64 0,.string ⟨#[]⟩,.bool false,.string ⟨#[122]⟩,.string ⟨#[]⟩,.int .i64 0,.slice b3 n3 d3,.slice none 0 0,.slice none 0 0,.slice none 0 0,.string ⟨#[]⟩,.int .i64 0,.string ⟨#[]⟩,.bool false] 44))
    have kk:Kept wq ws:=by rw[←hw];exact ja _ _
    obtain⟨gS,hgS⟩:=eX (wq.heap.size)
    have Vs:=lH (show jy ws (some ⟨gS,0,none⟩) 3 sdS.pods from by
     have c:=jc wq (.string ⟨#[120]⟩) [.string ⟨#[]⟩,.int .i64 0,.slice b1 n1 d1,.slice none 0 0,.slice none 0 0,.slice none 0 0,.string ⟨#[]⟩,.int .i64 0,.string ⟨#[]⟩,.bool false,.string ⟨#[121]⟩,.string ⟨#[]⟩,.int .i64 5,.slice b2 n2 d2,.slice none 0 0,.slice none 0 0,.slice none 0 0,.string ⟨#[]⟩,.int .i64 0,.string ⟨#[]⟩,.bool false,.string ⟨#[122]⟩,.string ⟨#[]⟩,.int .i64 0,.slice b3 n3 d3,.slice none 0 0,.slice none 0 0,.slice none 0 0,.string ⟨#[]⟩,.int .i64 0,.string ⟨#[]⟩,.bool false] 44 ws (by rw[hw];exact Kept.refl _);rw[hgS] at c;exact Zi (lx:=[(sdX,(b1,n1,d1),(none,0,0),(none,0,0),(none,0,0)),(sdY,(b2,n2,d2),(none,0,0),(none,0,0),(none,0,0)),(sdZ,(b3,n3,d3),(none,0,0),(none,0,0),(none,0,0))]) (j0 rfl c (fun _ _=>trivial) (by decide:(3:Nat)≤maxLen)) (fun z hz=>by
      rcases List.mem_cons.1 hz with rfl | hz
      · exact ji.kept H1.out kk
      rcases List.mem_cons.1 hz with rfl | hz
      · exact ji.kept H2.out kk
      obtain rfl:=List.mem_singleton.1 hz;exact ji.kept H3.out kk))
    have J:=lH (J.out.trans kk);have Vp:=lH Vs.out;try rw[hw]
    try rw[hgS]
    clear hw kk Vs hgS H1 H2 H3;have hHeldE0:=HS.out _ J.out;refine rdH (rs:=[0,7]) (h:=coH (fun K9 Ky=>?_) (coH (fun K9 Ky=>?_) AllReadyH.nil))
    · go_simp;refine(XJ ⟨#[97]⟩ 10 (by decide:(-9223372036854775808:Int)≤10∧(10:Int)≤9223372036854775807) (by decide:(1:Nat)≤maxLen) _).mono ?_;rintro e wp ⟨p1,q1,r1,rfl,ha,kk⟩;obtain⟨Vp,J,Vl⟩:=lH3 (Vp.out.kept kk) (J.out.trans kk) ha;clear ha kk;refine Ky.out _ _ (HS.out _ J.out) (fun _=>?_);clear Ky K9;try simp only[nP]
      refine rdH (rs:=[1,7]) (h:=coH (fun K9 Ky=>?_) (coH (fun K9 Ky=>?_) AllReadyH.nil))
      · go_simp;refine Ky.out _ _ (HS.out _ (J.out.trans (ja _ _))) (fun _=>?_);clear Ky K9;try simp only[nP]
        obtain⟨wb,hw⟩:=eX (wp.alloc (.cells #[.string ⟨#[97]⟩,.slice p1 q1 r1,.slice none 0 0,.slice none 0 0,.bool false] 57))
        have kk:Kept wp wb:=by rw[←hw];exact ja _ _
        obtain⟨gB,hgB⟩:=eX (wp.heap.size)
        have Vi:=lH (show jo wb (some ⟨gB,0,none⟩) 1 sdS.nodes from by
         have c:=jc wp (.string ⟨#[97]⟩) [.slice p1 q1 r1,.slice none 0 0,.slice none 0 0,.bool false] 57 wb (by rw[hw];exact Kept.refl _);rw[hgB] at c;exact zS (lx:=[(YV ⟨#[97]⟩ 10,(p1,q1,r1),(none,0,0),(none,0,0))]) (j0 rfl c (fun _ _=>trivial) (by decide:(1:Nat)≤maxLen)) (fun z hz=>by
          obtain rfl:=List.mem_singleton.1 hz;exact Vl.out.kept kk))
        obtain⟨Vl,Vp,J,Vx⟩:=lH4 (Vl.out.kept kk) (Vp.out.kept kk) (J.out.trans kk) Vi.out;try rw[hw]
        try rw[hgB]
        clear hw kk Vi hgB Vl;have hHeldE2:=HS.out _ J.out;refine tkI 6 ?_;try simp only[nP]
        refine rd1 7 fun K9 Ky=>?_;go_simp;refine Ky.out _ _ (HS.out _ (J.out.trans (ja _ _))) (fun _=>?_);clear Ky K9;try simp only[nP]
        obtain⟨wa,hw⟩:=eX (wb.alloc (.cells #[.slice none 0 0,.slice none 0 0,.slice none 0 0] 26))
        have kk:Kept wb wa:=by rw[←hw];exact ja _ _
        obtain⟨gA,hgA⟩:=eX (wb.heap.size)
        have Vt:=lH (show v7.heap.size≤gA by rw[←hgA];exact J.out.size);have hqa:jf gA [.slice none 0 0,.slice none 0 0,.slice none 0 0] wa:=by
         have c:=jc wb (.slice none 0 0) [.slice none 0 0,.slice none 0 0] 26 wa (by rw[hw];exact Kept.refl _);rw[hgA] at c;exact c
        have hha:wa.heap[gA]?=some (.cells #[.slice none 0 0,.slice none 0 0,.slice none 0 0] 26):=by rw[←hw,←hgA];exact World.alloc_heap_new wb _
        obtain⟨Vx,Vp,J,Vb,Vq,Ve⟩:=lH6 (Vx.out.kept kk) (Vp.out.kept kk) (J.out.trans kk) hqa hha hqa.lt;try rw[hw]
        try rw[hgA]
        clear hw kk hqa hha hgA;have hHeldE3:=HS.out _ J.out;have z0:=Vb.out.at_ 0 _ rfl;have z1:=Vb.out.at_ 1 _ rfl;have z2:=Vb.out.at_ 2 _ rfl;have f0:=Vb.out.free 0;have f1:=Vb.out.free 1;have f2:=Vb.out.free 2;have PP:=lH (j5 (vs:=[.slice (some ⟨gB,0,none⟩) 1 1,.slice (some ⟨gS,0,none⟩) 3 3,.slice none 0 0]) Vb.out rfl);refine rd1 8 fun K9 Ky=>?_;go_simp;obtain⟨WE,hWE⟩:=eX (wa.setCells gA 0 [.slice (some ⟨gB,0,none⟩) 1 1,.slice (some ⟨gS,0,none⟩) 3 3,.slice none 0 0])
        have hWE2:(((wa.setCell ⟨gA,0,none⟩ (.slice (some ⟨gB,0,none⟩) 1 1)).setCell ⟨gA,1,none⟩ (.slice (some ⟨gS,0,none⟩) 3 3)).setCell ⟨gA,2,none⟩ (.slice none 0 0))=WE:=hWE;rw[hWE] at PP;try rw[hWE2]
        have RE:=lH (show jC WE (.agg #[.slice (some ⟨gB,0,none⟩) 1 1,.slice (some ⟨gS,0,none⟩) 3 3,.slice none 0 0]) sdS from zU (w:=wa) (N:=gA) PP.out.size PP.out.far (J7 Vq.out) ⟨_,_,_,rfl,⟨⟨_,_,rfl,by decide,by decide,Vx.out⟩,⟨_,_,rfl,by decide,by decide,Vp.out⟩,⟨_,_,rfl,by decide,by decide,zT _⟩⟩⟩);have JE:=lH (show Kept v7 WE by rw[←hWE];exact jt gA _ _ _ _ _ Vt.out J.out);clear hWE hWE2 z0 f0 z1 f1 z2 f2;refine Ky.out _ _ (HS.out _ JE.out) (fun _=>?_);clear Ky K9;try simp only[nP]
        refine wpAnyH_done (by kernel_rfl) ?_ _;go_wp2;go_meet
        case rel=>exact⟨gA,gB,gS,rfl,PP.out.cells,RE.out,JE.out⟩
      · go_simp;refine Ky.out _ _ (HS.out _ (J.out.trans (ja _ _))) (fun _=>?_);clear Ky K9;try simp only[nP]
        obtain⟨wa,hw⟩:=eX (wp.alloc (.cells #[.slice none 0 0,.slice none 0 0,.slice none 0 0] 26))
        have kk:Kept wp wa:=by rw[←hw];exact ja _ _
        obtain⟨gA,hgA⟩:=eX (wp.heap.size)
        have Vt:=lH (show v7.heap.size≤gA by rw[←hgA];exact J.out.size);have hqa:jf gA [.slice none 0 0,.slice none 0 0,.slice none 0 0] wa:=by
         have c:=jc wp (.slice none 0 0) [.slice none 0 0,.slice none 0 0] 26 wa (by rw[hw];exact Kept.refl _);rw[hgA] at c;exact c
        have hha:wa.heap[gA]?=some (.cells #[.slice none 0 0,.slice none 0 0,.slice none 0 0] 26):=by rw[←hw,←hgA];exact World.alloc_heap_new wp _
        obtain⟨Vl,Vp,J,Vb,Vq,Ve⟩:=lH6 (Vl.out.kept kk) (Vp.out.kept kk) (J.out.trans kk) hqa hha hqa.lt;try rw[hw]
        try rw[hgA]
        clear hw kk hqa hha hgA;have hHeldE2:=HS.out _ J.out;refine rd1 1 fun K9 Ky=>?_;go_simp;refine Ky.out _ _ (HS.out _ (J.out.trans (ja _ _))) (fun _=>?_);clear Ky K9;try simp only[nP]
        obtain⟨wb,hw⟩:=eX (wa.alloc (.cells #[.string ⟨#[97]⟩,.slice p1 q1 r1,.slice none 0 0,.slice none 0 0,.bool false] 57))
        have kk:Kept wa wb:=by rw[←hw];exact ja _ _
        obtain⟨gB,hgB⟩:=eX (wa.heap.size)
        have Vi:=lH (show jo wb (some ⟨gB,0,none⟩) 1 sdS.nodes from by
         have c:=jc wa (.string ⟨#[97]⟩) [.slice p1 q1 r1,.slice none 0 0,.slice none 0 0,.bool false] 57 wb (by rw[hw];exact Kept.refl _);rw[hgB] at c;exact zS (lx:=[(YV ⟨#[97]⟩ 10,(p1,q1,r1),(none,0,0),(none,0,0))]) (j0 rfl c (fun _ _=>trivial) (by decide:(1:Nat)≤maxLen)) (fun z hz=>by
          obtain rfl:=List.mem_singleton.1 hz;exact Vl.out.kept kk))
        obtain⟨Vl,Vp,Vb,J,Vq,Ve,Vx⟩:=lH7 (Vl.out.kept kk) (Vp.out.kept kk) (Vb.out.kept kk) (J.out.trans kk) ((kk.block _ Ve.out).trans Vq.out) (Nat.lt_of_lt_of_le Ve.out kk.size) Vi.out;try rw[hw]
        try rw[hgB]
        clear hw kk Vi hgB Vl;have hHeldE3:=HS.out _ J.out;refine tkI 6 ?_;try simp only[nP]
        have z0:=Vb.out.at_ 0 _ rfl;have z1:=Vb.out.at_ 1 _ rfl;have z2:=Vb.out.at_ 2 _ rfl;have f0:=Vb.out.free 0;have f1:=Vb.out.free 1;have f2:=Vb.out.free 2;have PP:=lH (j5 (vs:=[.slice (some ⟨gB,0,none⟩) 1 1,.slice (some ⟨gS,0,none⟩) 3 3,.slice none 0 0]) Vb.out rfl);refine rd1 8 fun K9 Ky=>?_;go_simp;obtain⟨WE,hWE⟩:=eX (wb.setCells gA 0 [.slice (some ⟨gB,0,none⟩) 1 1,.slice (some ⟨gS,0,none⟩) 3 3,.slice none 0 0])
        have hWE2:(((wb.setCell ⟨gA,0,none⟩ (.slice (some ⟨gB,0,none⟩) 1 1)).setCell ⟨gA,1,none⟩ (.slice (some ⟨gS,0,none⟩) 3 3)).setCell ⟨gA,2,none⟩ (.slice none 0 0))=WE:=hWE;rw[hWE] at PP;try rw[hWE2]
        have RE:=lH (show jC WE (.agg #[.slice (some ⟨gB,0,none⟩) 1 1,.slice (some ⟨gS,0,none⟩) 3 3,.slice none 0 0]) sdS from zU (w:=wb) (N:=gA) PP.out.size PP.out.far (J7 Vq.out) ⟨_,_,_,rfl,⟨⟨_,_,rfl,by decide,by decide,Vx.out⟩,⟨_,_,rfl,by decide,by decide,Vp.out⟩,⟨_,_,rfl,by decide,by decide,zT _⟩⟩⟩);have JE:=lH (show Kept v7 WE by rw[←hWE];exact jt gA _ _ _ _ _ Vt.out J.out);clear hWE hWE2 z0 f0 z1 f1 z2 f2;refine Ky.out _ _ (HS.out _ JE.out) (fun _=>?_);clear Ky K9;try simp only[nP]
        refine wpAnyH_done (by kernel_rfl) ?_ _;go_wp2;go_meet
        case rel=>exact⟨gA,gB,gS,rfl,PP.out.cells,RE.out,JE.out⟩
    · go_simp;refine Ky.out _ _ (HS.out _ (J.out.trans (ja _ _))) (fun _=>?_);clear Ky K9;try simp only[nP]
      obtain⟨wa,hw⟩:=eX (ws.alloc (.cells #[.slice none 0 0,.slice none 0 0,.slice none 0 0] 26))
      have kk:Kept ws wa:=by rw[←hw];exact ja _ _
      obtain⟨gA,hgA⟩:=eX (ws.heap.size)
      have Vt:=lH (show v7.heap.size≤gA by rw[←hgA];exact J.out.size);have hqa:jf gA [.slice none 0 0,.slice none 0 0,.slice none 0 0] wa:=by
       have c:=jc ws (.slice none 0 0) [.slice none 0 0,.slice none 0 0] 26 wa (by rw[hw];exact Kept.refl _);rw[hgA] at c;exact c
      have hha:wa.heap[gA]?=some (.cells #[.slice none 0 0,.slice none 0 0,.slice none 0 0] 26):=by rw[←hw,←hgA];exact World.alloc_heap_new ws _
      obtain⟨Vp,J,Vb,Vq,Ve⟩:=lH5 (Vp.out.kept kk) (J.out.trans kk) hqa hha hqa.lt;try rw[hw]
      try rw[hgA]
      clear hw kk hqa hha hgA;have hHeldE1:=HS.out _ J.out;refine rd1 0 fun K9 Ky=>?_;go_simp;refine(XJ ⟨#[97]⟩ 10 (by decide:(-9223372036854775808:Int)≤10∧(10:Int)≤9223372036854775807) (by decide:(1:Nat)≤maxLen) _).mono ?_;rintro e wp ⟨p1,q1,r1,rfl,ha,kk⟩;obtain⟨Vp,Vb,J,Vq,Ve,Vl⟩:=lH6 (Vp.out.kept kk) (Vb.out.kept kk) (J.out.trans kk) ((kk.block _ Ve.out).trans Vq.out) (Nat.lt_of_lt_of_le Ve.out kk.size) ha;clear ha kk;refine Ky.out _ _ (HS.out _ J.out) (fun _=>?_);clear Ky K9;try simp only[nP]
      refine rd1 1 fun K9 Ky=>?_;go_simp;refine Ky.out _ _ (HS.out _ (J.out.trans (ja _ _))) (fun _=>?_);clear Ky K9;try simp only[nP]
      obtain⟨wb,hw⟩:=eX (wp.alloc (.cells #[.string ⟨#[97]⟩,.slice p1 q1 r1,.slice none 0 0,.slice none 0 0,.bool false] 57))
      have kk:Kept wp wb:=by rw[←hw];exact ja _ _
      obtain⟨gB,hgB⟩:=eX (wp.heap.size)
      have Vi:=lH (show jo wb (some ⟨gB,0,none⟩) 1 sdS.nodes from by
       have c:=jc wp (.string ⟨#[97]⟩) [.slice p1 q1 r1,.slice none 0 0,.slice none 0 0,.bool false] 57 wb (by rw[hw];exact Kept.refl _);rw[hgB] at c;exact zS (lx:=[(YV ⟨#[97]⟩ 10,(p1,q1,r1),(none,0,0),(none,0,0))]) (j0 rfl c (fun _ _=>trivial) (by decide:(1:Nat)≤maxLen)) (fun z hz=>by
        obtain rfl:=List.mem_singleton.1 hz;exact Vl.out.kept kk))
      obtain⟨Vl,Vp,Vb,J,Vq,Ve,Vx⟩:=lH7 (Vl.out.kept kk) (Vp.out.kept kk) (Vb.out.kept kk) (J.out.trans kk) ((kk.block _ Ve.out).trans Vq.out) (Nat.lt_of_lt_of_le Ve.out kk.size) Vi.out;try rw[hw]
      try rw[hgB]
      clear hw kk Vi hgB Vl;have hHeldE3:=HS.out _ J.out;refine tkI 6 ?_;try simp only[nP]
      have z0:=Vb.out.at_ 0 _ rfl;have z1:=Vb.out.at_ 1 _ rfl;have z2:=Vb.out.at_ 2 _ rfl;have f0:=Vb.out.free 0;have f1:=Vb.out.free 1;have f2:=Vb.out.free 2;have PP:=lH (j5 (vs:=[.slice (some ⟨gB,0,none⟩) 1 1,.slice (some ⟨gS,0,none⟩) 3 3,.slice none 0 0]) Vb.out rfl);refine rd1 8 fun K9 Ky=>?_;go_simp;obtain⟨WE,hWE⟩:=eX (wb.setCells gA 0 [.slice (some ⟨gB,0,none⟩) 1 1,.slice (some ⟨gS,0,none⟩) 3 3,.slice none 0 0])
      have hWE2:(((wb.setCell ⟨gA,0,none⟩ (.slice (some ⟨gB,0,none⟩) 1 1)).setCell ⟨gA,1,none⟩ (.slice (some ⟨gS,0,none⟩) 3 3)).setCell ⟨gA,2,none⟩ (.slice none 0 0))=WE:=hWE;rw[hWE] at PP;try rw[hWE2]
      have RE:=lH (show jC WE (.agg #[.slice (some ⟨gB,0,none⟩) 1 1,.slice (some ⟨gS,0,none⟩) 3 3,.slice none 0 0]) sdS from zU (w:=wb) (N:=gA) PP.out.size PP.out.far (J7 Vq.out) ⟨_,_,_,rfl,⟨⟨_,_,rfl,by decide,by decide,Vx.out⟩,⟨_,_,rfl,by decide,by decide,Vp.out⟩,⟨_,_,rfl,by decide,by decide,zT _⟩⟩⟩);have JE:=lH (show Kept v7 WE by rw[←hWE];exact jt gA _ _ _ _ _ Vt.out J.out);clear hWE hWE2 z0 f0 z1 f1 z2 f2;refine Ky.out _ _ (HS.out _ JE.out) (fun _=>?_);clear Ky K9;try simp only[nP]
      refine wpAnyH_done (by kernel_rfl) ?_ _;go_wp2;go_meet
      case rel=>exact⟨gA,gB,gS,rfl,PP.out.cells,RE.out,JE.out⟩
  · go_simp;refine Ky.out _ _ (HS.out _ (J.out.trans (ja _ _))) (fun _=>?_);clear Ky K9;try simp only[nP]
    obtain⟨wa,hw⟩:=eX (wq.alloc (.cells #[.slice none 0 0,.slice none 0 0,.slice none 0 0] 26))
    have kk:Kept wq wa:=by rw[←hw];exact ja _ _
    obtain⟨gA,hgA⟩:=eX (wq.heap.size)
    have Vt:=lH (show v7.heap.size≤gA by rw[←hgA];exact J.out.size);have hqa:jf gA [.slice none 0 0,.slice none 0 0,.slice none 0 0] wa:=by
     have c:=jc wq (.slice none 0 0) [.slice none 0 0,.slice none 0 0] 26 wa (by rw[hw];exact Kept.refl _);rw[hgA] at c;exact c
    have hha:wa.heap[gA]?=some (.cells #[.slice none 0 0,.slice none 0 0,.slice none 0 0] 26):=by rw[←hw,←hgA];exact World.alloc_heap_new wq _
    obtain⟨H1,H2,H3,J,Vb,Vq,Ve⟩:=lH7 (ji.kept H1.out kk) (ji.kept H2.out kk) (ji.kept H3.out kk) (J.out.trans kk) hqa hha hqa.lt;try rw[hw]
    try rw[hgA]
    clear hw kk hqa hha hgA;have hHeldE0:=HS.out _ J.out;refine rdH (rs:=[0,5]) (h:=coH (fun K9 Ky=>?_) (coH (fun K9 Ky=>?_) AllReadyH.nil))
    · go_simp;refine(XJ ⟨#[97]⟩ 10 (by decide:(-9223372036854775808:Int)≤10∧(10:Int)≤9223372036854775807) (by decide:(1:Nat)≤maxLen) _).mono ?_;rintro e wp ⟨p1,q1,r1,rfl,ha,kk⟩;obtain⟨H1,H2,H3,Vb,J,Vq,Ve,Vl⟩:=lH8 (ji.kept H1.out kk) (ji.kept H2.out kk) (ji.kept H3.out kk) (Vb.out.kept kk) (J.out.trans kk) ((kk.block _ Ve.out).trans Vq.out) (Nat.lt_of_lt_of_le Ve.out kk.size) ha;clear ha kk;refine Ky.out _ _ (HS.out _ J.out) (fun _=>?_);clear Ky K9;try simp only[nP]
      refine rdH (rs:=[1,5]) (h:=coH (fun K9 Ky=>?_) (coH (fun K9 Ky=>?_) AllReadyH.nil))
      · go_simp;refine Ky.out _ _ (HS.out _ (J.out.trans (ja _ _))) (fun _=>?_);clear Ky K9;try simp only[nP]
        obtain⟨wb,hw⟩:=eX (wp.alloc (.cells #[.string ⟨#[97]⟩,.slice p1 q1 r1,.slice none 0 0,.slice none 0 0,.bool false] 57))
        have kk:Kept wp wb:=by rw[←hw];exact ja _ _
        obtain⟨gB,hgB⟩:=eX (wp.heap.size)
        have Vi:=lH (show jo wb (some ⟨gB,0,none⟩) 1 sdS.nodes from by
         have c:=jc wp (.string ⟨#[97]⟩) [.slice p1 q1 r1,.slice none 0 0,.slice none 0 0,.bool false] 57 wb (by rw[hw];exact Kept.refl _);rw[hgB] at c;exact zS (lx:=[(YV ⟨#[97]⟩ 10,(p1,q1,r1),(none,0,0),(none,0,0))]) (j0 rfl c (fun _ _=>trivial) (by decide:(1:Nat)≤maxLen)) (fun z hz=>by
          obtain rfl:=List.mem_singleton.1 hz;exact Vl.out.kept kk))
        obtain⟨H1,H2,H3,Vl,Vb,J,Vq,Ve⟩:=lH8 (ji.kept H1.out kk) (ji.kept H2.out kk) (ji.kept H3.out kk) (Vl.out.kept kk) (Vb.out.kept kk) (J.out.trans kk) ((kk.block _ Ve.out).trans Vq.out) (Nat.lt_of_lt_of_le Ve.out kk.size);have Vx:=lH Vi.out;try rw[hw]
        try rw[hgB]
        clear hw kk Vi hgB Vl;have hHeldE2:=HS.out _ J.out;refine rd1 5 fun K9 Ky=>?_;go_simp;refine Ky.out _ _ (HS.out _ (J.out.trans (ja _ _))) (fun _=>?_);clear Ky K9;try simp only[nP]
        obtain⟨ws,hw⟩:=eX (wb.alloc (.cells #[.string ⟨#[120]⟩,.string ⟨#[]⟩,.int .i64 0,.slice b1 n1 d1,.slice none 0 0,.slice none 0 0,.slice none 0 0,.string ⟨#[]⟩,.int .i64 0,.string ⟨#[]⟩,.bool false,.string ⟨#[121]⟩,.string ⟨#[]⟩,.int .i64 5,.slice b2 n2 d2,.slice none 0 0,.slice none 0 0,.slice none 0 0,.string ⟨#[]⟩,.int .i64 0,.string ⟨#[]⟩,.bool false,.string ⟨#[122]⟩,.string ⟨#[]⟩,.int .i64 0,.slice b3 n3 d3,.slice none 0 0,.slice none 0 0,.slice none 0 0,.string ⟨#[]⟩,.int .i64 0,.string ⟨#[]⟩,.bool false] 44))
        have kk:Kept wb ws:=by rw[←hw];exact ja _ _
        obtain⟨gS,hgS⟩:=eX (wb.heap.size)
        have Vs:=lH (show jy ws (some ⟨gS,0,none⟩) 3 sdS.pods from by
         have c:=jc wb (.string ⟨#[120]⟩) [.string ⟨#[]⟩,.int .i64 0,.slice b1 n1 d1,.slice none 0 0,.slice none 0 0,.slice none 0 0,.string ⟨#[]⟩,.int .i64 0,.string ⟨#[]⟩,.bool false,.string ⟨#[121]⟩,.string ⟨#[]⟩,.int .i64 5,.slice b2 n2 d2,.slice none 0 0,.slice none 0 0,.slice none 0 0,.string ⟨#[]⟩,.int .i64 0,.string ⟨#[]⟩,.bool false,.string ⟨#[122]⟩,.string ⟨#[]⟩,.int .i64 0,.slice b3 n3 d3,.slice none 0 0,.slice none 0 0,.slice none 0 0,.string ⟨#[]⟩,.int .i64 0,.string ⟨#[]⟩,.bool false] 44 ws (by rw[hw];exact Kept.refl _);rw[hgS] at c;exact Zi (lx:=[(sdX,(b1,n1,d1),(none,0,0),(none,0,0),(none,0,0)),(sdY,(b2,n2,d2),(none,0,0),(none,0,0),(none,0,0)),(sdZ,(b3,n3,d3),(none,0,0),(none,0,0),(none,0,0))]) (j0 rfl c (fun _ _=>trivial) (by decide:(3:Nat)≤maxLen)) (fun z hz=>by
          rcases List.mem_cons.1 hz with rfl | hz
          · exact ji.kept H1.out kk
          rcases List.mem_cons.1 hz with rfl | hz
          · exact ji.kept H2.out kk
          obtain rfl:=List.mem_singleton.1 hz;exact ji.kept H3.out kk))
        obtain⟨Vx,Vb,J,Vq,Ve,Vp⟩:=lH6 (Vx.out.kept kk) (Vb.out.kept kk) (J.out.trans kk) ((kk.block _ Ve.out).trans Vq.out) (Nat.lt_of_lt_of_le Ve.out kk.size) Vs.out;try rw[hw]
        try rw[hgS]
        clear hw kk Vs hgS H1 H2 H3;have hHeldE3:=HS.out _ J.out;refine tkI 6 ?_;try simp only[nP]
        have z0:=Vb.out.at_ 0 _ rfl;have z1:=Vb.out.at_ 1 _ rfl;have z2:=Vb.out.at_ 2 _ rfl;have f0:=Vb.out.free 0;have f1:=Vb.out.free 1;have f2:=Vb.out.free 2;have PP:=lH (j5 (vs:=[.slice (some ⟨gB,0,none⟩) 1 1,.slice (some ⟨gS,0,none⟩) 3 3,.slice none 0 0]) Vb.out rfl);refine rd1 8 fun K9 Ky=>?_;go_simp;obtain⟨WE,hWE⟩:=eX (ws.setCells gA 0 [.slice (some ⟨gB,0,none⟩) 1 1,.slice (some ⟨gS,0,none⟩) 3 3,.slice none 0 0])
        have hWE2:(((ws.setCell ⟨gA,0,none⟩ (.slice (some ⟨gB,0,none⟩) 1 1)).setCell ⟨gA,1,none⟩ (.slice (some ⟨gS,0,none⟩) 3 3)).setCell ⟨gA,2,none⟩ (.slice none 0 0))=WE:=hWE;rw[hWE] at PP;try rw[hWE2]
        have RE:=lH (show jC WE (.agg #[.slice (some ⟨gB,0,none⟩) 1 1,.slice (some ⟨gS,0,none⟩) 3 3,.slice none 0 0]) sdS from zU (w:=ws) (N:=gA) PP.out.size PP.out.far (J7 Vq.out) ⟨_,_,_,rfl,⟨⟨_,_,rfl,by decide,by decide,Vx.out⟩,⟨_,_,rfl,by decide,by decide,Vp.out⟩,⟨_,_,rfl,by decide,by decide,zT _⟩⟩⟩);have JE:=lH (show Kept v7 WE by rw[←hWE];exact jt gA _ _ _ _ _ Vt.out J.out);clear hWE hWE2 z0 f0 z1 f1 z2 f2;refine Ky.out _ _ (HS.out _ JE.out) (fun _=>?_);clear Ky K9;try simp only[nP]
        refine wpAnyH_done (by kernel_rfl) ?_ _;go_wp2;go_meet
        case rel=>exact⟨gA,gB,gS,rfl,PP.out.cells,RE.out,JE.out⟩
      · go_simp;refine Ky.out _ _ (HS.out _ (J.out.trans (ja _ _))) (fun _=>?_);clear Ky K9;try simp only[nP]
        obtain⟨ws,hw⟩:=eX (wp.alloc (.cells #[.string ⟨#[120]⟩,.string ⟨#[]⟩,.int .i64 0,.slice b1 n1 d1,.slice none 0 0,.slice none 0 0,.slice none 0 0,.string ⟨#[]⟩,.int .i64 0,.string ⟨#[]⟩,.bool false,.string ⟨#[121]⟩,.string ⟨#[]⟩,.int .i64 5,.slice b2 n2 d2,.slice none 0 0,.slice none 0 0,.slice none 0 0,.string ⟨#[]⟩,.int .i64 0,.string ⟨#[]⟩,.bool false,.string ⟨#[122]⟩,.string ⟨#[]⟩,.int .i64 0,.slice b3 n3 d3,.slice none 0 0,.slice none 0 0,.slice none 0 0,.string ⟨#[]⟩,.int .i64 0,.string ⟨#[]⟩,.bool false] 44))
        have kk:Kept wp ws:=by rw[←hw];exact ja _ _
        obtain⟨gS,hgS⟩:=eX (wp.heap.size)
        have Vs:=lH (show jy ws (some ⟨gS,0,none⟩) 3 sdS.pods from by
         have c:=jc wp (.string ⟨#[120]⟩) [.string ⟨#[]⟩,.int .i64 0,.slice b1 n1 d1,.slice none 0 0,.slice none 0 0,.slice none 0 0,.string ⟨#[]⟩,.int .i64 0,.string ⟨#[]⟩,.bool false,.string ⟨#[121]⟩,.string ⟨#[]⟩,.int .i64 5,.slice b2 n2 d2,.slice none 0 0,.slice none 0 0,.slice none 0 0,.string ⟨#[]⟩,.int .i64 0,.string ⟨#[]⟩,.bool false,.string ⟨#[122]⟩,.string ⟨#[]⟩,.int .i64 0,.slice b3 n3 d3,.slice none 0 0,.slice none 0 0,.slice none 0 0,.string ⟨#[]⟩,.int .i64 0,.string ⟨#[]⟩,.bool false] 44 ws (by rw[hw];exact Kept.refl _);rw[hgS] at c;exact Zi (lx:=[(sdX,(b1,n1,d1),(none,0,0),(none,0,0),(none,0,0)),(sdY,(b2,n2,d2),(none,0,0),(none,0,0),(none,0,0)),(sdZ,(b3,n3,d3),(none,0,0),(none,0,0),(none,0,0))]) (j0 rfl c (fun _ _=>trivial) (by decide:(3:Nat)≤maxLen)) (fun z hz=>by
          rcases List.mem_cons.1 hz with rfl | hz
          · exact ji.kept H1.out kk
          rcases List.mem_cons.1 hz with rfl | hz
          · exact ji.kept H2.out kk
          obtain rfl:=List.mem_singleton.1 hz;exact ji.kept H3.out kk))
        obtain⟨Vl,Vb,J,Vq,Ve,Vp⟩:=lH6 (Vl.out.kept kk) (Vb.out.kept kk) (J.out.trans kk) ((kk.block _ Ve.out).trans Vq.out) (Nat.lt_of_lt_of_le Ve.out kk.size) Vs.out;try rw[hw]
        try rw[hgS]
        clear hw kk Vs hgS H1 H2 H3;have hHeldE2:=HS.out _ J.out;refine rd1 1 fun K9 Ky=>?_;go_simp;refine Ky.out _ _ (HS.out _ (J.out.trans (ja _ _))) (fun _=>?_);clear Ky K9;try simp only[nP]
        obtain⟨wb,hw⟩:=eX (ws.alloc (.cells #[.string ⟨#[97]⟩,.slice p1 q1 r1,.slice none 0 0,.slice none 0 0,.bool false] 57))
        have kk:Kept ws wb:=by rw[←hw];exact ja _ _
        obtain⟨gB,hgB⟩:=eX (ws.heap.size)
        have Vi:=lH (show jo wb (some ⟨gB,0,none⟩) 1 sdS.nodes from by
         have c:=jc ws (.string ⟨#[97]⟩) [.slice p1 q1 r1,.slice none 0 0,.slice none 0 0,.bool false] 57 wb (by rw[hw];exact Kept.refl _);rw[hgB] at c;exact zS (lx:=[(YV ⟨#[97]⟩ 10,(p1,q1,r1),(none,0,0),(none,0,0))]) (j0 rfl c (fun _ _=>trivial) (by decide:(1:Nat)≤maxLen)) (fun z hz=>by
          obtain rfl:=List.mem_singleton.1 hz;exact Vl.out.kept kk))
        obtain⟨Vl,Vp,Vb,J,Vq,Ve,Vx⟩:=lH7 (Vl.out.kept kk) (Vp.out.kept kk) (Vb.out.kept kk) (J.out.trans kk) ((kk.block _ Ve.out).trans Vq.out) (Nat.lt_of_lt_of_le Ve.out kk.size) Vi.out;try rw[hw]
        try rw[hgB]
        clear hw kk Vi hgB Vl;have hHeldE3:=HS.out _ J.out;refine tkI 6 ?_;try simp only[nP]
        have z0:=Vb.out.at_ 0 _ rfl;have z1:=Vb.out.at_ 1 _ rfl;have z2:=Vb.out.at_ 2 _ rfl;have f0:=Vb.out.free 0;have f1:=Vb.out.free 1;have f2:=Vb.out.free 2;have PP:=lH (j5 (vs:=[.slice (some ⟨gB,0,none⟩) 1 1,.slice (some ⟨gS,0,none⟩) 3 3,.slice none 0 0]) Vb.out rfl);refine rd1 8 fun K9 Ky=>?_;go_simp;obtain⟨WE,hWE⟩:=eX (wb.setCells gA 0 [.slice (some ⟨gB,0,none⟩) 1 1,.slice (some ⟨gS,0,none⟩) 3 3,.slice none 0 0])
        have hWE2:(((wb.setCell ⟨gA,0,none⟩ (.slice (some ⟨gB,0,none⟩) 1 1)).setCell ⟨gA,1,none⟩ (.slice (some ⟨gS,0,none⟩) 3 3)).setCell ⟨gA,2,none⟩ (.slice none 0 0))=WE:=hWE;rw[hWE] at PP;try rw[hWE2]
        have RE:=lH (show jC WE (.agg #[.slice (some ⟨gB,0,none⟩) 1 1,.slice (some ⟨gS,0,none⟩) 3 3,.slice none 0 0]) sdS from zU (w:=wb) (N:=gA) PP.out.size PP.out.far (J7 Vq.out) ⟨_,_,_,rfl,⟨⟨_,_,rfl,by decide,by decide,Vx.out⟩,⟨_,_,rfl,by decide,by decide,Vp.out⟩,⟨_,_,rfl,by decide,by decide,zT _⟩⟩⟩);have JE:=lH (show Kept v7 WE by rw[←hWE];exact jt gA _ _ _ _ _ Vt.out J.out);clear hWE hWE2 z0 f0 z1 f1 z2 f2;refine Ky.out _ _ (HS.out _ JE.out) (fun _=>?_);clear Ky K9;try simp only[nP]
        refine wpAnyH_done (by kernel_rfl) ?_ _;go_wp2;go_meet
        case rel=>exact⟨gA,gB,gS,rfl,PP.out.cells,RE.out,JE.out⟩
    · go_simp;refine Ky.out _ _ (HS.out _ (J.out.trans (ja _ _))) (fun _=>?_);clear Ky K9;try simp only[nP]
      obtain⟨ws,hw⟩:=eX (wa.alloc (.cells #[.string ⟨#[120]⟩,.string ⟨#[]⟩,.int .i64 0,.slice b1 n1 d1,.slice none 0 0,.slice none 0 0,.slice none 0 0,.string ⟨#[]⟩,.int .i64 0,.string ⟨#[]⟩,.bool false,.string ⟨#[121]⟩,.string ⟨#[]⟩,.int .i64 5,.slice b2 n2 d2,.slice none 0 0,.slice none 0 0,.slice none 0 0,.string ⟨#[]⟩,.int .i64 0,.string ⟨#[]⟩,.bool false,.string ⟨#[122]⟩,.string ⟨#[]⟩,.int .i64 0,.slice b3 n3 d3,.slice none 0 0,.slice none 0 0,.slice none 0 0,.string ⟨#[]⟩,.int .i64 0,.string ⟨#[]⟩,.bool false] 44))
      have kk:Kept wa ws:=by rw[←hw];exact ja _ _
      obtain⟨gS,hgS⟩:=eX (wa.heap.size)
      have Vs:=lH (show jy ws (some ⟨gS,0,none⟩) 3 sdS.pods from by
       have c:=jc wa (.string ⟨#[120]⟩) [.string ⟨#[]⟩,.int .i64 0,.slice b1 n1 d1,.slice none 0 0,.slice none 0 0,.slice none 0 0,.string ⟨#[]⟩,.int .i64 0,.string ⟨#[]⟩,.bool false,.string ⟨#[121]⟩,.string ⟨#[]⟩,.int .i64 5,.slice b2 n2 d2,.slice none 0 0,.slice none 0 0,.slice none 0 0,.string ⟨#[]⟩,.int .i64 0,.string ⟨#[]⟩,.bool false,.string ⟨#[122]⟩,.string ⟨#[]⟩,.int .i64 0,.slice b3 n3 d3,.slice none 0 0,.slice none 0 0,.slice none 0 0,.string ⟨#[]⟩,.int .i64 0,.string ⟨#[]⟩,.bool false] 44 ws (by rw[hw];exact Kept.refl _);rw[hgS] at c;exact Zi (lx:=[(sdX,(b1,n1,d1),(none,0,0),(none,0,0),(none,0,0)),(sdY,(b2,n2,d2),(none,0,0),(none,0,0),(none,0,0)),(sdZ,(b3,n3,d3),(none,0,0),(none,0,0),(none,0,0))]) (j0 rfl c (fun _ _=>trivial) (by decide:(3:Nat)≤maxLen)) (fun z hz=>by
        rcases List.mem_cons.1 hz with rfl | hz
        · exact ji.kept H1.out kk
        rcases List.mem_cons.1 hz with rfl | hz
        · exact ji.kept H2.out kk
        obtain rfl:=List.mem_singleton.1 hz;exact ji.kept H3.out kk))
      obtain⟨Vb,J,Vq,Ve,Vp⟩:=lH5 (Vb.out.kept kk) (J.out.trans kk) ((kk.block _ Ve.out).trans Vq.out) (Nat.lt_of_lt_of_le Ve.out kk.size) Vs.out;try rw[hw]
      try rw[hgS]
      clear hw kk Vs hgS H1 H2 H3;have hHeldE1:=HS.out _ J.out;refine rd1 0 fun K9 Ky=>?_;go_simp;refine(XJ ⟨#[97]⟩ 10 (by decide:(-9223372036854775808:Int)≤10∧(10:Int)≤9223372036854775807) (by decide:(1:Nat)≤maxLen) _).mono ?_;rintro e wp ⟨p1,q1,r1,rfl,ha,kk⟩;obtain⟨Vp,Vb,J,Vq,Ve,Vl⟩:=lH6 (Vp.out.kept kk) (Vb.out.kept kk) (J.out.trans kk) ((kk.block _ Ve.out).trans Vq.out) (Nat.lt_of_lt_of_le Ve.out kk.size) ha;clear ha kk;refine Ky.out _ _ (HS.out _ J.out) (fun _=>?_);clear Ky K9;try simp only[nP]
      refine rd1 1 fun K9 Ky=>?_;go_simp;refine Ky.out _ _ (HS.out _ (J.out.trans (ja _ _))) (fun _=>?_);clear Ky K9;try simp only[nP]
      obtain⟨wb,hw⟩:=eX (wp.alloc (.cells #[.string ⟨#[97]⟩,.slice p1 q1 r1,.slice none 0 0,.slice none 0 0,.bool false] 57))
      have kk:Kept wp wb:=by rw[←hw];exact ja _ _
      obtain⟨gB,hgB⟩:=eX (wp.heap.size)
      have Vi:=lH (show jo wb (some ⟨gB,0,none⟩) 1 sdS.nodes from by
       have c:=jc wp (.string ⟨#[97]⟩) [.slice p1 q1 r1,.slice none 0 0,.slice none 0 0,.bool false] 57 wb (by rw[hw];exact Kept.refl _);rw[hgB] at c;exact zS (lx:=[(YV ⟨#[97]⟩ 10,(p1,q1,r1),(none,0,0),(none,0,0))]) (j0 rfl c (fun _ _=>trivial) (by decide:(1:Nat)≤maxLen)) (fun z hz=>by
        obtain rfl:=List.mem_singleton.1 hz;exact Vl.out.kept kk))
      obtain⟨Vl,Vp,Vb,J,Vq,Ve,Vx⟩:=lH7 (Vl.out.kept kk) (Vp.out.kept kk) (Vb.out.kept kk) (J.out.trans kk) ((kk.block _ Ve.out).trans Vq.out) (Nat.lt_of_lt_of_le Ve.out kk.size) Vi.out;try rw[hw]
      try rw[hgB]
      clear hw kk Vi hgB Vl;have hHeldE3:=HS.out _ J.out;refine tkI 6 ?_;try simp only[nP]
      have z0:=Vb.out.at_ 0 _ rfl;have z1:=Vb.out.at_ 1 _ rfl;have z2:=Vb.out.at_ 2 _ rfl;have f0:=Vb.out.free 0;have f1:=Vb.out.free 1;have f2:=Vb.out.free 2;have PP:=lH (j5 (vs:=[.slice (some ⟨gB,0,none⟩) 1 1,.slice (some ⟨gS,0,none⟩) 3 3,.slice none 0 0]) Vb.out rfl);refine rd1 8 fun K9 Ky=>?_;go_simp;obtain⟨WE,hWE⟩:=eX (wb.setCells gA 0 [.slice (some ⟨gB,0,none⟩) 1 1,.slice (some ⟨gS,0,none⟩) 3 3,.slice none 0 0])
      have hWE2:(((wb.setCell ⟨gA,0,none⟩ (.slice (some ⟨gB,0,none⟩) 1 1)).setCell ⟨gA,1,none⟩ (.slice (some ⟨gS,0,none⟩) 3 3)).setCell ⟨gA,2,none⟩ (.slice none 0 0))=WE:=hWE;rw[hWE] at PP;try rw[hWE2]
      have RE:=lH (show jC WE (.agg #[.slice (some ⟨gB,0,none⟩) 1 1,.slice (some ⟨gS,0,none⟩) 3 3,.slice none 0 0]) sdS from zU (w:=wb) (N:=gA) PP.out.size PP.out.far (J7 Vq.out) ⟨_,_,_,rfl,⟨⟨_,_,rfl,by decide,by decide,Vx.out⟩,⟨_,_,rfl,by decide,by decide,Vp.out⟩,⟨_,_,rfl,by decide,by decide,zT _⟩⟩⟩);have JE:=lH (show Kept v7 WE by rw[←hWE];exact jt gA _ _ _ _ _ Vt.out J.out);clear hWE hWE2 z0 f0 z1 f1 z2 f2;refine Ky.out _ _ (HS.out _ JE.out) (fun _=>?_);clear Ky K9;try simp only[nP]
      refine wpAnyH_done (by kernel_rfl) ?_ _;go_wp2;go_meet
      case rel=>exact⟨gA,gB,gS,rfl,PP.out.cells,RE.out,JE.out⟩
 case rest =>
  obtain⟨gs,x1,x2,rfl,hh⟩:=hcut;obtain⟨HQ,HC,K⟩:=lH3 hh.out.1 hh.out.2.1 (K.out.trans hh.out.2.2);clear hh HS H1 H2 H3 C1 C2 C3 UA K0 e12 e13 e21 e23 e31 e32;obtain⟨W0,hW0⟩:∃W,W=wc:=⟨_,rfl⟩
  subst hW0;have NU:=lH (jna HC.out);have KW:=lH (Kept.refl W0);obtain⟨y0,y1,y2⟩:=HQ.out.at3;go_wp2_with fail
  refine(jac HC.out YQ jc9).mono ?_;rintro e y1w ⟨vl,rfl,⟨la,lc,rfl,-,-,hrow⟩,kk⟩;rw[jiT] at hrow ⊢;obtain⟨HR,HQ,HC,KW⟩:=lH4 (show jy y1w la 3 [sdY,sdX,sdZ] from hrow) (HQ.out.kept kk) (HC.out.kept kk) (KW.out.trans kk);clear kk hrow y0 y1 y2;have HN:=lH (jck (some ⟨x1,0,none⟩) (some ⟨x2,0,none⟩) none 1 1 3 3 0 0 false sdS y1w HC.out YQ jc9 (by decide:(4:Nat)≤100000));unfold jcj at HN;rw[jnS] at HN;have HN:=lH (show Calls Tryz.prog 9 #[.agg #[.slice (some ⟨x1,0,none⟩) 1 1,.slice (some ⟨x2,0,none⟩) 3 3,.slice none 0 0],.bool false] y1w (fun e w'=>e=.returned (.tuple #[.agg #[.string ⟨#[121]⟩,.string ⟨#[97]⟩],.bool true])∧Kept y1w w') from HN.out);obtain⟨y0,y1,y2⟩:=HQ.out.at3;go_wp2_with fail
  refine HN.out.mono ?_;rintro e y2w ⟨rfl,kk⟩;obtain⟨HQ,HC,HR,KW⟩:=lH4 (HQ.out.kept kk) (HC.out.kept kk) (HR.out.kept kk) (KW.out.trans kk);clear kk HN y0 y1 y2;obtain⟨gb,hgb⟩:=eX (y2w.heap.size)
  obtain⟨y3w,hy3⟩:=eX (y2w.alloc (.cells #[.string ⟨#[121]⟩,.string ⟨#[97]⟩] 31))
  have kk:Kept y2w y3w:=by rw[←hy3];exact ja _ _
  have Vh:=lH (show jf gb [.string ⟨#[121]⟩,.string ⟨#[97]⟩] y3w by
   have c:=jc y2w (.string ⟨#[121]⟩) [.string ⟨#[97]⟩] 31 y3w (by rw[hy3];exact Kept.refl _);rw[hgb] at c;exact c)
  obtain⟨HQ,HC,HR,KW⟩:=lH4 (HQ.out.kept kk) (HC.out.kept kk) (HR.out.kept kk) (KW.out.trans kk);clear kk;obtain⟨y0,y1,y2⟩:=HQ.out.at3;have HA:=lH (jhp (some ⟨x1,0,none⟩) (some ⟨x2,0,none⟩) none 1 1 3 3 0 0 true sdS y3w HC.out NU.out);go_wp2_with fail
  try rw[hy3]
  try rw[hgb]
  go_wp2_with fail
  try rw[hy3]
  try rw[hgb]
  clear hy3 hgb;refine HA.out.mono ?_;rintro e y4w ⟨vt,vm,rfl,hct,hm,kk⟩;rw[sdG] at hct;rw[sdB] at hm;obtain⟨t1,m1,k1,t2,m2,k2,t3,m3,k3,rfl⟩:=qI hct;obtain⟨ma,mc,rfl,-,-,hmr⟩:=hm;obtain⟨VX,Tj,HQ,HC,HR,Vh,KW⟩:=lH7 (show jk jz y4w ma 2 _ from hmr) hct (HQ.out.kept kk) (HC.out.kept kk) (HR.out.kept kk) (Vh.out.kept kk) (KW.out.trans kk);clear kk hct hmr HA y0 y1 y2;obtain⟨gt,hgt⟩:=eX (y4w.heap.size)
  obtain⟨y5w,hy5⟩:=eX (y4w.alloc (.cells #[.slice t1 m1 k1,.slice t2 m2 k2,.slice t3 m3 k3] 26))
  have kk:Kept y4w y5w:=by rw[←hy5];exact ja _ _
  have VT:=lH (show jf gt [.slice t1 m1 k1,.slice t2 m2 k2,.slice t3 m3 k3] y5w by
   have c:=jc y4w (.slice t1 m1 k1) [.slice t2 m2 k2,.slice t3 m3 k3] 26 y5w (by rw[hy5];exact Kept.refl _);rw[hgt] at c;exact c)
  obtain⟨HQ,HC,HR,Vh,VX,Tj,KW⟩:=lH7 (HQ.out.kept kk) (HC.out.kept kk) (HR.out.kept kk) (Vh.out.kept kk) (VX.out.kept kk) (Tj.out.kept kk) (KW.out.trans kk);clear kk;obtain⟨lb,lo,rfl⟩:=HR.out.form.resolve_left (by decide);obtain⟨mb,mo,rfl⟩:=VX.out.form.resolve_left (by decide);have ey:(((⟨#[121]⟩:ByteArray).toList==(⟨#[121]⟩:ByteArray).toList))=true:=by simp
  have ex:(((⟨#[120]⟩:ByteArray).toList==(⟨#[120]⟩:ByteArray).toList))=true:=by simp
  have ea:(((⟨#[97]⟩:ByteArray).toList==(⟨#[97]⟩:ByteArray).toList))=true:=by simp
  have ez:(((⟨#[122]⟩:ByteArray).toList==(⟨#[122]⟩:ByteArray).toList))=true:=by simp
  obtain⟨n0x,-,-,-,-,-,-,-,-,-,-,-,-,hn0,-,-,l0,-,-,-,-,-,-,-,-,-,-,-⟩:=HR.out.at_ (show 0<3 by decide);obtain rfl:=(Option.some.inj (show some sdY=some n0x from hn0))
  obtain⟨q0,r0,hq0,-,-,-,-,c0a,c0b⟩:=VX.out.pair (show 0<2 by decide);obtain⟨rfl,rfl⟩:=Prod.mk.inj (Option.some.inj (show some (⟨#[121]⟩,sdA)=some (q0,r0) from hq0));obtain⟨n1x,-,-,-,-,-,-,-,-,-,-,-,-,hn1,-,-,l1,-,-,-,-,-,-,-,-,-,-,-⟩:=HR.out.at_ (show 1<3 by decide);obtain rfl:=(Option.some.inj (show some sdX=some n1x from hn1))
  obtain⟨q1,r1,hq1,-,-,-,-,c1a,c1b⟩:=VX.out.pair (show 1<2 by decide);obtain⟨rfl,rfl⟩:=Prod.mk.inj (Option.some.inj (show some (⟨#[122]⟩,sdA)=some (q1,r1) from hq1));simp only[Nat.zero_mul,Nat.add_zero,Nat.one_mul] at l0 l1 c0a c1a;replace l0:y5w.cell? ⟨lb,lo,none⟩=some (.string ⟨#[121]⟩):=l0;replace l1:y5w.cell? ⟨lb,lo+11,none⟩=some (.string ⟨#[120]⟩):=l1;replace c0a:y5w.cell? ⟨mb,mo,none⟩=some (.string ⟨#[121]⟩):=c0a;replace c1a:y5w.cell? ⟨mb,mo+2,none⟩=some (.string ⟨#[122]⟩):=c1a;have b0:=Vh.out.at_ 0 _ rfl;have b1:=Vh.out.at_ 1 _ rfl;obtain⟨t0,t1c,t2c⟩:=VT.out.at3;obtain⟨y0,y1,y2⟩:=HQ.out.at3;go_upto_region 7 with fail
  try rw[hy5]
  try rw[hgt]
  clear hy5 hgt;go_wp2_with fail
  refine(jac Tj.out jm6 jmw).mono ?_;rintro e y6w ⟨vp,rfl,⟨pa,pc,rfl,-,-,-⟩,kk⟩;rw[jnY];obtain⟨HQ,HC,HR,Vh,VX,Tj,VT,KW⟩:=lH8 (HQ.out.kept kk) (HC.out.kept kk) (HR.out.kept kk) (Vh.out.kept kk) (VX.out.kept kk) (Tj.out.kept kk) (VT.out.kept kk) (KW.out.trans kk);clear kk l0 l1 c0a c1a b0 b1 t0 t1c t2c y0 y1 y2;obtain⟨y0,y1,y2⟩:=HQ.out.at3;go_wp2_with fail
  refine(jac HC.out YQ jc9).mono ?_;rintro e y7w ⟨vp,rfl,⟨pb,pd,rfl,-,-,-⟩,kk⟩;rw[jiT];obtain⟨HQ,HC,HR,Vh,VX,Tj,VT,KW⟩:=lH8 (HQ.out.kept kk) (HC.out.kept kk) (HR.out.kept kk) (Vh.out.kept kk) (VX.out.kept kk) (Tj.out.kept kk) (VT.out.kept kk) (KW.out.trans kk);clear kk y0 y1 y2;go_wp2;go_ret;exact⟨rfl,K.out.trans KW.out⟩
theorem jni {s:Clu} (h:zN s=0):s.pods.length≤128:=by
 have:=(jcr h).pods;unfold jD at this;split at this
 · cases this
 · omega
theorem ZY {w:World} {a1 a2 a3:Option Addr} {t1 c1 t2 c2 t3 c3:Nat} {s:Clu} (h:jC w (Jg (.slice a1 t1 c1) (.slice a2 t2 c2) (.slice a3 t3 c3)) s):t2=s.pods.length∧jy w a2 t2 s.pods:=by
 obtain⟨v1,v2,v3,e,-,⟨b,cp,rfl,-,-,h2⟩,-⟩:=h;have e1:=congrArg (fun v=>match v with | .agg #[_,.slice a n c,_]=>(a,n,c) | _=>(none,0,0)) e;have e2:(a2,t2,c2)=(b,s.pods.length,cp):=e1;injection e2 with e3 e4;injection e4 with e5 e6;subst e3;subst e5;exact⟨rfl,h2⟩
def jow (q:Nat) (s:Clu) (bs:List (ByteArray×ByteArray)) (k:Nat) (Y wr:World):Prop:=∃a1 t1 c1 a2 t2 c2 a3 t3 c3,jf q [.slice a1 t1 c1,.slice a2 t2 c2,.slice a3 t3 c3] wr∧(Off (fun b=>b=q) wr fun u=>jC u (.agg #[.slice a1 t1 c1,.slice a2 t2 c2,.slice a3 t3 c3]) (goS (bs.take k) s))∧Kept Y wr
theorem SchedSound_walk (v:Value) (s:Clu) (pk:Bool) (w:World) (h:jC w v s):Calls Tryz.prog 4 #[v,.bool pk] w fun e w'=>e=.returned (.bool true)∧Kept w w':=by
 obtain⟨sa1,sl1,sc1,sa2,sl2,sc2,sa3,sl3,sc3,rfl⟩:=qI h;obtain⟨Z,hZ⟩:=eX (w.alloc (.cells #[.slice sa1 sl1 sc1,.slice sa2 sl2 sc2,.slice sa3 sl3 sc3] 26))
 have hkz:Kept w Z:=by rw[←hZ];exact ja _ _
 obtain⟨VZ,HS,K⟩:=lH3 (jc w (.slice sa1 sl1 sc1) [.slice sa2 sl2 sc2,.slice sa3 sl3 sc3] 26 Z (by rw[hZ];exact Kept.refl _)) (h.kept hkz) hkz;clear h hkz;obtain⟨qs,hqs⟩:=eX (w.heap.size)
 rw[hqs] at VZ;go_enter Tryz.func4,Tryz.ntmps4;go_wp2_with fail
 try rw[hZ]
 try rw[hqs]
 clear hZ hqs;refine(jg2 Z).mono ?_;rintro e w1 ⟨rfl,kk⟩;obtain⟨VZ,HS,K⟩:=lH3 (VZ.out.kept kk) (HS.out.kept kk) (K.out.trans kk);clear kk;obtain⟨e1,he1⟩:=eX (ZR s)
 have UE:=lH he1;obtain⟨y0,y1,y2⟩:=VZ.out.at3;go_wp2_with fail
 refine(jnk HS.out he1).mono ?_;rintro e w2 ⟨rfl,kk⟩;obtain⟨VZ,HS,K⟩:=lH3 (VZ.out.kept kk) (HS.out.kept kk) (K.out.trans kk);clear kk he1 y0 y1 y2
 cases e1 with
 | false =>
  go_wp2;go_ret;exact⟨rfl,K.out⟩
 | true =>
  have HW:=lH (show Je s from⟨XV UE.out,jgp UE.out HS.out,(jfr (jmo UE.out)).1,jni (XV UE.out)⟩);have hpb:s.pods.length+1≤100000:=by have:=HW.out.few;omega
  have Vz:=lH hpb;obtain⟨y0,y1,y2⟩:=VZ.out.at3;have HA:=lH (jhp sa1 sa2 sa3 sl1 sc1 sl2 sc2 sl3 sc3 pk s w2 HS.out HW.out);go_wp2_with fail
  refine HA.out.mono ?_;rintro e w3 ⟨vt,vm,rfl,hct,hm,kk⟩;obtain⟨ta1,tl1,tc1,ta2,tl2,tc2,ta3,tl3,tc3,rfl⟩:=qI hct;obtain⟨VZ,HS,K⟩:=lH3 (VZ.out.kept kk) (HS.out.kept kk) (K.out.trans kk);obtain⟨bs,hbs⟩:=eX (JG s pk)
  have Vu:=lH hbs;rw[hbs] at hct hm;obtain⟨ma,mc,rfl,-,-,hmr⟩:=hm;have T5:=lH (show bs.length≤(zD s.pods).length by rw[←hbs];exact qJ _ _ _);obtain⟨bn,hbn⟩:=eX (bs.length)
  rw[hbn] at hmr T5;try rw[hbn]
  have Uk:=lH hbn;have hb9:bn≤128:=Nat.le_trans T5.out (Nat.le_trans (qP _) HW.out.few);obtain⟨T,hT⟩:=eX (goS bs s)
  rw[hT] at hct;obtain⟨TS,VX,HT⟩:=lH3 hT hmr hct;obtain rfl:tl2=sl2:=by rw[(ZY hct).1,(ZY HS.out).1,←hT];exact jm0 _ _
  have hs9:tl2≤128:=by rw[(ZY HS.out).1];exact HW.out.few
  clear kk hct hmr HA y0 y1 y2 hbs hbn hT;obtain⟨gt,hgt⟩:=eX (w3.heap.size)
  obtain⟨w4,hw4⟩:=eX (w3.alloc (.cells #[.slice ta1 tl1 tc1,.slice ta2 tl2 tc2,.slice ta3 tl3 tc3] 26))
  have kk:Kept w3 w4:=by rw[←hw4];exact ja _ _
  have VT:=lH (show jf gt [.slice ta1 tl1 tc1,.slice ta2 tl2 tc2,.slice ta3 tl3 tc3] w4 by
   have c:=jc w3 (.slice ta1 tl1 tc1) [.slice ta2 tl2 tc2,.slice ta3 tl3 tc3] 26 w4 (by rw[hw4];exact Kept.refl _);rw[hgt] at c;exact c)
  obtain⟨VZ,HS,VX,HT,K⟩:=lH5 (VZ.out.kept kk) (HS.out.kept kk) (VX.out.kept kk) (HT.out.kept kk) (K.out.trans kk);clear kk;obtain⟨y0,y1,y2⟩:=VZ.out.at3;go_upto_region 6 with fail
  try rw[hw4]
  try rw[hgt]
  clear hw4 hgt;obtain⟨uq,huq⟩:=eX (w4.heap.size)
  obtain⟨w5,hw5⟩:=eX (w4.alloc (.cells #[.slice sa1 sl1 sc1,.slice sa2 tl2 sc2,.slice sa3 sl3 sc3] 26))
  have K5:=lH (show Kept w4 w5 by rw[←hw5];exact ja _ _);have Nh:=lH (show jf uq [.slice sa1 sl1 sc1,.slice sa2 tl2 sc2,.slice sa3 sl3 sc3] w5 by
   have c:=jc w4 (.slice sa1 sl1 sc1) [.slice sa2 tl2 sc2,.slice sa3 sl3 sc3] 26 w5 (by rw[hw5];exact Kept.refl _);rw[huq] at c;exact c)
  have Ni:=lH huq;go_upto_region 7 with fail
  try rw[hw5]
  try rw[huq]
  clear hw5 huq y0 y1 y2;go_wp2_with fail
  go_loopw [8] (fun iv wr=>∃k:Nat,k≤bn∧iv=.int .i64 k∧jow uq s bs k w4 wr) (fun iv _=>bn-(intOf iv).toNat)
  case atStart=>exact⟨0,Nat.zero_le _,rfl,sa1,sl1,sc1,sa2,tl2,sc2,sa3,sl3,sc3,Nh.out,Off.of (a:=w4) (fun u k=>HS.out.kept k) K5.out (fun i e=>by subst e;exact Nat.le_of_eq Ni.out),K5.out⟩
  case round =>
   obtain⟨k,hk,rfl,hinv⟩:=hrel;obtain⟨a1,t1,c1,a2,t2,c2,a3,t3,c3,hm,hc,hkw⟩:=hinv;obtain⟨HM,HC,Vm⟩:=lH3 hm hc hkw;clear hm hc hkw Nh K5;by_cases hlt:k<bn
   · skip;obtain⟨g,off,rfl⟩:=VX.out.form.resolve_left (by omega);obtain⟨x,t,hbk,-,-,-,hts,d0,d1⟩:=VX.out.pair hlt;obtain⟨T6,TE,U5,RH,Ti⟩:=lH5 hbk hts (show Je (goS (bs.take k) s) by rw[←Vu.out];exact XX HW.out pk (by rw[Vu.out,Uk.out];exact hk)) (show Je (goS (bs.take (k+1)) s) by rw[←Vu.out];exact XX HW.out pk (by rw[Vu.out,Uk.out];exact hlt)) (jb6 (s:=s) hbk);obtain⟨sk,hsk⟩:=eX (goS (bs.take k) s)
     rw[hsk] at U5 HC Ti;obtain⟨sn,hsn⟩:=eX (goS (bs.take (k+1)) s)
     rw[hsn] at RH Ti;have NW:=lH hsn;have Ti:=lH (show zZ sk x t=sn from Ti.out.symm);have hkk:(k:Int)<(bn:Int):=by omega
     have hk0:¬(k:Int)<0:=by omega
     have HF:=lH (show ∀W,Kept w4 W→W.cell? ⟨g,off+k*2,none⟩=some (.string x)∧W.cell? ⟨g,off+k*2+1,none⟩=some (.string t) from fun W q=>⟨cell_later q d0,cell_later q d1⟩);clear hbk hts d0 d1 hsk hsn;go_upto_region 10 with fail
     have J:=lH (Kept.drew wr);refine wp_region_held_drew (S:=fun W=>W.cell? ⟨g,off+k*2,none⟩=some (.string x)∧W.cell? ⟨g,off+k*2+1,none⟩=some (.string t)) (by kernel_rfl) (HF.out _ (Vm.out.trans J.out)) (fun hHeld=>?_);obtain⟨wd,hwd⟩:=eX (wr.drew)
     rw[hwd] at J hHeld;try rw[hwd]
     obtain⟨HM,HC,Vm⟩:=lH3 (HM.out.kept J.out) (HC.out.step (jg.of J.out)) (Vm.out.trans J.out);clear hwd J;refine tkI 1 ?_;refine tkI 2 ?_;refine tkI 3 ?_;refine tkI 4 ?_;refine tkI 5 ?_;refine tkI 6 ?_;refine tkI 7 ?_;refine tkI 8 ?_;refine tkI 9 ?_;refine tkI 10 ?_;try simp only[nP]
     obtain⟨y0,y1,y2⟩:=HM.out.at3;refine rd1 0 fun K9 Ky=>?_;go_simp;refine Ky.out _ _ (HF.out _ Vm.out) (fun _=>?_);clear Ky K9;try simp only[nP]
     clear y0 y1 y2;refine rd1 11 fun K9 Ky=>?_;go_simp;refine(jht HC.out.here x t TE.out U5.out.low).mono ?_;rintro e w6 ⟨u1,v1,x1,u2,v2,x2,u3,v3,x3,rfl,hoc,kk⟩;rw[Ti.out] at hoc;obtain⟨T7,Uh,HM,Vm⟩:=lH4 hoc (show uq<wd.heap.size from HM.out.lt) (HM.out.kept kk) (Vm.out.trans kk);clear kk hoc HC;refine Ky.out _ _ (HF.out _ Vm.out) (fun _=>?_);clear Ky K9;try simp only[nP]
     have z0:=HM.out.at_ 0 _ rfl;have z1:=HM.out.at_ 1 _ rfl;have z2:=HM.out.at_ 2 _ rfl;have f0:=HM.out.free 0;have f1:=HM.out.free 1;have f2:=HM.out.free 2;have P:=lH (j5 (vs:=[.slice u1 v1 x1,.slice u2 v2 x2,.slice u3 v3 x3]) HM.out rfl);have GE:=lH (jg.cells (S:=fun b=>b=uq) uq rfl [.slice u1 v1 x1,.slice u2 v2 x2,.slice u3 v3 x3] 0 w6);refine rd1 12 fun K9 Ky=>?_;go_simp;obtain⟨WE,hWE⟩:=eX (w6.setCells uq 0 [.slice u1 v1 x1,.slice u2 v2 x2,.slice u3 v3 x3])
     have hWE2:(((w6.setCell ⟨uq,0,none⟩ (.slice u1 v1 x1)).setCell ⟨uq,1,none⟩ (.slice u2 v2 x2)).setCell ⟨uq,2,none⟩ (.slice u3 v3 x3))=WE:=hWE;rw[hWE] at P GE;try rw[hWE2]
     have T9:=lH (show Kept w4 WE by rw[←hWE];exact jt uq _ _ _ _ _ (Nat.le_of_eq Ni.out) Vm.out);have Tx:=lH (T7.out.step (GE.out.mono fun b e=>by subst e;exact Uh.out));clear hWE hWE2 z0 z1 z2 f0 f1 f2 HM T7 GE Vm;refine Ky.out _ _ (HF.out _ T9.out) (fun _=>?_);clear Ky K9;try simp only[nP]
     refine wpAnyH_done (by kernel_rfl) ?_ _;clear HF;obtain⟨y0,y1,y2⟩:=P.out.cells.at3;go_wp2_with fail
     refine(jl6 (Tx.out.toR) RH.out.low.nodes RH.out.chk).mono ?_;rintro e w7 ⟨rfl,kk⟩;obtain⟨NY,Tx,T9⟩:=lH3 (P.out.cells.kept kk) (Tx.out.step (jg.of kk)) (T9.out.trans kk);clear kk y0 y1 y2 P;go_wp2;go_roundw
     case rel=>exact⟨k+1,by omega,by go_num,_,_,_,_,_,_,_,_,_,NY.out,(by rw[NW.out];exact fun u g9=>(Tx.out.step (g9.mono fun b e=>by subst e;exact Uh.out)).toR),T9.out⟩
     case measure=>simp[intOf];omega
   · skip;have hkk:¬(k:Int)<(bn:Int):=by omega
     obtain⟨HC,UM,NZ,N4,VH,VZ,HS,VX⟩:=lH8 (show jC wr (.agg #[.slice a1 t1 c1,.slice a2 t2 c2,.slice a3 t3 c3]) T by have h:=HC.out.here;rw[List.take_of_length_le (by have:=Uk.out;omega),TS.out] at h;exact h) (show Je T by rw[←TS.out,←Vu.out];exact jjv HW.out pk) (show nextS T pk=none by rw[←TS.out,←Vu.out];exact jl4 HW.out pk) (show (zD T.pods).length+bn=(zD s.pods).length by rw[←TS.out,←Uk.out,←Vu.out];exact jl1 HW.out pk) (show ∀(j:Nat) (q:Pd),s.pods[j]?=some q→∃q':Pd,T.pods[j]?=some q'∧q'.name=q.name∧(zp q.node=false→q'.node=q.node) from fun j q h=>by have h1:=jkN HW.out pk h (Nat.le_refl _);rw[jdP,Vu.out,TS.out] at h1;exact h1) (VZ.out.kept Vm.out) (HS.out.kept Vm.out) (VX.out.kept Vm.out);obtain⟨HT,VT,K⟩:=lH3 (HT.out.kept Vm.out) (VT.out.kept Vm.out) (K.out.trans Vm.out);clear Vm;obtain⟨pn,hpn⟩:=eX ((zD s.pods).length)
     obtain⟨mn,hmn⟩:=eX ((zD T.pods).length)
     have UI:=lH hpn;have N6:=lH hmn;have hmb:mn+bn=pn:=by rw[←hmn,←hpn];exact N4.out
     have hpb9:pn≤128:=by rw[←hpn];exact Nat.le_trans (qP _) HW.out.few
     have hsub:IntKind.i64.wrap ((pn:Int)-(bn:Int))=(mn:Int):=by rw[IntWalk.i64_in _ (by omega)];omega
     clear hpn hmn;obtain rfl:t2=tl2:=by rw[(ZY HC.out).1,(ZY HT.out).1]
     have HF:=lH (show ∀W,Kept wr W→W.cell? ⟨gt,0,none⟩=some (.slice ta1 tl1 tc1)∧W.cell? ⟨gt,1,none⟩=some (.slice ta2 t2 tc2)∧W.cell? ⟨gt,2,none⟩=some (.slice ta3 tl3 tc3)∧W.cell? ⟨uq,0,none⟩=some (.slice a1 t1 c1)∧W.cell? ⟨uq,1,none⟩=some (.slice a2 t2 c2)∧W.cell? ⟨uq,2,none⟩=some (.slice a3 t3 c3)∧W.cell? ⟨qs,0,none⟩=some (.slice sa1 sl1 sc1)∧W.cell? ⟨qs,1,none⟩=some (.slice sa2 t2 sc2)∧W.cell? ⟨qs,2,none⟩=some (.slice sa3 sl3 sc3) from fun W q=>by
      have h1:=VT.out.kept q;have h2:=HM.out.kept q;have h3:=VZ.out.kept q;exact⟨h1.at_ 0 _ rfl,h1.at_ 1 _ rfl,h1.at_ 2 _ rfl,h2.at_ 0 _ rfl,h2.at_ 1 _ rfl,h2.at_ 2 _ rfl,h3.at_ 0 _ rfl,h3.at_ 1 _ rfl,h3.at_ 2 _ rfl⟩)
     go_upto_region 13 with fail
     have J:=lH (Kept.drew wr);refine wp_region_held_drew (S:=fun W=>W.cell? ⟨gt,0,none⟩=some (.slice ta1 tl1 tc1)∧W.cell? ⟨gt,1,none⟩=some (.slice ta2 t2 tc2)∧W.cell? ⟨gt,2,none⟩=some (.slice ta3 tl3 tc3)∧W.cell? ⟨uq,0,none⟩=some (.slice a1 t1 c1)∧W.cell? ⟨uq,1,none⟩=some (.slice a2 t2 c2)∧W.cell? ⟨uq,2,none⟩=some (.slice a3 t3 c3)∧W.cell? ⟨qs,0,none⟩=some (.slice sa1 sl1 sc1)∧W.cell? ⟨qs,1,none⟩=some (.slice sa2 t2 sc2)∧W.cell? ⟨qs,2,none⟩=some (.slice sa3 sl3 sc3)) (by kernel_rfl) (HF.out _ J.out) (fun hHeld=>?_);obtain⟨wd,hwd⟩:=eX (wr.drew)
     rw[hwd] at J hHeld;try rw[hwd]
     clear hwd;refine tkI 0 ?_;refine tkI 1 ?_;try simp only[nP]
     refine rd1 2 fun K9 Ky=>?_;go_simp;refine(jmW (HT.out.kept J.out) (HC.out.kept J.out) (jhh T)).mono ?_;rintro e w8 ⟨rfl,kk⟩;have J:=lH (J.out.trans kk);clear kk;refine Ky.out _ _ (HF.out _ J.out) (fun _=>?_);clear Ky K9;try simp only[nP]
     refine tkI 3 ?_;refine tkI 4 ?_;refine tkI 5 ?_;refine tkI 6 ?_;refine tkI 7 ?_;refine tkI 8 ?_;refine tkI 9 ?_;refine tkI 10 ?_;refine tkI 11 ?_;refine tkI 12 ?_;refine tkI 13 ?_;refine tkI 14 ?_;refine tkI 17 ?_;refine tkI 20 ?_;refine tkI 21 ?_;try simp only[nP]
     refine rd1 15 fun K9 Ky=>?_;go_simp;refine(jac (HT.out.kept J.out) UM.out.low UM.out.asc).mono ?_;rintro e w9 ⟨_,rfl,⟨pa,pc,rfl,-,-,-⟩,kk⟩;rw[N6.out];have J:=lH (J.out.trans kk);clear kk;refine Ky.out _ _ (HF.out _ J.out) (fun _=>?_);clear Ky K9;try simp only[nP]
     refine tkI 16 ?_;try simp only[nP]
     refine rd1 18 fun K9 Ky=>?_;go_simp;refine(jac (HS.out.kept J.out) HW.out.low HW.out.asc).mono ?_;rintro e w10 ⟨_,rfl,⟨pb,pd,rfl,-,-,-⟩,kk⟩;rw[UI.out];have J:=lH (J.out.trans kk);clear kk;refine Ky.out _ _ (HF.out _ J.out) (fun _=>?_);clear Ky K9;try simp only[nP]
     refine tkI 19 ?_;refine tkI 22 ?_;refine tkI 23 ?_;refine tkI 24 ?_;try simp only[nP]
     refine wpAnyH_done (by kernel_rfl) ?_ _;obtain⟨VZ,HS,VX,HT,VT,K⟩:=lH6 (VZ.out.kept J.out) (HS.out.kept J.out) (VX.out.kept J.out) (HT.out.kept J.out) (VT.out.kept J.out) (K.out.trans J.out);clear J HF HM HC hsub VX;have hp1:=(ZY HS.out).2;have hp2:=(ZY HT.out).2;have Nj:=lH hp1;have VN:=lH hp2;clear hp1 hp2;go_wp2_with fail
     go_loopw [9] (fun iv wr=>∃k:Nat,k≤t2∧iv=.int .i64 k∧Kept w10 wr) (fun iv _=>t2-(intOf iv).toNat)
     case atStart=>exact⟨0,Nat.zero_le _,rfl,Kept.refl _⟩
     case round =>
      obtain⟨k,hk,rfl,hkw⟩:=hrel;have Vm:=lH hkw;clear hkw;have Uf:=lH (VZ.out.kept Vm.out);have Um:=lH (VT.out.kept Vm.out);have y1:=Uf.out.at_ 1 _ rfl;by_cases hlt:k<t2
      · skip;obtain⟨g1,off1,rfl⟩:=Nj.out.form.resolve_left (by omega);obtain⟨g2,off2,rfl⟩:=VN.out.form.resolve_left (by omega);obtain⟨p,-,-,-,-,-,-,-,-,-,-,-,-,hnp,-,-,p0,-,-,-,-,-,-,-,-,p9,-,-⟩:=(Nj.out.kept Vm.out).at_ hlt;obtain⟨q,-,-,-,-,-,-,-,-,-,-,-,-,hnq,-,-,q0,-,-,-,-,-,-,-,-,q9,-,-⟩:=(VN.out.kept Vm.out).at_ hlt;obtain⟨q9,h1,h2,h3⟩:=VH.out k p hnp;rw[hnq] at h1;obtain rfl:=Option.some.inj h1;rw[h2] at q0;have hkk:(k:Int)<(t2:Int):=by omega
        have hk0:¬(k:Int)<0:=by omega
        have hxx:(p.name.toList==p.name.toList)=true:=by simp
        clear h1 hnp hnq h2;have s1:=Um.out.at_ 1 _ rfl;go_upto_region 18 with fail
        go_cut [113] from 77 to 113 (fun t wy=>t=.bool false∧Kept wr wy)
        case first =>
         cases hno:zp p.node with
         | true =>
          have hne:p.node.toList.isEmpty=true:=noE hno;clear h3;go_wp2;go_quiet (fail)
          go_wp2;go_meet
          case rel=>exact⟨rfl,Kept.drewN _ _⟩
         | false =>
          have hne:p.node.toList.isEmpty=false:=noF hno;have hyy:(p.node.toList==p.node.toList)=true:=by simp
          rw[h3 hno] at q9;clear h3;go_wp2;go_quiet (fail)
          go_wp2;go_meet
          case rel=>exact⟨rfl,Kept.drewN _ _⟩
        case rest =>
         obtain⟨rfl,hky⟩:=hcut;have Vm:=lH (Vm.out.trans hky);clear hky p0 p9 q0 q9 y1 s1 h3;go_wp2;go_roundw
         case rel=>exact⟨k+1,by omega,by go_num,Vm.out⟩
         case measure=>simp[intOf];omega
      · skip;have hkk:¬(k:Int)<(t2:Int):=by omega
        have hpbT:T.pods.length+1≤100000:=by have:=UM.out.few;omega
        have HN:=lH (jck ta1 ta2 ta3 tl1 tc1 t2 tc2 tl3 tc3 pk T wr (HT.out.kept Vm.out) UM.out.low UM.out.asc hpbT);unfold jcj at HN;rw[NZ.out] at HN;have HN:=lH (show Calls Tryz.prog 9 #[.agg #[.slice ta1 tl1 tc1,.slice ta2 t2 tc2,.slice ta3 tl3 tc3],.bool pk] wr (fun e w'=>e=.returned (.tuple #[.agg #[.string ⟨#[]⟩,.string ⟨#[]⟩],.bool false])∧Kept wr w') from HN.out);obtain⟨z0,z1,z2⟩:=Um.out.at3;go_wp2_with fail
        refine HN.out.mono ?_;rintro e wz ⟨rfl,kk⟩;have KF:=lH (K.out.trans (Vm.out.trans (kk.trans (ja wz (.cells #[.string ⟨#[]⟩,.string ⟨#[]⟩] 31)))));clear kk HN z0 z1 z2 y1;go_wp2_with fail
        go_ret;exact⟨rfl,KF.out⟩
end Go.Proofs.YtokdjfoalkmhiaaGreat
