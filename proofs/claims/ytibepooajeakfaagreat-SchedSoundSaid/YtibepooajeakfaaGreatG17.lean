/- C. -/
import Derived.Test.YtibepooajeakfaaGreatG0
import Derived.Test.YtibepooajeakfaaGreatG3
import Derived.Test.YtibepooajeakfaaGreatG4
import Derived.Test.YtibepooajeakfaaGreatG7
import Derived.Test.YtibepooajeakfaaGreatG8
import Derived.Test.YtibepooajeakfaaGreatG15
import Derived.Test.YtibepooajeakfaaGreatG16
import Derived.Lib.OwnBridge
set_option linter.unusedVariables false
set_option maxRecDepth 100000
set_option maxHeartbeats 25600000
namespace Go.Proofs.YtibepooajeakfaaGreat
open Go.RowKit
def jm4 (c:Int) (w:World) (e:Ending) (w':World):Prop:=(∃x i1 j1 l1 i2 j2 l2 i3 j3 l3 b,e=.returned (.tuple #[.agg #[.string x,.slice i1 j1 l1,.slice i2 j2 l2,.slice i3 j3 l3,.bool b],.int .i64 c]))∧Kept w w'
theorem ji6 (Q1 Q2 Q3:Nat) (s1 s2 s3:Option Addr) (n1 e1 n2 e2 n3 e3:Nat) (a1 a2 a3 a4:Option Addr) (m1 c1 m2 c2 m3 c3 m4 c4:Nat) (p:Pd) (s:Clu) (name:ByteArray) (w:World) (hq1:jf Q1 [.slice s1 n1 e1,.slice s2 n2 e2,.slice s3 n3 e3] w) (hq2:jf Q2 [.string p.name,.string p.owner,.int .i64 p.prio,.slice a1 m1 c1,.slice a2 m2 c2,.slice a3 m3 c3,.slice a4 m4 c4,.string p.key,.int .i64 p.most,.string p.node,.bool p.hold] w) (hq3:jf Q3 [.string name] w) (hs:jC w (Jk (.slice s1 n1 e1) (.slice s2 n2 e2) (.slice s3 n3 e3)) s) (hl:jE s) (hp:ji w (.slice a1 m1 c1) (.slice a2 m2 c2) (.slice a3 m3 c3) (.slice a4 m4 c4) p) :
 Calls Tryz.prog 104 #[.pointer (some ⟨Q1,0,none⟩),.pointer (some ⟨Q2,0,none⟩),.pointer (some ⟨Q3,0,none⟩)] w (XS (zW s p name) w):=by
 obtain⟨Z,hZ⟩:=eX (w.alloc (.cells #[.string ⟨#[]⟩,.slice none 0 0,.slice none 0 0,.slice none 0 0,.bool false] 78))
 have hkz:Kept w Z:=by rw[←hZ];exact ja _ _
 have Vv:=lH (jc w (.string ⟨#[]⟩) [.slice none 0 0,.slice none 0 0,.slice none 0 0,.bool false] 78 Z (by rw[hZ];exact Kept.refl _));have HS:=lH (jgY s1 s2 s3 n1 e1 n2 e2 n3 e3 a1 a2 a3 a4 m1 c1 m2 c2 m3 c3 m4 c4 p s name Z (hs.kept hkz) hl (hp.kept hkz));unfold jx at HS;have K:=lH hkz;have y0:=(hq1.kept hkz).at_ 0 _ rfl;have y1:=(hq1.kept hkz).at_ 1 _ rfl;have y2:=(hq1.kept hkz).at_ 2 _ rfl;have r0:=(hq2.kept hkz).at_ 0 _ rfl;have r1:=(hq2.kept hkz).at_ 1 _ rfl;have r2:=(hq2.kept hkz).at_ 2 _ rfl;have r3:=(hq2.kept hkz).at_ 3 _ rfl;have r4:=(hq2.kept hkz).at_ 4 _ rfl;have r5:=(hq2.kept hkz).at_ 5 _ rfl;have r6:=(hq2.kept hkz).at_ 6 _ rfl;have r7:=(hq2.kept hkz).at_ 7 _ rfl;have r8:=(hq2.kept hkz).at_ 8 _ rfl;have r9:=(hq2.kept hkz).at_ 9 _ rfl;have r10:=(hq2.kept hkz).at_ 10 _ rfl;have x0:=(hq3.kept hkz).at_ 0 _ rfl;clear hq1 hq2 hq3 hs hp hl hkz;obtain⟨c,hc⟩:=eX (zW s p name)
 rw[hc] at HS ⊢;clear hc;go_enter Tryz.func104,Tryz.ntmps104;go_wp2_with fail
 try rw[hZ]
 refine HS.out.mono ?_;rintro e w1 ⟨h1,h2,kk⟩;have K:=lH (K.out.trans kk);have Vv:=lH (Vv.out.kept kk);clear kk hZ HS y0 y1 y2 r0 r1 r2 r3 r4 r5 r6 r7 r8 r9 r10 x0;by_cases hc:c=0
 · obtain⟨x9,i1,j1,l1,i2,j2,l2,i3,j3,l3,b9,rfl⟩:=h1 hc;have Ul:=lH hc;clear h1 h2 hc;obtain⟨z0,z1,z2,z3,z4⟩:=Vv.out.at5;have f0:=Vv.out.free 0;have f1:=Vv.out.free 1;have f2:=Vv.out.free 2;have f3:=Vv.out.free 3;have f4:=Vv.out.free 4;have g0:=jay (u0:=.string x9) (u1:=.slice i1 j1 l1) (u2:=.slice i2 j2 l2) (u3:=.slice i3 j3 l3) (u4:=.bool b9) z0 z1 z2 z3 z4;go_wp2;obtain⟨WE,hWE⟩:=eX ((((((w1.setCell ⟨w.heap.size,0,none⟩ (.string x9)).setCell ⟨w.heap.size,1,none⟩ (.slice i1 j1 l1)).setCell ⟨w.heap.size,2,none⟩ (.slice i2 j2 l2)).setCell ⟨w.heap.size,3,none⟩ (.slice i3 j3 l3)).setCell ⟨w.heap.size,4,none⟩ (.bool b9)))
   obtain⟨q0,q1,q2,q3,q4⟩:=g0 WE hWE;have KE:Kept w WE:=by rw[←hWE];exact((((K.out.setCell (p:=⟨w.heap.size,0,none⟩) (Nat.le_refl _) _).setCell (p:=⟨w.heap.size,1,none⟩) (Nat.le_refl _) _).setCell (p:=⟨w.heap.size,2,none⟩) (Nat.le_refl _) _).setCell (p:=⟨w.heap.size,3,none⟩) (Nat.le_refl _) _).setCell (p:=⟨w.heap.size,4,none⟩) (Nat.le_refl _) _
   rw[hWE];clear hWE z0 z1 z2 z3 z4 f0 f1 f2 f3 f4;refine bodyPost_ret (by simp[results,Tryz.results104,go_sem,q0,q1,q2,q3,q4];try rfl) rfl ?_;exact⟨fun _=>⟨_,_,_,_,_,_,_,_,_,_,_,rfl⟩,fun g=>absurd Ul.out g,KE⟩
 · obtain rfl:=h2 hc;have Ul:=lH hc;clear h1 h2 hc;go_wp2;exact⟨rfl,XS.bad rfl Ul.out K.out⟩
theorem jha (Q1 Q2 Q3:Nat) (c:Int) (w:World) (hk:∀W,Kept w W→Calls Tryz.prog 104 #[.pointer (some ⟨Q1,0,none⟩),.pointer (some ⟨Q2,0,none⟩),.pointer (some ⟨Q3,0,none⟩)] W (XS c W)) :
 Calls Tryz.prog 103 #[.func (.func 104) #[] #[.pointer (some ⟨Q1,0,none⟩),.pointer (some ⟨Q2,0,none⟩),.pointer (some ⟨Q3,0,none⟩)]] w (jm4 c w):=by
 have hmf:=hmfL (P:=Tryz.prog);obtain⟨Z,hZ⟩:=eX ((w.alloc (.cells #[.string ⟨#[]⟩,.slice none 0 0,.slice none 0 0,.slice none 0 0,.bool false] 78)).alloc (.cells #[.int .i64 0] 69))
 have hkz:Kept w Z:=by rw[←hZ];exact jn _ _ _
 have Vv:=lH (jc w (.string ⟨#[]⟩) [.slice none 0 0,.slice none 0 0,.slice none 0 0,.bool false] 78 Z (by rw[←hZ];exact ja _ _));have TQ:=lH (show jf (w.heap.size+1) [.int .i64 0] Z by
  have dd:=jc (w.alloc (.cells #[.string ⟨#[]⟩,.slice none 0 0,.slice none 0 0,.slice none 0 0,.bool false] 78)) (.int .i64 0) [] 69 Z (by rw[hZ];exact Kept.refl _);rw[World.size_alloc] at dd;exact dd)
 have HK:=lH hkz;have Tp:=lH (hk Z hkz);clear hk hkz;go_enter_defers Tryz.func103,Tryz.ntmps103
 go_wp2_with fail
 try rw[hZ]
 refine Tp.out.mono ?_;rintro e1 w1 ⟨h0,h1,hb⟩;obtain⟨KK,Vv,TQ⟩:=lH3 (HK.out.trans hb) (Vv.out.kept hb) (TQ.out.kept hb);obtain⟨z0,z1,z2,z3,z4⟩:=Vv.out.at5;have f0:=Vv.out.free 0;have f1:=Vv.out.free 1;have f2:=Vv.out.free 2;have f3:=Vv.out.free 3;have f4:=Vv.out.free 4;have ez:=TQ.out.at_ 0 _ rfl;have ef:=TQ.out.free 0;clear Tp;by_cases hx:c=0
 · obtain⟨x9,i1,j1,l1,i2,j2,l2,i3,j3,l3,b9,rfl⟩:=h0 hx;subst hx;clear h0 h1 hb hZ;have g0:=jay (u0:=.string x9) (u1:=.slice i1 j1 l1) (u2:=.slice i2 j2 l2) (u3:=.slice i3 j3 l3) (u4:=.bool b9) z0 z1 z2 z3 z4;have R0:=lH g0;clear g0;go_wp2_with fail
   obtain⟨WE,hWE⟩:=eX ((((((w1.setCell ⟨w.heap.size,0,none⟩ (.string x9)).setCell ⟨w.heap.size,1,none⟩ (.slice i1 j1 l1)).setCell ⟨w.heap.size,2,none⟩ (.slice i2 j2 l2)).setCell ⟨w.heap.size,3,none⟩ (.slice i3 j3 l3)).setCell ⟨w.heap.size,4,none⟩ (.bool b9)))
   obtain⟨q0,q1,q2,q3,q4⟩:=R0.out WE hWE;have KE:Kept w WE:=by rw[←hWE];exact((((KK.out.setCell (p:=⟨w.heap.size,0,none⟩) (Nat.le_refl _) _).setCell (p:=⟨w.heap.size,1,none⟩) (Nat.le_refl _) _).setCell (p:=⟨w.heap.size,2,none⟩) (Nat.le_refl _) _).setCell (p:=⟨w.heap.size,3,none⟩) (Nat.le_refl _) _).setCell (p:=⟨w.heap.size,4,none⟩) (Nat.le_refl _) _
   have ee:WE.cell? ⟨w.heap.size+1,0,none⟩=some (.int .i64 0):=by rw[←hWE];exact(((((TQ.out.other (by omega)).other (by omega)).other (by omega)).other (by omega)).other (by omega)).at_ 0 _ rfl
   rw[hWE];clear hWE z0 z1 z2 z3 z4 f0 f1 f2 f3 f4 R0;have ff:∀j v,WE.cell? ⟨w.heap.size,j,none⟩=some v→(WE.setCell ⟨w.heap.size+1,0,none⟩ (.int .i64 0)).cell? ⟨w.heap.size,j,none⟩=some v:=fun j v h=>(World.cell?_of_block (a:=⟨w.heap.size,j,none⟩) (Below.heap_setCell WE ⟨w.heap.size+1,0,none⟩ _ w.heap.size (by show w.heap.size≠w.heap.size+1;omega))).trans h;have g0:=ff 0 _ q0;have g1:=ff 1 _ q1;have g2:=ff 2 _ q2;have g3:=ff 3 _ q3;have g4:=ff 4 _ q4;have fe:=World.cell?_setCell_same' WE ⟨w.heap.size+1,0,none⟩ (.int .i64 0) (by rw[ee];rfl);have KF:=lH (show Kept w (WE.setCell ⟨w.heap.size+1,0,none⟩ (.int .i64 0)) from KE.setCell (p:=⟨w.heap.size+1,0,none⟩) (Nat.le_succ _) _);obtain⟨WF,hWF⟩:=eX (WE.setCell ⟨w.heap.size+1,0,none⟩ (.int .i64 0))
   rw[hWF] at fe g0 g1 g2 g3 g4 KF ⊢;clear hWF ff ee q0 q1 q2 q3 q4 ez ef;refine leaves_cons (f:=151) (args:=#[.pointer (some ⟨w.heap.size+1,0,none⟩)]) (by simp) (by simp[go_sem]) ?_;refine(jfX ⟨w.heap.size+1,0,none⟩ _).mono ?_;rintro e u' w'' ⟨rfl,rfl,rfl⟩;simp[Leaves,settle,results,Tryz.results103,go_sem,fe,g0,g1,g2,g3,g4];exact⟨⟨_,_,_,_,_,_,_,_,_,_,_,rfl⟩,KF.out⟩
 · obtain rfl:=h1 hx;have HX:=lH hx;clear h0 h1 hb hZ hx;go_wp2_with fail
   refine leaves_cons (f:=151) (args:=#[.pointer (some ⟨w.heap.size+1,0,none⟩)]) (by simp) (by simp[go_sem]) ?_;refine(jbB w.heap.size (w.heap.size+1) c 0 _ ez ef (Nat.le_succ _)).mono ?_;rintro e u' w'' ⟨rfl,rfl,rfl,q2,q3⟩;have KF:=lH (show Kept w _ from Below.trans KK.out q3);have ff:∀j v,w1.cell? ⟨w.heap.size,j,none⟩=some v→(w1.setCell ⟨w.heap.size+1,0,none⟩ (.int .i64 c)).cell? ⟨w.heap.size,j,none⟩=some v:=fun j v h=>(World.cell?_of_block (a:=⟨w.heap.size,j,none⟩) (Below.heap_setCell w1 ⟨w.heap.size+1,0,none⟩ _ w.heap.size (by show w.heap.size≠w.heap.size+1;omega))).trans h;have g0:=ff 0 _ z0;have g1:=ff 1 _ z1;have g2:=ff 2 _ z2;have g3:=ff 3 _ z3;have g4:=ff 4 _ z4;obtain⟨WF,hWF⟩:=eX (w1.setCell ⟨w.heap.size+1,0,none⟩ (.int .i64 c))
   rw[hWF] at q2 g0 g1 g2 g3 g4 KF ⊢;clear hWF ff q3 z0 z1 z2 z3 z4 ez ef f0 f1 f2 f3 f4;simp[Leaves,settle,results,Tryz.results103,go_sem,q2,g0,g1,g2,g3,g4];exact⟨⟨_,_,_,_,_,_,_,_,_,_,_,rfl⟩,KF.out⟩
theorem jiZ (s1 s2 s3:Option Addr) (n1 e1 n2 e2 n3 e3:Nat) (a1 a2 a3 a4:Option Addr) (m1 c1 m2 c2 m3 c3 m4 c4:Nat) (p:Pd) (s:Clu) (name:ByteArray) (w:World) (hs:jC w (Jk (.slice s1 n1 e1) (.slice s2 n2 e2) (.slice s3 n3 e3)) s) (hl:jE s) (hp:ji w (.slice a1 m1 c1) (.slice a2 m2 c2) (.slice a3 m3 c3) (.slice a4 m4 c4) p):Calls Tryz.prog 55 #[.agg #[.slice s1 n1 e1,.slice s2 n2 e2,.slice s3 n3 e3],jx p (.slice a1 m1 c1) (.slice a2 m2 c2) (.slice a3 m3 c3) (.slice a4 m4 c4),.string name] w (Say (.int .i64 (zW s p name)) w):=by
 have hmf:=hmfL (P:=Tryz.prog);obtain⟨Y,hY⟩:=eX ((w.alloc (.cells #[.slice s1 n1 e1,.slice s2 n2 e2,.slice s3 n3 e3] 26)).alloc (.cells #[.string p.name,.string p.owner,.int .i64 p.prio,.slice a1 m1 c1,.slice a2 m2 c2,.slice a3 m3 c3,.slice a4 m4 c4,.string p.key,.int .i64 p.most,.string p.node,.bool p.hold] 52))
 have hky:Kept w Y:=by rw[←hY];exact jn _ _ _
 have hys:Y.heap.size=w.heap.size+2:=by rw[←hY];simp
 have hsb:=jc w (.slice s1 n1 e1) [.slice s2 n2 e2,.slice s3 n3 e3] 26 Y (by rw[←hY];exact ja _ _);have hpb:jf (w.heap.size+1) [.string p.name,.string p.owner,.int .i64 p.prio,.slice a1 m1 c1,.slice a2 m2 c2,.slice a3 m3 c3,.slice a4 m4 c4,.string p.key,.int .i64 p.most,.string p.node,.bool p.hold] Y:=by
  have dd:=jc (w.alloc (.cells #[.slice s1 n1 e1,.slice s2 n2 e2,.slice s3 n3 e3] 26)) (.string p.name) [.string p.owner,.int .i64 p.prio,.slice a1 m1 c1,.slice a2 m2 c2,.slice a3 m3 c3,.slice a4 m4 c4,.string p.key,.int .i64 p.most,.string p.node,.bool p.hold] 52 Y (by rw[hY];exact Kept.refl _);rw[World.size_alloc] at dd;exact dd
 obtain⟨Z,hZ⟩:=eX (Y.alloc (.cells #[.string name] 9))
 have hkz:Kept Y Z:=by rw[←hZ];exact ja _ _
 have hnb:jf (w.heap.size+2) [.string name] Z:=by
  have dd:=jc Y (.string name) [] 9 Z (by rw[hZ];exact Kept.refl _);rw[hys] at dd;exact dd
 have hYZ:((w.alloc (.cells #[.slice s1 n1 e1,.slice s2 n2 e2,.slice s3 n3 e3] 26)).alloc (.cells #[.string p.name,.string p.owner,.int .i64 p.prio,.slice a1 m1 c1,.slice a2 m2 c2,.slice a3 m3 c3,.slice a4 m4 c4,.string p.key,.int .i64 p.most,.string p.node,.bool p.hold] 52)).alloc (.cells #[.string name] 9)=Z:=by rw[hY];exact hZ
 have HC:=lH (jha w.heap.size (w.heap.size+1) (w.heap.size+2) (zW s p name) Z fun W k=>ji6 w.heap.size (w.heap.size+1) (w.heap.size+2) s1 s2 s3 n1 e1 n2 e2 n3 e3 a1 a2 a3 a4 m1 c1 m2 c2 m3 c3 m4 c4 p s name W ((hsb.kept hkz).kept k) ((hpb.kept hkz).kept k) (hnb.kept k) (hs.kept ((hky.trans hkz).trans k)) hl (hp.kept ((hky.trans hkz).trans k)));have K:=lH (hky.trans hkz);clear hs hp hl hky hkz hys hsb hpb hnb hY hZ;obtain⟨c,hc⟩:=eX (zW s p name)
 rw[hc] at HC ⊢;clear hc;unfold jx;go_enter Tryz.func55,Tryz.ntmps55;go_wp2_with fail
 try rw[hYZ]
 clear hYZ;refine HC.out.mono ?_;rintro e w1 ⟨⟨x9,i1,j1,l1,i2,j2,l2,i3,j3,l3,b9,rfl⟩,kk⟩;have K:=lH (K.out.trans kk);clear kk;go_wp2;go_ret;exact⟨rfl,K.out.trans (ja _ _)⟩
theorem jE.drop {s:Clu} (h:jE s) (x:ByteArray):jE (zC s x):=je4 h x
theorem jC.spelt {w:World} {y:Value} {s:Clu} (h:jC w y s):∃s1 n1 e1 s2 n2 e2 s3 n3 e3,y=Jk (.slice s1 n1 e1) (.slice s2 n2 e2) (.slice s3 n3 e3):=by
 obtain⟨_,_,_,rfl,⟨a,c,rfl,-⟩,⟨b,d,rfl,-⟩,⟨e,f,rfl,-⟩⟩:=h;exact⟨a,_,c,b,_,d,e,_,f,rfl⟩
theorem jjG (x:Int) (u:Value) (h:u ∈ [Value.int .i64 x]):u.oneCell'=true:=by
 have e:u=Value.int .i64 x:=by simpa using h
 rw[e];rfl
def XG:Lay Int:={ m:=1,cs:=fun x=>[.int .i64 x],fine:=fun x=>-9223372036854775808≤x∧x≤9223372036854775807,len:=fun _=>rfl,one:=jjG,pos:=by decide }
theorem jk.err {w:World} {b off len:Nat} {l:List Int} {k:Nat} (h:jk XG w (some ⟨b,off,none⟩) len l) (hk:k<len):∃x:Int,l[k]?=some x∧l.drop k=x::l.drop (k+1)∧b<w.heap.size∧w.cell? ⟨b,off+k,none⟩=some (.int .i64 x):=by
 obtain⟨x,h1,h2,h3,h4,h5⟩:=h.cells hk;exact⟨x,h1,h2,h3,by have:=h5 0 _ rfl;simpa [XG] using this⟩
theorem jnv:(Tryz.prog.info? 69).map (fun i=>(i.zero,i.size,i.bytes))=some (some (.int .i64 0),1,8):=by kernel_rfl
theorem jnd (s1 s2 s3:Option Addr) (n1 e1 n2 e2 n3 e3:Nat) (a1 a2 a3 a4:Option Addr) (m1 c1 m2 c2 m3 c3 m4 c4:Nat) (p:Pd) (s:Clu) (w:World) (hs:jC w (Jk (.slice s1 n1 e1) (.slice s2 n2 e2) (.slice s3 n3 e3)) s) (hl:jE s) (hp:ji w (.slice a1 m1 c1) (.slice a2 m2 c2) (.slice a3 m3 c3) (.slice a4 m4 c4) p):Calls Tryz.prog 54 #[.agg #[.slice s1 n1 e1,.slice s2 n2 e2,.slice s3 n3 e3],jx p (.slice a1 m1 c1) (.slice a2 m2 c2) (.slice a3 m3 c3) (.slice a4 m4 c4)] w fun e w'=>∃v,e=.returned v∧Own XG 69 w' w.heap.size v (XQ s p s.nodes)∧Kept w w':=by
 obtain⟨i0,hi,hz0,hz1,hz2'⟩:=info_parts jnv;obtain⟨Z,hZ⟩:=eX ((w.alloc (.cells #[.slice s1 n1 e1,.slice s2 n2 e2,.slice s3 n3 e3] 26)).alloc (.cells #[.string p.name,.string p.owner,.int .i64 p.prio,.slice a1 m1 c1,.slice a2 m2 c2,.slice a3 m3 c3,.slice a4 m4 c4,.string p.key,.int .i64 p.most,.string p.node,.bool p.hold] 52))
 have hkz:Kept w Z:=by rw[←hZ];exact jn _ _ _
 have Vj:=lH (jc w (.slice s1 n1 e1) [.slice s2 n2 e2,.slice s3 n3 e3] 26 Z (by rw[←hZ];exact ja _ _));have Vg:=lH (show jf (w.heap.size+1) [.string p.name,.string p.owner,.int .i64 p.prio,.slice a1 m1 c1,.slice a2 m2 c2,.slice a3 m3 c3,.slice a4 m4 c4,.string p.key,.int .i64 p.most,.string p.node,.bool p.hold] Z by
  have dd:=jc (w.alloc (.cells #[.slice s1 n1 e1,.slice s2 n2 e2,.slice s3 n3 e3] 26)) (.string p.name) [.string p.owner,.int .i64 p.prio,.slice a1 m1 c1,.slice a2 m2 c2,.slice a3 m3 c3,.slice a4 m4 c4,.string p.key,.int .i64 p.most,.string p.node,.bool p.hold] 52 Z (by rw[hZ];exact Kept.refl _);rw[World.size_alloc] at dd;exact dd)
 obtain⟨K,HS,HP,HL⟩:=lH4 hkz (hs.kept hkz) (hp.kept hkz) hl;clear hs hp hkz hl;have VR:=lH HS.out.nAt.2;have hb1:n1≤100000:=by have:=HL.out.nodesN;have:=VR.out;omega
 have HN:=lH HS.out.nAt.1;have Rr:=lH (jmW HS.out p.name HL.out);try unfold Jk at Rr
 obtain⟨y0,y1,y2⟩:=Vj.out.at3;have r0:=Vg.out.at_ 0 _ rfl;unfold jx;go_enter Tryz.func54,Tryz.ntmps54;go_upto_region 1 with fail
 try rw[hZ]
 clear hZ;go_wp2_with fail
 refine Rr.out.mono ?_;rintro e w1 ⟨y,rfl,hy,kk⟩;obtain⟨t1,k1,d1,t2,k2,d2,t3,k3,d3,rfl⟩:=hy.spelt;obtain⟨w2,hw2⟩:=eX (w1.alloc (.cells #[.slice t1 k1 d1,.slice t2 k2 d2,.slice t3 k3 d3] 26))
 have kx:Kept w1 w2:=by rw[←hw2];exact ja _ _
 obtain⟨Vt,HY,Vj,Vg,HP,HN,K⟩:=lH7 (jc w1 (.slice t1 k1 d1) [.slice t2 k2 d2,.slice t3 k3 d3] 26 w2 (by rw[hw2];exact Kept.refl _)) (hy.kept kx) (Vj.out.kept (kk.trans kx)) (Vg.out.kept (kk.trans kx)) (HP.out.kept (kk.trans kx)) (HN.out.kept (kk.trans kx)) (K.out.trans (kk.trans kx));obtain⟨gd,hgd⟩:=eX (w1.heap.size)
 rw[hgd] at Vt;clear kk kx hy Rr y0 y1 y2 r0;have y0:=Vj.out.at_ 0 _ rfl;go_upto_region 3 with fail
 try rw[hw2]
 try rw[hgd]
 clear hw2 hgd;go_wp2;clear y0;go_loopw [6,16] (fun v i wr=>∃k:Nat,k≤n1∧i=.int .i64 k∧∃la:List Int,XQ s p (s.nodes.take k)=la∧Own XG 69 wr w2.heap.size v la∧Kept w2 wr) (fun _ i _=>n1-(intOf i).toNat)
 case atStart=>exact⟨0,Nat.zero_le _,rfl,[],rfl,Own.nil _ _ _,Kept.refl _⟩
 case round =>
  obtain⟨k,hk,rfl,la,hla,ho,hK⟩:=hrel;obtain⟨HX,HO,HK⟩:=lH3 hla ho hK;obtain⟨m,hm⟩:=eX (la.length)
  have hmk:m≤k:=by
   have:=jb7 s p (s.nodes.take k);rw[hla,hm,List.length_take] at this;omega
  have HT:=lH hm;have hbase:w2.heap.size≤wr.heap.size:=hK.size;by_cases hlt:k<n1
  · obtain⟨g,off,rfl⟩:=HN.out.form.resolve_left (by omega);obtain⟨n,b1,q1,f1,b2,q2,f2,b3,q3,f3,hn,hd,hb,u0,u1,u2,u3,u4,hat⟩:=(HN.out.kept hK).at_ hlt;have UI:=lH (jj4 (s:=s) (p:=p) hn);have hkk:(k:Int)<(n1:Int):=by omega
    have hk0:¬(k:Int)<0:=by omega
    obtain⟨wx,hwx⟩:=eX (wr.alloc (.cells #[.string n.name,.slice b1 q1 f1,.slice b2 q2 f2,.slice b3 q3 f3,.bool n.cordon] 78))
    have hkx:Kept wr wx:=by rw[←hwx];exact ja _ _
    have VD:=lH (jc wr (.string n.name) [.slice b1 q1 f1,.slice b2 q2 f2,.slice b3 q3 f3,.bool n.cordon] 78 wx (by rw[hwx];exact Kept.refl _));obtain⟨bq,hbq⟩:=eX (wr.heap.size)
    rw[hbq] at VD;obtain⟨VS,V7,U1⟩:=lH3 (Vt.out.kept (hK.trans hkx)) (Vg.out.kept (hK.trans hkx)) (jiZ t1 t2 t3 k1 d1 k2 d2 k3 d3 a1 a2 a3 a4 m1 c1 m2 c2 m3 c3 m4 c4 p (zC s p.name) n.name wx (HY.out.kept (hK.trans hkx)) (je4 HL.out p.name) (HP.out.kept (hK.trans hkx)));unfold jx at U1;obtain⟨c,hc⟩:=eX (zW (zC s p.name) p n.name)
    have NJ:=lH (show -9223372036854775808≤c∧c≤9223372036854775807 by have:=jjD (zC s p.name) p n.name;omega);have HV:=lH (show XQ s p (s.nodes.take (k+1))=la++[c] by rw[UI.out,HX.out];unfold qj;rw[hc]);rw[hc] at U1;have KX:=lH hkx;go_upto_region 6 with fail
    try rw[hwx]
    try rw[hbq]
    clear hwx hbq hd hb hn hkx hk0 hkk hat hla ho hm hK hc u0 u1 u2 u3 u4;obtain⟨y0,y1,y2⟩:=VS.out.at3;obtain⟨r0,r1,r2,r3,r4,r5,r6,r7,r8,r9,r10⟩:=V7.out.at11;have t0:=VD.out.at_ 0 _ rfl;go_wp2_with fail
    refine U1.out.mono ?_;rintro e w3 ⟨rfl,kk⟩;have KW:=lH (KX.out.trans kk);clear kk U1 t0 y0 y1 y2 r0 r1 r2 r3 r4 r5 r6 r7 r8 r9 r10;have VF:=lH (show w3.ownsRow w2.heap.size 69 1 u6 m (je XG la) by have:=(HO.out.kept KW.out).1;rw[HT.out] at this;exact this);have hs1:wr.heap.size≤w3.heap.size:=Below.size KW.out;go_wp2_with (at_builtin;refine wpList_append_lies _ rfl _ _ _ rfl w2.heap.size 69 i0 _ 1 8 Tryz.underlying110 hi hz0 hz1 hz2' rfl (by decide) u6 m (je XG la) rfl (VF.out.alloc _) ⟨w3.heap.size,0,none⟩ 1 1 (XG.cs c) rfl rfl (World.news_of_block (cs:=#[.int .i64 c]) (t:=69) (fr:=(0,0)) (heap_alloc_new w3 _)) (jjG c) (by decide) (by unfold maxLen;omega) (by omega) (by simp;omega) (w3.heap.size+1) (by simp) ?_;intro gg cap1 w4 hown1 hgrow hat hlt1)
    have VQ:=lH ((show Below w2.heap.size w2 _ from HK.out.trans (KW.out.trans (ja w3 _))).grown hgrow (by simp;omega) (fun j hj=>(VF.out.lt j hj).1));go_wp2;go_roundw
    case rel=>exact⟨k+1,by omega,by go_num,la++[c],HV.out,Own.snoc hown1 (by rw[HT.out]) HO.out.2 NJ.out,VQ.out⟩
    case measure=>simp[intOf];omega
  · have hge:¬(k:Int)<(n1:Int):=by omega
    have HE:=lH (show XQ s p s.nodes=la by rw[←hla,List.take_of_length_le (by rw[←VR.out];omega)]);clear hla ho hm hK;go_wp2;go_ret;exact⟨_,rfl,by rw[HE.out];exact HO.out.base_le K.out.size,K.out.trans HK.out⟩
theorem jiU (w:World):zp w (.slice none 0 0) (.slice none 0 0) (.slice none 0 0) Nod.zero:=⟨(by decide:(0:Nat)≤maxLen),⟨none,0,rfl,Nat.le_refl _,by decide,Vec.jw.nil w⟩,Reads.nil _,Reads.nil _⟩
theorem jed {s:Clu} (h:jE s) (x:ByteArray):zP (J8 s x):=by
 unfold J8
 cases hf:jl s.nodes x with
 | none=>exact⟨(by decide:(0:Nat)≤1000000),(by decide:(0:Nat)≤1000000),(by decide:(0:Nat)≤1000000)⟩
 | some n=>exact h.nodes n (jec hf).1
theorem jm9 (x:ByteArray) (v1 v2 v3:Value) (c:Bool) (W:World):(Instr.field 78 (.agg #[.string x,v1,v2,v3,.bool c]) 1).run Tryz.prog W=.ok v1 W:=by kernel_rfl
theorem jm7 (x:ByteArray) (v1 v2 v3:Value) (c:Bool) (W:World):(Instr.field 78 (.agg #[.string x,v1,v2,v3,.bool c]) 3).run Tryz.prog W=.ok v3 W:=by kernel_rfl
def joR (n:Nod) (w:World) (e:Ending) (w':World):Prop:=∃b1 k1 d1 b2 k2 d2 b3 k3 d3,e=.returned (zj n (.slice b1 k1 d1) (.slice b2 k2 d2) (.slice b3 k3 d3))∧zp w' (.slice b1 k1 d1) (.slice b2 k2 d2) (.slice b3 k3 d3) n∧Kept w w'
theorem ql (s1 s2 s3:Option Addr) (n1 e1 n2 e2 n3 e3:Nat) (s:Clu) (name:ByteArray) (w:World) (hs:jC w (Jk (.slice s1 n1 e1) (.slice s2 n2 e2) (.slice s3 n3 e3)) s) (hl:jE s) :
 Calls Tryz.prog 236 #[.agg #[.slice s1 n1 e1,.slice s2 n2 e2,.slice s3 n3 e3],.string name] w (joR (J8 s name) w):=by
 have hn:=hs.nAt.1;have hb1:n1≤100000:=by have:=hs.nAt.2;have:=hl.nodesN;omega
 have Rs:=lH (show J8 s name=(jl s.nodes name).getD Nod.zero from rfl);generalize s.nodes=nodes at hn Rs
 clear hs hl;obtain⟨Z,hZ⟩:=eX ((w.alloc (.cells #[.slice s1 n1 e1,.slice s2 n2 e2,.slice s3 n3 e3] 26)).alloc (.cells #[.string ⟨#[]⟩,.slice none 0 0,.slice none 0 0,.slice none 0 0,.bool false] 78))
 have hkz:Kept w Z:=by rw[←hZ];exact jn _ _ _
 have Vw:=lH (jc w (.slice s1 n1 e1) [.slice s2 n2 e2,.slice s3 n3 e3] 26 Z (by rw[←hZ];exact ja _ _));have hyb:jf (w.heap.size+1) [.string ⟨#[]⟩,.slice none 0 0,.slice none 0 0,.slice none 0 0,.bool false] Z:=by
  have dd:=jc (w.alloc (.cells #[.slice s1 n1 e1,.slice s2 n2 e2,.slice s3 n3 e3] 26)) (.string ⟨#[]⟩) [.slice none 0 0,.slice none 0 0,.slice none 0 0,.bool false] 78 Z (by rw[hZ];exact Kept.refl _);rw[World.size_alloc] at dd;exact dd
 obtain⟨T0,HN,VR,Vc⟩:=lH4 hyb hn hn.1 hkz;clear hn hkz hyb;go_enter Tryz.func236,Tryz.ntmps236;have y0:=Vw.out.at_ 0 _ rfl;go_upto_region 1 with fail
 try rw[hZ]
 clear hZ;go_wp2;clear y0;go_loopw [10] (fun i wr=>∃k:Nat,k≤n1∧i=.int .i64 k∧jl (nodes.drop k) name=jl nodes name∧Kept Z wr) (fun i _=>n1-(intOf i).toNat)
 case atStart=>exact⟨0,Nat.zero_le _,rfl,rfl,Kept.refl _⟩
 case round =>
  obtain⟨k,hk,rfl,hR,hK⟩:=hrel;obtain⟨HR,HK,Uo⟩:=lH3 hR (Vc.out.trans hK) hK;by_cases hlt:k<n1
  · obtain⟨g,off,rfl⟩:=HN.out.form.resolve_left (by omega);obtain⟨n,b1,k1,d1,b2,k2,d2,b3,k3,d3,hn,hd,hb,u0,u1,u2,u3,u4,hat⟩:=HN.out.at_ hlt;have VH:=lH hat;have HD:=lH hd;have u0:=cell_later HK.out u0;have u1:=cell_later HK.out u1;have u2:=cell_later HK.out u2;have u3:=cell_later HK.out u3;have u4:=cell_later HK.out u4;have hkk:(k:Int)<(n1:Int):=by omega
    have hk0:¬(k:Int)<0:=by omega
    obtain⟨wx,hwx⟩:=eX (wr.alloc (.cells #[.string n.name,.slice b1 k1 d1,.slice b2 k2 d2,.slice b3 k3 d3,.bool n.cordon] 78))
    have hkx:Kept wr wx:=by rw[←hwx];exact ja _ _
    have Vt:=lH (jc wr (.string n.name) [.slice b1 k1 d1,.slice b2 k2 d2,.slice b3 k3 d3,.bool n.cordon] 78 wx (by rw[hwx];exact Kept.refl _));obtain⟨bq,hbq⟩:=eX (wr.heap.size)
    rw[hbq] at Vt;have KX:=lH hkx;go_upto_region 4 with fail
    try rw[hwx]
    try rw[hbq]
    clear hwx hbq hd hb hn hR hK hkx hk0 hkk hat u0 u1 u2 u3 u4;obtain⟨t0,t1,t2,t3,t4⟩:=Vt.out.at5;obtain⟨t,ht⟩:=eX ((n.name.toList==name.toList))
    have HT:=lH (show eqS n.name name=t from ht)
    cases t with
    | false =>
     have HX:=lH (show jl (nodes.drop (k+1)) name=jl nodes name by rw[←HR.out,HD.out];unfold jl;rw[List.find?_cons,HT.out]);go_wp2;go_roundw
     case rel=>exact⟨k+1,by omega,by go_num,HX.out,Uo.out.trans KX.out⟩
     case measure=>simp[intOf];omega
    | true =>
     have HX:=lH (show J8 s name=n by rw[Rs.out,show jl nodes name=some n by rw[←HR.out,HD.out];unfold jl;rw[List.find?_cons,HT.out]];rfl);have VW:=lH (T0.out.kept (Uo.out.trans KX.out));obtain⟨z0,z1,z2,z3,z4⟩:=VW.out.at5;have f0:=VW.out.free 0;have f1:=VW.out.free 1;have f2:=VW.out.free 2;have f3:=VW.out.free 3;have f4:=VW.out.free 4;have P:=lH (ZC ⟨z0,z1,z2,z3,z4⟩ n.name b1 b2 b3 k1 d1 k2 d2 k3 d3 n.cordon);go_wp2;obtain⟨WE,hWE⟩:=eX ((((((wx.setCell ⟨w.heap.size+1,0,none⟩ (.string n.name)).setCell ⟨w.heap.size+1,1,none⟩ (.slice b1 k1 d1)).setCell ⟨w.heap.size+1,2,none⟩ (.slice b2 k2 d2)).setCell ⟨w.heap.size+1,3,none⟩ (.slice b3 k3 d3)).setCell ⟨w.heap.size+1,4,none⟩ (.bool n.cordon)))
     rw[hWE] at P ⊢;clear hWE z0 z1 z2 z3 z4 t0 t1 t2 t3 t4 f0 f1 f2 f3 f4;obtain⟨⟨d0,d1,d2,d3,d4⟩,hsz,hbl,hkp⟩:=P.out;refine bodyPost_ret (by simp[results,Tryz.results236,go_sem,d0,d1,d2,d3,d4];try rfl) rfl ?_;have KE:=hkp _ _ (Nat.le_succ _) (HK.out.trans KX.out);rw[HX.out];exact⟨_,_,_,_,_,_,_,_,_,rfl,VH.out.kept KE,KE⟩
  · have hge:¬(k:Int)<(n1:Int):=by omega
    have HX:=lH (show J8 s name=Nod.zero by rw[Rs.out,show jl nodes name=none by rw[←HR.out,List.drop_of_length_le (by rw[VR.out];omega)];rfl];rfl);clear hR hK;have VW:=lH (T0.out.kept Uo.out);obtain⟨z0,z1,z2,z3,z4⟩:=VW.out.at5;have f0:=VW.out.free 0;have f1:=VW.out.free 1;have f2:=VW.out.free 2;have f3:=VW.out.free 3;have f4:=VW.out.free 4;have P:=lH (ZC ⟨z0,z1,z2,z3,z4⟩ ⟨#[]⟩ none none none 0 0 0 0 0 0 false);go_wp2;obtain⟨WE,hWE⟩:=eX ((((((wr.setCell ⟨w.heap.size+1,0,none⟩ (.string ⟨#[]⟩)).setCell ⟨w.heap.size+1,1,none⟩ (.slice none 0 0)).setCell ⟨w.heap.size+1,2,none⟩ (.slice none 0 0)).setCell ⟨w.heap.size+1,3,none⟩ (.slice none 0 0)).setCell ⟨w.heap.size+1,4,none⟩ (.bool false)))
    rw[hWE] at P ⊢;clear hWE z0 z1 z2 z3 z4 f0 f1 f2 f3 f4;obtain⟨⟨d0,d1,d2,d3,d4⟩,hsz,hbl,hkp⟩:=P.out;refine bodyPost_ret (by simp[results,Tryz.results236,go_sem,d0,d1,d2,d3,d4];try rfl) rfl ?_;have KE:=hkp _ _ (Nat.le_succ _) HK.out;rw[HX.out];exact⟨_,_,_,_,_,_,_,_,_,rfl,jiU _,KE⟩
theorem jiS (s1 s2 s3:Option Addr) (n1 e1 n2 e2 n3 e3:Nat) (s:Clu) (name:ByteArray) (w:World) (hs:jC w (Jk (.slice s1 n1 e1) (.slice s2 n2 e2) (.slice s3 n3 e3)) s) (hl:jE s):Calls Tryz.prog 277 #[.agg #[.slice s1 n1 e1,.slice s2 n2 e2,.slice s3 n3 e3],.string name] w fun e w'=>∃v,e=.returned v∧Vec.Reads w' v (JU s name).2∧Kept w w':=by
 obtain⟨Z,hZ⟩:=eX (w.alloc (.cells #[.slice s1 n1 e1,.slice s2 n2 e2,.slice s3 n3 e3] 26))
 have hkz:Kept w Z:=by rw[←hZ];exact ja _ _
 have Vj:=lH (jc w (.slice s1 n1 e1) [.slice s2 n2 e2,.slice s3 n3 e3] 26 Z (by rw[hZ];exact Kept.refl _));have HU:=lH (jof (hs.kept hkz) name hl);try unfold Jk at HU
 have K:=lH hkz;clear hs hl hkz;obtain⟨y0,y1,y2⟩:=Vj.out.at3;go_enter Tryz.func277,Tryz.ntmps277;go_wp2_with fail
 try rw[hZ]
 clear hZ;refine HU.out.mono ?_;rintro e w1 ⟨y,rfl,hy,kk⟩;have HY:=lH hy;have K:=lH (K.out.trans kk);clear kk hy HU y0 y1 y2;go_wp2;go_ret;exact⟨_,rfl,HY.out,K.out⟩
def jdy (x:Option Nat) (w:World) (e:Ending) (w':World):Prop:=∃r,e=.returned (.float .f64 r)∧nrm r=x∧r<TOP∧Kept w w'
theorem jfU {r:Nat} {x:Option Nat} {w w':World} (h:nrm r=x) (t:r<TOP) (k:Kept w w'):jdy x w (.returned (.float .f64 r)) w':=⟨r,rfl,h,t,k⟩
theorem jjd (u c:Value) (lu lc:Vec.V) (what:ByteArray) (w:World) (hu:Vec.Reads w u lu) (hc:Vec.Reads w c lc):Calls Tryz.prog 278 #[u,c,.string what] w (jdy (jln (Vec.jh lu what) (Vec.jh lc what)) w):=by
 obtain⟨a,ha⟩:=eX (Vec.jh lu what)
 obtain⟨b,hb⟩:=eX (Vec.jh lc what)
 have HU:=lH (fun (W:World) (k:Kept w W)=>Vec.jfm (hu.kept k) ha);have HC:=lH (fun (W:World) (k:Kept w W)=>Vec.jfm (hc.kept k) hb);rw[ha,hb];clear ha hb hu hc;have K:=lH (Kept.refl w);go_enter Tryz.func278,Tryz.ntmps278;go_wp2_with fail
 refine(HU.out _ K.out).mono ?_;rintro e w1 ⟨rfl,kk⟩;have K:=lH (K.out.trans kk);clear kk;go_wp2_with fail
 refine(HC.out _ K.out).mono ?_;rintro e w2 ⟨rfl,kk⟩;have K:=lH (K.out.trans kk);clear kk;go_wp2_with fail
 refine(jlr a b _).mono ?_;rintro e w3 ⟨r,n,rfl,rfl,hr,ht⟩;have HR:=lH hr;have K:=lH (K.out.trans (Kept.drewN w2 n));clear hr;go_wp2;go_ret;exact jfU HR.out ht K.out
theorem jhr (x:Nat) (u:Value) (h:u ∈ [Value.float .f64 x]):u.oneCell'=true:=by
 have e:u=Value.float .f64 x:=by simpa using h
 rw[e];rfl
def qv:Lay Nat:={ m:=1,cs:=fun x=>[.float .f64 x],fine:=fun x=>x<TOP,len:=fun _=>rfl,one:=jhr,pos:=by decide }
theorem jn4:(Tryz.prog.info? 244).map (fun i=>(i.zero,i.size,i.bytes))=some (some (.float .f64 0),1,8):=by kernel_rfl
theorem jmn {w:World} {a:Option Addr} {len:Nat} {l:List Nat} (h:jk qv w a len l):jf6 w a len l:=by
 obtain⟨h0,h1,h2,h3⟩:=h;refine⟨h0,h1,h2,h3.imp id ?_⟩;rintro ⟨b,off,e,hb,hc⟩;refine⟨b,off,e,hb,fun i hi=>?_⟩;have hil:i<l.length:=by omega
 have:=hc i l[i] 0 (.float .f64 l[i]) (List.getElem?_eq_getElem hil) rfl;rw[show l.getD i 0=l[i] by simp[List.getD,hil]];simpa [qv] using this
theorem jil {s:Clu} {x:ByteArray} {l:Vec.V} {k:Nat} (h:k<l.length):(l.take (k+1)).map (fun a=>Yo s x a.1)=(l.take k).map (fun a=>Yo s x a.1)++[Yo s x (Vec.nm l k)]:=by
 rw[List.take_add_one,List.getElem?_eq_getElem h,List.map_append];simp[Vec.nm,List.getD,h]
theorem jjp (s1 s2 s3:Option Addr) (n1 e1 n2 e2 n3 e3:Nat) (s:Clu) (name:ByteArray) (w:World) (hs:jC w (Jk (.slice s1 n1 e1) (.slice s2 n2 e2) (.slice s3 n3 e3)) s) (hl:jE s):Calls Tryz.prog 263 #[.agg #[.slice s1 n1 e1,.slice s2 n2 e2,.slice s3 n3 e3],.string name] w (jdy (jcS s name) w):=by
 obtain⟨i0,hi,hz0,hz1,hz2'⟩:=info_parts jn4;obtain⟨Z,hZ⟩:=eX (w.alloc (.cells #[.slice s1 n1 e1,.slice s2 n2 e2,.slice s3 n3 e3] 26))
 have hkz:Kept w Z:=by rw[←hZ];exact ja _ _
 obtain⟨Vj,HS,K,HL⟩:=lH4 (jc w (.slice s1 n1 e1) [.slice s2 n2 e2,.slice s3 n3 e3] 26 Z (by rw[hZ];exact Kept.refl _)) (hs.kept hkz) hkz hl;have HF:=lH (show ∀W,Kept Z W→W.cell? ⟨w.heap.size,0,none⟩=some (.slice s1 n1 e1)∧W.cell? ⟨w.heap.size,1,none⟩=some (.slice s2 n2 e2)∧W.cell? ⟨w.heap.size,2,none⟩=some (.slice s3 n3 e3) from fun W kk=>by
  have h:=Vj.out.kept kk;exact⟨h.at_ 0 _ rfl,h.at_ 1 _ rfl,h.at_ 2 _ rfl⟩)
 clear hs hl hkz;have HM:=lH (show jcS s name=jeW ((J8 s name).cap.map fun a=>Yo s name a.1) from rfl);go_enter Tryz.func263,Tryz.ntmps263;go_upto_region 1 with fail
 try rw[hZ]
 clear hZ;have J:=lH (Kept.drew Z);refine wp_region_held_drew (S:=fun W=>W.cell? ⟨w.heap.size,0,none⟩=some (.slice s1 n1 e1)∧W.cell? ⟨w.heap.size,1,none⟩=some (.slice s2 n2 e2)∧W.cell? ⟨w.heap.size,2,none⟩=some (.slice s3 n3 e3)) (by kernel_rfl) (HF.out _ J.out) (fun hHeld=>?_);obtain⟨wd,hwd⟩:=eX (Z.drew)
 rw[hwd] at J hHeld;try rw[hwd]
 clear hwd;refine tkI 0 ?_;refine tkI 1 ?_;refine tkI 3 ?_;refine tkI 4 ?_;try simp only[nP]
 refine rd1 2 fun K9 Ky=>?_;go_simp;refine(jiS s1 s2 s3 n1 e1 n2 e2 n3 e3 s name _ (HS.out.kept J.out) HL.out).mono ?_;rintro e w1 ⟨vu,rfl,hu,kk⟩;have HU:=lH hu;have J:=lH (J.out.trans kk);clear kk hu;refine Ky.out _ _ (HF.out _ J.out) (fun _=>?_);clear Ky K9;try simp only[nP]
 refine rd1 5 fun K9 Ky=>?_;go_simp;refine(ql s1 s2 s3 n1 e1 n2 e2 n3 e3 s name _ (HS.out.kept J.out) HL.out).mono ?_;rintro e w2 ⟨b1,k1,d1,b2,k2,d2,b3,k3,d3,rfl,hn,kk⟩;obtain⟨HU,HC,J⟩:=lH3 (HU.out.kept kk) hn.cap (J.out.trans kk);clear kk hn;unfold zj;refine Ky.out _ _ (HF.out _ J.out) (fun _=>?_);clear Ky K9;try simp only[nP]
 have hfd:=fun W=>jm9 (J8 s name).name (.slice b1 k1 d1) (.slice b2 k2 d2) (.slice b3 k3 d3) (J8 s name).cordon W;refine tkI 6 ?_;refine tkI 7 ?_;refine tkI 8 ?_;try simp only[nP]
 refine wpAnyH_done (by kernel_rfl) ?_ _;clear hfd;have R5:=(jed HL.out name).cap;have K:=lH (K.out.trans J.out);clear J HF Vj HS HL;have KW:=lH (Kept.refl w2);obtain⟨cap,hcap⟩:=eX ((J8 s name).cap)
 have TM:=lH (show ∀x,Yo s name x=jln (Vec.jh (JU s name).2 x) (Vec.jh cap x) from fun x=>by unfold Yo;rw[hcap]);rw[hcap] at HC HM R5;clear hcap;obtain⟨aC,cC,eC,-,-,hCA⟩:=HC.out;injection eC with e4 e5 e6;obtain rfl:=e4;obtain rfl:=e6;have Rt:=lH hCA;obtain⟨n9,hn9⟩:=eX (cap.length)
 rw[hn9] at Rt R5 e5;obtain rfl:=e5;have T3:=lH hn9;clear hCA hn9;go_wp2;go_loopw [7,19] (fun v i wr=>∃k:Nat,k≤k1∧i=.int .i64 k∧∃la:List Nat,la.map nrm=(cap.take k).map (fun a=>Yo s name a.1)∧Own qv 244 wr w2.heap.size v la∧Kept w2 wr) (fun _ i _=>k1-(intOf i).toNat)
 case atStart=>exact⟨0,Nat.zero_le _,rfl,[],rfl,Own.nil _ _ _,Kept.refl _⟩
 case round =>
  obtain⟨k,hk,rfl,la,hla,ho,hK⟩:=hrel;obtain⟨HX,HO,HK⟩:=lH3 hla ho hK;obtain⟨m,hm⟩:=eX (la.length)
  have hmk:m≤k:=by
   have:=congrArg List.length hla;simp only[List.length_map,List.length_take] at this;omega
  have HT:=lH hm;have hbase:w2.heap.size≤wr.heap.size:=hK.size;by_cases hlt:k<k1
  · obtain⟨b,off,rfl⟩:=Rt.out.form.resolve_left (by omega);obtain⟨-,u0,u1⟩:=(Rt.out.kept hK).cells hlt;have UI:=lH (jil (s:=s) (x:=name) (l:=cap) (k:=k) (by have:=T3.out;omega));obtain⟨xn,hxn⟩:=eX (Vec.nm cap k)
    obtain⟨qn,hqn⟩:=eX (Vec.qn cap k)
    rw[hxn] at u0 UI;rw[hqn] at u1;have hkk:(k:Int)<(k1:Int):=by omega
    have hk0:¬(k:Int)<0:=by omega
    obtain⟨wx,hwx⟩:=eX (wr.alloc (.cells #[.string xn,.int .i64 qn] 114))
    have hkx:Kept wr wx:=by rw[←hwx];exact ja _ _
    have VD:=lH (jc wr (.string xn) [.int .i64 qn] 114 wx (by rw[hwx];exact Kept.refl _));obtain⟨bq,hbq⟩:=eX (wr.heap.size)
    rw[hbq] at VD;have U1:=lH (jjd vu (.slice (some ⟨b,off,none⟩) k1 d1) (JU s name).2 cap xn wx (HU.out.kept (hK.trans hkx)) (HC.out.kept (hK.trans hkx)));rw[←TM.out] at U1;have KX:=lH hkx;go_upto_region 6 with fail
    try rw[hwx]
    try rw[hbq]
    clear hwx hbq hkx hk0 hkk hla ho hm hK hxn hqn u0 u1;have t0:=VD.out.at_ 0 _ rfl;go_wp2_with fail
    refine U1.out.mono ?_;rintro e w3 ⟨r,rfl,hr,hrt,kk⟩;obtain⟨HV,Ru,KW⟩:=lH3 (show (la++[r]).map nrm=(cap.take (k+1)).map (fun a=>Yo s name a.1) by rw[UI.out,List.map_append,HX.out];simp[hr]) hrt (KX.out.trans kk);clear kk U1 t0 hr hrt;have VF:=lH (show w3.ownsRow w2.heap.size 244 1 u7 m (je qv la) by have:=(HO.out.kept KW.out).1;rw[HT.out] at this;exact this);have hs1:wr.heap.size≤w3.heap.size:=Below.size KW.out;go_wp2_with (at_builtin;refine wpList_append_lies _ rfl _ _ _ rfl w2.heap.size 244 i0 _ 1 8 Tryz.underlying279 hi hz0 hz1 hz2' rfl (by decide) u7 m (je qv la) rfl (VF.out.alloc _) ⟨w3.heap.size,0,none⟩ 1 1 (qv.cs r) rfl rfl (World.news_of_block (cs:=#[.float .f64 r]) (t:=244) (fr:=(0,0)) (heap_alloc_new w3 _)) (jhr r) (by decide) (by unfold maxLen;omega) (by omega) (by simp;omega) (w3.heap.size+1) (by simp) ?_;intro gg cap1 w4 hown1 hgrow hat hlt1)
    have VQ:=lH ((show Below w2.heap.size w2 _ from HK.out.trans (KW.out.trans (ja w3 _))).grown hgrow (by simp;omega) (fun j hj=>(VF.out.lt j hj).1));go_wp2;go_roundw
    case rel=>exact⟨k+1,by omega,by go_num,la++[r],HV.out,Own.snoc hown1 (by rw[HT.out]) HO.out.2 Ru.out,VQ.out⟩
    case measure=>simp[intOf];omega
  · have hge:¬(k:Int)<(k1:Int):=by omega
    have HE:=lH (show la.map nrm=cap.map (fun a=>Yo s name a.1) by rw[hla,List.take_of_length_le (by have:=T3.out;omega)]);obtain⟨aL,cL,rfl,-,-,hrow⟩:=ho.at_;have Te:=lH (jlP aL la.length cL la wr (jmn hrow));rw[hm] at Te;try rw[hm]
    clear hla ho hm hK hrow;go_wp2_with fail
    refine Te.out.mono ?_;rintro e w5 ⟨r,rfl,hr,hrt,kk⟩;have HR:=lH (show nrm r=jcS s name by rw[hr,jj0,HE.out,HM.out]);have K:=lH (K.out.trans (HK.out.trans kk));clear kk hr Te;go_wp2;go_ret;exact jfU HR.out hrt K.out
theorem jjq (s1 s2 s3:Option Addr) (n1 e1 n2 e2 n3 e3:Nat) (s:Clu) (name:ByteArray) (w:World) (hs:jC w (Jk (.slice s1 n1 e1) (.slice s2 n2 e2) (.slice s3 n3 e3)) s) (hl:jE s):Calls Tryz.prog 265 #[.agg #[.slice s1 n1 e1,.slice s2 n2 e2,.slice s3 n3 e3],.string name] w (jfq (ZV s name) w):=by
 obtain⟨Z,hZ⟩:=eX ((w.alloc (.cells #[.slice s1 n1 e1,.slice s2 n2 e2,.slice s3 n3 e3] 26)).alloc (.cells #[.slice none 0 0,.slice none 0 0,.slice none 0 0] 26))
 have hkz:Kept w Z:=by rw[←hZ];exact jn _ _ _
 have Vj:=lH (jc w (.slice s1 n1 e1) [.slice s2 n2 e2,.slice s3 n3 e3] 26 Z (by rw[←hZ];exact ja _ _));have hq2:jf (w.heap.size+1) [.slice none 0 0,.slice none 0 0,.slice none 0 0] Z:=by
  have dd:=jc (w.alloc (.cells #[.slice s1 n1 e1,.slice s2 n2 e2,.slice s3 n3 e3] 26)) (.slice none 0 0) [.slice none 0 0,.slice none 0 0] 26 Z (by rw[hZ];exact Kept.refl _);rw[World.size_alloc] at dd;exact dd
 have hh2:Z.heap[w.heap.size+1]?=some (.cells #[.slice none 0 0,.slice none 0 0,.slice none 0 0] 26):=by
  have:=World.alloc_heap_new (w.alloc (.cells #[.slice s1 n1 e1,.slice s2 n2 e2,.slice s3 n3 e3] 26)) (.cells #[.slice none 0 0,.slice none 0 0,.slice none 0 0] 26);rw[World.size_alloc,hZ] at this;exact this
 obtain⟨HQ,HH,UN,HS,Vc,HL⟩:=lH6 hq2 hh2 hq2.lt (hs.kept hkz) hkz hl;clear hs hl hkz hq2 hh2;have HF:=lH (show ∀W,jf w.heap.size [.slice s1 n1 e1,.slice s2 n2 e2,.slice s3 n3 e3] W→W.cell? ⟨w.heap.size,0,none⟩=some (.slice s1 n1 e1)∧W.cell? ⟨w.heap.size,1,none⟩=some (.slice s2 n2 e2)∧W.cell? ⟨w.heap.size,2,none⟩=some (.slice s3 n3 e3) from fun W h=>⟨h.at_ 0 _ rfl,h.at_ 1 _ rfl,h.at_ 2 _ rfl⟩);go_enter Tryz.func265,Tryz.ntmps265;go_upto_region 1 with fail
 try rw[hZ]
 clear hZ;have J:=lH (Kept.drew Z);refine wp_region_held_drew (S:=fun W=>W.cell? ⟨w.heap.size,0,none⟩=some (.slice s1 n1 e1)∧W.cell? ⟨w.heap.size,1,none⟩=some (.slice s2 n2 e2)∧W.cell? ⟨w.heap.size,2,none⟩=some (.slice s3 n3 e3)) (by kernel_rfl) (HF.out _ (Vj.out.kept J.out)) (fun hHeld=>?_);obtain⟨wd,hwd⟩:=eX (Z.drew)
 rw[hwd] at J hHeld;try rw[hwd]
 clear hwd;refine tkI 0 ?_;refine tkI 1 ?_;refine tkI 4 ?_;refine tkI 5 ?_;try simp only[nP]
 refine rd1 2 fun K9 Ky=>?_;go_simp;refine(ql s1 s2 s3 n1 e1 n2 e2 n3 e3 s name _ (HS.out.kept J.out) HL.out).mono ?_;rintro e w2 ⟨b1,k1,d1,b2,k2,d2,b3,k3,d3,rfl,hn,kk⟩;have HN:=lH hn;have J:=lH (J.out.trans kk);clear kk hn;unfold zj;refine Ky.out _ _ (HF.out _ (Vj.out.kept J.out)) (fun _=>?_);clear Ky K9;try simp only[nP]
 obtain⟨nz,hnz⟩:=eX (J8 s name)
 rw[hnz] at HN;have R6:=lH hnz;try rw[hnz]
 clear hnz;refine rdH (rs:=[3,6]) (h:=coH (fun K9 Ky=>?_) (coH (fun K9 Ky=>?_) AllReadyH.nil))
 · go_simp;refine Ky.out _ _ (HF.out _ (Vj.out.kept (J.out.trans (ja _ _)))) (fun _=>?_);clear Ky K9;try simp only[nP]
   obtain⟨wb,hw⟩:=eX (w2.alloc (.cells #[.string nz.name,.slice b1 k1 d1,.slice b2 k2 d2,.slice b3 k3 d3,.bool nz.cordon] 78))
   have kk:Kept w2 wb:=by rw[←hw];exact ja _ _
   obtain⟨gB,hgB⟩:=eX (w2.heap.size)
   have Vx:=lH (show jo wb (some ⟨gB,0,none⟩) 1 [nz] from by
    have c:=jc w2 (.string nz.name) [.slice b1 k1 d1,.slice b2 k2 d2,.slice b3 k3 d3,.bool nz.cordon] 78 wb (by rw[hw];exact Kept.refl _);rw[hgB] at c;exact zS (lx:=[(nz,(b1,k1,d1),(b2,k2,d2),(b3,k3,d3))]) (j0 rfl c (fun _ _=>trivial) (by decide:(1:Nat)≤maxLen)) (fun z hz=>by
     obtain rfl:=List.mem_singleton.1 hz;exact HN.out.kept kk))
   have J:=lH (J.out.trans kk);try rw[hw]
   try rw[hgB]
   clear hw kk hgB;have hHeldB:=HF.out _ (Vj.out.kept J.out);refine rd1 6 fun K9 Ky=>?_;go_simp;refine(onR (HS.out.kept J.out) name HL.out).mono ?_;rintro e wo ⟨y,rfl,⟨aP,cP,rfl,hp1,hp2,hp⟩,kk⟩;obtain⟨Tf,J,Vx⟩:=lH3 (show Jn wo (.slice aP (onP name s.pods).length cP) (onP name s.pods) from⟨aP,cP,rfl,hp1,hp2,hp⟩) (J.out.trans kk) (Vx.out.kept kk);clear kk hp hp1 hp2;refine Ky.out _ _ (HF.out _ (Vj.out.kept J.out)) (fun _=>?_);clear Ky K9;try simp only[nP]
   obtain⟨lP,hlP⟩:=eX ((onP name s.pods).length)
   rw[hlP] at Tf;try rw[hlP]
   clear hlP;refine tkI 7 ?_;try simp only[nP]
   have VS:=lH (HQ.out.kept J.out);have Rv:=lH ((J.out.block _ UN.out).trans HH.out);obtain⟨z0,z1,z2⟩:=VS.out.at3;have f0:=VS.out.free 0;have f1:=VS.out.free 1;have f2:=VS.out.free 2;have PP:=lH (j6 (vs:=[.slice (some ⟨gB,0,none⟩) 1 1,.slice aP lP cP,.slice none 0 0]) VS.out rfl);refine rd1 8 fun K9 Ky=>?_;go_simp;obtain⟨WE,hWE⟩:=eX (wo.setCells (w.heap.size+1) 0 [.slice (some ⟨gB,0,none⟩) 1 1,.slice aP lP cP,.slice none 0 0])
   have hWE2:(((wo.setCell ⟨w.heap.size+1,0,none⟩ (.slice (some ⟨gB,0,none⟩) 1 1)).setCell ⟨w.heap.size+1,1,none⟩ (.slice aP lP cP)).setCell ⟨w.heap.size+1,2,none⟩ (.slice none 0 0))=WE:=hWE;rw[hWE] at PP;try rw[hWE2]
   obtain⟨RE,JE,Tu⟩:=lH3 (show jC WE (.agg #[.slice (some ⟨gB,0,none⟩) 1 1,.slice aP lP cP,.slice none 0 0]) (ZV s name) from zT (w:=wo) (N:=w.heap.size+1) PP.out.size PP.out.far (J5 Rv.out) ⟨_,_,_,rfl,⟨⟨_,_,rfl,(by decide:(1:Nat)≤1),(by decide:(1:Nat)≤maxLen),by unfold ZV;rw[R6.out];exact Vx.out⟩,Tf.out,⟨_,_,rfl,Nat.le_refl _,(by decide:(0:Nat)≤maxLen),zU _⟩⟩⟩) (show Kept w WE by rw[←hWE];exact jt _ _ _ _ _ _ (Nat.le_succ _) (Vc.out.trans J.out)) (show jf w.heap.size [.slice s1 n1 e1,.slice s2 n2 e2,.slice s3 n3 e3] WE from(Vj.out.kept J.out).block (PP.out.far _ (by omega)));clear hWE hWE2 z0 f0 z1 f1 z2 f2;refine Ky.out _ _ (HF.out _ Tu.out) (fun _=>?_);clear Ky K9;try simp only[nP]
   refine wpAnyH_done (by kernel_rfl) ?_ _;have d0:=PP.out.cells.at_ 0 _ rfl;have d1:=PP.out.cells.at_ 1 _ rfl;have d2:=PP.out.cells.at_ 2 _ rfl;go_wp2;refine bodyPost_ret (by simp[results,Tryz.results265,go_sem,d0,d1,d2];try rfl) rfl ?_;exact⟨_,rfl,RE.out,JE.out⟩
 · go_simp;refine(onR (HS.out.kept J.out) name HL.out).mono ?_;rintro e wo ⟨y,rfl,⟨aP,cP,rfl,hp1,hp2,hp⟩,kk⟩;obtain⟨Tf,J,HN⟩:=lH3 (show Jn wo (.slice aP (onP name s.pods).length cP) (onP name s.pods) from⟨aP,cP,rfl,hp1,hp2,hp⟩) (J.out.trans kk) (HN.out.kept kk);clear kk hp hp1 hp2;refine Ky.out _ _ (HF.out _ (Vj.out.kept J.out)) (fun _=>?_);clear Ky K9;try simp only[nP]
   refine rd1 3 fun K9 Ky=>?_;go_simp;refine Ky.out _ _ (HF.out _ (Vj.out.kept (J.out.trans (ja _ _)))) (fun _=>?_);clear Ky K9;try simp only[nP]
   obtain⟨wb,hw⟩:=eX (wo.alloc (.cells #[.string nz.name,.slice b1 k1 d1,.slice b2 k2 d2,.slice b3 k3 d3,.bool nz.cordon] 78))
   have kk:Kept wo wb:=by rw[←hw];exact ja _ _
   obtain⟨gB,hgB⟩:=eX (wo.heap.size)
   have Vx:=lH (show jo wb (some ⟨gB,0,none⟩) 1 [nz] from by
    have c:=jc wo (.string nz.name) [.slice b1 k1 d1,.slice b2 k2 d2,.slice b3 k3 d3,.bool nz.cordon] 78 wb (by rw[hw];exact Kept.refl _);rw[hgB] at c;exact zS (lx:=[(nz,(b1,k1,d1),(b2,k2,d2),(b3,k3,d3))]) (j0 rfl c (fun _ _=>trivial) (by decide:(1:Nat)≤maxLen)) (fun z hz=>by
     obtain rfl:=List.mem_singleton.1 hz;exact HN.out.kept kk))
   have Tf:=lH (Tf.out.kept kk);have J:=lH (J.out.trans kk);try rw[hw]
   try rw[hgB]
   clear hw kk hgB;have hHeldB:=HF.out _ (Vj.out.kept J.out);obtain⟨lP,hlP⟩:=eX ((onP name s.pods).length)
   rw[hlP] at Tf;try rw[hlP]
   clear hlP;refine tkI 7 ?_;try simp only[nP]
   have VS:=lH (HQ.out.kept J.out);have Rv:=lH ((J.out.block _ UN.out).trans HH.out);obtain⟨z0,z1,z2⟩:=VS.out.at3;have f0:=VS.out.free 0;have f1:=VS.out.free 1;have f2:=VS.out.free 2;have PP:=lH (j6 (vs:=[.slice (some ⟨gB,0,none⟩) 1 1,.slice aP lP cP,.slice none 0 0]) VS.out rfl);refine rd1 8 fun K9 Ky=>?_;go_simp;obtain⟨WE,hWE⟩:=eX (wb.setCells (w.heap.size+1) 0 [.slice (some ⟨gB,0,none⟩) 1 1,.slice aP lP cP,.slice none 0 0])
   have hWE2:(((wb.setCell ⟨w.heap.size+1,0,none⟩ (.slice (some ⟨gB,0,none⟩) 1 1)).setCell ⟨w.heap.size+1,1,none⟩ (.slice aP lP cP)).setCell ⟨w.heap.size+1,2,none⟩ (.slice none 0 0))=WE:=hWE;rw[hWE] at PP;try rw[hWE2]
   obtain⟨RE,JE,Tu⟩:=lH3 (show jC WE (.agg #[.slice (some ⟨gB,0,none⟩) 1 1,.slice aP lP cP,.slice none 0 0]) (ZV s name) from zT (w:=wb) (N:=w.heap.size+1) PP.out.size PP.out.far (J5 Rv.out) ⟨_,_,_,rfl,⟨⟨_,_,rfl,(by decide:(1:Nat)≤1),(by decide:(1:Nat)≤maxLen),by unfold ZV;rw[R6.out];exact Vx.out⟩,Tf.out,⟨_,_,rfl,Nat.le_refl _,(by decide:(0:Nat)≤maxLen),zU _⟩⟩⟩) (show Kept w WE by rw[←hWE];exact jt _ _ _ _ _ _ (Nat.le_succ _) (Vc.out.trans J.out)) (show jf w.heap.size [.slice s1 n1 e1,.slice s2 n2 e2,.slice s3 n3 e3] WE from(Vj.out.kept J.out).block (PP.out.far _ (by omega)));clear hWE hWE2 z0 f0 z1 f1 z2 f2;refine Ky.out _ _ (HF.out _ Tu.out) (fun _=>?_);clear Ky K9;try simp only[nP]
   refine wpAnyH_done (by kernel_rfl) ?_ _;have d0:=PP.out.cells.at_ 0 _ rfl;have d1:=PP.out.cells.at_ 1 _ rfl;have d2:=PP.out.cells.at_ 2 _ rfl;go_wp2;refine bodyPost_ret (by simp[results,Tryz.results265,go_sem,d0,d1,d2];try rfl) rfl ?_;exact⟨_,rfl,RE.out,JE.out⟩
theorem jen {s:Clu} (h:jE s) (x:ByteArray):jE (ZV s x):=⟨fun n hn=>by
 obtain rfl:=List.mem_singleton.1 hn;exact jed h x,fun n hn=>by
 unfold ZV onP at hn;split at hn
 · cases hn
 · exact h.pods n (List.mem_filter.1 hn).1,(fun n hn=>by cases hn),(by decide:(1:Nat)≤100000),by
 unfold ZV onP;split
 · exact(by decide:(0:Nat)≤100000)
 · exact Nat.le_trans (List.length_filter_le _ _) h.podsN,(by decide:(0:Nat)≤100000)⟩
theorem jnJ (x:ByteArray) (l:List Pd):(onP x l).length≤l.length:=by
 unfold onP;split
 · exact Nat.zero_le _
 · exact List.length_filter_le _ _
theorem jiw {p:Pd} (h:JN p) (x:ByteArray):JN { p with node:=x }:=⟨h.need,h.labels,h.sel,h.tols⟩
theorem jlV {s:Clu} {p:Pd} (h:jE s) (hp:JN p) (hn:s.pods.length+1≤100000):jE (Jw s p):=⟨h.nodes,fun q hq=>by
 rcases ins_mem hq with rfl | hq
 · exact hp
 · exact h.pods q (Zl hq),h.buds,h.nodesN,by
 show (JZ p (zc p.name s.pods)).length≤100000;rw[jdz];exact Nat.le_trans (Nat.succ_le_succ (jcd _ _)) hn,h.budsN⟩
theorem jjy (s1 s2 s3:Option Addr) (n1 e1 n2 e2 n3 e3:Nat) (a1 a2 a3 a4:Option Addr) (m1 c1 m2 c2 m3 c3 m4 c4:Nat) (p:Pd) (s:Clu) (name:ByteArray) (w:World) (hs:jC w (Jk (.slice s1 n1 e1) (.slice s2 n2 e2) (.slice s3 n3 e3)) s) (hl:jE s) (hb:s.pods.length+1≤100000) (hp:ji w (.slice a1 m1 c1) (.slice a2 m2 c2) (.slice a3 m3 c3) (.slice a4 m4 c4) p) (hlp:JN p) (hx:name.size≤maxLen):Calls Tryz.prog 237 #[.agg #[.slice s1 n1 e1,.slice s2 n2 e2,.slice s3 n3 e3],jx p (.slice a1 m1 c1) (.slice a2 m2 c2) (.slice a3 m3 c3) (.slice a4 m4 c4),.string name] w (jdy (qt s p name) w):=by
 obtain⟨Z,hZ⟩:=eX ((w.alloc (.cells #[.slice s1 n1 e1,.slice s2 n2 e2,.slice s3 n3 e3] 26)).alloc (.cells #[.string p.name,.string p.owner,.int .i64 p.prio,.slice a1 m1 c1,.slice a2 m2 c2,.slice a3 m3 c3,.slice a4 m4 c4,.string p.key,.int .i64 p.most,.string p.node,.bool p.hold] 52))
 have hkz:Kept w Z:=by rw[←hZ];exact jn _ _ _
 have hzs:Z.heap.size=w.heap.size+2:=by rw[←hZ];simp
 have hq1:=jc w (.slice s1 n1 e1) [.slice s2 n2 e2,.slice s3 n3 e3] 26 Z (by rw[←hZ];exact ja _ _);have hq2:jf (w.heap.size+1) [.string p.name,.string p.owner,.int .i64 p.prio,.slice a1 m1 c1,.slice a2 m2 c2,.slice a3 m3 c3,.slice a4 m4 c4,.string p.key,.int .i64 p.most,.string p.node,.bool p.hold] Z:=by
  have dd:=jc (w.alloc (.cells #[.slice s1 n1 e1,.slice s2 n2 e2,.slice s3 n3 e3] 26)) (.string p.name) [.string p.owner,.int .i64 p.prio,.slice a1 m1 c1,.slice a2 m2 c2,.slice a3 m3 c3,.slice a4 m4 c4,.string p.key,.int .i64 p.most,.string p.node,.bool p.hold] 52 Z (by rw[hZ];exact Kept.refl _);rw[World.size_alloc] at dd;exact dd
 obtain⟨Y,hY⟩:=eX (Z.setCell ⟨w.heap.size+1,9,none⟩ (.string name))
 have hky:Kept w Y:=by rw[←hY];exact hkz.setCell (p:=⟨w.heap.size+1,9,none⟩) (by show w.heap.size≤w.heap.size+1;omega) _
 obtain⟨Vg,Vj,HS,HP,K,HL,Ud,Tg⟩:=lH8 (show jf (w.heap.size+1) [.string p.name,.string p.owner,.int .i64 p.prio,.slice a1 m1 c1,.slice a2 m2 c2,.slice a3 m3 c3,.slice a4 m4 c4,.string p.key,.int .i64 p.most,.string name,.bool p.hold] Y by rw[←hY];exact hq2.set (j:=9) (u:=.string name) (by simp)) (show jf w.heap.size [.slice s1 n1 e1,.slice s2 n2 e2,.slice s3 n3 e3] Y by rw[←hY];exact hq1.other (by omega)) (hs.kept hky) (show ji Y (.slice a1 m1 c1) (.slice a2 m2 c2) (.slice a3 m3 c3) (.slice a4 m4 c4) { p with node:=name } from by have h:=hp.kept hky;exact⟨h.name,h.owner,h.key,hx,h.prio,h.most,h.need,h.labels,h.sel,h.tols⟩) hky hl (jiw hlp name) hb;have HV:=lH (show qt s p name=jcS (Jw (ZV s name) { p with node:=name }) name from rfl);have u9:=hq2.at_ 9 _ rfl;have f9:=hq2.free 9;have HF:=lH (show ∀W,Kept Y W→W.cell? ⟨w.heap.size,0,none⟩=some (.slice s1 n1 e1)∧W.cell? ⟨w.heap.size,1,none⟩=some (.slice s2 n2 e2)∧W.cell? ⟨w.heap.size,2,none⟩=some (.slice s3 n3 e3)∧W.cell? ⟨w.heap.size+1,0,none⟩=some (.string p.name)∧W.cell? ⟨w.heap.size+1,1,none⟩=some (.string p.owner)∧W.cell? ⟨w.heap.size+1,2,none⟩=some (.int .i64 p.prio)∧W.cell? ⟨w.heap.size+1,3,none⟩=some (.slice a1 m1 c1)∧W.cell? ⟨w.heap.size+1,4,none⟩=some (.slice a2 m2 c2)∧W.cell? ⟨w.heap.size+1,5,none⟩=some (.slice a3 m3 c3)∧W.cell? ⟨w.heap.size+1,6,none⟩=some (.slice a4 m4 c4)∧W.cell? ⟨w.heap.size+1,7,none⟩=some (.string p.key)∧W.cell? ⟨w.heap.size+1,8,none⟩=some (.int .i64 p.most)∧W.cell? ⟨w.heap.size+1,9,none⟩=some (.string name)∧W.cell? ⟨w.heap.size+1,10,none⟩=some (.bool p.hold) from fun W kk=>by
  have h:=Vj.out.kept kk;have q:=Vg.out.kept kk;exact⟨h.at_ 0 _ rfl,h.at_ 1 _ rfl,h.at_ 2 _ rfl,q.at_ 0 _ rfl,q.at_ 1 _ rfl,q.at_ 2 _ rfl,q.at_ 3 _ rfl,q.at_ 4 _ rfl,q.at_ 5 _ rfl,q.at_ 6 _ rfl,q.at_ 7 _ rfl,q.at_ 8 _ rfl,q.at_ 9 _ rfl,q.at_ 10 _ rfl⟩)
 clear hs hp hkz hky hl hlp hb hq1 hq2;unfold jx;go_enter Tryz.func237,Tryz.ntmps237;go_upto_region 1 with fail
 try rw[hZ]
 clear hZ;go_upto_region 2 with fail
 try rw[hY]
 clear hY u9 f9 hzs;have J:=lH (Kept.drew Y);refine wp_region_held_drew (S:=fun W=>W.cell? ⟨w.heap.size,0,none⟩=some (.slice s1 n1 e1)∧W.cell? ⟨w.heap.size,1,none⟩=some (.slice s2 n2 e2)∧W.cell? ⟨w.heap.size,2,none⟩=some (.slice s3 n3 e3)∧W.cell? ⟨w.heap.size+1,0,none⟩=some (.string p.name)∧W.cell? ⟨w.heap.size+1,1,none⟩=some (.string p.owner)∧W.cell? ⟨w.heap.size+1,2,none⟩=some (.int .i64 p.prio)∧W.cell? ⟨w.heap.size+1,3,none⟩=some (.slice a1 m1 c1)∧W.cell? ⟨w.heap.size+1,4,none⟩=some (.slice a2 m2 c2)∧W.cell? ⟨w.heap.size+1,5,none⟩=some (.slice a3 m3 c3)∧W.cell? ⟨w.heap.size+1,6,none⟩=some (.slice a4 m4 c4)∧W.cell? ⟨w.heap.size+1,7,none⟩=some (.string p.key)∧W.cell? ⟨w.heap.size+1,8,none⟩=some (.int .i64 p.most)∧W.cell? ⟨w.heap.size+1,9,none⟩=some (.string name)∧W.cell? ⟨w.heap.size+1,10,none⟩=some (.bool p.hold)) (by kernel_rfl) (HF.out _ J.out) (fun hHeld=>?_);obtain⟨wd,hwd⟩:=eX (Y.drew)
 rw[hwd] at J hHeld;try rw[hwd]
 clear hwd;refine tkI 0 ?_;refine tkI 1 ?_;refine tkI 3 ?_;refine tkI 5 ?_;try simp only[nP]
 refine rd1 2 fun K9 Ky=>?_;go_simp;refine(jjq s1 s2 s3 n1 e1 n2 e2 n3 e3 s name _ (HS.out.kept J.out) HL.out).mono ?_;rintro e w1 ⟨y,rfl,hy,kk⟩;have HY:=lH hy;have J:=lH (J.out.trans kk);clear kk hy;refine Ky.out _ _ (HF.out _ J.out) (fun _=>?_);clear Ky K9;try simp only[nP]
 refine rd1 4 fun K9 Ky=>?_;go_simp;refine(jnE HY.out (p:={ p with node:=name }) ⟨_,_,_,_,rfl,HP.out.kept J.out⟩ (jen HL.out name) Ud.out).mono ?_;rintro e w2 ⟨y2,rfl,hy,kk⟩;obtain⟨t1,k1,d1,t2,k2,d2,t3,k3,d3,rfl⟩:=hy.spelt;have Tv:=lH hy;have J:=lH (J.out.trans kk);clear kk hy HY;refine Ky.out _ _ (HF.out _ J.out) (fun _=>?_);clear Ky K9;try simp only[nP]
 refine rd1 6 fun K9 Ky=>?_;go_simp;have Te:=jjp t1 t2 t3 k1 d1 k2 d2 k3 d3 _ name w2 Tv.out (jlV (jen HL.out name) Ud.out (by have:=Tg.out;have:(ZV s name).pods.length≤s.pods.length:=jnJ name s.pods;omega));try unfold Jk at Te
 refine Te.mono ?_;rintro e w3 ⟨r,rfl,hr,hrt,kk⟩;have HR:=lH (hr.trans HV.out.symm);have J:=lH (J.out.trans kk);clear kk hr Te Tv;refine Ky.out _ _ (HF.out _ J.out) (fun _=>?_);clear Ky K9;try simp only[nP]
 refine tkI 7 ?_;try simp only[nP]
 refine wpAnyH_done (by kernel_rfl) ?_ _;go_wp2;go_ret;exact jfU HR.out hrt (K.out.trans J.out)
open Go.RowKit Go.Shelf
attribute [local go_sem] Oper.semAt_some ZM
def mkC (x:Mk):List Value:=[.string x.1,.int .i64 x.2.1,.float .f64 x.2.2]
theorem jcx (x:Mk) (u:Value) (h:u ∈ mkC x):u.oneCell'=true:=by
 have e:u=Value.string x.1∨u=Value.int .i64 x.2.1∨u=Value.float .f64 x.2.2:=by simpa [mkC] using h
 rcases e with e | e | e<;>rw[e]<;>rfl
def MkLay:Lay Mk:={ m:=3,cs:=mkC,fine:=fun x=>x.1.size≤maxLen∧x.2.2<TOP,len:=fun _=>rfl,one:=jcx,pos:=by decide }
def mk0:Mk:=(⟨#[]⟩,0,0)
def ZN (zs:List Mk) (k:Nat):List Mk:=(List.range k).map fun j=>zs[j]?.getD mk0
theorem jji (zs:List Mk) (k:Nat):ZN zs (k+1)=ZN zs k++[zs[k]?.getD mk0]:=by simp[ZN,List.range_succ]
theorem jfY (zs:List Mk) (k:Nat):(ZN zs k).length=k:=by simp[ZN]
theorem jcB (zs:List Mk) {k:Nat} (hk:k≤zs.length):ZN zs k=zs.take k:=by
 apply List.ext_getElem
 · simp[ZN,hk]
 · intro i h1 h2;have:i<zs.length:=by simp[ZN] at h1;omega
   simp[ZN,this]
theorem jkT (zs:List Mk):ZN zs zs.length=zs:=by rw[jcB zs (Nat.le_refl _),List.take_length]
theorem jgj (F:Fence) (n:Nat) (h7:F.fn 261) (hro:F.round=none) (hn:1≤n) (l Bs n₀ b off len cap:Nat) (zs:List Mk) (hreach:len≤1000000) (hb:b<n₀) (J Jx:List Mk→World→Prop)
 (hY:∀pre x W,J pre W→pre.length<len→YieldAt F (n-1) Tryz.prog l #[.agg #[.string x.1,.int .i64 x.2.1,.float .f64 x.2.2]] W fun e W' =>
   (e=.returned (.bool true)∧J (pre++[x]) W'∧Below n₀ W W')∨(e=.returned (.bool false)∧Jx (pre++[x]) W'))
 (W:World) (hJ:AbidesFrom W.heap.size J) (hnW:n₀≤W.heap.size) (hBs:W.cell? ⟨Bs,0,none⟩=some (.slice (some ⟨b,off,none⟩) len cap))
 (hc:∀j,j<len→W.cell? ⟨b,off+j*3,none⟩=some (.string (zs[j]?.getD mk0).1)∧W.cell? ⟨b,off+j*3+1,none⟩=some (.int .i64 (zs[j]?.getD mk0).2.1)∧W.cell? ⟨b,off+j*3+2,none⟩=some (.float .f64 (zs[j]?.getD mk0).2.2)) (h0:J [] W) :
 CallsIn F n Tryz.prog 261 #[.func (.yield l) #[] #[],.pointer (some ⟨Bs,0,none⟩)] W fun e W'=>(∃v,e=.returned v) ∧
  ((∃ys,ys=ZN zs len∧J ys W')∨(∃pre,(∃k,k≤len∧pre=ZN zs k)∧Jx pre W')):=by
 refine callsIn_of_wp Tryz.func261 rfl h7 ?_ hro;simp only[Tryz.ntmps261,List.size_toArray,List.length_cons,List.length_nil,Nat.reduceAdd,Nat.reduceSub,Array.replicate_succ,Array.replicate_zero,List.push_toArray,List.append_toArray,List.nil_append,List.cons_append];gi_wp2
 gi_loopw [7] (fun i wr=>∃k:Nat,k≤len∧i=.int .i64 k∧J (ZN zs k) wr∧Below n₀ W wr∧W.heap.size≤wr.heap.size)
  (fun i _=>len-(intOf i).toNat)
 case atStart=>exact⟨0,Nat.zero_le _,rfl,h0,Below.refl _ _,Nat.le_refl _⟩
 case round =>
  obtain⟨k,hk,rfl,hJs,hnx,hsz⟩:=hrel;have hcx:k<len→wr.cell? ⟨b,off+k*3,none⟩=some (.string (zs[k]?.getD mk0).1)∧wr.cell? ⟨b,off+k*3+1,none⟩=some (.int .i64 (zs[k]?.getD mk0).2.1)∧wr.cell? ⟨b,off+k*3+2,none⟩=some (.float .f64 (zs[k]?.getD mk0).2.2):=fun h=>⟨(hnx.cell (p:=⟨b,off+k*3,none⟩) hb).trans (hc k h).1,(hnx.cell (p:=⟨b,off+k*3+1,none⟩) hb).trans (hc k h).2.1,(hnx.cell (p:=⟨b,off+k*3+2,none⟩) hb).trans (hc k h).2.2⟩
  by_cases hlt:k<len
  · obtain⟨c0,c1,c2⟩:=hcx hlt;have hus:=lH (jji zs k);obtain⟨y,hy⟩:=eX (zs[k]?.getD mk0)
    rw[hy] at c0 c1 c2 hus;obtain⟨y1,y2,y3⟩:=y;clear hcx hy;obtain⟨w2,hw2⟩:=eX (wr.alloc (.cells #[.string y1,.int .i64 y2,.float .f64 y3] 302))
    have hJ2:J (ZN zs k) w2:=by rw[←hw2];exact hJ _ wr _ none hJs (World.grownBy_alloc _ _ none) (fun r e=>by cases e)
    have hb2:Below n₀ wr w2:=by rw[←hw2];exact(Below.refl _ wr).alloc (by have:=hnx.size;omega) _
    have hs2:W.heap.size≤w2.heap.size:=by rw[←hw2];simp;omega
    obtain⟨fn,tmps,assign,body,hyy,hR⟩:=hY _ (y1,y2,y3) w2 hJ2 (by rw[jfY];exact hlt);dsimp only at hyy;rw[←hw2] at hyy hR;have UB:=lH hw2;clear hw2;gi_wp2
    refine hR.mono ?_;rintro e W3 (⟨rfl,hJ3,hk3⟩ | ⟨rfl,hJx3⟩)
    · rw[UB.out] at hk3;gi_wp2
      go_roundw
      case rel=>exact⟨k+1,by omega,by simp,by rw[hus.out];exact hJ3,hnx.trans (hb2.trans hk3),Nat.le_trans hs2 hk3.size⟩
      case measure=>simp[intOf];omega
    · gi_wp2
      refine bodyPost_ret (results_none rfl _ _ _) rfl ?_;exact⟨⟨_,rfl⟩,.inr ⟨_,⟨k+1,by omega,hus.out.symm⟩,hJx3⟩⟩
  · obtain rfl:k=len:=by omega
    gi_wp2
    go_end0
    exact⟨⟨_,rfl⟩,.inl ⟨_,rfl,hJs⟩⟩
def Mks (n₀:Nat) (W:World) (sv:Value) (zs:List Mk):Prop :=
 ∃a cap,sv=.slice a zs.length cap∧(zs.length=0∨∃b off,a=some ⟨b,off,none⟩∧b<n₀∧∀j,j<zs.length→W.cell? ⟨b,off+j*3,none⟩=some (.string (zs[j]?.getD mk0).1)∧W.cell? ⟨b,off+j*3+1,none⟩=some (.int .i64 (zs[j]?.getD mk0).2.1)∧W.cell? ⟨b,off+j*3+2,none⟩=some (.float .f64 (zs[j]?.getD mk0).2.2))
theorem Mks.below {n₀:Nat} {A B:World} (h:Below n₀ A B) {sv:Value} {zs:List Mk} (hf:Mks n₀ A sv zs):Mks n₀ B sv zs:=by
 obtain⟨a,cap,e,hc⟩:=hf;refine⟨a,cap,e,hc.imp id ?_⟩;rintro ⟨b,off,ea,hb,hc⟩;exact⟨b,off,ea,hb,fun j hj=>⟨(h.cell (p:=⟨b,off+j*3,none⟩) hb).trans (hc j hj).1,(h.cell (p:=⟨b,off+j*3+1,none⟩) hb).trans (hc j hj).2.1,(h.cell (p:=⟨b,off+j*3+2,none⟩) hb).trans (hc j hj).2.2⟩⟩
theorem Reads.mks {w:World} {v:Value} {l:List Mk} (h:Reads MkLay w v l):Mks w.heap.size w v l:=by
 obtain⟨a,cap,rfl,h1,h2,h3⟩:=h;refine⟨a,cap,rfl,?_⟩;rcases Nat.eq_zero_or_pos l.length with hz | hz
 · exact .inl hz
 · rcases h3.form with h4 | ⟨b,off,rfl⟩
   · exact .inl h4
   · obtain⟨-,-,-,hb,-⟩:=h3.cells hz;refine .inr ⟨b,off,rfl,hb,fun j hj=>?_⟩;obtain⟨x,hx,-,-,-,hc⟩:=h3.cells hj;rw[hx];exact⟨hc 0 _ rfl,hc 1 _ rfl,hc 2 _ rfl⟩
theorem jb8 (F:Fence) (n:Nat) (h7:F.fn 261) (hro:F.round=none) (l Bs:Nat) (a:Option Addr) (cap:Nat) (J:List Mk→World→Prop) (W:World) (hBs:W.cell? ⟨Bs,0,none⟩=some (.slice a 0 cap)) (h0:J [] W) :
 CallsIn F n Tryz.prog 261 #[.func (.yield l) #[] #[],.pointer (some ⟨Bs,0,none⟩)] W fun e W'=>(∃v,e=.returned v)∧J [] W':=by
 refine callsIn_of_wp Tryz.func261 rfl h7 ?_ hro;simp only[Tryz.ntmps261,List.size_toArray,List.length_cons,List.length_nil,Nat.reduceAdd,Nat.reduceSub,Array.replicate_succ,Array.replicate_zero,List.push_toArray,List.append_toArray,List.nil_append,List.cons_append];gi_wp2
 gi_loopw [7] (fun i wr=>i=.int .i64 0∧J [] wr) (fun _ _=>0)
 case atStart=>exact⟨rfl,h0⟩
 case round =>
  obtain⟨rfl,hJs⟩:=hrel;gi_wp2
  go_end0
  exact⟨⟨_,rfl⟩,hJs⟩
theorem jfG (a:Option Addr) (len cap:Nat) (w:World) :
 Calls Tryz.prog 232 #[.slice a len cap] w fun e w'=>e=.returned (.func (.func 261) #[] #[.pointer (some ⟨w.heap.size,0,none⟩)])∧w.alloc (.cells #[.slice a len cap] 268)=w':=by
 go_enter Tryz.func232,Tryz.ntmps232;go_wp2;go_ret;exact⟨rfl,rfl⟩
theorem jdx (F:Fence) (n:Nat) (h7:F.fn 261) (hro:F.round=none) (hn:1≤n) (Bs n₀:Nat) (sv:Value) (zs:List Mk) (hreach:zs.length≤1000000) (w:World) (hBs:Bs<w.heap.size) (hn₀:n₀≤w.heap.size)
 (hc:w.cell? ⟨Bs,0,none⟩=some sv) (hI:Mks n₀ w sv zs) :
 SeqStopsK F n Tryz.prog 261 #[.pointer (some ⟨Bs,0,none⟩)] (fun x:Mk=>#[.agg #[.string x.1,.int .i64 x.2.1,.float .f64 x.2.2]]) (Below n₀) (fun ys=>ys=zs) (fun pre=>pre <+: zs) zs.length w:=fun l J Jx W hW hJ _ hY h0=>by
 have hc':=(hW.cell (p:=⟨Bs,0,none⟩) hBs).trans hc;obtain⟨a,cap,rfl,h3⟩:=hI.below (hW.mono hn₀);rcases h3 with hz | ⟨b,off,rfl,hb,hcs⟩
 · have hzs:zs=[]:=List.length_eq_zero_iff.1 hz;subst hzs;exact(jb8 F n h7 hro l Bs a cap J W hc' h0).mono fun e W' ⟨he,hj⟩=>⟨he,.inl ⟨_,rfl,hj⟩⟩
 · refine(jgj F n h7 hro hn l Bs n₀ b off zs.length cap zs hreach hb J Jx hY W hJ (Nat.le_trans hn₀ hW.size) hc' hcs h0).mono ?_;rintro e W' ⟨he,⟨ys,rfl,hj⟩ | ⟨pre,⟨k,hk,rfl⟩,hj⟩⟩
   · exact⟨he,.inl ⟨_,jkT zs,hj⟩⟩
   · exact⟨he,.inr ⟨_,by rw[jcB zs hk];exact List.take_prefix _ _,hj⟩⟩
theorem jjT:(Tryz.prog.info? 302).map (fun i=>(i.zero,i.size,i.bytes))=some (some (.agg #[.string ByteArray.empty,.int .i64 0,.float .f64 0]),3,32):=by kernel_rfl
def jbw (W:World) (q:Nat) (x:Mk):Prop:=W.heap[q]?=some (.cells #[.string x.1,.int .i64 x.2.1,.float .f64 x.2.2] 302 (0,0))
theorem jbw.cells {W:World} {q:Nat} {x:Mk} (h:jbw W q x):W.cell? ⟨q,0,none⟩=some (.string x.1)∧W.cell? ⟨q,1,none⟩=some (.int .i64 x.2.1)∧W.cell? ⟨q,2,none⟩=some (.float .f64 x.2.2) :=
 ⟨by rw[Lib.cell_of_heap h];rfl,by rw[Lib.cell_of_heap h];rfl,by rw[Lib.cell_of_heap h];rfl⟩
theorem jbw.kept {B q:Nat} {x:Mk} {X Y:World} {row:Option Nat} (h:jbw X q x) (hg:X.grownBy Y row) (hrow:∀r,row=some r→B≤r∧∃o:Obj,X.heap[r]?=some o∧o.isCells=false):jbw Y q x :=
 (hg.block q (Array.getElem?_eq_some_iff.1 h).1 (fun e'=>by
   obtain⟨-,o,ho,hc⟩:=hrow q e'.symm;rw[show X.heap[q]?=_ from h] at ho;cases ho;cases hc)).trans h
theorem jfs (w:World) (x:Mk):∀j u,(mkC x)[j]?=some u→(w.alloc (.cells #[.string x.1,.int .i64 x.2.1,.float .f64 x.2.2] 302)).cell? ((⟨w.heap.size,0,none⟩:Addr).add j)=some u:=fun j u h=>by
 match j,h with
 | 0,h=>cases h;simp[Addr.add]
 | 1,h=>cases h;simp[Addr.add]
 | 2,h=>cases h;simp[Addr.add]
 | j+3,h=>cases h
def jly (base:Nat) (W:World) (v:Value) (zs:List Mk):Prop:=W.ownsRow base 302 3 v zs.length (zs.flatMap mkC)∧(v=.slice none 0 0↔zs=[])
theorem jdG (F:Fence) (n:Nat) (h3:F.fn 273) (h5:F.fn 261) (hro:F.round=none) (hn:3≤n) (Bs:Nat) (sv:Value) (xs:List Mk) (hlen:xs.length≤1000000) (w:World)
 (hBs:Bs<w.heap.size) (hcs:w.cell? ⟨Bs,0,none⟩=some sv) (hL:Mks w.heap.size w sv xs) :
 CallsIn F n Tryz.prog 273 #[.slice none 0 0,.func (.func 261) #[] #[.pointer (some ⟨Bs,0,none⟩)]] w fun e W'=>∃v,e=.returned v∧jly w.heap.size W' v xs∧Below w.heap.size w W':=by
 have h1:1≤n:=by omega
 obtain⟨i0,hi,hz0,hz1,hz2⟩:=info_parts jjT;refine callsIn_of_wp_marks Tryz.func273 rfl h3 ?_ hro;simp only[Tryz.ntmps273,List.size_toArray,List.length_cons,List.length_nil,Nat.reduceAdd,Nat.reduceSub,Array.replicate_succ,Array.replicate_zero,List.push_toArray,List.append_toArray,List.nil_append,List.cons_append];gi_wp2
 have bO:=Boxed.new w 268 (.slice none 0 0);have hB0:Below w.heap.size w (w.alloc (.cells #[.slice none 0 0] 268)):=(Below.refl _ w).alloc (Nat.le_refl _) _
 refine wpIn_rangeFunc_ownH hro h1 (gf:=261) (lb:=#[.pointer (some ⟨Bs,0,none⟩)]) rfl h5 (enters_of Tryz.func261 (by kernel_rfl) rfl)
  (jdx F (n-1) h5 hro (by omega) Bs w.heap.size sv xs hlen _ (by simp;omega) (by simp) ((hB0.cell (p:=⟨Bs,0,none⟩) hBs).trans hcs) (hL.below hB0)) belowK_t (belowK_b (by simp)) (Below.refl _ _) (fun _=>rfl)
  (fun pre W=>(∃v,Boxed W w.heap.size 268 v∧W.ownsRow w.heap.size 302 3 v pre.length (pre.flatMap mkC)∧(v=.slice none 0 0↔pre=[]))∧Below w.heap.size w W)
  (fun _ _ _=>False)
  (OwnFrom.and (Go.Own.from (holdsRow_own w.heap.size w.heap.size 268 302 3 (fun pre=>pre.length) (fun pre=>pre.flatMap mkC) (fun pre v=>v=.slice none 0 0↔pre=[])) _) (ownFrom_below (Nat.le_refl _) (by simp)))
  (fun _ _ _ _ _ hs _ _=>hs)
  ⟨⟨_,bO,World.ownsRow_nil _ _ _ _,by simp⟩,hB0⟩
  (fun x a' W=>∃q,a'={ tmps:=#[.slice none 0 0,.func (.func 261) #[] #[.pointer (some ⟨Bs,0,none⟩)],.pointer (some ⟨w.heap.size,0,none⟩),undef,.slice none 0 0,.pointer (some ⟨q,0,none⟩),.func (.func 261) #[] #[.pointer (some ⟨Bs,0,none⟩)],.agg #[.string x.1,.int .i64 x.2.1,.float .f64 x.2.2],undef,undef,undef,undef,undef],defers:=[] }∧jbw W q x)
  (fun x a' s X Y row hs hg hr=>by
    obtain⟨q,e,hb⟩:=hs;exact⟨q,e,hb.kept hg hr⟩) ?assign ?body ?done ?stop
 case assign =>
  rintro l pre x W K ⟨⟨v,hv,hrow,hnil⟩,hB⟩ hK;have hle:w.heap.size≤W.heap.size:=hB.size;gi_wp2
  exact hK _ _ (KeepsFrom.of_grownBy (World.grownBy_alloc W _ none) (by simp)) ((Below.refl _ W).alloc hle _) ⟨⟨v,hv.alloc _,hrow.alloc _,hnil⟩,hB.alloc hle _⟩ ⟨W.heap.size,rfl,World.alloc_heap_new W _⟩
 case body =>
  rintro l pre x a' W hwl hrl ⟨⟨v,hv,hrow,hnil⟩,hB⟩ ⟨q,rfl,hbx⟩ hlt;have hc:=hv.cell;obtain⟨e0,e1,e2⟩:=hbx.cells;gi_wp2_with (gi_at_builtin;refine wpListIn_append_own _ rfl _ _ 268 rfl w.heap.size 302 i0 (.agg #[.string ByteArray.empty,.int .i64 0,.float .f64 0]) 3 32 Tryz.underlying268 hi hz0 hz1 hz2 rfl (by decide) _ _ _ rfl (hrow.alloc _) ⟨W.heap.size,0,none⟩ 1 1 (mkC x) rfl rfl (jfs W x) (jcx x) (by unfold maxLen;omega) (by omega) (by have:=hB.size;simp;omega) ?_;intro v' w1 hown' hgrow _;obtain⟨g',cap',rfl⟩:=ownsRow_succ hown';obtain⟨hv1,hv2,hr2,hk2,hb2⟩:=hv.appended (by decide) hrow hB.size (Nat.le_refl _) hown' hgrow;have hc1:=hv1.cell;have hf1:=hv1.frozen)
  exact⟨hk2.from _,hb2,⟨_,hv2,by simpa using hr2,by simp⟩,hB.trans hb2⟩
 case done =>
  rintro D ys W hD rfl ⟨⟨v,hv,hrow,hnil⟩,hB⟩ hK;have hc:=hv.cell;gi_wp2
  refine⟨by simp,.inl ⟨_,_,rfl,run_takeDeferred hK,?_⟩⟩;exact⟨_,results_tmp rfl _ _ _,v,rfl,⟨ownsRow_putObj hrow _ hK rfl,hnil⟩,hB.trans (belowK_b (w:=w) (Nat.le_refl _) W D _ _ (by simp at hD;omega) hK rfl rfl)⟩
 case stop =>
  rintro D c pre W _ _ h _;exact h.elim
theorem jeL (Bs:Nat) (sv:Value) (xs:List Mk) (hlen:xs.length≤1000000) (w:World) (hBs:Bs<w.heap.size) (hcs:w.cell? ⟨Bs,0,none⟩=some sv) (hL:Mks w.heap.size w sv xs) :
 Calls Tryz.prog 259 #[.func (.func 261) #[] #[.pointer (some ⟨Bs,0,none⟩)]] w fun e W'=>∃v,e=.returned v∧jly w.heap.size W' v xs∧Below w.heap.size w W':=by
 have hA:Calls Tryz.prog 273 #[.slice none 0 0,.func (.func 261) #[] #[.pointer (some ⟨Bs,0,none⟩)]] w _ :=
  callsIn_wide.1 (jdG Fence.wide 3 trivial trivial rfl (by omega) Bs sv xs hlen w hBs hcs hL)
 have HC:=lH hA;clear hA hBs hcs hL;go_enter Tryz.func259,Tryz.ntmps259;go_wp2_with fail
 refine HC.out.mono ?_;rintro e w1 ⟨v,rfl,ho,hb⟩;have HO:=lH ho;have HB:=lH hb;clear ho hb;go_wp2_with fail
 go_ret;exact⟨v,rfl,HO.out,HB.out⟩
end Go.Proofs.YtibepooajeakfaaGreat
namespace Go.Proofs.YtibepooajeakfaaGreat
open Go.RowKit
theorem jb6 (s1 s2 s3:Option Addr) (n1 e1 n2 e2 n3 e3:Nat) (a1 a2 a3 a4:Option Addr) (m1 c1 m2 c2 m3 c3 m4 c4:Nat) (p:Pd) (s:Clu) (w:World) (hs:jC w (Jk (.slice s1 n1 e1) (.slice s2 n2 e2) (.slice s3 n3 e3)) s) (hl:jE s) (hp:ji w (.slice a1 m1 c1) (.slice a2 m2 c2) (.slice a3 m3 c3) (.slice a4 m4 c4) p):Calls Tryz.prog 20 #[.agg #[.slice s1 n1 e1,.slice s2 n2 e2,.slice s3 n3 e3],jx p (.slice a1 m1 c1) (.slice a2 m2 c2) (.slice a3 m3 c3) (.slice a4 m4 c4)] w fun e w'=>∃v,e=.returned v∧Own zt 9 w' w.heap.size v (zO s p s.nodes)∧Kept w w':=by
 obtain⟨i0,hi,hz0,hz1,hz2'⟩:=info_parts jj1;obtain⟨Z,hZ⟩:=eX ((w.alloc (.cells #[.slice s1 n1 e1,.slice s2 n2 e2,.slice s3 n3 e3] 26)).alloc (.cells #[.string p.name,.string p.owner,.int .i64 p.prio,.slice a1 m1 c1,.slice a2 m2 c2,.slice a3 m3 c3,.slice a4 m4 c4,.string p.key,.int .i64 p.most,.string p.node,.bool p.hold] 52))
 have hkz:Kept w Z:=by rw[←hZ];exact jn _ _ _
 have Vj:=lH (jc w (.slice s1 n1 e1) [.slice s2 n2 e2,.slice s3 n3 e3] 26 Z (by rw[←hZ];exact ja _ _));have Vg:=lH (show jf (w.heap.size+1) [.string p.name,.string p.owner,.int .i64 p.prio,.slice a1 m1 c1,.slice a2 m2 c2,.slice a3 m3 c3,.slice a4 m4 c4,.string p.key,.int .i64 p.most,.string p.node,.bool p.hold] Z by
  have dd:=jc (w.alloc (.cells #[.slice s1 n1 e1,.slice s2 n2 e2,.slice s3 n3 e3] 26)) (.string p.name) [.string p.owner,.int .i64 p.prio,.slice a1 m1 c1,.slice a2 m2 c2,.slice a3 m3 c3,.slice a4 m4 c4,.string p.key,.int .i64 p.most,.string p.node,.bool p.hold] 52 Z (by rw[hZ];exact Kept.refl _);rw[World.size_alloc] at dd;exact dd)
 obtain⟨K,HS,HP,HL⟩:=lH4 hkz (hs.kept hkz) (hp.kept hkz) hl;clear hs hp hkz hl;have VR:=lH HS.out.nAt.2;have hb1:n1≤100000:=by have:=HL.out.nodesN;have:=VR.out;omega
 have HN:=lH HS.out.nAt.1;have Un:=lH (jnd s1 s2 s3 n1 e1 n2 e2 n3 e3 a1 a2 a3 a4 m1 c1 m2 c2 m3 c3 m4 c4 p s Z HS.out HL.out HP.out);unfold jx at Un;obtain⟨y0,y1,y2⟩:=Vj.out.at3;obtain⟨r0,r1,r2,r3,r4,r5,r6,r7,r8,r9,r10⟩:=Vg.out.at11;unfold jx;go_enter Tryz.func20,Tryz.ntmps20;go_wp2_with fail
 try rw[hZ]
 clear hZ;refine Un.out.mono ?_;rintro e w1 ⟨v9,rfl,hr,kk⟩;obtain⟨Vj,HN,K⟩:=lH3 (Vj.out.kept kk) (HN.out.kept kk) (K.out.trans kk);obtain⟨wa,wc,rfl,-,-,hrow⟩:=hr.reads;rw[jb7,←VR.out] at hrow;rw[jb7,←VR.out];have U2:=lH hrow;clear kk hrow Un HP Vg y0 y1 y2 r0 r1 r2 r3 r4 r5 r6 r7 r8 r9 r10;go_wp2;go_loopw [5,12] (fun v i wr=>∃k:Nat,k≤n1∧i=.int .i64 k∧∃la:List ByteArray,zO s p (s.nodes.take k)=la∧Own zt 9 wr w1.heap.size v la∧Kept w1 wr) (fun _ i _=>n1-(intOf i).toNat)
 case atStart=>exact⟨0,Nat.zero_le _,rfl,[],rfl,Own.nil _ _ _,Kept.refl _⟩
 case round =>
  obtain⟨k,hk,rfl,la,hla,ho,hK⟩:=hrel;obtain⟨HX,HO,HK⟩:=lH3 hla ho hK;obtain⟨m,hm⟩:=eX (la.length)
  have hmk:m≤k:=by
   have:=jbn s p (s.nodes.take k);rw[hla,hm,List.length_take] at this;omega
  have HT:=lH hm;have hbase:w1.heap.size≤wr.heap.size:=hK.size;by_cases hlt:k<n1
  · obtain⟨g,off,rfl⟩:=HN.out.form.resolve_left (by omega);obtain⟨n,b1,q1,f1,b2,q2,f2,b3,q3,f3,hn,hd,hb,u0,u1,u2,u3,u4,hat⟩:=(HN.out.kept hK).at_ hlt;obtain⟨bw,offw,rfl⟩:=U2.out.form.resolve_left (by omega);obtain⟨c,hc,-,-,cw⟩:=(U2.out.kept hK).err hlt;obtain⟨T4,UI,Th⟩:=lH3 hat.size (jh7 (s:=s) (p:=p) hn) (show qj s p n.name=c by rw[jne hn] at hc;exact Option.some.inj hc);have hkk:(k:Int)<(n1:Int):=by omega
    have hk0:¬(k:Int)<0:=by omega
    have y0:=(Vj.out.kept hK).at_ 0 _ rfl;clear hd hb hn hc hat hla ho hm hK;obtain⟨xn,hxn⟩:=eX (n.name)
    rw[hxn] at u0 T4 UI Th;clear hxn;by_cases h0:c=0
    · subst h0;have HV:=lH (show zO s p (s.nodes.take (k+1))=la++[xn] by rw[UI.out,HX.out,if_pos Th.out]);have VF:=lH (show wr.ownsRow w1.heap.size 9 1 u5 m (je zt la) by have:=HO.out.1;rw[HT.out] at this;exact this);go_wp2_with (at_builtin;refine wpList_append_lies _ rfl _ _ _ rfl w1.heap.size 9 i0 _ 1 16 Tryz.underlying72 hi hz0 hz1 hz2' rfl (by decide) u5 m (je zt la) rfl (VF.out.alloc _) ⟨wr.heap.size,0,none⟩ 1 1 (zt.cs xn) rfl rfl (World.news_of_block (cs:=#[.string xn]) (t:=9) (fr:=(0,0)) (heap_alloc_new wr _)) (jfK xn) (by decide) (by unfold maxLen;omega) (by omega) (by simp;omega) (wr.heap.size+1) (by simp) ?_;intro gg cap1 w4 hown1 hgrow hat hlt1)
      have VQ:=lH ((show Below w1.heap.size w1 _ from HK.out.trans (ja wr _)).grown hgrow (by simp;omega) (fun j hj=>(VF.out.lt j hj).1));go_wp2;go_roundw
      case rel=>exact⟨k+1,by omega,by go_num,la++[xn],HV.out,Own.snoc hown1 (by rw[HT.out]) HO.out.2 T4.out,VQ.out⟩
      case measure=>simp[intOf];omega
    · have h0b:(c==0)=false:=by simpa using h0
      have HV:=lH (show zO s p (s.nodes.take (k+1))=la by rw[UI.out,HX.out,if_neg (by rw[Th.out];exact h0),List.append_nil]);clear h0;go_wp2;go_roundw
      case rel=>exact⟨k+1,by omega,by go_num,la,HV.out,HO.out,HK.out⟩
      case measure=>simp[intOf];omega
  · have hge:¬(k:Int)<(n1:Int):=by omega
    have HE:=lH (show zO s p s.nodes=la by rw[←hla,List.take_of_length_le (by rw[←VR.out];omega)]);clear hla ho hm hK;go_wp2;go_ret;exact⟨_,rfl,by rw[HE.out];exact HO.out.base_le K.out.size,K.out.trans HK.out⟩
end Go.Proofs.YtibepooajeakfaaGreat
