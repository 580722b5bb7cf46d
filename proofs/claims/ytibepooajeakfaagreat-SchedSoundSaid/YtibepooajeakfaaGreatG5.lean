/- C. -/
import Derived.Test.YtibepooajeakfaaGreatG0
import Derived.Test.YtibepooajeakfaaGreatG1
import Derived.Test.YtibepooajeakfaaGreatG2
import Derived.Test.YtibepooajeakfaaGreatG3
import Derived.Test.YtibepooajeakfaaGreatG4
set_option linter.unusedVariables false
set_option maxRecDepth 100000
set_option maxHeartbeats 25600000
namespace Go.Proofs.YtibepooajeakfaaGreat
open Go.ChangeShapes Go.WideShapes Go.ChangeAt Go.RowKit Go.Deep
def jft (w:World):Lay BX:={ m:=3,cs:=zv.cs,fine:=At1 w,len:=fun _=>rfl,one:=zv.one,pos:=by decide }
theorem jhV:Tryz.prog.cellsOf 108=3:=by kernel_rfl
theorem jgb {H:Type} {enc:TypeId×Value→H} {w:World} {base fuel:Nat} {sp:Nat→Bool} {held:Bool} {cs:List Value} {x:DataW H×List MemPlace} (h:DataW.trod enc Tryz.prog w base sp held fuel 108 cs=some x) :
 ∃a:BX,cs=(jft w).cs a∧(jft w).fine a:=by
 obtain⟨ys,m,-,-,hlen,hyl,hf⟩:=DataW.trod_struct Tryz.underlying108 h;rw[jhV] at hlen
 match cs,hlen with
 | [c0,c1,c2],_ =>
  have h0:DataW.trod enc Tryz.prog w base sp held m 9 (([c0,c1,c2].drop 0).take (Tryz.prog.cellsOf 9))=ys[0]?:=hf 0 _ rfl;have h1:DataW.trod enc Tryz.prog w base sp held m 49 (([c0,c1,c2].drop 1).take (Tryz.prog.cellsOf 49))=ys[1]?:=hf 1 _ rfl;have h2:DataW.trod enc Tryz.prog w base sp held m 3 (([c0,c1,c2].drop 2).take (Tryz.prog.cellsOf 3))=ys[2]?:=hf 2 _ rfl;rw[ZG] at h0;rw[jhC] at h1;rw[qB] at h2;obtain⟨y0,e0⟩:∃y,ys[0]?=some y:=⟨_,List.getElem?_eq_getElem (by rw[hyl];decide)⟩
  rw[e0] at h0;obtain⟨y1,e1⟩:∃y,ys[1]?=some y:=⟨_,List.getElem?_eq_getElem (by rw[hyl];decide)⟩
  rw[e1] at h1;obtain⟨y2,e2⟩:∃y,ys[2]?=some y:=⟨_,List.getElem?_eq_getElem (by rw[hyl];decide)⟩
  rw[e2] at h2;simp only[List.drop_zero,List.take_succ_cons,List.take_zero,List.drop_succ_cons] at h0 h1 h2;obtain⟨s0,q0,-,z0⟩:=DataW.trod_string Tryz.underlying9 h0;obtain⟨l3,r5⟩:=jbM h1;obtain⟨s2,q2,-,z2⟩:=DataW.trod_int Tryz.underlying3 h2;have r5':=r5;obtain⟨a1,d1,rfl,-⟩:=r5';simp only[List.cons.injEq,and_true] at q0 q2;subst q0;subst q2;exact⟨(⟨s0,l3,s2⟩,(a1,l3.length,d1)),rfl,⟨z0,bounds_i64 z2,r5⟩⟩
theorem jff {H:Type} {enc:TypeId×Value→H} {w:World} {base fuel:Nat} {sp:Nat→Bool} {held:Bool} {v:Value} {x:DataW H×List MemPlace} (h:DataW.trod enc Tryz.prog w base sp held fuel 24 [v]=some x):∃l,Zg w v l:=by
 obtain⟨l,a,cap,rfl,h1,h2,h3⟩:=zJ (jft w) Tryz.underlying24 jhV (fun _ _ _ h=>jgb h) h;obtain⟨g0,g1,g2,g3⟩:=h3;refine⟨l.map (fun z=>z.1),a,cap,by rw[List.length_map],by rw[List.length_map];exact h1,h2,rfl,by rw[List.length_map];exact g1,?_⟩;rw[List.length_map];rcases g3 with g3 | ⟨b,off,rfl,hb,hc⟩
 · exact .inl g3
 · refine .inr ⟨b,off,rfl,hb,fun i n hi=>?_⟩;rw[List.getElem?_map] at hi;obtain⟨z,hz,rfl⟩:=Option.map_eq_some_iff.1 hi;exact⟨slV z.2,hc i z 0 _ hz rfl,hc i z 1 _ hz rfl,hc i z 2 _ hz rfl,g2 z (List.mem_of_getElem? hz)⟩
open Go.RowKit
theorem jbT (n:Pd) (v1 v2 v3 v4:Value) (w:World):Calls Tryz.prog 141 #[jy n v1 v2 v3 v4] w fun e w'=>e=.returned (.string n.name)∧Kept w w':=by
 unfold jy;go_enter Tryz.func141,Tryz.ntmps141;go_wp2;go_ret;exact⟨rfl,ja _ _⟩
def JN (l:List Pd) (x:ByteArray):Option Pd:=l.find? fun n=>eqS n.name x
def jW:Option ByteArray→List Pd→Int
 | _,[]=>0
 | prev,n::t=>if zG n≠0 then zG n else if Vec.jK prev n.name=true then 13 else jW (some n.name) t
def jD (l:List Pd):Int:=if 128<l.length then 4 else jW none l
def ZB (l:List Pd) (k:Nat):Option ByteArray:=if k=0 then none else (l[k-1]?).map Pd.name
theorem jbR {l:List Pd} {k:Nat} (h:k=0) (s:ByteArray):Vec.jK (ZB l k) s=false:=by unfold ZB;rw[if_pos h];rfl
theorem jbW {l:List Pd} {k:Nat} {n:Pd} (h:¬k=0) (hn:l[k-1]?=some n) (s:ByteArray):Vec.jK (ZB l k) s=leS s n.name:=by unfold ZB;rw[if_neg h,hn];rfl
theorem jbQ {l:List Pd} {k:Nat} {n:Pd} (hn:l[k]?=some n):ZB l (k+1)=some n.name:=by unfold ZB;rw[if_neg (by omega),Nat.add_sub_cancel,hn];rfl
theorem jan {p:Option ByteArray} {n:Pd} {t:List Pd} (h:zG n≠0):jW p (n::t)=zG n:=by rw[jW,if_pos h]
theorem Xz {p:Option ByteArray} {n:Pd} {t:List Pd} (h:zG n=0) (b:Vec.jK p n.name=true):jW p (n::t)=13:=by rw[jW,if_neg (by rw[h];decide),if_pos b]
theorem ZT {p:Option ByteArray} {n:Pd} {t:List Pd} (h:zG n=0) (b:Vec.jK p n.name=false):jW p (n::t)=jW (some n.name) t:=by rw[jW,if_neg (by rw[h];decide),if_neg (by rw[b];decide)]
theorem jdH (a:Option Addr) (len cap:Nat) (l:List Pd) (w:World) (hr:jx w a len l) :
 Calls Tryz.prog 140 #[.slice a len cap,.int .i64 128,.func (.func 141) #[] #[],.func (.func 142) #[] #[]] w (Say (.int .i64 (jD l)) w):=by
 have hl:=hr.1;have hm:=hr.2.1;unfold maxLen at hm;by_cases h32:128<len
 · have HV:=lH (show jD l=4 by unfold jD;rw[if_pos (by omega)]);clear hr hl;go_enter Tryz.func140,Tryz.ntmps140;go_wp2;go_ret;exact⟨jb HV.out.symm,Kept.refl _⟩
 · have HV:=lH (show jD l=jW none l by unfold jD;rw[if_neg (by omega)]);have h32':len≤128:=by omega
   by_cases h0:len=0
   · subst h0;have HE:=lH (show jD l=0 by rw[HV.out,List.eq_nil_of_length_eq_zero hl];rfl);clear hr hl h32;go_enter Tryz.func140,Tryz.ntmps140;go_wp2;refine wp_loop_rounds 1 ?_;rw[rounds_succ];go_wp2;go_ret;exact⟨jb HE.out.symm,Kept.refl _⟩
   · obtain⟨b,off,rfl⟩:=hr.form.resolve_left h0;have HR:=lH hr;have HL:=lH hl;clear hr hl h0 h32;go_enter Tryz.func140,Tryz.ntmps140;go_wp2;go_loopw [18] (fun i wr=>∃k:Nat,k≤len∧i=.int .i64 k∧jW (ZB l k) (l.drop k)=jW none l∧Kept w wr) (fun i _=>len-(intOf i).toNat)
     case atStart=>exact⟨0,Nat.zero_le _,rfl,rfl,Kept.refl _⟩
     case round =>
      obtain⟨k,hk,rfl,hrest,hK⟩:=hrel;obtain⟨HS,HT,HK⟩:=lH3 (HV.out.trans hrest.symm) hrest hK;by_cases hlt:k<len
      · obtain⟨n,a1,m1,c1,a2,m2,c2,a3,m3,c3,a4,m4,c4,hn,hd,hb,p0,p1,p2,p3,p4,p5,p6,p7,p8,p9,p10,hat⟩:=(HR.out.kept hK).at_ hlt;obtain⟨VH,HD,VD⟩:=lH3 hat hd (jbQ hn);have VE:=lH (fun W (kk:Kept wr W)=>jic n (.slice a1 m1 c1) (.slice a2 m2 c2) (.slice a3 m3 c3) (.slice a4 m4 c4) W (VH.out.kept kk));have Uu:=lH (fun W=>jbT n (.slice a1 m1 c1) (.slice a2 m2 c2) (.slice a3 m3 c3) (.slice a4 m4 c4) W);unfold jy at VE Uu;obtain⟨ck,hck⟩:=eX (zG n)
        have VG:=lH hck;rw[hck] at VE;have hkk:(k:Int)<(len:Int):=by omega
        clear hrest hK hat hd hck;by_cases z1:ck=0
        · subst z1;by_cases h0:k=0
          · have hd0:decide (0<k)=false:=by subst h0;decide
            have HP:=lH (jbR (l:=l) h0 n.name);clear h0;go_wp2_with fail
            refine(VE.out _ (ja _ _)).mono ?_;rintro e w1 ⟨rfl,kk⟩;have KW:=lH (Kept.trans (ja _ _) kk);have Vd:=lH (fun W k=>jc wr (.string n.name) [.string n.owner,.int .i64 n.prio,.slice a1 m1 c1,.slice a2 m2 c2,.slice a3 m3 c3,.slice a4 m4 c4,.string n.key,.int .i64 n.most,.string n.node,.bool n.hold] 52 W (Kept.trans kk k));have y0:=(Vd.out w1 (Kept.refl _)).at_ 0 _ rfl;have y1:=(Vd.out w1 (Kept.refl _)).at_ 1 _ rfl;have y2:=(Vd.out w1 (Kept.refl _)).at_ 2 _ rfl;have y3:=(Vd.out w1 (Kept.refl _)).at_ 3 _ rfl;have y4:=(Vd.out w1 (Kept.refl _)).at_ 4 _ rfl;have y5:=(Vd.out w1 (Kept.refl _)).at_ 5 _ rfl;have y6:=(Vd.out w1 (Kept.refl _)).at_ 6 _ rfl;have y7:=(Vd.out w1 (Kept.refl _)).at_ 7 _ rfl;have y8:=(Vd.out w1 (Kept.refl _)).at_ 8 _ rfl;have y9:=(Vd.out w1 (Kept.refl _)).at_ 9 _ rfl;have y10:=(Vd.out w1 (Kept.refl _)).at_ 10 _ rfl;clear kk;go_wp2;go_quiet (fail)
            go_wp2;go_roundw
            case rel=>exact⟨k+1,by omega,by go_num,(show jW (ZB l (k+1)) (l.drop (k+1))=jW none l by rw[←HT.out,HD.out,ZT VG.out HP.out,VD.out]),HK.out.trans (KW.out.trans (Kept.drewN _ _))⟩
            case measure=>simp[intOf];omega
          · have hd0:decide (0<k)=true:=by simp;omega
            obtain⟨q,hqk⟩:∃q,k=q+1:=⟨k-1,by omega⟩
            have g1:(k:Int)-1=(q:Int):=by omega
            have gw:IntKind.i64.wrap (q:Int)=(q:Int):=by rw[IntKind.wrap_i64];omega
            have g2:(q:Int)<(len:Int):=by omega
            obtain⟨n9,b1,h1,d1,b2,h2,d2,b3,h3,d3,b4,h4,d4,hn9,-,hb9,q0,q1,q2,q3,q4,q5,q6,q7,q8,q9,q10,-⟩:=(HR.out.kept HK.out).at_ (show q<len by omega);have RJ:=lH hqk;have hqk1:k-1=q:=by omega
            have HP:=lH (jbW (l:=l) h0 (show l[k-1]?=some n9 by rw[hqk1];exact hn9) n.name);clear hqk hqk1;have Vv:=lH (fun W=>jbT n9 (.slice b1 h1 d1) (.slice b2 h2 d2) (.slice b3 h3 d3) (.slice b4 h4 d4) W);unfold jy at Vv;clear h0 hn9;by_cases n3:leS n.name n9.name=true
            · have n3':(Op.bytesLess n.name.toList n9.name.toList||n.name.toList==n9.name.toList)=true:=n3;have N3:=lH n3;clear n3;go_wp2_with fail
              refine(VE.out _ (ja _ _)).mono ?_;rintro e w1 ⟨rfl,kk⟩;have KW:=lH (Kept.trans (ja _ _) kk);have Vd:=lH (fun W k=>jc wr (.string n.name) [.string n.owner,.int .i64 n.prio,.slice a1 m1 c1,.slice a2 m2 c2,.slice a3 m3 c3,.slice a4 m4 c4,.string n.key,.int .i64 n.most,.string n.node,.bool n.hold] 52 W (Kept.trans kk k));have y0:=(Vd.out w1 (Kept.refl _)).at_ 0 _ rfl;have y1:=(Vd.out w1 (Kept.refl _)).at_ 1 _ rfl;have y2:=(Vd.out w1 (Kept.refl _)).at_ 2 _ rfl;have y3:=(Vd.out w1 (Kept.refl _)).at_ 3 _ rfl;have y4:=(Vd.out w1 (Kept.refl _)).at_ 4 _ rfl;have y5:=(Vd.out w1 (Kept.refl _)).at_ 5 _ rfl;have y6:=(Vd.out w1 (Kept.refl _)).at_ 6 _ rfl;have y7:=(Vd.out w1 (Kept.refl _)).at_ 7 _ rfl;have y8:=(Vd.out w1 (Kept.refl _)).at_ 8 _ rfl;have y9:=(Vd.out w1 (Kept.refl _)).at_ 9 _ rfl;have y10:=(Vd.out w1 (Kept.refl _)).at_ 10 _ rfl;have HO:=lH (show ∀W,Kept w1 W→(W.cell? ⟨wr.heap.size,0,none⟩=some (.string n.name)∧W.cell? ⟨wr.heap.size,1,none⟩=some (.string n.owner)∧W.cell? ⟨wr.heap.size,2,none⟩=some (.int .i64 n.prio)∧W.cell? ⟨wr.heap.size,3,none⟩=some (.slice a1 m1 c1)∧W.cell? ⟨wr.heap.size,4,none⟩=some (.slice a2 m2 c2)∧W.cell? ⟨wr.heap.size,5,none⟩=some (.slice a3 m3 c3)∧W.cell? ⟨wr.heap.size,6,none⟩=some (.slice a4 m4 c4)∧W.cell? ⟨wr.heap.size,7,none⟩=some (.string n.key)∧W.cell? ⟨wr.heap.size,8,none⟩=some (.int .i64 n.most)∧W.cell? ⟨wr.heap.size,9,none⟩=some (.string n.node)∧W.cell? ⟨wr.heap.size,10,none⟩=some (.bool n.hold))∧(W.cell? ⟨b,off+q*11,none⟩=some (.string n9.name)∧W.cell? ⟨b,off+q*11+1,none⟩=some (.string n9.owner)∧W.cell? ⟨b,off+q*11+2,none⟩=some (.int .i64 n9.prio)∧W.cell? ⟨b,off+q*11+3,none⟩=some (.slice b1 h1 d1)∧W.cell? ⟨b,off+q*11+4,none⟩=some (.slice b2 h2 d2)∧W.cell? ⟨b,off+q*11+5,none⟩=some (.slice b3 h3 d3)∧W.cell? ⟨b,off+q*11+6,none⟩=some (.slice b4 h4 d4)∧W.cell? ⟨b,off+q*11+7,none⟩=some (.string n9.key)∧W.cell? ⟨b,off+q*11+8,none⟩=some (.int .i64 n9.most)∧W.cell? ⟨b,off+q*11+9,none⟩=some (.string n9.node)∧W.cell? ⟨b,off+q*11+10,none⟩=some (.bool n9.hold)) from fun W k=>⟨⟨(Vd.out W k).at_ 0 _ rfl,(Vd.out W k).at_ 1 _ rfl,(Vd.out W k).at_ 2 _ rfl,(Vd.out W k).at_ 3 _ rfl,(Vd.out W k).at_ 4 _ rfl,(Vd.out W k).at_ 5 _ rfl,(Vd.out W k).at_ 6 _ rfl,(Vd.out W k).at_ 7 _ rfl,(Vd.out W k).at_ 8 _ rfl,(Vd.out W k).at_ 9 _ rfl,(Vd.out W k).at_ 10 _ rfl⟩,⟨cell_later (KW.out.trans k) q0,cell_later (KW.out.trans k) q1,cell_later (KW.out.trans k) q2,cell_later (KW.out.trans k) q3,cell_later (KW.out.trans k) q4,cell_later (KW.out.trans k) q5,cell_later (KW.out.trans k) q6,cell_later (KW.out.trans k) q7,cell_later (KW.out.trans k) q8,cell_later (KW.out.trans k) q9,cell_later (KW.out.trans k) q10⟩⟩);clear kk q0 q1 q2 q3 q4 q5 q6 q7 q8 q9 q10;go_wp2
              go_region_held3 (fun W=>(W.cell? ⟨wr.heap.size,0,none⟩=some (.string n.name)∧W.cell? ⟨wr.heap.size,1,none⟩=some (.string n.owner)∧W.cell? ⟨wr.heap.size,2,none⟩=some (.int .i64 n.prio)∧W.cell? ⟨wr.heap.size,3,none⟩=some (.slice a1 m1 c1)∧W.cell? ⟨wr.heap.size,4,none⟩=some (.slice a2 m2 c2)∧W.cell? ⟨wr.heap.size,5,none⟩=some (.slice a3 m3 c3)∧W.cell? ⟨wr.heap.size,6,none⟩=some (.slice a4 m4 c4)∧W.cell? ⟨wr.heap.size,7,none⟩=some (.string n.key)∧W.cell? ⟨wr.heap.size,8,none⟩=some (.int .i64 n.most)∧W.cell? ⟨wr.heap.size,9,none⟩=some (.string n.node)∧W.cell? ⟨wr.heap.size,10,none⟩=some (.bool n.hold))∧(W.cell? ⟨b,off+q*11,none⟩=some (.string n9.name)∧W.cell? ⟨b,off+q*11+1,none⟩=some (.string n9.owner)∧W.cell? ⟨b,off+q*11+2,none⟩=some (.int .i64 n9.prio)∧W.cell? ⟨b,off+q*11+3,none⟩=some (.slice b1 h1 d1)∧W.cell? ⟨b,off+q*11+4,none⟩=some (.slice b2 h2 d2)∧W.cell? ⟨b,off+q*11+5,none⟩=some (.slice b3 h3 d3)∧W.cell? ⟨b,off+q*11+6,none⟩=some (.slice b4 h4 d4)∧W.cell? ⟨b,off+q*11+7,none⟩=some (.string n9.key)∧W.cell? ⟨b,off+q*11+8,none⟩=some (.int .i64 n9.most)∧W.cell? ⟨b,off+q*11+9,none⟩=some (.string n9.node)∧W.cell? ⟨b,off+q*11+10,none⟩=some (.bool n9.hold)))
               (first | exact HO.out _ (Kept.drew _) | exact HO.out _ J1.out | exact HO.out _ J2.out)
               (first | (go_at_call 141;refine(Uu.out _).mono ?_;rintro e1 w2 ⟨rfl,k1⟩;have J1:=lH ((Kept.drew _).trans k1);clear k1)
                      | (go_at_call 141;refine(Vv.out _).mono ?_;rintro e2 w3 ⟨rfl,k1⟩;have J2:=lH (J1.out.trans k1);clear k1))
              go_wp2;go_ret;exact⟨jb (show (13:Int)=jD l by rw[HS.out,HD.out,Xz VG.out (HP.out.trans N3.out)]),HK.out.trans (KW.out.trans J2.out)⟩
            · have n3:leS n.name n9.name=false:=by simpa using n3
              have n3':(Op.bytesLess n.name.toList n9.name.toList||n.name.toList==n9.name.toList)=false:=n3;have N3:=lH n3;clear n3;go_wp2_with fail
              refine(VE.out _ (ja _ _)).mono ?_;rintro e w1 ⟨rfl,kk⟩;have KW:=lH (Kept.trans (ja _ _) kk);have Vd:=lH (fun W k=>jc wr (.string n.name) [.string n.owner,.int .i64 n.prio,.slice a1 m1 c1,.slice a2 m2 c2,.slice a3 m3 c3,.slice a4 m4 c4,.string n.key,.int .i64 n.most,.string n.node,.bool n.hold] 52 W (Kept.trans kk k));have y0:=(Vd.out w1 (Kept.refl _)).at_ 0 _ rfl;have y1:=(Vd.out w1 (Kept.refl _)).at_ 1 _ rfl;have y2:=(Vd.out w1 (Kept.refl _)).at_ 2 _ rfl;have y3:=(Vd.out w1 (Kept.refl _)).at_ 3 _ rfl;have y4:=(Vd.out w1 (Kept.refl _)).at_ 4 _ rfl;have y5:=(Vd.out w1 (Kept.refl _)).at_ 5 _ rfl;have y6:=(Vd.out w1 (Kept.refl _)).at_ 6 _ rfl;have y7:=(Vd.out w1 (Kept.refl _)).at_ 7 _ rfl;have y8:=(Vd.out w1 (Kept.refl _)).at_ 8 _ rfl;have y9:=(Vd.out w1 (Kept.refl _)).at_ 9 _ rfl;have y10:=(Vd.out w1 (Kept.refl _)).at_ 10 _ rfl;have HO:=lH (show ∀W,Kept w1 W→(W.cell? ⟨wr.heap.size,0,none⟩=some (.string n.name)∧W.cell? ⟨wr.heap.size,1,none⟩=some (.string n.owner)∧W.cell? ⟨wr.heap.size,2,none⟩=some (.int .i64 n.prio)∧W.cell? ⟨wr.heap.size,3,none⟩=some (.slice a1 m1 c1)∧W.cell? ⟨wr.heap.size,4,none⟩=some (.slice a2 m2 c2)∧W.cell? ⟨wr.heap.size,5,none⟩=some (.slice a3 m3 c3)∧W.cell? ⟨wr.heap.size,6,none⟩=some (.slice a4 m4 c4)∧W.cell? ⟨wr.heap.size,7,none⟩=some (.string n.key)∧W.cell? ⟨wr.heap.size,8,none⟩=some (.int .i64 n.most)∧W.cell? ⟨wr.heap.size,9,none⟩=some (.string n.node)∧W.cell? ⟨wr.heap.size,10,none⟩=some (.bool n.hold))∧(W.cell? ⟨b,off+q*11,none⟩=some (.string n9.name)∧W.cell? ⟨b,off+q*11+1,none⟩=some (.string n9.owner)∧W.cell? ⟨b,off+q*11+2,none⟩=some (.int .i64 n9.prio)∧W.cell? ⟨b,off+q*11+3,none⟩=some (.slice b1 h1 d1)∧W.cell? ⟨b,off+q*11+4,none⟩=some (.slice b2 h2 d2)∧W.cell? ⟨b,off+q*11+5,none⟩=some (.slice b3 h3 d3)∧W.cell? ⟨b,off+q*11+6,none⟩=some (.slice b4 h4 d4)∧W.cell? ⟨b,off+q*11+7,none⟩=some (.string n9.key)∧W.cell? ⟨b,off+q*11+8,none⟩=some (.int .i64 n9.most)∧W.cell? ⟨b,off+q*11+9,none⟩=some (.string n9.node)∧W.cell? ⟨b,off+q*11+10,none⟩=some (.bool n9.hold)) from fun W k=>⟨⟨(Vd.out W k).at_ 0 _ rfl,(Vd.out W k).at_ 1 _ rfl,(Vd.out W k).at_ 2 _ rfl,(Vd.out W k).at_ 3 _ rfl,(Vd.out W k).at_ 4 _ rfl,(Vd.out W k).at_ 5 _ rfl,(Vd.out W k).at_ 6 _ rfl,(Vd.out W k).at_ 7 _ rfl,(Vd.out W k).at_ 8 _ rfl,(Vd.out W k).at_ 9 _ rfl,(Vd.out W k).at_ 10 _ rfl⟩,⟨cell_later (KW.out.trans k) q0,cell_later (KW.out.trans k) q1,cell_later (KW.out.trans k) q2,cell_later (KW.out.trans k) q3,cell_later (KW.out.trans k) q4,cell_later (KW.out.trans k) q5,cell_later (KW.out.trans k) q6,cell_later (KW.out.trans k) q7,cell_later (KW.out.trans k) q8,cell_later (KW.out.trans k) q9,cell_later (KW.out.trans k) q10⟩⟩);clear kk q0 q1 q2 q3 q4 q5 q6 q7 q8 q9 q10;go_wp2
              go_region_held3 (fun W=>(W.cell? ⟨wr.heap.size,0,none⟩=some (.string n.name)∧W.cell? ⟨wr.heap.size,1,none⟩=some (.string n.owner)∧W.cell? ⟨wr.heap.size,2,none⟩=some (.int .i64 n.prio)∧W.cell? ⟨wr.heap.size,3,none⟩=some (.slice a1 m1 c1)∧W.cell? ⟨wr.heap.size,4,none⟩=some (.slice a2 m2 c2)∧W.cell? ⟨wr.heap.size,5,none⟩=some (.slice a3 m3 c3)∧W.cell? ⟨wr.heap.size,6,none⟩=some (.slice a4 m4 c4)∧W.cell? ⟨wr.heap.size,7,none⟩=some (.string n.key)∧W.cell? ⟨wr.heap.size,8,none⟩=some (.int .i64 n.most)∧W.cell? ⟨wr.heap.size,9,none⟩=some (.string n.node)∧W.cell? ⟨wr.heap.size,10,none⟩=some (.bool n.hold))∧(W.cell? ⟨b,off+q*11,none⟩=some (.string n9.name)∧W.cell? ⟨b,off+q*11+1,none⟩=some (.string n9.owner)∧W.cell? ⟨b,off+q*11+2,none⟩=some (.int .i64 n9.prio)∧W.cell? ⟨b,off+q*11+3,none⟩=some (.slice b1 h1 d1)∧W.cell? ⟨b,off+q*11+4,none⟩=some (.slice b2 h2 d2)∧W.cell? ⟨b,off+q*11+5,none⟩=some (.slice b3 h3 d3)∧W.cell? ⟨b,off+q*11+6,none⟩=some (.slice b4 h4 d4)∧W.cell? ⟨b,off+q*11+7,none⟩=some (.string n9.key)∧W.cell? ⟨b,off+q*11+8,none⟩=some (.int .i64 n9.most)∧W.cell? ⟨b,off+q*11+9,none⟩=some (.string n9.node)∧W.cell? ⟨b,off+q*11+10,none⟩=some (.bool n9.hold)))
               (first | exact HO.out _ (Kept.drew _) | exact HO.out _ J1.out | exact HO.out _ J2.out)
               (first | (go_at_call 141;refine(Uu.out _).mono ?_;rintro e1 w2 ⟨rfl,k1⟩;have J1:=lH ((Kept.drew _).trans k1);clear k1)
                      | (go_at_call 141;refine(Vv.out _).mono ?_;rintro e2 w3 ⟨rfl,k1⟩;have J2:=lH (J1.out.trans k1);clear k1))
              go_wp2;go_roundw
              case rel=>exact⟨k+1,by omega,by go_num,(show jW (ZB l (k+1)) (l.drop (k+1))=jW none l by rw[←HT.out,HD.out,ZT VG.out (HP.out.trans N3.out),VD.out]),HK.out.trans (KW.out.trans J2.out)⟩
              case measure=>simp[intOf];omega
        · have z1':(ck != 0)=true:=by simpa using z1
          have HB:=lH (show jD l=ck by rw[HS.out,HD.out,jan (by rw[VG.out];exact z1),VG.out]);clear z1;go_wp2_with fail
          refine(VE.out _ (ja _ _)).mono ?_;rintro e w1 ⟨rfl,kk⟩;have KW:=lH (Kept.trans (ja _ _) kk);have Vd:=lH (fun W k=>jc wr (.string n.name) [.string n.owner,.int .i64 n.prio,.slice a1 m1 c1,.slice a2 m2 c2,.slice a3 m3 c3,.slice a4 m4 c4,.string n.key,.int .i64 n.most,.string n.node,.bool n.hold] 52 W (Kept.trans kk k));have y0:=(Vd.out w1 (Kept.refl _)).at_ 0 _ rfl;have y1:=(Vd.out w1 (Kept.refl _)).at_ 1 _ rfl;have y2:=(Vd.out w1 (Kept.refl _)).at_ 2 _ rfl;have y3:=(Vd.out w1 (Kept.refl _)).at_ 3 _ rfl;have y4:=(Vd.out w1 (Kept.refl _)).at_ 4 _ rfl;have y5:=(Vd.out w1 (Kept.refl _)).at_ 5 _ rfl;have y6:=(Vd.out w1 (Kept.refl _)).at_ 6 _ rfl;have y7:=(Vd.out w1 (Kept.refl _)).at_ 7 _ rfl;have y8:=(Vd.out w1 (Kept.refl _)).at_ 8 _ rfl;have y9:=(Vd.out w1 (Kept.refl _)).at_ 9 _ rfl;have y10:=(Vd.out w1 (Kept.refl _)).at_ 10 _ rfl;clear kk;go_wp2;go_ret;exact⟨jb HB.out.symm,HK.out.trans KW.out⟩
      · have HE:=lH (show jD l=0 by rw[HS.out,List.drop_of_length_le (by rw[HL.out];omega)];rfl);clear hrest hK;go_wp2;go_ret;exact⟨jb HE.out.symm,HK.out⟩
theorem jeU (a:Option Addr) (len cap:Nat) (l:List Pd) (w:World) (hr:jx w a len l) :
 Calls Tryz.prog 92 #[.slice a len cap] w (Say (.int .i64 (jD l)) w):=by
 have H:=lH (jdH a len cap l w hr);clear hr;go_enter Tryz.func92,Tryz.ntmps92;go_wp2_with fail
 refine H.out.mono ?_;rintro e w1 ⟨rfl,k⟩;have K:=lH k;clear k;go_wp2;go_ret;exact⟨rfl,K.out⟩
def jX:Option ByteArray→List Bd→Int
 | _,[]=>0
 | prev,n::t=>if Jq n≠0 then Jq n else if Vec.jK prev n.name=true then 13 else jX (some n.name) t
def jH (l:List Bd):Int:=if 8<l.length then 4 else jX none l
def ZC (l:List Bd) (k:Nat):Option ByteArray:=if k=0 then none else (l[k-1]?).map Bd.name
theorem jbD {l:List Bd} {k:Nat} (h:k=0) (s:ByteArray):Vec.jK (ZC l k) s=false:=by unfold ZC;rw[if_pos h];rfl
theorem jbO {l:List Bd} {k:Nat} {n:Bd} (h:¬k=0) (hn:l[k-1]?=some n) (s:ByteArray):Vec.jK (ZC l k) s=leS s n.name:=by unfold ZC;rw[if_neg h,hn];rfl
theorem jbN {l:List Bd} {k:Nat} {n:Bd} (hn:l[k]?=some n):ZC l (k+1)=some n.name:=by unfold ZC;rw[if_neg (by omega),Nat.add_sub_cancel,hn];rfl
theorem jd7 {p:Option ByteArray} {n:Bd} {t:List Bd} (h:Jq n≠0):jX p (n::t)=Jq n:=by rw[jX,if_pos h]
theorem jbP {p:Option ByteArray} {n:Bd} {t:List Bd} (h:Jq n=0) (b:Vec.jK p n.name=true):jX p (n::t)=13:=by rw[jX,if_neg (by rw[h];decide),if_pos b]
theorem XC {p:Option ByteArray} {n:Bd} {t:List Bd} (h:Jq n=0) (b:Vec.jK p n.name=false):jX p (n::t)=jX (some n.name) t:=by rw[jX,if_neg (by rw[h];decide),if_neg (by rw[b];decide)]
theorem jbU (n:Bd) (v1:Value) (w:World):Calls Tryz.prog 144 #[JZ n v1] w fun e w'=>e=.returned (.string n.name)∧Kept w w':=by
 unfold JZ;go_enter Tryz.func144,Tryz.ntmps144;go_wp2;go_ret;exact⟨rfl,ja _ _⟩
theorem jdw (a:Option Addr) (len cap:Nat) (l:List Bd) (w:World) (hr:j8 w a len l) :
 Calls Tryz.prog 143 #[.slice a len cap,.int .i64 8,.func (.func 144) #[] #[],.func (.func 145) #[] #[]] w (Say (.int .i64 (jH l)) w):=by
 have hl:=hr.1;have hm:=hr.2.1;unfold maxLen at hm;by_cases h32:8<len
 · have HV:=lH (show jH l=4 by unfold jH;rw[if_pos (by omega)]);clear hr hl;go_enter Tryz.func143,Tryz.ntmps143;go_wp2;go_ret;exact⟨jb HV.out.symm,Kept.refl _⟩
 · have HV:=lH (show jH l=jX none l by unfold jH;rw[if_neg (by omega)]);have h32':len≤8:=by omega
   by_cases h0:len=0
   · subst h0;have HE:=lH (show jH l=0 by rw[HV.out,List.eq_nil_of_length_eq_zero hl];rfl);clear hr hl h32;go_enter Tryz.func143,Tryz.ntmps143;go_wp2;refine wp_loop_rounds 1 ?_;rw[rounds_succ];go_wp2;go_ret;exact⟨jb HE.out.symm,Kept.refl _⟩
   · obtain⟨b,off,rfl⟩:=hr.form.resolve_left h0;have HR:=lH hr;have HL:=lH hl;clear hr hl h0 h32;go_enter Tryz.func143,Tryz.ntmps143;go_wp2;go_loopw [18] (fun i wr=>∃k:Nat,k≤len∧i=.int .i64 k∧jX (ZC l k) (l.drop k)=jX none l∧Kept w wr) (fun i _=>len-(intOf i).toNat)
     case atStart=>exact⟨0,Nat.zero_le _,rfl,rfl,Kept.refl _⟩
     case round =>
      obtain⟨k,hk,rfl,hrest,hK⟩:=hrel;obtain⟨HS,HT,HK⟩:=lH3 (HV.out.trans hrest.symm) hrest hK;by_cases hlt:k<len
      · obtain⟨n,a1,m1,c1,hn,hd,hb,p0,p1,p2,hat⟩:=(HR.out.kept hK).at_ hlt;obtain⟨VH,HD,VD⟩:=lH3 hat hd (jbN hn);have VE:=lH (fun W (kk:Kept wr W)=>jia n (.slice a1 m1 c1) W (VH.out.kept kk));have Uu:=lH (fun W=>jbU n (.slice a1 m1 c1) W);unfold JZ at VE Uu;obtain⟨ck,hck⟩:=eX (Jq n)
        have VG:=lH hck;rw[hck] at VE;have hkk:(k:Int)<(len:Int):=by omega
        clear hrest hK hat hd hck;by_cases z1:ck=0
        · subst z1;by_cases h0:k=0
          · have hd0:decide (0<k)=false:=by subst h0;decide
            have HP:=lH (jbD (l:=l) h0 n.name);clear h0;go_wp2_with fail
            refine(VE.out _ (ja _ _)).mono ?_;rintro e w1 ⟨rfl,kk⟩;have KW:=lH (Kept.trans (ja _ _) kk);have Vd:=lH (fun W k=>jc wr (.string n.name) [.slice a1 m1 c1,.int .i64 n.floor] 108 W (Kept.trans kk k));have y0:=(Vd.out w1 (Kept.refl _)).at_ 0 _ rfl;have y1:=(Vd.out w1 (Kept.refl _)).at_ 1 _ rfl;have y2:=(Vd.out w1 (Kept.refl _)).at_ 2 _ rfl;clear kk;go_wp2;go_quiet (fail)
            go_wp2;go_roundw
            case rel=>exact⟨k+1,by omega,by go_num,(show jX (ZC l (k+1)) (l.drop (k+1))=jX none l by rw[←HT.out,HD.out,XC VG.out HP.out,VD.out]),HK.out.trans (KW.out.trans (Kept.drewN _ _))⟩
            case measure=>simp[intOf];omega
          · have hd0:decide (0<k)=true:=by simp;omega
            obtain⟨q,hqk⟩:∃q,k=q+1:=⟨k-1,by omega⟩
            have g1:(k:Int)-1=(q:Int):=by omega
            have gw:IntKind.i64.wrap (q:Int)=(q:Int):=by rw[IntKind.wrap_i64];omega
            have g2:(q:Int)<(len:Int):=by omega
            obtain⟨n9,b1,h1,d1,hn9,-,hb9,q0,q1,q2,-⟩:=(HR.out.kept HK.out).at_ (show q<len by omega);have RJ:=lH hqk;have hqk1:k-1=q:=by omega
            have HP:=lH (jbO (l:=l) h0 (show l[k-1]?=some n9 by rw[hqk1];exact hn9) n.name);clear hqk hqk1;have Vv:=lH (fun W=>jbU n9 (.slice b1 h1 d1) W);unfold JZ at Vv;clear h0 hn9;by_cases n3:leS n.name n9.name=true
            · have n3':(Op.bytesLess n.name.toList n9.name.toList||n.name.toList==n9.name.toList)=true:=n3;have N3:=lH n3;clear n3;go_wp2_with fail
              refine(VE.out _ (ja _ _)).mono ?_;rintro e w1 ⟨rfl,kk⟩;have KW:=lH (Kept.trans (ja _ _) kk);have Vd:=lH (fun W k=>jc wr (.string n.name) [.slice a1 m1 c1,.int .i64 n.floor] 108 W (Kept.trans kk k));have y0:=(Vd.out w1 (Kept.refl _)).at_ 0 _ rfl;have y1:=(Vd.out w1 (Kept.refl _)).at_ 1 _ rfl;have y2:=(Vd.out w1 (Kept.refl _)).at_ 2 _ rfl;have HO:=lH (show ∀W,Kept w1 W→(W.cell? ⟨wr.heap.size,0,none⟩=some (.string n.name)∧W.cell? ⟨wr.heap.size,1,none⟩=some (.slice a1 m1 c1)∧W.cell? ⟨wr.heap.size,2,none⟩=some (.int .i64 n.floor))∧(W.cell? ⟨b,off+q*3,none⟩=some (.string n9.name)∧W.cell? ⟨b,off+q*3+1,none⟩=some (.slice b1 h1 d1)∧W.cell? ⟨b,off+q*3+2,none⟩=some (.int .i64 n9.floor)) from fun W k=>⟨⟨(Vd.out W k).at_ 0 _ rfl,(Vd.out W k).at_ 1 _ rfl,(Vd.out W k).at_ 2 _ rfl⟩,⟨cell_later (KW.out.trans k) q0,cell_later (KW.out.trans k) q1,cell_later (KW.out.trans k) q2⟩⟩);clear kk q0 q1 q2;go_wp2
              go_region_held3 (fun W=>(W.cell? ⟨wr.heap.size,0,none⟩=some (.string n.name)∧W.cell? ⟨wr.heap.size,1,none⟩=some (.slice a1 m1 c1)∧W.cell? ⟨wr.heap.size,2,none⟩=some (.int .i64 n.floor))∧(W.cell? ⟨b,off+q*3,none⟩=some (.string n9.name)∧W.cell? ⟨b,off+q*3+1,none⟩=some (.slice b1 h1 d1)∧W.cell? ⟨b,off+q*3+2,none⟩=some (.int .i64 n9.floor)))
               (first | exact HO.out _ (Kept.drew _) | exact HO.out _ J1.out | exact HO.out _ J2.out)
               (first | (go_at_call 144;refine(Uu.out _).mono ?_;rintro e1 w2 ⟨rfl,k1⟩;have J1:=lH ((Kept.drew _).trans k1);clear k1)
                      | (go_at_call 144;refine(Vv.out _).mono ?_;rintro e2 w3 ⟨rfl,k1⟩;have J2:=lH (J1.out.trans k1);clear k1))
              go_wp2;go_ret;exact⟨jb (show (13:Int)=jH l by rw[HS.out,HD.out,jbP VG.out (HP.out.trans N3.out)]),HK.out.trans (KW.out.trans J2.out)⟩
            · have n3:leS n.name n9.name=false:=by simpa using n3
              have n3':(Op.bytesLess n.name.toList n9.name.toList||n.name.toList==n9.name.toList)=false:=n3;have N3:=lH n3;clear n3;go_wp2_with fail
              refine(VE.out _ (ja _ _)).mono ?_;rintro e w1 ⟨rfl,kk⟩;have KW:=lH (Kept.trans (ja _ _) kk);have Vd:=lH (fun W k=>jc wr (.string n.name) [.slice a1 m1 c1,.int .i64 n.floor] 108 W (Kept.trans kk k));have y0:=(Vd.out w1 (Kept.refl _)).at_ 0 _ rfl;have y1:=(Vd.out w1 (Kept.refl _)).at_ 1 _ rfl;have y2:=(Vd.out w1 (Kept.refl _)).at_ 2 _ rfl;have HO:=lH (show ∀W,Kept w1 W→(W.cell? ⟨wr.heap.size,0,none⟩=some (.string n.name)∧W.cell? ⟨wr.heap.size,1,none⟩=some (.slice a1 m1 c1)∧W.cell? ⟨wr.heap.size,2,none⟩=some (.int .i64 n.floor))∧(W.cell? ⟨b,off+q*3,none⟩=some (.string n9.name)∧W.cell? ⟨b,off+q*3+1,none⟩=some (.slice b1 h1 d1)∧W.cell? ⟨b,off+q*3+2,none⟩=some (.int .i64 n9.floor)) from fun W k=>⟨⟨(Vd.out W k).at_ 0 _ rfl,(Vd.out W k).at_ 1 _ rfl,(Vd.out W k).at_ 2 _ rfl⟩,⟨cell_later (KW.out.trans k) q0,cell_later (KW.out.trans k) q1,cell_later (KW.out.trans k) q2⟩⟩);clear kk q0 q1 q2;go_wp2
              go_region_held3 (fun W=>(W.cell? ⟨wr.heap.size,0,none⟩=some (.string n.name)∧W.cell? ⟨wr.heap.size,1,none⟩=some (.slice a1 m1 c1)∧W.cell? ⟨wr.heap.size,2,none⟩=some (.int .i64 n.floor))∧(W.cell? ⟨b,off+q*3,none⟩=some (.string n9.name)∧W.cell? ⟨b,off+q*3+1,none⟩=some (.slice b1 h1 d1)∧W.cell? ⟨b,off+q*3+2,none⟩=some (.int .i64 n9.floor)))
               (first | exact HO.out _ (Kept.drew _) | exact HO.out _ J1.out | exact HO.out _ J2.out)
               (first | (go_at_call 144;refine(Uu.out _).mono ?_;rintro e1 w2 ⟨rfl,k1⟩;have J1:=lH ((Kept.drew _).trans k1);clear k1)
                      | (go_at_call 144;refine(Vv.out _).mono ?_;rintro e2 w3 ⟨rfl,k1⟩;have J2:=lH (J1.out.trans k1);clear k1))
              go_wp2;go_roundw
              case rel=>exact⟨k+1,by omega,by go_num,(show jX (ZC l (k+1)) (l.drop (k+1))=jX none l by rw[←HT.out,HD.out,XC VG.out (HP.out.trans N3.out),VD.out]),HK.out.trans (KW.out.trans J2.out)⟩
              case measure=>simp[intOf];omega
        · have z1':(ck != 0)=true:=by simpa using z1
          have HB:=lH (show jH l=ck by rw[HS.out,HD.out,jd7 (by rw[VG.out];exact z1),VG.out]);clear z1;go_wp2_with fail
          refine(VE.out _ (ja _ _)).mono ?_;rintro e w1 ⟨rfl,kk⟩;have KW:=lH (Kept.trans (ja _ _) kk);have Vd:=lH (fun W k=>jc wr (.string n.name) [.slice a1 m1 c1,.int .i64 n.floor] 108 W (Kept.trans kk k));have y0:=(Vd.out w1 (Kept.refl _)).at_ 0 _ rfl;have y1:=(Vd.out w1 (Kept.refl _)).at_ 1 _ rfl;have y2:=(Vd.out w1 (Kept.refl _)).at_ 2 _ rfl;clear kk;go_wp2;go_ret;exact⟨jb HB.out.symm,HK.out.trans KW.out⟩
      · have HE:=lH (show jH l=0 by rw[HS.out,List.drop_of_length_le (by rw[HL.out];omega)];rfl);clear hrest hK;go_wp2;go_ret;exact⟨jb HE.out.symm,HK.out⟩
theorem jex (a:Option Addr) (len cap:Nat) (l:List Bd) (w:World) (hr:j8 w a len l) :
 Calls Tryz.prog 93 #[.slice a len cap] w (Say (.int .i64 (jH l)) w):=by
 have H:=lH (jdw a len cap l w hr);clear hr;go_enter Tryz.func93,Tryz.ntmps93;go_wp2_with fail
 refine H.out.mono ?_;rintro e w1 ⟨rfl,k⟩;have K:=lH k;clear k;go_wp2;go_ret;exact⟨rfl,K.out⟩
structure Clu where
 nodes:List Nod
 pods:List Pd
 buds:List Bd
abbrev Jk (v1 v2 v3:Value):Value:=.agg #[v1,v2,v3]
structure jcO (w:World) (v1 v2 v3:Value) (s:Clu):Prop where
 nodes:JA w v1 s.nodes
 pods:Jo w v2 s.pods
 buds:Zg w v3 s.buds
theorem jcO.kept {w w':World} {v1 v2 v3:Value} {s:Clu} (h:jcO w v1 v2 v3 s) (k:Kept w w'):jcO w' v1 v2 v3 s:=⟨h.nodes.kept k,h.pods.kept k,h.buds.kept k⟩
def jC (w:World) (v:Value) (s:Clu):Prop:=∃v1 v2 v3,v=Jk v1 v2 v3∧jcO w v1 v2 v3 s
theorem jC.kept {w w':World} {v:Value} {s:Clu} (h:jC w v s) (k:Kept w w'):jC w' v s:=by
 obtain⟨v1,v2,v3,e,h⟩:=h;exact⟨v1,v2,v3,e,h.kept k⟩
structure jE (s:Clu):Prop where
 nodes:∀n ∈ s.nodes,zP n
 pods:∀n ∈ s.pods,JM n
 buds:∀n ∈ s.buds,n.sel.length≤1000000
 nodesN:s.nodes.length≤100000
 podsN:s.pods.length≤100000
 budsN:s.buds.length≤100000
def jJ (x:ByteArray):List Pd→Vec.V→Int×Vec.V
 | [],v=>(0,v)
 | p::t,v=>if eqS p.node x=true then (if (Vec.jj Vec.jG v p.need).1=0 then jJ x t (Vec.jj Vec.jG v p.need).2 else ((Vec.jj Vec.jG v p.need).1,[])) else jJ x t v
theorem jaW {x:ByteArray} {p:Pd} {t:List Pd} {v:Vec.V} (h:eqS p.node x=false):jJ x (p::t) v=jJ x t v:=by
 rw[jJ,if_neg (by rw[h];decide)]
theorem jce {x:ByteArray} {p:Pd} {t:List Pd} {v m:Vec.V} (h:eqS p.node x=true) (g:Vec.jj Vec.jG v p.need=(0,m)):jJ x (p::t) v=jJ x t m:=by
 rw[jJ,if_pos h,g,if_pos rfl]
theorem jcq {x:ByteArray} {p:Pd} {t:List Pd} {v m:Vec.V} {c:Int} (h:eqS p.node x=true) (g:Vec.jj Vec.jG v p.need=(c,m)) (hc:c≠0):jJ x (p::t) v=(c,[]):=by
 rw[jJ,if_pos h,g,if_neg hc]
theorem ja3 {x:ByteArray}:∀{l:List Pd} {v:Vec.V},(jJ x l v).1≠0→(jJ x l v).2=[]
 | [],v,h=>absurd rfl h
 | p::t,v,h=>by
  rw[jJ] at h ⊢;split at h
  · rename_i h1;rw[if_pos h1];split at h
    · rename_i h2;rw[if_pos h2];exact ja3 h
    · rename_i h2;rw[if_neg h2]
  · rename_i h1;rw[if_neg h1];exact ja3 h
def Jt:List Nod→Vec.V→Int×Vec.V
 | [],v=>(0,v)
 | n::t,v=>if (Vec.jj Vec.jG v n.cap).1=0 then Jt t (Vec.jj Vec.jG v n.cap).2 else ((Vec.jj Vec.jG v n.cap).1,[])
theorem jfb {n:Nod} {t:List Nod} {v m:Vec.V} (g:Vec.jj Vec.jG v n.cap=(0,m)):Jt (n::t) v=Jt t m:=by
 rw[Jt,g,if_pos rfl]
theorem jgo {n:Nod} {t:List Nod} {v m:Vec.V} {c:Int} (g:Vec.jj Vec.jG v n.cap=(c,m)) (hc:c≠0):Jt (n::t) v=(c,[]):=by
 rw[Jt,g,if_neg hc]
def JU (s:Clu) (x:ByteArray):Int×Vec.V:=match jl s.nodes x with | none=>(3,[]) | some n=>jJ n.name s.pods []
def ZY (s:Clu) (x:ByteArray):Int×Vec.V:=match jl s.nodes x with | none=>(3,[]) | some n=>if (jJ n.name s.pods []).1=0 then Vec.jj Vec.zl n.cap (jJ n.name s.pods []).2 else ((jJ n.name s.pods []).1,[])
def jm7 (s:Clu):Int×Vec.V:=Jt s.nodes []
def jA (nodes:List Nod):List Pd→Int
 | []=>0
 | p::t=>if zo p.node=false∧(jl nodes p.node).isSome=false then 3 else jA nodes t
theorem qL {nodes:List Nod} {p:Pd} {t:List Pd} (h:zo p.node=false) (g:(jl nodes p.node).isSome=false):jA nodes (p::t)=3:=by
 rw[jA,if_pos ⟨h,g⟩]
theorem jbS {nodes:List Nod} {p:Pd} {t:List Pd} (h:zo p.node=true):jA nodes (p::t)=jA nodes t:=by
 rw[jA,if_neg (by rw[h];simp)]
theorem jbZ {nodes:List Nod} {p:Pd} {t:List Pd} (g:(jl nodes p.node).isSome=true):jA nodes (p::t)=jA nodes t:=by
 rw[jA,if_neg (by rw[g];simp)]
def jM (pods:List Pd):List Nod→Int
 | []=>0
 | n::t=>if (jJ n.name pods []).1=0 then (if Vec.jB n.cap (jJ n.name pods []).2=true then jM pods t else 7) else (jJ n.name pods []).1
theorem jaX {pods:List Pd} {n:Nod} {t:List Nod} {c:Int} {u:Vec.V} (h:jJ n.name pods []=(c,u)) (hc:c≠0):jM pods (n::t)=c:=by
 rw[jM,h,if_neg hc]
theorem jaw {pods:List Pd} {n:Nod} {t:List Nod} {u:Vec.V} (h:jJ n.name pods []=(0,u)) (hf:Vec.jB n.cap u=false):jM pods (n::t)=7:=by
 rw[jM,h,if_pos rfl,if_neg (by rw[hf];decide)]
theorem XB {pods:List Pd} {n:Nod} {t:List Nod} {u:Vec.V} (h:jJ n.name pods []=(0,u)) (hf:Vec.jB n.cap u=true):jM pods (n::t)=jM pods t:=by
 rw[jM,h,if_pos rfl,if_pos hf]
def zO (s:Clu):Int :=
 if or3 (jI s.nodes) (jD s.pods) (jH s.buds)≠0 then or3 (jI s.nodes) (jD s.pods) (jH s.buds)
 else if jA s.nodes s.pods≠0 then jA s.nodes s.pods
 else if jM s.pods s.nodes≠0 then jM s.pods s.nodes
 else (Jt s.nodes []).1
def onP (x:ByteArray) (l:List Pd):List Pd:=if zo x=true then [] else l.filter fun p=>eqS p.node x
def zc (x:ByteArray):List Pd→List Pd
 | []=>[]
 | p::t=>if eqS p.name x=true then t else p::zc x t
def JY (p:Pd):List Pd→List Pd
 | []=>[p]
 | q::t=>if ltS p.name q.name=true then p::q::t else q::JY p t
def Jn (x y:ByteArray):List Pd→List Pd
 | []=>[]
 | p::t=>if eqS p.name x=true then { p with node:=y }::t else p::Jn x y t
def zF (s:Clu) (x:ByteArray):Clu:={ s with pods:=zc x s.pods }
def Jv (s:Clu) (p:Pd):Clu:={ s with pods:=JY p (zc p.name s.pods) }
def zZ (s:Clu) (x y:ByteArray):Clu:={ s with pods:=Jn x y s.pods }
def jF {α:Type} (f:α→α→Bool):List α→List α→Bool
 | [],[]=>true
 | x::s,y::t=>f x y&&jF f s t
 | [],_::_=>false
 | _::_,[]=>false
theorem jmP:Tryz.prog.cellsOf 26=3:=by kernel_rfl
theorem jlV:Tryz.prog.cellsOf 22=1:=by kernel_rfl
theorem jli:Tryz.prog.cellsOf 23=1:=by kernel_rfl
theorem jlg:Tryz.prog.cellsOf 24=1:=by kernel_rfl
theorem jhb {H:Type} {enc:TypeId×Value→H} {w:World} {base fuel:Nat} {sp:Nat→Bool} {held:Bool} {cs:List Value} {x:DataW H×List MemPlace} (h:DataW.trod enc Tryz.prog w base sp held fuel 26 cs=some x) :
 ∃v1 v2 v3 s,cs=[v1,v2,v3]∧jcO w v1 v2 v3 s:=by
 obtain⟨ys,m,-,-,hlen,hyl,hf⟩:=DataW.trod_struct Tryz.underlying26 h;rw[jmP] at hlen
 match cs,hlen with
 | [c0,c1,c2],_ =>
  have h0:DataW.trod enc Tryz.prog w base sp held m 22 (([c0,c1,c2].drop 0).take (Tryz.prog.cellsOf 22))=ys[0]?:=hf 0 _ rfl;rw[jlV] at h0;obtain⟨y0,e0⟩:∃y,ys[0]?=some y:=⟨_,List.getElem?_eq_getElem (by rw[hyl];decide)⟩
  rw[e0] at h0;have h1:DataW.trod enc Tryz.prog w base sp held m 23 (([c0,c1,c2].drop 1).take (Tryz.prog.cellsOf 23))=ys[1]?:=hf 1 _ rfl;rw[jli] at h1;obtain⟨y1,e1⟩:∃y,ys[1]?=some y:=⟨_,List.getElem?_eq_getElem (by rw[hyl];decide)⟩
  rw[e1] at h1;have h2:DataW.trod enc Tryz.prog w base sp held m 24 (([c0,c1,c2].drop 2).take (Tryz.prog.cellsOf 24))=ys[2]?:=hf 2 _ rfl;rw[jlg] at h2;obtain⟨y2,e2⟩:∃y,ys[2]?=some y:=⟨_,List.getElem?_eq_getElem (by rw[hyl];decide)⟩
  rw[e2] at h2;simp only[List.drop_zero,List.take_succ_cons,List.take_zero,List.drop_succ_cons] at h0 h1 h2;obtain⟨l0,r0⟩:=jey h0;obtain⟨l1,r1⟩:=jfv h1;obtain⟨l2,r2⟩:=jff h2;exact⟨c0,c1,c2,⟨l0,l1,l2⟩,rfl,⟨r0,r1,r2⟩⟩
theorem jmG {H:Type} {enc:TypeId×Value→H} {W:World} {r:Reach} {b0 base:Nat} {sp:Nat→Bool} {held:Bool} {v:Value} {d:DataW H} {ps:List MemPlace} (hval:Value.okWide Tryz.prog W r b0 26 v) (h:DataW.Trod enc Tryz.prog W base sp held 26 v d ps):∃s,jC W v s:=by
 obtain⟨cs,rfl,hsz⟩:=okWide_struct Tryz.underlying26 hval;obtain⟨fuel,hf⟩:=h;obtain⟨v1,v2,v3,s,ha,hat⟩:=jhb hf;have e:cs.toList=[v1,v2,v3]:=by
  have:(Value.agg cs).cells.toList=[v1,v2,v3]:=ha;simpa [Value.cells] using this
 have:cs=#[v1,v2,v3]:=Array.ext' e;rw[this];exact⟨s,v1,v2,v3,rfl,hat⟩
def Y8 (p q:Pd):Bool:=!zo p.owner&&(eqS q.owner p.owner&&(!q.hold&&!eqS q.name p.name))
def onN (p:Pd) (x:ByteArray):List Pd→Nat
 | []=>0
 | q::t=>(if Y8 p q=true∧q.node=x then 1 else 0)+onN p x t
theorem jcV (p:Pd) (x:ByteArray):∀l:List Pd,onN p x l≤l.length
 | []=>Nat.zero_le _
 | q::t=>by
  have:=jcV p x t;unfold onN;simp only[List.length_cons];split<;>omega
def inD (p:Pd) (pods:List Pd) (d:ByteArray):List Nod→Nat
 | []=>0
 | n::t=>(if Jf n.labels p.key=some d then onN p n.name pods else 0)+inD p pods d t
theorem je7 (p:Pd) (pods:List Pd) (d:ByteArray):∀l:List Nod,inD p pods d l≤l.length*pods.length
 | []=>Nat.zero_le _
 | n::t=>by
  have h1:=je7 p pods d t;have h2:=jcV p n.name pods;unfold inD;simp only[List.length_cons,Nat.add_mul];split<;>omega
def ZZ (k d:ByteArray) (l:List Nod):Bool:=l.any fun n=>decide (Jf n.labels k=some d)
theorem jdz (p:Pd) (x:ByteArray):∀(a b:List Pd),onN p x (a++b)=onN p x a+onN p x b
 | [],b=>by simp[onN]
 | q::t,b=>by
  have:=jdz p x t b;simp only[List.cons_append,onN,this];omega
theorem jdG (p:Pd) (pods:List Pd) (d:ByteArray):∀(a b:List Nod),inD p pods d (a++b)=inD p pods d a+inD p pods d b
 | [],b=>by simp[inD]
 | q::t,b=>by
  have:=jdG p pods d t b;simp only[List.cons_append,inD,this];omega
def domV (key name:ByteArray):List Nod→Option ByteArray
 | []=>none
 | n::t=>if eqS n.name name=true then Jf n.labels key else domV key name t
def Xl (p:Pd) (pods:List Pd) (nodes:List Nod) (d:ByteArray):List Nod→Nat→Nat
 | [],m=>m
 | n::t,m=>Xl p pods nodes d t (match Jf n.labels p.key with
  | none=>m
  | some e=>min m (inD p pods e nodes+(if e=d then 1 else 0)))
def Xe (p:Pd) (s:Clu) (d:ByteArray):Int:=((inD p s.pods d s.nodes+1:Nat):Int)-(Xl p s.pods s.nodes d s.nodes (inD p s.pods d s.nodes+1):Int)
def ZO (p:Pd) (s:Clu) (name:ByteArray):Int×Bool :=
 if zo p.key=true then (0,true) else match domV p.key name s.nodes with
  | none=>(0,false)
  | some d=>(Xe p s d,true)
theorem qk (p:Pd) (pods:List Pd) (nodes:List Nod) (d:ByteArray):∀(l:List Nod) (m:Nat),
 Xl p pods nodes d l m≤m∧(∀n ∈ l,∀e,Jf n.labels p.key=some e→Xl p pods nodes d l m≤inD p pods e nodes+(if e=d then 1 else 0)) ∧
 (Xl p pods nodes d l m=m∨∃n ∈ l,∃e,Jf n.labels p.key=some e∧Xl p pods nodes d l m=inD p pods e nodes+(if e=d then 1 else 0))
 | [],m=>⟨Nat.le_refl _,fun n h=>absurd h (by simp),.inl rfl⟩
 | n::t,m=>by
  rw[Xl]
  cases h:Jf n.labels p.key with
  | none =>
   dsimp only;obtain⟨h1,h2,h3⟩:=qk p pods nodes d t m;refine⟨h1,fun x hx e he=>?_,h3.imp id fun ⟨x,hx,e,he⟩=>⟨x,by simp[hx],e,he⟩⟩;rcases List.mem_cons.1 hx with rfl | hx
   · rw[h] at he;cases he
   · exact h2 x hx e he
  | some c =>
   dsimp only;obtain⟨h1,h2,h3⟩:=qk p pods nodes d t (min m (inD p pods c nodes+(if c=d then 1 else 0)));refine⟨Nat.le_trans h1 (Nat.min_le_left _ _),fun x hx e he=>?_,?_⟩
   · rcases List.mem_cons.1 hx with rfl | hx
     · rw[h] at he;cases he;exact Nat.le_trans h1 (Nat.min_le_right _ _)
     · exact h2 x hx e he
   · rcases h3 with h3 | ⟨x,hx,e,he,h3⟩
     · by_cases g:m≤inD p pods c nodes+(if c=d then 1 else 0)
       · exact .inl (by rw[h3,Nat.min_eq_left g])
       · exact .inr ⟨n,by simp,c,h,by rw[h3,Nat.min_eq_right (by omega)]⟩
     · exact .inr ⟨x,by simp[hx],e,he,h3⟩
theorem jjV {p:Pd} {pods:List Pd} {nodes:List Nod} {d:ByteArray} {m z:Nat} (hd:ZZ p.key d nodes=true) (hm:m=inD p pods d nodes+1)
 (h1:∀e,ZZ p.key e nodes=true→z≤inD p pods e nodes+(if e=d then 1 else 0)) (h2:∃e,ZZ p.key e nodes=true∧z=inD p pods e nodes+(if e=d then 1 else 0)):Xl p pods nodes d nodes m=z:=by
 have has:∀{n:Nod} {e:ByteArray},n ∈ nodes→Jf n.labels p.key=some e→ZZ p.key e nodes=true:=fun {n e} hn he=>by
  unfold ZZ;rw[List.any_eq_true];exact⟨n,hn,by simpa using he⟩
 have un:∀{e:ByteArray},ZZ p.key e nodes=true→∃n ∈ nodes,Jf n.labels p.key=some e:=fun {e} h=>by
  unfold ZZ at h;rw[List.any_eq_true] at h;obtain⟨n,hn,he⟩:=h;exact⟨n,hn,by simpa using he⟩
 obtain⟨g1,g2,g3⟩:=qk p pods nodes d nodes m;obtain⟨e,he,hz⟩:=h2;obtain⟨n,hn,hne⟩:=un he;have a:=g2 n hn e hne;rcases g3 with g3 | ⟨x,hx,c,hc,g3⟩
 · have b:=h1 d hd;rw[if_pos rfl] at b;omega
 · have b:=h1 c (has hx hc);omega
theorem jcb {key name d:ByteArray}:∀{l:List Nod},domV key name l=some d→ZZ key d l=true
 | n::t,h=>by
  rw[domV] at h;unfold ZZ;rw[List.any_cons];split at h
  · rw[h];simp
  · have:=jcb h;unfold ZZ at this;rw[this,Bool.or_true]
def ZD (s:Clu) (p:Pd) (x:ByteArray):Bool:=if zo p.key=true then false else (!(ZO p s x).2||decide (p.most<(ZO p s x).1))
def Zd (p:Pd) (n:Nod):Bool:=!n.cordon&&Z3 p.sel n.labels
def ZW (p:Pd) (n:Nod):Bool:=!(Jh p.tols n.taints).isSome
def YS (s:Clu) (p:Pd) (x:ByteArray):Bool:=decide ((ZY s x).1=0)&&Vec.jB (ZY s x).2 p.need
def zW (s:Clu) (p:Pd) (n:Nod) (x:ByteArray):Int:=if Zd p n=false then 8 else if ZW p n=false then 9 else if ZD s p x=true then 10 else if YS s p x=false then 7 else 0
def zX (s:Clu) (p:Pd) (x:ByteArray):Int:=match jl s.nodes x with
 | none=>3
 | some n=>zW s p n x
def qq (s:Clu) (p:Pd) (x:ByteArray):Int:=zX (zF s p.name) p x
def XW (s:Clu) (p:Pd) (l:List Nod):List Int:=l.map fun n=>qq s p n.name
def zL (s:Clu) (p:Pd) (l:List Nod):List ByteArray:=(l.filter fun n=>decide (qq s p n.name=0)).map fun n=>n.name
theorem jb1 {s:Clu} {p:Pd} {x:ByteArray} (h:jl s.nodes x=none):zX s p x=3:=by unfold zX;rw[h]
theorem jbF {s:Clu} {p:Pd} {x:ByteArray} {n:Nod} (h:jl s.nodes x=some n):zX s p x=zW s p n x:=by unfold zX;rw[h]
theorem jbJ {s:Clu} {p:Pd} {n:Nod} {x:ByteArray} (h:Zd p n=false):zW s p n x=8:=by unfold zW;rw[if_pos h]
theorem jaG {s:Clu} {p:Pd} {n:Nod} {x:ByteArray} (h:Zd p n=true) (h2:ZW p n=false):zW s p n x=9:=by unfold zW;rw[if_neg (by rw[h];decide),if_pos h2]
theorem jaO {s:Clu} {p:Pd} {n:Nod} {x:ByteArray} (h:Zd p n=true) (h2:ZW p n=true) (h3:ZD s p x=true):zW s p n x=10:=by unfold zW;rw[if_neg (by rw[h];decide),if_neg (by rw[h2];decide),if_pos h3]
theorem jaV {s:Clu} {p:Pd} {n:Nod} {x:ByteArray} (h:Zd p n=true) (h2:ZW p n=true) (h3:ZD s p x=false) (h4:YS s p x=false):zW s p n x=7:=by unfold zW;rw[if_neg (by rw[h];decide),if_neg (by rw[h2];decide),if_neg (by rw[h3];decide),if_pos h4]
theorem jiL {s:Clu} {p:Pd} {n:Nod} {x:ByteArray} (h:Zd p n=true) (h2:ZW p n=true) (h3:ZD s p x=false) (h4:YS s p x=true):zW s p n x=0:=by unfold zW;rw[if_neg (by rw[h];decide),if_neg (by rw[h2];decide),if_neg (by rw[h3];decide),if_neg (by rw[h4];decide)]
theorem jgp {s:Clu} {p:Pd} {n:Nod} {x:ByteArray} (h:zW s p n x=0):Zd p n=true∧ZW p n=true∧ZD s p x=false∧YS s p x=true:=by
 cases h1:Zd p n with
 | false=>rw[jbJ h1] at h;cases h
 | true =>
  cases h2:ZW p n with
  | false=>rw[jaG h1 h2] at h;cases h
  | true =>
   cases h3:ZD s p x with
   | true=>rw[jaO h1 h2 h3] at h;cases h
   | false =>
    cases h4:YS s p x with
    | false=>rw[jaV h1 h2 h3 h4] at h;cases h
    | true=>exact⟨rfl,rfl,rfl,rfl⟩
theorem jgA {s:Clu} {p:Pd} {x:ByteArray} (h:zX s p x=0):∃n,jl s.nodes x=some n∧zW s p n x=0:=by
 cases hf:jl s.nodes x with
 | none=>rw[jb1 hf] at h;cases h
 | some n=>rw[jbF hf] at h;exact⟨n,rfl,h⟩
theorem jh9 (s:Clu) (p:Pd) (n:Nod) (x:ByteArray):0≤zW s p n x∧zW s p n x≤10:=by
 unfold zW;split
 · decide
 · split
   · decide
   · split
     · decide
     · split<;>decide
theorem jkO (s:Clu) (p:Pd) (x:ByteArray):0≤zX s p x∧zX s p x≤10:=by
 unfold zX;split
 · decide
 · exact jh9 _ _ _ _
theorem jet {l:List Nod} {x:ByteArray} {n:Nod} (h:jl l x=some n):n ∈ l∧n.name=x:=by
 unfold jl at h;have h2:eqS n.name x=true:=List.find?_some (p:=fun n:Nod=>eqS n.name x) h;exact⟨List.mem_of_find?_eq_some h,jR.1 h2⟩
theorem jkW {s:Clu} {p:Pd} {l:List Nod} {k:Nat} {n:Nod} (h:l[k]?=some n):XW s p (l.take (k+1))=XW s p (l.take k)++[qq s p n.name]:=by
 unfold XW;rw[List.take_add_one,h,List.map_append];rfl
theorem jcm (s:Clu) (p:Pd) (l:List Nod):(XW s p l).length=l.length:=by unfold XW;rw[List.length_map]
theorem jnq {s:Clu} {p:Pd} {l:List Nod} {k:Nat} {n:Nod} (h:l[k]?=some n):(XW s p l)[k]?=some (qq s p n.name):=by unfold XW;rw[List.getElem?_map,h];rfl
theorem jiC {s:Clu} {p:Pd} {l:List Nod} {k:Nat} {n:Nod} (h:l[k]?=some n):zL s p (l.take (k+1))=zL s p (l.take k)++(if qq s p n.name=0 then [n.name] else []):=by
 unfold zL;rw[List.take_add_one,h,List.filter_append,List.map_append];by_cases hb:qq s p n.name=0
 · rw[if_pos hb];simp[hb]
 · rw[if_neg hb];simp[hb]
theorem jbq (s:Clu) (p:Pd) (l:List Nod):(zL s p l).length≤l.length:=by
 unfold zL;rw[List.length_map];exact List.length_filter_le _ _
theorem jbi {s:Clu} {p:Pd} {l:List Nod} {x:ByteArray} (h:x ∈ zL s p l):qq s p x=0∧∃n ∈ l,n.name=x:=by
 unfold zL at h;obtain⟨n,hn,rfl⟩:=List.mem_map.1 h;obtain⟨h1,h2⟩:=List.mem_filter.1 hn;exact⟨of_decide_eq_true h2,n,h1,rfl⟩
open Ieee
abbrev BIN:Nat:=4503599627370496
abbrev INF:Nat:=9218868437227405312
abbrev SGN:Nat:=9223372036854775808
def rung (x:Nat):Nat:=x % SGN
def sgn (x:Nat):Bool:=x / SGN % 2==1
def isNaN (x:Nat):Bool:=decide (INF<rung x)
def fmg (r:Nat):Nat:=if r<BIN then r else BIN+r % BIN
def ex (r:Nat):Nat:=if r<BIN then 0 else r / BIN-1
def val (r:Nat):Nat:=fmg r*2 ^ ex r
def js (x:Nat):Int:=if sgn x then -(rung x:Int) else rung x
def jal (x:Nat):Int:=if sgn x then -(val (rung x):Int) else val (rung x)
def Z0 (a b:Int):Ordering:=if a<b then .lt else if a=b then .eq else .gt
theorem jdg {r s:Nat} (h:r<s):val r<val s:=by
 have hB:(0:Nat)<BIN:=by decide
 by_cases h1:s<BIN
 · have h2:r<BIN:=Nat.lt_trans h h1;simp only[val,fmg,ex,h1,h2,if_true];simpa using h
 · have pos:∀k:Nat,0<2 ^ k:=fun k=>Nat.two_pow_pos k;have hs:BIN≤s:=Nat.not_lt.1 h1;by_cases h2:r<BIN
   · simp only[val,fmg,ex,h1,h2,if_true,if_false];have:=Nat.mul_le_mul_left (BIN+s % BIN) (pos (s / BIN-1));simp only[Nat.pow_zero,Nat.mul_one];omega
   · have hr:BIN≤r:=Nat.not_lt.1 h2;simp only[val,fmg,ex,h1,h2,if_false];have e1:r / BIN≤s / BIN:=Nat.div_le_div_right (Nat.le_of_lt h);have r1:1≤r / BIN:=(Nat.one_le_div_iff hB).2 hr;rcases Nat.lt_or_eq_of_le e1 with e2 | e2
     · obtain⟨k,hk⟩:∃k,s / BIN-1=(r / BIN-1)+1+k:=⟨s / BIN-r / BIN-1,by omega⟩
       rw[hk,Nat.pow_add,Nat.pow_succ];have m1:r % BIN<BIN:=Nat.mod_lt _ hB;have p1:=pos (r / BIN-1);have p2:=pos k
       calc (BIN+r % BIN)*2 ^ (r / BIN-1)<(2*BIN)*2 ^ (r / BIN-1):=Nat.mul_lt_mul_of_pos_right (by omega) p1
        _=BIN*(2 ^ (r / BIN-1)*2):=by rw[Nat.mul_comm 2 BIN,Nat.mul_assoc,Nat.mul_comm 2]
        _≤(BIN+s % BIN)*(2 ^ (r / BIN-1)*2):=Nat.mul_le_mul_right _ (by omega)
        _≤(BIN+s % BIN)*(2 ^ (r / BIN-1)*2*2 ^ k):=Nat.mul_le_mul_left _ (Nat.le_mul_of_pos_right _ p2)
     · rw[e2];refine Nat.mul_lt_mul_of_pos_right ?_ (pos _);have d1:=Nat.div_add_mod r BIN;have d2:=Nat.div_add_mod s BIN;rw[e2] at d1;omega
theorem Xx {r s:Nat}:val r<val s↔r<s:=by
 refine⟨fun h=>?_,jdg⟩;rcases Nat.lt_trichotomy r s with g | g | g
 · exact g
 · subst g;exact absurd h (Nat.lt_irrefl _)
 · exact absurd (jdg g) (Nat.lt_asymm h)
theorem jad {r s:Nat}:val r=val s↔r=s:=by
 refine⟨fun h=>?_,fun h=>by rw[h]⟩;rcases Nat.lt_trichotomy r s with g | g | g
 · have:=jdg g;omega
 · exact g
 · have:=jdg g;omega
theorem val_zero:val 0=0:=by simp[val,fmg,ex]
theorem jlW (x y:Nat):Z0 (jal x) (jal y)=Z0 (js x) (js y):=by
 have key:(jal x<jal y↔js x<js y)∧(jal x=jal y↔js x=js y):=by
  unfold jal js;have a:=@Xx (rung x) (rung y);have b:=@Xx (rung y) (rung x);have c:=@jad (rung x) (rung y);have d:=@Xx 0 (rung x);have e:=@Xx 0 (rung y);have f:=@jad 0 (rung x);have g:=@jad 0 (rung y);rw[val_zero] at d e f g
  cases sgn x<;>cases sgn y<;>simp<;>omega
 unfold Z0;simp only[key.1,key.2]
theorem jiM:double.binade=BIN:=by decide +kernel
theorem jcN:double.infRung=INF:=by decide +kernel
theorem jbt:double.signWeight=SGN:=by decide +kernel
theorem jdp:double.leastPlace=-1074:=by decide +kernel
theorem qH {x:Nat} (h:rung x<INF):double.read x=.number (sgn x) (fmg (rung x)) (-1074+(ex (rung x):Int)):=by
 unfold Format.read;simp only[jiM,jcN,jbt,jdp];have e:x % SGN=rung x:=rfl;by_cases h1:rung x<BIN
 · simp[e,h1,fmg,ex,sgn]
 · simp[e,h1,h,fmg,ex,sgn]
theorem jax {x:Nat} (h:rung x=INF):double.read x=.infinity (sgn x):=by
 unfold Format.read;simp only[jiM,jcN,jbt,jdp];have e:x % SGN=rung x:=rfl;rw[e,h];rw[if_neg (by decide),if_neg (by decide),if_pos rfl];rfl
theorem jae {x:Nat} (h:INF<rung x):double.read x=.nan (sgn x) (rung x-INF):=by
 unfold Format.read;simp only[jiM,jcN,jbt,jdp];have e:x % SGN=rung x:=rfl
 have h1:¬rung x<BIN:=by have:BIN<INF:=by decide
                         omega
 have h2:¬rung x<INF:=by omega
 have h3:¬rung x=INF:=by omega
 simp[e,h1,h2,h3,sgn]
theorem jk2 (s:Bool) (m u:Nat):signed s m u=if s then -((m*2 ^ u:Nat):Int) else ((m*2 ^ u:Nat):Int):=by
 unfold signed;simp only[Nat.shiftLeft_eq]
theorem jlf (a b:Int) (k:Int) (hk:0<k):Z0 (a*k) (b*k)=Z0 a b:=by
 have h1:a*k<b*k↔a<b:=Int.mul_lt_mul_right hk;have h2:a*k=b*k↔a=b:=by
  refine⟨fun h=>Int.eq_of_mul_eq_mul_right (by omega) h,fun h=>by rw[h]⟩
 unfold Z0;simp only[h1,h2]
theorem jfF (a b:Int):compare a b=Z0 a b:=rfl
theorem jkv {x y:Nat} (hx:rung x<INF) (hy:rung y<INF):double.order x y=some (Z0 (js x) (js y)):=by
 unfold Format.order;rw[qH hx,qH hy];simp only[Datum.order,Option.some.injEq];rw[jfF,←jlW];have e1:(-1074+(ex (rung x):Int)-min (-1074+(ex (rung x):Int)) (-1074+(ex (rung y):Int))).toNat=ex (rung x)-min (ex (rung x)) (ex (rung y)):=by omega
 have e2:(-1074+(ex (rung y):Int)-min (-1074+(ex (rung x):Int)) (-1074+(ex (rung y):Int))).toNat=ex (rung y)-min (ex (rung x)) (ex (rung y)):=by omega
 rw[e1,e2,←jlf _ _ ((2 ^ min (ex (rung x)) (ex (rung y)):Nat):Int) (by have:=Nat.two_pow_pos (min (ex (rung x)) (ex (rung y)));omega)];have f:∀z:Nat,min (ex (rung x)) (ex (rung y))≤ex (rung z)→signed (sgn z) (fmg (rung z)) (ex (rung z)-min (ex (rung x)) (ex (rung y)))*((2 ^ min (ex (rung x)) (ex (rung y)):Nat):Int)=jal z:=by
  intro z hz;rw[jk2];have:fmg (rung z)*2 ^ (ex (rung z)-min (ex (rung x)) (ex (rung y)))*2 ^ min (ex (rung x)) (ex (rung y))=val (rung z):=by
   rw[Nat.mul_assoc,←Nat.pow_add,Nat.sub_add_cancel hz];rfl
  unfold jal
  cases sgn z
  · simp only[Bool.false_eq_true,if_false];rw[←Int.natCast_mul,this]
  · simp only[if_true];rw[Int.neg_mul,←Int.natCast_mul,this]
 rw[f x (Nat.min_le_left _ _),f y (Nat.min_le_right _ _)]
theorem jhn {a b:Int} (h:a<b):Z0 a b=.lt:=by unfold Z0;rw[if_pos h]
theorem jhK {a b:Int} (h:b<a):Z0 a b=.gt:=by unfold Z0;rw[if_neg (by omega),if_neg (by omega)]
theorem jfQ {x:Nat} (h:rung x<INF):js x<(INF:Int)∧-(INF:Int)<js x:=by
 unfold js;split<;>omega
theorem jl1 (x y:Nat):double.order x y=if isNaN x||isNaN y then none else some (Z0 (js x) (js y)):=by
 unfold isNaN;rcases Nat.lt_trichotomy (rung x) INF with hx | hx | hx
 · rcases Nat.lt_trichotomy (rung y) INF with hy | hy | hy
   · rw[jkv hx hy,if_neg];simp only[Bool.or_eq_true,decide_eq_true_eq];omega
   · have hs:=jfQ hx;unfold Format.order;rw[qH hx,jax hy,if_neg (by simp only[Bool.or_eq_true,decide_eq_true_eq];omega)];simp only[Datum.order,Option.some.injEq];have:js y=if sgn y then -(INF:Int) else INF:=by unfold js;rw[hy]
     rw[this];clear this
     cases sgn y
     · simp only[Bool.false_eq_true,if_false];rw[jhn (by omega)]
     · simp only[if_true];rw[jhK (by omega)]
   · unfold Format.order;rw[jae hy,if_pos (by simp only[Bool.or_eq_true,decide_eq_true_eq];omega)]
     cases double.read x<;>rfl
 · rcases Nat.lt_trichotomy (rung y) INF with hy | hy | hy
   · have hs:=jfQ hy;unfold Format.order;rw[qH hy,jax hx,if_neg (by simp only[Bool.or_eq_true,decide_eq_true_eq];omega)];simp only[Datum.order,Option.some.injEq];have:js x=if sgn x then -(INF:Int) else INF:=by unfold js;rw[hx]
     rw[this];clear this
     cases sgn x
     · simp only[Bool.false_eq_true,if_false];rw[jhK (by omega)]
     · simp only[if_true];rw[jhn (by omega)]
   · unfold Format.order;rw[jax hx,jax hy,if_neg (by simp only[Bool.or_eq_true,decide_eq_true_eq];omega)];simp only[Datum.order,Option.some.injEq];have e1:js x=if sgn x then -(INF:Int) else INF:=by unfold js;rw[hx]
     have e2:js y=if sgn y then -(INF:Int) else INF:=by unfold js;rw[hy]
     rw[e1,e2]
     cases sgn x<;>cases sgn y<;>decide +kernel
   · unfold Format.order;rw[jae hy,if_pos (by simp only[Bool.or_eq_true,decide_eq_true_eq];omega)]
     cases double.read x<;>rfl
 · unfold Format.order;rw[jae hx,if_pos (by simp only[Bool.or_eq_true,decide_eq_true_eq];omega)];rfl
def cls (x:Nat):Int:=if isNaN x then 6 else if js x=-INF then 0 else if js x=INF then 5 else if js x<0 then 1 else if 0<js x then 4 else if sgn x then 2 else 3
def key (x:Nat):Int:=if isNaN x then SGN else if sgn x then -(rung x:Int)-1 else rung x
def cp (x y:Nat):Int:=if key x<key y then -1 else if key x=key y then 0 else 1
theorem jfk (x:Nat):rung (x ^^^ 2 ^ 63)=rung x:=by
 have h:=Nat.xor_mod_two_pow (a:=x) (b:=2 ^ 63) (n:=63);rw[Nat.mod_self,Nat.xor_zero] at h;exact h
theorem jnj (x:Nat):sgn (x ^^^ 2 ^ 63)=!sgn x:=by
 have h:=Nat.xor_div_two_pow (a:=x) (b:=2 ^ 63) (n:=63);unfold sgn;rw[show SGN=2 ^ 63 from rfl,h,Nat.div_self (Nat.two_pow_pos 63)];have h2:=Nat.xor_mod_two_pow (a:=x / 2 ^ 63) (b:=1) (n:=1);rw[Nat.pow_one] at h2;rw[h2];rcases Nat.mod_two_eq_zero_or_one (x / 2 ^ 63) with g | g
 · rw[g];rfl
 · rw[g];rfl
theorem jk4 (x:Nat):isNaN (x ^^^ 2 ^ 63)=isNaN x:=by unfold isNaN;rw[jfk]
theorem jkh (x:Nat):js (x ^^^ 2 ^ 63)=-js x:=by
 unfold js;rw[jfk,jnj];cases sgn x<;>simp
theorem jnY:((SGN:Nat):Int)=9223372036854775808:=rfl
theorem jfq:((INF:Nat):Int)=9218868437227405312:=rfl
theorem jhF (x:Nat):isNaN x=true↔INF<rung x:=by unfold isNaN;simp
theorem Y5 (x:Nat):isNaN x=false↔rung x≤INF:=by unfold isNaN;simp
theorem ZI (x:Nat):(sgn x=true∧js x=-(rung x:Int))∨(sgn x=false∧js x=rung x):=by
 unfold js;cases sgn x<;>simp
theorem jbz (x:Nat):rung x<SGN:=Nat.mod_lt _ (by decide)
theorem jmv {x y:Nat} (h:cls x<cls y):cp x y=-1:=by
 have hx:=ZI x;have hy:=ZI y;have nx:=Y5 x;have ny:=Y5 y;have lx:=jbz x;have ly:=jbz y;have eS:=jnY;have eI:=jfq;unfold cp;rw[if_pos];unfold cls at h;unfold key
 cases hn:isNaN x<;>cases hm:isNaN y<;>simp only[hn,hm,Bool.false_eq_true,if_false,if_true,true_iff,false_iff,reduceCtorEq] at*<;>rcases hx with ⟨hx1,hx2⟩ | ⟨hx1,hx2⟩<;>rcases hy with ⟨hy1,hy2⟩ | ⟨hy1,hy2⟩<;>simp only[hx1,hy1,Bool.false_eq_true,if_false,if_true] at*<;>omega
theorem jnd (x y:Nat):cp y x=-cp x y:=by
 unfold cp;omega
theorem jod {x y:Nat} (h:cls y<cls x):cp x y=1:=by
 have:=jmv h;rw[jnd] at this;omega
theorem joj {x y:Nat} (h:cls x=cls y) (hn:isNaN x=false):isNaN y=false∧cp x y=if js x<js y then -1 else if js x=js y then 0 else 1:=by
 have hx:=ZI x;have hy:=ZI y;have nx:=Y5 x;have ny:=Y5 y;have lx:=jbz x;have ly:=jbz y;have eS:=jnY;have eI:=jfq;unfold cp;unfold cls at h;unfold key
 cases hm:isNaN y<;>simp only[hn,hm,Bool.false_eq_true,if_false,if_true,true_iff,false_iff,reduceCtorEq] at*<;>rcases hx with ⟨hx1,hx2⟩ | ⟨hx1,hx2⟩<;>rcases hy with ⟨hy1,hy2⟩ | ⟨hy1,hy2⟩<;>simp only[hx1,hy1,Bool.false_eq_true,if_false,if_true] at*<;>first | omega | (refine⟨trivial,?_⟩;omega)
theorem jnO {x y:Nat} (h:cls x=cls y) (hn:isNaN x=true):isNaN y=true∧cp x y=0:=by
 have hy:isNaN y=true:=by
  unfold cls at h
  cases hm:isNaN y
  · simp only[hn,hm,Bool.false_eq_true,if_false,if_true] at h;omega
  · rfl
 refine⟨hy,?_⟩;unfold cp key;simp[hn,hy]
theorem Kept.oneB (w:World) (c:Array Value) (t:TypeId):Kept w (w.alloc (.cells c t)):=(Below.refl _ _).alloc (Nat.le_refl _) _
theorem jaT (x y:Nat):FloatKind.f64.format.order x y=if isNaN x||isNaN y then none else some (Z0 (js x) (js y)):=jl1 x y
theorem jgr (x:Nat):(FloatKind.f64.format.order x x != some .eq)=isNaN x:=by
 rw[jaT];cases isNaN x<;>simp[Z0]
theorem jfT (x y:Nat):(FloatKind.f64.format.order x y==some .lt)=(!isNaN x&&!isNaN y&&decide (js x<js y)):=by
 rw[jaT];unfold Z0;cases isNaN x<;>cases isNaN y<;>simp<;>split<;>simp_all<;>first | omega | (split<;>simp_all<;>omega)
theorem ja5 (x y:Nat):(FloatKind.f64.format.order x y==some .gt)=(!isNaN x&&!isNaN y&&decide (js y<js x)):=by
 rw[jaT];unfold Z0;cases isNaN x<;>cases isNaN y<;>simp<;>split<;>simp_all<;>first | omega | (split<;>simp_all<;>omega)
theorem XA:js 0=0∧isNaN 0=false∧sgn 0=false∧rung 0=0:=by decide +kernel
theorem X7:js 9218868437227405311=9218868437227405311∧isNaN 9218868437227405311=false:=by decide +kernel
theorem jlT {P:Program} (k:FloatKind) (b:Nat) (w:World):(Op.unary .neg (.float k b)).run P w=.ok (.float k (Op.negFloat k b)) w:=rfl
theorem joC (x:Nat):Op.negFloat .f64 x=x ^^^ 2 ^ 63:=rfl
theorem ZU (x:Nat) (w:World):Calls Tryz.prog 306 #[.float .f64 x] w fun e w'=>e=.returned (.bool (isNaN x))∧w=w':=by
 have h:=jgr x;go_enter Tryz.func306,Tryz.ntmps306;go_wp2;go_ret;exact⟨rfl,rfl⟩
theorem YF (x:Nat) (w:World) (hx:isNaN x=false):Calls Tryz.prog 307 #[.float .f64 x,.int .i64 (-1)] w fun e w'=>e=.returned (.bool (decide (js x=-9218868437227405312)))∧w=w':=by
 have h:(FloatKind.f64.format.order (Op.negFloat .f64 x) 9218868437227405311==some .gt)=decide (js x=-9218868437227405312):=by
  rw[ja5,joC,jk4,hx,X7.2,X7.1,jkh];have h1:=ZI x;have h2:=(Y5 x).1 hx;have eI:=jfq;simp only[Bool.not_false,Bool.true_and,decide_eq_decide];omega
 have r:=@jlT Tryz.prog .f64 x;generalize Op.negFloat .f64 x=y at h r
 go_enter Tryz.func307,Tryz.ntmps307;go_wp2;go_ret;exact⟨rfl,rfl⟩
theorem YR (x:Nat) (w:World) (hx:isNaN x=false):Calls Tryz.prog 307 #[.float .f64 x,.int .i64 1] w fun e w'=>e=.returned (.bool (decide (js x=9218868437227405312)))∧w=w':=by
 have h:(FloatKind.f64.format.order x 9218868437227405311==some .gt)=decide (js x=9218868437227405312):=by
  rw[ja5,hx,X7.2,X7.1];have h1:=ZI x;have h2:=(Y5 x).1 hx;have eI:=jfq;simp only[Bool.not_false,Bool.true_and,decide_eq_decide];omega
 go_enter Tryz.func307,Tryz.ntmps307;go_wp2;go_ret;exact⟨rfl,rfl⟩
theorem jmh (x:Nat) (w:World):(callFunc 315 #[.float .f64 x]).run Tryz.prog w=.ok (.value (.int .u64 x)) w:=by
 rw[run_callFunc_extern Tryz.func315 (by kernel_rfl) (by kernel_rfl) (by kernel_rfl) (e:=Extern.MathFloatBits.float64bits) (by kernel_rfl)];rfl
theorem jbV (x:Nat) (w:World):Calls Tryz.prog 308 #[.float .f64 x] w fun e w'=>e=.returned (.bool (sgn x))∧w=w':=by
 have hb:=jmh x;have hs:decide (wrap64 (x:Int)<0)=sgn x:=by
  unfold wrap64 sgn;rw[show SGN=9223372036854775808 from rfl];rcases Nat.mod_two_eq_zero_or_one (x / 9223372036854775808) with h | h
  · rw[h];simp;omega
  · rw[h];simp;omega
 go_enter Tryz.func308,Tryz.ntmps308;go_wp2;go_ret;exact⟨rfl,rfl⟩
theorem jej (x:Nat) (w:World):Calls Tryz.prog 293 #[.float .f64 x] w fun e w'=>e=.returned (.int .i64 (cls x))∧w=w':=by
 have eI:=jfq
 cases hx:isNaN x with
 | true =>
  have hc:cls x=6:=by unfold cls;rw[hx];rfl
  rw[hc];go_enter Tryz.func293,Tryz.ntmps293;go_wp2_with fail
  refine(ZU _ _).mono ?_;rintro e w' ⟨rfl,rfl⟩;go_wp2_with fail
  go_ret;exact⟨rfl,rfl⟩
 | false =>
  have h1:(FloatKind.f64.format.order x 0==some .lt)=decide (js x<0):=by rw[jfT,hx,XA.2.1,XA.1];simp
  have h2:(FloatKind.f64.format.order x 0==some .gt)=decide (0<js x):=by rw[ja5,hx,XA.2.1,XA.1];simp
  have hc:cls x=if js x=-9218868437227405312 then 0 else if js x=9218868437227405312 then 5 else if js x<0 then 1 else if 0<js x then 4 else if sgn x then 2 else 3:=by unfold cls;rw[hx];rfl
  rw[hc];clear hc eI;by_cases a0:js x=-9218868437227405312
  · rw[if_pos a0];go_enter Tryz.func293,Tryz.ntmps293;go_wp2_with fail
    refine(ZU _ _).mono ?_;rintro e w' ⟨rfl,rfl⟩;go_wp2_with fail
    refine(YF _ _ hx).mono ?_;rintro e w' ⟨rfl,rfl⟩;go_wp2_with fail
    go_ret;exact⟨rfl,rfl⟩
  · rw[if_neg a0];by_cases a1:js x=9218868437227405312
    · rw[if_pos a1];go_enter Tryz.func293,Tryz.ntmps293;go_wp2_with fail
      refine(ZU _ _).mono ?_;rintro e w' ⟨rfl,rfl⟩;go_wp2_with fail
      refine(YF _ _ hx).mono ?_;rintro e w' ⟨rfl,rfl⟩;go_wp2_with fail
      refine(YR _ _ hx).mono ?_;rintro e w' ⟨rfl,rfl⟩;go_wp2_with fail
      go_ret;exact⟨rfl,rfl⟩
    · rw[if_neg a1];by_cases a2:js x<0
      · rw[if_pos a2];go_enter Tryz.func293,Tryz.ntmps293;go_wp2_with fail
        refine(ZU _ _).mono ?_;rintro e w' ⟨rfl,rfl⟩;go_wp2_with fail
        refine(YF _ _ hx).mono ?_;rintro e w' ⟨rfl,rfl⟩;go_wp2_with fail
        refine(YR _ _ hx).mono ?_;rintro e w' ⟨rfl,rfl⟩;go_wp2_with fail
        go_ret;exact⟨rfl,rfl⟩
      · rw[if_neg a2];by_cases a3:0<js x
        · rw[if_pos a3];go_enter Tryz.func293,Tryz.ntmps293;go_wp2_with fail
          refine(ZU _ _).mono ?_;rintro e w' ⟨rfl,rfl⟩;go_wp2_with fail
          refine(YF _ _ hx).mono ?_;rintro e w' ⟨rfl,rfl⟩;go_wp2_with fail
          refine(YR _ _ hx).mono ?_;rintro e w' ⟨rfl,rfl⟩;go_wp2_with fail
          go_ret;exact⟨rfl,rfl⟩
        · rw[if_neg a3]
          cases hs:sgn x with
          | true =>
           go_enter Tryz.func293,Tryz.ntmps293;go_wp2_with fail
           refine(ZU _ _).mono ?_;rintro e w' ⟨rfl,rfl⟩;go_wp2_with fail
           refine(YF _ _ hx).mono ?_;rintro e w' ⟨rfl,rfl⟩;go_wp2_with fail
           refine(YR _ _ hx).mono ?_;rintro e w' ⟨rfl,rfl⟩;go_wp2_with fail
           refine(jbV _ _).mono ?_;rintro e w' ⟨rfl,rfl⟩;go_wp2_with fail
           go_ret;exact⟨rfl,rfl⟩
          | false =>
           go_enter Tryz.func293,Tryz.ntmps293;go_wp2_with fail
           refine(ZU _ _).mono ?_;rintro e w' ⟨rfl,rfl⟩;go_wp2_with fail
           refine(YF _ _ hx).mono ?_;rintro e w' ⟨rfl,rfl⟩;go_wp2_with fail
           refine(YR _ _ hx).mono ?_;rintro e w' ⟨rfl,rfl⟩;go_wp2_with fail
           refine(jbV _ _).mono ?_;rintro e w' ⟨rfl,rfl⟩;go_wp2_with fail
           go_ret;exact⟨rfl,rfl⟩
theorem ja4 (x:Int) (w:World):Calls Tryz.prog 120 #[.int .i64 x] w fun e w'=>e=.returned (.bool false)∧w=w':=by
 go_enter Tryz.func120,Tryz.ntmps120;go_wp2;go_ret;exact⟨rfl,rfl⟩
theorem Jw (x:Nat) (w:World):Calls Tryz.prog 309 #[.float .f64 x] w fun e w'=>e=.returned (.bool (isNaN x))∧w=w':=by
 have h:=jgr x;go_enter Tryz.func309,Tryz.ntmps309;go_wp2;go_ret;exact⟨rfl,rfl⟩
theorem jmV (x y:Int) (w:World):Calls Tryz.prog 72 #[.int .i64 x,.int .i64 y] w fun e w'=>e=.returned (.int .i64 (if x<y then -1 else if x=y then 0 else 1))∧w=w':=by
 by_cases h1:x<y
 · rw[if_pos h1];go_enter Tryz.func72,Tryz.ntmps72;go_wp2_with (go_at_call 120;refine(ja4 _ _).mono ?_;rintro e w' ⟨rfl,rfl⟩)
   go_ret;exact⟨rfl,rfl⟩
 · rw[if_neg h1];by_cases h2:x=y
   · rw[if_pos h2];have h3:¬y<x:=by omega
     go_enter Tryz.func72,Tryz.ntmps72;go_wp2_with (go_at_call 120;refine(ja4 _ _).mono ?_;rintro e w' ⟨rfl,rfl⟩)
     go_ret;exact⟨rfl,rfl⟩
   · rw[if_neg h2];have h3:y<x:=by omega
     go_enter Tryz.func72,Tryz.ntmps72;go_wp2_with (go_at_call 120;refine(ja4 _ _).mono ?_;rintro e w' ⟨rfl,rfl⟩)
     go_ret;exact⟨rfl,rfl⟩
theorem jeh (x y:Nat) (w:World) (h:cls x=cls y):Calls Tryz.prog 294 #[.float .f64 x,.float .f64 y] w fun e w'=>e=.returned (.int .i64 (cp x y))∧w=w':=by
 cases hx:isNaN x with
 | true =>
  obtain⟨hy,hc⟩:=jnO h hx;rw[hc];clear hc h;go_enter Tryz.func294,Tryz.ntmps294;go_wp2_with (go_at_call 309;refine(Jw _ _).mono ?_;rintro e w' ⟨rfl,rfl⟩)
  go_ret;exact⟨rfl,rfl⟩
 | false =>
  obtain⟨hy,hc⟩:=joj h hx;rw[hc];clear hc h;have o1:(FloatKind.f64.format.order x y==some .lt)=decide (js x<js y):=by rw[jfT,hx,hy];simp
  have o2:(FloatKind.f64.format.order x y==some .gt)=decide (js y<js x):=by rw[ja5,hx,hy];simp
  by_cases h1:js x<js y
  · rw[if_pos h1];go_enter Tryz.func294,Tryz.ntmps294;go_wp2_with (go_at_call 309;refine(Jw _ _).mono ?_;rintro e w' ⟨rfl,rfl⟩)
    go_ret;exact⟨rfl,rfl⟩
  · rw[if_neg h1];by_cases h2:js x=js y
    · rw[if_pos h2];have h3:¬js y<js x:=by omega
      go_enter Tryz.func294,Tryz.ntmps294;go_wp2_with (go_at_call 309;refine(Jw _ _).mono ?_;rintro e w' ⟨rfl,rfl⟩)
      go_ret;exact⟨rfl,rfl⟩
    · rw[if_neg h2];have h3:js y<js x:=by omega
      go_enter Tryz.func294,Tryz.ntmps294;go_wp2_with (go_at_call 309;refine(Jw _ _).mono ?_;rintro e w' ⟨rfl,rfl⟩)
      go_ret;exact⟨rfl,rfl⟩
open Go.RowKit Ieee
theorem jhr (x y t:Nat):isNaN ((Question.nanBits .f64 x y).cut t)=true∧(Question.nanBits .f64 x y).cut t<18446744073709551616:=by
 have e:(Question.nanBits .f64 x y).cut t=(t % 2)*9223372036854775808+9218868437227405312+1+(t / 2) % 4503599627370495:=rfl;rw[e,jhF];unfold rung;rw[show SGN=9223372036854775808 from rfl,show INF=9218868437227405312 from rfl];have ha:t % 2<2:=Nat.mod_lt _ (by decide);have hb:(t / 2) % 4503599627370495<4503599627370495:=Nat.mod_lt _ (by decide);generalize t % 2=a at ha ⊢
 generalize (t / 2) % 4503599627370495=b at hb ⊢
 omega
theorem XO (n:Bool) {r:Nat} (h:r≤INF):isNaN (double.word n r)=false∧double.word n r<18446744073709551616∧rung (double.word n r)=r∧sgn (double.word n r)=n:=by
 have eS:SGN=9223372036854775808:=rfl;have eI:INF=9218868437227405312:=rfl;have hr:rung (double.word n r)=r:=by
  unfold rung Format.word;rw[jbt,eS];split<;>omega
 have hs:sgn (double.word n r)=n:=by
  unfold sgn Format.word;rw[jbt,eS]
  cases n
  · rw[if_neg (by simp),show r / 9223372036854775808=0 from by omega];rfl
  · rw[if_pos rfl,show (9223372036854775808+r) / 9223372036854775808=1 from by omega];rfl
 refine⟨by rw[Y5,hr];exact h,?_,hr,hs⟩;unfold Format.word;rw[jbt];split<;>omega
def ji8 (mag:Nat) (place:Int):Nat:=rung (double.nearest false mag place)
theorem XH (n:Bool) (m:Nat) (p:Int):double.nearest n m p=double.word n (ji8 m p)∧ji8 m p≤INF:=by
 have h:∃r,r≤INF∧∀n',double.nearest n' m p=double.word n' r:=by
  by_cases hm:m=0
  · exact⟨0,by decide,fun n'=>by unfold Format.nearest;rw[if_pos hm]⟩
  · unfold Format.nearest;simp only[hm,if_false,jcN];exact⟨min ((max (p+(m.log2:Int)-double.fractionBits) double.leastPlace-double.leastPlace).toNat*double.binade+Toward.even.cut false (m <<< (p-max (p+(m.log2:Int)-double.fractionBits) double.leastPlace).toNat) (max (p+(m.log2:Int)-double.fractionBits) double.leastPlace-p).toNat) INF,Nat.min_le_right _ _,fun n'=>rfl⟩
 obtain⟨r,hr,he⟩:=h;have:ji8 m p=r:=by unfold ji8;rw[he false];exact(XO false hr).2.2.1
 rw[this];exact⟨he n,hr⟩
theorem jck {d:Datum} (h:d.isNaN=false):isNaN (double.write d)=false∧double.write d<18446744073709551616:=by
 cases d with
 | number s m p =>
  unfold Format.write;dsimp only;rw[(XH s m p).1];exact⟨(XO s (XH s m p).2).1,(XO s (XH s m p).2).2.1⟩
 | infinity s =>
  unfold Format.write;dsimp only;rw[jcN];exact⟨(XO s (Nat.le_refl _)).1,(XO s (Nat.le_refl _)).2.1⟩
 | nan s t=>cases h
theorem jfe {a b d:Datum} (h:a.sum b=some d):d.isNaN=false:=by
 cases a<;>cases b<;>simp only[Datum.sum] at h<;>first | (cases h;done) | (split at h<;>cases h<;>rfl) | (cases h;rfl)
theorem jeR {k:Nat} {a b d:Datum} (h:a.quotient k b=some d):d.isNaN=false:=by
 cases a<;>cases b<;>simp only[Datum.quotient] at h<;>first | (cases h;done) | (cases h;rfl) | (split at h<;>first | (split at h<;>cases h<;>rfl) | (cases h;rfl))
theorem jfr {x y r:Nat} (h:double.add x y=some r):isNaN r=false∧r<18446744073709551616:=by
 unfold Format.add at h
 cases hs:(double.read x).sum (double.read y) with
 | none=>rw[hs] at h;cases h
 | some d=>rw[hs] at h;cases h;exact jck (jfe hs)
theorem jgk {x y r:Nat} (h:double.sub x y=some r):isNaN r=false∧r<18446744073709551616:=by
 unfold Format.sub at h
 cases hs:(double.read x).sum (double.read y).opposite with
 | none=>rw[hs] at h;cases h
 | some d=>rw[hs] at h;cases h;exact jck (jfe hs)
theorem je8 {x y r:Nat} (h:double.div x y=some r):isNaN r=false∧r<18446744073709551616:=by
 unfold Format.div at h
 cases hs:(double.read x).quotient (double.fractionBits+2) (double.read y) with
 | none=>rw[hs] at h;cases h
 | some d=>rw[hs] at h;cases h;exact jck (jeR hs)
def nrm (x:Nat):Option Nat:=if isNaN x then none else some x
theorem Xa {x r:Nat}:nrm x=some r↔isNaN x=false∧x=r:=by unfold nrm;cases isNaN x<;>simp
theorem Xd {x:Nat}:nrm x=none↔isNaN x=true:=by unfold nrm;cases isNaN x<;>simp
theorem jeo {P:Program} (op:BinOp) (f:Nat→Nat→Option Nat) (hop:(op=.add∧f=double.add)∨(op=.sub∧f=double.sub)∨(op=.quo∧f=double.div)) (x y:Nat) (w:World) :
 ∃r n,(∀t,(binOp op t (.float .f64 x) (.float .f64 y)).run P w=.ok (.float .f64 r) (w.drewN n))∧nrm r=f x y∧r<18446744073709551616:=by
 cases h:f x y with
 | some r =>
  refine⟨r,0,fun t=>?_,?_⟩
  · rw[World.drewN_zero];refine run_float_arith w op t .f64 x y r ?_;rcases hop with ⟨rfl,rfl⟩ | ⟨rfl,rfl⟩ | ⟨rfl,rfl⟩<;>exact h
  · rw[Xa];rcases hop with ⟨rfl,rfl⟩ | ⟨rfl,rfl⟩ | ⟨rfl,rfl⟩
    · exact⟨⟨(jfr h).1,rfl⟩,(jfr h).2⟩
    · exact⟨⟨(jgk h).1,rfl⟩,(jgk h).2⟩
    · exact⟨⟨(je8 h).1,rfl⟩,(je8 h).2⟩
 | none =>
  refine⟨(Question.nanBits .f64 x y).cut (w.tape w.drawn (.nanBits .f64 x y)),1,fun t=>?_,Xd.2 (jhr _ _ _).1,(jhr _ _ _).2⟩;have hd:w.drew=w.drewN 1:=rfl;rw[←hd];rcases hop with ⟨rfl,rfl⟩ | ⟨rfl,rfl⟩ | ⟨rfl,rfl⟩
  · have h':FloatKind.f64.format.add x y=none:=h;simp[binOp,Op.floatArith,h',Question.forced]
  · have h':FloatKind.f64.format.sub x y=none:=h;simp[binOp,Op.floatArith,h',Question.forced]
  · have h':FloatKind.f64.format.div x y=none:=h;simp[binOp,Op.floatArith,h',Question.forced]
theorem jmU {P:Program} (x y:Nat) (w:World):∃r n,(∀t,(binOp .add t (.float .f64 x) (.float .f64 y)).run P w=.ok (.float .f64 r) (w.drewN n))∧nrm r=double.add x y∧r<18446744073709551616:=jeo .add _ (.inl ⟨rfl,rfl⟩) x y w
theorem jhP {P:Program} (x y:Nat) (w:World):∃r n,(∀t,(binOp .quo t (.float .f64 x) (.float .f64 y)).run P w=.ok (.float .f64 r) (w.drewN n))∧nrm r=double.div x y∧r<18446744073709551616:=jeo .quo _ (.inr (.inr ⟨rfl,rfl⟩)) x y w
def RC (x:Nat) (w:World) (e:Ending) (w':World):Prop:=e=.returned (.int .i64 (cls x))∧∃n,w'=w.drewN n
theorem jnJ (x y:Int) (w:World) (t:TypeId):Calls Tryz.prog 71 #[.slice (some ⟨w.heap.size,0,none⟩) 2 2] (w.alloc (.cells #[.int .i64 x,.int .i64 y] t))
 fun e w'=>e=.returned (.int .i64 (if x=0 then y else x))∧w.alloc (.cells #[.int .i64 x,.int .i64 y] t)=w':=by
 have c0:(w.alloc (.cells #[.int .i64 x,.int .i64 y] t)).cell? ⟨w.heap.size,0,none⟩=some (.int .i64 x):=by simp
 have c1:(w.alloc (.cells #[.int .i64 x,.int .i64 y] t)).cell? ⟨w.heap.size,1,none⟩=some (.int .i64 y):=by simp
 generalize w.alloc (.cells #[.int .i64 x,.int .i64 y] t)=w1 at c0 c1 ⊢
 generalize w.heap.size=b at c0 c1 ⊢
 by_cases hx:x=0
 · subst hx;rw[if_pos rfl];by_cases hy:y=0
   · subst hy;go_enter Tryz.func71,Tryz.ntmps71;go_wp2;refine wp_loop_rounds 3 ?_;rw[rounds_succ];go_wp2;rw[rounds_succ];go_wp2;rw[rounds_succ];go_wp2;go_ret;exact⟨rfl,rfl⟩
   · go_enter Tryz.func71,Tryz.ntmps71;go_wp2;refine wp_loop_rounds 3 ?_;rw[rounds_succ];go_wp2;rw[rounds_succ];go_wp2;go_ret;exact⟨rfl,rfl⟩
 · rw[if_neg hx];go_enter Tryz.func71,Tryz.ntmps71;go_wp2;refine wp_loop_rounds 3 ?_;rw[rounds_succ];go_wp2;go_ret;exact⟨rfl,rfl⟩
def CP (x y:Nat) (w:World) (e:Ending) (w':World):Prop:=e=.returned (.int .i64 (cp x y))∧∃c t,w'=w.alloc (.cells c t)
theorem CP.kept {x y:Nat} {w:World} {e:Ending} {w':World} (h:CP x y w e w'):e=.returned (.int .i64 (cp x y))∧Kept w w':=by
 obtain⟨rfl,c,t,rfl⟩:=h;exact⟨rfl,Kept.oneB _ _ _⟩
theorem jeP (x y:Nat) (w:World):∃c:Int,Calls Tryz.prog 294 #[.float .f64 x,.float .f64 y] w fun e w'=>e=.returned (.int .i64 c)∧w=w':=by
 cases hx:isNaN x with
 | true =>
  cases hy:isNaN y with
  | true=>exact⟨_,jeh x y w (by unfold cls;rw[hx,hy];rfl)⟩
  | false =>
   refine⟨-1,?_⟩;go_enter Tryz.func294,Tryz.ntmps294;go_wp2_with (go_at_call 309;refine(Jw _ _).mono ?_;rintro e w' ⟨rfl,rfl⟩)
   go_ret;exact⟨rfl,rfl⟩
 | false =>
  cases hy:isNaN y with
  | true =>
   refine⟨1,?_⟩;go_enter Tryz.func294,Tryz.ntmps294;go_wp2_with (go_at_call 309;refine(Jw _ _).mono ?_;rintro e w' ⟨rfl,rfl⟩)
   go_ret;exact⟨rfl,rfl⟩
  | false =>
   have o1:(FloatKind.f64.format.order x y==some .lt)=decide (js x<js y):=by rw[jfT,hx,hy];simp
   have o2:(FloatKind.f64.format.order x y==some .gt)=decide (js y<js x):=by rw[ja5,hx,hy];simp
   by_cases h1:js x<js y
   · refine⟨-1,?_⟩;go_enter Tryz.func294,Tryz.ntmps294;go_wp2_with (go_at_call 309;refine(Jw _ _).mono ?_;rintro e w' ⟨rfl,rfl⟩)
     go_ret;exact⟨rfl,rfl⟩
   · by_cases h2:js y<js x
     · refine⟨1,?_⟩;go_enter Tryz.func294,Tryz.ntmps294;go_wp2_with (go_at_call 309;refine(Jw _ _).mono ?_;rintro e w' ⟨rfl,rfl⟩)
       go_ret;exact⟨rfl,rfl⟩
     · refine⟨0,?_⟩;go_enter Tryz.func294,Tryz.ntmps294;go_wp2_with (go_at_call 309;refine(Jw _ _).mono ?_;rintro e w' ⟨rfl,rfl⟩)
       go_ret;exact⟨rfl,rfl⟩
theorem jbL (x y:Nat) (w:World):Calls Tryz.prog 276 #[.float .f64 x,.float .f64 y] w (CP x y w):=by
 obtain⟨c2,hc2,he⟩:∃c2:Int,(Calls Tryz.prog 294 #[.float .f64 x,.float .f64 y] w fun e w'=>e=.returned (.int .i64 c2)∧w=w') ∧
  cp x y=if (if cls x<cls y then -1 else if cls x=cls y then 0 else 1:Int)=0 then c2 else (if cls x<cls y then -1 else if cls x=cls y then 0 else 1):=by
  by_cases h2:cls x=cls y
  · refine⟨cp x y,jeh x y w h2,?_⟩;simp only[h2,Int.lt_irrefl,if_false,if_true]
  · obtain⟨c,hc⟩:=jeP x y w;refine⟨c,hc,?_⟩;by_cases h1:cls x<cls y
    · rw[if_pos h1,jmv h1];rfl
    · rw[if_neg h1,if_neg h2,jod (by omega)];rfl
 unfold CP;rw[he];clear he;have hcx:=jej x w;have hcy:=jej y w;have hci:=jmV (cls x) (cls y) w;generalize (if cls x<cls y then -1 else if cls x=cls y then 0 else 1:Int)=c1 at hci ⊢
 generalize cls x=kx at hcx hci
 generalize cls y=ky at hcy hci
 have ho:=jnJ c1 c2;generalize (if c1=0 then c2 else c1)=r at ho ⊢
 have HO:=lH ho;clear ho;go_enter Tryz.func276,Tryz.ntmps276;go_wp2_with fail
 refine hcx.mono ?_;rintro e1 w1 ⟨rfl,rfl⟩;go_wp2_with fail
 refine hcy.mono ?_;rintro e1 w1 ⟨rfl,rfl⟩;go_wp2_with fail
 refine hci.mono ?_;rintro e1 w1 ⟨rfl,rfl⟩;go_wp2_with fail
 refine hc2.mono ?_;rintro e1 w1 ⟨rfl,rfl⟩;go_wp2_with fail
 refine(HO.out _ _).mono ?_;rintro e1 w1 ⟨rfl,rfl⟩;go_wp2_with fail
 go_ret;exact⟨rfl,_,_,rfl⟩
def RCP (x y:Nat) (w:World) (e:Ending) (w':World):Prop:=e=.returned (.int .i64 (cp x y))∧∃n,w'=w.drewN n
theorem RCP.kept {x y:Nat} {w:World} {e:Ending} {w':World} (h:RCP x y w e w'):e=.returned (.int .i64 (cp x y))∧Kept w w':=by
 obtain⟨rfl,n,rfl⟩:=h;exact⟨rfl,Kept.drewN _ _⟩
def AL (x y:Nat) (w:World) (e:Ending) (w':World):Prop:=e=.returned (.bool (decide (cp x y=0)))∧∃n,w'=w.drewN n
theorem AL.kept {x y:Nat} {w:World} {e:Ending} {w':World} (h:AL x y w e w'):e=.returned (.bool (decide (cp x y=0)))∧Kept w w':=by
 obtain⟨rfl,n,rfl⟩:=h;exact⟨rfl,Kept.drewN _ _⟩
abbrev TOP:Nat:=18446744073709551616
def jfg (w:World) (a:Option Addr) (len:Nat) (l:List Nat):Prop :=
 l.length=len∧len≤maxLen∧(∀x ∈ l,x<TOP) ∧
  (len=0∨∃b off,a=some ⟨b,off,none⟩∧b<w.heap.size∧∀i,i<len→w.cell? ⟨b,off+i,none⟩=some (.float .f64 (l.getD i 0)))
theorem jfg.kept {w w':World} {a:Option Addr} {len:Nat} {l:List Nat} (h:jfg w a len l) (k:Kept w w'):jfg w' a len l:=by
 obtain⟨h0,h1,h2,h3⟩:=h;refine⟨h0,h1,h2,h3.imp id ?_⟩;rintro ⟨b,off,ha,hb,hc⟩;exact⟨b,off,ha,Nat.lt_of_lt_of_le hb k.size,fun i hi=>(Below.cell k (p:=⟨b,off+i,none⟩) hb).trans (hc i hi)⟩
theorem Kept.alloc {a b:World} (h:Kept a b) (o:Obj):Kept a (b.alloc o):=h.trans ((Below.refl _ _).alloc (Nat.le_refl _) _)
def OF (a b:Int) (w:World) (e:Ending) (w':World):Prop:=∃r n,e=.returned (.float .f64 r)∧w'=w.drewN n∧nrm r=Ieee.double.div (floatOfInt .f64 a) (floatOfInt .f64 b)∧r<TOP
theorem jmb (a b:Int) (w:World):Calls Tryz.prog 296 #[.int .i64 a,.int .i64 b] w (OF a b w):=by
 unfold OF;obtain⟨r,n,hq,hn,hr⟩:=jhP (P:=Tryz.prog) (floatOfInt .f64 a) (floatOfInt .f64 b) w;have HN:=lH hn;clear hn;go_enter Tryz.func296,Tryz.ntmps296;go_wp2;go_ret;exact⟨r,n,rfl,rfl,HN.out,hr⟩
def NN (w:World) (e:Ending) (w':World):Prop:=∃r n,e=.returned (.float .f64 r)∧w'=w.drewN n∧isNaN r=true∧r<TOP
theorem jfH (n:Int) (w:World):(callFunc 311 #[.int .u64 n]).run Tryz.prog w=.ok (.value (.float .f64 n.toNat)) w:=by
 rw[run_callFunc_extern Tryz.func311 (by kernel_rfl) (by kernel_rfl) (by kernel_rfl) (e:=Extern.MathFloatBits.float64frombits) (by kernel_rfl)];rfl
theorem jm6 (w:World):Calls Tryz.prog 297 #[] w (NN w):=by
 unfold NN;have h:=jfH 9221120237041090561;go_enter Tryz.func297,Tryz.ntmps297;go_wp2;go_ret;exact⟨_,0,rfl,rfl,by decide +kernel,by decide +kernel⟩
def jgh (s:Option Nat) (x:Nat):Option Nat:=s.bind fun s=>Ieee.double.add s x
def qF (l:List Nat):Nat→Option Nat
 | 0=>some 0
 | k+1=>jgh (qF l k) (l.getD k 0)
def qT (l:List Nat):Option Nat:=if l.length=0 then none else (qF l l.length).bind fun s=>Ieee.double.div s (floatOfInt .f64 l.length)
theorem qJ {x:Nat} (h:isNaN x=true):∃s t,Ieee.double.read x=.nan s t:=⟨_,_,jae ((jhF x).1 h)⟩
theorem jmY {s:Nat} (x:Nat) (h:isNaN s=true):Ieee.double.add s x=none:=by
 obtain⟨a,b,e⟩:=qJ h;unfold Ieee.Format.add;rw[e]
 cases Ieee.double.read x<;>rfl
theorem jmE {s:Nat} (x:Nat) (h:isNaN s=true):Ieee.double.div s x=none:=by
 obtain⟨a,b,e⟩:=qJ h;unfold Ieee.Format.div;rw[e]
 cases Ieee.double.read x<;>rfl
theorem jnU {s x r:Nat} {acc:Option Nat} (hs:nrm s=acc) (hr:nrm r=Ieee.double.add s x):nrm r=jgh acc x:=by
 subst hs;unfold jgh
 cases hn:nrm s with
 | none=>rw[hr,jmY x (Xd.1 hn)];rfl
 | some s'=>obtain⟨_,rfl⟩:=Xa.1 hn;exact hr
theorem jnB {s x r:Nat} {acc:Option Nat} (hs:nrm s=acc) (hr:nrm r=Ieee.double.div s x):nrm r=acc.bind fun s=>Ieee.double.div s x:=by
 subst hs
 cases hn:nrm s with
 | none=>rw[hr,jmE x (Xd.1 hn)];rfl
 | some s'=>obtain⟨_,rfl⟩:=Xa.1 hn;exact hr
def MEA (l:List Nat) (w:World) (e:Ending) (w':World):Prop:=∃r,e=.returned (.float .f64 r)∧nrm r=qT l∧r<TOP∧Kept w w'
theorem jll (a:Option Addr) (len cap:Nat) (l:List Nat) (w:World) (hr:jfg w a len l) :
 Calls Tryz.prog 279 #[.slice a len cap] w (MEA l w):=by
 unfold MEA;obtain⟨hl,hm,hx,hc⟩:=hr;unfold maxLen at hm;by_cases h0:len=0
 · subst h0;have hd:qT l=none:=by unfold qT;rw[if_pos hl]
   have HD:=lH hd;have HN:=lH (jm6);clear hd hl hc hx;go_enter Tryz.func279,Tryz.ntmps279;go_wp2_with fail
   refine(HN.out _).mono ?_;rintro e w1 ⟨r,n,rfl,rfl,hn,ht⟩;have H2:=lH hn;clear hn;go_wp2_with fail
   go_ret;exact⟨r,rfl,by rw[HD.out];exact Xd.2 H2.out,ht,Kept.drewN _ _⟩
 rcases hc with rfl | ⟨b,off,rfl,hb,hc⟩
 · omega
 · have hd:qT l=(qF l len).bind fun s=>Ieee.double.div s (floatOfInt .f64 len):=by unfold qT;rw[if_neg (by omega),hl]
   obtain⟨HE,HC,HB⟩:=lH3 hd hc hb;have hb0:((len:Int)==0)=false:=by simp;omega
   clear hc hb hx hl hd;go_enter Tryz.func279,Tryz.ntmps279;go_wp2;go_loopw [3,12] (fun m i wr=>∃k s:Nat,k≤len∧i=.int .i64 k∧m=.float .f64 s∧nrm s=qF l k∧Kept w wr) (fun _ i _=>len-(intOf i).toNat)
   case atStart=>exact⟨0,0,by omega,rfl,rfl,(show nrm 0=some 0 from by decide +kernel),Kept.refl _⟩
   case round =>
    obtain⟨k,s,hk,rfl,rfl,hd,hkw⟩:=hrel;have HD:=lH hd;have HK:=lH hkw;clear hd hkw;by_cases hlt:k<len
    · have c:=(Below.cell HK.out (p:=⟨b,off+k,none⟩) HB.out).trans (HC.out k hlt);obtain⟨x,ex⟩:=eX (l.getD k 0)
      rw[ex] at c;have EX:=lH ex;clear ex;obtain⟨r,n,hq,hn,_⟩:=jmU (P:=Tryz.prog) s x wr;have HN:=lH hn;clear hn;go_wp2;go_roundw
      case rel=>exact⟨k+1,r,by omega,by go_num,rfl,by rw[qF,EX.out];exact jnU HD.out HN.out,HK.out.trans (Kept.drewN _ _)⟩
      case measure=>simp[intOf];omega
    · have ek:k=len:=by omega
      subst ek;obtain⟨r,n,hq,hn,ht⟩:=jhP (P:=Tryz.prog) s (floatOfInt .f64 k) wr;have HN:=lH hn;clear hn;go_wp2;go_ret;exact⟨r,rfl,by rw[HE.out];exact jnB HD.out HN.out,ht,HK.out.trans (Kept.drewN _ _)⟩
def Zs (a b:Int):Int:=if a<b then -1 else if b<a then 1 else 0
def YA (a b:ByteArray):Int:=if ltS a b=true then -1 else if eqS a b=true then 0 else 1
def Xi (n m:Pd):Int:=if Zs m.prio n.prio≠0 then Zs m.prio n.prio else YA n.name m.name
theorem jfi (x:Int) (w:World):Calls Tryz.prog 120 #[.int .i64 x] w fun e w'=>e=.returned (.bool false)∧w=w':=by
 have h:(x != x)=false:=by simp
 go_enter Tryz.func120,Tryz.ntmps120;go_wp2;go_ret;exact⟨rfl,rfl⟩
theorem jfK (x:ByteArray) (w:World):Calls Tryz.prog 121 #[.string x] w fun e w'=>e=.returned (.bool false)∧w=w':=by
 have h:(x.toList==x.toList)=true:=by simp
 go_enter Tryz.func121,Tryz.ntmps121;go_wp2;go_ret;exact⟨rfl,rfl⟩
theorem jfj (a b:Int) (w:World):Calls Tryz.prog 72 #[.int .i64 a,.int .i64 b] w fun e w'=>e=.returned (.int .i64 (Zs a b))∧w=w':=by
 have HA:=lH (jfi a w);have HB:=lH (jfi b w);by_cases h:a<b
 · have HV:=lH (show Zs a b=-1 by unfold Zs;rw[if_pos h]);go_enter Tryz.func72,Tryz.ntmps72;go_wp2_with fail
   refine HA.out.mono ?_;rintro e w1 ⟨rfl,rfl⟩;go_wp2_with fail
   refine HB.out.mono ?_;rintro e w2 ⟨rfl,rfl⟩;go_wp2;go_ret;exact⟨jb HV.out.symm,rfl⟩
 · have h':b≤a:=by omega
   by_cases g:b<a
   · have HV:=lH (show Zs a b=1 by unfold Zs;rw[if_neg h,if_pos g]);clear h;go_enter Tryz.func72,Tryz.ntmps72;go_wp2_with fail
     refine HA.out.mono ?_;rintro e w1 ⟨rfl,rfl⟩;go_wp2_with fail
     refine HB.out.mono ?_;rintro e w2 ⟨rfl,rfl⟩;go_wp2;go_ret;exact⟨jb HV.out.symm,rfl⟩
   · have g':a≤b:=by omega
     have HV:=lH (show Zs a b=0 by unfold Zs;rw[if_neg h,if_neg g]);clear h g;go_enter Tryz.func72,Tryz.ntmps72;go_wp2_with fail
     refine HA.out.mono ?_;rintro e w1 ⟨rfl,rfl⟩;go_wp2_with fail
     refine HB.out.mono ?_;rintro e w2 ⟨rfl,rfl⟩;go_wp2;go_ret;exact⟨jb HV.out.symm,rfl⟩
theorem jf7 (a b:ByteArray) (w:World):Calls Tryz.prog 73 #[.string a,.string b] w fun e w'=>e=.returned (.int .i64 (YA a b))∧w=w':=by
 have HA:=lH (jfK a w);have HB:=lH (jfK b w)
 cases h:ltS a b with
 | true =>
  have h':Op.bytesLess a.toList b.toList=true:=h;have HV:=lH (show YA a b=-1 by unfold YA;rw[if_pos h]);clear h;go_enter Tryz.func73,Tryz.ntmps73;go_wp2_with fail
  refine HA.out.mono ?_;rintro e w1 ⟨rfl,rfl⟩;go_wp2_with fail
  refine HB.out.mono ?_;rintro e w2 ⟨rfl,rfl⟩;go_wp2;go_ret;exact⟨jb HV.out.symm,rfl⟩
 | false =>
  have h':Op.bytesLess a.toList b.toList=false:=h
  cases g:eqS a b with
  | true =>
   have g':(a.toList==b.toList)=true:=g;have HV:=lH (show YA a b=0 by unfold YA;rw[if_neg (by rw[h];decide),if_pos g]);clear h g;go_enter Tryz.func73,Tryz.ntmps73;go_wp2_with fail
   refine HA.out.mono ?_;rintro e w1 ⟨rfl,rfl⟩;go_wp2_with fail
   refine HB.out.mono ?_;rintro e w2 ⟨rfl,rfl⟩;go_wp2;go_ret;exact⟨jb HV.out.symm,rfl⟩
  | false =>
   have g':(a.toList==b.toList)=false:=g;have HV:=lH (show YA a b=1 by unfold YA;rw[if_neg (by rw[h];decide),if_neg (by rw[g];decide)]);clear h g;go_enter Tryz.func73,Tryz.ntmps73;go_wp2_with fail
   refine HA.out.mono ?_;rintro e w1 ⟨rfl,rfl⟩;go_wp2_with fail
   refine HB.out.mono ?_;rintro e w2 ⟨rfl,rfl⟩;go_wp2;go_ret;exact⟨jb HV.out.symm,rfl⟩
theorem jle (W:World) (x y:Int) (T:TypeId) (i:Nat) (z:Int) (hi:([x,y]:List Int)[i]?=some z):(W.alloc (.cells #[.int .i64 x,.int .i64 y] T)).cell? ⟨W.heap.size,i,none⟩=some (.int .i64 z):=by
 refine(jc W (.int .i64 x) [.int .i64 y] T _ (Kept.refl _)).at_ i _ ?_
 match i,hi with
 | 0,h=>simpa using h
 | 1,h=>simpa using h
 | j+2,h=>simp at h
theorem ZM {P:Program} {a:Addr} {m:Mode} {w:World} (k:FloatKind) (n:Nat):(store a (.float k n) m).run P w=stored P w a (.float k n) m:=run_store P w a _ m rfl
def jl7 (a b:Int):Option Nat:=Ieee.double.div (floatOfInt .f64 a) (floatOfInt .f64 b)
def jlx (s x:Option Nat):Option Nat:=s.bind fun s=>x.bind fun x=>Ieee.double.add s x
def jiQ (l:List (Option Nat)):Nat→Option Nat
 | 0=>some 0
 | k+1=>jlx (jiQ l k) (l.getD k none)
def jeW (l:List (Option Nat)):Option Nat:=if l.length=0 then none else (jiQ l l.length).bind fun s=>Ieee.double.div s (floatOfInt .f64 l.length)
theorem jlq {x:Nat} (s:Nat) (h:isNaN x=true):Ieee.double.add s x=none:=by
 obtain⟨a,b,e⟩:=qJ h;unfold Ieee.Format.add;rw[e]
 cases Ieee.double.read s<;>rfl
theorem jlp (s:Option Nat) (x:Nat):jgh s x=jlx s (nrm x):=by
 unfold jgh jlx
 cases s with
 | none=>rfl
 | some s =>
  cases hn:nrm x with
  | none=>exact jlq s (Xd.1 hn)
  | some y=>obtain⟨-,rfl⟩:=Xa.1 hn;rfl
theorem jd1 (l:List Nat):∀k,k≤l.length→qF l k=jiQ (l.map nrm) k
 | 0,_=>rfl
 | k+1,h=>by
  have hk:k<l.length:=h;rw[qF,jiQ,jd1 l k (by omega),jlp];congr 1
  simp[List.getD,hk]
theorem jkK (l:List Nat):qT l=jeW (l.map nrm):=by
 unfold qT jeW;rw[List.length_map];split
 · rfl
 · rw[jd1 l _ (Nat.le_refl _)]
def jeX (o:Option Nat):Int:=match o with | none=>(SGN:Int) | some x=>key x
theorem jhp (x:Nat):key x=jeX (nrm x):=by
 cases hn:nrm x with
 | none=>have:=Xd.1 hn;simp[jeX,key,this]
 | some y=>obtain⟨-,rfl⟩:=Xa.1 hn;rfl
def kO (pack:Bool) (o:Option Nat):Int:=if pack=true then -jeX o else jeX o
def J8 (s:Clu) (x:ByteArray):Nod:=(jl s.nodes x).getD Nod.zero
def Yl (s:Clu) (x what:ByteArray):Option Nat:=jl7 (Vec.jh (JU s x).2 what) (Vec.jh (J8 s x).cap what)
def jc5 (s:Clu) (x:ByteArray):Option Nat:=jeW ((J8 s x).cap.map fun a=>Yl s x a.1)
def ZQ (s:Clu) (x:ByteArray):Clu:=⟨[J8 s x],onP x s.pods,[]⟩
def qD (s:Clu) (p:Pd) (x:ByteArray):Option Nat:=jc5 (Jv (ZQ s x) { p with node:=x }) x
def jbx (s:Clu) (p:Pd) (x:ByteArray):Int:=softN p.tols (J8 s x).taints
def JK (pack:Bool) (m n:Int) (x y:Option Nat) (a b:ByteArray):Bool :=
 decide (m<n)||(decide (m=n)&&(decide (kO pack x<kO pack y)||(decide (kO pack x=kO pack y)&&ltS a b)))
def YX (s:Clu) (p:Pd) (pack:Bool) (a b:ByteArray):Bool:=JK pack (jbx s p a) (jbx s p b) (qD s p a) (qD s p b) a b
abbrev Mk:=ByteArray×Int×Nat
def Y2 (pack:Bool) (a b:Mk):Bool:=JK pack a.2.1 b.2.1 (nrm a.2.2) (nrm b.2.2) a.1 b.1
def cpM (pack:Bool) (x y:Nat):Int:=if pack=true then cp y x else cp x y
def cfM (pack:Bool) (a b:Mk):Int:=if Zs a.2.1 b.2.1≠0 then Zs a.2.1 b.2.1 else if cpM pack a.2.2 b.2.2≠0 then cpM pack a.2.2 b.2.2 else YA a.1 b.1
theorem Xu {pack:Bool} {m n:Int} {x y:Option Nat} {a b:ByteArray}:JK pack m n x y a b=true↔m<n∨(m=n∧(kO pack x<kO pack y∨(kO pack x=kO pack y∧ltS a b=true))):=by
 unfold JK;simp only[Bool.or_eq_true,Bool.and_eq_true,decide_eq_true_eq]
theorem jas {pack:Bool} {m n:Int} {x y:Option Nat} {a b:ByteArray}:JK pack m n x y a b=false↔¬(m<n∨(m=n∧(kO pack x<kO pack y∨(kO pack x=kO pack y∧ltS a b=true)))):=by
 rw[←Bool.not_eq_true,Xu]
theorem jaE (pack:Bool) (m:Int) (x:Option Nat) (a:ByteArray):JK pack m m x x a a=false:=by
 rw[jas,Vec.YY];simp
theorem XV {pack:Bool} {m n k:Int} {x y z:Option Nat} {a b c:ByteArray} (h:JK pack m n x y a b=true) (g:JK pack n k y z b c=true):JK pack m k x z a c=true:=by
 rw[Xu] at *;rcases h with h | ⟨rfl,h⟩
 · rcases g with g | ⟨rfl,g⟩
   · exact .inl (by omega)
   · exact .inl h
 · rcases g with g | ⟨rfl,g⟩
   · exact .inl g
   · refine .inr ⟨rfl,?_⟩;rcases h with h | ⟨h,h2⟩
     · rcases g with g | ⟨g,g2⟩<;>exact .inl (by omega)
     · rcases g with g | ⟨g,g2⟩
       · exact .inl (by omega)
       · exact .inr ⟨by omega,Vec.Ja h2 g2⟩
theorem jbp {pack:Bool} {m n:Int} {x y:Option Nat} {a b:ByteArray} (h:JK pack m n x y a b=false) (g:JK pack n m y x b a=false):a=b∧m=n∧kO pack x=kO pack y:=by
 rw[jas] at *;have h1:m=n:=by
  by_cases e:m=n
  · exact e
  · exact absurd (show m<n∨n<m by omega) (fun q=>by rcases q with q | q;exact h (.inl q);exact g (.inl q))
 have h2:kO pack x=kO pack y:=by
  by_cases e:kO pack x=kO pack y
  · exact e
  · exact absurd (show kO pack x<kO pack y∨kO pack y<kO pack x by omega) (fun q=>by
     rcases q with q | q
     · exact h (.inr ⟨h1,.inl q⟩)
     · exact g (.inr ⟨h1.symm,.inl q⟩))
 refine⟨Vec.Y1 (by
  cases e:ltS a b with
  | false=>rfl
  | true=>exact absurd (.inr ⟨h1,.inr ⟨h2,e⟩⟩) h) (by
  cases e:ltS b a with
  | false=>rfl
  | true=>exact absurd (.inr ⟨h1.symm,.inr ⟨h2.symm,e⟩⟩) g),h1,h2⟩
theorem jaA {pack:Bool} {m n k:Int} {x y z:Option Nat} {a b c:ByteArray} (h:JK pack m n x y a b=false) (g:JK pack n k y z b c=false):JK pack m k x z a c=false:=by
 cases e:JK pack m k x z a c with
 | false=>rfl
 | true =>
  cases q:JK pack n m y x b a with
  | true=>rw[XV q e] at g;cases g
  | false =>
   obtain⟨rfl,rfl,hk⟩:=jbp h q;rw[jas] at g;rw[Xu,hk] at e;exact absurd e g
theorem jh1 (a b:Int):(Zs a b<0↔a<b)∧(Zs a b=0↔a=b):=by
 unfold Zs;omega
theorem jkE (pack:Bool) (x y:Nat):(cpM pack x y<0↔kO pack (nrm x)<kO pack (nrm y))∧(cpM pack x y=0↔kO pack (nrm x)=kO pack (nrm y)):=by
 unfold cpM kO cp;rw[jhp x,jhp y]
 cases pack<;>simp<;>omega
theorem jmf (a b:ByteArray):YA a b<0↔ltS a b=true:=by
 unfold YA
 cases ltS a b<;>cases eqS a b<;>simp
theorem jhv (pack:Bool) (a b:Mk):cfM pack a b<0↔Y2 pack a b=true:=by
 obtain⟨h1,h2⟩:=jh1 a.2.1 b.2.1;obtain⟨h3,h4⟩:=jkE pack a.2.2 b.2.2;have h5:=jmf a.1 b.1;unfold Y2;rw[Xu];unfold cfM;by_cases e:Zs a.2.1 b.2.1=0
 · rw[if_neg (by simpa using e)];have e':=h2.1 e;by_cases f:cpM pack a.2.2 b.2.2=0
   · rw[if_neg (by simpa using f),h5];have f':=h4.1 f;constructor
     · exact fun h=>.inr ⟨e',.inr ⟨f',h⟩⟩
     · rintro (h | ⟨-,h | ⟨-,h⟩⟩)
       · omega
       · omega
       · exact h
   · rw[if_pos f,h3];constructor
     · exact fun h=>.inr ⟨e',.inl h⟩
     · rintro (h | ⟨-,h | ⟨h,-⟩⟩)
       · omega
       · exact h
       · exact absurd (h4.2 h) f
 · rw[if_pos e,h1];constructor
   · exact fun h=>.inl h
   · rintro (h | ⟨h,-⟩)
     · exact h
     · exact absurd (h2.2 h) e
def qi (s:Clu) (p:Pd) (pack:Bool) (l:List ByteArray):Prop:=l.Perm (zL s p s.nodes)∧l.Pairwise fun a b=>YX s p pack b a=false
theorem jfI {s:Clu} {p:Pd} {pack:Bool} {a b:ByteArray} (h:YX s p pack a b=false) (g:YX s p pack b a=false):a=b:=(jbp h g).1
theorem qi.unique {s:Clu} {p:Pd} {pack:Bool} {l m:List ByteArray} (h:qi s p pack l) (g:qi s p pack m):l=m :=
 List.Perm.eq_of_pairwise (fun a b _ _ h g=>jfI g h) h.2 g.2 (h.1.trans g.1.symm)
end Go.Proofs.YtibepooajeakfaaGreat
