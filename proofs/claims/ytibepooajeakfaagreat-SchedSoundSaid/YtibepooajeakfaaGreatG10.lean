/- C. -/
import Derived.Test.YtibepooajeakfaaGreatG0
import Derived.Test.YtibepooajeakfaaGreatG1
import Derived.Test.YtibepooajeakfaaGreatG2
import Derived.Test.YtibepooajeakfaaGreatG3
import Derived.Test.YtibepooajeakfaaGreatG4
import Derived.Test.YtibepooajeakfaaGreatG5
import Derived.Test.YtibepooajeakfaaGreatG6
import Derived.Test.YtibepooajeakfaaGreatG7
set_option linter.unusedVariables false
set_option maxRecDepth 100000
set_option maxHeartbeats 25600000
namespace Go.Proofs.YtibepooajeakfaaGreat
open Go.RowKit
def zV:TL→TL→Bool
 | [],[]=>true
 | x::s,y::t=>((x.1==y.1)&&(eqS x.2.1 y.2.1&&eqS x.2.2 y.2.2))&&zV s t
 | _,_=>false
theorem jaL:∀{l l':TL},l.length≠l'.length→zV l l'=false
 | [],[],h=>absurd rfl h
 | [],_::_,_=>rfl
 | _::_,[],_=>rfl
 | x::s,y::t,h=>by rw[zV,jaL (l:=s) (l':=t) (fun e=>h (by simp[e])),Bool.and_false]
theorem qJ:∀l:TL,zV l l=true
 | []=>rfl
 | x::t=>by rw[zV,qJ t,zh,zh];simp
theorem jjf (a a':Option Addr) (len cap len' cap':Nat) (l l':NL) (w:World) (hr:jk ju w a len l) (hr':jk ju w a' len' l') :
 Calls Tryz.prog 102 #[.slice a len cap,.slice a' len' cap'] w fun e w'=>e=.returned (.bool (jU l l'))∧Kept w w':=by
 have hl:=hr.1;have hm:=hr.2.1;have hl':=hr'.1;have hm':=hr'.2.1;unfold maxLen at hm hm';by_cases hll:len=len'
 · subst hll;by_cases h0:len=0
   · subst h0;have HE:=lH (show jU l l'=true by rw[List.eq_nil_of_length_eq_zero hl,List.eq_nil_of_length_eq_zero hl'];rfl);clear hr hl hr' hl';go_enter Tryz.func102,Tryz.ntmps102;go_wp2;refine wp_loop_rounds 1 ?_;rw[rounds_succ];go_wp2;go_ret;exact⟨jd HE.out.symm,Kept.refl _⟩
   · obtain⟨b,off,rfl⟩:∃b off,a=some ⟨b,off,none⟩:=hr.form.resolve_left h0;obtain⟨b',off',rfl⟩:∃b off,a'=some ⟨b,off,none⟩:=hr'.form.resolve_left h0;have HR:=lH hr;have HL:=lH hl;have HR':=lH hr';have HL':=lH hl';clear hr hl hr' hl' h0;go_enter Tryz.func102,Tryz.ntmps102;go_wp2;go_loopw [13] (fun i wr=>∃k:Nat,k≤len∧i=.int .i64 k∧jU (l.drop k) (l'.drop k)=jU l l'∧Kept w wr) (fun i _=>len-(intOf i).toNat)
     case atStart=>exact⟨0,Nat.zero_le _,rfl,rfl,Kept.refl _⟩
     case round =>
      obtain⟨k,hk,rfl,hrest,hK⟩:=hrel;have HS:=lH hrest;have HK:=lH hK;by_cases hlt:k<len
      · obtain⟨x,y,m,hx,hd,hb,_,_,c1,c2,c3⟩:=(HR.out.kept hK).tri hlt;obtain⟨x9,y9,m9,hx9,hd9,hb9,_,_,d1,d2,d3⟩:=(HR'.out.kept hK).tri hlt;have HD:=lH hd;have VO:=lH hd9;clear hrest hK hx hx9 hd hd9;by_cases e0:eqS x x9=true
        · have E0:=lH e0;have e0':(x.toList==x9.toList)=true:=e0;clear e0;by_cases e1:eqS y y9=true
          · have E1:=lH e1;have e1':(y.toList==y9.toList)=true:=e1;clear e1;by_cases e2:(m==m9)=true
            · have E2:=lH e2;have e2':(m==m9)=true:=e2;clear e2;have E:=lH (show jU (l.drop k) (l'.drop k)=jU (l.drop (k+1)) (l'.drop (k+1)) by rw[HD.out,VO.out,jU,E0.out,E1.out,E2.out];rfl);go_wp2;go_quiet (fail)
              go_wp2;go_roundw
              case rel=>exact⟨k+1,by omega,by go_num,E.out.symm.trans HS.out,HK.out.trans (Kept.drewN _ _)⟩
              case measure=>simp[intOf];omega
            · have e2:(m==m9)=false:=by simpa using e2
              have E2:=lH e2;have e2':(m==m9)=false:=e2;clear e2;have E:=lH (show jU (l.drop k) (l'.drop k)=false by rw[HD.out,VO.out,jU,E0.out,E1.out,E2.out];rfl);go_wp2;go_quiet (fail)
              go_wp2;go_ret;exact⟨jd (HS.out.symm.trans E.out).symm,HK.out.trans (Kept.drewN _ _)⟩
          · have e1:eqS y y9=false:=by simpa using e1
            have E1:=lH e1;have e1':(y.toList==y9.toList)=false:=e1;clear e1;have E:=lH (show jU (l.drop k) (l'.drop k)=false by rw[HD.out,VO.out,jU,E0.out,E1.out];rfl);go_wp2;go_quiet (fail)
            go_wp2;go_ret;exact⟨jd (HS.out.symm.trans E.out).symm,HK.out.trans (Kept.drewN _ _)⟩
        · have e0:eqS x x9=false:=by simpa using e0
          have E0:=lH e0;have e0':(x.toList==x9.toList)=false:=e0;clear e0;have E:=lH (show jU (l.drop k) (l'.drop k)=false by rw[HD.out,VO.out,jU,E0.out];rfl);go_wp2;go_quiet (fail)
          go_wp2;go_ret;exact⟨jd (HS.out.symm.trans E.out).symm,HK.out.trans (Kept.drewN _ _)⟩
      · have E:=lH (show jU (l.drop k) (l'.drop k)=true by
         rw[List.drop_of_length_le (by rw[HL.out];omega),List.drop_of_length_le (by rw[HL'.out];omega),jU])
        clear hrest hK;go_wp2;go_ret;exact⟨jd (HS.out.symm.trans E.out).symm,HK.out⟩
 · have HV:=lH (show jU l l'=false from XN (by omega));clear hr hl hr' hl';have hn:((len:Int) != (len':Int))=true:=by
    simp only[bne_iff_ne,ne_eq];omega
   clear hll;go_enter Tryz.func102,Tryz.ntmps102;go_wp2;go_ret;exact⟨jd HV.out.symm,Kept.refl _⟩
theorem XE {v v':Value} {l l':NL} {c:Bool} {w:World} (h:Reads ju w v l) (h':Reads ju w v' l') (hc:jU l l'=c) :
 Calls Tryz.prog 102 #[v,v'] w (Say (.bool c) w):=by
 subst hc;obtain⟨a,cap,rfl,_,_,hr⟩:=h;obtain⟨a',cap',rfl,_,_,hr'⟩:=h';exact jjf a a' _ cap _ cap' l l' w hr hr'
theorem jh1 (a a':Option Addr) (len cap len' cap':Nat) (l l':TL) (w:World) (hr:jk jO w a len l) (hr':jk jO w a' len' l') :
 Calls Tryz.prog 101 #[.slice a len cap,.slice a' len' cap'] w fun e w'=>e=.returned (.bool (zV l l'))∧Kept w w':=by
 have hl:=hr.1;have hm:=hr.2.1;have hl':=hr'.1;have hm':=hr'.2.1;unfold maxLen at hm hm';by_cases hll:len=len'
 · subst hll;by_cases h0:len=0
   · subst h0;have HE:=lH (show zV l l'=true by rw[List.eq_nil_of_length_eq_zero hl,List.eq_nil_of_length_eq_zero hl'];rfl);clear hr hl hr' hl';go_enter Tryz.func101,Tryz.ntmps101;go_wp2;refine wp_loop_rounds 1 ?_;rw[rounds_succ];go_wp2;go_ret;exact⟨jd HE.out.symm,Kept.refl _⟩
   · obtain⟨b,off,rfl⟩:∃b off,a=some ⟨b,off,none⟩:=hr.form.resolve_left h0;obtain⟨b',off',rfl⟩:∃b off,a'=some ⟨b,off,none⟩:=hr'.form.resolve_left h0;have HR:=lH hr;have HL:=lH hl;have HR':=lH hr';have HL':=lH hl';clear hr hl hr' hl' h0;go_enter Tryz.func101,Tryz.ntmps101;go_wp2;go_loopw [13] (fun i wr=>∃k:Nat,k≤len∧i=.int .i64 k∧zV (l.drop k) (l'.drop k)=zV l l'∧Kept w wr) (fun i _=>len-(intOf i).toNat)
     case atStart=>exact⟨0,Nat.zero_le _,rfl,rfl,Kept.refl _⟩
     case round =>
      obtain⟨k,hk,rfl,hrest,hK⟩:=hrel;have HS:=lH hrest;have HK:=lH hK;by_cases hlt:k<len
      · obtain⟨o,x,y,hx,hd,hb,_,_,_,c1,c2,c3⟩:=(HR.out.kept hK).term hlt;obtain⟨o9,x9,y9,hx9,hd9,hb9,_,_,_,d1,d2,d3⟩:=(HR'.out.kept hK).term hlt;have HD:=lH hd;have VO:=lH hd9;clear hrest hK hx hx9 hd hd9;by_cases e0:(o==o9)=true
        · have E0:=lH e0;have e0':(o==o9)=true:=e0;clear e0;by_cases e1:eqS x x9=true
          · have E1:=lH e1;have e1':(x.toList==x9.toList)=true:=e1;clear e1;by_cases e2:eqS y y9=true
            · have E2:=lH e2;have e2':(y.toList==y9.toList)=true:=e2;clear e2;have E:=lH (show zV (l.drop k) (l'.drop k)=zV (l.drop (k+1)) (l'.drop (k+1)) by rw[HD.out,VO.out,zV,E0.out,E1.out,E2.out];rfl);go_wp2;go_quiet (fail)
              go_wp2;go_roundw
              case rel=>exact⟨k+1,by omega,by go_num,E.out.symm.trans HS.out,HK.out.trans (Kept.drewN _ _)⟩
              case measure=>simp[intOf];omega
            · have e2:eqS y y9=false:=by simpa using e2
              have E2:=lH e2;have e2':(y.toList==y9.toList)=false:=e2;clear e2;have E:=lH (show zV (l.drop k) (l'.drop k)=false by rw[HD.out,VO.out,zV,E0.out,E1.out,E2.out];rfl);go_wp2;go_quiet (fail)
              go_wp2;go_ret;exact⟨jd (HS.out.symm.trans E.out).symm,HK.out.trans (Kept.drewN _ _)⟩
          · have e1:eqS x x9=false:=by simpa using e1
            have E1:=lH e1;have e1':(x.toList==x9.toList)=false:=e1;clear e1;have E:=lH (show zV (l.drop k) (l'.drop k)=false by rw[HD.out,VO.out,zV,E0.out,E1.out];rfl);go_wp2;go_quiet (fail)
            go_wp2;go_ret;exact⟨jd (HS.out.symm.trans E.out).symm,HK.out.trans (Kept.drewN _ _)⟩
        · have e0:(o==o9)=false:=by simpa using e0
          have E0:=lH e0;have e0':(o==o9)=false:=e0;clear e0;have E:=lH (show zV (l.drop k) (l'.drop k)=false by rw[HD.out,VO.out,zV,E0.out];rfl);go_wp2;go_quiet (fail)
          go_wp2;go_ret;exact⟨jd (HS.out.symm.trans E.out).symm,HK.out.trans (Kept.drewN _ _)⟩
      · have E:=lH (show zV (l.drop k) (l'.drop k)=true by
         rw[List.drop_of_length_le (by rw[HL.out];omega),List.drop_of_length_le (by rw[HL'.out];omega),zV])
        clear hrest hK;go_wp2;go_ret;exact⟨jd (HS.out.symm.trans E.out).symm,HK.out⟩
 · have HV:=lH (show zV l l'=false from jaL (by omega));clear hr hl hr' hl';have hn:((len:Int) != (len':Int))=true:=by
    simp only[bne_iff_ne,ne_eq];omega
   clear hll;go_enter Tryz.func101,Tryz.ntmps101;go_wp2;go_ret;exact⟨jd HV.out.symm,Kept.refl _⟩
theorem YJ {v v':Value} {l l':TL} {c:Bool} {w:World} (h:Reads jO w v l) (h':Reads jO w v' l') (hc:zV l l'=c) :
 Calls Tryz.prog 101 #[v,v'] w (Say (.bool c) w):=by
 subst hc;obtain⟨a,cap,rfl,_,_,hr⟩:=h;obtain⟨a',cap',rfl,_,_,hr'⟩:=h';exact jh1 a a' _ cap _ cap' l l' w hr hr'
def zi (n m:Pd):Bool:=(eqS n.name m.name&&(eqS n.owner m.owner&&((n.prio==m.prio)&&(Vec.jY n.need m.need&&(Jc n.labels m.labels&&(zV n.sel m.sel&&(jU n.tols m.tols&&(eqS n.key m.key&&((n.most==m.most)&&(eqS n.node m.node&&(n.hold==m.hold)))))))))))
theorem jgV (n:Pd):zi n n=true:=by
 unfold zi;rw[zh,zh,Vec.ja3,qS,qJ,jaj,zh,zh];simp
theorem jgX (n m:Pd) (v1 v2 v3 v4 u1 u2 u3 u4:Value) (w:World) (h:ji w v1 v2 v3 v4 n) (g:ji w u1 u2 u3 u4 m) :
 Calls Tryz.prog 51 #[jy n v1 v2 v3 v4,jy m u1 u2 u3 u4] w (Say (.bool (zi n m)) w):=by
 have HH:=lH h;have GG:=lH g;obtain⟨b0,hb0⟩:=eX (eqS n.name m.name)
 obtain⟨b1,hb1⟩:=eX (eqS n.owner m.owner)
 obtain⟨b2,hb2⟩:=eX ((n.prio==m.prio))
 obtain⟨b3,hb3⟩:=eX (Vec.jY n.need m.need)
 obtain⟨b4,hb4⟩:=eX (Jc n.labels m.labels)
 obtain⟨b5,hb5⟩:=eX (zV n.sel m.sel)
 obtain⟨b6,hb6⟩:=eX (jU n.tols m.tols)
 obtain⟨b7,hb7⟩:=eX (eqS n.key m.key)
 obtain⟨b8,hb8⟩:=eX ((n.most==m.most))
 obtain⟨b9,hb9⟩:=eX (eqS n.node m.node)
 obtain⟨b10,hb10⟩:=eX ((n.hold==m.hold))
 have VI:=lH (show zi n m=(b0&&(b1&&(b2&&(b3&&(b4&&(b5&&(b6&&(b7&&(b8&&(b9&&b10)))))))))) by unfold zi;rw[hb0,hb1,hb2,hb3,hb4,hb5,hb6,hb7,hb8,hb9,hb10]);have t0:(n.name.toList==m.name.toList)=b0:=hb0;have t1:(n.owner.toList==m.owner.toList)=b1:=hb1;have t2:(n.prio==m.prio)=b2:=hb2;have t7:(n.key.toList==m.key.toList)=b7:=hb7;have t8:(n.most==m.most)=b8:=hb8;have t9:(n.node.toList==m.node.toList)=b9:=hb9;have t10:(n.hold==m.hold)=b10:=hb10;obtain⟨B3,B4,B5,B6⟩:=lH4 hb3 hb4 hb5 hb6;obtain⟨W0,hW0⟩:=eX ((w.alloc (.cells #[.string n.name,.string n.owner,.int .i64 n.prio,v1,v2,v3,v4,.string n.key,.int .i64 n.most,.string n.node,.bool n.hold] 52)).alloc (.cells #[.string m.name,.string m.owner,.int .i64 m.prio,u1,u2,u3,u4,.string m.key,.int .i64 m.most,.string m.node,.bool m.hold] 52))
 have hk0:Kept w W0:=by rw[←hW0];exact jn _ _ _
 have Va:=lH hk0;have HC:=lH (show ∀W,Kept W0 W→(W.cell? ⟨w.heap.size,0,none⟩=some (.string n.name)∧W.cell? ⟨w.heap.size,1,none⟩=some (.string n.owner)∧W.cell? ⟨w.heap.size,2,none⟩=some (.int .i64 n.prio)∧W.cell? ⟨w.heap.size,3,none⟩=some (v1)∧W.cell? ⟨w.heap.size,4,none⟩=some (v2)∧W.cell? ⟨w.heap.size,5,none⟩=some (v3)∧W.cell? ⟨w.heap.size,6,none⟩=some (v4)∧W.cell? ⟨w.heap.size,7,none⟩=some (.string n.key)∧W.cell? ⟨w.heap.size,8,none⟩=some (.int .i64 n.most)∧W.cell? ⟨w.heap.size,9,none⟩=some (.string n.node)∧W.cell? ⟨w.heap.size,10,none⟩=some (.bool n.hold))∧(W.cell? ⟨(w.heap.size+1),0,none⟩=some (.string m.name)∧W.cell? ⟨(w.heap.size+1),1,none⟩=some (.string m.owner)∧W.cell? ⟨(w.heap.size+1),2,none⟩=some (.int .i64 m.prio)∧W.cell? ⟨(w.heap.size+1),3,none⟩=some (u1)∧W.cell? ⟨(w.heap.size+1),4,none⟩=some (u2)∧W.cell? ⟨(w.heap.size+1),5,none⟩=some (u3)∧W.cell? ⟨(w.heap.size+1),6,none⟩=some (u4)∧W.cell? ⟨(w.heap.size+1),7,none⟩=some (.string m.key)∧W.cell? ⟨(w.heap.size+1),8,none⟩=some (.int .i64 m.most)∧W.cell? ⟨(w.heap.size+1),9,none⟩=some (.string m.node)∧W.cell? ⟨(w.heap.size+1),10,none⟩=some (.bool m.hold)) from fun W k=>by
  have c:=jc w (.string n.name) [.string n.owner,.int .i64 n.prio,v1,v2,v3,v4,.string n.key,.int .i64 n.most,.string n.node,.bool n.hold] 52 W (by rw[←hW0] at k;exact(ja _ _).trans k);have d:=jc (w.alloc (.cells #[.string n.name,.string n.owner,.int .i64 n.prio,v1,v2,v3,v4,.string n.key,.int .i64 n.most,.string n.node,.bool n.hold] 52)) (.string m.name) [.string m.owner,.int .i64 m.prio,u1,u2,u3,u4,.string m.key,.int .i64 m.most,.string m.node,.bool m.hold] 52 W (by rw[hW0];exact k);rw[World.size_alloc] at d;exact⟨⟨c.at_ 0 _ rfl,c.at_ 1 _ rfl,c.at_ 2 _ rfl,c.at_ 3 _ rfl,c.at_ 4 _ rfl,c.at_ 5 _ rfl,c.at_ 6 _ rfl,c.at_ 7 _ rfl,c.at_ 8 _ rfl,c.at_ 9 _ rfl,c.at_ 10 _ rfl⟩,d.at_ 0 _ rfl,d.at_ 1 _ rfl,d.at_ 2 _ rfl,d.at_ 3 _ rfl,d.at_ 4 _ rfl,d.at_ 5 _ rfl,d.at_ 6 _ rfl,d.at_ 7 _ rfl,d.at_ 8 _ rfl,d.at_ 9 _ rfl,d.at_ 10 _ rfl⟩)
 obtain⟨⟨c0,c1,c2,c3,c4,c5,c6,c7,c8,c9,c10⟩,d0,d1,d2,d3,d4,d5,d6,d7,d8,d9,d10⟩:=HC.out _ (Kept.refl _);clear hb0 hb1 hb2 hb3 hb4 hb5 hb6 hb7 hb8 hb9 hb10 hk0 h g;unfold jy
 cases b0 with
 | false =>
  have HV:=lH (show zi n m=false by rw[VI.out];simp);go_enter Tryz.func51,Tryz.ntmps51;have K:=lH (Kept.refl W0);go_wp2;try rw[hW0]
  go_ret;exact⟨jd HV.out.symm,Va.out.trans K.out⟩
 | true =>
  cases b1 with
  | false =>
   have HV:=lH (show zi n m=false by rw[VI.out];simp);go_enter Tryz.func51,Tryz.ntmps51;have K:=lH (Kept.refl W0);go_wp2;try rw[hW0]
   go_ret;exact⟨jd HV.out.symm,Va.out.trans K.out⟩
  | true =>
   cases b2 with
   | false =>
    have HV:=lH (show zi n m=false by rw[VI.out];simp);go_enter Tryz.func51,Tryz.ntmps51;have K:=lH (Kept.refl W0);go_wp2;try rw[hW0]
    go_ret;exact⟨jd HV.out.symm,Va.out.trans K.out⟩
   | true =>
    cases b3 with
    | false =>
     have HV:=lH (show zi n m=false by rw[VI.out];simp);go_enter Tryz.func51,Tryz.ntmps51;have K:=lH (Kept.refl W0);go_wp2_with fail
     try rw[hW0]
     refine(Vec.Yc (HH.out.need.kept (Va.out.trans K.out)) (GG.out.need.kept (Va.out.trans K.out)) B3.out).mono ?_;rintro e w3 ⟨rfl,k3⟩;have K:=lH (K.out.trans k3);clear k3 c0 d0 c1 d1 c2 d2 c3 d3 c4 d4 c5 d5 c6 d6 c7 d7 c8 d8 c9 d9 c10 d10;obtain⟨⟨c0,c1,c2,c3,c4,c5,c6,c7,c8,c9,c10⟩,d0,d1,d2,d3,d4,d5,d6,d7,d8,d9,d10⟩:=HC.out _ K.out;go_wp2;go_ret;exact⟨jd HV.out.symm,Va.out.trans K.out⟩
    | true =>
     cases b4 with
     | false =>
      have HV:=lH (show zi n m=false by rw[VI.out];simp);go_enter Tryz.func51,Tryz.ntmps51;have K:=lH (Kept.refl W0);go_wp2_with fail
      try rw[hW0]
      refine(Vec.Yc (HH.out.need.kept (Va.out.trans K.out)) (GG.out.need.kept (Va.out.trans K.out)) B3.out).mono ?_;rintro e w3 ⟨rfl,k3⟩;have K:=lH (K.out.trans k3);clear k3 c0 d0 c1 d1 c2 d2 c3 d3 c4 d4 c5 d5 c6 d6 c7 d7 c8 d8 c9 d9 c10 d10;obtain⟨⟨c0,c1,c2,c3,c4,c5,c6,c7,c8,c9,c10⟩,d0,d1,d2,d3,d4,d5,d6,d7,d8,d9,d10⟩:=HC.out _ K.out;go_wp2_with fail
      refine(Zt (HH.out.labels.kept (Va.out.trans K.out)) (GG.out.labels.kept (Va.out.trans K.out)) B4.out).mono ?_;rintro e w4 ⟨rfl,k4⟩;have K:=lH (K.out.trans k4);clear k4 c0 d0 c1 d1 c2 d2 c3 d3 c4 d4 c5 d5 c6 d6 c7 d7 c8 d8 c9 d9 c10 d10;obtain⟨⟨c0,c1,c2,c3,c4,c5,c6,c7,c8,c9,c10⟩,d0,d1,d2,d3,d4,d5,d6,d7,d8,d9,d10⟩:=HC.out _ K.out;go_wp2;go_ret;exact⟨jd HV.out.symm,Va.out.trans K.out⟩
     | true =>
      cases b5 with
      | false =>
       have HV:=lH (show zi n m=false by rw[VI.out];simp);go_enter Tryz.func51,Tryz.ntmps51;have K:=lH (Kept.refl W0);go_wp2_with fail
       try rw[hW0]
       refine(Vec.Yc (HH.out.need.kept (Va.out.trans K.out)) (GG.out.need.kept (Va.out.trans K.out)) B3.out).mono ?_;rintro e w3 ⟨rfl,k3⟩;have K:=lH (K.out.trans k3);clear k3 c0 d0 c1 d1 c2 d2 c3 d3 c4 d4 c5 d5 c6 d6 c7 d7 c8 d8 c9 d9 c10 d10;obtain⟨⟨c0,c1,c2,c3,c4,c5,c6,c7,c8,c9,c10⟩,d0,d1,d2,d3,d4,d5,d6,d7,d8,d9,d10⟩:=HC.out _ K.out;go_wp2_with fail
       refine(Zt (HH.out.labels.kept (Va.out.trans K.out)) (GG.out.labels.kept (Va.out.trans K.out)) B4.out).mono ?_;rintro e w4 ⟨rfl,k4⟩;have K:=lH (K.out.trans k4);clear k4 c0 d0 c1 d1 c2 d2 c3 d3 c4 d4 c5 d5 c6 d6 c7 d7 c8 d8 c9 d9 c10 d10;obtain⟨⟨c0,c1,c2,c3,c4,c5,c6,c7,c8,c9,c10⟩,d0,d1,d2,d3,d4,d5,d6,d7,d8,d9,d10⟩:=HC.out _ K.out;go_wp2_with fail
       refine(YJ (HH.out.sel.kept (Va.out.trans K.out)) (GG.out.sel.kept (Va.out.trans K.out)) B5.out).mono ?_;rintro e w5 ⟨rfl,k5⟩;have K:=lH (K.out.trans k5);clear k5 c0 d0 c1 d1 c2 d2 c3 d3 c4 d4 c5 d5 c6 d6 c7 d7 c8 d8 c9 d9 c10 d10;obtain⟨⟨c0,c1,c2,c3,c4,c5,c6,c7,c8,c9,c10⟩,d0,d1,d2,d3,d4,d5,d6,d7,d8,d9,d10⟩:=HC.out _ K.out;go_wp2;go_ret;exact⟨jd HV.out.symm,Va.out.trans K.out⟩
      | true =>
       cases b6 with
       | false =>
        have HV:=lH (show zi n m=false by rw[VI.out];simp);go_enter Tryz.func51,Tryz.ntmps51;have K:=lH (Kept.refl W0);go_wp2_with fail
        try rw[hW0]
        refine(Vec.Yc (HH.out.need.kept (Va.out.trans K.out)) (GG.out.need.kept (Va.out.trans K.out)) B3.out).mono ?_;rintro e w3 ⟨rfl,k3⟩;have K:=lH (K.out.trans k3);clear k3 c0 d0 c1 d1 c2 d2 c3 d3 c4 d4 c5 d5 c6 d6 c7 d7 c8 d8 c9 d9 c10 d10;obtain⟨⟨c0,c1,c2,c3,c4,c5,c6,c7,c8,c9,c10⟩,d0,d1,d2,d3,d4,d5,d6,d7,d8,d9,d10⟩:=HC.out _ K.out;go_wp2_with fail
        refine(Zt (HH.out.labels.kept (Va.out.trans K.out)) (GG.out.labels.kept (Va.out.trans K.out)) B4.out).mono ?_;rintro e w4 ⟨rfl,k4⟩;have K:=lH (K.out.trans k4);clear k4 c0 d0 c1 d1 c2 d2 c3 d3 c4 d4 c5 d5 c6 d6 c7 d7 c8 d8 c9 d9 c10 d10;obtain⟨⟨c0,c1,c2,c3,c4,c5,c6,c7,c8,c9,c10⟩,d0,d1,d2,d3,d4,d5,d6,d7,d8,d9,d10⟩:=HC.out _ K.out;go_wp2_with fail
        refine(YJ (HH.out.sel.kept (Va.out.trans K.out)) (GG.out.sel.kept (Va.out.trans K.out)) B5.out).mono ?_;rintro e w5 ⟨rfl,k5⟩;have K:=lH (K.out.trans k5);clear k5 c0 d0 c1 d1 c2 d2 c3 d3 c4 d4 c5 d5 c6 d6 c7 d7 c8 d8 c9 d9 c10 d10;obtain⟨⟨c0,c1,c2,c3,c4,c5,c6,c7,c8,c9,c10⟩,d0,d1,d2,d3,d4,d5,d6,d7,d8,d9,d10⟩:=HC.out _ K.out;go_wp2_with fail
        refine(XE (HH.out.tols.kept (Va.out.trans K.out)) (GG.out.tols.kept (Va.out.trans K.out)) B6.out).mono ?_;rintro e w6 ⟨rfl,k6⟩;have K:=lH (K.out.trans k6);clear k6 c0 d0 c1 d1 c2 d2 c3 d3 c4 d4 c5 d5 c6 d6 c7 d7 c8 d8 c9 d9 c10 d10;obtain⟨⟨c0,c1,c2,c3,c4,c5,c6,c7,c8,c9,c10⟩,d0,d1,d2,d3,d4,d5,d6,d7,d8,d9,d10⟩:=HC.out _ K.out;go_wp2;go_ret;exact⟨jd HV.out.symm,Va.out.trans K.out⟩
       | true =>
        cases b7 with
        | false =>
         have HV:=lH (show zi n m=false by rw[VI.out];simp);go_enter Tryz.func51,Tryz.ntmps51;have K:=lH (Kept.refl W0);go_wp2_with fail
         try rw[hW0]
         refine(Vec.Yc (HH.out.need.kept (Va.out.trans K.out)) (GG.out.need.kept (Va.out.trans K.out)) B3.out).mono ?_;rintro e w3 ⟨rfl,k3⟩;have K:=lH (K.out.trans k3);clear k3 c0 d0 c1 d1 c2 d2 c3 d3 c4 d4 c5 d5 c6 d6 c7 d7 c8 d8 c9 d9 c10 d10;obtain⟨⟨c0,c1,c2,c3,c4,c5,c6,c7,c8,c9,c10⟩,d0,d1,d2,d3,d4,d5,d6,d7,d8,d9,d10⟩:=HC.out _ K.out;go_wp2_with fail
         refine(Zt (HH.out.labels.kept (Va.out.trans K.out)) (GG.out.labels.kept (Va.out.trans K.out)) B4.out).mono ?_;rintro e w4 ⟨rfl,k4⟩;have K:=lH (K.out.trans k4);clear k4 c0 d0 c1 d1 c2 d2 c3 d3 c4 d4 c5 d5 c6 d6 c7 d7 c8 d8 c9 d9 c10 d10;obtain⟨⟨c0,c1,c2,c3,c4,c5,c6,c7,c8,c9,c10⟩,d0,d1,d2,d3,d4,d5,d6,d7,d8,d9,d10⟩:=HC.out _ K.out;go_wp2_with fail
         refine(YJ (HH.out.sel.kept (Va.out.trans K.out)) (GG.out.sel.kept (Va.out.trans K.out)) B5.out).mono ?_;rintro e w5 ⟨rfl,k5⟩;have K:=lH (K.out.trans k5);clear k5 c0 d0 c1 d1 c2 d2 c3 d3 c4 d4 c5 d5 c6 d6 c7 d7 c8 d8 c9 d9 c10 d10;obtain⟨⟨c0,c1,c2,c3,c4,c5,c6,c7,c8,c9,c10⟩,d0,d1,d2,d3,d4,d5,d6,d7,d8,d9,d10⟩:=HC.out _ K.out;go_wp2_with fail
         refine(XE (HH.out.tols.kept (Va.out.trans K.out)) (GG.out.tols.kept (Va.out.trans K.out)) B6.out).mono ?_;rintro e w6 ⟨rfl,k6⟩;have K:=lH (K.out.trans k6);clear k6 c0 d0 c1 d1 c2 d2 c3 d3 c4 d4 c5 d5 c6 d6 c7 d7 c8 d8 c9 d9 c10 d10;obtain⟨⟨c0,c1,c2,c3,c4,c5,c6,c7,c8,c9,c10⟩,d0,d1,d2,d3,d4,d5,d6,d7,d8,d9,d10⟩:=HC.out _ K.out;go_wp2;go_ret;exact⟨jd HV.out.symm,Va.out.trans K.out⟩
        | true =>
         cases b8 with
         | false =>
          have HV:=lH (show zi n m=false by rw[VI.out];simp);go_enter Tryz.func51,Tryz.ntmps51;have K:=lH (Kept.refl W0);go_wp2_with fail
          try rw[hW0]
          refine(Vec.Yc (HH.out.need.kept (Va.out.trans K.out)) (GG.out.need.kept (Va.out.trans K.out)) B3.out).mono ?_;rintro e w3 ⟨rfl,k3⟩;have K:=lH (K.out.trans k3);clear k3 c0 d0 c1 d1 c2 d2 c3 d3 c4 d4 c5 d5 c6 d6 c7 d7 c8 d8 c9 d9 c10 d10;obtain⟨⟨c0,c1,c2,c3,c4,c5,c6,c7,c8,c9,c10⟩,d0,d1,d2,d3,d4,d5,d6,d7,d8,d9,d10⟩:=HC.out _ K.out;go_wp2_with fail
          refine(Zt (HH.out.labels.kept (Va.out.trans K.out)) (GG.out.labels.kept (Va.out.trans K.out)) B4.out).mono ?_;rintro e w4 ⟨rfl,k4⟩;have K:=lH (K.out.trans k4);clear k4 c0 d0 c1 d1 c2 d2 c3 d3 c4 d4 c5 d5 c6 d6 c7 d7 c8 d8 c9 d9 c10 d10;obtain⟨⟨c0,c1,c2,c3,c4,c5,c6,c7,c8,c9,c10⟩,d0,d1,d2,d3,d4,d5,d6,d7,d8,d9,d10⟩:=HC.out _ K.out;go_wp2_with fail
          refine(YJ (HH.out.sel.kept (Va.out.trans K.out)) (GG.out.sel.kept (Va.out.trans K.out)) B5.out).mono ?_;rintro e w5 ⟨rfl,k5⟩;have K:=lH (K.out.trans k5);clear k5 c0 d0 c1 d1 c2 d2 c3 d3 c4 d4 c5 d5 c6 d6 c7 d7 c8 d8 c9 d9 c10 d10;obtain⟨⟨c0,c1,c2,c3,c4,c5,c6,c7,c8,c9,c10⟩,d0,d1,d2,d3,d4,d5,d6,d7,d8,d9,d10⟩:=HC.out _ K.out;go_wp2_with fail
          refine(XE (HH.out.tols.kept (Va.out.trans K.out)) (GG.out.tols.kept (Va.out.trans K.out)) B6.out).mono ?_;rintro e w6 ⟨rfl,k6⟩;have K:=lH (K.out.trans k6);clear k6 c0 d0 c1 d1 c2 d2 c3 d3 c4 d4 c5 d5 c6 d6 c7 d7 c8 d8 c9 d9 c10 d10;obtain⟨⟨c0,c1,c2,c3,c4,c5,c6,c7,c8,c9,c10⟩,d0,d1,d2,d3,d4,d5,d6,d7,d8,d9,d10⟩:=HC.out _ K.out;go_wp2;go_ret;exact⟨jd HV.out.symm,Va.out.trans K.out⟩
         | true =>
          cases b9 with
          | false =>
           have HV:=lH (show zi n m=false by rw[VI.out];simp);go_enter Tryz.func51,Tryz.ntmps51;have K:=lH (Kept.refl W0);go_wp2_with fail
           try rw[hW0]
           refine(Vec.Yc (HH.out.need.kept (Va.out.trans K.out)) (GG.out.need.kept (Va.out.trans K.out)) B3.out).mono ?_;rintro e w3 ⟨rfl,k3⟩;have K:=lH (K.out.trans k3);clear k3 c0 d0 c1 d1 c2 d2 c3 d3 c4 d4 c5 d5 c6 d6 c7 d7 c8 d8 c9 d9 c10 d10;obtain⟨⟨c0,c1,c2,c3,c4,c5,c6,c7,c8,c9,c10⟩,d0,d1,d2,d3,d4,d5,d6,d7,d8,d9,d10⟩:=HC.out _ K.out;go_wp2_with fail
           refine(Zt (HH.out.labels.kept (Va.out.trans K.out)) (GG.out.labels.kept (Va.out.trans K.out)) B4.out).mono ?_;rintro e w4 ⟨rfl,k4⟩;have K:=lH (K.out.trans k4);clear k4 c0 d0 c1 d1 c2 d2 c3 d3 c4 d4 c5 d5 c6 d6 c7 d7 c8 d8 c9 d9 c10 d10;obtain⟨⟨c0,c1,c2,c3,c4,c5,c6,c7,c8,c9,c10⟩,d0,d1,d2,d3,d4,d5,d6,d7,d8,d9,d10⟩:=HC.out _ K.out;go_wp2_with fail
           refine(YJ (HH.out.sel.kept (Va.out.trans K.out)) (GG.out.sel.kept (Va.out.trans K.out)) B5.out).mono ?_;rintro e w5 ⟨rfl,k5⟩;have K:=lH (K.out.trans k5);clear k5 c0 d0 c1 d1 c2 d2 c3 d3 c4 d4 c5 d5 c6 d6 c7 d7 c8 d8 c9 d9 c10 d10;obtain⟨⟨c0,c1,c2,c3,c4,c5,c6,c7,c8,c9,c10⟩,d0,d1,d2,d3,d4,d5,d6,d7,d8,d9,d10⟩:=HC.out _ K.out;go_wp2_with fail
           refine(XE (HH.out.tols.kept (Va.out.trans K.out)) (GG.out.tols.kept (Va.out.trans K.out)) B6.out).mono ?_;rintro e w6 ⟨rfl,k6⟩;have K:=lH (K.out.trans k6);clear k6 c0 d0 c1 d1 c2 d2 c3 d3 c4 d4 c5 d5 c6 d6 c7 d7 c8 d8 c9 d9 c10 d10;obtain⟨⟨c0,c1,c2,c3,c4,c5,c6,c7,c8,c9,c10⟩,d0,d1,d2,d3,d4,d5,d6,d7,d8,d9,d10⟩:=HC.out _ K.out;go_wp2;go_ret;exact⟨jd HV.out.symm,Va.out.trans K.out⟩
          | true =>
           cases b10 with
           | false =>
            have HV:=lH (show zi n m=false by rw[VI.out];simp);go_enter Tryz.func51,Tryz.ntmps51;have K:=lH (Kept.refl W0);go_wp2_with fail
            try rw[hW0]
            refine(Vec.Yc (HH.out.need.kept (Va.out.trans K.out)) (GG.out.need.kept (Va.out.trans K.out)) B3.out).mono ?_;rintro e w3 ⟨rfl,k3⟩;have K:=lH (K.out.trans k3);clear k3 c0 d0 c1 d1 c2 d2 c3 d3 c4 d4 c5 d5 c6 d6 c7 d7 c8 d8 c9 d9 c10 d10;obtain⟨⟨c0,c1,c2,c3,c4,c5,c6,c7,c8,c9,c10⟩,d0,d1,d2,d3,d4,d5,d6,d7,d8,d9,d10⟩:=HC.out _ K.out;go_wp2_with fail
            refine(Zt (HH.out.labels.kept (Va.out.trans K.out)) (GG.out.labels.kept (Va.out.trans K.out)) B4.out).mono ?_;rintro e w4 ⟨rfl,k4⟩;have K:=lH (K.out.trans k4);clear k4 c0 d0 c1 d1 c2 d2 c3 d3 c4 d4 c5 d5 c6 d6 c7 d7 c8 d8 c9 d9 c10 d10;obtain⟨⟨c0,c1,c2,c3,c4,c5,c6,c7,c8,c9,c10⟩,d0,d1,d2,d3,d4,d5,d6,d7,d8,d9,d10⟩:=HC.out _ K.out;go_wp2_with fail
            refine(YJ (HH.out.sel.kept (Va.out.trans K.out)) (GG.out.sel.kept (Va.out.trans K.out)) B5.out).mono ?_;rintro e w5 ⟨rfl,k5⟩;have K:=lH (K.out.trans k5);clear k5 c0 d0 c1 d1 c2 d2 c3 d3 c4 d4 c5 d5 c6 d6 c7 d7 c8 d8 c9 d9 c10 d10;obtain⟨⟨c0,c1,c2,c3,c4,c5,c6,c7,c8,c9,c10⟩,d0,d1,d2,d3,d4,d5,d6,d7,d8,d9,d10⟩:=HC.out _ K.out;go_wp2_with fail
            refine(XE (HH.out.tols.kept (Va.out.trans K.out)) (GG.out.tols.kept (Va.out.trans K.out)) B6.out).mono ?_;rintro e w6 ⟨rfl,k6⟩;have K:=lH (K.out.trans k6);clear k6 c0 d0 c1 d1 c2 d2 c3 d3 c4 d4 c5 d5 c6 d6 c7 d7 c8 d8 c9 d9 c10 d10;obtain⟨⟨c0,c1,c2,c3,c4,c5,c6,c7,c8,c9,c10⟩,d0,d1,d2,d3,d4,d5,d6,d7,d8,d9,d10⟩:=HC.out _ K.out;go_wp2;go_ret;exact⟨jd HV.out.symm,Va.out.trans K.out⟩
           | true =>
            have HV:=lH (show zi n m=true by rw[VI.out];rfl);go_enter Tryz.func51,Tryz.ntmps51;have K:=lH (Kept.refl W0);go_wp2_with fail
            try rw[hW0]
            refine(Vec.Yc (HH.out.need.kept (Va.out.trans K.out)) (GG.out.need.kept (Va.out.trans K.out)) B3.out).mono ?_;rintro e w3 ⟨rfl,k3⟩;have K:=lH (K.out.trans k3);clear k3 c0 d0 c1 d1 c2 d2 c3 d3 c4 d4 c5 d5 c6 d6 c7 d7 c8 d8 c9 d9 c10 d10;obtain⟨⟨c0,c1,c2,c3,c4,c5,c6,c7,c8,c9,c10⟩,d0,d1,d2,d3,d4,d5,d6,d7,d8,d9,d10⟩:=HC.out _ K.out;go_wp2_with fail
            refine(Zt (HH.out.labels.kept (Va.out.trans K.out)) (GG.out.labels.kept (Va.out.trans K.out)) B4.out).mono ?_;rintro e w4 ⟨rfl,k4⟩;have K:=lH (K.out.trans k4);clear k4 c0 d0 c1 d1 c2 d2 c3 d3 c4 d4 c5 d5 c6 d6 c7 d7 c8 d8 c9 d9 c10 d10;obtain⟨⟨c0,c1,c2,c3,c4,c5,c6,c7,c8,c9,c10⟩,d0,d1,d2,d3,d4,d5,d6,d7,d8,d9,d10⟩:=HC.out _ K.out;go_wp2_with fail
            refine(YJ (HH.out.sel.kept (Va.out.trans K.out)) (GG.out.sel.kept (Va.out.trans K.out)) B5.out).mono ?_;rintro e w5 ⟨rfl,k5⟩;have K:=lH (K.out.trans k5);clear k5 c0 d0 c1 d1 c2 d2 c3 d3 c4 d4 c5 d5 c6 d6 c7 d7 c8 d8 c9 d9 c10 d10;obtain⟨⟨c0,c1,c2,c3,c4,c5,c6,c7,c8,c9,c10⟩,d0,d1,d2,d3,d4,d5,d6,d7,d8,d9,d10⟩:=HC.out _ K.out;go_wp2_with fail
            refine(XE (HH.out.tols.kept (Va.out.trans K.out)) (GG.out.tols.kept (Va.out.trans K.out)) B6.out).mono ?_;rintro e w6 ⟨rfl,k6⟩;have K:=lH (K.out.trans k6);clear k6 c0 d0 c1 d1 c2 d2 c3 d3 c4 d4 c5 d5 c6 d6 c7 d7 c8 d8 c9 d9 c10 d10;obtain⟨⟨c0,c1,c2,c3,c4,c5,c6,c7,c8,c9,c10⟩,d0,d1,d2,d3,d4,d5,d6,d7,d8,d9,d10⟩:=HC.out _ K.out;go_wp2;go_ret;exact⟨jd HV.out.symm,Va.out.trans K.out⟩
theorem jlW {v u:Value} {n m:Pd} {b:Bool} {w:World} (h:jbq w v n) (g:jbq w u m) (hb:zi n m=b):Calls Tryz.prog 51 #[v,u] w (Say (.bool b) w):=by
 subst hb;obtain⟨v1,v2,v3,v4,rfl,h⟩:=h;obtain⟨u1,u2,u3,u4,rfl,g⟩:=g;exact jgX n m v1 v2 v3 v4 u1 u2 u3 u4 w h g
def JJ (a b:Bd):Bool:=eqS a.name b.name&&(zV a.sel b.sel&&decide (a.floor=b.floor))
def qw (a b:Clu):Bool:=jF Jg a.nodes b.nodes&&(jF zi a.pods b.pods&&jF JJ a.buds b.buds)
theorem Xj {α:Type} {f:α→α→Bool}:∀{l m:List α},l.length≠m.length→jF f l m=false
 | [],[],h=>absurd rfl h
 | [],_::_,_=>rfl
 | _::_,[],_=>rfl
 | x::s,y::t,h=>by rw[jF,Xj (l:=s) (m:=t) (fun e=>h (by rw[List.length_cons,List.length_cons,e])),Bool.and_false]
theorem YQ {α:Type} {f:α→α→Bool} (hf:∀x,f x x=true):∀l:List α,jF f l l=true
 | []=>rfl
 | x::t=>by rw[jF,hf,YQ hf t];rfl
theorem jg2 (a:Bd):JJ a a=true:=by
 unfold JJ;rw[zh,qJ,decide_eq_true rfl];rfl
theorem jgL (a:Clu):qw a a=true:=by
 unfold qw;rw[YQ jjh,YQ jgV,YQ jg2];rfl
theorem jdj (a1 a2:Option Addr) (m1 c1 m2 c2:Nat) (n k:Bd) (w:World) (h:zp w (.slice a1 m1 c1) n) (g:zp w (.slice a2 m2 c2) k) :
 Calls Tryz.prog 53 #[JY n (.slice a1 m1 c1),JY k (.slice a2 m2 c2)] w (Say (.bool (JJ n k)) w):=by
 obtain⟨x,s,p⟩:=n;obtain⟨y,t,q⟩:=k;obtain⟨Z,hZ⟩:=eX ((w.alloc (.cells #[.string x,.slice a1 m1 c1,.int .i64 p] 108)).alloc (.cells #[.string y,.slice a2 m2 c2,.int .i64 q] 108))
 have hkz:Kept w Z:=by rw[←hZ];exact jn _ _ _
 have cc:=jc w (.string x) [.slice a1 m1 c1,.int .i64 p] 108 Z (by rw[←hZ];exact ja _ _);have dd:=jc (w.alloc (.cells #[.string x,.slice a1 m1 c1,.int .i64 p] 108)) (.string y) [.slice a2 m2 c2,.int .i64 q] 108 Z (by rw[hZ];exact Kept.refl _);rw[World.size_alloc] at dd;have o0:=cc.at_ 0 _ rfl;have r0:=dd.at_ 0 _ rfl;have o1:=cc.at_ 1 _ rfl;have r1:=dd.at_ 1 _ rfl;have o2:=cc.at_ 2 _ rfl;have r2:=dd.at_ 2 _ rfl;obtain⟨e1,he1⟩:=eX (eqS x y)
 have he1':(x.toList==y.toList)=e1:=he1;obtain⟨e2,he2⟩:=eX (zV s t)
 obtain⟨e3,he3⟩:=eX (decide (p=q))
 have he3':(p==q)=e3:=he3;obtain⟨HV,HE,Vc⟩:=lH3 (show JJ ⟨x,s,p⟩ ⟨y,t,q⟩=(e1&&(e2&&e3)) by unfold JJ;dsimp only;rw[he1,he2,he3]) (fun W (k:Kept Z W)=>YJ (h.sel.kept (hkz.trans k)) (g.sel.kept (hkz.trans k)) he2) hkz;clear h g hkz cc dd he1 he2 he3;unfold JY;dsimp only
 cases e1 with
 | false =>
  go_enter Tryz.func53,Tryz.ntmps53;go_wp2;go_ret;exact⟨jd HV.out.symm,by first | exact Vc.out | (rw[hZ];exact Vc.out)⟩
 | true =>
  cases e2 with
  | false =>
   go_enter Tryz.func53,Tryz.ntmps53;go_wp2_with fail
   try rw[hZ]
   refine(HE.out _ (Kept.refl _)).mono ?_;rintro e w1 ⟨rfl,k⟩;have K:=lH k;have cc:=jc w (.string x) [.slice a1 m1 c1,.int .i64 p] 108 w1 (by rw[←hZ] at k;exact(ja _ _).trans k);have dd:=jc (w.alloc (.cells #[.string x,.slice a1 m1 c1,.int .i64 p] 108)) (.string y) [.slice a2 m2 c2,.int .i64 q] 108 w1 (by rw[hZ];exact k);rw[World.size_alloc] at dd;have v0:=cc.at_ 2 _ rfl;have v1:=dd.at_ 2 _ rfl;clear k cc dd;go_wp2;go_ret;exact⟨jd HV.out.symm,Vc.out.trans K.out⟩
  | true =>
   cases e3 <;>
   (go_enter Tryz.func53,Tryz.ntmps53
    go_wp2_with fail
    try rw[hZ]
    refine(HE.out _ (Kept.refl _)).mono ?_;rintro e w1 ⟨rfl,k⟩;have K:=lH k;have cc:=jc w (.string x) [.slice a1 m1 c1,.int .i64 p] 108 w1 (by rw[←hZ] at k;exact(ja _ _).trans k);have dd:=jc (w.alloc (.cells #[.string x,.slice a1 m1 c1,.int .i64 p] 108)) (.string y) [.slice a2 m2 c2,.int .i64 q] 108 w1 (by rw[hZ];exact k);rw[World.size_alloc] at dd;have v0:=cc.at_ 2 _ rfl;have v1:=dd.at_ 2 _ rfl;clear k cc dd;go_wp2;go_ret;exact⟨jd HV.out.symm,Vc.out.trans K.out⟩)
theorem jlm (a a9:Option Addr) (len cap len9 cap9:Nat) (l l9:List Nod) (w:World) (hr:jo w a len l) (hr9:jo w a9 len9 l9) :
 Calls Tryz.prog 48 #[.slice a len cap,.slice a9 len9 cap9,.func (.func 49) #[] #[]] w (Say (.bool (jF Jg l l9)) w):=by
 have hl:=hr.1;have hm:=hr.2.1;have hl9:=hr9.1;have hm9:=hr9.2.1;unfold maxLen at hm hm9;by_cases he:len=len9
 · subst he;obtain⟨HR,UZ,HL,Ui⟩:=lH4 hr hr9 hl hl9;clear hr hr9 hl hl9;go_enter Tryz.func48,Tryz.ntmps48;go_wp2;go_loopw [17] (fun i wr=>∃k:Nat,k≤len∧i=.int .i64 k∧jF Jg (l.drop k) (l9.drop k)=jF Jg l l9∧Kept w wr) (fun i _=>len-(intOf i).toNat)
   case atStart=>exact⟨0,Nat.zero_le _,rfl,rfl,Kept.refl _⟩
   case round =>
    obtain⟨k,hk,rfl,hrest,hK⟩:=hrel;have HT:=lH hrest;have HK:=lH hK;by_cases hlt:k<len
    · obtain⟨b,off,rfl⟩:=HR.out.form.resolve_left (by omega);obtain⟨b9,off9,rfl⟩:=UZ.out.form.resolve_left (by omega);obtain⟨n,a1,m1,c1,a2,m2,c2,a3,m3,c3,hn,hd,hb,p0,p1,p2,p3,p4,hat⟩:=(HR.out.kept hK).at_ hlt;obtain⟨k9,x1,y1,z1,x2,y2,z2,x3,y3,z3,hn9,hd9,hb9,q0,q1,q2,q3,q4,hat9⟩:=(UZ.out.kept hK).at_ hlt;have HD:=lH hd;have VO:=lH hd9;obtain⟨t,ht⟩:=eX (Jg n k9)
      have U0:=lH ht;have HC:=lH (fun W (kk:Kept wr W)=>show Calls Tryz.prog 49 #[zj n (.slice a1 m1 c1) (.slice a2 m2 c2) (.slice a3 m3 c3),zj k9 (.slice x1 y1 z1) (.slice x2 y2 z2) (.slice x3 y3 z3)] W (Say (.bool t) W) from jlJ ⟨_,_,_,rfl,hat.kept kk⟩ ⟨_,_,_,rfl,hat9.kept kk⟩ ht);unfold zj at HC;have hkk:(k:Int)<(len:Int):=by omega
      clear hrest hK hat hat9 hn hn9 hd hd9 ht
      cases t with
      | true =>
       have HX:=lH (show jF Jg (l.drop (k+1)) (l9.drop (k+1))=jF Jg l l9 by rw[←HT.out,HD.out,VO.out,jF,U0.out];rfl);go_wp2_with fail
       refine(HC.out _ ((ja _ _).trans (ja _ _))).mono ?_;rintro e w1 ⟨rfl,kk⟩;have KW:=lH (HK.out.trans (((ja _ _).trans (ja _ _)).trans kk));clear kk;go_wp2;go_roundw
       case rel=>exact⟨k+1,by omega,by go_num,HX.out,KW.out⟩
       case measure=>simp[intOf];omega
      | false =>
       have HX:=lH (show jF Jg l l9=false by rw[←HT.out,HD.out,VO.out,jF,U0.out];rfl);go_wp2_with fail
       refine(HC.out _ ((ja _ _).trans (ja _ _))).mono ?_;rintro e w1 ⟨rfl,kk⟩;have KW:=lH (HK.out.trans (((ja _ _).trans (ja _ _)).trans kk));clear kk;go_wp2;go_ret;exact⟨jd HX.out.symm,KW.out⟩
    · have HX:=lH (show jF Jg l l9=true by rw[←hrest,List.drop_of_length_le (by rw[HL.out];omega),List.drop_of_length_le (by rw[Ui.out];omega)];rfl);clear hrest hK;go_wp2;go_ret;exact⟨jd HX.out.symm,HK.out⟩
 · have HX:=lH (show jF Jg l l9=false from Xj (by rw[hl,hl9];exact he));have he':((len:Int) != (len9:Int))=true:=by simpa using (fun e:(len:Int)=(len9:Int)=>he (by omega))
   clear hr hr9 he;go_enter Tryz.func48,Tryz.ntmps48;go_wp2;go_ret;exact⟨jd HX.out.symm,Kept.refl _⟩
theorem jlA (a a9:Option Addr) (len cap len9 cap9:Nat) (l l9:List Pd) (w:World) (hr:jx w a len l) (hr9:jx w a9 len9 l9) :
 Calls Tryz.prog 50 #[.slice a len cap,.slice a9 len9 cap9,.func (.func 51) #[] #[]] w (Say (.bool (jF zi l l9)) w):=by
 have hl:=hr.1;have hm:=hr.2.1;have hl9:=hr9.1;have hm9:=hr9.2.1;unfold maxLen at hm hm9;by_cases he:len=len9
 · subst he;obtain⟨HR,UZ,HL,Ui⟩:=lH4 hr hr9 hl hl9;clear hr hr9 hl hl9;go_enter Tryz.func50,Tryz.ntmps50;go_wp2;go_loopw [17] (fun i wr=>∃k:Nat,k≤len∧i=.int .i64 k∧jF zi (l.drop k) (l9.drop k)=jF zi l l9∧Kept w wr) (fun i _=>len-(intOf i).toNat)
   case atStart=>exact⟨0,Nat.zero_le _,rfl,rfl,Kept.refl _⟩
   case round =>
    obtain⟨k,hk,rfl,hrest,hK⟩:=hrel;have HT:=lH hrest;have HK:=lH hK;by_cases hlt:k<len
    · obtain⟨b,off,rfl⟩:=HR.out.form.resolve_left (by omega);obtain⟨b9,off9,rfl⟩:=UZ.out.form.resolve_left (by omega);obtain⟨n,a1,m1,c1,a2,m2,c2,a3,m3,c3,a4,m4,c4,hn,hd,hb,p0,p1,p2,p3,p4,p5,p6,p7,p8,p9,p10,hat⟩:=(HR.out.kept hK).at_ hlt;obtain⟨k9,x1,y1,z1,x2,y2,z2,x3,y3,z3,x4,y4,z4,hn9,hd9,hb9,q0,q1,q2,q3,q4,q5,q6,q7,q8,q9,q10,hat9⟩:=(UZ.out.kept hK).at_ hlt;have HD:=lH hd;have VO:=lH hd9;obtain⟨t,ht⟩:=eX (zi n k9)
      have U0:=lH ht;have HC:=lH (fun W (kk:Kept wr W)=>show Calls Tryz.prog 51 #[jy n (.slice a1 m1 c1) (.slice a2 m2 c2) (.slice a3 m3 c3) (.slice a4 m4 c4),jy k9 (.slice x1 y1 z1) (.slice x2 y2 z2) (.slice x3 y3 z3) (.slice x4 y4 z4)] W (Say (.bool t) W) from jlW ⟨_,_,_,_,rfl,hat.kept kk⟩ ⟨_,_,_,_,rfl,hat9.kept kk⟩ ht);unfold jy at HC;have hkk:(k:Int)<(len:Int):=by omega
      clear hrest hK hat hat9 hn hn9 hd hd9 ht
      cases t with
      | true =>
       have HX:=lH (show jF zi (l.drop (k+1)) (l9.drop (k+1))=jF zi l l9 by rw[←HT.out,HD.out,VO.out,jF,U0.out];rfl);go_wp2_with fail
       refine(HC.out _ ((ja _ _).trans (ja _ _))).mono ?_;rintro e w1 ⟨rfl,kk⟩;have KW:=lH (HK.out.trans (((ja _ _).trans (ja _ _)).trans kk));clear kk;go_wp2;go_roundw
       case rel=>exact⟨k+1,by omega,by go_num,HX.out,KW.out⟩
       case measure=>simp[intOf];omega
      | false =>
       have HX:=lH (show jF zi l l9=false by rw[←HT.out,HD.out,VO.out,jF,U0.out];rfl);go_wp2_with fail
       refine(HC.out _ ((ja _ _).trans (ja _ _))).mono ?_;rintro e w1 ⟨rfl,kk⟩;have KW:=lH (HK.out.trans (((ja _ _).trans (ja _ _)).trans kk));clear kk;go_wp2;go_ret;exact⟨jd HX.out.symm,KW.out⟩
    · have HX:=lH (show jF zi l l9=true by rw[←hrest,List.drop_of_length_le (by rw[HL.out];omega),List.drop_of_length_le (by rw[Ui.out];omega)];rfl);clear hrest hK;go_wp2;go_ret;exact⟨jd HX.out.symm,HK.out⟩
 · have HX:=lH (show jF zi l l9=false from Xj (by rw[hl,hl9];exact he));have he':((len:Int) != (len9:Int))=true:=by simpa using (fun e:(len:Int)=(len9:Int)=>he (by omega))
   clear hr hr9 he;go_enter Tryz.func50,Tryz.ntmps50;go_wp2;go_ret;exact⟨jd HX.out.symm,Kept.refl _⟩
theorem jml (a a9:Option Addr) (len cap len9 cap9:Nat) (l l9:List Bd) (w:World) (hr:j8 w a len l) (hr9:j8 w a9 len9 l9) :
 Calls Tryz.prog 52 #[.slice a len cap,.slice a9 len9 cap9,.func (.func 53) #[] #[]] w (Say (.bool (jF JJ l l9)) w):=by
 have hl:=hr.1;have hm:=hr.2.1;have hl9:=hr9.1;have hm9:=hr9.2.1;unfold maxLen at hm hm9;by_cases he:len=len9
 · subst he;obtain⟨HR,UZ,HL,Ui⟩:=lH4 hr hr9 hl hl9;clear hr hr9 hl hl9;go_enter Tryz.func52,Tryz.ntmps52;go_wp2;go_loopw [17] (fun i wr=>∃k:Nat,k≤len∧i=.int .i64 k∧jF JJ (l.drop k) (l9.drop k)=jF JJ l l9∧Kept w wr) (fun i _=>len-(intOf i).toNat)
   case atStart=>exact⟨0,Nat.zero_le _,rfl,rfl,Kept.refl _⟩
   case round =>
    obtain⟨k,hk,rfl,hrest,hK⟩:=hrel;have HT:=lH hrest;have HK:=lH hK;by_cases hlt:k<len
    · obtain⟨b,off,rfl⟩:=HR.out.form.resolve_left (by omega);obtain⟨b9,off9,rfl⟩:=UZ.out.form.resolve_left (by omega);obtain⟨n,a1,m1,c1,hn,hd,hb,p0,p1,p2,hat⟩:=(HR.out.kept hK).at_ hlt;obtain⟨k9,x1,y1,z1,hn9,hd9,hb9,q0,q1,q2,hat9⟩:=(UZ.out.kept hK).at_ hlt;have HD:=lH hd;have VO:=lH hd9;obtain⟨t,ht⟩:=eX (JJ n k9)
      have U0:=lH ht;have HC:=lH (fun W (kk:Kept wr W)=>show Calls Tryz.prog 53 #[JY n (.slice a1 m1 c1),JY k9 (.slice x1 y1 z1)] W (Say (.bool t) W) from by rw[←ht];exact jdj a1 x1 m1 c1 y1 z1 n k9 W (hat.kept kk) (hat9.kept kk));unfold JY at HC;have hkk:(k:Int)<(len:Int):=by omega
      clear hrest hK hat hat9 hn hn9 hd hd9 ht
      cases t with
      | true =>
       have HX:=lH (show jF JJ (l.drop (k+1)) (l9.drop (k+1))=jF JJ l l9 by rw[←HT.out,HD.out,VO.out,jF,U0.out];rfl);go_wp2_with fail
       refine(HC.out _ ((ja _ _).trans (ja _ _))).mono ?_;rintro e w1 ⟨rfl,kk⟩;have KW:=lH (HK.out.trans (((ja _ _).trans (ja _ _)).trans kk));clear kk;go_wp2;go_roundw
       case rel=>exact⟨k+1,by omega,by go_num,HX.out,KW.out⟩
       case measure=>simp[intOf];omega
      | false =>
       have HX:=lH (show jF JJ l l9=false by rw[←HT.out,HD.out,VO.out,jF,U0.out];rfl);go_wp2_with fail
       refine(HC.out _ ((ja _ _).trans (ja _ _))).mono ?_;rintro e w1 ⟨rfl,kk⟩;have KW:=lH (HK.out.trans (((ja _ _).trans (ja _ _)).trans kk));clear kk;go_wp2;go_ret;exact⟨jd HX.out.symm,KW.out⟩
    · have HX:=lH (show jF JJ l l9=true by rw[←hrest,List.drop_of_length_le (by rw[HL.out];omega),List.drop_of_length_le (by rw[Ui.out];omega)];rfl);clear hrest hK;go_wp2;go_ret;exact⟨jd HX.out.symm,HK.out⟩
 · have HX:=lH (show jF JJ l l9=false from Xj (by rw[hl,hl9];exact he));have he':((len:Int) != (len9:Int))=true:=by simpa using (fun e:(len:Int)=(len9:Int)=>he (by omega))
   clear hr hr9 he;go_enter Tryz.func52,Tryz.ntmps52;go_wp2;go_ret;exact⟨jd HX.out.symm,Kept.refl _⟩
theorem jiT (a b d a9 b9 d9:Option Addr) (len cap m c n e len9 cap9 m9 c9 n9 e9:Nat) (nl nl9:List Nod) (pl pl9:List Pd) (bl bl9:List Bd) (w:World) (h1:jo w a len nl) (h2:jx w b m pl) (h3:j8 w d n bl) (g1:jo w a9 len9 nl9) (g2:jx w b9 m9 pl9) (g3:j8 w d9 n9 bl9) :
 Calls Tryz.prog 19 #[.agg #[.slice a len cap,.slice b m c,.slice d n e],.agg #[.slice a9 len9 cap9,.slice b9 m9 c9,.slice d9 n9 e9]] w (Say (.bool (qw ⟨nl,pl,bl⟩ ⟨nl9,pl9,bl9⟩)) w):=by
 obtain⟨Z,hZ⟩:=eX ((w.alloc (.cells #[.slice a len cap,.slice b m c,.slice d n e] 26)).alloc (.cells #[.slice a9 len9 cap9,.slice b9 m9 c9,.slice d9 n9 e9] 26))
 have hkz:Kept w Z:=by rw[←hZ];exact jn _ _ _
 have HS:=lH (show ∀W,Kept Z W→W.cell? ⟨w.heap.size,0,none⟩=some (.slice a len cap)∧W.cell? ⟨w.heap.size,1,none⟩=some (.slice b m c)∧W.cell? ⟨w.heap.size,2,none⟩=some (.slice d n e)∧W.cell? ⟨w.heap.size+1,0,none⟩=some (.slice a9 len9 cap9)∧W.cell? ⟨w.heap.size+1,1,none⟩=some (.slice b9 m9 c9)∧W.cell? ⟨w.heap.size+1,2,none⟩=some (.slice d9 n9 e9) from fun W k=>by
  have cc:=jc w (.slice a len cap) [.slice b m c,.slice d n e] 26 W (by rw[←hZ] at k;exact(ja _ _).trans k);have dd:=jc (w.alloc (.cells #[.slice a len cap,.slice b m c,.slice d n e] 26)) (.slice a9 len9 cap9) [.slice b9 m9 c9,.slice d9 n9 e9] 26 W (by rw[hZ];exact k);rw[World.size_alloc] at dd;exact⟨cc.at_ 0 _ rfl,cc.at_ 1 _ rfl,cc.at_ 2 _ rfl,dd.at_ 0 _ rfl,dd.at_ 1 _ rfl,dd.at_ 2 _ rfl⟩)
 obtain⟨e1,he1⟩:=eX (jF Jg nl nl9)
 obtain⟨e2,he2⟩:=eX (jF zi pl pl9)
 obtain⟨e3,he3⟩:=eX (jF JJ bl bl9)
 obtain⟨HV,H1,H2,H3⟩:=lH4 (show qw ⟨nl,pl,bl⟩ ⟨nl9,pl9,bl9⟩=(e1&&(e2&&e3)) by unfold qw;dsimp only;rw[he1,he2,he3]) (fun W (k:Kept Z W)=>jlm a a9 len cap len9 cap9 nl nl9 W (h1.kept (hkz.trans k)) (g1.kept (hkz.trans k))) (fun W (k:Kept Z W)=>jlA b b9 m c m9 c9 pl pl9 W (h2.kept (hkz.trans k)) (g2.kept (hkz.trans k))) (fun W (k:Kept Z W)=>jml d d9 n e n9 e9 bl bl9 W (h3.kept (hkz.trans k)) (g3.kept (hkz.trans k)));rw[he1] at H1;rw[he2] at H2;rw[he3] at H3;have Vc:=lH hkz;clear h1 h2 h3 g1 g2 g3 hkz he1 he2 he3;obtain⟨o0,o1,o2,o3,o4,o5⟩:=HS.out _ (Kept.refl _);go_enter Tryz.func19,Tryz.ntmps19;go_wp2_with fail
 try rw[hZ]
 refine(H1.out _ (Kept.refl _)).mono ?_;rintro e w1 ⟨rfl,kk⟩;have J1:=lH kk;clear kk o0 o1 o2 o3 o4 o5;obtain⟨o0,o1,o2,o3,o4,o5⟩:=HS.out _ J1.out
 cases e1 with
 | false =>
  go_wp2;go_ret;exact⟨jd HV.out.symm,Vc.out.trans J1.out⟩
 | true =>
  go_wp2_with fail
  try rw[hZ]
  refine(H2.out _ J1.out).mono ?_;rintro e w2 ⟨rfl,kk⟩;have J2:=lH (J1.out.trans kk);clear kk o0 o1 o2 o3 o4 o5;obtain⟨o0,o1,o2,o3,o4,o5⟩:=HS.out _ J2.out
  cases e2 with
  | false =>
   go_wp2;go_ret;exact⟨jd HV.out.symm,Vc.out.trans J2.out⟩
  | true =>
   go_wp2_with fail
   try rw[hZ]
   refine(H3.out _ J2.out).mono ?_;rintro e w3 ⟨rfl,kk⟩;have J3:=lH (J2.out.trans kk);clear kk;go_wp2;go_ret;exact⟨jd HV.out.symm,Vc.out.trans J3.out⟩
theorem jmY {v u:Value} {s t:Clu} {c:Bool} {w:World} (h:jC w v s) (g:jC w u t) (hc:qw s t=c):Calls Tryz.prog 19 #[v,u] w (Say (.bool c) w):=by
 subst hc;obtain⟨v1,v2,v3,rfl,⟨a,cap,rfl,_,_,h1⟩,⟨b,cp,rfl,_,_,h2⟩,⟨d,cb,rfl,_,_,h3⟩⟩:=h;obtain⟨u1,u2,u3,rfl,⟨a9,cap9,rfl,_,_,g1⟩,⟨b9,cp9,rfl,_,_,g2⟩,⟨d9,cb9,rfl,_,_,g3⟩⟩:=g;exact jiT a b d a9 b9 d9 _ cap _ cp _ cb _ cap9 _ cp9 _ cb9 s.nodes t.nodes s.pods t.pods s.buds t.buds w h1 h2 h3 g1 g2 g3
def ZY (n:Nod):Bool:=decide (n.name.size≤50)&&(Vec.YM n.cap&&(YC n.labels&&Zm n.taints))
theorem jmD {n:Nod} (h:ZY n=true):zQ n:=by
 unfold ZY at h;simp only[Bool.and_eq_true,decide_eq_true_eq] at h;obtain⟨_,h1,h2,h3⟩:=h;refine⟨?_,?_,?_⟩
 · unfold Vec.YM at h1;simp only[Bool.and_eq_true,decide_eq_true_eq] at h1;omega
 · unfold YC at h2;simp only[Bool.and_eq_true,decide_eq_true_eq] at h2;omega
 · have:=(jhz h3).1;omega
theorem ji9 (n:Nod) (v1 v2 v3:Value) (w:World) (h:zr w v1 v2 v3 n) :
 Calls Tryz.prog 58 #[zj n v1 v2 v3] w (Say (.bool (ZY n)) w):=by
 have HB:=lH (show ∀W,Kept (w.alloc (.cells #[.string n.name,v1,v2,v3,.bool n.cordon] 78)) W→W.cell? ⟨w.heap.size,0,none⟩=some (.string n.name)∧W.cell? ⟨w.heap.size,1,none⟩=some v1∧W.cell? ⟨w.heap.size,2,none⟩=some v2∧W.cell? ⟨w.heap.size,3,none⟩=some v3∧W.cell? ⟨w.heap.size,4,none⟩=some (.bool n.cordon) from fun W k=>(Xk w _ _ _ _ _ 78 W k).1);have H:=lH (h.kept (ja w (.cells #[.string n.name,v1,v2,v3,.bool n.cordon] 78)));obtain⟨⟨nm,l1,l2,l3,cd⟩,hnn⟩:∃m,m=n:=⟨n,rfl⟩
 subst hnn;have hsz:nm.size≤maxLen:=h.size;unfold maxLen at hsz;obtain⟨b1,hb1⟩:=eX (Vec.YM l1)
 obtain⟨b2,hb2⟩:=eX (YC l2)
 obtain⟨b3,hb3⟩:=eX (Zm l3)
 obtain⟨HV,H1,H2,H3⟩:=lH4 (show ZY ⟨nm,l1,l2,l3,cd⟩=(decide (nm.size≤50)&&(b1&&(b2&&b3))) by unfold ZY;dsimp only;rw[hb1,hb2,hb3]) (Vec.jfm H.out.cap hb1) (show Calls Tryz.prog 109 #[v2] _ fun e w'=>e=.returned (.bool b2)∧_=w' by rw[←hb2];exact jfm H.out.labels) (show Calls Tryz.prog 110 #[v3] _ fun e w'=>e=.returned (.bool b3)∧_=w' by rw[←hb3];exact jos H.out.taints);clear h hb1 hb2 hb3 H;dsimp only at HB H1 H2 H3;obtain⟨y0,y1,y2,y3,y4⟩:=HB.out _ (Kept.refl _);unfold zj;dsimp only;by_cases hs:nm.size≤50
 · have hs':decide (nm.size≤50)=true:=decide_eq_true hs;have hsi:(nm.size:Int)≤50:=by omega
   cases b1 with
   | false =>
    go_enter Tryz.func58,Tryz.ntmps58;go_wp2_with fail
    refine H1.out.mono ?_;rintro e w' ⟨rfl,rfl⟩;go_wp2;go_ret;exact⟨jd (by rw[HV.out,hs'];rfl),ja _ _⟩
   | true =>
    cases b2 with
    | false =>
     go_enter Tryz.func58,Tryz.ntmps58;go_wp2_with fail
     refine H1.out.mono ?_;rintro e w' ⟨rfl,rfl⟩;go_wp2_with fail
     refine H2.out.mono ?_;rintro e w' ⟨rfl,rfl⟩;go_wp2;go_ret;exact⟨jd (by rw[HV.out,hs'];rfl),ja _ _⟩
    | true =>
     go_enter Tryz.func58,Tryz.ntmps58;go_wp2_with fail
     refine H1.out.mono ?_;rintro e w' ⟨rfl,rfl⟩;go_wp2_with fail
     refine H2.out.mono ?_;rintro e w' ⟨rfl,rfl⟩;go_wp2_with fail
     refine H3.out.mono ?_;rintro e w' ⟨rfl,rfl⟩;go_wp2;go_ret;exact⟨jd (by rw[HV.out,hs'];cases b3<;>rfl),ja _ _⟩
 · have hs':decide (nm.size≤50)=false:=decide_eq_false hs;have hsi:(50:Int)<(nm.size:Int):=by omega
   go_enter Tryz.func58,Tryz.ntmps58;go_wp2;go_ret;exact⟨jd (by rw[HV.out,hs'];rfl),ja _ _⟩
theorem jnl {v:Value} {n:Nod} {b:Bool} {w:World} (h:jam w v n) (hb:ZY n=b):Calls Tryz.prog 58 #[v] w (Say (.bool b) w):=by
 subst hb;obtain⟨v1,v2,v3,rfl,h⟩:=h;exact ji9 n v1 v2 v3 w h
theorem jiu {l:PL} (h:YC l=true):l.length≤20∧∀x ∈ l,x.1.size≤50∧x.2.size≤50:=by
 unfold YC at h;simp only[Bool.and_eq_true,decide_eq_true_eq,List.all_eq_true] at h;refine⟨h.1,fun x hx=>?_⟩;have:=h.2 x hx;unfold Y8 at this;simpa only[Bool.and_eq_true,decide_eq_true_eq] using this
theorem jh3 {l:TL} (h:YD l=true):l.length≤20∧∀x ∈ l,x.2.1.size≤50∧x.2.2.size≤50:=by
 unfold YD at h;simp only[Bool.and_eq_true,decide_eq_true_eq,List.all_eq_true] at h;refine⟨h.1,fun x hx=>?_⟩;have:=h.2 x hx;unfold Y7 at this;simpa only[Bool.and_eq_true,decide_eq_true_eq] using this
def JF (n:Pd):Bool:=decide (n.name.size≤50)&&(decide (n.owner.size≤50)&&(decide (n.key.size≤50)&&(decide (n.node.size≤50)&&(Vec.YM n.need&&(YC n.labels&&(YD n.sel&&Zm n.tols))))))
theorem jgG {n:Pd} (h:JF n=true):n.name.size≤50∧n.owner.size≤50∧n.key.size≤50∧n.node.size≤50∧Vec.YM n.need=true∧YC n.labels=true∧YD n.sel=true∧Zm n.tols=true:=by
 unfold JF at h;simpa only[Bool.and_eq_true,decide_eq_true_eq] using h
def Xw (n:Bd):Bool:=decide (n.name.size≤50)&&YD n.sel
def ZL (l:List Bd):Bool:=decide (l.length≤20)&&l.all Xw
theorem jfO {l:List Bd} {n:Bd} {k:Nat} (h:l[k]?=some n) (g:Xw n=false):ZL l=false:=by
 unfold ZL;have:l.all Xw=false:=by
  rw[List.all_eq_false];exact⟨n,List.mem_of_getElem? h,by rw[g];decide⟩
 rw[this];simp
theorem jkI (a:Option Addr) (len cap:Nat) (l:List Bd) (w:World) (hr:j8 w a len l) :
 Calls Tryz.prog 57 #[.slice a len cap] w (Say (.bool (ZL l)) w):=by
 have hl:=hr.1;have hm:=hr.2.1;unfold maxLen at hm;by_cases h20:20<len
 · have HV:=lH (show ZL l=false by unfold ZL;rw[hl];simp;omega);clear hr hl;go_enter Tryz.func57,Tryz.ntmps57;go_wp2;go_ret;exact⟨jd HV.out.symm,Kept.refl _⟩
 · have h20':len≤20:=by omega
   by_cases h0:len=0
   · subst h0;have HV:=lH (show ZL l=true by rw[List.eq_nil_of_length_eq_zero hl];rfl);clear hr hl h20;go_enter Tryz.func57,Tryz.ntmps57;go_wp2;refine wp_loop_rounds 1 ?_;rw[rounds_succ];go_wp2;go_ret;exact⟨jd HV.out.symm,Kept.refl _⟩
   · obtain⟨b,off,rfl⟩:=hr.form.resolve_left h0;have HR:=lH hr;have HL:=lH hl;clear hr hl h0 h20;go_enter Tryz.func57,Tryz.ntmps57;go_wp2;go_loopw [3] (fun i wr=>∃k:Nat,k≤len∧i=.int .i64 k∧(∀n ∈ l.take k,Xw n=true)∧Kept w wr) (fun i _=>len-(intOf i).toNat)
     case atStart=>exact⟨0,Nat.zero_le _,rfl,(fun n h=>by cases h),Kept.refl _⟩
     case round =>
      obtain⟨k,hk,rfl,hrest,hK⟩:=hrel;have HS:=lH hrest;have HK:=lH hK;by_cases hlt:k<len
      · obtain⟨n,a1,m1,c1,hn,hd,hb,p0,p1,p2,hat⟩:=(HR.out.kept hK).at_ hlt;have HN:=lH hn;have VH:=lH hat;clear hrest hK hat hd hn;by_cases z:50<n.name.size
        · have z1:(50:Int)<(n.name.size:Int):=by omega
          have HV:=lH (show ZL l=false from jfO HN.out (by unfold Xw;simp;omega));clear z;go_wp2;go_ret;exact⟨jd HV.out.symm,HK.out⟩
        · have z1:(n.name.size:Int)≤50:=by omega
          have Z2:=lH (show n.name.size≤50 by omega);clear z
          cases f:YD n.sel with
          | false =>
           have HV:=lH (show ZL l=false from jfO HN.out (by unfold Xw;rw[f];simp));have HF:=lH (jdP VH.out.sel);rw[f] at HF;clear f;go_wp2_with fail
           refine HF.out.mono ?_;rintro e w1 ⟨rfl,rfl⟩;go_wp2;go_ret;exact⟨jd HV.out.symm,HK.out⟩
          | true =>
           have HV:=lH (show Xw n=true by unfold Xw;rw[f];simp;exact Z2.out);have HF:=lH (jdP VH.out.sel);rw[f] at HF;clear f;go_wp2_with fail
           refine HF.out.mono ?_;rintro e w1 ⟨rfl,rfl⟩;go_wp2;go_roundw
           case rel=>exact⟨k+1,by omega,by go_num,(fun x hx=>by
            rw[zI HN.out] at hx;rcases List.mem_append.1 hx with hx | hx
            · exact HS.out x hx
            · obtain rfl:x=n:=by simpa using hx
              exact HV.out),HK.out⟩
           case measure=>simp[intOf];omega
      · have HV:=lH (show ZL l=true by
         have e:l.take k=l:=List.take_of_length_le (by rw[HL.out];omega);rw[e] at hrest;unfold ZL;rw[List.all_eq_true.2 hrest,HL.out];simp;omega)
        clear hrest hK;go_wp2;go_ret;exact⟨jd HV.out.symm,HK.out⟩
theorem jnG {v:Value} {l:List Bd} {c:Bool} {w:World} (h:Zf w v l) (hc:ZL l=c):Calls Tryz.prog 57 #[v] w (Say (.bool c) w):=by
 subst hc;obtain⟨a,cap,rfl,_,_,hr⟩:=h;exact jkI a _ cap l w hr
theorem jjZ (n:Pd) (v1 v2 v3 v4:Value) (w:World) (h:ji w v1 v2 v3 v4 n) :
 Calls Tryz.prog 59 #[jy n v1 v2 v3 v4] w (Say (.bool (JF n)) w):=by
 obtain⟨x0,x1,x2,l1,l2,l3,l4,x3,x4,x5,x6⟩:=n;obtain⟨W0,hW0⟩:=eX (w.alloc (.cells #[.string x0,.string x1,.int .i64 x2,v1,v2,v3,v4,.string x3,.int .i64 x4,.string x5,.bool x6] 52))
 have hk0:Kept w W0:=by rw[←hW0];exact ja _ _
 have hc:=jc w (.string x0) [.string x1,.int .i64 x2,v1,v2,v3,v4,.string x3,.int .i64 x4,.string x5,.bool x6] 52 W0 (by rw[hW0];exact Kept.refl _);have s0:x0.size≤maxLen:=h.name;have s1:x1.size≤maxLen:=h.owner;have s2:x3.size≤maxLen:=h.key;have s3:x5.size≤maxLen:=h.node;unfold maxLen at s0 s1 s2 s3;obtain⟨b0,hb0⟩:=eX (decide (x0.size≤50))
 obtain⟨b1,hb1⟩:=eX (decide (x1.size≤50))
 obtain⟨b2,hb2⟩:=eX (decide (x3.size≤50))
 obtain⟨b3,hb3⟩:=eX (decide (x5.size≤50))
 obtain⟨b4,hb4⟩:=eX (Vec.YM l1)
 obtain⟨b5,hb5⟩:=eX (YC l2)
 obtain⟨b6,hb6⟩:=eX (YD l3)
 obtain⟨b7,hb7⟩:=eX (Zm l4)
 obtain⟨VI,E4,E5,E6,E7,Va⟩:=lH6 (show JF ⟨x0,x1,x2,l1,l2,l3,l4,x3,x4,x5,x6⟩=(b0&&(b1&&(b2&&(b3&&(b4&&(b5&&(b6&&b7))))))) by unfold JF;dsimp only;rw[hb0,hb1,hb2,hb3,hb4,hb5,hb6,hb7]) (show Calls Tryz.prog 108 #[v1] W0 _ from Vec.jfm (h.need.kept hk0) hb4) (show Calls Tryz.prog 109 #[v2] W0 fun e w'=>e=.returned (.bool b5)∧W0=w' by rw[←hb5];exact jfm (h.labels.kept hk0)) (show Calls Tryz.prog 107 #[v3] W0 fun e w'=>e=.returned (.bool b6)∧W0=w' by rw[←hb6];exact jdP (h.sel.kept hk0)) (show Calls Tryz.prog 111 #[v4] W0 fun e w'=>e=.returned (.bool b7)∧W0=w' by rw[←hb7];exact jol (h.tols.kept hk0)) hk0;have g0:decide ((x0.size:Int)≤50)=b0:=by rw[←hb0];simp only[decide_eq_decide];omega
 have g1:decide ((x1.size:Int)≤50)=b1:=by rw[←hb1];simp only[decide_eq_decide];omega
 have g2:decide ((x3.size:Int)≤50)=b2:=by rw[←hb2];simp only[decide_eq_decide];omega
 have g3:decide ((x5.size:Int)≤50)=b3:=by rw[←hb3];simp only[decide_eq_decide];omega
 have c0:=hc.at_ 0 _ rfl;have c1:=hc.at_ 1 _ rfl;have c3:=hc.at_ 3 _ rfl;have c4:=hc.at_ 4 _ rfl;have c5:=hc.at_ 5 _ rfl;have c6:=hc.at_ 6 _ rfl;have c7:=hc.at_ 7 _ rfl;have c9:=hc.at_ 9 _ rfl;clear hk0 h hc hb0 hb1 hb2 hb3 hb4 hb5 hb6 hb7;unfold jy;dsimp only
 cases b0 with
 | false =>
  have g0:50<(x0.size:Int):=by have:=of_decide_eq_false g0;omega
  have HV:=lH (show JF ⟨x0,x1,x2,l1,l2,l3,l4,x3,x4,x5,x6⟩=false by rw[VI.out];simp);go_enter Tryz.func59,Tryz.ntmps59;go_wp2;try rw[hW0]
  go_ret;exact⟨jd HV.out.symm,Va.out⟩
 | true =>
  have g0:(x0.size:Int)≤50:=of_decide_eq_true g0
  cases b1 with
  | false =>
   have g1:50<(x1.size:Int):=by have:=of_decide_eq_false g1;omega
   have HV:=lH (show JF ⟨x0,x1,x2,l1,l2,l3,l4,x3,x4,x5,x6⟩=false by rw[VI.out];simp);go_enter Tryz.func59,Tryz.ntmps59;go_wp2;try rw[hW0]
   go_ret;exact⟨jd HV.out.symm,Va.out⟩
  | true =>
   have g1:(x1.size:Int)≤50:=of_decide_eq_true g1
   cases b2 with
   | false =>
    have g2:50<(x3.size:Int):=by have:=of_decide_eq_false g2;omega
    have HV:=lH (show JF ⟨x0,x1,x2,l1,l2,l3,l4,x3,x4,x5,x6⟩=false by rw[VI.out];simp);go_enter Tryz.func59,Tryz.ntmps59;go_wp2;try rw[hW0]
    go_ret;exact⟨jd HV.out.symm,Va.out⟩
   | true =>
    have g2:(x3.size:Int)≤50:=of_decide_eq_true g2
    cases b3 with
    | false =>
     have g3:50<(x5.size:Int):=by have:=of_decide_eq_false g3;omega
     have HV:=lH (show JF ⟨x0,x1,x2,l1,l2,l3,l4,x3,x4,x5,x6⟩=false by rw[VI.out];simp);go_enter Tryz.func59,Tryz.ntmps59;go_wp2;try rw[hW0]
     go_ret;exact⟨jd HV.out.symm,Va.out⟩
    | true =>
     have g3:(x5.size:Int)≤50:=of_decide_eq_true g3
     cases b4 with
     | false =>
      have HV:=lH (show JF ⟨x0,x1,x2,l1,l2,l3,l4,x3,x4,x5,x6⟩=false by rw[VI.out];simp);go_enter Tryz.func59,Tryz.ntmps59;go_wp2_with fail
      try rw[hW0]
      refine E4.out.mono ?_;rintro e w9 ⟨rfl,rfl⟩;go_wp2;go_ret;exact⟨jd HV.out.symm,Va.out⟩
     | true =>
      cases b5 with
      | false =>
       have HV:=lH (show JF ⟨x0,x1,x2,l1,l2,l3,l4,x3,x4,x5,x6⟩=false by rw[VI.out];simp);go_enter Tryz.func59,Tryz.ntmps59;go_wp2_with fail
       try rw[hW0]
       refine E4.out.mono ?_;rintro e w9 ⟨rfl,rfl⟩;go_wp2_with fail
       refine E5.out.mono ?_;rintro e w9 ⟨rfl,rfl⟩;go_wp2;go_ret;exact⟨jd HV.out.symm,Va.out⟩
      | true =>
       cases b6 with
       | false =>
        have HV:=lH (show JF ⟨x0,x1,x2,l1,l2,l3,l4,x3,x4,x5,x6⟩=false by rw[VI.out];simp);go_enter Tryz.func59,Tryz.ntmps59;go_wp2_with fail
        try rw[hW0]
        refine E4.out.mono ?_;rintro e w9 ⟨rfl,rfl⟩;go_wp2_with fail
        refine E5.out.mono ?_;rintro e w9 ⟨rfl,rfl⟩;go_wp2_with fail
        refine E6.out.mono ?_;rintro e w9 ⟨rfl,rfl⟩;go_wp2;go_ret;exact⟨jd HV.out.symm,Va.out⟩
       | true =>
        have HV:=lH (show JF ⟨x0,x1,x2,l1,l2,l3,l4,x3,x4,x5,x6⟩=b7 by rw[VI.out];rfl);go_enter Tryz.func59,Tryz.ntmps59;go_wp2_with fail
        try rw[hW0]
        refine E4.out.mono ?_;rintro e w9 ⟨rfl,rfl⟩;go_wp2_with fail
        refine E5.out.mono ?_;rintro e w9 ⟨rfl,rfl⟩;go_wp2_with fail
        refine E6.out.mono ?_;rintro e w9 ⟨rfl,rfl⟩;go_wp2_with fail
        refine E7.out.mono ?_;rintro e w9 ⟨rfl,rfl⟩;go_wp2;go_ret;exact⟨jd HV.out.symm,Va.out⟩
theorem jnR {v:Value} {n:Pd} {b:Bool} {w:World} (h:jbq w v n) (hb:JF n=b):Calls Tryz.prog 59 #[v] w (Say (.bool b) w):=by
 subst hb;obtain⟨v1,v2,v3,v4,rfl,h⟩:=h;exact jjZ n v1 v2 v3 v4 w h
def X6 (s:Clu):Bool:=decide (s.nodes.length≤34)&&(decide (s.pods.length≤130)&&(ZL s.buds&&(s.nodes.all ZY&&s.pods.all JF)))
theorem qN {a:Option Addr} {len cap:Nat} {l:List Nod} {w:World} (h1:len≤cap) (h2:cap≤maxLen) (h:jo w a len l):Jz w (.slice a len cap) l:=⟨a,cap,by rw[h.1],by rw[h.1];exact h1,h2,by rw[h.1];exact h⟩
theorem jhF {a:Option Addr} {len cap:Nat} {l:List Pd} {w:World} (h1:len≤cap) (h2:cap≤maxLen) (h:jx w a len l):Jo w (.slice a len cap) l:=⟨a,cap,by rw[h.1],by rw[h.1];exact h1,h2,by rw[h.1];exact h⟩
theorem jdh {a:Option Addr} {len cap:Nat} {l:List Bd} {w:World} (h1:len≤cap) (h2:cap≤maxLen) (h:j8 w a len l):Zf w (.slice a len cap) l:=⟨a,cap,by rw[h.1],by rw[h.1];exact h1,h2,by rw[h.1];exact h⟩
theorem jhA {α:Type} {f:α→Bool} {l:List α} {k:Nat} {x:α} (hd:l.drop k=x::l.drop (k+1)) (h:f x=true) (hr:(l.drop k).all f=l.all f):(l.drop (k+1)).all f=l.all f:=by
 rw[←hr,hd,List.all_cons,h,Bool.true_and]
theorem je9 {α:Type} {f:α→Bool} {l:List α} {k:Nat} {x:α} (hd:l.drop k=x::l.drop (k+1)) (h:f x=false) (hr:(l.drop k).all f=l.all f):l.all f=false:=by
 rw[←hr,hd,List.all_cons,h,Bool.false_and]
theorem jhq {α:Type} {f:α→Bool} {l:List α} {k:Nat} (h:l.length≤k) (hr:(l.drop k).all f=l.all f):l.all f=true:=by
 rw[←hr,List.drop_of_length_le h];rfl
theorem jnV {v:Value} {s:Clu} {c:Bool} {w:World} (h:jC w v s) (hc:X6 s=c):Calls Tryz.prog 24 #[v] w (Say (.bool c) w):=by
 subst hc;obtain⟨v1,v2,v3,rfl,⟨a,cap,rfl,l1,m1,h1⟩,⟨b,cp,rfl,l2,m2,h2⟩,⟨d,cb,rfl,l3,m3,h3⟩⟩:=h;obtain⟨nl,pl,bl⟩:=s;dsimp only at *;obtain⟨len,hlen⟩:=eX (nl.length)
 obtain⟨m,hm⟩:=eX (pl.length)
 obtain⟨n,hn⟩:=eX (bl.length)
 rw[hlen] at h1 l1;rw[hm] at h2 l2;rw[hn] at h3 l3;try rw[hlen]
 try rw[hm]
 try rw[hn]
 skip;obtain⟨Z,hZ⟩:=eX (w.alloc (.cells #[.slice a len cap,.slice b m cp,.slice d n cb] 26))
 have hkz:Kept w Z:=by rw[←hZ];exact ja _ _
 have HQ:=lH (show jf w.heap.size [.slice a len cap,.slice b m cp,.slice d n cb] Z from jc w (.slice a len cap) [.slice b m cp,.slice d n cb] 26 Z (by rw[hZ];exact Kept.refl _));obtain⟨e3,he3⟩:=eX (ZL bl)
 obtain⟨HB,HV,HN,HP,Vc,RK,Uq,UF⟩:=lH8 (jnG (jdh l3 m3 (h3.kept hkz)) he3) (show X6 ⟨nl,pl,bl⟩=(decide (len≤34)&&(decide (m≤130)&&(e3&&(nl.all ZY&&pl.all JF)))) by unfold X6;dsimp only;rw[hlen,hm,he3]) (h1.kept hkz) (h2.kept hkz) hkz (Nat.le_trans l1 m1) (Nat.le_trans l2 m2) hlen;have Tq:=lH hm;have hml1:=Nat.le_trans l1 m1;have hml2:=Nat.le_trans l2 m2;unfold maxLen at hml1 hml2;clear h1 h2 h3 l1 l2 l3 m1 m2 m3 he3 hkz;obtain⟨cq0,cq1,cq2⟩:=HQ.out.at3;by_cases hA:34<len
 · have HX:=lH (HV.out.trans (by rw[decide_eq_false (show ¬len≤34 by omega),Bool.false_and]));have hA':(34:Int)<(len:Int):=by omega
   rw[HX.out];go_enter Tryz.func24,Tryz.ntmps24;go_wp2;try rw[hZ]
   go_ret;exact⟨rfl,Vc.out⟩
 by_cases hB:130<m
 · have HX:=lH (HV.out.trans (by rw[decide_eq_true (show len≤34 by omega),decide_eq_false (show ¬m≤130 by omega),Bool.false_and,Bool.and_false]));have hA':¬(34:Int)<(len:Int):=by omega
   have hB':(130:Int)<(m:Int):=by omega
   rw[HX.out];go_enter Tryz.func24,Tryz.ntmps24;go_wp2;try rw[hZ]
   go_ret;exact⟨rfl,Vc.out⟩
 have hA':¬(34:Int)<(len:Int):=by omega
 have hB':¬(130:Int)<(m:Int):=by omega
 have HX:=lH (HV.out.trans (by rw[decide_eq_true (show len≤34 by omega),decide_eq_true (show m≤130 by omega),Bool.true_and,Bool.true_and]));rw[HX.out];clear HV HX;go_enter Tryz.func24,Tryz.ntmps24;go_wp2_with fail
 try rw[hZ]
 clear hZ;refine HB.out.mono ?_;rintro e w1 ⟨rfl,kk⟩;have KW:=lH kk;clear kk cq0 cq1 cq2 HB
 cases e3 with
 | false =>
  go_wp2;go_ret;exact⟨rfl,Vc.out.trans KW.out⟩
 | true =>
  have cq0:=(HQ.out.kept KW.out).at_ 0 _ rfl;have cq1:=(HQ.out.kept KW.out).at_ 1 _ rfl;have cq2:=(HQ.out.kept KW.out).at_ 2 _ rfl;go_wp2;go_loopw [3] (fun i wr=>∃k:Nat,k≤len∧i=.int .i64 k∧(nl.drop k).all ZY=nl.all ZY∧Kept Z wr) (fun i _=>len-(intOf i).toNat)
  case atStart=>exact⟨0,Nat.zero_le _,rfl,rfl,KW.out⟩
  case round =>
   clear cq0 cq1 cq2;obtain⟨k,hk,rfl,hrest,hK⟩:=hrel;have HS:=lH hrest;have KN:=lH hK;have cq0:=(HQ.out.kept hK).at_ 0 _ rfl;have cq1:=(HQ.out.kept hK).at_ 1 _ rfl;have cq2:=(HQ.out.kept hK).at_ 2 _ rfl;by_cases hlt:k<len
   · obtain⟨b9,off,rfl⟩:=HN.out.form.resolve_left (by omega);obtain⟨n9,x1,y1,z1,x2,y2,z2,x3,y3,z3,hn,hd,hb,p0,p1,p2,p3,p4,hat⟩:=(HN.out.kept hK).at_ hlt;have HD:=lH hd;obtain⟨t,ht⟩:=eX (ZY n9)
     have HT:=lH ht;have HC:=lH (show Calls Tryz.prog 58 #[zj n9 (.slice x1 y1 z1) (.slice x2 y2 z2) (.slice x3 y3 z3)] wr (Say (.bool t) wr) from jnl ⟨_,_,_,rfl,hat⟩ ht);unfold zj at HC;have hkk:(k:Int)<(len:Int):=by omega
     clear hrest hK hat hn hd ht
     cases t with
     | false =>
      have HF:=lH (je9 HD.out HT.out HS.out);go_wp2_with fail
      refine HC.out.mono ?_;rintro e w9 ⟨rfl,kk⟩;have KW:=lH (KN.out.trans kk);clear kk;go_wp2;go_ret;exact⟨by rw[HF.out];simp,Vc.out.trans KW.out⟩
     | true =>
      have HF:=lH (jhA HD.out HT.out HS.out);go_wp2_with fail
      refine HC.out.mono ?_;rintro e w9 ⟨rfl,kk⟩;have KW:=lH (KN.out.trans kk);clear kk cq0 cq1 cq2;go_wp2;go_roundw
      case rel=>exact⟨k+1,by omega,by go_num,HF.out,KW.out⟩
      case measure=>simp[intOf];omega
   · have Rf:=lH (jhq (by rw[UF.out];omega) hrest);have hkk:¬(k:Int)<(len:Int):=by omega
     clear hrest hK;clear cq0 cq1 cq2;have cq0:=(HQ.out.kept KN.out).at_ 0 _ rfl;have cq1:=(HQ.out.kept KN.out).at_ 1 _ rfl;have cq2:=(HQ.out.kept KN.out).at_ 2 _ rfl;go_wp2;go_loopw [4] (fun i wr=>∃k:Nat,k≤m∧i=.int .i64 k∧(pl.drop k).all JF=pl.all JF∧Kept Z wr) (fun i _=>m-(intOf i).toNat)
     case atStart=>exact⟨0,Nat.zero_le _,rfl,rfl,KN.out⟩
     case round =>
      clear cq0 cq1 cq2;obtain⟨k,hk,rfl,hrest,hK⟩:=hrel;have HS:=lH hrest;have KP:=lH hK;have cq0:=(HQ.out.kept hK).at_ 0 _ rfl;have cq1:=(HQ.out.kept hK).at_ 1 _ rfl;have cq2:=(HQ.out.kept hK).at_ 2 _ rfl;by_cases hlt:k<m
      · obtain⟨b9,off,rfl⟩:=HP.out.form.resolve_left (by omega);obtain⟨n9,x1,y1,z1,x2,y2,z2,x3,y3,z3,x4,y4,z4,hn,hd,hb,p0,p1,p2,p3,p4,p5,p6,p7,p8,p9,p10,hat⟩:=(HP.out.kept hK).at_ hlt;have HD:=lH hd;obtain⟨t,ht⟩:=eX (JF n9)
        have HT:=lH ht;have HC:=lH (show Calls Tryz.prog 59 #[jy n9 (.slice x1 y1 z1) (.slice x2 y2 z2) (.slice x3 y3 z3) (.slice x4 y4 z4)] wr (Say (.bool t) wr) from jnR ⟨_,_,_,_,rfl,hat⟩ ht);unfold jy at HC;have hkk:(k:Int)<(m:Int):=by omega
        clear hrest hK hat hn hd ht
        cases t with
        | false =>
         have HF:=lH (je9 HD.out HT.out HS.out);go_wp2_with fail
         refine HC.out.mono ?_;rintro e w9 ⟨rfl,kk⟩;have KW:=lH (KP.out.trans kk);clear kk;go_wp2;go_ret;exact⟨by rw[HF.out];simp,Vc.out.trans KW.out⟩
        | true =>
         have HF:=lH (jhA HD.out HT.out HS.out);go_wp2_with fail
         refine HC.out.mono ?_;rintro e w9 ⟨rfl,kk⟩;have KW:=lH (KP.out.trans kk);clear kk cq0 cq1 cq2;go_wp2;go_roundw
         case rel=>exact⟨k+1,by omega,by go_num,HF.out,KW.out⟩
         case measure=>simp[intOf];omega
      · have Rg:=lH (jhq (by rw[Tq.out];omega) hrest);have hkk:¬(k:Int)<(m:Int):=by omega
        clear hrest hK;go_wp2;go_ret;exact⟨by rw[Rf.out,Rg.out];rfl,Vc.out.trans KP.out⟩
end Go.Proofs.YtibepooajeakfaaGreat
