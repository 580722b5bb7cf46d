/- C. -/
import Derived.Test.YtibepooajeakfaaGreatG1
import Derived.Test.YtibepooajeakfaaGreatG2
import Derived.Test.YtibepooajeakfaaGreatG3
import Derived.Test.YtibepooajeakfaaGreatG4
set_option linter.unusedVariables false
set_option maxRecDepth 100000
set_option maxHeartbeats 25600000
namespace Go.Proofs.YtibepooajeakfaaGreat
open Go.ChangeShapes Go.WideShapes Go.ChangeAt Go.RowKit Go.Deep
theorem jlq (x:NX) (u:Value) (h:u ∈ [Value.string x.1.name,slV x.2.1,slV x.2.2.1,slV x.2.2.2,.bool x.1.cordon]):u.oneCell'=true:=by
 simp only[List.mem_cons,List.not_mem_nil,or_false] at h;rcases h with rfl | rfl | rfl | rfl | rfl<;>rfl
def jfT (w:World):Lay NX:={ m:=5,cs:=fun x=>[.string x.1.name,slV x.2.1,slV x.2.2.1,slV x.2.2.2,.bool x.1.cordon],fine:=fun x=>zp w (slV x.2.1) (slV x.2.2.1) (slV x.2.2.2) x.1,len:=fun _=>rfl,one:=jlq,pos:=by decide }
theorem jjz:Tryz.prog.cellsOf 45=1:=by kernel_rfl
theorem jkt:Tryz.prog.cellsOf 47=1:=by kernel_rfl
theorem jm0:Tryz.prog.cellsOf 76=1:=by kernel_rfl
theorem jjn:Tryz.prog.cellsOf 78=5:=by kernel_rfl
theorem jf2 {H:Type} {enc:TypeId×Value→H} {w:World} {base fuel:Nat} {sp:Nat→Bool} {held:Bool} {cs:List Value} {x:DataW H×List MemPlace} (h:DataW.trod enc Tryz.prog w base sp held fuel 78 cs=some x) :
 ∃a:NX,cs=(jfT w).cs a∧(jfT w).fine a:=by
 obtain⟨ys,m,-,-,hlen,hyl,hf⟩:=DataW.trod_struct Tryz.underlying78 h;rw[jjn] at hlen
 match cs,hlen with
 | [c0,c1,c2,c3,c4],_ =>
  have h0:DataW.trod enc Tryz.prog w base sp held m 9 (([c0,c1,c2,c3,c4].drop 0).take (Tryz.prog.cellsOf 9))=ys[0]?:=hf 0 _ rfl;have h1:DataW.trod enc Tryz.prog w base sp held m 45 (([c0,c1,c2,c3,c4].drop 1).take (Tryz.prog.cellsOf 45))=ys[1]?:=hf 1 _ rfl;have h2:DataW.trod enc Tryz.prog w base sp held m 47 (([c0,c1,c2,c3,c4].drop 2).take (Tryz.prog.cellsOf 47))=ys[2]?:=hf 2 _ rfl;have h3:DataW.trod enc Tryz.prog w base sp held m 76 (([c0,c1,c2,c3,c4].drop 3).take (Tryz.prog.cellsOf 76))=ys[3]?:=hf 3 _ rfl;have h4:DataW.trod enc Tryz.prog w base sp held m 4 (([c0,c1,c2,c3,c4].drop 4).take (Tryz.prog.cellsOf 4))=ys[4]?:=hf 4 _ rfl;rw[ZF] at h0;rw[jjz] at h1;rw[jkt] at h2;rw[jm0] at h3;rw[jdg] at h4;obtain⟨y0,e0⟩:∃y,ys[0]?=some y:=⟨_,List.getElem?_eq_getElem (by rw[hyl];decide)⟩
  obtain⟨y1,e1⟩:∃y,ys[1]?=some y:=⟨_,List.getElem?_eq_getElem (by rw[hyl];decide)⟩
  obtain⟨y2,e2⟩:∃y,ys[2]?=some y:=⟨_,List.getElem?_eq_getElem (by rw[hyl];decide)⟩
  obtain⟨y3,e3⟩:∃y,ys[3]?=some y:=⟨_,List.getElem?_eq_getElem (by rw[hyl];decide)⟩
  obtain⟨y4,e4⟩:∃y,ys[4]?=some y:=⟨_,List.getElem?_eq_getElem (by rw[hyl];decide)⟩
  rw[e0] at h0;rw[e1] at h1;rw[e2] at h2;rw[e3] at h3;rw[e4] at h4;simp only[List.drop_zero,List.take_succ_cons,List.take_zero,List.drop_succ_cons] at h0 h1 h2 h3 h4;obtain⟨s,q0,-,hs⟩:=DataW.trod_string Tryz.underlying9 h0;obtain⟨b,q4,-⟩:=DataW.trod_bool Tryz.underlying4 h4;obtain⟨l1,r1⟩:=Vec.zJ h1;obtain⟨l2,r2⟩:=jbF h2;obtain⟨l3,r3⟩:=jgd h3;have r1':=r1;have r2':=r2;have r3':=r3;obtain⟨a1,d1,rfl,-⟩:=r1';obtain⟨a2,d2,rfl,-⟩:=r2';obtain⟨a3,d3,rfl,-⟩:=r3';simp only[List.cons.injEq,and_true] at q0 q4;subst q0;subst q4;exact⟨(⟨s,l1,l2,l3,b⟩,(a1,l1.length,d1),(a2,l2.length,d2),(a3,l3.length,d3)),rfl,⟨hs,r1,r2,r3⟩⟩
theorem jeH {H:Type} {enc:TypeId×Value→H} {w:World} {base fuel:Nat} {sp:Nat→Bool} {held:Bool} {v:Value} {x:DataW H×List MemPlace} (h:DataW.trod enc Tryz.prog w base sp held fuel 22 [v]=some x):∃l,JB w v l:=by
 obtain⟨l,a,cap,rfl,h1,h2,h3⟩:=zJ (jfT w) Tryz.underlying22 jjn (fun _ _ _ h=>jf2 h) h;obtain⟨g0,g1,g2,g3⟩:=h3;refine⟨l.map (fun z=>z.1),a,cap,by rw[List.length_map],by rw[List.length_map];exact h1,h2,rfl,by rw[List.length_map];exact g1,?_⟩;rw[List.length_map];rcases g3 with g3 | ⟨b,off,rfl,hb,hc⟩
 · exact .inl g3
 · refine .inr ⟨b,off,rfl,hb,fun i n hi=>?_⟩;rw[List.getElem?_map] at hi;obtain⟨z,hz,rfl⟩:=Option.map_eq_some_iff.1 hi;exact⟨_,_,_,_,_,_,_,_,_,hc i z 0 _ hz rfl,hc i z 1 _ hz rfl,hc i z 2 _ hz rfl,hc i z 3 _ hz rfl,hc i z 4 _ hz rfl,g2 z (List.mem_of_getElem? hz)⟩
open Go.RowKit
structure Pd where
 name:ByteArray
 owner:ByteArray
 prio:Int
 need:Vec.V
 labels:PL
 sel:TL
 tols:NL
 key:ByteArray
 most:Int
 node:ByteArray
 hold:Bool
def Pd.zero:Pd:=⟨ByteArray.empty,ByteArray.empty,0,[],[],[],[],ByteArray.empty,0,ByteArray.empty,false⟩
abbrev jx (n:Pd) (v1 v2 v3 v4:Value):Value:=.agg #[.string n.name,.string n.owner,.int .i64 n.prio,v1,v2,v3,v4,.string n.key,.int .i64 n.most,.string n.node,.bool n.hold]
structure ji (w:World) (v1 v2 v3 v4:Value) (n:Pd):Prop where
 name:n.name.size≤maxLen
 owner:n.owner.size≤maxLen
 key:n.key.size≤maxLen
 node:n.node.size≤maxLen
 prio:-9223372036854775808≤n.prio∧n.prio≤9223372036854775807
 most:-9223372036854775808≤n.most∧n.most≤9223372036854775807
 need:Vec.Reads w v1 n.need
 labels:Reads jz w v2 n.labels
 sel:Reads jQ w v3 n.sel
 tols:Reads ju w v4 n.tols
theorem ji.kept {w w':World} {v1 v2 v3 v4:Value} {n:Pd} (h:ji w v1 v2 v3 v4 n) (k:Kept w w'):ji w' v1 v2 v3 v4 n:=⟨h.name,h.owner,h.key,h.node,h.prio,h.most,h.need.kept k,h.labels.kept k,h.sel.kept k,h.tols.kept k⟩
def jbh (w:World) (v:Value) (n:Pd):Prop:=∃v1 v2 v3 v4,v=jx n v1 v2 v3 v4∧ji w v1 v2 v3 v4 n
theorem jbh.kept {w w':World} {v:Value} {n:Pd} (h:jbh w v n) (k:Kept w w'):jbh w' v n:=by
 obtain⟨v1,v2,v3,v4,e,h⟩:=h;exact⟨v1,v2,v3,v4,e,h.kept k⟩
def ZD (s:ByteArray):Bool:=zo s||isName s
def ZZ (x y:ByteArray):Int:=if isName x=true∧ZD y=true then 0 else 3
def jdP (p:Int) (b:Bool):Bool:=decide (p < -1)||(decide (1000000<p)||(decide (p=-1) != b))
def YJ (p:Int) (b:Bool):Int:=if jdP p b=true then 1 else 0
def ja9 (k:ByteArray) (m:Int):Bool:=if zo k=true then decide (m≠0) else decide (m<1)||decide (128<m)
def Jm (k:ByteArray) (m:Int):Int:=if ZD k=false then 3 else if ja9 k m=true then 1 else 0
def Yb (x:ByteArray):Int:=if ZD x=true then 0 else 3
def orL:List Int→Int
 | []=>0
 | x::t=>if x≠0 then x else orL t
def qB (n:Pd):List Int:=[ZZ n.name n.owner,YJ n.prio n.hold,Vec.jv n.need,J9 n.labels,Zt n.sel,JI n.tols,Jm n.key n.most,Yb n.node]
def zG (n:Pd):Int:=orL (qB n)
theorem jhF (b len:Nat) (l:List Int) (w:World) (hl:l.length=len) (hm:len≤1000) (hc:∀(i:Nat) (x:Int),l[i]?=some x→w.cell? ⟨b,i,none⟩=some (.int .i64 x)) :
 Calls Tryz.prog 90 #[.slice (some ⟨b,0,none⟩) len len] w fun e w'=>e=.returned (.int .i64 (orL l))∧w=w':=by
 have HC:=lH hc;have HL:=lH hl;clear hc hl;go_enter Tryz.func90,Tryz.ntmps90;go_wp2;go_loopw [8] (fun i wr=>∃k:Nat,k≤len∧i=.int .i64 k∧orL (l.drop k)=orL l∧w=wr) (fun i _=>len-(intOf i).toNat)
 case atStart=>exact⟨0,Nat.zero_le _,rfl,rfl,rfl⟩
 case round =>
  obtain⟨k,hk,rfl,hrest,rfl⟩:=hrel;have HS:=lH hrest;by_cases hlt:k<len
  · have hkl:k<l.length:=by rw[HL.out];exact hlt
    obtain⟨x,hx⟩:=eX (l[k])
    have hx':l[k]?=some x:=by rw[List.getElem?_eq_getElem hkl,hx]
    have c0:=HC.out k x hx';have HD:=lH (show l.drop k=x::l.drop (k+1) by rw[List.drop_eq_getElem_cons hkl,hx]);clear hrest hx hx' hkl;by_cases z:x=0
    · subst z;have HE:=lH (show orL (l.drop k)=orL (l.drop (k+1)) by rw[HD.out];rfl);go_wp2;go_roundw
      case rel=>exact⟨k+1,by omega,by go_num,HE.out.symm.trans HS.out,trivial⟩
      case measure=>simp[intOf];omega
    · have HE:=lH (show orL l=x by rw[←HS.out,HD.out];show (if x≠0 then x else _)=x;rw[if_pos z]);have z':(x != 0)=true:=by simpa using z
      clear z;go_wp2;go_ret;exact⟨jb HE.out.symm,rfl⟩
  · have HE:=lH (show orL l=0 by rw[←hrest,List.drop_of_length_le (by rw[HL.out];omega)];rfl);clear hrest;go_wp2;go_ret;exact⟨jb HE.out.symm,rfl⟩
theorem jhs (b len:Nat) (l:List Int) (w:World) (hl:l.length=len) (hm:len≤1000) (hc:∀(i:Nat) (x:Int),l[i]?=some x→w.cell? ⟨b,i,none⟩=some (.int .i64 x)) :
 Calls Tryz.prog 71 #[.slice (some ⟨b,0,none⟩) len len] w fun e w'=>e=.returned (.int .i64 (orL l))∧w=w':=by
 have HC:=lH hc;have HL:=lH hl;clear hc hl;go_enter Tryz.func71,Tryz.ntmps71;go_wp2;go_loopw [8] (fun i wr=>∃k:Nat,k≤len∧i=.int .i64 k∧orL (l.drop k)=orL l∧w=wr) (fun i _=>len-(intOf i).toNat)
 case atStart=>exact⟨0,Nat.zero_le _,rfl,rfl,rfl⟩
 case round =>
  obtain⟨k,hk,rfl,hrest,rfl⟩:=hrel;have HS:=lH hrest;by_cases hlt:k<len
  · have hkl:k<l.length:=by rw[HL.out];exact hlt
    obtain⟨x,hx⟩:=eX (l[k])
    have hx':l[k]?=some x:=by rw[List.getElem?_eq_getElem hkl,hx]
    have c0:=HC.out k x hx';have HD:=lH (show l.drop k=x::l.drop (k+1) by rw[List.drop_eq_getElem_cons hkl,hx]);clear hrest hx hx' hkl;by_cases z:x=0
    · subst z;have HE:=lH (show orL (l.drop k)=orL (l.drop (k+1)) by rw[HD.out];rfl);go_wp2;go_roundw
      case rel=>exact⟨k+1,by omega,by go_num,HE.out.symm.trans HS.out,trivial⟩
      case measure=>simp[intOf];omega
    · have HE:=lH (show orL l=x by rw[←HS.out,HD.out];show (if x≠0 then x else _)=x;rw[if_pos z]);have z':(x != 0)=true:=by simpa using z
      clear z;go_wp2;go_ret;exact⟨jb HE.out.symm,rfl⟩
  · have HE:=lH (show orL l=0 by rw[←hrest,List.drop_of_length_le (by rw[HL.out];omega)];rfl);clear hrest;go_wp2;go_ret;exact⟨jb HE.out.symm,rfl⟩
theorem qF (s:ByteArray) (w:World) (hs:s.size≤maxLen) :
 Calls Tryz.prog 213 #[.string s] w fun e w'=>e=.returned (.bool (ZD s))∧w=w':=by
 obtain⟨q,hq⟩:=eX ((s.toList==([]:List UInt8)))
 obtain⟨r,hr⟩:=eX (isName s)
 have HV:=lH (show ZD s=(q||r) by unfold ZD;rw[JY,hq,hr]);have HR:=lH hr;clear hr
 cases q with
 | true =>
  go_enter Tryz.func213,Tryz.ntmps213;go_wp2;go_ret;exact⟨jd HV.out.symm,rfl⟩
 | false =>
  go_enter Tryz.func213,Tryz.ntmps213;go_wp2_with (go_at_call 174;refine(Vec.jaf hs HR.out).mono ?_;rintro e w' ⟨rfl,rfl⟩)
  go_ret;exact⟨jd HV.out.symm,rfl⟩
theorem jdB (x y:ByteArray) (w:World) (hx:x.size≤maxLen) (hy:y.size≤maxLen) :
 Calls Tryz.prog 178 #[.string x,.string y] w fun e w'=>e=.returned (.int .i64 (ZZ x y))∧w=w':=by
 obtain⟨r,hr⟩:=eX (isName x)
 obtain⟨q,hq⟩:=eX (ZD y)
 have HV:=lH (show ZZ x y=if r=true∧q=true then 0 else 3 by unfold ZZ;rw[hr,hq]);have HN:=lH (show Calls Tryz.prog 213 #[.string y] w _ from qF y w hy);rw[hq] at HN;have HR:=lH hr;have HX:=lH hx;clear hr hq hx hy
 cases r with
 | false =>
  go_enter Tryz.func178,Tryz.ntmps178;go_wp2_with (go_at_call 174;refine(Vec.jaf HX.out HR.out).mono ?_;rintro e w' ⟨rfl,rfl⟩)
  go_ret;exact⟨jb HV.out.symm,rfl⟩
 | true =>
  cases q with
  | false =>
   go_enter Tryz.func178,Tryz.ntmps178;go_wp2_with fail
   refine(Vec.jaf HX.out HR.out).mono ?_;rintro e w' ⟨rfl,rfl⟩;go_wp2_with (go_at_call 213;refine HN.out.mono ?_;rintro e w' ⟨rfl,rfl⟩)
   go_ret;exact⟨jb HV.out.symm,rfl⟩
  | true =>
   go_enter Tryz.func178,Tryz.ntmps178;go_wp2_with fail
   refine(Vec.jaf HX.out HR.out).mono ?_;rintro e w' ⟨rfl,rfl⟩;go_wp2_with (go_at_call 213;refine HN.out.mono ?_;rintro e w' ⟨rfl,rfl⟩)
   go_ret;exact⟨jb HV.out.symm,rfl⟩
theorem jey (p:Int) (b:Bool) (w:World) :
 Calls Tryz.prog 179 #[.int .i64 p,.bool b] w fun e w'=>e=.returned (.int .i64 (YJ p b))∧w=w':=by
 obtain⟨x,hx⟩:=eX (decide (p < -1))
 obtain⟨y,hy⟩:=eX (decide (1000000<p))
 obtain⟨z,hz⟩:=eX (decide (p=-1))
 have hz':(p==-1)=z:=hz;have HV:=lH (show YJ p b=if (x||(y||(z != b)))=true then 1 else 0 by unfold YJ jdP;rw[hx,hy,hz])
 cases x with
 | true =>
  have h1:p < -1:=of_decide_eq_true hx;clear hx hy hz;go_enter Tryz.func179,Tryz.ntmps179;go_wp2;go_ret;exact⟨jb HV.out.symm,rfl⟩
 | false =>
  have h1:-1≤p:=by have:=of_decide_eq_false hx;omega
  cases y with
  | true =>
   have h2:1000000<p:=of_decide_eq_true hy;clear hx hy hz;go_enter Tryz.func179,Tryz.ntmps179;go_wp2;go_ret;exact⟨jb HV.out.symm,rfl⟩
  | false =>
   have h2:p≤1000000:=by have:=of_decide_eq_false hy;omega
   clear hx hy hz
   cases z<;>cases b <;>
   (go_enter Tryz.func179,Tryz.ntmps179
    go_wp2;go_ret;exact⟨jb HV.out.symm,rfl⟩)
theorem jcA (k:ByteArray) (m:Int) (w:World) (hk:k.size≤maxLen) :
 Calls Tryz.prog 182 #[.string k,.int .i64 m] w fun e w'=>e=.returned (.int .i64 (Jm k m))∧w=w':=by
 obtain⟨q,hq⟩:=eX (ZD k)
 obtain⟨r,hr⟩:=eX (zo k)
 have hr':(k.toList==([]:List UInt8))=r:=by rw[←JY];exact hr
 have HN:=lH (show Calls Tryz.prog 213 #[.string k] w _ from qF k w hk);rw[hq] at HN;have HV:=lH (show Jm k m=if q=false then 3 else if (if r=true then decide (m≠0) else decide (m<1)||decide (128<m))=true then 1 else 0 by unfold Jm ja9;rw[hq,hr]);clear hq hr hk
 cases q with
 | false =>
  go_enter Tryz.func182,Tryz.ntmps182;go_wp2_with (go_at_call 213;refine HN.out.mono ?_;rintro e w' ⟨rfl,rfl⟩)
  go_ret;exact⟨jb HV.out.symm,rfl⟩
 | true =>
  cases r with
  | true =>
   by_cases z:m=0
   · subst z;go_enter Tryz.func182,Tryz.ntmps182;go_wp2_with (go_at_call 213;refine HN.out.mono ?_;rintro e w' ⟨rfl,rfl⟩)
     go_ret;exact⟨jb HV.out.symm,rfl⟩
   · have z':(m != 0)=true:=by simpa using z
     have HW:=lH (show Jm k m=1 by rw[HV.out];simp[z]);clear z;go_enter Tryz.func182,Tryz.ntmps182;go_wp2_with (go_at_call 213;refine HN.out.mono ?_;rintro e w' ⟨rfl,rfl⟩)
     go_ret;exact⟨jb HW.out.symm,rfl⟩
  | false =>
   by_cases z:m<1
   · have HW:=lH (show Jm k m=1 by rw[HV.out];simp[z]);go_enter Tryz.func182,Tryz.ntmps182;go_wp2_with (go_at_call 213;refine HN.out.mono ?_;rintro e w' ⟨rfl,rfl⟩)
     go_ret;exact⟨jb HW.out.symm,rfl⟩
   · by_cases y:128<m
     · have HW:=lH (show Jm k m=1 by rw[HV.out];simp[y]);have z':1≤m:=by omega
       clear z;go_enter Tryz.func182,Tryz.ntmps182;go_wp2_with (go_at_call 213;refine HN.out.mono ?_;rintro e w' ⟨rfl,rfl⟩)
       go_ret;exact⟨jb HW.out.symm,rfl⟩
     · have HW:=lH (show Jm k m=0 by rw[HV.out];simp[z,y]);have z':1≤m:=by omega
       have y':m≤128:=by omega
       clear z y;go_enter Tryz.func182,Tryz.ntmps182;go_wp2_with (go_at_call 213;refine HN.out.mono ?_;rintro e w' ⟨rfl,rfl⟩)
       go_ret;exact⟨jb HW.out.symm,rfl⟩
theorem jeI (x:ByteArray) (w:World) (hx:x.size≤maxLen) :
 Calls Tryz.prog 183 #[.string x] w fun e w'=>e=.returned (.int .i64 (Yb x))∧w=w':=by
 obtain⟨q,hq⟩:=eX (ZD x)
 have HN:=lH (show Calls Tryz.prog 213 #[.string x] w _ from qF x w hx);rw[hq] at HN;have HV:=lH (show Yb x=if q=true then 0 else 3 by unfold Yb;rw[hq]);clear hq hx
 cases q <;>
 (go_enter Tryz.func183,Tryz.ntmps183
  go_wp2_with (go_at_call 213;refine HN.out.mono ?_;rintro e w' ⟨rfl,rfl⟩)
  go_ret;exact⟨jb HV.out.symm,rfl⟩)
theorem jgZ (W:World) (x1 x2 x3 x4 x5 x6 x7 x8:Int) (T:TypeId) (i:Nat) (x:Int) (hi:([x1,x2,x3,x4,x5,x6,x7,x8]:List Int)[i]?=some x) :
 (W.alloc (.cells #[.int .i64 x1,.int .i64 x2,.int .i64 x3,.int .i64 x4,.int .i64 x5,.int .i64 x6,.int .i64 x7,.int .i64 x8] T)).cell? ⟨W.heap.size,i,none⟩=some (.int .i64 x):=by
 refine(jc W (.int .i64 x1) [.int .i64 x2,.int .i64 x3,.int .i64 x4,.int .i64 x5,.int .i64 x6,.int .i64 x7,.int .i64 x8] T _ (Kept.refl _)).at_ i _ ?_
 match i,hi with
 | 0,h=>simpa using h
 | 1,h=>simpa using h
 | 2,h=>simpa using h
 | 3,h=>simpa using h
 | 4,h=>simpa using h
 | 5,h=>simpa using h
 | 6,h=>simpa using h
 | 7,h=>simpa using h
 | j+8,h=>simp at h
theorem jiJ (n:Pd) (v1 v2 v3 v4:Value) (w:World) (h:ji w v1 v2 v3 v4 n) :
 Calls Tryz.prog 142 #[jx n v1 v2 v3 v4] w (Say (.int .i64 (zG n)) w):=by
 obtain⟨W0,hW0⟩:=eX (w.alloc (.cells #[.string n.name,.string n.owner,.int .i64 n.prio,v1,v2,v3,v4,.string n.key,.int .i64 n.most,.string n.node,.bool n.hold] 52))
 have hk0:Kept w W0:=by rw[←hW0];exact ja _ _
 have HC:=lH (show ∀W,Kept W0 W→W.cell? ⟨w.heap.size,0,none⟩=some (.string n.name)∧W.cell? ⟨w.heap.size,1,none⟩=some (.string n.owner)∧W.cell? ⟨w.heap.size,2,none⟩=some (.int .i64 n.prio)∧W.cell? ⟨w.heap.size,3,none⟩=some (v1)∧W.cell? ⟨w.heap.size,4,none⟩=some (v2)∧W.cell? ⟨w.heap.size,5,none⟩=some (v3)∧W.cell? ⟨w.heap.size,6,none⟩=some (v4)∧W.cell? ⟨w.heap.size,7,none⟩=some (.string n.key)∧W.cell? ⟨w.heap.size,8,none⟩=some (.int .i64 n.most)∧W.cell? ⟨w.heap.size,9,none⟩=some (.string n.node)∧W.cell? ⟨w.heap.size,10,none⟩=some (.bool n.hold) from fun W k=>by
  have c:=jc w (.string n.name) [.string n.owner,.int .i64 n.prio,v1,v2,v3,v4,.string n.key,.int .i64 n.most,.string n.node,.bool n.hold] 52 W (by rw[hW0];exact k);exact⟨c.at_ 0 _ rfl,c.at_ 1 _ rfl,c.at_ 2 _ rfl,c.at_ 3 _ rfl,c.at_ 4 _ rfl,c.at_ 5 _ rfl,c.at_ 6 _ rfl,c.at_ 7 _ rfl,c.at_ 8 _ rfl,c.at_ 9 _ rfl,c.at_ 10 _ rfl⟩)
 obtain⟨E1,E2,E3,E4,E5,E6,E7,E8⟩:=lH8 (fun W=>jdB n.name n.owner W h.name h.owner) (fun W=>jey n.prio n.hold W) (fun W (k:Kept W0 W)=>Vec.ja7 (h.need.kept (hk0.trans k)) rfl) (fun W (k:Kept W0 W)=>ja7 (h.labels.kept (hk0.trans k)) rfl) (fun W (k:Kept W0 W)=>jd5 (h.sel.kept (hk0.trans k)) rfl) (fun W (k:Kept W0 W)=>jng (h.tols.kept (hk0.trans k)) rfl) (fun W=>jcA n.key n.most W h.key) (fun W=>jeI n.node W h.node);have Va:=lH hk0;obtain⟨x1,hx1⟩:=eX (ZZ n.name n.owner)
 rw[hx1] at E1;obtain⟨x2,hx2⟩:=eX (YJ n.prio n.hold)
 rw[hx2] at E2;obtain⟨x3,hx3⟩:=eX (Vec.jv n.need)
 rw[hx3] at E3;obtain⟨x4,hx4⟩:=eX (J9 n.labels)
 rw[hx4] at E4;obtain⟨x5,hx5⟩:=eX (Zt n.sel)
 rw[hx5] at E5;obtain⟨x6,hx6⟩:=eX (JI n.tols)
 rw[hx6] at E6;obtain⟨x7,hx7⟩:=eX (Jm n.key n.most)
 rw[hx7] at E7;obtain⟨x8,hx8⟩:=eX (Yb n.node)
 rw[hx8] at E8;have HV:=lH (show zG n=orL [x1,x2,x3,x4,x5,x6,x7,x8] by unfold zG qB;rw[hx1,hx2,hx3,hx4,hx5,hx6,hx7,hx8]);have ORC:=lH (fun W=>jgZ W x1 x2 x3 x4 x5 x6 x7 x8 69);clear hx1 hx2 hx3 hx4 hx5 hx6 hx7 hx8 h hk0;obtain⟨c0,c1,c2,c3,c4,c5,c6,c7,c8,c9,c10⟩:=HC.out _ (Kept.refl _);unfold jx;go_enter Tryz.func142,Tryz.ntmps142;go_wp2;try rw[hW0]
 clear hW0
 go_region_held3 (fun W=>W.cell? ⟨w.heap.size,0,none⟩=some (.string n.name)∧W.cell? ⟨w.heap.size,1,none⟩=some (.string n.owner)∧W.cell? ⟨w.heap.size,2,none⟩=some (.int .i64 n.prio)∧W.cell? ⟨w.heap.size,3,none⟩=some (v1)∧W.cell? ⟨w.heap.size,4,none⟩=some (v2)∧W.cell? ⟨w.heap.size,5,none⟩=some (v3)∧W.cell? ⟨w.heap.size,6,none⟩=some (v4)∧W.cell? ⟨w.heap.size,7,none⟩=some (.string n.key)∧W.cell? ⟨w.heap.size,8,none⟩=some (.int .i64 n.most)∧W.cell? ⟨w.heap.size,9,none⟩=some (.string n.node)∧W.cell? ⟨w.heap.size,10,none⟩=some (.bool n.hold))
  (first | exact HC.out _ (Kept.drew _) | exact HC.out _ K3.out | exact HC.out _ K4.out | exact HC.out _ K5.out | exact HC.out _ K6.out | exact HC.out _ (K6.out.trans (ja _ _)))
  (first | (go_at_call 178;refine(E1.out _).mono ?_;rintro e1 w1 ⟨rfl,rfl⟩)
         | (go_at_call 179;refine(E2.out _).mono ?_;rintro e2 w2 ⟨rfl,rfl⟩)
         | (go_at_call 175;refine(E3.out _ (Kept.drew _)).mono ?_;rintro e3 w3 ⟨rfl,k3⟩;have K3:=lH ((Kept.drew _).trans k3);clear k3)
         | (go_at_call 176;refine(E4.out _ K3.out).mono ?_;rintro e4 w4 ⟨rfl,k4⟩;have K4:=lH (K3.out.trans k4);clear k4)
         | (go_at_call 180;refine(E5.out _ K4.out).mono ?_;rintro e5 w5 ⟨rfl,k5⟩;have K5:=lH (K4.out.trans k5);clear k5)
         | (go_at_call 181;refine(E6.out _ K5.out).mono ?_;rintro e6 w6 ⟨rfl,k6⟩;have K6:=lH (K5.out.trans k6);clear k6)
         | (go_at_call 182;refine(E7.out _).mono ?_;rintro e7 w7 ⟨rfl,rfl⟩)
         | (go_at_call 183;refine(E8.out _).mono ?_;rintro e8 w8 ⟨rfl,rfl⟩)
         | (go_at_call 90;refine(jhF _ 8 [x1,x2,x3,x4,x5,x6,x7,x8] _ rfl (by decide) (ORC.out _)).mono ?_;rintro e9 w9 ⟨rfl,rfl⟩))
 go_wp2;go_ret;exact⟨jb HV.out.symm,Va.out.trans (K6.out.trans (ja _ _))⟩
theorem jn9:Kind 50 146 3 40:=by
 obtain⟨i,hi,hz,h1,h2⟩:=info_parts (show (Tryz.prog.info? 146).map (fun i=>(i.zero,i.size,i.bytes))=some (some (.agg #[.string ByteArray.empty,.string ByteArray.empty,.bool false]),3,40) by kernel_rfl);exact⟨i,_,Tryz.underlying50,hi,hz,h1,h2,rfl,by decide⟩
theorem jor:Kind 49 143 3 40:=by
 obtain⟨i,hi,hz,h1,h2⟩:=info_parts (show (Tryz.prog.info? 143).map (fun i=>(i.zero,i.size,i.bytes))=some (some (.agg #[.int .i64 0,.string ByteArray.empty,.string ByteArray.empty]),3,40) by kernel_rfl);exact⟨i,_,Tryz.underlying49,hi,hz,h1,h2,rfl,by decide⟩
theorem jio (a:Option Addr) (len cap:Nat) (l:NL) (w:World) (hr:jk ju w a len l) (hc:len≤cap) (hm:cap≤maxLen) (hn:len≤1000000) :
 Calls Tryz.prog 135 #[.slice a len cap] w fun e w'=>∃a' m' c',e=.returned (.slice a' m' c')∧Reads ju w' (.slice a' m' c') l∧(∀b off sp,a'=some ⟨b,off,sp⟩→w.heap.size≤b)∧Kept w w':=by
 have hl:=hr.1;have q22:∀(w:World) (a:Option Addr) (n c n' c':Nat),(binOp .eql 50 (.slice a n c) (.slice none n' c')).run Tryz.prog w=.ok (.bool a.isNone) w:=fun w a n c n' c'=>Lib.run_eql_slice_nil w _ _ a n c n' c' Tryz.underlying50
 cases a with
 | none =>
  have h0:len=0:=by
   rcases hr.form with h | ⟨b,off,h⟩
   · exact h
   · cases h
  subst h0;have hl0:l=[]:=List.eq_nil_of_length_eq_zero hl;subst hl0;clear hr hl;go_enter Tryz.func135,Tryz.ntmps135;go_wp2;go_ret;exact⟨none,0,0,rfl,Reads.nil _,(fun b o s e=>by cases e),Kept.refl _⟩
 | some ad =>
  have HR:=lH hr;have HL:=lH hl;have hrl:(je ju l).length=len*3:=by rw[jZ,hl];rfl
  have hb1:0+len≤maxLen:=by unfold maxLen;omega
  have hb2:((0+len)+(0+len) / 4+192)*40≤281474976710656:=by omega
  clear hr hl;go_enter Tryz.func135,Tryz.ntmps135;go_wp2_with (at_builtin;refine Ja jn9 _ rfl (.tmp 5) (.tmp 6) rfl w.heap.size (by simp) w.heap.size 0 0 [] rfl (Zu w w.heap.size 3 _ (Nat.le_refl _)) _ len (je ju l) rfl hrl (Jg _ _) (jk.src (HR.out.kept (ja _ _))) hb1 hb2 ?_;intro g1 k1 W1 ho hd hg;have HO:=lH ho;have HD:=lH hd;clear ho hd hg;refine Hid.out ?_)
  refine lH ?_;simp only[Nat.zero_add,List.nil_append] at HO ⊢;go_wp2;go_ret;exact⟨_,_,_,rfl,Own.reads (⟨by rw[HL.out];exact HO.out,HR.out.2.2.1⟩:Own ju 146 W1 w.heap.size (.slice (some ⟨g1,0,none⟩) len k1) l),(fun b o s e=>by cases e;exact(HO.out.lt g1 rfl).1),Below.trans (ja w _) HD.out⟩
theorem jc3 (a:Option Addr) (len cap:Nat) (l:TL) (w:World) (hr:jk jQ w a len l) (hc:len≤cap) (hm:cap≤maxLen) (hn:len≤1000000) :
 Calls Tryz.prog 134 #[.slice a len cap] w fun e w'=>∃a' m' c',e=.returned (.slice a' m' c')∧Reads jQ w' (.slice a' m' c') l∧(∀b off sp,a'=some ⟨b,off,sp⟩→w.heap.size≤b)∧Kept w w':=by
 have hl:=hr.1;have q22:∀(w:World) (a:Option Addr) (n c n' c':Nat),(binOp .eql 49 (.slice a n c) (.slice none n' c')).run Tryz.prog w=.ok (.bool a.isNone) w:=fun w a n c n' c'=>Lib.run_eql_slice_nil w _ _ a n c n' c' Tryz.underlying49
 cases a with
 | none =>
  have h0:len=0:=by
   rcases hr.form with h | ⟨b,off,h⟩
   · exact h
   · cases h
  subst h0;have hl0:l=[]:=List.eq_nil_of_length_eq_zero hl;subst hl0;clear hr hl;go_enter Tryz.func134,Tryz.ntmps134;go_wp2;go_ret;exact⟨none,0,0,rfl,Reads.nil _,(fun b o s e=>by cases e),Kept.refl _⟩
 | some ad =>
  have HR:=lH hr;have HL:=lH hl;have hrl:(je jQ l).length=len*3:=by rw[jZ,hl];rfl
  have hb1:0+len≤maxLen:=by unfold maxLen;omega
  have hb2:((0+len)+(0+len) / 4+192)*40≤281474976710656:=by omega
  clear hr hl;go_enter Tryz.func134,Tryz.ntmps134;go_wp2_with (at_builtin;refine Ja jor _ rfl (.tmp 5) (.tmp 6) rfl w.heap.size (by simp) w.heap.size 0 0 [] rfl (Zu w w.heap.size 3 _ (Nat.le_refl _)) _ len (je jQ l) rfl hrl (Jg _ _) (jk.src (HR.out.kept (ja _ _))) hb1 hb2 ?_;intro g1 k1 W1 ho hd hg;have HO:=lH ho;have HD:=lH hd;clear ho hd hg;refine Hid.out ?_)
  refine lH ?_;simp only[Nat.zero_add,List.nil_append] at HO ⊢;go_wp2;go_ret;exact⟨_,_,_,rfl,Own.reads (⟨by rw[HL.out];exact HO.out,HR.out.2.2.1⟩:Own jQ 143 W1 w.heap.size (.slice (some ⟨g1,0,none⟩) len k1) l),(fun b o s e=>by cases e;exact(HO.out.lt g1 rfl).1),Below.trans (ja w _) HD.out⟩
def j4 (B:Nat) (a:Option Addr):Prop:=∀b off sp,a=some ⟨b,off,sp⟩→B≤b
theorem j4.less {B B':Nat} {a:Option Addr} (h:j4 B a) (hb:B'≤B):j4 B' a:=fun b o s e=>Nat.le_trans hb (h b o s e)
theorem j4.none (B:Nat):j4 B none:=fun _ _ _ e=>by cases e
def Yd (B:Nat) (w:World) (v:Value) (n:Pd):Prop:=∃b1 n1 d1 b2 n2 d2 b3 n3 d3 b4 n4 d4,v=jx n (.slice b1 n1 d1) (.slice b2 n2 d2) (.slice b3 n3 d3) (.slice b4 n4 d4)∧ji w (.slice b1 n1 d1) (.slice b2 n2 d2) (.slice b3 n3 d3) (.slice b4 n4 d4) n∧j4 B b1∧j4 B b2∧j4 B b3∧j4 B b4
theorem Yd.toR {B:Nat} {w:World} {v:Value} {n:Pd} (h:Yd B w v n):jbh w v n:=by
 obtain⟨b1,n1,d1,b2,n2,d2,b3,n3,d3,b4,n4,d4,e,h,_⟩:=h;exact⟨_,_,_,_,e,h⟩
theorem ji.far {B:Nat} {w w':World} {n:Pd} {b1 b2 b3 b4:Option Addr} {n1 d1 n2 d2 n3 d3 n4 d4:Nat} (h:ji w (.slice b1 n1 d1) (.slice b2 n2 d2) (.slice b3 n3 d3) (.slice b4 n4 d4) n) (hs:w'.heap.size=w.heap.size) (hb:∀b,B≤b→w'.heap[b]?=w.heap[b]?) (g1:j4 B b1) (g2:j4 B b2) (g3:j4 B b3) (g4:j4 B b4):ji w' (.slice b1 n1 d1) (.slice b2 n2 d2) (.slice b3 n3 d3) (.slice b4 n4 d4) n :=
 ⟨h.name,h.owner,h.key,h.node,h.prio,h.most,h.need.far hs (fun b o s e=>hb b (g1 b o s e)),h.labels.far hs (fun b o s e=>hb b (g2 b o s e)),h.sel.far hs (fun b o s e=>hb b (g3 b o s e)),h.tols.far hs (fun b o s e=>hb b (g4 b o s e))⟩
theorem Yd.far {B:Nat} {w w':World} {v:Value} {n:Pd} (h:Yd B w v n) (hs:w'.heap.size=w.heap.size) (hb:∀b,B≤b→w'.heap[b]?=w.heap[b]?):Yd B w' v n:=by
 obtain⟨b1,n1,d1,b2,n2,d2,b3,n3,d3,b4,n4,d4,e,h,g1,g2,g3,g4⟩:=h;exact⟨b1,n1,d1,b2,n2,d2,b3,n3,d3,b4,n4,d4,e,h.far hs hb g1 g2 g3 g4,g1,g2,g3,g4⟩
theorem Yd.less {B B':Nat} {w:World} {v:Value} {n:Pd} (h:Yd B w v n) (hb:B'≤B):Yd B' w v n:=by
 obtain⟨b1,n1,d1,b2,n2,d2,b3,n3,d3,b4,n4,d4,e,h,g1,g2,g3,g4⟩:=h;exact⟨b1,n1,d1,b2,n2,d2,b3,n3,d3,b4,n4,d4,e,h,g1.less hb,g2.less hb,g3.less hb,g4.less hb⟩
theorem Yd.kept {B:Nat} {w w':World} {v:Value} {n:Pd} (h:Yd B w v n) (k:Kept w w'):Yd B w' v n:=by
 obtain⟨b1,n1,d1,b2,n2,d2,b3,n3,d3,b4,n4,d4,e,h,g1,g2,g3,g4⟩:=h;exact⟨b1,n1,d1,b2,n2,d2,b3,n3,d3,b4,n4,d4,e,h.kept k,g1,g2,g3,g4⟩
theorem ji.spelt {w:World} {v1 v2 v3 v4:Value} {n:Pd} (h:ji w v1 v2 v3 v4 n):∃b1 n1 d1 b2 n2 d2 b3 n3 d3 b4 n4 d4,v1=.slice b1 n1 d1∧v2=.slice b2 n2 d2∧v3=.slice b3 n3 d3∧v4=.slice b4 n4 d4:=by
 obtain⟨a1,c1,e1,_⟩:=h.need;obtain⟨a2,c2,e2,_⟩:=h.labels;obtain⟨a3,c3,e3,_⟩:=h.sel;obtain⟨a4,c4,e4,_⟩:=h.tols;exact⟨_,_,_,_,_,_,_,_,_,_,_,_,e1,e2,e3,e4⟩
structure JN (n:Pd):Prop where
 need:n.need.length≤1000000
 labels:n.labels.length≤1000000
 sel:n.sel.length≤1000000
 tols:n.tols.length≤1000000
def jy (w:World) (a:Option Addr) (len:Nat) (l:List Pd):Prop :=
 l.length=len∧len≤maxLen∧(len=0∨∃b off,a=some ⟨b,off,none⟩∧b<w.heap.size∧∀i n,l[i]?=some n→∃v1 v2 v3 v4,
  w.cell? ⟨b,off+i*11,none⟩=some (.string n.name)∧w.cell? ⟨b,off+i*11+1,none⟩=some (.string n.owner)∧w.cell? ⟨b,off+i*11+2,none⟩=some (.int .i64 n.prio)∧w.cell? ⟨b,off+i*11+3,none⟩=some (v1)∧w.cell? ⟨b,off+i*11+4,none⟩=some (v2)∧w.cell? ⟨b,off+i*11+5,none⟩=some (v3)∧w.cell? ⟨b,off+i*11+6,none⟩=some (v4)∧w.cell? ⟨b,off+i*11+7,none⟩=some (.string n.key)∧w.cell? ⟨b,off+i*11+8,none⟩=some (.int .i64 n.most)∧w.cell? ⟨b,off+i*11+9,none⟩=some (.string n.node)∧w.cell? ⟨b,off+i*11+10,none⟩=some (.bool n.hold)∧ji w v1 v2 v3 v4 n)
theorem jy.kept {w w':World} {a:Option Addr} {len:Nat} {l:List Pd} (h:jy w a len l) (k:Kept w w'):jy w' a len l:=by
 obtain⟨h0,h1,h2⟩:=h;refine⟨h0,h1,h2.imp id ?_⟩;rintro ⟨b,off,rfl,hb,hc⟩;refine⟨b,off,rfl,Nat.lt_of_lt_of_le hb k.size,fun i n hi=>?_⟩;obtain⟨v1,v2,v3,v4,p0,p1,p2,p3,p4,p5,p6,p7,p8,p9,p10,hn⟩:=hc i n hi;exact⟨v1,v2,v3,v4,cell_later k p0,cell_later k p1,cell_later k p2,cell_later k p3,cell_later k p4,cell_later k p5,cell_later k p6,cell_later k p7,cell_later k p8,cell_later k p9,cell_later k p10,hn.kept k⟩
theorem jy.form {w:World} {a:Option Addr} {len:Nat} {l:List Pd} (h:jy w a len l):len=0∨∃b off,a=some ⟨b,off,none⟩:=by
 obtain⟨_,_,h2⟩:=h;exact h2.imp id fun ⟨b,off,e,_⟩=>⟨b,off,e⟩
theorem jy.at_ {w:World} {b off len:Nat} {l:List Pd} {k:Nat} (h:jy w (some ⟨b,off,none⟩) len l) (hk:k<len):∃n a1 m1 c1 a2 m2 c2 a3 m3 c3 a4 m4 c4,l[k]?=some n∧l.drop k=n::l.drop (k+1)∧b<w.heap.size ∧
 w.cell? ⟨b,off+k*11,none⟩=some (.string n.name)∧w.cell? ⟨b,off+k*11+1,none⟩=some (.string n.owner)∧w.cell? ⟨b,off+k*11+2,none⟩=some (.int .i64 n.prio)∧w.cell? ⟨b,off+k*11+3,none⟩=some (.slice a1 m1 c1)∧w.cell? ⟨b,off+k*11+4,none⟩=some (.slice a2 m2 c2)∧w.cell? ⟨b,off+k*11+5,none⟩=some (.slice a3 m3 c3)∧w.cell? ⟨b,off+k*11+6,none⟩=some (.slice a4 m4 c4)∧w.cell? ⟨b,off+k*11+7,none⟩=some (.string n.key)∧w.cell? ⟨b,off+k*11+8,none⟩=some (.int .i64 n.most)∧w.cell? ⟨b,off+k*11+9,none⟩=some (.string n.node)∧w.cell? ⟨b,off+k*11+10,none⟩=some (.bool n.hold)∧ji w (.slice a1 m1 c1) (.slice a2 m2 c2) (.slice a3 m3 c3) (.slice a4 m4 c4) n:=by
 obtain⟨h0,_,h3⟩:=h;have hkl:k<l.length:=by omega
 rcases h3 with h3 | ⟨b',off',e,hb,hc⟩
 · omega
 · injection e with e;injection e with e1 e2 e3;subst e1;subst e2;have he:l[k]?=some l[k]:=List.getElem?_eq_getElem hkl;obtain⟨v1,v2,v3,v4,r⟩:=hc k _ he;obtain⟨a1,m1,c1,a2,m2,c2,a3,m3,c3,a4,m4,c4,rfl,rfl,rfl,rfl⟩:=ji.spelt r.2.2.2.2.2.2.2.2.2.2.2;exact⟨l[k],a1,m1,c1,a2,m2,c2,a3,m3,c3,a4,m4,c4,he,List.drop_eq_getElem_cons hkl,hb,r⟩
def Jn (w:World) (v:Value) (l:List Pd):Prop:=∃a cap,v=.slice a l.length cap∧l.length≤cap∧cap≤maxLen∧jy w a l.length l
theorem Jn.kept {w w':World} {v:Value} {l:List Pd} (h:Jn w v l) (k:Kept w w'):Jn w' v l:=by
 obtain⟨a,cap,e,h1,h2,h3⟩:=h;exact⟨a,cap,e,h1,h2,h3.kept k⟩
theorem jhP:Tryz.prog.cellsOf 49=1:=by kernel_rfl
theorem jmB:Tryz.prog.cellsOf 50=1:=by kernel_rfl
theorem jhu:Tryz.prog.cellsOf 52=11:=by kernel_rfl
theorem jgF {H:Type} {enc:TypeId×Value→H} {w:World} {base fuel:Nat} {sp:Nat→Bool} {held:Bool} {cs:List Value} {x:DataW H×List MemPlace} (h:DataW.trod enc Tryz.prog w base sp held fuel 52 cs=some x) :
 ∃(n:Pd) (v1 v2 v3 v4:Value),cs=[.string n.name,.string n.owner,.int .i64 n.prio,v1,v2,v3,v4,.string n.key,.int .i64 n.most,.string n.node,.bool n.hold]∧ji w v1 v2 v3 v4 n:=by
 obtain⟨ys,m,-,-,hlen,hyl,hf⟩:=DataW.trod_struct Tryz.underlying52 h;rw[jhu] at hlen
 match cs,hlen with
 | [c0,c1,c2,c3,c4,c5,c6,c7,c8,c9,c10],_ =>
  have h0:DataW.trod enc Tryz.prog w base sp held m 9 (([c0,c1,c2,c3,c4,c5,c6,c7,c8,c9,c10].drop 0).take (Tryz.prog.cellsOf 9))=ys[0]?:=hf 0 _ rfl;have h1:DataW.trod enc Tryz.prog w base sp held m 9 (([c0,c1,c2,c3,c4,c5,c6,c7,c8,c9,c10].drop 1).take (Tryz.prog.cellsOf 9))=ys[1]?:=hf 1 _ rfl;have h2:DataW.trod enc Tryz.prog w base sp held m 3 (([c0,c1,c2,c3,c4,c5,c6,c7,c8,c9,c10].drop 2).take (Tryz.prog.cellsOf 3))=ys[2]?:=hf 2 _ rfl;have h3:DataW.trod enc Tryz.prog w base sp held m 45 (([c0,c1,c2,c3,c4,c5,c6,c7,c8,c9,c10].drop 3).take (Tryz.prog.cellsOf 45))=ys[3]?:=hf 3 _ rfl;have h4:DataW.trod enc Tryz.prog w base sp held m 47 (([c0,c1,c2,c3,c4,c5,c6,c7,c8,c9,c10].drop 4).take (Tryz.prog.cellsOf 47))=ys[4]?:=hf 4 _ rfl;have h5:DataW.trod enc Tryz.prog w base sp held m 49 (([c0,c1,c2,c3,c4,c5,c6,c7,c8,c9,c10].drop 5).take (Tryz.prog.cellsOf 49))=ys[5]?:=hf 5 _ rfl;have h6:DataW.trod enc Tryz.prog w base sp held m 50 (([c0,c1,c2,c3,c4,c5,c6,c7,c8,c9,c10].drop 6).take (Tryz.prog.cellsOf 50))=ys[6]?:=hf 6 _ rfl;have h7:DataW.trod enc Tryz.prog w base sp held m 9 (([c0,c1,c2,c3,c4,c5,c6,c7,c8,c9,c10].drop 7).take (Tryz.prog.cellsOf 9))=ys[7]?:=hf 7 _ rfl;have h8:DataW.trod enc Tryz.prog w base sp held m 3 (([c0,c1,c2,c3,c4,c5,c6,c7,c8,c9,c10].drop 8).take (Tryz.prog.cellsOf 3))=ys[8]?:=hf 8 _ rfl;have h9:DataW.trod enc Tryz.prog w base sp held m 9 (([c0,c1,c2,c3,c4,c5,c6,c7,c8,c9,c10].drop 9).take (Tryz.prog.cellsOf 9))=ys[9]?:=hf 9 _ rfl;have h10:DataW.trod enc Tryz.prog w base sp held m 4 (([c0,c1,c2,c3,c4,c5,c6,c7,c8,c9,c10].drop 10).take (Tryz.prog.cellsOf 4))=ys[10]?:=hf 10 _ rfl;rw[ZF] at h0;rw[ZF] at h1;rw[qy] at h2;rw[jjz] at h3;rw[jkt] at h4;rw[jhP] at h5;rw[jmB] at h6;rw[ZF] at h7;rw[qy] at h8;rw[ZF] at h9;rw[jdg] at h10;obtain⟨y0,e0⟩:∃y,ys[0]?=some y:=⟨_,List.getElem?_eq_getElem (by rw[hyl];decide)⟩
  rw[e0] at h0;obtain⟨y1,e1⟩:∃y,ys[1]?=some y:=⟨_,List.getElem?_eq_getElem (by rw[hyl];decide)⟩
  rw[e1] at h1;obtain⟨y2,e2⟩:∃y,ys[2]?=some y:=⟨_,List.getElem?_eq_getElem (by rw[hyl];decide)⟩
  rw[e2] at h2;obtain⟨y3,e3⟩:∃y,ys[3]?=some y:=⟨_,List.getElem?_eq_getElem (by rw[hyl];decide)⟩
  rw[e3] at h3;obtain⟨y4,e4⟩:∃y,ys[4]?=some y:=⟨_,List.getElem?_eq_getElem (by rw[hyl];decide)⟩
  rw[e4] at h4;obtain⟨y5,e5⟩:∃y,ys[5]?=some y:=⟨_,List.getElem?_eq_getElem (by rw[hyl];decide)⟩
  rw[e5] at h5;obtain⟨y6,e6⟩:∃y,ys[6]?=some y:=⟨_,List.getElem?_eq_getElem (by rw[hyl];decide)⟩
  rw[e6] at h6;obtain⟨y7,e7⟩:∃y,ys[7]?=some y:=⟨_,List.getElem?_eq_getElem (by rw[hyl];decide)⟩
  rw[e7] at h7;obtain⟨y8,e8⟩:∃y,ys[8]?=some y:=⟨_,List.getElem?_eq_getElem (by rw[hyl];decide)⟩
  rw[e8] at h8;obtain⟨y9,e9⟩:∃y,ys[9]?=some y:=⟨_,List.getElem?_eq_getElem (by rw[hyl];decide)⟩
  rw[e9] at h9;obtain⟨y10,e10⟩:∃y,ys[10]?=some y:=⟨_,List.getElem?_eq_getElem (by rw[hyl];decide)⟩
  rw[e10] at h10;simp only[List.drop_zero,List.take_succ_cons,List.take_zero,List.drop_succ_cons] at h0 h1 h2 h3 h4 h5 h6 h7 h8 h9 h10;obtain⟨s0,q0,-,z0⟩:=DataW.trod_string Tryz.underlying9 h0;obtain⟨s1,q1,-,z1⟩:=DataW.trod_string Tryz.underlying9 h1;obtain⟨s2,q2,-,z2⟩:=DataW.trod_int Tryz.underlying3 h2;obtain⟨l1,r3⟩:=Vec.zJ h3;obtain⟨l2,r4⟩:=jbF h4;obtain⟨l3,r5⟩:=jb1 h5;obtain⟨l4,r6⟩:=je7 h6;obtain⟨s7,q7,-,z7⟩:=DataW.trod_string Tryz.underlying9 h7;obtain⟨s8,q8,-,z8⟩:=DataW.trod_int Tryz.underlying3 h8;obtain⟨s9,q9,-,z9⟩:=DataW.trod_string Tryz.underlying9 h9;obtain⟨s10,q10,-⟩:=DataW.trod_bool Tryz.underlying4 h10;simp only[List.cons.injEq,and_true] at q0 q1 q2 q7 q8 q9 q10;subst q0;subst q1;subst q2;subst q7;subst q8;subst q9;subst q10;exact⟨⟨s0,s1,s2,l1,l2,l3,l4,s7,s8,s9,s10⟩,_,_,_,_,rfl,⟨z0,z1,z7,z9,bounds_i64 z2,bounds_i64 z8,r3,r4,r5,r6⟩⟩
def jjW (c:Int) (n:Pd) (w:World) (e:Ending) (w':World):Prop:=(c=0→∃v,e=.returned v∧Yd w.heap.size w' v n)∧(c≠0→e=.panicked [zw c])∧Kept w w'
theorem jjW.bad {c:Int} {n:Pd} {w w':World} (hc:c≠0) (hb:Kept w w'):jjW c n w (.panicked [zw c]) w':=⟨fun g=>absurd g hc,fun _=>rfl,hb⟩
theorem jgQ {W:World} {q p:Nat} {c0 c1 c2 c3 c4 c5 c6 c7 c8 c9 c10 u0 u1 u2 u3 u4 u5 u6 u7 u8 u9 u10:Value} (h:(W).cell? ⟨q,0,none⟩=some (c0)∧(W).cell? ⟨q,1,none⟩=some (c1)∧(W).cell? ⟨q,2,none⟩=some (c2)∧(W).cell? ⟨q,3,none⟩=some (c3)∧(W).cell? ⟨q,4,none⟩=some (c4)∧(W).cell? ⟨q,5,none⟩=some (c5)∧(W).cell? ⟨q,6,none⟩=some (c6)∧(W).cell? ⟨q,7,none⟩=some (c7)∧(W).cell? ⟨q,8,none⟩=some (c8)∧(W).cell? ⟨q,9,none⟩=some (c9)∧(W).cell? ⟨q,10,none⟩=some (c10)) (hne:q≠p) :
 ((((((((((((W.setCell ⟨p,0,none⟩ u0).setCell ⟨p,1,none⟩ u1).setCell ⟨p,2,none⟩ u2).setCell ⟨p,3,none⟩ u3).setCell ⟨p,4,none⟩ u4).setCell ⟨p,5,none⟩ u5).setCell ⟨p,6,none⟩ u6).setCell ⟨p,7,none⟩ u7).setCell ⟨p,8,none⟩ u8).setCell ⟨p,9,none⟩ u9).setCell ⟨p,10,none⟩ u10)).cell? ⟨q,0,none⟩=some (c0)∧((((((((((((W.setCell ⟨p,0,none⟩ u0).setCell ⟨p,1,none⟩ u1).setCell ⟨p,2,none⟩ u2).setCell ⟨p,3,none⟩ u3).setCell ⟨p,4,none⟩ u4).setCell ⟨p,5,none⟩ u5).setCell ⟨p,6,none⟩ u6).setCell ⟨p,7,none⟩ u7).setCell ⟨p,8,none⟩ u8).setCell ⟨p,9,none⟩ u9).setCell ⟨p,10,none⟩ u10)).cell? ⟨q,1,none⟩=some (c1)∧((((((((((((W.setCell ⟨p,0,none⟩ u0).setCell ⟨p,1,none⟩ u1).setCell ⟨p,2,none⟩ u2).setCell ⟨p,3,none⟩ u3).setCell ⟨p,4,none⟩ u4).setCell ⟨p,5,none⟩ u5).setCell ⟨p,6,none⟩ u6).setCell ⟨p,7,none⟩ u7).setCell ⟨p,8,none⟩ u8).setCell ⟨p,9,none⟩ u9).setCell ⟨p,10,none⟩ u10)).cell? ⟨q,2,none⟩=some (c2)∧((((((((((((W.setCell ⟨p,0,none⟩ u0).setCell ⟨p,1,none⟩ u1).setCell ⟨p,2,none⟩ u2).setCell ⟨p,3,none⟩ u3).setCell ⟨p,4,none⟩ u4).setCell ⟨p,5,none⟩ u5).setCell ⟨p,6,none⟩ u6).setCell ⟨p,7,none⟩ u7).setCell ⟨p,8,none⟩ u8).setCell ⟨p,9,none⟩ u9).setCell ⟨p,10,none⟩ u10)).cell? ⟨q,3,none⟩=some (c3)∧((((((((((((W.setCell ⟨p,0,none⟩ u0).setCell ⟨p,1,none⟩ u1).setCell ⟨p,2,none⟩ u2).setCell ⟨p,3,none⟩ u3).setCell ⟨p,4,none⟩ u4).setCell ⟨p,5,none⟩ u5).setCell ⟨p,6,none⟩ u6).setCell ⟨p,7,none⟩ u7).setCell ⟨p,8,none⟩ u8).setCell ⟨p,9,none⟩ u9).setCell ⟨p,10,none⟩ u10)).cell? ⟨q,4,none⟩=some (c4)∧((((((((((((W.setCell ⟨p,0,none⟩ u0).setCell ⟨p,1,none⟩ u1).setCell ⟨p,2,none⟩ u2).setCell ⟨p,3,none⟩ u3).setCell ⟨p,4,none⟩ u4).setCell ⟨p,5,none⟩ u5).setCell ⟨p,6,none⟩ u6).setCell ⟨p,7,none⟩ u7).setCell ⟨p,8,none⟩ u8).setCell ⟨p,9,none⟩ u9).setCell ⟨p,10,none⟩ u10)).cell? ⟨q,5,none⟩=some (c5)∧((((((((((((W.setCell ⟨p,0,none⟩ u0).setCell ⟨p,1,none⟩ u1).setCell ⟨p,2,none⟩ u2).setCell ⟨p,3,none⟩ u3).setCell ⟨p,4,none⟩ u4).setCell ⟨p,5,none⟩ u5).setCell ⟨p,6,none⟩ u6).setCell ⟨p,7,none⟩ u7).setCell ⟨p,8,none⟩ u8).setCell ⟨p,9,none⟩ u9).setCell ⟨p,10,none⟩ u10)).cell? ⟨q,6,none⟩=some (c6)∧((((((((((((W.setCell ⟨p,0,none⟩ u0).setCell ⟨p,1,none⟩ u1).setCell ⟨p,2,none⟩ u2).setCell ⟨p,3,none⟩ u3).setCell ⟨p,4,none⟩ u4).setCell ⟨p,5,none⟩ u5).setCell ⟨p,6,none⟩ u6).setCell ⟨p,7,none⟩ u7).setCell ⟨p,8,none⟩ u8).setCell ⟨p,9,none⟩ u9).setCell ⟨p,10,none⟩ u10)).cell? ⟨q,7,none⟩=some (c7)∧((((((((((((W.setCell ⟨p,0,none⟩ u0).setCell ⟨p,1,none⟩ u1).setCell ⟨p,2,none⟩ u2).setCell ⟨p,3,none⟩ u3).setCell ⟨p,4,none⟩ u4).setCell ⟨p,5,none⟩ u5).setCell ⟨p,6,none⟩ u6).setCell ⟨p,7,none⟩ u7).setCell ⟨p,8,none⟩ u8).setCell ⟨p,9,none⟩ u9).setCell ⟨p,10,none⟩ u10)).cell? ⟨q,8,none⟩=some (c8)∧((((((((((((W.setCell ⟨p,0,none⟩ u0).setCell ⟨p,1,none⟩ u1).setCell ⟨p,2,none⟩ u2).setCell ⟨p,3,none⟩ u3).setCell ⟨p,4,none⟩ u4).setCell ⟨p,5,none⟩ u5).setCell ⟨p,6,none⟩ u6).setCell ⟨p,7,none⟩ u7).setCell ⟨p,8,none⟩ u8).setCell ⟨p,9,none⟩ u9).setCell ⟨p,10,none⟩ u10)).cell? ⟨q,9,none⟩=some (c9)∧((((((((((((W.setCell ⟨p,0,none⟩ u0).setCell ⟨p,1,none⟩ u1).setCell ⟨p,2,none⟩ u2).setCell ⟨p,3,none⟩ u3).setCell ⟨p,4,none⟩ u4).setCell ⟨p,5,none⟩ u5).setCell ⟨p,6,none⟩ u6).setCell ⟨p,7,none⟩ u7).setCell ⟨p,8,none⟩ u8).setCell ⟨p,9,none⟩ u9).setCell ⟨p,10,none⟩ u10)).cell? ⟨q,10,none⟩=some (c10):=by
 have e:(W.setCells p 0 [u0,u1,u2,u3,u4,u5,u6,u7,u8,u9,u10]).heap[q]?=W.heap[q]?:=Yg p _ 0 W q hne;have c:∀j,((((((((((((W.setCell ⟨p,0,none⟩ u0).setCell ⟨p,1,none⟩ u1).setCell ⟨p,2,none⟩ u2).setCell ⟨p,3,none⟩ u3).setCell ⟨p,4,none⟩ u4).setCell ⟨p,5,none⟩ u5).setCell ⟨p,6,none⟩ u6).setCell ⟨p,7,none⟩ u7).setCell ⟨p,8,none⟩ u8).setCell ⟨p,9,none⟩ u9).setCell ⟨p,10,none⟩ u10)).cell? ⟨q,j,none⟩=W.cell? ⟨q,j,none⟩:=fun j=>World.cell?_of_block (a:=⟨q,j,none⟩) e;simp only[c];exact h
theorem jnZ {v:Value} {l:TL} {w:World} (h:Reads jQ w v l) (hf:l.length≤1000000) :
 Calls Tryz.prog 37 #[v] w (fun e w'=>∃x,e=.returned x∧Own jQ 144 w' w.heap.size x l∧Kept w w'):=by
 obtain⟨a,cap,rfl,h1,h2,h3⟩:=h;exact jjl a _ cap l w h3 hf
theorem joL {v:Value} {l:NL} {w:World} (h:Reads ju w v l) (hf:l.length≤1000000) :
 Calls Tryz.prog 38 #[v] w (fun e w'=>∃x,e=.returned x∧Own ju 147 w' w.heap.size x l∧Kept w w'):=by
 obtain⟨a,cap,rfl,h1,h2,h3⟩:=h;exact jmF a _ cap l w h3 hf
abbrev PX:=Pd×SX×SX×SX×SX
abbrev joK (z:PX):Value:=jx z.1 (slV z.2.1) (slV z.2.2.1) (slV z.2.2.2.1) (slV z.2.2.2.2)
def At4 (w:World) (z:PX):Prop:=ji w (slV z.2.1) (slV z.2.2.1) (slV z.2.2.2.1) (slV z.2.2.2.2) z.1
def Btw (lo hi:Nat) (a:Option Addr):Prop:=∀b off sp,a=some ⟨b,off,sp⟩→lo≤b∧b<hi
theorem Btw.up {lo hi lo' hi':Nat} {a:Option Addr} (h:Btw lo hi a) (h1:lo'≤lo) (h2:hi≤hi'):Btw lo' hi' a:=fun b o s e=>⟨Nat.le_trans h1 (h b o s e).1,Nat.lt_of_lt_of_le (h b o s e).2 h2⟩
theorem Btw.behind {lo hi:Nat} {a:Option Addr} (h:Btw lo hi a):j4 lo a:=fun b o s e=>(h b o s e).1
def YL (lo hi:Nat) (z:PX):Prop:=Btw lo hi z.2.1.1∧Btw lo hi z.2.2.1.1∧Btw lo hi z.2.2.2.1.1∧Btw lo hi z.2.2.2.2.1
theorem YL.up {lo hi lo' hi':Nat} {z:PX} (h:YL lo hi z) (h1:lo'≤lo) (h2:hi≤hi'):YL lo' hi' z:=⟨h.1.up h1 h2,h.2.1.up h1 h2,h.2.2.1.up h1 h2,h.2.2.2.up h1 h2⟩
theorem ji.at4 {w:World} {n:Pd} {x1 x2 x3 x4:SX} (h:ji w (slV x1) (slV x2) (slV x3) (slV x4) n):At4 w (n,x1,x2,x3,x4):=h
theorem jm8 (n:Pd) (v1 v2 v3 v4:Value) (w:World) (h:ji w v1 v2 v3 v4 n) (hl:JN n) :
 Calls Tryz.prog 11 #[jx n v1 v2 v3 v4] w fun e w'=>∃z:PX,e=.returned (joK z)∧z.1=n∧At4 w' z∧YL w.heap.size w'.heap.size z∧Kept w w':=by
 obtain⟨HH,E1,E2,E3,E4⟩:=lH5 h (fun W (k:Kept w W)=>(jnG (h.need.kept k) hl.need).mono fun _ _=>jd6) (fun W (k:Kept w W)=>(jnx (h.labels.kept k) hl.labels).mono fun _ _=>YF) (fun W (k:Kept w W)=>(jnZ (h.sel.kept k) hl.sel).mono fun _ _=>YF) (fun W (k:Kept w W)=>(joL (h.tols.kept k) hl.tols).mono fun _ _=>YF);obtain⟨⟨x0,x1,x2,l1,l2,l3,l4,x3,x4,x5,x6⟩,hnn⟩:∃m,m=n:=⟨n,rfl⟩
 subst hnn;dsimp only at E1 E2 E3 E4;obtain⟨Y,hY⟩:=eX (w.alloc (.cells #[.string x0,.string x1,.int .i64 x2,v1,v2,v3,v4,.string x3,.int .i64 x4,.string x5,.bool x6] 52))
 obtain⟨W0,hW0⟩:=eX ((w.alloc (.cells #[.string x0,.string x1,.int .i64 x2,v1,v2,v3,v4,.string x3,.int .i64 x4,.string x5,.bool x6] 52)).alloc (.cells #[.string ⟨#[]⟩,.string ⟨#[]⟩,.int .i64 0,.slice none 0 0,.slice none 0 0,.slice none 0 0,.slice none 0 0,.string ⟨#[]⟩,.int .i64 0,.string ⟨#[]⟩,.bool false] 42))
 have hk0:Kept w W0:=by rw[←hW0];exact jn _ _ _
 have hzs:W0.heap.size=w.heap.size+2:=by rw[←hW0];simp
 have HB:=lH (show ∀W,Kept W0 W→W.cell? ⟨w.heap.size,0,none⟩=some (.string x0)∧W.cell? ⟨w.heap.size,1,none⟩=some (.string x1)∧W.cell? ⟨w.heap.size,2,none⟩=some (.int .i64 x2)∧W.cell? ⟨w.heap.size,3,none⟩=some (v1)∧W.cell? ⟨w.heap.size,4,none⟩=some (v2)∧W.cell? ⟨w.heap.size,5,none⟩=some (v3)∧W.cell? ⟨w.heap.size,6,none⟩=some (v4)∧W.cell? ⟨w.heap.size,7,none⟩=some (.string x3)∧W.cell? ⟨w.heap.size,8,none⟩=some (.int .i64 x4)∧W.cell? ⟨w.heap.size,9,none⟩=some (.string x5)∧W.cell? ⟨w.heap.size,10,none⟩=some (.bool x6) from fun W k=>by
  have:=jc w (.string x0) [.string x1,.int .i64 x2,v1,v2,v3,v4,.string x3,.int .i64 x4,.string x5,.bool x6] 52 W ((by rw[←hW0];exact ja _ _:Kept (w.alloc (.cells #[.string x0,.string x1,.int .i64 x2,v1,v2,v3,v4,.string x3,.int .i64 x4,.string x5,.bool x6] 52)) W0).trans k);exact⟨this.at_ 0 _ rfl,this.at_ 1 _ rfl,this.at_ 2 _ rfl,this.at_ 3 _ rfl,this.at_ 4 _ rfl,this.at_ 5 _ rfl,this.at_ 6 _ rfl,this.at_ 7 _ rfl,this.at_ 8 _ rfl,this.at_ 9 _ rfl,this.at_ 10 _ rfl⟩)
 have HQ:=lH (show ∀W,Kept W0 W→jf (w.heap.size+1) [.string ⟨#[]⟩,.string ⟨#[]⟩,.int .i64 0,.slice none 0 0,.slice none 0 0,.slice none 0 0,.slice none 0 0,.string ⟨#[]⟩,.int .i64 0,.string ⟨#[]⟩,.bool false] W from fun W k=>by
  have:=jc (w.alloc (.cells #[.string x0,.string x1,.int .i64 x2,v1,v2,v3,v4,.string x3,.int .i64 x4,.string x5,.bool x6] 52)) (.string ⟨#[]⟩) [.string ⟨#[]⟩,.int .i64 0,.slice none 0 0,.slice none 0 0,.slice none 0 0,.slice none 0 0,.string ⟨#[]⟩,.int .i64 0,.string ⟨#[]⟩,.bool false] 42 W (by rw[hW0];exact k);rw[World.size_alloc] at this;exact this)
 have HZ:=lH hzs;have Va:=lH hk0;obtain⟨b0,b1,b2,b3,b4,b5,b6,b7,b8,b9,b10⟩:=HB.out _ (Kept.refl _);clear h hl hk0 hzs hY Y;unfold jx;dsimp only;go_enter Tryz.func11,Tryz.ntmps11;go_wp2;try rw[hW0]
 clear hW0;refine wp_region_held_drew (S:=fun W=>W.cell? ⟨w.heap.size,0,none⟩=some (.string x0)∧W.cell? ⟨w.heap.size,1,none⟩=some (.string x1)∧W.cell? ⟨w.heap.size,2,none⟩=some (.int .i64 x2)∧W.cell? ⟨w.heap.size,3,none⟩=some (v1)∧W.cell? ⟨w.heap.size,4,none⟩=some (v2)∧W.cell? ⟨w.heap.size,5,none⟩=some (v3)∧W.cell? ⟨w.heap.size,6,none⟩=some (v4)∧W.cell? ⟨w.heap.size,7,none⟩=some (.string x3)∧W.cell? ⟨w.heap.size,8,none⟩=some (.int .i64 x4)∧W.cell? ⟨w.heap.size,9,none⟩=some (.string x5)∧W.cell? ⟨w.heap.size,10,none⟩=some (.bool x6)) (by kernel_rfl) (HB.out _ (Kept.drew _)) (fun hHeld=>?_);refine tkI 0 ?_;refine tkI 1 ?_;refine tkI 2 ?_;refine tkI 3 ?_;refine tkI 4 ?_;refine tkI 5 ?_;refine tkI 6 ?_;refine tkI 7 ?_;refine tkI 9 ?_;refine tkI 10 ?_;refine tkI 12 ?_;refine tkI 13 ?_;refine tkI 15 ?_;refine tkI 16 ?_;refine tkI 18 ?_;refine tkI 19 ?_;refine tkI 20 ?_;refine tkI 21 ?_;refine tkI 22 ?_;refine tkI 23 ?_;refine tkI 24 ?_;refine tkI 25 ?_;try simp only[nP]
 refine rd1 8 fun K9 Ky=>?_;go_simp;refine(E1.out _ (Va.out.trans (Kept.drew _))).mono ?_;rintro e1 w1 ⟨b1,n1,d1,rfl,r1,g1,k1⟩;obtain⟨K1,G1,R1⟩:=lH3 (Kept.trans (Kept.drew _) k1) (show Btw (w.heap.size+2) w1.heap.size b1 from fun b o s e=>⟨Nat.le_trans (by rw[←HZ.out];exact Below.size (Kept.drew _)) (g1 b o s e).1,(g1 b o s e).2⟩) r1;clear k1 r1 g1;refine Ky.out _ _ (HB.out _ K1.out) (fun _=>?_);clear Ky K9;try simp only[nP]
 refine rd1 11 fun K9 Ky=>?_;go_simp;refine(E2.out _ (Va.out.trans K1.out)).mono ?_;rintro e2 w2 ⟨b2,n2,d2,rfl,r2,g2,k2⟩;obtain⟨K2,G2,R2,R1,G1⟩:=lH5 (Kept.trans K1.out k2) (show Btw (w.heap.size+2) w2.heap.size b2 from fun b o s e=>⟨Nat.le_trans (by rw[←HZ.out];exact Below.size K1.out) (g2 b o s e).1,(g2 b o s e).2⟩) r2 (R1.out.kept k2) (G1.out.up (Nat.le_refl _) k2.size);clear k2 r2 g2;refine Ky.out _ _ (HB.out _ K2.out) (fun _=>?_);clear Ky K9;try simp only[nP]
 refine rd1 14 fun K9 Ky=>?_;go_simp;refine(E3.out _ (Va.out.trans K2.out)).mono ?_;rintro e3 w3 ⟨b3,n3,d3,rfl,r3,g3,k3⟩;obtain⟨K3,G3,R3,R1,G1,R2,G2⟩:=lH7 (Kept.trans K2.out k3) (show Btw (w.heap.size+2) w3.heap.size b3 from fun b o s e=>⟨Nat.le_trans (by rw[←HZ.out];exact Below.size K2.out) (g3 b o s e).1,(g3 b o s e).2⟩) r3 (R1.out.kept k3) (G1.out.up (Nat.le_refl _) k3.size) (R2.out.kept k3) (G2.out.up (Nat.le_refl _) k3.size);clear k3 r3 g3;refine Ky.out _ _ (HB.out _ K3.out) (fun _=>?_);clear Ky K9;try simp only[nP]
 refine rd1 17 fun K9 Ky=>?_;go_simp;refine(E4.out _ (Va.out.trans K3.out)).mono ?_;rintro e4 w4 ⟨b4,n4,d4,rfl,r4,g4,k4⟩;obtain⟨K4,G4,R4,R1,G1,R2,G2,R3⟩:=lH8 (Kept.trans K3.out k4) (show Btw (w.heap.size+2) w4.heap.size b4 from fun b o s e=>⟨Nat.le_trans (by rw[←HZ.out];exact Below.size K3.out) (g4 b o s e).1,(g4 b o s e).2⟩) r4 (R1.out.kept k4) (G1.out.up (Nat.le_refl _) k4.size) (R2.out.kept k4) (G2.out.up (Nat.le_refl _) k4.size) (R3.out.kept k4);have G3:=lH (G3.out.up (Nat.le_refl _) k4.size);clear k4 r4 g4;refine Ky.out _ _ (HB.out _ K4.out) (fun _=>?_);clear Ky K9;try simp only[nP]
 refine tkI 26 ?_;try simp only[nP]
 have VP:=lH (HQ.out _ K4.out);obtain⟨z0,z1,z2,z3,z4,z5,z6,z7,z8,z9,z10⟩:=VP.out.at11;have f0:=VP.out.free 0;have f1:=VP.out.free 1;have f2:=VP.out.free 2;have f3:=VP.out.free 3;have f4:=VP.out.free 4;have f5:=VP.out.free 5;have f6:=VP.out.free 6;have f7:=VP.out.free 7;have f8:=VP.out.free 8;have f9:=VP.out.free 9;have f10:=VP.out.free 10;refine rd1 27 fun K9 Ky=>?_;go_simp;refine Ky.out _ _ (jgQ (HB.out _ K4.out) (by omega)) (fun hHeldS=>?_);clear Ky K9 hHeldS;try simp only[nP]
 refine wpAnyH_done (by kernel_rfl) ?_ _;have P:=lH (j6 (vs:=[.string x0,.string x1,.int .i64 x2,.slice b1 n1 d1,.slice b2 n2 d2,.slice b3 n3 d3,.slice b4 n4 d4,.string x3,.int .i64 x4,.string x5,.bool x6]) VP.out rfl);clear z0 f0 z1 f1 z2 f2 z3 f3 z4 f4 z5 f5 z6 f6 z7 f7 z8 f8 z9 f9 z10 f10;go_wp2;(try simp only[Exit.inBlock,Exit.then])
 obtain⟨WE,hWE⟩:=eX (w4.setCells (w.heap.size+1) 0 [.string x0,.string x1,.int .i64 x2,.slice b1 n1 d1,.slice b2 n2 d2,.slice b3 n3 d3,.slice b4 n4 d4,.string x3,.int .i64 x4,.string x5,.bool x6])
 have hWE2:(((((((((((w4.setCell ⟨w.heap.size+1,0,none⟩ (.string x0)).setCell ⟨w.heap.size+1,1,none⟩ (.string x1)).setCell ⟨w.heap.size+1,2,none⟩ (.int .i64 x2)).setCell ⟨w.heap.size+1,3,none⟩ (.slice b1 n1 d1)).setCell ⟨w.heap.size+1,4,none⟩ (.slice b2 n2 d2)).setCell ⟨w.heap.size+1,5,none⟩ (.slice b3 n3 d3)).setCell ⟨w.heap.size+1,6,none⟩ (.slice b4 n4 d4)).setCell ⟨w.heap.size+1,7,none⟩ (.string x3)).setCell ⟨w.heap.size+1,8,none⟩ (.int .i64 x4)).setCell ⟨w.heap.size+1,9,none⟩ (.string x5)).setCell ⟨w.heap.size+1,10,none⟩ (.bool x6))=WE:=hWE;rw[hWE] at P;rw[hWE2];clear hWE hWE2;obtain⟨PC,hsz,hbl,hkp⟩:=P.out;refine bodyPost_ret (by simp[results,Tryz.results11,go_sem,PC.at_ 0 _ rfl,PC.at_ 1 _ rfl,PC.at_ 2 _ rfl,PC.at_ 3 _ rfl,PC.at_ 4 _ rfl,PC.at_ 5 _ rfl,PC.at_ 6 _ rfl,PC.at_ 7 _ rfl,PC.at_ 8 _ rfl,PC.at_ 9 _ rfl,PC.at_ 10 _ rfl];try rfl) rfl ?_;refine⟨(⟨x0,x1,x2,l1,l2,l3,l4,x3,x4,x5,x6⟩,(b1,n1,d1),(b2,n2,d2),(b3,n3,d3),(b4,n4,d4)),rfl,rfl,ji.at4 (ji.far (B:=w.heap.size+2) (n:=⟨x0,x1,x2,l1,l2,l3,l4,x3,x4,x5,x6⟩) ⟨HH.out.name,HH.out.owner,HH.out.key,HH.out.node,HH.out.prio,HH.out.most,R1.out,R2.out,R3.out,R4.out⟩ hsz (fun b hb=>hbl b (by omega)) G1.out.behind G2.out.behind G3.out.behind G4.out.behind),?_,hkp _ _ (by omega) (Va.out.trans K4.out)⟩;rw[hsz];exact⟨G1.out.up (by omega) (Nat.le_refl _),G2.out.up (by omega) (Nat.le_refl _),G3.out.up (by omega) (Nat.le_refl _),G4.out.up (by omega) (Nat.le_refl _)⟩
theorem Reads.grown {α:Type} {L:Lay α} {w w':World} {row:Option Nat} {a:Option Addr} {m c:Nat} {l:List α} (h:Reads L w (.slice a m c) l) (hg:w.grownBy w' row) (hb:∀b off sp,a=some ⟨b,off,sp⟩→some b≠row):Reads L w' (.slice a m c) l:=by
 obtain⟨a',cap',e,h1,h2,h3,h4,h5,h6⟩:=h
 cases e
 refine⟨a,c,rfl,h1,h2,h3,h4,h5,h6.imp id ?_⟩;rintro ⟨b,off,rfl,hlt,hc⟩;exact⟨b,off,rfl,Nat.lt_of_lt_of_le hlt hg.size,fun i x j u hi hj=>(World.cell?_of_block (a:=⟨b,off+i*L.m+j,none⟩) (hg.block b hlt (hb b off none rfl))).trans (hc i x j u hi hj)⟩
theorem Vec.Reads.grown {w w':World} {row:Option Nat} {a:Option Addr} {m c:Nat} {l:Vec.V} (h:Vec.Reads w (.slice a m c) l) (hg:w.grownBy w' row) (hb:∀b off sp,a=some ⟨b,off,sp⟩→some b≠row):Vec.Reads w' (.slice a m c) l:=by
 obtain⟨a',cap',e,h1,h2,h3,h4,h5,h6⟩:=h
 cases e
 refine⟨a,c,rfl,h1,h2,h3,h4,h5,h6.imp id ?_⟩;rintro ⟨b,off,rfl,hlt,hc⟩;exact⟨b,off,rfl,Nat.lt_of_lt_of_le hlt hg.size,fun i hi=>⟨(World.cell?_of_block (a:=⟨b,off+i*2,none⟩) (hg.block b hlt (hb b off none rfl))).trans (hc i hi).1,(World.cell?_of_block (a:=⟨b,off+i*2+1,none⟩) (hg.block b hlt (hb b off none rfl))).trans (hc i hi).2⟩⟩
theorem jee (x:NX) (u:Value) (h:u ∈ [Value.string x.1.name,slV x.2.1,slV x.2.2.1,slV x.2.2.2,.bool x.1.cordon]):u.oneCell'=true:=by
 simp only[List.mem_cons,List.not_mem_nil,or_false] at h;rcases h with rfl | rfl | rfl | rfl | rfl<;>rfl
def zH:Lay NX:={ m:=5,cs:=fun x=>[.string x.1.name,slV x.2.1,slV x.2.2.1,slV x.2.2.2,.bool x.1.cordon],fine:=fun _=>True,len:=fun _=>rfl,one:=jee,pos:=by decide }
def jl7 (w:World) (v:Value) (l:List NX):Prop:=∀z ∈ l,At3 w z∧XF 0 w.heap.size z∧(∀b off sp,z.2.1.1=some ⟨b,off,sp⟩→v.ownBlock≠some b)∧(∀b off sp,z.2.2.1.1=some ⟨b,off,sp⟩→v.ownBlock≠some b)∧(∀b off sp,z.2.2.2.1=some ⟨b,off,sp⟩→v.ownBlock≠some b)
theorem jbf {lo lo' hi hi':Nat} {z:NX} (h:XF lo hi z) (h1:lo'≤lo) (h2:hi≤hi'):XF lo' hi' z :=
 ⟨fun b o s e=>⟨Nat.le_trans h1 (h.1 b o s e).1,Nat.lt_of_lt_of_le (h.1 b o s e).2 h2⟩,fun b o s e=>⟨Nat.le_trans h1 (h.2.1 b o s e).1,Nat.lt_of_lt_of_le (h.2.1 b o s e).2 h2⟩,fun b o s e=>⟨Nat.le_trans h1 (h.2.2 b o s e).1,Nat.lt_of_lt_of_le (h.2.2 b o s e).2 h2⟩⟩
theorem jmr {wr w1 w2:World} {o:Obj} {v:Value} {l:List NX} {z0:NX} {gg n cap:Nat} (hv:jl7 wr v l) (k:Kept wr w1) (hz:At3 w1 z0) (hw:XF wr.heap.size w1.heap.size z0) (hown:∀g,v.ownBlock=some g→g<wr.heap.size)
 (hgrow:(w1.alloc o).grownBy w2 v.ownBlock) (hat:v.ownBlock=some gg∨gg=w1.heap.size+1):jl7 w2 (.slice (some ⟨gg,0,none⟩) n cap) (l++[z0]):=by
 have hs:=hgrow.size;rw[World.size_alloc] at hs;have hk:=k.size
 have key:∀z,At3 w1 z→XF 0 w1.heap.size z→(∀b off sp,z.2.1.1=some ⟨b,off,sp⟩→v.ownBlock≠some b)→(∀b off sp,z.2.2.1.1=some ⟨b,off,sp⟩→v.ownBlock≠some b)→(∀b off sp,z.2.2.2.1=some ⟨b,off,sp⟩→v.ownBlock≠some b) →
  At3 w2 z∧XF 0 w2.heap.size z∧(∀b off sp,z.2.1.1=some ⟨b,off,sp⟩→some gg≠some b)∧(∀b off sp,z.2.2.1.1=some ⟨b,off,sp⟩→some gg≠some b)∧(∀b off sp,z.2.2.2.1=some ⟨b,off,sp⟩→some gg≠some b):=by
  intro z h3 hwz f1 f2 f3;have ne:∀b,b<w1.heap.size→v.ownBlock≠some b→some gg≠some b:=by
   intro b hb hne e;rcases hat with hat | hat
   · exact hne (hat.trans e)
   · have:gg=b:=Option.some.inj e;omega
  have h3':=h3.kept (ja w1 o)
  exact⟨⟨h3'.size,h3'.cap.grown hgrow (fun b off sp e=>Ne.symm (f1 b off sp e)),h3'.labels.grown hgrow (fun b off sp e=>Ne.symm (f2 b off sp e)),h3'.taints.grown hgrow (fun b off sp e=>Ne.symm (f3 b off sp e))⟩,
   jbf hwz (Nat.le_refl _) (by omega),fun b off sp e=>ne b (hwz.1 b off sp e).2 (f1 b off sp e),fun b off sp e=>ne b (hwz.2.1 b off sp e).2 (f2 b off sp e),fun b off sp e=>ne b (hwz.2.2 b off sp e).2 (f3 b off sp e)⟩
 intro z hzm;rcases List.mem_append.1 hzm with hzm | hzm
 · obtain⟨h0,h1,h2,h3,h4⟩:=hv z hzm;exact key z (h0.kept k) (jbf h1 (Nat.le_refl _) hk) h2 h3 h4
 · obtain rfl:z=z0:=by simpa using hzm
   exact key z hz (jbf hw (Nat.zero_le _) (Nat.le_refl _)) (fun b off sp e f=>by have:=(hw.1 b off sp e).1;have:=hown b f;omega) (fun b off sp e f=>by have:=(hw.2.1 b off sp e).1;have:=hown b f;omega) (fun b off sp e f=>by have:=(hw.2.2 b off sp e).1;have:=hown b f;omega)
theorem jdQ {w:World} {T:TypeId} {B:Nat} {v:Value} {lx:List NX} (ho:Own zH T w B v lx) (hf:∀z ∈ lx,At3 w z):JB w v (lx.map fun z=>z.1):=by
 obtain⟨a,cap,rfl,h1,h2,h3⟩:=ho.at_;obtain⟨g0,g1,g2,g3⟩:=h3;refine⟨a,cap,by rw[List.length_map],by rw[List.length_map];exact h1,h2,rfl,by rw[List.length_map];exact g1,?_⟩;rw[List.length_map];rcases g3 with g3 | ⟨b,off,rfl,hb,hc⟩
 · exact .inl g3
 · refine .inr ⟨b,off,rfl,hb,fun i n hi=>?_⟩;rw[List.getElem?_map] at hi;obtain⟨z,hz,rfl⟩:=Option.map_eq_some_iff.1 hi;exact⟨_,_,_,_,_,_,_,_,_,hc i z 0 _ hz rfl,hc i z 1 _ hz rfl,hc i z 2 _ hz rfl,hc i z 3 _ hz rfl,hc i z 4 _ hz rfl,hf z (List.mem_of_getElem? hz)⟩
theorem joo:(Tryz.prog.info? 122).map (fun i=>(i.zero,i.size,i.bytes))=some (some (.agg #[.string ByteArray.empty,.slice none 0 0,.slice none 0 0,.slice none 0 0,.bool false]),5,96):=by kernel_rfl
theorem jkg (a:Option Addr) (len cap:Nat) (l:List Nod) (w:World) (hr:jo w a len l) (hlow:∀n ∈ l,zP n) (hlen:len≤1000) :
 Calls Tryz.prog 26 #[.slice a len cap] w fun e w'=>∃v,e=.returned v∧JB w' v l∧Kept w w':=by
 have hl:=hr.1;have Vo:=lH hlow;obtain⟨i0,hi,hz0,hz1,hz2'⟩:=info_parts joo;rcases hr.form with h0 | ⟨b,off,rfl⟩
 · subst h0;have hl0:l=[]:=List.eq_nil_of_length_eq_zero hl;subst hl0;clear hr hl hi hz0 hz1 hz2' hlow;go_enter Tryz.func26,Tryz.ntmps26;go_wp2;refine wp_loop_rounds 1 ?_;rw[rounds_succ];go_wp2;go_ret;exact⟨_,rfl,⟨none,0,rfl,Nat.le_refl _,by decide,rfl,by decide,.inl rfl⟩,Kept.refl _⟩
 · have HR:=lH hr;have HL:=lH hl;clear hr hl hlow;go_enter Tryz.func26,Tryz.ntmps26;go_wp2;go_loopw [3,4] (fun v i wr=>∃k:Nat,k≤len∧i=.int .i64 k∧∃lx:List NX,(lx.map fun z=>z.1)=l.take k∧Own zH 122 wr w.heap.size v lx∧jl7 wr v lx∧Below w.heap.size w wr) (fun _ i _=>len-(intOf i).toNat)
   case atStart=>exact⟨0,Nat.zero_le _,rfl,[],rfl,Own.nil _ _ _,(fun z h=>by cases h),Below.refl _ _⟩
   case round =>
    obtain⟨k,hk,rfl,lx,hlx,ho,hv,hB⟩:=hrel;obtain⟨HX,HO,HV,HB,HT⟩:=lH5 hlx ho hv hB (show lx.length=k by have:=congrArg List.length hlx;rw[List.length_map,List.length_take,HL.out] at this;omega);have Vk:=lH (show wr.ownsRow w.heap.size 122 5 u3 k (je zH lx) by have:=HO.out.1;rw[HT.out] at this;exact this);have hbase:w.heap.size≤wr.heap.size:=hB.size;by_cases hlt:k<len
    · obtain⟨n,a1,m1,c1,a2,m2,c2,a3,m3,c3,hn,hd,hb,p0,p1,p2,p3,p4,hat⟩:=(HR.out.kept hB).at_ hlt;have HN:=lH hn;have Vy:=lH (jmR n (.slice a1 m1 c1) (.slice a2 m2 c2) (.slice a3 m3 c3) wr hat (Vo.out n (List.mem_of_getElem? hn)));have hk1:(k:Int)<(len:Int):=by omega
      clear hlx ho hv hB hn hd hat;go_wp2_with fail
      refine Vy.out.mono ?_;rintro e w1 ⟨z,rfl,hz,h3,hwi,kk⟩;obtain⟨HZ,H3,HW,KK⟩:=lH4 hz h3 hwi kk;have hs1:wr.heap.size≤w1.heap.size:=kk.size;have VF:=lH (show w1.ownsRow w.heap.size 122 5 u3 k (je zH lx) by have:=(HO.out.kept kk).1;rw[HT.out] at this;exact this);clear hz h3 hwi kk;go_wp2_with (at_builtin;refine wpList_append_lies _ rfl _ _ _ rfl w.heap.size 122 i0 _ 5 96 Tryz.underlying29 hi hz0 hz1 hz2' rfl (by decide) u3 k (je zH lx) rfl (VF.out.alloc _) ⟨w1.heap.size,0,none⟩ 1 1 (zH.cs z) rfl rfl (World.news_of_block (cs:=#[.string z.1.name,slV z.2.1,slV z.2.2.1,slV z.2.2.2,.bool z.1.cordon]) (t:=122) (fr:=(0,0)) (heap_alloc_new w1 _)) (jee z) (by decide) (by unfold maxLen;omega) (by omega) (by simp;omega) (w1.heap.size+1) (by simp) ?_;intro gg cap1 w2 hown1 hgrow hat hlt1)
      have Uv:=lH (jmr (n:=k+1) (cap:=cap1) HV.out KK.out H3.out HW.out (fun g h=>(Vk.out.lt g h).2) hgrow hat);have VQ:=lH ((HB.out.trans ((Below.mono KK.out hbase).trans (Below.mono (ja w1 _) (by omega)))).grown hgrow (by simp;omega) (fun j hj=>(Vk.out.lt j hj).1));go_wp2;go_roundw
      case rel=>exact⟨k+1,by omega,by go_num,lx++[z],by rw[List.map_append,HX.out,zI HN.out,←HZ.out];rfl,Own.snoc hown1 (by rw[HT.out]) HO.out.2 trivial,Uv.out,VQ.out⟩
      case measure=>simp[intOf];omega
    · have HK:=lH (show l.take k=l by rw[List.take_of_length_le (by rw[HL.out];omega)]);have Ub:=lH (show JB wr u3 l by have:=jdQ HO.out (fun z hz=>(HV.out z hz).1);rw[HX.out,HK.out] at this;exact this);clear hlx ho hv hB;go_wp2;go_ret;exact⟨_,rfl,Ub.out,HB.out⟩
theorem jnQ {v:Value} {l:List Nod} {w:World} (h:JB w v l) (hlow:∀n ∈ l,zP n) (hlen:l.length≤1000) :
 Calls Tryz.prog 26 #[v] w fun e w'=>∃v,e=.returned v∧JB w' v l∧Kept w w':=by
 obtain⟨a,cap,rfl,_,_,hr⟩:=h;exact jkg a _ cap l w hr hlow hlen
theorem qM (x:PX) (u:Value) (h:u ∈ [Value.string x.1.name,.string x.1.owner,.int .i64 x.1.prio,slV x.2.1,slV x.2.2.1,slV x.2.2.2.1,slV x.2.2.2.2,.string x.1.key,.int .i64 x.1.most,.string x.1.node,.bool x.1.hold]):u.oneCell'=true:=by
 simp only[List.mem_cons,List.not_mem_nil,or_false] at h;rcases h with rfl | rfl | rfl | rfl | rfl | rfl | rfl | rfl | rfl | rfl | rfl<;>rfl
def PodLay0:Lay PX:={ m:=11,cs:=fun x=>[.string x.1.name,.string x.1.owner,.int .i64 x.1.prio,slV x.2.1,slV x.2.2.1,slV x.2.2.2.1,slV x.2.2.2.2,.string x.1.key,.int .i64 x.1.most,.string x.1.node,.bool x.1.hold],fine:=fun _=>True,len:=fun _=>rfl,one:=qM,pos:=by decide }
def ZA (v:Value) (a:Option Addr):Prop:=∀b off sp,a=some ⟨b,off,sp⟩→v.ownBlock≠some b
def jlS (w:World) (v:Value) (l:List PX):Prop:=∀z ∈ l,At4 w z∧YL 0 w.heap.size z∧ZA v z.2.1.1∧ZA v z.2.2.1.1∧ZA v z.2.2.2.1.1∧ZA v z.2.2.2.2.1
theorem jkx {wr w1 w2:World} {o:Obj} {v:Value} {l:List PX} {z0:PX} {gg n cap:Nat} (hv:jlS wr v l) (k:Kept wr w1) (hz:At4 w1 z0) (hw:YL wr.heap.size w1.heap.size z0) (hown:∀g,v.ownBlock=some g→g<wr.heap.size)
 (hgrow:(w1.alloc o).grownBy w2 v.ownBlock) (hat:v.ownBlock=some gg∨gg=w1.heap.size+1):jlS w2 (.slice (some ⟨gg,0,none⟩) n cap) (l++[z0]):=by
 have hs:=hgrow.size;rw[World.size_alloc] at hs;have hk:=k.size;have key:∀z,At4 w1 z→YL 0 w1.heap.size z→ZA v z.2.1.1→ZA v z.2.2.1.1→ZA v z.2.2.2.1.1→ZA v z.2.2.2.2.1 →
  At4 w2 z∧YL 0 w2.heap.size z∧ZA (.slice (some ⟨gg,0,none⟩) n cap) z.2.1.1∧ZA (.slice (some ⟨gg,0,none⟩) n cap) z.2.2.1.1∧ZA (.slice (some ⟨gg,0,none⟩) n cap) z.2.2.2.1.1∧ZA (.slice (some ⟨gg,0,none⟩) n cap) z.2.2.2.2.1:=by
  intro z h3 hwz f1 f2 f3 f4;have ne:∀b,b<w1.heap.size→v.ownBlock≠some b→(Value.slice (some ⟨gg,0,none⟩) n cap).ownBlock≠some b:=by
   intro b hb hne e;have e:some gg=some b:=e;rcases hat with hat | hat
   · exact hne (hat.trans e)
   · have:gg=b:=Option.some.inj e;omega
  have h3':=ji.kept h3 (ja w1 o)
  exact⟨⟨h3'.name,h3'.owner,h3'.key,h3'.node,h3'.prio,h3'.most,h3'.need.grown hgrow (fun b off sp e=>Ne.symm (f1 b off sp e)),h3'.labels.grown hgrow (fun b off sp e=>Ne.symm (f2 b off sp e)),h3'.sel.grown hgrow (fun b off sp e=>Ne.symm (f3 b off sp e)),h3'.tols.grown hgrow (fun b off sp e=>Ne.symm (f4 b off sp e))⟩,
   hwz.up (Nat.le_refl _) (by omega),fun b off sp e=>ne b (hwz.1 b off sp e).2 (f1 b off sp e),fun b off sp e=>ne b (hwz.2.1 b off sp e).2 (f2 b off sp e),fun b off sp e=>ne b (hwz.2.2.1 b off sp e).2 (f3 b off sp e),fun b off sp e=>ne b (hwz.2.2.2 b off sp e).2 (f4 b off sp e)⟩
 intro z hzm;rcases List.mem_append.1 hzm with hzm | hzm
 · obtain⟨h0,h1,h2,h3,h4,h5⟩:=hv z hzm;exact key z (ji.kept h0 k) (h1.up (Nat.le_refl _) hk) h2 h3 h4 h5
 · obtain rfl:z=z0:=by simpa using hzm
   exact key z hz (hw.up (Nat.zero_le _) (Nat.le_refl _)) (fun b off sp e f=>by have:=(hw.1 b off sp e).1;have:=hown b f;omega) (fun b off sp e f=>by have:=(hw.2.1 b off sp e).1;have:=hown b f;omega) (fun b off sp e f=>by have:=(hw.2.2.1 b off sp e).1;have:=hown b f;omega) (fun b off sp e f=>by have:=(hw.2.2.2 b off sp e).1;have:=hown b f;omega)
theorem qV {w:World} {T:TypeId} {B:Nat} {v:Value} {lx:List PX} (ho:Own PodLay0 T w B v lx) (hf:∀z ∈ lx,At4 w z):Jn w v (lx.map fun z=>z.1):=by
 obtain⟨a,cap,rfl,h1,h2,h3⟩:=ho.at_;obtain⟨g0,g1,g2,g3⟩:=h3;refine⟨a,cap,by rw[List.length_map],by rw[List.length_map];exact h1,h2,rfl,by rw[List.length_map];exact g1,?_⟩;rw[List.length_map];rcases g3 with g3 | ⟨b,off,rfl,hb,hc⟩
 · exact .inl g3
 · refine .inr ⟨b,off,rfl,hb,fun i n hi=>?_⟩;rw[List.getElem?_map] at hi;obtain⟨z,hz,rfl⟩:=Option.map_eq_some_iff.1 hi;exact⟨slV z.2.1,slV z.2.2.1,slV z.2.2.2.1,slV z.2.2.2.2,hc i z 0 _ hz rfl,hc i z 1 _ hz rfl,hc i z 2 _ hz rfl,hc i z 3 _ hz rfl,hc i z 4 _ hz rfl,hc i z 5 _ hz rfl,hc i z 6 _ hz rfl,hc i z 7 _ hz rfl,hc i z 8 _ hz rfl,hc i z 9 _ hz rfl,hc i z 10 _ hz rfl,hf z (List.mem_of_getElem? hz)⟩
theorem jnW:(Tryz.prog.info? 42).map (fun i=>(i.zero,i.size,i.bytes))=some (some (.agg #[.string ByteArray.empty,.string ByteArray.empty,.int .i64 0,.slice none 0 0,.slice none 0 0,.slice none 0 0,.slice none 0 0,.string ByteArray.empty,.int .i64 0,.string ByteArray.empty,.bool false]),11,184):=by kernel_rfl
theorem jiO (a:Option Addr) (len cap:Nat) (l:List Pd) (w:World) (hr:jy w a len l) (hlow:∀n ∈ l,JN n) (hlen:len≤1000) :
 Calls Tryz.prog 27 #[.slice a len cap] w fun e w'=>∃v,e=.returned v∧Jn w' v l∧Kept w w':=by
 have hl:=hr.1;have Vo:=lH hlow;obtain⟨i0,hi,hz0,hz1,hz2'⟩:=info_parts jnW;rcases hr.form with h0 | ⟨b,off,rfl⟩
 · subst h0;have hl0:l=[]:=List.eq_nil_of_length_eq_zero hl;subst hl0;clear hr hl hi hz0 hz1 hz2' hlow;go_enter Tryz.func27,Tryz.ntmps27;go_wp2;refine wp_loop_rounds 1 ?_;rw[rounds_succ];go_wp2;go_ret;exact⟨_,rfl,⟨none,0,rfl,Nat.le_refl _,by decide,rfl,by decide,.inl rfl⟩,Kept.refl _⟩
 · have HR:=lH hr;have HL:=lH hl;clear hr hl hlow;go_enter Tryz.func27,Tryz.ntmps27;go_wp2;go_loopw [3,4] (fun v i wr=>∃k:Nat,k≤len∧i=.int .i64 k∧∃lx:List PX,(lx.map fun z=>z.1)=l.take k∧Own PodLay0 42 wr w.heap.size v lx∧jlS wr v lx∧Below w.heap.size w wr) (fun _ i _=>len-(intOf i).toNat)
   case atStart=>exact⟨0,Nat.zero_le _,rfl,[],rfl,Own.nil _ _ _,(fun z h=>by cases h),Below.refl _ _⟩
   case round =>
    obtain⟨k,hk,rfl,lx,hlx,ho,hv,hB⟩:=hrel;obtain⟨HX,HO,HV,HB,HT⟩:=lH5 hlx ho hv hB (show lx.length=k by have:=congrArg List.length hlx;rw[List.length_map,List.length_take,HL.out] at this;omega);have Vk:=lH (show wr.ownsRow w.heap.size 42 11 u3 k (je PodLay0 lx) by have:=HO.out.1;rw[HT.out] at this;exact this);have hbase:w.heap.size≤wr.heap.size:=hB.size;by_cases hlt:k<len
    · obtain⟨n,a1,m1,c1,a2,m2,c2,a3,m3,c3,a4,m4,c4,hn,hd,hb,p0,p1,p2,p3,p4,p5,p6,p7,p8,p9,p10,hat⟩:=(HR.out.kept hB).at_ hlt;have HN:=lH hn;have Vy:=lH (jm8 n (.slice a1 m1 c1) (.slice a2 m2 c2) (.slice a3 m3 c3) (.slice a4 m4 c4) wr hat (Vo.out n (List.mem_of_getElem? hn)));have hk1:(k:Int)<(len:Int):=by omega
      clear hlx ho hv hB hn hd hat;go_wp2_with fail
      refine Vy.out.mono ?_;rintro e w1 ⟨z,rfl,hz,h3,hwi,kk⟩;obtain⟨HZ,H3,HW,KK⟩:=lH4 hz h3 hwi kk;have hs1:wr.heap.size≤w1.heap.size:=kk.size;have VF:=lH (show w1.ownsRow w.heap.size 42 11 u3 k (je PodLay0 lx) by have:=(HO.out.kept kk).1;rw[HT.out] at this;exact this);clear hz h3 hwi kk;go_wp2_with (at_builtin;refine wpList_append_lies _ rfl _ _ _ rfl w.heap.size 42 i0 _ 11 184 Tryz.underlying30 hi hz0 hz1 hz2' rfl (by decide) u3 k (je PodLay0 lx) rfl (VF.out.alloc _) ⟨w1.heap.size,0,none⟩ 1 1 (PodLay0.cs z) rfl rfl (World.news_of_block (cs:=#[.string z.1.name,.string z.1.owner,.int .i64 z.1.prio,slV z.2.1,slV z.2.2.1,slV z.2.2.2.1,slV z.2.2.2.2,.string z.1.key,.int .i64 z.1.most,.string z.1.node,.bool z.1.hold]) (t:=42) (fr:=(0,0)) (heap_alloc_new w1 _)) (qM z) (by decide) (by unfold maxLen;omega) (by omega) (by simp;omega) (w1.heap.size+1) (by simp) ?_;intro gg cap1 w2 hown1 hgrow hat hlt1)
      have Uv:=lH (jkx (n:=k+1) (cap:=cap1) HV.out KK.out H3.out HW.out (fun g h=>(Vk.out.lt g h).2) hgrow hat);have VQ:=lH ((HB.out.trans ((Below.mono KK.out hbase).trans (Below.mono (ja w1 _) (by omega)))).grown hgrow (by simp;omega) (fun j hj=>(Vk.out.lt j hj).1));go_wp2;go_roundw
      case rel=>exact⟨k+1,by omega,by go_num,lx++[z],by rw[List.map_append,HX.out,zI HN.out,←HZ.out];rfl,Own.snoc hown1 (by rw[HT.out]) HO.out.2 trivial,Uv.out,VQ.out⟩
      case measure=>simp[intOf];omega
    · have HK:=lH (show l.take k=l by rw[List.take_of_length_le (by rw[HL.out];omega)]);have Ub:=lH (show Jn wr u3 l by have:=qV HO.out (fun z hz=>(HV.out z hz).1);rw[HX.out,HK.out] at this;exact this);clear hlx ho hv hB;go_wp2;go_ret;exact⟨_,rfl,Ub.out,HB.out⟩
theorem jnj {v:Value} {l:List Pd} {w:World} (h:Jn w v l) (hlow:∀n ∈ l,JN n) (hlen:l.length≤1000) :
 Calls Tryz.prog 27 #[v] w fun e w'=>∃v,e=.returned v∧Jn w' v l∧Kept w w':=by
 obtain⟨a,cap,rfl,_,_,hr⟩:=h;exact jiO a _ cap l w hr hlow hlen
def jf3 (w:World):Lay PX:={ m:=11,cs:=PodLay0.cs,fine:=At4 w,len:=fun _=>rfl,one:=PodLay0.one,pos:=by decide }
theorem jfd {H:Type} {enc:TypeId×Value→H} {w:World} {base fuel:Nat} {sp:Nat→Bool} {held:Bool} {cs:List Value} {x:DataW H×List MemPlace} (h:DataW.trod enc Tryz.prog w base sp held fuel 52 cs=some x) :
 ∃a:PX,cs=(jf3 w).cs a∧(jf3 w).fine a:=by
 obtain⟨n,v1,v2,v3,v4,e,hat⟩:=jgF h;obtain⟨b1,n1,d1,b2,n2,d2,b3,n3,d3,b4,n4,d4,rfl,rfl,rfl,rfl⟩:=hat.spelt;exact⟨(n,(b1,n1,d1),(b2,n2,d2),(b3,n3,d3),(b4,n4,d4)),e,hat⟩
theorem jfo {H:Type} {enc:TypeId×Value→H} {w:World} {base fuel:Nat} {sp:Nat→Bool} {held:Bool} {v:Value} {x:DataW H×List MemPlace} (h:DataW.trod enc Tryz.prog w base sp held fuel 23 [v]=some x):∃l,Jn w v l:=by
 obtain⟨l,a,cap,rfl,h1,h2,h3⟩:=zJ (jf3 w) Tryz.underlying23 jhu (fun _ _ _ h=>jfd h) h;obtain⟨g0,g1,g2,g3⟩:=h3;refine⟨l.map (fun z=>z.1),a,cap,by rw[List.length_map],by rw[List.length_map];exact h1,h2,rfl,by rw[List.length_map];exact g1,?_⟩;rw[List.length_map];rcases g3 with g3 | ⟨b,off,rfl,hb,hc⟩
 · exact .inl g3
 · refine .inr ⟨b,off,rfl,hb,fun i n hi=>?_⟩;rw[List.getElem?_map] at hi;obtain⟨z,hz,rfl⟩:=Option.map_eq_some_iff.1 hi;exact⟨slV z.2.1,slV z.2.2.1,slV z.2.2.2.1,slV z.2.2.2.2,hc i z 0 _ hz rfl,hc i z 1 _ hz rfl,hc i z 2 _ hz rfl,hc i z 3 _ hz rfl,hc i z 4 _ hz rfl,hc i z 5 _ hz rfl,hc i z 6 _ hz rfl,hc i z 7 _ hz rfl,hc i z 8 _ hz rfl,hc i z 9 _ hz rfl,hc i z 10 _ hz rfl,g2 z (List.mem_of_getElem? hz)⟩
end Go.Proofs.YtibepooajeakfaaGreat
