/- What serves all packages,and package by package the contracts of the functions that the law calls. -/
import Derived.Test.YthmddloeggdohaaGreatDoorG0
import Derived.Test.YthmddloeggdohaaGreatDoorG1
import Derived.Test.YthmddloeggdohaaGreatDoorG2
import Derived.Test.YthmddloeggdohaaGreatDoorG3
import Derived.Test.YthmddloeggdohaaGreatDoorG4
import Derived.Handy
import Derived.Deep.AppendSrc
import Derived.Deep.DeepAppendWide
set_option linter.unusedVariables false
set_option maxRecDepth 100000
set_option maxHeartbeats 25600000
namespace Go.Proofs.YthmddloeggdohaaGreatDoor
open Go.RowKit
structure Pd where
 name:ByteArray
 owner:ByteArray
 prio:Int
 need:Vec.V
 labels:PL
 sel:TL
 tols:NL
 key:ByteArray
 most:Int
 node:ByteArray
 hold:Bool
def Pd.zero:Pd:=⟨ByteArray.empty,ByteArray.empty,0,[],[],[],[],ByteArray.empty,0,ByteArray.empty,false⟩
abbrev JQ (n:Pd) (v1 v2 v3 v4:Value):Value:=.agg #[.string n.name,.string n.owner,.int .i64 n.prio,v1,v2,v3,v4,.string n.key,.int .i64 n.most,.string n.node,.bool n.hold]
structure zl (w:World) (v1 v2 v3 v4:Value) (n:Pd):Prop where
 name:n.name.size≤maxLen
 owner:n.owner.size≤maxLen
 key:n.key.size≤maxLen
 node:n.node.size≤maxLen
 prio:-9223372036854775808≤n.prio∧n.prio≤9223372036854775807
 most:-9223372036854775808≤n.most∧n.most≤9223372036854775807
 need:Vec.Reads w v1 n.need
 labels:Reads js w v2 n.labels
 sel:Reads jL w v3 n.sel
 tols:Reads jq w v4 n.tols
theorem zl.kept {w w':World} {v1 v2 v3 v4:Value} {n:Pd} (h:zl w v1 v2 v3 v4 n) (k:Kept w w'):zl w' v1 v2 v3 v4 n:=⟨h.name,h.owner,h.key,h.node,h.prio,h.most,h.need.kept k,h.labels.kept k,h.sel.kept k,h.tols.kept k⟩
def jf7 (w:World) (v:Value) (n:Pd):Prop:=∃v1 v2 v3 v4,v=JQ n v1 v2 v3 v4∧zl w v1 v2 v3 v4 n
theorem jf7.kept {w w':World} {v:Value} {n:Pd} (h:jf7 w v n) (k:Kept w w'):jf7 w' v n:=by
 obtain⟨v1,v2,v3,v4,e,h⟩:=h;exact⟨v1,v2,v3,v4,e,h.kept k⟩
def zP (s:ByteArray):Bool:=Zj s||isName s
def Zc (x y:ByteArray):Int:=if isName x=true∧zP y=true then 0 else 3
def jb3 (p:Int) (b:Bool):Bool:=decide (p < -1)||(decide (1000000<p)||(decide (p=-1) != b))
def ZW (p:Int) (b:Bool):Int:=if jb3 p b=true then 1 else 0
def qN (k:ByteArray) (m:Int):Bool:=if Zj k=true then decide (m≠0) else decide (m<1)||decide (128<m)
def zG (k:ByteArray) (m:Int):Int:=if zP k=false then 3 else if qN k m=true then 1 else 0
def ZD (x:ByteArray):Int:=if zP x=true then 0 else 3
def orL:List Int→Int
 | []=>0
 | x::t=>if x≠0 then x else orL t
def jE (n:Pd):List Int:=[Zc n.name n.owner,ZW n.prio n.hold,Vec.jm n.need,zE n.labels,zb n.sel,zw n.tols,zG n.key n.most,ZD n.node]
def zV (n:Pd):Int:=orL (jE n)
theorem jiu (b len:Nat) (l:List Int) (w:World) (hl:l.length=len) (hm:len≤1000) (hc:∀(i:Nat) (x:Int),l[i]?=some x→w.cell? ⟨b,i,none⟩=some (.int .i64 x)) :
 Calls Tryz.prog 140 #[.slice (some ⟨b,0,none⟩) len len] w fun e w'=>e=.returned (.int .i64 (orL l))∧w=w':=by
 have HC:=lH hc;have HL:=lH hl;clear hc hl;go_enter Tryz.func140,Tryz.ntmps140;go_wp2;go_loopw [8] (fun i wr=>∃k:Nat,k≤len∧i=.int .i64 k∧orL (l.drop k)=orL l∧w=wr) (fun i _=>len-(intOf i).toNat)
 case atStart=>exact⟨0,Nat.zero_le _,rfl,rfl,rfl⟩
 case round =>
  obtain⟨k,hk,rfl,hrest,rfl⟩:=hrel;have HS:=lH hrest;by_cases hlt:k<len
  · have hkl:k<l.length:=by rw[HL.out];exact hlt
    obtain⟨x,hx⟩:∃x,l[k]=x:=⟨_,rfl⟩
    have hx':l[k]?=some x:=by rw[List.getElem?_eq_getElem hkl,hx]
    have c0:=HC.out k x hx';have HD:=lH (show l.drop k=x::l.drop (k+1) by rw[List.drop_eq_getElem_cons hkl,hx]);clear hrest hx hx' hkl;by_cases z:x=0
    · subst z;have HE:=lH (show orL (l.drop k)=orL (l.drop (k+1)) by rw[HD.out];rfl);go_wp2;go_roundw
      case rel=>exact⟨k+1,by omega,by go_num,HE.out.symm.trans HS.out,trivial⟩
      case measure=>simp[intOf];omega
    · have HE:=lH (show orL l=x by rw[←HS.out,HD.out];show (if x≠0 then x else _)=x;rw[if_pos z]);have z':(x != 0)=true:=by simpa using z
      clear z;go_wp2;go_ret;exact⟨jb HE.out.symm,rfl⟩
  · have HE:=lH (show orL l=0 by rw[←hrest,List.drop_of_length_le (by rw[HL.out];omega)];rfl);clear hrest;go_wp2;go_ret;exact⟨jb HE.out.symm,rfl⟩
theorem jaD (s:ByteArray) (w:World) (hs:s.size≤maxLen) :
 Calls Tryz.prog 272 #[.string s] w fun e w'=>e=.returned (.bool (zP s))∧w=w':=by
 obtain⟨q,hq⟩:∃q,(s.toList==([]:List UInt8))=q:=⟨_,rfl⟩
 obtain⟨r,hr⟩:∃r,isName s=r:=⟨_,rfl⟩
 have HV:=lH (show zP s=(q||r) by unfold zP;rw[ZY,hq,hr]);have HR:=lH hr;clear hr
 cases q with
 | true =>
  go_enter Tryz.func272,Tryz.ntmps272;go_wp2;go_ret;exact⟨jh HV.out.symm,rfl⟩
 | false =>
  go_enter Tryz.func272,Tryz.ntmps272;go_wp2_with (go_at_call 219;refine(Vec.jaF hs HR.out).mono ?_;rintro e w' ⟨rfl,rfl⟩)
  go_ret;exact⟨jh HV.out.symm,rfl⟩
theorem jei (x y:ByteArray) (w:World) (hx:x.size≤maxLen) (hy:y.size≤maxLen) :
 Calls Tryz.prog 233 #[.string x,.string y] w fun e w'=>e=.returned (.int .i64 (Zc x y))∧w=w':=by
 obtain⟨r,hr⟩:∃r,isName x=r:=⟨_,rfl⟩
 obtain⟨q,hq⟩:∃q,zP y=q:=⟨_,rfl⟩
 have HV:=lH (show Zc x y=if r=true∧q=true then 0 else 3 by unfold Zc;rw[hr,hq]);have HN:=lH (show Calls Tryz.prog 272 #[.string y] w _ from jaD y w hy);rw[hq] at HN;have HR:=lH hr;have HX:=lH hx;clear hr hq hx hy
 cases r with
 | false =>
  go_enter Tryz.func233,Tryz.ntmps233;go_wp2_with (go_at_call 219;refine(Vec.jaF HX.out HR.out).mono ?_;rintro e w' ⟨rfl,rfl⟩)
  go_ret;exact⟨jb HV.out.symm,rfl⟩
 | true =>
  cases q with
  | false =>
   go_enter Tryz.func233,Tryz.ntmps233;go_wp2_with fail
   refine(Vec.jaF HX.out HR.out).mono ?_;rintro e w' ⟨rfl,rfl⟩;go_wp2_with (go_at_call 272;refine HN.out.mono ?_;rintro e w' ⟨rfl,rfl⟩)
   go_ret;exact⟨jb HV.out.symm,rfl⟩
  | true =>
   go_enter Tryz.func233,Tryz.ntmps233;go_wp2_with fail
   refine(Vec.jaF HX.out HR.out).mono ?_;rintro e w' ⟨rfl,rfl⟩;go_wp2_with (go_at_call 272;refine HN.out.mono ?_;rintro e w' ⟨rfl,rfl⟩)
   go_ret;exact⟨jb HV.out.symm,rfl⟩
theorem jfm (p:Int) (b:Bool) (w:World) :
 Calls Tryz.prog 234 #[.int .i64 p,.bool b] w fun e w'=>e=.returned (.int .i64 (ZW p b))∧w=w':=by
 obtain⟨x,hx⟩:∃x,decide (p < -1)=x:=⟨_,rfl⟩
 obtain⟨y,hy⟩:∃x,decide (1000000<p)=x:=⟨_,rfl⟩
 obtain⟨z,hz⟩:∃x,decide (p=-1)=x:=⟨_,rfl⟩
 have hz':(p==-1)=z:=hz;have HV:=lH (show ZW p b=if (x||(y||(z != b)))=true then 1 else 0 by unfold ZW jb3;rw[hx,hy,hz])
 cases x with
 | true =>
  have h1:p < -1:=of_decide_eq_true hx;clear hx hy hz;go_enter Tryz.func234,Tryz.ntmps234;go_wp2;go_ret;exact⟨jb HV.out.symm,rfl⟩
 | false =>
  have h1:-1≤p:=by have:=of_decide_eq_false hx;omega
  cases y with
  | true =>
   have h2:1000000<p:=of_decide_eq_true hy;clear hx hy hz;go_enter Tryz.func234,Tryz.ntmps234;go_wp2;go_ret;exact⟨jb HV.out.symm,rfl⟩
  | false =>
   have h2:p≤1000000:=by have:=of_decide_eq_false hy;omega
   clear hx hy hz
   cases z<;>cases b <;>
   (go_enter Tryz.func234,Tryz.ntmps234
    go_wp2;go_ret;exact⟨jb HV.out.symm,rfl⟩)
theorem jdM (k:ByteArray) (m:Int) (w:World) (hk:k.size≤maxLen) :
 Calls Tryz.prog 235 #[.string k,.int .i64 m] w fun e w'=>e=.returned (.int .i64 (zG k m))∧w=w':=by
 obtain⟨q,hq⟩:∃q,zP k=q:=⟨_,rfl⟩
 obtain⟨r,hr⟩:∃r,Zj k=r:=⟨_,rfl⟩
 have hr':(k.toList==([]:List UInt8))=r:=by rw[←ZY];exact hr
 have HN:=lH (show Calls Tryz.prog 272 #[.string k] w _ from jaD k w hk);rw[hq] at HN;have HV:=lH (show zG k m=if q=false then 3 else if (if r=true then decide (m≠0) else decide (m<1)||decide (128<m))=true then 1 else 0 by unfold zG qN;rw[hq,hr]);clear hq hr hk
 cases q with
 | false =>
  go_enter Tryz.func235,Tryz.ntmps235;go_wp2_with (go_at_call 272;refine HN.out.mono ?_;rintro e w' ⟨rfl,rfl⟩)
  go_ret;exact⟨jb HV.out.symm,rfl⟩
 | true =>
  cases r with
  | true =>
   by_cases z:m=0
   · subst z;go_enter Tryz.func235,Tryz.ntmps235;go_wp2_with (go_at_call 272;refine HN.out.mono ?_;rintro e w' ⟨rfl,rfl⟩)
     go_ret;exact⟨jb HV.out.symm,rfl⟩
   · have z':(m != 0)=true:=by simpa using z
     have HW:=lH (show zG k m=1 by rw[HV.out];simp[z]);clear z;go_enter Tryz.func235,Tryz.ntmps235;go_wp2_with (go_at_call 272;refine HN.out.mono ?_;rintro e w' ⟨rfl,rfl⟩)
     go_ret;exact⟨jb HW.out.symm,rfl⟩
  | false =>
   by_cases z:m<1
   · have HW:=lH (show zG k m=1 by rw[HV.out];simp[z]);go_enter Tryz.func235,Tryz.ntmps235;go_wp2_with (go_at_call 272;refine HN.out.mono ?_;rintro e w' ⟨rfl,rfl⟩)
     go_ret;exact⟨jb HW.out.symm,rfl⟩
   · by_cases y:128<m
     · have HW:=lH (show zG k m=1 by rw[HV.out];simp[y]);have z':1≤m:=by omega
       clear z;go_enter Tryz.func235,Tryz.ntmps235;go_wp2_with (go_at_call 272;refine HN.out.mono ?_;rintro e w' ⟨rfl,rfl⟩)
       go_ret;exact⟨jb HW.out.symm,rfl⟩
     · have HW:=lH (show zG k m=0 by rw[HV.out];simp[z,y]);have z':1≤m:=by omega
       have y':m≤128:=by omega
       clear z y;go_enter Tryz.func235,Tryz.ntmps235;go_wp2_with (go_at_call 272;refine HN.out.mono ?_;rintro e w' ⟨rfl,rfl⟩)
       go_ret;exact⟨jb HW.out.symm,rfl⟩
theorem jfl (x:ByteArray) (w:World) (hx:x.size≤maxLen) :
 Calls Tryz.prog 236 #[.string x] w fun e w'=>e=.returned (.int .i64 (ZD x))∧w=w':=by
 obtain⟨q,hq⟩:∃q,zP x=q:=⟨_,rfl⟩
 have HN:=lH (show Calls Tryz.prog 272 #[.string x] w _ from jaD x w hx);rw[hq] at HN;have HV:=lH (show ZD x=if q=true then 0 else 3 by unfold ZD;rw[hq]);clear hq hx
 cases q <;>
 (go_enter Tryz.func236,Tryz.ntmps236
  go_wp2_with (go_at_call 272;refine HN.out.mono ?_;rintro e w' ⟨rfl,rfl⟩)
  go_ret;exact⟨jb HV.out.symm,rfl⟩)
theorem jhI (W:World) (x1 x2 x3 x4 x5 x6 x7 x8:Int) (T:TypeId) (i:Nat) (x:Int) (hi:([x1,x2,x3,x4,x5,x6,x7,x8]:List Int)[i]?=some x) :
 (W.alloc (.cells #[.int .i64 x1,.int .i64 x2,.int .i64 x3,.int .i64 x4,.int .i64 x5,.int .i64 x6,.int .i64 x7,.int .i64 x8] T)).cell? ⟨W.heap.size,i,none⟩=some (.int .i64 x):=by
 refine(jg W (.int .i64 x1) [.int .i64 x2,.int .i64 x3,.int .i64 x4,.int .i64 x5,.int .i64 x6,.int .i64 x7,.int .i64 x8] T _ (Kept.refl _)).at_ i _ ?_
 match i,hi with
 | 0,h=>simpa using h
 | 1,h=>simpa using h
 | 2,h=>simpa using h
 | 3,h=>simpa using h
 | 4,h=>simpa using h
 | 5,h=>simpa using h
 | 6,h=>simpa using h
 | 7,h=>simpa using h
 | j+8,h=>simp at h
theorem jdh (n:Pd) (v1 v2 v3 v4:Value) (w:World) (h:zl w v1 v2 v3 v4 n) :
 Calls Tryz.prog 180 #[JQ n v1 v2 v3 v4] w (Say (.int .i64 (zV n)) w):=by
 obtain⟨W0,hW0⟩:∃W0,w.alloc (.cells #[.string n.name,.string n.owner,.int .i64 n.prio,v1,v2,v3,v4,.string n.key,.int .i64 n.most,.string n.node,.bool n.hold] 62)=W0:=⟨_,rfl⟩
 have hk0:Kept w W0:=by rw[←hW0];exact ja _ _
 have HC:=lH (show ∀W,Kept W0 W→W.cell? ⟨w.heap.size,0,none⟩=some (.string n.name)∧W.cell? ⟨w.heap.size,1,none⟩=some (.string n.owner)∧W.cell? ⟨w.heap.size,2,none⟩=some (.int .i64 n.prio)∧W.cell? ⟨w.heap.size,3,none⟩=some (v1)∧W.cell? ⟨w.heap.size,4,none⟩=some (v2)∧W.cell? ⟨w.heap.size,5,none⟩=some (v3)∧W.cell? ⟨w.heap.size,6,none⟩=some (v4)∧W.cell? ⟨w.heap.size,7,none⟩=some (.string n.key)∧W.cell? ⟨w.heap.size,8,none⟩=some (.int .i64 n.most)∧W.cell? ⟨w.heap.size,9,none⟩=some (.string n.node)∧W.cell? ⟨w.heap.size,10,none⟩=some (.bool n.hold) from fun W k=>by
  have c:=jg w (.string n.name) [.string n.owner,.int .i64 n.prio,v1,v2,v3,v4,.string n.key,.int .i64 n.most,.string n.node,.bool n.hold] 62 W (by rw[hW0];exact k);exact⟨c.at_ 0 _ rfl,c.at_ 1 _ rfl,c.at_ 2 _ rfl,c.at_ 3 _ rfl,c.at_ 4 _ rfl,c.at_ 5 _ rfl,c.at_ 6 _ rfl,c.at_ 7 _ rfl,c.at_ 8 _ rfl,c.at_ 9 _ rfl,c.at_ 10 _ rfl⟩)
 have E1:=lH (fun W=>jei n.name n.owner W h.name h.owner);have E2:=lH (fun W=>jfm n.prio n.hold W);have E3:=lH (fun W (k:Kept W0 W)=>Vec.jbJ (h.need.kept (hk0.trans k)) rfl);have E4:=lH (fun W (k:Kept W0 W)=>jbJ (h.labels.kept (hk0.trans k)) rfl);have E5:=lH (fun W (k:Kept W0 W)=>jeZ (h.sel.kept (hk0.trans k)) rfl);have E6:=lH (fun W (k:Kept W0 W)=>jm0 (h.tols.kept (hk0.trans k)) rfl);have E7:=lH (fun W=>jdM n.key n.most W h.key);have E8:=lH (fun W=>jfl n.node W h.node);have HK0:=lH hk0;obtain⟨x1,hx1⟩:∃x,Zc n.name n.owner=x:=⟨_,rfl⟩
 rw[hx1] at E1;obtain⟨x2,hx2⟩:∃x,ZW n.prio n.hold=x:=⟨_,rfl⟩
 rw[hx2] at E2;obtain⟨x3,hx3⟩:∃x,Vec.jm n.need=x:=⟨_,rfl⟩
 rw[hx3] at E3;obtain⟨x4,hx4⟩:∃x,zE n.labels=x:=⟨_,rfl⟩
 rw[hx4] at E4;obtain⟨x5,hx5⟩:∃x,zb n.sel=x:=⟨_,rfl⟩
 rw[hx5] at E5;obtain⟨x6,hx6⟩:∃x,zw n.tols=x:=⟨_,rfl⟩
 rw[hx6] at E6;obtain⟨x7,hx7⟩:∃x,zG n.key n.most=x:=⟨_,rfl⟩
 rw[hx7] at E7;obtain⟨x8,hx8⟩:∃x,ZD n.node=x:=⟨_,rfl⟩
 rw[hx8] at E8;have HV:=lH (show zV n=orL [x1,x2,x3,x4,x5,x6,x7,x8] by unfold zV jE;rw[hx1,hx2,hx3,hx4,hx5,hx6,hx7,hx8]);have ORC:=lH (fun W=>jhI W x1 x2 x3 x4 x5 x6 x7 x8 32);clear hx1 hx2 hx3 hx4 hx5 hx6 hx7 hx8 h hk0;obtain⟨c0,c1,c2,c3,c4,c5,c6,c7,c8,c9,c10⟩:=HC.out _ (Kept.refl _);unfold JQ;go_enter Tryz.func180,Tryz.ntmps180;go_wp2;try rw[hW0]
 clear hW0;go_region_held3 (fun W=>W.cell? ⟨w.heap.size,0,none⟩=some (.string n.name)∧W.cell? ⟨w.heap.size,1,none⟩=some (.string n.owner)∧W.cell? ⟨w.heap.size,2,none⟩=some (.int .i64 n.prio)∧W.cell? ⟨w.heap.size,3,none⟩=some (v1)∧W.cell? ⟨w.heap.size,4,none⟩=some (v2)∧W.cell? ⟨w.heap.size,5,none⟩=some (v3)∧W.cell? ⟨w.heap.size,6,none⟩=some (v4)∧W.cell? ⟨w.heap.size,7,none⟩=some (.string n.key)∧W.cell? ⟨w.heap.size,8,none⟩=some (.int .i64 n.most)∧W.cell? ⟨w.heap.size,9,none⟩=some (.string n.node)∧W.cell? ⟨w.heap.size,10,none⟩=some (.bool n.hold))
  (first | exact HC.out _ (Kept.drew _) | exact HC.out _ K3.out | exact HC.out _ K4.out | exact HC.out _ K5.out | exact HC.out _ K6.out | exact HC.out _ (K6.out.trans (ja _ _)))
  (first | (go_at_call 233;refine(E1.out _).mono ?_;rintro e1 w1 ⟨rfl,rfl⟩)
         | (go_at_call 234;refine(E2.out _).mono ?_;rintro e2 w2 ⟨rfl,rfl⟩)
         | (go_at_call 220;refine(E3.out _ (Kept.drew _)).mono ?_;rintro e3 w3 ⟨rfl,k3⟩;have K3:=lH ((Kept.drew _).trans k3);clear k3)
         | (go_at_call 213;refine(E4.out _ K3.out).mono ?_;rintro e4 w4 ⟨rfl,k4⟩;have K4:=lH (K3.out.trans k4);clear k4)
         | (go_at_call 227;refine(E5.out _ K4.out).mono ?_;rintro e5 w5 ⟨rfl,k5⟩;have K5:=lH (K4.out.trans k5);clear k5)
         | (go_at_call 232;refine(E6.out _ K5.out).mono ?_;rintro e6 w6 ⟨rfl,k6⟩;have K6:=lH (K5.out.trans k6);clear k6)
         | (go_at_call 235;refine(E7.out _).mono ?_;rintro e7 w7 ⟨rfl,rfl⟩)
         | (go_at_call 236;refine(E8.out _).mono ?_;rintro e8 w8 ⟨rfl,rfl⟩)
         | (go_at_call 140;refine(jiu _ 8 [x1,x2,x3,x4,x5,x6,x7,x8] _ rfl (by decide) (ORC.out _)).mono ?_;rintro e9 w9 ⟨rfl,rfl⟩))
 go_wp2;go_ret;exact⟨jb HV.out.symm,HK0.out.trans (K6.out.trans (ja _ _))⟩
structure Nod where
 name:ByteArray
 cap:Vec.V
 labels:PL
 taints:NL
 cordon:Bool
def Nod.zero:Nod:=⟨ByteArray.empty,[],[],[],false⟩
abbrev Jy (n:Nod) (v1 v2 v3:Value):Value:=.agg #[.string n.name,v1,v2,v3,.bool n.cordon]
structure Jo (w:World) (v1 v2 v3:Value) (n:Nod):Prop where
 size:n.name.size≤maxLen
 cap:Vec.Reads w v1 n.cap
 labels:Reads js w v2 n.labels
 taints:Reads jq w v3 n.taints
theorem Jo.kept {w w':World} {v1 v2 v3:Value} {n:Nod} (h:Jo w v1 v2 v3 n) (k:Kept w w'):Jo w' v1 v2 v3 n:=⟨h.size,h.cap.kept k,h.labels.kept k,h.taints.kept k⟩
def jcY (w:World) (v:Value) (n:Nod):Prop:=∃v1 v2 v3,v=Jy n v1 v2 v3∧Jo w v1 v2 v3 n
theorem jcY.kept {w w':World} {v:Value} {n:Nod} (h:jcY w v n) (k:Kept w w'):jcY w' v n:=by
 obtain⟨v1,v2,v3,e,h⟩:=h;exact⟨v1,v2,v3,e,h.kept k⟩
def jU (n:Nod):Int:=if isName n.name=false then 3 else if Vec.jm n.cap≠0 then Vec.jm n.cap else if zE n.labels≠0 then zE n.labels else Jg n.taints
def or3 (a b c:Int):Int:=if a≠0 then a else if b≠0 then b else c
theorem jej (b:Nat) (x y z:Int) (w:World) (c0:w.cell? ⟨b,0,none⟩=some (.int .i64 x)) (c1:w.cell? ⟨b,1,none⟩=some (.int .i64 y)) (c2:w.cell? ⟨b,2,none⟩=some (.int .i64 z)) :
 Calls Tryz.prog 140 #[.slice (some ⟨b,0,none⟩) 3 3] w fun e w'=>e=.returned (.int .i64 (or3 x y z))∧w=w':=by
 by_cases hx:x=0
 · subst hx;by_cases hy:y=0
   · subst hy;by_cases hz:z=0
     · subst hz;have HV:=lH (show or3 0 0 0=0 from rfl);go_enter Tryz.func140,Tryz.ntmps140;go_wp2;refine wp_loop_rounds 4 ?_;iterate 4
        rw[rounds_succ];go_wp2
       go_ret;exact⟨jb HV.out.symm,rfl⟩
     · have HV:=lH (show or3 0 0 z=z from rfl);have hz':(z != 0)=true:=by simpa using hz
       clear hz;go_enter Tryz.func140,Tryz.ntmps140;go_wp2;refine wp_loop_rounds 3 ?_;iterate 3
        rw[rounds_succ];go_wp2
       go_ret;exact⟨jb HV.out.symm,rfl⟩
   · have HV:=lH (show or3 0 y z=y by unfold or3;rw[if_neg (by decide),if_pos hy]);have hy':(y != 0)=true:=by simpa using hy
     clear hy;go_enter Tryz.func140,Tryz.ntmps140;go_wp2;refine wp_loop_rounds 2 ?_;iterate 2
      rw[rounds_succ];go_wp2
     go_ret;exact⟨jb HV.out.symm,rfl⟩
 · have HV:=lH (show or3 x y z=x by unfold or3;rw[if_pos hx]);have hx':(x != 0)=true:=by simpa using hx
   clear hx;go_enter Tryz.func140,Tryz.ntmps140;go_wp2;refine wp_loop_rounds 1 ?_;rw[rounds_succ];go_wp2;go_ret;exact⟨jb HV.out.symm,rfl⟩
theorem jdA (n:Nod) (v1 v2 v3:Value) (w:World) (h:Jo w v1 v2 v3 n) :
 Calls Tryz.prog 167 #[Jy n v1 v2 v3] w (Say (.int .i64 (jU n)) w):=by
 by_cases h1:isName n.name=true
 · have HV:=lH (show jU n=or3 (Vec.jm n.cap) (zE n.labels) (Jg n.taints) by unfold jU;rw[if_neg (by rw[h1];decide)];rfl);obtain⟨W0,hW0⟩:∃W0,w.alloc (.cells #[.string n.name,v1,v2,v3,.bool n.cordon] 42)=W0:=⟨_,rfl⟩
   have hk0:Kept w W0:=by rw[←hW0];exact ja _ _
   have HC:=lH (show ∀W,Kept W0 W→W.cell? ⟨w.heap.size,0,none⟩=some (.string n.name)∧W.cell? ⟨w.heap.size,1,none⟩=some v1∧W.cell? ⟨w.heap.size,2,none⟩=some v2∧W.cell? ⟨w.heap.size,3,none⟩=some v3 from fun W k=>by
    have hh:=w.alloc_heap_new (.cells #[.string n.name,v1,v2,v3,.bool n.cordon] 42);rw[hW0] at hh;exact⟨cell_later k (by rw[Lib.cell_of_heap hh];rfl),cell_later k (by rw[Lib.cell_of_heap hh];rfl),cell_later k (by rw[Lib.cell_of_heap hh];rfl),cell_later k (by rw[Lib.cell_of_heap hh];rfl)⟩)
   have H1:=lH (fun W (k:Kept W0 W)=>Vec.jbJ (h.cap.kept (hk0.trans k)) rfl);have H2:=lH (fun W (k:Kept W0 W)=>jbJ (h.labels.kept (hk0.trans k)) rfl);have H3:=lH (fun W (k:Kept W0 W)=>jni (h.taints.kept (hk0.trans k)) rfl);have hsz:=h.size;have HK0:=lH hk0;obtain⟨x1,hx1⟩:∃x,Vec.jm n.cap=x:=⟨_,rfl⟩
   obtain⟨x2,hx2⟩:∃x,zE n.labels=x:=⟨_,rfl⟩
   obtain⟨x3,hx3⟩:∃x,Jg n.taints=x:=⟨_,rfl⟩
   rw[hx1] at HV H1;rw[hx2] at HV H2;rw[hx3] at HV H3;obtain⟨c0,c1,c2,c3⟩:=HC.out _ (Kept.refl _);clear hx1 hx2 hx3 h hk0;unfold Jy;go_enter Tryz.func167,Tryz.ntmps167;go_wp2_with fail
   refine(Vec.jaF hsz h1).mono ?_;rintro e w' ⟨rfl,rfl⟩;try rw[hW0]
   clear hW0;go_wp2;go_region_held3 (fun W=>W.cell? ⟨w.heap.size,1,none⟩=some v1∧W.cell? ⟨w.heap.size,2,none⟩=some v2∧W.cell? ⟨w.heap.size,3,none⟩=some v3)
    (first | exact(HC.out _ (Kept.drew _)).2 | exact(HC.out _ K1.out).2 | exact(HC.out _ K2.out).2 | exact(HC.out _ K3.out).2 | exact(HC.out _ (K3.out.trans (ja _ _))).2)
    (first | (go_at_call 220;refine(H1.out _ (Kept.drew _)).mono ?_;rintro e1 w1 ⟨rfl,k1⟩;have K1:=lH ((Kept.drew _).trans k1);clear k1)
           | (go_at_call 213;refine(H2.out _ K1.out).mono ?_;rintro e2 w2 ⟨rfl,k2⟩;have K2:=lH (K1.out.trans k2);clear k2)
           | (go_at_call 218;refine(H3.out _ K2.out).mono ?_;rintro e3 w3 ⟨rfl,k3⟩;have K3:=lH (K2.out.trans k3);clear k3)
           | (go_at_call 140;refine(jej _ x1 x2 x3 _ (by go_simp) (by go_simp) (by go_simp)).mono ?_;rintro e4 w4 ⟨rfl,rfl⟩))
   go_wp2;go_ret;exact⟨jb HV.out.symm,HK0.out.trans (K3.out.trans (ja _ _))⟩
 · have h1:isName n.name=false:=by simpa using h1
   have HV:=lH (show jU n=3 by unfold jU;rw[if_pos h1]);have hsz:=h.size;clear h;unfold Jy;go_enter Tryz.func167,Tryz.ntmps167;go_wp2_with (go_at_call 219;refine(Vec.jaF hsz h1).mono ?_;rintro e w' ⟨rfl,rfl⟩)
   go_ret;exact⟨jb HV.out.symm,ja _ _⟩
theorem jhp (n:Nod) (v1 v2 v3:Value) (w:World) (h:Jo w v1 v2 v3 n) :
 Calls Tryz.prog 59 #[Jy n v1 v2 v3] w (Say (.int .i64 (jU n)) w):=by
 have hsz:=h.size;have HH:=lH h;by_cases h1:isName n.name=true
 · obtain⟨x1,hx1⟩:∃x,Vec.jm n.cap=x:=⟨_,rfl⟩
   obtain⟨x2,hx2⟩:∃x,zE n.labels=x:=⟨_,rfl⟩
   obtain⟨x3,hx3⟩:∃x,Jg n.taints=x:=⟨_,rfl⟩
   have HX1:=lH hx1;have HX2:=lH hx2;have HX3:=lH hx3;have HV0:=lH (show jU n=if x1≠0 then x1 else if x2≠0 then x2 else x3 by unfold jU;rw[if_neg (by rw[h1];decide),hx1,hx2,hx3]);clear hx1 hx2 hx3 h;by_cases z1:x1=0
   · subst z1;by_cases z2:x2=0
     · subst z2;have HV:=lH (show jU n=x3 from HV0.out);unfold Jy;go_enter Tryz.func59,Tryz.ntmps59;go_wp2_with fail
       refine(Vec.Xp hsz h1).mono ?_;rintro e w' ⟨rfl,rfl⟩;go_wp2_with fail
       have K:=lH (ja w (.cells #[.string n.name,v1,v2,v3,.bool n.cordon] 89));have hh:=w.alloc_heap_new (.cells #[.string n.name,v1,v2,v3,.bool n.cordon] 89);have c2:(w.alloc (.cells #[.string n.name,v1,v2,v3,.bool n.cordon] 89)).cell? ⟨w.heap.size,2,none⟩=some v2:=by rw[Lib.cell_of_heap hh];rfl
       have c3:(w.alloc (.cells #[.string n.name,v1,v2,v3,.bool n.cordon] 89)).cell? ⟨w.heap.size,3,none⟩=some v3:=by rw[Lib.cell_of_heap hh];rfl
       clear hh;refine(Vec.Z1 (HH.out.cap.kept K.out) HX1.out).mono ?_;rintro e w1 ⟨rfl,k1⟩;have K:=lH (K.out.trans k1);have c2:=cell_later k1 c2;have c3:=cell_later k1 c3;clear k1;go_wp2_with fail
       refine(Z1 (HH.out.labels.kept K.out) HX2.out).mono ?_;rintro e w2 ⟨rfl,k2⟩;have K:=lH (K.out.trans k2);have c2:=cell_later k2 c2;have c3:=cell_later k2 c3;clear k2;go_wp2_with fail
       refine(ji9 (HH.out.taints.kept K.out) HX3.out).mono ?_;rintro e w3 ⟨rfl,k3⟩;have K:=lH (K.out.trans k3);clear k3;go_wp2;go_ret;exact⟨jb HV.out.symm,K.out⟩
     · have HV:=lH (show jU n=x2 by rw[HV0.out,if_neg (by decide),if_pos z2]);have z2':(x2 != 0)=true:=by simpa using z2
       clear z2;unfold Jy;go_enter Tryz.func59,Tryz.ntmps59;go_wp2_with fail
       refine(Vec.Xp hsz h1).mono ?_;rintro e w' ⟨rfl,rfl⟩;go_wp2_with fail
       have K:=lH (ja w (.cells #[.string n.name,v1,v2,v3,.bool n.cordon] 89));have hh:=w.alloc_heap_new (.cells #[.string n.name,v1,v2,v3,.bool n.cordon] 89);have c2:(w.alloc (.cells #[.string n.name,v1,v2,v3,.bool n.cordon] 89)).cell? ⟨w.heap.size,2,none⟩=some v2:=by rw[Lib.cell_of_heap hh];rfl
       have c3:(w.alloc (.cells #[.string n.name,v1,v2,v3,.bool n.cordon] 89)).cell? ⟨w.heap.size,3,none⟩=some v3:=by rw[Lib.cell_of_heap hh];rfl
       clear hh;refine(Vec.Z1 (HH.out.cap.kept K.out) HX1.out).mono ?_;rintro e w1 ⟨rfl,k1⟩;have K:=lH (K.out.trans k1);have c2:=cell_later k1 c2;have c3:=cell_later k1 c3;clear k1;go_wp2_with fail
       refine(Z1 (HH.out.labels.kept K.out) HX2.out).mono ?_;rintro e w2 ⟨rfl,k2⟩;have K:=lH (K.out.trans k2);clear k2;go_wp2;go_ret;exact⟨jb HV.out.symm,K.out⟩
   · have HV:=lH (show jU n=x1 by rw[HV0.out,if_pos z1]);have z1':(x1 != 0)=true:=by simpa using z1
     clear z1;unfold Jy;go_enter Tryz.func59,Tryz.ntmps59;go_wp2_with fail
     refine(Vec.Xp hsz h1).mono ?_;rintro e w' ⟨rfl,rfl⟩;go_wp2_with fail
     have K:=lH (ja w (.cells #[.string n.name,v1,v2,v3,.bool n.cordon] 89));have hh:=w.alloc_heap_new (.cells #[.string n.name,v1,v2,v3,.bool n.cordon] 89);have c2:(w.alloc (.cells #[.string n.name,v1,v2,v3,.bool n.cordon] 89)).cell? ⟨w.heap.size,2,none⟩=some v2:=by rw[Lib.cell_of_heap hh];rfl
     have c3:(w.alloc (.cells #[.string n.name,v1,v2,v3,.bool n.cordon] 89)).cell? ⟨w.heap.size,3,none⟩=some v3:=by rw[Lib.cell_of_heap hh];rfl
     clear hh;refine(Vec.Z1 (HH.out.cap.kept K.out) HX1.out).mono ?_;rintro e w1 ⟨rfl,k1⟩;have K:=lH (K.out.trans k1);clear k1;go_wp2;go_ret;exact⟨jb HV.out.symm,K.out⟩
 · have h1:isName n.name=false:=by simpa using h1
   have HV:=lH (show jU n=3 by unfold jU;rw[if_pos h1]);clear h;unfold Jy;go_enter Tryz.func59,Tryz.ntmps59;go_wp2_with (go_at_call 98;refine(Vec.Xp hsz h1).mono ?_;rintro e w' ⟨rfl,rfl⟩)
   go_ret;exact⟨jb HV.out.symm,ja _ _⟩
def jls (b:UInt8):Bool:=b==58||b==33
theorem jlv:Jn []=0:=rfl
theorem Xx (b:UInt8) (t:List UInt8):Jn (b::t)=(if jls b=true then 1 else 0)+Jn t:=by
 unfold Jn Lib.countByte jls;rw[List.count_cons,List.count_cons];by_cases h1:b=58
 · subst h1;simp;omega
 · by_cases h2:b=33
   · subst h2;simp;omega
   · simp[h1,h2]
theorem jcw (b:UInt8) (t:List UInt8):Lib.hasPrefix (b::t) [45]=(b==45):=by
 unfold Lib.hasPrefix;simp only[List.isPrefixOf,Bool.and_true];exact Bool.beq_comm
theorem jmI {l:PL} (h:zE l=0):l.length≤8:=by
 unfold zE at h;split at h
 · cases h
 · omega
theorem jmd {l:TL} (h:zb l=0):l.length≤8:=by
 unfold zb at h;split at h
 · cases h
 · omega
theorem jbs:∀(x y:List UInt8),Jn (x++y)=Jn x+Jn y
 | [],y=>by simp[jlv]
 | b::t,y=>by rw[List.cons_append,Xx,Xx,jbs t y];omega
theorem ja6 {x:ByteArray} (h:isName x=true):Jn x.data.toList=0:=by
 have hn:=Zy h;unfold Jn Lib.countByte;rw[List.count_eq_zero.2 hn.1,List.count_eq_zero.2 hn.2.1]
theorem jeN {x y:ByteArray} (hx:isName x=true) (hy:isName y=true) :
 (44:UInt8) ∉ (zR (x,y)).data.toList∧ZB (zR (x,y)).data.toList=false∧JH (zR (x,y)).data.toList=(x,y):=by
 have e:(zR (x,y)).data.toList=x.data.toList++58::y.data.toList:=Zu x y 58;have nx:=Zy hx;have ny:=Zy hy;rw[e];refine⟨by simp[nx.2.2,ny.2.2],?_,?_⟩
 · unfold ZB;rw[JM _ nx.1,jao];simp[ny.1]
 · unfold JH;rw[JM _ nx.1,jZ,jZ]
theorem jai {x:ByteArray} (hx:isName x=true) (r:List UInt8):Lib.hasPrefix (x.data.toList++r) [45]=false:=by
 obtain⟨b,t,e,hb⟩:=X3 hx;rw[e,List.cons_append,jcw];simpa using (jar hb).2.2.2
theorem qZ {t:Int×ByteArray×ByteArray} (h:Ja t=0) :
 (44:UInt8) ∉ (zK t).data.toList∧JW (zK t).data.toList=false∧zC (zK t).data.toList=t∧1≤t.1∧t.1≤4:=by
 obtain⟨o,x,y⟩:=t;rw[Za] at h;by_cases h12:o=1∨o=2
 · rw[if_pos h12] at h;have hn:(isName x&&isName y)=true:=by
    cases hc:(isName x&&isName y) with
    | true=>rfl
    | false=>rw[hc] at h;simp at h
   rw[Bool.and_eq_true] at hn;obtain⟨hx,hy⟩:=hn;have nx:=Zy hx;have ny:=Zy hy;have sx:=ja6 hx;have sy:=ja6 hy;have hne:x.data.toList≠[]:=by obtain⟨b,t,e,_⟩:=X3 hx;rw[e];simp
   rcases h12 with rfl | rfl
   · have e:(zK (1,x,y)).data.toList=x.data.toList++58::y.data.toList:=Zu x y 58;have hp:=jai hx (58::y.data.toList);have hs:Jn (x.data.toList++58::y.data.toList)=1:=by rw[jbs,Xx,sx,sy];rfl
     rw[e];refine⟨by simp[nx.2.2,ny.2.2],?_,?_,by show (1:Int)≤1;omega,by show (1:Int)≤4;omega⟩
     · unfold JW;rw[hs,hp];simp
     · unfold zC;rw[if_neg (by rw[hp];decide),if_neg (by rw[hs];decide),JM _ nx.1,if_pos rfl,jZ,jZ]
   · have e:(zK (2,x,y)).data.toList=x.data.toList++33::y.data.toList:=Zu x y 33;have hp:=jai hx (33::y.data.toList);have hs:Jn (x.data.toList++33::y.data.toList)=1:=by rw[jbs,Xx,sx,sy];rfl
     rw[e];refine⟨by simp[nx.2.2,ny.2.2],?_,?_,by show (1:Int)≤2;omega,by show (2:Int)≤4;omega⟩
     · unfold JW;rw[hs,hp];simp
     · unfold zC;rw[if_neg (by rw[hp];decide),if_neg (by rw[hs];decide),jaK (c:=58) (by simp[nx.1,ny.1]),if_neg (by intro h;cases h),JM _ nx.2.1,jZ,jZ]
 · rw[if_neg h12] at h;by_cases h34:o=3∨o=4
   · rw[if_pos h34] at h;have hn:(isName x&&eqS y ByteArray.empty)=true:=by
      cases hc:(isName x&&eqS y ByteArray.empty) with
      | true=>rfl
      | false=>rw[hc] at h;simp at h
     rw[Bool.and_eq_true] at hn;obtain⟨hx,hy⟩:=hn;have hy:y=ByteArray.empty:=zt.1 hy;subst hy;have nx:=Zy hx;have sx:=ja6 hx;have hne:x.data.toList≠[]:=by obtain⟨b,t,e,_⟩:=X3 hx;rw[e];simp
     rcases h34 with rfl | rfl
     · have e:(zK (3,x,ByteArray.empty)).data.toList=x.data.toList:=rfl;have hp:=jai hx [];rw[List.append_nil] at hp;rw[e];refine⟨nx.2.2,?_,?_,by show (1:Int)≤3;omega,by show (3:Int)≤4;omega⟩
       · unfold JW;rw[sx];simp[hne]
       · unfold zC;rw[if_neg (by rw[hp];decide),if_pos sx,jZ]
     · have e:(zK (4,x,ByteArray.empty)).data.toList=45::x.data.toList:=by
        show ((⟨#[45]⟩:ByteArray)++x).data.toList=_;simp[ByteArray.data_append]
       have hp:Lib.hasPrefix (45::x.data.toList) [45]=true:=by rw[jcw];rfl
       have hs:Jn (45::x.data.toList)=0:=by rw[Xx,sx];rfl
       rw[e];refine⟨by simp[nx.2.2],?_,?_,by show (1:Int)≤4;omega,by show (4:Int)≤4;omega⟩
       · unfold JW;rw[hs];simp
       · unfold zC;rw[if_pos hp];unfold Lib.trimPrefix;rw[if_pos hp];show (4,bytes x.data.toList,ByteArray.empty)=_;rw[jZ]
   · rw[if_neg h34] at h;cases h
theorem jbY {s:PL} (h:zE s=0):∀x ∈ s,isName x.1=true∧isName x.2=true:=by
 have h2:zI none s=0:=by
  unfold zE at h;split at h
  · cases h
  · exact h
 have key:∀(s:PL) (p:Option ByteArray),zI p s=0→∀x ∈ s,isName x.1=true∧isName x.2=true:=by
  intro s
  induction s with
  | nil=>intro _ _ x hx;cases hx
  | cons y t ih =>
   intro p hc x hx;unfold zI at hc;split at hc
   · cases hc
   · rename_i hn;split at hc
     · cases hc
     · rcases List.mem_cons.1 hx with rfl | hx
       · have:(isName x.1&&isName x.2)=true:=by simpa using hn
         rw[Bool.and_eq_true] at this;exact this
       · exact ih _ hc x hx
 exact key s none h2
theorem jjS {l:TL} (h:zb l=0):∀t ∈ l,Ja t=0:=by
 have h2:JG l=0:=by
  unfold zb at h;split at h
  · cases h
  · exact h
 have key:∀(l:TL),JG l=0→∀t ∈ l,Ja t=0:=by
  intro l
  induction l with
  | nil=>intro _ x hx;cases hx
  | cons y t ih =>
   intro hc x hx;rw[jaE] at hc;by_cases hy:Ja y≠0
   · rw[if_pos hy] at hc;exact absurd hc hy
   · rw[if_neg hy] at hc;rcases List.mem_cons.1 hx with rfl | hx
     · simpa using hy
     · exact ih hc x hx
 exact key l h2
theorem YA {s:PL} (h:zE s=0):Jc (zr s).data.toList=(0,s):=by
 by_cases h0:s=[]
 · subst h0;rfl
 · have hn:=jbY h;have e:zr s=zZ (s.map zR):=by unfold zr;rw[if_neg h0]
   rw[e];refine XW (jmI h) h0 h (fun x hx=>jeN (hn x hx).1 (hn x hx).2) ?_;intro x hx h45;have:=(jeN (hn x hx).1 (hn x hx).2).2.1;rw[show zR (x.1,x.2)=zR x from rfl,h45] at this;exact absurd this (by decide)
theorem jbd {l:TL} (h:zb l=0):JU (zD l).data.toList=(0,l):=by
 by_cases h0:l=[]
 · subst h0;rfl
 · have hn:=jjS h;have e:zD l=zZ (l.map zK):=by unfold zD;rw[if_neg h0]
   rw[e];refine XW (jmd h) h0 h (fun x hx=>⟨(qZ (hn x hx)).1,(qZ (hn x hx)).2.1,(qZ (hn x hx)).2.2.1⟩) ?_;intro x hx h45;have h1:=(qZ (hn x hx)).2.2.1;rw[h45] at h1;have h2:zC [45]=(4,bytes [],ByteArray.empty):=rfl;rw[h2] at h1;have h3:=hn x hx;rw[←h1] at h3;exact absurd h3 (by decide)
theorem jc3 {b n:Nat} {t:ByteArray} {w:World} (h:Calls Tryz.prog 68 #[.slice (some ⟨b,0,none⟩) n n,.string ⟨#[32]⟩] w fun e w'=>e=.returned (.string t)∧Kept w w') :
 Calls Tryz.prog 37 #[.slice (some ⟨b,0,none⟩) n n] w fun e w'=>e=.returned (.string t)∧Kept w w':=by
 have H:=lH h;clear h;go_enter Tryz.func37,Tryz.ntmps37;go_wp2_with fail
 refine H.out.mono ?_;rintro e w1 ⟨rfl,k⟩;have K:=lH k;clear k;go_wp2;go_ret;exact⟨rfl,K.out⟩
structure jd2 (n:Nod):Prop where
 name:n.name.size≤1000000
 cap:Vec.Zv n.cap=true
 labels:n.labels.length≤1000000∧∀x ∈ n.labels,x.1.size≤1000000∧x.2.size≤1000000
 taints:n.taints.length≤1000000∧∀x ∈ n.taints,x.1.size≤900000∧x.2.1.size≤900000
def YX (c:Bool):ByteArray:=if c=true then ⟨#[99,111,114,100,111,110]⟩ else ⟨#[117,112]⟩
theorem jaJ (c:Bool):(YX c).size≤6:=by cases c<;>decide
def za (n:Nod):ByteArray:=n.name++⟨#[32]⟩++bytes (Vec.j7 n.cap)++⟨#[32]⟩++zr n.labels++⟨#[32]⟩++zS n.taints++⟨#[32]⟩++YX n.cordon
theorem jiK {l:PL} (hn:l.length≤1000000) (h:∀x ∈ l,x.1.size≤1000000∧x.2.size≤1000000):(zr l).size≤3000000000000:=by
 unfold zr;split
 · decide
 · have:=jdR (ts:=l.map zR) (fun z hz=>by obtain⟨x,hx,rfl⟩:=List.mem_map.1 hz;exact jdk (h x hx).1 (h x hx).2);rw[List.length_map] at this;omega
theorem ji3 {l:NL} (hn:l.length≤1000000) (h:∀x ∈ l,x.1.size≤900000∧x.2.1.size≤900000):(zS l).size≤3000000000000:=by
 unfold zS;split
 · decide
 · have:=jdR (ts:=l.map zh) (fun z hz=>by obtain⟨x,hx,rfl⟩:=List.mem_map.1 hz;exact jcQ (h x hx).1 (h x hx).2);rw[List.length_map] at this;omega
theorem qB:∀(l:Vec.V) (b:Bool),(∀x ∈ l,x.1.size≤50∧-9223372036854775808≤x.2∧x.2≤9223372036854775807)→(Vec.j8 b l).length≤80*l.length
 | [],b,_=>by rw[Vec.j8];simp
 | x::t,b,h=>by
  have ih:=qB t false (fun y hy=>h y (List.mem_cons_of_mem _ hy));obtain⟨h1,h2,h3⟩:=h x (List.mem_cons_self ..);have hi:=Lib.itoa_length_le x.2 h2 h3;have hx:x.1.data.toList.length=x.1.size:=by rw[Array.length_toList,ByteArray.size_data]
  rw[Vec.j8];simp only[List.length_append,List.length_cons,List.length_nil,hx]
  cases b<;>simp<;>omega
theorem jbe {l:Vec.V} (h:Vec.Zv l=true) (hf:Vec.zp l):(Vec.j7 l).length≤2000:=by
 unfold Vec.Zv at h;simp only[Bool.and_eq_true,decide_eq_true_eq] at h;unfold Vec.j7;split
 · decide
 · have:=qB l true (fun x hx=>by
    obtain⟨k,hk,rfl⟩:=List.getElem_of_mem hx;have e:l.getD k (ByteArray.empty,0)=l[k]:=by simp[List.getD,hk]
    have h1:=Vec.qe h.2 hk;have h2:=(hf k hk).2;unfold Vec.nm at h1;unfold Vec.qn at h2;rw[e] at h1 h2;exact⟨h1,h2⟩)
   omega
theorem jeI (x a b c d:ByteArray):(⟨(Lib.join ([x,a,b,c,d].map (·.data.toList)) [32]).toArray⟩:ByteArray)=x++⟨#[32]⟩++a++⟨#[32]⟩++b++⟨#[32]⟩++c++⟨#[32]⟩++d:=by
 apply Go.WideShapes.bytes_inj;simp[Lib.join,List.intercalate,ByteArray.data_append]
theorem jel (c:Bool) (w:World):Calls Tryz.prog 41 #[.bool c] w fun e w'=>e=.returned (.string (YX c))∧w=w':=by
 cases c
 · go_enter Tryz.func41,Tryz.ntmps41;go_wp2;go_ret;exact⟨rfl,rfl⟩
 · go_enter Tryz.func41,Tryz.ntmps41;go_wp2;go_ret;exact⟨rfl,rfl⟩
theorem jk1 (n:Nod) (v1 v2 v3:Value) (w:World) (hE:Vec.EnvT w) (h:Jo w v1 v2 v3 n) (hm:jd2 n) :
 Calls Tryz.prog 14 #[Jy n v1 v2 v3] w (Say (.string (za n)) w):=by
 obtain⟨A,hA⟩:∃A,bytes (Vec.j7 n.cap)=A:=⟨_,rfl⟩
 obtain⟨B,hB⟩:∃B,zr n.labels=B:=⟨_,rfl⟩
 obtain⟨C,hC⟩:∃C,zS n.taints=C:=⟨_,rfl⟩
 obtain⟨D,hD⟩:∃D,YX n.cordon=D:=⟨_,rfl⟩
 obtain⟨x,hx⟩:∃x,n.name=x:=⟨_,rfl⟩
 obtain⟨c,hc⟩:∃c,n.cordon=c:=⟨_,rfl⟩
 have HV:=lH (show za n=⟨(Lib.join ([x,A,B,C,D].map (·.data.toList)) [32]).toArray⟩ by rw[jeI];unfold za;rw[hA,hB,hC,hD,hx]);have sA:A.size≤2000:=by rw[←hA];exact jbe hm.cap h.cap.fine
 have sB:B.size≤3000000000000:=by rw[←hB];exact jiK hm.labels.1 hm.labels.2
 have sC:C.size≤3000000000000:=by rw[←hC];exact ji3 hm.taints.1 hm.taints.2
 have sD:D.size≤6:=by rw[←hD];exact jaJ _
 have sx:x.size≤1000000:=by rw[←hx];exact hm.name
 have HJ:=lH (show (Lib.join ([x,A,B,C,D].map (·.data.toList)) [32]).length≤140737488355328 by
  have:=congrArg ByteArray.size (jeI x A B C D);have e:(⟨(Lib.join ([x,A,B,C,D].map (·.data.toList)) [32]).toArray⟩:ByteArray).size=(Lib.join ([x,A,B,C,D].map (·.data.toList)) [32]).length:=by simp[ByteArray.size]
  rw[e] at this;rw[this];have z:(⟨#[32]⟩:ByteArray).size=1:=rfl;simp only[ByteArray.size_append,z];omega)
 have H1:=lH (fun W (k:Kept w W)=>Vec.jdQ (hE.kept k) (h.cap.kept k) hm.cap rfl);have H2:=lH (fun W (k:Kept w W)=>jdQ (h.labels.kept k) hm.labels.2 hm.labels.1 rfl);have H3:=lH (fun W (k:Kept w W)=>jor (h.taints.kept k) hm.taints.2 hm.taints.1 rfl);have H4:=lH (fun W=>jel c W);rw[hA] at H1;rw[hB] at H2;rw[hC] at H3;rw[←hc,hD] at H4;unfold Jy;rw[hc] at H4 ⊢;rw[hx];obtain⟨W0,hW0⟩:∃W0,w.alloc (.cells #[.string x,v1,v2,v3,.bool c] 42)=W0:=⟨_,rfl⟩
 have K0:=lH (show Kept w W0 by rw[←hW0];exact ja _ _);have HC:=lH (show ∀W,Kept W0 W→W.cell? ⟨w.heap.size,0,none⟩=some (.string x)∧W.cell? ⟨w.heap.size,1,none⟩=some v1∧W.cell? ⟨w.heap.size,2,none⟩=some v2∧W.cell? ⟨w.heap.size,3,none⟩=some v3∧W.cell? ⟨w.heap.size,4,none⟩=some (.bool c) from fun W k=>by
  have hh:=w.alloc_heap_new (.cells #[.string x,v1,v2,v3,.bool c] 42);rw[hW0] at hh;exact⟨cell_later k (by rw[Lib.cell_of_heap hh];rfl),cell_later k (by rw[Lib.cell_of_heap hh];rfl),cell_later k (by rw[Lib.cell_of_heap hh];rfl),cell_later k (by rw[Lib.cell_of_heap hh];rfl),cell_later k (by rw[Lib.cell_of_heap hh];rfl)⟩)
 have HJC:=lH (show ∀W:World,Calls Tryz.prog 37 #[.slice (some ⟨W.heap.size,0,none⟩) 5 5] (W.alloc (.cells #[.string x,.string A,.string B,.string C,.string D] 9)) fun e w'=>e=.returned (.string ⟨(Lib.join ([x,A,B,C,D].map (·.data.toList)) [32]).toArray⟩)∧Kept (W.alloc (.cells #[.string x,.string A,.string B,.string C,.string D] 9)) w' from fun W=>by
  have hh:=W.alloc_heap_new (.cells #[.string x,.string A,.string B,.string C,.string D] 9);refine jc3 ?_;refine Tryz.strings_Join W.heap.size 0 5 [x,A,B,C,D] ⟨#[32]⟩ _ (fun j z hj=>?_) (by simp) (by simp) (by simp) HJ.out
  match j,hj with
  | 0,hj=>have:x=z:=by simpa using hj
          subst this;rw[Lib.cell_of_heap hh];rfl
  | 1,hj=>have:A=z:=by simpa using hj
          subst this;rw[Lib.cell_of_heap hh];rfl
  | 2,hj=>have:B=z:=by simpa using hj
          subst this;rw[Lib.cell_of_heap hh];rfl
  | 3,hj=>have:C=z:=by simpa using hj
          subst this;rw[Lib.cell_of_heap hh];rfl
  | 4,hj=>have:D=z:=by simpa using hj
          subst this;rw[Lib.cell_of_heap hh];rfl
  | j+5,hj=>simp at hj)
 have HR:=lH (show (.string (za n):Value)=.string ⟨(Lib.join ([x,A,B,C,D].map (·.data.toList)) [32]).toArray⟩ by rw[HV.out]);obtain⟨RES,hRES⟩:∃R,(⟨(Lib.join ([x,A,B,C,D].map (·.data.toList)) [32]).toArray⟩:ByteArray)=R:=⟨_,rfl⟩
 rw[hRES] at HR HJC;rw[HR.out];clear hA hB hC hD hx hc sA sB sC sD sx h hm hE HV HJ HR hRES;go_enter Tryz.func14,Tryz.ntmps14;go_wp2;try rw[hW0]
 go_region_held3 (fun W=>W.cell? ⟨w.heap.size,0,none⟩=some (.string x)∧W.cell? ⟨w.heap.size,1,none⟩=some v1∧W.cell? ⟨w.heap.size,2,none⟩=some v2∧W.cell? ⟨w.heap.size,3,none⟩=some v3∧W.cell? ⟨w.heap.size,4,none⟩=some (.bool c))
  (first | exact HC.out _ (Kept.drew _) | exact HC.out _ K1.out | exact HC.out _ K2.out | exact HC.out _ K3.out | exact HC.out _ (K3.out.trans (ja _ _)) | exact HC.out _ K5.out)
  (first | (go_at_call 38;refine(H1.out _ (K0.out.trans (Kept.drew _))).mono ?_;rintro e1 w1 ⟨rfl,k1⟩;have K1:=lH ((Kept.drew _).trans k1);clear k1)
         | (go_at_call 39;refine(H2.out _ (K0.out.trans K1.out)).mono ?_;rintro e2 w2 ⟨rfl,k2⟩;have K2:=lH (K1.out.trans k2);clear k2)
         | (go_at_call 40;refine(H3.out _ (K0.out.trans K2.out)).mono ?_;rintro e3 w3 ⟨rfl,k3⟩;have K3:=lH (K2.out.trans k3);clear k3)
         | (go_at_call 41;refine(H4.out _).mono ?_;rintro e4 w4 ⟨rfl,rfl⟩)
         | (go_at_call 37;refine(HJC.out _).mono ?_;rintro e5 w5 ⟨rfl,k5⟩;have K5:=lH ((K3.out.trans (ja _ _)).trans k5);clear k5))
 go_wp2;go_ret;exact⟨rfl,K0.out.trans K5.out⟩
theorem jnE (c:UInt8) (s:List UInt8):((Lib.cut s [c]).2.2=false→Lib.index s [c]=-1)∧((Lib.cut s [c]).2.2=true→¬Lib.index s [c]=-1∧s.take ((Lib.index s [c]).toNat+0)=(Lib.cut s [c]).1∧s.drop ((Lib.index s [c]).toNat+[c].length)=(Lib.cut s [c]).2.1):=by
 have hge:=Lib.index_ge s [c];unfold Lib.cut;by_cases h:0≤Lib.index s [c]
 · rw[if_pos h];exact⟨(fun e=>by cases e),fun _=>⟨by omega,rfl,rfl⟩⟩
 · rw[if_neg h];exact⟨(fun _=>by omega),(fun e=>by cases e)⟩
theorem jdS (c:UInt8) (s:List UInt8) (h:(Lib.cut s [c]).2.2=true):je c s=(Lib.cut s [c]).1::je c (Lib.cut s [c]).2.1:=by rw[Xh,if_pos h]
theorem jcv (c:UInt8) (s:List UInt8) (h:(Lib.cut s [c]).2.2=false):je c s=[s]:=by rw[Xh,if_neg (by rw[h];decide)]
theorem jlk (c:UInt8) (s:List UInt8):1≤(je c s).length:=List.length_pos_iff.2 (JY c s)
theorem jbj (c:UInt8):∀(k:Nat) (s:List UInt8),((je c s).length≤k+1→Lib.splitK [c] 0 k s=je c s)∧(k+1<(je c s).length→(Lib.splitK [c] 0 k s).length=k+1)
 | 0,s=>by
  rw[Lib.splitK];refine⟨fun h=>?_,fun _=>rfl⟩
  cases hf:(Lib.cut s [c]).2.2 with
  | false=>rw[jcv c s hf]
  | true =>
   rw[jdS c s hf] at h;have:=jlk c (Lib.cut s [c]).2.1;rw[List.length_cons] at h;omega
 | k+1,s=>by
  rw[Lib.splitK];obtain⟨h1,h2⟩:=jnE c s
  cases hf:(Lib.cut s [c]).2.2 with
  | false =>
   rw[if_pos (beq_iff_eq.2 (h1 hf)),jcv c s hf];exact⟨fun _=>rfl,fun h=>absurd h (by simp)⟩
  | true =>
   obtain⟨e0,e1,e2⟩:=h2 hf;rw[if_neg (fun e=>e0 (beq_iff_eq.1 e)),e1,e2,jdS c s hf];obtain⟨i1,i2⟩:=jbj c k (Lib.cut s [c]).2.1;exact⟨fun h=>by rw[i1 (by simpa using h)],fun h=>by simp;exact i2 (by simpa using h)⟩
theorem jlW (c:UInt8) (s:List UInt8):(je c s).length≤s.length+1:=by
 have:=qd c s;unfold splitB at this;rwa [List.length_map] at this
theorem jeb (k:Nat) (s:List UInt8):((je 32 s).length=k→Lib.splitB ⟨#[32]⟩ 0 (min (k+1) ((bytes s).size+1)-1) (bytes s)=(je 32 s).map bytes) ∧
 ((je 32 s).length≠k→(Lib.splitB ⟨#[32]⟩ 0 (min (k+1) ((bytes s).size+1)-1) (bytes s)).length≠k):=by
 have hd:=Lib.splitB_data ⟨#[32]⟩ 0 (min (k+1) ((bytes s).size+1)-1) (bytes s);have hb:(bytes s).data.toList=s:=by simp[bytes]
 rw[hb] at hd;have hp:=jlW 32 s;have hsz:(bytes s).size=s.length:=ji s;rw[hsz] at hd ⊢;obtain⟨i1,i2⟩:=jbj 32 (min (k+1) (s.length+1)-1) s;refine⟨fun h=>?_,fun h h5=>?_⟩
 · have e:=i1 (by omega);have hd':(Lib.splitB ⟨#[32]⟩ 0 (min (k+1) (s.length+1)-1) (bytes s)).map (·.data.toList)=je 32 s:=hd.trans e;rw[←hd',List.map_map];have:(bytes ∘ fun x:ByteArray=>x.data.toList)=id:=by
    funext x;cases x;simp[bytes]
   rw[this,List.map_id]
 · have hl:=congrArg List.length hd;rw[List.length_map,h5] at hl;by_cases hle:(je 32 s).length≤min (k+1) (s.length+1)-1+1
   · have e:=i1 hle;have:(Lib.splitK [32] 0 (min (k+1) (s.length+1)-1) s).length=k:=hl.symm;rw[e] at this;exact h this
   · have:=i2 (by omega);have h3:(Lib.splitK [32] 0 (min (k+1) (s.length+1)-1) s).length=k:=hl.symm;omega
def Split (k:Nat) (s:List UInt8) (w:World) (e:Ending) (w':World):Prop :=
 ((je 32 s).length=k→∃g cap,e=.returned (.slice (some ⟨g,0,none⟩) k cap)∧w.heap.size≤g∧∀j p,(je 32 s)[j]?=some p→w'.cell? ⟨g,j,none⟩=some (.string (bytes p))) ∧
 ((je 32 s).length≠k→e=.panicked [ju 2])∧Kept w w'
theorem jnp (s:List UInt8) (w:World) (hE:Env w) (hs:s.length≤1000000) :
 Calls Tryz.prog 171 #[.string (bytes s),.int .i64 5] w (Split 5 s w):=by
 obtain⟨m,hm⟩:=hE.most;have HSP:=lH (Tryz.strings_SplitN (bytes s) ⟨#[32]⟩ 6 m w (by rw[ji];omega) hm (by decide) (by decide) (by decide));obtain⟨h5,hn5⟩:=jeb 5 s;obtain⟨L,hL⟩:∃L,Lib.splitB ⟨#[32]⟩ 0 (min 6 ((bytes s).size+1)-1) (bytes s)=L:=⟨_,rfl⟩
 obtain⟨n,hn⟩:∃n,min 6 ((bytes s).size+1)=n:=⟨_,rfl⟩
 rw[hL] at h5 hn5 HSP;rw[hn] at HSP;have hcap:L.length≤n:=by
  rw[←hL,←hn];have:=Lib.splitB_length_le ⟨#[32]⟩ 0 (min 6 ((bytes s).size+1)-1) (bytes s);omega
 by_cases hp:(je 32 s).length=5
 · have hLp:=h5 hp;have HP:=lH hp;obtain⟨ps,hps⟩:∃ps,je 32 s=ps:=⟨_,rfl⟩
   have HPS:=lH hps;rw[hps] at hp hLp;have hl5:L.length=5:=by rw[hLp,List.length_map,hp]
   rw[hl5] at HSP;have HC:=lH (show ∀j p,ps[j]?=some p→(w.alloc (.cells (Lib.cellsOf L n) 9)).cell? ⟨w.heap.size,j,none⟩=some (.string (bytes p)) from fun j p hj=>by
    have hh:=w.alloc_heap_new (.cells (Lib.cellsOf L n) 9);have hj5:j<L.length:=by have:=(List.getElem?_eq_some_iff.1 hj).1;omega
    have hLj:L[j]?=some (bytes p):=by rw[hLp,List.getElem?_map,hj];rfl
    rw[Lib.cell_of_heap hh];show (Lib.cellsOf L n)[j]?=some (.string (bytes p));unfold Lib.cellsOf;rw[List.getElem?_toArray,List.getElem?_append_left (by rw[List.length_map];exact hj5),List.getElem?_map,hLj];rfl)
   have hcap5:5≤n:=by omega
   clear h5 hn5 hcap hE hm hL hn hLp hl5 hp hps;go_enter Tryz.func171,Tryz.ntmps171;go_wp2_with fail
   refine HSP.out.mono ?_;rintro e w1 ⟨rfl,rfl⟩;go_wp2;go_ret;exact⟨fun _=>⟨_,_,rfl,Nat.le_refl _,by rw[HPS.out];exact HC.out⟩,fun h=>absurd HP.out h,ja _ _⟩
 · obtain⟨k,hk⟩:∃k,L.length=k:=⟨_,rfl⟩
   have hk5:k≠5:=by rw[←hk];exact hn5 hp
   rw[hk] at HSP;have HP:=lH hp;have hb:((k:Int) != 5)=true:=by simp;omega
   clear h5 hn5 hcap hp hE hm hL hn hk hk5;go_enter Tryz.func171,Tryz.ntmps171;go_wp2_with fail
   refine HSP.out.mono ?_;rintro e w1 ⟨rfl,rfl⟩;go_wp2;exact⟨rfl,⟨fun h=>absurd h HP.out,fun _=>rfl,ja _ _⟩⟩
theorem jmB (s:List UInt8) (w:World) (hE:Env w) (hs:s.length≤1000000) :
 Calls Tryz.prog 171 #[.string (bytes s),.int .i64 10] w (Split 10 s w):=by
 obtain⟨m,hm⟩:=hE.most;have HSP:=lH (Tryz.strings_SplitN (bytes s) ⟨#[32]⟩ 11 m w (by rw[ji];omega) hm (by decide) (by decide) (by decide));obtain⟨h5,hn5⟩:=jeb 10 s;obtain⟨L,hL⟩:∃L,Lib.splitB ⟨#[32]⟩ 0 (min 11 ((bytes s).size+1)-1) (bytes s)=L:=⟨_,rfl⟩
 obtain⟨n,hn⟩:∃n,min 11 ((bytes s).size+1)=n:=⟨_,rfl⟩
 rw[hL] at h5 hn5 HSP;rw[hn] at HSP;have hcap:L.length≤n:=by
  rw[←hL,←hn];have:=Lib.splitB_length_le ⟨#[32]⟩ 0 (min 11 ((bytes s).size+1)-1) (bytes s);omega
 by_cases hp:(je 32 s).length=10
 · have hLp:=h5 hp;have HP:=lH hp;obtain⟨ps,hps⟩:∃ps,je 32 s=ps:=⟨_,rfl⟩
   have HPS:=lH hps;rw[hps] at hp hLp;have hl5:L.length=10:=by rw[hLp,List.length_map,hp]
   rw[hl5] at HSP;have HC:=lH (show ∀j p,ps[j]?=some p→(w.alloc (.cells (Lib.cellsOf L n) 9)).cell? ⟨w.heap.size,j,none⟩=some (.string (bytes p)) from fun j p hj=>by
    have hh:=w.alloc_heap_new (.cells (Lib.cellsOf L n) 9);have hj5:j<L.length:=by have:=(List.getElem?_eq_some_iff.1 hj).1;omega
    have hLj:L[j]?=some (bytes p):=by rw[hLp,List.getElem?_map,hj];rfl
    rw[Lib.cell_of_heap hh];show (Lib.cellsOf L n)[j]?=some (.string (bytes p));unfold Lib.cellsOf;rw[List.getElem?_toArray,List.getElem?_append_left (by rw[List.length_map];exact hj5),List.getElem?_map,hLj];rfl)
   have hcap5:10≤n:=by omega
   clear h5 hn5 hcap hE hm hL hn hLp hl5 hp hps;go_enter Tryz.func171,Tryz.ntmps171;go_wp2_with fail
   refine HSP.out.mono ?_;rintro e w1 ⟨rfl,rfl⟩;go_wp2;go_ret;exact⟨fun _=>⟨_,_,rfl,Nat.le_refl _,by rw[HPS.out];exact HC.out⟩,fun h=>absurd HP.out h,ja _ _⟩
 · obtain⟨k,hk⟩:∃k,L.length=k:=⟨_,rfl⟩
   have hk5:k≠10:=by rw[←hk];exact hn5 hp
   rw[hk] at HSP;have HP:=lH hp;have hb:((k:Int) != 10)=true:=by simp;omega
   clear h5 hn5 hcap hp hE hm hL hn hk hk5;go_enter Tryz.func171,Tryz.ntmps171;go_wp2_with fail
   refine HSP.out.mono ?_;rintro e w1 ⟨rfl,rfl⟩;go_wp2;exact⟨rfl,⟨fun h=>absurd h HP.out,fun _=>rfl,ja _ _⟩⟩
def upL:List UInt8:=[117,112]
def ZZ:List UInt8:=[99,111,114,100,111,110]
def XY (p:List UInt8):Bool:=p==upL||p==ZZ
def Zg (s:List UInt8):Option (List (List UInt8)):=if (je 32 s).length=5∧XY ((je 32 s).getD 4 [])=true then some (je 32 s) else none
def jn6 (s:List UInt8) (w:World) (e:Ending) (w':World):Prop :=
 (∀ps,Zg s=some ps→∃g cap,e=.returned (.slice (some ⟨g,0,none⟩) 5 cap)∧∀j p,ps[j]?=some p→w'.cell? ⟨g,j,none⟩=some (.string (bytes p))) ∧
 (Zg s=none→e=.panicked [ju 2])∧Kept w w'
theorem jjZ (s:List UInt8) (w:World) (hE:Env w) (hs:s.length≤1000000) :
 Calls Tryz.prog 159 #[.string (bytes s)] w (jn6 s w):=by
 have HW0:=lH (jnp s w hE hs);clear hE;by_cases hp:(je 32 s).length=5
 · obtain⟨p4,h4⟩:∃p,(je 32 s)[4]?=some p:=⟨_,List.getElem?_eq_getElem (by omega)⟩
   have hg4:(je 32 s).getD 4 []=p4:=by simp[List.getD,h4]
   have t1:((bytes p4).toList==[117,112])=(p4==upL):=by rw[jn];rfl
   have t2:((bytes p4).toList==[99,111,114,100,111,110])=(p4==ZZ):=by rw[jn];rfl
   have HW:=lH (show Zg s=if XY p4=true then some (je 32 s) else none by
    unfold Zg;rw[hg4];by_cases hk:XY p4=true
    · rw[if_pos ⟨hp,hk⟩,if_pos hk]
    · rw[if_neg (fun h=>hk h.2),if_neg hk])
   have H4:=lH h4;have HP:=lH hp;clear h4 hg4 hp;by_cases q1:(p4==upL)=true
   · have HN:=lH (show Zg s=some (je 32 s) by rw[HW.out,if_pos (by unfold XY;rw[q1];rfl)]);rw[q1] at t1;clear HW;go_enter Tryz.func159,Tryz.ntmps159;go_wp2_with fail
     refine HW0.out.mono ?_;rintro e w1 ⟨ha,-,hk⟩;obtain⟨g,cap,rfl,-,hc⟩:=ha HP.out;have c4:=hc 4 p4 H4.out;have HK:=lH hk;have HC:=lH hc;clear ha hk hc;go_wp2;go_ret;exact⟨fun qs h=>(by rw[HN.out] at h;cases h;exact⟨_,_,rfl,HC.out⟩),fun h=>(by rw[HN.out] at h;cases h),HK.out⟩
   · have q1:(p4==upL)=false:=by simpa using q1
     rw[q1] at t1;by_cases q2:(p4==ZZ)=true
     · have HN:=lH (show Zg s=some (je 32 s) by rw[HW.out,if_pos (by unfold XY;rw[q2];simp)]);rw[q2] at t2;clear HW;go_enter Tryz.func159,Tryz.ntmps159;go_wp2_with fail
       refine HW0.out.mono ?_;rintro e w1 ⟨ha,-,hk⟩;obtain⟨g,cap,rfl,-,hc⟩:=ha HP.out;have c4:=hc 4 p4 H4.out;have HK:=lH hk;have HC:=lH hc;clear ha hk hc;go_wp2;go_ret;exact⟨fun qs h=>(by rw[HN.out] at h;cases h;exact⟨_,_,rfl,HC.out⟩),fun h=>(by rw[HN.out] at h;cases h),HK.out⟩
     · have q2:(p4==ZZ)=false:=by simpa using q2
       have HN:=lH (show Zg s=none by rw[HW.out,if_neg (by unfold XY;rw[q1,q2];decide)]);rw[q2] at t2;clear HW;go_enter Tryz.func159,Tryz.ntmps159;go_wp2_with fail
       refine HW0.out.mono ?_;rintro e w1 ⟨ha,-,hk⟩;obtain⟨g,cap,rfl,-,hc⟩:=ha HP.out;have c4:=hc 4 p4 H4.out;have HK:=lH hk;have HC:=lH hc;clear ha hk hc;go_wp2;exact⟨rfl,⟨fun qs h=>(by rw[HN.out] at h;cases h),fun _=>rfl,HK.out⟩⟩
 · have HN:=lH (show Zg s=none by unfold Zg;rw[if_neg (by intro h;exact hp h.1)]);have HP:=lH hp;clear hp;go_enter Tryz.func159,Tryz.ntmps159;go_wp2_with fail
   refine HW0.out.mono ?_;rintro e w1 ⟨-,hb,hk⟩;obtain rfl:=hb HP.out;have HK:=lH hk;clear hb hk;go_wp2;exact⟨rfl,⟨fun ps h=>(by rw[HN.out] at h;cases h),fun _=>rfl,HK.out⟩⟩
def qv (a b c d e:List UInt8):Nod:=⟨bytes a,(Vec.Z0 b).2,(Jc c).2,(Jj d).2,e==ZZ⟩
def jb5 (a b c d e:List UInt8):Int×Nod :=
 if (Vec.Z0 b).1≠0 then ((Vec.Z0 b).1,Nod.zero) else if (Jc c).1≠0 then ((Jc c).1,Nod.zero) else if (Jj d).1≠0 then ((Jj d).1,Nod.zero)
 else if jU (qv a b c d e)≠0 then (jU (qv a b c d e),Nod.zero) else (0,qv a b c d e)
def zj (s:List UInt8):Int×Nod :=
 match Zg s with
 | some [a,b,c,d,e]=>jb5 a b c d e
 | _=>(2,Nod.zero)
def JJ (B:Nat) (w:World) (v:Value) (n:Nod):Prop:=∃a1 m1 c1 a2 m2 c2 a3 m3 c3,v=.agg #[.string n.name,.slice a1 m1 c1,.slice a2 m2 c2,.slice a3 m3 c3,.bool n.cordon]∧n.name.size≤maxLen∧Vec.Reads w (.slice a1 m1 c1) n.cap∧Reads js w (.slice a2 m2 c2) n.labels∧Reads jq w (.slice a3 m3 c3) n.taints ∧
 (∀b off sp,a1=some ⟨b,off,sp⟩→B≤b)∧(∀b off sp,a2=some ⟨b,off,sp⟩→B≤b)∧(∀b off sp,a3=some ⟨b,off,sp⟩→B≤b)
theorem JJ.toR {B:Nat} {w:World} {v:Value} {n:Nod} (h:JJ B w v n):jcY w v n:=by
 obtain⟨a1,m1,c1,a2,m2,c2,a3,m3,c3,e,h0,h1,h2,h3,_⟩:=h;exact⟨_,_,_,e,h0,h1,h2,h3⟩
def Xz (r:Int×Nod) (w:World) (e:Ending) (w':World):Prop:=(r.1=0→∃v,e=.returned v∧JJ w.heap.size w' v r.2)∧(r.1≠0→e=.panicked [ju r.1])∧Kept w w'
theorem Xz.good {r:Int×Nod} {w w':World} {v:Value} (h:r.1=0) (ho:JJ w.heap.size w' v r.2) (hb:Kept w w'):Xz r w (.returned v) w':=⟨fun _=>⟨v,rfl,ho⟩,fun g=>absurd h g,hb⟩
theorem Xz.bad {r:Int×Nod} {w w':World} {c:Int} (h:r.1=c) (hc:c≠0) (hb:Kept w w'):Xz r w (.panicked [ju c]) w':=⟨fun g=>absurd (h.symm.trans g) hc,fun _=>by rw[h],hb⟩
theorem Vec.jaC.spelt {r:Int×Vec.V} {w w':World} {e:Ending} (h:Vec.jaC r w e w'):∃a m cap,e=.returned (.tuple #[.slice a m cap,.int .i64 r.1])∧Vec.Reads w' (.slice a m cap) r.2∧(∀b off sp,a=some ⟨b,off,sp⟩→w.heap.size≤b∧b<w'.heap.size)∧Kept w w':=by
 obtain⟨v,rfl,ho,k⟩:=h;obtain⟨a,cap,rfl,h⟩:=ho.at_;exact⟨a,_,cap,rfl,⟨a,cap,rfl,h⟩,fun b off sp e=>ho.1.lt b (by subst e;rfl),k⟩
theorem Xf {α:Type} {L:Lay α} {T:TypeId} {c:Int} {l:List α} {w w':World} {e:Ending} (h:∃v,e=.returned (.tuple #[v,.int .i64 c])∧Own L T w' w.heap.size v l∧Kept w w'):∃a m cap,e=.returned (.tuple #[.slice a m cap,.int .i64 c])∧Reads L w' (.slice a m cap) l∧(∀b off sp,a=some ⟨b,off,sp⟩→w.heap.size≤b∧b<w'.heap.size)∧Kept w w':=by
 obtain⟨v,rfl,ho,k⟩:=h;obtain⟨a,cap,rfl,h⟩:=ho.at_;exact⟨a,_,cap,rfl,⟨a,cap,rfl,h⟩,fun b off sp e=>ho.1.lt b (by subst e;rfl),k⟩
theorem YC (w:World) (v0 v1 v2 v3 v4:Value) (T:TypeId) (W:World) (k:Kept (w.alloc (.cells #[v0,v1,v2,v3,v4] T)) W) :
 (W.cell? ⟨w.heap.size,0,none⟩=some v0∧W.cell? ⟨w.heap.size,1,none⟩=some v1∧W.cell? ⟨w.heap.size,2,none⟩=some v2∧W.cell? ⟨w.heap.size,3,none⟩=some v3∧W.cell? ⟨w.heap.size,4,none⟩=some v4) ∧
 W.frozen? ⟨w.heap.size,0,none⟩=false∧W.frozen? ⟨w.heap.size,1,none⟩=false∧W.frozen? ⟨w.heap.size,2,none⟩=false∧W.frozen? ⟨w.heap.size,3,none⟩=false∧W.frozen? ⟨w.heap.size,4,none⟩=false:=by
 have hh:=w.alloc_heap_new (.cells #[v0,v1,v2,v3,v4] T);have hf:∀j,W.frozen? ⟨w.heap.size,j,none⟩=false:=fun j=>by
  have:=k.frozen (p:=⟨w.heap.size,j,none⟩) (by simp);rw[this];unfold World.frozen?;rw[show (w.alloc (.cells #[v0,v1,v2,v3,v4] T)).heap[(⟨w.heap.size,j,none⟩:Addr).block]?=some (.cells #[v0,v1,v2,v3,v4] T) from hh];simp
 exact⟨⟨cell_later k (by rw[Lib.cell_of_heap hh];rfl),cell_later k (by rw[Lib.cell_of_heap hh];rfl),cell_later k (by rw[Lib.cell_of_heap hh];rfl),cell_later k (by rw[Lib.cell_of_heap hh];rfl),cell_later k (by rw[Lib.cell_of_heap hh];rfl)⟩,hf 0,hf 1,hf 2,hf 3,hf 4⟩
def Laid (w1:World) (q:Nat) (x:ByteArray) (n1:Vec.V) (n2:PL) (n3:NL) (b:Bool) (W:World):Prop :=
 ∃aa ma ca ab mb cb ac mc cc,W.cell? ⟨q,0,none⟩=some (.string x)∧W.cell? ⟨q,1,none⟩=some (.slice aa ma ca)∧W.cell? ⟨q,2,none⟩=some (.slice ab mb cb)∧W.cell? ⟨q,3,none⟩=some (.slice ac mc cc)∧W.cell? ⟨q,4,none⟩=some (.bool b) ∧
  Vec.Reads W (.slice aa ma ca) n1∧Reads js W (.slice ab mb cb) n2∧Reads jq W (.slice ac mc cc) n3∧Kept w1 W∧w1.heap.size≤q ∧
  (∀b off sp,aa=some ⟨b,off,sp⟩→w1.heap.size≤b)∧(∀b off sp,ab=some ⟨b,off,sp⟩→w1.heap.size≤b)∧(∀b off sp,ac=some ⟨b,off,sp⟩→w1.heap.size≤b)
theorem qc (W:World) (q:Nat) (u0 u1 u2 u3 u4:Value) (b:Nat) (h:b≠q) :
 (((((W.setCell ⟨q,0,none⟩ u0).setCell ⟨q,1,none⟩ u1).setCell ⟨q,2,none⟩ u2).setCell ⟨q,3,none⟩ u3).setCell ⟨q,4,none⟩ u4).heap[b]?=W.heap[b]? :=
 (Below.heap_setCell _ ⟨q,4,none⟩ _ b h).trans ((Below.heap_setCell _ ⟨q,3,none⟩ _ b h).trans ((Below.heap_setCell _ ⟨q,2,none⟩ _ b h).trans ((Below.heap_setCell _ ⟨q,1,none⟩ _ b h).trans (Below.heap_setCell _ ⟨q,0,none⟩ _ b h))))
theorem jbf (W:World) (q:Nat) (u0 u1 u2 u3 u4:Value) :
 (((((W.setCell ⟨q,0,none⟩ u0).setCell ⟨q,1,none⟩ u1).setCell ⟨q,2,none⟩ u2).setCell ⟨q,3,none⟩ u3).setCell ⟨q,4,none⟩ u4).heap.size=W.heap.size:=by simp[World.setCell]
theorem Reads.far {α:Type} {L:Lay α} {w w':World} {a:Option Addr} {m cap:Nat} {l:List α} (h:Reads L w (.slice a m cap) l) (hs:w'.heap.size=w.heap.size) (hb:∀b off sp,a=some ⟨b,off,sp⟩→w'.heap[b]?=w.heap[b]?):Reads L w' (.slice a m cap) l:=by
 obtain⟨a',cap',e,h1,h2,h3,h4,h5,h6⟩:=h
 cases e
 refine⟨a,cap,rfl,h1,h2,h3,h4,h5,h6.imp id ?_⟩;rintro ⟨b,off,rfl,hlt,hc⟩;exact⟨b,off,rfl,by rw[hs];exact hlt,fun i x j u hi hj=>(World.cell?_of_block (a:=⟨b,off+i*L.m+j,none⟩) (hb b off none rfl)).trans (hc i x j u hi hj)⟩
theorem Vec.Reads.far {w w':World} {a:Option Addr} {m cap:Nat} {l:Vec.V} (h:Vec.Reads w (.slice a m cap) l) (hs:w'.heap.size=w.heap.size) (hb:∀b off sp,a=some ⟨b,off,sp⟩→w'.heap[b]?=w.heap[b]?):Vec.Reads w' (.slice a m cap) l:=by
 obtain⟨a',cap',e,h1,h2,h3,h4,h5,h6⟩:=h
 cases e
 refine⟨a,cap,rfl,h1,h2,h3,h4,h5,h6.imp id ?_⟩;rintro ⟨b,off,rfl,hlt,hc⟩;exact⟨b,off,rfl,by rw[hs];exact hlt,fun i hi=>⟨(World.cell?_of_block (a:=⟨b,off+i*2,none⟩) (hb b off none rfl)).trans (hc i hi).1,(World.cell?_of_block (a:=⟨b,off+i*2+1,none⟩) (hb b off none rfl)).trans (hc i hi).2⟩⟩
theorem jaG {W:World} {q:Nat} {v0 v1 v2 v3 v4 u0 u1 u2 u3 u4:Value} (y0:W.cell? ⟨q,0,none⟩=some v0) (y1:W.cell? ⟨q,1,none⟩=some v1) (y2:W.cell? ⟨q,2,none⟩=some v2) (y3:W.cell? ⟨q,3,none⟩=some v3) (y4:W.cell? ⟨q,4,none⟩=some v4) (W':World)
 (hW:(((((W.setCell ⟨q,0,none⟩ u0).setCell ⟨q,1,none⟩ u1).setCell ⟨q,2,none⟩ u2).setCell ⟨q,3,none⟩ u3).setCell ⟨q,4,none⟩ u4)=W') :
 W'.cell? ⟨q,0,none⟩=some u0∧W'.cell? ⟨q,1,none⟩=some u1∧W'.cell? ⟨q,2,none⟩=some u2∧W'.cell? ⟨q,3,none⟩=some u3∧W'.cell? ⟨q,4,none⟩=some u4:=by
 subst hW;refine⟨?_,?_,?_,?_,?_⟩<;>go_simp
theorem Xa {w1 W:World} {q:Nat} {x:ByteArray} {n1:Vec.V} {n2:PL} {n3:NL} {b:Bool} {aa ab ac:Option Addr} {ma ca mb cb mc cc:Nat} {v0 v1 v2 v3 v4:Value} (kk:Kept w1 W) (hq:w1.heap.size≤q)
 (y0:W.cell? ⟨q,0,none⟩=some v0) (y1:W.cell? ⟨q,1,none⟩=some v1) (y2:W.cell? ⟨q,2,none⟩=some v2) (y3:W.cell? ⟨q,3,none⟩=some v3) (y4:W.cell? ⟨q,4,none⟩=some v4)
 (ra:Vec.Reads W (.slice aa ma ca) n1) (rb:Reads js W (.slice ab mb cb) n2) (rc:Reads jq W (.slice ac mc cc) n3)
 (fa:∀b off sp,aa=some ⟨b,off,sp⟩→b≠q) (fb:∀b off sp,ab=some ⟨b,off,sp⟩→b≠q) (fc:∀b off sp,ac=some ⟨b,off,sp⟩→b≠q)
 (ga:∀b off sp,aa=some ⟨b,off,sp⟩→w1.heap.size≤b) (gb:∀b off sp,ab=some ⟨b,off,sp⟩→w1.heap.size≤b) (gc:∀b off sp,ac=some ⟨b,off,sp⟩→w1.heap.size≤b) :
 Laid w1 q x n1 n2 n3 b (((((W.setCell ⟨q,0,none⟩ (.string x)).setCell ⟨q,1,none⟩ (.slice aa ma ca)).setCell ⟨q,2,none⟩ (.slice ab mb cb)).setCell ⟨q,3,none⟩ (.slice ac mc cc)).setCell ⟨q,4,none⟩ (.bool b)):=by
 obtain⟨c0,c1,c2,c3,c4⟩:=jaG (u0:=.string x) (u1:=.slice aa ma ca) (u2:=.slice ab mb cb) (u3:=.slice ac mc cc) (u4:=.bool b) y0 y1 y2 y3 y4 _ rfl;have hb:=qc W q (.string x) (.slice aa ma ca) (.slice ab mb cb) (.slice ac mc cc) (.bool b);have hs:=jbf W q (.string x) (.slice aa ma ca) (.slice ab mb cb) (.slice ac mc cc) (.bool b);exact⟨aa,ma,ca,ab,mb,cb,ac,mc,cc,c0,c1,c2,c3,c4,ra.far hs (fun b' o sp e=>hb b' (fa b' o sp e)),rb.far hs (fun b' o sp e=>hb b' (fb b' o sp e)),rc.far hs (fun b' o sp e=>hb b' (fc b' o sp e)),
  ((((kk.setCell (p:=⟨q,0,none⟩) hq _).setCell (p:=⟨q,1,none⟩) hq _).setCell (p:=⟨q,2,none⟩) hq _).setCell (p:=⟨q,3,none⟩) hq _).setCell (p:=⟨q,4,none⟩) hq _,hq,ga,gb,gc⟩
theorem jjt (w w1:World) (k:Kept (w.alloc (.cells #[.string ⟨#[]⟩,.slice none 0 0,.slice none 0 0,.slice none 0 0,.bool false] 42)) w1):∀W,Kept w1 W →
 (W.cell? ⟨w.heap.size,0,none⟩=some (.string ⟨#[]⟩)∧W.cell? ⟨w.heap.size,1,none⟩=some (.slice none 0 0)∧W.cell? ⟨w.heap.size,2,none⟩=some (.slice none 0 0)∧W.cell? ⟨w.heap.size,3,none⟩=some (.slice none 0 0)∧W.cell? ⟨w.heap.size,4,none⟩=some (.bool false)) ∧
 W.frozen? ⟨w.heap.size,0,none⟩=false∧W.frozen? ⟨w.heap.size,1,none⟩=false∧W.frozen? ⟨w.heap.size,2,none⟩=false∧W.frozen? ⟨w.heap.size,3,none⟩=false∧W.frozen? ⟨w.heap.size,4,none⟩=false :=
 fun W (kk:Kept w1 W)=>YC w _ _ _ _ _ 42 W (k.trans kk)
theorem jjC {s:List UInt8} {ps:List (List UInt8)} (h:Zg s=some ps):∃a b c d e,ps=[a,b,c,d,e]∧∀p ∈ ps,p.length≤s.length:=by
 unfold Zg at h;split at h
 · rename_i h5
   cases h
   have hl:=h5.1;have hm:∀p ∈ je 32 s,p.length≤s.length:=fun p hp=>Z9 32 s p hp
   match hps:je 32 s,hl with
   | [a,b,c,d,e],_=>exact⟨a,b,c,d,e,rfl,by rw[hps] at hm;exact hm⟩
 · cases h
theorem Vec.Reads.mk' {w:World} {a:Option Addr} {cap:Nat} {l:Vec.V} (h1:l.length≤cap) (h2:cap≤maxLen) (h3:Vec.jt w a l.length l):Vec.Reads w (.slice a l.length cap) l:=⟨a,cap,rfl,h1,h2,h3⟩
theorem Reads.mk' {α:Type} {L:Lay α} {w:World} {a:Option Addr} {cap:Nat} {l:List α} (h1:l.length≤cap) (h2:cap≤maxLen) (h3:jr L w a l.length l):Reads L w (.slice a l.length cap) l:=⟨a,cap,rfl,h1,h2,h3⟩
theorem qX (x:ByteArray) (a1 a2 a3:Option Addr) (l1 c1 l2 c2 l3 c3:Nat) (b:Bool) (w:World):Calls Tryz.prog 84 #[.agg #[.string x,.slice a1 l1 c1,.slice a2 l2 c2,.slice a3 l3 c3,.bool b],.int .i64 0] w fun e w'=>e=.returned (.agg #[.string x,.slice a1 l1 c1,.slice a2 l2 c2,.slice a3 l3 c3,.bool b])∧Kept w w':=by
 go_enter Tryz.func84,Tryz.ntmps84;go_wp2;go_returns
 exact⟨rfl,jk _ _ _⟩
theorem jch (B:Nat) (q:Nat) (x y:Int) (w:World) (hq:w.cell? ⟨q,0,none⟩=some (.int .i64 y)) (hzq:w.frozen? ⟨q,0,none⟩=false) (hBq:B≤q) :
 CallsD Tryz.prog 158 #[.pointer (some ⟨q,0,none⟩)] (.panicking [ju x]) w fun e u' w' =>
  e=.returned (.tuple #[])∧u'=.panicking [{ ju x with recovered:=true }]∧w'=w.setCell ⟨q,0,none⟩ (.int .i64 x)∧w'.cell? ⟨q,0,none⟩=some (.int .i64 x)∧Below B w w':=by
 have hta:∀W,(Instr.typeAssert (.iface 32 (.int .i64 x)) 20 32 false).run Tryz.prog W=.ok (.int .i64 x) W:=fun _=>by kernel_rfl
 refine callsD_of_wpS Tryz.func158 rfl fun c₀ cs hu=>?_;apply wpS_seq;apply wpS_region;simp[wpOpsS,go_sem,recoverD,hu,Tryz.ntmps158,Exit.thenS];apply wpS_seq;apply wpS_region;simp[wpOpsS,go_sem,recoverD,Exit.thenS];refine wpS_cond (t:=true) (by simp[Act.eval,Array.replicate]) ?_;simp only[if_true];refine wpS_of_wp ?_;simp[Array.replicate];go_wp2;simp[bodyPostS,results,Tryz.results158];exact⟨World.cell?_setCell_same' _ _ _ (by rw[hq];rfl),(Below.refl B w).setCell (p:=⟨q,0,none⟩) hBq _⟩
theorem jgi (q:Addr) (w:World) :
 CallsD Tryz.prog 158 #[.pointer (some q)] .returning w fun e u' w'=>e=.returned (.tuple #[])∧u'=.returning∧w'=w:=by
 refine callsD_of_wpS Tryz.func158 rfl fun c₀ cs hu=>?_;apply wpS_seq;apply wpS_region;simp[wpOpsS,go_sem,recoverD,hu,Tryz.ntmps158,Exit.thenS];apply wpS_seq;apply wpS_region;simp[wpOpsS,go_sem,recoverD,hu,Exit.thenS];refine wpS_cond (t:=false) (by simp[Act.eval,Array.replicate]) ?_;simp only[Bool.false_eq_true,if_false];refine wpS_of_wp (wp_skip ?_)
 cases c₀
 simp_all [bodyPostS,results,Tryz.results158]
def jmU (r:Int×Nod) (w:World) (e:Ending) (w':World):Prop:=∃v,e=.returned (.tuple #[v,.int .i64 r.1])∧JJ w.heap.size w' v r.2∧Kept w w'
theorem jh9 {s:List UInt8} (h:(zj s).1≠0):(zj s).2=Nod.zero:=by
 unfold zj at h ⊢;split
 · rename_i a b c d e he;rw[he] at h;dsimp only at h;unfold jb5 at h ⊢;split
   · rfl
   · rename_i h1;rw[if_neg h1] at h;split
     · rfl
     · rename_i h2;rw[if_neg h2] at h;split
       · rfl
       · rename_i h3;rw[if_neg h3] at h;split
         · rfl
         · rename_i h4;rw[if_neg h4] at h;exact absurd rfl h
 · rfl
theorem qt (B:Nat) (w:World):JJ B w (.agg #[.string ⟨#[]⟩,.slice none 0 0,.slice none 0 0,.slice none 0 0,.bool false]) Nod.zero :=
 ⟨none,0,0,none,0,0,none,0,0,rfl,(by decide:(0:Nat)≤maxLen),Vec.Reads.nil w,Reads.nil w,Reads.nil w,(fun _ _ _ e=>by cases e),(fun _ _ _ e=>by cases e),(fun _ _ _ e=>by cases e)⟩
theorem JJ.less {B B':Nat} {w:World} {v:Value} {n:Nod} (h:JJ B w v n) (hb:B'≤B):JJ B' w v n:=by
 obtain⟨a1,m1,c1,a2,m2,c2,a3,m3,c3,e,h0,h1,h2,h3,g1,g2,g3⟩:=h;exact⟨a1,m1,c1,a2,m2,c2,a3,m3,c3,e,h0,h1,h2,h3,fun b o s e=>Nat.le_trans hb (g1 b o s e),fun b o s e=>Nat.le_trans hb (g2 b o s e),fun b o s e=>Nat.le_trans hb (g3 b o s e)⟩
theorem JJ.far {B:Nat} {w w':World} {v:Value} {n:Nod} (h:JJ B w v n) (hs:w'.heap.size=w.heap.size) (hb:∀b,B≤b→w'.heap[b]?=w.heap[b]?):JJ B w' v n:=by
 obtain⟨a1,m1,c1,a2,m2,c2,a3,m3,c3,e,h0,h1,h2,h3,g1,g2,g3⟩:=h;exact⟨a1,m1,c1,a2,m2,c2,a3,m3,c3,e,h0,h1.far hs (fun b o s e=>hb b (g1 b o s e)),h2.far hs (fun b o s e=>hb b (g2 b o s e)),h3.far hs (fun b o s e=>hb b (g3 b o s e)),g1,g2,g3⟩
theorem JJ.kept {B:Nat} {w w':World} {v:Value} {n:Nod} (h:JJ B w v n) (k:Kept w w'):JJ B w' v n:=by
 obtain⟨a1,m1,c1,a2,m2,c2,a3,m3,c3,e,h0,h1,h2,h3,g1,g2,g3⟩:=h;exact⟨a1,m1,c1,a2,m2,c2,a3,m3,c3,e,h0,h1.kept k,h2.kept k,h3.kept k,g1,g2,g3⟩
def joJ (q:Nat) (x:ByteArray) (a1 a2 a3:Option Addr) (m1 c1 m2 c2 m3 c3:Nat) (b:Bool) (W W':World):Prop :=
 (W'.cell? ⟨q,0,none⟩=some (.string x)∧W'.cell? ⟨q,1,none⟩=some (.slice a1 m1 c1)∧W'.cell? ⟨q,2,none⟩=some (.slice a2 m2 c2)∧W'.cell? ⟨q,3,none⟩=some (.slice a3 m3 c3)∧W'.cell? ⟨q,4,none⟩=some (.bool b)) ∧
  W'.heap.size=W.heap.size∧(∀j,j≠q→W'.heap[j]?=W.heap[j]?)∧∀B w,B≤q→Below B w W→Below B w W'
theorem Xk {W:World} {q:Nat} {v0 v1 v2 v3 v4:Value} (y:W.cell? ⟨q,0,none⟩=some v0∧W.cell? ⟨q,1,none⟩=some v1∧W.cell? ⟨q,2,none⟩=some v2∧W.cell? ⟨q,3,none⟩=some v3∧W.cell? ⟨q,4,none⟩=some v4) (x:ByteArray) (a1 a2 a3:Option Addr) (m1 c1 m2 c2 m3 c3:Nat) (b:Bool) :
 joJ q x a1 a2 a3 m1 c1 m2 c2 m3 c3 b W (((((W.setCell ⟨q,0,none⟩ (.string x)).setCell ⟨q,1,none⟩ (.slice a1 m1 c1)).setCell ⟨q,2,none⟩ (.slice a2 m2 c2)).setCell ⟨q,3,none⟩ (.slice a3 m3 c3)).setCell ⟨q,4,none⟩ (.bool b)) :=
 ⟨jaG y.1 y.2.1 y.2.2.1 y.2.2.2.1 y.2.2.2.2 _ rfl,jbf _ _ _ _ _ _ _,fun j hj=>qc _ _ _ _ _ _ _ j hj,
  fun B w hB hk=>((((hk.setCell (p:=⟨q,0,none⟩) hB _).setCell (p:=⟨q,1,none⟩) hB _).setCell (p:=⟨q,2,none⟩) hB _).setCell (p:=⟨q,3,none⟩) hB _).setCell (p:=⟨q,4,none⟩) hB _⟩
theorem jhh (C:Addr) (r:Int×Nod) (w:World) (hr:r.1≠0→r.2=Nod.zero)
 (hk:∀W,Kept w W→Calls Tryz.prog 124 #[.pointer (some C)] W (Xz r W)) :
 Calls Tryz.prog 123 #[.func (.func 124) #[] #[.pointer (some C)]] w (jmU r w):=by
 have hmf:=hmfL (P:=Tryz.prog);have HR:=lH hr;obtain⟨Z,hZ⟩:∃Z,(w.alloc (.cells #[.string ⟨#[]⟩,.slice none 0 0,.slice none 0 0,.slice none 0 0,.bool false] 42)).alloc (.cells #[.int .i64 0] 32)=Z:=⟨_,rfl⟩
 have hkz:Kept w Z:=by rw[←hZ];exact jk _ _ _
 have hzs:Z.heap.size=w.heap.size+2:=by rw[←hZ];simp
 have HK:=lH hkz;have HZ:=lH (fun W (kk:Kept Z W)=>YC w (.string ⟨#[]⟩) (.slice none 0 0) (.slice none 0 0) (.slice none 0 0) (.bool false) 42 W (by rw[←hZ] at kk;exact(ja _ _).trans kk));have HZE:=lH (show ∀W,Kept Z W→W.cell? ⟨w.heap.size+1,0,none⟩=some (.int .i64 0)∧W.frozen? ⟨w.heap.size+1,0,none⟩=false from fun W kk=>by
  have hb:=jau (w.alloc (.cells #[.string ⟨#[]⟩,.slice none 0 0,.slice none 0 0,.slice none 0 0,.bool false] 42)) (.int .i64 0) 32;rw[hZ,World.size_alloc] at hb;exact⟨cell_later kk hb.1,(kk.frozen (p:=⟨w.heap.size+1,0,none⟩) (by rw[hzs];exact Nat.lt_succ_self _)).trans hb.2⟩)
 have HKC:=lH (hk Z hkz);clear hk hr hkz;obtain⟨r1,r2⟩:=r;go_enter_defers Tryz.func123,Tryz.ntmps123
 go_wp2_with fail
 try rw[hZ]
 refine HKC.out.mono ?_;rintro e1 w1 ⟨h0,h1,hb⟩;have KK:=lH hb;obtain⟨⟨y0,y1,y2,y3,y4⟩,x0,x1,x2,x3,x4⟩:=HZ.out _ hb;obtain⟨z0,z1⟩:=HZE.out _ hb;have Y:=lH (And.intro y0 (And.intro y1 (And.intro y2 (And.intro y3 y4))));have hws:w.heap.size+1<w1.heap.size:=by have:=hb.size;omega
 by_cases hx:r1=0
 · subst hx;obtain⟨v,rfl,hn⟩:=h0 rfl;have HN:=lH hn;obtain⟨a1,m1,c1,a2,m2,c2,a3,m3,c3,rfl,-⟩:=hn;have P:=lH (Xk Y.out r2.name a1 a2 a3 m1 c1 m2 c2 m3 c3 r2.cordon);clear h0 h1 hb Y hZ;obtain⟨x,hxx⟩:∃x,r2.name=x:=⟨_,rfl⟩
   obtain⟨cd,hcd⟩:∃x,r2.cordon=x:=⟨_,rfl⟩
   dsimp only at P HN ⊢;rw[hxx,hcd] at P HN;rw[hxx,hcd];clear hxx hcd;go_wp2_with fail
   obtain⟨WE,hWE⟩:∃W,(((((w1.setCell ⟨w.heap.size,0,none⟩ (.string x)).setCell ⟨w.heap.size,1,none⟩ (.slice a1 m1 c1)).setCell ⟨w.heap.size,2,none⟩ (.slice a2 m2 c2)).setCell ⟨w.heap.size,3,none⟩ (.slice a3 m3 c3)).setCell ⟨w.heap.size,4,none⟩ (.bool cd))=W:=⟨_,rfl⟩
   rw[hWE] at P ⊢;obtain⟨⟨d0,d1,d2,d3,d4⟩,hsz,hbl,hkp⟩:=P.out;have ez:WE.cell? ⟨w.heap.size+1,0,none⟩=some (.int .i64 0):=(World.cell?_of_block (a:=⟨w.heap.size+1,0,none⟩) (hbl (w.heap.size+1) (by omega))).trans z0;have hb2:∀b,b≠w.heap.size+1→(WE.setCell ⟨w.heap.size+1,0,none⟩ (.int .i64 0)).heap[b]?=WE.heap[b]?:=fun b hb=>Below.heap_setCell WE ⟨w.heap.size+1,0,none⟩ _ b hb;have fe:=World.cell?_setCell_same' WE ⟨w.heap.size+1,0,none⟩ (.int .i64 0) (by rw[ez];rfl);have ff:∀j v,WE.cell? ⟨w.heap.size,j,none⟩=some v→(WE.setCell ⟨w.heap.size+1,0,none⟩ (.int .i64 0)).cell? ⟨w.heap.size,j,none⟩=some v:=fun j v h=>(World.cell?_of_block (a:=⟨w.heap.size,j,none⟩) (hb2 w.heap.size (by omega))).trans h;have f0:=ff 0 _ d0;have f1:=ff 1 _ d1;have f2:=ff 2 _ d2;have f3:=ff 3 _ d3;have f4:=ff 4 _ d4;have KF:=lH (show Kept w (WE.setCell ⟨w.heap.size+1,0,none⟩ (.int .i64 0)) from(hkp _ _ (Nat.le_refl _) (HK.out.trans KK.out)).setCell (p:=⟨w.heap.size+1,0,none⟩) (Nat.le_succ _) _);have NF:=lH ((HN.out.far (w':=WE.setCell ⟨w.heap.size+1,0,none⟩ (.int .i64 0)) (by simp[World.setCell,hsz]) (fun b hb=>(hb2 b (by omega)).trans (hbl b (by omega)))).less (B':=w.heap.size) (by omega));obtain⟨WF,hWF⟩:∃W,WE.setCell ⟨w.heap.size+1,0,none⟩ (.int .i64 0)=W:=⟨_,rfl⟩
   rw[hWF] at fe f0 f1 f2 f3 f4 KF NF ⊢;clear hWE hWF ff hb2 ez P hbl hkp d0 d1 d2 d3 d4 y0 y1 y2 y3 y4 x0 x1 x2 x3 x4 z0 z1;refine leaves_cons (f:=158) (args:=#[.pointer (some ⟨w.heap.size+1,0,none⟩)]) (by simp) (by simp[go_sem]) ?_;refine(jgi ⟨w.heap.size+1,0,none⟩ _).mono ?_;rintro e u' w'' ⟨rfl,rfl,rfl⟩;simp[Leaves,settle,results,Tryz.results123,go_sem,fe,f0,f1,f2,f3,f4];exact⟨_,rfl,NF.out,KF.out⟩
 · obtain rfl:=h1 hx;obtain rfl:=HR.out hx;have KW:=lH (HK.out.trans KK.out);clear h0 h1 hb hZ Y;go_wp2_with fail
   refine leaves_cons (f:=158) (args:=#[.pointer (some ⟨w.heap.size+1,0,none⟩)]) (by simp) (by simp[go_sem]) ?_;refine(jch w.heap.size (w.heap.size+1) r1 0 _ z0 z1 (by omega)).mono ?_;rintro e u' w'' ⟨rfl,rfl,rfl,q2,q3⟩;have hb2:(w1.setCell ⟨w.heap.size+1,0,none⟩ (.int .i64 r1)).heap[w.heap.size]?=w1.heap[w.heap.size]?:=Below.heap_setCell w1 ⟨w.heap.size+1,0,none⟩ _ w.heap.size (by simp);have ff:∀j v,w1.cell? ⟨w.heap.size,j,none⟩=some v→(w1.setCell ⟨w.heap.size+1,0,none⟩ (.int .i64 r1)).cell? ⟨w.heap.size,j,none⟩=some v:=fun j v h=>(World.cell?_of_block (a:=⟨w.heap.size,j,none⟩) hb2).trans h;have f0:=ff 0 _ y0;have f1:=ff 1 _ y1;have f2:=ff 2 _ y2;have f3:=ff 3 _ y3;have f4:=ff 4 _ y4;have KF:=lH (show Kept w _ from Below.trans KW.out q3);obtain⟨WF,hWF⟩:∃W,w1.setCell ⟨w.heap.size+1,0,none⟩ (.int .i64 r1)=W:=⟨_,rfl⟩
   rw[hWF] at q2 f0 f1 f2 f3 f4 KF ⊢;clear hWF ff hb2 q3 y0 y1 y2 y3 y4 x0 x1 x2 x3 x4 z0 z1;simp[Leaves,settle,results,Tryz.results123,go_sem,q2,f0,f1,f2,f3,f4];exact⟨_,rfl,qt _ _,KF.out⟩
def Kind (t e:TypeId) (size bytes:Nat):Prop:=∃i z,Tryz.prog.underlying t=some (.slice e)∧Tryz.prog.info? e=some i∧i.zero=some z∧i.size=size∧i.bytes=bytes∧z.cells.size=size∧0<size
def jbt (w:World) (y:Value) (m:Nat) (news:List Value):Prop :=
 (∃ad c,y=.slice (some ad) m c∧∀j u,news[j]?=some u→w.cell? (ad.add j)=some u)∨(∃c,y=.slice none 0 c∧m=0)
theorem jhS {t e:TypeId} {size bytes:Nat} (K:Kind t e size bytes) (w:World) (B:Nat) (hB:B≤w.heap.size) (g n cap:Nat) (xs:List Value) (hown:w.ownsRow B e size (.slice (some ⟨g,0,none⟩) n cap) n xs) (y:Value) (m:Nat) (news:List Value) (hl:news.length=m*size) (hone:∀u ∈ news,u.oneCell'=true) (hy:jbt w y m news)
 (h63:n+m≤maxLen) (hb:((n+m)+(n+m) / 4+192)*bytes≤281474976710656) (ty:TypeId) :
 ∃g' cap' w',(Builtin.append_ #[t,t] ty #[.slice (some ⟨g,0,none⟩) n cap,y]).run Tryz.prog w=.ok (.slice (some ⟨g',0,none⟩) (n+m) cap') w'∧w'.ownsRow B e size (.slice (some ⟨g',0,none⟩) (n+m) cap') (n+m) (xs++news)∧Below B w w'∧w.grownBy w' (some g):=by
 obtain⟨i,z,ht,hi,hz,h1,h8,hzs,hsz⟩:=K;have hbg:B≤g:=by
  rcases hown.2 with ⟨h0,_⟩ | ⟨g2,cap2,cur,h0,hbg,_⟩
  · cases h0
  · cases h0;exact hbg
 rcases hy with ⟨ad,c,rfl,hc⟩ | ⟨c,rfl,rfl⟩
 · obtain⟨v',w',hr,ho,hg,hnil⟩:=run_append_own_wide w B t ty e i z size bytes ht hi hz h1 h8 hzs hsz _ n xs hown ad m c news hl hc hone h63 hb hB;have hb:=(Below.refl B w).grown hg hB (by intro k hk;cases hk;exact hbg);rcases ho.2 with ⟨h0,_⟩ | ⟨g2,cap2,cur,rfl,_⟩
   · have:=(hnil.1 h0).1
     cases this
   · exact⟨g2,cap2,w',hr,ho,hb,hg⟩
 · have:news=[]:=List.eq_nil_of_length_eq_zero (by rw[hl,Nat.zero_mul]);subst this;rcases hown.2 with ⟨h0,_⟩ | ⟨g2,cap2,cur,h0,_,hg,hnc,_⟩
   · cases h0
   · cases h0
     have hr:=run_append_room_src w t t ty e i ht hi g 0 n cap (.slice none 0 c) 0 [] (Src.ofNil w ht c) (by omega) (by intro j hj;simp at hj) (by intro j hj;simp at hj);exact⟨_,_,_,hr,by simpa [World.setCells] using hown,Below.refl B w,World.grownBy.refl _ _⟩
theorem jjB {t e:TypeId} {size bytes:Nat} (Kd:Kind t e size bytes) {o:Oper} {a:Act} {K:Act→World→Prop} {Q:Exit→Act→World→Prop} (s x:Operand) (w:World)
 (ho:o.op=.call { callee:=.builtin .append,args:=#[s,x],argTypes:=#[t,t] })
 (B:Nat) (hB:B≤w.heap.size) (g n cap:Nat) (xs:List Value) (hs:a.eval s=.slice (some ⟨g,0,none⟩) n cap) (hown:w.ownsRow B e size (.slice (some ⟨g,0,none⟩) n cap) n xs) (y:Value) (m:Nat) (news:List Value) (hx:a.eval x=y) (hl:news.length=m*size) (hone:∀u ∈ news,u.oneCell'=true) (hy:jbt w y m news)
 (h63:n+m≤maxLen) (hb:((n+m)+(n+m) / 4+192)*bytes≤281474976710656)
 (h:∀g' cap' w',w'.ownsRow B e size (.slice (some ⟨g',0,none⟩) (n+m) cap') (n+m) (xs++news)→Below B w w'→w.grownBy w' (some g)→K (a.put o.dst (.slice (some ⟨g',0,none⟩) (n+m) cap')) w'):o.wp Tryz.prog a w K Q:=by
 obtain⟨g',cap',w',hr,h2,h3,h4⟩:=jhS Kd w B hB g n cap xs hown y m news hl hone hy h63 hb o.type;unfold Oper.wp execOp;simp only[ho,resolve,invoke,builtin,Sem.run_bind,Sem.run_pure,Result.andThen_ok,List.map_toArray,List.map_cons,List.map_nil,hs,hx,hr];exact h g' cap' w' h2 h3 h4
theorem XK {t e:TypeId} {size bytes:Nat} (Kd:Kind t e size bytes) {ops:Array Oper} {rest:List Oper} {o:Oper} {a:Act} {Q:Exit→Act→World→Prop} (w:World) (hgd:o.guard=none) (s x:Operand)
 (ho:o.op=.call { callee:=.builtin .append,args:=#[s,x],argTypes:=#[t,t] })
 (B:Nat) (hB:B≤w.heap.size) (g n cap:Nat) (xs:List Value) (hs:a.eval s=.slice (some ⟨g,0,none⟩) n cap) (hown:w.ownsRow B e size (.slice (some ⟨g,0,none⟩) n cap) n xs) (y:Value) (m:Nat) (news:List Value) (hx:a.eval x=y) (hl:news.length=m*size) (hone:∀u ∈ news,u.oneCell'=true) (hy:jbt w y m news)
 (h63:n+m≤maxLen) (hb:((n+m)+(n+m) / 4+192)*bytes≤281474976710656)
 (h:∀g' cap' w',w'.ownsRow B e size (.slice (some ⟨g',0,none⟩) (n+m) cap') (n+m) (xs++news)→Below B w w'→w.grownBy w' (some g)→wpList Tryz.prog ops Q rest (a.put o.dst (.slice (some ⟨g',0,none⟩) (n+m) cap')) w'):wpList Tryz.prog ops Q (o::rest) a w :=
 wpList_plain hgd fun _ hK=>jjB Kd s x w ho B hB g n cap xs hs hown y m news hx hl hone hy h63 hb fun g' cap' w' h2 h3 h4=>hK _ _ (h g' cap' w' h2 h3 h4)
theorem jbT (w:World) (B size:Nat) (e:TypeId) (hB:B≤w.heap.size):(w.alloc (.cells #[] e)).ownsRow B e size (.slice (some ⟨w.heap.size,0,none⟩) 0 0) 0 [] :=
 ⟨by simp,.inr ⟨w.heap.size,0,#[],rfl,hB,World.alloc_heap_new w _,by omega,by unfold maxLen;omega,by simp,by simp⟩⟩
theorem jbb {α:Type} (L:Lay α):∀(l:List α) (j:Nat) (u:Value),(jd L l)[j]?=some u→∃i x k,l[i]?=some x∧(L.cs x)[k]?=some u∧j=i*L.m+k
 | [],j,u,h=>by simp[jd] at h
 | y::t,j,u,h=>by
  unfold jd at h;rw[List.flatMap_cons] at h;by_cases hj:j<L.m
  · rw[List.getElem?_append_left (by rw[L.len];exact hj)] at h;exact⟨0,y,j,rfl,h,by omega⟩
  · rw[List.getElem?_append_right (by rw[L.len];omega),L.len] at h;obtain⟨i,x,k,h1,h2,h3⟩:=jbb L t (j-L.m) u h;exact⟨i+1,x,k,by simpa using h1,h2,by rw[Nat.add_mul];omega⟩
theorem jr.src {α:Type} {L:Lay α} {w:World} {a:Option Addr} {len cap:Nat} {l:List α} (h:jr L w a len l):jbt w (.slice a len cap) len (jd L l):=by
 obtain⟨h0,h1,h2,h3⟩:=h;rcases h3 with h3 | ⟨b,off,rfl,hb,hc⟩
 · have hl:l=[]:=List.eq_nil_of_length_eq_zero (by omega);subst hl;subst h3
   cases a with
   | none=>exact .inr ⟨cap,rfl,rfl⟩
   | some ad=>exact .inl ⟨ad,cap,rfl,fun j u hu=>by simp[jd] at hu⟩
 · refine .inl ⟨_,cap,rfl,fun j u hu=>?_⟩;obtain⟨i,x,k,hi,hk,rfl⟩:=jbb L l j u hu;have e:(⟨b,off,none⟩:Addr).add (i*L.m+k)=⟨b,off+i*L.m+k,none⟩:=by
    unfold Addr.add;split<;>simp_all [Nat.add_assoc]
   rw[e];exact hc i x k u hi hk
end Go.Proofs.YthmddloeggdohaaGreatDoor
