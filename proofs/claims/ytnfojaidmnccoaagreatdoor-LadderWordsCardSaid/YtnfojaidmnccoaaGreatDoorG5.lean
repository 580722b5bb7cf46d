/- C. -/
import Derived.Test.YtnfojaidmnccoaaGreatDoorG0
import Derived.Test.YtnfojaidmnccoaaGreatDoorG2
import Derived.Test.YtnfojaidmnccoaaGreatDoorG3
import Derived.Test.YtnfojaidmnccoaaGreatDoorG4
set_option linter.unusedVariables false
set_option maxRecDepth 100000
set_option maxHeartbeats 25600000
namespace Go.Proofs.YtnfojaidmnccoaaGreatDoor
open Go.RowKit
def lk1:List UInt8:=[99,112,117,32,99,112,117,61,49,48,44,109,101,109,61,52,32,49,47,51,32,49,48,48,58,50,58,53,48,48,32,50,48,48,58,57,58,49,48,48,48]
def lk2:List UInt8:=[99,112,117,32,45,32,49,32,49,58,49,58,49]
def lk3:List UInt8:=[99,112,117,32,45,32,51,47,49]
def lk4:List UInt8:=[99,112,117,32,45,32,48,47,49,32,53,58,49,58,49,32,53,58,49,58,49]
def kLd:Lad:=⟨Vec.cpu,[(Vec.cpu,10),(Vec.mem,4)],[(100,2,500),(200,9,1000)],1,3⟩
def kLe:Lad:=⟨Vec.cpu,[],[],0,0⟩
def kLf:Lad:=⟨Vec.cpu,[(Vec.cpu,1)],[],2,3⟩
theorem jcU:jF kLd=0:=by kernel_rfl
theorem jc6:jd lk1=(0,kLd):=by kernel_rfl
theorem jc9:(jd lk2).1=2:=by kernel_rfl
theorem jdb:(jd lk3).1=1:=by kernel_rfl
theorem jda:(jd lk4).1=13:=by kernel_rfl
theorem jcY:zR kLd [(Vec.cpu,100)]=(2,[(Vec.cpu,5),(Vec.mem,2)],0):=by kernel_rfl
theorem jcX:zR kLd [(Vec.cpu,999)]=(3,[(Vec.cpu,10),(Vec.mem,4)],0):=by kernel_rfl
theorem jc7:zR kLf []=(2,[(Vec.cpu,1)],0):=by kernel_rfl
theorem jc2:atL kLd []=some (100,2,500):=by kernel_rfl
theorem jc8:atL kLe []=none:=by kernel_rfl
theorem jc4:Vec.j0 [(Vec.cpu,5),(Vec.mem,2)]=[99,112,117,61,53,44,109,101,109,61,50]:=by kernel_rfl
theorem jc0:Vec.j0 [(Vec.cpu,10),(Vec.mem,4)]=[99,112,117,61,49,48,44,109,101,109,61,52]:=by kernel_rfl
theorem jc1:Vec.j0 [(Vec.cpu,1)]=[99,112,117,61,49]:=by kernel_rfl
theorem jc3:Zo kLd=lk1:=by kernel_rfl
theorem ZZ (w:World) (s:ByteArray) (m:Int) (T:TypeId) (hs:s.size≤maxLen) (hm:-9223372036854775808≤m∧m≤9223372036854775807) :
 Vec.Reads (w.alloc (.cells #[.string s,.int .i64 m] T)) (.slice (some ⟨w.heap.size,0,none⟩) 1 1) [(s,m)]:=by
 refine⟨_,1,rfl,Nat.le_refl _,by decide,rfl,(by decide:1≤maxLen),Vec.jX.cons.2 ⟨⟨hs,hm⟩,Vec.jX.nil⟩,.inr ⟨w.heap.size,0,rfl,by simp,fun i hi=>?_⟩⟩;have hh:=w.alloc_heap_new (.cells #[.string s,.int .i64 m] T)
 match i,hi with
 | 0,_=>exact⟨by rw[Lib.cell_of_heap hh];rfl,by rw[Lib.cell_of_heap hh];rfl⟩
theorem jba (w:World) (hE:Vec.zc w):Calls Tryz.prog 24 #[.string ⟨#[99,112,117,32,99,112,117,61,49,48,44,109,101,109,61,52,32,49,47,51,32,49,48,48,58,50,58,53,48,48,32,50,48,48,58,57,58,49,48,48,48]⟩] w fun e w'=>∃a1 m1 c1 a2 m2 c2,e=.returned (.tuple #[.agg #[.string ⟨#[99,112,117]⟩,.slice a1 m1 c1,.slice a2 m2 c2,.int .i64 1,.int .i64 3],.int .i64 0])∧j7 w' (.slice a1 m1 c1) (.slice a2 m2 c2) kLd∧Kept w w':=by
 refine(JB lk1 w hE (by decide)).mono ?_;rintro e w' ⟨v,he,hn,k⟩;rw[jc6] at he hn;obtain⟨a1,m1,c1,a2,m2,c2,rfl,hat,-⟩:=hn;exact⟨a1,m1,c1,a2,m2,c2,he,hat,k⟩
theorem Zy (s:List UInt8) (c:Int) (w:World) (hE:Vec.zc w) (hs:s.length≤900000) (h:(jd s).1=c) (hc:c≠0):Calls Tryz.prog 24 #[.string (bytes s)] w fun e w'=>∃a1 m1 c1 a2 m2 c2,e=.returned (.tuple #[.agg #[.string ⟨#[]⟩,.slice a1 m1 c1,.slice a2 m2 c2,.int .i64 0,.int .i64 0],.int .i64 c])∧Kept w w':=by
 refine(JB s w hE hs).mono ?_;rintro e w' ⟨v,he,hn,k⟩;rw[JC (by rw[h];exact hc)] at hn;rw[h] at he;obtain⟨a1,m1,c1,a2,m2,c2,rfl,hat,-⟩:=hn;exact⟨a1,m1,c1,a2,m2,c2,he,k⟩
theorem jcE (w:World):j7 w (.slice none 0 0) (.slice none 0 0) kLe:=⟨by decide,Vec.Reads.nil _,Reads.nil _,by unfold I64 kLe;decide,by unfold I64 kLe;decide⟩
theorem jcG (w:World) (T:TypeId):j7 (w.alloc (.cells #[.string Vec.cpu,.int .i64 1] T)) (.slice (some ⟨w.heap.size,0,none⟩) 1 1) (.slice none 0 0) kLf:=⟨by decide,ZZ w _ _ T (by decide) (by decide),Reads.nil _,by unfold I64 kLf;decide,by unfold I64 kLf;decide⟩
theorem jcg {v:Value} (w:World) (hE:Vec.zc w) (h:Vec.Reads w v [(Vec.cpu,5),(Vec.mem,2)]):Calls Tryz.prog 31 #[v] w fun e w'=>e=.returned (.string ⟨#[99,112,117,61,53,44,109,101,109,61,50]⟩)∧Kept w w':=Vec.Y5 hE h (by kernel_rfl) jc4
theorem jb0 {v:Value} (w:World) (hE:Vec.zc w) (h:Vec.Reads w v [(Vec.cpu,10),(Vec.mem,4)]):Calls Tryz.prog 31 #[v] w fun e w'=>e=.returned (.string ⟨#[99,112,117,61,49,48,44,109,101,109,61,52]⟩)∧Kept w w':=Vec.Y5 hE h (by kernel_rfl) jc0
theorem jbU {v:Value} (w:World) (hE:Vec.zc w) (h:Vec.Reads w v [(Vec.cpu,1)]):Calls Tryz.prog 31 #[v] w fun e w'=>e=.returned (.string ⟨#[99,112,117,61,49]⟩)∧Kept w w':=Vec.Y5 hE h (by kernel_rfl) jc1
theorem jbA (a1 a2:Option Addr) (m1 c1 m2 c2:Nat) (w:World) (hE:Vec.zc w) (h:j7 w (.slice a1 m1 c1) (.slice a2 m2 c2) kLd):Calls Tryz.prog 22 #[.agg #[.string ⟨#[99,112,117]⟩,.slice a1 m1 c1,.slice a2 m2 c2,.int .i64 1,.int .i64 3]] w fun e w'=>e=.returned (.string ⟨#[99,112,117,32,99,112,117,61,49,48,44,109,101,109,61,52,32,49,47,51,32,49,48,48,58,50,58,53,48,48,32,50,48,48,58,57,58,49,48,48,48]⟩)∧Kept w w':=by
 have:=Yn kLd (.slice a1 m1 c1) a2 m2 c2 w hE h (by decide) (by kernel_rfl) (by decide);rw[jc3] at this;exact this
theorem XW (w:World) (hE:Vec.zc w):Calls Tryz.prog 9 #[] w (Say (.bool true) w):=by
 have HE:=lH hE;clear hE;go_enter Tryz.func9,Tryz.ntmps9;go_wp2_with fail
 refine(jba _ HE.out).mono ?_;rintro e w1 ⟨a1,m1,c1,a2,m2,c2,rfl,hat,kk⟩;have Vc:=lH hat;have K:=lH kk;clear hat kk;obtain⟨v2,hv2⟩:=eX (w1.alloc (.cells #[.string ⟨#[99,112,117]⟩,.slice a1 m1 c1,.slice a2 m2 c2,.int .i64 1,.int .i64 3] 26))
 have kk:Kept w1 v2:=by rw[←hv2];exact jb _ _
 have Hkb:=lH (js w1 (.string ⟨#[99,112,117]⟩) [.slice a1 m1 c1,.slice a2 m2 c2,.int .i64 1,.int .i64 3] 26 v2 (by rw[hv2];exact Kept.refl _));obtain⟨kb,hkb⟩:=eX (w1.heap.size)
 rw[hkb] at Hkb;have Vc:=lH (Vc.out.kept kk);have K:=lH (K.out.trans kk);clear kk;have Ev2:=lH hv2;clear hv2;have Ekb:=lH hkb;clear hkb;go_wp2_with fail
 try rw[Ev2.out]
 clear Ev2;try rw[Ekb.out]
 clear Ekb;refine(Zy lk2 2 _ (HE.out.kept K.out) (by decide) jc9 (by decide)).mono ?_;rintro e w2 ⟨x1,x2,x3,x4,x5,x6,rfl,kk⟩;obtain⟨Vc,Hkb,K⟩:=lH3 (Vc.out.kept kk) (Hkb.out.kept kk) (K.out.trans kk);clear kk;obtain⟨v3,hv3⟩:=eX (w2.alloc (.cells #[.string ⟨#[]⟩,.slice x1 x2 x3,.slice x4 x5 x6,.int .i64 0,.int .i64 0] 26))
 have kk:Kept w2 v3:=by rw[←hv3];exact jb _ _
 obtain⟨Vc,Hkb,K⟩:=lH3 (Vc.out.kept kk) (Hkb.out.kept kk) (K.out.trans kk);clear kk;have Ev3:=lH hv3;clear hv3;go_wp2_with fail
 try rw[Ev3.out]
 clear Ev3;refine(Zy lk3 1 _ (HE.out.kept K.out) (by decide) jdb (by decide)).mono ?_;rintro e w3 ⟨x1,x2,x3,x4,x5,x6,rfl,kk⟩;obtain⟨Vc,Hkb,K⟩:=lH3 (Vc.out.kept kk) (Hkb.out.kept kk) (K.out.trans kk);clear kk;obtain⟨v4,hv4⟩:=eX (w3.alloc (.cells #[.string ⟨#[]⟩,.slice x1 x2 x3,.slice x4 x5 x6,.int .i64 0,.int .i64 0] 26))
 have kk:Kept w3 v4:=by rw[←hv4];exact jb _ _
 obtain⟨Vc,Hkb,K⟩:=lH3 (Vc.out.kept kk) (Hkb.out.kept kk) (K.out.trans kk);clear kk;have Ev4:=lH hv4;clear hv4;go_wp2_with fail
 try rw[Ev4.out]
 clear Ev4;refine(Zy lk4 13 _ (HE.out.kept K.out) (by decide) jda (by decide)).mono ?_;rintro e w4 ⟨x1,x2,x3,x4,x5,x6,rfl,kk⟩;obtain⟨Vc,Hkb,K⟩:=lH3 (Vc.out.kept kk) (Hkb.out.kept kk) (K.out.trans kk);clear kk;obtain⟨v5,hv5⟩:=eX (w4.alloc (.cells #[.string ⟨#[]⟩,.slice x1 x2 x3,.slice x4 x5 x6,.int .i64 0,.int .i64 0] 26))
 have kk:Kept w4 v5:=by rw[←hv5];exact jb _ _
 obtain⟨Vc,Hkb,K⟩:=lH3 (Vc.out.kept kk) (Hkb.out.kept kk) (K.out.trans kk);clear kk;have Ev5:=lH hv5;clear hv5;obtain⟨y0,y1,y2,y3,y4⟩:=Hkb.out.at5;go_upto_region 5 with fail
 try rw[Ev5.out]
 clear Ev5;go_wp2_with fail
 refine(Xa (n:=kLd) (t:=[(Vec.cpu,100)]) ⟨_,_,rfl,Vc.out.kept (jb _ _)⟩ (ZZ _ _ _ _ (by decide) (by decide)) jcY).mono ?_;rintro e w5 ⟨r1,rfl,hr,kk⟩;have kk:=(jb v5 _).trans kk;obtain⟨Vc,Hkb,K,Vk⟩:=lH4 (Vc.out.kept kk) (Hkb.out.kept kk) (K.out.trans kk) hr;clear hr kk y0 y1 y2 y3 y4;obtain⟨y0,y1,y2,y3,y4⟩:=Hkb.out.at5;go_wp2_with fail
 refine(Xa (n:=kLd) (t:=[(Vec.cpu,999)]) ⟨_,_,rfl,Vc.out.kept (jb _ _)⟩ (ZZ _ _ _ _ (by decide) (by decide)) jcX).mono ?_;rintro e w6 ⟨r2,rfl,hr,kk⟩;have kk:=(jb w5 _).trans kk;obtain⟨Vc,Hkb,Vk,K,Vm⟩:=lH5 (Vc.out.kept kk) (Hkb.out.kept kk) (Vk.out.kept kk) (K.out.trans kk) hr;clear hr kk y0 y1 y2 y3 y4;obtain⟨y0,y1,y2,y3,y4⟩:=Hkb.out.at5;go_wp2_with fail
 refine(jcv (n:=kLd) (t:=[]) ⟨_,_,rfl,Vc.out⟩ (Vec.Reads.nil _) jc2).mono ?_;rintro e w7 ⟨rfl,kk⟩;obtain⟨Vc,Hkb,Vk,Vm,K⟩:=lH5 (Vc.out.kept kk) (Hkb.out.kept kk) (Vk.out.kept kk) (Vm.out.kept kk) (K.out.trans kk);clear kk y0 y1 y2 y3 y4;obtain⟨v6,hv6⟩:=eX (w7.alloc (.cells #[.int .i64 100,.int .i64 2,.int .i64 500] 46))
 have kk:Kept w7 v6:=by rw[←hv6];exact jb _ _
 have Hrb:=lH (js w7 (.int .i64 100) [.int .i64 2,.int .i64 500] 46 v6 (by rw[hv6];exact Kept.refl _));obtain⟨rb,hrb⟩:=eX (w7.heap.size)
 rw[hrb] at Hrb;obtain⟨Vc,Hkb,Vk,Vm,K⟩:=lH5 (Vc.out.kept kk) (Hkb.out.kept kk) (Vk.out.kept kk) (Vm.out.kept kk) (K.out.trans kk);clear kk;have Ev6:=lH hv6;clear hv6;have Erb:=lH hrb;clear hrb;go_upto_region 8 with fail
 try rw[Ev6.out]
 clear Ev6;try rw[Erb.out]
 clear Erb;go_wp2_with fail
 refine(jcv (n:=kLe) (t:=[]) ⟨_,_,rfl,jcE _⟩ (Vec.Reads.nil _) jc8).mono ?_;rintro e w8 ⟨rfl,kk⟩;obtain⟨Vc,Hkb,Vk,Vm,Hrb,K⟩:=lH6 (Vc.out.kept kk) (Hkb.out.kept kk) (Vk.out.kept kk) (Vm.out.kept kk) (Hrb.out.kept kk) (K.out.trans kk);clear kk;obtain⟨v7,hv7⟩:=eX (w8.alloc (.cells #[.int .i64 0,.int .i64 0,.int .i64 0] 46))
 have kk:Kept w8 v7:=by rw[←hv7];exact jb _ _
 obtain⟨Vc,Hkb,Vk,Vm,Hrb,K⟩:=lH6 (Vc.out.kept kk) (Hkb.out.kept kk) (Vk.out.kept kk) (Vm.out.kept kk) (Hrb.out.kept kk) (K.out.trans kk);clear kk;have Ev7:=lH hv7;clear hv7;go_upto_region 9 with fail
 try rw[Ev7.out]
 clear Ev7;go_wp2_with fail
 refine(Xa (n:=kLf) (t:=[]) ⟨_,_,rfl,jcG v7 _⟩ (Vec.Reads.nil _) jc7).mono ?_;rintro e w9 ⟨r3,rfl,hr,kk⟩;have kk:=(jb v7 _).trans kk;obtain⟨Vc,Hkb,Vk,Vm,Hrb,K,VZ⟩:=lH7 (Vc.out.kept kk) (Hkb.out.kept kk) (Vk.out.kept kk) (Vm.out.kept kk) (Hrb.out.kept kk) (K.out.trans kk) hr;clear hr kk;obtain⟨y0,y1,y2,y3,y4⟩:=Hkb.out.at5;obtain⟨q0,q1,q2⟩:=Hrb.out.at3;go_wp2_with fail
 refine(jcg _ (HE.out.kept K.out) Vk.out).mono ?_;rintro e t1 ⟨rfl,kk⟩;obtain⟨Vc,Hkb,Vk,Vm,Hrb,VZ,K⟩:=lH7 (Vc.out.kept kk) (Hkb.out.kept kk) (Vk.out.kept kk) (Vm.out.kept kk) (Hrb.out.kept kk) (VZ.out.kept kk) (K.out.trans kk);clear kk y0 y1 y2 y3 y4 q0 q1 q2;obtain⟨y0,y1,y2,y3,y4⟩:=Hkb.out.at5;obtain⟨q0,q1,q2⟩:=Hrb.out.at3;go_wp2_with fail
 refine(jb0 _ (HE.out.kept K.out) Vm.out).mono ?_;rintro e t2 ⟨rfl,kk⟩;obtain⟨Vc,Hkb,Vk,Vm,Hrb,VZ,K⟩:=lH7 (Vc.out.kept kk) (Hkb.out.kept kk) (Vk.out.kept kk) (Vm.out.kept kk) (Hrb.out.kept kk) (VZ.out.kept kk) (K.out.trans kk);clear kk y0 y1 y2 y3 y4 q0 q1 q2;obtain⟨y0,y1,y2,y3,y4⟩:=Hkb.out.at5;obtain⟨q0,q1,q2⟩:=Hrb.out.at3;go_wp2_with fail
 refine(jbU _ (HE.out.kept K.out) VZ.out).mono ?_;rintro e t3 ⟨rfl,kk⟩;obtain⟨Vc,Hkb,Vk,Vm,Hrb,VZ,K⟩:=lH7 (Vc.out.kept kk) (Hkb.out.kept kk) (Vk.out.kept kk) (Vm.out.kept kk) (Hrb.out.kept kk) (VZ.out.kept kk) (K.out.trans kk);clear kk y0 y1 y2 y3 y4 q0 q1 q2;obtain⟨y0,y1,y2,y3,y4⟩:=Hkb.out.at5;obtain⟨q0,q1,q2⟩:=Hrb.out.at3;go_wp2_with fail
 refine(jbA _ _ _ _ _ _ _ (HE.out.kept K.out) Vc.out).mono ?_;rintro e t4 ⟨rfl,kk⟩;obtain⟨Vc,Hkb,Vk,Vm,Hrb,VZ,K⟩:=lH7 (Vc.out.kept kk) (Hkb.out.kept kk) (Vk.out.kept kk) (Vm.out.kept kk) (Hrb.out.kept kk) (VZ.out.kept kk) (K.out.trans kk);clear kk y0 y1 y2 y3 y4 q0 q1 q2;obtain⟨y0,y1,y2,y3,y4⟩:=Hkb.out.at5;go_wp2_with fail
 refine(jb8 (n:=kLd) ⟨_,_,rfl,Vc.out⟩ jcU).mono ?_;rintro e t5 ⟨rfl,kk⟩;obtain⟨Vc,Hkb,Vk,Vm,Hrb,VZ,K⟩:=lH7 (Vc.out.kept kk) (Hkb.out.kept kk) (Vk.out.kept kk) (Vm.out.kept kk) (Hrb.out.kept kk) (VZ.out.kept kk) (K.out.trans kk);clear kk y0 y1 y2 y3 y4;go_wp2;go_ret;exact⟨rfl,K.out⟩
theorem Zm:∀(l:RL) (prev:Option Int),jk prev l=0→(∀r ∈ l,jo r.1 r.2.1 r.2.2=0)∧l.Pairwise (fun x y=>x.1<y.1)∧∀q,prev=some q→∀r ∈ l,q<r.1
 | [],prev,_=>⟨fun r h=>absurd h (by simp),.nil,fun q _ r h=>absurd h (by simp)⟩
 | n::t,prev,h=>by
  rw[jk] at h;split at h
  · rename_i h1;exact absurd h h1
  · rename_i h1;split at h
    · cases h
    · rename_i h2;have h1':jo n.1 n.2.1 n.2.2=0:=by omega
      obtain⟨i1,i2,i3⟩:=Zm t (some n.1) h;have hall:=i3 n.1 rfl;refine⟨fun r hr=>?_,List.pairwise_cons.2 ⟨fun r hr=>hall r hr,i2⟩,fun q hq r hr=>?_⟩
      · rcases List.mem_cons.1 hr with rfl | h
        · exact h1'
        · exact i1 r h
      · subst hq;have hlt:q<n.1:=by
         simp only[qz,decide_eq_true_eq] at h2;omega
        rcases List.mem_cons.1 hr with rfl | h
        · exact hlt
        · have:=hall r h;omega
theorem qO {l:RL} (h:jC l=0):l.length≤8∧(∀r ∈ l,jo r.1 r.2.1 r.2.2=0)∧l.Pairwise (fun x y=>x.1<y.1):=by
 unfold jC at h;split at h
 · cases h
 · have:=Zm l none h;exact⟨by omega,this.1,this.2.1⟩
theorem Zq {n:Lad} (h:jF n=0):Ja n.what=0∧Vec.jf n.unit=0∧jP n.lo n.hi=0∧jC n.rungs=0:=XD h
theorem Vec.Reads.grow {w w':World} {a:Option Addr} {m cap:Nat} {l:Vec.V} (h:Vec.Reads w (.slice a m cap) l) (hs:w.heap.size≤w'.heap.size) (hb:∀b off sp,a=some ⟨b,off,sp⟩→w'.heap[b]?=w.heap[b]?):Vec.Reads w' (.slice a m cap) l:=by
 obtain⟨a',cap',e,h1,h2,h3,h4,h5,h6⟩:=h
 cases e
 refine⟨a,cap,rfl,h1,h2,h3,h4,h5,h6.imp id ?_⟩;rintro ⟨b,off,rfl,hlt,hc⟩;exact⟨b,off,rfl,Nat.lt_of_lt_of_le hlt hs,fun i hi=>⟨(World.cell?_of_block (a:=⟨b,off+i*2,none⟩) (hb b off none rfl)).trans (hc i hi).1,(World.cell?_of_block (a:=⟨b,off+i*2+1,none⟩) (hb b off none rfl)).trans (hc i hi).2⟩⟩
theorem YE:(Tryz.prog.info? 49).map (fun i=>(i.zero,i.size,i.bytes))=some (some (.agg #[.int .i64 0,.int .i64 0,.int .i64 0]),3,24):=by kernel_rfl
def jcK (n:Lad) (w:World) (e:Ending) (w':World):Prop:=∃v,e=.returned v∧zx w.heap.size w' v n∧Kept w w'
theorem jbw (n:Lad) (a1 a2:Option Addr) (l1 c1 l2 c2:Nat) (w:World) (h:j7 w (.slice a1 l1 c1) (.slice a2 l2 c2) n) (hu:n.unit.length≤1000) (hn:n.rungs.length≤1000):Calls Tryz.prog 14 #[.agg #[.string n.what,.slice a1 l1 c1,.slice a2 l2 c2,.int .i64 n.lo,.int .i64 n.hi]] w (jcK n w):=by
 obtain⟨a9,c9,e9,-,-,hrow⟩:=id h.rungs;obtain⟨rfl,rfl,rfl⟩:a2=a9∧l2=n.rungs.length∧c2=c9:=by cases e9;exact⟨rfl,rfl,rfl⟩
 obtain⟨a8,c8,e8,-,-,hvec⟩:=id h.unit;obtain⟨rfl,rfl,rfl⟩:a1=a8∧l1=n.unit.length∧c1=c8:=by cases e8;exact⟨rfl,rfl,rfl⟩
 obtain⟨len,hlen⟩:=eX (n.rungs.length)
 have Vj:=lH hlen;obtain⟨l1,hl1⟩:=eX (n.unit.length)
 rw[hlen] at hrow hn ⊢;rw[hl1] at hvec hu ⊢;obtain⟨HR,RT,Vy,U9,RV⟩:=lH5 hrow hvec h.size h.lo h.hi;clear hlen hl1 e9 e8 hrow hvec h;obtain⟨W1,hW1⟩:=eX (w.alloc (.cells #[.string n.what,.slice a1 l1 c1,.slice a2 len c2,.int .i64 n.lo,.int .i64 n.hi] 26))
 have k1:Kept w W1:=by rw[←hW1];exact jb _ _
 have HL:=lH (js w (.string n.what) [.slice a1 l1 c1,.slice a2 len c2,.int .i64 n.lo,.int .i64 n.hi] 26 W1 (by rw[hW1];exact Kept.refl _));obtain⟨q1,hq1⟩:=eX (w.heap.size)
 rw[hq1] at HL;obtain⟨W2,hW2⟩:=eX (W1.alloc (.cells #[.string ⟨#[]⟩,.slice none 0 0,.slice none 0 0,.int .i64 0,.int .i64 0] 35))
 have k2:Kept W1 W2:=by rw[←hW2];exact jb _ _
 have HZ:=lH (js W1 (.string ⟨#[]⟩) [.slice none 0 0,.slice none 0 0,.int .i64 0,.int .i64 0] 35 W2 (by rw[hW2];exact Kept.refl _));have hz1:W1.heap.size=q1+1:=by rw[←hW1,World.size_alloc,hq1]
 rw[hz1] at HZ;obtain⟨TU,HL,K,Rc,EW1,EW2⟩:=lH6 (show W2.heap.size=q1+2 by rw[←hW2,World.size_alloc,hz1]) (HL.out.kept k2) (k1.trans k2) hq1 hW1 hW2;clear k1 k2 hW1 hW2 hz1 hq1;go_enter Tryz.func14,Tryz.ntmps14;go_upto_region 1 with fail
 try rw[EW1.out]
 try rw[EW2.out]
 try rw[Rc.out]
 clear EW1 EW2;have HS:=lH (show ∀W,Kept W2 W→W.cell? ⟨q1,0,none⟩=some (.string n.what)∧W.cell? ⟨q1,1,none⟩=some (.slice a1 l1 c1)∧W.cell? ⟨q1,2,none⟩=some (.slice a2 len c2)∧W.cell? ⟨q1,3,none⟩=some (.int .i64 n.lo)∧W.cell? ⟨q1,4,none⟩=some (.int .i64 n.hi) from fun W k=>(HL.out.kept k).at5);have VE:=lH (fun W (k:Kept w W)=>Vec.jcq a1 l1 c1 n.unit W (RT.out.kept k) (by omega));go_cut [3] from 5 to 14 (fun s3 wx=>∃q xa xm xc,s3=.pointer (some ⟨q,0,none⟩)∧Hid (jj q [.string n.what,.slice xa xm xc,.slice none 0 0,.int .i64 n.lo,.int .i64 n.hi] wx∧Vec.Reads wx (.slice xa xm xc) n.unit∧(∀b off sp,xa=some ⟨b,off,sp⟩→b≠q∧W2.heap.size≤b∧b<wx.heap.size)∧Kept W2 wx∧W2.heap.size≤q))
 case first =>
  have J:=lH (Kept.drew W2);refine wp_region_held_drew (S:=fun W=>Kept W2 W) (by kernel_rfl) (J.out) (fun hHeld=>?_);obtain⟨wd,hwd⟩:=eX (W2.drew)
  rw[hwd] at J hHeld;try rw[hwd]
  clear hwd;refine tR 0 rfl (by kernel_rfl) (fun _ _ _=>id) (Or.inl ⟨by rfl,(by intro W hSw;obtain⟨o0,o1,o2,o3,o4⟩:=HS.out _ hSw;go_simp<;>with_reducible rfl)⟩) ‹_› ?_;try simp only[nA,nB,nC,nD,nE]
  refine tR 1 rfl (by kernel_rfl) (fun _ _ _=>id) (Or.inl ⟨by rfl,(by intro W hSw;obtain⟨o0,o1,o2,o3,o4⟩:=HS.out _ hSw;go_simp<;>with_reducible rfl)⟩) ‹_› ?_;try simp only[nA,nB,nC,nD,nE]
  refine tR 2 rfl (by kernel_rfl) (fun _ _ _=>id) (Or.inl ⟨by rfl,(by intro W hSw;obtain⟨o0,o1,o2,o3,o4⟩:=HS.out _ hSw;go_simp<;>with_reducible rfl)⟩) ‹_› ?_;try simp only[nA,nB,nC,nD,nE]
  refine tR 3 rfl (by kernel_rfl) (fun _ _ _=>id) (Or.inl ⟨by rfl,(by intro W hSw;obtain⟨o0,o1,o2,o3,o4⟩:=HS.out _ hSw;go_simp<;>with_reducible rfl)⟩) ‹_› ?_;try simp only[nA,nB,nC,nD,nE]
  refine tR 5 rfl (by kernel_rfl) (fun _ _ _=>id) (Or.inl ⟨by rfl,(by intro W hSw;obtain⟨o0,o1,o2,o3,o4⟩:=HS.out _ hSw;go_simp<;>with_reducible rfl)⟩) ‹_› ?_;try simp only[nA,nB,nC,nD,nE]
  refine tR 6 rfl (by kernel_rfl) (fun _ _ _=>id) (Or.inl ⟨by rfl,(by intro W hSw;obtain⟨o0,o1,o2,o3,o4⟩:=HS.out _ hSw;go_simp<;>with_reducible rfl)⟩) ‹_› ?_;try simp only[nA,nB,nC,nD,nE]
  refine tR 7 rfl (by kernel_rfl) (fun _ _ _=>id) (Or.inl ⟨by rfl,(by intro W hSw;obtain⟨o0,o1,o2,o3,o4⟩:=HS.out _ hSw;go_simp<;>with_reducible rfl)⟩) ‹_› ?_;try simp only[nA,nB,nC,nD,nE]
  refine tR 8 rfl (by kernel_rfl) (fun _ _ _=>id) (Or.inl ⟨by rfl,(by intro W hSw;obtain⟨o0,o1,o2,o3,o4⟩:=HS.out _ hSw;go_simp<;>with_reducible rfl)⟩) ‹_› ?_;try simp only[nA,nB,nC,nD,nE]
  refine wpAnyH_ready  (rs:=[4,10]) (by kernel_rfl) (by simp) (AllReadyH.cons  (by rw[List.getElem?_toArray];exact rfl) (fun K9 Ky=>?_) (AllReadyH.cons  (by rw[List.getElem?_toArray];exact rfl) (fun K9 Ky=>?_) AllReadyH.nil))
  · skip;go_simp;refine(VE.out _ (K.out.trans J.out)).mono ?_;rintro e9 ww1 ⟨x9,rfl,ho9,kk⟩;obtain⟨xa,xc,rfl,hx1,hx2,hx3⟩:=id ho9.at_;obtain⟨xm,hxm⟩:=eX (n.unit.length)
    have RD:=lH (show Vec.Reads _ _ n.unit from⟨xa,xc,rfl,hx1,hx2,hx3⟩);have RB:=lH (show ∀b off sp,xa=some ⟨b,off,sp⟩→True∧W2.heap.size≤b∧b<ww1.heap.size from fun b off sp e=>by have h:=ho9.1.lt b (by subst e;rfl);refine⟨trivial,Nat.le_trans J.out.size h.1,h.2⟩);rw[hxm] at RD;try rw[hxm]
    clear ho9 hx1 hx2 hx3 hxm;have J:=lH (J.out.trans kk);clear kk;refine Ky.out _ _ (J.out) (fun _=>?_);clear Ky K9;try simp only[nA,nB,nC,nD,nE]
    refine tR 9 rfl (by kernel_rfl) (fun _ _ _=>id) (Or.inl ⟨by rfl,(by intro W hSw;obtain⟨o0,o1,o2,o3,o4⟩:=HS.out _ hSw;go_simp<;>with_reducible rfl)⟩) ‹_› ?_;try simp only[nA,nB,nC,nD,nE]
    refine rd1 10 fun K9 Ky=>?_;go_simp;have kk:=jb ww1 (.cells #[.string ⟨#[]⟩,.slice none 0 0,.slice none 0 0,.int .i64 0,.int .i64 0] 35);have hn9:=js ww1 (.string ⟨#[]⟩) [.slice none 0 0,.slice none 0 0,.int .i64 0,.int .i64 0] 35 _ (Kept.refl _);have hp9:W2.heap.size≤ww1.heap.size:=J.out.size;have RB:=lH (show ∀b off sp,xa=some ⟨b,off,sp⟩→b≠ww1.heap.size∧W2.heap.size≤b∧b<(ww1.alloc (.cells #[.string ⟨#[]⟩,.slice none 0 0,.slice none 0 0,.int .i64 0,.int .i64 0] 35)).heap.size from fun b off sp e=>by have h:=RB.out b off sp e;refine⟨by omega,h.2.1,by simp;omega⟩);obtain⟨q,hqe⟩:=eX (ww1.heap.size)
    obtain⟨ww3,hnw⟩:=eX (ww1.alloc (.cells #[.string ⟨#[]⟩,.slice none 0 0,.slice none 0 0,.int .i64 0,.int .i64 0] 35))
    rw[hnw] at hn9 kk RB ⊢;rw[hqe] at hn9 hp9 RB ⊢;clear hnw hqe;obtain⟨J,QA,Ve,RD⟩:=lH4 (J.out.trans kk) hn9 hp9 (RD.out.kept kk);clear hn9 kk hp9;refine Ky.out _ _ (J.out) (fun _=>?_);clear Ky K9;try simp only[nA,nB,nC,nD,nE]
    refine rd1 11 fun K9 Ky=>?_;obtain⟨z0,z1,z2,z3,z4⟩:=QA.out.at5;have y0:=QA.out.free 0;have y1:=QA.out.free 1;have y2:=QA.out.free 2;have y3:=QA.out.free 3;have y4:=QA.out.free 4;go_simp;have PP:=lH (zl (vs:=[.string n.what,.slice xa xm xc,.slice none 0 0,.int .i64 n.lo,.int .i64 n.hi]) QA.out rfl);obtain⟨ww5,hnw⟩:=eX (ww3.setCells q 0 [.string n.what,.slice xa xm xc,.slice none 0 0,.int .i64 n.lo,.int .i64 n.hi])
    have hnw2:(((((ww3.setCell ⟨q,0,none⟩ (.string n.what)).setCell ⟨q,1,none⟩ (.slice xa xm xc)).setCell ⟨q,2,none⟩ (.slice none 0 0)).setCell ⟨q,3,none⟩ (.int .i64 n.lo)).setCell ⟨q,4,none⟩ (.int .i64 n.hi))=ww5:=hnw;rw[hnw] at PP;rw[hnw2];clear hnw hnw2 z0 y0 z1 y1 z2 y2 z3 y3 z4 y4;obtain⟨J,QA,RD,RB⟩:=lH4 (show Kept W2 ww5 from PP.out.below _ _ Ve.out J.out) PP.out.cells (RD.out.far PP.out.size (fun b o sp e=>PP.out.far b (RB.out b o sp e).1)) (show ∀b off sp,xa=some ⟨b,off,sp⟩→b≠q∧W2.heap.size≤b∧b<ww5.heap.size from fun b off sp e=>by rw[PP.out.size];exact RB.out b off sp e);clear PP;refine Ky.out _ _ (J.out) (fun _=>?_);clear Ky K9;try simp only[nA,nB,nC,nD,nE]
    refine wpAnyH_done (by kernel_rfl) ?_ _;go_wp2;go_meet
    case rel=>exact⟨q,xa,xm,xc,rfl,lH ⟨QA.out,RD.out,RB.out,J.out,Ve.out⟩⟩
  · skip;go_simp;have kk:=jb wd (.cells #[.string ⟨#[]⟩,.slice none 0 0,.slice none 0 0,.int .i64 0,.int .i64 0] 35);have hn9:=js wd (.string ⟨#[]⟩) [.slice none 0 0,.slice none 0 0,.int .i64 0,.int .i64 0] 35 _ (Kept.refl _);have hp9:W2.heap.size≤wd.heap.size:=J.out.size;obtain⟨q,hqe⟩:=eX (wd.heap.size)
    obtain⟨ww7,hnw⟩:=eX (wd.alloc (.cells #[.string ⟨#[]⟩,.slice none 0 0,.slice none 0 0,.int .i64 0,.int .i64 0] 35))
    rw[hnw] at hn9 kk ⊢;rw[hqe] at hn9 hp9 ⊢;clear hnw hqe;obtain⟨J,QA,Ve⟩:=lH3 (J.out.trans kk) hn9 hp9;clear hn9 kk hp9;refine Ky.out _ _ (J.out) (fun _=>?_);clear Ky K9;try simp only[nA,nB,nC,nD,nE]
    refine rd1 4 fun K9 Ky=>?_;go_simp;refine(VE.out _ (K.out.trans J.out)).mono ?_;rintro e9 ww9 ⟨x9,rfl,ho9,kk⟩;obtain⟨xa,xc,rfl,hx1,hx2,hx3⟩:=id ho9.at_;obtain⟨xm,hxm⟩:=eX (n.unit.length)
    have RD:=lH (show Vec.Reads _ _ n.unit from⟨xa,xc,rfl,hx1,hx2,hx3⟩);have RB:=lH (show ∀b off sp,xa=some ⟨b,off,sp⟩→b≠q∧W2.heap.size≤b∧b<ww9.heap.size from fun b off sp e=>by have h:=ho9.1.lt b (by subst e;rfl);refine⟨?_,Nat.le_trans J.out.size h.1,h.2⟩;have:=QA.out.lt;omega);rw[hxm] at RD;try rw[hxm]
    clear ho9 hx1 hx2 hx3 hxm;have J:=lH (J.out.trans kk);have QA:=lH (QA.out.kept kk);clear kk;refine Ky.out _ _ (J.out) (fun _=>?_);clear Ky K9;try simp only[nA,nB,nC,nD,nE]
    refine tR 9 rfl (by kernel_rfl) (fun _ _ _=>id) (Or.inl ⟨by rfl,(by intro W hSw;obtain⟨o0,o1,o2,o3,o4⟩:=HS.out _ hSw;go_simp<;>with_reducible rfl)⟩) ‹_› ?_;try simp only[nA,nB,nC,nD,nE]
    refine rd1 11 fun K9 Ky=>?_;obtain⟨z0,z1,z2,z3,z4⟩:=QA.out.at5;have y0:=QA.out.free 0;have y1:=QA.out.free 1;have y2:=QA.out.free 2;have y3:=QA.out.free 3;have y4:=QA.out.free 4;go_simp;have PP:=lH (zl (vs:=[.string n.what,.slice xa xm xc,.slice none 0 0,.int .i64 n.lo,.int .i64 n.hi]) QA.out rfl);obtain⟨ww11,hnw⟩:=eX (ww9.setCells q 0 [.string n.what,.slice xa xm xc,.slice none 0 0,.int .i64 n.lo,.int .i64 n.hi])
    have hnw2:(((((ww9.setCell ⟨q,0,none⟩ (.string n.what)).setCell ⟨q,1,none⟩ (.slice xa xm xc)).setCell ⟨q,2,none⟩ (.slice none 0 0)).setCell ⟨q,3,none⟩ (.int .i64 n.lo)).setCell ⟨q,4,none⟩ (.int .i64 n.hi))=ww11:=hnw;rw[hnw] at PP;rw[hnw2];clear hnw hnw2 z0 y0 z1 y1 z2 y2 z3 y3 z4 y4;obtain⟨J,QA,RD,RB⟩:=lH4 (show Kept W2 ww11 from PP.out.below _ _ Ve.out J.out) PP.out.cells (RD.out.far PP.out.size (fun b o sp e=>PP.out.far b (RB.out b o sp e).1)) (show ∀b off sp,xa=some ⟨b,off,sp⟩→b≠q∧W2.heap.size≤b∧b<ww11.heap.size from fun b off sp e=>by rw[PP.out.size];exact RB.out b off sp e);clear PP;refine Ky.out _ _ (J.out) (fun _=>?_);clear Ky K9;try simp only[nA,nB,nC,nD,nE]
    refine wpAnyH_done (by kernel_rfl) ?_ _;go_wp2;go_meet
    case rel=>exact⟨q,xa,xm,xc,rfl,lH ⟨QA.out,RD.out,RB.out,J.out,Ve.out⟩⟩
 case rest =>
  obtain⟨q,xa,xm,xc,rfl,hx⟩:=hcut;obtain⟨QA,RD,RB,J,Ve⟩:=hx.out;obtain⟨QA,RD,RB,J,Ve⟩:=lH5 QA RD RB J Ve;clear hx;obtain⟨B,hB⟩:=eX (wc.heap.size)
  have HB:=lH hB;rw[hB] at RB;have V4:=lH (show q<B by rw[←hB];exact QA.out.lt);clear hB;obtain⟨o0,o1,o2,o3,o4⟩:=HS.out _ J.out;go_wp2;go_loopw [4] (fun i wr=>∃(k:Nat) (av:Option Addr) (cv:Nat),k≤len∧i=.int .i64 k∧jj q [.string n.what,.slice xa xm xc,.slice av k cv,.int .i64 n.lo,.int .i64 n.hi] wr∧Own jh 49 wr B (.slice av k cv) (n.rungs.take k)∧Vec.Reads wr (.slice xa xm xc) n.unit∧Kept W2 wr∧B≤wr.heap.size) (fun i _=>len-(intOf i).toNat)
  case atStart=>exact⟨0,none,0,Nat.zero_le _,rfl,QA.out,Own.nil _ _ _,RD.out,J.out,Nat.le_of_eq HB.out.symm⟩
  case round =>
   obtain⟨k,av,cv,hk,rfl,hqa,how,hrd,hj,hbz⟩:=hrel;clear o0 o1 o2 o3 o4;obtain⟨HT,QA,OW,RD,J,Vb⟩:=lH6 (show (n.rungs.take k).length=k by rw[List.length_take,Vj.out];omega) hqa how hrd hj hbz;clear hqa how hrd hj hbz;obtain⟨o0,o1,o2,o3,o4⟩:=HS.out _ J.out;by_cases hlt:k<len
   · have hk1:(k:Int)<(len:Int):=by omega
     obtain⟨b,off,rfl⟩:∃b off,a2=some ⟨b,off,none⟩:=by rcases HR.out.form with h | h;omega;exact h
     obtain⟨u,c,p,e1,e2,e3,e4,c0,c1x,c2x⟩:=HR.out.rung hlt;obtain⟨Vq,V5,Vu⟩:=lH3 (show ∀W,Kept w W→W.cell? ⟨b,off+k*3,none⟩=some (.int .i64 u)∧W.cell? ⟨b,off+k*3+1,none⟩=some (.int .i64 c)∧W.cell? ⟨b,off+k*3+2,none⟩=some (.int .i64 p) from fun W k=>⟨cell_later k c0,cell_later k c1x,cell_later k c2x⟩) (show n.rungs.take (k+1)=n.rungs.take k++[(u,c,p)] by rw[List.take_add_one,e1];rfl) e4;clear e1 e2 e3 e4 c0 c1x c2x;obtain⟨i0,hi,hz0,hz1,hz2⟩:=info_parts YE;go_wp2_with fail
     clear o0 o1 o2 o3 o4;obtain⟨wd,hwd⟩:=eX (wr.drew)
     have kd:Kept wr wd:=by rw[←hwd];exact Kept.drew wr
     obtain⟨J,QA,OW,RD,Vb⟩:=lH5 (J.out.trans kd) (QA.out.kept kd) (OW.out.kept kd) (RD.out.kept kd) (Nat.le_trans Vb.out kd.size);refine wp_region_held_drew (S:=fun W=>Kept W2 W) (by kernel_rfl) (by rw[hwd];exact J.out) (fun hHeld=>?_);rw[hwd] at hHeld;try rw[hwd]
     clear hwd kd;refine tR 0 rfl (by kernel_rfl) (fun _ _ _=>id) (Or.inl ⟨by rfl,(by intro W hSw;obtain⟨o0,o1,o2,o3,o4⟩:=HS.out _ hSw;obtain⟨r0,r1,r2⟩:=Vq.out _ (K.out.trans hSw);go_simp<;>with_reducible rfl)⟩) ‹_› ?_;try simp only[nA,nB,nC,nD,nE]
     refine tR 2 rfl (by kernel_rfl) (fun _ _ _=>id) (Or.inl ⟨by rfl,(by intro W hSw;obtain⟨o0,o1,o2,o3,o4⟩:=HS.out _ hSw;obtain⟨r0,r1,r2⟩:=Vq.out _ (K.out.trans hSw);go_simp<;>with_reducible rfl)⟩) ‹_› ?_;try simp only[nA,nB,nC,nD,nE]
     refine tR 3 rfl (by kernel_rfl) (fun _ _ _=>id) (Or.inl ⟨by rfl,(by intro W hSw;obtain⟨o0,o1,o2,o3,o4⟩:=HS.out _ hSw;obtain⟨r0,r1,r2⟩:=Vq.out _ (K.out.trans hSw);go_simp<;>with_reducible rfl)⟩) ‹_› ?_;try simp only[nA,nB,nC,nD,nE]
     refine tR 4 rfl (by kernel_rfl) (fun _ _ _=>id) (Or.inl ⟨by rfl,(by intro W hSw;obtain⟨o0,o1,o2,o3,o4⟩:=HS.out _ hSw;obtain⟨r0,r1,r2⟩:=Vq.out _ (K.out.trans hSw);go_simp<;>with_reducible rfl)⟩) ‹_› ?_;try simp only[nA,nB,nC,nD,nE]
     refine tR 5 rfl (by kernel_rfl) (fun _ _ _=>id) (Or.inl ⟨by rfl,(by intro W hSw;obtain⟨o0,o1,o2,o3,o4⟩:=HS.out _ hSw;obtain⟨r0,r1,r2⟩:=Vq.out _ (K.out.trans hSw);go_simp<;>with_reducible rfl)⟩) ‹_› ?_;try simp only[nA,nB,nC,nD,nE]
     refine tR 6 rfl (by kernel_rfl) (fun _ _ _=>id) (Or.inl ⟨by rfl,(by intro W hSw;obtain⟨o0,o1,o2,o3,o4⟩:=HS.out _ hSw;obtain⟨r0,r1,r2⟩:=Vq.out _ (K.out.trans hSw);go_simp<;>with_reducible rfl)⟩) ‹_› ?_;try simp only[nA,nB,nC,nD,nE]
     refine tR 7 rfl (by kernel_rfl) (fun _ _ _=>id) (Or.inl ⟨by rfl,(by intro W hSw;obtain⟨o0,o1,o2,o3,o4⟩:=HS.out _ hSw;obtain⟨r0,r1,r2⟩:=Vq.out _ (K.out.trans hSw);go_simp<;>with_reducible rfl)⟩) ‹_› ?_;try simp only[nA,nB,nC,nD,nE]
     refine tR 8 rfl (by kernel_rfl) (fun _ _ _=>id) (Or.inl ⟨by rfl,(by intro W hSw;obtain⟨o0,o1,o2,o3,o4⟩:=HS.out _ hSw;obtain⟨r0,r1,r2⟩:=Vq.out _ (K.out.trans hSw);go_simp<;>with_reducible rfl)⟩) ‹_› ?_;try simp only[nA,nB,nC,nD,nE]
     refine tR 9 rfl (by kernel_rfl) (fun _ _ _=>id) (Or.inl ⟨by rfl,(by intro W hSw;obtain⟨o0,o1,o2,o3,o4⟩:=HS.out _ hSw;obtain⟨r0,r1,r2⟩:=Vq.out _ (K.out.trans hSw);go_simp<;>with_reducible rfl)⟩) ‹_› ?_;try simp only[nA,nB,nC,nD,nE]
     refine tR 10 rfl (by kernel_rfl) (fun _ _ _=>id) (Or.inl ⟨by rfl,(by intro W hSw;obtain⟨o0,o1,o2,o3,o4⟩:=HS.out _ hSw;obtain⟨r0,r1,r2⟩:=Vq.out _ (K.out.trans hSw);go_simp<;>with_reducible rfl)⟩) ‹_› ?_;try simp only[nA,nB,nC,nD,nE]
     refine tR 11 rfl (by kernel_rfl) (fun _ _ _=>id) (Or.inl ⟨by rfl,(by intro W hSw;obtain⟨o0,o1,o2,o3,o4⟩:=HS.out _ hSw;obtain⟨r0,r1,r2⟩:=Vq.out _ (K.out.trans hSw);go_simp<;>with_reducible rfl)⟩) ‹_› ?_;try simp only[nA,nB,nC,nD,nE]
     refine tR 12 rfl (by kernel_rfl) (fun _ _ _=>id) (Or.inl ⟨by rfl,(by intro W hSw;obtain⟨o0,o1,o2,o3,o4⟩:=HS.out _ hSw;obtain⟨r0,r1,r2⟩:=Vq.out _ (K.out.trans hSw);go_simp<;>with_reducible rfl)⟩) ‹_› ?_;try simp only[nA,nB,nC,nD,nE]
     refine tR 13 rfl (by kernel_rfl) (fun _ _ _=>id) (Or.inl ⟨by rfl,(by intro W hSw;obtain⟨o0,o1,o2,o3,o4⟩:=HS.out _ hSw;obtain⟨r0,r1,r2⟩:=Vq.out _ (K.out.trans hSw);go_simp<;>with_reducible rfl)⟩) ‹_› ?_;try simp only[nA,nB,nC,nD,nE]
     refine tR 14 rfl (by kernel_rfl) (fun _ _ _=>id) (Or.inl ⟨by rfl,(by intro W hSw;obtain⟨o0,o1,o2,o3,o4⟩:=HS.out _ hSw;obtain⟨r0,r1,r2⟩:=Vq.out _ (K.out.trans hSw);go_simp<;>with_reducible rfl)⟩) ‹_› ?_;try simp only[nA,nB,nC,nD,nE]
     refine tR 15 rfl (by kernel_rfl) (fun _ _ _=>id) (Or.inl ⟨by rfl,(by intro W hSw;obtain⟨o0,o1,o2,o3,o4⟩:=HS.out _ hSw;obtain⟨r0,r1,r2⟩:=Vq.out _ (K.out.trans hSw);go_simp<;>with_reducible rfl)⟩) ‹_› ?_;try simp only[nA,nB,nC,nD,nE]
     refine tR 16 rfl (by kernel_rfl) (fun _ _ _=>id) (Or.inl ⟨by rfl,(by intro W hSw;obtain⟨o0,o1,o2,o3,o4⟩:=HS.out _ hSw;obtain⟨r0,r1,r2⟩:=Vq.out _ (K.out.trans hSw);go_simp<;>with_reducible rfl)⟩) ‹_› ?_;try simp only[nA,nB,nC,nD,nE]
     refine tR 17 rfl (by kernel_rfl) (fun _ _ _=>id) (Or.inl ⟨by rfl,(by intro W hSw;obtain⟨o0,o1,o2,o3,o4⟩:=HS.out _ hSw;obtain⟨r0,r1,r2⟩:=Vq.out _ (K.out.trans hSw);go_simp<;>with_reducible rfl)⟩) ‹_› ?_;try simp only[nA,nB,nC,nD,nE]
     refine tR 18 rfl (by kernel_rfl) (fun _ _ _=>id) (Or.inl ⟨by rfl,(by intro W hSw;obtain⟨o0,o1,o2,o3,o4⟩:=HS.out _ hSw;obtain⟨r0,r1,r2⟩:=Vq.out _ (K.out.trans hSw);go_simp<;>with_reducible rfl)⟩) ‹_› ?_;try simp only[nA,nB,nC,nD,nE]
     refine tR 19 rfl (by kernel_rfl) (fun _ _ _=>id) (Or.inl ⟨by rfl,(by intro W hSw;obtain⟨o0,o1,o2,o3,o4⟩:=HS.out _ hSw;obtain⟨r0,r1,r2⟩:=Vq.out _ (K.out.trans hSw);go_simp<;>with_reducible rfl)⟩) ‹_› ?_;try simp only[nA,nB,nC,nD,nE]
     refine tR 20 rfl (by kernel_rfl) (fun _ _ _=>id) (Or.inl ⟨by rfl,(by intro W hSw;obtain⟨o0,o1,o2,o3,o4⟩:=HS.out _ hSw;obtain⟨r0,r1,r2⟩:=Vq.out _ (K.out.trans hSw);go_simp<;>with_reducible rfl)⟩) ‹_› ?_;try simp only[nA,nB,nC,nD,nE]
     refine wpAnyH_ready  (rs:=[1,21]) (by kernel_rfl) (by simp) (AllReadyH.cons  (by rw[List.getElem?_toArray];exact rfl) (fun K9 Ky=>?_) (AllReadyH.cons  (by rw[List.getElem?_toArray];exact rfl) (fun K9 Ky=>?_) AllReadyH.nil))
     · skip;obtain⟨z0,z1,z2,z3,z4⟩:=QA.out.at5;go_simp;clear z0 z1 z2 z3 z4;refine Ky.out _ _ (J.out) (fun _=>?_);clear Ky K9;try simp only[nA,nB,nC,nD,nE]
       refine rd1 21 fun K9 Ky=>?_;go_simp;obtain⟨g0,hg0⟩:=eX (wd.heap.size)
       obtain⟨vv15,hnw⟩:=eX (wd.alloc (.cells #[.int .i64 u,.int .i64 c,.int .i64 p] 49))
       have kk:Kept wd vv15:=by rw[←hnw];exact jb _ _
       have HC:=lH (show vv15.heap[g0]?=some (.cells #[.int .i64 u,.int .i64 c,.int .i64 p] 49) by rw[←hnw,←hg0];exact World.alloc_heap_new wd _);try rw[hnw]
       try rw[hg0]
       clear hnw hg0;obtain⟨J,QA,OW,RD,Vb⟩:=lH5 (J.out.trans kk) (QA.out.kept kk) (OW.out.kept kk) (RD.out.kept kk) (Nat.le_trans Vb.out kk.size);clear kk;refine Ky.out _ _ (J.out) (fun _=>?_);clear Ky K9;try simp only[nA,nB,nC,nD,nE]
       refine rd1 22 fun K9 Ky=>?_;refine step_append_lies _ (by rfl) _ _ _ (by rfl) B 49 i0 _ 3 24 Tryz.underlying33 hi hz0 hz1 hz2 rfl (by decide) (.slice av k cv) k (jg jh (n.rungs.take k)) (by rfl) (by have:=OW.out.1;rw[HT.out] at this;exact this) ⟨g0,0,none⟩ 1 1 [.int .i64 u,.int .i64 c,.int .i64 p] (by rfl) (by rfl) (World.news_of_block (cs:=#[.int .i64 u,.int .i64 c,.int .i64 p]) (t:=49) (fr:=(0,0)) HC.out) (za jh [(u,c,p)]) (by decide) (by unfold maxLen;omega) (by omega) Vb.out _ rfl ?_;intro gg cap1 vv17 hown1 hgrow hat hlt1;have VL:=lH (show ∀r,(Value.slice av k cv).ownBlock=some r→B≤r from fun r hr=>(OW.out.1.lt r hr).1);obtain⟨QA,RD,J,Vb,OW⟩:=lH5 (QA.out.block (hgrow.block q QA.out.lt (fun e=>by have:=VL.out q e.symm;have:=V4.out;omega))) (RD.out.grow hgrow.size (fun b o sp e=>hgrow.block b (by have:=(RB.out b o sp e).2.2;have:=Vb.out;omega) (fun e9=>by have:=VL.out b e9.symm;have:=(RB.out b o sp e).2.2;omega))) (show Kept W2 vv17 from(show Below W2.heap.size W2 vv15 from J.out).grown hgrow J.out.size (fun j hj=>by have:=VL.out j hj;have:=V4.out;have:=Ve.out;omega)) (Nat.le_trans Vb.out hgrow.size) (show Own jh 49 vv17 B (.slice (some ⟨gg,0,none⟩) (k+1) cap1) (n.rungs.take (k+1)) by rw[V5.out];exact Own.snoc hown1 (by rw[HT.out]) OW.out.2 Vu.out);clear hgrow hat hlt1 hown1;refine Ky.out _ _ (J.out) (fun _=>?_);clear Ky K9;try simp only[nA,nB,nC,nD,nE]
       refine tR 23 rfl (by kernel_rfl) (fun _ _ _=>id) (Or.inl ⟨by rfl,(by intro W hSw;obtain⟨o0,o1,o2,o3,o4⟩:=HS.out _ hSw;obtain⟨r0,r1,r2⟩:=Vq.out _ (K.out.trans hSw);go_simp<;>with_reducible rfl)⟩) ‹_› ?_;try simp only[nA,nB,nC,nD,nE]
       refine rd1 24 fun K9 Ky=>?_;obtain⟨z0,z1,z2,z3,z4⟩:=QA.out.at5;have y2:=QA.out.free 2;go_simp;obtain⟨vv19,hnw⟩:=eX (vv17.setCell ⟨q,2,none⟩ (.slice (some ⟨gg,0,none⟩) (k+1) cap1))
       obtain⟨QA,OW,RD,J,Vb⟩:=lH5 (show jj q [.string n.what,.slice xa xm xc,.slice (some ⟨gg,0,none⟩) (k+1) cap1,.int .i64 n.lo,.int .i64 n.hi] vv19 by rw[←hnw];exact QA.out.set (j:=2) (by show 2<5;omega)) (show Own jh 49 vv19 B _ _ by rw[←hnw];exact OW.out.setCell_below (a:=⟨q,2,none⟩) V4.out _) (show Vec.Reads vv19 _ _ by rw[←hnw];exact RD.out.grow (by simp[World.setCell]) (fun b o sp e=>Below.heap_setCell _ ⟨q,2,none⟩ _ b (RB.out b o sp e).1)) (show Kept W2 vv19 by rw[←hnw];exact(show Below W2.heap.size W2 vv17 from J.out).setCell (p:=⟨q,2,none⟩) Ve.out _) (show B≤vv19.heap.size by rw[←hnw];have:=Vb.out;simpa [World.setCell] using this);try rw[hnw]
       clear hnw z0 z1 z2 z3 z4 y2;refine Ky.out _ _ (J.out) (fun _=>?_);clear Ky K9;try simp only[nA,nB,nC,nD,nE]
       refine wpAnyH_done (by kernel_rfl) ?_ _;go_wp2;go_roundw
       case rel=>exact⟨k+1,some ⟨gg,0,none⟩,cap1,by omega,by go_num,QA.out,OW.out,RD.out,J.out,Vb.out⟩
       case measure=>simp[intOf];omega
     · skip;go_simp;obtain⟨g0,hg0⟩:=eX (wd.heap.size)
       obtain⟨vv21,hnw⟩:=eX (wd.alloc (.cells #[.int .i64 u,.int .i64 c,.int .i64 p] 49))
       have kk:Kept wd vv21:=by rw[←hnw];exact jb _ _
       have HC:=lH (show vv21.heap[g0]?=some (.cells #[.int .i64 u,.int .i64 c,.int .i64 p] 49) by rw[←hnw,←hg0];exact World.alloc_heap_new wd _);try rw[hnw]
       try rw[hg0]
       clear hnw hg0;obtain⟨J,QA,OW,RD,Vb⟩:=lH5 (J.out.trans kk) (QA.out.kept kk) (OW.out.kept kk) (RD.out.kept kk) (Nat.le_trans Vb.out kk.size);clear kk;refine Ky.out _ _ (J.out) (fun _=>?_);clear Ky K9;try simp only[nA,nB,nC,nD,nE]
       refine rd1 1 fun K9 Ky=>?_;obtain⟨z0,z1,z2,z3,z4⟩:=QA.out.at5;go_simp;clear z0 z1 z2 z3 z4;refine Ky.out _ _ (J.out) (fun _=>?_);clear Ky K9;try simp only[nA,nB,nC,nD,nE]
       refine rd1 22 fun K9 Ky=>?_;refine step_append_lies _ (by rfl) _ _ _ (by rfl) B 49 i0 _ 3 24 Tryz.underlying33 hi hz0 hz1 hz2 rfl (by decide) (.slice av k cv) k (jg jh (n.rungs.take k)) (by rfl) (by have:=OW.out.1;rw[HT.out] at this;exact this) ⟨g0,0,none⟩ 1 1 [.int .i64 u,.int .i64 c,.int .i64 p] (by rfl) (by rfl) (World.news_of_block (cs:=#[.int .i64 u,.int .i64 c,.int .i64 p]) (t:=49) (fr:=(0,0)) HC.out) (za jh [(u,c,p)]) (by decide) (by unfold maxLen;omega) (by omega) Vb.out _ rfl ?_;intro gg cap1 vv25 hown1 hgrow hat hlt1;have VL:=lH (show ∀r,(Value.slice av k cv).ownBlock=some r→B≤r from fun r hr=>(OW.out.1.lt r hr).1);obtain⟨QA,RD,J,Vb,OW⟩:=lH5 (QA.out.block (hgrow.block q QA.out.lt (fun e=>by have:=VL.out q e.symm;have:=V4.out;omega))) (RD.out.grow hgrow.size (fun b o sp e=>hgrow.block b (by have:=(RB.out b o sp e).2.2;have:=Vb.out;omega) (fun e9=>by have:=VL.out b e9.symm;have:=(RB.out b o sp e).2.2;omega))) (show Kept W2 vv25 from(show Below W2.heap.size W2 vv21 from J.out).grown hgrow J.out.size (fun j hj=>by have:=VL.out j hj;have:=V4.out;have:=Ve.out;omega)) (Nat.le_trans Vb.out hgrow.size) (show Own jh 49 vv25 B (.slice (some ⟨gg,0,none⟩) (k+1) cap1) (n.rungs.take (k+1)) by rw[V5.out];exact Own.snoc hown1 (by rw[HT.out]) OW.out.2 Vu.out);clear hgrow hat hlt1 hown1;refine Ky.out _ _ (J.out) (fun _=>?_);clear Ky K9;try simp only[nA,nB,nC,nD,nE]
       refine tR 23 rfl (by kernel_rfl) (fun _ _ _=>id) (Or.inl ⟨by rfl,(by intro W hSw;obtain⟨o0,o1,o2,o3,o4⟩:=HS.out _ hSw;obtain⟨r0,r1,r2⟩:=Vq.out _ (K.out.trans hSw);go_simp<;>with_reducible rfl)⟩) ‹_› ?_;try simp only[nA,nB,nC,nD,nE]
       refine rd1 24 fun K9 Ky=>?_;obtain⟨z0,z1,z2,z3,z4⟩:=QA.out.at5;have y2:=QA.out.free 2;go_simp;obtain⟨vv27,hnw⟩:=eX (vv25.setCell ⟨q,2,none⟩ (.slice (some ⟨gg,0,none⟩) (k+1) cap1))
       obtain⟨QA,OW,RD,J,Vb⟩:=lH5 (show jj q [.string n.what,.slice xa xm xc,.slice (some ⟨gg,0,none⟩) (k+1) cap1,.int .i64 n.lo,.int .i64 n.hi] vv27 by rw[←hnw];exact QA.out.set (j:=2) (by show 2<5;omega)) (show Own jh 49 vv27 B _ _ by rw[←hnw];exact OW.out.setCell_below (a:=⟨q,2,none⟩) V4.out _) (show Vec.Reads vv27 _ _ by rw[←hnw];exact RD.out.grow (by simp[World.setCell]) (fun b o sp e=>Below.heap_setCell _ ⟨q,2,none⟩ _ b (RB.out b o sp e).1)) (show Kept W2 vv27 by rw[←hnw];exact(show Below W2.heap.size W2 vv25 from J.out).setCell (p:=⟨q,2,none⟩) Ve.out _) (show B≤vv27.heap.size by rw[←hnw];have:=Vb.out;simpa [World.setCell] using this);try rw[hnw]
       clear hnw z0 z1 z2 z3 z4 y2;refine Ky.out _ _ (J.out) (fun _=>?_);clear Ky K9;try simp only[nA,nB,nC,nD,nE]
       refine wpAnyH_done (by kernel_rfl) ?_ _;go_wp2;go_roundw
       case rel=>exact⟨k+1,some ⟨gg,0,none⟩,cap1,by omega,by go_num,QA.out,OW.out,RD.out,J.out,Vb.out⟩
       case measure=>simp[intOf];omega
   · have hge:¬(k:Int)<(len:Int):=by omega
     obtain rfl:k=len:=by omega
     have VJ:=lH (show n.rungs.take k=n.rungs by rw[List.take_of_length_le (by rw[Vj.out];omega)]);have HZ:=lH (HZ.out.kept J.out);obtain⟨z0,z1,z2,z3,z4⟩:=QA.out.at5;obtain⟨x0,x1,x2,x3,x4⟩:=HZ.out.at5;have y0:=HZ.out.free 0;have y1:=HZ.out.free 1;have y2:=HZ.out.free 2;have y3:=HZ.out.free 3;have y4:=HZ.out.free 4;have PP:=lH (zl (vs:=[.string n.what,.slice xa xm xc,.slice av k cv,.int .i64 n.lo,.int .i64 n.hi]) HZ.out rfl);obtain⟨WE,hWE⟩:=eX (wr.setCells (q1+1) 0 [.string n.what,.slice xa xm xc,.slice av k cv,.int .i64 n.lo,.int .i64 n.hi])
     have hWE2:(((((wr.setCell ⟨q1+1,0,none⟩ (Value.string n.what)).setCell ⟨q1+1,1,none⟩ (Value.slice xa xm xc)).setCell ⟨q1+1,2,none⟩ (Value.slice av k cv)).setCell ⟨q1+1,3,none⟩ (Value.int .i64 n.lo)).setCell ⟨q1+1,4,none⟩ (Value.int .i64 n.hi))=WE:=hWE;rw[hWE] at PP;have EWE:=lH hWE2;clear hWE hWE2;go_wp2;try rw[EWE.out]
     clear z0 z1 z2 z3 z4 x0 x1 x2 x3 x4 o0 o1 o2 o3 o4 y0 y1 y2 y3 y4;obtain⟨d0,d1,d2,d3,d4⟩:=PP.out.cells.at5;refine bodyPost_ret (by simp[results,Tryz.results14,go_sem,d0,d1,d2,d3,d4];try rfl) rfl ?_;have hq2:=TU.out;have hq0:=Rc.out;have hkk:=K.out.size;have hr:=OW.out.reads;rw[VJ.out] at hr;refine⟨_,rfl,⟨xa,xm,xc,av,k,cv,rfl,⟨Vy.out,RD.out.far PP.out.size (fun b o sp e=>PP.out.far b (by have:=(RB.out b o sp e).2.1;omega)),hr.far PP.out.size (fun b o sp e=>PP.out.far b ?_),U9.out,RV.out⟩,fun b o sp e=>by have:=(RB.out b o sp e).2.1;omega,fun b o sp e=>?_⟩,PP.out.below _ _ (by omega) (K.out.trans J.out)⟩
     · have:=(OW.out.1.lt b (by subst e;rfl)).1;have:=V4.out;have:=Ve.out;omega
     · have:=(OW.out.1.lt b (by subst e;rfl)).1;have:=V4.out;have:=Ve.out;omega
theorem jct {a b c d v:Int} (h:a=v) (hv:v≠0):orL [a,b,c,d]=v:=by subst h;show (if a≠0 then a else _)=a;rw[if_pos hv]
theorem jcp {a b c d v:Int} (h1:a=0) (h:b=v) (hv:v≠0):orL [a,b,c,d]=v:=by
 subst h;subst h1;show (if (0:Int)≠0 then (0:Int) else if b≠0 then b else _)=b;rw[if_neg (by decide),if_pos hv]
theorem Xl {a b c d v:Int} (h1:a=0) (h2:b=0) (h:c=v) (hv:v≠0):orL [a,b,c,d]=v:=by
 subst h;subst h1;subst h2;show (if (0:Int)≠0 then (0:Int) else if (0:Int)≠0 then (0:Int) else if c≠0 then c else _)=c;rw[if_neg (by decide),if_neg (by decide),if_pos hv]
theorem jcr {a b c d:Int} (h1:a=0) (h2:b=0) (h3:c=0):orL [a,b,c,d]=d:=by
 subst h1;subst h2;subst h3;show (if (0:Int)≠0 then (0:Int) else if (0:Int)≠0 then (0:Int) else if (0:Int)≠0 then (0:Int) else if d≠0 then d else 0)=d;rw[if_neg (by decide),if_neg (by decide),if_neg (by decide)];by_cases h:d=0
 · rw[if_neg (fun g=>g h),h]
 · rw[if_pos h]
theorem Xo (n:Lad) (v1 v2:Value) (w:World) (h:j7 w v1 v2 n):Calls Tryz.prog 15 #[Ji n v1 v2] w (Say (.int .i64 (jF n)) w):=by
 obtain⟨x,un,l,lo,hi⟩:=n;obtain⟨a2,c2,rfl,-,-,hr⟩:=id h.rungs;have hl:l.length=l.length:=rfl;obtain⟨len,hlen⟩:=eX (l.length)
 dsimp only at hr;rw[hlen] at hr;have Vj:=lH hlen;have HR:=lH hr;have hm:=hr.2.1;unfold maxLen at hm;have s0:x.size≤maxLen:=h.size;unfold Ji;dsimp only;rw[hlen];clear hl;obtain⟨W0,hW0⟩:=eX (w.alloc (.cells #[.string x,v1,.slice a2 len c2,.int .i64 lo,.int .i64 hi] 35))
 have hk0:Kept w W0:=by rw[←hW0];exact jb _ _
 obtain⟨Q,hQ⟩:=eX (w.heap.size)
 have HC:=lH (show ∀W,Kept W0 W→W.cell? ⟨Q,0,none⟩=some (.string x)∧W.cell? ⟨Q,1,none⟩=some (v1)∧W.cell? ⟨Q,2,none⟩=some (.slice a2 len c2)∧W.cell? ⟨Q,3,none⟩=some (.int .i64 lo)∧W.cell? ⟨Q,4,none⟩=some (.int .i64 hi) from fun W k=>by rw[←hQ];exact(js w (.string x) [v1,.slice a2 len c2,.int .i64 lo,.int .i64 hi] 35 W (by rw[hW0];exact k)).at5);obtain⟨y1,hy1⟩:=eX (Vec.jf un)
 have E1:=lH (fun W (k:Kept W0 W)=>Vec.jbb (h.unit.kept (hk0.trans k)) hy1);obtain⟨r0,hr0⟩:=eX (isName x)
 obtain⟨N0,HV,K0,HW,HQ⟩:=lH5 (fun W=>Vec.jcF (w:=W) s0 hr0) (show jF ⟨x,un,l,lo,hi⟩=orL [if r0=true then 0 else 3,y1,jP lo hi,jC l] by rw[←hy1,←hr0];rfl) hk0 hW0 hQ;clear h hr hk0 hy1 hr0 hlen hW0 hQ;obtain⟨p0,p1,p2,p3,p4⟩:=HC.out _ (Kept.refl _);go_enter Tryz.func15,Tryz.ntmps15;go_upto_region 1 with fail
 try rw[HW.out]
 try rw[HQ.out]
 cases r0 with
 | false =>
  go_wp2_with (go_at_call 32;refine(N0.out _).mono ?_;rintro e w9 ⟨rfl,rfl⟩)
  go_ret;exact⟨ji (HV.out.trans (jct (by simp) (by decide))).symm,K0.out⟩
 | true =>
  go_upto_region 3 with (go_at_call 32;refine(N0.out _).mono ?_;rintro e w9 ⟨rfl,rfl⟩)
  go_upto_region 4 with (go_at_call 12;refine(E1.out _ (Kept.refl _)).mono ?_;rintro e w1 ⟨rfl,k1⟩;have K1:=lH k1;clear k1;obtain⟨o0,o1,o2,o3,o4⟩:=HC.out _ K1.out)
  clear p0 p1 p2 p3 p4;by_cases z1:y1=0
  case neg =>
   have z1':(y1 != 0)=true:=by simpa using z1
   go_wp2;go_ret;exact⟨ji (HV.out.trans (jcp (by simp) rfl z1)).symm,K0.out.trans K1.out⟩
  subst z1;by_cases h0:lo<0
  case pos =>
   have HL:=lH (show jP lo hi=1 by unfold jP;rw[if_pos (by omega)]);go_wp2;go_ret;exact⟨ji (HV.out.trans (Xl (by simp) rfl HL.out (by decide))).symm,K0.out.trans K1.out⟩
  by_cases h1:hi<lo
  case pos =>
   have HL:=lH (show jP lo hi=1 by unfold jP;rw[if_pos (by omega)]);go_wp2;go_ret;exact⟨ji (HV.out.trans (Xl (by simp) rfl HL.out (by decide))).symm,K0.out.trans K1.out⟩
  by_cases h2:128<hi
  case pos =>
   have HL:=lH (show jP lo hi=1 by unfold jP;rw[if_pos (by omega)]);go_wp2;go_ret;exact⟨ji (HV.out.trans (Xl (by simp) rfl HL.out (by decide))).symm,K0.out.trans K1.out⟩
  have HL:=lH (show jP lo hi=0 by unfold jP;rw[if_neg (by omega)]);have HV:=lH (HV.out.trans (jcr (by simp) rfl HL.out));by_cases h8:8<len
  case pos =>
   have RW:=lH (show jC l=4 by unfold jC;rw[Vj.out,if_pos h8]);have h8i:(8:Int)<(len:Int):=by omega
   go_wp2;go_ret;exact⟨ji (HV.out.trans RW.out).symm,K0.out.trans K1.out⟩
  have h8i:¬(8:Int)<(len:Int):=by omega
  have HV:=lH (HV.out.trans (show jC l=jk none l by unfold jC;rw[Vj.out,if_neg h8]));go_wp2;clear o0 o1 o2 o3 o4;go_loopw [4] (fun i wr=>∃k:Nat,k≤len∧i=.int .i64 k∧jk (j4 l k) (l.drop k)=jk none l∧Kept w1 wr) (fun i _=>len-(intOf i).toNat)
  case atStart=>exact⟨0,Nat.zero_le _,rfl,rfl,Kept.refl _⟩
  case round =>
   obtain⟨k,hk,rfl,hrest,hK⟩:=hrel;obtain⟨HS,HT,HK,UB⟩:=lH4 (HV.out.trans hrest.symm) hrest (K1.out.trans hK) hK;obtain⟨o0,o1,o2,o3,o4⟩:=HC.out _ HK.out;clear hrest hK;by_cases hlt:k<len
   · obtain⟨b,off,rfl⟩:∃b off,a2=some ⟨b,off,none⟩:=by rcases HR.out.form with h | h;omega;exact h
     obtain⟨u,c,p,hn,hd,hb,hfine,c0,c1x,c2x⟩:=(HR.out.kept (K0.out.trans HK.out)).rung hlt;have HD:=lH hd;have VP:=lH (Yd hn);have hkk:(k:Int)<(len:Int):=by omega
     clear hd hn hfine;obtain⟨W2,hW2⟩:=eX (wr.alloc (.cells #[.int .i64 u,.int .i64 c,.int .i64 p] 49))
     have k2:Kept wr W2:=by rw[←hW2];exact jb _ _
     obtain⟨Q2,hQ2⟩:=eX (wr.heap.size)
     obtain⟨HB,K2,K2W,EW2,EQ2⟩:=lH5 (show ∀W,Kept W2 W→W.cell? ⟨Q2,0,none⟩=some (.int .i64 u)∧W.cell? ⟨Q2,1,none⟩=some (.int .i64 c)∧W.cell? ⟨Q2,2,none⟩=some (.int .i64 p) from fun W k=>by rw[←hQ2];exact(js wr (.int .i64 u) [.int .i64 c,.int .i64 p] 49 W (by rw[hW2];exact k)).at3) (HK.out.trans k2) (UB.out.trans k2) hW2 hQ2;clear hW2 hQ2 k2;go_upto_region 14 with fail
     try rw[EW2.out]
     try rw[EQ2.out]
     clear o0 o1 o2 o3 o4 c0 c1x c2x;obtain⟨o0,o1,o2,o3,o4⟩:=HC.out _ K2.out;obtain⟨b0,b1,b2⟩:=HB.out _ (Kept.refl _);by_cases g0:u<0
     case pos =>
      have Vh:=lH (show jo u c p=1 by unfold jo;rw[if_pos (by omega)]);have Vt:=lH (show jk (j4 l k) (l.drop k)=1 by rw[HD.out,zY (n:=(u,c,p)) (by dsimp only;rw[Vh.out];decide)];exact Vh.out);go_wp2;go_ret;exact⟨ji (HS.out.trans Vt.out).symm,K0.out.trans K2.out⟩
     by_cases g1:p<0
     case pos =>
      have Vh:=lH (show jo u c p=1 by unfold jo;rw[if_pos (by omega)]);have Vt:=lH (show jk (j4 l k) (l.drop k)=1 by rw[HD.out,zY (n:=(u,c,p)) (by dsimp only;rw[Vh.out];decide)];exact Vh.out);go_wp2;go_ret;exact⟨ji (HS.out.trans Vt.out).symm,K0.out.trans K2.out⟩
     by_cases g2:1000000<p
     case pos =>
      have Vh:=lH (show jo u c p=1 by unfold jo;rw[if_pos (by omega)]);have Vt:=lH (show jk (j4 l k) (l.drop k)=1 by rw[HD.out,zY (n:=(u,c,p)) (by dsimp only;rw[Vh.out];decide)];exact Vh.out);go_wp2;go_ret;exact⟨ji (HS.out.trans Vt.out).symm,K0.out.trans K2.out⟩
     by_cases g3:c<0
     case pos =>
      have Vh:=lH (show jo u c p=1 by unfold jo;rw[if_pos (by omega)]);have Vt:=lH (show jk (j4 l k) (l.drop k)=1 by rw[HD.out,zY (n:=(u,c,p)) (by dsimp only;rw[Vh.out];decide)];exact Vh.out);go_wp2;go_ret;exact⟨ji (HS.out.trans Vt.out).symm,K0.out.trans K2.out⟩
     by_cases g4:128<c
     case pos =>
      have Vh:=lH (show jo u c p=1 by unfold jo;rw[if_pos (by omega)]);have Vt:=lH (show jk (j4 l k) (l.drop k)=1 by rw[HD.out,zY (n:=(u,c,p)) (by dsimp only;rw[Vh.out];decide)];exact Vh.out);go_wp2;go_ret;exact⟨ji (HS.out.trans Vt.out).symm,K0.out.trans K2.out⟩
     have Ui:=lH (show jo u c p=0 by unfold jo;rw[if_neg (by omega)]);by_cases hz:k=0
     · have HP:=lH (Yi (l:=l) (n:=(u,c,p)) (t:=l.drop (k+1)) hz Ui.out);have hd0:decide (0<k)=false:=by subst hz;decide
       have hk0:¬(0:Int)<(k:Int):=by omega
       go_wp2;go_quiet (fail)
       go_wp2;go_roundw
       case rel=>exact⟨k+1,by omega,by go_num,(show jk (j4 l (k+1)) (l.drop (k+1))=jk none l by rw[←HT.out,HD.out,HP.out,VP.out]),K2W.out.trans (by first | exact Kept.refl _ | exact Kept.drew _ | exact Kept.drewN _ _)⟩
       case measure=>simp[intOf];omega
     · obtain⟨q,hqk⟩:∃q,k=q+1:=⟨k-1,by omega⟩
       have hd0:decide (0<k)=true:=by simp;omega
       have hk0:(0:Int)<(k:Int):=by omega
       have g8:(k:Int)-1=(q:Int):=by omega
       have gw:IntKind.i64.wrap (q:Int)=(q:Int):=by rw[IntKind.wrap_i64];omega
       have g9:(q:Int)<(len:Int):=by omega
       obtain⟨u9,c9,p9,hn9,-,hb9,-,q0,q1,q2⟩:=(HR.out.kept (K0.out.trans K2.out)).rung (show q<len by omega);have hqk1:k-1=q:=by omega
       have HP:=lH (YT (l:=l) (n:=(u,c,p)) (q:=(u9,c9,p9)) (t:=l.drop (k+1)) hz (by rw[hqk1];exact hn9) Ui.out);dsimp only at HP;clear hqk hqk1 hn9 hz;have Up:=lH (show ∀W,Kept W2 W→(W.cell? ⟨Q,2,none⟩=some (.slice (some ⟨b,off,none⟩) len c2))∧(W.cell? ⟨Q2,0,none⟩=some (.int .i64 u))∧(W.cell? ⟨b,off+q*3,none⟩=some (.int .i64 u9)) from fun W k=>⟨(HC.out _ (K2.out.trans k)).2.2.1,(HB.out _ k).1,cell_later k q0⟩);by_cases hle:u≤u9
       · have R8:=Up;go_wp2;go_region_held3 (fun W=>(W.cell? ⟨Q,2,none⟩=some (.slice (some ⟨b,off,none⟩) len c2))∧(W.cell? ⟨Q2,0,none⟩=some (.int .i64 u))∧(W.cell? ⟨b,off+q*3,none⟩=some (.int .i64 u9))) (first | exact Up.out _ (Kept.drew _) | exact Up.out _ (Kept.refl _)) (fail)
         go_wp2;go_ret;exact⟨ji (show (13:Int)=_ by rw[HS.out,HD.out,HP.out,if_pos hle]),K0.out.trans (K2.out.trans (by first | exact Kept.refl _ | exact Kept.drew _ | exact Kept.drewN _ _))⟩
       · go_wp2;go_region_held3 (fun W=>(W.cell? ⟨Q,2,none⟩=some (.slice (some ⟨b,off,none⟩) len c2))∧(W.cell? ⟨Q2,0,none⟩=some (.int .i64 u))∧(W.cell? ⟨b,off+q*3,none⟩=some (.int .i64 u9))) (first | exact Up.out _ (Kept.drew _) | exact Up.out _ (Kept.refl _)) (fail)
         go_wp2;go_roundw
         case rel=>exact⟨k+1,by omega,by go_num,(show jk (j4 l (k+1)) (l.drop (k+1))=jk none l by rw[←HT.out,HD.out,HP.out,if_neg (by omega),VP.out]),K2W.out.trans (by first | exact Kept.refl _ | exact Kept.drew _ | exact Kept.drewN _ _)⟩
         case measure=>simp[intOf];omega
   · have HE:=lH (show jk (j4 l k) (l.drop k)=0 by rw[List.drop_of_length_le (by rw[Vj.out];omega)];rfl);have hkk:¬(k:Int)<(len:Int):=by omega
     go_wp2;go_ret;exact⟨ji (HS.out.trans HE.out).symm,K0.out.trans HK.out⟩
def qI (n:Lad):List UInt8:=n.what.data.toList++(32::(Vec.j0 n.unit++(32::Jl n.lo n.hi)))
def JZ (l:RL):List UInt8:=l.flatMap fun r=>32::zk r
theorem join_cons (x y:List UInt8) (t:List (List UInt8)):Lib.join (x::y::t) [32]=x++(32::Lib.join (y::t) [32]):=by simp[Lib.join,List.intercalate]
theorem YR:∀(l:RL) (x:List UInt8),Lib.join (x::l.map zk) [32]=x++JZ l
 | [],x=>by simp[Lib.join_one,JZ]
 | r::t,x=>by
  rw[List.map_cons,join_cons,YR t];simp[JZ]
theorem jaK (n:Lad):Zo n=qI n++JZ n.rungs:=by
 unfold Zo zz;rw[join_cons,join_cons,YR];simp[qI]
theorem ZT (l:List UInt8):(bytes l).size=l.length:=by simp[bytes,ByteArray.size]
theorem qG (x:ByteArray):bytes x.data.toList=x:=by apply Go.WideShapes.bytes_inj;simp[bytes]
theorem jag (x:Int) (u:Value) (h:u ∈ [Value.int .i64 x]):u.oneCell'=true:=by
 have e:u=Value.int .i64 x:=by simpa using h
 rw[e];rfl
def Jf:Lay Int:={ m:=1,cs:=fun x=>[.int .i64 x],fine:=I64,len:=fun _=>rfl,one:=jag,pos:=by decide }
theorem jT.int {w:World} {b off len:Nat} {l:List Int} {k:Nat} (h:jT Jf w (some ⟨b,off,none⟩) len l) (hk:k<len):∃x:Int,l[k]?=some x∧I64 x∧w.cell? ⟨b,off+k,none⟩=some (.int .i64 x):=by
 obtain⟨x,h1,h2,h3,h4,h5⟩:=h.cells hk;exact⟨x,h1,h4,by have:=h5 0 _ rfl;simpa [Jf] using this⟩
theorem jcP:(Tryz.prog.info? 2).map (fun i=>(i.zero,i.size,i.bytes))=some (some (.int .i64 0),1,8):=by kernel_rfl
def vsL (c:UInt8) (s:List UInt8):List Int:=(ja c s).map fun p=>(Vec.jU p).1
theorem zJ (p:List UInt8):I64 (Vec.jU p).1:=by
 unfold Vec.jU I64;split<;>dsimp only<;>omega
theorem jcd (p:List UInt8):(Vec.jU p).2=inQ p:=by
 unfold Vec.jU inQ;split
 · rename_i h;exact(decide_eq_true h).symm
 · rename_i h;exact(decide_eq_false h).symm
theorem Js (p:List UInt8):(bytes p).data.toList=p:=by simp[bytes]
def jcR (c:UInt8) (k:Nat) (s:List UInt8) (w:World) (e:Ending) (w':World):Prop :=
 (jA c k s=false→e=.returned (.tuple #[.slice none 0 0,.int .i64 2])) ∧
 (jA c k s=true→∃v,e=.returned (.tuple #[v,.int .i64 (if (ja c s).all inQ=true then 0 else 5)])∧Own Jf 2 w' w.heap.size v (vsL c s))∧Kept w w'
theorem jb6 {c:UInt8} {k j:Nat} {s p:List UInt8} (hp:(ja c s)[j]?=some p) (hd:Vec.je p=false):jA c k s=false:=by
 unfold jA;rw[show (ja c s).all Vec.je=false from List.all_eq_false.2 ⟨p,List.mem_of_getElem? hp,by rw[hd];decide⟩,Bool.and_false]
theorem Xd {α:Type} {l:List α} {k:Nat} {x:α} (f:α→Bool) (h:l[k]?=some x):(l.take (k+1)).all f=((l.take k).all f&&f x):=by
 rw[List.take_add_one,h];simp
theorem jbW {c:UInt8} {s p:List UInt8} {k:Nat} (h:(ja c s)[k]?=some p):(vsL c s).take (k+1)=(vsL c s).take k++[(Vec.jU p).1]:=by
 rw[List.take_add_one,show (vsL c s)[k]?=some (Vec.jU p).1 by unfold vsL;rw[List.getElem?_map,h];rfl];rfl
theorem ZF (c:UInt8) (K:Nat) (s:List UInt8) (w:World) (hs:s.length≤1000000) {cv:Value} (hcv:cv=.int .u8 (c.toNat:Int)) (hK:K≤1000):Calls Tryz.prog 52 #[.string (bytes s),cv,.int .i64 (K:Int)] w (jcR c K s w):=by
 have Vd:=lH (fun W=>Ym c s W hs hcv);have Rd:=lH (fun p (hp:p ∈ ja c s)=>Nat.le_trans (jz c s p hp) hs);obtain⟨m,hm⟩:=eX ((ja c s).length)
 have HM:=lH hm;have hmb:m≤1000001:=by have:=J0 c s;omega
 clear hs hcv hm;obtain⟨i0,hi,hz0,hz1,hz2⟩:=info_parts jcP;go_enter Tryz.func52,Tryz.ntmps52;go_wp2_with fail
 refine(Vd.out _).mono ?_;rintro e w1 ⟨ov,rfl,hov,kk⟩;have J1:=lH kk;obtain⟨a,cap,rfl,hcl,hcm,hrow⟩:=hov.at_;have hln:(splitB c s).length=m:=by unfold splitB;rw[List.length_map,HM.out]
 rw[hln] at hrow;rw[hln];have HR:=lH hrow;clear hov kk hcl hcm hrow hln;by_cases hk:m=K
 case neg =>
  have hne:¬(m:Int)=(K:Int):=by omega
  have hne2:((m:Int) != (K:Int))=true:=by simpa using hne
  have HF:=lH (show jA c K s=false by unfold jA;rw[HM.out,decide_eq_false hk,Bool.false_and]);go_wp2;go_ret2
  exact⟨fun _=>rfl,fun h=>(by rw[HF.out] at h;cases h),J1.out⟩
 subst hk;obtain⟨B,hB⟩:=eX (w1.heap.size)
 have HB:=lH hB;clear hB;go_wp2;go_loopw [9,10,11] (fun ov bv iv wr=>∃k:Nat,k≤m∧iv=.int .i64 k∧bv=.bool (!((ja c s).take k).all inQ)∧Own Jf 2 wr B ov ((vsL c s).take k)∧(∀p ∈ (ja c s).take k,Vec.je p=true)∧Kept w1 wr) (fun _ _ iv _=>m-(intOf iv).toNat)
 case atStart=>exact⟨0,Nat.zero_le _,rfl,rfl,Own.nil _ _ _,by simp,Kept.refl _⟩
 case round =>
  obtain⟨k,hk,rfl,rfl,how,hdd,hj⟩:=hrel;obtain⟨OW,UP,J⟩:=lH3 how hdd hj;clear how hdd hj;obtain⟨ob,hob⟩:=eX ((!((ja c s).take k).all inQ))
  have VL:=lH hob;rw[hob];clear hob;by_cases hlt:k<m
  · obtain⟨b,off,rfl⟩:∃b off,a=some ⟨b,off,none⟩:=by rcases HR.out.form with h | h;omega;exact h
    obtain⟨z,hz,-,-,hzs,hzc⟩:=(HR.out.kept J.out).str hlt;obtain⟨p,hp⟩:∃p,(ja c s)[k]?=some p:=⟨_,List.getElem?_eq_getElem (by rw[HM.out];exact hlt)⟩
    obtain rfl:z=bytes p:=by
     have h9:(splitB c s)[k]?=some (bytes p):=by unfold splitB;rw[List.getElem?_map,hp];rfl
     rw[h9] at hz;exact(Option.some.inj hz).symm
    have HP:=lH hp;have hkk:(k:Int)<(m:Int):=by omega
    obtain⟨dq,hdq⟩:=eX (Vec.je p)
    have TF:=lH hdq;have Uj:=lH (fun W=>Vec.ZW (bytes p) W hzs);unfold Vec.jL at Uj;rw[Js,hdq] at Uj;clear hz hp hdq;go_wp2_with fail
    refine(Uj.out _).mono ?_;rintro e w9 ⟨rfl,rfl⟩
    cases dq with
    | false =>
     have HF:=lH (jb6 (k:=m) HP.out TF.out);go_wp2;go_ret2
     exact⟨fun _=>rfl,fun h=>(by rw[HF.out] at h;cases h),J1.out.trans J.out⟩
    | true =>
     have TG:=lH (fun W=>Vec.Z1 (bytes p) W hzs (by rw[Js];exact Vec.ZE TF.out));rw[Js] at TG;obtain⟨Vu,VP,Re,UC⟩:=lH4 (zJ p) (jbW HP.out) (Xd inQ HP.out) (JD UP.out HP.out TF.out);obtain⟨x,hx⟩:=eX ((Vec.jU p).1)
     obtain⟨y,hy⟩:=eX ((Vec.jU p).2)
     rw[hx] at Vu VP;rw[←jcd,hy] at Re;rw[hx,hy] at TG;clear hx hy;have VJ:=lH (show ((vsL c s).take k).length=k by unfold vsL;rw[List.length_take,List.length_map,HM.out];omega);have UQ:=lH (show wr.ownsRow B 2 1 u9 k (jg Jf ((vsL c s).take k)) by have:=OW.out.1;rw[VJ.out] at this;exact this);have Vb:=lH (show B≤wr.heap.size by rw[←HB.out];exact J.out.size);have hbz:=Vb.out;have RX:=lH (show (!((ja c s).take (k+1)).all inQ)=(ob||!y) by rw[Re.out,Bool.not_and,VL.out]);go_wp2_with fail
     refine(TG.out _).mono ?_;rintro e w9 ⟨rfl,rfl⟩
     cases ob<;>cases y
     all_goals
      go_wp2_with (at_builtin;go_loud ((refine wpList_append_lies _ rfl _ _ _ rfl B 2 i0 _ 1 8 Tryz.underlying96 hi hz0 hz1 hz2 rfl (by decide) u9 k (jg Jf ((vsL c s).take k)) rfl (UQ.out.alloc _) ⟨wr.heap.size,0,none⟩ 1 1 [.int .i64 x] rfl rfl (World.news_of_block (cs:=#[.int .i64 x]) (t:=2) (fr:=(0,0)) (heap_alloc_new wr _)) (jag x) (by decide) (by unfold maxLen;omega) (by omega) (by simp;omega) (wr.heap.size+1) (by simp) ?_);intro gg cap1 w4 hown1 hgrow hat hlt1))
      have RY:=lH ((show Below w1.heap.size w1 _ from J.out.trans (jb wr _)).grown hgrow (by simp;have:=J.out.size;omega) (fun j hj=>by rw[HB.out];exact(UQ.out.lt j hj).1));go_wp2;go_roundw
      case rel=>exact⟨k+1,by omega,by go_num,by rw[RX.out];rfl,by rw[VP.out];exact Own.snoc hown1 (by rw[VJ.out]) OW.out.2 Vu.out,UC.out,RY.out⟩
      case measure=>simp[intOf];omega
  · have hkk:¬(k:Int)<(m:Int):=by omega
    obtain rfl:k=m:=by omega
    have HE:=lH (show (vsL c s).take k=vsL c s by rw[List.take_of_length_le (by unfold vsL;rw[List.length_map,HM.out];omega)]);have V5:=lH (show (ja c s).take k=ja c s by rw[List.take_of_length_le (by rw[HM.out];omega)]);have HD:=lH (show jA c k s=true by
     have h:=UP.out;rw[V5.out] at h;unfold jA;rw[HM.out,decide_eq_true rfl,Bool.true_and,List.all_eq_true];exact h)
    have V4:=lH (show ((ja c s).all inQ)=!ob by rw[←VL.out,V5.out,Bool.not_not]);have OWF:=lH (show Own Jf 2 wr w.heap.size u9 (vsL c s) by have h:=OW.out;rw[HE.out] at h;exact h.base_le (by rw[←HB.out];exact J1.out.size))
    cases ob <;>
    (go_wp2
     go_ret2
     exact⟨fun h=>(by rw[HD.out] at h;cases h),fun _=>⟨u9,by rw[V4.out];rfl,OWF.out⟩,J1.out.trans J.out⟩)
theorem qZ (n:Lad) (v1 v2 u1 u2:Value) (w:World) (h:j7 w v1 v2 n) (h':j7 w u1 u2 n):Calls Tryz.prog 25 #[Ji n v1 v2,Ji n u1 u2] w (Say (.bool true) w):=by
 obtain⟨x,un,l,lo,hi⟩:=n;obtain⟨a2,c2,rfl,-,-,hr⟩:=id h.rungs;obtain⟨b2,d2,rfl,-,-,hr'⟩:=id h'.rungs;obtain⟨len,hlen⟩:=eX (l.length)
 dsimp only at hr hr';rw[hlen] at hr hr';unfold Ji;dsimp only;rw[hlen];have hm:=hr.2.1;unfold maxLen at hm;have HR:=lH hr;have Vm:=lH hr';obtain⟨W1,hW1⟩:=eX (w.alloc (.cells #[.string x,v1,.slice a2 len c2,.int .i64 lo,.int .i64 hi] 35))
 have k1:Kept w W1:=by rw[←hW1];exact jb _ _
 obtain⟨Q1,hQ1⟩:=eX (w.heap.size)
 obtain⟨W0,hW0⟩:=eX (W1.alloc (.cells #[.string x,u1,.slice b2 len d2,.int .i64 lo,.int .i64 hi] 35))
 have k2:Kept W1 W0:=by rw[←hW0];exact jb _ _
 obtain⟨Q2,hQ2⟩:=eX (W1.heap.size)
 obtain⟨HC,Vi,RZ,K0⟩:=lH4 (show ∀W,Kept W0 W→W.cell? ⟨Q1,0,none⟩=some (.string x)∧W.cell? ⟨Q1,1,none⟩=some (v1)∧W.cell? ⟨Q1,2,none⟩=some (.slice a2 len c2)∧W.cell? ⟨Q1,3,none⟩=some (.int .i64 lo)∧W.cell? ⟨Q1,4,none⟩=some (.int .i64 hi) from fun W k=>by rw[←hQ1];exact(js w (.string x) [v1,.slice a2 len c2,.int .i64 lo,.int .i64 hi] 35 W (by rw[hW1];exact k2.trans k)).at5) (show ∀W,Kept W0 W→W.cell? ⟨Q2,0,none⟩=some (.string x)∧W.cell? ⟨Q2,1,none⟩=some (u1)∧W.cell? ⟨Q2,2,none⟩=some (.slice b2 len d2)∧W.cell? ⟨Q2,3,none⟩=some (.int .i64 lo)∧W.cell? ⟨Q2,4,none⟩=some (.int .i64 hi) from fun W k=>by rw[←hQ2];exact(js W1 (.string x) [u1,.slice b2 len d2,.int .i64 lo,.int .i64 hi] 35 W (by rw[hW0];exact k)).at5) (fun W (k:Kept W0 W)=>Vec.jcA (h.unit.kept ((k1.trans k2).trans k)) (h'.unit.kept ((k1.trans k2).trans k)) (Vec.jb5 rfl)) (k1.trans k2);clear h h' hr hr' k1 k2;obtain⟨o0,o1,o2,o3,o4⟩:=HC.out _ (Kept.refl _);obtain⟨p0,p1,p2,p3,p4⟩:=Vi.out _ (Kept.refl _);go_enter Tryz.func25,Tryz.ntmps25;go_wp2_with fail
 try rw[hW1]
 try rw[hQ1]
 try rw[hW0]
 try rw[hQ2]
 clear hW1 hQ1 hW0 hQ2;refine(RZ.out _ (Kept.refl _)).mono ?_;rintro e w3 ⟨rfl,kk⟩;have J:=lH kk;clear kk o0 o1 o2 o3 o4 p0 p1 p2 p3 p4;obtain⟨o0,o1,o2,o3,o4⟩:=HC.out _ J.out;obtain⟨p0,p1,p2,p3,p4⟩:=Vi.out _ J.out;go_wp2;go_loopw [5] (fun i wr=>∃k:Nat,k≤len∧i=.int .i64 k∧Kept W0 wr) (fun i _=>len-(intOf i).toNat)
 case atStart=>exact⟨0,Nat.zero_le _,rfl,J.out⟩
 case round =>
  obtain⟨k,hk,rfl,hJ⟩:=hrel;have J:=lH hJ;clear hJ o0 o1 o2 o3 o4 p0 p1 p2 p3 p4;obtain⟨o0,o1,o2,o3,o4⟩:=HC.out _ J.out;obtain⟨p0,p1,p2,p3,p4⟩:=Vi.out _ J.out;by_cases hlt:k<len
  · obtain⟨b,off,rfl⟩:∃b off,a2=some ⟨b,off,none⟩:=by rcases HR.out.form with h | h;omega;exact h
    obtain⟨b9,off9,rfl⟩:∃b off,b2=some ⟨b,off,none⟩:=by rcases Vm.out.form with h | h;omega;exact h
    obtain⟨u,c,p,hn9,-,-,-,c0,c1x,c2x⟩:=HR.out.rung hlt;obtain⟨u9,c9,p9,hm9,-,-,-,d0,d1x,d2x⟩:=Vm.out.rung hlt;obtain⟨rfl,rfl,rfl⟩:u=u9∧c=c9∧p=p9:=by rw[hn9] at hm9;cases hm9;exact⟨rfl,rfl,rfl⟩
    clear hn9 hm9;have hkk:(k:Int)<(len:Int):=by omega
    have Up:=lH (show ∀W,Kept W0 W→(W.cell? ⟨Q1,2,none⟩=some (.slice (some ⟨b,off,none⟩) len c2))∧(W.cell? ⟨Q2,2,none⟩=some (.slice (some ⟨b9,off9,none⟩) len d2))∧(W.cell? ⟨b,off+k*3,none⟩=some (.int .i64 u)∧W.cell? ⟨b,off+k*3+1,none⟩=some (.int .i64 c)∧W.cell? ⟨b,off+k*3+2,none⟩=some (.int .i64 p))∧(W.cell? ⟨b9,off9+k*3,none⟩=some (.int .i64 u)∧W.cell? ⟨b9,off9+k*3+1,none⟩=some (.int .i64 c)∧W.cell? ⟨b9,off9+k*3+2,none⟩=some (.int .i64 p)) from fun W k=>⟨(HC.out _ k).2.2.1,(Vi.out _ k).2.2.1,⟨cell_later (K0.out.trans k) c0,cell_later (K0.out.trans k) c1x,cell_later (K0.out.trans k) c2x⟩,⟨cell_later (K0.out.trans k) d0,cell_later (K0.out.trans k) d1x,cell_later (K0.out.trans k) d2x⟩⟩);clear c0 c1x c2x d0 d1x d2x;go_wp2_with fail
    go_region_held3 (fun W=>(W.cell? ⟨Q1,2,none⟩=some (.slice (some ⟨b,off,none⟩) len c2))∧(W.cell? ⟨Q2,2,none⟩=some (.slice (some ⟨b9,off9,none⟩) len d2))∧(W.cell? ⟨b,off+k*3,none⟩=some (.int .i64 u)∧W.cell? ⟨b,off+k*3+1,none⟩=some (.int .i64 c)∧W.cell? ⟨b,off+k*3+2,none⟩=some (.int .i64 p))∧(W.cell? ⟨b9,off9+k*3,none⟩=some (.int .i64 u)∧W.cell? ⟨b9,off9+k*3+1,none⟩=some (.int .i64 c)∧W.cell? ⟨b9,off9+k*3+2,none⟩=some (.int .i64 p))) (exact Up.out _ (J.out.trans (Kept.drew _))) (fail)
    go_wp2;go_roundw
    case rel=>exact⟨k+1,by omega,by go_num,J.out.trans (by first | exact Kept.refl _ | exact Kept.drew _ | exact Kept.drewN _ _)⟩
    case measure=>simp[intOf];omega
  · have hkk:¬(k:Int)<(len:Int):=by omega
    go_wp2;go_ret;exact⟨rfl,K0.out.trans J.out⟩
theorem jbY {n:Lad} {v u:Value} {w:World} (h:JN w v n) (h':JN w u n):Calls Tryz.prog 25 #[v,u] w (Say (.bool true) w):=by
 obtain⟨v1,v2,rfl,h⟩:=h;obtain⟨u1,u2,rfl,h'⟩:=h';exact qZ n v1 v2 u1 u2 w h h'
end Go.Proofs.YtnfojaidmnccoaaGreatDoor
