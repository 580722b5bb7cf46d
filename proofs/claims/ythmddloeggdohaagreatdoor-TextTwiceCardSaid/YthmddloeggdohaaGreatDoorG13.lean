/- What serves all packages,and package by package the contracts of the functions that the law calls. -/
import Derived.Test.YthmddloeggdohaaGreatDoorG4
import Derived.Test.YthmddloeggdohaaGreatDoorG5
import Derived.Test.YthmddloeggdohaaGreatDoorG7
import Derived.Test.YthmddloeggdohaaGreatDoorG10
import Derived.Test.YthmddloeggdohaaGreatDoorG12
set_option linter.unusedVariables false
set_option maxRecDepth 100000
set_option maxHeartbeats 25600000
namespace Go.Proofs.YthmddloeggdohaaGreatDoor
open Go.RowKit
theorem or_zero:∀{l:List Int},orL l=0→∀x ∈ l,x=0
 | [],_,_,h=>by cases h
 | x::t,h,y,hy=>by
  unfold orL at h;by_cases z:x=0
  · rw[if_neg (fun g=>g z)] at h;rcases List.mem_cons.1 hy with rfl | hy
    · exact z
    · exact or_zero h y hy
  · rw[if_pos z] at h;exact absurd h z
theorem jlQ {x:ByteArray} (h:Zj x=true):x=ByteArray.empty:=zt.1 h
theorem nameOr_cases {x:ByteArray} (h:zP x=true):(Zj x=true∧x=ByteArray.empty)∨(Zj x=false∧isName x=true):=by
 unfold zP at h
 cases hq:Zj x with
 | true=>exact .inl ⟨rfl,jlQ hq⟩
 | false=>rw[hq] at h;exact .inr ⟨rfl,by simpa using h⟩
theorem jiC {x:ByteArray} (h:isName x=true):x.data.toList≠[]∧x.data.toList≠[45]:=by
 refine⟨fun e=>?_,fun e=>?_⟩
 · have:x=ByteArray.empty:=by rw[←jZ x,e];rfl
   rw[this] at h;exact absurd h (by decide)
 · exact absurd (Ya h 45 (by rw[e];simp)) (by decide)
theorem jf8 {x:ByteArray} (h:zP x=true):jbu (Ze x).data.toList=some x∧(32:UInt8) ∉ (Ze x).data.toList:=by
 rcases nameOr_cases h with ⟨h1,rfl⟩ | ⟨h1,h2⟩
 · have e:Ze ByteArray.empty=⟨#[45]⟩:=by unfold Ze;rw[if_pos h1]
   rw[e];exact⟨rfl,by decide⟩
 · have e:Ze x=x:=by unfold Ze;rw[if_neg (by rw[h1];decide)]
   rw[e];obtain⟨n1,n2⟩:=jiC h2;exact⟨by unfold jbu;rw[if_neg n1,if_neg n2,jZ],Jk h2⟩
theorem jda (u:Nat):Lib.itoa (u:Int)=Lib.decDigits u:=by
 unfold Lib.itoa;rw[if_neg (by omega)];simp
theorem jcX {u:Nat} (h:u≤2147483647):X8 (Lib.decDigits u)=some (u:Int):=by
 obtain⟨h1,h2⟩:=Vec.jk8 u;unfold X8;rw[if_pos ⟨h1,by omega⟩,h2]
theorem jcf {u:Nat} {b:UInt8} (h:Vec.zs b=false):b ∉ Lib.decDigits u:=fun e=>by rw[Vec.jax e] at h;cases h
theorem jkp {p:Int} {b:Bool} (h:ZW p b=0):jaY (Lib.itoa p)=some p∧(32:UInt8) ∉ Lib.itoa p:=by
 unfold ZW jb3 at h;split at h
 · cases h
 · rename_i g;simp only[Bool.or_eq_true,decide_eq_true_eq,not_or] at g;obtain⟨g1,g2,-⟩:=g;by_cases z:p=-1
   · subst z;have e:Lib.itoa (-1)=[45,49]:=by simp[Lib.itoa,Lib.decDigits]
     rw[e];exact⟨rfl,by decide⟩
   · obtain⟨u,rfl⟩:∃u:Nat,p=(u:Int):=⟨p.toNat,by omega⟩
     rw[jda];refine⟨?_,jcf (by decide)⟩;unfold jaY;rw[if_neg (fun e=>jcf (u:=u) (b:=45) (by decide) (by rw[e];simp)),jcX (by omega)]
theorem jk3:∀(x y:List UInt8),(47:UInt8) ∉ x→Lib.cut (x++47::y) [47]=(x,y,true):=fun _ y h=>JM y h
theorem jhZ {k:ByteArray} {m:Int} (h:zG k m=0):XN (zY k m).data.toList=some (k,m)∧(32:UInt8) ∉ (zY k m).data.toList:=by
 unfold zG at h;by_cases q:zP k=false
 · rw[if_pos q] at h;cases h
 · rw[if_neg q] at h;have q:zP k=true:=by simpa using q
   split at h
   · cases h
   · rename_i g;unfold qN at g;rcases nameOr_cases q with ⟨h1,rfl⟩ | ⟨h1,h2⟩
     · rw[if_pos h1] at g;have:m=0:=by simpa using g
       subst this;have e:zY ByteArray.empty 0=⟨#[45]⟩:=by unfold zY;rw[if_pos h1]
       rw[e];exact⟨rfl,by decide⟩
     · rw[if_neg (by rw[h1];decide)] at g;simp only[Bool.or_eq_true,decide_eq_true_eq,not_or] at g;obtain⟨u,rfl⟩:∃u:Nat,m=(u:Int):=⟨m.toNat,by omega⟩
       have e:(zY k (u:Int)).data.toList=k.data.toList++47::Lib.decDigits u:=by
        unfold zY;rw[if_neg (by rw[h1];decide),jda];simp[ByteArray.data_append,bytes]
       have s47:(47:UInt8) ∉ k.data.toList:=fun e=>absurd (Ya h2 _ e) (by decide);rw[e];refine⟨?_,fun e=>?_⟩
       · unfold XN;rw[if_neg (fun e=>by
          have:(47:UInt8) ∈ k.data.toList++47::Lib.decDigits u:=by simp
          rw[e] at this;exact absurd this (by decide)),jk3 _ _ s47,if_neg (jiC h2).1,jcX (by omega),jZ]
         rfl
       · rcases List.mem_append.1 e with e | e
         · exact Jk h2 e
         · rcases List.mem_cons.1 e with e | e
           · exact absurd e (by decide)
           · exact jcf (by decide) e
theorem jll (b:Bool):jfx (Xl b).data.toList=some b∧(32:UInt8) ∉ (Xl b).data.toList:=by cases b<;>decide
theorem jaj:∀{l:TL},JG l=0→∀x ∈ l,Ja x=0
 | [],_,_,h=>by cases h
 | t::r,h,x,hx=>by
  unfold JG at h;by_cases z:Ja t=0
  · rw[if_neg (fun g=>g z)] at h;rcases List.mem_cons.1 hx with rfl | hx
    · exact z
    · exact jaj h x hx
  · rw[if_pos z] at h;exact absurd h z
theorem jgc {x y:ByteArray} {c:UInt8} (hx:(32:UInt8) ∉ x.data.toList) (hy:(32:UInt8) ∉ y.data.toList) (hc:c≠32):(32:UInt8) ∉ (x++⟨#[c]⟩++y).data.toList:=by
 intro e;rw[Zu] at e;rcases List.mem_append.1 e with e | e
 · exact hx e
 · rcases List.mem_cons.1 e with e | e
   · exact hc e.symm
   · exact hy e
theorem jlg {l:TL} (h:zb l=0):(32:UInt8) ∉ (zD l).data.toList:=by
 have h2:JG l=0:=by
  unfold zb at h;split at h
  · cases h
  · exact h
 intro e;unfold zD at e;by_cases h0:l=[]
 · rw[if_pos h0] at e;exact absurd e (by decide)
 · rw[if_neg h0,ZJ,List.map_map] at e;rcases mem_join e with e | ⟨p,hp,e⟩
   · exact absurd e (by decide)
   · obtain⟨x,hx,rfl⟩:=List.mem_map.1 hp;have g:=jaj h2 x hx;have e':(32:UInt8) ∈ (zK x).data.toList:=e;unfold Ja at g;unfold zK at e';by_cases o12:x.1=1∨x.1=2
     · rw[if_pos o12] at g;split at g
       · rename_i g2;rw[Bool.and_eq_true] at g2;by_cases o1:x.1=1
         · rw[if_pos o1] at e';exact jgc (Jk g2.1) (Jk g2.2) (by decide) e'
         · rw[if_neg o1,if_pos (o12.resolve_left o1)] at e';exact jgc (Jk g2.1) (Jk g2.2) (by decide) e'
       · cases g
     · rw[if_neg o12] at g;rw[if_neg (fun a=>o12 (.inl a)),if_neg (fun a=>o12 (.inr a))] at e';by_cases o34:x.1=3∨x.1=4
       · rw[if_pos o34] at g;split at g
         · rename_i g2;rw[Bool.and_eq_true] at g2;by_cases o4:x.1=4
           · rw[if_pos o4,ByteArray.data_append,Array.toList_append] at e';rcases List.mem_append.1 e' with e | e
             · exact absurd e (by decide)
             · exact Jk g2.1 e
           · rw[if_neg o4] at e';exact Jk g2.1 e'
         · cases g
       · rw[if_neg o34] at g;cases g
theorem jom {l:NL} (h:zw l=0):(32:UInt8) ∉ (Jh l).data.toList:=by
 intro e;unfold Jh at e;by_cases h0:l=[]
 · rw[if_pos h0] at e;exact absurd e (by decide)
 · rw[if_neg h0,ZJ,List.map_map] at e;rcases mem_join e with e | ⟨p,hp,e⟩
   · exact absurd e (by decide)
   · obtain⟨x,hx,rfl⟩:=List.mem_map.1 hp;have g:=jaW h x hx;have e':(32:UInt8) ∈ (Jx x).data.toList:=e;unfold zm at g;rw[Bool.and_eq_true] at g;have st:(32:UInt8) ∉ (JI x.1).data.toList:=by
      unfold JI;split
      · decide
      · rename_i q;have g1:=g.1;have q:Zj x.1=false:=by simpa using q
        rw[q] at g1;exact Jk (by simpa using g1)
     unfold Jx at e';by_cases m:x.2.2=true
     · rw[if_pos m] at e';exact st e'
     · rw[if_neg m] at e';have g2:=g.2;rw[if_neg m] at g2;exact jgc st (Jk g2) (by decide) e'
theorem jh5 {n:Pd} (h:zV n=0) (hf:Vec.zp n.need):jnV (jY n).data.toList n:=by
 have hz:=or_zero h;have c0:=hz _ (show Zc n.name n.owner ∈ jE n by simp[jE]);have c1:=hz _ (show ZW n.prio n.hold ∈ jE n by simp[jE]);have c2:=hz _ (show Vec.jm n.need ∈ jE n by simp[jE]);have c3:=hz _ (show zE n.labels ∈ jE n by simp[jE]);have c4:=hz _ (show zb n.sel ∈ jE n by simp[jE]);have c5:=hz _ (show zw n.tols ∈ jE n by simp[jE]);have c6:=hz _ (show zG n.key n.most ∈ jE n by simp[jE]);have c7:=hz _ (show ZD n.node ∈ jE n by simp[jE]);have hn:isName n.name=true∧zP n.owner=true:=by
  unfold Zc at c0;split at c0
  · assumption
  · cases c0
 have hd:zP n.node=true:=by
  unfold ZD at c7;split at c7
  · assumption
  · cases c7
 obtain⟨o1,o2⟩:=jf8 hn.2;obtain⟨p1,p2⟩:=jkp c1;obtain⟨s1,s2⟩:=jhZ c6;obtain⟨d1,d2⟩:=jf8 hd;obtain⟨k1,k2⟩:=jll n.hold;have hb:∀p:List UInt8,(bytes p).data.toList=p:=fun p=>by simp[bytes]
 have he:(jY n).data.toList=n.name.data.toList++32::((Ze n.owner).data.toList++32::(Lib.itoa n.prio++32::(Vec.j7 n.need++32::((zr n.labels).data.toList++32::((zD n.sel).data.toList++32::((Jh n.tols).data.toList++32::((zY n.key n.most).data.toList++32::((Ze n.node).data.toList++32::(Xl n.hold).data.toList)))))))):=by
  unfold jY jbG;rw[jaH];simp[ByteArray.data_append,bytes]
 refine⟨n.name.data.toList,(Ze n.owner).data.toList,Lib.itoa n.prio,Vec.j7 n.need,(zr n.labels).data.toList,(zD n.sel).data.toList,(Jh n.tols).data.toList,(zY n.key n.most).data.toList,(Ze n.node).data.toList,(Xl n.hold).data.toList,?_,(jZ _).symm,o1,p1,Vec.YA c2 hf,YA c3,jbd c4,jiW c5,s1,d1,k1⟩;rw[he,Zi _ _ (Jk hn.1),Zi _ _ o2,Zi _ _ p2,Zi _ _ (jld c2),Zi _ _ (jjQ c3),Zi _ _ (jlg c4),Zi _ _ (jom c5),Zi _ _ s2,Zi _ _ d2,jaR k2]
theorem j1 {x:Int} {t:List Int} (h:x=0):orL (x::t)=orL t:=by subst h;rfl
theorem jM {x v:Int} {t:List Int} (h:x=v) (hv:v≠0):orL (x::t)=v:=by
 subst h;show (if x≠0 then x else orL t)=x;rw[if_pos hv]
theorem Xj {x:Int}:orL [x]=x:=by
 show (if x≠0 then x else 0)=x;by_cases h:x=0
 · rw[if_neg (fun g=>g h),h]
 · rw[if_pos h]
theorem eor {x:ByteArray} {q r:Bool} (h:(x.toList==([]:List UInt8))=q) (g:isName x=r):zP x=(q||r):=by unfold zP;rw[ZY,h,g]
theorem jg3 (n:Pd) (v1 v2 v3 v4:Value) (w:World) (h:zl w v1 v2 v3 v4 n) :
 Calls Tryz.prog 60 #[JQ n v1 v2 v3 v4] w (Say (.int .i64 (zV n)) w):=by
 obtain⟨x0,x1,x2,l1,l2,l3,l4,x3,x4,x5,x6⟩:=n;have s0:x0.size≤maxLen:=h.name;have s1:x1.size≤maxLen:=h.owner;have s3:x3.size≤maxLen:=h.key;have s5:x5.size≤maxLen:=h.node;obtain⟨W0,hW0⟩:∃Z,w.alloc (.cells #[.string x0,.string x1,.int .i64 x2,v1,v2,v3,v4,.string x3,.int .i64 x4,.string x5,.bool x6] 86)=Z:=⟨_,rfl⟩
 have hk0:Kept w W0:=by rw[←hW0];exact ja _ _
 have HC:=lH (show ∀W,Kept W0 W→W.cell? ⟨w.heap.size,0,none⟩=some (.string x0)∧W.cell? ⟨w.heap.size,1,none⟩=some (.string x1)∧W.cell? ⟨w.heap.size,2,none⟩=some (.int .i64 x2)∧W.cell? ⟨w.heap.size,3,none⟩=some (v1)∧W.cell? ⟨w.heap.size,4,none⟩=some (v2)∧W.cell? ⟨w.heap.size,5,none⟩=some (v3)∧W.cell? ⟨w.heap.size,6,none⟩=some (v4)∧W.cell? ⟨w.heap.size,7,none⟩=some (.string x3)∧W.cell? ⟨w.heap.size,8,none⟩=some (.int .i64 x4)∧W.cell? ⟨w.heap.size,9,none⟩=some (.string x5)∧W.cell? ⟨w.heap.size,10,none⟩=some (.bool x6) from fun W k=>by
  have:=jg w (.string x0) [.string x1,.int .i64 x2,v1,v2,v3,v4,.string x3,.int .i64 x4,.string x5,.bool x6] 86 W (by rw[hW0];exact k);exact⟨this.at_ 0 _ rfl,this.at_ 1 _ rfl,this.at_ 2 _ rfl,this.at_ 3 _ rfl,this.at_ 4 _ rfl,this.at_ 5 _ rfl,this.at_ 6 _ rfl,this.at_ 7 _ rfl,this.at_ 8 _ rfl,this.at_ 9 _ rfl,this.at_ 10 _ rfl⟩)
 obtain⟨y1,hy1⟩:∃y,Vec.jm l1=y:=⟨_,rfl⟩
 obtain⟨y2,hy2⟩:∃y,zE l2=y:=⟨_,rfl⟩
 obtain⟨y3,hy3⟩:∃y,zb l3=y:=⟨_,rfl⟩
 obtain⟨y4,hy4⟩:∃y,zw l4=y:=⟨_,rfl⟩
 have E1:=lH (fun W (k:Kept W0 W)=>Vec.Z1 (h.need.kept (hk0.trans k)) hy1);have E2:=lH (fun W (k:Kept W0 W)=>Z1 (h.labels.kept (hk0.trans k)) hy2);have E3:=lH (fun W (k:Kept W0 W)=>jbD (h.sel.kept (hk0.trans k)) hy3);have E4:=lH (fun W (k:Kept W0 W)=>jjd (h.tols.kept (hk0.trans k)) hy4);have HV:=lH (show zV ⟨x0,x1,x2,l1,l2,l3,l4,x3,x4,x5,x6⟩=orL [Zc x0 x1,ZW x2 x6,y1,y2,y3,y4,zG x3 x4,ZD x5] by rw[←hy1,←hy2,←hy3,←hy4];rfl);obtain⟨r0,hr0⟩:∃r,isName x0=r:=⟨_,rfl⟩
 obtain⟨r1,hr1⟩:∃r,isName x1=r:=⟨_,rfl⟩
 obtain⟨r3,hr3⟩:∃r,isName x3=r:=⟨_,rfl⟩
 obtain⟨r5,hr5⟩:∃r,isName x5=r:=⟨_,rfl⟩
 obtain⟨q1,hq1⟩:∃q,(x1.toList==([]:List UInt8))=q:=⟨_,rfl⟩
 obtain⟨q3,hq3⟩:∃q,(x3.toList==([]:List UInt8))=q:=⟨_,rfl⟩
 obtain⟨q5,hq5⟩:∃q,(x5.toList==([]:List UInt8))=q:=⟨_,rfl⟩
 have N0:=lH (fun W=>Vec.Xp (w:=W) s0 hr0);have N1:=lH (fun W=>Vec.Xp (w:=W) s1 hr1);have N3:=lH (fun W=>Vec.Xp (w:=W) s3 hr3);have N5:=lH (fun W=>Vec.Xp (w:=W) s5 hr5);have HN:=lH (show Zc x0 x1=if r0=true∧(q1||r1)=true then 0 else 3 by unfold Zc;rw[eor hq1 hr1,hr0]);have HS:=lH (show zG x3 x4=if (q3||r3)=false then 3 else if (if q3=true then decide (x4≠0) else decide (x4<1)||decide (128<x4))=true then 1 else 0 by unfold zG qN;rw[eor hq3 hr3,ZY,hq3]);have HD:=lH (show ZD x5=if (q5||r5)=true then 0 else 3 by unfold ZD;rw[eor hq5 hr5]);obtain⟨zz,hzz⟩:∃z,(x2==-1)=z:=⟨_,rfl⟩
 have HP:=lH (show ZW x2 x6=if (decide (x2 < -1)||(decide (1000000<x2)||(zz != x6)))=true then 1 else 0 by unfold ZW jb3;rw[show decide (x2=-1)=zz from hzz]);have HK0:=lH hk0;obtain⟨c0,c1,c2,c3,c4,c5,c6,c7,c8,c9,c10⟩:=HC.out _ (Kept.refl _);clear h hk0 hy1 hy2 hy3 hy4 hr0 hr1 hr3 hr5 s0 s1 s3 s5;unfold JQ;dsimp only;go_enter Tryz.func60,Tryz.ntmps60;go_wp2_with fail
 try rw[hW0]
 clear hW0;refine(N0.out _).mono ?_;rintro e w9 ⟨rfl,rfl⟩
 cases r0 with
 | false =>
  have HV:=lH (HV.out.trans (jM (v:=3) (HN.out.trans (by simp)) (by decide)));go_wp2;go_ret;exact⟨jb HV.out.symm,HK0.out.trans (Kept.refl _)⟩
 | true =>
  cases q1 with
  | true =>
   have HV:=lH (HV.out.trans (j1 (HN.out.trans (by simp))));by_cases p1:x2 < -1
   · have HV:=lH (HV.out.trans (jM (v:=1) (HP.out.trans (by simp[p1])) (by decide)));clear hzz;go_wp2;go_ret;exact⟨jb HV.out.symm,HK0.out.trans (Kept.refl _)⟩
   · have p1:-1≤x2:=by omega
     by_cases p2:1000000<x2
     · have HV:=lH (HV.out.trans (jM (v:=1) (HP.out.trans (by simp[p2])) (by decide)));clear hzz;go_wp2;go_ret;exact⟨jb HV.out.symm,HK0.out.trans (Kept.refl _)⟩
     · have p2:x2≤1000000:=by omega
       have HP:=lH (HP.out.trans (show (if (decide (x2 < -1)||(decide (1000000<x2)||(zz != x6)))=true then 1 else 0)=(if (zz != x6)=true then 1 else 0) by rw[show decide (x2 < -1)=false by simp;omega,show decide (1000000<x2)=false by simp;omega];rfl))
       cases zz<;>cases x6
       ·
        have HV:=lH (HV.out.trans (j1 HP.out));go_wp2_with fail
        refine(E1.out _ (Kept.refl _)).mono ?_;rintro e w1 ⟨rfl,k⟩;have K1:=lH (Kept.trans (Kept.refl _) k);clear k c0 c1 c2 c3 c4 c5 c6 c7 c8 c9 c10;obtain⟨c0,c1,c2,c3,c4,c5,c6,c7,c8,c9,c10⟩:=HC.out _ K1.out;by_cases z1:y1=0;rotate_left
        · have z9:(y1 != 0)=true:=by simpa using z1
          have HV:=lH (HV.out.trans (jM rfl z1));clear z1;go_wp2;go_ret;exact⟨jb HV.out.symm,HK0.out.trans K1.out⟩
        subst z1;have HV:=lH (HV.out.trans (j1 rfl));go_wp2_with fail
        refine(E2.out _ K1.out).mono ?_;rintro e w2 ⟨rfl,k⟩;have K2:=lH (Kept.trans K1.out k);clear k c0 c1 c2 c3 c4 c5 c6 c7 c8 c9 c10;obtain⟨c0,c1,c2,c3,c4,c5,c6,c7,c8,c9,c10⟩:=HC.out _ K2.out;by_cases z2:y2=0;rotate_left
        · have z9:(y2 != 0)=true:=by simpa using z2
          have HV:=lH (HV.out.trans (jM rfl z2));clear z2;go_wp2;go_ret;exact⟨jb HV.out.symm,HK0.out.trans K2.out⟩
        subst z2;have HV:=lH (HV.out.trans (j1 rfl));go_wp2_with fail
        refine(E3.out _ K2.out).mono ?_;rintro e w3 ⟨rfl,k⟩;have K3:=lH (Kept.trans K2.out k);clear k c0 c1 c2 c3 c4 c5 c6 c7 c8 c9 c10;obtain⟨c0,c1,c2,c3,c4,c5,c6,c7,c8,c9,c10⟩:=HC.out _ K3.out;by_cases z3:y3=0;rotate_left
        · have z9:(y3 != 0)=true:=by simpa using z3
          have HV:=lH (HV.out.trans (jM rfl z3));clear z3;go_wp2;go_ret;exact⟨jb HV.out.symm,HK0.out.trans K3.out⟩
        subst z3;have HV:=lH (HV.out.trans (j1 rfl));go_wp2_with fail
        refine(E4.out _ K3.out).mono ?_;rintro e w4 ⟨rfl,k⟩;have K4:=lH (Kept.trans K3.out k);clear k c0 c1 c2 c3 c4 c5 c6 c7 c8 c9 c10;obtain⟨c0,c1,c2,c3,c4,c5,c6,c7,c8,c9,c10⟩:=HC.out _ K4.out;by_cases z4:y4=0;rotate_left
        · have z9:(y4 != 0)=true:=by simpa using z4
          have HV:=lH (HV.out.trans (jM rfl z4));clear z4;go_wp2;go_ret;exact⟨jb HV.out.symm,HK0.out.trans K4.out⟩
        subst z4;have HV:=lH (HV.out.trans (j1 rfl))
        cases q3 with
        | true =>
         by_cases m1:x4=0
         · subst m1;have HV:=lH (HV.out.trans (j1 HS.out));have HV:=lH (HV.out.trans (Xj.trans HD.out))
           cases q5 with
           | true =>
            go_wp2;go_ret;exact⟨jb HV.out.symm,HK0.out.trans K4.out⟩
           | false =>
            go_wp2_with fail
            refine(N5.out _).mono ?_;rintro e w9 ⟨rfl,rfl⟩
            cases r5 with
            | false =>
             go_wp2;go_ret;exact⟨jb HV.out.symm,HK0.out.trans K4.out⟩
            | true =>
             go_wp2;go_ret;exact⟨jb HV.out.symm,HK0.out.trans K4.out⟩
         · have HV:=lH (HV.out.trans (jM (v:=1) (HS.out.trans (by simp[m1])) (by decide)));have m1:(x4 != 0)=true:=by simpa using m1
           go_wp2;go_ret;exact⟨jb HV.out.symm,HK0.out.trans K4.out⟩
        | false =>
         go_wp2_with fail
         refine(N3.out _).mono ?_;rintro e w9 ⟨rfl,rfl⟩
         cases r3 with
         | false =>
          have HV:=lH (HV.out.trans (jM (v:=3) HS.out (by decide)));go_wp2;go_ret;exact⟨jb HV.out.symm,HK0.out.trans K4.out⟩
         | true =>
          by_cases m1:x4<1
          · have HV:=lH (HV.out.trans (jM (v:=1) (HS.out.trans (by simp[m1])) (by decide)));go_wp2;go_ret;exact⟨jb HV.out.symm,HK0.out.trans K4.out⟩
          · have m1:1≤x4:=by omega
            by_cases m2:128<x4
            · have HV:=lH (HV.out.trans (jM (v:=1) (HS.out.trans (by simp[m2])) (by decide)));go_wp2;go_ret;exact⟨jb HV.out.symm,HK0.out.trans K4.out⟩
            · have m2:x4≤128:=by omega
              have HV:=lH (HV.out.trans (j1 (HS.out.trans (by rw[show decide (x4<1)=false by simp;omega,show decide (128<x4)=false by simp;omega];rfl))));have HV:=lH (HV.out.trans (Xj.trans HD.out))
              cases q5 with
              | true =>
               go_wp2;go_ret;exact⟨jb HV.out.symm,HK0.out.trans K4.out⟩
              | false =>
               go_wp2_with fail
               refine(N5.out _).mono ?_;rintro e w9 ⟨rfl,rfl⟩
               cases r5 with
               | false =>
                go_wp2;go_ret;exact⟨jb HV.out.symm,HK0.out.trans K4.out⟩
               | true =>
                go_wp2;go_ret;exact⟨jb HV.out.symm,HK0.out.trans K4.out⟩
       ·
        have HV:=lH (HV.out.trans (jM (v:=1) HP.out (by decide)));go_wp2;go_ret;exact⟨jb HV.out.symm,HK0.out.trans (Kept.refl _)⟩
       ·
        have HV:=lH (HV.out.trans (jM (v:=1) HP.out (by decide)));go_wp2;go_ret;exact⟨jb HV.out.symm,HK0.out.trans (Kept.refl _)⟩
       ·
        have HV:=lH (HV.out.trans (j1 HP.out));go_wp2_with fail
        refine(E1.out _ (Kept.refl _)).mono ?_;rintro e w1 ⟨rfl,k⟩;have K1:=lH (Kept.trans (Kept.refl _) k);clear k c0 c1 c2 c3 c4 c5 c6 c7 c8 c9 c10;obtain⟨c0,c1,c2,c3,c4,c5,c6,c7,c8,c9,c10⟩:=HC.out _ K1.out;by_cases z1:y1=0;rotate_left
        · have z9:(y1 != 0)=true:=by simpa using z1
          have HV:=lH (HV.out.trans (jM rfl z1));clear z1;go_wp2;go_ret;exact⟨jb HV.out.symm,HK0.out.trans K1.out⟩
        subst z1;have HV:=lH (HV.out.trans (j1 rfl));go_wp2_with fail
        refine(E2.out _ K1.out).mono ?_;rintro e w2 ⟨rfl,k⟩;have K2:=lH (Kept.trans K1.out k);clear k c0 c1 c2 c3 c4 c5 c6 c7 c8 c9 c10;obtain⟨c0,c1,c2,c3,c4,c5,c6,c7,c8,c9,c10⟩:=HC.out _ K2.out;by_cases z2:y2=0;rotate_left
        · have z9:(y2 != 0)=true:=by simpa using z2
          have HV:=lH (HV.out.trans (jM rfl z2));clear z2;go_wp2;go_ret;exact⟨jb HV.out.symm,HK0.out.trans K2.out⟩
        subst z2;have HV:=lH (HV.out.trans (j1 rfl));go_wp2_with fail
        refine(E3.out _ K2.out).mono ?_;rintro e w3 ⟨rfl,k⟩;have K3:=lH (Kept.trans K2.out k);clear k c0 c1 c2 c3 c4 c5 c6 c7 c8 c9 c10;obtain⟨c0,c1,c2,c3,c4,c5,c6,c7,c8,c9,c10⟩:=HC.out _ K3.out;by_cases z3:y3=0;rotate_left
        · have z9:(y3 != 0)=true:=by simpa using z3
          have HV:=lH (HV.out.trans (jM rfl z3));clear z3;go_wp2;go_ret;exact⟨jb HV.out.symm,HK0.out.trans K3.out⟩
        subst z3;have HV:=lH (HV.out.trans (j1 rfl));go_wp2_with fail
        refine(E4.out _ K3.out).mono ?_;rintro e w4 ⟨rfl,k⟩;have K4:=lH (Kept.trans K3.out k);clear k c0 c1 c2 c3 c4 c5 c6 c7 c8 c9 c10;obtain⟨c0,c1,c2,c3,c4,c5,c6,c7,c8,c9,c10⟩:=HC.out _ K4.out;by_cases z4:y4=0;rotate_left
        · have z9:(y4 != 0)=true:=by simpa using z4
          have HV:=lH (HV.out.trans (jM rfl z4));clear z4;go_wp2;go_ret;exact⟨jb HV.out.symm,HK0.out.trans K4.out⟩
        subst z4;have HV:=lH (HV.out.trans (j1 rfl))
        cases q3 with
        | true =>
         by_cases m1:x4=0
         · subst m1;have HV:=lH (HV.out.trans (j1 HS.out));have HV:=lH (HV.out.trans (Xj.trans HD.out))
           cases q5 with
           | true =>
            go_wp2;go_ret;exact⟨jb HV.out.symm,HK0.out.trans K4.out⟩
           | false =>
            go_wp2_with fail
            refine(N5.out _).mono ?_;rintro e w9 ⟨rfl,rfl⟩
            cases r5 with
            | false =>
             go_wp2;go_ret;exact⟨jb HV.out.symm,HK0.out.trans K4.out⟩
            | true =>
             go_wp2;go_ret;exact⟨jb HV.out.symm,HK0.out.trans K4.out⟩
         · have HV:=lH (HV.out.trans (jM (v:=1) (HS.out.trans (by simp[m1])) (by decide)));have m1:(x4 != 0)=true:=by simpa using m1
           go_wp2;go_ret;exact⟨jb HV.out.symm,HK0.out.trans K4.out⟩
        | false =>
         go_wp2_with fail
         refine(N3.out _).mono ?_;rintro e w9 ⟨rfl,rfl⟩
         cases r3 with
         | false =>
          have HV:=lH (HV.out.trans (jM (v:=3) HS.out (by decide)));go_wp2;go_ret;exact⟨jb HV.out.symm,HK0.out.trans K4.out⟩
         | true =>
          by_cases m1:x4<1
          · have HV:=lH (HV.out.trans (jM (v:=1) (HS.out.trans (by simp[m1])) (by decide)));go_wp2;go_ret;exact⟨jb HV.out.symm,HK0.out.trans K4.out⟩
          · have m1:1≤x4:=by omega
            by_cases m2:128<x4
            · have HV:=lH (HV.out.trans (jM (v:=1) (HS.out.trans (by simp[m2])) (by decide)));go_wp2;go_ret;exact⟨jb HV.out.symm,HK0.out.trans K4.out⟩
            · have m2:x4≤128:=by omega
              have HV:=lH (HV.out.trans (j1 (HS.out.trans (by rw[show decide (x4<1)=false by simp;omega,show decide (128<x4)=false by simp;omega];rfl))));have HV:=lH (HV.out.trans (Xj.trans HD.out))
              cases q5 with
              | true =>
               go_wp2;go_ret;exact⟨jb HV.out.symm,HK0.out.trans K4.out⟩
              | false =>
               go_wp2_with fail
               refine(N5.out _).mono ?_;rintro e w9 ⟨rfl,rfl⟩
               cases r5 with
               | false =>
                go_wp2;go_ret;exact⟨jb HV.out.symm,HK0.out.trans K4.out⟩
               | true =>
                go_wp2;go_ret;exact⟨jb HV.out.symm,HK0.out.trans K4.out⟩
  | false =>
   go_wp2_with fail
   refine(N1.out _).mono ?_;rintro e w9 ⟨rfl,rfl⟩
   cases r1 with
   | false =>
    have HV:=lH (HV.out.trans (jM (v:=3) (HN.out.trans (by simp)) (by decide)));go_wp2;go_ret;exact⟨jb HV.out.symm,HK0.out.trans (Kept.refl _)⟩
   | true =>
    have HV:=lH (HV.out.trans (j1 (HN.out.trans (by simp))));by_cases p1:x2 < -1
    · have HV:=lH (HV.out.trans (jM (v:=1) (HP.out.trans (by simp[p1])) (by decide)));clear hzz;go_wp2;go_ret;exact⟨jb HV.out.symm,HK0.out.trans (Kept.refl _)⟩
    · have p1:-1≤x2:=by omega
      by_cases p2:1000000<x2
      · have HV:=lH (HV.out.trans (jM (v:=1) (HP.out.trans (by simp[p2])) (by decide)));clear hzz;go_wp2;go_ret;exact⟨jb HV.out.symm,HK0.out.trans (Kept.refl _)⟩
      · have p2:x2≤1000000:=by omega
        have HP:=lH (HP.out.trans (show (if (decide (x2 < -1)||(decide (1000000<x2)||(zz != x6)))=true then 1 else 0)=(if (zz != x6)=true then 1 else 0) by rw[show decide (x2 < -1)=false by simp;omega,show decide (1000000<x2)=false by simp;omega];rfl))
        cases zz<;>cases x6
        ·
         have HV:=lH (HV.out.trans (j1 HP.out));go_wp2_with fail
         refine(E1.out _ (Kept.refl _)).mono ?_;rintro e w1 ⟨rfl,k⟩;have K1:=lH (Kept.trans (Kept.refl _) k);clear k c0 c1 c2 c3 c4 c5 c6 c7 c8 c9 c10;obtain⟨c0,c1,c2,c3,c4,c5,c6,c7,c8,c9,c10⟩:=HC.out _ K1.out;by_cases z1:y1=0;rotate_left
         · have z9:(y1 != 0)=true:=by simpa using z1
           have HV:=lH (HV.out.trans (jM rfl z1));clear z1;go_wp2;go_ret;exact⟨jb HV.out.symm,HK0.out.trans K1.out⟩
         subst z1;have HV:=lH (HV.out.trans (j1 rfl));go_wp2_with fail
         refine(E2.out _ K1.out).mono ?_;rintro e w2 ⟨rfl,k⟩;have K2:=lH (Kept.trans K1.out k);clear k c0 c1 c2 c3 c4 c5 c6 c7 c8 c9 c10;obtain⟨c0,c1,c2,c3,c4,c5,c6,c7,c8,c9,c10⟩:=HC.out _ K2.out;by_cases z2:y2=0;rotate_left
         · have z9:(y2 != 0)=true:=by simpa using z2
           have HV:=lH (HV.out.trans (jM rfl z2));clear z2;go_wp2;go_ret;exact⟨jb HV.out.symm,HK0.out.trans K2.out⟩
         subst z2;have HV:=lH (HV.out.trans (j1 rfl));go_wp2_with fail
         refine(E3.out _ K2.out).mono ?_;rintro e w3 ⟨rfl,k⟩;have K3:=lH (Kept.trans K2.out k);clear k c0 c1 c2 c3 c4 c5 c6 c7 c8 c9 c10;obtain⟨c0,c1,c2,c3,c4,c5,c6,c7,c8,c9,c10⟩:=HC.out _ K3.out;by_cases z3:y3=0;rotate_left
         · have z9:(y3 != 0)=true:=by simpa using z3
           have HV:=lH (HV.out.trans (jM rfl z3));clear z3;go_wp2;go_ret;exact⟨jb HV.out.symm,HK0.out.trans K3.out⟩
         subst z3;have HV:=lH (HV.out.trans (j1 rfl));go_wp2_with fail
         refine(E4.out _ K3.out).mono ?_;rintro e w4 ⟨rfl,k⟩;have K4:=lH (Kept.trans K3.out k);clear k c0 c1 c2 c3 c4 c5 c6 c7 c8 c9 c10;obtain⟨c0,c1,c2,c3,c4,c5,c6,c7,c8,c9,c10⟩:=HC.out _ K4.out;by_cases z4:y4=0;rotate_left
         · have z9:(y4 != 0)=true:=by simpa using z4
           have HV:=lH (HV.out.trans (jM rfl z4));clear z4;go_wp2;go_ret;exact⟨jb HV.out.symm,HK0.out.trans K4.out⟩
         subst z4;have HV:=lH (HV.out.trans (j1 rfl))
         cases q3 with
         | true =>
          by_cases m1:x4=0
          · subst m1;have HV:=lH (HV.out.trans (j1 HS.out));have HV:=lH (HV.out.trans (Xj.trans HD.out))
            cases q5 with
            | true =>
             go_wp2;go_ret;exact⟨jb HV.out.symm,HK0.out.trans K4.out⟩
            | false =>
             go_wp2_with fail
             refine(N5.out _).mono ?_;rintro e w9 ⟨rfl,rfl⟩
             cases r5 with
             | false =>
              go_wp2;go_ret;exact⟨jb HV.out.symm,HK0.out.trans K4.out⟩
             | true =>
              go_wp2;go_ret;exact⟨jb HV.out.symm,HK0.out.trans K4.out⟩
          · have HV:=lH (HV.out.trans (jM (v:=1) (HS.out.trans (by simp[m1])) (by decide)));have m1:(x4 != 0)=true:=by simpa using m1
            go_wp2;go_ret;exact⟨jb HV.out.symm,HK0.out.trans K4.out⟩
         | false =>
          go_wp2_with fail
          refine(N3.out _).mono ?_;rintro e w9 ⟨rfl,rfl⟩
          cases r3 with
          | false =>
           have HV:=lH (HV.out.trans (jM (v:=3) HS.out (by decide)));go_wp2;go_ret;exact⟨jb HV.out.symm,HK0.out.trans K4.out⟩
          | true =>
           by_cases m1:x4<1
           · have HV:=lH (HV.out.trans (jM (v:=1) (HS.out.trans (by simp[m1])) (by decide)));go_wp2;go_ret;exact⟨jb HV.out.symm,HK0.out.trans K4.out⟩
           · have m1:1≤x4:=by omega
             by_cases m2:128<x4
             · have HV:=lH (HV.out.trans (jM (v:=1) (HS.out.trans (by simp[m2])) (by decide)));go_wp2;go_ret;exact⟨jb HV.out.symm,HK0.out.trans K4.out⟩
             · have m2:x4≤128:=by omega
               have HV:=lH (HV.out.trans (j1 (HS.out.trans (by rw[show decide (x4<1)=false by simp;omega,show decide (128<x4)=false by simp;omega];rfl))));have HV:=lH (HV.out.trans (Xj.trans HD.out))
               cases q5 with
               | true =>
                go_wp2;go_ret;exact⟨jb HV.out.symm,HK0.out.trans K4.out⟩
               | false =>
                go_wp2_with fail
                refine(N5.out _).mono ?_;rintro e w9 ⟨rfl,rfl⟩
                cases r5 with
                | false =>
                 go_wp2;go_ret;exact⟨jb HV.out.symm,HK0.out.trans K4.out⟩
                | true =>
                 go_wp2;go_ret;exact⟨jb HV.out.symm,HK0.out.trans K4.out⟩
        ·
         have HV:=lH (HV.out.trans (jM (v:=1) HP.out (by decide)));go_wp2;go_ret;exact⟨jb HV.out.symm,HK0.out.trans (Kept.refl _)⟩
        ·
         have HV:=lH (HV.out.trans (jM (v:=1) HP.out (by decide)));go_wp2;go_ret;exact⟨jb HV.out.symm,HK0.out.trans (Kept.refl _)⟩
        ·
         have HV:=lH (HV.out.trans (j1 HP.out));go_wp2_with fail
         refine(E1.out _ (Kept.refl _)).mono ?_;rintro e w1 ⟨rfl,k⟩;have K1:=lH (Kept.trans (Kept.refl _) k);clear k c0 c1 c2 c3 c4 c5 c6 c7 c8 c9 c10;obtain⟨c0,c1,c2,c3,c4,c5,c6,c7,c8,c9,c10⟩:=HC.out _ K1.out;by_cases z1:y1=0;rotate_left
         · have z9:(y1 != 0)=true:=by simpa using z1
           have HV:=lH (HV.out.trans (jM rfl z1));clear z1;go_wp2;go_ret;exact⟨jb HV.out.symm,HK0.out.trans K1.out⟩
         subst z1;have HV:=lH (HV.out.trans (j1 rfl));go_wp2_with fail
         refine(E2.out _ K1.out).mono ?_;rintro e w2 ⟨rfl,k⟩;have K2:=lH (Kept.trans K1.out k);clear k c0 c1 c2 c3 c4 c5 c6 c7 c8 c9 c10;obtain⟨c0,c1,c2,c3,c4,c5,c6,c7,c8,c9,c10⟩:=HC.out _ K2.out;by_cases z2:y2=0;rotate_left
         · have z9:(y2 != 0)=true:=by simpa using z2
           have HV:=lH (HV.out.trans (jM rfl z2));clear z2;go_wp2;go_ret;exact⟨jb HV.out.symm,HK0.out.trans K2.out⟩
         subst z2;have HV:=lH (HV.out.trans (j1 rfl));go_wp2_with fail
         refine(E3.out _ K2.out).mono ?_;rintro e w3 ⟨rfl,k⟩;have K3:=lH (Kept.trans K2.out k);clear k c0 c1 c2 c3 c4 c5 c6 c7 c8 c9 c10;obtain⟨c0,c1,c2,c3,c4,c5,c6,c7,c8,c9,c10⟩:=HC.out _ K3.out;by_cases z3:y3=0;rotate_left
         · have z9:(y3 != 0)=true:=by simpa using z3
           have HV:=lH (HV.out.trans (jM rfl z3));clear z3;go_wp2;go_ret;exact⟨jb HV.out.symm,HK0.out.trans K3.out⟩
         subst z3;have HV:=lH (HV.out.trans (j1 rfl));go_wp2_with fail
         refine(E4.out _ K3.out).mono ?_;rintro e w4 ⟨rfl,k⟩;have K4:=lH (Kept.trans K3.out k);clear k c0 c1 c2 c3 c4 c5 c6 c7 c8 c9 c10;obtain⟨c0,c1,c2,c3,c4,c5,c6,c7,c8,c9,c10⟩:=HC.out _ K4.out;by_cases z4:y4=0;rotate_left
         · have z9:(y4 != 0)=true:=by simpa using z4
           have HV:=lH (HV.out.trans (jM rfl z4));clear z4;go_wp2;go_ret;exact⟨jb HV.out.symm,HK0.out.trans K4.out⟩
         subst z4;have HV:=lH (HV.out.trans (j1 rfl))
         cases q3 with
         | true =>
          by_cases m1:x4=0
          · subst m1;have HV:=lH (HV.out.trans (j1 HS.out));have HV:=lH (HV.out.trans (Xj.trans HD.out))
            cases q5 with
            | true =>
             go_wp2;go_ret;exact⟨jb HV.out.symm,HK0.out.trans K4.out⟩
            | false =>
             go_wp2_with fail
             refine(N5.out _).mono ?_;rintro e w9 ⟨rfl,rfl⟩
             cases r5 with
             | false =>
              go_wp2;go_ret;exact⟨jb HV.out.symm,HK0.out.trans K4.out⟩
             | true =>
              go_wp2;go_ret;exact⟨jb HV.out.symm,HK0.out.trans K4.out⟩
          · have HV:=lH (HV.out.trans (jM (v:=1) (HS.out.trans (by simp[m1])) (by decide)));have m1:(x4 != 0)=true:=by simpa using m1
            go_wp2;go_ret;exact⟨jb HV.out.symm,HK0.out.trans K4.out⟩
         | false =>
          go_wp2_with fail
          refine(N3.out _).mono ?_;rintro e w9 ⟨rfl,rfl⟩
          cases r3 with
          | false =>
           have HV:=lH (HV.out.trans (jM (v:=3) HS.out (by decide)));go_wp2;go_ret;exact⟨jb HV.out.symm,HK0.out.trans K4.out⟩
          | true =>
           by_cases m1:x4<1
           · have HV:=lH (HV.out.trans (jM (v:=1) (HS.out.trans (by simp[m1])) (by decide)));go_wp2;go_ret;exact⟨jb HV.out.symm,HK0.out.trans K4.out⟩
           · have m1:1≤x4:=by omega
             by_cases m2:128<x4
             · have HV:=lH (HV.out.trans (jM (v:=1) (HS.out.trans (by simp[m2])) (by decide)));go_wp2;go_ret;exact⟨jb HV.out.symm,HK0.out.trans K4.out⟩
             · have m2:x4≤128:=by omega
               have HV:=lH (HV.out.trans (j1 (HS.out.trans (by rw[show decide (x4<1)=false by simp;omega,show decide (128<x4)=false by simp;omega];rfl))));have HV:=lH (HV.out.trans (Xj.trans HD.out))
               cases q5 with
               | true =>
                go_wp2;go_ret;exact⟨jb HV.out.symm,HK0.out.trans K4.out⟩
               | false =>
                go_wp2_with fail
                refine(N5.out _).mono ?_;rintro e w9 ⟨rfl,rfl⟩
                cases r5 with
                | false =>
                 go_wp2;go_ret;exact⟨jb HV.out.symm,HK0.out.trans K4.out⟩
                | true =>
                 go_wp2;go_ret;exact⟨jb HV.out.symm,HK0.out.trans K4.out⟩
def Yn (t:List UInt8):List ByteArray:=if (splitB 10 t).getLast?=some ⟨#[]⟩ then (splitB 10 t).dropLast else splitB 10 t
theorem jny {α:Type} {L:Lay α} {w:World} {b off len:Nat} {l:List α} {k:Nat} (h:jr L w (some ⟨b,off,none⟩) len l) (hk:k≤l.length):jr L w (some ⟨b,off,none⟩) k (l.take k):=by
 obtain⟨h1,h2,h3,h4⟩:=h;refine⟨by rw[List.length_take];omega,by omega,fun x hx=>h3 x (List.mem_of_mem_take hx),?_⟩;by_cases h0:k=0
 · exact .inl h0
 · rcases h4 with h4 | ⟨b',off',e,hlt,hc⟩
   · omega
   · cases e
     refine .inr ⟨b,off,rfl,hlt,fun i x j u hx hu=>hc i x j u ?_ hu⟩;rw[List.getElem?_take] at hx;split at hx
     · exact hx
     · cases hx
theorem jgl (t:List UInt8) (w:World) (hs:t.length≤1000000) :
 Calls Tryz.prog 6 #[.string (bytes t)] w (fun e w'=>∃a cap,e=.returned (.slice a (Yn t).length cap)∧jr zy w' a (Yn t).length (Yn t)∧Kept w w'):=by
 have HS:=lH (fun W=>joq 10 t W hs (v:=.int .u8 10) rfl);have hne:splitB 10 t≠[]:=by unfold splitB;simpa using JY 10 t
 have hlen:=qd 10 t;obtain⟨m,hm⟩:∃m,(splitB 10 t).length=m+1:=⟨(splitB 10 t).length-1,by have:=List.length_pos_iff.2 hne;omega⟩
 have HM:=lH hm;have hmb:m≤1000000:=by omega
 clear hs hne hm hlen;go_enter Tryz.func6,Tryz.ntmps6;go_wp2_with fail
 refine(HS.out _).mono ?_;rintro e w1 ⟨v,rfl,ho,k1⟩;have K1:=lH k1;obtain⟨a,cap,rfl,hc1,hc2,hrow⟩:=ho.at_;rw[HM.out] at hrow hc1;obtain⟨g,off,rfl,-⟩:=hrow.2.2.2.resolve_left (by omega);obtain⟨x,hx,-,hg,hxs,hc⟩:=hrow.str (k:=m) (by omega);have HROW:=lH hrow;have hlast:(splitB 10 t).getLast?=some x:=by rw[List.getLast?_eq_getElem?,HM.out];exact hx
 have hi1:((m+1:Nat):Int)-1=(m:Int):=by omega
 have hi2:IntKind.i64.wrap (m:Int)=(m:Int):=IntWalk.i64_in _ (by omega);have hi3:(m:Int)<((m+1:Nat):Int):=by omega
 have hi4:(m:Int)≤(cap:Int):=by omega
 rw[HM.out];clear ho k1 hrow;by_cases hb:x=⟨#[]⟩
 · have HL:=lH (show Yn t=(splitB 10 t).take m by unfold Yn;rw[hlast,hb,if_pos rfl,List.dropLast_eq_take,HM.out];rfl);have HN:=lH (show (Yn t).length=m by rw[HL.out,List.length_take,HM.out];omega);have HR:=lH (show jr zy w1 (some ⟨g,off,none⟩) m ((splitB 10 t).take m) from jny HROW.out (by rw[HM.out];omega));subst hb;clear hlast hx;go_wp2;go_ret;exact⟨_,_,by rw[HN.out];rfl,by rw[HN.out,HL.out];exact HR.out,K1.out⟩
 · have HL:=lH (show Yn t=splitB 10 t by unfold Yn;rw[hlast,if_neg (by intro e;exact hb (Option.some.inj e))]);have hbb:x.toList.isEmpty=false:=by
    rw[Lib.toList_data]
    cases h:x.data.toList with
    | nil=>exact absurd (by have h2:x.data=#[]:=Array.toList_inj.1 (by rw[h]);cases x;simp_all) hb
    | cons _ _=>rfl
   have HN:=lH (show (Yn t).length=m+1 by rw[HL.out,HM.out]);clear hlast hx hb;go_wp2;go_ret;exact⟨_,_,by rw[HN.out];rfl,by rw[HN.out,HL.out];exact HROW.out,K1.out⟩
def ZU (t:List UInt8):Prop:=∀c ∈ t,c≠10
def unL:List (List UInt8)→List UInt8
 | []=>[]
 | l::r=>l++10::unL r
theorem jb4:∀(a b:List (List UInt8)),unL (a++b)=unL a++unL b
 | [],_=>rfl
 | l::a,b=>by simp[unL,jb4 a b]
theorem ja3:∀{l:List UInt8} (r:List UInt8),ZU l→jO (l++10::r)=(l++[10])::jO r
 | [],r,_=>by show jO (10::r)=_;rw[Zm,if_pos rfl];rfl
 | c::l,r,h=>by
  have hc:c≠10:=h c (by simp);show jO (c::(l++10::r))=_;rw[Zm,if_neg hc,ja3 r (fun d hd=>h d (by simp[hd]))];rfl
theorem jbx:∀{ls:List (List UInt8)},(∀l ∈ ls,ZU l)→jO (unL ls)=ls.map (·++[10])
 | [],_=>rfl
 | l::r,h=>by
  show jO (l++10::unL r)=_;rw[ja3 _ (h l (by simp)),jbx fun x hx=>h x (by simp[hx])];rfl
theorem jcm {ls:List (List UInt8)} {l:List UInt8} (h:∀l ∈ ls,ZU l) (hl:ZU l) (h0:l≠[]):jO (unL ls++l)=ls.map (·++[10])++[l]:=by
 induction ls with
 | nil =>
  show jO l=[l];clear h
  induction l with
  | nil=>exact absurd rfl h0
  | cons c t ih =>
   rw[Zm,if_neg (hl c (by simp))]
   cases t with
   | nil=>rfl
   | cons d u=>rw[ih (fun x hx=>hl x (by simp[hx])) (by simp)]
 | cons x r ih =>
  show jO (x++10::unL r++l)=_;rw[List.append_assoc];show jO (x++10::(unL r++l))=_;rw[ja3 _ (h x (by simp)),ih fun y hy=>h y (by simp[hy])];rfl
theorem jgy (l:List UInt8):jaU (l++[10])=l:=by
 unfold jaU Lib.trimSuffix;have:Lib.hasSuffix (l++[10]) [10]=true:=by simp[Lib.hasSuffix]
 rw[this];simp
theorem jjD {l:List UInt8} (h:ZU l):jaU l=l:=by
 unfold jaU Lib.trimSuffix;by_cases hs:Lib.hasSuffix l [10]=true
 · exfalso;have hm:(10:UInt8) ∈ l:=by
    have h2:[10] <:+ l:=by simpa [Lib.hasSuffix] using hs
    exact h2.subset (by simp)
   exact h 10 hm rfl
 · rw[if_neg hs]
theorem jcJ:∀{l:List UInt8} (r:List UInt8),ZU l→je 10 (l++10::r)=l::je 10 r
 | [],r,_=>by show je 10 (10::r)=_;rw[je,if_pos rfl]
 | c::l,r,h=>by
  have hc:c≠10:=h c (by simp);show je 10 (c::(l++10::r))=_;rw[je,if_neg hc,jcJ r (fun d hd=>h d (by simp[hd]))]
theorem jds:∀{ls:List (List UInt8)},(∀l ∈ ls,ZU l)→je 10 (unL ls)=ls++[[]]
 | [],_=>rfl
 | l::r,h=>by
  show je 10 (l++10::unL r)=_;rw[jcJ _ (h l (by simp)),jds fun x hx=>h x (by simp[hx])];rfl
theorem jlu {ls:List (List UInt8)} (h:∀l ∈ ls,ZU l):Yn (unL ls)=ls.map bytes:=by
 have hs:splitB 10 (unL ls)=ls.map bytes++[⟨#[]⟩]:=by unfold splitB;rw[jds h,List.map_append];rfl
 unfold Yn;rw[hs,List.getLast?_append];simp
theorem ja1 (x:List UInt8):∀(ts:List ByteArray),jS x ts=unL (ts.map fun t=>x++32::t.data.toList)
 | []=>rfl
 | t::r=>by simp[jS,unL,ja1 x r]
def Zh (s:Clu):List (List UInt8):=(s.nodes.map fun n=>[110,111,100,101]++32::(za n).data.toList)++((s.pods.map fun n=>[112,111,100]++32::(jY n).data.toList)++(s.buds.map fun n=>[98,117,100,103,101,116]++32::(j5 n).data.toList))
theorem jgv (s:Clu):qU s=unL (Zh s):=by
 unfold qU Zh;rw[ja1,ja1,ja1,jb4,jb4];simp[List.map_map,Function.comp_def]
theorem jju (s:Clu):(Zh s).length=s.nodes.length+s.pods.length+s.buds.length:=by
 unfold Zh;simp only[List.length_append,List.length_map];omega
section
variable {α:Type} (nm:α→ByteArray)
def jnO (x:α) (l:List α):List α:=l.take (zo (nm x) (l.map nm))++x::l.drop (zo (nm x) (l.map nm))
theorem jbh (x:α) (l:List α):(jnO nm x l).Perm (x::l):=by
 unfold jnO;refine List.perm_middle.trans ?_;rw[List.take_append_drop]
theorem jdI:∀{l l':List α},Zs (l.map nm)→Zs (l'.map nm)→l.Perm l'→l=l'
 | [],l',_,_,hp=>(List.nil_perm.1 hp).symm▸rfl
 | x::t,[],_,_,hp=>absurd hp.length_eq (by simp)
 | x::t,y::u,h,h',hp=>by
  rw[List.map_cons] at h h';unfold Zs at h h';obtain⟨h1,h2⟩:=List.pairwise_cons.1 h;obtain⟨g1,g2⟩:=List.pairwise_cons.1 h';have hxy:x=y:=by
   rcases List.mem_cons.1 (hp.subset (List.mem_cons_self (a:=x) (l:=t))) with e | e
   · exact e
   · rcases List.mem_cons.1 (hp.symm.subset (List.mem_cons_self (a:=y) (l:=u))) with f | f
     · exact f.symm
     · have a:=g1 (nm x) (List.mem_map_of_mem e);have b:=h1 (nm y) (List.mem_map_of_mem f);have:=Vec.JZ a b;rw[Vec.qb] at this
       cases this
  subst hxy;rw[jdI h2 g2 ((List.perm_cons x).1 hp)]
end
def ZM (ms:List jD):List Nod:=ms.filterMap fun m=>match m with | .node n=>some n | _=>none
def Yv (ms:List jD):List Pd:=ms.filterMap fun m=>match m with | .pod n=>some n | _=>none
def Yu (ms:List jD):List Bd:=ms.filterMap fun m=>match m with | .bud n=>some n | _=>none
structure joK (s:Clu) (ms:List jD):Prop where
 n:((s.nodes++ZM ms).map fun n=>n.name).Nodup
 p:((s.pods++Yv ms).map fun n=>n.name).Nodup
 b:((s.buds++Yu ms).map fun n=>n.name).Nodup
 nl:(s.nodes++ZM ms).length≤32
 pl:(s.pods++Yv ms).length≤128
 bl:(s.buds++Yu ms).length≤8
theorem jf2 {x:ByteArray} {l r:List ByteArray} (h:(l++x::r).Nodup):hasB x l=false:=by
 unfold hasB;rw[List.any_eq_false];intro y hy e;have e:=zt.1 e;subst e;exact(List.nodup_append.1 h).2.2 y hy y (by simp) rfl
theorem jc0 {α:Type} {l:List α} {x:α} {r q:List α} (hq:q.Perm (x::l)):(q++r).Perm (l++x::r):=((List.Perm.append_right r hq).trans List.perm_middle.symm)
theorem X4:∀(ms:List jD) (s:Clu) (i:Nat),YY s→(∀m ∈ ms,m≠.bad)→joK s ms →
 ∃s',jF s i ms=(0,i+ms.length,s')∧YY s'∧s'.nodes.Perm (s.nodes++ZM ms)∧s'.pods.Perm (s.pods++Yv ms)∧s'.buds.Perm (s.buds++Yu ms)
 | [],s,i,ho,_,_=>⟨s,rfl,ho,by simp[ZM],by simp[Yv],by simp[Yu]⟩
 | .skip::t,s,i,ho,hb,hr=>by
  obtain⟨s',h1,h2,h3,h4,h5⟩:=X4 t s (i+1) ho (fun m hm=>hb m (by simp[hm])) ⟨hr.n,hr.p,hr.b,hr.nl,hr.pl,hr.bl⟩;exact⟨s',by rw[Yo rfl];show jF s (i+1) t=_;rw[h1];simp;omega,h2,h3,h4,h5⟩
 | .bad::t,s,i,ho,hb,hr=>absurd rfl (hb .bad (by simp))
 | .node n::t,s,i,ho,hb,hr=>by
  have e:ZM (.node n::t)=n::ZM t:=rfl;have hn:=hr.n;have hl:=hr.nl;rw[e] at hn hl;have c1:hasB n.name (s.nodes.map fun n=>n.name)=false:=jf2 (r:=(ZM t).map fun n=>n.name) (by simpa using hn);have c2:s.nodes.length≠32:=by simp at hl;omega
  have hs:jj s (.node n)=(0,qg s n):=by unfold jj;dsimp only;rw[if_neg (by rw[c1];decide),if_neg c2]
  have hp:(qg s n).nodes.Perm (n::s.nodes):=jbh (fun n:Nod=>n.name) n s.nodes;have hpp:((qg s n).nodes++ZM t).Perm (s.nodes++n::ZM t):=jc0 hp;obtain⟨s',h1,h2,h3,h4,h5⟩:=X4 t (qg s n) (i+1) (by have:=XI ho (m:=.node n) (by rw[hs]);rw[hs] at this;exact this) (fun m hm=>hb m (by simp[hm])) ⟨((hpp.map _).nodup_iff).2 hn,hr.p,hr.b,by rw[hpp.length_eq];exact hl,hr.pl,hr.bl⟩;exact⟨s',by rw[Yo (by rw[hs]),hs];show jF (qg s n) (i+1) t=_;rw[h1];simp;omega,h2,h3.trans hpp,h4,h5⟩
 | .pod n::t,s,i,ho,hb,hr=>by
  have e:Yv (.pod n::t)=n::Yv t:=rfl;have hn:=hr.p;have hl:=hr.pl;rw[e] at hn hl;have c1:hasB n.name (s.pods.map fun n=>n.name)=false:=jf2 (r:=(Yv t).map fun n=>n.name) (by simpa using hn);have c2:s.pods.length≠128:=by simp at hl;omega
  have hs:jj s (.pod n)=(0,qk s n):=by unfold jj;dsimp only;rw[if_neg (by rw[c1];decide),if_neg c2]
  have hp:(qk s n).pods.Perm (n::s.pods):=jbh (fun n:Pd=>n.name) n s.pods;have hpp:((qk s n).pods++Yv t).Perm (s.pods++n::Yv t):=jc0 hp;obtain⟨s',h1,h2,h3,h4,h5⟩:=X4 t (qk s n) (i+1) (by have:=XI ho (m:=.pod n) (by rw[hs]);rw[hs] at this;exact this) (fun m hm=>hb m (by simp[hm])) ⟨hr.n,((hpp.map _).nodup_iff).2 hn,hr.b,hr.nl,by rw[hpp.length_eq];exact hl,hr.bl⟩;exact⟨s',by rw[Yo (by rw[hs]),hs];show jF (qk s n) (i+1) t=_;rw[h1];simp;omega,h2,h3,h4.trans hpp,h5⟩
 | .bud n::t,s,i,ho,hb,hr=>by
  have e:Yu (.bud n::t)=n::Yu t:=rfl;have hn:=hr.b;have hl:=hr.bl;rw[e] at hn hl;have c1:hasB n.name (s.buds.map fun n=>n.name)=false:=jf2 (r:=(Yu t).map fun n=>n.name) (by simpa using hn);have c2:s.buds.length≠8:=by simp at hl;omega
  have hs:jj s (.bud n)=(0,qj s n):=by unfold jj;dsimp only;rw[if_neg (by rw[c1];decide),if_neg c2]
  have hp:(qj s n).buds.Perm (n::s.buds):=jbh (fun n:Bd=>n.name) n s.buds;have hpp:((qj s n).buds++Yu t).Perm (s.buds++n::Yu t):=jc0 hp;obtain⟨s',h1,h2,h3,h4,h5⟩:=X4 t (qj s n) (i+1) (by have:=XI ho (m:=.bud n) (by rw[hs]);rw[hs] at this;exact this) (fun m hm=>hb m (by simp[hm])) ⟨hr.n,hr.p,((hpp.map _).nodup_iff).2 hn,hr.nl,hr.pl,by rw[hpp.length_eq];exact hl⟩;exact⟨s',by rw[Yo (by rw[hs]),hs];show jF (qj s n) (i+1) t=_;rw[h1];simp;omega,h2,h3,h4,h5.trans hpp⟩
theorem qQ {s:Clu} {ms:List jD} (ho:YY s) (hb:∀m ∈ ms,m≠.bad) (h1:(ZM ms).Perm s.nodes) (h2:(Yv ms).Perm s.pods) (h3:(Yu ms).Perm s.buds):jF ⟨[],[],[]⟩ 0 ms=(0,ms.length,s):=by
 have nd:∀{l:List ByteArray},Zs l→l.Nodup:=fun h=>h.imp fun {a b} hab e=>by
  rw[e,Vec.qb] at hab;cases hab
 obtain⟨s',g1,g2,g3,g4,g5⟩:=X4 ms ⟨[],[],[]⟩ 0 jgt hb ⟨((h1.map _).nodup_iff).2 (nd ho.n),((h2.map _).nodup_iff).2 (nd ho.p),((h3.map _).nodup_iff).2 (nd ho.b),by rw[List.nil_append,h1.length_eq];exact ho.nl,by rw[List.nil_append,h2.length_eq];exact ho.pl,by rw[List.nil_append,h3.length_eq];exact ho.bl⟩;obtain⟨a,b,c⟩:=s;obtain⟨a',b',c'⟩:=s';have e1:=jdI (fun n:Nod=>n.name) g2.n ho.n ((by simpa using g3:a'.Perm (ZM ms)).trans h1);have e2:=jdI (fun n:Pd=>n.name) g2.p ho.p ((by simpa using g4:b'.Perm (Yv ms)).trans h2);have e3:=jdI (fun n:Bd=>n.name) g2.b ho.b ((by simpa using g5:c'.Perm (Yu ms)).trans h3);dsimp only at e1 e2 e3;rw[g1,e1,e2,e3,Nat.zero_add]
theorem jfy:∀(a b:List jD) (s:Clu) (i:Nat),(jF s i a).1=0→jF s i (a++b)=jF (jF s i a).2.2 (jF s i a).2.1 b
 | [],_,_,_,_=>rfl
 | m::t,b,s,i,h=>by
  by_cases h0:(jj s m).1=0
  · rw[Yo h0] at h ⊢;show jF s i (m::(t++b))=_;rw[Yo h0];exact jfy t b _ _ h
  · rw[XC h0] at h;exact absurd h h0
theorem jdN {s:Clu} {ms:List jD} {m:jD} (h:jF ⟨[],[],[]⟩ 0 ms=(0,ms.length,s)) (hm:(∃n ∈ s.nodes,m=.node n)∨(∃n ∈ s.pods,m=.pod n)∨(∃n ∈ s.buds,m=.bud n)):(jF ⟨[],[],[]⟩ 0 (ms++[m])).1=6∧(jF ⟨[],[],[]⟩ 0 (ms++[m])).2.1=ms.length:=by
 have has:∀{x:ByteArray} {l:List ByteArray},x ∈ l→hasB x l=true:=fun {x l} hx=>by
  unfold hasB;rw[List.any_eq_true];exact⟨x,hx,qC x⟩
 have hs:jj s m=(6,s):=by
  rcases hm with ⟨n,hn,rfl⟩ | ⟨n,hn,rfl⟩ | ⟨n,hn,rfl⟩
  · unfold jj;dsimp only;rw[if_pos (has (List.mem_map_of_mem hn))]
  · unfold jj;dsimp only;rw[if_pos (has (List.mem_map_of_mem hn))]
  · unfold jj;dsimp only;rw[if_pos (has (List.mem_map_of_mem hn))]
 rw[jfy ms _ _ 0 (by rw[h]),h,XC (by rw[hs];show (6:Int)≠0;decide),hs];exact⟨rfl,rfl⟩
end Go.Proofs.YthmddloeggdohaaGreatDoor
namespace Go.Proofs.YthmddloeggdohaaGreatDoor
open Go.RowKit
theorem jjy {s:List UInt8} (h:(zj s).1=0):∃a b c d e n1 n2 n3,Zg s=some [a,b,c,d,e]∧Vec.Z0 b=(0,n1)∧Jc c=(0,n2)∧Jj d=(0,n3)∧jU ⟨bytes a,n1,n2,n3,e==ZZ⟩=0∧zj s=(0,⟨bytes a,n1,n2,n3,e==ZZ⟩)∧∀p ∈ [a,b,c,d,e],p.length≤s.length:=by
 cases hw:Zg s with
 | none=>have:zj s=(2,Nod.zero):=by unfold zj;rw[hw]
         rw[this] at h;cases h
 | some ps =>
  obtain⟨a,b,c,d,e,rfl,hlen⟩:=jjC hw;have e0:zj s=jb5 a b c d e:=by unfold zj;rw[hw]
  rw[e0] at h ⊢;unfold jb5 at h ⊢;by_cases z1:(Vec.Z0 b).1=0
  · rw[if_neg (fun g=>g z1)] at h ⊢;by_cases z2:(Jc c).1=0
    · rw[if_neg (fun g=>g z2)] at h ⊢;by_cases z3:(Jj d).1=0
      · rw[if_neg (fun g=>g z3)] at h ⊢;by_cases z4:jU (qv a b c d e)=0
        · rw[if_neg (fun g=>g z4)];exact⟨a,b,c,d,e,_,_,_,rfl,by rw[←z1],by rw[←z2],by rw[←z3],z4,rfl,hlen⟩
        · rw[if_pos z4] at h;exact absurd h z4
      · rw[if_pos z3] at h;exact absurd h z3
    · rw[if_pos z2] at h;exact absurd h z2
  · rw[if_pos z1] at h;exact absurd h z1
def AtV (B:Nat) (a:Option Addr) (m c:Nat) (l:Vec.V) (W:World):Prop:=Vec.Reads W (.slice a m c) l∧∀b off sp,a=some ⟨b,off,sp⟩→B≤b∧b<W.heap.size
def AtL {α:Type} (L:Lay α) (B:Nat) (a:Option Addr) (m c:Nat) (l:List α) (W:World):Prop:=Reads L W (.slice a m c) l∧∀b off sp,a=some ⟨b,off,sp⟩→B≤b∧b<W.heap.size
theorem AtV.kept {B m c:Nat} {a:Option Addr} {l:Vec.V} {W W':World} (h:AtV B a m c l W) (k:Kept W W'):AtV B a m c l W':=⟨h.1.kept k,fun b off sp e=>⟨(h.2 b off sp e).1,Nat.lt_of_lt_of_le (h.2 b off sp e).2 k.size⟩⟩
theorem AtL.kept {α:Type} {L:Lay α} {B m c:Nat} {a:Option Addr} {l:List α} {W W':World} (h:AtL L B a m c l W) (k:Kept W W'):AtL L B a m c l W':=⟨h.1.kept k,fun b off sp e=>⟨(h.2 b off sp e).1,Nat.lt_of_lt_of_le (h.2 b off sp e).2 k.size⟩⟩
theorem Yj {a:Option Addr} {B q:Nat} {W:World} (h:∀b off sp,a=some ⟨b,off,sp⟩→B≤b∧b<W.heap.size) (hq:q<B):∀b off sp,a=some ⟨b,off,sp⟩→b≠q:=fun b off sp e=>by have:=(h b off sp e).1;omega
theorem ZE {a:Option Addr} {B q:Nat} {W:World} (h:∀b off sp,a=some ⟨b,off,sp⟩→B≤b∧b<W.heap.size) (hq:W.heap.size=q):∀b off sp,a=some ⟨b,off,sp⟩→b≠q:=fun b off sp e=>by have:=(h b off sp e).2;omega
theorem Yd {a:Option Addr} {B B':Nat} {W:World} (h:∀b off sp,a=some ⟨b,off,sp⟩→B'≤b∧b<W.heap.size) (hq:B≤B'):∀b off sp,a=some ⟨b,off,sp⟩→B≤b∧b<W.heap.size:=fun b off sp e=>⟨Nat.le_trans hq (h b off sp e).1,(h b off sp e).2⟩
theorem jbE (W:World):∃q u,W.heap.size=q∧W.alloc (.cells #[.string ⟨#[]⟩,.slice none 0 0,.slice none 0 0,.slice none 0 0,.bool false] 42)=u∧Kept W u∧u.heap.size=q+1∧∀W',Kept u W'→(W'.cell? ⟨q,0,none⟩=some (.string ⟨#[]⟩)∧W'.cell? ⟨q,1,none⟩=some (.slice none 0 0)∧W'.cell? ⟨q,2,none⟩=some (.slice none 0 0)∧W'.cell? ⟨q,3,none⟩=some (.slice none 0 0)∧W'.cell? ⟨q,4,none⟩=some (.bool false))∧W'.frozen? ⟨q,0,none⟩=false∧W'.frozen? ⟨q,1,none⟩=false∧W'.frozen? ⟨q,2,none⟩=false∧W'.frozen? ⟨q,3,none⟩=false∧W'.frozen? ⟨q,4,none⟩=false :=
 ⟨_,_,rfl,rfl,ja _ _,World.size_alloc _ _,YC W _ _ _ _ _ _⟩
theorem jg1 (s:List UInt8) (w:World) (hE:Vec.EnvT w) (hs:s.length≤900000) (h0:(zj s).1=0) :
 Calls Tryz.prog 125 #[.string (bytes s)] w (Xz (zj s) w):=by
 obtain⟨a,b,c,d,e,n1,n2,n3,hw,he1,he2,he3,hck,hp,hlen⟩:=jjy h0;have HWD:=lH (fun W (k:Kept w W)=>jjZ s W (hE.kept k).toEnv.base (by omega));have hla:=hlen a (by simp);have hlb:=hlen b (by simp);have hlc:=hlen c (by simp);have hld:=hlen d (by simp);have HW:=lH hw;have H1:=lH (fun W (k:Kept w W)=>(Vec.X6 b W (hE.kept k).toEnv (by omega)).mono fun _ _=>Vec.jaC.spelt);have H2:=lH (fun W (k:Kept w W)=>(X6 c W (hE.kept k).toEnv.base (by omega)).mono fun _ _=>Xf);have H3:=lH (fun W (k:Kept w W)=>(jjb d W (hE.kept k).toEnv.base (by omega)).mono fun _ _=>Xf);rw[he1] at H1;rw[he2] at H2;rw[he3] at H3;dsimp only at H1 H2 H3;have HCL:=lH (fun W=>Zp (bytes a) W (by rw[ji];omega));have HNM:=lH (show (bytes a).size≤maxLen by rw[ji];unfold maxLen;omega);have t4:((bytes e).toList==[99,111,114,100,111,110])=(e==ZZ):=by rw[jn];rfl
 obtain⟨cd,hcd⟩:∃x,(e==ZZ)=x:=⟨_,rfl⟩
 obtain⟨cd,hcd⟩:∃x,(e==ZZ)=x:=⟨_,rfl⟩
 rw[hcd] at t4 hck hp;have HP:=lH hp;have HK0:=lH hck;clear hlen hla hlb hlc hld hw he1 he2 he3 hcd hs hE hck hp h0;go_enter Tryz.func125,Tryz.ntmps125;go_wp2_with fail
 refine(HWD.out _ (ja _ _)).mono ?_;rintro ee w1 ⟨g1,g2,k⟩;obtain⟨g,cap,rfl,hcells⟩:=g1 _ HW.out;have K:=lH ((ja _ _).trans k);have K1S:=lH (show w.heap.size+1≤w1.heap.size by have:=k.size;rw[World.size_alloc] at this;exact this);have HR0:=lH (jjt w w1 k);have HC:=lH (show ∀W,Kept w1 W→W.cell? ⟨g,0,none⟩=some (.string (bytes a))∧W.cell? ⟨g,1,none⟩=some (.string (bytes b))∧W.cell? ⟨g,2,none⟩=some (.string (bytes c))∧W.cell? ⟨g,3,none⟩=some (.string (bytes d))∧W.cell? ⟨g,4,none⟩=some (.string (bytes e)) from fun W k =>
  ⟨cell_later k (hcells 0 a rfl),cell_later k (hcells 1 b rfl),cell_later k (hcells 2 c rfl),cell_later k (hcells 3 d rfl),cell_later k (hcells 4 e rfl)⟩)
 clear g1 g2 k hcells HWD HW;go_wp2;go_cut [4] from 7 to 37 (fun s4 wx=>∃q,s4=.pointer (some ⟨q,0,none⟩)∧Laid w1 q (bytes a) n1 n2 n3 cd wx)
 case first =>
  refine wp_region_held_drew (S:=fun W=>Kept w1 W) (by kernel_rfl) (Kept.drew _) (fun hHeld=>?_);have KK:=lH hHeld;obtain⟨wd,hwd⟩:∃W,w1.drew=W:=⟨_,rfl⟩
  rw[hwd] at KK hHeld ⊢;clear hwd;refine tkH 0 (v:=?_) (y:=Or.inl ⟨by rfl,(by intro W hSw;obtain⟨q0,q1,q2,q3,q4⟩:=HC.out _ hSw;go_simp<;>with_reducible rfl)⟩) (h:=?_);try simp only[nP]
  refine tkH 1 (v:=?_) (y:=Or.inl ⟨by rfl,(by intro W hSw;obtain⟨q0,q1,q2,q3,q4⟩:=HC.out _ hSw;go_simp<;>with_reducible rfl)⟩) (h:=?_);try simp only[nP]
  refine tkH 2 (v:=?_) (y:=Or.inl ⟨by rfl,(by intro W hSw;obtain⟨q0,q1,q2,q3,q4⟩:=HC.out _ hSw;go_simp<;>with_reducible rfl)⟩) (h:=?_);try simp only[nP]
  refine tkH 4 (v:=?_) (y:=Or.inl ⟨by rfl,(by intro W hSw;obtain⟨q0,q1,q2,q3,q4⟩:=HC.out _ hSw;go_simp<;>with_reducible rfl)⟩) (h:=?_);try simp only[nP]
  refine tkH 5 (v:=?_) (y:=Or.inl ⟨by rfl,(by intro W hSw;obtain⟨q0,q1,q2,q3,q4⟩:=HC.out _ hSw;go_simp<;>with_reducible rfl)⟩) (h:=?_);try simp only[nP]
  refine tkH 6 (v:=?_) (y:=Or.inl ⟨by rfl,(by intro W hSw;obtain⟨q0,q1,q2,q3,q4⟩:=HC.out _ hSw;go_simp<;>with_reducible rfl)⟩) (h:=?_);try simp only[nP]
  refine tkH 11 (v:=?_) (y:=Or.inl ⟨by rfl,(by intro W hSw;obtain⟨q0,q1,q2,q3,q4⟩:=HC.out _ hSw;go_simp<;>with_reducible rfl)⟩) (h:=?_);try simp only[nP]
  refine tkH 12 (v:=?_) (y:=Or.inl ⟨by rfl,(by intro W hSw;obtain⟨q0,q1,q2,q3,q4⟩:=HC.out _ hSw;go_simp<;>with_reducible rfl)⟩) (h:=?_);try simp only[nP]
  refine tkH 13 (v:=?_) (y:=Or.inl ⟨by rfl,(by intro W hSw;obtain⟨q0,q1,q2,q3,q4⟩:=HC.out _ hSw;go_simp<;>with_reducible rfl)⟩) (h:=?_);try simp only[nP]
  refine tkH 18 (v:=?_) (y:=Or.inl ⟨by rfl,(by intro W hSw;obtain⟨q0,q1,q2,q3,q4⟩:=HC.out _ hSw;go_simp<;>with_reducible rfl)⟩) (h:=?_);try simp only[nP]
  refine tkH 19 (v:=?_) (y:=Or.inl ⟨by rfl,(by intro W hSw;obtain⟨q0,q1,q2,q3,q4⟩:=HC.out _ hSw;go_simp<;>with_reducible rfl)⟩) (h:=?_);try simp only[nP]
  refine tkH 20 (v:=?_) (y:=Or.inl ⟨by rfl,(by intro W hSw;obtain⟨q0,q1,q2,q3,q4⟩:=HC.out _ hSw;go_simp<;>with_reducible rfl)⟩) (h:=?_);try simp only[nP]
  refine tkH 25 (v:=?_) (y:=Or.inl ⟨by rfl,(by intro W hSw;obtain⟨q0,q1,q2,q3,q4⟩:=HC.out _ hSw;go_simp<;>with_reducible rfl)⟩) (h:=?_);try simp only[nP]
  refine tkH 26 (v:=?_) (y:=Or.inl ⟨by rfl,(by intro W hSw;obtain⟨q0,q1,q2,q3,q4⟩:=HC.out _ hSw;go_simp<;>with_reducible rfl)⟩) (h:=?_);try simp only[nP]
  refine tkH 27 (v:=?_) (y:=Or.inl ⟨by rfl,(by intro W hSw;obtain⟨q0,q1,q2,q3,q4⟩:=HC.out _ hSw;go_simp<;>with_reducible rfl)⟩) (h:=?_);try simp only[nP]
  refine tkH 28 (v:=?_) (y:=Or.inl ⟨by rfl,(by intro W hSw;obtain⟨q0,q1,q2,q3,q4⟩:=HC.out _ hSw;go_simp<;>with_reducible rfl)⟩) (h:=?_);try simp only[nP]
  refine rdH (rs:=[3,30]) (h:=coH (fun K9 hK9=>?_) (coH (fun K9 hK9=>?_) AllReadyH.nil))
  · go_simp;refine(HCL.out _).mono ?_;rintro e0 u1 ⟨rfl,k⟩;have KK:=lH (KK.out.trans k);clear k;refine hK9.out _ _ KK.out (fun _=>?_);clear hK9 K9;try simp only[nP]
    refine rdH (rs:=[7,30]) (h:=coH (fun K9 hK9=>?_) (coH (fun K9 hK9=>?_) AllReadyH.nil))
    · go_simp;refine(H1.out _ (K.out.trans KK.out)).mono ?_;rintro e0 u2 ⟨aa,ma,ca,rfl,rr,bb,k⟩;have RA:=lH (And.intro rr (Yd bb KK.out.size));have KK:=lH (KK.out.trans k);clear rr bb k;refine hK9.out _ _ KK.out (fun _=>?_);clear hK9 K9;try simp only[nP]
      refine tkJ 8 ?_;refine tkJ 9 ?_;try simp only[nP]
      refine rdH (rs:=[10,30]) (h:=coH (fun K9 hK9=>?_) (coH (fun K9 hK9=>?_) AllReadyH.nil))
      · go_simp;refine(YF _ _).mono ?_;rintro e0 w0 ⟨rfl,rfl⟩;refine hK9.out _ _ KK.out (fun _=>?_);clear hK9 K9;try simp only[nP]
        refine rdH (rs:=[14,30]) (h:=coH (fun K9 hK9=>?_) (coH (fun K9 hK9=>?_) AllReadyH.nil))
        · go_simp;refine(H2.out _ (K.out.trans KK.out)).mono ?_;rintro e0 u3 ⟨ab,mb,cb,rfl,rr,bb,k⟩;have RB:=lH (And.intro rr (Yd bb KK.out.size));have KK:=lH (KK.out.trans k);have RA:=lH (AtV.kept RA.out k);clear rr bb k;refine hK9.out _ _ KK.out (fun _=>?_);clear hK9 K9;try simp only[nP]
          refine tkJ 15 ?_;refine tkJ 16 ?_;try simp only[nP]
          refine rdH (rs:=[17,30]) (h:=coH (fun K9 hK9=>?_) (coH (fun K9 hK9=>?_) AllReadyH.nil))
          · go_simp;refine(Z8 _ _).mono ?_;rintro e0 w0 ⟨rfl,rfl⟩;refine hK9.out _ _ KK.out (fun _=>?_);clear hK9 K9;try simp only[nP]
            refine rdH (rs:=[21,30]) (h:=coH (fun K9 hK9=>?_) (coH (fun K9 hK9=>?_) AllReadyH.nil))
            · go_simp;refine(H3.out _ (K.out.trans KK.out)).mono ?_;rintro e0 u4 ⟨ac,mc,cc,rfl,rr,bb,k⟩;have RC:=lH (And.intro rr (Yd bb KK.out.size));have KK:=lH (KK.out.trans k);have RA:=lH (AtV.kept RA.out k);have RB:=lH (AtL.kept RB.out k);clear rr bb k;refine hK9.out _ _ KK.out (fun _=>?_);clear hK9 K9;try simp only[nP]
              refine tkJ 22 ?_;refine tkJ 23 ?_;try simp only[nP]
              refine rdH (rs:=[24,30]) (h:=coH (fun K9 hK9=>?_) (coH (fun K9 hK9=>?_) AllReadyH.nil))
              · go_simp;refine(ZI _ _).mono ?_;rintro e0 w0 ⟨rfl,rfl⟩;refine hK9.out _ _ KK.out (fun _=>?_);clear hK9 K9;try simp only[nP]
                refine tkJ 29 ?_;try simp only[nP]
                refine rd1 30 fun K9 hK9=>?_;go_simp;obtain⟨q,u,hqe,hWQ,ka,hsz,hQ⟩:=jbE u4;have FA:=lH (ZE RA.out.2 hqe);have FB:=lH (ZE RB.out.2 hqe);have FC:=lH (ZE RC.out.2 hqe);have hq:w1.heap.size≤q:=by rw[←hqe];exact KK.out.size
                rw[hqe,hWQ];have HQ:=lH hQ;have hsz:q<u.heap.size:=by omega
                have KK:=lH (KK.out.trans ka);have KQ:=lH (Kept.refl u);have RA:=lH (AtV.kept RA.out ka);have RB:=lH (AtL.kept RB.out ka);have RC:=lH (AtL.kept RC.out ka);clear ka hQ hWQ hqe;refine hK9.out _ _ KK.out (fun _=>?_);clear hK9 K9;try simp only[nP]
                refine rd1 31 fun K9 hK9=>?_;obtain⟨⟨y0,y1,y2,y3,y4⟩,x0,x1,x2,x3,x4⟩:=HQ.out _ KQ.out;go_simp;refine hK9.out _ _ (((((KK.out.setCell (p:=⟨q,0,none⟩) hq _).setCell (p:=⟨q,1,none⟩) hq _).setCell (p:=⟨q,2,none⟩) hq _).setCell (p:=⟨q,3,none⟩) hq _).setCell (p:=⟨q,4,none⟩) hq _) (fun _=>?_);clear hK9 K9;try simp only[nP]
                refine wpAnyH_done (by kernel_rfl) ?_ _;go_wp2;go_meet
                case rel=>exact⟨q,rfl,Xa KK.out hq y0 y1 y2 y3 y4 RA.out.1 RB.out.1 RC.out.1 FA.out FB.out FC.out (fun b o sp e=>(RA.out.2 b o sp e).1) (fun b o sp e=>(RB.out.2 b o sp e).1) (fun b o sp e=>(RC.out.2 b o sp e).1)⟩
              · go_simp;obtain⟨q,u,hqe,hWQ,ka,hsz,hQ⟩:=jbE u4;have FA:=lH (ZE RA.out.2 hqe);have FB:=lH (ZE RB.out.2 hqe);have FC:=lH (ZE RC.out.2 hqe);have hq:w1.heap.size≤q:=by rw[←hqe];exact KK.out.size
                rw[hqe,hWQ];have HQ:=lH hQ;have hsz:q<u.heap.size:=by omega
                have KK:=lH (KK.out.trans ka);have KQ:=lH (Kept.refl u);have RA:=lH (AtV.kept RA.out ka);have RB:=lH (AtL.kept RB.out ka);have RC:=lH (AtL.kept RC.out ka);clear ka hQ hWQ hqe;refine hK9.out _ _ KK.out (fun _=>?_);clear hK9 K9;try simp only[nP]
                refine rd1 24 fun K9 hK9=>?_;go_simp;refine(ZI _ _).mono ?_;rintro e0 w0 ⟨rfl,rfl⟩;refine hK9.out _ _ KK.out (fun _=>?_);clear hK9 K9;try simp only[nP]
                refine tkJ 29 ?_;try simp only[nP]
                refine rd1 31 fun K9 hK9=>?_;obtain⟨⟨y0,y1,y2,y3,y4⟩,x0,x1,x2,x3,x4⟩:=HQ.out _ KQ.out;go_simp;refine hK9.out _ _ (((((KK.out.setCell (p:=⟨q,0,none⟩) hq _).setCell (p:=⟨q,1,none⟩) hq _).setCell (p:=⟨q,2,none⟩) hq _).setCell (p:=⟨q,3,none⟩) hq _).setCell (p:=⟨q,4,none⟩) hq _) (fun _=>?_);clear hK9 K9;try simp only[nP]
                refine wpAnyH_done (by kernel_rfl) ?_ _;go_wp2;go_meet
                case rel=>exact⟨q,rfl,Xa KK.out hq y0 y1 y2 y3 y4 RA.out.1 RB.out.1 RC.out.1 FA.out FB.out FC.out (fun b o sp e=>(RA.out.2 b o sp e).1) (fun b o sp e=>(RB.out.2 b o sp e).1) (fun b o sp e=>(RC.out.2 b o sp e).1)⟩
            · go_simp;obtain⟨q,u,hqe,hWQ,ka,hsz,hQ⟩:=jbE u3;have FA:=lH (ZE RA.out.2 hqe);have FB:=lH (ZE RB.out.2 hqe);have hq:w1.heap.size≤q:=by rw[←hqe];exact KK.out.size
              rw[hqe,hWQ];have HQ:=lH hQ;have hsz:q<u.heap.size:=by omega
              have KK:=lH (KK.out.trans ka);have KQ:=lH (Kept.refl u);have RA:=lH (AtV.kept RA.out ka);have RB:=lH (AtL.kept RB.out ka);clear ka hQ hWQ hqe;refine hK9.out _ _ KK.out (fun _=>?_);clear hK9 K9;try simp only[nP]
              refine rd1 21 fun K9 hK9=>?_;go_simp;refine(H3.out _ (K.out.trans KK.out)).mono ?_;rintro e0 u5 ⟨ac,mc,cc,rfl,rr,bb,k⟩;have FC:=lH (Yj bb (Nat.lt_of_lt_of_le hsz KQ.out.size));have RC:=lH (And.intro rr (Yd bb KK.out.size));have KK:=lH (KK.out.trans k);have KQ:=lH (KQ.out.trans k);have RA:=lH (AtV.kept RA.out k);have RB:=lH (AtL.kept RB.out k);clear rr bb k;refine hK9.out _ _ KK.out (fun _=>?_);clear hK9 K9;try simp only[nP]
              refine tkJ 22 ?_;refine tkJ 23 ?_;try simp only[nP]
              refine rd1 24 fun K9 hK9=>?_;go_simp;refine(ZI _ _).mono ?_;rintro e0 w0 ⟨rfl,rfl⟩;refine hK9.out _ _ KK.out (fun _=>?_);clear hK9 K9;try simp only[nP]
              refine tkJ 29 ?_;try simp only[nP]
              refine rd1 31 fun K9 hK9=>?_;obtain⟨⟨y0,y1,y2,y3,y4⟩,x0,x1,x2,x3,x4⟩:=HQ.out _ KQ.out;go_simp;refine hK9.out _ _ (((((KK.out.setCell (p:=⟨q,0,none⟩) hq _).setCell (p:=⟨q,1,none⟩) hq _).setCell (p:=⟨q,2,none⟩) hq _).setCell (p:=⟨q,3,none⟩) hq _).setCell (p:=⟨q,4,none⟩) hq _) (fun _=>?_);clear hK9 K9;try simp only[nP]
              refine wpAnyH_done (by kernel_rfl) ?_ _;go_wp2;go_meet
              case rel=>exact⟨q,rfl,Xa KK.out hq y0 y1 y2 y3 y4 RA.out.1 RB.out.1 RC.out.1 FA.out FB.out FC.out (fun b o sp e=>(RA.out.2 b o sp e).1) (fun b o sp e=>(RB.out.2 b o sp e).1) (fun b o sp e=>(RC.out.2 b o sp e).1)⟩
          · go_simp;obtain⟨q,u,hqe,hWQ,ka,hsz,hQ⟩:=jbE u3;have FA:=lH (ZE RA.out.2 hqe);have FB:=lH (ZE RB.out.2 hqe);have hq:w1.heap.size≤q:=by rw[←hqe];exact KK.out.size
            rw[hqe,hWQ];have HQ:=lH hQ;have hsz:q<u.heap.size:=by omega
            have KK:=lH (KK.out.trans ka);have KQ:=lH (Kept.refl u);have RA:=lH (AtV.kept RA.out ka);have RB:=lH (AtL.kept RB.out ka);clear ka hQ hWQ hqe;refine hK9.out _ _ KK.out (fun _=>?_);clear hK9 K9;try simp only[nP]
            refine rd1 17 fun K9 hK9=>?_;go_simp;refine(Z8 _ _).mono ?_;rintro e0 w0 ⟨rfl,rfl⟩;refine hK9.out _ _ KK.out (fun _=>?_);clear hK9 K9;try simp only[nP]
            refine rd1 21 fun K9 hK9=>?_;go_simp;refine(H3.out _ (K.out.trans KK.out)).mono ?_;rintro e0 u6 ⟨ac,mc,cc,rfl,rr,bb,k⟩;have FC:=lH (Yj bb (Nat.lt_of_lt_of_le hsz KQ.out.size));have RC:=lH (And.intro rr (Yd bb KK.out.size));have KK:=lH (KK.out.trans k);have KQ:=lH (KQ.out.trans k);have RA:=lH (AtV.kept RA.out k);have RB:=lH (AtL.kept RB.out k);clear rr bb k;refine hK9.out _ _ KK.out (fun _=>?_);clear hK9 K9;try simp only[nP]
            refine tkJ 22 ?_;refine tkJ 23 ?_;try simp only[nP]
            refine rd1 24 fun K9 hK9=>?_;go_simp;refine(ZI _ _).mono ?_;rintro e0 w0 ⟨rfl,rfl⟩;refine hK9.out _ _ KK.out (fun _=>?_);clear hK9 K9;try simp only[nP]
            refine tkJ 29 ?_;try simp only[nP]
            refine rd1 31 fun K9 hK9=>?_;obtain⟨⟨y0,y1,y2,y3,y4⟩,x0,x1,x2,x3,x4⟩:=HQ.out _ KQ.out;go_simp;refine hK9.out _ _ (((((KK.out.setCell (p:=⟨q,0,none⟩) hq _).setCell (p:=⟨q,1,none⟩) hq _).setCell (p:=⟨q,2,none⟩) hq _).setCell (p:=⟨q,3,none⟩) hq _).setCell (p:=⟨q,4,none⟩) hq _) (fun _=>?_);clear hK9 K9;try simp only[nP]
            refine wpAnyH_done (by kernel_rfl) ?_ _;go_wp2;go_meet
            case rel=>exact⟨q,rfl,Xa KK.out hq y0 y1 y2 y3 y4 RA.out.1 RB.out.1 RC.out.1 FA.out FB.out FC.out (fun b o sp e=>(RA.out.2 b o sp e).1) (fun b o sp e=>(RB.out.2 b o sp e).1) (fun b o sp e=>(RC.out.2 b o sp e).1)⟩
        · go_simp;obtain⟨q,u,hqe,hWQ,ka,hsz,hQ⟩:=jbE u2;have FA:=lH (ZE RA.out.2 hqe);have hq:w1.heap.size≤q:=by rw[←hqe];exact KK.out.size
          rw[hqe,hWQ];have HQ:=lH hQ;have hsz:q<u.heap.size:=by omega
          have KK:=lH (KK.out.trans ka);have KQ:=lH (Kept.refl u);have RA:=lH (AtV.kept RA.out ka);clear ka hQ hWQ hqe;refine hK9.out _ _ KK.out (fun _=>?_);clear hK9 K9;try simp only[nP]
          refine rd1 14 fun K9 hK9=>?_;go_simp;refine(H2.out _ (K.out.trans KK.out)).mono ?_;rintro e0 u7 ⟨ab,mb,cb,rfl,rr,bb,k⟩;have FB:=lH (Yj bb (Nat.lt_of_lt_of_le hsz KQ.out.size));have RB:=lH (And.intro rr (Yd bb KK.out.size));have KK:=lH (KK.out.trans k);have KQ:=lH (KQ.out.trans k);have RA:=lH (AtV.kept RA.out k);clear rr bb k;refine hK9.out _ _ KK.out (fun _=>?_);clear hK9 K9;try simp only[nP]
          refine tkJ 15 ?_;refine tkJ 16 ?_;try simp only[nP]
          refine rd1 17 fun K9 hK9=>?_;go_simp;refine(Z8 _ _).mono ?_;rintro e0 w0 ⟨rfl,rfl⟩;refine hK9.out _ _ KK.out (fun _=>?_);clear hK9 K9;try simp only[nP]
          refine rd1 21 fun K9 hK9=>?_;go_simp;refine(H3.out _ (K.out.trans KK.out)).mono ?_;rintro e0 u8 ⟨ac,mc,cc,rfl,rr,bb,k⟩;have FC:=lH (Yj bb (Nat.lt_of_lt_of_le hsz KQ.out.size));have RC:=lH (And.intro rr (Yd bb KK.out.size));have KK:=lH (KK.out.trans k);have KQ:=lH (KQ.out.trans k);have RA:=lH (AtV.kept RA.out k);have RB:=lH (AtL.kept RB.out k);clear rr bb k;refine hK9.out _ _ KK.out (fun _=>?_);clear hK9 K9;try simp only[nP]
          refine tkJ 22 ?_;refine tkJ 23 ?_;try simp only[nP]
          refine rd1 24 fun K9 hK9=>?_;go_simp;refine(ZI _ _).mono ?_;rintro e0 w0 ⟨rfl,rfl⟩;refine hK9.out _ _ KK.out (fun _=>?_);clear hK9 K9;try simp only[nP]
          refine tkJ 29 ?_;try simp only[nP]
          refine rd1 31 fun K9 hK9=>?_;obtain⟨⟨y0,y1,y2,y3,y4⟩,x0,x1,x2,x3,x4⟩:=HQ.out _ KQ.out;go_simp;refine hK9.out _ _ (((((KK.out.setCell (p:=⟨q,0,none⟩) hq _).setCell (p:=⟨q,1,none⟩) hq _).setCell (p:=⟨q,2,none⟩) hq _).setCell (p:=⟨q,3,none⟩) hq _).setCell (p:=⟨q,4,none⟩) hq _) (fun _=>?_);clear hK9 K9;try simp only[nP]
          refine wpAnyH_done (by kernel_rfl) ?_ _;go_wp2;go_meet
          case rel=>exact⟨q,rfl,Xa KK.out hq y0 y1 y2 y3 y4 RA.out.1 RB.out.1 RC.out.1 FA.out FB.out FC.out (fun b o sp e=>(RA.out.2 b o sp e).1) (fun b o sp e=>(RB.out.2 b o sp e).1) (fun b o sp e=>(RC.out.2 b o sp e).1)⟩
      · go_simp;obtain⟨q,u,hqe,hWQ,ka,hsz,hQ⟩:=jbE u2;have FA:=lH (ZE RA.out.2 hqe);have hq:w1.heap.size≤q:=by rw[←hqe];exact KK.out.size
        rw[hqe,hWQ];have HQ:=lH hQ;have hsz:q<u.heap.size:=by omega
        have KK:=lH (KK.out.trans ka);have KQ:=lH (Kept.refl u);have RA:=lH (AtV.kept RA.out ka);clear ka hQ hWQ hqe;refine hK9.out _ _ KK.out (fun _=>?_);clear hK9 K9;try simp only[nP]
        refine rd1 10 fun K9 hK9=>?_;go_simp;refine(YF _ _).mono ?_;rintro e0 w0 ⟨rfl,rfl⟩;refine hK9.out _ _ KK.out (fun _=>?_);clear hK9 K9;try simp only[nP]
        refine rd1 14 fun K9 hK9=>?_;go_simp;refine(H2.out _ (K.out.trans KK.out)).mono ?_;rintro e0 u9 ⟨ab,mb,cb,rfl,rr,bb,k⟩;have FB:=lH (Yj bb (Nat.lt_of_lt_of_le hsz KQ.out.size));have RB:=lH (And.intro rr (Yd bb KK.out.size));have KK:=lH (KK.out.trans k);have KQ:=lH (KQ.out.trans k);have RA:=lH (AtV.kept RA.out k);clear rr bb k;refine hK9.out _ _ KK.out (fun _=>?_);clear hK9 K9;try simp only[nP]
        refine tkJ 15 ?_;refine tkJ 16 ?_;try simp only[nP]
        refine rd1 17 fun K9 hK9=>?_;go_simp;refine(Z8 _ _).mono ?_;rintro e0 w0 ⟨rfl,rfl⟩;refine hK9.out _ _ KK.out (fun _=>?_);clear hK9 K9;try simp only[nP]
        refine rd1 21 fun K9 hK9=>?_;go_simp;refine(H3.out _ (K.out.trans KK.out)).mono ?_;rintro e0 u10 ⟨ac,mc,cc,rfl,rr,bb,k⟩;have FC:=lH (Yj bb (Nat.lt_of_lt_of_le hsz KQ.out.size));have RC:=lH (And.intro rr (Yd bb KK.out.size));have KK:=lH (KK.out.trans k);have KQ:=lH (KQ.out.trans k);have RA:=lH (AtV.kept RA.out k);have RB:=lH (AtL.kept RB.out k);clear rr bb k;refine hK9.out _ _ KK.out (fun _=>?_);clear hK9 K9;try simp only[nP]
        refine tkJ 22 ?_;refine tkJ 23 ?_;try simp only[nP]
        refine rd1 24 fun K9 hK9=>?_;go_simp;refine(ZI _ _).mono ?_;rintro e0 w0 ⟨rfl,rfl⟩;refine hK9.out _ _ KK.out (fun _=>?_);clear hK9 K9;try simp only[nP]
        refine tkJ 29 ?_;try simp only[nP]
        refine rd1 31 fun K9 hK9=>?_;obtain⟨⟨y0,y1,y2,y3,y4⟩,x0,x1,x2,x3,x4⟩:=HQ.out _ KQ.out;go_simp;refine hK9.out _ _ (((((KK.out.setCell (p:=⟨q,0,none⟩) hq _).setCell (p:=⟨q,1,none⟩) hq _).setCell (p:=⟨q,2,none⟩) hq _).setCell (p:=⟨q,3,none⟩) hq _).setCell (p:=⟨q,4,none⟩) hq _) (fun _=>?_);clear hK9 K9;try simp only[nP]
        refine wpAnyH_done (by kernel_rfl) ?_ _;go_wp2;go_meet
        case rel=>exact⟨q,rfl,Xa KK.out hq y0 y1 y2 y3 y4 RA.out.1 RB.out.1 RC.out.1 FA.out FB.out FC.out (fun b o sp e=>(RA.out.2 b o sp e).1) (fun b o sp e=>(RB.out.2 b o sp e).1) (fun b o sp e=>(RC.out.2 b o sp e).1)⟩
    · go_simp;obtain⟨q,u,hqe,hWQ,ka,hsz,hQ⟩:=jbE u1;have hq:w1.heap.size≤q:=by rw[←hqe];exact KK.out.size
      rw[hqe,hWQ];have HQ:=lH hQ;have hsz:q<u.heap.size:=by omega
      have KK:=lH (KK.out.trans ka);have KQ:=lH (Kept.refl u);clear ka hQ hWQ hqe;refine hK9.out _ _ KK.out (fun _=>?_);clear hK9 K9;try simp only[nP]
      refine rd1 7 fun K9 hK9=>?_;go_simp;refine(H1.out _ (K.out.trans KK.out)).mono ?_;rintro e0 u11 ⟨aa,ma,ca,rfl,rr,bb,k⟩;have FA:=lH (Yj bb (Nat.lt_of_lt_of_le hsz KQ.out.size));have RA:=lH (And.intro rr (Yd bb KK.out.size));have KK:=lH (KK.out.trans k);have KQ:=lH (KQ.out.trans k);clear rr bb k;refine hK9.out _ _ KK.out (fun _=>?_);clear hK9 K9;try simp only[nP]
      refine tkJ 8 ?_;refine tkJ 9 ?_;try simp only[nP]
      refine rd1 10 fun K9 hK9=>?_;go_simp;refine(YF _ _).mono ?_;rintro e0 w0 ⟨rfl,rfl⟩;refine hK9.out _ _ KK.out (fun _=>?_);clear hK9 K9;try simp only[nP]
      refine rd1 14 fun K9 hK9=>?_;go_simp;refine(H2.out _ (K.out.trans KK.out)).mono ?_;rintro e0 u12 ⟨ab,mb,cb,rfl,rr,bb,k⟩;have FB:=lH (Yj bb (Nat.lt_of_lt_of_le hsz KQ.out.size));have RB:=lH (And.intro rr (Yd bb KK.out.size));have KK:=lH (KK.out.trans k);have KQ:=lH (KQ.out.trans k);have RA:=lH (AtV.kept RA.out k);clear rr bb k;refine hK9.out _ _ KK.out (fun _=>?_);clear hK9 K9;try simp only[nP]
      refine tkJ 15 ?_;refine tkJ 16 ?_;try simp only[nP]
      refine rd1 17 fun K9 hK9=>?_;go_simp;refine(Z8 _ _).mono ?_;rintro e0 w0 ⟨rfl,rfl⟩;refine hK9.out _ _ KK.out (fun _=>?_);clear hK9 K9;try simp only[nP]
      refine rd1 21 fun K9 hK9=>?_;go_simp;refine(H3.out _ (K.out.trans KK.out)).mono ?_;rintro e0 u13 ⟨ac,mc,cc,rfl,rr,bb,k⟩;have FC:=lH (Yj bb (Nat.lt_of_lt_of_le hsz KQ.out.size));have RC:=lH (And.intro rr (Yd bb KK.out.size));have KK:=lH (KK.out.trans k);have KQ:=lH (KQ.out.trans k);have RA:=lH (AtV.kept RA.out k);have RB:=lH (AtL.kept RB.out k);clear rr bb k;refine hK9.out _ _ KK.out (fun _=>?_);clear hK9 K9;try simp only[nP]
      refine tkJ 22 ?_;refine tkJ 23 ?_;try simp only[nP]
      refine rd1 24 fun K9 hK9=>?_;go_simp;refine(ZI _ _).mono ?_;rintro e0 w0 ⟨rfl,rfl⟩;refine hK9.out _ _ KK.out (fun _=>?_);clear hK9 K9;try simp only[nP]
      refine tkJ 29 ?_;try simp only[nP]
      refine rd1 31 fun K9 hK9=>?_;obtain⟨⟨y0,y1,y2,y3,y4⟩,x0,x1,x2,x3,x4⟩:=HQ.out _ KQ.out;go_simp;refine hK9.out _ _ (((((KK.out.setCell (p:=⟨q,0,none⟩) hq _).setCell (p:=⟨q,1,none⟩) hq _).setCell (p:=⟨q,2,none⟩) hq _).setCell (p:=⟨q,3,none⟩) hq _).setCell (p:=⟨q,4,none⟩) hq _) (fun _=>?_);clear hK9 K9;try simp only[nP]
      refine wpAnyH_done (by kernel_rfl) ?_ _;go_wp2;go_meet
      case rel=>exact⟨q,rfl,Xa KK.out hq y0 y1 y2 y3 y4 RA.out.1 RB.out.1 RC.out.1 FA.out FB.out FC.out (fun b o sp e=>(RA.out.2 b o sp e).1) (fun b o sp e=>(RB.out.2 b o sp e).1) (fun b o sp e=>(RC.out.2 b o sp e).1)⟩
  · go_simp;obtain⟨q,u,hqe,hWQ,ka,hsz,hQ⟩:=jbE wd;have hq:w1.heap.size≤q:=by rw[←hqe];exact KK.out.size
    rw[hqe,hWQ];have HQ:=lH hQ;have hsz:q<u.heap.size:=by omega
    have KK:=lH (KK.out.trans ka);have KQ:=lH (Kept.refl u);clear ka hQ hWQ hqe;refine hK9.out _ _ KK.out (fun _=>?_);clear hK9 K9;try simp only[nP]
    refine rd1 3 fun K9 hK9=>?_;go_simp;refine(HCL.out _).mono ?_;rintro e0 u14 ⟨rfl,k⟩;have KK:=lH (KK.out.trans k);have KQ:=lH (KQ.out.trans k);clear k;refine hK9.out _ _ KK.out (fun _=>?_);clear hK9 K9;try simp only[nP]
    refine rd1 7 fun K9 hK9=>?_;go_simp;refine(H1.out _ (K.out.trans KK.out)).mono ?_;rintro e0 u15 ⟨aa,ma,ca,rfl,rr,bb,k⟩;have FA:=lH (Yj bb (Nat.lt_of_lt_of_le hsz KQ.out.size));have RA:=lH (And.intro rr (Yd bb KK.out.size));have KK:=lH (KK.out.trans k);have KQ:=lH (KQ.out.trans k);clear rr bb k;refine hK9.out _ _ KK.out (fun _=>?_);clear hK9 K9;try simp only[nP]
    refine tkJ 8 ?_;refine tkJ 9 ?_;try simp only[nP]
    refine rd1 10 fun K9 hK9=>?_;go_simp;refine(YF _ _).mono ?_;rintro e0 w0 ⟨rfl,rfl⟩;refine hK9.out _ _ KK.out (fun _=>?_);clear hK9 K9;try simp only[nP]
    refine rd1 14 fun K9 hK9=>?_;go_simp;refine(H2.out _ (K.out.trans KK.out)).mono ?_;rintro e0 u16 ⟨ab,mb,cb,rfl,rr,bb,k⟩;have FB:=lH (Yj bb (Nat.lt_of_lt_of_le hsz KQ.out.size));have RB:=lH (And.intro rr (Yd bb KK.out.size));have KK:=lH (KK.out.trans k);have KQ:=lH (KQ.out.trans k);have RA:=lH (AtV.kept RA.out k);clear rr bb k;refine hK9.out _ _ KK.out (fun _=>?_);clear hK9 K9;try simp only[nP]
    refine tkJ 15 ?_;refine tkJ 16 ?_;try simp only[nP]
    refine rd1 17 fun K9 hK9=>?_;go_simp;refine(Z8 _ _).mono ?_;rintro e0 w0 ⟨rfl,rfl⟩;refine hK9.out _ _ KK.out (fun _=>?_);clear hK9 K9;try simp only[nP]
    refine rd1 21 fun K9 hK9=>?_;go_simp;refine(H3.out _ (K.out.trans KK.out)).mono ?_;rintro e0 u17 ⟨ac,mc,cc,rfl,rr,bb,k⟩;have FC:=lH (Yj bb (Nat.lt_of_lt_of_le hsz KQ.out.size));have RC:=lH (And.intro rr (Yd bb KK.out.size));have KK:=lH (KK.out.trans k);have KQ:=lH (KQ.out.trans k);have RA:=lH (AtV.kept RA.out k);have RB:=lH (AtL.kept RB.out k);clear rr bb k;refine hK9.out _ _ KK.out (fun _=>?_);clear hK9 K9;try simp only[nP]
    refine tkJ 22 ?_;refine tkJ 23 ?_;try simp only[nP]
    refine rd1 24 fun K9 hK9=>?_;go_simp;refine(ZI _ _).mono ?_;rintro e0 w0 ⟨rfl,rfl⟩;refine hK9.out _ _ KK.out (fun _=>?_);clear hK9 K9;try simp only[nP]
    refine tkJ 29 ?_;try simp only[nP]
    refine rd1 31 fun K9 hK9=>?_;obtain⟨⟨y0,y1,y2,y3,y4⟩,x0,x1,x2,x3,x4⟩:=HQ.out _ KQ.out;go_simp;refine hK9.out _ _ (((((KK.out.setCell (p:=⟨q,0,none⟩) hq _).setCell (p:=⟨q,1,none⟩) hq _).setCell (p:=⟨q,2,none⟩) hq _).setCell (p:=⟨q,3,none⟩) hq _).setCell (p:=⟨q,4,none⟩) hq _) (fun _=>?_);clear hK9 K9;try simp only[nP]
    refine wpAnyH_done (by kernel_rfl) ?_ _;go_wp2;go_meet
    case rel=>exact⟨q,rfl,Xa KK.out hq y0 y1 y2 y3 y4 RA.out.1 RB.out.1 RC.out.1 FA.out FB.out FC.out (fun b o sp e=>(RA.out.2 b o sp e).1) (fun b o sp e=>(RB.out.2 b o sp e).1) (fun b o sp e=>(RC.out.2 b o sp e).1)⟩
 case rest =>
  obtain⟨q,rfl,aa,ma,ca,ab,mb,cb,ac,mc,cc,c0,c1,c2,c3,c4,ra,rb,rc,kk,hq,ga,gb,gc⟩:=hcut;have LD:=lH (show Jo wc (.slice aa ma ca) (.slice ab mb cb) (.slice ac mc cc) ⟨bytes a,n1,n2,n3,cd⟩ from⟨HNM.out,ra,rb,rc⟩);have KW:=lH (K.out.trans kk);have KK:=lH kk;have hrw:w.heap.size<w1.heap.size:=by have:=K1S.out;omega
  have hqr:q≠w.heap.size:=by omega
  have GA:=lH (show ∀b off sp,aa=some ⟨b,off,sp⟩→b≠w.heap.size from fun b off sp e=>by have:=ga b off sp e;omega);have GB:=lH (show ∀b off sp,ab=some ⟨b,off,sp⟩→b≠w.heap.size from fun b off sp e=>by have:=gb b off sp e;omega);have GC:=lH (show ∀b off sp,ac=some ⟨b,off,sp⟩→b≠w.heap.size from fun b off sp e=>by have:=gc b off sp e;omega);have HCQ:=lH (show ∀W,Kept wc W→W.cell? ⟨q,0,none⟩=some (.string (bytes a))∧W.cell? ⟨q,1,none⟩=some (.slice aa ma ca)∧W.cell? ⟨q,2,none⟩=some (.slice ab mb cb)∧W.cell? ⟨q,3,none⟩=some (.slice ac mc cc)∧W.cell? ⟨q,4,none⟩=some (.bool cd) from fun W k=>⟨cell_later k c0,cell_later k c1,cell_later k c2,cell_later k c3,cell_later k c4⟩);have HCK:=lH (fun W (k:Kept wc W)=>jdA ⟨bytes a,n1,n2,n3,cd⟩ (.slice aa ma ca) (.slice ab mb cb) (.slice ac mc cc) W (LD.out.kept k));have HGA:=lH (show ∀b off sp,aa=some ⟨b,off,sp⟩→w.heap.size≤b from fun b off sp e=>by have:=ga b off sp e;omega);have HGB:=lH (show ∀b off sp,ab=some ⟨b,off,sp⟩→w.heap.size≤b from fun b off sp e=>by have:=gb b off sp e;omega);have HGC:=lH (show ∀b off sp,ac=some ⟨b,off,sp⟩→w.heap.size≤b from fun b off sp e=>by have:=gc b off sp e;omega);clear ra rb rc kk ga gb gc c0 c1 c2 c3 c4 hq;obtain⟨ck,hck⟩:∃x,jU ⟨bytes a,n1,n2,n3,cd⟩=x:=⟨_,rfl⟩
  rw[hck] at HCK;unfold Jy at HCK;go_wp2;refine wp_region_held_drew (S:=fun W=>W.cell? ⟨q,0,none⟩=some (.string (bytes a))∧W.cell? ⟨q,1,none⟩=some (.slice aa ma ca)∧W.cell? ⟨q,2,none⟩=some (.slice ab mb cb)∧W.cell? ⟨q,3,none⟩=some (.slice ac mc cc)∧W.cell? ⟨q,4,none⟩=some (.bool cd)) (by kernel_rfl) (HCQ.out _ (Kept.drew _)) (fun hHeld=>?_);refine tkI 0 ?_;refine tkI 1 ?_;try simp only[nP]
  refine rd1 2 fun K9 hK9=>?_;go_simp;refine(HCK.out _ (Kept.drew _)).mono ?_;rintro e9 w9 ⟨rfl,k⟩;have K9W:=lH ((Kept.drew _).trans k);clear k;refine hK9.out _ _ (HCQ.out _ K9W.out) (fun hHeld87=>?_);clear hK9 K9;try simp only[nP]
  obtain rfl:ck=0:=by rw[←hck];exact HK0.out
  have HVG:=HP;refine rd1 3 fun K9 hK9=>?_;go_simp;refine(qX _ _ _ _ _ _ _ _ _ _ _ _).mono ?_;rintro e8 w8 ⟨rfl,k⟩;have K9W:=lH (K9W.out.trans k);clear k;refine hK9.out _ _ (HCQ.out _ K9W.out) (fun hHeld88=>?_);clear hK9 K9;try simp only[nP]
  obtain⟨⟨y0,y1,y2,y3,y4⟩,x0,x1,x2,x3,x4⟩:=HR0.out _ (KK.out.trans K9W.out);obtain⟨p0,p1,p2,p3,p4⟩:=HCQ.out _ K9W.out;have LD9:=LD.out.kept K9W.out;have KW9:=lH (KW.out.trans K9W.out);have hb:=qc w8 w.heap.size (.string (bytes a)) (.slice aa ma ca) (.slice ab mb cb) (.slice ac mc cc) (.bool cd);have hs:=jbf w8 w.heap.size (.string (bytes a)) (.slice aa ma ca) (.slice ab mb cb) (.slice ac mc cc) (.bool cd);have LE:=lH (show JJ w.heap.size (((((w8.setCell ⟨w.heap.size,0,none⟩ (.string (bytes a))).setCell ⟨w.heap.size,1,none⟩ (.slice aa ma ca)).setCell ⟨w.heap.size,2,none⟩ (.slice ab mb cb)).setCell ⟨w.heap.size,3,none⟩ (.slice ac mc cc)).setCell ⟨w.heap.size,4,none⟩ (.bool cd)) (.agg #[.string (bytes a),.slice aa ma ca,.slice ab mb cb,.slice ac mc cc,.bool cd]) ⟨bytes a,n1,n2,n3,cd⟩ from⟨_,_,_,_,_,_,_,_,_,rfl,LD9.size,LD9.cap.far hs (fun b o sp e=>hb b (GA.out b o sp e)),LD9.labels.far hs (fun b o sp e=>hb b (GB.out b o sp e)),LD9.taints.far hs (fun b o sp e=>hb b (GC.out b o sp e)),HGA.out,HGB.out,HGC.out⟩);have KE:=lH (show Kept w (((((w8.setCell ⟨w.heap.size,0,none⟩ (.string (bytes a))).setCell ⟨w.heap.size,1,none⟩ (.slice aa ma ca)).setCell ⟨w.heap.size,2,none⟩ (.slice ab mb cb)).setCell ⟨w.heap.size,3,none⟩ (.slice ac mc cc)).setCell ⟨w.heap.size,4,none⟩ (.bool cd)) from((((KW9.out.setCell (p:=⟨w.heap.size,0,none⟩) (Nat.le_refl _) _).setCell (p:=⟨w.heap.size,1,none⟩) (Nat.le_refl _) _).setCell (p:=⟨w.heap.size,2,none⟩) (Nat.le_refl _) _).setCell (p:=⟨w.heap.size,3,none⟩) (Nat.le_refl _) _).setCell (p:=⟨w.heap.size,4,none⟩) (Nat.le_refl _) _);have PS:=fun j v (h:w8.cell? ⟨q,j,none⟩=some v)=>(World.cell?_of_block (a:=⟨q,j,none⟩) (hb q hqr)).trans h;obtain⟨d0,d1,d2,d3,d4⟩:=jaG (u0:=.string (bytes a)) (u1:=.slice aa ma ca) (u2:=.slice ab mb cb) (u3:=.slice ac mc cc) (u4:=.bool cd) y0 y1 y2 y3 y4 _ rfl;have HPS:=lH (And.intro (PS 0 _ p0) (And.intro (PS 1 _ p1) (And.intro (PS 2 _ p2) (And.intro (PS 3 _ p3) (PS 4 _ p4)))));obtain⟨WE,hWE⟩:∃W,(((((w8.setCell ⟨w.heap.size,0,none⟩ (.string (bytes a))).setCell ⟨w.heap.size,1,none⟩ (.slice aa ma ca)).setCell ⟨w.heap.size,2,none⟩ (.slice ab mb cb)).setCell ⟨w.heap.size,3,none⟩ (.slice ac mc cc)).setCell ⟨w.heap.size,4,none⟩ (.bool cd))=W:=⟨_,rfl⟩
  rw[hWE] at LE KE HPS d0 d1 d2 d3 d4;clear PS hb hs LD9 p0 p1 p2 p3 p4 hHeld;refine rd1 4 fun K9 hK9=>?_;go_simp;try rw[hWE]
  refine hK9.out _ _ HPS.out (fun hHeld89=>?_);clear hK9 K9;try simp only[nP]
  refine wpAnyH_done (by kernel_rfl) ?_ _;clear y0 y1 y2 y3 y4 x0 x1 x2 x3 x4 hWE;go_wp2;(try simp only[Exit.inBlock,Exit.then])
  refine bodyPost_ret (by simp[results,Tryz.results125,go_sem,d0,d1,d2,d3,d4];try rfl) rfl ?_;exact Xz.good (by rw[HVG.out]) (by rw[HVG.out];exact LE.out) KE.out
theorem jkZ (C:Addr) (s:List UInt8) (w:World) (h1:w.cell? C=some (.string (bytes s))) (hE:Vec.EnvT w) (hs:s.length≤900000) (h0:(zj s).1=0) :
 Calls Tryz.prog 124 #[.pointer (some C)] w (Xz (zj s) w):=by
 obtain⟨Z,hZ⟩:∃Z,w.alloc (.cells #[.string ⟨#[]⟩,.slice none 0 0,.slice none 0 0,.slice none 0 0,.bool false] 42)=Z:=⟨_,rfl⟩
 have hk:Kept w Z:=by rw[←hZ];exact ja _ _
 have hzs:Z.heap.size=w.heap.size+1:=by rw[←hZ,World.size_alloc]
 have hc:=cell_later hk h1;have HP:=lH (jg1 s Z (hE.kept hk) hs h0);have HK:=lH hk;have HZ:=lH (fun W (kk:Kept Z W)=>YC w (.string ⟨#[]⟩) (.slice none 0 0) (.slice none 0 0) (.slice none 0 0) (.bool false) 42 W (by rw[hZ];exact kk));clear hE h1 hk hs;go_enter Tryz.func124,Tryz.ntmps124;go_wp2_with fail
 try rw[hZ]
 refine HP.out.mono ?_;rintro e w2 ⟨g0,g1,k⟩;have KK:=lH k;obtain⟨⟨y0,y1,y2,y3,y4⟩,x0,x1,x2,x3,x4⟩:=HZ.out _ k;have Y:=lH (And.intro y0 (And.intro y1 (And.intro y2 (And.intro y3 y4))));by_cases hx:(zj s).1=0
 · obtain⟨v,rfl,hn⟩:=g0 hx;have HX:=lH hx;have HN:=lH hn;obtain⟨a1,m1,c1,a2,m2,c2,a3,m3,c3,rfl,-⟩:=hn;have P:=lH (Xk Y.out (zj s).2.name a1 a2 a3 m1 c1 m2 c2 m3 c3 (zj s).2.cordon);clear g0 g1 k hx Y hZ;obtain⟨x,hxx⟩:∃x,(zj s).2.name=x:=⟨_,rfl⟩
   obtain⟨cd,hcd⟩:∃x,(zj s).2.cordon=x:=⟨_,rfl⟩
   rw[hxx,hcd] at P HN;rw[hxx,hcd];clear hxx hcd;go_wp2;obtain⟨WE,hWE⟩:∃W,(((((w2.setCell ⟨w.heap.size,0,none⟩ (.string x)).setCell ⟨w.heap.size,1,none⟩ (.slice a1 m1 c1)).setCell ⟨w.heap.size,2,none⟩ (.slice a2 m2 c2)).setCell ⟨w.heap.size,3,none⟩ (.slice a3 m3 c3)).setCell ⟨w.heap.size,4,none⟩ (.bool cd))=W:=⟨_,rfl⟩
   rw[hWE] at P ⊢;clear hWE y0 y1 y2 y3 y4 x0 x1 x2 x3 x4;obtain⟨⟨d0,d1,d2,d3,d4⟩,hsz,hbl,hkp⟩:=P.out;refine bodyPost_ret (by simp[results,Tryz.results124,go_sem,d0,d1,d2,d3,d4];try rfl) rfl ?_;exact Xz.good HX.out ((HN.out.far hsz (fun b hb=>hbl b (by omega))).less (by omega)) (hkp _ _ (Nat.le_refl _) (HK.out.trans KK.out))
 · exact absurd h0 hx
theorem jhi (s:List UInt8) (w:World) (hE:Vec.EnvT w) (hs:s.length≤900000) (h0:(zj s).1=0) :
 Calls Tryz.prog 85 #[.string (bytes s)] w (jmU (zj s) w):=by
 have hmf:=hmfL (P:=Tryz.prog);obtain⟨Z,hZ⟩:∃Z,(w.alloc (.cells #[.string (bytes s)] 9)).alloc (.cells #[.string ⟨#[]⟩,.slice none 0 0,.slice none 0 0,.slice none 0 0,.bool false] 42)=Z:=⟨_,rfl⟩
 have hkz:Kept w Z:=by rw[←hZ];exact jk _ _ _
 have hzs:Z.heap.size=w.heap.size+2:=by rw[←hZ];simp
 have hzc:Z.cell? ⟨w.heap.size,0,none⟩=some (.string (bytes s)):=by
  rw[←hZ];exact cell_later (ja _ _) (by have hh:=w.alloc_heap_new (.cells #[.string (bytes s)] 9);rw[Lib.cell_of_heap hh];rfl)
 have HK:=lH hkz;have HZ:=lH (fun W (kk:Kept Z W)=>YC (w.alloc (.cells #[.string (bytes s)] 9)) (.string ⟨#[]⟩) (.slice none 0 0) (.slice none 0 0) (.slice none 0 0) (.bool false) 42 W (by rw[hZ];exact kk));rw[World.size_alloc] at HZ;have HC:=lH (jhh ⟨w.heap.size,0,none⟩ (zj s) Z jh9 (fun W k=>jkZ ⟨w.heap.size,0,none⟩ s W (cell_later k hzc) (hE.kept (hkz.trans k)) hs h0));clear hE hs hzc;go_enter Tryz.func85,Tryz.ntmps85;go_wp2_with fail
 try rw[hZ]
 refine HC.out.mono ?_;rintro e w1 ⟨v,rfl,hn,k⟩;have KK:=lH k;have HN:=lH hn;obtain⟨⟨y0,y1,y2,y3,y4⟩,x0,x1,x2,x3,x4⟩:=HZ.out _ k;have Y:=lH (And.intro y0 (And.intro y1 (And.intro y2 (And.intro y3 y4))));obtain⟨a1,m1,c1,a2,m2,c2,a3,m3,c3,rfl,-⟩:=hn;have P:=lH (Xk Y.out (zj s).2.name a1 a2 a3 m1 c1 m2 c2 m3 c3 (zj s).2.cordon);obtain⟨x,hxx⟩:∃x,(zj s).2.name=x:=⟨_,rfl⟩
 obtain⟨cd,hcd⟩:∃x,(zj s).2.cordon=x:=⟨_,rfl⟩
 obtain⟨r1,hr1⟩:∃x,(zj s).1=x:=⟨_,rfl⟩
 obtain⟨r2,hr2⟩:∃x,(zj s).2=x:=⟨_,rfl⟩
 rw[hxx,hcd] at P HN;rw[hxx,hcd,hr1];rw[hr2] at HN;have HR:=lH (show zj s=(r1,r2) by rw[←hr1,←hr2]);clear hxx hcd hr1 hr2 k Y hZ;go_wp2;obtain⟨WE,hWE⟩:∃W,(((((w1.setCell ⟨w.heap.size+1,0,none⟩ (.string x)).setCell ⟨w.heap.size+1,1,none⟩ (.slice a1 m1 c1)).setCell ⟨w.heap.size+1,2,none⟩ (.slice a2 m2 c2)).setCell ⟨w.heap.size+1,3,none⟩ (.slice a3 m3 c3)).setCell ⟨w.heap.size+1,4,none⟩ (.bool cd))=W:=⟨_,rfl⟩
 rw[hWE] at P ⊢;clear hWE y0 y1 y2 y3 y4 x0 x1 x2 x3 x4;obtain⟨⟨d0,d1,d2,d3,d4⟩,hsz,hbl,hkp⟩:=P.out;refine bodyPost_ret (by simp[results,Tryz.results85,go_sem,d0,d1,d2,d3,d4];try rfl) rfl ?_;rw[HR.out];exact⟨_,rfl,(HN.out.far hsz (fun b hb=>hbl b (by omega))).less (by omega),hkp _ _ (Nat.le_succ _) (HK.out.trans KK.out)⟩
theorem Y5 (t:ByteArray):t.data.toList.length=t.size:=by rw[Array.length_toList,ByteArray.size_data]
theorem qf {n:Nod} (h:jU n=0) (hf:Vec.zp n.cap) (hs:(za n).size≤900000):Jv ([110,111,100,101]++32::(za n).data.toList) (.node n):=by
 refine .node _ n (by rw[Y5];exact hs) fun W hE=>?_;have:=jhi (za n).data.toList W hE.toEnvT (by rw[Y5];exact hs) (by rw[jdi h hf]);rw[jdi h hf] at this;exact this
theorem jbK {n:Pd} (h:zV n=0) (hf:Vec.zp n.need) (hs:(jY n).size≤900000):Jv ([112,111,100]++32::(jY n).data.toList) (.pod n):=by
 refine .pod _ n (by rw[Y5];exact hs) fun W hE=>?_;refine(jhV (jY n).data.toList n 0 W fun W' k=>jfM _ n 0 W' (hE.kept k) (by rw[Y5];exact hs) (jh5 h hf) h).mono ?_;rintro e w' ⟨v,he,hn,hk⟩;exact⟨v,he,hn,hk⟩
theorem jhH {n:Bd} (h:zx n=0):jmR (j5 n).data.toList n:=by
 have hz:=or_zero h;have c0:=hz _ (show Jz n.name ∈ [Jz n.name,zb n.sel,zc n.floor] by simp);have c1:=hz _ (show zb n.sel ∈ [Jz n.name,zb n.sel,zc n.floor] by simp);have c2:=hz _ (show zc n.floor ∈ [Jz n.name,zb n.sel,zc n.floor] by simp);have hn:isName n.name=true:=by
  unfold Jz at c0;split at c0
  · assumption
  · cases c0
 have hf:0≤n.floor∧n.floor≤128:=by
  unfold zc at c2;split at c2
  · cases c2
  · omega
 have he:(j5 n).data.toList=n.name.data.toList++32::((zD n.sel).data.toList++32::Lib.itoa n.floor):=by
  unfold j5;simp[ByteArray.data_append,bytes]
 obtain⟨u,hu⟩:∃u:Nat,n.floor=(u:Int):=⟨n.floor.toNat,by omega⟩
 have hi:X8 (Lib.itoa n.floor)=some n.floor∧(32:UInt8) ∉ Lib.itoa n.floor:=by
  rw[hu,jda];exact⟨jcX (by omega),jcf (by decide)⟩
 refine⟨n.name.data.toList,(zD n.sel).data.toList,Lib.itoa n.floor,?_,(jZ _).symm,jbd c1,hi.1⟩;rw[he,Zi _ _ (Jk hn),Zi _ _ (jlg c1),jaR hi.2]
theorem jeJ {n:Bd} (h:zx n=0) (hs:(j5 n).size≤900000):Jv ([98,117,100,103,101,116]++32::(j5 n).data.toList) (.bud n):=by
 refine .bud _ n (by rw[Y5];exact hs) fun W hE=>?_;refine(jhx (j5 n).data.toList n 0 W fun W' k=>jgz _ n 0 W' (hE.kept k) (by rw[Y5];exact hs) (jhH h) h).mono ?_;rintro e w' ⟨v,he,hn,hk⟩;exact⟨v,he,hn,hk⟩
theorem Jl {x:ByteArray} (h:isName x=true):(10:UInt8) ∉ x.data.toList:=fun e=>absurd (Ya h _ e) (by decide)
theorem jkW {l:Vec.V} (h:Vec.jm l=0):(10:UInt8) ∉ Vec.j7 l:=by
 intro e;by_cases h0:l=[]
 · subst h0;exact absurd e (by decide)
 · rw[Vec.je3 h h0] at e;rcases mem_join e with e | ⟨p,hp,e⟩
   · exact absurd e (by decide)
   · obtain⟨x,hx,rfl⟩:=List.mem_map.1 hp;have g:=Vec.Z5 h x hx;unfold Vec.partOf at e;rcases List.mem_append.1 e with e | e
     · exact Jl g.1 e
     · rcases List.mem_cons.1 e with e | e
       · exact absurd e (by decide)
       · have hi:Lib.itoa x.2=Lib.decDigits x.2.toNat:=by
          have:=g.2;unfold Lib.itoa;rw[if_neg (by omega)]
         rw[hi] at e;exact absurd (Vec.jax e) (by decide)
theorem jkQ {l:PL} (h:zE l=0):(10:UInt8) ∉ (zr l).data.toList:=by
 intro e;unfold zr at e;by_cases h0:l=[]
 · rw[if_pos h0] at e;exact absurd e (by decide)
 · rw[if_neg h0,ZJ,List.map_map] at e;rcases mem_join e with e | ⟨p,hp,e⟩
   · exact absurd e (by decide)
   · obtain⟨x,hx,rfl⟩:=List.mem_map.1 hp;have g:=jbY h x hx;have e':(10:UInt8) ∈ (zR x).data.toList:=e;unfold zR at e';rw[Zu] at e';rcases List.mem_append.1 e' with e | e
     · exact Jl g.1 e
     · rcases List.mem_cons.1 e with e | e
       · exact absurd e (by decide)
       · exact Jl g.2 e
theorem jov {l:NL} (h:Jg l=0):(10:UInt8) ∉ (zS l).data.toList:=by
 intro e;unfold zS at e;by_cases h0:l=[]
 · rw[if_pos h0] at e;exact absurd e (by decide)
 · rw[if_neg h0,ZJ,List.map_map] at e;rcases mem_join e with e | ⟨p,hp,e⟩
   · exact absurd e (by decide)
   · obtain⟨x,hx,rfl⟩:=List.mem_map.1 hp;have g:=jaO h x hx;have e':(10:UInt8) ∈ (zh x).data.toList:=e;have key:(10:UInt8) ∉ (x.1++⟨#[58]⟩++x.2.1).data.toList:=by
      intro e;rw[Zu] at e;rcases List.mem_append.1 e with e | e
      · exact Jl g.1 e
      · rcases List.mem_cons.1 e with e | e
        · exact absurd e (by decide)
        · exact Jl g.2 e
     unfold zh at e';by_cases hb:x.2.2=true
     · rw[if_pos hb,ByteArray.data_append,Array.toList_append] at e';rcases List.mem_append.1 e' with e | e
       · exact key e
       · exact absurd e (by decide)
     · rw[if_neg hb] at e';exact key e'
theorem jdV {x y:ByteArray} {c:UInt8} (hx:(10:UInt8) ∉ x.data.toList) (hy:(10:UInt8) ∉ y.data.toList) (hc:c≠10):(10:UInt8) ∉ (x++⟨#[c]⟩++y).data.toList:=by
 intro e;rw[Zu] at e;rcases List.mem_append.1 e with e | e
 · exact hx e
 · rcases List.mem_cons.1 e with e | e
   · exact hc e.symm
   · exact hy e
theorem jkh {l:TL} (h:zb l=0):(10:UInt8) ∉ (zD l).data.toList:=by
 have h2:JG l=0:=by
  unfold zb at h;split at h
  · cases h
  · exact h
 intro e;unfold zD at e;by_cases h0:l=[]
 · rw[if_pos h0] at e;exact absurd e (by decide)
 · rw[if_neg h0,ZJ,List.map_map] at e;rcases mem_join e with e | ⟨p,hp,e⟩
   · exact absurd e (by decide)
   · obtain⟨x,hx,rfl⟩:=List.mem_map.1 hp;have g:=jaj h2 x hx;have e':(10:UInt8) ∈ (zK x).data.toList:=e;unfold Ja at g;unfold zK at e';by_cases o12:x.1=1∨x.1=2
     · rw[if_pos o12] at g;split at g
       · rename_i g2;rw[Bool.and_eq_true] at g2;by_cases o1:x.1=1
         · rw[if_pos o1] at e';exact jdV (Jl g2.1) (Jl g2.2) (by decide) e'
         · rw[if_neg o1,if_pos (o12.resolve_left o1)] at e';exact jdV (Jl g2.1) (Jl g2.2) (by decide) e'
       · cases g
     · rw[if_neg o12] at g;rw[if_neg (fun a=>o12 (.inl a)),if_neg (fun a=>o12 (.inr a))] at e';by_cases o34:x.1=3∨x.1=4
       · rw[if_pos o34] at g;split at g
         · rename_i g2;rw[Bool.and_eq_true] at g2;by_cases o4:x.1=4
           · rw[if_pos o4,ByteArray.data_append,Array.toList_append] at e';rcases List.mem_append.1 e' with e | e
             · exact absurd e (by decide)
             · exact Jl g2.1 e
           · rw[if_neg o4] at e';exact Jl g2.1 e'
         · cases g
       · rw[if_neg o34] at g;cases g
theorem job {l:NL} (h:zw l=0):(10:UInt8) ∉ (Jh l).data.toList:=by
 intro e;unfold Jh at e;by_cases h0:l=[]
 · rw[if_pos h0] at e;exact absurd e (by decide)
 · rw[if_neg h0,ZJ,List.map_map] at e;rcases mem_join e with e | ⟨p,hp,e⟩
   · exact absurd e (by decide)
   · obtain⟨x,hx,rfl⟩:=List.mem_map.1 hp;have g:=jaW h x hx;have e':(10:UInt8) ∈ (Jx x).data.toList:=e;unfold zm at g;rw[Bool.and_eq_true] at g;have st:(10:UInt8) ∉ (JI x.1).data.toList:=by
      unfold JI;split
      · decide
      · rename_i q;have g1:=g.1;have q:Zj x.1=false:=by simpa using q
        rw[q] at g1;exact Jl (by simpa using g1)
     unfold Jx at e';by_cases m:x.2.2=true
     · rw[if_pos m] at e';exact st e'
     · rw[if_neg m] at e';have g2:=g.2;rw[if_neg m] at g2;exact jdV st (Jl g2) (by decide) e'
theorem jkg {x:ByteArray} (h:zP x=true):(10:UInt8) ∉ (Ze x).data.toList:=by
 unfold Ze;rcases nameOr_cases h with ⟨h1,rfl⟩ | ⟨h1,h2⟩
 · rw[if_pos h1];decide
 · rw[if_neg (by rw[h1];decide)];exact Jl h2
theorem jev {m:Int}:(10:UInt8) ∉ Lib.itoa m:=by
 intro e;unfold Lib.itoa at e;split at e
 · rcases List.mem_cons.1 e with e | e
   · exact absurd e (by decide)
   · exact jcf (by decide) e
 · exact jcf (by decide) e
theorem jkm {k:ByteArray} {m:Int} (h:zP k=true):(10:UInt8) ∉ (zY k m).data.toList:=by
 unfold zY;rcases nameOr_cases h with ⟨h1,rfl⟩ | ⟨h1,h2⟩
 · rw[if_pos h1];decide
 · rw[if_neg (by rw[h1];decide)];refine jdV (Jl h2) ?_ (by decide);show (10:UInt8) ∉ (bytes (Lib.itoa m)).data.toList;simpa [bytes] using jev
theorem jmW (b:Bool):(10:UInt8) ∉ (Xl b).data.toList:=by cases b<;>decide
theorem jnA (b:Bool):(10:UInt8) ∉ (YX b).data.toList:=by cases b<;>decide
theorem ZR {x y:List UInt8} (hx:(10:UInt8) ∉ x) (hy:(10:UInt8) ∉ y):(10:UInt8) ∉ x++32::y:=by
 intro e;rcases List.mem_append.1 e with e | e
 · exact hx e
 · rcases List.mem_cons.1 e with e | e
   · exact absurd e (by decide)
   · exact hy e
theorem jnL {n:Nod} (h:jU n=0):(10:UInt8) ∉ (za n).data.toList:=by
 obtain⟨g1,g2,g3,g4⟩:=Z5 h;have hd:(za n).data.toList=n.name.data.toList++32::(Vec.j7 n.cap++32::((zr n.labels).data.toList++32::((zS n.taints).data.toList++32::(YX n.cordon).data.toList))):=by
  unfold za;simp[ByteArray.data_append,bytes]
 rw[hd];exact ZR (Jl g1) (ZR (jkW g2) (ZR (jkQ g3) (ZR (jov g4) (jnA _))))
theorem jnW {n:Bd} (h:zx n=0):(10:UInt8) ∉ (j5 n).data.toList:=by
 have hz:=or_zero h;have c0:=hz _ (show Jz n.name ∈ [Jz n.name,zb n.sel,zc n.floor] by simp);have c1:=hz _ (show zb n.sel ∈ [Jz n.name,zb n.sel,zc n.floor] by simp);have hn:isName n.name=true:=by
  unfold Jz at c0;split at c0
  · assumption
  · cases c0
 have he:(j5 n).data.toList=n.name.data.toList++32::((zD n.sel).data.toList++32::Lib.itoa n.floor):=by
  unfold j5;simp[ByteArray.data_append,bytes]
 rw[he];exact ZR (Jl hn) (ZR (jkh c1) jev)
theorem joj {n:Pd} (h:zV n=0):(10:UInt8) ∉ (jY n).data.toList:=by
 have hz:=or_zero h;have c0:=hz _ (show Zc n.name n.owner ∈ jE n by simp[jE]);have c2:=hz _ (show Vec.jm n.need ∈ jE n by simp[jE]);have c3:=hz _ (show zE n.labels ∈ jE n by simp[jE]);have c4:=hz _ (show zb n.sel ∈ jE n by simp[jE]);have c5:=hz _ (show zw n.tols ∈ jE n by simp[jE]);have c6:=hz _ (show zG n.key n.most ∈ jE n by simp[jE]);have c7:=hz _ (show ZD n.node ∈ jE n by simp[jE]);have hn:isName n.name=true∧zP n.owner=true:=by
  unfold Zc at c0;split at c0
  · assumption
  · cases c0
 have hd:zP n.node=true:=by
  unfold ZD at c7;split at c7
  · assumption
  · cases c7
 have hk:zP n.key=true:=by
  unfold zG at c6;by_cases q:zP n.key=false
  · rw[if_pos q] at c6;cases c6
  · simpa using q
 have he:(jY n).data.toList=n.name.data.toList++32::((Ze n.owner).data.toList++32::(Lib.itoa n.prio++32::(Vec.j7 n.need++32::((zr n.labels).data.toList++32::((zD n.sel).data.toList++32::((Jh n.tols).data.toList++32::((zY n.key n.most).data.toList++32::((Ze n.node).data.toList++32::(Xl n.hold).data.toList)))))))):=by
  unfold jY jbG;rw[jaH];simp[ByteArray.data_append,bytes]
 rw[he];exact ZR (Jl hn.1) (ZR (jkg hn.2) (ZR jev (ZR (jkW c2) (ZR (jkQ c3) (ZR (jkh c4) (ZR (job c5) (ZR (jkm hk) (ZR (jkg hd) (jmW _)))))))))
end Go.Proofs.YthmddloeggdohaaGreatDoor
