/- What serves all packages,and package by package the contracts of the functions that the law calls. -/
import Derived.Test.YtgfoenfaohhjcaaG0
import Derived.Test.YtgfoenfaohhjcaaG1
import Derived.Test.YtgfoenfaohhjcaaG2
import Derived.Test.YtgfoenfaohhjcaaG3
set_option linter.unusedVariables false
set_option maxRecDepth 100000
set_option maxHeartbeats 25600000
namespace Go.Proofs.Ytgfoenfaohhjcaa
open Go.RowKit
def JS (s:Clu):Bool:=decide (s.nodes.length≤34)&&(decide (s.pods.length≤130)&&(zG s.buds&&(s.nodes.all zM&&s.pods.all j5)))
theorem Zk {a:Option Addr} {len cap:Nat} {l:List Nod} {w:World} (h1:len≤cap) (h2:cap≤maxLen) (h:jt w a len l):j4 w (.slice a len cap) l:=⟨a,cap,by rw[h.1],by rw[h.1];exact h1,h2,by rw[h.1];exact h⟩
theorem qK {a:Option Addr} {len cap:Nat} {l:List Pd} {w:World} (h1:len≤cap) (h2:cap≤maxLen) (h:jP w a len l):zu w (.slice a len cap) l:=⟨a,cap,by rw[h.1],by rw[h.1];exact h1,h2,by rw[h.1];exact h⟩
theorem YK {a:Option Addr} {len cap:Nat} {l:List Bd} {w:World} (h1:len≤cap) (h2:cap≤maxLen) (h:zj w a len l):zp w (.slice a len cap) l:=⟨a,cap,by rw[h.1],by rw[h.1];exact h1,h2,by rw[h.1];exact h⟩
theorem qU {α:Type} {f:α→Bool} {l:List α} {k:Nat} {x:α} (hd:l.drop k=x::l.drop (k+1)) (h:f x=true) (hr:(l.drop k).all f=l.all f):(l.drop (k+1)).all f=l.all f:=by
 rw[←hr,hd,List.all_cons,h,Bool.true_and]
theorem X0 {α:Type} {f:α→Bool} {l:List α} {k:Nat} {x:α} (hd:l.drop k=x::l.drop (k+1)) (h:f x=false) (hr:(l.drop k).all f=l.all f):l.all f=false:=by
 rw[←hr,hd,List.all_cons,h,Bool.false_and]
theorem qM {α:Type} {f:α→Bool} {l:List α} {k:Nat} (h:l.length≤k) (hr:(l.drop k).all f=l.all f):l.all f=true:=by
 rw[←hr,List.drop_of_length_le h];rfl
theorem jdg {v:Value} {s:Clu} {c:Bool} {w:World} (h:zU w v s) (hc:JS s=c):Calls Try.prog 27 #[v] w (Say (.bool c) w):=by
 subst hc;obtain⟨v1,v2,v3,rfl,⟨a,cap,rfl,l1,m1,h1⟩,⟨b,cp,rfl,l2,m2,h2⟩,⟨d,cb,rfl,l3,m3,h3⟩⟩:=h;obtain⟨nl,pl,bl⟩:=s;dsimp only at *;obtain⟨len,hlen⟩:∃q,nl.length=q:=⟨_,rfl⟩
 obtain⟨m,hm⟩:∃q,pl.length=q:=⟨_,rfl⟩
 obtain⟨n,hn⟩:∃q,bl.length=q:=⟨_,rfl⟩
 rw[hlen] at h1 l1;rw[hm] at h2 l2;rw[hn] at h3 l3;try rw[hlen]
 try rw[hm]
 try rw[hn]
 skip;obtain⟨Z,hZ⟩:∃Z,w.alloc (.cells #[.slice a len cap,.slice b m cp,.slice d n cb] 26)=Z:=⟨_,rfl⟩
 have hkz:Kept w Z:=by rw[←hZ];exact ja _ _
 have HQ:=lH (show jg w.heap.size [.slice a len cap,.slice b m cp,.slice d n cb] Z from jf w (.slice a len cap) [.slice b m cp,.slice d n cb] 26 Z (by rw[hZ];exact Kept.refl _));obtain⟨e3,he3⟩:∃e,zG bl=e:=⟨_,rfl⟩
 have HB:=lH (jdk (YK l3 m3 (h3.kept hkz)) he3);have HV:=lH (show JS ⟨nl,pl,bl⟩=(decide (len≤34)&&(decide (m≤130)&&(e3&&(nl.all zM&&pl.all j5)))) by unfold JS;dsimp only;rw[hlen,hm,he3]);have HN:=lH (h1.kept hkz);have HP:=lH (h2.kept hkz);have HKZ:=lH hkz;have HM1:=lH (Nat.le_trans l1 m1);have HM2:=lH (Nat.le_trans l2 m2);have HL1:=lH hlen;have HL2:=lH hm;have hml1:=Nat.le_trans l1 m1;have hml2:=Nat.le_trans l2 m2;unfold maxLen at hml1 hml2;clear h1 h2 h3 l1 l2 l3 m1 m2 m3 he3 hkz;have cq0:=HQ.out.at_ 0 _ rfl;have cq1:=HQ.out.at_ 1 _ rfl;have cq2:=HQ.out.at_ 2 _ rfl;by_cases hA:34<len
 · have HX:=lH (HV.out.trans (by rw[decide_eq_false (show ¬len≤34 by omega),Bool.false_and]));have hA':(34:Int)<(len:Int):=by omega
   rw[HX.out];go_enter Try.func27,Try.ntmps27;go_wp2;try rw[hZ]
   go_ret;exact⟨rfl,HKZ.out⟩
 by_cases hB:130<m
 · have HX:=lH (HV.out.trans (by rw[decide_eq_true (show len≤34 by omega),decide_eq_false (show ¬m≤130 by omega),Bool.false_and,Bool.and_false]));have hA':¬(34:Int)<(len:Int):=by omega
   have hB':(130:Int)<(m:Int):=by omega
   rw[HX.out];go_enter Try.func27,Try.ntmps27;go_wp2;try rw[hZ]
   go_ret;exact⟨rfl,HKZ.out⟩
 have hA':¬(34:Int)<(len:Int):=by omega
 have hB':¬(130:Int)<(m:Int):=by omega
 have HX:=lH (HV.out.trans (by rw[decide_eq_true (show len≤34 by omega),decide_eq_true (show m≤130 by omega),Bool.true_and,Bool.true_and]));rw[HX.out];clear HV HX;go_enter Try.func27,Try.ntmps27;go_wp2_with fail
 try rw[hZ]
 clear hZ;refine HB.out.mono ?_;rintro e w1 ⟨rfl,kk⟩;have KW:=lH kk;clear kk cq0 cq1 cq2 HB
 cases e3 with
 | false =>
  go_wp2;go_ret;exact⟨rfl,HKZ.out.trans KW.out⟩
 | true =>
  have cq0:=(HQ.out.kept KW.out).at_ 0 _ rfl;have cq1:=(HQ.out.kept KW.out).at_ 1 _ rfl;have cq2:=(HQ.out.kept KW.out).at_ 2 _ rfl;go_wp2;go_loopw [3] (fun i wr=>∃k:Nat,k≤len∧i=.int .i64 k∧(nl.drop k).all zM=nl.all zM∧Kept Z wr) (fun i _=>len-(intOf i).toNat)
  case atStart=>exact⟨0,Nat.zero_le _,rfl,rfl,KW.out⟩
  case round =>
   clear cq0 cq1 cq2;obtain⟨k,hk,rfl,hrest,hK⟩:=hrel;have HS:=lH hrest;have KN:=lH hK;have cq0:=(HQ.out.kept hK).at_ 0 _ rfl;have cq1:=(HQ.out.kept hK).at_ 1 _ rfl;have cq2:=(HQ.out.kept hK).at_ 2 _ rfl;by_cases hlt:k<len
   · obtain⟨b9,off,rfl⟩:=HN.out.form.resolve_left (by omega);obtain⟨n9,x1,y1,z1,x2,y2,z2,x3,y3,z3,hn,hd,hb,p0,p1,p2,p3,p4,hat⟩:=(HN.out.kept hK).at_ hlt;have HD:=lH hd;obtain⟨t,ht⟩:∃t,zM n9=t:=⟨_,rfl⟩
     have HT:=lH ht;have HC:=lH (show Calls Try.prog 55 #[zR n9 (.slice x1 y1 z1) (.slice x2 y2 z2) (.slice x3 y3 z3)] wr (Say (.bool t) wr) from jcB ⟨_,_,_,rfl,hat⟩ ht);unfold zR at HC;have hkk:(k:Int)<(len:Int):=by omega
     clear hrest hK hat hn hd ht
     cases t with
     | false =>
      have HF:=lH (X0 HD.out HT.out HS.out);go_wp2_with fail
      refine HC.out.mono ?_;rintro e w9 ⟨rfl,kk⟩;have KW:=lH (KN.out.trans kk);clear kk;go_wp2;go_ret;exact⟨by rw[HF.out];simp,HKZ.out.trans KW.out⟩
     | true =>
      have HF:=lH (qU HD.out HT.out HS.out);go_wp2_with fail
      refine HC.out.mono ?_;rintro e w9 ⟨rfl,kk⟩;have KW:=lH (KN.out.trans kk);clear kk cq0 cq1 cq2;go_wp2;go_roundw
      case rel=>exact⟨k+1,by omega,by go_num,HF.out,KW.out⟩
      case measure=>simp[intOf];omega
   · have HL1F:=lH (qM (by rw[HL1.out];omega) hrest);have hkk:¬(k:Int)<(len:Int):=by omega
     clear hrest hK;clear cq0 cq1 cq2;have cq0:=(HQ.out.kept KN.out).at_ 0 _ rfl;have cq1:=(HQ.out.kept KN.out).at_ 1 _ rfl;have cq2:=(HQ.out.kept KN.out).at_ 2 _ rfl;go_wp2;go_loopw [4] (fun i wr=>∃k:Nat,k≤m∧i=.int .i64 k∧(pl.drop k).all j5=pl.all j5∧Kept Z wr) (fun i _=>m-(intOf i).toNat)
     case atStart=>exact⟨0,Nat.zero_le _,rfl,rfl,KN.out⟩
     case round =>
      clear cq0 cq1 cq2;obtain⟨k,hk,rfl,hrest,hK⟩:=hrel;have HS:=lH hrest;have KP:=lH hK;have cq0:=(HQ.out.kept hK).at_ 0 _ rfl;have cq1:=(HQ.out.kept hK).at_ 1 _ rfl;have cq2:=(HQ.out.kept hK).at_ 2 _ rfl;by_cases hlt:k<m
      · obtain⟨b9,off,rfl⟩:=HP.out.form.resolve_left (by omega);obtain⟨n9,x1,y1,z1,x2,y2,z2,x3,y3,z3,x4,y4,z4,hn,hd,hb,p0,p1,p2,p3,p4,p5,p6,p7,p8,p9,p10,hat⟩:=(HP.out.kept hK).at_ hlt;have HD:=lH hd;obtain⟨t,ht⟩:∃t,j5 n9=t:=⟨_,rfl⟩
        have HT:=lH ht;have HC:=lH (show Calls Try.prog 8 #[j2 n9 (.slice x1 y1 z1) (.slice x2 y2 z2) (.slice x3 y3 z3) (.slice x4 y4 z4)] wr (Say (.bool t) wr) from jc9 ⟨_,_,_,_,rfl,hat⟩ ht);unfold j2 at HC;have hkk:(k:Int)<(m:Int):=by omega
        clear hrest hK hat hn hd ht
        cases t with
        | false =>
         have HF:=lH (X0 HD.out HT.out HS.out);go_wp2_with fail
         refine HC.out.mono ?_;rintro e w9 ⟨rfl,kk⟩;have KW:=lH (KP.out.trans kk);clear kk;go_wp2;go_ret;exact⟨by rw[HF.out];simp,HKZ.out.trans KW.out⟩
        | true =>
         have HF:=lH (qU HD.out HT.out HS.out);go_wp2_with fail
         refine HC.out.mono ?_;rintro e w9 ⟨rfl,kk⟩;have KW:=lH (KP.out.trans kk);clear kk cq0 cq1 cq2;go_wp2;go_roundw
         case rel=>exact⟨k+1,by omega,by go_num,HF.out,KW.out⟩
         case measure=>simp[intOf];omega
      · have HL2F:=lH (qM (by rw[HL2.out];omega) hrest);have hkk:¬(k:Int)<(m:Int):=by omega
        clear hrest hK;go_wp2;go_ret;exact⟨by rw[HL1F.out,HL2F.out];rfl,HKZ.out.trans KP.out⟩
theorem jaG (a:Option Addr) (len cap:Nat) (l:List Nod) (x:ByteArray) (w:World) (hr:jt w a len l) :
 Calls Try.prog 47 #[.slice a len cap,.string x] w fun e w'=>∃v,e=.returned (.tuple #[v,.bool (jX l x).isSome])∧Ya w' v ((jX l x).getD Nod.zero)∧Kept w w':=by
 have hl:=hr.1;have hm:=hr.2.1;unfold maxLen at hm;obtain⟨Z,hZ⟩:∃Z,w.alloc (.cells #[.string ⟨#[]⟩,.slice none 0 0,.slice none 0 0,.slice none 0 0,.bool false] 99)=Z:=⟨_,rfl⟩
 have hkz:Kept w Z:=by rw[←hZ];exact ja _ _
 have HQ:=lH (show zB w.heap.size (.string ⟨#[]⟩) (.slice none 0 0) (.slice none 0 0) (.slice none 0 0) (.bool false) Z from Yy w _ _ _ _ _ 99 Z (by rw[hZ];exact Kept.refl _));have HH:=lH (show Z.heap[w.heap.size]?=some (.cells #[.string ⟨#[]⟩,.slice none 0 0,.slice none 0 0,.slice none 0 0,.bool false] 99) by rw[←hZ];exact w.alloc_heap_new _);have HKZ:=lH hkz;have HR:=lH (hr.kept hkz);have HL:=lH hl;obtain⟨⟨y0,y1,y2,y3,y4⟩,x0,x1,x2,x3,x4⟩:=HQ.out;have P0:=lH (YB ⟨y0,y1,y2,y3,y4⟩ ⟨#[]⟩ none none none 0 0 0 0 0 0 false);by_cases h0:len=0
 · subst h0;have hl0:l=[]:=List.eq_nil_of_length_eq_zero hl;have HF:=lH (show jX l x=none by rw[hl0];rfl);clear hr hl hkz;go_enter Try.func47,Try.ntmps47;go_wp2;try rw[hZ]
   clear hZ;refine wp_loop_rounds 1 ?_;rw[rounds_succ];go_wp2;obtain⟨WE,hWE⟩:∃W,(((((Z.setCell ⟨w.heap.size,0,none⟩ (.string ⟨#[]⟩)).setCell ⟨w.heap.size,1,none⟩ (.slice none 0 0)).setCell ⟨w.heap.size,2,none⟩ (.slice none 0 0)).setCell ⟨w.heap.size,3,none⟩ (.slice none 0 0)).setCell ⟨w.heap.size,4,none⟩ (.bool false))=W:=⟨_,rfl⟩
   rw[hWE] at P0 ⊢;clear hWE y0 y1 y2 y3 y4 x0 x1 x2 x3 x4;obtain⟨⟨e0,e1,e2,e3,e4⟩,hsz,hbl,hkp⟩:=P0.out;refine bodyPost_ret (by simp[results,Try.results47,go_sem,e0,e1,e2,e3,e4];try rfl) rfl ?_;rw[HF.out];exact⟨_,rfl,(Yn 0 _).toR,hkp _ _ (Nat.le_refl _) HKZ.out⟩
 · obtain⟨b,off,rfl⟩:=hr.form.resolve_left h0;clear hr hl hkz h0;go_enter Try.func47,Try.ntmps47;go_wp2;try rw[hZ]
   clear hZ;go_loop [6] (fun i=>∃k:Nat,k≤len∧i=.int .i64 k∧jX (l.drop k) x=jX l x) (fun i=>len-(intOf i).toNat)
   case atStart=>exact⟨0,Nat.zero_le _,rfl,rfl⟩
   case round =>
    obtain⟨k,hk,rfl,hrest⟩:=hrel;have HS:=lH hrest;by_cases hlt:k<len
    · obtain⟨n,a1,m1,c1,a2,m2,c2,a3,m3,c3,hn,hd,hb,p0,p1,p2,p3,p4,hat⟩:=HR.out.at_ hlt;have HAT:=lH hat;have HD:=lH hd;clear hrest hat hd hn;by_cases he:eqS n.name x=true
      · have he':(n.name.toList==x.toList)=true:=he;have HF:=lH (show jX l x=some n by rw[←HS.out,HD.out];unfold jX;rw[List.find?_cons,he]);have P:=lH (YB ⟨y0,y1,y2,y3,y4⟩ n.name a1 a2 a3 m1 c1 m2 c2 m3 c3 n.cordon);obtain⟨⟨z,l1,l2,l3,cd⟩,hnn⟩:∃m,m=n:=⟨n,rfl⟩
        subst hnn;dsimp only at P he' p0 p4;clear he;go_wp2;obtain⟨WE,hWE⟩:∃W,(((((Z.setCell ⟨w.heap.size,0,none⟩ (.string z)).setCell ⟨w.heap.size,1,none⟩ (.slice a1 m1 c1)).setCell ⟨w.heap.size,2,none⟩ (.slice a2 m2 c2)).setCell ⟨w.heap.size,3,none⟩ (.slice a3 m3 c3)).setCell ⟨w.heap.size,4,none⟩ (.bool cd))=W:=⟨_,rfl⟩
        rw[hWE] at P ⊢;clear hWE y0 y1 y2 y3 y4 x0 x1 x2 x3 x4;obtain⟨⟨e0,e1,e2,e3,e4⟩,hsz,hbl,hkp⟩:=P.out;refine bodyPost_ret (by simp[results,Try.results47,go_sem,e0,e1,e2,e3,e4];try rfl) rfl ?_;rw[HF.out];exact⟨_,rfl,⟨_,_,_,rfl,ZG HAT.out hsz hbl (jbt HH.out)⟩,hkp _ _ (Nat.le_refl _) HKZ.out⟩
      · have he:eqS n.name x=false:=by simpa using he
        have he':(n.name.toList==x.toList)=false:=he;have HE:=lH (show jX (l.drop k) x=jX (l.drop (k+1)) x by rw[HD.out];unfold jX;rw[List.find?_cons,he]);clear he;go_wp2;go_round
        case rel=>exact⟨k+1,by omega,by go_num,HE.out.symm.trans HS.out⟩
        case measure=>simp[intOf];omega
    · have HF:=lH (show jX l x=none by rw[←hrest,List.drop_of_length_le (by rw[HL.out];omega)];rfl);clear hrest;go_wp2;obtain⟨WE,hWE⟩:∃W,(((((Z.setCell ⟨w.heap.size,0,none⟩ (.string ⟨#[]⟩)).setCell ⟨w.heap.size,1,none⟩ (.slice none 0 0)).setCell ⟨w.heap.size,2,none⟩ (.slice none 0 0)).setCell ⟨w.heap.size,3,none⟩ (.slice none 0 0)).setCell ⟨w.heap.size,4,none⟩ (.bool false))=W:=⟨_,rfl⟩
      rw[hWE] at P0 ⊢;clear hWE y0 y1 y2 y3 y4 x0 x1 x2 x3 x4;obtain⟨⟨e0,e1,e2,e3,e4⟩,hsz,hbl,hkp⟩:=P0.out;refine bodyPost_ret (by simp[results,Try.results47,go_sem,e0,e1,e2,e3,e4];try rfl) rfl ?_;rw[HF.out];exact⟨_,rfl,(Yn 0 _).toR,hkp _ _ (Nat.le_refl _) HKZ.out⟩
theorem jbj {v:Value} {l:List Nod} {x:ByteArray} {w:World} (h:j4 w v l) :
 Calls Try.prog 47 #[v,.string x] w fun e w'=>∃v,e=.returned (.tuple #[v,.bool (jX l x).isSome])∧Ya w' v ((jX l x).getD Nod.zero)∧Kept w w':=by
 obtain⟨a,cap,rfl,_,_,hr⟩:=h;exact jaG a _ cap l x w hr
end Go.Proofs.Ytgfoenfaohhjcaa
namespace Go.Proofs.Ytgfoenfaohhjcaa.Vec
open Go.RowKit
def ju:Nat→V→V→List ByteArray
 | 0,_,_=>[]
 | fuel+1,la,lb =>
  if la.length+lb.length=0 then []
  else jI la lb::ju fuel (zc la (jI la lb)).2 (zc lb (jI la lb)).2
def zh (f:Int→Int→Int×Int) (la lb:V):List ByteArray→V→Int×V
 | [],acc=>(0,acc)
 | n::t,acc=>if (f (jk la n) (jk lb n)).2≠0 then ((f (jk la n) (jk lb n)).2,[]) else zh f la lb t (Xo acc n (f (jk la n) (jk lb n)).1)
theorem JW {l:V} {s:ByteArray}:∀y ∈ (zc l s).2,y ∈ l:=by
 cases l with
 | nil=>intro y hy;exact hy
 | cons x t =>
  rw[j3];split
  · exact fun y hy=>List.mem_cons_of_mem _ hy
  · exact fun y hy=>hy
theorem ZF {la lb:V} (h:0<la.length+lb.length):(∃y ∈ la,y.1=jI la lb)∨(∃y ∈ lb,y.1=jI la lb):=by
 cases la with
 | nil =>
  cases lb with
  | nil=>simp at h
  | cons y t=>exact .inr ⟨y,by simp,rfl⟩
 | cons x s =>
  cases lb with
  | nil=>exact .inl ⟨x,by simp,rfl⟩
  | cons y t =>
   rw[zC];split
   · exact .inr ⟨y,by simp,rfl⟩
   · exact .inl ⟨x,by simp,rfl⟩
theorem Yw (f:Int→Int→Int×Int) (la0 lb0:V):∀(fuel:Nat) (la lb acc:V),Gd la→Gd lb →
 (∀n,((∃y ∈ la,y.1=n)∨(∃y ∈ lb,y.1=n))→jk la0 n=jk la n∧jk lb0 n=jk lb n) →
 zh f la0 lb0 (ju fuel la lb) acc=Zm f fuel la lb acc
 | 0,_,_,_,_,_,_=>rfl
 | fuel+1,la,lb,acc,ha,hb,h=>by
  unfold ju Zm;by_cases h0:la.length+lb.length=0
  · rw[if_pos h0,if_pos h0];rfl
  · rw[if_neg h0,if_neg h0];obtain⟨hs,hsa,hsb,_⟩:=Xn ha hb (by omega);have hm:=h _ (ZF (la:=la) (lb:=lb) (by omega));obtain⟨s,es⟩:∃s,jI la lb=s:=⟨_,rfl⟩
    rw[es] at hs hsa hsb hm ⊢;obtain⟨a1,a2,a3,a4,_⟩:=Xg ha hsa;obtain⟨b1,b2,b3,b4,_⟩:=Xg hb hsb;rw[zh];dsimp only;rw[hm.1,hm.2,a1,b1];split
    · rfl
    · refine Yw f la0 lb0 fuel _ _ _ a2 b2 fun n hn=>?_;have hne:n≠s:=by
       rcases hn with ⟨y,hy,rfl⟩ | ⟨y,hy,rfl⟩
       · exact(JX (a3 y hy)).symm
       · exact(JX (b3 y hy)).symm
      rw[a4 n hne,b4 n hne];refine h n (hn.imp ?_ ?_)
      · rintro ⟨y,hy,e⟩;exact⟨y,JW y hy,e⟩
      · rintro ⟨y,hy,e⟩;exact⟨y,JW y hy,e⟩
theorem qz (f:Int→Int→Int×Int) {l l':V} (h:jo l=0) (h':jo l'=0) (hf:zo l) (hf':zo l') :
 jA f l l'=(let r:=zh f l l' (ju (l.length+l'.length) l l') [];if r.1≠0 then (r.1,[]) else if 8<r.2.length then (4,[]) else (0,r.2)):=by
 rw[jA,if_neg (by rw[h];decide),if_neg (by rw[h'];decide),Yw f l l' _ l l' [] (JL h hf) (JL h' hf') (fun n _=>⟨rfl,rfl⟩)]
theorem jbe {fuel:Nat} {la lb:V} (h:la.length+lb.length=0):ju fuel la lb=[]:=by
 cases fuel with
 | zero=>rfl
 | succ n=>rw[ju,if_pos h]
theorem Yi {fuel:Nat} {l l':V} {i k:Nat} (hi:i<l.length) (h:¬k<l'.length∨(k<l'.length∧ltS (nm l i) (nm l' k)=true)) :
 ju (fuel+1) (l.drop i) (l'.drop k)=nm l i::ju fuel (l.drop (i+1)) (l'.drop k):=by
 rw[ju,if_neg (by simp only[List.length_drop];omega),drop_cons hi];rcases h with h | ⟨h,e⟩
 · rw[List.drop_of_length_le (l:=l') (by omega)];have e1:jI ((nm l i,qn l i)::l.drop (i+1)) []=nm l i:=rfl;rw[e1,j3,if_pos (jB.2 rfl)];rfl
 · rw[drop_cons h];have e2:ltS (nm l' k) (nm l i)=false:=by
    cases e3:ltS (nm l' k) (nm l i) with
    | false=>rfl
    | true=>exact(Y9 e e3).elim
   rw[zC,if_neg (by rw[e2];decide),j3,if_pos (jB.2 rfl),j3,if_neg (fun c=>JX e (jB.1 c).symm)]
theorem ZW {fuel:Nat} {l l':V} {i k:Nat} (hk:k<l'.length) (h:¬i<l.length∨(i<l.length∧ltS (nm l' k) (nm l i)=true)) :
 ju (fuel+1) (l.drop i) (l'.drop k)=nm l' k::ju fuel (l.drop i) (l'.drop (k+1)):=by
 rw[ju,if_neg (by simp only[List.length_drop];omega),drop_cons hk];rcases h with h | ⟨h,e⟩
 · rw[List.drop_of_length_le (l:=l) (by omega)];have e1:jI [] ((nm l' k,qn l' k)::l'.drop (k+1))=nm l' k:=rfl;rw[e1,j3,if_pos (jB.2 rfl)];rfl
 · rw[drop_cons h];rw[zC,if_pos e,j3 (nm l' k,qn l' k),if_pos (jB.2 rfl),j3,if_neg (fun c=>JX e (jB.1 c).symm)]
theorem jbf {fuel:Nat} {l l':V} {i k:Nat} (hi:i<l.length) (hk:k<l'.length) (h1:ltS (nm l i) (nm l' k)=false) (h2:ltS (nm l' k) (nm l i)=false) :
 ju (fuel+1) (l.drop i) (l'.drop k)=nm l i::ju fuel (l.drop (i+1)) (l'.drop (k+1)):=by
 have e:=YE h1 h2;rw[ju,if_neg (by simp only[List.length_drop];omega),drop_cons hi,drop_cons hk];rw[zC,if_neg (by rw[h2];decide),j3,if_pos (jB.2 rfl),j3,if_pos (jB.2 e.symm)]
open Go.RowKit Go.Proofs.Ytgfoenfaohhjcaa
theorem jc2:(Try.prog.info? 9).map (fun i=>(i.zero,i.size,i.bytes))=some (some (.string ByteArray.empty),1,16):=by kernel_rfl
def Names (ns:List ByteArray) (w:World) (e:Ending) (w':World):Prop:=∃x,e=.returned x∧Own StrLay 9 w' w.heap.size x ns∧Kept w w'
theorem ZB (a a':Option Addr) (len cap len' cap':Nat) (l l':V) (w:World) (hr:jx w a len l) (hr':jx w a' len' l') (h8:len≤8) (h8':len'≤8) :
 Calls Try.prog 94 #[.slice a len cap,.slice a' len' cap'] w (Names (ju (l.length+l'.length) l l') w):=by
 have HA:=lH hr;have HB:=lH hr';have HL:=lH hr.1;have HL':=lH hr'.1;have HF:=lH hr.2.2.1;have HF':=lH hr'.2.2.1;obtain⟨i0,hi,hz0,hz1,hz2⟩:=info_parts jc2;obtain⟨NS,hNS⟩:∃NS,ju (l.length+l'.length) l l'=NS:=⟨_,rfl⟩
 rw[hNS];have HNS:=lH hNS;clear hr hr' hNS;go_enter Try.func94,Try.ntmps94;go_wp2;go_loopw [5,6,7] (fun v vi vk wr=>∃(i k fuel:Nat) (acc:List ByteArray),i≤len∧k≤len'∧vi=.int .i64 i∧vk=.int .i64 k∧acc++ju fuel (l.drop i) (l'.drop k)=NS∧(len-i)+(len'-k)≤fuel∧Own StrLay 9 wr w.heap.size v acc∧Below w.heap.size w wr∧acc.length≤i+k)
  (fun _ vi vk _=>(len-(intOf vi).toNat)+(len'-(intOf vk).toNat))
 case atStart=>exact⟨0,0,l.length+l'.length,[],Nat.zero_le _,Nat.zero_le _,rfl,rfl,HNS.out,by rw[HL.out,HL'.out];omega,Own.nil _ _ _,Below.refl _ _,Nat.zero_le _⟩
 case round =>
  obtain⟨i,k,fuel,acc,hi1,hk1,rfl,rfl,hres,hfu,ho,hB,hacc⟩:=hrel;have HQ:=lH hres;have HO:=lH ho;have HB2:=lH hB;clear hres ho;by_cases hi2:i<len
  · obtain⟨b,off,rfl⟩:=HA.out.form.resolve_left (by omega);obtain⟨hb,c1,-⟩:=(HA.out.kept hB).cells hi2;have HI:=lH (show i<l.length by rw[HL.out];exact hi2);have HSI:=lH (HF.out i HI.out).1;obtain⟨f2,rfl⟩:∃f2,fuel=f2+1:=⟨fuel-1,by omega⟩
    by_cases hk2:k<len'
    · obtain⟨b',off',rfl⟩:=HB.out.form.resolve_left (by omega);obtain⟨hb',d1,-⟩:=(HB.out.kept hB).cells hk2;have HK:=lH (show k<l'.length by rw[HL'.out];exact hk2);have HSK:=lH (HF'.out k HK.out).1;have hd:decide (len'≤k)=false:=decide_eq_false (by omega);have hd2:decide (len≤i)=false:=decide_eq_false (by omega);have hi3:(i:Int)<(len:Int):=by omega
      have hk3:(k:Int)<(len':Int):=by omega
      have HS:=lH (show ∀W,Kept wr W→W.cell? ⟨b,off+i*2,none⟩=some (.string (nm l i))∧W.cell? ⟨b',off'+k*2,none⟩=some (.string (nm l' k)) from fun W kk=>⟨cell_later kk c1,cell_later kk d1⟩);clear hB;by_cases e1:ltS (nm l i) (nm l' k)=true
      · have E1:=lH e1;have e1':Op.bytesLess (nm l i).toList (nm l' k).toList=true:=e1;clear e1;have HN:=lH (show acc++[nm l i]++ju f2 (l.drop (i+1)) (l'.drop (k))=NS by rw[←HQ.out,Yi HI.out (.inr ⟨HK.out,E1.out⟩)];simp);go_wp2;clear c1 d1;refine wp_region_held_drew (S:=fun W=>W.cell? ⟨b,off+i*2,none⟩=some (.string (nm l i))∧W.cell? ⟨b',off'+k*2,none⟩=some (.string (nm l' k))) (by kernel_rfl) (HS.out _ (Kept.drew _)) (fun hHeld=>?_);refine wpAnyH_take  (i:=0) (v:=?_) (by rw[List.getElem?_toArray];exact rfl) (by kernel_rfl) (by kernel_rfl) (by kernel_rfl) (by exact fun _ _ _ h=>h) (Or.inl ⟨by rfl,(by rintro W ⟨c1,d1⟩;go_simp<;>with_reducible rfl)⟩) (by assumption) ?_;try simp only  [Act.put,List.setIfInBounds_toArray,List.set_cons_zero,List.set_cons_succ]
        refine wpAnyH_take  (i:=1) (v:=?_) (by rw[List.getElem?_toArray];exact rfl) (by kernel_rfl) (by kernel_rfl) (by kernel_rfl) (by exact fun _ _ _ h=>h) (Or.inl ⟨by rfl,(by rintro W ⟨c1,d1⟩;go_simp<;>with_reducible rfl)⟩) (by assumption) ?_;try simp only  [Act.put,List.setIfInBounds_toArray,List.set_cons_zero,List.set_cons_succ]
        refine wpAnyH_take  (i:=2) (v:=?_) (by rw[List.getElem?_toArray];exact rfl) (by kernel_rfl) (by kernel_rfl) (by kernel_rfl) (by exact fun _ _ _ h=>h) (Or.inl ⟨by rfl,(by rintro W ⟨c1,d1⟩;go_simp<;>with_reducible rfl)⟩) (by assumption) ?_;try simp only  [Act.put,List.setIfInBounds_toArray,List.set_cons_zero,List.set_cons_succ]
        refine wpAnyH_take  (i:=3) (v:=?_) (by rw[List.getElem?_toArray];exact rfl) (by kernel_rfl) (by kernel_rfl) (by kernel_rfl) (by exact fun _ _ _ h=>h) (Or.inl ⟨by rfl,(by rintro W ⟨c1,d1⟩;go_simp<;>with_reducible rfl)⟩) (by assumption) ?_;try simp only  [Act.put,List.setIfInBounds_toArray,List.set_cons_zero,List.set_cons_succ]
        refine wpAnyH_take  (i:=4) (v:=?_) (by rw[List.getElem?_toArray];exact rfl) (by kernel_rfl) (by kernel_rfl) (by kernel_rfl) (by exact fun _ _ _ h=>h) (Or.inl ⟨by rfl,(by rintro W ⟨c1,d1⟩;go_simp<;>with_reducible rfl)⟩) (by assumption) ?_;try simp only  [Act.put,List.setIfInBounds_toArray,List.set_cons_zero,List.set_cons_succ]
        refine wpAnyH_take  (i:=5) (v:=?_) (by rw[List.getElem?_toArray];exact rfl) (by kernel_rfl) (by kernel_rfl) (by kernel_rfl) (by exact fun _ _ _ h=>h) (Or.inl ⟨by rfl,(by rintro W ⟨c1,d1⟩;go_simp<;>with_reducible rfl)⟩) (by assumption) ?_;try simp only  [Act.put,List.setIfInBounds_toArray,List.set_cons_zero,List.set_cons_succ]
        refine wpAnyH_take  (i:=6) (v:=?_) (by rw[List.getElem?_toArray];exact rfl) (by kernel_rfl) (by kernel_rfl) (by kernel_rfl) (by exact fun _ _ _ h=>h) (Or.inl ⟨by rfl,(by rintro W ⟨c1,d1⟩;go_simp<;>with_reducible rfl)⟩) (by assumption) ?_;try simp only  [Act.put,List.setIfInBounds_toArray,List.set_cons_zero,List.set_cons_succ]
        refine wpAnyH_take  (i:=7) (v:=?_) (by rw[List.getElem?_toArray];exact rfl) (by kernel_rfl) (by kernel_rfl) (by kernel_rfl) (by exact fun _ _ _ h=>h) (Or.inl ⟨by rfl,(by rintro W ⟨c1,d1⟩;go_simp<;>with_reducible rfl)⟩) (by assumption) ?_;try simp only  [Act.put,List.setIfInBounds_toArray,List.set_cons_zero,List.set_cons_succ]
        refine wpAnyH_take  (i:=8) (v:=?_) (by rw[List.getElem?_toArray];exact rfl) (by kernel_rfl) (by kernel_rfl) (by kernel_rfl) (by exact fun _ _ _ h=>h) (Or.inl ⟨by rfl,(by rintro W ⟨c1,d1⟩;go_simp<;>with_reducible rfl)⟩) (by assumption) ?_;try simp only  [Act.put,List.setIfInBounds_toArray,List.set_cons_zero,List.set_cons_succ]
        refine wpAnyH_take  (i:=9) (v:=?_) (by rw[List.getElem?_toArray];exact rfl) (by kernel_rfl) (by kernel_rfl) (by kernel_rfl) (by exact fun _ _ _ h=>h) (Or.inl ⟨by rfl,(by rintro W ⟨c1,d1⟩;go_simp<;>with_reducible rfl)⟩) (by assumption) ?_;try simp only  [Act.put,List.setIfInBounds_toArray,List.set_cons_zero,List.set_cons_succ]
        refine wpAnyH_take  (i:=10) (v:=?_) (by rw[List.getElem?_toArray];exact rfl) (by kernel_rfl) (by kernel_rfl) (by kernel_rfl) (by exact fun _ _ _ h=>h) (Or.inl ⟨by rfl,(by rintro W ⟨c1,d1⟩;go_simp<;>with_reducible rfl)⟩) (by assumption) ?_;try simp only  [Act.put,List.setIfInBounds_toArray,List.set_cons_zero,List.set_cons_succ]
        refine wpAnyH_take  (i:=11) (v:=?_) (by rw[List.getElem?_toArray];exact rfl) (by kernel_rfl) (by kernel_rfl) (by kernel_rfl) (by exact fun _ _ _ h=>h) (Or.inl ⟨by rfl,(by rintro W ⟨c1,d1⟩;go_simp<;>with_reducible rfl)⟩) (by assumption) ?_;try simp only  [Act.put,List.setIfInBounds_toArray,List.set_cons_zero,List.set_cons_succ]
        refine wpAnyH_take  (i:=12) (v:=?_) (by rw[List.getElem?_toArray];exact rfl) (by kernel_rfl) (by kernel_rfl) (by kernel_rfl) (by exact fun _ _ _ h=>h) (Or.inl ⟨by rfl,(by rintro W ⟨c1,d1⟩;go_simp<;>with_reducible rfl)⟩) (by assumption) ?_;try simp only  [Act.put,List.setIfInBounds_toArray,List.set_cons_zero,List.set_cons_succ]
        refine wpAnyH_take  (i:=13) (v:=?_) (by rw[List.getElem?_toArray];exact rfl) (by kernel_rfl) (by kernel_rfl) (by kernel_rfl) (by exact fun _ _ _ h=>h) (Or.inl ⟨by rfl,(by rintro W ⟨c1,d1⟩;go_simp<;>with_reducible rfl)⟩) (by assumption) ?_;try simp only  [Act.put,List.setIfInBounds_toArray,List.set_cons_zero,List.set_cons_succ]
        refine wpAnyH_take  (i:=14) (v:=?_) (by rw[List.getElem?_toArray];exact rfl) (by kernel_rfl) (by kernel_rfl) (by kernel_rfl) (by exact fun _ _ _ h=>h) (Or.inl ⟨by rfl,(by rintro W ⟨c1,d1⟩;go_simp<;>with_reducible rfl)⟩) (by assumption) ?_;try simp only  [Act.put,List.setIfInBounds_toArray,List.set_cons_zero,List.set_cons_succ]
        refine wpAnyH_take  (i:=15) (v:=?_) (by rw[List.getElem?_toArray];exact rfl) (by kernel_rfl) (by kernel_rfl) (by kernel_rfl) (by exact fun _ _ _ h=>h) (Or.inl ⟨by rfl,(by rintro W ⟨c1,d1⟩;go_simp<;>with_reducible rfl)⟩) (by assumption) ?_;try simp only  [Act.put,List.setIfInBounds_toArray,List.set_cons_zero,List.set_cons_succ]
        refine wpAnyH_take  (i:=16) (v:=?_) (by rw[List.getElem?_toArray];exact rfl) (by kernel_rfl) (by kernel_rfl) (by kernel_rfl) (by exact fun _ _ _ h=>h) (Or.inl ⟨by rfl,(by rintro W ⟨c1,d1⟩;go_simp<;>with_reducible rfl)⟩) (by assumption) ?_;try simp only  [Act.put,List.setIfInBounds_toArray,List.set_cons_zero,List.set_cons_succ]
        refine wpAnyH_take  (i:=17) (v:=?_) (by rw[List.getElem?_toArray];exact rfl) (by kernel_rfl) (by kernel_rfl) (by kernel_rfl) (by exact fun _ _ _ h=>h) (Or.inl ⟨by rfl,(by rintro W ⟨c1,d1⟩;go_simp<;>with_reducible rfl)⟩) (by assumption) ?_;try simp only  [Act.put,List.setIfInBounds_toArray,List.set_cons_zero,List.set_cons_succ]
        refine wpAnyH_take  (i:=18) (v:=?_) (by rw[List.getElem?_toArray];exact rfl) (by kernel_rfl) (by kernel_rfl) (by kernel_rfl) (by exact fun _ _ _ h=>h) (Or.inl ⟨by rfl,(by rintro W ⟨c1,d1⟩;go_simp<;>with_reducible rfl)⟩) (by assumption) ?_;try simp only  [Act.put,List.setIfInBounds_toArray,List.set_cons_zero,List.set_cons_succ]
        refine wpAnyH_take  (i:=19) (v:=?_) (by rw[List.getElem?_toArray];exact rfl) (by kernel_rfl) (by kernel_rfl) (by kernel_rfl) (by exact fun _ _ _ h=>h) (Or.inl ⟨by rfl,(by rintro W ⟨c1,d1⟩;go_simp<;>with_reducible rfl)⟩) (by assumption) ?_;try simp only  [Act.put,List.setIfInBounds_toArray,List.set_cons_zero,List.set_cons_succ]
        refine wpAnyH_take  (i:=20) (v:=?_) (by rw[List.getElem?_toArray];exact rfl) (by kernel_rfl) (by kernel_rfl) (by kernel_rfl) (by exact fun _ _ _ h=>h) (Or.inl ⟨by rfl,(by rintro W ⟨c1,d1⟩;go_simp<;>with_reducible rfl)⟩) (by assumption) ?_;try simp only  [Act.put,List.setIfInBounds_toArray,List.set_cons_zero,List.set_cons_succ]
        refine wpAnyH_take  (i:=21) (v:=?_) (by rw[List.getElem?_toArray];exact rfl) (by kernel_rfl) (by kernel_rfl) (by kernel_rfl) (by exact fun _ _ _ h=>h) (Or.inl ⟨by rfl,(by rintro W ⟨c1,d1⟩;go_simp<;>with_reducible rfl)⟩) (by assumption) ?_;try simp only  [Act.put,List.setIfInBounds_toArray,List.set_cons_zero,List.set_cons_succ]
        refine wpAnyH_take  (i:=22) (v:=?_) (by rw[List.getElem?_toArray];exact rfl) (by kernel_rfl) (by kernel_rfl) (by kernel_rfl) (by exact fun _ _ _ h=>h) (Or.inl ⟨by rfl,(by rintro W ⟨c1,d1⟩;go_simp<;>with_reducible rfl)⟩) (by assumption) ?_;try simp only  [Act.put,List.setIfInBounds_toArray,List.set_cons_zero,List.set_cons_succ]
        refine wpAnyH_take  (i:=23) (v:=?_) (by rw[List.getElem?_toArray];exact rfl) (by kernel_rfl) (by kernel_rfl) (by kernel_rfl) (by exact fun _ _ _ h=>h) (Or.inl ⟨by rfl,(by rintro W ⟨c1,d1⟩;go_simp<;>with_reducible rfl)⟩) (by assumption) ?_;try simp only  [Act.put,List.setIfInBounds_toArray,List.set_cons_zero,List.set_cons_succ]
        refine wpAnyH_done (by kernel_rfl) ?_ _;have HKW:=lH (show Kept wr (wr.drew) from(Kept.drew wr));obtain⟨c1,d1⟩:=HS.out _ HKW.out;have hbw:(wr.drew).heap.size=wr.heap.size:=rfl;obtain⟨W1,hW1⟩:∃W,wr.drew=W:=⟨_,rfl⟩
        rw[hW1] at HKW hbw c1 d1;try rw[hW1]
        try simp only[hW1]
        clear hW1;have hbase:w.heap.size≤W1.heap.size:=by rw[hbw];exact HB2.out.size
        have HBS:=lH hbase;have OK:=lH (HO.out.kept HKW.out);have hacc16:acc.length≤16:=by omega
        clear hbw;go_wp2_with (at_builtin;refine wpList_append_lies _ rfl _ _ _ rfl w.heap.size 9 i0 _ 1 16 Try.underlying57 hi hz0 hz1 hz2 rfl (by decide) u5 acc.length (je StrLay acc) rfl (OK.out.1.alloc _) ⟨W1.heap.size,0,none⟩ 1 1 (StrLay.cs (nm l i)) rfl rfl (World.news_of_block (cs:=#[.string (nm l i)]) (t:=9) (fr:=(0,0)) (W1.alloc_heap_new _)) (Zs (nm l i)) (by decide) (by unfold maxLen;omega) (by omega) (by rw[World.size_alloc];exact Nat.le_succ_of_le HBS.out) (W1.heap.size+1) (World.size_alloc _ _) ?_;intro g cap1 w7 hown1 hgrow hg hlt7;refine Hid.out ?_)
        refine lH ?_;have HBW:=lH (((HB2.out.trans (Below.mono HKW.out HB2.out.size)).alloc (by exact HBS.out) _).grown hgrow (by rw[World.size_alloc];exact Nat.le_succ_of_le HBS.out) (fun j hj=>(HO.out.1.lt j hj).1));go_wp2;go_roundw
        case rel=>exact⟨i+1,k,f2,acc++[nm l i],by omega,by omega,by go_num,by go_num,HN.out,by omega,Own.snoc hown1 rfl HO.out.2 HSI.out,HBW.out,by rw[List.length_append];simp only[List.length_cons,List.length_nil];omega⟩
        case measure=>simp[intOf];omega
      · have e1:ltS (nm l i) (nm l' k)=false:=by simpa using e1
        have E1:=lH e1;have e1':Op.bytesLess (nm l i).toList (nm l' k).toList=false:=e1;clear e1;by_cases e2:ltS (nm l' k) (nm l i)=true
        · have E2:=lH e2;have e2':Op.bytesLess (nm l' k).toList (nm l i).toList=true:=e2;clear e2;have HN:=lH (show acc++[nm l' k]++ju f2 (l.drop (i)) (l'.drop (k+1))=NS by rw[←HQ.out,ZW HK.out (.inr ⟨HI.out,E2.out⟩)];simp);go_wp2;clear c1 d1;refine wp_region_held_drew (S:=fun W=>W.cell? ⟨b,off+i*2,none⟩=some (.string (nm l i))∧W.cell? ⟨b',off'+k*2,none⟩=some (.string (nm l' k))) (by kernel_rfl) (HS.out _ (Kept.drew _)) (fun hHeld=>?_);refine wpAnyH_take  (i:=0) (v:=?_) (by rw[List.getElem?_toArray];exact rfl) (by kernel_rfl) (by kernel_rfl) (by kernel_rfl) (by exact fun _ _ _ h=>h) (Or.inl ⟨by rfl,(by rintro W ⟨c1,d1⟩;go_simp<;>with_reducible rfl)⟩) (by assumption) ?_;try simp only  [Act.put,List.setIfInBounds_toArray,List.set_cons_zero,List.set_cons_succ]
          refine wpAnyH_take  (i:=1) (v:=?_) (by rw[List.getElem?_toArray];exact rfl) (by kernel_rfl) (by kernel_rfl) (by kernel_rfl) (by exact fun _ _ _ h=>h) (Or.inl ⟨by rfl,(by rintro W ⟨c1,d1⟩;go_simp<;>with_reducible rfl)⟩) (by assumption) ?_;try simp only  [Act.put,List.setIfInBounds_toArray,List.set_cons_zero,List.set_cons_succ]
          refine wpAnyH_take  (i:=2) (v:=?_) (by rw[List.getElem?_toArray];exact rfl) (by kernel_rfl) (by kernel_rfl) (by kernel_rfl) (by exact fun _ _ _ h=>h) (Or.inl ⟨by rfl,(by rintro W ⟨c1,d1⟩;go_simp<;>with_reducible rfl)⟩) (by assumption) ?_;try simp only  [Act.put,List.setIfInBounds_toArray,List.set_cons_zero,List.set_cons_succ]
          refine wpAnyH_take  (i:=3) (v:=?_) (by rw[List.getElem?_toArray];exact rfl) (by kernel_rfl) (by kernel_rfl) (by kernel_rfl) (by exact fun _ _ _ h=>h) (Or.inl ⟨by rfl,(by rintro W ⟨c1,d1⟩;go_simp<;>with_reducible rfl)⟩) (by assumption) ?_;try simp only  [Act.put,List.setIfInBounds_toArray,List.set_cons_zero,List.set_cons_succ]
          refine wpAnyH_take  (i:=4) (v:=?_) (by rw[List.getElem?_toArray];exact rfl) (by kernel_rfl) (by kernel_rfl) (by kernel_rfl) (by exact fun _ _ _ h=>h) (Or.inl ⟨by rfl,(by rintro W ⟨c1,d1⟩;go_simp<;>with_reducible rfl)⟩) (by assumption) ?_;try simp only  [Act.put,List.setIfInBounds_toArray,List.set_cons_zero,List.set_cons_succ]
          refine wpAnyH_take  (i:=5) (v:=?_) (by rw[List.getElem?_toArray];exact rfl) (by kernel_rfl) (by kernel_rfl) (by kernel_rfl) (by exact fun _ _ _ h=>h) (Or.inl ⟨by rfl,(by rintro W ⟨c1,d1⟩;go_simp<;>with_reducible rfl)⟩) (by assumption) ?_;try simp only  [Act.put,List.setIfInBounds_toArray,List.set_cons_zero,List.set_cons_succ]
          refine wpAnyH_take  (i:=6) (v:=?_) (by rw[List.getElem?_toArray];exact rfl) (by kernel_rfl) (by kernel_rfl) (by kernel_rfl) (by exact fun _ _ _ h=>h) (Or.inl ⟨by rfl,(by rintro W ⟨c1,d1⟩;go_simp<;>with_reducible rfl)⟩) (by assumption) ?_;try simp only  [Act.put,List.setIfInBounds_toArray,List.set_cons_zero,List.set_cons_succ]
          refine wpAnyH_take  (i:=7) (v:=?_) (by rw[List.getElem?_toArray];exact rfl) (by kernel_rfl) (by kernel_rfl) (by kernel_rfl) (by exact fun _ _ _ h=>h) (Or.inl ⟨by rfl,(by rintro W ⟨c1,d1⟩;go_simp<;>with_reducible rfl)⟩) (by assumption) ?_;try simp only  [Act.put,List.setIfInBounds_toArray,List.set_cons_zero,List.set_cons_succ]
          refine wpAnyH_take  (i:=8) (v:=?_) (by rw[List.getElem?_toArray];exact rfl) (by kernel_rfl) (by kernel_rfl) (by kernel_rfl) (by exact fun _ _ _ h=>h) (Or.inl ⟨by rfl,(by rintro W ⟨c1,d1⟩;go_simp<;>with_reducible rfl)⟩) (by assumption) ?_;try simp only  [Act.put,List.setIfInBounds_toArray,List.set_cons_zero,List.set_cons_succ]
          refine wpAnyH_take  (i:=9) (v:=?_) (by rw[List.getElem?_toArray];exact rfl) (by kernel_rfl) (by kernel_rfl) (by kernel_rfl) (by exact fun _ _ _ h=>h) (Or.inl ⟨by rfl,(by rintro W ⟨c1,d1⟩;go_simp<;>with_reducible rfl)⟩) (by assumption) ?_;try simp only  [Act.put,List.setIfInBounds_toArray,List.set_cons_zero,List.set_cons_succ]
          refine wpAnyH_take  (i:=10) (v:=?_) (by rw[List.getElem?_toArray];exact rfl) (by kernel_rfl) (by kernel_rfl) (by kernel_rfl) (by exact fun _ _ _ h=>h) (Or.inl ⟨by rfl,(by rintro W ⟨c1,d1⟩;go_simp<;>with_reducible rfl)⟩) (by assumption) ?_;try simp only  [Act.put,List.setIfInBounds_toArray,List.set_cons_zero,List.set_cons_succ]
          refine wpAnyH_take  (i:=11) (v:=?_) (by rw[List.getElem?_toArray];exact rfl) (by kernel_rfl) (by kernel_rfl) (by kernel_rfl) (by exact fun _ _ _ h=>h) (Or.inl ⟨by rfl,(by rintro W ⟨c1,d1⟩;go_simp<;>with_reducible rfl)⟩) (by assumption) ?_;try simp only  [Act.put,List.setIfInBounds_toArray,List.set_cons_zero,List.set_cons_succ]
          refine wpAnyH_take  (i:=12) (v:=?_) (by rw[List.getElem?_toArray];exact rfl) (by kernel_rfl) (by kernel_rfl) (by kernel_rfl) (by exact fun _ _ _ h=>h) (Or.inl ⟨by rfl,(by rintro W ⟨c1,d1⟩;go_simp<;>with_reducible rfl)⟩) (by assumption) ?_;try simp only  [Act.put,List.setIfInBounds_toArray,List.set_cons_zero,List.set_cons_succ]
          refine wpAnyH_take  (i:=13) (v:=?_) (by rw[List.getElem?_toArray];exact rfl) (by kernel_rfl) (by kernel_rfl) (by kernel_rfl) (by exact fun _ _ _ h=>h) (Or.inl ⟨by rfl,(by rintro W ⟨c1,d1⟩;go_simp<;>with_reducible rfl)⟩) (by assumption) ?_;try simp only  [Act.put,List.setIfInBounds_toArray,List.set_cons_zero,List.set_cons_succ]
          refine wpAnyH_take  (i:=14) (v:=?_) (by rw[List.getElem?_toArray];exact rfl) (by kernel_rfl) (by kernel_rfl) (by kernel_rfl) (by exact fun _ _ _ h=>h) (Or.inl ⟨by rfl,(by rintro W ⟨c1,d1⟩;go_simp<;>with_reducible rfl)⟩) (by assumption) ?_;try simp only  [Act.put,List.setIfInBounds_toArray,List.set_cons_zero,List.set_cons_succ]
          refine wpAnyH_take  (i:=15) (v:=?_) (by rw[List.getElem?_toArray];exact rfl) (by kernel_rfl) (by kernel_rfl) (by kernel_rfl) (by exact fun _ _ _ h=>h) (Or.inl ⟨by rfl,(by rintro W ⟨c1,d1⟩;go_simp<;>with_reducible rfl)⟩) (by assumption) ?_;try simp only  [Act.put,List.setIfInBounds_toArray,List.set_cons_zero,List.set_cons_succ]
          refine wpAnyH_take  (i:=16) (v:=?_) (by rw[List.getElem?_toArray];exact rfl) (by kernel_rfl) (by kernel_rfl) (by kernel_rfl) (by exact fun _ _ _ h=>h) (Or.inl ⟨by rfl,(by rintro W ⟨c1,d1⟩;go_simp<;>with_reducible rfl)⟩) (by assumption) ?_;try simp only  [Act.put,List.setIfInBounds_toArray,List.set_cons_zero,List.set_cons_succ]
          refine wpAnyH_take  (i:=17) (v:=?_) (by rw[List.getElem?_toArray];exact rfl) (by kernel_rfl) (by kernel_rfl) (by kernel_rfl) (by exact fun _ _ _ h=>h) (Or.inl ⟨by rfl,(by rintro W ⟨c1,d1⟩;go_simp<;>with_reducible rfl)⟩) (by assumption) ?_;try simp only  [Act.put,List.setIfInBounds_toArray,List.set_cons_zero,List.set_cons_succ]
          refine wpAnyH_take  (i:=18) (v:=?_) (by rw[List.getElem?_toArray];exact rfl) (by kernel_rfl) (by kernel_rfl) (by kernel_rfl) (by exact fun _ _ _ h=>h) (Or.inl ⟨by rfl,(by rintro W ⟨c1,d1⟩;go_simp<;>with_reducible rfl)⟩) (by assumption) ?_;try simp only  [Act.put,List.setIfInBounds_toArray,List.set_cons_zero,List.set_cons_succ]
          refine wpAnyH_take  (i:=19) (v:=?_) (by rw[List.getElem?_toArray];exact rfl) (by kernel_rfl) (by kernel_rfl) (by kernel_rfl) (by exact fun _ _ _ h=>h) (Or.inl ⟨by rfl,(by rintro W ⟨c1,d1⟩;go_simp<;>with_reducible rfl)⟩) (by assumption) ?_;try simp only  [Act.put,List.setIfInBounds_toArray,List.set_cons_zero,List.set_cons_succ]
          refine wpAnyH_take  (i:=20) (v:=?_) (by rw[List.getElem?_toArray];exact rfl) (by kernel_rfl) (by kernel_rfl) (by kernel_rfl) (by exact fun _ _ _ h=>h) (Or.inl ⟨by rfl,(by rintro W ⟨c1,d1⟩;go_simp<;>with_reducible rfl)⟩) (by assumption) ?_;try simp only  [Act.put,List.setIfInBounds_toArray,List.set_cons_zero,List.set_cons_succ]
          refine wpAnyH_take  (i:=21) (v:=?_) (by rw[List.getElem?_toArray];exact rfl) (by kernel_rfl) (by kernel_rfl) (by kernel_rfl) (by exact fun _ _ _ h=>h) (Or.inl ⟨by rfl,(by rintro W ⟨c1,d1⟩;go_simp<;>with_reducible rfl)⟩) (by assumption) ?_;try simp only  [Act.put,List.setIfInBounds_toArray,List.set_cons_zero,List.set_cons_succ]
          refine wpAnyH_take  (i:=22) (v:=?_) (by rw[List.getElem?_toArray];exact rfl) (by kernel_rfl) (by kernel_rfl) (by kernel_rfl) (by exact fun _ _ _ h=>h) (Or.inl ⟨by rfl,(by rintro W ⟨c1,d1⟩;go_simp<;>with_reducible rfl)⟩) (by assumption) ?_;try simp only  [Act.put,List.setIfInBounds_toArray,List.set_cons_zero,List.set_cons_succ]
          refine wpAnyH_take  (i:=23) (v:=?_) (by rw[List.getElem?_toArray];exact rfl) (by kernel_rfl) (by kernel_rfl) (by kernel_rfl) (by exact fun _ _ _ h=>h) (Or.inl ⟨by rfl,(by rintro W ⟨c1,d1⟩;go_simp<;>with_reducible rfl)⟩) (by assumption) ?_;try simp only  [Act.put,List.setIfInBounds_toArray,List.set_cons_zero,List.set_cons_succ]
          refine wpAnyH_done (by kernel_rfl) ?_ _;go_wp2;refine wp_region_held_drew (S:=fun W=>W.cell? ⟨b,off+i*2,none⟩=some (.string (nm l i))∧W.cell? ⟨b',off'+k*2,none⟩=some (.string (nm l' k))) (by kernel_rfl) (HS.out _ ((Kept.drew _).trans (Kept.drew _))) (fun hHeld=>?_);refine wpAnyH_take  (i:=0) (v:=?_) (by rw[List.getElem?_toArray];exact rfl) (by kernel_rfl) (by kernel_rfl) (by kernel_rfl) (by exact fun _ _ _ h=>h) (Or.inl ⟨by rfl,(by rintro W ⟨c1,d1⟩;go_simp<;>with_reducible rfl)⟩) (by assumption) ?_;try simp only  [Act.put,List.setIfInBounds_toArray,List.set_cons_zero,List.set_cons_succ]
          refine wpAnyH_take  (i:=1) (v:=?_) (by rw[List.getElem?_toArray];exact rfl) (by kernel_rfl) (by kernel_rfl) (by kernel_rfl) (by exact fun _ _ _ h=>h) (Or.inl ⟨by rfl,(by rintro W ⟨c1,d1⟩;go_simp<;>with_reducible rfl)⟩) (by assumption) ?_;try simp only  [Act.put,List.setIfInBounds_toArray,List.set_cons_zero,List.set_cons_succ]
          refine wpAnyH_take  (i:=2) (v:=?_) (by rw[List.getElem?_toArray];exact rfl) (by kernel_rfl) (by kernel_rfl) (by kernel_rfl) (by exact fun _ _ _ h=>h) (Or.inl ⟨by rfl,(by rintro W ⟨c1,d1⟩;go_simp<;>with_reducible rfl)⟩) (by assumption) ?_;try simp only  [Act.put,List.setIfInBounds_toArray,List.set_cons_zero,List.set_cons_succ]
          refine wpAnyH_take  (i:=3) (v:=?_) (by rw[List.getElem?_toArray];exact rfl) (by kernel_rfl) (by kernel_rfl) (by kernel_rfl) (by exact fun _ _ _ h=>h) (Or.inl ⟨by rfl,(by rintro W ⟨c1,d1⟩;go_simp<;>with_reducible rfl)⟩) (by assumption) ?_;try simp only  [Act.put,List.setIfInBounds_toArray,List.set_cons_zero,List.set_cons_succ]
          refine wpAnyH_take  (i:=4) (v:=?_) (by rw[List.getElem?_toArray];exact rfl) (by kernel_rfl) (by kernel_rfl) (by kernel_rfl) (by exact fun _ _ _ h=>h) (Or.inl ⟨by rfl,(by rintro W ⟨c1,d1⟩;go_simp<;>with_reducible rfl)⟩) (by assumption) ?_;try simp only  [Act.put,List.setIfInBounds_toArray,List.set_cons_zero,List.set_cons_succ]
          refine wpAnyH_take  (i:=5) (v:=?_) (by rw[List.getElem?_toArray];exact rfl) (by kernel_rfl) (by kernel_rfl) (by kernel_rfl) (by exact fun _ _ _ h=>h) (Or.inl ⟨by rfl,(by rintro W ⟨c1,d1⟩;go_simp<;>with_reducible rfl)⟩) (by assumption) ?_;try simp only  [Act.put,List.setIfInBounds_toArray,List.set_cons_zero,List.set_cons_succ]
          refine wpAnyH_take  (i:=6) (v:=?_) (by rw[List.getElem?_toArray];exact rfl) (by kernel_rfl) (by kernel_rfl) (by kernel_rfl) (by exact fun _ _ _ h=>h) (Or.inl ⟨by rfl,(by rintro W ⟨c1,d1⟩;go_simp<;>with_reducible rfl)⟩) (by assumption) ?_;try simp only  [Act.put,List.setIfInBounds_toArray,List.set_cons_zero,List.set_cons_succ]
          refine wpAnyH_take  (i:=7) (v:=?_) (by rw[List.getElem?_toArray];exact rfl) (by kernel_rfl) (by kernel_rfl) (by kernel_rfl) (by exact fun _ _ _ h=>h) (Or.inl ⟨by rfl,(by rintro W ⟨c1,d1⟩;go_simp<;>with_reducible rfl)⟩) (by assumption) ?_;try simp only  [Act.put,List.setIfInBounds_toArray,List.set_cons_zero,List.set_cons_succ]
          refine wpAnyH_take  (i:=8) (v:=?_) (by rw[List.getElem?_toArray];exact rfl) (by kernel_rfl) (by kernel_rfl) (by kernel_rfl) (by exact fun _ _ _ h=>h) (Or.inl ⟨by rfl,(by rintro W ⟨c1,d1⟩;go_simp<;>with_reducible rfl)⟩) (by assumption) ?_;try simp only  [Act.put,List.setIfInBounds_toArray,List.set_cons_zero,List.set_cons_succ]
          refine wpAnyH_take  (i:=9) (v:=?_) (by rw[List.getElem?_toArray];exact rfl) (by kernel_rfl) (by kernel_rfl) (by kernel_rfl) (by exact fun _ _ _ h=>h) (Or.inl ⟨by rfl,(by rintro W ⟨c1,d1⟩;go_simp<;>with_reducible rfl)⟩) (by assumption) ?_;try simp only  [Act.put,List.setIfInBounds_toArray,List.set_cons_zero,List.set_cons_succ]
          refine wpAnyH_take  (i:=10) (v:=?_) (by rw[List.getElem?_toArray];exact rfl) (by kernel_rfl) (by kernel_rfl) (by kernel_rfl) (by exact fun _ _ _ h=>h) (Or.inl ⟨by rfl,(by rintro W ⟨c1,d1⟩;go_simp<;>with_reducible rfl)⟩) (by assumption) ?_;try simp only  [Act.put,List.setIfInBounds_toArray,List.set_cons_zero,List.set_cons_succ]
          refine wpAnyH_take  (i:=11) (v:=?_) (by rw[List.getElem?_toArray];exact rfl) (by kernel_rfl) (by kernel_rfl) (by kernel_rfl) (by exact fun _ _ _ h=>h) (Or.inl ⟨by rfl,(by rintro W ⟨c1,d1⟩;go_simp<;>with_reducible rfl)⟩) (by assumption) ?_;try simp only  [Act.put,List.setIfInBounds_toArray,List.set_cons_zero,List.set_cons_succ]
          refine wpAnyH_take  (i:=12) (v:=?_) (by rw[List.getElem?_toArray];exact rfl) (by kernel_rfl) (by kernel_rfl) (by kernel_rfl) (by exact fun _ _ _ h=>h) (Or.inl ⟨by rfl,(by rintro W ⟨c1,d1⟩;go_simp<;>with_reducible rfl)⟩) (by assumption) ?_;try simp only  [Act.put,List.setIfInBounds_toArray,List.set_cons_zero,List.set_cons_succ]
          refine wpAnyH_take  (i:=13) (v:=?_) (by rw[List.getElem?_toArray];exact rfl) (by kernel_rfl) (by kernel_rfl) (by kernel_rfl) (by exact fun _ _ _ h=>h) (Or.inl ⟨by rfl,(by rintro W ⟨c1,d1⟩;go_simp<;>with_reducible rfl)⟩) (by assumption) ?_;try simp only  [Act.put,List.setIfInBounds_toArray,List.set_cons_zero,List.set_cons_succ]
          refine wpAnyH_take  (i:=14) (v:=?_) (by rw[List.getElem?_toArray];exact rfl) (by kernel_rfl) (by kernel_rfl) (by kernel_rfl) (by exact fun _ _ _ h=>h) (Or.inl ⟨by rfl,(by rintro W ⟨c1,d1⟩;go_simp<;>with_reducible rfl)⟩) (by assumption) ?_;try simp only  [Act.put,List.setIfInBounds_toArray,List.set_cons_zero,List.set_cons_succ]
          refine wpAnyH_take  (i:=15) (v:=?_) (by rw[List.getElem?_toArray];exact rfl) (by kernel_rfl) (by kernel_rfl) (by kernel_rfl) (by exact fun _ _ _ h=>h) (Or.inl ⟨by rfl,(by rintro W ⟨c1,d1⟩;go_simp<;>with_reducible rfl)⟩) (by assumption) ?_;try simp only  [Act.put,List.setIfInBounds_toArray,List.set_cons_zero,List.set_cons_succ]
          refine wpAnyH_take  (i:=16) (v:=?_) (by rw[List.getElem?_toArray];exact rfl) (by kernel_rfl) (by kernel_rfl) (by kernel_rfl) (by exact fun _ _ _ h=>h) (Or.inl ⟨by rfl,(by rintro W ⟨c1,d1⟩;go_simp<;>with_reducible rfl)⟩) (by assumption) ?_;try simp only  [Act.put,List.setIfInBounds_toArray,List.set_cons_zero,List.set_cons_succ]
          refine wpAnyH_take  (i:=17) (v:=?_) (by rw[List.getElem?_toArray];exact rfl) (by kernel_rfl) (by kernel_rfl) (by kernel_rfl) (by exact fun _ _ _ h=>h) (Or.inl ⟨by rfl,(by rintro W ⟨c1,d1⟩;go_simp<;>with_reducible rfl)⟩) (by assumption) ?_;try simp only  [Act.put,List.setIfInBounds_toArray,List.set_cons_zero,List.set_cons_succ]
          refine wpAnyH_done (by kernel_rfl) ?_ _;have HKW:=lH (show Kept wr (wr.drew.drew) from((Kept.drew wr).trans (Kept.drew _)));obtain⟨c1,d1⟩:=HS.out _ HKW.out;have hbw:(wr.drew.drew).heap.size=wr.heap.size:=rfl;obtain⟨W1,hW1⟩:∃W,wr.drew.drew=W:=⟨_,rfl⟩
          rw[hW1] at HKW hbw c1 d1;try rw[hW1]
          try simp only[hW1]
          clear hW1;have hbase:w.heap.size≤W1.heap.size:=by rw[hbw];exact HB2.out.size
          have HBS:=lH hbase;have OK:=lH (HO.out.kept HKW.out);have hacc16:acc.length≤16:=by omega
          clear hbw;go_wp2_with (at_builtin;refine wpList_append_lies _ rfl _ _ _ rfl w.heap.size 9 i0 _ 1 16 Try.underlying57 hi hz0 hz1 hz2 rfl (by decide) u5 acc.length (je StrLay acc) rfl (OK.out.1.alloc _) ⟨W1.heap.size,0,none⟩ 1 1 (StrLay.cs (nm l' k)) rfl rfl (World.news_of_block (cs:=#[.string (nm l' k)]) (t:=9) (fr:=(0,0)) (W1.alloc_heap_new _)) (Zs (nm l' k)) (by decide) (by unfold maxLen;omega) (by omega) (by rw[World.size_alloc];exact Nat.le_succ_of_le HBS.out) (W1.heap.size+1) (World.size_alloc _ _) ?_;intro g cap1 w7 hown1 hgrow hg hlt7;refine Hid.out ?_)
          refine lH ?_;have HBW:=lH (((HB2.out.trans (Below.mono HKW.out HB2.out.size)).alloc (by exact HBS.out) _).grown hgrow (by rw[World.size_alloc];exact Nat.le_succ_of_le HBS.out) (fun j hj=>(HO.out.1.lt j hj).1));go_wp2;go_roundw
          case rel=>exact⟨i,k+1,f2,acc++[nm l' k],by omega,by omega,by go_num,by go_num,HN.out,by omega,Own.snoc hown1 rfl HO.out.2 HSK.out,HBW.out,by rw[List.length_append];simp only[List.length_cons,List.length_nil];omega⟩
          case measure=>simp[intOf];omega
        · have e2:ltS (nm l' k) (nm l i)=false:=by simpa using e2
          have E2:=lH e2;have e2':Op.bytesLess (nm l' k).toList (nm l i).toList=false:=e2;clear e2;have HN:=lH (show acc++[nm l i]++ju f2 (l.drop (i+1)) (l'.drop (k+1))=NS by rw[←HQ.out,jbf HI.out HK.out E1.out E2.out];simp);go_wp2;clear c1 d1;refine wp_region_held_drew (S:=fun W=>W.cell? ⟨b,off+i*2,none⟩=some (.string (nm l i))∧W.cell? ⟨b',off'+k*2,none⟩=some (.string (nm l' k))) (by kernel_rfl) (HS.out _ (Kept.drew _)) (fun hHeld=>?_);refine wpAnyH_take  (i:=0) (v:=?_) (by rw[List.getElem?_toArray];exact rfl) (by kernel_rfl) (by kernel_rfl) (by kernel_rfl) (by exact fun _ _ _ h=>h) (Or.inl ⟨by rfl,(by rintro W ⟨c1,d1⟩;go_simp<;>with_reducible rfl)⟩) (by assumption) ?_;try simp only  [Act.put,List.setIfInBounds_toArray,List.set_cons_zero,List.set_cons_succ]
          refine wpAnyH_take  (i:=1) (v:=?_) (by rw[List.getElem?_toArray];exact rfl) (by kernel_rfl) (by kernel_rfl) (by kernel_rfl) (by exact fun _ _ _ h=>h) (Or.inl ⟨by rfl,(by rintro W ⟨c1,d1⟩;go_simp<;>with_reducible rfl)⟩) (by assumption) ?_;try simp only  [Act.put,List.setIfInBounds_toArray,List.set_cons_zero,List.set_cons_succ]
          refine wpAnyH_take  (i:=2) (v:=?_) (by rw[List.getElem?_toArray];exact rfl) (by kernel_rfl) (by kernel_rfl) (by kernel_rfl) (by exact fun _ _ _ h=>h) (Or.inl ⟨by rfl,(by rintro W ⟨c1,d1⟩;go_simp<;>with_reducible rfl)⟩) (by assumption) ?_;try simp only  [Act.put,List.setIfInBounds_toArray,List.set_cons_zero,List.set_cons_succ]
          refine wpAnyH_take  (i:=3) (v:=?_) (by rw[List.getElem?_toArray];exact rfl) (by kernel_rfl) (by kernel_rfl) (by kernel_rfl) (by exact fun _ _ _ h=>h) (Or.inl ⟨by rfl,(by rintro W ⟨c1,d1⟩;go_simp<;>with_reducible rfl)⟩) (by assumption) ?_;try simp only  [Act.put,List.setIfInBounds_toArray,List.set_cons_zero,List.set_cons_succ]
          refine wpAnyH_take  (i:=4) (v:=?_) (by rw[List.getElem?_toArray];exact rfl) (by kernel_rfl) (by kernel_rfl) (by kernel_rfl) (by exact fun _ _ _ h=>h) (Or.inl ⟨by rfl,(by rintro W ⟨c1,d1⟩;go_simp<;>with_reducible rfl)⟩) (by assumption) ?_;try simp only  [Act.put,List.setIfInBounds_toArray,List.set_cons_zero,List.set_cons_succ]
          refine wpAnyH_take  (i:=5) (v:=?_) (by rw[List.getElem?_toArray];exact rfl) (by kernel_rfl) (by kernel_rfl) (by kernel_rfl) (by exact fun _ _ _ h=>h) (Or.inl ⟨by rfl,(by rintro W ⟨c1,d1⟩;go_simp<;>with_reducible rfl)⟩) (by assumption) ?_;try simp only  [Act.put,List.setIfInBounds_toArray,List.set_cons_zero,List.set_cons_succ]
          refine wpAnyH_take  (i:=6) (v:=?_) (by rw[List.getElem?_toArray];exact rfl) (by kernel_rfl) (by kernel_rfl) (by kernel_rfl) (by exact fun _ _ _ h=>h) (Or.inl ⟨by rfl,(by rintro W ⟨c1,d1⟩;go_simp<;>with_reducible rfl)⟩) (by assumption) ?_;try simp only  [Act.put,List.setIfInBounds_toArray,List.set_cons_zero,List.set_cons_succ]
          refine wpAnyH_take  (i:=7) (v:=?_) (by rw[List.getElem?_toArray];exact rfl) (by kernel_rfl) (by kernel_rfl) (by kernel_rfl) (by exact fun _ _ _ h=>h) (Or.inl ⟨by rfl,(by rintro W ⟨c1,d1⟩;go_simp<;>with_reducible rfl)⟩) (by assumption) ?_;try simp only  [Act.put,List.setIfInBounds_toArray,List.set_cons_zero,List.set_cons_succ]
          refine wpAnyH_take  (i:=8) (v:=?_) (by rw[List.getElem?_toArray];exact rfl) (by kernel_rfl) (by kernel_rfl) (by kernel_rfl) (by exact fun _ _ _ h=>h) (Or.inl ⟨by rfl,(by rintro W ⟨c1,d1⟩;go_simp<;>with_reducible rfl)⟩) (by assumption) ?_;try simp only  [Act.put,List.setIfInBounds_toArray,List.set_cons_zero,List.set_cons_succ]
          refine wpAnyH_take  (i:=9) (v:=?_) (by rw[List.getElem?_toArray];exact rfl) (by kernel_rfl) (by kernel_rfl) (by kernel_rfl) (by exact fun _ _ _ h=>h) (Or.inl ⟨by rfl,(by rintro W ⟨c1,d1⟩;go_simp<;>with_reducible rfl)⟩) (by assumption) ?_;try simp only  [Act.put,List.setIfInBounds_toArray,List.set_cons_zero,List.set_cons_succ]
          refine wpAnyH_take  (i:=10) (v:=?_) (by rw[List.getElem?_toArray];exact rfl) (by kernel_rfl) (by kernel_rfl) (by kernel_rfl) (by exact fun _ _ _ h=>h) (Or.inl ⟨by rfl,(by rintro W ⟨c1,d1⟩;go_simp<;>with_reducible rfl)⟩) (by assumption) ?_;try simp only  [Act.put,List.setIfInBounds_toArray,List.set_cons_zero,List.set_cons_succ]
          refine wpAnyH_take  (i:=11) (v:=?_) (by rw[List.getElem?_toArray];exact rfl) (by kernel_rfl) (by kernel_rfl) (by kernel_rfl) (by exact fun _ _ _ h=>h) (Or.inl ⟨by rfl,(by rintro W ⟨c1,d1⟩;go_simp<;>with_reducible rfl)⟩) (by assumption) ?_;try simp only  [Act.put,List.setIfInBounds_toArray,List.set_cons_zero,List.set_cons_succ]
          refine wpAnyH_take  (i:=12) (v:=?_) (by rw[List.getElem?_toArray];exact rfl) (by kernel_rfl) (by kernel_rfl) (by kernel_rfl) (by exact fun _ _ _ h=>h) (Or.inl ⟨by rfl,(by rintro W ⟨c1,d1⟩;go_simp<;>with_reducible rfl)⟩) (by assumption) ?_;try simp only  [Act.put,List.setIfInBounds_toArray,List.set_cons_zero,List.set_cons_succ]
          refine wpAnyH_take  (i:=13) (v:=?_) (by rw[List.getElem?_toArray];exact rfl) (by kernel_rfl) (by kernel_rfl) (by kernel_rfl) (by exact fun _ _ _ h=>h) (Or.inl ⟨by rfl,(by rintro W ⟨c1,d1⟩;go_simp<;>with_reducible rfl)⟩) (by assumption) ?_;try simp only  [Act.put,List.setIfInBounds_toArray,List.set_cons_zero,List.set_cons_succ]
          refine wpAnyH_take  (i:=14) (v:=?_) (by rw[List.getElem?_toArray];exact rfl) (by kernel_rfl) (by kernel_rfl) (by kernel_rfl) (by exact fun _ _ _ h=>h) (Or.inl ⟨by rfl,(by rintro W ⟨c1,d1⟩;go_simp<;>with_reducible rfl)⟩) (by assumption) ?_;try simp only  [Act.put,List.setIfInBounds_toArray,List.set_cons_zero,List.set_cons_succ]
          refine wpAnyH_take  (i:=15) (v:=?_) (by rw[List.getElem?_toArray];exact rfl) (by kernel_rfl) (by kernel_rfl) (by kernel_rfl) (by exact fun _ _ _ h=>h) (Or.inl ⟨by rfl,(by rintro W ⟨c1,d1⟩;go_simp<;>with_reducible rfl)⟩) (by assumption) ?_;try simp only  [Act.put,List.setIfInBounds_toArray,List.set_cons_zero,List.set_cons_succ]
          refine wpAnyH_take  (i:=16) (v:=?_) (by rw[List.getElem?_toArray];exact rfl) (by kernel_rfl) (by kernel_rfl) (by kernel_rfl) (by exact fun _ _ _ h=>h) (Or.inl ⟨by rfl,(by rintro W ⟨c1,d1⟩;go_simp<;>with_reducible rfl)⟩) (by assumption) ?_;try simp only  [Act.put,List.setIfInBounds_toArray,List.set_cons_zero,List.set_cons_succ]
          refine wpAnyH_take  (i:=17) (v:=?_) (by rw[List.getElem?_toArray];exact rfl) (by kernel_rfl) (by kernel_rfl) (by kernel_rfl) (by exact fun _ _ _ h=>h) (Or.inl ⟨by rfl,(by rintro W ⟨c1,d1⟩;go_simp<;>with_reducible rfl)⟩) (by assumption) ?_;try simp only  [Act.put,List.setIfInBounds_toArray,List.set_cons_zero,List.set_cons_succ]
          refine wpAnyH_take  (i:=18) (v:=?_) (by rw[List.getElem?_toArray];exact rfl) (by kernel_rfl) (by kernel_rfl) (by kernel_rfl) (by exact fun _ _ _ h=>h) (Or.inl ⟨by rfl,(by rintro W ⟨c1,d1⟩;go_simp<;>with_reducible rfl)⟩) (by assumption) ?_;try simp only  [Act.put,List.setIfInBounds_toArray,List.set_cons_zero,List.set_cons_succ]
          refine wpAnyH_take  (i:=19) (v:=?_) (by rw[List.getElem?_toArray];exact rfl) (by kernel_rfl) (by kernel_rfl) (by kernel_rfl) (by exact fun _ _ _ h=>h) (Or.inl ⟨by rfl,(by rintro W ⟨c1,d1⟩;go_simp<;>with_reducible rfl)⟩) (by assumption) ?_;try simp only  [Act.put,List.setIfInBounds_toArray,List.set_cons_zero,List.set_cons_succ]
          refine wpAnyH_take  (i:=20) (v:=?_) (by rw[List.getElem?_toArray];exact rfl) (by kernel_rfl) (by kernel_rfl) (by kernel_rfl) (by exact fun _ _ _ h=>h) (Or.inl ⟨by rfl,(by rintro W ⟨c1,d1⟩;go_simp<;>with_reducible rfl)⟩) (by assumption) ?_;try simp only  [Act.put,List.setIfInBounds_toArray,List.set_cons_zero,List.set_cons_succ]
          refine wpAnyH_take  (i:=21) (v:=?_) (by rw[List.getElem?_toArray];exact rfl) (by kernel_rfl) (by kernel_rfl) (by kernel_rfl) (by exact fun _ _ _ h=>h) (Or.inl ⟨by rfl,(by rintro W ⟨c1,d1⟩;go_simp<;>with_reducible rfl)⟩) (by assumption) ?_;try simp only  [Act.put,List.setIfInBounds_toArray,List.set_cons_zero,List.set_cons_succ]
          refine wpAnyH_take  (i:=22) (v:=?_) (by rw[List.getElem?_toArray];exact rfl) (by kernel_rfl) (by kernel_rfl) (by kernel_rfl) (by exact fun _ _ _ h=>h) (Or.inl ⟨by rfl,(by rintro W ⟨c1,d1⟩;go_simp<;>with_reducible rfl)⟩) (by assumption) ?_;try simp only  [Act.put,List.setIfInBounds_toArray,List.set_cons_zero,List.set_cons_succ]
          refine wpAnyH_take  (i:=23) (v:=?_) (by rw[List.getElem?_toArray];exact rfl) (by kernel_rfl) (by kernel_rfl) (by kernel_rfl) (by exact fun _ _ _ h=>h) (Or.inl ⟨by rfl,(by rintro W ⟨c1,d1⟩;go_simp<;>with_reducible rfl)⟩) (by assumption) ?_;try simp only  [Act.put,List.setIfInBounds_toArray,List.set_cons_zero,List.set_cons_succ]
          refine wpAnyH_done (by kernel_rfl) ?_ _;go_wp2;refine wp_region_held_drew (S:=fun W=>W.cell? ⟨b,off+i*2,none⟩=some (.string (nm l i))∧W.cell? ⟨b',off'+k*2,none⟩=some (.string (nm l' k))) (by kernel_rfl) (HS.out _ ((Kept.drew _).trans (Kept.drew _))) (fun hHeld=>?_);refine wpAnyH_take  (i:=0) (v:=?_) (by rw[List.getElem?_toArray];exact rfl) (by kernel_rfl) (by kernel_rfl) (by kernel_rfl) (by exact fun _ _ _ h=>h) (Or.inl ⟨by rfl,(by rintro W ⟨c1,d1⟩;go_simp<;>with_reducible rfl)⟩) (by assumption) ?_;try simp only  [Act.put,List.setIfInBounds_toArray,List.set_cons_zero,List.set_cons_succ]
          refine wpAnyH_take  (i:=1) (v:=?_) (by rw[List.getElem?_toArray];exact rfl) (by kernel_rfl) (by kernel_rfl) (by kernel_rfl) (by exact fun _ _ _ h=>h) (Or.inl ⟨by rfl,(by rintro W ⟨c1,d1⟩;go_simp<;>with_reducible rfl)⟩) (by assumption) ?_;try simp only  [Act.put,List.setIfInBounds_toArray,List.set_cons_zero,List.set_cons_succ]
          refine wpAnyH_take  (i:=2) (v:=?_) (by rw[List.getElem?_toArray];exact rfl) (by kernel_rfl) (by kernel_rfl) (by kernel_rfl) (by exact fun _ _ _ h=>h) (Or.inl ⟨by rfl,(by rintro W ⟨c1,d1⟩;go_simp<;>with_reducible rfl)⟩) (by assumption) ?_;try simp only  [Act.put,List.setIfInBounds_toArray,List.set_cons_zero,List.set_cons_succ]
          refine wpAnyH_take  (i:=3) (v:=?_) (by rw[List.getElem?_toArray];exact rfl) (by kernel_rfl) (by kernel_rfl) (by kernel_rfl) (by exact fun _ _ _ h=>h) (Or.inl ⟨by rfl,(by rintro W ⟨c1,d1⟩;go_simp<;>with_reducible rfl)⟩) (by assumption) ?_;try simp only  [Act.put,List.setIfInBounds_toArray,List.set_cons_zero,List.set_cons_succ]
          refine wpAnyH_take  (i:=4) (v:=?_) (by rw[List.getElem?_toArray];exact rfl) (by kernel_rfl) (by kernel_rfl) (by kernel_rfl) (by exact fun _ _ _ h=>h) (Or.inl ⟨by rfl,(by rintro W ⟨c1,d1⟩;go_simp<;>with_reducible rfl)⟩) (by assumption) ?_;try simp only  [Act.put,List.setIfInBounds_toArray,List.set_cons_zero,List.set_cons_succ]
          refine wpAnyH_take  (i:=5) (v:=?_) (by rw[List.getElem?_toArray];exact rfl) (by kernel_rfl) (by kernel_rfl) (by kernel_rfl) (by exact fun _ _ _ h=>h) (Or.inl ⟨by rfl,(by rintro W ⟨c1,d1⟩;go_simp<;>with_reducible rfl)⟩) (by assumption) ?_;try simp only  [Act.put,List.setIfInBounds_toArray,List.set_cons_zero,List.set_cons_succ]
          refine wpAnyH_take  (i:=6) (v:=?_) (by rw[List.getElem?_toArray];exact rfl) (by kernel_rfl) (by kernel_rfl) (by kernel_rfl) (by exact fun _ _ _ h=>h) (Or.inl ⟨by rfl,(by rintro W ⟨c1,d1⟩;go_simp<;>with_reducible rfl)⟩) (by assumption) ?_;try simp only  [Act.put,List.setIfInBounds_toArray,List.set_cons_zero,List.set_cons_succ]
          refine wpAnyH_take  (i:=7) (v:=?_) (by rw[List.getElem?_toArray];exact rfl) (by kernel_rfl) (by kernel_rfl) (by kernel_rfl) (by exact fun _ _ _ h=>h) (Or.inl ⟨by rfl,(by rintro W ⟨c1,d1⟩;go_simp<;>with_reducible rfl)⟩) (by assumption) ?_;try simp only  [Act.put,List.setIfInBounds_toArray,List.set_cons_zero,List.set_cons_succ]
          refine wpAnyH_take  (i:=8) (v:=?_) (by rw[List.getElem?_toArray];exact rfl) (by kernel_rfl) (by kernel_rfl) (by kernel_rfl) (by exact fun _ _ _ h=>h) (Or.inl ⟨by rfl,(by rintro W ⟨c1,d1⟩;go_simp<;>with_reducible rfl)⟩) (by assumption) ?_;try simp only  [Act.put,List.setIfInBounds_toArray,List.set_cons_zero,List.set_cons_succ]
          refine wpAnyH_take  (i:=9) (v:=?_) (by rw[List.getElem?_toArray];exact rfl) (by kernel_rfl) (by kernel_rfl) (by kernel_rfl) (by exact fun _ _ _ h=>h) (Or.inl ⟨by rfl,(by rintro W ⟨c1,d1⟩;go_simp<;>with_reducible rfl)⟩) (by assumption) ?_;try simp only  [Act.put,List.setIfInBounds_toArray,List.set_cons_zero,List.set_cons_succ]
          refine wpAnyH_take  (i:=10) (v:=?_) (by rw[List.getElem?_toArray];exact rfl) (by kernel_rfl) (by kernel_rfl) (by kernel_rfl) (by exact fun _ _ _ h=>h) (Or.inl ⟨by rfl,(by rintro W ⟨c1,d1⟩;go_simp<;>with_reducible rfl)⟩) (by assumption) ?_;try simp only  [Act.put,List.setIfInBounds_toArray,List.set_cons_zero,List.set_cons_succ]
          refine wpAnyH_take  (i:=11) (v:=?_) (by rw[List.getElem?_toArray];exact rfl) (by kernel_rfl) (by kernel_rfl) (by kernel_rfl) (by exact fun _ _ _ h=>h) (Or.inl ⟨by rfl,(by rintro W ⟨c1,d1⟩;go_simp<;>with_reducible rfl)⟩) (by assumption) ?_;try simp only  [Act.put,List.setIfInBounds_toArray,List.set_cons_zero,List.set_cons_succ]
          refine wpAnyH_take  (i:=12) (v:=?_) (by rw[List.getElem?_toArray];exact rfl) (by kernel_rfl) (by kernel_rfl) (by kernel_rfl) (by exact fun _ _ _ h=>h) (Or.inl ⟨by rfl,(by rintro W ⟨c1,d1⟩;go_simp<;>with_reducible rfl)⟩) (by assumption) ?_;try simp only  [Act.put,List.setIfInBounds_toArray,List.set_cons_zero,List.set_cons_succ]
          refine wpAnyH_take  (i:=13) (v:=?_) (by rw[List.getElem?_toArray];exact rfl) (by kernel_rfl) (by kernel_rfl) (by kernel_rfl) (by exact fun _ _ _ h=>h) (Or.inl ⟨by rfl,(by rintro W ⟨c1,d1⟩;go_simp<;>with_reducible rfl)⟩) (by assumption) ?_;try simp only  [Act.put,List.setIfInBounds_toArray,List.set_cons_zero,List.set_cons_succ]
          refine wpAnyH_take  (i:=14) (v:=?_) (by rw[List.getElem?_toArray];exact rfl) (by kernel_rfl) (by kernel_rfl) (by kernel_rfl) (by exact fun _ _ _ h=>h) (Or.inl ⟨by rfl,(by rintro W ⟨c1,d1⟩;go_simp<;>with_reducible rfl)⟩) (by assumption) ?_;try simp only  [Act.put,List.setIfInBounds_toArray,List.set_cons_zero,List.set_cons_succ]
          refine wpAnyH_take  (i:=15) (v:=?_) (by rw[List.getElem?_toArray];exact rfl) (by kernel_rfl) (by kernel_rfl) (by kernel_rfl) (by exact fun _ _ _ h=>h) (Or.inl ⟨by rfl,(by rintro W ⟨c1,d1⟩;go_simp<;>with_reducible rfl)⟩) (by assumption) ?_;try simp only  [Act.put,List.setIfInBounds_toArray,List.set_cons_zero,List.set_cons_succ]
          refine wpAnyH_take  (i:=16) (v:=?_) (by rw[List.getElem?_toArray];exact rfl) (by kernel_rfl) (by kernel_rfl) (by kernel_rfl) (by exact fun _ _ _ h=>h) (Or.inl ⟨by rfl,(by rintro W ⟨c1,d1⟩;go_simp<;>with_reducible rfl)⟩) (by assumption) ?_;try simp only  [Act.put,List.setIfInBounds_toArray,List.set_cons_zero,List.set_cons_succ]
          refine wpAnyH_take  (i:=17) (v:=?_) (by rw[List.getElem?_toArray];exact rfl) (by kernel_rfl) (by kernel_rfl) (by kernel_rfl) (by exact fun _ _ _ h=>h) (Or.inl ⟨by rfl,(by rintro W ⟨c1,d1⟩;go_simp<;>with_reducible rfl)⟩) (by assumption) ?_;try simp only  [Act.put,List.setIfInBounds_toArray,List.set_cons_zero,List.set_cons_succ]
          refine wpAnyH_done (by kernel_rfl) ?_ _;have HKW:=lH (show Kept wr (wr.drew.drew) from((Kept.drew wr).trans (Kept.drew _)));obtain⟨c1,d1⟩:=HS.out _ HKW.out;have hbw:(wr.drew.drew).heap.size=wr.heap.size:=rfl;obtain⟨W1,hW1⟩:∃W,wr.drew.drew=W:=⟨_,rfl⟩
          rw[hW1] at HKW hbw c1 d1;try rw[hW1]
          try simp only[hW1]
          clear hW1;have hbase:w.heap.size≤W1.heap.size:=by rw[hbw];exact HB2.out.size
          have HBS:=lH hbase;have OK:=lH (HO.out.kept HKW.out);have hacc16:acc.length≤16:=by omega
          clear hbw;go_wp2_with (at_builtin;refine wpList_append_lies _ rfl _ _ _ rfl w.heap.size 9 i0 _ 1 16 Try.underlying57 hi hz0 hz1 hz2 rfl (by decide) u5 acc.length (je StrLay acc) rfl (OK.out.1.alloc _) ⟨W1.heap.size,0,none⟩ 1 1 (StrLay.cs (nm l i)) rfl rfl (World.news_of_block (cs:=#[.string (nm l i)]) (t:=9) (fr:=(0,0)) (W1.alloc_heap_new _)) (Zs (nm l i)) (by decide) (by unfold maxLen;omega) (by omega) (by rw[World.size_alloc];exact Nat.le_succ_of_le HBS.out) (W1.heap.size+1) (World.size_alloc _ _) ?_;intro g cap1 w7 hown1 hgrow hg hlt7;refine Hid.out ?_)
          refine lH ?_;have HBW:=lH (((HB2.out.trans (Below.mono HKW.out HB2.out.size)).alloc (by exact HBS.out) _).grown hgrow (by rw[World.size_alloc];exact Nat.le_succ_of_le HBS.out) (fun j hj=>(HO.out.1.lt j hj).1));go_wp2;go_roundw
          case rel=>exact⟨i+1,k+1,f2,acc++[nm l i],by omega,by omega,by go_num,by go_num,HN.out,by omega,Own.snoc hown1 rfl HO.out.2 HSI.out,HBW.out,by rw[List.length_append];simp only[List.length_cons,List.length_nil];omega⟩
          case measure=>simp[intOf];omega
    · have hk3:(len':Int)≤(k:Int):=by omega
      have hk4:decide ((k:Int)<(len':Int))=false:=decide_eq_false (by omega);have hk5:¬(k:Int)<(len':Int):=by omega
      have hd:decide (len'≤k)=true:=decide_eq_true (by omega);have hi3:(i:Int)<(len:Int):=by omega
      have HS:=lH (show ∀W,Kept wr W→W.cell? ⟨b,off+i*2,none⟩=some (.string (nm l i)) from fun W kk=>cell_later kk c1);clear hB;have HN:=lH (show acc++[nm l i]++ju f2 (l.drop (i+1)) (l'.drop (k))=NS by rw[←HQ.out,Yi HI.out (.inl (by rw[HL'.out];omega))];simp);go_wp2;clear c1;refine wp_region_held_drew (S:=fun W=>W.cell? ⟨b,off+i*2,none⟩=some (.string (nm l i))) (by kernel_rfl) (HS.out _ (Kept.drew _)) (fun hHeld=>?_);refine wpAnyH_take  (i:=0) (v:=?_) (by rw[List.getElem?_toArray];exact rfl) (by kernel_rfl) (by kernel_rfl) (by kernel_rfl) (by exact fun _ _ _ h=>h) (Or.inl ⟨by rfl,(by intro W hSw;go_simp<;>with_reducible rfl)⟩) (by assumption) ?_;try simp only  [Act.put,List.setIfInBounds_toArray,List.set_cons_zero,List.set_cons_succ]
      refine wpAnyH_take  (i:=1) (v:=?_) (by rw[List.getElem?_toArray];exact rfl) (by kernel_rfl) (by kernel_rfl) (by kernel_rfl) (by exact fun _ _ _ h=>h) (Or.inl ⟨by rfl,(by intro W hSw;go_simp<;>with_reducible rfl)⟩) (by assumption) ?_;try simp only  [Act.put,List.setIfInBounds_toArray,List.set_cons_zero,List.set_cons_succ]
      refine wpAnyH_take  (i:=2) (v:=?_) (by rw[List.getElem?_toArray];exact rfl) (by kernel_rfl) (by kernel_rfl) (by kernel_rfl) (by exact fun _ _ _ h=>h) (Or.inl ⟨by rfl,(by intro W hSw;go_simp<;>with_reducible rfl)⟩) (by assumption) ?_;try simp only  [Act.put,List.setIfInBounds_toArray,List.set_cons_zero,List.set_cons_succ]
      refine wpAnyH_take  (i:=3) (v:=?_) (by rw[List.getElem?_toArray];exact rfl) (by kernel_rfl) (by kernel_rfl) (by kernel_rfl) (by exact fun _ _ _ h=>h) (Or.inl ⟨by rfl,(by intro W hSw;go_simp<;>with_reducible rfl)⟩) (by assumption) ?_;try simp only  [Act.put,List.setIfInBounds_toArray,List.set_cons_zero,List.set_cons_succ]
      refine wpAnyH_take  (i:=4) (v:=?_) (by rw[List.getElem?_toArray];exact rfl) (by kernel_rfl) (by kernel_rfl) (by kernel_rfl) (by exact fun _ _ _ h=>h) (Or.inl ⟨by rfl,(by intro W hSw;go_simp<;>with_reducible rfl)⟩) (by assumption) ?_;try simp only  [Act.put,List.setIfInBounds_toArray,List.set_cons_zero,List.set_cons_succ]
      refine wpAnyH_take  (i:=5) (v:=undef) (by rw[List.getElem?_toArray];exact rfl) (by kernel_rfl) (by kernel_rfl) (by kernel_rfl) (by exact fun _ _ _ h=>h) (Or.inr ⟨by rfl,rfl⟩) (by assumption) ?_;try simp only  [Act.put,List.setIfInBounds_toArray,List.set_cons_zero,List.set_cons_succ]
      refine wpAnyH_take  (i:=6) (v:=undef) (by rw[List.getElem?_toArray];exact rfl) (by kernel_rfl) (by kernel_rfl) (by kernel_rfl) (by exact fun _ _ _ h=>h) (Or.inr ⟨by rfl,rfl⟩) (by assumption) ?_;try simp only  [Act.put,List.setIfInBounds_toArray,List.set_cons_zero,List.set_cons_succ]
      refine wpAnyH_take  (i:=7) (v:=undef) (by rw[List.getElem?_toArray];exact rfl) (by kernel_rfl) (by kernel_rfl) (by kernel_rfl) (by exact fun _ _ _ h=>h) (Or.inr ⟨by rfl,rfl⟩) (by assumption) ?_;try simp only  [Act.put,List.setIfInBounds_toArray,List.set_cons_zero,List.set_cons_succ]
      refine wpAnyH_take  (i:=8) (v:=undef) (by rw[List.getElem?_toArray];exact rfl) (by kernel_rfl) (by kernel_rfl) (by kernel_rfl) (by exact fun _ _ _ h=>h) (Or.inr ⟨by rfl,rfl⟩) (by assumption) ?_;try simp only  [Act.put,List.setIfInBounds_toArray,List.set_cons_zero,List.set_cons_succ]
      refine wpAnyH_take  (i:=9) (v:=undef) (by rw[List.getElem?_toArray];exact rfl) (by kernel_rfl) (by kernel_rfl) (by kernel_rfl) (by exact fun _ _ _ h=>h) (Or.inr ⟨by rfl,rfl⟩) (by assumption) ?_;try simp only  [Act.put,List.setIfInBounds_toArray,List.set_cons_zero,List.set_cons_succ]
      refine wpAnyH_take  (i:=10) (v:=undef) (by rw[List.getElem?_toArray];exact rfl) (by kernel_rfl) (by kernel_rfl) (by kernel_rfl) (by exact fun _ _ _ h=>h) (Or.inr ⟨by rfl,rfl⟩) (by assumption) ?_;try simp only  [Act.put,List.setIfInBounds_toArray,List.set_cons_zero,List.set_cons_succ]
      refine wpAnyH_take  (i:=11) (v:=undef) (by rw[List.getElem?_toArray];exact rfl) (by kernel_rfl) (by kernel_rfl) (by kernel_rfl) (by exact fun _ _ _ h=>h) (Or.inr ⟨by rfl,rfl⟩) (by assumption) ?_;try simp only  [Act.put,List.setIfInBounds_toArray,List.set_cons_zero,List.set_cons_succ]
      refine wpAnyH_take  (i:=12) (v:=undef) (by rw[List.getElem?_toArray];exact rfl) (by kernel_rfl) (by kernel_rfl) (by kernel_rfl) (by exact fun _ _ _ h=>h) (Or.inr ⟨by rfl,rfl⟩) (by assumption) ?_;try simp only  [Act.put,List.setIfInBounds_toArray,List.set_cons_zero,List.set_cons_succ]
      refine wpAnyH_take  (i:=13) (v:=undef) (by rw[List.getElem?_toArray];exact rfl) (by kernel_rfl) (by kernel_rfl) (by kernel_rfl) (by exact fun _ _ _ h=>h) (Or.inr ⟨by rfl,rfl⟩) (by assumption) ?_;try simp only  [Act.put,List.setIfInBounds_toArray,List.set_cons_zero,List.set_cons_succ]
      refine wpAnyH_take  (i:=14) (v:=undef) (by rw[List.getElem?_toArray];exact rfl) (by kernel_rfl) (by kernel_rfl) (by kernel_rfl) (by exact fun _ _ _ h=>h) (Or.inr ⟨by rfl,rfl⟩) (by assumption) ?_;try simp only  [Act.put,List.setIfInBounds_toArray,List.set_cons_zero,List.set_cons_succ]
      refine wpAnyH_take  (i:=15) (v:=undef) (by rw[List.getElem?_toArray];exact rfl) (by kernel_rfl) (by kernel_rfl) (by kernel_rfl) (by exact fun _ _ _ h=>h) (Or.inr ⟨by rfl,rfl⟩) (by assumption) ?_;try simp only  [Act.put,List.setIfInBounds_toArray,List.set_cons_zero,List.set_cons_succ]
      refine wpAnyH_take  (i:=16) (v:=undef) (by rw[List.getElem?_toArray];exact rfl) (by kernel_rfl) (by kernel_rfl) (by kernel_rfl) (by exact fun _ _ _ h=>h) (Or.inr ⟨by rfl,rfl⟩) (by assumption) ?_;try simp only  [Act.put,List.setIfInBounds_toArray,List.set_cons_zero,List.set_cons_succ]
      refine wpAnyH_take  (i:=17) (v:=undef) (by rw[List.getElem?_toArray];exact rfl) (by kernel_rfl) (by kernel_rfl) (by kernel_rfl) (by exact fun _ _ _ h=>h) (Or.inr ⟨by rfl,rfl⟩) (by assumption) ?_;try simp only  [Act.put,List.setIfInBounds_toArray,List.set_cons_zero,List.set_cons_succ]
      refine wpAnyH_take  (i:=18) (v:=undef) (by rw[List.getElem?_toArray];exact rfl) (by kernel_rfl) (by kernel_rfl) (by kernel_rfl) (by exact fun _ _ _ h=>h) (Or.inr ⟨by rfl,rfl⟩) (by assumption) ?_;try simp only  [Act.put,List.setIfInBounds_toArray,List.set_cons_zero,List.set_cons_succ]
      refine wpAnyH_take  (i:=19) (v:=undef) (by rw[List.getElem?_toArray];exact rfl) (by kernel_rfl) (by kernel_rfl) (by kernel_rfl) (by exact fun _ _ _ h=>h) (Or.inr ⟨by rfl,rfl⟩) (by assumption) ?_;try simp only  [Act.put,List.setIfInBounds_toArray,List.set_cons_zero,List.set_cons_succ]
      refine wpAnyH_take  (i:=20) (v:=undef) (by rw[List.getElem?_toArray];exact rfl) (by kernel_rfl) (by kernel_rfl) (by kernel_rfl) (by exact fun _ _ _ h=>h) (Or.inr ⟨by rfl,rfl⟩) (by assumption) ?_;try simp only  [Act.put,List.setIfInBounds_toArray,List.set_cons_zero,List.set_cons_succ]
      refine wpAnyH_take  (i:=21) (v:=undef) (by rw[List.getElem?_toArray];exact rfl) (by kernel_rfl) (by kernel_rfl) (by kernel_rfl) (by exact fun _ _ _ h=>h) (Or.inr ⟨by rfl,rfl⟩) (by assumption) ?_;try simp only  [Act.put,List.setIfInBounds_toArray,List.set_cons_zero,List.set_cons_succ]
      refine wpAnyH_take  (i:=22) (v:=?_) (by rw[List.getElem?_toArray];exact rfl) (by kernel_rfl) (by kernel_rfl) (by kernel_rfl) (by exact fun _ _ _ h=>h) (Or.inl ⟨by rfl,(by intro W hSw;go_simp<;>with_reducible rfl)⟩) (by assumption) ?_;try simp only  [Act.put,List.setIfInBounds_toArray,List.set_cons_zero,List.set_cons_succ]
      refine wpAnyH_take  (i:=23) (v:=?_) (by rw[List.getElem?_toArray];exact rfl) (by kernel_rfl) (by kernel_rfl) (by kernel_rfl) (by exact fun _ _ _ h=>h) (Or.inl ⟨by rfl,(by intro W hSw;go_simp<;>with_reducible rfl)⟩) (by assumption) ?_;try simp only  [Act.put,List.setIfInBounds_toArray,List.set_cons_zero,List.set_cons_succ]
      refine wpAnyH_done (by kernel_rfl) ?_ _;have HKW:=lH (show Kept wr (wr.drew) from(Kept.drew wr));obtain c1:=HS.out _ HKW.out;have hbw:(wr.drew).heap.size=wr.heap.size:=rfl;obtain⟨W1,hW1⟩:∃W,wr.drew=W:=⟨_,rfl⟩
      rw[hW1] at HKW hbw c1;try rw[hW1]
      try simp only[hW1]
      clear hW1;have hbase:w.heap.size≤W1.heap.size:=by rw[hbw];exact HB2.out.size
      have HBS:=lH hbase;have OK:=lH (HO.out.kept HKW.out);have hacc16:acc.length≤16:=by omega
      clear hbw;go_wp2_with (at_builtin;refine wpList_append_lies _ rfl _ _ _ rfl w.heap.size 9 i0 _ 1 16 Try.underlying57 hi hz0 hz1 hz2 rfl (by decide) u5 acc.length (je StrLay acc) rfl (OK.out.1.alloc _) ⟨W1.heap.size,0,none⟩ 1 1 (StrLay.cs (nm l i)) rfl rfl (World.news_of_block (cs:=#[.string (nm l i)]) (t:=9) (fr:=(0,0)) (W1.alloc_heap_new _)) (Zs (nm l i)) (by decide) (by unfold maxLen;omega) (by omega) (by rw[World.size_alloc];exact Nat.le_succ_of_le HBS.out) (W1.heap.size+1) (World.size_alloc _ _) ?_;intro g cap1 w7 hown1 hgrow hg hlt7;refine Hid.out ?_)
      refine lH ?_;have HBW:=lH (((HB2.out.trans (Below.mono HKW.out HB2.out.size)).alloc (by exact HBS.out) _).grown hgrow (by rw[World.size_alloc];exact Nat.le_succ_of_le HBS.out) (fun j hj=>(HO.out.1.lt j hj).1));go_wp2;go_roundw
      case rel=>exact⟨i+1,k,f2,acc++[nm l i],by omega,by omega,by go_num,by go_num,HN.out,by omega,Own.snoc hown1 rfl HO.out.2 HSI.out,HBW.out,by rw[List.length_append];simp only[List.length_cons,List.length_nil];omega⟩
      case measure=>simp[intOf];omega
  · by_cases hk2:k<len'
    · obtain⟨b',off',rfl⟩:=HB.out.form.resolve_left (by omega);obtain⟨hb',d1,-⟩:=(HB.out.kept hB).cells hk2;have HK:=lH (show k<l'.length by rw[HL'.out];exact hk2);have HSK:=lH (HF'.out k HK.out).1;obtain⟨f2,rfl⟩:∃f2,fuel=f2+1:=⟨fuel-1,by omega⟩
      have hd:decide (len'≤k)=false:=decide_eq_false (by omega);have hd2:decide (len≤i)=true:=decide_eq_true (by omega);have hi3:decide ((i:Int)<(len:Int))=false:=decide_eq_false (by omega);have hi5:¬(i:Int)<(len:Int):=by omega
      have hi6:(len:Int)≤(i:Int):=by omega
      have hk3:(k:Int)<(len':Int):=by omega
      have HS:=lH (show ∀W,Kept wr W→W.cell? ⟨b',off'+k*2,none⟩=some (.string (nm l' k)) from fun W kk=>cell_later kk d1);clear hB;have HN:=lH (show acc++[nm l' k]++ju f2 (l.drop (i)) (l'.drop (k+1))=NS by rw[←HQ.out,ZW HK.out (.inl (by rw[HL.out];omega))];simp);go_wp2;clear d1;refine wp_region_held_drew (S:=fun W=>W.cell? ⟨b',off'+k*2,none⟩=some (.string (nm l' k))) (by kernel_rfl) (HS.out _ (Kept.drew _)) (fun hHeld=>?_);refine wpAnyH_take  (i:=0) (v:=?_) (by rw[List.getElem?_toArray];exact rfl) (by kernel_rfl) (by kernel_rfl) (by kernel_rfl) (by exact fun _ _ _ h=>h) (Or.inl ⟨by rfl,(by intro W hSw;go_simp<;>with_reducible rfl)⟩) (by assumption) ?_;try simp only  [Act.put,List.setIfInBounds_toArray,List.set_cons_zero,List.set_cons_succ]
      refine wpAnyH_take  (i:=1) (v:=?_) (by rw[List.getElem?_toArray];exact rfl) (by kernel_rfl) (by kernel_rfl) (by kernel_rfl) (by exact fun _ _ _ h=>h) (Or.inl ⟨by rfl,(by intro W hSw;go_simp<;>with_reducible rfl)⟩) (by assumption) ?_;try simp only  [Act.put,List.setIfInBounds_toArray,List.set_cons_zero,List.set_cons_succ]
      refine wpAnyH_take  (i:=2) (v:=?_) (by rw[List.getElem?_toArray];exact rfl) (by kernel_rfl) (by kernel_rfl) (by kernel_rfl) (by exact fun _ _ _ h=>h) (Or.inl ⟨by rfl,(by intro W hSw;go_simp<;>with_reducible rfl)⟩) (by assumption) ?_;try simp only  [Act.put,List.setIfInBounds_toArray,List.set_cons_zero,List.set_cons_succ]
      refine wpAnyH_take  (i:=3) (v:=?_) (by rw[List.getElem?_toArray];exact rfl) (by kernel_rfl) (by kernel_rfl) (by kernel_rfl) (by exact fun _ _ _ h=>h) (Or.inl ⟨by rfl,(by intro W hSw;go_simp<;>with_reducible rfl)⟩) (by assumption) ?_;try simp only  [Act.put,List.setIfInBounds_toArray,List.set_cons_zero,List.set_cons_succ]
      refine wpAnyH_take  (i:=4) (v:=?_) (by rw[List.getElem?_toArray];exact rfl) (by kernel_rfl) (by kernel_rfl) (by kernel_rfl) (by exact fun _ _ _ h=>h) (Or.inl ⟨by rfl,(by intro W hSw;go_simp<;>with_reducible rfl)⟩) (by assumption) ?_;try simp only  [Act.put,List.setIfInBounds_toArray,List.set_cons_zero,List.set_cons_succ]
      refine wpAnyH_take  (i:=5) (v:=?_) (by rw[List.getElem?_toArray];exact rfl) (by kernel_rfl) (by kernel_rfl) (by kernel_rfl) (by exact fun _ _ _ h=>h) (Or.inl ⟨by rfl,(by intro W hSw;go_simp<;>with_reducible rfl)⟩) (by assumption) ?_;try simp only  [Act.put,List.setIfInBounds_toArray,List.set_cons_zero,List.set_cons_succ]
      refine wpAnyH_take  (i:=6) (v:=?_) (by rw[List.getElem?_toArray];exact rfl) (by kernel_rfl) (by kernel_rfl) (by kernel_rfl) (by exact fun _ _ _ h=>h) (Or.inl ⟨by rfl,(by intro W hSw;go_simp<;>with_reducible rfl)⟩) (by assumption) ?_;try simp only  [Act.put,List.setIfInBounds_toArray,List.set_cons_zero,List.set_cons_succ]
      refine wpAnyH_take  (i:=7) (v:=?_) (by rw[List.getElem?_toArray];exact rfl) (by kernel_rfl) (by kernel_rfl) (by kernel_rfl) (by exact fun _ _ _ h=>h) (Or.inl ⟨by rfl,(by intro W hSw;go_simp<;>with_reducible rfl)⟩) (by assumption) ?_;try simp only  [Act.put,List.setIfInBounds_toArray,List.set_cons_zero,List.set_cons_succ]
      refine wpAnyH_take  (i:=8) (v:=?_) (by rw[List.getElem?_toArray];exact rfl) (by kernel_rfl) (by kernel_rfl) (by kernel_rfl) (by exact fun _ _ _ h=>h) (Or.inl ⟨by rfl,(by intro W hSw;go_simp<;>with_reducible rfl)⟩) (by assumption) ?_;try simp only  [Act.put,List.setIfInBounds_toArray,List.set_cons_zero,List.set_cons_succ]
      refine wpAnyH_take  (i:=9) (v:=?_) (by rw[List.getElem?_toArray];exact rfl) (by kernel_rfl) (by kernel_rfl) (by kernel_rfl) (by exact fun _ _ _ h=>h) (Or.inl ⟨by rfl,(by intro W hSw;go_simp<;>with_reducible rfl)⟩) (by assumption) ?_;try simp only  [Act.put,List.setIfInBounds_toArray,List.set_cons_zero,List.set_cons_succ]
      refine wpAnyH_take  (i:=10) (v:=undef) (by rw[List.getElem?_toArray];exact rfl) (by kernel_rfl) (by kernel_rfl) (by kernel_rfl) (by exact fun _ _ _ h=>h) (Or.inr ⟨by rfl,rfl⟩) (by assumption) ?_;try simp only  [Act.put,List.setIfInBounds_toArray,List.set_cons_zero,List.set_cons_succ]
      refine wpAnyH_take  (i:=11) (v:=undef) (by rw[List.getElem?_toArray];exact rfl) (by kernel_rfl) (by kernel_rfl) (by kernel_rfl) (by exact fun _ _ _ h=>h) (Or.inr ⟨by rfl,rfl⟩) (by assumption) ?_;try simp only  [Act.put,List.setIfInBounds_toArray,List.set_cons_zero,List.set_cons_succ]
      refine wpAnyH_take  (i:=12) (v:=undef) (by rw[List.getElem?_toArray];exact rfl) (by kernel_rfl) (by kernel_rfl) (by kernel_rfl) (by exact fun _ _ _ h=>h) (Or.inr ⟨by rfl,rfl⟩) (by assumption) ?_;try simp only  [Act.put,List.setIfInBounds_toArray,List.set_cons_zero,List.set_cons_succ]
      refine wpAnyH_take  (i:=13) (v:=undef) (by rw[List.getElem?_toArray];exact rfl) (by kernel_rfl) (by kernel_rfl) (by kernel_rfl) (by exact fun _ _ _ h=>h) (Or.inr ⟨by rfl,rfl⟩) (by assumption) ?_;try simp only  [Act.put,List.setIfInBounds_toArray,List.set_cons_zero,List.set_cons_succ]
      refine wpAnyH_take  (i:=14) (v:=undef) (by rw[List.getElem?_toArray];exact rfl) (by kernel_rfl) (by kernel_rfl) (by kernel_rfl) (by exact fun _ _ _ h=>h) (Or.inr ⟨by rfl,rfl⟩) (by assumption) ?_;try simp only  [Act.put,List.setIfInBounds_toArray,List.set_cons_zero,List.set_cons_succ]
      refine wpAnyH_take  (i:=15) (v:=undef) (by rw[List.getElem?_toArray];exact rfl) (by kernel_rfl) (by kernel_rfl) (by kernel_rfl) (by exact fun _ _ _ h=>h) (Or.inr ⟨by rfl,rfl⟩) (by assumption) ?_;try simp only  [Act.put,List.setIfInBounds_toArray,List.set_cons_zero,List.set_cons_succ]
      refine wpAnyH_take  (i:=16) (v:=undef) (by rw[List.getElem?_toArray];exact rfl) (by kernel_rfl) (by kernel_rfl) (by kernel_rfl) (by exact fun _ _ _ h=>h) (Or.inr ⟨by rfl,rfl⟩) (by assumption) ?_;try simp only  [Act.put,List.setIfInBounds_toArray,List.set_cons_zero,List.set_cons_succ]
      refine wpAnyH_take  (i:=17) (v:=undef) (by rw[List.getElem?_toArray];exact rfl) (by kernel_rfl) (by kernel_rfl) (by kernel_rfl) (by exact fun _ _ _ h=>h) (Or.inr ⟨by rfl,rfl⟩) (by assumption) ?_;try simp only  [Act.put,List.setIfInBounds_toArray,List.set_cons_zero,List.set_cons_succ]
      refine wpAnyH_take  (i:=18) (v:=undef) (by rw[List.getElem?_toArray];exact rfl) (by kernel_rfl) (by kernel_rfl) (by kernel_rfl) (by exact fun _ _ _ h=>h) (Or.inr ⟨by rfl,rfl⟩) (by assumption) ?_;try simp only  [Act.put,List.setIfInBounds_toArray,List.set_cons_zero,List.set_cons_succ]
      refine wpAnyH_take  (i:=19) (v:=undef) (by rw[List.getElem?_toArray];exact rfl) (by kernel_rfl) (by kernel_rfl) (by kernel_rfl) (by exact fun _ _ _ h=>h) (Or.inr ⟨by rfl,rfl⟩) (by assumption) ?_;try simp only  [Act.put,List.setIfInBounds_toArray,List.set_cons_zero,List.set_cons_succ]
      refine wpAnyH_take  (i:=20) (v:=undef) (by rw[List.getElem?_toArray];exact rfl) (by kernel_rfl) (by kernel_rfl) (by kernel_rfl) (by exact fun _ _ _ h=>h) (Or.inr ⟨by rfl,rfl⟩) (by assumption) ?_;try simp only  [Act.put,List.setIfInBounds_toArray,List.set_cons_zero,List.set_cons_succ]
      refine wpAnyH_take  (i:=21) (v:=?_) (by rw[List.getElem?_toArray];exact rfl) (by kernel_rfl) (by kernel_rfl) (by kernel_rfl) (by exact fun _ _ _ h=>h) (Or.inl ⟨by rfl,(by intro W hSw;go_simp<;>with_reducible rfl)⟩) (by assumption) ?_;try simp only  [Act.put,List.setIfInBounds_toArray,List.set_cons_zero,List.set_cons_succ]
      refine wpAnyH_take  (i:=22) (v:=?_) (by rw[List.getElem?_toArray];exact rfl) (by kernel_rfl) (by kernel_rfl) (by kernel_rfl) (by exact fun _ _ _ h=>h) (Or.inl ⟨by rfl,(by intro W hSw;go_simp<;>with_reducible rfl)⟩) (by assumption) ?_;try simp only  [Act.put,List.setIfInBounds_toArray,List.set_cons_zero,List.set_cons_succ]
      refine wpAnyH_take  (i:=23) (v:=?_) (by rw[List.getElem?_toArray];exact rfl) (by kernel_rfl) (by kernel_rfl) (by kernel_rfl) (by exact fun _ _ _ h=>h) (Or.inl ⟨by rfl,(by intro W hSw;go_simp<;>with_reducible rfl)⟩) (by assumption) ?_;try simp only  [Act.put,List.setIfInBounds_toArray,List.set_cons_zero,List.set_cons_succ]
      refine wpAnyH_done (by kernel_rfl) ?_ _;go_wp2;refine wp_region_held_drew (S:=fun W=>W.cell? ⟨b',off'+k*2,none⟩=some (.string (nm l' k))) (by kernel_rfl) (HS.out _ ((Kept.drew _).trans (Kept.drew _))) (fun hHeld=>?_);refine wpAnyH_take  (i:=0) (v:=?_) (by rw[List.getElem?_toArray];exact rfl) (by kernel_rfl) (by kernel_rfl) (by kernel_rfl) (by exact fun _ _ _ h=>h) (Or.inl ⟨by rfl,(by intro W hSw;go_simp<;>with_reducible rfl)⟩) (by assumption) ?_;try simp only  [Act.put,List.setIfInBounds_toArray,List.set_cons_zero,List.set_cons_succ]
      refine wpAnyH_take  (i:=1) (v:=?_) (by rw[List.getElem?_toArray];exact rfl) (by kernel_rfl) (by kernel_rfl) (by kernel_rfl) (by exact fun _ _ _ h=>h) (Or.inl ⟨by rfl,(by intro W hSw;go_simp<;>with_reducible rfl)⟩) (by assumption) ?_;try simp only  [Act.put,List.setIfInBounds_toArray,List.set_cons_zero,List.set_cons_succ]
      refine wpAnyH_take  (i:=2) (v:=?_) (by rw[List.getElem?_toArray];exact rfl) (by kernel_rfl) (by kernel_rfl) (by kernel_rfl) (by exact fun _ _ _ h=>h) (Or.inl ⟨by rfl,(by intro W hSw;go_simp<;>with_reducible rfl)⟩) (by assumption) ?_;try simp only  [Act.put,List.setIfInBounds_toArray,List.set_cons_zero,List.set_cons_succ]
      refine wpAnyH_take  (i:=3) (v:=?_) (by rw[List.getElem?_toArray];exact rfl) (by kernel_rfl) (by kernel_rfl) (by kernel_rfl) (by exact fun _ _ _ h=>h) (Or.inl ⟨by rfl,(by intro W hSw;go_simp<;>with_reducible rfl)⟩) (by assumption) ?_;try simp only  [Act.put,List.setIfInBounds_toArray,List.set_cons_zero,List.set_cons_succ]
      refine wpAnyH_take  (i:=4) (v:=?_) (by rw[List.getElem?_toArray];exact rfl) (by kernel_rfl) (by kernel_rfl) (by kernel_rfl) (by exact fun _ _ _ h=>h) (Or.inl ⟨by rfl,(by intro W hSw;go_simp<;>with_reducible rfl)⟩) (by assumption) ?_;try simp only  [Act.put,List.setIfInBounds_toArray,List.set_cons_zero,List.set_cons_succ]
      refine wpAnyH_take  (i:=5) (v:=undef) (by rw[List.getElem?_toArray];exact rfl) (by kernel_rfl) (by kernel_rfl) (by kernel_rfl) (by exact fun _ _ _ h=>h) (Or.inr ⟨by rfl,rfl⟩) (by assumption) ?_;try simp only  [Act.put,List.setIfInBounds_toArray,List.set_cons_zero,List.set_cons_succ]
      refine wpAnyH_take  (i:=6) (v:=undef) (by rw[List.getElem?_toArray];exact rfl) (by kernel_rfl) (by kernel_rfl) (by kernel_rfl) (by exact fun _ _ _ h=>h) (Or.inr ⟨by rfl,rfl⟩) (by assumption) ?_;try simp only  [Act.put,List.setIfInBounds_toArray,List.set_cons_zero,List.set_cons_succ]
      refine wpAnyH_take  (i:=7) (v:=undef) (by rw[List.getElem?_toArray];exact rfl) (by kernel_rfl) (by kernel_rfl) (by kernel_rfl) (by exact fun _ _ _ h=>h) (Or.inr ⟨by rfl,rfl⟩) (by assumption) ?_;try simp only  [Act.put,List.setIfInBounds_toArray,List.set_cons_zero,List.set_cons_succ]
      refine wpAnyH_take  (i:=8) (v:=undef) (by rw[List.getElem?_toArray];exact rfl) (by kernel_rfl) (by kernel_rfl) (by kernel_rfl) (by exact fun _ _ _ h=>h) (Or.inr ⟨by rfl,rfl⟩) (by assumption) ?_;try simp only  [Act.put,List.setIfInBounds_toArray,List.set_cons_zero,List.set_cons_succ]
      refine wpAnyH_take  (i:=9) (v:=undef) (by rw[List.getElem?_toArray];exact rfl) (by kernel_rfl) (by kernel_rfl) (by kernel_rfl) (by exact fun _ _ _ h=>h) (Or.inr ⟨by rfl,rfl⟩) (by assumption) ?_;try simp only  [Act.put,List.setIfInBounds_toArray,List.set_cons_zero,List.set_cons_succ]
      refine wpAnyH_take  (i:=10) (v:=undef) (by rw[List.getElem?_toArray];exact rfl) (by kernel_rfl) (by kernel_rfl) (by kernel_rfl) (by exact fun _ _ _ h=>h) (Or.inr ⟨by rfl,rfl⟩) (by assumption) ?_;try simp only  [Act.put,List.setIfInBounds_toArray,List.set_cons_zero,List.set_cons_succ]
      refine wpAnyH_take  (i:=11) (v:=undef) (by rw[List.getElem?_toArray];exact rfl) (by kernel_rfl) (by kernel_rfl) (by kernel_rfl) (by exact fun _ _ _ h=>h) (Or.inr ⟨by rfl,rfl⟩) (by assumption) ?_;try simp only  [Act.put,List.setIfInBounds_toArray,List.set_cons_zero,List.set_cons_succ]
      refine wpAnyH_take  (i:=12) (v:=undef) (by rw[List.getElem?_toArray];exact rfl) (by kernel_rfl) (by kernel_rfl) (by kernel_rfl) (by exact fun _ _ _ h=>h) (Or.inr ⟨by rfl,rfl⟩) (by assumption) ?_;try simp only  [Act.put,List.setIfInBounds_toArray,List.set_cons_zero,List.set_cons_succ]
      refine wpAnyH_take  (i:=13) (v:=undef) (by rw[List.getElem?_toArray];exact rfl) (by kernel_rfl) (by kernel_rfl) (by kernel_rfl) (by exact fun _ _ _ h=>h) (Or.inr ⟨by rfl,rfl⟩) (by assumption) ?_;try simp only  [Act.put,List.setIfInBounds_toArray,List.set_cons_zero,List.set_cons_succ]
      refine wpAnyH_take  (i:=14) (v:=undef) (by rw[List.getElem?_toArray];exact rfl) (by kernel_rfl) (by kernel_rfl) (by kernel_rfl) (by exact fun _ _ _ h=>h) (Or.inr ⟨by rfl,rfl⟩) (by assumption) ?_;try simp only  [Act.put,List.setIfInBounds_toArray,List.set_cons_zero,List.set_cons_succ]
      refine wpAnyH_take  (i:=15) (v:=undef) (by rw[List.getElem?_toArray];exact rfl) (by kernel_rfl) (by kernel_rfl) (by kernel_rfl) (by exact fun _ _ _ h=>h) (Or.inr ⟨by rfl,rfl⟩) (by assumption) ?_;try simp only  [Act.put,List.setIfInBounds_toArray,List.set_cons_zero,List.set_cons_succ]
      refine wpAnyH_take  (i:=16) (v:=?_) (by rw[List.getElem?_toArray];exact rfl) (by kernel_rfl) (by kernel_rfl) (by kernel_rfl) (by exact fun _ _ _ h=>h) (Or.inl ⟨by rfl,(by intro W hSw;go_simp<;>with_reducible rfl)⟩) (by assumption) ?_;try simp only  [Act.put,List.setIfInBounds_toArray,List.set_cons_zero,List.set_cons_succ]
      refine wpAnyH_take  (i:=17) (v:=?_) (by rw[List.getElem?_toArray];exact rfl) (by kernel_rfl) (by kernel_rfl) (by kernel_rfl) (by exact fun _ _ _ h=>h) (Or.inl ⟨by rfl,(by intro W hSw;go_simp<;>with_reducible rfl)⟩) (by assumption) ?_;try simp only  [Act.put,List.setIfInBounds_toArray,List.set_cons_zero,List.set_cons_succ]
      refine wpAnyH_done (by kernel_rfl) ?_ _;have HKW:=lH (show Kept wr (wr.drew.drew) from((Kept.drew wr).trans (Kept.drew _)));obtain d1:=HS.out _ HKW.out;have hbw:(wr.drew.drew).heap.size=wr.heap.size:=rfl;obtain⟨W1,hW1⟩:∃W,wr.drew.drew=W:=⟨_,rfl⟩
      rw[hW1] at HKW hbw d1;try rw[hW1]
      try simp only[hW1]
      clear hW1;have hbase:w.heap.size≤W1.heap.size:=by rw[hbw];exact HB2.out.size
      have HBS:=lH hbase;have OK:=lH (HO.out.kept HKW.out);have hacc16:acc.length≤16:=by omega
      clear hbw;go_wp2_with (at_builtin;refine wpList_append_lies _ rfl _ _ _ rfl w.heap.size 9 i0 _ 1 16 Try.underlying57 hi hz0 hz1 hz2 rfl (by decide) u5 acc.length (je StrLay acc) rfl (OK.out.1.alloc _) ⟨W1.heap.size,0,none⟩ 1 1 (StrLay.cs (nm l' k)) rfl rfl (World.news_of_block (cs:=#[.string (nm l' k)]) (t:=9) (fr:=(0,0)) (W1.alloc_heap_new _)) (Zs (nm l' k)) (by decide) (by unfold maxLen;omega) (by omega) (by rw[World.size_alloc];exact Nat.le_succ_of_le HBS.out) (W1.heap.size+1) (World.size_alloc _ _) ?_;intro g cap1 w7 hown1 hgrow hg hlt7;refine Hid.out ?_)
      refine lH ?_;have HBW:=lH (((HB2.out.trans (Below.mono HKW.out HB2.out.size)).alloc (by exact HBS.out) _).grown hgrow (by rw[World.size_alloc];exact Nat.le_succ_of_le HBS.out) (fun j hj=>(HO.out.1.lt j hj).1));go_wp2;go_roundw
      case rel=>exact⟨i,k+1,f2,acc++[nm l' k],by omega,by omega,by go_num,by go_num,HN.out,by omega,Own.snoc hown1 rfl HO.out.2 HSK.out,HBW.out,by rw[List.length_append];simp only[List.length_cons,List.length_nil];omega⟩
      case measure=>simp[intOf];omega
    · have hi3:decide ((i:Int)<(len:Int))=false:=decide_eq_false (by omega);have hk3:decide ((k:Int)<(len':Int))=false:=decide_eq_false (by omega);have HE:=lH (show NS=acc by
       rw[←HQ.out,jbe (by simp only[List.length_drop];rw[HL.out,HL'.out];omega),List.append_nil])
      clear hB;go_wp2_with fail
      go_ret;exact⟨_,rfl,by rw[HE.out];exact HO.out,HB2.out⟩
theorem YQ:∀(fuel:Nat) (la lb:V),(ju fuel la lb).length≤fuel
 | 0,_,_=>Nat.le_refl _
 | fuel+1,la,lb=>by
  unfold ju;split
  · exact Nat.zero_le _
  · rw[List.length_cons];exact Nat.succ_le_succ (YQ fuel _ _)
theorem names_mem:∀(fuel:Nat) (la lb:V) (n:ByteArray),n ∈ ju fuel la lb→(∃y ∈ la,y.1=n)∨(∃y ∈ lb,y.1=n)
 | 0,_,_,n,h=>by simp[ju] at h
 | fuel+1,la,lb,n,h=>by
  unfold ju at h;split at h
  · simp at h
  · rename_i h0;rcases List.mem_cons.1 h with rfl | h
    · exact ZF (by omega)
    · rcases names_mem fuel _ _ n h with ⟨y,hy,e⟩ | ⟨y,hy,e⟩
      · exact .inl ⟨y,JW y hy,e⟩
      · exact .inr ⟨y,JW y hy,e⟩
theorem qV {l:V} (h:Gd l) {n:ByteArray} (hn:∃y ∈ l,y.1=n):0<jk l n:=by
 obtain⟨y,hy,rfl⟩:=hn;rw[ja1 h hy];exact(h.1 y hy).2.1
theorem ja3 {l l':V} (h:Gd l) (h':Gd l') {n:ByteArray} (hn:n ∈ ju (l.length+l'.length) l l'):0<jk l n+jk l' n:=by
 have a:=ZM n h;have b:=ZM n h';rcases names_mem _ _ _ _ hn with hn | hn
 · have:=qV h hn;omega
 · have:=qV h' hn;omega
theorem jbR {f:Int→Int→Int×Int} {la lb:V} {n:ByteArray} {t:List ByteArray} {acc:V} {r1 r2:Int} (h:f (jk la n) (jk lb n)=(r1,r2)) (h2:r2≠0):zh f la lb (n::t) acc=(r2,[]):=by
 rw[zh,h,if_pos h2]
theorem jbF {f:Int→Int→Int×Int} {la lb:V} {n:ByteArray} {t:List ByteArray} {acc:V} {r1:Int} (h:f (jk la n) (jk lb n)=(r1,0)):zh f la lb (n::t) acc=zh f la lb t (Xo acc n r1):=by
 rw[zh,h,if_neg (by simp)]
theorem jdn (x y:Int) (w:World) (h:0≤x∧x≤9223372036854775807) (g:0≤y∧y≤9223372036854775807) :
 Calls Try.prog 95 #[.int .i64 x,.int .i64 y] w (Ans (jU x y).1 (jU x y).2 w):=by
 unfold jU;by_cases h2:x+y≤9223372036854775807
 · rw[if_pos h2];exact(jcO x y w h.1 g.1 h2).mono fun _ _=>ZQ.ans
 · rw[if_neg h2];exact(jaO x y w h.1 g.1 g.2 (by omega)).mono fun _ _=>ZQ.ans
def zV (l l':V):Int:=if jo l≠0 then jo l else jo l'
theorem ja5 {l l':V} (h:zV l l'=0):jo l=0∧jo l'=0:=by
 unfold zV at h;split at h
 · rename_i g;exact absurd h g
 · rename_i g;exact⟨Decidable.of_not_not g,h⟩
theorem qp {f:Int→Int→Int×Int} {l l':V} (h:zV l l'≠0):jA f l l'=(zV l l',[]):=by
 unfold jA;unfold zV at h ⊢;by_cases g:jo l≠0
 · simp only[if_pos g]
 · simp only[if_neg g] at h ⊢;rw[if_pos h]
theorem YT (a a':Option Addr) (len cap len' cap':Nat) (l l':V) (w:World) (hr:jx w a len l) (hr':jx w a' len' l') :
 Calls Try.prog 93 #[.slice a len cap,.slice a' len' cap'] w fun e w'=>e=.returned (.int .i64 (zV l l'))∧Kept w w':=by
 have HA:=lH hr;have HB:=lH hr';obtain⟨c,hc⟩:∃c,jo l=c:=⟨_,rfl⟩
 have HC:=lH hc;clear hr hr';by_cases h0:c=0
 · subst h0;have HE:=lH (show zV l l'=jo l' by unfold zV;rw[hc,if_neg (by decide)]);go_enter Try.func93,Try.ntmps93;go_wp2_with fail
   refine(Jn _ _ _ l _ HA.out).mono ?_;rw[HC.out];clear hc;rintro e1 w1 ⟨rfl,k1⟩;have K1:=lH k1;clear k1;go_wp2_with fail
   refine(Jn _ _ _ l' _ (HB.out.kept K1.out)).mono ?_;rintro e2 w2 ⟨rfl,k2⟩;have K2:=lH (K1.out.trans k2);clear k2;go_wp2;go_ret;exact⟨jb HE.out.symm,K2.out⟩
 · have HE:=lH (show zV l l'=c by unfold zV;rw[hc,if_pos h0]);have h1:(c==0)=false:=by simpa using h0
   clear h0;go_enter Try.func93,Try.ntmps93;go_wp2_with fail
   refine(Jn _ _ _ l _ HA.out).mono ?_;rw[HC.out];clear hc;rintro e1 w1 ⟨rfl,k1⟩;have K1:=lH k1;clear k1;go_wp2;go_ret;exact⟨jb HE.out.symm,K1.out⟩
theorem ja4 (a:Option Addr) (n cap:Nat) (w:World) (h:n≤8):Calls Try.prog 96 #[.slice a n cap] w fun e w'=>e=.returned (.tuple #[.slice a n cap,.int .i64 0])∧w=w':=by
 have h1:(n:Int)≤8:=by omega
 have h2:decide ((8:Int)<(n:Int))=false:=decide_eq_false (by omega);have h3:decide (8<n)=false:=decide_eq_false (by omega);go_enter Try.func96,Try.ntmps96;go_wp2;go_ret2
 exact⟨rfl,rfl⟩
theorem qg (a:Option Addr) (n cap:Nat) (w:World) (h:8<n):Calls Try.prog 96 #[.slice a n cap] w fun e w'=>e=.returned (.tuple #[.slice none 0 0,.int .i64 4])∧w=w':=by
 have h1:(8:Int)<(n:Int):=by omega
 go_enter Try.func96,Try.ntmps96;go_wp2;go_ret2
 exact⟨rfl,rfl⟩
theorem jaK (a a':Option Addr) (len cap len' cap':Nat) (l l':V) (w:World) (hr:jx w a len l) (hr':jx w a' len' l') :
 Calls Try.prog 75 #[.slice a len cap,.slice a' len' cap'] w (Told (jA jU l l').1 (jA jU l l').2 w):=by
 have HA:=lH hr;have HB:=lH hr';have HL:=lH hr.1;have HL':=lH hr'.1;by_cases hc:zV l l'=0
 · obtain⟨ha,hb⟩:=ja5 hc;have HC:=lH hc;have HG:=lH (JL ha hr.2.2.1);have HG':=lH (JL hb hr'.2.2.1);have h8:len≤8:=by have:=Y4 ha;rw[HL.out] at this;exact this
   have h8':len'≤8:=by have:=Y4 hb;rw[HL'.out] at this;exact this
   have HM:=lH (qz jU ha hb hr.2.2.1 hr'.2.2.1);have HP:=lH (show ∀n ∈ ju (l.length+l'.length) l l',0<jk l n+jk l' n from fun n hn=>ja3 HG.out HG'.out hn);obtain⟨NS,hNS⟩:∃NS,ju (l.length+l'.length) l l'=NS:=⟨_,rfl⟩
   have hlen:=YQ (l.length+l'.length) l l';have hn16:NS.length≤16:=by rw[hNS,HL.out,HL'.out] at hlen;omega
   rw[hNS] at HM HP;have HNS:=lH hNS;obtain⟨R,hR⟩:∃R,zh jU l l' NS []=R:=⟨_,rfl⟩
   rw[hR] at HM;have HRR:=lH hR;have HH8:=lH h8;have HH8':=lH h8';obtain⟨i0,hi,hz0,hz1,hz2⟩:=info_parts qP;clear hr hr' hc ha hb hNS hR hlen h8 h8';go_enter Try.func75,Try.ntmps75;go_wp2_with fail
   refine(YT _ _ _ _ _ _ l l' _ HA.out HB.out).mono ?_;rw[HC.out];rintro e1 w1 ⟨rfl,k1⟩;have K1:=lH k1;clear k1;go_wp2_with fail
   refine(ZB _ _ _ _ _ _ l l' _ (HA.out.kept K1.out) (HB.out.kept K1.out) HH8.out HH8'.out).mono ?_;rw[HNS.out];rintro e2 w2 ⟨x2,rfl,ho,k2⟩;have HN2:=lH ho.2;obtain⟨s,scap,rfl,hs1,hs2,hrow⟩:=ho.reads;have HROW:=lH hrow;have HSC:=lH hs1;have K2:=lH (K1.out.trans k2);obtain⟨n,hn⟩:∃n,NS.length=n:=⟨_,rfl⟩
   have HNL:=lH hn;rw[hn] at hn16 HROW ⊢;clear k2 ho hrow hn hs1 hs2;go_wp2;go_loopw [8,9] (fun v i wr=>∃(k:Nat) (acc:V),k≤n∧i=.int .i64 k∧zh jU l l' (NS.drop k) acc=R∧jR 128 wr w2.heap.size v acc∧Below w2.heap.size w2 wr∧acc.length≤k)
    (fun _ i _=>n-(intOf i).toNat)
   case atStart=>exact⟨0,[],Nat.zero_le _,rfl,HRR.out,jR.nil _ _ _,Below.refl _ _,Nat.le_refl _⟩
   case round =>
    obtain⟨k,acc,hk,rfl,hres,ho,hB,hacc⟩:=hrel;have HQ:=lH hres;have HO:=lH ho;have HB2:=lH hB;clear hres ho;by_cases hlt:k<n
    · obtain⟨b,off,rfl⟩:∃b off,s=some ⟨b,off,none⟩:=HROW.out.form.resolve_left (by omega);obtain⟨x,hx,hdrop,hbx,hsz,c1⟩:=(HROW.out.kept hB).str hlt;have HD:=lH hdrop;have HSZ:=lH hsz;have HS:=lH (show ∀W,Kept wr W→W.cell? ⟨b,off+k,none⟩=some (.string x) from fun W kk=>cell_later kk c1);have HX:=lH (show 0<jk l x+jk l' x from HP.out x (List.mem_of_getElem? hx));have HKA:=lH (show ∀W,Kept wr W→jx W a len l from fun W kk=>HA.out.kept (K2.out.trans (Kept.trans hB kk)));have HKB:=lH (show ∀W,Kept wr W→jx W a' len' l' from fun W kk=>HB.out.kept (K2.out.trans (Kept.trans hB kk)));obtain⟨g1,hg1⟩:∃g,jk l x=g:=⟨_,rfl⟩
      obtain⟨g2,hg2⟩:∃g,jk l' x=g:=⟨_,rfl⟩
      have HG1:=lH hg1;have HG2:=lH hg2;have B1:=lH (show 0≤g1∧g1≤9223372036854775807 by rw[←hg1];exact ZM x HG.out);have B2:=lH (show 0≤g2∧g2≤9223372036854775807 by rw[←hg2];exact ZM x HG'.out);rw[hg1,hg2] at HX;obtain⟨r1,r2,hr⟩:∃r1 r2,jU g1 g2=(r1,r2):=⟨_,_,rfl⟩
      have QF:=lH (show ∀W,Calls Try.prog 95 #[.int .i64 g1,.int .i64 g2] W (Ans r1 r2 W) from fun W=>by
       have:=jdn g1 g2 W B1.out B2.out;rw[hr] at this;exact this)
      have RB:=lH (show 0≤r1∧r1≤9223372036854775807 by have:=jcx B1.out B2.out;rw[hr] at this;exact this);have HF:=lH (show jU (jk l x) (jk l' x)=(r1,r2) by rw[hg1,hg2];exact hr);have HFR:=lH hr;have hk1:(k:Int)<(n:Int):=by omega
      clear hB hx hdrop hsz hg1 hg2 hr;by_cases hz:r2=0
      · subst hz;have hy:r1≠0:=by
         have h1:=HX.out;have h2:=HFR.out;unfold jU at h2;split at h2
         · have:=(Prod.mk.inj h2).1;omega
         · have:=(Prod.mk.inj h2).2;omega
        have HN:=lH (show zh jU l l' (NS.drop (k+1)) (acc++[(x,r1)])=R by
         have:=jbF (t:=NS.drop (k+1)) (acc:=acc) HF.out;unfold Xo at this;rw[if_neg hy] at this;rw[←this,←HD.out];exact HQ.out)
        clear hy;go_wp2;clear c1;refine wp_region_held_drew (S:=fun W=>W.cell? ⟨b,off+k,none⟩=some (.string x)) (by kernel_rfl) (HS.out _ (Kept.drew _)) (fun hHeld=>?_);refine wpAnyH_take  (i:=0) (v:=?_) (by rw[List.getElem?_toArray];exact rfl) (by kernel_rfl) (by kernel_rfl) (by kernel_rfl) (by exact fun _ _ _ h=>h) (Or.inl ⟨by rfl,(by intro W hSw;go_simp<;>with_reducible rfl)⟩) (by assumption) ?_;try simp only  [Act.put,List.setIfInBounds_toArray,List.set_cons_zero,List.set_cons_succ]
        refine wpAnyH_take  (i:=1) (v:=?_) (by rw[List.getElem?_toArray];exact rfl) (by kernel_rfl) (by kernel_rfl) (by kernel_rfl) (by exact fun _ _ _ h=>h) (Or.inl ⟨by rfl,(by intro W hSw;go_simp<;>with_reducible rfl)⟩) (by assumption) ?_;try simp only  [Act.put,List.setIfInBounds_toArray,List.set_cons_zero,List.set_cons_succ]
        refine wpAnyH_take  (i:=2) (v:=?_) (by rw[List.getElem?_toArray];exact rfl) (by kernel_rfl) (by kernel_rfl) (by kernel_rfl) (by exact fun _ _ _ h=>h) (Or.inl ⟨by rfl,(by intro W hSw;go_simp<;>with_reducible rfl)⟩) (by assumption) ?_;try simp only  [Act.put,List.setIfInBounds_toArray,List.set_cons_zero,List.set_cons_succ]
        refine wpAnyH_take  (i:=3) (v:=?_) (by rw[List.getElem?_toArray];exact rfl) (by kernel_rfl) (by kernel_rfl) (by kernel_rfl) (by exact fun _ _ _ h=>h) (Or.inl ⟨by rfl,(by intro W hSw;go_simp<;>with_reducible rfl)⟩) (by assumption) ?_;try simp only  [Act.put,List.setIfInBounds_toArray,List.set_cons_zero,List.set_cons_succ]
        refine wpAnyH_take  (i:=4) (v:=?_) (by rw[List.getElem?_toArray];exact rfl) (by kernel_rfl) (by kernel_rfl) (by kernel_rfl) (by exact fun _ _ _ h=>h) (Or.inl ⟨by rfl,(by intro W hSw;go_simp<;>with_reducible rfl)⟩) (by assumption) ?_;try simp only  [Act.put,List.setIfInBounds_toArray,List.set_cons_zero,List.set_cons_succ]
        refine wpAnyH_take  (i:=6) (v:=?_) (by rw[List.getElem?_toArray];exact rfl) (by kernel_rfl) (by kernel_rfl) (by kernel_rfl) (by exact fun _ _ _ h=>h) (Or.inl ⟨by rfl,(by intro W hSw;go_simp<;>with_reducible rfl)⟩) (by assumption) ?_;try simp only  [Act.put,List.setIfInBounds_toArray,List.set_cons_zero,List.set_cons_succ]
        refine wpAnyH_take  (i:=7) (v:=?_) (by rw[List.getElem?_toArray];exact rfl) (by kernel_rfl) (by kernel_rfl) (by kernel_rfl) (by exact fun _ _ _ h=>h) (Or.inl ⟨by rfl,(by intro W hSw;go_simp<;>with_reducible rfl)⟩) (by assumption) ?_;try simp only  [Act.put,List.setIfInBounds_toArray,List.set_cons_zero,List.set_cons_succ]
        refine wpAnyH_take  (i:=8) (v:=?_) (by rw[List.getElem?_toArray];exact rfl) (by kernel_rfl) (by kernel_rfl) (by kernel_rfl) (by exact fun _ _ _ h=>h) (Or.inl ⟨by rfl,(by intro W hSw;go_simp<;>with_reducible rfl)⟩) (by assumption) ?_;try simp only  [Act.put,List.setIfInBounds_toArray,List.set_cons_zero,List.set_cons_succ]
        refine wpAnyH_take  (i:=9) (v:=?_) (by rw[List.getElem?_toArray];exact rfl) (by kernel_rfl) (by kernel_rfl) (by kernel_rfl) (by exact fun _ _ _ h=>h) (Or.inl ⟨by rfl,(by intro W hSw;go_simp<;>with_reducible rfl)⟩) (by assumption) ?_;try simp only  [Act.put,List.setIfInBounds_toArray,List.set_cons_zero,List.set_cons_succ]
        refine wpAnyH_take  (i:=10) (v:=?_) (by rw[List.getElem?_toArray];exact rfl) (by kernel_rfl) (by kernel_rfl) (by kernel_rfl) (by exact fun _ _ _ h=>h) (Or.inl ⟨by rfl,(by intro W hSw;go_simp<;>with_reducible rfl)⟩) (by assumption) ?_;try simp only  [Act.put,List.setIfInBounds_toArray,List.set_cons_zero,List.set_cons_succ]
        refine wpAnyH_ready  (rs:=[5]) (by kernel_rfl) (by simp) (AllReadyH.cons  (by rw[List.getElem?_toArray];exact rfl) (fun K9 hK9=>?_) AllReadyH.nil);go_simp;refine(Jw _ _ _ l x _ (HKA.out _ (Kept.drew _))).mono ?_;rintro e3 w3 ⟨rfl,kk⟩;have J1:=lH ((Kept.drew _).trans kk);clear kk;refine hK9.out _ _ (HS.out _ J1.out) (fun hHeld1=>?_);clear hK9 K9;try simp only  [Act.put,List.setIfInBounds_toArray,List.set_cons_zero,List.set_cons_succ]
        refine wpAnyH_ready  (rs:=[11]) (by kernel_rfl) (by simp) (AllReadyH.cons  (by rw[List.getElem?_toArray];exact rfl) (fun K9 hK9=>?_) AllReadyH.nil);go_simp;refine(Jw _ _ _ l' x _ (HKB.out _ J1.out)).mono ?_;rintro e4 w4 ⟨rfl,kk⟩;have J2:=lH ((J1.out).trans kk);clear kk;refine hK9.out _ _ (HS.out _ J2.out) (fun hHeld2=>?_);clear hK9 K9;try simp only  [Act.put,List.setIfInBounds_toArray,List.set_cons_zero,List.set_cons_succ]
        rw[HG1.out,HG2.out];refine wpAnyH_ready  (rs:=[12]) (by kernel_rfl) (by simp) (AllReadyH.cons  (by rw[List.getElem?_toArray];exact rfl) (fun K9 hK9=>?_) AllReadyH.nil);go_simp;refine(QF.out _).mono ?_;rintro e5 w5 ⟨rfl,kk⟩;have J3:=lH ((J2.out).trans kk);clear kk;refine hK9.out _ _ (HS.out _ J3.out) (fun hHeld3=>?_);clear hK9 K9;try simp only  [Act.put,List.setIfInBounds_toArray,List.set_cons_zero,List.set_cons_succ]
        refine wpAnyH_take  (i:=13) (v:=?_) (by rw[List.getElem?_toArray];exact rfl) (by kernel_rfl) (by kernel_rfl) (by kernel_rfl) (by exact fun _ _ _ h=>h) (Or.inl ⟨by rfl,(by intro W hSw;go_simp<;>with_reducible rfl)⟩) (by assumption) ?_;try simp only  [Act.put,List.setIfInBounds_toArray,List.set_cons_zero,List.set_cons_succ]
        refine wpAnyH_take  (i:=14) (v:=?_) (by rw[List.getElem?_toArray];exact rfl) (by kernel_rfl) (by kernel_rfl) (by kernel_rfl) (by exact fun _ _ _ h=>h) (Or.inl ⟨by rfl,(by intro W hSw;go_simp<;>with_reducible rfl)⟩) (by assumption) ?_;try simp only  [Act.put,List.setIfInBounds_toArray,List.set_cons_zero,List.set_cons_succ]
        refine wpAnyH_take  (i:=15) (v:=?_) (by rw[List.getElem?_toArray];exact rfl) (by kernel_rfl) (by kernel_rfl) (by kernel_rfl) (by exact fun _ _ _ h=>h) (Or.inl ⟨by rfl,(by intro W hSw;go_simp<;>with_reducible rfl)⟩) (by assumption) ?_;try simp only  [Act.put,List.setIfInBounds_toArray,List.set_cons_zero,List.set_cons_succ]
        refine wpAnyH_take  (i:=16) (v:=?_) (by rw[List.getElem?_toArray];exact rfl) (by kernel_rfl) (by kernel_rfl) (by kernel_rfl) (by exact fun _ _ _ h=>h) (Or.inl ⟨by rfl,(by intro W hSw;go_simp<;>with_reducible rfl)⟩) (by assumption) ?_;try simp only  [Act.put,List.setIfInBounds_toArray,List.set_cons_zero,List.set_cons_succ]
        refine wpAnyH_take  (i:=17) (v:=?_) (by rw[List.getElem?_toArray];exact rfl) (by kernel_rfl) (by kernel_rfl) (by kernel_rfl) (by exact fun _ _ _ h=>h) (Or.inl ⟨by rfl,(by intro W hSw;go_simp<;>with_reducible rfl)⟩) (by assumption) ?_;try simp only  [Act.put,List.setIfInBounds_toArray,List.set_cons_zero,List.set_cons_succ]
        refine wpAnyH_done (by kernel_rfl) ?_ _;have c1:=HS.out _ J3.out;have B6:=lH (HB2.out.trans (Below.mono J3.out HB2.out.size));have O6:=lH (HO.out.kept J3.out);have HOL:=lH (show (w5.alloc (.cells #[.string x,.int .i64 r1] 128)).ownsRow w2.heap.size 128 2 u8 acc.length (cellsOf acc) from(O6.out.1.alloc _));have HBS:=lH (show w2.heap.size≤w5.heap.size from B6.out.size);go_wp2_with (at_builtin;refine wpList_append_lies _ rfl _ _ _ rfl w2.heap.size 128 i0 _ 2 24 Try.underlying40 hi hz0 hz1 hz2 rfl (by decide) u8 acc.length (cellsOf acc) rfl HOL.out ⟨w5.heap.size,0,none⟩ 1 1 [.string x,.int .i64 r1] rfl rfl (jb5 _ _ _ _) (J8 [(x,r1)]) (by decide) (by unfold maxLen;omega) (by omega) (by rw[World.size_alloc];have:=HBS.out;omega) (w5.heap.size+1) (World.size_alloc _ _) ?_;intro g cap1 w7 hown1 hgrow hg hlt7;refine Hid.out ?_)
        refine lH ?_;go_wp2;go_roundw
        case rel =>
         refine⟨k+1,acc++[(x,r1)],by omega,by go_num,HN.out,⟨?_,O6.out.2.snoc HSZ.out (by have:=RB.out;omega) (by have:=RB.out;omega)⟩,(B6.out.alloc HBS.out _).grown hgrow (by rw[World.size_alloc];have:=HBS.out;omega) (fun j hj=>(HOL.out.lt j hj).1),by rw[List.length_append];simp only[List.length_cons,List.length_nil];omega⟩;rw[List.length_append,Ju];exact hown1
        case measure=>simp[intOf];omega
      · have hz':(r2==0)=false:=by simpa using hz
        have HE:=lH (show jA jU l l'=(r2,[]) by
         have:R=(r2,[]):=by rw[←HQ.out,HD.out];exact jbR HF.out hz
         rw[HM.out,this];simp only;rw[if_pos hz])
        clear hz;go_wp2;clear c1;refine wp_region_held_drew (S:=fun W=>W.cell? ⟨b,off+k,none⟩=some (.string x)) (by kernel_rfl) (HS.out _ (Kept.drew _)) (fun hHeld=>?_);refine wpAnyH_take  (i:=0) (v:=?_) (by rw[List.getElem?_toArray];exact rfl) (by kernel_rfl) (by kernel_rfl) (by kernel_rfl) (by exact fun _ _ _ h=>h) (Or.inl ⟨by rfl,(by intro W hSw;go_simp<;>with_reducible rfl)⟩) (by assumption) ?_;try simp only  [Act.put,List.setIfInBounds_toArray,List.set_cons_zero,List.set_cons_succ]
        refine wpAnyH_take  (i:=1) (v:=?_) (by rw[List.getElem?_toArray];exact rfl) (by kernel_rfl) (by kernel_rfl) (by kernel_rfl) (by exact fun _ _ _ h=>h) (Or.inl ⟨by rfl,(by intro W hSw;go_simp<;>with_reducible rfl)⟩) (by assumption) ?_;try simp only  [Act.put,List.setIfInBounds_toArray,List.set_cons_zero,List.set_cons_succ]
        refine wpAnyH_take  (i:=2) (v:=?_) (by rw[List.getElem?_toArray];exact rfl) (by kernel_rfl) (by kernel_rfl) (by kernel_rfl) (by exact fun _ _ _ h=>h) (Or.inl ⟨by rfl,(by intro W hSw;go_simp<;>with_reducible rfl)⟩) (by assumption) ?_;try simp only  [Act.put,List.setIfInBounds_toArray,List.set_cons_zero,List.set_cons_succ]
        refine wpAnyH_take  (i:=3) (v:=?_) (by rw[List.getElem?_toArray];exact rfl) (by kernel_rfl) (by kernel_rfl) (by kernel_rfl) (by exact fun _ _ _ h=>h) (Or.inl ⟨by rfl,(by intro W hSw;go_simp<;>with_reducible rfl)⟩) (by assumption) ?_;try simp only  [Act.put,List.setIfInBounds_toArray,List.set_cons_zero,List.set_cons_succ]
        refine wpAnyH_take  (i:=4) (v:=?_) (by rw[List.getElem?_toArray];exact rfl) (by kernel_rfl) (by kernel_rfl) (by kernel_rfl) (by exact fun _ _ _ h=>h) (Or.inl ⟨by rfl,(by intro W hSw;go_simp<;>with_reducible rfl)⟩) (by assumption) ?_;try simp only  [Act.put,List.setIfInBounds_toArray,List.set_cons_zero,List.set_cons_succ]
        refine wpAnyH_take  (i:=6) (v:=?_) (by rw[List.getElem?_toArray];exact rfl) (by kernel_rfl) (by kernel_rfl) (by kernel_rfl) (by exact fun _ _ _ h=>h) (Or.inl ⟨by rfl,(by intro W hSw;go_simp<;>with_reducible rfl)⟩) (by assumption) ?_;try simp only  [Act.put,List.setIfInBounds_toArray,List.set_cons_zero,List.set_cons_succ]
        refine wpAnyH_take  (i:=7) (v:=?_) (by rw[List.getElem?_toArray];exact rfl) (by kernel_rfl) (by kernel_rfl) (by kernel_rfl) (by exact fun _ _ _ h=>h) (Or.inl ⟨by rfl,(by intro W hSw;go_simp<;>with_reducible rfl)⟩) (by assumption) ?_;try simp only  [Act.put,List.setIfInBounds_toArray,List.set_cons_zero,List.set_cons_succ]
        refine wpAnyH_take  (i:=8) (v:=?_) (by rw[List.getElem?_toArray];exact rfl) (by kernel_rfl) (by kernel_rfl) (by kernel_rfl) (by exact fun _ _ _ h=>h) (Or.inl ⟨by rfl,(by intro W hSw;go_simp<;>with_reducible rfl)⟩) (by assumption) ?_;try simp only  [Act.put,List.setIfInBounds_toArray,List.set_cons_zero,List.set_cons_succ]
        refine wpAnyH_take  (i:=9) (v:=?_) (by rw[List.getElem?_toArray];exact rfl) (by kernel_rfl) (by kernel_rfl) (by kernel_rfl) (by exact fun _ _ _ h=>h) (Or.inl ⟨by rfl,(by intro W hSw;go_simp<;>with_reducible rfl)⟩) (by assumption) ?_;try simp only  [Act.put,List.setIfInBounds_toArray,List.set_cons_zero,List.set_cons_succ]
        refine wpAnyH_take  (i:=10) (v:=?_) (by rw[List.getElem?_toArray];exact rfl) (by kernel_rfl) (by kernel_rfl) (by kernel_rfl) (by exact fun _ _ _ h=>h) (Or.inl ⟨by rfl,(by intro W hSw;go_simp<;>with_reducible rfl)⟩) (by assumption) ?_;try simp only  [Act.put,List.setIfInBounds_toArray,List.set_cons_zero,List.set_cons_succ]
        refine wpAnyH_ready  (rs:=[5]) (by kernel_rfl) (by simp) (AllReadyH.cons  (by rw[List.getElem?_toArray];exact rfl) (fun K9 hK9=>?_) AllReadyH.nil);go_simp;refine(Jw _ _ _ l x _ (HKA.out _ (Kept.drew _))).mono ?_;rintro e3 w3 ⟨rfl,kk⟩;have J1:=lH ((Kept.drew _).trans kk);clear kk;refine hK9.out _ _ (HS.out _ J1.out) (fun hHeld1=>?_);clear hK9 K9;try simp only  [Act.put,List.setIfInBounds_toArray,List.set_cons_zero,List.set_cons_succ]
        refine wpAnyH_ready  (rs:=[11]) (by kernel_rfl) (by simp) (AllReadyH.cons  (by rw[List.getElem?_toArray];exact rfl) (fun K9 hK9=>?_) AllReadyH.nil);go_simp;refine(Jw _ _ _ l' x _ (HKB.out _ J1.out)).mono ?_;rintro e4 w4 ⟨rfl,kk⟩;have J2:=lH ((J1.out).trans kk);clear kk;refine hK9.out _ _ (HS.out _ J2.out) (fun hHeld2=>?_);clear hK9 K9;try simp only  [Act.put,List.setIfInBounds_toArray,List.set_cons_zero,List.set_cons_succ]
        rw[HG1.out,HG2.out];refine wpAnyH_ready  (rs:=[12]) (by kernel_rfl) (by simp) (AllReadyH.cons  (by rw[List.getElem?_toArray];exact rfl) (fun K9 hK9=>?_) AllReadyH.nil);go_simp;refine(QF.out _).mono ?_;rintro e5 w5 ⟨rfl,kk⟩;have J3:=lH ((J2.out).trans kk);clear kk;refine hK9.out _ _ (HS.out _ J3.out) (fun hHeld3=>?_);clear hK9 K9;try simp only  [Act.put,List.setIfInBounds_toArray,List.set_cons_zero,List.set_cons_succ]
        refine wpAnyH_take  (i:=13) (v:=?_) (by rw[List.getElem?_toArray];exact rfl) (by kernel_rfl) (by kernel_rfl) (by kernel_rfl) (by exact fun _ _ _ h=>h) (Or.inl ⟨by rfl,(by intro W hSw;go_simp<;>with_reducible rfl)⟩) (by assumption) ?_;try simp only  [Act.put,List.setIfInBounds_toArray,List.set_cons_zero,List.set_cons_succ]
        refine wpAnyH_take  (i:=14) (v:=?_) (by rw[List.getElem?_toArray];exact rfl) (by kernel_rfl) (by kernel_rfl) (by kernel_rfl) (by exact fun _ _ _ h=>h) (Or.inl ⟨by rfl,(by intro W hSw;go_simp<;>with_reducible rfl)⟩) (by assumption) ?_;try simp only  [Act.put,List.setIfInBounds_toArray,List.set_cons_zero,List.set_cons_succ]
        refine wpAnyH_take  (i:=15) (v:=?_) (by rw[List.getElem?_toArray];exact rfl) (by kernel_rfl) (by kernel_rfl) (by kernel_rfl) (by exact fun _ _ _ h=>h) (Or.inl ⟨by rfl,(by intro W hSw;go_simp<;>with_reducible rfl)⟩) (by assumption) ?_;try simp only  [Act.put,List.setIfInBounds_toArray,List.set_cons_zero,List.set_cons_succ]
        refine wpAnyH_take  (i:=16) (v:=?_) (by rw[List.getElem?_toArray];exact rfl) (by kernel_rfl) (by kernel_rfl) (by kernel_rfl) (by exact fun _ _ _ h=>h) (Or.inl ⟨by rfl,(by intro W hSw;go_simp<;>with_reducible rfl)⟩) (by assumption) ?_;try simp only  [Act.put,List.setIfInBounds_toArray,List.set_cons_zero,List.set_cons_succ]
        refine wpAnyH_take  (i:=17) (v:=?_) (by rw[List.getElem?_toArray];exact rfl) (by kernel_rfl) (by kernel_rfl) (by kernel_rfl) (by exact fun _ _ _ h=>h) (Or.inl ⟨by rfl,(by intro W hSw;go_simp<;>with_reducible rfl)⟩) (by assumption) ?_;try simp only  [Act.put,List.setIfInBounds_toArray,List.set_cons_zero,List.set_cons_succ]
        refine wpAnyH_done (by kernel_rfl) ?_ _;have c1:=HS.out _ J3.out;have B6:=lH (HB2.out.trans (Below.mono J3.out HB2.out.size));have O6:=lH (HO.out.kept J3.out);go_wp2;go_ret2
        rw[HE.out];exact Told.none (K2.out.trans B6.out)
    · have HE:=lH (show R=(0,acc) by
       have e:NS.drop k=[]:=List.drop_of_length_le (by rw[HNL.out];omega);rw[←HQ.out,e];rfl)
      have HKK:=lH (K2.out.trans (show Kept w2 wr from hB));obtain⟨av,cv,rfl,hv1,hv2,-⟩:=HO.out.at_;have HBL:=lH (jR.base_le HO.out K2.out.size);clear hB hv1 hv2;by_cases h9:acc.length≤8
      · have HW:=lH (show jA jU l l'=(0,acc) by
         rw[HM.out,HE.out];simp only;rw[if_neg (by decide),if_neg (by omega)])
        have QW:=lH (fun W=>ja4 av acc.length cv W h9);clear h9;go_wp2_with fail
        refine(QW.out _).mono ?_;rintro e9 w9 ⟨rfl,rfl⟩;go_wp2;go_ret2
        rw[HW.out];exact⟨_,rfl,HBL.out,HKK.out⟩
      · have HW:=lH (show jA jU l l'=(4,[]) by
         rw[HM.out,HE.out];simp only;rw[if_neg (by decide),if_pos (by omega)])
        have QW:=lH (fun W=>qg av acc.length cv W (by omega));clear h9;go_wp2_with fail
        refine(QW.out _).mono ?_;rintro e9 w9 ⟨rfl,rfl⟩;go_wp2;go_ret2
        rw[HW.out];exact Told.none HKK.out
 · have HE:=lH (qp (f:=jU) hc);obtain⟨c,hc2⟩:∃c,zV l l'=c:=⟨_,rfl⟩
   rw[hc2] at HE hc;have hc':(c==0)=false:=by simpa using hc
   have HC:=lH hc2;clear hr hr' hc hc2;go_enter Try.func75,Try.ntmps75;go_wp2_with fail
   refine(YT _ _ _ _ _ _ l l' _ HA.out HB.out).mono ?_;rw[HC.out];rintro e1 w1 ⟨rfl,k1⟩;have K1:=lH k1;clear k1;go_wp2;go_ret2
   rw[HE.out];exact Told.none K1.out
theorem jaR {v v':Value} {l l' m:V} {c:Int} {w:World} (h:Reads w v l) (h':Reads w v' l') (e:jA jU l l'=(c,m)) :
 Calls Try.prog 75 #[v,v'] w fun e w'=>∃x,e=.returned (.tuple #[x,.int .i64 c])∧Reads w' x m∧Kept w w':=by
 obtain⟨a,cap,rfl,_,_,hb⟩:=h;obtain⟨a9,cap9,rfl,_,_,hr⟩:=h';refine(jaK a a9 _ cap _ cap9 l l' w hb hr).mono ?_;rw[e];rintro e w' ⟨x,rfl,ho,k⟩;exact⟨x,rfl,ho.at_,k⟩
end Go.Proofs.Ytgfoenfaohhjcaa.Vec
namespace Go.Proofs.Ytgfoenfaohhjcaa
open Go.RowKit
def J6 (r:Int×Vec.V) (w:World) (e:Ending) (w':World):Prop:=∃y,e=.returned (.tuple #[y,.int .i64 r.1])∧Vec.Reads w' y r.2∧Kept w w'
theorem J6.mk' {r:Int×Vec.V} {c:Int} {l:Vec.V} {y:Value} {w w':World} (h:r=(c,l)) (g:Vec.Reads w' y l) (k:Kept w w'):J6 r w (.returned (.tuple #[y,.int .i64 c])) w':=by
 subst h;exact⟨y,rfl,g,k⟩
theorem Ze (w:World):Vec.Reads w (.slice none 0 0) []:=Vec.Reads.nil w
theorem jbm {l:List Nod} {x:ByteArray} {n:Nod} (h:jX l x=some n):n.name=x :=
 jB.1 (List.find?_some (p:=fun n:Nod=>eqS n.name x) h)
theorem ja9 {s:Clu} {x:ByteArray} (h:jX s.nodes x=none):JC s x=(3,[]):=by unfold JC;rw[h]
theorem YY {s:Clu} {x:ByteArray} {n:Nod} (h:jX s.nodes x=some n):JC s x=jZ x s.pods []:=by unfold JC;rw[h];dsimp only;rw[jbm h]
theorem jbH {v:Value} {s:Clu} {w:World} (h:zU w v s) (x:ByteArray):Calls Try.prog 59 #[v,.string x] w (J6 (JC s x) w):=by
 obtain⟨v1,v2,v3,rfl,⟨a,cap,rfl,l1,m1,h1⟩,⟨b,cp,rfl,l2,m2,h2⟩,⟨d,cb,rfl,l3,m3,h3⟩⟩:=h;obtain⟨nl,pl,bl⟩:=s;dsimp only at *;obtain⟨len,hlen⟩:∃q,nl.length=q:=⟨_,rfl⟩
 obtain⟨m,hm⟩:∃q,pl.length=q:=⟨_,rfl⟩
 obtain⟨n,hn⟩:∃q,bl.length=q:=⟨_,rfl⟩
 rw[hlen] at h1 l1;rw[hm] at h2 l2;rw[hn] at h3 l3;try rw[hlen]
 try rw[hm]
 try rw[hn]
 clear hn;obtain⟨Z,hZ⟩:∃Z,w.alloc (.cells #[.slice a len cap,.slice b m cp,.slice d n cb] 51)=Z:=⟨_,rfl⟩
 have hkz:Kept w Z:=by rw[←hZ];exact ja _ _
 have HQ:=lH (show jg w.heap.size [.slice a len cap,.slice b m cp,.slice d n cb] Z from jf w (.slice a len cap) [.slice b m cp,.slice d n cb] 51 Z (by rw[hZ];exact Kept.refl _));have HN:=lH (h1.kept hkz);have HP:=lH (h2.kept hkz);have HNR:=lH (Zk l1 m1 (h1.kept hkz));have HKZ:=lH hkz;have HL1:=lH hlen;have HL2:=lH hm;have hml1:=Nat.le_trans l1 m1;have hml2:=Nat.le_trans l2 m2;unfold maxLen at hml1 hml2;clear h1 h2 h3 l1 l2 l3 m1 m2 m3 hkz;have cq0:=(HQ.out.kept (Kept.refl _)).at_ 0 _ rfl;have cq1:=(HQ.out.kept (Kept.refl _)).at_ 1 _ rfl;have cq2:=(HQ.out.kept (Kept.refl _)).at_ 2 _ rfl;obtain⟨o,ho⟩:∃o,jX nl x=o:=⟨_,rfl⟩
 have HF:=lH ho;go_enter Try.func59,Try.ntmps59;go_wp2_with fail
 try rw[hZ]
 clear hZ;refine(jbj HNR.out).mono ?_;rw[ho];rintro e w1 ⟨v9,rfl,hr,kk⟩;obtain⟨nn,hnn⟩:∃q,o.getD Nod.zero=q:=⟨_,rfl⟩
 rw[hnn] at hr;obtain⟨y1,y2,y3,rfl,hat⟩:=hr;have g1:=hat.cap;have g2:=hat.labels;have g3:=hat.taints;obtain⟨b1,d1,rfl,-,-,-⟩:=g1;obtain⟨b2,d2,rfl,-,-,-⟩:=g2;obtain⟨b3,d3,rfl,-,-,-⟩:=g3;unfold zR;obtain⟨n1,hn1⟩:∃q,nn.cap.length=q:=⟨_,rfl⟩
 obtain⟨n2,hn2⟩:∃q,nn.labels.length=q:=⟨_,rfl⟩
 obtain⟨n3,hn3⟩:∃q,nn.taints.length=q:=⟨_,rfl⟩
 rw[hn1,hn2,hn3];have K1:=lH kk;clear hat kk hn1 hn2 hn3 hnn ho cq0 cq1 cq2;obtain⟨W1,hW1⟩:∃W,w1.alloc (.cells #[.string nn.name,.slice b1 n1 d1,.slice b2 n2 d2,.slice b3 n3 d3,.bool nn.cordon] 99)=W:=⟨_,rfl⟩
 have K1:=lH (K1.out.trans (show Kept w1 W1 by rw[←hW1];exact ja _ _))
 cases o with
 | none =>
  go_wp2;try rw[hW1]
  go_ret2
  exact J6.mk' (ja9 HF.out) (Ze _) (HKZ.out.trans K1.out)
 | some nod =>
  have HU:=lH (show JC ⟨nl,pl,bl⟩ x=jZ x pl [] from YY HF.out);have cq0:=(HQ.out.kept K1.out).at_ 0 _ rfl;have cq1:=(HQ.out.kept K1.out).at_ 1 _ rfl;have cq2:=(HQ.out.kept K1.out).at_ 2 _ rfl;have HW:=lH hW1;clear hW1;go_wp2;try rw[HW.out]
  clear HW cq0 cq1 cq2;go_loopw [8,9] (fun s i wr=>∃k:Nat,k≤m∧i=.int .i64 k∧∃acc:Vec.V,Vec.Reads wr s acc∧jZ x (pl.drop k) acc=jZ x pl []∧Kept Z wr) (fun _ i _=>m-(intOf i).toNat)
  case atStart=>exact⟨0,Nat.zero_le _,rfl,[],Ze _,rfl,K1.out⟩
  case round =>
   obtain⟨k,hk,rfl,acc,hacc,hrest,hK⟩:=hrel;have HS:=lH hrest;have HA:=lH hacc;have HK:=lH hK;have cq0:=(HQ.out.kept hK).at_ 0 _ rfl;have cq1:=(HQ.out.kept hK).at_ 1 _ rfl;have cq2:=(HQ.out.kept hK).at_ 2 _ rfl;by_cases hlt:k<m
   · obtain⟨b9,off,rfl⟩:=HP.out.form.resolve_left (by omega);obtain⟨n9,x1,y1,z1,x2,y2,z2,x3,y3,z3,x4,y4,z4,hn,hd,hb,p0,p1,p2,p3,p4,p5,p6,p7,p8,p9,p10,hat⟩:=(HP.out.kept hK).at_ hlt;have HD:=lH hd;have hkk:(k:Int)<(m:Int):=by omega
     obtain⟨e1,he1⟩:∃e,eqS n9.node x=e:=⟨_,rfl⟩
     have he1':(n9.node.toList==x.toList)=e1:=he1;have he1n:(n9.node.toList != x.toList)=!e1:=by rw[bne,he1']
     have HE:=lH he1
     cases e1 with
     | false =>
      have HX:=lH (show jZ x (pl.drop (k+1)) acc=jZ x pl [] by rw[←hrest,hd,jaP he1]);clear hacc hrest hK hat hn hd he1;go_wp2;go_roundw
      case rel=>exact⟨k+1,by omega,by go_num,acc,HA.out,HX.out,HK.out⟩
      case measure=>simp[intOf];omega
     | true =>
      obtain⟨c,mm,hcm⟩:∃c mm,Vec.jA Vec.jU acc n9.need=(c,mm):=⟨_,_,rfl⟩
      have HC:=lH hcm;have HCC:=lH (Vec.jaR hacc hat.need hcm);clear hacc hrest hK hat hn hd he1 hcm;go_wp2_with fail
      refine HCC.out.mono ?_;rintro e w2 ⟨y,rfl,hy,kk⟩;have K2:=lH (HK.out.trans kk);have HY:=lH hy;clear hy kk;by_cases hc:c=0
      · subst hc;have HX:=lH (show jZ x (pl.drop (k+1)) mm=jZ x pl [] by rw[←HS.out,HD.out,jbO HE.out HC.out]);go_wp2;go_roundw
        case rel=>exact⟨k+1,by omega,by go_num,mm,HY.out,HX.out,K2.out⟩
        case measure=>simp[intOf];omega
      · have HX:=lH (show jZ x pl []=(c,[]) by rw[←HS.out,HD.out,jbJ HE.out HC.out hc]);have hcn:(c != 0)=true:=by simpa using hc
        clear hc;go_wp2;go_ret2
        exact J6.mk' (HU.out.trans HX.out) (Ze _) (HKZ.out.trans K2.out)
   · have HX:=lH (show jZ x pl []=(0,acc) by rw[←hrest,List.drop_of_length_le (by rw[HL2.out];omega)];rfl);have hkk:¬(k:Int)<(m:Int):=by omega
     clear hacc hrest hK;go_wp2;go_ret2
     exact J6.mk' (HU.out.trans HX.out) HA.out (HKZ.out.trans HK.out)
theorem jby {v:Value} {s:Clu} {w:World} (h:zU w v s):Calls Try.prog 61 #[v] w (J6 (jcT s) w):=by
 obtain⟨v1,v2,v3,rfl,⟨a,cap,rfl,l1,m1,h1⟩,⟨b,cp,rfl,l2,m2,h2⟩,⟨d,cb,rfl,l3,m3,h3⟩⟩:=h;obtain⟨nl,pl,bl⟩:=s;dsimp only at *;obtain⟨len,hlen⟩:∃q,nl.length=q:=⟨_,rfl⟩
 obtain⟨m,hm⟩:∃q,pl.length=q:=⟨_,rfl⟩
 obtain⟨n,hn⟩:∃q,bl.length=q:=⟨_,rfl⟩
 rw[hlen] at h1 l1;rw[hm] at h2 l2;rw[hn] at h3 l3;try rw[hlen]
 try rw[hm]
 try rw[hn]
 clear hn;obtain⟨Z,hZ⟩:∃Z,w.alloc (.cells #[.slice a len cap,.slice b m cp,.slice d n cb] 51)=Z:=⟨_,rfl⟩
 have hkz:Kept w Z:=by rw[←hZ];exact ja _ _
 have HQ:=lH (show jg w.heap.size [.slice a len cap,.slice b m cp,.slice d n cb] Z from jf w (.slice a len cap) [.slice b m cp,.slice d n cb] 51 Z (by rw[hZ];exact Kept.refl _));have HN:=lH (h1.kept hkz);have HP:=lH (h2.kept hkz);have HNR:=lH (Zk l1 m1 (h1.kept hkz));have HKZ:=lH hkz;have HL1:=lH hlen;have HL2:=lH hm;have hml1:=Nat.le_trans l1 m1;have hml2:=Nat.le_trans l2 m2;unfold maxLen at hml1 hml2;clear h1 h2 h3 l1 l2 l3 m1 m2 m3 hkz;have cq0:=(HQ.out.kept (Kept.refl _)).at_ 0 _ rfl;have cq1:=(HQ.out.kept (Kept.refl _)).at_ 1 _ rfl;have cq2:=(HQ.out.kept (Kept.refl _)).at_ 2 _ rfl;show Calls _ _ _ _ (J6 (zS nl []) w);go_enter Try.func61,Try.ntmps61;go_wp2;try rw[hZ]
 clear hZ cq0 cq1 cq2;go_loopw [4,5] (fun s i wr=>∃k:Nat,k≤len∧i=.int .i64 k∧∃acc:Vec.V,Vec.Reads wr s acc∧zS (nl.drop k) acc=zS nl []∧Kept Z wr) (fun _ i _=>len-(intOf i).toNat)
 case atStart=>exact⟨0,Nat.zero_le _,rfl,[],Ze _,rfl,Kept.refl _⟩
 case round =>
  obtain⟨k,hk,rfl,acc,hacc,hrest,hK⟩:=hrel;have HS:=lH hrest;have HA:=lH hacc;have HK:=lH hK;have cq0:=(HQ.out.kept hK).at_ 0 _ rfl;have cq1:=(HQ.out.kept hK).at_ 1 _ rfl;have cq2:=(HQ.out.kept hK).at_ 2 _ rfl;by_cases hlt:k<len
  · obtain⟨b9,off,rfl⟩:=HN.out.form.resolve_left (by omega);obtain⟨n9,x1,y1,z1,x2,y2,z2,x3,y3,z3,hn,hd,hb,p0,p1,p2,p3,p4,hat⟩:=(HN.out.kept hK).at_ hlt;have HD:=lH hd;have hkk:(k:Int)<(len:Int):=by omega
    obtain⟨c,mm,hcm⟩:∃c mm,Vec.jA Vec.jU acc n9.cap=(c,mm):=⟨_,_,rfl⟩
    have HC:=lH hcm;have HCC:=lH (Vec.jaR hacc hat.cap hcm);clear hacc hrest hK hat hn hd hcm;go_wp2_with fail
    refine HCC.out.mono ?_;rintro e w2 ⟨y,rfl,hy,kk⟩;have K2:=lH (HK.out.trans kk);have HY:=lH hy;clear hy kk;by_cases hc:c=0
    · subst hc;have HX:=lH (show zS (nl.drop (k+1)) mm=zS nl [] by rw[←HS.out,HD.out,jbW HC.out]);go_wp2;go_roundw
      case rel=>exact⟨k+1,by omega,by go_num,mm,HY.out,HX.out,K2.out⟩
      case measure=>simp[intOf];omega
    · have HX:=lH (show zS nl []=(c,[]) by rw[←HS.out,HD.out,jcr HC.out hc]);have hcn:(c != 0)=true:=by simpa using hc
      clear hc;go_wp2;go_ret2
      exact J6.mk' HX.out (Ze _) (HKZ.out.trans K2.out)
  · have HX:=lH (show zS nl []=(0,acc) by rw[←hrest,List.drop_of_length_le (by rw[HL1.out];omega)];rfl);have hkk:¬(k:Int)<(len:Int):=by omega
    clear hacc hrest hK;go_wp2;go_ret2
    exact J6.mk' HX.out HA.out (HKZ.out.trans HK.out)
def jc7 (r:Int×Vec.V) (w:World) (e:Ending) (w':World):Prop:=(r.1=0→∃v,e=.returned v∧Vec.jR 114 w' w.heap.size v r.2)∧(r.1≠0→e=.panicked [zA r.1])∧Kept w w'
theorem jc7.ok {m:Vec.V} {w w':World} {e:Ending} {r:Int×Vec.V} (h:jc7 r w e w') (hr:r=(0,m)):∃v,e=.returned v∧Vec.jR 114 w' w.heap.size v m∧Kept w w':=by
 subst hr;obtain⟨v,rfl,g⟩:=h.1 rfl;exact⟨v,rfl,g,h.2.2⟩
theorem Yc {nl:List Nod} {pl:List Pd} {bl:List Bd} {c:Int} (h:or3 (jw nl) (jM pl) (jz bl)=c) (hc:c≠0):zQ ⟨nl,pl,bl⟩=c:=by
 unfold zQ;dsimp only;rw[h,if_pos hc]
theorem jbb {nl:List Nod} {pl:List Pd} {bl:List Bd} {c:Int} (h:or3 (jw nl) (jM pl) (jz bl)=0) (g:jq nl pl=c) (hc:c≠0):zQ ⟨nl,pl,bl⟩=c:=by
 unfold zQ;dsimp only;rw[h,if_neg (by simp),g,if_pos hc]
theorem XI {nl:List Nod} {pl:List Pd} {bl:List Bd} {c:Int} (h:or3 (jw nl) (jM pl) (jz bl)=0) (g:jq nl pl=0) (r:jC pl nl=c) (hc:c≠0):zQ ⟨nl,pl,bl⟩=c:=by
 unfold zQ;dsimp only;rw[h,if_neg (by simp),g,if_neg (by simp),r,if_pos hc]
theorem jcg {nl:List Nod} {pl:List Pd} {bl:List Bd} (h:or3 (jw nl) (jM pl) (jz bl)=0) (g:jq nl pl=0) (r:jC pl nl=0):zQ ⟨nl,pl,bl⟩=(zS nl []).1:=by
 unfold zQ;dsimp only;rw[h,if_neg (by simp),g,if_neg (by simp),r,if_neg (by simp)]
theorem jn {x:Int} {t:List Int} (h:x=0):orL (x::t)=orL t:=by subst h;rfl
theorem ji {x v:Int} {t:List Int} (h:x=v) (hv:v≠0):orL (x::t)=v:=by
 subst h;show (if x≠0 then x else orL t)=x;rw[if_pos hv]
theorem Jg {x:Int}:orL [x]=x:=by
 show (if x≠0 then x else 0)=x;by_cases h:x=0
 · rw[if_neg (fun g=>g h),h]
 · rw[if_pos h]
theorem eor {x:ByteArray} {q r:Bool} (h:(x.toList==([]:List UInt8))=q) (g:isName x=r):ZH x=(q||r):=by unfold ZH;rw[zE,h,g]
theorem qA (n:Pd) (v1 v2 v3 v4:Value) (w:World) (h:jE w v1 v2 v3 v4 n) :
 Calls Try.prog 9 #[j2 n v1 v2 v3 v4] w (Say (.int .i64 (Jo n)) w):=by
 obtain⟨x0,x1,x2,l1,l2,l3,l4,x3,x4,x5,x6⟩:=n;have s0:x0.size≤maxLen:=h.name;have s1:x1.size≤maxLen:=h.owner;have s3:x3.size≤maxLen:=h.key;have s5:x5.size≤maxLen:=h.node;obtain⟨W0,hW0⟩:∃Z,w.alloc (.cells #[.string x0,.string x1,.int .i64 x2,v1,v2,v3,v4,.string x3,.int .i64 x4,.string x5,.bool x6] 45)=Z:=⟨_,rfl⟩
 have hk0:Kept w W0:=by rw[←hW0];exact ja _ _
 have HC:=lH (show ∀W,Kept W0 W→W.cell? ⟨w.heap.size,0,none⟩=some (.string x0)∧W.cell? ⟨w.heap.size,1,none⟩=some (.string x1)∧W.cell? ⟨w.heap.size,2,none⟩=some (.int .i64 x2)∧W.cell? ⟨w.heap.size,3,none⟩=some (v1)∧W.cell? ⟨w.heap.size,4,none⟩=some (v2)∧W.cell? ⟨w.heap.size,5,none⟩=some (v3)∧W.cell? ⟨w.heap.size,6,none⟩=some (v4)∧W.cell? ⟨w.heap.size,7,none⟩=some (.string x3)∧W.cell? ⟨w.heap.size,8,none⟩=some (.int .i64 x4)∧W.cell? ⟨w.heap.size,9,none⟩=some (.string x5)∧W.cell? ⟨w.heap.size,10,none⟩=some (.bool x6) from fun W k=>by
  have:=jf w (.string x0) [.string x1,.int .i64 x2,v1,v2,v3,v4,.string x3,.int .i64 x4,.string x5,.bool x6] 45 W (by rw[hW0];exact k);exact⟨this.at_ 0 _ rfl,this.at_ 1 _ rfl,this.at_ 2 _ rfl,this.at_ 3 _ rfl,this.at_ 4 _ rfl,this.at_ 5 _ rfl,this.at_ 6 _ rfl,this.at_ 7 _ rfl,this.at_ 8 _ rfl,this.at_ 9 _ rfl,this.at_ 10 _ rfl⟩)
 obtain⟨y1,hy1⟩:∃y,Vec.jo l1=y:=⟨_,rfl⟩
 obtain⟨y2,hy2⟩:∃y,Jh l2=y:=⟨_,rfl⟩
 obtain⟨y3,hy3⟩:∃y,JO l3=y:=⟨_,rfl⟩
 obtain⟨y4,hy4⟩:∃y,zY l4=y:=⟨_,rfl⟩
 have E1:=lH (fun W (k:Kept W0 W)=>Vec.zr (h.need.kept (hk0.trans k)) hy1);have E2:=lH (fun W (k:Kept W0 W)=>zr (h.labels.kept (hk0.trans k)) hy2);have E3:=lH (fun W (k:Kept W0 W)=>ZD (h.sel.kept (hk0.trans k)) hy3);have E4:=lH (fun W (k:Kept W0 W)=>qW (h.tols.kept (hk0.trans k)) hy4);have HV:=lH (show Jo ⟨x0,x1,x2,l1,l2,l3,l4,x3,x4,x5,x6⟩=orL [Zh x0 x1,ZO x2 x6,y1,y2,y3,y4,JU x3 x4,ZP x5] by rw[←hy1,←hy2,←hy3,←hy4];rfl);obtain⟨r0,hr0⟩:∃r,isName x0=r:=⟨_,rfl⟩
 obtain⟨r1,hr1⟩:∃r,isName x1=r:=⟨_,rfl⟩
 obtain⟨r3,hr3⟩:∃r,isName x3=r:=⟨_,rfl⟩
 obtain⟨r5,hr5⟩:∃r,isName x5=r:=⟨_,rfl⟩
 obtain⟨q1,hq1⟩:∃q,(x1.toList==([]:List UInt8))=q:=⟨_,rfl⟩
 obtain⟨q3,hq3⟩:∃q,(x3.toList==([]:List UInt8))=q:=⟨_,rfl⟩
 obtain⟨q5,hq5⟩:∃q,(x5.toList==([]:List UInt8))=q:=⟨_,rfl⟩
 have N0:=lH (fun W=>Vec.Jl (w:=W) s0 hr0);have N1:=lH (fun W=>Vec.Jl (w:=W) s1 hr1);have N3:=lH (fun W=>Vec.Jl (w:=W) s3 hr3);have N5:=lH (fun W=>Vec.Jl (w:=W) s5 hr5);have HN:=lH (show Zh x0 x1=if r0=true∧(q1||r1)=true then 0 else 3 by unfold Zh;rw[eor hq1 hr1,hr0]);have HS:=lH (show JU x3 x4=if (q3||r3)=false then 3 else if (if q3=true then decide (x4≠0) else decide (x4<1)||decide (128<x4))=true then 1 else 0 by unfold JU YV;rw[eor hq3 hr3,zE,hq3]);have HD:=lH (show ZP x5=if (q5||r5)=true then 0 else 3 by unfold ZP;rw[eor hq5 hr5]);obtain⟨zz,hzz⟩:∃z,(x2==-1)=z:=⟨_,rfl⟩
 have HP:=lH (show ZO x2 x6=if (decide (x2 < -1)||(decide (1000000<x2)||(zz != x6)))=true then 1 else 0 by unfold ZO qL;rw[show decide (x2=-1)=zz from hzz]);have HK0:=lH hk0;obtain⟨c0,c1,c2,c3,c4,c5,c6,c7,c8,c9,c10⟩:=HC.out _ (Kept.refl _);clear h hk0 hy1 hy2 hy3 hy4 hr0 hr1 hr3 hr5 s0 s1 s3 s5;unfold j2;dsimp only;go_enter Try.func9,Try.ntmps9;go_wp2_with fail
 try rw[hW0]
 clear hW0;refine(N0.out _).mono ?_;rintro e w9 ⟨rfl,rfl⟩
 cases r0 with
 | false =>
  have HV:=lH (HV.out.trans (ji (v:=3) (HN.out.trans (by simp)) (by decide)));go_wp2;go_ret;exact⟨jb HV.out.symm,HK0.out.trans (Kept.refl _)⟩
 | true =>
  cases q1 with
  | true =>
   have HV:=lH (HV.out.trans (jn (HN.out.trans (by simp))));by_cases p1:x2 < -1
   · have HV:=lH (HV.out.trans (ji (v:=1) (HP.out.trans (by simp[p1])) (by decide)));clear hzz;go_wp2;go_ret;exact⟨jb HV.out.symm,HK0.out.trans (Kept.refl _)⟩
   · have p1:-1≤x2:=by omega
     by_cases p2:1000000<x2
     · have HV:=lH (HV.out.trans (ji (v:=1) (HP.out.trans (by simp[p2])) (by decide)));clear hzz;go_wp2;go_ret;exact⟨jb HV.out.symm,HK0.out.trans (Kept.refl _)⟩
     · have p2:x2≤1000000:=by omega
       have HP:=lH (HP.out.trans (show (if (decide (x2 < -1)||(decide (1000000<x2)||(zz != x6)))=true then 1 else 0)=(if (zz != x6)=true then 1 else 0) by rw[show decide (x2 < -1)=false by simp;omega,show decide (1000000<x2)=false by simp;omega];rfl))
       cases zz<;>cases x6
       ·
        have HV:=lH (HV.out.trans (jn HP.out));go_wp2_with fail
        refine(E1.out _ (Kept.refl _)).mono ?_;rintro e w1 ⟨rfl,k⟩;have K1:=lH (Kept.trans (Kept.refl _) k);clear k c0 c1 c2 c3 c4 c5 c6 c7 c8 c9 c10;obtain⟨c0,c1,c2,c3,c4,c5,c6,c7,c8,c9,c10⟩:=HC.out _ K1.out;by_cases z1:y1=0;rotate_left
        · have z9:(y1 != 0)=true:=by simpa using z1
          have HV:=lH (HV.out.trans (ji rfl z1));clear z1;go_wp2;go_ret;exact⟨jb HV.out.symm,HK0.out.trans K1.out⟩
        subst z1;have HV:=lH (HV.out.trans (jn rfl));go_wp2_with fail
        refine(E2.out _ K1.out).mono ?_;rintro e w2 ⟨rfl,k⟩;have K2:=lH (Kept.trans K1.out k);clear k c0 c1 c2 c3 c4 c5 c6 c7 c8 c9 c10;obtain⟨c0,c1,c2,c3,c4,c5,c6,c7,c8,c9,c10⟩:=HC.out _ K2.out;by_cases z2:y2=0;rotate_left
        · have z9:(y2 != 0)=true:=by simpa using z2
          have HV:=lH (HV.out.trans (ji rfl z2));clear z2;go_wp2;go_ret;exact⟨jb HV.out.symm,HK0.out.trans K2.out⟩
        subst z2;have HV:=lH (HV.out.trans (jn rfl));go_wp2_with fail
        refine(E3.out _ K2.out).mono ?_;rintro e w3 ⟨rfl,k⟩;have K3:=lH (Kept.trans K2.out k);clear k c0 c1 c2 c3 c4 c5 c6 c7 c8 c9 c10;obtain⟨c0,c1,c2,c3,c4,c5,c6,c7,c8,c9,c10⟩:=HC.out _ K3.out;by_cases z3:y3=0;rotate_left
        · have z9:(y3 != 0)=true:=by simpa using z3
          have HV:=lH (HV.out.trans (ji rfl z3));clear z3;go_wp2;go_ret;exact⟨jb HV.out.symm,HK0.out.trans K3.out⟩
        subst z3;have HV:=lH (HV.out.trans (jn rfl));go_wp2_with fail
        refine(E4.out _ K3.out).mono ?_;rintro e w4 ⟨rfl,k⟩;have K4:=lH (Kept.trans K3.out k);clear k c0 c1 c2 c3 c4 c5 c6 c7 c8 c9 c10;obtain⟨c0,c1,c2,c3,c4,c5,c6,c7,c8,c9,c10⟩:=HC.out _ K4.out;by_cases z4:y4=0;rotate_left
        · have z9:(y4 != 0)=true:=by simpa using z4
          have HV:=lH (HV.out.trans (ji rfl z4));clear z4;go_wp2;go_ret;exact⟨jb HV.out.symm,HK0.out.trans K4.out⟩
        subst z4;have HV:=lH (HV.out.trans (jn rfl))
        cases q3 with
        | true =>
         by_cases m1:x4=0
         · subst m1;have HV:=lH (HV.out.trans (jn HS.out));have HV:=lH (HV.out.trans (Jg.trans HD.out))
           cases q5 with
           | true =>
            go_wp2;go_ret;exact⟨jb HV.out.symm,HK0.out.trans K4.out⟩
           | false =>
            go_wp2_with fail
            refine(N5.out _).mono ?_;rintro e w9 ⟨rfl,rfl⟩
            cases r5 with
            | false =>
             go_wp2;go_ret;exact⟨jb HV.out.symm,HK0.out.trans K4.out⟩
            | true =>
             go_wp2;go_ret;exact⟨jb HV.out.symm,HK0.out.trans K4.out⟩
         · have HV:=lH (HV.out.trans (ji (v:=1) (HS.out.trans (by simp[m1])) (by decide)));have m1:(x4 != 0)=true:=by simpa using m1
           go_wp2;go_ret;exact⟨jb HV.out.symm,HK0.out.trans K4.out⟩
        | false =>
         go_wp2_with fail
         refine(N3.out _).mono ?_;rintro e w9 ⟨rfl,rfl⟩
         cases r3 with
         | false =>
          have HV:=lH (HV.out.trans (ji (v:=3) HS.out (by decide)));go_wp2;go_ret;exact⟨jb HV.out.symm,HK0.out.trans K4.out⟩
         | true =>
          by_cases m1:x4<1
          · have HV:=lH (HV.out.trans (ji (v:=1) (HS.out.trans (by simp[m1])) (by decide)));go_wp2;go_ret;exact⟨jb HV.out.symm,HK0.out.trans K4.out⟩
          · have m1:1≤x4:=by omega
            by_cases m2:128<x4
            · have HV:=lH (HV.out.trans (ji (v:=1) (HS.out.trans (by simp[m2])) (by decide)));go_wp2;go_ret;exact⟨jb HV.out.symm,HK0.out.trans K4.out⟩
            · have m2:x4≤128:=by omega
              have HV:=lH (HV.out.trans (jn (HS.out.trans (by rw[show decide (x4<1)=false by simp;omega,show decide (128<x4)=false by simp;omega];rfl))));have HV:=lH (HV.out.trans (Jg.trans HD.out))
              cases q5 with
              | true =>
               go_wp2;go_ret;exact⟨jb HV.out.symm,HK0.out.trans K4.out⟩
              | false =>
               go_wp2_with fail
               refine(N5.out _).mono ?_;rintro e w9 ⟨rfl,rfl⟩
               cases r5 with
               | false =>
                go_wp2;go_ret;exact⟨jb HV.out.symm,HK0.out.trans K4.out⟩
               | true =>
                go_wp2;go_ret;exact⟨jb HV.out.symm,HK0.out.trans K4.out⟩
       ·
        have HV:=lH (HV.out.trans (ji (v:=1) HP.out (by decide)));go_wp2;go_ret;exact⟨jb HV.out.symm,HK0.out.trans (Kept.refl _)⟩
       ·
        have HV:=lH (HV.out.trans (ji (v:=1) HP.out (by decide)));go_wp2;go_ret;exact⟨jb HV.out.symm,HK0.out.trans (Kept.refl _)⟩
       ·
        have HV:=lH (HV.out.trans (jn HP.out));go_wp2_with fail
        refine(E1.out _ (Kept.refl _)).mono ?_;rintro e w1 ⟨rfl,k⟩;have K1:=lH (Kept.trans (Kept.refl _) k);clear k c0 c1 c2 c3 c4 c5 c6 c7 c8 c9 c10;obtain⟨c0,c1,c2,c3,c4,c5,c6,c7,c8,c9,c10⟩:=HC.out _ K1.out;by_cases z1:y1=0;rotate_left
        · have z9:(y1 != 0)=true:=by simpa using z1
          have HV:=lH (HV.out.trans (ji rfl z1));clear z1;go_wp2;go_ret;exact⟨jb HV.out.symm,HK0.out.trans K1.out⟩
        subst z1;have HV:=lH (HV.out.trans (jn rfl));go_wp2_with fail
        refine(E2.out _ K1.out).mono ?_;rintro e w2 ⟨rfl,k⟩;have K2:=lH (Kept.trans K1.out k);clear k c0 c1 c2 c3 c4 c5 c6 c7 c8 c9 c10;obtain⟨c0,c1,c2,c3,c4,c5,c6,c7,c8,c9,c10⟩:=HC.out _ K2.out;by_cases z2:y2=0;rotate_left
        · have z9:(y2 != 0)=true:=by simpa using z2
          have HV:=lH (HV.out.trans (ji rfl z2));clear z2;go_wp2;go_ret;exact⟨jb HV.out.symm,HK0.out.trans K2.out⟩
        subst z2;have HV:=lH (HV.out.trans (jn rfl));go_wp2_with fail
        refine(E3.out _ K2.out).mono ?_;rintro e w3 ⟨rfl,k⟩;have K3:=lH (Kept.trans K2.out k);clear k c0 c1 c2 c3 c4 c5 c6 c7 c8 c9 c10;obtain⟨c0,c1,c2,c3,c4,c5,c6,c7,c8,c9,c10⟩:=HC.out _ K3.out;by_cases z3:y3=0;rotate_left
        · have z9:(y3 != 0)=true:=by simpa using z3
          have HV:=lH (HV.out.trans (ji rfl z3));clear z3;go_wp2;go_ret;exact⟨jb HV.out.symm,HK0.out.trans K3.out⟩
        subst z3;have HV:=lH (HV.out.trans (jn rfl));go_wp2_with fail
        refine(E4.out _ K3.out).mono ?_;rintro e w4 ⟨rfl,k⟩;have K4:=lH (Kept.trans K3.out k);clear k c0 c1 c2 c3 c4 c5 c6 c7 c8 c9 c10;obtain⟨c0,c1,c2,c3,c4,c5,c6,c7,c8,c9,c10⟩:=HC.out _ K4.out;by_cases z4:y4=0;rotate_left
        · have z9:(y4 != 0)=true:=by simpa using z4
          have HV:=lH (HV.out.trans (ji rfl z4));clear z4;go_wp2;go_ret;exact⟨jb HV.out.symm,HK0.out.trans K4.out⟩
        subst z4;have HV:=lH (HV.out.trans (jn rfl))
        cases q3 with
        | true =>
         by_cases m1:x4=0
         · subst m1;have HV:=lH (HV.out.trans (jn HS.out));have HV:=lH (HV.out.trans (Jg.trans HD.out))
           cases q5 with
           | true =>
            go_wp2;go_ret;exact⟨jb HV.out.symm,HK0.out.trans K4.out⟩
           | false =>
            go_wp2_with fail
            refine(N5.out _).mono ?_;rintro e w9 ⟨rfl,rfl⟩
            cases r5 with
            | false =>
             go_wp2;go_ret;exact⟨jb HV.out.symm,HK0.out.trans K4.out⟩
            | true =>
             go_wp2;go_ret;exact⟨jb HV.out.symm,HK0.out.trans K4.out⟩
         · have HV:=lH (HV.out.trans (ji (v:=1) (HS.out.trans (by simp[m1])) (by decide)));have m1:(x4 != 0)=true:=by simpa using m1
           go_wp2;go_ret;exact⟨jb HV.out.symm,HK0.out.trans K4.out⟩
        | false =>
         go_wp2_with fail
         refine(N3.out _).mono ?_;rintro e w9 ⟨rfl,rfl⟩
         cases r3 with
         | false =>
          have HV:=lH (HV.out.trans (ji (v:=3) HS.out (by decide)));go_wp2;go_ret;exact⟨jb HV.out.symm,HK0.out.trans K4.out⟩
         | true =>
          by_cases m1:x4<1
          · have HV:=lH (HV.out.trans (ji (v:=1) (HS.out.trans (by simp[m1])) (by decide)));go_wp2;go_ret;exact⟨jb HV.out.symm,HK0.out.trans K4.out⟩
          · have m1:1≤x4:=by omega
            by_cases m2:128<x4
            · have HV:=lH (HV.out.trans (ji (v:=1) (HS.out.trans (by simp[m2])) (by decide)));go_wp2;go_ret;exact⟨jb HV.out.symm,HK0.out.trans K4.out⟩
            · have m2:x4≤128:=by omega
              have HV:=lH (HV.out.trans (jn (HS.out.trans (by rw[show decide (x4<1)=false by simp;omega,show decide (128<x4)=false by simp;omega];rfl))));have HV:=lH (HV.out.trans (Jg.trans HD.out))
              cases q5 with
              | true =>
               go_wp2;go_ret;exact⟨jb HV.out.symm,HK0.out.trans K4.out⟩
              | false =>
               go_wp2_with fail
               refine(N5.out _).mono ?_;rintro e w9 ⟨rfl,rfl⟩
               cases r5 with
               | false =>
                go_wp2;go_ret;exact⟨jb HV.out.symm,HK0.out.trans K4.out⟩
               | true =>
                go_wp2;go_ret;exact⟨jb HV.out.symm,HK0.out.trans K4.out⟩
  | false =>
   go_wp2_with fail
   refine(N1.out _).mono ?_;rintro e w9 ⟨rfl,rfl⟩
   cases r1 with
   | false =>
    have HV:=lH (HV.out.trans (ji (v:=3) (HN.out.trans (by simp)) (by decide)));go_wp2;go_ret;exact⟨jb HV.out.symm,HK0.out.trans (Kept.refl _)⟩
   | true =>
    have HV:=lH (HV.out.trans (jn (HN.out.trans (by simp))));by_cases p1:x2 < -1
    · have HV:=lH (HV.out.trans (ji (v:=1) (HP.out.trans (by simp[p1])) (by decide)));clear hzz;go_wp2;go_ret;exact⟨jb HV.out.symm,HK0.out.trans (Kept.refl _)⟩
    · have p1:-1≤x2:=by omega
      by_cases p2:1000000<x2
      · have HV:=lH (HV.out.trans (ji (v:=1) (HP.out.trans (by simp[p2])) (by decide)));clear hzz;go_wp2;go_ret;exact⟨jb HV.out.symm,HK0.out.trans (Kept.refl _)⟩
      · have p2:x2≤1000000:=by omega
        have HP:=lH (HP.out.trans (show (if (decide (x2 < -1)||(decide (1000000<x2)||(zz != x6)))=true then 1 else 0)=(if (zz != x6)=true then 1 else 0) by rw[show decide (x2 < -1)=false by simp;omega,show decide (1000000<x2)=false by simp;omega];rfl))
        cases zz<;>cases x6
        ·
         have HV:=lH (HV.out.trans (jn HP.out));go_wp2_with fail
         refine(E1.out _ (Kept.refl _)).mono ?_;rintro e w1 ⟨rfl,k⟩;have K1:=lH (Kept.trans (Kept.refl _) k);clear k c0 c1 c2 c3 c4 c5 c6 c7 c8 c9 c10;obtain⟨c0,c1,c2,c3,c4,c5,c6,c7,c8,c9,c10⟩:=HC.out _ K1.out;by_cases z1:y1=0;rotate_left
         · have z9:(y1 != 0)=true:=by simpa using z1
           have HV:=lH (HV.out.trans (ji rfl z1));clear z1;go_wp2;go_ret;exact⟨jb HV.out.symm,HK0.out.trans K1.out⟩
         subst z1;have HV:=lH (HV.out.trans (jn rfl));go_wp2_with fail
         refine(E2.out _ K1.out).mono ?_;rintro e w2 ⟨rfl,k⟩;have K2:=lH (Kept.trans K1.out k);clear k c0 c1 c2 c3 c4 c5 c6 c7 c8 c9 c10;obtain⟨c0,c1,c2,c3,c4,c5,c6,c7,c8,c9,c10⟩:=HC.out _ K2.out;by_cases z2:y2=0;rotate_left
         · have z9:(y2 != 0)=true:=by simpa using z2
           have HV:=lH (HV.out.trans (ji rfl z2));clear z2;go_wp2;go_ret;exact⟨jb HV.out.symm,HK0.out.trans K2.out⟩
         subst z2;have HV:=lH (HV.out.trans (jn rfl));go_wp2_with fail
         refine(E3.out _ K2.out).mono ?_;rintro e w3 ⟨rfl,k⟩;have K3:=lH (Kept.trans K2.out k);clear k c0 c1 c2 c3 c4 c5 c6 c7 c8 c9 c10;obtain⟨c0,c1,c2,c3,c4,c5,c6,c7,c8,c9,c10⟩:=HC.out _ K3.out;by_cases z3:y3=0;rotate_left
         · have z9:(y3 != 0)=true:=by simpa using z3
           have HV:=lH (HV.out.trans (ji rfl z3));clear z3;go_wp2;go_ret;exact⟨jb HV.out.symm,HK0.out.trans K3.out⟩
         subst z3;have HV:=lH (HV.out.trans (jn rfl));go_wp2_with fail
         refine(E4.out _ K3.out).mono ?_;rintro e w4 ⟨rfl,k⟩;have K4:=lH (Kept.trans K3.out k);clear k c0 c1 c2 c3 c4 c5 c6 c7 c8 c9 c10;obtain⟨c0,c1,c2,c3,c4,c5,c6,c7,c8,c9,c10⟩:=HC.out _ K4.out;by_cases z4:y4=0;rotate_left
         · have z9:(y4 != 0)=true:=by simpa using z4
           have HV:=lH (HV.out.trans (ji rfl z4));clear z4;go_wp2;go_ret;exact⟨jb HV.out.symm,HK0.out.trans K4.out⟩
         subst z4;have HV:=lH (HV.out.trans (jn rfl))
         cases q3 with
         | true =>
          by_cases m1:x4=0
          · subst m1;have HV:=lH (HV.out.trans (jn HS.out));have HV:=lH (HV.out.trans (Jg.trans HD.out))
            cases q5 with
            | true =>
             go_wp2;go_ret;exact⟨jb HV.out.symm,HK0.out.trans K4.out⟩
            | false =>
             go_wp2_with fail
             refine(N5.out _).mono ?_;rintro e w9 ⟨rfl,rfl⟩
             cases r5 with
             | false =>
              go_wp2;go_ret;exact⟨jb HV.out.symm,HK0.out.trans K4.out⟩
             | true =>
              go_wp2;go_ret;exact⟨jb HV.out.symm,HK0.out.trans K4.out⟩
          · have HV:=lH (HV.out.trans (ji (v:=1) (HS.out.trans (by simp[m1])) (by decide)));have m1:(x4 != 0)=true:=by simpa using m1
            go_wp2;go_ret;exact⟨jb HV.out.symm,HK0.out.trans K4.out⟩
         | false =>
          go_wp2_with fail
          refine(N3.out _).mono ?_;rintro e w9 ⟨rfl,rfl⟩
          cases r3 with
          | false =>
           have HV:=lH (HV.out.trans (ji (v:=3) HS.out (by decide)));go_wp2;go_ret;exact⟨jb HV.out.symm,HK0.out.trans K4.out⟩
          | true =>
           by_cases m1:x4<1
           · have HV:=lH (HV.out.trans (ji (v:=1) (HS.out.trans (by simp[m1])) (by decide)));go_wp2;go_ret;exact⟨jb HV.out.symm,HK0.out.trans K4.out⟩
           · have m1:1≤x4:=by omega
             by_cases m2:128<x4
             · have HV:=lH (HV.out.trans (ji (v:=1) (HS.out.trans (by simp[m2])) (by decide)));go_wp2;go_ret;exact⟨jb HV.out.symm,HK0.out.trans K4.out⟩
             · have m2:x4≤128:=by omega
               have HV:=lH (HV.out.trans (jn (HS.out.trans (by rw[show decide (x4<1)=false by simp;omega,show decide (128<x4)=false by simp;omega];rfl))));have HV:=lH (HV.out.trans (Jg.trans HD.out))
               cases q5 with
               | true =>
                go_wp2;go_ret;exact⟨jb HV.out.symm,HK0.out.trans K4.out⟩
               | false =>
                go_wp2_with fail
                refine(N5.out _).mono ?_;rintro e w9 ⟨rfl,rfl⟩
                cases r5 with
                | false =>
                 go_wp2;go_ret;exact⟨jb HV.out.symm,HK0.out.trans K4.out⟩
                | true =>
                 go_wp2;go_ret;exact⟨jb HV.out.symm,HK0.out.trans K4.out⟩
        ·
         have HV:=lH (HV.out.trans (ji (v:=1) HP.out (by decide)));go_wp2;go_ret;exact⟨jb HV.out.symm,HK0.out.trans (Kept.refl _)⟩
        ·
         have HV:=lH (HV.out.trans (ji (v:=1) HP.out (by decide)));go_wp2;go_ret;exact⟨jb HV.out.symm,HK0.out.trans (Kept.refl _)⟩
        ·
         have HV:=lH (HV.out.trans (jn HP.out));go_wp2_with fail
         refine(E1.out _ (Kept.refl _)).mono ?_;rintro e w1 ⟨rfl,k⟩;have K1:=lH (Kept.trans (Kept.refl _) k);clear k c0 c1 c2 c3 c4 c5 c6 c7 c8 c9 c10;obtain⟨c0,c1,c2,c3,c4,c5,c6,c7,c8,c9,c10⟩:=HC.out _ K1.out;by_cases z1:y1=0;rotate_left
         · have z9:(y1 != 0)=true:=by simpa using z1
           have HV:=lH (HV.out.trans (ji rfl z1));clear z1;go_wp2;go_ret;exact⟨jb HV.out.symm,HK0.out.trans K1.out⟩
         subst z1;have HV:=lH (HV.out.trans (jn rfl));go_wp2_with fail
         refine(E2.out _ K1.out).mono ?_;rintro e w2 ⟨rfl,k⟩;have K2:=lH (Kept.trans K1.out k);clear k c0 c1 c2 c3 c4 c5 c6 c7 c8 c9 c10;obtain⟨c0,c1,c2,c3,c4,c5,c6,c7,c8,c9,c10⟩:=HC.out _ K2.out;by_cases z2:y2=0;rotate_left
         · have z9:(y2 != 0)=true:=by simpa using z2
           have HV:=lH (HV.out.trans (ji rfl z2));clear z2;go_wp2;go_ret;exact⟨jb HV.out.symm,HK0.out.trans K2.out⟩
         subst z2;have HV:=lH (HV.out.trans (jn rfl));go_wp2_with fail
         refine(E3.out _ K2.out).mono ?_;rintro e w3 ⟨rfl,k⟩;have K3:=lH (Kept.trans K2.out k);clear k c0 c1 c2 c3 c4 c5 c6 c7 c8 c9 c10;obtain⟨c0,c1,c2,c3,c4,c5,c6,c7,c8,c9,c10⟩:=HC.out _ K3.out;by_cases z3:y3=0;rotate_left
         · have z9:(y3 != 0)=true:=by simpa using z3
           have HV:=lH (HV.out.trans (ji rfl z3));clear z3;go_wp2;go_ret;exact⟨jb HV.out.symm,HK0.out.trans K3.out⟩
         subst z3;have HV:=lH (HV.out.trans (jn rfl));go_wp2_with fail
         refine(E4.out _ K3.out).mono ?_;rintro e w4 ⟨rfl,k⟩;have K4:=lH (Kept.trans K3.out k);clear k c0 c1 c2 c3 c4 c5 c6 c7 c8 c9 c10;obtain⟨c0,c1,c2,c3,c4,c5,c6,c7,c8,c9,c10⟩:=HC.out _ K4.out;by_cases z4:y4=0;rotate_left
         · have z9:(y4 != 0)=true:=by simpa using z4
           have HV:=lH (HV.out.trans (ji rfl z4));clear z4;go_wp2;go_ret;exact⟨jb HV.out.symm,HK0.out.trans K4.out⟩
         subst z4;have HV:=lH (HV.out.trans (jn rfl))
         cases q3 with
         | true =>
          by_cases m1:x4=0
          · subst m1;have HV:=lH (HV.out.trans (jn HS.out));have HV:=lH (HV.out.trans (Jg.trans HD.out))
            cases q5 with
            | true =>
             go_wp2;go_ret;exact⟨jb HV.out.symm,HK0.out.trans K4.out⟩
            | false =>
             go_wp2_with fail
             refine(N5.out _).mono ?_;rintro e w9 ⟨rfl,rfl⟩
             cases r5 with
             | false =>
              go_wp2;go_ret;exact⟨jb HV.out.symm,HK0.out.trans K4.out⟩
             | true =>
              go_wp2;go_ret;exact⟨jb HV.out.symm,HK0.out.trans K4.out⟩
          · have HV:=lH (HV.out.trans (ji (v:=1) (HS.out.trans (by simp[m1])) (by decide)));have m1:(x4 != 0)=true:=by simpa using m1
            go_wp2;go_ret;exact⟨jb HV.out.symm,HK0.out.trans K4.out⟩
         | false =>
          go_wp2_with fail
          refine(N3.out _).mono ?_;rintro e w9 ⟨rfl,rfl⟩
          cases r3 with
          | false =>
           have HV:=lH (HV.out.trans (ji (v:=3) HS.out (by decide)));go_wp2;go_ret;exact⟨jb HV.out.symm,HK0.out.trans K4.out⟩
          | true =>
           by_cases m1:x4<1
           · have HV:=lH (HV.out.trans (ji (v:=1) (HS.out.trans (by simp[m1])) (by decide)));go_wp2;go_ret;exact⟨jb HV.out.symm,HK0.out.trans K4.out⟩
           · have m1:1≤x4:=by omega
             by_cases m2:128<x4
             · have HV:=lH (HV.out.trans (ji (v:=1) (HS.out.trans (by simp[m2])) (by decide)));go_wp2;go_ret;exact⟨jb HV.out.symm,HK0.out.trans K4.out⟩
             · have m2:x4≤128:=by omega
               have HV:=lH (HV.out.trans (jn (HS.out.trans (by rw[show decide (x4<1)=false by simp;omega,show decide (128<x4)=false by simp;omega];rfl))));have HV:=lH (HV.out.trans (Jg.trans HD.out))
               cases q5 with
               | true =>
                go_wp2;go_ret;exact⟨jb HV.out.symm,HK0.out.trans K4.out⟩
               | false =>
                go_wp2_with fail
                refine(N5.out _).mono ?_;rintro e w9 ⟨rfl,rfl⟩
                cases r5 with
                | false =>
                 go_wp2;go_ret;exact⟨jb HV.out.symm,HK0.out.trans K4.out⟩
                | true =>
                 go_wp2;go_ret;exact⟨jb HV.out.symm,HK0.out.trans K4.out⟩
end Go.Proofs.Ytgfoenfaohhjcaa
