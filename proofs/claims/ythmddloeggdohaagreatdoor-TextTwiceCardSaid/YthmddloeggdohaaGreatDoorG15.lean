/- What serves all packages,and package by package the contracts of the functions that the law calls. -/
import Derived.Test.YthmddloeggdohaaGreatDoorG2
import Derived.Test.YthmddloeggdohaaGreatDoorG4
import Derived.Test.YthmddloeggdohaaGreatDoorG5
import Derived.Test.YthmddloeggdohaaGreatDoorG6
import Derived.Test.YthmddloeggdohaaGreatDoorG8
import Derived.Test.YthmddloeggdohaaGreatDoorG9
import Derived.Test.YthmddloeggdohaaGreatDoorG11
import Derived.Test.YthmddloeggdohaaGreatDoorG12
import Derived.Test.YthmddloeggdohaaGreatDoorG13
import Derived.Test.YthmddloeggdohaaGreatDoorG14
set_option linter.unusedVariables false
set_option maxRecDepth 100000
set_option maxHeartbeats 25600000
namespace Go.Proofs.YthmddloeggdohaaGreatDoor
open Go.RowKit
def jag (r:Int×Vec.V) (w:World) (e:Ending) (w':World):Prop:=∃y,e=.returned (.tuple #[y,.int .i64 r.1])∧Vec.Reads w' y r.2∧Kept w w'
theorem jag.mk' {r:Int×Vec.V} {c:Int} {l:Vec.V} {y:Value} {w w':World} (h:r=(c,l)) (g:Vec.Reads w' y l) (k:Kept w w'):jag r w (.returned (.tuple #[y,.int .i64 c])) w':=by
 subst h;exact⟨y,rfl,g,k⟩
theorem jav (w:World):Vec.Reads w (.slice none 0 0) []:=Vec.Reads.nil w
theorem jks {l:List Nod} {x:ByteArray} {n:Nod} (h:jT l x=some n):n.name=x :=
 zt.1 (List.find?_some (p:=fun n:Nod=>eqS n.name x) h)
theorem jkt {s:Clu} {x:ByteArray} (h:jT s.nodes x=none):X5 s x=(3,[]):=by unfold X5;rw[h]
theorem jeW {s:Clu} {x:ByteArray} {n:Nod} (h:jT s.nodes x=some n):X5 s x=zF x s.pods []:=by unfold X5;rw[h];dsimp only;rw[jks h]
theorem jmE {v:Value} {s:Clu} {w:World} (h:Zl w v s) (x:ByteArray):Calls Tryz.prog 30 #[v,.string x] w (jag (X5 s x) w):=by
 obtain⟨v1,v2,v3,rfl,⟨a,cap,rfl,l1,m1,h1⟩,⟨b,cp,rfl,l2,m2,h2⟩,⟨d,cb,rfl,l3,m3,h3⟩⟩:=h;obtain⟨nl,pl,bl⟩:=s;dsimp only at *;obtain⟨len,hlen⟩:∃q,nl.length=q:=⟨_,rfl⟩
 obtain⟨m,hm⟩:∃q,pl.length=q:=⟨_,rfl⟩
 obtain⟨n,hn⟩:∃q,bl.length=q:=⟨_,rfl⟩
 rw[hlen] at h1 l1;rw[hm] at h2 l2;rw[hn] at h3 l3;try rw[hlen]
 try rw[hm]
 try rw[hn]
 clear hn;obtain⟨Z,hZ⟩:∃Z,w.alloc (.cells #[.slice a len cap,.slice b m cp,.slice d n cb] 48)=Z:=⟨_,rfl⟩
 have hkz:Kept w Z:=by rw[←hZ];exact ja _ _
 have HQ:=lH (show jf w.heap.size [.slice a len cap,.slice b m cp,.slice d n cb] Z from jg w (.slice a len cap) [.slice b m cp,.slice d n cb] 48 Z (by rw[hZ];exact Kept.refl _));have HN:=lH (h1.kept hkz);have HP:=lH (h2.kept hkz);have HNR:=lH (jaV l1 m1 (h1.kept hkz));have HKZ:=lH hkz;have HL1:=lH hlen;have HL2:=lH hm;have hml1:=Nat.le_trans l1 m1;have hml2:=Nat.le_trans l2 m2;unfold maxLen at hml1 hml2;clear h1 h2 h3 l1 l2 l3 m1 m2 m3 hkz;have cq0:=(HQ.out.kept (Kept.refl _)).at_ 0 _ rfl;have cq1:=(HQ.out.kept (Kept.refl _)).at_ 1 _ rfl;have cq2:=(HQ.out.kept (Kept.refl _)).at_ 2 _ rfl;obtain⟨o,ho⟩:∃o,jT nl x=o:=⟨_,rfl⟩
 have HF:=lH ho;go_enter Tryz.func30,Tryz.ntmps30;go_wp2_with fail
 try rw[hZ]
 clear hZ;refine(jkl HNR.out).mono ?_;rw[ho];rintro e w1 ⟨v9,rfl,hr,kk⟩;obtain⟨nn,hnn⟩:∃q,o.getD Nod.zero=q:=⟨_,rfl⟩
 rw[hnn] at hr;obtain⟨y1,y2,y3,rfl,hat⟩:=hr;have g1:=hat.cap;have g2:=hat.labels;have g3:=hat.taints;obtain⟨b1,d1,rfl,-,-,-⟩:=g1;obtain⟨b2,d2,rfl,-,-,-⟩:=g2;obtain⟨b3,d3,rfl,-,-,-⟩:=g3;unfold Jy;obtain⟨n1,hn1⟩:∃q,nn.cap.length=q:=⟨_,rfl⟩
 obtain⟨n2,hn2⟩:∃q,nn.labels.length=q:=⟨_,rfl⟩
 obtain⟨n3,hn3⟩:∃q,nn.taints.length=q:=⟨_,rfl⟩
 rw[hn1,hn2,hn3];have K1:=lH kk;clear hat kk hn1 hn2 hn3 hnn ho cq0 cq1 cq2;obtain⟨W1,hW1⟩:∃W,w1.alloc (.cells #[.string nn.name,.slice b1 n1 d1,.slice b2 n2 d2,.slice b3 n3 d3,.bool nn.cordon] 89)=W:=⟨_,rfl⟩
 have K1:=lH (K1.out.trans (show Kept w1 W1 by rw[←hW1];exact ja _ _))
 cases o with
 | none =>
  go_wp2;try rw[hW1]
  go_ret2
  exact jag.mk' (jkt HF.out) (jav _) (HKZ.out.trans K1.out)
 | some nod =>
  have HU:=lH (show X5 ⟨nl,pl,bl⟩ x=zF x pl [] from jeW HF.out);have cq0:=(HQ.out.kept K1.out).at_ 0 _ rfl;have cq1:=(HQ.out.kept K1.out).at_ 1 _ rfl;have cq2:=(HQ.out.kept K1.out).at_ 2 _ rfl;have HW:=lH hW1;clear hW1;go_wp2;try rw[HW.out]
  clear HW cq0 cq1 cq2;go_loopw [8,9] (fun s i wr=>∃k:Nat,k≤m∧i=.int .i64 k∧∃acc:Vec.V,Vec.Reads wr s acc∧zF x (pl.drop k) acc=zF x pl []∧Kept Z wr) (fun _ i _=>m-(intOf i).toNat)
  case atStart=>exact⟨0,Nat.zero_le _,rfl,[],jav _,rfl,K1.out⟩
  case round =>
   obtain⟨k,hk,rfl,acc,hacc,hrest,hK⟩:=hrel;have HS:=lH hrest;have HA:=lH hacc;have HK:=lH hK;have cq0:=(HQ.out.kept hK).at_ 0 _ rfl;have cq1:=(HQ.out.kept hK).at_ 1 _ rfl;have cq2:=(HQ.out.kept hK).at_ 2 _ rfl;by_cases hlt:k<m
   · obtain⟨b9,off,rfl⟩:=HP.out.form.resolve_left (by omega);obtain⟨n9,x1,y1,z1,x2,y2,z2,x3,y3,z3,x4,y4,z4,hn,hd,hb,p0,p1,p2,p3,p4,p5,p6,p7,p8,p9,p10,hat⟩:=(HP.out.kept hK).at_ hlt;have HD:=lH hd;have hkk:(k:Int)<(m:Int):=by omega
     obtain⟨e1,he1⟩:∃e,eqS n9.node x=e:=⟨_,rfl⟩
     have he1':(n9.node.toList==x.toList)=e1:=he1;have he1n:(n9.node.toList != x.toList)=!e1:=by rw[bne,he1']
     have HE:=lH he1
     cases e1 with
     | false =>
      have HX:=lH (show zF x (pl.drop (k+1)) acc=zF x pl [] by rw[←hrest,hd,jeG he1]);clear hacc hrest hK hat hn hd he1;go_wp2;go_roundw
      case rel=>exact⟨k+1,by omega,by go_num,acc,HA.out,HX.out,HK.out⟩
      case measure=>simp[intOf];omega
     | true =>
      obtain⟨c,mm,hcm⟩:∃c mm,Vec.jx Vec.jR acc n9.need=(c,mm):=⟨_,_,rfl⟩
      have HC:=lH hcm;have HCC:=lH (Vec.jjT hacc hat.need hcm);clear hacc hrest hK hat hn hd he1 hcm;go_wp2_with fail
      refine HCC.out.mono ?_;rintro e w2 ⟨y,rfl,hy,kk⟩;have K2:=lH (HK.out.trans kk);have HY:=lH hy;clear hy kk;by_cases hc:c=0
      · subst hc;have HX:=lH (show zF x (pl.drop (k+1)) mm=zF x pl [] by rw[←HS.out,HD.out,jgo HE.out HC.out]);go_wp2;go_roundw
        case rel=>exact⟨k+1,by omega,by go_num,mm,HY.out,HX.out,K2.out⟩
        case measure=>simp[intOf];omega
      · have HX:=lH (show zF x pl []=(c,[]) by rw[←HS.out,HD.out,jgY HE.out HC.out hc]);have hcn:(c != 0)=true:=by simpa using hc
        clear hc;go_wp2;go_ret2
        exact jag.mk' (HU.out.trans HX.out) (jav _) (HKZ.out.trans K2.out)
   · have HX:=lH (show zF x pl []=(0,acc) by rw[←hrest,List.drop_of_length_le (by rw[HL2.out];omega)];rfl);have hkk:¬(k:Int)<(m:Int):=by omega
     clear hacc hrest hK;go_wp2;go_ret2
     exact jag.mk' (HU.out.trans HX.out) HA.out (HKZ.out.trans HK.out)
theorem jjW {v:Value} {s:Clu} {w:World} (h:Zl w v s):Calls Tryz.prog 32 #[v] w (jag (jnd s) w):=by
 obtain⟨v1,v2,v3,rfl,⟨a,cap,rfl,l1,m1,h1⟩,⟨b,cp,rfl,l2,m2,h2⟩,⟨d,cb,rfl,l3,m3,h3⟩⟩:=h;obtain⟨nl,pl,bl⟩:=s;dsimp only at *;obtain⟨len,hlen⟩:∃q,nl.length=q:=⟨_,rfl⟩
 obtain⟨m,hm⟩:∃q,pl.length=q:=⟨_,rfl⟩
 obtain⟨n,hn⟩:∃q,bl.length=q:=⟨_,rfl⟩
 rw[hlen] at h1 l1;rw[hm] at h2 l2;rw[hn] at h3 l3;try rw[hlen]
 try rw[hm]
 try rw[hn]
 clear hn;obtain⟨Z,hZ⟩:∃Z,w.alloc (.cells #[.slice a len cap,.slice b m cp,.slice d n cb] 48)=Z:=⟨_,rfl⟩
 have hkz:Kept w Z:=by rw[←hZ];exact ja _ _
 have HQ:=lH (show jf w.heap.size [.slice a len cap,.slice b m cp,.slice d n cb] Z from jg w (.slice a len cap) [.slice b m cp,.slice d n cb] 48 Z (by rw[hZ];exact Kept.refl _));have HN:=lH (h1.kept hkz);have HP:=lH (h2.kept hkz);have HNR:=lH (jaV l1 m1 (h1.kept hkz));have HKZ:=lH hkz;have HL1:=lH hlen;have HL2:=lH hm;have hml1:=Nat.le_trans l1 m1;have hml2:=Nat.le_trans l2 m2;unfold maxLen at hml1 hml2;clear h1 h2 h3 l1 l2 l3 m1 m2 m3 hkz;have cq0:=(HQ.out.kept (Kept.refl _)).at_ 0 _ rfl;have cq1:=(HQ.out.kept (Kept.refl _)).at_ 1 _ rfl;have cq2:=(HQ.out.kept (Kept.refl _)).at_ 2 _ rfl;show Calls _ _ _ _ (jag (JN nl []) w);go_enter Tryz.func32,Tryz.ntmps32;go_wp2;try rw[hZ]
 clear hZ cq0 cq1 cq2;go_loopw [4,5] (fun s i wr=>∃k:Nat,k≤len∧i=.int .i64 k∧∃acc:Vec.V,Vec.Reads wr s acc∧JN (nl.drop k) acc=JN nl []∧Kept Z wr) (fun _ i _=>len-(intOf i).toNat)
 case atStart=>exact⟨0,Nat.zero_le _,rfl,[],jav _,rfl,Kept.refl _⟩
 case round =>
  obtain⟨k,hk,rfl,acc,hacc,hrest,hK⟩:=hrel;have HS:=lH hrest;have HA:=lH hacc;have HK:=lH hK;have cq0:=(HQ.out.kept hK).at_ 0 _ rfl;have cq1:=(HQ.out.kept hK).at_ 1 _ rfl;have cq2:=(HQ.out.kept hK).at_ 2 _ rfl;by_cases hlt:k<len
  · obtain⟨b9,off,rfl⟩:=HN.out.form.resolve_left (by omega);obtain⟨n9,x1,y1,z1,x2,y2,z2,x3,y3,z3,hn,hd,hb,p0,p1,p2,p3,p4,hat⟩:=(HN.out.kept hK).at_ hlt;have HD:=lH hd;have hkk:(k:Int)<(len:Int):=by omega
    obtain⟨c,mm,hcm⟩:∃c mm,Vec.jx Vec.jR acc n9.cap=(c,mm):=⟨_,_,rfl⟩
    have HC:=lH hcm;have HCC:=lH (Vec.jjT hacc hat.cap hcm);clear hacc hrest hK hat hn hd hcm;go_wp2_with fail
    refine HCC.out.mono ?_;rintro e w2 ⟨y,rfl,hy,kk⟩;have K2:=lH (HK.out.trans kk);have HY:=lH hy;clear hy kk;by_cases hc:c=0
    · subst hc;have HX:=lH (show JN (nl.drop (k+1)) mm=JN nl [] by rw[←HS.out,HD.out,jf4 HC.out]);go_wp2;go_roundw
      case rel=>exact⟨k+1,by omega,by go_num,mm,HY.out,HX.out,K2.out⟩
      case measure=>simp[intOf];omega
    · have HX:=lH (show JN nl []=(c,[]) by rw[←HS.out,HD.out,jg0 HC.out hc]);have hcn:(c != 0)=true:=by simpa using hc
      clear hc;go_wp2;go_ret2
      exact jag.mk' HX.out (jav _) (HKZ.out.trans K2.out)
  · have HX:=lH (show JN nl []=(0,acc) by rw[←hrest,List.drop_of_length_le (by rw[HL1.out];omega)];rfl);have hkk:¬(k:Int)<(len:Int):=by omega
    clear hacc hrest hK;go_wp2;go_ret2
    exact jag.mk' HX.out HA.out (HKZ.out.trans HK.out)
theorem jd7 (a:Option Addr) (len cap:Nat) (l:List Pd) (w:World) (hr:Jd w a len l) :
 Calls Tryz.prog 27 #[.slice a len cap] w (Say (.int .i64 (jK l)) w):=by
 have hl:=hr.1;have hm:=hr.2.1;unfold maxLen at hm;by_cases h32:128<len
 · have HV:=lH (show jK l=4 by unfold jK;rw[if_pos (by omega)]);clear hr hl;go_enter Tryz.func27,Tryz.ntmps27;go_wp2;go_ret;exact⟨jb HV.out.symm,Kept.refl _⟩
 · have HV:=lH (show jK l=j4 none l by unfold jK;rw[if_neg (by omega)]);have h32':len≤128:=by omega
   by_cases h0:len=0
   · subst h0;have HE:=lH (show jK l=0 by rw[HV.out,List.eq_nil_of_length_eq_zero hl];rfl);clear hr hl h32;go_enter Tryz.func27,Tryz.ntmps27;go_wp2;refine wp_loop_rounds 1 ?_;rw[rounds_succ];go_wp2;go_ret;exact⟨jb HE.out.symm,Kept.refl _⟩
   · obtain⟨b,off,rfl⟩:=hr.form.resolve_left h0;have HR:=lH hr;have HL:=lH hl;clear hr hl h0 h32;go_enter Tryz.func27,Tryz.ntmps27;go_wp2;go_loopw [3] (fun i wr=>∃k:Nat,k≤len∧i=.int .i64 k∧j4 (Yi l k) (l.drop k)=j4 none l∧Kept w wr) (fun i _=>len-(intOf i).toNat)
     case atStart=>exact⟨0,Nat.zero_le _,rfl,rfl,Kept.refl _⟩
     case round =>
      obtain⟨k,hk,rfl,hrest,hK⟩:=hrel;have HS:=lH (HV.out.trans hrest.symm);have HT:=lH hrest;have HK:=lH hK;by_cases hlt:k<len
      · obtain⟨n,a1,m1,c1,a2,m2,c2,a3,m3,c3,a4,m4,c4,hn,hd,hb,p0,p1,p2,p3,p4,p5,p6,p7,p8,p9,p10,hat⟩:=(HR.out.kept hK).at_ hlt;have HAT:=lH hat;have HD:=lH hd;have HNX:=lH (jcx hn);have HCK:=lH (fun W (kk:Kept wr W)=>jg3 n (.slice a1 m1 c1) (.slice a2 m2 c2) (.slice a3 m3 c3) (.slice a4 m4 c4) W (HAT.out.kept kk));unfold JQ at HCK;obtain⟨ck,hck⟩:∃x,zV n=x:=⟨_,rfl⟩
        have HCN:=lH hck;rw[hck] at HCK;have hkk:(k:Int)<(len:Int):=by omega
        clear hrest hK hat hd hck;by_cases z1:ck=0
        · subst z1;by_cases h0:k=0
          · have hd0:decide (0<k)=false:=by subst h0;decide
            have HP:=lH (jcN (l:=l) h0 n.name);clear h0;go_wp2_with fail
            refine(HCK.out _ (Kept.refl _)).mono ?_;rintro e w1 ⟨rfl,kk⟩;have KW:=lH kk;clear kk;go_wp2;go_quiet (fail)
            go_wp2;go_roundw
            case rel=>exact⟨k+1,by omega,by go_num,(show j4 (Yi l (k+1)) (l.drop (k+1))=j4 none l by rw[←HT.out,HD.out,Xc HCN.out HP.out,HNX.out]),HK.out.trans (KW.out.trans (Kept.drewN _ _))⟩
            case measure=>simp[intOf];omega
          · have hd0:decide (0<k)=true:=by simp;omega
            have g1:0≤(k:Int)-1:=by omega
            have g2:(k:Int)-1<(len:Int):=by omega
            have g3:((k:Int)-1).toNat=k-1:=by omega
            obtain⟨n9,_,_,_,_,_,_,_,_,_,_,_,_,hn9,-,hb9,o0,-⟩:=(HR.out.kept HK.out).at_ (show k-1<len by omega);have HP:=lH (jcG (l:=l) h0 hn9 n.name);clear h0 hn9;by_cases n3:leS n.name n9.name=true
            · have n3':(Op.bytesLess n.name.toList n9.name.toList||n.name.toList==n9.name.toList)=true:=n3;have N3:=lH n3;clear n3;go_wp2_with fail
              refine(HCK.out _ (Kept.refl _)).mono ?_;rintro e w1 ⟨rfl,kk⟩;have KW:=lH kk;have o1:=cell_later kk o0;have p99:=cell_later kk p0;clear kk;go_wp2;go_quiet (fail)
              go_wp2;go_ret;exact⟨jb (show (13:Int)=jK l by rw[HS.out,HD.out,qp HCN.out (HP.out.trans N3.out)]),HK.out.trans (KW.out.trans (Kept.drewN _ _))⟩
            · have n3:leS n.name n9.name=false:=by simpa using n3
              have n3':(Op.bytesLess n.name.toList n9.name.toList||n.name.toList==n9.name.toList)=false:=n3;have N3:=lH n3;clear n3;go_wp2_with fail
              refine(HCK.out _ (Kept.refl _)).mono ?_;rintro e w1 ⟨rfl,kk⟩;have KW:=lH kk;have o1:=cell_later kk o0;have p99:=cell_later kk p0;clear kk;go_wp2;go_quiet (fail)
              go_wp2;go_roundw
              case rel=>exact⟨k+1,by omega,by go_num,(show j4 (Yi l (k+1)) (l.drop (k+1))=j4 none l by rw[←HT.out,HD.out,Xc HCN.out (HP.out.trans N3.out),HNX.out]),HK.out.trans (KW.out.trans (Kept.drewN _ _))⟩
              case measure=>simp[intOf];omega
        · have z1':(ck != 0)=true:=by simpa using z1
          have HB:=lH (show jK l=ck by rw[HS.out,HD.out,jaA (by rw[HCN.out];exact z1),HCN.out]);clear z1;go_wp2_with fail
          refine(HCK.out _ (Kept.refl _)).mono ?_;rintro e w1 ⟨rfl,kk⟩;have KW:=lH kk;clear kk;go_wp2;go_ret;exact⟨jb HB.out.symm,HK.out.trans KW.out⟩
      · have HE:=lH (show jK l=0 by rw[HS.out,List.drop_of_length_le (by rw[HL.out];omega)];rfl);clear hrest hK;go_wp2;go_ret;exact⟨jb HE.out.symm,HK.out⟩
theorem jhb {v:Value} {l:List Pd} {c:Int} {w:World} (h:Yw w v l) (hc:jK l=c):Calls Tryz.prog 27 #[v] w (Say (.int .i64 c) w):=by
 subst hc;obtain⟨a,cap,rfl,_,_,hr⟩:=h;exact jd7 a _ cap l w hr
theorem jhT (n:Bd) (v1:Value) (w:World) (h:zL w v1 n) :
 Calls Tryz.prog 61 #[Zt n v1] w (Say (.int .i64 (zx n)) w):=by
 obtain⟨x0,l3,m⟩:=n;obtain⟨W0,hW0⟩:∃Z,w.alloc (.cells #[.string x0,v1,.int .i64 m] 131)=Z:=⟨_,rfl⟩
 have hk0:Kept w W0:=by rw[←hW0];exact ja _ _
 have HC:=lH (show ∀W,Kept W0 W→W.cell? ⟨w.heap.size,0,none⟩=some (.string x0)∧W.cell? ⟨w.heap.size,1,none⟩=some (v1)∧W.cell? ⟨w.heap.size,2,none⟩=some (.int .i64 m) from fun W k=>by
  have:=jg w (.string x0) [v1,.int .i64 m] 131 W (by rw[hW0];exact k);exact⟨this.at_ 0 _ rfl,this.at_ 1 _ rfl,this.at_ 2 _ rfl⟩)
 obtain⟨y3,hy3⟩:∃y,zb l3=y:=⟨_,rfl⟩
 obtain⟨r0,hr0⟩:∃r,isName x0=r:=⟨_,rfl⟩
 have E3:=lH (jbD (h.sel.kept hk0) hy3);have N0:=lH (fun W=>Vec.Xp (w:=W) h.name hr0);have HV:=lH (show zx ⟨x0,l3,m⟩=orL [if r0=true then 0 else 3,y3,zc m] by rw[←hy3,←hr0];rfl);have HK0:=lH hk0;clear h hk0 hy3 hr0;obtain⟨c0,c1,c2⟩:=HC.out _ (Kept.refl _);unfold Zt;dsimp only
 cases r0 with
 | false =>
  have HW:=lH (show zx ⟨x0,l3,m⟩=3 by rw[HV.out];rfl);go_enter Tryz.func61,Tryz.ntmps61;go_wp2_with fail
  try rw[hW0]
  refine(N0.out _).mono ?_;rintro e w1 ⟨rfl,rfl⟩;go_wp2;go_ret;exact⟨jb HW.out.symm,HK0.out⟩
 | true =>
  by_cases z:y3=0
  · subst z;by_cases z1:m<0
    · have HW:=lH (show zx ⟨x0,l3,m⟩=1 by rw[HV.out,show zc m=1 by unfold zc;rw[if_pos (.inl z1)]];rfl);go_enter Tryz.func61,Tryz.ntmps61;go_wp2_with fail
      try rw[hW0]
      refine(N0.out _).mono ?_;rintro e w1 ⟨rfl,rfl⟩;go_wp2_with fail
      refine E3.out.mono ?_;rintro e w2 ⟨rfl,k⟩;obtain⟨d0,d1,d2⟩:=HC.out _ k;go_wp2;go_ret;exact⟨jb HW.out.symm,HK0.out.trans k⟩
    · by_cases z2:128<m
      · have HW:=lH (show zx ⟨x0,l3,m⟩=1 by rw[HV.out,show zc m=1 by unfold zc;rw[if_pos (.inr z2)]];rfl);have z1':0≤m:=by omega
        clear z1;go_enter Tryz.func61,Tryz.ntmps61;go_wp2_with fail
        try rw[hW0]
        refine(N0.out _).mono ?_;rintro e w1 ⟨rfl,rfl⟩;go_wp2_with fail
        refine E3.out.mono ?_;rintro e w2 ⟨rfl,k⟩;obtain⟨d0,d1,d2⟩:=HC.out _ k;go_wp2;go_ret;exact⟨jb HW.out.symm,HK0.out.trans k⟩
      · have HW:=lH (show zx ⟨x0,l3,m⟩=0 by rw[HV.out,show zc m=0 by unfold zc;rw[if_neg (by omega)]];rfl);have z1':0≤m:=by omega
        have z2':m≤128:=by omega
        clear z1 z2;go_enter Tryz.func61,Tryz.ntmps61;go_wp2_with fail
        try rw[hW0]
        refine(N0.out _).mono ?_;rintro e w1 ⟨rfl,rfl⟩;go_wp2_with fail
        refine E3.out.mono ?_;rintro e w2 ⟨rfl,k⟩;obtain⟨d0,d1,d2⟩:=HC.out _ k;go_wp2;go_ret;exact⟨jb HW.out.symm,HK0.out.trans k⟩
  · have HW:=lH (show zx ⟨x0,l3,m⟩=y3 by
     rw[HV.out];show (if (0:Int)≠0 then 0 else if y3≠0 then y3 else _)=y3;rw[if_neg (by decide),if_pos z])
    have z':(y3 != 0)=true:=by simpa using z
    clear z;go_enter Tryz.func61,Tryz.ntmps61;go_wp2_with fail
    try rw[hW0]
    refine(N0.out _).mono ?_;rintro e w1 ⟨rfl,rfl⟩;go_wp2_with fail
    refine E3.out.mono ?_;rintro e w2 ⟨rfl,k⟩;go_wp2;go_ret;exact⟨jb HW.out.symm,HK0.out.trans k⟩
theorem jd9 (a:Option Addr) (len cap:Nat) (l:List Bd) (w:World) (hr:Je w a len l) :
 Calls Tryz.prog 28 #[.slice a len cap] w (Say (.int .i64 (jA l)) w):=by
 have hl:=hr.1;have hm:=hr.2.1;unfold maxLen at hm;by_cases h32:8<len
 · have HV:=lH (show jA l=4 by unfold jA;rw[if_pos (by omega)]);clear hr hl;go_enter Tryz.func28,Tryz.ntmps28;go_wp2;go_ret;exact⟨jb HV.out.symm,Kept.refl _⟩
 · have HV:=lH (show jA l=jX none l by unfold jA;rw[if_neg (by omega)]);have h32':len≤8:=by omega
   by_cases h0:len=0
   · subst h0;have HE:=lH (show jA l=0 by rw[HV.out,List.eq_nil_of_length_eq_zero hl];rfl);clear hr hl h32;go_enter Tryz.func28,Tryz.ntmps28;go_wp2;refine wp_loop_rounds 1 ?_;rw[rounds_succ];go_wp2;go_ret;exact⟨jb HE.out.symm,Kept.refl _⟩
   · obtain⟨b,off,rfl⟩:=hr.form.resolve_left h0;have HR:=lH hr;have HL:=lH hl;clear hr hl h0 h32;go_enter Tryz.func28,Tryz.ntmps28;go_wp2;go_loopw [3] (fun i wr=>∃k:Nat,k≤len∧i=.int .i64 k∧jX (Yk l k) (l.drop k)=jX none l∧Kept w wr) (fun i _=>len-(intOf i).toNat)
     case atStart=>exact⟨0,Nat.zero_le _,rfl,rfl,Kept.refl _⟩
     case round =>
      obtain⟨k,hk,rfl,hrest,hK⟩:=hrel;have HS:=lH (HV.out.trans hrest.symm);have HT:=lH hrest;have HK:=lH hK;by_cases hlt:k<len
      · obtain⟨n,a1,m1,c1,hn,hd,hb,p0,p1,p2,hat⟩:=(HR.out.kept hK).at_ hlt;have HAT:=lH hat;have HD:=lH hd;have HNX:=lH (jct hn);have HCK:=lH (fun W (kk:Kept wr W)=>jhT n (.slice a1 m1 c1) W (HAT.out.kept kk));unfold Zt at HCK;obtain⟨ck,hck⟩:∃x,zx n=x:=⟨_,rfl⟩
        have HCN:=lH hck;rw[hck] at HCK;have hkk:(k:Int)<(len:Int):=by omega
        clear hrest hK hat hd hck;by_cases z1:ck=0
        · subst z1;by_cases h0:k=0
          · have hd0:decide (0<k)=false:=by subst h0;decide
            have HP:=lH (jcS (l:=l) h0 n.name);clear h0;go_wp2_with fail
            refine(HCK.out _ (Kept.refl _)).mono ?_;rintro e w1 ⟨rfl,kk⟩;have KW:=lH kk;clear kk;go_wp2;go_quiet (fail)
            go_wp2;go_roundw
            case rel=>exact⟨k+1,by omega,by go_num,(show jX (Yk l (k+1)) (l.drop (k+1))=jX none l by rw[←HT.out,HD.out,Xt HCN.out HP.out,HNX.out]),HK.out.trans (KW.out.trans (Kept.drewN _ _))⟩
            case measure=>simp[intOf];omega
          · have hd0:decide (0<k)=true:=by simp;omega
            have g1:0≤(k:Int)-1:=by omega
            have g2:(k:Int)-1<(len:Int):=by omega
            have g3:((k:Int)-1).toNat=k-1:=by omega
            obtain⟨n9,_,_,_,hn9,-,hb9,o0,-⟩:=(HR.out.kept HK.out).at_ (show k-1<len by omega);have HP:=lH (jcC (l:=l) h0 hn9 n.name);clear h0 hn9;by_cases n3:leS n.name n9.name=true
            · have n3':(Op.bytesLess n.name.toList n9.name.toList||n.name.toList==n9.name.toList)=true:=n3;have N3:=lH n3;clear n3;go_wp2_with fail
              refine(HCK.out _ (Kept.refl _)).mono ?_;rintro e w1 ⟨rfl,kk⟩;have KW:=lH kk;have o1:=cell_later kk o0;have p99:=cell_later kk p0;clear kk;go_wp2;go_quiet (fail)
              go_wp2;go_ret;exact⟨jb (show (13:Int)=jA l by rw[HS.out,HD.out,jab HCN.out (HP.out.trans N3.out)]),HK.out.trans (KW.out.trans (Kept.drewN _ _))⟩
            · have n3:leS n.name n9.name=false:=by simpa using n3
              have n3':(Op.bytesLess n.name.toList n9.name.toList||n.name.toList==n9.name.toList)=false:=n3;have N3:=lH n3;clear n3;go_wp2_with fail
              refine(HCK.out _ (Kept.refl _)).mono ?_;rintro e w1 ⟨rfl,kk⟩;have KW:=lH kk;have o1:=cell_later kk o0;have p99:=cell_later kk p0;clear kk;go_wp2;go_quiet (fail)
              go_wp2;go_roundw
              case rel=>exact⟨k+1,by omega,by go_num,(show jX (Yk l (k+1)) (l.drop (k+1))=jX none l by rw[←HT.out,HD.out,Xt HCN.out (HP.out.trans N3.out),HNX.out]),HK.out.trans (KW.out.trans (Kept.drewN _ _))⟩
              case measure=>simp[intOf];omega
        · have z1':(ck != 0)=true:=by simpa using z1
          have HB:=lH (show jA l=ck by rw[HS.out,HD.out,jbB (by rw[HCN.out];exact z1),HCN.out]);clear z1;go_wp2_with fail
          refine(HCK.out _ (Kept.refl _)).mono ?_;rintro e w1 ⟨rfl,kk⟩;have KW:=lH kk;clear kk;go_wp2;go_ret;exact⟨jb HB.out.symm,HK.out.trans KW.out⟩
      · have HE:=lH (show jA l=0 by rw[HS.out,List.drop_of_length_le (by rw[HL.out];omega)];rfl);clear hrest hK;go_wp2;go_ret;exact⟨jb HE.out.symm,HK.out⟩
theorem jhJ {v:Value} {l:List Bd} {c:Int} {w:World} (h:ZQ w v l) (hc:jA l=c):Calls Tryz.prog 28 #[v] w (Say (.int .i64 c) w):=by
 subst hc;obtain⟨a,cap,rfl,_,_,hr⟩:=h;exact jd9 a _ cap l w hr
theorem joe {v v':Value} {l l':Vec.V} {c:Bool} {w:World} (h:Vec.Reads w v l) (h':Vec.Reads w v' l') (e:Vec.jP l' l=c) :
 Calls Tryz.prog 31 #[v,v'] w (Say (.bool c) w):=by
 subst e;obtain⟨a,cap,rfl,_,_,h3⟩:=h;obtain⟨a',cap',rfl,_,_,h3'⟩:=h';exact Vec.jkC a a' _ cap _ cap' l l' w h3 h3'
theorem jlD {s:Clu} {n:Nod} (h:n ∈ s.nodes):X5 s n.name=zF n.name s.pods []:=by
 cases hf:jT s.nodes n.name with
 | some n'=>exact jeW hf
 | none =>
  unfold jT at hf;have:=List.find?_eq_none.1 hf n h;exact absurd (qC n.name) (by simpa using this)
theorem jj0 {v:Value} {s:Clu} {c:Int} {w:World} (h:Zl w v s) (hcc:zB s=c):Calls Tryz.prog 10 #[v] w (Say (.int .i64 c) w):=by
 subst hcc;have h0:=h;obtain⟨v1,v2,v3,rfl,⟨a,cap,rfl,l1,m1,h1⟩,⟨b,cp,rfl,l2,m2,h2⟩,⟨d,cb,rfl,l3,m3,h3⟩⟩:=h;obtain⟨nl,pl,bl⟩:=s;dsimp only at *;obtain⟨len,hlen⟩:∃q,nl.length=q:=⟨_,rfl⟩
 obtain⟨m,hm⟩:∃q,pl.length=q:=⟨_,rfl⟩
 obtain⟨n,hn⟩:∃q,bl.length=q:=⟨_,rfl⟩
 rw[hlen] at h1 l1;rw[hm] at h2 l2;rw[hn] at h3 l3;try rw[hlen]
 try rw[hm]
 try rw[hn]
 clear hn;rw[hlen,hm] at h0;have hn3:bl.length=n:=h3.1;rw[hn3] at h0;obtain⟨Z,hZ⟩:∃Z,w.alloc (.cells #[.slice a len cap,.slice b m cp,.slice d n cb] 48)=Z:=⟨_,rfl⟩
 have hkz:Kept w Z:=by rw[←hZ];exact ja _ _
 have HQ:=lH (show jf w.heap.size [.slice a len cap,.slice b m cp,.slice d n cb] Z from jg w (.slice a len cap) [.slice b m cp,.slice d n cb] 48 Z (by rw[hZ];exact Kept.refl _));have HN:=lH (h1.kept hkz);have HP:=lH (h2.kept hkz);have HC0:=lH (h0.kept hkz);have HNR:=lH (jaV l1 m1 (h1.kept hkz));have HPR:=lH (jiH l2 m2 (h2.kept hkz));have HBR:=lH (jek l3 m3 (h3.kept hkz));have HKZ:=lH hkz;have HL1:=lH hlen;have HL2:=lH hm;have hml1:=Nat.le_trans l1 m1;have hml2:=Nat.le_trans l2 m2;unfold maxLen at hml1 hml2;clear h1 h2 h3 h0 l1 l2 l3 m1 m2 m3 hkz hn3;obtain⟨x1,hx1⟩:∃q,jJ nl=q:=⟨_,rfl⟩
 have Hx1:=lH hx1;obtain⟨x2,hx2⟩:∃q,jK pl=q:=⟨_,rfl⟩
 have Hx2:=lH hx2;obtain⟨x3,hx3⟩:∃q,jA bl=q:=⟨_,rfl⟩
 have Hx3:=lH hx3;have cq0:=(HQ.out.kept (Kept.refl _)).at_ 0 _ rfl;have cq1:=(HQ.out.kept (Kept.refl _)).at_ 1 _ rfl;have cq2:=(HQ.out.kept (Kept.refl _)).at_ 2 _ rfl;go_enter Tryz.func10,Tryz.ntmps10;go_wp2_with fail
 try rw[hZ]
 clear hZ;refine(jjI HNR.out hx1).mono ?_;rintro e w1 ⟨rfl,kk⟩;have K:=lH kk;clear kk hx1 cq0 cq1 cq2;have cq0:=(HQ.out.kept K.out).at_ 0 _ rfl;have cq1:=(HQ.out.kept K.out).at_ 1 _ rfl;have cq2:=(HQ.out.kept K.out).at_ 2 _ rfl;by_cases hc:¬x1=0
 · have HX:=lH (jb9 (nl:=nl) (pl:=pl) (bl:=bl) (c:=x1) (by unfold or3;rw[Hx1.out,if_pos hc]) hc);have hcn:(x1 != 0)=true:=by simpa using hc
   clear hc;go_wp2;go_ret;exact⟨jb HX.out.symm,HKZ.out.trans K.out⟩
 obtain rfl:x1=0:=Decidable.of_not_not hc;clear hc;go_wp2_with fail
 refine(jhb (HPR.out.kept K.out) hx2).mono ?_;rintro e w2 ⟨rfl,kk⟩;have K:=lH (K.out.trans kk);clear kk hx2 cq0 cq1 cq2;have cq0:=(HQ.out.kept K.out).at_ 0 _ rfl;have cq1:=(HQ.out.kept K.out).at_ 1 _ rfl;have cq2:=(HQ.out.kept K.out).at_ 2 _ rfl;by_cases hc:¬x2=0
 · have HX:=lH (jb9 (nl:=nl) (pl:=pl) (bl:=bl) (c:=x2) (by unfold or3;rw[Hx1.out,Hx2.out,if_neg (by decide),if_pos hc]) hc);have hcn:(x2 != 0)=true:=by simpa using hc
   clear hc;go_wp2;go_ret;exact⟨jb HX.out.symm,HKZ.out.trans K.out⟩
 obtain rfl:x2=0:=Decidable.of_not_not hc;clear hc;go_wp2_with fail
 refine(jhJ (HBR.out.kept K.out) hx3).mono ?_;rintro e w3 ⟨rfl,kk⟩;have K:=lH (K.out.trans kk);clear kk hx3 cq0 cq1 cq2;have cq0:=(HQ.out.kept K.out).at_ 0 _ rfl;have cq1:=(HQ.out.kept K.out).at_ 1 _ rfl;have cq2:=(HQ.out.kept K.out).at_ 2 _ rfl;by_cases hc:¬x3=0
 · have HX:=lH (jb9 (nl:=nl) (pl:=pl) (bl:=bl) (c:=x3) (by unfold or3;rw[Hx1.out,Hx2.out,Hx3.out,if_neg (by decide),if_neg (by decide)]) hc);have hcn:(x3 != 0)=true:=by simpa using hc
   clear hc;go_wp2;go_ret;exact⟨jb HX.out.symm,HKZ.out.trans K.out⟩
 obtain rfl:x3=0:=Decidable.of_not_not hc;clear hc;have HOR:=lH (show or3 (jJ nl) (jK pl) (jA bl)=0 by unfold or3;rw[Hx1.out,Hx2.out,Hx3.out];rfl);clear Hx1 Hx2 Hx3;go_wp2;clear cq0 cq1 cq2;go_loopw [4] (fun i wr=>∃k:Nat,k≤m∧i=.int .i64 k∧jz nl (pl.drop k)=jz nl pl∧Kept Z wr) (fun i _=>m-(intOf i).toNat)
 case atStart=>exact⟨0,Nat.zero_le _,rfl,rfl,K.out⟩
 case round =>
  obtain⟨k,hk,rfl,hrest,hK⟩:=hrel;have HS:=lH hrest;have HK:=lH hK;have cq0:=(HQ.out.kept hK).at_ 0 _ rfl;have cq1:=(HQ.out.kept hK).at_ 1 _ rfl;have cq2:=(HQ.out.kept hK).at_ 2 _ rfl;by_cases hlt:k<m
  · obtain⟨b9,off,rfl⟩:=HP.out.form.resolve_left (by omega);obtain⟨pd,x1,y1,z1,x2,y2,z2,x3,y3,z3,x4,y4,z4,hn,hd,hb,p0,p1,p2,p3,p4,p5,p6,p7,p8,p9,p10,hat⟩:=(HP.out.kept hK).at_ hlt;have HD:=lH hd;have hkk:(k:Int)<(m:Int):=by omega
    have hk0:¬(k:Int)<0:=by omega
    obtain⟨t,ht⟩:∃t,(pd.node.toList==([]:List UInt8))=t:=⟨_,rfl⟩
    have HNO:=lH (show Zj pd.node=t by rw[ZY];exact ht);clear hrest hat hn hd
    cases t with
     | true =>
      have HX:=lH (show jz nl (pl.drop (k+1))=jz nl pl by rw[←HS.out,HD.out,jcE HNO.out]);clear hK;go_wp2;go_roundw
      case rel=>exact⟨k+1,by omega,by go_num,HX.out,HK.out⟩
      case measure=>simp[intOf];omega
     | false =>
      have HF:=lH (show ∀W,Kept wr W→W.cell? ⟨w.heap.size,0,none⟩=some (.slice a len cap)∧W.cell? ⟨w.heap.size,1,none⟩=some (.slice (some ⟨b9,off,none⟩) m cp)∧W.cell? ⟨b9,off+k*11,none⟩=some (.string pd.name)∧W.cell? ⟨b9,off+k*11+1,none⟩=some (.string pd.owner)∧W.cell? ⟨b9,off+k*11+2,none⟩=some (.int .i64 pd.prio)∧W.cell? ⟨b9,off+k*11+3,none⟩=some (.slice x1 y1 z1)∧W.cell? ⟨b9,off+k*11+4,none⟩=some (.slice x2 y2 z2)∧W.cell? ⟨b9,off+k*11+5,none⟩=some (.slice x3 y3 z3)∧W.cell? ⟨b9,off+k*11+6,none⟩=some (.slice x4 y4 z4)∧W.cell? ⟨b9,off+k*11+7,none⟩=some (.string pd.key)∧W.cell? ⟨b9,off+k*11+8,none⟩=some (.int .i64 pd.most)∧W.cell? ⟨b9,off+k*11+9,none⟩=some (.string pd.node)∧W.cell? ⟨b9,off+k*11+10,none⟩=some (.bool pd.hold) from fun W kk=>⟨cell_later kk cq0,cell_later kk cq1,cell_later kk p0,cell_later kk p1,cell_later kk p2,cell_later kk p3,cell_later kk p4,cell_later kk p5,cell_later kk p6,cell_later kk p7,cell_later kk p8,cell_later kk p9,cell_later kk p10⟩);obtain⟨o,ho⟩:∃o,jT nl pd.node=o:=⟨_,rfl⟩
      have HFD:=lH ho;have HCC:=lH (fun W (kk:Kept wr W)=>jkl (x:=pd.node) (HNR.out.kept (HK.out.trans kk)));rw[ho] at HCC;clear hK ho;go_upto_region 14 with fail
      go_cut [5,6] from 42 to 54 (fun s5 s6 wx=>s6=.bool o.isSome∧Kept wr wx)
      case first =>
       refine wp_region_held_drew (S:=fun W=>W.cell? ⟨w.heap.size,0,none⟩=some (.slice a len cap)∧W.cell? ⟨w.heap.size,1,none⟩=some (.slice (some ⟨b9,off,none⟩) m cp)∧W.cell? ⟨b9,off+k*11,none⟩=some (.string pd.name)∧W.cell? ⟨b9,off+k*11+1,none⟩=some (.string pd.owner)∧W.cell? ⟨b9,off+k*11+2,none⟩=some (.int .i64 pd.prio)∧W.cell? ⟨b9,off+k*11+3,none⟩=some (.slice x1 y1 z1)∧W.cell? ⟨b9,off+k*11+4,none⟩=some (.slice x2 y2 z2)∧W.cell? ⟨b9,off+k*11+5,none⟩=some (.slice x3 y3 z3)∧W.cell? ⟨b9,off+k*11+6,none⟩=some (.slice x4 y4 z4)∧W.cell? ⟨b9,off+k*11+7,none⟩=some (.string pd.key)∧W.cell? ⟨b9,off+k*11+8,none⟩=some (.int .i64 pd.most)∧W.cell? ⟨b9,off+k*11+9,none⟩=some (.string pd.node)∧W.cell? ⟨b9,off+k*11+10,none⟩=some (.bool pd.hold)) (by kernel_rfl) (HF.out _ (Kept.drew _)) (fun hHeld=>?_);refine tkI 0 ?_;refine tkI 1 ?_;refine tkI 2 ?_;refine tkI 3 ?_;refine tkI 4 ?_;refine tkI 5 ?_;refine tkI 6 ?_;refine tkI 7 ?_;try simp only[nP]
       have J0:=lH (Kept.drew wr);refine rdH (rs:=[8,12]) (h:=coH (fun K9 hK9=>?_) (coH (fun K9 hK9=>?_) AllReadyH.nil))
       · go_simp;refine(HCC.out _ J0.out).mono ?_;rintro e w5 ⟨v9,rfl,hr,kk⟩;have J0:=lH (J0.out.trans kk);obtain⟨nn,hnn⟩:∃q,o.getD Nod.zero=q:=⟨_,rfl⟩
         rw[hnn] at hr;obtain⟨y1,y2,y3,rfl,hat⟩:=hr;have g1:=hat.cap;have g2:=hat.labels;have g3:=hat.taints;obtain⟨b1,d1,rfl,-,-,-⟩:=g1;obtain⟨b2,d2,rfl,-,-,-⟩:=g2;obtain⟨b3,d3,rfl,-,-,-⟩:=g3;unfold Jy;obtain⟨n1,hn1⟩:∃q,nn.cap.length=q:=⟨_,rfl⟩
         obtain⟨n2,hn2⟩:∃q,nn.labels.length=q:=⟨_,rfl⟩
         obtain⟨n3,hn3⟩:∃q,nn.taints.length=q:=⟨_,rfl⟩
         rw[hn1,hn2,hn3];clear hat kk hn1 hn2 hn3 hnn;refine hK9.out _ _ (HF.out _ J0.out) (fun hHeld31=>?_);clear hK9 K9;try simp only[nP]
         refine tkI 9 ?_;refine tkI 10 ?_;refine tkI 11 ?_;try simp only[nP]
         refine rd1 12 fun K9 hK9=>?_;go_simp;have HQA:=lH (jg w5 (.string ⟨#[]⟩) [.slice none 0 0,.slice none 0 0,.slice none 0 0,.bool false] 89 _ (Kept.refl _));have HQB:=lH J0.out.size;have J0:=lH (J0.out.trans (ja w5 (.cells #[.string ⟨#[]⟩,.slice none 0 0,.slice none 0 0,.slice none 0 0,.bool false] 89)));refine hK9.out _ _ (HF.out _ J0.out) (fun hHeldA=>?_);clear hK9 K9;try simp only[nP]
         obtain⟨wa,hwa⟩:∃W,w5.alloc (.cells #[.string ⟨#[]⟩,.slice none 0 0,.slice none 0 0,.slice none 0 0,.bool false] 89)=W:=⟨_,rfl⟩
         rw[hwa] at J0 HQA ⊢;obtain⟨qa,hqa⟩:∃q,w5.heap.size=q:=⟨_,rfl⟩
         rw[hqa] at HQB;rw[hqa] at HQA ⊢;clear hwa hqa;have z0:=HQA.out.at_ 0 _ rfl;have z1:=HQA.out.at_ 1 _ rfl;have z2:=HQA.out.at_ 2 _ rfl;have z3:=HQA.out.at_ 3 _ rfl;have z4:=HQA.out.at_ 4 _ rfl;have f0:=HQA.out.free 0;have f1:=HQA.out.free 1;have f2:=HQA.out.free 2;have f3:=HQA.out.free 3;have f4:=HQA.out.free 4;refine rd1 13 fun K9 hK9=>?_;go_simp;obtain⟨WE,hWE⟩:∃W,wa.setCells qa 0 [.string nn.name,.slice b1 n1 d1,.slice b2 n2 d2,.slice b3 n3 d3,.bool nn.cordon]=W:=⟨_,rfl⟩
         have hWE2:(((((wa.setCell ⟨qa,0,none⟩ (.string nn.name)).setCell ⟨qa,1,none⟩ (.slice b1 n1 d1)).setCell ⟨qa,2,none⟩ (.slice b2 n2 d2)).setCell ⟨qa,3,none⟩ (.slice b3 n3 d3)).setCell ⟨qa,4,none⟩ (.bool nn.cordon))=WE:=hWE;try rw[hWE2]
         have JE:=lH (show Kept wr WE by rw[←hWE];exact zA qa _ _ _ _ _ HQB.out J0.out);clear hWE hWE2 z0 f0 z1 f1 z2 f2 z3 f3 z4 f4;refine hK9.out _ _ (HF.out _ JE.out) (fun hHeldS=>?_);clear hK9 K9;try simp only[nP]
         refine tkI 14 ?_;try simp only[nP]
         refine wpAnyH_done (by kernel_rfl) ?_ _;go_wp2;go_meet
         case rel=>exact⟨rfl,JE.out⟩
       · go_simp;have HQA:=lH (jg wr (.string ⟨#[]⟩) [.slice none 0 0,.slice none 0 0,.slice none 0 0,.bool false] 89 _ (Kept.drew (wr.alloc (.cells #[.string ⟨#[]⟩,.slice none 0 0,.slice none 0 0,.slice none 0 0,.bool false] 89))));have J0:=lH ((ja wr (.cells #[.string ⟨#[]⟩,.slice none 0 0,.slice none 0 0,.slice none 0 0,.bool false] 89)).trans (Kept.drew _));skip;refine hK9.out _ _ (HF.out _ J0.out) (fun hHeldA=>?_);clear hK9 K9;try simp only[nP]
         obtain⟨wa,hwa⟩:∃W,(wr.alloc (.cells #[.string ⟨#[]⟩,.slice none 0 0,.slice none 0 0,.slice none 0 0,.bool false] 89)).drew=W:=⟨_,rfl⟩
         rw[hwa] at J0 HQA ⊢;obtain⟨qa,hqa⟩:∃q,wr.heap.size=q:=⟨_,rfl⟩
         have HQB:=lH (Nat.le_of_eq hqa);rw[hqa] at HQA ⊢;clear hwa hqa;refine rd1 8 fun K9 hK9=>?_;go_simp;refine(HCC.out _ J0.out).mono ?_;rintro e w5 ⟨v9,rfl,hr,kk⟩;have J0:=lH (J0.out.trans kk);obtain⟨nn,hnn⟩:∃q,o.getD Nod.zero=q:=⟨_,rfl⟩
         rw[hnn] at hr;obtain⟨y1,y2,y3,rfl,hat⟩:=hr;have g1:=hat.cap;have g2:=hat.labels;have g3:=hat.taints;obtain⟨b1,d1,rfl,-,-,-⟩:=g1;obtain⟨b2,d2,rfl,-,-,-⟩:=g2;obtain⟨b3,d3,rfl,-,-,-⟩:=g3;unfold Jy;obtain⟨n1,hn1⟩:∃q,nn.cap.length=q:=⟨_,rfl⟩
         obtain⟨n2,hn2⟩:∃q,nn.labels.length=q:=⟨_,rfl⟩
         obtain⟨n3,hn3⟩:∃q,nn.taints.length=q:=⟨_,rfl⟩
         rw[hn1,hn2,hn3];have HQA:=lH (HQA.out.kept kk);clear hat kk hn1 hn2 hn3 hnn;refine hK9.out _ _ (HF.out _ J0.out) (fun hHeld61=>?_);clear hK9 K9;try simp only[nP]
         refine tkI 9 ?_;refine tkI 10 ?_;refine tkI 11 ?_;try simp only[nP]
         have z0:=HQA.out.at_ 0 _ rfl;have z1:=HQA.out.at_ 1 _ rfl;have z2:=HQA.out.at_ 2 _ rfl;have z3:=HQA.out.at_ 3 _ rfl;have z4:=HQA.out.at_ 4 _ rfl;have f0:=HQA.out.free 0;have f1:=HQA.out.free 1;have f2:=HQA.out.free 2;have f3:=HQA.out.free 3;have f4:=HQA.out.free 4;refine rd1 13 fun K9 hK9=>?_;go_simp;obtain⟨WE,hWE⟩:∃W,w5.setCells qa 0 [.string nn.name,.slice b1 n1 d1,.slice b2 n2 d2,.slice b3 n3 d3,.bool nn.cordon]=W:=⟨_,rfl⟩
         have hWE2:(((((w5.setCell ⟨qa,0,none⟩ (.string nn.name)).setCell ⟨qa,1,none⟩ (.slice b1 n1 d1)).setCell ⟨qa,2,none⟩ (.slice b2 n2 d2)).setCell ⟨qa,3,none⟩ (.slice b3 n3 d3)).setCell ⟨qa,4,none⟩ (.bool nn.cordon))=WE:=hWE;try rw[hWE2]
         have JE:=lH (show Kept wr WE by rw[←hWE];exact zA qa _ _ _ _ _ HQB.out J0.out);clear hWE hWE2 z0 f0 z1 f1 z2 f2 z3 f3 z4 f4;refine hK9.out _ _ (HF.out _ JE.out) (fun hHeldS=>?_);clear hK9 K9;try simp only[nP]
         refine tkI 14 ?_;try simp only[nP]
         refine wpAnyH_done (by kernel_rfl) ?_ _;go_wp2;go_meet
         case rel=>exact⟨rfl,JE.out⟩
      case rest =>
       obtain⟨rfl,hkx⟩:=hcut;have KX:=lH (HK.out.trans hkx);clear hkx cq0 cq1 cq2 p0 p1 p2 p3 p4 p5 p6 p7 p8 p9 p10
       cases o with
       | none =>
        have HX:=lH (jbz HOR.out (show jz nl pl=3 by rw[←HS.out,HD.out,jdx HNO.out (by rw[HFD.out];rfl)]) (by decide));go_wp2;go_ret;exact⟨jb HX.out.symm,HKZ.out.trans KX.out⟩
       | some nod =>
        have HX:=lH (show jz nl (pl.drop (k+1))=jz nl pl by rw[←HS.out,HD.out,jcz (by rw[HFD.out];rfl)]);go_wp2;go_roundw
        case rel=>exact⟨k+1,by omega,by go_num,HX.out,KX.out⟩
        case measure=>simp[intOf];omega
  · have HPL:=lH (show jz nl pl=0 by rw[←hrest,List.drop_of_length_le (by rw[HL2.out];omega)];rfl);have hkk:¬(k:Int)<(m:Int):=by omega
    clear hrest hK;go_wp2;clear cq0 cq1 cq2;go_loopw [7] (fun i wr=>∃k:Nat,k≤len∧i=.int .i64 k∧jV pl (nl.drop k)=jV pl nl∧Kept Z wr) (fun i _=>len-(intOf i).toNat)
    case atStart=>exact⟨0,Nat.zero_le _,rfl,rfl,HK.out⟩
    case round =>
     obtain⟨k,hk,rfl,hrest,hK⟩:=hrel;have HS:=lH hrest;have HK:=lH hK;have cq0:=(HQ.out.kept hK).at_ 0 _ rfl;have cq1:=(HQ.out.kept hK).at_ 1 _ rfl;have cq2:=(HQ.out.kept hK).at_ 2 _ rfl;by_cases hlt:k<len
     · obtain⟨b9,off,rfl⟩:=HN.out.form.resolve_left (by omega);obtain⟨n9,x1,y1,z1,x2,y2,z2,x3,y3,z3,hn,hd,hb,p0,p1,p2,p3,p4,hat⟩:=(HN.out.kept hK).at_ hlt;have HD:=lH hd;have hkk:(k:Int)<(len:Int):=by omega
       have hk0:¬(k:Int)<0:=by omega
       obtain⟨c,uu,hcu⟩:∃c uu,zF n9.name pl []=(c,uu):=⟨_,_,rfl⟩
       have HCU:=lH hcu;have hus:X5 ⟨nl,pl,bl⟩ n9.name=(c,uu):=(jlD (s:=⟨nl,pl,bl⟩) (List.mem_of_getElem? hn)).trans hcu;have HUU:=lH (fun W (kk:Kept wr W)=>jmE (HC0.out.kept (HK.out.trans kk)) n9.name);rw[hus] at HUU;have HCAP:=lH hat.cap;have HF:=lH (show ∀W,Kept wr W→W.cell? ⟨w.heap.size,0,none⟩=some (.slice (some ⟨b9,off,none⟩) len cap)∧W.cell? ⟨w.heap.size,1,none⟩=some (.slice b m cp)∧W.cell? ⟨w.heap.size,2,none⟩=some (.slice d n cb)∧W.cell? ⟨b9,off+k*5,none⟩=some (.string n9.name)∧W.cell? ⟨b9,off+k*5+1,none⟩=some (.slice x1 y1 z1)∧W.cell? ⟨b9,off+k*5+2,none⟩=some (.slice x2 y2 z2)∧W.cell? ⟨b9,off+k*5+3,none⟩=some (.slice x3 y3 z3)∧W.cell? ⟨b9,off+k*5+4,none⟩=some (.bool n9.cordon) from fun W kk=>⟨cell_later kk cq0,cell_later kk cq1,cell_later kk cq2,cell_later kk p0,cell_later kk p1,cell_later kk p2,cell_later kk p3,cell_later kk p4⟩);clear hrest hK hat hn hd hcu hus;go_upto_region 20 with fail
       refine wp_region_held_drew (S:=fun W=>W.cell? ⟨w.heap.size,0,none⟩=some (.slice (some ⟨b9,off,none⟩) len cap)∧W.cell? ⟨w.heap.size,1,none⟩=some (.slice b m cp)∧W.cell? ⟨w.heap.size,2,none⟩=some (.slice d n cb)∧W.cell? ⟨b9,off+k*5,none⟩=some (.string n9.name)∧W.cell? ⟨b9,off+k*5+1,none⟩=some (.slice x1 y1 z1)∧W.cell? ⟨b9,off+k*5+2,none⟩=some (.slice x2 y2 z2)∧W.cell? ⟨b9,off+k*5+3,none⟩=some (.slice x3 y3 z3)∧W.cell? ⟨b9,off+k*5+4,none⟩=some (.bool n9.cordon)) (by kernel_rfl) (HF.out _ (Kept.drew _)) (fun hHeld=>?_);refine tkI 0 ?_;refine tkI 1 ?_;refine tkI 2 ?_;refine tkI 3 ?_;refine tkI 4 ?_;refine tkI 5 ?_;refine tkI 6 ?_;try simp only[nP]
       refine rd1 7 fun K9 hK9=>?_;go_simp;refine(HUU.out _ (Kept.drew _)).mono ?_;rintro e w6 ⟨y9,rfl,hy,kk⟩;have J:=lH ((Kept.drew wr).trans kk);have HY:=lH hy;clear hy kk;refine hK9.out _ _ (HF.out _ J.out) (fun hHeld1=>?_);clear hK9 K9;try simp only[nP]
       refine tkI 8 ?_;refine tkI 9 ?_;refine tkI 10 ?_;refine tkI 11 ?_;refine tkI 12 ?_;try simp only[nP]
       refine wpAnyH_done (by kernel_rfl) ?_ _;clear cq0 cq1 cq2 p0 p1 p2 p3 p4;obtain⟨cq0,cq1,cq2,p0,p1,p2,p3,p4⟩:=HF.out _ J.out;by_cases hc:¬c=0
       · have HX:=lH (qz (bl:=bl) HOR.out HPL.out (show jV pl nl=c by rw[←HS.out,HD.out,jeP HCU.out hc]) hc);have hcn:(c != 0)=true:=by simpa using hc
         clear hc;go_wp2;go_ret;exact⟨jb HX.out.symm,HKZ.out.trans (HK.out.trans J.out)⟩
       obtain rfl:c=0:=Decidable.of_not_not hc;clear hc;obtain⟨t,ht⟩:∃t,Vec.jP n9.cap uu=t:=⟨_,rfl⟩
       have HT:=lH ht;have HFT:=lH (joe HY.out (HCAP.out.kept J.out) ht);clear ht;go_wp2_with fail
       refine HFT.out.mono ?_;rintro e w7 ⟨rfl,kk⟩;have KW:=lH (HK.out.trans (J.out.trans kk));clear kk cq0 cq1 cq2 p0 p1 p2 p3 p4
       cases t with
       | false =>
        have HX:=lH (qz (bl:=bl) HOR.out HPL.out (show jV pl nl=7 by rw[←HS.out,HD.out,jdj HCU.out HT.out]) (by decide));go_wp2;go_ret;exact⟨jb HX.out.symm,HKZ.out.trans KW.out⟩
       | true =>
        have HX:=lH (show jV pl (nl.drop (k+1))=jV pl nl by rw[←HS.out,HD.out,jdn HCU.out HT.out]);go_wp2;go_roundw
        case rel=>exact⟨k+1,by omega,by go_num,HX.out,KW.out⟩
        case measure=>simp[intOf];omega
     · have HRO:=lH (show jV pl nl=0 by rw[←hrest,List.drop_of_length_le (by rw[HL1.out];omega)];rfl);have hkk:¬(k:Int)<(len:Int):=by omega
       clear hrest hK;have HX:=lH (jcV (bl:=bl) HOR.out HPL.out HRO.out);go_wp2_with fail
       refine(jjW (HC0.out.kept HK.out)).mono ?_;rintro e w8 ⟨y9,rfl,hy,kk⟩;have KW:=lH (HK.out.trans kk);clear hy kk cq0 cq1 cq2;go_wp2;go_ret;exact⟨jb HX.out.symm,HKZ.out.trans KW.out⟩
def jl7 (x:ByteArray) (c:Int):Nod:=⟨x,[(⟨#[99,112,117]⟩,c)],[],[],false⟩
theorem jkJ {w:World} {a:Option Addr} {len:Nat} {lx:List NX} (h:jr zJ w a len lx) (hf:∀z ∈ lx,At3 w z):j0 w a len (lx.map fun z=>z.1):=by
 obtain⟨g0,g1,g2,g3⟩:=h;refine⟨by rw[List.length_map];exact g0,g1,g3.imp id ?_⟩;rintro ⟨b,off,rfl,hb,hc⟩;refine⟨b,off,rfl,hb,fun i n hi=>?_⟩;rw[List.getElem?_map] at hi;obtain⟨z,hz,rfl⟩:=Option.map_eq_some_iff.1 hi;exact⟨_,_,_,_,_,_,_,_,_,hc i z 0 _ hz rfl,hc i z 1 _ hz rfl,hc i z 2 _ hz rfl,hc i z 3 _ hz rfl,hc i z 4 _ hz rfl,hf z (List.mem_of_getElem? hz)⟩
theorem jmD {w:World} {a:Option Addr} {len:Nat} {lx:List PX} (h:jr zi w a len lx) (hf:∀z ∈ lx,At4 w z):Jd w a len (lx.map fun z=>z.1):=by
 obtain⟨g0,g1,g2,g3⟩:=h;refine⟨by rw[List.length_map];exact g0,g1,g3.imp id ?_⟩;rintro ⟨b,off,rfl,hb,hc⟩;refine⟨b,off,rfl,hb,fun i n hi=>?_⟩;rw[List.getElem?_map] at hi;obtain⟨z,hz,rfl⟩:=Option.map_eq_some_iff.1 hi;exact⟨_,_,_,_,hc i z 0 _ hz rfl,hc i z 1 _ hz rfl,hc i z 2 _ hz rfl,hc i z 3 _ hz rfl,hc i z 4 _ hz rfl,hc i z 5 _ hz rfl,hc i z 6 _ hz rfl,hc i z 7 _ hz rfl,hc i z 8 _ hz rfl,hc i z 9 _ hz rfl,hc i z 10 _ hz rfl,hf z (List.mem_of_getElem? hz)⟩
def ja7 (W:World) (q:Nat):Prop:=∀i u,W.cell? ⟨q,i,none⟩=some u→∃a n c,u=.slice a n c
theorem jn4 {W:World} {q:Nat} {a1 a2 a3:Option Addr} {m1 c1 m2 c2 m3 c3:Nat} {T:TypeId} {fr:Nat×Nat} (hh:W.heap[q]?=some (.cells #[.slice a1 m1 c1,.slice a2 m2 c2,.slice a3 m3 c3] T fr)):ja7 W q:=by
 intro i u h;rw[Lib.cell_of_heap hh] at h
 match i,h with
 | 0,h=>cases h;exact⟨_,_,_,rfl⟩
 | 1,h=>cases h;exact⟨_,_,_,rfl⟩
 | 2,h=>cases h;exact⟨_,_,_,rfl⟩
 | i+3,h=>simp at h
theorem ja7.noRow {W:World} {q:Nat} (h:ja7 W q):jdy W q:=fun o x u h1 _=>by
 obtain⟨_,_,_,e⟩:=h _ _ h1
 cases e
theorem jaQ {α:Type} {L:Lay α} {w w':World} {a:Option Addr} {len:Nat} {l:List α} {N:Nat} (hL:∀x,∃u,(L.cs x)[0]?=some u∧∀a n c,u≠.slice a n c) (h:jr L w a len l) (hs:w'.heap.size=w.heap.size) (hb:∀b,b≠N→w'.heap[b]?=w.heap[b]?) (hn:ja7 w N):jr L w' a len l:=by
 obtain⟨h3,h4,h5,h6⟩:=h;refine⟨h3,h4,h5,?_⟩;rcases h6 with h6 | ⟨b,off,rfl,hlt,hc⟩
 · exact .inl h6
 · cases l with
   | nil=>exact .inl h3.symm
   | cons x t =>
    have hne:b≠N:=by
     rintro rfl;obtain⟨u,g0,g1⟩:=hL x;obtain⟨_,_,_,e⟩:=hn _ _ (hc 0 x 0 _ rfl g0);exact g1 _ _ _ e
    exact .inr ⟨b,off,rfl,by rw[hs];exact hlt,fun i x j u hi hj=>(World.cell?_of_block (a:=⟨b,off+i*L.m+j,none⟩) (hb b hne)).trans (hc i x j u hi hj)⟩
theorem XS {α:Type} {L:Lay α} {w w':World} {v:Value} {l:List α} {N:Nat} (hL:∀x,∃u,(L.cs x)[0]?=some u∧∀a n c,u≠.slice a n c) (h:Reads L w v l) (hs:w'.heap.size=w.heap.size) (hb:∀b,b≠N→w'.heap[b]?=w.heap[b]?) (hn:ja7 w N):Reads L w' v l:=by
 obtain⟨a,cap,rfl,h1,h2,h3⟩:=h;exact⟨a,cap,rfl,h1,h2,jaQ hL h3 hs hb hn⟩
theorem joM (x:ByteArray×ByteArray):∃u,(js.cs x)[0]?=some u∧∀a n c,u≠.slice a n c:=⟨_,rfl,fun _ _ _ e=>by cases e⟩
theorem joE (x:NT):∃u,(jq.cs x)[0]?=some u∧∀a n c,u≠.slice a n c:=⟨_,rfl,fun _ _ _ e=>by cases e⟩
theorem jmN (x:Int×ByteArray×ByteArray):∃u,(jL.cs x)[0]?=some u∧∀a n c,u≠.slice a n c:=⟨_,rfl,fun _ _ _ e=>by cases e⟩
theorem joT (x:NX):∃u,(zJ.cs x)[0]?=some u∧∀a n c,u≠.slice a n c:=⟨_,rfl,fun _ _ _ e=>by cases e⟩
theorem jn0 (x:PX):∃u,(zi.cs x)[0]?=some u∧∀a n c,u≠.slice a n c:=⟨_,rfl,fun _ _ _ e=>by cases e⟩
theorem joA (x:BX):∃u,(zu.cs x)[0]?=some u∧∀a n c,u≠.slice a n c:=⟨_,rfl,fun _ _ _ e=>by cases e⟩
theorem jly {w:World} {a:Option Addr} {len:Nat} {lx:List BX} (h:jr zu w a len lx) (hf:∀z ∈ lx,At1 w z):Je w a len (lx.map fun z=>z.1):=by
 obtain⟨g0,g1,g2,g3⟩:=h;refine⟨by rw[List.length_map];exact g0,g1,g3.imp id ?_⟩;rintro ⟨b,off,rfl,hb,hc⟩;refine⟨b,off,rfl,hb,fun i n hi=>?_⟩;rw[List.getElem?_map] at hi;obtain⟨z,hz,rfl⟩:=Option.map_eq_some_iff.1 hi;exact⟨_,hc i z 0 _ hz rfl,hc i z 1 _ hz rfl,hc i z 2 _ hz rfl,hf z (List.mem_of_getElem? hz)⟩
section
variable {w w':World} {N:Nat} (hs:w'.heap.size=w.heap.size) (hb:∀b,b≠N→w'.heap[b]?=w.heap[b]?) (hn:ja7 w N)
include hs hb hn
theorem jhN {v:Value} {l:List Nod} (h:Zf w v l):Zf w' v l:=by
 obtain⟨a,cap,rfl,h1,h2,h3⟩:=h;obtain⟨lx,hm,hr,hat⟩:=jng h3;exact⟨a,cap,rfl,h1,h2,by rw[←hm];exact jkJ (by rw[hm];exact jaQ joT hr hs hb hn) fun z hz=>jbN (hat z hz) hs hb hn.noRow⟩
theorem jjE {v:Value} {l:List Pd} (h:Yw w v l):Yw w' v l:=by
 obtain⟨a,cap,rfl,h1,h2,h3⟩:=h;obtain⟨lx,hm,hr,hat⟩:=jno h3;exact⟨a,cap,rfl,h1,h2,by
  rw[←hm];exact jmD (by rw[hm];exact jaQ jn0 hr hs hb hn) fun z hz=>by
   have g:=hat z hz;exact⟨g.name,g.owner,g.key,g.node,g.prio,g.most,jfz g.need hs hb hn.noRow,XS joM g.labels hs hb hn,XS jmN g.sel hs hb hn,XS joE g.tols hs hb hn⟩⟩
theorem jjK {v:Value} {l:List Bd} (h:ZQ w v l):ZQ w' v l:=by
 obtain⟨a,cap,rfl,h1,h2,h3⟩:=h;obtain⟨lx,hm,hr,hat⟩:=jm8 h3;exact⟨a,cap,rfl,h1,h2,by
  rw[←hm];exact jly (by rw[hm];exact jaQ joA hr hs hb hn) fun z hz=>by
   have g:=hat z hz;exact⟨g.name,g.floor,XS jmN g.sel hs hb hn⟩⟩
end
end Go.Proofs.YthmddloeggdohaaGreatDoor
namespace Go.Proofs.YthmddloeggdohaaGreatDoor
open Go.RowKit
theorem joL {v:Value} {s:Clu} {w:World} (h:Zl w v s) (hl:jdw s) (e1:s.nodes.length≤1000) (e2:s.pods.length≤1000) (e3:s.buds.length≤1000):Calls Tryz.prog 11 #[v] w fun e w'=>∃v,e=.returned v∧Zl w' v s∧Kept w w':=by
 obtain⟨v1,v2,v3,rfl,⟨a,cap,rfl,l1,m1,h1⟩,⟨b,cp,rfl,l2,m2,h2⟩,⟨d,cb,rfl,l3,m3,h3⟩⟩:=h;obtain⟨nl,pl,bl⟩:=s;dsimp only at *;obtain⟨len,hlen⟩:∃q,nl.length=q:=⟨_,rfl⟩
 obtain⟨m,hm⟩:∃q,pl.length=q:=⟨_,rfl⟩
 obtain⟨n,hn⟩:∃q,bl.length=q:=⟨_,rfl⟩
 rw[hlen] at h1 l1;rw[hm] at h2 l2;rw[hn] at h3 l3;try rw[hlen]
 try rw[hm]
 try rw[hn]
 obtain⟨Z,hZ⟩:∃Z,(w.alloc (.cells #[.slice a len cap,.slice b m cp,.slice d n cb] 26)).alloc (.cells #[.slice none 0 0,.slice none 0 0,.slice none 0 0] 48)=Z:=⟨_,rfl⟩
 have hkz:Kept w Z:=by rw[←hZ];exact jk _ _ _
 have cc:=jg w (.slice a len cap) [.slice b m cp,.slice d n cb] 26 Z (by rw[←hZ];exact ja _ _);have HH:=lH (show jf (w.heap.size+1) [.slice none 0 0,.slice none 0 0,.slice none 0 0] Z by
  have dd:=jg (w.alloc (.cells #[.slice a len cap,.slice b m cp,.slice d n cb] 26)) (.slice none 0 0) [.slice none 0 0,.slice none 0 0] 48 Z (by rw[hZ];exact Kept.refl _);rw[World.size_alloc] at dd;exact dd)
 have HN:=lH (fun W (k:Kept Z W)=>jon (jaV l1 m1 (h1.kept (hkz.trans k))) hl.nodes e1);have HP:=lH (fun W (k:Kept Z W)=>jnJ (jiH l2 m2 (h2.kept (hkz.trans k))) hl.pods e2);have HB:=lH (fun W (k:Kept Z W)=>jm4 (jek l3 m3 (h3.kept (hkz.trans k))) hl.buds e3);have HKZ:=lH hkz;have HSL:=lH (show ∀W,Kept Z W→ja7 W (w.heap.size+1) from fun W k=>by
  have hh:Z.heap[w.heap.size+1]?=some (.cells #[.slice none 0 0,.slice none 0 0,.slice none 0 0] 48):=by
   have:=(w.alloc (.cells #[.slice a len cap,.slice b m cp,.slice d n cb] 26)).alloc_heap_new (.cells #[.slice none 0 0,.slice none 0 0,.slice none 0 0] 48);rw[World.size_alloc,hZ] at this;exact this
  exact jn4 ((k.block _ (Array.getElem?_eq_some_iff.1 hh).1).trans hh))
 have HS:=lH (show ∀W,Kept Z W→W.cell? ⟨w.heap.size,0,none⟩=some (.slice a len cap)∧W.cell? ⟨w.heap.size,1,none⟩=some (.slice b m cp)∧W.cell? ⟨w.heap.size,2,none⟩=some (.slice d n cb) from fun W k=>⟨(cc.kept k).at_ 0 _ rfl,(cc.kept k).at_ 1 _ rfl,(cc.kept k).at_ 2 _ rfl⟩);have HS2:=lH (show ∀U W:World,(∀b,b≠w.heap.size+1→U.heap[b]?=W.heap[b]?)→Kept Z W→U.cell? ⟨w.heap.size,0,none⟩=some (.slice a len cap)∧U.cell? ⟨w.heap.size,1,none⟩=some (.slice b m cp)∧U.cell? ⟨w.heap.size,2,none⟩=some (.slice d n cb) from fun U W e k=>by
  have c:=(cc.kept k).block (e _ (by omega));exact⟨c.at_ 0 _ rfl,c.at_ 1 _ rfl,c.at_ 2 _ rfl⟩)
 clear h1 h2 h3 l1 l2 l3 m1 m2 m3 hkz cc hl e1 e2 e3;go_enter Tryz.func11,Tryz.ntmps11;go_wp2_with fail
 try rw[hZ]
 clear hZ;refine wp_region_held_drew (S:=fun W=>W.cell? ⟨w.heap.size,0,none⟩=some (.slice a len cap)∧W.cell? ⟨w.heap.size,1,none⟩=some (.slice b m cp)∧W.cell? ⟨w.heap.size,2,none⟩=some (.slice d n cb)) (by kernel_rfl) (HS.out _ (Kept.drew _)) (fun hHeld=>?_);refine tkI 0 ?_;refine tkI 1 ?_;refine tkI 3 ?_;refine tkI 4 ?_;refine tkI 6 ?_;refine tkI 7 ?_;try simp only[nP]
 have J:=lH (Kept.drew Z);refine rd1 2 fun K9 hK9=>?_;go_simp;refine(HN.out _ J.out).mono ?_;rintro e1 w1 ⟨u1,rfl,hr,kk⟩;have J:=lH (J.out.trans kk);have hr2:=hr;obtain⟨x1,q1,rfl,-,-,-⟩:=hr2;rw[hlen] at hr;try rw[hlen]
 have RR1:=lH hr;clear hr kk;refine hK9.out _ _ (HS.out _ J.out) (fun hHeld1=>?_);clear hK9 K9;try simp only[nP]
 refine rd1 5 fun K9 hK9=>?_;go_simp;refine(HP.out _ J.out).mono ?_;rintro e2 w2 ⟨u2,rfl,hr,kk⟩;have J:=lH (J.out.trans kk);have RR1:=lH (RR1.out.kept kk);have hr2:=hr;obtain⟨x2,q2,rfl,-,-,-⟩:=hr2;rw[hm] at hr;try rw[hm]
 have RR2:=lH hr;clear hr kk;refine hK9.out _ _ (HS.out _ J.out) (fun hHeld2=>?_);clear hK9 K9;try simp only[nP]
 refine rd1 8 fun K9 hK9=>?_;go_simp;refine(HB.out _ J.out).mono ?_;rintro e3 w3 ⟨u3,rfl,hr,kk⟩;have J:=lH (J.out.trans kk);have RR1:=lH (RR1.out.kept kk);have RR2:=lH (RR2.out.kept kk);have hr2:=hr;obtain⟨x3,q3,rfl,-,-,-⟩:=hr2;rw[hn] at hr;try rw[hn]
 have RR3:=lH hr;clear hr kk;refine hK9.out _ _ (HS.out _ J.out) (fun hHeld3=>?_);clear hK9 K9;try simp only[nP]
 refine tkI 9 ?_;try simp only[nP]
 have H9:=lH (HH.out.kept J.out);have z0:=H9.out.at_ 0 _ rfl;have z1:=H9.out.at_ 1 _ rfl;have z2:=H9.out.at_ 2 _ rfl;have f0:=H9.out.free 0;have f1:=H9.out.free 1;have f2:=H9.out.free 2;have PP:=lH (J7 (vs:=[.slice x1 len q1,.slice x2 m q2,.slice x3 n q3]) H9.out rfl);refine rd1 10 fun K9 hK9=>?_;go_simp;obtain⟨WE,hWE⟩:∃W,w3.setCells (w.heap.size+1) 0 [.slice x1 len q1,.slice x2 m q2,.slice x3 n q3]=W:=⟨_,rfl⟩
 have hWE2:(((w3.setCell ⟨(w.heap.size+1),0,none⟩ (.slice x1 len q1)).setCell ⟨(w.heap.size+1),1,none⟩ (.slice x2 m q2)).setCell ⟨(w.heap.size+1),2,none⟩ (.slice x3 n q3))=WE:=hWE;rw[hWE] at PP;try rw[hWE2]
 obtain⟨PC,hsz,hbl,hkp⟩:=PP.out;skip;refine hK9.out _ _ (HS2.out _ _ hbl J.out) (fun hHeldS=>?_);clear hK9 K9 z0 z1 z2 f0 f1 f2;try simp only[nP]
 refine wpAnyH_done (by kernel_rfl) ?_ _;go_wp2;refine bodyPost_ret (by simp[results,Tryz.results11,go_sem,PC.at_ 0 _ rfl,PC.at_ 1 _ rfl,PC.at_ 2 _ rfl];try rfl) rfl ?_;have SL:=HSL.out _ J.out;exact⟨_,rfl,⟨_,_,_,rfl,jhN hsz hbl SL RR1.out,jjE hsz hbl SL RR2.out,jjK hsz hbl SL RR3.out⟩,hkp _ _ (Nat.le_succ _) (HKZ.out.trans J.out)⟩
theorem jmC {n:Pd} (h:Ji n=true):jdZ n:=by
 obtain⟨-,-,-,-,h1,h2,h3,h4⟩:=XR h;refine⟨?_,?_,?_,?_⟩
 · unfold Vec.Zv at h1;simp only[Bool.and_eq_true,decide_eq_true_eq] at h1;omega
 · have:=(Xo h2).1;omega
 · have:=(Xv h3).1;omega
 · have:=(Xd h4).1;omega
def Xw (s:Clu):Bool:=XV s&&decide (zB s=0)
theorem jgB {s:Clu} (h:XV s=true):jdw s∧s.nodes.length≤34∧s.pods.length≤130∧s.buds.length≤20:=by
 unfold XV Yc at h;simp only[Bool.and_eq_true,decide_eq_true_eq,List.all_eq_true] at h;obtain⟨h1,h2,⟨h3,h4⟩,h5,h6⟩:=h;refine⟨⟨fun n hn=>jnt (h5 n hn),fun p hp=>jmC (h6 p hp),fun n hn=>?_,by omega,by omega,by omega⟩,by omega,by omega,by omega⟩;have:=h4 n hn;unfold ZS Ys at this;simp only[Bool.and_eq_true,decide_eq_true_eq] at this;omega
theorem jlz {s:Clu} (h:Xw s=true):XV s=true:=by unfold Xw at h;exact(Bool.and_eq_true_iff.1 h).1
theorem jl4 {s:Clu} (h:Xw s=true):zB s=0:=by unfold Xw at h;exact of_decide_eq_true (Bool.and_eq_true_iff.1 h).2
theorem jnz {v:Value} {s:Clu} {c:Bool} {w:World} (h:Zl w v s) (hc:Xw s=c):Calls Tryz.prog 5 #[v] w (Say (.bool c) w):=by
 subst hc;have h0:=h;obtain⟨v1,v2,v3,rfl,⟨a,cap,rfl,-,-,-⟩,⟨b,cp,rfl,-,-,-⟩,⟨d,cb,rfl,-,-,-⟩⟩:=h0;obtain⟨len,hl1⟩:∃q,s.nodes.length=q:=⟨_,rfl⟩
 obtain⟨m,hl2⟩:∃q,s.pods.length=q:=⟨_,rfl⟩
 obtain⟨n,hl3⟩:∃q,s.buds.length=q:=⟨_,rfl⟩
 rw[hl1,hl2,hl3] at h ⊢;clear hl1 hl2 hl3;obtain⟨Z,hZ⟩:∃Z,w.alloc (.cells #[.slice a len cap,.slice b m cp,.slice d n cb] 26)=Z:=⟨_,rfl⟩
 have hkz:Kept w Z:=by rw[←hZ];exact ja _ _
 have HC:=lH (show jf w.heap.size [.slice a len cap,.slice b m cp,.slice d n cb] Z from jg w (.slice a len cap) [.slice b m cp,.slice d n cb] 26 Z (by rw[hZ];exact Kept.refl _));have HV:=lH (h.kept hkz);have HKZ:=lH hkz;obtain⟨e1,he1⟩:∃e,XV s=e:=⟨_,rfl⟩
 have HE1:=lH he1;have HG:=lH (show Xw s=(e1&&decide (zB s=0)) by unfold Xw;rw[he1]);rw[HG.out];clear h hkz;have cq0:=(HC.out.kept (Kept.refl _)).at_ 0 _ rfl;have cq1:=(HC.out.kept (Kept.refl _)).at_ 1 _ rfl;have cq2:=(HC.out.kept (Kept.refl _)).at_ 2 _ rfl;go_enter Tryz.func5,Tryz.ntmps5;go_wp2_with fail
 try rw[hZ]
 clear hZ;refine(jos HV.out he1).mono ?_;rintro e w1 ⟨rfl,kk⟩;have K:=lH kk;clear kk he1 cq0 cq1 cq2;have cq0:=(HC.out.kept K.out).at_ 0 _ rfl;have cq1:=(HC.out.kept K.out).at_ 1 _ rfl;have cq2:=(HC.out.kept K.out).at_ 2 _ rfl
 cases e1 with
 | false =>
  go_wp2;go_ret;exact⟨rfl,HKZ.out.trans K.out⟩
 | true =>
  obtain⟨L1,L2,L3,L4⟩:=jgB HE1.out;have HL:=lH L1;clear L1;go_wp2_with fail
  refine(joL (HV.out.kept K.out) HL.out (by omega) (by omega) (by omega)).mono ?_;rintro e w2 ⟨x9,rfl,hx,kk⟩;have K2:=lH (K.out.trans kk);have HX:=lH hx;clear hx kk cq0 cq1 cq2;go_wp2_with fail
  obtain⟨c,hc⟩:∃c,zB s=c:=⟨_,rfl⟩
  refine(jj0 HX.out hc).mono ?_;rintro e w3 ⟨rfl,kk⟩;have K3:=lH (K2.out.trans kk);have HCC:=lH hc;clear kk;rw[hc];clear hc;obtain⟨t,ht⟩:∃t,decide (c=0)=t:=⟨_,rfl⟩
  have ht':(c==0)=t:=ht;go_wp2;go_ret;exact⟨by rw[HCC.out,ht];rfl,HKZ.out.trans K3.out⟩
def Asc (l:List Pd):Prop:=l.Pairwise fun x y=>ltS x.name y.name=true
theorem jfN:∀{prev:Option ByteArray} {l:List Pd},j4 prev l=0→(∀q,prev=some q→∀x ∈ l,ltS q x.name=true)∧Asc l
 | _,[],_=>⟨fun q _ x h=>absurd h (by simp),.nil⟩
 | prev,n::t,h=>by
  by_cases z:zV n=0
  · by_cases y:Vec.jI prev n.name=true
    · rw[qp z y] at h;cases h
    · have y:Vec.jI prev n.name=false:=by simpa using y
      rw[Xc z y] at h;obtain⟨h2,h3⟩:=jfN h;refine⟨fun q hq x hx=>?_,List.pairwise_cons.2 ⟨fun x hx=>h2 _ rfl x hx,h3⟩⟩;subst hq;have hlt:ltS q n.name=true:=Vec.qL y;rcases List.mem_cons.1 hx with rfl | hx
      · exact hlt
      · exact Vec.JZ hlt (h2 _ rfl x hx)
  · rw[jaA z] at h;exact absurd h z
def jog (l:Vec.V):Prop:=Vec.Gd l∧l.length≤8
theorem jog.nil:jog []:=⟨Vec.Gd.nil,by decide⟩
structure joN (s:Clu):Prop where
 nodes:jJ s.nodes=0
 pods:jK s.pods=0
 places:jz s.nodes s.pods=0
 rooms:jV s.pods s.nodes=0
 tot:(JN s.nodes []).1=0
theorem jlI {s:Clu} (h:zB s=0):joN s:=by
 have h0:or3 (jJ s.nodes) (jK s.pods) (jA s.buds)=0:=Decidable.byContradiction fun g=>g ((jb9 (nl:=s.nodes) (pl:=s.pods) (bl:=s.buds) rfl g).symm.trans h);have h1:jz s.nodes s.pods=0:=Decidable.byContradiction fun g=>g ((jbz (nl:=s.nodes) (pl:=s.pods) (bl:=s.buds) h0 rfl g).symm.trans h);have h2:jV s.pods s.nodes=0:=Decidable.byContradiction fun g=>g ((qz (nl:=s.nodes) (pl:=s.pods) (bl:=s.buds) h0 h1 rfl g).symm.trans h);have h3:(JN s.nodes []).1=0:=(jcV (nl:=s.nodes) (pl:=s.pods) (bl:=s.buds) h0 h1 h2).symm.trans h;have ho:jJ s.nodes=0∧jK s.pods=0:=by
  unfold or3 at h0;split at h0
  · rename_i h1;exact absurd h0 h1
  · rename_i g1;split at h0
    · rename_i g2;exact absurd h0 g2
    · rename_i g2;exact⟨Decidable.of_not_not g1,Decidable.of_not_not g2⟩
 exact⟨ho.1,ho.2,h1,h2,h3⟩
def jo6 (l:List Nod):Prop:=l.Pairwise fun x y=>ltS x.name y.name=true
theorem jbl:∀{prev:Option ByteArray} {l:List Nod},j9 prev l=0→(∀q,prev=some q→∀x ∈ l,ltS q x.name=true)∧jo6 l∧∀n ∈ l,jU n=0
 | _,[],_=>⟨fun q _ x h=>absurd h (by simp),.nil,fun n h=>absurd h (by simp)⟩
 | prev,n::t,h=>by
  by_cases z:jU n=0
  · by_cases y:Vec.jI prev n.name=true
    · rw[jaP z y] at h;cases h
    · have y:Vec.jI prev n.name=false:=by simpa using y
      rw[X1 z y] at h;obtain⟨h2,h3,h4⟩:=jbl h;refine⟨fun q hq x hx=>?_,List.pairwise_cons.2 ⟨fun x hx=>h2 _ rfl x hx,h3⟩,fun m hm=>?_⟩
      · subst hq;have hlt:ltS q n.name=true:=Vec.qL y;rcases List.mem_cons.1 hx with rfl | hx
        · exact hlt
        · exact Vec.JZ hlt (h2 _ rfl x hx)
      · rcases List.mem_cons.1 hm with rfl | hm
        · exact z
        · exact h4 m hm
  · rw[jcW z] at h;exact absurd h z
theorem jiF:∀{prev:Option ByteArray} {l:List Pd},j4 prev l=0→∀n ∈ l,zV n=0
 | prev,m::t,h,n,hn=>by
  by_cases z:zV m=0
  · by_cases y:Vec.jI prev m.name=true
    · rw[qp z y] at h;cases h
    · have y:Vec.jI prev m.name=false:=by simpa using y
      rw[Xc z y] at h;rcases List.mem_cons.1 hn with rfl | hn
      · exact z
      · exact jiF h n hn
  · rw[jaA z] at h;exact absurd h z
theorem jaX:∀{prev:Option ByteArray} {l:List Bd},jX prev l=0→(∀q,prev=some q→∀x ∈ l,ltS q x.name=true)∧(l.Pairwise fun x y=>ltS x.name y.name=true)∧∀n ∈ l,zx n=0
 | _,[],_=>⟨fun q _ x h=>absurd h (by simp),.nil,fun n h=>absurd h (by simp)⟩
 | prev,n::t,h=>by
  by_cases z:zx n=0
  · by_cases y:Vec.jI prev n.name=true
    · rw[jab z y] at h;cases h
    · have y:Vec.jI prev n.name=false:=by simpa using y
      rw[Xt z y] at h;obtain⟨h2,h3,h4⟩:=jaX h;refine⟨fun q hq x hx=>?_,List.pairwise_cons.2 ⟨fun x hx=>h2 _ rfl x hx,h3⟩,fun m hm=>?_⟩
      · subst hq;have hlt:ltS q n.name=true:=Vec.qL y;rcases List.mem_cons.1 hx with rfl | hx
        · exact hlt
        · exact Vec.JZ hlt (h2 _ rfl x hx)
      · rcases List.mem_cons.1 hm with rfl | hm
        · exact z
        · exact h4 m hm
  · rw[jbB z] at h;exact absurd h z
theorem jo9 {s:Clu} (h:zB s=0):jJ s.nodes=0∧jK s.pods=0∧jA s.buds=0:=by
 have hp:=jlI h;have h0:or3 (jJ s.nodes) (jK s.pods) (jA s.buds)=0:=Decidable.byContradiction fun g=>g ((jb9 (nl:=s.nodes) (pl:=s.pods) (bl:=s.buds) rfl g).symm.trans h);refine⟨hp.nodes,hp.pods,?_⟩;unfold or3 at h0;rw[hp.nodes,hp.pods] at h0;simpa using h0
theorem jma {s:Clu} (h:zB s=0):YY s∧(∀n ∈ s.nodes,jU n=0)∧(∀n ∈ s.pods,zV n=0)∧(∀n ∈ s.buds,zx n=0):=by
 obtain⟨h1,h2,h3⟩:=jo9 h;unfold jJ at h1;unfold jK at h2;unfold jA at h3;split at h1
 · cases h1
 · rename_i l1;split at h2
   · cases h2
   · rename_i l2;split at h3
     · cases h3
     · rename_i l3;refine⟨⟨List.pairwise_map.2 (jbl h1).2.1,List.pairwise_map.2 (jfN h2).2,List.pairwise_map.2 (jaX h3).2.1,by omega,by omega,by omega⟩,(jbl h1).2.2,jiF h2,(jaX h3).2.2⟩
theorem jcr {l:Vec.V} (h:Vec.Zv l=true) (hf:Vec.zp l) (h8:l.length≤8):(Vec.j7 l).length≤640:=by
 unfold Vec.Zv at h;simp only[Bool.and_eq_true,decide_eq_true_eq] at h;unfold Vec.j7;split
 · decide
 · have:=qB l true (fun x hx=>by
    obtain⟨k,hk,rfl⟩:=List.getElem_of_mem hx;have e:l.getD k (ByteArray.empty,0)=l[k]:=by simp[List.getD,hk]
    have h1:=Vec.qe h.2 hk;have h2:=(hf k hk).2;unfold Vec.nm at h1;unfold Vec.qn at h2;rw[e] at h1 h2;exact⟨h1,h2⟩)
   omega
theorem jcs {l:PL} (h:Yt l=true) (h8:l.length≤8):(zr l).size≤816:=by
 obtain⟨h1,h2⟩:=Xo h;unfold zr;split
 · decide
 · have:=Zn (ts:=l.map zR) (B:=101) (fun z hz=>by
    obtain⟨x,hx,rfl⟩:=List.mem_map.1 hz;have:=h2 x hx;unfold zR;rw[ByteArray.size_append,ByteArray.size_append,JR];omega)
   rw[List.length_map] at this;omega
theorem jhv {l:NL} (h:J5 l=true) (h8:l.length≤8):(zS l).size≤824:=by
 obtain⟨h1,h2⟩:=Xd h;unfold zS;split
 · decide
 · have:=Zn (ts:=l.map zh) (B:=102) (fun z hz=>by
    obtain⟨x,hx,rfl⟩:=List.mem_map.1 hz;have:=h2 x hx;unfold zh;split
    · rw[ByteArray.size_append,ByteArray.size_append,ByteArray.size_append,JR,JR];omega
    · rw[ByteArray.size_append,ByteArray.size_append,JR];omega)
   rw[List.length_map] at this;omega
theorem jcy {l:TL} (h:Ys l=true) (h8:l.length≤8):(zD l).size≤816:=by
 obtain⟨h1,h2⟩:=Xv h;unfold zD;split
 · decide
 · have:=Zn (ts:=l.map zK) (B:=101) (fun z hz=>by
    obtain⟨x,hx,rfl⟩:=List.mem_map.1 hz;have:=h2 x hx;have e1:(⟨#[58]⟩:ByteArray).size=1:=rfl;have e2:(⟨#[33]⟩:ByteArray).size=1:=rfl;have e3:(⟨#[45]⟩:ByteArray).size=1:=rfl;unfold zK;split
    · rw[ByteArray.size_append,ByteArray.size_append];omega
    · split
      · rw[ByteArray.size_append,ByteArray.size_append];omega
      · split
        · rw[ByteArray.size_append];omega
        · omega)
   rw[List.length_map] at this;omega
theorem jhs {l:NL} (h:J5 l=true) (h8:l.length≤8):(Jh l).size≤816:=by
 obtain⟨h1,h2⟩:=Xd h;unfold Jh;split
 · decide
 · have:=Zn (ts:=l.map Jx) (B:=101) (fun z hz=>by
    obtain⟨x,hx,rfl⟩:=List.mem_map.1 hz;have:=h2 x hx;have hs:=jeQ this.1;have e1:(⟨#[58]⟩:ByteArray).size=1:=rfl;unfold Jx;split
    · omega
    · rw[ByteArray.size_append,ByteArray.size_append];omega)
   rw[List.length_map] at this;omega
theorem jkK {l:PL} (h:zE l=0):l.length≤8:=by
 unfold zE at h;split at h
 · cases h
 · omega
theorem jox {l:NL} (h:Jg l=0):l.length≤8:=by
 unfold Jg at h;split at h
 · cases h
 · omega
theorem jkf {l:TL} (h:zb l=0):l.length≤8:=by
 unfold zb at h;split at h
 · cases h
 · omega
theorem joc {l:NL} (h:zw l=0):l.length≤8:=by
 unfold zw at h;split at h
 · cases h
 · omega
theorem jjw {n:Nod} (h:jU n=0):n.cap.length≤8∧n.labels.length≤8∧n.taints.length≤8:=by
 unfold jU at h;split at h
 · cases h
 · split at h
   · rename_i g;exact absurd h g
   · rename_i g1;split at h
     · rename_i g;exact absurd h g
     · rename_i g2;exact⟨Vec.YI (Decidable.not_not.1 g1),jkK (Decidable.not_not.1 g2),jox h⟩
theorem jh6 {n:Nod} (h:JK n=true) (hf:Vec.zp n.cap) (hc:jU n=0):(za n).size≤2400:=by
 obtain⟨h0,h1,h2,h3⟩:=jbQ h;obtain⟨g1,g2,g3⟩:=jjw hc;have a:=jcr h1 hf g1;have b:=jcs h2 g2;have c:=jhv h3 g3;have d:=jaJ n.cordon;have e:(bytes (Vec.j7 n.cap)).size=(Vec.j7 n.cap).length:=ji _;unfold za;simp only[ByteArray.size_append,JR];omega
theorem jgN {n:Pd} (h:Ji n=true) (hv:Vec.zp n.need) (hp:-9223372036854775808≤n.prio∧n.prio≤9223372036854775807) (hm:-9223372036854775808≤n.most∧n.most≤9223372036854775807) (hc:zV n=0):(jY n).size≤3800:=by
 obtain⟨h1,h2,h3,h4,h5,h6,h7,h8⟩:=XR h;have hz:=or_zero hc;have z1:n.need.length≤8:=Vec.YI (hz _ (by simp[jE]));have z2:n.labels.length≤8:=jkK (hz _ (by simp[jE]));have z3:n.sel.length≤8:=jkf (hz _ (by simp[jE]));have z4:n.tols.length≤8:=joc (hz _ (by simp[jE]));have a1:=qG h2;have a2:=qG h4;have a3:=jcr h5 hv z1;have a4:=jcs h6 z2;have a5:=jcy h7 z3;have a6:=jhs h8 z4;have a7:=jbH h3 hm.1 hm.2;have a8:=jdD n.hold;have a9:=Lib.itoa_length_le n.prio hp.1 hp.2;have e:(bytes (Vec.j7 n.need)).size=(Vec.j7 n.need).length:=ji _;have e2:(bytes (Lib.itoa n.prio)).size=(Lib.itoa n.prio).length:=ji _;unfold jY jbG;rw[jaH];simp only[ByteArray.size_append,JR];omega
theorem jgI {n:Bd} (h:ZS n=true) (hm:-9223372036854775808≤n.floor∧n.floor≤9223372036854775807) (hc:zx n=0):(j5 n).size≤1000:=by
 obtain⟨h1,h2⟩:=jcq h;have a:=jcy h2 (jkf (or_zero hc _ (by simp)));have b:=Lib.itoa_length_le n.floor hm.1 hm.2;have e:(bytes (Lib.itoa n.floor)).size=(Lib.itoa n.floor).length:=ji _;unfold j5;simp only[ByteArray.size_append,JR];omega
structure jmO (s:Clu):Prop where
 n:∀n ∈ s.nodes,Vec.zp n.cap
 p:∀n ∈ s.pods,Vec.zp n.need∧(-9223372036854775808≤n.prio∧n.prio≤9223372036854775807)∧-9223372036854775808≤n.most∧n.most≤9223372036854775807
 b:∀n ∈ s.buds,-9223372036854775808≤n.floor∧n.floor≤9223372036854775807
theorem Zl.held {v:Value} {s:Clu} {w:World} (h:Zl w v s):jmO s:=by
 obtain⟨v1,v2,v3,-,⟨a1,p1,-,-,-,hn⟩,⟨a2,p2,-,-,-,hp⟩,⟨a3,p3,-,-,-,hb⟩⟩:=h;refine⟨fun n hm=>?_,fun n hm=>?_,fun n hm=>?_⟩
 · obtain⟨k,hk,e⟩:=List.getElem_of_mem hm;rcases hn.2.2 with h0 | ⟨b,off,-,-,hc⟩
   · omega
   · obtain⟨_,_,_,_,_,_,_,_,_,_,_,_,_,_,hN⟩:=hc k n (by rw[List.getElem?_eq_getElem hk,e]);exact hN.cap.fine
 · obtain⟨k,hk,e⟩:=List.getElem_of_mem hm;rcases hp.2.2 with h0 | ⟨b,off,-,-,hc⟩
   · omega
   · obtain⟨_,_,_,_,_,_,_,_,_,_,_,_,_,_,_,hN⟩:=hc k n (by rw[List.getElem?_eq_getElem hk,e]);exact⟨hN.need.fine,hN.prio,hN.most⟩
 · obtain⟨k,hk,e⟩:=List.getElem_of_mem hm;rcases hb.2.2 with h0 | ⟨b,off,-,-,hc⟩
   · omega
   · obtain⟨_,_,_,_,hN⟩:=hc k n (by rw[List.getElem?_eq_getElem hk,e]);exact hN.floor
structure jfw (s:Clu):Prop where
 fine:jfu s
 ord:YY s
 mid:jgQ s
 hop:∀p ∈ s.pods,∀x ∈ p.sel,1≤x.1∧x.1≤4
 hob:∀p ∈ s.buds,∀x ∈ p.sel,1≤x.1∧x.1≤4
 low:jdw s
 len:∀l ∈ Zh s,l.length≤3806
 b24:∀n ∈ s.nodes,(za n).size≤2400
 b38:∀n ∈ s.pods,(jY n).size≤3800
 b10:∀n ∈ s.buds,(j5 n).size≤1000
theorem joZ {s:Clu} (h:XV s=true):(∀n ∈ s.nodes,JK n=true)∧(∀n ∈ s.pods,Ji n=true)∧∀n ∈ s.buds,ZS n=true:=by
 unfold XV Yc at h;simp only[Bool.and_eq_true,decide_eq_true_eq,List.all_eq_true] at h;exact⟨h.2.2.2.1,h.2.2.2.2,h.2.2.1.2⟩
theorem jie:∀{l:TL},JG l=0→∀x ∈ l,1≤x.1∧x.1≤4
 | [],_,x,h=>absurd h (by simp)
 | t::r,h,x,hx=>by
  rw[JG] at h;split at h
  · rename_i g;exact absurd h g
  · rename_i g;have g:=Decidable.not_not.1 g;rcases List.mem_cons.1 hx with rfl | hx
    · unfold Ja at g;split at g
      · omega
      · split at g
        · omega
        · cases g
    · exact jie h x hx
theorem jgH {l:TL} (h:zb l=0):∀x ∈ l,1≤x.1∧x.1≤4:=by
 unfold zb at h;split at h
 · cases h
 · exact jie h
theorem joO {s:Clu} (hg:Xw s=true) (hh:jmO s):jfw s:=by
 have hf:=jlz hg;obtain⟨ho,c1,c2,c3⟩:=jma (jl4 hg);obtain⟨f1,f2,f3⟩:=joZ hf;obtain⟨hl,-,-,-⟩:=jgB hf;have b1:∀n ∈ s.nodes,(za n).size≤2400:=fun n hn=>jh6 (f1 n hn) (hh.n n hn) (c1 n hn);have b2:∀n ∈ s.pods,(jY n).size≤3800:=fun n hn=>jgN (f2 n hn) (hh.p n hn).1 (hh.p n hn).2.1 (hh.p n hn).2.2 (c2 n hn);have b3:∀n ∈ s.buds,(j5 n).size≤1000:=fun n hn=>jgI (f3 n hn) (hh.b n hn) (c3 n hn);refine⟨⟨fun n hn=>⟨c1 n hn,hh.n n hn,Nat.le_trans (b1 n hn) (by decide)⟩,fun n hn=>⟨c2 n hn,(hh.p n hn).1,Nat.le_trans (b2 n hn) (by decide)⟩,fun n hn=>⟨c3 n hn,Nat.le_trans (b3 n hn) (by decide)⟩⟩,ho,⟨fun n hn=>⟨jfH (f1 n hn),Nat.le_trans (b1 n hn) (by decide)⟩,fun n hn=>⟨f2 n hn,Nat.le_trans (b2 n hn) (by decide)⟩,fun n hn=>⟨f3 n hn,Nat.le_trans (b3 n hn) (by decide)⟩,Nat.le_trans ho.nl (by decide),Nat.le_trans ho.pl (by decide),Nat.le_trans ho.bl (by decide)⟩,fun p hp=>jgH (or_zero (c2 p hp) _ (by simp[jE])),fun p hp=>jgH (or_zero (c3 p hp) _ (by simp)),hl,fun l h=>?_,b1,b2,b3⟩;have two:∀(x:List UInt8) (t:ByteArray),(x++32::t.data.toList).length=x.length+1+t.size:=fun x t=>by
  rw[List.length_append,List.length_cons,Y5];omega
 unfold Zh at h;rcases List.mem_append.1 h with h | h
 · obtain⟨n,hn,rfl⟩:=List.mem_map.1 h;rw[two];have:=b1 n hn;show 4+1+_≤_;omega
 · rcases List.mem_append.1 h with h | h
   · obtain⟨n,hn,rfl⟩:=List.mem_map.1 h;rw[two];have:=b2 n hn;show 3+1+_≤_;omega
   · obtain⟨n,hn,rfl⟩:=List.mem_map.1 h;rw[two];have:=b3 n hn;show 6+1+_≤_;omega
theorem jih:∀{ls:List (List UInt8)} {B:Nat},(∀l ∈ ls,l.length≤B)→(unL ls).length≤ls.length*(B+1)
 | [],_,_=>Nat.zero_le _
 | l::r,B,h=>by
  have h1:=h l (by simp);have h2:=jih (ls:=r) (B:=B) fun x hx=>h x (by simp[hx]);show (l++10::unL r).length≤_;simp only[List.length_append,List.length_cons,Nat.add_mul];omega
theorem jfw.lines {s:Clu} (h:jfw s):(Zh s).length≤168:=by
 rw[jju];have:=h.ord.nl;have:=h.ord.pl;have:=h.ord.bl;omega
section
variable {α β:Type}
end
theorem XQ {t:List UInt8} (h:t.all (fun c=>c != 10)=true):ZU t:=fun c hc e=>by
 have:=List.all_eq_true.1 h c hc;rw[e] at this
 cases this
theorem jlP {ls:List (List UInt8)} {x:List UInt8}:unL (ls++[x])=unL ls++(x++[10]):=by
 rw[jb4];rfl
theorem jkL {a b:ByteArray} (h:a.data.toList=b.data.toList):a=b:=by
 cases a;cases b;simp only at h;congr 1;exact Array.toList_inj.1 h
theorem jl5 {ls:List (List UInt8)} {k:Nat} {x:List UInt8} (h:ls[k]?=some x):bytes (unL (ls.take k))++bytes x++⟨#[10]⟩=bytes (unL (ls.take (k+1))):=by
 rw[List.take_add_one,h];apply jkL;simp[bytes,ByteArray.data_append,Array.toList_append,jlP]
theorem step_nodes {s:Clu} {m:jD} {n:Nod} (h:n ∈ (jj s m).2.nodes):n ∈ s.nodes∨m=.node n:=by
 cases m with
 | skip=>exact .inl h
 | bad=>exact .inl h
 | node x =>
  unfold jj at h;dsimp only at h;split at h
  · exact .inl h
  · split at h
    · exact .inl h
    · have h:n ∈ s.nodes.take (zo x.name (s.nodes.map fun n=>n.name))++x::s.nodes.drop (zo x.name (s.nodes.map fun n=>n.name)):=h;rcases List.mem_append.1 h with h | h
      · exact .inl (List.mem_of_mem_take h)
      · rcases List.mem_cons.1 h with h | h
        · exact .inr (by rw[h])
        · exact .inl (List.mem_of_mem_drop h)
 | pod x =>
  unfold jj at h;dsimp only at h;split at h
  · exact .inl h
  · split at h
    · exact .inl h
    · exact .inl h
 | bud x =>
  unfold jj at h;dsimp only at h;split at h
  · exact .inl h
  · split at h
    · exact .inl h
    · exact .inl h
theorem runL_nodes:∀(ms:List jD) (s:Clu) (i:Nat) (n:Nod),n ∈ (jF s i ms).2.2.nodes→n ∈ s.nodes∨jD.node n ∈ ms
 | [],s,i,n,h=>.inl h
 | m::t,s,i,n,h=>by
  by_cases h0:(jj s m).1=0
  · rw[Yo h0] at h;rcases runL_nodes t _ _ n h with h | h
    · rcases step_nodes h with h | h
      · exact .inl h
      · exact .inr (by rw[h];simp)
    · exact .inr (by simp[h])
  · rw[XC h0] at h;exact .inl h
abbrev LP:=List UInt8×jD
def jfv (P:List LP):Prop:=∀x ∈ P,ZU x.1∧Jv x.1 x.2
theorem jgu {P:List LP} (h:jfv P) {k:Nat} {l:List UInt8} (hl:(P.map (·.1))[k]?=some l):ZU l∧∃m:jD,(P.map (·.2))[k]?=some m∧Jv l m:=by
 rw[List.getElem?_map] at hl;obtain⟨x,hx,rfl⟩:=Option.map_eq_some_iff.1 hl;have:=h x (List.mem_of_getElem? hx);exact⟨this.1,x.2,by rw[List.getElem?_map,hx];rfl,this.2⟩
theorem jaf {P:List LP} (hP:jfv P) (w:World) (hE:Jf w) (hlen:(unL (P.map (·.1))).length≤900000) (hlow:∀n,jD.node n ∈ P.map (·.2)→zO n) {c:Int} {k:Nat} {s:Clu} (hr:XJ (P.map (·.2))=c) (hk:(jF ⟨[],[],[]⟩ 0 (P.map (·.2))).2.1=k) (hs:(jF ⟨[],[],[]⟩ 0 (P.map (·.2))).2.2=s) :
 Calls Tryz.prog 8 #[.string (bytes (unL (P.map (·.1))))] w (ZO c k s w):=by
 subst hr hk hs;refine jmt _ _ w hE hlen (by rw[List.length_map,List.length_map]) (fun k l h=>jgu hP h) fun n hn=>?_;rcases runL_nodes _ _ _ n hn with h | h
 · exact absurd h (by simp)
 · exact hlow n h
theorem jbI {P:List LP} {x9:LP} (hP:jfv P) (h9:ZU x9.1∧Jv x9.1 x9.2) (h8:x9.1≠[]) (w:World) (hE:Jf w) (hlen:(unL (P.map (·.1))++x9.1).length≤900000) (hlow:∀n,jD.node n ∈ P.map (·.2)++[x9.2]→zO n) {c:Int} {k:Nat} {s:Clu} (hr:XJ (P.map (·.2)++[x9.2])=c) (hk:(jF ⟨[],[],[]⟩ 0 (P.map (·.2)++[x9.2])).2.1=k) (hs:(jF ⟨[],[],[]⟩ 0 (P.map (·.2)++[x9.2])).2.2=s) :
 Calls Tryz.prog 8 #[.string (bytes (unL (P.map (·.1))++x9.1))] w (ZO c k s w):=by
 subst hr hk hs;refine jiQ _ x9.1 _ x9.2 w hE hlen (by rw[List.length_map,List.length_map]) (fun k l h=>jgu hP h) h9.1 h8 h9.2 fun n hn=>?_;rcases runL_nodes _ _ _ n hn with h | h
 · exact absurd h (by simp)
 · exact hlow n h
def jb6 (s:Clu):List LP:=(msC s).map fun m=>(JL m,m)
theorem jii (s:Clu):(jb6 s).map (·.1)=Zh s:=by
 rw[Y8];unfold jb6;rw[List.map_map];rfl
theorem jef (s:Clu):(jb6 s).map (·.2)=msC s:=by
 unfold jb6;rw[List.map_map];exact List.map_id _
theorem jjn {s:Clu} (h:jfu s):jfv (jb6 s):=by
 intro x hx;obtain⟨m,hm,rfl⟩:=List.mem_map.1 hx;have:=qH h m hm;exact⟨this.1,this.2.1⟩
theorem jiq {s:Clu} (hl:jdw s) {n:Nod} (h:jD.node n ∈ msC s):zO n:=by
 unfold msC at h;rcases List.mem_append.1 h with h | h
 · obtain⟨x,hx,e⟩:=List.mem_map.1 h
   cases e
   exact hl.nodes n hx
 · rcases List.mem_append.1 h with h | h
   · obtain⟨x,hx,e⟩:=List.mem_map.1 h;cases e
   · obtain⟨x,hx,e⟩:=List.mem_map.1 h;cases e
theorem ja5 {ls:List (List UInt8)} {n:Nat} (h:∀l ∈ ls,l.length≤3806) (hn:ls.length≤n):(unL ls).length≤n*3807:=Nat.le_trans (jih h) (Nat.mul_le_mul_right _ hn)
theorem jnG {ms:List jD} {n:Nat} {s:Clu} (h:jF ⟨[],[],[]⟩ 0 ms=(0,n,s)) (hc:zB s=0):XJ ms=0:=by
 unfold XJ;rw[h,if_neg (fun g=>g rfl)];exact hc
theorem jc1 {ms:List jD} {c:Int} (h:(jF ⟨[],[],[]⟩ 0 ms).1=c) (hc:c≠0):XJ ms=c:=by
 unfold XJ;rw[if_pos (by rw[h];exact hc),h]
theorem jhQ {s:Clu} (ht:jfw s) {j:Nat} {l:List UInt8} (hj:(Zh s)[j]?=some l) (w:World) (hE:Jf w) :
 ∃s',Calls Tryz.prog 8 #[.string (bytes (unL (Zh s)++l))] w (ZO 6 (Zh s).length s' w):=by
 have hml:(msC s).length=(Zh s).length:=by rw[Y8,List.length_map]
 rw[Y8,List.getElem?_map] at hj;obtain⟨m,hm,rfl⟩:=Option.map_eq_some_iff.1 hj;have hmm:=List.mem_of_getElem? hm;have hf:=qH ht.fine m hmm;have hw:=jdN (jnF ht.ord ht.fine (List.Perm.refl (msC s))) hf.2.2.2.2;have:=jbI (P:=jb6 s) (x9:=(JL m,m)) (jjn ht.fine) ⟨hf.1,hf.2.1⟩ hf.2.2.2.1 w hE (by
  rw[jii,List.length_append];have h1:=ja5 (n:=168) ht.len ht.lines;have h2:=ht.len (JL m) (by rw[Y8];exact List.mem_map_of_mem hmm);show _+(JL m).length≤_;omega) (by
  rw[jef];intro n hn;rcases List.mem_append.1 hn with h | h
  · exact jiq ht.low h
  · have:m=.node n:=(List.mem_singleton.1 h).symm;subst this;exact jiq ht.low hmm) (c:=6) (k:=(Zh s).length) (jc1 (by rw[jef];exact hw.1) (by decide)) (by rw[jef,←hml];exact hw.2) rfl
 rw[jii] at this;exact⟨_,this⟩
end Go.Proofs.YthmddloeggdohaaGreatDoor
namespace Go.Proofs.YthmddloeggdohaaGreatDoor
open Go.RowKit
def jae (k c:Int) (s:Clu) (w:World) (e:Ending) (w':World):Prop:=∃a1 n1 p1 a2 n2 p2 a3 n3 p3,e=.returned (.tuple #[.agg #[.slice a1 n1 p1,.slice a2 n2 p2,.slice a3 n3 p3],.int .i64 k,.int .i64 c])∧n1=s.nodes.length∧n2=s.pods.length∧n3=s.buds.length∧Zl w' (.agg #[.slice a1 n1 p1,.slice a2 n2 p2,.slice a3 n3 p3]) s∧Kept w w'
theorem ZO.ok {k:Nat} {s:Clu} {w w':World} {e:Ending} (h:ZO 0 k s w e w'):jae 0 0 s w e w':=by
 obtain⟨v,rfl,hn,hk⟩:=h;rw[if_pos rfl] at hn;obtain⟨a1,p1,a2,p2,a3,p3,rfl⟩:=qF hn.here;exact⟨a1,_,p1,a2,_,p2,a3,_,p3,rfl,rfl,rfl,rfl,hn.here,hk⟩
theorem ZO.wrong {c:Int} {k:Nat} {s:Clu} {w w':World} {e:Ending} (h:ZO c k s w e w') (hc:c≠0):jae k c ⟨[],[],[]⟩ w e w':=by
 obtain⟨v,rfl,hn,hk⟩:=h;rw[if_neg hc] at hn;rw[if_neg hc];obtain⟨a1,p1,a2,p2,a3,p3,rfl⟩:=qF hn.here;exact⟨a1,_,p1,a2,_,p2,a3,_,p3,rfl,rfl,rfl,rfl,hn.here,hk⟩
def nA:Nod:=jl7 ⟨#[97]⟩ 9
def nB:Nod:=jl7 ⟨#[98]⟩ 5
def nC:Nod:=⟨⟨#[97]⟩,[],[],[],false⟩
def pY:Pd:=⟨⟨#[121]⟩,⟨#[]⟩,1,[(⟨#[99,112,117]⟩,4)],[],[],[],⟨#[]⟩,0,⟨#[98]⟩,false⟩
def pX:Pd:=⟨⟨#[121]⟩,⟨#[]⟩,1,[(⟨#[99,112,117]⟩,1)],[],[],[],⟨#[]⟩,0,⟨#[97]⟩,false⟩
def bZ:Bd:=⟨⟨#[122]⟩,[],1⟩
def jmu:List UInt8:=[35,32,120]
def jee:List UInt8:=[112,111,100,32,121,32,45,32,49,32,99,112,117,61,52,32,45,32,45,32,45,32,45,32,98,32,114,101,97,108]
def jdL:List UInt8:=[112,111,100,32,121,32,45,32,49,32,99,112,117,61,49,32,45,32,45,32,45,32,45,32,97,32,114,101,97,108]
def lB:List UInt8:=[110,111,100,101,32,98,32,99,112,117,61,53,32,45,32,45,32,117,112]
def lA:List UInt8:=[110,111,100,101,32,97,32,99,112,117,61,57,32,45,32,45,32,117,112]
def lC:List UInt8:=[110,111,100,101,32,97,32,45,32,45,32,45,32,117,112]
def lZ:List UInt8:=[98,117,100,103,101,116,32,122,32,45,32,49]
def jmg:List UInt8:=[99,97,116]
theorem jiz:JL (.node nA)=lA:=by decide +kernel
theorem jiv:JL (.node nB)=lB:=by decide +kernel
theorem jnf:JL (.node nC)=lC:=by decide +kernel
theorem jit:JL (.pod pY)=jee:=by decide +kernel
theorem jnM:JL (.pod pX)=jdL:=by decide +kernel
theorem jiB:JL (.bud bZ)=lZ:=by decide +kernel
theorem XO (c:Int) (h0:-9223372036854775808≤c) (h1:c≤9223372036854775807):Vec.zp [((⟨#[99,112,117]⟩:ByteArray),c)]:=fun i hi=>by
 obtain rfl:i=0:=by simpa using hi
 exact⟨(by decide:(3:Nat)≤maxLen),h0,h1⟩
theorem jmz:Jv lA (.node nA):=by rw[←jiz];exact qf (by decide +kernel) (XO 9 (by decide) (by decide)) (by decide +kernel)
theorem jlC:Jv lB (.node nB):=by rw[←jiv];exact qf (by decide +kernel) (XO 5 (by decide) (by decide)) (by decide +kernel)
theorem jgR:Jv lC (.node nC):=by rw[←jnf];exact qf (by decide +kernel) (fun i hi=>absurd hi (by simp[nC])) (by decide +kernel)
theorem jms:Jv jee (.pod pY):=by rw[←jit];exact jbK (by decide +kernel) (XO 4 (by decide) (by decide)) (by decide +kernel)
theorem jlN:Jv jdL (.pod pX):=by rw[←jnM];exact jbK (by decide +kernel) (XO 1 (by decide) (by decide)) (by decide +kernel)
theorem jmA:Jv lZ (.bud bZ):=by rw[←jiB];exact jeJ (by decide +kernel) (by decide +kernel)
def sK:Clu:=⟨[nA,nB],[pY],[bZ]⟩
theorem joI:YY sK:=by
 refine⟨?_,List.pairwise_singleton ..,List.pairwise_singleton ..,by decide,by decide,by decide⟩;exact List.pairwise_cons.2 ⟨fun z hz=>by rw[List.mem_singleton.1 hz];decide +kernel,List.pairwise_singleton ..⟩
theorem jio {x:ByteArray} {c:Int}:zO (jl7 x c):=⟨(by decide:(1:Nat)≤1000000),(by decide:(0:Nat)≤1000000),(by decide:(0:Nat)≤1000000)⟩
theorem jmQ:zO nC:=⟨(by decide:(0:Nat)≤1000000),(by decide:(0:Nat)≤1000000),(by decide:(0:Nat)≤1000000)⟩
def ms1:List jD:=[.skip,.pod pY,.node nB,.skip,.node nA]
theorem jok:jF ⟨[],[],[]⟩ 0 (ms1++[.bud bZ])=(0,6,sK):=qQ (ms:=ms1++[.bud bZ]) joI (by
 intro m hm e;subst e;simp[ms1] at hm) (show (ZM (ms1++[jD.bud bZ])).Perm sK.nodes from List.Perm.swap nA nB []) (show (Yv (ms1++[jD.bud bZ])).Perm sK.pods from List.Perm.refl _) (show (Yu (ms1++[jD.bud bZ])).Perm sK.buds from List.Perm.refl _)
theorem jo5:zB sK=0:=by decide +kernel
theorem joh (w:World) (hE:Jf w):Calls Tryz.prog 8 #[.string (bytes (unL [jmu,jee,lB,[],lA]++lZ))] w (jae 0 0 sK w):=by
 refine(jbI (P:=[(jmu,.skip),(jee,.pod pY),(lB,.node nB),([],.skip),(lA,.node nA)]) (x9:=(lZ,.bud bZ)) ?_ ⟨XQ (by decide),jmA⟩ (by decide) w hE (by decide) ?_ (jnG jok jo5) rfl (by show (jF _ 0 (ms1++[.bud bZ])).2.2=sK;rw[jok])).mono fun e w' h=>h.ok
 · intro x hx;simp only[List.mem_cons,List.not_mem_nil,or_false] at hx;rcases hx with rfl | rfl | rfl | rfl | rfl
   · exact⟨XQ (by decide),.remark _ (by decide)⟩
   · exact⟨XQ (by decide),jms⟩
   · exact⟨XQ (by decide),jlC⟩
   · exact⟨XQ (by decide),.empty⟩
   · exact⟨XQ (by decide),jmz⟩
 · intro n hn;simp at hn;rcases hn with rfl | rfl
   · exact jio
   · exact jio
theorem jo7:jF ⟨[],[],[]⟩ 0 [.node nC]=(0,1,⟨[nC],[],[]⟩):=qQ (ms:=[.node nC]) (s:=⟨[nC],[],[]⟩) ⟨List.pairwise_singleton ..,.nil,.nil,by decide,by decide,by decide⟩ (fun m hm e=>by subst e;simp at hm) (List.Perm.refl _) (List.Perm.refl _) (List.Perm.refl _)
theorem jn3 (w:World) (hE:Jf w):Calls Tryz.prog 8 #[.string (bytes (unL [lC,lC]))] w (jae 1 6 ⟨[],[],[]⟩ w):=by
 have hw:=jdN (m:=.node nC) jo7 (.inl ⟨nC,by simp,rfl⟩);refine(jaf (P:=[(lC,.node nC),(lC,.node nC)]) ?_ w hE (by decide) ?_ (jc1 hw.1 (by decide)) hw.2 rfl).mono fun e w' h=>h.wrong (by decide)
 · intro x hx;simp only[List.mem_cons,List.not_mem_nil,or_false,or_self] at hx;subst hx;exact⟨XQ (by decide),jgR⟩
 · intro n hn;simp at hn;subst hn;exact jmQ
theorem jmx:jF ⟨[],[],[]⟩ 0 [.node nC,.pod pX]=(0,2,⟨[nC],[pX],[]⟩):=qQ (ms:=[.node nC,.pod pX]) (s:=⟨[nC],[pX],[]⟩) ⟨List.pairwise_singleton ..,List.pairwise_singleton ..,.nil,by decide,by decide,by decide⟩ (fun m hm e=>by subst e;simp at hm) (List.Perm.refl _) (List.Perm.refl _) (List.Perm.refl _)
theorem jo3:zB ⟨[nC],[pX],[]⟩=7:=by decide +kernel
theorem joo (w:World) (hE:Jf w):Calls Tryz.prog 8 #[.string (bytes (unL [lC,jdL]))] w (jae 2 7 ⟨[],[],[]⟩ w):=by
 refine(jaf (P:=[(lC,.node nC),(jdL,.pod pX)]) ?_ w hE (by decide) ?_ (c:=7) (k:=2) (s:=⟨[nC],[pX],[]⟩) (by show XJ [.node nC,.pod pX]=_;unfold XJ;rw[jmx,if_neg (fun g=>g rfl)];exact jo3) (by show (jF _ 0 [.node nC,.pod pX]).2.1=_;rw[jmx]) (by show (jF _ 0 [.node nC,.pod pX]).2.2=_;rw[jmx])).mono fun e w' h=>h.wrong (by decide)
 · intro x hx;simp only[List.mem_cons,List.not_mem_nil,or_false] at hx;rcases hx with rfl | rfl
   · exact⟨XQ (by decide),jgR⟩
   · exact⟨XQ (by decide),jlN⟩
 · intro n hn;simp at hn;subst hn;exact jmQ
theorem jnQ (w:World) (hE:Jf w):Calls Tryz.prog 8 #[.string (bytes (unL [jmg]))] w (jae 0 2 ⟨[],[],[]⟩ w):=by
 refine(jaf (P:=[(jmg,.bad)]) ?_ w hE (by decide) ?_ (c:=2) (k:=0) (jc1 rfl (by decide)) rfl rfl).mono fun e w' h=>h.wrong (by decide)
 · intro x hx;simp only[List.mem_cons,List.not_mem_nil,or_false] at hx;subst hx;exact⟨XQ (by decide),.bad _ (by decide) (by decide) (fun r e=>by cases e) (by decide) (by decide) (by decide)⟩
 · intro n hn;simp at hn
theorem joR:jgQ sK:=by
 have h1:∀n ∈ sK.nodes,JK n=true∧Vec.zp n.cap:=by
  intro n hn;simp only[sK,List.mem_cons,List.not_mem_nil,or_false] at hn;rcases hn with rfl | rfl
  · exact⟨by decide +kernel,XO 9 (by decide) (by decide)⟩
  · exact⟨by decide +kernel,XO 5 (by decide) (by decide)⟩
 refine⟨fun n hn=>⟨jfH (h1 n hn).1,jg4 (h1 n hn).1 (h1 n hn).2⟩,fun n hn=>?_,fun n hn=>?_,by decide,by decide,by decide⟩
 · simp only[sK,List.mem_cons,List.not_mem_nil,or_false] at hn;subst hn;exact⟨by decide +kernel,by decide +kernel⟩
 · simp only[sK,List.mem_cons,List.not_mem_nil,or_false] at hn;subst hn;exact⟨by decide +kernel,by decide +kernel⟩
theorem jop:qU sK=unL [lA,lB,jee,lZ]:=by
 rw[jgv,Y8];show unL [JL (.node nA),JL (.node nB),JL (.pod pY),JL (.bud bZ)]=_;rw[jiz,jiv,jit,jiB]
def kT5:ByteArray:=⟨#[110,111,100,101,32,97,32,99,112,117,61,57,32,45,32,45,32,117,112,10,110,111,100,101,32,98,32,99,112,117,61,53,32,45,32,45,32,117,112,10,112,111,100,32,121,32,45,32,49,32,99,112,117,61,52,32,45,32,45,32,45,32,45,32,98,32,114,101,97,108,10,98,117,100,103,101,116,32,122,32,45,32,49,10]⟩
theorem Zl.rowN {w:World} {v2 v3:Value} {a:Option Addr} {n c:Nat} {s:Clu} (h:Zl w (.agg #[.slice a n c,v2,v3]) s):j0 w a n s.nodes:=by
 obtain⟨_,_,_,e,g0⟩:=h
 cases e
 obtain⟨a9,c9,e9,-,-,h9⟩:=g0.nodes
 cases e9
 exact h9
theorem jou:bytes (qU sK)=kT5:=by rw[jop];decide +kernel
theorem k1R (w:World) (hE:Jf w):Calls Tryz.prog 8 #[.string ⟨#[35,32,120,10,112,111,100,32,121,32,45,32,49,32,99,112,117,61,52,32,45,32,45,32,45,32,45,32,98,32,114,101,97,108,10,110,111,100,101,32,98,32,99,112,117,61,53,32,45,32,45,32,117,112,10,10,110,111,100,101,32,97,32,99,112,117,61,57,32,45,32,45,32,117,112,10,98,117,100,103,101,116,32,122,32,45,32,49]⟩] w (jae 0 0 sK w):=by
 have e:(⟨#[35,32,120,10,112,111,100,32,121,32,45,32,49,32,99,112,117,61,52,32,45,32,45,32,45,32,45,32,98,32,114,101,97,108,10,110,111,100,101,32,98,32,99,112,117,61,53,32,45,32,45,32,117,112,10,10,110,111,100,101,32,97,32,99,112,117,61,57,32,45,32,45,32,117,112,10,98,117,100,103,101,116,32,122,32,45,32,49]⟩:ByteArray)=bytes (unL [jmu,jee,lB,[],lA]++lZ):=by decide +kernel
 rw[e];exact joh w hE
theorem k2R (w:World) (hE:Jf w):Calls Tryz.prog 8 #[.string ⟨#[110,111,100,101,32,97,32,45,32,45,32,45,32,117,112,10,110,111,100,101,32,97,32,45,32,45,32,45,32,117,112,10]⟩] w (jae 1 6 ⟨[],[],[]⟩ w):=by
 have e:(⟨#[110,111,100,101,32,97,32,45,32,45,32,45,32,117,112,10,110,111,100,101,32,97,32,45,32,45,32,45,32,117,112,10]⟩:ByteArray)=bytes (unL [lC,lC]):=by decide +kernel
 rw[e];exact jn3 w hE
theorem k3R (w:World) (hE:Jf w):Calls Tryz.prog 8 #[.string ⟨#[110,111,100,101,32,97,32,45,32,45,32,45,32,117,112,10,112,111,100,32,121,32,45,32,49,32,99,112,117,61,49,32,45,32,45,32,45,32,45,32,97,32,114,101,97,108,10]⟩] w (jae 2 7 ⟨[],[],[]⟩ w):=by
 have e:(⟨#[110,111,100,101,32,97,32,45,32,45,32,45,32,117,112,10,112,111,100,32,121,32,45,32,49,32,99,112,117,61,49,32,45,32,45,32,45,32,45,32,97,32,114,101,97,108,10]⟩:ByteArray)=bytes (unL [lC,jdL]):=by decide +kernel
 rw[e];exact joo w hE
theorem k4R (w:World) (hE:Jf w):Calls Tryz.prog 8 #[.string ⟨#[99,97,116,10]⟩] w (jae 0 2 ⟨[],[],[]⟩ w):=by
 have e:(⟨#[99,97,116,10]⟩:ByteArray)=bytes (unL [jmg]):=by decide +kernel
 rw[e];exact jnQ w hE
theorem jhk (w:World) (hE:Jf w):Calls Tryz.prog 4 #[] w (Say (.bool true) w):=by
 have HE:=lH hE;clear hE;have K:=lH (Kept.refl w);go_enter Tryz.func4,Tryz.ntmps4;go_wp2_with fail
 skip;refine(k1R _ HE.out).mono ?_;rintro e w1 ⟨a11,n1,p11,a12,n2,p12,a13,n3,p13,rfl,e1,e2,e3,hc,kk⟩;obtain rfl:n1=2:=e1;obtain rfl:n2=1:=e2;obtain rfl:n3=1:=e3;obtain⟨W1,hW⟩:∃W,w1.alloc (.cells #[.slice a11 2 p11,.slice a12 1 p12,.slice a13 1 p13] 26)=W:=⟨_,rfl⟩
 have kw:Kept w1 W1:=by rw[←hW];exact ja _ _
 have HQ:=lH (show jf w1.heap.size [.slice a11 2 p11,.slice a12 1 p12,.slice a13 1 p13] W1 from jg w1 (.slice a11 2 p11) [.slice a12 1 p12,.slice a13 1 p13] 26 W1 (by rw[hW];exact Kept.refl _));obtain⟨q1,hq1⟩:∃q,w1.heap.size=q:=⟨_,rfl⟩
 rw[hq1] at HQ;have HQ1:=lH hq1;have HC:=lH (hc.kept kw);have HE:=lH (HE.out.kept (kk.trans kw));have K:=lH (K.out.trans (kk.trans kw));try clear HW
 have HW:=lH hW;clear hc kk kw hW hq1;go_wp2_with fail
 try rw[HW.out]
 refine(k2R _ HE.out).mono ?_;rintro e w2 ⟨a21,n1,p21,a22,n2,p22,a23,n3,p23,rfl,e1,e2,e3,hc,kk⟩;obtain rfl:n1=0:=e1;obtain rfl:n2=0:=e2;obtain rfl:n3=0:=e3;obtain⟨W2,hW⟩:∃W,w2.alloc (.cells #[.slice a21 0 p21,.slice a22 0 p22,.slice a23 0 p23] 26)=W:=⟨_,rfl⟩
 have kw:Kept w2 W2:=by rw[←hW];exact ja _ _
 have HQ:=lH (HQ.out.kept (kk.trans kw));have HC:=lH (HC.out.kept (kk.trans kw));have HE:=lH (HE.out.kept (kk.trans kw));have K:=lH (K.out.trans (kk.trans kw));try clear HW
 have HW:=lH hW;clear hc kk kw hW;go_wp2_with fail
 try rw[HW.out]
 refine(k3R _ HE.out).mono ?_;rintro e w3 ⟨a31,n1,p31,a32,n2,p32,a33,n3,p33,rfl,e1,e2,e3,hc,kk⟩;obtain rfl:n1=0:=e1;obtain rfl:n2=0:=e2;obtain rfl:n3=0:=e3;obtain⟨W3,hW⟩:∃W,w3.alloc (.cells #[.slice a31 0 p31,.slice a32 0 p32,.slice a33 0 p33] 26)=W:=⟨_,rfl⟩
 have kw:Kept w3 W3:=by rw[←hW];exact ja _ _
 have HQ:=lH (HQ.out.kept (kk.trans kw));have HC:=lH (HC.out.kept (kk.trans kw));have HE:=lH (HE.out.kept (kk.trans kw));have K:=lH (K.out.trans (kk.trans kw));try clear HW
 have HW:=lH hW;clear hc kk kw hW;go_wp2_with fail
 try rw[HW.out]
 refine(k4R _ HE.out).mono ?_;rintro e w4 ⟨a41,n1,p41,a42,n2,p42,a43,n3,p43,rfl,e1,e2,e3,hc,kk⟩;obtain rfl:n1=0:=e1;obtain rfl:n2=0:=e2;obtain rfl:n3=0:=e3;obtain⟨W4,hW⟩:∃W,w4.alloc (.cells #[.slice a41 0 p41,.slice a42 0 p42,.slice a43 0 p43] 26)=W:=⟨_,rfl⟩
 have kw:Kept w4 W4:=by rw[←hW];exact ja _ _
 have HQ:=lH (HQ.out.kept (kk.trans kw));have HC:=lH (HC.out.kept (kk.trans kw));have HE:=lH (HE.out.kept (kk.trans kw));have K:=lH (K.out.trans (kk.trans kw));try clear HW
 have HW:=lH hW;clear hc kk kw hW;have HNA:=lH HC.out.rowN;obtain⟨b8,off8,rfl⟩:=HNA.out.form.resolve_left (by omega);obtain⟨n9,x1,y1,z1,x2,y2,z2,x3,y3,z3,hn,hd,hb,u0,u1,u2,u3,u4,hat⟩:=HNA.out.at_ (show 0<2 by decide);obtain rfl:nA=n9:=by simpa [sK] using hn
 have HF:=lH (show ∀W,Kept W4 W→W.cell? ⟨q1,0,none⟩=some (.slice (some ⟨b8,off8,none⟩) 2 p11)∧W.cell? ⟨q1,1,none⟩=some (.slice a12 1 p12)∧W.cell? ⟨q1,2,none⟩=some (.slice a13 1 p13)∧W.cell? ⟨b8,off8,none⟩=some (.string ⟨#[97]⟩) from fun W kk=>⟨(HQ.out.kept kk).at_ 0 _ rfl,(HQ.out.kept kk).at_ 1 _ rfl,(HQ.out.kept kk).at_ 2 _ rfl,cell_later kk (by simpa using (show W4.cell? ⟨b8,off8+0*5,none⟩=some (.string ⟨#[97]⟩) from u0))⟩);clear hn hd hb hat u0 u1 u2 u3 u4;go_upto_region 5 with fail
 try rw[HW.out]
 try rw[HQ1.out]
 obtain⟨o0,o1,o2,o3⟩:=HF.out _ (Kept.refl _);go_wp2_with fail
 refine(jdo _ sK _ HE.out.toEnvT HC.out joR).mono ?_;rintro e r1 ⟨rfl,kk⟩;have K:=lH (K.out.trans kk);clear kk o0 o1 o2 o3;rw[jou];have h5:(kT5.toList==kT5.toList)=true:=beq_self_eq_true _;unfold kT5 at h5 ⊢;go_wp2;go_ret;exact⟨rfl,K.out⟩
end Go.Proofs.YthmddloeggdohaaGreatDoor
