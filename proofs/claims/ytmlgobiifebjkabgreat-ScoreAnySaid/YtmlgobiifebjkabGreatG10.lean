/- C. -/
import Derived.Test.YtmlgobiifebjkabGreatG1
import Derived.Test.YtmlgobiifebjkabGreatG2
import Derived.Test.YtmlgobiifebjkabGreatG3
import Derived.Test.YtmlgobiifebjkabGreatG4
import Derived.Test.YtmlgobiifebjkabGreatG6
import Derived.Test.YtmlgobiifebjkabGreatG7
import Derived.Test.YtmlgobiifebjkabGreatG8
import Derived.Test.YtmlgobiifebjkabGreatG9
set_option linter.unusedVariables false
set_option maxRecDepth 100000
set_option maxHeartbeats 25600000
namespace Go.Proofs.YtmlgobiifebjkabGreat
open Go.RowKit
theorem jcE (a:Option Addr) (len cap:Nat) (l:List Pd) (w:World) (hr:jN w a len l) :
 Calls Tryz.prog 76 #[.slice a len cap] w (Say (.int .i64 (zi l)) w):=by
 have hl:=hr.1;have hm:=hr.2.1;unfold maxLen at hm;by_cases h32:128<len
 · have HV:=lH (show zi l=4 by unfold zi;rw[if_pos (by omega)]);clear hr hl;go_enter Tryz.func76,Tryz.ntmps76;go_wp2;go_ret;exact⟨jc HV.out.symm,Kept.refl _⟩
 · have HV:=lH (show zi l=zI none l by unfold zi;rw[if_neg (by omega)]);have h32':len≤128:=by omega
   by_cases h0:len=0
   · subst h0;have HE:=lH (show zi l=0 by rw[HV.out,List.eq_nil_of_length_eq_zero hl];rfl);clear hr hl h32;go_enter Tryz.func76,Tryz.ntmps76;go_wp2;refine wp_loop_rounds 1 ?_;rw[rounds_succ];go_wp2;go_ret;exact⟨jc HE.out.symm,Kept.refl _⟩
   · obtain⟨b,off,rfl⟩:=hr.form.resolve_left h0;have HR:=lH hr;have HL:=lH hl;clear hr hl h0 h32;go_enter Tryz.func76,Tryz.ntmps76;go_wp2;go_loopw [3] (fun i wr=>∃k:Nat,k≤len∧i=.int .i64 k∧zI (Yz l k) (l.drop k)=zI none l∧Kept w wr) (fun i _=>len-(intOf i).toNat)
     case atStart=>exact⟨0,Nat.zero_le _,rfl,rfl,Kept.refl _⟩
     case round =>
      obtain⟨k,hk,rfl,hrest,hK⟩:=hrel;have HS:=lH (HV.out.trans hrest.symm);have HT:=lH hrest;have HK:=lH hK;by_cases hlt:k<len
      · obtain⟨n,a1,m1,c1,a2,m2,c2,a3,m3,c3,a4,m4,c4,hn,hd,hb,p0,p1,p2,p3,p4,p5,p6,p7,p8,p9,p10,hat⟩:=(HR.out.kept hK).at_ hlt;have Vu:=lH hat;have HD:=lH hd;have V3:=lH (jf9 hn);have VT:=lH (fun W (kk:Kept wr W)=>jbe n (.slice a1 m1 c1) (.slice a2 m2 c2) (.slice a3 m3 c3) (.slice a4 m4 c4) W (Vu.out.kept kk));unfold jr at VT;obtain⟨ck,hck⟩:∃x,JB n=x:=⟨_,rfl⟩
        have Up:=lH hck;rw[hck] at VT;have hkk:(k:Int)<(len:Int):=by omega
        clear hrest hK hat hd hck;by_cases z1:ck=0
        · subst z1;by_cases h0:k=0
          · have hd0:decide (0<k)=false:=by subst h0;decide
            have HP:=lH (jga (l:=l) h0 n.name);clear h0;go_wp2_with fail
            refine(VT.out _ (Kept.refl _)).mono ?_;rintro e w1 ⟨rfl,kk⟩;have KW:=lH kk;clear kk;go_wp2;go_quiet (fail)
            go_wp2;go_roundw
            case rel=>exact⟨k+1,by omega,by go_num,(show zI (Yz l (k+1)) (l.drop (k+1))=zI none l by rw[←HT.out,HD.out,qe Up.out HP.out,V3.out]),HK.out.trans (KW.out.trans (Kept.drewN _ _))⟩
            case measure=>simp[intOf];omega
          · have hd0:decide (0<k)=true:=by simp;omega
            have g1:0≤(k:Int)-1:=by omega
            have g2:(k:Int)-1<(len:Int):=by omega
            have g3:((k:Int)-1).toNat=k-1:=by omega
            obtain⟨n9,_,_,_,_,_,_,_,_,_,_,_,_,hn9,-,hb9,o0,-⟩:=(HR.out.kept HK.out).at_ (show k-1<len by omega);have HP:=lH (jge (l:=l) h0 hn9 n.name);clear h0 hn9;by_cases n3:leS n.name n9.name=true
            · have n3':(Op.bytesLess n.name.toList n9.name.toList||n.name.toList==n9.name.toList)=true:=n3;have N3:=lH n3;clear n3;go_wp2_with fail
              refine(VT.out _ (Kept.refl _)).mono ?_;rintro e w1 ⟨rfl,kk⟩;have KW:=lH kk;have o1:=cell_later kk o0;have p99:=cell_later kk p0;clear kk;go_wp2;go_quiet (fail)
              go_wp2;go_ret;exact⟨jc (show (13:Int)=zi l by rw[HS.out,HD.out,jad Up.out (HP.out.trans N3.out)]),HK.out.trans (KW.out.trans (Kept.drewN _ _))⟩
            · have n3:leS n.name n9.name=false:=by simpa using n3
              have n3':(Op.bytesLess n.name.toList n9.name.toList||n.name.toList==n9.name.toList)=false:=n3;have N3:=lH n3;clear n3;go_wp2_with fail
              refine(VT.out _ (Kept.refl _)).mono ?_;rintro e w1 ⟨rfl,kk⟩;have KW:=lH kk;have o1:=cell_later kk o0;have p99:=cell_later kk p0;clear kk;go_wp2;go_quiet (fail)
              go_wp2;go_roundw
              case rel=>exact⟨k+1,by omega,by go_num,(show zI (Yz l (k+1)) (l.drop (k+1))=zI none l by rw[←HT.out,HD.out,qe Up.out (HP.out.trans N3.out),V3.out]),HK.out.trans (KW.out.trans (Kept.drewN _ _))⟩
              case measure=>simp[intOf];omega
        · have z1':(ck != 0)=true:=by simpa using z1
          have HB:=lH (show zi l=ck by rw[HS.out,HD.out,jbk (by rw[Up.out];exact z1),Up.out]);clear z1;go_wp2_with fail
          refine(VT.out _ (Kept.refl _)).mono ?_;rintro e w1 ⟨rfl,kk⟩;have KW:=lH kk;clear kk;go_wp2;go_ret;exact⟨jc HB.out.symm,HK.out.trans KW.out⟩
      · have HE:=lH (show zi l=0 by rw[HS.out,List.drop_of_length_le (by rw[HL.out];omega)];rfl);clear hrest hK;go_wp2;go_ret;exact⟨jc HE.out.symm,HK.out⟩
theorem jfQ {v:Value} {l:List Pd} {c:Int} {w:World} (h:zr w v l) (hc:zi l=c):Calls Tryz.prog 76 #[v] w (Say (.int .i64 c) w):=by
 subst hc;obtain⟨a,cap,rfl,_,_,hr⟩:=h;exact jcE a _ cap l w hr
theorem jgh (n:Bd) (v1:Value) (w:World) (h:zK w v1 n) :
 Calls Tryz.prog 112 #[Xz n v1] w (Say (.int .i64 (J8 n)) w):=by
 obtain⟨x0,l3,m⟩:=n;obtain⟨W0,hW0⟩:∃Z,w.alloc (.cells #[.string x0,v1,.int .i64 m] 150)=Z:=⟨_,rfl⟩
 have hk0:Kept w W0:=by rw[←hW0];exact ja _ _
 have HC:=lH (show ∀W,Kept W0 W→W.cell? ⟨w.heap.size,0,none⟩=some (.string x0)∧W.cell? ⟨w.heap.size,1,none⟩=some (v1)∧W.cell? ⟨w.heap.size,2,none⟩=some (.int .i64 m) from fun W k=>by
  have:=jd w (.string x0) [v1,.int .i64 m] 150 W (by rw[hW0];exact k);exact⟨this.at_ 0 _ rfl,this.at_ 1 _ rfl,this.at_ 2 _ rfl⟩)
 obtain⟨y3,hy3⟩:∃y,XB l3=y:=⟨_,rfl⟩
 obtain⟨r0,hr0⟩:∃r,isName x0=r:=⟨_,rfl⟩
 have E3:=lH (jaE (h.sel.kept hk0) hy3);have N0:=lH (fun W=>Vec.YL (w:=W) h.name hr0);have HV:=lH (show J8 ⟨x0,l3,m⟩=orL [if r0=true then 0 else 3,y3,ZM m] by rw[←hy3,←hr0];rfl);have Vh:=lH hk0;clear h hk0 hy3 hr0;obtain⟨c0,c1,c2⟩:=HC.out _ (Kept.refl _);unfold Xz;dsimp only
 cases r0 with
 | false =>
  have HW:=lH (show J8 ⟨x0,l3,m⟩=3 by rw[HV.out];rfl);go_enter Tryz.func112,Tryz.ntmps112;go_wp2_with fail
  try rw[hW0]
  refine(N0.out _).mono ?_;rintro e w1 ⟨rfl,rfl⟩;go_wp2;go_ret;exact⟨jc HW.out.symm,Vh.out⟩
 | true =>
  by_cases z:y3=0
  · subst z;by_cases z1:m<0
    · have HW:=lH (show J8 ⟨x0,l3,m⟩=1 by rw[HV.out,show ZM m=1 by unfold ZM;rw[if_pos (.inl z1)]];rfl);go_enter Tryz.func112,Tryz.ntmps112;go_wp2_with fail
      try rw[hW0]
      refine(N0.out _).mono ?_;rintro e w1 ⟨rfl,rfl⟩;go_wp2_with fail
      refine E3.out.mono ?_;rintro e w2 ⟨rfl,k⟩;obtain⟨d0,d1,d2⟩:=HC.out _ k;go_wp2;go_ret;exact⟨jc HW.out.symm,Vh.out.trans k⟩
    · by_cases z2:128<m
      · have HW:=lH (show J8 ⟨x0,l3,m⟩=1 by rw[HV.out,show ZM m=1 by unfold ZM;rw[if_pos (.inr z2)]];rfl);have z1':0≤m:=by omega
        clear z1;go_enter Tryz.func112,Tryz.ntmps112;go_wp2_with fail
        try rw[hW0]
        refine(N0.out _).mono ?_;rintro e w1 ⟨rfl,rfl⟩;go_wp2_with fail
        refine E3.out.mono ?_;rintro e w2 ⟨rfl,k⟩;obtain⟨d0,d1,d2⟩:=HC.out _ k;go_wp2;go_ret;exact⟨jc HW.out.symm,Vh.out.trans k⟩
      · have HW:=lH (show J8 ⟨x0,l3,m⟩=0 by rw[HV.out,show ZM m=0 by unfold ZM;rw[if_neg (by omega)]];rfl);have z1':0≤m:=by omega
        have z2':m≤128:=by omega
        clear z1 z2;go_enter Tryz.func112,Tryz.ntmps112;go_wp2_with fail
        try rw[hW0]
        refine(N0.out _).mono ?_;rintro e w1 ⟨rfl,rfl⟩;go_wp2_with fail
        refine E3.out.mono ?_;rintro e w2 ⟨rfl,k⟩;obtain⟨d0,d1,d2⟩:=HC.out _ k;go_wp2;go_ret;exact⟨jc HW.out.symm,Vh.out.trans k⟩
  · have HW:=lH (show J8 ⟨x0,l3,m⟩=y3 by
     rw[HV.out];show (if (0:Int)≠0 then 0 else if y3≠0 then y3 else _)=y3;rw[if_neg (by decide),if_pos z])
    have z':(y3 != 0)=true:=by simpa using z
    clear z;go_enter Tryz.func112,Tryz.ntmps112;go_wp2_with fail
    try rw[hW0]
    refine(N0.out _).mono ?_;rintro e w1 ⟨rfl,rfl⟩;go_wp2_with fail
    refine E3.out.mono ?_;rintro e w2 ⟨rfl,k⟩;go_wp2;go_ret;exact⟨jc HW.out.symm,Vh.out.trans k⟩
theorem jcN (a:Option Addr) (len cap:Nat) (l:List Bd) (w:World) (hr:Jc w a len l) :
 Calls Tryz.prog 77 #[.slice a len cap] w (Say (.int .i64 (zn l)) w):=by
 have hl:=hr.1;have hm:=hr.2.1;unfold maxLen at hm;by_cases h32:8<len
 · have HV:=lH (show zn l=4 by unfold zn;rw[if_pos (by omega)]);clear hr hl;go_enter Tryz.func77,Tryz.ntmps77;go_wp2;go_ret;exact⟨jc HV.out.symm,Kept.refl _⟩
 · have HV:=lH (show zn l=zF none l by unfold zn;rw[if_neg (by omega)]);have h32':len≤8:=by omega
   by_cases h0:len=0
   · subst h0;have HE:=lH (show zn l=0 by rw[HV.out,List.eq_nil_of_length_eq_zero hl];rfl);clear hr hl h32;go_enter Tryz.func77,Tryz.ntmps77;go_wp2;refine wp_loop_rounds 1 ?_;rw[rounds_succ];go_wp2;go_ret;exact⟨jc HE.out.symm,Kept.refl _⟩
   · obtain⟨b,off,rfl⟩:=hr.form.resolve_left h0;have HR:=lH hr;have HL:=lH hl;clear hr hl h0 h32;go_enter Tryz.func77,Tryz.ntmps77;go_wp2;go_loopw [3] (fun i wr=>∃k:Nat,k≤len∧i=.int .i64 k∧zF (Yt l k) (l.drop k)=zF none l∧Kept w wr) (fun i _=>len-(intOf i).toNat)
     case atStart=>exact⟨0,Nat.zero_le _,rfl,rfl,Kept.refl _⟩
     case round =>
      obtain⟨k,hk,rfl,hrest,hK⟩:=hrel;have HS:=lH (HV.out.trans hrest.symm);have HT:=lH hrest;have HK:=lH hK;by_cases hlt:k<len
      · obtain⟨n,a1,m1,c1,hn,hd,hb,p0,p1,p2,hat⟩:=(HR.out.kept hK).at_ hlt;have Vu:=lH hat;have HD:=lH hd;have V3:=lH (jfP hn);have VT:=lH (fun W (kk:Kept wr W)=>jgh n (.slice a1 m1 c1) W (Vu.out.kept kk));unfold Xz at VT;obtain⟨ck,hck⟩:∃x,J8 n=x:=⟨_,rfl⟩
        have Up:=lH hck;rw[hck] at VT;have hkk:(k:Int)<(len:Int):=by omega
        clear hrest hK hat hd hck;by_cases z1:ck=0
        · subst z1;by_cases h0:k=0
          · have hd0:decide (0<k)=false:=by subst h0;decide
            have HP:=lH (jgd (l:=l) h0 n.name);clear h0;go_wp2_with fail
            refine(VT.out _ (Kept.refl _)).mono ?_;rintro e w1 ⟨rfl,kk⟩;have KW:=lH kk;clear kk;go_wp2;go_quiet (fail)
            go_wp2;go_roundw
            case rel=>exact⟨k+1,by omega,by go_num,(show zF (Yt l (k+1)) (l.drop (k+1))=zF none l by rw[←HT.out,HD.out,jb0 Up.out HP.out,V3.out]),HK.out.trans (KW.out.trans (Kept.drewN _ _))⟩
            case measure=>simp[intOf];omega
          · have hd0:decide (0<k)=true:=by simp;omega
            have g1:0≤(k:Int)-1:=by omega
            have g2:(k:Int)-1<(len:Int):=by omega
            have g3:((k:Int)-1).toNat=k-1:=by omega
            obtain⟨n9,_,_,_,hn9,-,hb9,o0,-⟩:=(HR.out.kept HK.out).at_ (show k-1<len by omega);have HP:=lH (jfE (l:=l) h0 hn9 n.name);clear h0 hn9;by_cases n3:leS n.name n9.name=true
            · have n3':(Op.bytesLess n.name.toList n9.name.toList||n.name.toList==n9.name.toList)=true:=n3;have N3:=lH n3;clear n3;go_wp2_with fail
              refine(VT.out _ (Kept.refl _)).mono ?_;rintro e w1 ⟨rfl,kk⟩;have KW:=lH kk;have o1:=cell_later kk o0;have p99:=cell_later kk p0;clear kk;go_wp2;go_quiet (fail)
              go_wp2;go_ret;exact⟨jc (show (13:Int)=zn l by rw[HS.out,HD.out,jfM Up.out (HP.out.trans N3.out)]),HK.out.trans (KW.out.trans (Kept.drewN _ _))⟩
            · have n3:leS n.name n9.name=false:=by simpa using n3
              have n3':(Op.bytesLess n.name.toList n9.name.toList||n.name.toList==n9.name.toList)=false:=n3;have N3:=lH n3;clear n3;go_wp2_with fail
              refine(VT.out _ (Kept.refl _)).mono ?_;rintro e w1 ⟨rfl,kk⟩;have KW:=lH kk;have o1:=cell_later kk o0;have p99:=cell_later kk p0;clear kk;go_wp2;go_quiet (fail)
              go_wp2;go_roundw
              case rel=>exact⟨k+1,by omega,by go_num,(show zF (Yt l (k+1)) (l.drop (k+1))=zF none l by rw[←HT.out,HD.out,jb0 Up.out (HP.out.trans N3.out),V3.out]),HK.out.trans (KW.out.trans (Kept.drewN _ _))⟩
              case measure=>simp[intOf];omega
        · have z1':(ck != 0)=true:=by simpa using z1
          have HB:=lH (show zn l=ck by rw[HS.out,HD.out,jjJ (by rw[Up.out];exact z1),Up.out]);clear z1;go_wp2_with fail
          refine(VT.out _ (Kept.refl _)).mono ?_;rintro e w1 ⟨rfl,kk⟩;have KW:=lH kk;clear kk;go_wp2;go_ret;exact⟨jc HB.out.symm,HK.out.trans KW.out⟩
      · have HE:=lH (show zn l=0 by rw[HS.out,List.drop_of_length_le (by rw[HL.out];omega)];rfl);clear hrest hK;go_wp2;go_ret;exact⟨jc HE.out.symm,HK.out⟩
theorem jgf {v:Value} {l:List Bd} {c:Int} {w:World} (h:JG w v l) (hc:zn l=c):Calls Tryz.prog 77 #[v] w (Say (.int .i64 c) w):=by
 subst hc;obtain⟨a,cap,rfl,_,_,hr⟩:=h;exact jcN a _ cap l w hr
theorem jeo {v v':Value} {l l':Vec.V} {c:Bool} {w:World} (h:Vec.Reads w v l) (h':Vec.Reads w v' l') (e:Vec.jG l' l=c) :
 Calls Tryz.prog 62 #[v,v'] w (Say (.bool c) w):=by
 subst e;obtain⟨a,cap,rfl,_,_,h3⟩:=h;obtain⟨a',cap',rfl,_,_,h3'⟩:=h';exact Vec.jiV a a' _ cap _ cap' l l' w h3 h3'
theorem jj8 {s:Clu} {n:Nod} (h:n ∈ s.nodes):zy s n.name=jI n.name s.pods []:=by
 cases hf:jj s.nodes n.name with
 | some n'=>exact jdd hf
 | none =>
  unfold jj at hf;have:=List.find?_eq_none.1 hf n h;exact absurd (ZJ n.name) (by simpa using this)
theorem jii {v:Value} {s:Clu} {c:Int} {w:World} (h:jA w v s) (hcc:ZC s=c):Calls Tryz.prog 27 #[v] w (Say (.int .i64 c) w):=by
 subst hcc;have h0:=h;obtain⟨v1,v2,v3,rfl,⟨a,cap,rfl,l1,m1,h1⟩,⟨b,cp,rfl,l2,m2,h2⟩,⟨d,cb,rfl,l3,m3,h3⟩⟩:=h;obtain⟨nl,pl,bl⟩:=s;dsimp only at *;obtain⟨len,hlen⟩:∃q,nl.length=q:=⟨_,rfl⟩
 obtain⟨m,hm⟩:∃q,pl.length=q:=⟨_,rfl⟩
 obtain⟨n,hn⟩:∃q,bl.length=q:=⟨_,rfl⟩
 rw[hlen] at h1 l1;rw[hm] at h2 l2;rw[hn] at h3 l3;try rw[hlen]
 try rw[hm]
 try rw[hn]
 clear hn;rw[hlen,hm] at h0;have hn3:bl.length=n:=h3.1;rw[hn3] at h0;obtain⟨Z,hZ⟩:∃Z,w.alloc (.cells #[.slice a len cap,.slice b m cp,.slice d n cb] 51)=Z:=⟨_,rfl⟩
 have hkz:Kept w Z:=by rw[←hZ];exact ja _ _
 have HQ:=lH (show jf w.heap.size [.slice a len cap,.slice b m cp,.slice d n cb] Z from jd w (.slice a len cap) [.slice b m cp,.slice d n cb] 51 Z (by rw[hZ];exact Kept.refl _));have HN:=lH (h1.kept hkz);have HP:=lH (h2.kept hkz);have Rr:=lH (h0.kept hkz);have Uv:=lH (qV l1 m1 (h1.kept hkz));have Vz:=lH (jgu l2 m2 (h2.kept hkz));have MS:=lH (jcF l3 m3 (h3.kept hkz));have Ve:=lH hkz;have Uz:=lH hlen;have UJ:=lH hm;have hml1:=Nat.le_trans l1 m1;have hml2:=Nat.le_trans l2 m2;unfold maxLen at hml1 hml2;clear h1 h2 h3 h0 l1 l2 l3 m1 m2 m3 hkz hn3;obtain⟨x1,hx1⟩:∃q,jS nl=q:=⟨_,rfl⟩
 have Hx1:=lH hx1;obtain⟨x2,hx2⟩:∃q,zi pl=q:=⟨_,rfl⟩
 have Hx2:=lH hx2;obtain⟨x3,hx3⟩:∃q,zn bl=q:=⟨_,rfl⟩
 have Hx3:=lH hx3;have cq0:=(HQ.out.kept (Kept.refl _)).at_ 0 _ rfl;have cq1:=(HQ.out.kept (Kept.refl _)).at_ 1 _ rfl;have cq2:=(HQ.out.kept (Kept.refl _)).at_ 2 _ rfl;go_enter Tryz.func27,Tryz.ntmps27;go_wp2_with fail
 try rw[hZ]
 clear hZ;refine(jhn Uv.out hx1).mono ?_;rintro e w1 ⟨rfl,kk⟩;have K:=lH kk;clear kk hx1 cq0 cq1 cq2;have cq0:=(HQ.out.kept K.out).at_ 0 _ rfl;have cq1:=(HQ.out.kept K.out).at_ 1 _ rfl;have cq2:=(HQ.out.kept K.out).at_ 2 _ rfl;by_cases hc:¬x1=0
 · have HX:=lH (qW (nl:=nl) (pl:=pl) (bl:=bl) (c:=x1) (by unfold or3;rw[Hx1.out,if_pos hc]) hc);have hcn:(x1 != 0)=true:=by simpa using hc
   clear hc;go_wp2;go_ret;exact⟨jc HX.out.symm,Ve.out.trans K.out⟩
 obtain rfl:x1=0:=Decidable.of_not_not hc;clear hc;go_wp2_with fail
 refine(jfQ (Vz.out.kept K.out) hx2).mono ?_;rintro e w2 ⟨rfl,kk⟩;have K:=lH (K.out.trans kk);clear kk hx2 cq0 cq1 cq2;have cq0:=(HQ.out.kept K.out).at_ 0 _ rfl;have cq1:=(HQ.out.kept K.out).at_ 1 _ rfl;have cq2:=(HQ.out.kept K.out).at_ 2 _ rfl;by_cases hc:¬x2=0
 · have HX:=lH (qW (nl:=nl) (pl:=pl) (bl:=bl) (c:=x2) (by unfold or3;rw[Hx1.out,Hx2.out,if_neg (by decide),if_pos hc]) hc);have hcn:(x2 != 0)=true:=by simpa using hc
   clear hc;go_wp2;go_ret;exact⟨jc HX.out.symm,Ve.out.trans K.out⟩
 obtain rfl:x2=0:=Decidable.of_not_not hc;clear hc;go_wp2_with fail
 refine(jgf (MS.out.kept K.out) hx3).mono ?_;rintro e w3 ⟨rfl,kk⟩;have K:=lH (K.out.trans kk);clear kk hx3 cq0 cq1 cq2;have cq0:=(HQ.out.kept K.out).at_ 0 _ rfl;have cq1:=(HQ.out.kept K.out).at_ 1 _ rfl;have cq2:=(HQ.out.kept K.out).at_ 2 _ rfl;by_cases hc:¬x3=0
 · have HX:=lH (qW (nl:=nl) (pl:=pl) (bl:=bl) (c:=x3) (by unfold or3;rw[Hx1.out,Hx2.out,Hx3.out,if_neg (by decide),if_neg (by decide)]) hc);have hcn:(x3 != 0)=true:=by simpa using hc
   clear hc;go_wp2;go_ret;exact⟨jc HX.out.symm,Ve.out.trans K.out⟩
 obtain rfl:x3=0:=Decidable.of_not_not hc;clear hc;have TW:=lH (show or3 (jS nl) (zi pl) (zn bl)=0 by unfold or3;rw[Hx1.out,Hx2.out,Hx3.out];rfl);clear Hx1 Hx2 Hx3;go_wp2;clear cq0 cq1 cq2;go_loopw [4] (fun i wr=>∃k:Nat,k≤m∧i=.int .i64 k∧jQ nl (pl.drop k)=jQ nl pl∧Kept Z wr) (fun i _=>m-(intOf i).toNat)
 case atStart=>exact⟨0,Nat.zero_le _,rfl,rfl,K.out⟩
 case round =>
  obtain⟨k,hk,rfl,hrest,hK⟩:=hrel;have HS:=lH hrest;have HK:=lH hK;have cq0:=(HQ.out.kept hK).at_ 0 _ rfl;have cq1:=(HQ.out.kept hK).at_ 1 _ rfl;have cq2:=(HQ.out.kept hK).at_ 2 _ rfl;by_cases hlt:k<m
  · obtain⟨b9,off,rfl⟩:=HP.out.form.resolve_left (by omega);obtain⟨pd,x1,y1,z1,x2,y2,z2,x3,y3,z3,x4,y4,z4,hn,hd,hb,p0,p1,p2,p3,p4,p5,p6,p7,p8,p9,p10,hat⟩:=(HP.out.kept hK).at_ hlt;have HD:=lH hd;have hkk:(k:Int)<(m:Int):=by omega
    have hk0:¬(k:Int)<0:=by omega
    obtain⟨t,ht⟩:∃t,(pd.node.toList==([]:List UInt8))=t:=⟨_,rfl⟩
    have UQ:=lH (show zZ pd.node=t by rw[JA];exact ht);clear hrest hat hn hd
    cases t with
     | true =>
      have HX:=lH (show jQ nl (pl.drop (k+1))=jQ nl pl by rw[←HS.out,HD.out,jgi UQ.out]);clear hK;go_wp2;go_roundw
      case rel=>exact⟨k+1,by omega,by go_num,HX.out,HK.out⟩
      case measure=>simp[intOf];omega
     | false =>
      have HF:=lH (show ∀W,Kept wr W→W.cell? ⟨w.heap.size,0,none⟩=some (.slice a len cap)∧W.cell? ⟨w.heap.size,1,none⟩=some (.slice (some ⟨b9,off,none⟩) m cp)∧W.cell? ⟨b9,off+k*11,none⟩=some (.string pd.name)∧W.cell? ⟨b9,off+k*11+1,none⟩=some (.string pd.owner)∧W.cell? ⟨b9,off+k*11+2,none⟩=some (.int .i64 pd.prio)∧W.cell? ⟨b9,off+k*11+3,none⟩=some (.slice x1 y1 z1)∧W.cell? ⟨b9,off+k*11+4,none⟩=some (.slice x2 y2 z2)∧W.cell? ⟨b9,off+k*11+5,none⟩=some (.slice x3 y3 z3)∧W.cell? ⟨b9,off+k*11+6,none⟩=some (.slice x4 y4 z4)∧W.cell? ⟨b9,off+k*11+7,none⟩=some (.string pd.key)∧W.cell? ⟨b9,off+k*11+8,none⟩=some (.int .i64 pd.most)∧W.cell? ⟨b9,off+k*11+9,none⟩=some (.string pd.node)∧W.cell? ⟨b9,off+k*11+10,none⟩=some (.bool pd.hold) from fun W kk=>⟨cell_later kk cq0,cell_later kk cq1,cell_later kk p0,cell_later kk p1,cell_later kk p2,cell_later kk p3,cell_later kk p4,cell_later kk p5,cell_later kk p6,cell_later kk p7,cell_later kk p8,cell_later kk p9,cell_later kk p10⟩);obtain⟨o,ho⟩:∃o,jj nl pd.node=o:=⟨_,rfl⟩
      have UA:=lH ho;have Um:=lH (fun W (kk:Kept wr W)=>jew (x:=pd.node) (Uv.out.kept (HK.out.trans kk)));rw[ho] at Um;clear hK ho;go_upto_region 14 with fail
      go_cut [5,6] from 42 to 54 (fun s5 s6 wx=>s6=.bool o.isSome∧Kept wr wx)
      case first =>
       refine wp_region_held_drew (S:=fun W=>W.cell? ⟨w.heap.size,0,none⟩=some (.slice a len cap)∧W.cell? ⟨w.heap.size,1,none⟩=some (.slice (some ⟨b9,off,none⟩) m cp)∧W.cell? ⟨b9,off+k*11,none⟩=some (.string pd.name)∧W.cell? ⟨b9,off+k*11+1,none⟩=some (.string pd.owner)∧W.cell? ⟨b9,off+k*11+2,none⟩=some (.int .i64 pd.prio)∧W.cell? ⟨b9,off+k*11+3,none⟩=some (.slice x1 y1 z1)∧W.cell? ⟨b9,off+k*11+4,none⟩=some (.slice x2 y2 z2)∧W.cell? ⟨b9,off+k*11+5,none⟩=some (.slice x3 y3 z3)∧W.cell? ⟨b9,off+k*11+6,none⟩=some (.slice x4 y4 z4)∧W.cell? ⟨b9,off+k*11+7,none⟩=some (.string pd.key)∧W.cell? ⟨b9,off+k*11+8,none⟩=some (.int .i64 pd.most)∧W.cell? ⟨b9,off+k*11+9,none⟩=some (.string pd.node)∧W.cell? ⟨b9,off+k*11+10,none⟩=some (.bool pd.hold)) (by kernel_rfl) (HF.out _ (Kept.drew _)) (fun hHeld=>?_);refine tkI 0 ?_;refine tkI 1 ?_;refine tkI 2 ?_;refine tkI 3 ?_;refine tkI 4 ?_;refine tkI 5 ?_;refine tkI 6 ?_;refine tkI 7 ?_;try simp only[nP]
       have J0:=lH (Kept.drew wr);refine rdH (rs:=[8,12]) (h:=coH (fun K9 Ky=>?_) (coH (fun K9 Ky=>?_) AllReadyH.nil))
       · go_simp;refine(Um.out _ J0.out).mono ?_;rintro e w5 ⟨v9,rfl,hr,kk⟩;have J0:=lH (J0.out.trans kk);obtain⟨nn,hnn⟩:∃q,o.getD Nod.zero=q:=⟨_,rfl⟩
         rw[hnn] at hr;obtain⟨y1,y2,y3,rfl,hat⟩:=hr;have g1:=hat.cap;have g2:=hat.labels;have g3:=hat.taints;obtain⟨b1,d1,rfl,-,-,-⟩:=g1;obtain⟨b2,d2,rfl,-,-,-⟩:=g2;obtain⟨b3,d3,rfl,-,-,-⟩:=g3;unfold zw;obtain⟨n1,hn1⟩:∃q,nn.cap.length=q:=⟨_,rfl⟩
         obtain⟨n2,hn2⟩:∃q,nn.labels.length=q:=⟨_,rfl⟩
         obtain⟨n3,hn3⟩:∃q,nn.taints.length=q:=⟨_,rfl⟩
         rw[hn1,hn2,hn3];clear hat kk hn1 hn2 hn3 hnn;refine Ky.out _ _ (HF.out _ J0.out) (fun _=>?_);clear Ky K9;try simp only[nP]
         refine tkI 9 ?_;refine tkI 10 ?_;refine tkI 11 ?_;try simp only[nP]
         refine rd1 12 fun K9 Ky=>?_;go_simp;have Vc:=lH (jd w5 (.string ⟨#[]⟩) [.slice none 0 0,.slice none 0 0,.slice none 0 0,.bool false] 99 _ (Kept.refl _));have Va:=lH J0.out.size;have J0:=lH (J0.out.trans (ja w5 (.cells #[.string ⟨#[]⟩,.slice none 0 0,.slice none 0 0,.slice none 0 0,.bool false] 99)));refine Ky.out _ _ (HF.out _ J0.out) (fun _=>?_);clear Ky K9;try simp only[nP]
         obtain⟨wa,hwa⟩:∃W,w5.alloc (.cells #[.string ⟨#[]⟩,.slice none 0 0,.slice none 0 0,.slice none 0 0,.bool false] 99)=W:=⟨_,rfl⟩
         rw[hwa] at J0 Vc ⊢;obtain⟨qa,hqa⟩:∃q,w5.heap.size=q:=⟨_,rfl⟩
         rw[hqa] at Va;rw[hqa] at Vc ⊢;clear hwa hqa;have z0:=Vc.out.at_ 0 _ rfl;have z1:=Vc.out.at_ 1 _ rfl;have z2:=Vc.out.at_ 2 _ rfl;have z3:=Vc.out.at_ 3 _ rfl;have z4:=Vc.out.at_ 4 _ rfl;have f0:=Vc.out.free 0;have f1:=Vc.out.free 1;have f2:=Vc.out.free 2;have f3:=Vc.out.free 3;have f4:=Vc.out.free 4;refine rd1 13 fun K9 Ky=>?_;go_simp;obtain⟨WE,hWE⟩:∃W,wa.setCells qa 0 [.string nn.name,.slice b1 n1 d1,.slice b2 n2 d2,.slice b3 n3 d3,.bool nn.cordon]=W:=⟨_,rfl⟩
         have hWE2:(((((wa.setCell ⟨qa,0,none⟩ (.string nn.name)).setCell ⟨qa,1,none⟩ (.slice b1 n1 d1)).setCell ⟨qa,2,none⟩ (.slice b2 n2 d2)).setCell ⟨qa,3,none⟩ (.slice b3 n3 d3)).setCell ⟨qa,4,none⟩ (.bool nn.cordon))=WE:=hWE;try rw[hWE2]
         have JE:=lH (show Kept wr WE by rw[←hWE];exact jo qa _ _ _ _ _ Va.out J0.out);clear hWE hWE2 z0 f0 z1 f1 z2 f2 z3 f3 z4 f4;refine Ky.out _ _ (HF.out _ JE.out) (fun _=>?_);clear Ky K9;try simp only[nP]
         refine tkI 14 ?_;try simp only[nP]
         refine wpAnyH_done (by kernel_rfl) ?_ _;go_wp2;go_meet
         case rel=>exact⟨rfl,JE.out⟩
       · go_simp;have Vc:=lH (jd wr (.string ⟨#[]⟩) [.slice none 0 0,.slice none 0 0,.slice none 0 0,.bool false] 99 _ (Kept.drew (wr.alloc (.cells #[.string ⟨#[]⟩,.slice none 0 0,.slice none 0 0,.slice none 0 0,.bool false] 99))));have J0:=lH ((ja wr (.cells #[.string ⟨#[]⟩,.slice none 0 0,.slice none 0 0,.slice none 0 0,.bool false] 99)).trans (Kept.drew _));skip;refine Ky.out _ _ (HF.out _ J0.out) (fun _=>?_);clear Ky K9;try simp only[nP]
         obtain⟨wa,hwa⟩:∃W,(wr.alloc (.cells #[.string ⟨#[]⟩,.slice none 0 0,.slice none 0 0,.slice none 0 0,.bool false] 99)).drew=W:=⟨_,rfl⟩
         rw[hwa] at J0 Vc ⊢;obtain⟨qa,hqa⟩:∃q,wr.heap.size=q:=⟨_,rfl⟩
         have Va:=lH (Nat.le_of_eq hqa);rw[hqa] at Vc ⊢;clear hwa hqa;refine rd1 8 fun K9 Ky=>?_;go_simp;refine(Um.out _ J0.out).mono ?_;rintro e w5 ⟨v9,rfl,hr,kk⟩;have J0:=lH (J0.out.trans kk);obtain⟨nn,hnn⟩:∃q,o.getD Nod.zero=q:=⟨_,rfl⟩
         rw[hnn] at hr;obtain⟨y1,y2,y3,rfl,hat⟩:=hr;have g1:=hat.cap;have g2:=hat.labels;have g3:=hat.taints;obtain⟨b1,d1,rfl,-,-,-⟩:=g1;obtain⟨b2,d2,rfl,-,-,-⟩:=g2;obtain⟨b3,d3,rfl,-,-,-⟩:=g3;unfold zw;obtain⟨n1,hn1⟩:∃q,nn.cap.length=q:=⟨_,rfl⟩
         obtain⟨n2,hn2⟩:∃q,nn.labels.length=q:=⟨_,rfl⟩
         obtain⟨n3,hn3⟩:∃q,nn.taints.length=q:=⟨_,rfl⟩
         rw[hn1,hn2,hn3];have Vc:=lH (Vc.out.kept kk);clear hat kk hn1 hn2 hn3 hnn;refine Ky.out _ _ (HF.out _ J0.out) (fun _=>?_);clear Ky K9;try simp only[nP]
         refine tkI 9 ?_;refine tkI 10 ?_;refine tkI 11 ?_;try simp only[nP]
         have z0:=Vc.out.at_ 0 _ rfl;have z1:=Vc.out.at_ 1 _ rfl;have z2:=Vc.out.at_ 2 _ rfl;have z3:=Vc.out.at_ 3 _ rfl;have z4:=Vc.out.at_ 4 _ rfl;have f0:=Vc.out.free 0;have f1:=Vc.out.free 1;have f2:=Vc.out.free 2;have f3:=Vc.out.free 3;have f4:=Vc.out.free 4;refine rd1 13 fun K9 Ky=>?_;go_simp;obtain⟨WE,hWE⟩:∃W,w5.setCells qa 0 [.string nn.name,.slice b1 n1 d1,.slice b2 n2 d2,.slice b3 n3 d3,.bool nn.cordon]=W:=⟨_,rfl⟩
         have hWE2:(((((w5.setCell ⟨qa,0,none⟩ (.string nn.name)).setCell ⟨qa,1,none⟩ (.slice b1 n1 d1)).setCell ⟨qa,2,none⟩ (.slice b2 n2 d2)).setCell ⟨qa,3,none⟩ (.slice b3 n3 d3)).setCell ⟨qa,4,none⟩ (.bool nn.cordon))=WE:=hWE;try rw[hWE2]
         have JE:=lH (show Kept wr WE by rw[←hWE];exact jo qa _ _ _ _ _ Va.out J0.out);clear hWE hWE2 z0 f0 z1 f1 z2 f2 z3 f3 z4 f4;refine Ky.out _ _ (HF.out _ JE.out) (fun _=>?_);clear Ky K9;try simp only[nP]
         refine tkI 14 ?_;try simp only[nP]
         refine wpAnyH_done (by kernel_rfl) ?_ _;go_wp2;go_meet
         case rel=>exact⟨rfl,JE.out⟩
      case rest =>
       obtain⟨rfl,hkx⟩:=hcut;have KX:=lH (HK.out.trans hkx);clear hkx cq0 cq1 cq2 p0 p1 p2 p3 p4 p5 p6 p7 p8 p9 p10
       cases o with
       | none =>
        have HX:=lH (jdh TW.out (show jQ nl pl=3 by rw[←HS.out,HD.out,jg1 UQ.out (by rw[UA.out];rfl)]) (by decide));go_wp2;go_ret;exact⟨jc HX.out.symm,Ve.out.trans KX.out⟩
       | some nod =>
        have HX:=lH (show jQ nl (pl.drop (k+1))=jQ nl pl by rw[←HS.out,HD.out,jgl (by rw[UA.out];rfl)]);go_wp2;go_roundw
        case rel=>exact⟨k+1,by omega,by go_num,HX.out,KX.out⟩
        case measure=>simp[intOf];omega
  · have UF:=lH (show jQ nl pl=0 by rw[←hrest,List.drop_of_length_le (by rw[UJ.out];omega)];rfl);have hkk:¬(k:Int)<(m:Int):=by omega
    clear hrest hK;go_wp2;clear cq0 cq1 cq2;go_loopw [7] (fun i wr=>∃k:Nat,k≤len∧i=.int .i64 k∧zo pl (nl.drop k)=zo pl nl∧Kept Z wr) (fun i _=>len-(intOf i).toNat)
    case atStart=>exact⟨0,Nat.zero_le _,rfl,rfl,HK.out⟩
    case round =>
     obtain⟨k,hk,rfl,hrest,hK⟩:=hrel;have HS:=lH hrest;have HK:=lH hK;have cq0:=(HQ.out.kept hK).at_ 0 _ rfl;have cq1:=(HQ.out.kept hK).at_ 1 _ rfl;have cq2:=(HQ.out.kept hK).at_ 2 _ rfl;by_cases hlt:k<len
     · obtain⟨b9,off,rfl⟩:=HN.out.form.resolve_left (by omega);obtain⟨n9,x1,y1,z1,x2,y2,z2,x3,y3,z3,hn,hd,hb,p0,p1,p2,p3,p4,hat⟩:=(HN.out.kept hK).at_ hlt;have HD:=lH hd;have hkk:(k:Int)<(len:Int):=by omega
       have hk0:¬(k:Int)<0:=by omega
       obtain⟨c,uu,hcu⟩:∃c uu,jI n9.name pl []=(c,uu):=⟨_,_,rfl⟩
       have Rs:=lH hcu;have hus:zy ⟨nl,pl,bl⟩ n9.name=(c,uu):=(jj8 (s:=⟨nl,pl,bl⟩) (List.mem_of_getElem? hn)).trans hcu;have Mn:=lH (fun W (kk:Kept wr W)=>jbK (Rr.out.kept (HK.out.trans kk)) n9.name);rw[hus] at Mn;have Ue:=lH hat.cap;have HF:=lH (show ∀W,Kept wr W→W.cell? ⟨w.heap.size,0,none⟩=some (.slice (some ⟨b9,off,none⟩) len cap)∧W.cell? ⟨w.heap.size,1,none⟩=some (.slice b m cp)∧W.cell? ⟨w.heap.size,2,none⟩=some (.slice d n cb)∧W.cell? ⟨b9,off+k*5,none⟩=some (.string n9.name)∧W.cell? ⟨b9,off+k*5+1,none⟩=some (.slice x1 y1 z1)∧W.cell? ⟨b9,off+k*5+2,none⟩=some (.slice x2 y2 z2)∧W.cell? ⟨b9,off+k*5+3,none⟩=some (.slice x3 y3 z3)∧W.cell? ⟨b9,off+k*5+4,none⟩=some (.bool n9.cordon) from fun W kk=>⟨cell_later kk cq0,cell_later kk cq1,cell_later kk cq2,cell_later kk p0,cell_later kk p1,cell_later kk p2,cell_later kk p3,cell_later kk p4⟩);clear hrest hK hat hn hd hcu hus;go_upto_region 20 with fail
       refine wp_region_held_drew (S:=fun W=>W.cell? ⟨w.heap.size,0,none⟩=some (.slice (some ⟨b9,off,none⟩) len cap)∧W.cell? ⟨w.heap.size,1,none⟩=some (.slice b m cp)∧W.cell? ⟨w.heap.size,2,none⟩=some (.slice d n cb)∧W.cell? ⟨b9,off+k*5,none⟩=some (.string n9.name)∧W.cell? ⟨b9,off+k*5+1,none⟩=some (.slice x1 y1 z1)∧W.cell? ⟨b9,off+k*5+2,none⟩=some (.slice x2 y2 z2)∧W.cell? ⟨b9,off+k*5+3,none⟩=some (.slice x3 y3 z3)∧W.cell? ⟨b9,off+k*5+4,none⟩=some (.bool n9.cordon)) (by kernel_rfl) (HF.out _ (Kept.drew _)) (fun hHeld=>?_);refine tkI 0 ?_;refine tkI 1 ?_;refine tkI 2 ?_;refine tkI 3 ?_;refine tkI 4 ?_;refine tkI 5 ?_;refine tkI 6 ?_;try simp only[nP]
       refine rd1 7 fun K9 Ky=>?_;go_simp;refine(Mn.out _ (Kept.drew _)).mono ?_;rintro e w6 ⟨y9,rfl,hy,kk⟩;have J:=lH ((Kept.drew wr).trans kk);have HY:=lH hy;clear hy kk;refine Ky.out _ _ (HF.out _ J.out) (fun _=>?_);clear Ky K9;try simp only[nP]
       refine tkI 8 ?_;refine tkI 9 ?_;refine tkI 10 ?_;refine tkI 11 ?_;refine tkI 12 ?_;try simp only[nP]
       refine wpAnyH_done (by kernel_rfl) ?_ _;clear cq0 cq1 cq2 p0 p1 p2 p3 p4;obtain⟨cq0,cq1,cq2,p0,p1,p2,p3,p4⟩:=HF.out _ J.out;by_cases hc:¬c=0
       · have HX:=lH (jbI (bl:=bl) TW.out UF.out (show zo pl nl=c by rw[←HS.out,HD.out,jjM Rs.out hc]) hc);have hcn:(c != 0)=true:=by simpa using hc
         clear hc;go_wp2;go_ret;exact⟨jc HX.out.symm,Ve.out.trans (HK.out.trans J.out)⟩
       obtain rfl:c=0:=Decidable.of_not_not hc;clear hc;obtain⟨t,ht⟩:∃t,Vec.jG n9.cap uu=t:=⟨_,rfl⟩
       have HT:=lH ht;have TG:=lH (jeo HY.out (Ue.out.kept J.out) ht);clear ht;go_wp2_with fail
       refine TG.out.mono ?_;rintro e w7 ⟨rfl,kk⟩;have KW:=lH (HK.out.trans (J.out.trans kk));clear kk cq0 cq1 cq2 p0 p1 p2 p3 p4
       cases t with
       | false =>
        have HX:=lH (jbI (bl:=bl) TW.out UF.out (show zo pl nl=7 by rw[←HS.out,HD.out,jg5 Rs.out HT.out]) (by decide));go_wp2;go_ret;exact⟨jc HX.out.symm,Ve.out.trans KW.out⟩
       | true =>
        have HX:=lH (show zo pl (nl.drop (k+1))=zo pl nl by rw[←HS.out,HD.out,jhZ Rs.out HT.out]);go_wp2;go_roundw
        case rel=>exact⟨k+1,by omega,by go_num,HX.out,KW.out⟩
        case measure=>simp[intOf];omega
     · have UN:=lH (show zo pl nl=0 by rw[←hrest,List.drop_of_length_le (by rw[Uz.out];omega)];rfl);have hkk:¬(k:Int)<(len:Int):=by omega
       clear hrest hK;have HX:=lH (jd7 (bl:=bl) TW.out UF.out UN.out);go_wp2_with fail
       refine(jit (Rr.out.kept HK.out)).mono ?_;rintro e w8 ⟨y9,rfl,hy,kk⟩;have KW:=lH (HK.out.trans kk);clear hy kk cq0 cq1 cq2;go_wp2;go_ret;exact⟨jc HX.out.symm,Ve.out.trans KW.out⟩
theorem jeK {n:Pd} (h:Jq n=true):Ju n:=by
 obtain⟨-,-,-,-,h1,h2,h3,h4⟩:=jf6 h;refine⟨?_,?_,?_,?_⟩
 · unfold Vec.YC at h1;simp only[Bool.and_eq_true,decide_eq_true_eq] at h1;omega
 · have:=(jhI h2).1;omega
 · have:=(jhp h3).1;omega
 · have:=(jgV h4).1;omega
def Zt (s:Clu):Bool:=XP s&&decide (ZC s=0)
theorem jbv {s:Clu} (h:XP s=true):jH s∧s.nodes.length≤34∧s.pods.length≤130∧s.buds.length≤20:=by
 unfold XP Zz at h;simp only[Bool.and_eq_true,decide_eq_true_eq,List.all_eq_true] at h;obtain⟨h1,h2,⟨h3,h4⟩,h5,h6⟩:=h;refine⟨⟨fun n hn=>jlg (h5 n hn),fun p hp=>jeK (h6 p hp),fun n hn=>?_,by omega,by omega,by omega⟩,by omega,by omega,by omega⟩;have:=h4 n hn;unfold Xl Ye at this;simp only[Bool.and_eq_true,decide_eq_true_eq] at this;omega
theorem jfu {s:Clu} (h:Zt s=true):XP s=true:=by unfold Zt at h;exact(Bool.and_eq_true_iff.1 h).1
theorem qT {s:Clu} (h:Zt s=true):ZC s=0:=by unfold Zt at h;exact of_decide_eq_true (Bool.and_eq_true_iff.1 h).2
theorem jlW {v:Value} {s:Clu} {c:Bool} {w:World} (h:jA w v s) (hc:Zt s=c):Calls Tryz.prog 6 #[v] w (Say (.bool c) w):=by
 subst hc;have h0:=h;obtain⟨v1,v2,v3,rfl,⟨a,cap,rfl,-,-,-⟩,⟨b,cp,rfl,-,-,-⟩,⟨d,cb,rfl,-,-,-⟩⟩:=h0;obtain⟨len,hl1⟩:∃q,s.nodes.length=q:=⟨_,rfl⟩
 obtain⟨m,hl2⟩:∃q,s.pods.length=q:=⟨_,rfl⟩
 obtain⟨n,hl3⟩:∃q,s.buds.length=q:=⟨_,rfl⟩
 rw[hl1,hl2,hl3] at h ⊢;clear hl1 hl2 hl3;obtain⟨Z,hZ⟩:∃Z,w.alloc (.cells #[.slice a len cap,.slice b m cp,.slice d n cb] 26)=Z:=⟨_,rfl⟩
 have hkz:Kept w Z:=by rw[←hZ];exact ja _ _
 have HC:=lH (show jf w.heap.size [.slice a len cap,.slice b m cp,.slice d n cb] Z from jd w (.slice a len cap) [.slice b m cp,.slice d n cb] 26 Z (by rw[hZ];exact Kept.refl _));have HV:=lH (h.kept hkz);have Ve:=lH hkz;obtain⟨e1,he1⟩:∃e,XP s=e:=⟨_,rfl⟩
 have UI:=lH he1;have HG:=lH (show Zt s=(e1&&decide (ZC s=0)) by unfold Zt;rw[he1]);rw[HG.out];clear h hkz;have cq0:=(HC.out.kept (Kept.refl _)).at_ 0 _ rfl;have cq1:=(HC.out.kept (Kept.refl _)).at_ 1 _ rfl;have cq2:=(HC.out.kept (Kept.refl _)).at_ 2 _ rfl;go_enter Tryz.func6,Tryz.ntmps6;go_wp2_with fail
 try rw[hZ]
 clear hZ;refine(jmk HV.out he1).mono ?_;rintro e w1 ⟨rfl,kk⟩;have K:=lH kk;clear kk he1 cq0 cq1 cq2;have cq0:=(HC.out.kept K.out).at_ 0 _ rfl;have cq1:=(HC.out.kept K.out).at_ 1 _ rfl;have cq2:=(HC.out.kept K.out).at_ 2 _ rfl
 cases e1 with
 | false =>
  go_wp2;go_ret;exact⟨rfl,Ve.out.trans K.out⟩
 | true =>
  obtain⟨L1,L2,L3,L4⟩:=jbv UI.out;have HL:=lH L1;clear L1;go_wp2_with fail
  refine(jaQ (HV.out.kept K.out) HL.out (by omega) (by omega) (by omega)).mono ?_;rintro e w2 ⟨x9,rfl,hx,kk⟩;have K2:=lH (K.out.trans kk);have HX:=lH hx;clear hx kk cq0 cq1 cq2;go_wp2_with fail
  obtain⟨c,hc⟩:∃c,ZC s=c:=⟨_,rfl⟩
  refine(jii HX.out hc).mono ?_;rintro e w3 ⟨rfl,kk⟩;have K3:=lH (K2.out.trans kk);have Um:=lH hc;clear kk;rw[hc];clear hc;obtain⟨t,ht⟩:∃t,decide (c=0)=t:=⟨_,rfl⟩
  have ht':(c==0)=t:=ht;go_wp2;go_ret;exact⟨by rw[Um.out,ht];rfl,Ve.out.trans K3.out⟩
def Asc (l:List Pd):Prop:=l.Pairwise fun x y=>ltS x.name y.name=true
theorem je8:∀{prev:Option ByteArray} {l:List Pd},zI prev l=0→(∀q,prev=some q→∀x ∈ l,ltS q x.name=true)∧Asc l
 | _,[],_=>⟨fun q _ x h=>absurd h (by simp),.nil⟩
 | prev,n::t,h=>by
  by_cases z:JB n=0
  · by_cases y:Vec.jM prev n.name=true
    · rw[jad z y] at h;cases h
    · have y:Vec.jM prev n.name=false:=by simpa using y
      rw[qe z y] at h;obtain⟨h2,h3⟩:=je8 h;refine⟨fun q hq x hx=>?_,List.pairwise_cons.2 ⟨fun x hx=>h2 _ rfl x hx,h3⟩⟩;subst hq;have hlt:ltS q n.name=true:=Vec.X1 y;rcases List.mem_cons.1 hx with rfl | hx
      · exact hlt
      · exact Vec.zX hlt (h2 _ rfl x hx)
  · rw[jbk z] at h;exact absurd h z
theorem jk2 {s:Clu} (h:Zt s=true):Asc s.pods:=by
 have hc:=qT h;have h0:or3 (jS s.nodes) (zi s.pods) (zn s.buds)=0:=Decidable.byContradiction fun g=>g ((qW (nl:=s.nodes) (pl:=s.pods) (bl:=s.buds) rfl g).symm.trans hc);have ho:zi s.pods=0:=by
  unfold or3 at h0;split at h0
  · rename_i h1;exact absurd h0 h1
  · split at h0
    · exact h0
    · rename_i h1;exact Decidable.of_not_not h1
 unfold zi at ho;split at ho
 · cases ho
 · exact(je8 ho).2
theorem jbB {x:ByteArray}:∀{l:List Pd},(∀q ∈ l,q.name≠x)→jY x l=l
 | [],_=>rfl
 | p::t,h=>by
  have hp:=h p (List.mem_cons_self ..);rw[jY,if_neg (fun e=>hp (jL.1 e)),jbB fun q hq=>h q (List.mem_cons_of_mem _ hq)]
theorem qA {x:ByteArray}:∀{l:List Pd} {q:Pd},q ∈ jY x l→q ∈ l
 | p::t,q,h=>by
  rw[jY] at h;split at h
  · exact List.mem_cons_of_mem _ h
  · rcases List.mem_cons.1 h with rfl | h
    · exact List.mem_cons_self ..
    · exact List.mem_cons_of_mem _ (qA h)
theorem jfz {x:ByteArray}:∀{l:List Pd},Asc l→Asc (jY x l)
 | [],h=>h
 | p::t,h=>by
  obtain⟨h1,h2⟩:=List.pairwise_cons.1 h;rw[jY];split
  · exact h2
  · exact List.pairwise_cons.2 ⟨fun q hq=>h1 q (qA hq),jfz h2⟩
theorem jcv {x:ByteArray}:∀{l:List Pd},(jY x l).length+(if (qH l x).isSome=true then 1 else 0)=l.length
 | []=>rfl
 | p::t=>by
  by_cases e:eqS p.name x=true
  · have hf:qH (p::t) x=some p:=by unfold qH;exact List.find?_cons_of_pos (p:=fun n:Pd=>eqS n.name x) e
    rw[jY,if_pos e,hf];simp
  · have hf:qH (p::t) x=qH t x:=by unfold qH;exact List.find?_cons_of_neg (p:=fun n:Pd=>eqS n.name x) e
    rw[jY,if_neg e,hf];have:=jcv (x:=x) (l:=t);simp only[List.length_cons];omega
theorem ins_mem {p:Pd}:∀{l:List Pd} {q:Pd},q ∈ zY p l→q=p∨q ∈ l
 | [],q,h=>by
  have:=List.mem_singleton.1 (show q ∈ [p] from h);exact .inl this
 | r::t,q,h=>by
  rw[zY] at h;split at h
  · rcases List.mem_cons.1 h with rfl | h
    · exact .inl rfl
    · exact .inr h
  · rcases List.mem_cons.1 h with rfl | h
    · exact .inr (List.mem_cons_self ..)
    · exact(ins_mem h).imp id (List.mem_cons_of_mem _)
theorem jgs (p:Pd):∀l:List Pd,(zY p l).length=l.length+1
 | []=>rfl
 | r::t=>by
  rw[zY];split
  · rfl
  · rw[List.length_cons,jgs p t,List.length_cons]
theorem jin (s:Clu) (x:ByteArray):(zU s x).pods.length+(if (qH s.pods x).isSome=true then 1 else 0)=s.pods.length:=jcv
def qv (s:Clu) (w:World) (e:Ending) (w':World):Prop:=∃y,e=.returned y∧jA w' y s∧Kept w w'
theorem jl6 {v u:Value} {s:Clu} {p:Pd} {w:World} (h:jA w v s) (g:YN w u p) (hl:jH s) (hp:Ju p):Calls Tryz.prog 64 #[v,u] w (qv (JT s p) w):=by
 obtain⟨v1,v2,v3,rfl,⟨a,cap,rfl,l1,m1,h1⟩,⟨b,cp,rfl,l2,m2,h2⟩,⟨d,cb,rfl,l3,m3,h3⟩⟩:=h;obtain⟨u1,u2,u3,u4,rfl,hat⟩:=g;have g1:=hat.need;have g2:=hat.labels;have g3:=hat.sel;have g4:=hat.tols;obtain⟨b1,d1,rfl,-,-,-⟩:=g1;obtain⟨b2,d2,rfl,-,-,-⟩:=g2;obtain⟨b3,d3,rfl,-,-,-⟩:=g3;obtain⟨b4,d4,rfl,-,-,-⟩:=g4;refine(jjf a b d _ cap _ cp _ cb s.nodes s.pods s.buds p b1 b2 b3 b4 _ d1 _ d2 _ d3 _ d4 w h1 h2 h3 l1 m1 l2 m2 l3 m3 hl hat hp).mono ?_;rintro e w' ⟨_,_,_,_,_,_,_,_,_,rfl,ho,kk⟩;exact⟨_,rfl,ho.toR,kk⟩
theorem jlw {v:Value} {s:Clu} {w:World} (h:jA w v s) (x:ByteArray) (hl:jH s):Calls Tryz.prog 101 #[v,.string x] w (qv (zU s x) w):=by
 obtain⟨v1,v2,v3,rfl,⟨a,cap,rfl,l1,m1,h1⟩,⟨b,cp,rfl,l2,m2,h2⟩,⟨d,cb,rfl,l3,m3,h3⟩⟩:=h;refine(jbW a b d _ cap _ cp _ cb s.nodes s.pods s.buds x w h1 h2 h3 l1 m1 l2 m2 l3 m3 hl).mono ?_;rintro e w' ⟨_,_,_,_,_,_,_,_,_,rfl,ho,kk⟩;exact⟨_,rfl,ho.toR,kk⟩
theorem jkz {a:Option Addr} {n c:Nat} {l:List Pd} {w:World} (h:zr w (.slice a n c) l):jN w a n l:=by
 obtain⟨a',cap',e,_,_,h⟩:=h
 cases e
 exact h
theorem jbl {s:Clu} (h:jH s) (x:ByteArray):jH (zU s x) :=
 ⟨h.nodes,fun q hq=>h.pods q (qA hq),h.buds,h.nodesN,by
  have h2:=jin s x;have:=h.podsN;omega,h.budsN⟩
def jlQ (c:Int) (w:World) (e:Ending) (w':World):Prop:=(∃x i1 j1 l1 i2 j2 l2 i3 j3 l3 b,e=.returned (.tuple #[.agg #[.string x,.slice i1 j1 l1,.slice i2 j2 l2,.slice i3 j3 l3,.bool b],.int .i64 c]))∧Kept w w'
theorem jh1 (Q1 Q2 Q3:Nat) (s1 s2 s3:Option Addr) (n1 e1 n2 e2 n3 e3:Nat) (a1 a2 a3 a4:Option Addr) (m1 c1 m2 c2 m3 c3 m4 c4:Nat) (p:Pd) (s:Clu) (name:ByteArray) (w:World) (hq1:jf Q1 [.slice s1 n1 e1,.slice s2 n2 e2,.slice s3 n3 e3] w) (hq2:jf Q2 [.string p.name,.string p.owner,.int .i64 p.prio,.slice a1 m1 c1,.slice a2 m2 c2,.slice a3 m3 c3,.slice a4 m4 c4,.string p.key,.int .i64 p.most,.string p.node,.bool p.hold] w) (hq3:jf Q3 [.string name] w) (hs:jA w (zv (.slice s1 n1 e1) (.slice s2 n2 e2) (.slice s3 n3 e3)) s) (hl:jH s) (hp:js w (.slice a1 m1 c1) (.slice a2 m2 c2) (.slice a3 m3 c3) (.slice a4 m4 c4) p) :
 Calls Tryz.prog 180 #[.pointer (some ⟨Q1,0,none⟩),.pointer (some ⟨Q2,0,none⟩),.pointer (some ⟨Q3,0,none⟩)] w (XD (zW s p name) w):=by
 obtain⟨Z,hZ⟩:∃Z,w.alloc (.cells #[.string ⟨#[]⟩,.slice none 0 0,.slice none 0 0,.slice none 0 0,.bool false] 71)=Z:=⟨_,rfl⟩
 have hkz:Kept w Z:=by rw[←hZ];exact ja _ _
 have Vg:=lH (jd w (.string ⟨#[]⟩) [.slice none 0 0,.slice none 0 0,.slice none 0 0,.bool false] 71 Z (by rw[hZ];exact Kept.refl _));have HS:=lH (jfT s1 s2 s3 n1 e1 n2 e2 n3 e3 a1 a2 a3 a4 m1 c1 m2 c2 m3 c3 m4 c4 p s name Z (hs.kept hkz) hl (hp.kept hkz));unfold jr at HS;have K:=lH hkz;have y0:=(hq1.kept hkz).at_ 0 _ rfl;have y1:=(hq1.kept hkz).at_ 1 _ rfl;have y2:=(hq1.kept hkz).at_ 2 _ rfl;have r0:=(hq2.kept hkz).at_ 0 _ rfl;have r1:=(hq2.kept hkz).at_ 1 _ rfl;have r2:=(hq2.kept hkz).at_ 2 _ rfl;have r3:=(hq2.kept hkz).at_ 3 _ rfl;have r4:=(hq2.kept hkz).at_ 4 _ rfl;have r5:=(hq2.kept hkz).at_ 5 _ rfl;have r6:=(hq2.kept hkz).at_ 6 _ rfl;have r7:=(hq2.kept hkz).at_ 7 _ rfl;have r8:=(hq2.kept hkz).at_ 8 _ rfl;have r9:=(hq2.kept hkz).at_ 9 _ rfl;have r10:=(hq2.kept hkz).at_ 10 _ rfl;have x0:=(hq3.kept hkz).at_ 0 _ rfl;clear hq1 hq2 hq3 hs hp hl hkz;obtain⟨c,hc⟩:∃c,zW s p name=c:=⟨_,rfl⟩
 rw[hc] at HS ⊢;clear hc;go_enter Tryz.func180,Tryz.ntmps180;go_wp2_with fail
 try rw[hZ]
 refine HS.out.mono ?_;rintro e w1 ⟨h1,h2,kk⟩;have K:=lH (K.out.trans kk);have Vg:=lH (Vg.out.kept kk);clear kk hZ HS y0 y1 y2 r0 r1 r2 r3 r4 r5 r6 r7 r8 r9 r10 x0;by_cases hc:c=0
 · obtain⟨x9,i1,j1,l1,i2,j2,l2,i3,j3,l3,b9,rfl⟩:=h1 hc;have Um:=lH hc;clear h1 h2 hc;have z0:=Vg.out.at_ 0 _ rfl;have z1:=Vg.out.at_ 1 _ rfl;have z2:=Vg.out.at_ 2 _ rfl;have z3:=Vg.out.at_ 3 _ rfl;have z4:=Vg.out.at_ 4 _ rfl;have f0:=Vg.out.free 0;have f1:=Vg.out.free 1;have f2:=Vg.out.free 2;have f3:=Vg.out.free 3;have f4:=Vg.out.free 4;have g0:=qL (u0:=.string x9) (u1:=.slice i1 j1 l1) (u2:=.slice i2 j2 l2) (u3:=.slice i3 j3 l3) (u4:=.bool b9) z0 z1 z2 z3 z4;go_wp2;obtain⟨WE,hWE⟩:∃W,(((((w1.setCell ⟨w.heap.size,0,none⟩ (.string x9)).setCell ⟨w.heap.size,1,none⟩ (.slice i1 j1 l1)).setCell ⟨w.heap.size,2,none⟩ (.slice i2 j2 l2)).setCell ⟨w.heap.size,3,none⟩ (.slice i3 j3 l3)).setCell ⟨w.heap.size,4,none⟩ (.bool b9))=W:=⟨_,rfl⟩
   obtain⟨q0,q1,q2,q3,q4⟩:=g0 WE hWE;have KE:Kept w WE:=by rw[←hWE];exact((((K.out.setCell (p:=⟨w.heap.size,0,none⟩) (Nat.le_refl _) _).setCell (p:=⟨w.heap.size,1,none⟩) (Nat.le_refl _) _).setCell (p:=⟨w.heap.size,2,none⟩) (Nat.le_refl _) _).setCell (p:=⟨w.heap.size,3,none⟩) (Nat.le_refl _) _).setCell (p:=⟨w.heap.size,4,none⟩) (Nat.le_refl _) _
   rw[hWE];clear hWE z0 z1 z2 z3 z4 f0 f1 f2 f3 f4;refine bodyPost_ret (by simp[results,Tryz.results180,go_sem,q0,q1,q2,q3,q4];try rfl) rfl ?_;exact⟨fun _=>⟨_,_,_,_,_,_,_,_,_,_,_,rfl⟩,fun g=>absurd Um.out g,KE⟩
 · obtain rfl:=h2 hc;have Um:=lH hc;clear h1 h2 hc;go_wp2;exact⟨rfl,XD.bad rfl Um.out K.out⟩
theorem jfS (Q1 Q2 Q3:Nat) (c:Int) (w:World) (hk:∀W,Kept w W→Calls Tryz.prog 180 #[.pointer (some ⟨Q1,0,none⟩),.pointer (some ⟨Q2,0,none⟩),.pointer (some ⟨Q3,0,none⟩)] W (XD c W)) :
 Calls Tryz.prog 179 #[.func (.func 180) #[] #[.pointer (some ⟨Q1,0,none⟩),.pointer (some ⟨Q2,0,none⟩),.pointer (some ⟨Q3,0,none⟩)]] w (jlQ c w):=by
 have hmf:=hmfL (P:=Tryz.prog);obtain⟨Z,hZ⟩:∃Z,(w.alloc (.cells #[.string ⟨#[]⟩,.slice none 0 0,.slice none 0 0,.slice none 0 0,.bool false] 71)).alloc (.cells #[.int .i64 0] 155)=Z:=⟨_,rfl⟩
 have hkz:Kept w Z:=by rw[←hZ];exact jm _ _ _
 have Vg:=lH (jd w (.string ⟨#[]⟩) [.slice none 0 0,.slice none 0 0,.slice none 0 0,.bool false] 71 Z (by rw[←hZ];exact ja _ _));have RT:=lH (show jf (w.heap.size+1) [.int .i64 0] Z by
  have dd:=jd (w.alloc (.cells #[.string ⟨#[]⟩,.slice none 0 0,.slice none 0 0,.slice none 0 0,.bool false] 71)) (.int .i64 0) [] 155 Z (by rw[hZ];exact Kept.refl _);rw[World.size_alloc] at dd;exact dd)
 have HK:=lH hkz;have Nk:=lH (hk Z hkz);clear hk hkz;go_enter_defers Tryz.func179,Tryz.ntmps179
 go_wp2_with fail
 try rw[hZ]
 refine Nk.out.mono ?_;rintro e1 w1 ⟨h0,h1,hb⟩;have KK:=lH (HK.out.trans hb);have Vg:=lH (Vg.out.kept hb);have RT:=lH (RT.out.kept hb);have z0:=Vg.out.at_ 0 _ rfl;have z1:=Vg.out.at_ 1 _ rfl;have z2:=Vg.out.at_ 2 _ rfl;have z3:=Vg.out.at_ 3 _ rfl;have z4:=Vg.out.at_ 4 _ rfl;have f0:=Vg.out.free 0;have f1:=Vg.out.free 1;have f2:=Vg.out.free 2;have f3:=Vg.out.free 3;have f4:=Vg.out.free 4;have ez:=RT.out.at_ 0 _ rfl;have ef:=RT.out.free 0;clear Nk;by_cases hx:c=0
 · obtain⟨x9,i1,j1,l1,i2,j2,l2,i3,j3,l3,b9,rfl⟩:=h0 hx;subst hx;clear h0 h1 hb hZ;have g0:=qL (u0:=.string x9) (u1:=.slice i1 j1 l1) (u2:=.slice i2 j2 l2) (u3:=.slice i3 j3 l3) (u4:=.bool b9) z0 z1 z2 z3 z4;have Uh:=lH g0;clear g0;go_wp2_with fail
   obtain⟨WE,hWE⟩:∃W,(((((w1.setCell ⟨w.heap.size,0,none⟩ (.string x9)).setCell ⟨w.heap.size,1,none⟩ (.slice i1 j1 l1)).setCell ⟨w.heap.size,2,none⟩ (.slice i2 j2 l2)).setCell ⟨w.heap.size,3,none⟩ (.slice i3 j3 l3)).setCell ⟨w.heap.size,4,none⟩ (.bool b9))=W:=⟨_,rfl⟩
   obtain⟨q0,q1,q2,q3,q4⟩:=Uh.out WE hWE;have KE:Kept w WE:=by rw[←hWE];exact((((KK.out.setCell (p:=⟨w.heap.size,0,none⟩) (Nat.le_refl _) _).setCell (p:=⟨w.heap.size,1,none⟩) (Nat.le_refl _) _).setCell (p:=⟨w.heap.size,2,none⟩) (Nat.le_refl _) _).setCell (p:=⟨w.heap.size,3,none⟩) (Nat.le_refl _) _).setCell (p:=⟨w.heap.size,4,none⟩) (Nat.le_refl _) _
   have ee:WE.cell? ⟨w.heap.size+1,0,none⟩=some (.int .i64 0):=by rw[←hWE];exact(((((RT.out.other (by omega)).other (by omega)).other (by omega)).other (by omega)).other (by omega)).at_ 0 _ rfl
   rw[hWE];clear hWE z0 z1 z2 z3 z4 f0 f1 f2 f3 f4 Uh;have ff:∀j v,WE.cell? ⟨w.heap.size,j,none⟩=some v→(WE.setCell ⟨w.heap.size+1,0,none⟩ (.int .i64 0)).cell? ⟨w.heap.size,j,none⟩=some v:=fun j v h=>(World.cell?_of_block (a:=⟨w.heap.size,j,none⟩) (Below.heap_setCell WE ⟨w.heap.size+1,0,none⟩ _ w.heap.size (by show w.heap.size≠w.heap.size+1;omega))).trans h;have g0:=ff 0 _ q0;have g1:=ff 1 _ q1;have g2:=ff 2 _ q2;have g3:=ff 3 _ q3;have g4:=ff 4 _ q4;have fe:=World.cell?_setCell_same' WE ⟨w.heap.size+1,0,none⟩ (.int .i64 0) (by rw[ee];rfl);have KF:=lH (show Kept w (WE.setCell ⟨w.heap.size+1,0,none⟩ (.int .i64 0)) from KE.setCell (p:=⟨w.heap.size+1,0,none⟩) (Nat.le_succ _) _);obtain⟨WF,hWF⟩:∃W,WE.setCell ⟨w.heap.size+1,0,none⟩ (.int .i64 0)=W:=⟨_,rfl⟩
   rw[hWF] at fe g0 g1 g2 g3 g4 KF ⊢;clear hWF ff ee q0 q1 q2 q3 q4 ez ef;refine leaves_cons (f:=201) (args:=#[.pointer (some ⟨w.heap.size+1,0,none⟩)]) (by simp) (by simp[go_sem]) ?_;refine(jet ⟨w.heap.size+1,0,none⟩ _).mono ?_;rintro e u' w'' ⟨rfl,rfl,rfl⟩;simp[Leaves,settle,results,Tryz.results179,go_sem,fe,g0,g1,g2,g3,g4];exact⟨⟨_,_,_,_,_,_,_,_,_,_,_,rfl⟩,KF.out⟩
 · obtain rfl:=h1 hx;have HX:=lH hx;clear h0 h1 hb hZ hx;go_wp2_with fail
   refine leaves_cons (f:=201) (args:=#[.pointer (some ⟨w.heap.size+1,0,none⟩)]) (by simp) (by simp[go_sem]) ?_;refine(ja3 w.heap.size (w.heap.size+1) c 0 _ ez ef (Nat.le_succ _)).mono ?_;rintro e u' w'' ⟨rfl,rfl,rfl,q2,q3⟩;have KF:=lH (show Kept w _ from Below.trans KK.out q3);have ff:∀j v,w1.cell? ⟨w.heap.size,j,none⟩=some v→(w1.setCell ⟨w.heap.size+1,0,none⟩ (.int .i64 c)).cell? ⟨w.heap.size,j,none⟩=some v:=fun j v h=>(World.cell?_of_block (a:=⟨w.heap.size,j,none⟩) (Below.heap_setCell w1 ⟨w.heap.size+1,0,none⟩ _ w.heap.size (by show w.heap.size≠w.heap.size+1;omega))).trans h;have g0:=ff 0 _ z0;have g1:=ff 1 _ z1;have g2:=ff 2 _ z2;have g3:=ff 3 _ z3;have g4:=ff 4 _ z4;obtain⟨WF,hWF⟩:∃W,w1.setCell ⟨w.heap.size+1,0,none⟩ (.int .i64 c)=W:=⟨_,rfl⟩
   rw[hWF] at q2 g0 g1 g2 g3 g4 KF ⊢;clear hWF ff q3 z0 z1 z2 z3 z4 ez ef f0 f1 f2 f3 f4;simp[Leaves,settle,results,Tryz.results179,go_sem,q2,g0,g1,g2,g3,g4];exact⟨⟨_,_,_,_,_,_,_,_,_,_,_,rfl⟩,KF.out⟩
theorem jhG (s1 s2 s3:Option Addr) (n1 e1 n2 e2 n3 e3:Nat) (a1 a2 a3 a4:Option Addr) (m1 c1 m2 c2 m3 c3 m4 c4:Nat) (p:Pd) (s:Clu) (name:ByteArray) (w:World) (hs:jA w (zv (.slice s1 n1 e1) (.slice s2 n2 e2) (.slice s3 n3 e3)) s) (hl:jH s) (hp:js w (.slice a1 m1 c1) (.slice a2 m2 c2) (.slice a3 m3 c3) (.slice a4 m4 c4) p):Calls Tryz.prog 152 #[.agg #[.slice s1 n1 e1,.slice s2 n2 e2,.slice s3 n3 e3],jr p (.slice a1 m1 c1) (.slice a2 m2 c2) (.slice a3 m3 c3) (.slice a4 m4 c4),.string name] w (Say (.int .i64 (zW s p name)) w):=by
 have hmf:=hmfL (P:=Tryz.prog);obtain⟨Y,hY⟩:∃Y,(w.alloc (.cells #[.slice s1 n1 e1,.slice s2 n2 e2,.slice s3 n3 e3] 26)).alloc (.cells #[.string p.name,.string p.owner,.int .i64 p.prio,.slice a1 m1 c1,.slice a2 m2 c2,.slice a3 m3 c3,.slice a4 m4 c4,.string p.key,.int .i64 p.most,.string p.node,.bool p.hold] 35)=Y:=⟨_,rfl⟩
 have hky:Kept w Y:=by rw[←hY];exact jm _ _ _
 have hys:Y.heap.size=w.heap.size+2:=by rw[←hY];simp
 have hsb:=jd w (.slice s1 n1 e1) [.slice s2 n2 e2,.slice s3 n3 e3] 26 Y (by rw[←hY];exact ja _ _);have hpb:jf (w.heap.size+1) [.string p.name,.string p.owner,.int .i64 p.prio,.slice a1 m1 c1,.slice a2 m2 c2,.slice a3 m3 c3,.slice a4 m4 c4,.string p.key,.int .i64 p.most,.string p.node,.bool p.hold] Y:=by
  have dd:=jd (w.alloc (.cells #[.slice s1 n1 e1,.slice s2 n2 e2,.slice s3 n3 e3] 26)) (.string p.name) [.string p.owner,.int .i64 p.prio,.slice a1 m1 c1,.slice a2 m2 c2,.slice a3 m3 c3,.slice a4 m4 c4,.string p.key,.int .i64 p.most,.string p.node,.bool p.hold] 35 Y (by rw[hY];exact Kept.refl _);rw[World.size_alloc] at dd;exact dd
 obtain⟨Z,hZ⟩:∃Z,Y.alloc (.cells #[.string name] 9)=Z:=⟨_,rfl⟩
 have hkz:Kept Y Z:=by rw[←hZ];exact ja _ _
 have hnb:jf (w.heap.size+2) [.string name] Z:=by
  have dd:=jd Y (.string name) [] 9 Z (by rw[hZ];exact Kept.refl _);rw[hys] at dd;exact dd
 have hYZ:((w.alloc (.cells #[.slice s1 n1 e1,.slice s2 n2 e2,.slice s3 n3 e3] 26)).alloc (.cells #[.string p.name,.string p.owner,.int .i64 p.prio,.slice a1 m1 c1,.slice a2 m2 c2,.slice a3 m3 c3,.slice a4 m4 c4,.string p.key,.int .i64 p.most,.string p.node,.bool p.hold] 35)).alloc (.cells #[.string name] 9)=Z:=by rw[hY];exact hZ
 have HC:=lH (jfS w.heap.size (w.heap.size+1) (w.heap.size+2) (zW s p name) Z fun W k=>jh1 w.heap.size (w.heap.size+1) (w.heap.size+2) s1 s2 s3 n1 e1 n2 e2 n3 e3 a1 a2 a3 a4 m1 c1 m2 c2 m3 c3 m4 c4 p s name W ((hsb.kept hkz).kept k) ((hpb.kept hkz).kept k) (hnb.kept k) (hs.kept ((hky.trans hkz).trans k)) hl (hp.kept ((hky.trans hkz).trans k)));have K:=lH (hky.trans hkz);clear hs hp hl hky hkz hys hsb hpb hnb hY hZ;obtain⟨c,hc⟩:∃c,zW s p name=c:=⟨_,rfl⟩
 rw[hc] at HC ⊢;clear hc;unfold jr;go_enter Tryz.func152,Tryz.ntmps152;go_wp2_with fail
 try rw[hYZ]
 clear hYZ;refine HC.out.mono ?_;rintro e w1 ⟨⟨x9,i1,j1,l1,i2,j2,l2,i3,j3,l3,b9,rfl⟩,kk⟩;have K:=lH (K.out.trans kk);clear kk;go_wp2;go_ret;exact⟨rfl,K.out.trans (ja _ _)⟩
theorem qf (a a9:Option Addr) (len cap cap9:Nat) (l:List ByteArray) (w:World) (hr:jh ji w a len l) (hr9:jh ji w a9 len l) :
 Calls Tryz.prog 14 #[.slice a len cap,.slice a9 len cap9] w fun e w'=>e=.returned (.bool true)∧Kept w w':=by
 have hl:=hr.1;have hm:=hr.2.1;unfold maxLen at hm;by_cases h0:len=0
 · subst h0;clear hr hl hr9;go_enter Tryz.func14,Tryz.ntmps14;go_wp2;refine wp_loop_rounds 1 ?_;rw[rounds_succ];go_wp2;go_ret;exact⟨rfl,Kept.refl _⟩
 · obtain⟨b,off,rfl⟩:∃b off,a=some ⟨b,off,none⟩:=by
    rcases hr.form with h | h
    · exact absurd h h0
    · exact h
   obtain⟨b9,off9,rfl⟩:∃b off,a9=some ⟨b,off,none⟩:=by
    rcases hr9.form with h | h
    · exact absurd h h0
    · exact h
   have HR:=lH hr;have MT:=lH hr9;clear hr hl hr9 h0;go_enter Tryz.func14,Tryz.ntmps14;go_wp2;go_loopw [5] (fun i wr=>∃k:Nat,k≤len∧i=.int .i64 k∧Kept w wr) (fun i _=>len-(intOf i).toNat)
   case atStart=>exact⟨0,Nat.zero_le _,rfl,Kept.refl _⟩
   case round =>
    obtain⟨k,hk,rfl,hK⟩:=hrel;have HK:=lH hK;by_cases hlt:k<len
    · obtain⟨x,hx,hd,hb,hz,c1⟩:=(HR.out.kept hK).str hlt;obtain⟨x9,hx9,_,hb9,_,d1⟩:=(MT.out.kept hK).str hlt;obtain rfl:x=x9:=by rw[hx] at hx9;exact Option.some.inj hx9
      clear hx hd hx9 hK;go_wp2;go_quiet (fail)
      go_wp2;go_roundw
      case rel=>exact⟨k+1,by omega,by go_num,HK.out.trans (Kept.drewN _ _)⟩
      case measure=>simp[intOf];omega
    · clear hK;go_wp2;go_ret;exact⟨rfl,HK.out⟩
theorem jiD {v v9:Value} {l:List ByteArray} {w:World} (h:Reads ji w v l) (h9:Reads ji w v9 l):Calls Tryz.prog 14 #[v,v9] w (Say (.bool true) w):=by
 obtain⟨a,cap,rfl,_,_,hr⟩:=h;obtain⟨a9,cap9,rfl,_,_,hr9⟩:=h9;exact qf a a9 _ cap cap9 l w hr hr9
theorem Jm (x:ByteArray) (u:Value) (h:u ∈ [Value.string x]):u.oneCell'=true:=qM x u h
theorem jfb:(Tryz.prog.info? 9).map (fun i=>(i.zero,i.size,i.bytes))=some (some (.string ByteArray.empty),1,16):=by kernel_rfl
theorem jH.drop {s:Clu} (h:jH s) (x:ByteArray):jH (zU s x):=jbl h x
theorem jA.spelt {w:World} {y:Value} {s:Clu} (h:jA w y s):∃s1 n1 e1 s2 n2 e2 s3 n3 e3,y=zv (.slice s1 n1 e1) (.slice s2 n2 e2) (.slice s3 n3 e3):=by
 obtain⟨_,_,_,rfl,⟨a,c,rfl,-⟩,⟨b,d,rfl,-⟩,⟨e,f,rfl,-⟩⟩:=h;exact⟨a,_,c,b,_,d,e,_,f,rfl⟩
theorem jjc (x:Int) (u:Value) (h:u ∈ [Value.int .i64 x]):u.oneCell'=true:=by
 have e:u=Value.int .i64 x:=by simpa using h
 rw[e];rfl
def XG:Lay Int:={ m:=1,cs:=fun x=>[.int .i64 x],fine:=fun x=>-9223372036854775808≤x∧x≤9223372036854775807,len:=fun _=>rfl,one:=jjc,pos:=by decide }
theorem jh.err {w:World} {b off len:Nat} {l:List Int} {k:Nat} (h:jh XG w (some ⟨b,off,none⟩) len l) (hk:k<len):∃x:Int,l[k]?=some x∧l.drop k=x::l.drop (k+1)∧b<w.heap.size∧w.cell? ⟨b,off+k,none⟩=some (.int .i64 x):=by
 obtain⟨x,h1,h2,h3,h4,h5⟩:=h.cells hk;exact⟨x,h1,h2,h3,by have:=h5 0 _ rfl;simpa [XG] using this⟩
theorem jmj:(Tryz.prog.info? 155).map (fun i=>(i.zero,i.size,i.bytes))=some (some (.int .i64 0),1,8):=by kernel_rfl
theorem jlm (s1 s2 s3:Option Addr) (n1 e1 n2 e2 n3 e3:Nat) (a1 a2 a3 a4:Option Addr) (m1 c1 m2 c2 m3 c3 m4 c4:Nat) (p:Pd) (s:Clu) (w:World) (hs:jA w (zv (.slice s1 n1 e1) (.slice s2 n2 e2) (.slice s3 n3 e3)) s) (hl:jH s) (hp:js w (.slice a1 m1 c1) (.slice a2 m2 c2) (.slice a3 m3 c3) (.slice a4 m4 c4) p):Calls Tryz.prog 127 #[.agg #[.slice s1 n1 e1,.slice s2 n2 e2,.slice s3 n3 e3],jr p (.slice a1 m1 c1) (.slice a2 m2 c2) (.slice a3 m3 c3) (.slice a4 m4 c4)] w fun e w'=>∃v,e=.returned v∧Own XG 155 w' w.heap.size v (Xw s p s.nodes)∧Kept w w':=by
 obtain⟨i0,hi,hz0,hz1,hz2'⟩:=info_parts jmj;obtain⟨Z,hZ⟩:∃Z,(w.alloc (.cells #[.slice s1 n1 e1,.slice s2 n2 e2,.slice s3 n3 e3] 26)).alloc (.cells #[.string p.name,.string p.owner,.int .i64 p.prio,.slice a1 m1 c1,.slice a2 m2 c2,.slice a3 m3 c3,.slice a4 m4 c4,.string p.key,.int .i64 p.most,.string p.node,.bool p.hold] 35)=Z:=⟨_,rfl⟩
 have hkz:Kept w Z:=by rw[←hZ];exact jm _ _ _
 have Vd:=lH (jd w (.slice s1 n1 e1) [.slice s2 n2 e2,.slice s3 n3 e3] 26 Z (by rw[←hZ];exact ja _ _));have Vb:=lH (show jf (w.heap.size+1) [.string p.name,.string p.owner,.int .i64 p.prio,.slice a1 m1 c1,.slice a2 m2 c2,.slice a3 m3 c3,.slice a4 m4 c4,.string p.key,.int .i64 p.most,.string p.node,.bool p.hold] Z by
  have dd:=jd (w.alloc (.cells #[.slice s1 n1 e1,.slice s2 n2 e2,.slice s3 n3 e3] 26)) (.string p.name) [.string p.owner,.int .i64 p.prio,.slice a1 m1 c1,.slice a2 m2 c2,.slice a3 m3 c3,.slice a4 m4 c4,.string p.key,.int .i64 p.most,.string p.node,.bool p.hold] 35 Z (by rw[hZ];exact Kept.refl _);rw[World.size_alloc] at dd;exact dd)
 have K:=lH hkz;have HS:=lH (hs.kept hkz);have HP:=lH (hp.kept hkz);have HL:=lH hl;clear hs hp hkz hl;have VY:=lH HS.out.nAt.2;have hb1:n1≤100000:=by have:=HL.out.nodesN;have:=VY.out;omega
 have HN:=lH HS.out.nAt.1;have NJ:=lH (jlw HS.out p.name HL.out);try unfold zv at NJ
 have y0:=Vd.out.at_ 0 _ rfl;have y1:=Vd.out.at_ 1 _ rfl;have y2:=Vd.out.at_ 2 _ rfl;have r0:=Vb.out.at_ 0 _ rfl;unfold jr;go_enter Tryz.func127,Tryz.ntmps127;go_upto_region 1 with fail
 try rw[hZ]
 clear hZ;go_wp2_with fail
 refine NJ.out.mono ?_;rintro e w1 ⟨y,rfl,hy,kk⟩;obtain⟨t1,k1,d1,t2,k2,d2,t3,k3,d3,rfl⟩:=hy.spelt;obtain⟨w2,hw2⟩:∃W,w1.alloc (.cells #[.slice t1 k1 d1,.slice t2 k2 d2,.slice t3 k3 d3] 26)=W:=⟨_,rfl⟩
 have kx:Kept w1 w2:=by rw[←hw2];exact ja _ _
 have Va:=lH (jd w1 (.slice t1 k1 d1) [.slice t2 k2 d2,.slice t3 k3 d3] 26 w2 (by rw[hw2];exact Kept.refl _));have HY:=lH (hy.kept kx);have Vd:=lH (Vd.out.kept (kk.trans kx));have Vb:=lH (Vb.out.kept (kk.trans kx));have HP:=lH (HP.out.kept (kk.trans kx));have HN:=lH (HN.out.kept (kk.trans kx));have K:=lH (K.out.trans (kk.trans kx));obtain⟨gd,hgd⟩:∃g,w1.heap.size=g:=⟨_,rfl⟩
 rw[hgd] at Va;clear kk kx hy NJ y0 y1 y2 r0;have y0:=Vd.out.at_ 0 _ rfl;go_upto_region 3 with fail
 try rw[hw2]
 try rw[hgd]
 clear hw2 hgd;go_wp2;clear y0;go_loopw [6,16] (fun v i wr=>∃k:Nat,k≤n1∧i=.int .i64 k∧∃la:List Int,Xw s p (s.nodes.take k)=la∧Own XG 155 wr w2.heap.size v la∧Kept w2 wr) (fun _ i _=>n1-(intOf i).toNat)
 case atStart=>exact⟨0,Nat.zero_le _,rfl,[],rfl,Own.nil _ _ _,Kept.refl _⟩
 case round =>
  obtain⟨k,hk,rfl,la,hla,ho,hK⟩:=hrel;have HX:=lH hla;have HO:=lH ho;have HK:=lH hK;obtain⟨m,hm⟩:∃m,la.length=m:=⟨_,rfl⟩
  have hmk:m≤k:=by
   have:=jbG s p (s.nodes.take k);rw[hla,hm,List.length_take] at this;omega
  have HT:=lH hm;have hbase:w2.heap.size≤wr.heap.size:=hK.size;by_cases hlt:k<n1
  · obtain⟨g,off,rfl⟩:=HN.out.form.resolve_left (by omega);obtain⟨n,b1,q1,f1,b2,q2,f2,b3,q3,f3,hn,hd,hb,u0,u1,u2,u3,u4,hat⟩:=(HN.out.kept hK).at_ hlt;have Ut:=lH (jjo (s:=s) (p:=p) hn);have hkk:(k:Int)<(n1:Int):=by omega
    have hk0:¬(k:Int)<0:=by omega
    obtain⟨wx,hwx⟩:∃W,wr.alloc (.cells #[.string n.name,.slice b1 q1 f1,.slice b2 q2 f2,.slice b3 q3 f3,.bool n.cordon] 71)=W:=⟨_,rfl⟩
    have hkx:Kept wr wx:=by rw[←hwx];exact ja _ _
    have V3:=lH (jd wr (.string n.name) [.slice b1 q1 f1,.slice b2 q2 f2,.slice b3 q3 f3,.bool n.cordon] 71 wx (by rw[hwx];exact Kept.refl _));obtain⟨bq,hbq⟩:∃z,wr.heap.size=z:=⟨_,rfl⟩
    rw[hbq] at V3;have VP:=lH (Va.out.kept (hK.trans hkx));have Vs:=lH (Vb.out.kept (hK.trans hkx));have TH:=lH (jhG t1 t2 t3 k1 d1 k2 d2 k3 d3 a1 a2 a3 a4 m1 c1 m2 c2 m3 c3 m4 c4 p (zU s p.name) n.name wx (HY.out.kept (hK.trans hkx)) (jbl HL.out p.name) (HP.out.kept (hK.trans hkx)));unfold jr at TH;obtain⟨c,hc⟩:∃c,zW (zU s p.name) p n.name=c:=⟨_,rfl⟩
    have MU:=lH (show -9223372036854775808≤c∧c≤9223372036854775807 by have:=jjp (zU s p.name) p n.name;omega);have HV:=lH (show Xw s p (s.nodes.take (k+1))=la++[c] by rw[Ut.out,HX.out];unfold Yc;rw[hc]);rw[hc] at TH;have KX:=lH hkx;go_upto_region 6 with fail
    try rw[hwx]
    try rw[hbq]
    clear hwx hbq hd hb hn hkx hk0 hkk hat hla ho hm hK hc u0 u1 u2 u3 u4;have y0:=VP.out.at_ 0 _ rfl;have y1:=VP.out.at_ 1 _ rfl;have y2:=VP.out.at_ 2 _ rfl;have r0:=Vs.out.at_ 0 _ rfl;have r1:=Vs.out.at_ 1 _ rfl;have r2:=Vs.out.at_ 2 _ rfl;have r3:=Vs.out.at_ 3 _ rfl;have r4:=Vs.out.at_ 4 _ rfl;have r5:=Vs.out.at_ 5 _ rfl;have r6:=Vs.out.at_ 6 _ rfl;have r7:=Vs.out.at_ 7 _ rfl;have r8:=Vs.out.at_ 8 _ rfl;have r9:=Vs.out.at_ 9 _ rfl;have r10:=Vs.out.at_ 10 _ rfl;have t0:=V3.out.at_ 0 _ rfl;go_wp2_with fail
    refine TH.out.mono ?_;rintro e w3 ⟨rfl,kk⟩;have KW:=lH (KX.out.trans kk);clear kk TH t0 y0 y1 y2 r0 r1 r2 r3 r4 r5 r6 r7 r8 r9 r10;have Vy:=lH (show w3.ownsRow w2.heap.size 155 1 u6 m (jb XG la) by have:=(HO.out.kept KW.out).1;rw[HT.out] at this;exact this);have hs1:wr.heap.size≤w3.heap.size:=Below.size KW.out;go_wp2_with (at_builtin;refine wpList_append_lies _ rfl _ _ _ rfl w2.heap.size 155 i0 _ 1 8 Tryz.underlying201 hi hz0 hz1 hz2' rfl (by decide) u6 m (jb XG la) rfl (Vy.out.alloc _) ⟨w3.heap.size,0,none⟩ 1 1 (XG.cs c) rfl rfl (World.news_of_block (cs:=#[.int .i64 c]) (t:=155) (fr:=(0,0)) (heap_alloc_new w3 _)) (jjc c) (by decide) (by unfold maxLen;omega) (by omega) (by simp;omega) (w3.heap.size+1) (by simp) ?_;intro gg cap1 w4 hown1 hgrow hat hlt1)
    have VU:=lH ((show Below w2.heap.size w2 _ from HK.out.trans (KW.out.trans (ja w3 _))).grown hgrow (by simp;omega) (fun j hj=>(Vy.out.lt j hj).1));go_wp2;go_roundw
    case rel=>exact⟨k+1,by omega,by go_num,la++[c],HV.out,Own.snoc hown1 (by rw[HT.out]) HO.out.2 MU.out,VU.out⟩
    case measure=>simp[intOf];omega
  · have hge:¬(k:Int)<(n1:Int):=by omega
    have HE:=lH (show Xw s p s.nodes=la by rw[←hla,List.take_of_length_le (by rw[←VY.out];omega)]);clear hla ho hm hK;go_wp2;go_ret;exact⟨_,rfl,by rw[HE.out];exact HO.out.base_le K.out.size,K.out.trans HK.out⟩
theorem jhe (w:World):zp w (.slice none 0 0) (.slice none 0 0) (.slice none 0 0) Nod.zero:=⟨(by decide:(0:Nat)≤maxLen),⟨none,0,rfl,Nat.le_refl _,by decide,Vec.jw.nil w⟩,Reads.nil _,Reads.nil _⟩
theorem jan {s:Clu} (h:jH s) (x:ByteArray):Jk (zb s x):=by
 unfold zb
 cases hf:jj s.nodes x with
 | none=>exact⟨(by decide:(0:Nat)≤1000000),(by decide:(0:Nat)≤1000000),(by decide:(0:Nat)≤1000000)⟩
 | some n=>exact h.nodes n (jc5 hf).1
theorem jgH (x:ByteArray) (v1 v2 v3:Value) (c:Bool) (W:World):(Instr.field 71 (.agg #[.string x,v1,v2,v3,.bool c]) 1).run Tryz.prog W=.ok v1 W:=by kernel_rfl
theorem jli (x:ByteArray) (v1 v2 v3:Value) (c:Bool) (W:World):(Instr.field 71 (.agg #[.string x,v1,v2,v3,.bool c]) 3).run Tryz.prog W=.ok v3 W:=by kernel_rfl
def jm4 (n:Nod) (w:World) (e:Ending) (w':World):Prop:=∃b1 k1 d1 b2 k2 d2 b3 k3 d3,e=.returned (zw n (.slice b1 k1 d1) (.slice b2 k2 d2) (.slice b3 k3 d3))∧zp w' (.slice b1 k1 d1) (.slice b2 k2 d2) (.slice b3 k3 d3) n∧Kept w w'
theorem YY (s1 s2 s3:Option Addr) (n1 e1 n2 e2 n3 e3:Nat) (s:Clu) (name:ByteArray) (w:World) (hs:jA w (zv (.slice s1 n1 e1) (.slice s2 n2 e2) (.slice s3 n3 e3)) s) (hl:jH s) :
 Calls Tryz.prog 47 #[.agg #[.slice s1 n1 e1,.slice s2 n2 e2,.slice s3 n3 e3],.string name] w (jm4 (zb s name) w):=by
 have hn:=hs.nAt.1;have hb1:n1≤100000:=by have:=hs.nAt.2;have:=hl.nodesN;omega
 have NK:=lH (show zb s name=(jj s.nodes name).getD Nod.zero from rfl);generalize s.nodes=nodes at hn NK
 clear hs hl;obtain⟨Z,hZ⟩:∃Z,(w.alloc (.cells #[.slice s1 n1 e1,.slice s2 n2 e2,.slice s3 n3 e3] 26)).alloc (.cells #[.string ⟨#[]⟩,.slice none 0 0,.slice none 0 0,.slice none 0 0,.bool false] 71)=Z:=⟨_,rfl⟩
 have hkz:Kept w Z:=by rw[←hZ];exact jm _ _ _
 have Vw:=lH (jd w (.slice s1 n1 e1) [.slice s2 n2 e2,.slice s3 n3 e3] 26 Z (by rw[←hZ];exact ja _ _));have hyb:jf (w.heap.size+1) [.string ⟨#[]⟩,.slice none 0 0,.slice none 0 0,.slice none 0 0,.bool false] Z:=by
  have dd:=jd (w.alloc (.cells #[.slice s1 n1 e1,.slice s2 n2 e2,.slice s3 n3 e3] 26)) (.string ⟨#[]⟩) [.slice none 0 0,.slice none 0 0,.slice none 0 0,.bool false] 71 Z (by rw[hZ];exact Kept.refl _);rw[World.size_alloc] at dd;exact dd
 have Ni:=lH hyb;have HN:=lH hn;have VY:=lH hn.1;have Ve:=lH hkz;clear hn hkz hyb;go_enter Tryz.func47,Tryz.ntmps47;have y0:=Vw.out.at_ 0 _ rfl;go_upto_region 1 with fail
 try rw[hZ]
 clear hZ;go_wp2;clear y0;go_loopw [10] (fun i wr=>∃k:Nat,k≤n1∧i=.int .i64 k∧jj (nodes.drop k) name=jj nodes name∧Kept Z wr) (fun i _=>n1-(intOf i).toNat)
 case atStart=>exact⟨0,Nat.zero_le _,rfl,rfl,Kept.refl _⟩
 case round =>
  obtain⟨k,hk,rfl,hR,hK⟩:=hrel;have HR:=lH hR;have HK:=lH (Ve.out.trans hK);have TC:=lH hK;by_cases hlt:k<n1
  · obtain⟨g,off,rfl⟩:=HN.out.form.resolve_left (by omega);obtain⟨n,b1,k1,d1,b2,k2,d2,b3,k3,d3,hn,hd,hb,u0,u1,u2,u3,u4,hat⟩:=HN.out.at_ hlt;have Vu:=lH hat;have HD:=lH hd;have u0:=cell_later HK.out u0;have u1:=cell_later HK.out u1;have u2:=cell_later HK.out u2;have u3:=cell_later HK.out u3;have u4:=cell_later HK.out u4;have hkk:(k:Int)<(n1:Int):=by omega
    have hk0:¬(k:Int)<0:=by omega
    obtain⟨wx,hwx⟩:∃W,wr.alloc (.cells #[.string n.name,.slice b1 k1 d1,.slice b2 k2 d2,.slice b3 k3 d3,.bool n.cordon] 71)=W:=⟨_,rfl⟩
    have hkx:Kept wr wx:=by rw[←hwx];exact ja _ _
    have Va:=lH (jd wr (.string n.name) [.slice b1 k1 d1,.slice b2 k2 d2,.slice b3 k3 d3,.bool n.cordon] 71 wx (by rw[hwx];exact Kept.refl _));obtain⟨bq,hbq⟩:∃z,wr.heap.size=z:=⟨_,rfl⟩
    rw[hbq] at Va;have KX:=lH hkx;go_upto_region 4 with fail
    try rw[hwx]
    try rw[hbq]
    clear hwx hbq hd hb hn hR hK hkx hk0 hkk hat u0 u1 u2 u3 u4;have t0:=Va.out.at_ 0 _ rfl;have t1:=Va.out.at_ 1 _ rfl;have t2:=Va.out.at_ 2 _ rfl;have t3:=Va.out.at_ 3 _ rfl;have t4:=Va.out.at_ 4 _ rfl;obtain⟨t,ht⟩:∃t,(n.name.toList==name.toList)=t:=⟨_,rfl⟩
    have HT:=lH (show eqS n.name name=t from ht)
    cases t with
    | false =>
     have HX:=lH (show jj (nodes.drop (k+1)) name=jj nodes name by rw[←HR.out,HD.out];unfold jj;rw[List.find?_cons,HT.out]);go_wp2;go_roundw
     case rel=>exact⟨k+1,by omega,by go_num,HX.out,TC.out.trans KX.out⟩
     case measure=>simp[intOf];omega
    | true =>
     have HX:=lH (show zb s name=n by rw[NK.out,show jj nodes name=some n by rw[←HR.out,HD.out];unfold jj;rw[List.find?_cons,HT.out]];rfl);have VV:=lH (Ni.out.kept (TC.out.trans KX.out));have z0:=VV.out.at_ 0 _ rfl;have z1:=VV.out.at_ 1 _ rfl;have z2:=VV.out.at_ 2 _ rfl;have z3:=VV.out.at_ 3 _ rfl;have z4:=VV.out.at_ 4 _ rfl;have f0:=VV.out.free 0;have f1:=VV.out.free 1;have f2:=VV.out.free 2;have f3:=VV.out.free 3;have f4:=VV.out.free 4;have P:=lH (Zi ⟨z0,z1,z2,z3,z4⟩ n.name b1 b2 b3 k1 d1 k2 d2 k3 d3 n.cordon);go_wp2;obtain⟨WE,hWE⟩:∃W,(((((wx.setCell ⟨w.heap.size+1,0,none⟩ (.string n.name)).setCell ⟨w.heap.size+1,1,none⟩ (.slice b1 k1 d1)).setCell ⟨w.heap.size+1,2,none⟩ (.slice b2 k2 d2)).setCell ⟨w.heap.size+1,3,none⟩ (.slice b3 k3 d3)).setCell ⟨w.heap.size+1,4,none⟩ (.bool n.cordon))=W:=⟨_,rfl⟩
     rw[hWE] at P ⊢;clear hWE z0 z1 z2 z3 z4 t0 t1 t2 t3 t4 f0 f1 f2 f3 f4;obtain⟨⟨d0,d1,d2,d3,d4⟩,hsz,hbl,hkp⟩:=P.out;refine bodyPost_ret (by simp[results,Tryz.results47,go_sem,d0,d1,d2,d3,d4];try rfl) rfl ?_;have KE:=hkp _ _ (Nat.le_succ _) (HK.out.trans KX.out);rw[HX.out];exact⟨_,_,_,_,_,_,_,_,_,rfl,Vu.out.kept KE,KE⟩
  · have hge:¬(k:Int)<(n1:Int):=by omega
    have HX:=lH (show zb s name=Nod.zero by rw[NK.out,show jj nodes name=none by rw[←HR.out,List.drop_of_length_le (by rw[VY.out];omega)];rfl];rfl);clear hR hK;have VV:=lH (Ni.out.kept TC.out);have z0:=VV.out.at_ 0 _ rfl;have z1:=VV.out.at_ 1 _ rfl;have z2:=VV.out.at_ 2 _ rfl;have z3:=VV.out.at_ 3 _ rfl;have z4:=VV.out.at_ 4 _ rfl;have f0:=VV.out.free 0;have f1:=VV.out.free 1;have f2:=VV.out.free 2;have f3:=VV.out.free 3;have f4:=VV.out.free 4;have P:=lH (Zi ⟨z0,z1,z2,z3,z4⟩ ⟨#[]⟩ none none none 0 0 0 0 0 0 false);go_wp2;obtain⟨WE,hWE⟩:∃W,(((((wr.setCell ⟨w.heap.size+1,0,none⟩ (.string ⟨#[]⟩)).setCell ⟨w.heap.size+1,1,none⟩ (.slice none 0 0)).setCell ⟨w.heap.size+1,2,none⟩ (.slice none 0 0)).setCell ⟨w.heap.size+1,3,none⟩ (.slice none 0 0)).setCell ⟨w.heap.size+1,4,none⟩ (.bool false))=W:=⟨_,rfl⟩
    rw[hWE] at P ⊢;clear hWE z0 z1 z2 z3 z4 f0 f1 f2 f3 f4;obtain⟨⟨d0,d1,d2,d3,d4⟩,hsz,hbl,hkp⟩:=P.out;refine bodyPost_ret (by simp[results,Tryz.results47,go_sem,d0,d1,d2,d3,d4];try rfl) rfl ?_;have KE:=hkp _ _ (Nat.le_succ _) HK.out;rw[HX.out];exact⟨_,_,_,_,_,_,_,_,_,rfl,jhe _,KE⟩
theorem jcn (s1 s2 s3:Option Addr) (n1 e1 n2 e2 n3 e3:Nat) (s:Clu) (name:ByteArray) (w:World) (hs:jA w (zv (.slice s1 n1 e1) (.slice s2 n2 e2) (.slice s3 n3 e3)) s) (hl:jH s):Calls Tryz.prog 46 #[.agg #[.slice s1 n1 e1,.slice s2 n2 e2,.slice s3 n3 e3],.string name] w fun e w'=>∃v,e=.returned v∧Vec.Reads w' v (zy s name).2∧Kept w w':=by
 obtain⟨Z,hZ⟩:∃Z,w.alloc (.cells #[.slice s1 n1 e1,.slice s2 n2 e2,.slice s3 n3 e3] 26)=Z:=⟨_,rfl⟩
 have hkz:Kept w Z:=by rw[←hZ];exact ja _ _
 have Vd:=lH (jd w (.slice s1 n1 e1) [.slice s2 n2 e2,.slice s3 n3 e3] 26 Z (by rw[hZ];exact Kept.refl _));have HU:=lH (jmL (hs.kept hkz) name hl);try unfold zv at HU
 have K:=lH hkz;clear hs hl hkz;have y0:=Vd.out.at_ 0 _ rfl;have y1:=Vd.out.at_ 1 _ rfl;have y2:=Vd.out.at_ 2 _ rfl;go_enter Tryz.func46,Tryz.ntmps46;go_wp2_with fail
 try rw[hZ]
 clear hZ;refine HU.out.mono ?_;rintro e w1 ⟨y,rfl,hy,kk⟩;have HY:=lH hy;have K:=lH (K.out.trans kk);clear kk hy HU y0 y1 y2;go_wp2;go_ret;exact⟨_,rfl,HY.out,K.out⟩
def Yh (x:Option Nat) (w:World) (e:Ending) (w':World):Prop:=∃r,e=.returned (.float .f64 r)∧nrm r=x∧r<TOP∧Kept w w'
theorem Y9 {r:Nat} {x:Option Nat} {w w':World} (h:nrm r=x) (t:r<TOP) (k:Kept w w'):Yh x w (.returned (.float .f64 r)) w':=⟨r,rfl,h,t,k⟩
theorem jbS (u c:Value) (lu lc:Vec.V) (what:ByteArray) (w:World) (hu:Vec.Reads w u lu) (hc:Vec.Reads w c lc):Calls Tryz.prog 45 #[u,c,.string what] w (Yh (jcP (Vec.jy lu what) (Vec.jy lc what)) w):=by
 obtain⟨a,ha⟩:∃a,Vec.jy lu what=a:=⟨_,rfl⟩
 obtain⟨b,hb⟩:∃a,Vec.jy lc what=a:=⟨_,rfl⟩
 have HU:=lH (fun (W:World) (k:Kept w W)=>Vec.jfe (hu.kept k) ha);have HC:=lH (fun (W:World) (k:Kept w W)=>Vec.jfe (hc.kept k) hb);rw[ha,hb];clear ha hb hu hc;have K:=lH (Kept.refl w);go_enter Tryz.func45,Tryz.ntmps45;go_wp2_with fail
 refine(HU.out _ K.out).mono ?_;rintro e w1 ⟨rfl,kk⟩;have K:=lH (K.out.trans kk);clear kk;go_wp2_with fail
 refine(HC.out _ K.out).mono ?_;rintro e w2 ⟨rfl,kk⟩;have K:=lH (K.out.trans kk);clear kk;go_wp2_with fail
 refine(jkU a b _).mono ?_;rintro e w3 ⟨r,n,rfl,rfl,hr,ht⟩;have HR:=lH hr;have K:=lH (K.out.trans (Kept.drewN w2 n));clear hr;go_wp2;go_ret;exact Y9 HR.out ht K.out
theorem jcS (x:Nat) (u:Value) (h:u ∈ [Value.float .f64 x]):u.oneCell'=true:=by
 have e:u=Value.float .f64 x:=by simpa using h
 rw[e];rfl
def Z3:Lay Nat:={ m:=1,cs:=fun x=>[.float .f64 x],fine:=fun x=>x<TOP,len:=fun _=>rfl,one:=jcS,pos:=by decide }
theorem jjL:(Tryz.prog.info? 54).map (fun i=>(i.zero,i.size,i.bytes))=some (some (.float .f64 0),1,8):=by kernel_rfl
theorem jec {w:World} {a:Option Addr} {len:Nat} {l:List Nat} (h:jh Z3 w a len l):jbm w a len l:=by
 obtain⟨h0,h1,h2,h3⟩:=h;refine⟨h0,h1,h2,h3.imp id ?_⟩;rintro ⟨b,off,e,hb,hc⟩;refine⟨b,off,e,hb,fun i hi=>?_⟩;have hil:i<l.length:=by omega
 have:=hc i l[i] 0 (.float .f64 l[i]) (List.getElem?_eq_getElem hil) rfl;rw[show l.getD i 0=l[i] by simp[List.getD,hil]];simpa [Z3] using this
theorem jcq {s:Clu} {x:ByteArray} {l:Vec.V} {k:Nat} (h:k<l.length):(l.take (k+1)).map (fun a=>zu s x a.1)=(l.take k).map (fun a=>zu s x a.1)++[zu s x (Vec.nm l k)]:=by
 rw[List.take_add_one,List.getElem?_eq_getElem h,List.map_append];simp[Vec.nm,List.getD,h]
theorem jjg (s1 s2 s3:Option Addr) (n1 e1 n2 e2 n3 e3:Nat) (s:Clu) (name:ByteArray) (w:World) (hs:jA w (zv (.slice s1 n1 e1) (.slice s2 n2 e2) (.slice s3 n3 e3)) s) (hl:jH s):Calls Tryz.prog 63 #[.agg #[.slice s1 n1 e1,.slice s2 n2 e2,.slice s3 n3 e3],.string name] w (Yh (Y2 s name) w):=by
 obtain⟨i0,hi,hz0,hz1,hz2'⟩:=info_parts jjL;obtain⟨Z,hZ⟩:∃Z,w.alloc (.cells #[.slice s1 n1 e1,.slice s2 n2 e2,.slice s3 n3 e3] 26)=Z:=⟨_,rfl⟩
 have hkz:Kept w Z:=by rw[←hZ];exact ja _ _
 have Vd:=lH (jd w (.slice s1 n1 e1) [.slice s2 n2 e2,.slice s3 n3 e3] 26 Z (by rw[hZ];exact Kept.refl _));have HS:=lH (hs.kept hkz);have K:=lH hkz;have HL:=lH hl;have HF:=lH (show ∀W,Kept Z W→W.cell? ⟨w.heap.size,0,none⟩=some (.slice s1 n1 e1)∧W.cell? ⟨w.heap.size,1,none⟩=some (.slice s2 n2 e2)∧W.cell? ⟨w.heap.size,2,none⟩=some (.slice s3 n3 e3) from fun W kk=>by
  have h:=Vd.out.kept kk;exact⟨h.at_ 0 _ rfl,h.at_ 1 _ rfl,h.at_ 2 _ rfl⟩)
 clear hs hl hkz;have HM:=lH (show Y2 s name=jaZ ((zb s name).cap.map fun a=>zu s name a.1) from rfl);go_enter Tryz.func63,Tryz.ntmps63;go_upto_region 1 with fail
 try rw[hZ]
 clear hZ;have J:=lH (Kept.drew Z);refine wp_region_held_drew (S:=fun W=>W.cell? ⟨w.heap.size,0,none⟩=some (.slice s1 n1 e1)∧W.cell? ⟨w.heap.size,1,none⟩=some (.slice s2 n2 e2)∧W.cell? ⟨w.heap.size,2,none⟩=some (.slice s3 n3 e3)) (by kernel_rfl) (HF.out _ J.out) (fun hHeld=>?_);obtain⟨wd,hwd⟩:∃W,Z.drew=W:=⟨_,rfl⟩
 rw[hwd] at J hHeld;try rw[hwd]
 clear hwd;refine tkI 0 ?_;refine tkI 1 ?_;refine tkI 3 ?_;refine tkI 4 ?_;try simp only[nP]
 refine rd1 2 fun K9 Ky=>?_;go_simp;refine(jcn s1 s2 s3 n1 e1 n2 e2 n3 e3 s name _ (HS.out.kept J.out) HL.out).mono ?_;rintro e w1 ⟨vu,rfl,hu,kk⟩;have HU:=lH hu;have J:=lH (J.out.trans kk);clear kk hu;refine Ky.out _ _ (HF.out _ J.out) (fun _=>?_);clear Ky K9;try simp only[nP]
 refine rd1 5 fun K9 Ky=>?_;go_simp;refine(YY s1 s2 s3 n1 e1 n2 e2 n3 e3 s name _ (HS.out.kept J.out) HL.out).mono ?_;rintro e w2 ⟨b1,k1,d1,b2,k2,d2,b3,k3,d3,rfl,hn,kk⟩;have HU:=lH (HU.out.kept kk);have HC:=lH hn.cap;have J:=lH (J.out.trans kk);clear kk hn;unfold zw;refine Ky.out _ _ (HF.out _ J.out) (fun _=>?_);clear Ky K9;try simp only[nP]
 have hfd:=fun W=>jgH (zb s name).name (.slice b1 k1 d1) (.slice b2 k2 d2) (.slice b3 k3 d3) (zb s name).cordon W;refine tkI 6 ?_;refine tkI 7 ?_;refine tkI 8 ?_;try simp only[nP]
 refine wpAnyH_done (by kernel_rfl) ?_ _;clear hfd;have Rt:=(jan HL.out name).cap;have K:=lH (K.out.trans J.out);clear J HF Vd HS HL;have KW:=lH (Kept.refl w2);obtain⟨cap,hcap⟩:∃q,(zb s name).cap=q:=⟨_,rfl⟩
 have TI:=lH (show ∀x,zu s name x=jcP (Vec.jy (zy s name).2 x) (Vec.jy cap x) from fun x=>by unfold zu;rw[hcap]);rw[hcap] at HC HM Rt;clear hcap;obtain⟨aC,cC,eC,-,-,hCA⟩:=HC.out;injection eC with e4 e5 e6;obtain rfl:=e4;obtain rfl:=e6;have TX:=lH hCA;obtain⟨n9,hn9⟩:∃q,cap.length=q:=⟨_,rfl⟩
 rw[hn9] at TX Rt e5;obtain rfl:=e5;have UB:=lH hn9;clear hCA hn9;go_wp2;go_loopw [7,19] (fun v i wr=>∃k:Nat,k≤k1∧i=.int .i64 k∧∃la:List Nat,la.map nrm=(cap.take k).map (fun a=>zu s name a.1)∧Own Z3 54 wr w2.heap.size v la∧Kept w2 wr) (fun _ i _=>k1-(intOf i).toNat)
 case atStart=>exact⟨0,Nat.zero_le _,rfl,[],rfl,Own.nil _ _ _,Kept.refl _⟩
 case round =>
  obtain⟨k,hk,rfl,la,hla,ho,hK⟩:=hrel;have HX:=lH hla;have HO:=lH ho;have HK:=lH hK;obtain⟨m,hm⟩:∃m,la.length=m:=⟨_,rfl⟩
  have hmk:m≤k:=by
   have:=congrArg List.length hla;simp only[List.length_map,List.length_take] at this;omega
  have HT:=lH hm;have hbase:w2.heap.size≤wr.heap.size:=hK.size;by_cases hlt:k<k1
  · obtain⟨b,off,rfl⟩:=TX.out.form.resolve_left (by omega);obtain⟨-,u0,u1⟩:=(TX.out.kept hK).cells hlt;have Ut:=lH (jcq (s:=s) (x:=name) (l:=cap) (k:=k) (by have:=UB.out;omega));obtain⟨xn,hxn⟩:∃x,Vec.nm cap k=x:=⟨_,rfl⟩
    obtain⟨qn,hqn⟩:∃x,Vec.qn cap k=x:=⟨_,rfl⟩
    rw[hxn] at u0 Ut;rw[hqn] at u1;have hkk:(k:Int)<(k1:Int):=by omega
    have hk0:¬(k:Int)<0:=by omega
    obtain⟨wx,hwx⟩:∃W,wr.alloc (.cells #[.string xn,.int .i64 qn] 128)=W:=⟨_,rfl⟩
    have hkx:Kept wr wx:=by rw[←hwx];exact ja _ _
    have V3:=lH (jd wr (.string xn) [.int .i64 qn] 128 wx (by rw[hwx];exact Kept.refl _));obtain⟨bq,hbq⟩:∃z,wr.heap.size=z:=⟨_,rfl⟩
    rw[hbq] at V3;have TH:=lH (jbS vu (.slice (some ⟨b,off,none⟩) k1 d1) (zy s name).2 cap xn wx (HU.out.kept (hK.trans hkx)) (HC.out.kept (hK.trans hkx)));rw[←TI.out] at TH;have KX:=lH hkx;go_upto_region 6 with fail
    try rw[hwx]
    try rw[hbq]
    clear hwx hbq hkx hk0 hkk hla ho hm hK hxn hqn u0 u1;have t0:=V3.out.at_ 0 _ rfl;go_wp2_with fail
    refine TH.out.mono ?_;rintro e w3 ⟨r,rfl,hr,hrt,kk⟩;have HV:=lH (show (la++[r]).map nrm=(cap.take (k+1)).map (fun a=>zu s name a.1) by rw[Ut.out,List.map_append,HX.out];simp[hr]);have RU:=lH hrt;have KW:=lH (KX.out.trans kk);clear kk TH t0 hr hrt;have Vy:=lH (show w3.ownsRow w2.heap.size 54 1 u7 m (jb Z3 la) by have:=(HO.out.kept KW.out).1;rw[HT.out] at this;exact this);have hs1:wr.heap.size≤w3.heap.size:=Below.size KW.out;go_wp2_with (at_builtin;refine wpList_append_lies _ rfl _ _ _ rfl w2.heap.size 54 i0 _ 1 8 Tryz.underlying125 hi hz0 hz1 hz2' rfl (by decide) u7 m (jb Z3 la) rfl (Vy.out.alloc _) ⟨w3.heap.size,0,none⟩ 1 1 (Z3.cs r) rfl rfl (World.news_of_block (cs:=#[.float .f64 r]) (t:=54) (fr:=(0,0)) (heap_alloc_new w3 _)) (jcS r) (by decide) (by unfold maxLen;omega) (by omega) (by simp;omega) (w3.heap.size+1) (by simp) ?_;intro gg cap1 w4 hown1 hgrow hat hlt1)
    have VU:=lH ((show Below w2.heap.size w2 _ from HK.out.trans (KW.out.trans (ja w3 _))).grown hgrow (by simp;omega) (fun j hj=>(Vy.out.lt j hj).1));go_wp2;go_roundw
    case rel=>exact⟨k+1,by omega,by go_num,la++[r],HV.out,Own.snoc hown1 (by rw[HT.out]) HO.out.2 RU.out,VU.out⟩
    case measure=>simp[intOf];omega
  · have hge:¬(k:Int)<(k1:Int):=by omega
    have HE:=lH (show la.map nrm=cap.map (fun a=>zu s name a.1) by rw[hla,List.take_of_length_le (by have:=UB.out;omega)]);obtain⟨aL,cL,rfl,-,-,hrow⟩:=ho.at_;have Ta:=lH (jjS aL la.length cL la wr (jec hrow));rw[hm] at Ta;try rw[hm]
    clear hla ho hm hK hrow;go_wp2_with fail
    refine Ta.out.mono ?_;rintro e w5 ⟨r,rfl,hr,hrt,kk⟩;have HR:=lH (show nrm r=Y2 s name by rw[hr,jc1,HE.out,HM.out]);have K:=lH (K.out.trans (HK.out.trans kk));clear kk hr Ta;go_wp2;go_ret;exact Y9 HR.out hrt K.out
theorem jjK (s1 s2 s3:Option Addr) (n1 e1 n2 e2 n3 e3:Nat) (s:Clu) (name:ByteArray) (w:World) (hs:jA w (zv (.slice s1 n1 e1) (.slice s2 n2 e2) (.slice s3 n3 e3)) s) (hl:jH s):Calls Tryz.prog 65 #[.agg #[.slice s1 n1 e1,.slice s2 n2 e2,.slice s3 n3 e3],.string name] w (qv (J5 s name) w):=by
 obtain⟨Z,hZ⟩:∃Z,(w.alloc (.cells #[.slice s1 n1 e1,.slice s2 n2 e2,.slice s3 n3 e3] 26)).alloc (.cells #[.slice none 0 0,.slice none 0 0,.slice none 0 0] 26)=Z:=⟨_,rfl⟩
 have hkz:Kept w Z:=by rw[←hZ];exact jm _ _ _
 have Vd:=lH (jd w (.slice s1 n1 e1) [.slice s2 n2 e2,.slice s3 n3 e3] 26 Z (by rw[←hZ];exact ja _ _));have hq2:jf (w.heap.size+1) [.slice none 0 0,.slice none 0 0,.slice none 0 0] Z:=by
  have dd:=jd (w.alloc (.cells #[.slice s1 n1 e1,.slice s2 n2 e2,.slice s3 n3 e3] 26)) (.slice none 0 0) [.slice none 0 0,.slice none 0 0] 26 Z (by rw[hZ];exact Kept.refl _);rw[World.size_alloc] at dd;exact dd
 have hh2:Z.heap[w.heap.size+1]?=some (.cells #[.slice none 0 0,.slice none 0 0,.slice none 0 0] 26):=by
  have:=World.alloc_heap_new (w.alloc (.cells #[.slice s1 n1 e1,.slice s2 n2 e2,.slice s3 n3 e3] 26)) (.cells #[.slice none 0 0,.slice none 0 0,.slice none 0 0] 26);rw[World.size_alloc,hZ] at this;exact this
 have HQ:=lH hq2;have HH:=lH hh2;have Tq:=lH hq2.lt;have HS:=lH (hs.kept hkz);have Ve:=lH hkz;have HL:=lH hl;clear hs hl hkz hq2 hh2;have HF:=lH (show ∀W,jf w.heap.size [.slice s1 n1 e1,.slice s2 n2 e2,.slice s3 n3 e3] W→W.cell? ⟨w.heap.size,0,none⟩=some (.slice s1 n1 e1)∧W.cell? ⟨w.heap.size,1,none⟩=some (.slice s2 n2 e2)∧W.cell? ⟨w.heap.size,2,none⟩=some (.slice s3 n3 e3) from fun W h=>⟨h.at_ 0 _ rfl,h.at_ 1 _ rfl,h.at_ 2 _ rfl⟩);go_enter Tryz.func65,Tryz.ntmps65;go_upto_region 1 with fail
 try rw[hZ]
 clear hZ;have J:=lH (Kept.drew Z);refine wp_region_held_drew (S:=fun W=>W.cell? ⟨w.heap.size,0,none⟩=some (.slice s1 n1 e1)∧W.cell? ⟨w.heap.size,1,none⟩=some (.slice s2 n2 e2)∧W.cell? ⟨w.heap.size,2,none⟩=some (.slice s3 n3 e3)) (by kernel_rfl) (HF.out _ (Vd.out.kept J.out)) (fun hHeld=>?_);obtain⟨wd,hwd⟩:∃W,Z.drew=W:=⟨_,rfl⟩
 rw[hwd] at J hHeld;try rw[hwd]
 clear hwd;refine tkI 0 ?_;refine tkI 1 ?_;refine tkI 4 ?_;refine tkI 5 ?_;try simp only[nP]
 refine rd1 2 fun K9 Ky=>?_;go_simp;refine(YY s1 s2 s3 n1 e1 n2 e2 n3 e3 s name _ (HS.out.kept J.out) HL.out).mono ?_;rintro e w2 ⟨b1,k1,d1,b2,k2,d2,b3,k3,d3,rfl,hn,kk⟩;have HN:=lH hn;have J:=lH (J.out.trans kk);clear kk hn;unfold zw;refine Ky.out _ _ (HF.out _ (Vd.out.kept J.out)) (fun _=>?_);clear Ky K9;try simp only[nP]
 obtain⟨nz,hnz⟩:∃q,zb s name=q:=⟨_,rfl⟩
 rw[hnz] at HN;have No:=lH hnz;try rw[hnz]
 clear hnz;refine rdH (rs:=[3,6]) (h:=coH (fun K9 Ky=>?_) (coH (fun K9 Ky=>?_) AllReadyH.nil))
 · go_simp;refine Ky.out _ _ (HF.out _ (Vd.out.kept (J.out.trans (ja _ _)))) (fun _=>?_);clear Ky K9;try simp only[nP]
   obtain⟨wb,hw⟩:∃W,w2.alloc (.cells #[.string nz.name,.slice b1 k1 d1,.slice b2 k2 d2,.slice b3 k3 d3,.bool nz.cordon] 71)=W:=⟨_,rfl⟩
   have kk:Kept w2 wb:=by rw[←hw];exact ja _ _
   obtain⟨gB,hgB⟩:∃g,w2.heap.size=g:=⟨_,rfl⟩
   have UT:=lH (show jE wb (some ⟨gB,0,none⟩) 1 [nz] from by
    have c:=jd w2 (.string nz.name) [.slice b1 k1 d1,.slice b2 k2 d2,.slice b3 k3 d3,.bool nz.cordon] 71 wb (by rw[hw];exact Kept.refl _);rw[hgB] at c;exact Y7 (lx:=[(nz,(b1,k1,d1),(b2,k2,d2),(b3,k3,d3))]) (Y6 rfl c (fun _ _=>trivial) (by decide:(1:Nat)≤maxLen)) (fun z hz=>by
     obtain rfl:=List.mem_singleton.1 hz;exact HN.out.kept kk))
   have J:=lH (J.out.trans kk);try rw[hw]
   try rw[hgB]
   clear hw kk hgB;have hHeldB:=HF.out _ (Vd.out.kept J.out);refine rd1 6 fun K9 Ky=>?_;go_simp;refine(onR (HS.out.kept J.out) name HL.out).mono ?_;rintro e wo ⟨y,rfl,⟨aP,cP,rfl,hp1,hp2,hp⟩,kk⟩;have TY:=lH (show zr wo (.slice aP (onP name s.pods).length cP) (onP name s.pods) from⟨aP,cP,rfl,hp1,hp2,hp⟩);have J:=lH (J.out.trans kk);have UT:=lH (UT.out.kept kk);clear kk hp hp1 hp2;refine Ky.out _ _ (HF.out _ (Vd.out.kept J.out)) (fun _=>?_);clear Ky K9;try simp only[nP]
   obtain⟨lP,hlP⟩:∃q,(onP name s.pods).length=q:=⟨_,rfl⟩
   rw[hlP] at TY;try rw[hlP]
   clear hlP;refine tkI 7 ?_;try simp only[nP]
   have VP:=lH (HQ.out.kept J.out);have NM:=lH ((J.out.block _ Tq.out).trans HH.out);have z0:=VP.out.at_ 0 _ rfl;have z1:=VP.out.at_ 1 _ rfl;have z2:=VP.out.at_ 2 _ rfl;have f0:=VP.out.free 0;have f1:=VP.out.free 1;have f2:=VP.out.free 2;have PP:=lH (jW (vs:=[.slice (some ⟨gB,0,none⟩) 1 1,.slice aP lP cP,.slice none 0 0]) VP.out rfl);refine rd1 8 fun K9 Ky=>?_;go_simp;obtain⟨WE,hWE⟩:∃W,wo.setCells (w.heap.size+1) 0 [.slice (some ⟨gB,0,none⟩) 1 1,.slice aP lP cP,.slice none 0 0]=W:=⟨_,rfl⟩
   have hWE2:(((wo.setCell ⟨w.heap.size+1,0,none⟩ (.slice (some ⟨gB,0,none⟩) 1 1)).setCell ⟨w.heap.size+1,1,none⟩ (.slice aP lP cP)).setCell ⟨w.heap.size+1,2,none⟩ (.slice none 0 0))=WE:=hWE;rw[hWE] at PP;try rw[hWE2]
   have RE:=lH (show jA WE (.agg #[.slice (some ⟨gB,0,none⟩) 1 1,.slice aP lP cP,.slice none 0 0]) (J5 s name) from zj (w:=wo) (N:=w.heap.size+1) PP.out.size PP.out.far (zk NM.out) ⟨_,_,_,rfl,⟨⟨_,_,rfl,(by decide:(1:Nat)≤1),(by decide:(1:Nat)≤maxLen),by unfold J5;rw[No.out];exact UT.out⟩,TY.out,⟨_,_,rfl,Nat.le_refl _,(by decide:(0:Nat)≤maxLen),jaC _⟩⟩⟩);have JE:=lH (show Kept w WE by rw[←hWE];exact jo _ _ _ _ _ _ (Nat.le_succ _) (Ve.out.trans J.out));have NO:=lH (show jf w.heap.size [.slice s1 n1 e1,.slice s2 n2 e2,.slice s3 n3 e3] WE from(Vd.out.kept J.out).block (PP.out.far _ (by omega)));clear hWE hWE2 z0 f0 z1 f1 z2 f2;refine Ky.out _ _ (HF.out _ NO.out) (fun _=>?_);clear Ky K9;try simp only[nP]
   refine wpAnyH_done (by kernel_rfl) ?_ _;have d0:=PP.out.cells.at_ 0 _ rfl;have d1:=PP.out.cells.at_ 1 _ rfl;have d2:=PP.out.cells.at_ 2 _ rfl;go_wp2;refine bodyPost_ret (by simp[results,Tryz.results65,go_sem,d0,d1,d2];try rfl) rfl ?_;exact⟨_,rfl,RE.out,JE.out⟩
 · go_simp;refine(onR (HS.out.kept J.out) name HL.out).mono ?_;rintro e wo ⟨y,rfl,⟨aP,cP,rfl,hp1,hp2,hp⟩,kk⟩;have TY:=lH (show zr wo (.slice aP (onP name s.pods).length cP) (onP name s.pods) from⟨aP,cP,rfl,hp1,hp2,hp⟩);have J:=lH (J.out.trans kk);have HN:=lH (HN.out.kept kk);clear kk hp hp1 hp2;refine Ky.out _ _ (HF.out _ (Vd.out.kept J.out)) (fun _=>?_);clear Ky K9;try simp only[nP]
   refine rd1 3 fun K9 Ky=>?_;go_simp;refine Ky.out _ _ (HF.out _ (Vd.out.kept (J.out.trans (ja _ _)))) (fun _=>?_);clear Ky K9;try simp only[nP]
   obtain⟨wb,hw⟩:∃W,wo.alloc (.cells #[.string nz.name,.slice b1 k1 d1,.slice b2 k2 d2,.slice b3 k3 d3,.bool nz.cordon] 71)=W:=⟨_,rfl⟩
   have kk:Kept wo wb:=by rw[←hw];exact ja _ _
   obtain⟨gB,hgB⟩:∃g,wo.heap.size=g:=⟨_,rfl⟩
   have UT:=lH (show jE wb (some ⟨gB,0,none⟩) 1 [nz] from by
    have c:=jd wo (.string nz.name) [.slice b1 k1 d1,.slice b2 k2 d2,.slice b3 k3 d3,.bool nz.cordon] 71 wb (by rw[hw];exact Kept.refl _);rw[hgB] at c;exact Y7 (lx:=[(nz,(b1,k1,d1),(b2,k2,d2),(b3,k3,d3))]) (Y6 rfl c (fun _ _=>trivial) (by decide:(1:Nat)≤maxLen)) (fun z hz=>by
     obtain rfl:=List.mem_singleton.1 hz;exact HN.out.kept kk))
   have TY:=lH (TY.out.kept kk);have J:=lH (J.out.trans kk);try rw[hw]
   try rw[hgB]
   clear hw kk hgB;have hHeldB:=HF.out _ (Vd.out.kept J.out);obtain⟨lP,hlP⟩:∃q,(onP name s.pods).length=q:=⟨_,rfl⟩
   rw[hlP] at TY;try rw[hlP]
   clear hlP;refine tkI 7 ?_;try simp only[nP]
   have VP:=lH (HQ.out.kept J.out);have NM:=lH ((J.out.block _ Tq.out).trans HH.out);have z0:=VP.out.at_ 0 _ rfl;have z1:=VP.out.at_ 1 _ rfl;have z2:=VP.out.at_ 2 _ rfl;have f0:=VP.out.free 0;have f1:=VP.out.free 1;have f2:=VP.out.free 2;have PP:=lH (jW (vs:=[.slice (some ⟨gB,0,none⟩) 1 1,.slice aP lP cP,.slice none 0 0]) VP.out rfl);refine rd1 8 fun K9 Ky=>?_;go_simp;obtain⟨WE,hWE⟩:∃W,wb.setCells (w.heap.size+1) 0 [.slice (some ⟨gB,0,none⟩) 1 1,.slice aP lP cP,.slice none 0 0]=W:=⟨_,rfl⟩
   have hWE2:(((wb.setCell ⟨w.heap.size+1,0,none⟩ (.slice (some ⟨gB,0,none⟩) 1 1)).setCell ⟨w.heap.size+1,1,none⟩ (.slice aP lP cP)).setCell ⟨w.heap.size+1,2,none⟩ (.slice none 0 0))=WE:=hWE;rw[hWE] at PP;try rw[hWE2]
   have RE:=lH (show jA WE (.agg #[.slice (some ⟨gB,0,none⟩) 1 1,.slice aP lP cP,.slice none 0 0]) (J5 s name) from zj (w:=wb) (N:=w.heap.size+1) PP.out.size PP.out.far (zk NM.out) ⟨_,_,_,rfl,⟨⟨_,_,rfl,(by decide:(1:Nat)≤1),(by decide:(1:Nat)≤maxLen),by unfold J5;rw[No.out];exact UT.out⟩,TY.out,⟨_,_,rfl,Nat.le_refl _,(by decide:(0:Nat)≤maxLen),jaC _⟩⟩⟩);have JE:=lH (show Kept w WE by rw[←hWE];exact jo _ _ _ _ _ _ (Nat.le_succ _) (Ve.out.trans J.out));have NO:=lH (show jf w.heap.size [.slice s1 n1 e1,.slice s2 n2 e2,.slice s3 n3 e3] WE from(Vd.out.kept J.out).block (PP.out.far _ (by omega)));clear hWE hWE2 z0 f0 z1 f1 z2 f2;refine Ky.out _ _ (HF.out _ NO.out) (fun _=>?_);clear Ky K9;try simp only[nP]
   refine wpAnyH_done (by kernel_rfl) ?_ _;have d0:=PP.out.cells.at_ 0 _ rfl;have d1:=PP.out.cells.at_ 1 _ rfl;have d2:=PP.out.cells.at_ 2 _ rfl;go_wp2;refine bodyPost_ret (by simp[results,Tryz.results65,go_sem,d0,d1,d2];try rfl) rfl ?_;exact⟨_,rfl,RE.out,JE.out⟩
end Go.Proofs.YtmlgobiifebjkabGreat
