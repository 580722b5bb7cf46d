/- What serves all packages,and package by package the contracts of the functions that the law calls. -/
import Derived.Test.YtgfoenfaohhjcaaG0
import Derived.Test.YtgfoenfaohhjcaaG1
import Derived.Test.YtgfoenfaohhjcaaG2
import Derived.Test.YtgfoenfaohhjcaaG3
import Derived.Test.YtgfoenfaohhjcaaG4
import Derived.Shelf.Spec.SlicesInsert
set_option linter.unusedVariables false
set_option maxRecDepth 100000
set_option maxHeartbeats 25600000
namespace Go.Proofs.Ytgfoenfaohhjcaa
open Go.RowKit
theorem YI (a:Option Addr) (len cap:Nat) (l:List Pd) (w:World) (hr:jP w a len l) :
 Calls Try.prog 57 #[.slice a len cap] w (Say (.int .i64 (jM l)) w):=by
 have hl:=hr.1;have hm:=hr.2.1;unfold maxLen at hm;by_cases h32:128<len
 · have HV:=lH (show jM l=4 by unfold jM;rw[if_pos (by omega)]);clear hr hl;go_enter Try.func57,Try.ntmps57;go_wp2;go_ret;exact⟨jb HV.out.symm,Kept.refl _⟩
 · have HV:=lH (show jM l=jS none l by unfold jM;rw[if_neg (by omega)]);have h32':len≤128:=by omega
   by_cases h0:len=0
   · subst h0;have HE:=lH (show jM l=0 by rw[HV.out,List.eq_nil_of_length_eq_zero hl];rfl);clear hr hl h32;go_enter Try.func57,Try.ntmps57;go_wp2;refine wp_loop_rounds 1 ?_;rw[rounds_succ];go_wp2;go_ret;exact⟨jb HE.out.symm,Kept.refl _⟩
   · obtain⟨b,off,rfl⟩:=hr.form.resolve_left h0;have HR:=lH hr;have HL:=lH hl;clear hr hl h0 h32;go_enter Try.func57,Try.ntmps57;go_wp2;go_loopw [3] (fun i wr=>∃k:Nat,k≤len∧i=.int .i64 k∧jS (Jm l k) (l.drop k)=jS none l∧Kept w wr) (fun i _=>len-(intOf i).toNat)
     case atStart=>exact⟨0,Nat.zero_le _,rfl,rfl,Kept.refl _⟩
     case round =>
      obtain⟨k,hk,rfl,hrest,hK⟩:=hrel;have HS:=lH (HV.out.trans hrest.symm);have HT:=lH hrest;have HK:=lH hK;by_cases hlt:k<len
      · obtain⟨n,a1,m1,c1,a2,m2,c2,a3,m3,c3,a4,m4,c4,hn,hd,hb,p0,p1,p2,p3,p4,p5,p6,p7,p8,p9,p10,hat⟩:=(HR.out.kept hK).at_ hlt;have HAT:=lH hat;have HD:=lH hd;have HNX:=lH (qD hn);have HCK:=lH (fun W (kk:Kept wr W)=>qA n (.slice a1 m1 c1) (.slice a2 m2 c2) (.slice a3 m3 c3) (.slice a4 m4 c4) W (HAT.out.kept kk));unfold j2 at HCK;obtain⟨ck,hck⟩:∃x,Jo n=x:=⟨_,rfl⟩
        have HCN:=lH hck;rw[hck] at HCK;have hkk:(k:Int)<(len:Int):=by omega
        clear hrest hK hat hd hck;by_cases z1:ck=0
        · subst z1;by_cases h0:k=0
          · have hd0:decide (0<k)=false:=by subst h0;decide
            have HP:=lH (qm (l:=l) h0 n.name);clear h0;go_wp2_with fail
            refine(HCK.out _ (Kept.refl _)).mono ?_;rintro e w1 ⟨rfl,kk⟩;have KW:=lH kk;clear kk;go_wp2;go_quiet (fail)
            go_wp2;go_roundw
            case rel=>exact⟨k+1,by omega,by go_num,(show jS (Jm l (k+1)) (l.drop (k+1))=jS none l by rw[←HT.out,HD.out,Xe HCN.out HP.out,HNX.out]),HK.out.trans (KW.out.trans (Kept.drewN _ _))⟩
            case measure=>simp[intOf];omega
          · have hd0:decide (0<k)=true:=by simp;omega
            have g1:0≤(k:Int)-1:=by omega
            have g2:(k:Int)-1<(len:Int):=by omega
            have g3:((k:Int)-1).toNat=k-1:=by omega
            obtain⟨n9,_,_,_,_,_,_,_,_,_,_,_,_,hn9,-,hb9,o0,-⟩:=(HR.out.kept HK.out).at_ (show k-1<len by omega);have HP:=lH (qd (l:=l) h0 hn9 n.name);clear h0 hn9;by_cases n3:leS n.name n9.name=true
            · have n3':(Op.bytesLess n.name.toList n9.name.toList||n.name.toList==n9.name.toList)=true:=n3;have N3:=lH n3;clear n3;go_wp2_with fail
              refine(HCK.out _ (Kept.refl _)).mono ?_;rintro e w1 ⟨rfl,kk⟩;have KW:=lH kk;have o1:=cell_later kk o0;have p99:=cell_later kk p0;clear kk;go_wp2;go_quiet (fail)
              go_wp2;go_ret;exact⟨jb (show (13:Int)=jM l by rw[HS.out,HD.out,jav HCN.out (HP.out.trans N3.out)]),HK.out.trans (KW.out.trans (Kept.drewN _ _))⟩
            · have n3:leS n.name n9.name=false:=by simpa using n3
              have n3':(Op.bytesLess n.name.toList n9.name.toList||n.name.toList==n9.name.toList)=false:=n3;have N3:=lH n3;clear n3;go_wp2_with fail
              refine(HCK.out _ (Kept.refl _)).mono ?_;rintro e w1 ⟨rfl,kk⟩;have KW:=lH kk;have o1:=cell_later kk o0;have p99:=cell_later kk p0;clear kk;go_wp2;go_quiet (fail)
              go_wp2;go_roundw
              case rel=>exact⟨k+1,by omega,by go_num,(show jS (Jm l (k+1)) (l.drop (k+1))=jS none l by rw[←HT.out,HD.out,Xe HCN.out (HP.out.trans N3.out),HNX.out]),HK.out.trans (KW.out.trans (Kept.drewN _ _))⟩
              case measure=>simp[intOf];omega
        · have z1':(ck != 0)=true:=by simpa using z1
          have HB:=lH (show jM l=ck by rw[HS.out,HD.out,jb8 (by rw[HCN.out];exact z1),HCN.out]);clear z1;go_wp2_with fail
          refine(HCK.out _ (Kept.refl _)).mono ?_;rintro e w1 ⟨rfl,kk⟩;have KW:=lH kk;clear kk;go_wp2;go_ret;exact⟨jb HB.out.symm,HK.out.trans KW.out⟩
      · have HE:=lH (show jM l=0 by rw[HS.out,List.drop_of_length_le (by rw[HL.out];omega)];rfl);clear hrest hK;go_wp2;go_ret;exact⟨jb HE.out.symm,HK.out⟩
theorem X9 {v:Value} {l:List Pd} {c:Int} {w:World} (h:zu w v l) (hc:jM l=c):Calls Try.prog 57 #[v] w (Say (.int .i64 c) w):=by
 subst hc;obtain⟨a,cap,rfl,_,_,hr⟩:=h;exact YI a _ cap l w hr
theorem qh (n:Bd) (v1:Value) (w:World) (h:jV w v1 n) :
 Calls Try.prog 74 #[ZI n v1] w (Say (.int .i64 (zl n)) w):=by
 obtain⟨x0,l3,m⟩:=n;obtain⟨W0,hW0⟩:∃Z,w.alloc (.cells #[.string x0,v1,.int .i64 m] 133)=Z:=⟨_,rfl⟩
 have hk0:Kept w W0:=by rw[←hW0];exact ja _ _
 have HC:=lH (show ∀W,Kept W0 W→W.cell? ⟨w.heap.size,0,none⟩=some (.string x0)∧W.cell? ⟨w.heap.size,1,none⟩=some (v1)∧W.cell? ⟨w.heap.size,2,none⟩=some (.int .i64 m) from fun W k=>by
  have:=jf w (.string x0) [v1,.int .i64 m] 133 W (by rw[hW0];exact k);exact⟨this.at_ 0 _ rfl,this.at_ 1 _ rfl,this.at_ 2 _ rfl⟩)
 obtain⟨y3,hy3⟩:∃y,JO l3=y:=⟨_,rfl⟩
 obtain⟨r0,hr0⟩:∃r,isName x0=r:=⟨_,rfl⟩
 have E3:=lH (ZD (h.sel.kept hk0) hy3);have N0:=lH (fun W=>Vec.Jl (w:=W) h.name hr0);have HV:=lH (show zl ⟨x0,l3,m⟩=orL [if r0=true then 0 else 3,y3,zJ m] by rw[←hy3,←hr0];rfl);have HK0:=lH hk0;clear h hk0 hy3 hr0;obtain⟨c0,c1,c2⟩:=HC.out _ (Kept.refl _);unfold ZI;dsimp only
 cases r0 with
 | false =>
  have HW:=lH (show zl ⟨x0,l3,m⟩=3 by rw[HV.out];rfl);go_enter Try.func74,Try.ntmps74;go_wp2_with fail
  try rw[hW0]
  refine(N0.out _).mono ?_;rintro e w1 ⟨rfl,rfl⟩;go_wp2;go_ret;exact⟨jb HW.out.symm,HK0.out⟩
 | true =>
  by_cases z:y3=0
  · subst z;by_cases z1:m<0
    · have HW:=lH (show zl ⟨x0,l3,m⟩=1 by rw[HV.out,show zJ m=1 by unfold zJ;rw[if_pos (.inl z1)]];rfl);go_enter Try.func74,Try.ntmps74;go_wp2_with fail
      try rw[hW0]
      refine(N0.out _).mono ?_;rintro e w1 ⟨rfl,rfl⟩;go_wp2_with fail
      refine E3.out.mono ?_;rintro e w2 ⟨rfl,k⟩;obtain⟨d0,d1,d2⟩:=HC.out _ k;go_wp2;go_ret;exact⟨jb HW.out.symm,HK0.out.trans k⟩
    · by_cases z2:128<m
      · have HW:=lH (show zl ⟨x0,l3,m⟩=1 by rw[HV.out,show zJ m=1 by unfold zJ;rw[if_pos (.inr z2)]];rfl);have z1':0≤m:=by omega
        clear z1;go_enter Try.func74,Try.ntmps74;go_wp2_with fail
        try rw[hW0]
        refine(N0.out _).mono ?_;rintro e w1 ⟨rfl,rfl⟩;go_wp2_with fail
        refine E3.out.mono ?_;rintro e w2 ⟨rfl,k⟩;obtain⟨d0,d1,d2⟩:=HC.out _ k;go_wp2;go_ret;exact⟨jb HW.out.symm,HK0.out.trans k⟩
      · have HW:=lH (show zl ⟨x0,l3,m⟩=0 by rw[HV.out,show zJ m=0 by unfold zJ;rw[if_neg (by omega)]];rfl);have z1':0≤m:=by omega
        have z2':m≤128:=by omega
        clear z1 z2;go_enter Try.func74,Try.ntmps74;go_wp2_with fail
        try rw[hW0]
        refine(N0.out _).mono ?_;rintro e w1 ⟨rfl,rfl⟩;go_wp2_with fail
        refine E3.out.mono ?_;rintro e w2 ⟨rfl,k⟩;obtain⟨d0,d1,d2⟩:=HC.out _ k;go_wp2;go_ret;exact⟨jb HW.out.symm,HK0.out.trans k⟩
  · have HW:=lH (show zl ⟨x0,l3,m⟩=y3 by
     rw[HV.out];show (if (0:Int)≠0 then 0 else if y3≠0 then y3 else _)=y3;rw[if_neg (by decide),if_pos z])
    have z':(y3 != 0)=true:=by simpa using z
    clear z;go_enter Try.func74,Try.ntmps74;go_wp2_with fail
    try rw[hW0]
    refine(N0.out _).mono ?_;rintro e w1 ⟨rfl,rfl⟩;go_wp2_with fail
    refine E3.out.mono ?_;rintro e w2 ⟨rfl,k⟩;go_wp2;go_ret;exact⟨jb HW.out.symm,HK0.out.trans k⟩
theorem YH (a:Option Addr) (len cap:Nat) (l:List Bd) (w:World) (hr:zj w a len l) :
 Calls Try.prog 58 #[.slice a len cap] w (Say (.int .i64 (jz l)) w):=by
 have hl:=hr.1;have hm:=hr.2.1;unfold maxLen at hm;by_cases h32:8<len
 · have HV:=lH (show jz l=4 by unfold jz;rw[if_pos (by omega)]);clear hr hl;go_enter Try.func58,Try.ntmps58;go_wp2;go_ret;exact⟨jb HV.out.symm,Kept.refl _⟩
 · have HV:=lH (show jz l=jH none l by unfold jz;rw[if_neg (by omega)]);have h32':len≤8:=by omega
   by_cases h0:len=0
   · subst h0;have HE:=lH (show jz l=0 by rw[HV.out,List.eq_nil_of_length_eq_zero hl];rfl);clear hr hl h32;go_enter Try.func58,Try.ntmps58;go_wp2;refine wp_loop_rounds 1 ?_;rw[rounds_succ];go_wp2;go_ret;exact⟨jb HE.out.symm,Kept.refl _⟩
   · obtain⟨b,off,rfl⟩:=hr.form.resolve_left h0;have HR:=lH hr;have HL:=lH hl;clear hr hl h0 h32;go_enter Try.func58,Try.ntmps58;go_wp2;go_loopw [3] (fun i wr=>∃k:Nat,k≤len∧i=.int .i64 k∧jH (Jq l k) (l.drop k)=jH none l∧Kept w wr) (fun i _=>len-(intOf i).toNat)
     case atStart=>exact⟨0,Nat.zero_le _,rfl,rfl,Kept.refl _⟩
     case round =>
      obtain⟨k,hk,rfl,hrest,hK⟩:=hrel;have HS:=lH (HV.out.trans hrest.symm);have HT:=lH hrest;have HK:=lH hK;by_cases hlt:k<len
      · obtain⟨n,a1,m1,c1,hn,hd,hb,p0,p1,p2,hat⟩:=(HR.out.kept hK).at_ hlt;have HAT:=lH hat;have HD:=lH hd;have HNX:=lH (qE hn);have HCK:=lH (fun W (kk:Kept wr W)=>qh n (.slice a1 m1 c1) W (HAT.out.kept kk));unfold ZI at HCK;obtain⟨ck,hck⟩:∃x,zl n=x:=⟨_,rfl⟩
        have HCN:=lH hck;rw[hck] at HCK;have hkk:(k:Int)<(len:Int):=by omega
        clear hrest hK hat hd hck;by_cases z1:ck=0
        · subst z1;by_cases h0:k=0
          · have hd0:decide (0<k)=false:=by subst h0;decide
            have HP:=lH (qB (l:=l) h0 n.name);clear h0;go_wp2_with fail
            refine(HCK.out _ (Kept.refl _)).mono ?_;rintro e w1 ⟨rfl,kk⟩;have KW:=lH kk;clear kk;go_wp2;go_quiet (fail)
            go_wp2;go_roundw
            case rel=>exact⟨k+1,by omega,by go_num,(show jH (Jq l (k+1)) (l.drop (k+1))=jH none l by rw[←HT.out,HD.out,Ym HCN.out HP.out,HNX.out]),HK.out.trans (KW.out.trans (Kept.drewN _ _))⟩
            case measure=>simp[intOf];omega
          · have hd0:decide (0<k)=true:=by simp;omega
            have g1:0≤(k:Int)-1:=by omega
            have g2:(k:Int)-1<(len:Int):=by omega
            have g3:((k:Int)-1).toNat=k-1:=by omega
            obtain⟨n9,_,_,_,hn9,-,hb9,o0,-⟩:=(HR.out.kept HK.out).at_ (show k-1<len by omega);have HP:=lH (qC (l:=l) h0 hn9 n.name);clear h0 hn9;by_cases n3:leS n.name n9.name=true
            · have n3':(Op.bytesLess n.name.toList n9.name.toList||n.name.toList==n9.name.toList)=true:=n3;have N3:=lH n3;clear n3;go_wp2_with fail
              refine(HCK.out _ (Kept.refl _)).mono ?_;rintro e w1 ⟨rfl,kk⟩;have KW:=lH kk;have o1:=cell_later kk o0;have p99:=cell_later kk p0;clear kk;go_wp2;go_quiet (fail)
              go_wp2;go_ret;exact⟨jb (show (13:Int)=jz l by rw[HS.out,HD.out,qc HCN.out (HP.out.trans N3.out)]),HK.out.trans (KW.out.trans (Kept.drewN _ _))⟩
            · have n3:leS n.name n9.name=false:=by simpa using n3
              have n3':(Op.bytesLess n.name.toList n9.name.toList||n.name.toList==n9.name.toList)=false:=n3;have N3:=lH n3;clear n3;go_wp2_with fail
              refine(HCK.out _ (Kept.refl _)).mono ?_;rintro e w1 ⟨rfl,kk⟩;have KW:=lH kk;have o1:=cell_later kk o0;have p99:=cell_later kk p0;clear kk;go_wp2;go_quiet (fail)
              go_wp2;go_roundw
              case rel=>exact⟨k+1,by omega,by go_num,(show jH (Jq l (k+1)) (l.drop (k+1))=jH none l by rw[←HT.out,HD.out,Ym HCN.out (HP.out.trans N3.out),HNX.out]),HK.out.trans (KW.out.trans (Kept.drewN _ _))⟩
              case measure=>simp[intOf];omega
        · have z1':(ck != 0)=true:=by simpa using z1
          have HB:=lH (show jz l=ck by rw[HS.out,HD.out,jbl (by rw[HCN.out];exact z1),HCN.out]);clear z1;go_wp2_with fail
          refine(HCK.out _ (Kept.refl _)).mono ?_;rintro e w1 ⟨rfl,kk⟩;have KW:=lH kk;clear kk;go_wp2;go_ret;exact⟨jb HB.out.symm,HK.out.trans KW.out⟩
      · have HE:=lH (show jz l=0 by rw[HS.out,List.drop_of_length_le (by rw[HL.out];omega)];rfl);clear hrest hK;go_wp2;go_ret;exact⟨jb HE.out.symm,HK.out⟩
theorem qv {v:Value} {l:List Bd} {c:Int} {w:World} (h:zp w v l) (hc:jz l=c):Calls Try.prog 58 #[v] w (Say (.int .i64 c) w):=by
 subst hc;obtain⟨a,cap,rfl,_,_,hr⟩:=h;exact YH a _ cap l w hr
theorem jc5 {v v':Value} {l l':Vec.V} {c:Bool} {w:World} (h:Vec.Reads w v l) (h':Vec.Reads w v' l') (e:Vec.jO l' l=c) :
 Calls Try.prog 60 #[v,v'] w (Say (.bool c) w):=by
 subst e;obtain⟨a,cap,rfl,_,_,h3⟩:=h;obtain⟨a',cap',rfl,_,_,h3'⟩:=h';exact Vec.jaJ a a' _ cap _ cap' l l' w h3 h3'
theorem jbN {s:Clu} {n:Nod} (h:n ∈ s.nodes):JC s n.name=jZ n.name s.pods []:=by
 cases hf:jX s.nodes n.name with
 | some n'=>exact YY hf
 | none =>
  unfold jX at hf;have:=List.find?_eq_none.1 hf n h;exact absurd (XW n.name) (by simpa using this)
theorem jbq {v:Value} {s:Clu} {c:Int} {w:World} (h:zU w v s) (hcc:zQ s=c):Calls Try.prog 28 #[v] w (Say (.int .i64 c) w):=by
 subst hcc;have h0:=h;obtain⟨v1,v2,v3,rfl,⟨a,cap,rfl,l1,m1,h1⟩,⟨b,cp,rfl,l2,m2,h2⟩,⟨d,cb,rfl,l3,m3,h3⟩⟩:=h;obtain⟨nl,pl,bl⟩:=s;dsimp only at *;obtain⟨len,hlen⟩:∃q,nl.length=q:=⟨_,rfl⟩
 obtain⟨m,hm⟩:∃q,pl.length=q:=⟨_,rfl⟩
 obtain⟨n,hn⟩:∃q,bl.length=q:=⟨_,rfl⟩
 rw[hlen] at h1 l1;rw[hm] at h2 l2;rw[hn] at h3 l3;try rw[hlen]
 try rw[hm]
 try rw[hn]
 clear hn;rw[hlen,hm] at h0;have hn3:bl.length=n:=h3.1;rw[hn3] at h0;obtain⟨Z,hZ⟩:∃Z,w.alloc (.cells #[.slice a len cap,.slice b m cp,.slice d n cb] 51)=Z:=⟨_,rfl⟩
 have hkz:Kept w Z:=by rw[←hZ];exact ja _ _
 have HQ:=lH (show jg w.heap.size [.slice a len cap,.slice b m cp,.slice d n cb] Z from jf w (.slice a len cap) [.slice b m cp,.slice d n cb] 51 Z (by rw[hZ];exact Kept.refl _));have HN:=lH (h1.kept hkz);have HP:=lH (h2.kept hkz);have HC0:=lH (h0.kept hkz);have HNR:=lH (Zk l1 m1 (h1.kept hkz));have HPR:=lH (qK l2 m2 (h2.kept hkz));have HBR:=lH (YK l3 m3 (h3.kept hkz));have HKZ:=lH hkz;have HL1:=lH hlen;have HL2:=lH hm;have hml1:=Nat.le_trans l1 m1;have hml2:=Nat.le_trans l2 m2;unfold maxLen at hml1 hml2;clear h1 h2 h3 h0 l1 l2 l3 m1 m2 m3 hkz hn3;obtain⟨x1,hx1⟩:∃q,jw nl=q:=⟨_,rfl⟩
 have Hx1:=lH hx1;obtain⟨x2,hx2⟩:∃q,jM pl=q:=⟨_,rfl⟩
 have Hx2:=lH hx2;obtain⟨x3,hx3⟩:∃q,jz bl=q:=⟨_,rfl⟩
 have Hx3:=lH hx3;have cq0:=(HQ.out.kept (Kept.refl _)).at_ 0 _ rfl;have cq1:=(HQ.out.kept (Kept.refl _)).at_ 1 _ rfl;have cq2:=(HQ.out.kept (Kept.refl _)).at_ 2 _ rfl;go_enter Try.func28,Try.ntmps28;go_wp2_with fail
 try rw[hZ]
 clear hZ;refine(qX HNR.out hx1).mono ?_;rintro e w1 ⟨rfl,kk⟩;have K:=lH kk;clear kk hx1 cq0 cq1 cq2;have cq0:=(HQ.out.kept K.out).at_ 0 _ rfl;have cq1:=(HQ.out.kept K.out).at_ 1 _ rfl;have cq2:=(HQ.out.kept K.out).at_ 2 _ rfl;by_cases hc:¬x1=0
 · have HX:=lH (Yc (nl:=nl) (pl:=pl) (bl:=bl) (c:=x1) (by unfold or3;rw[Hx1.out,if_pos hc]) hc);have hcn:(x1 != 0)=true:=by simpa using hc
   clear hc;go_wp2;go_ret;exact⟨jb HX.out.symm,HKZ.out.trans K.out⟩
 obtain rfl:x1=0:=Decidable.of_not_not hc;clear hc;go_wp2_with fail
 refine(X9 (HPR.out.kept K.out) hx2).mono ?_;rintro e w2 ⟨rfl,kk⟩;have K:=lH (K.out.trans kk);clear kk hx2 cq0 cq1 cq2;have cq0:=(HQ.out.kept K.out).at_ 0 _ rfl;have cq1:=(HQ.out.kept K.out).at_ 1 _ rfl;have cq2:=(HQ.out.kept K.out).at_ 2 _ rfl;by_cases hc:¬x2=0
 · have HX:=lH (Yc (nl:=nl) (pl:=pl) (bl:=bl) (c:=x2) (by unfold or3;rw[Hx1.out,Hx2.out,if_neg (by decide),if_pos hc]) hc);have hcn:(x2 != 0)=true:=by simpa using hc
   clear hc;go_wp2;go_ret;exact⟨jb HX.out.symm,HKZ.out.trans K.out⟩
 obtain rfl:x2=0:=Decidable.of_not_not hc;clear hc;go_wp2_with fail
 refine(qv (HBR.out.kept K.out) hx3).mono ?_;rintro e w3 ⟨rfl,kk⟩;have K:=lH (K.out.trans kk);clear kk hx3 cq0 cq1 cq2;have cq0:=(HQ.out.kept K.out).at_ 0 _ rfl;have cq1:=(HQ.out.kept K.out).at_ 1 _ rfl;have cq2:=(HQ.out.kept K.out).at_ 2 _ rfl;by_cases hc:¬x3=0
 · have HX:=lH (Yc (nl:=nl) (pl:=pl) (bl:=bl) (c:=x3) (by unfold or3;rw[Hx1.out,Hx2.out,Hx3.out,if_neg (by decide),if_neg (by decide)]) hc);have hcn:(x3 != 0)=true:=by simpa using hc
   clear hc;go_wp2;go_ret;exact⟨jb HX.out.symm,HKZ.out.trans K.out⟩
 obtain rfl:x3=0:=Decidable.of_not_not hc;clear hc;have HOR:=lH (show or3 (jw nl) (jM pl) (jz bl)=0 by unfold or3;rw[Hx1.out,Hx2.out,Hx3.out];rfl);clear Hx1 Hx2 Hx3;go_wp2;clear cq0 cq1 cq2;go_loopw [4] (fun i wr=>∃k:Nat,k≤m∧i=.int .i64 k∧jq nl (pl.drop k)=jq nl pl∧Kept Z wr) (fun i _=>m-(intOf i).toNat)
 case atStart=>exact⟨0,Nat.zero_le _,rfl,rfl,K.out⟩
 case round =>
  obtain⟨k,hk,rfl,hrest,hK⟩:=hrel;have HS:=lH hrest;have HK:=lH hK;have cq0:=(HQ.out.kept hK).at_ 0 _ rfl;have cq1:=(HQ.out.kept hK).at_ 1 _ rfl;have cq2:=(HQ.out.kept hK).at_ 2 _ rfl;by_cases hlt:k<m
  · obtain⟨b9,off,rfl⟩:=HP.out.form.resolve_left (by omega);obtain⟨pd,x1,y1,z1,x2,y2,z2,x3,y3,z3,x4,y4,z4,hn,hd,hb,p0,p1,p2,p3,p4,p5,p6,p7,p8,p9,p10,hat⟩:=(HP.out.kept hK).at_ hlt;have HD:=lH hd;have hkk:(k:Int)<(m:Int):=by omega
    have hk0:¬(k:Int)<0:=by omega
    obtain⟨t,ht⟩:∃t,(pd.node.toList==([]:List UInt8))=t:=⟨_,rfl⟩
    have HNO:=lH (show j8 pd.node=t by rw[zE];exact ht);clear hrest hat hn hd
    cases t with
     | true =>
      have HX:=lH (show jq nl (pl.drop (k+1))=jq nl pl by rw[←HS.out,HD.out,qw HNO.out]);clear hK;go_wp2;go_roundw
      case rel=>exact⟨k+1,by omega,by go_num,HX.out,HK.out⟩
      case measure=>simp[intOf];omega
     | false =>
      have HF:=lH (show ∀W,Kept wr W→W.cell? ⟨w.heap.size,0,none⟩=some (.slice a len cap)∧W.cell? ⟨w.heap.size,1,none⟩=some (.slice (some ⟨b9,off,none⟩) m cp)∧W.cell? ⟨b9,off+k*11,none⟩=some (.string pd.name)∧W.cell? ⟨b9,off+k*11+1,none⟩=some (.string pd.owner)∧W.cell? ⟨b9,off+k*11+2,none⟩=some (.int .i64 pd.prio)∧W.cell? ⟨b9,off+k*11+3,none⟩=some (.slice x1 y1 z1)∧W.cell? ⟨b9,off+k*11+4,none⟩=some (.slice x2 y2 z2)∧W.cell? ⟨b9,off+k*11+5,none⟩=some (.slice x3 y3 z3)∧W.cell? ⟨b9,off+k*11+6,none⟩=some (.slice x4 y4 z4)∧W.cell? ⟨b9,off+k*11+7,none⟩=some (.string pd.key)∧W.cell? ⟨b9,off+k*11+8,none⟩=some (.int .i64 pd.most)∧W.cell? ⟨b9,off+k*11+9,none⟩=some (.string pd.node)∧W.cell? ⟨b9,off+k*11+10,none⟩=some (.bool pd.hold) from fun W kk=>⟨cell_later kk cq0,cell_later kk cq1,cell_later kk p0,cell_later kk p1,cell_later kk p2,cell_later kk p3,cell_later kk p4,cell_later kk p5,cell_later kk p6,cell_later kk p7,cell_later kk p8,cell_later kk p9,cell_later kk p10⟩);obtain⟨o,ho⟩:∃o,jX nl pd.node=o:=⟨_,rfl⟩
      have HFD:=lH ho;have HCC:=lH (fun W (kk:Kept wr W)=>jbj (x:=pd.node) (HNR.out.kept (HK.out.trans kk)));rw[ho] at HCC;clear hK ho;go_upto_region 14 with fail
      go_cut [5,6] from 42 to 54 (fun s5 s6 wx=>s6=.bool o.isSome∧Kept wr wx)
      case first =>
       refine wp_region_held_drew (S:=fun W=>W.cell? ⟨w.heap.size,0,none⟩=some (.slice a len cap)∧W.cell? ⟨w.heap.size,1,none⟩=some (.slice (some ⟨b9,off,none⟩) m cp)∧W.cell? ⟨b9,off+k*11,none⟩=some (.string pd.name)∧W.cell? ⟨b9,off+k*11+1,none⟩=some (.string pd.owner)∧W.cell? ⟨b9,off+k*11+2,none⟩=some (.int .i64 pd.prio)∧W.cell? ⟨b9,off+k*11+3,none⟩=some (.slice x1 y1 z1)∧W.cell? ⟨b9,off+k*11+4,none⟩=some (.slice x2 y2 z2)∧W.cell? ⟨b9,off+k*11+5,none⟩=some (.slice x3 y3 z3)∧W.cell? ⟨b9,off+k*11+6,none⟩=some (.slice x4 y4 z4)∧W.cell? ⟨b9,off+k*11+7,none⟩=some (.string pd.key)∧W.cell? ⟨b9,off+k*11+8,none⟩=some (.int .i64 pd.most)∧W.cell? ⟨b9,off+k*11+9,none⟩=some (.string pd.node)∧W.cell? ⟨b9,off+k*11+10,none⟩=some (.bool pd.hold)) (by kernel_rfl) (HF.out _ (Kept.drew _)) (fun hHeld=>?_);refine wpAnyH_take  (i:=0) (v:=?_) (by rw[List.getElem?_toArray];exact rfl) (by kernel_rfl) (by kernel_rfl) (by kernel_rfl) (by exact fun _ _ _ h=>h) (Or.inl ⟨by rfl,(by rintro W ⟨o0,o1,o2,o3,o4,o5,o6,o7,o8,o9,o10,o11,o12⟩;go_simp<;>with_reducible rfl)⟩) (by assumption) ?_;try simp only  [Act.put,List.setIfInBounds_toArray,List.set_cons_zero,List.set_cons_succ]
       refine wpAnyH_take  (i:=1) (v:=?_) (by rw[List.getElem?_toArray];exact rfl) (by kernel_rfl) (by kernel_rfl) (by kernel_rfl) (by exact fun _ _ _ h=>h) (Or.inl ⟨by rfl,(by rintro W ⟨o0,o1,o2,o3,o4,o5,o6,o7,o8,o9,o10,o11,o12⟩;go_simp<;>with_reducible rfl)⟩) (by assumption) ?_;try simp only  [Act.put,List.setIfInBounds_toArray,List.set_cons_zero,List.set_cons_succ]
       refine wpAnyH_take  (i:=2) (v:=?_) (by rw[List.getElem?_toArray];exact rfl) (by kernel_rfl) (by kernel_rfl) (by kernel_rfl) (by exact fun _ _ _ h=>h) (Or.inl ⟨by rfl,(by rintro W ⟨o0,o1,o2,o3,o4,o5,o6,o7,o8,o9,o10,o11,o12⟩;go_simp<;>with_reducible rfl)⟩) (by assumption) ?_;try simp only  [Act.put,List.setIfInBounds_toArray,List.set_cons_zero,List.set_cons_succ]
       refine wpAnyH_take  (i:=3) (v:=?_) (by rw[List.getElem?_toArray];exact rfl) (by kernel_rfl) (by kernel_rfl) (by kernel_rfl) (by exact fun _ _ _ h=>h) (Or.inl ⟨by rfl,(by rintro W ⟨o0,o1,o2,o3,o4,o5,o6,o7,o8,o9,o10,o11,o12⟩;go_simp<;>with_reducible rfl)⟩) (by assumption) ?_;try simp only  [Act.put,List.setIfInBounds_toArray,List.set_cons_zero,List.set_cons_succ]
       refine wpAnyH_take  (i:=4) (v:=?_) (by rw[List.getElem?_toArray];exact rfl) (by kernel_rfl) (by kernel_rfl) (by kernel_rfl) (by exact fun _ _ _ h=>h) (Or.inl ⟨by rfl,(by rintro W ⟨o0,o1,o2,o3,o4,o5,o6,o7,o8,o9,o10,o11,o12⟩;go_simp<;>with_reducible rfl)⟩) (by assumption) ?_;try simp only  [Act.put,List.setIfInBounds_toArray,List.set_cons_zero,List.set_cons_succ]
       refine wpAnyH_take  (i:=5) (v:=?_) (by rw[List.getElem?_toArray];exact rfl) (by kernel_rfl) (by kernel_rfl) (by kernel_rfl) (by exact fun _ _ _ h=>h) (Or.inl ⟨by rfl,(by rintro W ⟨o0,o1,o2,o3,o4,o5,o6,o7,o8,o9,o10,o11,o12⟩;go_simp<;>with_reducible rfl)⟩) (by assumption) ?_;try simp only  [Act.put,List.setIfInBounds_toArray,List.set_cons_zero,List.set_cons_succ]
       refine wpAnyH_take  (i:=6) (v:=?_) (by rw[List.getElem?_toArray];exact rfl) (by kernel_rfl) (by kernel_rfl) (by kernel_rfl) (by exact fun _ _ _ h=>h) (Or.inl ⟨by rfl,(by rintro W ⟨o0,o1,o2,o3,o4,o5,o6,o7,o8,o9,o10,o11,o12⟩;go_simp<;>with_reducible rfl)⟩) (by assumption) ?_;try simp only  [Act.put,List.setIfInBounds_toArray,List.set_cons_zero,List.set_cons_succ]
       refine wpAnyH_take  (i:=7) (v:=?_) (by rw[List.getElem?_toArray];exact rfl) (by kernel_rfl) (by kernel_rfl) (by kernel_rfl) (by exact fun _ _ _ h=>h) (Or.inl ⟨by rfl,(by rintro W ⟨o0,o1,o2,o3,o4,o5,o6,o7,o8,o9,o10,o11,o12⟩;go_simp<;>with_reducible rfl)⟩) (by assumption) ?_;try simp only  [Act.put,List.setIfInBounds_toArray,List.set_cons_zero,List.set_cons_succ]
       have J0:=lH (Kept.drew wr);refine wpAnyH_ready  (rs:=[8,12]) (by kernel_rfl) (by simp) (AllReadyH.cons  (by rw[List.getElem?_toArray];exact rfl) (fun K9 hK9=>?_) (AllReadyH.cons  (by rw[List.getElem?_toArray];exact rfl) (fun K9 hK9=>?_) AllReadyH.nil))
       · go_simp;refine(HCC.out _ J0.out).mono ?_;rintro e w5 ⟨v9,rfl,hr,kk⟩;have J0:=lH (J0.out.trans kk);obtain⟨nn,hnn⟩:∃q,o.getD Nod.zero=q:=⟨_,rfl⟩
         rw[hnn] at hr;obtain⟨y1,y2,y3,rfl,hat⟩:=hr;have g1:=hat.cap;have g2:=hat.labels;have g3:=hat.taints;obtain⟨b1,d1,rfl,-,-,-⟩:=g1;obtain⟨b2,d2,rfl,-,-,-⟩:=g2;obtain⟨b3,d3,rfl,-,-,-⟩:=g3;unfold zR;obtain⟨n1,hn1⟩:∃q,nn.cap.length=q:=⟨_,rfl⟩
         obtain⟨n2,hn2⟩:∃q,nn.labels.length=q:=⟨_,rfl⟩
         obtain⟨n3,hn3⟩:∃q,nn.taints.length=q:=⟨_,rfl⟩
         rw[hn1,hn2,hn3];clear hat kk hn1 hn2 hn3 hnn;refine hK9.out _ _ (HF.out _ J0.out) (fun hHeld31=>?_);clear hK9 K9;try simp only  [Act.put,List.setIfInBounds_toArray,List.set_cons_zero,List.set_cons_succ]
         refine wpAnyH_take  (i:=9) (v:=?_) (by rw[List.getElem?_toArray];exact rfl) (by kernel_rfl) (by kernel_rfl) (by kernel_rfl) (by exact fun _ _ _ h=>h) (Or.inl ⟨by rfl,(by rintro W ⟨o0,o1,o2,o3,o4,o5,o6,o7,o8,o9,o10,o11,o12⟩;go_simp<;>with_reducible rfl)⟩) (by assumption) ?_;try simp only  [Act.put,List.setIfInBounds_toArray,List.set_cons_zero,List.set_cons_succ]
         refine wpAnyH_take  (i:=10) (v:=?_) (by rw[List.getElem?_toArray];exact rfl) (by kernel_rfl) (by kernel_rfl) (by kernel_rfl) (by exact fun _ _ _ h=>h) (Or.inl ⟨by rfl,(by rintro W ⟨o0,o1,o2,o3,o4,o5,o6,o7,o8,o9,o10,o11,o12⟩;go_simp<;>with_reducible rfl)⟩) (by assumption) ?_;try simp only  [Act.put,List.setIfInBounds_toArray,List.set_cons_zero,List.set_cons_succ]
         refine wpAnyH_take  (i:=11) (v:=?_) (by rw[List.getElem?_toArray];exact rfl) (by kernel_rfl) (by kernel_rfl) (by kernel_rfl) (by exact fun _ _ _ h=>h) (Or.inl ⟨by rfl,(by rintro W ⟨o0,o1,o2,o3,o4,o5,o6,o7,o8,o9,o10,o11,o12⟩;go_simp<;>with_reducible rfl)⟩) (by assumption) ?_;try simp only  [Act.put,List.setIfInBounds_toArray,List.set_cons_zero,List.set_cons_succ]
         refine wpAnyH_ready  (rs:=[12]) (by kernel_rfl) (by simp) (AllReadyH.cons  (by rw[List.getElem?_toArray];exact rfl) (fun K9 hK9=>?_) AllReadyH.nil);go_simp;have HQA:=lH (jf w5 (.string ⟨#[]⟩) [.slice none 0 0,.slice none 0 0,.slice none 0 0,.bool false] 99 _ (Kept.refl _));have HQB:=lH J0.out.size;have J0:=lH (J0.out.trans (ja w5 (.cells #[.string ⟨#[]⟩,.slice none 0 0,.slice none 0 0,.slice none 0 0,.bool false] 99)));refine hK9.out _ _ (HF.out _ J0.out) (fun hHeldA=>?_);clear hK9 K9;try simp only  [Act.put,List.setIfInBounds_toArray,List.set_cons_zero,List.set_cons_succ]
         obtain⟨wa,hwa⟩:∃W,w5.alloc (.cells #[.string ⟨#[]⟩,.slice none 0 0,.slice none 0 0,.slice none 0 0,.bool false] 99)=W:=⟨_,rfl⟩
         rw[hwa] at J0 HQA ⊢;obtain⟨qa,hqa⟩:∃q,w5.heap.size=q:=⟨_,rfl⟩
         rw[hqa] at HQB;rw[hqa] at HQA ⊢;clear hwa hqa;have z0:=HQA.out.at_ 0 _ rfl;have z1:=HQA.out.at_ 1 _ rfl;have z2:=HQA.out.at_ 2 _ rfl;have z3:=HQA.out.at_ 3 _ rfl;have z4:=HQA.out.at_ 4 _ rfl;have f0:=HQA.out.free 0;have f1:=HQA.out.free 1;have f2:=HQA.out.free 2;have f3:=HQA.out.free 3;have f4:=HQA.out.free 4;refine wpAnyH_ready  (rs:=[13]) (by kernel_rfl) (by simp) (AllReadyH.cons  (by rw[List.getElem?_toArray];exact rfl) (fun K9 hK9=>?_) AllReadyH.nil);go_simp;obtain⟨WE,hWE⟩:∃W,wa.setCells qa 0 [.string nn.name,.slice b1 n1 d1,.slice b2 n2 d2,.slice b3 n3 d3,.bool nn.cordon]=W:=⟨_,rfl⟩
         have hWE2:(((((wa.setCell ⟨qa,0,none⟩ (.string nn.name)).setCell ⟨qa,1,none⟩ (.slice b1 n1 d1)).setCell ⟨qa,2,none⟩ (.slice b2 n2 d2)).setCell ⟨qa,3,none⟩ (.slice b3 n3 d3)).setCell ⟨qa,4,none⟩ (.bool nn.cordon))=WE:=hWE;try rw[hWE2]
         have JE:=lH (show Kept wr WE by rw[←hWE];exact zP qa _ _ _ _ _ HQB.out J0.out);clear hWE hWE2 z0 f0 z1 f1 z2 f2 z3 f3 z4 f4;refine hK9.out _ _ (HF.out _ JE.out) (fun hHeldS=>?_);clear hK9 K9;try simp only  [Act.put,List.setIfInBounds_toArray,List.set_cons_zero,List.set_cons_succ]
         refine wpAnyH_take  (i:=14) (v:=?_) (by rw[List.getElem?_toArray];exact rfl) (by kernel_rfl) (by kernel_rfl) (by kernel_rfl) (by exact fun _ _ _ h=>h) (Or.inl ⟨by rfl,(by rintro W ⟨o0,o1,o2,o3,o4,o5,o6,o7,o8,o9,o10,o11,o12⟩;go_simp<;>with_reducible rfl)⟩) (by assumption) ?_;try simp only  [Act.put,List.setIfInBounds_toArray,List.set_cons_zero,List.set_cons_succ]
         refine wpAnyH_done (by kernel_rfl) ?_ _;go_wp2;go_meet
         case rel=>exact⟨rfl,JE.out⟩
       · go_simp;have HQA:=lH (jf wr (.string ⟨#[]⟩) [.slice none 0 0,.slice none 0 0,.slice none 0 0,.bool false] 99 _ (Kept.drew (wr.alloc (.cells #[.string ⟨#[]⟩,.slice none 0 0,.slice none 0 0,.slice none 0 0,.bool false] 99))));have J0:=lH ((ja wr (.cells #[.string ⟨#[]⟩,.slice none 0 0,.slice none 0 0,.slice none 0 0,.bool false] 99)).trans (Kept.drew _));skip;refine hK9.out _ _ (HF.out _ J0.out) (fun hHeldA=>?_);clear hK9 K9;try simp only  [Act.put,List.setIfInBounds_toArray,List.set_cons_zero,List.set_cons_succ]
         obtain⟨wa,hwa⟩:∃W,(wr.alloc (.cells #[.string ⟨#[]⟩,.slice none 0 0,.slice none 0 0,.slice none 0 0,.bool false] 99)).drew=W:=⟨_,rfl⟩
         rw[hwa] at J0 HQA ⊢;obtain⟨qa,hqa⟩:∃q,wr.heap.size=q:=⟨_,rfl⟩
         have HQB:=lH (Nat.le_of_eq hqa);rw[hqa] at HQA ⊢;clear hwa hqa;refine wpAnyH_ready  (rs:=[8]) (by kernel_rfl) (by simp) (AllReadyH.cons  (by rw[List.getElem?_toArray];exact rfl) (fun K9 hK9=>?_) AllReadyH.nil);go_simp;refine(HCC.out _ J0.out).mono ?_;rintro e w5 ⟨v9,rfl,hr,kk⟩;have J0:=lH (J0.out.trans kk);obtain⟨nn,hnn⟩:∃q,o.getD Nod.zero=q:=⟨_,rfl⟩
         rw[hnn] at hr;obtain⟨y1,y2,y3,rfl,hat⟩:=hr;have g1:=hat.cap;have g2:=hat.labels;have g3:=hat.taints;obtain⟨b1,d1,rfl,-,-,-⟩:=g1;obtain⟨b2,d2,rfl,-,-,-⟩:=g2;obtain⟨b3,d3,rfl,-,-,-⟩:=g3;unfold zR;obtain⟨n1,hn1⟩:∃q,nn.cap.length=q:=⟨_,rfl⟩
         obtain⟨n2,hn2⟩:∃q,nn.labels.length=q:=⟨_,rfl⟩
         obtain⟨n3,hn3⟩:∃q,nn.taints.length=q:=⟨_,rfl⟩
         rw[hn1,hn2,hn3];have HQA:=lH (HQA.out.kept kk);clear hat kk hn1 hn2 hn3 hnn;refine hK9.out _ _ (HF.out _ J0.out) (fun hHeld61=>?_);clear hK9 K9;try simp only  [Act.put,List.setIfInBounds_toArray,List.set_cons_zero,List.set_cons_succ]
         refine wpAnyH_take  (i:=9) (v:=?_) (by rw[List.getElem?_toArray];exact rfl) (by kernel_rfl) (by kernel_rfl) (by kernel_rfl) (by exact fun _ _ _ h=>h) (Or.inl ⟨by rfl,(by rintro W ⟨o0,o1,o2,o3,o4,o5,o6,o7,o8,o9,o10,o11,o12⟩;go_simp<;>with_reducible rfl)⟩) (by assumption) ?_;try simp only  [Act.put,List.setIfInBounds_toArray,List.set_cons_zero,List.set_cons_succ]
         refine wpAnyH_take  (i:=10) (v:=?_) (by rw[List.getElem?_toArray];exact rfl) (by kernel_rfl) (by kernel_rfl) (by kernel_rfl) (by exact fun _ _ _ h=>h) (Or.inl ⟨by rfl,(by rintro W ⟨o0,o1,o2,o3,o4,o5,o6,o7,o8,o9,o10,o11,o12⟩;go_simp<;>with_reducible rfl)⟩) (by assumption) ?_;try simp only  [Act.put,List.setIfInBounds_toArray,List.set_cons_zero,List.set_cons_succ]
         refine wpAnyH_take  (i:=11) (v:=?_) (by rw[List.getElem?_toArray];exact rfl) (by kernel_rfl) (by kernel_rfl) (by kernel_rfl) (by exact fun _ _ _ h=>h) (Or.inl ⟨by rfl,(by rintro W ⟨o0,o1,o2,o3,o4,o5,o6,o7,o8,o9,o10,o11,o12⟩;go_simp<;>with_reducible rfl)⟩) (by assumption) ?_;try simp only  [Act.put,List.setIfInBounds_toArray,List.set_cons_zero,List.set_cons_succ]
         have z0:=HQA.out.at_ 0 _ rfl;have z1:=HQA.out.at_ 1 _ rfl;have z2:=HQA.out.at_ 2 _ rfl;have z3:=HQA.out.at_ 3 _ rfl;have z4:=HQA.out.at_ 4 _ rfl;have f0:=HQA.out.free 0;have f1:=HQA.out.free 1;have f2:=HQA.out.free 2;have f3:=HQA.out.free 3;have f4:=HQA.out.free 4;refine wpAnyH_ready  (rs:=[13]) (by kernel_rfl) (by simp) (AllReadyH.cons  (by rw[List.getElem?_toArray];exact rfl) (fun K9 hK9=>?_) AllReadyH.nil);go_simp;obtain⟨WE,hWE⟩:∃W,w5.setCells qa 0 [.string nn.name,.slice b1 n1 d1,.slice b2 n2 d2,.slice b3 n3 d3,.bool nn.cordon]=W:=⟨_,rfl⟩
         have hWE2:(((((w5.setCell ⟨qa,0,none⟩ (.string nn.name)).setCell ⟨qa,1,none⟩ (.slice b1 n1 d1)).setCell ⟨qa,2,none⟩ (.slice b2 n2 d2)).setCell ⟨qa,3,none⟩ (.slice b3 n3 d3)).setCell ⟨qa,4,none⟩ (.bool nn.cordon))=WE:=hWE;try rw[hWE2]
         have JE:=lH (show Kept wr WE by rw[←hWE];exact zP qa _ _ _ _ _ HQB.out J0.out);clear hWE hWE2 z0 f0 z1 f1 z2 f2 z3 f3 z4 f4;refine hK9.out _ _ (HF.out _ JE.out) (fun hHeldS=>?_);clear hK9 K9;try simp only  [Act.put,List.setIfInBounds_toArray,List.set_cons_zero,List.set_cons_succ]
         refine wpAnyH_take  (i:=14) (v:=?_) (by rw[List.getElem?_toArray];exact rfl) (by kernel_rfl) (by kernel_rfl) (by kernel_rfl) (by exact fun _ _ _ h=>h) (Or.inl ⟨by rfl,(by rintro W ⟨o0,o1,o2,o3,o4,o5,o6,o7,o8,o9,o10,o11,o12⟩;go_simp<;>with_reducible rfl)⟩) (by assumption) ?_;try simp only  [Act.put,List.setIfInBounds_toArray,List.set_cons_zero,List.set_cons_succ]
         refine wpAnyH_done (by kernel_rfl) ?_ _;go_wp2;go_meet
         case rel=>exact⟨rfl,JE.out⟩
      case rest =>
       obtain⟨rfl,hkx⟩:=hcut;have KX:=lH (HK.out.trans hkx);clear hkx cq0 cq1 cq2 p0 p1 p2 p3 p4 p5 p6 p7 p8 p9 p10
       cases o with
       | none =>
        have HX:=lH (jbb HOR.out (show jq nl pl=3 by rw[←HS.out,HD.out,jah HNO.out (by rw[HFD.out];rfl)]) (by decide));go_wp2;go_ret;exact⟨jb HX.out.symm,HKZ.out.trans KX.out⟩
       | some nod =>
        have HX:=lH (show jq nl (pl.drop (k+1))=jq nl pl by rw[←HS.out,HD.out,qs (by rw[HFD.out];rfl)]);go_wp2;go_roundw
        case rel=>exact⟨k+1,by omega,by go_num,HX.out,KX.out⟩
        case measure=>simp[intOf];omega
  · have HPL:=lH (show jq nl pl=0 by rw[←hrest,List.drop_of_length_le (by rw[HL2.out];omega)];rfl);have hkk:¬(k:Int)<(m:Int):=by omega
    clear hrest hK;go_wp2;clear cq0 cq1 cq2;go_loopw [7] (fun i wr=>∃k:Nat,k≤len∧i=.int .i64 k∧jC pl (nl.drop k)=jC pl nl∧Kept Z wr) (fun i _=>len-(intOf i).toNat)
    case atStart=>exact⟨0,Nat.zero_le _,rfl,rfl,HK.out⟩
    case round =>
     obtain⟨k,hk,rfl,hrest,hK⟩:=hrel;have HS:=lH hrest;have HK:=lH hK;have cq0:=(HQ.out.kept hK).at_ 0 _ rfl;have cq1:=(HQ.out.kept hK).at_ 1 _ rfl;have cq2:=(HQ.out.kept hK).at_ 2 _ rfl;by_cases hlt:k<len
     · obtain⟨b9,off,rfl⟩:=HN.out.form.resolve_left (by omega);obtain⟨n9,x1,y1,z1,x2,y2,z2,x3,y3,z3,hn,hd,hb,p0,p1,p2,p3,p4,hat⟩:=(HN.out.kept hK).at_ hlt;have HD:=lH hd;have hkk:(k:Int)<(len:Int):=by omega
       have hk0:¬(k:Int)<0:=by omega
       obtain⟨c,uu,hcu⟩:∃c uu,jZ n9.name pl []=(c,uu):=⟨_,_,rfl⟩
       have HCU:=lH hcu;have hus:JC ⟨nl,pl,bl⟩ n9.name=(c,uu):=(jbN (s:=⟨nl,pl,bl⟩) (List.mem_of_getElem? hn)).trans hcu;have HUU:=lH (fun W (kk:Kept wr W)=>jbH (HC0.out.kept (HK.out.trans kk)) n9.name);rw[hus] at HUU;have HCAP:=lH hat.cap;have HF:=lH (show ∀W,Kept wr W→W.cell? ⟨w.heap.size,0,none⟩=some (.slice (some ⟨b9,off,none⟩) len cap)∧W.cell? ⟨w.heap.size,1,none⟩=some (.slice b m cp)∧W.cell? ⟨w.heap.size,2,none⟩=some (.slice d n cb)∧W.cell? ⟨b9,off+k*5,none⟩=some (.string n9.name)∧W.cell? ⟨b9,off+k*5+1,none⟩=some (.slice x1 y1 z1)∧W.cell? ⟨b9,off+k*5+2,none⟩=some (.slice x2 y2 z2)∧W.cell? ⟨b9,off+k*5+3,none⟩=some (.slice x3 y3 z3)∧W.cell? ⟨b9,off+k*5+4,none⟩=some (.bool n9.cordon) from fun W kk=>⟨cell_later kk cq0,cell_later kk cq1,cell_later kk cq2,cell_later kk p0,cell_later kk p1,cell_later kk p2,cell_later kk p3,cell_later kk p4⟩);clear hrest hK hat hn hd hcu hus;go_upto_region 20 with fail
       refine wp_region_held_drew (S:=fun W=>W.cell? ⟨w.heap.size,0,none⟩=some (.slice (some ⟨b9,off,none⟩) len cap)∧W.cell? ⟨w.heap.size,1,none⟩=some (.slice b m cp)∧W.cell? ⟨w.heap.size,2,none⟩=some (.slice d n cb)∧W.cell? ⟨b9,off+k*5,none⟩=some (.string n9.name)∧W.cell? ⟨b9,off+k*5+1,none⟩=some (.slice x1 y1 z1)∧W.cell? ⟨b9,off+k*5+2,none⟩=some (.slice x2 y2 z2)∧W.cell? ⟨b9,off+k*5+3,none⟩=some (.slice x3 y3 z3)∧W.cell? ⟨b9,off+k*5+4,none⟩=some (.bool n9.cordon)) (by kernel_rfl) (HF.out _ (Kept.drew _)) (fun hHeld=>?_);refine wpAnyH_take  (i:=0) (v:=?_) (by rw[List.getElem?_toArray];exact rfl) (by kernel_rfl) (by kernel_rfl) (by kernel_rfl) (by exact fun _ _ _ h=>h) (Or.inl ⟨by rfl,(by rintro W ⟨o0,o1,o2,o3,o4,o5,o6,o7⟩;go_simp<;>with_reducible rfl)⟩) (by assumption) ?_;try simp only  [Act.put,List.setIfInBounds_toArray,List.set_cons_zero,List.set_cons_succ]
       refine wpAnyH_take  (i:=1) (v:=?_) (by rw[List.getElem?_toArray];exact rfl) (by kernel_rfl) (by kernel_rfl) (by kernel_rfl) (by exact fun _ _ _ h=>h) (Or.inl ⟨by rfl,(by rintro W ⟨o0,o1,o2,o3,o4,o5,o6,o7⟩;go_simp<;>with_reducible rfl)⟩) (by assumption) ?_;try simp only  [Act.put,List.setIfInBounds_toArray,List.set_cons_zero,List.set_cons_succ]
       refine wpAnyH_take  (i:=2) (v:=?_) (by rw[List.getElem?_toArray];exact rfl) (by kernel_rfl) (by kernel_rfl) (by kernel_rfl) (by exact fun _ _ _ h=>h) (Or.inl ⟨by rfl,(by rintro W ⟨o0,o1,o2,o3,o4,o5,o6,o7⟩;go_simp<;>with_reducible rfl)⟩) (by assumption) ?_;try simp only  [Act.put,List.setIfInBounds_toArray,List.set_cons_zero,List.set_cons_succ]
       refine wpAnyH_take  (i:=3) (v:=?_) (by rw[List.getElem?_toArray];exact rfl) (by kernel_rfl) (by kernel_rfl) (by kernel_rfl) (by exact fun _ _ _ h=>h) (Or.inl ⟨by rfl,(by rintro W ⟨o0,o1,o2,o3,o4,o5,o6,o7⟩;go_simp<;>with_reducible rfl)⟩) (by assumption) ?_;try simp only  [Act.put,List.setIfInBounds_toArray,List.set_cons_zero,List.set_cons_succ]
       refine wpAnyH_take  (i:=4) (v:=?_) (by rw[List.getElem?_toArray];exact rfl) (by kernel_rfl) (by kernel_rfl) (by kernel_rfl) (by exact fun _ _ _ h=>h) (Or.inl ⟨by rfl,(by rintro W ⟨o0,o1,o2,o3,o4,o5,o6,o7⟩;go_simp<;>with_reducible rfl)⟩) (by assumption) ?_;try simp only  [Act.put,List.setIfInBounds_toArray,List.set_cons_zero,List.set_cons_succ]
       refine wpAnyH_take  (i:=5) (v:=?_) (by rw[List.getElem?_toArray];exact rfl) (by kernel_rfl) (by kernel_rfl) (by kernel_rfl) (by exact fun _ _ _ h=>h) (Or.inl ⟨by rfl,(by rintro W ⟨o0,o1,o2,o3,o4,o5,o6,o7⟩;go_simp<;>with_reducible rfl)⟩) (by assumption) ?_;try simp only  [Act.put,List.setIfInBounds_toArray,List.set_cons_zero,List.set_cons_succ]
       refine wpAnyH_take  (i:=6) (v:=?_) (by rw[List.getElem?_toArray];exact rfl) (by kernel_rfl) (by kernel_rfl) (by kernel_rfl) (by exact fun _ _ _ h=>h) (Or.inl ⟨by rfl,(by rintro W ⟨o0,o1,o2,o3,o4,o5,o6,o7⟩;go_simp<;>with_reducible rfl)⟩) (by assumption) ?_;try simp only  [Act.put,List.setIfInBounds_toArray,List.set_cons_zero,List.set_cons_succ]
       refine wpAnyH_ready  (rs:=[7]) (by kernel_rfl) (by simp) (AllReadyH.cons  (by rw[List.getElem?_toArray];exact rfl) (fun K9 hK9=>?_) AllReadyH.nil);go_simp;refine(HUU.out _ (Kept.drew _)).mono ?_;rintro e w6 ⟨y9,rfl,hy,kk⟩;have J:=lH ((Kept.drew wr).trans kk);have HY:=lH hy;clear hy kk;refine hK9.out _ _ (HF.out _ J.out) (fun hHeld1=>?_);clear hK9 K9;try simp only  [Act.put,List.setIfInBounds_toArray,List.set_cons_zero,List.set_cons_succ]
       refine wpAnyH_take  (i:=8) (v:=?_) (by rw[List.getElem?_toArray];exact rfl) (by kernel_rfl) (by kernel_rfl) (by kernel_rfl) (by exact fun _ _ _ h=>h) (Or.inl ⟨by rfl,(by rintro W ⟨o0,o1,o2,o3,o4,o5,o6,o7⟩;go_simp<;>with_reducible rfl)⟩) (by assumption) ?_;try simp only  [Act.put,List.setIfInBounds_toArray,List.set_cons_zero,List.set_cons_succ]
       refine wpAnyH_take  (i:=9) (v:=?_) (by rw[List.getElem?_toArray];exact rfl) (by kernel_rfl) (by kernel_rfl) (by kernel_rfl) (by exact fun _ _ _ h=>h) (Or.inl ⟨by rfl,(by rintro W ⟨o0,o1,o2,o3,o4,o5,o6,o7⟩;go_simp<;>with_reducible rfl)⟩) (by assumption) ?_;try simp only  [Act.put,List.setIfInBounds_toArray,List.set_cons_zero,List.set_cons_succ]
       refine wpAnyH_take  (i:=10) (v:=?_) (by rw[List.getElem?_toArray];exact rfl) (by kernel_rfl) (by kernel_rfl) (by kernel_rfl) (by exact fun _ _ _ h=>h) (Or.inl ⟨by rfl,(by rintro W ⟨o0,o1,o2,o3,o4,o5,o6,o7⟩;go_simp<;>with_reducible rfl)⟩) (by assumption) ?_;try simp only  [Act.put,List.setIfInBounds_toArray,List.set_cons_zero,List.set_cons_succ]
       refine wpAnyH_take  (i:=11) (v:=?_) (by rw[List.getElem?_toArray];exact rfl) (by kernel_rfl) (by kernel_rfl) (by kernel_rfl) (by exact fun _ _ _ h=>h) (Or.inl ⟨by rfl,(by rintro W ⟨o0,o1,o2,o3,o4,o5,o6,o7⟩;go_simp<;>with_reducible rfl)⟩) (by assumption) ?_;try simp only  [Act.put,List.setIfInBounds_toArray,List.set_cons_zero,List.set_cons_succ]
       refine wpAnyH_take  (i:=12) (v:=?_) (by rw[List.getElem?_toArray];exact rfl) (by kernel_rfl) (by kernel_rfl) (by kernel_rfl) (by exact fun _ _ _ h=>h) (Or.inl ⟨by rfl,(by rintro W ⟨o0,o1,o2,o3,o4,o5,o6,o7⟩;go_simp<;>with_reducible rfl)⟩) (by assumption) ?_;try simp only  [Act.put,List.setIfInBounds_toArray,List.set_cons_zero,List.set_cons_succ]
       refine wpAnyH_done (by kernel_rfl) ?_ _;clear cq0 cq1 cq2 p0 p1 p2 p3 p4;obtain⟨cq0,cq1,cq2,p0,p1,p2,p3,p4⟩:=HF.out _ J.out;by_cases hc:¬c=0
       · have HX:=lH (XI (bl:=bl) HOR.out HPL.out (show jC pl nl=c by rw[←HS.out,HD.out,jbu HCU.out hc]) hc);have hcn:(c != 0)=true:=by simpa using hc
         clear hc;go_wp2;go_ret;exact⟨jb HX.out.symm,HKZ.out.trans (HK.out.trans J.out)⟩
       obtain rfl:c=0:=Decidable.of_not_not hc;clear hc;obtain⟨t,ht⟩:∃t,Vec.jO n9.cap uu=t:=⟨_,rfl⟩
       have HT:=lH ht;have HFT:=lH (jc5 HY.out (HCAP.out.kept J.out) ht);clear ht;go_wp2_with fail
       refine HFT.out.mono ?_;rintro e w7 ⟨rfl,kk⟩;have KW:=lH (HK.out.trans (J.out.trans kk));clear kk cq0 cq1 cq2 p0 p1 p2 p3 p4
       cases t with
       | false =>
        have HX:=lH (XI (bl:=bl) HOR.out HPL.out (show jC pl nl=7 by rw[←HS.out,HD.out,jas HCU.out HT.out]) (by decide));go_wp2;go_ret;exact⟨jb HX.out.symm,HKZ.out.trans KW.out⟩
       | true =>
        have HX:=lH (show jC pl (nl.drop (k+1))=jC pl nl by rw[←HS.out,HD.out,jak HCU.out HT.out]);go_wp2;go_roundw
        case rel=>exact⟨k+1,by omega,by go_num,HX.out,KW.out⟩
        case measure=>simp[intOf];omega
     · have HRO:=lH (show jC pl nl=0 by rw[←hrest,List.drop_of_length_le (by rw[HL1.out];omega)];rfl);have hkk:¬(k:Int)<(len:Int):=by omega
       clear hrest hK;have HX:=lH (jcg (bl:=bl) HOR.out HPL.out HRO.out);go_wp2_with fail
       refine(jby (HC0.out.kept HK.out)).mono ?_;rintro e w8 ⟨y9,rfl,hy,kk⟩;have KW:=lH (HK.out.trans kk);clear hy kk cq0 cq1 cq2;go_wp2;go_ret;exact⟨jb HX.out.symm,HKZ.out.trans KW.out⟩
theorem jcz {w:World} {a:Option Addr} {len:Nat} {l:List Nod} (h:jt w a len l):∃lx:List NX,(lx.map fun z=>z.1)=l∧jh zq w a len lx∧∀z ∈ lx,At3 w z:=by
 obtain⟨h0,h1,h2⟩:=h;rcases h2 with h2 | ⟨b,off,rfl,hb,hc⟩
 · have:l=[]:=List.eq_nil_of_length_eq_zero (by omega);subst this;subst h2;exact⟨[],rfl,jh.nil w a,fun z hz=>absurd hz (by simp)⟩
 · have step:∀m,m≤l.length→∃lx:List NX,(lx.map fun z=>z.1)=l.take m∧(∀i x j u,lx[i]?=some x→(zq.cs x)[j]?=some u→w.cell? ⟨b,off+i*5+j,none⟩=some u)∧∀z ∈ lx,At3 w z:=by
    intro m
    induction m with
    | zero=>exact fun _=>⟨[],rfl,fun i x j u hi=>by simp at hi,fun z hz=>absurd hz (by simp)⟩
    | succ m ih =>
     intro hm;obtain⟨lx,e,hcell,hat⟩:=ih (by omega);obtain⟨n,hn⟩:∃n,l[m]?=some n:=⟨_,List.getElem?_eq_getElem (by omega)⟩
     obtain⟨a1,m1,c1,a2,m2,c2,a3,m3,c3,p0,p1,p2,p3,p4,hp⟩:=hc m n hn;have hlen:lx.length=m:=by
      have:=congrArg List.length e;rw[List.length_map,List.length_take] at this;omega
     refine⟨lx++[(n,(a1,m1,c1),(a2,m2,c2),(a3,m3,c3))],?_,?_,?_⟩
     · rw[List.map_append,e,jW hn];rfl
     · intro i x j u hi hj;by_cases him:i<m
       · rw[List.getElem?_append_left (by omega)] at hi;exact hcell i x j u hi hj
       · have hi2:=(List.getElem?_eq_some_iff.1 hi).1;rw[List.length_append,List.length_singleton] at hi2;obtain rfl:i=m:=by omega
         rw[List.getElem?_append_right (by omega),hlen,Nat.sub_self] at hi;obtain rfl:=Option.some.inj hi
         match j,hj with
         | 0,hj=>obtain rfl:=Option.some.inj hj;exact p0
         | 1,hj=>obtain rfl:=Option.some.inj hj;exact p1
         | 2,hj=>obtain rfl:=Option.some.inj hj;exact p2
         | 3,hj=>obtain rfl:=Option.some.inj hj;exact p3
         | 4,hj=>obtain rfl:=Option.some.inj hj;exact p4
         | j+5,hj=>simp[zq] at hj
     · intro z hz;rcases List.mem_append.1 hz with hz | hz
       · exact hat z hz
       · obtain rfl:z=_:=List.mem_singleton.1 hz;exact hp
   obtain⟨lx,e,hcell,hat⟩:=step l.length (Nat.le_refl _);rw[List.take_of_length_le (Nat.le_refl _)] at e;have hl:lx.length=len:=by rw[←h0,←e,List.length_map]
   exact⟨lx,e,⟨hl,h1,fun _ _=>trivial,.inr ⟨b,off,rfl,hb,hcell⟩⟩,hat⟩
theorem jcV {w:World} {a:Option Addr} {len:Nat} {l:List Bd} (h:zj w a len l):∃lx:List BX,(lx.map fun z=>z.1)=l∧jh za w a len lx∧∀z ∈ lx,At1 w z:=by
 obtain⟨h0,h1,h2⟩:=h;rcases h2 with h2 | ⟨b,off,rfl,hb,hc⟩
 · have:l=[]:=List.eq_nil_of_length_eq_zero (by omega);subst this;subst h2;exact⟨[],rfl,jh.nil w a,fun z hz=>absurd hz (by simp)⟩
 · have step:∀m,m≤l.length→∃lx:List BX,(lx.map fun z=>z.1)=l.take m∧(∀i x j u,lx[i]?=some x→(za.cs x)[j]?=some u→w.cell? ⟨b,off+i*3+j,none⟩=some u)∧∀z ∈ lx,At1 w z:=by
    intro m
    induction m with
    | zero=>exact fun _=>⟨[],rfl,fun i x j u hi=>by simp at hi,fun z hz=>absurd hz (by simp)⟩
    | succ m ih =>
     intro hm;obtain⟨lx,e,hcell,hat⟩:=ih (by omega);obtain⟨n,hn⟩:∃n,l[m]?=some n:=⟨_,List.getElem?_eq_getElem (by omega)⟩
     obtain⟨w1,p0,p1,p2,hp⟩:=hc m n hn;obtain⟨a1,m1,c1,rfl⟩:=hp.spelt;have hlen:lx.length=m:=by
      have:=congrArg List.length e;rw[List.length_map,List.length_take] at this;omega
     refine⟨lx++[(n,(a1,m1,c1))],?_,?_,?_⟩
     · rw[List.map_append,e,jW hn];rfl
     · intro i x j u hi hj;by_cases him:i<m
       · rw[List.getElem?_append_left (by omega)] at hi;exact hcell i x j u hi hj
       · have hi2:=(List.getElem?_eq_some_iff.1 hi).1;rw[List.length_append,List.length_singleton] at hi2;obtain rfl:i=m:=by omega
         rw[List.getElem?_append_right (by omega),hlen,Nat.sub_self] at hi;obtain rfl:=Option.some.inj hi
         match j,hj with
         | 0,hj=>obtain rfl:=Option.some.inj hj;exact p0
         | 1,hj=>obtain rfl:=Option.some.inj hj;exact p1
         | 2,hj=>obtain rfl:=Option.some.inj hj;exact p2
         | j+3,hj=>simp[za] at hj
     · intro z hz;rcases List.mem_append.1 hz with hz | hz
       · exact hat z hz
       · obtain rfl:z=_:=List.mem_singleton.1 hz;exact hp
   obtain⟨lx,e,hcell,hat⟩:=step l.length (Nat.le_refl _);rw[List.take_of_length_le (Nat.le_refl _)] at e;have hl:lx.length=len:=by rw[←h0,←e,List.length_map]
   exact⟨lx,e,⟨hl,h1,fun _ _=>trivial,.inr ⟨b,off,rfl,hb,hcell⟩⟩,hat⟩
theorem jcJ {w:World} {a:Option Addr} {len:Nat} {l:List Pd} (h:jP w a len l):∃lx:List PX,(lx.map fun z=>z.1)=l∧jh j6 w a len lx∧∀z ∈ lx,At4 w z:=by
 obtain⟨h0,h1,h2⟩:=h;rcases h2 with h2 | ⟨b,off,rfl,hb,hc⟩
 · have:l=[]:=List.eq_nil_of_length_eq_zero (by omega);subst this;subst h2;exact⟨[],rfl,jh.nil w a,fun z hz=>absurd hz (by simp)⟩
 · have step:∀m,m≤l.length→∃lx:List PX,(lx.map fun z=>z.1)=l.take m∧(∀i x j u,lx[i]?=some x→(j6.cs x)[j]?=some u→w.cell? ⟨b,off+i*11+j,none⟩=some u)∧∀z ∈ lx,At4 w z:=by
    intro m
    induction m with
    | zero=>exact fun _=>⟨[],rfl,fun i x j u hi=>by simp at hi,fun z hz=>absurd hz (by simp)⟩
    | succ m ih =>
     intro hm;obtain⟨lx,e,hcell,hat⟩:=ih (by omega);obtain⟨n,hn⟩:∃n,l[m]?=some n:=⟨_,List.getElem?_eq_getElem (by omega)⟩
     obtain⟨v1,v2,v3,v4,p0,p1,p2,p3,p4,p5,p6,p7,p8,p9,p10,hp⟩:=hc m n hn;obtain⟨b1,n1,d1,b2,n2,d2,b3,n3,d3,b4,n4,d4,rfl,rfl,rfl,rfl⟩:=hp.spelt;have hlen:lx.length=m:=by
      have:=congrArg List.length e;rw[List.length_map,List.length_take] at this;omega
     refine⟨lx++[(n,(b1,n1,d1),(b2,n2,d2),(b3,n3,d3),(b4,n4,d4))],?_,?_,?_⟩
     · rw[List.map_append,e,jW hn];rfl
     · intro i x j u hi hj;by_cases him:i<m
       · rw[List.getElem?_append_left (by omega)] at hi;exact hcell i x j u hi hj
       · have hi2:=(List.getElem?_eq_some_iff.1 hi).1;rw[List.length_append,List.length_singleton] at hi2;obtain rfl:i=m:=by omega
         rw[List.getElem?_append_right (by omega),hlen,Nat.sub_self] at hi;obtain rfl:=Option.some.inj hi
         match j,hj with
         | 0,hj=>obtain rfl:=Option.some.inj hj;exact p0
         | 1,hj=>obtain rfl:=Option.some.inj hj;exact p1
         | 2,hj=>obtain rfl:=Option.some.inj hj;exact p2
         | 3,hj=>obtain rfl:=Option.some.inj hj;exact p3
         | 4,hj=>obtain rfl:=Option.some.inj hj;exact p4
         | 5,hj=>obtain rfl:=Option.some.inj hj;exact p5
         | 6,hj=>obtain rfl:=Option.some.inj hj;exact p6
         | 7,hj=>obtain rfl:=Option.some.inj hj;exact p7
         | 8,hj=>obtain rfl:=Option.some.inj hj;exact p8
         | 9,hj=>obtain rfl:=Option.some.inj hj;exact p9
         | 10,hj=>obtain rfl:=Option.some.inj hj;exact p10
         | j+11,hj=>simp[j6] at hj
     · intro z hz;rcases List.mem_append.1 hz with hz | hz
       · exact hat z hz
       · obtain rfl:z=_:=List.mem_singleton.1 hz;exact jE.at4 hp
   obtain⟨lx,e,hcell,hat⟩:=step l.length (Nat.le_refl _);rw[List.take_of_length_le (Nat.le_refl _)] at e;have hl:lx.length=len:=by rw[←h0,←e,List.length_map]
   exact⟨lx,e,⟨hl,h1,fun _ _=>trivial,.inr ⟨b,off,rfl,hb,hcell⟩⟩,hat⟩
structure JB (S:Nat→Prop) (B:Nat) (w:World) (v1 v2 v3:Value) (s:Clu):Prop where
 pods:∃lx:List PX,(lx.map fun z=>z.1)=s.pods∧Own j6 35 w B v2 lx∧∀z ∈ lx,Off (fun b=>S b∨v2.ownBlock=some b) w fun u=>At4 u z
 nodes:Off (fun b=>S b∨v2.ownBlock=some b) w fun u=>j4 u v1 s.nodes
 buds:Off (fun b=>S b∨v2.ownBlock=some b) w fun u=>zp u v3 s.buds
 sep:∀k,v2.ownBlock=some k→¬S k
theorem JB.lt {S:Nat→Prop} {B:Nat} {w:World} {v1 v2 v3:Value} {s:Clu} (h:JB S B w v1 v2 v3 s):∀g,v2.ownBlock=some g→B≤g∧g<w.heap.size:=by
 obtain⟨lx,e,ho,hd⟩:=h.pods;exact jdi ho
theorem JB.step {S:Nat→Prop} {B:Nat} {w w':World} {v1 v2 v3:Value} {s:Clu} (h:JB S B w v1 v2 v3 s) (g:jj S w w'):JB S B w' v1 v2 v3 s:=by
 obtain⟨lx,e,ho,hd⟩:=h.pods;have g':jj (fun b=>S b∨v2.ownBlock=some b) w w':=g.mono fun b e=>.inl e;exact⟨⟨lx,e,ho.goff g h.sep,fun z hz=>(hd z hz).step g'⟩,h.nodes.step g',h.buds.step g',h.sep⟩
theorem JB.kept {S:Nat→Prop} {B:Nat} {w w':World} {v1 v2 v3:Value} {s:Clu} (h:JB S B w v1 v2 v3 s) (k:Kept w w'):JB S B w' v1 v2 v3 s:=h.step (jj.of k)
def jaq (x:ByteArray) (c:Int):Nod:=⟨x,[(⟨#[99,112,117]⟩,c)],[],[],false⟩
def jb7 (x:ByteArray) (c:Int) (y:ByteArray):Pd:=⟨x,⟨#[]⟩,0,[(⟨#[99,112,117]⟩,c)],[],[],[],⟨#[]⟩,0,y,false⟩
theorem YD (w:World) (c:Int) (h:-9223372036854775808≤c∧c≤9223372036854775807) (W:World) (k:Kept (w.alloc (.cells #[.string ⟨#[99,112,117]⟩,.int .i64 c] 114)) W):Vec.Reads W (.slice (some ⟨w.heap.size,0,none⟩) 1 1) [(⟨#[99,112,117]⟩,c)]:=by
 have cc:=jf w (.string ⟨#[99,112,117]⟩) [.int .i64 c] 114 W k;refine⟨_,1,rfl,(by decide:(1:Nat)≤1),(by decide:(1:Nat)≤maxLen),rfl,(by decide:(1:Nat)≤maxLen),fun i hi=>?_,.inr ⟨w.heap.size,0,rfl,cc.lt,fun i hi=>?_⟩⟩
 · obtain rfl:i=0:=by simpa using hi
   exact⟨(by decide:(3:Nat)≤maxLen),h.1,h.2⟩
 · obtain rfl:i=0:=by simpa using hi
   exact⟨cc.at_ 0 _ rfl,cc.at_ 1 _ rfl⟩
theorem X5 (x:ByteArray) (c:Int) (hc:-9223372036854775808≤c∧c≤9223372036854775807) (hx:x.size≤maxLen) (w:World) :
 Calls Try.prog 25 #[.string x,.int .i64 c] w fun e w'=>∃b1 n1 d1,e=.returned (.agg #[.string x,.slice b1 n1 d1,.slice none 0 0,.slice none 0 0,.bool false])∧j7 w' (.slice b1 n1 d1) (.slice none 0 0) (.slice none 0 0) (jaq x c)∧Kept w w'∧∀b o z,b1=some ⟨b,o,z⟩→w.heap.size<b:=by
 have cc:=jf w (.string ⟨#[]⟩) [.slice none 0 0,.slice none 0 0,.slice none 0 0,.bool false] 68 _ (Kept.refl _);obtain⟨W0,hW0⟩:∃W,w.alloc (.cells #[.string ⟨#[]⟩,.slice none 0 0,.slice none 0 0,.slice none 0 0,.bool false] 68)=W:=⟨_,rfl⟩
 have hs:W0.heap.size=w.heap.size+1:=by rw[←hW0];simp
 rw[hW0] at cc;obtain⟨W1,hW1⟩:∃W,W0.alloc (.cells #[.string ⟨#[99,112,117]⟩,.int .i64 c] 114)=W:=⟨_,rfl⟩
 have HR:=lH (YD W0 c hc W1 (by rw[hW1];exact Kept.refl _));rw[hs] at HR;have c1:=cc.kept (W':=W1) (by rw[←hW1];exact ja _ _);have KW:=lH (show Kept w W1 by rw[←hW1,←hW0];exact j0 _ _ _);have y0:=c1.at_ 0 _ rfl;have y1:=c1.at_ 1 _ rfl;have y2:=c1.at_ 2 _ rfl;have y3:=c1.at_ 3 _ rfl;have y4:=c1.at_ 4 _ rfl;have f0:=c1.free 0;have f1:=c1.free 1;have f2:=c1.free 2;have f3:=c1.free 3;have f4:=c1.free 4;have P:=lH (Z3 (vs:=[.string x,.slice (some ⟨w.heap.size+1,0,none⟩) 1 1,.slice none 0 0,.slice none 0 0,.bool false]) c1 rfl);clear c1 cc;go_enter Try.func25,Try.ntmps25;go_wp2;try rw[hW0]
 try rw[hW1]
 obtain⟨WE,hWE⟩:∃W,W1.setCells w.heap.size 0 [.string x,.slice (some ⟨w.heap.size+1,0,none⟩) 1 1,.slice none 0 0,.slice none 0 0,.bool false]=W:=⟨_,rfl⟩
 have hWE2:(((((W1.setCell ⟨w.heap.size,0,none⟩ (.string x)).setCell ⟨w.heap.size,1,none⟩ (.slice (some ⟨w.heap.size+1,0,none⟩) 1 1)).setCell ⟨w.heap.size,2,none⟩ (.slice none 0 0)).setCell ⟨w.heap.size,3,none⟩ (.slice none 0 0)).setCell ⟨w.heap.size,4,none⟩ (.bool false))=WE:=hWE;rw[hWE] at P;try rw[hWE2]
 clear hWE hWE2;obtain⟨PC,hsz,hbl,hkp⟩:=P.out;refine bodyPost_ret (by simp[results,Try.results25,go_sem,PC.at_ 0 _ rfl,PC.at_ 1 _ rfl,PC.at_ 2 _ rfl,PC.at_ 3 _ rfl,PC.at_ 4 _ rfl];try rfl) rfl ?_;exact⟨_,_,_,rfl,⟨hx,(HR.out.far hsz (fun b o s e=>hbl b (by cases e;omega))),Reads.nil _,Reads.nil _⟩,hkp _ _ (Nat.le_refl _) KW.out,fun b o z e=>by cases e;omega⟩
theorem jbT (x:ByteArray) (c:Int) (hc:-9223372036854775808≤c∧c≤9223372036854775807) (hx:x.size≤maxLen) (w:World) :
 Calls Try.prog 25 #[.string x,.int .i64 c] w fun e w'=>∃b1 n1 d1,e=.returned (.agg #[.string x,.slice b1 n1 d1,.slice none 0 0,.slice none 0 0,.bool false])∧j7 w' (.slice b1 n1 d1) (.slice none 0 0) (.slice none 0 0) (jaq x c)∧Kept w w' :=
 (X5 x c hc hx w).mono fun e w' ⟨b,n,d,h1,h2,h3,_⟩=>⟨b,n,d,h1,h2,h3⟩
theorem XC (x:ByteArray) (c:Int) (y:ByteArray) (hc:-9223372036854775808≤c∧c≤9223372036854775807) (hx:x.size≤maxLen) (hy:y.size≤maxLen) (w:World) :
 Calls Try.prog 26 #[.string x,.int .i64 c,.string y] w fun e w'=>∃b1 n1 d1,e=.returned (.agg #[.string x,.string ⟨#[]⟩,.int .i64 0,.slice b1 n1 d1,.slice none 0 0,.slice none 0 0,.slice none 0 0,.string ⟨#[]⟩,.int .i64 0,.string y,.bool false])∧jE w' (.slice b1 n1 d1) (.slice none 0 0) (.slice none 0 0) (.slice none 0 0) (jb7 x c y)∧Kept w w'∧∀b o z,b1=some ⟨b,o,z⟩→w.heap.size<b:=by
 have cc:=jf w (.string ⟨#[]⟩) [.string ⟨#[]⟩,.int .i64 0,.slice none 0 0,.slice none 0 0,.slice none 0 0,.slice none 0 0,.string ⟨#[]⟩,.int .i64 0,.string ⟨#[]⟩,.bool false] 35 _ (Kept.refl _);obtain⟨W0,hW0⟩:∃W,w.alloc (.cells #[.string ⟨#[]⟩,.string ⟨#[]⟩,.int .i64 0,.slice none 0 0,.slice none 0 0,.slice none 0 0,.slice none 0 0,.string ⟨#[]⟩,.int .i64 0,.string ⟨#[]⟩,.bool false] 35)=W:=⟨_,rfl⟩
 have hs:W0.heap.size=w.heap.size+1:=by rw[←hW0];simp
 rw[hW0] at cc;obtain⟨W1,hW1⟩:∃W,W0.alloc (.cells #[.string ⟨#[99,112,117]⟩,.int .i64 c] 114)=W:=⟨_,rfl⟩
 have HR:=lH (YD W0 c hc W1 (by rw[hW1];exact Kept.refl _));rw[hs] at HR;have c1:=cc.kept (W':=W1) (by rw[←hW1];exact ja _ _);have KW:=lH (show Kept w W1 by rw[←hW1,←hW0];exact j0 _ _ _);have y0:=c1.at_ 0 _ rfl;have y1:=c1.at_ 1 _ rfl;have y2:=c1.at_ 2 _ rfl;have y3:=c1.at_ 3 _ rfl;have y4:=c1.at_ 4 _ rfl;have y5:=c1.at_ 5 _ rfl;have y6:=c1.at_ 6 _ rfl;have y7:=c1.at_ 7 _ rfl;have y8:=c1.at_ 8 _ rfl;have y9:=c1.at_ 9 _ rfl;have y10:=c1.at_ 10 _ rfl;have f0:=c1.free 0;have f1:=c1.free 1;have f2:=c1.free 2;have f3:=c1.free 3;have f4:=c1.free 4;have f5:=c1.free 5;have f6:=c1.free 6;have f7:=c1.free 7;have f8:=c1.free 8;have f9:=c1.free 9;have f10:=c1.free 10;have P:=lH (Z3 (vs:=[.string x,.string ⟨#[]⟩,.int .i64 0,.slice (some ⟨w.heap.size+1,0,none⟩) 1 1,.slice none 0 0,.slice none 0 0,.slice none 0 0,.string ⟨#[]⟩,.int .i64 0,.string y,.bool false]) c1 rfl);clear c1 cc;go_enter Try.func26,Try.ntmps26;go_wp2;try rw[hW0]
 try rw[hW1]
 obtain⟨WE,hWE⟩:∃W,W1.setCells w.heap.size 0 [.string x,.string ⟨#[]⟩,.int .i64 0,.slice (some ⟨w.heap.size+1,0,none⟩) 1 1,.slice none 0 0,.slice none 0 0,.slice none 0 0,.string ⟨#[]⟩,.int .i64 0,.string y,.bool false]=W:=⟨_,rfl⟩
 have hWE2:(((((((((((W1.setCell ⟨w.heap.size,0,none⟩ (.string x)).setCell ⟨w.heap.size,1,none⟩ (.string ⟨#[]⟩)).setCell ⟨w.heap.size,2,none⟩ (.int .i64 0)).setCell ⟨w.heap.size,3,none⟩ (.slice (some ⟨w.heap.size+1,0,none⟩) 1 1)).setCell ⟨w.heap.size,4,none⟩ (.slice none 0 0)).setCell ⟨w.heap.size,5,none⟩ (.slice none 0 0)).setCell ⟨w.heap.size,6,none⟩ (.slice none 0 0)).setCell ⟨w.heap.size,7,none⟩ (.string ⟨#[]⟩)).setCell ⟨w.heap.size,8,none⟩ (.int .i64 0)).setCell ⟨w.heap.size,9,none⟩ (.string y)).setCell ⟨w.heap.size,10,none⟩ (.bool false))=WE:=hWE;rw[hWE] at P;try rw[hWE2]
 clear hWE hWE2;obtain⟨PC,hsz,hbl,hkp⟩:=P.out;refine bodyPost_ret (by simp[results,Try.results26,go_sem,PC.at_ 0 _ rfl,PC.at_ 1 _ rfl,PC.at_ 2 _ rfl,PC.at_ 3 _ rfl,PC.at_ 4 _ rfl,PC.at_ 5 _ rfl,PC.at_ 6 _ rfl,PC.at_ 7 _ rfl,PC.at_ 8 _ rfl,PC.at_ 9 _ rfl,PC.at_ 10 _ rfl];try rfl) rfl ?_;exact⟨_,_,_,rfl,⟨hx,(by decide:(0:Nat)≤maxLen),(by decide:(0:Nat)≤maxLen),hy,(by decide:(-9223372036854775808:Int)≤0∧(0:Int)≤9223372036854775807),(by decide:(-9223372036854775808:Int)≤0∧(0:Int)≤9223372036854775807),(HR.out.far hsz (fun b o s e=>hbl b (by cases e;omega))),Reads.nil _,Reads.nil _,Reads.nil _⟩,hkp _ _ (Nat.le_refl _) KW.out,fun b o z e=>by cases e;omega⟩
theorem YS {X:Type} {L:Lay X} {lx:List X} {q:Nat} {v:Value} {vs:List Value} {W:World} (hc:je L lx=v::vs) (c:jg q (v::vs) W) (hf:∀x ∈ lx,L.fine x) (hm:lx.length≤maxLen):jh L W (some ⟨q,0,none⟩) lx.length lx :=
 ⟨rfl,hm,hf,.inr ⟨q,0,rfl,c.lt,fun i x j u hi hj=>by
  have:=JA L lx i x j u hi hj;rw[hc] at this;rw[Nat.zero_add];exact c.at_ _ u this⟩⟩
theorem Y8 {w:World} {a:Option Addr} {len:Nat} {lx:List NX} (h:jh zq w a len lx) (hf:∀z ∈ lx,At3 w z):jt w a len (lx.map fun z=>z.1):=by
 obtain⟨g0,g1,g2,g3⟩:=h;refine⟨by rw[List.length_map];exact g0,g1,g3.imp id ?_⟩;rintro ⟨b,off,rfl,hb,hc⟩;refine⟨b,off,rfl,hb,fun i n hi=>?_⟩;rw[List.getElem?_map] at hi;obtain⟨z,hz,rfl⟩:=Option.map_eq_some_iff.1 hi;exact⟨_,_,_,_,_,_,_,_,_,hc i z 0 _ hz rfl,hc i z 1 _ hz rfl,hc i z 2 _ hz rfl,hc i z 3 _ hz rfl,hc i z 4 _ hz rfl,hf z (List.mem_of_getElem? hz)⟩
theorem Xy {w:World} {a:Option Addr} {len:Nat} {lx:List PX} (h:jh j6 w a len lx) (hf:∀z ∈ lx,At4 w z):jP w a len (lx.map fun z=>z.1):=by
 obtain⟨g0,g1,g2,g3⟩:=h;refine⟨by rw[List.length_map];exact g0,g1,g3.imp id ?_⟩;rintro ⟨b,off,rfl,hb,hc⟩;refine⟨b,off,rfl,hb,fun i n hi=>?_⟩;rw[List.getElem?_map] at hi;obtain⟨z,hz,rfl⟩:=Option.map_eq_some_iff.1 hi;exact⟨_,_,_,_,hc i z 0 _ hz rfl,hc i z 1 _ hz rfl,hc i z 2 _ hz rfl,hc i z 3 _ hz rfl,hc i z 4 _ hz rfl,hc i z 5 _ hz rfl,hc i z 6 _ hz rfl,hc i z 7 _ hz rfl,hc i z 8 _ hz rfl,hc i z 9 _ hz rfl,hc i z 10 _ hz rfl,hf z (List.mem_of_getElem? hz)⟩
theorem jch (x:ByteArray) (c:Int) (y:ByteArray) (hc:-9223372036854775808≤c∧c≤9223372036854775807) (hx:x.size≤maxLen) (hy:y.size≤maxLen) (w:World) :
 Calls Try.prog 26 #[.string x,.int .i64 c,.string y] w fun e w'=>∃b1 n1 d1,e=.returned (.agg #[.string x,.string ⟨#[]⟩,.int .i64 0,.slice b1 n1 d1,.slice none 0 0,.slice none 0 0,.slice none 0 0,.string ⟨#[]⟩,.int .i64 0,.string y,.bool false])∧jE w' (.slice b1 n1 d1) (.slice none 0 0) (.slice none 0 0) (.slice none 0 0) (jb7 x c y)∧Kept w w' :=
 (XC x c y hc hx hy w).mono fun e w' ⟨b,n,d,h1,h2,h3,_⟩=>⟨b,n,d,h1,h2,h3⟩
def Zj (W:World) (q:Nat):Prop:=∀i u,W.cell? ⟨q,i,none⟩=some u→∃a n c,u=.slice a n c
theorem jda {W:World} {q:Nat} {a1 a2 a3:Option Addr} {m1 c1 m2 c2 m3 c3:Nat} {T:TypeId} {fr:Nat×Nat} (hh:W.heap[q]?=some (.cells #[.slice a1 m1 c1,.slice a2 m2 c2,.slice a3 m3 c3] T fr)):Zj W q:=by
 intro i u h;rw[Lib.cell_of_heap hh] at h
 match i,h with
 | 0,h=>cases h;exact⟨_,_,_,rfl⟩
 | 1,h=>cases h;exact⟨_,_,_,rfl⟩
 | 2,h=>cases h;exact⟨_,_,_,rfl⟩
 | i+3,h=>simp at h
theorem Zj.noRow {W:World} {q:Nat} (h:Zj W q):Yt W q:=fun o x u h1 _=>by
 obtain⟨_,_,_,e⟩:=h _ _ h1
 cases e
theorem Zf {α:Type} {L:Lay α} {w w':World} {a:Option Addr} {len:Nat} {l:List α} {N:Nat} (hL:∀x,∃u,(L.cs x)[0]?=some u∧∀a n c,u≠.slice a n c) (h:jh L w a len l) (hs:w'.heap.size=w.heap.size) (hb:∀b,b≠N→w'.heap[b]?=w.heap[b]?) (hn:Zj w N):jh L w' a len l:=by
 obtain⟨h3,h4,h5,h6⟩:=h;refine⟨h3,h4,h5,?_⟩;rcases h6 with h6 | ⟨b,off,rfl,hlt,hc⟩
 · exact .inl h6
 · cases l with
   | nil=>exact .inl h3.symm
   | cons x t =>
    have hne:b≠N:=by
     rintro rfl;obtain⟨u,g0,g1⟩:=hL x;obtain⟨_,_,_,e⟩:=hn _ _ (hc 0 x 0 _ rfl g0);exact g1 _ _ _ e
    exact .inr ⟨b,off,rfl,by rw[hs];exact hlt,fun i x j u hi hj=>(World.cell?_of_block (a:=⟨b,off+i*L.m+j,none⟩) (hb b hne)).trans (hc i x j u hi hj)⟩
theorem Jy {α:Type} {L:Lay α} {w w':World} {v:Value} {l:List α} {N:Nat} (hL:∀x,∃u,(L.cs x)[0]?=some u∧∀a n c,u≠.slice a n c) (h:Reads L w v l) (hs:w'.heap.size=w.heap.size) (hb:∀b,b≠N→w'.heap[b]?=w.heap[b]?) (hn:Zj w N):Reads L w' v l:=by
 obtain⟨a,cap,rfl,h1,h2,h3⟩:=h;exact⟨a,cap,rfl,h1,h2,Zf hL h3 hs hb hn⟩
theorem jdE (x:ByteArray×ByteArray):∃u,(jr.cs x)[0]?=some u∧∀a n c,u≠.slice a n c:=⟨_,rfl,fun _ _ _ e=>by cases e⟩
theorem jdz (x:NT):∃u,(js.cs x)[0]?=some u∧∀a n c,u≠.slice a n c:=⟨_,rfl,fun _ _ _ e=>by cases e⟩
theorem jcu (x:Int×ByteArray×ByteArray):∃u,(jL.cs x)[0]?=some u∧∀a n c,u≠.slice a n c:=⟨_,rfl,fun _ _ _ e=>by cases e⟩
theorem jdD (x:NX):∃u,(zq.cs x)[0]?=some u∧∀a n c,u≠.slice a n c:=⟨_,rfl,fun _ _ _ e=>by cases e⟩
theorem jdm (x:PX):∃u,(j6.cs x)[0]?=some u∧∀a n c,u≠.slice a n c:=⟨_,rfl,fun _ _ _ e=>by cases e⟩
theorem jdu (x:BX):∃u,(za.cs x)[0]?=some u∧∀a n c,u≠.slice a n c:=⟨_,rfl,fun _ _ _ e=>by cases e⟩
theorem jcd {w:World} {a:Option Addr} {len:Nat} {lx:List BX} (h:jh za w a len lx) (hf:∀z ∈ lx,At1 w z):zj w a len (lx.map fun z=>z.1):=by
 obtain⟨g0,g1,g2,g3⟩:=h;refine⟨by rw[List.length_map];exact g0,g1,g3.imp id ?_⟩;rintro ⟨b,off,rfl,hb,hc⟩;refine⟨b,off,rfl,hb,fun i n hi=>?_⟩;rw[List.getElem?_map] at hi;obtain⟨z,hz,rfl⟩:=Option.map_eq_some_iff.1 hi;exact⟨_,hc i z 0 _ hz rfl,hc i z 1 _ hz rfl,hc i z 2 _ hz rfl,hf z (List.mem_of_getElem? hz)⟩
section
variable {w w':World} {N:Nat} (hs:w'.heap.size=w.heap.size) (hb:∀b,b≠N→w'.heap[b]?=w.heap[b]?) (hn:Zj w N)
include hs hb hn
theorem qk {v:Value} {l:List Nod} (h:j4 w v l):j4 w' v l:=by
 obtain⟨a,cap,rfl,h1,h2,h3⟩:=h;obtain⟨lx,hm,hr,hat⟩:=jcz h3;exact⟨a,cap,rfl,h1,h2,by rw[←hm];exact Y8 (by rw[hm];exact Zf jdD hr hs hb hn) fun z hz=>ZG (hat z hz) hs hb hn.noRow⟩
theorem jap {v:Value} {l:List Pd} (h:zu w v l):zu w' v l:=by
 obtain⟨a,cap,rfl,h1,h2,h3⟩:=h;obtain⟨lx,hm,hr,hat⟩:=jcJ h3;exact⟨a,cap,rfl,h1,h2,by
  rw[←hm];exact Xy (by rw[hm];exact Zf jdm hr hs hb hn) fun z hz=>by
   have g:=hat z hz;exact⟨g.name,g.owner,g.key,g.node,g.prio,g.most,X6 g.need hs hb hn.noRow,Jy jdE g.labels hs hb hn,Jy jcu g.sel hs hb hn,Jy jdz g.tols hs hb hn⟩⟩
theorem jaa {v:Value} {l:List Bd} (h:zp w v l):zp w' v l:=by
 obtain⟨a,cap,rfl,h1,h2,h3⟩:=h;obtain⟨lx,hm,hr,hat⟩:=jcV h3;exact⟨a,cap,rfl,h1,h2,by
  rw[←hm];exact jcd (by rw[hm];exact Zf jdu hr hs hb hn) fun z hz=>by
   have g:=hat z hz;exact⟨g.name,g.floor,Jy jcu g.sel hs hb hn⟩⟩
end
end Go.Proofs.Ytgfoenfaohhjcaa
namespace Go.Proofs.Ytgfoenfaohhjcaa
open Go.RowKit
theorem jdC {v:Value} {s:Clu} {w:World} (h:zU w v s) (hl:jbc s) (e1:s.nodes.length≤1000) (e2:s.pods.length≤1000) (e3:s.buds.length≤1000):Calls Try.prog 11 #[v] w fun e w'=>∃v,e=.returned v∧zU w' v s∧Kept w w':=by
 obtain⟨v1,v2,v3,rfl,⟨a,cap,rfl,l1,m1,h1⟩,⟨b,cp,rfl,l2,m2,h2⟩,⟨d,cb,rfl,l3,m3,h3⟩⟩:=h;obtain⟨nl,pl,bl⟩:=s;dsimp only at *;obtain⟨len,hlen⟩:∃q,nl.length=q:=⟨_,rfl⟩
 obtain⟨m,hm⟩:∃q,pl.length=q:=⟨_,rfl⟩
 obtain⟨n,hn⟩:∃q,bl.length=q:=⟨_,rfl⟩
 rw[hlen] at h1 l1;rw[hm] at h2 l2;rw[hn] at h3 l3;try rw[hlen]
 try rw[hm]
 try rw[hn]
 obtain⟨Z,hZ⟩:∃Z,(w.alloc (.cells #[.slice a len cap,.slice b m cp,.slice d n cb] 26)).alloc (.cells #[.slice none 0 0,.slice none 0 0,.slice none 0 0] 51)=Z:=⟨_,rfl⟩
 have hkz:Kept w Z:=by rw[←hZ];exact j0 _ _ _
 have cc:=jf w (.slice a len cap) [.slice b m cp,.slice d n cb] 26 Z (by rw[←hZ];exact ja _ _);have HH:=lH (show jg (w.heap.size+1) [.slice none 0 0,.slice none 0 0,.slice none 0 0] Z by
  have dd:=jf (w.alloc (.cells #[.slice a len cap,.slice b m cp,.slice d n cb] 26)) (.slice none 0 0) [.slice none 0 0,.slice none 0 0] 51 Z (by rw[hZ];exact Kept.refl _);rw[World.size_alloc] at dd;exact dd)
 have HN:=lH (fun W (k:Kept Z W)=>jdc (Zk l1 m1 (h1.kept (hkz.trans k))) hl.nodes e1);have HP:=lH (fun W (k:Kept Z W)=>jcW (qK l2 m2 (h2.kept (hkz.trans k))) hl.pods e2);have HB:=lH (fun W (k:Kept Z W)=>jc0 (YK l3 m3 (h3.kept (hkz.trans k))) hl.buds e3);have HKZ:=lH hkz;have HSL:=lH (show ∀W,Kept Z W→Zj W (w.heap.size+1) from fun W k=>by
  have hh:Z.heap[w.heap.size+1]?=some (.cells #[.slice none 0 0,.slice none 0 0,.slice none 0 0] 51):=by
   have:=(w.alloc (.cells #[.slice a len cap,.slice b m cp,.slice d n cb] 26)).alloc_heap_new (.cells #[.slice none 0 0,.slice none 0 0,.slice none 0 0] 51);rw[World.size_alloc,hZ] at this;exact this
  exact jda ((k.block _ (Array.getElem?_eq_some_iff.1 hh).1).trans hh))
 have HS:=lH (show ∀W,Kept Z W→W.cell? ⟨w.heap.size,0,none⟩=some (.slice a len cap)∧W.cell? ⟨w.heap.size,1,none⟩=some (.slice b m cp)∧W.cell? ⟨w.heap.size,2,none⟩=some (.slice d n cb) from fun W k=>⟨(cc.kept k).at_ 0 _ rfl,(cc.kept k).at_ 1 _ rfl,(cc.kept k).at_ 2 _ rfl⟩);have HS2:=lH (show ∀U W:World,(∀b,b≠w.heap.size+1→U.heap[b]?=W.heap[b]?)→Kept Z W→U.cell? ⟨w.heap.size,0,none⟩=some (.slice a len cap)∧U.cell? ⟨w.heap.size,1,none⟩=some (.slice b m cp)∧U.cell? ⟨w.heap.size,2,none⟩=some (.slice d n cb) from fun U W e k=>by
  have c:=(cc.kept k).block (e _ (by omega));exact⟨c.at_ 0 _ rfl,c.at_ 1 _ rfl,c.at_ 2 _ rfl⟩)
 clear h1 h2 h3 l1 l2 l3 m1 m2 m3 hkz cc hl e1 e2 e3;go_enter Try.func11,Try.ntmps11;go_wp2_with fail
 try rw[hZ]
 clear hZ;refine wp_region_held_drew (S:=fun W=>W.cell? ⟨w.heap.size,0,none⟩=some (.slice a len cap)∧W.cell? ⟨w.heap.size,1,none⟩=some (.slice b m cp)∧W.cell? ⟨w.heap.size,2,none⟩=some (.slice d n cb)) (by kernel_rfl) (HS.out _ (Kept.drew _)) (fun hHeld=>?_);refine wpAnyH_take  (i:=0) (v:=?_) (by rw[List.getElem?_toArray];exact rfl) (by kernel_rfl) (by kernel_rfl) (by kernel_rfl) (by exact fun _ _ _ h=>h) (Or.inl ⟨by rfl,(by rintro W ⟨o0,o1,o2⟩;go_simp<;>with_reducible rfl)⟩) (by assumption) ?_;try simp only  [Act.put,List.setIfInBounds_toArray,List.set_cons_zero,List.set_cons_succ]
 refine wpAnyH_take  (i:=1) (v:=?_) (by rw[List.getElem?_toArray];exact rfl) (by kernel_rfl) (by kernel_rfl) (by kernel_rfl) (by exact fun _ _ _ h=>h) (Or.inl ⟨by rfl,(by rintro W ⟨o0,o1,o2⟩;go_simp<;>with_reducible rfl)⟩) (by assumption) ?_;try simp only  [Act.put,List.setIfInBounds_toArray,List.set_cons_zero,List.set_cons_succ]
 refine wpAnyH_take  (i:=3) (v:=?_) (by rw[List.getElem?_toArray];exact rfl) (by kernel_rfl) (by kernel_rfl) (by kernel_rfl) (by exact fun _ _ _ h=>h) (Or.inl ⟨by rfl,(by rintro W ⟨o0,o1,o2⟩;go_simp<;>with_reducible rfl)⟩) (by assumption) ?_;try simp only  [Act.put,List.setIfInBounds_toArray,List.set_cons_zero,List.set_cons_succ]
 refine wpAnyH_take  (i:=4) (v:=?_) (by rw[List.getElem?_toArray];exact rfl) (by kernel_rfl) (by kernel_rfl) (by kernel_rfl) (by exact fun _ _ _ h=>h) (Or.inl ⟨by rfl,(by rintro W ⟨o0,o1,o2⟩;go_simp<;>with_reducible rfl)⟩) (by assumption) ?_;try simp only  [Act.put,List.setIfInBounds_toArray,List.set_cons_zero,List.set_cons_succ]
 refine wpAnyH_take  (i:=6) (v:=?_) (by rw[List.getElem?_toArray];exact rfl) (by kernel_rfl) (by kernel_rfl) (by kernel_rfl) (by exact fun _ _ _ h=>h) (Or.inl ⟨by rfl,(by rintro W ⟨o0,o1,o2⟩;go_simp<;>with_reducible rfl)⟩) (by assumption) ?_;try simp only  [Act.put,List.setIfInBounds_toArray,List.set_cons_zero,List.set_cons_succ]
 refine wpAnyH_take  (i:=7) (v:=?_) (by rw[List.getElem?_toArray];exact rfl) (by kernel_rfl) (by kernel_rfl) (by kernel_rfl) (by exact fun _ _ _ h=>h) (Or.inl ⟨by rfl,(by rintro W ⟨o0,o1,o2⟩;go_simp<;>with_reducible rfl)⟩) (by assumption) ?_;try simp only  [Act.put,List.setIfInBounds_toArray,List.set_cons_zero,List.set_cons_succ]
 have J:=lH (Kept.drew Z);refine wpAnyH_ready  (rs:=[2]) (by kernel_rfl) (by simp) (AllReadyH.cons  (by rw[List.getElem?_toArray];exact rfl) (fun K9 hK9=>?_) AllReadyH.nil);go_simp;refine(HN.out _ J.out).mono ?_;rintro e1 w1 ⟨u1,rfl,hr,kk⟩;have J:=lH (J.out.trans kk);have hr2:=hr;obtain⟨x1,q1,rfl,-,-,-⟩:=hr2;rw[hlen] at hr;try rw[hlen]
 have RR1:=lH hr;clear hr kk;refine hK9.out _ _ (HS.out _ J.out) (fun hHeld1=>?_);clear hK9 K9;try simp only  [Act.put,List.setIfInBounds_toArray,List.set_cons_zero,List.set_cons_succ]
 refine wpAnyH_ready  (rs:=[5]) (by kernel_rfl) (by simp) (AllReadyH.cons  (by rw[List.getElem?_toArray];exact rfl) (fun K9 hK9=>?_) AllReadyH.nil);go_simp;refine(HP.out _ J.out).mono ?_;rintro e2 w2 ⟨u2,rfl,hr,kk⟩;have J:=lH (J.out.trans kk);have RR1:=lH (RR1.out.kept kk);have hr2:=hr;obtain⟨x2,q2,rfl,-,-,-⟩:=hr2;rw[hm] at hr;try rw[hm]
 have RR2:=lH hr;clear hr kk;refine hK9.out _ _ (HS.out _ J.out) (fun hHeld2=>?_);clear hK9 K9;try simp only  [Act.put,List.setIfInBounds_toArray,List.set_cons_zero,List.set_cons_succ]
 refine wpAnyH_ready  (rs:=[8]) (by kernel_rfl) (by simp) (AllReadyH.cons  (by rw[List.getElem?_toArray];exact rfl) (fun K9 hK9=>?_) AllReadyH.nil);go_simp;refine(HB.out _ J.out).mono ?_;rintro e3 w3 ⟨u3,rfl,hr,kk⟩;have J:=lH (J.out.trans kk);have RR1:=lH (RR1.out.kept kk);have RR2:=lH (RR2.out.kept kk);have hr2:=hr;obtain⟨x3,q3,rfl,-,-,-⟩:=hr2;rw[hn] at hr;try rw[hn]
 have RR3:=lH hr;clear hr kk;refine hK9.out _ _ (HS.out _ J.out) (fun hHeld3=>?_);clear hK9 K9;try simp only  [Act.put,List.setIfInBounds_toArray,List.set_cons_zero,List.set_cons_succ]
 refine wpAnyH_take  (i:=9) (v:=?_) (by rw[List.getElem?_toArray];exact rfl) (by kernel_rfl) (by kernel_rfl) (by kernel_rfl) (by exact fun _ _ _ h=>h) (Or.inl ⟨by rfl,(by rintro W ⟨o0,o1,o2⟩;go_simp<;>with_reducible rfl)⟩) (by assumption) ?_;try simp only  [Act.put,List.setIfInBounds_toArray,List.set_cons_zero,List.set_cons_succ]
 have H9:=lH (HH.out.kept J.out);have z0:=H9.out.at_ 0 _ rfl;have z1:=H9.out.at_ 1 _ rfl;have z2:=H9.out.at_ 2 _ rfl;have f0:=H9.out.free 0;have f1:=H9.out.free 1;have f2:=H9.out.free 2;have PP:=lH (Z3 (vs:=[.slice x1 len q1,.slice x2 m q2,.slice x3 n q3]) H9.out rfl);refine wpAnyH_ready  (rs:=[10]) (by kernel_rfl) (by simp) (AllReadyH.cons  (by rw[List.getElem?_toArray];exact rfl) (fun K9 hK9=>?_) AllReadyH.nil);go_simp;obtain⟨WE,hWE⟩:∃W,w3.setCells (w.heap.size+1) 0 [.slice x1 len q1,.slice x2 m q2,.slice x3 n q3]=W:=⟨_,rfl⟩
 have hWE2:(((w3.setCell ⟨(w.heap.size+1),0,none⟩ (.slice x1 len q1)).setCell ⟨(w.heap.size+1),1,none⟩ (.slice x2 m q2)).setCell ⟨(w.heap.size+1),2,none⟩ (.slice x3 n q3))=WE:=hWE;rw[hWE] at PP;try rw[hWE2]
 obtain⟨PC,hsz,hbl,hkp⟩:=PP.out;skip;refine hK9.out _ _ (HS2.out _ _ hbl J.out) (fun hHeldS=>?_);clear hK9 K9 z0 z1 z2 f0 f1 f2;try simp only  [Act.put,List.setIfInBounds_toArray,List.set_cons_zero,List.set_cons_succ]
 refine wpAnyH_done (by kernel_rfl) ?_ _;go_wp2;refine bodyPost_ret (by simp[results,Try.results11,go_sem,PC.at_ 0 _ rfl,PC.at_ 1 _ rfl,PC.at_ 2 _ rfl];try rfl) rfl ?_;have SL:=HSL.out _ J.out;exact⟨_,rfl,⟨_,_,_,rfl,qk hsz hbl SL RR1.out,jap hsz hbl SL RR2.out,jaa hsz hbl SL RR3.out⟩,hkp _ _ (Nat.le_succ _) (HKZ.out.trans J.out)⟩
theorem jbM {n:Pd} (h:j5 n=true):Yp n:=by
 obtain⟨-,-,-,-,h1,h2,h3,h4⟩:=qt h;refine⟨?_,?_,?_,?_⟩
 · unfold Vec.Jk at h1;simp only[Bool.and_eq_true,decide_eq_true_eq] at h1;omega
 · have:=(qY h2).1;omega
 · have:=(jag h3).1;omega
 · have:=(qN h4).1;omega
def zN (s:Clu):Bool:=JS s&&decide (zQ s=0)
theorem Xr {s:Clu} (h:JS s=true):jbc s∧s.nodes.length≤34∧s.pods.length≤130∧s.buds.length≤20:=by
 unfold JS zG at h;simp only[Bool.and_eq_true,decide_eq_true_eq,List.all_eq_true] at h;obtain⟨h1,h2,⟨h3,h4⟩,h5,h6⟩:=h;refine⟨⟨fun n hn=>jcC (h5 n hn),fun p hp=>jbM (h6 p hp),fun n hn=>?_,by omega,by omega,by omega⟩,by omega,by omega,by omega⟩;have:=h4 n hn;unfold JJ Ja at this;simp only[Bool.and_eq_true,decide_eq_true_eq] at this;omega
theorem jbX {s:Clu} (h:zN s=true):JS s=true:=by unfold zN at h;exact(Bool.and_eq_true_iff.1 h).1
theorem XM {s:Clu} (h:zN s=true):zQ s=0:=by unfold zN at h;exact of_decide_eq_true (Bool.and_eq_true_iff.1 h).2
theorem jcG {v:Value} {s:Clu} {c:Bool} {w:World} (h:zU w v s) (hc:zN s=c):Calls Try.prog 7 #[v] w (Say (.bool c) w):=by
 subst hc;have h0:=h;obtain⟨v1,v2,v3,rfl,⟨a,cap,rfl,-,-,-⟩,⟨b,cp,rfl,-,-,-⟩,⟨d,cb,rfl,-,-,-⟩⟩:=h0;obtain⟨len,hl1⟩:∃q,s.nodes.length=q:=⟨_,rfl⟩
 obtain⟨m,hl2⟩:∃q,s.pods.length=q:=⟨_,rfl⟩
 obtain⟨n,hl3⟩:∃q,s.buds.length=q:=⟨_,rfl⟩
 rw[hl1,hl2,hl3] at h ⊢;clear hl1 hl2 hl3;obtain⟨Z,hZ⟩:∃Z,w.alloc (.cells #[.slice a len cap,.slice b m cp,.slice d n cb] 26)=Z:=⟨_,rfl⟩
 have hkz:Kept w Z:=by rw[←hZ];exact ja _ _
 have HC:=lH (show jg w.heap.size [.slice a len cap,.slice b m cp,.slice d n cb] Z from jf w (.slice a len cap) [.slice b m cp,.slice d n cb] 26 Z (by rw[hZ];exact Kept.refl _));have HV:=lH (h.kept hkz);have HKZ:=lH hkz;obtain⟨e1,he1⟩:∃e,JS s=e:=⟨_,rfl⟩
 have HE1:=lH he1;have HG:=lH (show zN s=(e1&&decide (zQ s=0)) by unfold zN;rw[he1]);rw[HG.out];clear h hkz;have cq0:=(HC.out.kept (Kept.refl _)).at_ 0 _ rfl;have cq1:=(HC.out.kept (Kept.refl _)).at_ 1 _ rfl;have cq2:=(HC.out.kept (Kept.refl _)).at_ 2 _ rfl;go_enter Try.func7,Try.ntmps7;go_wp2_with fail
 try rw[hZ]
 clear hZ;refine(jdg HV.out he1).mono ?_;rintro e w1 ⟨rfl,kk⟩;have K:=lH kk;clear kk he1 cq0 cq1 cq2;have cq0:=(HC.out.kept K.out).at_ 0 _ rfl;have cq1:=(HC.out.kept K.out).at_ 1 _ rfl;have cq2:=(HC.out.kept K.out).at_ 2 _ rfl
 cases e1 with
 | false =>
  go_wp2;go_ret;exact⟨rfl,HKZ.out.trans K.out⟩
 | true =>
  obtain⟨L1,L2,L3,L4⟩:=Xr HE1.out;have HL:=lH L1;clear L1;go_wp2_with fail
  refine(jdC (HV.out.kept K.out) HL.out (by omega) (by omega) (by omega)).mono ?_;rintro e w2 ⟨x9,rfl,hx,kk⟩;have K2:=lH (K.out.trans kk);have HX:=lH hx;clear hx kk cq0 cq1 cq2;go_wp2_with fail
  obtain⟨c,hc⟩:∃c,zQ s=c:=⟨_,rfl⟩
  refine(jbq HX.out hc).mono ?_;rintro e w3 ⟨rfl,kk⟩;have K3:=lH (K2.out.trans kk);have HCC:=lH hc;clear kk;rw[hc];clear hc;obtain⟨t,ht⟩:∃t,decide (c=0)=t:=⟨_,rfl⟩
  have ht':(c==0)=t:=ht;go_wp2;go_ret;exact⟨by rw[HCC.out,ht];rfl,HKZ.out.trans K3.out⟩
def jdf (l:Vec.V):Prop:=Vec.Gd l∧l.length≤8
theorem jdf.nil:jdf []:=⟨Vec.Gd.nil,by decide⟩
def Z5 (l:List Nod):Prop:=l.Pairwise fun x y=>ltS x.name y.name=true
theorem Y5:∀{prev:Option ByteArray} {l:List Nod},jJ prev l=0→(∀q,prev=some q→∀x ∈ l,ltS q x.name=true)∧Z5 l∧∀n ∈ l,jG n=0
 | _,[],_=>⟨fun q _ x h=>absurd h (by simp),.nil,fun n h=>absurd h (by simp)⟩
 | prev,n::t,h=>by
  by_cases z:jG n=0
  · by_cases y:Vec.jm prev n.name=true
    · rw[Zr z y] at h;cases h
    · have y:Vec.jm prev n.name=false:=by simpa using y
      rw[JT z y] at h;obtain⟨h2,h3,h4⟩:=Y5 h;refine⟨fun q hq x hx=>?_,List.pairwise_cons.2 ⟨fun x hx=>h2 _ rfl x hx,h3⟩,fun m hm=>?_⟩
      · subst hq;have hlt:ltS q n.name=true:=Vec.Y7 y;rcases List.mem_cons.1 hx with rfl | hx
        · exact hlt
        · exact Vec.zt hlt (h2 _ rfl x hx)
      · rcases List.mem_cons.1 hm with rfl | hm
        · exact z
        · exact h4 m hm
  · rw[Yb z] at h;exact absurd h z
theorem jbd {s:Clu} (h:zN s=true):Z5 s.nodes:=by
 have hc:=XM h;have h0:or3 (jw s.nodes) (jM s.pods) (jz s.buds)=0:=Decidable.byContradiction fun g=>g ((Yc (nl:=s.nodes) (pl:=s.pods) (bl:=s.buds) rfl g).symm.trans hc);have ho:jw s.nodes=0:=by
  unfold or3 at h0;split at h0
  · rename_i h1;exact absurd h0 h1
  · rename_i h1;exact Decidable.of_not_not h1
 unfold jw at ho;split at ho
 · cases ho
 · exact(Y5 ho).2.1
theorem JY {x y:ByteArray} (h:ltS x y=true):x≠y:=fun e=>by subst e;exact absurd (Vec.zt h h) (by rw[Vec.Zq];decide)
theorem qf (p q:Pd) (h:eqS q.name p.name=true):jK p q=false:=by unfold jK;rw[h];simp
def Zg (p q:Pd) (d:ByteArray):List Nod→Nat
 | []=>0
 | n::t=>(if jy n.labels p.key=some d∧q.node=n.name then 1 else 0)+Zg p q d t
theorem Xx (p q:Pd) (d:ByteArray):∀{l:List Nod},(∀n ∈ l,q.node≠n.name)→Zg p q d l=0
 | [],_=>rfl
 | n::t,h=>by rw[Zg,if_neg fun e=>h n (by simp) e.2,Xx p q d fun x hx=>h x (by simp[hx])]
theorem qO (p:Pd) (d:ByteArray):∀l:List Nod,inD p [] d l=0
 | []=>rfl
 | n::t=>by rw[inD,qO p d t];simp[onN]
theorem Zp (p q:Pd) (pods:List Pd) (d:ByteArray):∀l:List Nod,inD p (q::pods) d l=(if jK p q=true then Zg p q d l else 0)+inD p pods d l
 | []=>by simp[inD,Zg]
 | n::t=>by
  rw[inD,inD,Zg,Zp p q pods d t,onN];by_cases h1:jK p q=true<;>by_cases h2:jy n.labels p.key=some d<;>by_cases h3:q.node=n.name<;>simp[h1,h2,h3]<;>omega
def JM (key:ByteArray) (nodes:List Nod):List ByteArray:=nodes.filterMap fun n=>jy n.labels key
def zT (key:ByteArray) (nodes:List Nod):List (List UInt8):=(JM key nodes).map fun x=>x.data.toList
def Ji (l:List (List UInt8)):List (List UInt8):=l.mergeSort fun x y=>decide (x≤y)
def Zy (key:ByteArray) (nodes:List Nod):List (List UInt8):=Lib.compact (Ji (zT key nodes))
def zx (key:ByteArray) (nodes:List Nod):List ByteArray:=(Zy key nodes).map bytes
theorem Zd (d:Array (List UInt8)) (hs:∀i j,i<j→j<d.size→d[i]!≤d[j]!):∀m,m≤d.size→(Lib.compactUpTo d m).Pairwise (·<·)∧(∀x,x ∈ Lib.compactUpTo d m↔∃j,j<m∧d[j]! = x)∧(0<m→∀x ∈ Lib.compactUpTo d m,x≤d[m-1]!)
 | 0,_=>⟨List.Pairwise.nil,fun x=>⟨(fun h=>by cases h),(fun ⟨j,hj,_⟩=>absurd hj (Nat.not_lt_zero _))⟩,(fun h=>absurd h (by decide))⟩
 | m+1,hm=>by
  obtain⟨h1,h2,h3⟩:=Zd d hs m (by omega);rw[Lib.compactUpTo_succ];by_cases hk:Lib.keeps d m=true
  · rw[if_pos hk];have hlt:∀x ∈ Lib.compactUpTo d m,x<d[m]!:=fun x hx=>by
     obtain⟨j,hj,e⟩:=(h2 x).1 hx;have h5:=h3 (by omega) x hx;have h6:=hs (m-1) m (by omega) (by omega);unfold Lib.keeps at hk;have h7:d[m]!≠d[m-1]!:=by
      rcases of_decide_eq_true hk with h | h
      · omega
      · exact h
     rcases Decidable.em (x<d[m]!) with h | h
     · exact h
     · exact absurd (List.le_antisymm (List.le_trans (show d[m]!≤x from h) h5) h6) h7
    refine⟨List.pairwise_append.2 ⟨h1,List.pairwise_singleton ..,fun x hx y hy=>by rw[List.mem_singleton.1 hy];exact hlt x hx⟩,fun x=>?_,fun _ x hx=>?_⟩
    · rw[List.mem_append,List.mem_singleton];constructor
      · rintro (h | rfl)
        · obtain⟨j,hj,e⟩:=(h2 x).1 h;exact⟨j,by omega,e⟩
        · exact⟨m,by omega,rfl⟩
      · rintro ⟨j,hj,e⟩;by_cases hjm:j=m
        · exact .inr (by rw[←e,hjm])
        · exact .inl ((h2 x).2 ⟨j,by omega,e⟩)
    · rcases List.mem_append.1 hx with h | h
      · exact List.le_of_lt (hlt x h)
      · rw[List.mem_singleton.1 h];exact List.le_refl _
  · rw[if_neg hk,List.append_nil];have hk:Lib.keeps d m=false:=by simpa using hk
    unfold Lib.keeps at hk;have hk:=of_decide_eq_false hk;have hm0:0<m:=Nat.pos_of_ne_zero fun e=>hk (.inl e);have he:d[m]! = d[m-1]!:=Decidable.byContradiction fun g=>hk (.inr g);refine⟨h1,fun x=>⟨fun h=>?_,?_⟩,fun _ x hx=>?_⟩
    · obtain⟨j,hj,e⟩:=(h2 x).1 h;exact⟨j,by omega,e⟩
    · rintro ⟨j,hj,e⟩;by_cases hjm:j=m
      · exact(h2 x).2 ⟨m-1,by omega,by rw[←e,hjm,he]⟩
      · exact(h2 x).2 ⟨j,by omega,e⟩
    · show x≤d[m]!;rw[he];exact h3 hm0 x hx
theorem jbw (l:List (List UInt8)):(Ji l).Pairwise (·≤·):=by
 have tr:∀a b c:List UInt8,decide (a≤b)=true→decide (b≤c)=true→decide (a≤c)=true:=fun a b c h1 h2=>by simp only[decide_eq_true_eq] at *;exact List.le_trans h1 h2
 have tot:∀a b:List UInt8,(decide (a≤b)||decide (b≤a))=true:=fun a b=>by simp only[Bool.or_eq_true,decide_eq_true_eq];exact List.le_total a b
 exact(List.pairwise_mergeSort tr tot l).imp fun h=>of_decide_eq_true h
theorem Jf (key:ByteArray) (nodes:List Nod):(Zy key nodes).Pairwise (·<·)∧∀x,x ∈ Zy key nodes↔x ∈ zT key nodes:=by
 have hp:=jbw (zT key nodes);obtain⟨h1,h2,-⟩:=Zd (Ji (zT key nodes)).toArray (fun i j hij hj=>by
  have hj':j<(Ji (zT key nodes)).length:=by simpa using hj
  have:=List.pairwise_iff_getElem.1 hp i j (by omega) hj' hij;simpa [getElem!_pos,hj',show i<(Ji (zT key nodes)).length by omega] using this) (Ji (zT key nodes)).length (by simp)
 refine⟨h1,fun x=>(h2 x).trans ?_⟩;rw[←(List.mergeSort_perm (zT key nodes) fun x y=>decide (x≤y)).mem_iff];show _↔x ∈ Ji (zT key nodes);constructor
 · rintro ⟨j,hj,e⟩;rw[←e];simp[getElem!_pos,hj]
 · intro h;obtain⟨j,hj,e⟩:=List.getElem_of_mem h;exact⟨j,hj,by simpa [getElem!_pos,hj] using e⟩
theorem YZ:∀{l l':List (List UInt8)},l.Pairwise (·<·)→l'.Pairwise (·<·)→(∀x,x ∈ l↔x ∈ l')→l=l'
 | [],[],_,_,_=>rfl
 | [],y::u,_,_,h=>absurd ((h y).2 (by simp)) (by simp)
 | x::t,[],_,_,h=>absurd ((h x).1 (by simp)) (by simp)
 | x::t,y::u,h1,h2,h=>by
  obtain⟨a1,a2⟩:=List.pairwise_cons.1 h1;obtain⟨b1,b2⟩:=List.pairwise_cons.1 h2;have hxy:x=y:=by
   rcases List.mem_cons.1 ((h x).1 (by simp)) with e | e
   · exact e
   · rcases List.mem_cons.1 ((h y).2 (by simp)) with f | f
     · exact f.symm
     · exact absurd (List.lt_trans (b1 x e) (a1 y f)) (List.lt_irrefl _)
  subst hxy;rw[YZ a2 b2 fun z=>⟨fun hz=>?_,fun hz=>?_⟩]
  · rcases List.mem_cons.1 ((h z).1 (by simp[hz])) with e | e
    · subst e;exact absurd (a1 _ hz) (List.lt_irrefl _)
    · exact e
  · rcases List.mem_cons.1 ((h z).2 (by simp[hz])) with e | e
    · subst e;exact absurd (b1 _ hz) (List.lt_irrefl _)
    · exact e
theorem jaS {key:ByteArray} {l:List Nod} {k:Nat} {n:Nod} (h:l[k]?=some n):JM key (l.take (k+1))=JM key (l.take k)++(match jy n.labels key with | none=>[] | some d=>[d]):=by
 unfold JM;rw[List.take_add_one,h,List.filterMap_append]
 cases hg:jy n.labels key<;>simp[hg]
theorem jcn (key:ByteArray) (l:List Nod):(JM key l).length≤l.length:=List.length_filterMap_le _ _
theorem YA (p q:Pd) (d:ByteArray):∀{l:List Nod},Z5 l→Zg p q d l=if domV p.key q.node l=some d then 1 else 0
 | [],_=>by simp[Zg,domV]
 | n::t,h=>by
  obtain⟨h1,h2⟩:=List.pairwise_cons.1 h;rw[Zg,domV];by_cases e:q.node=n.name
  · rw[Xx p q d fun x hx=>fun e2=>JY (h1 x hx) (e.symm.trans e2),if_pos (show eqS n.name q.node=true from jB.2 e.symm),Nat.add_zero];by_cases g:jy n.labels p.key=some d
    · rw[if_pos ⟨g,e⟩,if_pos g]
    · rw[if_neg fun x=>g x.1,if_neg g]
  · rw[if_neg fun x=>e x.2,if_neg (show ¬eqS n.name q.node=true from fun g=>e (jB.1 g).symm),YA p q d h2,Nat.zero_add]
def jY (p:Pd) (pods:List Pd) (nodes:List Nod):List ByteArray→Nat
 | []=>0
 | d::t=>inD p pods d nodes+jY p pods nodes t
theorem Z6 (p:Pd) (pods:List Pd) (nodes:List Nod):∀a b:List ByteArray,jY p pods nodes (a++b)=jY p pods nodes a+jY p pods nodes b
 | [],b=>by simp[jY]
 | x::t,b=>by rw[List.cons_append,jY,jY,Z6 p pods nodes t b];omega
def zk (p:Pd) (nodes:List Nod) (q:Pd):Bool:=jK p q&&(domV p.key q.node nodes).isSome
def jT (p:Pd) (nodes:List Nod):List Pd→Nat
 | []=>0
 | q::t=>(if zk p nodes q=true then 1 else 0)+jT p nodes t
theorem Y3 (p:Pd) (nodes:List Nod):∀a b:List Pd,jT p nodes (a++b)=jT p nodes a+jT p nodes b
 | [],b=>by simp[jT]
 | x::t,b=>by rw[List.cons_append,jT,jT,Y3 p nodes t b];omega
theorem Z9 (p:Pd) (nodes:List Nod):∀l:List Pd,jT p nodes l≤l.length
 | []=>Nat.le_refl _
 | x::t=>by have:=Z9 p nodes t;rw[jT,List.length_cons];split<;>omega
theorem Xv (p:Pd) (nodes:List Nod):∀ds:List ByteArray,jY p [] nodes ds=0
 | []=>rfl
 | d::t=>by rw[jY,qO,Xv p nodes t]
theorem YU (p q:Pd) {nodes:List Nod} (h:Z5 nodes) (pods:List Pd):∀{ds:List ByteArray},(∀d ∈ ds,domV p.key q.node nodes≠some d)→jY p (q::pods) nodes ds=jY p pods nodes ds
 | [],_=>rfl
 | d::t,hd=>by
  rw[jY,jY,Zp,YA p q d h,if_neg (hd d (by simp)),YU p q h pods fun x hx=>hd x (by simp[hx])];simp
theorem YX (p q:Pd) {nodes:List Nod} (h:Z5 nodes) (pods:List Pd):∀{ds:List ByteArray},ds.Pairwise (·≠·)→(∀d,domV p.key q.node nodes=some d→d ∈ ds) →
 jY p (q::pods) nodes ds=(if zk p nodes q=true then 1 else 0)+jY p pods nodes ds
 | [],_,hm=>by
  have:zk p nodes q=false:=by
   unfold zk
   cases e:domV p.key q.node nodes with
   | none=>simp
   | some d=>exact absurd (hm d e) (by simp)
  rw[this];simp[jY]
 | d::t,hp,hm=>by
  obtain⟨h1,h2⟩:=List.pairwise_cons.1 hp;by_cases e:domV p.key q.node nodes=some d
  · rw[jY,jY,Zp,YA p q d h,if_pos e,YU p q h pods fun x hx=>by rw[e];intro g;exact h1 x hx (Option.some.inj g)];have:zk p nodes q=jK p q:=by unfold zk;rw[e];simp
    rw[this];omega
  · rw[jY,jY,Zp,YA p q d h,if_neg e,YX p q h pods h2 fun x hx=>by
     rcases List.mem_cons.1 (hm x hx) with g | g
     · subst g;exact absurd hx e
     · exact g]
    simp;omega
theorem YR (p:Pd) {nodes:List Nod} (h:Z5 nodes) {ds:List ByteArray} (hp:ds.Pairwise (·≠·)) (hm:∀x d,domV p.key x nodes=some d→d ∈ ds):∀pods:List Pd,jY p pods nodes ds=jT p nodes pods
 | []=>Xv p nodes ds
 | q::t=>by rw[YX p q h t hp (hm q.node),YR p h hp hm t,jT]
theorem jcs {key d:ByteArray} {nodes:List Nod}:d ∈ zx key nodes↔∃n ∈ nodes,jy n.labels key=some d:=by
 unfold zx;rw[List.mem_map];constructor
 · rintro ⟨x,hx,rfl⟩;have:=((Jf key nodes).2 x).1 hx;unfold zT JM at this;obtain⟨y,hy,rfl⟩:=List.mem_map.1 this;obtain⟨n,hn,e⟩:=List.mem_filterMap.1 hy;exact⟨n,hn,by rw[Zl];exact e⟩
 · rintro ⟨n,hn,e⟩;refine⟨d.data.toList,((Jf key nodes).2 _).2 ?_,Zl d⟩;unfold zT JM;exact List.mem_map.2 ⟨d,List.mem_filterMap.2 ⟨n,hn,e⟩,rfl⟩
theorem XL {key x d:ByteArray}:∀{nodes:List Nod},domV key x nodes=some d→∃n ∈ nodes,jy n.labels key=some d
 | n::t,h=>by
  rw[domV] at h;split at h
  · exact⟨n,by simp,h⟩
  · obtain⟨m,hm,e⟩:=XL h;exact⟨m,by simp[hm],e⟩
theorem YW (key:ByteArray) (nodes:List Nod):(zx key nodes).Pairwise fun x y=>ltS x y=true:=by
 unfold zx;rw[List.pairwise_map];refine(Jf key nodes).1.imp fun {a b} h=>?_;rw[Vec.Xp];show Op.bytesLess (bytes a).data.toList (bytes b).data.toList=true;rw[bytesLess_eq];exact decide_eq_true h
theorem jc3 (key:ByteArray) (nodes:List Nod):(zx key nodes).Pairwise (·≠·):=(YW key nodes).imp fun h=>JY h
theorem jcj {s:Clu} (h:Z5 s.nodes) (p:Pd):jY p s.pods s.nodes (zx p.key s.nodes)=jT p s.nodes s.pods :=
 YR p h (jc3 _ _) (fun x d hd=>jcs.2 (XL hd)) s.pods
theorem XP (p:Pd) (pods:List Pd) (d:ByteArray):∀{l:List Nod},(∀n ∈ l,jy n.labels p.key≠some d)→inD p pods d l=0
 | [],_=>rfl
 | n::t,h=>by rw[inD,if_neg (h n (by simp)),XP p pods d fun x hx=>h x (by simp[hx])]
theorem XN:∀{prev:Option ByteArray} {l:PL},j1 prev l=0→∀x ∈ l,isName x.2=true
 | _,[],_,x,hx=>by cases hx
 | prev,y::t,h,x,hx=>by
  rw[j1] at h;split at h
  · cases h
  · rename_i h1;split at h
    · cases h
    · rcases List.mem_cons.1 hx with rfl | hx
      · have h1:(isName x.1&&isName x.2)=true:=by simpa using h1
        exact(Bool.and_eq_true_iff.1 h1).2
      · exact XN h x hx
theorem XT {k d:ByteArray}:∀{l:PL},jy l k=some d→∃x ∈ l,x.2=d
 | y::t,h=>by
  rw[jy] at h;split at h
  · exact⟨y,by simp,Option.some.inj h⟩
  · obtain⟨x,hx,e⟩:=XT h;exact⟨x,by simp[hx],e⟩
theorem ZE:∀{prev:Option ByteArray} {l:List Nod},jJ prev l=0→∀n ∈ l,jG n=0
 | _,[],_,x,hx=>by cases hx
 | prev,y::t,h,x,hx=>by
  by_cases z:jG y=0
  · by_cases b:Vec.jm prev y.name=true
    · rw[Zr z b] at h;cases h
    · rw[JT z (by simpa using b)] at h;rcases List.mem_cons.1 hx with rfl | hx
      · exact z
      · exact ZE h x hx
  · rw[Yb z] at h;exact absurd h z
theorem Yo {s:Clu} (h:zN s=true):∀n ∈ s.nodes,jG n=0:=by
 have hc:=XM h;have h0:or3 (jw s.nodes) (jM s.pods) (jz s.buds)=0:=Decidable.byContradiction fun g=>g ((Yc (nl:=s.nodes) (pl:=s.pods) (bl:=s.buds) rfl g).symm.trans hc);have ho:jw s.nodes=0:=by
  unfold or3 at h0;split at h0
  · rename_i h1;exact absurd h0 h1
  · rename_i h1;exact Decidable.of_not_not h1
 unfold jw at ho;split at ho
 · cases ho
 · exact ZE ho
theorem jbP {n:Nod} (h:jG n=0):isName n.name=true:=by
 unfold jG at h;split at h
 · cases h
 · rename_i h1;simpa using h1
theorem jar {n:Nod} (h:jG n=0):∀x ∈ n.labels,isName x.2=true:=by
 unfold jG at h;split at h
 · cases h
 · split at h
   · rename_i h1;exact absurd h h1
   · split at h
     · rename_i h1;exact absurd h h1
     · rename_i h1;have h2:Jh n.labels=0:=Decidable.of_not_not h1;unfold Jh at h2;split at h2
       · cases h2
       · exact XN h2
theorem jal {s:Clu} (h:zN s=true) (p:Pd) {d:ByteArray} (hd:isName d=false):inD p s.pods d s.nodes=0 :=
 XP p s.pods d fun n hn e=>by
  obtain⟨x,hx,rfl⟩:=XT e;rw[jar (Yo h n hn) x hx] at hd
  cases hd
theorem ZX {key x:ByteArray} (hx:isName x=false):∀{l:List Nod},(∀n ∈ l,jG n=0)→domV key x l=none
 | [],_=>rfl
 | n::t,h=>by
  rw[domV,if_neg fun e=>by
   have:=jbP (h n (by simp));rw[jB.1 e,hx] at this
   cases this]
  exact ZX hx fun m hm=>h m (by simp[hm])
def zg:ByteArray:=⟨#[122,111,110,101]⟩
def jdo:ByteArray:=⟨#[119,101,98]⟩
def Z0 (x z:ByteArray):Nod:=⟨x,[(⟨#[99,112,117]⟩,100)],[(zg,z)],[],false⟩
def Z4 (x y:ByteArray) (m:Int):Pd:=⟨x,jdo,0,[(⟨#[99,112,117]⟩,1)],[],[],[],zg,m,y,false⟩
theorem jbZ {W:World} {b:Nat} {x y:ByteArray} (h:jg b [.string x,.string y] W) (hx:x.size≤maxLen) (hy:y.size≤maxLen):Reads jr W (.slice (some ⟨b,0,none⟩) 1 1) [(x,y)]:=by
 refine⟨_,1,rfl,(by decide:(1:Nat)≤1),(by decide:(1:Nat)≤maxLen),rfl,(by decide:(1:Nat)≤maxLen),fun z hz=>?_,.inr ⟨b,0,rfl,h.lt,fun i z j u hz hu=>?_⟩⟩
 · obtain rfl:z=(x,y):=by simpa using hz
   exact⟨hx,hy⟩
 · cases i with
   | zero =>
    cases hz
    match j,hu with
    | 0,hu=>cases hu;exact h.at_ 0 _ rfl
    | 1,hu=>cases hu;exact h.at_ 1 _ rfl
    | j+2,hu=>cases hu
   | succ i=>cases hz
theorem ZJ (x z:ByteArray) (hx:x.size≤maxLen) (hz:z.size≤maxLen) (w:World) :
 Calls Try.prog 22 #[.string x,.string z] w fun e w'=>∃b1 n1 d1 b2 n2 d2,e=.returned (.agg #[.string x,.slice b1 n1 d1,.slice b2 n2 d2,.slice none 0 0,.bool false])∧j7 w' (.slice b1 n1 d1) (.slice b2 n2 d2) (.slice none 0 0) (Z0 x z)∧Kept w w':=by
 have cc:=jf w (.string ⟨#[]⟩) [.slice none 0 0,.slice none 0 0,.slice none 0 0,.bool false] 68 _ (Kept.refl _);obtain⟨W0,hW0⟩:∃W,w.alloc (.cells #[.string ⟨#[]⟩,.slice none 0 0,.slice none 0 0,.slice none 0 0,.bool false] 68)=W:=⟨_,rfl⟩
 have k0:Kept w W0:=by rw[←hW0];exact ja _ _
 rw[hW0] at cc;have C0:=lH cc;have K0:=lH k0;clear cc k0;go_enter Try.func22,Try.ntmps22;go_wp2_with fail
 try rw[hW0]
 clear hW0;refine(X5 x 100 (by decide) hx _).mono ?_;rintro e w1 ⟨b1,n1,d1,rfl,HN,kk,hfar⟩;have HFA:=lH hfar;clear hfar;obtain⟨W2,hW2⟩:∃W,(w1.alloc (.cells #[.string x,.slice b1 n1 d1,.slice (some ⟨w1.heap.size+1,0,none⟩) 1 1,.slice none 0 0,.bool false] 68)).alloc (.cells #[.string ⟨#[122,111,110,101]⟩,.string z] 111)=W:=⟨_,rfl⟩
 have k2:Kept w1 W2:=by rw[←hW2];exact j0 _ _ _
 have HB:=lH (show jg (w1.heap.size+1) [.string ⟨#[122,111,110,101]⟩,.string z] W2 by
  have:=jf (w1.alloc (.cells #[.string x,.slice b1 n1 d1,.slice (some ⟨w1.heap.size+1,0,none⟩) 1 1,.slice none 0 0,.bool false] 68)) (.string ⟨#[122,111,110,101]⟩) [.string z] 111 W2 (by rw[hW2];exact Kept.refl _);simpa using this)
 have ha:=jf w1 (.string x) [.slice b1 n1 d1,.slice (some ⟨w1.heap.size+1,0,none⟩) 1 1,.slice none 0 0,.bool false] 68 W2 (by rw[←hW2];exact ja _ _);have z0:=ha.at_ 0 _ rfl;have z1:=ha.at_ 1 _ rfl;have z2:=ha.at_ 2 _ rfl;have z3:=ha.at_ 3 _ rfl;have z4:=ha.at_ 4 _ rfl;clear ha;have c1:=C0.out.kept (kk.trans k2);have hsz:=kk.size;have hlt:=C0.out.lt;have HN:=lH (HN.kept k2);have KW:=lH (K0.out.trans (kk.trans k2));have y0:=c1.at_ 0 _ rfl;have y1:=c1.at_ 1 _ rfl;have y2:=c1.at_ 2 _ rfl;have y3:=c1.at_ 3 _ rfl;have y4:=c1.at_ 4 _ rfl;have f0:=c1.free 0;have f1:=c1.free 1;have f2:=c1.free 2;have f3:=c1.free 3;have f4:=c1.free 4;have P:=lH (Z3 (vs:=[.string x,.slice b1 n1 d1,.slice (some ⟨w1.heap.size+1,0,none⟩) 1 1,.slice none 0 0,.bool false]) c1 rfl);clear c1 kk k2;go_upto_region 3 with fail
 try rw[hW2]
 clear hW2;go_wp2;obtain⟨WE,hWE⟩:∃W,W2.setCells w.heap.size 0 [.string x,.slice b1 n1 d1,.slice (some ⟨w1.heap.size+1,0,none⟩) 1 1,.slice none 0 0,.bool false]=W:=⟨_,rfl⟩
 have hWE2:(((((W2.setCell ⟨w.heap.size,0,none⟩ (.string x)).setCell ⟨w.heap.size,1,none⟩ (.slice b1 n1 d1)).setCell ⟨w.heap.size,2,none⟩ (.slice (some ⟨w1.heap.size+1,0,none⟩) 1 1)).setCell ⟨w.heap.size,3,none⟩ (.slice none 0 0)).setCell ⟨w.heap.size,4,none⟩ (.bool false))=WE:=hWE;rw[hWE] at P;try rw[hWE2]
 clear hWE hWE2;obtain⟨PC,hsz9,hbl,hkp⟩:=P.out;have HBE:jg (w1.heap.size+1) [.string ⟨#[122,111,110,101]⟩,.string z] WE:=HB.out.block (hbl _ (by omega));refine bodyPost_ret (by simp[results,Try.results22,go_sem,PC.at_ 0 _ rfl,PC.at_ 1 _ rfl,PC.at_ 2 _ rfl,PC.at_ 3 _ rfl,PC.at_ 4 _ rfl];try rfl) rfl ?_;refine⟨_,_,_,_,_,_,rfl,⟨hx,?_,?_,Reads.nil _⟩,hkp _ _ (Nat.le_refl _) KW.out⟩
 · exact HN.out.cap.far hsz9 fun b o s e=>hbl b (by have:=HFA.out b o s e;omega)
 · exact jbZ HBE (by decide) hz
theorem JP (x y:ByteArray) (m:Int) (hx:x.size≤maxLen) (hy:y.size≤maxLen) (hm:-9223372036854775808≤m∧m≤9223372036854775807) (w:World) :
 Calls Try.prog 24 #[.string x,.string y,.int .i64 m] w fun e w'=>∃b1 n1 d1,e=.returned (.agg #[.string x,.string ⟨#[119,101,98]⟩,.int .i64 0,.slice b1 n1 d1,.slice none 0 0,.slice none 0 0,.slice none 0 0,.string ⟨#[122,111,110,101]⟩,.int .i64 m,.string y,.bool false])∧jE w' (.slice b1 n1 d1) (.slice none 0 0) (.slice none 0 0) (.slice none 0 0) (Z4 x y m)∧Kept w w':=by
 have cc:=jf w (.string ⟨#[]⟩) [.string ⟨#[]⟩,.int .i64 0,.slice none 0 0,.slice none 0 0,.slice none 0 0,.slice none 0 0,.string ⟨#[]⟩,.int .i64 0,.string ⟨#[]⟩,.bool false] 35 _ (Kept.refl _);obtain⟨W0,hW0⟩:∃W,w.alloc (.cells #[.string ⟨#[]⟩,.string ⟨#[]⟩,.int .i64 0,.slice none 0 0,.slice none 0 0,.slice none 0 0,.slice none 0 0,.string ⟨#[]⟩,.int .i64 0,.string ⟨#[]⟩,.bool false] 35)=W:=⟨_,rfl⟩
 have k0:Kept w W0:=by rw[←hW0];exact ja _ _
 rw[hW0] at cc;have C0:=lH cc;have K0:=lH k0;clear cc k0;go_enter Try.func24,Try.ntmps24;go_wp2_with fail
 try rw[hW0]
 clear hW0;refine(XC x 1 y (by decide) hx hy _).mono ?_;rintro e w1 ⟨b1,n1,d1,rfl,HN,kk,hfar⟩;have HFA:=lH hfar;clear hfar;obtain⟨W2,hW2⟩:∃W,w1.alloc (.cells #[.string x,.string ⟨#[119,101,98]⟩,.int .i64 0,.slice b1 n1 d1,.slice none 0 0,.slice none 0 0,.slice none 0 0,.string ⟨#[122,111,110,101]⟩,.int .i64 m,.string y,.bool false] 35)=W:=⟨_,rfl⟩
 have k2:Kept w1 W2:=by rw[←hW2];exact ja _ _
 have ha:=jf w1 (.string x) [.string ⟨#[119,101,98]⟩,.int .i64 0,.slice b1 n1 d1,.slice none 0 0,.slice none 0 0,.slice none 0 0,.string ⟨#[122,111,110,101]⟩,.int .i64 m,.string y,.bool false] 35 W2 (by rw[hW2];exact Kept.refl _);have z0:=ha.at_ 0 _ rfl;have z1:=ha.at_ 1 _ rfl;have z2:=ha.at_ 2 _ rfl;have z3:=ha.at_ 3 _ rfl;have z4:=ha.at_ 4 _ rfl;have z5:=ha.at_ 5 _ rfl;have z6:=ha.at_ 6 _ rfl;have z7:=ha.at_ 7 _ rfl;have z8:=ha.at_ 8 _ rfl;have z9:=ha.at_ 9 _ rfl;have z10:=ha.at_ 10 _ rfl;clear ha;have c1:=C0.out.kept (kk.trans k2);have hsz:=kk.size;have hlt:=C0.out.lt;have HN:=lH (HN.kept k2);have KW:=lH (K0.out.trans (kk.trans k2));have y0:=c1.at_ 0 _ rfl;have y1:=c1.at_ 1 _ rfl;have y2:=c1.at_ 2 _ rfl;have y3:=c1.at_ 3 _ rfl;have y4:=c1.at_ 4 _ rfl;have y5:=c1.at_ 5 _ rfl;have y6:=c1.at_ 6 _ rfl;have y7:=c1.at_ 7 _ rfl;have y8:=c1.at_ 8 _ rfl;have y9:=c1.at_ 9 _ rfl;have y10:=c1.at_ 10 _ rfl;have f0:=c1.free 0;have f1:=c1.free 1;have f2:=c1.free 2;have f3:=c1.free 3;have f4:=c1.free 4;have f5:=c1.free 5;have f6:=c1.free 6;have f7:=c1.free 7;have f8:=c1.free 8;have f9:=c1.free 9;have f10:=c1.free 10;have P:=lH (Z3 (vs:=[.string x,.string ⟨#[119,101,98]⟩,.int .i64 0,.slice b1 n1 d1,.slice none 0 0,.slice none 0 0,.slice none 0 0,.string ⟨#[122,111,110,101]⟩,.int .i64 m,.string y,.bool false]) c1 rfl);clear c1 kk k2;go_upto_region 4 with fail
 try rw[hW2]
 clear hW2;go_wp2;obtain⟨WE,hWE⟩:∃W,W2.setCells w.heap.size 0 [.string x,.string ⟨#[119,101,98]⟩,.int .i64 0,.slice b1 n1 d1,.slice none 0 0,.slice none 0 0,.slice none 0 0,.string ⟨#[122,111,110,101]⟩,.int .i64 m,.string y,.bool false]=W:=⟨_,rfl⟩
 have hWE2:(((((((((((W2.setCell ⟨w.heap.size,0,none⟩ (.string x)).setCell ⟨w.heap.size,1,none⟩ (.string ⟨#[119,101,98]⟩)).setCell ⟨w.heap.size,2,none⟩ (.int .i64 0)).setCell ⟨w.heap.size,3,none⟩ (.slice b1 n1 d1)).setCell ⟨w.heap.size,4,none⟩ (.slice none 0 0)).setCell ⟨w.heap.size,5,none⟩ (.slice none 0 0)).setCell ⟨w.heap.size,6,none⟩ (.slice none 0 0)).setCell ⟨w.heap.size,7,none⟩ (.string ⟨#[122,111,110,101]⟩)).setCell ⟨w.heap.size,8,none⟩ (.int .i64 m)).setCell ⟨w.heap.size,9,none⟩ (.string y)).setCell ⟨w.heap.size,10,none⟩ (.bool false))=WE:=hWE;rw[hWE] at P;try rw[hWE2]
 clear hWE hWE2;obtain⟨PC,hsz9,hbl,hkp⟩:=P.out;refine bodyPost_ret (by simp[results,Try.results24,go_sem,PC.at_ 0 _ rfl,PC.at_ 1 _ rfl,PC.at_ 2 _ rfl,PC.at_ 3 _ rfl,PC.at_ 4 _ rfl,PC.at_ 5 _ rfl,PC.at_ 6 _ rfl,PC.at_ 7 _ rfl,PC.at_ 8 _ rfl,PC.at_ 9 _ rfl,PC.at_ 10 _ rfl];try rfl) rfl ?_;refine⟨_,_,_,rfl,⟨hx,(by decide:jdo.size≤maxLen),(by decide:zg.size≤maxLen),hy,(by decide:(-9223372036854775808:Int)≤0∧(0:Int)≤9223372036854775807),hm,?_,Reads.nil _,Reads.nil _,Reads.nil _⟩,hkp _ _ (Nat.le_refl _) KW.out⟩;exact HN.out.need.far hsz9 fun b o s e=>hbl b (by have:=HFA.out b o s e;omega)
def spA:ByteArray:=⟨#[97]⟩
def spB:ByteArray:=⟨#[98]⟩
def spC:ByteArray:=⟨#[99]⟩
def spD:ByteArray:=⟨#[100]⟩
def spX:ByteArray:=⟨#[120]⟩
def spY:ByteArray:=⟨#[121]⟩
def spP:Pd:=Z4 ⟨#[112]⟩ spA 1
def spQ:Pd:=Z4 ⟨#[113]⟩ spC 1
def spR:Pd:=Z4 ⟨#[114]⟩ ⟨#[]⟩ 1
def spK:Pd:=jb7 ⟨#[107]⟩ 1 ⟨#[]⟩
def spS:Clu:=⟨[Z0 spA spX,Z0 spB spY,Z0 spC spX,jaq spD 9],[spP,spQ,spR],[]⟩
theorem jdA:jN spR spS spB=(0,true):=by kernel_rfl
theorem jdv:jN spR spS spA=(3,true):=by kernel_rfl
theorem jds:jN spK spS spD=(0,true):=by kernel_rfl
theorem jdx:inD spR spS.pods spX spS.nodes=2:=by kernel_rfl
theorem jdt:inD spP spS.pods spX spS.nodes=1:=by kernel_rfl
theorem Xq:jcb spS=[⟨#[112]⟩,⟨#[113]⟩]:=by kernel_rfl
theorem jcv:zx zg spS.nodes=[spX,spY]:=by
 have h:zT zg spS.nodes=[[120],[121],[120]]:=by kernel_rfl
 have hd:Zy zg spS.nodes=[[120],[121]]:=YZ (Jf _ _).1 (by decide) fun x=>by
  rw[(Jf _ _).2,h];simp only[List.mem_cons,List.not_mem_nil,or_false];exact⟨fun e=>e.elim .inl fun e=>e.elim .inr .inl,fun e=>e.elim .inl fun e=>.inr (.inl e)⟩
 unfold zx;rw[hd];decide
theorem ZL (s1 s2 s3 a1 a2 a3 a4:Option Addr) (n1 e1 n2 e2 n3 e3 m1 c1 m2 c2 m3 c3 m4 c4:Nat) (p:Pd) (s:Clu) (d:ByteArray) (w:World) (hd:d.size≤maxLen) (hn:jt w s1 n1 s.nodes) (hp:jP w s2 n2 s.pods) (hb1:n1≤100000) (hb2:n2≤100000) :
 Calls Try.prog 17 #[.agg #[.slice s1 n1 e1,.slice s2 n2 e2,.slice s3 n3 e3],j2 p (.slice a1 m1 c1) (.slice a2 m2 c2) (.slice a3 m3 c3) (.slice a4 m4 c4),.string d] w (Say (.int .i64 (inD p s.pods d s.nodes:Int)) w):=by
 obtain⟨Z,hZ⟩:∃Z,(w.alloc (.cells #[.slice s1 n1 e1,.slice s2 n2 e2,.slice s3 n3 e3] 26)).alloc (.cells #[.string p.name,.string p.owner,.int .i64 p.prio,.slice a1 m1 c1,.slice a2 m2 c2,.slice a3 m3 c3,.slice a4 m4 c4,.string p.key,.int .i64 p.most,.string p.node,.bool p.hold] 35)=Z:=⟨_,rfl⟩
 have hkz:Kept w Z:=by rw[←hZ];exact j0 _ _ _
 have HSB:=lH (jf w (.slice s1 n1 e1) [.slice s2 n2 e2,.slice s3 n3 e3] 26 Z (by rw[←hZ];exact ja _ _));have HPB:=lH (show jg (w.heap.size+1) [.string p.name,.string p.owner,.int .i64 p.prio,.slice a1 m1 c1,.slice a2 m2 c2,.slice a3 m3 c3,.slice a4 m4 c4,.string p.key,.int .i64 p.most,.string p.node,.bool p.hold] Z by
  have dd:=jf (w.alloc (.cells #[.slice s1 n1 e1,.slice s2 n2 e2,.slice s3 n3 e3] 26)) (.string p.name) [.string p.owner,.int .i64 p.prio,.slice a1 m1 c1,.slice a2 m2 c2,.slice a3 m3 c3,.slice a4 m4 c4,.string p.key,.int .i64 p.most,.string p.node,.bool p.hold] 35 Z (by rw[hZ];exact Kept.refl _);rw[World.size_alloc] at dd;exact dd)
 have HT:=lH (Xb s1 s2 s3 a1 a2 a3 a4 n1 e1 n2 e2 n3 e3 m1 c1 m2 c2 m3 c3 m4 c4 p s.nodes s.pods Z (hn.kept hkz) (hp.kept hkz) hb1 hb2);have K:=lH hkz;clear hn hp hkz;have y0:=HSB.out.at_ 0 _ rfl;have y1:=HSB.out.at_ 1 _ rfl;have y2:=HSB.out.at_ 2 _ rfl;have r0:=HPB.out.at_ 0 _ rfl;have r1:=HPB.out.at_ 1 _ rfl;have r2:=HPB.out.at_ 2 _ rfl;have r3:=HPB.out.at_ 3 _ rfl;have r4:=HPB.out.at_ 4 _ rfl;have r5:=HPB.out.at_ 5 _ rfl;have r6:=HPB.out.at_ 6 _ rfl;have r7:=HPB.out.at_ 7 _ rfl;have r8:=HPB.out.at_ 8 _ rfl;have r9:=HPB.out.at_ 9 _ rfl;have r10:=HPB.out.at_ 10 _ rfl;unfold j2 at HT ⊢;go_enter Try.func17,Try.ntmps17;go_upto_region 1 with fail
 try rw[hZ]
 clear hZ;go_wp2_with fail
 refine HT.out.mono ?_;rintro e w1 ⟨b,n,rfl,hM,-,-,kk⟩;have K:=lH (K.out.trans kk);have hl:=hM.look d hd;clear kk hM y0 y1 y2 r0 r1 r2 r3 r4 r5 r6 r7 r8 r9 r10;go_wp2;go_ret;exact⟨rfl,K.out⟩
end Go.Proofs.Ytgfoenfaohhjcaa
