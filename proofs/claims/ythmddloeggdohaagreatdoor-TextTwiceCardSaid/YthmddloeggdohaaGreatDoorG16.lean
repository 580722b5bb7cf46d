/- The contracts of the functions that the law calls,and the law,walked. -/
import Derived.Test.YthmddloeggdohaaGreatDoorG2
import Derived.Test.YthmddloeggdohaaGreatDoorG4
import Derived.Test.YthmddloeggdohaaGreatDoorG5
import Derived.Test.YthmddloeggdohaaGreatDoorG8
import Derived.Test.YthmddloeggdohaaGreatDoorG12
import Derived.Test.YthmddloeggdohaaGreatDoorG13
import Derived.Test.YthmddloeggdohaaGreatDoorG15
set_option linter.unusedVariables false
set_option maxRecDepth 100000
set_option maxHeartbeats 25600000
namespace Go.Proofs.YthmddloeggdohaaGreatDoor
open Go.RowKit
theorem jkE {L:List (List UInt8)} {k:Nat} {x:ByteArray} (h:(L.map bytes)[k]?=some x):∃l,L[k]?=some l∧x=bytes l:=by
 rw[List.getElem?_map] at h;obtain⟨l,h1,h2⟩:=Option.map_eq_some_iff.1 h;exact⟨l,h1,h2.symm⟩
theorem jnT {n:Int} {m:Nat} (h:0≤n∧n≤255):∃j:Nat,n=(j:Int)∧j≤255∧n.tmod (m:Int)=((j % m:Nat):Int):=by
 obtain⟨j,rfl⟩:=Int.eq_ofNat_of_zero_le h.1;exact⟨j,rfl,by omega,rfl⟩
theorem TextTwice_walk (v:Value) (s:Clu) (n1:Int) (w:World) (hE:Jf w) (h:Zl w v s) (h1:(Lit.int .u8 n1).wf=true):Calls Tryz.prog 3 #[v,.int .u8 n1] w fun e w'=>e=.returned (.bool true)∧Kept w w':=by
 have HH:=lH h.held;have hs0:=h;obtain⟨_,_,_,rfl,⟨sa1,sc1,rfl,-,-,-⟩,⟨sa2,sc2,rfl,-,-,-⟩,⟨sa3,sc3,rfl,-,-,-⟩⟩:=hs0;obtain⟨sl1,hsl1⟩:∃q,(s).nodes.length=q:=⟨_,rfl⟩
 rw[hsl1] at h;try rw[hsl1]
 obtain⟨sl2,hsl2⟩:∃q,(s).pods.length=q:=⟨_,rfl⟩
 rw[hsl2] at h;try rw[hsl2]
 obtain⟨sl3,hsl3⟩:∃q,(s).buds.length=q:=⟨_,rfl⟩
 rw[hsl3] at h;try rw[hsl3]
 have HL1:=lH hsl1;have HL2:=lH hsl2;have HL3:=lH hsl3;clear hsl1 hsl2 hsl3;have HN1:=lH (bounds_u8 h1);clear h1;obtain⟨Z,hZ⟩:∃Z,w.alloc (.cells #[.slice sa1 sl1 sc1,.slice sa2 sl2 sc2,.slice sa3 sl3 sc3] 26)=Z:=⟨_,rfl⟩
 have hkz:Kept w Z:=by rw[←hZ];exact ja _ _
 have HQS:=lH (show jf w.heap.size [.slice sa1 sl1 sc1,.slice sa2 sl2 sc2,.slice sa3 sl3 sc3] Z from jg w (.slice sa1 sl1 sc1) [.slice sa2 sl2 sc2,.slice sa3 sl3 sc3] 26 Z (by rw[hZ];exact Kept.refl _));have HS:=lH (h.kept hkz);have HE:=lH (hE.kept hkz);have HKZ:=lH hkz;clear h hE hkz;try unfold jnN at HS
 have K:=lH (Kept.refl Z);go_enter Tryz.func3,Tryz.ntmps3;go_wp2_with fail
 try rw[hZ]
 clear hZ;refine(jhk Z HE.out).mono ?_;rintro e w1 ⟨rfl,kk⟩;have HQS:=lH (HQS.out.kept kk);have HS:=lH (HS.out.kept kk);have HE:=lH (HE.out.kept kk);have K:=lH (K.out.trans kk);clear kk;obtain⟨e1,he1⟩:∃e,Xw s=e:=⟨_,rfl⟩
 have HE1:=lH he1;have sq0:=HQS.out.at_ 0 _ rfl;have sq1:=HQS.out.at_ 1 _ rfl;have sq2:=HQS.out.at_ 2 _ rfl;go_wp2_with fail
 refine(jnz HS.out he1).mono ?_;rintro e w2 ⟨rfl,kk⟩;have HQS:=lH (HQS.out.kept kk);have HS:=lH (HS.out.kept kk);have HE:=lH (HE.out.kept kk);have K:=lH (K.out.trans kk);clear kk he1;clear sq0 sq1 sq2;have sq0:=HQS.out.at_ 0 _ rfl;have sq1:=HQS.out.at_ 1 _ rfl;have sq2:=HQS.out.at_ 2 _ rfl
 cases e1 with
 | false =>
  go_wp2;go_ret;exact⟨rfl,HKZ.out.trans K.out⟩
 | true =>
  have HG:=lH (joO HE1.out HH.out);have HL:=lH HG.out.low;obtain⟨L,hL⟩:∃q,Zh s=q:=⟨_,rfl⟩
  have HLL:=lH hL;obtain⟨n,hn⟩:∃q,L.length=q:=⟨_,rfl⟩
  have HNN:=lH hn;have HNL:=lH (show ∀l ∈ L,ZU l by
   rw[←hL,Y8];intro l hl;obtain⟨m,hm,rfl⟩:=List.mem_map.1 hl;exact(qH HG.out.fine m hm).1)
  have hnb:n≤168:=by rw[←hn,←hL];exact HG.out.lines
  have HLB:=lH (show Yn (unL L)=L.map bytes from jlu HNL.out);have HLS:=lH (show ∀l ∈ L,l.length≤3806 by rw[←hL];exact HG.out.len);go_wp2_with fail
  refine(jdo _ s _ HE.out.toEnvT HS.out HG.out.mid).mono ?_;rintro e w3 ⟨rfl,kk⟩;rw[jgv,hL];have HQS:=lH (HQS.out.kept kk);have HS:=lH (HS.out.kept kk);have HE:=lH (HE.out.kept kk);have K:=lH (K.out.trans kk);clear kk hL;clear sq0 sq1 sq2;have sq0:=HQS.out.at_ 0 _ rfl;have sq1:=HQS.out.at_ 1 _ rfl;have sq2:=HQS.out.at_ 2 _ rfl;go_wp2_with fail
  refine(jgl (unL L) _ (Nat.le_trans (ja5 (n:=168) HLS.out (by rw[HNN.out];exact hnb)) (by decide))).mono ?_;rintro e w4 ⟨la,lc,rfl,hrow,kk⟩;rw[HLB.out,List.length_map,HNN.out] at hrow;rw[HLB.out,List.length_map,HNN.out];have HQS:=lH (HQS.out.kept kk);have HS:=lH (HS.out.kept kk);have HE:=lH (HE.out.kept kk);have K:=lH (K.out.trans kk);have HR:=lH hrow;clear kk hrow;clear sq0 sq1 sq2;have sq0:=HQS.out.at_ 0 _ rfl;have sq1:=HQS.out.at_ 1 _ rfl;have sq2:=HQS.out.at_ 2 _ rfl;by_cases hn0:n=0
  · subst hn0;go_wp2;go_ret;exact⟨rfl,HKZ.out.trans K.out⟩
  have hz0:¬(n:Int)=0:=by omega
  have hz1:((n:Int)==0)=false:=by simpa using hz0
  go_wp2;clear sq0 sq1 sq2;go_loopw [6,7] (fun u i wr=>∃k:Nat,k≤n∧i=.int .i64 k∧u=.string (bytes (unL (L.take k)))∧Kept w4 wr) (fun u i _=>n-(intOf i).toNat)
  case atStart=>exact⟨0,Nat.zero_le _,rfl,rfl,Kept.refl _⟩
  case round =>
   obtain⟨k,hk,rfl,rfl,hK⟩:=hrel;have HKR:=lH hK;by_cases hlt:k<n
   · obtain⟨g,off,rfl,-⟩:=HR.out.2.2.2.resolve_left (by omega);obtain⟨x,hx,-,hg,hxs,hc⟩:=(HR.out.kept hK).str (k:=k) hlt;obtain⟨l,hl,rfl⟩:=jkE hx;have hll:=HLS.out l (List.mem_of_getElem? hl);have HNX:=lH (jl5 hl);have sx:(bytes l).size≤3806:=by rw[ji];exact hll
     obtain⟨y,hy⟩:∃y,bytes l=y:=⟨_,rfl⟩
     rw[hy] at HNX sx hc hxs;have su:(bytes (unL (L.take k))).size≤900000:=by
      rw[ji];exact Nat.le_trans (ja5 (n:=168) (fun l h=>HLS.out l (List.mem_of_mem_take h)) (by rw[List.length_take];omega)) (by decide)
     obtain⟨u,hu⟩:∃u,bytes (unL (L.take k))=u:=⟨_,rfl⟩
     rw[hu] at HNX su ⊢;have s1:(⟨#[10]⟩:ByteArray).size=1:=rfl;have ad1:∀W,(Op.stringOp .add u y).run Tryz.prog W=.ok (.string (u++y)) W:=fun W=>run_string_add_sum W _ _ (by omega);have ad2:∀W,(Op.stringOp .add (u++y) (⟨#[10]⟩:ByteArray)).run Tryz.prog W=.ok (.string (u++y++(⟨#[10]⟩:ByteArray))) W:=fun W=>run_string_add_sum W _ _ (by rw[ByteArray.size_append];omega);have hkk:(k:Int)<(n:Int):=by omega
     have hk0:¬(k:Int)<0:=by omega
     clear hK hu hy hl hx hxs su sx s1 hll;go_wp2;go_roundw
     case rel=>exact⟨k+1,by omega,by go_num,by rw[←HNX.out],HKR.out⟩
     case measure=>simp[intOf];omega
   · have hge:¬(k:Int)<(n:Int):=by omega
     have e2:L.take k=L:=List.take_of_length_le (by rw[HNN.out];omega);rw[e2];clear e2 hK;have HQS:=lH (HQS.out.kept HKR.out);have HS:=lH (HS.out.kept HKR.out);have HE:=lH (HE.out.kept HKR.out);have HR:=lH (HR.out.kept HKR.out);have K:=lH (K.out.trans HKR.out);obtain⟨j,hj,hj2,hjm⟩:=jnT (m:=n) HN1.out;have hr:j % n<n:=Nat.mod_lt _ (by omega);obtain⟨r,hre⟩:∃r,j % n=r:=⟨_,rfl⟩
     rw[hre] at hjm hr;obtain⟨g,off,rfl,-⟩:=HR.out.2.2.2.resolve_left (by omega);obtain⟨x,hx,-,hg,hxs,hc⟩:=HR.out.str (k:=r) hr;obtain⟨l,hl,rfl⟩:=jkE hx;have hll:=HLS.out l (List.mem_of_getElem? hl);have sx:(bytes l).size≤3806:=by rw[ji];exact hll
     have su:(bytes (unL L)).size≤900000:=by
      rw[ji];exact Nat.le_trans (ja5 (n:=168) HLS.out (by rw[HNN.out];exact hnb)) (by decide)
     have HU:=lH (show bytes (unL L)++bytes l=bytes (unL L++l) from jkL (by simp[bytes,ByteArray.data_append,Array.toList_append]));obtain⟨s9,HP⟩:=jhQ HG.out (s:=s) (j:=r) (l:=l) (by rw[HLL.out];exact hl) wr HE.out;rw[HLL.out,HNN.out,←HU.out] at HP;have HP:=lH HP;obtain⟨y,hy⟩:∃y,bytes l=y:=⟨_,rfl⟩
     rw[hy] at sx hc hxs HP;obtain⟨u,hu⟩:∃u,bytes (unL L)=u:=⟨_,rfl⟩
     rw[hu] at su HP ⊢;have ad1:∀W,(Op.stringOp .add u y).run Tryz.prog W=.ok (.string (u++y)) W:=fun W=>run_string_add_sum W _ _ (by omega);have hw1:IntKind.i64.wrap n1=n1:=IntWalk.i64_in _ (by have:=HN1.out;omega);have hrr:(r:Int)<(n:Int):=by omega
     have hr0:¬(r:Int)<0:=by omega
     clear hu hy hl hx hxs su sx hll hj hre;go_wp2_with fail
     refine HP.out.mono ?_;rintro e w5 hp;obtain⟨a1,m1,p1,a2,m2,p2,a3,m3,p3,rfl,-,-,-,-,kk⟩:=hp.wrong (by decide);have K:=lH (K.out.trans kk);clear kk hp;obtain⟨w6,hw6⟩:∃W,w5.alloc (.cells #[.slice a1 m1 p1,.slice a2 m2 p2,.slice a3 m3 p3] 26)=W:=⟨_,rfl⟩
     have K:=lH (K.out.trans (show Kept w5 w6 by rw[←hw6];exact ja _ _));go_wp2;go_ret;exact⟨rfl,HKZ.out.trans (by first | exact K.out | exact hw6▸K.out)⟩
end Go.Proofs.YthmddloeggdohaaGreatDoor
