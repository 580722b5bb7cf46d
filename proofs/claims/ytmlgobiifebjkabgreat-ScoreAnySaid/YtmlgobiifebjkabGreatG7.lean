/- C. -/
import Derived.Test.YtmlgobiifebjkabGreatG0
import Derived.Test.YtmlgobiifebjkabGreatG1
import Derived.Test.YtmlgobiifebjkabGreatG2
import Derived.Test.YtmlgobiifebjkabGreatG4
import Derived.Test.YtmlgobiifebjkabGreatG5
import Derived.Test.YtmlgobiifebjkabGreatG6
set_option linter.unusedVariables false
set_option maxRecDepth 100000
set_option maxHeartbeats 25600000
namespace Go.Proofs.YtmlgobiifebjkabGreat.Vec
open Go.RowKit Go.Proofs.YtmlgobiifebjkabGreat
theorem jlT:(Tryz.prog.info? 9).map (fun i=>(i.zero,i.size,i.bytes))=some (some (.string ByteArray.empty),1,16):=by kernel_rfl
def Names (ns:List ByteArray) (w:World) (e:Ending) (w':World):Prop:=∃x,e=.returned x∧Own ji 9 w' w.heap.size x ns∧Kept w w'
theorem qf (a a':Option Addr) (len cap len' cap':Nat) (l l':V) (w:World) (hr:jw w a len l) (hr':jw w a' len' l') (h8:len≤8) (h8':len'≤8) :
 Calls Tryz.prog 119 #[.slice a len cap,.slice a' len' cap'] w (Names (zg (l.length+l'.length) l l') w):=by
 have HA:=lH hr;have HB:=lH hr';have HL:=lH hr.1;have HL':=lH hr'.1;have HF:=lH hr.2.2.1;have HF':=lH hr'.2.2.1;obtain⟨i0,hi,hz0,hz1,hz2⟩:=info_parts jlT;obtain⟨NS,hNS⟩:∃NS,zg (l.length+l'.length) l l'=NS:=⟨_,rfl⟩
 rw[hNS];have RO:=lH hNS;clear hr hr' hNS;go_enter Tryz.func119,Tryz.ntmps119;go_wp2
 go_loopw [5,6,7] (fun v vi vk wr=>∃(i k fuel:Nat) (acc:List ByteArray),i≤len∧k≤len'∧vi=.int .i64 i∧vk=.int .i64 k∧acc++zg fuel (l.drop i) (l'.drop k)=NS∧(len-i)+(len'-k)≤fuel∧Own ji 9 wr w.heap.size v acc∧Below w.heap.size w wr∧acc.length≤i+k)
  (fun _ vi vk _=>(len-(intOf vi).toNat)+(len'-(intOf vk).toNat))
 case atStart=>exact⟨0,0,l.length+l'.length,[],Nat.zero_le _,Nat.zero_le _,rfl,rfl,RO.out,by rw[HL.out,HL'.out];omega,Own.nil _ _ _,Below.refl _ _,Nat.zero_le _⟩
 case round =>
  obtain⟨i,k,fuel,acc,hi1,hk1,rfl,rfl,hres,hfu,ho,hB,hacc⟩:=hrel;have HQ:=lH hres;have HO:=lH ho;have Vb:=lH hB;clear hres ho;by_cases hi2:i<len
  · obtain⟨b,off,rfl⟩:=HA.out.form.resolve_left (by omega);obtain⟨hb,c1,-⟩:=(HA.out.kept hB).cells hi2;have HI:=lH (show i<l.length by rw[HL.out];exact hi2);have NC:=lH (HF.out i HI.out).1;obtain⟨f2,rfl⟩:∃f2,fuel=f2+1:=⟨fuel-1,by omega⟩
    by_cases hk2:k<len'
    · obtain⟨b',off',rfl⟩:=HB.out.form.resolve_left (by omega);obtain⟨hb',d1,-⟩:=(HB.out.kept hB).cells hk2;have HK:=lH (show k<l'.length by rw[HL'.out];exact hk2);have US:=lH (HF'.out k HK.out).1;have hd:decide (len'≤k)=false:=decide_eq_false (by omega);have hd2:decide (len≤i)=false:=decide_eq_false (by omega);have hi3:(i:Int)<(len:Int):=by omega
      have hk3:(k:Int)<(len':Int):=by omega
      have HS:=lH (show ∀W,Kept wr W→W.cell? ⟨b,off+i*2,none⟩=some (.string (nm l i))∧W.cell? ⟨b',off'+k*2,none⟩=some (.string (nm l' k)) from fun W kk=>⟨cell_later kk c1,cell_later kk d1⟩);clear hB;by_cases e1:ltS (nm l i) (nm l' k)=true
      · have E1:=lH e1;have e1':Op.bytesLess (nm l i).toList (nm l' k).toList=true:=e1;clear e1;have HN:=lH (show acc++[nm l i]++zg f2 (l.drop (i+1)) (l'.drop (k))=NS by rw[←HQ.out,jbQ HI.out (.inr ⟨HK.out,E1.out⟩)];simp);go_wp2;clear c1 d1;refine wp_region_held_drew (S:=fun W=>W.cell? ⟨b,off+i*2,none⟩=some (.string (nm l i))∧W.cell? ⟨b',off'+k*2,none⟩=some (.string (nm l' k))) (by kernel_rfl) (HS.out _ (Kept.drew _)) (fun hHeld=>?_);refine tR 0 rfl (by kernel_rfl) (fun _ _ _=>id) (Or.inl ⟨by rfl,by rintro W ⟨c1,d1⟩;go_simp<;>with_reducible rfl⟩) ‹_› ?_;try simp only[nP]
        refine tR 1 rfl (by kernel_rfl) (fun _ _ _=>id) (Or.inl ⟨by rfl,by rintro W ⟨c1,d1⟩;go_simp<;>with_reducible rfl⟩) ‹_› ?_;try simp only[nP]
        refine tR 2 rfl (by kernel_rfl) (fun _ _ _=>id) (Or.inl ⟨by rfl,by rintro W ⟨c1,d1⟩;go_simp<;>with_reducible rfl⟩) ‹_› ?_;try simp only[nP]
        refine tR 3 rfl (by kernel_rfl) (fun _ _ _=>id) (Or.inl ⟨by rfl,by rintro W ⟨c1,d1⟩;go_simp<;>with_reducible rfl⟩) ‹_› ?_;try simp only[nP]
        refine tR 4 rfl (by kernel_rfl) (fun _ _ _=>id) (Or.inl ⟨by rfl,by rintro W ⟨c1,d1⟩;go_simp<;>with_reducible rfl⟩) ‹_› ?_;try simp only[nP]
        refine tR 5 rfl (by kernel_rfl) (fun _ _ _=>id) (Or.inl ⟨by rfl,by rintro W ⟨c1,d1⟩;go_simp<;>with_reducible rfl⟩) ‹_› ?_;try simp only[nP]
        refine tR 6 rfl (by kernel_rfl) (fun _ _ _=>id) (Or.inl ⟨by rfl,by rintro W ⟨c1,d1⟩;go_simp<;>with_reducible rfl⟩) ‹_› ?_;try simp only[nP]
        refine tR 7 rfl (by kernel_rfl) (fun _ _ _=>id) (Or.inl ⟨by rfl,by rintro W ⟨c1,d1⟩;go_simp<;>with_reducible rfl⟩) ‹_› ?_;try simp only[nP]
        refine tR 8 rfl (by kernel_rfl) (fun _ _ _=>id) (Or.inl ⟨by rfl,by rintro W ⟨c1,d1⟩;go_simp<;>with_reducible rfl⟩) ‹_› ?_;try simp only[nP]
        refine tR 9 rfl (by kernel_rfl) (fun _ _ _=>id) (Or.inl ⟨by rfl,by rintro W ⟨c1,d1⟩;go_simp<;>with_reducible rfl⟩) ‹_› ?_;try simp only[nP]
        refine tR 10 rfl (by kernel_rfl) (fun _ _ _=>id) (Or.inl ⟨by rfl,by rintro W ⟨c1,d1⟩;go_simp<;>with_reducible rfl⟩) ‹_› ?_;try simp only[nP]
        refine tR 11 rfl (by kernel_rfl) (fun _ _ _=>id) (Or.inl ⟨by rfl,by rintro W ⟨c1,d1⟩;go_simp<;>with_reducible rfl⟩) ‹_› ?_;try simp only[nP]
        refine tR 12 rfl (by kernel_rfl) (fun _ _ _=>id) (Or.inl ⟨by rfl,by rintro W ⟨c1,d1⟩;go_simp<;>with_reducible rfl⟩) ‹_› ?_;try simp only[nP]
        refine tR 13 rfl (by kernel_rfl) (fun _ _ _=>id) (Or.inl ⟨by rfl,by rintro W ⟨c1,d1⟩;go_simp<;>with_reducible rfl⟩) ‹_› ?_;try simp only[nP]
        refine tR 14 rfl (by kernel_rfl) (fun _ _ _=>id) (Or.inl ⟨by rfl,by rintro W ⟨c1,d1⟩;go_simp<;>with_reducible rfl⟩) ‹_› ?_;try simp only[nP]
        refine tR 15 rfl (by kernel_rfl) (fun _ _ _=>id) (Or.inl ⟨by rfl,by rintro W ⟨c1,d1⟩;go_simp<;>with_reducible rfl⟩) ‹_› ?_;try simp only[nP]
        refine tR 16 rfl (by kernel_rfl) (fun _ _ _=>id) (Or.inl ⟨by rfl,by rintro W ⟨c1,d1⟩;go_simp<;>with_reducible rfl⟩) ‹_› ?_;try simp only[nP]
        refine tR 17 rfl (by kernel_rfl) (fun _ _ _=>id) (Or.inl ⟨by rfl,by rintro W ⟨c1,d1⟩;go_simp<;>with_reducible rfl⟩) ‹_› ?_;try simp only[nP]
        refine tR 18 rfl (by kernel_rfl) (fun _ _ _=>id) (Or.inl ⟨by rfl,by rintro W ⟨c1,d1⟩;go_simp<;>with_reducible rfl⟩) ‹_› ?_;try simp only[nP]
        refine tR 19 rfl (by kernel_rfl) (fun _ _ _=>id) (Or.inl ⟨by rfl,by rintro W ⟨c1,d1⟩;go_simp<;>with_reducible rfl⟩) ‹_› ?_;try simp only[nP]
        refine tR 20 rfl (by kernel_rfl) (fun _ _ _=>id) (Or.inl ⟨by rfl,by rintro W ⟨c1,d1⟩;go_simp<;>with_reducible rfl⟩) ‹_› ?_;try simp only[nP]
        refine tR 21 rfl (by kernel_rfl) (fun _ _ _=>id) (Or.inl ⟨by rfl,by rintro W ⟨c1,d1⟩;go_simp<;>with_reducible rfl⟩) ‹_› ?_;try simp only[nP]
        refine tR 22 rfl (by kernel_rfl) (fun _ _ _=>id) (Or.inl ⟨by rfl,by rintro W ⟨c1,d1⟩;go_simp<;>with_reducible rfl⟩) ‹_› ?_;try simp only[nP]
        refine tR 23 rfl (by kernel_rfl) (fun _ _ _=>id) (Or.inl ⟨by rfl,by rintro W ⟨c1,d1⟩;go_simp<;>with_reducible rfl⟩) ‹_› ?_;try simp only[nP]
        refine wpAnyH_done (by kernel_rfl) ?_ _;have VX:=lH (show Kept wr (wr.drew) from(Kept.drew wr));obtain⟨c1,d1⟩:=HS.out _ VX.out;have hbw:(wr.drew).heap.size=wr.heap.size:=rfl;obtain⟨W1,hW1⟩:∃W,wr.drew=W:=⟨_,rfl⟩
        rw[hW1] at VX hbw c1 d1;try rw[hW1]
        try simp only[hW1]
        clear hW1;have hbase:w.heap.size≤W1.heap.size:=by rw[hbw];exact Vb.out.size
        have VD:=lH hbase;have OK:=lH (HO.out.kept VX.out);have hacc16:acc.length≤16:=by omega
        clear hbw;go_wp2_with (at_builtin;refine wpList_append_lies _ rfl _ _ _ rfl w.heap.size 9 i0 _ 1 16 Tryz.underlying58 hi hz0 hz1 hz2 rfl (by decide) u5 acc.length (jb ji acc) rfl (OK.out.1.alloc _) ⟨W1.heap.size,0,none⟩ 1 1 (ji.cs (nm l i)) rfl rfl (World.news_of_block (cs:=#[.string (nm l i)]) (t:=9) (fr:=(0,0)) (W1.alloc_heap_new _)) (qM (nm l i)) (by decide) (by unfold maxLen;omega) (by omega) (by rw[World.size_alloc];exact Nat.le_succ_of_le VD.out) (W1.heap.size+1) (World.size_alloc _ _) ?_;intro g cap1 w7 hown1 hgrow hg hlt7;refine Hid.out ?_)
        refine lH ?_;have VU:=lH (((Vb.out.trans (Below.mono VX.out Vb.out.size)).alloc (by exact VD.out) _).grown hgrow (by rw[World.size_alloc];exact Nat.le_succ_of_le VD.out) (fun j hj=>(HO.out.1.lt j hj).1));go_wp2;go_roundw
        case rel=>exact⟨i+1,k,f2,acc++[nm l i],by omega,by omega,by go_num,by go_num,HN.out,by omega,Own.snoc hown1 rfl HO.out.2 NC.out,VU.out,by rw[List.length_append];simp only[List.length_cons,List.length_nil];omega⟩
        case measure=>simp[intOf];omega
      · have e1:ltS (nm l i) (nm l' k)=false:=by simpa using e1
        have E1:=lH e1;have e1':Op.bytesLess (nm l i).toList (nm l' k).toList=false:=e1;clear e1;by_cases e2:ltS (nm l' k) (nm l i)=true
        · have E2:=lH e2;have e2':Op.bytesLess (nm l' k).toList (nm l i).toList=true:=e2;clear e2;have HN:=lH (show acc++[nm l' k]++zg f2 (l.drop (i)) (l'.drop (k+1))=NS by rw[←HQ.out,jba HK.out (.inr ⟨HI.out,E2.out⟩)];simp);go_wp2;clear c1 d1;refine wp_region_held_drew (S:=fun W=>W.cell? ⟨b,off+i*2,none⟩=some (.string (nm l i))∧W.cell? ⟨b',off'+k*2,none⟩=some (.string (nm l' k))) (by kernel_rfl) (HS.out _ (Kept.drew _)) (fun hHeld=>?_);refine tR 0 rfl (by kernel_rfl) (fun _ _ _=>id) (Or.inl ⟨by rfl,by rintro W ⟨c1,d1⟩;go_simp<;>with_reducible rfl⟩) ‹_› ?_;try simp only[nP]
          refine tR 1 rfl (by kernel_rfl) (fun _ _ _=>id) (Or.inl ⟨by rfl,by rintro W ⟨c1,d1⟩;go_simp<;>with_reducible rfl⟩) ‹_› ?_;try simp only[nP]
          refine tR 2 rfl (by kernel_rfl) (fun _ _ _=>id) (Or.inl ⟨by rfl,by rintro W ⟨c1,d1⟩;go_simp<;>with_reducible rfl⟩) ‹_› ?_;try simp only[nP]
          refine tR 3 rfl (by kernel_rfl) (fun _ _ _=>id) (Or.inl ⟨by rfl,by rintro W ⟨c1,d1⟩;go_simp<;>with_reducible rfl⟩) ‹_› ?_;try simp only[nP]
          refine tR 4 rfl (by kernel_rfl) (fun _ _ _=>id) (Or.inl ⟨by rfl,by rintro W ⟨c1,d1⟩;go_simp<;>with_reducible rfl⟩) ‹_› ?_;try simp only[nP]
          refine tR 5 rfl (by kernel_rfl) (fun _ _ _=>id) (Or.inl ⟨by rfl,by rintro W ⟨c1,d1⟩;go_simp<;>with_reducible rfl⟩) ‹_› ?_;try simp only[nP]
          refine tR 6 rfl (by kernel_rfl) (fun _ _ _=>id) (Or.inl ⟨by rfl,by rintro W ⟨c1,d1⟩;go_simp<;>with_reducible rfl⟩) ‹_› ?_;try simp only[nP]
          refine tR 7 rfl (by kernel_rfl) (fun _ _ _=>id) (Or.inl ⟨by rfl,by rintro W ⟨c1,d1⟩;go_simp<;>with_reducible rfl⟩) ‹_› ?_;try simp only[nP]
          refine tR 8 rfl (by kernel_rfl) (fun _ _ _=>id) (Or.inl ⟨by rfl,by rintro W ⟨c1,d1⟩;go_simp<;>with_reducible rfl⟩) ‹_› ?_;try simp only[nP]
          refine tR 9 rfl (by kernel_rfl) (fun _ _ _=>id) (Or.inl ⟨by rfl,by rintro W ⟨c1,d1⟩;go_simp<;>with_reducible rfl⟩) ‹_› ?_;try simp only[nP]
          refine tR 10 rfl (by kernel_rfl) (fun _ _ _=>id) (Or.inl ⟨by rfl,by rintro W ⟨c1,d1⟩;go_simp<;>with_reducible rfl⟩) ‹_› ?_;try simp only[nP]
          refine tR 11 rfl (by kernel_rfl) (fun _ _ _=>id) (Or.inl ⟨by rfl,by rintro W ⟨c1,d1⟩;go_simp<;>with_reducible rfl⟩) ‹_› ?_;try simp only[nP]
          refine tR 12 rfl (by kernel_rfl) (fun _ _ _=>id) (Or.inl ⟨by rfl,by rintro W ⟨c1,d1⟩;go_simp<;>with_reducible rfl⟩) ‹_› ?_;try simp only[nP]
          refine tR 13 rfl (by kernel_rfl) (fun _ _ _=>id) (Or.inl ⟨by rfl,by rintro W ⟨c1,d1⟩;go_simp<;>with_reducible rfl⟩) ‹_› ?_;try simp only[nP]
          refine tR 14 rfl (by kernel_rfl) (fun _ _ _=>id) (Or.inl ⟨by rfl,by rintro W ⟨c1,d1⟩;go_simp<;>with_reducible rfl⟩) ‹_› ?_;try simp only[nP]
          refine tR 15 rfl (by kernel_rfl) (fun _ _ _=>id) (Or.inl ⟨by rfl,by rintro W ⟨c1,d1⟩;go_simp<;>with_reducible rfl⟩) ‹_› ?_;try simp only[nP]
          refine tR 16 rfl (by kernel_rfl) (fun _ _ _=>id) (Or.inl ⟨by rfl,by rintro W ⟨c1,d1⟩;go_simp<;>with_reducible rfl⟩) ‹_› ?_;try simp only[nP]
          refine tR 17 rfl (by kernel_rfl) (fun _ _ _=>id) (Or.inl ⟨by rfl,by rintro W ⟨c1,d1⟩;go_simp<;>with_reducible rfl⟩) ‹_› ?_;try simp only[nP]
          refine tR 18 rfl (by kernel_rfl) (fun _ _ _=>id) (Or.inl ⟨by rfl,by rintro W ⟨c1,d1⟩;go_simp<;>with_reducible rfl⟩) ‹_› ?_;try simp only[nP]
          refine tR 19 rfl (by kernel_rfl) (fun _ _ _=>id) (Or.inl ⟨by rfl,by rintro W ⟨c1,d1⟩;go_simp<;>with_reducible rfl⟩) ‹_› ?_;try simp only[nP]
          refine tR 20 rfl (by kernel_rfl) (fun _ _ _=>id) (Or.inl ⟨by rfl,by rintro W ⟨c1,d1⟩;go_simp<;>with_reducible rfl⟩) ‹_› ?_;try simp only[nP]
          refine tR 21 rfl (by kernel_rfl) (fun _ _ _=>id) (Or.inl ⟨by rfl,by rintro W ⟨c1,d1⟩;go_simp<;>with_reducible rfl⟩) ‹_› ?_;try simp only[nP]
          refine tR 22 rfl (by kernel_rfl) (fun _ _ _=>id) (Or.inl ⟨by rfl,by rintro W ⟨c1,d1⟩;go_simp<;>with_reducible rfl⟩) ‹_› ?_;try simp only[nP]
          refine tR 23 rfl (by kernel_rfl) (fun _ _ _=>id) (Or.inl ⟨by rfl,by rintro W ⟨c1,d1⟩;go_simp<;>with_reducible rfl⟩) ‹_› ?_;try simp only[nP]
          refine wpAnyH_done (by kernel_rfl) ?_ _;go_wp2;refine wp_region_held_drew (S:=fun W=>W.cell? ⟨b,off+i*2,none⟩=some (.string (nm l i))∧W.cell? ⟨b',off'+k*2,none⟩=some (.string (nm l' k))) (by kernel_rfl) (HS.out _ ((Kept.drew _).trans (Kept.drew _))) (fun hHeld=>?_);refine tR 0 rfl (by kernel_rfl) (fun _ _ _=>id) (Or.inl ⟨by rfl,by rintro W ⟨c1,d1⟩;go_simp<;>with_reducible rfl⟩) ‹_› ?_;try simp only[nP]
          refine tR 1 rfl (by kernel_rfl) (fun _ _ _=>id) (Or.inl ⟨by rfl,by rintro W ⟨c1,d1⟩;go_simp<;>with_reducible rfl⟩) ‹_› ?_;try simp only[nP]
          refine tR 2 rfl (by kernel_rfl) (fun _ _ _=>id) (Or.inl ⟨by rfl,by rintro W ⟨c1,d1⟩;go_simp<;>with_reducible rfl⟩) ‹_› ?_;try simp only[nP]
          refine tR 3 rfl (by kernel_rfl) (fun _ _ _=>id) (Or.inl ⟨by rfl,by rintro W ⟨c1,d1⟩;go_simp<;>with_reducible rfl⟩) ‹_› ?_;try simp only[nP]
          refine tR 4 rfl (by kernel_rfl) (fun _ _ _=>id) (Or.inl ⟨by rfl,by rintro W ⟨c1,d1⟩;go_simp<;>with_reducible rfl⟩) ‹_› ?_;try simp only[nP]
          refine tR 5 rfl (by kernel_rfl) (fun _ _ _=>id) (Or.inl ⟨by rfl,by rintro W ⟨c1,d1⟩;go_simp<;>with_reducible rfl⟩) ‹_› ?_;try simp only[nP]
          refine tR 6 rfl (by kernel_rfl) (fun _ _ _=>id) (Or.inl ⟨by rfl,by rintro W ⟨c1,d1⟩;go_simp<;>with_reducible rfl⟩) ‹_› ?_;try simp only[nP]
          refine tR 7 rfl (by kernel_rfl) (fun _ _ _=>id) (Or.inl ⟨by rfl,by rintro W ⟨c1,d1⟩;go_simp<;>with_reducible rfl⟩) ‹_› ?_;try simp only[nP]
          refine tR 8 rfl (by kernel_rfl) (fun _ _ _=>id) (Or.inl ⟨by rfl,by rintro W ⟨c1,d1⟩;go_simp<;>with_reducible rfl⟩) ‹_› ?_;try simp only[nP]
          refine tR 9 rfl (by kernel_rfl) (fun _ _ _=>id) (Or.inl ⟨by rfl,by rintro W ⟨c1,d1⟩;go_simp<;>with_reducible rfl⟩) ‹_› ?_;try simp only[nP]
          refine tR 10 rfl (by kernel_rfl) (fun _ _ _=>id) (Or.inl ⟨by rfl,by rintro W ⟨c1,d1⟩;go_simp<;>with_reducible rfl⟩) ‹_› ?_;try simp only[nP]
          refine tR 11 rfl (by kernel_rfl) (fun _ _ _=>id) (Or.inl ⟨by rfl,by rintro W ⟨c1,d1⟩;go_simp<;>with_reducible rfl⟩) ‹_› ?_;try simp only[nP]
          refine tR 12 rfl (by kernel_rfl) (fun _ _ _=>id) (Or.inl ⟨by rfl,by rintro W ⟨c1,d1⟩;go_simp<;>with_reducible rfl⟩) ‹_› ?_;try simp only[nP]
          refine tR 13 rfl (by kernel_rfl) (fun _ _ _=>id) (Or.inl ⟨by rfl,by rintro W ⟨c1,d1⟩;go_simp<;>with_reducible rfl⟩) ‹_› ?_;try simp only[nP]
          refine tR 14 rfl (by kernel_rfl) (fun _ _ _=>id) (Or.inl ⟨by rfl,by rintro W ⟨c1,d1⟩;go_simp<;>with_reducible rfl⟩) ‹_› ?_;try simp only[nP]
          refine tR 15 rfl (by kernel_rfl) (fun _ _ _=>id) (Or.inl ⟨by rfl,by rintro W ⟨c1,d1⟩;go_simp<;>with_reducible rfl⟩) ‹_› ?_;try simp only[nP]
          refine tR 16 rfl (by kernel_rfl) (fun _ _ _=>id) (Or.inl ⟨by rfl,by rintro W ⟨c1,d1⟩;go_simp<;>with_reducible rfl⟩) ‹_› ?_;try simp only[nP]
          refine tR 17 rfl (by kernel_rfl) (fun _ _ _=>id) (Or.inl ⟨by rfl,by rintro W ⟨c1,d1⟩;go_simp<;>with_reducible rfl⟩) ‹_› ?_;try simp only[nP]
          refine wpAnyH_done (by kernel_rfl) ?_ _;have VX:=lH (show Kept wr (wr.drew.drew) from((Kept.drew wr).trans (Kept.drew _)));obtain⟨c1,d1⟩:=HS.out _ VX.out;have hbw:(wr.drew.drew).heap.size=wr.heap.size:=rfl;obtain⟨W1,hW1⟩:∃W,wr.drew.drew=W:=⟨_,rfl⟩
          rw[hW1] at VX hbw c1 d1;try rw[hW1]
          try simp only[hW1]
          clear hW1;have hbase:w.heap.size≤W1.heap.size:=by rw[hbw];exact Vb.out.size
          have VD:=lH hbase;have OK:=lH (HO.out.kept VX.out);have hacc16:acc.length≤16:=by omega
          clear hbw;go_wp2_with (at_builtin;refine wpList_append_lies _ rfl _ _ _ rfl w.heap.size 9 i0 _ 1 16 Tryz.underlying58 hi hz0 hz1 hz2 rfl (by decide) u5 acc.length (jb ji acc) rfl (OK.out.1.alloc _) ⟨W1.heap.size,0,none⟩ 1 1 (ji.cs (nm l' k)) rfl rfl (World.news_of_block (cs:=#[.string (nm l' k)]) (t:=9) (fr:=(0,0)) (W1.alloc_heap_new _)) (qM (nm l' k)) (by decide) (by unfold maxLen;omega) (by omega) (by rw[World.size_alloc];exact Nat.le_succ_of_le VD.out) (W1.heap.size+1) (World.size_alloc _ _) ?_;intro g cap1 w7 hown1 hgrow hg hlt7;refine Hid.out ?_)
          refine lH ?_;have VU:=lH (((Vb.out.trans (Below.mono VX.out Vb.out.size)).alloc (by exact VD.out) _).grown hgrow (by rw[World.size_alloc];exact Nat.le_succ_of_le VD.out) (fun j hj=>(HO.out.1.lt j hj).1));go_wp2;go_roundw
          case rel=>exact⟨i,k+1,f2,acc++[nm l' k],by omega,by omega,by go_num,by go_num,HN.out,by omega,Own.snoc hown1 rfl HO.out.2 US.out,VU.out,by rw[List.length_append];simp only[List.length_cons,List.length_nil];omega⟩
          case measure=>simp[intOf];omega
        · have e2:ltS (nm l' k) (nm l i)=false:=by simpa using e2
          have E2:=lH e2;have e2':Op.bytesLess (nm l' k).toList (nm l i).toList=false:=e2;clear e2;have HN:=lH (show acc++[nm l i]++zg f2 (l.drop (i+1)) (l'.drop (k+1))=NS by rw[←HQ.out,jjw HI.out HK.out E1.out E2.out];simp);go_wp2;clear c1 d1;refine wp_region_held_drew (S:=fun W=>W.cell? ⟨b,off+i*2,none⟩=some (.string (nm l i))∧W.cell? ⟨b',off'+k*2,none⟩=some (.string (nm l' k))) (by kernel_rfl) (HS.out _ (Kept.drew _)) (fun hHeld=>?_);refine tR 0 rfl (by kernel_rfl) (fun _ _ _=>id) (Or.inl ⟨by rfl,by rintro W ⟨c1,d1⟩;go_simp<;>with_reducible rfl⟩) ‹_› ?_;try simp only[nP]
          refine tR 1 rfl (by kernel_rfl) (fun _ _ _=>id) (Or.inl ⟨by rfl,by rintro W ⟨c1,d1⟩;go_simp<;>with_reducible rfl⟩) ‹_› ?_;try simp only[nP]
          refine tR 2 rfl (by kernel_rfl) (fun _ _ _=>id) (Or.inl ⟨by rfl,by rintro W ⟨c1,d1⟩;go_simp<;>with_reducible rfl⟩) ‹_› ?_;try simp only[nP]
          refine tR 3 rfl (by kernel_rfl) (fun _ _ _=>id) (Or.inl ⟨by rfl,by rintro W ⟨c1,d1⟩;go_simp<;>with_reducible rfl⟩) ‹_› ?_;try simp only[nP]
          refine tR 4 rfl (by kernel_rfl) (fun _ _ _=>id) (Or.inl ⟨by rfl,by rintro W ⟨c1,d1⟩;go_simp<;>with_reducible rfl⟩) ‹_› ?_;try simp only[nP]
          refine tR 5 rfl (by kernel_rfl) (fun _ _ _=>id) (Or.inl ⟨by rfl,by rintro W ⟨c1,d1⟩;go_simp<;>with_reducible rfl⟩) ‹_› ?_;try simp only[nP]
          refine tR 6 rfl (by kernel_rfl) (fun _ _ _=>id) (Or.inl ⟨by rfl,by rintro W ⟨c1,d1⟩;go_simp<;>with_reducible rfl⟩) ‹_› ?_;try simp only[nP]
          refine tR 7 rfl (by kernel_rfl) (fun _ _ _=>id) (Or.inl ⟨by rfl,by rintro W ⟨c1,d1⟩;go_simp<;>with_reducible rfl⟩) ‹_› ?_;try simp only[nP]
          refine tR 8 rfl (by kernel_rfl) (fun _ _ _=>id) (Or.inl ⟨by rfl,by rintro W ⟨c1,d1⟩;go_simp<;>with_reducible rfl⟩) ‹_› ?_;try simp only[nP]
          refine tR 9 rfl (by kernel_rfl) (fun _ _ _=>id) (Or.inl ⟨by rfl,by rintro W ⟨c1,d1⟩;go_simp<;>with_reducible rfl⟩) ‹_› ?_;try simp only[nP]
          refine tR 10 rfl (by kernel_rfl) (fun _ _ _=>id) (Or.inl ⟨by rfl,by rintro W ⟨c1,d1⟩;go_simp<;>with_reducible rfl⟩) ‹_› ?_;try simp only[nP]
          refine tR 11 rfl (by kernel_rfl) (fun _ _ _=>id) (Or.inl ⟨by rfl,by rintro W ⟨c1,d1⟩;go_simp<;>with_reducible rfl⟩) ‹_› ?_;try simp only[nP]
          refine tR 12 rfl (by kernel_rfl) (fun _ _ _=>id) (Or.inl ⟨by rfl,by rintro W ⟨c1,d1⟩;go_simp<;>with_reducible rfl⟩) ‹_› ?_;try simp only[nP]
          refine tR 13 rfl (by kernel_rfl) (fun _ _ _=>id) (Or.inl ⟨by rfl,by rintro W ⟨c1,d1⟩;go_simp<;>with_reducible rfl⟩) ‹_› ?_;try simp only[nP]
          refine tR 14 rfl (by kernel_rfl) (fun _ _ _=>id) (Or.inl ⟨by rfl,by rintro W ⟨c1,d1⟩;go_simp<;>with_reducible rfl⟩) ‹_› ?_;try simp only[nP]
          refine tR 15 rfl (by kernel_rfl) (fun _ _ _=>id) (Or.inl ⟨by rfl,by rintro W ⟨c1,d1⟩;go_simp<;>with_reducible rfl⟩) ‹_› ?_;try simp only[nP]
          refine tR 16 rfl (by kernel_rfl) (fun _ _ _=>id) (Or.inl ⟨by rfl,by rintro W ⟨c1,d1⟩;go_simp<;>with_reducible rfl⟩) ‹_› ?_;try simp only[nP]
          refine tR 17 rfl (by kernel_rfl) (fun _ _ _=>id) (Or.inl ⟨by rfl,by rintro W ⟨c1,d1⟩;go_simp<;>with_reducible rfl⟩) ‹_› ?_;try simp only[nP]
          refine tR 18 rfl (by kernel_rfl) (fun _ _ _=>id) (Or.inl ⟨by rfl,by rintro W ⟨c1,d1⟩;go_simp<;>with_reducible rfl⟩) ‹_› ?_;try simp only[nP]
          refine tR 19 rfl (by kernel_rfl) (fun _ _ _=>id) (Or.inl ⟨by rfl,by rintro W ⟨c1,d1⟩;go_simp<;>with_reducible rfl⟩) ‹_› ?_;try simp only[nP]
          refine tR 20 rfl (by kernel_rfl) (fun _ _ _=>id) (Or.inl ⟨by rfl,by rintro W ⟨c1,d1⟩;go_simp<;>with_reducible rfl⟩) ‹_› ?_;try simp only[nP]
          refine tR 21 rfl (by kernel_rfl) (fun _ _ _=>id) (Or.inl ⟨by rfl,by rintro W ⟨c1,d1⟩;go_simp<;>with_reducible rfl⟩) ‹_› ?_;try simp only[nP]
          refine tR 22 rfl (by kernel_rfl) (fun _ _ _=>id) (Or.inl ⟨by rfl,by rintro W ⟨c1,d1⟩;go_simp<;>with_reducible rfl⟩) ‹_› ?_;try simp only[nP]
          refine tR 23 rfl (by kernel_rfl) (fun _ _ _=>id) (Or.inl ⟨by rfl,by rintro W ⟨c1,d1⟩;go_simp<;>with_reducible rfl⟩) ‹_› ?_;try simp only[nP]
          refine wpAnyH_done (by kernel_rfl) ?_ _;go_wp2;refine wp_region_held_drew (S:=fun W=>W.cell? ⟨b,off+i*2,none⟩=some (.string (nm l i))∧W.cell? ⟨b',off'+k*2,none⟩=some (.string (nm l' k))) (by kernel_rfl) (HS.out _ ((Kept.drew _).trans (Kept.drew _))) (fun hHeld=>?_);refine tR 0 rfl (by kernel_rfl) (fun _ _ _=>id) (Or.inl ⟨by rfl,by rintro W ⟨c1,d1⟩;go_simp<;>with_reducible rfl⟩) ‹_› ?_;try simp only[nP]
          refine tR 1 rfl (by kernel_rfl) (fun _ _ _=>id) (Or.inl ⟨by rfl,by rintro W ⟨c1,d1⟩;go_simp<;>with_reducible rfl⟩) ‹_› ?_;try simp only[nP]
          refine tR 2 rfl (by kernel_rfl) (fun _ _ _=>id) (Or.inl ⟨by rfl,by rintro W ⟨c1,d1⟩;go_simp<;>with_reducible rfl⟩) ‹_› ?_;try simp only[nP]
          refine tR 3 rfl (by kernel_rfl) (fun _ _ _=>id) (Or.inl ⟨by rfl,by rintro W ⟨c1,d1⟩;go_simp<;>with_reducible rfl⟩) ‹_› ?_;try simp only[nP]
          refine tR 4 rfl (by kernel_rfl) (fun _ _ _=>id) (Or.inl ⟨by rfl,by rintro W ⟨c1,d1⟩;go_simp<;>with_reducible rfl⟩) ‹_› ?_;try simp only[nP]
          refine tR 5 rfl (by kernel_rfl) (fun _ _ _=>id) (Or.inl ⟨by rfl,by rintro W ⟨c1,d1⟩;go_simp<;>with_reducible rfl⟩) ‹_› ?_;try simp only[nP]
          refine tR 6 rfl (by kernel_rfl) (fun _ _ _=>id) (Or.inl ⟨by rfl,by rintro W ⟨c1,d1⟩;go_simp<;>with_reducible rfl⟩) ‹_› ?_;try simp only[nP]
          refine tR 7 rfl (by kernel_rfl) (fun _ _ _=>id) (Or.inl ⟨by rfl,by rintro W ⟨c1,d1⟩;go_simp<;>with_reducible rfl⟩) ‹_› ?_;try simp only[nP]
          refine tR 8 rfl (by kernel_rfl) (fun _ _ _=>id) (Or.inl ⟨by rfl,by rintro W ⟨c1,d1⟩;go_simp<;>with_reducible rfl⟩) ‹_› ?_;try simp only[nP]
          refine tR 9 rfl (by kernel_rfl) (fun _ _ _=>id) (Or.inl ⟨by rfl,by rintro W ⟨c1,d1⟩;go_simp<;>with_reducible rfl⟩) ‹_› ?_;try simp only[nP]
          refine tR 10 rfl (by kernel_rfl) (fun _ _ _=>id) (Or.inl ⟨by rfl,by rintro W ⟨c1,d1⟩;go_simp<;>with_reducible rfl⟩) ‹_› ?_;try simp only[nP]
          refine tR 11 rfl (by kernel_rfl) (fun _ _ _=>id) (Or.inl ⟨by rfl,by rintro W ⟨c1,d1⟩;go_simp<;>with_reducible rfl⟩) ‹_› ?_;try simp only[nP]
          refine tR 12 rfl (by kernel_rfl) (fun _ _ _=>id) (Or.inl ⟨by rfl,by rintro W ⟨c1,d1⟩;go_simp<;>with_reducible rfl⟩) ‹_› ?_;try simp only[nP]
          refine tR 13 rfl (by kernel_rfl) (fun _ _ _=>id) (Or.inl ⟨by rfl,by rintro W ⟨c1,d1⟩;go_simp<;>with_reducible rfl⟩) ‹_› ?_;try simp only[nP]
          refine tR 14 rfl (by kernel_rfl) (fun _ _ _=>id) (Or.inl ⟨by rfl,by rintro W ⟨c1,d1⟩;go_simp<;>with_reducible rfl⟩) ‹_› ?_;try simp only[nP]
          refine tR 15 rfl (by kernel_rfl) (fun _ _ _=>id) (Or.inl ⟨by rfl,by rintro W ⟨c1,d1⟩;go_simp<;>with_reducible rfl⟩) ‹_› ?_;try simp only[nP]
          refine tR 16 rfl (by kernel_rfl) (fun _ _ _=>id) (Or.inl ⟨by rfl,by rintro W ⟨c1,d1⟩;go_simp<;>with_reducible rfl⟩) ‹_› ?_;try simp only[nP]
          refine tR 17 rfl (by kernel_rfl) (fun _ _ _=>id) (Or.inl ⟨by rfl,by rintro W ⟨c1,d1⟩;go_simp<;>with_reducible rfl⟩) ‹_› ?_;try simp only[nP]
          refine wpAnyH_done (by kernel_rfl) ?_ _;have VX:=lH (show Kept wr (wr.drew.drew) from((Kept.drew wr).trans (Kept.drew _)));obtain⟨c1,d1⟩:=HS.out _ VX.out;have hbw:(wr.drew.drew).heap.size=wr.heap.size:=rfl;obtain⟨W1,hW1⟩:∃W,wr.drew.drew=W:=⟨_,rfl⟩
          rw[hW1] at VX hbw c1 d1;try rw[hW1]
          try simp only[hW1]
          clear hW1;have hbase:w.heap.size≤W1.heap.size:=by rw[hbw];exact Vb.out.size
          have VD:=lH hbase;have OK:=lH (HO.out.kept VX.out);have hacc16:acc.length≤16:=by omega
          clear hbw;go_wp2_with (at_builtin;refine wpList_append_lies _ rfl _ _ _ rfl w.heap.size 9 i0 _ 1 16 Tryz.underlying58 hi hz0 hz1 hz2 rfl (by decide) u5 acc.length (jb ji acc) rfl (OK.out.1.alloc _) ⟨W1.heap.size,0,none⟩ 1 1 (ji.cs (nm l i)) rfl rfl (World.news_of_block (cs:=#[.string (nm l i)]) (t:=9) (fr:=(0,0)) (W1.alloc_heap_new _)) (qM (nm l i)) (by decide) (by unfold maxLen;omega) (by omega) (by rw[World.size_alloc];exact Nat.le_succ_of_le VD.out) (W1.heap.size+1) (World.size_alloc _ _) ?_;intro g cap1 w7 hown1 hgrow hg hlt7;refine Hid.out ?_)
          refine lH ?_;have VU:=lH (((Vb.out.trans (Below.mono VX.out Vb.out.size)).alloc (by exact VD.out) _).grown hgrow (by rw[World.size_alloc];exact Nat.le_succ_of_le VD.out) (fun j hj=>(HO.out.1.lt j hj).1));go_wp2;go_roundw
          case rel=>exact⟨i+1,k+1,f2,acc++[nm l i],by omega,by omega,by go_num,by go_num,HN.out,by omega,Own.snoc hown1 rfl HO.out.2 NC.out,VU.out,by rw[List.length_append];simp only[List.length_cons,List.length_nil];omega⟩
          case measure=>simp[intOf];omega
    · have hk3:(len':Int)≤(k:Int):=by omega
      have hk4:decide ((k:Int)<(len':Int))=false:=decide_eq_false (by omega);have hk5:¬(k:Int)<(len':Int):=by omega
      have hd:decide (len'≤k)=true:=decide_eq_true (by omega);have hi3:(i:Int)<(len:Int):=by omega
      have HS:=lH (show ∀W,Kept wr W→W.cell? ⟨b,off+i*2,none⟩=some (.string (nm l i)) from fun W kk=>cell_later kk c1);clear hB;have HN:=lH (show acc++[nm l i]++zg f2 (l.drop (i+1)) (l'.drop (k))=NS by rw[←HQ.out,jbQ HI.out (.inl (by rw[HL'.out];omega))];simp);go_wp2;clear c1;refine wp_region_held_drew (S:=fun W=>W.cell? ⟨b,off+i*2,none⟩=some (.string (nm l i))) (by kernel_rfl) (HS.out _ (Kept.drew _)) (fun hHeld=>?_);refine tR 0 rfl (by kernel_rfl) (fun _ _ _=>id) (Or.inl ⟨by rfl,(by intro W hSw;go_simp<;>with_reducible rfl)⟩) ‹_› ?_;try simp only[nP]
      refine tR 1 rfl (by kernel_rfl) (fun _ _ _=>id) (Or.inl ⟨by rfl,(by intro W hSw;go_simp<;>with_reducible rfl)⟩) ‹_› ?_;try simp only[nP]
      refine tR 2 rfl (by kernel_rfl) (fun _ _ _=>id) (Or.inl ⟨by rfl,(by intro W hSw;go_simp<;>with_reducible rfl)⟩) ‹_› ?_;try simp only[nP]
      refine tR 3 rfl (by kernel_rfl) (fun _ _ _=>id) (Or.inl ⟨by rfl,(by intro W hSw;go_simp<;>with_reducible rfl)⟩) ‹_› ?_;try simp only[nP]
      refine tR 4 rfl (by kernel_rfl) (fun _ _ _=>id) (Or.inl ⟨by rfl,(by intro W hSw;go_simp<;>with_reducible rfl)⟩) ‹_› ?_;try simp only[nP]
      refine tR 5 (v:=undef) rfl (by kernel_rfl) (fun _ _ _=>id) (Or.inr ⟨by rfl,rfl⟩) ‹_› ?_;try simp only[nP]
      refine tR 6 (v:=undef) rfl (by kernel_rfl) (fun _ _ _=>id) (Or.inr ⟨by rfl,rfl⟩) ‹_› ?_;try simp only[nP]
      refine tR 7 (v:=undef) rfl (by kernel_rfl) (fun _ _ _=>id) (Or.inr ⟨by rfl,rfl⟩) ‹_› ?_;try simp only[nP]
      refine tR 8 (v:=undef) rfl (by kernel_rfl) (fun _ _ _=>id) (Or.inr ⟨by rfl,rfl⟩) ‹_› ?_;try simp only[nP]
      refine tR 9 (v:=undef) rfl (by kernel_rfl) (fun _ _ _=>id) (Or.inr ⟨by rfl,rfl⟩) ‹_› ?_;try simp only[nP]
      refine tR 10 (v:=undef) rfl (by kernel_rfl) (fun _ _ _=>id) (Or.inr ⟨by rfl,rfl⟩) ‹_› ?_;try simp only[nP]
      refine tR 11 (v:=undef) rfl (by kernel_rfl) (fun _ _ _=>id) (Or.inr ⟨by rfl,rfl⟩) ‹_› ?_;try simp only[nP]
      refine tR 12 (v:=undef) rfl (by kernel_rfl) (fun _ _ _=>id) (Or.inr ⟨by rfl,rfl⟩) ‹_› ?_;try simp only[nP]
      refine tR 13 (v:=undef) rfl (by kernel_rfl) (fun _ _ _=>id) (Or.inr ⟨by rfl,rfl⟩) ‹_› ?_;try simp only[nP]
      refine tR 14 (v:=undef) rfl (by kernel_rfl) (fun _ _ _=>id) (Or.inr ⟨by rfl,rfl⟩) ‹_› ?_;try simp only[nP]
      refine tR 15 (v:=undef) rfl (by kernel_rfl) (fun _ _ _=>id) (Or.inr ⟨by rfl,rfl⟩) ‹_› ?_;try simp only[nP]
      refine tR 16 (v:=undef) rfl (by kernel_rfl) (fun _ _ _=>id) (Or.inr ⟨by rfl,rfl⟩) ‹_› ?_;try simp only[nP]
      refine tR 17 (v:=undef) rfl (by kernel_rfl) (fun _ _ _=>id) (Or.inr ⟨by rfl,rfl⟩) ‹_› ?_;try simp only[nP]
      refine tR 18 (v:=undef) rfl (by kernel_rfl) (fun _ _ _=>id) (Or.inr ⟨by rfl,rfl⟩) ‹_› ?_;try simp only[nP]
      refine tR 19 (v:=undef) rfl (by kernel_rfl) (fun _ _ _=>id) (Or.inr ⟨by rfl,rfl⟩) ‹_› ?_;try simp only[nP]
      refine tR 20 (v:=undef) rfl (by kernel_rfl) (fun _ _ _=>id) (Or.inr ⟨by rfl,rfl⟩) ‹_› ?_;try simp only[nP]
      refine tR 21 (v:=undef) rfl (by kernel_rfl) (fun _ _ _=>id) (Or.inr ⟨by rfl,rfl⟩) ‹_› ?_;try simp only[nP]
      refine tR 22 rfl (by kernel_rfl) (fun _ _ _=>id) (Or.inl ⟨by rfl,(by intro W hSw;go_simp<;>with_reducible rfl)⟩) ‹_› ?_;try simp only[nP]
      refine tR 23 rfl (by kernel_rfl) (fun _ _ _=>id) (Or.inl ⟨by rfl,(by intro W hSw;go_simp<;>with_reducible rfl)⟩) ‹_› ?_;try simp only[nP]
      refine wpAnyH_done (by kernel_rfl) ?_ _;have VX:=lH (show Kept wr (wr.drew) from(Kept.drew wr));obtain c1:=HS.out _ VX.out;have hbw:(wr.drew).heap.size=wr.heap.size:=rfl;obtain⟨W1,hW1⟩:∃W,wr.drew=W:=⟨_,rfl⟩
      rw[hW1] at VX hbw c1;try rw[hW1]
      try simp only[hW1]
      clear hW1;have hbase:w.heap.size≤W1.heap.size:=by rw[hbw];exact Vb.out.size
      have VD:=lH hbase;have OK:=lH (HO.out.kept VX.out);have hacc16:acc.length≤16:=by omega
      clear hbw;go_wp2_with (at_builtin;refine wpList_append_lies _ rfl _ _ _ rfl w.heap.size 9 i0 _ 1 16 Tryz.underlying58 hi hz0 hz1 hz2 rfl (by decide) u5 acc.length (jb ji acc) rfl (OK.out.1.alloc _) ⟨W1.heap.size,0,none⟩ 1 1 (ji.cs (nm l i)) rfl rfl (World.news_of_block (cs:=#[.string (nm l i)]) (t:=9) (fr:=(0,0)) (W1.alloc_heap_new _)) (qM (nm l i)) (by decide) (by unfold maxLen;omega) (by omega) (by rw[World.size_alloc];exact Nat.le_succ_of_le VD.out) (W1.heap.size+1) (World.size_alloc _ _) ?_;intro g cap1 w7 hown1 hgrow hg hlt7;refine Hid.out ?_)
      refine lH ?_;have VU:=lH (((Vb.out.trans (Below.mono VX.out Vb.out.size)).alloc (by exact VD.out) _).grown hgrow (by rw[World.size_alloc];exact Nat.le_succ_of_le VD.out) (fun j hj=>(HO.out.1.lt j hj).1));go_wp2;go_roundw
      case rel=>exact⟨i+1,k,f2,acc++[nm l i],by omega,by omega,by go_num,by go_num,HN.out,by omega,Own.snoc hown1 rfl HO.out.2 NC.out,VU.out,by rw[List.length_append];simp only[List.length_cons,List.length_nil];omega⟩
      case measure=>simp[intOf];omega
  · by_cases hk2:k<len'
    · obtain⟨b',off',rfl⟩:=HB.out.form.resolve_left (by omega);obtain⟨hb',d1,-⟩:=(HB.out.kept hB).cells hk2;have HK:=lH (show k<l'.length by rw[HL'.out];exact hk2);have US:=lH (HF'.out k HK.out).1;obtain⟨f2,rfl⟩:∃f2,fuel=f2+1:=⟨fuel-1,by omega⟩
      have hd:decide (len'≤k)=false:=decide_eq_false (by omega);have hd2:decide (len≤i)=true:=decide_eq_true (by omega);have hi3:decide ((i:Int)<(len:Int))=false:=decide_eq_false (by omega);have hi5:¬(i:Int)<(len:Int):=by omega
      have hi6:(len:Int)≤(i:Int):=by omega
      have hk3:(k:Int)<(len':Int):=by omega
      have HS:=lH (show ∀W,Kept wr W→W.cell? ⟨b',off'+k*2,none⟩=some (.string (nm l' k)) from fun W kk=>cell_later kk d1);clear hB;have HN:=lH (show acc++[nm l' k]++zg f2 (l.drop (i)) (l'.drop (k+1))=NS by rw[←HQ.out,jba HK.out (.inl (by rw[HL.out];omega))];simp);go_wp2;clear d1;refine wp_region_held_drew (S:=fun W=>W.cell? ⟨b',off'+k*2,none⟩=some (.string (nm l' k))) (by kernel_rfl) (HS.out _ (Kept.drew _)) (fun hHeld=>?_);refine tR 0 rfl (by kernel_rfl) (fun _ _ _=>id) (Or.inl ⟨by rfl,(by intro W hSw;go_simp<;>with_reducible rfl)⟩) ‹_› ?_;try simp only[nP]
      refine tR 1 rfl (by kernel_rfl) (fun _ _ _=>id) (Or.inl ⟨by rfl,(by intro W hSw;go_simp<;>with_reducible rfl)⟩) ‹_› ?_;try simp only[nP]
      refine tR 2 rfl (by kernel_rfl) (fun _ _ _=>id) (Or.inl ⟨by rfl,(by intro W hSw;go_simp<;>with_reducible rfl)⟩) ‹_› ?_;try simp only[nP]
      refine tR 3 rfl (by kernel_rfl) (fun _ _ _=>id) (Or.inl ⟨by rfl,(by intro W hSw;go_simp<;>with_reducible rfl)⟩) ‹_› ?_;try simp only[nP]
      refine tR 4 rfl (by kernel_rfl) (fun _ _ _=>id) (Or.inl ⟨by rfl,(by intro W hSw;go_simp<;>with_reducible rfl)⟩) ‹_› ?_;try simp only[nP]
      refine tR 5 rfl (by kernel_rfl) (fun _ _ _=>id) (Or.inl ⟨by rfl,(by intro W hSw;go_simp<;>with_reducible rfl)⟩) ‹_› ?_;try simp only[nP]
      refine tR 6 rfl (by kernel_rfl) (fun _ _ _=>id) (Or.inl ⟨by rfl,(by intro W hSw;go_simp<;>with_reducible rfl)⟩) ‹_› ?_;try simp only[nP]
      refine tR 7 rfl (by kernel_rfl) (fun _ _ _=>id) (Or.inl ⟨by rfl,(by intro W hSw;go_simp<;>with_reducible rfl)⟩) ‹_› ?_;try simp only[nP]
      refine tR 8 rfl (by kernel_rfl) (fun _ _ _=>id) (Or.inl ⟨by rfl,(by intro W hSw;go_simp<;>with_reducible rfl)⟩) ‹_› ?_;try simp only[nP]
      refine tR 9 rfl (by kernel_rfl) (fun _ _ _=>id) (Or.inl ⟨by rfl,(by intro W hSw;go_simp<;>with_reducible rfl)⟩) ‹_› ?_;try simp only[nP]
      refine tR 10 (v:=undef) rfl (by kernel_rfl) (fun _ _ _=>id) (Or.inr ⟨by rfl,rfl⟩) ‹_› ?_;try simp only[nP]
      refine tR 11 (v:=undef) rfl (by kernel_rfl) (fun _ _ _=>id) (Or.inr ⟨by rfl,rfl⟩) ‹_› ?_;try simp only[nP]
      refine tR 12 (v:=undef) rfl (by kernel_rfl) (fun _ _ _=>id) (Or.inr ⟨by rfl,rfl⟩) ‹_› ?_;try simp only[nP]
      refine tR 13 (v:=undef) rfl (by kernel_rfl) (fun _ _ _=>id) (Or.inr ⟨by rfl,rfl⟩) ‹_› ?_;try simp only[nP]
      refine tR 14 (v:=undef) rfl (by kernel_rfl) (fun _ _ _=>id) (Or.inr ⟨by rfl,rfl⟩) ‹_› ?_;try simp only[nP]
      refine tR 15 (v:=undef) rfl (by kernel_rfl) (fun _ _ _=>id) (Or.inr ⟨by rfl,rfl⟩) ‹_› ?_;try simp only[nP]
      refine tR 16 (v:=undef) rfl (by kernel_rfl) (fun _ _ _=>id) (Or.inr ⟨by rfl,rfl⟩) ‹_› ?_;try simp only[nP]
      refine tR 17 (v:=undef) rfl (by kernel_rfl) (fun _ _ _=>id) (Or.inr ⟨by rfl,rfl⟩) ‹_› ?_;try simp only[nP]
      refine tR 18 (v:=undef) rfl (by kernel_rfl) (fun _ _ _=>id) (Or.inr ⟨by rfl,rfl⟩) ‹_› ?_;try simp only[nP]
      refine tR 19 (v:=undef) rfl (by kernel_rfl) (fun _ _ _=>id) (Or.inr ⟨by rfl,rfl⟩) ‹_› ?_;try simp only[nP]
      refine tR 20 (v:=undef) rfl (by kernel_rfl) (fun _ _ _=>id) (Or.inr ⟨by rfl,rfl⟩) ‹_› ?_;try simp only[nP]
      refine tR 21 rfl (by kernel_rfl) (fun _ _ _=>id) (Or.inl ⟨by rfl,(by intro W hSw;go_simp<;>with_reducible rfl)⟩) ‹_› ?_;try simp only[nP]
      refine tR 22 rfl (by kernel_rfl) (fun _ _ _=>id) (Or.inl ⟨by rfl,(by intro W hSw;go_simp<;>with_reducible rfl)⟩) ‹_› ?_;try simp only[nP]
      refine tR 23 rfl (by kernel_rfl) (fun _ _ _=>id) (Or.inl ⟨by rfl,(by intro W hSw;go_simp<;>with_reducible rfl)⟩) ‹_› ?_;try simp only[nP]
      refine wpAnyH_done (by kernel_rfl) ?_ _;go_wp2;refine wp_region_held_drew (S:=fun W=>W.cell? ⟨b',off'+k*2,none⟩=some (.string (nm l' k))) (by kernel_rfl) (HS.out _ ((Kept.drew _).trans (Kept.drew _))) (fun hHeld=>?_);refine tR 0 rfl (by kernel_rfl) (fun _ _ _=>id) (Or.inl ⟨by rfl,(by intro W hSw;go_simp<;>with_reducible rfl)⟩) ‹_› ?_;try simp only[nP]
      refine tR 1 rfl (by kernel_rfl) (fun _ _ _=>id) (Or.inl ⟨by rfl,(by intro W hSw;go_simp<;>with_reducible rfl)⟩) ‹_› ?_;try simp only[nP]
      refine tR 2 rfl (by kernel_rfl) (fun _ _ _=>id) (Or.inl ⟨by rfl,(by intro W hSw;go_simp<;>with_reducible rfl)⟩) ‹_› ?_;try simp only[nP]
      refine tR 3 rfl (by kernel_rfl) (fun _ _ _=>id) (Or.inl ⟨by rfl,(by intro W hSw;go_simp<;>with_reducible rfl)⟩) ‹_› ?_;try simp only[nP]
      refine tR 4 rfl (by kernel_rfl) (fun _ _ _=>id) (Or.inl ⟨by rfl,(by intro W hSw;go_simp<;>with_reducible rfl)⟩) ‹_› ?_;try simp only[nP]
      refine tR 5 (v:=undef) rfl (by kernel_rfl) (fun _ _ _=>id) (Or.inr ⟨by rfl,rfl⟩) ‹_› ?_;try simp only[nP]
      refine tR 6 (v:=undef) rfl (by kernel_rfl) (fun _ _ _=>id) (Or.inr ⟨by rfl,rfl⟩) ‹_› ?_;try simp only[nP]
      refine tR 7 (v:=undef) rfl (by kernel_rfl) (fun _ _ _=>id) (Or.inr ⟨by rfl,rfl⟩) ‹_› ?_;try simp only[nP]
      refine tR 8 (v:=undef) rfl (by kernel_rfl) (fun _ _ _=>id) (Or.inr ⟨by rfl,rfl⟩) ‹_› ?_;try simp only[nP]
      refine tR 9 (v:=undef) rfl (by kernel_rfl) (fun _ _ _=>id) (Or.inr ⟨by rfl,rfl⟩) ‹_› ?_;try simp only[nP]
      refine tR 10 (v:=undef) rfl (by kernel_rfl) (fun _ _ _=>id) (Or.inr ⟨by rfl,rfl⟩) ‹_› ?_;try simp only[nP]
      refine tR 11 (v:=undef) rfl (by kernel_rfl) (fun _ _ _=>id) (Or.inr ⟨by rfl,rfl⟩) ‹_› ?_;try simp only[nP]
      refine tR 12 (v:=undef) rfl (by kernel_rfl) (fun _ _ _=>id) (Or.inr ⟨by rfl,rfl⟩) ‹_› ?_;try simp only[nP]
      refine tR 13 (v:=undef) rfl (by kernel_rfl) (fun _ _ _=>id) (Or.inr ⟨by rfl,rfl⟩) ‹_› ?_;try simp only[nP]
      refine tR 14 (v:=undef) rfl (by kernel_rfl) (fun _ _ _=>id) (Or.inr ⟨by rfl,rfl⟩) ‹_› ?_;try simp only[nP]
      refine tR 15 (v:=undef) rfl (by kernel_rfl) (fun _ _ _=>id) (Or.inr ⟨by rfl,rfl⟩) ‹_› ?_;try simp only[nP]
      refine tR 16 rfl (by kernel_rfl) (fun _ _ _=>id) (Or.inl ⟨by rfl,(by intro W hSw;go_simp<;>with_reducible rfl)⟩) ‹_› ?_;try simp only[nP]
      refine tR 17 rfl (by kernel_rfl) (fun _ _ _=>id) (Or.inl ⟨by rfl,(by intro W hSw;go_simp<;>with_reducible rfl)⟩) ‹_› ?_;try simp only[nP]
      refine wpAnyH_done (by kernel_rfl) ?_ _;have VX:=lH (show Kept wr (wr.drew.drew) from((Kept.drew wr).trans (Kept.drew _)));obtain d1:=HS.out _ VX.out;have hbw:(wr.drew.drew).heap.size=wr.heap.size:=rfl;obtain⟨W1,hW1⟩:∃W,wr.drew.drew=W:=⟨_,rfl⟩
      rw[hW1] at VX hbw d1;try rw[hW1]
      try simp only[hW1]
      clear hW1;have hbase:w.heap.size≤W1.heap.size:=by rw[hbw];exact Vb.out.size
      have VD:=lH hbase;have OK:=lH (HO.out.kept VX.out);have hacc16:acc.length≤16:=by omega
      clear hbw;go_wp2_with (at_builtin;refine wpList_append_lies _ rfl _ _ _ rfl w.heap.size 9 i0 _ 1 16 Tryz.underlying58 hi hz0 hz1 hz2 rfl (by decide) u5 acc.length (jb ji acc) rfl (OK.out.1.alloc _) ⟨W1.heap.size,0,none⟩ 1 1 (ji.cs (nm l' k)) rfl rfl (World.news_of_block (cs:=#[.string (nm l' k)]) (t:=9) (fr:=(0,0)) (W1.alloc_heap_new _)) (qM (nm l' k)) (by decide) (by unfold maxLen;omega) (by omega) (by rw[World.size_alloc];exact Nat.le_succ_of_le VD.out) (W1.heap.size+1) (World.size_alloc _ _) ?_;intro g cap1 w7 hown1 hgrow hg hlt7;refine Hid.out ?_)
      refine lH ?_;have VU:=lH (((Vb.out.trans (Below.mono VX.out Vb.out.size)).alloc (by exact VD.out) _).grown hgrow (by rw[World.size_alloc];exact Nat.le_succ_of_le VD.out) (fun j hj=>(HO.out.1.lt j hj).1));go_wp2;go_roundw
      case rel=>exact⟨i,k+1,f2,acc++[nm l' k],by omega,by omega,by go_num,by go_num,HN.out,by omega,Own.snoc hown1 rfl HO.out.2 US.out,VU.out,by rw[List.length_append];simp only[List.length_cons,List.length_nil];omega⟩
      case measure=>simp[intOf];omega
    · have hi3:decide ((i:Int)<(len:Int))=false:=decide_eq_false (by omega);have hk3:decide ((k:Int)<(len':Int))=false:=decide_eq_false (by omega);have HE:=lH (show NS=acc by
       rw[←HQ.out,jiz (by simp only[List.length_drop];rw[HL.out,HL'.out];omega),List.append_nil])
      clear hB;go_wp2_with fail
      go_ret;exact⟨_,rfl,by rw[HE.out];exact HO.out,Vb.out⟩
theorem jaO:∀(fuel:Nat) (la lb:V),(zg fuel la lb).length≤fuel
 | 0,_,_=>Nat.le_refl _
 | fuel+1,la,lb=>by
  unfold zg;split
  · exact Nat.zero_le _
  · rw[List.length_cons];exact Nat.succ_le_succ (jaO fuel _ _)
theorem names_mem:∀(fuel:Nat) (la lb:V) (n:ByteArray),n ∈ zg fuel la lb→(∃y ∈ la,y.1=n)∨(∃y ∈ lb,y.1=n)
 | 0,_,_,n,h=>by simp[zg] at h
 | fuel+1,la,lb,n,h=>by
  unfold zg at h;split at h
  · simp at h
  · rename_i h0;rcases List.mem_cons.1 h with rfl | h
    · exact jas (by omega)
    · rcases names_mem fuel _ _ n h with ⟨y,hy,e⟩ | ⟨y,hy,e⟩
      · exact .inl ⟨y,XR y hy,e⟩
      · exact .inr ⟨y,XR y hy,e⟩
theorem jgn {l:V} (h:Gd l) {n:ByteArray} (hn:∃y ∈ l,y.1=n):0<jy l n:=by
 obtain⟨y,hy,rfl⟩:=hn;rw[jiv h hy];exact(h.1 y hy).2.1
theorem jda {l l':V} (h:Gd l) (h':Gd l') {n:ByteArray} (hn:n ∈ zg (l.length+l'.length) l l'):0<jy l n+jy l' n:=by
 have a:=XM n h;have b:=XM n h';rcases names_mem _ _ _ _ hn with hn | hn
 · have:=jgn h hn;omega
 · have:=jgn h' hn;omega
theorem jeM {f:Int→Int→Int×Int} {la lb:V} {n:ByteArray} {t:List ByteArray} {acc:V} {r1 r2:Int} (h:f (jy la n) (jy lb n)=(r1,r2)) (h2:r2≠0):Jh f la lb (n::t) acc=(r2,[]):=by
 rw[Jh,h,if_pos h2]
theorem jaG {f:Int→Int→Int×Int} {la lb:V} {n:ByteArray} {t:List ByteArray} {acc:V} {r1:Int} (h:f (jy la n) (jy lb n)=(r1,0)):Jh f la lb (n::t) acc=Jh f la lb t (Xf acc n r1):=by
 rw[Jh,h,if_neg (by simp)]
theorem jma (x y:Int) (w:World) (h:0≤x∧x≤9223372036854775807) (g:0≤y∧y≤9223372036854775807) :
 Calls Tryz.prog 120 #[.int .i64 x,.int .i64 y] w (Ans (jK x y).1 (jK x y).2 w):=by
 unfold jK;by_cases h2:x+y≤9223372036854775807
 · rw[if_pos h2];exact(jlo x y w h.1 g.1 h2).mono fun _ _=>Zy.ans
 · rw[if_neg h2];exact(jil x y w h.1 g.1 g.2 (by omega)).mono fun _ _=>Zy.ans
theorem jmb (x y:Int) (w:World) (h:0≤x∧x≤9223372036854775807) (g:0≤y∧y≤9223372036854775807) :
 Calls Tryz.prog 129 #[.int .i64 x,.int .i64 y] w (Ans (jX x y).1 (jX x y).2 w):=by
 unfold jX;by_cases h2:y≤x
 · rw[if_pos h2];exact(jlH x y w g.1 h.2 h2).mono fun _ _=>Zy.ans
 · rw[if_neg h2];exact(jip x y w h.1 g.2 (by omega)).mono fun _ _=>Zy.ans
def ZE (l l':V):Int:=if jD l≠0 then jD l else jD l'
theorem jde {l l':V} (h:ZE l l'=0):jD l=0∧jD l'=0:=by
 unfold ZE at h;split at h
 · rename_i g;exact absurd h g
 · rename_i g;exact⟨Decidable.of_not_not g,h⟩
theorem ja4 {f:Int→Int→Int×Int} {l l':V} (h:ZE l l'≠0):jk f l l'=(ZE l l',[]):=by
 unfold jk;unfold ZE at h ⊢;by_cases g:jD l≠0
 · simp only[if_pos g]
 · simp only[if_neg g] at h ⊢;rw[if_pos h]
theorem XU (a a':Option Addr) (len cap len' cap':Nat) (l l':V) (w:World) (hr:jw w a len l) (hr':jw w a' len' l') :
 Calls Tryz.prog 118 #[.slice a len cap,.slice a' len' cap'] w fun e w'=>e=.returned (.int .i64 (ZE l l'))∧Kept w w':=by
 have HA:=lH hr;have HB:=lH hr';obtain⟨c,hc⟩:∃c,jD l=c:=⟨_,rfl⟩
 have HC:=lH hc;clear hr hr';by_cases h0:c=0
 · subst h0;have HE:=lH (show ZE l l'=jD l' by unfold ZE;rw[hc,if_neg (by decide)]);go_enter Tryz.func118,Tryz.ntmps118;go_wp2_with fail
   refine(YF _ _ _ l _ HA.out).mono ?_;rw[HC.out];clear hc;rintro e1 w1 ⟨rfl,k1⟩;have K1:=lH k1;clear k1;go_wp2_with fail
   refine(YF _ _ _ l' _ (HB.out.kept K1.out)).mono ?_;rintro e2 w2 ⟨rfl,k2⟩;have K2:=lH (K1.out.trans k2);clear k2;go_wp2;go_ret;exact⟨jc HE.out.symm,K2.out⟩
 · have HE:=lH (show ZE l l'=c by unfold ZE;rw[hc,if_pos h0]);have h1:(c==0)=false:=by simpa using h0
   clear h0;go_enter Tryz.func118,Tryz.ntmps118;go_wp2_with fail
   refine(YF _ _ _ l _ HA.out).mono ?_;rw[HC.out];clear hc;rintro e1 w1 ⟨rfl,k1⟩;have K1:=lH k1;clear k1;go_wp2;go_ret;exact⟨jc HE.out.symm,K1.out⟩
theorem jdf (a:Option Addr) (n cap:Nat) (w:World) (h:n≤8):Calls Tryz.prog 121 #[.slice a n cap] w fun e w'=>e=.returned (.tuple #[.slice a n cap,.int .i64 0])∧w=w':=by
 have h1:(n:Int)≤8:=by omega
 have h2:decide ((8:Int)<(n:Int))=false:=decide_eq_false (by omega);have h3:decide (8<n)=false:=decide_eq_false (by omega);go_enter Tryz.func121,Tryz.ntmps121;go_wp2;go_ret2
 exact⟨rfl,rfl⟩
theorem ja5 (a:Option Addr) (n cap:Nat) (w:World) (h:8<n):Calls Tryz.prog 121 #[.slice a n cap] w fun e w'=>e=.returned (.tuple #[.slice none 0 0,.int .i64 4])∧w=w':=by
 have h1:(8:Int)<(n:Int):=by omega
 go_enter Tryz.func121,Tryz.ntmps121;go_wp2;go_ret2
 exact⟨rfl,rfl⟩
theorem jis (a a':Option Addr) (len cap len' cap':Nat) (l l':V) (w:World) (hr:jw w a len l) (hr':jw w a' len' l') :
 Calls Tryz.prog 86 #[.slice a len cap,.slice a' len' cap'] w (Told (jk jK l l').1 (jk jK l l').2 w):=by
 have HA:=lH hr;have HB:=lH hr';have HL:=lH hr.1;have HL':=lH hr'.1;by_cases hc:ZE l l'=0
 · obtain⟨ha,hb⟩:=jde hc;have HC:=lH hc;have HG:=lH (Zq ha hr.2.2.1);have HG':=lH (Zq hb hr'.2.2.1);have h8:len≤8:=by have:=J7 ha;rw[HL.out] at this;exact this
   have h8':len'≤8:=by have:=J7 hb;rw[HL'.out] at this;exact this
   have HM:=lH (jbb jK ha hb hr.2.2.1 hr'.2.2.1);have HP:=lH (show ∀n ∈ zg (l.length+l'.length) l l',0<jy l n+jy l' n from fun n hn=>jda HG.out HG'.out hn);obtain⟨NS,hNS⟩:∃NS,zg (l.length+l'.length) l l'=NS:=⟨_,rfl⟩
   have hlen:=jaO (l.length+l'.length) l l';have hn16:NS.length≤16:=by rw[hNS,HL.out,HL'.out] at hlen;omega
   rw[hNS] at HM HP;have RO:=lH hNS;obtain⟨R,hR⟩:∃R,Jh jK l l' NS []=R:=⟨_,rfl⟩
   rw[hR] at HM;have UC:=lH hR;have ND:=lH h8;have HH8':=lH h8';obtain⟨i0,hi,hz0,hz1,hz2⟩:=info_parts jc0;clear hr hr' hc ha hb hNS hR hlen h8 h8';go_enter Tryz.func86,Tryz.ntmps86;go_wp2_with fail
   refine(XU _ _ _ _ _ _ l l' _ HA.out HB.out).mono ?_;rw[HC.out];rintro e1 w1 ⟨rfl,k1⟩;have K1:=lH k1;clear k1;go_wp2_with fail
   refine(qf _ _ _ _ _ _ l l' _ (HA.out.kept K1.out) (HB.out.kept K1.out) ND.out HH8'.out).mono ?_;rw[RO.out];rintro e2 w2 ⟨x2,rfl,ho,k2⟩;have MM:=lH ho.2;obtain⟨s,scap,rfl,hs1,hs2,hrow⟩:=ho.reads;have Uq:=lH hrow;have RP:=lH hs1;have K2:=lH (K1.out.trans k2);obtain⟨n,hn⟩:∃n,NS.length=n:=⟨_,rfl⟩
   have VY:=lH hn;rw[hn] at hn16 Uq ⊢;clear k2 ho hrow hn hs1 hs2;go_wp2
   go_loopw [8,9] (fun v i wr=>∃(k:Nat) (acc:V),k≤n∧i=.int .i64 k∧Jh jK l l' (NS.drop k) acc=R∧jR 127 wr w2.heap.size v acc∧Below w2.heap.size w2 wr∧acc.length≤k)
    (fun _ i _=>n-(intOf i).toNat)
   case atStart=>exact⟨0,[],Nat.zero_le _,rfl,UC.out,jR.nil _ _ _,Below.refl _ _,Nat.le_refl _⟩
   case round =>
    obtain⟨k,acc,hk,rfl,hres,ho,hB,hacc⟩:=hrel;have HQ:=lH hres;have HO:=lH ho;have Vb:=lH hB;clear hres ho;by_cases hlt:k<n
    · obtain⟨b,off,rfl⟩:∃b off,s=some ⟨b,off,none⟩:=Uq.out.form.resolve_left (by omega);obtain⟨x,hx,hdrop,hbx,hsz,c1⟩:=(Uq.out.kept hB).str hlt;have HD:=lH hdrop;have Ri:=lH hsz;have HS:=lH (show ∀W,Kept wr W→W.cell? ⟨b,off+k,none⟩=some (.string x) from fun W kk=>cell_later kk c1);have HX:=lH (show 0<jy l x+jy l' x from HP.out x (List.mem_of_getElem? hx));have Rm:=lH (show ∀W,Kept wr W→jw W a len l from fun W kk=>HA.out.kept (K2.out.trans (Kept.trans hB kk)));have Tj:=lH (show ∀W,Kept wr W→jw W a' len' l' from fun W kk=>HB.out.kept (K2.out.trans (Kept.trans hB kk)));obtain⟨g1,hg1⟩:∃g,jy l x=g:=⟨_,rfl⟩
      obtain⟨g2,hg2⟩:∃g,jy l' x=g:=⟨_,rfl⟩
      have Rn:=lH hg1;have Ts:=lH hg2;have B1:=lH (show 0≤g1∧g1≤9223372036854775807 by rw[←hg1];exact XM x HG.out);have B2:=lH (show 0≤g2∧g2≤9223372036854775807 by rw[←hg2];exact XM x HG'.out);rw[hg1,hg2] at HX;obtain⟨r1,r2,hr⟩:∃r1 r2,jK g1 g2=(r1,r2):=⟨_,_,rfl⟩
      have QF:=lH (show ∀W,Calls Tryz.prog 120 #[.int .i64 g1,.int .i64 g2] W (Ans r1 r2 W) from fun W=>by
       have:=jma g1 g2 W B1.out B2.out;rw[hr] at this;exact this)
      have RB:=lH (show 0≤r1∧r1≤9223372036854775807 by have:=jgw B1.out B2.out;rw[hr] at this;exact this);have HF:=lH (show jK (jy l x) (jy l' x)=(r1,r2) by rw[hg1,hg2];exact hr);have Tt:=lH hr;have hk1:(k:Int)<(n:Int):=by omega
      clear hB hx hdrop hsz hg1 hg2 hr;by_cases hz:r2=0
      · subst hz;have hy:r1≠0:=by
         have h1:=HX.out;have h2:=Tt.out;unfold jK at h2;split at h2
         · have:=(Prod.mk.inj h2).1;omega
         · have:=(Prod.mk.inj h2).2;omega
        have HN:=lH (show Jh jK l l' (NS.drop (k+1)) (acc++[(x,r1)])=R by
         have:=jaG (t:=NS.drop (k+1)) (acc:=acc) HF.out;unfold Xf at this;rw[if_neg hy] at this;rw[←this,←HD.out];exact HQ.out)
        clear hy;go_wp2;clear c1;refine wp_region_held_drew (S:=fun W=>W.cell? ⟨b,off+k,none⟩=some (.string x)) (by kernel_rfl) (HS.out _ (Kept.drew _)) (fun hHeld=>?_);refine tkJ 0 ?_;refine tkJ 1 ?_;refine tkJ 2 ?_;refine tkJ 3 ?_;refine tkJ 4 ?_;refine tkJ 6 ?_;refine tkJ 7 ?_;refine tkJ 8 ?_;refine tkJ 9 ?_;refine tkJ 10 ?_;try simp only[nP]
        refine rd1 5 fun K9 Ky=>?_;go_simp;refine(Jn _ _ _ l x _ (Rm.out _ (Kept.drew _))).mono ?_;rintro e3 w3 ⟨rfl,kk⟩;have J1:=lH ((Kept.drew _).trans kk);clear kk;refine Ky.out _ _ (HS.out _ J1.out) (fun _=>?_);clear Ky K9;try simp only[nP]
        refine rd1 11 fun K9 Ky=>?_;go_simp;refine(Jn _ _ _ l' x _ (Tj.out _ J1.out)).mono ?_;rintro e4 w4 ⟨rfl,kk⟩;have J2:=lH ((J1.out).trans kk);clear kk;refine Ky.out _ _ (HS.out _ J2.out) (fun _=>?_);clear Ky K9;try simp only[nP]
        rw[Rn.out,Ts.out];refine rd1 12 fun K9 Ky=>?_;go_simp;refine(QF.out _).mono ?_;rintro e5 w5 ⟨rfl,kk⟩;have J3:=lH ((J2.out).trans kk);clear kk;refine Ky.out _ _ (HS.out _ J3.out) (fun _=>?_);clear Ky K9;try simp only[nP]
        refine tkJ 13 ?_;refine tkJ 14 ?_;refine tkJ 15 ?_;refine tkJ 16 ?_;refine tkJ 17 ?_;try simp only[nP]
        refine wpAnyH_done (by kernel_rfl) ?_ _;have c1:=HS.out _ J3.out;have B6:=lH (Vb.out.trans (Below.mono J3.out Vb.out.size));have O6:=lH (HO.out.kept J3.out);have RQ:=lH (show (w5.alloc (.cells #[.string x,.int .i64 r1] 127)).ownsRow w2.heap.size 127 2 u8 acc.length (cellsOf acc) from(O6.out.1.alloc _));have VD:=lH (show w2.heap.size≤w5.heap.size from B6.out.size);go_wp2_with (at_builtin;refine wpList_append_lies _ rfl _ _ _ rfl w2.heap.size 127 i0 _ 2 24 Tryz.underlying40 hi hz0 hz1 hz2 rfl (by decide) u8 acc.length (cellsOf acc) rfl RQ.out ⟨w5.heap.size,0,none⟩ 1 1 [.string x,.int .i64 r1] rfl rfl (jbE _ _ _ _) (Zv [(x,r1)]) (by decide) (by unfold maxLen;omega) (by omega) (by rw[World.size_alloc];have:=VD.out;omega) (w5.heap.size+1) (World.size_alloc _ _) ?_;intro g cap1 w7 hown1 hgrow hg hlt7;refine Hid.out ?_)
        refine lH ?_;go_wp2;go_roundw
        case rel =>
         refine⟨k+1,acc++[(x,r1)],by omega,by go_num,HN.out,⟨?_,O6.out.2.snoc Ri.out (by have:=RB.out;omega) (by have:=RB.out;omega)⟩,(B6.out.alloc VD.out _).grown hgrow (by rw[World.size_alloc];have:=VD.out;omega) (fun j hj=>(RQ.out.lt j hj).1),by rw[List.length_append];simp only[List.length_cons,List.length_nil];omega⟩;rw[List.length_append,Zj];exact hown1
        case measure=>simp[intOf];omega
      · have hz':(r2==0)=false:=by simpa using hz
        have HE:=lH (show jk jK l l'=(r2,[]) by
         have:R=(r2,[]):=by rw[←HQ.out,HD.out];exact jeM HF.out hz
         rw[HM.out,this];simp only;rw[if_pos hz])
        clear hz;go_wp2;clear c1;refine wp_region_held_drew (S:=fun W=>W.cell? ⟨b,off+k,none⟩=some (.string x)) (by kernel_rfl) (HS.out _ (Kept.drew _)) (fun hHeld=>?_);refine tkJ 0 ?_;refine tkJ 1 ?_;refine tkJ 2 ?_;refine tkJ 3 ?_;refine tkJ 4 ?_;refine tkJ 6 ?_;refine tkJ 7 ?_;refine tkJ 8 ?_;refine tkJ 9 ?_;refine tkJ 10 ?_;try simp only[nP]
        refine rd1 5 fun K9 Ky=>?_;go_simp;refine(Jn _ _ _ l x _ (Rm.out _ (Kept.drew _))).mono ?_;rintro e3 w3 ⟨rfl,kk⟩;have J1:=lH ((Kept.drew _).trans kk);clear kk;refine Ky.out _ _ (HS.out _ J1.out) (fun _=>?_);clear Ky K9;try simp only[nP]
        refine rd1 11 fun K9 Ky=>?_;go_simp;refine(Jn _ _ _ l' x _ (Tj.out _ J1.out)).mono ?_;rintro e4 w4 ⟨rfl,kk⟩;have J2:=lH ((J1.out).trans kk);clear kk;refine Ky.out _ _ (HS.out _ J2.out) (fun _=>?_);clear Ky K9;try simp only[nP]
        rw[Rn.out,Ts.out];refine rd1 12 fun K9 Ky=>?_;go_simp;refine(QF.out _).mono ?_;rintro e5 w5 ⟨rfl,kk⟩;have J3:=lH ((J2.out).trans kk);clear kk;refine Ky.out _ _ (HS.out _ J3.out) (fun _=>?_);clear Ky K9;try simp only[nP]
        refine tkJ 13 ?_;refine tkJ 14 ?_;refine tkJ 15 ?_;refine tkJ 16 ?_;refine tkJ 17 ?_;try simp only[nP]
        refine wpAnyH_done (by kernel_rfl) ?_ _;have c1:=HS.out _ J3.out;have B6:=lH (Vb.out.trans (Below.mono J3.out Vb.out.size));have O6:=lH (HO.out.kept J3.out);go_wp2;go_ret2
        rw[HE.out];exact Told.none (K2.out.trans B6.out)
    · have HE:=lH (show R=(0,acc) by
       have e:NS.drop k=[]:=List.drop_of_length_le (by rw[VY.out];omega);rw[←HQ.out,e];rfl)
      have Uk:=lH (K2.out.trans (show Kept w2 wr from hB));obtain⟨av,cv,rfl,hv1,hv2,-⟩:=HO.out.at_;have NF:=lH (jR.base_le HO.out K2.out.size);clear hB hv1 hv2;by_cases h9:acc.length≤8
      · have HW:=lH (show jk jK l l'=(0,acc) by
         rw[HM.out,HE.out];simp only;rw[if_neg (by decide),if_neg (by omega)])
        have QW:=lH (fun W=>jdf av acc.length cv W h9);clear h9;go_wp2_with fail
        refine(QW.out _).mono ?_;rintro e9 w9 ⟨rfl,rfl⟩;go_wp2;go_ret2
        rw[HW.out];exact⟨_,rfl,NF.out,Uk.out⟩
      · have HW:=lH (show jk jK l l'=(4,[]) by
         rw[HM.out,HE.out];simp only;rw[if_neg (by decide),if_pos (by omega)])
        have QW:=lH (fun W=>ja5 av acc.length cv W (by omega));clear h9;go_wp2_with fail
        refine(QW.out _).mono ?_;rintro e9 w9 ⟨rfl,rfl⟩;go_wp2;go_ret2
        rw[HW.out];exact Told.none Uk.out
 · have HE:=lH (ja4 (f:=jK) hc);obtain⟨c,hc2⟩:∃c,ZE l l'=c:=⟨_,rfl⟩
   rw[hc2] at HE hc;have hc':(c==0)=false:=by simpa using hc
   have HC:=lH hc2;clear hr hr' hc hc2;go_enter Tryz.func86,Tryz.ntmps86;go_wp2_with fail
   refine(XU _ _ _ _ _ _ l l' _ HA.out HB.out).mono ?_;rw[HC.out];rintro e1 w1 ⟨rfl,k1⟩;have K1:=lH k1;clear k1;go_wp2;go_ret2
   rw[HE.out];exact Told.none K1.out
theorem jjm {v v':Value} {l l' m:V} {c:Int} {w:World} (h:Reads w v l) (h':Reads w v' l') (e:jk jK l l'=(c,m)) :
 Calls Tryz.prog 86 #[v,v'] w fun e w'=>∃x,e=.returned (.tuple #[x,.int .i64 c])∧Reads w' x m∧Kept w w':=by
 obtain⟨a,cap,rfl,_,_,hb⟩:=h;obtain⟨a9,cap9,rfl,_,_,hr⟩:=h';refine(jis a a9 _ cap _ cap9 l l' w hb hr).mono ?_;rw[e];rintro e w' ⟨x,rfl,ho,k⟩;exact⟨x,rfl,ho.at_,k⟩
end Go.Proofs.YtmlgobiifebjkabGreat.Vec
namespace Go.Proofs.YtmlgobiifebjkabGreat
open Go.RowKit
def Z1 (r:Int×Vec.V) (w:World) (e:Ending) (w':World):Prop:=∃y,e=.returned (.tuple #[y,.int .i64 r.1])∧Vec.Reads w' y r.2∧Kept w w'
theorem Z1.mk' {r:Int×Vec.V} {c:Int} {l:Vec.V} {y:Value} {w w':World} (h:r=(c,l)) (g:Vec.Reads w' y l) (k:Kept w w'):Z1 r w (.returned (.tuple #[y,.int .i64 c])) w':=by
 subst h;exact⟨y,rfl,g,k⟩
theorem Xr (w:World):Vec.Reads w (.slice none 0 0) []:=Vec.Reads.nil w
theorem jjH {l:List Nod} {x:ByteArray} {n:Nod} (h:jj l x=some n):n.name=x :=
 jL.1 (List.find?_some (p:=fun n:Nod=>eqS n.name x) h)
theorem jiC {s:Clu} {x:ByteArray} (h:jj s.nodes x=none):zy s x=(3,[]):=by unfold zy;rw[h]
theorem jdd {s:Clu} {x:ByteArray} {n:Nod} (h:jj s.nodes x=some n):zy s x=jI x s.pods []:=by unfold zy;rw[h];dsimp only;rw[jjH h]
theorem jbK {v:Value} {s:Clu} {w:World} (h:jA w v s) (x:ByteArray):Calls Tryz.prog 50 #[v,.string x] w (Z1 (zy s x) w):=by
 obtain⟨v1,v2,v3,rfl,⟨a,cap,rfl,l1,m1,h1⟩,⟨b,cp,rfl,l2,m2,h2⟩,⟨d,cb,rfl,l3,m3,h3⟩⟩:=h;obtain⟨nl,pl,bl⟩:=s;dsimp only at *;obtain⟨len,hlen⟩:∃q,nl.length=q:=⟨_,rfl⟩
 obtain⟨m,hm⟩:∃q,pl.length=q:=⟨_,rfl⟩
 obtain⟨n,hn⟩:∃q,bl.length=q:=⟨_,rfl⟩
 rw[hlen] at h1 l1;rw[hm] at h2 l2;rw[hn] at h3 l3;try rw[hlen]
 try rw[hm]
 try rw[hn]
 clear hn;obtain⟨Z,hZ⟩:∃Z,w.alloc (.cells #[.slice a len cap,.slice b m cp,.slice d n cb] 51)=Z:=⟨_,rfl⟩
 have hkz:Kept w Z:=by rw[←hZ];exact ja _ _
 have HQ:=lH (show jf w.heap.size [.slice a len cap,.slice b m cp,.slice d n cb] Z from jd w (.slice a len cap) [.slice b m cp,.slice d n cb] 51 Z (by rw[hZ];exact Kept.refl _));have HN:=lH (h1.kept hkz);have HP:=lH (h2.kept hkz);have Uv:=lH (qV l1 m1 (h1.kept hkz));have Ve:=lH hkz;have Uz:=lH hlen;have UJ:=lH hm;have hml1:=Nat.le_trans l1 m1;have hml2:=Nat.le_trans l2 m2;unfold maxLen at hml1 hml2;clear h1 h2 h3 l1 l2 l3 m1 m2 m3 hkz;have cq0:=(HQ.out.kept (Kept.refl _)).at_ 0 _ rfl;have cq1:=(HQ.out.kept (Kept.refl _)).at_ 1 _ rfl;have cq2:=(HQ.out.kept (Kept.refl _)).at_ 2 _ rfl;obtain⟨o,ho⟩:∃o,jj nl x=o:=⟨_,rfl⟩
 have HF:=lH ho;go_enter Tryz.func50,Tryz.ntmps50;go_wp2_with fail
 try rw[hZ]
 clear hZ;refine(jew Uv.out).mono ?_;rw[ho];rintro e w1 ⟨v9,rfl,hr,kk⟩;obtain⟨nn,hnn⟩:∃q,o.getD Nod.zero=q:=⟨_,rfl⟩
 rw[hnn] at hr;obtain⟨y1,y2,y3,rfl,hat⟩:=hr;have g1:=hat.cap;have g2:=hat.labels;have g3:=hat.taints;obtain⟨b1,d1,rfl,-,-,-⟩:=g1;obtain⟨b2,d2,rfl,-,-,-⟩:=g2;obtain⟨b3,d3,rfl,-,-,-⟩:=g3;unfold zw;obtain⟨n1,hn1⟩:∃q,nn.cap.length=q:=⟨_,rfl⟩
 obtain⟨n2,hn2⟩:∃q,nn.labels.length=q:=⟨_,rfl⟩
 obtain⟨n3,hn3⟩:∃q,nn.taints.length=q:=⟨_,rfl⟩
 rw[hn1,hn2,hn3];have K1:=lH kk;clear hat kk hn1 hn2 hn3 hnn ho cq0 cq1 cq2;obtain⟨W1,hW1⟩:∃W,w1.alloc (.cells #[.string nn.name,.slice b1 n1 d1,.slice b2 n2 d2,.slice b3 n3 d3,.bool nn.cordon] 99)=W:=⟨_,rfl⟩
 have K1:=lH (K1.out.trans (show Kept w1 W1 by rw[←hW1];exact ja _ _))
 cases o with
 | none =>
  go_wp2;try rw[hW1]
  go_ret2
  exact Z1.mk' (jiC HF.out) (Xr _) (Ve.out.trans K1.out)
 | some nod =>
  have HU:=lH (show zy ⟨nl,pl,bl⟩ x=jI x pl [] from jdd HF.out);have cq0:=(HQ.out.kept K1.out).at_ 0 _ rfl;have cq1:=(HQ.out.kept K1.out).at_ 1 _ rfl;have cq2:=(HQ.out.kept K1.out).at_ 2 _ rfl;have HW:=lH hW1;clear hW1;go_wp2;try rw[HW.out]
  clear HW cq0 cq1 cq2;go_loopw [8,9] (fun s i wr=>∃k:Nat,k≤m∧i=.int .i64 k∧∃acc:Vec.V,Vec.Reads wr s acc∧jI x (pl.drop k) acc=jI x pl []∧Kept Z wr) (fun _ i _=>m-(intOf i).toNat)
  case atStart=>exact⟨0,Nat.zero_le _,rfl,[],Xr _,rfl,K1.out⟩
  case round =>
   obtain⟨k,hk,rfl,acc,hacc,hrest,hK⟩:=hrel;have HS:=lH hrest;have HA:=lH hacc;have HK:=lH hK;have cq0:=(HQ.out.kept hK).at_ 0 _ rfl;have cq1:=(HQ.out.kept hK).at_ 1 _ rfl;have cq2:=(HQ.out.kept hK).at_ 2 _ rfl;by_cases hlt:k<m
   · obtain⟨b9,off,rfl⟩:=HP.out.form.resolve_left (by omega);obtain⟨n9,x1,y1,z1,x2,y2,z2,x3,y3,z3,x4,y4,z4,hn,hd,hb,p0,p1,p2,p3,p4,p5,p6,p7,p8,p9,p10,hat⟩:=(HP.out.kept hK).at_ hlt;have HD:=lH hd;have hkk:(k:Int)<(m:Int):=by omega
     obtain⟨e1,he1⟩:∃e,eqS n9.node x=e:=⟨_,rfl⟩
     have he1':(n9.node.toList==x.toList)=e1:=he1;have he1n:(n9.node.toList != x.toList)=!e1:=by rw[bne,he1']
     have HE:=lH he1
     cases e1 with
     | false =>
      have HX:=lH (show jI x (pl.drop (k+1)) acc=jI x pl [] by rw[←hrest,hd,jaN he1]);clear hacc hrest hK hat hn hd he1;go_wp2;go_roundw
      case rel=>exact⟨k+1,by omega,by go_num,acc,HA.out,HX.out,HK.out⟩
      case measure=>simp[intOf];omega
     | true =>
      obtain⟨c,mm,hcm⟩:∃c mm,Vec.jk Vec.jK acc n9.need=(c,mm):=⟨_,_,rfl⟩
      have HC:=lH hcm;have Um:=lH (Vec.jjm hacc hat.need hcm);clear hacc hrest hK hat hn hd he1 hcm;go_wp2_with fail
      refine Um.out.mono ?_;rintro e w2 ⟨y,rfl,hy,kk⟩;have K2:=lH (HK.out.trans kk);have HY:=lH hy;clear hy kk;by_cases hc:c=0
      · subst hc;have HX:=lH (show jI x (pl.drop (k+1)) mm=jI x pl [] by rw[←HS.out,HD.out,jfi HE.out HC.out]);go_wp2;go_roundw
        case rel=>exact⟨k+1,by omega,by go_num,mm,HY.out,HX.out,K2.out⟩
        case measure=>simp[intOf];omega
      · have HX:=lH (show jI x pl []=(c,[]) by rw[←HS.out,HD.out,jfc HE.out HC.out hc]);have hcn:(c != 0)=true:=by simpa using hc
        clear hc;go_wp2;go_ret2
        exact Z1.mk' (HU.out.trans HX.out) (Xr _) (Ve.out.trans K2.out)
   · have HX:=lH (show jI x pl []=(0,acc) by rw[←hrest,List.drop_of_length_le (by rw[UJ.out];omega)];rfl);have hkk:¬(k:Int)<(m:Int):=by omega
     clear hacc hrest hK;go_wp2;go_ret2
     exact Z1.mk' (HU.out.trans HX.out) HA.out (Ve.out.trans HK.out)
theorem jit {v:Value} {s:Clu} {w:World} (h:jA w v s):Calls Tryz.prog 78 #[v] w (Z1 (jlY s) w):=by
 obtain⟨v1,v2,v3,rfl,⟨a,cap,rfl,l1,m1,h1⟩,⟨b,cp,rfl,l2,m2,h2⟩,⟨d,cb,rfl,l3,m3,h3⟩⟩:=h;obtain⟨nl,pl,bl⟩:=s;dsimp only at *;obtain⟨len,hlen⟩:∃q,nl.length=q:=⟨_,rfl⟩
 obtain⟨m,hm⟩:∃q,pl.length=q:=⟨_,rfl⟩
 obtain⟨n,hn⟩:∃q,bl.length=q:=⟨_,rfl⟩
 rw[hlen] at h1 l1;rw[hm] at h2 l2;rw[hn] at h3 l3;try rw[hlen]
 try rw[hm]
 try rw[hn]
 clear hn;obtain⟨Z,hZ⟩:∃Z,w.alloc (.cells #[.slice a len cap,.slice b m cp,.slice d n cb] 51)=Z:=⟨_,rfl⟩
 have hkz:Kept w Z:=by rw[←hZ];exact ja _ _
 have HQ:=lH (show jf w.heap.size [.slice a len cap,.slice b m cp,.slice d n cb] Z from jd w (.slice a len cap) [.slice b m cp,.slice d n cb] 51 Z (by rw[hZ];exact Kept.refl _));have HN:=lH (h1.kept hkz);have HP:=lH (h2.kept hkz);have Uv:=lH (qV l1 m1 (h1.kept hkz));have Ve:=lH hkz;have Uz:=lH hlen;have UJ:=lH hm;have hml1:=Nat.le_trans l1 m1;have hml2:=Nat.le_trans l2 m2;unfold maxLen at hml1 hml2;clear h1 h2 h3 l1 l2 l3 m1 m2 m3 hkz;have cq0:=(HQ.out.kept (Kept.refl _)).at_ 0 _ rfl;have cq1:=(HQ.out.kept (Kept.refl _)).at_ 1 _ rfl;have cq2:=(HQ.out.kept (Kept.refl _)).at_ 2 _ rfl;show Calls _ _ _ _ (Z1 (Zx nl []) w);go_enter Tryz.func78,Tryz.ntmps78;go_wp2;try rw[hZ]
 clear hZ cq0 cq1 cq2;go_loopw [4,5] (fun s i wr=>∃k:Nat,k≤len∧i=.int .i64 k∧∃acc:Vec.V,Vec.Reads wr s acc∧Zx (nl.drop k) acc=Zx nl []∧Kept Z wr) (fun _ i _=>len-(intOf i).toNat)
 case atStart=>exact⟨0,Nat.zero_le _,rfl,[],Xr _,rfl,Kept.refl _⟩
 case round =>
  obtain⟨k,hk,rfl,acc,hacc,hrest,hK⟩:=hrel;have HS:=lH hrest;have HA:=lH hacc;have HK:=lH hK;have cq0:=(HQ.out.kept hK).at_ 0 _ rfl;have cq1:=(HQ.out.kept hK).at_ 1 _ rfl;have cq2:=(HQ.out.kept hK).at_ 2 _ rfl;by_cases hlt:k<len
  · obtain⟨b9,off,rfl⟩:=HN.out.form.resolve_left (by omega);obtain⟨n9,x1,y1,z1,x2,y2,z2,x3,y3,z3,hn,hd,hb,p0,p1,p2,p3,p4,hat⟩:=(HN.out.kept hK).at_ hlt;have HD:=lH hd;have hkk:(k:Int)<(len:Int):=by omega
    obtain⟨c,mm,hcm⟩:∃c mm,Vec.jk Vec.jK acc n9.cap=(c,mm):=⟨_,_,rfl⟩
    have HC:=lH hcm;have Um:=lH (Vec.jjm hacc hat.cap hcm);clear hacc hrest hK hat hn hd hcm;go_wp2_with fail
    refine Um.out.mono ?_;rintro e w2 ⟨y,rfl,hy,kk⟩;have K2:=lH (HK.out.trans kk);have HY:=lH hy;clear hy kk;by_cases hc:c=0
    · subst hc;have HX:=lH (show Zx (nl.drop (k+1)) mm=Zx nl [] by rw[←HS.out,HD.out,jkV HC.out]);go_wp2;go_roundw
      case rel=>exact⟨k+1,by omega,by go_num,mm,HY.out,HX.out,K2.out⟩
      case measure=>simp[intOf];omega
    · have HX:=lH (show Zx nl []=(c,[]) by rw[←HS.out,HD.out,jka HC.out hc]);have hcn:(c != 0)=true:=by simpa using hc
      clear hc;go_wp2;go_ret2
      exact Z1.mk' HX.out (Xr _) (Ve.out.trans K2.out)
  · have HX:=lH (show Zx nl []=(0,acc) by rw[←hrest,List.drop_of_length_le (by rw[Uz.out];omega)];rfl);have hkk:¬(k:Int)<(len:Int):=by omega
    clear hacc hrest hK;go_wp2;go_ret2
    exact Z1.mk' HX.out HA.out (Ve.out.trans HK.out)
def jiL (c:Int) (v:Value) (w:World) (e:Ending) (w':World):Prop:=(c=0→e=.returned v)∧(c≠0→e=.panicked [zL c])∧Kept w w'
theorem jiL.bad {x c:Int} {v:Value} {w w':World} (h:x=c) (hc:c≠0) (k:Kept w w'):jiL x v w (.panicked [zL c]) w':=by
 subst h;exact⟨fun h=>absurd h hc,fun _=>rfl,k⟩
theorem qW {nl:List Nod} {pl:List Pd} {bl:List Bd} {c:Int} (h:or3 (jS nl) (zi pl) (zn bl)=c) (hc:c≠0):ZC ⟨nl,pl,bl⟩=c:=by
 unfold ZC;dsimp only;rw[h,if_pos hc]
theorem jdh {nl:List Nod} {pl:List Pd} {bl:List Bd} {c:Int} (h:or3 (jS nl) (zi pl) (zn bl)=0) (g:jQ nl pl=c) (hc:c≠0):ZC ⟨nl,pl,bl⟩=c:=by
 unfold ZC;dsimp only;rw[h,if_neg (by simp),g,if_pos hc]
theorem jbI {nl:List Nod} {pl:List Pd} {bl:List Bd} {c:Int} (h:or3 (jS nl) (zi pl) (zn bl)=0) (g:jQ nl pl=0) (r:zo pl nl=c) (hc:c≠0):ZC ⟨nl,pl,bl⟩=c:=by
 unfold ZC;dsimp only;rw[h,if_neg (by simp),g,if_neg (by simp),r,if_pos hc]
theorem jd7 {nl:List Nod} {pl:List Pd} {bl:List Bd} (h:or3 (jS nl) (zi pl) (zn bl)=0) (g:jQ nl pl=0) (r:zo pl nl=0):ZC ⟨nl,pl,bl⟩=(Zx nl []).1:=by
 unfold ZC;dsimp only;rw[h,if_neg (by simp),g,if_neg (by simp),r,if_neg (by simp)]
def idxB (f:Pd→Bool):List Pd→Option Nat
 | []=>none
 | p::t=>if f p=true then some 0 else (idxB f t).map (·+1)
def jen:Option Nat→Int
 | none=>-1
 | some k=>(k:Int)
theorem jgI {f:Pd→Bool} {l:List Pd} {p:Pd} {k:Nat} (hd:l.drop k=p::l.drop (k+1)) (h:f p=true) (hr:(idxB f (l.drop k)).map (·+k)=idxB f l):idxB f l=some k:=by
 rw[←hr,hd,idxB,if_pos h];simp
theorem jem {f:Pd→Bool} {l:List Pd} {p:Pd} {k:Nat} (hd:l.drop k=p::l.drop (k+1)) (h:f p=false) (hr:(idxB f (l.drop k)).map (·+k)=idxB f l):(idxB f (l.drop (k+1))).map (·+(k+1))=idxB f l:=by
 rw[←hr,hd,idxB,if_neg (by rw[h];decide),Option.map_map];congr 1
 funext x
 show x+(k+1)=x+1+k;omega
theorem jeb {f:Pd→Bool}:∀{l:List Pd} {k:Nat},idxB f l=some k→k<l.length
 | [],k,h=>by cases h
 | p::t,k,h=>by
  rw[idxB] at h;split at h
  · obtain rfl:=Option.some.inj h;simp
  · cases e:idxB f t with
    | none=>rw[e] at h;cases h
    | some j=>rw[e] at h;obtain rfl:=Option.some.inj h;have:=jeb e;simp;omega
theorem jbD {x:ByteArray}:∀{l:List Pd},(match idxB (fun p=>eqS p.name x) l with | none=>l | some k=>l.take k++l.drop (k+1))=jY x l
 | []=>rfl
 | p::t=>by
  rw[idxB,jY];by_cases h:eqS p.name x=true
  · rw[if_pos h,if_pos h];simp
  · rw[if_neg h,if_neg h,←jbD (l:=t)]
    cases e:idxB (fun p=>eqS p.name x) t with
    | none=>rfl
    | some j=>simp
def placeN (x:ByteArray) (l:List Pd):Nat:=match idxB (fun p=>!leS p.name x) l with | none=>l.length | some k=>k
theorem XA (x:ByteArray) (l:List Pd):placeN x l≤l.length:=by
 unfold placeN
 cases e:idxB (fun p=>!leS p.name x) l with
 | none=>exact Nat.le_refl _
 | some k=>exact Nat.le_of_lt (jeb e)
theorem Ym {p:Pd}:∀{l:List Pd},l.take (placeN p.name l)++p::l.drop (placeN p.name l)=zY p l
 | []=>rfl
 | q::t=>by
  have ih:=Ym (p:=p) (l:=t);rw[zY];unfold placeN at ih ⊢;rw[idxB];by_cases h:leS q.name p.name=true
  · have hn:ltS p.name q.name=false:=by
     cases e:ltS p.name q.name with
     | false=>rfl
     | true =>
      have:=Vec.ji9 e;rw[h] at this;cases this
    rw[if_neg (by rw[h];decide),if_neg (by rw[hn];decide),←ih]
    cases e:idxB (fun q=>!leS q.name p.name) t with
    | none=>simp
    | some j=>simp
  · have h':leS q.name p.name=false:=by simpa using h
    rw[if_pos (by rw[h'];rfl),if_pos (Vec.X1 h')];rfl
theorem ji6 (n:Pd) (a1 a2 a3 a4:Option Addr) (m1 c1 m2 c2 m3 c3 m4 c4 q:Nat) (x:ByteArray) (w:World) (hq:w.cell? ⟨q,0,none⟩=some (.string x)) :
 Calls Tryz.prog 161 #[.agg #[.string n.name,.string n.owner,.int .i64 n.prio,.slice a1 m1 c1,.slice a2 m2 c2,.slice a3 m3 c3,.slice a4 m4 c4,.string n.key,.int .i64 n.most,.string n.node,.bool n.hold],.pointer (some ⟨q,0,none⟩)] w fun e w'=>e=.returned (.bool (eqS n.name x))∧Kept w w':=by
 have hq2:=cell_later (ja w (.cells #[.string n.name,.string n.owner,.int .i64 n.prio,.slice a1 m1 c1,.slice a2 m2 c2,.slice a3 m3 c3,.slice a4 m4 c4,.string n.key,.int .i64 n.most,.string n.node,.bool n.hold] 35)) hq;obtain⟨t,ht⟩:∃t,eqS n.name x=t:=⟨_,rfl⟩
 have ht':(n.name.toList==x.toList)=t:=ht;rw[ht];go_enter Tryz.func161,Tryz.ntmps161;go_wp2;go_ret;exact⟨by first | rfl | (rw[←ht];rfl),ja _ _⟩
theorem jiq (n:Pd) (a1 a2 a3 a4:Option Addr) (m1 c1 m2 c2 m3 c3 m4 c4 q:Nat) (x:ByteArray) (w:World) (hq:w.cell? ⟨q,0,none⟩=some (.string x)) :
 Calls Tryz.prog 137 #[.agg #[.string n.name,.string n.owner,.int .i64 n.prio,.slice a1 m1 c1,.slice a2 m2 c2,.slice a3 m3 c3,.slice a4 m4 c4,.string n.key,.int .i64 n.most,.string n.node,.bool n.hold],.pointer (some ⟨q,0,none⟩)] w fun e w'=>e=.returned (.bool (!leS n.name x))∧Kept w w':=by
 have hq2:=cell_later (ja w (.cells #[.string n.name,.string n.owner,.int .i64 n.prio,.slice a1 m1 c1,.slice a2 m2 c2,.slice a3 m3 c3,.slice a4 m4 c4,.string n.key,.int .i64 n.most,.string n.node,.bool n.hold] 35)) hq;obtain⟨t,ht⟩:∃t,leS n.name x=t:=⟨_,rfl⟩
 have ht':(Op.bytesLess n.name.toList x.toList||n.name.toList==x.toList)=t:=ht;rw[ht];go_enter Tryz.func137,Tryz.ntmps137;go_wp2;go_ret;exact⟨by first | rfl | (rw[←ht];rfl),ja _ _⟩
theorem jkT (a:Option Addr) (len cap q:Nat) (l:List Pd) (x:ByteArray) (w:World) (hr:jN w a len l) (hq:w.cell? ⟨q,0,none⟩=some (.string x)) :
 Calls Tryz.prog 136 #[.slice a len cap,.func (.func 161) #[] #[.pointer (some ⟨q,0,none⟩)]] w (Say (.int .i64 (jen (idxB (fun p=>eqS p.name x) l))) w):=by
 have hl:=hr.1;have hm:=hr.2.1;unfold maxLen at hm;have HL:=lH hl;have HR:=lH hr;have HQ:=lH hq;clear hr hl hq;go_enter Tryz.func136,Tryz.ntmps136;go_wp2;go_loopw [8] (fun i wr=>∃k:Nat,k≤len∧i=.int .i64 k∧(idxB (fun p=>eqS p.name x) (l.drop k)).map (·+k)=idxB (fun p=>eqS p.name x) l∧Kept w wr) (fun i _=>len-(intOf i).toNat)
 case atStart=>exact⟨0,Nat.zero_le _,rfl,by simp,Kept.refl _⟩
 case round =>
  obtain⟨k,hk,rfl,hrest,hK⟩:=hrel;have HS:=lH hrest;have HK:=lH hK;by_cases hlt:k<len
  · obtain⟨b,off,rfl⟩:=HR.out.form.resolve_left (by omega);obtain⟨n,a1,m1,c1,a2,m2,c2,a3,m3,c3,a4,m4,c4,hn,hd,hb,p0,p1,p2,p3,p4,p5,p6,p7,p8,p9,p10,hat⟩:=(HR.out.kept hK).at_ hlt;have HD:=lH hd;have HC:=lH (ji6 n a1 a2 a3 a4 m1 c1 m2 c2 m3 c3 m4 c4 q x wr (cell_later hK HQ.out));obtain⟨t,ht⟩:∃t,(eqS n.name x)=t:=⟨_,rfl⟩
    have HT:=lH ht;rw[ht] at HC;clear hrest hK hat hd hn ht
    cases t with
    | true =>
     have HF:=lH (jgI (f:=fun p=>eqS p.name x) HD.out HT.out HS.out);go_wp2_with fail
     refine HC.out.mono ?_;rintro e w1 ⟨rfl,k1⟩;have K1:=lH (HK.out.trans k1);clear k1;go_wp2;go_ret;exact⟨by rw[HF.out];rfl,K1.out⟩
    | false =>
     have HE:=lH (jem (f:=fun p=>eqS p.name x) HD.out HT.out HS.out);go_wp2_with fail
     refine HC.out.mono ?_;rintro e w1 ⟨rfl,k1⟩;have K1:=lH (HK.out.trans k1);clear k1;go_wp2;go_roundw
     case rel=>exact⟨k+1,by omega,by go_num,HE.out,K1.out⟩
     case measure=>simp[intOf];omega
  · have HF:=lH (show idxB (fun p=>eqS p.name x) l=none by rw[←hrest,List.drop_of_length_le (by rw[HL.out];omega)];rfl);clear hrest hK;go_wp2;go_ret;exact⟨by rw[HF.out];rfl,HK.out⟩
theorem jkx (a:Option Addr) (len cap q:Nat) (l:List Pd) (x:ByteArray) (w:World) (hr:jN w a len l) (hq:w.cell? ⟨q,0,none⟩=some (.string x)) :
 Calls Tryz.prog 136 #[.slice a len cap,.func (.func 137) #[] #[.pointer (some ⟨q,0,none⟩)]] w (Say (.int .i64 (jen (idxB (fun p=>!leS p.name x) l))) w):=by
 have hl:=hr.1;have hm:=hr.2.1;unfold maxLen at hm;have HL:=lH hl;have HR:=lH hr;have HQ:=lH hq;clear hr hl hq;go_enter Tryz.func136,Tryz.ntmps136;go_wp2;go_loopw [8] (fun i wr=>∃k:Nat,k≤len∧i=.int .i64 k∧(idxB (fun p=>!leS p.name x) (l.drop k)).map (·+k)=idxB (fun p=>!leS p.name x) l∧Kept w wr) (fun i _=>len-(intOf i).toNat)
 case atStart=>exact⟨0,Nat.zero_le _,rfl,by simp,Kept.refl _⟩
 case round =>
  obtain⟨k,hk,rfl,hrest,hK⟩:=hrel;have HS:=lH hrest;have HK:=lH hK;by_cases hlt:k<len
  · obtain⟨b,off,rfl⟩:=HR.out.form.resolve_left (by omega);obtain⟨n,a1,m1,c1,a2,m2,c2,a3,m3,c3,a4,m4,c4,hn,hd,hb,p0,p1,p2,p3,p4,p5,p6,p7,p8,p9,p10,hat⟩:=(HR.out.kept hK).at_ hlt;have HD:=lH hd;have HC:=lH (jiq n a1 a2 a3 a4 m1 c1 m2 c2 m3 c3 m4 c4 q x wr (cell_later hK HQ.out));obtain⟨t,ht⟩:∃t,(!leS n.name x)=t:=⟨_,rfl⟩
    have HT:=lH ht;rw[ht] at HC;clear hrest hK hat hd hn ht
    cases t with
    | true =>
     have HF:=lH (jgI (f:=fun p=>!leS p.name x) HD.out HT.out HS.out);go_wp2_with fail
     refine HC.out.mono ?_;rintro e w1 ⟨rfl,k1⟩;have K1:=lH (HK.out.trans k1);clear k1;go_wp2;go_ret;exact⟨by rw[HF.out];rfl,K1.out⟩
    | false =>
     have HE:=lH (jem (f:=fun p=>!leS p.name x) HD.out HT.out HS.out);go_wp2_with fail
     refine HC.out.mono ?_;rintro e w1 ⟨rfl,k1⟩;have K1:=lH (HK.out.trans k1);clear k1;go_wp2;go_roundw
     case rel=>exact⟨k+1,by omega,by go_num,HE.out,K1.out⟩
     case measure=>simp[intOf];omega
  · have HF:=lH (show idxB (fun p=>!leS p.name x) l=none by rw[←hrest,List.drop_of_length_le (by rw[HL.out];omega)];rfl);clear hrest hK;go_wp2;go_ret;exact⟨by rw[HF.out];rfl,HK.out⟩
theorem jfU (a:Option Addr) (len cap:Nat) (l:List Pd) (x:ByteArray) (w:World) (hr:jN w a len l) :
 Calls Tryz.prog 132 #[.slice a len cap,.string x] w (Say (.int .i64 (jen (idxB (fun p=>eqS p.name x) l))) w):=by
 have hmf:=hmfL (P:=Tryz.prog);have H:=lH (jkT a len cap w.heap.size l x (w.alloc (.cells #[.string x] 9)) (hr.kept (ja _ _)) ((jd w (.string x) [] 9 _ (Kept.refl _)).at_ 0 _ rfl));clear hr;go_enter Tryz.func132,Tryz.ntmps132;go_wp2_with fail
 refine H.out.mono ?_;rintro e w1 ⟨rfl,k⟩;have K:=lH ((ja _ _).trans k);clear k;go_wp2;go_ret;exact⟨rfl,K.out⟩
theorem qi (a:Option Addr) (len cap:Nat) (l:List Pd) (x:ByteArray) (w:World) (hr:jN w a len l) :
 Calls Tryz.prog 103 #[.slice a len cap,.string x] w (Say (.int .i64 (placeN x l:Nat)) w):=by
 have hmf:=hmfL (P:=Tryz.prog);have H:=lH (jkx a len cap w.heap.size l x (w.alloc (.cells #[.string x] 9)) (hr.kept (ja _ _)) ((jd w (.string x) [] 9 _ (Kept.refl _)).at_ 0 _ rfl));have HL:=lH hr.1;clear hr
 cases hi:idxB (fun p=>!leS p.name x) l with
 | none =>
  rw[hi] at H;have HP:=lH (show (placeN x l:Nat)=len by unfold placeN;rw[hi];exact HL.out);clear hi;unfold jen at H;go_enter Tryz.func103,Tryz.ntmps103;go_wp2_with fail
  refine H.out.mono ?_;rintro e w1 ⟨rfl,k⟩;have K:=lH ((ja _ _).trans k);clear k;go_wp2;go_ret;exact⟨by rw[HP.out];rfl,K.out⟩
 | some j =>
  rw[hi] at H;have HP:=lH (show (placeN x l:Nat)=j by unfold placeN;rw[hi]);clear hi;unfold jen at H;go_enter Tryz.func103,Tryz.ntmps103;go_wp2_with fail
  refine H.out.mono ?_;rintro e w1 ⟨rfl,k⟩;have K:=lH ((ja _ _).trans k);clear k;go_wp2;go_ret;exact⟨by rw[HP.out];rfl,K.out⟩
theorem jg6 (a:Option Addr) (len cap:Nat) (l:List Pd) (x:ByteArray) (w:World) (hr:jN w a len l):Calls Tryz.prog 132 #[.slice a len cap,.string x] w fun e w'=>∃i:Int,e=.returned (.int .i64 i)∧((i=-1∧idxB (fun p=>eqS p.name x) l=none)∨∃k:Nat,i=(k:Int)∧idxB (fun p=>eqS p.name x) l=some k)∧Kept w w':=by
 refine(jfU a len cap l x w hr).mono ?_;rintro e w' ⟨rfl,k⟩;refine⟨_,rfl,?_,k⟩
 cases idxB (fun p=>eqS p.name x) l with
 | none=>exact .inl ⟨rfl,rfl⟩
 | some j=>exact .inr ⟨j,rfl,rfl⟩
theorem jih {x:ByteArray} {l:List Pd} (h:idxB (fun p=>eqS p.name x) l=none):jY x l=l:=by have:=jbD (x:=x) (l:=l);rw[h] at this;exact this.symm
theorem jiP {x:ByteArray} {l:List Pd} {k:Nat} (h:idxB (fun p=>eqS p.name x) l=some k):jY x l=l.take k++l.drop (k+1):=by have:=jbD (x:=x) (l:=l);rw[h] at this;exact this.symm
theorem Xc {X:Type} (L:Lay X) (l:List X) (k:Nat):jb L (l.take k)=(jb L l).take (k*L.m):=by
 have h:=zJ L (l.take k) (l.drop k);rw[List.take_append_drop] at h;by_cases hk:k≤l.length
 · have hlen:(jb L (l.take k)).length=k*L.m:=by rw[jt,List.length_take,Nat.min_eq_left hk]
   have e:=List.take_left' (l₂:=jb L (l.drop k)) hlen;rw[←h] at e;exact e.symm
 · rw[List.take_of_length_le (by omega),List.take_of_length_le (by rw[jt];exact Nat.mul_le_mul_right _ (by omega))]
theorem jah {X:Type} (L:Lay X) (l:List X) (k:Nat):jb L (l.drop k)=(jb L l).drop (k*L.m):=by
 have h:=zJ L (l.take k) (l.drop k);rw[List.take_append_drop,Xc] at h;have h2:=List.take_append_drop (k*L.m) (jb L l);exact(List.append_cancel_left (h2.trans h)).symm
theorem zc.cut {S:Nat→Prop} {B g i j len cap:Nat} {w w':World} {v1 v3:Value} {s:Clu} (h:zc S B w v1 (.slice (some ⟨g,0,none⟩) len cap) v3 s) (hij:i≤j) (hj:j≤len) (hS:∀k,S k→k<w.heap.size)
 (ho:∀xs,w.ownsRow B 35 11 (.slice (some ⟨g,0,none⟩) len cap) len xs→w'.ownsRow B 35 11 (.slice (some ⟨g,0,none⟩) (i+(len-j)) cap) (i+(len-j)) (xs.take (i*11)++xs.drop (j*11))) (gg:jq (fun b=>b=g) w w') :
 zc S B w' v1 (.slice (some ⟨g,0,none⟩) (i+(len-j)) cap) v3 { s with pods:=s.pods.take i++s.pods.drop j }:=by
 obtain⟨lx,e,hown,hd⟩:=h.pods;obtain⟨a',c',e',_⟩:=hown.at_;have hlen:lx.length=len:=by cases e';rfl
 have g':jq (fun b=>(Value.slice (some ⟨g,0,none⟩) len cap).ownBlock=some b) w w':=gg.mono fun b e=>by rw[e];rfl
 refine h.turn g' (fun k hk=>.inl hk) hS ⟨lx.take i++lx.drop j,by rw[List.map_append,List.map_take,List.map_drop,e],⟨?_,fun x hx=>trivial⟩,zc.els (B:=B) (v2':=.slice (some ⟨g,0,none⟩) (i+(len-j)) cap) (fun z hz=>hd z ?_) g' (fun k hk=>.inl hk)⟩
 · have h1:=ho _ (by have:=hown.1;rw[hlen] at this;exact this);have hll:(lx.take i++lx.drop j).length=i+(len-j):=by rw[List.length_append,List.length_take,List.length_drop,hlen];omega
   rw[hll,zJ,Xc,jah];exact h1
 · rcases List.mem_append.1 hz with hz | hz
   · exact List.mem_of_mem_take hz
   · exact List.mem_of_mem_drop hz
theorem jg2 {S:Nat→Prop} {B g i j len cap:Nat} {w:World} {v1 v3:Value} {s:Clu} (h:zc S B w v1 (.slice (some ⟨g,0,none⟩) len cap) v3 s) (hij:i<j) (hj:j≤len) (hS:∀k,S k→k<w.heap.size) :
 Calls Tryz.prog 133 #[.slice (some ⟨g,0,none⟩) len cap,.int .i64 i,.int .i64 j] w fun e w'=>e=.returned (.slice (some ⟨g,0,none⟩) (i+(len-j)) cap)∧zc S B w' v1 (.slice (some ⟨g,0,none⟩) (i+(len-j)) cap) v3 { s with pods:=s.pods.take i++s.pods.drop j }∧jq (fun b=>b=g) w w':=by
 obtain⟨lx,e,hown,hd⟩:=h.pods;obtain⟨a',c',e',_⟩:=hown.at_;have hlen:lx.length=len:=by cases e';rfl
 refine(jf8 g i j len cap B (jb jg lx) w (by have:=hown.1;rw[hlen] at this;exact this) (jB _ _) hij hj).mono ?_;rintro e w' ⟨rfl,ho,hg⟩;refine⟨rfl,h.cut (Nat.le_of_lt hij) hj hS (fun xs hx=>?_) hg,hg⟩;have:xs=jb jg lx:=by
  obtain⟨cur,_,h1,_,_,_,h2,_⟩:=J9 hx;obtain⟨cur',_,h1',_,_,_,h2',_⟩:=J9 (show w.ownsRow B 35 11 (.slice (some ⟨g,0,none⟩) len cap) len (jb jg lx) by have:=hown.1;rw[hlen] at this;exact this);rw[h1] at h1'
  cases h1'
  rw[←h2,←h2']
 rw[this];exact ho
theorem jbW (a b d:Option Addr) (len cap m c n e:Nat) (nl:List Nod) (pl:List Pd) (bl:List Bd) (x:ByteArray) (w:World) (hn:jE w a len nl) (hp:jN w b m pl) (hb:Jc w d n bl) (h1:len≤cap) (h2:cap≤maxLen) (h3:m≤c) (h4:c≤maxLen) (h5:n≤e) (h6:e≤maxLen) (hl:jH ⟨nl,pl,bl⟩) :
 Calls Tryz.prog 101 #[.agg #[.slice a len cap,.slice b m c,.slice d n e],.string x] w fun e w'=>∃a1 n1 c1 a2 n2 c2 a3 n3 c3,e=.returned (.agg #[.slice a1 n1 c1,.slice a2 n2 c2,.slice a3 n3 c3])∧zc (fun b=>b<w.heap.size) w.heap.size w' (.slice a1 n1 c1) (.slice a2 n2 c2) (.slice a3 n3 c3) (zU ⟨nl,pl,bl⟩ x)∧Kept w w':=by
 obtain⟨Z,hZ⟩:∃Z,(w.alloc (.cells #[.slice a len cap,.slice b m c,.slice d n e] 26)).alloc (.cells #[.slice none 0 0,.slice none 0 0,.slice none 0 0] 26)=Z:=⟨_,rfl⟩
 have hkz:Kept w Z:=by rw[←hZ];exact jm _ _ _
 have hzs:Z.heap.size=w.heap.size+2:=by rw[←hZ];simp
 have cc:=jd w (.slice a len cap) [.slice b m c,.slice d n e] 26 Z (by have:=ja (w.alloc (.cells #[.slice a len cap,.slice b m c,.slice d n e] 26)) (.cells #[.slice none 0 0,.slice none 0 0,.slice none 0 0] 26);rw[hZ] at this;exact this);have o0:=cc.at_ 0 _ rfl;have o1:=cc.at_ 1 _ rfl;have o2:=cc.at_ 2 _ rfl;have HQ:=lH (show jf (w.heap.size+1) [.slice none 0 0,.slice none 0 0,.slice none 0 0] Z by
  have dd:=jd (w.alloc (.cells #[.slice a len cap,.slice b m c,.slice d n e] 26)) (.slice none 0 0) [.slice none 0 0,.slice none 0 0] 26 Z (by rw[hZ];exact Kept.refl _);rw[World.size_alloc] at dd;exact dd)
 have HO:=lH (jfZ a b d len cap m c n e nl pl bl Z (hn.kept hkz) (hp.kept hkz) (hb.kept hkz) h1 h2 h3 h4 h5 h6 hl);have Ve:=lH hkz;have Vm:=lH hzs;have NG:=lH hl.podsN;clear hn hp hb h1 h2 h3 h4 h5 h6 hl hkz hzs cc;go_enter Tryz.func101,Tryz.ntmps101;go_wp2_with fail
 try rw[hZ]
 go_wp2_with fail
 try rw[hZ]
 clear hZ o0 o1 o2;refine HO.out.mono ?_;rintro e1 w1 ⟨a1,n1,c1,a2,n2,c2,a3,n3,c3,rfl,ho,k1⟩;obtain⟨W1,hW1⟩:∃W,w1.alloc (.cells #[.slice a1 n1 c1,.slice a2 n2 c2,.slice a3 n3 c3] 26)=W:=⟨_,rfl⟩
 have hkw:Kept w1 W1:=by rw[←hW1];exact ja _ _
 have HC:=lH (ho.more (q:=w1.heap.size) hkw (Nat.le_refl _));have HW:=lH (show jf w1.heap.size [.slice a1 n1 c1,.slice a2 n2 c2,.slice a3 n3 c3] W1 from jd w1 (.slice a1 n1 c1) [.slice a2 n2 c2,.slice a3 n3 c3] 26 W1 (by rw[hW1];exact Kept.refl _));have HQ:=lH (HQ.out.kept (k1.trans hkw));have K:=lH (k1.trans hkw);have Vp:=lH (show Z.heap.size≤w1.heap.size∧w1.heap.size<W1.heap.size from⟨k1.size,by rw[←hW1,World.size_alloc];exact Nat.lt_succ_self _⟩);clear ho k1 hkw;obtain⟨u1,u2,u3,hu,hat⟩:=HC.out.toR
 cases hu
 obtain⟨ap,cp,ep,l1,l2,hpat⟩:=hat.pods
 cases ep
 have TS:=lH hpat;have MN:=lH (And.intro l1 l2);clear hat hpat l1 l2;have y0:=HW.out.at_ 0 _ rfl;have y1:=HW.out.at_ 1 _ rfl;have y2:=HW.out.at_ 2 _ rfl;go_wp2_with fail
 try rw[hW1]
 go_wp2_with fail
 try rw[hW1]
 clear hW1 y0 y1 y2;refine(jg6 a2 _ c2 pl x _ TS.out).mono ?_;rintro e2 w2 ⟨i9,rfl,hidx,k2⟩;have K2:=lH (K.out.trans k2);have U7:=lH (HC.out.kept k2);have TE:=lH (HW.out.kept k2);have Tk:=lH (HQ.out.kept k2);have Uc:=lH (show w1.heap.size<w2.heap.size from Nat.lt_of_lt_of_le Vp.out.2 k2.size);clear k2;rcases hidx with ⟨rfl,hi⟩ | ⟨k,rfl,hi⟩
 · skip;have RR:=lH (show zU ⟨nl,pl,bl⟩ x=⟨nl,pl,bl⟩ by unfold zU;dsimp only;rw[jih hi]);clear hi;have y0:=TE.out.at_ 0 _ rfl;have y1:=TE.out.at_ 1 _ rfl;have y2:=TE.out.at_ 2 _ rfl;have z0:=Tk.out.at_ 0 _ rfl;have z1:=Tk.out.at_ 1 _ rfl;have z2:=Tk.out.at_ 2 _ rfl;have f0:=Tk.out.free 0;have f1:=Tk.out.free 1;have f2:=Tk.out.free 2;have P:=lH (jW (vs:=[.slice a1 n1 c1,.slice a2 pl.length c2,.slice a3 n3 c3]) Tk.out rfl);go_wp2;obtain⟨WE,hWE⟩:∃W,w2.setCells (w.heap.size+1) 0 [.slice a1 n1 c1,.slice a2 pl.length c2,.slice a3 n3 c3]=W:=⟨_,rfl⟩
   have hWE2:(((w2.setCell ⟨(w.heap.size+1),0,none⟩ (.slice a1 n1 c1)).setCell ⟨(w.heap.size+1),1,none⟩ (.slice a2 pl.length c2)).setCell ⟨(w.heap.size+1),2,none⟩ (.slice a3 n3 c3))=WE:=hWE;rw[hWE] at P;try rw[hWE2]
   have GE:=lH (show jq (fun b=>b<Z.heap.size∨b=w1.heap.size) w2 WE by rw[←hWE];exact jq.cells (S:=fun b=>b<Z.heap.size∨b=w1.heap.size) _ (.inl (by have:=Vm.out;omega)) _ _ _);clear hWE hWE2;obtain⟨PC,hsz,hbl,hkp⟩:=P.out;refine bodyPost_ret (by simp[results,Tryz.results101,go_sem,PC.at_ 0 _ rfl,PC.at_ 1 _ rfl,PC.at_ 2 _ rfl];try rfl) rfl ?_;have VN:=((U7.out).step GE.out).less (B':=w.heap.size) (S':=fun b=>b<w.heap.size) Ve.out.size (fun b hb=>.inl (Nat.lt_of_lt_of_le hb Ve.out.size));exact⟨_,_,_,_,_,_,_,_,_,rfl,by rw[RR.out];exact VN,hkp _ _ (by omega) (Ve.out.trans K2.out)⟩
 · skip;have hkl:=jeb hi;have RR:=lH (show zU ⟨nl,pl,bl⟩ x=⟨nl,pl.take k++pl.drop (k+1),bl⟩ by unfold zU;dsimp only;rw[jiP hi]);have Mi:=lH hkl;clear hi;obtain⟨g,rfl⟩:∃g,a2=some ⟨g,0,none⟩:=by
    obtain⟨lx,e,ho,-⟩:=U7.out.pods;rcases ho.1.2 with ⟨h0,h1⟩ | ⟨g,c9,cur,h0,-⟩
    · injection h0 with e1 e2 e3;omega
    · injection h0 with e1 e2 e3;exact⟨g,e1⟩
   have RS:=lH (show g≠w1.heap.size∧Z.heap.size≤g from by
    have h1:=U7.out.sep g rfl;have h2:=(U7.out.lt g rfl).1;exact⟨fun e=>h1 (.inr e),h2⟩)
   obtain⟨k1,hk1⟩:∃q:Nat,(k:Int)+1=(q:Int):=⟨k+1,by omega⟩
   have Nn:=lH (show k1=k+1 by omega);have NH:pl.length≤100000:=NG.out;have hw9:IntKind.i64.wrap ((k1:Nat):Int)=(k1:Int):=by have:=Mi.out;have:=Nn.out;rw[IntKind.wrap_i64];omega
   have RR:=lH (show zU ⟨nl,pl,bl⟩ x=⟨nl,pl.take k++pl.drop k1,bl⟩ by rw[RR.out,Nn.out]);have Mj:=lH (jg2 (i:=k) (j:=k1) U7.out (by have:=Nn.out;omega) (by have:=Nn.out;have:=Mi.out;omega) (fun b hb=>by have:=Uc.out;have:=Vp.out.1;rcases hb with hb | hb<;>omega));obtain⟨len9,hlen9⟩:∃q,pl.length=q:=⟨_,rfl⟩
   rw[hlen9] at Mj TE ⊢;have TF:=lH hlen9;clear hkl NH hlen9;have y1:=TE.out.at_ 1 _ rfl;go_wp2_with fail
   clear y1;refine Mj.out.mono ?_;rintro e3 w3 ⟨rfl,hc3,hg3⟩;have RK:=lH hc3;have Ro:=lH (TE.out.block (hg3.block _ Uc.out (fun e=>RS.out.1 e.symm)));have MO:=lH (Tk.out.block (hg3.block _ (by have:=Vm.out;have:=Vp.out.1;have:=Uc.out;omega) (fun e=>by have:=RS.out.2;have:=Vm.out;omega)));have K3:=lH (show Kept w w3 from Below.trans (Ve.out.trans K2.out) (hg3.at_below (B:=w.heap.size) (fun q e=>by have:=RS.out.2;have:=Vm.out;omega) (Ve.out.trans K2.out).size));clear hc3 hg3;have y1:=Ro.out.at_ 1 _ rfl;have x1:=Ro.out.free 1;have NI:=lH (show jf w1.heap.size [.slice a1 n1 c1,.slice (some ⟨g,0,none⟩) (k+(len9-k1)) c2,.slice a3 n3 c3] (w3.setCell ⟨w1.heap.size,1,none⟩ (.slice (some ⟨g,0,none⟩) (k+(len9-k1)) c2)) from Ro.out.set (j:=1) (by simp));have VJ:=lH (MO.out.other (p:=w1.heap.size) (j:=1) (u:=.slice (some ⟨g,0,none⟩) (k+(len9-k1)) c2) (by have:=Vm.out;have:=Vp.out.1;omega));have MP:=lH (RK.out.step (jq.cell (S:=fun b=>b<Z.heap.size∨b=w1.heap.size) w1.heap.size 1 (.slice (some ⟨g,0,none⟩) (k+(len9-k1)) c2) (.inr rfl)));have K4:=lH (show Kept w (w3.setCell ⟨w1.heap.size,1,none⟩ (.slice (some ⟨g,0,none⟩) (k+(len9-k1)) c2)) from K3.out.setCell (p:=⟨w1.heap.size,1,none⟩) (by have:=Vm.out;have:=Vp.out.1;show w.heap.size≤w1.heap.size;omega) _);have y0:=NI.out.at_ 0 _ rfl;have y1:=NI.out.at_ 1 _ rfl;have y2:=NI.out.at_ 2 _ rfl;have z0:=VJ.out.at_ 0 _ rfl;have z1:=VJ.out.at_ 1 _ rfl;have z2:=VJ.out.at_ 2 _ rfl;have f0:=VJ.out.free 0;have f1:=VJ.out.free 1;have f2:=VJ.out.free 2;have P:=lH (jW (vs:=[.slice a1 n1 c1,.slice (some ⟨g,0,none⟩) (k+(len9-k1)) c2,.slice a3 n3 c3]) VJ.out rfl);go_wp2;obtain⟨WE,hWE⟩:∃W,(w3.setCell ⟨w1.heap.size,1,none⟩ (.slice (some ⟨g,0,none⟩) (k+(len9-k1)) c2)).setCells (w.heap.size+1) 0 [.slice a1 n1 c1,.slice (some ⟨g,0,none⟩) (k+(len9-k1)) c2,.slice a3 n3 c3]=W:=⟨_,rfl⟩
   have hWE2:((((w3.setCell ⟨w1.heap.size,1,none⟩ (.slice (some ⟨g,0,none⟩) (k+(len9-k1)) c2)).setCell ⟨(w.heap.size+1),0,none⟩ (.slice a1 n1 c1)).setCell ⟨(w.heap.size+1),1,none⟩ (.slice (some ⟨g,0,none⟩) (k+(len9-k1)) c2)).setCell ⟨(w.heap.size+1),2,none⟩ (.slice a3 n3 c3))=WE:=hWE;rw[hWE] at P;try rw[hWE2]
   have GE:=lH (show jq (fun b=>b<Z.heap.size∨b=w1.heap.size) (w3.setCell ⟨w1.heap.size,1,none⟩ (.slice (some ⟨g,0,none⟩) (k+(len9-k1)) c2)) WE by rw[←hWE];exact jq.cells (S:=fun b=>b<Z.heap.size∨b=w1.heap.size) _ (.inl (by have:=Vm.out;omega)) _ _ _);clear hWE hWE2;obtain⟨PC,hsz,hbl,hkp⟩:=P.out;refine bodyPost_ret (by simp[results,Tryz.results101,go_sem,PC.at_ 0 _ rfl,PC.at_ 1 _ rfl,PC.at_ 2 _ rfl];try rfl) rfl ?_;have VN:=((MP.out).step GE.out).less (B':=w.heap.size) (S':=fun b=>b<w.heap.size) Ve.out.size (fun b hb=>.inl (Nat.lt_of_lt_of_le hb Ve.out.size));exact⟨_,_,_,_,_,_,_,_,_,rfl,by rw[RR.out];exact VN,hkp _ _ (by omega) K4.out⟩
end Go.Proofs.YtmlgobiifebjkabGreat
