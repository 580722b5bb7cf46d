/- C. -/
import Derived.Test.YtokdjfoalkmhiaaGreatG0
import Derived.Test.YtokdjfoalkmhiaaGreatG1
import Derived.Test.YtokdjfoalkmhiaaGreatG2
import Derived.Test.YtokdjfoalkmhiaaGreatG4
import Derived.Test.YtokdjfoalkmhiaaGreatG6
set_option linter.unusedVariables false
set_option maxRecDepth 100000
set_option maxHeartbeats 25600000
namespace Go.Proofs.YtokdjfoalkmhiaaGreat.Vec
open Go.RowKit Go.Proofs.YtokdjfoalkmhiaaGreat
theorem jnj:(Tryz.prog.info? 9).map (fun i=>(i.zero,i.size,i.bytes))=some (some (.string ByteArray.empty),1,16):=by kernel_rfl
def Names (ns:List ByteArray) (w:World) (e:Ending) (w':World):Prop:=∃x,e=.returned x∧Own zl 9 w' w.heap.size x ns∧Kept w w'
theorem jd7 (a a':Option Addr) (len cap len' cap':Nat) (l l':V) (w:World) (hr:jw w a len l) (hr':jw w a' len' l') (h8:len≤8) (h8':len'≤8) :
 Calls Tryz.prog 184 #[.slice a len cap,.slice a' len' cap'] w (Names (j8 (l.length+l'.length) l l') w):=by
 obtain⟨HA,HB,HL⟩:=lH3 hr hr' hr.1;have HL':=lH hr'.1;have HF:=lH hr.2.2.1;have HF':=lH hr'.2.2.1;obtain⟨i0,hi,hz0,hz1,hz2⟩:=info_parts jnj;obtain⟨NS,hNS⟩:=eX (j8 (l.length+l'.length) l l')
 rw[hNS];have Rh:=lH hNS;clear hr hr' hNS;go_enter Tryz.func184,Tryz.ntmps184;go_wp2
 go_loopw [5,6,7] (fun v vi vk wr=>∃(i k fuel:Nat) (acc:List ByteArray),i≤len∧k≤len'∧vi=.int .i64 i∧vk=.int .i64 k∧acc++j8 fuel (l.drop i) (l'.drop k)=NS∧(len-i)+(len'-k)≤fuel∧Own zl 9 wr w.heap.size v acc∧Below w.heap.size w wr∧acc.length≤i+k)
  (fun _ vi vk _=>(len-(intOf vi).toNat)+(len'-(intOf vk).toNat))
 case atStart=>exact⟨0,0,l.length+l'.length,[],Nat.zero_le _,Nat.zero_le _,rfl,rfl,Rh.out,by rw[HL.out,HL'.out];omega,Own.nil _ _ _,Below.refl _ _,Nat.zero_le _⟩
 case round =>
  obtain⟨i,k,fuel,acc,hi1,hk1,rfl,rfl,hres,hfu,ho,hB,hacc⟩:=hrel;obtain⟨HQ,HO,Vg⟩:=lH3 hres ho hB;clear hres ho;by_cases hi2:i<len
  · obtain⟨b,off,rfl⟩:=HA.out.form.resolve_left (by omega);obtain⟨hb,c1,-⟩:=(HA.out.kept hB).cells hi2;have HI:=lH (show i<l.length by rw[HL.out];exact hi2);have Ri:=lH (HF.out i HI.out).1;obtain⟨f2,rfl⟩:∃f2,fuel=f2+1:=⟨fuel-1,by omega⟩
    by_cases hk2:k<len'
    · obtain⟨b',off',rfl⟩:=HB.out.form.resolve_left (by omega);obtain⟨hb',d1,-⟩:=(HB.out.kept hB).cells hk2;have HK:=lH (show k<l'.length by rw[HL'.out];exact hk2);have Up:=lH (HF'.out k HK.out).1;have hd:decide (len'≤k)=false:=decide_eq_false (by omega);have hd2:decide (len≤i)=false:=decide_eq_false (by omega);have hi3:(i:Int)<(len:Int):=by omega
      have hk3:(k:Int)<(len':Int):=by omega
      have HS:=lH (show ∀W,Kept wr W→W.cell? ⟨b,off+i*2,none⟩=some (.string (nm l i))∧W.cell? ⟨b',off'+k*2,none⟩=some (.string (nm l' k)) from fun W kk=>⟨cell_later kk c1,cell_later kk d1⟩);clear hB;by_cases e1:ltS (nm l i) (nm l' k)=true
      · have E1:=lH e1;have e1':Op.bytesLess (nm l i).toList (nm l' k).toList=true:=e1;clear e1;have HN:=lH (show acc++[nm l i]++j8 f2 (l.drop (i+1)) (l'.drop (k))=NS by rw[←HQ.out,jcA HI.out (.inr ⟨HK.out,E1.out⟩)];simp);go_wp2;clear c1 d1;refine wp_region_held_drew (S:=fun W=>W.cell? ⟨b,off+i*2,none⟩=some (.string (nm l i))∧W.cell? ⟨b',off'+k*2,none⟩=some (.string (nm l' k))) (by kernel_rfl) (HS.out _ (Kept.drew _)) (fun hHeld=>?_);refine tR 0 rfl (by kernel_rfl) (fun _ _ _=>id) (Or.inl ⟨by rfl,by rintro W ⟨c1,d1⟩;go_simp<;>with_reducible rfl⟩) ‹_› ?_;try simp only[nP]
        refine tR 1 rfl (by kernel_rfl) (fun _ _ _=>id) (Or.inl ⟨by rfl,by rintro W ⟨c1,d1⟩;go_simp<;>with_reducible rfl⟩) ‹_› ?_;try simp only[nP]
        refine tR 2 rfl (by kernel_rfl) (fun _ _ _=>id) (Or.inl ⟨by rfl,by rintro W ⟨c1,d1⟩;go_simp<;>with_reducible rfl⟩) ‹_› ?_;try simp only[nP]
        refine tR 3 rfl (by kernel_rfl) (fun _ _ _=>id) (Or.inl ⟨by rfl,by rintro W ⟨c1,d1⟩;go_simp<;>with_reducible rfl⟩) ‹_› ?_;try simp only[nP]
        refine tR 4 rfl (by kernel_rfl) (fun _ _ _=>id) (Or.inl ⟨by rfl,by rintro W ⟨c1,d1⟩;go_simp<;>with_reducible rfl⟩) ‹_› ?_;try simp only[nP]
        refine tR 5 rfl (by kernel_rfl) (fun _ _ _=>id) (Or.inl ⟨by rfl,by rintro W ⟨c1,d1⟩;go_simp<;>with_reducible rfl⟩) ‹_› ?_;try simp only[nP]
        refine tR 6 rfl (by kernel_rfl) (fun _ _ _=>id) (Or.inl ⟨by rfl,by rintro W ⟨c1,d1⟩;go_simp<;>with_reducible rfl⟩) ‹_› ?_;try simp only[nP]
        refine tR 7 rfl (by kernel_rfl) (fun _ _ _=>id) (Or.inl ⟨by rfl,by rintro W ⟨c1,d1⟩;go_simp<;>with_reducible rfl⟩) ‹_› ?_;try simp only[nP]
        refine tR 8 rfl (by kernel_rfl) (fun _ _ _=>id) (Or.inl ⟨by rfl,by rintro W ⟨c1,d1⟩;go_simp<;>with_reducible rfl⟩) ‹_› ?_;try simp only[nP]
        refine tR 9 rfl (by kernel_rfl) (fun _ _ _=>id) (Or.inl ⟨by rfl,by rintro W ⟨c1,d1⟩;go_simp<;>with_reducible rfl⟩) ‹_› ?_;try simp only[nP]
        refine tR 10 rfl (by kernel_rfl) (fun _ _ _=>id) (Or.inl ⟨by rfl,by rintro W ⟨c1,d1⟩;go_simp<;>with_reducible rfl⟩) ‹_› ?_;try simp only[nP]
        refine tR 11 rfl (by kernel_rfl) (fun _ _ _=>id) (Or.inl ⟨by rfl,by rintro W ⟨c1,d1⟩;go_simp<;>with_reducible rfl⟩) ‹_› ?_;try simp only[nP]
        refine tR 12 rfl (by kernel_rfl) (fun _ _ _=>id) (Or.inl ⟨by rfl,by rintro W ⟨c1,d1⟩;go_simp<;>with_reducible rfl⟩) ‹_› ?_;try simp only[nP]
        refine tR 13 rfl (by kernel_rfl) (fun _ _ _=>id) (Or.inl ⟨by rfl,by rintro W ⟨c1,d1⟩;go_simp<;>with_reducible rfl⟩) ‹_› ?_;try simp only[nP]
        refine tR 14 rfl (by kernel_rfl) (fun _ _ _=>id) (Or.inl ⟨by rfl,by rintro W ⟨c1,d1⟩;go_simp<;>with_reducible rfl⟩) ‹_› ?_;try simp only[nP]
        refine tR 15 rfl (by kernel_rfl) (fun _ _ _=>id) (Or.inl ⟨by rfl,by rintro W ⟨c1,d1⟩;go_simp<;>with_reducible rfl⟩) ‹_› ?_;try simp only[nP]
        refine tR 16 rfl (by kernel_rfl) (fun _ _ _=>id) (Or.inl ⟨by rfl,by rintro W ⟨c1,d1⟩;go_simp<;>with_reducible rfl⟩) ‹_› ?_;try simp only[nP]
        refine tR 17 rfl (by kernel_rfl) (fun _ _ _=>id) (Or.inl ⟨by rfl,by rintro W ⟨c1,d1⟩;go_simp<;>with_reducible rfl⟩) ‹_› ?_;try simp only[nP]
        refine tR 18 rfl (by kernel_rfl) (fun _ _ _=>id) (Or.inl ⟨by rfl,by rintro W ⟨c1,d1⟩;go_simp<;>with_reducible rfl⟩) ‹_› ?_;try simp only[nP]
        refine tR 19 rfl (by kernel_rfl) (fun _ _ _=>id) (Or.inl ⟨by rfl,by rintro W ⟨c1,d1⟩;go_simp<;>with_reducible rfl⟩) ‹_› ?_;try simp only[nP]
        refine tR 20 rfl (by kernel_rfl) (fun _ _ _=>id) (Or.inl ⟨by rfl,by rintro W ⟨c1,d1⟩;go_simp<;>with_reducible rfl⟩) ‹_› ?_;try simp only[nP]
        refine tR 21 rfl (by kernel_rfl) (fun _ _ _=>id) (Or.inl ⟨by rfl,by rintro W ⟨c1,d1⟩;go_simp<;>with_reducible rfl⟩) ‹_› ?_;try simp only[nP]
        refine tR 22 rfl (by kernel_rfl) (fun _ _ _=>id) (Or.inl ⟨by rfl,by rintro W ⟨c1,d1⟩;go_simp<;>with_reducible rfl⟩) ‹_› ?_;try simp only[nP]
        refine tR 23 rfl (by kernel_rfl) (fun _ _ _=>id) (Or.inl ⟨by rfl,by rintro W ⟨c1,d1⟩;go_simp<;>with_reducible rfl⟩) ‹_› ?_;try simp only[nP]
        refine wpAnyH_done (by kernel_rfl) ?_ _;have Vm:=lH (show Kept wr (wr.drew) from(Kept.drew wr));obtain⟨c1,d1⟩:=HS.out _ Vm.out;have hbw:(wr.drew).heap.size=wr.heap.size:=rfl;obtain⟨W1,hW1⟩:=eX (wr.drew)
        rw[hW1] at Vm hbw c1 d1;try rw[hW1]
        try simp only[hW1]
        clear hW1;have hbase:w.heap.size≤W1.heap.size:=by rw[hbw];exact Vg.out.size
        have Vu:=lH hbase;have OK:=lH (HO.out.kept Vm.out);have hacc16:acc.length≤16:=by omega
        clear hbw;go_wp2_with (at_builtin;refine wpList_append_lies _ rfl _ _ _ rfl w.heap.size 9 i0 _ 1 16 Tryz.underlying34 hi hz0 hz1 hz2 rfl (by decide) u5 acc.length (je zl acc) rfl (OK.out.1.alloc _) ⟨W1.heap.size,0,none⟩ 1 1 (zl.cs (nm l i)) rfl rfl (World.news_of_block (cs:=#[.string (nm l i)]) (t:=9) (fr:=(0,0)) (W1.alloc_heap_new _)) (jae (nm l i)) (by decide) (by unfold maxLen;omega) (by omega) (by rw[World.size_alloc];exact Nat.le_succ_of_le Vu.out) (W1.heap.size+1) (World.size_alloc _ _) ?_;intro g cap1 w7 hown1 hgrow hg hlt7;refine Hid.out ?_)
        refine lH ?_;have VQ:=lH (((Vg.out.trans (Below.mono Vm.out Vg.out.size)).alloc (by exact Vu.out) _).grown hgrow (by rw[World.size_alloc];exact Nat.le_succ_of_le Vu.out) (fun j hj=>(HO.out.1.lt j hj).1));go_wp2;go_roundw
        case rel=>exact⟨i+1,k,f2,acc++[nm l i],by omega,by omega,by go_num,by go_num,HN.out,by omega,Own.snoc hown1 rfl HO.out.2 Ri.out,VQ.out,by rw[List.length_append];simp only[List.length_cons,List.length_nil];omega⟩
        case measure=>simp[intOf];omega
      · have e1:ltS (nm l i) (nm l' k)=false:=by simpa using e1
        have E1:=lH e1;have e1':Op.bytesLess (nm l i).toList (nm l' k).toList=false:=e1;clear e1;by_cases e2:ltS (nm l' k) (nm l i)=true
        · have E2:=lH e2;have e2':Op.bytesLess (nm l' k).toList (nm l i).toList=true:=e2;clear e2;have HN:=lH (show acc++[nm l' k]++j8 f2 (l.drop (i)) (l'.drop (k+1))=NS by rw[←HQ.out,jb1 HK.out (.inr ⟨HI.out,E2.out⟩)];simp);go_wp2;clear c1 d1;refine wp_region_held_drew (S:=fun W=>W.cell? ⟨b,off+i*2,none⟩=some (.string (nm l i))∧W.cell? ⟨b',off'+k*2,none⟩=some (.string (nm l' k))) (by kernel_rfl) (HS.out _ (Kept.drew _)) (fun hHeld=>?_);refine tR 0 rfl (by kernel_rfl) (fun _ _ _=>id) (Or.inl ⟨by rfl,by rintro W ⟨c1,d1⟩;go_simp<;>with_reducible rfl⟩) ‹_› ?_;try simp only[nP]
          refine tR 1 rfl (by kernel_rfl) (fun _ _ _=>id) (Or.inl ⟨by rfl,by rintro W ⟨c1,d1⟩;go_simp<;>with_reducible rfl⟩) ‹_› ?_;try simp only[nP]
          refine tR 2 rfl (by kernel_rfl) (fun _ _ _=>id) (Or.inl ⟨by rfl,by rintro W ⟨c1,d1⟩;go_simp<;>with_reducible rfl⟩) ‹_› ?_;try simp only[nP]
          refine tR 3 rfl (by kernel_rfl) (fun _ _ _=>id) (Or.inl ⟨by rfl,by rintro W ⟨c1,d1⟩;go_simp<;>with_reducible rfl⟩) ‹_› ?_;try simp only[nP]
          refine tR 4 rfl (by kernel_rfl) (fun _ _ _=>id) (Or.inl ⟨by rfl,by rintro W ⟨c1,d1⟩;go_simp<;>with_reducible rfl⟩) ‹_› ?_;try simp only[nP]
          refine tR 5 rfl (by kernel_rfl) (fun _ _ _=>id) (Or.inl ⟨by rfl,by rintro W ⟨c1,d1⟩;go_simp<;>with_reducible rfl⟩) ‹_› ?_;try simp only[nP]
          refine tR 6 rfl (by kernel_rfl) (fun _ _ _=>id) (Or.inl ⟨by rfl,by rintro W ⟨c1,d1⟩;go_simp<;>with_reducible rfl⟩) ‹_› ?_;try simp only[nP]
          refine tR 7 rfl (by kernel_rfl) (fun _ _ _=>id) (Or.inl ⟨by rfl,by rintro W ⟨c1,d1⟩;go_simp<;>with_reducible rfl⟩) ‹_› ?_;try simp only[nP]
          refine tR 8 rfl (by kernel_rfl) (fun _ _ _=>id) (Or.inl ⟨by rfl,by rintro W ⟨c1,d1⟩;go_simp<;>with_reducible rfl⟩) ‹_› ?_;try simp only[nP]
          refine tR 9 rfl (by kernel_rfl) (fun _ _ _=>id) (Or.inl ⟨by rfl,by rintro W ⟨c1,d1⟩;go_simp<;>with_reducible rfl⟩) ‹_› ?_;try simp only[nP]
          refine tR 10 rfl (by kernel_rfl) (fun _ _ _=>id) (Or.inl ⟨by rfl,by rintro W ⟨c1,d1⟩;go_simp<;>with_reducible rfl⟩) ‹_› ?_;try simp only[nP]
          refine tR 11 rfl (by kernel_rfl) (fun _ _ _=>id) (Or.inl ⟨by rfl,by rintro W ⟨c1,d1⟩;go_simp<;>with_reducible rfl⟩) ‹_› ?_;try simp only[nP]
          refine tR 12 rfl (by kernel_rfl) (fun _ _ _=>id) (Or.inl ⟨by rfl,by rintro W ⟨c1,d1⟩;go_simp<;>with_reducible rfl⟩) ‹_› ?_;try simp only[nP]
          refine tR 13 rfl (by kernel_rfl) (fun _ _ _=>id) (Or.inl ⟨by rfl,by rintro W ⟨c1,d1⟩;go_simp<;>with_reducible rfl⟩) ‹_› ?_;try simp only[nP]
          refine tR 14 rfl (by kernel_rfl) (fun _ _ _=>id) (Or.inl ⟨by rfl,by rintro W ⟨c1,d1⟩;go_simp<;>with_reducible rfl⟩) ‹_› ?_;try simp only[nP]
          refine tR 15 rfl (by kernel_rfl) (fun _ _ _=>id) (Or.inl ⟨by rfl,by rintro W ⟨c1,d1⟩;go_simp<;>with_reducible rfl⟩) ‹_› ?_;try simp only[nP]
          refine tR 16 rfl (by kernel_rfl) (fun _ _ _=>id) (Or.inl ⟨by rfl,by rintro W ⟨c1,d1⟩;go_simp<;>with_reducible rfl⟩) ‹_› ?_;try simp only[nP]
          refine tR 17 rfl (by kernel_rfl) (fun _ _ _=>id) (Or.inl ⟨by rfl,by rintro W ⟨c1,d1⟩;go_simp<;>with_reducible rfl⟩) ‹_› ?_;try simp only[nP]
          refine tR 18 rfl (by kernel_rfl) (fun _ _ _=>id) (Or.inl ⟨by rfl,by rintro W ⟨c1,d1⟩;go_simp<;>with_reducible rfl⟩) ‹_› ?_;try simp only[nP]
          refine tR 19 rfl (by kernel_rfl) (fun _ _ _=>id) (Or.inl ⟨by rfl,by rintro W ⟨c1,d1⟩;go_simp<;>with_reducible rfl⟩) ‹_› ?_;try simp only[nP]
          refine tR 20 rfl (by kernel_rfl) (fun _ _ _=>id) (Or.inl ⟨by rfl,by rintro W ⟨c1,d1⟩;go_simp<;>with_reducible rfl⟩) ‹_› ?_;try simp only[nP]
          refine tR 21 rfl (by kernel_rfl) (fun _ _ _=>id) (Or.inl ⟨by rfl,by rintro W ⟨c1,d1⟩;go_simp<;>with_reducible rfl⟩) ‹_› ?_;try simp only[nP]
          refine tR 22 rfl (by kernel_rfl) (fun _ _ _=>id) (Or.inl ⟨by rfl,by rintro W ⟨c1,d1⟩;go_simp<;>with_reducible rfl⟩) ‹_› ?_;try simp only[nP]
          refine tR 23 rfl (by kernel_rfl) (fun _ _ _=>id) (Or.inl ⟨by rfl,by rintro W ⟨c1,d1⟩;go_simp<;>with_reducible rfl⟩) ‹_› ?_;try simp only[nP]
          refine wpAnyH_done (by kernel_rfl) ?_ _;go_wp2;refine wp_region_held_drew (S:=fun W=>W.cell? ⟨b,off+i*2,none⟩=some (.string (nm l i))∧W.cell? ⟨b',off'+k*2,none⟩=some (.string (nm l' k))) (by kernel_rfl) (HS.out _ ((Kept.drew _).trans (Kept.drew _))) (fun hHeld=>?_);refine tR 0 rfl (by kernel_rfl) (fun _ _ _=>id) (Or.inl ⟨by rfl,by rintro W ⟨c1,d1⟩;go_simp<;>with_reducible rfl⟩) ‹_› ?_;try simp only[nP]
          refine tR 1 rfl (by kernel_rfl) (fun _ _ _=>id) (Or.inl ⟨by rfl,by rintro W ⟨c1,d1⟩;go_simp<;>with_reducible rfl⟩) ‹_› ?_;try simp only[nP]
          refine tR 2 rfl (by kernel_rfl) (fun _ _ _=>id) (Or.inl ⟨by rfl,by rintro W ⟨c1,d1⟩;go_simp<;>with_reducible rfl⟩) ‹_› ?_;try simp only[nP]
          refine tR 3 rfl (by kernel_rfl) (fun _ _ _=>id) (Or.inl ⟨by rfl,by rintro W ⟨c1,d1⟩;go_simp<;>with_reducible rfl⟩) ‹_› ?_;try simp only[nP]
          refine tR 4 rfl (by kernel_rfl) (fun _ _ _=>id) (Or.inl ⟨by rfl,by rintro W ⟨c1,d1⟩;go_simp<;>with_reducible rfl⟩) ‹_› ?_;try simp only[nP]
          refine tR 5 rfl (by kernel_rfl) (fun _ _ _=>id) (Or.inl ⟨by rfl,by rintro W ⟨c1,d1⟩;go_simp<;>with_reducible rfl⟩) ‹_› ?_;try simp only[nP]
          refine tR 6 rfl (by kernel_rfl) (fun _ _ _=>id) (Or.inl ⟨by rfl,by rintro W ⟨c1,d1⟩;go_simp<;>with_reducible rfl⟩) ‹_› ?_;try simp only[nP]
          refine tR 7 rfl (by kernel_rfl) (fun _ _ _=>id) (Or.inl ⟨by rfl,by rintro W ⟨c1,d1⟩;go_simp<;>with_reducible rfl⟩) ‹_› ?_;try simp only[nP]
          refine tR 8 rfl (by kernel_rfl) (fun _ _ _=>id) (Or.inl ⟨by rfl,by rintro W ⟨c1,d1⟩;go_simp<;>with_reducible rfl⟩) ‹_› ?_;try simp only[nP]
          refine tR 9 rfl (by kernel_rfl) (fun _ _ _=>id) (Or.inl ⟨by rfl,by rintro W ⟨c1,d1⟩;go_simp<;>with_reducible rfl⟩) ‹_› ?_;try simp only[nP]
          refine tR 10 rfl (by kernel_rfl) (fun _ _ _=>id) (Or.inl ⟨by rfl,by rintro W ⟨c1,d1⟩;go_simp<;>with_reducible rfl⟩) ‹_› ?_;try simp only[nP]
          refine tR 11 rfl (by kernel_rfl) (fun _ _ _=>id) (Or.inl ⟨by rfl,by rintro W ⟨c1,d1⟩;go_simp<;>with_reducible rfl⟩) ‹_› ?_;try simp only[nP]
          refine tR 12 rfl (by kernel_rfl) (fun _ _ _=>id) (Or.inl ⟨by rfl,by rintro W ⟨c1,d1⟩;go_simp<;>with_reducible rfl⟩) ‹_› ?_;try simp only[nP]
          refine tR 13 rfl (by kernel_rfl) (fun _ _ _=>id) (Or.inl ⟨by rfl,by rintro W ⟨c1,d1⟩;go_simp<;>with_reducible rfl⟩) ‹_› ?_;try simp only[nP]
          refine tR 14 rfl (by kernel_rfl) (fun _ _ _=>id) (Or.inl ⟨by rfl,by rintro W ⟨c1,d1⟩;go_simp<;>with_reducible rfl⟩) ‹_› ?_;try simp only[nP]
          refine tR 15 rfl (by kernel_rfl) (fun _ _ _=>id) (Or.inl ⟨by rfl,by rintro W ⟨c1,d1⟩;go_simp<;>with_reducible rfl⟩) ‹_› ?_;try simp only[nP]
          refine tR 16 rfl (by kernel_rfl) (fun _ _ _=>id) (Or.inl ⟨by rfl,by rintro W ⟨c1,d1⟩;go_simp<;>with_reducible rfl⟩) ‹_› ?_;try simp only[nP]
          refine tR 17 rfl (by kernel_rfl) (fun _ _ _=>id) (Or.inl ⟨by rfl,by rintro W ⟨c1,d1⟩;go_simp<;>with_reducible rfl⟩) ‹_› ?_;try simp only[nP]
          refine wpAnyH_done (by kernel_rfl) ?_ _;have Vm:=lH (show Kept wr (wr.drew.drew) from((Kept.drew wr).trans (Kept.drew _)));obtain⟨c1,d1⟩:=HS.out _ Vm.out;have hbw:(wr.drew.drew).heap.size=wr.heap.size:=rfl;obtain⟨W1,hW1⟩:=eX (wr.drew.drew)
          rw[hW1] at Vm hbw c1 d1;try rw[hW1]
          try simp only[hW1]
          clear hW1;have hbase:w.heap.size≤W1.heap.size:=by rw[hbw];exact Vg.out.size
          have Vu:=lH hbase;have OK:=lH (HO.out.kept Vm.out);have hacc16:acc.length≤16:=by omega
          clear hbw;go_wp2_with (at_builtin;refine wpList_append_lies _ rfl _ _ _ rfl w.heap.size 9 i0 _ 1 16 Tryz.underlying34 hi hz0 hz1 hz2 rfl (by decide) u5 acc.length (je zl acc) rfl (OK.out.1.alloc _) ⟨W1.heap.size,0,none⟩ 1 1 (zl.cs (nm l' k)) rfl rfl (World.news_of_block (cs:=#[.string (nm l' k)]) (t:=9) (fr:=(0,0)) (W1.alloc_heap_new _)) (jae (nm l' k)) (by decide) (by unfold maxLen;omega) (by omega) (by rw[World.size_alloc];exact Nat.le_succ_of_le Vu.out) (W1.heap.size+1) (World.size_alloc _ _) ?_;intro g cap1 w7 hown1 hgrow hg hlt7;refine Hid.out ?_)
          refine lH ?_;have VQ:=lH (((Vg.out.trans (Below.mono Vm.out Vg.out.size)).alloc (by exact Vu.out) _).grown hgrow (by rw[World.size_alloc];exact Nat.le_succ_of_le Vu.out) (fun j hj=>(HO.out.1.lt j hj).1));go_wp2;go_roundw
          case rel=>exact⟨i,k+1,f2,acc++[nm l' k],by omega,by omega,by go_num,by go_num,HN.out,by omega,Own.snoc hown1 rfl HO.out.2 Up.out,VQ.out,by rw[List.length_append];simp only[List.length_cons,List.length_nil];omega⟩
          case measure=>simp[intOf];omega
        · have e2:ltS (nm l' k) (nm l i)=false:=by simpa using e2
          have E2:=lH e2;have e2':Op.bytesLess (nm l' k).toList (nm l i).toList=false:=e2;clear e2;have HN:=lH (show acc++[nm l i]++j8 f2 (l.drop (i+1)) (l'.drop (k+1))=NS by rw[←HQ.out,jki HI.out HK.out E1.out E2.out];simp);go_wp2;clear c1 d1;refine wp_region_held_drew (S:=fun W=>W.cell? ⟨b,off+i*2,none⟩=some (.string (nm l i))∧W.cell? ⟨b',off'+k*2,none⟩=some (.string (nm l' k))) (by kernel_rfl) (HS.out _ (Kept.drew _)) (fun hHeld=>?_);refine tR 0 rfl (by kernel_rfl) (fun _ _ _=>id) (Or.inl ⟨by rfl,by rintro W ⟨c1,d1⟩;go_simp<;>with_reducible rfl⟩) ‹_› ?_;try simp only[nP]
          refine tR 1 rfl (by kernel_rfl) (fun _ _ _=>id) (Or.inl ⟨by rfl,by rintro W ⟨c1,d1⟩;go_simp<;>with_reducible rfl⟩) ‹_› ?_;try simp only[nP]
          refine tR 2 rfl (by kernel_rfl) (fun _ _ _=>id) (Or.inl ⟨by rfl,by rintro W ⟨c1,d1⟩;go_simp<;>with_reducible rfl⟩) ‹_› ?_;try simp only[nP]
          refine tR 3 rfl (by kernel_rfl) (fun _ _ _=>id) (Or.inl ⟨by rfl,by rintro W ⟨c1,d1⟩;go_simp<;>with_reducible rfl⟩) ‹_› ?_;try simp only[nP]
          refine tR 4 rfl (by kernel_rfl) (fun _ _ _=>id) (Or.inl ⟨by rfl,by rintro W ⟨c1,d1⟩;go_simp<;>with_reducible rfl⟩) ‹_› ?_;try simp only[nP]
          refine tR 5 rfl (by kernel_rfl) (fun _ _ _=>id) (Or.inl ⟨by rfl,by rintro W ⟨c1,d1⟩;go_simp<;>with_reducible rfl⟩) ‹_› ?_;try simp only[nP]
          refine tR 6 rfl (by kernel_rfl) (fun _ _ _=>id) (Or.inl ⟨by rfl,by rintro W ⟨c1,d1⟩;go_simp<;>with_reducible rfl⟩) ‹_› ?_;try simp only[nP]
          refine tR 7 rfl (by kernel_rfl) (fun _ _ _=>id) (Or.inl ⟨by rfl,by rintro W ⟨c1,d1⟩;go_simp<;>with_reducible rfl⟩) ‹_› ?_;try simp only[nP]
          refine tR 8 rfl (by kernel_rfl) (fun _ _ _=>id) (Or.inl ⟨by rfl,by rintro W ⟨c1,d1⟩;go_simp<;>with_reducible rfl⟩) ‹_› ?_;try simp only[nP]
          refine tR 9 rfl (by kernel_rfl) (fun _ _ _=>id) (Or.inl ⟨by rfl,by rintro W ⟨c1,d1⟩;go_simp<;>with_reducible rfl⟩) ‹_› ?_;try simp only[nP]
          refine tR 10 rfl (by kernel_rfl) (fun _ _ _=>id) (Or.inl ⟨by rfl,by rintro W ⟨c1,d1⟩;go_simp<;>with_reducible rfl⟩) ‹_› ?_;try simp only[nP]
          refine tR 11 rfl (by kernel_rfl) (fun _ _ _=>id) (Or.inl ⟨by rfl,by rintro W ⟨c1,d1⟩;go_simp<;>with_reducible rfl⟩) ‹_› ?_;try simp only[nP]
          refine tR 12 rfl (by kernel_rfl) (fun _ _ _=>id) (Or.inl ⟨by rfl,by rintro W ⟨c1,d1⟩;go_simp<;>with_reducible rfl⟩) ‹_› ?_;try simp only[nP]
          refine tR 13 rfl (by kernel_rfl) (fun _ _ _=>id) (Or.inl ⟨by rfl,by rintro W ⟨c1,d1⟩;go_simp<;>with_reducible rfl⟩) ‹_› ?_;try simp only[nP]
          refine tR 14 rfl (by kernel_rfl) (fun _ _ _=>id) (Or.inl ⟨by rfl,by rintro W ⟨c1,d1⟩;go_simp<;>with_reducible rfl⟩) ‹_› ?_;try simp only[nP]
          refine tR 15 rfl (by kernel_rfl) (fun _ _ _=>id) (Or.inl ⟨by rfl,by rintro W ⟨c1,d1⟩;go_simp<;>with_reducible rfl⟩) ‹_› ?_;try simp only[nP]
          refine tR 16 rfl (by kernel_rfl) (fun _ _ _=>id) (Or.inl ⟨by rfl,by rintro W ⟨c1,d1⟩;go_simp<;>with_reducible rfl⟩) ‹_› ?_;try simp only[nP]
          refine tR 17 rfl (by kernel_rfl) (fun _ _ _=>id) (Or.inl ⟨by rfl,by rintro W ⟨c1,d1⟩;go_simp<;>with_reducible rfl⟩) ‹_› ?_;try simp only[nP]
          refine tR 18 rfl (by kernel_rfl) (fun _ _ _=>id) (Or.inl ⟨by rfl,by rintro W ⟨c1,d1⟩;go_simp<;>with_reducible rfl⟩) ‹_› ?_;try simp only[nP]
          refine tR 19 rfl (by kernel_rfl) (fun _ _ _=>id) (Or.inl ⟨by rfl,by rintro W ⟨c1,d1⟩;go_simp<;>with_reducible rfl⟩) ‹_› ?_;try simp only[nP]
          refine tR 20 rfl (by kernel_rfl) (fun _ _ _=>id) (Or.inl ⟨by rfl,by rintro W ⟨c1,d1⟩;go_simp<;>with_reducible rfl⟩) ‹_› ?_;try simp only[nP]
          refine tR 21 rfl (by kernel_rfl) (fun _ _ _=>id) (Or.inl ⟨by rfl,by rintro W ⟨c1,d1⟩;go_simp<;>with_reducible rfl⟩) ‹_› ?_;try simp only[nP]
          refine tR 22 rfl (by kernel_rfl) (fun _ _ _=>id) (Or.inl ⟨by rfl,by rintro W ⟨c1,d1⟩;go_simp<;>with_reducible rfl⟩) ‹_› ?_;try simp only[nP]
          refine tR 23 rfl (by kernel_rfl) (fun _ _ _=>id) (Or.inl ⟨by rfl,by rintro W ⟨c1,d1⟩;go_simp<;>with_reducible rfl⟩) ‹_› ?_;try simp only[nP]
          refine wpAnyH_done (by kernel_rfl) ?_ _;go_wp2;refine wp_region_held_drew (S:=fun W=>W.cell? ⟨b,off+i*2,none⟩=some (.string (nm l i))∧W.cell? ⟨b',off'+k*2,none⟩=some (.string (nm l' k))) (by kernel_rfl) (HS.out _ ((Kept.drew _).trans (Kept.drew _))) (fun hHeld=>?_);refine tR 0 rfl (by kernel_rfl) (fun _ _ _=>id) (Or.inl ⟨by rfl,by rintro W ⟨c1,d1⟩;go_simp<;>with_reducible rfl⟩) ‹_› ?_;try simp only[nP]
          refine tR 1 rfl (by kernel_rfl) (fun _ _ _=>id) (Or.inl ⟨by rfl,by rintro W ⟨c1,d1⟩;go_simp<;>with_reducible rfl⟩) ‹_› ?_;try simp only[nP]
          refine tR 2 rfl (by kernel_rfl) (fun _ _ _=>id) (Or.inl ⟨by rfl,by rintro W ⟨c1,d1⟩;go_simp<;>with_reducible rfl⟩) ‹_› ?_;try simp only[nP]
          refine tR 3 rfl (by kernel_rfl) (fun _ _ _=>id) (Or.inl ⟨by rfl,by rintro W ⟨c1,d1⟩;go_simp<;>with_reducible rfl⟩) ‹_› ?_;try simp only[nP]
          refine tR 4 rfl (by kernel_rfl) (fun _ _ _=>id) (Or.inl ⟨by rfl,by rintro W ⟨c1,d1⟩;go_simp<;>with_reducible rfl⟩) ‹_› ?_;try simp only[nP]
          refine tR 5 rfl (by kernel_rfl) (fun _ _ _=>id) (Or.inl ⟨by rfl,by rintro W ⟨c1,d1⟩;go_simp<;>with_reducible rfl⟩) ‹_› ?_;try simp only[nP]
          refine tR 6 rfl (by kernel_rfl) (fun _ _ _=>id) (Or.inl ⟨by rfl,by rintro W ⟨c1,d1⟩;go_simp<;>with_reducible rfl⟩) ‹_› ?_;try simp only[nP]
          refine tR 7 rfl (by kernel_rfl) (fun _ _ _=>id) (Or.inl ⟨by rfl,by rintro W ⟨c1,d1⟩;go_simp<;>with_reducible rfl⟩) ‹_› ?_;try simp only[nP]
          refine tR 8 rfl (by kernel_rfl) (fun _ _ _=>id) (Or.inl ⟨by rfl,by rintro W ⟨c1,d1⟩;go_simp<;>with_reducible rfl⟩) ‹_› ?_;try simp only[nP]
          refine tR 9 rfl (by kernel_rfl) (fun _ _ _=>id) (Or.inl ⟨by rfl,by rintro W ⟨c1,d1⟩;go_simp<;>with_reducible rfl⟩) ‹_› ?_;try simp only[nP]
          refine tR 10 rfl (by kernel_rfl) (fun _ _ _=>id) (Or.inl ⟨by rfl,by rintro W ⟨c1,d1⟩;go_simp<;>with_reducible rfl⟩) ‹_› ?_;try simp only[nP]
          refine tR 11 rfl (by kernel_rfl) (fun _ _ _=>id) (Or.inl ⟨by rfl,by rintro W ⟨c1,d1⟩;go_simp<;>with_reducible rfl⟩) ‹_› ?_;try simp only[nP]
          refine tR 12 rfl (by kernel_rfl) (fun _ _ _=>id) (Or.inl ⟨by rfl,by rintro W ⟨c1,d1⟩;go_simp<;>with_reducible rfl⟩) ‹_› ?_;try simp only[nP]
          refine tR 13 rfl (by kernel_rfl) (fun _ _ _=>id) (Or.inl ⟨by rfl,by rintro W ⟨c1,d1⟩;go_simp<;>with_reducible rfl⟩) ‹_› ?_;try simp only[nP]
          refine tR 14 rfl (by kernel_rfl) (fun _ _ _=>id) (Or.inl ⟨by rfl,by rintro W ⟨c1,d1⟩;go_simp<;>with_reducible rfl⟩) ‹_› ?_;try simp only[nP]
          refine tR 15 rfl (by kernel_rfl) (fun _ _ _=>id) (Or.inl ⟨by rfl,by rintro W ⟨c1,d1⟩;go_simp<;>with_reducible rfl⟩) ‹_› ?_;try simp only[nP]
          refine tR 16 rfl (by kernel_rfl) (fun _ _ _=>id) (Or.inl ⟨by rfl,by rintro W ⟨c1,d1⟩;go_simp<;>with_reducible rfl⟩) ‹_› ?_;try simp only[nP]
          refine tR 17 rfl (by kernel_rfl) (fun _ _ _=>id) (Or.inl ⟨by rfl,by rintro W ⟨c1,d1⟩;go_simp<;>with_reducible rfl⟩) ‹_› ?_;try simp only[nP]
          refine wpAnyH_done (by kernel_rfl) ?_ _;have Vm:=lH (show Kept wr (wr.drew.drew) from((Kept.drew wr).trans (Kept.drew _)));obtain⟨c1,d1⟩:=HS.out _ Vm.out;have hbw:(wr.drew.drew).heap.size=wr.heap.size:=rfl;obtain⟨W1,hW1⟩:=eX (wr.drew.drew)
          rw[hW1] at Vm hbw c1 d1;try rw[hW1]
          try simp only[hW1]
          clear hW1;have hbase:w.heap.size≤W1.heap.size:=by rw[hbw];exact Vg.out.size
          have Vu:=lH hbase;have OK:=lH (HO.out.kept Vm.out);have hacc16:acc.length≤16:=by omega
          clear hbw;go_wp2_with (at_builtin;refine wpList_append_lies _ rfl _ _ _ rfl w.heap.size 9 i0 _ 1 16 Tryz.underlying34 hi hz0 hz1 hz2 rfl (by decide) u5 acc.length (je zl acc) rfl (OK.out.1.alloc _) ⟨W1.heap.size,0,none⟩ 1 1 (zl.cs (nm l i)) rfl rfl (World.news_of_block (cs:=#[.string (nm l i)]) (t:=9) (fr:=(0,0)) (W1.alloc_heap_new _)) (jae (nm l i)) (by decide) (by unfold maxLen;omega) (by omega) (by rw[World.size_alloc];exact Nat.le_succ_of_le Vu.out) (W1.heap.size+1) (World.size_alloc _ _) ?_;intro g cap1 w7 hown1 hgrow hg hlt7;refine Hid.out ?_)
          refine lH ?_;have VQ:=lH (((Vg.out.trans (Below.mono Vm.out Vg.out.size)).alloc (by exact Vu.out) _).grown hgrow (by rw[World.size_alloc];exact Nat.le_succ_of_le Vu.out) (fun j hj=>(HO.out.1.lt j hj).1));go_wp2;go_roundw
          case rel=>exact⟨i+1,k+1,f2,acc++[nm l i],by omega,by omega,by go_num,by go_num,HN.out,by omega,Own.snoc hown1 rfl HO.out.2 Ri.out,VQ.out,by rw[List.length_append];simp only[List.length_cons,List.length_nil];omega⟩
          case measure=>simp[intOf];omega
    · have hk3:(len':Int)≤(k:Int):=by omega
      have hk4:decide ((k:Int)<(len':Int))=false:=decide_eq_false (by omega);have hk5:¬(k:Int)<(len':Int):=by omega
      have hd:decide (len'≤k)=true:=decide_eq_true (by omega);have hi3:(i:Int)<(len:Int):=by omega
      have HS:=lH (show ∀W,Kept wr W→W.cell? ⟨b,off+i*2,none⟩=some (.string (nm l i)) from fun W kk=>cell_later kk c1);clear hB;have HN:=lH (show acc++[nm l i]++j8 f2 (l.drop (i+1)) (l'.drop (k))=NS by rw[←HQ.out,jcA HI.out (.inl (by rw[HL'.out];omega))];simp);go_wp2;clear c1;refine wp_region_held_drew (S:=fun W=>W.cell? ⟨b,off+i*2,none⟩=some (.string (nm l i))) (by kernel_rfl) (HS.out _ (Kept.drew _)) (fun hHeld=>?_);refine tR 0 rfl (by kernel_rfl) (fun _ _ _=>id) (Or.inl ⟨by rfl,(by intro W hSw;go_simp<;>with_reducible rfl)⟩) ‹_› ?_;try simp only[nP]
      refine tR 1 rfl (by kernel_rfl) (fun _ _ _=>id) (Or.inl ⟨by rfl,(by intro W hSw;go_simp<;>with_reducible rfl)⟩) ‹_› ?_;try simp only[nP]
      refine tR 2 rfl (by kernel_rfl) (fun _ _ _=>id) (Or.inl ⟨by rfl,(by intro W hSw;go_simp<;>with_reducible rfl)⟩) ‹_› ?_;try simp only[nP]
      refine tR 3 rfl (by kernel_rfl) (fun _ _ _=>id) (Or.inl ⟨by rfl,(by intro W hSw;go_simp<;>with_reducible rfl)⟩) ‹_› ?_;try simp only[nP]
      refine tR 4 rfl (by kernel_rfl) (fun _ _ _=>id) (Or.inl ⟨by rfl,(by intro W hSw;go_simp<;>with_reducible rfl)⟩) ‹_› ?_;try simp only[nP]
      refine tR 5 (v:=undef) rfl (by kernel_rfl) (fun _ _ _=>id) (Or.inr ⟨by rfl,rfl⟩) ‹_› ?_;try simp only[nP]
      refine tR 6 (v:=undef) rfl (by kernel_rfl) (fun _ _ _=>id) (Or.inr ⟨by rfl,rfl⟩) ‹_› ?_;try simp only[nP]
      refine tR 7 (v:=undef) rfl (by kernel_rfl) (fun _ _ _=>id) (Or.inr ⟨by rfl,rfl⟩) ‹_› ?_;try simp only[nP]
      refine tR 8 (v:=undef) rfl (by kernel_rfl) (fun _ _ _=>id) (Or.inr ⟨by rfl,rfl⟩) ‹_› ?_;try simp only[nP]
      refine tR 9 (v:=undef) rfl (by kernel_rfl) (fun _ _ _=>id) (Or.inr ⟨by rfl,rfl⟩) ‹_› ?_;try simp only[nP]
      refine tR 10 (v:=undef) rfl (by kernel_rfl) (fun _ _ _=>id) (Or.inr ⟨by rfl,rfl⟩) ‹_› ?_;try simp only[nP]
      refine tR 11 (v:=undef) rfl (by kernel_rfl) (fun _ _ _=>id) (Or.inr ⟨by rfl,rfl⟩) ‹_› ?_;try simp only[nP]
      refine tR 12 (v:=undef) rfl (by kernel_rfl) (fun _ _ _=>id) (Or.inr ⟨by rfl,rfl⟩) ‹_› ?_;try simp only[nP]
      refine tR 13 (v:=undef) rfl (by kernel_rfl) (fun _ _ _=>id) (Or.inr ⟨by rfl,rfl⟩) ‹_› ?_;try simp only[nP]
      refine tR 14 (v:=undef) rfl (by kernel_rfl) (fun _ _ _=>id) (Or.inr ⟨by rfl,rfl⟩) ‹_› ?_;try simp only[nP]
      refine tR 15 (v:=undef) rfl (by kernel_rfl) (fun _ _ _=>id) (Or.inr ⟨by rfl,rfl⟩) ‹_› ?_;try simp only[nP]
      refine tR 16 (v:=undef) rfl (by kernel_rfl) (fun _ _ _=>id) (Or.inr ⟨by rfl,rfl⟩) ‹_› ?_;try simp only[nP]
      refine tR 17 (v:=undef) rfl (by kernel_rfl) (fun _ _ _=>id) (Or.inr ⟨by rfl,rfl⟩) ‹_› ?_;try simp only[nP]
      refine tR 18 (v:=undef) rfl (by kernel_rfl) (fun _ _ _=>id) (Or.inr ⟨by rfl,rfl⟩) ‹_› ?_;try simp only[nP]
      refine tR 19 (v:=undef) rfl (by kernel_rfl) (fun _ _ _=>id) (Or.inr ⟨by rfl,rfl⟩) ‹_› ?_;try simp only[nP]
      refine tR 20 (v:=undef) rfl (by kernel_rfl) (fun _ _ _=>id) (Or.inr ⟨by rfl,rfl⟩) ‹_› ?_;try simp only[nP]
      refine tR 21 (v:=undef) rfl (by kernel_rfl) (fun _ _ _=>id) (Or.inr ⟨by rfl,rfl⟩) ‹_› ?_;try simp only[nP]
      refine tR 22 rfl (by kernel_rfl) (fun _ _ _=>id) (Or.inl ⟨by rfl,(by intro W hSw;go_simp<;>with_reducible rfl)⟩) ‹_› ?_;try simp only[nP]
      refine tR 23 rfl (by kernel_rfl) (fun _ _ _=>id) (Or.inl ⟨by rfl,(by intro W hSw;go_simp<;>with_reducible rfl)⟩) ‹_› ?_;try simp only[nP]
      refine wpAnyH_done (by kernel_rfl) ?_ _;have Vm:=lH (show Kept wr (wr.drew) from(Kept.drew wr));obtain c1:=HS.out _ Vm.out;have hbw:(wr.drew).heap.size=wr.heap.size:=rfl;obtain⟨W1,hW1⟩:=eX (wr.drew)
      rw[hW1] at Vm hbw c1;try rw[hW1]
      try simp only[hW1]
      clear hW1;have hbase:w.heap.size≤W1.heap.size:=by rw[hbw];exact Vg.out.size
      have Vu:=lH hbase;have OK:=lH (HO.out.kept Vm.out);have hacc16:acc.length≤16:=by omega
      clear hbw;go_wp2_with (at_builtin;refine wpList_append_lies _ rfl _ _ _ rfl w.heap.size 9 i0 _ 1 16 Tryz.underlying34 hi hz0 hz1 hz2 rfl (by decide) u5 acc.length (je zl acc) rfl (OK.out.1.alloc _) ⟨W1.heap.size,0,none⟩ 1 1 (zl.cs (nm l i)) rfl rfl (World.news_of_block (cs:=#[.string (nm l i)]) (t:=9) (fr:=(0,0)) (W1.alloc_heap_new _)) (jae (nm l i)) (by decide) (by unfold maxLen;omega) (by omega) (by rw[World.size_alloc];exact Nat.le_succ_of_le Vu.out) (W1.heap.size+1) (World.size_alloc _ _) ?_;intro g cap1 w7 hown1 hgrow hg hlt7;refine Hid.out ?_)
      refine lH ?_;have VQ:=lH (((Vg.out.trans (Below.mono Vm.out Vg.out.size)).alloc (by exact Vu.out) _).grown hgrow (by rw[World.size_alloc];exact Nat.le_succ_of_le Vu.out) (fun j hj=>(HO.out.1.lt j hj).1));go_wp2;go_roundw
      case rel=>exact⟨i+1,k,f2,acc++[nm l i],by omega,by omega,by go_num,by go_num,HN.out,by omega,Own.snoc hown1 rfl HO.out.2 Ri.out,VQ.out,by rw[List.length_append];simp only[List.length_cons,List.length_nil];omega⟩
      case measure=>simp[intOf];omega
  · by_cases hk2:k<len'
    · obtain⟨b',off',rfl⟩:=HB.out.form.resolve_left (by omega);obtain⟨hb',d1,-⟩:=(HB.out.kept hB).cells hk2;have HK:=lH (show k<l'.length by rw[HL'.out];exact hk2);have Up:=lH (HF'.out k HK.out).1;obtain⟨f2,rfl⟩:∃f2,fuel=f2+1:=⟨fuel-1,by omega⟩
      have hd:decide (len'≤k)=false:=decide_eq_false (by omega);have hd2:decide (len≤i)=true:=decide_eq_true (by omega);have hi3:decide ((i:Int)<(len:Int))=false:=decide_eq_false (by omega);have hi5:¬(i:Int)<(len:Int):=by omega
      have hi6:(len:Int)≤(i:Int):=by omega
      have hk3:(k:Int)<(len':Int):=by omega
      have HS:=lH (show ∀W,Kept wr W→W.cell? ⟨b',off'+k*2,none⟩=some (.string (nm l' k)) from fun W kk=>cell_later kk d1);clear hB;have HN:=lH (show acc++[nm l' k]++j8 f2 (l.drop (i)) (l'.drop (k+1))=NS by rw[←HQ.out,jb1 HK.out (.inl (by rw[HL.out];omega))];simp);go_wp2;clear d1;refine wp_region_held_drew (S:=fun W=>W.cell? ⟨b',off'+k*2,none⟩=some (.string (nm l' k))) (by kernel_rfl) (HS.out _ (Kept.drew _)) (fun hHeld=>?_);refine tR 0 rfl (by kernel_rfl) (fun _ _ _=>id) (Or.inl ⟨by rfl,(by intro W hSw;go_simp<;>with_reducible rfl)⟩) ‹_› ?_;try simp only[nP]
      refine tR 1 rfl (by kernel_rfl) (fun _ _ _=>id) (Or.inl ⟨by rfl,(by intro W hSw;go_simp<;>with_reducible rfl)⟩) ‹_› ?_;try simp only[nP]
      refine tR 2 rfl (by kernel_rfl) (fun _ _ _=>id) (Or.inl ⟨by rfl,(by intro W hSw;go_simp<;>with_reducible rfl)⟩) ‹_› ?_;try simp only[nP]
      refine tR 3 rfl (by kernel_rfl) (fun _ _ _=>id) (Or.inl ⟨by rfl,(by intro W hSw;go_simp<;>with_reducible rfl)⟩) ‹_› ?_;try simp only[nP]
      refine tR 4 rfl (by kernel_rfl) (fun _ _ _=>id) (Or.inl ⟨by rfl,(by intro W hSw;go_simp<;>with_reducible rfl)⟩) ‹_› ?_;try simp only[nP]
      refine tR 5 rfl (by kernel_rfl) (fun _ _ _=>id) (Or.inl ⟨by rfl,(by intro W hSw;go_simp<;>with_reducible rfl)⟩) ‹_› ?_;try simp only[nP]
      refine tR 6 rfl (by kernel_rfl) (fun _ _ _=>id) (Or.inl ⟨by rfl,(by intro W hSw;go_simp<;>with_reducible rfl)⟩) ‹_› ?_;try simp only[nP]
      refine tR 7 rfl (by kernel_rfl) (fun _ _ _=>id) (Or.inl ⟨by rfl,(by intro W hSw;go_simp<;>with_reducible rfl)⟩) ‹_› ?_;try simp only[nP]
      refine tR 8 rfl (by kernel_rfl) (fun _ _ _=>id) (Or.inl ⟨by rfl,(by intro W hSw;go_simp<;>with_reducible rfl)⟩) ‹_› ?_;try simp only[nP]
      refine tR 9 rfl (by kernel_rfl) (fun _ _ _=>id) (Or.inl ⟨by rfl,(by intro W hSw;go_simp<;>with_reducible rfl)⟩) ‹_› ?_;try simp only[nP]
      refine tR 10 (v:=undef) rfl (by kernel_rfl) (fun _ _ _=>id) (Or.inr ⟨by rfl,rfl⟩) ‹_› ?_;try simp only[nP]
      refine tR 11 (v:=undef) rfl (by kernel_rfl) (fun _ _ _=>id) (Or.inr ⟨by rfl,rfl⟩) ‹_› ?_;try simp only[nP]
      refine tR 12 (v:=undef) rfl (by kernel_rfl) (fun _ _ _=>id) (Or.inr ⟨by rfl,rfl⟩) ‹_› ?_;try simp only[nP]
      refine tR 13 (v:=undef) rfl (by kernel_rfl) (fun _ _ _=>id) (Or.inr ⟨by rfl,rfl⟩) ‹_› ?_;try simp only[nP]
      refine tR 14 (v:=undef) rfl (by kernel_rfl) (fun _ _ _=>id) (Or.inr ⟨by rfl,rfl⟩) ‹_› ?_;try simp only[nP]
      refine tR 15 (v:=undef) rfl (by kernel_rfl) (fun _ _ _=>id) (Or.inr ⟨by rfl,rfl⟩) ‹_› ?_;try simp only[nP]
      refine tR 16 (v:=undef) rfl (by kernel_rfl) (fun _ _ _=>id) (Or.inr ⟨by rfl,rfl⟩) ‹_› ?_;try simp only[nP]
      refine tR 17 (v:=undef) rfl (by kernel_rfl) (fun _ _ _=>id) (Or.inr ⟨by rfl,rfl⟩) ‹_› ?_;try simp only[nP]
      refine tR 18 (v:=undef) rfl (by kernel_rfl) (fun _ _ _=>id) (Or.inr ⟨by rfl,rfl⟩) ‹_› ?_;try simp only[nP]
      refine tR 19 (v:=undef) rfl (by kernel_rfl) (fun _ _ _=>id) (Or.inr ⟨by rfl,rfl⟩) ‹_› ?_;try simp only[nP]
      refine tR 20 (v:=undef) rfl (by kernel_rfl) (fun _ _ _=>id) (Or.inr ⟨by rfl,rfl⟩) ‹_› ?_;try simp only[nP]
      refine tR 21 rfl (by kernel_rfl) (fun _ _ _=>id) (Or.inl ⟨by rfl,(by intro W hSw;go_simp<;>with_reducible rfl)⟩) ‹_› ?_;try simp only[nP]
      refine tR 22 rfl (by kernel_rfl) (fun _ _ _=>id) (Or.inl ⟨by rfl,(by intro W hSw;go_simp<;>with_reducible rfl)⟩) ‹_› ?_;try simp only[nP]
      refine tR 23 rfl (by kernel_rfl) (fun _ _ _=>id) (Or.inl ⟨by rfl,(by intro W hSw;go_simp<;>with_reducible rfl)⟩) ‹_› ?_;try simp only[nP]
      refine wpAnyH_done (by kernel_rfl) ?_ _;go_wp2;refine wp_region_held_drew (S:=fun W=>W.cell? ⟨b',off'+k*2,none⟩=some (.string (nm l' k))) (by kernel_rfl) (HS.out _ ((Kept.drew _).trans (Kept.drew _))) (fun hHeld=>?_);refine tR 0 rfl (by kernel_rfl) (fun _ _ _=>id) (Or.inl ⟨by rfl,(by intro W hSw;go_simp<;>with_reducible rfl)⟩) ‹_› ?_;try simp only[nP]
      refine tR 1 rfl (by kernel_rfl) (fun _ _ _=>id) (Or.inl ⟨by rfl,(by intro W hSw;go_simp<;>with_reducible rfl)⟩) ‹_› ?_;try simp only[nP]
      refine tR 2 rfl (by kernel_rfl) (fun _ _ _=>id) (Or.inl ⟨by rfl,(by intro W hSw;go_simp<;>with_reducible rfl)⟩) ‹_› ?_;try simp only[nP]
      refine tR 3 rfl (by kernel_rfl) (fun _ _ _=>id) (Or.inl ⟨by rfl,(by intro W hSw;go_simp<;>with_reducible rfl)⟩) ‹_› ?_;try simp only[nP]
      refine tR 4 rfl (by kernel_rfl) (fun _ _ _=>id) (Or.inl ⟨by rfl,(by intro W hSw;go_simp<;>with_reducible rfl)⟩) ‹_› ?_;try simp only[nP]
      refine tR 5 (v:=undef) rfl (by kernel_rfl) (fun _ _ _=>id) (Or.inr ⟨by rfl,rfl⟩) ‹_› ?_;try simp only[nP]
      refine tR 6 (v:=undef) rfl (by kernel_rfl) (fun _ _ _=>id) (Or.inr ⟨by rfl,rfl⟩) ‹_› ?_;try simp only[nP]
      refine tR 7 (v:=undef) rfl (by kernel_rfl) (fun _ _ _=>id) (Or.inr ⟨by rfl,rfl⟩) ‹_› ?_;try simp only[nP]
      refine tR 8 (v:=undef) rfl (by kernel_rfl) (fun _ _ _=>id) (Or.inr ⟨by rfl,rfl⟩) ‹_› ?_;try simp only[nP]
      refine tR 9 (v:=undef) rfl (by kernel_rfl) (fun _ _ _=>id) (Or.inr ⟨by rfl,rfl⟩) ‹_› ?_;try simp only[nP]
      refine tR 10 (v:=undef) rfl (by kernel_rfl) (fun _ _ _=>id) (Or.inr ⟨by rfl,rfl⟩) ‹_› ?_;try simp only[nP]
      refine tR 11 (v:=undef) rfl (by kernel_rfl) (fun _ _ _=>id) (Or.inr ⟨by rfl,rfl⟩) ‹_› ?_;try simp only[nP]
      refine tR 12 (v:=undef) rfl (by kernel_rfl) (fun _ _ _=>id) (Or.inr ⟨by rfl,rfl⟩) ‹_› ?_;try simp only[nP]
      refine tR 13 (v:=undef) rfl (by kernel_rfl) (fun _ _ _=>id) (Or.inr ⟨by rfl,rfl⟩) ‹_› ?_;try simp only[nP]
      refine tR 14 (v:=undef) rfl (by kernel_rfl) (fun _ _ _=>id) (Or.inr ⟨by rfl,rfl⟩) ‹_› ?_;try simp only[nP]
      refine tR 15 (v:=undef) rfl (by kernel_rfl) (fun _ _ _=>id) (Or.inr ⟨by rfl,rfl⟩) ‹_› ?_;try simp only[nP]
      refine tR 16 rfl (by kernel_rfl) (fun _ _ _=>id) (Or.inl ⟨by rfl,(by intro W hSw;go_simp<;>with_reducible rfl)⟩) ‹_› ?_;try simp only[nP]
      refine tR 17 rfl (by kernel_rfl) (fun _ _ _=>id) (Or.inl ⟨by rfl,(by intro W hSw;go_simp<;>with_reducible rfl)⟩) ‹_› ?_;try simp only[nP]
      refine wpAnyH_done (by kernel_rfl) ?_ _;have Vm:=lH (show Kept wr (wr.drew.drew) from((Kept.drew wr).trans (Kept.drew _)));obtain d1:=HS.out _ Vm.out;have hbw:(wr.drew.drew).heap.size=wr.heap.size:=rfl;obtain⟨W1,hW1⟩:=eX (wr.drew.drew)
      rw[hW1] at Vm hbw d1;try rw[hW1]
      try simp only[hW1]
      clear hW1;have hbase:w.heap.size≤W1.heap.size:=by rw[hbw];exact Vg.out.size
      have Vu:=lH hbase;have OK:=lH (HO.out.kept Vm.out);have hacc16:acc.length≤16:=by omega
      clear hbw;go_wp2_with (at_builtin;refine wpList_append_lies _ rfl _ _ _ rfl w.heap.size 9 i0 _ 1 16 Tryz.underlying34 hi hz0 hz1 hz2 rfl (by decide) u5 acc.length (je zl acc) rfl (OK.out.1.alloc _) ⟨W1.heap.size,0,none⟩ 1 1 (zl.cs (nm l' k)) rfl rfl (World.news_of_block (cs:=#[.string (nm l' k)]) (t:=9) (fr:=(0,0)) (W1.alloc_heap_new _)) (jae (nm l' k)) (by decide) (by unfold maxLen;omega) (by omega) (by rw[World.size_alloc];exact Nat.le_succ_of_le Vu.out) (W1.heap.size+1) (World.size_alloc _ _) ?_;intro g cap1 w7 hown1 hgrow hg hlt7;refine Hid.out ?_)
      refine lH ?_;have VQ:=lH (((Vg.out.trans (Below.mono Vm.out Vg.out.size)).alloc (by exact Vu.out) _).grown hgrow (by rw[World.size_alloc];exact Nat.le_succ_of_le Vu.out) (fun j hj=>(HO.out.1.lt j hj).1));go_wp2;go_roundw
      case rel=>exact⟨i,k+1,f2,acc++[nm l' k],by omega,by omega,by go_num,by go_num,HN.out,by omega,Own.snoc hown1 rfl HO.out.2 Up.out,VQ.out,by rw[List.length_append];simp only[List.length_cons,List.length_nil];omega⟩
      case measure=>simp[intOf];omega
    · have hi3:decide ((i:Int)<(len:Int))=false:=decide_eq_false (by omega);have hk3:decide ((k:Int)<(len':Int))=false:=decide_eq_false (by omega);have HE:=lH (show NS=acc by
       rw[←HQ.out,jjB (by simp only[List.length_drop];rw[HL.out,HL'.out];omega),List.append_nil])
      clear hB;go_wp2_with fail
      go_ret;exact⟨_,rfl,by rw[HE.out];exact HO.out,Vg.out⟩
theorem jd2:∀(fuel:Nat) (la lb:V),(j8 fuel la lb).length≤fuel
 | 0,_,_=>Nat.le_refl _
 | fuel+1,la,lb=>by
  unfold j8;split
  · exact Nat.zero_le _
  · rw[List.length_cons];exact Nat.succ_le_succ (jd2 fuel _ _)
theorem names_mem:∀(fuel:Nat) (la lb:V) (n:ByteArray),n ∈ j8 fuel la lb→(∃y ∈ la,y.1=n)∨(∃y ∈ lb,y.1=n)
 | 0,_,_,n,h=>by simp[j8] at h
 | fuel+1,la,lb,n,h=>by
  unfold j8 at h;split at h
  · simp at h
  · rename_i h0;rcases List.mem_cons.1 h with rfl | h
    · exact jbr (by omega)
    · rcases names_mem fuel _ _ n h with ⟨y,hy,e⟩ | ⟨y,hy,e⟩
      · exact .inl ⟨y,X1 y hy,e⟩
      · exact .inr ⟨y,X1 y hy,e⟩
theorem jhA {l:V} (h:Gd l) {n:ByteArray} (hn:∃y ∈ l,y.1=n):0<jh l n:=by
 obtain⟨y,hy,rfl⟩:=hn;rw[jda h hy];exact(h.1 y hy).2.1
theorem jks {l l':V} (h:Gd l) (h':Gd l') {n:ByteArray} (hn:n ∈ j8 (l.length+l'.length) l l'):0<jh l n+jh l' n:=by
 have a:=JB n h;have b:=JB n h';rcases names_mem _ _ _ _ hn with hn | hn
 · have:=jhA h hn;omega
 · have:=jhA h' hn;omega
theorem jmu {f:Int→Int→Int×Int} {la lb:V} {n:ByteArray} {t:List ByteArray} {acc:V} {r1 r2:Int} (h:f (jh la n) (jh lb n)=(r1,r2)) (h2:r2≠0):Zc f la lb (n::t) acc=(r2,[]):=by
 rw[Zc,h,if_pos h2]
theorem jkH {f:Int→Int→Int×Int} {la lb:V} {n:ByteArray} {t:List ByteArray} {acc:V} {r1:Int} (h:f (jh la n) (jh lb n)=(r1,0)):Zc f la lb (n::t) acc=Zc f la lb t (Yv acc n r1):=by
 rw[Zc,h,if_neg (by simp)]
theorem jn0 (x y:Int) (w:World) (h:0≤x∧x≤9223372036854775807) (g:0≤y∧y≤9223372036854775807) :
 Calls Tryz.prog 185 #[.int .i64 x,.int .i64 y] w (Ans (jG x y).1 (jG x y).2 w):=by
 unfold jG;by_cases h2:x+y≤9223372036854775807
 · rw[if_pos h2];exact(jnr x y w h.1 g.1 h2).mono fun _ _=>Xi.ans
 · rw[if_neg h2];exact(jkz x y w h.1 g.1 g.2 (by omega)).mono fun _ _=>Xi.ans
def Yt (l l':V):Int:=if jv l≠0 then jv l else jv l'
theorem jku {l l':V} (h:Yt l l'=0):jv l=0∧jv l'=0:=by
 unfold Yt at h;split at h
 · rename_i g;exact absurd h g
 · rename_i g;exact⟨Decidable.of_not_not g,h⟩
theorem jgQ {f:Int→Int→Int×Int} {l l':V} (h:Yt l l'≠0):jj f l l'=(Yt l l',[]):=by
 unfold jj;unfold Yt at h ⊢;by_cases g:jv l≠0
 · simp only[if_pos g]
 · simp only[if_neg g] at h ⊢;rw[if_pos h]
theorem jer (a a':Option Addr) (len cap len' cap':Nat) (l l':V) (w:World) (hr:jw w a len l) (hr':jw w a' len' l') :
 Calls Tryz.prog 183 #[.slice a len cap,.slice a' len' cap'] w fun e w'=>e=.returned (.int .i64 (Yt l l'))∧Kept w w':=by
 have HA:=lH hr;have HB:=lH hr';obtain⟨c,hc⟩:=eX (jv l)
 have HC:=lH hc;clear hr hr';by_cases h0:c=0
 · subst h0;have HE:=lH (show Yt l l'=jv l' by unfold Yt;rw[hc,if_neg (by decide)]);go_enter Tryz.func183,Tryz.ntmps183;go_wp2_with fail
   refine(YP _ _ _ l _ HA.out).mono ?_;rw[HC.out];clear hc;rintro e1 w1 ⟨rfl,k1⟩;have K1:=lH k1;clear k1;go_wp2_with fail
   refine(YP _ _ _ l' _ (HB.out.kept K1.out)).mono ?_;rintro e2 w2 ⟨rfl,k2⟩;have K2:=lH (K1.out.trans k2);clear k2;go_wp2;go_ret;exact⟨jb HE.out.symm,K2.out⟩
 · have HE:=lH (show Yt l l'=c by unfold Yt;rw[hc,if_pos h0]);have h1:(c==0)=false:=by simpa using h0
   clear h0;go_enter Tryz.func183,Tryz.ntmps183;go_wp2_with fail
   refine(YP _ _ _ l _ HA.out).mono ?_;rw[HC.out];clear hc;rintro e1 w1 ⟨rfl,k1⟩;have K1:=lH k1;clear k1;go_wp2;go_ret;exact⟨jb HE.out.symm,K1.out⟩
theorem jkQ (a:Option Addr) (n cap:Nat) (w:World) (h:n≤8):Calls Tryz.prog 186 #[.slice a n cap] w fun e w'=>e=.returned (.tuple #[.slice a n cap,.int .i64 0])∧w=w':=by
 have h1:(n:Int)≤8:=by omega
 have h2:decide ((8:Int)<(n:Int))=false:=decide_eq_false (by omega);have h3:decide (8<n)=false:=decide_eq_false (by omega);go_enter Tryz.func186,Tryz.ntmps186;go_wp2;go_ret2
 exact⟨rfl,rfl⟩
theorem jhe (a:Option Addr) (n cap:Nat) (w:World) (h:8<n):Calls Tryz.prog 186 #[.slice a n cap] w fun e w'=>e=.returned (.tuple #[.slice none 0 0,.int .i64 4])∧w=w':=by
 have h1:(8:Int)<(n:Int):=by omega
 go_enter Tryz.func186,Tryz.ntmps186;go_wp2;go_ret2
 exact⟨rfl,rfl⟩
theorem jkg (a a':Option Addr) (len cap len' cap':Nat) (l l':V) (w:World) (hr:jw w a len l) (hr':jw w a' len' l') :
 Calls Tryz.prog 127 #[.slice a len cap,.slice a' len' cap'] w (Told (jj jG l l').1 (jj jG l l').2 w):=by
 obtain⟨HA,HB,HL⟩:=lH3 hr hr' hr.1;have HL':=lH hr'.1;by_cases hc:Yt l l'=0
 · obtain⟨ha,hb⟩:=jku hc;have HC:=lH hc;have HG:=lH (YW ha hr.2.2.1);have HG':=lH (YW hb hr'.2.2.1);have h8:len≤8:=by have:=Z5 ha;rw[HL.out] at this;exact this
   have h8':len'≤8:=by have:=Z5 hb;rw[HL'.out] at this;exact this
   have HM:=lH (jgZ jG ha hb hr.2.2.1 hr'.2.2.1);have HP:=lH (show ∀n ∈ j8 (l.length+l'.length) l l',0<jh l n+jh l' n from fun n hn=>jks HG.out HG'.out hn);obtain⟨NS,hNS⟩:=eX (j8 (l.length+l'.length) l l')
   have hlen:=jd2 (l.length+l'.length) l l';have hn16:NS.length≤16:=by rw[hNS,HL.out,HL'.out] at hlen;omega
   rw[hNS] at HM HP;have Rh:=lH hNS;obtain⟨R,hR⟩:=eX (Zc jG l l' NS [])
   rw[hR] at HM;have Uj:=lH hR;have Nu:=lH h8;have HH8':=lH h8';obtain⟨i0,hi,hz0,hz1,hz2⟩:=info_parts jhE;clear hr hr' hc ha hb hNS hR hlen h8 h8';go_enter Tryz.func127,Tryz.ntmps127;go_wp2_with fail
   refine(jer _ _ _ _ _ _ l l' _ HA.out HB.out).mono ?_;rw[HC.out];rintro e1 w1 ⟨rfl,k1⟩;have K1:=lH k1;clear k1;go_wp2_with fail
   refine(jd7 _ _ _ _ _ _ l l' _ (HA.out.kept K1.out) (HB.out.kept K1.out) Nu.out HH8'.out).mono ?_;rw[Rh.out];rintro e2 w2 ⟨x2,rfl,ho,k2⟩;have N7:=lH ho.2;obtain⟨s,scap,rfl,hs1,hs2,hrow⟩:=ho.reads;obtain⟨V9,TX,K2⟩:=lH3 hrow hs1 (K1.out.trans k2);obtain⟨n,hn⟩:=eX (NS.length)
   have VR:=lH hn;rw[hn] at hn16 V9 ⊢;clear k2 ho hrow hn hs1 hs2;go_wp2
   go_loopw [8,9] (fun v i wr=>∃(k:Nat) (acc:V),k≤n∧i=.int .i64 k∧Zc jG l l' (NS.drop k) acc=R∧jT 196 wr w2.heap.size v acc∧Below w2.heap.size w2 wr∧acc.length≤k)
    (fun _ i _=>n-(intOf i).toNat)
   case atStart=>exact⟨0,[],Nat.zero_le _,rfl,Uj.out,jT.nil _ _ _,Below.refl _ _,Nat.le_refl _⟩
   case round =>
    obtain⟨k,acc,hk,rfl,hres,ho,hB,hacc⟩:=hrel;obtain⟨HQ,HO,Vg⟩:=lH3 hres ho hB;clear hres ho;by_cases hlt:k<n
    · obtain⟨b,off,rfl⟩:∃b off,s=some ⟨b,off,none⟩:=V9.out.form.resolve_left (by omega);obtain⟨x,hx,hdrop,hbx,hsz,c1⟩:=(V9.out.kept hB).str hlt;obtain⟨HD,TU,HS,HX,RM,RN⟩:=lH6 hdrop hsz (show ∀W,Kept wr W→W.cell? ⟨b,off+k,none⟩=some (.string x) from fun W kk=>cell_later kk c1) (show 0<jh l x+jh l' x from HP.out x (List.mem_of_getElem? hx)) (show ∀W,Kept wr W→jw W a len l from fun W kk=>HA.out.kept (K2.out.trans (Kept.trans hB kk))) (show ∀W,Kept wr W→jw W a' len' l' from fun W kk=>HB.out.kept (K2.out.trans (Kept.trans hB kk)));obtain⟨g1,hg1⟩:=eX (jh l x)
      obtain⟨g2,hg2⟩:=eX (jh l' x)
      obtain⟨RO,TK,B1,B2⟩:=lH4 hg1 hg2 (show 0≤g1∧g1≤9223372036854775807 by rw[←hg1];exact JB x HG.out) (show 0≤g2∧g2≤9223372036854775807 by rw[←hg2];exact JB x HG'.out);rw[hg1,hg2] at HX;obtain⟨r1,r2,hr⟩:∃r1 r2,jG g1 g2=(r1,r2):=⟨_,_,rfl⟩
      have QF:=lH (show ∀W,Calls Tryz.prog 185 #[.int .i64 g1,.int .i64 g2] W (Ans r1 r2 W) from fun W=>by
       have:=jn0 g1 g2 W B1.out B2.out;rw[hr] at this;exact this)
      obtain⟨RB,HF,Nv⟩:=lH3 (show 0≤r1∧r1≤9223372036854775807 by have:=jdx B1.out B2.out;rw[hr] at this;exact this) (show jG (jh l x) (jh l' x)=(r1,r2) by rw[hg1,hg2];exact hr) hr;have hk1:(k:Int)<(n:Int):=by omega
      clear hB hx hdrop hsz hg1 hg2 hr;by_cases hz:r2=0
      · subst hz;have hy:r1≠0:=by
         have h1:=HX.out;have h2:=Nv.out;unfold jG at h2;split at h2
         · have:=(Prod.mk.inj h2).1;omega
         · have:=(Prod.mk.inj h2).2;omega
        have HN:=lH (show Zc jG l l' (NS.drop (k+1)) (acc++[(x,r1)])=R by
         have:=jkH (t:=NS.drop (k+1)) (acc:=acc) HF.out;unfold Yv at this;rw[if_neg hy] at this;rw[←this,←HD.out];exact HQ.out)
        clear hy;go_wp2;clear c1;refine wp_region_held_drew (S:=fun W=>W.cell? ⟨b,off+k,none⟩=some (.string x)) (by kernel_rfl) (HS.out _ (Kept.drew _)) (fun hHeld=>?_);refine tkJ 0 ?_;refine tkJ 1 ?_;refine tkJ 2 ?_;refine tkJ 3 ?_;refine tkJ 4 ?_;refine tkJ 6 ?_;refine tkJ 7 ?_;refine tkJ 8 ?_;refine tkJ 9 ?_;refine tkJ 10 ?_;try simp only[nP]
        refine rd1 5 fun K9 Ky=>?_;go_simp;refine(Xb _ _ _ l x _ (RM.out _ (Kept.drew _))).mono ?_;rintro e3 w3 ⟨rfl,kk⟩;have J1:=lH ((Kept.drew _).trans kk);clear kk;refine Ky.out _ _ (HS.out _ J1.out) (fun _=>?_);clear Ky K9;try simp only[nP]
        refine rd1 11 fun K9 Ky=>?_;go_simp;refine(Xb _ _ _ l' x _ (RN.out _ J1.out)).mono ?_;rintro e4 w4 ⟨rfl,kk⟩;have J2:=lH ((J1.out).trans kk);clear kk;refine Ky.out _ _ (HS.out _ J2.out) (fun _=>?_);clear Ky K9;try simp only[nP]
        rw[RO.out,TK.out];refine rd1 12 fun K9 Ky=>?_;go_simp;refine(QF.out _).mono ?_;rintro e5 w5 ⟨rfl,kk⟩;have J3:=lH ((J2.out).trans kk);clear kk;refine Ky.out _ _ (HS.out _ J3.out) (fun _=>?_);clear Ky K9;try simp only[nP]
        refine tkJ 13 ?_;refine tkJ 14 ?_;refine tkJ 15 ?_;refine tkJ 16 ?_;refine tkJ 17 ?_;try simp only[nP]
        refine wpAnyH_done (by kernel_rfl) ?_ _;have c1:=HS.out _ J3.out;have B6:=lH (Vg.out.trans (Below.mono J3.out Vg.out.size));have O6:=lH (HO.out.kept J3.out);have RP:=lH (show (w5.alloc (.cells #[.string x,.int .i64 r1] 196)).ownsRow w2.heap.size 196 2 u8 acc.length (cellsOf acc) from(O6.out.1.alloc _));have Vu:=lH (show w2.heap.size≤w5.heap.size from B6.out.size);go_wp2_with (at_builtin;refine wpList_append_lies _ rfl _ _ _ rfl w2.heap.size 196 i0 _ 2 24 Tryz.underlying113 hi hz0 hz1 hz2 rfl (by decide) u8 acc.length (cellsOf acc) rfl RP.out ⟨w5.heap.size,0,none⟩ 1 1 [.string x,.int .i64 r1] rfl rfl (jf7 _ _ _ _) (Yn [(x,r1)]) (by decide) (by unfold maxLen;omega) (by omega) (by rw[World.size_alloc];have:=Vu.out;omega) (w5.heap.size+1) (World.size_alloc _ _) ?_;intro g cap1 w7 hown1 hgrow hg hlt7;refine Hid.out ?_)
        refine lH ?_;go_wp2;go_roundw
        case rel =>
         refine⟨k+1,acc++[(x,r1)],by omega,by go_num,HN.out,⟨?_,O6.out.2.snoc TU.out (by have:=RB.out;omega) (by have:=RB.out;omega)⟩,(B6.out.alloc Vu.out _).grown hgrow (by rw[World.size_alloc];have:=Vu.out;omega) (fun j hj=>(RP.out.lt j hj).1),by rw[List.length_append];simp only[List.length_cons,List.length_nil];omega⟩;rw[List.length_append,Yg];exact hown1
        case measure=>simp[intOf];omega
      · have hz':(r2==0)=false:=by simpa using hz
        have HE:=lH (show jj jG l l'=(r2,[]) by
         have:R=(r2,[]):=by rw[←HQ.out,HD.out];exact jmu HF.out hz
         rw[HM.out,this];simp only;rw[if_pos hz])
        clear hz;go_wp2;clear c1;refine wp_region_held_drew (S:=fun W=>W.cell? ⟨b,off+k,none⟩=some (.string x)) (by kernel_rfl) (HS.out _ (Kept.drew _)) (fun hHeld=>?_);refine tkJ 0 ?_;refine tkJ 1 ?_;refine tkJ 2 ?_;refine tkJ 3 ?_;refine tkJ 4 ?_;refine tkJ 6 ?_;refine tkJ 7 ?_;refine tkJ 8 ?_;refine tkJ 9 ?_;refine tkJ 10 ?_;try simp only[nP]
        refine rd1 5 fun K9 Ky=>?_;go_simp;refine(Xb _ _ _ l x _ (RM.out _ (Kept.drew _))).mono ?_;rintro e3 w3 ⟨rfl,kk⟩;have J1:=lH ((Kept.drew _).trans kk);clear kk;refine Ky.out _ _ (HS.out _ J1.out) (fun _=>?_);clear Ky K9;try simp only[nP]
        refine rd1 11 fun K9 Ky=>?_;go_simp;refine(Xb _ _ _ l' x _ (RN.out _ J1.out)).mono ?_;rintro e4 w4 ⟨rfl,kk⟩;have J2:=lH ((J1.out).trans kk);clear kk;refine Ky.out _ _ (HS.out _ J2.out) (fun _=>?_);clear Ky K9;try simp only[nP]
        rw[RO.out,TK.out];refine rd1 12 fun K9 Ky=>?_;go_simp;refine(QF.out _).mono ?_;rintro e5 w5 ⟨rfl,kk⟩;have J3:=lH ((J2.out).trans kk);clear kk;refine Ky.out _ _ (HS.out _ J3.out) (fun _=>?_);clear Ky K9;try simp only[nP]
        refine tkJ 13 ?_;refine tkJ 14 ?_;refine tkJ 15 ?_;refine tkJ 16 ?_;refine tkJ 17 ?_;try simp only[nP]
        refine wpAnyH_done (by kernel_rfl) ?_ _;have c1:=HS.out _ J3.out;have B6:=lH (Vg.out.trans (Below.mono J3.out Vg.out.size));have O6:=lH (HO.out.kept J3.out);go_wp2;go_ret2
        rw[HE.out];exact Told.none (K2.out.trans B6.out)
    · have HE:=lH (show R=(0,acc) by
       have e:NS.drop k=[]:=List.drop_of_length_le (by rw[VR.out];omega);rw[←HQ.out,e];rfl)
      have UL:=lH (K2.out.trans (show Kept w2 wr from hB));obtain⟨av,cv,rfl,hv1,hv2,-⟩:=HO.out.at_;have Uk:=lH (jT.base_le HO.out K2.out.size);clear hB hv1 hv2;by_cases h9:acc.length≤8
      · have HW:=lH (show jj jG l l'=(0,acc) by
         rw[HM.out,HE.out];simp only;rw[if_neg (by decide),if_neg (by omega)])
        have QW:=lH (fun W=>jkQ av acc.length cv W h9);clear h9;go_wp2_with fail
        refine(QW.out _).mono ?_;rintro e9 w9 ⟨rfl,rfl⟩;go_wp2;go_ret2
        rw[HW.out];exact⟨_,rfl,Uk.out,UL.out⟩
      · have HW:=lH (show jj jG l l'=(4,[]) by
         rw[HM.out,HE.out];simp only;rw[if_neg (by decide),if_pos (by omega)])
        have QW:=lH (fun W=>jhe av acc.length cv W (by omega));clear h9;go_wp2_with fail
        refine(QW.out _).mono ?_;rintro e9 w9 ⟨rfl,rfl⟩;go_wp2;go_ret2
        rw[HW.out];exact Told.none UL.out
 · have HE:=lH (jgQ (f:=jG) hc);obtain⟨c,hc2⟩:=eX (Yt l l')
   rw[hc2] at HE hc;have hc':(c==0)=false:=by simpa using hc
   have HC:=lH hc2;clear hr hr' hc hc2;go_enter Tryz.func127,Tryz.ntmps127;go_wp2_with fail
   refine(jer _ _ _ _ _ _ l l' _ HA.out HB.out).mono ?_;rw[HC.out];rintro e1 w1 ⟨rfl,k1⟩;have K1:=lH k1;clear k1;go_wp2;go_ret2
   rw[HE.out];exact Told.none K1.out
theorem jkl {v v':Value} {l l' m:V} {c:Int} {w:World} (h:Reads w v l) (h':Reads w v' l') (e:jj jG l l'=(c,m)) :
 Calls Tryz.prog 127 #[v,v'] w fun e w'=>∃x,e=.returned (.tuple #[x,.int .i64 c])∧Reads w' x m∧Kept w w':=by
 obtain⟨a,cap,rfl,_,_,hb⟩:=h;obtain⟨a9,cap9,rfl,_,_,hr⟩:=h';refine(jkg a a9 _ cap _ cap9 l l' w hb hr).mono ?_;rw[e];rintro e w' ⟨x,rfl,ho,k⟩;exact⟨x,rfl,ho.at_,k⟩
end Go.Proofs.YtokdjfoalkmhiaaGreat.Vec
namespace Go.Proofs.YtokdjfoalkmhiaaGreat
open Go.RowKit
def Xa (r:Int×Vec.V) (w:World) (e:Ending) (w':World):Prop:=∃y,e=.returned (.tuple #[y,.int .i64 r.1])∧Vec.Reads w' y r.2∧Kept w w'
theorem Xa.mk' {r:Int×Vec.V} {c:Int} {l:Vec.V} {y:Value} {w w':World} (h:r=(c,l)) (g:Vec.Reads w' y l) (k:Kept w w'):Xa r w (.returned (.tuple #[y,.int .i64 c])) w':=by
 subst h;exact⟨y,rfl,g,k⟩
theorem qv (w:World):Vec.Reads w (.slice none 0 0) []:=Vec.Reads.nil w
theorem jj2 {l:List Nod} {x:ByteArray} {n:Nod} (h:jl l x=some n):n.name=x :=
 jR.1 (List.find?_some (p:=fun n:Nod=>eqS n.name x) h)
theorem jjA {s:Clu} {x:ByteArray} (h:jl s.nodes x=none):JW s x=(3,[]):=by unfold JW;rw[h]
theorem jaP {s:Clu} {x:ByteArray} {n:Nod} (h:jl s.nodes x=some n):JW s x=jJ x s.pods []:=by unfold JW;rw[h];dsimp only;rw[jj2 h]
theorem jlG {v:Value} {s:Clu} {w:World} (h:jC w v s) (x:ByteArray):Calls Tryz.prog 66 #[v,.string x] w (Xa (JW s x) w):=by
 obtain⟨v1,v2,v3,rfl,⟨a,cap,rfl,l1,m1,h1⟩,⟨b,cp,rfl,l2,m2,h2⟩,⟨d,cb,rfl,l3,m3,h3⟩⟩:=h;obtain⟨nl,pl,bl⟩:=s;dsimp only at *;obtain⟨len,hlen⟩:=eX (nl.length)
 obtain⟨m,hm⟩:=eX (pl.length)
 obtain⟨n,hn⟩:=eX (bl.length)
 rw[hlen] at h1 l1;rw[hm] at h2 l2;rw[hn] at h3 l3;try rw[hlen]
 try rw[hm]
 try rw[hn]
 clear hn;obtain⟨Z,hZ⟩:=eX (w.alloc (.cells #[.slice a len cap,.slice b m cp,.slice d n cb] 70))
 have hkz:Kept w Z:=by rw[←hZ];exact ja _ _
 obtain⟨HQ,HN,HP,V2,Vc,UG,Tq⟩:=lH7 (show jf w.heap.size [.slice a len cap,.slice b m cp,.slice d n cb] Z from jc w (.slice a len cap) [.slice b m cp,.slice d n cb] 70 Z (by rw[hZ];exact Kept.refl _)) (h1.kept hkz) (h2.kept hkz) (qT l1 m1 (h1.kept hkz)) hkz hlen hm;have hml1:=Nat.le_trans l1 m1;have hml2:=Nat.le_trans l2 m2;unfold maxLen at hml1 hml2;clear h1 h2 h3 l1 l2 l3 m1 m2 m3 hkz;have cq0:=(HQ.out.kept (Kept.refl _)).at_ 0 _ rfl;have cq1:=(HQ.out.kept (Kept.refl _)).at_ 1 _ rfl;have cq2:=(HQ.out.kept (Kept.refl _)).at_ 2 _ rfl;obtain⟨o,ho⟩:=eX (jl nl x)
 have HF:=lH ho;go_enter Tryz.func66,Tryz.ntmps66;go_wp2_with fail
 try rw[hZ]
 clear hZ;refine(jjn V2.out).mono ?_;rw[ho];rintro e w1 ⟨v9,rfl,hr,kk⟩;obtain⟨nn,hnn⟩:=eX (o.getD Nod.zero)
 rw[hnn] at hr;obtain⟨y1,y2,y3,rfl,hat⟩:=hr;have g1:=hat.cap;have g2:=hat.labels;have g3:=hat.taints;obtain⟨b1,d1,rfl,-,-,-⟩:=g1;obtain⟨b2,d2,rfl,-,-,-⟩:=g2;obtain⟨b3,d3,rfl,-,-,-⟩:=g3;unfold zj;obtain⟨n1,hn1⟩:=eX (nn.cap.length)
 obtain⟨n2,hn2⟩:=eX (nn.labels.length)
 obtain⟨n3,hn3⟩:=eX (nn.taints.length)
 rw[hn1,hn2,hn3];have K1:=lH kk;clear hat kk hn1 hn2 hn3 hnn ho cq0 cq1 cq2;obtain⟨W1,hW1⟩:=eX (w1.alloc (.cells #[.string nn.name,.slice b1 n1 d1,.slice b2 n2 d2,.slice b3 n3 d3,.bool nn.cordon] 121))
 have K1:=lH (K1.out.trans (show Kept w1 W1 by rw[←hW1];exact ja _ _))
 cases o with
 | none =>
  go_wp2;try rw[hW1]
  go_ret2
  exact Xa.mk' (jjA HF.out) (qv _) (Vc.out.trans K1.out)
 | some nod =>
  have HU:=lH (show JW ⟨nl,pl,bl⟩ x=jJ x pl [] from jaP HF.out);have cq0:=(HQ.out.kept K1.out).at_ 0 _ rfl;have cq1:=(HQ.out.kept K1.out).at_ 1 _ rfl;have cq2:=(HQ.out.kept K1.out).at_ 2 _ rfl;have HW:=lH hW1;clear hW1;go_wp2;try rw[HW.out]
  clear HW cq0 cq1 cq2;go_loopw [8,9] (fun s i wr=>∃k:Nat,k≤m∧i=.int .i64 k∧∃acc:Vec.V,Vec.Reads wr s acc∧jJ x (pl.drop k) acc=jJ x pl []∧Kept Z wr) (fun _ i _=>m-(intOf i).toNat)
  case atStart=>exact⟨0,Nat.zero_le _,rfl,[],qv _,rfl,K1.out⟩
  case round =>
   obtain⟨k,hk,rfl,acc,hacc,hrest,hK⟩:=hrel;obtain⟨HS,HA,HK⟩:=lH3 hrest hacc hK;have cq0:=(HQ.out.kept hK).at_ 0 _ rfl;have cq1:=(HQ.out.kept hK).at_ 1 _ rfl;have cq2:=(HQ.out.kept hK).at_ 2 _ rfl;by_cases hlt:k<m
   · obtain⟨b9,off,rfl⟩:=HP.out.form.resolve_left (by omega);obtain⟨n9,x1,y1,z1,x2,y2,z2,x3,y3,z3,x4,y4,z4,hn,hd,hb,p0,p1,p2,p3,p4,p5,p6,p7,p8,p9,p10,hat⟩:=(HP.out.kept hK).at_ hlt;have HD:=lH hd;have hkk:(k:Int)<(m:Int):=by omega
     obtain⟨e1,he1⟩:=eX (eqS n9.node x)
     have he1':(n9.node.toList==x.toList)=e1:=he1;have he1n:(n9.node.toList != x.toList)=!e1:=by rw[bne,he1']
     have HE:=lH he1
     cases e1 with
     | false =>
      have HX:=lH (show jJ x (pl.drop (k+1)) acc=jJ x pl [] by rw[←hrest,hd,jaT he1]);clear hacc hrest hK hat hn hd he1;go_wp2;go_roundw
      case rel=>exact⟨k+1,by omega,by go_num,acc,HA.out,HX.out,HK.out⟩
      case measure=>simp[intOf];omega
     | true =>
      obtain⟨c,mm,hcm⟩:∃c mm,Vec.jj Vec.jG acc n9.need=(c,mm):=⟨_,_,rfl⟩
      have HC:=lH hcm;have Ul:=lH (Vec.jkl hacc hat.need hcm);clear hacc hrest hK hat hn hd he1 hcm;go_wp2_with fail
      refine Ul.out.mono ?_;rintro e w2 ⟨y,rfl,hy,kk⟩;have K2:=lH (HK.out.trans kk);have HY:=lH hy;clear hy kk;by_cases hc:c=0
      · subst hc;have HX:=lH (show jJ x (pl.drop (k+1)) mm=jJ x pl [] by rw[←HS.out,HD.out,jch HE.out HC.out]);go_wp2;go_roundw
        case rel=>exact⟨k+1,by omega,by go_num,mm,HY.out,HX.out,K2.out⟩
        case measure=>simp[intOf];omega
      · have HX:=lH (show jJ x pl []=(c,[]) by rw[←HS.out,HD.out,jcl HE.out HC.out hc]);have hcn:(c != 0)=true:=by simpa using hc
        clear hc;go_wp2;go_ret2
        exact Xa.mk' (HU.out.trans HX.out) (qv _) (Vc.out.trans K2.out)
   · have HX:=lH (show jJ x pl []=(0,acc) by rw[←hrest,List.drop_of_length_le (by rw[Tq.out];omega)];rfl);have hkk:¬(k:Int)<(m:Int):=by omega
     clear hacc hrest hK;go_wp2;go_ret2
     exact Xa.mk' (HU.out.trans HX.out) HA.out (Vc.out.trans HK.out)
theorem jk4 {v:Value} {s:Clu} {w:World} (h:jC w v s):Calls Tryz.prog 68 #[v] w (Xa (jmP s) w):=by
 obtain⟨v1,v2,v3,rfl,⟨a,cap,rfl,l1,m1,h1⟩,⟨b,cp,rfl,l2,m2,h2⟩,⟨d,cb,rfl,l3,m3,h3⟩⟩:=h;obtain⟨nl,pl,bl⟩:=s;dsimp only at *;obtain⟨len,hlen⟩:=eX (nl.length)
 obtain⟨m,hm⟩:=eX (pl.length)
 obtain⟨n,hn⟩:=eX (bl.length)
 rw[hlen] at h1 l1;rw[hm] at h2 l2;rw[hn] at h3 l3;try rw[hlen]
 try rw[hm]
 try rw[hn]
 clear hn;obtain⟨Z,hZ⟩:=eX (w.alloc (.cells #[.slice a len cap,.slice b m cp,.slice d n cb] 70))
 have hkz:Kept w Z:=by rw[←hZ];exact ja _ _
 obtain⟨HQ,HN,HP,V2,Vc,UG,Tq⟩:=lH7 (show jf w.heap.size [.slice a len cap,.slice b m cp,.slice d n cb] Z from jc w (.slice a len cap) [.slice b m cp,.slice d n cb] 70 Z (by rw[hZ];exact Kept.refl _)) (h1.kept hkz) (h2.kept hkz) (qT l1 m1 (h1.kept hkz)) hkz hlen hm;have hml1:=Nat.le_trans l1 m1;have hml2:=Nat.le_trans l2 m2;unfold maxLen at hml1 hml2;clear h1 h2 h3 l1 l2 l3 m1 m2 m3 hkz;have cq0:=(HQ.out.kept (Kept.refl _)).at_ 0 _ rfl;have cq1:=(HQ.out.kept (Kept.refl _)).at_ 1 _ rfl;have cq2:=(HQ.out.kept (Kept.refl _)).at_ 2 _ rfl;show Calls _ _ _ _ (Xa (Js nl []) w);go_enter Tryz.func68,Tryz.ntmps68;go_wp2;try rw[hZ]
 clear hZ cq0 cq1 cq2;go_loopw [4,5] (fun s i wr=>∃k:Nat,k≤len∧i=.int .i64 k∧∃acc:Vec.V,Vec.Reads wr s acc∧Js (nl.drop k) acc=Js nl []∧Kept Z wr) (fun _ i _=>len-(intOf i).toNat)
 case atStart=>exact⟨0,Nat.zero_le _,rfl,[],qv _,rfl,Kept.refl _⟩
 case round =>
  obtain⟨k,hk,rfl,acc,hacc,hrest,hK⟩:=hrel;obtain⟨HS,HA,HK⟩:=lH3 hrest hacc hK;have cq0:=(HQ.out.kept hK).at_ 0 _ rfl;have cq1:=(HQ.out.kept hK).at_ 1 _ rfl;have cq2:=(HQ.out.kept hK).at_ 2 _ rfl;by_cases hlt:k<len
  · obtain⟨b9,off,rfl⟩:=HN.out.form.resolve_left (by omega);obtain⟨n9,x1,y1,z1,x2,y2,z2,x3,y3,z3,hn,hd,hb,p0,p1,p2,p3,p4,hat⟩:=(HN.out.kept hK).at_ hlt;have HD:=lH hd;have hkk:(k:Int)<(len:Int):=by omega
    obtain⟨c,mm,hcm⟩:∃c mm,Vec.jj Vec.jG acc n9.cap=(c,mm):=⟨_,_,rfl⟩
    have HC:=lH hcm;have Ul:=lH (Vec.jkl hacc hat.cap hcm);clear hacc hrest hK hat hn hd hcm;go_wp2_with fail
    refine Ul.out.mono ?_;rintro e w2 ⟨y,rfl,hy,kk⟩;have K2:=lH (HK.out.trans kk);have HY:=lH hy;clear hy kk;by_cases hc:c=0
    · subst hc;have HX:=lH (show Js (nl.drop (k+1)) mm=Js nl [] by rw[←HS.out,HD.out,jgq HC.out]);go_wp2;go_roundw
      case rel=>exact⟨k+1,by omega,by go_num,mm,HY.out,HX.out,K2.out⟩
      case measure=>simp[intOf];omega
    · have HX:=lH (show Js nl []=(c,[]) by rw[←HS.out,HD.out,jfB HC.out hc]);have hcn:(c != 0)=true:=by simpa using hc
      clear hc;go_wp2;go_ret2
      exact Xa.mk' HX.out (qv _) (Vc.out.trans K2.out)
  · have HX:=lH (show Js nl []=(0,acc) by rw[←hrest,List.drop_of_length_le (by rw[UG.out];omega)];rfl);have hkk:¬(k:Int)<(len:Int):=by omega
    clear hacc hrest hK;go_wp2;go_ret2
    exact Xa.mk' HX.out HA.out (Vc.out.trans HK.out)
def Jl (r:Int×Vec.V) (w:World) (e:Ending) (w':World):Prop:=(r.1=0→∃v,e=.returned v∧Vec.jT 100 w' w.heap.size v r.2)∧(r.1≠0→e=.panicked [zx r.1])∧Kept w w'
theorem Jl.good {r:Int×Vec.V} {m:Vec.V} {v:Value} {w w':World} (h:r=(0,m)) (g:Vec.jT 100 w' w.heap.size v m) (k:Kept w w'):Jl r w (.returned v) w':=by
 subst h;exact⟨fun _=>⟨v,rfl,g⟩,fun h=>absurd rfl h,k⟩
theorem Jl.bad {r:Int×Vec.V} {m:Vec.V} {c:Int} {w w':World} (h:r=(c,m)) (hc:c≠0) (k:Kept w w'):Jl r w (.panicked [zx c]) w':=by
 subst h;exact⟨fun h=>absurd h hc,fun _=>rfl,k⟩
theorem jnX {v v':Value} {l l':Vec.V} {w:World} (h:Vec.Reads w v l) (h':Vec.Reads w v' l'):Calls Tryz.prog 162 #[v,v'] w (Vec.Xc (Vec.jj Vec.jG l l') w):=by
 obtain⟨a,cap,rfl,h1,h2,hr⟩:=h;obtain⟨a',cap',rfl,h1',h2',hr'⟩:=h';exact Vec.jnp a a' _ cap _ cap' l l' w hr hr' h1 h2 h1' h2'
theorem jkw (w:World):Calls Tryz.prog 88 #[.int .i64 0] w fun e w'=>e=.returned (.tuple #[])∧w=w':=by
 go_enter Tryz.func88,Tryz.ntmps88;go_wp2;go_end0
 exact⟨rfl,rfl⟩
theorem ji7 (x:Int) (w:World) (h:x≠0):Calls Tryz.prog 88 #[.int .i64 x] w fun e w'=>e=.panicked [zx x]∧w=w':=by
 have h3:(x != 0)=true:=by simpa using h
 clear h;go_enter Tryz.func88,Tryz.ntmps88;go_wp2;exact⟨rfl,rfl,rfl⟩
def jmH (o:Option Nod) (w:World) (e:Ending) (w':World):Prop:=(∀n,o=some n→∃v,e=.returned v∧JM w.heap.size w' v n)∧(o=none→e=.panicked [zx 3])∧Kept w w'
theorem jc5 (a a8 a9:Option Addr) (len cap m8 c8 m9 c9:Nat) (l:List Nod) (x:ByteArray) (w:World) (hr:jo w a len l) (hlow:∀n ∈ l,zP n) :
 Calls Tryz.prog 93 #[.agg #[.slice a len cap,.slice a8 m8 c8,.slice a9 m9 c9],.string x] w (jmH (jl l x) w):=by
 obtain⟨Z,hZ⟩:=eX ((w.alloc (.cells #[.slice a len cap,.slice a8 m8 c8,.slice a9 m9 c9] 26)).alloc (.cells #[.string ⟨#[]⟩,.slice none 0 0,.slice none 0 0,.slice none 0 0,.bool false] 57))
 have hkz:Kept w Z:=by rw[←hZ];exact jn _ _ _
 have hzs:Z.heap.size=w.heap.size+2:=by rw[←hZ];simp
 have UO:=lH (show jf (w.heap.size+1) [.string ⟨#[]⟩,.slice none 0 0,.slice none 0 0,.slice none 0 0,.bool false] Z by
  have:=jc (w.alloc (.cells #[.slice a len cap,.slice a8 m8 c8,.slice a9 m9 c9] 26)) (.string ⟨#[]⟩) [.slice none 0 0,.slice none 0 0,.slice none 0 0,.bool false] 57 Z (by rw[hZ];exact Kept.refl _);rw[World.size_alloc] at this;exact this)
 have hst:Z.cell? ⟨w.heap.size,0,none⟩=some (.slice a len cap):=(jc w (.slice a len cap) [.slice a8 m8 c8,.slice a9 m9 c9] 26 Z (by rw[←hZ];exact ja _ _)).at_ 0 _ rfl;obtain⟨HF,Vc,Vf⟩:=lH3 (jjy a len cap l x Z (hr.kept hkz) hlow) hkz hzs;obtain⟨o,ho⟩:=eX (jl l x)
 rw[ho] at HF ⊢;clear hr hlow hkz hzs ho
 cases o with
 | none =>
  go_enter Tryz.func93,Tryz.ntmps93;go_wp2_with fail
  try rw[hZ]
  clear hZ hst;refine HF.out.mono ?_;rintro e w1 ⟨v,rfl,hn,k1⟩;have KW:=lH (Vc.out.trans k1);obtain⟨b1,n1,d1,b2,n2,d2,b3,n3,d3,rfl,-⟩:=hn;clear k1;go_wp2;exact⟨rfl,(fun n h=>by cases h),(fun _=>rfl),KW.out.trans (ja _ _)⟩
 | some n9 =>
  go_enter Tryz.func93,Tryz.ntmps93;go_wp2_with fail
  try rw[hZ]
  clear hZ hst;refine HF.out.mono ?_;rintro e w1 ⟨v,rfl,hn,k1⟩;obtain⟨HN,VJ,KW⟩:=lH3 hn (UO.out.kept k1) (Vc.out.trans k1);obtain⟨b1,n1,d1,b2,n2,d2,b3,n3,d3,hv,-⟩:=hn;have hv:v=.agg #[.string n9.name,.slice b1 n1 d1,.slice b2 n2 d2,.slice b3 n3 d3,.bool n9.cordon]:=hv;subst hv;obtain⟨z,hz⟩:=eX (n9.name)
  obtain⟨cd,hcd⟩:=eX (n9.cordon)
  have Tk:=lH (show w.heap.size+2≤w1.heap.size by have:=k1.size;rw[Vf.out] at this;exact this);rw[hz,hcd];rw[hz,hcd] at HN;clear k1;have US:=lH (VJ.out.kept (ja w1 (.cells #[.string z,.slice b1 n1 d1,.slice b2 n2 d2,.slice b3 n3 d3,.bool cd] 57)));clear VJ;obtain⟨W1,hW1⟩:=eX (w1.alloc (.cells #[.string z,.slice b1 n1 d1,.slice b2 n2 d2,.slice b3 n3 d3,.bool cd] 57))
  rw[hW1] at US;have c:=jc w1 (.string z) [.slice b1 n1 d1,.slice b2 n2 d2,.slice b3 n3 d3,.bool cd] 57 W1 (by rw[hW1];exact Kept.refl _);have g0:=c.at_ 0 _ rfl;have g1:=c.at_ 1 _ rfl;have g2:=c.at_ 2 _ rfl;have g3:=c.at_ 3 _ rfl;have g4:=c.at_ 4 _ rfl;have Nw:=lH (HN.out.kept (show Kept w1 W1 by rw[←hW1];exact ja _ _));have Vm:=lH (KW.out.trans (show Kept w1 W1 by rw[←hW1];exact ja _ _));obtain⟨y0,y1,y2,y3,y4⟩:=US.out.at5;have x0:=US.out.free 0;have x1:=US.out.free 1;have x2:=US.out.free 2;have x3:=US.out.free 3;have x4:=US.out.free 4;have P:=lH (j5 (vs:=[.string z,.slice b1 n1 d1,.slice b2 n2 d2,.slice b3 n3 d3,.bool cd]) US.out rfl);clear US c;go_wp2_with fail
  try rw[hW1]
  clear hW1;go_wp2;obtain⟨WE,hWE⟩:=eX (W1.setCells (w.heap.size+1) 0 [.string z,.slice b1 n1 d1,.slice b2 n2 d2,.slice b3 n3 d3,.bool cd])
  have hWE2:(((((W1.setCell ⟨(w.heap.size+1),0,none⟩ (.string z)).setCell ⟨(w.heap.size+1),1,none⟩ (.slice b1 n1 d1)).setCell ⟨(w.heap.size+1),2,none⟩ (.slice b2 n2 d2)).setCell ⟨(w.heap.size+1),3,none⟩ (.slice b3 n3 d3)).setCell ⟨(w.heap.size+1),4,none⟩ (.bool cd))=WE:=hWE;rw[hWE] at P;try rw[hWE2]
  clear hWE hWE2;obtain⟨PC,hsz,hbl,hkp⟩:=P.out;refine bodyPost_ret (by simp[results,Tryz.results93,go_sem,PC.at_ 0 _ rfl,PC.at_ 1 _ rfl,PC.at_ 2 _ rfl,PC.at_ 3 _ rfl,PC.at_ 4 _ rfl];try rfl) rfl ?_;exact⟨(fun n h=>by cases h;exact⟨_,rfl,(Nw.out.far hsz (fun b hb=>hbl b (by have:=Vf.out;omega))).less (by have:=Vf.out;omega)⟩),(fun h=>by cases h),hkp _ _ (by omega) Vm.out⟩
theorem Y9 (a a8 a9 b1 b2 b3:Option Addr) (len cap m8 c8 m9 c9 n1 d1 n2 d2 n3 d3:Nat) (q:ByteArray) (cd:Bool) (l:List Pd) (w:World) (hr:jy w a len l) :
 Calls Tryz.prog 95 #[.agg #[.slice a8 m8 c8,.slice a len cap,.slice a9 m9 c9],.agg #[.string q,.slice b1 n1 d1,.slice b2 n2 d2,.slice b3 n3 d3,.bool cd]] w (Jl (jJ q l []) w):=by
 have hl:=hr.1;have hm:=hr.2.1;unfold maxLen at hm;obtain⟨Z,hZ⟩:=eX ((w.alloc (.cells #[.slice a8 m8 c8,.slice a len cap,.slice a9 m9 c9] 26)).alloc (.cells #[.string q,.slice b1 n1 d1,.slice b2 n2 d2,.slice b3 n3 d3,.bool cd] 57))
 have hkz:Kept w Z:=by rw[←hZ];exact jn _ _ _
 have HQ:=lH (show ∀W,Kept Z W→W.cell? ⟨w.heap.size+1,0,none⟩=some (.string q) from fun W k=>by
  have:=jc (w.alloc (.cells #[.slice a8 m8 c8,.slice a len cap,.slice a9 m9 c9] 26)) (.string q) [.slice b1 n1 d1,.slice b2 n2 d2,.slice b3 n3 d3,.bool cd] 57 W (by rw[hZ];exact k);rw[World.size_alloc] at this;exact this.at_ 0 _ rfl)
 have hst:Z.cell? ⟨w.heap.size,1,none⟩=some (.slice a len cap):=(jc w (.slice a8 m8 c8) [.slice a len cap,.slice a9 m9 c9] 26 Z (by rw[←hZ];exact ja _ _)).at_ 1 _ rfl;obtain⟨HR,HL,Vc⟩:=lH3 (hr.kept hkz) hl hkz;by_cases h0:len=0
 · subst h0;have HE:=lH (show jJ q l []=(0,[]) by rw[List.eq_nil_of_length_eq_zero hl];rfl);clear hr hl hkz;go_enter Tryz.func95,Tryz.ntmps95;go_wp2;try rw[hZ]
   refine wp_loop_rounds 1 ?_;rw[rounds_succ];go_wp2;go_ret;exact Jl.good HE.out (Vec.jT.nil _ _ _) (by first | exact Vc.out | (rw[hZ];exact Vc.out))
 · obtain⟨b,off,rfl⟩:=hr.form.resolve_left h0;clear hr hl hkz h0;go_enter Tryz.func95,Tryz.ntmps95;go_wp2;try rw[hZ]
   clear hZ hst;go_loopw [5,11] (fun s i wr=>∃k:Nat,k≤len∧i=.int .i64 k∧∃acc:Vec.V,Vec.jT 100 wr w.heap.size s acc∧jJ q (l.drop k) acc=jJ q l []∧Kept Z wr) (fun _ i _=>len-(intOf i).toNat)
   case atStart=>exact⟨0,Nat.zero_le _,rfl,[],Vec.jT.nil _ _ _,rfl,Kept.refl _⟩
   case round =>
    obtain⟨k,hk,rfl,acc,hv,hrest,hK⟩:=hrel;obtain⟨HS,HV,HK⟩:=lH3 hrest hv hK;by_cases hlt:k<len
    · obtain⟨n,a1,m1,c1,a2,m2,c2,a3,m3,c3,a4,m4,c4,hn,hd,hb,p0,p1,p2,p3,p4,p5,p6,p7,p8,p9,p10,hat⟩:=(HR.out.kept hK).at_ hlt;have HD:=lH hd;have VH:=lH hat;have q0:=HQ.out _ hK;obtain⟨t,ht⟩:=eX (eqS n.node q)
      have ht':(n.node.toList==q.toList)=t:=ht;have HT:=lH ht;have hkk:(k:Int)<(len:Int):=by omega
      have z0:=HQ.out _ (hK.trans (ja wr (.cells #[.string n.name,.string n.owner,.int .i64 n.prio,.slice a1 m1 c1,.slice a2 m2 c2,.slice a3 m3 c3,.slice a4 m4 c4,.string n.key,.int .i64 n.most,.string n.node,.bool n.hold] 44)));clear hrest hK hat hd hn ht hv
      cases t with
      | false =>
       have HX:=lH (show jJ q (l.drop (k+1)) acc=jJ q l [] by rw[←HS.out,HD.out,jaT HT.out]);go_wp2;go_roundw
       case rel=>exact⟨k+1,by omega,by go_num,acc,HV.out.kept (ja _ _),HX.out,HK.out.trans (ja _ _)⟩
       case measure=>simp[intOf];omega
      | true =>
       obtain⟨c,m,hcm⟩:∃c m,Vec.jj Vec.jG acc n.need=(c,m):=⟨_,_,rfl⟩
       obtain⟨Ux,Vu,Uc⟩:=lH3 hcm (show w.heap.size≤wr.heap.size from(Vc.out.trans HK.out).size) (fun W (kk:Kept wr W)=>jnX (HV.out.kept kk).reads (VH.out.need.kept kk));rw[hcm] at Uc;clear hcm;by_cases hc:c=0
       · subst hc;have HX:=lH (show jJ q (l.drop (k+1)) m=jJ q l [] by rw[←HS.out,HD.out,jch HT.out Ux.out]);go_wp2_with fail
         refine(Uc.out _ (ja _ _)).mono ?_;rintro e w1 ⟨x,rfl,r,kk⟩;have RX:=lH (r.base_le (show w.heap.size≤_ by rw[World.size_alloc];have:=Vu.out;omega));have KW:=lH (HK.out.trans ((ja _ _).trans kk));clear r kk;go_wp2_with fail
         refine(jbo _ _).mono ?_;rintro e w2 ⟨rfl,rfl⟩;go_wp2;go_roundw
         case rel=>exact⟨k+1,by omega,by go_num,m,RX.out,HX.out,KW.out⟩
         case measure=>simp[intOf];omega
       · have HX:=lH (show jJ q l []=(c,[]) by rw[←HS.out,HD.out,jcl HT.out Ux.out hc]);have HC:=lH hc;clear hc;go_wp2_with fail
         refine(Uc.out _ (ja _ _)).mono ?_;rintro e w1 ⟨x,rfl,r,kk⟩;have KW:=lH (HK.out.trans ((ja _ _).trans kk));clear r kk;go_wp2_with fail
         refine(jap _ _ _ HC.out).mono ?_;rintro e w2 ⟨rfl,rfl⟩;go_wp2;exact⟨rfl,Jl.bad HX.out HC.out (Vc.out.trans KW.out)⟩
    · have HE:=lH (show jJ q l []=(0,acc) by rw[←hrest,List.drop_of_length_le (by rw[HL.out];omega)];rfl);clear hrest hK hv;go_wp2;go_ret;exact Jl.good HE.out HV.out (Vc.out.trans HK.out)
theorem jj9 (a a8 a9:Option Addr) (len cap m8 c8 m9 c9:Nat) (l:List Nod) (w:World) (hr:jo w a len l) :
 Calls Tryz.prog 96 #[.agg #[.slice a len cap,.slice a8 m8 c8,.slice a9 m9 c9]] w (Jl (Js l []) w):=by
 have hl:=hr.1;have hm:=hr.2.1;unfold maxLen at hm;obtain⟨Z,hZ⟩:=eX (w.alloc (.cells #[.slice a len cap,.slice a8 m8 c8,.slice a9 m9 c9] 26))
 have hkz:Kept w Z:=by rw[←hZ];exact ja _ _
 have hst:Z.cell? ⟨w.heap.size,0,none⟩=some (.slice a len cap):=(jc w (.slice a len cap) [.slice a8 m8 c8,.slice a9 m9 c9] 26 Z (by rw[hZ];exact Kept.refl _)).at_ 0 _ rfl;obtain⟨HR,HL,Vc⟩:=lH3 (hr.kept hkz) hl hkz;by_cases h0:len=0
 · subst h0;have HE:=lH (show Js l []=(0,[]) by rw[List.eq_nil_of_length_eq_zero hl];rfl);clear hr hl hkz;go_enter Tryz.func96,Tryz.ntmps96;go_wp2;try rw[hZ]
   refine wp_loop_rounds 1 ?_;rw[rounds_succ];go_wp2;go_ret;exact Jl.good HE.out (Vec.jT.nil _ _ _) (by first | exact Vc.out | (rw[hZ];exact Vc.out))
 · obtain⟨b,off,rfl⟩:=hr.form.resolve_left h0;clear hr hl hkz h0;go_enter Tryz.func96,Tryz.ntmps96;go_wp2;try rw[hZ]
   clear hZ hst;go_loopw [3,9] (fun s i wr=>∃k:Nat,k≤len∧i=.int .i64 k∧∃acc:Vec.V,Vec.jT 100 wr w.heap.size s acc∧Js (l.drop k) acc=Js l []∧Kept Z wr) (fun _ i _=>len-(intOf i).toNat)
   case atStart=>exact⟨0,Nat.zero_le _,rfl,[],Vec.jT.nil _ _ _,rfl,Kept.refl _⟩
   case round =>
    obtain⟨k,hk,rfl,acc,hv,hrest,hK⟩:=hrel;obtain⟨HS,HV,HK⟩:=lH3 hrest hv hK;by_cases hlt:k<len
    · obtain⟨n,a1,m1,c1,a2,m2,c2,a3,m3,c3,hn,hd,hb,p0,p1,p2,p3,p4,hat⟩:=(HR.out.kept hK).at_ hlt;have HD:=lH hd;have VH:=lH hat;have hkk:(k:Int)<(len:Int):=by omega
      obtain⟨c,m,hcm⟩:∃c m,Vec.jj Vec.jG acc n.cap=(c,m):=⟨_,_,rfl⟩
      obtain⟨Ux,Vu,Uc⟩:=lH3 hcm (show w.heap.size≤wr.heap.size from(Vc.out.trans HK.out).size) (fun W (kk:Kept wr W)=>jnX (HV.out.kept kk).reads (VH.out.cap.kept kk));rw[hcm] at Uc;clear hrest hK hat hd hn hv hcm;by_cases hc:c=0
      · subst hc;have HX:=lH (show Js (l.drop (k+1)) m=Js l [] by rw[←HS.out,HD.out,jgq Ux.out]);go_wp2_with fail
        refine(Uc.out _ (ja _ _)).mono ?_;rintro e w1 ⟨x,rfl,r,kk⟩;have RX:=lH (r.base_le (show w.heap.size≤_ by rw[World.size_alloc];have:=Vu.out;omega));have KW:=lH (HK.out.trans ((ja _ _).trans kk));clear r kk;go_wp2_with fail
        refine(jbo _ _).mono ?_;rintro e w2 ⟨rfl,rfl⟩;go_wp2;go_roundw
        case rel=>exact⟨k+1,by omega,by go_num,m,RX.out,HX.out,KW.out⟩
        case measure=>simp[intOf];omega
      · have HX:=lH (show Js l []=(c,[]) by rw[←HS.out,HD.out,jfB Ux.out hc]);have HC:=lH hc;clear hc;go_wp2_with fail
        refine(Uc.out _ (ja _ _)).mono ?_;rintro e w1 ⟨x,rfl,r,kk⟩;have KW:=lH (HK.out.trans ((ja _ _).trans kk));clear r kk;go_wp2_with fail
        refine(jap _ _ _ HC.out).mono ?_;rintro e w2 ⟨rfl,rfl⟩;go_wp2;exact⟨rfl,Jl.bad HX.out HC.out (Vc.out.trans KW.out)⟩
    · have HE:=lH (show Js l []=(0,acc) by rw[←hrest,List.drop_of_length_le (by rw[HL.out];omega)];rfl);clear hrest hK hv;go_wp2;go_ret;exact Jl.good HE.out HV.out (Vc.out.trans HK.out)
theorem jnJ {v v':Value} {l l':Vec.V} {w:World} (h:Vec.Reads w v l) (h':Vec.Reads w v' l'):Calls Tryz.prog 230 #[v,v'] w (Vec.Xc (Vec.jj Vec.zo l l') w):=by
 obtain⟨a,cap,rfl,h1,h2,hr⟩:=h;obtain⟨a',cap',rfl,h1',h2',hr'⟩:=h';exact Vec.jnc a a' _ cap _ cap' l l' w hr hr' h1 h2 h1' h2'
theorem qk (a a8 a9:Option Addr) (len cap m8 c8 m9 c9:Nat) (l:List Nod) (x:ByteArray) (w:World) (hr:jo w a len l) (hlow:∀n ∈ l,zP n) (hf:jl l x=none) :
 Calls Tryz.prog 93 #[.agg #[.slice a len cap,.slice a8 m8 c8,.slice a9 m9 c9],.string x] w fun e w'=>e=.panicked [zx 3]∧Kept w w':=by
 refine(jc5 a a8 a9 len cap m8 c8 m9 c9 l x w hr hlow).mono ?_;rintro e w' ⟨-,h,k⟩;exact⟨h hf,k⟩
theorem ZH (a a8 a9:Option Addr) (len cap m8 c8 m9 c9:Nat) (l:List Nod) (x:ByteArray) (n:Nod) (w:World) (hr:jo w a len l) (hlow:∀n ∈ l,zP n) (hf:jl l x=some n) :
 Calls Tryz.prog 93 #[.agg #[.slice a len cap,.slice a8 m8 c8,.slice a9 m9 c9],.string x] w fun e w'=>∃b1 n1 d1 b2 n2 d2 b3 n3 d3,e=.returned (.agg #[.string n.name,.slice b1 n1 d1,.slice b2 n2 d2,.slice b3 n3 d3,.bool n.cordon])∧zr w' (.slice b1 n1 d1) (.slice b2 n2 d2) (.slice b3 n3 d3) n∧Kept w w':=by
 refine(jc5 a a8 a9 len cap m8 c8 m9 c9 l x w hr hlow).mono ?_;rintro e w' ⟨h,-,k⟩;obtain⟨v,rfl,b1,n1,d1,b2,n2,d2,b3,n3,d3,rfl,s0,s1,s2,s3,-⟩:=h n hf;exact⟨b1,n1,d1,b2,n2,d2,b3,n3,d3,rfl,⟨s0,s1,s2,s3⟩,k⟩
theorem Jl.ok {m:Vec.V} {w w':World} {e:Ending} {r:Int×Vec.V} (h:Jl r w e w') (hr:r=(0,m)):∃v,e=.returned v∧Vec.jT 100 w' w.heap.size v m∧Kept w w':=by
 subst hr;obtain⟨v,rfl,g⟩:=h.1 rfl;exact⟨v,rfl,g,h.2.2⟩
theorem Jl.not {m:Vec.V} {c:Int} {w w':World} {e:Ending} {r:Int×Vec.V} (h:Jl r w e w') (hr:r=(c,m)) (hc:c≠0):e=.panicked [zx c]∧Kept w w':=by
 subst hr;exact⟨h.2.1 hc,h.2.2⟩
theorem jg5 (C:Addr×Addr) (r:Int×Vec.V) (w:World) (hr:r.1≠0→r.2=[])
 (hk:∀W,Kept w W→Calls Tryz.prog 215 #[.pointer (some C.1),.pointer (some C.2)] W (Jl r W)) :
 Calls Tryz.prog 211 #[.func (.func 215) #[] #[.pointer (some C.1),.pointer (some C.2)]] w (Vec.Xc r w):=by
 have hmf:=hmfL (P:=Tryz.prog);have HK:=lH hk;have HR:=lH hr;clear hk hr;obtain⟨r1,r2⟩:=r;go_enter_defers Tryz.func211,Tryz.ntmps211
 go_wp2_with fail
 refine(HK.out _ (ja _ _)).mono ?_;rintro e1 w1 ⟨h0,h1,hb⟩;have k1:=hb.size;simp only[World.size_alloc] at k1;have c2:=(hb.cell (p:=⟨w.heap.size,0,none⟩) (by simp))
 have z2:=(hb.frozen (p:=⟨w.heap.size,0,none⟩) (by simp))
 have e2':w1.cell? ⟨w.heap.size,0,none⟩=some (.int .i64 0):=by rw[c2];go_simp
 have y2:w1.frozen? ⟨w.heap.size,0,none⟩=false:=by rw[z2];go_simp
 clear c2 z2;have KB:=lH (show Below w.heap.size w w1 from(ja w _).trans hb);by_cases hx:r1=0
 · subst hx;obtain⟨v,rfl,ho⟩:=h0 rfl;have HO:=lH ho;obtain⟨av,cv,rfl,_,_,_⟩:=ho.at_;have hsz:=World.size_alloc w (.cells #[.int .i64 0] 45);clear h0 h1 hb ho;go_wp2_with fail
   refine leaves_cons (f:=240) (args:=#[.pointer (some ⟨w.heap.size,0,none⟩)]) (by simp) (by simp[go_sem]) ?_;refine(Vec.Yq ⟨w.heap.size,0,none⟩ _).mono ?_;rintro e u' w'' ⟨rfl,rfl,rfl⟩;simp[Leaves,settle,results,Tryz.results211,go_sem,e2'];exact⟨_,rfl,(HO.out.setCell_below (a:=⟨w.heap.size,0,none⟩) (by simp) _).base_le (by simp),KB.out.setCell (p:=⟨w.heap.size,0,none⟩) (Nat.le_refl _) _⟩
 · obtain rfl:=h1 hx;obtain rfl:=HR.out hx;clear h0 h1 hb;go_wp2_with fail
   refine leaves_cons (f:=240) (args:=#[.pointer (some ⟨w.heap.size,0,none⟩)]) (by simp) (by simp[go_sem]) ?_;refine(Vec.JX w.heap.size w.heap.size r1 0 _ e2' y2 (by omega)).mono ?_;rintro e u' w'' ⟨rfl,rfl,q2,q3⟩;simp[Leaves,settle,results,Tryz.results211,go_sem,q2];exact⟨_,rfl,Vec.jT.nil _ _ _,KB.out.trans q3⟩
theorem jgR (C:Addr×Addr) (r:Int×Vec.V) (w:World) (hr:r.1≠0→r.2=[])
 (hk:∀W,Kept w W→Calls Tryz.prog 229 #[.pointer (some C.1),.pointer (some C.2)] W (Jl r W)) :
 Calls Tryz.prog 211 #[.func (.func 229) #[] #[.pointer (some C.1),.pointer (some C.2)]] w (Vec.Xc r w):=by
 have hmf:=hmfL (P:=Tryz.prog);have HK:=lH hk;have HR:=lH hr;clear hk hr;obtain⟨r1,r2⟩:=r;go_enter_defers Tryz.func211,Tryz.ntmps211
 go_wp2_with fail
 refine(HK.out _ (ja _ _)).mono ?_;rintro e1 w1 ⟨h0,h1,hb⟩;have k1:=hb.size;simp only[World.size_alloc] at k1;have c2:=(hb.cell (p:=⟨w.heap.size,0,none⟩) (by simp))
 have z2:=(hb.frozen (p:=⟨w.heap.size,0,none⟩) (by simp))
 have e2':w1.cell? ⟨w.heap.size,0,none⟩=some (.int .i64 0):=by rw[c2];go_simp
 have y2:w1.frozen? ⟨w.heap.size,0,none⟩=false:=by rw[z2];go_simp
 clear c2 z2;have KB:=lH (show Below w.heap.size w w1 from(ja w _).trans hb);by_cases hx:r1=0
 · subst hx;obtain⟨v,rfl,ho⟩:=h0 rfl;have HO:=lH ho;obtain⟨av,cv,rfl,_,_,_⟩:=ho.at_;have hsz:=World.size_alloc w (.cells #[.int .i64 0] 45);clear h0 h1 hb ho;go_wp2_with fail
   refine leaves_cons (f:=240) (args:=#[.pointer (some ⟨w.heap.size,0,none⟩)]) (by simp) (by simp[go_sem]) ?_;refine(Vec.Yq ⟨w.heap.size,0,none⟩ _).mono ?_;rintro e u' w'' ⟨rfl,rfl,rfl⟩;simp[Leaves,settle,results,Tryz.results211,go_sem,e2'];exact⟨_,rfl,(HO.out.setCell_below (a:=⟨w.heap.size,0,none⟩) (by simp) _).base_le (by simp),KB.out.setCell (p:=⟨w.heap.size,0,none⟩) (Nat.le_refl _) _⟩
 · obtain rfl:=h1 hx;obtain rfl:=HR.out hx;clear h0 h1 hb;go_wp2_with fail
   refine leaves_cons (f:=240) (args:=#[.pointer (some ⟨w.heap.size,0,none⟩)]) (by simp) (by simp[go_sem]) ?_;refine(Vec.JX w.heap.size w.heap.size r1 0 _ e2' y2 (by omega)).mono ?_;rintro e u' w'' ⟨rfl,rfl,q2,q3⟩;simp[Leaves,settle,results,Tryz.results211,go_sem,q2];exact⟨_,rfl,Vec.jT.nil _ _ _,KB.out.trans q3⟩
def Yy (nl:List Nod) (pl:List Pd) (x:ByteArray):Int×Vec.V:=match jl nl x with | none=>(3,[]) | some n=>jJ n.name pl []
def ZK (nl:List Nod) (pl:List Pd) (x:ByteArray):Int×Vec.V:=match jl nl x with | none=>(3,[]) | some n=>if (jJ n.name pl []).1=0 then Vec.jj Vec.zo n.cap (jJ n.name pl []).2 else ((jJ n.name pl []).1,[])
theorem jib {nl:List Nod} {pl:List Pd} {x:ByteArray} (h:jl nl x=none):Yy nl pl x=(3,[]):=by unfold Yy;rw[h]
theorem jcu {nl:List Nod} {pl:List Pd} {x:ByteArray} {n:Nod} (h:jl nl x=some n):Yy nl pl x=jJ n.name pl []:=by unfold Yy;rw[h]
theorem jiR {nl:List Nod} {pl:List Pd} {x:ByteArray} (h:jl nl x=none):ZK nl pl x=(3,[]):=by unfold ZK;rw[h]
theorem jjE {nl:List Nod} {pl:List Pd} {x:ByteArray} {n:Nod} {c:Int} {m:Vec.V} (h:jl nl x=some n) (g:jJ n.name pl []=(c,m)) (hc:c≠0):ZK nl pl x=(c,[]):=by unfold ZK;rw[h];show (if (jJ n.name pl []).1=0 then _ else ((jJ n.name pl []).1,[]))=_;rw[g,if_neg hc]
theorem jlg {nl:List Nod} {pl:List Pd} {x:ByteArray} {n:Nod} {m:Vec.V} (h:jl nl x=some n) (g:jJ n.name pl []=(0,m)):ZK nl pl x=Vec.jj Vec.zo n.cap m:=by unfold ZK;rw[h];show (if (jJ n.name pl []).1=0 then Vec.jj Vec.zo n.cap (jJ n.name pl []).2 else _)=_;rw[g,if_pos rfl]
theorem jic {nl:List Nod} {pl:List Pd} {x:ByteArray}:(Yy nl pl x).1≠0→(Yy nl pl x).2=[]:=by
 unfold Yy;split
 · exact fun _=>rfl
 · exact jbi
theorem jjc {nl:List Nod} {pl:List Pd} {x:ByteArray}:(ZK nl pl x).1≠0→(ZK nl pl x).2=[]:=by
 unfold ZK;split
 · exact fun _=>rfl
 · split
   · exact Vec.X6 _ _
   · exact fun _=>rfl
theorem jiY (a b d:Option Addr) (len cap m c n e:Nat) (nl:List Nod) (pl:List Pd) (p q:Nat) (x:ByteArray) (w:World) (h0:w.cell? ⟨p,0,none⟩=some (.slice a len cap)) (h1:w.cell? ⟨p,1,none⟩=some (.slice b m c)) (h2:w.cell? ⟨p,2,none⟩=some (.slice d n e)) (hq:w.cell? ⟨q,0,none⟩=some (.string x)) (hn:jo w a len nl) (hp:jy w b m pl) (hlow:∀n ∈ nl,zP n) :
 Calls Tryz.prog 215 #[.pointer (some ⟨p,0,none⟩),.pointer (some ⟨q,0,none⟩)] w (Jl (Yy nl pl x) w):=by
 obtain⟨HS,HN,HP,Vo⟩:=lH4 (show ∀W,Kept w W→W.cell? ⟨p,0,none⟩=some (.slice a len cap)∧W.cell? ⟨p,1,none⟩=some (.slice b m c)∧W.cell? ⟨p,2,none⟩=some (.slice d n e)∧W.cell? ⟨q,0,none⟩=some (.string x) from fun W k=>⟨cell_later k h0,cell_later k h1,cell_later k h2,cell_later k hq⟩) hn hp hlow;clear h0 h1 h2 hq hn hp hlow
 cases hf:jl nl x with
 | none =>
  have HE:=lH (jib (pl:=pl) hf);have HF:=lH hf;clear hf;go_enter Tryz.func215,Tryz.ntmps215;go_wp2;refine wp_region_held_drew (S:=fun W=>W.cell? ⟨p,0,none⟩=some (.slice a len cap)∧W.cell? ⟨p,1,none⟩=some (.slice b m c)∧W.cell? ⟨p,2,none⟩=some (.slice d n e)∧W.cell? ⟨q,0,none⟩=some (.string x)) (by kernel_rfl) (HS.out _ (Kept.drew _)) (fun hHeld=>?_);refine tkI 0 ?_;refine tkI 1 ?_;refine tkI 2 ?_;try simp only[nP]
  refine rd1 3 fun K9 Ky=>?_;go_simp;refine(qk a b d len cap m c n e nl x _ (HN.out.kept (Kept.drew _)) Vo.out HF.out).mono ?_;rintro e1 w1 ⟨rfl,kk⟩;exact⟨rfl,Jl.bad HE.out (by decide) ((Kept.drew _).trans kk)⟩
 | some n9 =>
  obtain⟨c9,m9,hu⟩:∃c m,jJ n9.name pl []=(c,m):=⟨_,_,rfl⟩
  have HU:=lH hu;have HF:=lH hf;clear hf hu;by_cases hc:c9=0
  · subst hc;have HE:=lH ((jcu (pl:=pl) HF.out).trans HU.out);go_enter Tryz.func215,Tryz.ntmps215;go_wp2;refine wp_region_held_drew (S:=fun W=>W.cell? ⟨p,0,none⟩=some (.slice a len cap)∧W.cell? ⟨p,1,none⟩=some (.slice b m c)∧W.cell? ⟨p,2,none⟩=some (.slice d n e)∧W.cell? ⟨q,0,none⟩=some (.string x)) (by kernel_rfl) (HS.out _ (Kept.drew _)) (fun hHeld=>?_);refine tkI 0 ?_;refine tkI 1 ?_;refine tkI 2 ?_;try simp only[nP]
    refine rd1 3 fun K9 Ky=>?_;go_simp;refine(ZH a b d len cap m c n e nl x n9 _ (HN.out.kept (Kept.drew _)) Vo.out HF.out).mono ?_;rintro e1 w1 ⟨b1,n1,d1,b2,n2,d2,b3,n3,d3,rfl,hat,kk⟩;have J1:=lH ((Kept.drew _).trans kk);clear kk hat;refine Ky.out _ _ (HS.out _ J1.out) (fun _=>?_);clear Ky K9;try simp only[nP]
    refine rd1 4 fun K9 Ky=>?_;go_simp;refine((Y9 b a d b1 b2 b3 m c len cap n e n1 d1 n2 d2 n3 d3 n9.name n9.cordon pl _ (HP.out.kept J1.out)).mono fun _ _ h=>h.ok HU.out).mono ?_;rintro e2 w2 ⟨v,rfl,ho,kk⟩;have J2:=lH (J1.out.trans kk);have HO:=lH (ho.base_le J1.out.size);clear kk ho;refine Ky.out _ _ (HS.out _ J2.out) (fun _=>?_);clear Ky K9;try simp only[nP]
    refine tkI 5 ?_;try simp only[nP]
    refine wpAnyH_done (by kernel_rfl) ?_ _;go_wp2;go_ret;exact Jl.good HE.out HO.out J2.out
  · have HE:=lH (show Yy nl pl x=(c9,m9) from(jcu (pl:=pl) HF.out).trans HU.out);have HC:=lH hc;clear hc;go_enter Tryz.func215,Tryz.ntmps215;go_wp2;refine wp_region_held_drew (S:=fun W=>W.cell? ⟨p,0,none⟩=some (.slice a len cap)∧W.cell? ⟨p,1,none⟩=some (.slice b m c)∧W.cell? ⟨p,2,none⟩=some (.slice d n e)∧W.cell? ⟨q,0,none⟩=some (.string x)) (by kernel_rfl) (HS.out _ (Kept.drew _)) (fun hHeld=>?_);refine tkI 0 ?_;refine tkI 1 ?_;refine tkI 2 ?_;try simp only[nP]
    refine rd1 3 fun K9 Ky=>?_;go_simp;refine(ZH a b d len cap m c n e nl x n9 _ (HN.out.kept (Kept.drew _)) Vo.out HF.out).mono ?_;rintro e1 w1 ⟨b1,n1,d1,b2,n2,d2,b3,n3,d3,rfl,hat,kk⟩;have J1:=lH ((Kept.drew _).trans kk);clear kk hat;refine Ky.out _ _ (HS.out _ J1.out) (fun _=>?_);clear Ky K9;try simp only[nP]
    refine rd1 4 fun K9 Ky=>?_;go_simp;refine((Y9 b a d b1 b2 b3 m c len cap n e n1 d1 n2 d2 n3 d3 n9.name n9.cordon pl _ (HP.out.kept J1.out)).mono fun _ _ h=>h.not HU.out HC.out).mono ?_;rintro e2 w2 ⟨rfl,kk⟩;exact⟨rfl,Jl.bad HE.out HC.out (J1.out.trans kk)⟩
theorem jh2 (a b d:Option Addr) (len cap m c n e:Nat) (nl:List Nod) (pl:List Pd) (p q:Nat) (x:ByteArray) (w:World) (h0:w.cell? ⟨p,0,none⟩=some (.slice a len cap)) (h1:w.cell? ⟨p,1,none⟩=some (.slice b m c)) (h2:w.cell? ⟨p,2,none⟩=some (.slice d n e)) (hq:w.cell? ⟨q,0,none⟩=some (.string x)) (hn:jo w a len nl) (hp:jy w b m pl) (hlow:∀n ∈ nl,zP n) :
 Calls Tryz.prog 229 #[.pointer (some ⟨p,0,none⟩),.pointer (some ⟨q,0,none⟩)] w (Jl (ZK nl pl x) w):=by
 obtain⟨HS,HN,HP,Vo⟩:=lH4 (show ∀W,Kept w W→W.cell? ⟨p,0,none⟩=some (.slice a len cap)∧W.cell? ⟨p,1,none⟩=some (.slice b m c)∧W.cell? ⟨p,2,none⟩=some (.slice d n e) from fun W k=>⟨cell_later k h0,cell_later k h1,cell_later k h2⟩) hn hp hlow;clear hn hp hlow
 cases hf:jl nl x with
 | none =>
  have HE:=lH (jiR (pl:=pl) hf);have HF:=lH hf;clear hf;go_enter Tryz.func229,Tryz.ntmps229;go_wp2_with fail
  refine(qk a b d len cap m c n e nl x _ HN.out Vo.out HF.out).mono ?_;rintro e1 w1 ⟨rfl,kk⟩;go_wp2;exact⟨rfl,Jl.bad HE.out (by decide) kk⟩
 | some n9 =>
  obtain⟨c9,m9,hu⟩:∃c m,jJ n9.name pl []=(c,m):=⟨_,_,rfl⟩
  have HU:=lH hu;have HF:=lH hf;clear hf hu;by_cases hc:c9=0
  · subst hc;obtain⟨c8,m8,hs⟩:∃c m,Vec.jj Vec.zo n9.cap m9=(c,m):=⟨_,_,rfl⟩
    have HM:=lH hs;have HE:=lH (show ZK nl pl x=(c8,m8) from(jlg HF.out HU.out).trans hs);clear hs;by_cases hc:c8=0
    · subst hc;go_enter Tryz.func229,Tryz.ntmps229;go_wp2_with fail
      refine(ZH a b d len cap m c n e nl x n9 _ HN.out Vo.out HF.out).mono ?_;rintro e1 w1 ⟨b1,n1,d1,b2,n2,d2,b3,n3,d3,rfl,hat,kk⟩;have HA:=lH hat;obtain⟨z0,hz0⟩:=eX (n9.name)
      obtain⟨z4,hz4⟩:=eX (n9.cordon)
      rw[hz0,hz4];rw[hz0] at HU;obtain⟨W1,hW1⟩:=eX (w1.alloc (.cells #[.string z0,.slice b1 n1 d1,.slice b2 n2 d2,.slice b3 n3 d3,.bool z4] 57))
      have hk1:Kept w1 W1:=by rw[←hW1];exact ja _ _
      obtain⟨HB,J0,TY⟩:=lH3 (fun W (k:Kept W1 W)=>jc w1 (.string z0) [.slice b1 n1 d1,.slice b2 n2 d2,.slice b3 n3 d3,.bool z4] 57 W (by rw[hW1];exact k)) (kk.trans hk1) (fun W (k:Kept W1 W)=>HA.out.kept (hk1.trans k));clear kk hat hk1 h0 h1 h2;go_wp2_with fail
      try rw[hW1]
      clear hW1;have HT:=lH (show ∀W,Kept W1 W→W.cell? ⟨p,0,none⟩=some (.slice a len cap)∧W.cell? ⟨p,1,none⟩=some (.slice b m c)∧W.cell? ⟨p,2,none⟩=some (.slice d n e)∧W.cell? ⟨w1.heap.size,0,none⟩=some (.string z0)∧W.cell? ⟨w1.heap.size,1,none⟩=some (.slice b1 n1 d1)∧W.cell? ⟨w1.heap.size,2,none⟩=some (.slice b2 n2 d2)∧W.cell? ⟨w1.heap.size,3,none⟩=some (.slice b3 n3 d3)∧W.cell? ⟨w1.heap.size,4,none⟩=some (.bool z4) from fun W k=>by
       obtain⟨o0,o1,o2⟩:=HS.out W (J0.out.trans k);have c:=HB.out W k;exact⟨o0,o1,o2,c.at_ 0 _ rfl,c.at_ 1 _ rfl,c.at_ 2 _ rfl,c.at_ 3 _ rfl,c.at_ 4 _ rfl⟩)
      refine wp_region_held_drew (S:=fun W=>W.cell? ⟨p,0,none⟩=some (.slice a len cap)∧W.cell? ⟨p,1,none⟩=some (.slice b m c)∧W.cell? ⟨p,2,none⟩=some (.slice d n e)∧W.cell? ⟨w1.heap.size,0,none⟩=some (.string z0)∧W.cell? ⟨w1.heap.size,1,none⟩=some (.slice b1 n1 d1)∧W.cell? ⟨w1.heap.size,2,none⟩=some (.slice b2 n2 d2)∧W.cell? ⟨w1.heap.size,3,none⟩=some (.slice b3 n3 d3)∧W.cell? ⟨w1.heap.size,4,none⟩=some (.bool z4)) (by kernel_rfl) (HT.out _ (Kept.drew _)) (fun hHeld=>?_);refine tkI 0 ?_;refine tkI 1 ?_;refine tkI 2 ?_;refine tkI 3 ?_;try simp only[nP]
      refine rd1 4 fun K9 Ky=>?_;go_simp;refine((Y9 b a d b1 b2 b3 m c len cap n e n1 d1 n2 d2 n3 d3 z0 z4 pl _ (HP.out.kept (J0.out.trans (Kept.drew _)))).mono fun _ _ h=>h.ok HU.out).mono ?_;rintro e2 w2 ⟨v,rfl,ho,kk⟩;have J2:=lH ((Kept.drew _).trans kk);have HO:=lH ho;clear kk ho;refine Ky.out _ _ (HT.out _ J2.out) (fun _=>?_);clear Ky K9;try simp only[nP]
      refine rd1 5 fun K9 Ky=>?_;go_simp;have Vw:=jnJ (TY.out _ J2.out).cap HO.out.reads;rw[HM.out] at Vw;refine Vw.mono ?_;rintro e3 w3 ⟨x3,rfl,ho3,kk⟩;have J3:=lH (J2.out.trans kk);have RQ:=lH (ho3.base_le (show w.heap.size≤_ from(J0.out.trans J2.out).size));clear kk ho3;refine Ky.out _ _ (HT.out _ J3.out) (fun _=>?_);clear Ky K9;try simp only[nP]
      refine tkI 6 ?_;refine tkI 7 ?_;try simp only[nP]
      refine rd1 8 fun K9 Ky=>?_;go_simp;refine(jbo _ _).mono ?_;rintro e4 w4 ⟨rfl,rfl⟩;refine Ky.out _ _ (HT.out _ J3.out) (fun _=>?_);clear Ky K9;try simp only[nP]
      refine tkI 9 ?_;try simp only[nP]
      refine wpAnyH_done (by kernel_rfl) ?_ _;go_wp2;go_ret;exact Jl.good HE.out RQ.out (J0.out.trans J3.out)
    · have HC:=lH hc;clear hc;go_enter Tryz.func229,Tryz.ntmps229;go_wp2_with fail
      refine(ZH a b d len cap m c n e nl x n9 _ HN.out Vo.out HF.out).mono ?_;rintro e1 w1 ⟨b1,n1,d1,b2,n2,d2,b3,n3,d3,rfl,hat,kk⟩;have HA:=lH hat;obtain⟨z0,hz0⟩:=eX (n9.name)
      obtain⟨z4,hz4⟩:=eX (n9.cordon)
      rw[hz0,hz4];rw[hz0] at HU;obtain⟨W1,hW1⟩:=eX (w1.alloc (.cells #[.string z0,.slice b1 n1 d1,.slice b2 n2 d2,.slice b3 n3 d3,.bool z4] 57))
      have hk1:Kept w1 W1:=by rw[←hW1];exact ja _ _
      obtain⟨HB,J0,TY⟩:=lH3 (fun W (k:Kept W1 W)=>jc w1 (.string z0) [.slice b1 n1 d1,.slice b2 n2 d2,.slice b3 n3 d3,.bool z4] 57 W (by rw[hW1];exact k)) (kk.trans hk1) (fun W (k:Kept W1 W)=>HA.out.kept (hk1.trans k));clear kk hat hk1 h0 h1 h2;go_wp2_with fail
      try rw[hW1]
      clear hW1;have HT:=lH (show ∀W,Kept W1 W→W.cell? ⟨p,0,none⟩=some (.slice a len cap)∧W.cell? ⟨p,1,none⟩=some (.slice b m c)∧W.cell? ⟨p,2,none⟩=some (.slice d n e)∧W.cell? ⟨w1.heap.size,0,none⟩=some (.string z0)∧W.cell? ⟨w1.heap.size,1,none⟩=some (.slice b1 n1 d1)∧W.cell? ⟨w1.heap.size,2,none⟩=some (.slice b2 n2 d2)∧W.cell? ⟨w1.heap.size,3,none⟩=some (.slice b3 n3 d3)∧W.cell? ⟨w1.heap.size,4,none⟩=some (.bool z4) from fun W k=>by
       obtain⟨o0,o1,o2⟩:=HS.out W (J0.out.trans k);have c:=HB.out W k;exact⟨o0,o1,o2,c.at_ 0 _ rfl,c.at_ 1 _ rfl,c.at_ 2 _ rfl,c.at_ 3 _ rfl,c.at_ 4 _ rfl⟩)
      refine wp_region_held_drew (S:=fun W=>W.cell? ⟨p,0,none⟩=some (.slice a len cap)∧W.cell? ⟨p,1,none⟩=some (.slice b m c)∧W.cell? ⟨p,2,none⟩=some (.slice d n e)∧W.cell? ⟨w1.heap.size,0,none⟩=some (.string z0)∧W.cell? ⟨w1.heap.size,1,none⟩=some (.slice b1 n1 d1)∧W.cell? ⟨w1.heap.size,2,none⟩=some (.slice b2 n2 d2)∧W.cell? ⟨w1.heap.size,3,none⟩=some (.slice b3 n3 d3)∧W.cell? ⟨w1.heap.size,4,none⟩=some (.bool z4)) (by kernel_rfl) (HT.out _ (Kept.drew _)) (fun hHeld=>?_);refine tkI 0 ?_;refine tkI 1 ?_;refine tkI 2 ?_;refine tkI 3 ?_;try simp only[nP]
      refine rd1 4 fun K9 Ky=>?_;go_simp;refine((Y9 b a d b1 b2 b3 m c len cap n e n1 d1 n2 d2 n3 d3 z0 z4 pl _ (HP.out.kept (J0.out.trans (Kept.drew _)))).mono fun _ _ h=>h.ok HU.out).mono ?_;rintro e2 w2 ⟨v,rfl,ho,kk⟩;have J2:=lH ((Kept.drew _).trans kk);have HO:=lH ho;clear kk ho;refine Ky.out _ _ (HT.out _ J2.out) (fun _=>?_);clear Ky K9;try simp only[nP]
      refine rd1 5 fun K9 Ky=>?_;go_simp;have Vw:=jnJ (TY.out _ J2.out).cap HO.out.reads;rw[HM.out] at Vw;refine Vw.mono ?_;rintro e3 w3 ⟨x3,rfl,ho3,kk⟩;have J3:=lH (J2.out.trans kk);have RQ:=lH (ho3.base_le (show w.heap.size≤_ from(J0.out.trans J2.out).size));clear kk ho3;refine Ky.out _ _ (HT.out _ J3.out) (fun _=>?_);clear Ky K9;try simp only[nP]
      refine tkI 6 ?_;refine tkI 7 ?_;try simp only[nP]
      refine rd1 8 fun K9 Ky=>?_;go_simp;refine(jap _ _ _ HC.out).mono ?_;rintro e4 w4 ⟨rfl,rfl⟩;exact⟨rfl,Jl.bad HE.out HC.out (J0.out.trans J3.out)⟩
  · have HE:=lH (jjE (pl:=pl) HF.out HU.out hc);have HC:=lH hc;clear hc;go_enter Tryz.func229,Tryz.ntmps229;go_wp2_with fail
    refine(ZH a b d len cap m c n e nl x n9 _ HN.out Vo.out HF.out).mono ?_;rintro e1 w1 ⟨b1,n1,d1,b2,n2,d2,b3,n3,d3,rfl,hat,kk⟩;have HA:=lH hat;obtain⟨z0,hz0⟩:=eX (n9.name)
    obtain⟨z4,hz4⟩:=eX (n9.cordon)
    rw[hz0,hz4];rw[hz0] at HU;obtain⟨W1,hW1⟩:=eX (w1.alloc (.cells #[.string z0,.slice b1 n1 d1,.slice b2 n2 d2,.slice b3 n3 d3,.bool z4] 57))
    have hk1:Kept w1 W1:=by rw[←hW1];exact ja _ _
    obtain⟨HB,J0,TY⟩:=lH3 (fun W (k:Kept W1 W)=>jc w1 (.string z0) [.slice b1 n1 d1,.slice b2 n2 d2,.slice b3 n3 d3,.bool z4] 57 W (by rw[hW1];exact k)) (kk.trans hk1) (fun W (k:Kept W1 W)=>HA.out.kept (hk1.trans k));clear kk hat hk1 h0 h1 h2;go_wp2_with fail
    try rw[hW1]
    clear hW1;have HT:=lH (show ∀W,Kept W1 W→W.cell? ⟨p,0,none⟩=some (.slice a len cap)∧W.cell? ⟨p,1,none⟩=some (.slice b m c)∧W.cell? ⟨p,2,none⟩=some (.slice d n e)∧W.cell? ⟨w1.heap.size,0,none⟩=some (.string z0)∧W.cell? ⟨w1.heap.size,1,none⟩=some (.slice b1 n1 d1)∧W.cell? ⟨w1.heap.size,2,none⟩=some (.slice b2 n2 d2)∧W.cell? ⟨w1.heap.size,3,none⟩=some (.slice b3 n3 d3)∧W.cell? ⟨w1.heap.size,4,none⟩=some (.bool z4) from fun W k=>by
     obtain⟨o0,o1,o2⟩:=HS.out W (J0.out.trans k);have c:=HB.out W k;exact⟨o0,o1,o2,c.at_ 0 _ rfl,c.at_ 1 _ rfl,c.at_ 2 _ rfl,c.at_ 3 _ rfl,c.at_ 4 _ rfl⟩)
    refine wp_region_held_drew (S:=fun W=>W.cell? ⟨p,0,none⟩=some (.slice a len cap)∧W.cell? ⟨p,1,none⟩=some (.slice b m c)∧W.cell? ⟨p,2,none⟩=some (.slice d n e)∧W.cell? ⟨w1.heap.size,0,none⟩=some (.string z0)∧W.cell? ⟨w1.heap.size,1,none⟩=some (.slice b1 n1 d1)∧W.cell? ⟨w1.heap.size,2,none⟩=some (.slice b2 n2 d2)∧W.cell? ⟨w1.heap.size,3,none⟩=some (.slice b3 n3 d3)∧W.cell? ⟨w1.heap.size,4,none⟩=some (.bool z4)) (by kernel_rfl) (HT.out _ (Kept.drew _)) (fun hHeld=>?_);refine tkI 0 ?_;refine tkI 1 ?_;refine tkI 2 ?_;refine tkI 3 ?_;try simp only[nP]
    refine rd1 4 fun K9 Ky=>?_;go_simp;refine((Y9 b a d b1 b2 b3 m c len cap n e n1 d1 n2 d2 n3 d3 z0 z4 pl _ (HP.out.kept (J0.out.trans (Kept.drew _)))).mono fun _ _ h=>h.not HU.out HC.out).mono ?_;rintro e2 w2 ⟨rfl,kk⟩;exact⟨rfl,Jl.bad HE.out HC.out (J0.out.trans ((Kept.drew _).trans kk))⟩
theorem jjJ (a b d:Option Addr) (len cap m c n e:Nat) (nl:List Nod) (pl:List Pd) (x:ByteArray) (w:World) (hn:jo w a len nl) (hp:jy w b m pl) (hlow:∀n ∈ nl,zP n) :
 Calls Tryz.prog 165 #[.agg #[.slice a len cap,.slice b m c,.slice d n e],.string x] w (Vec.Xc (Yy nl pl x) w):=by
 have hmf:=hmfL (P:=Tryz.prog);obtain⟨Z,hZ⟩:=eX ((w.alloc (.cells #[.slice a len cap,.slice b m c,.slice d n e] 26)).alloc (.cells #[.string x] 9))
 have hkz:Kept w Z:=by rw[←hZ];exact jn _ _ _
 have hC:∀W,Kept Z W→Calls Tryz.prog 215 #[.pointer (some ⟨w.heap.size,0,none⟩),.pointer (some ⟨w.heap.size+1,0,none⟩)] W (Jl (Yy nl pl x) W):=by
  intro W k;have cc:=jc w (.slice a len cap) [.slice b m c,.slice d n e] 26 W (by have:=(ja (w.alloc (.cells #[.slice a len cap,.slice b m c,.slice d n e] 26)) (.cells #[.string x] 9));rw[hZ] at this;exact this.trans k);have dd:=jc (w.alloc (.cells #[.slice a len cap,.slice b m c,.slice d n e] 26)) (.string x) [] 9 W (by rw[hZ];exact k);rw[World.size_alloc] at dd;exact jiY a b d len cap m c n e nl pl w.heap.size (w.heap.size+1) x W (cc.at_ 0 _ rfl) (cc.at_ 1 _ rfl) (cc.at_ 2 _ rfl) (dd.at_ 0 _ rfl) (hn.kept (hkz.trans k)) (hp.kept (hkz.trans k)) hlow
 have HC:=lH hC;have Vc:=lH hkz;clear hC hn hkz hp hlow;go_enter Tryz.func165,Tryz.ntmps165;go_wp2_with fail
 try rw[hZ]
 refine(jg5 (⟨w.heap.size,0,none⟩,⟨w.heap.size+1,0,none⟩) (Yy nl pl x) _ jic HC.out).mono ?_;rintro e1 w1 ⟨v,rfl,ho,k⟩;have HO:=lH ho;have HK:=lH k;clear ho k;go_wp2;go_ret2
 exact⟨v,rfl,HO.out.base_le Vc.out.size,Vc.out.trans HK.out⟩
theorem jjq (a b d:Option Addr) (len cap m c n e:Nat) (nl:List Nod) (pl:List Pd) (x:ByteArray) (w:World) (hn:jo w a len nl) (hp:jy w b m pl) (hlow:∀n ∈ nl,zP n) :
 Calls Tryz.prog 196 #[.agg #[.slice a len cap,.slice b m c,.slice d n e],.string x] w (Vec.Xc (ZK nl pl x) w):=by
 have hmf:=hmfL (P:=Tryz.prog);obtain⟨Z,hZ⟩:=eX ((w.alloc (.cells #[.slice a len cap,.slice b m c,.slice d n e] 26)).alloc (.cells #[.string x] 9))
 have hkz:Kept w Z:=by rw[←hZ];exact jn _ _ _
 have hC:∀W,Kept Z W→Calls Tryz.prog 229 #[.pointer (some ⟨w.heap.size,0,none⟩),.pointer (some ⟨w.heap.size+1,0,none⟩)] W (Jl (ZK nl pl x) W):=by
  intro W k;have cc:=jc w (.slice a len cap) [.slice b m c,.slice d n e] 26 W (by have:=(ja (w.alloc (.cells #[.slice a len cap,.slice b m c,.slice d n e] 26)) (.cells #[.string x] 9));rw[hZ] at this;exact this.trans k);have dd:=jc (w.alloc (.cells #[.slice a len cap,.slice b m c,.slice d n e] 26)) (.string x) [] 9 W (by rw[hZ];exact k);rw[World.size_alloc] at dd;exact jh2 a b d len cap m c n e nl pl w.heap.size (w.heap.size+1) x W (cc.at_ 0 _ rfl) (cc.at_ 1 _ rfl) (cc.at_ 2 _ rfl) (dd.at_ 0 _ rfl) (hn.kept (hkz.trans k)) (hp.kept (hkz.trans k)) hlow
 have HC:=lH hC;have Vc:=lH hkz;clear hC hn hkz hp hlow;go_enter Tryz.func196,Tryz.ntmps196;go_wp2_with fail
 try rw[hZ]
 refine(jgR (⟨w.heap.size,0,none⟩,⟨w.heap.size+1,0,none⟩) (ZK nl pl x) _ jjc HC.out).mono ?_;rintro e1 w1 ⟨v,rfl,ho,k⟩;have HO:=lH ho;have HK:=lH k;clear ho k;go_wp2;go_ret2
 exact⟨v,rfl,HO.out.base_le Vc.out.size,Vc.out.trans HK.out⟩
end Go.Proofs.YtokdjfoalkmhiaaGreat
