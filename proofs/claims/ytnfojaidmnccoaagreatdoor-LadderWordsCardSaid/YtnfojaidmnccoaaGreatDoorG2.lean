/- C. -/
import Derived.Test.YtnfojaidmnccoaaGreatDoorG0
import Derived.Test.YtnfojaidmnccoaaGreatDoorG1
import Derived.Lib.ItoaLen
import Derived.Lib.AppendIntMem
import Derived.Lib.SmallJoins
import Derived.Test.YtnfojaidmnccoaaGreatDoorRows
import Derived.Stop.LaidErr
import Derived.Stop.Joined
import Derived.MakeChecks
import Derived.Deep.CutRange
set_option linter.unusedVariables false
set_option maxRecDepth 100000
set_option maxHeartbeats 25600000
namespace Go.Proofs.YtnfojaidmnccoaaGreatDoor.Vec
open Go.RowKit Go.Shelf
structure zc (w:World):Prop extends Env w where
 tab:Lib.TabIs Tryz.prog w "internal/strconv.uint64pow10" .u64 Lib.pow10Tab
theorem qq:Tryz.prog.globalNamed "internal/strconv.uint64pow10"=some 2:=by kernel_rfl
theorem zc.kept {w w':World} (h:zc w) (k:Kept w w'):zc w':=by
 refine⟨h.toEnv.kept k,Joins.tab_stays qq h.tab k (Nat.le_refl _)⟩
def jw (first:Bool):V→List UInt8
 | []=>[]
 | x::t=>(if first=true then [] else [44])++(x.1.data.toList++([61]++(Lib.itoa x.2++jw false t)))
def j0 (l:V):List UInt8:=if l=[] then [45] else jw true l
theorem J8:∀{l:V} {k:Nat},z8 l=true→k<l.length→(nm l k).size≤50
 | [],_,_,h=>absurd h (by simp)
 | x::t,0,h,_=>by
  simp only[z8,Bool.and_eq_true,decide_eq_true_eq] at h;exact h.1
 | x::t,k+1,h,hk=>by
  simp only[z8,Bool.and_eq_true,decide_eq_true_eq] at h;show (nm t k).size≤50;exact J8 h.2 (by simpa using hk)
theorem Ju (n:Int) (w:World) (hE:zc w) (h0:-9223372036854775808≤n) (h1:n≤9223372036854775807) :
 Calls Tryz.prog 62 #[.int .i64 n,.int .i64 10] w fun e w'=>e=.returned (.string (bytes (Lib.itoa n)))∧Kept w w':=by
 refine(Tryz.strconv_FormatInt_10 n h0 h1 w hE.tab).mono ?_;rintro e w' ⟨rfl,k,os,rfl⟩;exact⟨rfl,Lib.below_grow _ _ (Nat.le_refl _) _ _⟩
theorem jn (l:List UInt8):(bytes l).size=l.length:=rfl
theorem jbl (a:Option Addr) (len cap:Nat) (l:V) (w:World) (hE:zc w) (hr:jJ w a len l) (hfew:Za l=true) :
 Calls Tryz.prog 31 #[.slice a len cap] w fun e w'=>e=.returned (.string (bytes (j0 l)))∧Kept w w':=by
 have hl:=hr.1;have hf:=hr.2.2.1;unfold Za at hfew;simp only[Bool.and_eq_true,decide_eq_true_eq] at hfew;have h20:len≤20:=by omega
 rcases hr.form with h0 | ⟨b,off,rfl⟩
 · subst h0;have HE:=lH (show j0 l=[45] by rw[List.eq_nil_of_length_eq_zero hl];rfl);clear hr hl hf hfew hE;go_enter Tryz.func31,Tryz.ntmps31;go_wp2;go_ret;exact⟨by rw[HE.out];rfl,Kept.refl _⟩
 · by_cases h0:len=0
   · subst h0;have HE:=lH (show j0 l=[45] by rw[List.eq_nil_of_length_eq_zero hl];rfl);clear hr hl hf hfew hE;go_enter Tryz.func31,Tryz.ntmps31;go_wp2;go_ret;exact⟨by rw[HE.out];rfl,Kept.refl _⟩
   · have hne:((len:Int)==0)=false:=by
      have:(len:Int)≠0:=by omega
      simpa using this
     obtain⟨HV,HS,HF,HR,HL,HE⟩:=lH6 (show j0 l=jw true l by unfold j0;rw[if_neg (by intro e;rw[e] at hl;simp at hl;omega)]) (fun k (hk:k<l.length)=>J8 hfew.2 hk) hf hr hl hE;clear hr hl hf hfew hE h0;go_enter Tryz.func31,Tryz.ntmps31;go_wp2;go_loopw [11] (fun i wr=>∃(k:Nat) (acc:List UInt8),k≤len∧i=.int .i64 k∧acc++jw (decide (k=0)) (l.drop k)=jw true l∧acc.length≤k*80∧IsB w.heap.size w.heap.size acc wr∧Below w.heap.size w wr) (fun i _=>len-(intOf i).toNat)
     case atStart=>exact⟨0,[],Nat.zero_le _,rfl,rfl,Nat.le_refl _,Lib.fresh_isBuilder _ _ w,jb _ _⟩
     case round =>
      obtain⟨k,acc,hk,rfl,hrest,hacc,hI,hB⟩:=hrel;have HB:=lH hB;by_cases hlt:k<len
      · obtain⟨hb,c1,c2⟩:=(HR.out.kept hB).cells hlt;have HI:=lH (show k<l.length by rw[HL.out];exact hlt);have hs50:=HS.out k HI.out;have hq:=(HF.out k HI.out).2;have UX:=lH (Lib.itoa_length_le (qn l k) hq.1 hq.2);have Vf:=lH (show acc++(if decide (k=0)=true then [] else [44])++(nm l k).data.toList++[61]++Lib.itoa (qn l k)++jw (decide (k+1=0)) (l.drop (k+1))=jw true l by
         rw[←hrest,drop_cons HI.out];simp[jw,List.append_assoc])
        have hszn:(nm l k).data.toList.length=(nm l k).size:=by rw[Array.length_toList,ByteArray.size_data]
        have Vy:=lH hszn;obtain⟨W1,hW1⟩:=eX (wr.alloc (.cells #[.string (nm l k),.int .i64 (qn l k)] 63))
        obtain⟨I1,B1,A1⟩:=lH3 (show IsB w.heap.size w.heap.size acc W1 by rw[←hW1];exact hI.kept (jb wr _)) (show Below w.heap.size w W1 by rw[←hW1];exact hB.trans (Below.mono (jb wr _) hB.size)) (show W1.heap[wr.heap.size]?=some (.cells #[.string (nm l k),.int .i64 (qn l k)] 63 (0,0)) by rw[←hW1];exact World.alloc_heap_new wr _);have hne2:wr.heap.size≠w.heap.size:=by have:=hI.lt;omega
        have TS:=lH hW1;clear hrest hI hB hszn hW1;by_cases hk0:k=0
        · have hd:decide (0<k)=false:=by subst hk0;decide
          have Vf:=lH (show acc++(nm l k).data.toList++[61]++Lib.itoa (qn l k)++jw (decide (k+1=0)) (l.drop (k+1))=jw true l by
           have:=Vf.out;rw[decide_eq_true hk0] at this;simpa using this)
          clear hk0;go_wp2_with fail
          rw[TS.out];have a1:W1.cell? ⟨wr.heap.size,0,none⟩=some (.string (nm l k)):=by rw[Lib.cell_of_heap A1.out];rfl
          go_wp2_with fail
          refine(zu w.heap.size w.heap.size acc (nm l k) _ I1.out (by omega) B1.out.size).mono ?_;rintro e w2 ⟨rfl,i2,b2,o2⟩;obtain⟨B2,I2,A2⟩:=lH3 (B1.out.trans b2) i2 ((o2 _ _ _ hne2 A1.out).trans A1.out);clear i2 b2 o2 a1;go_wp2_with fail
          refine(zu w.heap.size w.heap.size (acc++(nm l k).data.toList) (bytes [61]) _ I2.out (by rw[List.length_append];have e1:(bytes [61]).size=1:=rfl;have e3:=Vy.out;omega) B2.out.size).mono ?_;rintro e w3 ⟨rfl,i3,b3,o3⟩;obtain⟨B3,I3,A3⟩:=lH3 (B2.out.trans b3) (show IsB w.heap.size w.heap.size (acc++(nm l k).data.toList++[61]) w3 from i3) ((o3 _ _ _ hne2 A2.out).trans A2.out);clear i3 b3 o3;have a2:w3.cell? ⟨wr.heap.size,1,none⟩=some (.int .i64 (qn l k)):=by rw[Lib.cell_of_heap A3.out];rfl
          go_wp2_with fail
          refine(Ju (qn l k) _ (HE.out.kept B3.out) hq.1 hq.2).mono ?_;rintro e w4 ⟨rfl,k4⟩;have B4:=lH (B3.out.trans (Below.mono k4 B3.out.size));have I4:=lH (I3.out.kept k4);clear k4 a2;have SZ4:=lH (show (acc++(nm l k).data.toList++[61]).length+(bytes (Lib.itoa (qn l k))).size≤140737488355328 by
           have e1:(bytes (Lib.itoa (qn l k))).size=(Lib.itoa (qn l k)).length:=jn _;have e2:=UX.out;have e3:=Vy.out;simp only[List.length_append,List.length_cons,List.length_nil];omega)
          go_wp2_with fail
          refine(zu w.heap.size w.heap.size (acc++(nm l k).data.toList++[61]) (bytes (Lib.itoa (qn l k))) _ I4.out SZ4.out B4.out.size).mono ?_;rintro e w5 ⟨rfl,i5,b5,-⟩;have B5:=lH (B4.out.trans b5);have I5:=lH (show IsB w.heap.size w.heap.size (acc++(nm l k).data.toList++[61]++Lib.itoa (qn l k)) w5 from i5);clear i5 b5;go_wp2_with fail
          go_roundw
          case rel =>
           refine⟨k+1,acc++(nm l k).data.toList++[61]++Lib.itoa (qn l k),by omega,by go_num,Vf.out,?_,I5.out,B5.out⟩;have e2:=UX.out;have e3:=Vy.out;simp only[List.length_append,List.length_cons,List.length_nil];omega
          case measure=>simp[intOf];omega
        · have hd:decide (0<k)=true:=decide_eq_true (by omega);have Vf:=lH (show acc++[44]++(nm l k).data.toList++[61]++Lib.itoa (qn l k)++jw (decide (k+1=0)) (l.drop (k+1))=jw true l by
           have:=Vf.out;rw[decide_eq_false hk0] at this;simpa using this)
          have hk0:0<k:=by omega
          go_wp2_with fail
          rw[TS.out];refine(zu w.heap.size w.heap.size acc (bytes [44]) _ I1.out (by have e1:(bytes [44]).size=1:=rfl;omega) B1.out.size).mono ?_;rintro e w0 ⟨rfl,i0,b0,o0⟩;obtain⟨B1,I1,A1⟩:=lH3 (B1.out.trans b0) (show IsB w.heap.size w.heap.size (acc++[44]) w0 from i0) ((o0 _ _ _ hne2 A1.out).trans A1.out);clear i0 b0 o0;have SZ1:=lH (show (acc++[44]).length+(nm l k).size≤140737488355328 by
           simp only[List.length_append,List.length_cons,List.length_nil];omega)
          have SZ2:=lH (show (acc++[44]++(nm l k).data.toList).length+(bytes [61]).size≤140737488355328 by
           have e1:(bytes [61]).size=1:=rfl;have e3:=Vy.out;simp only[List.length_append,List.length_cons,List.length_nil];omega)
          have a1:w0.cell? ⟨wr.heap.size,0,none⟩=some (.string (nm l k)):=by rw[Lib.cell_of_heap A1.out];rfl
          go_wp2_with fail
          refine(zu w.heap.size w.heap.size (acc++[44]) (nm l k) _ I1.out SZ1.out B1.out.size).mono ?_;rintro e w2 ⟨rfl,i2,b2,o2⟩;obtain⟨B2,I2,A2⟩:=lH3 (B1.out.trans b2) i2 ((o2 _ _ _ hne2 A1.out).trans A1.out);clear i2 b2 o2 a1;go_wp2_with fail
          refine(zu w.heap.size w.heap.size (acc++[44]++(nm l k).data.toList) (bytes [61]) _ I2.out SZ2.out B2.out.size).mono ?_;rintro e w3 ⟨rfl,i3,b3,o3⟩;obtain⟨B3,I3,A3⟩:=lH3 (B2.out.trans b3) (show IsB w.heap.size w.heap.size (acc++[44]++(nm l k).data.toList++[61]) w3 from i3) ((o3 _ _ _ hne2 A2.out).trans A2.out);clear i3 b3 o3;have a2:w3.cell? ⟨wr.heap.size,1,none⟩=some (.int .i64 (qn l k)):=by rw[Lib.cell_of_heap A3.out];rfl
          go_wp2_with fail
          refine(Ju (qn l k) _ (HE.out.kept B3.out) hq.1 hq.2).mono ?_;rintro e w4 ⟨rfl,k4⟩;have B4:=lH (B3.out.trans (Below.mono k4 B3.out.size));have I4:=lH (I3.out.kept k4);clear k4 a2;have SZ4:=lH (show (acc++[44]++(nm l k).data.toList++[61]).length+(bytes (Lib.itoa (qn l k))).size≤140737488355328 by
           have e1:(bytes (Lib.itoa (qn l k))).size=(Lib.itoa (qn l k)).length:=jn _;have e2:=UX.out;have e3:=Vy.out;simp only[List.length_append,List.length_cons,List.length_nil];omega)
          go_wp2_with fail
          refine(zu w.heap.size w.heap.size (acc++[44]++(nm l k).data.toList++[61]) (bytes (Lib.itoa (qn l k))) _ I4.out SZ4.out B4.out.size).mono ?_;rintro e w5 ⟨rfl,i5,b5,-⟩;have B5:=lH (B4.out.trans b5);have I5:=lH (show IsB w.heap.size w.heap.size (acc++[44]++(nm l k).data.toList++[61]++Lib.itoa (qn l k)) w5 from i5);clear i5 b5;go_wp2_with fail
          go_roundw
          case rel =>
           refine⟨k+1,acc++[44]++(nm l k).data.toList++[61]++Lib.itoa (qn l k),by omega,by go_num,Vf.out,?_,I5.out,B5.out⟩;have e2:=UX.out;have e3:=Vy.out;simp only[List.length_append,List.length_cons,List.length_nil];omega
          case measure=>simp[intOf];omega
      · have HD:=lH (show acc=jw true l by rw[←hrest,List.drop_of_length_le (by rw[HL.out];omega)];simp[jw]);have HI:=lH hI;clear hrest hI hB;go_wp2_with fail
        refine(Tryz.Builder_String_any w.heap.size w.heap.size acc _ HI.out HB.out.size).mono ?_;rintro e w1 ⟨rfl,hb1⟩;have Vh:=lH hb1;clear hb1;go_wp2;go_ret;exact⟨by rw[HV.out,←HD.out];rfl,HB.out.trans Vh.out⟩
open Go.RowKit
def Got (c:Int) (m:V) (w:World) (e:Ending) (w':World):Prop:=∃x,e=.returned (.tuple #[x,.int .i64 c])∧Reads w' x m∧Kept w w'
theorem Reads.nil (w:World):Reads w (.slice none 0 0) []:=⟨none,0,rfl,Nat.le_refl _,by decide,jJ.nil w⟩
theorem JJ.got {r:Int×V} {c:Int} {m:V} {w w':World} {e:Ending} (he:r=(c,m)) (h:JJ r w e w'):Got c m w e w':=by
 subst he;obtain⟨v,rfl,ho,k⟩:=h;exact⟨v,rfl,ho.at_,k⟩
theorem jcS {v:Value} {l m:V} {c n:Int} {w:World} (h:Reads w v l) (hn:-9223372036854775808≤n) (hn':n≤9223372036854775807) (e:jZ jE n l=(c,m)) :
 Calls Tryz.prog 30 #[v,.int .i64 n] w (Got c m w):=by
 obtain⟨a,cap,rfl,h1,h2,h3⟩:=h;exact(jbu a _ cap l n w h3 hn hn').mono fun _ _=>JJ.got e
theorem jcy {v:Value} {l:V} {c:Int} {w:World} (h:Reads w v l) (e:jf l=c) :
 Calls Tryz.prog 27 #[v] w fun x w'=>x=.returned (.int .i64 c)∧Kept w w':=by
 subst e;obtain⟨a,cap,rfl,h1,h2,h3⟩:=h;exact jay a _ cap l w h3
theorem jbb {v:Value} {l:V} {c:Int} {w:World} (h:Reads w v l) (e:jf l=c) :
 Calls Tryz.prog 12 #[v] w fun x w'=>x=.returned (.int .i64 c)∧Kept w w':=by
 subst e;obtain⟨a,cap,rfl,h1,h2,h3⟩:=h;exact Zl a _ cap l w h3
theorem Y5 {v:Value} {l:V} {s:List UInt8} {w:World} (hE:zc w) (h:Reads w v l) (hf:Za l=true) (e:j0 l=s) :
 Calls Tryz.prog 31 #[v] w fun x w'=>x=.returned (.string (bytes s))∧Kept w w':=by
 subst e;obtain⟨a,cap,rfl,h1,h2,h3⟩:=h;exact jbl a _ cap l w hE h3 hf
theorem jcZ {v:Value} {l:V} {n:ByteArray} {c:Int} {w:World} (h:Reads w v l) (e:j9 l n=c) :
 Calls Tryz.prog 41 #[v,.string n] w fun x w'=>x=.returned (.int .i64 c)∧Kept w w':=by
 subst e;obtain⟨a,cap,rfl,h1,h2,h3⟩:=h;exact jcc a _ cap l n w h3
theorem jcV {n:ByteArray} {c:Bool} {w:World} (h:n.size≤maxLen) (e:isName n=c) :
 Calls Tryz.prog 65 #[.string n] w fun x w'=>x=.returned (.bool c)∧w=w':=by
 subst e;exact z6 n w h
def cpu:ByteArray:=⟨#[99,112,117]⟩
def mem:ByteArray:=⟨#[109,101,109]⟩
theorem qf:(Tryz.prog.info? 74).map (fun i=>(i.zero,i.size,i.bytes))=some (some (.agg #[.string ByteArray.empty,.int .i64 0]),2,24):=by kernel_rfl
theorem YH {l:V} {k:Nat} (h:k<l.length):l.take (k+1)=l.take k++[(nm l k,qn l k)]:=by
 rw[List.take_add_one];congr 1;have:l.getD k (ByteArray.empty,0)=l[k]:=by simp[List.getD,h]
 have e:(nm l k,qn l k)=l[k]:=by simp only[nm,qn,this]
 rw[e];simp[h]
theorem jcq (a:Option Addr) (len cap:Nat) (l:V) (w:World) (hr:jJ w a len l) (hlen:len≤1000000) :
 Calls Tryz.prog 13 #[.slice a len cap] w (fun e w'=>∃x,e=.returned x∧jt 74 w' w.heap.size x l∧Kept w w'):=by
 have hl:=hr.1;obtain⟨i0,hi,hz0,hz1,hz2⟩:=info_parts qf;rcases hr.form with h0 | ⟨b,off,rfl⟩
 · subst h0;have hl0:l=[]:=List.eq_nil_of_length_eq_zero hl;subst hl0;clear hr hl hi hz0 hz1 hz2;go_enter Tryz.func13,Tryz.ntmps13;go_wp2;refine wp_loop_rounds 1 ?_;rw[rounds_succ];go_wp2;go_ret;exact⟨_,rfl,jt.nil _ _ _,Kept.refl _⟩
 · obtain⟨HR,HL,HF⟩:=lH3 hr hl hr.2.2.1;clear hr hl;go_enter Tryz.func13,Tryz.ntmps13;go_wp2;go_loopw [3,4] (fun v i wr=>∃k:Nat,k≤len∧i=.int .i64 k∧jt 74 wr w.heap.size v (l.take k)∧Below w.heap.size w wr) (fun _ i _=>len-(intOf i).toNat)
   case atStart=>exact⟨0,Nat.zero_le _,rfl,jt.nil _ _ _,Below.refl _ _⟩
   case round =>
    obtain⟨k,hk,rfl,ho,hB⟩:=hrel;obtain⟨HO,HB,HT⟩:=lH3 ho hB (show (l.take k).length=k by rw[List.length_take,HL.out];omega);have Vg:=lH (show wr.ownsRow w.heap.size 74 2 u3 k (cellsOf (l.take k)) by have:=HO.out.1;rw[HT.out] at this;exact this);by_cases hlt:k<len
    · obtain⟨hb,c1,c2⟩:=(HR.out.kept hB).cells hlt;have HI:=lH (show k<l.length by rw[HL.out];exact hlt);have hbw:b<w.heap.size:=(HR.out.cells hlt).1;have hbase:w.heap.size≤wr.heap.size:=hB.size;have TT:=lH (show u3.ownBlock≠some b by
       intro e;have:=(Vg.out.lt b e).1;omega)
      have UF:=lH (show w.heap.size≤(wr.alloc (.cells #[.string (nm l k),.int .i64 (qn l k)] 74)).drew.heap.size by simp;omega);have UY:=lH (show Below w.heap.size w ((wr.alloc (.cells #[.string (nm l k),.int .i64 (qn l k)] 74)).drew) from HB.out.trans (Below.mono ((jb wr _).trans (Kept.drewN _ 1)) hbase));have hk1:(k:Int)<(len:Int):=by omega
      have Tj:=lH (HF.out k HI.out);clear ho hB;go_wp2_with fail
      go_region_held3 (fun W=>W.cell? ⟨b,off+k*2,none⟩=some (.string (nm l k))∧W.cell? ⟨b,off+k*2+1,none⟩=some (.int .i64 (qn l k)))
       (first
         | go_keep
         | (go_split_ands
            refine⟨?_,?_⟩
            · (refine(hgrow.cell_far ⟨b,off+k*2,none⟩ (by simp;omega) (Ne.symm TT.out)).trans ?_;assumption)
            · (refine(hgrow.cell_far ⟨b,off+k*2+1,none⟩ (by simp;omega) (Ne.symm TT.out)).trans ?_;assumption)))
       ((refine step_append_lies _ (by rfl) _ _ _ (by rfl) w.heap.size 74 i0 _ 2 24 Tryz.underlying31 hi hz0 hz1 hz2 rfl (by decide) u3 k (cellsOf (l.take k)) (by rfl) ((Vg.out.alloc _).drew)
          ⟨wr.heap.size,0,none⟩ 1 1 [.string (nm l k),.int .i64 (qn l k)] (by rfl) (by rfl) (World.news_of_block (cs:=#[.string (nm l k),.int .i64 (qn l k)]) (t:=74) (fr:=(0,0)) (heap_alloc_new wr _)) (zo [(nm l k,qn l k)])
          (by decide) (by unfold maxLen;omega) (by omega) (by simp;omega) (wr.heap.size+1) (by simp) ?_;intro gg cap1 w1 hown1 hgrow hat hlt1))
      all_goals
       go_wp2;go_roundw
       case rel=>exact⟨k+1,by omega,by go_num,⟨by rw[YH HI.out,zg,List.length_append,HT.out];exact hown1,by rw[YH HI.out];exact HO.out.2.snoc Tj.out.1 Tj.out.2.1 Tj.out.2.2⟩,UY.out.grown hgrow UF.out (fun j hj=>(Vg.out.lt j hj).1)⟩
       case measure=>simp[intOf];omega
    · have HK:=lH (show l.take k=l by rw[List.take_of_length_le (by rw[HL.out];omega)]);clear ho hB;go_wp2;go_ret;exact⟨_,rfl,by have h:=HO.out;rw[HK.out] at h;exact h,HB.out⟩
theorem ZM:∀s:List UInt8,Op.bytesLess s s=false
 | []=>rfl
 | a::s=>by
  have:¬a<a:=UInt8.lt_irrefl a;simp[Op.bytesLess,ZM s,this]
theorem Yr:∀{a b c:List UInt8},Op.bytesLess a b=true→Op.bytesLess b c=true→Op.bytesLess a c=true
 | _,_,[],_,h=>by simp[Op.bytesLess] at h
 | [],_,_::_,_,_=>by simp[Op.bytesLess]
 | x::a,[],z::c,h,_=>by simp[Op.bytesLess] at h
 | x::a,y::b,z::c,h,g=>by
  simp only[Op.bytesLess,Bool.or_eq_true,Bool.and_eq_true,decide_eq_true_eq,beq_iff_eq] at h g ⊢;rcases h with h | ⟨rfl,h⟩
  · rcases g with g | ⟨rfl,g⟩
    · exact .inl (UInt8.lt_trans h g)
    · exact .inl h
  · rcases g with g | ⟨rfl,g⟩
    · exact .inl g
    · exact .inr ⟨rfl,Yr h g⟩
theorem XH:∀{a b:List UInt8},Op.bytesLess a b=false→Op.bytesLess b a=false→a=b
 | [],[],_,_=>rfl
 | [],_::_,h,_=>by simp[Op.bytesLess] at h
 | _::_,[],_,h=>by simp[Op.bytesLess] at h
 | x::a,y::b,h,g=>by
  simp only[Op.bytesLess,Bool.or_eq_false_iff,decide_eq_false_iff_not,Bool.and_eq_false_iff,beq_eq_false_iff_ne] at h g;have e:x=y:=by
   have h1:=UInt8.not_lt.1 h.1;have h2:=UInt8.not_lt.1 g.1;exact UInt8.le_antisymm h2 h1
  subst e;have h2:=h.2.resolve_left (by simp);have g2:=g.2.resolve_left (by simp);rw[XH h2 g2]
theorem jaa (s t:ByteArray):ltS s t=Op.bytesLess s.data.toList t.data.toList:=by unfold ltS;rw[Lib.toList_data,Lib.toList_data]
theorem JS {s t:ByteArray}:eqS s t=true↔s=t:=by
 unfold eqS;rw[Lib.toList_data,Lib.toList_data,beq_iff_eq];exact⟨fun h=>Go.WideShapes.bytes_inj h,fun h=>by rw[h]⟩
theorem Yk (s:ByteArray):ltS s s=false:=by rw[jaa];exact ZM _
theorem YN {s t u:ByteArray} (h:ltS s t=true) (g:ltS t u=true):ltS s u=true:=by
 rw[jaa] at *;exact Yr h g
theorem jb4 {s t:ByteArray} (h:ltS s t=false) (g:ltS t s=false):s=t:=by
 rw[jaa] at *;exact Go.WideShapes.bytes_inj (XH h g)
theorem jbK {s t:ByteArray} (h:ltS s t=true):s≠t:=by rintro rfl;rw[Yk] at h;cases h
theorem jaD {s t:ByteArray} (h:ltS s t=true) (g:ltS t s=true):False:=jbK (YN h g) rfl
def Gd (l:V):Prop:=(∀x ∈ l,isName x.1=true∧0<x.2∧x.2≤9223372036854775807)∧l.Pairwise (fun x y=>ltS x.1 y.1=true)
theorem Gd.nil:Gd []:=⟨fun x hx=>absurd hx (by simp),.nil⟩
theorem Gd.cons {x:ByteArray×Int} {t:V}:Gd (x::t)↔(isName x.1=true∧0<x.2∧x.2≤9223372036854775807)∧(∀y ∈ t,ltS x.1 y.1=true)∧Gd t:=by
 unfold Gd;rw[List.pairwise_cons,List.forall_mem_cons];constructor
 · rintro ⟨⟨a,b⟩,c,d⟩;exact⟨a,c,b,d⟩
 · rintro ⟨a,c,b,d⟩;exact⟨⟨a,b⟩,c,d⟩
theorem Xb (x:ByteArray×Int) (t:V):j9 (x::t) x.1=x.2:=by rw[j9,if_pos (JS.2 rfl)]
theorem Zx {x:ByteArray×Int} {n:ByteArray} (t:V) (h:x.1≠n):j9 (x::t) n=j9 t n:=by rw[j9,if_neg (fun e=>h (JS.1 e))]
theorem get_mem:∀{l:V} {n:ByteArray},j9 l n≠0→∃y ∈ l,y.1=n
 | [],_,h=>absurd rfl h
 | x::t,n,h=>by
  by_cases e:x.1=n
  · exact⟨x,by simp,e⟩
  · rw[Zx t e] at h;obtain⟨y,hy,hn⟩:=get_mem h;exact⟨y,by simp[hy],hn⟩
theorem Gd.len:∀{b r:V},Gd r→Gd b→(∀n,j9 r n≠0→j9 b n≠0)→r.length≤b.length
 | [],[],_,_,_=>Nat.le_refl _
 | [],x::s,hr,_,h=>by
  have:=h x.1;rw[Xb] at this;have h1:=(Gd.cons.1 hr).1;exact absurd rfl (this (by omega))
 | y::t,[],_,_,_=>Nat.zero_le _
 | y::t,x::s,hr,hb,h=>by
  have hr':=Gd.cons.1 hr;have hb':=Gd.cons.1 hb;have:s.length≤t.length:=Gd.len hr'.2.2 hb'.2.2 fun n hn=>by
   obtain⟨z,hz,rfl⟩:=get_mem hn;have hlt:=hr'.2.1 z hz;have hb2:=h z.1 (by rw[Zx s (jbK hlt)];exact hn);by_cases e:y.1=z.1
   · obtain⟨u,hu,hux⟩:=get_mem (h x.1 (by rw[Xb];omega));rcases List.mem_cons.1 hu with rfl | hu
     · rw[←hux,e,Yk] at hlt;cases hlt
     · have:=hb'.2.1 u hu;rw[hux,e] at this;exact(jaD hlt this).elim
   · rw[Zx t e] at hb2;exact hb2
  simp only[List.length_cons];omega
theorem jaP {s t:ByteArray} (h:leS s t=false):ltS t s=true:=by
 unfold leS at h;rw[Bool.or_eq_false_iff] at h
 cases e:ltS t s with
 | true=>rfl
 | false=>rw[jb4 h.1 e,JS.2 rfl] at h;cases h.2
theorem qW {l:V} (h:jf l=0) (hf:jX l):Gd l:=by
 have h2:jr none l=0:=by
  unfold jf at h;split at h
  · cases h
  · exact h
 have key:∀(l:V) (p:Option ByteArray),jr p l=0→jX l→Gd l∧(∀x,p=some x→∀y ∈ l,ltS x y.1=true):=by
  intro l
  induction l with
  | nil=>intro p _ _;exact⟨Gd.nil,fun _ _ y hy=>absurd hy (by simp)⟩
  | cons x t ih =>
   intro p hc hf;rw[jX.cons] at hf;unfold jr at hc;split at hc
   · cases hc
   · rename_i n1;split at hc
     · cases hc
     · rename_i n2;split at hc
       · cases hc
       · rename_i n3;obtain⟨hg,hall⟩:=ih _ hc hf.2;have hx:=hall x.1 rfl;refine⟨Gd.cons.2 ⟨⟨by simpa using n1,by omega,hf.1.2.2⟩,hx,hg⟩,?_⟩;rintro q rfl y hy;have hq:ltS q x.1=true:=jaP (by simpa [zI] using n3);rcases List.mem_cons.1 hy with rfl | hy
         · exact hq
         · exact YN hq (hx y hy)
 exact(key l none h2 hf).1
theorem YJ:∀l:V,jB l l=true
 | []=>rfl
 | x::t=>by rw[jB,YJ t,JS.2 rfl];simp
theorem jb5 {a b:V} (h:a=b):jB a b=true:=h▸YJ a
theorem Reads.fine {v:Value} {l:V} {w:World} (h:Reads w v l):jX l:=by
 obtain⟨a,cap,rfl,h1,h2,h3⟩:=h;exact h3.2.2.1
open Go.ChangeShapes Go.WideShapes Go.ChangeAt Go.RowKit Go.Deep
theorem jcz:Tryz.prog.cellsOf 204=1:=by kernel_rfl
theorem jcC:Tryz.prog.cellsOf 9=1:=by kernel_rfl
theorem star : "*" ++ "errors.errorString" = "*errors.errorString":=by decide
theorem jbv (u:TypeId) (h:Tryz.prog.typeName? 3 u=some "*errors.errorString"):u=202 :=
 typeName_ptr_named (nm := "errors.errorString") (by rw[star];kernel_rfl) (by kernel_rfl) (by decide) u (by rw[star];exact h)
theorem jbn:(Rows.laid_internal_strconv_uint64pow10:DataW Unit)=Lib.tabData .u64 Lib.pow10Tab:=by kernel_rfl
theorem YI:Tryz.prog.globalNamed "strconv.ErrRange"=some 9:=by kernel_rfl
theorem jaU {W:World} (hL:laidMetH Tryz.prog Rows.ladderAnyRow.laid W) (hS:W.ShapedOpen Tryz.prog):zc W:=by
 rw[MakeChecks.laidMetH_plain _ _ _ (by kernel_rfl)] at hL;have h3:laidMet Tryz.prog (("internal/strconv.uint64pow10",Rows.laid_internal_strconv_uint64pow10)::_) W:=hL.tail.tail;rw[jbn] at h3;refine⟨⟨?_,?_⟩,?_⟩
 · exact cell_of_shapedOpen_int (zero:=#[.int .i64 0]) (t:=3) hS (of_decide_eq_true (by kernel_rfl)) (by kernel_rfl) rfl (by kernel_rfl) (by kernel_rfl) Tryz.underlying3
 · have h5:laidMet Tryz.prog (("strconv.ErrRange",Rows.laid_strconv_ErrRange)::_) W:=hL.tail.tail.tail.tail;unfold Rows.laid_strconv_ErrRange at h5;obtain⟨a,s,hv,-⟩:=laid_sentinel h5 YI (by kernel_rfl) Tryz.underlying108 jbv Tryz.underlying202 Tryz.underlying204 rfl rfl Tryz.underlying9 jcz jcC;exact⟨_,by simpa using World.var?_cell YI hv 0,.inr ⟨_,_,rfl⟩⟩
 · exact Lib.tabIs_of_head qq (by kernel_rfl) Tryz.underlying170 Tryz.underlying138 (by kernel_rfl) (by kernel_rfl) h3
end Go.Proofs.YtnfojaidmnccoaaGreatDoor.Vec
namespace Go.Proofs.YtnfojaidmnccoaaGreatDoor
open Go.RowKit
structure jj (q:Nat) (vs:List Value) (W:World):Prop where
 at_:∀i v,vs[i]?=some v→W.cell? ⟨q,i,none⟩=some v
 free:∀i,W.frozen? ⟨q,i,none⟩=false
theorem jj.block {q:Nat} {vs:List Value} {W W':World} (h:jj q vs W) (e:W'.heap[q]?=W.heap[q]?):jj q vs W' :=
 ⟨fun i v hv=>(World.cell?_of_block (a:=⟨q,i,none⟩) e).trans (h.at_ i v hv),fun i=>(World.frozen?_of_block (a:=⟨q,i,none⟩) e).trans (h.free i)⟩
theorem jj.at3 {q:Nat} {a b c:Value} {r9:List Value} {W:World} (h:jj q (a::b::c::r9) W):W.cell? ⟨q,0,none⟩=some a∧W.cell? ⟨q,1,none⟩=some b∧W.cell? ⟨q,2,none⟩=some c:=⟨h.at_ 0 _ rfl,h.at_ 1 _ rfl,h.at_ 2 _ rfl⟩
theorem jj.at5 {q:Nat} {a b c d e:Value} {r9:List Value} {W:World} (h:jj q (a::b::c::d::e::r9) W):W.cell? ⟨q,0,none⟩=some a∧W.cell? ⟨q,1,none⟩=some b∧W.cell? ⟨q,2,none⟩=some c∧W.cell? ⟨q,3,none⟩=some d∧W.cell? ⟨q,4,none⟩=some e:=⟨h.at_ 0 _ rfl,h.at_ 1 _ rfl,h.at_ 2 _ rfl,h.at_ 3 _ rfl,h.at_ 4 _ rfl⟩
theorem jj.lt {q:Nat} {v:Value} {vs:List Value} {W:World} (h:jj q (v::vs) W):q<W.heap.size:=World.block_lt_of_cell? _ _ (h.at_ 0 v rfl)
theorem jj.kept {q:Nat} {v:Value} {vs:List Value} {W W':World} (h:jj q (v::vs) W) (k:Kept W W'):jj q (v::vs) W':=h.block (k.block q h.lt)
theorem jj.other {q p j:Nat} {u:Value} {vs:List Value} {W:World} (h:jj q vs W) (hp:q≠p):jj q vs (W.setCell ⟨p,j,none⟩ u):=h.block (Below.heap_setCell W ⟨p,j,none⟩ u q hp)
theorem js (w:World) (v:Value) (vs:List Value) (T:TypeId) (W:World) (k:Kept (w.alloc (.cells (v::vs).toArray T)) W):jj w.heap.size (v::vs) W:=by
 have hh:=w.alloc_heap_new (.cells (v::vs).toArray T);have h:jj w.heap.size (v::vs) (w.alloc (.cells (v::vs).toArray T)):=⟨fun i u hu=>by rw[Lib.cell_of_heap hh];simpa using hu,fun i=>by
  unfold World.frozen?;rw[show (w.alloc (.cells (v::vs).toArray T)).heap[(⟨w.heap.size,i,none⟩:Addr).block]?=some (.cells (v::vs).toArray T) from hh];simp⟩
 exact h.kept k
theorem jj.set {q j:Nat} {u:Value} {vs:List Value} {W:World} (h:jj q vs W) (hj:j<vs.length):jj q (vs.set j u) (W.setCell ⟨q,j,none⟩ u):=by
 refine⟨fun i v hv=>?_,fun i=>by rw[World.frozen?_setCell];exact h.free i⟩;by_cases e:j=i
 · subst e;have hv':v=u:=by rw[List.getElem?_set_self hj] at hv;exact(Option.some.inj hv).symm
   subst hv';exact World.cell?_setCell_same _ _ _ (h.at_ j _ (List.getElem?_eq_getElem hj))
 · rw[List.getElem?_set_ne e] at hv;rw[World.cell?_setCell_other _ _ _ _ (by simp)];exact h.at_ i v hv
theorem Zh (q:Nat):∀(vs:List Value) (o:Nat) (W:World),(W.setCells q o vs).heap.size=W.heap.size
 | [],_,_=>rfl
 | v::r,o,W=>by rw[World.setCells,Zh q r];simp[World.setCell]
theorem JW (q:Nat):∀(vs:List Value) (o:Nat) (W:World) (b:Nat),b≠q→(W.setCells q o vs).heap[b]?=W.heap[b]?
 | [],_,_,_,_=>rfl
 | v::r,o,W,b,h=>by rw[World.setCells,JW q r _ _ b h];exact Below.heap_setCell W ⟨q,o,none⟩ v b h
theorem JR (q:Nat):∀(vs:List Value) (o:Nat) (W:World) (B:Nat) (w:World),B≤q→Below B w W→Below B w (W.setCells q o vs)
 | [],_,_,_,_,_,k=>k
 | v::r,o,W,B,w,h,k=>by rw[World.setCells];exact JR q r _ _ B w h (k.setCell (p:=⟨q,o,none⟩) h _)
structure jcW (q:Nat) (vs:List Value) (W W':World):Prop where
 cells:jj q vs W'
 size:W'.heap.size=W.heap.size
 far:∀b,b≠q→W'.heap[b]?=W.heap[b]?
 below:∀B w,B≤q→Below B w W→Below B w W'
theorem zl {q:Nat} {us vs:List Value} {W:World} (h:jj q us W) (hl:us.length=vs.length):jcW q vs W (W.setCells q 0 vs):=by
 refine⟨⟨fun i v hv=>?_,fun i=>by rw[World.frozen?_setCells];exact h.free i⟩,Zh q vs 0 W,fun b hb=>JW q vs 0 W b hb,fun B w hB k=>JR q vs 0 W B w hB k⟩;have hi:i<vs.length:=(List.getElem?_eq_some_iff.1 hv).1;have:=World.cell?_setCells_in q vs 0 W (fun j hj=>by rw[Nat.zero_add,h.at_ j _ (List.getElem?_eq_getElem (by omega))];rfl) i hi;rw[Nat.zero_add] at this;rw[this];obtain⟨_,e⟩:=List.getElem?_eq_some_iff.1 hv;rw[e]
abbrev RL:Type:=List (Int×Int×Int)
def I64 (x:Int):Prop:=-9223372036854775808≤x∧x≤9223372036854775807
theorem jbX (a b c:Int) (u:Value) (h:u ∈ [Value.int .i64 a,Value.int .i64 b,Value.int .i64 c]):u.oneCell'=true:=by
 have e:u=Value.int .i64 a∨u=Value.int .i64 b∨u=Value.int .i64 c:=by simpa using h
 rcases e with e | e | e<;>rw[e]<;>rfl
def jh:Lay (Int×Int×Int):={ m:=3,cs:=fun x=>[.int .i64 x.1,.int .i64 x.2.1,.int .i64 x.2.2],fine:=fun x=>I64 x.1∧I64 x.2.1∧I64 x.2.2,len:=fun _=>rfl,one:=fun x=>jbX x.1 x.2.1 x.2.2,pos:=by decide }
theorem jT.rung {w:World} {b off len:Nat} {l:RL} {k:Nat} (h:jT jh w (some ⟨b,off,none⟩) len l) (hk:k<len) :
 ∃u c p:Int,l[k]?=some (u,c,p)∧l.drop k=(u,c,p)::l.drop (k+1)∧b<w.heap.size∧(I64 u∧I64 c∧I64 p) ∧
  w.cell? ⟨b,off+k*3,none⟩=some (.int .i64 u)∧w.cell? ⟨b,off+k*3+1,none⟩=some (.int .i64 c)∧w.cell? ⟨b,off+k*3+2,none⟩=some (.int .i64 p):=by
 obtain⟨⟨u,c,p⟩,h1,h2,h3,h4,h5⟩:=h.cells hk;exact⟨u,c,p,h1,h2,h3,h4,h5 0 _ rfl,h5 1 _ rfl,h5 2 _ rfl⟩
structure Lad where
 what:ByteArray
 unit:Vec.V
 rungs:RL
 lo:Int
 hi:Int
def Lad.zero:Lad:=⟨ByteArray.empty,[],[],0,0⟩
abbrev Ji (n:Lad) (v1 v2:Value):Value:=.agg #[.string n.what,v1,v2,.int .i64 n.lo,.int .i64 n.hi]
structure j7 (w:World) (v1 v2:Value) (n:Lad):Prop where
 size:n.what.size≤maxLen
 unit:Vec.Reads w v1 n.unit
 rungs:Reads jh w v2 n.rungs
 lo:I64 n.lo
 hi:I64 n.hi
theorem j7.kept {w w':World} {v1 v2:Value} {n:Lad} (h:j7 w v1 v2 n) (k:Kept w w'):j7 w' v1 v2 n:=⟨h.size,h.unit.kept k,h.rungs.kept k,h.lo,h.hi⟩
def JN (w:World) (v:Value) (n:Lad):Prop:=∃v1 v2,v=Ji n v1 v2∧j7 w v1 v2 n
theorem JN.kept {w w':World} {v:Value} {n:Lad} (h:JN w v n) (k:Kept w w'):JN w' v n:=by
 obtain⟨v1,v2,e,h⟩:=h;exact⟨v1,v2,e,h.kept k⟩
def orL:List Int→Int
 | []=>0
 | x::t=>if x≠0 then x else orL t
def Ja (x:ByteArray):Int:=if isName x=true then 0 else 3
def jP (lo hi:Int):Int:=if lo<0∨hi<lo∨128<hi then 1 else 0
def jo (u c p:Int):Int:=if u<0∨p<0∨1000000<p∨c<0∨128<c then 1 else 0
def qz:Option Int→Int→Bool
 | none,_=>false
 | some q,u=>decide (u≤q)
def jk:Option Int→RL→Int
 | _,[]=>0
 | prev,n::t=>if jo n.1 n.2.1 n.2.2≠0 then jo n.1 n.2.1 n.2.2 else if qz prev n.1=true then 13 else jk (some n.1) t
def jC (l:RL):Int:=if 8<l.length then 4 else jk none l
def jF (n:Lad):Int:=orL [Ja n.what,Vec.jf n.unit,jP n.lo n.hi,jC n.rungs]
def j4 (l:RL) (k:Nat):Option Int:=if k=0 then none else (l[k-1]?).map (·.1)
theorem zY {p:Option Int} {n:Int×Int×Int} {t:RL} (h:jo n.1 n.2.1 n.2.2≠0):jk p (n::t)=jo n.1 n.2.1 n.2.2:=by rw[jk,if_pos h]
theorem Yi {l:RL} {k:Nat} {n:Int×Int×Int} {t:RL} (hk:k=0) (h:jo n.1 n.2.1 n.2.2=0):jk (j4 l k) (n::t)=jk (some n.1) t:=by
 unfold j4;rw[if_pos hk,jk,if_neg (by rw[h];decide),if_neg (by simp[qz])]
theorem YT {l:RL} {k:Nat} {n q:Int×Int×Int} {t:RL} (hk:¬k=0) (hq:l[k-1]?=some q) (h:jo n.1 n.2.1 n.2.2=0):jk (j4 l k) (n::t)=if n.1≤q.1 then 13 else jk (some n.1) t:=by
 unfold j4;rw[if_neg hk,hq,jk,if_neg (by rw[h];decide)];simp only[Option.map_some,qz,decide_eq_true_eq]
theorem Yd {l:RL} {k:Nat} {n:Int×Int×Int} (hn:l[k]?=some n):j4 l (k+1)=some n.1:=by unfold j4;rw[if_neg (by omega),Nat.add_sub_cancel,hn];rfl
open Go.ChangeShapes Go.WideShapes Go.ChangeAt Go.RowKit Go.Deep
theorem jaU {W:World} (hS:W.ShapedOpen Tryz.prog):Env W :=
 ⟨cell_of_shapedOpen_int (zero:=#[.int .i64 0]) (t:=3) hS (of_decide_eq_true (by kernel_rfl)) (by kernel_rfl) rfl (by kernel_rfl) (by kernel_rfl) Tryz.underlying3⟩
def ja (c:UInt8):List UInt8→List (List UInt8)
 | []=>[[]]
 | b::t=>if b=c then []::ja c t else match ja c t with
  | []=>[[b]]
  | p::ps=>(b::p)::ps
theorem Jm:∀l,ja 44 l=partsOf l
 | []=>rfl
 | b::t=>by rw[ja,partsOf,Jm t];try rfl
theorem jY (c:UInt8) (l:List UInt8):ja c l≠[]:=by
 cases l with
 | nil=>simp[ja]
 | cons b t=>unfold ja;split;simp;split<;>simp
theorem ZQ (c:UInt8):∀(t:List UInt8),ja c (t++[c])=ja c t++[[]]
 | []=>by simp[ja]
 | b::t=>by
  rw[List.cons_append,ja,ja,ZQ c t];split
  · rfl
  · cases h:ja c t with
    | nil=>exact absurd h (jY c t)
    | cons p ps=>rfl
theorem Zv (c b:UInt8) (hb:b≠c):∀(t:List UInt8) (q:List (List UInt8)) (z:List UInt8),ja c t=q++[z]→ja c (t++[b])=q++[z++[b]]
 | [],q,z,h=>by
  have:q=[]∧z=[]:=by
   cases q with
   | nil=>simpa [ja] using h.symm
   | cons x q=>simp[ja] at h
  obtain⟨rfl,rfl⟩:=this;simp[ja,hb]
 | d::t,q,z,h=>by
  obtain⟨q',z',hq⟩:∃q' z',ja c t=q'++[z']:=⟨_,_,(List.dropLast_concat_getLast (jY c t)).symm⟩
  have ih:=Zv c b hb t q' z' hq;rw[List.cons_append,ja,ih];rw[ja,hq] at h;split
  · rename_i e;rw[if_pos e] at h;have:q=[]::q'∧z=z':=by
     have h':([]::q')++[z']=q++[z]:=h;have:=List.append_inj' h' rfl;exact⟨this.1.symm,by simpa using this.2.symm⟩
    obtain⟨rfl,rfl⟩:=this;rfl
  · rename_i e;rw[if_neg e] at h
    cases q' with
    | nil =>
     have h':[]++[d::z']=q++[z]:=h;have:=List.append_inj' h' rfl;obtain⟨h1,h2⟩:=this;subst h1;have:z=d::z':=by simpa using h2.symm
     subst this;rfl
    | cons p ps =>
     have h':((d::p)::ps)++[z']=q++[z]:=h;have:=List.append_inj' h' rfl;obtain⟨h1,h2⟩:=this;subst h1;have:z=z':=by simpa using h2.symm
     subst this;rfl
def splitB (c:UInt8) (s:List UInt8):List ByteArray:=(ja c s).map bytes
theorem Jq (c:UInt8):∀s:List UInt8,(splitB c s).length≤s.length+1
 | []=>by simp[splitB,ja]
 | b::t=>by
  have ih:=Jq c t;unfold splitB at ih ⊢;rw[ja];rw[List.length_map] at ih ⊢;split
  · simp;omega
  · cases h:ja c t with
    | nil=>simp
    | cons p ps=>rw[h] at ih;simp at ih ⊢;omega
theorem qN (c:UInt8) (t:List UInt8):splitB c (t++[c])=splitB c t++[⟨#[]⟩]:=by unfold splitB;rw[ZQ,List.map_append];rfl
theorem jad (z:List UInt8) (b:UInt8):bytes (z++[b])=bytes z++⟨#[b]⟩:=by
 apply Go.WideShapes.bytes_inj;simp[bytes,ByteArray.data_append]
theorem jz (c:UInt8):∀(s:List UInt8) (p:List UInt8),p ∈ ja c s→p.length≤s.length
 | [],p,h=>by
  have:p=[]:=by simpa [ja] using h
  subst this;simp
 | b::t,p,h=>by
  rw[ja] at h;split at h
  · rcases List.mem_cons.1 h with rfl | h
    · simp
    · have:=jz c t p h;simp;omega
  · cases hp:ja c t with
    | nil=>exact absurd hp (jY c t)
    | cons q qs =>
     rw[hp] at h;rcases List.mem_cons.1 h with rfl | h
     · have:=jz c t q (by rw[hp];simp);simp;omega
     · have:=jz c t p (by rw[hp];simp[h]);simp;omega
theorem jcl {A:List ByteArray} {m:Nat} {x v:ByteArray} (h:A.length=m):(jg StrLay (A++[x])).set m (.string v)=jg StrLay (A++[v]):=by
 rw[ze,ze];have e:(jg StrLay A).length=m:=by rw[zQ,h];exact Nat.mul_one m
 rw[List.set_append_right _ _ (by omega),e,Nat.sub_self];rfl
theorem jb7 (w:World) (x:ByteArray) (hx:x.size≤maxLen):Own StrLay 9 (w.alloc (.cells #[.string x] 9)) w.heap.size (.slice (some ⟨w.heap.size,0,none⟩) 1 1) [x] :=
 ⟨⟨rfl,.inr ⟨w.heap.size,1,#[.string x],rfl,Nat.le_refl _,World.alloc_heap_new w _,Nat.le_refl _,by decide,rfl,rfl⟩⟩,fun z hz=>by
  have:z=x:=by simpa using hz
  rw[this];exact hx⟩
theorem Xx (c:UInt8) (s:List UInt8) (w:World) (hs:s.length≤1000000) :
 Calls Tryz.prog 51 #[.string (bytes s),.int .u8 (c.toNat:Int)] w (fun e w'=>∃v,e=.returned v∧Own StrLay 9 w' w.heap.size v (splitB c s)∧Kept w w'):=by
 have hsz:(bytes s).size=s.length:=jn s;have Vy:=lH hsz;have hlen:(bytes s).size≤1000000:=by omega
 obtain⟨i0,hi,hz0,hz1,hz2⟩:=info_parts jb1;go_enter Tryz.func51,Tryz.ntmps51;go_wp2;go_loopw [5,6] (fun v i wr=>∃k:Nat,k≤s.length∧i=.int .i64 k∧Own StrLay 9 wr w.heap.size v (splitB c (s.take k))∧Kept w wr) (fun _ i _=>s.length-(intOf i).toNat)
 case atStart=>exact⟨0,Nat.zero_le _,rfl,jb7 w _ (by decide),jb _ _⟩
 case round =>
  obtain⟨k,hk,rfl,ho,hB⟩:=hrel;have HO:=lH ho;have HB:=lH hB;have hbs:w.heap.size≤wr.heap.size:=hB.size;by_cases hlt:k<s.length
  · have hlt':k<(bytes s).size:=by omega
    have hsk:s[k]?=some s[k]:=List.getElem?_eq_getElem hlt;have UG:=lH (show s.take (k+1)=s.take k++[s[k]] from jaz hsk);have hbk:(bytes s)[k]=s[k]:=by
     simp[bytes,ByteArray.getElem_eq_getElem_data];rfl
    obtain⟨b,hb⟩:=eX (s[k])
    rw[hb] at UG hbk;obtain⟨n,hn⟩:=eX ((splitB c (s.take k)).length)
    have hn6:n≤1000001:=by have:=Jq c (s.take k);rw[List.length_take] at this;omega
    have HN:=lH hn;clear ho hB hsk hb hn;by_cases hbc:b=c
    · have e1:(((bytes s)[k].toNat:Int)==(c.toNat:Int))=true:=by rw[hbk,hbc];exact beq_self_eq_true _
      have Vg:=lH (show wr.ownsRow w.heap.size 9 1 u5 n (jg StrLay (splitB c (s.take k))) by have:=HO.out.1;rw[HN.out] at this;exact this);have Ro:=lH hbc;clear hbk hbc;go_wp2_with (at_builtin;refine wpList_append_lies _ rfl (.tmp 19) (.tmp 20) _ rfl w.heap.size 9 i0 _ 1 16 Tryz.underlying87 hi hz0 hz1 hz2 rfl (by decide) u5 n (jg StrLay (splitB c (s.take k))) rfl (Vg.out.alloc _) ⟨wr.heap.size,0,none⟩ 1 1 [.string ⟨#[]⟩] rfl rfl (World.news_of_block (cs:=#[.string ⟨#[]⟩]) (t:=9) (fr:=(0,0)) (wr.alloc_heap_new _)) (jbI _) (by decide) (by unfold maxLen;omega) (by omega) (by rw[World.size_alloc];omega) (wr.heap.size+1) (World.size_alloc _ _) ?_;intro g cap w21 hown1 hgrow hg hlt1;have VB:=lH hown1;have K21:=lH ((HB.out.trans (jb wr (.cells #[.string ⟨#[]⟩] 9))).grown hgrow (by rw[World.size_alloc];omega) (fun k hk=>(Vg.out.lt k hk).1));clear hown1 hgrow hg hlt1)
      go_roundw
      case rel=>exact⟨k+1,by omega,by go_num,by rw[UG.out,Ro.out,qN];exact Own.snoc VB.out (by rw[HN.out]) HO.out.2 (Nat.zero_le _),K21.out⟩
      case measure=>simp[intOf];omega
    · have e1:(((bytes s)[k].toNat:Int)==(c.toNat:Int))=false:=by
       rw[hbk];have:(b.toNat:Int)≠(c.toNat:Int):=fun e=>hbc (UInt8.toNat.inj (by omega));simpa using this
      obtain⟨q,z,hq⟩:∃q z,ja c (s.take k)=q++[z]:=⟨_,_,(List.dropLast_concat_getLast (jY c _)).symm⟩
      obtain⟨HQ,Ua,Ue⟩:=lH3 hq (show splitB c (s.take k++[b])=q.map bytes++[bytes z++⟨#[b]⟩] by unfold splitB;rw[Zv c b hbc _ q z hq,List.map_append];simp[jad]) (show splitB c (s.take k)=q.map bytes++[bytes z] by unfold splitB;rw[hq,List.map_append];rfl);obtain⟨m,hm⟩:=eX (q.length)
      have HM:=lH hm;have hnm:n=m+1:=by rw[←HN.out,Ue.out];simp[hm]
      subst hnm;have hown:=HO.out.1;rw[HN.out] at hown;obtain⟨g,cap,rfl⟩:=ownsRow_succ hown;rw[Ue.out] at hown;have hlast:(jg StrLay (q.map bytes++[bytes z]))[m]?=some (.string (bytes z)):=by
       rw[ze];have e:(jg StrLay (q.map bytes)).length=m:=by rw[zQ,List.length_map,hm];exact Nat.mul_one m
       rw[List.getElem?_append_right (by omega),e,Nat.sub_self];rfl
      have c1:=JU hown hlast;have z1:=hown.frozenAt m;have hgb:=(hown.lt g rfl).1;have Vg:=lH hown;have hex:(bytes s).extract k (k+1)=⟨#[b]⟩:=by
       apply Go.WideShapes.bytes_inj;have e:((bytes s).extract k (k+1)).data.toList=(s.take (k+1)).drop k:=by
        simp[bytes,ByteArray.data_extract];rw[List.drop_take,show k+1-k=1 by omega]
       rw[e,UG.out,List.drop_append_of_le_length (by rw[List.length_take];omega),List.drop_of_length_le (by rw[List.length_take];omega)];rfl
      have hzl:(bytes z).size≤1000000:=by
       rw[jn];have:=jz c (s.take k) z (by rw[hq];simp);rw[List.length_take] at this;omega
      have hk1:(k:Int)+1≤((bytes s).size:Int):=by omega
      have hk2:((k:Int)+1).toNat=k+1:=by omega
      clear hm hq hlast hown hbk hbc;go_wp2;go_region
      go_wp2;go_roundw
      case rel =>
       refine⟨k+1,by omega,by go_num,⟨?_,?_⟩,?_⟩
       · have:=(Vg.out.stored m (.string (bytes z++⟨#[b]⟩))).1.drew;rw[jcl (by rw[List.length_map];exact HM.out)] at this;rw[UG.out,Ua.out,List.length_append,List.length_map,HM.out];exact this
       · rw[UG.out,Ua.out];intro y hy;rcases List.mem_append.1 hy with h | h
         · exact HO.out.2 y (by rw[Ue.out];exact List.mem_append.2 (.inl h))
         · have:y=bytes z++⟨#[b]⟩:=by simpa using h
           rw[this];show (bytes z++⟨#[b]⟩).size≤maxLen;rw[ByteArray.size_append];have:(⟨#[b]⟩:ByteArray).size=1:=rfl;unfold maxLen;omega
       · exact((Below.setCell HB.out (p:=⟨g,m,none⟩) hgb _)).drew
      case measure=>simp[intOf];omega
  · have HK:=lH (show s.take k=s from List.take_of_length_le (by omega));clear ho hB;go_wp2;go_ret;exact⟨_,rfl,by have h:=HO.out;rw[HK.out] at h;exact h,HB.out⟩
theorem Ym (c:UInt8) (s:List UInt8) (w:World) (hs:s.length≤1000000) {v:Value} (hv:v=.int .u8 (c.toNat:Int)) :
 Calls Tryz.prog 51 #[.string (bytes s),v] w (fun e w'=>∃v,e=.returned v∧Own StrLay 9 w' w.heap.size v (splitB c s)∧Kept w w'):=by
 subst hv;exact Xx c s w hs
theorem index_one (c b:UInt8) (t:List UInt8):Lib.index (b::t) [c]=if b=c then 0 else if Lib.index t [c]==-1 then -1 else Lib.index t [c]+1:=by
 rw[Lib.index];by_cases h:b=c
 · subst h;rw[if_pos rfl,if_pos (by simp[List.isPrefixOf])]
 · rw[if_neg h,if_neg (by simp[List.isPrefixOf];exact fun e=>h e.symm)]
theorem ZC (c:UInt8):Lib.cut [] [c]=([],[],false):=by unfold Lib.cut;simp[Lib.index]
theorem Zd (c b:UInt8) (t:List UInt8):Lib.cut (b::t) [c]=if b=c then ([],t,true) else (b::(Lib.cut t [c]).1,(Lib.cut t [c]).2.1,(Lib.cut t [c]).2.2):=by
 have hge:=Lib.index_ge t [c];unfold Lib.cut;rw[index_one];by_cases h:b=c
 · subst h;simp
 · rw[if_neg h,if_neg h];by_cases h1:Lib.index t [c]=-1
   · rw[h1];simp
   · have h2:0≤Lib.index t [c]:=by omega
     obtain⟨i,hi⟩:=Int.eq_ofNat_of_zero_le h2;rw[hi];have e1:((i:Int)==-1)=false:=beq_eq_false_iff_ne.2 (by omega);rw[e1];have e2:(0:Int)≤(i:Int)+1:=by omega
     have e3:((i:Int)+1).toNat=i+1:=by omega
     simp[e2,e3]
theorem ZV {c:UInt8}:∀{p:List UInt8},c ∉ p→Lib.cut p [c]=(p,[],false)
 | [],_=>ZC c
 | b::t,h=>by
  rw[Zd,if_neg (by intro e;exact h (by simp[e])),ZV (by intro e;exact h (by simp[e]))]
theorem zj (c:UInt8):∀p:List UInt8,ja c p=if (Lib.cut p [c]).2.2=true then (Lib.cut p [c]).1::ja c (Lib.cut p [c]).2.1 else [p]
 | []=>by rw[ZC];rfl
 | b::t=>by
  rw[ja,Zd];by_cases h:b=c
  · rw[if_pos h,if_pos h];rfl
  · rw[if_neg h,if_neg h,zj c t];dsimp only;by_cases h1:(Lib.cut t [c]).2.2=true
    · rw[if_pos h1,if_pos h1]
    · rw[if_neg h1,if_neg h1]
theorem YB (c:UInt8):∀q:List UInt8,(ja c q).length=1↔c ∉ q
 | []=>by simp[ja]
 | b::t=>by
  have ih:=YB c t;rw[ja];by_cases h:b=c
  · rw[if_pos h];have:=jY c t;constructor
    · intro e;exfalso;have:(ja c t).length=0:=by simpa using e
      exact jY c t (List.eq_nil_of_length_eq_zero this)
    · intro e;exact absurd (by simp[h]) e
  · rw[if_neg h]
    cases hp:ja c t with
    | nil=>exact absurd hp (jY c t)
    | cons p ps =>
     rw[hp] at ih;have e:((b::p)::ps).length=(p::ps).length:=rfl;dsimp only;rw[e,ih];simp[List.mem_cons,Ne.symm h]
def jae {α:Type} (bad:List UInt8→Bool) (f:List UInt8→α) (chk:List α→Int) (s:List UInt8):Int×List α :=
 if s=[45] then (0,[])
 else if (partsOf s).any bad=true then (2,[])
 else if chk ((partsOf s).map f)≠0 then (chk ((partsOf s).map f),[])
 else (0,(partsOf s).map f)
theorem XU {α:Type} {bad:List UInt8→Bool} {f:List UInt8→α} {chk:List α→Int} (h:∀l,8<l.length→chk l=4) (s:List UInt8):jae bad f chk s=Yy bad f chk s:=by
 unfold jae Yy;by_cases h8:((partsOf s).map f).length≤9
 · rw[List.take_of_length_le h8]
 · have h1:=h ((partsOf s).map f) (by omega);have h2:=h (((partsOf s).map f).take 9) (by rw[List.length_take];omega);rw[h1,h2,if_pos (show (4:Int)≠0 by decide),if_pos (show (4:Int)≠0 by decide)]
theorem qw (c:UInt8) (s:List UInt8):((Lib.cut s [c]).2.2=false→Lib.index s [c]=-1)∧((Lib.cut s [c]).2.2=true→¬Lib.index s [c]=-1∧s.take ((Lib.index s [c]).toNat+0)=(Lib.cut s [c]).1∧s.drop ((Lib.index s [c]).toNat+[c].length)=(Lib.cut s [c]).2.1):=by
 have hge:=Lib.index_ge s [c];unfold Lib.cut;by_cases h:0≤Lib.index s [c]
 · rw[if_pos h];exact⟨(fun e=>by cases e),fun _=>⟨by omega,rfl,rfl⟩⟩
 · rw[if_neg h];exact⟨(fun _=>by omega),(fun e=>by cases e)⟩
theorem J3 (c:UInt8) (s:List UInt8) (h:(Lib.cut s [c]).2.2=true):ja c s=(Lib.cut s [c]).1::ja c (Lib.cut s [c]).2.1:=by rw[zj,if_pos h]
theorem JI (c:UInt8) (s:List UInt8) (h:(Lib.cut s [c]).2.2=false):ja c s=[s]:=by rw[zj,if_neg (by rw[h];decide)]
theorem jaQ (c:UInt8) (s:List UInt8):1≤(ja c s).length:=List.length_pos_iff.2 (jY c s)
theorem zT (c:UInt8):∀(k:Nat) (s:List UInt8),((ja c s).length≤k+1→Lib.splitK [c] 0 k s=ja c s)∧(k+1<(ja c s).length→(Lib.splitK [c] 0 k s).length=k+1)
 | 0,s=>by
  rw[Lib.splitK];refine⟨fun h=>?_,fun _=>rfl⟩
  cases hf:(Lib.cut s [c]).2.2 with
  | false=>rw[JI c s hf]
  | true =>
   rw[J3 c s hf] at h;have:=jaQ c (Lib.cut s [c]).2.1;rw[List.length_cons] at h;omega
 | k+1,s=>by
  rw[Lib.splitK];obtain⟨h1,h2⟩:=qw c s
  cases hf:(Lib.cut s [c]).2.2 with
  | false =>
   rw[if_pos (beq_iff_eq.2 (h1 hf)),JI c s hf];exact⟨fun _=>rfl,fun h=>absurd h (by simp)⟩
  | true =>
   obtain⟨e0,e1,e2⟩:=h2 hf;rw[if_neg (fun e=>e0 (beq_iff_eq.1 e)),e1,e2,J3 c s hf];obtain⟨i1,i2⟩:=zT c k (Lib.cut s [c]).2.1;exact⟨fun h=>by rw[i1 (by simpa using h)],fun h=>by simp;exact i2 (by simpa using h)⟩
theorem J0 (c:UInt8) (s:List UInt8):(ja c s).length≤s.length+1:=by
 have:=Jq c s;unfold splitB at this;rwa [List.length_map] at this
theorem XK (c:UInt8) (k:Nat) (s:List UInt8):((ja c s).length=k→Lib.splitB ⟨#[c]⟩ 0 (min (k+1) ((bytes s).size+1)-1) (bytes s)=(ja c s).map bytes) ∧
 ((ja c s).length≠k→(Lib.splitB ⟨#[c]⟩ 0 (min (k+1) ((bytes s).size+1)-1) (bytes s)).length≠k):=by
 have hd:=Lib.splitB_data ⟨#[c]⟩ 0 (min (k+1) ((bytes s).size+1)-1) (bytes s);have hb:(bytes s).data.toList=s:=by simp[bytes]
 rw[hb] at hd;have hp:=J0 c s;have hsz:(bytes s).size=s.length:=jn s;rw[hsz] at hd ⊢;obtain⟨i1,i2⟩:=zT c (min (k+1) (s.length+1)-1) s;refine⟨fun h=>?_,fun h h5=>?_⟩
 · have e:=i1 (by omega);have hd':(Lib.splitB ⟨#[c]⟩ 0 (min (k+1) (s.length+1)-1) (bytes s)).map (·.data.toList)=ja c s:=hd.trans e;rw[←hd',List.map_map];have:(bytes ∘ fun x:ByteArray=>x.data.toList)=id:=by
    funext x;cases x;simp[bytes]
   rw[this,List.map_id]
 · have hl:=congrArg List.length hd;rw[List.length_map,h5] at hl;by_cases hle:(ja c s).length≤min (k+1) (s.length+1)-1+1
   · have e:=i1 hle;have:(Lib.splitK [c] 0 (min (k+1) (s.length+1)-1) s).length=k:=hl.symm;rw[e] at this;exact h this
   · have:=i2 (by omega);have h3:(Lib.splitK [c] 0 (min (k+1) (s.length+1)-1) s).length=k:=hl.symm;omega
def ZB (c:UInt8) (k:Nat) (s:List UInt8) (w:World) (e:Ending) (w':World):Prop :=
 ((ja c s).length=k→∃g cap,e=.returned (.slice (some ⟨g,0,none⟩) k cap)∧w.heap.size≤g∧∀j p,(ja c s)[j]?=some p→w'.cell? ⟨g,j,none⟩=some (.string (bytes p))) ∧
 ((ja c s).length≠k→e=.panicked [jG 2])∧Kept w w'
theorem qD (s:List UInt8) (w:World) (hE:Env w) (hs:s.length≤1000000) :
 Calls Tryz.prog 94 #[.string (bytes s),.string ⟨#[47]⟩,.int .i64 2] w (ZB 47 2 s w):=by
 obtain⟨m,hm⟩:=hE.most;have Vd:=lH (Tryz.strings_SplitN (bytes s) ⟨#[47]⟩ 3 m w (by rw[jn];omega) hm (by decide) (by decide) (by decide));obtain⟨h5,hn5⟩:=XK 47 2 s;obtain⟨L,hL⟩:=eX (Lib.splitB ⟨#[47]⟩ 0 (min 3 ((bytes s).size+1)-1) (bytes s))
 obtain⟨n,hn⟩:=eX (min 3 ((bytes s).size+1))
 rw[hL] at h5 hn5 Vd;rw[hn] at Vd;have hcap:L.length≤n:=by
  rw[←hL,←hn];have:=Lib.splitB_length_le ⟨#[47]⟩ 0 (min 3 ((bytes s).size+1)-1) (bytes s);omega
 by_cases hp:(ja 47 s).length=2
 · have hLp:=h5 hp;have HP:=lH hp;obtain⟨ps,hps⟩:=eX (ja 47 s)
   have Uf:=lH hps;rw[hps] at hp hLp;have hl5:L.length=2:=by rw[hLp,List.length_map,hp]
   rw[hl5] at Vd;have HC:=lH (show ∀j p,ps[j]?=some p→(w.alloc (.cells (Lib.cellsOf L n) 9)).cell? ⟨w.heap.size,j,none⟩=some (.string (bytes p)) from fun j p hj=>by
    have hh:=w.alloc_heap_new (.cells (Lib.cellsOf L n) 9);have hj5:j<L.length:=by have:=(List.getElem?_eq_some_iff.1 hj).1;omega
    have hLj:L[j]?=some (bytes p):=by rw[hLp,List.getElem?_map,hj];rfl
    rw[Lib.cell_of_heap hh];show (Lib.cellsOf L n)[j]?=some (.string (bytes p));unfold Lib.cellsOf;rw[List.getElem?_toArray,List.getElem?_append_left (by rw[List.length_map];exact hj5),List.getElem?_map,hLj];rfl)
   have hcap5:2≤n:=by omega
   clear h5 hn5 hcap hE hm hL hn hLp hl5 hp hps;go_enter Tryz.func94,Tryz.ntmps94;go_wp2_with fail
   refine Vd.out.mono ?_;rintro e w1 ⟨rfl,rfl⟩;go_wp2;go_ret;exact⟨fun _=>⟨_,_,rfl,Nat.le_refl _,by rw[Uf.out];exact HC.out⟩,fun h=>absurd HP.out h,jb _ _⟩
 · obtain⟨k,hk⟩:=eX (L.length)
   have hk5:k≠2:=by rw[←hk];exact hn5 hp
   rw[hk] at Vd;have HP:=lH hp;have hb:((k:Int) != 2)=true:=by simp;omega
   clear h5 hn5 hcap hp hE hm hL hn hk hk5;go_enter Tryz.func94,Tryz.ntmps94;go_wp2_with fail
   refine Vd.out.mono ?_;rintro e w1 ⟨rfl,rfl⟩;go_wp2;exact⟨rfl,⟨fun h=>absurd h HP.out,fun _=>rfl,jb _ _⟩⟩
theorem qy (s:List UInt8) (w:World) (hE:Env w) (hs:s.length≤1000000) :
 Calls Tryz.prog 94 #[.string (bytes s),.string ⟨#[58]⟩,.int .i64 3] w (ZB 58 3 s w):=by
 obtain⟨m,hm⟩:=hE.most;have Vd:=lH (Tryz.strings_SplitN (bytes s) ⟨#[58]⟩ 4 m w (by rw[jn];omega) hm (by decide) (by decide) (by decide));obtain⟨h5,hn5⟩:=XK 58 3 s;obtain⟨L,hL⟩:=eX (Lib.splitB ⟨#[58]⟩ 0 (min 4 ((bytes s).size+1)-1) (bytes s))
 obtain⟨n,hn⟩:=eX (min 4 ((bytes s).size+1))
 rw[hL] at h5 hn5 Vd;rw[hn] at Vd;have hcap:L.length≤n:=by
  rw[←hL,←hn];have:=Lib.splitB_length_le ⟨#[58]⟩ 0 (min 4 ((bytes s).size+1)-1) (bytes s);omega
 by_cases hp:(ja 58 s).length=3
 · have hLp:=h5 hp;have HP:=lH hp;obtain⟨ps,hps⟩:=eX (ja 58 s)
   have Uf:=lH hps;rw[hps] at hp hLp;have hl5:L.length=3:=by rw[hLp,List.length_map,hp]
   rw[hl5] at Vd;have HC:=lH (show ∀j p,ps[j]?=some p→(w.alloc (.cells (Lib.cellsOf L n) 9)).cell? ⟨w.heap.size,j,none⟩=some (.string (bytes p)) from fun j p hj=>by
    have hh:=w.alloc_heap_new (.cells (Lib.cellsOf L n) 9);have hj5:j<L.length:=by have:=(List.getElem?_eq_some_iff.1 hj).1;omega
    have hLj:L[j]?=some (bytes p):=by rw[hLp,List.getElem?_map,hj];rfl
    rw[Lib.cell_of_heap hh];show (Lib.cellsOf L n)[j]?=some (.string (bytes p));unfold Lib.cellsOf;rw[List.getElem?_toArray,List.getElem?_append_left (by rw[List.length_map];exact hj5),List.getElem?_map,hLj];rfl)
   have hcap5:3≤n:=by omega
   clear h5 hn5 hcap hE hm hL hn hLp hl5 hp hps;go_enter Tryz.func94,Tryz.ntmps94;go_wp2_with fail
   refine Vd.out.mono ?_;rintro e w1 ⟨rfl,rfl⟩;go_wp2;go_ret;exact⟨fun _=>⟨_,_,rfl,Nat.le_refl _,by rw[Uf.out];exact HC.out⟩,fun h=>absurd HP.out h,jb _ _⟩
 · obtain⟨k,hk⟩:=eX (L.length)
   have hk5:k≠3:=by rw[←hk];exact hn5 hp
   rw[hk] at Vd;have HP:=lH hp;have hb:((k:Int) != 3)=true:=by simp;omega
   clear h5 hn5 hcap hp hE hm hL hn hk hk5;go_enter Tryz.func94,Tryz.ntmps94;go_wp2_with fail
   refine Vd.out.mono ?_;rintro e w1 ⟨rfl,rfl⟩;go_wp2;exact⟨rfl,⟨fun h=>absurd h HP.out,fun _=>rfl,jb _ _⟩⟩
def jA (c:UInt8) (k:Nat) (s:List UInt8):Bool:=decide ((ja c s).length=k)&&(ja c s).all Vec.je
def Z6 (c:UInt8) (k:Nat) (s:List UInt8) (w:World) (e:Ending) (w':World):Prop :=
 (jA c k s=true→∃g cap,e=.returned (.slice (some ⟨g,0,none⟩) k cap)∧∀j p,(ja c s)[j]?=some p→w'.cell? ⟨g,j,none⟩=some (.string (bytes p))) ∧
 (jA c k s=false→e=.panicked [jG 2])∧Kept w w'
theorem Jb {c:UInt8} {k:Nat} {s:List UInt8} (h:jA c k s=true):(ja c s).length=k∧∀p ∈ ja c s,Vec.je p=true:=by
 unfold jA at h;rw[Bool.and_eq_true,decide_eq_true_eq,List.all_eq_true] at h;exact h
theorem YP {c:UInt8} {k j:Nat} {s p:List UInt8} (h:jA c k s=((ja c s).drop j).all Vec.je) (hp:(ja c s).drop j=p::(ja c s).drop (j+1)) (hd:Vec.je p=true):jA c k s=((ja c s).drop (j+1)).all Vec.je:=by
 rw[h,hp,List.all_cons,hd,Bool.true_and]
theorem Xg {c:UInt8} {k j:Nat} {s p:List UInt8} (h:jA c k s=((ja c s).drop j).all Vec.je) (hp:(ja c s).drop j=p::(ja c s).drop (j+1)) (hd:Vec.je p=false):jA c k s=false:=by
 rw[h,hp,List.all_cons,hd,Bool.false_and]
theorem Y7 (s:List UInt8) (w:World) (hE:Env w) (hs:s.length≤1000000) :
 Calls Tryz.prog 70 #[.string (bytes s),.string ⟨#[47]⟩,.int .i64 2] w (Z6 47 2 s w):=by
 have Vd:=lH (qD s w hE hs);unfold ZB at Vd;have Vo:=lH (fun p (h:p ∈ ja 47 s)=>Nat.le_trans (jz 47 s p h) hs);clear hE hs;by_cases hp:(ja 47 s).length=2
 · have HP:=lH hp;have Tk:=lH (show jA 47 2 s=((ja 47 s).drop 0).all Vec.je by unfold jA;rw[hp];rfl);clear hp;go_enter Tryz.func70,Tryz.ntmps70;go_wp2_with fail
   refine Vd.out.mono ?_;rintro e w1 ⟨ha,-,hk⟩;obtain⟨g,cap,rfl,hg,hc⟩:=ha HP.out;have HC:=lH hc;have HK:=lH hk;clear ha hk hc hg Vd;go_wp2;go_loopw [16] (fun iv wr=>∃j:Nat,j≤2∧iv=.int .i64 j∧jA 47 2 s=((ja 47 s).drop j).all Vec.je∧w1=wr) (fun iv _=>2-(intOf iv).toNat)
   case atStart=>exact⟨0,Nat.zero_le _,rfl,Tk.out,rfl⟩
   case round =>
    obtain⟨j,hj,rfl,hd,rfl⟩:=hrel;have HD:=lH hd;clear hd;by_cases hlt:j<2
    · obtain⟨p,hpj⟩:∃p,(ja 47 s)[j]?=some p:=⟨_,List.getElem?_eq_getElem (by rw[HP.out];exact hlt)⟩
      have c0:=HC.out j p hpj;have V6:=lH (show (ja 47 s).drop j=p::(ja 47 s).drop (j+1) by
       obtain⟨hh,e⟩:=List.getElem?_eq_some_iff.1 hpj;rw[List.drop_eq_getElem_cons hh,e])
      have Tl:=lH (Vo.out p (List.mem_of_getElem? hpj));have hkk:(j:Int)<2:=by omega
      obtain⟨q,hq⟩:=eX (Vec.je p)
      have HQ:=lH hq;have UH:=lH (fun W=>show Calls Tryz.prog 95 #[.string (bytes p)] W fun e w'=>e=.returned (.bool q)∧W=w' by
       have:=Vec.Jx (bytes p) W (by rw[jn];have:=Tl.out;unfold maxLen;omega);rw[Vec.Jc,hq] at this;exact this)
      clear hpj hq
      cases q with
      | true =>
       go_wp2_with fail
       refine(UH.out _).mono ?_;rintro e w2 ⟨rfl,rfl⟩;go_wp2;go_roundw
       case rel=>exact⟨j+1,by omega,by go_num,YP HD.out V6.out HQ.out,trivial⟩
       case measure=>simp[intOf];omega
      | false =>
       have HF:=lH (Xg HD.out V6.out HQ.out);go_wp2_with fail
       refine(UH.out _).mono ?_;rintro e w2 ⟨rfl,rfl⟩;go_wp2;exact⟨rfl,⟨fun h=>(by rw[HF.out] at h;cases h),fun _=>rfl,HK.out⟩⟩
    · have HT:=lH (show jA 47 2 s=true by rw[HD.out,List.drop_of_length_le (by rw[HP.out];omega)];rfl);obtain rfl:j=2:=by omega
      go_wp2;go_ret;exact⟨fun _=>⟨_,_,rfl,HC.out⟩,fun h=>(by rw[HT.out] at h;cases h),HK.out⟩
 · have HP:=lH hp;have HF:=lH (show jA 47 2 s=false by unfold jA;rw[decide_eq_false hp];rfl);clear hp;go_enter Tryz.func70,Tryz.ntmps70;go_wp2_with fail
   refine Vd.out.mono ?_;rintro e w1 ⟨-,hb,hk⟩;obtain rfl:=hb HP.out;have HK:=lH hk;clear hb hk;go_wp2;exact⟨rfl,⟨fun h=>(by rw[HF.out] at h;cases h),fun _=>rfl,HK.out⟩⟩
theorem Xw (s:List UInt8) (w:World) (hE:Env w) (hs:s.length≤1000000) :
 Calls Tryz.prog 70 #[.string (bytes s),.string ⟨#[58]⟩,.int .i64 3] w (Z6 58 3 s w):=by
 have Vd:=lH (qy s w hE hs);unfold ZB at Vd;have Vo:=lH (fun p (h:p ∈ ja 58 s)=>Nat.le_trans (jz 58 s p h) hs);clear hE hs;by_cases hp:(ja 58 s).length=3
 · have HP:=lH hp;have Tk:=lH (show jA 58 3 s=((ja 58 s).drop 0).all Vec.je by unfold jA;rw[hp];rfl);clear hp;go_enter Tryz.func70,Tryz.ntmps70;go_wp2_with fail
   refine Vd.out.mono ?_;rintro e w1 ⟨ha,-,hk⟩;obtain⟨g,cap,rfl,hg,hc⟩:=ha HP.out;have HC:=lH hc;have HK:=lH hk;clear ha hk hc hg Vd;go_wp2;go_loopw [16] (fun iv wr=>∃j:Nat,j≤3∧iv=.int .i64 j∧jA 58 3 s=((ja 58 s).drop j).all Vec.je∧w1=wr) (fun iv _=>3-(intOf iv).toNat)
   case atStart=>exact⟨0,Nat.zero_le _,rfl,Tk.out,rfl⟩
   case round =>
    obtain⟨j,hj,rfl,hd,rfl⟩:=hrel;have HD:=lH hd;clear hd;by_cases hlt:j<3
    · obtain⟨p,hpj⟩:∃p,(ja 58 s)[j]?=some p:=⟨_,List.getElem?_eq_getElem (by rw[HP.out];exact hlt)⟩
      have c0:=HC.out j p hpj;have V6:=lH (show (ja 58 s).drop j=p::(ja 58 s).drop (j+1) by
       obtain⟨hh,e⟩:=List.getElem?_eq_some_iff.1 hpj;rw[List.drop_eq_getElem_cons hh,e])
      have Tl:=lH (Vo.out p (List.mem_of_getElem? hpj));have hkk:(j:Int)<3:=by omega
      obtain⟨q,hq⟩:=eX (Vec.je p)
      have HQ:=lH hq;have UH:=lH (fun W=>show Calls Tryz.prog 95 #[.string (bytes p)] W fun e w'=>e=.returned (.bool q)∧W=w' by
       have:=Vec.Jx (bytes p) W (by rw[jn];have:=Tl.out;unfold maxLen;omega);rw[Vec.Jc,hq] at this;exact this)
      clear hpj hq
      cases q with
      | true =>
       go_wp2_with fail
       refine(UH.out _).mono ?_;rintro e w2 ⟨rfl,rfl⟩;go_wp2;go_roundw
       case rel=>exact⟨j+1,by omega,by go_num,YP HD.out V6.out HQ.out,trivial⟩
       case measure=>simp[intOf];omega
      | false =>
       have HF:=lH (Xg HD.out V6.out HQ.out);go_wp2_with fail
       refine(UH.out _).mono ?_;rintro e w2 ⟨rfl,rfl⟩;go_wp2;exact⟨rfl,⟨fun h=>(by rw[HF.out] at h;cases h),fun _=>rfl,HK.out⟩⟩
    · have HT:=lH (show jA 58 3 s=true by rw[HD.out,List.drop_of_length_le (by rw[HP.out];omega)];rfl);obtain rfl:j=3:=by omega
      go_wp2;go_ret;exact⟨fun _=>⟨_,_,rfl,HC.out⟩,fun h=>(by rw[HT.out] at h;cases h),HK.out⟩
 · have HP:=lH hp;have HF:=lH (show jA 58 3 s=false by unfold jA;rw[decide_eq_false hp];rfl);clear hp;go_enter Tryz.func70,Tryz.ntmps70;go_wp2_with fail
   refine Vd.out.mono ?_;rintro e w1 ⟨-,hb,hk⟩;obtain rfl:=hb HP.out;have HK:=lH hk;clear hb hk;go_wp2;exact⟨rfl,⟨fun h=>(by rw[HF.out] at h;cases h),fun _=>rfl,HK.out⟩⟩
theorem JG (s:List UInt8) (w:World) (hE:Env w) (hs:s.length≤1000000):Calls Tryz.prog 96 #[.string (bytes s)] w (Z6 58 3 s w):=by
 have H:=lH (Xw s w hE hs);unfold Z6 at H;clear hE hs;obtain⟨q,hq⟩:=eX (jA 58 3 s)
 have HQ:=lH hq;clear hq
 cases q with
 | true =>
  go_enter Tryz.func96,Tryz.ntmps96;go_wp2_with fail
  refine H.out.mono ?_;rintro e w1 ⟨ha,-,hk⟩;obtain⟨g,cap,rfl,hc⟩:=ha HQ.out;have HC:=lH hc;have HK:=lH hk;clear ha hk hc;go_wp2;go_ret;exact⟨fun _=>⟨_,_,rfl,HC.out⟩,fun h=>(by rw[HQ.out] at h;cases h),HK.out⟩
 | false =>
  go_enter Tryz.func96,Tryz.ntmps96;go_wp2_with fail
  refine H.out.mono ?_;rintro e w1 ⟨-,hb,hk⟩;obtain rfl:=hb HQ.out;have HK:=lH hk;clear hb hk;go_wp2;exact⟨rfl,⟨fun h=>(by rw[HQ.out] at h;cases h),fun _=>rfl,HK.out⟩⟩
def inQ (p:List UInt8):Bool:=decide (Vec.valL p≤9223372036854775807)
def Z3 (p:List UInt8) (w:World) (e:Ending) (w':World):Prop:=e=(if inQ p=true then .returned (.int .i64 (Vec.valL p:Int)) else .panicked [jG 5])∧Kept w w'
theorem Z4 (p:List UInt8) (w:World) (hE:Vec.Env w) (hp:p.length≤1000000) (hd:Vec.je p=true):Calls Tryz.prog 97 #[.string (bytes p)] w (Z3 p w):=by
 by_cases h:Vec.valL p≤9223372036854775807
 · refine(Vec.qx p w hp hd h).mono ?_;rintro e w' ⟨rfl,k⟩;exact⟨by rw[if_pos (by unfold inQ;exact decide_eq_true h)],k⟩
 · refine(Vec.YL p w hE hp hd h).mono ?_;rintro e w' ⟨rfl,k⟩;exact⟨by rw[if_neg (by unfold inQ;rw[decide_eq_false h];decide)],k⟩
theorem JM (p:List UInt8) (w:World) (hE:Vec.Env w) (hp:p.length≤1000000) (hd:Vec.je p=true):Calls Tryz.prog 72 #[.string (bytes p)] w (Z3 p w):=by
 have H:=lH (Z4 p w hE hp hd);unfold Z3 at H;obtain⟨q,hq⟩:=eX (inQ p)
 rw[hq] at H;have HQ:=lH hq;obtain⟨v,hv⟩:=eX (Vec.valL p)
 rw[hv] at H;have HV:=lH hv;clear hE hp hd
 cases q with
 | true =>
  have hle:v≤9223372036854775807:=by unfold inQ at hq;rw[hv] at hq;exact of_decide_eq_true hq
  have hmn:min (v:Int) 9223372036854775807=(v:Int):=by omega
  clear hq hv;go_enter Tryz.func72,Tryz.ntmps72;go_wp2_with fail
  refine H.out.mono ?_;rintro e w1 ⟨he,hk⟩;obtain rfl:e=.returned (.int .i64 (v:Int)):=he;have HK:=lH hk;clear hk;go_wp2;go_ret;refine⟨?_,HK.out⟩;rw[HQ.out,HV.out];first | rfl | (simp;omega)
 | false =>
  clear hq hv;go_enter Tryz.func72,Tryz.ntmps72;go_wp2_with fail
  refine H.out.mono ?_;rintro e w1 ⟨he,hk⟩;obtain rfl:e=.panicked [jG 5]:=he;have HK:=lH hk;clear hk;go_wp2;refine⟨rfl,?_,HK.out⟩;rw[HQ.out];rfl
def jW (p:List UInt8) (i:Nat):List UInt8:=(ja 58 p).getD i []
def jq (p:List UInt8):Int×Int×Int:=((Vec.valL (jW p 0):Int),(Vec.valL (jW p 1):Int),(Vec.valL (jW p 2):Int))
def jV (p:List UInt8):Bool:=inQ (jW p 0)&&(inQ (jW p 1)&&inQ (jW p 2))
def ql (p:List UInt8) (w:World) (e:Ending) (w':World):Prop:=(jV p=true→e=.returned (.agg #[.int .i64 (jq p).1,.int .i64 (jq p).2.1,.int .i64 (jq p).2.2]))∧(jV p=false→e=.panicked [jG 5])∧Kept w w'
theorem JT {p:List UInt8} (h:(ja 58 p).length=3) (i:Nat) (hi:i<3):(ja 58 p)[i]?=some (jW p i):=by
 unfold jW;rw[List.getElem?_eq_getElem (by omega)];simp[List.getD,show i<(ja 58 p).length by omega]
theorem X9 (p:List UInt8) (h:jV p=true):I64 (jq p).1∧I64 (jq p).2.1∧I64 (jq p).2.2:=by
 unfold jV inQ at h;simp only[Bool.and_eq_true,decide_eq_true_eq] at h;obtain⟨h1,h2,h3⟩:=h;unfold jq I64;exact⟨⟨by dsimp only;omega,by dsimp only;omega⟩,⟨by dsimp only;omega,by dsimp only;omega⟩,⟨by dsimp only;omega,by dsimp only;omega⟩⟩
theorem qT (p:List UInt8) (w:World) (hE:Vec.Env w) (hp:p.length≤1000000) (hd:jA 58 3 p=true):Calls Tryz.prog 98 #[.string (bytes p)] w (ql p w):=by
 obtain⟨W0,hW0⟩:=eX (w.alloc (.cells #[.int .i64 0,.int .i64 0,.int .i64 0] 46))
 have hk0:Kept w W0:=by rw[←hW0];exact jb _ _
 have HZ:=lH (js w (.int .i64 0) [.int .i64 0,.int .i64 0] 46 W0 (by rw[hW0];exact Kept.refl _));obtain⟨zb,hzb⟩:=eX (w.heap.size)
 rw[hzb] at HZ;have Rp:=lH hzb;have HN:=lH (JG p W0 (hE.kept hk0).base hp);unfold Z6 at HN;obtain⟨h3,hall⟩:=Jb hd;have HT:=lH hd;have HK:=lH hk0;have hm0:=List.mem_of_getElem? (JT h3 0 (by decide));have H0:=lH (fun W (k:Kept w W)=>Z4 (jW p 0) W (hE.kept k) (Nat.le_trans (jz 58 p _ hm0) hp) (hall _ hm0));have Uu:=lH (JT h3 0 (by decide));unfold Z3 at H0;have hm1:=List.mem_of_getElem? (JT h3 1 (by decide));have H1:=lH (fun W (k:Kept w W)=>JM (jW p 1) W (hE.kept k) (Nat.le_trans (jz 58 p _ hm1) hp) (hall _ hm1));have UI:=lH (JT h3 1 (by decide));unfold Z3 at H1;have hm2:=List.mem_of_getElem? (JT h3 2 (by decide));have H2:=lH (fun W (k:Kept w W)=>Z4 (jW p 2) W (hE.kept k) (Nat.le_trans (jz 58 p _ hm2) hp) (hall _ hm2));have Ug:=lH (JT h3 2 (by decide));unfold Z3 at H2;have VN:=lH (show jV p=(inQ (jW p 0)&&(inQ (jW p 1)&&inQ (jW p 2))) from rfl);have VO:=lH (show jq p=((Vec.valL (jW p 0):Int),(Vec.valL (jW p 1):Int),(Vec.valL (jW p 2):Int)) from rfl);obtain⟨n0,hn0⟩:=eX (jW p 0)
 rw[hn0] at H0 Uu VN VO;obtain⟨q0,hq0⟩:=eX (inQ n0)
 obtain⟨v0,hv0⟩:=eX (Vec.valL n0)
 rw[hq0] at VN H0;rw[hv0] at VO H0;clear hn0 hq0 hv0 hm0;obtain⟨n1,hn1⟩:=eX (jW p 1)
 rw[hn1] at H1 UI VN VO;obtain⟨q1,hq1⟩:=eX (inQ n1)
 obtain⟨v1,hv1⟩:=eX (Vec.valL n1)
 rw[hq1] at VN H1;rw[hv1] at VO H1;clear hn1 hq1 hv1 hm1;obtain⟨n2,hn2⟩:=eX (jW p 2)
 rw[hn2] at H2 Ug VN VO;obtain⟨q2,hq2⟩:=eX (inQ n2)
 obtain⟨v2,hv2⟩:=eX (Vec.valL n2)
 rw[hq2] at VN H2;rw[hv2] at VO H2;clear hn2 hq2 hv2 hm2;clear hE hd h3 hall hk0;go_enter Tryz.func98,Tryz.ntmps98;go_wp2_with fail
 try rw[hW0]
 try rw[hzb]
 clear hW0 hzb;refine HN.out.mono ?_;rintro e w1 ⟨ha,-,hk⟩;obtain⟨g,cap,rfl,hc⟩:=ha HT.out;obtain⟨HC,HZ,HK⟩:=lH3 (show ∀W,Kept w1 W→W.cell? ⟨g,0,none⟩=some (.string (bytes n0))∧W.cell? ⟨g,1,none⟩=some (.string (bytes n1))∧W.cell? ⟨g,2,none⟩=some (.string (bytes n2)) from fun W k=>⟨cell_later k (hc 0 _ Uu.out),cell_later k (hc 1 _ UI.out),cell_later k (hc 2 _ Ug.out)⟩) (HZ.out.kept hk) (HK.out.trans hk);clear ha hk hc HN;go_upto_region 2 with fail
 have J:=lH (Kept.drew w1);refine wp_region_held_drew (S:=fun W=>W.cell? ⟨g,0,none⟩=some (.string (bytes n0))∧W.cell? ⟨g,1,none⟩=some (.string (bytes n1))∧W.cell? ⟨g,2,none⟩=some (.string (bytes n2))) (by kernel_rfl) (HC.out _ J.out) (fun hHeld=>?_);obtain⟨wd,hwd⟩:=eX (w1.drew)
 rw[hwd] at J hHeld;try rw[hwd]
 clear hwd;refine tR 0 rfl (by kernel_rfl) (fun _ _ _=>id) (Or.inl ⟨by rfl,by rintro W ⟨o0,o1,o2⟩;go_simp<;>with_reducible rfl⟩) ‹_› ?_;try simp only[nA,nB,nC,nD,nE]
 refine tR 1 rfl (by kernel_rfl) (fun _ _ _=>id) (Or.inl ⟨by rfl,by rintro W ⟨o0,o1,o2⟩;go_simp<;>with_reducible rfl⟩) ‹_› ?_;try simp only[nA,nB,nC,nD,nE]
 refine tR 2 rfl (by kernel_rfl) (fun _ _ _=>id) (Or.inl ⟨by rfl,by rintro W ⟨o0,o1,o2⟩;go_simp<;>with_reducible rfl⟩) ‹_› ?_;try simp only[nA,nB,nC,nD,nE]
 refine tR 4 rfl (by kernel_rfl) (fun _ _ _=>id) (Or.inl ⟨by rfl,by rintro W ⟨o0,o1,o2⟩;go_simp<;>with_reducible rfl⟩) ‹_› ?_;try simp only[nA,nB,nC,nD,nE]
 refine tR 5 rfl (by kernel_rfl) (fun _ _ _=>id) (Or.inl ⟨by rfl,by rintro W ⟨o0,o1,o2⟩;go_simp<;>with_reducible rfl⟩) ‹_› ?_;try simp only[nA,nB,nC,nD,nE]
 refine tR 6 rfl (by kernel_rfl) (fun _ _ _=>id) (Or.inl ⟨by rfl,by rintro W ⟨o0,o1,o2⟩;go_simp<;>with_reducible rfl⟩) ‹_› ?_;try simp only[nA,nB,nC,nD,nE]
 refine tR 8 rfl (by kernel_rfl) (fun _ _ _=>id) (Or.inl ⟨by rfl,by rintro W ⟨o0,o1,o2⟩;go_simp<;>with_reducible rfl⟩) ‹_› ?_;try simp only[nA,nB,nC,nD,nE]
 refine tR 9 rfl (by kernel_rfl) (fun _ _ _=>id) (Or.inl ⟨by rfl,by rintro W ⟨o0,o1,o2⟩;go_simp<;>with_reducible rfl⟩) ‹_› ?_;try simp only[nA,nB,nC,nD,nE]
 refine tR 10 rfl (by kernel_rfl) (fun _ _ _=>id) (Or.inl ⟨by rfl,by rintro W ⟨o0,o1,o2⟩;go_simp<;>with_reducible rfl⟩) ‹_› ?_;try simp only[nA,nB,nC,nD,nE]
 refine rd1 3 fun K9 Ky=>?_;go_simp;refine(H0.out _ (HK.out.trans J.out)).mono ?_;rintro e w2 ⟨he,kk⟩
 cases q0 with
 | false =>
  obtain rfl:e=.panicked [jG 5]:=he;exact⟨rfl,⟨fun h=>(by rw[VN.out] at h;simp at h),fun _=>rfl,HK.out.trans (J.out.trans kk)⟩⟩
 | true =>
  obtain rfl:e=.returned (.int .i64 (v0:Int)):=he;have J:=lH (J.out.trans kk);clear kk;refine Ky.out _ _ (HC.out _ J.out) (fun _=>?_);clear Ky K9;try simp only[nA,nB,nC,nD,nE]
  refine rd1 7 fun K9 Ky=>?_;go_simp;refine(H1.out _ (HK.out.trans J.out)).mono ?_;rintro e w3 ⟨he,kk⟩
  cases q1 with
  | false =>
   obtain rfl:e=.panicked [jG 5]:=he;exact⟨rfl,⟨fun h=>(by rw[VN.out] at h;simp at h),fun _=>rfl,HK.out.trans (J.out.trans kk)⟩⟩
  | true =>
   obtain rfl:e=.returned (.int .i64 (v1:Int)):=he;have J:=lH (J.out.trans kk);clear kk;refine Ky.out _ _ (HC.out _ J.out) (fun _=>?_);clear Ky K9;try simp only[nA,nB,nC,nD,nE]
   refine rd1 11 fun K9 Ky=>?_;go_simp;refine(H2.out _ (HK.out.trans J.out)).mono ?_;rintro e w4 ⟨he,kk⟩
   cases q2 with
   | false =>
    obtain rfl:e=.panicked [jG 5]:=he;exact⟨rfl,⟨fun h=>(by rw[VN.out] at h;simp at h),fun _=>rfl,HK.out.trans (J.out.trans kk)⟩⟩
   | true =>
    obtain rfl:e=.returned (.int .i64 (v2:Int)):=he;have J:=lH (J.out.trans kk);clear kk;refine Ky.out _ _ (HC.out _ J.out) (fun _=>?_);clear Ky K9;try simp only[nA,nB,nC,nD,nE]
    refine tR 12 rfl (by kernel_rfl) (fun _ _ _=>id) (Or.inl ⟨by rfl,by rintro W ⟨o0,o1,o2⟩;go_simp<;>with_reducible rfl⟩) ‹_› ?_;try simp only[nA,nB,nC,nD,nE]
    have HZ:=lH (HZ.out.kept J.out);obtain⟨z0,z1,z2⟩:=HZ.out.at3;have f0:=HZ.out.free 0;have f1:=HZ.out.free 1;have f2:=HZ.out.free 2;have P:=lH (zl (vs:=[.int .i64 (v0:Int),.int .i64 (v1:Int),.int .i64 (v2:Int)]) HZ.out rfl);refine rd1 13 fun K9 Ky=>?_;go_simp;obtain⟨WE,hWE⟩:=eX (w4.setCells zb 0 [.int .i64 (v0:Int),.int .i64 (v1:Int),.int .i64 (v2:Int)])
    have hWE2:(((w4.setCell ⟨zb,0,none⟩ (.int .i64 (v0:Int))).setCell ⟨zb,1,none⟩ (.int .i64 (v1:Int))).setCell ⟨zb,2,none⟩ (.int .i64 (v2:Int)))=WE:=hWE;rw[hWE] at P;try rw[hWE2]
    have hne:g≠zb:=fun e=>by
     obtain⟨c0,-,-⟩:=HC.out _ J.out;rw[e,z0] at c0
     cases c0
    have HG:=lH (show WE.cell? ⟨g,0,none⟩=some (.string (bytes n0))∧WE.cell? ⟨g,1,none⟩=some (.string (bytes n1))∧WE.cell? ⟨g,2,none⟩=some (.string (bytes n2)) by
     have e:∀j,WE.cell? ⟨g,j,none⟩=w4.cell? ⟨g,j,none⟩:=fun j=>World.cell?_of_block (a:=⟨g,j,none⟩) (P.out.far g hne);simp only[e];exact HC.out _ J.out)
    clear hWE hWE2 z0 z1 z2 f0 f1 f2 hne;refine Ky.out _ _ (HG.out) (fun _=>?_);clear Ky K9;try simp only[nA,nB,nC,nD,nE]
    refine wpAnyH_done (by kernel_rfl) ?_ _;go_wp2;have PC:=P.out.cells;refine bodyPost_ret (by simp[results,Tryz.results98,go_sem,PC.at_ 0 _ rfl,PC.at_ 1 _ rfl,PC.at_ 2 _ rfl];try rfl) rfl ?_;exact⟨fun _=>by rw[VO.out],fun h=>(by rw[VN.out] at h;cases h),P.out.below _ _ (by rw[Rp.out];exact Nat.le_refl _) (HK.out.trans J.out)⟩
open Go.RowKit Go.Shelf
theorem Xj (sep c:UInt8) (t:List UInt8):ja sep (c::t)=if c=sep then []::ja sep t else match ja sep t with
 | []=>[[c]]
 | p::ps=>(c::p)::ps:=rfl
theorem YK (sep c:UInt8) (t:List UInt8):Lib.index (c::t) [sep]=if c=sep then 0 else if Lib.index t [sep]==-1 then -1 else Lib.index t [sep]+1:=by
 rw[Lib.index];by_cases h:c=sep
 · subst h;rw[if_pos rfl,if_pos (by simp[List.isPrefixOf])]
 · rw[if_neg h,if_neg (by simp[List.isPrefixOf];exact fun e=>h e.symm)]
theorem ZG (sep:UInt8):∀(l:List UInt8),Lib.index l [sep]<0→ja sep l=[l]
 | [],_=>rfl
 | c::t,h=>by
  rw[YK] at h;by_cases hc:c=sep
  · rw[if_pos hc] at h;omega
  · rw[if_neg hc] at h;have ht:Lib.index t [sep]<0:=by
     split at h
     · rename_i e;have:Lib.index t [sep]=-1:=by simpa using e
       omega
     · omega
    unfold ja;rw[if_neg hc,ZG sep t ht]
theorem ZH (sep:UInt8):∀(l:List UInt8) (i:Nat),Lib.index l [sep]=(i:Int)→i<l.length∧ja sep l=l.take i::ja sep (l.drop (i+1))
 | [],i,h=>by simp[Lib.index] at h
 | c::t,i,h=>by
  rw[YK] at h;by_cases hc:c=sep
  · rw[if_pos hc] at h;obtain rfl:i=0:=by omega
    refine⟨by simp,?_⟩;rw[Xj,if_pos hc];rfl
  · rw[if_neg hc] at h;split at h
    · omega
    · rename_i e;have hge:=Lib.index_ge t [sep];have hne:Lib.index t [sep]≠-1:=by simpa using e
      obtain⟨j,hj⟩:=Int.eq_ofNat_of_zero_le (show 0≤Lib.index t [sep] by omega);obtain⟨h1,h2⟩:=ZH sep t j hj;obtain rfl:i=j+1:=by omega
      refine⟨by simpa using h1,?_⟩;rw[ja,if_neg hc,h2];simp
theorem XP (sep:UInt8) (n:Nat) (hn:1≤n) (l b1 b2 b3:Nat) (s:List UInt8) (hs:s.length≤1000000) (J:Nat→World→Prop) (Jp:List PanicEntry→World→Prop)
 (hY:ja8 Fence.wide n l b1 b2 b3 (ja sep s) J Jp) (h12:b1≠b2) (h32:b3≠b2) (W:World)
 (c1:W.cell? ⟨b1,0,none⟩=some (.string ⟨#[sep]⟩)) (c2:W.cell? ⟨b2,0,none⟩=some (.string (bytes s))) (c3:W.cell? ⟨b3,0,none⟩=some (.int .i64 0))
 (z2:W.frozen? ⟨b2,0,none⟩=false) (h0:J 0 W) :
 CallsIn Fence.wide n Tryz.prog 128 #[.func (.yield l) #[] #[],.pointer (some ⟨b1,0,none⟩),.pointer (some ⟨b2,0,none⟩),.pointer (some ⟨b3,0,none⟩)] W (Z8 (ja sep s).length J Jp):=by
 have HY:=lH hY;have H0:=lH h0;clear hY h0;refine callsIn_of_wp Tryz.func128 rfl trivial ?_ rfl;simp only[Tryz.ntmps128,List.size_toArray,List.length_cons,List.length_nil,Nat.reduceAdd,Nat.reduceSub,Array.replicate_succ,Array.replicate_zero,List.push_toArray,List.append_toArray,List.nil_append,List.cons_append];gi_wp2
 gi_loopw [7] (fun i wr=>∃(k:Nat) (rest:List UInt8),ja sep rest=(ja sep s).drop k∧rest.length≤s.length∧wr.cell? ⟨b1,0,none⟩=some (.string ⟨#[sep]⟩)∧wr.cell? ⟨b2,0,none⟩=some (.string (bytes rest))∧wr.cell? ⟨b3,0,none⟩=some (.int .i64 0)∧wr.frozen? ⟨b2,0,none⟩=false∧J k wr)
  (fun i wr=>Yo wr b2)
 case atStart=>exact⟨0,s,rfl,Nat.le_refl _,c1,c2,c3,z2,H0.out⟩
 case round =>
  obtain⟨k,rest,hp,hl,c1,c2,c3,z2,hJ⟩:=hrel;have HJ:=lH hJ;have HP:=lH hp;have hl6:rest.length≤1000000:=Nat.le_trans hl hs;have hsz:(bytes rest).size=rest.length:=by simp[bytes,ByteArray.size]
  have Vy:=lH hsz;obtain⟨m,hm⟩:=HY.out.env k wr hJ;by_cases hix:Lib.index rest [sep]<0
  · have hone:=ZG sep rest hix;have IX:=lH (show Calls Tryz.prog 127 #[.string (bytes rest),.string ⟨#[sep]⟩] wr fun e w'=>e=.returned (.int .i64 (Lib.index rest [sep]))∧w'=wr from Tryz.strings_Index (bytes rest) ⟨#[sep]⟩ m wr (by omega) hm);have hk:(ja sep s)[k]?=some rest:=by
     have:=congrArg (fun x=>x[0]?) hp;rw[hone] at this;simpa using this.symm
    have HN:=lH (show k+1=(ja sep s).length by
     have:=congrArg List.length hp;rw[hone,List.length_drop] at this;simp only[List.length_cons,List.length_nil] at this;omega)
    obtain⟨fn,tmps,assign,body,hy,hR⟩:=HY.out.yields k rest wr hk hJ;have HR:=lH hR;obtain⟨ix,hixe⟩:=eX (Lib.index rest [sep])
    rw[hixe] at IX hix;clear hm hJ hp hone hk hR hsz hixe;gi_wp2_with (refine⟨trivial,?_⟩;gi_at_call 127;refine(callsIn_wide.2 IX.out).mono ?_;rintro e w' ⟨rfl,rfl⟩)
    refine HR.out.mono ?_;rintro e W' (⟨rfl,hJ',hk'⟩ | ⟨c,rfl,hp'⟩)
    · have HJ':=lH hJ';clear hJ' hk';gi_wp2
      go_end0
      exact .inl ⟨⟨_,rfl⟩,by rw[←HN.out];exact HJ'.out⟩
    · have HP':=lH hp';clear hp';gi_wp2
      exact⟨rfl,.inr ⟨c,rfl,HP'.out⟩⟩
  · obtain⟨i,hi⟩:=Int.eq_ofNat_of_zero_le (show 0≤Lib.index rest [sep] by omega);obtain⟨hlt,hsome⟩:=ZH sep rest i hi;have IX:=lH (show Calls Tryz.prog 127 #[.string (bytes rest),.string ⟨#[sep]⟩] wr fun e w'=>e=.returned (.int .i64 (i:Int))∧w'=wr by
     have:=Tryz.strings_Index (bytes rest) ⟨#[sep]⟩ m wr (by omega) hm;rw[show Lib.index (bytes rest).data.toList [sep]=(i:Int) from hi] at this;exact this)
    have hk:(ja sep s)[k]?=some (rest.take i):=by
     have:=congrArg (fun x=>x[0]?) hp;rw[hsome] at this;simpa using this.symm
    have HN:=lH (show ja sep (rest.drop (i+1))=(ja sep s).drop (k+1) by
     have:=congrArg (fun x=>x.drop 1) hp;rw[hsome] at this;simpa [List.drop_drop] using this)
    obtain⟨fn,tmps,assign,body,hy,hR⟩:=HY.out.yields k (rest.take i) wr hk hJ;have HR:=lH hR;have hfrag:(bytes rest).extract 0 i=bytes (rest.take i):=by
     apply Go.WideShapes.bytes_inj;simp[bytes,ByteArray.data_extract]
    have hrest:(bytes rest).extract (i+1) rest.length=bytes (rest.drop (i+1)):=by
     apply Go.WideShapes.bytes_inj;simp[bytes,ByteArray.data_extract,List.take_of_length_le]
    have Vf:=lH hrest;have Td:=lH HY.out.store;clear hm hJ hp hsome hk hR hix hi hrest;have hi1:(i:Int)≤((bytes rest).size:Int):=by rw[hsz];omega
    gi_wp2_with (refine⟨trivial,?_⟩;gi_at_call 127;refine(callsIn_wide.2 IX.out).mono ?_;rintro e w' ⟨rfl,rfl⟩)
    refine HR.out.mono ?_;rintro e W' (⟨rfl,hJ',hk'⟩ | ⟨c,rfl,hp'⟩)
    · have HJ':=lH hJ';obtain⟨d1,y1⟩:=hk' b1 (.inl rfl);obtain⟨d2,y2⟩:=hk' b2 (.inr (.inl rfl));obtain⟨d3,y3⟩:=hk' b3 (.inr (.inr rfl));have e1:=d1.trans c1;have e2:=d2.trans c2;have e3:=d3.trans c3;have x2:=y2.trans z2;have hsz':=Vy.out;have hrest:=Vf.out;have hi2:((i:Int)+1)≤((bytes rest).size:Int):=by rw[hsz'];omega
      have hi3:((i:Int)+1).toNat=i+1:=by omega
      obtain⟨E1,E2,E3,X2,C2⟩:=lH5 e1 e2 e3 x2 c2;clear hJ' hk' d1 d2 d3 y1 y2 y3 c1 c2 c3 z2;gi_wp2
      go_roundw
      case rel =>
       exact⟨k+1,rest.drop (i+1),HN.out,by rw[List.length_drop];omega,
        by rw[World.cell?_setCell_other _ _ _ _ (by intro e;injection e with e;exact h12 e.symm)];exact E1.out,
        World.cell?_setCell_same' _ _ _ (by rw[E2.out];rfl),
        by rw[World.cell?_setCell_other _ _ _ _ (by intro e;injection e with e;exact h32 e.symm)];exact E3.out,
        by rw[World.frozen?_setCell];exact X2.out,Td.out _ _ _ HJ'.out⟩
      case measure =>
       unfold Yo;rw[World.cell?_setCell_same' _ _ _ (by rw[E2.out];rfl),C2.out];simp[bytes,ByteArray.size];omega
    · have HP':=lH hp';clear hp';gi_wp2
      exact⟨rfl,.inr ⟨c,rfl,HP'.out⟩⟩
attribute [local go_sem] Oper.semAt_some
theorem Je {fid:FuncId} {P:Program} {Q:Exit→Act→World→Prop} {a:Act} {w:World} {id:Nat} {c:Code} (h:zG fid P c (Exit.inBlock id Q) a w):zG fid P (Code.block id c) Q a w:=by
 intro b k cs hb hro;have h0:=StepsIn.one (I:=Machine.fenced P Fence.wide) (fenced_wide P _) (stepR_block (P:=P) (b:=b) (a:=a) (k:=k) (cs:=cs) (w:=w) (id:=id) (c:=c));obtain⟨e,a₁,w₁,hq,harr⟩:=h b (.inBlock id::k) cs hb hro
 cases e with
 | normal=>exact⟨.normal,a₁,w₁,hq,(h0.trans harr).trans (.one (fenced_wide P _) stepR_inBlock)⟩
 | exit id' =>
  by_cases hid:id'=id
  · simp only[Exit.inBlock,hid,if_true] at hq;exact⟨.normal,a₁,w₁,hq,h0.trans (harr.1 k (by simp[exitTo,hid]))⟩
  · simp only[Exit.inBlock,hid,if_false] at hq;have this:(id==id')=false:=by simp;exact fun h=>hid h.symm
    have hx:exitTo id' (.inBlock id::k)=exitTo id' k:=by simp[exitTo,this]
    exact⟨.exit id',a₁,w₁,hq,fun k' hk=>h0.trans (harr.1 k' (by rw[hx];exact hk)),
     fun hr' hk=>let ⟨k₁,h1,h2⟩:=harr.2 hr' (by rw[hx];exact hk);⟨k₁,h1,h0.trans h2⟩⟩
 | goto l =>
  have hx:gotoIn l (.inBlock id::k)=gotoIn l k:=by simp[gotoIn]
  exact⟨_,a₁,w₁,hq,fun k' hk=>h0.trans (harr.1 k' (by rw[hx];exact hk)),
   fun hr' hk=>let ⟨k₁,h1,h2⟩:=harr.2 hr' (by rw[hx];exact hk);⟨k₁,h1,h0.trans h2⟩⟩
 | ret=>exact⟨_,a₁,w₁,hq,.of_steps h0 harr⟩
 | panic ch=>exact⟨_,a₁,w₁,hq,.of_steps h0 harr⟩
 | outgrown=>exact⟨_,a₁,w₁,hq,.of_steps h0 harr⟩
def zV (fid:FuncId) (P:Program) (c:Code) (Q:Exit→Act→World→Prop):Nat→Act→World→Prop
 | 0,_,_=>False
 | m+1,a,w=>zG fid P c (Exit.then (zV fid P c Q m) Q) a w
theorem YU {fid:FuncId} {P:Program} {Q:Exit→Act→World→Prop} {a:Act} {w:World} {c:Code} (m:Nat) (h:zV fid P c Q m a w):zG fid P (Code.loop c) Q a w:=by
 intro b k cs hb hro;have key:∀m a w,zV fid P c Q m a w →
  ∃e a' w',Q e a' w'∧ArrivesIn (Machine.fenced P Fence.wide) P (lone (b.atR a (.code c::.inLoop c::k)) cs w) b k cs e a' w':=by
  intro m
  induction m with
  | zero=>intro a w h;exact h.elim
  | succ m ih =>
   intro a w h;obtain⟨e,a₁,w₁,hq,harr⟩:=h b (.inLoop c::k) cs hb hro
   cases e with
   | normal =>
    obtain⟨e₂,a₂,w₂,hq₂,harr₂⟩:=ih a₁ w₁ hq;exact⟨e₂,a₂,w₂,hq₂,.of_steps (StepsIn.trans harr (.one (fenced_wide P _) stepR_inLoop)) harr₂⟩
   | exit id=>exact⟨_,a₁,w₁,hq,.pass (x:=.inLoop c) rfl (fun _ _=>.inl (by simp)) harr⟩
   | goto l=>exact⟨_,a₁,w₁,hq,.pass (x:=.inLoop c) rfl (fun _ _=>.inl (by simp)) harr⟩
   | ret=>exact⟨_,a₁,w₁,hq,.pass (x:=.inLoop c) rfl (fun _ _=>.inl (by simp)) harr⟩
   | panic ch=>exact⟨_,a₁,w₁,hq,.pass (x:=.inLoop c) rfl (fun _ _=>.inl (by simp)) harr⟩
   | outgrown=>exact⟨_,a₁,w₁,hq,.pass (x:=.inLoop c) rfl (fun _ _=>.inl (by simp)) harr⟩
 obtain⟨e,a',w',hq,harr⟩:=key m a w h;exact⟨e,a',w',hq,.of_steps (.one (fenced_wide P _) stepR_loop) harr⟩
theorem RoundIn.inner {m m' l l2:Nat} {P:Program} {f:FuncId} {tmps:Array Value} {assign body:Code} {w:World} {R:Ending→World→Prop} (h:RoundIn Fence.wide m P l f tmps assign body w R):RoundIn (Fence.wide.inRound l2) m' P l f tmps assign body w R :=
 ⟨trivial,fun c cs _=>h.2 c cs (room_wide _)⟩
theorem qa (sep:UInt8) {g:Operand} {t:Tmp} {assign body:Code} {Q:Exit→Act→World→Prop} {a:Act} {w:World} {n fid:Nat} {fn:Func} (hfn:Tryz.prog.funcs[fid]?=some fn) (hn:2≤n)
 (b1 b2 b3:Nat) (hg:a.eval g=.func (.func 128) #[] #[.pointer (some ⟨b1,0,none⟩),.pointer (some ⟨b2,0,none⟩),.pointer (some ⟨b3,0,none⟩)])
 (s:List UInt8) (hs:s.length≤1000000) (h12:b1≠b2) (h32:b3≠b2) (hb1:b1<w.heap.size) (hb2:b2<w.heap.size) (hb3:b3<w.heap.size)
 (c1:w.cell? ⟨b1,0,none⟩=some (.string ⟨#[sep]⟩)) (c2:w.cell? ⟨b2,0,none⟩=some (.string (bytes s))) (c3:w.cell? ⟨b3,0,none⟩=some (.int .i64 0)) (z2:w.frozen? ⟨b2,0,none⟩=false)
 (I:Nat→World→Prop) (JP:List PanicEntry→World→Prop) (hI:∀k W W',I k W→St b2 w.heap.size W W'→I k W') (hE:∀k W,I k W→Env W) (h0:I 0 w) (a₁:ByteArray→Act)
 (hassign:∀(l:Nat) (x:ByteArray) (W:World) (K:Act→World→Prop),K (a₁ x) W →
   assign.wpIn (Fence.wide.inRound l) (n-1) Tryz.prog (Exit.then K (fun _ _ _=>False)) { tmps:=(#[t].zip #[Value.string x]).foldl (fun tt (p,v)=>tt.setIfInBounds p v) a.tmps,defers:=[] } W)
 (hbody:∀(l k:Nat) (p:List UInt8) (W:World),(ja sep s)[k]?=some p→I k W→w.heap.size+2≤W.heap.size→body.wpIn (Fence.wide.inRound l) (n-1) Tryz.prog (jbL b1 b2 b3 w.heap.size k I JP W) (a₁ (bytes p)) W)
 (hdone:∀(W:World),I (ja sep s).length W→W.heap[w.heap.size]?=some (.deferred (some []))→Q .normal { a with defers:={ target:=.collected w.heap.size,args:=#[] }::a.defers } W)
 (hpanic:∀(c:List PanicEntry) (W:World),JP c W→W.heap[w.heap.size]?=some (.deferred (some []))→Q (.panic c) { a with defers:={ target:=.collected w.heap.size,args:=#[] }::a.defers } W) :
 zG fid Tryz.prog (Code.rangeFunc g #[t] assign body) Q a w:=by
 obtain⟨rec,hrec⟩:∃rec:LoopState→Option Code→Loop,rec=fun st pe=>{ state:=st,pending:=pe,fn:=fid,tmps:=a.tmps,params:=#[t],assign,body,defers:=w.heap.size }:=⟨_,rfl⟩
 obtain⟨W1,hW1⟩:=eX ((w.alloc (.deferred (some []))).alloc (.loop (rec .ready none)))
 have hL1:W1.heap[w.heap.size+1]?=some (.loop (rec .ready none)):=by
  rw[←hW1];have:=World.alloc_heap_new (w.alloc (.deferred (some []))) (.loop (rec .ready none));rwa [World.size_alloc] at this
 have hK1:W1.heap[w.heap.size]?=some (.deferred (some [])):=by
  rw[←hW1];exact(Below.heap_alloc _ _ _ (by simp)).trans (World.alloc_heap_new w _)
 have hS1:St b2 w.heap.size w W1:=by rw[←hW1];exact St.begin b2 w _ _
 have hB1:Below w.heap.size w W1:=by rw[←hW1];exact(jb w _).trans (jb _ _)
 refine zZ (n:=n) (l:=w.heap.size+1) (mark:=[{ target:=.collected w.heap.size,args:=#[] }]) (w₁:=W1) (d:={ target:=.fn (.func 128) #[.pointer (some ⟨b1,0,none⟩),.pointer (some ⟨b2,0,none⟩),.pointer (some ⟨b3,0,none⟩)],args:=#[.func (.yield (w.heap.size+1)) #[] #[]] })
  (f:=128) (args:=#[.func (.yield (w.heap.size+1)) #[] #[],.pointer (some ⟨b1,0,none⟩),.pointer (some ⟨b2,0,none⟩),.pointer (some ⟨b3,0,none⟩)]) ?_ ?_ ?_ ?_
 · rw[←hW1,hrec];exact run_enterLoop_outer _ _ _ _ _
 · simp only[resolve,hg];simp[go_sem]
 · have eg:=enters_of (P:=Tryz.prog) Tryz.func128 (by kernel_rfl) rfl;simp[invoke,go_sem,eg]
 · refine(XP sep n (by omega) (w.heap.size+1) b1 b2 b3 s hs
    (fun k W=>I k W∧W.heap[w.heap.size+1]?=some (.loop (rec .ready none))∧W.heap[w.heap.size]?=some (.deferred (some [])))
    (fun c W=>JP c W∧W.heap[w.heap.size]?=some (.deferred (some [])))
    ⟨?_,?_,?_,?_⟩ h12 h32 W1 ((hB1.cell (p:=⟨b1,0,none⟩) hb1).trans c1) ((hB1.cell (p:=⟨b2,0,none⟩) hb2).trans c2) ((hB1.cell (p:=⟨b3,0,none⟩) hb3).trans c3)
    ((hB1.frozen (p:=⟨b2,0,none⟩) hb2).trans z2) ⟨hI 0 w W1 h0 hS1,hL1,hK1⟩).mono ?_
   · rintro k p W hp ⟨hi,hl,hk⟩;have hlt:w.heap.size+1<W.heap.size:=(Array.getElem?_eq_some_iff.1 hl).1;have hy:=run_yield (P:=Tryz.prog) (args:=#[.string (bytes p)]) hl (by rw[hrec];rfl);rw[hrec] at hy;refine⟨fid,_,assign,body,hy,zi trivial hfn ?_⟩;refine hassign _ (bytes p) W _ ?_;refine⟨_,run_beginRound hl (by rw[hrec]),?_⟩;have hl2:(W.putObj (w.heap.size+1) (.loop { rec .ready none with state:=.busy })).heap[w.heap.size+1]?=some (.loop { rec .ready none with state:=.busy }):=World.putObj_heap_same hlt;have hk2:(W.putObj (w.heap.size+1) (.loop { rec .ready none with state:=.busy })).heap[w.heap.size]?=some (.deferred (some [])):=(World.putObj_heap_other (by omega)).trans hk;refine wpIn_mono (hbody _ k p _ hp (hI k _ _ hi (St.put W _)) (by simp;omega)) ?_;rintro e a3 W3 hp3
     cases e with
     | normal =>
      obtain⟨hk3,hi3⟩:=hp3;have hl3:=(hk3 (w.heap.size+1) (by simp)).trans hl2;have hr:=run_endRound (P:=Tryz.prog) none hl3;refine⟨_,_,hr,.inl ⟨rfl,⟨hI _ _ _ hi3 (St.put W3 _),?_,?_⟩,?_⟩⟩
      · rw[World.putObj_heap_same (Array.getElem?_eq_some_iff.1 hl3).1,hrec];rfl
      · exact((World.putObj_heap_other (by omega)).trans (hk3 w.heap.size (by simp))).trans hk2
      · refine ZN fun b hb=>?_;have hbl:b≠w.heap.size+1:=by rcases hb with h | h | h<;>omega
        exact((World.putObj_heap_other hbl).trans (hk3 b (by rcases hb with h | h | h<;>simp[h]))).trans (World.putObj_heap_other hbl)
     | panic c =>
      obtain⟨hd,hk3,hj⟩:=hp3;exact⟨hd,.inr ⟨c,rfl,hj,(hk3 w.heap.size (by simp)).trans hk2⟩⟩
     | ret=>exact hp3.elim
     | exit id=>exact hp3.elim
     | goto t=>exact hp3.elim
     | outgrown=>exact hp3.elim
   · rintro k W x ⟨hi,hl,hk⟩;exact⟨hI _ _ _ hi (St.setCell W _),(Below.heap_setCell W ⟨b2,0,none⟩ _ _ (by simp;omega)).trans hl,(Below.heap_setCell W ⟨b2,0,none⟩ _ _ (by simp;omega)).trans hk⟩
   · rintro k W m ⟨hi,hl,hk⟩;exact⟨hI _ _ _ hi (St.drewN W _),hl,hk⟩
   · rintro k W ⟨hi,_,_⟩;exact(hE k W hi).most
   · rintro e W2 (⟨⟨v,rfl⟩,hi,hl,hk⟩ | ⟨c,rfl,hj,hk⟩)
     · exact⟨_,run_endLoop (P:=Tryz.prog) hl (by rw[hrec];simp) |>.trans (by rw[hrec]),hdone _ (hI _ _ _ hi (St.put W2 _)) ((World.putObj_heap_other (by omega)).trans hk)⟩
     · exact hpanic c W2 hj hk
end Go.Proofs.YtnfojaidmnccoaaGreatDoor
namespace Go.Proofs.YtnfojaidmnccoaaGreatDoor
open Go.RowKit Go.Shelf
attribute [local go_sem] Oper.semAt_some
structure StR (lo hi:Nat) (W W':World):Prop where
 os:W'.os=W.os
 tape:W'.tape=W.tape
 output:W'.output=W.output
 size:W.heap.size≤W'.heap.size
 block:∀b,b<lo∨hi≤b→W'.heap[b]?=W.heap[b]?
theorem StR.of {b2 D lo hi:Nat} {W W':World} (h:St b2 D W W') (h2:lo≤b2∧b2<hi) (hD:lo≤D∧D+1<hi):StR lo hi W W' :=
 ⟨h.os,h.tape,h.output,h.size,fun b hb=>h.block b (by omega) (by omega) (by omega)⟩
theorem StR.wider {lo hi lo' hi':Nat} {W W':World} (h:StR lo hi W W') (hl:lo'≤lo) (hh:hi≤hi'):StR lo' hi' W W':=⟨h.os,h.tape,h.output,h.size,fun b hb=>h.block b (by omega)⟩
theorem StR.put {lo hi D:Nat} (W:World) (o:Obj) (h:lo≤D∧D<hi):StR lo hi W (W.putObj D o):=⟨rfl,rfl,rfl,by simp,fun b hb=>World.putObj_heap_other (by omega)⟩
theorem StR.kept {lo hi:Nat} {W W':World} (h:Kept W W') (hl:lo≤W.heap.size) (hn:W'.heap.size≤hi):StR lo hi W W' :=
 ⟨h.os,h.tape,h.output,h.size,fun b hb=>by
  by_cases hlt:b<W.heap.size
  · exact h.block b hlt
  · have:=h.size;rw[Array.getElem?_eq_none (by omega),Array.getElem?_eq_none (by omega)]⟩
theorem StR.trans {lo hi:Nat} {A B C:World} (h:StR lo hi A B) (k:StR lo hi B C):StR lo hi A C:=⟨k.os.trans h.os,k.tape.trans h.tape,k.output.trans h.output,Nat.le_trans h.size k.size,fun b hb=>(k.block b hb).trans (h.block b hb)⟩
def Y6 (lo hi:Nat) (W W':World):Prop:=∀b,lo≤b→b<hi→W'.heap[b]?=W.heap[b]?
def jm:Option (List UInt8)→List (List UInt8)
 | none=>[]
 | some r=>ja 32 r
def zL (W:World) (bw bc:Nat):Option (List UInt8)→Prop
 | none=>W.cell? ⟨bc,0,none⟩=some (.int .i64 3)∧∃g cap,W.cell? ⟨bw,0,none⟩=some (.slice (some ⟨g,0,none⟩) 3 cap)∧3≤cap∧cap≤4
 | some r=>W.cell? ⟨bc,0,none⟩=some (.int .i64 3)∧∃g,W.cell? ⟨bw,0,none⟩=some (.slice (some ⟨g,0,none⟩) 4 4)∧W.cell? ⟨g,3,none⟩=some (.string (bytes r))
theorem zL.kept {W W':World} {bw bc:Nat} {r:Option (List UInt8)} (h:zL W bw bc r) (k:Kept W W'):zL W' bw bc r:=by
 cases r with
 | none=>obtain⟨h1,g,cap,h2,h3,h4⟩:=h;exact⟨cell_later k h1,g,cap,cell_later k h2,h3,h4⟩
 | some r=>obtain⟨h1,g,h2,h3⟩:=h;exact⟨cell_later k h1,g,cell_later k h2,cell_later k h3⟩
structure jcn (l B:Nat) (ps:List (List UInt8)) (J:Nat→World→Prop) (Jp:List PanicEntry→World→Prop):Prop where
 yields:∀(k:Nat) (p:List UInt8) (W:World),ps[k]?=some p→J k W→B+6≤W.heap.size→YieldAt Fence.wide 4 Tryz.prog l #[.string (bytes p)] W fun e W' =>
  (e=.returned (.bool true)∧J (k+1) W'∧Y6 B (B+6) W W')∨(∃c,e=.panicked c∧Jp c W'∧Y6 B (B+6) W W')
 stable:∀(k:Nat) (W W':World),J k W→StR B (B+6) W W'→J k W'
 stableP:∀(c:List PanicEntry) (W W':World),Jp c W→StR B (B+6) W W'→Jp c W'
 env:∀(k:Nat) (W:World),J k W→Env W
def zC (w:World) (s:List UInt8):World:=((w.alloc (.cells #[.string (bytes s)] 9)).alloc (.cells #[.string ⟨#[32]⟩] 9)).alloc (.cells #[.int .i64 0] 3)
theorem YW (s:List UInt8) (w:World) :
 Calls Tryz.prog 93 #[.string (bytes s),.string ⟨#[32]⟩] w fun e w' =>
  e=.returned (.func (.func 128) #[] #[.pointer (some ⟨w.heap.size+1,0,none⟩),.pointer (some ⟨w.heap.size,0,none⟩),.pointer (some ⟨w.heap.size+2,0,none⟩)])∧w'=zC w s:=by
 have hmf:=hmfL (P:=Tryz.prog);go_enter Tryz.func93,Tryz.ntmps93;go_wp2;go_ret;exact⟨rfl,rfl⟩
theorem X1 (w:World) (s:List UInt8):(zC w s).heap.size=w.heap.size+3:=by simp[zC]
theorem X7 (w:World) (s:List UInt8):Kept w (zC w s):=((jb w _).trans (jb _ _)).trans (jb _ _)
theorem Xh (w:World) (s:List UInt8):(zC w s).cell? ⟨w.heap.size+1,0,none⟩=some (.string ⟨#[32]⟩)∧(zC w s).cell? ⟨w.heap.size,0,none⟩=some (.string (bytes s))∧(zC w s).cell? ⟨w.heap.size+2,0,none⟩=some (.int .i64 0)∧(zC w s).frozen? ⟨w.heap.size,0,none⟩=false:=by
 unfold zC;refine⟨?_,?_,?_,?_⟩<;>go_simp
theorem jaT (l bw bc:Nat) (r:Option (List UInt8)) (W:World) (J:Nat→World→Prop) (Jp:List PanicEntry→World→Prop) (hr:zL W bw bc r) (hs:∀s,r=some s→s.length≤1000000)
 (hY:jcn l W.heap.size (jm r) J Jp) (h0:J 0 W) :
 Calls Tryz.prog 92 #[.func (.yield l) #[] #[],.pointer (some ⟨bw,0,none⟩),.pointer (some ⟨bc,0,none⟩)] W (Z8 (jm r).length J Jp):=by
 obtain⟨B,hB⟩:=eX (W.heap.size)
 rw[hB] at hY;obtain⟨HY,H0,HB⟩:=lH3 hY h0 hB;obtain⟨w1,hw1⟩:=eX (W.alloc (.cells #[.func (.yield l) #[] #[]] 60))
 have hk1:Kept W w1:=by rw[←hw1];exact jb _ _
 have hz1:w1.heap.size=B+1:=by rw[←hw1,World.size_alloc,hB]
 have hyb:w1.cell? ⟨B,0,none⟩=some (.func (.yield l) #[] #[]):=by rw[←hw1,←hB];exact(Jv W _ _).1
 obtain⟨VU,VS,Rq⟩:=lH3 hk1 hz1 hyb;have hr1:=hr.kept hk1;clear hY h0 hr hz1 hyb hk1;refine zE (n:=6) Tryz.func92 rfl ?_;simp only[Tryz.ntmps92,List.size_toArray,List.length_cons,List.length_nil,Nat.reduceAdd,Nat.reduceSub,Array.replicate_succ,Array.replicate_zero,List.push_toArray,List.append_toArray,List.nil_append,List.cons_append];refine jy (jK (n:=6) ?_);gi_wp2
 try rw[hw1]
 try rw[hB]
 clear hB hw1
 cases r with
 | none =>
  obtain⟨hc,g,cap,hw,h3,h4⟩:=hr1;have HJ:=lH (HY.out.stable 0 W w1 H0.out (StR.kept VU.out (by rw[HB.out];exact Nat.le_refl _) (by rw[VS.out];omega)));obtain rfl | rfl:cap=3∨cap=4:=by omega
  all_goals
   refine jy (jK (n:=6) ?_);gi_wp2
   refine Je (YU 1 ?_);unfold zV;refine jy (jK (n:=6) ?_);gi_wp2
   refine jy (jK (n:=6) ?_);gi_wp2
   exact⟨.tuple #[],(by simp[results,Tryz.results92,go_sem]),.inl ⟨⟨_,rfl⟩,HJ.out⟩⟩
 | some s =>
  obtain⟨hc,g,hw,hcell⟩:=hr1;have hs6:=hs s rfl;refine jy (jK (n:=6) ?_);gi_wp2
  refine Je (YU 2 ?_);unfold zV;refine jy (jK (n:=6) ?_);gi_wp2
  refine jy (jK (n:=6) ?_);gi_wp2
  refine jy (Je (jy (jK (n:=6) ?_)));gi_wp2
  refine jy (jK (n:=6) ?_);gi_wp2_with (refine⟨trivial,?_⟩;gi_at_call 93;refine(callsIn_wide.2 (YW s _)).mono ?_;rintro e w2 ⟨rfl,rfl⟩)
  refine Je ?_;have bcl:=Xh w1 s;have bsz:=X1 w1 s;have bk:=X7 w1 s;rw[VS.out] at bcl bsz ⊢;obtain⟨w2,hw2⟩:=eX (zC w1 s)
  rw[hw2] at bcl bsz bk ⊢;have hyb:=cell_later bk Rq.out;obtain⟨HJ,R4,TU,Vs⟩:=lH4 (HY.out.stable 0 W w2 H0.out (StR.kept (VU.out.trans bk) (by rw[HB.out];exact Nat.le_refl _) (by omega))) bk (show w2.heap.size=B+4 from bsz) (show jm (some s)=ja 32 s from rfl);have bsz2:w2.heap.size=B+4:=bsz;clear hw hcell hc hs hw2 bk bsz
  refine qa 32 (n:=6) Tryz.func92 (by decide) (B+1+1) (B+1) (B+1+2) rfl s hs6 (by omega) (by omega) (by omega) (by omega) (by omega) bcl.1 bcl.2.1 bcl.2.2.1 bcl.2.2.2
   (fun k W'=>J k W'∧W'.cell? ⟨B,0,none⟩=some (.func (.yield l) #[] #[]))
   (fun c W'=>Jp c W')
   (fun k W1 W2 h st=>⟨HY.out.stable k W1 W2 h.1 (StR.of st (by omega) (by omega)),(World.cell?_of_block (a:=⟨B,0,none⟩) (st.block B (by omega) (by omega) (by omega))).trans h.2⟩) (fun k W' h=>HY.out.env k W' h.1) ⟨HJ.out,hyb⟩
   (fun x=>{ tmps:=#[.func (.yield l) #[] #[],.pointer (some ⟨bw,0,none⟩),.pointer (some ⟨bc,0,none⟩),.pointer (some ⟨B,0,none⟩),undef,.string (bytes s),.string x,.slice (some ⟨g,0,none⟩) 4 4,.int .i64 3,.slice (some ⟨g,3,none⟩) 1 1,.int .i64 1,.int .i64 0,.bool true,.pointer (some ⟨g,3,none⟩),.string (bytes s),.string (bytes s),
     .func (.func 128) #[] #[.pointer (some ⟨B+1+1,0,none⟩),.pointer (some ⟨B+1,0,none⟩),.pointer (some ⟨B+1+2,0,none⟩)],.string x,undef,undef,undef,undef,undef],defers:=[] }) ?assign ?body ?done ?panic
  case assign =>
   intro l2 x W' K hK;gi_wp2
   exact hK
  case body =>
   rintro l2 k p W' hp ⟨hJ,hyb'⟩ hlt;rw[bsz2] at hlt;obtain⟨fn,tmps,assign,body,hy,hR⟩:=HY.out.yields k p W' (by rw[Vs.out];exact hp) hJ (by omega);have HR:=lH hR;clear hR bcl hJ;gi_wp2
   refine RoundIn.inner (HR.out.mono ?_);rintro e W3 (⟨rfl,hJ3,hk3⟩ | ⟨c,rfl,hp3,hk3⟩)
   · obtain⟨Rr,Vw,Tm⟩:=lH3 hJ3 hk3 ((World.cell?_of_block (a:=⟨B,0,none⟩) (hk3 B (Nat.le_refl _) (by omega))).trans hyb');clear hJ3 hk3;gi_wp2
     refine⟨fun b hb=>Vw.out b ?_ ?_,Rr.out,Tm.out⟩<;>(rcases hb with h | h | h | h | h<;>omega)
   · have Rs:=lH hp3;have Vw:=lH hk3;clear hp3 hk3;gi_wp2
     refine⟨rfl,fun b hb=>Vw.out b ?_ ?_,Rs.out⟩<;>(rcases hb with h | h | h | h | h<;>omega)
  case panic =>
   rintro c W' hJp hk;rw[bsz2] at hk ⊢;refine⟨by simp,.inl ⟨_,_,rfl,run_takeDeferred hk,?_⟩⟩;exact .inr ⟨c,rfl,HY.out.stableP c _ _ hJp (StR.put _ _ (by omega))⟩
  case done =>
   rintro W' ⟨hJ,-⟩ hk;rw[bsz2] at hk ⊢;have Rt:=lH (show J (jm (some s)).length W' from hJ);have UJ:=lH hk;clear hJ hk bcl;refine jK (n:=6) ?_;gi_wp2
   unfold zV;refine jy (jK (n:=6) ?_);gi_wp2
   refine jy (jK (n:=6) ?_);gi_wp2
   refine⟨by simp,.inl ⟨_,_,rfl,run_takeDeferred UJ.out,?_⟩⟩;exact⟨.tuple #[],by simp[results,Tryz.results92,go_sem],.inl ⟨⟨_,rfl⟩,HY.out.stable _ _ _ Rt.out (StR.put _ _ (by omega))⟩⟩
end Go.Proofs.YtnfojaidmnccoaaGreatDoor
