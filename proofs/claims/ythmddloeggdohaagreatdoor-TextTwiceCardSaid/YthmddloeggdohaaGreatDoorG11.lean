/- What serves all packages,and package by package the contracts of the functions that the law calls. -/
import Derived.Test.YthmddloeggdohaaGreatDoorG1
import Derived.Test.YthmddloeggdohaaGreatDoorG2
import Derived.Test.YthmddloeggdohaaGreatDoorG4
import Derived.Test.YthmddloeggdohaaGreatDoorG6
import Derived.Test.YthmddloeggdohaaGreatDoorG8
import Derived.Test.YthmddloeggdohaaGreatDoorG10
import Derived.Sort.CutIn
set_option linter.unusedVariables false
set_option maxRecDepth 100000
set_option maxHeartbeats 25600000
namespace Go.Proofs.YthmddloeggdohaaGreatDoor
open Go.RowKit Go.Shelf
def jO:List UInt8→List (List UInt8)
 | []=>[]
 | c::t =>
  if c=10 then [10]::jO t
  else match jO t with
   | []=>[[c]]
   | p::ps=>(c::p)::ps
theorem Zm (c:UInt8) (t:List UInt8):jO (c::t)=if c=10 then [10]::jO t else match jO t with
 | []=>[[c]]
 | p::ps=>(c::p)::ps:=rfl
theorem jdT:∀{l:List UInt8},l≠[]→Lib.indexByte l 10<0→jO l=[l]
 | c::t,_,h=>by
  rw[Lib.indexByte] at h;by_cases hc:(c==10)=true
  · rw[if_pos hc] at h;omega
  · rw[if_neg hc] at h;have hc':¬c=10:=by simpa using hc
    have ht:Lib.indexByte t 10<0:=by
     split at h
     · rename_i e;have:Lib.indexByte t 10=-1:=by simpa using e
       omega
     · omega
    rw[Zm,if_neg hc']
    cases t with
    | nil=>rfl
    | cons d r=>rw[jdT (by simp) ht]
theorem jd5:∀{l:List UInt8} {i:Nat},Lib.indexByte l 10=(i:Int)→i<l.length∧jO l=l.take (i+1)::jO (l.drop (i+1))
 | [],i,h=>by simp[Lib.indexByte] at h
 | c::t,i,h=>by
  rw[Lib.indexByte] at h;by_cases hc:(c==10)=true
  · rw[if_pos hc] at h;obtain rfl:i=0:=by omega
    have hc':c=10:=by simpa using hc
    subst hc';exact⟨by simp,by rw[Zm,if_pos rfl];rfl⟩
  · rw[if_neg hc] at h;have hc':¬c=10:=by simpa using hc
    split at h
    · omega
    · rename_i e;have hge:=Lib.indexByte_ge t 10;have hne:Lib.indexByte t 10≠-1:=by simpa using e
      obtain⟨j,hj⟩:=Int.eq_ofNat_of_zero_le (show 0≤Lib.indexByte t 10 by omega);obtain⟨h1,h2⟩:=jd5 hj;obtain rfl:i=j+1:=by omega
      refine⟨by simpa using h1,?_⟩;rw[Zm,if_neg hc',h2];simp
structure jm6 (F:Fence) (n:Nat) (l b1:Nat) (ps:List (List UInt8)) (J:Nat→World→Prop) (Jp:List PanicEntry→World→Prop):Prop where
 yields:∀(k:Nat) (p:List UInt8) (W:World),ps[k]?=some p→J k W→YieldAt F (n-1) Tryz.prog l #[.string (bytes p)] W fun e W' =>
  (e=.returned (.bool true)∧J (k+1) W'∧W'.cell? ⟨b1,0,none⟩=W.cell? ⟨b1,0,none⟩∧W'.frozen? ⟨b1,0,none⟩=W.frozen? ⟨b1,0,none⟩)∨(∃c,e=.panicked c∧Jp c W')
 store:∀(k:Nat) (W:World) (s:ByteArray),J k W→J k (W.setCell ⟨b1,0,none⟩ (.string s))
 drew:∀(k:Nat) (W:World) (n:Nat),J k W→J k (W.drewN n)
theorem jjk (n:Nat) (hn:1≤n) (l b1:Nat) (s:List UInt8) (hs:s.length≤1000000) (J:Nat→World→Prop) (Jp:List PanicEntry→World→Prop)
 (hY:jm6 Fence.wide n l b1 (jO s) J Jp) (W:World) (c1:W.cell? ⟨b1,0,none⟩=some (.string (bytes s))) (z1:W.frozen? ⟨b1,0,none⟩=false) (h0:J 0 W) :
 CallsIn Fence.wide n Tryz.prog 79 #[.func (.yield l) #[] #[],.pointer (some ⟨b1,0,none⟩)] W (jgE (jO s).length J Jp):=by
 have HY:=lH hY;have H0:=lH h0;clear hY h0;refine callsIn_of_wp Tryz.func79 rfl trivial ?_ rfl;simp only[Tryz.ntmps79,List.size_toArray,List.length_cons,List.length_nil,Nat.reduceAdd,Nat.reduceSub,Array.replicate_succ,Array.replicate_zero,List.push_toArray,List.append_toArray,List.nil_append,List.cons_append];gi_wp2
 gi_loopw [3,4] (fun a i wr=>∃(k:Nat) (rest:List UInt8),jO rest=(jO s).drop k∧rest.length≤s.length∧wr.cell? ⟨b1,0,none⟩=some (.string (bytes rest))∧wr.frozen? ⟨b1,0,none⟩=false∧J k wr∧k≤(jO s).length)
  (fun a i wr=>jat wr b1)
 case atStart=>exact⟨0,s,rfl,Nat.le_refl _,c1,z1,H0.out,Nat.zero_le _⟩
 case round =>
  obtain⟨k,rest,hp,hl,c1,z1,hJ,hkb⟩:=hrel;have HKB:=lH hkb;have HJ:=lH hJ;have HP:=lH hp;have hl6:rest.length≤1000000:=Nat.le_trans hl hs;have hsz:(bytes rest).size=rest.length:=by simp[bytes,ByteArray.size]
  have HSZ:=lH hsz;by_cases hz:rest=[]
  · subst hz;have HN:=lH (show (jO s).length≤k by
     have:=congrArg List.length hp;rw[List.length_drop] at this;simp only[jO,List.length_nil] at this;omega)
    have hsz0:((bytes []).size:Int)=0:=rfl;clear hp hJ hl;gi_wp2
    go_end0
    exact .inl ⟨⟨_,rfl⟩,by rw[Nat.le_antisymm HN.out HKB.out];exact HJ.out⟩
  have hpos:0<rest.length:=List.length_pos_iff.2 hz;have hposI:(0:Int)<((bytes rest).size:Int):=by rw[hsz];omega
  by_cases hix:Lib.indexByte rest 10<0
  · have hone:=jdT hz hix;have IX:=lH (show Calls Tryz.prog 80 #[.string (bytes rest),.int .u8 10] wr fun e w'=>e=.returned (.int .i64 (Lib.indexByte rest 10))∧w'=wr from Tryz.strings_IndexByte (bytes rest) 10 wr);have hk:(jO s)[k]?=some rest:=by
     have:=congrArg (fun x=>x[0]?) hp;rw[hone] at this;simpa using this.symm
    have HN:=lH (show jO []=(jO s).drop (k+1) by
     have:=congrArg (fun x=>x.drop 1) hp;rw[hone] at this;simpa [List.drop_drop,jO] using this)
    have HK:=lH hk;obtain⟨ix,hixe⟩:∃ix,Lib.indexByte rest 10=ix:=⟨_,rfl⟩
    rw[hixe] at IX hix;have hge:¬(0:Int)≤ix:=by omega
    clear hJ hp hone hk hsz hixe;gi_upto_region 6 with (refine⟨trivial,?_⟩;gi_at_call 80;refine(callsIn_wide.2 IX.out).mono ?_;rintro e w' ⟨rfl,rfl⟩)
    obtain⟨wr,rfl⟩:∃W,W=w':=⟨_,rfl⟩
    obtain⟨W4,hW4⟩:∃W,wr.setCell ⟨b1,0,none⟩ (.string ⟨#[]⟩)=W:=⟨_,rfl⟩
    have hJ4:J k W4:=by rw[←hW4];exact HY.out.store _ _ _ HJ.out
    have c4:W4.cell? ⟨b1,0,none⟩=some (.string (bytes [])):=by rw[←hW4];exact World.cell?_setCell_same' _ _ _ (by rw[c1];rfl)
    have z4:W4.frozen? ⟨b1,0,none⟩=false:=by rw[←hW4,World.frozen?_setCell];exact z1
    try rw[hW4]
    have C1:=lH c1;obtain⟨fn,tmps,assign,body,hy,hR⟩:=HY.out.yields k rest W4 HK.out hJ4;have HR:=lH hR;have C4:=lH c4;have Z4:=lH z4;clear hR hW4 c1 z1 hJ4 c4 z4;gi_wp2
    refine HR.out.mono ?_;rintro e W' (⟨rfl,hJ',hk1,hk2⟩ | ⟨c,rfl,hp'⟩)
    · have HJ':=lH hJ';have E1:=lH (hk1.trans C4.out);have E2:=lH (hk2.trans Z4.out);clear hJ' hk1 hk2;gi_wp2
      go_roundw
      case rel =>
       exact⟨k+1,[],HN.out,Nat.zero_le _,E1.out,E2.out,HJ'.out,(List.getElem?_eq_some_iff.1 HK.out).1⟩
      case measure =>
       unfold jat;rw[E1.out,C1.out];simp[bytes,ByteArray.size];omega
    · have HP':=lH hp';clear hp';gi_wp2
      exact⟨rfl,.inr ⟨c,rfl,HP'.out⟩⟩
  · obtain⟨i,hi⟩:=Int.eq_ofNat_of_zero_le (show 0≤Lib.indexByte rest 10 by omega);obtain⟨hlt,hsome⟩:=jd5 hi;have IX:=lH (show Calls Tryz.prog 80 #[.string (bytes rest),.int .u8 10] wr fun e w'=>e=.returned (.int .i64 (i:Int))∧w'=wr by
     have:=Tryz.strings_IndexByte (bytes rest) 10 wr;rw[show Lib.indexByte (bytes rest).data.toList (10:Int).toNat.toUInt8=(i:Int) from hi] at this;exact this)
    have hk:(jO s)[k]?=some (rest.take (i+1)):=by
     have:=congrArg (fun x=>x[0]?) hp;rw[hsome] at this;simpa using this.symm
    have HN:=lH (show jO (rest.drop (i+1))=(jO s).drop (k+1) by
     have:=congrArg (fun x=>x.drop 1) hp;rw[hsome] at this;simpa [List.drop_drop] using this)
    have HK:=lH hk;have hfrag:(bytes rest).extract 0 (i+1)=bytes (rest.take (i+1)):=by
     apply Go.WideShapes.bytes_inj;simp[bytes,ByteArray.data_extract]
    have hrest:(bytes rest).extract (i+1) rest.length=bytes (rest.drop (i+1)):=by
     apply Go.WideShapes.bytes_inj;simp[bytes,ByteArray.data_extract,List.take_of_length_le]
    have hi1:(i:Int)+1≤((bytes rest).size:Int):=by rw[hsz];omega
    have hi2:(i:Int)+1≤(rest.length:Int):=by omega
    have hi3:((i:Int)+1).toNat=i+1:=by omega
    have hi4:(0:Int)≤(i:Int)+1:=by omega
    have hi5:IntKind.i64.wrap ((i:Int)+1)=(i:Int)+1:=by rw[IntKind.wrap_i64];omega
    have hge:(0:Int)≤(i:Int):=by omega
    clear hJ hp hsome hk hix hi;gi_upto_region 4 with (refine⟨trivial,?_⟩;gi_at_call 80;refine(callsIn_wide.2 IX.out).mono ?_;rintro e w' ⟨rfl,rfl⟩)
    obtain⟨wr,rfl⟩:∃W,W=w':=⟨_,rfl⟩
    refine wpIn_region_any (by kernel_rfl) ?_;try simp only[List.size_toArray,List.length_cons,List.length_nil,Nat.reduceAdd]
    obtain⟨wd,hwd⟩:∃W,({ wr with drawn:=wr.drawn+1 }:World)=W:=⟨_,rfl⟩
    have cd:wd.cell? ⟨b1,0,none⟩=some (.string (bytes rest)):=by rw[←hwd];exact c1
    have zd:wd.frozen? ⟨b1,0,none⟩=false:=by rw[←hwd];exact z1
    have HJD:=lH (show J k wd by rw[←hwd];exact HY.out.drew k wr 1 HJ.out);try rw[hwd]
    clear hwd;refine wpAnyIn_take (i:=1) (v:=?_) rfl (by rw[List.getElem?_toArray];exact rfl) (by kernel_rfl) (by kernel_rfl) (by kernel_rfl) (by exact fun _ _ _ h=>h) ⟨Or.inl ⟨by rfl,(by intro W;go_simp<;>with_reducible rfl)⟩,fun w=>by rfl⟩ ?_;try simp only[nP]
    refine wpAnyIn_take (i:=2) (v:=?_) rfl (by rw[List.getElem?_toArray];exact rfl) (by kernel_rfl) (by kernel_rfl) (by kernel_rfl) (by exact fun _ _ _ h=>h) ⟨Or.inl ⟨by rfl,(by intro W;go_simp<;>with_reducible rfl)⟩,fun w=>by rfl⟩ ?_;try simp only[nP]
    refine wpAnyIn_take (i:=5) (v:=?_) rfl (by rw[List.getElem?_toArray];exact rfl) (by kernel_rfl) (by kernel_rfl) (by kernel_rfl) (by exact fun _ _ _ h=>h) ⟨Or.inl ⟨by rfl,(by intro W;go_simp<;>with_reducible rfl)⟩,fun w=>by rfl⟩ ?_;try simp only[nP]
    refine wpAnyIn_take (i:=6) (v:=?_) rfl (by rw[List.getElem?_toArray];exact rfl) (by kernel_rfl) (by kernel_rfl) (by kernel_rfl) (by exact fun _ _ _ h=>h) ⟨Or.inl ⟨by rfl,(by intro W;go_simp<;>with_reducible rfl)⟩,fun w=>by rfl⟩ ?_;try simp only[nP]
    refine wpAnyIn_ready (rs:=[0,4]) (by kernel_rfl) (by simp) (AllReadyIn.cons (by rw[List.getElem?_toArray];exact rfl) (fun K9 hK9=>?_) (AllReadyIn.cons (by rw[List.getElem?_toArray];exact rfl) (fun K9 hK9=>?_) AllReadyIn.nil))
    all_goals go_simp
    · skip;refine hK9 _ _ ?_;clear hK9 K9;try simp only[nP]
      refine wpAnyIn_take (i:=3) (v:=?_) rfl (by rw[List.getElem?_toArray];exact rfl) (by kernel_rfl) (by kernel_rfl) (by kernel_rfl) (by exact fun _ _ _ h=>h) ⟨Or.inl ⟨by rfl,(by intro W;go_simp<;>with_reducible rfl)⟩,fun w=>by rfl⟩ ?_;try simp only[nP]
      refine wpAnyIn_take (i:=8) (v:=?_) rfl (by rw[List.getElem?_toArray];exact rfl) (by kernel_rfl) (by kernel_rfl) (by kernel_rfl) (by exact fun _ _ _ h=>h) ⟨Or.inl ⟨by rfl,(by intro W;go_simp<;>with_reducible rfl)⟩,fun w=>by rfl⟩ ?_;try simp only[nP]
      refine wpAnyIn_ready (rs:=[4]) (by kernel_rfl) (by simp) (AllReadyIn.cons (by rw[List.getElem?_toArray];exact rfl) (fun K9 hK9=>?_) AllReadyIn.nil);go_simp;refine hK9 _ _ ?_;clear hK9 K9;try simp only[nP]
      refine wpAnyIn_take (i:=7) (v:=?_) rfl (by rw[List.getElem?_toArray];exact rfl) (by kernel_rfl) (by kernel_rfl) (by kernel_rfl) (by exact fun _ _ _ h=>h) ⟨Or.inl ⟨by rfl,(by intro W;go_simp<;>with_reducible rfl)⟩,fun w=>by rfl⟩ ?_;try simp only[nP]
      refine wpAnyIn_ready (rs:=[9]) (by kernel_rfl) (by simp) (AllReadyIn.cons (by rw[List.getElem?_toArray];exact rfl) (fun K9 hK9=>?_) AllReadyIn.nil);go_simp;refine hK9 _ _ ?_;clear hK9 K9;try simp only[nP]
      refine wpAnyIn_done (by kernel_rfl) ?_ _;obtain⟨W4,hW4⟩:∃W,wd.setCell ⟨b1,0,none⟩ (.string (bytes (rest.drop (i+1))))=W:=⟨_,rfl⟩
      have hJ4:J k W4:=by rw[←hW4];exact HY.out.store _ _ _ HJD.out
      have c4:W4.cell? ⟨b1,0,none⟩=some (.string (bytes (rest.drop (i+1)))):=by rw[←hW4];exact World.cell?_setCell_same' _ _ _ (by rw[cd];rfl)
      have z4:W4.frozen? ⟨b1,0,none⟩=false:=by rw[←hW4,World.frozen?_setCell];exact zd
      skip;try rw[hrest]
      try rw[hfrag]
      try rw[hW4]
      have C1:=lH c1;obtain⟨fn,tmps,assign,body,hy,hR⟩:=HY.out.yields k (rest.take (i+1)) W4 HK.out hJ4;have HR:=lH hR;have C4:=lH c4;have Z4:=lH z4;clear hR hW4 c1 z1 hJ4 c4 z4;gi_wp2
      refine HR.out.mono ?_;rintro e W' (⟨rfl,hJ',hk1,hk2⟩ | ⟨c,rfl,hp'⟩)
      · have HJ':=lH hJ';have E1:=lH (hk1.trans C4.out);have E2:=lH (hk2.trans Z4.out);clear hJ' hk1 hk2;gi_wp2
        go_roundw
        case rel =>
         exact⟨k+1,(rest.drop (i+1)),HN.out,by rw[List.length_drop];omega,E1.out,E2.out,HJ'.out,(List.getElem?_eq_some_iff.1 HK.out).1⟩
        case measure =>
         unfold jat;rw[E1.out,C1.out];simp[bytes,ByteArray.size];omega
      · have HP':=lH hp';clear hp';gi_wp2
        exact⟨rfl,.inr ⟨c,rfl,HP'.out⟩⟩
    · skip;refine hK9 _ _ ?_;clear hK9 K9;try simp only[nP]
      refine wpAnyIn_take (i:=7) (v:=?_) rfl (by rw[List.getElem?_toArray];exact rfl) (by kernel_rfl) (by kernel_rfl) (by kernel_rfl) (by exact fun _ _ _ h=>h) ⟨Or.inl ⟨by rfl,(by intro W;go_simp<;>with_reducible rfl)⟩,fun w=>by rfl⟩ ?_;try simp only[nP]
      refine wpAnyIn_ready (rs:=[0]) (by kernel_rfl) (by simp) (AllReadyIn.cons (by rw[List.getElem?_toArray];exact rfl) (fun K9 hK9=>?_) AllReadyIn.nil);go_simp;refine hK9 _ _ ?_;clear hK9 K9;try simp only[nP]
      refine wpAnyIn_take (i:=3) (v:=?_) rfl (by rw[List.getElem?_toArray];exact rfl) (by kernel_rfl) (by kernel_rfl) (by kernel_rfl) (by exact fun _ _ _ h=>h) ⟨Or.inl ⟨by rfl,(by intro W;go_simp<;>with_reducible rfl)⟩,fun w=>by rfl⟩ ?_;try simp only[nP]
      refine wpAnyIn_take (i:=8) (v:=?_) rfl (by rw[List.getElem?_toArray];exact rfl) (by kernel_rfl) (by kernel_rfl) (by kernel_rfl) (by exact fun _ _ _ h=>h) ⟨Or.inl ⟨by rfl,(by intro W;go_simp<;>with_reducible rfl)⟩,fun w=>by rfl⟩ ?_;try simp only[nP]
      refine wpAnyIn_ready (rs:=[9]) (by kernel_rfl) (by simp) (AllReadyIn.cons (by rw[List.getElem?_toArray];exact rfl) (fun K9 hK9=>?_) AllReadyIn.nil);go_simp;refine hK9 _ _ ?_;clear hK9 K9;try simp only[nP]
      refine wpAnyIn_done (by kernel_rfl) ?_ _;obtain⟨W4,hW4⟩:∃W,wd.setCell ⟨b1,0,none⟩ (.string (bytes (rest.drop (i+1))))=W:=⟨_,rfl⟩
      have hJ4:J k W4:=by rw[←hW4];exact HY.out.store _ _ _ HJD.out
      have c4:W4.cell? ⟨b1,0,none⟩=some (.string (bytes (rest.drop (i+1)))):=by rw[←hW4];exact World.cell?_setCell_same' _ _ _ (by rw[cd];rfl)
      have z4:W4.frozen? ⟨b1,0,none⟩=false:=by rw[←hW4,World.frozen?_setCell];exact zd
      skip;try rw[hrest]
      try rw[hfrag]
      try rw[hW4]
      have C1:=lH c1;obtain⟨fn,tmps,assign,body,hy,hR⟩:=HY.out.yields k (rest.take (i+1)) W4 HK.out hJ4;have HR:=lH hR;have C4:=lH c4;have Z4:=lH z4;clear hR hW4 c1 z1 hJ4 c4 z4;gi_wp2
      refine HR.out.mono ?_;rintro e W' (⟨rfl,hJ',hk1,hk2⟩ | ⟨c,rfl,hp'⟩)
      · have HJ':=lH hJ';have E1:=lH (hk1.trans C4.out);have E2:=lH (hk2.trans Z4.out);clear hJ' hk1 hk2;gi_wp2
        go_roundw
        case rel =>
         exact⟨k+1,(rest.drop (i+1)),HN.out,by rw[List.length_drop];omega,E1.out,E2.out,HJ'.out,(List.getElem?_eq_some_iff.1 HK.out).1⟩
        case measure =>
         unfold jat;rw[E1.out,C1.out];simp[bytes,ByteArray.size];omega
      · have HP':=lH hp';clear hp';gi_wp2
        exact⟨rfl,.inr ⟨c,rfl,HP'.out⟩⟩
attribute [local go_sem] Oper.semAt_some
def qw (b1 D:Nat) (W W':World):Prop:=∀b,b=b1∨b=D∨b=D+1→W'.heap[b]?=W.heap[b]?
theorem qw.trans {b1 D:Nat} {A B C:World} (h:qw b1 D A B) (k:qw b1 D B C):qw b1 D A C:=fun b hb=>(k b hb).trans (h b hb)
def joi (b1 D k:Nat) (I:Nat→World→Prop) (JP:List PanicEntry→World→Prop) (W:World):Exit→Act→World→Prop
 | .normal,_,W'=>qw b1 D W W'∧I (k+1) W'
 | .panic c,a,W'=>a.defers=[]∧qw b1 D W W'∧JP c W'
 | _,_,_=>False
theorem jjv {g:Operand} {t:Tmp} {assign body:Code} {Q:Exit→Act→World→Prop} {a:Act} {w:World} {n fid:Nat} {fn:Func} (hfn:Tryz.prog.funcs[fid]?=some fn) (hn:2≤n)
 (b1:Nat) (hg:a.eval g=.func (.func 79) #[] #[.pointer (some ⟨b1,0,none⟩)])
 (s:List UInt8) (hs:s.length≤1000000) (hb1:b1<w.heap.size)
 (c1:w.cell? ⟨b1,0,none⟩=some (.string (bytes s))) (z1:w.frozen? ⟨b1,0,none⟩=false)
 (I:Nat→World→Prop) (JP:List PanicEntry→World→Prop) (hI:∀k W W',I k W→St b1 w.heap.size W W'→I k W') (h0:I 0 w) (a₁:ByteArray→Act)
 (hassign:∀(l:Nat) (x:ByteArray) (W:World) (K:Act→World→Prop),K (a₁ x) W →
   assign.wpIn (Fence.wide.inRound l) (n-1) Tryz.prog (Exit.then K (fun _ _ _=>False)) { tmps:=(#[t].zip #[Value.string x]).foldl (fun tt (p,v)=>tt.setIfInBounds p v) a.tmps,defers:=[] } W)
 (hbody:∀(l k:Nat) (p:List UInt8) (W:World),(jO s)[k]?=some p→I k W→w.heap.size+2≤W.heap.size→body.wpIn (Fence.wide.inRound l) (n-1) Tryz.prog (joi b1 w.heap.size k I JP W) (a₁ (bytes p)) W)
 (hdone:∀(W:World),I (jO s).length W→W.heap[w.heap.size]?=some (.deferred (some []))→Q .normal { a with defers:={ target:=.collected w.heap.size,args:=#[] }::a.defers } W)
 (hpanic:∀(c:List PanicEntry) (W:World),JP c W→W.heap[w.heap.size]?=some (.deferred (some []))→Q (.panic c) { a with defers:={ target:=.collected w.heap.size,args:=#[] }::a.defers } W) :
 jac fid Tryz.prog (Code.rangeFunc g #[t] assign body) Q a w:=by
 obtain⟨rec,hrec⟩:∃rec:LoopState→Option Code→Loop,rec=fun st pe=>{ state:=st,pending:=pe,fn:=fid,tmps:=a.tmps,params:=#[t],assign,body,defers:=w.heap.size }:=⟨_,rfl⟩
 obtain⟨W1,hW1⟩:∃W1,(w.alloc (.deferred (some []))).alloc (.loop (rec .ready none))=W1:=⟨_,rfl⟩
 have hL1:W1.heap[w.heap.size+1]?=some (.loop (rec .ready none)):=by
  rw[←hW1];have:=World.alloc_heap_new (w.alloc (.deferred (some []))) (.loop (rec .ready none));rwa [World.size_alloc] at this
 have hK1:W1.heap[w.heap.size]?=some (.deferred (some [])):=by
  rw[←hW1];exact(Below.heap_alloc _ _ _ (by simp)).trans (World.alloc_heap_new w _)
 have hS1:St b1 w.heap.size w W1:=by rw[←hW1];exact St.begin b1 w _ _
 have hB1:Below w.heap.size w W1:=by rw[←hW1];exact(ja w _).trans (ja _ _)
 refine jal (n:=n) (l:=w.heap.size+1) (mark:=[{ target:=.collected w.heap.size,args:=#[] }]) (w₁:=W1) (d:={ target:=.fn (.func 79) #[.pointer (some ⟨b1,0,none⟩)],args:=#[.func (.yield (w.heap.size+1)) #[] #[]] })
  (f:=79) (args:=#[.func (.yield (w.heap.size+1)) #[] #[],.pointer (some ⟨b1,0,none⟩)]) ?_ ?_ ?_ ?_
 · rw[←hW1,hrec];exact run_enterLoop_outer _ _ _ _ _
 · simp only[resolve,hg];simp[go_sem]
 · have eg:=enters_of (P:=Tryz.prog) Tryz.func79 (by kernel_rfl) rfl;simp[invoke,go_sem,eg]
 · refine(jjk n (by omega) (w.heap.size+1) b1 s hs
    (fun k W=>I k W∧W.heap[w.heap.size+1]?=some (.loop (rec .ready none))∧W.heap[w.heap.size]?=some (.deferred (some [])))
    (fun c W=>JP c W∧W.heap[w.heap.size]?=some (.deferred (some [])))
    ⟨?_,?_,?_⟩ W1 ((hB1.cell (p:=⟨b1,0,none⟩) hb1).trans c1)
    ((hB1.frozen (p:=⟨b1,0,none⟩) hb1).trans z1) ⟨hI 0 w W1 h0 hS1,hL1,hK1⟩).mono ?_
   · rintro k p W hp ⟨hi,hl,hk⟩;have hlt:w.heap.size+1<W.heap.size:=(Array.getElem?_eq_some_iff.1 hl).1;have hy:=run_yield (P:=Tryz.prog) (args:=#[.string (bytes p)]) hl (by rw[hrec];rfl);rw[hrec] at hy;refine⟨fid,_,assign,body,hy,Y7 trivial hfn ?_⟩;refine hassign _ (bytes p) W _ ?_;refine⟨_,run_beginRound hl (by rw[hrec]),?_⟩;have hl2:(W.putObj (w.heap.size+1) (.loop { rec .ready none with state:=.busy })).heap[w.heap.size+1]?=some (.loop { rec .ready none with state:=.busy }):=World.putObj_heap_same hlt;have hk2:(W.putObj (w.heap.size+1) (.loop { rec .ready none with state:=.busy })).heap[w.heap.size]?=some (.deferred (some [])):=(World.putObj_heap_other (by omega)).trans hk;refine wpIn_mono (hbody _ k p _ hp (hI k _ _ hi (St.put W _)) (by simp;omega)) ?_;rintro e a3 W3 hp3
     cases e with
     | normal =>
      obtain⟨hk3,hi3⟩:=hp3;have hl3:=(hk3 (w.heap.size+1) (by simp)).trans hl2;have hr:=run_endRound (P:=Tryz.prog) none hl3;refine⟨_,_,hr,.inl ⟨rfl,⟨hI _ _ _ hi3 (St.put W3 _),?_,?_⟩,?_⟩⟩
      · rw[World.putObj_heap_same (Array.getElem?_eq_some_iff.1 hl3).1,hrec];rfl
      · exact((World.putObj_heap_other (by omega)).trans (hk3 w.heap.size (by simp))).trans hk2
      · have hbl:b1≠w.heap.size+1:=by omega
        have hbb:∀o,(W3.putObj (w.heap.size+1) o).heap[b1]?=W.heap[b1]?:=fun o=>((World.putObj_heap_other hbl).trans (hk3 b1 (by simp))).trans (World.putObj_heap_other hbl);exact⟨World.cell?_of_block (a:=⟨b1,0,none⟩) (hbb _),World.frozen?_of_block (a:=⟨b1,0,none⟩) (hbb _)⟩
     | panic c =>
      obtain⟨hd,hk3,hj⟩:=hp3;exact⟨hd,.inr ⟨c,rfl,hj,(hk3 w.heap.size (by simp)).trans hk2⟩⟩
     | ret=>exact hp3.elim
     | exit id=>exact hp3.elim
     | goto t=>exact hp3.elim
     | outgrown=>exact hp3.elim
   · rintro k W x ⟨hi,hl,hk⟩;exact⟨hI _ _ _ hi (St.setCell W _),(Below.heap_setCell W ⟨b1,0,none⟩ _ _ (by simp;omega)).trans hl,(Below.heap_setCell W ⟨b1,0,none⟩ _ _ (by simp;omega)).trans hk⟩
   · rintro k W m ⟨hi,hl,hk⟩;exact⟨hI _ _ _ hi (St.drewN W _),hl,hk⟩
   · rintro e W2 (⟨⟨v,rfl⟩,hi,hl,hk⟩ | ⟨c,rfl,hj,hk⟩)
     · exact⟨_,run_endLoop (P:=Tryz.prog) hl (by rw[hrec];simp) |>.trans (by rw[hrec]),hdone _ (hI _ _ _ hi (St.put W2 _)) ((World.putObj_heap_other (by omega)).trans hk)⟩
     · exact hpanic c W2 hj hk
end Go.Proofs.YthmddloeggdohaaGreatDoor
namespace Go.Proofs.YthmddloeggdohaaGreatDoor
open Go.RowKit Go.Shelf
def jF (s:Clu) (i:Nat):List jD→Int×Nat×Clu
 | []=>(0,i,s)
 | m::t=>if (jj s m).1=0 then jF (jj s m).2 (i+1) t else ((jj s m).1,i,s)
theorem Yo {s:Clu} {i:Nat} {m:jD} {t:List jD} (h:(jj s m).1=0):jF s i (m::t)=jF (jj s m).2 (i+1) t:=by rw[jF,if_pos h]
theorem XC {s:Clu} {i:Nat} {m:jD} {t:List jD} (h:(jj s m).1≠0):jF s i (m::t)=((jj s m).1,i,s):=by rw[jF,if_neg h]
structure YY (s:Clu):Prop where
 n:Zs (s.nodes.map fun n=>n.name)
 p:Zs (s.pods.map fun n=>n.name)
 b:Zs (s.buds.map fun n=>n.name)
 nl:s.nodes.length≤32
 pl:s.pods.length≤128
 bl:s.buds.length≤8
theorem jce {x:ByteArray}:∀{l:List ByteArray},Zs l→hasB x l=false→Zs (l.take (zo x l)++x::l.drop (zo x l))
 | [],_,_=>List.pairwise_singleton ..
 | y::t,h,hh=>by
  obtain⟨h1,h2⟩:=List.pairwise_cons.1 h;unfold hasB at hh;rw[List.any_cons,Bool.or_eq_false_iff] at hh;have ih:=jce (x:=x) h2 hh.2
  cases e:ltS y x with
  | true =>
   rw[zo,if_pos e,List.take_succ_cons,List.drop_succ_cons,List.cons_append];refine List.pairwise_cons.2 ⟨fun z hz=>?_,ih⟩;rcases List.mem_append.1 hz with hz | hz
   · exact h1 z (List.mem_of_mem_take hz)
   · rcases List.mem_cons.1 hz with rfl | hz
     · exact e
     · exact h1 z (List.mem_of_mem_drop hz)
  | false =>
   rw[zo,if_neg (by rw[e];decide),List.take_zero,List.drop_zero,List.nil_append];have hxy:ltS x y=true:=by
    cases g:ltS x y with
    | true=>rfl
    | false=>exact absurd (Vec.jcb e g) (fun q=>by rw[q,qC] at hh;cases hh.1)
   refine List.pairwise_cons.2 ⟨fun z hz=>?_,h⟩;rcases List.mem_cons.1 hz with rfl | hz
   · exact hxy
   · exact Vec.JZ hxy (h1 z hz)
theorem jcT {α:Type} {l:List α} {k n:Nat} {x:α} (h:l.length≤n) (hn:l.length≠n) (hk:k≤l.length):(l.take k++x::l.drop k).length≤n:=by
 rw[List.length_append,List.length_take,List.length_cons,List.length_drop];omega
theorem XI {s:Clu} {m:jD} (h:YY s) (h0:(jj s m).1=0):YY (jj s m).2:=by
 cases m with
 | skip=>exact h
 | bad=>cases h0
 | node n =>
  unfold jj at h0 ⊢;dsimp only at h0 ⊢;by_cases c1:hasB n.name (s.nodes.map fun n=>n.name)=true
  · rw[if_pos c1] at h0;cases h0
  · rw[if_neg c1] at h0 ⊢;by_cases c2:s.nodes.length=32
    · rw[if_pos c2] at h0;cases h0
    · rw[if_neg c2];have hk:=Yr n.name (s.nodes.map fun n=>n.name);rw[List.length_map] at hk;refine⟨?_,h.p,h.b,jcT h.nl c2 hk,h.pl,h.bl⟩;show Zs ((s.nodes.take _++n::s.nodes.drop _).map fun n=>n.name);rw[List.map_append,List.map_cons,List.map_take,List.map_drop];exact jce h.n (by simpa using c1)
 | pod n =>
  unfold jj at h0 ⊢;dsimp only at h0 ⊢;by_cases c1:hasB n.name (s.pods.map fun n=>n.name)=true
  · rw[if_pos c1] at h0;cases h0
  · rw[if_neg c1] at h0 ⊢;by_cases c2:s.pods.length=128
    · rw[if_pos c2] at h0;cases h0
    · rw[if_neg c2];have hk:=Yr n.name (s.pods.map fun n=>n.name);rw[List.length_map] at hk;refine⟨h.n,?_,h.b,h.nl,jcT h.pl c2 hk,h.bl⟩;show Zs ((s.pods.take _++n::s.pods.drop _).map fun n=>n.name);rw[List.map_append,List.map_cons,List.map_take,List.map_drop];exact jce h.p (by simpa using c1)
 | bud n =>
  unfold jj at h0 ⊢;dsimp only at h0 ⊢;by_cases c1:hasB n.name (s.buds.map fun n=>n.name)=true
  · rw[if_pos c1] at h0;cases h0
  · rw[if_neg c1] at h0 ⊢;by_cases c2:s.buds.length=8
    · rw[if_pos c2] at h0;cases h0
    · rw[if_neg c2];have hk:=Yr n.name (s.buds.map fun n=>n.name);rw[List.length_map] at hk;refine⟨h.n,h.p,?_,h.nl,h.pl,jcT h.bl c2 hk⟩;show Zs ((s.buds.take _++n::s.buds.drop _).map fun n=>n.name);rw[List.map_append,List.map_cons,List.map_take,List.map_drop];exact jce h.b (by simpa using c1)
theorem jgt:YY ⟨[],[],[]⟩:=⟨.nil,.nil,.nil,by decide,by decide,by decide⟩
inductive Jv:List UInt8→jD→Prop where
 | empty:Jv [] .skip
 | remark (t:List UInt8):t.length≤900000→Jv (35::t) .skip
 | node (r:List UInt8) (n:Nod):r.length≤900000→(∀W,Jf W→Calls Tryz.prog 85 #[.string (bytes r)] W fun e w'=>∃v,e=.returned (.tuple #[v,.int .i64 0])∧JJ W.heap.size w' v n∧Kept W w')→Jv ([110,111,100,101]++32::r) (.node n)
 | pod (r:List UInt8) (n:Pd):r.length≤900000→(∀W,Jf W→Calls Tryz.prog 89 #[.string (bytes r)] W fun e w'=>∃v,e=.returned (.tuple #[v,.int .i64 0])∧ZT W.heap.size w' v n∧Kept W w')→Jv ([112,111,100]++32::r) (.pod n)
 | bud (r:List UInt8) (n:Bd):r.length≤900000→(∀W,Jf W→Calls Tryz.prog 93 #[.string (bytes r)] W fun e w'=>∃v,e=.returned (.tuple #[v,.int .i64 0])∧ZP W.heap.size w' v n∧Kept W w')→Jv ([98,117,100,103,101,116]++32::r) (.bud n)
 | bad (t:List UInt8):t.length≤900000→t≠[]→(∀r,t≠35::r)→(Lib.cut t [32]).1≠[110,111,100,101]→(Lib.cut t [32]).1≠[112,111,100]→(Lib.cut t [32]).1≠[98,117,100,103,101,116]→Jv t .bad
def jaU (p:List UInt8):List UInt8:=Lib.trimSuffix p [10]
open Go.RowKit
theorem jfg (R B:Nat) (line:Int) (v1 v2 v3:Value) (s:Clu) (w:World) (hR:jf R [v1,v2,v3,.int .i64 line] w) (h:jW (fun b=>b<B) B w v1 v2 v3 s):Calls Tryz.prog 50 #[.pointer (some ⟨R,0,none⟩),.string (bytes [])] w (XL R B line s .skip w):=by
 have he:((bytes []).toList==([]:List UInt8))=true:=by rw[jn];rfl
 obtain⟨tx,htx⟩:∃q,bytes []=q:=⟨_,rfl⟩
 rw[htx] at he ⊢;clear htx;have HR:=lH hR;have H:=lH h;clear hR h;go_enter Tryz.func50,Tryz.ntmps50;go_wp2;refine⟨rfl,.tuple #[],by simp[results,Tryz.results50,go_sem],?_⟩;exact⟨jc.of (Kept.refl _),_,_,_,HR.out,H.out,.inl ⟨rfl,_,rfl⟩⟩
theorem jew (R B:Nat) (line:Int) (t:List UInt8) (v1 v2 v3:Value) (s:Clu) (w:World) (hR:jf R [v1,v2,v3,.int .i64 line] w) (h:jW (fun b=>b<B) B w v1 v2 v3 s):Calls Tryz.prog 50 #[.pointer (some ⟨R,0,none⟩),.string (bytes (35::t))] w (XL R B line s .skip w):=by
 have he:((bytes (35::t)).toList==([]:List UInt8))=false:=by rw[jn];rfl
 have HPF:=lH (show Calls Tryz.prog 81 #[.string (bytes (35::t)),.string ⟨#[35]⟩] w fun e w'=>e=.returned (.bool true)∧w'=w by
  have:=Zd (35::t) [35] w;rw[show Lib.hasPrefix (35::t) [35]=true by simp[Lib.hasPrefix]] at this;exact this)
 obtain⟨tx,htx⟩:∃q,bytes (35::t)=q:=⟨_,rfl⟩
 rw[htx] at he HPF ⊢;clear htx;have HR:=lH hR;have H:=lH h;clear hR h;go_enter Tryz.func50,Tryz.ntmps50;go_wp2_with fail
 refine HPF.out.mono ?_;rintro e wa ⟨rfl,rfl⟩;go_wp2;refine⟨rfl,.tuple #[],by simp[results,Tryz.results50,go_sem],?_⟩;exact⟨jc.of (Kept.refl _),_,_,_,HR.out,H.out,.inl ⟨rfl,_,rfl⟩⟩
theorem jhl (R B:Nat) (line:Int) (t:List UInt8) (v1 v2 v3:Value) (s:Clu) (w:World) (hE:Jf w) (ht:t.length≤900000) (h0:t≠[]) (h1:∀r,t≠35::r) (c1:(Lib.cut t [32]).1≠[110,111,100,101]) (c2:(Lib.cut t [32]).1≠[112,111,100]) (c3:(Lib.cut t [32]).1≠[98,117,100,103,101,116]) (hR:jf R [v1,v2,v3,.int .i64 line] w) (h:jW (fun b=>b<B) B w v1 v2 v3 s):Calls Tryz.prog 50 #[.pointer (some ⟨R,0,none⟩),.string (bytes t)] w (XL R B line s .bad w):=by
 have he:((bytes t).toList==([]:List UInt8))=false:=by rw[jn];simpa using h0
 have hp:Lib.hasPrefix t [35]=false:=by
  cases t with
  | nil=>exact absurd rfl h0
  | cons c r =>
   by_cases hc:c=35
   · subst hc;exact absurd rfl (h1 r)
   · unfold Lib.hasPrefix;simpa [List.isPrefixOf] using fun e:35=c=>hc e.symm
 have HPF:=lH (show Calls Tryz.prog 81 #[.string (bytes t),.string ⟨#[35]⟩] w fun e w'=>e=.returned (.bool false)∧w'=w by
  have:=Zd t [35] w;rw[hp] at this;exact this)
 have HCU:=lH (JC 32 t w hE.toEnvT.toEnv.base (by omega));obtain⟨wd,hwd⟩:∃q,(Lib.cut t [32]).1=q:=⟨_,rfl⟩
 rw[hwd] at HCU c1 c2 c3;have e1:((bytes wd).toList==[110,111,100,101])=false:=by rw[jn];simpa using c1
 have e2:((bytes wd).toList==[112,111,100])=false:=by rw[jn];simpa using c2
 have e3:((bytes wd).toList==[98,117,100,103,101,116])=false:=by rw[jn];simpa using c3
 obtain⟨wb,hwb⟩:∃q,bytes wd=q:=⟨_,rfl⟩
 rw[hwb] at HCU e1 e2 e3;obtain⟨rb,hrb⟩:∃q,bytes (Lib.cut t [32]).2.1=q:=⟨_,rfl⟩
 rw[hrb] at HCU;obtain⟨tx,htx⟩:∃q,bytes t=q:=⟨_,rfl⟩
 rw[htx] at he HPF HCU ⊢;clear htx hwb hwd hrb hp c1 c2 c3 h0 h1 ht hE;have HR:=lH hR;have H:=lH h;clear hR h;go_enter Tryz.func50,Tryz.ntmps50;go_wp2_with fail
 refine HPF.out.mono ?_;rintro e wa ⟨rfl,rfl⟩;go_wp2_with fail
 refine HCU.out.mono ?_;rintro e wb2 ⟨rfl,nq,rfl⟩;have K:=lH (Kept.drewN wa nq);go_wp2;exact⟨rfl,jc.of K.out,_,_,_,HR.out.kept K.out,H.out.kept K.out,.inr ⟨(by decide:(2:Int)≠0),rfl⟩⟩
theorem jl8 (R B:Nat) (line:Int) (t:List UInt8) (m:jD) (v1 v2 v3:Value) (s:Clu) (w:World) (hE:Jf w) (hm:Jv t m) (hR:jf R [v1,v2,v3,.int .i64 line] w) (h:jW (fun b=>b<B) B w v1 v2 v3 s) (hRB:R<B) (hB:B≤w.heap.size) (ho:YY s):Calls Tryz.prog 50 #[.pointer (some ⟨R,0,none⟩),.string (bytes t)] w (XL R B line s m w):=by
 cases hm with
 | empty=>exact jfg R B line v1 v2 v3 s w hR h
 | remark t _=>exact jew R B line t v1 v2 v3 s w hR h
 | node r n hr hP=>exact jjR R B line r n v1 v2 v3 s w hE hr hP hR h hRB hB (by have:=ho.nl;omega) ho.n
 | pod r n hr hP=>exact jk7 R B line r n v1 v2 v3 s w hE hr hP hR h hRB hB (by have:=ho.pl;omega) ho.p
 | bud r n hr hP=>exact jkj R B line r n v1 v2 v3 s w hE hr hP hR h hRB hB (by have:=ho.bl;omega) ho.b
 | bad t ht h0 h1 c1 c2 c3=>exact jhl R B line t v1 v2 v3 s w hE ht h0 h1 c1 c2 c3 hR h
def YS (r:Int×Vec.V) (w:World) (e:Ending) (w':World):Prop:=(r.1=0→∃v,e=.returned v∧Vec.jH 140 w' w.heap.size v r.2)∧(r.1≠0→e=.panicked [ju r.1])∧Kept w w'
theorem YS.good {r:Int×Vec.V} {m:Vec.V} {v:Value} {w w':World} (h:r=(0,m)) (g:Vec.jH 140 w' w.heap.size v m) (k:Kept w w'):YS r w (.returned v) w':=by
 subst h;exact⟨fun _=>⟨v,rfl,g⟩,fun h=>absurd rfl h,k⟩
theorem YS.bad {r:Int×Vec.V} {m:Vec.V} {c:Int} {w w':World} (h:r=(c,m)) (hc:c≠0) (k:Kept w w'):YS r w (.panicked [ju c]) w':=by
 subst h;exact⟨fun h=>absurd h hc,fun _=>rfl,k⟩
theorem jnZ {v v':Value} {l l':Vec.V} {w:World} (h:Vec.Reads w v l) (h':Vec.Reads w v' l'):Calls Tryz.prog 194 #[v,v'] w (Vec.jaC (Vec.jx Vec.jR l l') w):=by
 obtain⟨a,cap,rfl,h1,h2,hr⟩:=h;obtain⟨a',cap',rfl,h1',h2',hr'⟩:=h';exact Vec.jnD a a' _ cap _ cap' l l' w hr hr' h1 h2 h1' h2'
theorem jbo (w:World):Calls Tryz.prog 139 #[.int .i64 0] w fun e w'=>e=.returned (.tuple #[])∧w=w':=by
 go_enter Tryz.func139,Tryz.ntmps139;go_wp2;go_end0
 exact⟨rfl,rfl⟩
theorem jaB (x:Int) (w:World) (h:x≠0):Calls Tryz.prog 139 #[.int .i64 x] w fun e w'=>e=.panicked [ju x]∧w=w':=by
 have h3:(x != 0)=true:=by simpa using h
 clear h;go_enter Tryz.func139,Tryz.ntmps139;go_wp2;exact⟨rfl,rfl,rfl⟩
def jnl (o:Option Nod) (w:World) (e:Ending) (w':World):Prop:=(∀n,o=some n→∃v,e=.returned v∧JJ w.heap.size w' v n)∧(o=none→e=.panicked [ju 3])∧Kept w w'
theorem jdK (a a8 a9:Option Addr) (len cap m8 c8 m9 c9:Nat) (l:List Nod) (x:ByteArray) (w:World) (hr:j0 w a len l) (hlow:∀n ∈ l,zO n) :
 Calls Tryz.prog 144 #[.agg #[.slice a len cap,.slice a8 m8 c8,.slice a9 m9 c9],.string x] w (jnl (jT l x) w):=by
 obtain⟨Z,hZ⟩:∃Z,(w.alloc (.cells #[.slice a len cap,.slice a8 m8 c8,.slice a9 m9 c9] 26)).alloc (.cells #[.string ⟨#[]⟩,.slice none 0 0,.slice none 0 0,.slice none 0 0,.bool false] 42)=Z:=⟨_,rfl⟩
 have hkz:Kept w Z:=by rw[←hZ];exact jk _ _ _
 have hzs:Z.heap.size=w.heap.size+2:=by rw[←hZ];simp
 have HQ0:=lH (show jf (w.heap.size+1) [.string ⟨#[]⟩,.slice none 0 0,.slice none 0 0,.slice none 0 0,.bool false] Z by
  have:=jg (w.alloc (.cells #[.slice a len cap,.slice a8 m8 c8,.slice a9 m9 c9] 26)) (.string ⟨#[]⟩) [.slice none 0 0,.slice none 0 0,.slice none 0 0,.bool false] 42 Z (by rw[hZ];exact Kept.refl _);rw[World.size_alloc] at this;exact this)
 have hst:Z.cell? ⟨w.heap.size,0,none⟩=some (.slice a len cap):=(jg w (.slice a len cap) [.slice a8 m8 c8,.slice a9 m9 c9] 26 Z (by rw[←hZ];exact ja _ _)).at_ 0 _ rfl;have HF:=lH (jj4 a len cap l x Z (hr.kept hkz) hlow);have HKZ:=lH hkz;have HZS:=lH hzs;obtain⟨o,ho⟩:∃o,jT l x=o:=⟨_,rfl⟩
 rw[ho] at HF ⊢;clear hr hlow hkz hzs ho
 cases o with
 | none =>
  go_enter Tryz.func144,Tryz.ntmps144;go_wp2_with fail
  try rw[hZ]
  clear hZ hst;refine HF.out.mono ?_;rintro e w1 ⟨v,rfl,hn,k1⟩;have KW:=lH (HKZ.out.trans k1);obtain⟨b1,n1,d1,b2,n2,d2,b3,n3,d3,rfl,-⟩:=hn;clear k1;go_wp2;exact⟨rfl,(fun n h=>by cases h),(fun _=>rfl),KW.out.trans (ja _ _)⟩
 | some n9 =>
  go_enter Tryz.func144,Tryz.ntmps144;go_wp2_with fail
  try rw[hZ]
  clear hZ hst;refine HF.out.mono ?_;rintro e w1 ⟨v,rfl,hn,k1⟩;have HN:=lH hn;have HQZ:=lH (HQ0.out.kept k1);have KW:=lH (HKZ.out.trans k1);obtain⟨b1,n1,d1,b2,n2,d2,b3,n3,d3,hv,-⟩:=hn;have hv:v=.agg #[.string n9.name,.slice b1 n1 d1,.slice b2 n2 d2,.slice b3 n3 d3,.bool n9.cordon]:=hv;subst hv;obtain⟨z,hz⟩:∃z,n9.name=z:=⟨_,rfl⟩
  obtain⟨cd,hcd⟩:∃z,n9.cordon=z:=⟨_,rfl⟩
  have HZ1:=lH (show w.heap.size+2≤w1.heap.size by have:=k1.size;rw[HZS.out] at this;exact this);rw[hz,hcd];rw[hz,hcd] at HN;clear k1;have HQW:=lH (HQZ.out.kept (ja w1 (.cells #[.string z,.slice b1 n1 d1,.slice b2 n2 d2,.slice b3 n3 d3,.bool cd] 42)));clear HQZ;obtain⟨W1,hW1⟩:∃W,w1.alloc (.cells #[.string z,.slice b1 n1 d1,.slice b2 n2 d2,.slice b3 n3 d3,.bool cd] 42)=W:=⟨_,rfl⟩
  rw[hW1] at HQW;have c:=jg w1 (.string z) [.slice b1 n1 d1,.slice b2 n2 d2,.slice b3 n3 d3,.bool cd] 42 W1 (by rw[hW1];exact Kept.refl _);have g0:=c.at_ 0 _ rfl;have g1:=c.at_ 1 _ rfl;have g2:=c.at_ 2 _ rfl;have g3:=c.at_ 3 _ rfl;have g4:=c.at_ 4 _ rfl;have HNW:=lH (HN.out.kept (show Kept w1 W1 by rw[←hW1];exact ja _ _));have HKW:=lH (KW.out.trans (show Kept w1 W1 by rw[←hW1];exact ja _ _));have y0:=HQW.out.at_ 0 _ rfl;have y1:=HQW.out.at_ 1 _ rfl;have y2:=HQW.out.at_ 2 _ rfl;have y3:=HQW.out.at_ 3 _ rfl;have y4:=HQW.out.at_ 4 _ rfl;have x0:=HQW.out.free 0;have x1:=HQW.out.free 1;have x2:=HQW.out.free 2;have x3:=HQW.out.free 3;have x4:=HQW.out.free 4;have P:=lH (J7 (vs:=[.string z,.slice b1 n1 d1,.slice b2 n2 d2,.slice b3 n3 d3,.bool cd]) HQW.out rfl);clear HQW c;go_wp2_with fail
  try rw[hW1]
  clear hW1;go_wp2;obtain⟨WE,hWE⟩:∃W,W1.setCells (w.heap.size+1) 0 [.string z,.slice b1 n1 d1,.slice b2 n2 d2,.slice b3 n3 d3,.bool cd]=W:=⟨_,rfl⟩
  have hWE2:(((((W1.setCell ⟨(w.heap.size+1),0,none⟩ (.string z)).setCell ⟨(w.heap.size+1),1,none⟩ (.slice b1 n1 d1)).setCell ⟨(w.heap.size+1),2,none⟩ (.slice b2 n2 d2)).setCell ⟨(w.heap.size+1),3,none⟩ (.slice b3 n3 d3)).setCell ⟨(w.heap.size+1),4,none⟩ (.bool cd))=WE:=hWE;rw[hWE] at P;try rw[hWE2]
  clear hWE hWE2;obtain⟨PC,hsz,hbl,hkp⟩:=P.out;refine bodyPost_ret (by simp[results,Tryz.results144,go_sem,PC.at_ 0 _ rfl,PC.at_ 1 _ rfl,PC.at_ 2 _ rfl,PC.at_ 3 _ rfl,PC.at_ 4 _ rfl];try rfl) rfl ?_;exact⟨(fun n h=>by cases h;exact⟨_,rfl,(HNW.out.far hsz (fun b hb=>hbl b (by have:=HZS.out;omega))).less (by have:=HZS.out;omega)⟩),(fun h=>by cases h),hkp _ _ (by omega) HKW.out⟩
theorem jmk (a a8 a9 b1 b2 b3:Option Addr) (len cap m8 c8 m9 c9 n1 d1 n2 d2 n3 d3:Nat) (q:ByteArray) (cd:Bool) (l:List Pd) (w:World) (hr:Jd w a len l) :
 Calls Tryz.prog 146 #[.agg #[.slice a8 m8 c8,.slice a len cap,.slice a9 m9 c9],.agg #[.string q,.slice b1 n1 d1,.slice b2 n2 d2,.slice b3 n3 d3,.bool cd]] w (YS (zF q l []) w):=by
 have hl:=hr.1;have hm:=hr.2.1;unfold maxLen at hm;obtain⟨Z,hZ⟩:∃Z,(w.alloc (.cells #[.slice a8 m8 c8,.slice a len cap,.slice a9 m9 c9] 26)).alloc (.cells #[.string q,.slice b1 n1 d1,.slice b2 n2 d2,.slice b3 n3 d3,.bool cd] 42)=Z:=⟨_,rfl⟩
 have hkz:Kept w Z:=by rw[←hZ];exact jk _ _ _
 have HQ:=lH (show ∀W,Kept Z W→W.cell? ⟨w.heap.size+1,0,none⟩=some (.string q) from fun W k=>by
  have:=jg (w.alloc (.cells #[.slice a8 m8 c8,.slice a len cap,.slice a9 m9 c9] 26)) (.string q) [.slice b1 n1 d1,.slice b2 n2 d2,.slice b3 n3 d3,.bool cd] 42 W (by rw[hZ];exact k);rw[World.size_alloc] at this;exact this.at_ 0 _ rfl)
 have hst:Z.cell? ⟨w.heap.size,1,none⟩=some (.slice a len cap):=(jg w (.slice a8 m8 c8) [.slice a len cap,.slice a9 m9 c9] 26 Z (by rw[←hZ];exact ja _ _)).at_ 1 _ rfl;have HR:=lH (hr.kept hkz);have HL:=lH hl;have HKZ:=lH hkz;by_cases h0:len=0
 · subst h0;have HE:=lH (show zF q l []=(0,[]) by rw[List.eq_nil_of_length_eq_zero hl];rfl);clear hr hl hkz;go_enter Tryz.func146,Tryz.ntmps146;go_wp2;try rw[hZ]
   refine wp_loop_rounds 1 ?_;rw[rounds_succ];go_wp2;go_ret;exact YS.good HE.out (Vec.jH.nil _ _ _) (by first | exact HKZ.out | (rw[hZ];exact HKZ.out))
 · obtain⟨b,off,rfl⟩:=hr.form.resolve_left h0;clear hr hl hkz h0;go_enter Tryz.func146,Tryz.ntmps146;go_wp2;try rw[hZ]
   clear hZ hst;go_loopw [5,11] (fun s i wr=>∃k:Nat,k≤len∧i=.int .i64 k∧∃acc:Vec.V,Vec.jH 140 wr w.heap.size s acc∧zF q (l.drop k) acc=zF q l []∧Kept Z wr) (fun _ i _=>len-(intOf i).toNat)
   case atStart=>exact⟨0,Nat.zero_le _,rfl,[],Vec.jH.nil _ _ _,rfl,Kept.refl _⟩
   case round =>
    obtain⟨k,hk,rfl,acc,hv,hrest,hK⟩:=hrel;have HS:=lH hrest;have HV:=lH hv;have HK:=lH hK;by_cases hlt:k<len
    · obtain⟨n,a1,m1,c1,a2,m2,c2,a3,m3,c3,a4,m4,c4,hn,hd,hb,p0,p1,p2,p3,p4,p5,p6,p7,p8,p9,p10,hat⟩:=(HR.out.kept hK).at_ hlt;have HD:=lH hd;have HAT:=lH hat;have q0:=HQ.out _ hK;obtain⟨t,ht⟩:∃t,eqS n.node q=t:=⟨_,rfl⟩
      have ht':(n.node.toList==q.toList)=t:=ht;have HT:=lH ht;have hkk:(k:Int)<(len:Int):=by omega
      have z0:=HQ.out _ (hK.trans (ja wr (.cells #[.string n.name,.string n.owner,.int .i64 n.prio,.slice a1 m1 c1,.slice a2 m2 c2,.slice a3 m3 c3,.slice a4 m4 c4,.string n.key,.int .i64 n.most,.string n.node,.bool n.hold] 62)));clear hrest hK hat hd hn ht hv
      cases t with
      | false =>
       have HX:=lH (show zF q (l.drop (k+1)) acc=zF q l [] by rw[←HS.out,HD.out,jeG HT.out]);go_wp2;go_roundw
       case rel=>exact⟨k+1,by omega,by go_num,acc,HV.out.kept (ja _ _),HX.out,HK.out.trans (ja _ _)⟩
       case measure=>simp[intOf];omega
      | true =>
       obtain⟨c,m,hcm⟩:∃c m,Vec.jx Vec.jR acc n.need=(c,m):=⟨_,_,rfl⟩
       have HCM:=lH hcm;have HBS:=lH (show w.heap.size≤wr.heap.size from(HKZ.out.trans HK.out).size);have HADD:=lH (fun W (kk:Kept wr W)=>jnZ (HV.out.kept kk).reads (HAT.out.need.kept kk));rw[hcm] at HADD;clear hcm;by_cases hc:c=0
       · subst hc;have HX:=lH (show zF q (l.drop (k+1)) m=zF q l [] by rw[←HS.out,HD.out,jgo HT.out HCM.out]);go_wp2_with fail
         refine(HADD.out _ (ja _ _)).mono ?_;rintro e w1 ⟨x,rfl,r,kk⟩;have RX:=lH (r.base_le (show w.heap.size≤_ by rw[World.size_alloc];have:=HBS.out;omega));have KW:=lH (HK.out.trans ((ja _ _).trans kk));clear r kk;go_wp2_with fail
         refine(YF _ _).mono ?_;rintro e w2 ⟨rfl,rfl⟩;go_wp2;go_roundw
         case rel=>exact⟨k+1,by omega,by go_num,m,RX.out,HX.out,KW.out⟩
         case measure=>simp[intOf];omega
       · have HX:=lH (show zF q l []=(c,[]) by rw[←HS.out,HD.out,jgY HT.out HCM.out hc]);have HC:=lH hc;clear hc;go_wp2_with fail
         refine(HADD.out _ (ja _ _)).mono ?_;rintro e w1 ⟨x,rfl,r,kk⟩;have KW:=lH (HK.out.trans ((ja _ _).trans kk));clear r kk;go_wp2_with fail
         refine(jd4 _ _ _ HC.out).mono ?_;rintro e w2 ⟨rfl,rfl⟩;go_wp2;exact⟨rfl,YS.bad HX.out HC.out (HKZ.out.trans KW.out)⟩
    · have HE:=lH (show zF q l []=(0,acc) by rw[←hrest,List.drop_of_length_le (by rw[HL.out];omega)];rfl);clear hrest hK hv;go_wp2;go_ret;exact YS.good HE.out HV.out (HKZ.out.trans HK.out)
theorem jk5 (a a8 a9:Option Addr) (len cap m8 c8 m9 c9:Nat) (l:List Nod) (w:World) (hr:j0 w a len l) :
 Calls Tryz.prog 147 #[.agg #[.slice a len cap,.slice a8 m8 c8,.slice a9 m9 c9]] w (YS (JN l []) w):=by
 have hl:=hr.1;have hm:=hr.2.1;unfold maxLen at hm;obtain⟨Z,hZ⟩:∃Z,w.alloc (.cells #[.slice a len cap,.slice a8 m8 c8,.slice a9 m9 c9] 26)=Z:=⟨_,rfl⟩
 have hkz:Kept w Z:=by rw[←hZ];exact ja _ _
 have hst:Z.cell? ⟨w.heap.size,0,none⟩=some (.slice a len cap):=(jg w (.slice a len cap) [.slice a8 m8 c8,.slice a9 m9 c9] 26 Z (by rw[hZ];exact Kept.refl _)).at_ 0 _ rfl;have HR:=lH (hr.kept hkz);have HL:=lH hl;have HKZ:=lH hkz;by_cases h0:len=0
 · subst h0;have HE:=lH (show JN l []=(0,[]) by rw[List.eq_nil_of_length_eq_zero hl];rfl);clear hr hl hkz;go_enter Tryz.func147,Tryz.ntmps147;go_wp2;try rw[hZ]
   refine wp_loop_rounds 1 ?_;rw[rounds_succ];go_wp2;go_ret;exact YS.good HE.out (Vec.jH.nil _ _ _) (by first | exact HKZ.out | (rw[hZ];exact HKZ.out))
 · obtain⟨b,off,rfl⟩:=hr.form.resolve_left h0;clear hr hl hkz h0;go_enter Tryz.func147,Tryz.ntmps147;go_wp2;try rw[hZ]
   clear hZ hst;go_loopw [3,9] (fun s i wr=>∃k:Nat,k≤len∧i=.int .i64 k∧∃acc:Vec.V,Vec.jH 140 wr w.heap.size s acc∧JN (l.drop k) acc=JN l []∧Kept Z wr) (fun _ i _=>len-(intOf i).toNat)
   case atStart=>exact⟨0,Nat.zero_le _,rfl,[],Vec.jH.nil _ _ _,rfl,Kept.refl _⟩
   case round =>
    obtain⟨k,hk,rfl,acc,hv,hrest,hK⟩:=hrel;have HS:=lH hrest;have HV:=lH hv;have HK:=lH hK;by_cases hlt:k<len
    · obtain⟨n,a1,m1,c1,a2,m2,c2,a3,m3,c3,hn,hd,hb,p0,p1,p2,p3,p4,hat⟩:=(HR.out.kept hK).at_ hlt;have HD:=lH hd;have HAT:=lH hat;have hkk:(k:Int)<(len:Int):=by omega
      obtain⟨c,m,hcm⟩:∃c m,Vec.jx Vec.jR acc n.cap=(c,m):=⟨_,_,rfl⟩
      have HCM:=lH hcm;have HBS:=lH (show w.heap.size≤wr.heap.size from(HKZ.out.trans HK.out).size);have HADD:=lH (fun W (kk:Kept wr W)=>jnZ (HV.out.kept kk).reads (HAT.out.cap.kept kk));rw[hcm] at HADD;clear hrest hK hat hd hn hv hcm;by_cases hc:c=0
      · subst hc;have HX:=lH (show JN (l.drop (k+1)) m=JN l [] by rw[←HS.out,HD.out,jf4 HCM.out]);go_wp2_with fail
        refine(HADD.out _ (ja _ _)).mono ?_;rintro e w1 ⟨x,rfl,r,kk⟩;have RX:=lH (r.base_le (show w.heap.size≤_ by rw[World.size_alloc];have:=HBS.out;omega));have KW:=lH (HK.out.trans ((ja _ _).trans kk));clear r kk;go_wp2_with fail
        refine(YF _ _).mono ?_;rintro e w2 ⟨rfl,rfl⟩;go_wp2;go_roundw
        case rel=>exact⟨k+1,by omega,by go_num,m,RX.out,HX.out,KW.out⟩
        case measure=>simp[intOf];omega
      · have HX:=lH (show JN l []=(c,[]) by rw[←HS.out,HD.out,jg0 HCM.out hc]);have HC:=lH hc;clear hc;go_wp2_with fail
        refine(HADD.out _ (ja _ _)).mono ?_;rintro e w1 ⟨x,rfl,r,kk⟩;have KW:=lH (HK.out.trans ((ja _ _).trans kk));clear r kk;go_wp2_with fail
        refine(jd4 _ _ _ HC.out).mono ?_;rintro e w2 ⟨rfl,rfl⟩;go_wp2;exact⟨rfl,YS.bad HX.out HC.out (HKZ.out.trans KW.out)⟩
    · have HE:=lH (show JN l []=(0,acc) by rw[←hrest,List.drop_of_length_le (by rw[HL.out];omega)];rfl);clear hrest hK hv;go_wp2;go_ret;exact YS.good HE.out HV.out (HKZ.out.trans HK.out)
theorem jhj (a a8 a9:Option Addr) (len cap m8 c8 m9 c9:Nat) (l:List Nod) (x:ByteArray) (w:World) (hr:j0 w a len l) (hlow:∀n ∈ l,zO n) (hf:jT l x=none) :
 Calls Tryz.prog 144 #[.agg #[.slice a len cap,.slice a8 m8 c8,.slice a9 m9 c9],.string x] w fun e w'=>e=.panicked [ju 3]∧Kept w w':=by
 refine(jdK a a8 a9 len cap m8 c8 m9 c9 l x w hr hlow).mono ?_;rintro e w' ⟨-,h,k⟩;exact⟨h hf,k⟩
theorem jhM (a a8 a9:Option Addr) (len cap m8 c8 m9 c9:Nat) (l:List Nod) (x:ByteArray) (n:Nod) (w:World) (hr:j0 w a len l) (hlow:∀n ∈ l,zO n) (hf:jT l x=some n) :
 Calls Tryz.prog 144 #[.agg #[.slice a len cap,.slice a8 m8 c8,.slice a9 m9 c9],.string x] w fun e w'=>∃b1 n1 d1 b2 n2 d2 b3 n3 d3,e=.returned (.agg #[.string n.name,.slice b1 n1 d1,.slice b2 n2 d2,.slice b3 n3 d3,.bool n.cordon])∧Jo w' (.slice b1 n1 d1) (.slice b2 n2 d2) (.slice b3 n3 d3) n∧Kept w w':=by
 refine(jdK a a8 a9 len cap m8 c8 m9 c9 l x w hr hlow).mono ?_;rintro e w' ⟨h,-,k⟩;obtain⟨v,rfl,b1,n1,d1,b2,n2,d2,b3,n3,d3,rfl,s0,s1,s2,s3,-⟩:=h n hf;exact⟨b1,n1,d1,b2,n2,d2,b3,n3,d3,rfl,⟨s0,s1,s2,s3⟩,k⟩
theorem YS.ok {m:Vec.V} {w w':World} {e:Ending} {r:Int×Vec.V} (h:YS r w e w') (hr:r=(0,m)):∃v,e=.returned v∧Vec.jH 140 w' w.heap.size v m∧Kept w w':=by
 subst hr;obtain⟨v,rfl,g⟩:=h.1 rfl;exact⟨v,rfl,g,h.2.2⟩
theorem YS.not {m:Vec.V} {c:Int} {w w':World} {e:Ending} {r:Int×Vec.V} (h:YS r w e w') (hr:r=(c,m)) (hc:c≠0):e=.panicked [ju c]∧Kept w w':=by
 subst hr;exact⟨h.2.1 hc,h.2.2⟩
def Zw (c:Int) (v:Value) (w:World) (e:Ending) (w':World):Prop:=(c=0→e=.returned v)∧(c≠0→e=.panicked [ju c])∧Kept w w'
theorem Zw.good {x c:Int} {v:Value} {w w':World} (h:x=c) (hc:c=0) (k:Kept w w'):Zw x v w (.returned v) w':=by
 subst h;exact⟨fun _=>rfl,fun h=>absurd hc h,k⟩
theorem Zw.bad {x c:Int} {v:Value} {w w':World} (h:x=c) (hc:c≠0) (k:Kept w w'):Zw x v w (.panicked [ju c]) w':=by
 subst h;exact⟨fun h=>absurd h hc,fun _=>rfl,k⟩
theorem jb9 {nl:List Nod} {pl:List Pd} {bl:List Bd} {c:Int} (h:or3 (jJ nl) (jK pl) (jA bl)=c) (hc:c≠0):zB ⟨nl,pl,bl⟩=c:=by
 unfold zB;dsimp only;rw[h,if_pos hc]
theorem jbz {nl:List Nod} {pl:List Pd} {bl:List Bd} {c:Int} (h:or3 (jJ nl) (jK pl) (jA bl)=0) (g:jz nl pl=c) (hc:c≠0):zB ⟨nl,pl,bl⟩=c:=by
 unfold zB;dsimp only;rw[h,if_neg (by simp),g,if_pos hc]
theorem qz {nl:List Nod} {pl:List Pd} {bl:List Bd} {c:Int} (h:or3 (jJ nl) (jK pl) (jA bl)=0) (g:jz nl pl=0) (r:jV pl nl=c) (hc:c≠0):zB ⟨nl,pl,bl⟩=c:=by
 unfold zB;dsimp only;rw[h,if_neg (by simp),g,if_neg (by simp),r,if_pos hc]
theorem jcV {nl:List Nod} {pl:List Pd} {bl:List Bd} (h:or3 (jJ nl) (jK pl) (jA bl)=0) (g:jz nl pl=0) (r:jV pl nl=0):zB ⟨nl,pl,bl⟩=(JN nl []).1:=by
 unfold zB;dsimp only;rw[h,if_neg (by simp),g,if_neg (by simp),r,if_neg (by simp)]
theorem jfr (a b d:Option Addr) (len cap m c n e:Nat) (nl:List Nod) (pl:List Pd) (bl:List Bd) (w:World) (hn:j0 w a len nl) (hp:Jd w b m pl) (hb:Je w d n bl) (hlow:∀n ∈ nl,zO n) :
 Calls Tryz.prog 97 #[.agg #[.slice a len cap,.slice b m c,.slice d n e]] w (Zw (zB ⟨nl,pl,bl⟩) (.agg #[.slice a len cap,.slice b m c,.slice d n e]) w):=by
 have hlN:=hn.1;have hlP:=hp.1;have hmN:=hn.2.1;have hmP:=hp.2.1;unfold maxLen at hmN hmP;obtain⟨Z,hZ⟩:∃Z,(w.alloc (.cells #[.slice a len cap,.slice b m c,.slice d n e] 26)).alloc (.cells #[.slice none 0 0,.slice none 0 0,.slice none 0 0] 26)=Z:=⟨_,rfl⟩
 have hkz:Kept w Z:=by rw[←hZ];exact jk _ _ _
 have HS:=lH (show ∀W,Kept Z W→W.cell? ⟨w.heap.size,0,none⟩=some (.slice a len cap)∧W.cell? ⟨w.heap.size,1,none⟩=some (.slice b m c)∧W.cell? ⟨w.heap.size,2,none⟩=some (.slice d n e) from fun W k=>by
  have cc:=jg w (.slice a len cap) [.slice b m c,.slice d n e] 26 W (by have:=ja (w.alloc (.cells #[.slice a len cap,.slice b m c,.slice d n e] 26)) (.cells #[.slice none 0 0,.slice none 0 0,.slice none 0 0] 26);rw[hZ] at this;exact this.trans k);exact⟨cc.at_ 0 _ rfl,cc.at_ 1 _ rfl,cc.at_ 2 _ rfl⟩)
 have HQ:=lH (show ∀W,Kept Z W→jf (w.heap.size+1) [.slice none 0 0,.slice none 0 0,.slice none 0 0] W from fun W k=>by
  have dd:=jg (w.alloc (.cells #[.slice a len cap,.slice b m c,.slice d n e] 26)) (.slice none 0 0) [.slice none 0 0,.slice none 0 0] 26 W (by rw[hZ];exact k);rw[World.size_alloc] at dd;exact dd)
 have HN:=lH (hn.kept hkz);have HP:=lH (hp.kept hkz);have HB:=lH (hb.kept hkz);have HLOW:=lH hlow;have HLN:=lH hlN;have HLP:=lH hlP;have HKZ:=lH hkz;obtain⟨x1,hx1⟩:∃x,jJ nl=x:=⟨_,rfl⟩
 obtain⟨x2,hx2⟩:∃x,jK pl=x:=⟨_,rfl⟩
 obtain⟨x3,hx3⟩:∃x,jA bl=x:=⟨_,rfl⟩
 obtain⟨x0,hx0⟩:∃x,or3 x1 x2 x3=x:=⟨_,rfl⟩
 have HX0:=lH hx0;have HOR:=lH (show or3 (jJ nl) (jK pl) (jA bl)=x0 by rw[hx1,hx2,hx3,hx0]);have H1:=lH (fun W (k:Kept Z W)=>jgf a len cap nl W (HN.out.kept k));have H2:=lH (fun W (k:Kept Z W)=>jfq b m c pl W (HP.out.kept k));have H3:=lH (fun W (k:Kept Z W)=>je8 d n e bl W (HB.out.kept k));rw[hx1] at H1;rw[hx2] at H2;rw[hx3] at H3;clear hn hp hb hlow hlN hlP hkz hx1 hx2 hx3 hx0;by_cases hc:x0=0
 · subst hc;go_enter Tryz.func97,Tryz.ntmps97;go_wp2;try rw[hZ]
   clear hZ;refine wp_region_held_drew (S:=fun W=>W.cell? ⟨w.heap.size,0,none⟩=some (.slice a len cap)∧W.cell? ⟨w.heap.size,1,none⟩=some (.slice b m c)∧W.cell? ⟨w.heap.size,2,none⟩=some (.slice d n e)) (by kernel_rfl) (HS.out _ (Kept.drew _)) (fun hHeld=>?_);refine tkI 0 ?_;refine tkI 1 ?_;refine tkI 3 ?_;refine tkI 4 ?_;refine tkI 6 ?_;refine tkI 7 ?_;try simp only[nP]
   refine rd1 2 fun K9 hK9=>?_;go_simp;refine(H1.out _ (Kept.drew _)).mono ?_;rintro e1 w1 ⟨rfl,kk⟩;have J1:=lH ((Kept.drew _).trans kk);clear kk;refine hK9.out _ _ (HS.out _ J1.out) (fun hHeld1=>?_);clear hK9 K9;try simp only[nP]
   refine rd1 5 fun K9 hK9=>?_;go_simp;refine(H2.out _ J1.out).mono ?_;rintro e2 w2 ⟨rfl,kk⟩;have J2:=lH ((J1.out).trans kk);clear kk;refine hK9.out _ _ (HS.out _ J2.out) (fun hHeld2=>?_);clear hK9 K9;try simp only[nP]
   refine rd1 8 fun K9 hK9=>?_;go_simp;refine(H3.out _ J2.out).mono ?_;rintro e3 w3 ⟨rfl,kk⟩;have J3:=lH ((J2.out).trans kk);clear kk;refine hK9.out _ _ (HS.out _ J3.out) (fun hHeld3=>?_);clear hK9 K9;try simp only[nP]
   refine rd1 9 fun K9 hK9=>?_;go_simp;have J4:=lH (J3.out.trans (ja w3 (.cells #[.int .i64 x1,.int .i64 x2,.int .i64 x3] 32)));refine hK9.out _ _ (HS.out _ J4.out) (fun hHeld9=>?_);clear hK9 K9;try simp only[nP]
   refine rd1 10 fun K9 hK9=>?_;go_simp;refine(jej _ x1 x2 x3 _ (by go_simp) (by go_simp) (by go_simp)).mono ?_;rintro e4 w4 ⟨rfl,rfl⟩;rw[HX0.out];refine hK9.out _ _ (HS.out _ J4.out) (fun hHeld4=>?_);clear hK9 K9;try simp only[nP]
   refine rd1 11 fun K9 hK9=>?_;go_simp;refine(jbo _).mono ?_;rintro e5 w5 ⟨rfl,rfl⟩;refine hK9.out _ _ (HS.out _ J4.out) (fun hHeld5=>?_);clear hK9 K9;try simp only[nP]
   refine wpAnyH_done (by kernel_rfl) ?_ _;obtain⟨W0,hW0⟩:∃W,w3.alloc (.cells #[.int .i64 x1,.int .i64 x2,.int .i64 x3] 32)=W:=⟨_,rfl⟩
   rw[hW0] at J4 ⊢;obtain⟨o0,o1,o2⟩:=HS.out _ J4.out;clear hW0;go_wp2;clear o0 o1 o2;go_loopw [22] (fun i wr=>∃k:Nat,k≤m∧i=.int .i64 k∧jz nl (pl.drop k)=jz nl pl∧Kept Z wr) (fun i _=>m-(intOf i).toNat)
   case atStart=>exact⟨0,Nat.zero_le _,rfl,rfl,J4.out⟩
   case round =>
    obtain⟨k,hk,rfl,hrest,hK⟩:=hrel;have HT:=lH hrest;have HK:=lH hK;by_cases hlt:k<m
    · obtain⟨b0,off,rfl⟩:=HP.out.form.resolve_left (by omega);obtain⟨p,a1,m1,c1,a2,m2,c2,a3,m3,c3,a4,m4,c4,hn,hd,hb,y0,y1,y2,y3,y4,y5,y6,y7,y8,y9,y10,hat⟩:=(HP.out.kept hK).at_ hlt;have HD:=lH hd;obtain⟨t,ht⟩:∃t,(p.node.toList==([]:List UInt8))=t:=⟨_,rfl⟩
      have HNO:=lH (show Zj p.node=t by rw[ZY];exact ht);have hkk:(k:Int)<(m:Int):=by omega
      have KA:=lH (hK.trans (ja wr (.cells #[.string p.name,.string p.owner,.int .i64 p.prio,.slice a1 m1 c1,.slice a2 m2 c2,.slice a3 m3 c3,.slice a4 m4 c4,.string p.key,.int .i64 p.most,.string p.node,.bool p.hold] 62)));obtain⟨o0,o1,o2⟩:=HS.out _ KA.out;clear hrest hK hat hd hn
      cases t with
      | true =>
       have HX:=lH (show jz nl (pl.drop (k+1))=jz nl pl by rw[←HT.out,HD.out,jcE HNO.out]);go_wp2;go_roundw
       case rel=>exact⟨k+1,by omega,by go_num,HX.out,KA.out⟩
       case measure=>simp[intOf];omega
      | false =>
       cases hf:jT nl p.node with
       | none =>
        have HX:=lH (show jz nl pl=3 by rw[←HT.out,HD.out,jdx HNO.out (by rw[hf];rfl)]);have HF:=lH hf;clear hf;go_wp2_with fail
        refine(jhj a _ d len cap m c n e nl p.node _ (HN.out.kept KA.out) HLOW.out HF.out).mono ?_;rintro e1 v1 ⟨rfl,kk⟩;go_wp2;exact⟨rfl,Zw.bad (jbz HOR.out HX.out (by decide)) (by decide) (HKZ.out.trans (KA.out.trans kk))⟩
       | some n9 =>
        have HX:=lH (show jz nl (pl.drop (k+1))=jz nl pl by rw[←HT.out,HD.out,jcz (by rw[hf];rfl)]);have HF:=lH hf;clear hf;go_wp2_with fail
        refine(jhM a _ d len cap m c n e nl p.node n9 _ (HN.out.kept KA.out) HLOW.out HF.out).mono ?_;rintro e1 v1 ⟨b1,n1,d1,b2,n2,d2,b3,n3,d3,rfl,-,kk⟩;have KB:=lH (KA.out.trans kk);clear kk o0 o1 o2;go_wp2;go_roundw
        case rel=>exact⟨k+1,by omega,by go_num,HX.out,KB.out⟩
        case measure=>simp[intOf];omega
    · have HPL:=lH (show jz nl pl=0 by rw[←hrest,List.drop_of_length_le (by rw[HLP.out];omega)];rfl);obtain⟨o0,o1,o2⟩:=HS.out _ hK;clear hrest hK;go_wp2;clear o0 o1 o2;go_loopw [37] (fun i wr=>∃k:Nat,k≤len∧i=.int .i64 k∧jV pl (nl.drop k)=jV pl nl∧Kept Z wr) (fun i _=>len-(intOf i).toNat)
      case atStart=>exact⟨0,Nat.zero_le _,rfl,rfl,HK.out⟩
      case round =>
       obtain⟨k,hk,rfl,hrest,hK⟩:=hrel;have HT:=lH hrest;have HK:=lH hK;by_cases hlt:k<len
       · obtain⟨b0,off,rfl⟩:=HN.out.form.resolve_left (by omega);obtain⟨p,a1,m1,c1,a2,m2,c2,a3,m3,c3,hn,hd,hb,y0,y1,y2,y3,y4,hat⟩:=(HN.out.kept hK).at_ hlt;have HD:=lH hd;have HA:=lH hat;have hkk:(k:Int)<(len:Int):=by omega
         obtain⟨c9,m9,hu⟩:∃c m,zF p.name pl []=(c,m):=⟨_,_,rfl⟩
         have HU:=lH hu;obtain⟨z0,hz0⟩:∃z,p.name=z:=⟨_,rfl⟩
         obtain⟨z4,hz4⟩:∃z,p.cordon=z:=⟨_,rfl⟩
         have HZ0:=lH hz0;rw[hz0] at y0;rw[hz4] at y4;have HT2:=lH (show ∀W,Kept (wr.alloc (.cells #[.string z0,.slice a1 m1 c1,.slice a2 m2 c2,.slice a3 m3 c3,.bool z4] 42)) W→W.cell? ⟨w.heap.size,0,none⟩=some (.slice (some ⟨b0,off,none⟩) len cap)∧W.cell? ⟨w.heap.size,1,none⟩=some (.slice b m c)∧W.cell? ⟨w.heap.size,2,none⟩=some (.slice d n e)∧W.cell? ⟨wr.heap.size,0,none⟩=some (.string z0)∧W.cell? ⟨wr.heap.size,1,none⟩=some (.slice a1 m1 c1)∧W.cell? ⟨wr.heap.size,2,none⟩=some (.slice a2 m2 c2)∧W.cell? ⟨wr.heap.size,3,none⟩=some (.slice a3 m3 c3)∧W.cell? ⟨wr.heap.size,4,none⟩=some (.bool z4) from fun W k=>by
          obtain⟨o0,o1,o2⟩:=HS.out W (hK.trans ((ja _ _).trans k));have cc:=jg wr (.string z0) [.slice a1 m1 c1,.slice a2 m2 c2,.slice a3 m3 c3,.bool z4] 42 W k;exact⟨o0,o1,o2,cc.at_ 0 _ rfl,cc.at_ 1 _ rfl,cc.at_ 2 _ rfl,cc.at_ 3 _ rfl,cc.at_ 4 _ rfl⟩)
         have HUS:=lH (fun W (k:Kept wr W)=>jmk b (some ⟨b0,off,none⟩) d a1 a2 a3 m c len cap n e m1 c1 m2 c2 m3 c3 z0 z4 pl W (HP.out.kept (HK.out.trans k)));clear hrest hK hat hd hn hu;by_cases hc:c9=0
         · subst hc;obtain⟨t,ht⟩:∃t,Vec.jP p.cap m9=t:=⟨_,rfl⟩
           have HFT:=lH ht;clear ht
           cases t with
           | true =>
            have HX:=lH (show jV pl (nl.drop (k+1))=jV pl nl by rw[←HT.out,HD.out,jdn HU.out HFT.out]);obtain⟨o0,o1,o2,-⟩:=HT2.out _ (Kept.refl _);go_wp2;clear o0 o1 o2;refine wp_region_held_drew (S:=fun W=>W.cell? ⟨w.heap.size,0,none⟩=some (.slice (some ⟨b0,off,none⟩) len cap)∧W.cell? ⟨w.heap.size,1,none⟩=some (.slice b m c)∧W.cell? ⟨w.heap.size,2,none⟩=some (.slice d n e)∧W.cell? ⟨wr.heap.size,0,none⟩=some (.string z0)∧W.cell? ⟨wr.heap.size,1,none⟩=some (.slice a1 m1 c1)∧W.cell? ⟨wr.heap.size,2,none⟩=some (.slice a2 m2 c2)∧W.cell? ⟨wr.heap.size,3,none⟩=some (.slice a3 m3 c3)∧W.cell? ⟨wr.heap.size,4,none⟩=some (.bool z4)) (by kernel_rfl) (HT2.out _ (Kept.drew _)) (fun hHeld=>?_);refine tkI 0 ?_;refine tkI 1 ?_;refine tkI 3 ?_;refine tkI 4 ?_;try simp only[nP]
            refine rd1 2 fun K9 hK9=>?_;go_simp;refine(((HUS.out _ ((ja wr (.cells #[.string z0,.slice a1 m1 c1,.slice a2 m2 c2,.slice a3 m3 c3,.bool z4] 42)).trans (Kept.drew _))).mono fun _ _ h=>h.ok (by rw[←HZ0.out];exact HU.out))).mono ?_;rintro e1 v1 ⟨v,rfl,ho,kk⟩;have J1:=lH ((Kept.drew _).trans kk);have HO:=lH ho;clear kk ho;refine hK9.out _ _ (HT2.out _ J1.out) (fun hHeld1=>?_);clear hK9 K9;try simp only[nP]
            refine rd1 5 fun K9 hK9=>?_;go_simp;refine(Vec.jmP HO.out.reads (HA.out.kept ((ja wr (.cells #[.string z0,.slice a1 m1 c1,.slice a2 m2 c2,.slice a3 m3 c3,.bool z4] 42)).trans J1.out)).cap HFT.out).mono ?_;rintro e2 v2 ⟨rfl,kk⟩;have J2:=lH (J1.out.trans kk);clear kk;refine hK9.out _ _ (HT2.out _ J2.out) (fun hHeld2=>?_);clear hK9 K9;try simp only[nP]
            refine tkI 6 ?_;try simp only[nP]
            refine wpAnyH_done (by kernel_rfl) ?_ _;have KB:=lH (HK.out.trans ((ja wr (.cells #[.string z0,.slice a1 m1 c1,.slice a2 m2 c2,.slice a3 m3 c3,.bool z4] 42)).trans J2.out));go_wp2;go_roundw
            case rel=>exact⟨k+1,by omega,by go_num,HX.out,KB.out⟩
            case measure=>simp[intOf];omega
           | false =>
            have HX:=lH (show jV pl nl=7 by rw[←HT.out,HD.out,jdj HU.out HFT.out]);obtain⟨o0,o1,o2,-⟩:=HT2.out _ (Kept.refl _);go_wp2;clear o0 o1 o2;refine wp_region_held_drew (S:=fun W=>W.cell? ⟨w.heap.size,0,none⟩=some (.slice (some ⟨b0,off,none⟩) len cap)∧W.cell? ⟨w.heap.size,1,none⟩=some (.slice b m c)∧W.cell? ⟨w.heap.size,2,none⟩=some (.slice d n e)∧W.cell? ⟨wr.heap.size,0,none⟩=some (.string z0)∧W.cell? ⟨wr.heap.size,1,none⟩=some (.slice a1 m1 c1)∧W.cell? ⟨wr.heap.size,2,none⟩=some (.slice a2 m2 c2)∧W.cell? ⟨wr.heap.size,3,none⟩=some (.slice a3 m3 c3)∧W.cell? ⟨wr.heap.size,4,none⟩=some (.bool z4)) (by kernel_rfl) (HT2.out _ (Kept.drew _)) (fun hHeld=>?_);refine tkI 0 ?_;refine tkI 1 ?_;refine tkI 3 ?_;refine tkI 4 ?_;try simp only[nP]
            refine rd1 2 fun K9 hK9=>?_;go_simp;refine(((HUS.out _ ((ja wr (.cells #[.string z0,.slice a1 m1 c1,.slice a2 m2 c2,.slice a3 m3 c3,.bool z4] 42)).trans (Kept.drew _))).mono fun _ _ h=>h.ok (by rw[←HZ0.out];exact HU.out))).mono ?_;rintro e1 v1 ⟨v,rfl,ho,kk⟩;have J1:=lH ((Kept.drew _).trans kk);have HO:=lH ho;clear kk ho;refine hK9.out _ _ (HT2.out _ J1.out) (fun hHeld1=>?_);clear hK9 K9;try simp only[nP]
            refine rd1 5 fun K9 hK9=>?_;go_simp;refine(Vec.jmP HO.out.reads (HA.out.kept ((ja wr (.cells #[.string z0,.slice a1 m1 c1,.slice a2 m2 c2,.slice a3 m3 c3,.bool z4] 42)).trans J1.out)).cap HFT.out).mono ?_;rintro e2 v2 ⟨rfl,kk⟩;have J2:=lH (J1.out.trans kk);clear kk;refine hK9.out _ _ (HT2.out _ J2.out) (fun hHeld2=>?_);clear hK9 K9;try simp only[nP]
            refine tkI 6 ?_;try simp only[nP]
            refine wpAnyH_done (by kernel_rfl) ?_ _;have KB:=lH (HK.out.trans ((ja wr (.cells #[.string z0,.slice a1 m1 c1,.slice a2 m2 c2,.slice a3 m3 c3,.bool z4] 42)).trans J2.out));go_wp2;exact⟨rfl,Zw.bad (qz HOR.out HPL.out HX.out (by decide)) (by decide) (HKZ.out.trans KB.out)⟩
         · have HX:=lH (show jV pl nl=c9 by rw[←HT.out,HD.out,jeP HU.out hc]);have HC:=lH hc;clear hc;obtain⟨o0,o1,o2,-⟩:=HT2.out _ (Kept.refl _);go_wp2;clear o0 o1 o2;refine wp_region_held_drew (S:=fun W=>W.cell? ⟨w.heap.size,0,none⟩=some (.slice (some ⟨b0,off,none⟩) len cap)∧W.cell? ⟨w.heap.size,1,none⟩=some (.slice b m c)∧W.cell? ⟨w.heap.size,2,none⟩=some (.slice d n e)∧W.cell? ⟨wr.heap.size,0,none⟩=some (.string z0)∧W.cell? ⟨wr.heap.size,1,none⟩=some (.slice a1 m1 c1)∧W.cell? ⟨wr.heap.size,2,none⟩=some (.slice a2 m2 c2)∧W.cell? ⟨wr.heap.size,3,none⟩=some (.slice a3 m3 c3)∧W.cell? ⟨wr.heap.size,4,none⟩=some (.bool z4)) (by kernel_rfl) (HT2.out _ (Kept.drew _)) (fun hHeld=>?_);refine tkI 0 ?_;refine tkI 1 ?_;refine tkI 3 ?_;refine tkI 4 ?_;try simp only[nP]
           refine rd1 2 fun K9 hK9=>?_;go_simp;refine(((HUS.out _ ((ja wr (.cells #[.string z0,.slice a1 m1 c1,.slice a2 m2 c2,.slice a3 m3 c3,.bool z4] 42)).trans (Kept.drew _))).mono fun _ _ h=>h.not (by rw[←HZ0.out];exact HU.out) HC.out)).mono ?_;rintro e1 v1 ⟨rfl,kk⟩;exact⟨rfl,Zw.bad (qz HOR.out HPL.out HX.out HC.out) HC.out (HKZ.out.trans (HK.out.trans ((ja wr (.cells #[.string z0,.slice a1 m1 c1,.slice a2 m2 c2,.slice a3 m3 c3,.bool z4] 42)).trans ((Kept.drew _).trans kk))))⟩
       · have HRO:=lH (show jV pl nl=0 by rw[←hrest,List.drop_of_length_le (by rw[HLN.out];omega)];rfl);obtain⟨o0,o1,o2⟩:=HS.out _ hK;have HTV:=lH (jk5 a b d len cap m c n e nl wr (HN.out.kept hK));have HST:=lH (jcV HOR.out HPL.out HRO.out);obtain⟨c9,m9,hu⟩:∃c m,JN nl []=(c,m):=⟨_,_,rfl⟩
         have HU:=lH hu;have HV:=lH (show zB ⟨nl,pl,bl⟩=c9 by rw[HST.out,hu]);clear hrest hK hu;by_cases hc:c9=0
         · subst hc;go_wp2_with fail
           refine(HTV.out.mono fun _ _ h=>h.ok HU.out).mono ?_;rintro e1 v1 ⟨v,rfl,ho,kk⟩;have KB:=lH (HK.out.trans kk);clear kk ho o0 o1 o2;obtain⟨o0,o1,o2⟩:=HS.out _ KB.out;have y0:=(HQ.out _ KB.out).at_ 0 _ rfl;have y1:=(HQ.out _ KB.out).at_ 1 _ rfl;have y2:=(HQ.out _ KB.out).at_ 2 _ rfl;have f0:=(HQ.out _ KB.out).free 0;have f1:=(HQ.out _ KB.out).free 1;have f2:=(HQ.out _ KB.out).free 2;have PP:=lH (J7 (vs:=[.slice a len cap,.slice b m c,.slice d n e]) (HQ.out _ KB.out) rfl);go_wp2;obtain⟨WE,hWE⟩:∃W,v1.setCells (w.heap.size+1) 0 [.slice a len cap,.slice b m c,.slice d n e]=W:=⟨_,rfl⟩
           have hWE2:(((v1.setCell ⟨(w.heap.size+1),0,none⟩ (.slice a len cap)).setCell ⟨(w.heap.size+1),1,none⟩ (.slice b m c)).setCell ⟨(w.heap.size+1),2,none⟩ (.slice d n e))=WE:=hWE;rw[hWE] at PP;try rw[hWE2]
           clear hWE hWE2;obtain⟨PC,hsz,hbl,hkp⟩:=PP.out;refine bodyPost_ret (by simp[results,Tryz.results97,go_sem,PC.at_ 0 _ rfl,PC.at_ 1 _ rfl,PC.at_ 2 _ rfl];try rfl) rfl ?_;exact Zw.good HV.out rfl (hkp _ _ (by omega) (HKZ.out.trans KB.out))
         · have HC:=lH hc;clear hc;go_wp2_with fail
           refine(HTV.out.mono fun _ _ h=>h.not HU.out HC.out).mono ?_;rintro e1 v1 ⟨rfl,kk⟩;go_wp2;exact⟨rfl,Zw.bad HV.out HC.out (HKZ.out.trans (HK.out.trans kk))⟩
 · have HC:=lH hc;clear hc;go_enter Tryz.func97,Tryz.ntmps97;go_wp2;try rw[hZ]
   clear hZ;refine wp_region_held_drew (S:=fun W=>W.cell? ⟨w.heap.size,0,none⟩=some (.slice a len cap)∧W.cell? ⟨w.heap.size,1,none⟩=some (.slice b m c)∧W.cell? ⟨w.heap.size,2,none⟩=some (.slice d n e)) (by kernel_rfl) (HS.out _ (Kept.drew _)) (fun hHeld=>?_);refine tkI 0 ?_;refine tkI 1 ?_;refine tkI 3 ?_;refine tkI 4 ?_;refine tkI 6 ?_;refine tkI 7 ?_;try simp only[nP]
   refine rd1 2 fun K9 hK9=>?_;go_simp;refine(H1.out _ (Kept.drew _)).mono ?_;rintro e1 w1 ⟨rfl,kk⟩;have J1:=lH ((Kept.drew _).trans kk);clear kk;refine hK9.out _ _ (HS.out _ J1.out) (fun hHeld1=>?_);clear hK9 K9;try simp only[nP]
   refine rd1 5 fun K9 hK9=>?_;go_simp;refine(H2.out _ J1.out).mono ?_;rintro e2 w2 ⟨rfl,kk⟩;have J2:=lH ((J1.out).trans kk);clear kk;refine hK9.out _ _ (HS.out _ J2.out) (fun hHeld2=>?_);clear hK9 K9;try simp only[nP]
   refine rd1 8 fun K9 hK9=>?_;go_simp;refine(H3.out _ J2.out).mono ?_;rintro e3 w3 ⟨rfl,kk⟩;have J3:=lH ((J2.out).trans kk);clear kk;refine hK9.out _ _ (HS.out _ J3.out) (fun hHeld3=>?_);clear hK9 K9;try simp only[nP]
   refine rd1 9 fun K9 hK9=>?_;go_simp;have J4:=lH (J3.out.trans (ja w3 (.cells #[.int .i64 x1,.int .i64 x2,.int .i64 x3] 32)));refine hK9.out _ _ (HS.out _ J4.out) (fun hHeld9=>?_);clear hK9 K9;try simp only[nP]
   refine rd1 10 fun K9 hK9=>?_;go_simp;refine(jej _ x1 x2 x3 _ (by go_simp) (by go_simp) (by go_simp)).mono ?_;rintro e4 w4 ⟨rfl,rfl⟩;rw[HX0.out];refine hK9.out _ _ (HS.out _ J4.out) (fun hHeld4=>?_);clear hK9 K9;try simp only[nP]
   refine rd1 11 fun K9 hK9=>?_;go_simp;refine(jaB _ _ HC.out).mono ?_;rintro e5 w5 ⟨rfl,rfl⟩;exact⟨rfl,Zw.bad (jb9 HOR.out HC.out) HC.out (HKZ.out.trans J4.out)⟩
theorem jhA (a b d:Option Addr) (len cap m c n e p:Nat) (nl:List Nod) (pl:List Pd) (bl:List Bd) (w:World) (hn:j0 w a len nl) (hp:Jd w b m pl) (hb:Je w d n bl) (hlow:∀n ∈ nl,zO n) (hs:w.cell? ⟨p,0,none⟩=some (.slice a len cap)∧w.cell? ⟨p,1,none⟩=some (.slice b m c)∧w.cell? ⟨p,2,none⟩=some (.slice d n e)) :
 Calls Tryz.prog 96 #[.pointer (some ⟨p,0,none⟩)] w (Zw (zB ⟨nl,pl,bl⟩) (.agg #[.slice a len cap,.slice b m c,.slice d n e]) w):=by
 obtain⟨Z,hZ⟩:∃Z,w.alloc (.cells #[.slice none 0 0,.slice none 0 0,.slice none 0 0] 26)=Z:=⟨_,rfl⟩
 have hkz:Kept w Z:=by rw[←hZ];exact ja _ _
 have HQ:=lH (show ∀W,Kept Z W→jf w.heap.size [.slice none 0 0,.slice none 0 0,.slice none 0 0] W from fun W k=>jg w (.slice none 0 0) [.slice none 0 0,.slice none 0 0] 26 W (by rw[hZ];exact k));have HS:=lH (show Z.cell? ⟨p,0,none⟩=some (.slice a len cap)∧Z.cell? ⟨p,1,none⟩=some (.slice b m c)∧Z.cell? ⟨p,2,none⟩=some (.slice d n e) from⟨cell_later hkz hs.1,cell_later hkz hs.2.1,cell_later hkz hs.2.2⟩);have HC:=lH (jfr a b d len cap m c n e nl pl bl Z (hn.kept hkz) (hp.kept hkz) (hb.kept hkz) hlow);have HKZ:=lH hkz;obtain⟨c9,hc9⟩:∃x,zB ⟨nl,pl,bl⟩=x:=⟨_,rfl⟩
 rw[hc9] at HC ⊢;obtain⟨o0,o1,o2⟩:=HS.out;clear hn hp hb hlow hs hkz hc9;go_enter Tryz.func96,Tryz.ntmps96;go_wp2_with fail
 try rw[hZ]
 go_wp2_with fail
 try rw[hZ]
 clear hZ;refine HC.out.mono ?_;rintro e1 w1 ⟨h0,h1,k⟩;have KB:=lH k;by_cases hc:c9=0
 · subst hc;obtain rfl:=h0 rfl;clear h0 h1 k;have y0:=(HQ.out _ KB.out).at_ 0 _ rfl;have y1:=(HQ.out _ KB.out).at_ 1 _ rfl;have y2:=(HQ.out _ KB.out).at_ 2 _ rfl;have f0:=(HQ.out _ KB.out).free 0;have f1:=(HQ.out _ KB.out).free 1;have f2:=(HQ.out _ KB.out).free 2;have PP:=lH (J7 (vs:=[.slice a len cap,.slice b m c,.slice d n e]) (HQ.out _ KB.out) rfl);go_wp2;obtain⟨WE,hWE⟩:∃W,w1.setCells w.heap.size 0 [.slice a len cap,.slice b m c,.slice d n e]=W:=⟨_,rfl⟩
   have hWE2:(((w1.setCell ⟨w.heap.size,0,none⟩ (.slice a len cap)).setCell ⟨w.heap.size,1,none⟩ (.slice b m c)).setCell ⟨w.heap.size,2,none⟩ (.slice d n e))=WE:=hWE;rw[hWE] at PP;try rw[hWE2]
   clear hWE hWE2;obtain⟨PC,hsz,hbl,hkp⟩:=PP.out;refine bodyPost_ret (by simp[results,Tryz.results96,go_sem,PC.at_ 0 _ rfl,PC.at_ 1 _ rfl,PC.at_ 2 _ rfl];try rfl) rfl ?_;exact Zw.good rfl rfl (hkp _ _ (Nat.le_refl _) (HKZ.out.trans KB.out))
 · obtain rfl:=h1 hc;have HX:=lH hc;clear h0 h1 k hc;go_wp2;exact⟨rfl,Zw.bad rfl HX.out (HKZ.out.trans KB.out)⟩
theorem jbm (B:Nat) (q:Nat) (x y:Int) (w:World) (hq:w.cell? ⟨q,0,none⟩=some (.int .i64 y)) (hzq:w.frozen? ⟨q,0,none⟩=false) (hBq:B≤q) :
 CallsD Tryz.prog 48 #[.pointer (some ⟨q,0,none⟩)] (.panicking [ju x]) w fun e u' w' =>
  e=.returned (.tuple #[])∧u'=.panicking [{ ju x with recovered:=true }]∧w'=w.setCell ⟨q,0,none⟩ (.int .i64 x)∧w'.cell? ⟨q,0,none⟩=some (.int .i64 x)∧Below B w w':=by
 have hta:∀W,(Instr.typeAssert (.iface 32 (.int .i64 x)) 20 32 false).run Tryz.prog W=.ok (.int .i64 x) W:=fun _=>by kernel_rfl
 refine callsD_of_wpS Tryz.func48 rfl fun c₀ cs hu=>?_;apply wpS_seq;apply wpS_region;simp[wpOpsS,go_sem,recoverD,hu,Tryz.ntmps48,Exit.thenS];apply wpS_seq;apply wpS_region;simp[wpOpsS,go_sem,recoverD,Exit.thenS];refine wpS_cond (t:=true) (by simp[Act.eval,Array.replicate]) ?_;simp only[if_true];refine wpS_of_wp ?_;simp[Array.replicate];go_wp2;simp[bodyPostS,results,Tryz.results48];exact⟨World.cell?_setCell_same' _ _ _ (by rw[hq];rfl),(Below.refl B w).setCell (p:=⟨q,0,none⟩) hBq _⟩
theorem jfi (q:Addr) (w:World) :
 CallsD Tryz.prog 48 #[.pointer (some q)] .returning w fun e u' w'=>e=.returned (.tuple #[])∧u'=.returning∧w'=w:=by
 refine callsD_of_wpS Tryz.func48 rfl fun c₀ cs hu=>?_;apply wpS_seq;apply wpS_region;simp[wpOpsS,go_sem,recoverD,hu,Tryz.ntmps48,Exit.thenS];apply wpS_seq;apply wpS_region;simp[wpOpsS,go_sem,recoverD,hu,Exit.thenS];refine wpS_cond (t:=false) (by simp[Act.eval,Array.replicate]) ?_;simp only[Bool.false_eq_true,if_false];refine wpS_of_wp (wp_skip ?_)
 cases c₀
 simp_all [bodyPostS,results,Tryz.results48]
theorem jgX (C:Addr) (r:Int) (a b d:Option Addr) (len cap m c n e:Nat) (w:World)
 (hk:∀W,Kept w W→Calls Tryz.prog 96 #[.pointer (some C)] W (Zw r (.agg #[.slice a len cap,.slice b m c,.slice d n e]) W)) :
 Calls Tryz.prog 20 #[.func (.func 96) #[] #[.pointer (some C)]] w fun e w'=>∃a b d len cap m c n f,e=.returned (.tuple #[.agg #[.slice a len cap,.slice b m c,.slice d n f],.int .i64 r])∧Kept w w':=by
 have hmf:=hmfL (P:=Tryz.prog);obtain⟨Z,hZ⟩:∃Z,(w.alloc (.cells #[.slice none 0 0,.slice none 0 0,.slice none 0 0] 26)).alloc (.cells #[.int .i64 0] 32)=Z:=⟨_,rfl⟩
 have hkz:Kept w Z:=by rw[←hZ];exact jk _ _ _
 have hzs:Z.heap.size=w.heap.size+2:=by rw[←hZ];simp
 have HK:=lH hkz;have HZ:=lH (fun W (kk:Kept Z W)=>jg w (.slice none 0 0) [.slice none 0 0,.slice none 0 0] 26 W (by rw[←hZ] at kk;exact(ja _ _).trans kk));have HZE:=lH (show ∀W,Kept Z W→W.cell? ⟨w.heap.size+1,0,none⟩=some (.int .i64 0)∧W.frozen? ⟨w.heap.size+1,0,none⟩=false from fun W kk=>by
  have hb:=jg (w.alloc (.cells #[.slice none 0 0,.slice none 0 0,.slice none 0 0] 26)) (.int .i64 0) [] 32 W (by rw[hZ];exact kk);rw[World.size_alloc] at hb;exact⟨hb.at_ 0 _ rfl,hb.free 0⟩)
 have HKC:=lH (hk Z hkz);clear hk hkz;go_enter_defers Tryz.func20,Tryz.ntmps20
 go_wp2_with fail
 try rw[hZ]
 refine HKC.out.mono ?_;rintro e1 w1 ⟨h0,h1,hb⟩;have KK:=lH hb;have QQ:=HZ.out _ hb;obtain⟨z0,z1⟩:=HZE.out _ hb;have y0:=QQ.at_ 0 _ rfl;have y1:=QQ.at_ 1 _ rfl;have y2:=QQ.at_ 2 _ rfl;have x0:=QQ.free 0;have x1:=QQ.free 1;have x2:=QQ.free 2;have PP:=lH (J7 (vs:=[.slice a len cap,.slice b m c,.slice d n e]) QQ rfl);clear QQ;have hws:w.heap.size+1<w1.heap.size:=by have:=hb.size;omega
 by_cases hx:r=0
 · subst hx;obtain rfl:=h0 rfl;clear h0 h1 hb hZ;go_wp2_with fail
   obtain⟨WE,hWE⟩:∃W,(((w1.setCell ⟨w.heap.size,0,none⟩ (.slice a len cap)).setCell ⟨w.heap.size,1,none⟩ (.slice b m c)).setCell ⟨w.heap.size,2,none⟩ (.slice d n e))=W:=⟨_,rfl⟩
   have hWE2:w1.setCells w.heap.size 0 [.slice a len cap,.slice b m c,.slice d n e]=WE:=hWE;rw[hWE2] at PP;rw[hWE];obtain⟨PC,hsz,hbl,hkp⟩:=PP.out;have ez:WE.cell? ⟨w.heap.size+1,0,none⟩=some (.int .i64 0):=(World.cell?_of_block (a:=⟨w.heap.size+1,0,none⟩) (hbl (w.heap.size+1) (by omega))).trans z0;have hb2:∀b,b≠w.heap.size+1→(WE.setCell ⟨w.heap.size+1,0,none⟩ (.int .i64 0)).heap[b]?=WE.heap[b]?:=fun b hb=>Below.heap_setCell WE ⟨w.heap.size+1,0,none⟩ _ b hb;have fe:=World.cell?_setCell_same' WE ⟨w.heap.size+1,0,none⟩ (.int .i64 0) (by rw[ez];rfl);have ff:∀j v,WE.cell? ⟨w.heap.size,j,none⟩=some v→(WE.setCell ⟨w.heap.size+1,0,none⟩ (.int .i64 0)).cell? ⟨w.heap.size,j,none⟩=some v:=fun j v h=>(World.cell?_of_block (a:=⟨w.heap.size,j,none⟩) (hb2 w.heap.size (by omega))).trans h;have f0:=ff 0 _ (PC.at_ 0 _ rfl);have f1:=ff 1 _ (PC.at_ 1 _ rfl);have f2:=ff 2 _ (PC.at_ 2 _ rfl);have KF:=lH (show Kept w (WE.setCell ⟨w.heap.size+1,0,none⟩ (.int .i64 0)) from(hkp _ _ (Nat.le_refl _) (HK.out.trans KK.out)).setCell (p:=⟨w.heap.size+1,0,none⟩) (Nat.le_succ _) _);obtain⟨WF,hWF⟩:∃W,WE.setCell ⟨w.heap.size+1,0,none⟩ (.int .i64 0)=W:=⟨_,rfl⟩
   rw[hWF] at fe f0 f1 f2 KF ⊢;clear hWE hWE2 hWF ff hb2 ez PP hbl hkp PC y0 y1 y2 x0 x1 x2 z0 z1;refine leaves_cons (f:=48) (args:=#[.pointer (some ⟨w.heap.size+1,0,none⟩)]) (by simp) (by simp[go_sem]) ?_;refine(jfi ⟨w.heap.size+1,0,none⟩ _).mono ?_;rintro e u' w'' ⟨rfl,rfl,rfl⟩;simp[Leaves,settle,results,Tryz.results20,go_sem,fe,f0,f1,f2];exact KF.out
 · obtain rfl:=h1 hx;have KW:=lH (HK.out.trans KK.out);clear h0 h1 hb hZ PP;go_wp2_with fail
   refine leaves_cons (f:=48) (args:=#[.pointer (some ⟨w.heap.size+1,0,none⟩)]) (by simp) (by simp[go_sem]) ?_;refine(jbm w.heap.size (w.heap.size+1) r 0 _ z0 z1 (by omega)).mono ?_;rintro e u' w'' ⟨rfl,rfl,rfl,q2,q3⟩;have hb2:(w1.setCell ⟨w.heap.size+1,0,none⟩ (.int .i64 r)).heap[w.heap.size]?=w1.heap[w.heap.size]?:=Below.heap_setCell w1 ⟨w.heap.size+1,0,none⟩ _ w.heap.size (by simp);have ff:∀j v,w1.cell? ⟨w.heap.size,j,none⟩=some v→(w1.setCell ⟨w.heap.size+1,0,none⟩ (.int .i64 r)).cell? ⟨w.heap.size,j,none⟩=some v:=fun j v h=>(World.cell?_of_block (a:=⟨w.heap.size,j,none⟩) hb2).trans h;have f0:=ff 0 _ y0;have f1:=ff 1 _ y1;have f2:=ff 2 _ y2;simp[Leaves,settle,results,Tryz.results20,go_sem,q2,f0,f1,f2];exact Below.trans KW.out q3
theorem jhz (a b d:Option Addr) (len cap m c n e:Nat) (nl:List Nod) (pl:List Pd) (bl:List Bd) (w:World) (hn:j0 w a len nl) (hp:Jd w b m pl) (hb:Je w d n bl) (hlow:∀n ∈ nl,zO n) :
 Calls Tryz.prog 53 #[.agg #[.slice a len cap,.slice b m c,.slice d n e]] w (Say (.int .i64 (zB ⟨nl,pl,bl⟩)) w):=by
 have hmf:=hmfL (P:=Tryz.prog);obtain⟨Z,hZ⟩:∃Z,w.alloc (.cells #[.slice a len cap,.slice b m c,.slice d n e] 26)=Z:=⟨_,rfl⟩
 have hkz:Kept w Z:=by rw[←hZ];exact ja _ _
 have HC:=lH (jgX ⟨w.heap.size,0,none⟩ (zB ⟨nl,pl,bl⟩) a b d len cap m c n e Z fun W k=>by
  have cc:=jg w (.slice a len cap) [.slice b m c,.slice d n e] 26 W (by rw[hZ];exact k);exact jhA a b d len cap m c n e w.heap.size nl pl bl W (hn.kept (hkz.trans k)) (hp.kept (hkz.trans k)) (hb.kept (hkz.trans k)) hlow ⟨cc.at_ 0 _ rfl,cc.at_ 1 _ rfl,cc.at_ 2 _ rfl⟩)
 have HKZ:=lH hkz;clear hn hp hb hlow hkz;obtain⟨c9,hc9⟩:∃x,zB ⟨nl,pl,bl⟩=x:=⟨_,rfl⟩
 rw[hc9] at HC ⊢;clear hc9;go_enter Tryz.func53,Tryz.ntmps53;go_wp2_with fail
 try rw[hZ]
 clear hZ;refine HC.out.mono ?_;rintro e1 w1 ⟨a',b',d',len',cap',m',c',n',f',rfl,k⟩;have KB:=lH (HKZ.out.trans k);clear k;go_wp2;go_ret;exact⟨rfl,KB.out.trans (ja _ _)⟩
theorem jmv {v:Value} {s:Clu} {c:Int} {w:World} (h:Zl w v s) (hl:∀n ∈ s.nodes,zO n) (hc:zB s=c):Calls Tryz.prog 53 #[v] w (Say (.int .i64 c) w):=by
 subst hc;obtain⟨v1,v2,v3,rfl,⟨a,cap,rfl,_,_,hn⟩,⟨b,cp,rfl,_,_,hp⟩,⟨d,cb,rfl,_,_,hb⟩⟩:=h;exact jhz a b d _ cap _ cp _ cb s.nodes s.pods s.buds w hn hp hb hl
end Go.Proofs.YthmddloeggdohaaGreatDoor
