/- C. -/
import Derived.Test.YtokdjfoalkmhiaaGreatG0
import Derived.Test.YtokdjfoalkmhiaaGreatG1
import Derived.Test.YtokdjfoalkmhiaaGreatG2
import Derived.Test.YtokdjfoalkmhiaaGreatG3
import Derived.Test.YtokdjfoalkmhiaaGreatG5
set_option linter.unusedVariables false
set_option maxRecDepth 100000
set_option maxHeartbeats 25600000
namespace Go.Proofs.YtokdjfoalkmhiaaGreat
open Go.RowKit
def Ji (x:ByteArray) (c:Int):Nod:=⟨x,[(⟨#[99,112,117]⟩,c)],[],[],false⟩
def jQ (x:ByteArray) (c:Int) (y:ByteArray):Pd:=⟨x,⟨#[]⟩,0,[(⟨#[99,112,117]⟩,c)],[],[],[],⟨#[]⟩,0,y,false⟩
theorem XX (w:World) (c:Int) (h:-9223372036854775808≤c∧c≤9223372036854775807) (W:World) (k:Kept (w.alloc (.cells #[.string ⟨#[99,112,117]⟩,.int .i64 c] 100)) W):Vec.Reads W (.slice (some ⟨w.heap.size,0,none⟩) 1 1) [(⟨#[99,112,117]⟩,c)]:=by
 have cc:=jc w (.string ⟨#[99,112,117]⟩) [.int .i64 c] 100 W k;refine⟨_,1,rfl,(by decide:(1:Nat)≤1),(by decide:(1:Nat)≤maxLen),rfl,(by decide:(1:Nat)≤maxLen),fun i hi=>?_,.inr ⟨w.heap.size,0,rfl,cc.lt,fun i hi=>?_⟩⟩
 · obtain rfl:i=0:=by simpa using hi
   exact⟨(by decide:(3:Nat)≤maxLen),h.1,h.2⟩
 · obtain rfl:i=0:=by simpa using hi
   exact⟨cc.at_ 0 _ rfl,cc.at_ 1 _ rfl⟩
theorem Xi (x:ByteArray) (c:Int) (hc:-9223372036854775808≤c∧c≤9223372036854775807) (hx:x.size≤maxLen) (w:World) :
 Calls Tryz.prog 17 #[.string x,.int .i64 c] w fun e w'=>∃b1 n1 d1,e=.returned (.agg #[.string x,.slice b1 n1 d1,.slice none 0 0,.slice none 0 0,.bool false])∧jT w' (.slice b1 n1 d1) (.slice none 0 0) (.slice none 0 0) (Ji x c)∧Kept w w'∧∀b o z,b1=some ⟨b,o,z⟩→w.heap.size<b:=by
 have cc:=jc w (.string ⟨#[]⟩) [.slice none 0 0,.slice none 0 0,.slice none 0 0,.bool false] 57 _ (Kept.refl _);obtain⟨W0,hW0⟩:=eX (w.alloc (.cells #[.string ⟨#[]⟩,.slice none 0 0,.slice none 0 0,.slice none 0 0,.bool false] 57))
 have hs:W0.heap.size=w.heap.size+1:=by rw[←hW0];simp
 rw[hW0] at cc;obtain⟨W1,hW1⟩:=eX (W0.alloc (.cells #[.string ⟨#[99,112,117]⟩,.int .i64 c] 100))
 have HR:=lH (XX W0 c hc W1 (by rw[hW1];exact Kept.refl _));rw[hs] at HR;have c1:=cc.kept (W':=W1) (by rw[←hW1];exact ja _ _);have KW:=lH (show Kept w W1 by rw[←hW1,←hW0];exact jj _ _ _);have y0:=c1.at_ 0 _ rfl;have y1:=c1.at_ 1 _ rfl;have y2:=c1.at_ 2 _ rfl;have y3:=c1.at_ 3 _ rfl;have y4:=c1.at_ 4 _ rfl;have f0:=c1.free 0;have f1:=c1.free 1;have f2:=c1.free 2;have f3:=c1.free 3;have f4:=c1.free 4;have P:=lH (zE (vs:=[.string x,.slice (some ⟨w.heap.size+1,0,none⟩) 1 1,.slice none 0 0,.slice none 0 0,.bool false]) c1 rfl);clear c1 cc;go_enter Tryz.func17,Tryz.ntmps17;go_wp2;try rw[hW0]
 try rw[hW1]
 obtain⟨WE,hWE⟩:=eX (W1.setCells w.heap.size 0 [.string x,.slice (some ⟨w.heap.size+1,0,none⟩) 1 1,.slice none 0 0,.slice none 0 0,.bool false])
 have hWE2:(((((W1.setCell ⟨w.heap.size,0,none⟩ (.string x)).setCell ⟨w.heap.size,1,none⟩ (.slice (some ⟨w.heap.size+1,0,none⟩) 1 1)).setCell ⟨w.heap.size,2,none⟩ (.slice none 0 0)).setCell ⟨w.heap.size,3,none⟩ (.slice none 0 0)).setCell ⟨w.heap.size,4,none⟩ (.bool false))=WE:=hWE;rw[hWE] at P;try rw[hWE2]
 clear hWE hWE2;obtain⟨PC,hsz,hbl,hkp⟩:=P.out;refine bodyPost_ret (by simp[results,Tryz.results17,go_sem,PC.at_ 0 _ rfl,PC.at_ 1 _ rfl,PC.at_ 2 _ rfl,PC.at_ 3 _ rfl,PC.at_ 4 _ rfl];try rfl) rfl ?_;exact⟨_,_,_,rfl,⟨hx,(HR.out.far hsz (fun b o s e=>hbl b (by cases e;omega))),Reads.nil _,Reads.nil _⟩,hkp _ _ (Nat.le_refl _) KW.out,fun b o z e=>by cases e;omega⟩
theorem jai (x:ByteArray) (c:Int) (hc:-9223372036854775808≤c∧c≤9223372036854775807) (hx:x.size≤maxLen) (w:World) :
 Calls Tryz.prog 17 #[.string x,.int .i64 c] w fun e w'=>∃b1 n1 d1,e=.returned (.agg #[.string x,.slice b1 n1 d1,.slice none 0 0,.slice none 0 0,.bool false])∧jT w' (.slice b1 n1 d1) (.slice none 0 0) (.slice none 0 0) (Ji x c)∧Kept w w' :=
 (Xi x c hc hx w).mono fun e w' ⟨b,n,d,h1,h2,h3,_⟩=>⟨b,n,d,h1,h2,h3⟩
theorem J4 (x:ByteArray) (c:Int) (y:ByteArray) (hc:-9223372036854775808≤c∧c≤9223372036854775807) (hx:x.size≤maxLen) (hy:y.size≤maxLen) (w:World) :
 Calls Tryz.prog 18 #[.string x,.int .i64 c,.string y] w fun e w'=>∃b1 n1 d1,e=.returned (.agg #[.string x,.string ⟨#[]⟩,.int .i64 0,.slice b1 n1 d1,.slice none 0 0,.slice none 0 0,.slice none 0 0,.string ⟨#[]⟩,.int .i64 0,.string y,.bool false])∧jr w' (.slice b1 n1 d1) (.slice none 0 0) (.slice none 0 0) (.slice none 0 0) (jQ x c y)∧Kept w w'∧∀b o z,b1=some ⟨b,o,z⟩→w.heap.size<b:=by
 have cc:=jc w (.string ⟨#[]⟩) [.string ⟨#[]⟩,.int .i64 0,.slice none 0 0,.slice none 0 0,.slice none 0 0,.slice none 0 0,.string ⟨#[]⟩,.int .i64 0,.string ⟨#[]⟩,.bool false] 44 _ (Kept.refl _);obtain⟨W0,hW0⟩:=eX (w.alloc (.cells #[.string ⟨#[]⟩,.string ⟨#[]⟩,.int .i64 0,.slice none 0 0,.slice none 0 0,.slice none 0 0,.slice none 0 0,.string ⟨#[]⟩,.int .i64 0,.string ⟨#[]⟩,.bool false] 44))
 have hs:W0.heap.size=w.heap.size+1:=by rw[←hW0];simp
 rw[hW0] at cc;obtain⟨W1,hW1⟩:=eX (W0.alloc (.cells #[.string ⟨#[99,112,117]⟩,.int .i64 c] 100))
 have HR:=lH (XX W0 c hc W1 (by rw[hW1];exact Kept.refl _));rw[hs] at HR;have c1:=cc.kept (W':=W1) (by rw[←hW1];exact ja _ _);have KW:=lH (show Kept w W1 by rw[←hW1,←hW0];exact jj _ _ _);have y0:=c1.at_ 0 _ rfl;have y1:=c1.at_ 1 _ rfl;have y2:=c1.at_ 2 _ rfl;have y3:=c1.at_ 3 _ rfl;have y4:=c1.at_ 4 _ rfl;have y5:=c1.at_ 5 _ rfl;have y6:=c1.at_ 6 _ rfl;have y7:=c1.at_ 7 _ rfl;have y8:=c1.at_ 8 _ rfl;have y9:=c1.at_ 9 _ rfl;have y10:=c1.at_ 10 _ rfl;have f0:=c1.free 0;have f1:=c1.free 1;have f2:=c1.free 2;have f3:=c1.free 3;have f4:=c1.free 4;have f5:=c1.free 5;have f6:=c1.free 6;have f7:=c1.free 7;have f8:=c1.free 8;have f9:=c1.free 9;have f10:=c1.free 10;have P:=lH (zE (vs:=[.string x,.string ⟨#[]⟩,.int .i64 0,.slice (some ⟨w.heap.size+1,0,none⟩) 1 1,.slice none 0 0,.slice none 0 0,.slice none 0 0,.string ⟨#[]⟩,.int .i64 0,.string y,.bool false]) c1 rfl);clear c1 cc;go_enter Tryz.func18,Tryz.ntmps18;go_wp2;try rw[hW0]
 try rw[hW1]
 obtain⟨WE,hWE⟩:=eX (W1.setCells w.heap.size 0 [.string x,.string ⟨#[]⟩,.int .i64 0,.slice (some ⟨w.heap.size+1,0,none⟩) 1 1,.slice none 0 0,.slice none 0 0,.slice none 0 0,.string ⟨#[]⟩,.int .i64 0,.string y,.bool false])
 have hWE2:(((((((((((W1.setCell ⟨w.heap.size,0,none⟩ (.string x)).setCell ⟨w.heap.size,1,none⟩ (.string ⟨#[]⟩)).setCell ⟨w.heap.size,2,none⟩ (.int .i64 0)).setCell ⟨w.heap.size,3,none⟩ (.slice (some ⟨w.heap.size+1,0,none⟩) 1 1)).setCell ⟨w.heap.size,4,none⟩ (.slice none 0 0)).setCell ⟨w.heap.size,5,none⟩ (.slice none 0 0)).setCell ⟨w.heap.size,6,none⟩ (.slice none 0 0)).setCell ⟨w.heap.size,7,none⟩ (.string ⟨#[]⟩)).setCell ⟨w.heap.size,8,none⟩ (.int .i64 0)).setCell ⟨w.heap.size,9,none⟩ (.string y)).setCell ⟨w.heap.size,10,none⟩ (.bool false))=WE:=hWE;rw[hWE] at P;try rw[hWE2]
 clear hWE hWE2;obtain⟨PC,hsz,hbl,hkp⟩:=P.out;refine bodyPost_ret (by simp[results,Tryz.results18,go_sem,PC.at_ 0 _ rfl,PC.at_ 1 _ rfl,PC.at_ 2 _ rfl,PC.at_ 3 _ rfl,PC.at_ 4 _ rfl,PC.at_ 5 _ rfl,PC.at_ 6 _ rfl,PC.at_ 7 _ rfl,PC.at_ 8 _ rfl,PC.at_ 9 _ rfl,PC.at_ 10 _ rfl];try rfl) rfl ?_;exact⟨_,_,_,rfl,⟨hx,(by decide:(0:Nat)≤maxLen),(by decide:(0:Nat)≤maxLen),hy,(by decide:(-9223372036854775808:Int)≤0∧(0:Int)≤9223372036854775807),(by decide:(-9223372036854775808:Int)≤0∧(0:Int)≤9223372036854775807),(HR.out.far hsz (fun b o s e=>hbl b (by cases e;omega))),Reads.nil _,Reads.nil _,Reads.nil _⟩,hkp _ _ (Nat.le_refl _) KW.out,fun b o z e=>by cases e;omega⟩
theorem Zd {X:Type} {L:Lay X} {lx:List X} {q:Nat} {v:Value} {vs:List Value} {W:World} (hc:jb L lx=v::vs) (c:je q (v::vs) W) (hf:∀x ∈ lx,L.fine x) (hm:lx.length≤maxLen):ji L W (some ⟨q,0,none⟩) lx.length lx :=
 ⟨rfl,hm,hf,.inr ⟨q,0,rfl,c.lt,fun i x j u hi hj=>by
  have:=J8 L lx i x j u hi hj;rw[hc] at this;rw[Nat.zero_add];exact c.at_ _ u this⟩⟩
theorem ZG {w:World} {a:Option Addr} {len:Nat} {lx:List NX} (h:ji jA w a len lx) (hf:∀z ∈ lx,At3 w z):js w a len (lx.map fun z=>z.1):=by
 obtain⟨g0,g1,g2,g3⟩:=h;refine⟨by rw[List.length_map];exact g0,g1,g3.imp id ?_⟩;rintro ⟨b,off,rfl,hb,hc⟩;refine⟨b,off,rfl,hb,fun i n hi=>?_⟩;rw[List.getElem?_map] at hi;obtain⟨z,hz,rfl⟩:=Option.map_eq_some_iff.1 hi;exact⟨_,_,_,_,_,_,_,_,_,hc i z 0 _ hz rfl,hc i z 1 _ hz rfl,hc i z 2 _ hz rfl,hc i z 3 _ hz rfl,hc i z 4 _ hz rfl,hf z (List.mem_of_getElem? hz)⟩
theorem jaj {w:World} {a:Option Addr} {len:Nat} {lx:List PX} (h:ji jl w a len lx) (hf:∀z ∈ lx,At4 w z):jy w a len (lx.map fun z=>z.1):=by
 obtain⟨g0,g1,g2,g3⟩:=h;refine⟨by rw[List.length_map];exact g0,g1,g3.imp id ?_⟩;rintro ⟨b,off,rfl,hb,hc⟩;refine⟨b,off,rfl,hb,fun i n hi=>?_⟩;rw[List.getElem?_map] at hi;obtain⟨z,hz,rfl⟩:=Option.map_eq_some_iff.1 hi;exact⟨_,_,_,_,hc i z 0 _ hz rfl,hc i z 1 _ hz rfl,hc i z 2 _ hz rfl,hc i z 3 _ hz rfl,hc i z 4 _ hz rfl,hc i z 5 _ hz rfl,hc i z 6 _ hz rfl,hc i z 7 _ hz rfl,hc i z 8 _ hz rfl,hc i z 9 _ hz rfl,hc i z 10 _ hz rfl,hf z (List.mem_of_getElem? hz)⟩
theorem YD (w:World):zC w none 0 []:=⟨rfl,by decide,.inl rfl⟩
theorem Xn (x:ByteArray) (c:Int) (y:ByteArray) (hc:-9223372036854775808≤c∧c≤9223372036854775807) (hx:x.size≤maxLen) (hy:y.size≤maxLen) (w:World) :
 Calls Tryz.prog 18 #[.string x,.int .i64 c,.string y] w fun e w'=>∃b1 n1 d1,e=.returned (.agg #[.string x,.string ⟨#[]⟩,.int .i64 0,.slice b1 n1 d1,.slice none 0 0,.slice none 0 0,.slice none 0 0,.string ⟨#[]⟩,.int .i64 0,.string y,.bool false])∧jr w' (.slice b1 n1 d1) (.slice none 0 0) (.slice none 0 0) (.slice none 0 0) (jQ x c y)∧Kept w w' :=
 (J4 x c y hc hx hy w).mono fun e w' ⟨b,n,d,h1,h2,h3,_⟩=>⟨b,n,d,h1,h2,h3⟩
end Go.Proofs.YtokdjfoalkmhiaaGreat
namespace Go.Proofs.YtokdjfoalkmhiaaGreat.Vec
open Go.RowKit
def jY:Nat→V→V→List ByteArray
 | 0,_,_=>[]
 | fuel+1,la,lb =>
  if la.length+lb.length=0 then []
  else jg la lb::jY fuel (jo la (jg la lb)).2 (jo lb (jg la lb)).2
theorem jdh {fuel:Nat} {la lb:V} (h:la.length+lb.length=0):jY fuel la lb=[]:=by
 cases fuel with
 | zero=>rfl
 | succ n=>rw[jY,if_pos h]
theorem XB {fuel:Nat} {l l':V} {i k:Nat} (hi:i<l.length) (h:¬k<l'.length∨(k<l'.length∧ltS (nm l i) (nm l' k)=true)) :
 jY (fuel+1) (l.drop i) (l'.drop k)=nm l i::jY fuel (l.drop (i+1)) (l'.drop k):=by
 rw[jY,if_neg (by simp only[List.length_drop];omega),drop_cons hi];rcases h with h | ⟨h,e⟩
 · rw[List.drop_of_length_le (l:=l') (by omega)];have e1:jg ((nm l i,qn l i)::l.drop (i+1)) []=nm l i:=rfl;rw[e1,j9,if_pos (jL.2 rfl)];rfl
 · rw[drop_cons h];have e2:ltS (nm l' k) (nm l i)=false:=by
    cases e3:ltS (nm l' k) (nm l i) with
    | false=>rfl
    | true=>exact(YC e e3).elim
   rw[JA,if_neg (by rw[e2];decide),j9,if_pos (jL.2 rfl),j9,if_neg (fun c=>YX e (jL.1 c).symm)]
theorem Xg {fuel:Nat} {l l':V} {i k:Nat} (hk:k<l'.length) (h:¬i<l.length∨(i<l.length∧ltS (nm l' k) (nm l i)=true)) :
 jY (fuel+1) (l.drop i) (l'.drop k)=nm l' k::jY fuel (l.drop i) (l'.drop (k+1)):=by
 rw[jY,if_neg (by simp only[List.length_drop];omega),drop_cons hk];rcases h with h | ⟨h,e⟩
 · rw[List.drop_of_length_le (l:=l) (by omega)];have e1:jg [] ((nm l' k,qn l' k)::l'.drop (k+1))=nm l' k:=rfl;rw[e1,j9,if_pos (jL.2 rfl)];rfl
 · rw[drop_cons h];rw[JA,if_pos e,j9 (nm l' k,qn l' k),if_pos (jL.2 rfl),j9,if_neg (fun c=>YX e (jL.1 c).symm)]
theorem jc4 {fuel:Nat} {l l':V} {i k:Nat} (hi:i<l.length) (hk:k<l'.length) (h1:ltS (nm l i) (nm l' k)=false) (h2:ltS (nm l' k) (nm l i)=false) :
 jY (fuel+1) (l.drop i) (l'.drop k)=nm l i::jY fuel (l.drop (i+1)) (l'.drop (k+1)):=by
 have e:=qe h1 h2;rw[jY,if_neg (by simp only[List.length_drop];omega),drop_cons hi,drop_cons hk];rw[JA,if_neg (by rw[h2];decide),j9,if_pos (jL.2 rfl),j9,if_pos (jL.2 e.symm)]
open Go.RowKit Go.Proofs.YtokdjfoalkmhiaaGreat
theorem je2:(Tryz.prog.info? 9).map (fun i=>(i.zero,i.size,i.bytes))=some (some (.string ByteArray.empty),1,16):=by kernel_rfl
def Names (ns:List ByteArray) (w:World) (e:Ending) (w':World):Prop:=∃x,e=.returned x∧Own jz 9 w' w.heap.size x ns∧Kept w w'
theorem qq (a a':Option Addr) (len cap len' cap':Nat) (l l':V) (w:World) (hr:jn w a len l) (hr':jn w a' len' l') (h8:len≤8) (h8':len'≤8) :
 Calls Tryz.prog 184 #[.slice a len cap,.slice a' len' cap'] w (Names (jY (l.length+l'.length) l l') w):=by
 obtain⟨HA,HB,HL⟩:=lH3 hr hr' hr.1;have HL':=lH hr'.1;have HF:=lH hr.2.2.1;have HF':=lH hr'.2.2.1;obtain⟨i0,hi,hz0,hz1,hz2⟩:=info_parts je2;obtain⟨NS,hNS⟩:=eX (jY (l.length+l'.length) l l')
 rw[hNS];have Uf:=lH hNS;clear hr hr' hNS;go_enter Tryz.func184,Tryz.ntmps184;go_wp2
 go_loopw [5,6,7] (fun v vi vk wr=>∃(i k fuel:Nat) (acc:List ByteArray),i≤len∧k≤len'∧vi=.int .i64 i∧vk=.int .i64 k∧acc++jY fuel (l.drop i) (l'.drop k)=NS∧(len-i)+(len'-k)≤fuel∧Own jz 9 wr w.heap.size v acc∧Below w.heap.size w wr∧acc.length≤i+k)
  (fun _ vi vk _=>(len-(intOf vi).toNat)+(len'-(intOf vk).toNat))
 case atStart=>exact⟨0,0,l.length+l'.length,[],Nat.zero_le _,Nat.zero_le _,rfl,rfl,Uf.out,by rw[HL.out,HL'.out];omega,Own.nil _ _ _,Below.refl _ _,Nat.zero_le _⟩
 case round =>
  obtain⟨i,k,fuel,acc,hi1,hk1,rfl,rfl,hres,hfu,ho,hB,hacc⟩:=hrel;obtain⟨HQ,HO,Va⟩:=lH3 hres ho hB;clear hres ho;by_cases hi2:i<len
  · obtain⟨b,off,rfl⟩:=HA.out.form.resolve_left (by omega);obtain⟨hb,c1,-⟩:=(HA.out.kept hB).cells hi2;have HI:=lH (show i<l.length by rw[HL.out];exact hi2);have Ty:=lH (HF.out i HI.out).1;obtain⟨f2,rfl⟩:∃f2,fuel=f2+1:=⟨fuel-1,by omega⟩
    by_cases hk2:k<len'
    · obtain⟨b',off',rfl⟩:=HB.out.form.resolve_left (by omega);obtain⟨hb',d1,-⟩:=(HB.out.kept hB).cells hk2;have HK:=lH (show k<l'.length by rw[HL'.out];exact hk2);have UX:=lH (HF'.out k HK.out).1;have hd:decide (len'≤k)=false:=decide_eq_false (by omega);have hd2:decide (len≤i)=false:=decide_eq_false (by omega);have hi3:(i:Int)<(len:Int):=by omega
      have hk3:(k:Int)<(len':Int):=by omega
      have HS:=lH (show ∀W,Kept wr W→W.cell? ⟨b,off+i*2,none⟩=some (.string (nm l i))∧W.cell? ⟨b',off'+k*2,none⟩=some (.string (nm l' k)) from fun W kk=>⟨cell_later kk c1,cell_later kk d1⟩);clear hB;by_cases e1:ltS (nm l i) (nm l' k)=true
      · have E1:=lH e1;have e1':Op.bytesLess (nm l i).toList (nm l' k).toList=true:=e1;clear e1;have HN:=lH (show acc++[nm l i]++jY f2 (l.drop (i+1)) (l'.drop (k))=NS by rw[←HQ.out,XB HI.out (.inr ⟨HK.out,E1.out⟩)];simp);go_wp2;clear c1 d1;refine wp_region_held_drew (S:=fun W=>W.cell? ⟨b,off+i*2,none⟩=some (.string (nm l i))∧W.cell? ⟨b',off'+k*2,none⟩=some (.string (nm l' k))) (by kernel_rfl) (HS.out _ (Kept.drew _)) (fun hHeld=>?_);refine tR 0 rfl (by kernel_rfl) (fun _ _ _=>id) (Or.inl ⟨by rfl,by rintro W ⟨c1,d1⟩;go_simp<;>with_reducible rfl⟩) ‹_› ?_;refine tR 1 rfl (by kernel_rfl) (fun _ _ _=>id) (Or.inl ⟨by rfl,by rintro W ⟨c1,d1⟩;go_simp<;>with_reducible rfl⟩) ‹_› ?_;refine tR 2 rfl (by kernel_rfl) (fun _ _ _=>id) (Or.inl ⟨by rfl,by rintro W ⟨c1,d1⟩;go_simp<;>with_reducible rfl⟩) ‹_› ?_;refine tR 3 rfl (by kernel_rfl) (fun _ _ _=>id) (Or.inl ⟨by rfl,by rintro W ⟨c1,d1⟩;go_simp<;>with_reducible rfl⟩) ‹_› ?_;refine tR 4 rfl (by kernel_rfl) (fun _ _ _=>id) (Or.inl ⟨by rfl,by rintro W ⟨c1,d1⟩;go_simp<;>with_reducible rfl⟩) ‹_› ?_;try simp only[nA,nB,nC,nD,nE]
        refine tR 5 rfl (by kernel_rfl) (fun _ _ _=>id) (Or.inl ⟨by rfl,by rintro W ⟨c1,d1⟩;go_simp<;>with_reducible rfl⟩) ‹_› ?_;refine tR 6 rfl (by kernel_rfl) (fun _ _ _=>id) (Or.inl ⟨by rfl,by rintro W ⟨c1,d1⟩;go_simp<;>with_reducible rfl⟩) ‹_› ?_;refine tR 7 rfl (by kernel_rfl) (fun _ _ _=>id) (Or.inl ⟨by rfl,by rintro W ⟨c1,d1⟩;go_simp<;>with_reducible rfl⟩) ‹_› ?_;refine tR 8 rfl (by kernel_rfl) (fun _ _ _=>id) (Or.inl ⟨by rfl,by rintro W ⟨c1,d1⟩;go_simp<;>with_reducible rfl⟩) ‹_› ?_;refine tR 9 rfl (by kernel_rfl) (fun _ _ _=>id) (Or.inl ⟨by rfl,by rintro W ⟨c1,d1⟩;go_simp<;>with_reducible rfl⟩) ‹_› ?_;try simp only[nA,nB,nC,nD,nE]
        refine tR 10 rfl (by kernel_rfl) (fun _ _ _=>id) (Or.inl ⟨by rfl,by rintro W ⟨c1,d1⟩;go_simp<;>with_reducible rfl⟩) ‹_› ?_;refine tR 11 rfl (by kernel_rfl) (fun _ _ _=>id) (Or.inl ⟨by rfl,by rintro W ⟨c1,d1⟩;go_simp<;>with_reducible rfl⟩) ‹_› ?_;refine tR 12 rfl (by kernel_rfl) (fun _ _ _=>id) (Or.inl ⟨by rfl,by rintro W ⟨c1,d1⟩;go_simp<;>with_reducible rfl⟩) ‹_› ?_;refine tR 13 rfl (by kernel_rfl) (fun _ _ _=>id) (Or.inl ⟨by rfl,by rintro W ⟨c1,d1⟩;go_simp<;>with_reducible rfl⟩) ‹_› ?_;refine tR 14 rfl (by kernel_rfl) (fun _ _ _=>id) (Or.inl ⟨by rfl,by rintro W ⟨c1,d1⟩;go_simp<;>with_reducible rfl⟩) ‹_› ?_;try simp only[nA,nB,nC,nD,nE]
        refine tR 15 rfl (by kernel_rfl) (fun _ _ _=>id) (Or.inl ⟨by rfl,by rintro W ⟨c1,d1⟩;go_simp<;>with_reducible rfl⟩) ‹_› ?_;refine tR 16 rfl (by kernel_rfl) (fun _ _ _=>id) (Or.inl ⟨by rfl,by rintro W ⟨c1,d1⟩;go_simp<;>with_reducible rfl⟩) ‹_› ?_;refine tR 17 rfl (by kernel_rfl) (fun _ _ _=>id) (Or.inl ⟨by rfl,by rintro W ⟨c1,d1⟩;go_simp<;>with_reducible rfl⟩) ‹_› ?_;refine tR 18 rfl (by kernel_rfl) (fun _ _ _=>id) (Or.inl ⟨by rfl,by rintro W ⟨c1,d1⟩;go_simp<;>with_reducible rfl⟩) ‹_› ?_;refine tR 19 rfl (by kernel_rfl) (fun _ _ _=>id) (Or.inl ⟨by rfl,by rintro W ⟨c1,d1⟩;go_simp<;>with_reducible rfl⟩) ‹_› ?_;try simp only[nA,nB,nC,nD,nE]
        refine tR 20 rfl (by kernel_rfl) (fun _ _ _=>id) (Or.inl ⟨by rfl,by rintro W ⟨c1,d1⟩;go_simp<;>with_reducible rfl⟩) ‹_› ?_;refine tR 21 rfl (by kernel_rfl) (fun _ _ _=>id) (Or.inl ⟨by rfl,by rintro W ⟨c1,d1⟩;go_simp<;>with_reducible rfl⟩) ‹_› ?_;refine tR 22 rfl (by kernel_rfl) (fun _ _ _=>id) (Or.inl ⟨by rfl,by rintro W ⟨c1,d1⟩;go_simp<;>with_reducible rfl⟩) ‹_› ?_;refine tR 23 rfl (by kernel_rfl) (fun _ _ _=>id) (Or.inl ⟨by rfl,by rintro W ⟨c1,d1⟩;go_simp<;>with_reducible rfl⟩) ‹_› ?_;try simp only[nA,nB,nC,nD,nE]
        refine wpAnyH_done (by kernel_rfl) ?_ _;have Vp:=lH (show Kept wr (wr.drew) from(Kept.drew wr));obtain⟨c1,d1⟩:=HS.out _ Vp.out;have hbw:(wr.drew).heap.size=wr.heap.size:=rfl;obtain⟨W1,hW1⟩:=eX (wr.drew)
        rw[hW1] at Vp hbw c1 d1;try rw[hW1]
        try simp only[hW1]
        clear hW1;have hbase:w.heap.size≤W1.heap.size:=by rw[hbw];exact Va.out.size
        have Vs:=lH hbase;have OK:=lH (HO.out.kept Vp.out);have hacc16:acc.length≤16:=by omega
        clear hbw;go_wp2_with (at_builtin;refine wpList_append_lies _ rfl _ _ _ rfl w.heap.size 9 i0 _ 1 16 Tryz.underlying34 hi hz0 hz1 hz2 rfl (by decide) u5 acc.length (jb jz acc) rfl (OK.out.1.alloc _) ⟨W1.heap.size,0,none⟩ 1 1 (jz.cs (nm l i)) rfl rfl (World.news_of_block (cs:=#[.string (nm l i)]) (t:=9) (fr:=(0,0)) (W1.alloc_heap_new _)) (Yk (nm l i)) (by decide) (by unfold maxLen;omega) (by omega) (by rw[World.size_alloc];exact Nat.le_succ_of_le Vs.out) (W1.heap.size+1) (World.size_alloc _ _) ?_;intro g cap1 w7 hown1 hgrow hg hlt7;refine Hid.out ?_)
        refine lH ?_;have Vz:=lH (((Va.out.trans (Below.mono Vp.out Va.out.size)).alloc (by exact Vs.out) _).grown hgrow (by rw[World.size_alloc];exact Nat.le_succ_of_le Vs.out) (fun j hj=>(HO.out.1.lt j hj).1));go_wp2;go_roundw
        case rel=>exact⟨i+1,k,f2,acc++[nm l i],by omega,by omega,by go_num,by go_num,HN.out,by omega,Own.snoc hown1 rfl HO.out.2 Ty.out,Vz.out,by rw[List.length_append];simp only[List.length_cons,List.length_nil];omega⟩
        case measure=>simp[intOf];omega
      · have e1:ltS (nm l i) (nm l' k)=false:=by simpa using e1
        have E1:=lH e1;have e1':Op.bytesLess (nm l i).toList (nm l' k).toList=false:=e1;clear e1;by_cases e2:ltS (nm l' k) (nm l i)=true
        · have E2:=lH e2;have e2':Op.bytesLess (nm l' k).toList (nm l i).toList=true:=e2;clear e2;have HN:=lH (show acc++[nm l' k]++jY f2 (l.drop (i)) (l'.drop (k+1))=NS by rw[←HQ.out,Xg HK.out (.inr ⟨HI.out,E2.out⟩)];simp);go_wp2;clear c1 d1;refine wp_region_held_drew (S:=fun W=>W.cell? ⟨b,off+i*2,none⟩=some (.string (nm l i))∧W.cell? ⟨b',off'+k*2,none⟩=some (.string (nm l' k))) (by kernel_rfl) (HS.out _ (Kept.drew _)) (fun hHeld=>?_);refine tR 0 rfl (by kernel_rfl) (fun _ _ _=>id) (Or.inl ⟨by rfl,by rintro W ⟨c1,d1⟩;go_simp<;>with_reducible rfl⟩) ‹_› ?_;refine tR 1 rfl (by kernel_rfl) (fun _ _ _=>id) (Or.inl ⟨by rfl,by rintro W ⟨c1,d1⟩;go_simp<;>with_reducible rfl⟩) ‹_› ?_;refine tR 2 rfl (by kernel_rfl) (fun _ _ _=>id) (Or.inl ⟨by rfl,by rintro W ⟨c1,d1⟩;go_simp<;>with_reducible rfl⟩) ‹_› ?_;refine tR 3 rfl (by kernel_rfl) (fun _ _ _=>id) (Or.inl ⟨by rfl,by rintro W ⟨c1,d1⟩;go_simp<;>with_reducible rfl⟩) ‹_› ?_;refine tR 4 rfl (by kernel_rfl) (fun _ _ _=>id) (Or.inl ⟨by rfl,by rintro W ⟨c1,d1⟩;go_simp<;>with_reducible rfl⟩) ‹_› ?_;try simp only[nA,nB,nC,nD,nE]
          refine tR 5 rfl (by kernel_rfl) (fun _ _ _=>id) (Or.inl ⟨by rfl,by rintro W ⟨c1,d1⟩;go_simp<;>with_reducible rfl⟩) ‹_› ?_;refine tR 6 rfl (by kernel_rfl) (fun _ _ _=>id) (Or.inl ⟨by rfl,by rintro W ⟨c1,d1⟩;go_simp<;>with_reducible rfl⟩) ‹_› ?_;refine tR 7 rfl (by kernel_rfl) (fun _ _ _=>id) (Or.inl ⟨by rfl,by rintro W ⟨c1,d1⟩;go_simp<;>with_reducible rfl⟩) ‹_› ?_;refine tR 8 rfl (by kernel_rfl) (fun _ _ _=>id) (Or.inl ⟨by rfl,by rintro W ⟨c1,d1⟩;go_simp<;>with_reducible rfl⟩) ‹_› ?_;refine tR 9 rfl (by kernel_rfl) (fun _ _ _=>id) (Or.inl ⟨by rfl,by rintro W ⟨c1,d1⟩;go_simp<;>with_reducible rfl⟩) ‹_› ?_;try simp only[nA,nB,nC,nD,nE]
          refine tR 10 rfl (by kernel_rfl) (fun _ _ _=>id) (Or.inl ⟨by rfl,by rintro W ⟨c1,d1⟩;go_simp<;>with_reducible rfl⟩) ‹_› ?_;refine tR 11 rfl (by kernel_rfl) (fun _ _ _=>id) (Or.inl ⟨by rfl,by rintro W ⟨c1,d1⟩;go_simp<;>with_reducible rfl⟩) ‹_› ?_;refine tR 12 rfl (by kernel_rfl) (fun _ _ _=>id) (Or.inl ⟨by rfl,by rintro W ⟨c1,d1⟩;go_simp<;>with_reducible rfl⟩) ‹_› ?_;refine tR 13 rfl (by kernel_rfl) (fun _ _ _=>id) (Or.inl ⟨by rfl,by rintro W ⟨c1,d1⟩;go_simp<;>with_reducible rfl⟩) ‹_› ?_;refine tR 14 rfl (by kernel_rfl) (fun _ _ _=>id) (Or.inl ⟨by rfl,by rintro W ⟨c1,d1⟩;go_simp<;>with_reducible rfl⟩) ‹_› ?_;try simp only[nA,nB,nC,nD,nE]
          refine tR 15 rfl (by kernel_rfl) (fun _ _ _=>id) (Or.inl ⟨by rfl,by rintro W ⟨c1,d1⟩;go_simp<;>with_reducible rfl⟩) ‹_› ?_;refine tR 16 rfl (by kernel_rfl) (fun _ _ _=>id) (Or.inl ⟨by rfl,by rintro W ⟨c1,d1⟩;go_simp<;>with_reducible rfl⟩) ‹_› ?_;refine tR 17 rfl (by kernel_rfl) (fun _ _ _=>id) (Or.inl ⟨by rfl,by rintro W ⟨c1,d1⟩;go_simp<;>with_reducible rfl⟩) ‹_› ?_;refine tR 18 rfl (by kernel_rfl) (fun _ _ _=>id) (Or.inl ⟨by rfl,by rintro W ⟨c1,d1⟩;go_simp<;>with_reducible rfl⟩) ‹_› ?_;refine tR 19 rfl (by kernel_rfl) (fun _ _ _=>id) (Or.inl ⟨by rfl,by rintro W ⟨c1,d1⟩;go_simp<;>with_reducible rfl⟩) ‹_› ?_;try simp only[nA,nB,nC,nD,nE]
          refine tR 20 rfl (by kernel_rfl) (fun _ _ _=>id) (Or.inl ⟨by rfl,by rintro W ⟨c1,d1⟩;go_simp<;>with_reducible rfl⟩) ‹_› ?_;refine tR 21 rfl (by kernel_rfl) (fun _ _ _=>id) (Or.inl ⟨by rfl,by rintro W ⟨c1,d1⟩;go_simp<;>with_reducible rfl⟩) ‹_› ?_;refine tR 22 rfl (by kernel_rfl) (fun _ _ _=>id) (Or.inl ⟨by rfl,by rintro W ⟨c1,d1⟩;go_simp<;>with_reducible rfl⟩) ‹_› ?_;refine tR 23 rfl (by kernel_rfl) (fun _ _ _=>id) (Or.inl ⟨by rfl,by rintro W ⟨c1,d1⟩;go_simp<;>with_reducible rfl⟩) ‹_› ?_;try simp only[nA,nB,nC,nD,nE]
          refine wpAnyH_done (by kernel_rfl) ?_ _;go_wp2;refine wp_region_held_drew (S:=fun W=>W.cell? ⟨b,off+i*2,none⟩=some (.string (nm l i))∧W.cell? ⟨b',off'+k*2,none⟩=some (.string (nm l' k))) (by kernel_rfl) (HS.out _ ((Kept.drew _).trans (Kept.drew _))) (fun hHeld=>?_);refine tR 0 rfl (by kernel_rfl) (fun _ _ _=>id) (Or.inl ⟨by rfl,by rintro W ⟨c1,d1⟩;go_simp<;>with_reducible rfl⟩) ‹_› ?_;refine tR 1 rfl (by kernel_rfl) (fun _ _ _=>id) (Or.inl ⟨by rfl,by rintro W ⟨c1,d1⟩;go_simp<;>with_reducible rfl⟩) ‹_› ?_;refine tR 2 rfl (by kernel_rfl) (fun _ _ _=>id) (Or.inl ⟨by rfl,by rintro W ⟨c1,d1⟩;go_simp<;>with_reducible rfl⟩) ‹_› ?_;refine tR 3 rfl (by kernel_rfl) (fun _ _ _=>id) (Or.inl ⟨by rfl,by rintro W ⟨c1,d1⟩;go_simp<;>with_reducible rfl⟩) ‹_› ?_;refine tR 4 rfl (by kernel_rfl) (fun _ _ _=>id) (Or.inl ⟨by rfl,by rintro W ⟨c1,d1⟩;go_simp<;>with_reducible rfl⟩) ‹_› ?_;try simp only[nA,nB,nC,nD,nE]
          refine tR 5 rfl (by kernel_rfl) (fun _ _ _=>id) (Or.inl ⟨by rfl,by rintro W ⟨c1,d1⟩;go_simp<;>with_reducible rfl⟩) ‹_› ?_;refine tR 6 rfl (by kernel_rfl) (fun _ _ _=>id) (Or.inl ⟨by rfl,by rintro W ⟨c1,d1⟩;go_simp<;>with_reducible rfl⟩) ‹_› ?_;refine tR 7 rfl (by kernel_rfl) (fun _ _ _=>id) (Or.inl ⟨by rfl,by rintro W ⟨c1,d1⟩;go_simp<;>with_reducible rfl⟩) ‹_› ?_;refine tR 8 rfl (by kernel_rfl) (fun _ _ _=>id) (Or.inl ⟨by rfl,by rintro W ⟨c1,d1⟩;go_simp<;>with_reducible rfl⟩) ‹_› ?_;refine tR 9 rfl (by kernel_rfl) (fun _ _ _=>id) (Or.inl ⟨by rfl,by rintro W ⟨c1,d1⟩;go_simp<;>with_reducible rfl⟩) ‹_› ?_;try simp only[nA,nB,nC,nD,nE]
          refine tR 10 rfl (by kernel_rfl) (fun _ _ _=>id) (Or.inl ⟨by rfl,by rintro W ⟨c1,d1⟩;go_simp<;>with_reducible rfl⟩) ‹_› ?_;refine tR 11 rfl (by kernel_rfl) (fun _ _ _=>id) (Or.inl ⟨by rfl,by rintro W ⟨c1,d1⟩;go_simp<;>with_reducible rfl⟩) ‹_› ?_;refine tR 12 rfl (by kernel_rfl) (fun _ _ _=>id) (Or.inl ⟨by rfl,by rintro W ⟨c1,d1⟩;go_simp<;>with_reducible rfl⟩) ‹_› ?_;refine tR 13 rfl (by kernel_rfl) (fun _ _ _=>id) (Or.inl ⟨by rfl,by rintro W ⟨c1,d1⟩;go_simp<;>with_reducible rfl⟩) ‹_› ?_;refine tR 14 rfl (by kernel_rfl) (fun _ _ _=>id) (Or.inl ⟨by rfl,by rintro W ⟨c1,d1⟩;go_simp<;>with_reducible rfl⟩) ‹_› ?_;try simp only[nA,nB,nC,nD,nE]
          refine tR 15 rfl (by kernel_rfl) (fun _ _ _=>id) (Or.inl ⟨by rfl,by rintro W ⟨c1,d1⟩;go_simp<;>with_reducible rfl⟩) ‹_› ?_;refine tR 16 rfl (by kernel_rfl) (fun _ _ _=>id) (Or.inl ⟨by rfl,by rintro W ⟨c1,d1⟩;go_simp<;>with_reducible rfl⟩) ‹_› ?_;refine tR 17 rfl (by kernel_rfl) (fun _ _ _=>id) (Or.inl ⟨by rfl,by rintro W ⟨c1,d1⟩;go_simp<;>with_reducible rfl⟩) ‹_› ?_;try simp only[nA,nB,nC,nD,nE]
          refine wpAnyH_done (by kernel_rfl) ?_ _;have Vp:=lH (show Kept wr (wr.drew.drew) from((Kept.drew wr).trans (Kept.drew _)));obtain⟨c1,d1⟩:=HS.out _ Vp.out;have hbw:(wr.drew.drew).heap.size=wr.heap.size:=rfl;obtain⟨W1,hW1⟩:=eX (wr.drew.drew)
          rw[hW1] at Vp hbw c1 d1;try rw[hW1]
          try simp only[hW1]
          clear hW1;have hbase:w.heap.size≤W1.heap.size:=by rw[hbw];exact Va.out.size
          have Vs:=lH hbase;have OK:=lH (HO.out.kept Vp.out);have hacc16:acc.length≤16:=by omega
          clear hbw;go_wp2_with (at_builtin;refine wpList_append_lies _ rfl _ _ _ rfl w.heap.size 9 i0 _ 1 16 Tryz.underlying34 hi hz0 hz1 hz2 rfl (by decide) u5 acc.length (jb jz acc) rfl (OK.out.1.alloc _) ⟨W1.heap.size,0,none⟩ 1 1 (jz.cs (nm l' k)) rfl rfl (World.news_of_block (cs:=#[.string (nm l' k)]) (t:=9) (fr:=(0,0)) (W1.alloc_heap_new _)) (Yk (nm l' k)) (by decide) (by unfold maxLen;omega) (by omega) (by rw[World.size_alloc];exact Nat.le_succ_of_le Vs.out) (W1.heap.size+1) (World.size_alloc _ _) ?_;intro g cap1 w7 hown1 hgrow hg hlt7;refine Hid.out ?_)
          refine lH ?_;have Vz:=lH (((Va.out.trans (Below.mono Vp.out Va.out.size)).alloc (by exact Vs.out) _).grown hgrow (by rw[World.size_alloc];exact Nat.le_succ_of_le Vs.out) (fun j hj=>(HO.out.1.lt j hj).1));go_wp2;go_roundw
          case rel=>exact⟨i,k+1,f2,acc++[nm l' k],by omega,by omega,by go_num,by go_num,HN.out,by omega,Own.snoc hown1 rfl HO.out.2 UX.out,Vz.out,by rw[List.length_append];simp only[List.length_cons,List.length_nil];omega⟩
          case measure=>simp[intOf];omega
        · have e2:ltS (nm l' k) (nm l i)=false:=by simpa using e2
          have E2:=lH e2;have e2':Op.bytesLess (nm l' k).toList (nm l i).toList=false:=e2;clear e2;have HN:=lH (show acc++[nm l i]++jY f2 (l.drop (i+1)) (l'.drop (k+1))=NS by rw[←HQ.out,jc4 HI.out HK.out E1.out E2.out];simp);go_wp2;clear c1 d1;refine wp_region_held_drew (S:=fun W=>W.cell? ⟨b,off+i*2,none⟩=some (.string (nm l i))∧W.cell? ⟨b',off'+k*2,none⟩=some (.string (nm l' k))) (by kernel_rfl) (HS.out _ (Kept.drew _)) (fun hHeld=>?_);refine tR 0 rfl (by kernel_rfl) (fun _ _ _=>id) (Or.inl ⟨by rfl,by rintro W ⟨c1,d1⟩;go_simp<;>with_reducible rfl⟩) ‹_› ?_;refine tR 1 rfl (by kernel_rfl) (fun _ _ _=>id) (Or.inl ⟨by rfl,by rintro W ⟨c1,d1⟩;go_simp<;>with_reducible rfl⟩) ‹_› ?_;refine tR 2 rfl (by kernel_rfl) (fun _ _ _=>id) (Or.inl ⟨by rfl,by rintro W ⟨c1,d1⟩;go_simp<;>with_reducible rfl⟩) ‹_› ?_;refine tR 3 rfl (by kernel_rfl) (fun _ _ _=>id) (Or.inl ⟨by rfl,by rintro W ⟨c1,d1⟩;go_simp<;>with_reducible rfl⟩) ‹_› ?_;refine tR 4 rfl (by kernel_rfl) (fun _ _ _=>id) (Or.inl ⟨by rfl,by rintro W ⟨c1,d1⟩;go_simp<;>with_reducible rfl⟩) ‹_› ?_;try simp only[nA,nB,nC,nD,nE]
          refine tR 5 rfl (by kernel_rfl) (fun _ _ _=>id) (Or.inl ⟨by rfl,by rintro W ⟨c1,d1⟩;go_simp<;>with_reducible rfl⟩) ‹_› ?_;refine tR 6 rfl (by kernel_rfl) (fun _ _ _=>id) (Or.inl ⟨by rfl,by rintro W ⟨c1,d1⟩;go_simp<;>with_reducible rfl⟩) ‹_› ?_;refine tR 7 rfl (by kernel_rfl) (fun _ _ _=>id) (Or.inl ⟨by rfl,by rintro W ⟨c1,d1⟩;go_simp<;>with_reducible rfl⟩) ‹_› ?_;refine tR 8 rfl (by kernel_rfl) (fun _ _ _=>id) (Or.inl ⟨by rfl,by rintro W ⟨c1,d1⟩;go_simp<;>with_reducible rfl⟩) ‹_› ?_;refine tR 9 rfl (by kernel_rfl) (fun _ _ _=>id) (Or.inl ⟨by rfl,by rintro W ⟨c1,d1⟩;go_simp<;>with_reducible rfl⟩) ‹_› ?_;try simp only[nA,nB,nC,nD,nE]
          refine tR 10 rfl (by kernel_rfl) (fun _ _ _=>id) (Or.inl ⟨by rfl,by rintro W ⟨c1,d1⟩;go_simp<;>with_reducible rfl⟩) ‹_› ?_;refine tR 11 rfl (by kernel_rfl) (fun _ _ _=>id) (Or.inl ⟨by rfl,by rintro W ⟨c1,d1⟩;go_simp<;>with_reducible rfl⟩) ‹_› ?_;refine tR 12 rfl (by kernel_rfl) (fun _ _ _=>id) (Or.inl ⟨by rfl,by rintro W ⟨c1,d1⟩;go_simp<;>with_reducible rfl⟩) ‹_› ?_;refine tR 13 rfl (by kernel_rfl) (fun _ _ _=>id) (Or.inl ⟨by rfl,by rintro W ⟨c1,d1⟩;go_simp<;>with_reducible rfl⟩) ‹_› ?_;refine tR 14 rfl (by kernel_rfl) (fun _ _ _=>id) (Or.inl ⟨by rfl,by rintro W ⟨c1,d1⟩;go_simp<;>with_reducible rfl⟩) ‹_› ?_;try simp only[nA,nB,nC,nD,nE]
          refine tR 15 rfl (by kernel_rfl) (fun _ _ _=>id) (Or.inl ⟨by rfl,by rintro W ⟨c1,d1⟩;go_simp<;>with_reducible rfl⟩) ‹_› ?_;refine tR 16 rfl (by kernel_rfl) (fun _ _ _=>id) (Or.inl ⟨by rfl,by rintro W ⟨c1,d1⟩;go_simp<;>with_reducible rfl⟩) ‹_› ?_;refine tR 17 rfl (by kernel_rfl) (fun _ _ _=>id) (Or.inl ⟨by rfl,by rintro W ⟨c1,d1⟩;go_simp<;>with_reducible rfl⟩) ‹_› ?_;refine tR 18 rfl (by kernel_rfl) (fun _ _ _=>id) (Or.inl ⟨by rfl,by rintro W ⟨c1,d1⟩;go_simp<;>with_reducible rfl⟩) ‹_› ?_;refine tR 19 rfl (by kernel_rfl) (fun _ _ _=>id) (Or.inl ⟨by rfl,by rintro W ⟨c1,d1⟩;go_simp<;>with_reducible rfl⟩) ‹_› ?_;try simp only[nA,nB,nC,nD,nE]
          refine tR 20 rfl (by kernel_rfl) (fun _ _ _=>id) (Or.inl ⟨by rfl,by rintro W ⟨c1,d1⟩;go_simp<;>with_reducible rfl⟩) ‹_› ?_;refine tR 21 rfl (by kernel_rfl) (fun _ _ _=>id) (Or.inl ⟨by rfl,by rintro W ⟨c1,d1⟩;go_simp<;>with_reducible rfl⟩) ‹_› ?_;refine tR 22 rfl (by kernel_rfl) (fun _ _ _=>id) (Or.inl ⟨by rfl,by rintro W ⟨c1,d1⟩;go_simp<;>with_reducible rfl⟩) ‹_› ?_;refine tR 23 rfl (by kernel_rfl) (fun _ _ _=>id) (Or.inl ⟨by rfl,by rintro W ⟨c1,d1⟩;go_simp<;>with_reducible rfl⟩) ‹_› ?_;try simp only[nA,nB,nC,nD,nE]
          refine wpAnyH_done (by kernel_rfl) ?_ _;go_wp2;refine wp_region_held_drew (S:=fun W=>W.cell? ⟨b,off+i*2,none⟩=some (.string (nm l i))∧W.cell? ⟨b',off'+k*2,none⟩=some (.string (nm l' k))) (by kernel_rfl) (HS.out _ ((Kept.drew _).trans (Kept.drew _))) (fun hHeld=>?_);refine tR 0 rfl (by kernel_rfl) (fun _ _ _=>id) (Or.inl ⟨by rfl,by rintro W ⟨c1,d1⟩;go_simp<;>with_reducible rfl⟩) ‹_› ?_;refine tR 1 rfl (by kernel_rfl) (fun _ _ _=>id) (Or.inl ⟨by rfl,by rintro W ⟨c1,d1⟩;go_simp<;>with_reducible rfl⟩) ‹_› ?_;refine tR 2 rfl (by kernel_rfl) (fun _ _ _=>id) (Or.inl ⟨by rfl,by rintro W ⟨c1,d1⟩;go_simp<;>with_reducible rfl⟩) ‹_› ?_;refine tR 3 rfl (by kernel_rfl) (fun _ _ _=>id) (Or.inl ⟨by rfl,by rintro W ⟨c1,d1⟩;go_simp<;>with_reducible rfl⟩) ‹_› ?_;refine tR 4 rfl (by kernel_rfl) (fun _ _ _=>id) (Or.inl ⟨by rfl,by rintro W ⟨c1,d1⟩;go_simp<;>with_reducible rfl⟩) ‹_› ?_;try simp only[nA,nB,nC,nD,nE]
          refine tR 5 rfl (by kernel_rfl) (fun _ _ _=>id) (Or.inl ⟨by rfl,by rintro W ⟨c1,d1⟩;go_simp<;>with_reducible rfl⟩) ‹_› ?_;refine tR 6 rfl (by kernel_rfl) (fun _ _ _=>id) (Or.inl ⟨by rfl,by rintro W ⟨c1,d1⟩;go_simp<;>with_reducible rfl⟩) ‹_› ?_;refine tR 7 rfl (by kernel_rfl) (fun _ _ _=>id) (Or.inl ⟨by rfl,by rintro W ⟨c1,d1⟩;go_simp<;>with_reducible rfl⟩) ‹_› ?_;refine tR 8 rfl (by kernel_rfl) (fun _ _ _=>id) (Or.inl ⟨by rfl,by rintro W ⟨c1,d1⟩;go_simp<;>with_reducible rfl⟩) ‹_› ?_;refine tR 9 rfl (by kernel_rfl) (fun _ _ _=>id) (Or.inl ⟨by rfl,by rintro W ⟨c1,d1⟩;go_simp<;>with_reducible rfl⟩) ‹_› ?_;try simp only[nA,nB,nC,nD,nE]
          refine tR 10 rfl (by kernel_rfl) (fun _ _ _=>id) (Or.inl ⟨by rfl,by rintro W ⟨c1,d1⟩;go_simp<;>with_reducible rfl⟩) ‹_› ?_;refine tR 11 rfl (by kernel_rfl) (fun _ _ _=>id) (Or.inl ⟨by rfl,by rintro W ⟨c1,d1⟩;go_simp<;>with_reducible rfl⟩) ‹_› ?_;refine tR 12 rfl (by kernel_rfl) (fun _ _ _=>id) (Or.inl ⟨by rfl,by rintro W ⟨c1,d1⟩;go_simp<;>with_reducible rfl⟩) ‹_› ?_;refine tR 13 rfl (by kernel_rfl) (fun _ _ _=>id) (Or.inl ⟨by rfl,by rintro W ⟨c1,d1⟩;go_simp<;>with_reducible rfl⟩) ‹_› ?_;refine tR 14 rfl (by kernel_rfl) (fun _ _ _=>id) (Or.inl ⟨by rfl,by rintro W ⟨c1,d1⟩;go_simp<;>with_reducible rfl⟩) ‹_› ?_;try simp only[nA,nB,nC,nD,nE]
          refine tR 15 rfl (by kernel_rfl) (fun _ _ _=>id) (Or.inl ⟨by rfl,by rintro W ⟨c1,d1⟩;go_simp<;>with_reducible rfl⟩) ‹_› ?_;refine tR 16 rfl (by kernel_rfl) (fun _ _ _=>id) (Or.inl ⟨by rfl,by rintro W ⟨c1,d1⟩;go_simp<;>with_reducible rfl⟩) ‹_› ?_;refine tR 17 rfl (by kernel_rfl) (fun _ _ _=>id) (Or.inl ⟨by rfl,by rintro W ⟨c1,d1⟩;go_simp<;>with_reducible rfl⟩) ‹_› ?_;try simp only[nA,nB,nC,nD,nE]
          refine wpAnyH_done (by kernel_rfl) ?_ _;have Vp:=lH (show Kept wr (wr.drew.drew) from((Kept.drew wr).trans (Kept.drew _)));obtain⟨c1,d1⟩:=HS.out _ Vp.out;have hbw:(wr.drew.drew).heap.size=wr.heap.size:=rfl;obtain⟨W1,hW1⟩:=eX (wr.drew.drew)
          rw[hW1] at Vp hbw c1 d1;try rw[hW1]
          try simp only[hW1]
          clear hW1;have hbase:w.heap.size≤W1.heap.size:=by rw[hbw];exact Va.out.size
          have Vs:=lH hbase;have OK:=lH (HO.out.kept Vp.out);have hacc16:acc.length≤16:=by omega
          clear hbw;go_wp2_with (at_builtin;refine wpList_append_lies _ rfl _ _ _ rfl w.heap.size 9 i0 _ 1 16 Tryz.underlying34 hi hz0 hz1 hz2 rfl (by decide) u5 acc.length (jb jz acc) rfl (OK.out.1.alloc _) ⟨W1.heap.size,0,none⟩ 1 1 (jz.cs (nm l i)) rfl rfl (World.news_of_block (cs:=#[.string (nm l i)]) (t:=9) (fr:=(0,0)) (W1.alloc_heap_new _)) (Yk (nm l i)) (by decide) (by unfold maxLen;omega) (by omega) (by rw[World.size_alloc];exact Nat.le_succ_of_le Vs.out) (W1.heap.size+1) (World.size_alloc _ _) ?_;intro g cap1 w7 hown1 hgrow hg hlt7;refine Hid.out ?_)
          refine lH ?_;have Vz:=lH (((Va.out.trans (Below.mono Vp.out Va.out.size)).alloc (by exact Vs.out) _).grown hgrow (by rw[World.size_alloc];exact Nat.le_succ_of_le Vs.out) (fun j hj=>(HO.out.1.lt j hj).1));go_wp2;go_roundw
          case rel=>exact⟨i+1,k+1,f2,acc++[nm l i],by omega,by omega,by go_num,by go_num,HN.out,by omega,Own.snoc hown1 rfl HO.out.2 Ty.out,Vz.out,by rw[List.length_append];simp only[List.length_cons,List.length_nil];omega⟩
          case measure=>simp[intOf];omega
    · have hk3:(len':Int)≤(k:Int):=by omega
      have hk4:decide ((k:Int)<(len':Int))=false:=decide_eq_false (by omega);have hk5:¬(k:Int)<(len':Int):=by omega
      have hd:decide (len'≤k)=true:=decide_eq_true (by omega);have hi3:(i:Int)<(len:Int):=by omega
      have HS:=lH (show ∀W,Kept wr W→W.cell? ⟨b,off+i*2,none⟩=some (.string (nm l i)) from fun W kk=>cell_later kk c1);clear hB;have HN:=lH (show acc++[nm l i]++jY f2 (l.drop (i+1)) (l'.drop (k))=NS by rw[←HQ.out,XB HI.out (.inl (by rw[HL'.out];omega))];simp);go_wp2;clear c1;refine wp_region_held_drew (S:=fun W=>W.cell? ⟨b,off+i*2,none⟩=some (.string (nm l i))) (by kernel_rfl) (HS.out _ (Kept.drew _)) (fun hHeld=>?_);refine tR 0 rfl (by kernel_rfl) (fun _ _ _=>id) (Or.inl ⟨by rfl,(by intro W hSw;go_simp<;>with_reducible rfl)⟩) ‹_› ?_;refine tR 1 rfl (by kernel_rfl) (fun _ _ _=>id) (Or.inl ⟨by rfl,(by intro W hSw;go_simp<;>with_reducible rfl)⟩) ‹_› ?_;refine tR 2 rfl (by kernel_rfl) (fun _ _ _=>id) (Or.inl ⟨by rfl,(by intro W hSw;go_simp<;>with_reducible rfl)⟩) ‹_› ?_;refine tR 3 rfl (by kernel_rfl) (fun _ _ _=>id) (Or.inl ⟨by rfl,(by intro W hSw;go_simp<;>with_reducible rfl)⟩) ‹_› ?_;refine tR 4 rfl (by kernel_rfl) (fun _ _ _=>id) (Or.inl ⟨by rfl,(by intro W hSw;go_simp<;>with_reducible rfl)⟩) ‹_› ?_;try simp only[nA,nB,nC,nD,nE]
      refine tR 5 (v:=undef) rfl (by kernel_rfl) (fun _ _ _=>id) (Or.inr ⟨by rfl,rfl⟩) ‹_› ?_;refine tR 6 (v:=undef) rfl (by kernel_rfl) (fun _ _ _=>id) (Or.inr ⟨by rfl,rfl⟩) ‹_› ?_;refine tR 7 (v:=undef) rfl (by kernel_rfl) (fun _ _ _=>id) (Or.inr ⟨by rfl,rfl⟩) ‹_› ?_;refine tR 8 (v:=undef) rfl (by kernel_rfl) (fun _ _ _=>id) (Or.inr ⟨by rfl,rfl⟩) ‹_› ?_;refine tR 9 (v:=undef) rfl (by kernel_rfl) (fun _ _ _=>id) (Or.inr ⟨by rfl,rfl⟩) ‹_› ?_;try simp only[nA,nB,nC,nD,nE]
      refine tR 10 (v:=undef) rfl (by kernel_rfl) (fun _ _ _=>id) (Or.inr ⟨by rfl,rfl⟩) ‹_› ?_;refine tR 11 (v:=undef) rfl (by kernel_rfl) (fun _ _ _=>id) (Or.inr ⟨by rfl,rfl⟩) ‹_› ?_;refine tR 12 (v:=undef) rfl (by kernel_rfl) (fun _ _ _=>id) (Or.inr ⟨by rfl,rfl⟩) ‹_› ?_;refine tR 13 (v:=undef) rfl (by kernel_rfl) (fun _ _ _=>id) (Or.inr ⟨by rfl,rfl⟩) ‹_› ?_;refine tR 14 (v:=undef) rfl (by kernel_rfl) (fun _ _ _=>id) (Or.inr ⟨by rfl,rfl⟩) ‹_› ?_;try simp only[nA,nB,nC,nD,nE]
      refine tR 15 (v:=undef) rfl (by kernel_rfl) (fun _ _ _=>id) (Or.inr ⟨by rfl,rfl⟩) ‹_› ?_;refine tR 16 (v:=undef) rfl (by kernel_rfl) (fun _ _ _=>id) (Or.inr ⟨by rfl,rfl⟩) ‹_› ?_;refine tR 17 (v:=undef) rfl (by kernel_rfl) (fun _ _ _=>id) (Or.inr ⟨by rfl,rfl⟩) ‹_› ?_;refine tR 18 (v:=undef) rfl (by kernel_rfl) (fun _ _ _=>id) (Or.inr ⟨by rfl,rfl⟩) ‹_› ?_;refine tR 19 (v:=undef) rfl (by kernel_rfl) (fun _ _ _=>id) (Or.inr ⟨by rfl,rfl⟩) ‹_› ?_;try simp only[nA,nB,nC,nD,nE]
      refine tR 20 (v:=undef) rfl (by kernel_rfl) (fun _ _ _=>id) (Or.inr ⟨by rfl,rfl⟩) ‹_› ?_;refine tR 21 (v:=undef) rfl (by kernel_rfl) (fun _ _ _=>id) (Or.inr ⟨by rfl,rfl⟩) ‹_› ?_;refine tR 22 rfl (by kernel_rfl) (fun _ _ _=>id) (Or.inl ⟨by rfl,(by intro W hSw;go_simp<;>with_reducible rfl)⟩) ‹_› ?_;refine tR 23 rfl (by kernel_rfl) (fun _ _ _=>id) (Or.inl ⟨by rfl,(by intro W hSw;go_simp<;>with_reducible rfl)⟩) ‹_› ?_;try simp only[nA,nB,nC,nD,nE]
      refine wpAnyH_done (by kernel_rfl) ?_ _;have Vp:=lH (show Kept wr (wr.drew) from(Kept.drew wr));obtain c1:=HS.out _ Vp.out;have hbw:(wr.drew).heap.size=wr.heap.size:=rfl;obtain⟨W1,hW1⟩:=eX (wr.drew)
      rw[hW1] at Vp hbw c1;try rw[hW1]
      try simp only[hW1]
      clear hW1;have hbase:w.heap.size≤W1.heap.size:=by rw[hbw];exact Va.out.size
      have Vs:=lH hbase;have OK:=lH (HO.out.kept Vp.out);have hacc16:acc.length≤16:=by omega
      clear hbw;go_wp2_with (at_builtin;refine wpList_append_lies _ rfl _ _ _ rfl w.heap.size 9 i0 _ 1 16 Tryz.underlying34 hi hz0 hz1 hz2 rfl (by decide) u5 acc.length (jb jz acc) rfl (OK.out.1.alloc _) ⟨W1.heap.size,0,none⟩ 1 1 (jz.cs (nm l i)) rfl rfl (World.news_of_block (cs:=#[.string (nm l i)]) (t:=9) (fr:=(0,0)) (W1.alloc_heap_new _)) (Yk (nm l i)) (by decide) (by unfold maxLen;omega) (by omega) (by rw[World.size_alloc];exact Nat.le_succ_of_le Vs.out) (W1.heap.size+1) (World.size_alloc _ _) ?_;intro g cap1 w7 hown1 hgrow hg hlt7;refine Hid.out ?_)
      refine lH ?_;have Vz:=lH (((Va.out.trans (Below.mono Vp.out Va.out.size)).alloc (by exact Vs.out) _).grown hgrow (by rw[World.size_alloc];exact Nat.le_succ_of_le Vs.out) (fun j hj=>(HO.out.1.lt j hj).1));go_wp2;go_roundw
      case rel=>exact⟨i+1,k,f2,acc++[nm l i],by omega,by omega,by go_num,by go_num,HN.out,by omega,Own.snoc hown1 rfl HO.out.2 Ty.out,Vz.out,by rw[List.length_append];simp only[List.length_cons,List.length_nil];omega⟩
      case measure=>simp[intOf];omega
  · by_cases hk2:k<len'
    · obtain⟨b',off',rfl⟩:=HB.out.form.resolve_left (by omega);obtain⟨hb',d1,-⟩:=(HB.out.kept hB).cells hk2;have HK:=lH (show k<l'.length by rw[HL'.out];exact hk2);have UX:=lH (HF'.out k HK.out).1;obtain⟨f2,rfl⟩:∃f2,fuel=f2+1:=⟨fuel-1,by omega⟩
      have hd:decide (len'≤k)=false:=decide_eq_false (by omega);have hd2:decide (len≤i)=true:=decide_eq_true (by omega);have hi3:decide ((i:Int)<(len:Int))=false:=decide_eq_false (by omega);have hi5:¬(i:Int)<(len:Int):=by omega
      have hi6:(len:Int)≤(i:Int):=by omega
      have hk3:(k:Int)<(len':Int):=by omega
      have HS:=lH (show ∀W,Kept wr W→W.cell? ⟨b',off'+k*2,none⟩=some (.string (nm l' k)) from fun W kk=>cell_later kk d1);clear hB;have HN:=lH (show acc++[nm l' k]++jY f2 (l.drop (i)) (l'.drop (k+1))=NS by rw[←HQ.out,Xg HK.out (.inl (by rw[HL.out];omega))];simp);go_wp2;clear d1;refine wp_region_held_drew (S:=fun W=>W.cell? ⟨b',off'+k*2,none⟩=some (.string (nm l' k))) (by kernel_rfl) (HS.out _ (Kept.drew _)) (fun hHeld=>?_);refine tR 0 rfl (by kernel_rfl) (fun _ _ _=>id) (Or.inl ⟨by rfl,(by intro W hSw;go_simp<;>with_reducible rfl)⟩) ‹_› ?_;refine tR 1 rfl (by kernel_rfl) (fun _ _ _=>id) (Or.inl ⟨by rfl,(by intro W hSw;go_simp<;>with_reducible rfl)⟩) ‹_› ?_;refine tR 2 rfl (by kernel_rfl) (fun _ _ _=>id) (Or.inl ⟨by rfl,(by intro W hSw;go_simp<;>with_reducible rfl)⟩) ‹_› ?_;refine tR 3 rfl (by kernel_rfl) (fun _ _ _=>id) (Or.inl ⟨by rfl,(by intro W hSw;go_simp<;>with_reducible rfl)⟩) ‹_› ?_;refine tR 4 rfl (by kernel_rfl) (fun _ _ _=>id) (Or.inl ⟨by rfl,(by intro W hSw;go_simp<;>with_reducible rfl)⟩) ‹_› ?_;try simp only[nA,nB,nC,nD,nE]
      refine tR 5 rfl (by kernel_rfl) (fun _ _ _=>id) (Or.inl ⟨by rfl,(by intro W hSw;go_simp<;>with_reducible rfl)⟩) ‹_› ?_;refine tR 6 rfl (by kernel_rfl) (fun _ _ _=>id) (Or.inl ⟨by rfl,(by intro W hSw;go_simp<;>with_reducible rfl)⟩) ‹_› ?_;refine tR 7 rfl (by kernel_rfl) (fun _ _ _=>id) (Or.inl ⟨by rfl,(by intro W hSw;go_simp<;>with_reducible rfl)⟩) ‹_› ?_;refine tR 8 rfl (by kernel_rfl) (fun _ _ _=>id) (Or.inl ⟨by rfl,(by intro W hSw;go_simp<;>with_reducible rfl)⟩) ‹_› ?_;refine tR 9 rfl (by kernel_rfl) (fun _ _ _=>id) (Or.inl ⟨by rfl,(by intro W hSw;go_simp<;>with_reducible rfl)⟩) ‹_› ?_;try simp only[nA,nB,nC,nD,nE]
      refine tR 10 (v:=undef) rfl (by kernel_rfl) (fun _ _ _=>id) (Or.inr ⟨by rfl,rfl⟩) ‹_› ?_;refine tR 11 (v:=undef) rfl (by kernel_rfl) (fun _ _ _=>id) (Or.inr ⟨by rfl,rfl⟩) ‹_› ?_;refine tR 12 (v:=undef) rfl (by kernel_rfl) (fun _ _ _=>id) (Or.inr ⟨by rfl,rfl⟩) ‹_› ?_;refine tR 13 (v:=undef) rfl (by kernel_rfl) (fun _ _ _=>id) (Or.inr ⟨by rfl,rfl⟩) ‹_› ?_;refine tR 14 (v:=undef) rfl (by kernel_rfl) (fun _ _ _=>id) (Or.inr ⟨by rfl,rfl⟩) ‹_› ?_;try simp only[nA,nB,nC,nD,nE]
      refine tR 15 (v:=undef) rfl (by kernel_rfl) (fun _ _ _=>id) (Or.inr ⟨by rfl,rfl⟩) ‹_› ?_;refine tR 16 (v:=undef) rfl (by kernel_rfl) (fun _ _ _=>id) (Or.inr ⟨by rfl,rfl⟩) ‹_› ?_;refine tR 17 (v:=undef) rfl (by kernel_rfl) (fun _ _ _=>id) (Or.inr ⟨by rfl,rfl⟩) ‹_› ?_;refine tR 18 (v:=undef) rfl (by kernel_rfl) (fun _ _ _=>id) (Or.inr ⟨by rfl,rfl⟩) ‹_› ?_;refine tR 19 (v:=undef) rfl (by kernel_rfl) (fun _ _ _=>id) (Or.inr ⟨by rfl,rfl⟩) ‹_› ?_;try simp only[nA,nB,nC,nD,nE]
      refine tR 20 (v:=undef) rfl (by kernel_rfl) (fun _ _ _=>id) (Or.inr ⟨by rfl,rfl⟩) ‹_› ?_;refine tR 21 rfl (by kernel_rfl) (fun _ _ _=>id) (Or.inl ⟨by rfl,(by intro W hSw;go_simp<;>with_reducible rfl)⟩) ‹_› ?_;refine tR 22 rfl (by kernel_rfl) (fun _ _ _=>id) (Or.inl ⟨by rfl,(by intro W hSw;go_simp<;>with_reducible rfl)⟩) ‹_› ?_;refine tR 23 rfl (by kernel_rfl) (fun _ _ _=>id) (Or.inl ⟨by rfl,(by intro W hSw;go_simp<;>with_reducible rfl)⟩) ‹_› ?_;try simp only[nA,nB,nC,nD,nE]
      refine wpAnyH_done (by kernel_rfl) ?_ _;go_wp2;refine wp_region_held_drew (S:=fun W=>W.cell? ⟨b',off'+k*2,none⟩=some (.string (nm l' k))) (by kernel_rfl) (HS.out _ ((Kept.drew _).trans (Kept.drew _))) (fun hHeld=>?_);refine tR 0 rfl (by kernel_rfl) (fun _ _ _=>id) (Or.inl ⟨by rfl,(by intro W hSw;go_simp<;>with_reducible rfl)⟩) ‹_› ?_;refine tR 1 rfl (by kernel_rfl) (fun _ _ _=>id) (Or.inl ⟨by rfl,(by intro W hSw;go_simp<;>with_reducible rfl)⟩) ‹_› ?_;refine tR 2 rfl (by kernel_rfl) (fun _ _ _=>id) (Or.inl ⟨by rfl,(by intro W hSw;go_simp<;>with_reducible rfl)⟩) ‹_› ?_;refine tR 3 rfl (by kernel_rfl) (fun _ _ _=>id) (Or.inl ⟨by rfl,(by intro W hSw;go_simp<;>with_reducible rfl)⟩) ‹_› ?_;refine tR 4 rfl (by kernel_rfl) (fun _ _ _=>id) (Or.inl ⟨by rfl,(by intro W hSw;go_simp<;>with_reducible rfl)⟩) ‹_› ?_;try simp only[nA,nB,nC,nD,nE]
      refine tR 5 (v:=undef) rfl (by kernel_rfl) (fun _ _ _=>id) (Or.inr ⟨by rfl,rfl⟩) ‹_› ?_;refine tR 6 (v:=undef) rfl (by kernel_rfl) (fun _ _ _=>id) (Or.inr ⟨by rfl,rfl⟩) ‹_› ?_;refine tR 7 (v:=undef) rfl (by kernel_rfl) (fun _ _ _=>id) (Or.inr ⟨by rfl,rfl⟩) ‹_› ?_;refine tR 8 (v:=undef) rfl (by kernel_rfl) (fun _ _ _=>id) (Or.inr ⟨by rfl,rfl⟩) ‹_› ?_;refine tR 9 (v:=undef) rfl (by kernel_rfl) (fun _ _ _=>id) (Or.inr ⟨by rfl,rfl⟩) ‹_› ?_;try simp only[nA,nB,nC,nD,nE]
      refine tR 10 (v:=undef) rfl (by kernel_rfl) (fun _ _ _=>id) (Or.inr ⟨by rfl,rfl⟩) ‹_› ?_;refine tR 11 (v:=undef) rfl (by kernel_rfl) (fun _ _ _=>id) (Or.inr ⟨by rfl,rfl⟩) ‹_› ?_;refine tR 12 (v:=undef) rfl (by kernel_rfl) (fun _ _ _=>id) (Or.inr ⟨by rfl,rfl⟩) ‹_› ?_;refine tR 13 (v:=undef) rfl (by kernel_rfl) (fun _ _ _=>id) (Or.inr ⟨by rfl,rfl⟩) ‹_› ?_;refine tR 14 (v:=undef) rfl (by kernel_rfl) (fun _ _ _=>id) (Or.inr ⟨by rfl,rfl⟩) ‹_› ?_;try simp only[nA,nB,nC,nD,nE]
      refine tR 15 (v:=undef) rfl (by kernel_rfl) (fun _ _ _=>id) (Or.inr ⟨by rfl,rfl⟩) ‹_› ?_;refine tR 16 rfl (by kernel_rfl) (fun _ _ _=>id) (Or.inl ⟨by rfl,(by intro W hSw;go_simp<;>with_reducible rfl)⟩) ‹_› ?_;refine tR 17 rfl (by kernel_rfl) (fun _ _ _=>id) (Or.inl ⟨by rfl,(by intro W hSw;go_simp<;>with_reducible rfl)⟩) ‹_› ?_;try simp only[nA,nB,nC,nD,nE]
      refine wpAnyH_done (by kernel_rfl) ?_ _;have Vp:=lH (show Kept wr (wr.drew.drew) from((Kept.drew wr).trans (Kept.drew _)));obtain d1:=HS.out _ Vp.out;have hbw:(wr.drew.drew).heap.size=wr.heap.size:=rfl;obtain⟨W1,hW1⟩:=eX (wr.drew.drew)
      rw[hW1] at Vp hbw d1;try rw[hW1]
      try simp only[hW1]
      clear hW1;have hbase:w.heap.size≤W1.heap.size:=by rw[hbw];exact Va.out.size
      have Vs:=lH hbase;have OK:=lH (HO.out.kept Vp.out);have hacc16:acc.length≤16:=by omega
      clear hbw;go_wp2_with (at_builtin;refine wpList_append_lies _ rfl _ _ _ rfl w.heap.size 9 i0 _ 1 16 Tryz.underlying34 hi hz0 hz1 hz2 rfl (by decide) u5 acc.length (jb jz acc) rfl (OK.out.1.alloc _) ⟨W1.heap.size,0,none⟩ 1 1 (jz.cs (nm l' k)) rfl rfl (World.news_of_block (cs:=#[.string (nm l' k)]) (t:=9) (fr:=(0,0)) (W1.alloc_heap_new _)) (Yk (nm l' k)) (by decide) (by unfold maxLen;omega) (by omega) (by rw[World.size_alloc];exact Nat.le_succ_of_le Vs.out) (W1.heap.size+1) (World.size_alloc _ _) ?_;intro g cap1 w7 hown1 hgrow hg hlt7;refine Hid.out ?_)
      refine lH ?_;have Vz:=lH (((Va.out.trans (Below.mono Vp.out Va.out.size)).alloc (by exact Vs.out) _).grown hgrow (by rw[World.size_alloc];exact Nat.le_succ_of_le Vs.out) (fun j hj=>(HO.out.1.lt j hj).1));go_wp2;go_roundw
      case rel=>exact⟨i,k+1,f2,acc++[nm l' k],by omega,by omega,by go_num,by go_num,HN.out,by omega,Own.snoc hown1 rfl HO.out.2 UX.out,Vz.out,by rw[List.length_append];simp only[List.length_cons,List.length_nil];omega⟩
      case measure=>simp[intOf];omega
    · have hi3:decide ((i:Int)<(len:Int))=false:=decide_eq_false (by omega);have hk3:decide ((k:Int)<(len':Int))=false:=decide_eq_false (by omega);have HE:=lH (show NS=acc by
       rw[←HQ.out,jdh (by simp only[List.length_drop];rw[HL.out,HL'.out];omega),List.append_nil])
      clear hB;go_wp2_with fail
      go_ret;exact⟨_,rfl,by rw[HE.out];exact HO.out,Va.out⟩
end Go.Proofs.YtokdjfoalkmhiaaGreat.Vec
namespace Go.Proofs.YtokdjfoalkmhiaaGreat
open Go.RowKit
def jeb (r:Int×Vec.V) (w:World) (e:Ending) (w':World):Prop:=∃y,e=.returned (.tuple #[y,.int .i64 r.1])∧Vec.Reads w' y r.2∧Kept w w'
def Y0 (W:World) (q:Nat):Prop:=∀i u,W.cell? ⟨q,i,none⟩=some u→∃a n c,u=.slice a n c
theorem jdo {W:World} {q:Nat} {a1 a2 a3:Option Addr} {m1 c1 m2 c2 m3 c3:Nat} {T:TypeId} {fr:Nat×Nat} (hh:W.heap[q]?=some (.cells #[.slice a1 m1 c1,.slice a2 m2 c2,.slice a3 m3 c3] T fr)):Y0 W q:=by
 intro i u h;rw[Lib.cell_of_heap hh] at h
 match i,h with
 | 0,h=>cases h;exact⟨_,_,_,rfl⟩
 | 1,h=>cases h;exact⟨_,_,_,rfl⟩
 | 2,h=>cases h;exact⟨_,_,_,rfl⟩
 | i+3,h=>simp at h
theorem Y0.noRow {W:World} {q:Nat} (h:Y0 W q):jag W q:=fun o x u h1 _=>by
 obtain⟨_,_,_,e⟩:=h _ _ h1
 cases e
theorem Yr {α:Type} {L:Lay α} {w w':World} {a:Option Addr} {len:Nat} {l:List α} {N:Nat} (hL:∀x,∃u,(L.cs x)[0]?=some u∧∀a n c,u≠.slice a n c) (h:ji L w a len l) (hs:w'.heap.size=w.heap.size) (hb:∀b,b≠N→w'.heap[b]?=w.heap[b]?) (hn:Y0 w N):ji L w' a len l:=by
 obtain⟨h3,h4,h5,h6⟩:=h;refine⟨h3,h4,h5,?_⟩;rcases h6 with h6 | ⟨b,off,rfl,hlt,hc⟩
 · exact .inl h6
 · cases l with
   | nil=>exact .inl h3.symm
   | cons x t =>
    have hne:b≠N:=by
     rintro rfl;obtain⟨u,g0,g1⟩:=hL x;obtain⟨_,_,_,e⟩:=hn _ _ (hc 0 x 0 _ rfl g0);exact g1 _ _ _ e
    exact .inr ⟨b,off,rfl,by rw[hs];exact hlt,fun i x j u hi hj=>(World.cell?_of_block (a:=⟨b,off+i*L.m+j,none⟩) (hb b hne)).trans (hc i x j u hi hj)⟩
theorem J9 {α:Type} {L:Lay α} {w w':World} {v:Value} {l:List α} {N:Nat} (hL:∀x,∃u,(L.cs x)[0]?=some u∧∀a n c,u≠.slice a n c) (h:Reads L w v l) (hs:w'.heap.size=w.heap.size) (hb:∀b,b≠N→w'.heap[b]?=w.heap[b]?) (hn:Y0 w N):Reads L w' v l:=by
 obtain⟨a,cap,rfl,h1,h2,h3⟩:=h;exact⟨a,cap,rfl,h1,h2,Yr hL h3 hs hb hn⟩
theorem jgk (x:ByteArray×ByteArray):∃u,(jO.cs x)[0]?=some u∧∀a n c,u≠.slice a n c:=⟨_,rfl,fun _ _ _ e=>by cases e⟩
theorem jf9 (x:NT):∃u,(jM.cs x)[0]?=some u∧∀a n c,u≠.slice a n c:=⟨_,rfl,fun _ _ _ e=>by cases e⟩
theorem jeJ (x:Int×ByteArray×ByteArray):∃u,(zz.cs x)[0]?=some u∧∀a n c,u≠.slice a n c:=⟨_,rfl,fun _ _ _ e=>by cases e⟩
theorem jgr (x:NX):∃u,(jA.cs x)[0]?=some u∧∀a n c,u≠.slice a n c:=⟨_,rfl,fun _ _ _ e=>by cases e⟩
theorem jfz (x:PX):∃u,(jl.cs x)[0]?=some u∧∀a n c,u≠.slice a n c:=⟨_,rfl,fun _ _ _ e=>by cases e⟩
theorem jgp (x:BX):∃u,(zb.cs x)[0]?=some u∧∀a n c,u≠.slice a n c:=⟨_,rfl,fun _ _ _ e=>by cases e⟩
theorem jd5 {w:World} {a:Option Addr} {len:Nat} {lx:List BX} (h:ji zb w a len lx) (hf:∀z ∈ lx,At1 w z):zC w a len (lx.map fun z=>z.1):=by
 obtain⟨g0,g1,g2,g3⟩:=h;refine⟨by rw[List.length_map];exact g0,g1,g3.imp id ?_⟩;rintro ⟨b,off,rfl,hb,hc⟩;refine⟨b,off,rfl,hb,fun i n hi=>?_⟩;rw[List.getElem?_map] at hi;obtain⟨z,hz,rfl⟩:=Option.map_eq_some_iff.1 hi;exact⟨_,hc i z 0 _ hz rfl,hc i z 1 _ hz rfl,hc i z 2 _ hz rfl,hf z (List.mem_of_getElem? hz)⟩
section
variable {w w':World} {N:Nat} (hs:w'.heap.size=w.heap.size) (hb:∀b,b≠N→w'.heap[b]?=w.heap[b]?) (hn:Y0 w N)
include hs hb hn
theorem jbm {v:Value} {l:List Nod} (h:JN w v l):JN w' v l:=by
 obtain⟨a,cap,rfl,h1,h2,h3⟩:=h;obtain⟨lx,hm,hr,hat⟩:=jbK h3;exact⟨a,cap,rfl,h1,h2,by rw[←hm];exact ZG (by rw[hm];exact Yr jgr hr hs hb hn) fun z hz=>jcZ (hat z hz) hs hb hn.noRow⟩
theorem jcv {v:Value} {l:List Pd} (h:Jn w v l):Jn w' v l:=by
 obtain⟨a,cap,rfl,h1,h2,h3⟩:=h;obtain⟨lx,hm,hr,hat⟩:=jbW h3;exact⟨a,cap,rfl,h1,h2,by
  rw[←hm];exact jaj (by rw[hm];exact Yr jfz hr hs hb hn) fun z hz=>by
   have g:=hat z hz;exact⟨g.name,g.owner,g.key,g.node,g.prio,g.most,jak g.need hs hb hn.noRow,J9 jgk g.labels hs hb hn,J9 jeJ g.sel hs hb hn,J9 jf9 g.tols hs hb hn⟩⟩
theorem jcz {v:Value} {l:List Bd} (h:Zk w v l):Zk w' v l:=by
 obtain⟨a,cap,rfl,h1,h2,h3⟩:=h;obtain⟨lx,hm,hr,hat⟩:=jbZ h3;exact⟨a,cap,rfl,h1,h2,by
  rw[←hm];exact jd5 (by rw[hm];exact Yr jgp hr hs hb hn) fun z hz=>by
   have g:=hat z hz;exact⟨g.name,g.floor,J9 jeJ g.sel hs hb hn⟩⟩
theorem qK {v:Value} {s:Clu} (h:jJ w v s):jJ w' v s:=by
 obtain⟨v1,v2,v3,e,g⟩:=h;exact⟨v1,v2,v3,e,jbm hs hb hn g.nodes,jcv hs hb hn g.pods,jcz hs hb hn g.buds⟩
end
end Go.Proofs.YtokdjfoalkmhiaaGreat
namespace Go.Proofs.YtokdjfoalkmhiaaGreat
open Go.RowKit
theorem qx {l:List Pd} {x:ByteArray}:J5 l x=none↔∀q ∈ l,q.name≠x:=by
 unfold J5;rw[List.find?_eq_none];exact⟨fun h q hq e=>h q hq (jL.2 e),fun h q hq e=>h q hq (jL.1 e)⟩
theorem ja7 {x:ByteArray}:∀{l:List Pd},(∀q ∈ l,q.name≠x)→jV x l=l
 | [],_=>rfl
 | p::t,h=>by
  have hp:=h p (List.mem_cons_self ..);rw[jV,if_neg (fun e=>hp (jL.1 e)),ja7 fun q hq=>h q (List.mem_cons_of_mem _ hq)]
theorem Xo {x:ByteArray}:∀{l:List Pd} {q:Pd},q ∈ jV x l→q ∈ l
 | p::t,q,h=>by
  rw[jV] at h;split at h
  · exact List.mem_cons_of_mem _ h
  · rcases List.mem_cons.1 h with rfl | h
    · exact List.mem_cons_self ..
    · exact List.mem_cons_of_mem _ (Xo h)
theorem XA {x:ByteArray}:∀{l:List Pd},(jV x l).length+(if (J5 l x).isSome=true then 1 else 0)=l.length
 | []=>rfl
 | p::t=>by
  by_cases e:eqS p.name x=true
  · have hf:J5 (p::t) x=some p:=by unfold J5;exact List.find?_cons_of_pos (p:=fun n:Pd=>eqS n.name x) e
    rw[jV,if_pos e,hf];simp
  · have hf:J5 (p::t) x=J5 t x:=by unfold J5;exact List.find?_cons_of_neg (p:=fun n:Pd=>eqS n.name x) e
    rw[jV,if_neg e,hf];have:=XA (x:=x) (l:=t);simp only[List.length_cons];omega
theorem ins_mem {p:Pd}:∀{l:List Pd} {q:Pd},q ∈ zZ p l→q=p∨q ∈ l
 | [],q,h=>by
  have:=List.mem_singleton.1 (show q ∈ [p] from h);exact .inl this
 | r::t,q,h=>by
  rw[zZ] at h;split at h
  · rcases List.mem_cons.1 h with rfl | h
    · exact .inl rfl
    · exact .inr h
  · rcases List.mem_cons.1 h with rfl | h
    · exact .inr (List.mem_cons_self ..)
    · exact(ins_mem h).imp id (List.mem_cons_of_mem _)
theorem jbP (p:Pd):∀l:List Pd,(zZ p l).length=l.length+1
 | []=>rfl
 | r::t=>by
  rw[zZ];split
  · rfl
  · rw[List.length_cons,jbP p t,List.length_cons]
theorem jdl (s:Clu) (x:ByteArray):(j5 s x).pods.length+(if (J5 s.pods x).isSome=true then 1 else 0)=s.pods.length:=XA
theorem jaJ {s:Clu} {x:ByteArray} (hf:J5 s.pods x=none):j5 s x=s:=by
 unfold j5;rw[ja7 (qx.1 hf)]
def jfS (l:Vec.V):Prop:=Vec.Gd l∧l.length≤8
theorem jfS.nil:jfS []:=⟨Vec.Gd.nil,by decide⟩
structure jaf (s:Clu):Prop where
 nodes:X9 s.nodes=0
 pods:jeS s.pods=0
 places:qv s.nodes s.pods=0
 rooms:ja3 s.pods s.nodes=0
 tot:(jf7 s.nodes []).1=0
def jdQ (l:List Nod):Prop:=l.Pairwise fun x y=>ltS x.name y.name=true
theorem YU:∀{prev:Option ByteArray} {l:List Nod},zK prev l=0→(∀q,prev=some q→∀x ∈ l,ltS q x.name=true)∧jdQ l∧∀n ∈ l,JI n=0
 | _,[],_=>⟨fun q _ x h=>absurd h (by simp),.nil,fun n h=>absurd h (by simp)⟩
 | prev,n::t,h=>by
  by_cases z:JI n=0
  · by_cases y:Vec.j4 prev n.name=true
    · rw[jcC z y] at h;cases h
    · have y:Vec.j4 prev n.name=false:=by simpa using y
      rw[jde z y] at h;obtain⟨h2,h3,h4⟩:=YU h;refine⟨fun q hq x hx=>?_,List.pairwise_cons.2 ⟨fun x hx=>h2 _ rfl x hx,h3⟩,fun m hm=>?_⟩
      · subst hq;have hlt:ltS q n.name=true:=Vec.ql y;rcases List.mem_cons.1 hx with rfl | hx
        · exact hlt
        · exact Vec.YM hlt (h2 _ rfl x hx)
      · rcases List.mem_cons.1 hm with rfl | hm
        · exact z
        · exact h4 m hm
  · rw[jex z] at h;exact absurd h z
theorem YN:∀{l:List Nod} {p:Nod},jdQ l→p ∈ l→jk l p.name=some p
 | [],_,_,h=>by cases h
 | x::t,p,h,hp=>by
  unfold jk;rcases List.mem_cons.1 hp with hp | hp
  · subst hp;exact List.find?_cons_of_pos (p:=fun n:Nod=>eqS n.name p.name) (JD _)
  · have hlt:=(List.pairwise_cons.1 h).1 p hp;exact(List.find?_cons_of_neg (p:=fun n:Nod=>eqS n.name p.name) (fun e=>Vec.YX hlt (jL.1 e))).trans (YN (List.pairwise_cons.1 h).2 hp)
theorem jaf.jk {s:Clu} (h:jaf s) {n:Nod} (hn:n ∈ s.nodes):jk s.nodes n.name=some n:=by
 have ho:=h.nodes;unfold X9 at ho;split at ho
 · cases ho
 · exact YN (YU ho).2.1 hn
theorem jaf.cap0 {s:Clu} (h:jaf s) {n:Nod} (hn:n ∈ s.nodes):Vec.jB n.cap=0:=by
 have ho:=h.nodes;unfold X9 at ho;split at ho
 · cases ho
 · have hc:=(YU ho).2.2 n hn;unfold JI at hc;split at hc
   · cases hc
   · split at hc
     · rename_i g;exact absurd hc g
     · rename_i g;exact Decidable.of_not_not g
abbrev enC:ByteArray:=⟨#[99,112,117]⟩
abbrev jw (i:Nat):ByteArray:=⟨#[110,(97+i).toUInt8]⟩
abbrev Js (i:Nat):ByteArray:=⟨#[112,(97+i).toUInt8]⟩
abbrev ZX:ByteArray:=⟨#[122]⟩
def enN (i:Nat):Nod:=Ji (jw i) 1000
def zw (l:List Nat) (i:Nat):List Pd:=if l.getD i 0=0 then [] else [jQ (Js i) (l.getD i 0:Nat) (jw i)]
def JX (l:List Nat):Nat→List Pd
 | 0=>[]
 | n+1=>JX l n++zw l n
def enS (l:List Nat) (n:Nat):Clu:=⟨(List.range n).map enN,JX l n,[]⟩
def enZ:Pd:=jQ ZX 1 ⟨#[]⟩
def enU (t:Nat):Vec.V:=if t=0 then [] else [(enC,(t:Int))]
theorem jeK:∀i,i<20→∀j,j<20→eqS (jw i) (jw j)=decide (i=j):=by decide +kernel
theorem jgn:∀i,i<20→∀j,j<20→ltS (jw i) (jw j)=decide (i<j):=by decide +kernel
theorem jeH:∀i,i<20→eqS (Js i) ZX=false:=by decide +kernel
theorem jgg:∀i,i<20→ltS ZX (Js i)=false:=by decide +kernel
theorem jgc:∀i,i<20→Ju (jw i)=false:=by decide +kernel
theorem qa:∀x,x<256→Vec.jf Vec.jE [] (enU x)=(0,enU x):=by decide +kernel
theorem jfK:∀x,x<256→Vec.jf Vec.jE (enU x) (enU 1)=(0,enU (x+1)):=by decide +kernel
theorem jfv:∀x,x<256→Vec.jf Vec.jS [(enC,1000)] (enU x)=(0,[(enC,1000-(x:Int))]):=by decide +kernel
theorem jfp:∀x:Nat,x<256→Vec.jR [(enC,1000-(x:Int))] (enU 1)=true:=by decide +kernel
theorem jfP (t:Nat):Vec.jK (enU t) enC=(t:Int):=by
 unfold enU;split
 · rename_i h;subst h;rfl
 · exact Vec.Yl _ _
structure EnL (l:List Nat):Prop where
 few:l.length≤20
 byte:∀x ∈ l,x<256
theorem EnL.at_ {l:List Nat} (h:EnL l) (i:Nat):l.getD i 0<256:=by
 by_cases hi:i<l.length
 · rw[show l.getD i 0=l[i] by simp[List.getD,hi]];exact h.byte _ (List.getElem_mem hi)
 · rw[show l.getD i 0=0 by simp[List.getD,Nat.not_lt.1 hi]];decide
theorem jgv {l:List Nat} {i:Nat} {p:Pd} (h:p ∈ zw l i):p=jQ (Js i) (l.getD i 0:Nat) (jw i)∧l.getD i 0≠0:=by
 unfold zw at h;split at h
 · cases h
 · rename_i g;exact⟨List.mem_singleton.1 h,g⟩
theorem jax {l:List Nat} {p:Pd}:∀{n:Nat},p ∈ JX l n→∃i,i<n∧p=jQ (Js i) (l.getD i 0:Nat) (jw i)
 | 0,h=>by cases h
 | n+1,h=>by
  rcases List.mem_append.1 h with h | h
  · obtain⟨i,hi,e⟩:=jax h;exact⟨i,by omega,e⟩
  · exact⟨n,by omega,(jgv h).1⟩
theorem X3 (l:List Nat):∀n,(JX l n).length≤n
 | 0=>Nat.le_refl _
 | n+1=>by
  have h:(zw l n).length≤1:=by unfold zw;split<;>simp
  have:=X3 l n;show (JX l n++zw l n).length≤n+1;rw[List.length_append];omega
theorem X4 {l:List Nat} {i:Nat} (hi:i<20):∀{n:Nat},n≤20→(JX l n).filter (fun p=>eqS p.node (jw i))=if i<n then zw l i else []
 | 0,_=>by rw[if_neg (by omega)];rfl
 | n+1,hn=>by
  show (JX l n++zw l n).filter _=_;rw[List.filter_append,X4 hi (by omega)];have h1:(zw l n).filter (fun p=>eqS p.node (jw i))=if n=i then zw l n else []:=by
   unfold zw;split
   · split<;>rfl
   · rw[List.filter_cons];have e:=jeK n (by omega) i hi;show (if eqS (jw n) (jw i)=true then _ else _)=_;rw[e];by_cases g:n=i
     · rw[if_pos (decide_eq_true g),if_pos g];rfl
     · rw[if_neg (by simpa using g),if_neg g];rfl
  rw[h1];by_cases g:i<n
  · rw[if_pos g,if_neg (by omega),if_pos (by omega),List.append_nil]
  · rw[if_neg g,List.nil_append];by_cases g2:n=i
    · subst g2;rw[if_pos rfl,if_pos (by omega)]
    · rw[if_neg g2,if_neg (by omega)]
theorem YK (x:ByteArray):∀(l:List Pd) (v:Vec.V),ju x l v=ju x (l.filter fun p=>eqS p.node x) v
 | [],v=>rfl
 | p::t,v=>by
  cases h:eqS p.node x with
  | false=>rw[qk h,List.filter_cons,if_neg (by rw[h];decide)];exact YK x t v
  | true =>
   have e:∀l,ju x (p::l) v=if (Vec.jf Vec.jE v p.need).1=0 then ju x l (Vec.jf Vec.jE v p.need).2 else ((Vec.jf Vec.jE v p.need).1,[]):=fun l=>by rw[ju,if_pos h]
   rw[List.filter_cons,if_pos h,e,e];split
   · exact YK x t _
   · rfl
theorem jeX {l:List Nat} (h:EnL l) (i:Nat):ju (jw i) (zw l i) []=(0,enU (l.getD i 0)):=by
 have hb:=h.at_ i;unfold zw;split
 · rename_i e;rw[e];rfl
 · rename_i e;rw[Yw (p:=jQ (Js i) (l.getD i 0:Nat) (jw i)) (m:=enU (l.getD i 0)) (show eqS (jw i) (jw i)=true from JD _) (by rw[show (jQ (Js i) (l.getD i 0:Nat) (jw i)).need=enU (l.getD i 0) by unfold enU;rw[if_neg e];rfl];exact qa _ hb)];rfl
theorem jf3 {l:List Nat} (h:EnL l) {n i:Nat} (hn:n≤20) (hi:i<n):ju (jw i) (JX l n) []=(0,enU (l.getD i 0)):=by
 rw[YK,X4 (by omega) hn,if_pos hi];exact jeX h i
theorem jfG {n:Nat} (hn:n≤20):jdQ ((List.range n).map enN):=by
 show List.Pairwise _ _;rw[List.pairwise_map];refine(List.pairwise_lt_range (n:=n)).imp_of_mem fun {a b} ha hb h=>?_;have ha:=List.mem_range.1 ha;have hb:=List.mem_range.1 hb;show ltS (jw a) (jw b)=true;rw[jgn a (by omega) b (by omega)];exact decide_eq_true h
theorem X6 (l:List Nat) {n i:Nat} (hn:n≤20) (hi:i<n):jk (enS l n).nodes (jw i)=some (enN i) :=
 YN (p:=enN i) (jfG hn) (List.mem_map.2 ⟨i,List.mem_range.2 hi,rfl⟩)
theorem jff (l:List Nat) {n:Nat} (hn:n≤20):j5 (enS l n) enZ.name=enS l n:=by
 refine jaJ (qx.2 fun q hq e=>?_);obtain⟨i,hi,rfl⟩:=jax hq;have h9:eqS (Js i) ZX=true:=jL.2 e;rw[jeH i (by omega)] at h9
 cases h9
theorem jfE {l:List Nat} (h:EnL l) {n i:Nat} (hn:n≤20) (hi:i<n):Zv (enS l n) enZ (jw i)=0:=by
 have hf:=X6 l hn hi;have hu:ju (enN i).name (enS l n).pods []=(0,enU (l.getD i 0)):=jf3 h hn hi;have hfr:ZA (enS l n) (jw i)=(0,[(enC,1000-((l.getD i 0:Nat):Int))]):=by
  unfold ZA;rw[hf];dsimp only;rw[hu];exact(if_pos rfl).trans (jfv _ (h.at_ i))
 unfold Zv;rw[jff l hn,Xa hf];refine XF rfl rfl ?_ ?_
 · unfold Jk;exact if_pos (by decide +kernel)
 · unfold ZO;rw[hfr];exact jfp _ (h.at_ i)
theorem jaR {l:List Nat} (h:EnL l) {n:Nat} (hn:n≤20):zy (enS l n) enZ (enS l n).nodes=(List.range n).map jw:=by
 unfold zy;have e:((enS l n).nodes).filter (fun m=>decide (Zv (enS l n) enZ m.name=0))=(enS l n).nodes:=by
  rw[List.filter_eq_self];intro m hm;obtain⟨i,hi,rfl⟩:=List.mem_map.1 (show m ∈ (List.range n).map enN from hm);exact decide_eq_true (jfE h hn (List.mem_range.1 hi))
 rw[e];show ((List.range n).map enN).map _=_;rw[List.map_map];rfl
def enF (t:Nat):Option Nat:=Yb [Xu (t:Int) 1000]
theorem jgd:∀t,t<256→zD (enF t)<zD (enF (t+1)):=by decide +kernel
theorem jbO {s t:Nat} (h:s<t) (ht:t<257):zD (enF s)<zD (enF t):=by
 induction t with
 | zero=>omega
 | succ t ih =>
  have h1:=jgd t (by omega);by_cases e:s=t
  · subst e;exact h1
  · exact Int.lt_trans (ih (by omega) (by omega)) h1
theorem jeP {T:Clu} {N:ByteArray} {t:Nat} (hf:jk T.nodes N=some (Ji N 1000)) (hu:ju N T.pods []=(0,enU t)):Yu T N=enF t:=by
 unfold Yu jU zB jU Zq;rw[hf];show Yb [Xu (Vec.jK (ju N T.pods []).2 enC) (Vec.jK [(enC,1000)] enC)]=_;rw[hu];show Yb [Xu (Vec.jK (enU t) enC) _]=_;rw[jfP,show Vec.jK [(enC,(1000:Int))] enC=1000 from Vec.Yl _ _];rfl
theorem jgl {l:List Nat} {n i:Nat} (hn:n≤20) (hi:i<n):zP (enS l n) (jw i)=⟨[enN i],zw l i,[]⟩:=by
 unfold zP jU;rw[X6 l hn hi];show (⟨[enN i],onP (jw i) (JX l n),[]⟩:Clu)=_;unfold onP;rw[if_neg (by rw[jgc i (by omega)];decide),X4 (by omega) hn,if_pos hi]
theorem jfC (l:List Nat) {i:Nat} (hi:i<20):Yt ⟨[enN i],zw l i,[]⟩ { enZ with node:=jw i }=⟨[enN i],zw l i++[{ enZ with node:=jw i }],[]⟩:=by
 unfold Yt;show (⟨[enN i],zZ _ (jV ZX (zw l i)),[]⟩:Clu)=_;unfold zw;split
 · rfl
 · rw[jV,if_neg (by show ¬eqS (Js i) ZX=true;rw[jeH i hi];decide)];show (⟨[enN i],zZ _ [jQ (Js i) (l.getD i 0:Nat) (jw i)],[]⟩:Clu)=_;rw[zZ,if_neg (by show ¬ltS ZX (Js i)=true;rw[jgg i hi];decide)];rfl
theorem jbg {l:List Nat} (h:EnL l) {n i:Nat} (hn:n≤20) (hi:i<n):zl (enS l n) enZ (jw i)=enF (l.getD i 0+1):=by
 unfold zl;rw[jgl hn hi,jfC l (by omega)];refine jeP ?_ ?_
 · show jk [enN i] (jw i)=_;unfold jk;exact List.find?_cons_of_pos (p:=fun m:Nod=>eqS m.name (jw i)) (JD _)
 · have hz:∀v m,Vec.jf Vec.jE v (enU 1)=(0,m)→ju (jw i) [jQ ZX 1 (jw i)] v=(0,m):=fun v m g=>by
    rw[Yw (p:=jQ ZX 1 (jw i)) (m:=m) (show eqS (jw i) (jw i)=true from JD _) g];rfl
   show ju (jw i) (zw l i++[jQ ZX 1 (jw i)]) []=_;have hb:=h.at_ i;unfold zw;split
   · rename_i e;rw[e,Nat.zero_add];exact hz [] _ (qa 1 (by decide))
   · rename_i e;rw[List.singleton_append,Yw (p:=jQ (Js i) (l.getD i 0:Nat) (jw i)) (m:=enU (l.getD i 0)) (show eqS (jw i) (jw i)=true from JD _) (by rw[show (jQ (Js i) (l.getD i 0:Nat) (jw i)).need=enU (l.getD i 0) by unfold enU;rw[if_neg e];rfl];exact qa _ hb)];exact hz _ _ (jfK _ hb)
theorem YZ (l:List Nat) {n i:Nat} (hn:n≤20) (hi:i<n):ZT (enS l n) enZ (jw i)=0:=by
 unfold ZT jU;rw[X6 l hn hi];rfl
def EnD (l:List Nat) (n:Nat):Prop:=∀i j,i<j→j<n→l.getD i 0≠l.getD j 0
theorem jdU {n:Nat} (hn:n≤20):((List.range n).map jw).Nodup:=by
 show List.Pairwise _ _;rw[List.pairwise_map];refine(List.pairwise_lt_range (n:=n)).imp_of_mem fun {a b} ha hb h e=>?_;have ha:=List.mem_range.1 ha;have hb:=List.mem_range.1 hb;have h9:eqS (jw a) (jw b)=true:=jL.2 e;rw[jeK a (by omega) b (by omega)] at h9;have:=of_decide_eq_true h9;omega
theorem jbI (o:Option Nat):kO false o=zD o:=if_neg (by decide)
theorem jaX (o:Option Nat):kO true o=-zD o:=if_pos rfl
theorem jfB {l:List Nat} (h:EnL l) {n:Nat} (hn:n≤20) (hd:EnD l n) {a:List ByteArray} (ha:JP (enS l n) enZ false a) :
 a.length=n∧JP (enS l n) enZ true a.reverse∧a.Pairwise fun x y=>zD (zl (enS l n) enZ x)<zD (zl (enS l n) enZ y):=by
 obtain⟨hp,hw⟩:=ha;rw[jaR h hn] at hp;have hl:a.length=n:=by rw[hp.length_eq,List.length_map,List.length_range]
 have hnd:a.Nodup:=hp.nodup_iff.2 (jdU hn);have hm:∀x ∈ a,∃i,i<n∧x=jw i:=fun x hx=>by
  obtain⟨i,hi,e⟩:=List.mem_map.1 (hp.mem_iff.1 hx);exact⟨i,List.mem_range.1 hi,e.symm⟩
 have hr:a.Pairwise fun x y=>zD (zl (enS l n) enZ x)<zD (zl (enS l n) enZ y):=by
  refine(hw.and hnd).imp_of_mem fun {x y} hx hy g=>?_;obtain⟨i,hi,rfl⟩:=hm x hx;obtain⟨j,hj,rfl⟩:=hm y hy;obtain⟨g1,g2⟩:=g;unfold Jg at g1;rw[YZ l hn hi,YZ l hn hj,JQ,jbI,jbI] at g1;have hij:i≠j:=fun e=>g2 (by rw[e]);rw[jbg h hn hi,jbg h hn hj] at g1 ⊢;have hne:l.getD i 0≠l.getD j 0:=by
   rcases Nat.lt_or_gt_of_ne hij with e | e
   · exact hd i j e hj
   · exact(hd j i e hi).symm
  have b1:=h.at_ i;have b2:=h.at_ j;rcases Nat.lt_or_gt_of_ne hne with e | e
  · exact jbO (by omega) (by omega)
  · have:=jbO (s:=l.getD j 0+1) (t:=l.getD i 0+1) (by omega) (by omega);exact absurd (.inr ⟨rfl,.inl this⟩) g1
 refine⟨hl,⟨by rw[jaR h hn];exact(List.reverse_perm a).trans hp,?_⟩,hr⟩;rw[List.pairwise_reverse];refine hr.imp_of_mem fun {x y} hx hy g=>?_;obtain⟨i,hi,rfl⟩:=hm x hx;obtain⟨j,hj,rfl⟩:=hm y hy;unfold Jg;rw[YZ l hn hi,YZ l hn hj,JQ,jaX,jaX];rintro (e | ⟨-,e | ⟨e,-⟩⟩)<;>omega
theorem jfY (l:List Nat) {n:Nat} (hn:n≤20) (h:EnL l):jv (enS l n):=⟨fun m hm=>by
 obtain⟨i,-,rfl⟩:=List.mem_map.1 (show m ∈ (List.range n).map enN from hm);exact⟨(by decide:(1:Nat)≤1000000),(by decide:(0:Nat)≤1000000),(by decide:(0:Nat)≤1000000)⟩,
 fun m hm=>by
  obtain⟨i,-,rfl⟩:=jax hm;exact⟨(by decide:(1:Nat)≤1000000),(by decide:(0:Nat)≤1000000),(by decide:(0:Nat)≤1000000),(by decide:(0:Nat)≤1000000)⟩,(fun n h=>by cases h),(by
   show ((List.range n).map enN).length≤100000;rw[List.length_map,List.length_range];omega),(by
   have:=X3 l n;show (JX l n).length≤100000;omega),(by decide:(0:Nat)≤100000)⟩
theorem qi:zM enZ:=⟨(by decide:(1:Nat)≤1000000),(by decide:(0:Nat)≤1000000),(by decide:(0:Nat)≤1000000),(by decide:(0:Nat)≤1000000)⟩
theorem jgx {x y:Nat} {o p:Option Nat} (h1:nrm x=o) (h2:nrm y=p) (h:zD o<zD p):cp x y=-1:=by
 unfold cp;rw[Y7 x,Y7 y,h1,h2,if_pos h]
def Tri (S:Nat→Prop) (v1 v2 v3:Value) (b:Nat):Prop:=S b∨v1.ownBlock=some b∨v2.ownBlock=some b∨v3.ownBlock=some b
structure jG (S:Nat→Prop) (B:Nat) (w:World) (v1 v2 v3:Value) (s:Clu):Prop where
 n:∃lx:List NX,(lx.map fun z=>z.1)=s.nodes∧Own jA 57 w B v1 lx∧∀z ∈ lx,Off (Tri S v1 v2 v3) w fun u=>At3 u z
 p:∃lx:List PX,(lx.map fun z=>z.1)=s.pods∧Own jl 44 w B v2 lx∧∀z ∈ lx,Off (Tri S v1 v2 v3) w fun u=>At4 u z
 b:∃lx:List BX,(lx.map fun z=>z.1)=s.buds∧Own zb 92 w B v3 lx∧∀z ∈ lx,Off (Tri S v1 v2 v3) w fun u=>At1 u z
 sep:∀k,(v1.ownBlock=some k∨v2.ownBlock=some k∨v3.ownBlock=some k)→¬S k
 d12:∀k,v1.ownBlock=some k→v2.ownBlock≠some k
 d13:∀k,v1.ownBlock=some k→v3.ownBlock≠some k
 d23:∀k,v2.ownBlock=some k→v3.ownBlock≠some k
theorem jG.toR {S:Nat→Prop} {B:Nat} {w:World} {v1 v2 v3:Value} {s:Clu} (h:jG S B w v1 v2 v3 s):jJ w (.agg #[v1,v2,v3]) s:=by
 obtain⟨l1,e1,o1,d1⟩:=h.n;obtain⟨l2,e2,o2,d2⟩:=h.p;obtain⟨l3,e3,o3,d3⟩:=h.b;exact⟨v1,v2,v3,rfl,by rw[←e1];exact qm o1 fun z hz=>(d1 z hz).here,by rw[←e2];exact Xk o2 fun z hz=>(d2 z hz).here,by rw[←e3];exact jaq o3 fun z hz=>(d3 z hz).here⟩
theorem jG.lt {S:Nat→Prop} {B:Nat} {w:World} {v1 v2 v3:Value} {s:Clu} (h:jG S B w v1 v2 v3 s) {g:Nat} (hg:v1.ownBlock=some g∨v2.ownBlock=some g∨v3.ownBlock=some g):B≤g∧g<w.heap.size:=by
 obtain⟨l1,e1,o1,d1⟩:=h.n;obtain⟨l2,e2,o2,d2⟩:=h.p;obtain⟨l3,e3,o3,d3⟩:=h.b;rcases hg with hg | hg | hg
 · exact zo o1 g hg
 · exact zo o2 g hg
 · exact zo o3 g hg
theorem jG.step {S:Nat→Prop} {B:Nat} {w w':World} {v1 v2 v3:Value} {s:Clu} (h:jG S B w v1 v2 v3 s) (g:jd S w w'):jG S B w' v1 v2 v3 s:=by
 obtain⟨l1,e1,o1,d1⟩:=h.n;obtain⟨l2,e2,o2,d2⟩:=h.p;obtain⟨l3,e3,o3,d3⟩:=h.b;have g':jd (Tri S v1 v2 v3) w w':=g.mono fun b e=>.inl e;exact⟨⟨l1,e1,o1.goff g fun k e=>h.sep k (.inl e),fun z hz=>(d1 z hz).step g'⟩,⟨l2,e2,o2.goff g fun k e=>h.sep k (.inr (.inl e)),fun z hz=>(d2 z hz).step g'⟩,⟨l3,e3,o3.goff g fun k e=>h.sep k (.inr (.inr e)),fun z hz=>(d3 z hz).step g'⟩,h.sep,h.d12,h.d13,h.d23⟩
theorem jG.kept {S:Nat→Prop} {B:Nat} {w w':World} {v1 v2 v3:Value} {s:Clu} (h:jG S B w v1 v2 v3 s) (k:Kept w w'):jG S B w' v1 v2 v3 s:=h.step (jd.of k)
theorem jG.none (S:Nat→Prop) (B:Nat) (w:World):jG S B w (.slice none 0 0) (.slice none 0 0) (.slice none 0 0) ⟨[],[],[]⟩ :=
 ⟨⟨[],rfl,Own.nil _ _ _,fun z hz=>by cases hz⟩,⟨[],rfl,Own.nil _ _ _,fun z hz=>by cases hz⟩,⟨[],rfl,Own.nil _ _ _,fun z hz=>by cases hz⟩,(fun k e=>by rcases e with e | e | e<;>cases e),(fun k e=>by cases e),(fun k e=>by cases e),(fun k e=>by cases e)⟩
theorem jG.elsN {S:Nat→Prop} {w w':World} {v1 v2 v3 v':Value} {Φ:World→Prop} (h:Off (Tri S v1 v2 v3) w Φ) (g:jd (fun b=>v1.ownBlock=some b) w w') (hn:∀k,v'.ownBlock=some k→v1.ownBlock=some k∨w.heap.size≤k):Off (Tri S v' v2 v3) w' Φ :=
 h.new (g.mono fun b e=>.inr (.inl e)) fun b e=>by
  rcases e with e | e | e | e
  · exact .inl (.inl e)
  · rcases hn b e with e | e
    · exact .inl (.inr (.inl e))
    · exact .inr e
  · exact .inl (.inr (.inr (.inl e)))
  · exact .inl (.inr (.inr (.inr e)))
theorem jG.turnN {S:Nat→Prop} {B:Nat} {w w':World} {v1 v2 v3 v':Value} {s:Clu} {l:List Nod} (h:jG S B w v1 v2 v3 s) (g:jd (fun b=>v1.ownBlock=some b) w w') (hn:∀k,v'.ownBlock=some k→v1.ownBlock=some k∨w.heap.size≤k) (hS:∀k,S k→k<w.heap.size)
 (hp:∃lx:List NX,(lx.map fun z=>z.1)=l∧Own jA 57 w' B v' lx∧∀z ∈ lx,Off (Tri S v' v2 v3) w' fun u=>At3 u z):jG S B w' v' v2 v3 { s with nodes:=l }:=by
 obtain⟨lp,ep,op,dp⟩:=h.p;obtain⟨lb,eb,ob,db⟩:=h.b;have hs:∀k,v'.ownBlock=some k→¬S k:=fun k e he=>by
  rcases hn k e with e | e
  · exact h.sep k (.inl e) he
  · have:=hS k he;omega
 have hd12:∀k,v'.ownBlock=some k→v2.ownBlock≠some k:=fun k e e2=>by
  rcases hn k e with q | q
  · exact h.d12 k q e2
  · have:=(h.lt (g:=k) (.inr (.inl e2))).2;omega
 have hd13:∀k,v'.ownBlock=some k→v3.ownBlock≠some k:=fun k e e2=>by
  rcases hn k e with q | q
  · exact h.d13 k q e2
  · have:=(h.lt (g:=k) (.inr (.inr e2))).2;omega
 exact⟨hp,⟨lp,ep,op.goff g (fun k e e2=>h.d12 k e2 e),fun z hz=>jG.elsN (dp z hz) g hn⟩,⟨lb,eb,ob.goff g (fun k e e2=>h.d13 k e2 e),fun z hz=>jG.elsN (db z hz) g hn⟩,fun k e=>by
  rcases e with e | e | e
  · exact hs k e
  · exact h.sep k (.inr (.inl e))
  · exact h.sep k (.inr (.inr e)),hd12,hd13,h.d23⟩
theorem jG.elsP {S:Nat→Prop} {w w':World} {v1 v2 v3 v':Value} {Φ:World→Prop} (h:Off (Tri S v1 v2 v3) w Φ) (g:jd (fun b=>v2.ownBlock=some b) w w') (hn:∀k,v'.ownBlock=some k→v2.ownBlock=some k∨w.heap.size≤k):Off (Tri S v1 v' v3) w' Φ :=
 h.new (g.mono fun b e=>.inr (.inr (.inl e))) fun b e=>by
  rcases e with e | e | e | e
  · exact .inl (.inl e)
  · exact .inl (.inr (.inl e))
  · rcases hn b e with e | e
    · exact .inl (.inr (.inr (.inl e)))
    · exact .inr e
  · exact .inl (.inr (.inr (.inr e)))
theorem jG.turnP {S:Nat→Prop} {B:Nat} {w w':World} {v1 v2 v3 v':Value} {s:Clu} {l:List Pd} (h:jG S B w v1 v2 v3 s) (g:jd (fun b=>v2.ownBlock=some b) w w') (hn:∀k,v'.ownBlock=some k→v2.ownBlock=some k∨w.heap.size≤k) (hS:∀k,S k→k<w.heap.size)
 (hp:∃lx:List PX,(lx.map fun z=>z.1)=l∧Own jl 44 w' B v' lx∧∀z ∈ lx,Off (Tri S v1 v' v3) w' fun u=>At4 u z):jG S B w' v1 v' v3 { s with pods:=l }:=by
 obtain⟨ln,en,on,dn⟩:=h.n;obtain⟨lb,eb,ob,db⟩:=h.b;have hs:∀k,v'.ownBlock=some k→¬S k:=fun k e he=>by
  rcases hn k e with e | e
  · exact h.sep k (.inr (.inl e)) he
  · have:=hS k he;omega
 have hd12:∀k,v1.ownBlock=some k→v'.ownBlock≠some k:=fun k e e2=>by
  rcases hn k e2 with q | q
  · exact h.d12 k e q
  · have:=(h.lt (g:=k) (.inl e)).2;omega
 have hd23:∀k,v'.ownBlock=some k→v3.ownBlock≠some k:=fun k e e2=>by
  rcases hn k e with q | q
  · exact h.d23 k q e2
  · have:=(h.lt (g:=k) (.inr (.inr e2))).2;omega
 exact⟨⟨ln,en,on.goff g (fun k e e2=>h.d12 k e e2),fun z hz=>jG.elsP (dn z hz) g hn⟩,hp,⟨lb,eb,ob.goff g (fun k e e2=>h.d23 k e2 e),fun z hz=>jG.elsP (db z hz) g hn⟩,fun k e=>by
  rcases e with e | e | e
  · exact h.sep k (.inl e)
  · exact hs k e
  · exact h.sep k (.inr (.inr e)),hd12,h.d13,hd23⟩
theorem jG.snocN {S:Nat→Prop} {B g cap:Nat} {w w':World} {v1 v2 v3:Value} {s:Clu} {lx:List NX} {z:NX} (h:jG S B w v1 v2 v3 s) (e:(lx.map fun z=>z.1)=s.nodes) (ho:Own jA 57 w B v1 lx) (hd:∀z ∈ lx,Off (Tri S v1 v2 v3) w fun u=>At3 u z) (hz:Off (Tri S v1 v2 v3) w fun u=>At3 u z) (hS:∀k,S k→k<w.heap.size)
 (hown:w'.ownsRow B 57 5 (.slice (some ⟨g,0,Option.none⟩) (lx.length+1) cap) (lx.length+1) (jb jA lx++jA.cs z)) (hg:w.grownBy w' v1.ownBlock) (hat:v1.ownBlock=some g∨g=w.heap.size):jG S B w' (.slice (some ⟨g,0,Option.none⟩) (lx.length+1) cap) v2 v3 { s with nodes:=s.nodes++[z.1] }:=by
 have g':jd (fun b=>v1.ownBlock=some b) w w':=jd.grown hg fun k e=>e;have hn:∀k,(Value.slice (some ⟨g,0,Option.none⟩) (lx.length+1) cap).ownBlock=some k→v1.ownBlock=some k∨w.heap.size≤k:=fun k e=>by
  have e2:g=k:=Option.some.inj e;subst e2;exact hat.imp id fun q=>Nat.le_of_eq q.symm
 exact h.turnN g' hn hS ⟨lx++[z],by rw[List.map_append,e];rfl,Own.snoc hown rfl ho.2 trivial,fun y hy=>by
  rcases List.mem_append.1 hy with hy | hy
  · exact jG.elsN (hd y hy) g' hn
  · obtain rfl:=List.mem_singleton.1 hy;exact jG.elsN hz g' hn⟩
theorem jG.snocP {S:Nat→Prop} {B g cap:Nat} {w w':World} {v1 v2 v3:Value} {s:Clu} {lx:List PX} {z:PX} (h:jG S B w v1 v2 v3 s) (e:(lx.map fun z=>z.1)=s.pods) (ho:Own jl 44 w B v2 lx) (hd:∀z ∈ lx,Off (Tri S v1 v2 v3) w fun u=>At4 u z) (hz:Off (Tri S v1 v2 v3) w fun u=>At4 u z) (hS:∀k,S k→k<w.heap.size)
 (hown:w'.ownsRow B 44 11 (.slice (some ⟨g,0,Option.none⟩) (lx.length+1) cap) (lx.length+1) (jb jl lx++jl.cs z)) (hg:w.grownBy w' v2.ownBlock) (hat:v2.ownBlock=some g∨g=w.heap.size):jG S B w' v1 (.slice (some ⟨g,0,Option.none⟩) (lx.length+1) cap) v3 { s with pods:=s.pods++[z.1] }:=by
 have g':jd (fun b=>v2.ownBlock=some b) w w':=jd.grown hg fun k e=>e;have hn:∀k,(Value.slice (some ⟨g,0,Option.none⟩) (lx.length+1) cap).ownBlock=some k→v2.ownBlock=some k∨w.heap.size≤k:=fun k e=>by
  have e2:g=k:=Option.some.inj e;subst e2;exact hat.imp id fun q=>Nat.le_of_eq q.symm
 exact h.turnP g' hn hS ⟨lx++[z],by rw[List.map_append,e];rfl,Own.snoc hown rfl ho.2 trivial,fun y hy=>by
  rcases List.mem_append.1 hy with hy | hy
  · exact jG.elsP (hd y hy) g' hn
  · obtain rfl:=List.mem_singleton.1 hy;exact jG.elsP hz g' hn⟩
def zu (q:Nat) (s:Clu) (w wr:World):Prop:=∃a1 n1 c1 a2 n2 c2,je q [.slice a1 n1 c1,.slice a2 n2 c2,.slice none 0 0] wr∧jG (fun b=>b=q) (q+1) wr (.slice a1 n1 c1) (.slice a2 n2 c2) (.slice none 0 0) s∧Kept w wr
theorem zu.start {q:Nat} {w wr:World} (hq:je q [.slice none 0 0,.slice none 0 0,.slice none 0 0] wr) (k:Kept w wr):zu q ⟨[],[],[]⟩ w wr:=⟨_,_,_,_,_,_,hq,jG.none _ _ _,k⟩
theorem jG.triLt {q:Nat} {w:World} {v1 v2 v3:Value} {s:Clu} (h:jG (fun b=>b=q) (q+1) w v1 v2 v3 s) (hq:q<w.heap.size):∀k,Tri (fun b=>b=q) v1 v2 v3 k→k<w.heap.size:=fun k e=>by
 rcases e with e | e | e | e
 · subst e;exact hq
 · exact(h.lt (.inl e)).2
 · exact(h.lt (.inr (.inl e))).2
 · exact(h.lt (.inr (.inr e))).2
theorem zu.zE {q g cap n1 c1 n2 c2:Nat} {a1 a2:Option Addr} {w w5 w6:World} {s:Clu} {lx:List NX} {z:NX} (hq:je q [.slice a1 n1 c1,.slice a2 n2 c2,.slice none 0 0] w5) (h:jG (fun b=>b=q) (q+1) w5 (.slice a1 n1 c1) (.slice a2 n2 c2) (.slice none 0 0) s) (k:Kept w w5) (hB:w.heap.size≤q)
 (e:(lx.map fun z=>z.1)=s.nodes) (ho:Own jA 57 w5 (q+1) (.slice a1 n1 c1) lx) (hd:∀z ∈ lx,Off (Tri (fun b=>b=q) (.slice a1 n1 c1) (.slice a2 n2 c2) (.slice none 0 0)) w5 fun u=>At3 u z) (hz:Off (Tri (fun b=>b=q) (.slice a1 n1 c1) (.slice a2 n2 c2) (.slice none 0 0)) w5 fun u=>At3 u z)
 (hown:w6.ownsRow (q+1) 57 5 (.slice (some ⟨g,0,none⟩) (lx.length+1) cap) (lx.length+1) (jb jA lx++jA.cs z)) (hg:w5.grownBy w6 (Value.ownBlock (.slice a1 n1 c1))) (hat:Value.ownBlock (.slice a1 n1 c1)=some g∨g=w5.heap.size) :
 je q [.slice a1 n1 c1,.slice a2 n2 c2,.slice none 0 0] w6∧zu q { s with nodes:=s.nodes++[z.1] } w (w6.setCell ⟨q,0,none⟩ (.slice (some ⟨g,0,none⟩) (lx.length+1) cap)):=by
 have h6:=h.snocN e ho hd hz (fun k e=>by subst e;exact hq.lt) hown hg hat;have g6:jd (fun b=>Value.ownBlock (.slice a1 n1 c1)=some b) w5 w6:=jd.grown hg fun k e=>e;have hq6:=hq.block (g6.block q hq.lt fun e=>by have:=(zo ho q e).1;omega);have k6:Kept w w6:=jd.below k g6 fun i e=>by have:=(zo ho i e).1;omega
 exact⟨hq6,_,_,_,_,_,_,hq6.set (j:=0) (by simp),h6.step (jd.cell (S:=fun b=>b=q) q 0 _ rfl),jX k6 hB _⟩
theorem zu.putP {q g cap n1 c1 n2 c2:Nat} {a1 a2:Option Addr} {w w5 w6:World} {s:Clu} {lx:List PX} {z:PX} (hq:je q [.slice a1 n1 c1,.slice a2 n2 c2,.slice none 0 0] w5) (h:jG (fun b=>b=q) (q+1) w5 (.slice a1 n1 c1) (.slice a2 n2 c2) (.slice none 0 0) s) (k:Kept w w5) (hB:w.heap.size≤q)
 (e:(lx.map fun z=>z.1)=s.pods) (ho:Own jl 44 w5 (q+1) (.slice a2 n2 c2) lx) (hd:∀z ∈ lx,Off (Tri (fun b=>b=q) (.slice a1 n1 c1) (.slice a2 n2 c2) (.slice none 0 0)) w5 fun u=>At4 u z) (hz:Off (Tri (fun b=>b=q) (.slice a1 n1 c1) (.slice a2 n2 c2) (.slice none 0 0)) w5 fun u=>At4 u z)
 (hown:w6.ownsRow (q+1) 44 11 (.slice (some ⟨g,0,none⟩) (lx.length+1) cap) (lx.length+1) (jb jl lx++jl.cs z)) (hg:w5.grownBy w6 (Value.ownBlock (.slice a2 n2 c2))) (hat:Value.ownBlock (.slice a2 n2 c2)=some g∨g=w5.heap.size) :
 je q [.slice a1 n1 c1,.slice a2 n2 c2,.slice none 0 0] w6∧zu q { s with pods:=s.pods++[z.1] } w (w6.setCell ⟨q,1,none⟩ (.slice (some ⟨g,0,none⟩) (lx.length+1) cap)):=by
 have h6:=h.snocP e ho hd hz (fun k e=>by subst e;exact hq.lt) hown hg hat;have g6:jd (fun b=>Value.ownBlock (.slice a2 n2 c2)=some b) w5 w6:=jd.grown hg fun k e=>e;have hq6:=hq.block (g6.block q hq.lt fun e=>by have:=(zo ho q e).1;omega);have k6:Kept w w6:=jd.below k g6 fun i e=>by have:=(zo ho i e).1;omega
 exact⟨hq6,_,_,_,_,_,_,hq6.set (j:=1) (by simp),h6.step (jd.cell (S:=fun b=>b=q) q 1 _ rfl),jX k6 hB _⟩
def jgJ (o:Option Nod) (w:World) (e:Ending) (w':World):Prop:=(∀n,o=some n→∃b1 k1 d1 b2 k2 d2 b3 k3 d3,e=.returned (zS n (.slice b1 k1 d1) (.slice b2 k2 d2) (.slice b3 k3 d3))∧jT w' (.slice b1 k1 d1) (.slice b2 k2 d2) (.slice b3 k3 d3) n)∧(o=none→e=.panicked [jN 3])∧Kept w w'
theorem ZI (c:Int) (w:World):Calls Tryz.prog 137 #[.bool false,.int .i64 c] w fun e w'=>e=.returned (.tuple #[])∧w=w':=by
 go_enter Tryz.func137,Tryz.ntmps137;go_wp2;refine⟨rfl,.tuple #[],by simp[results,Tryz.results137,go_sem],?_⟩;exact⟨rfl,rfl⟩
theorem Zm (c:Int) (w:World):Calls Tryz.prog 137 #[.bool true,.int .i64 c] w fun e w'=>e=.panicked [jN c]∧w=w':=by
 go_enter Tryz.func137,Tryz.ntmps137;go_wp2;exact⟨rfl,rfl,rfl⟩
theorem jbE (s1 s2 s3:Option Addr) (n1 e1 n2 e2 n3 e3:Nat) (nodes:List Nod) (name:ByteArray) (w:World) (hn:js w s1 n1 nodes) (hb1:n1≤100000) :
 Calls Tryz.prog 136 #[.agg #[.slice s1 n1 e1,.slice s2 n2 e2,.slice s3 n3 e3],.string name] w (jgJ (jk nodes name) w):=by
 obtain⟨Z,hZ⟩:=eX ((w.alloc (.cells #[.slice s1 n1 e1,.slice s2 n2 e2,.slice s3 n3 e3] 26)).alloc (.cells #[.string ⟨#[]⟩,.slice none 0 0,.slice none 0 0,.slice none 0 0,.bool false] 57))
 have hkz:Kept w Z:=by rw[←hZ];exact jj _ _ _
 have Vh:=lH (jc w (.slice s1 n1 e1) [.slice s2 n2 e2,.slice s3 n3 e3] 26 Z (by rw[←hZ];exact ja _ _));have hyb:je (w.heap.size+1) [.string ⟨#[]⟩,.slice none 0 0,.slice none 0 0,.slice none 0 0,.bool false] Z:=by
  have dd:=jc (w.alloc (.cells #[.slice s1 n1 e1,.slice s2 n2 e2,.slice s3 n3 e3] 26)) (.string ⟨#[]⟩) [.slice none 0 0,.slice none 0 0,.slice none 0 0,.bool false] 57 Z (by rw[hZ];exact Kept.refl _);rw[World.size_alloc] at dd;exact dd
 obtain⟨Tf,HN,VC,Vd⟩:=lH4 hyb hn hn.1 hkz;clear hn hkz hyb;go_enter Tryz.func136,Tryz.ntmps136;have y0:=Vh.out.at_ 0 _ rfl;go_upto_region 1 with fail
 try rw[hZ]
 clear hZ;go_wp2;clear y0;go_loopw [10] (fun i wr=>∃k:Nat,k≤n1∧i=.int .i64 k∧jk (nodes.drop k) name=jk nodes name∧Kept Z wr) (fun i _=>n1-(intOf i).toNat)
 case atStart=>exact⟨0,Nat.zero_le _,rfl,rfl,Kept.refl _⟩
 case round =>
  obtain⟨k,hk,rfl,hR,hK⟩:=hrel;obtain⟨HR,HK,Ug⟩:=lH3 hR (Vd.out.trans hK) hK;by_cases hlt:k<n1
  · obtain⟨g,off,rfl⟩:=HN.out.form.resolve_left (by omega);obtain⟨n,b1,k1,d1,b2,k2,d2,b3,k3,d3,hn,hd,hb,u0,u1,u2,u3,u4,hat⟩:=HN.out.at_ hlt;have VP:=lH hat;have HD:=lH hd;have u0:=cell_later HK.out u0;have u1:=cell_later HK.out u1;have u2:=cell_later HK.out u2;have u3:=cell_later HK.out u3;have u4:=cell_later HK.out u4;have hkk:(k:Int)<(n1:Int):=by omega
    have hk0:¬(k:Int)<0:=by omega
    obtain⟨wx,hwx⟩:=eX (wr.alloc (.cells #[.string n.name,.slice b1 k1 d1,.slice b2 k2 d2,.slice b3 k3 d3,.bool n.cordon] 57))
    have hkx:Kept wr wx:=by rw[←hwx];exact ja _ _
    have Vk:=lH (jc wr (.string n.name) [.slice b1 k1 d1,.slice b2 k2 d2,.slice b3 k3 d3,.bool n.cordon] 57 wx (by rw[hwx];exact Kept.refl _));obtain⟨bq,hbq⟩:=eX (wr.heap.size)
    rw[hbq] at Vk;have KX:=lH hkx;go_upto_region 4 with fail
    try rw[hwx]
    try rw[hbq]
    clear hwx hbq hd hb hn hR hK hkx hk0 hkk hat u0 u1 u2 u3 u4;obtain⟨t0,t1,t2,t3,t4⟩:=Vk.out.at5;obtain⟨t,ht⟩:=eX ((n.name.toList==name.toList))
    have HT:=lH (show eqS n.name name=t from ht)
    cases t with
    | false =>
     have HX:=lH (show jk (nodes.drop (k+1)) name=jk nodes name by rw[←HR.out,HD.out];unfold jk;rw[List.find?_cons,HT.out]);go_wp2;go_roundw
     case rel=>exact⟨k+1,by omega,by go_num,HX.out,Ug.out.trans KX.out⟩
     case measure=>simp[intOf];omega
    | true =>
     have HX:=lH (show jk nodes name=some n by rw[←HR.out,HD.out];unfold jk;rw[List.find?_cons,HT.out]);have VD:=lH (Tf.out.kept (Ug.out.trans KX.out));obtain⟨z0,z1,z2,z3,z4⟩:=VD.out.at5;have f0:=VD.out.free 0;have f1:=VD.out.free 1;have f2:=VD.out.free 2;have f3:=VD.out.free 3;have f4:=VD.out.free 4;have P:=lH (Ze ⟨z0,z1,z2,z3,z4⟩ n.name b1 b2 b3 k1 d1 k2 d2 k3 d3 n.cordon);go_wp2;obtain⟨WE,hWE⟩:=eX ((((((wx.setCell ⟨w.heap.size+1,0,none⟩ (.string n.name)).setCell ⟨w.heap.size+1,1,none⟩ (.slice b1 k1 d1)).setCell ⟨w.heap.size+1,2,none⟩ (.slice b2 k2 d2)).setCell ⟨w.heap.size+1,3,none⟩ (.slice b3 k3 d3)).setCell ⟨w.heap.size+1,4,none⟩ (.bool n.cordon)))
     rw[hWE] at P ⊢;clear hWE z0 z1 z2 z3 z4 t0 t1 t2 t3 t4 f0 f1 f2 f3 f4;obtain⟨⟨d0,d1,d2,d3,d4⟩,hsz,hbl,hkp⟩:=P.out;refine bodyPost_ret (by simp[results,Tryz.results136,go_sem,d0,d1,d2,d3,d4];try rfl) rfl ?_;have KE:=hkp _ _ (Nat.le_succ _) (HK.out.trans KX.out);refine⟨fun m e=>?_,fun e=>?_,KE⟩
     · rw[HX.out] at e;cases e;exact⟨_,_,_,_,_,_,_,_,_,rfl,VP.out.kept KE⟩
     · rw[HX.out] at e;cases e
  · have hge:¬(k:Int)<(n1:Int):=by omega
    have HO:=lH (show jk nodes name=none by rw[←HR.out,List.drop_of_length_le (by rw[VC.out];omega)];rfl);clear hR hK;go_wp2;exact⟨rfl,(fun m e=>by rw[HO.out] at e;cases e),(fun _=>rfl),HK.out⟩
def Jj (o:Option ByteArray) (w:World) (e:Ending) (w':World):Prop:=(∀d,o=some d→e=.returned (.string d))∧(o=none→e=.panicked [jN 3])∧Kept w w'
theorem Jj.bad {o:Option ByteArray} {w w':World} (h:o=none) (k:Kept w w'):Jj o w (.panicked [jN 3]) w':=⟨(fun d e=>by rw[h] at e;cases e),(fun _=>rfl),k⟩
theorem Jj.good {o:Option ByteArray} {d:ByteArray} {w w':World} (h:o=some d) (k:Kept w w'):Jj o w (.returned (.string d)) w':=⟨(fun c e=>by rw[h] at e;cases e;rfl),(fun e=>by rw[h] at e;cases e),k⟩
theorem jdf (a:Option Addr) (m c:Nat) (l:PL) (key:ByteArray) (w:World) (h:Reads jO w (.slice a m c) l):Calls Tryz.prog 275 #[.slice a m c,.string key] w (Jj (j6 l key) w):=by
 obtain⟨go,hgo⟩:=eX (j6 l key)
 rw[hgo];have HG:=lH (jaZ h (x:=go.getD ByteArray.empty) (b:=go.isSome) (by unfold ZD;rw[hgo]) (by unfold JC;rw[hgo]));clear h hgo;go_enter Tryz.func275,Tryz.ntmps275;go_wp2_with fail
 refine HG.out.mono ?_;rintro e w1 ⟨rfl,kk⟩;have K:=lH kk;clear kk
 cases go with
 | none =>
  go_wp2;exact⟨rfl,Jj.bad rfl K.out⟩
 | some d =>
  go_wp2;go_ret;exact Jj.good rfl K.out
theorem jen {key name:ByteArray} {n:Nod} {l:List Nod} (h:eqS n.name name=true):domV key name (n::l)=j6 n.labels key:=by rw[domV,if_pos h]
theorem jdb {key name:ByteArray} {n:Nod} {l:List Nod} (h:eqS n.name name=false):domV key name (n::l)=domV key name l:=by rw[domV,if_neg (by rw[h];decide)]
theorem jba (s1 s2 s3:Option Addr) (n1 e1 n2 e2 n3 e3:Nat) (nodes:List Nod) (key name:ByteArray) (w:World) (hn:js w s1 n1 nodes) (hb1:n1≤100000) :
 Calls Tryz.prog 260 #[.agg #[.slice s1 n1 e1,.slice s2 n2 e2,.slice s3 n3 e3],.string key,.string name] w (Jj (domV key name nodes) w):=by
 obtain⟨Z,hZ⟩:=eX (w.alloc (.cells #[.slice s1 n1 e1,.slice s2 n2 e2,.slice s3 n3 e3] 26))
 have hkz:Kept w Z:=by rw[←hZ];exact ja _ _
 obtain⟨Vh,HN,VC,Vd⟩:=lH4 (jc w (.slice s1 n1 e1) [.slice s2 n2 e2,.slice s3 n3 e3] 26 Z (by rw[hZ];exact Kept.refl _)) hn hn.1 hkz;clear hn hkz;go_enter Tryz.func260,Tryz.ntmps260;have y0:=Vh.out.at_ 0 _ rfl;go_upto_region 1 with fail
 try rw[hZ]
 clear hZ;go_wp2;clear y0;go_loopw [12] (fun i wr=>∃k:Nat,k≤n1∧i=.int .i64 k∧domV key name (nodes.drop k)=domV key name nodes∧Kept Z wr) (fun i _=>n1-(intOf i).toNat)
 case atStart=>exact⟨0,Nat.zero_le _,rfl,rfl,Kept.refl _⟩
 case round =>
  obtain⟨k,hk,rfl,hR,hK⟩:=hrel;obtain⟨HR,HK,Ug⟩:=lH3 hR (Vd.out.trans hK) hK;by_cases hlt:k<n1
  · obtain⟨g,off,rfl⟩:=HN.out.form.resolve_left (by omega);obtain⟨n,b1,k1,d1,b2,k2,d2,b3,k3,d3,hn,hd,hb,u0,u1,u2,u3,u4,hat⟩:=(HN.out.kept HK.out).at_ hlt;have VP:=lH hat;have HD:=lH hd;have hkk:(k:Int)<(n1:Int):=by omega
    have hk0:¬(k:Int)<0:=by omega
    obtain⟨wx,hwx⟩:=eX (wr.alloc (.cells #[.string n.name,.slice b1 k1 d1,.slice b2 k2 d2,.slice b3 k3 d3,.bool n.cordon] 57))
    have hkx:Kept wr wx:=by rw[←hwx];exact ja _ _
    have Vk:=lH (jc wr (.string n.name) [.slice b1 k1 d1,.slice b2 k2 d2,.slice b3 k3 d3,.bool n.cordon] 57 wx (by rw[hwx];exact Kept.refl _));obtain⟨bq,hbq⟩:=eX (wr.heap.size)
    rw[hbq] at Vk;have KX:=lH hkx;go_upto_region 4 with fail
    try rw[hwx]
    try rw[hbq]
    clear hwx hbq hd hb hn hR hK hkx hk0 hkk hat u0 u1 u2 u3 u4;have t0:=Vk.out.at_ 0 _ rfl;have t2:=Vk.out.at_ 2 _ rfl;obtain⟨t,ht⟩:=eX ((n.name.toList==name.toList))
    have HT:=lH (show eqS n.name name=t from ht)
    cases t with
    | false =>
     have HX:=lH (show domV key name (nodes.drop (k+1))=domV key name nodes by rw[←HR.out,HD.out,jdb HT.out]);go_wp2;go_roundw
     case rel=>exact⟨k+1,by omega,by go_num,HX.out,Ug.out.trans KX.out⟩
     case measure=>simp[intOf];omega
    | true =>
     have HX:=lH (show j6 n.labels key=domV key name nodes by rw[←HR.out,HD.out,jen HT.out]);go_wp2_with fail
     refine(jdf b2 k2 d2 n.labels key wx (VP.out.labels.kept KX.out)).mono ?_;rintro e w3 ⟨h1,h2,kk⟩;have K3:=lH (HK.out.trans (KX.out.trans kk));clear kk;rw[HX.out] at h1 h2
     cases ho:domV key name nodes with
     | none =>
      obtain rfl:=h2 ho;have HO:=lH ho;clear h1 h2 ho;go_wp2;exact⟨rfl,Jj.bad HO.out K3.out⟩
     | some d =>
      obtain rfl:=h1 d ho;have HO:=lH ho;clear h1 h2 ho;go_wp2;go_ret;exact Jj.good HO.out K3.out
  · have hge:¬(k:Int)<(n1:Int):=by omega
    have HO:=lH (show domV key name nodes=none by rw[←HR.out,List.drop_of_length_le (by rw[VC.out];omega)];rfl);clear hR hK;go_wp2;exact⟨rfl,Jj.bad HO.out HK.out⟩
end Go.Proofs.YtokdjfoalkmhiaaGreat
