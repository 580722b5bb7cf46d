/- C. -/
import Derived.Test.YtokdjfoalkmhiaaGreatG0
import Derived.Test.YtokdjfoalkmhiaaGreatG1
import Derived.Test.YtokdjfoalkmhiaaGreatG2
set_option linter.unusedVariables false
set_option maxRecDepth 100000
set_option maxHeartbeats 25600000
namespace Go.Proofs.YtokdjfoalkmhiaaGreat
open Go.RowKit
theorem qh (n:Nod) (v1 v2 v3:Value) (w:World):Calls Tryz.prog 151 #[zj n v1 v2 v3] w fun e w'=>e=.returned (.string n.name)∧Kept w w':=by
 unfold zj;go_enter Tryz.func151,Tryz.ntmps151;go_wp2;go_ret;exact⟨rfl,ja _ _⟩
theorem jgV (n:Nod) (v1 v2 v3:Value) (p q:Addr) (x:ByteArray) (w:World) (hp:w.cell? p=some (.func (.func 151) #[] #[])) (hq:w.cell? q=some (.string x)) :
 Calls Tryz.prog 239 #[zj n v1 v2 v3,.pointer (some p),.pointer (some q)] w fun e w'=>e=.returned (.bool (eqS n.name x))∧Kept w w':=by
 have HB:=lH (show ∀W,Kept (w.alloc (.cells #[.string n.name,v1,v2,v3,.bool n.cordon] 57)) W→W.cell? p=some (.func (.func 151) #[] #[])∧W.cell? q=some (.string x)∧W.cell? ⟨w.heap.size,0,none⟩=some (.string n.name)∧W.cell? ⟨w.heap.size,1,none⟩=some (v1)∧W.cell? ⟨w.heap.size,2,none⟩=some (v2)∧W.cell? ⟨w.heap.size,3,none⟩=some (v3)∧W.cell? ⟨w.heap.size,4,none⟩=some (.bool n.cordon) from fun W k=>⟨cell_later ((ja _ _).trans k) hp,cell_later ((ja _ _).trans k) hq,(jc w (.string n.name) [v1,v2,v3,.bool n.cordon] 57 W k).at_ 0 _ rfl,(jc w (.string n.name) [v1,v2,v3,.bool n.cordon] 57 W k).at_ 1 _ rfl,(jc w (.string n.name) [v1,v2,v3,.bool n.cordon] 57 W k).at_ 2 _ rfl,(jc w (.string n.name) [v1,v2,v3,.bool n.cordon] 57 W k).at_ 3 _ rfl,(jc w (.string n.name) [v1,v2,v3,.bool n.cordon] 57 W k).at_ 4 _ rfl⟩);have HN:=lH (fun W=>qh n v1 v2 v3 W);unfold zj at HN ⊢;obtain⟨b,hb⟩:=eX (eqS n.name x)
 have t1:(n.name.toList==x.toList)=b:=hb;rw[hb];clear hp hq hb;go_enter Tryz.func239,Tryz.ntmps239;go_wp2
 go_region_held3 (fun W=>W.cell? p=some (.func (.func 151) #[] #[])∧W.cell? q=some (.string x)∧W.cell? ⟨w.heap.size,0,none⟩=some (.string n.name)∧W.cell? ⟨w.heap.size,1,none⟩=some (v1)∧W.cell? ⟨w.heap.size,2,none⟩=some (v2)∧W.cell? ⟨w.heap.size,3,none⟩=some (v3)∧W.cell? ⟨w.heap.size,4,none⟩=some (.bool n.cordon))
  (first | exact HB.out _ (Kept.drew _) | exact HB.out _ K1.out)
  (first | (go_at_call 151;refine(HN.out _).mono ?_;rintro e1 w1 ⟨rfl,k1⟩;have K1:=lH ((Kept.drew _).trans k1);clear k1))
 go_wp2;go_ret;exact⟨jd rfl,(ja _ _).trans K1.out⟩
def jl (l:List Nod) (x:ByteArray):Option Nod:=l.find? fun n=>eqS n.name x
def jnh (l:List Nod) (x:ByteArray) (i:Int):Prop:=(∃(k:Nat) (n:Nod),i=(k:Int)∧l[k]?=some n∧jl l x=some n)∨(i=-1∧jl l x=none)
theorem jjb (a:Option Addr) (len cap:Nat) (l:List Nod) (x:ByteArray) (p q:Addr) (w:World) (hr:jo w a len l) (hp:w.cell? p=some (.func (.func 151) #[] #[])) (hq:w.cell? q=some (.string x)) :
 Calls Tryz.prog 238 #[.slice a len cap,.func (.func 239) #[] #[.pointer (some p),.pointer (some q)]] w fun e w'=>∃i,e=.returned (.int .i64 i)∧jnh l x i∧Kept w w':=by
 have hl:=hr.1;have hm:=hr.2.1;unfold maxLen at hm;have HL:=lH hl;by_cases h0:len=0
 · subst h0;have hl0:l=[]:=List.eq_nil_of_length_eq_zero hl;have HF:=lH (show jl l x=none by rw[hl0];rfl);clear hr hl hp hq;go_enter Tryz.func238,Tryz.ntmps238;go_wp2;refine wp_loop_rounds 1 ?_;rw[rounds_succ];go_wp2;go_ret;exact⟨-1,rfl,.inr ⟨rfl,HF.out⟩,Kept.refl _⟩
 · obtain⟨b,off,rfl⟩:=hr.form.resolve_left h0;obtain⟨HR,HP,HQ⟩:=lH3 hr hp hq;clear hr hl hp hq h0;go_enter Tryz.func238,Tryz.ntmps238;go_wp2;go_loopw [8] (fun i wr=>∃k:Nat,k≤len∧i=.int .i64 k∧jl (l.drop k) x=jl l x∧Kept w wr) (fun i _=>len-(intOf i).toNat)
   case atStart=>exact⟨0,Nat.zero_le _,rfl,rfl,Kept.refl _⟩
   case round =>
    obtain⟨k,hk,rfl,hrest,hK⟩:=hrel;have HS:=lH hrest;have HK:=lH hK;by_cases hlt:k<len
    · obtain⟨n,a1,m1,c1,a2,m2,c2,a3,m3,c3,hn,hd,hb,p0,p1,p2,p3,p4,hat⟩:=(HR.out.kept hK).at_ hlt;obtain⟨HN,HD,HC⟩:=lH3 hn hd (jgV n (.slice a1 m1 c1) (.slice a2 m2 c2) (.slice a3 m3 c3) p q x wr (cell_later hK HP.out) (cell_later hK HQ.out));unfold zj at HC;obtain⟨t,ht⟩:=eX (eqS n.name x)
      have HT:=lH ht;rw[ht] at HC;clear hrest hK hat hd hn ht
      cases t with
      | true =>
       have HF:=lH (show jl l x=some n by rw[←HS.out,HD.out];unfold jl;rw[List.find?_cons,HT.out]);go_wp2_with fail
       refine HC.out.mono ?_;rintro e w1 ⟨rfl,k1⟩;have K1:=lH (HK.out.trans k1);clear k1;go_wp2;go_ret;exact⟨(k:Int),rfl,.inl ⟨k,n,rfl,HN.out,HF.out⟩,K1.out⟩
      | false =>
       have HE:=lH (show jl (l.drop k) x=jl (l.drop (k+1)) x by rw[HD.out];unfold jl;rw[List.find?_cons,HT.out]);go_wp2_with fail
       refine HC.out.mono ?_;rintro e w1 ⟨rfl,k1⟩;have K1:=lH (HK.out.trans k1);clear k1;go_wp2;go_roundw
       case rel=>exact⟨k+1,by omega,by go_num,HE.out.symm.trans HS.out,K1.out⟩
       case measure=>simp[intOf];omega
    · have HF:=lH (show jl l x=none by rw[←hrest,List.drop_of_length_le (by rw[HL.out];omega)];rfl);clear hrest hK;go_wp2;go_ret;exact⟨-1,rfl,.inr ⟨rfl,HF.out⟩,HK.out⟩
theorem jeD (a:Option Addr) (len cap:Nat) (l:List Nod) (x:ByteArray) (w:World) (hr:jo w a len l) (hlow:∀n ∈ l,zP n) :
 Calls Tryz.prog 209 #[.slice a len cap,.string x,.func (.func 151) #[] #[],.func (.func 210) #[] #[]] w fun e w'=>∃v,e=.returned (.tuple #[v,.bool (jl l x).isSome])∧JM w.heap.size w' v ((jl l x).getD Nod.zero)∧Kept w w':=by
 have hmf:=hmfL (P:=Tryz.prog);have hl:=hr.1;have hm:=hr.2.1;unfold maxLen at hm;obtain⟨Z,hZ⟩:=eX (((w.alloc (.cells #[.string x] 9)).alloc (.cells #[.func (.func 151) #[] #[]] 216)).alloc (.cells #[.string ⟨#[]⟩,.slice none 0 0,.slice none 0 0,.slice none 0 0,.bool false] 57))
 have hkz:Kept w Z:=by rw[←hZ];exact(jn _ _ _).trans (ja _ _)
 have hzs:Z.heap.size=w.heap.size+3:=by rw[←hZ];simp
 have hq:=(jc w (.string x) [] 9 Z (by rw[←hZ];exact jn _ _ _)).at_ 0 _ rfl;have hp:Z.cell? ⟨w.heap.size+1,0,none⟩=some (.func (.func 151) #[] #[]):=by
  have:=(jc (w.alloc (.cells #[.string x] 9)) (.func (.func 151) #[] #[]) [] 216 Z (by rw[←hZ];exact ja _ _)).at_ 0 _ rfl;rw[World.size_alloc] at this;exact this
 have UO:=lH (show jf (w.heap.size+2) [.string ⟨#[]⟩,.slice none 0 0,.slice none 0 0,.slice none 0 0,.bool false] Z by
  have:=jc ((w.alloc (.cells #[.string x] 9)).alloc (.cells #[.func (.func 151) #[] #[]] 216)) (.string ⟨#[]⟩) [.slice none 0 0,.slice none 0 0,.slice none 0 0,.bool false] 57 Z (by rw[hZ];exact Kept.refl _);rw[World.size_alloc,World.size_alloc] at this;exact this)
 obtain⟨Nl,Vc,Vf,HR,Vo,HL⟩:=lH6 (jjb a len cap l x ⟨w.heap.size+1,0,none⟩ ⟨w.heap.size,0,none⟩ Z (hr.kept hkz) hp hq) hkz hzs (hr.kept hkz) hlow hl;clear hr hl hlow hkz hq hp hzs;go_enter Tryz.func209,Tryz.ntmps209;go_wp2_with fail
 try rw[hZ]
 clear hZ;refine Nl.out.mono ?_;rintro e w1 ⟨i,rfl,hs,k1⟩;have K1:=lH k1;rcases hs with ⟨k,n9,rfl,hn9,hf⟩ | ⟨rfl,hf⟩
 · have HF:=lH hf;have hkl:k<len:=by have:=(List.getElem?_eq_some_iff.1 hn9).1;rw[HL.out] at this;exact this
   have hk0:decide ((k:Int)<0)=false:=by simp
   have hkk:(k:Int)<(len:Int):=by omega
   obtain⟨b,off,rfl⟩:=HR.out.form.resolve_left (by omega);obtain⟨n,a1,m1,c1,a2,m2,c2,a3,m3,c3,hn,hd,hb,p0,p1,p2,p3,p4,hat⟩:=(HR.out.kept k1).at_ hkl;obtain rfl:n9=n:=by rw[hn9] at hn;exact Option.some.inj hn
   obtain⟨U7,VH,VJ,Tk⟩:=lH4 (Vo.out n9 (List.mem_of_getElem? hn9)) hat (UO.out.kept k1) (show w.heap.size+3≤w1.heap.size by have:=k1.size;rw[Vf.out] at this;exact this);have VK:=lH (jjQ n9 a1 a2 a3 m1 c1 m2 c2 m3 c3 w1 VH.out U7.out);clear hn9 hn hd hat hf k1;go_wp2_with fail
   refine VK.out.mono ?_;rintro e w2 ⟨v,rfl,hn,k2⟩;obtain⟨HN,KW,VJ⟩:=lH3 hn (Vc.out.trans (K1.out.trans k2)) (VJ.out.kept k2);obtain⟨b1,n1,d1,b2,n2,d2,b3,n3,d3,rfl,-⟩:=hn;obtain⟨z,hz⟩:=eX (n9.name)
   obtain⟨cd,hcd⟩:=eX (n9.cordon)
   rw[hz,hcd];rw[hz,hcd] at HN;clear k2 p0 p1 p2 p3 p4 hb hkl hk0 hkk;obtain⟨y0,y1,y2,y3,y4⟩:=VJ.out.at5;have x0:=VJ.out.free 0;have x1:=VJ.out.free 1;have x2:=VJ.out.free 2;have x3:=VJ.out.free 3;have x4:=VJ.out.free 4;have P:=lH (j5 (vs:=[.string z,.slice b1 n1 d1,.slice b2 n2 d2,.slice b3 n3 d3,.bool cd]) VJ.out rfl);clear VJ;go_wp2;obtain⟨WE,hWE⟩:=eX (w2.setCells (w.heap.size+2) 0 [.string z,.slice b1 n1 d1,.slice b2 n2 d2,.slice b3 n3 d3,.bool cd])
   have hWE2:(((((w2.setCell ⟨(w.heap.size+2),0,none⟩ (.string z)).setCell ⟨(w.heap.size+2),1,none⟩ (.slice b1 n1 d1)).setCell ⟨(w.heap.size+2),2,none⟩ (.slice b2 n2 d2)).setCell ⟨(w.heap.size+2),3,none⟩ (.slice b3 n3 d3)).setCell ⟨(w.heap.size+2),4,none⟩ (.bool cd))=WE:=hWE;rw[hWE] at P;rw[hWE2];clear hWE hWE2;obtain⟨PC,hsz,hbl,hkp⟩:=P.out;refine bodyPost_ret (by simp[results,Tryz.results209,go_sem,PC.at_ 0 _ rfl,PC.at_ 1 _ rfl,PC.at_ 2 _ rfl,PC.at_ 3 _ rfl,PC.at_ 4 _ rfl];try rfl) rfl ?_;rw[HF.out];exact⟨_,rfl,(HN.out.far hsz (fun b hb=>hbl b (by have:=Tk.out;omega))).less (by have:=Tk.out;omega),hkp _ _ (by omega) KW.out⟩
 · obtain⟨HF,VJ,KW⟩:=lH3 hf (UO.out.kept k1) (Vc.out.trans k1);clear hf k1;obtain⟨y0,y1,y2,y3,y4⟩:=VJ.out.at5;have x0:=VJ.out.free 0;have x1:=VJ.out.free 1;have x2:=VJ.out.free 2;have x3:=VJ.out.free 3;have x4:=VJ.out.free 4;have P:=lH (j5 (vs:=[.string ⟨#[]⟩,.slice none 0 0,.slice none 0 0,.slice none 0 0,.bool false]) VJ.out rfl);clear VJ;go_wp2;obtain⟨WE,hWE⟩:=eX (w1.setCells (w.heap.size+2) 0 [.string ⟨#[]⟩,.slice none 0 0,.slice none 0 0,.slice none 0 0,.bool false])
   have hWE2:(((((w1.setCell ⟨(w.heap.size+2),0,none⟩ (.string ⟨#[]⟩)).setCell ⟨(w.heap.size+2),1,none⟩ (.slice none 0 0)).setCell ⟨(w.heap.size+2),2,none⟩ (.slice none 0 0)).setCell ⟨(w.heap.size+2),3,none⟩ (.slice none 0 0)).setCell ⟨(w.heap.size+2),4,none⟩ (.bool false))=WE:=hWE;rw[hWE] at P;rw[hWE2];clear hWE hWE2;obtain⟨PC,hsz,hbl,hkp⟩:=P.out;refine bodyPost_ret (by simp[results,Tryz.results209,go_sem,PC.at_ 0 _ rfl,PC.at_ 1 _ rfl,PC.at_ 2 _ rfl,PC.at_ 3 _ rfl,PC.at_ 4 _ rfl];try rfl) rfl ?_;rw[HF.out];exact⟨_,rfl,jak _ _,hkp _ _ (by omega) KW.out⟩
theorem jjy (a:Option Addr) (len cap:Nat) (l:List Nod) (x:ByteArray) (w:World) (hr:jo w a len l) (hlow:∀n ∈ l,zP n) :
 Calls Tryz.prog 159 #[.slice a len cap,.string x] w fun e w'=>∃v,e=.returned (.tuple #[v,.bool (jl l x).isSome])∧JM w.heap.size w' v ((jl l x).getD Nod.zero)∧Kept w w':=by
 obtain⟨Z,hZ⟩:=eX (w.alloc (.cells #[.string ⟨#[]⟩,.slice none 0 0,.slice none 0 0,.slice none 0 0,.bool false] 57))
 have hkz:Kept w Z:=by rw[←hZ];exact ja _ _
 have hzs:Z.heap.size=w.heap.size+1:=by rw[←hZ];simp
 obtain⟨UO,RI,Vc,Vf⟩:=lH4 (show jf w.heap.size [.string ⟨#[]⟩,.slice none 0 0,.slice none 0 0,.slice none 0 0,.bool false] Z from jc w (.string ⟨#[]⟩) [.slice none 0 0,.slice none 0 0,.slice none 0 0,.bool false] 57 Z (by rw[hZ];exact Kept.refl _)) (jeD a len cap l x Z (hr.kept hkz) hlow) hkz hzs;obtain⟨n9,hn9⟩:=eX ((jl l x).getD Nod.zero)
 obtain⟨is,his⟩:=eX ((jl l x).isSome)
 rw[hn9,his] at RI;rw[hn9,his];clear hr hlow hkz hzs hn9 his;go_enter Tryz.func159,Tryz.ntmps159;go_wp2_with fail
 try rw[hZ]
 clear hZ;refine RI.out.mono ?_;rintro e w1 ⟨v,rfl,hn,k1⟩;obtain⟨HN,VJ,KW⟩:=lH3 hn (UO.out.kept k1) (Vc.out.trans k1);obtain⟨b1,n1,d1,b2,n2,d2,b3,n3,d3,rfl,-⟩:=hn;obtain⟨z,hz⟩:=eX (n9.name)
 obtain⟨cd,hcd⟩:=eX (n9.cordon)
 rw[hz,hcd];rw[hz,hcd] at HN;clear k1;obtain⟨y0,y1,y2,y3,y4⟩:=VJ.out.at5;have x0:=VJ.out.free 0;have x1:=VJ.out.free 1;have x2:=VJ.out.free 2;have x3:=VJ.out.free 3;have x4:=VJ.out.free 4;have P:=lH (j5 (vs:=[.string z,.slice b1 n1 d1,.slice b2 n2 d2,.slice b3 n3 d3,.bool cd]) VJ.out rfl);clear VJ;go_wp2;obtain⟨WE,hWE⟩:=eX (w1.setCells w.heap.size 0 [.string z,.slice b1 n1 d1,.slice b2 n2 d2,.slice b3 n3 d3,.bool cd])
 have hWE2:(((((w1.setCell ⟨w.heap.size,0,none⟩ (.string z)).setCell ⟨w.heap.size,1,none⟩ (.slice b1 n1 d1)).setCell ⟨w.heap.size,2,none⟩ (.slice b2 n2 d2)).setCell ⟨w.heap.size,3,none⟩ (.slice b3 n3 d3)).setCell ⟨w.heap.size,4,none⟩ (.bool cd))=WE:=hWE;rw[hWE] at P;rw[hWE2];clear hWE hWE2;obtain⟨PC,hsz,hbl,hkp⟩:=P.out;refine bodyPost_ret (by simp[results,Tryz.results159,go_sem,PC.at_ 0 _ rfl,PC.at_ 1 _ rfl,PC.at_ 2 _ rfl,PC.at_ 3 _ rfl,PC.at_ 4 _ rfl];try rfl) rfl ?_;exact⟨_,rfl,(HN.out.far hsz (fun b hb=>hbl b (by have:=Vf.out;omega))).less (by have:=Vf.out;omega),hkp _ _ (Nat.le_refl _) KW.out⟩
def j6:Option ByteArray→List Nod→Int
 | _,[]=>0
 | prev,n::t=>if zk n≠0 then zk n else if Vec.jK prev n.name=true then 13 else j6 (some n.name) t
def jI (l:List Nod):Int:=if 32<l.length then 4 else j6 none l
def Ys (l:List Nod) (k:Nat):Option ByteArray:=if k=0 then none else (l[k-1]?).map Nod.name
theorem jcH {l:List Nod} {k:Nat} (h:k=0) (s:ByteArray):Vec.jK (Ys l k) s=false:=by unfold Ys;rw[if_pos h];rfl
theorem jcK {l:List Nod} {k:Nat} {n:Nod} (h:¬k=0) (hn:l[k-1]?=some n) (s:ByteArray):Vec.jK (Ys l k) s=leS s n.name:=by unfold Ys;rw[if_neg h,hn];rfl
theorem jcD {l:List Nod} {k:Nat} {n:Nod} (hn:l[k]?=some n):Ys l (k+1)=some n.name:=by unfold Ys;rw[if_neg (by omega),Nat.add_sub_cancel,hn];rfl
theorem jcs {p:Option ByteArray} {n:Nod} {t:List Nod} (h:zk n≠0):j6 p (n::t)=zk n:=by rw[j6,if_pos h]
theorem jaj {p:Option ByteArray} {n:Nod} {t:List Nod} (h:zk n=0) (b:Vec.jK p n.name=true):j6 p (n::t)=13:=by rw[j6,if_neg (by rw[h];decide),if_pos b]
theorem Xn {p:Option ByteArray} {n:Nod} {t:List Nod} (h:zk n=0) (b:Vec.jK p n.name=false):j6 p (n::t)=j6 (some n.name) t:=by rw[j6,if_neg (by rw[h];decide),if_neg (by rw[b];decide)]
theorem jdh (a:Option Addr) (len cap:Nat) (l:List Nod) (w:World) (hr:jo w a len l) :
 Calls Tryz.prog 150 #[.slice a len cap,.int .i64 32,.func (.func 151) #[] #[],.func (.func 152) #[] #[]] w (Say (.int .i64 (jI l)) w):=by
 have hl:=hr.1;have hm:=hr.2.1;unfold maxLen at hm;by_cases h32:32<len
 · have HV:=lH (show jI l=4 by unfold jI;rw[if_pos (by omega)]);clear hr hl;go_enter Tryz.func150,Tryz.ntmps150;go_wp2;go_ret;exact⟨jb HV.out.symm,Kept.refl _⟩
 · have HV:=lH (show jI l=j6 none l by unfold jI;rw[if_neg (by omega)]);have h32':len≤32:=by omega
   by_cases h0:len=0
   · subst h0;have HE:=lH (show jI l=0 by rw[HV.out,List.eq_nil_of_length_eq_zero hl];rfl);clear hr hl h32;go_enter Tryz.func150,Tryz.ntmps150;go_wp2;refine wp_loop_rounds 1 ?_;rw[rounds_succ];go_wp2;go_ret;exact⟨jb HE.out.symm,Kept.refl _⟩
   · obtain⟨b,off,rfl⟩:=hr.form.resolve_left h0;have HR:=lH hr;have HL:=lH hl;clear hr hl h0 h32;go_enter Tryz.func150,Tryz.ntmps150;go_wp2;go_loopw [18] (fun i wr=>∃k:Nat,k≤len∧i=.int .i64 k∧j6 (Ys l k) (l.drop k)=j6 none l∧Kept w wr) (fun i _=>len-(intOf i).toNat)
     case atStart=>exact⟨0,Nat.zero_le _,rfl,rfl,Kept.refl _⟩
     case round =>
      obtain⟨k,hk,rfl,hrest,hK⟩:=hrel;obtain⟨HS,HT,HK⟩:=lH3 (HV.out.trans hrest.symm) hrest hK;by_cases hlt:k<len
      · obtain⟨n,a1,m1,c1,a2,m2,c2,a3,m3,c3,hn,hd,hb,p0,p1,p2,p3,p4,hat⟩:=(HR.out.kept hK).at_ hlt;obtain⟨VH,HD,VD⟩:=lH3 hat hd (jcD hn);have VE:=lH (fun W (kk:Kept wr W)=>jiE n (.slice a1 m1 c1) (.slice a2 m2 c2) (.slice a3 m3 c3) W (VH.out.kept kk));have Uu:=lH (fun W=>qh n (.slice a1 m1 c1) (.slice a2 m2 c2) (.slice a3 m3 c3) W);unfold zj at VE Uu;obtain⟨ck,hck⟩:=eX (zk n)
        have VG:=lH hck;rw[hck] at VE;have hkk:(k:Int)<(len:Int):=by omega
        clear hrest hK hat hd hck;by_cases z1:ck=0
        · subst z1;by_cases h0:k=0
          · have hd0:decide (0<k)=false:=by subst h0;decide
            have HP:=lH (jcH (l:=l) h0 n.name);clear h0;go_wp2_with fail
            refine(VE.out _ (ja _ _)).mono ?_;rintro e w1 ⟨rfl,kk⟩;have KW:=lH (Kept.trans (ja _ _) kk);have Vd:=lH (fun W k=>jc wr (.string n.name) [.slice a1 m1 c1,.slice a2 m2 c2,.slice a3 m3 c3,.bool n.cordon] 57 W (Kept.trans kk k));have y0:=(Vd.out w1 (Kept.refl _)).at_ 0 _ rfl;have y1:=(Vd.out w1 (Kept.refl _)).at_ 1 _ rfl;have y2:=(Vd.out w1 (Kept.refl _)).at_ 2 _ rfl;have y3:=(Vd.out w1 (Kept.refl _)).at_ 3 _ rfl;have y4:=(Vd.out w1 (Kept.refl _)).at_ 4 _ rfl;clear kk;go_wp2;go_quiet (fail)
            go_wp2;go_roundw
            case rel=>exact⟨k+1,by omega,by go_num,(show j6 (Ys l (k+1)) (l.drop (k+1))=j6 none l by rw[←HT.out,HD.out,Xn VG.out HP.out,VD.out]),HK.out.trans (KW.out.trans (Kept.drewN _ _))⟩
            case measure=>simp[intOf];omega
          · have hd0:decide (0<k)=true:=by simp;omega
            obtain⟨q,hqk⟩:∃q,k=q+1:=⟨k-1,by omega⟩
            have g1:(k:Int)-1=(q:Int):=by omega
            have gw:IntKind.i64.wrap (q:Int)=(q:Int):=by rw[IntKind.wrap_i64];omega
            have g2:(q:Int)<(len:Int):=by omega
            obtain⟨n9,b1,h1,d1,b2,h2,d2,b3,h3,d3,hn9,-,hb9,q0,q1,q2,q3,q4,-⟩:=(HR.out.kept HK.out).at_ (show q<len by omega);have RJ:=lH hqk;have hqk1:k-1=q:=by omega
            have HP:=lH (jcK (l:=l) h0 (show l[k-1]?=some n9 by rw[hqk1];exact hn9) n.name);clear hqk hqk1;have Vv:=lH (fun W=>qh n9 (.slice b1 h1 d1) (.slice b2 h2 d2) (.slice b3 h3 d3) W);unfold zj at Vv;clear h0 hn9;by_cases n3:leS n.name n9.name=true
            · have n3':(Op.bytesLess n.name.toList n9.name.toList||n.name.toList==n9.name.toList)=true:=n3;have N3:=lH n3;clear n3;go_wp2_with fail
              refine(VE.out _ (ja _ _)).mono ?_;rintro e w1 ⟨rfl,kk⟩;have KW:=lH (Kept.trans (ja _ _) kk);have Vd:=lH (fun W k=>jc wr (.string n.name) [.slice a1 m1 c1,.slice a2 m2 c2,.slice a3 m3 c3,.bool n.cordon] 57 W (Kept.trans kk k));have y0:=(Vd.out w1 (Kept.refl _)).at_ 0 _ rfl;have y1:=(Vd.out w1 (Kept.refl _)).at_ 1 _ rfl;have y2:=(Vd.out w1 (Kept.refl _)).at_ 2 _ rfl;have y3:=(Vd.out w1 (Kept.refl _)).at_ 3 _ rfl;have y4:=(Vd.out w1 (Kept.refl _)).at_ 4 _ rfl;have HO:=lH (show ∀W,Kept w1 W→(W.cell? ⟨wr.heap.size,0,none⟩=some (.string n.name)∧W.cell? ⟨wr.heap.size,1,none⟩=some (.slice a1 m1 c1)∧W.cell? ⟨wr.heap.size,2,none⟩=some (.slice a2 m2 c2)∧W.cell? ⟨wr.heap.size,3,none⟩=some (.slice a3 m3 c3)∧W.cell? ⟨wr.heap.size,4,none⟩=some (.bool n.cordon))∧(W.cell? ⟨b,off+q*5,none⟩=some (.string n9.name)∧W.cell? ⟨b,off+q*5+1,none⟩=some (.slice b1 h1 d1)∧W.cell? ⟨b,off+q*5+2,none⟩=some (.slice b2 h2 d2)∧W.cell? ⟨b,off+q*5+3,none⟩=some (.slice b3 h3 d3)∧W.cell? ⟨b,off+q*5+4,none⟩=some (.bool n9.cordon)) from fun W k=>⟨⟨(Vd.out W k).at_ 0 _ rfl,(Vd.out W k).at_ 1 _ rfl,(Vd.out W k).at_ 2 _ rfl,(Vd.out W k).at_ 3 _ rfl,(Vd.out W k).at_ 4 _ rfl⟩,⟨cell_later (KW.out.trans k) q0,cell_later (KW.out.trans k) q1,cell_later (KW.out.trans k) q2,cell_later (KW.out.trans k) q3,cell_later (KW.out.trans k) q4⟩⟩);clear kk q0 q1 q2 q3 q4;go_wp2
              go_region_held3 (fun W=>(W.cell? ⟨wr.heap.size,0,none⟩=some (.string n.name)∧W.cell? ⟨wr.heap.size,1,none⟩=some (.slice a1 m1 c1)∧W.cell? ⟨wr.heap.size,2,none⟩=some (.slice a2 m2 c2)∧W.cell? ⟨wr.heap.size,3,none⟩=some (.slice a3 m3 c3)∧W.cell? ⟨wr.heap.size,4,none⟩=some (.bool n.cordon))∧(W.cell? ⟨b,off+q*5,none⟩=some (.string n9.name)∧W.cell? ⟨b,off+q*5+1,none⟩=some (.slice b1 h1 d1)∧W.cell? ⟨b,off+q*5+2,none⟩=some (.slice b2 h2 d2)∧W.cell? ⟨b,off+q*5+3,none⟩=some (.slice b3 h3 d3)∧W.cell? ⟨b,off+q*5+4,none⟩=some (.bool n9.cordon)))
               (first | exact HO.out _ (Kept.drew _) | exact HO.out _ J1.out | exact HO.out _ J2.out)
               (first | (go_at_call 151;refine(Uu.out _).mono ?_;rintro e1 w2 ⟨rfl,k1⟩;have J1:=lH ((Kept.drew _).trans k1);clear k1)
                      | (go_at_call 151;refine(Vv.out _).mono ?_;rintro e2 w3 ⟨rfl,k1⟩;have J2:=lH (J1.out.trans k1);clear k1))
              go_wp2;go_ret;exact⟨jb (show (13:Int)=jI l by rw[HS.out,HD.out,jaj VG.out (HP.out.trans N3.out)]),HK.out.trans (KW.out.trans J2.out)⟩
            · have n3:leS n.name n9.name=false:=by simpa using n3
              have n3':(Op.bytesLess n.name.toList n9.name.toList||n.name.toList==n9.name.toList)=false:=n3;have N3:=lH n3;clear n3;go_wp2_with fail
              refine(VE.out _ (ja _ _)).mono ?_;rintro e w1 ⟨rfl,kk⟩;have KW:=lH (Kept.trans (ja _ _) kk);have Vd:=lH (fun W k=>jc wr (.string n.name) [.slice a1 m1 c1,.slice a2 m2 c2,.slice a3 m3 c3,.bool n.cordon] 57 W (Kept.trans kk k));have y0:=(Vd.out w1 (Kept.refl _)).at_ 0 _ rfl;have y1:=(Vd.out w1 (Kept.refl _)).at_ 1 _ rfl;have y2:=(Vd.out w1 (Kept.refl _)).at_ 2 _ rfl;have y3:=(Vd.out w1 (Kept.refl _)).at_ 3 _ rfl;have y4:=(Vd.out w1 (Kept.refl _)).at_ 4 _ rfl;have HO:=lH (show ∀W,Kept w1 W→(W.cell? ⟨wr.heap.size,0,none⟩=some (.string n.name)∧W.cell? ⟨wr.heap.size,1,none⟩=some (.slice a1 m1 c1)∧W.cell? ⟨wr.heap.size,2,none⟩=some (.slice a2 m2 c2)∧W.cell? ⟨wr.heap.size,3,none⟩=some (.slice a3 m3 c3)∧W.cell? ⟨wr.heap.size,4,none⟩=some (.bool n.cordon))∧(W.cell? ⟨b,off+q*5,none⟩=some (.string n9.name)∧W.cell? ⟨b,off+q*5+1,none⟩=some (.slice b1 h1 d1)∧W.cell? ⟨b,off+q*5+2,none⟩=some (.slice b2 h2 d2)∧W.cell? ⟨b,off+q*5+3,none⟩=some (.slice b3 h3 d3)∧W.cell? ⟨b,off+q*5+4,none⟩=some (.bool n9.cordon)) from fun W k=>⟨⟨(Vd.out W k).at_ 0 _ rfl,(Vd.out W k).at_ 1 _ rfl,(Vd.out W k).at_ 2 _ rfl,(Vd.out W k).at_ 3 _ rfl,(Vd.out W k).at_ 4 _ rfl⟩,⟨cell_later (KW.out.trans k) q0,cell_later (KW.out.trans k) q1,cell_later (KW.out.trans k) q2,cell_later (KW.out.trans k) q3,cell_later (KW.out.trans k) q4⟩⟩);clear kk q0 q1 q2 q3 q4;go_wp2
              go_region_held3 (fun W=>(W.cell? ⟨wr.heap.size,0,none⟩=some (.string n.name)∧W.cell? ⟨wr.heap.size,1,none⟩=some (.slice a1 m1 c1)∧W.cell? ⟨wr.heap.size,2,none⟩=some (.slice a2 m2 c2)∧W.cell? ⟨wr.heap.size,3,none⟩=some (.slice a3 m3 c3)∧W.cell? ⟨wr.heap.size,4,none⟩=some (.bool n.cordon))∧(W.cell? ⟨b,off+q*5,none⟩=some (.string n9.name)∧W.cell? ⟨b,off+q*5+1,none⟩=some (.slice b1 h1 d1)∧W.cell? ⟨b,off+q*5+2,none⟩=some (.slice b2 h2 d2)∧W.cell? ⟨b,off+q*5+3,none⟩=some (.slice b3 h3 d3)∧W.cell? ⟨b,off+q*5+4,none⟩=some (.bool n9.cordon)))
               (first | exact HO.out _ (Kept.drew _) | exact HO.out _ J1.out | exact HO.out _ J2.out)
               (first | (go_at_call 151;refine(Uu.out _).mono ?_;rintro e1 w2 ⟨rfl,k1⟩;have J1:=lH ((Kept.drew _).trans k1);clear k1)
                      | (go_at_call 151;refine(Vv.out _).mono ?_;rintro e2 w3 ⟨rfl,k1⟩;have J2:=lH (J1.out.trans k1);clear k1))
              go_wp2;go_roundw
              case rel=>exact⟨k+1,by omega,by go_num,(show j6 (Ys l (k+1)) (l.drop (k+1))=j6 none l by rw[←HT.out,HD.out,Xn VG.out (HP.out.trans N3.out),VD.out]),HK.out.trans (KW.out.trans J2.out)⟩
              case measure=>simp[intOf];omega
        · have z1':(ck != 0)=true:=by simpa using z1
          have HB:=lH (show jI l=ck by rw[HS.out,HD.out,jcs (by rw[VG.out];exact z1),VG.out]);clear z1;go_wp2_with fail
          refine(VE.out _ (ja _ _)).mono ?_;rintro e w1 ⟨rfl,kk⟩;have KW:=lH (Kept.trans (ja _ _) kk);clear kk;go_wp2;go_ret;exact⟨jb HB.out.symm,HK.out.trans KW.out⟩
      · have HE:=lH (show jI l=0 by rw[HS.out,List.drop_of_length_le (by rw[HL.out];omega)];rfl);clear hrest hK;go_wp2;go_ret;exact⟨jb HE.out.symm,HK.out⟩
theorem jfd (a:Option Addr) (len cap:Nat) (l:List Nod) (w:World) (hr:jo w a len l) :
 Calls Tryz.prog 90 #[.slice a len cap] w (Say (.int .i64 (jI l)) w):=by
 have H:=lH (jdh a len cap l w hr);clear hr;go_enter Tryz.func90,Tryz.ntmps90;go_wp2_with fail
 refine H.out.mono ?_;rintro e w1 ⟨rfl,k⟩;have K:=lH k;clear k;go_wp2;go_ret;exact⟨rfl,K.out⟩
theorem jeC (a:Option Addr) (len cap:Nat) (l:List Nod) (w:World) (hr:jo w a len l) :
 Calls Tryz.prog 62 #[.slice a len cap] w (Say (.int .i64 (jI l)) w):=by
 have hl:=hr.1;have hm:=hr.2.1;unfold maxLen at hm;by_cases h32:32<len
 · have HV:=lH (show jI l=4 by unfold jI;rw[if_pos (by omega)]);clear hr hl;go_enter Tryz.func62,Tryz.ntmps62;go_wp2;go_ret;exact⟨jb HV.out.symm,Kept.refl _⟩
 · have HV:=lH (show jI l=j6 none l by unfold jI;rw[if_neg (by omega)]);have h32':len≤32:=by omega
   by_cases h0:len=0
   · subst h0;have HE:=lH (show jI l=0 by rw[HV.out,List.eq_nil_of_length_eq_zero hl];rfl);clear hr hl h32;go_enter Tryz.func62,Tryz.ntmps62;go_wp2;refine wp_loop_rounds 1 ?_;rw[rounds_succ];go_wp2;go_ret;exact⟨jb HE.out.symm,Kept.refl _⟩
   · obtain⟨b,off,rfl⟩:=hr.form.resolve_left h0;have HR:=lH hr;have HL:=lH hl;clear hr hl h0 h32;go_enter Tryz.func62,Tryz.ntmps62;go_wp2;go_loopw [3] (fun i wr=>∃k:Nat,k≤len∧i=.int .i64 k∧j6 (Ys l k) (l.drop k)=j6 none l∧Kept w wr) (fun i _=>len-(intOf i).toNat)
     case atStart=>exact⟨0,Nat.zero_le _,rfl,rfl,Kept.refl _⟩
     case round =>
      obtain⟨k,hk,rfl,hrest,hK⟩:=hrel;obtain⟨HS,HT,HK⟩:=lH3 (HV.out.trans hrest.symm) hrest hK;by_cases hlt:k<len
      · obtain⟨n,a1,m1,c1,a2,m2,c2,a3,m3,c3,hn,hd,hb,p0,p1,p2,p3,p4,hat⟩:=(HR.out.kept hK).at_ hlt;obtain⟨VH,HD,VD⟩:=lH3 hat hd (jcD hn);have VE:=lH (fun W (kk:Kept wr W)=>jgD n (.slice a1 m1 c1) (.slice a2 m2 c2) (.slice a3 m3 c3) W (VH.out.kept kk));unfold zj at VE;obtain⟨ck,hck⟩:=eX (zk n)
        have VG:=lH hck;rw[hck] at VE;have hkk:(k:Int)<(len:Int):=by omega
        clear hrest hK hat hd hck;by_cases z1:ck=0
        · subst z1;by_cases h0:k=0
          · have hd0:decide (0<k)=false:=by subst h0;decide
            have HP:=lH (jcH (l:=l) h0 n.name);clear h0;go_wp2_with fail
            refine(VE.out _ (Kept.refl _)).mono ?_;rintro e w1 ⟨rfl,kk⟩;have KW:=lH kk;clear kk;go_wp2;go_quiet (fail)
            go_wp2;go_roundw
            case rel=>exact⟨k+1,by omega,by go_num,(show j6 (Ys l (k+1)) (l.drop (k+1))=j6 none l by rw[←HT.out,HD.out,Xn VG.out HP.out,VD.out]),HK.out.trans (KW.out.trans (Kept.drewN _ _))⟩
            case measure=>simp[intOf];omega
          · have hd0:decide (0<k)=true:=by simp;omega
            have g1:0≤(k:Int)-1:=by omega
            have g2:(k:Int)-1<(len:Int):=by omega
            have g3:((k:Int)-1).toNat=k-1:=by omega
            obtain⟨n9,_,_,_,_,_,_,_,_,_,hn9,-,hb9,o0,-⟩:=(HR.out.kept HK.out).at_ (show k-1<len by omega);have HP:=lH (jcK (l:=l) h0 hn9 n.name);clear h0 hn9;by_cases n3:leS n.name n9.name=true
            · have n3':(Op.bytesLess n.name.toList n9.name.toList||n.name.toList==n9.name.toList)=true:=n3;have N3:=lH n3;clear n3;go_wp2_with fail
              refine(VE.out _ (Kept.refl _)).mono ?_;rintro e w1 ⟨rfl,kk⟩;have KW:=lH kk;have o1:=cell_later kk o0;have p9:=cell_later kk p0;clear kk;go_wp2;go_quiet (fail)
              go_wp2;go_ret;exact⟨jb (show (13:Int)=jI l by rw[HS.out,HD.out,jaj VG.out (HP.out.trans N3.out)]),HK.out.trans (KW.out.trans (Kept.drewN _ _))⟩
            · have n3:leS n.name n9.name=false:=by simpa using n3
              have n3':(Op.bytesLess n.name.toList n9.name.toList||n.name.toList==n9.name.toList)=false:=n3;have N3:=lH n3;clear n3;go_wp2_with fail
              refine(VE.out _ (Kept.refl _)).mono ?_;rintro e w1 ⟨rfl,kk⟩;have KW:=lH kk;have o1:=cell_later kk o0;have p9:=cell_later kk p0;clear kk;go_wp2;go_quiet (fail)
              go_wp2;go_roundw
              case rel=>exact⟨k+1,by omega,by go_num,(show j6 (Ys l (k+1)) (l.drop (k+1))=j6 none l by rw[←HT.out,HD.out,Xn VG.out (HP.out.trans N3.out),VD.out]),HK.out.trans (KW.out.trans (Kept.drewN _ _))⟩
              case measure=>simp[intOf];omega
        · have z1':(ck != 0)=true:=by simpa using z1
          have HB:=lH (show jI l=ck by rw[HS.out,HD.out,jcs (by rw[VG.out];exact z1),VG.out]);clear z1;go_wp2_with fail
          refine(VE.out _ (Kept.refl _)).mono ?_;rintro e w1 ⟨rfl,kk⟩;have KW:=lH kk;clear kk;go_wp2;go_ret;exact⟨jb HB.out.symm,HK.out.trans KW.out⟩
      · have HE:=lH (show jI l=0 by rw[HS.out,List.drop_of_length_le (by rw[HL.out];omega)];rfl);clear hrest hK;go_wp2;go_ret;exact⟨jb HE.out.symm,HK.out⟩
theorem jin {v:Value} {l:List Nod} {c:Int} {w:World} (h:Jz w v l) (hc:jI l=c):Calls Tryz.prog 62 #[v] w (Say (.int .i64 c) w):=by
 subst hc;obtain⟨a,cap,rfl,_,_,hr⟩:=h;exact jeC a _ cap l w hr
def JN (x:NT):Bool:=decide (x.1.size≤50)&&decide (x.2.1.size≤50)
def Zk (l:NL):Bool:=decide (l.length≤20)&&l.all JN
theorem jlt (a:Option Addr) (len cap:Nat) (l:NL) (w:World) (hr:jk ju w a len l) :
 Calls Tryz.prog 122 #[.slice a len cap] w fun e w'=>e=.returned (.bool (Zk l))∧w=w':=by
 have hl:=hr.1;have hm:=hr.2.1;unfold maxLen at hm;by_cases h20:len≤20
 · have HV:=lH (show Zk l=l.all JN by unfold Zk;rw[decide_eq_true (by omega)];rfl);rcases hr.form with h0 | ⟨b,off,rfl⟩
   · subst h0;have HE:=lH (show Zk l=true by rw[HV.out,List.eq_nil_of_length_eq_zero hl];rfl);clear hr hl;go_enter Tryz.func122,Tryz.ntmps122;go_wp2;refine wp_loop_rounds 1 ?_;rw[rounds_succ];go_wp2;go_ret;exact⟨jd HE.out.symm,rfl⟩
   · have HR:=lH hr;have HL:=lH hl;clear hr hl;go_enter Tryz.func122,Tryz.ntmps122;go_wp2;go_loop [3] (fun i=>∃k:Nat,k≤len∧i=.int .i64 k∧(l.drop k).all JN=l.all JN) (fun i=>len-(intOf i).toNat)
     case atStart=>exact⟨0,Nat.zero_le _,rfl,rfl⟩
     case round =>
      obtain⟨k,hk,rfl,hrest⟩:=hrel;by_cases hlt:k<len
      · obtain⟨x,y,m,hx,hd,hb,hz,hz2,c1,c2,c3⟩:=HR.out.tri hlt;have HT:=lH (hrest.symm.trans ((congrArg (fun z=>z.all JN) hd).trans (all_cons _ _ _)));clear hrest hx hd;unfold maxLen at hz hz2;by_cases e:x.size≤50
        · by_cases e2:y.size≤50
          · have E:=lH (show JN (x,y,m)=true by unfold JN;rw[decide_eq_true e,decide_eq_true e2];rfl);go_wp2;go_round
            case rel=>exact⟨k+1,by omega,by go_num,(HT.out.trans (by rw[E.out];exact Bool.true_and _)).symm⟩
            case measure=>simp[intOf];omega
          · have E:=lH (show JN (x,y,m)=false by unfold JN;rw[decide_eq_false e2];exact Bool.and_false _);have e2':50<y.size:=by omega
            clear e2;go_wp2;go_ret;exact⟨jd (HV.out.trans (HT.out.trans (by rw[E.out];exact Bool.false_and _))).symm,rfl⟩
        · have E:=lH (show JN (x,y,m)=false by unfold JN;rw[decide_eq_false e];exact Bool.false_and _);have e':50<x.size:=by omega
          clear e;go_wp2;go_ret;exact⟨jd (HV.out.trans (HT.out.trans (by rw[E.out];exact Bool.false_and _))).symm,rfl⟩
      · have HS:=lH ((HV.out.trans hrest.symm).trans (congrArg (fun z=>z.all JN) (zB (by rw[HL.out];exact hlt))));clear hrest;go_wp2;go_ret;exact⟨jd (HS.out.trans rfl).symm,rfl⟩
 · have HV:=lH (show Zk l=false by unfold Zk;rw[decide_eq_false (by omega)];rfl);have h9:20<len:=by omega
   clear h20 hr hl;go_enter Tryz.func122,Tryz.ntmps122;go_wp2;go_ret;exact⟨jd HV.out.symm,rfl⟩
theorem jlC (a:Option Addr) (len cap:Nat) (l:NL) (w:World) (hr:jk ju w a len l) :
 Calls Tryz.prog 123 #[.slice a len cap] w fun e w'=>e=.returned (.bool (Zk l))∧w=w':=by
 have hl:=hr.1;have hm:=hr.2.1;unfold maxLen at hm;by_cases h20:len≤20
 · have HV:=lH (show Zk l=l.all JN by unfold Zk;rw[decide_eq_true (by omega)];rfl);rcases hr.form with h0 | ⟨b,off,rfl⟩
   · subst h0;have HE:=lH (show Zk l=true by rw[HV.out,List.eq_nil_of_length_eq_zero hl];rfl);clear hr hl;go_enter Tryz.func123,Tryz.ntmps123;go_wp2;refine wp_loop_rounds 1 ?_;rw[rounds_succ];go_wp2;go_ret;exact⟨jd HE.out.symm,rfl⟩
   · have HR:=lH hr;have HL:=lH hl;clear hr hl;go_enter Tryz.func123,Tryz.ntmps123;go_wp2;go_loop [3] (fun i=>∃k:Nat,k≤len∧i=.int .i64 k∧(l.drop k).all JN=l.all JN) (fun i=>len-(intOf i).toNat)
     case atStart=>exact⟨0,Nat.zero_le _,rfl,rfl⟩
     case round =>
      obtain⟨k,hk,rfl,hrest⟩:=hrel;by_cases hlt:k<len
      · obtain⟨x,y,m,hx,hd,hb,hz,hz2,c1,c2,c3⟩:=HR.out.tri hlt;have HT:=lH (hrest.symm.trans ((congrArg (fun z=>z.all JN) hd).trans (all_cons _ _ _)));clear hrest hx hd;unfold maxLen at hz hz2;by_cases e:x.size≤50
        · by_cases e2:y.size≤50
          · have E:=lH (show JN (x,y,m)=true by unfold JN;rw[decide_eq_true e,decide_eq_true e2];rfl);go_wp2;go_round
            case rel=>exact⟨k+1,by omega,by go_num,(HT.out.trans (by rw[E.out];exact Bool.true_and _)).symm⟩
            case measure=>simp[intOf];omega
          · have E:=lH (show JN (x,y,m)=false by unfold JN;rw[decide_eq_false e2];exact Bool.and_false _);have e2':50<y.size:=by omega
            clear e2;go_wp2;go_ret;exact⟨jd (HV.out.trans (HT.out.trans (by rw[E.out];exact Bool.false_and _))).symm,rfl⟩
        · have E:=lH (show JN (x,y,m)=false by unfold JN;rw[decide_eq_false e];exact Bool.false_and _);have e':50<x.size:=by omega
          clear e;go_wp2;go_ret;exact⟨jd (HV.out.trans (HT.out.trans (by rw[E.out];exact Bool.false_and _))).symm,rfl⟩
      · have HS:=lH ((HV.out.trans hrest.symm).trans (congrArg (fun z=>z.all JN) (zB (by rw[HL.out];exact hlt))));clear hrest;go_wp2;go_ret;exact⟨jd (HS.out.trans rfl).symm,rfl⟩
 · have HV:=lH (show Zk l=false by unfold Zk;rw[decide_eq_false (by omega)];rfl);have h9:20<len:=by omega
   clear h20 hr hl;go_enter Tryz.func123,Tryz.ntmps123;go_wp2;go_ret;exact⟨jd HV.out.symm,rfl⟩
theorem joa {v:Value} {l:NL} {w:World} (h:Reads ju w v l):Calls Tryz.prog 122 #[v] w fun e w'=>e=.returned (.bool (Zk l))∧w=w':=by
 obtain⟨a,cap,rfl,_,_,hr⟩:=h;exact jlt a _ cap l w hr
theorem joh {v:Value} {l:NL} {w:World} (h:Reads ju w v l):Calls Tryz.prog 123 #[v] w fun e w'=>e=.returned (.bool (Zk l))∧w=w':=by
 obtain⟨a,cap,rfl,_,_,hr⟩:=h;exact jlC a _ cap l w hr
theorem jhW {s:NL} (h:Zk s=true):s.length≤20∧∀x ∈ s,x.1.size≤50∧x.2.1.size≤50:=by
 unfold Zk at h;simp only[Bool.and_eq_true,decide_eq_true_eq,List.all_eq_true] at h;refine⟨h.1,fun x hx=>?_⟩;have:=h.2 x hx;unfold JN at this;simpa using this
theorem jlO:(Tryz.prog.info? 287).map (fun i=>(i.zero,i.size,i.bytes))=some (some (.agg #[.string ByteArray.empty,.string ByteArray.empty,.bool false]),3,40):=by kernel_rfl
theorem jm2 (a:Option Addr) (len cap:Nat) (l:NL) (w:World) (hr:jk ju w a len l) (hlen:len≤1000000) :
 Calls Tryz.prog 189 #[.slice a len cap] w (fun e w'=>∃x,e=.returned x∧Own ju 287 w' w.heap.size x l∧Kept w w'):=by
 have hl:=hr.1;obtain⟨i0,hi,hz0,hz1,hz2'⟩:=info_parts jlO;rcases hr.form with h0 | ⟨b,off,rfl⟩
 · subst h0;have hl0:l=[]:=List.eq_nil_of_length_eq_zero hl;subst hl0;clear hr hl hi hz0 hz1 hz2';go_enter Tryz.func189,Tryz.ntmps189;go_wp2;refine wp_loop_rounds 1 ?_;rw[rounds_succ];go_wp2;go_ret;exact⟨_,rfl,Own.nil _ _ _,Kept.refl _⟩
 · have HR:=lH hr;have HL:=lH hl;clear hr hl;go_enter Tryz.func189,Tryz.ntmps189;go_wp2;go_loopw [3,4] (fun v i wr=>∃k:Nat,k≤len∧i=.int .i64 k∧Own ju 287 wr w.heap.size v (l.take k)∧Below w.heap.size w wr) (fun _ i _=>len-(intOf i).toNat)
   case atStart=>exact⟨0,Nat.zero_le _,rfl,Own.nil _ _ _,Below.refl _ _⟩
   case round =>
    obtain⟨k,hk,rfl,ho,hB⟩:=hrel;obtain⟨HO,HB,HT⟩:=lH3 ho hB (show (l.take k).length=k by rw[List.length_take,HL.out];omega);have Vj:=lH (show wr.ownsRow w.heap.size 287 3 u3 k (je ju (l.take k)) by have:=HO.out.1;rw[HT.out] at this;exact this);by_cases hlt:k<len
    · obtain⟨x,y,m,hx,hd,hb,hz,hz2,c0,c1,c2⟩:=(HR.out.kept hB).tri hlt;have HX:=lH hx;have hbw:b<w.heap.size:=by obtain⟨z,_,_,h,_⟩:=HR.out.cells hlt;exact h
      have hbase:w.heap.size≤wr.heap.size:=hB.size;have V0:=lH (show u3.ownBlock≠some b by
       intro e;have:=(Vj.out.lt b e).1;omega)
      have VL:=lH (show w.heap.size≤(wr.alloc (.cells #[.string x,.string y,.bool m] 287)).drew.heap.size by simp;omega);have UK:=lH (show Below w.heap.size w ((wr.alloc (.cells #[.string x,.string y,.bool m] 287)).drew) from HB.out.trans (Below.mono ((ja wr _).trans (Kept.drewN _ 1)) hbase));have hk1:(k:Int)<(len:Int):=by omega
      have Ur:=lH (show ju.fine (x,y,m) from⟨hz,hz2⟩);clear ho hB hx hd hz hz2;go_wp2_with fail
      go_region_held3 (fun W=>W.cell? ⟨b,off+k*3,none⟩=some (.string x)∧W.cell? ⟨b,off+k*3+1,none⟩=some (.string y)∧W.cell? ⟨b,off+k*3+2,none⟩=some (.bool m))
       (first
         | go_keep
         | (go_split_ands
            refine⟨?_,?_,?_⟩
            · (refine(hgrow.cell_far ⟨b,off+k*3,none⟩ (by simp;omega) (Ne.symm V0.out)).trans ?_;assumption)
            · (refine(hgrow.cell_far ⟨b,off+k*3+1,none⟩ (by simp;omega) (Ne.symm V0.out)).trans ?_;assumption)
            · (refine(hgrow.cell_far ⟨b,off+k*3+2,none⟩ (by simp;omega) (Ne.symm V0.out)).trans ?_;assumption)))
       ((refine step_append_lies _ (by rfl) _ _ _ (by rfl) w.heap.size 287 i0 _ 3 40 Tryz.underlying119 hi hz0 hz1 hz2' rfl (by decide) u3 k (je ju (l.take k)) (by rfl) ((Vj.out.alloc _).drew)
          ⟨wr.heap.size,0,none⟩ 1 1 [.string x,.string y,.bool m] (by rfl) (by rfl) (World.news_of_block (cs:=#[.string x,.string y,.bool m]) (t:=287) (fr:=(0,0)) (heap_alloc_new wr _)) (jdG x y m)
          (by decide) (by unfold maxLen;omega) (by omega) (by simp;omega) (wr.heap.size+1) (by simp) ?_;intro gg cap1 w1 hown1 hgrow hat hlt1))
      all_goals
       go_wp2;go_roundw
       case rel=>exact⟨k+1,by omega,by go_num,by rw[zI HX.out];exact Own.snoc hown1 (by rw[HT.out]) HO.out.2 Ur.out,UK.out.grown hgrow VL.out (fun j hj=>(Vj.out.lt j hj).1)⟩
       case measure=>simp[intOf];omega
    · have HK:=lH (show l.take k=l by rw[List.take_of_length_le (by rw[HL.out];omega)]);clear ho hB;go_wp2;go_ret;exact⟨_,rfl,by have h:=HO.out;rw[HK.out] at h;exact h,HB.out⟩
theorem jmj:(Tryz.prog.info? 289).map (fun i=>(i.zero,i.size,i.bytes))=some (some (.agg #[.string ByteArray.empty,.string ByteArray.empty,.bool false]),3,40):=by kernel_rfl
theorem jmQ (a:Option Addr) (len cap:Nat) (l:NL) (w:World) (hr:jk ju w a len l) (hlen:len≤1000000) :
 Calls Tryz.prog 191 #[.slice a len cap] w (fun e w'=>∃x,e=.returned x∧Own ju 289 w' w.heap.size x l∧Kept w w'):=by
 have hl:=hr.1;obtain⟨i0,hi,hz0,hz1,hz2'⟩:=info_parts jmj;rcases hr.form with h0 | ⟨b,off,rfl⟩
 · subst h0;have hl0:l=[]:=List.eq_nil_of_length_eq_zero hl;subst hl0;clear hr hl hi hz0 hz1 hz2';go_enter Tryz.func191,Tryz.ntmps191;go_wp2;refine wp_loop_rounds 1 ?_;rw[rounds_succ];go_wp2;go_ret;exact⟨_,rfl,Own.nil _ _ _,Kept.refl _⟩
 · have HR:=lH hr;have HL:=lH hl;clear hr hl;go_enter Tryz.func191,Tryz.ntmps191;go_wp2;go_loopw [3,4] (fun v i wr=>∃k:Nat,k≤len∧i=.int .i64 k∧Own ju 289 wr w.heap.size v (l.take k)∧Below w.heap.size w wr) (fun _ i _=>len-(intOf i).toNat)
   case atStart=>exact⟨0,Nat.zero_le _,rfl,Own.nil _ _ _,Below.refl _ _⟩
   case round =>
    obtain⟨k,hk,rfl,ho,hB⟩:=hrel;obtain⟨HO,HB,HT⟩:=lH3 ho hB (show (l.take k).length=k by rw[List.length_take,HL.out];omega);have Vj:=lH (show wr.ownsRow w.heap.size 289 3 u3 k (je ju (l.take k)) by have:=HO.out.1;rw[HT.out] at this;exact this);by_cases hlt:k<len
    · obtain⟨x,y,m,hx,hd,hb,hz,hz2,c0,c1,c2⟩:=(HR.out.kept hB).tri hlt;have HX:=lH hx;have hbw:b<w.heap.size:=by obtain⟨z,_,_,h,_⟩:=HR.out.cells hlt;exact h
      have hbase:w.heap.size≤wr.heap.size:=hB.size;have V0:=lH (show u3.ownBlock≠some b by
       intro e;have:=(Vj.out.lt b e).1;omega)
      have VL:=lH (show w.heap.size≤(wr.alloc (.cells #[.string x,.string y,.bool m] 289)).drew.heap.size by simp;omega);have UK:=lH (show Below w.heap.size w ((wr.alloc (.cells #[.string x,.string y,.bool m] 289)).drew) from HB.out.trans (Below.mono ((ja wr _).trans (Kept.drewN _ 1)) hbase));have hk1:(k:Int)<(len:Int):=by omega
      have Ur:=lH (show ju.fine (x,y,m) from⟨hz,hz2⟩);clear ho hB hx hd hz hz2;go_wp2_with fail
      go_region_held3 (fun W=>W.cell? ⟨b,off+k*3,none⟩=some (.string x)∧W.cell? ⟨b,off+k*3+1,none⟩=some (.string y)∧W.cell? ⟨b,off+k*3+2,none⟩=some (.bool m))
       (first
         | go_keep
         | (go_split_ands
            refine⟨?_,?_,?_⟩
            · (refine(hgrow.cell_far ⟨b,off+k*3,none⟩ (by simp;omega) (Ne.symm V0.out)).trans ?_;assumption)
            · (refine(hgrow.cell_far ⟨b,off+k*3+1,none⟩ (by simp;omega) (Ne.symm V0.out)).trans ?_;assumption)
            · (refine(hgrow.cell_far ⟨b,off+k*3+2,none⟩ (by simp;omega) (Ne.symm V0.out)).trans ?_;assumption)))
       ((refine step_append_lies _ (by rfl) _ _ _ (by rfl) w.heap.size 289 i0 _ 3 40 Tryz.underlying116 hi hz0 hz1 hz2' rfl (by decide) u3 k (je ju (l.take k)) (by rfl) ((Vj.out.alloc _).drew)
          ⟨wr.heap.size,0,none⟩ 1 1 [.string x,.string y,.bool m] (by rfl) (by rfl) (World.news_of_block (cs:=#[.string x,.string y,.bool m]) (t:=289) (fr:=(0,0)) (heap_alloc_new wr _)) (jdG x y m)
          (by decide) (by unfold maxLen;omega) (by omega) (by simp;omega) (wr.heap.size+1) (by simp) ?_;intro gg cap1 w1 hown1 hgrow hat hlt1))
      all_goals
       go_wp2;go_roundw
       case rel=>exact⟨k+1,by omega,by go_num,by rw[zI HX.out];exact Own.snoc hown1 (by rw[HT.out]) HO.out.2 Ur.out,UK.out.grown hgrow VL.out (fun j hj=>(Vj.out.lt j hj).1)⟩
       case measure=>simp[intOf];omega
    · have HK:=lH (show l.take k=l by rw[List.take_of_length_le (by rw[HL.out];omega)]);clear ho hB;go_wp2;go_ret;exact⟨_,rfl,by have h:=HO.out;rw[HK.out] at h;exact h,HB.out⟩
def jcW (W:World) (N:Nat):Prop:=∀o x u,W.cell? ⟨N,o,none⟩=some (.string x)→W.cell? ⟨N,o+1,none⟩=some u→∃a n c,u=.slice a n c
theorem jkf {W:World} {N:Nat} {x:ByteArray} {a1 a2 a3:Option Addr} {m1 c1 m2 c2 m3 c3:Nat} {b:Bool} {T:TypeId} {fr:Nat×Nat} (hh:W.heap[N]?=some (.cells #[.string x,.slice a1 m1 c1,.slice a2 m2 c2,.slice a3 m3 c3,.bool b] T fr)):jcW W N:=by
 intro o y u h1 h2;rw[Lib.cell_of_heap hh] at h1 h2
 match o,h1,h2 with
 | 0,_,h2=>exact⟨a1,m1,c1,by simpa using h2.symm⟩
 | 1,h1,_=>simp at h1
 | 2,h1,_=>simp at h1
 | 3,h1,_=>simp at h1
 | 4,h1,_=>simp at h1
 | o+5,h1,_=>simp at h1
theorem jfI {w w':World} {v:Value} {l:Vec.V} {N:Nat} (h:Vec.Reads w v l) (hs:w'.heap.size=w.heap.size) (hb:∀b,b≠N→w'.heap[b]?=w.heap[b]?) (hn:jcW w N):Vec.Reads w' v l:=by
 obtain⟨a,cap,rfl,h1,h2,h3,h4,h5,h6⟩:=h;refine⟨a,cap,rfl,h1,h2,h3,h4,h5,?_⟩;rcases h6 with h6 | ⟨b,off,rfl,hlt,hc⟩
 · exact .inl h6
 · by_cases h0:l.length=0
   · exact .inl h0
   · have hne:b≠N:=by
      rintro rfl;obtain⟨c0,c1⟩:=hc 0 (by omega);obtain⟨_,_,_,e⟩:=hn _ _ _ c0 c1
      cases e
     exact .inr ⟨b,off,rfl,by rw[hs];exact hlt,fun i hi=>⟨(World.cell?_of_block (a:=⟨b,off+i*2,none⟩) (hb b hne)).trans (hc i hi).1,(World.cell?_of_block (a:=⟨b,off+i*2+1,none⟩) (hb b hne)).trans (hc i hi).2⟩⟩
theorem jcB {α:Type} {L:Lay α} {w w':World} {v:Value} {l:List α} {N:Nat} (hL:∀x,∃s t,(L.cs x)[0]?=some (.string s)∧(L.cs x)[1]?=some (.string t)) (h:Reads L w v l) (hs:w'.heap.size=w.heap.size) (hb:∀b,b≠N→w'.heap[b]?=w.heap[b]?) (hn:jcW w N):Reads L w' v l:=by
 obtain⟨a,cap,rfl,h1,h2,h3,h4,h5,h6⟩:=h;refine⟨a,cap,rfl,h1,h2,h3,h4,h5,?_⟩;rcases h6 with h6 | ⟨b,off,rfl,hlt,hc⟩
 · exact .inl h6
 · cases l with
   | nil=>exact .inl rfl
   | cons x t =>
    have hne:b≠N:=by
     rintro rfl;obtain⟨s,u,g0,g1⟩:=hL x;have c0:=hc 0 x 0 _ rfl g0;have c1:=hc 0 x 1 _ rfl g1;obtain⟨_,_,_,e⟩:=hn _ _ _ c0 c1
     cases e
    exact .inr ⟨b,off,rfl,by rw[hs];exact hlt,fun i x j u hi hj=>(World.cell?_of_block (a:=⟨b,off+i*L.m+j,none⟩) (hb b hne)).trans (hc i x j u hi hj)⟩
theorem jnU (x:ByteArray×ByteArray):∃s t,(jz.cs x)[0]?=some (.string s)∧(jz.cs x)[1]?=some (.string t):=⟨x.1,x.2,rfl,rfl⟩
theorem jnK (x:NT):∃s t,(ju.cs x)[0]?=some (.string s)∧(ju.cs x)[1]?=some (.string t):=⟨x.1,x.2.1,rfl,rfl⟩
theorem jbh {w w':World} {v1 v2 v3:Value} {n:Nod} {N:Nat} (h:zr w v1 v2 v3 n) (hs:w'.heap.size=w.heap.size) (hb:∀b,b≠N→w'.heap[b]?=w.heap[b]?) (hn:jcW w N):zr w' v1 v2 v3 n :=
 ⟨h.size,jfI h.cap hs hb hn,jcB jnU h.labels hs hb hn,jcB jnK h.taints hs hb hn⟩
abbrev SX:=Option Addr×Nat×Nat
abbrev NX:=Nod×SX×SX×SX
abbrev slV (x:SX):Value:=.slice x.1 x.2.1 x.2.2
abbrev joN (z:NX):Value:=.agg #[.string z.1.name,slV z.2.1,slV z.2.2.1,slV z.2.2.2,.bool z.1.cordon]
def At3 (w:World) (z:NX):Prop:=zr w (slV z.2.1) (slV z.2.2.1) (slV z.2.2.2) z.1
def XG (lo hi:Nat) (z:NX):Prop:=(∀b off sp,z.2.1.1=some ⟨b,off,sp⟩→lo≤b∧b<hi)∧(∀b off sp,z.2.2.1.1=some ⟨b,off,sp⟩→lo≤b∧b<hi)∧(∀b off sp,z.2.2.2.1=some ⟨b,off,sp⟩→lo≤b∧b<hi)
theorem jeq {T:TypeId} {w w':World} {e:Ending} {l:Vec.V} (h:∃x,e=.returned x∧Vec.jT T w' w.heap.size x l∧Kept w w'):∃a m c,e=.returned (.slice a m c)∧Vec.Reads w' (.slice a m c) l∧(∀b off sp,a=some ⟨b,off,sp⟩→w.heap.size≤b∧b<w'.heap.size)∧Kept w w':=by
 obtain⟨x,rfl,ho,k⟩:=h;obtain⟨a,cap,rfl,h⟩:=ho.at_;exact⟨a,_,cap,rfl,⟨a,cap,rfl,h⟩,fun b off sp e=>ho.1.lt b (by subst e;rfl),k⟩
theorem YE {α:Type} {L:Lay α} {T:TypeId} {w w':World} {e:Ending} {l:List α} (h:∃x,e=.returned x∧Own L T w' w.heap.size x l∧Kept w w'):∃a m c,e=.returned (.slice a m c)∧Reads L w' (.slice a m c) l∧(∀b off sp,a=some ⟨b,off,sp⟩→w.heap.size≤b∧b<w'.heap.size)∧Kept w w':=by
 obtain⟨x,rfl,ho,k⟩:=h;obtain⟨a,cap,rfl,h⟩:=ho.at_;exact⟨a,_,cap,rfl,⟨a,cap,rfl,h⟩,fun b off sp e=>ho.1.lt b (by subst e;rfl),k⟩
theorem jnZ {v:Value} {l:Vec.V} {w:World} (h:Vec.Reads w v l) (hf:l.length≤1000000) :
 Calls Tryz.prog 187 #[v] w (fun e w'=>∃x,e=.returned x∧Vec.jT 196 w' w.heap.size x l∧Kept w w'):=by
 obtain⟨a,cap,rfl,h1,h2,h3⟩:=h;exact Vec.jfA a _ cap l w h3 hf
theorem jny {v:Value} {l:PL} {w:World} (h:Reads jz w v l) (hf:l.length≤1000000) :
 Calls Tryz.prog 188 #[v] w (fun e w'=>∃x,e=.returned x∧Own jz 286 w' w.heap.size x l∧Kept w w'):=by
 obtain⟨a,cap,rfl,h1,h2,h3⟩:=h;exact jfA a _ cap l w h3 hf
theorem joB {v:Value} {l:NL} {w:World} (h:Reads ju w v l) (hf:l.length≤1000000) :
 Calls Tryz.prog 189 #[v] w (fun e w'=>∃x,e=.returned x∧Own ju 287 w' w.heap.size x l∧Kept w w'):=by
 obtain⟨a,cap,rfl,h1,h2,h3⟩:=h;exact jm2 a _ cap l w h3 hf
theorem jjM {W:World} {q p:Nat} {v0 v1 v2 v3 v4 u0 u1 u2 u3 u4:Value} (h:W.cell? ⟨p,0,none⟩=some v0∧W.cell? ⟨p,1,none⟩=some v1∧W.cell? ⟨p,2,none⟩=some v2∧W.cell? ⟨p,3,none⟩=some v3∧W.cell? ⟨p,4,none⟩=some v4) (hne:p≠q) :
 ((((((W.setCell ⟨q,0,none⟩ u0).setCell ⟨q,1,none⟩ u1).setCell ⟨q,2,none⟩ u2).setCell ⟨q,3,none⟩ u3).setCell ⟨q,4,none⟩ u4).cell? ⟨p,0,none⟩=some v0∧(((((W.setCell ⟨q,0,none⟩ u0).setCell ⟨q,1,none⟩ u1).setCell ⟨q,2,none⟩ u2).setCell ⟨q,3,none⟩ u3).setCell ⟨q,4,none⟩ u4).cell? ⟨p,1,none⟩=some v1∧(((((W.setCell ⟨q,0,none⟩ u0).setCell ⟨q,1,none⟩ u1).setCell ⟨q,2,none⟩ u2).setCell ⟨q,3,none⟩ u3).setCell ⟨q,4,none⟩ u4).cell? ⟨p,2,none⟩=some v2∧(((((W.setCell ⟨q,0,none⟩ u0).setCell ⟨q,1,none⟩ u1).setCell ⟨q,2,none⟩ u2).setCell ⟨q,3,none⟩ u3).setCell ⟨q,4,none⟩ u4).cell? ⟨p,3,none⟩=some v3∧(((((W.setCell ⟨q,0,none⟩ u0).setCell ⟨q,1,none⟩ u1).setCell ⟨q,2,none⟩ u2).setCell ⟨q,3,none⟩ u3).setCell ⟨q,4,none⟩ u4).cell? ⟨p,4,none⟩=some v4):=by
 have hb:=jcU W q u0 u1 u2 u3 u4 p hne;exact⟨(World.cell?_of_block (a:=⟨p,0,none⟩) hb).trans h.1,(World.cell?_of_block (a:=⟨p,1,none⟩) hb).trans h.2.1,(World.cell?_of_block (a:=⟨p,2,none⟩) hb).trans h.2.2.1,(World.cell?_of_block (a:=⟨p,3,none⟩) hb).trans h.2.2.2.1,(World.cell?_of_block (a:=⟨p,4,none⟩) hb).trans h.2.2.2.2⟩
theorem jmR (n:Nod) (v1 v2 v3:Value) (w:World) (h:zr w v1 v2 v3 n) (hl:zP n) :
 Calls Tryz.prog 129 #[zj n v1 v2 v3] w fun e w'=>∃z:NX,e=.returned (joN z)∧z.1=n∧At3 w' z∧XG w.heap.size w'.heap.size z∧Kept w w':=by
 obtain⟨W0,hW0⟩:=eX ((w.alloc (.cells #[.string n.name,v1,v2,v3,.bool n.cordon] 57)).alloc (.cells #[.string ⟨#[]⟩,.slice none 0 0,.slice none 0 0,.slice none 0 0,.bool false] 121))
 have hk0:Kept w W0:=by rw[←hW0];exact jn _ _ _
 have HB:=lH (show ∀W,Kept W0 W→W.cell? ⟨w.heap.size,0,none⟩=some (.string n.name)∧W.cell? ⟨w.heap.size,1,none⟩=some v1∧W.cell? ⟨w.heap.size,2,none⟩=some v2∧W.cell? ⟨w.heap.size,3,none⟩=some v3∧W.cell? ⟨w.heap.size,4,none⟩=some (.bool n.cordon) from fun W k=>(Xl w _ _ _ _ _ 57 W ((by rw[←hW0];exact ja _ _:Kept (w.alloc (.cells #[.string n.name,v1,v2,v3,.bool n.cordon] 57)) W0).trans k)).1);have HQ:=lH (show ∀W,Kept W0 W→zA (w.heap.size+1) (.string ⟨#[]⟩) (.slice none 0 0) (.slice none 0 0) (.slice none 0 0) (.bool false) W from fun W k=>by
  have:=Xl (w.alloc (.cells #[.string n.name,v1,v2,v3,.bool n.cordon] 57)) (.string ⟨#[]⟩) (.slice none 0 0) (.slice none 0 0) (.slice none 0 0) (.bool false) 121 W (by rw[hW0];exact k);rw[World.size_alloc] at this;exact this)
 have HH:=lH (show W0.heap[w.heap.size+1]?=some (.cells #[.string ⟨#[]⟩,.slice none 0 0,.slice none 0 0,.slice none 0 0,.bool false] 121) by
  have:=(w.alloc (.cells #[.string n.name,v1,v2,v3,.bool n.cordon] 57)).alloc_heap_new (.cells #[.string ⟨#[]⟩,.slice none 0 0,.slice none 0 0,.slice none 0 0,.bool false] 121);rw[hW0,World.size_alloc] at this;exact this)
 obtain⟨H1,H2,H3,TU,Va⟩:=lH5 (fun W (k:Kept W0 W)=>(jnZ (h.cap.kept (hk0.trans k)) hl.cap).mono fun _ _=>jeq) (fun W (k:Kept W0 W)=>(jny (h.labels.kept (hk0.trans k)) hl.labels).mono fun _ _=>YE) (fun W (k:Kept W0 W)=>(joB (h.taints.kept (hk0.trans k)) hl.taints).mono fun _ _=>YE) h.size hk0;obtain⟨⟨nm,l1,l2,l3,cd⟩,hnn⟩:∃m,m=n:=⟨n,rfl⟩
 subst hnn;dsimp only at H1 H2 H3 TU HB hW0;obtain⟨b0,b1,b2,b3,b4⟩:=HB.out _ (Kept.refl _);clear h hl hk0;unfold zj;dsimp only;go_enter Tryz.func129,Tryz.ntmps129;go_wp2;try rw[hW0]
 clear hW0
 go_region_held3 (fun W=>(W.cell? ⟨w.heap.size,0,none⟩=some (.string nm)∧W.cell? ⟨w.heap.size,1,none⟩=some v1∧W.cell? ⟨w.heap.size,2,none⟩=some v2∧W.cell? ⟨w.heap.size,3,none⟩=some v3∧W.cell? ⟨w.heap.size,4,none⟩=some (.bool cd)))
  (first | exact HB.out _ (Kept.drew _) | exact HB.out _ K1.out | exact HB.out _ K2.out | exact HB.out _ K3.out | exact jjM (HB.out _ K3.out) (by omega))
  (first | (go_at_call 187;refine(H1.out _ (Kept.drew _)).mono ?_;rintro e1 w1 ⟨a1,m1,c1,rfl,r1,g1,k1⟩;obtain⟨G1,K1,R1⟩:=lH3 (show ∀b off sp,a1=some ⟨b,off,sp⟩→w.heap.size≤b∧b<w1.heap.size from fun b o s e=>⟨Nat.le_trans Va.out.size (g1 b o s e).1,(g1 b o s e).2⟩) ((Kept.drew _).trans k1) r1;clear k1 r1 g1)
         | (go_at_call 188;refine(H2.out _ K1.out).mono ?_;rintro e2 w2 ⟨a2,m2,c2,rfl,r2,g2,k2⟩;obtain⟨G2,G1,R1,K2,R2⟩:=lH5 (show ∀b off sp,a2=some ⟨b,off,sp⟩→w.heap.size≤b∧b<w2.heap.size from fun b o s e=>⟨Nat.le_trans Va.out.size (Nat.le_trans K1.out.size (g2 b o s e).1),(g2 b o s e).2⟩) (show ∀b off sp,a1=some ⟨b,off,sp⟩→w.heap.size≤b∧b<w2.heap.size from fun b o s e=>⟨(G1.out b o s e).1,Nat.lt_of_lt_of_le (G1.out b o s e).2 k2.size⟩) (R1.out.kept k2) (K1.out.trans k2) r2;clear k2 r2 g2)
         | (go_at_call 189;refine(H3.out _ K2.out).mono ?_;rintro e3 w3 ⟨a3,m3,c3,rfl,r3,g3,k3⟩;obtain⟨G3,G1,G2,R1,R2,K3,R3⟩:=lH7 (show ∀b off sp,a3=some ⟨b,off,sp⟩→w.heap.size≤b∧b<w3.heap.size from fun b o s e=>⟨Nat.le_trans Va.out.size (Nat.le_trans K2.out.size (g3 b o s e).1),(g3 b o s e).2⟩) (show ∀b off sp,a1=some ⟨b,off,sp⟩→w.heap.size≤b∧b<w3.heap.size from fun b o s e=>⟨(G1.out b o s e).1,Nat.lt_of_lt_of_le (G1.out b o s e).2 k3.size⟩) (show ∀b off sp,a2=some ⟨b,off,sp⟩→w.heap.size≤b∧b<w3.heap.size from fun b o s e=>⟨(G2.out b o s e).1,Nat.lt_of_lt_of_le (G2.out b o s e).2 k3.size⟩) (R1.out.kept k3) (R2.out.kept k3) (K2.out.trans k3) r3;clear k3 r3 g3;obtain⟨⟨y0,y1,y2,y3,y4⟩,x0,x1,x2,x3,x4⟩:=HQ.out _ K3.out))
 have P:=lH (ZC ⟨y0,y1,y2,y3,y4⟩ nm a1 a2 a3 m1 c1 m2 c2 m3 c3 cd);have HZ:=lH ((K3.out.block (w.heap.size+1) (Array.getElem?_eq_some_iff.1 HH.out).1).trans HH.out);go_wp2;obtain⟨WE,hWE⟩:=eX ((((((w3.setCell ⟨w.heap.size+1,0,none⟩ (.string nm)).setCell ⟨w.heap.size+1,1,none⟩ (.slice a1 m1 c1)).setCell ⟨w.heap.size+1,2,none⟩ (.slice a2 m2 c2)).setCell ⟨w.heap.size+1,3,none⟩ (.slice a3 m3 c3)).setCell ⟨w.heap.size+1,4,none⟩ (.bool cd)))
 rw[hWE] at P ⊢;clear hWE y0 y1 y2 y3 y4 x0 x1 x2 x3 x4;obtain⟨⟨d0,d1,d2,d3,d4⟩,hsz,hbl,hkp⟩:=P.out;refine bodyPost_ret (by simp[results,Tryz.results129,go_sem,d0,d1,d2,d3,d4];try rfl) rfl ?_;exact⟨(⟨nm,l1,l2,l3,cd⟩,(a1,m1,c1),(a2,m2,c2),(a3,m3,c3)),rfl,rfl,jbh (n:=⟨nm,l1,l2,l3,cd⟩) ⟨TU.out,R1.out,R2.out,R3.out⟩ hsz hbl (jkf HZ.out),⟨fun b o s e=>by rw[hsz];exact G1.out b o s e,fun b o s e=>by rw[hsz];exact G2.out b o s e,fun b o s e=>by rw[hsz];exact G3.out b o s e⟩,hkp _ _ (Nat.le_succ _) (Va.out.trans K3.out)⟩
open Go.ChangeShapes Go.WideShapes Go.ChangeAt Go.RowKit Go.Deep
theorem ZF:Tryz.prog.cellsOf 9=1:=by kernel_rfl
theorem zJ {α:Type} (L:Lay α) {t e:TypeId} (ht:Tryz.prog.underlying t=some (.slice e)) (hc:Tryz.prog.cellsOf e=L.m) {H:Type} {enc:TypeId×Value→H} {w:World} {base fuel:Nat} {sp:Nat→Bool} {held:Bool} {v:Value} {x:DataW H×List MemPlace}
 (el:∀(m:Nat) (cs:List Value) (x:DataW H×List MemPlace),DataW.trod enc Tryz.prog w base sp held m e cs=some x→∃a,cs=L.cs a∧L.fine a)
 (h:DataW.trod enc Tryz.prog w base sp held fuel t [v]=some x):∃l,Reads L w v l:=by
 rcases open_slice ht h with ⟨hcs,-⟩ | ⟨a,len,cap,m,n,D,Pl,hcs,hb,hl,hm,hmm,hx,hi⟩
 · cases hcs;exact⟨[],Reads.nil w⟩
 · cases hcs
   have hlm:len≤m:=by rw[hmm];split<;>omega
   have key:∀k,k≤len→∃l:List α,l.length=k∧(∀z ∈ l,L.fine z)∧∀i z j u,l[i]?=some z→(L.cs z)[j]?=some u→w.cell? ((a.add (i*L.m)).add j)=some u:=by
    intro k
    induction k with
    | zero=>exact fun _=>⟨[],rfl,(fun z hz=>by cases hz),(fun i z j u hi _=>by simp at hi)⟩
    | succ k ih =>
     intro hk;obtain⟨l,e,hfine,hall⟩:=ih (by omega);obtain⟨cs',hcc,ht'⟩:=hi k (by omega);obtain⟨z0,rfl,hz0⟩:=el _ _ _ ht';rw[hc] at hcc;obtain⟨-,-,hat⟩:=World.cells?_some hcc;refine⟨l++[z0],by simp[e],fun z hz=>?_,fun i z j u hi' hj=>?_⟩
     · rcases List.mem_append.1 hz with g | g
       · exact hfine z g
       · have:z=z0:=by simpa using g
         rw[this];exact hz0
     · by_cases e2:i=k
       · subst e2;have:z0=z:=by simpa [e] using hi'
         subst this;have hjl:j<L.m:=by have:=(List.getElem?_eq_some_iff.1 hj).1;rw[L.len] at this;exact this
         rw[hat j hjl];exact hj
       · have hik:i<l.length:=by have:=(List.getElem?_eq_some_iff.1 hi').1;simp at this;omega
         rw[List.getElem?_append_left hik] at hi';exact hall i z j u hi' hj
   obtain⟨l,e,hfine,hall⟩:=key len (Nat.le_refl _);subst e;refine⟨l,_,cap,rfl,hl,hm,rfl,Nat.le_trans hl hm,hfine,?_⟩;by_cases h0:l.length=0
   · exact .inl h0
   · obtain⟨b,off,spot⟩:=a;have hg:l[0]?=some (l[0]'(by omega)):=List.getElem?_eq_getElem (by omega);have hlz:=L.len (l[0]'(by omega));have hcz:(L.cs (l[0]'(by omega)))[0]?=some ((L.cs (l[0]'(by omega)))[0]'(by rw[hlz];exact L.pos)):=List.getElem?_eq_getElem (by rw[hlz];exact L.pos);have hcell0:=hall 0 _ 0 _ hg hcz;have hspot:spot=none:=by simpa [Addr.add] using World.cell?_spot hcell0
     subst hspot;have hcell:∀i z j u,l[i]?=some z→(L.cs z)[j]?=some u→w.cell? ⟨b,off+i*L.m+j,none⟩=some u:=fun i z j u hi' hj=>by
      have c:=hall i z j u hi' hj;have e:((⟨b,off,none⟩:Addr).add (i*L.m)).add j=⟨b,off+i*L.m+j,none⟩:=by
       unfold Addr.add;split<;>split<;>simp_all
      rw[e] at c;exact c
     exact .inr ⟨b,off,rfl,World.block_lt_of_cell? _ _ (hcell 0 _ 0 _ hg hcz),hcell⟩
theorem jjP:Tryz.prog.cellsOf 156=2:=by kernel_rfl
theorem jkW:Tryz.prog.cellsOf 162=3:=by kernel_rfl
theorem qz:Tryz.prog.cellsOf 3=1:=by kernel_rfl
theorem jfP {H:Type} {enc:TypeId×Value→H} {w:World} {base fuel:Nat} {sp:Nat→Bool} {held:Bool} {cs:List Value} {x:DataW H×List MemPlace} (h:DataW.trod enc Tryz.prog w base sp held fuel 156 cs=some x) :
 ∃a:ByteArray×ByteArray,cs=jz.cs a∧jz.fine a:=by
 obtain⟨ys,m,-,-,hlen,hyl,hf⟩:=DataW.trod_struct Tryz.underlying156 h;rw[jjP] at hlen
 match cs,hlen with
 | [c0,c1],_ =>
  have h0:DataW.trod enc Tryz.prog w base sp held m 9 (([c0,c1].drop 0).take (Tryz.prog.cellsOf 9))=ys[0]?:=hf 0 _ rfl;have h1:DataW.trod enc Tryz.prog w base sp held m 9 (([c0,c1].drop 1).take (Tryz.prog.cellsOf 9))=ys[1]?:=hf 1 _ rfl;rw[ZF] at h0 h1;obtain⟨y0,e0⟩:∃y,ys[0]?=some y:=⟨_,List.getElem?_eq_getElem (by rw[hyl];decide)⟩
  obtain⟨y1,e1⟩:∃y,ys[1]?=some y:=⟨_,List.getElem?_eq_getElem (by rw[hyl];decide)⟩
  rw[e0] at h0;rw[e1] at h1;obtain⟨s,q0,-,hs⟩:=DataW.trod_string Tryz.underlying9 h0;obtain⟨t,q1,-,ht⟩:=DataW.trod_string Tryz.underlying9 h1;simp only[List.drop_zero,List.take_succ_cons,List.take_zero,List.cons.injEq,and_true,List.drop_succ_cons] at q0 q1;subst q0;subst q1;exact⟨(s,t),rfl,hs,ht⟩
theorem je3 {H:Type} {enc:TypeId×Value→H} {w:World} {base fuel:Nat} {sp:Nat→Bool} {held:Bool} {cs:List Value} {x:DataW H×List MemPlace} (h:DataW.trod enc Tryz.prog w base sp held fuel 162 cs=some x) :
 ∃a:Int×ByteArray×ByteArray,cs=jP.cs a∧jP.fine a:=by
 obtain⟨ys,m,-,-,hlen,hyl,hf⟩:=DataW.trod_struct Tryz.underlying162 h;rw[jkW] at hlen
 match cs,hlen with
 | [c0,c1,c2],_ =>
  have h0:DataW.trod enc Tryz.prog w base sp held m 3 (([c0,c1,c2].drop 0).take (Tryz.prog.cellsOf 3))=ys[0]?:=hf 0 _ rfl;have h1:DataW.trod enc Tryz.prog w base sp held m 9 (([c0,c1,c2].drop 1).take (Tryz.prog.cellsOf 9))=ys[1]?:=hf 1 _ rfl;have h2:DataW.trod enc Tryz.prog w base sp held m 9 (([c0,c1,c2].drop 2).take (Tryz.prog.cellsOf 9))=ys[2]?:=hf 2 _ rfl;rw[ZF] at h1 h2;rw[qz] at h0;obtain⟨y0,e0⟩:∃y,ys[0]?=some y:=⟨_,List.getElem?_eq_getElem (by rw[hyl];decide)⟩
  obtain⟨y1,e1⟩:∃y,ys[1]?=some y:=⟨_,List.getElem?_eq_getElem (by rw[hyl];decide)⟩
  obtain⟨y2,e2⟩:∃y,ys[2]?=some y:=⟨_,List.getElem?_eq_getElem (by rw[hyl];decide)⟩
  rw[e0] at h0;rw[e1] at h1;rw[e2] at h2;obtain⟨n,q0,-,hn⟩:=DataW.trod_int Tryz.underlying3 h0;obtain⟨s,q1,-,hs⟩:=DataW.trod_string Tryz.underlying9 h1;obtain⟨t,q2,-,ht⟩:=DataW.trod_string Tryz.underlying9 h2;simp only[List.drop_zero,List.take_succ_cons,List.take_zero,List.cons.injEq,and_true,List.drop_succ_cons] at q0 q1 q2;subst q0;subst q1;subst q2;exact⟨(n,s,t),rfl,bounds_i64 hn,hs,ht⟩
theorem jbF {H:Type} {enc:TypeId×Value→H} {w:World} {base fuel:Nat} {sp:Nat→Bool} {held:Bool} {v:Value} {x:DataW H×List MemPlace} (h:DataW.trod enc Tryz.prog w base sp held fuel 39 [v]=some x):∃l,Reads jz w v l :=
 zJ jz Tryz.underlying39 jjP (fun _ _ _ h=>jfP h) h
theorem jbK {H:Type} {enc:TypeId×Value→H} {w:World} {base fuel:Nat} {sp:Nat→Bool} {held:Bool} {v:Value} {x:DataW H×List MemPlace} (h:DataW.trod enc Tryz.prog w base sp held fuel 41 [v]=some x):∃l,Reads jP w v l :=
 zJ jP Tryz.underlying41 jkW (fun _ _ _ h=>je3 h) h
theorem jcz:Tryz.prog.cellsOf 4=1:=by kernel_rfl
theorem jkd:Tryz.prog.cellsOf 159=3:=by kernel_rfl
theorem jgu {H:Type} {enc:TypeId×Value→H} {w:World} {base fuel:Nat} {sp:Nat→Bool} {held:Bool} {cs:List Value} {x:DataW H×List MemPlace} (h:DataW.trod enc Tryz.prog w base sp held fuel 159 cs=some x) :
 ∃a:NT,cs=ju.cs a∧ju.fine a:=by
 obtain⟨ys,m,-,-,hlen,hyl,hf⟩:=DataW.trod_struct Tryz.underlying159 h;rw[jkd] at hlen
 match cs,hlen with
 | [c0,c1,c2],_ =>
  have h0:DataW.trod enc Tryz.prog w base sp held m 9 (([c0,c1,c2].drop 0).take (Tryz.prog.cellsOf 9))=ys[0]?:=hf 0 _ rfl;have h1:DataW.trod enc Tryz.prog w base sp held m 9 (([c0,c1,c2].drop 1).take (Tryz.prog.cellsOf 9))=ys[1]?:=hf 1 _ rfl;have h2:DataW.trod enc Tryz.prog w base sp held m 4 (([c0,c1,c2].drop 2).take (Tryz.prog.cellsOf 4))=ys[2]?:=hf 2 _ rfl;rw[ZF] at h0 h1;rw[jcz] at h2;obtain⟨y0,e0⟩:∃y,ys[0]?=some y:=⟨_,List.getElem?_eq_getElem (by rw[hyl];decide)⟩
  obtain⟨y1,e1⟩:∃y,ys[1]?=some y:=⟨_,List.getElem?_eq_getElem (by rw[hyl];decide)⟩
  obtain⟨y2,e2⟩:∃y,ys[2]?=some y:=⟨_,List.getElem?_eq_getElem (by rw[hyl];decide)⟩
  rw[e0] at h0;rw[e1] at h1;rw[e2] at h2;obtain⟨s,q0,-,hs⟩:=DataW.trod_string Tryz.underlying9 h0;obtain⟨t,q1,-,ht⟩:=DataW.trod_string Tryz.underlying9 h1;obtain⟨b,q2,-⟩:=DataW.trod_bool Tryz.underlying4 h2;simp only[List.drop_zero,List.take_succ_cons,List.take_zero,List.cons.injEq,and_true,List.drop_succ_cons] at q0 q1 q2;subst q0;subst q1;subst q2;exact⟨(s,t,b),rfl,hs,ht⟩
theorem jfh {H:Type} {enc:TypeId×Value→H} {w:World} {base fuel:Nat} {sp:Nat→Bool} {held:Bool} {v:Value} {x:DataW H×List MemPlace} (h:DataW.trod enc Tryz.prog w base sp held fuel 55 [v]=some x):∃l,Reads ju w v l :=
 zJ ju Tryz.underlying55 jkd (fun _ _ _ h=>jgu h) h
theorem jkk:Tryz.prog.cellsOf 165=3:=by kernel_rfl
theorem jfy {H:Type} {enc:TypeId×Value→H} {w:World} {base fuel:Nat} {sp:Nat→Bool} {held:Bool} {cs:List Value} {x:DataW H×List MemPlace} (h:DataW.trod enc Tryz.prog w base sp held fuel 165 cs=some x) :
 ∃a:NT,cs=ju.cs a∧ju.fine a:=by
 obtain⟨ys,m,-,-,hlen,hyl,hf⟩:=DataW.trod_struct Tryz.underlying165 h;rw[jkk] at hlen
 match cs,hlen with
 | [c0,c1,c2],_ =>
  have h0:DataW.trod enc Tryz.prog w base sp held m 9 (([c0,c1,c2].drop 0).take (Tryz.prog.cellsOf 9))=ys[0]?:=hf 0 _ rfl;have h1:DataW.trod enc Tryz.prog w base sp held m 9 (([c0,c1,c2].drop 1).take (Tryz.prog.cellsOf 9))=ys[1]?:=hf 1 _ rfl;have h2:DataW.trod enc Tryz.prog w base sp held m 4 (([c0,c1,c2].drop 2).take (Tryz.prog.cellsOf 4))=ys[2]?:=hf 2 _ rfl;rw[ZF] at h0 h1;rw[jcz] at h2;obtain⟨y0,e0⟩:∃y,ys[0]?=some y:=⟨_,List.getElem?_eq_getElem (by rw[hyl];decide)⟩
  obtain⟨y1,e1⟩:∃y,ys[1]?=some y:=⟨_,List.getElem?_eq_getElem (by rw[hyl];decide)⟩
  obtain⟨y2,e2⟩:∃y,ys[2]?=some y:=⟨_,List.getElem?_eq_getElem (by rw[hyl];decide)⟩
  rw[e0] at h0;rw[e1] at h1;rw[e2] at h2;obtain⟨s,q0,-,hs⟩:=DataW.trod_string Tryz.underlying9 h0;obtain⟨t,q1,-,ht⟩:=DataW.trod_string Tryz.underlying9 h1;obtain⟨b,q2,-⟩:=DataW.trod_bool Tryz.underlying4 h2;simp only[List.drop_zero,List.take_succ_cons,List.take_zero,List.cons.injEq,and_true,List.drop_succ_cons] at q0 q1 q2;subst q0;subst q1;subst q2;exact⟨(s,t,b),rfl,hs,ht⟩
theorem jfC {H:Type} {enc:TypeId×Value→H} {w:World} {base fuel:Nat} {sp:Nat→Bool} {held:Bool} {v:Value} {x:DataW H×List MemPlace} (h:DataW.trod enc Tryz.prog w base sp held fuel 42 [v]=some x):∃l,Reads ju w v l :=
 zJ ju Tryz.underlying42 jkk (fun _ _ _ h=>jfy h) h
theorem jms (x:NX) (u:Value) (h:u ∈ [Value.string x.1.name,slV x.2.1,slV x.2.2.1,slV x.2.2.2,.bool x.1.cordon]):u.oneCell'=true:=by
 simp only[List.mem_cons,List.not_mem_nil,or_false] at h;rcases h with rfl | rfl | rfl | rfl | rfl<;>rfl
def jgn (w:World):Lay NX:={ m:=5,cs:=fun x=>[.string x.1.name,slV x.2.1,slV x.2.2.1,slV x.2.2.2,.bool x.1.cordon],fine:=fun x=>zr w (slV x.2.1) (slV x.2.2.1) (slV x.2.2.2) x.1,len:=fun _=>rfl,one:=jms,pos:=by decide }
theorem jko:Tryz.prog.cellsOf 37=1:=by kernel_rfl
theorem jkC:Tryz.prog.cellsOf 39=1:=by kernel_rfl
theorem jne:Tryz.prog.cellsOf 55=1:=by kernel_rfl
theorem jj5:Tryz.prog.cellsOf 57=5:=by kernel_rfl
theorem jfN {H:Type} {enc:TypeId×Value→H} {w:World} {base fuel:Nat} {sp:Nat→Bool} {held:Bool} {cs:List Value} {x:DataW H×List MemPlace} (h:DataW.trod enc Tryz.prog w base sp held fuel 57 cs=some x) :
 ∃a:NX,cs=(jgn w).cs a∧(jgn w).fine a:=by
 obtain⟨ys,m,-,-,hlen,hyl,hf⟩:=DataW.trod_struct Tryz.underlying57 h;rw[jj5] at hlen
 match cs,hlen with
 | [c0,c1,c2,c3,c4],_ =>
  have h0:DataW.trod enc Tryz.prog w base sp held m 9 (([c0,c1,c2,c3,c4].drop 0).take (Tryz.prog.cellsOf 9))=ys[0]?:=hf 0 _ rfl;have h1:DataW.trod enc Tryz.prog w base sp held m 37 (([c0,c1,c2,c3,c4].drop 1).take (Tryz.prog.cellsOf 37))=ys[1]?:=hf 1 _ rfl;have h2:DataW.trod enc Tryz.prog w base sp held m 39 (([c0,c1,c2,c3,c4].drop 2).take (Tryz.prog.cellsOf 39))=ys[2]?:=hf 2 _ rfl;have h3:DataW.trod enc Tryz.prog w base sp held m 55 (([c0,c1,c2,c3,c4].drop 3).take (Tryz.prog.cellsOf 55))=ys[3]?:=hf 3 _ rfl;have h4:DataW.trod enc Tryz.prog w base sp held m 4 (([c0,c1,c2,c3,c4].drop 4).take (Tryz.prog.cellsOf 4))=ys[4]?:=hf 4 _ rfl;rw[ZF] at h0;rw[jko] at h1;rw[jkC] at h2;rw[jne] at h3;rw[jcz] at h4;obtain⟨y0,e0⟩:∃y,ys[0]?=some y:=⟨_,List.getElem?_eq_getElem (by rw[hyl];decide)⟩
  obtain⟨y1,e1⟩:∃y,ys[1]?=some y:=⟨_,List.getElem?_eq_getElem (by rw[hyl];decide)⟩
  obtain⟨y2,e2⟩:∃y,ys[2]?=some y:=⟨_,List.getElem?_eq_getElem (by rw[hyl];decide)⟩
  obtain⟨y3,e3⟩:∃y,ys[3]?=some y:=⟨_,List.getElem?_eq_getElem (by rw[hyl];decide)⟩
  obtain⟨y4,e4⟩:∃y,ys[4]?=some y:=⟨_,List.getElem?_eq_getElem (by rw[hyl];decide)⟩
  rw[e0] at h0;rw[e1] at h1;rw[e2] at h2;rw[e3] at h3;rw[e4] at h4;simp only[List.drop_zero,List.take_succ_cons,List.take_zero,List.drop_succ_cons] at h0 h1 h2 h3 h4;obtain⟨s,q0,-,hs⟩:=DataW.trod_string Tryz.underlying9 h0;obtain⟨b,q4,-⟩:=DataW.trod_bool Tryz.underlying4 h4;obtain⟨l1,r1⟩:=Vec.zJ h1;obtain⟨l2,r2⟩:=jbF h2;obtain⟨l3,r3⟩:=jfh h3;have r1':=r1;have r2':=r2;have r3':=r3;obtain⟨a1,d1,rfl,-⟩:=r1';obtain⟨a2,d2,rfl,-⟩:=r2';obtain⟨a3,d3,rfl,-⟩:=r3';simp only[List.cons.injEq,and_true] at q0 q4;subst q0;subst q4;exact⟨(⟨s,l1,l2,l3,b⟩,(a1,l1.length,d1),(a2,l2.length,d2),(a3,l3.length,d3)),rfl,⟨hs,r1,r2,r3⟩⟩
theorem jeL {H:Type} {enc:TypeId×Value→H} {w:World} {base fuel:Nat} {sp:Nat→Bool} {held:Bool} {v:Value} {x:DataW H×List MemPlace} (h:DataW.trod enc Tryz.prog w base sp held fuel 22 [v]=some x):∃l,Jz w v l:=by
 obtain⟨l,a,cap,rfl,h1,h2,h3⟩:=zJ (jgn w) Tryz.underlying22 jj5 (fun _ _ _ h=>jfN h) h;obtain⟨g0,g1,g2,g3⟩:=h3;refine⟨l.map (fun z=>z.1),a,cap,by rw[List.length_map],by rw[List.length_map];exact h1,h2,rfl,by rw[List.length_map];exact g1,?_⟩;rw[List.length_map];rcases g3 with g3 | ⟨b,off,rfl,hb,hc⟩
 · exact .inl g3
 · refine .inr ⟨b,off,rfl,hb,fun i n hi=>?_⟩;rw[List.getElem?_map] at hi;obtain⟨z,hz,rfl⟩:=Option.map_eq_some_iff.1 hi;exact⟨_,_,_,_,_,_,_,_,_,hc i z 0 _ hz rfl,hc i z 1 _ hz rfl,hc i z 2 _ hz rfl,hc i z 3 _ hz rfl,hc i z 4 _ hz rfl,g2 z (List.mem_of_getElem? hz)⟩
structure Pd where
 name:ByteArray
 owner:ByteArray
 prio:Int
 need:Vec.V
 labels:PL
 sel:TL
 tols:NL
 key:ByteArray
 most:Int
 node:ByteArray
 hold:Bool
def Pd.zero:Pd:=⟨ByteArray.empty,ByteArray.empty,0,[],[],[],[],ByteArray.empty,0,ByteArray.empty,false⟩
abbrev jx (n:Pd) (v1 v2 v3 v4:Value):Value:=.agg #[.string n.name,.string n.owner,.int .i64 n.prio,v1,v2,v3,v4,.string n.key,.int .i64 n.most,.string n.node,.bool n.hold]
structure ji (w:World) (v1 v2 v3 v4:Value) (n:Pd):Prop where
 name:n.name.size≤maxLen
 owner:n.owner.size≤maxLen
 key:n.key.size≤maxLen
 node:n.node.size≤maxLen
 prio:-9223372036854775808≤n.prio∧n.prio≤9223372036854775807
 most:-9223372036854775808≤n.most∧n.most≤9223372036854775807
 need:Vec.Reads w v1 n.need
 labels:Reads jz w v2 n.labels
 sel:Reads jP w v3 n.sel
 tols:Reads ju w v4 n.tols
theorem ji.kept {w w':World} {v1 v2 v3 v4:Value} {n:Pd} (h:ji w v1 v2 v3 v4 n) (k:Kept w w'):ji w' v1 v2 v3 v4 n:=⟨h.name,h.owner,h.key,h.node,h.prio,h.most,h.need.kept k,h.labels.kept k,h.sel.kept k,h.tols.kept k⟩
def jba (w:World) (v:Value) (n:Pd):Prop:=∃v1 v2 v3 v4,v=jx n v1 v2 v3 v4∧ji w v1 v2 v3 v4 n
theorem jba.kept {w w':World} {v:Value} {n:Pd} (h:jba w v n) (k:Kept w w'):jba w' v n:=by
 obtain⟨v1,v2,v3,v4,e,h⟩:=h;exact⟨v1,v2,v3,v4,e,h.kept k⟩
def ZE (s:ByteArray):Bool:=zp s||isName s
def Z4 (x y:ByteArray):Int:=if isName x=true∧ZE y=true then 0 else 3
def jdC (p:Int) (b:Bool):Bool:=decide (p < -1)||(decide (1000000<p)||(decide (p=-1) != b))
def YF (p:Int) (b:Bool):Int:=if jdC p b=true then 1 else 0
def jbm (k:ByteArray) (m:Int):Bool:=if zp k=true then decide (m≠0) else decide (m<1)||decide (128<m)
def Jm (k:ByteArray) (m:Int):Int:=if ZE k=false then 3 else if jbm k m=true then 1 else 0
def Yf (x:ByteArray):Int:=if ZE x=true then 0 else 3
def orL:List Int→Int
 | []=>0
 | x::t=>if x≠0 then x else orL t
def qC (n:Pd):List Int:=[Z4 n.name n.owner,YF n.prio n.hold,Vec.jv n.need,J9 n.labels,Zr n.sel,JI n.tols,Jm n.key n.most,Yf n.node]
def zC (n:Pd):Int:=orL (qC n)
theorem jhz (b len:Nat) (l:List Int) (w:World) (hl:l.length=len) (hm:len≤1000) (hc:∀(i:Nat) (x:Int),l[i]?=some x→w.cell? ⟨b,i,none⟩=some (.int .i64 x)) :
 Calls Tryz.prog 89 #[.slice (some ⟨b,0,none⟩) len len] w fun e w'=>e=.returned (.int .i64 (orL l))∧w=w':=by
 have HC:=lH hc;have HL:=lH hl;clear hc hl;go_enter Tryz.func89,Tryz.ntmps89;go_wp2;go_loopw [8] (fun i wr=>∃k:Nat,k≤len∧i=.int .i64 k∧orL (l.drop k)=orL l∧w=wr) (fun i _=>len-(intOf i).toNat)
 case atStart=>exact⟨0,Nat.zero_le _,rfl,rfl,rfl⟩
 case round =>
  obtain⟨k,hk,rfl,hrest,rfl⟩:=hrel;have HS:=lH hrest;by_cases hlt:k<len
  · have hkl:k<l.length:=by rw[HL.out];exact hlt
    obtain⟨x,hx⟩:=eX (l[k])
    have hx':l[k]?=some x:=by rw[List.getElem?_eq_getElem hkl,hx]
    have c0:=HC.out k x hx';have HD:=lH (show l.drop k=x::l.drop (k+1) by rw[List.drop_eq_getElem_cons hkl,hx]);clear hrest hx hx' hkl;by_cases z:x=0
    · subst z;have HE:=lH (show orL (l.drop k)=orL (l.drop (k+1)) by rw[HD.out];rfl);go_wp2;go_roundw
      case rel=>exact⟨k+1,by omega,by go_num,HE.out.symm.trans HS.out,trivial⟩
      case measure=>simp[intOf];omega
    · have HE:=lH (show orL l=x by rw[←HS.out,HD.out];show (if x≠0 then x else _)=x;rw[if_pos z]);have z':(x != 0)=true:=by simpa using z
      clear z;go_wp2;go_ret;exact⟨jb HE.out.symm,rfl⟩
  · have HE:=lH (show orL l=0 by rw[←hrest,List.drop_of_length_le (by rw[HL.out];omega)];rfl);clear hrest;go_wp2;go_ret;exact⟨jb HE.out.symm,rfl⟩
theorem jhU (b len:Nat) (l:List Int) (w:World) (hl:l.length=len) (hm:len≤1000) (hc:∀(i:Nat) (x:Int),l[i]?=some x→w.cell? ⟨b,i,none⟩=some (.int .i64 x)) :
 Calls Tryz.prog 53 #[.slice (some ⟨b,0,none⟩) len len] w fun e w'=>e=.returned (.int .i64 (orL l))∧w=w':=by
 have HC:=lH hc;have HL:=lH hl;clear hc hl;go_enter Tryz.func53,Tryz.ntmps53;go_wp2;go_loopw [8] (fun i wr=>∃k:Nat,k≤len∧i=.int .i64 k∧orL (l.drop k)=orL l∧w=wr) (fun i _=>len-(intOf i).toNat)
 case atStart=>exact⟨0,Nat.zero_le _,rfl,rfl,rfl⟩
 case round =>
  obtain⟨k,hk,rfl,hrest,rfl⟩:=hrel;have HS:=lH hrest;by_cases hlt:k<len
  · have hkl:k<l.length:=by rw[HL.out];exact hlt
    obtain⟨x,hx⟩:=eX (l[k])
    have hx':l[k]?=some x:=by rw[List.getElem?_eq_getElem hkl,hx]
    have c0:=HC.out k x hx';have HD:=lH (show l.drop k=x::l.drop (k+1) by rw[List.drop_eq_getElem_cons hkl,hx]);clear hrest hx hx' hkl;by_cases z:x=0
    · subst z;have HE:=lH (show orL (l.drop k)=orL (l.drop (k+1)) by rw[HD.out];rfl);go_wp2;go_roundw
      case rel=>exact⟨k+1,by omega,by go_num,HE.out.symm.trans HS.out,trivial⟩
      case measure=>simp[intOf];omega
    · have HE:=lH (show orL l=x by rw[←HS.out,HD.out];show (if x≠0 then x else _)=x;rw[if_pos z]);have z':(x != 0)=true:=by simpa using z
      clear z;go_wp2;go_ret;exact⟨jb HE.out.symm,rfl⟩
  · have HE:=lH (show orL l=0 by rw[←hrest,List.drop_of_length_le (by rw[HL.out];omega)];rfl);clear hrest;go_wp2;go_ret;exact⟨jb HE.out.symm,rfl⟩
theorem qU (s:ByteArray) (w:World) (hs:s.size≤maxLen) :
 Calls Tryz.prog 235 #[.string s] w fun e w'=>e=.returned (.bool (ZE s))∧w=w':=by
 obtain⟨q,hq⟩:=eX ((s.toList==([]:List UInt8)))
 obtain⟨r,hr⟩:=eX (isName s)
 have HV:=lH (show ZE s=(q||r) by unfold ZE;rw[JV,hq,hr]);have HR:=lH hr;clear hr
 cases q with
 | true =>
  go_enter Tryz.func235,Tryz.ntmps235;go_wp2;go_ret;exact⟨jd HV.out.symm,rfl⟩
 | false =>
  go_enter Tryz.func235,Tryz.ntmps235;go_wp2_with (go_at_call 197;refine(Vec.qZ hs HR.out).mono ?_;rintro e w' ⟨rfl,rfl⟩)
  go_ret;exact⟨jd HV.out.symm,rfl⟩
theorem jdO (x y:ByteArray) (w:World) (hx:x.size≤maxLen) (hy:y.size≤maxLen) :
 Calls Tryz.prog 201 #[.string x,.string y] w fun e w'=>e=.returned (.int .i64 (Z4 x y))∧w=w':=by
 obtain⟨r,hr⟩:=eX (isName x)
 obtain⟨q,hq⟩:=eX (ZE y)
 have HV:=lH (show Z4 x y=if r=true∧q=true then 0 else 3 by unfold Z4;rw[hr,hq]);have HN:=lH (show Calls Tryz.prog 235 #[.string y] w _ from qU y w hy);rw[hq] at HN;have HR:=lH hr;have HX:=lH hx;clear hr hq hx hy
 cases r with
 | false =>
  go_enter Tryz.func201,Tryz.ntmps201;go_wp2_with (go_at_call 197;refine(Vec.qZ HX.out HR.out).mono ?_;rintro e w' ⟨rfl,rfl⟩)
  go_ret;exact⟨jb HV.out.symm,rfl⟩
 | true =>
  cases q with
  | false =>
   go_enter Tryz.func201,Tryz.ntmps201;go_wp2_with fail
   refine(Vec.qZ HX.out HR.out).mono ?_;rintro e w' ⟨rfl,rfl⟩;go_wp2_with (go_at_call 235;refine HN.out.mono ?_;rintro e w' ⟨rfl,rfl⟩)
   go_ret;exact⟨jb HV.out.symm,rfl⟩
  | true =>
   go_enter Tryz.func201,Tryz.ntmps201;go_wp2_with fail
   refine(Vec.qZ HX.out HR.out).mono ?_;rintro e w' ⟨rfl,rfl⟩;go_wp2_with (go_at_call 235;refine HN.out.mono ?_;rintro e w' ⟨rfl,rfl⟩)
   go_ret;exact⟨jb HV.out.symm,rfl⟩
theorem jeP (p:Int) (b:Bool) (w:World) :
 Calls Tryz.prog 202 #[.int .i64 p,.bool b] w fun e w'=>e=.returned (.int .i64 (YF p b))∧w=w':=by
 obtain⟨x,hx⟩:=eX (decide (p < -1))
 obtain⟨y,hy⟩:=eX (decide (1000000<p))
 obtain⟨z,hz⟩:=eX (decide (p=-1))
 have hz':(p==-1)=z:=hz;have HV:=lH (show YF p b=if (x||(y||(z != b)))=true then 1 else 0 by unfold YF jdC;rw[hx,hy,hz])
 cases x with
 | true =>
  have h1:p < -1:=of_decide_eq_true hx;clear hx hy hz;go_enter Tryz.func202,Tryz.ntmps202;go_wp2;go_ret;exact⟨jb HV.out.symm,rfl⟩
 | false =>
  have h1:-1≤p:=by have:=of_decide_eq_false hx;omega
  cases y with
  | true =>
   have h2:1000000<p:=of_decide_eq_true hy;clear hx hy hz;go_enter Tryz.func202,Tryz.ntmps202;go_wp2;go_ret;exact⟨jb HV.out.symm,rfl⟩
  | false =>
   have h2:p≤1000000:=by have:=of_decide_eq_false hy;omega
   clear hx hy hz
   cases z<;>cases b <;>
   (go_enter Tryz.func202,Tryz.ntmps202
    go_wp2;go_ret;exact⟨jb HV.out.symm,rfl⟩)
theorem jdb (k:ByteArray) (m:Int) (w:World) (hk:k.size≤maxLen) :
 Calls Tryz.prog 205 #[.string k,.int .i64 m] w fun e w'=>e=.returned (.int .i64 (Jm k m))∧w=w':=by
 obtain⟨q,hq⟩:=eX (ZE k)
 obtain⟨r,hr⟩:=eX (zp k)
 have hr':(k.toList==([]:List UInt8))=r:=by rw[←JV];exact hr
 have HN:=lH (show Calls Tryz.prog 235 #[.string k] w _ from qU k w hk);rw[hq] at HN;have HV:=lH (show Jm k m=if q=false then 3 else if (if r=true then decide (m≠0) else decide (m<1)||decide (128<m))=true then 1 else 0 by unfold Jm jbm;rw[hq,hr]);clear hq hr hk
 cases q with
 | false =>
  go_enter Tryz.func205,Tryz.ntmps205;go_wp2_with (go_at_call 235;refine HN.out.mono ?_;rintro e w' ⟨rfl,rfl⟩)
  go_ret;exact⟨jb HV.out.symm,rfl⟩
 | true =>
  cases r with
  | true =>
   by_cases z:m=0
   · subst z;go_enter Tryz.func205,Tryz.ntmps205;go_wp2_with (go_at_call 235;refine HN.out.mono ?_;rintro e w' ⟨rfl,rfl⟩)
     go_ret;exact⟨jb HV.out.symm,rfl⟩
   · have z':(m != 0)=true:=by simpa using z
     have HW:=lH (show Jm k m=1 by rw[HV.out];simp[z]);clear z;go_enter Tryz.func205,Tryz.ntmps205;go_wp2_with (go_at_call 235;refine HN.out.mono ?_;rintro e w' ⟨rfl,rfl⟩)
     go_ret;exact⟨jb HW.out.symm,rfl⟩
  | false =>
   by_cases z:m<1
   · have HW:=lH (show Jm k m=1 by rw[HV.out];simp[z]);go_enter Tryz.func205,Tryz.ntmps205;go_wp2_with (go_at_call 235;refine HN.out.mono ?_;rintro e w' ⟨rfl,rfl⟩)
     go_ret;exact⟨jb HW.out.symm,rfl⟩
   · by_cases y:128<m
     · have HW:=lH (show Jm k m=1 by rw[HV.out];simp[y]);have z':1≤m:=by omega
       clear z;go_enter Tryz.func205,Tryz.ntmps205;go_wp2_with (go_at_call 235;refine HN.out.mono ?_;rintro e w' ⟨rfl,rfl⟩)
       go_ret;exact⟨jb HW.out.symm,rfl⟩
     · have HW:=lH (show Jm k m=0 by rw[HV.out];simp[z,y]);have z':1≤m:=by omega
       have y':m≤128:=by omega
       clear z y;go_enter Tryz.func205,Tryz.ntmps205;go_wp2_with (go_at_call 235;refine HN.out.mono ?_;rintro e w' ⟨rfl,rfl⟩)
       go_ret;exact⟨jb HW.out.symm,rfl⟩
theorem jeH (x:ByteArray) (w:World) (hx:x.size≤maxLen) :
 Calls Tryz.prog 206 #[.string x] w fun e w'=>e=.returned (.int .i64 (Yf x))∧w=w':=by
 obtain⟨q,hq⟩:=eX (ZE x)
 have HN:=lH (show Calls Tryz.prog 235 #[.string x] w _ from qU x w hx);rw[hq] at HN;have HV:=lH (show Yf x=if q=true then 0 else 3 by unfold Yf;rw[hq]);clear hq hx
 cases q <;>
 (go_enter Tryz.func206,Tryz.ntmps206
  go_wp2_with (go_at_call 235;refine HN.out.mono ?_;rintro e w' ⟨rfl,rfl⟩)
  go_ret;exact⟨jb HV.out.symm,rfl⟩)
theorem jg8 (W:World) (x1 x2 x3 x4 x5 x6 x7 x8:Int) (T:TypeId) (i:Nat) (x:Int) (hi:([x1,x2,x3,x4,x5,x6,x7,x8]:List Int)[i]?=some x) :
 (W.alloc (.cells #[.int .i64 x1,.int .i64 x2,.int .i64 x3,.int .i64 x4,.int .i64 x5,.int .i64 x6,.int .i64 x7,.int .i64 x8] T)).cell? ⟨W.heap.size,i,none⟩=some (.int .i64 x):=by
 refine(jc W (.int .i64 x1) [.int .i64 x2,.int .i64 x3,.int .i64 x4,.int .i64 x5,.int .i64 x6,.int .i64 x7,.int .i64 x8] T _ (Kept.refl _)).at_ i _ ?_
 match i,hi with
 | 0,h=>simpa using h
 | 1,h=>simpa using h
 | 2,h=>simpa using h
 | 3,h=>simpa using h
 | 4,h=>simpa using h
 | 5,h=>simpa using h
 | 6,h=>simpa using h
 | 7,h=>simpa using h
 | j+8,h=>simp at h
theorem jiz (n:Pd) (v1 v2 v3 v4:Value) (w:World) (h:ji w v1 v2 v3 v4 n) :
 Calls Tryz.prog 155 #[jx n v1 v2 v3 v4] w (Say (.int .i64 (zC n)) w):=by
 obtain⟨W0,hW0⟩:=eX (w.alloc (.cells #[.string n.name,.string n.owner,.int .i64 n.prio,v1,v2,v3,v4,.string n.key,.int .i64 n.most,.string n.node,.bool n.hold] 44))
 have hk0:Kept w W0:=by rw[←hW0];exact ja _ _
 have HC:=lH (show ∀W,Kept W0 W→W.cell? ⟨w.heap.size,0,none⟩=some (.string n.name)∧W.cell? ⟨w.heap.size,1,none⟩=some (.string n.owner)∧W.cell? ⟨w.heap.size,2,none⟩=some (.int .i64 n.prio)∧W.cell? ⟨w.heap.size,3,none⟩=some (v1)∧W.cell? ⟨w.heap.size,4,none⟩=some (v2)∧W.cell? ⟨w.heap.size,5,none⟩=some (v3)∧W.cell? ⟨w.heap.size,6,none⟩=some (v4)∧W.cell? ⟨w.heap.size,7,none⟩=some (.string n.key)∧W.cell? ⟨w.heap.size,8,none⟩=some (.int .i64 n.most)∧W.cell? ⟨w.heap.size,9,none⟩=some (.string n.node)∧W.cell? ⟨w.heap.size,10,none⟩=some (.bool n.hold) from fun W k=>by
  have c:=jc w (.string n.name) [.string n.owner,.int .i64 n.prio,v1,v2,v3,v4,.string n.key,.int .i64 n.most,.string n.node,.bool n.hold] 44 W (by rw[hW0];exact k);exact⟨c.at_ 0 _ rfl,c.at_ 1 _ rfl,c.at_ 2 _ rfl,c.at_ 3 _ rfl,c.at_ 4 _ rfl,c.at_ 5 _ rfl,c.at_ 6 _ rfl,c.at_ 7 _ rfl,c.at_ 8 _ rfl,c.at_ 9 _ rfl,c.at_ 10 _ rfl⟩)
 obtain⟨E1,E2,E3,E4,E5,E6,E7,E8⟩:=lH8 (fun W=>jdO n.name n.owner W h.name h.owner) (fun W=>jeP n.prio n.hold W) (fun W (k:Kept W0 W)=>Vec.jbk (h.need.kept (hk0.trans k)) rfl) (fun W (k:Kept W0 W)=>jbk (h.labels.kept (hk0.trans k)) rfl) (fun W (k:Kept W0 W)=>jdR (h.sel.kept (hk0.trans k)) rfl) (fun W (k:Kept W0 W)=>jm9 (h.tols.kept (hk0.trans k)) rfl) (fun W=>jdb n.key n.most W h.key) (fun W=>jeH n.node W h.node);have Va:=lH hk0;obtain⟨x1,hx1⟩:=eX (Z4 n.name n.owner)
 rw[hx1] at E1;obtain⟨x2,hx2⟩:=eX (YF n.prio n.hold)
 rw[hx2] at E2;obtain⟨x3,hx3⟩:=eX (Vec.jv n.need)
 rw[hx3] at E3;obtain⟨x4,hx4⟩:=eX (J9 n.labels)
 rw[hx4] at E4;obtain⟨x5,hx5⟩:=eX (Zr n.sel)
 rw[hx5] at E5;obtain⟨x6,hx6⟩:=eX (JI n.tols)
 rw[hx6] at E6;obtain⟨x7,hx7⟩:=eX (Jm n.key n.most)
 rw[hx7] at E7;obtain⟨x8,hx8⟩:=eX (Yf n.node)
 rw[hx8] at E8;have HV:=lH (show zC n=orL [x1,x2,x3,x4,x5,x6,x7,x8] by unfold zC qC;rw[hx1,hx2,hx3,hx4,hx5,hx6,hx7,hx8]);have ORC:=lH (fun W=>jg8 W x1 x2 x3 x4 x5 x6 x7 x8 45);clear hx1 hx2 hx3 hx4 hx5 hx6 hx7 hx8 h hk0;obtain⟨c0,c1,c2,c3,c4,c5,c6,c7,c8,c9,c10⟩:=HC.out _ (Kept.refl _);unfold jx;go_enter Tryz.func155,Tryz.ntmps155;go_wp2;try rw[hW0]
 clear hW0
 go_region_held3 (fun W=>W.cell? ⟨w.heap.size,0,none⟩=some (.string n.name)∧W.cell? ⟨w.heap.size,1,none⟩=some (.string n.owner)∧W.cell? ⟨w.heap.size,2,none⟩=some (.int .i64 n.prio)∧W.cell? ⟨w.heap.size,3,none⟩=some (v1)∧W.cell? ⟨w.heap.size,4,none⟩=some (v2)∧W.cell? ⟨w.heap.size,5,none⟩=some (v3)∧W.cell? ⟨w.heap.size,6,none⟩=some (v4)∧W.cell? ⟨w.heap.size,7,none⟩=some (.string n.key)∧W.cell? ⟨w.heap.size,8,none⟩=some (.int .i64 n.most)∧W.cell? ⟨w.heap.size,9,none⟩=some (.string n.node)∧W.cell? ⟨w.heap.size,10,none⟩=some (.bool n.hold))
  (first | exact HC.out _ (Kept.drew _) | exact HC.out _ K3.out | exact HC.out _ K4.out | exact HC.out _ K5.out | exact HC.out _ K6.out | exact HC.out _ (K6.out.trans (ja _ _)))
  (first | (go_at_call 201;refine(E1.out _).mono ?_;rintro e1 w1 ⟨rfl,rfl⟩)
         | (go_at_call 202;refine(E2.out _).mono ?_;rintro e2 w2 ⟨rfl,rfl⟩)
         | (go_at_call 198;refine(E3.out _ (Kept.drew _)).mono ?_;rintro e3 w3 ⟨rfl,k3⟩;have K3:=lH ((Kept.drew _).trans k3);clear k3)
         | (go_at_call 199;refine(E4.out _ K3.out).mono ?_;rintro e4 w4 ⟨rfl,k4⟩;have K4:=lH (K3.out.trans k4);clear k4)
         | (go_at_call 203;refine(E5.out _ K4.out).mono ?_;rintro e5 w5 ⟨rfl,k5⟩;have K5:=lH (K4.out.trans k5);clear k5)
         | (go_at_call 204;refine(E6.out _ K5.out).mono ?_;rintro e6 w6 ⟨rfl,k6⟩;have K6:=lH (K5.out.trans k6);clear k6)
         | (go_at_call 205;refine(E7.out _).mono ?_;rintro e7 w7 ⟨rfl,rfl⟩)
         | (go_at_call 206;refine(E8.out _).mono ?_;rintro e8 w8 ⟨rfl,rfl⟩)
         | (go_at_call 89;refine(jhz _ 8 [x1,x2,x3,x4,x5,x6,x7,x8] _ rfl (by decide) (ORC.out _)).mono ?_;rintro e9 w9 ⟨rfl,rfl⟩))
 go_wp2;go_ret;exact⟨jb HV.out.symm,Va.out.trans (K6.out.trans (ja _ _))⟩
theorem jom:Kind 42 165 3 40:=by
 obtain⟨i,hi,hz,h1,h2⟩:=info_parts (show (Tryz.prog.info? 165).map (fun i=>(i.zero,i.size,i.bytes))=some (some (.agg #[.string ByteArray.empty,.string ByteArray.empty,.bool false]),3,40) by kernel_rfl);exact⟨i,_,Tryz.underlying42,hi,hz,h1,h2,rfl,by decide⟩
theorem jod:Kind 41 162 3 40:=by
 obtain⟨i,hi,hz,h1,h2⟩:=info_parts (show (Tryz.prog.info? 162).map (fun i=>(i.zero,i.size,i.bytes))=some (some (.agg #[.int .i64 0,.string ByteArray.empty,.string ByteArray.empty]),3,40) by kernel_rfl);exact⟨i,_,Tryz.underlying41,hi,hz,h1,h2,rfl,by decide⟩
theorem jil (a:Option Addr) (len cap:Nat) (l:NL) (w:World) (hr:jk ju w a len l) (hc:len≤cap) (hm:cap≤maxLen) (hn:len≤1000000) :
 Calls Tryz.prog 148 #[.slice a len cap] w fun e w'=>∃a' m' c',e=.returned (.slice a' m' c')∧Reads ju w' (.slice a' m' c') l∧(∀b off sp,a'=some ⟨b,off,sp⟩→w.heap.size≤b)∧Kept w w':=by
 have hl:=hr.1;have q22:∀(w:World) (a:Option Addr) (n c n' c':Nat),(binOp .eql 42 (.slice a n c) (.slice none n' c')).run Tryz.prog w=.ok (.bool a.isNone) w:=fun w a n c n' c'=>Lib.run_eql_slice_nil w _ _ a n c n' c' Tryz.underlying42
 cases a with
 | none =>
  have h0:len=0:=by
   rcases hr.form with h | ⟨b,off,h⟩
   · exact h
   · cases h
  subst h0;have hl0:l=[]:=List.eq_nil_of_length_eq_zero hl;subst hl0;clear hr hl;go_enter Tryz.func148,Tryz.ntmps148;go_wp2;go_ret;exact⟨none,0,0,rfl,Reads.nil _,(fun b o s e=>by cases e),Kept.refl _⟩
 | some ad =>
  have HR:=lH hr;have HL:=lH hl;have hrl:(je ju l).length=len*3:=by rw[jZ,hl];rfl
  have hb1:0+len≤maxLen:=by unfold maxLen;omega
  have hb2:((0+len)+(0+len) / 4+192)*40≤281474976710656:=by omega
  clear hr hl;go_enter Tryz.func148,Tryz.ntmps148;go_wp2_with (at_builtin;refine Jb jom _ rfl (.tmp 5) (.tmp 6) rfl w.heap.size (by simp) w.heap.size 0 0 [] rfl (Zw w w.heap.size 3 _ (Nat.le_refl _)) _ len (je ju l) rfl hrl (Jk _ _) (jk.src (HR.out.kept (ja _ _))) hb1 hb2 ?_;intro g1 k1 W1 ho hd hg;have HO:=lH ho;have HD:=lH hd;clear ho hd hg;refine Hid.out ?_)
  refine lH ?_;simp only[Nat.zero_add,List.nil_append] at HO ⊢;go_wp2;go_ret;exact⟨_,_,_,rfl,Own.reads (⟨by rw[HL.out];exact HO.out,HR.out.2.2.1⟩:Own ju 165 W1 w.heap.size (.slice (some ⟨g1,0,none⟩) len k1) l),(fun b o s e=>by cases e;exact(HO.out.lt g1 rfl).1),Below.trans (ja w _) HD.out⟩
theorem jc6 (a:Option Addr) (len cap:Nat) (l:TL) (w:World) (hr:jk jP w a len l) (hc:len≤cap) (hm:cap≤maxLen) (hn:len≤1000000) :
 Calls Tryz.prog 147 #[.slice a len cap] w fun e w'=>∃a' m' c',e=.returned (.slice a' m' c')∧Reads jP w' (.slice a' m' c') l∧(∀b off sp,a'=some ⟨b,off,sp⟩→w.heap.size≤b)∧Kept w w':=by
 have hl:=hr.1;have q22:∀(w:World) (a:Option Addr) (n c n' c':Nat),(binOp .eql 41 (.slice a n c) (.slice none n' c')).run Tryz.prog w=.ok (.bool a.isNone) w:=fun w a n c n' c'=>Lib.run_eql_slice_nil w _ _ a n c n' c' Tryz.underlying41
 cases a with
 | none =>
  have h0:len=0:=by
   rcases hr.form with h | ⟨b,off,h⟩
   · exact h
   · cases h
  subst h0;have hl0:l=[]:=List.eq_nil_of_length_eq_zero hl;subst hl0;clear hr hl;go_enter Tryz.func147,Tryz.ntmps147;go_wp2;go_ret;exact⟨none,0,0,rfl,Reads.nil _,(fun b o s e=>by cases e),Kept.refl _⟩
 | some ad =>
  have HR:=lH hr;have HL:=lH hl;have hrl:(je jP l).length=len*3:=by rw[jZ,hl];rfl
  have hb1:0+len≤maxLen:=by unfold maxLen;omega
  have hb2:((0+len)+(0+len) / 4+192)*40≤281474976710656:=by omega
  clear hr hl;go_enter Tryz.func147,Tryz.ntmps147;go_wp2_with (at_builtin;refine Jb jod _ rfl (.tmp 5) (.tmp 6) rfl w.heap.size (by simp) w.heap.size 0 0 [] rfl (Zw w w.heap.size 3 _ (Nat.le_refl _)) _ len (je jP l) rfl hrl (Jk _ _) (jk.src (HR.out.kept (ja _ _))) hb1 hb2 ?_;intro g1 k1 W1 ho hd hg;have HO:=lH ho;have HD:=lH hd;clear ho hd hg;refine Hid.out ?_)
  refine lH ?_;simp only[Nat.zero_add,List.nil_append] at HO ⊢;go_wp2;go_ret;exact⟨_,_,_,rfl,Own.reads (⟨by rw[HL.out];exact HO.out,HR.out.2.2.1⟩:Own jP 162 W1 w.heap.size (.slice (some ⟨g1,0,none⟩) len k1) l),(fun b o s e=>by cases e;exact(HO.out.lt g1 rfl).1),Below.trans (ja w _) HD.out⟩
def j4 (B:Nat) (a:Option Addr):Prop:=∀b off sp,a=some ⟨b,off,sp⟩→B≤b
theorem j4.less {B B':Nat} {a:Option Addr} (h:j4 B a) (hb:B'≤B):j4 B' a:=fun b o s e=>Nat.le_trans hb (h b o s e)
theorem j4.none (B:Nat):j4 B none:=fun _ _ _ e=>by cases e
def Ye (B:Nat) (w:World) (v:Value) (n:Pd):Prop:=∃b1 n1 d1 b2 n2 d2 b3 n3 d3 b4 n4 d4,v=jx n (.slice b1 n1 d1) (.slice b2 n2 d2) (.slice b3 n3 d3) (.slice b4 n4 d4)∧ji w (.slice b1 n1 d1) (.slice b2 n2 d2) (.slice b3 n3 d3) (.slice b4 n4 d4) n∧j4 B b1∧j4 B b2∧j4 B b3∧j4 B b4
theorem Ye.toR {B:Nat} {w:World} {v:Value} {n:Pd} (h:Ye B w v n):jba w v n:=by
 obtain⟨b1,n1,d1,b2,n2,d2,b3,n3,d3,b4,n4,d4,e,h,_⟩:=h;exact⟨_,_,_,_,e,h⟩
theorem ji.far {B:Nat} {w w':World} {n:Pd} {b1 b2 b3 b4:Option Addr} {n1 d1 n2 d2 n3 d3 n4 d4:Nat} (h:ji w (.slice b1 n1 d1) (.slice b2 n2 d2) (.slice b3 n3 d3) (.slice b4 n4 d4) n) (hs:w'.heap.size=w.heap.size) (hb:∀b,B≤b→w'.heap[b]?=w.heap[b]?) (g1:j4 B b1) (g2:j4 B b2) (g3:j4 B b3) (g4:j4 B b4):ji w' (.slice b1 n1 d1) (.slice b2 n2 d2) (.slice b3 n3 d3) (.slice b4 n4 d4) n :=
 ⟨h.name,h.owner,h.key,h.node,h.prio,h.most,h.need.far hs (fun b o s e=>hb b (g1 b o s e)),h.labels.far hs (fun b o s e=>hb b (g2 b o s e)),h.sel.far hs (fun b o s e=>hb b (g3 b o s e)),h.tols.far hs (fun b o s e=>hb b (g4 b o s e))⟩
theorem Ye.far {B:Nat} {w w':World} {v:Value} {n:Pd} (h:Ye B w v n) (hs:w'.heap.size=w.heap.size) (hb:∀b,B≤b→w'.heap[b]?=w.heap[b]?):Ye B w' v n:=by
 obtain⟨b1,n1,d1,b2,n2,d2,b3,n3,d3,b4,n4,d4,e,h,g1,g2,g3,g4⟩:=h;exact⟨b1,n1,d1,b2,n2,d2,b3,n3,d3,b4,n4,d4,e,h.far hs hb g1 g2 g3 g4,g1,g2,g3,g4⟩
theorem Ye.less {B B':Nat} {w:World} {v:Value} {n:Pd} (h:Ye B w v n) (hb:B'≤B):Ye B' w v n:=by
 obtain⟨b1,n1,d1,b2,n2,d2,b3,n3,d3,b4,n4,d4,e,h,g1,g2,g3,g4⟩:=h;exact⟨b1,n1,d1,b2,n2,d2,b3,n3,d3,b4,n4,d4,e,h,g1.less hb,g2.less hb,g3.less hb,g4.less hb⟩
theorem Ye.kept {B:Nat} {w w':World} {v:Value} {n:Pd} (h:Ye B w v n) (k:Kept w w'):Ye B w' v n:=by
 obtain⟨b1,n1,d1,b2,n2,d2,b3,n3,d3,b4,n4,d4,e,h,g1,g2,g3,g4⟩:=h;exact⟨b1,n1,d1,b2,n2,d2,b3,n3,d3,b4,n4,d4,e,h.kept k,g1,g2,g3,g4⟩
theorem ji.spelt {w:World} {v1 v2 v3 v4:Value} {n:Pd} (h:ji w v1 v2 v3 v4 n):∃b1 n1 d1 b2 n2 d2 b3 n3 d3 b4 n4 d4,v1=.slice b1 n1 d1∧v2=.slice b2 n2 d2∧v3=.slice b3 n3 d3∧v4=.slice b4 n4 d4:=by
 obtain⟨a1,c1,e1,_⟩:=h.need;obtain⟨a2,c2,e2,_⟩:=h.labels;obtain⟨a3,c3,e3,_⟩:=h.sel;obtain⟨a4,c4,e4,_⟩:=h.tols;exact⟨_,_,_,_,_,_,_,_,_,_,_,_,e1,e2,e3,e4⟩
structure JO (n:Pd):Prop where
 need:n.need.length≤1000000
 labels:n.labels.length≤1000000
 sel:n.sel.length≤1000000
 tols:n.tols.length≤1000000
def jy (w:World) (a:Option Addr) (len:Nat) (l:List Pd):Prop :=
 l.length=len∧len≤maxLen∧(len=0∨∃b off,a=some ⟨b,off,none⟩∧b<w.heap.size∧∀i n,l[i]?=some n→∃v1 v2 v3 v4,
  w.cell? ⟨b,off+i*11,none⟩=some (.string n.name)∧w.cell? ⟨b,off+i*11+1,none⟩=some (.string n.owner)∧w.cell? ⟨b,off+i*11+2,none⟩=some (.int .i64 n.prio)∧w.cell? ⟨b,off+i*11+3,none⟩=some (v1)∧w.cell? ⟨b,off+i*11+4,none⟩=some (v2)∧w.cell? ⟨b,off+i*11+5,none⟩=some (v3)∧w.cell? ⟨b,off+i*11+6,none⟩=some (v4)∧w.cell? ⟨b,off+i*11+7,none⟩=some (.string n.key)∧w.cell? ⟨b,off+i*11+8,none⟩=some (.int .i64 n.most)∧w.cell? ⟨b,off+i*11+9,none⟩=some (.string n.node)∧w.cell? ⟨b,off+i*11+10,none⟩=some (.bool n.hold)∧ji w v1 v2 v3 v4 n)
theorem jy.kept {w w':World} {a:Option Addr} {len:Nat} {l:List Pd} (h:jy w a len l) (k:Kept w w'):jy w' a len l:=by
 obtain⟨h0,h1,h2⟩:=h;refine⟨h0,h1,h2.imp id ?_⟩;rintro ⟨b,off,rfl,hb,hc⟩;refine⟨b,off,rfl,Nat.lt_of_lt_of_le hb k.size,fun i n hi=>?_⟩;obtain⟨v1,v2,v3,v4,p0,p1,p2,p3,p4,p5,p6,p7,p8,p9,p10,hn⟩:=hc i n hi;exact⟨v1,v2,v3,v4,cell_later k p0,cell_later k p1,cell_later k p2,cell_later k p3,cell_later k p4,cell_later k p5,cell_later k p6,cell_later k p7,cell_later k p8,cell_later k p9,cell_later k p10,hn.kept k⟩
theorem jy.form {w:World} {a:Option Addr} {len:Nat} {l:List Pd} (h:jy w a len l):len=0∨∃b off,a=some ⟨b,off,none⟩:=by
 obtain⟨_,_,h2⟩:=h;exact h2.imp id fun ⟨b,off,e,_⟩=>⟨b,off,e⟩
theorem jy.at_ {w:World} {b off len:Nat} {l:List Pd} {k:Nat} (h:jy w (some ⟨b,off,none⟩) len l) (hk:k<len):∃n a1 m1 c1 a2 m2 c2 a3 m3 c3 a4 m4 c4,l[k]?=some n∧l.drop k=n::l.drop (k+1)∧b<w.heap.size ∧
 w.cell? ⟨b,off+k*11,none⟩=some (.string n.name)∧w.cell? ⟨b,off+k*11+1,none⟩=some (.string n.owner)∧w.cell? ⟨b,off+k*11+2,none⟩=some (.int .i64 n.prio)∧w.cell? ⟨b,off+k*11+3,none⟩=some (.slice a1 m1 c1)∧w.cell? ⟨b,off+k*11+4,none⟩=some (.slice a2 m2 c2)∧w.cell? ⟨b,off+k*11+5,none⟩=some (.slice a3 m3 c3)∧w.cell? ⟨b,off+k*11+6,none⟩=some (.slice a4 m4 c4)∧w.cell? ⟨b,off+k*11+7,none⟩=some (.string n.key)∧w.cell? ⟨b,off+k*11+8,none⟩=some (.int .i64 n.most)∧w.cell? ⟨b,off+k*11+9,none⟩=some (.string n.node)∧w.cell? ⟨b,off+k*11+10,none⟩=some (.bool n.hold)∧ji w (.slice a1 m1 c1) (.slice a2 m2 c2) (.slice a3 m3 c3) (.slice a4 m4 c4) n:=by
 obtain⟨h0,_,h3⟩:=h;have hkl:k<l.length:=by omega
 rcases h3 with h3 | ⟨b',off',e,hb,hc⟩
 · omega
 · injection e with e;injection e with e1 e2 e3;subst e1;subst e2;have he:l[k]?=some l[k]:=List.getElem?_eq_getElem hkl;obtain⟨v1,v2,v3,v4,r⟩:=hc k _ he;obtain⟨a1,m1,c1,a2,m2,c2,a3,m3,c3,a4,m4,c4,rfl,rfl,rfl,rfl⟩:=ji.spelt r.2.2.2.2.2.2.2.2.2.2.2;exact⟨l[k],a1,m1,c1,a2,m2,c2,a3,m3,c3,a4,m4,c4,he,List.drop_eq_getElem_cons hkl,hb,r⟩
def Jo (w:World) (v:Value) (l:List Pd):Prop:=∃a cap,v=.slice a l.length cap∧l.length≤cap∧cap≤maxLen∧jy w a l.length l
theorem Jo.kept {w w':World} {v:Value} {l:List Pd} (h:Jo w v l) (k:Kept w w'):Jo w' v l:=by
 obtain⟨a,cap,e,h1,h2,h3⟩:=h;exact⟨a,cap,e,h1,h2,h3.kept k⟩
theorem jhs:Tryz.prog.cellsOf 41=1:=by kernel_rfl
theorem jmG:Tryz.prog.cellsOf 42=1:=by kernel_rfl
theorem jhZ:Tryz.prog.cellsOf 44=11:=by kernel_rfl
theorem jg3 {H:Type} {enc:TypeId×Value→H} {w:World} {base fuel:Nat} {sp:Nat→Bool} {held:Bool} {cs:List Value} {x:DataW H×List MemPlace} (h:DataW.trod enc Tryz.prog w base sp held fuel 44 cs=some x) :
 ∃(n:Pd) (v1 v2 v3 v4:Value),cs=[.string n.name,.string n.owner,.int .i64 n.prio,v1,v2,v3,v4,.string n.key,.int .i64 n.most,.string n.node,.bool n.hold]∧ji w v1 v2 v3 v4 n:=by
 obtain⟨ys,m,-,-,hlen,hyl,hf⟩:=DataW.trod_struct Tryz.underlying44 h;rw[jhZ] at hlen
 match cs,hlen with
 | [c0,c1,c2,c3,c4,c5,c6,c7,c8,c9,c10],_ =>
  have h0:DataW.trod enc Tryz.prog w base sp held m 9 (([c0,c1,c2,c3,c4,c5,c6,c7,c8,c9,c10].drop 0).take (Tryz.prog.cellsOf 9))=ys[0]?:=hf 0 _ rfl;have h1:DataW.trod enc Tryz.prog w base sp held m 9 (([c0,c1,c2,c3,c4,c5,c6,c7,c8,c9,c10].drop 1).take (Tryz.prog.cellsOf 9))=ys[1]?:=hf 1 _ rfl;have h2:DataW.trod enc Tryz.prog w base sp held m 3 (([c0,c1,c2,c3,c4,c5,c6,c7,c8,c9,c10].drop 2).take (Tryz.prog.cellsOf 3))=ys[2]?:=hf 2 _ rfl;have h3:DataW.trod enc Tryz.prog w base sp held m 37 (([c0,c1,c2,c3,c4,c5,c6,c7,c8,c9,c10].drop 3).take (Tryz.prog.cellsOf 37))=ys[3]?:=hf 3 _ rfl;have h4:DataW.trod enc Tryz.prog w base sp held m 39 (([c0,c1,c2,c3,c4,c5,c6,c7,c8,c9,c10].drop 4).take (Tryz.prog.cellsOf 39))=ys[4]?:=hf 4 _ rfl;have h5:DataW.trod enc Tryz.prog w base sp held m 41 (([c0,c1,c2,c3,c4,c5,c6,c7,c8,c9,c10].drop 5).take (Tryz.prog.cellsOf 41))=ys[5]?:=hf 5 _ rfl;have h6:DataW.trod enc Tryz.prog w base sp held m 42 (([c0,c1,c2,c3,c4,c5,c6,c7,c8,c9,c10].drop 6).take (Tryz.prog.cellsOf 42))=ys[6]?:=hf 6 _ rfl;have h7:DataW.trod enc Tryz.prog w base sp held m 9 (([c0,c1,c2,c3,c4,c5,c6,c7,c8,c9,c10].drop 7).take (Tryz.prog.cellsOf 9))=ys[7]?:=hf 7 _ rfl;have h8:DataW.trod enc Tryz.prog w base sp held m 3 (([c0,c1,c2,c3,c4,c5,c6,c7,c8,c9,c10].drop 8).take (Tryz.prog.cellsOf 3))=ys[8]?:=hf 8 _ rfl;have h9:DataW.trod enc Tryz.prog w base sp held m 9 (([c0,c1,c2,c3,c4,c5,c6,c7,c8,c9,c10].drop 9).take (Tryz.prog.cellsOf 9))=ys[9]?:=hf 9 _ rfl;have h10:DataW.trod enc Tryz.prog w base sp held m 4 (([c0,c1,c2,c3,c4,c5,c6,c7,c8,c9,c10].drop 10).take (Tryz.prog.cellsOf 4))=ys[10]?:=hf 10 _ rfl;rw[ZF] at h0;rw[ZF] at h1;rw[qz] at h2;rw[jko] at h3;rw[jkC] at h4;rw[jhs] at h5;rw[jmG] at h6;rw[ZF] at h7;rw[qz] at h8;rw[ZF] at h9;rw[jcz] at h10;obtain⟨y0,e0⟩:∃y,ys[0]?=some y:=⟨_,List.getElem?_eq_getElem (by rw[hyl];decide)⟩
  rw[e0] at h0;obtain⟨y1,e1⟩:∃y,ys[1]?=some y:=⟨_,List.getElem?_eq_getElem (by rw[hyl];decide)⟩
  rw[e1] at h1;obtain⟨y2,e2⟩:∃y,ys[2]?=some y:=⟨_,List.getElem?_eq_getElem (by rw[hyl];decide)⟩
  rw[e2] at h2;obtain⟨y3,e3⟩:∃y,ys[3]?=some y:=⟨_,List.getElem?_eq_getElem (by rw[hyl];decide)⟩
  rw[e3] at h3;obtain⟨y4,e4⟩:∃y,ys[4]?=some y:=⟨_,List.getElem?_eq_getElem (by rw[hyl];decide)⟩
  rw[e4] at h4;obtain⟨y5,e5⟩:∃y,ys[5]?=some y:=⟨_,List.getElem?_eq_getElem (by rw[hyl];decide)⟩
  rw[e5] at h5;obtain⟨y6,e6⟩:∃y,ys[6]?=some y:=⟨_,List.getElem?_eq_getElem (by rw[hyl];decide)⟩
  rw[e6] at h6;obtain⟨y7,e7⟩:∃y,ys[7]?=some y:=⟨_,List.getElem?_eq_getElem (by rw[hyl];decide)⟩
  rw[e7] at h7;obtain⟨y8,e8⟩:∃y,ys[8]?=some y:=⟨_,List.getElem?_eq_getElem (by rw[hyl];decide)⟩
  rw[e8] at h8;obtain⟨y9,e9⟩:∃y,ys[9]?=some y:=⟨_,List.getElem?_eq_getElem (by rw[hyl];decide)⟩
  rw[e9] at h9;obtain⟨y10,e10⟩:∃y,ys[10]?=some y:=⟨_,List.getElem?_eq_getElem (by rw[hyl];decide)⟩
  rw[e10] at h10;simp only[List.drop_zero,List.take_succ_cons,List.take_zero,List.drop_succ_cons] at h0 h1 h2 h3 h4 h5 h6 h7 h8 h9 h10;obtain⟨s0,q0,-,z0⟩:=DataW.trod_string Tryz.underlying9 h0;obtain⟨s1,q1,-,z1⟩:=DataW.trod_string Tryz.underlying9 h1;obtain⟨s2,q2,-,z2⟩:=DataW.trod_int Tryz.underlying3 h2;obtain⟨l1,r3⟩:=Vec.zJ h3;obtain⟨l2,r4⟩:=jbF h4;obtain⟨l3,r5⟩:=jbK h5;obtain⟨l4,r6⟩:=jfC h6;obtain⟨s7,q7,-,z7⟩:=DataW.trod_string Tryz.underlying9 h7;obtain⟨s8,q8,-,z8⟩:=DataW.trod_int Tryz.underlying3 h8;obtain⟨s9,q9,-,z9⟩:=DataW.trod_string Tryz.underlying9 h9;obtain⟨s10,q10,-⟩:=DataW.trod_bool Tryz.underlying4 h10;simp only[List.cons.injEq,and_true] at q0 q1 q2 q7 q8 q9 q10;subst q0;subst q1;subst q2;subst q7;subst q8;subst q9;subst q10;exact⟨⟨s0,s1,s2,l1,l2,l3,l4,s7,s8,s9,s10⟩,_,_,_,_,rfl,⟨z0,z1,z7,z9,bounds_i64 z2,bounds_i64 z8,r3,r4,r5,r6⟩⟩
def jjX (c:Int) (n:Pd) (w:World) (e:Ending) (w':World):Prop:=(c=0→∃v,e=.returned v∧Ye w.heap.size w' v n)∧(c≠0→e=.panicked [zx c])∧Kept w w'
theorem jjX.bad {c:Int} {n:Pd} {w w':World} (hc:c≠0) (hb:Kept w w'):jjX c n w (.panicked [zx c]) w':=⟨fun g=>absurd g hc,fun _=>rfl,hb⟩
theorem jg7 {W:World} {q p:Nat} {c0 c1 c2 c3 c4 c5 c6 c7 c8 c9 c10 u0 u1 u2 u3 u4 u5 u6 u7 u8 u9 u10:Value} (h:(W).cell? ⟨q,0,none⟩=some (c0)∧(W).cell? ⟨q,1,none⟩=some (c1)∧(W).cell? ⟨q,2,none⟩=some (c2)∧(W).cell? ⟨q,3,none⟩=some (c3)∧(W).cell? ⟨q,4,none⟩=some (c4)∧(W).cell? ⟨q,5,none⟩=some (c5)∧(W).cell? ⟨q,6,none⟩=some (c6)∧(W).cell? ⟨q,7,none⟩=some (c7)∧(W).cell? ⟨q,8,none⟩=some (c8)∧(W).cell? ⟨q,9,none⟩=some (c9)∧(W).cell? ⟨q,10,none⟩=some (c10)) (hne:q≠p) :
 ((((((((((((W.setCell ⟨p,0,none⟩ u0).setCell ⟨p,1,none⟩ u1).setCell ⟨p,2,none⟩ u2).setCell ⟨p,3,none⟩ u3).setCell ⟨p,4,none⟩ u4).setCell ⟨p,5,none⟩ u5).setCell ⟨p,6,none⟩ u6).setCell ⟨p,7,none⟩ u7).setCell ⟨p,8,none⟩ u8).setCell ⟨p,9,none⟩ u9).setCell ⟨p,10,none⟩ u10)).cell? ⟨q,0,none⟩=some (c0)∧((((((((((((W.setCell ⟨p,0,none⟩ u0).setCell ⟨p,1,none⟩ u1).setCell ⟨p,2,none⟩ u2).setCell ⟨p,3,none⟩ u3).setCell ⟨p,4,none⟩ u4).setCell ⟨p,5,none⟩ u5).setCell ⟨p,6,none⟩ u6).setCell ⟨p,7,none⟩ u7).setCell ⟨p,8,none⟩ u8).setCell ⟨p,9,none⟩ u9).setCell ⟨p,10,none⟩ u10)).cell? ⟨q,1,none⟩=some (c1)∧((((((((((((W.setCell ⟨p,0,none⟩ u0).setCell ⟨p,1,none⟩ u1).setCell ⟨p,2,none⟩ u2).setCell ⟨p,3,none⟩ u3).setCell ⟨p,4,none⟩ u4).setCell ⟨p,5,none⟩ u5).setCell ⟨p,6,none⟩ u6).setCell ⟨p,7,none⟩ u7).setCell ⟨p,8,none⟩ u8).setCell ⟨p,9,none⟩ u9).setCell ⟨p,10,none⟩ u10)).cell? ⟨q,2,none⟩=some (c2)∧((((((((((((W.setCell ⟨p,0,none⟩ u0).setCell ⟨p,1,none⟩ u1).setCell ⟨p,2,none⟩ u2).setCell ⟨p,3,none⟩ u3).setCell ⟨p,4,none⟩ u4).setCell ⟨p,5,none⟩ u5).setCell ⟨p,6,none⟩ u6).setCell ⟨p,7,none⟩ u7).setCell ⟨p,8,none⟩ u8).setCell ⟨p,9,none⟩ u9).setCell ⟨p,10,none⟩ u10)).cell? ⟨q,3,none⟩=some (c3)∧((((((((((((W.setCell ⟨p,0,none⟩ u0).setCell ⟨p,1,none⟩ u1).setCell ⟨p,2,none⟩ u2).setCell ⟨p,3,none⟩ u3).setCell ⟨p,4,none⟩ u4).setCell ⟨p,5,none⟩ u5).setCell ⟨p,6,none⟩ u6).setCell ⟨p,7,none⟩ u7).setCell ⟨p,8,none⟩ u8).setCell ⟨p,9,none⟩ u9).setCell ⟨p,10,none⟩ u10)).cell? ⟨q,4,none⟩=some (c4)∧((((((((((((W.setCell ⟨p,0,none⟩ u0).setCell ⟨p,1,none⟩ u1).setCell ⟨p,2,none⟩ u2).setCell ⟨p,3,none⟩ u3).setCell ⟨p,4,none⟩ u4).setCell ⟨p,5,none⟩ u5).setCell ⟨p,6,none⟩ u6).setCell ⟨p,7,none⟩ u7).setCell ⟨p,8,none⟩ u8).setCell ⟨p,9,none⟩ u9).setCell ⟨p,10,none⟩ u10)).cell? ⟨q,5,none⟩=some (c5)∧((((((((((((W.setCell ⟨p,0,none⟩ u0).setCell ⟨p,1,none⟩ u1).setCell ⟨p,2,none⟩ u2).setCell ⟨p,3,none⟩ u3).setCell ⟨p,4,none⟩ u4).setCell ⟨p,5,none⟩ u5).setCell ⟨p,6,none⟩ u6).setCell ⟨p,7,none⟩ u7).setCell ⟨p,8,none⟩ u8).setCell ⟨p,9,none⟩ u9).setCell ⟨p,10,none⟩ u10)).cell? ⟨q,6,none⟩=some (c6)∧((((((((((((W.setCell ⟨p,0,none⟩ u0).setCell ⟨p,1,none⟩ u1).setCell ⟨p,2,none⟩ u2).setCell ⟨p,3,none⟩ u3).setCell ⟨p,4,none⟩ u4).setCell ⟨p,5,none⟩ u5).setCell ⟨p,6,none⟩ u6).setCell ⟨p,7,none⟩ u7).setCell ⟨p,8,none⟩ u8).setCell ⟨p,9,none⟩ u9).setCell ⟨p,10,none⟩ u10)).cell? ⟨q,7,none⟩=some (c7)∧((((((((((((W.setCell ⟨p,0,none⟩ u0).setCell ⟨p,1,none⟩ u1).setCell ⟨p,2,none⟩ u2).setCell ⟨p,3,none⟩ u3).setCell ⟨p,4,none⟩ u4).setCell ⟨p,5,none⟩ u5).setCell ⟨p,6,none⟩ u6).setCell ⟨p,7,none⟩ u7).setCell ⟨p,8,none⟩ u8).setCell ⟨p,9,none⟩ u9).setCell ⟨p,10,none⟩ u10)).cell? ⟨q,8,none⟩=some (c8)∧((((((((((((W.setCell ⟨p,0,none⟩ u0).setCell ⟨p,1,none⟩ u1).setCell ⟨p,2,none⟩ u2).setCell ⟨p,3,none⟩ u3).setCell ⟨p,4,none⟩ u4).setCell ⟨p,5,none⟩ u5).setCell ⟨p,6,none⟩ u6).setCell ⟨p,7,none⟩ u7).setCell ⟨p,8,none⟩ u8).setCell ⟨p,9,none⟩ u9).setCell ⟨p,10,none⟩ u10)).cell? ⟨q,9,none⟩=some (c9)∧((((((((((((W.setCell ⟨p,0,none⟩ u0).setCell ⟨p,1,none⟩ u1).setCell ⟨p,2,none⟩ u2).setCell ⟨p,3,none⟩ u3).setCell ⟨p,4,none⟩ u4).setCell ⟨p,5,none⟩ u5).setCell ⟨p,6,none⟩ u6).setCell ⟨p,7,none⟩ u7).setCell ⟨p,8,none⟩ u8).setCell ⟨p,9,none⟩ u9).setCell ⟨p,10,none⟩ u10)).cell? ⟨q,10,none⟩=some (c10):=by
 have e:(W.setCells p 0 [u0,u1,u2,u3,u4,u5,u6,u7,u8,u9,u10]).heap[q]?=W.heap[q]?:=Yb p _ 0 W q hne;have c:∀j,((((((((((((W.setCell ⟨p,0,none⟩ u0).setCell ⟨p,1,none⟩ u1).setCell ⟨p,2,none⟩ u2).setCell ⟨p,3,none⟩ u3).setCell ⟨p,4,none⟩ u4).setCell ⟨p,5,none⟩ u5).setCell ⟨p,6,none⟩ u6).setCell ⟨p,7,none⟩ u7).setCell ⟨p,8,none⟩ u8).setCell ⟨p,9,none⟩ u9).setCell ⟨p,10,none⟩ u10)).cell? ⟨q,j,none⟩=W.cell? ⟨q,j,none⟩:=fun j=>World.cell?_of_block (a:=⟨q,j,none⟩) e;simp only[c];exact h
end Go.Proofs.YtokdjfoalkmhiaaGreat
