/- C. -/
import Derived.Test.YtnfojaidmnccoaaGreatDoorG0
import Derived.Test.YtnfojaidmnccoaaGreatDoorG1
import Derived.Test.YtnfojaidmnccoaaGreatDoorG2
import Derived.Test.YtnfojaidmnccoaaGreatDoorG3
import Derived.Deep.AppendSrc
import Derived.Deep.DeepAppendWide
set_option linter.unusedVariables false
set_option maxRecDepth 100000
set_option maxHeartbeats 25600000
namespace Go.Proofs.YtnfojaidmnccoaaGreatDoor
open Go.RowKit
def Jg (l:RL) (g:Int):Option (Int×Int×Int):=match l.find? (fun r=>decide (g≤r.1)) with
 | some r=>some r
 | none=>l.getLast?
def atL (n:Lad) (t:Vec.V):Option (Int×Int×Int):=Jg n.rungs (Vec.j9 t n.what)
theorem qC {l:RL} {g:Int} {k:Nat} {r:Int×Int×Int} (h:l.find? (fun r=>decide (g≤r.1))=(l.drop k).find? (fun r=>decide (g≤r.1))) (hd:l.drop k=r::l.drop (k+1)) (hg:g≤r.1):Jg l g=some r:=by
 unfold Jg;rw[h,hd,List.find?_cons_of_pos (by simpa using hg)]
theorem X0 {l:RL} {g:Int} {k:Nat} {r:Int×Int×Int} (h:l.find? (fun r=>decide (g≤r.1))=(l.drop k).find? (fun r=>decide (g≤r.1))) (hd:l.drop k=r::l.drop (k+1)) (hg:¬g≤r.1):l.find? (fun r=>decide (g≤r.1))=(l.drop (k+1)).find? (fun r=>decide (g≤r.1)):=by
 rw[h,hd,List.find?_cons_of_neg (by simpa using hg)]
theorem XT {l:RL} {g:Int} {k:Nat} {r:Int×Int×Int} (h:l.find? (fun r=>decide (g≤r.1))=(l.drop k).find? (fun r=>decide (g≤r.1))) (hk:l.length≤k) (hr:l[l.length-1]?=some r):Jg l g=some r:=by
 unfold Jg;rw[h,List.drop_of_length_le hk];show l.getLast?=_;rw[List.getLast?_eq_getElem?,hr]
abbrev jbP (r:Int×Int×Int):Value:=.agg #[.int .i64 r.1,.int .i64 r.2.1,.int .i64 r.2.2]
def AtR (o:Option (Int×Int×Int)) (w:World) (e:Ending) (w':World):Prop:=e=.returned (.tuple #[jbP (o.getD (0,0,0)),.bool o.isSome])∧Kept w w'
theorem jaY (n:Lad) (a1 a2:Option Addr) (l1 c1 l2 c2:Nat) (tv:Value) (t:Vec.V) (w:World) (h:j7 w (.slice a1 l1 c1) (.slice a2 l2 c2) n) (ht:Vec.Reads w tv t) :
 Calls Tryz.prog 20 #[.agg #[.string n.what,.slice a1 l1 c1,.slice a2 l2 c2,.int .i64 n.lo,.int .i64 n.hi],tv] w (AtR (atL n t) w):=by
 obtain⟨W1,hW1⟩:=eX (w.alloc (.cells #[.string n.what,.slice a1 l1 c1,.slice a2 l2 c2,.int .i64 n.lo,.int .i64 n.hi] 26))
 have k1:Kept w W1:=by rw[←hW1];exact jb _ _
 obtain⟨W2,hW2⟩:=eX (W1.alloc (.cells #[.int .i64 0,.int .i64 0,.int .i64 0] 46))
 have k2:Kept W1 W2:=by rw[←hW2];exact jb _ _
 obtain⟨HL,HZ,HK,T7⟩:=lH4 ((js w (.string n.what) [.slice a1 l1 c1,.slice a2 l2 c2,.int .i64 n.lo,.int .i64 n.hi] 26 W1 (by rw[hW1];exact Kept.refl _)).kept k2) (js W1 (.int .i64 0) [.int .i64 0,.int .i64 0] 46 W2 (by rw[hW2];exact Kept.refl _)) (k1.trans k2) k1.size;obtain⟨zb,hzb⟩:=eX (W1.heap.size)
 obtain⟨lb,hlb⟩:=eX (w.heap.size)
 rw[hzb] at HZ;rw[hlb] at HL;have Uy:=lH (show lb<zb by have:=(js w (.string n.what) [.slice a1 l1 c1,.slice a2 l2 c2,.int .i64 n.lo,.int .i64 n.hi] 26 W1 (by rw[hW1];exact Kept.refl _)).lt;omega);have VF:=lH hlb;obtain⟨g,hg⟩:=eX (Vec.j9 t n.what)
 obtain⟨HG,HV,R6⟩:=lH3 (fun W (k:Kept w W)=>Vec.jcZ (ht.kept k) hg) (show atL n t=Jg n.rungs g by unfold atL;rw[hg]) hg;have hr:=h.rungs;obtain⟨a9,c9,e9,hcl,hcm,hrow⟩:=hr;obtain⟨rfl,rfl,rfl⟩:a2=a9∧l2=n.rungs.length∧c2=c9:=by cases e9;exact⟨rfl,rfl,rfl⟩
 obtain⟨len,hlen⟩:=eX (n.rungs.length)
 have Vj:=lH hlen;have HR:=lH hrow;have hm:=hrow.2.1;unfold maxLen at hm;rw[hlen] at HL HR hm;have hsz:=h.size;clear h ht hg e9 hcl hcm hrow k1 k2;by_cases h0:len=0
 · subst h0;have HN:=lH (show Jg n.rungs g=none by rw[List.eq_nil_of_length_eq_zero Vj.out];rfl);obtain⟨y0,y1,y2,y3,y4⟩:=HL.out.at5;obtain⟨z0,z1,z2⟩:=HZ.out.at3;have f0:=HZ.out.free 0;have f1:=HZ.out.free 1;have f2:=HZ.out.free 2;go_enter Tryz.func20,Tryz.ntmps20;have Tq:=lH (HV.out.trans HN.out);clear hlen;go_wp2;have P:=lH (zl (vs:=[.int .i64 0,.int .i64 0,.int .i64 0]) HZ.out rfl);obtain⟨WE,hWE⟩:=eX (W2.setCells zb 0 [.int .i64 0,.int .i64 0,.int .i64 0])
   have hWE2:(((W2.setCell ⟨zb,0,none⟩ (.int .i64 0)).setCell ⟨zb,1,none⟩ (.int .i64 0)).setCell ⟨zb,2,none⟩ (.int .i64 0))=WE:=hWE;rw[hWE] at P;try rw[hWE2]
   clear hWE hWE2;have PC:=P.out.cells;refine bodyPost_ret (by simp[results,Tryz.results20,go_sem,PC.at_ 0 _ rfl,PC.at_ 1 _ rfl,PC.at_ 2 _ rfl];try rfl) rfl ?_;exact⟨by rw[Tq.out];rfl,P.out.below _ _ (by have:=Uy.out;have:=VF.out;omega) HK.out⟩
 · have Tr:=Uy.out;have hlp:0<len:=by omega
   have hne:((len:Int)==0)=false:=by simpa using h0
   clear Tr h0;rw[hlen] at hW1 ⊢;clear hlen;obtain⟨y0,y1,y2,y3,y4⟩:=HL.out.at5;obtain⟨z0,z1,z2⟩:=HZ.out.at3;have f0:=HZ.out.free 0;have f1:=HZ.out.free 1;have f2:=HZ.out.free 2;go_enter Tryz.func20,Tryz.ntmps20;go_wp2_with fail
   refine(HG.out _ HK.out).mono ?_;rintro e w3 ⟨rfl,kk⟩;obtain⟨HL,HZ,HK⟩:=lH3 (HL.out.kept kk) (HZ.out.kept kk) (HK.out.trans kk);have HR:=lH (HR.out.kept HK.out);clear kk HG y0 y1 y2 y3 y4 z0 z1 z2 f0 f1 f2 hW1 hW2 hzb hlb;obtain⟨y0,y1,y2,y3,y4⟩:=HL.out.at5;go_wp2;go_loopw [21] (fun iv wr=>∃k:Nat,k≤len∧iv=.int .i64 k∧n.rungs.find? (fun r=>decide (g≤r.1))=(n.rungs.drop k).find? (fun r=>decide (g≤r.1))∧Kept w3 wr) (fun iv _=>len-(intOf iv).toNat)
   case atStart=>exact⟨0,Nat.zero_le _,rfl,rfl,Kept.refl _⟩
   case round =>
    obtain⟨k,hk,rfl,hfd,hK3⟩:=hrel;have Ts:=lH hfd;have Vw:=lH hK3;clear hfd hK3 y0 y1 y2 y3 y4;obtain⟨b,off,rfl⟩:=HR.out.form.resolve_left (by omega);by_cases hlt:k<len
    · skip;obtain⟨u,c,p,hn,hd,hb,hfine,p0,p1,p2⟩:=(HR.out.kept Vw.out).rung hlt;have HD:=lH hd;have hkk:(k:Int)<(len:Int):=by omega
      obtain⟨w4,hw4⟩:=eX (wr.alloc (.cells #[.int .i64 u,.int .i64 c,.int .i64 p] 46))
      have k4:Kept wr w4:=by rw[←hw4];exact jb _ _
      obtain⟨r0,r1,r2⟩:=(js wr (.int .i64 u) [.int .i64 c,.int .i64 p] 46 w4 (by rw[hw4];exact Kept.refl _)).at3;have HZ:=lH (HZ.out.kept (Vw.out.trans k4));have UJ:=lH (HK.out.trans (Vw.out.trans k4));obtain⟨z0,z1,z2⟩:=HZ.out.at3;have f0:=HZ.out.free 0;have f1:=HZ.out.free 1;have f2:=HZ.out.free 2;obtain⟨rb,hrb⟩:=eX (wr.heap.size)
      rw[hrb] at r0 r1 r2;have U6:=lH (Vw.out.trans k4);clear hn hd hfine k4;by_cases hg:g≤u
      · skip;have HW:=lH (show atL n t=some (u,c,p) by rw[HV.out];exact qC Ts.out HD.out hg);go_wp2;have P:=lH (zl (vs:=[.int .i64 u,.int .i64 c,.int .i64 p]) HZ.out rfl);obtain⟨WE,hWE⟩:=eX (w4.setCells zb 0 [.int .i64 u,.int .i64 c,.int .i64 p])
        have hWE2:(((w4.setCell ⟨zb,0,none⟩ (.int .i64 u)).setCell ⟨zb,1,none⟩ (.int .i64 c)).setCell ⟨zb,2,none⟩ (.int .i64 p))=WE:=hWE;rw[hWE] at P;try rw[hWE2]
        clear hWE hWE2;have PC:=P.out.cells;refine bodyPost_ret (by simp[results,Tryz.results20,go_sem,PC.at_ 0 _ rfl,PC.at_ 1 _ rfl,PC.at_ 2 _ rfl];try rfl) rfl ?_;exact⟨by rw[HW.out];rfl,P.out.below _ _ (by have:=Uy.out;have:=VF.out;omega) UJ.out⟩
      · skip;have HW:=lH (X0 Ts.out HD.out hg);go_wp2;go_roundw
        case rel=>exact⟨k+1,by omega,by go_num,HW.out,U6.out⟩
        case measure=>simp[intOf];omega
    · skip;obtain⟨q,hq⟩:∃q,len=q+1:=⟨len-1,by omega⟩
      have g1:(len:Int)-1=(q:Int):=by omega
      have gw:IntKind.i64.wrap (q:Int)=(q:Int):=by rw[IntKind.wrap_i64];omega
      have g2:(q:Int)<(len:Int):=by omega
      obtain⟨u,c,p,hn,hd,hb,hfine,p0,p1,p2⟩:=(HR.out.kept Vw.out).rung (show q<len by omega);have hkk:¬(k:Int)<(len:Int):=by omega
      have HL:=lH (HL.out.kept Vw.out);have HZ:=lH (HZ.out.kept Vw.out);obtain⟨y0,y1,y2,y3,y4⟩:=HL.out.at5;obtain⟨z0,z1,z2⟩:=HZ.out.at3;have f0:=HZ.out.free 0;have f1:=HZ.out.free 1;have f2:=HZ.out.free 2;have HW:=lH (show atL n t=some (u,c,p) by rw[HV.out];exact XT Ts.out (by rw[Vj.out];omega) (by rw[Vj.out,show len-1=q by omega];exact hn));have UJ:=lH (HK.out.trans Vw.out);clear hq hn hd hfine;go_wp2;have P:=lH (zl (vs:=[.int .i64 u,.int .i64 c,.int .i64 p]) HZ.out rfl);obtain⟨WE,hWE⟩:=eX (wr.setCells zb 0 [.int .i64 u,.int .i64 c,.int .i64 p])
      have hWE2:(((wr.setCell ⟨zb,0,none⟩ (.int .i64 u)).setCell ⟨zb,1,none⟩ (.int .i64 c)).setCell ⟨zb,2,none⟩ (.int .i64 p))=WE:=hWE;rw[hWE] at P;try rw[hWE2]
      clear hWE hWE2;have PC:=P.out.cells;refine bodyPost_ret (by simp[results,Tryz.results20,go_sem,PC.at_ 0 _ rfl,PC.at_ 1 _ rfl,PC.at_ 2 _ rfl];try rfl) rfl ?_;exact⟨by rw[HW.out];rfl,P.out.below _ _ (by have:=Uy.out;have:=VF.out;omega) UJ.out⟩
def Kind (t e:TypeId) (size bytes:Nat):Prop:=∃i z,Tryz.prog.underlying t=some (.slice e)∧Tryz.prog.info? e=some i∧i.zero=some z∧i.size=size∧i.bytes=bytes∧z.cells.size=size∧0<size
def Zr (w:World) (y:Value) (m:Nat) (news:List Value):Prop :=
 (∃ad c,y=.slice (some ad) m c∧∀j u,news[j]?=some u→w.cell? (ad.add j)=some u)∨(∃c,y=.slice none 0 c∧m=0)
theorem qb {t e:TypeId} {size bytes:Nat} (K:Kind t e size bytes) (w:World) (B:Nat) (hB:B≤w.heap.size) (g n cap:Nat) (xs:List Value) (hown:w.ownsRow B e size (.slice (some ⟨g,0,none⟩) n cap) n xs) (y:Value) (m:Nat) (news:List Value) (hl:news.length=m*size) (hone:∀u ∈ news,u.oneCell'=true) (hy:Zr w y m news)
 (h63:n+m≤maxLen) (hb:((n+m)+(n+m) / 4+192)*bytes≤281474976710656) (ty:TypeId) :
 ∃g' cap' w',(Builtin.append_ #[t,t] ty #[.slice (some ⟨g,0,none⟩) n cap,y]).run Tryz.prog w=.ok (.slice (some ⟨g',0,none⟩) (n+m) cap') w'∧w'.ownsRow B e size (.slice (some ⟨g',0,none⟩) (n+m) cap') (n+m) (xs++news)∧Below B w w'∧w.grownBy w' (some g):=by
 obtain⟨i,z,ht,hi,hz,h1,h8,hzs,hsz⟩:=K;have hbg:B≤g:=by
  rcases hown.2 with ⟨h0,_⟩ | ⟨g2,cap2,cur,h0,hbg,_⟩
  · cases h0
  · cases h0;exact hbg
 rcases hy with ⟨ad,c,rfl,hc⟩ | ⟨c,rfl,rfl⟩
 · obtain⟨v',w',hr,ho,hg,hnil⟩:=run_append_own_wide w B t ty e i z size bytes ht hi hz h1 h8 hzs hsz _ n xs hown ad m c news hl hc hone h63 hb hB;have hb:=(Below.refl B w).grown hg hB (by intro k hk;cases hk;exact hbg);rcases ho.2 with ⟨h0,_⟩ | ⟨g2,cap2,cur,rfl,_⟩
   · have:=(hnil.1 h0).1
     cases this
   · exact⟨g2,cap2,w',hr,ho,hb,hg⟩
 · have:news=[]:=List.eq_nil_of_length_eq_zero (by rw[hl,Nat.zero_mul]);subst this;rcases hown.2 with ⟨h0,_⟩ | ⟨g2,cap2,cur,h0,_,hg,hnc,_⟩
   · cases h0
   · cases h0
     have hr:=run_append_room_src w t t ty e i ht hi g 0 n cap (.slice none 0 c) 0 [] (Src.ofNil w ht c) (by omega) (by intro j hj;simp at hj) (by intro j hj;simp at hj);exact⟨_,_,_,hr,by simpa [World.setCells] using hown,Below.refl B w,World.grownBy.refl _ _⟩
theorem qF {t e:TypeId} {size bytes:Nat} (Kd:Kind t e size bytes) {o:Oper} {a:Act} {K:Act→World→Prop} {Q:Exit→Act→World→Prop} (s x:Operand) (w:World)
 (ho:o.op=.call { callee:=.builtin .append,args:=#[s,x],argTypes:=#[t,t] })
 (B:Nat) (hB:B≤w.heap.size) (g n cap:Nat) (xs:List Value) (hs:a.eval s=.slice (some ⟨g,0,none⟩) n cap) (hown:w.ownsRow B e size (.slice (some ⟨g,0,none⟩) n cap) n xs) (y:Value) (m:Nat) (news:List Value) (hx:a.eval x=y) (hl:news.length=m*size) (hone:∀u ∈ news,u.oneCell'=true) (hy:Zr w y m news)
 (h63:n+m≤maxLen) (hb:((n+m)+(n+m) / 4+192)*bytes≤281474976710656)
 (h:∀g' cap' w',w'.ownsRow B e size (.slice (some ⟨g',0,none⟩) (n+m) cap') (n+m) (xs++news)→Below B w w'→w.grownBy w' (some g)→K (a.put o.dst (.slice (some ⟨g',0,none⟩) (n+m) cap')) w'):o.wp Tryz.prog a w K Q:=by
 obtain⟨g',cap',w',hr,h2,h3,h4⟩:=qb Kd w B hB g n cap xs hown y m news hl hone hy h63 hb o.type;unfold Oper.wp execOp;simp only[ho,resolve,invoke,builtin,Sem.run_bind,Sem.run_pure,Result.andThen_ok,List.map_toArray,List.map_cons,List.map_nil,hs,hx,hr];exact h g' cap' w' h2 h3 h4
theorem JV {t e:TypeId} {size bytes:Nat} (Kd:Kind t e size bytes) {ops:Array Oper} {rest:List Oper} {o:Oper} {a:Act} {Q:Exit→Act→World→Prop} (w:World) (hgd:o.guard=none) (s x:Operand)
 (ho:o.op=.call { callee:=.builtin .append,args:=#[s,x],argTypes:=#[t,t] })
 (B:Nat) (hB:B≤w.heap.size) (g n cap:Nat) (xs:List Value) (hs:a.eval s=.slice (some ⟨g,0,none⟩) n cap) (hown:w.ownsRow B e size (.slice (some ⟨g,0,none⟩) n cap) n xs) (y:Value) (m:Nat) (news:List Value) (hx:a.eval x=y) (hl:news.length=m*size) (hone:∀u ∈ news,u.oneCell'=true) (hy:Zr w y m news)
 (h63:n+m≤maxLen) (hb:((n+m)+(n+m) / 4+192)*bytes≤281474976710656)
 (h:∀g' cap' w',w'.ownsRow B e size (.slice (some ⟨g',0,none⟩) (n+m) cap') (n+m) (xs++news)→Below B w w'→w.grownBy w' (some g)→wpList Tryz.prog ops Q rest (a.put o.dst (.slice (some ⟨g',0,none⟩) (n+m) cap')) w'):wpList Tryz.prog ops Q (o::rest) a w :=
 wpList_plain hgd fun _ hK=>qF Kd s x w ho B hB g n cap xs hs hown y m news hx hl hone hy h63 hb fun g' cap' w' h2 h3 h4=>hK _ _ (h g' cap' w' h2 h3 h4)
theorem jaW (w:World) (B size:Nat) (e:TypeId) (hB:B≤w.heap.size):(w.alloc (.cells #[] e)).ownsRow B e size (.slice (some ⟨w.heap.size,0,none⟩) 0 0) 0 [] :=
 ⟨by simp,.inr ⟨w.heap.size,0,#[],rfl,hB,World.alloc_heap_new w _,by omega,by unfold maxLen;omega,by simp,by simp⟩⟩
theorem jam {w:World} {B g n cap size:Nat} {e:TypeId} {xs:List Value} (h:w.ownsRow B e size (.slice (some ⟨g,0,none⟩) n cap) n xs) (o:Obj):(w.alloc o).ownsRow B e size (.slice (some ⟨g,0,none⟩) n cap) n xs:=by
 refine⟨h.1,?_⟩;rcases h.2 with ⟨h0,_⟩ | ⟨g2,cap2,cur,h0,hb,hg,hr⟩
 · cases h0
 · cases h0
   exact .inr ⟨g,cap,cur,rfl,hb,(Below.heap_alloc w o g (Array.getElem?_eq_some_iff.1 hg).1).trans hg,hr⟩
theorem jce {W:World} {B:Nat} {e:TypeId} {cs:Array Value} {vals:List Value} (hv:cs=vals.toArray) (h:W.heap[B]?=some (.cells cs e (0,0))):Zr W (.slice (some ⟨B,0,none⟩) 1 1) 1 vals:=by
 subst hv;exact .inl ⟨_,1,rfl,by have:=World.news_of_block (cs:=vals.toArray) (t:=e) (fr:=(0,0)) h;simpa using this⟩
theorem jcO:Kind 23 63 2 24:=by
 obtain⟨i,hi,hz,h1,h2⟩:=info_parts (show (Tryz.prog.info? 63).map (fun i=>(i.zero,i.size,i.bytes))=some (some (.agg #[.string ByteArray.empty,.int .i64 0]),2,24) by kernel_rfl);exact⟨i,_,Tryz.underlying23,hi,hz,h1,h2,rfl,by decide⟩
theorem Yv:∀(l:Vec.V) (j:Nat) (u:Value),(Vec.cellsOf l)[j]?=some u→∃i,i<l.length∧((j=i*2∧u=.string (Vec.nm l i))∨(j=i*2+1∧u=.int .i64 (Vec.qn l i))):=by
 intro l j u h;have hlt:j<l.length*2:=by have:=(List.getElem?_eq_some_iff.1 h).1;rw[Vec.zX] at this;exact this
 have hi:j / 2<l.length:=by omega
 obtain⟨h1,h2⟩:=Vec.Jr l (j / 2) hi;refine⟨j / 2,hi,?_⟩;by_cases he:j % 2=0
 · have e:j=j / 2*2:=by omega
   rw[←e] at h1;rw[h1] at h;exact .inl ⟨e,by cases h;rfl⟩
 · have e:j=j / 2*2+1:=by omega
   rw[←e] at h2;rw[h2] at h;exact .inr ⟨e,by cases h;rfl⟩
theorem jbR {w:World} {a:Option Addr} {len cap:Nat} {l:Vec.V} (h:Vec.jJ w a len l):Zr w (.slice a len cap) len (Vec.cellsOf l):=by
 obtain⟨h0,h1,h2,h3⟩:=h;rcases h3 with h3 | ⟨b,off,rfl,hb,hc⟩
 · have hl:l=[]:=List.eq_nil_of_length_eq_zero (by omega);subst hl;subst h3
   cases a with
   | none=>exact .inr ⟨cap,rfl,rfl⟩
   | some ad=>exact .inl ⟨ad,cap,rfl,fun j u hu=>by simp[Vec.cellsOf] at hu⟩
 · refine .inl ⟨_,cap,rfl,fun j u hu=>?_⟩;obtain⟨i,hi,hj⟩:=Yv l j u hu;obtain⟨c1,c2⟩:=hc i (by omega);have e:(⟨b,off,none⟩:Addr).add j=⟨b,off+j,none⟩:=by
    unfold Addr.add;split<;>simp_all
   rw[e];rcases hj with ⟨rfl,rfl⟩ | ⟨rfl,rfl⟩
   · exact c1
   · rw[←Nat.add_assoc];exact c2
theorem q7 (a:Option Addr) (len cap:Nat) (l:Vec.V) (w:World) (hr:Vec.jJ w a len l) (hc:len≤cap) (hm:cap≤maxLen) (hn:len≤1000000) :
 Calls Tryz.prog 33 #[.slice a len cap] w fun e w'=>∃a' m' c',e=.returned (.slice a' m' c')∧Vec.Reads w' (.slice a' m' c') l∧(∀b off sp,a'=some ⟨b,off,sp⟩→w.heap.size≤b)∧Kept w w':=by
 have hl:=hr.1;have q22:∀(w:World) (a:Option Addr) (n c n' c':Nat),(binOp .eql 23 (.slice a n c) (.slice none n' c')).run Tryz.prog w=.ok (.bool a.isNone) w:=fun w a n c n' c'=>Lib.run_eql_slice_nil w _ _ a n c n' c' Tryz.underlying23
 cases a with
 | none =>
  have h0:len=0:=by
   rcases hr.form with h | ⟨b,off,h⟩
   · exact h
   · cases h
  subst h0;have hl0:l=[]:=List.eq_nil_of_length_eq_zero hl;subst hl0;clear hr hl;go_enter Tryz.func33,Tryz.ntmps33;go_wp2;go_ret;exact⟨none,0,0,rfl,Vec.Reads.nil _,(fun b o s e=>by cases e),Kept.refl _⟩
 | some ad =>
  have HR:=lH hr;have HL:=lH hl;have hrl:(Vec.cellsOf l).length=len*2:=by rw[Vec.zX,hl]
  have hb1:0+len≤maxLen:=by unfold maxLen;omega
  have hb2:((0+len)+(0+len) / 4+192)*24≤281474976710656:=by omega
  clear hr hl;go_enter Tryz.func33,Tryz.ntmps33;go_wp2_with (at_builtin;refine JV jcO _ rfl (.tmp 5) (.tmp 6) rfl w.heap.size (by simp) w.heap.size 0 0 [] rfl (jaW w w.heap.size 2 _ (Nat.le_refl _)) _ len (Vec.cellsOf l) rfl hrl (Vec.zo _) (jbR (HR.out.kept (jb _ _))) hb1 hb2 ?_;intro g1 k1 W1 ho hd hg;have HO:=lH ho;have HD:=lH hd;clear ho hd hg;refine Hid.out ?_)
  refine lH ?_;simp only[Nat.zero_add,List.nil_append] at HO ⊢;go_wp2;go_ret;exact⟨_,_,_,rfl,Vec.jt.reads (⟨by rw[HL.out];exact HO.out,HR.out.2.2.1⟩:Vec.jt 63 W1 w.heap.size (.slice (some ⟨g1,0,none⟩) len k1) l),(fun b o s e=>by cases e;exact(HO.out.lt g1 rfl).1),Below.trans (jb w _) HD.out⟩
def jaN (c lo hi:Int):Int:=min (max c lo) hi
def zR (n:Lad) (t:Vec.V):Int×Vec.V×Int :=
 if jF n≠0 then (0,[],jF n) else match atL n t with
 | none=>(n.lo,n.unit,0)
 | some r=>if (Vec.jZ Vec.jE r.2.2 n.unit).1≠0 then (0,[],(Vec.jZ Vec.jE r.2.2 n.unit).1) else (jaN r.2.1 n.lo n.hi,(Vec.jZ Vec.jE r.2.2 n.unit).2,0)
def jbN (x:Int×Vec.V×Int) (w:World) (e:Ending) (w':World):Prop:=∃v,e=.returned (.tuple #[.int .i64 x.1,v,.int .i64 x.2.2])∧Vec.Reads w' v x.2.1∧Kept w w'
theorem jbC {n:Lad} {t:Vec.V} {r:Int×Int×Int} (hf:∀x ∈ n.rungs,I64 x.1∧I64 x.2.1∧I64 x.2.2) (h:atL n t=some r):I64 r.1∧I64 r.2.1∧I64 r.2.2:=by
 refine hf r ?_;unfold atL Jg at h;split at h
 · rename_i r' hr;obtain rfl:=Option.some.inj h;exact List.mem_of_find?_eq_some hr
 · exact List.mem_of_getLast? h
theorem XD {a b c d:Int} (h:orL [a,b,c,d]=0):a=0∧b=0∧c=0∧d=0:=by
 simp only[orL] at h;split at h
 · rename_i h1;exact absurd h h1
 · split at h
   · rename_i h1;exact absurd h h1
   · split at h
     · rename_i h1;exact absurd h h1
     · split at h
       · rename_i h1;exact absurd h h1
       · omega
theorem XL {n:Lad} (h:jF n=0):n.unit.length≤8:=by
 have:=(XD h).2.1;unfold Vec.jf at this;split at this
 · cases this
 · omega
theorem jbz (n:Lad) (a1 a2:Option Addr) (l1 c1 l2 c2:Nat) (tv:Value) (t:Vec.V) (w:World) (h:j7 w (.slice a1 l1 c1) (.slice a2 l2 c2) n) (ht:Vec.Reads w tv t) :
 Calls Tryz.prog 16 #[.agg #[.string n.what,.slice a1 l1 c1,.slice a2 l2 c2,.int .i64 n.lo,.int .i64 n.hi],tv] w (jbN (zR n t) w):=by
 obtain⟨W1,hW1⟩:=eX (w.alloc (.cells #[.string n.what,.slice a1 l1 c1,.slice a2 l2 c2,.int .i64 n.lo,.int .i64 n.hi] 26))
 have k1:Kept w W1:=by rw[←hW1];exact jb _ _
 have HL:=lH (js w (.string n.what) [.slice a1 l1 c1,.slice a2 l2 c2,.int .i64 n.lo,.int .i64 n.hi] 26 W1 (by rw[hW1];exact Kept.refl _));obtain⟨lb,hlb⟩:=eX (w.heap.size)
 rw[hlb] at HL;obtain⟨HK,HA,HT,HF⟩:=lH4 k1 h ht (h.rungs.fine);clear h ht k1;obtain⟨e1,he1⟩:=eX (jF n)
 have Us:=lH he1;have HC:=lH (fun W (k:Kept w W)=>J4 n (.slice a1 l1 c1) (.slice a2 l2 c2) W (HA.out.kept k));unfold Ji at HC;rw[he1] at HC;clear he1;obtain⟨y0,y1,y2,y3,y4⟩:=HL.out.at5;go_enter Tryz.func16,Tryz.ntmps16;go_wp2_with fail
 try rw[hW1]
 try rw[hlb]
 clear hW1 hlb;refine(HC.out _ HK.out).mono ?_;rintro e w2 ⟨rfl,kk⟩;have HL:=lH (HL.out.kept kk);have HK:=lH (HK.out.trans kk);clear kk HC y0 y1 y2 y3 y4;by_cases hz:e1=0
 · subst hz;obtain⟨o,ho⟩:=eX (atL n t)
   have HO:=lH ho;have Vc:=lH (fun W (k:Kept w W)=>jaY n a1 a2 l1 c1 l2 c2 tv t W (HA.out.kept k) (HT.out.kept k));rw[ho] at Vc;unfold AtR jbP at Vc;obtain⟨⟨u,c,p⟩,hr⟩:∃r,o.getD (0,0,0)=r:=⟨_,rfl⟩
   rw[hr] at Vc;have VM:=lH hr;obtain⟨ok,hok⟩:=eX (o.isSome)
   rw[hok] at Vc;have VN:=lH hok;dsimp only at Vc;clear ho hr hok;obtain⟨y0,y1,y2,y3,y4⟩:=HL.out.at5;go_wp2_with fail
   refine(Vc.out _ HK.out).mono ?_;rintro e w3 ⟨rfl,kk⟩;have HL:=lH (HL.out.kept kk);have HK:=lH (HK.out.trans kk);clear kk Vc y0 y1 y2 y3 y4;obtain⟨w4,hw4⟩:=eX (w3.alloc (.cells #[.int .i64 u,.int .i64 c,.int .i64 p] 46))
   have k4:Kept w3 w4:=by rw[←hw4];exact jb _ _
   have HB:=lH (js w3 (.int .i64 u) [.int .i64 c,.int .i64 p] 46 w4 (by rw[hw4];exact Kept.refl _));obtain⟨rb,hrb⟩:=eX (w3.heap.size)
   rw[hrb] at HB;have HL:=lH (HL.out.kept k4);have HK:=lH (HK.out.trans k4);clear k4;obtain⟨y0,y1,y2,y3,y4⟩:=HL.out.at5;obtain⟨r0,r1,r2⟩:=HB.out.at3
   cases ok with
   | false =>
    have HW:=lH (show zR n t=(n.lo,n.unit,0) by
     have e:o=none:=by cases o with
      | none=>rfl
      | some x=>exact absurd VN.out (by simp)
     unfold zR;rw[if_neg (by rw[Us.out];decide),HO.out,e])
    clear r0 r1 r2;go_upto_region 6 with fail
    try rw[hw4]
    try rw[hrb]
    clear hw4 hrb y0 y1 y2 y3 y4;have HS:=lH (show ∀W,Kept w4 W→W.cell? ⟨lb,0,none⟩=some (.string n.what)∧W.cell? ⟨lb,1,none⟩=some (.slice a1 l1 c1)∧W.cell? ⟨lb,2,none⟩=some (.slice a2 l2 c2)∧W.cell? ⟨lb,3,none⟩=some (.int .i64 n.lo)∧W.cell? ⟨lb,4,none⟩=some (.int .i64 n.hi) from fun W k=>(HL.out.kept k).at5);have J:=lH (Kept.drew w4);refine wp_region_held_drew (S:=fun W=>W.cell? ⟨lb,0,none⟩=some (.string n.what)∧W.cell? ⟨lb,1,none⟩=some (.slice a1 l1 c1)∧W.cell? ⟨lb,2,none⟩=some (.slice a2 l2 c2)∧W.cell? ⟨lb,3,none⟩=some (.int .i64 n.lo)∧W.cell? ⟨lb,4,none⟩=some (.int .i64 n.hi)) (by kernel_rfl) (HS.out _ J.out) (fun hHeld=>?_);obtain⟨wd,hwd⟩:=eX (w4.drew)
    rw[hwd] at J hHeld;try rw[hwd]
    clear hwd;refine tR 0 rfl (by kernel_rfl) (fun _ _ _=>id) (Or.inl ⟨by rfl,by rintro W ⟨o0,o1,o2,o3,o4⟩;go_simp<;>with_reducible rfl⟩) ‹_› ?_;try simp only[nA,nB,nC,nD,nE]
    refine tR 1 rfl (by kernel_rfl) (fun _ _ _=>id) (Or.inl ⟨by rfl,by rintro W ⟨o0,o1,o2,o3,o4⟩;go_simp<;>with_reducible rfl⟩) ‹_› ?_;try simp only[nA,nB,nC,nD,nE]
    refine tR 2 rfl (by kernel_rfl) (fun _ _ _=>id) (Or.inl ⟨by rfl,by rintro W ⟨o0,o1,o2,o3,o4⟩;go_simp<;>with_reducible rfl⟩) ‹_› ?_;try simp only[nA,nB,nC,nD,nE]
    refine tR 3 rfl (by kernel_rfl) (fun _ _ _=>id) (Or.inl ⟨by rfl,by rintro W ⟨o0,o1,o2,o3,o4⟩;go_simp<;>with_reducible rfl⟩) ‹_› ?_;try simp only[nA,nB,nC,nD,nE]
    refine rd1 4 fun K9 Ky=>?_;go_simp;obtain⟨a9,c9,e9,q1,q2,q3⟩:=(HA.out.kept (HK.out.trans J.out)).unit;obtain⟨rfl,rfl,rfl⟩:a1=a9∧l1=n.unit.length∧c1=c9:=by cases e9;exact⟨rfl,rfl,rfl⟩
    refine(q7 a1 _ c1 n.unit wd q3 q1 q2 (by have:=XL Us.out;omega)).mono ?_;rintro e w5 ⟨a5,m5,c5,rfl,hrd,-,kk⟩;have J:=lH (J.out.trans kk);have Uj:=lH hrd;clear kk hrd e9 q1 q2 q3;refine Ky.out _ _ (HS.out _ J.out) (fun _=>?_);clear Ky K9;try simp only[nA,nB,nC,nD,nE]
    refine tR 5 rfl (by kernel_rfl) (fun _ _ _=>id) (Or.inl ⟨by rfl,by rintro W ⟨o0,o1,o2,o3,o4⟩;go_simp<;>with_reducible rfl⟩) ‹_› ?_;try simp only[nA,nB,nC,nD,nE]
    refine tR 6 rfl (by kernel_rfl) (fun _ _ _=>id) (Or.inl ⟨by rfl,by rintro W ⟨o0,o1,o2,o3,o4⟩;go_simp<;>with_reducible rfl⟩) ‹_› ?_;try simp only[nA,nB,nC,nD,nE]
    refine tR 7 rfl (by kernel_rfl) (fun _ _ _=>id) (Or.inl ⟨by rfl,by rintro W ⟨o0,o1,o2,o3,o4⟩;go_simp<;>with_reducible rfl⟩) ‹_› ?_;try simp only[nA,nB,nC,nD,nE]
    refine wpAnyH_done (by kernel_rfl) ?_ _;go_wp2;go_ret3
    exact⟨.slice a5 m5 c5,by rw[HW.out];rfl,by rw[HW.out];exact Uj.out,HK.out.trans J.out⟩
   | true =>
    have T8:=lH (show o=some (u,c,p) by
     cases o with
     | none=>exact absurd VN.out (by simp)
     | some x=>have:=VM.out;simp at this;rw[this])
    have Vu:=lH (jbC HF.out (HO.out.trans T8.out));obtain⟨⟨e2,m2⟩,hem⟩:∃x,Vec.jZ Vec.jE p n.unit=x:=⟨_,rfl⟩
    have HW:=lH (show zR n t=if e2≠0 then (0,[],e2) else (jaN c n.lo n.hi,m2,0) by
     unfold zR;rw[if_neg (by rw[Us.out];decide),HO.out,T8.out];dsimp only;rw[hem])
    have HP:=lH (fun W (k:Kept w W)=>Vec.jcS (n:=p) (HA.out.unit.kept k) Vu.out.2.2.1 Vu.out.2.2.2 hem);clear hem;go_wp2_with fail
    try rw[hw4]
    try rw[hrb]
    clear hw4 hrb;refine(HP.out _ HK.out).mono ?_;rintro e w5 ⟨x,rfl,hrd,kk⟩;obtain⟨Uj,HL,HB,HK⟩:=lH4 hrd (HL.out.kept kk) (HB.out.kept kk) (HK.out.trans kk);clear hrd kk HP y0 y1 y2 y3 y4 r0 r1 r2;by_cases hz2:e2=0
    · subst hz2;obtain⟨y0,y1,y2,y3,y4⟩:=HL.out.at5;obtain⟨r0,r1,r2⟩:=HB.out.at3;go_wp2;go_ret3
      exact⟨x,by rw[HW.out];rfl,by rw[HW.out];exact Uj.out,HK.out⟩
    · have hz3:(e2 != 0)=true:=by simpa using hz2
      have HN:=lH hz2;clear hz2;go_wp2;go_ret3
      exact⟨.slice none 0 0,by rw[HW.out,if_pos HN.out];rfl,by rw[HW.out,if_pos HN.out];exact Vec.Reads.nil _,HK.out⟩
 · have hz3:(e1 != 0)=true:=by simpa using hz
   have HW:=lH (show zR n t=(0,[],e1) by unfold zR;rw[Us.out,if_pos hz]);clear hz;go_wp2;go_ret3
   exact⟨.slice none 0 0,by rw[HW.out];rfl,by rw[HW.out];exact Vec.Reads.nil _,HK.out⟩
theorem Xa {n:Lad} {v tv:Value} {t:Vec.V} {w:World} {x:Int×Vec.V×Int} (h:JN w v n) (ht:Vec.Reads w tv t) (e:zR n t=x):Calls Tryz.prog 16 #[v,tv] w (jbN x w):=by
 subst e;obtain⟨v1,v2,rfl,h⟩:=h;obtain⟨a1,c1,rfl,-⟩:=id h.unit;obtain⟨a2,c2,rfl,-⟩:=id h.rungs;exact jbz n a1 a2 _ c1 _ c2 tv t w h ht
theorem jcv {n:Lad} {v tv:Value} {t:Vec.V} {w:World} {o:Option (Int×Int×Int)} (h:JN w v n) (ht:Vec.Reads w tv t) (e:atL n t=o):Calls Tryz.prog 20 #[v,tv] w (AtR o w):=by
 subst e;obtain⟨v1,v2,rfl,h⟩:=h;obtain⟨a1,c1,rfl,-⟩:=id h.unit;obtain⟨a2,c2,rfl,-⟩:=id h.rungs;exact jaY n a1 a2 _ c1 _ c2 tv t w h ht
def w3L (s:List UInt8) (i:Nat):List UInt8:=(ja 32 s).getD i []
def jx (s:List UInt8) (i:Nat):List UInt8:=(ja 47 (w3L s 2)).getD i []
def zD (s:List UInt8):Lad:=⟨bytes (w3L s 0),(Vec.jH (w3L s 1)).2,(((ja 32 s).drop 3).map jq).take 9,(Vec.valL (jx s 0):Int),(Vec.valL (jx s 1):Int)⟩
def jR (s:List UInt8):Bool:=decide (3≤(ja 32 s).length)&&(jA 47 2 (w3L s 2)&&j3 ((ja 32 s).drop 3))
def zm (s:List UInt8):Bool:=inQ (jx s 0)&&(inQ (jx s 1)&&zp ((ja 32 s).drop 3))
def jd (s:List UInt8):Int×Lad :=
 if jR s=false then (2,Lad.zero) else if zm s=false then (5,Lad.zero) else if (Vec.jH (w3L s 1)).1≠0 then ((Vec.jH (w3L s 1)).1,Lad.zero)
 else if jF (zD s)≠0 then (jF (zD s),Lad.zero) else (0,zD s)
def zx (B:Nat) (w:World) (v:Value) (n:Lad):Prop:=∃a1 m1 c1 a2 m2 c2,v=.agg #[.string n.what,.slice a1 m1 c1,.slice a2 m2 c2,.int .i64 n.lo,.int .i64 n.hi]∧j7 w (.slice a1 m1 c1) (.slice a2 m2 c2) n∧(∀b off sp,a1=some ⟨b,off,sp⟩→B≤b)∧(∀b off sp,a2=some ⟨b,off,sp⟩→B≤b)
theorem zx.toR {B:Nat} {w:World} {v:Value} {n:Lad} (h:zx B w v n):JN w v n:=by
 obtain⟨a1,m1,c1,a2,m2,c2,e,h0,_⟩:=h;exact⟨_,_,e,h0⟩
def jO (r:Int×Lad) (w:World) (e:Ending) (w':World):Prop:=(r.1=0→∃v,e=.returned v∧zx w.heap.size w' v r.2)∧(r.1≠0→e=.panicked [jG r.1])∧Kept w w'
theorem jO.bad {r:Int×Lad} {w w':World} {c:Int} (h:r.1=c) (hc:c≠0) (hb:Kept w w'):jO r w (.panicked [jG c]) w':=⟨fun g=>absurd (h.symm.trans g) hc,fun _=>by rw[h],hb⟩
theorem Jo {s:List UInt8} (h:3≤(ja 32 s).length) (i:Nat) (hi:i<3):(ja 32 s)[i]?=some (w3L s i):=by
 unfold w3L;rw[List.getElem?_eq_getElem (by omega)];simp[List.getD,show i<(ja 32 s).length by omega]
theorem jcI {s:List UInt8} (h:(ja 47 (w3L s 2)).length=2) (i:Nat) (hi:i<2):(ja 47 (w3L s 2))[i]?=some (jx s i):=by
 unfold jx;rw[List.getElem?_eq_getElem (by omega)];simp[List.getD,show i<(ja 47 (w3L s 2)).length by omega]
theorem qB (x:ByteArray) (a1 a2:Option Addr) (l1 c1 l2 c2:Nat) (lo hi:Int) (w:World):Calls Tryz.prog 77 #[.agg #[.string x,.slice a1 l1 c1,.slice a2 l2 c2,.int .i64 lo,.int .i64 hi],.int .i64 0] w fun e w'=>e=.returned (.agg #[.string x,.slice a1 l1 c1,.slice a2 l2 c2,.int .i64 lo,.int .i64 hi])∧Kept w w':=by
 go_enter Tryz.func77,Tryz.ntmps77;go_wp2;go_returns
 exact⟨rfl,jQ _ _ _⟩
theorem XX (x:ByteArray) (a1 a2:Option Addr) (l1 c1 l2 c2:Nat) (lo hi:Int) (c:Int) (w:World) (h:c≠0):Calls Tryz.prog 77 #[.agg #[.string x,.slice a1 l1 c1,.slice a2 l2 c2,.int .i64 lo,.int .i64 hi],.int .i64 c] w fun e w'=>e=.panicked [jG c]∧Kept w w':=by
 have h3:(c != 0)=true:=by simpa using h
 clear h;go_enter Tryz.func77,Tryz.ntmps77;go_wp2;exact⟨rfl,rfl,jQ _ _ _⟩
theorem XG (s:List UInt8) (w:World) (hE:Vec.zc w) (hs:s.length≤900000) :
 Calls Tryz.prog 50 #[.string (bytes s)] w (jO (jd s) w):=by
 obtain⟨Z,hZ⟩:=eX (w.alloc (.cells #[.string ⟨#[]⟩,.slice none 0 0,.slice none 0 0,.int .i64 0,.int .i64 0] 26))
 have hkz:Kept w Z:=by rw[←hZ];exact jb _ _
 have Ub:=lH (js w (.string ⟨#[]⟩) [.slice none 0 0,.slice none 0 0,.int .i64 0,.int .i64 0] 26 Z (by rw[hZ];exact Kept.refl _));obtain⟨q0,hq0⟩:=eX (w.heap.size)
 rw[hq0] at Ub;obtain⟨Tt,RE,K,HE,Tu⟩:=lH5 hq0 (show Z.heap.size=q0+1 by rw[←hZ,World.size_alloc,hq0]) hkz hE (jbH s Z (hE.kept hkz).toEnv.base (by omega));unfold Y8 at Tu;have Uk:=lH (show ∀p ∈ ja 32 s,p.length≤1000000 from fun p h=>by have:=jz 32 s p h;omega);clear hE hkz;go_enter Tryz.func50,Tryz.ntmps50;go_wp2_with fail
 try rw[hZ]
 try rw[hq0]
 clear hZ hq0;refine Tu.out.mono ?_;rintro e w1 ⟨hbad,hok,kk⟩;obtain⟨Ub,K,T7⟩:=lH3 (Ub.out.kept kk) (K.out.trans kk) (show q0+1≤w1.heap.size by have:=kk.size;rw[RE.out] at this;exact this);clear kk Tu;by_cases h3:(ja 32 s).length<3
 · obtain rfl:=hbad h3;have HV:=lH (show (jd s).1=2 by unfold jd jR;rw[decide_eq_false (by omega:¬3≤(ja 32 s).length)];rfl);clear hbad hok h3;go_wp2;exact⟨rfl,jO.bad HV.out (by decide) K.out⟩
 · obtain⟨g,cap,bw,bc,r,rfl,hcells,hrest,hrp,hrs⟩:=hok (by omega);have h3':3≤(ja 32 s).length:=by omega
   obtain⟨H3,Uu,UI,Ug,HC,Uz,Vs,UZ⟩:=lH8 h3' (Uk.out _ (List.mem_of_getElem? (Jo h3' 0 (by decide)))) (Uk.out _ (List.mem_of_getElem? (Jo h3' 1 (by decide)))) (Uk.out _ (List.mem_of_getElem? (Jo h3' 2 (by decide)))) (show ∀W,Kept w1 W→W.cell? ⟨g,0,none⟩=some (.string (bytes (w3L s 0)))∧W.cell? ⟨g,1,none⟩=some (.string (bytes (w3L s 1)))∧W.cell? ⟨g,2,none⟩=some (.string (bytes (w3L s 2))) from fun W k=>⟨cell_later k (hcells 0 _ (by decide) (Jo h3' 0 (by decide))),cell_later k (hcells 1 _ (by decide) (Jo h3' 1 (by decide))),cell_later k (hcells 2 _ (by decide) (Jo h3' 2 (by decide)))⟩) hrest hrp (show ∀q,r=some q→q.length≤1000000 from fun q h=>by have:=hrs q h;omega);have U7:=lH (fun W (k:Kept w W)=>Y7 (w3L s 2) W (HE.out.kept k).toEnv.base Ug.out);unfold Z6 at U7;obtain⟨c0,c1,c2⟩:=HC.out _ (Kept.refl _);clear hbad hok h3 h3' hcells hrest hrp hrs;obtain⟨VX,V7,VK,VC⟩:=lH4 (show zD s=⟨bytes (w3L s 0),(Vec.jH (w3L s 1)).2,(((ja 32 s).drop 3).map jq).take 9,(Vec.valL (jx s 0):Int),(Vec.valL (jx s 1):Int)⟩ from rfl) (show jR s=(jA 47 2 (w3L s 2)&&j3 ((ja 32 s).drop 3)) by unfold jR;rw[decide_eq_true H3.out];rfl) (show zm s=(inQ (jx s 0)&&(inQ (jx s 1)&&zp ((ja 32 s).drop 3))) from rfl) (fun h i hi=>jcI (s:=s) h i hi);obtain⟨a,ha⟩:=eX (w3L s 0)
   obtain⟨b,hb⟩:=eX (w3L s 1)
   obtain⟨c,hc⟩:=eX (w3L s 2)
   have V3:=lH (show w3L s 1=b from hb);rw[ha] at HC Uu VX c0;rw[hb] at HC UI VX c1;rw[hc] at HC Ug U7 V7 VC c2;obtain⟨rs,hrs⟩:=eX ((ja 32 s).drop 3)
   rw[hrs] at Vs VX V7 VK;clear ha hb hc hrs;obtain⟨f1,hf1⟩:=eX (jA 47 2 c)
   have Tv:=lH hf1;rw[hf1] at V7;clear hf1;go_wp2_with fail
   refine(U7.out _ K.out).mono ?_;rintro e w2 ⟨hok,hbad,kk⟩;obtain⟨Ub,Uz,HC,RF,K⟩:=lH5 (Ub.out.kept kk) (Uz.out.kept kk) (fun W (k:Kept w2 W)=>HC.out W (kk.trans k)) (Nat.le_trans T7.out kk.size) (K.out.trans kk);clear kk U7 c0 c1 c2
   cases f1 with
   | false =>
    obtain rfl:=hbad Tv.out;have HV:=lH (show (jd s).1=2 by unfold jd;rw[V7.out];rfl);clear hbad hok;go_wp2;exact⟨rfl,jO.bad HV.out (by decide) K.out⟩
   | true =>
    obtain⟨g2,cap2,rfl,hc2⟩:=hok Tv.out;obtain⟨hl2,hall2⟩:=Jb Tv.out;obtain⟨Tw,Tx,Vi⟩:=lH3 (show Vec.je (jx s 0)=true∧(jx s 0).length≤1000000 from⟨hall2 _ (List.mem_of_getElem? (VC.out hl2 0 (by decide))),Nat.le_trans (jz 47 c _ (List.mem_of_getElem? (VC.out hl2 0 (by decide)))) Ug.out⟩) (show Vec.je (jx s 1)=true∧(jx s 1).length≤1000000 from⟨hall2 _ (List.mem_of_getElem? (VC.out hl2 1 (by decide))),Nat.le_trans (jz 47 c _ (List.mem_of_getElem? (VC.out hl2 1 (by decide)))) Ug.out⟩) (show ∀W,Kept w2 W→W.cell? ⟨g2,0,none⟩=some (.string (bytes (jx s 0)))∧W.cell? ⟨g2,1,none⟩=some (.string (bytes (jx s 1))) from fun W k=>⟨cell_later k (hc2 0 _ (VC.out hl2 0 (by decide))),cell_later k (hc2 1 _ (VC.out hl2 1 (by decide)))⟩);clear hbad hok hc2 hl2 hall2 VC;obtain⟨n0,hn0⟩:=eX (jx s 0)
    obtain⟨n1,hn1⟩:=eX (jx s 1)
    rw[hn0] at Tw Vi VX VK;rw[hn1] at Tx Vi VX VK;clear hn0 hn1;have UA:=lH (fun W (k:Kept w W) (h:zL W bw bc r)=>Yq bw bc r W (HE.out.kept k).toEnv.base h UZ.out);unfold jai at UA;rw[Vs.out] at UA;obtain⟨f2,hf2⟩:=eX (j3 rs)
    have Ty:=lH hf2;rw[hf2] at V7;clear hf2;go_wp2_with fail
    refine(UA.out _ K.out Uz.out).mono ?_;rintro e w3 ⟨hok,hbad,kk⟩;obtain⟨Ub,Uz,HC,Vi,Uc,K⟩:=lH6 (Ub.out.kept kk) (Uz.out.kept kk) (fun W (k:Kept w3 W)=>HC.out W (kk.trans k)) (fun W (k:Kept w3 W)=>Vi.out W (kk.trans k)) (Nat.le_trans RF.out kk.size) (K.out.trans kk);clear kk UA
    cases f2 with
    | false =>
     obtain rfl:=hbad Ty.out;have HV:=lH (show (jd s).1=2 by unfold jd;rw[V7.out];rfl);clear hbad hok;go_wp2;exact⟨rfl,jO.bad HV.out (by decide) K.out⟩
    | true =>
     obtain⟨v9,rfl⟩:=hok Ty.out;clear hbad hok;have VH:=lH (fun W (k:Kept w W)=>JM n0 W (HE.out.kept k).toEnv Tw.out.2 Tw.out.1);have VD:=lH (fun W (k:Kept w W)=>JM n1 W (HE.out.kept k).toEnv Tx.out.2 Tx.out.1);unfold Z3 at VH VD;have Vr:=lH (fun W (k:Kept w3 W)=>X3 bw bc r W (HE.out.kept (K.out.trans k)).toEnv (Uz.out.kept k) UZ.out (by rw[Vs.out];exact Ty.out));unfold jaV at Vr;rw[Vs.out] at Vr;obtain⟨p0,hp0⟩:=eX (inQ n0)
     rw[hp0] at VK VH;have UM:=lH (show p0=true→(Vec.valL n0:Int)≤9223372036854775807 from fun h=>by rw[←hp0] at h;unfold inQ at h;have:=of_decide_eq_true h;omega);clear hp0;obtain⟨p1,hp1⟩:=eX (inQ n1)
     rw[hp1] at VK VD;have UN:=lH (show p1=true→(Vec.valL n1:Int)≤9223372036854775807 from fun h=>by rw[←hp1] at h;unfold inQ at h;have:=of_decide_eq_true h;omega);clear hp1;obtain⟨p2,hp2⟩:=eX (zp rs)
     rw[hp2] at VK Vr;clear hp2;obtain⟨u0,hu0⟩:=eX (Vec.valL n0)
     rw[hu0] at VX VH UM;clear hu0;obtain⟨u1,hu1⟩:=eX (Vec.valL n1)
     rw[hu1] at VX VD UN;clear hu1;obtain⟨rl,hrl⟩:=eX ((rs.map jq).take 9)
     rw[hrl] at VX Vr;clear hrl;go_upto_region 4 with fail
     by_cases hnum:zm s=true
     · skip;obtain⟨rfl,rfl,rfl⟩:p0=true∧p1=true∧p2=true:=by
        have h:=hnum;rw[VK.out] at h;simpa using h
       have Ul:=lH (show ∀W,Kept w W→Calls Tryz.prog 72 #[.string (bytes n0)] W (fun e w'=>e=.returned (.int .i64 (u0:Int))∧Kept W w') from fun W k=>(VH.out W k).mono fun e w' h=>⟨by simpa using h.1,h.2⟩);have V8:=lH (show ∀W,Kept w W→Calls Tryz.prog 72 #[.string (bytes n1)] W (fun e w'=>e=.returned (.int .i64 (u1:Int))∧Kept W w') from fun W k=>(VD.out W k).mono fun e w' h=>⟨by simpa using h.1,h.2⟩);have VY:=lH (fun W (k:Kept w3 W)=>(Vr.out W k).mono fun e w' h=>(show ∃av n9 cv,e=.returned (.slice av n9 cv)∧Reads jh w' (.slice av n9 cv) rl∧(∀b off sp,av=some ⟨b,off,sp⟩→W.heap.size≤b∧b<w'.heap.size)∧Kept W w' by
        obtain⟨v,e1,ho⟩:=h.1 rfl;obtain⟨a,cap,rfl,h1,h2,h3⟩:=ho.at_;exact⟨a,_,cap,e1,⟨a,cap,rfl,h1,h2,h3⟩,fun b off sp e=>ho.1.lt b (by subst e;rfl),h.2.2⟩))
       clear VH VD Vr;have VI:=lH hnum;clear hnum;have U0:=lH (UM.out rfl);have U1:=lH (UN.out rfl);go_cut [6] from 18 to 28 (fun s6 wx=>∃q av n9 cv,s6=.pointer (some ⟨q,0,none⟩)∧Hid (jj q [.string ⟨#[]⟩,.slice none 0 0,.slice av n9 cv,.int .i64 (u0:Int),.int .i64 (u1:Int)] wx∧Reads jh wx (.slice av n9 cv) rl∧(∀b off sp,av=some ⟨b,off,sp⟩→b≠q∧w3.heap.size≤b)∧Kept w3 wx∧w3.heap.size≤q))
       case first =>
        have J:=lH (Kept.drew w3);refine wp_region_held_drew (S:=fun W=>Kept w3 W) (by kernel_rfl) (J.out) (fun hHeld=>?_);obtain⟨wd,hwd⟩:=eX (w3.drew)
        rw[hwd] at J hHeld;try rw[hwd]
        clear hwd;refine tR 0 rfl (by kernel_rfl) (fun _ _ _=>id) (Or.inl ⟨by rfl,(by intro W hSw;obtain⟨o0,o1⟩:=Vi.out _ hSw;go_simp<;>with_reducible rfl)⟩) ‹_› ?_;try simp only[nA,nB,nC,nD,nE]
        refine tR 1 rfl (by kernel_rfl) (fun _ _ _=>id) (Or.inl ⟨by rfl,(by intro W hSw;obtain⟨o0,o1⟩:=Vi.out _ hSw;go_simp<;>with_reducible rfl)⟩) ‹_› ?_;try simp only[nA,nB,nC,nD,nE]
        refine tR 2 rfl (by kernel_rfl) (fun _ _ _=>id) (Or.inl ⟨by rfl,(by intro W hSw;obtain⟨o0,o1⟩:=Vi.out _ hSw;go_simp<;>with_reducible rfl)⟩) ‹_› ?_;try simp only[nA,nB,nC,nD,nE]
        refine tR 4 rfl (by kernel_rfl) (fun _ _ _=>id) (Or.inl ⟨by rfl,(by intro W hSw;obtain⟨o0,o1⟩:=Vi.out _ hSw;go_simp<;>with_reducible rfl)⟩) ‹_› ?_;try simp only[nA,nB,nC,nD,nE]
        refine tR 5 rfl (by kernel_rfl) (fun _ _ _=>id) (Or.inl ⟨by rfl,(by intro W hSw;obtain⟨o0,o1⟩:=Vi.out _ hSw;go_simp<;>with_reducible rfl)⟩) ‹_› ?_;try simp only[nA,nB,nC,nD,nE]
        refine tR 6 rfl (by kernel_rfl) (fun _ _ _=>id) (Or.inl ⟨by rfl,(by intro W hSw;obtain⟨o0,o1⟩:=Vi.out _ hSw;go_simp<;>with_reducible rfl)⟩) ‹_› ?_;try simp only[nA,nB,nC,nD,nE]
        refine tR 8 rfl (by kernel_rfl) (fun _ _ _=>id) (Or.inl ⟨by rfl,(by intro W hSw;obtain⟨o0,o1⟩:=Vi.out _ hSw;go_simp<;>with_reducible rfl)⟩) ‹_› ?_;try simp only[nA,nB,nC,nD,nE]
        refine wpAnyH_ready  (rs:=[3,11]) (by kernel_rfl) (by simp) (AllReadyH.cons  (by rw[List.getElem?_toArray];exact rfl) (fun K9 Ky=>?_) (AllReadyH.cons  (by rw[List.getElem?_toArray];exact rfl) (fun K9 Ky=>?_) AllReadyH.nil))
        · skip;go_simp;refine(Ul.out _ (K.out.trans J.out)).mono ?_;rintro e9 ww1 ⟨rfl,kk⟩;have J:=lH (J.out.trans kk);clear kk;refine Ky.out _ _ (J.out) (fun _=>?_);clear Ky K9;try simp only[nA,nB,nC,nD,nE]
          refine wpAnyH_ready  (rs:=[7,11]) (by kernel_rfl) (by simp) (AllReadyH.cons  (by rw[List.getElem?_toArray];exact rfl) (fun K9 Ky=>?_) (AllReadyH.cons  (by rw[List.getElem?_toArray];exact rfl) (fun K9 Ky=>?_) AllReadyH.nil))
          · skip;go_simp;refine(V8.out _ (K.out.trans J.out)).mono ?_;rintro e9 ww3 ⟨rfl,kk⟩;have J:=lH (J.out.trans kk);clear kk;refine Ky.out _ _ (J.out) (fun _=>?_);clear Ky K9;try simp only[nA,nB,nC,nD,nE]
            refine wpAnyH_ready  (rs:=[9,11]) (by kernel_rfl) (by simp) (AllReadyH.cons  (by rw[List.getElem?_toArray];exact rfl) (fun K9 Ky=>?_) (AllReadyH.cons  (by rw[List.getElem?_toArray];exact rfl) (fun K9 Ky=>?_) AllReadyH.nil))
            · skip;go_simp;refine(VY.out _ J.out).mono ?_;rintro e9 ww5 ⟨av,n9,cv,rfl,rd,rb,kk⟩;obtain⟨RB,RL,RD,J⟩:=lH4 (show ∀b off sp,av=some ⟨b,off,sp⟩→True∧w3.heap.size≤b from fun b off sp e=>⟨trivial,Nat.le_trans J.out.size (rb b off sp e).1⟩) (fun b off sp e=>(rb b off sp e).2) rd (J.out.trans kk);clear rd rb;clear kk;refine Ky.out _ _ (J.out) (fun _=>?_);clear Ky K9;try simp only[nA,nB,nC,nD,nE]
              refine tR 10 rfl (by kernel_rfl) (fun _ _ _=>id) (Or.inl ⟨by rfl,(by intro W hSw;obtain⟨o0,o1⟩:=Vi.out _ hSw;go_simp<;>with_reducible rfl)⟩) ‹_› ?_;try simp only[nA,nB,nC,nD,nE]
              refine rd1 11 fun K9 Ky=>?_;go_simp;have kk:=jb ww5 (.cells #[.string ⟨#[]⟩,.slice none 0 0,.slice none 0 0,.int .i64 0,.int .i64 0] 26);have hn:=js ww5 (.string ⟨#[]⟩) [.slice none 0 0,.slice none 0 0,.int .i64 0,.int .i64 0] 26 _ (Kept.refl _);have hp9:w3.heap.size≤ww5.heap.size:=J.out.size;have RB:=lH (show ∀b off sp,av=some ⟨b,off,sp⟩→b≠ww5.heap.size∧w3.heap.size≤b from fun b off sp e=>⟨by have:=RL.out b off sp e;omega,(RB.out b off sp e).2⟩);obtain⟨q,hqe⟩:=eX (ww5.heap.size)
              rw[hqe] at hn hp9 RB ⊢;obtain⟨ww7,hnw⟩:=eX (ww5.alloc (.cells #[.string ⟨#[]⟩,.slice none 0 0,.slice none 0 0,.int .i64 0,.int .i64 0] 26))
              rw[hnw] at hn kk ⊢;clear hnw hqe;obtain⟨J,QA,Ve,RD⟩:=lH4 (J.out.trans kk) hn hp9 (RD.out.kept kk);clear hn kk hp9;refine Ky.out _ _ (J.out) (fun _=>?_);clear Ky K9;try simp only[nA,nB,nC,nD,nE]
              refine rd1 12 fun K9 Ky=>?_;obtain⟨z0,z1,z2,z3,z4⟩:=QA.out.at5;have y0:=QA.out.free 0;have y1:=QA.out.free 1;have y2:=QA.out.free 2;have y3:=QA.out.free 3;have y4:=QA.out.free 4;go_simp;have PP:=lH (zl (vs:=[.string ⟨#[]⟩,.slice none 0 0,.slice av n9 cv,.int .i64 (u0:Int),.int .i64 (u1:Int)]) QA.out rfl);obtain⟨ww9,hnw⟩:=eX (ww7.setCells q 0 [.string ⟨#[]⟩,.slice none 0 0,.slice av n9 cv,.int .i64 (u0:Int),.int .i64 (u1:Int)])
              have hnw2:(((((ww7.setCell ⟨q,0,none⟩ (.string ⟨#[]⟩)).setCell ⟨q,1,none⟩ (.slice none 0 0)).setCell ⟨q,2,none⟩ (.slice av n9 cv)).setCell ⟨q,3,none⟩ (.int .i64 (u0:Int))).setCell ⟨q,4,none⟩ (.int .i64 (u1:Int)))=ww9:=hnw;rw[hnw] at PP;rw[hnw2];clear hnw hnw2 z0 y0 z1 y1 z2 y2 z3 y3 z4 y4;obtain⟨J,QA,RD⟩:=lH3 (show Kept w3 ww9 from PP.out.below _ _ Ve.out J.out) PP.out.cells (RD.out.far PP.out.size (fun b o sp e=>PP.out.far b (RB.out b o sp e).1));clear PP;refine Ky.out _ _ (J.out) (fun _=>?_);clear Ky K9;try simp only[nA,nB,nC,nD,nE]
              refine wpAnyH_done (by kernel_rfl) ?_ _;go_wp2;go_meet
              case rel=>exact⟨q,av,n9,cv,rfl,lH ⟨QA.out,RD.out,RB.out,J.out,Ve.out⟩⟩
            · skip;go_simp;have kk:=jb ww3 (.cells #[.string ⟨#[]⟩,.slice none 0 0,.slice none 0 0,.int .i64 0,.int .i64 0] 26);have hn:=js ww3 (.string ⟨#[]⟩) [.slice none 0 0,.slice none 0 0,.int .i64 0,.int .i64 0] 26 _ (Kept.refl _);have hp9:w3.heap.size≤ww3.heap.size:=J.out.size;obtain⟨q,hqe⟩:=eX (ww3.heap.size)
              rw[hqe] at hn hp9 ⊢;obtain⟨ww11,hnw⟩:=eX (ww3.alloc (.cells #[.string ⟨#[]⟩,.slice none 0 0,.slice none 0 0,.int .i64 0,.int .i64 0] 26))
              rw[hnw] at hn kk ⊢;clear hnw hqe;obtain⟨J,QA,Ve⟩:=lH3 (J.out.trans kk) hn hp9;clear hn kk hp9;refine Ky.out _ _ (J.out) (fun _=>?_);clear Ky K9;try simp only[nA,nB,nC,nD,nE]
              refine rd1 9 fun K9 Ky=>?_;go_simp;refine(VY.out _ J.out).mono ?_;rintro e9 ww13 ⟨av,n9,cv,rfl,rd,rb,kk⟩;obtain⟨RB,RL,RD,J⟩:=lH4 (show ∀b off sp,av=some ⟨b,off,sp⟩→b≠q∧w3.heap.size≤b from fun b off sp e=>⟨by have:=(rb b off sp e).1;have:=QA.out.lt;omega,Nat.le_trans J.out.size (rb b off sp e).1⟩) (fun b off sp e=>(rb b off sp e).2) rd (J.out.trans kk);clear rd rb;have QA:=lH (QA.out.kept kk);clear kk;refine Ky.out _ _ (J.out) (fun _=>?_);clear Ky K9;try simp only[nA,nB,nC,nD,nE]
              refine tR 10 rfl (by kernel_rfl) (fun _ _ _=>id) (Or.inl ⟨by rfl,(by intro W hSw;obtain⟨o0,o1⟩:=Vi.out _ hSw;go_simp<;>with_reducible rfl)⟩) ‹_› ?_;try simp only[nA,nB,nC,nD,nE]
              refine rd1 12 fun K9 Ky=>?_;obtain⟨z0,z1,z2,z3,z4⟩:=QA.out.at5;have y0:=QA.out.free 0;have y1:=QA.out.free 1;have y2:=QA.out.free 2;have y3:=QA.out.free 3;have y4:=QA.out.free 4;go_simp;have PP:=lH (zl (vs:=[.string ⟨#[]⟩,.slice none 0 0,.slice av n9 cv,.int .i64 (u0:Int),.int .i64 (u1:Int)]) QA.out rfl);obtain⟨ww15,hnw⟩:=eX (ww13.setCells q 0 [.string ⟨#[]⟩,.slice none 0 0,.slice av n9 cv,.int .i64 (u0:Int),.int .i64 (u1:Int)])
              have hnw2:(((((ww13.setCell ⟨q,0,none⟩ (.string ⟨#[]⟩)).setCell ⟨q,1,none⟩ (.slice none 0 0)).setCell ⟨q,2,none⟩ (.slice av n9 cv)).setCell ⟨q,3,none⟩ (.int .i64 (u0:Int))).setCell ⟨q,4,none⟩ (.int .i64 (u1:Int)))=ww15:=hnw;rw[hnw] at PP;rw[hnw2];clear hnw hnw2 z0 y0 z1 y1 z2 y2 z3 y3 z4 y4;obtain⟨J,QA,RD⟩:=lH3 (show Kept w3 ww15 from PP.out.below _ _ Ve.out J.out) PP.out.cells (RD.out.far PP.out.size (fun b o sp e=>PP.out.far b (RB.out b o sp e).1));clear PP;refine Ky.out _ _ (J.out) (fun _=>?_);clear Ky K9;try simp only[nA,nB,nC,nD,nE]
              refine wpAnyH_done (by kernel_rfl) ?_ _;go_wp2;go_meet
              case rel=>exact⟨q,av,n9,cv,rfl,lH ⟨QA.out,RD.out,RB.out,J.out,Ve.out⟩⟩
          · skip;go_simp;have kk:=jb ww1 (.cells #[.string ⟨#[]⟩,.slice none 0 0,.slice none 0 0,.int .i64 0,.int .i64 0] 26);have hn:=js ww1 (.string ⟨#[]⟩) [.slice none 0 0,.slice none 0 0,.int .i64 0,.int .i64 0] 26 _ (Kept.refl _);have hp9:w3.heap.size≤ww1.heap.size:=J.out.size;obtain⟨q,hqe⟩:=eX (ww1.heap.size)
            rw[hqe] at hn hp9 ⊢;obtain⟨ww17,hnw⟩:=eX (ww1.alloc (.cells #[.string ⟨#[]⟩,.slice none 0 0,.slice none 0 0,.int .i64 0,.int .i64 0] 26))
            rw[hnw] at hn kk ⊢;clear hnw hqe;obtain⟨J,QA,Ve⟩:=lH3 (J.out.trans kk) hn hp9;clear hn kk hp9;refine Ky.out _ _ (J.out) (fun _=>?_);clear Ky K9;try simp only[nA,nB,nC,nD,nE]
            refine rd1 7 fun K9 Ky=>?_;go_simp;refine(V8.out _ (K.out.trans J.out)).mono ?_;rintro e9 ww19 ⟨rfl,kk⟩;have J:=lH (J.out.trans kk);have QA:=lH (QA.out.kept kk);clear kk;refine Ky.out _ _ (J.out) (fun _=>?_);clear Ky K9;try simp only[nA,nB,nC,nD,nE]
            refine rd1 9 fun K9 Ky=>?_;go_simp;refine(VY.out _ J.out).mono ?_;rintro e9 ww21 ⟨av,n9,cv,rfl,rd,rb,kk⟩;obtain⟨RB,RL,RD,J⟩:=lH4 (show ∀b off sp,av=some ⟨b,off,sp⟩→b≠q∧w3.heap.size≤b from fun b off sp e=>⟨by have:=(rb b off sp e).1;have:=QA.out.lt;omega,Nat.le_trans J.out.size (rb b off sp e).1⟩) (fun b off sp e=>(rb b off sp e).2) rd (J.out.trans kk);clear rd rb;have QA:=lH (QA.out.kept kk);clear kk;refine Ky.out _ _ (J.out) (fun _=>?_);clear Ky K9;try simp only[nA,nB,nC,nD,nE]
            refine tR 10 rfl (by kernel_rfl) (fun _ _ _=>id) (Or.inl ⟨by rfl,(by intro W hSw;obtain⟨o0,o1⟩:=Vi.out _ hSw;go_simp<;>with_reducible rfl)⟩) ‹_› ?_;try simp only[nA,nB,nC,nD,nE]
            refine rd1 12 fun K9 Ky=>?_;obtain⟨z0,z1,z2,z3,z4⟩:=QA.out.at5;have y0:=QA.out.free 0;have y1:=QA.out.free 1;have y2:=QA.out.free 2;have y3:=QA.out.free 3;have y4:=QA.out.free 4;go_simp;have PP:=lH (zl (vs:=[.string ⟨#[]⟩,.slice none 0 0,.slice av n9 cv,.int .i64 (u0:Int),.int .i64 (u1:Int)]) QA.out rfl);obtain⟨ww23,hnw⟩:=eX (ww21.setCells q 0 [.string ⟨#[]⟩,.slice none 0 0,.slice av n9 cv,.int .i64 (u0:Int),.int .i64 (u1:Int)])
            have hnw2:(((((ww21.setCell ⟨q,0,none⟩ (.string ⟨#[]⟩)).setCell ⟨q,1,none⟩ (.slice none 0 0)).setCell ⟨q,2,none⟩ (.slice av n9 cv)).setCell ⟨q,3,none⟩ (.int .i64 (u0:Int))).setCell ⟨q,4,none⟩ (.int .i64 (u1:Int)))=ww23:=hnw;rw[hnw] at PP;rw[hnw2];clear hnw hnw2 z0 y0 z1 y1 z2 y2 z3 y3 z4 y4;obtain⟨J,QA,RD⟩:=lH3 (show Kept w3 ww23 from PP.out.below _ _ Ve.out J.out) PP.out.cells (RD.out.far PP.out.size (fun b o sp e=>PP.out.far b (RB.out b o sp e).1));clear PP;refine Ky.out _ _ (J.out) (fun _=>?_);clear Ky K9;try simp only[nA,nB,nC,nD,nE]
            refine wpAnyH_done (by kernel_rfl) ?_ _;go_wp2;go_meet
            case rel=>exact⟨q,av,n9,cv,rfl,lH ⟨QA.out,RD.out,RB.out,J.out,Ve.out⟩⟩
        · skip;go_simp;have kk:=jb wd (.cells #[.string ⟨#[]⟩,.slice none 0 0,.slice none 0 0,.int .i64 0,.int .i64 0] 26);have hn:=js wd (.string ⟨#[]⟩) [.slice none 0 0,.slice none 0 0,.int .i64 0,.int .i64 0] 26 _ (Kept.refl _);have hp9:w3.heap.size≤wd.heap.size:=J.out.size;obtain⟨q,hqe⟩:=eX (wd.heap.size)
          rw[hqe] at hn hp9 ⊢;obtain⟨ww25,hnw⟩:=eX (wd.alloc (.cells #[.string ⟨#[]⟩,.slice none 0 0,.slice none 0 0,.int .i64 0,.int .i64 0] 26))
          rw[hnw] at hn kk ⊢;clear hnw hqe;obtain⟨J,QA,Ve⟩:=lH3 (J.out.trans kk) hn hp9;clear hn kk hp9;refine Ky.out _ _ (J.out) (fun _=>?_);clear Ky K9;try simp only[nA,nB,nC,nD,nE]
          refine rd1 3 fun K9 Ky=>?_;go_simp;refine(Ul.out _ (K.out.trans J.out)).mono ?_;rintro e9 ww27 ⟨rfl,kk⟩;have J:=lH (J.out.trans kk);have QA:=lH (QA.out.kept kk);clear kk;refine Ky.out _ _ (J.out) (fun _=>?_);clear Ky K9;try simp only[nA,nB,nC,nD,nE]
          refine rd1 7 fun K9 Ky=>?_;go_simp;refine(V8.out _ (K.out.trans J.out)).mono ?_;rintro e9 ww29 ⟨rfl,kk⟩;have J:=lH (J.out.trans kk);have QA:=lH (QA.out.kept kk);clear kk;refine Ky.out _ _ (J.out) (fun _=>?_);clear Ky K9;try simp only[nA,nB,nC,nD,nE]
          refine rd1 9 fun K9 Ky=>?_;go_simp;refine(VY.out _ J.out).mono ?_;rintro e9 ww31 ⟨av,n9,cv,rfl,rd,rb,kk⟩;obtain⟨RB,RL,RD,J⟩:=lH4 (show ∀b off sp,av=some ⟨b,off,sp⟩→b≠q∧w3.heap.size≤b from fun b off sp e=>⟨by have:=(rb b off sp e).1;have:=QA.out.lt;omega,Nat.le_trans J.out.size (rb b off sp e).1⟩) (fun b off sp e=>(rb b off sp e).2) rd (J.out.trans kk);clear rd rb;have QA:=lH (QA.out.kept kk);clear kk;refine Ky.out _ _ (J.out) (fun _=>?_);clear Ky K9;try simp only[nA,nB,nC,nD,nE]
          refine tR 10 rfl (by kernel_rfl) (fun _ _ _=>id) (Or.inl ⟨by rfl,(by intro W hSw;obtain⟨o0,o1⟩:=Vi.out _ hSw;go_simp<;>with_reducible rfl)⟩) ‹_› ?_;try simp only[nA,nB,nC,nD,nE]
          refine rd1 12 fun K9 Ky=>?_;obtain⟨z0,z1,z2,z3,z4⟩:=QA.out.at5;have y0:=QA.out.free 0;have y1:=QA.out.free 1;have y2:=QA.out.free 2;have y3:=QA.out.free 3;have y4:=QA.out.free 4;go_simp;have PP:=lH (zl (vs:=[.string ⟨#[]⟩,.slice none 0 0,.slice av n9 cv,.int .i64 (u0:Int),.int .i64 (u1:Int)]) QA.out rfl);obtain⟨ww33,hnw⟩:=eX (ww31.setCells q 0 [.string ⟨#[]⟩,.slice none 0 0,.slice av n9 cv,.int .i64 (u0:Int),.int .i64 (u1:Int)])
          have hnw2:(((((ww31.setCell ⟨q,0,none⟩ (.string ⟨#[]⟩)).setCell ⟨q,1,none⟩ (.slice none 0 0)).setCell ⟨q,2,none⟩ (.slice av n9 cv)).setCell ⟨q,3,none⟩ (.int .i64 (u0:Int))).setCell ⟨q,4,none⟩ (.int .i64 (u1:Int)))=ww33:=hnw;rw[hnw] at PP;rw[hnw2];clear hnw hnw2 z0 y0 z1 y1 z2 y2 z3 y3 z4 y4;obtain⟨J,QA,RD⟩:=lH3 (show Kept w3 ww33 from PP.out.below _ _ Ve.out J.out) PP.out.cells (RD.out.far PP.out.size (fun b o sp e=>PP.out.far b (RB.out b o sp e).1));clear PP;refine Ky.out _ _ (J.out) (fun _=>?_);clear Ky K9;try simp only[nA,nB,nC,nD,nE]
          refine wpAnyH_done (by kernel_rfl) ?_ _;go_wp2;go_meet
          case rel=>exact⟨q,av,n9,cv,rfl,lH ⟨QA.out,RD.out,RB.out,J.out,Ve.out⟩⟩
       case rest =>
        obtain⟨q,av,n9,cv,rfl,hx⟩:=hcut;obtain⟨w4,hw4⟩:∃W,W=wc:=⟨_,rfl⟩
        subst hw4;obtain⟨hqa,hrd,hrb,hj,hqp⟩:=hx.out;obtain⟨QA,RD,RB,J,Ve⟩:=lH5 hqa hrd hrb hj hqp;clear hx hqa hrd hrb hj hqp Ul V8 VY;obtain⟨c0,c1,c2⟩:=HC.out _ J.out;have T9:=lH (fun W=>YD (bytes a) W (by rw[jn];have:=Uu.out;omega));go_wp2_with fail
        refine(T9.out _).mono ?_;rintro e w5 ⟨rfl,kk⟩;obtain⟨J,QA,RD⟩:=lH3 (J.out.trans kk) (QA.out.kept kk) (RD.out.kept kk);clear kk c0 c1 c2 T9;have x0:=QA.out.at_ 0 _ rfl;have f0:=QA.out.free 0;obtain⟨QA,J,RD⟩:=lH3 (show jj q [.string (bytes a),.slice none 0 0,.slice av n9 cv,.int .i64 (u0:Int),.int .i64 (u1:Int)] (w5.setCell ⟨q,0,none⟩ (.string (bytes a))) from QA.out.set (j:=0) (by simp)) (show Kept w3 (w5.setCell ⟨q,0,none⟩ (.string (bytes a))) from J.out.setCell (p:=⟨q,0,none⟩) Ve.out _) (RD.out.far (w':=(w5.setCell ⟨q,0,none⟩ (.string (bytes a)))) (by simp[World.setCell]) (fun b o sp e=>Below.heap_setCell w5 ⟨q,0,none⟩ _ b (show b≠q from(RB.out b o sp e).1)));obtain⟨c0,c1,c2⟩:=HC.out _ J.out;obtain⟨⟨e1,m1⟩,hpv⟩:∃x,Vec.jH b=x:=⟨_,rfl⟩
        have Um:=lH hpv;have Vp:=lH (fun W (k:Kept w3 W)=>(Vec.ja2 b W (HE.out.kept (K.out.trans k)).toEnv UI.out).mono fun _ _=>Vec.JJ.spelt);rw[hpv] at Vp VX;clear hpv;dsimp only at Vp VX;go_wp2_with fail
        obtain⟨w6,hw6⟩:=eX ((w5.setCell ⟨q,0,none⟩ (.string (bytes a))))
        rw[hw6] at QA J RD c0 c1 c2 ⊢;clear hw6 x0 f0 c0 c1 c2;refine(Vp.out _ J.out).mono ?_;rintro e w7 ⟨a1,m9,d1,rfl,hru,hgu,kk⟩;obtain⟨RU,RUB,QA,RD,J⟩:=lH5 hru (show ∀b off sp,a1=some ⟨b,off,sp⟩→b≠q∧w3.heap.size≤b from fun b off sp e=>⟨by have:=(hgu b off sp e).1;have:=QA.out.lt;omega,Nat.le_trans J.out.size (hgu b off sp e).1⟩) (QA.out.kept kk) (RD.out.kept kk) (J.out.trans kk);clear hru hgu kk Vp;go_wp2_with fail
        by_cases z1:e1=0
        · subst z1;refine(ja3 _ _).mono ?_;rintro e w9 ⟨rfl,rfl⟩;have x0:=QA.out.at_ 1 _ rfl;have f0:=QA.out.free 1;obtain⟨QA,J,RD,RU⟩:=lH4 (show jj q [.string (bytes a),.slice a1 m9 d1,.slice av n9 cv,.int .i64 (u0:Int),.int .i64 (u1:Int)] (w7.setCell ⟨q,1,none⟩ (.slice a1 m9 d1)) from QA.out.set (j:=1) (by simp)) (show Kept w3 (w7.setCell ⟨q,1,none⟩ (.slice a1 m9 d1)) from J.out.setCell (p:=⟨q,1,none⟩) Ve.out _) (RD.out.far (w':=(w7.setCell ⟨q,1,none⟩ (.slice a1 m9 d1))) (by simp[World.setCell]) (fun b o sp e=>Below.heap_setCell w7 ⟨q,1,none⟩ _ b (show b≠q from(RB.out b o sp e).1))) (RU.out.far (w':=(w7.setCell ⟨q,1,none⟩ (.slice a1 m9 d1))) (by simp[World.setCell]) (fun b o sp e=>Below.heap_setCell w7 ⟨q,1,none⟩ _ b (show b≠q from(RUB.out b o sp e).1)));go_upto_region 7 with fail
          obtain⟨w8,hw8⟩:=eX ((w7.setCell ⟨q,1,none⟩ (.slice a1 m9 d1)))
          rw[hw8] at QA J RD RU ⊢;clear hw8 x0 f0;have Vc:=lH (show j7 w8 (.slice a1 m9 d1) (.slice av n9 cv) ⟨bytes a,m1,rl,(u0:Int),(u1:Int)⟩ from⟨by rw[jn];have:=Uu.out;unfold maxLen;omega,RU.out,RD.out,⟨by dsimp only;omega,U0.out⟩,⟨by dsimp only;omega,U1.out⟩⟩);have Tz:=lH (show jd s=if jF ⟨bytes a,m1,rl,(u0:Int),(u1:Int)⟩≠0 then (jF ⟨bytes a,m1,rl,(u0:Int),(u1:Int)⟩,Lad.zero) else (0,⟨bytes a,m1,rl,(u0:Int),(u1:Int)⟩) by
           unfold jd;rw[V7.out,VI.out,V3.out,Um.out,VX.out];simp)
          obtain⟨ck,hck⟩:=eX (jF ⟨bytes a,m1,rl,(u0:Int),(u1:Int)⟩)
          have Vv:=lH (fun W (k:Kept w8 W)=>J4 ⟨bytes a,m1,rl,(u0:Int),(u1:Int)⟩ (.slice a1 m9 d1) (.slice av n9 cv) W (Vc.out.kept k));rw[hck] at Vv Tz;unfold Ji at Vv;dsimp only at Vv;clear hck;have U8:=lH (show ∀W,Kept w8 W→W.cell? ⟨q,0,none⟩=some (.string (bytes a))∧W.cell? ⟨q,1,none⟩=some (.slice a1 m9 d1)∧W.cell? ⟨q,2,none⟩=some (.slice av n9 cv)∧W.cell? ⟨q,3,none⟩=some (.int .i64 (u0:Int))∧W.cell? ⟨q,4,none⟩=some (.int .i64 (u1:Int)) from fun W k=>(jj.kept QA.out k).at5);have RG:=lH (fun W (k:Kept w8 W)=>jj.kept Ub.out (J.out.trans k));have hq0q:q≠q0:=by have:=Ve.out;have:=Uc.out;omega
          have TA:=lH hq0q;clear hq0q;have J7:=lH (Kept.drew w8);refine wp_region_held_drew (S:=fun W=>W.cell? ⟨q,0,none⟩=some (.string (bytes a))∧W.cell? ⟨q,1,none⟩=some (.slice a1 m9 d1)∧W.cell? ⟨q,2,none⟩=some (.slice av n9 cv)∧W.cell? ⟨q,3,none⟩=some (.int .i64 (u0:Int))∧W.cell? ⟨q,4,none⟩=some (.int .i64 (u1:Int))) (by kernel_rfl) (U8.out _ J7.out) (fun hHeld=>?_);obtain⟨wd,hwd⟩:=eX (w8.drew)
          rw[hwd] at J7 hHeld;try rw[hwd]
          clear hwd;refine tR 0 rfl (by kernel_rfl) (fun _ _ _=>id) (Or.inl ⟨by rfl,by rintro W ⟨o0,o1,o2,o3,o4⟩;go_simp<;>with_reducible rfl⟩) ‹_› ?_;try simp only[nA,nB,nC,nD,nE]
          refine tR 1 rfl (by kernel_rfl) (fun _ _ _=>id) (Or.inl ⟨by rfl,by rintro W ⟨o0,o1,o2,o3,o4⟩;go_simp<;>with_reducible rfl⟩) ‹_› ?_;try simp only[nA,nB,nC,nD,nE]
          refine rd1 2 fun K9 Ky=>?_;go_simp;refine(Vv.out _ J7.out).mono ?_;rintro e y1 ⟨rfl,kk⟩;have J7:=lH (J7.out.trans kk);clear kk;refine Ky.out _ _ (U8.out _ J7.out) (fun _=>?_);clear Ky K9;try simp only[nA,nB,nC,nD,nE]
          by_cases z2:ck=0
          · subst z2;refine rd1 3 fun K9 Ky=>?_;go_simp;refine(qB _ _ _ _ _ _ _ _ _ _).mono ?_;rintro e y2 ⟨rfl,kk⟩;have J7:=lH (J7.out.trans kk);clear kk;refine Ky.out _ _ (U8.out _ J7.out) (fun _=>?_);clear Ky K9;try simp only[nA,nB,nC,nD,nE]
            have Un:=lH (RG.out _ J7.out);obtain⟨z0,z1,z2,z3,z4⟩:=Un.out.at5;have g0_:=Un.out.free 0;have g1_:=Un.out.free 1;have g2_:=Un.out.free 2;have g3_:=Un.out.free 3;have g4_:=Un.out.free 4;have P:=lH (zl (vs:=[.string (bytes a),.slice a1 m9 d1,.slice av n9 cv,.int .i64 (u0:Int),.int .i64 (u1:Int)]) Un.out rfl);refine rd1 4 fun K9 Ky=>?_;go_simp;obtain⟨WE,hWE⟩:=eX (y2.setCells q0 0 [.string (bytes a),.slice a1 m9 d1,.slice av n9 cv,.int .i64 (u0:Int),.int .i64 (u1:Int)])
            have hWE2:(((((y2.setCell ⟨q0,0,none⟩ (.string (bytes a))).setCell ⟨q0,1,none⟩ (.slice a1 m9 d1)).setCell ⟨q0,2,none⟩ (.slice av n9 cv)).setCell ⟨q0,3,none⟩ (.int .i64 (u0:Int))).setCell ⟨q0,4,none⟩ (.int .i64 (u1:Int)))=WE:=hWE;rw[hWE] at P;try rw[hWE2]
            have RH:=lH (show WE.cell? ⟨q,0,none⟩=some (.string (bytes a))∧WE.cell? ⟨q,1,none⟩=some (.slice a1 m9 d1)∧WE.cell? ⟨q,2,none⟩=some (.slice av n9 cv)∧WE.cell? ⟨q,3,none⟩=some (.int .i64 (u0:Int))∧WE.cell? ⟨q,4,none⟩=some (.int .i64 (u1:Int)) by
             have e:∀j,WE.cell? ⟨q,j,none⟩=y2.cell? ⟨q,j,none⟩:=fun j=>World.cell?_of_block (a:=⟨q,j,none⟩) (P.out.far q TA.out);simp only[e];exact U8.out _ J7.out)
            clear hWE hWE2 z0 z1 z2 z3 z4 g0_ g1_ g2_ g3_ g4_;refine Ky.out _ _ (RH.out) (fun _=>?_);clear Ky K9;try simp only[nA,nB,nC,nD,nE]
            refine wpAnyH_done (by kernel_rfl) ?_ _;go_wp2;have PC:=P.out.cells;refine bodyPost_ret (by simp[results,Tryz.results50,go_sem,PC.at_ 0 _ rfl,PC.at_ 1 _ rfl,PC.at_ 2 _ rfl,PC.at_ 3 _ rfl,PC.at_ 4 _ rfl];try rfl) rfl ?_;have hr2:jd s=(0,⟨bytes a,m1,rl,(u0:Int),(u1:Int)⟩):=by rw[Tz.out];simp
            refine⟨fun _=>⟨_,rfl,?_⟩,fun h=>(by rw[hr2] at h;exact absurd rfl h),P.out.below _ _ (by have:=Tt.out;omega) (K.out.trans (J.out.trans J7.out))⟩;rw[hr2];have hat:=Vc.out.kept J7.out;refine⟨a1,m9,d1,av,n9,cv,rfl,⟨hat.size,hat.unit.far P.out.size (fun b o sp e=>P.out.far b (by have:=(RUB.out b o sp e).2;have:=Uc.out;omega)),hat.rungs.far P.out.size (fun b o sp e=>P.out.far b (by have:=(RB.out b o sp e).2;have:=Uc.out;omega)),hat.lo,hat.hi⟩,fun b o sp e=>?_,fun b o sp e=>?_⟩
            · have:=(RUB.out b o sp e).2;have:=Uc.out;have:=Tt.out;omega
            · have:=(RB.out b o sp e).2;have:=Uc.out;have:=Tt.out;omega
          · skip;refine rd1 3 fun K9 Ky=>?_;go_simp;refine(XX _ _ _ _ _ _ _ _ _ _ _ z2).mono ?_;rintro e y2 ⟨rfl,kk⟩;have hr2:(jd s).1=ck:=by rw[Tz.out];simp[z2]
            exact⟨rfl,jO.bad hr2 z2 (K.out.trans (J.out.trans (J7.out.trans kk)))⟩
        · skip;have HV:=lH (show (jd s).1=e1 by unfold jd;rw[V7.out,VI.out,V3.out,Um.out];simp[z1]);refine(jab _ _ _ z1).mono ?_;rintro e w9 ⟨rfl,rfl⟩;go_wp2;exact⟨rfl,jO.bad HV.out z1 (K.out.trans J.out)⟩
     · have hnum:zm s=false:=by simpa using hnum
       have HV:=lH (show (jd s).1=5 by unfold jd;rw[V7.out,hnum];rfl);have J:=lH (Kept.drew w3);refine wp_region_held_drew (S:=fun W=>Kept w3 W) (by kernel_rfl) (J.out) (fun hHeld=>?_);obtain⟨wd,hwd⟩:=eX (w3.drew)
       rw[hwd] at J hHeld;try rw[hwd]
       clear hwd;refine tR 0 rfl (by kernel_rfl) (fun _ _ _=>id) (Or.inl ⟨by rfl,(by intro W hSw;obtain⟨o0,o1⟩:=Vi.out _ hSw;go_simp<;>with_reducible rfl)⟩) ‹_› ?_;try simp only[nA,nB,nC,nD,nE]
       refine tR 1 rfl (by kernel_rfl) (fun _ _ _=>id) (Or.inl ⟨by rfl,(by intro W hSw;obtain⟨o0,o1⟩:=Vi.out _ hSw;go_simp<;>with_reducible rfl)⟩) ‹_› ?_;try simp only[nA,nB,nC,nD,nE]
       refine tR 2 rfl (by kernel_rfl) (fun _ _ _=>id) (Or.inl ⟨by rfl,(by intro W hSw;obtain⟨o0,o1⟩:=Vi.out _ hSw;go_simp<;>with_reducible rfl)⟩) ‹_› ?_;try simp only[nA,nB,nC,nD,nE]
       refine tR 4 rfl (by kernel_rfl) (fun _ _ _=>id) (Or.inl ⟨by rfl,(by intro W hSw;obtain⟨o0,o1⟩:=Vi.out _ hSw;go_simp<;>with_reducible rfl)⟩) ‹_› ?_;try simp only[nA,nB,nC,nD,nE]
       refine tR 5 rfl (by kernel_rfl) (fun _ _ _=>id) (Or.inl ⟨by rfl,(by intro W hSw;obtain⟨o0,o1⟩:=Vi.out _ hSw;go_simp<;>with_reducible rfl)⟩) ‹_› ?_;try simp only[nA,nB,nC,nD,nE]
       refine tR 6 rfl (by kernel_rfl) (fun _ _ _=>id) (Or.inl ⟨by rfl,(by intro W hSw;obtain⟨o0,o1⟩:=Vi.out _ hSw;go_simp<;>with_reducible rfl)⟩) ‹_› ?_;try simp only[nA,nB,nC,nD,nE]
       refine tR 8 rfl (by kernel_rfl) (fun _ _ _=>id) (Or.inl ⟨by rfl,(by intro W hSw;obtain⟨o0,o1⟩:=Vi.out _ hSw;go_simp<;>with_reducible rfl)⟩) ‹_› ?_;try simp only[nA,nB,nC,nD,nE]
       refine wpAnyH_ready  (rs:=[3,11]) (by kernel_rfl) (by simp) (AllReadyH.cons  (by rw[List.getElem?_toArray];exact rfl) (fun K9 Ky=>?_) (AllReadyH.cons  (by rw[List.getElem?_toArray];exact rfl) (fun K9 Ky=>?_) AllReadyH.nil))
       · skip;go_simp;refine(VH.out _ (K.out.trans J.out)).mono ?_;rintro e9 ww35 ⟨he,kk⟩
         cases p0 with
         | false =>
          obtain rfl:e9=.panicked [jG 5]:=he;exact⟨rfl,jO.bad HV.out (by decide) (K.out.trans (J.out.trans kk))⟩
         | true =>
          obtain rfl:e9=.returned (.int .i64 (u0:Int)):=he;have J:=lH (J.out.trans kk);clear kk;refine Ky.out _ _ (J.out) (fun _=>?_);clear Ky K9;try simp only[nA,nB,nC,nD,nE]
          refine wpAnyH_ready  (rs:=[7,11]) (by kernel_rfl) (by simp) (AllReadyH.cons  (by rw[List.getElem?_toArray];exact rfl) (fun K9 Ky=>?_) (AllReadyH.cons  (by rw[List.getElem?_toArray];exact rfl) (fun K9 Ky=>?_) AllReadyH.nil))
          · skip;go_simp;refine(VD.out _ (K.out.trans J.out)).mono ?_;rintro e9 ww37 ⟨he,kk⟩
            cases p1 with
            | false =>
             obtain rfl:e9=.panicked [jG 5]:=he;exact⟨rfl,jO.bad HV.out (by decide) (K.out.trans (J.out.trans kk))⟩
            | true =>
             obtain rfl:e9=.returned (.int .i64 (u1:Int)):=he;have J:=lH (J.out.trans kk);clear kk;refine Ky.out _ _ (J.out) (fun _=>?_);clear Ky K9;try simp only[nA,nB,nC,nD,nE]
             refine wpAnyH_ready  (rs:=[9,11]) (by kernel_rfl) (by simp) (AllReadyH.cons  (by rw[List.getElem?_toArray];exact rfl) (fun K9 Ky=>?_) (AllReadyH.cons  (by rw[List.getElem?_toArray];exact rfl) (fun K9 Ky=>?_) AllReadyH.nil))
             · skip;go_simp;refine(Vr.out _ J.out).mono ?_;rintro e9 ww39 ⟨-,hbad,kk⟩;obtain rfl:=hbad (by have h:=hnum;rw[VK.out] at h;simpa using h);exact⟨rfl,jO.bad HV.out (by decide) (K.out.trans (J.out.trans kk))⟩
             · skip;go_simp;have kk:=jb ww37 (.cells #[.string ⟨#[]⟩,.slice none 0 0,.slice none 0 0,.int .i64 0,.int .i64 0] 26);have hn:=js ww37 (.string ⟨#[]⟩) [.slice none 0 0,.slice none 0 0,.int .i64 0,.int .i64 0] 26 _ (Kept.refl _);have hp9:w3.heap.size≤ww37.heap.size:=J.out.size;obtain⟨q,hqe⟩:=eX (ww37.heap.size)
               rw[hqe] at hn hp9 ⊢;obtain⟨ww40,hnw⟩:=eX (ww37.alloc (.cells #[.string ⟨#[]⟩,.slice none 0 0,.slice none 0 0,.int .i64 0,.int .i64 0] 26))
               rw[hnw] at hn kk ⊢;clear hnw hqe;obtain⟨J,QA,Ve⟩:=lH3 (J.out.trans kk) hn hp9;clear hn kk hp9;refine Ky.out _ _ (J.out) (fun _=>?_);clear Ky K9;try simp only[nA,nB,nC,nD,nE]
               refine rd1 9 fun K9 Ky=>?_;go_simp;refine(Vr.out _ J.out).mono ?_;rintro e9 ww42 ⟨-,hbad,kk⟩;obtain rfl:=hbad (by have h:=hnum;rw[VK.out] at h;simpa using h);exact⟨rfl,jO.bad HV.out (by decide) (K.out.trans (J.out.trans kk))⟩
          · skip;go_simp;have kk:=jb ww35 (.cells #[.string ⟨#[]⟩,.slice none 0 0,.slice none 0 0,.int .i64 0,.int .i64 0] 26);have hn:=js ww35 (.string ⟨#[]⟩) [.slice none 0 0,.slice none 0 0,.int .i64 0,.int .i64 0] 26 _ (Kept.refl _);have hp9:w3.heap.size≤ww35.heap.size:=J.out.size;obtain⟨q,hqe⟩:=eX (ww35.heap.size)
            rw[hqe] at hn hp9 ⊢;obtain⟨ww43,hnw⟩:=eX (ww35.alloc (.cells #[.string ⟨#[]⟩,.slice none 0 0,.slice none 0 0,.int .i64 0,.int .i64 0] 26))
            rw[hnw] at hn kk ⊢;clear hnw hqe;obtain⟨J,QA,Ve⟩:=lH3 (J.out.trans kk) hn hp9;clear hn kk hp9;refine Ky.out _ _ (J.out) (fun _=>?_);clear Ky K9;try simp only[nA,nB,nC,nD,nE]
            refine rd1 7 fun K9 Ky=>?_;go_simp;refine(VD.out _ (K.out.trans J.out)).mono ?_;rintro e9 ww45 ⟨he,kk⟩
            cases p1 with
            | false =>
             obtain rfl:e9=.panicked [jG 5]:=he;exact⟨rfl,jO.bad HV.out (by decide) (K.out.trans (J.out.trans kk))⟩
            | true =>
             obtain rfl:e9=.returned (.int .i64 (u1:Int)):=he;have J:=lH (J.out.trans kk);clear kk;refine Ky.out _ _ (J.out) (fun _=>?_);clear Ky K9;try simp only[nA,nB,nC,nD,nE]
             refine rd1 9 fun K9 Ky=>?_;go_simp;refine(Vr.out _ J.out).mono ?_;rintro e9 ww47 ⟨-,hbad,kk⟩;obtain rfl:=hbad (by have h:=hnum;rw[VK.out] at h;simpa using h);exact⟨rfl,jO.bad HV.out (by decide) (K.out.trans (J.out.trans kk))⟩
       · skip;go_simp;have kk:=jb wd (.cells #[.string ⟨#[]⟩,.slice none 0 0,.slice none 0 0,.int .i64 0,.int .i64 0] 26);have hn:=js wd (.string ⟨#[]⟩) [.slice none 0 0,.slice none 0 0,.int .i64 0,.int .i64 0] 26 _ (Kept.refl _);have hp9:w3.heap.size≤wd.heap.size:=J.out.size;obtain⟨q,hqe⟩:=eX (wd.heap.size)
         rw[hqe] at hn hp9 ⊢;obtain⟨ww48,hnw⟩:=eX (wd.alloc (.cells #[.string ⟨#[]⟩,.slice none 0 0,.slice none 0 0,.int .i64 0,.int .i64 0] 26))
         rw[hnw] at hn kk ⊢;clear hnw hqe;obtain⟨J,QA,Ve⟩:=lH3 (J.out.trans kk) hn hp9;clear hn kk hp9;refine Ky.out _ _ (J.out) (fun _=>?_);clear Ky K9;try simp only[nA,nB,nC,nD,nE]
         refine rd1 3 fun K9 Ky=>?_;go_simp;refine(VH.out _ (K.out.trans J.out)).mono ?_;rintro e9 ww50 ⟨he,kk⟩
         cases p0 with
         | false =>
          obtain rfl:e9=.panicked [jG 5]:=he;exact⟨rfl,jO.bad HV.out (by decide) (K.out.trans (J.out.trans kk))⟩
         | true =>
          obtain rfl:e9=.returned (.int .i64 (u0:Int)):=he;have J:=lH (J.out.trans kk);clear kk;refine Ky.out _ _ (J.out) (fun _=>?_);clear Ky K9;try simp only[nA,nB,nC,nD,nE]
          refine rd1 7 fun K9 Ky=>?_;go_simp;refine(VD.out _ (K.out.trans J.out)).mono ?_;rintro e9 ww52 ⟨he,kk⟩
          cases p1 with
          | false =>
           obtain rfl:e9=.panicked [jG 5]:=he;exact⟨rfl,jO.bad HV.out (by decide) (K.out.trans (J.out.trans kk))⟩
          | true =>
           obtain rfl:e9=.returned (.int .i64 (u1:Int)):=he;have J:=lH (J.out.trans kk);clear kk;refine Ky.out _ _ (J.out) (fun _=>?_);clear Ky K9;try simp only[nA,nB,nC,nD,nE]
           refine rd1 9 fun K9 Ky=>?_;go_simp;refine(Vr.out _ J.out).mono ?_;rintro e9 ww54 ⟨-,hbad,kk⟩;obtain rfl:=hbad (by have h:=hnum;rw[VK.out] at h;simpa using h);exact⟨rfl,jO.bad HV.out (by decide) (K.out.trans (J.out.trans kk))⟩
theorem Zj (B:Nat) (q:Nat) (x y:Int) (w:World) (hq:w.cell? ⟨q,0,none⟩=some (.int .i64 y)) (hzq:w.frozen? ⟨q,0,none⟩=false) (hBq:B≤q) :
 CallsD Tryz.prog 68 #[.pointer (some ⟨q,0,none⟩)] (.panicking [jG x]) w fun e u' w' =>
  e=.returned (.tuple #[])∧u'=.panicking [{ jG x with recovered:=true }]∧w'=w.setCell ⟨q,0,none⟩ (.int .i64 x)∧w'.cell? ⟨q,0,none⟩=some (.int .i64 x)∧Below B w w':=by
 have hta:∀W,(Instr.typeAssert (.iface 38 (.int .i64 x)) 20 38 false).run Tryz.prog W=.ok (.int .i64 x) W:=fun _=>by kernel_rfl
 refine callsD_of_wpS Tryz.func68 rfl fun c₀ cs hu=>?_;apply wpS_seq;apply wpS_region;simp[wpOpsS,go_sem,recoverD,hu,Tryz.ntmps68,Exit.thenS];apply wpS_seq;apply wpS_region;simp[wpOpsS,go_sem,recoverD,Exit.thenS];refine wpS_cond (t:=true) (by simp[Act.eval,Array.replicate]) ?_;simp only[if_true];refine wpS_of_wp ?_;simp[Array.replicate];go_wp2;simp[bodyPostS,results,Tryz.results68];exact⟨World.cell?_setCell_same' _ _ _ (by rw[hq];rfl),(Below.refl B w).setCell (p:=⟨q,0,none⟩) hBq _⟩
theorem YZ (q:Addr) (w:World) :
 CallsD Tryz.prog 68 #[.pointer (some q)] .returning w fun e u' w'=>e=.returned (.tuple #[])∧u'=.returning∧w'=w:=by
 refine callsD_of_wpS Tryz.func68 rfl fun c₀ cs hu=>?_;apply wpS_seq;apply wpS_region;simp[wpOpsS,go_sem,recoverD,hu,Tryz.ntmps68,Exit.thenS];apply wpS_seq;apply wpS_region;simp[wpOpsS,go_sem,recoverD,hu,Exit.thenS];refine wpS_cond (t:=false) (by simp[Act.eval,Array.replicate]) ?_;simp only[Bool.false_eq_true,if_false];refine wpS_of_wp (wp_skip ?_)
 cases c₀
 simp_all [bodyPostS,results,Tryz.results68]
def XB (r:Int×Lad) (w:World) (e:Ending) (w':World):Prop:=∃v,e=.returned (.tuple #[v,.int .i64 r.1])∧zx w.heap.size w' v r.2∧Kept w w'
theorem JC {s:List UInt8} (h:(jd s).1≠0):(jd s).2=Lad.zero:=by
 unfold jd at h ⊢;split
 · rfl
 · rename_i h1;rw[if_neg h1] at h;split
   · rfl
   · rename_i h2;rw[if_neg h2] at h;split
     · rfl
     · rename_i h3;rw[if_neg h3] at h;split
       · rfl
       · rename_i h4;rw[if_neg h4] at h;exact absurd rfl h
theorem Xy (B:Nat) (w:World):zx B w (.agg #[.string ⟨#[]⟩,.slice none 0 0,.slice none 0 0,.int .i64 0,.int .i64 0]) Lad.zero :=
 ⟨none,0,0,none,0,0,rfl,⟨(by decide:(0:Nat)≤maxLen),Vec.Reads.nil w,Reads.nil w,(by unfold I64;decide),(by unfold I64;decide)⟩,(fun _ _ _ e=>by cases e),(fun _ _ _ e=>by cases e)⟩
theorem zx.less {B B':Nat} {w:World} {v:Value} {n:Lad} (h:zx B w v n) (hb:B'≤B):zx B' w v n:=by
 obtain⟨a1,m1,c1,a2,m2,c2,e,h0,g1,g2⟩:=h;exact⟨a1,m1,c1,a2,m2,c2,e,h0,fun b o s e=>Nat.le_trans hb (g1 b o s e),fun b o s e=>Nat.le_trans hb (g2 b o s e)⟩
theorem zx.far {B:Nat} {w w':World} {v:Value} {n:Lad} (h:zx B w v n) (hs:w'.heap.size=w.heap.size) (hb:∀b,B≤b→w'.heap[b]?=w.heap[b]?):zx B w' v n:=by
 obtain⟨a1,m1,c1,a2,m2,c2,e,h0,g1,g2⟩:=h;exact⟨a1,m1,c1,a2,m2,c2,e,⟨h0.size,h0.unit.far hs (fun b o s e=>hb b (g1 b o s e)),h0.rungs.far hs (fun b o s e=>hb b (g2 b o s e)),h0.lo,h0.hi⟩,g1,g2⟩
theorem jO.good {r:Int×Lad} {w w':World} {v:Value} (h:r.1=0) (ho:zx w.heap.size w' v r.2) (hb:Kept w w'):jO r w (.returned v) w':=⟨fun _=>⟨v,rfl,ho⟩,fun g=>absurd h g,hb⟩
def jb3 (q:Nat) (x:ByteArray) (a1 a2:Option Addr) (m1 c1 m2 c2:Nat) (lo b:Int) (W W':World):Prop :=
 (W'.cell? ⟨q,0,none⟩=some (.string x)∧W'.cell? ⟨q,1,none⟩=some (.slice a1 m1 c1)∧W'.cell? ⟨q,2,none⟩=some (.slice a2 m2 c2)∧W'.cell? ⟨q,3,none⟩=some (.int .i64 lo)∧W'.cell? ⟨q,4,none⟩=some (.int .i64 b)) ∧
  W'.heap.size=W.heap.size∧(∀j,j≠q→W'.heap[j]?=W.heap[j]?)∧∀B w,B≤q→Below B w W→Below B w W'
theorem Z2 {W:World} {q:Nat} {v0 v1 v2 v3 v4:Value} (y:W.cell? ⟨q,0,none⟩=some v0∧W.cell? ⟨q,1,none⟩=some v1∧W.cell? ⟨q,2,none⟩=some v2∧W.cell? ⟨q,3,none⟩=some v3∧W.cell? ⟨q,4,none⟩=some v4) (x:ByteArray) (a1 a2:Option Addr) (m1 c1 m2 c2:Nat) (lo b:Int) :
 jb3 q x a1 a2 m1 c1 m2 c2 lo b W (((((W.setCell ⟨q,0,none⟩ (.string x)).setCell ⟨q,1,none⟩ (.slice a1 m1 c1)).setCell ⟨q,2,none⟩ (.slice a2 m2 c2)).setCell ⟨q,3,none⟩ (.int .i64 lo)).setCell ⟨q,4,none⟩ (.int .i64 b)) :=
 ⟨qS y.1 y.2.1 y.2.2.1 y.2.2.2.1 y.2.2.2.2 _ rfl,ja7 _ _ _ _ _ _ _,fun j hj=>qP _ _ _ _ _ _ _ j hj,
  fun B w hB hk=>((((hk.setCell (p:=⟨q,0,none⟩) hB _).setCell (p:=⟨q,1,none⟩) hB _).setCell (p:=⟨q,2,none⟩) hB _).setCell (p:=⟨q,3,none⟩) hB _).setCell (p:=⟨q,4,none⟩) hB _⟩
theorem jbd (C:Addr) (s:List UInt8) (w:World) (h1:w.cell? C=some (.string (bytes s))) (hE:Vec.zc w) (hs:s.length≤900000) :
 Calls Tryz.prog 49 #[.pointer (some C)] w (jO (jd s) w):=by
 obtain⟨Z,hZ⟩:=eX (w.alloc (.cells #[.string ⟨#[]⟩,.slice none 0 0,.slice none 0 0,.int .i64 0,.int .i64 0] 26))
 have hk:Kept w Z:=by rw[←hZ];exact jb _ _
 have hzs:Z.heap.size=w.heap.size+1:=by rw[←hZ,World.size_alloc]
 have hc:=cell_later hk h1;obtain⟨HP,HK,HZ⟩:=lH3 (XG s Z (hE.kept hk) hs) hk (fun W (kk:Kept Z W)=>Xn w (.string ⟨#[]⟩) (.slice none 0 0) (.slice none 0 0) (.int .i64 0) (.int .i64 0) 26 W (by rw[hZ];exact kk));clear hE h1 hk hs;go_enter Tryz.func49,Tryz.ntmps49;go_wp2_with fail
 try rw[hZ]
 refine HP.out.mono ?_;rintro e w2 ⟨g0,g1,k⟩;have KK:=lH k;obtain⟨⟨y0,y1,y2,y3,y4⟩,x0,x1,x2,x3,x4⟩:=HZ.out _ k;have Y:=lH (And.intro y0 (And.intro y1 (And.intro y2 (And.intro y3 y4))));by_cases hx:(jd s).1=0
 · obtain⟨v,rfl,hn⟩:=g0 hx;have HX:=lH hx;have HN:=lH hn;obtain⟨a1,m1,c1,a2,m2,c2,rfl,-⟩:=hn;have P:=lH (Z2 Y.out (jd s).2.what a1 a2 m1 c1 m2 c2 (jd s).2.lo (jd s).2.hi);clear g0 g1 k hx Y hZ;obtain⟨x,hxx⟩:=eX ((jd s).2.what)
   obtain⟨lo,hlo⟩:=eX ((jd s).2.lo)
   obtain⟨cd,hcd⟩:=eX ((jd s).2.hi)
   rw[hxx,hlo,hcd] at P HN;rw[hxx,hlo,hcd];clear hxx hlo hcd;go_wp2;obtain⟨WE,hWE⟩:=eX ((((((w2.setCell ⟨w.heap.size,0,none⟩ (.string x)).setCell ⟨w.heap.size,1,none⟩ (.slice a1 m1 c1)).setCell ⟨w.heap.size,2,none⟩ (.slice a2 m2 c2)).setCell ⟨w.heap.size,3,none⟩ (.int .i64 lo)).setCell ⟨w.heap.size,4,none⟩ (.int .i64 cd)))
   rw[hWE] at P ⊢;clear hWE y0 y1 y2 y3 y4 x0 x1 x2 x3 x4;obtain⟨⟨d0,d1,d2,d3,d4⟩,hsz,hbl,hkp⟩:=P.out;refine bodyPost_ret (by simp[results,Tryz.results49,go_sem,d0,d1,d2,d3,d4];try rfl) rfl ?_;exact jO.good HX.out ((HN.out.far hsz (fun b hb=>hbl b (by omega))).less (by omega)) (hkp _ _ (Nat.le_refl _) (HK.out.trans KK.out))
 · obtain rfl:=g1 hx;have HX:=lH hx;clear g0 g1 k hx Y hZ;go_wp2;exact⟨rfl,jO.bad rfl HX.out (HK.out.trans KK.out)⟩
theorem Xf (C:Addr) (r:Int×Lad) (w:World) (hr:r.1≠0→r.2=Lad.zero)
 (hk:∀W,Kept w W→Calls Tryz.prog 49 #[.pointer (some C)] W (jO r W)) :
 Calls Tryz.prog 48 #[.func (.func 49) #[] #[.pointer (some C)]] w (XB r w):=by
 have hmf:=hmfL (P:=Tryz.prog);have HR:=lH hr;obtain⟨Z,hZ⟩:=eX ((w.alloc (.cells #[.string ⟨#[]⟩,.slice none 0 0,.slice none 0 0,.int .i64 0,.int .i64 0] 26)).alloc (.cells #[.int .i64 0] 38))
 have hkz:Kept w Z:=by rw[←hZ];exact jQ _ _ _
 have hzs:Z.heap.size=w.heap.size+2:=by rw[←hZ];simp
 have HK:=lH hkz;have HZ:=lH (fun W (kk:Kept Z W)=>Xn w (.string ⟨#[]⟩) (.slice none 0 0) (.slice none 0 0) (.int .i64 0) (.int .i64 0) 26 W (by rw[←hZ] at kk;exact(jb _ _).trans kk));have RI:=lH (show ∀W,Kept Z W→W.cell? ⟨w.heap.size+1,0,none⟩=some (.int .i64 0)∧W.frozen? ⟨w.heap.size+1,0,none⟩=false from fun W kk=>by
  have hb:=Jv (w.alloc (.cells #[.string ⟨#[]⟩,.slice none 0 0,.slice none 0 0,.int .i64 0,.int .i64 0] 26)) (.int .i64 0) 38;rw[hZ,World.size_alloc] at hb;exact⟨cell_later kk hb.1,(kk.frozen (p:=⟨w.heap.size+1,0,none⟩) (by rw[hzs];exact Nat.lt_succ_self _)).trans hb.2⟩)
 have RJ:=lH (hk Z hkz);clear hk hr hkz;obtain⟨r1,r2⟩:=r;go_enter_defers Tryz.func48,Tryz.ntmps48
 go_wp2_with fail
 try rw[hZ]
 refine RJ.out.mono ?_;rintro e1 w1 ⟨h0,h1,hb⟩;have KK:=lH hb;obtain⟨⟨y0,y1,y2,y3,y4⟩,x0,x1,x2,x3,x4⟩:=HZ.out _ hb;obtain⟨z0,z1⟩:=RI.out _ hb;have Y:=lH (And.intro y0 (And.intro y1 (And.intro y2 (And.intro y3 y4))));have hws:w.heap.size+1<w1.heap.size:=by have:=hb.size;omega
 by_cases hx:r1=0
 · subst hx;obtain⟨v,rfl,hn⟩:=h0 rfl;have HN:=lH hn;obtain⟨a1,m1,c1,a2,m2,c2,rfl,-⟩:=hn;have P:=lH (Z2 Y.out r2.what a1 a2 m1 c1 m2 c2 r2.lo r2.hi);clear h0 h1 hb Y hZ;obtain⟨x,hxx⟩:=eX (r2.what)
   obtain⟨lo,hlo⟩:=eX (r2.lo)
   obtain⟨cd,hcd⟩:=eX (r2.hi)
   dsimp only at P HN ⊢;rw[hxx,hlo,hcd] at P HN;rw[hxx,hlo,hcd];clear hxx hlo hcd;go_wp2_with fail
   obtain⟨WE,hWE⟩:=eX ((((((w1.setCell ⟨w.heap.size,0,none⟩ (.string x)).setCell ⟨w.heap.size,1,none⟩ (.slice a1 m1 c1)).setCell ⟨w.heap.size,2,none⟩ (.slice a2 m2 c2)).setCell ⟨w.heap.size,3,none⟩ (.int .i64 lo)).setCell ⟨w.heap.size,4,none⟩ (.int .i64 cd)))
   rw[hWE] at P ⊢;obtain⟨⟨d0,d1,d2,d3,d4⟩,hsz,hbl,hkp⟩:=P.out;have ez:WE.cell? ⟨w.heap.size+1,0,none⟩=some (.int .i64 0):=(World.cell?_of_block (a:=⟨w.heap.size+1,0,none⟩) (hbl (w.heap.size+1) (by omega))).trans z0;have hb2:∀b,b≠w.heap.size+1→(WE.setCell ⟨w.heap.size+1,0,none⟩ (.int .i64 0)).heap[b]?=WE.heap[b]?:=fun b hb=>Below.heap_setCell WE ⟨w.heap.size+1,0,none⟩ _ b hb;have fe:=World.cell?_setCell_same' WE ⟨w.heap.size+1,0,none⟩ (.int .i64 0) (by rw[ez];rfl);have ff:∀j v,WE.cell? ⟨w.heap.size,j,none⟩=some v→(WE.setCell ⟨w.heap.size+1,0,none⟩ (.int .i64 0)).cell? ⟨w.heap.size,j,none⟩=some v:=fun j v h=>(World.cell?_of_block (a:=⟨w.heap.size,j,none⟩) (hb2 w.heap.size (by omega))).trans h;have f0:=ff 0 _ d0;have f1:=ff 1 _ d1;have f2:=ff 2 _ d2;have f3:=ff 3 _ d3;have f4:=ff 4 _ d4;have KF:=lH (show Kept w (WE.setCell ⟨w.heap.size+1,0,none⟩ (.int .i64 0)) from(hkp _ _ (Nat.le_refl _) (HK.out.trans KK.out)).setCell (p:=⟨w.heap.size+1,0,none⟩) (Nat.le_succ _) _);have NF:=lH ((HN.out.far (w':=WE.setCell ⟨w.heap.size+1,0,none⟩ (.int .i64 0)) (by simp[World.setCell,hsz]) (fun b hb=>(hb2 b (by omega)).trans (hbl b (by omega)))).less (B':=w.heap.size) (by omega));obtain⟨WF,hWF⟩:=eX (WE.setCell ⟨w.heap.size+1,0,none⟩ (.int .i64 0))
   rw[hWF] at fe f0 f1 f2 f3 f4 KF NF ⊢;clear hWE hWF ff hb2 ez P hbl hkp d0 d1 d2 d3 d4 y0 y1 y2 y3 y4 x0 x1 x2 x3 x4 z0 z1;refine leaves_cons (f:=68) (args:=#[.pointer (some ⟨w.heap.size+1,0,none⟩)]) (by simp) (by simp[go_sem]) ?_;refine(YZ ⟨w.heap.size+1,0,none⟩ _).mono ?_;rintro e u' w'' ⟨rfl,rfl,rfl⟩;simp[Leaves,settle,results,Tryz.results48,go_sem,fe,f0,f1,f2,f3,f4];exact⟨_,rfl,NF.out,KF.out⟩
 · obtain rfl:=h1 hx;obtain rfl:=HR.out hx;have KW:=lH (HK.out.trans KK.out);clear h0 h1 hb hZ Y;go_wp2_with fail
   refine leaves_cons (f:=68) (args:=#[.pointer (some ⟨w.heap.size+1,0,none⟩)]) (by simp) (by simp[go_sem]) ?_;refine(Zj w.heap.size (w.heap.size+1) r1 0 _ z0 z1 (by omega)).mono ?_;rintro e u' w'' ⟨rfl,rfl,rfl,q2,q3⟩;have hb2:(w1.setCell ⟨w.heap.size+1,0,none⟩ (.int .i64 r1)).heap[w.heap.size]?=w1.heap[w.heap.size]?:=Below.heap_setCell w1 ⟨w.heap.size+1,0,none⟩ _ w.heap.size (by simp);have ff:∀j v,w1.cell? ⟨w.heap.size,j,none⟩=some v→(w1.setCell ⟨w.heap.size+1,0,none⟩ (.int .i64 r1)).cell? ⟨w.heap.size,j,none⟩=some v:=fun j v h=>(World.cell?_of_block (a:=⟨w.heap.size,j,none⟩) hb2).trans h;have f0:=ff 0 _ y0;have f1:=ff 1 _ y1;have f2:=ff 2 _ y2;have f3:=ff 3 _ y3;have f4:=ff 4 _ y4;have KF:=lH (show Kept w _ from Below.trans KW.out q3);obtain⟨WF,hWF⟩:=eX (w1.setCell ⟨w.heap.size+1,0,none⟩ (.int .i64 r1))
   rw[hWF] at q2 f0 f1 f2 f3 f4 KF ⊢;clear hWF ff hb2 q3 y0 y1 y2 y3 y4 x0 x1 x2 x3 x4 z0 z1;simp[Leaves,settle,results,Tryz.results48,go_sem,q2,f0,f1,f2,f3,f4];exact⟨_,rfl,Xy _ _,KF.out⟩
theorem JB (s:List UInt8) (w:World) (hE:Vec.zc w) (hs:s.length≤900000) :
 Calls Tryz.prog 24 #[.string (bytes s)] w (XB (jd s) w):=by
 have hmf:=hmfL (P:=Tryz.prog);obtain⟨Z,hZ⟩:=eX ((w.alloc (.cells #[.string (bytes s)] 9)).alloc (.cells #[.string ⟨#[]⟩,.slice none 0 0,.slice none 0 0,.int .i64 0,.int .i64 0] 26))
 have hkz:Kept w Z:=by rw[←hZ];exact jQ _ _ _
 have hzs:Z.heap.size=w.heap.size+2:=by rw[←hZ];simp
 have hzc:Z.cell? ⟨w.heap.size,0,none⟩=some (.string (bytes s)):=by
  rw[←hZ];exact cell_later (jb _ _) (by have hh:=w.alloc_heap_new (.cells #[.string (bytes s)] 9);rw[Lib.cell_of_heap hh];rfl)
 have HK:=lH hkz;have HZ:=lH (fun W (kk:Kept Z W)=>Xn (w.alloc (.cells #[.string (bytes s)] 9)) (.string ⟨#[]⟩) (.slice none 0 0) (.slice none 0 0) (.int .i64 0) (.int .i64 0) 26 W (by rw[hZ];exact kk));rw[World.size_alloc] at HZ;have HC:=lH (Xf ⟨w.heap.size,0,none⟩ (jd s) Z JC (fun W k=>jbd ⟨w.heap.size,0,none⟩ s W (cell_later k hzc) (hE.kept (hkz.trans k)) hs));clear hE hs hzc;go_enter Tryz.func24,Tryz.ntmps24;go_wp2_with fail
 try rw[hZ]
 refine HC.out.mono ?_;rintro e w1 ⟨v,rfl,hn,k⟩;have KK:=lH k;have HN:=lH hn;obtain⟨⟨y0,y1,y2,y3,y4⟩,x0,x1,x2,x3,x4⟩:=HZ.out _ k;have Y:=lH (And.intro y0 (And.intro y1 (And.intro y2 (And.intro y3 y4))));obtain⟨a1,m1,c1,a2,m2,c2,rfl,-⟩:=hn;have P:=lH (Z2 Y.out (jd s).2.what a1 a2 m1 c1 m2 c2 (jd s).2.lo (jd s).2.hi);obtain⟨x,hxx⟩:=eX ((jd s).2.what)
 obtain⟨lo,hlo⟩:=eX ((jd s).2.lo)
 obtain⟨cd,hcd⟩:=eX ((jd s).2.hi)
 obtain⟨r1,hr1⟩:=eX ((jd s).1)
 obtain⟨r2,hr2⟩:=eX ((jd s).2)
 rw[hxx,hlo,hcd] at P HN;rw[hxx,hlo,hcd,hr1];rw[hr2] at HN;have HR:=lH (show jd s=(r1,r2) by rw[←hr1,←hr2]);clear hxx hlo hcd hr1 hr2 k Y hZ;go_wp2;obtain⟨WE,hWE⟩:=eX ((((((w1.setCell ⟨w.heap.size+1,0,none⟩ (.string x)).setCell ⟨w.heap.size+1,1,none⟩ (.slice a1 m1 c1)).setCell ⟨w.heap.size+1,2,none⟩ (.slice a2 m2 c2)).setCell ⟨w.heap.size+1,3,none⟩ (.int .i64 lo)).setCell ⟨w.heap.size+1,4,none⟩ (.int .i64 cd)))
 rw[hWE] at P ⊢;clear hWE y0 y1 y2 y3 y4 x0 x1 x2 x3 x4;obtain⟨⟨d0,d1,d2,d3,d4⟩,hsz,hbl,hkp⟩:=P.out;refine bodyPost_ret (by simp[results,Tryz.results24,go_sem,d0,d1,d2,d3,d4];try rfl) rfl ?_;rw[HR.out];exact⟨_,rfl,(HN.out.far hsz (fun b hb=>hbl b (by omega))).less (by omega),hkp _ _ (Nat.le_succ _) (HK.out.trans KK.out)⟩
def Jl (lo hi:Int):List UInt8:=Lib.itoa lo++([47]++Lib.itoa hi)
def zk (r:Int×Int×Int):List UInt8:=Lib.itoa r.1++([58]++(Lib.itoa r.2.1++([58]++Lib.itoa r.2.2)))
def zz (n:Lad):List (List UInt8):=n.what.data.toList::Vec.j0 n.unit::Jl n.lo n.hi::n.rungs.map zk
def Zo (n:Lad):List UInt8:=Lib.join (zz n) [32]
theorem jcJ:Kind 87 9 1 16:=by
 obtain⟨i,hi,hz,h1,h2⟩:=info_parts (show (Tryz.prog.info? 9).map (fun i=>(i.zero,i.size,i.bytes))=some (some (.string ByteArray.empty),1,16) by kernel_rfl);exact⟨i,_,Tryz.underlying87,hi,hz,h1,h2,rfl,by decide⟩
theorem jaf (w:World) (B:Nat) (a b c:Value) (e:TypeId) (hB:B≤w.heap.size) (ha:a.oneCell'=true) (hb:b.oneCell'=true) (hc:c.oneCell'=true):(w.alloc (.cells #[a,b,c] e)).ownsRow B e 1 (.slice (some ⟨w.heap.size,0,none⟩) 3 3) 3 [a,b,c] :=
 ⟨by simp[ha,hb,hc],.inr ⟨w.heap.size,3,#[a,b,c],rfl,hB,World.alloc_heap_new w _,by omega,by decide,by simp,by simp⟩⟩
theorem J9 (n:Int) (w:World) (hE:Vec.zc w) (h0:-9223372036854775808≤n) (h1:n≤9223372036854775807) :
 Calls Tryz.prog 66 #[.int .i64 n] w fun e w'=>e=.returned (.string (bytes (Lib.itoa n)))∧Kept w w':=by
 refine(Tryz.strconv_Itoa n h0 h1 w hE.tab).mono ?_;rintro e w' ⟨rfl,k,os,rfl⟩;exact⟨rfl,Lib.below_grow _ _ (Nat.le_refl _) _ _⟩
theorem zH (a b:List UInt8):bytes a++bytes b=bytes (a++b):=by apply Go.WideShapes.bytes_inj;simp[bytes,ByteArray.data_append]
theorem YO:∀(ts:List (List UInt8)) (B:Nat),(∀x ∈ ts,x.length≤B)→(Lib.join ts [32]).length≤ts.length*(B+1)
 | [],B,_=>by simp[Lib.join]
 | [x],B,h=>by
  have:=h x (by simp);rw[Lib.join_one];simp;omega
 | x::y::t,B,h=>by
  have h1:=h x (by simp);have ih:=YO (y::t) B (fun z hz=>h z (by simp[hz]));have s:(Lib.join (x::y::t) [32])=x++[32]++Lib.join (y::t) [32]:=by simp[Lib.join,List.intercalate]
  rw[s,List.length_append,List.length_append];simp only[List.length_cons,List.length_nil] at ih ⊢;rw[Nat.add_mul (t.length+1) 1 (B+1),Nat.one_mul];omega
theorem XS (a b:Int) (w:World) (hE:Vec.zc w) (ha:I64 a) (hb:I64 b) :
 Calls Tryz.prog 43 #[.int .i64 a,.int .i64 b] w fun e w'=>e=.returned (.string (bytes (Jl a b)))∧Kept w w':=by
 have H1:=lH (fun W (k:Kept w W)=>J9 a W (hE.kept k) ha.1 ha.2);have H2:=lH (fun W (k:Kept w W)=>J9 b W (hE.kept k) hb.1 hb.2);have hz1:=Lib.itoa_length_le a ha.1 ha.2;have hz2:=Lib.itoa_length_le b hb.1 hb.2;have HV:=lH (show bytes (Lib.itoa a)++⟨#[47]⟩++bytes (Lib.itoa b)=bytes (Jl a b) by
  rw[show (⟨#[47]⟩:ByteArray)=bytes [47] from rfl,zH,zH];unfold Jl;rw[List.append_assoc])
 obtain⟨t1,ht1⟩:=eX (bytes (Lib.itoa a))
 obtain⟨t2,ht2⟩:=eX (bytes (Lib.itoa b))
 have hs1:t1.size≤100:=by rw[←ht1,jn];omega
 have hs2:t2.size≤100:=by rw[←ht2,jn];omega
 rw[ht1,ht2] at HV;rw[ht1] at H1;rw[ht2] at H2;clear ht1 ht2 hz1 hz2 hE;go_enter Tryz.func43,Tryz.ntmps43;go_wp2_with fail
 refine(H1.out _ (Kept.refl _)).mono ?_;rintro e w1 ⟨rfl,k1⟩;have K:=lH k1;clear k1;go_wp2_with fail
 refine(H2.out _ K.out).mono ?_;rintro e w2 ⟨rfl,k2⟩;have K:=lH (K.out.trans k2);clear k2;go_wp2;go_ret;exact⟨Yx HV.out,K.out⟩
theorem jck {w:World} {B g n cap:Nat} {e:TypeId} {xs:List ByteArray} (h:w.ownsRow B e 1 (.slice (some ⟨g,0,none⟩) n cap) n (xs.map Value.string)):n≤cap∧g<w.heap.size∧∀(j:Nat) x,xs[j]?=some x→w.cell? ⟨g,0+j,none⟩=some (.string x):=by
 refine⟨?_,(h.lt g rfl).2,jaS h⟩;rcases h.2 with ⟨h0,_⟩ | ⟨g2,cap2,cur,h0,hb,hg,hr,_⟩
 · cases h0
 · cases h0;exact hr
theorem qA {α:Type} {l:List α} {k:Nat} {x:α} (h:l[k]?=some x):l.take (k+1)=l.take k++[x]:=by rw[List.take_add_one,h];rfl
theorem jaJ {g n cap:Nat} {w:World} {xs:List ByteArray} (hc:∀(j:Nat) x,xs[j]?=some x→w.cell? ⟨g,0+j,none⟩=some (.string x)) (hg:g<w.heap.size) (hn:xs.length=n) (hcap:n≤cap) (hm:n≤1000000) (hl:(Lib.join (xs.map (·.data.toList)) [32]).length≤10000000) :
 Calls Tryz.prog 45 #[.slice (some ⟨g,0,none⟩) n cap] w fun e w'=>e=.returned (.string (bytes (Lib.join (xs.map (·.data.toList)) [32])))∧Kept w w':=by
 have hn2:xs.length≤140737488355328:=by omega
 have H:=lH (Tryz.strings_Join g 0 cap xs ⟨#[32]⟩ w hc hg hn2 (by omega) (Nat.le_trans hl (by decide)));rw[hn] at H;clear hc hl hn2;go_enter Tryz.func45,Tryz.ntmps45;go_wp2_with fail
 refine H.out.mono ?_;rintro e w1 ⟨rfl,k⟩;have K:=lH (show Kept w w1 from k);clear k;go_wp2;go_ret;exact⟨rfl,K.out⟩
theorem jcm {n:Lad} {tu tl:ByteArray} {ws:List ByteArray} (h:n.what::tu::tl::n.rungs.map (fun r=>bytes (zk r))=ws) (h1:bytes (Vec.j0 n.unit)=tu) (h2:bytes (Jl n.lo n.hi)=tl):ws.map (·.data.toList)=zz n:=by
 subst h;subst h1;subst h2;unfold zz;simp[bytes]
theorem jb2 {a b:Int} (ha:I64 a) (hb:I64 b):(Jl a b).length≤100:=by
 have h1:=Lib.itoa_length_le a ha.1 ha.2;have h2:=Lib.itoa_length_le b hb.1 hb.2;unfold Jl;simp only[List.length_append,List.length_cons,List.length_nil];omega
theorem jby {r:Int×Int×Int} (hu:I64 r.1) (hc:I64 r.2.1) (hp:I64 r.2.2):(zk r).length≤100:=by
 have h1:=Lib.itoa_length_le r.1 hu.1 hu.2;have h2:=Lib.itoa_length_le r.2.1 hc.1 hc.2;have h3:=Lib.itoa_length_le r.2.2 hp.1 hp.2;unfold zk;simp only[List.length_append,List.length_cons,List.length_nil];omega
theorem jak {n:Lad} (h0:n.what.size≤1000) (h1:(Vec.j0 n.unit).length≤2000) (h2:(Jl n.lo n.hi).length≤100) (h3:∀x ∈ n.rungs,jh.fine x):∀p ∈ zz n,p.length≤2000:=by
 intro p hp;unfold zz at hp;simp only[List.mem_cons,List.mem_map] at hp;rcases hp with rfl | rfl | rfl | ⟨r,hr,rfl⟩
 · rw[Array.length_toList,ByteArray.size_data];omega
 · exact h1
 · omega
 · have h:=h3 r hr;have:=jby h.1 h.2.1 h.2.2;omega
theorem Xv (u c p:Int) (w:World) (hE:Vec.zc w) (hu:I64 u) (hc:I64 c) (hp:I64 p) :
 Calls Tryz.prog 44 #[.agg #[.int .i64 u,.int .i64 c,.int .i64 p]] w fun e w'=>e=.returned (.string (bytes (zk (u,c,p))))∧Kept w w':=by
 obtain⟨W0,hW0⟩:=eX (w.alloc (.cells #[.int .i64 u,.int .i64 c,.int .i64 p] 46))
 have hk0:Kept w W0:=by rw[←hW0];exact jb _ _
 obtain⟨HC,H1,H2,H3⟩:=lH4 (show ∀W,Kept W0 W→W.cell? ⟨w.heap.size,0,none⟩=some (.int .i64 u)∧W.cell? ⟨w.heap.size,1,none⟩=some (.int .i64 c)∧W.cell? ⟨w.heap.size,2,none⟩=some (.int .i64 p) from fun W k=>(js w (.int .i64 u) [.int .i64 c,.int .i64 p] 46 W (by rw[hW0];exact k)).at3) (fun W (k:Kept W0 W)=>Vec.Ju u W (hE.kept (hk0.trans k)) hu.1 hu.2) (fun W (k:Kept W0 W)=>J9 c W (hE.kept (hk0.trans k)) hc.1 hc.2) (fun W (k:Kept W0 W)=>Vec.Ju p W (hE.kept (hk0.trans k)) hp.1 hp.2);have hz1:=Lib.itoa_length_le u hu.1 hu.2;have hz2:=Lib.itoa_length_le c hc.1 hc.2;have hz3:=Lib.itoa_length_le p hp.1 hp.2;have HV:=lH (show bytes (Lib.itoa u)++⟨#[58]⟩++bytes (Lib.itoa c)++⟨#[58]⟩++bytes (Lib.itoa p)=bytes (zk (u,c,p)) by
  rw[show (⟨#[58]⟩:ByteArray)=bytes [58] from rfl,zH,zH,zH,zH];unfold zk;simp only[List.append_assoc])
 obtain⟨t1,ht1⟩:=eX (bytes (Lib.itoa u))
 have hs1:t1.size≤100:=by rw[←ht1,jn];omega
 rw[ht1] at H1;obtain⟨t2,ht2⟩:=eX (bytes (Lib.itoa c))
 have hs2:t2.size≤100:=by rw[←ht2,jn];omega
 rw[ht2] at H2;obtain⟨t3,ht3⟩:=eX (bytes (Lib.itoa p))
 have hs3:t3.size≤100:=by rw[←ht3,jn];omega
 rw[ht3] at H3;rw[ht1,ht2,ht3] at HV;have hone:(⟨#[58]⟩:ByteArray).size=1:=rfl;have ad1:∀W,(Op.stringOp .add t1 (⟨#[58]⟩:ByteArray)).run Tryz.prog W=.ok (.string (t1++(⟨#[58]⟩:ByteArray))) W:=fun W=>run_string_add_sum W _ _ (by omega);have ad2:∀W,(Op.stringOp .add (t1++(⟨#[58]⟩:ByteArray)) t2).run Tryz.prog W=.ok (.string (t1++(⟨#[58]⟩:ByteArray)++t2)) W:=fun W=>run_string_add_sum W _ _ (by simp only[ByteArray.size_append];omega);have ad3:∀W,(Op.stringOp .add (t1++(⟨#[58]⟩:ByteArray)++t2) (⟨#[58]⟩:ByteArray)).run Tryz.prog W=.ok (.string (t1++(⟨#[58]⟩:ByteArray)++t2++(⟨#[58]⟩:ByteArray))) W:=fun W=>run_string_add_sum W _ _ (by simp only[ByteArray.size_append];omega);have ad4:∀W,(Op.stringOp .add (t1++(⟨#[58]⟩:ByteArray)++t2++(⟨#[58]⟩:ByteArray)) t3).run Tryz.prog W=.ok (.string (t1++(⟨#[58]⟩:ByteArray)++t2++(⟨#[58]⟩:ByteArray)++t3)) W:=fun W=>run_string_add_sum W _ _ (by simp only[ByteArray.size_append];omega);have UL:=lH hk0;clear ht1 ht2 ht3 hz1 hz2 hz3 hE hk0;go_enter Tryz.func44,Tryz.ntmps44;go_upto_region 1 with fail
 try rw[hW0]
 clear hW0;have J:=lH (Kept.drew W0);refine wp_region_held_drew (S:=fun W=>W.cell? ⟨w.heap.size,0,none⟩=some (.int .i64 u)∧W.cell? ⟨w.heap.size,1,none⟩=some (.int .i64 c)∧W.cell? ⟨w.heap.size,2,none⟩=some (.int .i64 p)) (by kernel_rfl) (HC.out _ J.out) (fun hHeld=>?_);obtain⟨wd,hwd⟩:=eX (W0.drew)
 rw[hwd] at J hHeld;try rw[hwd]
 clear hwd;refine tR 0 rfl (by kernel_rfl) (fun _ _ _=>id) (Or.inl ⟨by rfl,by rintro W ⟨o0,o1,o2⟩;go_simp<;>with_reducible rfl⟩) ‹_› ?_;try simp only[nA,nB,nC,nD,nE]
 refine tR 1 rfl (by kernel_rfl) (fun _ _ _=>id) (Or.inl ⟨by rfl,by rintro W ⟨o0,o1,o2⟩;go_simp<;>with_reducible rfl⟩) ‹_› ?_;try simp only[nA,nB,nC,nD,nE]
 refine tR 4 rfl (by kernel_rfl) (fun _ _ _=>id) (Or.inl ⟨by rfl,by rintro W ⟨o0,o1,o2⟩;go_simp<;>with_reducible rfl⟩) ‹_› ?_;try simp only[nA,nB,nC,nD,nE]
 refine tR 5 rfl (by kernel_rfl) (fun _ _ _=>id) (Or.inl ⟨by rfl,by rintro W ⟨o0,o1,o2⟩;go_simp<;>with_reducible rfl⟩) ‹_› ?_;try simp only[nA,nB,nC,nD,nE]
 refine tR 9 rfl (by kernel_rfl) (fun _ _ _=>id) (Or.inl ⟨by rfl,by rintro W ⟨o0,o1,o2⟩;go_simp<;>with_reducible rfl⟩) ‹_› ?_;try simp only[nA,nB,nC,nD,nE]
 refine tR 10 rfl (by kernel_rfl) (fun _ _ _=>id) (Or.inl ⟨by rfl,by rintro W ⟨o0,o1,o2⟩;go_simp<;>with_reducible rfl⟩) ‹_› ?_;try simp only[nA,nB,nC,nD,nE]
 refine rd1 2 fun K9 Ky=>?_;go_simp;refine(H1.out _ J.out).mono ?_;rintro e w1 ⟨rfl,kk⟩;have J:=lH (J.out.trans kk);clear kk;refine Ky.out _ _ (HC.out _ J.out) (fun _=>?_);clear Ky K9;try simp only[nA,nB,nC,nD,nE]
 refine tR 3 rfl (by kernel_rfl) (fun _ _ _=>id) (Or.inl ⟨by rfl,by rintro W ⟨o0,o1,o2⟩;go_simp<;>with_reducible rfl⟩) ‹_› ?_;try simp only[nA,nB,nC,nD,nE]
 refine rd1 6 fun K9 Ky=>?_;go_simp;refine(H2.out _ J.out).mono ?_;rintro e w2 ⟨rfl,kk⟩;have J:=lH (J.out.trans kk);clear kk;refine Ky.out _ _ (HC.out _ J.out) (fun _=>?_);clear Ky K9;try simp only[nA,nB,nC,nD,nE]
 refine tR 7 rfl (by kernel_rfl) (fun _ _ _=>id) (Or.inl ⟨by rfl,by rintro W ⟨o0,o1,o2⟩;go_simp<;>with_reducible rfl⟩) ‹_› ?_;try simp only[nA,nB,nC,nD,nE]
 refine tR 8 rfl (by kernel_rfl) (fun _ _ _=>id) (Or.inl ⟨by rfl,by rintro W ⟨o0,o1,o2⟩;go_simp<;>with_reducible rfl⟩) ‹_› ?_;try simp only[nA,nB,nC,nD,nE]
 refine rd1 11 fun K9 Ky=>?_;go_simp;refine(H3.out _ J.out).mono ?_;rintro e w3 ⟨rfl,kk⟩;have J:=lH (J.out.trans kk);clear kk;refine Ky.out _ _ (HC.out _ J.out) (fun _=>?_);clear Ky K9;try simp only[nA,nB,nC,nD,nE]
 refine tR 12 rfl (by kernel_rfl) (fun _ _ _=>id) (Or.inl ⟨by rfl,by rintro W ⟨o0,o1,o2⟩;go_simp<;>with_reducible rfl⟩) ‹_› ?_;try simp only[nA,nB,nC,nD,nE]
 refine tR 13 rfl (by kernel_rfl) (fun _ _ _=>id) (Or.inl ⟨by rfl,by rintro W ⟨o0,o1,o2⟩;go_simp<;>with_reducible rfl⟩) ‹_› ?_;try simp only[nA,nB,nC,nD,nE]
 refine wpAnyH_done (by kernel_rfl) ?_ _;go_wp2;go_ret;exact⟨Yx HV.out,UL.out.trans J.out⟩
theorem Yn (n:Lad) (v1:Value) (a2:Option Addr) (l2 c2:Nat) (w:World) (hE:Vec.zc w) (h:j7 w v1 (.slice a2 l2 c2) n) (hw:n.what.size≤1000) (hf:Vec.Za n.unit=true) (hn:n.rungs.length≤1000) :
 Calls Tryz.prog 22 #[.agg #[.string n.what,v1,.slice a2 l2 c2,.int .i64 n.lo,.int .i64 n.hi]] w (Say (.string (bytes (Zo n))) w):=by
 obtain⟨W0,hW0⟩:=eX (w.alloc (.cells #[.string n.what,v1,.slice a2 l2 c2,.int .i64 n.lo,.int .i64 n.hi] 26))
 have hk0:Kept w W0:=by rw[←hW0];exact jb _ _
 have HL:=lH (js w (.string n.what) [v1,.slice a2 l2 c2,.int .i64 n.lo,.int .i64 n.hi] 26 W0 (by rw[hW0];exact Kept.refl _));obtain⟨lb,hlb⟩:=eX (w.heap.size)
 rw[hlb] at HL;obtain⟨H1,H2,HE,HK,UL⟩:=lH5 (fun W (k:Kept W0 W)=>Vec.Y5 (hE.kept (hk0.trans k)) (h.unit.kept (hk0.trans k)) hf rfl) (fun W (k:Kept W0 W)=>XS n.lo n.hi W (hE.kept (hk0.trans k)) h.lo h.hi) hE hk0 hk0;obtain⟨a9,c9,e9,q1,q2,hrow⟩:=h.rungs;obtain⟨rfl,rfl,rfl⟩:a2=a9∧l2=n.rungs.length∧c2=c9:=by cases e9;exact⟨rfl,rfl,rfl⟩
 obtain⟨HR,Vy,RM,VJ,RN⟩:=lH5 hrow h.size hw (jaE hf (by obtain⟨_,_,-,-,-,q⟩:=h.unit;exact q.2.2.1)) (jb2 h.lo h.hi);clear h e9 q1 q2 hrow hf hk0 hE;obtain⟨len,hlen⟩:=eX (n.rungs.length)
 have Vj:=lH hlen;rw[hlen] at HL HR hn hW0 ⊢;clear hlen;obtain⟨tu,htu⟩:=eX (bytes (Vec.j0 n.unit))
 obtain⟨tl,htl⟩:=eX (bytes (Jl n.lo n.hi))
 rw[htu] at H1;rw[htl] at H2;have RO:=lH htu;have TB:=lH htl;clear htu htl;have HS:=lH (show ∀W,Kept W0 W→W.cell? ⟨lb,0,none⟩=some (.string n.what)∧W.cell? ⟨lb,1,none⟩=some (v1)∧W.cell? ⟨lb,2,none⟩=some (.slice a2 len c2)∧W.cell? ⟨lb,3,none⟩=some (.int .i64 n.lo)∧W.cell? ⟨lb,4,none⟩=some (.int .i64 n.hi) from fun W k=>(HL.out.kept k).at5);go_enter Tryz.func22,Tryz.ntmps22;go_upto_region 1 with fail
 try rw[hW0]
 try rw[hlb]
 clear hW0
 go_region_held3 (fun W=>W.cell? ⟨lb,0,none⟩=some (.string n.what)∧W.cell? ⟨lb,1,none⟩=some (v1)∧W.cell? ⟨lb,2,none⟩=some (.slice a2 len c2)∧W.cell? ⟨lb,3,none⟩=some (.int .i64 n.lo)∧W.cell? ⟨lb,4,none⟩=some (.int .i64 n.hi))
  (first | exact HS.out _ (Kept.drew _) | exact HS.out _ K1.out | exact HS.out _ K2.out | exact HS.out _ (K2.out.trans (jb _ _)))
  (first | (go_at_call 31;refine(H1.out _ (Kept.drew _)).mono ?_;rintro e1 w1 ⟨rfl,k1⟩;have K1:=lH ((Kept.drew _).trans k1);clear k1)
         | (go_at_call 43;refine(H2.out _ K1.out).mono ?_;rintro e2 w2 ⟨rfl,k2⟩;have K2:=lH (K1.out.trans k2);clear k2))
 obtain⟨HK,TC,Uc⟩:=lH3 (HK.out.trans (K2.out.trans (jb w2 (.cells #[.string n.what,.string tu,.string tl] 9)))) (jaf w2 w2.heap.size (.string n.what) (.string tu) (.string tl) 9 (Nat.le_refl _) rfl rfl rfl) (HS.out _ (K2.out.trans (jb w2 (.cells #[.string n.what,.string tu,.string tl] 9))));obtain⟨w3,hw3⟩:=eX (w2.alloc (.cells #[.string n.what,.string tu,.string tl] 9))
 have RP:=lH (show Kept w2 w3 by rw[←hw3];exact jb _ _);have TD:=lH (show w.heap.size≤w2.heap.size from(UL.out.trans K2.out).size);have Uo:=lH (show w2.heap.size≤w3.heap.size from RP.out.size);rw[hw3] at HK TC Uc ⊢;obtain⟨B,hB⟩:=eX (w2.heap.size)
 have R7:=lH hB;rw[hB] at TC TD Uo ⊢;obtain⟨y0,y1,y2,y3,y4⟩:=Uc.out;clear hw3 hB hlb;obtain⟨ws,hws⟩:∃ws:List ByteArray,n.what::tu::tl::n.rungs.map (fun r=>bytes (zk r))=ws:=⟨_,rfl⟩
 have Ra:=lH (show ws.length=3+len by rw[←hws];simp only[List.length_cons,List.length_map];have:=Vj.out;omega);have RQ:=lH (show ws.take 3=[n.what,tu,tl] by rw[←hws];rfl);have RR:=lH (show ∀k r,n.rungs[k]?=some r→ws[3+k]?=some (bytes (zk r)) from fun k r h=>by
  rw[←hws,show 3+k=k+1+1+1 by omega,List.getElem?_cons_succ,List.getElem?_cons_succ,List.getElem?_cons_succ,List.getElem?_map,h];rfl)
 have TE:=lH hws;clear hws;go_wp2;go_loopw [3,20] (fun sv iv wr=>∃(k g cap:Nat),k≤len∧iv=.int .i64 k∧sv=.slice (some ⟨g,0,none⟩) (3+k) cap∧wr.ownsRow B 9 1 (.slice (some ⟨g,0,none⟩) (3+k) cap) (3+k) ((ws.take (3+k)).map Value.string)∧Below B w3 wr) (fun _ iv _=>len-(intOf iv).toNat)
 case atStart=>exact⟨0,B,3,Nat.zero_le _,rfl,rfl,by rw[Nat.add_zero,RQ.out];exact TC.out,Below.refl _ _⟩
 case round =>
  obtain⟨k,g,cap,hk,rfl,rfl,hown,hK⟩:=hrel;have U3:=lH hown;have Vw:=lH hK;clear hown hK y0 y1 y2 y3 y4;by_cases hlt:k<len
  · skip;skip;obtain⟨b,off,rfl⟩:=HR.out.form.resolve_left (by omega);have UB:=lH (show Kept w wr from Below.trans HK.out (Below.mono Vw.out TD.out));obtain⟨u,c,p,hn2,hd,hb,hfine,p0,p1,p2⟩:=(HR.out.kept UB.out).rung hlt;have hkk:(k:Int)<(len:Int):=by omega
    have HX:=lH (RR.out k _ hn2);obtain⟨w4,hw4⟩:=eX (wr.alloc (.cells #[.int .i64 u,.int .i64 c,.int .i64 p] 46))
    have k4:Kept wr w4:=by rw[←hw4];exact jb _ _
    obtain⟨r0,r1,r2⟩:=(js wr (.int .i64 u) [.int .i64 c,.int .i64 p] 46 w4 (by rw[hw4];exact Kept.refl _)).at3;obtain⟨rb,hrb⟩:=eX (wr.heap.size)
    rw[hrb] at r0 r1 r2;have HT:=lH (fun W (k:Kept w W)=>Xv u c p W (HE.out.kept k) hfine.1 hfine.2.1 hfine.2.2);obtain⟨t,ht⟩:=eX (bytes (zk (u,c,p)))
    rw[ht] at HT HX;have U6:=lH k4;clear hn2 hd hfine ht k4 hb;go_wp2_with fail
    try rw[hw4]
    try rw[hrb]
    clear hw4 hrb;refine(HT.out _ (UB.out.trans U6.out)).mono ?_;rintro e w5 ⟨rfl,k5⟩;have UO:=lH (U6.out.trans k5);clear k5 r0 r1 r2 p0 p1 p2 HT;have hb1:3+k+1≤maxLen:=by unfold maxLen;omega
    have hb2:((3+k+1)+(3+k+1) / 4+192)*16≤281474976710656:=by omega
    have hBs:B≤(w5.alloc (.cells #[.string t] 9)).heap.size:=by have:=UO.out.size;have:=Vw.out.size;have:=Uo.out;simp;omega
    go_wp2_with (at_builtin;refine JV jcJ _ rfl (.tmp 24) (.tmp 27) rfl B hBs g (3+k) cap _ rfl (jam (Xk U3.out UO.out) _) _ 1 [.string t] rfl rfl (fun u hu=>by obtain rfl:=List.mem_singleton.1 hu;rfl) (jce rfl (World.alloc_heap_new w5 _)) hb1 hb2 ?_;intro g1 k1 W1 ho hd hg;have RS:=lH ho;have UU:=lH hd;clear ho hd hg;refine Hid.out ?_)
    refine lH ?_;go_wp2;go_roundw
    case rel=>exact⟨k+1,g1,k1,by omega,by go_num,rfl,by rw[show 3+(k+1)=3+k+1 by omega,qA HX.out,List.map_append];exact RS.out,Below.trans Vw.out (Below.trans (Below.mono (UO.out.trans (jb w5 _)) (by have:=Vw.out.size;have:=Uo.out;omega)) UU.out)⟩
    case measure=>simp[intOf];omega
  · skip;have hkk:¬(k:Int)<(len:Int):=by omega
    obtain rfl:k=len:=by omega
    have hfull:=U3.out;rw[List.take_of_length_le (by rw[Ra.out];exact Nat.le_refl _)] at hfull;obtain⟨hc1,hp1,hcells⟩:=jck hfull;have Rb:=lH (jcm TE.out RO.out TB.out);have HJ:=lH (jaJ hcells hp1 Ra.out hc1 (by omega) (by
     rw[Rb.out];refine Nat.le_trans (YO (zz n) 2000 (jak RM.out VJ.out RN.out (by obtain⟨_,_,q,_⟩:=HR.out;exact q))) ?_;have:(zz n).length=3+k:=by unfold zz;simp only[List.length_cons,List.length_map];have:=Vj.out;omega
     rw[this];have h2:(3+k)*(2000+1)≤1003*2001:=Nat.mul_le_mul (by omega) (by omega);omega))
    rw[Rb.out] at HJ;have UB:=lH (show Kept w wr from Below.trans HK.out (Below.mono Vw.out TD.out));clear hfull hc1 hp1 hcells;go_wp2_with fail
    refine HJ.out.mono ?_;rintro e w5 ⟨rfl,k5⟩;have UO:=lH k5;clear k5;go_wp2;go_ret;exact⟨Yx rfl,UB.out.trans UO.out⟩
end Go.Proofs.YtnfojaidmnccoaaGreatDoor
