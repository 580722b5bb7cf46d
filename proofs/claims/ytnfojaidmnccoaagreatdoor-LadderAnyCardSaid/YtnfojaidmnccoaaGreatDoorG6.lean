/- The law. -/
import Derived.Test.YtnfojaidmnccoaaGreatDoorG0
import Derived.Test.YtnfojaidmnccoaaGreatDoorG2
import Derived.Test.YtnfojaidmnccoaaGreatDoorG3
import Derived.Test.YtnfojaidmnccoaaGreatDoorG4
import Derived.Test.YtnfojaidmnccoaaGreatDoorG5
set_option linter.unusedVariables false
set_option maxRecDepth 100000
set_option maxHeartbeats 25600000
namespace Go.Proofs.YtnfojaidmnccoaaGreatDoor
open Go.RowKit
def zJ (n:Lad):List UInt8:=n.what.data.toList++(32::(Vec.jz n.unit++(32::zn n.lo n.hi)))
def j6 (l:RL):List UInt8:=l.flatMap fun r=>32::jy r
theorem join_cons (x y:List UInt8) (t:List (List UInt8)):Lib.join (x::y::t) [32]=x++(32::Lib.join (y::t) [32]):=by simp[Lib.join,List.intercalate]
theorem YS:∀(l:RL) (x:List UInt8),Lib.join (x::l.map jy) [32]=x++j6 l
 | [],x=>by simp[Lib.join_one,j6]
 | r::t,x=>by
  rw[List.map_cons,join_cons,YS t];simp[j6]
theorem jaO (n:Lad):jQ n=zJ n++j6 n.rungs:=by
 unfold jQ jV;rw[join_cons,join_cons,YS];simp[zJ]
theorem jbG {l:RL} {k:Nat} {r:Int×Int×Int} (h:l[k]?=some r):j6 (l.take (k+1))=j6 (l.take k)++(32::jy r):=by
 rw[Yb h];simp[j6]
theorem zt (l:List UInt8):(bytes l).size=l.length:=by simp[bytes,ByteArray.size]
theorem qa:∀(l:RL),(∀x ∈ l,jt.fine x)→(j6 l).length≤101*l.length
 | [],_=>by simp[j6]
 | r::t,h=>by
  have h1:=h r (by simp);have h2:=Xv h1.1 h1.2.1 h1.2.2;have ih:=qa t (fun x hx=>h x (by simp[hx]));have e:j6 (r::t)=(32::jy r)++j6 t:=by simp[j6]
  rw[e,List.length_append,List.length_cons,List.length_cons];omega
theorem jai (S:List UInt8) (u c p:Int):bytes S++⟨#[32]⟩++bytes (Lib.itoa u)++⟨#[58]⟩++bytes (Lib.itoa c)++⟨#[58]⟩++bytes (Lib.itoa p)=bytes (S++(32::jy (u,c,p))):=by
 apply Go.WideShapes.bytes_inj;simp[bytes,jy,ByteArray.data_append]
theorem Yf (n:Lad):n.what++⟨#[32]⟩++bytes (Vec.jz n.unit)++⟨#[32]⟩++bytes (Lib.itoa n.lo)++⟨#[47]⟩++bytes (Lib.itoa n.hi)=bytes (zJ n):=by
 apply Go.WideShapes.bytes_inj;simp[bytes,zJ,zn,ByteArray.data_append]
theorem qk (n:Lad) (v1 v2:Value) (w:World) (h:jL w v1 v2 n) (hw:n.what.size≤1000) (hf:Vec.j4 n.unit=true) (hn:n.rungs.length≤1000):Calls Tryz.prog 23 #[zz n v1 v2] w (Say (.string (bytes (jQ n))) w):=by
 obtain⟨a2,c2,rfl,-,-,hr⟩:=id h.rungs;obtain⟨len,hlen⟩:=eX (n.rungs.length)
 rw[hlen] at hr hn;unfold zz;rw[hlen];obtain⟨Vd,HR,Rj⟩:=lH3 hlen hr (show ∀x ∈ n.rungs,jt.fine x from h.rungs.fine);obtain⟨W0,hW0⟩:=eX (w.alloc (.cells #[.string n.what,v1,.slice a2 len c2,.int .i64 n.lo,.int .i64 n.hi] 35))
 have hk0:Kept w W0:=by rw[←hW0];exact ja _ _
 obtain⟨Q,hQ⟩:=eX (w.heap.size)
 obtain⟨HC,UG,Ua,Ut⟩:=lH4 (show ∀W,Kept W0 W→W.cell? ⟨Q,0,none⟩=some (.string n.what)∧W.cell? ⟨Q,1,none⟩=some (v1)∧W.cell? ⟨Q,2,none⟩=some (.slice a2 len c2)∧W.cell? ⟨Q,3,none⟩=some (.int .i64 n.lo)∧W.cell? ⟨Q,4,none⟩=some (.int .i64 n.hi) from fun W k=>by rw[←hQ];exact(jf w (.string n.what) [v1,.slice a2 len c2,.int .i64 n.lo,.int .i64 n.hi] 35 W (by rw[hW0];exact k)).at5) (fun W (k:Kept W0 W)=>Vec.jcH (h.unit.kept (hk0.trans k)) hf rfl) (fun W=>Vec.zk n.lo W h.lo.1 h.lo.2) (fun W=>Vec.zk n.hi W h.hi.1 h.hi.2);have sA:(bytes (Vec.jz n.unit)).size≤2000:=by rw[zt];exact Zl hf (by obtain⟨_,_,-,-,-,q⟩:=h.unit;exact q.2.2.1)
 have sP:(bytes (Lib.itoa n.lo)).size≤100:=by rw[zt];have:=Lib.itoa_length_le n.lo h.lo.1 h.lo.2;omega
 have sQ:(bytes (Lib.itoa n.hi)).size≤100:=by rw[zt];have:=Lib.itoa_length_le n.hi h.hi.1 h.hi.2;omega
 have UR:=lH (Yf n);have Rk:=lH (jaO n);have Rl:=lH (show (zJ n).length≤4000 by
  rw[←zt,←Yf];have z1:(⟨#[32]⟩:ByteArray).size=1:=rfl;have z2:(⟨#[47]⟩:ByteArray).size=1:=rfl;rw[ByteArray.size_append,ByteArray.size_append,ByteArray.size_append,ByteArray.size_append,ByteArray.size_append,ByteArray.size_append];omega)
 obtain⟨A,hA⟩:=eX (bytes (Vec.jz n.unit))
 obtain⟨P,hP⟩:=eX (bytes (Lib.itoa n.lo))
 obtain⟨G,hG⟩:=eX (bytes (Lib.itoa n.hi))
 rw[hA] at UG sA UR;rw[hP] at Ua sP UR;rw[hG] at Ut sQ UR;have adz:(⟨#[32]⟩:ByteArray).size=1:=rfl;have adz2:(⟨#[47]⟩:ByteArray).size=1:=rfl;have ad1:∀W,(Op.stringOp .add (n.what) (⟨#[32]⟩:ByteArray)).run Tryz.prog W=.ok (.string (n.what++(⟨#[32]⟩:ByteArray))) W:=fun W=>run_string_add_sum W _ _ (by omega);have ad2:∀W,(Op.stringOp .add (n.what++(⟨#[32]⟩:ByteArray)) A).run Tryz.prog W=.ok (.string (n.what++(⟨#[32]⟩:ByteArray)++A)) W:=fun W=>run_string_add_sum W _ _ (by rw[ByteArray.size_append];omega);have ad3:∀W,(Op.stringOp .add (n.what++(⟨#[32]⟩:ByteArray)++A) (⟨#[32]⟩:ByteArray)).run Tryz.prog W=.ok (.string (n.what++(⟨#[32]⟩:ByteArray)++A++(⟨#[32]⟩:ByteArray))) W:=fun W=>run_string_add_sum W _ _ (by rw[ByteArray.size_append,ByteArray.size_append];omega);have ad4:∀W,(Op.stringOp .add (n.what++(⟨#[32]⟩:ByteArray)++A++(⟨#[32]⟩:ByteArray)) P).run Tryz.prog W=.ok (.string (n.what++(⟨#[32]⟩:ByteArray)++A++(⟨#[32]⟩:ByteArray)++P)) W:=fun W=>run_string_add_sum W _ _ (by rw[ByteArray.size_append,ByteArray.size_append,ByteArray.size_append];omega);have ad5:∀W,(Op.stringOp .add (n.what++(⟨#[32]⟩:ByteArray)++A++(⟨#[32]⟩:ByteArray)++P) (⟨#[47]⟩:ByteArray)).run Tryz.prog W=.ok (.string (n.what++(⟨#[32]⟩:ByteArray)++A++(⟨#[32]⟩:ByteArray)++P++(⟨#[47]⟩:ByteArray))) W:=fun W=>run_string_add_sum W _ _ (by rw[ByteArray.size_append,ByteArray.size_append,ByteArray.size_append,ByteArray.size_append];omega);have ad6:∀W,(Op.stringOp .add (n.what++(⟨#[32]⟩:ByteArray)++A++(⟨#[32]⟩:ByteArray)++P++(⟨#[47]⟩:ByteArray)) G).run Tryz.prog W=.ok (.string (n.what++(⟨#[32]⟩:ByteArray)++A++(⟨#[32]⟩:ByteArray)++P++(⟨#[47]⟩:ByteArray)++G)) W:=fun W=>run_string_add_sum W _ _ (by rw[ByteArray.size_append,ByteArray.size_append,ByteArray.size_append,ByteArray.size_append,ByteArray.size_append];omega);clear hA hP hG sA sP sQ adz adz2 h hw;have K0:=lH hk0;clear hr hk0 hlen;go_enter Tryz.func23,Tryz.ntmps23;go_upto_region 1 with fail
 try rw[hW0]
 try rw[hQ]
 clear hW0 hQ;have HS:=lH (show ∀W,Kept W0 W→W.cell? ⟨Q,0,none⟩=some (.string n.what)∧W.cell? ⟨Q,1,none⟩=some v1∧W.cell? ⟨Q,3,none⟩=some (.int .i64 n.lo)∧W.cell? ⟨Q,4,none⟩=some (.int .i64 n.hi) from fun W k=>⟨(HC.out W k).1,(HC.out W k).2.1,(HC.out W k).2.2.2.1,(HC.out W k).2.2.2.2⟩);obtain⟨wd,hwd⟩:=eX (W0.drew)
 have kd:Kept W0 wd:=by rw[←hwd];exact Kept.drew W0
 have J:=lH kd;refine wp_region_held_drew (S:=fun W=>W.cell? ⟨Q,0,none⟩=some (.string n.what)∧W.cell? ⟨Q,1,none⟩=some v1∧W.cell? ⟨Q,3,none⟩=some (.int .i64 n.lo)∧W.cell? ⟨Q,4,none⟩=some (.int .i64 n.hi)) (by kernel_rfl) (by rw[hwd];exact HS.out _ kd) (fun hHeld=>?_);rw[hwd] at hHeld;try rw[hwd]
 clear hwd kd;refine tR 0 rfl (by kernel_rfl) (fun _ _ _=>id) (Or.inl ⟨by rfl,by rintro W ⟨o0,o1,o2,o3⟩;go_simp<;>with_reducible rfl⟩) ‹_› ?_;try simp only[nA,nB,nC,nD,nE]
 refine tR 1 rfl (by kernel_rfl) (fun _ _ _=>id) (Or.inl ⟨by rfl,by rintro W ⟨o0,o1,o2,o3⟩;go_simp<;>with_reducible rfl⟩) ‹_› ?_;try simp only[nA,nB,nC,nD,nE]
 refine tR 2 rfl (by kernel_rfl) (fun _ _ _=>id) (Or.inl ⟨by rfl,by rintro W ⟨o0,o1,o2,o3⟩;go_simp<;>with_reducible rfl⟩) ‹_› ?_;try simp only[nA,nB,nC,nD,nE]
 refine tR 3 rfl (by kernel_rfl) (fun _ _ _=>id) (Or.inl ⟨by rfl,by rintro W ⟨o0,o1,o2,o3⟩;go_simp<;>with_reducible rfl⟩) ‹_› ?_;try simp only[nA,nB,nC,nD,nE]
 refine tR 4 rfl (by kernel_rfl) (fun _ _ _=>id) (Or.inl ⟨by rfl,by rintro W ⟨o0,o1,o2,o3⟩;go_simp<;>with_reducible rfl⟩) ‹_› ?_;try simp only[nA,nB,nC,nD,nE]
 refine tR 8 rfl (by kernel_rfl) (fun _ _ _=>id) (Or.inl ⟨by rfl,by rintro W ⟨o0,o1,o2,o3⟩;go_simp<;>with_reducible rfl⟩) ‹_› ?_;try simp only[nA,nB,nC,nD,nE]
 refine tR 9 rfl (by kernel_rfl) (fun _ _ _=>id) (Or.inl ⟨by rfl,by rintro W ⟨o0,o1,o2,o3⟩;go_simp<;>with_reducible rfl⟩) ‹_› ?_;try simp only[nA,nB,nC,nD,nE]
 refine tR 13 rfl (by kernel_rfl) (fun _ _ _=>id) (Or.inl ⟨by rfl,by rintro W ⟨o0,o1,o2,o3⟩;go_simp<;>with_reducible rfl⟩) ‹_› ?_;try simp only[nA,nB,nC,nD,nE]
 refine tR 14 rfl (by kernel_rfl) (fun _ _ _=>id) (Or.inl ⟨by rfl,by rintro W ⟨o0,o1,o2,o3⟩;go_simp<;>with_reducible rfl⟩) ‹_› ?_;try simp only[nA,nB,nC,nD,nE]
 refine rd1 5 fun K9 Ky=>?_;go_simp;refine(UG.out _ J.out).mono ?_;rintro e1 w1 ⟨rfl,kk⟩;have J:=lH ((J.out).trans kk);clear kk;refine Ky.out _ _ (HS.out _ J.out) (fun _=>?_);clear Ky K9;try simp only[nA,nB,nC,nD,nE]
 refine tR 6 rfl (by kernel_rfl) (fun _ _ _=>id) (Or.inl ⟨by rfl,by rintro W ⟨o0,o1,o2,o3⟩;go_simp<;>with_reducible rfl⟩) ‹_› ?_;try simp only[nA,nB,nC,nD,nE]
 refine tR 7 rfl (by kernel_rfl) (fun _ _ _=>id) (Or.inl ⟨by rfl,by rintro W ⟨o0,o1,o2,o3⟩;go_simp<;>with_reducible rfl⟩) ‹_› ?_;try simp only[nA,nB,nC,nD,nE]
 refine rd1 10 fun K9 Ky=>?_;go_simp;refine(Ua.out _).mono ?_;rintro e2 w2 ⟨rfl,kk⟩;have J:=lH ((J.out).trans kk);clear kk;refine Ky.out _ _ (HS.out _ J.out) (fun _=>?_);clear Ky K9;try simp only[nA,nB,nC,nD,nE]
 refine tR 11 rfl (by kernel_rfl) (fun _ _ _=>id) (Or.inl ⟨by rfl,by rintro W ⟨o0,o1,o2,o3⟩;go_simp<;>with_reducible rfl⟩) ‹_› ?_;try simp only[nA,nB,nC,nD,nE]
 refine tR 12 rfl (by kernel_rfl) (fun _ _ _=>id) (Or.inl ⟨by rfl,by rintro W ⟨o0,o1,o2,o3⟩;go_simp<;>with_reducible rfl⟩) ‹_› ?_;try simp only[nA,nB,nC,nD,nE]
 refine rd1 15 fun K9 Ky=>?_;go_simp;refine(Ut.out _).mono ?_;rintro e3 w3 ⟨rfl,kk⟩;have J:=lH ((J.out).trans kk);clear kk;refine Ky.out _ _ (HS.out _ J.out) (fun _=>?_);clear Ky K9;try simp only[nA,nB,nC,nD,nE]
 refine tR 16 rfl (by kernel_rfl) (fun _ _ _=>id) (Or.inl ⟨by rfl,by rintro W ⟨o0,o1,o2,o3⟩;go_simp<;>with_reducible rfl⟩) ‹_› ?_;try simp only[nA,nB,nC,nD,nE]
 refine tR 17 rfl (by kernel_rfl) (fun _ _ _=>id) (Or.inl ⟨by rfl,by rintro W ⟨o0,o1,o2,o3⟩;go_simp<;>with_reducible rfl⟩) ‹_› ?_;try simp only[nA,nB,nC,nD,nE]
 refine wpAnyH_done (by kernel_rfl) ?_ _;rw[UR.out];go_wp2;have Rm:=lH (show zJ n++j6 (n.rungs.take 0)=zJ n by simp[j6]);clear ad1 ad2 ad3 ad4 ad5 ad6;go_loopw [3,4] (fun s i wr=>∃k:Nat,k≤len∧s=.string (bytes (zJ n++j6 (n.rungs.take k)))∧i=.int .i64 k∧Kept W0 wr) (fun _ i _=>len-(intOf i).toNat)
 case atStart=>exact⟨0,Nat.zero_le _,by rw[Rm.out],rfl,J.out⟩
 case round =>
  obtain⟨k,hk,rfl,rfl,hJ⟩:=hrel;have J:=lH hJ;clear hJ;obtain⟨o0,o1,o2,o3,o4⟩:=HC.out _ J.out;by_cases hlt:k<len
  · obtain⟨b,off,rfl⟩:∃b off,a2=some ⟨b,off,none⟩:=by rcases HR.out.form with h | h;omega;exact h
    obtain⟨u,c,p,hn9,hd9,hb9,hf9,c0,c1x,c2x⟩:=(HR.out.kept (K0.out.trans J.out)).rung hlt;have hkk:(k:Int)<(len:Int):=by omega
    have Uc:=lH (jbG hn9);have TC:=lH (show (zJ n++j6 (n.rungs.take k)).length≤4000+101*k by
     have h1:=qa (n.rungs.take k) (fun x hx=>Rj.out x (List.mem_of_mem_take hx));have h2:(n.rungs.take k).length≤k:=by rw[List.length_take];omega
     have h3:=Rl.out;rw[List.length_append];omega)
    obtain⟨SL,hSL⟩:=eX (zJ n++j6 (n.rungs.take k))
    have Rn:=lH hSL;rw[hSL] at TC;rw[hSL];have TD:=lH (jai SL u c p);have sS:(bytes SL).size≤4000+101*k:=by rw[zt];exact TC.out
    have su:(bytes (Lib.itoa u)).size≤100:=by rw[zt];have:=Lib.itoa_length_le u hf9.1.1 hf9.1.2;omega
    have sc:(bytes (Lib.itoa c)).size≤100:=by rw[zt];have:=Lib.itoa_length_le c hf9.2.1.1 hf9.2.1.2;omega
    have sp:(bytes (Lib.itoa p)).size≤100:=by rw[zt];have:=Lib.itoa_length_le p hf9.2.2.1 hf9.2.2.2;omega
    obtain⟨TE,TF,TG⟩:=lH3 (fun W=>Vec.zk u W hf9.1.1 hf9.1.2) (fun W=>Vec.zk c W hf9.2.1.1 hf9.2.1.2) (fun W=>Vec.zk p W hf9.2.2.1 hf9.2.2.2);obtain⟨S,hS⟩:=eX (bytes SL)
    obtain⟨U,hU⟩:=eX (bytes (Lib.itoa u))
    obtain⟨C,hC⟩:=eX (bytes (Lib.itoa c))
    obtain⟨D,hD⟩:=eX (bytes (Lib.itoa p))
    rw[hS,hU,hC,hD] at TD;rw[hS] at sS;rw[hU] at su TE;rw[hC] at sc TF;rw[hD] at sp TG;rw[hS];have adz:(⟨#[32]⟩:ByteArray).size=1:=rfl;have adz2:(⟨#[58]⟩:ByteArray).size=1:=rfl;have ad1:∀W,(Op.stringOp .add (S) (⟨#[32]⟩:ByteArray)).run Tryz.prog W=.ok (.string (S++(⟨#[32]⟩:ByteArray))) W:=fun W=>run_string_add_sum W _ _ (by omega);have ad2:∀W,(Op.stringOp .add (S++(⟨#[32]⟩:ByteArray)) U).run Tryz.prog W=.ok (.string (S++(⟨#[32]⟩:ByteArray)++U)) W:=fun W=>run_string_add_sum W _ _ (by rw[ByteArray.size_append];omega);have ad3:∀W,(Op.stringOp .add (S++(⟨#[32]⟩:ByteArray)++U) (⟨#[58]⟩:ByteArray)).run Tryz.prog W=.ok (.string (S++(⟨#[32]⟩:ByteArray)++U++(⟨#[58]⟩:ByteArray))) W:=fun W=>run_string_add_sum W _ _ (by rw[ByteArray.size_append,ByteArray.size_append];omega);have ad4:∀W,(Op.stringOp .add (S++(⟨#[32]⟩:ByteArray)++U++(⟨#[58]⟩:ByteArray)) C).run Tryz.prog W=.ok (.string (S++(⟨#[32]⟩:ByteArray)++U++(⟨#[58]⟩:ByteArray)++C)) W:=fun W=>run_string_add_sum W _ _ (by rw[ByteArray.size_append,ByteArray.size_append,ByteArray.size_append];omega);have ad5:∀W,(Op.stringOp .add (S++(⟨#[32]⟩:ByteArray)++U++(⟨#[58]⟩:ByteArray)++C) (⟨#[58]⟩:ByteArray)).run Tryz.prog W=.ok (.string (S++(⟨#[32]⟩:ByteArray)++U++(⟨#[58]⟩:ByteArray)++C++(⟨#[58]⟩:ByteArray))) W:=fun W=>run_string_add_sum W _ _ (by rw[ByteArray.size_append,ByteArray.size_append,ByteArray.size_append,ByteArray.size_append];omega);have ad6:∀W,(Op.stringOp .add (S++(⟨#[32]⟩:ByteArray)++U++(⟨#[58]⟩:ByteArray)++C++(⟨#[58]⟩:ByteArray)) D).run Tryz.prog W=.ok (.string (S++(⟨#[32]⟩:ByteArray)++U++(⟨#[58]⟩:ByteArray)++C++(⟨#[58]⟩:ByteArray)++D)) W:=fun W=>run_string_add_sum W _ _ (by rw[ByteArray.size_append,ByteArray.size_append,ByteArray.size_append,ByteArray.size_append,ByteArray.size_append];omega);clear hS hU hC hD hSL sS su sc sp adz adz2 hn9 hd9 hb9 hf9;obtain⟨W2,hW2⟩:=eX (wr.alloc (.cells #[.int .i64 u,.int .i64 c,.int .i64 p] 49))
    have k2:Kept wr W2:=by rw[←hW2];exact ja _ _
    obtain⟨Q2,hQ2⟩:=eX (wr.heap.size)
    obtain⟨HB,J,EW2,EQ2⟩:=lH4 (show ∀W,Kept W2 W→W.cell? ⟨Q2,0,none⟩=some (.int .i64 u)∧W.cell? ⟨Q2,1,none⟩=some (.int .i64 c)∧W.cell? ⟨Q2,2,none⟩=some (.int .i64 p) from fun W k=>by rw[←hQ2];exact(jf wr (.int .i64 u) [.int .i64 c,.int .i64 p] 49 W (by rw[hW2];exact k)).at3) (J.out.trans k2) hW2 hQ2;clear hW2 hQ2 k2;go_wp2_with fail
    try rw[EW2.out]
    try rw[EQ2.out]
    clear o0 o1 o2 o3 o4 c0 c1x c2x;obtain⟨wd2,hwd⟩:=eX (W2.drew)
    have kd:Kept W2 wd2:=by rw[←hwd];exact Kept.drew W2
    have JJ:=lH kd;refine wp_region_held_drew (S:=fun W=>W.cell? ⟨Q2,0,none⟩=some (.int .i64 u)∧W.cell? ⟨Q2,1,none⟩=some (.int .i64 c)∧W.cell? ⟨Q2,2,none⟩=some (.int .i64 p)) (by kernel_rfl) (by rw[hwd];exact HB.out _ kd) (fun hHeld=>?_);rw[hwd] at hHeld;try rw[hwd]
    clear hwd kd;refine tR 0 rfl (by kernel_rfl) (fun _ _ _=>id) (Or.inl ⟨by rfl,by rintro W ⟨o0,o1,o2⟩;go_simp<;>with_reducible rfl⟩) ‹_› ?_;try simp only[nA,nB,nC,nD,nE]
    refine tR 1 rfl (by kernel_rfl) (fun _ _ _=>id) (Or.inl ⟨by rfl,by rintro W ⟨o0,o1,o2⟩;go_simp<;>with_reducible rfl⟩) ‹_› ?_;try simp only[nA,nB,nC,nD,nE]
    refine tR 2 rfl (by kernel_rfl) (fun _ _ _=>id) (Or.inl ⟨by rfl,by rintro W ⟨o0,o1,o2⟩;go_simp<;>with_reducible rfl⟩) ‹_› ?_;try simp only[nA,nB,nC,nD,nE]
    refine tR 3 rfl (by kernel_rfl) (fun _ _ _=>id) (Or.inl ⟨by rfl,by rintro W ⟨o0,o1,o2⟩;go_simp<;>with_reducible rfl⟩) ‹_› ?_;try simp only[nA,nB,nC,nD,nE]
    refine tR 7 rfl (by kernel_rfl) (fun _ _ _=>id) (Or.inl ⟨by rfl,by rintro W ⟨o0,o1,o2⟩;go_simp<;>with_reducible rfl⟩) ‹_› ?_;try simp only[nA,nB,nC,nD,nE]
    refine tR 8 rfl (by kernel_rfl) (fun _ _ _=>id) (Or.inl ⟨by rfl,by rintro W ⟨o0,o1,o2⟩;go_simp<;>with_reducible rfl⟩) ‹_› ?_;try simp only[nA,nB,nC,nD,nE]
    refine tR 12 rfl (by kernel_rfl) (fun _ _ _=>id) (Or.inl ⟨by rfl,by rintro W ⟨o0,o1,o2⟩;go_simp<;>with_reducible rfl⟩) ‹_› ?_;try simp only[nA,nB,nC,nD,nE]
    refine tR 13 rfl (by kernel_rfl) (fun _ _ _=>id) (Or.inl ⟨by rfl,by rintro W ⟨o0,o1,o2⟩;go_simp<;>with_reducible rfl⟩) ‹_› ?_;try simp only[nA,nB,nC,nD,nE]
    refine rd1 4 fun K9 Ky=>?_;go_simp;refine(TE.out _).mono ?_;rintro e1 w4 ⟨rfl,kk⟩;have JJ:=lH ((JJ.out).trans kk);clear kk;refine Ky.out _ _ (HB.out _ JJ.out) (fun _=>?_);clear Ky K9;try simp only[nA,nB,nC,nD,nE]
    refine tR 5 rfl (by kernel_rfl) (fun _ _ _=>id) (Or.inl ⟨by rfl,by rintro W ⟨o0,o1,o2⟩;go_simp<;>with_reducible rfl⟩) ‹_› ?_;try simp only[nA,nB,nC,nD,nE]
    refine tR 6 rfl (by kernel_rfl) (fun _ _ _=>id) (Or.inl ⟨by rfl,by rintro W ⟨o0,o1,o2⟩;go_simp<;>with_reducible rfl⟩) ‹_› ?_;try simp only[nA,nB,nC,nD,nE]
    refine rd1 9 fun K9 Ky=>?_;go_simp;refine(TF.out _).mono ?_;rintro e2 w5 ⟨rfl,kk⟩;have JJ:=lH ((JJ.out).trans kk);clear kk;refine Ky.out _ _ (HB.out _ JJ.out) (fun _=>?_);clear Ky K9;try simp only[nA,nB,nC,nD,nE]
    refine tR 10 rfl (by kernel_rfl) (fun _ _ _=>id) (Or.inl ⟨by rfl,by rintro W ⟨o0,o1,o2⟩;go_simp<;>with_reducible rfl⟩) ‹_› ?_;try simp only[nA,nB,nC,nD,nE]
    refine tR 11 rfl (by kernel_rfl) (fun _ _ _=>id) (Or.inl ⟨by rfl,by rintro W ⟨o0,o1,o2⟩;go_simp<;>with_reducible rfl⟩) ‹_› ?_;try simp only[nA,nB,nC,nD,nE]
    refine rd1 14 fun K9 Ky=>?_;go_simp;refine(TG.out _).mono ?_;rintro e3 w6 ⟨rfl,kk⟩;have JJ:=lH ((JJ.out).trans kk);clear kk;refine Ky.out _ _ (HB.out _ JJ.out) (fun _=>?_);clear Ky K9;try simp only[nA,nB,nC,nD,nE]
    refine tR 15 rfl (by kernel_rfl) (fun _ _ _=>id) (Or.inl ⟨by rfl,by rintro W ⟨o0,o1,o2⟩;go_simp<;>with_reducible rfl⟩) ‹_› ?_;try simp only[nA,nB,nC,nD,nE]
    refine tR 16 rfl (by kernel_rfl) (fun _ _ _=>id) (Or.inl ⟨by rfl,by rintro W ⟨o0,o1,o2⟩;go_simp<;>with_reducible rfl⟩) ‹_› ?_;try simp only[nA,nB,nC,nD,nE]
    refine wpAnyH_done (by kernel_rfl) ?_ _;go_wp2;try go_roundw
    try case rel=>exact⟨k+1,by omega,by rw[TD.out,Uc.out,←List.append_assoc,Rn.out],by go_num,J.out.trans JJ.out⟩
    try case measure=>simp[intOf];omega
  · have hkk:¬(k:Int)<(len:Int):=by omega
    have HE:=lH (show zJ n++j6 (n.rungs.take k)=jQ n by rw[Rk.out,List.take_of_length_le (by rw[Vd.out];omega)]);go_wp2;go_ret;exact⟨by rw[HE.out];rfl,K0.out.trans J.out⟩
end Go.Proofs.YtnfojaidmnccoaaGreatDoor
namespace Go.Proofs.YtnfojaidmnccoaaGreatDoor.Vec
open Go.RowKit Go.Proofs.YtnfojaidmnccoaaGreatDoor
theorem jbD:∀d,d<10→jB (UInt8.ofNat (48+d))=true∧(UInt8.ofNat (48+d)).toNat-48=d:=by decide
theorem jcy {u:Nat} (h:¬u<10):Lib.decDigits u=Lib.decDigits (u / 10)++[UInt8.ofNat (48+u % 10)]:=by rw[Lib.decDigits,dif_neg h]
theorem YB:∀(n u:Nat),u≤n→(Lib.decDigits u).all jB=true∧valL (Lib.decDigits u)=u∧∃c t,Lib.decDigits u=c::t∧(c=48→u=0)
 | n,u,h=>by
  by_cases h10:u<10
  · rw[Lib.decDigits,dif_pos h10];obtain⟨d1,d2⟩:=jbD u h10;refine⟨by rw[List.all_cons,d1];rfl,?_,_,[],rfl,?_⟩
    · show 0*10+((UInt8.ofNat (48+u)).toNat-48)=u;omega
    · intro e;rw[e] at d2;have:(48:UInt8).toNat-48=0:=by decide
      omega
  · obtain⟨n',rfl⟩:∃m,n=m+1:=⟨n-1,by omega⟩
    obtain⟨i1,i2,c,t,i3,i4⟩:=YB n' (u / 10) (by omega);obtain⟨d1,d2⟩:=jbD (u % 10) (Nat.mod_lt _ (by decide));rw[jcy h10];refine⟨by rw[List.all_append,i1,List.all_cons,d1];rfl,?_,c,t++[_],by rw[i3];rfl,fun e=>by have:=i4 e;omega⟩;show j8 0 (_++[_])=u;rw[Zp,d2];have:j8 0 (Lib.decDigits (u / 10))=u / 10:=i2;omega
theorem jby (u:Nat):jm (Lib.decDigits u)=true∧valL (Lib.decDigits u)=u:=by
 obtain⟨h1,h2,c,t,h3,h4⟩:=YB u u (Nat.le_refl _);refine⟨?_,h2⟩;rw[h3] at h1 ⊢;rw[zm,h1,Bool.and_true];by_cases e:c=48
 · have hu:=h4 e;subst hu;have:Lib.decDigits 0=[48]:=by rw[Lib.decDigits,dif_pos (by decide)];rfl
   rw[this] at h3;injection h3 with _ h5;rw[←h5];simp
 · have:(c==48)=false:=by simpa using e
   rw[this];rfl
theorem Xu {u:Nat} {b:UInt8} (h:b ∈ Lib.decDigits u):jB b=true:=List.all_eq_true.1 (YB u u (Nat.le_refl _)).1 b h
def partOf (x:ByteArray×Int):List UInt8:=x.1.data.toList++61::Lib.itoa x.2
theorem jcu {x:ByteArray} (h:isName x=true):(61:UInt8) ∉ x.data.toList:=fun e=>absurd (J6 h _ e) (by decide)
theorem zH {x:ByteArray×Int} (hn:isName x.1=true) (h0:0<x.2):jr (partOf x)=x∧jm (jk (partOf x))=true∧valL (jk (partOf x))=x.2.toNat∧(44:UInt8) ∉ partOf x:=by
 obtain⟨nm,q⟩:=x;dsimp only at hn h0;obtain⟨u,rfl⟩:∃u:Nat,q=(u:Int):=⟨q.toNat,by omega⟩
 have hc:Lib.cut (partOf (nm,(u:Int))) [61]=(nm.data.toList,Lib.itoa (u:Int),true):=Zy _ (jcu hn);have hi:Lib.itoa (u:Int)=Lib.decDigits u:=by unfold Lib.itoa;rw[if_neg (by omega)];rfl
 have hnum:jk (partOf (nm,(u:Int)))=Lib.decDigits u:=by unfold jk;rw[hc,←hi]
 have hnam:nameOf (partOf (nm,(u:Int)))=nm.data.toList:=by unfold nameOf;rw[hc]
 obtain⟨d1,d2⟩:=jby u;refine⟨?_,by rw[hnum];exact d1,by rw[hnum,d2];simp,?_⟩
 · unfold jr;rw[hnum,hnam,d2,J4]
 · intro e;unfold partOf at e;rcases List.mem_append.1 e with e | e
   · exact(YC hn).2.2 e
   · rcases List.mem_cons.1 e with e | e
     · exact absurd e (by decide)
     · rw[hi] at e;exact absurd (Xu e) (by decide)
theorem Jz {l:V} (h:jc l=0):∀x ∈ l,isName x.1=true∧0<x.2:=by
 have h2:jo none l=0:=by
  unfold jc at h;split at h
  · cases h
  · exact h
 have key:∀(l:V) (p:Option ByteArray),jo p l=0→∀x ∈ l,isName x.1=true∧0<x.2:=by
  intro l
  induction l with
  | nil=>intro p _ x hx;cases hx
  | cons y t ih =>
   intro p hp x hx;rw[jo] at hp;by_cases c1:isName y.1=false
   · rw[if_pos c1] at hp;cases hp
   · rw[if_neg c1] at hp;by_cases c2:y.2≤0
     · rw[if_pos c2] at hp;cases hp
     · rw[if_neg c2] at hp;by_cases c3:zG p y.1=true
       · rw[if_pos c3] at hp;cases hp
       · rw[if_neg c3] at hp;rcases List.mem_cons.1 hx with rfl | hx
         · exact⟨by simpa using c1,by omega⟩
         · exact ih _ hp x hx
 exact key l none h2
theorem jap {l:V} (h:jc l=0):(l.map partOf).map jr=l:=by
 have hp:=Jz h;rw[List.map_map];refine(List.map_congr_left fun x hx=>?_).trans (List.map_id l);exact(zH (hp x hx).1 (hp x hx).2).1
theorem jbt {l:V} (h:jc l=0) (h0:l≠[]):jz l=Lib.join (l.map partOf) [44]:=by
 have hp:=Jz h;have hm:=jap h;have hd:∀p ∈ l.map partOf,jm (jk p)=true:=by
  intro p hx;obtain⟨x,hxl,rfl⟩:=List.mem_map.1 hx;exact(zH (hp x hxl).1 (hp x hxl).2).2.1
 unfold jz;rw[if_neg h0]
 cases l with
 | nil=>exact absurd rfl h0
 | cons x t =>
  have:=(Je (t.map partOf) (fun p hx=>hd p (List.mem_cons_of_mem _ hx)) (partOf x) (hd _ (List.mem_cons_self ..))).1;rw[←List.map_cons] at this;rw[hm] at this;exact this
theorem Zh {l:V} (h:jc l=0) (hf:j2 l):zh (jz l)=(0,l):=by
 by_cases h0:l=[]
 · subst h0;rfl
 · have hp:=Jz h;have hl:=JC h;have hm:(l.map partOf).map jr=l:=by
    rw[List.map_map];refine(List.map_congr_left fun x hx=>?_).trans (List.map_id l);exact(zH (hp x hx).1 (hp x hx).2).1
   have hd:∀p ∈ l.map partOf,jm (jk p)=true:=by
    intro p hx;obtain⟨x,hxl,rfl⟩:=List.mem_map.1 hx;exact(zH (hp x hxl).1 (hp x hxl).2).2.1
   have hc:∀p ∈ l.map partOf,(44:UInt8) ∉ p:=by
    intro p hx;obtain⟨x,hxl,rfl⟩:=List.mem_map.1 hx;exact(zH (hp x hxl).1 (hp x hxl).2).2.2.2
   have ht:jz l=Lib.join (l.map partOf) [44]:=by
    unfold jz;rw[if_neg h0]
    cases l with
    | nil=>exact absurd rfl h0
    | cons x t =>
     have:=(Je (t.map partOf) (fun p hx=>hd p (List.mem_cons_of_mem _ hx)) (partOf x) (hd _ (List.mem_cons_self ..))).1;rw[←List.map_cons] at this;rw[hm] at this;exact this
   have hps:partsOf (jz l)=l.map partOf:=by rw[ht];exact JX _ (by simpa using h0) hc
   have h45:jz l≠[45]:=by
    intro e;rw[e] at hps
    cases l with
    | nil=>exact h0 rfl
    | cons x t =>
     have e2:partsOf [45]=[[45]]:=rfl;rw[e2,List.map_cons] at hps;injection hps with e3 _;have:(61:UInt8) ∈ ([45]:List UInt8):=by rw[e3];unfold partOf;simp
     exact absurd this (by decide)
   have hv:∀x ∈ l,x.2≤9223372036854775807:=fun x hx=>by
    obtain⟨i,hi⟩:=List.getElem?_of_mem hx;have hlt:=(List.getElem?_eq_some_iff.1 hi).1;have:=(hf i hlt).2.2;unfold qn at this;rw[List.getD,hi] at this;exact this
   have hfb:zX (l.map partOf)=false:=by
    unfold zX;rw[List.any_eq_false];intro p hx;rw[hd p hx];decide
   have hob:zY (l.map partOf)=false:=by
    unfold zY;rw[List.any_eq_false];intro p hx;obtain⟨x,hxl,rfl⟩:=List.mem_map.1 hx;rw[(zH (hp x hxl).1 (hp x hxl).2).2.2.1];have:=hv x hxl;have:=(hp x hxl).2;simp;omega
   have htk:((l.map partOf).map jr).take 9=l:=by rw[hm];exact List.take_of_length_le (by omega)
   unfold zh;rw[if_neg h45];unfold jR;rw[hps,hfb,if_neg (by decide),hob,if_neg (by decide),htk,h,if_neg (fun g=>g rfl)]
end Go.Proofs.YtnfojaidmnccoaaGreatDoor.Vec
namespace Go.Proofs.YtnfojaidmnccoaaGreatDoor
open Go.RowKit
theorem JW {c:UInt8}:∀{p:List UInt8},c ∉ p→jb c p=[p]
 | [],_=>rfl
 | b::t,h=>by
  unfold jb;rw[if_neg (by intro e;exact h (by simp[e])),JW (p:=t) (by intro e;exact h (by simp[e]))]
theorem Zi {c:UInt8}:∀(x:List UInt8) (y:List UInt8),c ∉ x→jb c (x++c::y)=x::jb c y
 | [],y,_=>by
  rw[List.nil_append];show (if c=c then []::jb c y else _)=_;rw[if_pos rfl]
 | b::t,y,h=>by
  rw[List.cons_append]
  show (if b=c then []::jb c (t++c::y) else match jb c (t++c::y) with
   | []=>[[b]]
   | p::ps=>(b::p)::ps)=(b::t)::jb c y
  rw[if_neg (by intro e;exact h (by simp[e])),Zi t y (by intro e;exact h (by simp[e]))]
theorem Zw:∀(x:List UInt8) (ts:List (List UInt8)),(∀t ∈ x::ts,(32:UInt8) ∉ t)→jb 32 (Lib.join (x::ts) [32])=x::ts
 | x,[],h=>by rw[Lib.join_one];exact JW (h x (by simp))
 | x,y::t,h=>by
  rw[join_cons,Zi _ _ (h x (by simp)),Zw y t (fun z hz=>h z (by simp[hz]))]
theorem qU {x:Int} (h:0≤x):Lib.itoa x=Lib.decDigits x.toNat:=by unfold Lib.itoa;rw[if_neg (by omega)]
theorem Jt {x:Int} (h:0≤x):Vec.jm (Lib.itoa x)=true∧(Vec.valL (Lib.itoa x):Int)=x:=by
 rw[qU h];obtain⟨a,b⟩:=Vec.jby x.toNat;exact⟨a,by rw[b];omega⟩
theorem zf {x:Int} {c:UInt8} (h:0≤x) (hc:Vec.jB c=false):c ∉ Lib.itoa x:=by
 rw[qU h];intro e;rw[Vec.Xu e] at hc
 cases hc
theorem mem_join44 {b:UInt8}:∀{ts:List (List UInt8)},b ∈ Lib.join ts [44]→b=44∨∃t ∈ ts,b ∈ t
 | [],h=>by
  have e:Lib.join [] [44]=([]:List UInt8):=rfl;rw[e] at h;cases h
 | [p],h=>by rw[Lib.join_one] at h;exact .inr ⟨p,by simp,h⟩
 | p::q::t,h=>by
  rw[show Lib.join (p::q::t) [44]=p++[44]++Lib.join (q::t) [44] by simp[Lib.join,List.intercalate]] at h;rcases List.mem_append.1 h with h | h
  · rcases List.mem_append.1 h with h | h
    · exact .inr ⟨p,by simp,h⟩
    · exact .inl (by simpa using h)
  · rcases mem_join44 h with h | ⟨z,hz,h⟩
    · exact .inl h
    · exact .inr ⟨z,by simp[hz],h⟩
theorem Xn {x:ByteArray} (h:isName x=true):(32:UInt8) ∉ x.data.toList:=fun e=>absurd (J6 h _ e) (by decide)
theorem jcm {l:Vec.V} (h:Vec.jc l=0):(32:UInt8) ∉ Vec.jz l:=by
 intro e;by_cases h0:l=[]
 · subst h0;exact absurd e (by decide)
 · rw[Vec.jbt h h0] at e;rcases mem_join44 e with e | ⟨p,hp,e⟩
   · exact absurd e (by decide)
   · obtain⟨x,hx,rfl⟩:=List.mem_map.1 hp;have g:=Vec.Jz h x hx;unfold Vec.partOf at e;rcases List.mem_append.1 e with e | e
     · exact Xn g.1 e
     · rcases List.mem_cons.1 e with e | e
       · exact absurd e (by decide)
       · exact zf (c:=32) (by omega) (by decide) e
theorem jcJ {a b:Int} (ha:0≤a) (hb:0≤b):(32:UInt8) ∉ zn a b∧jb 47 (zn a b)=[Lib.itoa a,Lib.itoa b]:=by
 constructor
 · intro e;unfold zn at e;rcases List.mem_append.1 e with e | e
   · exact zf (c:=32) ha (by decide) e
   · rcases List.mem_append.1 e with e | e
     · exact absurd e (by decide)
     · exact zf (c:=32) hb (by decide) e
 · unfold zn;rw[List.singleton_append,Zi _ _ (zf ha (by decide)),JW (zf hb (by decide))]
theorem qX {u c p:Int} (hu:0≤u) (hc:0≤c) (hp:0≤p):(32:UInt8) ∉ jy (u,c,p)∧jb 58 (jy (u,c,p))=[Lib.itoa u,Lib.itoa c,Lib.itoa p]:=by
 constructor
 · intro e;unfold jy at e;rcases List.mem_append.1 e with e | e
   · exact zf (c:=32) hu (by decide) e
   · rcases List.mem_append.1 e with e | e
     · exact absurd e (by decide)
     · rcases List.mem_append.1 e with e | e
       · exact zf (c:=32) hc (by decide) e
       · rcases List.mem_append.1 e with e | e
         · exact absurd e (by decide)
         · exact zf (c:=32) hp (by decide) e
 · unfold jy;dsimp only;rw[List.singleton_append,Zi _ _ (zf hu (by decide)),List.singleton_append,Zi _ _ (zf hc (by decide)),JW (zf hp (by decide))]
theorem jbJ {u c p:Int} (hu:0≤u∧u≤9223372036854775807) (hc:0≤c∧c≤9223372036854775807) (hp:0≤p∧p≤9223372036854775807) :
 jK 58 3 (jy (u,c,p))=true∧zr (jy (u,c,p))=true∧jF (jy (u,c,p))=(u,c,p):=by
 have hs:=(qX hu.1 hc.1 hp.1).2;have n0:jX (jy (u,c,p)) 0=Lib.itoa u:=by unfold jX;rw[hs];rfl
 have n1:jX (jy (u,c,p)) 1=Lib.itoa c:=by unfold jX;rw[hs];rfl
 have n2:jX (jy (u,c,p)) 2=Lib.itoa p:=by unfold jX;rw[hs];rfl
 have du:=Jt hu.1;have dc:=Jt hc.1;have dp:=Jt hp.1;refine⟨?_,?_,?_⟩
 · unfold jK;rw[hs];simp[du.1,dc.1,dp.1]
 · unfold zr inQ;rw[n0,n1,n2];simp only[Bool.and_eq_true,decide_eq_true_eq];omega
 · unfold jF;rw[n0,n1,n2,du.2,dc.2,dp.2]
theorem jar (x:ByteArray):bytes x.data.toList=x:=by apply Go.WideShapes.bytes_inj;simp[bytes]
theorem qo {n:Lad} (h:jP n=0) (hf:Vec.j2 n.unit) (hr:∀x ∈ n.rungs,jt.fine x):je (jQ n)=(0,n):=by
 obtain⟨g1,g2,g3,g4⟩:=jbn h;have hl:=jcN g3;obtain⟨r1,r2,r3⟩:=jab g4;have hn:isName n.what=true:=by
  unfold zF at g1;by_cases e:isName n.what=true
  · exact e
  · rw[if_neg e] at g1;cases g1
 have hrb:∀x ∈ n.rungs,(0≤x.1∧x.1≤9223372036854775807)∧(0≤x.2.1∧x.2.1≤9223372036854775807)∧(0≤x.2.2∧x.2.2≤9223372036854775807):=fun x hx=>by
  have a:=jac (r2 x hx);have b:I64 x.1:=(hr x hx).1;unfold I64 at b;omega
 have hrs:∀x ∈ n.rungs,(32:UInt8) ∉ jy x:=fun x hx=>(qX (u:=x.1) (c:=x.2.1) (p:=x.2.2) (hrb x hx).1.1 (hrb x hx).2.1.1 (hrb x hx).2.2.1).1;have hrt:∀x ∈ n.rungs,jK 58 3 (jy x)=true∧zr (jy x)=true∧jF (jy x)=x:=fun x hx=>jbJ (u:=x.1) (c:=x.2.1) (p:=x.2.2) (hrb x hx).1 (hrb x hx).2.1 (hrb x hx).2.2;obtain⟨ls1,ls2⟩:=jcJ hl.1 (show 0≤n.hi by omega);have hp:jb 32 (jQ n)=n.what.data.toList::Vec.jz n.unit::zn n.lo n.hi::n.rungs.map jy:=by
  unfold jQ jV;refine Zw _ _ ?_;intro t ht;rcases List.mem_cons.1 ht with rfl | ht
  · exact Xn hn
  · rcases List.mem_cons.1 ht with rfl | ht
    · exact jcm g2
    · rcases List.mem_cons.1 ht with rfl | ht
      · exact ls1
      · obtain⟨x,hx,rfl⟩:=List.mem_map.1 ht;exact hrs x hx
 have w0:w3L (jQ n) 0=n.what.data.toList:=by unfold w3L;rw[hp];rfl
 have w1:w3L (jQ n) 1=Vec.jz n.unit:=by unfold w3L;rw[hp];rfl
 have w2:w3L (jQ n) 2=zn n.lo n.hi:=by unfold w3L;rw[hp];rfl
 have l0:j7 (jQ n) 0=Lib.itoa n.lo:=by unfold j7;rw[w2,ls2];rfl
 have l1:j7 (jQ n) 1=Lib.itoa n.hi:=by unfold j7;rw[w2,ls2];rfl
 have dl:=Jt hl.1;have dh:=Jt (show 0≤n.hi by omega);have hd:(jb 32 (jQ n)).drop 3=n.rungs.map jy:=by rw[hp];rfl
 have hform:JN (jQ n)=true:=by
  unfold JN;rw[hd,w2,hp];have a1:jK 47 2 (zn n.lo n.hi)=true:=by unfold jK;rw[ls2];simp[dl.1,dh.1]
  have a2:j9 (n.rungs.map jy)=true:=by
   unfold j9;rw[List.all_eq_true];intro p hp;obtain⟨x,hx,rfl⟩:=List.mem_map.1 hp;exact(hrt x hx).1
  rw[a1,a2];simp
 have hnums:JT (jQ n)=true:=by
  unfold JT;rw[hd,l0,l1];have a1:inQ (Lib.itoa n.lo)=true:=by unfold inQ;exact decide_eq_true (by omega)
  have a2:inQ (Lib.itoa n.hi)=true:=by unfold inQ;exact decide_eq_true (by omega)
  have a3:za (n.rungs.map jy)=true:=by
   unfold za;rw[List.all_eq_true];intro p hp;obtain⟨x,hx,rfl⟩:=List.mem_map.1 hp;exact(hrt x hx).2.1
  rw[a1,a2,a3];rfl
 have hrr:((n.rungs.map jy).map jF).take 9=n.rungs:=by
  rw[List.map_map,List.take_of_length_le (by simp;omega)];conv=>rhs;rw[←List.map_id n.rungs]
  exact List.map_congr_left fun x hx=>(hrt x hx).2.2
 have hmade:JM (jQ n)=n:=by
  unfold JM;rw[w0,w1,hd,hrr,l0,l1,dl.2,dh.2,Vec.Zh g2 hf,jar]
 unfold je;rw[hform,hnums,w1,hmade,h,Vec.Zh g2 hf];rfl
theorem jaF (n:Lad) (v1 v2 u1 u2:Value) (w:World) (h:jL w v1 v2 n) (h':jL w u1 u2 n):Calls Tryz.prog 25 #[zz n v1 v2,zz n u1 u2] w (Say (.bool true) w):=by
 obtain⟨x,un,l,lo,hi⟩:=n;obtain⟨a2,c2,rfl,-,-,hr⟩:=id h.rungs;obtain⟨b2,d2,rfl,-,-,hr'⟩:=id h'.rungs;obtain⟨len,hlen⟩:=eX (l.length)
 dsimp only at hr hr';rw[hlen] at hr hr';unfold zz;dsimp only;rw[hlen];have hm:=hr.2.1;unfold maxLen at hm;have HR:=lH hr;have Vm:=lH hr';obtain⟨W1,hW1⟩:=eX (w.alloc (.cells #[.string x,v1,.slice a2 len c2,.int .i64 lo,.int .i64 hi] 35))
 have k1:Kept w W1:=by rw[←hW1];exact ja _ _
 obtain⟨Q1,hQ1⟩:=eX (w.heap.size)
 obtain⟨W0,hW0⟩:=eX (W1.alloc (.cells #[.string x,u1,.slice b2 len d2,.int .i64 lo,.int .i64 hi] 35))
 have k2:Kept W1 W0:=by rw[←hW0];exact ja _ _
 obtain⟨Q2,hQ2⟩:=eX (W1.heap.size)
 obtain⟨HC,Vi,Ro,K0⟩:=lH4 (show ∀W,Kept W0 W→W.cell? ⟨Q1,0,none⟩=some (.string x)∧W.cell? ⟨Q1,1,none⟩=some (v1)∧W.cell? ⟨Q1,2,none⟩=some (.slice a2 len c2)∧W.cell? ⟨Q1,3,none⟩=some (.int .i64 lo)∧W.cell? ⟨Q1,4,none⟩=some (.int .i64 hi) from fun W k=>by rw[←hQ1];exact(jf w (.string x) [v1,.slice a2 len c2,.int .i64 lo,.int .i64 hi] 35 W (by rw[hW1];exact k2.trans k)).at5) (show ∀W,Kept W0 W→W.cell? ⟨Q2,0,none⟩=some (.string x)∧W.cell? ⟨Q2,1,none⟩=some (u1)∧W.cell? ⟨Q2,2,none⟩=some (.slice b2 len d2)∧W.cell? ⟨Q2,3,none⟩=some (.int .i64 lo)∧W.cell? ⟨Q2,4,none⟩=some (.int .i64 hi) from fun W k=>by rw[←hQ2];exact(jf W1 (.string x) [u1,.slice b2 len d2,.int .i64 lo,.int .i64 hi] 35 W (by rw[hW0];exact k)).at5) (fun W (k:Kept W0 W)=>Vec.jaM (h.unit.kept ((k1.trans k2).trans k)) (h'.unit.kept ((k1.trans k2).trans k)) (Vec.qS rfl)) (k1.trans k2);clear h h' hr hr' k1 k2;obtain⟨o0,o1,o2,o3,o4⟩:=HC.out _ (Kept.refl _);obtain⟨p0,p1,p2,p3,p4⟩:=Vi.out _ (Kept.refl _);go_enter Tryz.func25,Tryz.ntmps25;go_wp2_with fail
 try rw[hW1]
 try rw[hQ1]
 try rw[hW0]
 try rw[hQ2]
 clear hW1 hQ1 hW0 hQ2;refine(Ro.out _ (Kept.refl _)).mono ?_;rintro e w3 ⟨rfl,kk⟩;have J:=lH kk;clear kk o0 o1 o2 o3 o4 p0 p1 p2 p3 p4;obtain⟨o0,o1,o2,o3,o4⟩:=HC.out _ J.out;obtain⟨p0,p1,p2,p3,p4⟩:=Vi.out _ J.out;go_wp2;go_loopw [5] (fun i wr=>∃k:Nat,k≤len∧i=.int .i64 k∧Kept W0 wr) (fun i _=>len-(intOf i).toNat)
 case atStart=>exact⟨0,Nat.zero_le _,rfl,J.out⟩
 case round =>
  obtain⟨k,hk,rfl,hJ⟩:=hrel;have J:=lH hJ;clear hJ o0 o1 o2 o3 o4 p0 p1 p2 p3 p4;obtain⟨o0,o1,o2,o3,o4⟩:=HC.out _ J.out;obtain⟨p0,p1,p2,p3,p4⟩:=Vi.out _ J.out;by_cases hlt:k<len
  · obtain⟨b,off,rfl⟩:∃b off,a2=some ⟨b,off,none⟩:=by rcases HR.out.form with h | h;omega;exact h
    obtain⟨b9,off9,rfl⟩:∃b off,b2=some ⟨b,off,none⟩:=by rcases Vm.out.form with h | h;omega;exact h
    obtain⟨u,c,p,hn9,-,-,-,c0,c1x,c2x⟩:=HR.out.rung hlt;obtain⟨u9,c9,p9,hm9,-,-,-,d0,d1x,d2x⟩:=Vm.out.rung hlt;obtain⟨rfl,rfl,rfl⟩:u=u9∧c=c9∧p=p9:=by rw[hn9] at hm9;cases hm9;exact⟨rfl,rfl,rfl⟩
    clear hn9 hm9;have hkk:(k:Int)<(len:Int):=by omega
    have Uk:=lH (show ∀W,Kept W0 W→(W.cell? ⟨Q1,2,none⟩=some (.slice (some ⟨b,off,none⟩) len c2))∧(W.cell? ⟨Q2,2,none⟩=some (.slice (some ⟨b9,off9,none⟩) len d2))∧(W.cell? ⟨b,off+k*3,none⟩=some (.int .i64 u)∧W.cell? ⟨b,off+k*3+1,none⟩=some (.int .i64 c)∧W.cell? ⟨b,off+k*3+2,none⟩=some (.int .i64 p))∧(W.cell? ⟨b9,off9+k*3,none⟩=some (.int .i64 u)∧W.cell? ⟨b9,off9+k*3+1,none⟩=some (.int .i64 c)∧W.cell? ⟨b9,off9+k*3+2,none⟩=some (.int .i64 p)) from fun W k=>⟨(HC.out _ k).2.2.1,(Vi.out _ k).2.2.1,⟨cell_later (K0.out.trans k) c0,cell_later (K0.out.trans k) c1x,cell_later (K0.out.trans k) c2x⟩,⟨cell_later (K0.out.trans k) d0,cell_later (K0.out.trans k) d1x,cell_later (K0.out.trans k) d2x⟩⟩);clear c0 c1x c2x d0 d1x d2x;go_wp2_with fail
    go_region_held3 (fun W=>(W.cell? ⟨Q1,2,none⟩=some (.slice (some ⟨b,off,none⟩) len c2))∧(W.cell? ⟨Q2,2,none⟩=some (.slice (some ⟨b9,off9,none⟩) len d2))∧(W.cell? ⟨b,off+k*3,none⟩=some (.int .i64 u)∧W.cell? ⟨b,off+k*3+1,none⟩=some (.int .i64 c)∧W.cell? ⟨b,off+k*3+2,none⟩=some (.int .i64 p))∧(W.cell? ⟨b9,off9+k*3,none⟩=some (.int .i64 u)∧W.cell? ⟨b9,off9+k*3+1,none⟩=some (.int .i64 c)∧W.cell? ⟨b9,off9+k*3+2,none⟩=some (.int .i64 p))) (exact Uk.out _ (J.out.trans (Kept.drew _))) (fail)
    go_wp2;go_roundw
    case rel=>exact⟨k+1,by omega,by go_num,J.out.trans (by first | exact Kept.refl _ | exact Kept.drew _ | exact Kept.drewN _ _)⟩
    case measure=>simp[intOf];omega
  · have hkk:¬(k:Int)<(len:Int):=by omega
    go_wp2;go_ret;exact⟨rfl,K0.out.trans J.out⟩
theorem jcG {n:Lad} {v u:Value} {w:World} (h:Jc w v n) (h':Jc w u n):Calls Tryz.prog 25 #[v,u] w (Say (.bool true) w):=by
 obtain⟨v1,v2,rfl,h⟩:=h;obtain⟨u1,u2,rfl,h'⟩:=h';exact jaF n v1 v2 u1 u2 w h h'
end Go.Proofs.YtnfojaidmnccoaaGreatDoor
namespace Go.Proofs.YtnfojaidmnccoaaGreatDoor.Vec
open Go.RowKit Go.Proofs.YtnfojaidmnccoaaGreatDoor
theorem XP (f:Int→Int→Int×Int) (n:Int):∀(l acc:V),(jD f n l acc).2.length≤acc.length+l.length
 | [],acc=>by rw[jD];simp
 | x::t,acc=>by
  rw[jD];split
  · simp
  · have:=XP f n t (plusV acc x.1 (f x.2 n).1);have h2:(plusV acc x.1 (f x.2 n).1).length≤acc.length+1:=by
     unfold plusV;split
     · omega
     · simp
    rw[List.length_cons];omega
theorem jaf (f:Int→Int→Int×Int) (n:Int) (l:V):(jA f n l).2.length≤1000000:=by
 unfold jA;by_cases h:jc l≠0
 · rw[if_pos h];simp
 · rw[if_neg h];have:=XP f n l [];have h8:=JC (Decidable.of_not_not h);simp only[List.length_nil] at this;omega
end Go.Proofs.YtnfojaidmnccoaaGreatDoor.Vec
namespace Go.Proofs.YtnfojaidmnccoaaGreatDoor
open Go.RowKit
theorem jan {n:Lad} {t:Vec.V} (h:n.unit.length≤1000000):(jW n t).2.1.length≤1000000:=by
 unfold jW;split
 · simp
 · split
   · exact h
   · split
     · simp
     · exact Vec.jaf _ _ _
theorem LadderAny_walk (v:Value) (n:Lad) (tv:Value) (t:Vec.V) (w:World) (hE:Vec.j5 w) (h:Jc w v n) (ht:Vec.Reads w tv t):Calls Tryz.prog 3 #[v,tv] w fun e w'=>e=.returned (.bool true)∧Kept w w':=by
 obtain⟨v1,v2,rfl,hat⟩:=h;obtain⟨a1,c1,rfl,-⟩:=id hat.unit;obtain⟨a2,c2,rfl,-⟩:=id hat.rungs;obtain⟨l1,hl1⟩:=eX (n.unit.length)
 obtain⟨l2,hl2⟩:=eX (n.rungs.length)
 have Rv:=lH hl1;have Rw:=lH hl2;rw[hl1,hl2] at hat;unfold zz;rw[hl1,hl2];clear hl1 hl2;obtain⟨W0,hW0⟩:=eX (w.alloc (.cells #[.string n.what,.slice a1 l1 c1,.slice a2 l2 c2,.int .i64 n.lo,.int .i64 n.hi] 26))
 have hk0:Kept w W0:=by rw[←hW0];exact ja _ _
 have HL:=lH (jf w (.string n.what) [.slice a1 l1 c1,.slice a2 l2 c2,.int .i64 n.lo,.int .i64 n.hi] 26 W0 (by rw[hW0];exact Kept.refl _));obtain⟨lb,hlb⟩:=eX (w.heap.size)
 rw[hlb] at HL;obtain⟨HK,Va,HT,HE⟩:=lH4 hk0 (hat.kept hk0) (ht.kept hk0) (hE.kept hk0);clear hk0 hat ht hE;go_enter Tryz.func3,Tryz.ntmps3;go_wp2_with fail
 try rw[hW0]
 try rw[hlb]
 clear hW0 hlb;refine(qx _ HE.out).mono ?_;rintro e w1 ⟨rfl,kk⟩;obtain⟨HL,Va,HK,HT,HE⟩:=lH5 (HL.out.kept kk) (Va.out.kept kk) (HK.out.trans kk) (HT.out.kept kk) (HE.out.kept kk);try clear y0 y1 y2 y3 y4
 obtain⟨y0,y1,y2,y3,y4⟩:=HL.out.at5;clear kk;obtain⟨f1,hf1⟩:=eX (ZB n)
 have Uz:=lH hf1;have Uq:=lH (jaZ n a1 a2 l1 c1 l2 c2 w1 Va.out);rw[hf1] at Uq;clear hf1;go_wp2_with fail
 refine Uq.out.mono ?_;rintro e w2 ⟨rfl,kk⟩;obtain⟨HL,Va,HK,HT,HE⟩:=lH5 (HL.out.kept kk) (Va.out.kept kk) (HK.out.trans kk) (HT.out.kept kk) (HE.out.kept kk);try clear y0 y1 y2 y3 y4
 obtain⟨y0,y1,y2,y3,y4⟩:=HL.out.at5;clear kk;clear Uq
 cases f1 with
 | false =>
  go_wp2;go_ret;exact⟨rfl,HK.out⟩
 | true =>
  obtain⟨f2,hf2⟩:=eX (Vec.j4 t)
  have UA:=lH hf2;have Uq:=lH (Vec.jcP HT.out hf2);clear hf2;go_wp2_with fail
  refine Uq.out.mono ?_;rintro e w3 ⟨rfl,rfl⟩;clear Uq
  cases f2 with
  | false =>
   go_wp2;go_ret;exact⟨rfl,HK.out⟩
  | true =>
   have V6:=lH (show t.length≤1000000 by have h:=UA.out;unfold Vec.j4 at h;simp at h;omega);have UJ:=lH (Vec.ofL HT.out V6.out);go_wp2_with fail
   refine UJ.out.mono ?_;rintro e w3 ⟨ov,rfl,hov,kk⟩;have Vs:=lH hov;clear hov;obtain⟨HL,Va,HK,HT,HE⟩:=lH5 (HL.out.kept kk) (Va.out.kept kk) (HK.out.trans kk) (HT.out.kept kk) (HE.out.kept kk);try clear y0 y1 y2 y3 y4
   obtain⟨y0,y1,y2,y3,y4⟩:=HL.out.at5;clear kk;clear UJ;obtain⟨e0,he0⟩:=eX (Vec.jc t)
   have TH:=lH (Vec.YH Vs.out he0);clear he0;go_wp2_with fail
   refine TH.out.mono ?_;rintro e w4 ⟨rfl,kk⟩;obtain⟨HL,Va,HK,HT,HE⟩:=lH5 (HL.out.kept kk) (Va.out.kept kk) (HK.out.trans kk) (HT.out.kept kk) (HE.out.kept kk);try clear y0 y1 y2 y3 y4
   obtain⟨y0,y1,y2,y3,y4⟩:=HL.out.at5;clear kk;clear TH Vs;by_cases z0:e0=0
   case neg =>
    have z0':(e0 != 0)=true:=by simpa using z0
    clear z0;go_wp2;go_ret;exact⟨rfl,HK.out⟩
   subst z0;have VY:=lH (jaU Uz.out);have Tj:=lH (show n.unit.length≤20 by have h:=VY.out.2.1;unfold Vec.j4 at h;simp at h;omega);have TI:=lH (X5 n a1 a2 l1 c1 l2 c2 w4 Va.out (by have:=Tj.out;omega) (by have:=VY.out.2.2;omega));go_wp2_with fail
   refine TI.out.mono ?_;rintro e w5 ⟨v9,rfl,⟨b1,m1,d1,b2,m2,d2,rfl,hxa,-,-⟩,kk⟩;have Ve:=lH hxa;clear hxa;obtain⟨HL,Va,HK,HT,HE⟩:=lH5 (HL.out.kept kk) (Va.out.kept kk) (HK.out.trans kk) (HT.out.kept kk) (HE.out.kept kk);try clear y0 y1 y2 y3 y4
   obtain⟨y0,y1,y2,y3,y4⟩:=HL.out.at5;clear kk;clear TI;obtain⟨w6,hw6⟩:=eX (w5.alloc (.cells #[.string n.what,.slice b1 m1 d1,.slice b2 m2 d2,.int .i64 n.lo,.int .i64 n.hi] 35))
   have kk:Kept w5 w6:=by rw[←hw6];exact ja _ _
   have Vb:=lH (jf w5 (.string n.what) [.slice b1 m1 d1,.slice b2 m2 d2,.int .i64 n.lo,.int .i64 n.hi] 35 w6 (by rw[hw6];exact Kept.refl _));obtain⟨xb,hxb⟩:=eX (w5.heap.size)
   rw[hxb] at Vb;go_upto_region 6 with fail
   try rw[hw6]
   try rw[hxb]
   clear hw6 hxb;obtain⟨HL,Va,HK,HT,HE,Ve⟩:=lH6 (HL.out.kept kk) (Va.out.kept kk) (HK.out.trans kk) (HT.out.kept kk) (HE.out.kept kk) (Ve.out.kept kk);try clear y0 y1 y2 y3 y4
   obtain⟨y0,y1,y2,y3,y4⟩:=HL.out.at5;clear kk;obtain⟨x0,x1,x2,x3,x4⟩:=Vb.out.at5;obtain⟨e1,he1⟩:=eX (jP n)
   have VI:=lH he1;have Vv:=lH (YK (v:=.agg #[.string n.what,.slice b1 m1 d1,.slice b2 m2 d2,.int .i64 n.lo,.int .i64 n.hi]) (n:=n) (w:=w6) ⟨_,_,rfl,Ve.out⟩ he1);go_wp2_with fail
   refine Vv.out.mono ?_;rintro e w7 ⟨rfl,kk⟩;obtain⟨HL,Va,HK,HT,HE,Ve,Vb⟩:=lH7 (HL.out.kept kk) (Va.out.kept kk) (HK.out.trans kk) (HT.out.kept kk) (HE.out.kept kk) (Ve.out.kept kk) (Vb.out.kept kk);try clear y0 y1 y2 y3 y4
   obtain⟨y0,y1,y2,y3,y4⟩:=HL.out.at5;try clear x0 x1 x2 x3 x4
   obtain⟨x0,x1,x2,x3,x4⟩:=Vb.out.at5;clear kk;clear Vv;obtain⟨⟨cnt,uv,cd⟩,hwt⟩:∃z,jW n t=z:=⟨_,rfl⟩
   have Rp:=lH (show uv.length≤1000000 by have:=jan (n:=n) (t:=t) (by have:=Tj.out;omega);rw[hwt] at this;exact this);have UH:=lH (X8 n a1 a2 l1 c1 l2 c2 tv t w7 Va.out HT.out);rw[hwt] at UH;have Vj:=lH (fun W zv (h1:jL W (.slice b1 m1 d1) (.slice b2 m2 d2) n) (h2:Vec.Reads W zv t)=>jbc n b1 b2 m1 d1 m2 d2 zv t W h1 h2);rw[hwt] at Vj;unfold Xd at UH Vj;dsimp only at UH Vj;clear hwt;go_wp2_with fail
   refine UH.out.mono ?_;rintro e w8 ⟨wv,rfl,hwv,kk⟩;have VF:=lH hwv;clear hwv;obtain⟨HL,Va,HK,HT,HE,Ve,Vb⟩:=lH7 (HL.out.kept kk) (Va.out.kept kk) (HK.out.trans kk) (HT.out.kept kk) (HE.out.kept kk) (Ve.out.kept kk) (Vb.out.kept kk);try clear y0 y1 y2 y3 y4
   obtain⟨y0,y1,y2,y3,y4⟩:=HL.out.at5;try clear x0 x1 x2 x3 x4
   obtain⟨x0,x1,x2,x3,x4⟩:=Vb.out.at5;clear kk;clear UH;go_upto_region 8 with fail
   obtain⟨w9,hwd⟩:=eX (w8.drew)
   have kk:Kept w8 w9:=by rw[←hwd];exact Kept.drew w8
   obtain⟨HL,Va,HK,HT,HE,Ve,Vb,VF⟩:=lH8 (HL.out.kept kk) (Va.out.kept kk) (HK.out.trans kk) (HT.out.kept kk) (HE.out.kept kk) (Ve.out.kept kk) (Vb.out.kept kk) (VF.out.kept kk);clear kk y0 y1 y2 y3 y4 x0 x1 x2 x3 x4;refine wp_region_held_drew (S:=fun W=>W.cell? ⟨xb,0,none⟩=some (.string n.what)∧W.cell? ⟨xb,1,none⟩=some (.slice b1 m1 d1)∧W.cell? ⟨xb,2,none⟩=some (.slice b2 m2 d2)∧W.cell? ⟨xb,3,none⟩=some (.int .i64 n.lo)∧W.cell? ⟨xb,4,none⟩=some (.int .i64 n.hi)) (by kernel_rfl) (by rw[hwd];exact Vb.out.at5) (fun hHeld=>?_);rw[hwd] at hHeld;try rw[hwd]
   clear hwd;refine tR 0 rfl (by kernel_rfl) (fun _ _ _=>id) (Or.inl ⟨by rfl,by rintro W ⟨s0,s1,s2,s3,s4⟩;go_simp<;>with_reducible rfl⟩) ‹_› ?_;try simp only[nA,nB,nC,nD,nE]
   refine tR 1 rfl (by kernel_rfl) (fun _ _ _=>id) (Or.inl ⟨by rfl,by rintro W ⟨s0,s1,s2,s3,s4⟩;go_simp<;>with_reducible rfl⟩) ‹_› ?_;try simp only[nA,nB,nC,nD,nE]
   refine rd1 2 fun K9 Ky=>?_;go_simp;refine(Vec.ofL HT.out V6.out).mono ?_;rintro e w10 ⟨ov,rfl,hov,kk⟩;obtain⟨HL,Va,HK,HT,HE,Ve,Vb,VF⟩:=lH8 (HL.out.kept kk) (Va.out.kept kk) (HK.out.trans kk) (HT.out.kept kk) (HE.out.kept kk) (Ve.out.kept kk) (Vb.out.kept kk) (VF.out.kept kk);clear kk;have Vs:=lH hov;clear hov;refine Ky.out _ _ (Vb.out.at5) (fun _=>?_);clear Ky K9;try simp only[nA,nB,nC,nD,nE]
   refine rd1 3 fun K9 Ky=>?_;go_simp;refine(Vj.out _ _ Ve.out Vs.out).mono ?_;rintro e w11 ⟨rv,rfl,hrv,kk⟩;obtain⟨HL,Va,HK,HT,HE,Ve,Vb,VF⟩:=lH8 (HL.out.kept kk) (Va.out.kept kk) (HK.out.trans kk) (HT.out.kept kk) (HE.out.kept kk) (Ve.out.kept kk) (Vb.out.kept kk) (VF.out.kept kk);clear kk;have V8:=lH hrv;clear hrv Vs;refine Ky.out _ _ (Vb.out.at5) (fun _=>?_);clear Ky K9;try simp only[nA,nB,nC,nD,nE]
   refine tR 4 rfl (by kernel_rfl) (fun _ _ _=>id) (Or.inl ⟨by rfl,by rintro W ⟨s0,s1,s2,s3,s4⟩;go_simp<;>with_reducible rfl⟩) ‹_› ?_;try simp only[nA,nB,nC,nD,nE]
   refine tR 5 rfl (by kernel_rfl) (fun _ _ _=>id) (Or.inl ⟨by rfl,by rintro W ⟨s0,s1,s2,s3,s4⟩;go_simp<;>with_reducible rfl⟩) ‹_› ?_;try simp only[nA,nB,nC,nD,nE]
   refine tR 6 rfl (by kernel_rfl) (fun _ _ _=>id) (Or.inl ⟨by rfl,by rintro W ⟨s0,s1,s2,s3,s4⟩;go_simp<;>with_reducible rfl⟩) ‹_› ?_;try simp only[nA,nB,nC,nD,nE]
   refine tR 7 rfl (by kernel_rfl) (fun _ _ _=>id) (Or.inl ⟨by rfl,by rintro W ⟨s0,s1,s2,s3,s4⟩;go_simp<;>with_reducible rfl⟩) ‹_› ?_;try simp only[nA,nB,nC,nD,nE]
   refine tR 8 rfl (by kernel_rfl) (fun _ _ _=>id) (Or.inl ⟨by rfl,by rintro W ⟨s0,s1,s2,s3,s4⟩;go_simp<;>with_reducible rfl⟩) ‹_› ?_;try simp only[nA,nB,nC,nD,nE]
   refine tR 9 rfl (by kernel_rfl) (fun _ _ _=>id) (Or.inl ⟨by rfl,by rintro W ⟨s0,s1,s2,s3,s4⟩;go_simp<;>with_reducible rfl⟩) ‹_› ?_;try simp only[nA,nB,nC,nD,nE]
   refine tR 10 rfl (by kernel_rfl) (fun _ _ _=>id) (Or.inl ⟨by rfl,by rintro W ⟨s0,s1,s2,s3,s4⟩;go_simp<;>with_reducible rfl⟩) ‹_› ?_;try simp only[nA,nB,nC,nD,nE]
   refine wpAnyH_done (by kernel_rfl) ?_ _;obtain⟨y0,y1,y2,y3,y4⟩:=HL.out.at5;obtain⟨x0,x1,x2,x3,x4⟩:=Vb.out.at5;have Vv:=lH (Jf n (.slice a1 l1 c1) (.slice a2 l2 c2) w11 Va.out);unfold zz at Vv;rw[he1] at Vv;clear he1;go_wp2_with fail
   refine Vv.out.mono ?_;rintro e w12 ⟨rfl,kk⟩;obtain⟨HL,Va,HK,HT,HE,Ve,Vb,VF⟩:=lH8 (HL.out.kept kk) (Va.out.kept kk) (HK.out.trans kk) (HT.out.kept kk) (HE.out.kept kk) (Ve.out.kept kk) (Vb.out.kept kk) (VF.out.kept kk);have V8:=lH (V8.out.kept kk);try clear y0 y1 y2 y3 y4
   obtain⟨y0,y1,y2,y3,y4⟩:=HL.out.at5;try clear x0 x1 x2 x3 x4
   obtain⟨x0,x1,x2,x3,x4⟩:=Vb.out.at5;clear kk;clear Vv;go_wp2_with fail
   refine(Vec.ofL VF.out Rp.out).mono ?_;rintro e w13 ⟨ov,rfl,hov,kk⟩;have Vs:=lH hov;clear hov;obtain⟨HL,Va,HK,HT,HE,Ve,Vb,VF⟩:=lH8 (HL.out.kept kk) (Va.out.kept kk) (HK.out.trans kk) (HT.out.kept kk) (HE.out.kept kk) (Ve.out.kept kk) (Vb.out.kept kk) (VF.out.kept kk);have V8:=lH (V8.out.kept kk);try clear y0 y1 y2 y3 y4
   obtain⟨y0,y1,y2,y3,y4⟩:=HL.out.at5;try clear x0 x1 x2 x3 x4
   obtain⟨x0,x1,x2,x3,x4⟩:=Vb.out.at5;clear kk;go_wp2_with fail
   refine(Vec.jaM Vs.out V8.out (Vec.qS rfl)).mono ?_;rintro e w14 ⟨rfl,kk⟩;obtain⟨HL,Va,HK,HT,HE,Ve,Vb,VF⟩:=lH8 (HL.out.kept kk) (Va.out.kept kk) (HK.out.trans kk) (HT.out.kept kk) (HE.out.kept kk) (Ve.out.kept kk) (Vb.out.kept kk) (VF.out.kept kk);have V8:=lH (V8.out.kept kk);try clear y0 y1 y2 y3 y4
   obtain⟨y0,y1,y2,y3,y4⟩:=HL.out.at5;try clear x0 x1 x2 x3 x4
   obtain⟨x0,x1,x2,x3,x4⟩:=Vb.out.at5;clear kk;clear Vs VF V8;by_cases z1:e1=0
   case neg =>
    have z1':(e1 != 0)=true:=by simpa using z1
    clear z1;go_wp2;go_ret;exact⟨rfl,HK.out⟩
   subst z1;obtain⟨og,hog⟩:=eX (atL n t)
   have VG:=lH (X6 n a1 a2 l1 c1 l2 c2 tv t w14 Va.out HT.out);rw[hog] at VG;have VB:=lH (fun W zv (h1:jL W (.slice b1 m1 d1) (.slice b2 m2 d2) n) (h2:Vec.Reads W zv t)=>q5 n b1 b2 m1 d1 m2 d2 zv t W h1 h2);rw[hog] at VB;obtain⟨⟨gu,gc,gp⟩,hgr⟩:∃z,og.getD (0,0,0)=z:=⟨_,rfl⟩
   obtain⟨gk,hgk⟩:=eX (og.isSome)
   unfold AtR at VG VB;rw[hgr,hgk] at VG VB;unfold Xc at VG VB;dsimp only at VG VB;clear hog hgr hgk;go_wp2_with fail
   refine VG.out.mono ?_;rintro e w15 ⟨rfl,kk⟩;obtain⟨HL,Va,HK,HT,HE,Ve,Vb⟩:=lH7 (HL.out.kept kk) (Va.out.kept kk) (HK.out.trans kk) (HT.out.kept kk) (HE.out.kept kk) (Ve.out.kept kk) (Vb.out.kept kk);try clear y0 y1 y2 y3 y4
   obtain⟨y0,y1,y2,y3,y4⟩:=HL.out.at5;try clear x0 x1 x2 x3 x4
   obtain⟨x0,x1,x2,x3,x4⟩:=Vb.out.at5;clear kk;clear VG;obtain⟨w16,hw16⟩:=eX (w15.alloc (.cells #[.int .i64 gu,.int .i64 gc,.int .i64 gp] 46))
   have kk:Kept w15 w16:=by rw[←hw16];exact ja _ _
   have HP:=lH (jf w15 (.int .i64 gu) [.int .i64 gc,.int .i64 gp] 46 w16 (by rw[hw16];exact Kept.refl _));obtain⟨pb,hpb⟩:=eX (w15.heap.size)
   rw[hpb] at HP;go_upto_region 14 with fail
   try rw[hw16]
   try rw[hpb]
   clear hw16 hpb;obtain⟨HL,Va,HK,HT,HE,Ve,Vb⟩:=lH7 (HL.out.kept kk) (Va.out.kept kk) (HK.out.trans kk) (HT.out.kept kk) (HE.out.kept kk) (Ve.out.kept kk) (Vb.out.kept kk);try clear y0 y1 y2 y3 y4
   obtain⟨y0,y1,y2,y3,y4⟩:=HL.out.at5;try clear x0 x1 x2 x3 x4
   obtain⟨x0,x1,x2,x3,x4⟩:=Vb.out.at5;clear kk;go_cut [15,16] from 84 to 89 (fun s15 s16 wx=>∃qb,s15=.pointer (some ⟨qb,0,none⟩)∧s16=.bool gk∧ju qb [.int .i64 gu,.int .i64 gc,.int .i64 gp] wx∧Kept w16 wx)
   case first =>
    obtain⟨wd,hwd⟩:=eX (w16.drew)
    have kk:Kept w16 wd:=by rw[←hwd];exact Kept.drew w16
    obtain⟨J0,Vb,Ve,HT,J⟩:=lH5 kk (Vb.out.kept kk) (Ve.out.kept kk) (HT.out.kept kk) (Kept.refl wd);clear kk y0 y1 y2 y3 y4 x0 x1 x2 x3 x4;refine wp_region_held_drew (S:=fun W=>W.cell? ⟨xb,0,none⟩=some (.string n.what)∧W.cell? ⟨xb,1,none⟩=some (.slice b1 m1 d1)∧W.cell? ⟨xb,2,none⟩=some (.slice b2 m2 d2)∧W.cell? ⟨xb,3,none⟩=some (.int .i64 n.lo)∧W.cell? ⟨xb,4,none⟩=some (.int .i64 n.hi)) (by kernel_rfl) (by rw[hwd];exact Vb.out.at5) (fun hHeld=>?_);rw[hwd] at hHeld;try rw[hwd]
    clear hwd;refine tR 0 rfl (by kernel_rfl) (fun _ _ _=>id) (Or.inl ⟨by rfl,by rintro W ⟨s0,s1,s2,s3,s4⟩;go_simp<;>with_reducible rfl⟩) ‹_› ?_;try simp only[nA,nB,nC,nD,nE]
    refine tR 1 rfl (by kernel_rfl) (fun _ _ _=>id) (Or.inl ⟨by rfl,by rintro W ⟨s0,s1,s2,s3,s4⟩;go_simp<;>with_reducible rfl⟩) ‹_› ?_;try simp only[nA,nB,nC,nD,nE]
    refine wpAnyH_ready  (rs:=[2,7]) (by kernel_rfl) (by simp) (AllReadyH.cons  (by rw[List.getElem?_toArray];exact rfl) (fun K9 Ky=>?_) (AllReadyH.cons  (by rw[List.getElem?_toArray];exact rfl) (fun K9 Ky=>?_) AllReadyH.nil))
    · skip;go_simp;refine(Vec.ofL (HT.out.kept J.out) V6.out).mono ?_;rintro e vw1 ⟨ov,rfl,hov,kk⟩;have Vs:=lH hov;have J:=lH (J.out.trans kk);clear hov kk;refine Ky.out _ _ ((Vb.out.kept J.out).at5) (fun _=>?_);clear Ky K9;try simp only[nA,nB,nC,nD,nE]
      refine wpAnyH_ready  (rs:=[3,7]) (by kernel_rfl) (by simp) (AllReadyH.cons  (by rw[List.getElem?_toArray];exact rfl) (fun K9 Ky=>?_) (AllReadyH.cons  (by rw[List.getElem?_toArray];exact rfl) (fun K9 Ky=>?_) AllReadyH.nil))
      · skip;go_simp;refine(VB.out _ _ (Ve.out.kept J.out) Vs.out).mono ?_;rintro e vw2 ⟨rfl,kk⟩;have J:=lH (J.out.trans kk);clear kk Vs;refine Ky.out _ _ ((Vb.out.kept J.out).at5) (fun _=>?_);clear Ky K9;try simp only[nA,nB,nC,nD,nE]
        refine tR 4 rfl (by kernel_rfl) (fun _ _ _=>id) (Or.inl ⟨by rfl,by rintro W ⟨s0,s1,s2,s3,s4⟩;go_simp<;>with_reducible rfl⟩) ‹_› ?_;try simp only[nA,nB,nC,nD,nE]
        refine tR 5 rfl (by kernel_rfl) (fun _ _ _=>id) (Or.inl ⟨by rfl,by rintro W ⟨s0,s1,s2,s3,s4⟩;go_simp<;>with_reducible rfl⟩) ‹_› ?_;try simp only[nA,nB,nC,nD,nE]
        refine tR 6 rfl (by kernel_rfl) (fun _ _ _=>id) (Or.inl ⟨by rfl,by rintro W ⟨s0,s1,s2,s3,s4⟩;go_simp<;>with_reducible rfl⟩) ‹_› ?_;try simp only[nA,nB,nC,nD,nE]
        refine rd1 7 fun K9 Ky=>?_;go_simp;obtain⟨qb,hqb⟩:=eX (vw2.heap.size)
        obtain⟨vw3,hnw⟩:=eX (vw2.alloc (.cells #[.int .i64 0,.int .i64 0,.int .i64 0] 49))
        have kk:Kept vw2 vw3:=by rw[←hnw];exact ja _ _
        have QA:=lH (show ju qb [.int .i64 0,.int .i64 0,.int .i64 0] vw3 by rw[←hqb];exact jf vw2 (.int .i64 0) [.int .i64 0,.int .i64 0] 49 vw3 (by rw[hnw];exact Kept.refl _));have Vf:=lH (show wd.heap.size≤qb by rw[←hqb];exact J.out.size);try rw[hnw]
        try rw[hqb]
        have J:=lH (J.out.trans kk);clear kk hnw hqb;refine Ky.out _ _ ((Vb.out.kept J.out).at5) (fun _=>?_);clear Ky K9;try simp only[nA,nB,nC,nD,nE]
        refine rd1 8 fun K9 Ky=>?_;obtain⟨z0,z1,z2⟩:=QA.out.at3;have q0:=QA.out.free 0;have q1:=QA.out.free 1;have q2:=QA.out.free 2;go_simp;have PP:=lH (zo (vs:=[.int .i64 gu,.int .i64 gc,.int .i64 gp]) QA.out rfl);obtain⟨vw4,hnw⟩:=eX (vw3.setCells qb 0 [.int .i64 gu,.int .i64 gc,.int .i64 gp])
        have hnw2:(((vw3.setCell ⟨qb,0,none⟩ (.int .i64 gu)).setCell ⟨qb,1,none⟩ (.int .i64 gc)).setCell ⟨qb,2,none⟩ (.int .i64 gp))=vw4:=hnw;rw[hnw] at PP;try rw[hnw2]
        clear hnw hnw2 z0 z1 z2 q0 q1 q2;have J:=lH (show Kept wd vw4 from PP.out.below _ _ Vf.out J.out);have QA:=lH PP.out.cells;clear PP;refine Ky.out _ _ ((Vb.out.kept J.out).at5) (fun _=>?_);clear Ky K9;try simp only[nA,nB,nC,nD,nE]
        refine tR 9 rfl (by kernel_rfl) (fun _ _ _=>id) (Or.inl ⟨by rfl,by rintro W ⟨s0,s1,s2,s3,s4⟩;go_simp<;>with_reducible rfl⟩) ‹_› ?_;try simp only[nA,nB,nC,nD,nE]
        refine wpAnyH_done (by kernel_rfl) ?_ _;go_wp2;try go_meet
        try case rel=>exact⟨qb,rfl,rfl,QA.out,J0.out.trans J.out⟩
      · skip;go_simp;obtain⟨qb,hqb⟩:=eX (vw1.heap.size)
        obtain⟨vw5,hnw⟩:=eX (vw1.alloc (.cells #[.int .i64 0,.int .i64 0,.int .i64 0] 49))
        have kk:Kept vw1 vw5:=by rw[←hnw];exact ja _ _
        have QA:=lH (show ju qb [.int .i64 0,.int .i64 0,.int .i64 0] vw5 by rw[←hqb];exact jf vw1 (.int .i64 0) [.int .i64 0,.int .i64 0] 49 vw5 (by rw[hnw];exact Kept.refl _));have Vf:=lH (show wd.heap.size≤qb by rw[←hqb];exact J.out.size);try rw[hnw]
        try rw[hqb]
        have J:=lH (J.out.trans kk);have Vs:=lH (Vs.out.kept kk);clear kk hnw hqb;refine Ky.out _ _ ((Vb.out.kept J.out).at5) (fun _=>?_);clear Ky K9;try simp only[nA,nB,nC,nD,nE]
        refine rd1 3 fun K9 Ky=>?_;go_simp;refine(VB.out _ _ (Ve.out.kept J.out) Vs.out).mono ?_;rintro e vw6 ⟨rfl,kk⟩;have J:=lH (J.out.trans kk);have QA:=lH (QA.out.kept kk);clear kk Vs;refine Ky.out _ _ ((Vb.out.kept J.out).at5) (fun _=>?_);clear Ky K9;try simp only[nA,nB,nC,nD,nE]
        refine tR 4 rfl (by kernel_rfl) (fun _ _ _=>id) (Or.inl ⟨by rfl,by rintro W ⟨s0,s1,s2,s3,s4⟩;go_simp<;>with_reducible rfl⟩) ‹_› ?_;try simp only[nA,nB,nC,nD,nE]
        refine tR 5 rfl (by kernel_rfl) (fun _ _ _=>id) (Or.inl ⟨by rfl,by rintro W ⟨s0,s1,s2,s3,s4⟩;go_simp<;>with_reducible rfl⟩) ‹_› ?_;try simp only[nA,nB,nC,nD,nE]
        refine tR 6 rfl (by kernel_rfl) (fun _ _ _=>id) (Or.inl ⟨by rfl,by rintro W ⟨s0,s1,s2,s3,s4⟩;go_simp<;>with_reducible rfl⟩) ‹_› ?_;try simp only[nA,nB,nC,nD,nE]
        refine rd1 8 fun K9 Ky=>?_;obtain⟨z0,z1,z2⟩:=QA.out.at3;have q0:=QA.out.free 0;have q1:=QA.out.free 1;have q2:=QA.out.free 2;go_simp;have PP:=lH (zo (vs:=[.int .i64 gu,.int .i64 gc,.int .i64 gp]) QA.out rfl);obtain⟨vw7,hnw⟩:=eX (vw6.setCells qb 0 [.int .i64 gu,.int .i64 gc,.int .i64 gp])
        have hnw2:(((vw6.setCell ⟨qb,0,none⟩ (.int .i64 gu)).setCell ⟨qb,1,none⟩ (.int .i64 gc)).setCell ⟨qb,2,none⟩ (.int .i64 gp))=vw7:=hnw;rw[hnw] at PP;try rw[hnw2]
        clear hnw hnw2 z0 z1 z2 q0 q1 q2;have J:=lH (show Kept wd vw7 from PP.out.below _ _ Vf.out J.out);have QA:=lH PP.out.cells;clear PP;refine Ky.out _ _ ((Vb.out.kept J.out).at5) (fun _=>?_);clear Ky K9;try simp only[nA,nB,nC,nD,nE]
        refine tR 9 rfl (by kernel_rfl) (fun _ _ _=>id) (Or.inl ⟨by rfl,by rintro W ⟨s0,s1,s2,s3,s4⟩;go_simp<;>with_reducible rfl⟩) ‹_› ?_;try simp only[nA,nB,nC,nD,nE]
        refine wpAnyH_done (by kernel_rfl) ?_ _;go_wp2;try go_meet
        try case rel=>exact⟨qb,rfl,rfl,QA.out,J0.out.trans J.out⟩
    · skip;go_simp;obtain⟨qb,hqb⟩:=eX (wd.heap.size)
      obtain⟨vw8,hnw⟩:=eX (wd.alloc (.cells #[.int .i64 0,.int .i64 0,.int .i64 0] 49))
      have kk:Kept wd vw8:=by rw[←hnw];exact ja _ _
      have QA:=lH (show ju qb [.int .i64 0,.int .i64 0,.int .i64 0] vw8 by rw[←hqb];exact jf wd (.int .i64 0) [.int .i64 0,.int .i64 0] 49 vw8 (by rw[hnw];exact Kept.refl _));have Vf:=lH (show wd.heap.size≤qb by rw[←hqb];exact J.out.size);try rw[hnw]
      try rw[hqb]
      have J:=lH (J.out.trans kk);clear kk hnw hqb;refine Ky.out _ _ ((Vb.out.kept J.out).at5) (fun _=>?_);clear Ky K9;try simp only[nA,nB,nC,nD,nE]
      refine rd1 2 fun K9 Ky=>?_;go_simp;refine(Vec.ofL (HT.out.kept J.out) V6.out).mono ?_;rintro e vw9 ⟨ov,rfl,hov,kk⟩;obtain⟨Vs,J,QA⟩:=lH3 hov (J.out.trans kk) (QA.out.kept kk);clear hov kk;refine Ky.out _ _ ((Vb.out.kept J.out).at5) (fun _=>?_);clear Ky K9;try simp only[nA,nB,nC,nD,nE]
      refine rd1 3 fun K9 Ky=>?_;go_simp;refine(VB.out _ _ (Ve.out.kept J.out) Vs.out).mono ?_;rintro e vw10 ⟨rfl,kk⟩;have J:=lH (J.out.trans kk);have QA:=lH (QA.out.kept kk);clear kk Vs;refine Ky.out _ _ ((Vb.out.kept J.out).at5) (fun _=>?_);clear Ky K9;try simp only[nA,nB,nC,nD,nE]
      refine tR 4 rfl (by kernel_rfl) (fun _ _ _=>id) (Or.inl ⟨by rfl,by rintro W ⟨s0,s1,s2,s3,s4⟩;go_simp<;>with_reducible rfl⟩) ‹_› ?_;try simp only[nA,nB,nC,nD,nE]
      refine tR 5 rfl (by kernel_rfl) (fun _ _ _=>id) (Or.inl ⟨by rfl,by rintro W ⟨s0,s1,s2,s3,s4⟩;go_simp<;>with_reducible rfl⟩) ‹_› ?_;try simp only[nA,nB,nC,nD,nE]
      refine tR 6 rfl (by kernel_rfl) (fun _ _ _=>id) (Or.inl ⟨by rfl,by rintro W ⟨s0,s1,s2,s3,s4⟩;go_simp<;>with_reducible rfl⟩) ‹_› ?_;try simp only[nA,nB,nC,nD,nE]
      refine rd1 8 fun K9 Ky=>?_;obtain⟨z0,z1,z2⟩:=QA.out.at3;have q0:=QA.out.free 0;have q1:=QA.out.free 1;have q2:=QA.out.free 2;go_simp;have PP:=lH (zo (vs:=[.int .i64 gu,.int .i64 gc,.int .i64 gp]) QA.out rfl);obtain⟨vw11,hnw⟩:=eX (vw10.setCells qb 0 [.int .i64 gu,.int .i64 gc,.int .i64 gp])
      have hnw2:(((vw10.setCell ⟨qb,0,none⟩ (.int .i64 gu)).setCell ⟨qb,1,none⟩ (.int .i64 gc)).setCell ⟨qb,2,none⟩ (.int .i64 gp))=vw11:=hnw;rw[hnw] at PP;try rw[hnw2]
      clear hnw hnw2 z0 z1 z2 q0 q1 q2;have J:=lH (show Kept wd vw11 from PP.out.below _ _ Vf.out J.out);have QA:=lH PP.out.cells;clear PP;refine Ky.out _ _ ((Vb.out.kept J.out).at5) (fun _=>?_);clear Ky K9;try simp only[nA,nB,nC,nD,nE]
      refine tR 9 rfl (by kernel_rfl) (fun _ _ _=>id) (Or.inl ⟨by rfl,by rintro W ⟨s0,s1,s2,s3,s4⟩;go_simp<;>with_reducible rfl⟩) ‹_› ?_;try simp only[nA,nB,nC,nD,nE]
      refine wpAnyH_done (by kernel_rfl) ?_ _;go_wp2;try go_meet
      try case rel=>exact⟨qb,rfl,rfl,QA.out,J0.out.trans J.out⟩
   case rest =>
    obtain⟨qb,rfl,rfl,hqa,kk⟩:=hcut;have HQ:=lH hqa;clear hqa;obtain⟨HL,Va,HK,HT,HE,Ve,Vb,HP⟩:=lH8 (HL.out.kept kk) (Va.out.kept kk) (HK.out.trans kk) (HT.out.kept kk) (HE.out.kept kk) (Ve.out.kept kk) (Vb.out.kept kk) (HP.out.kept kk);try clear y0 y1 y2 y3 y4
    obtain⟨y0,y1,y2,y3,y4⟩:=HL.out.at5;try clear x0 x1 x2 x3 x4
    obtain⟨x0,x1,x2,x3,x4⟩:=Vb.out.at5;clear kk;have hws:n.what.size≤1000:=by have:=VY.out.1;omega
    have hrs:n.rungs.length≤1000:=by have:=VY.out.2.2;omega
    have UG:=lH (fun W (h1:Vec.j5 W) (h2:jL W (.slice a1 l1 c1) (.slice a2 l2 c2) n)=>Yd n (.slice a1 l1 c1) a2 l2 c2 W h1 h2 hws VY.out.2.1 hrs);have TJ:=lH (fun W (h2:jL W (.slice b1 m1 d1) (.slice b2 m2 d2) n)=>qk n (.slice b1 m1 d1) (.slice b2 m2 d2) W h2 hws VY.out.2.1 hrs);unfold zz at TJ;go_upto_region 15 with fail
    obtain⟨w20,hwd⟩:=eX (wc.drew)
    have kk:Kept wc w20:=by rw[←hwd];exact Kept.drew wc
    obtain⟨HL,Va,HK,HT,HE,Ve,Vb,HP⟩:=lH8 (HL.out.kept kk) (Va.out.kept kk) (HK.out.trans kk) (HT.out.kept kk) (HE.out.kept kk) (Ve.out.kept kk) (Vb.out.kept kk) (HP.out.kept kk);have HQ:=lH (HQ.out.kept kk);clear kk y0 y1 y2 y3 y4 x0 x1 x2 x3 x4;refine wp_region_held_drew (S:=fun W=>(W.cell? ⟨lb,0,none⟩=some (.string n.what)∧W.cell? ⟨lb,1,none⟩=some (.slice a1 l1 c1)∧W.cell? ⟨lb,2,none⟩=some (.slice a2 l2 c2)∧W.cell? ⟨lb,3,none⟩=some (.int .i64 n.lo)∧W.cell? ⟨lb,4,none⟩=some (.int .i64 n.hi))∧(W.cell? ⟨xb,0,none⟩=some (.string n.what)∧W.cell? ⟨xb,1,none⟩=some (.slice b1 m1 d1)∧W.cell? ⟨xb,2,none⟩=some (.slice b2 m2 d2)∧W.cell? ⟨xb,3,none⟩=some (.int .i64 n.lo)∧W.cell? ⟨xb,4,none⟩=some (.int .i64 n.hi))∧(W.cell? ⟨pb,0,none⟩=some (.int .i64 gu)∧W.cell? ⟨pb,1,none⟩=some (.int .i64 gc)∧W.cell? ⟨pb,2,none⟩=some (.int .i64 gp))∧(W.cell? ⟨qb,0,none⟩=some (.int .i64 gu)∧W.cell? ⟨qb,1,none⟩=some (.int .i64 gc)∧W.cell? ⟨qb,2,none⟩=some (.int .i64 gp))) (by kernel_rfl) (by rw[hwd];exact⟨HL.out.at5,Vb.out.at5,HP.out.at3,HQ.out.at3⟩) (fun hHeld=>?_);rw[hwd] at hHeld;try rw[hwd]
    clear hwd;refine tR 0 rfl (by kernel_rfl) (fun _ _ _=>id) (Or.inl ⟨by rfl,(by intro W hSw;obtain⟨⟨s0,s1,s2,s3,s4⟩,⟨t0,t1,t2,t3,t4⟩,⟨r0,r1,r2⟩,⟨q0,q1,q2⟩⟩:=hSw;go_simp<;>with_reducible rfl)⟩) ‹_› ?_;try simp only[nA,nB,nC,nD,nE]
    refine tR 1 rfl (by kernel_rfl) (fun _ _ _=>id) (Or.inl ⟨by rfl,(by intro W hSw;obtain⟨⟨s0,s1,s2,s3,s4⟩,⟨t0,t1,t2,t3,t4⟩,⟨r0,r1,r2⟩,⟨q0,q1,q2⟩⟩:=hSw;go_simp<;>with_reducible rfl)⟩) ‹_› ?_;try simp only[nA,nB,nC,nD,nE]
    refine tR 2 rfl (by kernel_rfl) (fun _ _ _=>id) (Or.inl ⟨by rfl,(by intro W hSw;obtain⟨⟨s0,s1,s2,s3,s4⟩,⟨t0,t1,t2,t3,t4⟩,⟨r0,r1,r2⟩,⟨q0,q1,q2⟩⟩:=hSw;go_simp<;>with_reducible rfl)⟩) ‹_› ?_;try simp only[nA,nB,nC,nD,nE]
    refine tR 3 rfl (by kernel_rfl) (fun _ _ _=>id) (Or.inl ⟨by rfl,(by intro W hSw;obtain⟨⟨s0,s1,s2,s3,s4⟩,⟨t0,t1,t2,t3,t4⟩,⟨r0,r1,r2⟩,⟨q0,q1,q2⟩⟩:=hSw;go_simp<;>with_reducible rfl)⟩) ‹_› ?_;try simp only[nA,nB,nC,nD,nE]
    refine tR 4 rfl (by kernel_rfl) (fun _ _ _=>id) (Or.inl ⟨by rfl,(by intro W hSw;obtain⟨⟨s0,s1,s2,s3,s4⟩,⟨t0,t1,t2,t3,t4⟩,⟨r0,r1,r2⟩,⟨q0,q1,q2⟩⟩:=hSw;go_simp<;>with_reducible rfl)⟩) ‹_› ?_;try simp only[nA,nB,nC,nD,nE]
    refine tR 5 rfl (by kernel_rfl) (fun _ _ _=>id) (Or.inl ⟨by rfl,(by intro W hSw;obtain⟨⟨s0,s1,s2,s3,s4⟩,⟨t0,t1,t2,t3,t4⟩,⟨r0,r1,r2⟩,⟨q0,q1,q2⟩⟩:=hSw;go_simp<;>with_reducible rfl)⟩) ‹_› ?_;try simp only[nA,nB,nC,nD,nE]
    refine tR 6 rfl (by kernel_rfl) (fun _ _ _=>id) (Or.inl ⟨by rfl,(by intro W hSw;obtain⟨⟨s0,s1,s2,s3,s4⟩,⟨t0,t1,t2,t3,t4⟩,⟨r0,r1,r2⟩,⟨q0,q1,q2⟩⟩:=hSw;go_simp<;>with_reducible rfl)⟩) ‹_› ?_;try simp only[nA,nB,nC,nD,nE]
    refine tR 7 rfl (by kernel_rfl) (fun _ _ _=>id) (Or.inl ⟨by rfl,(by intro W hSw;obtain⟨⟨s0,s1,s2,s3,s4⟩,⟨t0,t1,t2,t3,t4⟩,⟨r0,r1,r2⟩,⟨q0,q1,q2⟩⟩:=hSw;go_simp<;>with_reducible rfl)⟩) ‹_› ?_;try simp only[nA,nB,nC,nD,nE]
    refine tR 8 rfl (by kernel_rfl) (fun _ _ _=>id) (Or.inl ⟨by rfl,(by intro W hSw;obtain⟨⟨s0,s1,s2,s3,s4⟩,⟨t0,t1,t2,t3,t4⟩,⟨r0,r1,r2⟩,⟨q0,q1,q2⟩⟩:=hSw;go_simp<;>with_reducible rfl)⟩) ‹_› ?_;try simp only[nA,nB,nC,nD,nE]
    refine tR 9 rfl (by kernel_rfl) (fun _ _ _=>id) (Or.inl ⟨by rfl,(by intro W hSw;obtain⟨⟨s0,s1,s2,s3,s4⟩,⟨t0,t1,t2,t3,t4⟩,⟨r0,r1,r2⟩,⟨q0,q1,q2⟩⟩:=hSw;go_simp<;>with_reducible rfl)⟩) ‹_› ?_;try simp only[nA,nB,nC,nD,nE]
    refine tR 10 rfl (by kernel_rfl) (fun _ _ _=>id) (Or.inl ⟨by rfl,(by intro W hSw;obtain⟨⟨s0,s1,s2,s3,s4⟩,⟨t0,t1,t2,t3,t4⟩,⟨r0,r1,r2⟩,⟨q0,q1,q2⟩⟩:=hSw;go_simp<;>with_reducible rfl)⟩) ‹_› ?_;try simp only[nA,nB,nC,nD,nE]
    refine tR 11 rfl (by kernel_rfl) (fun _ _ _=>id) (Or.inl ⟨by rfl,(by intro W hSw;obtain⟨⟨s0,s1,s2,s3,s4⟩,⟨t0,t1,t2,t3,t4⟩,⟨r0,r1,r2⟩,⟨q0,q1,q2⟩⟩:=hSw;go_simp<;>with_reducible rfl)⟩) ‹_› ?_;try simp only[nA,nB,nC,nD,nE]
    refine tR 12 rfl (by kernel_rfl) (fun _ _ _=>id) (Or.inl ⟨by rfl,(by intro W hSw;obtain⟨⟨s0,s1,s2,s3,s4⟩,⟨t0,t1,t2,t3,t4⟩,⟨r0,r1,r2⟩,⟨q0,q1,q2⟩⟩:=hSw;go_simp<;>with_reducible rfl)⟩) ‹_› ?_;try simp only[nA,nB,nC,nD,nE]
    refine tR 13 rfl (by kernel_rfl) (fun _ _ _=>id) (Or.inl ⟨by rfl,(by intro W hSw;obtain⟨⟨s0,s1,s2,s3,s4⟩,⟨t0,t1,t2,t3,t4⟩,⟨r0,r1,r2⟩,⟨q0,q1,q2⟩⟩:=hSw;go_simp<;>with_reducible rfl)⟩) ‹_› ?_;try simp only[nA,nB,nC,nD,nE]
    refine tR 14 rfl (by kernel_rfl) (fun _ _ _=>id) (Or.inl ⟨by rfl,(by intro W hSw;obtain⟨⟨s0,s1,s2,s3,s4⟩,⟨t0,t1,t2,t3,t4⟩,⟨r0,r1,r2⟩,⟨q0,q1,q2⟩⟩:=hSw;go_simp<;>with_reducible rfl)⟩) ‹_› ?_;try simp only[nA,nB,nC,nD,nE]
    refine tR 15 rfl (by kernel_rfl) (fun _ _ _=>id) (Or.inl ⟨by rfl,(by intro W hSw;obtain⟨⟨s0,s1,s2,s3,s4⟩,⟨t0,t1,t2,t3,t4⟩,⟨r0,r1,r2⟩,⟨q0,q1,q2⟩⟩:=hSw;go_simp<;>with_reducible rfl)⟩) ‹_› ?_;try simp only[nA,nB,nC,nD,nE]
    refine tR 16 rfl (by kernel_rfl) (fun _ _ _=>id) (Or.inl ⟨by rfl,(by intro W hSw;obtain⟨⟨s0,s1,s2,s3,s4⟩,⟨t0,t1,t2,t3,t4⟩,⟨r0,r1,r2⟩,⟨q0,q1,q2⟩⟩:=hSw;go_simp<;>with_reducible rfl)⟩) ‹_› ?_;try simp only[nA,nB,nC,nD,nE]
    refine tR 17 rfl (by kernel_rfl) (fun _ _ _=>id) (Or.inl ⟨by rfl,(by intro W hSw;obtain⟨⟨s0,s1,s2,s3,s4⟩,⟨t0,t1,t2,t3,t4⟩,⟨r0,r1,r2⟩,⟨q0,q1,q2⟩⟩:=hSw;go_simp<;>with_reducible rfl)⟩) ‹_› ?_;try simp only[nA,nB,nC,nD,nE]
    refine tR 18 rfl (by kernel_rfl) (fun _ _ _=>id) (Or.inl ⟨by rfl,(by intro W hSw;obtain⟨⟨s0,s1,s2,s3,s4⟩,⟨t0,t1,t2,t3,t4⟩,⟨r0,r1,r2⟩,⟨q0,q1,q2⟩⟩:=hSw;go_simp<;>with_reducible rfl)⟩) ‹_› ?_;try simp only[nA,nB,nC,nD,nE]
    refine tR 19 rfl (by kernel_rfl) (fun _ _ _=>id) (Or.inl ⟨by rfl,(by intro W hSw;obtain⟨⟨s0,s1,s2,s3,s4⟩,⟨t0,t1,t2,t3,t4⟩,⟨r0,r1,r2⟩,⟨q0,q1,q2⟩⟩:=hSw;go_simp<;>with_reducible rfl)⟩) ‹_› ?_;try simp only[nA,nB,nC,nD,nE]
    refine tR 20 rfl (by kernel_rfl) (fun _ _ _=>id) (Or.inl ⟨by rfl,(by intro W hSw;obtain⟨⟨s0,s1,s2,s3,s4⟩,⟨t0,t1,t2,t3,t4⟩,⟨r0,r1,r2⟩,⟨q0,q1,q2⟩⟩:=hSw;go_simp<;>with_reducible rfl)⟩) ‹_› ?_;try simp only[nA,nB,nC,nD,nE]
    refine tR 21 rfl (by kernel_rfl) (fun _ _ _=>id) (Or.inl ⟨by rfl,(by intro W hSw;obtain⟨⟨s0,s1,s2,s3,s4⟩,⟨t0,t1,t2,t3,t4⟩,⟨r0,r1,r2⟩,⟨q0,q1,q2⟩⟩:=hSw;go_simp<;>with_reducible rfl)⟩) ‹_› ?_;try simp only[nA,nB,nC,nD,nE]
    refine tR 22 rfl (by kernel_rfl) (fun _ _ _=>id) (Or.inl ⟨by rfl,(by intro W hSw;obtain⟨⟨s0,s1,s2,s3,s4⟩,⟨t0,t1,t2,t3,t4⟩,⟨r0,r1,r2⟩,⟨q0,q1,q2⟩⟩:=hSw;go_simp<;>with_reducible rfl)⟩) ‹_› ?_;try simp only[nA,nB,nC,nD,nE]
    refine tR 23 rfl (by kernel_rfl) (fun _ _ _=>id) (Or.inl ⟨by rfl,(by intro W hSw;obtain⟨⟨s0,s1,s2,s3,s4⟩,⟨t0,t1,t2,t3,t4⟩,⟨r0,r1,r2⟩,⟨q0,q1,q2⟩⟩:=hSw;go_simp<;>with_reducible rfl)⟩) ‹_› ?_;try simp only[nA,nB,nC,nD,nE]
    refine tR 24 rfl (by kernel_rfl) (fun _ _ _=>id) (Or.inl ⟨by rfl,(by intro W hSw;obtain⟨⟨s0,s1,s2,s3,s4⟩,⟨t0,t1,t2,t3,t4⟩,⟨r0,r1,r2⟩,⟨q0,q1,q2⟩⟩:=hSw;go_simp<;>with_reducible rfl)⟩) ‹_› ?_;try simp only[nA,nB,nC,nD,nE]
    refine tR 25 rfl (by kernel_rfl) (fun _ _ _=>id) (Or.inl ⟨by rfl,(by intro W hSw;obtain⟨⟨s0,s1,s2,s3,s4⟩,⟨t0,t1,t2,t3,t4⟩,⟨r0,r1,r2⟩,⟨q0,q1,q2⟩⟩:=hSw;go_simp<;>with_reducible rfl)⟩) ‹_› ?_;try simp only[nA,nB,nC,nD,nE]
    refine tR 27 rfl (by kernel_rfl) (fun _ _ _=>id) (Or.inl ⟨by rfl,(by intro W hSw;obtain⟨⟨s0,s1,s2,s3,s4⟩,⟨t0,t1,t2,t3,t4⟩,⟨r0,r1,r2⟩,⟨q0,q1,q2⟩⟩:=hSw;go_simp<;>with_reducible rfl)⟩) ‹_› ?_;try simp only[nA,nB,nC,nD,nE]
    refine rd1 26 fun K9 Ky=>?_;go_simp;refine(UG.out _ HE.out Va.out).mono ?_;rintro e w21 ⟨rfl,kk⟩;obtain⟨HL,Va,HK,HT,HE,Ve,Vb,HP⟩:=lH8 (HL.out.kept kk) (Va.out.kept kk) (HK.out.trans kk) (HT.out.kept kk) (HE.out.kept kk) (Ve.out.kept kk) (Vb.out.kept kk) (HP.out.kept kk);have HQ:=lH (HQ.out.kept kk);clear kk;refine Ky.out _ _ (⟨HL.out.at5,Vb.out.at5,HP.out.at3,HQ.out.at3⟩) (fun _=>?_);clear Ky K9;try simp only[nA,nB,nC,nD,nE]
    refine rd1 28 fun K9 Ky=>?_;go_simp;refine(TJ.out _ Ve.out).mono ?_;rintro e w22 ⟨rfl,kk⟩;obtain⟨HL,Va,HK,HT,HE,Ve,Vb,HP⟩:=lH8 (HL.out.kept kk) (Va.out.kept kk) (HK.out.trans kk) (HT.out.kept kk) (HE.out.kept kk) (Ve.out.kept kk) (Vb.out.kept kk) (HP.out.kept kk);have HQ:=lH (HQ.out.kept kk);clear kk;refine Ky.out _ _ (⟨HL.out.at5,Vb.out.at5,HP.out.at3,HQ.out.at3⟩) (fun _=>?_);clear Ky K9;try simp only[nA,nB,nC,nD,nE]
    refine tR 29 rfl (by kernel_rfl) (fun _ _ _=>id) (Or.inl ⟨by rfl,(by intro W hSw;obtain⟨⟨s0,s1,s2,s3,s4⟩,⟨t0,t1,t2,t3,t4⟩,⟨r0,r1,r2⟩,⟨q0,q1,q2⟩⟩:=hSw;go_simp<;>with_reducible rfl)⟩) ‹_› ?_;try simp only[nA,nB,nC,nD,nE]
    refine tR 30 rfl (by kernel_rfl) (fun _ _ _=>id) (Or.inl ⟨by rfl,(by intro W hSw;obtain⟨⟨s0,s1,s2,s3,s4⟩,⟨t0,t1,t2,t3,t4⟩,⟨r0,r1,r2⟩,⟨q0,q1,q2⟩⟩:=hSw;go_simp<;>with_reducible rfl)⟩) ‹_› ?_;try simp only[nA,nB,nC,nD,nE]
    refine wpAnyH_done (by kernel_rfl) ?_ _;obtain⟨y0,y1,y2,y3,y4⟩:=HL.out.at5;obtain⟨x0,x1,x2,x3,x4⟩:=Vb.out.at5;go_wp2_with fail
    refine(UG.out _ HE.out Va.out).mono ?_;rintro e w23 ⟨rfl,kk⟩;obtain⟨HL,Va,HK,HT,HE,Ve,Vb⟩:=lH7 (HL.out.kept kk) (Va.out.kept kk) (HK.out.trans kk) (HT.out.kept kk) (HE.out.kept kk) (Ve.out.kept kk) (Vb.out.kept kk);try clear y0 y1 y2 y3 y4
    obtain⟨y0,y1,y2,y3,y4⟩:=HL.out.at5;try clear x0 x1 x2 x3 x4
    obtain⟨x0,x1,x2,x3,x4⟩:=Vb.out.at5;clear kk;have Vd:=lH (show (jQ n).length≤900000 by
     have h1:=Zu (jV n) 2000 (YL hws (Zl VY.out.2.1 (by obtain⟨_,_,-,-,-,q⟩:=Va.out.unit;exact q.2.2.1)) (qK Va.out.lo Va.out.hi) Va.out.rungs.fine);have h2:(jV n).length≤23:=by have:=VY.out.2.2;unfold jV;simp;omega
     have h3:(jV n).length*(2000+1)≤23*2001:=Nat.mul_le_mul h2 (Nat.le_refl _);show (Lib.join (jV n) [32]).length≤900000;omega)
    have Vr:=lH (Jq (jQ n) w23 HE.out Vd.out);rw[qo VI.out (by obtain⟨_,_,-,-,-,q⟩:=Va.out.unit;exact q.2.2.1) Va.out.rungs.fine] at Vr;unfold Xt at Vr;dsimp only at Vr;go_wp2_with fail
    refine Vr.out.mono ?_;rintro e w24 ⟨pv,rfl,⟨g1,k1,h1,g2,k2,h2,rfl,hpa,-,-⟩,kk⟩;have VE:=lH hpa;clear hpa;obtain⟨HL,Va,HK,HT,HE,Ve,Vb⟩:=lH7 (HL.out.kept kk) (Va.out.kept kk) (HK.out.trans kk) (HT.out.kept kk) (HE.out.kept kk) (Ve.out.kept kk) (Vb.out.kept kk);try clear y0 y1 y2 y3 y4
    obtain⟨y0,y1,y2,y3,y4⟩:=HL.out.at5;try clear x0 x1 x2 x3 x4
    obtain⟨x0,x1,x2,x3,x4⟩:=Vb.out.at5;clear kk;clear Vr;obtain⟨w25,hw25⟩:=eX (w24.alloc (.cells #[.string n.what,.slice g1 k1 h1,.slice g2 k2 h2,.int .i64 n.lo,.int .i64 n.hi] 26))
    have kk:Kept w24 w25:=by rw[←hw25];exact ja _ _
    have HH:=lH (jf w24 (.string n.what) [.slice g1 k1 h1,.slice g2 k2 h2,.int .i64 n.lo,.int .i64 n.hi] 26 w25 (by rw[hw25];exact Kept.refl _));obtain⟨hb,hhb⟩:=eX (w24.heap.size)
    rw[hhb] at HH;go_upto_region 18 with fail
    try rw[hw25]
    try rw[hhb]
    clear hw25 hhb;obtain⟨HL,Va,HK,HT,HE,Ve,Vb,VE⟩:=lH8 (HL.out.kept kk) (Va.out.kept kk) (HK.out.trans kk) (HT.out.kept kk) (HE.out.kept kk) (Ve.out.kept kk) (Vb.out.kept kk) (VE.out.kept kk);try clear y0 y1 y2 y3 y4
    obtain⟨y0,y1,y2,y3,y4⟩:=HL.out.at5;try clear x0 x1 x2 x3 x4
    obtain⟨x0,x1,x2,x3,x4⟩:=Vb.out.at5;clear kk;obtain⟨w26,hwd⟩:=eX (w25.drew)
    have kk:Kept w25 w26:=by rw[←hwd];exact Kept.drew w25
    obtain⟨HL,Va,HK,HT,HE,Ve,Vb,VE⟩:=lH8 (HL.out.kept kk) (Va.out.kept kk) (HK.out.trans kk) (HT.out.kept kk) (HE.out.kept kk) (Ve.out.kept kk) (Vb.out.kept kk) (VE.out.kept kk);have HH:=lH (HH.out.kept kk);clear kk y0 y1 y2 y3 y4 x0 x1 x2 x3 x4;refine wp_region_held_drew (S:=fun W=>(W.cell? ⟨hb,0,none⟩=some (.string n.what)∧W.cell? ⟨hb,1,none⟩=some (.slice g1 k1 h1)∧W.cell? ⟨hb,2,none⟩=some (.slice g2 k2 h2)∧W.cell? ⟨hb,3,none⟩=some (.int .i64 n.lo)∧W.cell? ⟨hb,4,none⟩=some (.int .i64 n.hi))∧(W.cell? ⟨xb,0,none⟩=some (.string n.what)∧W.cell? ⟨xb,1,none⟩=some (.slice b1 m1 d1)∧W.cell? ⟨xb,2,none⟩=some (.slice b2 m2 d2)∧W.cell? ⟨xb,3,none⟩=some (.int .i64 n.lo)∧W.cell? ⟨xb,4,none⟩=some (.int .i64 n.hi))) (by kernel_rfl) (by rw[hwd];exact⟨HH.out.at5,Vb.out.at5⟩) (fun hHeld=>?_);rw[hwd] at hHeld;try rw[hwd]
    clear hwd;refine tR 0 rfl (by kernel_rfl) (fun _ _ _=>id) (Or.inl ⟨by rfl,(by intro W hSw;obtain⟨⟨s0,s1,s2,s3,s4⟩,⟨t0,t1,t2,t3,t4⟩⟩:=hSw;go_simp<;>with_reducible rfl)⟩) ‹_› ?_;try simp only[nA,nB,nC,nD,nE]
    refine tR 1 rfl (by kernel_rfl) (fun _ _ _=>id) (Or.inl ⟨by rfl,(by intro W hSw;obtain⟨⟨s0,s1,s2,s3,s4⟩,⟨t0,t1,t2,t3,t4⟩⟩:=hSw;go_simp<;>with_reducible rfl)⟩) ‹_› ?_;try simp only[nA,nB,nC,nD,nE]
    refine tR 2 rfl (by kernel_rfl) (fun _ _ _=>id) (Or.inl ⟨by rfl,(by intro W hSw;obtain⟨⟨s0,s1,s2,s3,s4⟩,⟨t0,t1,t2,t3,t4⟩⟩:=hSw;go_simp<;>with_reducible rfl)⟩) ‹_› ?_;try simp only[nA,nB,nC,nD,nE]
    refine tR 3 rfl (by kernel_rfl) (fun _ _ _=>id) (Or.inl ⟨by rfl,(by intro W hSw;obtain⟨⟨s0,s1,s2,s3,s4⟩,⟨t0,t1,t2,t3,t4⟩⟩:=hSw;go_simp<;>with_reducible rfl)⟩) ‹_› ?_;try simp only[nA,nB,nC,nD,nE]
    refine tR 5 rfl (by kernel_rfl) (fun _ _ _=>id) (Or.inl ⟨by rfl,(by intro W hSw;obtain⟨⟨s0,s1,s2,s3,s4⟩,⟨t0,t1,t2,t3,t4⟩⟩:=hSw;go_simp<;>with_reducible rfl)⟩) ‹_› ?_;try simp only[nA,nB,nC,nD,nE]
    refine rd1 4 fun K9 Ky=>?_;go_simp;refine(X5 n g1 g2 k1 h1 k2 h2 _ VE.out (by have:=Tj.out;omega) (by have:=VY.out.2.2;omega)).mono ?_;rintro e w27 ⟨yv,rfl,hy,kk⟩;have HY:=lH hy.toR;clear hy;obtain⟨HL,Va,HK,HT,HE,Ve,Vb,VE⟩:=lH8 (HL.out.kept kk) (Va.out.kept kk) (HK.out.trans kk) (HT.out.kept kk) (HE.out.kept kk) (Ve.out.kept kk) (Vb.out.kept kk) (VE.out.kept kk);have HH:=lH (HH.out.kept kk);clear kk;refine Ky.out _ _ (⟨HH.out.at5,Vb.out.at5⟩) (fun _=>?_);clear Ky K9;try simp only[nA,nB,nC,nD,nE]
    refine rd1 6 fun K9 Ky=>?_;go_simp;refine(jcG (u:=.agg #[.string n.what,.slice b1 m1 d1,.slice b2 m2 d2,.int .i64 n.lo,.int .i64 n.hi]) HY.out ⟨_,_,rfl,Ve.out⟩).mono ?_;rintro e w28 ⟨rfl,kk⟩;obtain⟨HL,Va,HK,HT,HE,Ve,Vb,VE⟩:=lH8 (HL.out.kept kk) (Va.out.kept kk) (HK.out.trans kk) (HT.out.kept kk) (HE.out.kept kk) (Ve.out.kept kk) (Vb.out.kept kk) (VE.out.kept kk);have HH:=lH (HH.out.kept kk);clear kk;refine Ky.out _ _ (⟨HH.out.at5,Vb.out.at5⟩) (fun _=>?_);clear Ky K9;try simp only[nA,nB,nC,nD,nE]
    refine tR 7 rfl (by kernel_rfl) (fun _ _ _=>id) (Or.inl ⟨by rfl,(by intro W hSw;obtain⟨⟨s0,s1,s2,s3,s4⟩,⟨t0,t1,t2,t3,t4⟩⟩:=hSw;go_simp<;>with_reducible rfl)⟩) ‹_› ?_;try simp only[nA,nB,nC,nD,nE]
    refine tR 8 rfl (by kernel_rfl) (fun _ _ _=>id) (Or.inl ⟨by rfl,(by intro W hSw;obtain⟨⟨s0,s1,s2,s3,s4⟩,⟨t0,t1,t2,t3,t4⟩⟩:=hSw;go_simp<;>with_reducible rfl)⟩) ‹_› ?_;try simp only[nA,nB,nC,nD,nE]
    refine wpAnyH_done (by kernel_rfl) ?_ _;go_wp2;go_ret;exact⟨rfl,HK.out⟩
end Go.Proofs.YtnfojaidmnccoaaGreatDoor
