/- isOdd, powerOfTen and divideToNearest of rational. divideToNearest and Format of rational. -/
import Derived.Test.YtdeedofmflelfaaGreatDoorRe
import Derived.Test.YtdeedofmflelfaaGreatDoorQIlz
import Derived.Test.YtdeedofmflelfaaGreatDoorQIgz
import Derived.Test.YtdeedofmflelfaaGreatDoorSi
import Derived.Lib.BitFns
namespace Go.Proofs.YtdeedofmflelfaaGreatDoor
open Go.RowKit RQ
theorem ngN (N:Nat):ng (N:Int)=false:=decide_eq_false (by omega)
/-- What a function that returns one number without a sign leaves. -/
def RetU (N:Nat) (w:World) (e:Ending) (w':World):Prop:=∃ A n c,e=.returned (.agg #[.bool false,.slice A n c])∧Rd w' A n c (limbs N)∧Below w.heap.size w w'
theorem RetI.u {N:Nat} {w:World} {e:Ending} {w':World} (h:RetI (N:Int) w e w'):RetU N w e w':=by
 obtain⟨A,n,c,he,R,B⟩:=h
 rw[ngN] at he
 rw[Int.natAbs_natCast] at R
 exact⟨A,n,c,he,R,B⟩
theorem RetU.i {N:Nat} {w:World} {e:Ending} {w':World} (h:RetU N w e w'):RetI (N:Int) w e w':=by
 obtain⟨A,n,c,he,R,B⟩:=h
 refine⟨A,n,c,by rw[ngN];exact he,by rw[Int.natAbs_natCast];exact R,B⟩
theorem i64_and1 (n:Int):bits .and .i64 n 1=n%2:=by
 have h127:(BitVec.ofInt 64 1).toNat=2^1-1:=by decide
 have key:(BitVec.ofInt 64 n &&& BitVec.ofInt 64 1).toNat=(n%((2^64:Nat):Int)).toNat%2^1:=by
  rw[BitVec.toNat_and,BitVec.toNat_ofInt,h127,Nat.and_two_pow_sub_one_eq_mod]
 show IntKind.i64.wrap ((BitVec.ofInt 64 n &&& BitVec.ofInt 64 1).toNat:Nat)=n%2
 rw[key,IntKind.wrap_i64]
 omega
theorem pow10_lt (j:Nat):10^j<4294967296^(j+1):=by
 have h1:10^j≤4294967296^j:=Nat.pow_le_pow_left (by decide) j
 have h2:0<4294967296^j:=Nat.pow_pos (by decide)
 rw[Nat.pow_succ];omega
theorem pow10_len (j:Nat):(limbs (10^j)).length≤j+1:=limbs_len_le.2 (pow10_lt j)
theorem mulU_any (p q:Nat) (A:Option Addr) (n c:Nat) (A':Option Addr) (n' c':Nat) (w:World) (R1:Rd w A n c (limbs p)) (R2:Rd w A' n' c' (limbs q)) (hn:n≤1000) (hn':n'≤1000) :
  Calls Tryz.prog 194 #[.agg #[.bool false,.slice A n c],.agg #[.bool false,.slice A' n' c']] w (RetU (p*q) w):=by
 have:=mulI_any false A n c _ false A' n' c' _ w R1 R2 hn hn'
 rw[iv_pos,iv_pos,←Int.natCast_mul] at this
 exact this.mono fun _ _ h=>h.u
theorem fromIntU_any (v:Nat) (w:World) (h1:v≤9223372036854775807):Calls Tryz.prog 90 #[.int .i64 (v:Int)] w (RetU v w):=
 (fromInt_any v w (by omega) (by omega)).mono fun _ _ h=>h.u
theorem bitLen_div:∀ (f x:Nat),x<2^f→x / 2^Lib.bitLenAux f x=0∧Lib.bitLenAux f x≤f
 | 0,x,h=>by simp at h;subst h;simp[Lib.bitLenAux]
 | f+1,x,h=>by
  unfold Lib.bitLenAux
  split
  ·rename_i h0;subst h0;simp
  ·obtain⟨a,b⟩:=bitLen_div f (x / 2) (by rw[Nat.pow_succ] at h;omega)
   refine⟨?_,by omega⟩
   rw[Nat.add_comm 1,Nat.pow_succ,Nat.mul_comm,←Nat.div_div_eq_div_mul];exact a
theorem exp_step (k j:Nat):k / 2^j=2*(k / 2^(j+1))+k / 2^j%2:=by
 rw[Nat.pow_succ,←Nat.div_div_eq_div_mul];omega
theorem res_pow10 (W:World) (tmps:Array Value) (g t:Nat) {v0 v1:Value} (ht:tmps.getD 2 undef=.pointer (some ⟨g,0,none⟩)) (h:Cb W g #[v0,v1] t) :
  (results Tryz.f195 tmps).run Tryz.prog W=.ok (.agg #[v0,v1]) W:=by
 have c0:W.cell? ⟨g,0,none⟩=some v0:=h.cell rfl
 have c1:W.cell? ⟨g,1,none⟩=some v1:=h.cell rfl
 have ht':tmps[2]?.getD undef=.pointer (some ⟨g,0,none⟩):=by rw[←ht];simp[Array.getD_eq_getD_getElem?]
 simp[results,Tryz.results195,go_sem,ht',c0,c1]
set_option maxHeartbeats 4000000 in
theorem powerOfTen_any (k:Nat) (w:World) (hk:k≤990):Calls Tryz.prog 195 #[.int .i64 (k:Int)] w (RetU (10^k) w):=by
 have h10:=Lib.hid (fun W=>fromIntU_any 10 W (by decide))
 have h1:=Lib.hid (fun W=>fromIntU_any 1 W (by decide))
 have hM:=Lib.hid (fun (p q:Nat) A n c A' n' c' W q1 q2 a b=>mulU_any p q A n c A' n' c' W q1 q2 a b)
 have k0:(0:Int)≤(k:Int):=by omega
 have k1:(k:Int)≤1000:=by omega
 obtain⟨hb1,hb2⟩:=bitLen_div 64 k (by omega)
 obtain⟨L,hL⟩:∃ L,Lib.bitLen k=L:=⟨_,rfl⟩
 have hBL:=fun W=>Tryz.bits_Len (k:Int) W (by omega) (by omega)
 rw[Int.toNat_natCast,hL] at hBL
 unfold Lib.bitLen at hL
 rw[hL] at hb1 hb2
 have L0:(0:Int)≤(L:Int):=by omega
 have L1:(L:Int)≤64:=by omega
 replace hBL:=Lib.hid hBL
 replace hb1:=Lib.hid hb1
 replace hb2:=Lib.hid hb2
 replace hk:=Lib.hid hk
 clear hL
 have S:=((St.new w).allocAt (w.heap.size) #[.bool false,.slice none 0 0] 44 (noL2 _ _ _ _) (by simp))
 replace S:=Lib.hid S
 go_enter Tryz.func195,Tryz.ntmps195
 go_wp2_with fail
 refine (h10.out _).mono ?_
 rintro e w1 ⟨A1,n1,c1,rfl,Q,bb⟩
 have T:=((S.out.call bb).read Q)
 clear bb S
 have S:=T
 clear T
 obtain⟨c_r0,c_r1,f_r0,f_r1⟩:=S.cf2 0 rfl
 have hz:w.heap.size<w1.heap.size:=S.lt 0 rfl
 replace S:=Lib.hid S
 clear Q h10
 go_wp2_with fail
 refine (h1.out _).mono ?_
 rintro e w2 ⟨A2,n2,c2,rfl,Q,bb⟩
 have T:=(((S.out.allocAt (w1.heap.size) #[.bool false,.slice A1 n1 c1] 44 (noL2 _ _ _ _) (by simp)).call bb).read Q)
 clear bb S c_r0 f_r0 c_r1 f_r1 hz
 have S:=T
 clear T
 obtain⟨c_t0,c_t1,f_t0,f_t1⟩:=S.cf2 0 rfl
 obtain⟨c_r0,c_r1,f_r0,f_r1⟩:=S.cf2 1 rfl
 have hz:w1.heap.size<w2.heap.size:=S.lt 0 rfl
 replace S:=Lib.hid S
 clear Q h1
 have hT:Hid (n1≤1000):=Lib.hid (by have:=(S.out.r 1 rfl).len;have h2:(limbs (10^1)).length≤2:=pow10_len 1;rw[show 10^1=10 from rfl] at h2;omega)
 have S:=(S.out.allocAt (w2.heap.size) #[.bool false,.slice A2 n2 c2] 44 (noL2 _ _ _ _) (by simp))
 replace S:=Lib.hid S
 go_wp2_with fail
 refine (hBL.out _).mono ?_
 rintro e _ ⟨rfl,rfl⟩
 clear hBL c_t0 f_t0 c_t1 f_t1 c_r0 f_r0 c_r1 f_r1 hz
 go_wp2_with fail
 have S:=S.out
 generalize hW3:(World.alloc w2 (.cells #[.bool false,.slice A2 n2 c2] 44))=w3 at S ⊢
 clear hW3
 replace S:=Lib.hid S
 go_loopw [5] (fun iv wr=>∃ (i:Int) (j:Nat) (A:Option Addr) (n c:Nat),iv=.int .i64 i∧i+1=(j:Int)∧j≤64∧St w wr [(w2.heap.size,#[.bool false,.slice A n c],44),(w1.heap.size,#[.bool false,.slice A1 n1 c1],44),(w.heap.size,#[.bool false,.slice none 0 0],44)] [(A,n,c,limbs (10^(k / 2^j))),(A1,n1,c1,limbs 10)]) (fun iv _=>(intOf iv+1).toNat)
 case atStart=>
  refine⟨(L:Int)-1,L,A2,n2,c2,by go_num,by omega,hb2.out,?_⟩
  rw[hb1.out];exact S.out
 case round=>
  obtain⟨i,j,A,n,c,rfl,hij,hj,T⟩:=hrel
  clear S
  have S:=T
  clear T
  obtain⟨c_p0,c_p1,f_p0,f_p1⟩:=S.cf2 0 rfl
  obtain⟨c_t0,c_t1,f_t0,f_t1⟩:=S.cf2 1 rfl
  obtain⟨c_r0,c_r1,f_r0,f_r1⟩:=S.cf2 2 rfl
  have hz:w2.heap.size<wr.heap.size:=S.lt 0 rfl
  replace S:=Lib.hid S
  have hn:Hid (n≤1000):=Lib.hid (by have:=(S.out.r 0 rfl).len;have h2:=pow10_len (k / 2^j);have:=Nat.div_le_self k (2^j);have:=hk.out;omega)
  by_cases h0:i<0
  ·have hj0:j=0:=by omega
   have he:Hid (k / 2^j=k):=Lib.hid (by rw[hj0];simp)
   clear hij hj hj0
   have S:=S.out
   obtain⟨a_p0,a_p1,b_p0,b_p1⟩:=S.cf2 0 rfl
   obtain⟨a_r0,a_r1,b_r0,b_r1⟩:=S.cf2 2 rfl
   replace S:=Lib.hid S
   have S2:St w _ [(w2.heap.size,#[.bool false,.slice A n c],44),(w1.heap.size,#[.bool false,.slice A1 n1 c1],44),(w.heap.size,#[.bool false,.slice A n c],44)] [(A,n,c,limbs (10^(k / 2^j))),(A1,n1,c1,limbs 10)]:=((S.out.set 2 0 (.bool false) rfl (by nofun)).set 2 1 (.slice A n c) rfl (by nofun))
   replace S2:=Lib.hid S2
   go_wp2
   refine bodyPost_ret (res_pow10 _ _ (w.heap.size) 44 rfl (S2.out.bk _ (List.mem_of_getElem? (i:=2) rfl)).1) rfl ?_
   exact⟨A,n,c,rfl,by have:=S2.out.r 0 rfl;rwa [he.out] at this,S2.out.bel⟩
  ·obtain⟨m,hm⟩:∃ m:Nat,i=(m:Int):=⟨i.toNat,by omega⟩
   have hjm:j=m+1:=by omega
   subst hm hjm
   have i0:(0:Int)≤(m:Int):=by omega
   have i1:(m:Int)≤64:=by omega
   have hst:=exp_step k m
   have hdv:=Nat.div_le_self k (2^m)
   have hbit:bits .and .i64 ((k:Int) / 2^((m:Int)).toNat) 1=((k / 2^m%2:Nat):Int):=by rw[i64_and1,Int.toNat_natCast];rw[show (2:Int)^m=((2^m:Nat):Int) by simp,←Int.natCast_ediv];omega
   rw[Int.toNat_natCast] at hbit
   have hsq:Hid (10^(k / 2^(m+1))*10^(k / 2^(m+1))=10^(2*(k / 2^(m+1)))):=Lib.hid (by rw[←Nat.pow_add];congr 1;omega)
   replace hdv:=Lib.hid hdv
   replace hj:=Lib.hid hj
   clear hij h0
   rcases Nat.mod_two_eq_zero_or_one (k / 2^m) with hb | hb
   ·rw[hb] at hst hbit
    replace hst:=Lib.hid hst
    clear hb
    go_wp2_with fail
    refine (hM.out (10^(k / 2^(m+1))) (10^(k / 2^(m+1))) _ _ _ _ _ _ _ (S.out.r 0 rfl) (S.out.r 0 rfl) hn.out hn.out).mono ?_
    rintro e w4 ⟨A3,n3,c3,rfl,Q3,bb⟩
    have T:=((S.out.call bb).read (hsq.out ▸ Q3))
    clear bb S c_p0 f_p0 c_p1 f_p1 c_t0 f_t0 c_t1 f_t1 c_r0 f_r0 c_r1 f_r1 hz
    have S:=T
    clear T
    obtain⟨c_p0,c_p1,f_p0,f_p1⟩:=S.cf2 0 rfl
    obtain⟨c_t0,c_t1,f_t0,f_t1⟩:=S.cf2 1 rfl
    obtain⟨c_r0,c_r1,f_r0,f_r1⟩:=S.cf2 2 rfl
    have hz:w2.heap.size<w4.heap.size:=S.lt 0 rfl
    replace S:=Lib.hid S
    clear Q3
    have SE:=Lib.hid (((S.out.set 0 0 (.bool false) rfl (by nofun)).set 0 1 (.slice A3 n3 c3) rfl (by nofun)))
    go_wp2
    go_roundw
    case rel=>exact⟨(m:Int)-1,m,A3,n3,c3,by go_num,by omega,by have:=hj.out;omega,⟨SE.out.bel,SE.out.bk,SE.out.nd,by intro r hr;rcases List.mem_cons.1 hr with rfl | hr;exact (by have:=SE.out.r 0 rfl;rw[hst.out];exact this);exact SE.out.rd r (by simp at hr ⊢;simp[hr])⟩⟩
    case measure=>simp[intOf]
   ·rw[hb] at hst hbit
    replace hst:=Lib.hid hst
    clear hb
    go_wp2_with fail
    refine (hM.out (10^(k / 2^(m+1))) (10^(k / 2^(m+1))) _ _ _ _ _ _ _ (S.out.r 0 rfl) (S.out.r 0 rfl) hn.out hn.out).mono ?_
    rintro e w4 ⟨A3,n3,c3,rfl,Q3,bb⟩
    have T:=((S.out.call bb).read (hsq.out ▸ Q3))
    clear bb S c_p0 f_p0 c_p1 f_p1 c_t0 f_t0 c_t1 f_t1 c_r0 f_r0 c_r1 f_r1 hz
    have S:=T
    clear T
    obtain⟨c_p0,c_p1,f_p0,f_p1⟩:=S.cf2 0 rfl
    obtain⟨c_t0,c_t1,f_t0,f_t1⟩:=S.cf2 1 rfl
    obtain⟨c_r0,c_r1,f_r0,f_r1⟩:=S.cf2 2 rfl
    have hz:w2.heap.size<w4.heap.size:=S.lt 0 rfl
    replace S:=Lib.hid S
    clear Q3
    have S:St w _ [(w2.heap.size,#[.bool false,.slice A3 n3 c3],44),(w1.heap.size,#[.bool false,.slice A1 n1 c1],44),(w.heap.size,#[.bool false,.slice none 0 0],44)] [(A3,n3,c3,limbs (10^(2*(k / 2^(m+1))))),(A,n,c,limbs (10^(k / 2^(m+1)))),(A1,n1,c1,limbs 10)]:=((S.out.set 0 0 (.bool false) rfl (by nofun)).set 0 1 (.slice A3 n3 c3) rfl (by nofun))
    obtain⟨a_p0,a_p1,b_p0,b_p1⟩:=S.cf2 0 rfl
    obtain⟨a_t0,a_t1,b_t0,b_t1⟩:=S.cf2 1 rfl
    replace S:=Lib.hid S
    have h3:Hid (n3≤1000):=Lib.hid (by have:=(S.out.r 0 rfl).len;have h2:=pow10_len (2*(k / 2^(m+1)));have:=hst.out;have:=hdv.out;have:=hk.out;omega)
    have hsr:Hid (10^(2*(k / 2^(m+1)))*10=10^(2*(k / 2^(m+1))+1)):=Lib.hid (Nat.pow_succ ..).symm
    go_wp2_with fail
    refine (hM.out (10^(2*(k / 2^(m+1)))) 10 _ _ _ _ _ _ _ (S.out.r 0 rfl) (S.out.r 2 rfl) h3.out hT.out).mono ?_
    rintro e w5 ⟨A4,n4,c4,rfl,Q4,bb⟩
    have T:=((S.out.call bb).read (hsr.out ▸ Q4))
    clear bb S c_p0 f_p0 c_p1 f_p1 c_t0 f_t0 c_t1 f_t1 c_r0 f_r0 c_r1 f_r1 hz a_p0 b_p0 a_p1 b_p1 a_t0 b_t0 a_t1 b_t1
    have S:=T
    clear T
    obtain⟨c_p0,c_p1,f_p0,f_p1⟩:=S.cf2 0 rfl
    obtain⟨c_t0,c_t1,f_t0,f_t1⟩:=S.cf2 1 rfl
    obtain⟨c_r0,c_r1,f_r0,f_r1⟩:=S.cf2 2 rfl
    have hz:w2.heap.size<w5.heap.size:=S.lt 0 rfl
    replace S:=Lib.hid S
    clear Q4
    have SE:=Lib.hid (((S.out.set 0 0 (.bool false) rfl (by nofun)).set 0 1 (.slice A4 n4 c4) rfl (by nofun)))
    go_wp2
    go_roundw
    case rel=>exact⟨(m:Int)-1,m,A4,n4,c4,by go_num,by omega,by have:=hj.out;omega,⟨SE.out.bel,SE.out.bk,SE.out.nd,by intro r hr;rcases List.mem_cons.1 hr with rfl | hr;exact (by have:=SE.out.r 0 rfl;rw[hst.out];exact this);exact SE.out.rd r (by simp at hr ⊢;simp[hr])⟩⟩
    case measure=>simp[intOf]
end Go.Proofs.YtdeedofmflelfaaGreatDoor

namespace Go.Proofs.YtdeedofmflelfaaGreatDoor
open Go.RowKit RQ
end Go.Proofs.YtdeedofmflelfaaGreatDoor
