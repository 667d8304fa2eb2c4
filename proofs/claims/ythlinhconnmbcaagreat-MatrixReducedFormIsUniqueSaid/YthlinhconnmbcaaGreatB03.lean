/- Contracts of the reference's times and Mul. -/
import Derived.Test.YthlinhconnmbcaaGreatB02
set_option maxRecDepth 100000
set_option maxHeartbeats 40000000
set_option linter.unusedVariables false
namespace Go.Proofs.YthlinhconnmbcaaGreat
open Go.RowKit
theorem times_step {zs X:List Nat} {b k cy x v t:Nat} (hl:zs.length=b+k) (h:val zs+4294967296^(b+k)*cy=4294967296^b*(v*val (X.take k))) (hx:X.getD k 0=x) (ht:t=x*v+cy) :
  val (zs++[t%4294967296])+4294967296^(b+(k+1))*(t / 4294967296)=4294967296^b*(v*val (X.take (k+1))):=by
 rw[val_snoc,hl,val_take_succ_any X,hx,show b+(k+1)=b+k+1 by omega,pow_mul_succ,Nat.add_assoc,←Nat.mul_add,Nat.mod_add_div,ht]
 have e4:4294967296^b*(v*(val (X.take k)+4294967296^k*x))=4294967296^b*(v*val (X.take k))+4294967296^(b+k)*(x*v):=by
  rw[Nat.mul_add,Nat.mul_add,Nat.pow_add]
  congr 1
  rw[Nat.mul_left_comm v,Nat.mul_assoc,Nat.mul_comm v x]
 rw[e4,Nat.mul_add,←h]
 omega
theorem times_last {zs X:List Nat} {b n cy v:Nat} (hX:X.length=n) (hs:Sm X) (hv:v<4294967296) (h:val zs+4294967296^(b+(n+1))*cy=4294967296^b*(v*val (X.take (n+1)))) :
  val zs=val X*v*4294967296^b:=by
 rw[List.take_of_length_le (by omega)] at h
 have hx:=val_lt hs;rw[hX] at hx;have h1:v*val X<4294967296*4294967296^n:=by
  rcases Nat.eq_zero_or_pos v with h0 | h0
  ·subst h0;rw[Nat.zero_mul];exact Nat.mul_pos (by omega) (Nat.pow_pos (by omega))
  ·exact Nat.lt_of_le_of_lt (Nat.mul_le_mul_right _ (Nat.le_of_lt hv)) (Nat.mul_lt_mul_of_pos_left hx (by omega))
 have h2:4294967296^b*(v*val X)<4294967296^(b+(n+1)):=by
  rw[Nat.pow_add,Nat.pow_succ,Nat.mul_comm (4294967296^n)];exact Nat.mul_lt_mul_of_pos_left h1 (Nat.pow_pos (by omega))
 have e:4294967296^b*(v*val X)=val X*v*4294967296^b:=by rw[Nat.mul_comm,Nat.mul_comm v]
 rcases Nat.eq_zero_or_pos cy with h0 | h0
 ·subst h0;omega
 ·have:=Nat.mul_le_mul_left (4294967296^(b+(n+1))) h0
  omega
theorem times_any (A:Option Addr) (n c x v b:Nat) (bi vi:Int) (w:World)
  (h1:Rd w A n c (limbs x)) (hn:n≤1000000000) (hv:v<4294967296) (hb:b≤1000000000) (hbi:bi=b) (hvi:vi=v) :
  Calls Tryz.prog 96 #[.slice A n c,.int .u32 vi,.int .i64 bi] w (RetN (x*v*4294967296^b) w):=by
 subst hbi;subst hvi;have hmk:∀ W:World,(Instr.makeSlice 29 (.int .i64 (b:Int)) (.int .i64 (b:Int))).run Tryz.prog W=.ok (.slice (some ⟨W.heap.size,0,none⟩) b b) (W.alloc (.cells (madeCells #[.int .u32 0] b) 92)):=fun W=>make_u32 b (by omega) .i64 .i64 W
 replace h1:=Lib.hid h1;go_enter Tryz.func96,Tryz.ntmps96;go_wp2
 go_loopw [7,8,9] (fun ov cv iv wr=>∃ (k cy:Nat) (zs:List Nat),k≤n+1∧iv=.int .i64 k∧cv=.int .u64 cy∧cy<4294967296∧zs.length=b+k∧Gr wr w.heap.size ov zs∧Below w.heap.size w wr ∧
   val zs+4294967296^(b+k)*cy=4294967296^b*(v*val ((limbs x).take k)))
  (fun _ _ iv _=>n+1-(intOf iv).toNat)
 case atStart=>exact⟨0,0,List.replicate b 0,Nat.zero_le _,rfl,rfl,by omega,by simp,Gr.zeros w b (by omega),(Below.refl _ _).alloc (Nat.le_refl _) _,by simp[val,val_zeros]⟩
 case round=>
  clear hmk;obtain⟨k,cy,zs,hk,rfl,rfl,hcy,hl,hG,hB,hvv⟩:=hrel;replace hl:=Lib.hid hl;replace hG:=Lib.hid hG;replace hB:=Lib.hid hB;replace hvv:=Lib.hid hvv
  by_cases hlt:k≤n
  ·obtain⟨x1,hx1⟩:∃ x1,(limbs x).getD k 0=x1:=⟨_,rfl⟩
   have hx1b:x1<4294967296:=by rw[←hx1];exact sm_get (sm_limbs _) k
   replace hx1:=Lib.hid hx1;have hp:(x1:Int)*(v:Int)≤18446744065119617025:=by have:=mul_bd hx1b hv;have e:((x1*v:Nat):Int)=(x1:Int)*v:=Int.natCast_mul x1 v;omega
   have hp0:0≤(x1:Int)*(v:Int):=by have e:((x1*v:Nat):Int)=(x1:Int)*v:=Int.natCast_mul x1 v;omega
   obtain⟨t,ht⟩:∃ t,t=x1*v+cy:=⟨_,rfl⟩;have htc:(x1:Int)*(v:Int)+(cy:Int)=(t:Int):=by rw[ht];simp
   have htb:(t:Int)≤18446744069414584320:=by omega
   have htd:t / 4294967296<4294967296:=by omega
   have hst:=times_step hl.out hvv.out hx1.out ht;replace hst:=Lib.hid hst;replace htd:=Lib.hid htd;clear ht
   go_wp2_with fail
   refine (limb_any _ _ _ _ _ _ k x1 (h1.out.below hB.out) (by omega) rfl hx1.out).mono ?_
   rintro e w' ⟨rfl,rfl⟩
   go_wp2_with (at_builtin;refine wpList_append_u32 _ rfl (.tmp 27) (.tmp 30) rfl w.heap.size _ zs rfl (hG.out.alloc _) ⟨wr.heap.size,0,none⟩ 1 1 [t%4294967296] rfl (lit1 _ _ _ _ rfl ?c0 ?c3) ?c1 ?c2 ?_)
   case c0=>omega
   case c3=>omega
   case c1=>rw[hl.out];omega
   case c2=>have:=hB.out.size;simp;omega
   intro v' w' hG' hg;have hB':=Lib.hid (Below.grown (hB.out.alloc hB.out.size _) hg (by have:=hB.out.size;simp;omega) (own_ge hG.out))
   replace hG':=Lib.hid hG';clear hg;go_wp2
   go_roundw
   case rel=>exact⟨k+1,t / 4294967296,_,by omega,by go_num,by go_num,htd.out,by rw[List.length_append,hl.out];rfl,hG'.out,hB'.out,hst.out⟩
   case measure=>simp[intOf];omega
  ·obtain rfl:k=n+1:=by omega
   have hfin:=Lib.hid (times_last h1.out.len (sm_limbs x) hv hvv.out);obtain⟨A3,c3,hv3,R3,_⟩:=hG.out.form;subst hv3;replace R3:=Lib.hid R3
   go_wp2_with fail
   refine (rtrim_any _ _ _ zs _ R3.out (by rw[hl.out];omega)).mono ?_
   rintro e w' ⟨n',rfl,rfl,R⟩;rw[hfin.out,val_limbs] at R;replace R:=Lib.hid R;go_wp2;go_ret;exact⟨_,_,_,rfl,R.out,hB.out⟩
theorem rmul_any (A:Option Addr) (n c:Nat) (xs:List Nat) (A':Option Addr) (n' c':Nat) (ys:List Nat) (w:World)
  (h1:Rd w A n c xs) (h2:Rd w A' n' c' ys) (hn:n≤200000000) (hn':n'≤200000000) :
  Calls Tryz.prog 74 #[.slice A n c,.slice A' n' c'] w (RetN (num xs*num ys) w):=by
 replace h1:=Lib.hid h1;replace h2:=Lib.hid h2;go_enter Tryz.func74,Tryz.ntmps74
 go_wp2_with fail
 refine (take_any _ _ _ xs _ h1.out (by omega)).mono ?_
 rintro e w1 ⟨A1,n1,c1,rfl,R1,b1,l1⟩;replace h2:=Lib.hid (h2.out.below b1);replace R1:=Lib.hid R1;replace b1:=Lib.hid b1
 go_wp2_with fail
 refine (take_any _ _ _ ys _ h2.out (by omega)).mono ?_
 rintro e w2 ⟨A2,n2,c2,rfl,R2,b2,l2⟩;replace R1:=Lib.hid (R1.out.below b2);replace R2:=Lib.hid R2;replace b1:=Lib.hid (b1.out.trans (b2.mono b1.out.size));clear b2 h1 h2;go_wp2
 go_loopw [5,6] (fun ov iv wr=>∃ (k:Nat) (A3:Option Addr) (n3 c3:Nat),k≤n2∧iv=.int .i64 k∧ov=.slice A3 n3 c3∧Rd wr A3 n3 c3 (limbs (num xs*val ((limbs (num ys)).take k)))∧Below w2.heap.size w2 wr)
  (fun _ iv _=>n2-(intOf iv).toNat)
 case atStart=>exact⟨0,none,0,0,Nat.zero_le _,rfl,rfl,by simp only[List.take_zero,val,Nat.mul_zero,limbs_zero];exact Rd.nil_ _ _ _,Below.refl _ _⟩
 case round=>
  obtain⟨k,A3,n3,c3,hk,rfl,rfl,R3,hB⟩:=hrel;have hX:=lt_of_len R1.out.len;have hn3:n3≤n1+k:=by
   rw[←R3.len]
   apply len_of_lt
   rw[Nat.pow_add];have:=val_lt (sm_take (sm_limbs (num ys)) k);have h3:4294967296^((limbs (num ys)).take k).length≤4294967296^k:=Nat.pow_le_pow_right (by omega) (by rw[List.length_take];omega)
   exact Nat.mul_lt_mul_of_lt_of_le hX (by omega) (Nat.pow_pos (by omega))
  replace R3:=Lib.hid R3;replace hB:=Lib.hid hB;replace hX:=Lib.hid hX
  by_cases hlt:k<n2
  ·obtain⟨bb,ob,y1,rfl,hbb,hy1,hye,hcy⟩:=(R2.out.below hB.out).at_ hlt
   have hst:num xs*val ((limbs (num ys)).take k)+num xs*y1*4294967296^k=num xs*val ((limbs (num ys)).take (k+1)):=by
    rw[val_take_succ_any,hye,Nat.mul_add,Nat.mul_comm (4294967296^k),Nat.mul_assoc]
   replace hst:=Lib.hid hst;clear hye;have g1:(0:Int)≤(k:Int):=by omega
   have g2:(k:Int)<(n2:Int):=by omega
   go_wp2_with fail
   refine (times_any _ _ _ (num xs) y1 k _ _ _ (R1.out.below hB.out) (by omega) hy1 (by omega) rfl rfl).mono ?_
   rintro e w4 ⟨A4,n4,c4,rfl,R4,b4⟩;have hn4:n4≤n1+1+k:=by
    rw[←R4.len]
    apply len_of_lt
    rw[Nat.pow_add,Nat.pow_succ];exact Nat.mul_lt_mul_of_pos_right (Nat.mul_lt_mul_of_lt_of_le hX.out (by omega) (by omega)) (Nat.pow_pos (by omega))
   replace R3:=Lib.hid (R3.out.below b4);replace R4:=Lib.hid R4;replace hB:=Lib.hid (hB.out.trans (b4.mono hB.out.size));clear b4 hcy
   go_wp2_with fail
   refine (radd_any _ _ _ _ _ _ _ _ _ R3.out R4.out (by omega) (by omega)).mono ?_
   rintro e w5 ⟨A5,n5,c5,rfl,R5,b5⟩;rw[num_limbs,num_limbs,hst.out] at R5;replace R5:=Lib.hid R5;replace hB:=Lib.hid (hB.out.trans (b5.mono hB.out.size));clear b5;go_wp2
   go_roundw
   case rel=>exact⟨k+1,_,_,_,by omega,by go_num,rfl,R5.out,hB.out⟩
   case measure=>simp[intOf];omega
  ·obtain rfl:k=n2:=by omega
   have e:num xs*val ((limbs (num ys)).take k)=num xs*num ys:=by rw[List.take_of_length_le (by rw[R2.out.len];omega),val_limbs]
   have R6:=R3.out;rw[e] at R6;replace R6:=Lib.hid R6;have hB':=Lib.hid (b1.out.trans (hB.out.mono b1.out.size));clear e;go_wp2;go_ret;exact⟨_,_,_,rfl,R6.out,hB'.out⟩
end Go.Proofs.YthlinhconnmbcaaGreat
namespace Go.Proofs.YthlinhconnmbcaaGreat
open Go.RowKit
def RetL (N p:Nat) (w:World) (e:Ending) (w':World):Prop:=∃ A n c,e=.returned (.slice A n c)∧Rd w' A n c (limbs N)∧Below w.heap.size w w'∧n≤p
theorem RetN.l {N p:Nat} {w:World} {e:Ending} {w':World} (hp:N<4294967296^p):RetN N w e w'→RetL N p w e w':=by
 rintro ⟨A,n,c,he,hR,hb⟩;exact⟨A,n,c,he,hR,hb,by rw[←hR.len];exact len_of_lt hp⟩
theorem double_any (A:Option Addr) (n c x o:Nat) (oi:Int) (w:World) (h1:Rd w A n c (limbs x)) (hn:n≤200000000) (ho:o<2) (hoi:oi=o) :
  Calls Tryz.prog 113 #[.slice A n c,.int .u32 oi] w (RetN (2*x+o) w):=by
 subst hoi;have hx:=lt_of_len h1.len;replace h1:=Lib.hid h1;replace hx:=Lib.hid hx;have ht:=fun W h=>times_any A n c x 2 0 0 2 W h (by omega) (by omega) (by omega) rfl rfl
 replace ht:=Lib.hid ht
 by_cases h0:o=0
 ·subst h0
  go_enter Tryz.func113,Tryz.ntmps113
  go_wp2_with fail
  refine (ht.out _ h1.out).mono ?_
  rintro e w1 ⟨A1,n1,c1,rfl,R1,b1⟩;rw[Nat.pow_zero,Nat.mul_one,Nat.mul_comm] at R1;replace R1:=Lib.hid R1;replace b1:=Lib.hid b1;go_wp2;go_ret;exact⟨_,_,_,rfl,R1.out,b1.out⟩
 ·obtain rfl:o=1:=by omega
  clear h0;go_enter Tryz.func113,Tryz.ntmps113
  go_wp2_with fail
  refine (ht.out _ h1.out).mono ?_
  rintro e w1 ⟨A1,n1,c1,rfl,R1,b1⟩;rw[Nat.pow_zero,Nat.mul_one,Nat.mul_comm] at R1;have hn1:n1≤n+1:=by
   rw[←R1.len];apply len_of_lt;rw[Nat.pow_succ];have:=hx.out;omega
  replace R1:=Lib.hid R1;replace b1:=Lib.hid b1
  go_wp2_with fail
  refine (radd_any _ _ _ _ _ _ _ _ _ (R1.out.alloc _) (lit1 w1 _ 1 1 rfl rfl (by omega)) (by omega) (by omega)).mono ?_
  rintro e w2 ⟨A2,n2,c2,rfl,R2,b2⟩;rw[num_limbs,show num [1]=1 from rfl] at R2
  replace R2:=Lib.hid R2;replace b2:Hid (Below w.heap.size w w2):=Lib.hid ((b1.out.alloc b1.out.size _).trans (b2.mono (by have:=b1.out.size;simp;omega)))
  go_wp2;go_ret;exact⟨_,_,_,rfl,R2.out,b2.out⟩
theorem and_one_u32 (m:Nat) (hm:m<4294967296):bits .and .u32 (m:Int) 1=((m%2:Nat):Int):=by
 have:=u32_and_nat m 1 hm (by omega)
 rw[Nat.and_one_is_mod] at this;exact this
theorem bit_any (A:Option Addr) (n c x i b:Nat) (ii:Int) (w:World) (h1:Rd w A n c (limbs x)) (hn:n≤200000000) (hi:i<32*n) (hii:ii=i) (hb:x / 2^i%2=b) :
  Calls Tryz.prog 114 #[.slice A n c,.int .i64 ii] w fun e w'=>e=.returned (.int .u32 (b:Nat))∧w=w':=by
 subst hii;obtain⟨bb,o,x1,rfl,hbb,hx1,hxe,hc⟩:=h1.at_ (k:=i / 32) (by omega)
 have hbit:=bit_at (limbs x) i (sm_limbs x);rw[hxe,val_limbs,hb] at hbit;have hle:x1 / 2^(i%32)≤x1:=Nat.div_le_self _ _;obtain⟨m,hm⟩:∃ m,x1 / 2^(i%32)=m:=⟨_,rfl⟩;rw[hm] at hbit hle;have hmc:(x1:Int) / 2^(i%32)=(m:Int):=by rw[←hm];simp
 have hand:=and_one_u32 m (by omega)
 rw[hbit] at hand;replace hbit:=Lib.hid hbit;replace hm:=Lib.hid hm;clear h1 hxe hb;have g1:(0:Int)≤(i:Int):=by omega
 have g2:(i:Int) / 32<(n:Int):=by omega
 go_enter Tryz.func114,Tryz.ntmps114;go_wp2;go_ret;exact⟨rfl,rfl⟩
theorem rsub_lt_b (A:Option Addr) (n c x:Nat) (A':Option Addr) (n' c' y:Nat) (w:World) (h1:Rd w A n c (limbs x)) (h2:Rd w A' n' c' (limbs y)) (hn:n≤200000000) (hn':n'≤200000000) (hlt:x<y) :
  Calls Tryz.prog 95 #[.slice A n c,.slice A' n' c'] w fun e w'=>e=.returned (.tuple #[.slice none 0 0,.bool false])∧Below w.heap.size w w':=
 rsub_lt A n c (limbs x) A' n' c' (limbs y) w h1 h2 (by omega) (by omega) (by rw[num_limbs,num_limbs];exact hlt)
theorem rsub_ge_b (A:Option Addr) (n c x:Nat) (A':Option Addr) (n' c' y:Nat) (w:World) (h1:Rd w A n c (limbs x)) (h2:Rd w A' n' c' (limbs y)) (hn:n≤200000000) (hn':n'≤200000000) (hge:y≤x) :
  Calls Tryz.prog 95 #[.slice A n c,.slice A' n' c'] w fun e w'=>∃ A n c,e=.returned (.tuple #[.slice A n c,.bool true])∧Rd w' A n c (limbs (x-y))∧Below w.heap.size w w':=by
 have:=rsub_ge A n c (limbs x) A' n' c' (limbs y) w h1 h2 (by omega) (by omega) (by rw[num_limbs,num_limbs];exact hge)
 rw[num_limbs,num_limbs] at this;exact this
theorem quo_len {x y k p:Nat} (hx:x<4294967296^p):(limbs (x / 2^k / y)).length≤p:=
 len_of_lt (Nat.lt_of_le_of_lt (Nat.le_trans (Nat.div_le_self _ _) (Nat.div_le_self _ _)) hx)
theorem rdiv_any (A:Option Addr) (n c:Nat) (xs:List Nat) (A':Option Addr) (n' c':Nat) (ys:List Nat) (w:World)
  (h1:Rd w A n c xs) (h2:Rd w A' n' c' ys) (hn:n≤100000000) (hn':n'≤100000000) (hy:0<num ys) :
  Calls Tryz.prog 94 #[.slice A n c,.slice A' n' c'] w (RetDiv (num xs) (num ys) w):=by
 replace h1:=Lib.hid h1;replace h2:=Lib.hid h2;replace hy:=Lib.hid hy;go_enter Tryz.func94,Tryz.ntmps94
 go_wp2_with fail
 refine (take_any _ _ _ xs _ h1.out (by omega)).mono ?_
 rintro e w1 ⟨A1,n1,c1,rfl,R1,b1,l1⟩;replace h2:=Lib.hid (h2.out.below b1);replace R1:=Lib.hid R1;replace b1:=Lib.hid b1
 go_wp2_with fail
 refine (take_any _ _ _ ys _ h2.out (by omega)).mono ?_
 rintro e w2 ⟨A2,n2,c2,rfl,R2,b2,l2⟩;replace R1:=Lib.hid (R1.out.below b2);have hn2:1≤n2:=limbs_ne R2.len hy.out;replace R2:=Lib.hid R2;replace b1:=Lib.hid (b1.out.trans (b2.mono b1.out.size));clear b2 h1 h2;obtain⟨x,hx⟩:∃ x,num xs=x:=⟨_,rfl⟩;obtain⟨y,hyy⟩:∃ y,num ys=y:=⟨_,rfl⟩;have R1':Hid (Rd w2 A1 n1 c1 (limbs x)):=by rw[←hx];exact R1
 have R2':Hid (Rd w2 A2 n2 c2 (limbs y)):=by rw[←hyy];exact R2
 have hy0:0<y:=by rw[←hyy];exact hy.out
 have hxl:=lt_of_len R1'.out.len;have hyl:=lt_of_len R2'.out.len;replace hx:=Lib.hid hx;replace hyy:=Lib.hid hyy;replace hxl:=Lib.hid hxl;replace hyl:=Lib.hid hyl;clear R1 R2 hy;have hg0:((n2:Int)==0)=false:=by simp;omega
 go_wp2
 go_loopw [7,8,9] (fun qv rv iv wr=>∃ (i:Int) (k:Nat) (A3:Option Addr) (n3 c3:Nat) (A4:Option Addr) (n4 c4:Nat),k≤32*n1∧i+1=k∧iv=.int .i64 i∧qv=.slice A3 n3 c3∧rv=.slice A4 n4 c4 ∧
   Rd wr A3 n3 c3 (limbs (x / 2^k / y))∧Rd wr A4 n4 c4 (limbs (x / 2^k%y))∧Below w2.heap.size w2 wr)
  (fun _ _ iv _=>(intOf iv+1).toNat)
 case atStart=>
  have h0:x / 2^(32*n1)=0:=Nat.div_eq_of_lt (by rw[←pow_limb];exact hxl.out)
  exact⟨_,32*n1,none,0,0,none,0,0,Nat.le_refl _,by omega,rfl,rfl,rfl,by rw[h0,Nat.zero_div,limbs_zero];exact Rd.nil_ _ _ _,by rw[h0,Nat.zero_mod,limbs_zero];exact Rd.nil_ _ _ _,Below.refl _ _⟩
 case round=>
  obtain⟨i,k,A3,n3,c3,A4,n4,c4,hk,hik,rfl,rfl,rfl,R3,R4,hB⟩:=hrel;have hn3:n3≤n1:=by rw[←R3.len];exact quo_len hxl.out
  have hn4:n4≤n2:=by rw[←R4.len];exact len_of_lt (Nat.lt_trans (Nat.mod_lt _ hy0) hyl.out)
  by_cases h0:k=0
  ·subst h0
   obtain rfl:i = -1:=by omega
   rw[Nat.pow_zero,Nat.div_one] at R3 R4;rw[←hx.out,←hyy.out] at R3 R4;replace R3:=Lib.hid R3;replace R4:=Lib.hid R4;replace hB:=Lib.hid (b1.out.trans (hB.mono b1.out.size));clear hik;go_wp2
   go_ret3
   exact⟨_,_,_,_,_,_,rfl,R3.out,R4.out,hB.out⟩
  ·obtain⟨j,rfl⟩:∃ j,k=j+1:=⟨k-1,by omega⟩
   obtain rfl:i=j:=by omega
   clear hik h0;obtain⟨b,hb⟩:∃ b,x / 2^j%2=b:=⟨_,rfl⟩;have hb2:b<2:=by rw[←hb];exact Nat.mod_lt _ (by omega)
   have hhalf:=half_step (x:=x) (k:=j);rw[hb] at hhalf;obtain⟨q,hq⟩:∃ q,x / 2^(j+1) / y=q:=⟨_,rfl⟩;obtain⟨r,hr⟩:∃ r,x / 2^(j+1)%y=r:=⟨_,rfl⟩;have hry:r<y:=by rw[←hr];exact Nat.mod_lt _ hy0
   have hstep:=bitdiv_step hry hq hr hb2;rw[←hhalf] at hstep;rw[hq] at R3;rw[hr] at R4;replace R3:=Lib.hid R3;replace R4:=Lib.hid R4;replace hB:=Lib.hid hB;replace hb:=Lib.hid hb;replace hstep:=Lib.hid hstep;clear hhalf hq hr;have g1:(0:Int)≤(j:Int):=by omega
   go_wp2_with fail
   refine (bit_any _ _ _ x j b _ _ (R1'.out.below hB.out) (by omega) (by omega) rfl hb.out).mono ?_
   rintro e w' ⟨rfl,rfl⟩
   go_wp2_with fail
   refine (double_any _ _ _ r b _ _ R4.out (by omega) hb2 rfl).mono ?_
   rintro e w4 ⟨A5,n5,c5,rfl,R5,b5⟩;have hn5:n5≤n2+1:=by rw[←R5.len];apply len_of_lt;rw[Nat.pow_succ];have:=hyl.out;omega
   replace R3:=Lib.hid (R3.out.below b5);replace R5:=Lib.hid R5;replace hB:=Lib.hid (hB.out.trans (b5.mono hB.out.size));have R2'':=Lib.hid (R2'.out.below hB.out);clear R4 b5
   by_cases hge:y≤2*r+b
   ·obtain⟨hs1,hs2⟩:=hstep.out.1 hge
    replace hs1:=Lib.hid hs1;replace hs2:=Lib.hid hs2
    go_wp2_with fail
    refine (rsub_ge_b _ _ _ _ _ _ _ _ _ R5.out R2''.out (by omega) (by omega) hge).mono ?_
    rintro e w5 ⟨A6,n6,c6,rfl,R6,b6⟩;replace R3:=Lib.hid (R3.out.below b6);replace R6:=Lib.hid R6;replace hB:=Lib.hid (hB.out.trans (b6.mono hB.out.size));clear R5 b6 R2''
    go_wp2_with fail
    refine (double_any _ _ _ q 1 1 _ R3.out (by omega) (by omega) rfl).mono ?_
    rintro e w6 ⟨A7,n7,c7,rfl,R7,b7⟩;replace R6:=Lib.hid (R6.out.below b7);replace R7:=Lib.hid R7;replace hB:=Lib.hid (hB.out.trans (b7.mono hB.out.size));clear b7 R3;go_wp2
    go_roundw
    case rel=>exact⟨_,j,_,_,_,_,_,_,by omega,by omega,rfl,rfl,rfl,by rw[hs1.out];exact R7.out,by rw[hs2.out];exact R6.out,hB.out⟩
    case measure=>simp[intOf]
   ·obtain⟨hs1,hs2⟩:=hstep.out.2 (by omega)
    replace hs1:=Lib.hid hs1;replace hs2:=Lib.hid hs2
    go_wp2_with fail
    refine (rsub_lt_b _ _ _ _ _ _ _ _ _ R5.out R2''.out (by omega) (by omega) (by omega)).mono ?_
    rintro e w5 ⟨rfl,b6⟩;replace R3:=Lib.hid (R3.out.below b6);replace R5:=Lib.hid (R5.out.below b6);replace hB:=Lib.hid (hB.out.trans (b6.mono hB.out.size));clear b6 R2''
    go_wp2_with fail
    refine (double_any _ _ _ q 0 0 _ R3.out (by omega) (by omega) rfl).mono ?_
    rintro e w6 ⟨A7,n7,c7,rfl,R7,b7⟩;replace R5:=Lib.hid (R5.out.below b7);replace R7:=Lib.hid R7;replace hB:=Lib.hid (hB.out.trans (b7.mono hB.out.size));clear b7 R3;go_wp2
    go_roundw
    case rel=>exact⟨_,j,_,_,_,_,_,_,by omega,by omega,rfl,rfl,rfl,by rw[hs1.out];exact R7.out,by rw[hs2.out];exact R5.out,hB.out⟩
    case measure=>simp[intOf]
theorem rgcd_any (A:Option Addr) (n c:Nat) (xs:List Nat) (A':Option Addr) (n' c':Nat) (ys:List Nat) (w:World)
  (h1:Rd w A n c xs) (h2:Rd w A' n' c' ys) (hn:n≤100000000) (hn':n'≤100000000) :
  Calls Tryz.prog 93 #[.slice A n c,.slice A' n' c'] w (RetN (Nat.gcd (num xs) (num ys)) w):=by
 replace h1:=Lib.hid h1;replace h2:=Lib.hid h2;go_enter Tryz.func93,Tryz.ntmps93
 go_wp2_with fail
 refine (take_any _ _ _ xs _ h1.out (by omega)).mono ?_
 rintro e w1 ⟨A1,n1,c1,rfl,R1,b1,l1⟩;replace h2:=Lib.hid (h2.out.below b1);replace R1:=Lib.hid R1;replace b1:=Lib.hid b1
 go_wp2_with fail
 refine (take_any _ _ _ ys _ h2.out (by omega)).mono ?_
 rintro e w2 ⟨A2,n2,c2,rfl,R2,b2,l2⟩;replace R1:=Lib.hid (R1.out.below b2);replace R2:=Lib.hid R2;replace b1:=Lib.hid (b1.out.trans (b2.mono b1.out.size));clear b2 h1 h2;go_wp2
 go_loopg [0,1] (num ys) (fun y av bv wr=>∃ (x:Nat) (A3:Option Addr) (n3 c3:Nat) (A4:Option Addr) (n4 c4:Nat),av=.slice A3 n3 c3∧bv=.slice A4 n4 c4∧n3≤100000000∧n4≤100000000 ∧
   Rd wr A3 n3 c3 (limbs x)∧Rd wr A4 n4 c4 (limbs y)∧Nat.gcd x y=Nat.gcd (num xs) (num ys)∧Below w2.heap.size w2 wr)
 case atStart=>exact⟨num xs,_,_,_,_,_,_,rfl,rfl,by omega,by omega,R1.out,R2.out,rfl,Below.refl _ _⟩
 case round=>
  obtain⟨x,A3,n3,c3,A4,n4,c4,rfl,rfl,l3,l4,R3,R4,hgcd,hB⟩:=hrel
  by_cases h0:n4=0
  ·subst h0
   have hy0:gk=0:=limbs_inj (by rw[limbs_zero];exact List.eq_nil_of_length_eq_zero R4.len)
   rw[hy0,Nat.gcd_zero_right] at hgcd;rw[hgcd] at R3;replace R3:=Lib.hid R3;replace hB:=Lib.hid (b1.out.trans (hB.mono b1.out.size));clear R4 hgcd hy0;go_wp2;go_ret;exact⟨_,_,_,rfl,R3.out,hB.out⟩
  ·have hy0:0<gk:=by
    rcases Nat.eq_zero_or_pos gk with h | h
    ·rw[h,limbs_zero] at R4;exact absurd R4.len.symm h0
    ·exact h
   have hpos:(0:Int)<(n4:Int):=by omega
   have hd:=fun W h h'=>rdiv_any A3 n3 c3 (limbs x) A4 n4 c4 (limbs gk) W h h' l3 l4 (by rw[num_limbs];exact hy0)
   simp only[num_limbs] at hd;have hml:=Nat.mod_lt x hy0;have hln:=len_le (Nat.le_of_lt hml);rw[R4.len] at hln;replace hd:=Lib.hid hd;replace R3:=Lib.hid R3;replace R4:=Lib.hid R4;replace hB:=Lib.hid hB;replace hgcd:=Lib.hid hgcd;replace hml:=Lib.hid hml;replace hln:=Lib.hid hln;clear h0
   go_wp2_with fail
   refine (hd.out _ R3.out R4.out).mono ?_
   rintro e w3 ⟨A5,n5,c5,A6,n6,c6,rfl,_,R6,b6⟩;have l6:n6≤100000000:=by rw[←R6.len];have:=hln.out;omega
   replace R4:=Lib.hid (R4.out.below b6);replace R6:=Lib.hid R6;replace hB:=Lib.hid (hB.out.trans (b6.mono hB.out.size));clear b6 R3;go_wp2
   go_roundg (x%gk)
   case measure=>exact hml.out
   case rel=>exact⟨gk,_,_,_,_,_,_,rfl,rfl,l4,l6,R4.out,R6.out,by rw[←hgcd.out,Nat.gcd_comm,←Nat.gcd_rec,Nat.gcd_comm],hB.out⟩
end Go.Proofs.YthlinhconnmbcaaGreat
namespace Go.Proofs.YthlinhconnmbcaaGreat
open Go.RowKit
theorem gcdUint_any (v y:Nat) (w:World) (hv:v<18446744073709551616) (hy:y<18446744073709551616) :
  Calls Tryz.prog 136 #[.int .u64 v,.int .u64 y] w fun e w'=>e=.returned (.int .u64 (Nat.gcd v y:Nat))∧Below w.heap.size w w':=by
 replace hv:=Lib.hid hv;replace hy:=Lib.hid hy;go_enter Tryz.func136,Tryz.ntmps136;go_wp2
 go_loopg [0,1] y (fun b av bv wr=>∃ a:Nat,av=.int .u64 a∧bv=.int .u64 b∧Nat.gcd a b=Nat.gcd v y∧Below w.heap.size w wr)
 case atStart=>exact⟨v,rfl,rfl,rfl,Below.refl _ _⟩
 case round=>
  obtain⟨a,rfl,rfl,hg,hB⟩:=hrel
  by_cases h0:gk=0
  ·subst h0
   rw[Nat.gcd_zero_right] at hg;replace hg:=Lib.hid hg;replace hB:=Lib.hid hB;go_wp2;go_ret;exact⟨ret_u32 (by rw[hg.out]),hB.out⟩
  ·have hne:((gk:Int) != 0)=true:=by simp;omega
   have hpos:(1:Int)≤(gk:Int):=by omega
   have ha0:(0:Int)≤(a:Int):=by omega
   have hml:=Nat.mod_lt a (show 0<gk by omega)
   have hmi:(a:Int)%(gk:Int)=((a%gk:Nat):Int):=(Int.natCast_emod a gk).symm;have hg2:=(gcd_step a gk).trans hg;replace hg2:=Lib.hid hg2;replace hml:=Lib.hid hml;replace hB:=Lib.hid hB;clear hg h0;go_wp2
   go_quiet (fail)
   go_wp2
   go_roundg (a%gk)
   case measure=>exact hml.out
   case rel=>exact⟨gk,rfl,rfl,hg2.out,below_drewN hB.out _⟩
theorem limbAt_any (A:Option Addr) (n c:Nat) (xs:List Nat) (w:World) (i:Int) (k x:Nat) (h:Rd w A n c xs) (_:n≤10000000000) (hi:i=k) (hx:xs.getD k 0=x) :
  Calls Tryz.prog 151 #[.slice A n c,.int .i64 i] w fun e w'=>e=.returned (.int .u32 (x:Nat))∧w'=w:=by
 subst hi
 by_cases hk:k<n
 ·obtain⟨b,o,x',rfl,hb,hx',hxe,hc⟩:=h.at_ hk
  obtain rfl:x'=x:=hxe.symm.trans hx;have g1:(0:Int)≤(k:Int):=by omega
  have g2:(k:Int)<(n:Int):=by omega
  clear h hx hxe;go_enter Tryz.func151,Tryz.ntmps151;go_wp2;go_ret;exact⟨rfl,rfl⟩
 ·obtain rfl:x=0:=by rw[←hx];exact getD_none (by rw[h.len];omega)
  have g2:(n:Int)≤(k:Int):=by omega
  clear h hx;go_enter Tryz.func151,Tryz.ntmps151;go_wp2;go_ret;exact⟨rfl,rfl⟩
theorem limbAt_eq (A:Option Addr) (n c:Nat) (xs:List Nat) (w:World) (i:Int) (k x:Nat) (h:Rd w A n c xs) (hn:n≤10000000000) (hi:i=k) (hx:xs.getD k 0=x) :
  Calls Tryz.prog 151 #[.slice A n c,.int .i64 i] w fun e w'=>e=.returned (.int .u32 (x:Nat))∧w=w':=
 (limbAt_any A n c xs w i k x h hn hi hx).mono fun _ _ ⟨a,b⟩=>⟨a,b.symm⟩
theorem diff_any (A:Option Addr) (n c x:Nat) (A':Option Addr) (n' c' y:Nat) (p q:Nat) (w:World)
  (h1:Rd w A n c (limbs x)) (h2:Rd w A' n' c' (limbs y)) (hn:n≤1000000000) (hn':n'≤1000000000) (hp:p<4294967296) (hq:q<4294967296) (hle:q*y≤p*x) (hlt:p*x-q*y<4294967296^max n n') :
  Calls Tryz.prog 144 #[.int .u64 p,.slice A n c,.int .u64 q,.slice A' n' c'] w (RetN (p*x-q*y) w):=by
 have hmk:∀ W:World,(Instr.makeSlice 29 (.int .i64 (max (n:Int) (n':Int))) (.int .i64 (max (n:Int) (n':Int)))).run Tryz.prog W=.ok (.slice (some ⟨W.heap.size,0,none⟩) (max n n') (max n n')) (W.alloc (.cells (madeCells #[.int .u32 0] (max n n')) 92)):=fun W=>by
  rw[show max (n:Int) (n':Int)=((max n n':Nat):Int) by omega]
  exact make_u32 (max n n') (by omega) .i64 .i64 W
 replace h1:=Lib.hid h1;replace h2:=Lib.hid h2;replace hle:=Lib.hid hle;replace hlt:=Lib.hid hlt;go_enter Tryz.func144,Tryz.ntmps144;go_wp2
 go_loopw [10,11,12,23] (fun pv mv bv iv wr=>∃ (k plus minus br:Nat) (zs:List Nat),k≤max n n'∧iv=.int .i64 k∧pv=.int .u64 plus∧mv=.int .u64 minus∧bv=.int .u64 br∧br≤1∧plus<4294967296∧minus<4294967296 ∧
   zs.length=max n n'∧Own wr w.heap.size zs∧Below w.heap.size w wr ∧
   val (zs.take k)+q*val ((limbs y).take k)+4294967296^k*plus=p*val ((limbs x).take k)+4294967296^k*(minus+br))
  (fun _ _ _ iv _=>max n n'-(intOf iv).toNat)
 case atStart=>exact⟨0,0,0,0,List.replicate (max n n') 0,Nat.zero_le _,rfl,rfl,rfl,rfl,by omega,by omega,by omega,by simp,Own.new _ _,(Below.refl _ _).alloc (Nat.le_refl _) _,by simp[val]⟩
 case round=>
  clear hmk;obtain⟨k,plus,minus,br,zs,hk,rfl,rfl,rfl,rfl,hbr,hpl,hmi,hl,hO,hB,hv⟩:=hrel;replace hl:=Lib.hid hl;replace hO:=Lib.hid hO;replace hB:=Lib.hid hB;replace hv:=Lib.hid hv
  by_cases hlt2:k<max n n'
  ·obtain⟨x1,hx1⟩:∃ x1,(limbs x).getD k 0=x1:=⟨_,rfl⟩
   obtain⟨y1,hy1⟩:∃ y1,(limbs y).getD k 0=y1:=⟨_,rfl⟩;have hx1b:x1<4294967296:=by rw[←hx1];exact sm_get (sm_limbs _) k
   have hy1b:y1<4294967296:=by rw[←hy1];exact sm_get (sm_limbs _) k
   obtain⟨P,hP⟩:∃ P,P=plus+p*x1:=⟨_,rfl⟩;obtain⟨M,hM⟩:∃ M,M=minus+q*y1:=⟨_,rfl⟩;have hp1:=mul_bd hp hx1b;have hq1:=mul_bd hq hy1b;have hPc:(plus:Int)+(p:Int)*(x1:Int)=(P:Int):=by rw[hP];simp
   have hMc:(minus:Int)+(q:Int)*(y1:Int)=(M:Int):=by rw[hM];simp
   have hPb:(P:Int)≤18446744069414584320:=by omega
   have hMb:(M:Int)≤18446744069414584320:=by omega
   have hp2:(p:Int)*(x1:Int)≤18446744065119617025:=by have e:((p*x1:Nat):Int)=(p:Int)*x1:=Int.natCast_mul p x1;omega
   have hp3:0≤(p:Int)*(x1:Int):=by have e:((p*x1:Nat):Int)=(p:Int)*x1:=Int.natCast_mul p x1;omega
   have hq2:(q:Int)*(y1:Int)≤18446744065119617025:=by have e:((q*y1:Nat):Int)=(q:Int)*y1:=Int.natCast_mul q y1;omega
   have hq3:0≤(q:Int)*(y1:Int):=by have e:((q*y1:Nat):Int)=(q:Int)*y1:=Int.natCast_mul q y1;omega
   obtain⟨d,b',hd,hb',hdd,he1,he2⟩:=diff_limb (P:=P) (M:=M) hbr;have hst:=diff_step (by rw[hl.out];exact hlt2) hv.out hx1 hy1 hP hM hdd
   have hPd:P / 4294967296<4294967296:=by omega
   have hMd:M / 4294967296<4294967296:=by omega
   have hcell:=hO.out.cell (k:=k) (by rw[hl.out];omega)
   have hfz:=hO.out.frozen k;replace hx1:=Lib.hid hx1;replace hy1:=Lib.hid hy1;replace hst:=Lib.hid hst;replace he1:=Lib.hid he1;replace he2:=Lib.hid he2;replace hPd:=Lib.hid hPd;replace hMd:=Lib.hid hMd;replace hd:=Lib.hid hd;clear hp1 hq1 hP hM hdd
   go_wp2_with fail
   refine (limbAt_eq _ _ _ _ _ _ k x1 (h1.out.below hB.out) (by omega) rfl hx1.out).mono ?_
   rintro e w' ⟨rfl,rfl⟩
   go_wp2_with fail
   refine (limbAt_eq _ _ _ _ _ _ k y1 (h2.out.below hB.out) (by omega) rfl hy1.out).mono ?_
   rintro e w' ⟨rfl,rfl⟩;go_wp2
   go_roundw
   case rel=>
    have O2:=hO.out.set_ k d hd.out;simp only[IntKind.wrap_u64];rw[he1.out,he2.out];exact⟨k+1,P / 4294967296,M / 4294967296,b',_,by omega,by go_num,by go_num,by go_num,rfl,hb',hPd.out,hMd.out,by rw[List.length_set];exact hl.out,O2,hB.out.setCell (Nat.le_refl _) _,hst.out⟩
   case measure=>simp[intOf];omega
  ·obtain rfl:k=max n n':=by omega
   have hfin:=Lib.hid (diff_last hl.out hO.out.sm (by rw[h1.out.len];omega) (by rw[h2.out.len];omega) (val_limbs x) (val_limbs y) hv.out hle.out hlt.out)
   go_wp2_with fail
   refine (trim_any _ _ _ zs _ (hO.out.rdn hl.out (Nat.le_refl _)) (by omega)).mono ?_
   rintro e w' ⟨n',rfl,rfl,R⟩;rw[hfin.out] at R;replace R:=Lib.hid R;go_wp2;go_ret;exact⟨_,_,_,rfl,R.out,hB.out⟩
end Go.Proofs.YthlinhconnmbcaaGreat
namespace Go.Proofs.YthlinhconnmbcaaGreat
open Go.RowKit
theorem high_any (A:Option Addr) (n c x m s:Nat) (ni si:Int) (w:World) (h:Rd w A n c (limbs x)) (hn:n≤1000000000) (hm:m≤1000000000) (hni:ni=(m:Int)+3) (hsi:si=s) (hs:s<32)
  (hx:x<4294967296^(m+3)) (hb:x / 4294967296^m*2^s<79228162514264337593543950336) :
  Calls Tryz.prog 143 #[.slice A n c,.int .i64 ni,.int .i64 si] w fun e w'=>e=.returned (.int .u64 (x / 4294967296^m / 2^(32-s):Nat))∧Below w.heap.size w w':=by
 subst hsi;obtain⟨a1,h1⟩:∃ a1,(limbs x).getD m 0=a1:=⟨_,rfl⟩;obtain⟨a2,h2⟩:∃ a2,(limbs x).getD (m+1) 0=a2:=⟨_,rfl⟩;obtain⟨a3,h3⟩:∃ a3,(limbs x).getD (m+2) 0=a3:=⟨_,rfl⟩;have b1:a1<4294967296:=by rw[←h1];exact sm_get (sm_limbs _) _
 have b2:a2<4294967296:=by rw[←h2];exact sm_get (sm_limbs _) _
 have b3:a3<4294967296:=by rw[←h3];exact sm_get (sm_limbs _) _
 have hV:=top3 hx h1 h2 h3;obtain⟨hm1,hm2,hm3⟩:=high_math (a1:=a1) hs hV b1 hb;have hor1:=or_limb a3 a2 b3 b2;obtain⟨hi,hhi⟩:∃ hi,a3*4294967296+a2=hi:=⟨_,rfl⟩;rw[hhi] at hm1 hm3 hor1;have hhib:(hi:Int)≤18446744073709551615:=by omega
 obtain⟨p,hp⟩:∃ p,hi*2^s=p:=⟨_,rfl⟩;obtain⟨q,hq⟩:∃ q,a1 / 2^(32-s)=q:=⟨_,rfl⟩;have hpc:(hi:Int)*2^s=(p:Int):=by rw[←hp];simp
 have hqc:(a1:Int) / 2^(32-s)=(q:Int):=by rw[←hq];simp
 rw[hp] at hm1 hm3;rw[hq] at hm2 hm3;have hpb:(p:Int)≤18446744073709551615:=by omega
 have hq31:=pow31 hs;have hqb:(q:Int)≤2147483648:=by omega
 have hor2:=u64_or_nat p q hm1 (by omega)
 rw[hm3] at hor2;obtain⟨R,hR⟩:∃ R,x / 4294967296^m / 2^(32-s)=R:=⟨_,rfl⟩;rw[hR] at hor2 ⊢;have hc1:=fun W h'=>limbAt_eq A n c (limbs x) W ((m:Int)+3-1) (m+2) a3 h' (by omega) (by omega) h3
 have hc2:=fun W h'=>limbAt_eq A n c (limbs x) W ((m:Int)+3-2) (m+1) a2 h' (by omega) (by omega) h2
 have hc3:=fun W h'=>limbAt_any A n c (limbs x) W (m:Int) m a1 h' (by omega) rfl h1
 subst hni;replace hc1:=Lib.hid hc1;replace hc2:=Lib.hid hc2;replace hc3:=Lib.hid hc3;replace h:=Lib.hid h;clear h1 h2 h3 hV hm1 hm2 hm3 hhi hp hq hR hx hb hq31;have hsh:(0:Int)≤32-(s:Int):=by omega
 have hsi0:(0:Int)≤(s:Int):=by omega
 go_enter Tryz.func143,Tryz.ntmps143
 go_wp2_with fail
 refine (hc1.out _ h.out).mono ?_
 rintro e w' ⟨rfl,rfl⟩
 go_wp2_with fail
 refine (hc2.out _ h.out).mono ?_
 rintro e w' ⟨rfl,rfl⟩;go_wp2;have hw3:IntKind.i64.wrap (m:Int)=(m:Int):=IntWalk.i64_in _ (by omega)
 have hw4:IntKind.i64.wrap (32-(s:Int))=32-(s:Int):=IntWalk.i64_in _ (by omega)
 have hw5:(32-(s:Int)).toNat=32-s:=by omega
 go_quiet ((go_at_call 151;(with_reducible refine Calls.quiet_of_same (hc3.out _ ?_));exact⟨h.out.len,h.out.cap,h.out.sm,h.out.mem⟩))
 go_wp2;go_ret;exact⟨rfl,drewN_below _ _⟩
def Blk (w:World) (g:Nat) (a b c d:Nat) (o:Bool):Prop:=w.heap[g]?=some (.cells #[.int .u64 (a:Nat),.int .u64 (b:Nat),.int .u64 (c:Nat),.int .u64 (d:Nat),.bool o] 136 (0,0))
theorem Blk.cells {w:World} {g a b c d:Nat} {o:Bool} (h:Blk w g a b c d o) :
  w.cell? ⟨g,0,none⟩=some (.int .u64 (a:Nat))∧w.cell? ⟨g,1,none⟩=some (.int .u64 (b:Nat))∧w.cell? ⟨g,2,none⟩=some (.int .u64 (c:Nat))∧w.cell? ⟨g,3,none⟩=some (.int .u64 (d:Nat))∧w.cell? ⟨g,4,none⟩=some (.bool o):=by
 refine⟨?_,?_,?_,?_,?_⟩<;>(rw[cell_of_row w g _ _ 136 (0,0) h];rfl)
theorem Blk.frozen {w:World} {g a b c d:Nat} {o:Bool} (h:Blk w g a b c d o) (i:Nat):w.frozen? ⟨g,i,none⟩=false:=by
 unfold Blk at h;simp[World.frozen?,h]
structure Inv (x y r s a b c d:Nat) (o:Bool):Prop where
 ex:d*r+b*s=x
 ey:c*r+a*s=y
 det:if o then b*c=a*d+1 else a*d=b*c+1
 d1:1≤d
 bd:b≤d
 cd:c≤d
 shape:(a=1∧b=0∧c=0∧d=1∧o=false)∨(1≤b∧a≤b∧1≤c)
def Good (x y a b c d:Nat) (o:Bool):Prop:=
 (a=1∧b=0∧c=0∧d=1∧o=false)∨∃ r s,Inv x y r s a b c d o∧1≤b∧d≤s∧b+d+s≤r
theorem Inv.first (x y:Nat):Inv x y x y 1 0 0 1 false:=⟨by omega,by omega,by simp,by omega,by omega,by omega,.inl ⟨rfl,rfl,rfl,rfl,rfl⟩⟩
theorem Inv.next {x y r s a b c d:Nat} {o:Bool} (h:Inv x y r s a b c d o) (hs:0<s) (hrs:s≤r):Inv x y s (r%s) c d (a+r / s*c) (b+r / s*d) (!o):=by
 have e:=Nat.div_add_mod' r s;have hq:1≤r / s:=(Nat.le_div_iff_mul_le hs).2 (by omega)
 generalize r / s=q at *;generalize r%s=t at *;have hqd:d≤q*d:=Nat.le_mul_of_pos_left d (by omega)
 have hqc:q*c≤q*d:=Nat.mul_le_mul_left q h.cd;refine⟨?_,?_,?_,?_,by omega,?_,.inr ⟨h.d1,h.cd,?_⟩⟩
 ·rw[←h.ex,←e,Nat.add_mul,Nat.mul_add,Nat.mul_right_comm,Nat.mul_comm d (q*s),Nat.mul_right_comm];omega
 ·rw[←h.ey,←e,Nat.add_mul,Nat.mul_add,Nat.mul_right_comm,Nat.mul_comm c (q*s),Nat.mul_right_comm];omega
 ·have hdet:=h.det
  have e1:d*(a+q*c)=a*d+q*c*d:=by rw[Nat.mul_add,Nat.mul_comm d a,Nat.mul_comm d]
  have e2:c*(b+q*d)=b*c+q*c*d:=by rw[Nat.mul_add,Nat.mul_comm c b,Nat.mul_comm c,Nat.mul_right_comm]
  cases o
  ·simp only[Bool.not_false,if_true]
   simp at hdet
   rw[e1,e2];omega
  ·simp only[Bool.not_true]
   simp at hdet ⊢
   rw[e1,e2];omega
 ·have:=h.d1;omega
 ·rcases h.shape with ⟨rfl,rfl,rfl,rfl,_⟩ | ⟨h1,h2,h3⟩
  ·simp;omega
  ·omega
 ·rcases h.shape with ⟨rfl,rfl,rfl,rfl,_⟩ | ⟨h1,h2,h3⟩
  ·omega
  ·have:c≤q*c:=Nat.le_mul_of_pos_left c (by omega)
   omega
theorem Inv.small {x y r s a b c d:Nat} {o:Bool} (h:Inv x y r s a b c d o) (hd:d≤s) (hrs:s≤r) (hx:x<18446744073709551616):d<4294967296:=by
 rcases Nat.lt_or_ge d 4294967296 with hl | hl
 ·exact hl
 ·exfalso
  have h1:=Nat.mul_le_mul hl (show 4294967296≤r by omega)
  have:=h.ex
  omega
theorem Inv.dx {x y r s a b c d:Nat} {o:Bool} (h:Inv x y r s a b c d o) (hr:0<r):d≤x:=by
 have:=Nat.le_mul_of_pos_right d hr;have:=h.ex
 omega
abbrev st5 (w:World) (g:Nat) (v0 v1 v2 v3 v4:Value):World:=((((w.setCell ⟨g,0,none⟩ v0).setCell ⟨g,1,none⟩ v1).setCell ⟨g,2,none⟩ v2).setCell ⟨g,3,none⟩ v3).setCell ⟨g,4,none⟩ v4
theorem st5_at {w:World} {g:Nat} {u0 u1 u2 u3 u4:Value} (v0 v1 v2 v3 v4:Value) (h:w.heap[g]?=some (.cells #[u0,u1,u2,u3,u4] 136 (0,0))) :
  (st5 w g v0 v1 v2 v3 v4).heap[g]?=some (.cells #[v0,v1,v2,v3,v4] 136 (0,0)):=by
 simp[st5,World.setCell,Array.getElem?_modify,h]
theorem st5_far (w:World) (g g':Nat) (v0 v1 v2 v3 v4:Value) (h:g'≠g):(st5 w g v0 v1 v2 v3 v4).heap[g']?=w.heap[g']?:=by
 unfold st5;rw[Below.heap_setCell _ _ _ _ h,Below.heap_setCell _ _ _ _ h,Below.heap_setCell _ _ _ _ h,Below.heap_setCell _ _ _ _ h,Below.heap_setCell _ _ _ _ h]
theorem st5_below {B:Nat} {a w:World} {g:Nat} (v0 v1 v2 v3 v4:Value) (h:Below B a w) (hg:B≤g):Below B a (st5 w g v0 v1 v2 v3 v4):=
 ((((h.setCell hg _).setCell hg _).setCell hg _).setCell hg _).setCell hg _
theorem cells5 {w:World} {g:Nat} {u0 u1 u2 u3 u4:Value} (h:w.heap[g]?=some (.cells #[u0,u1,u2,u3,u4] 136 (0,0))) :
  (w.cell? ⟨g,0,none⟩=some u0∧w.cell? ⟨g,1,none⟩=some u1∧w.cell? ⟨g,2,none⟩=some u2∧w.cell? ⟨g,3,none⟩=some u3∧w.cell? ⟨g,4,none⟩=some u4)∧(w.frozen? ⟨g,0,none⟩=false∧w.frozen? ⟨g,1,none⟩=false∧w.frozen? ⟨g,2,none⟩=false∧w.frozen? ⟨g,3,none⟩=false∧w.frozen? ⟨g,4,none⟩=false):=by
 refine⟨⟨?_,?_,?_,?_,?_⟩,?_,?_,?_,?_,?_⟩
 iterate 5 (rw[cell_of_row w g _ _ 136 (0,0) h];rfl)
 all_goals simp[World.frozen?,h]
theorem two_st (wr:World) (B:Nat) (g1 g2 g0 nq:Nat) (v0 v1 v2 v3 v4 x0 x1 x2 x3 x4:Value) {w:World} {a0 a1 a2 a3 a4 b0 b1 b2 b3 b4:Value} {C0:Option Obj}
  (h1:wr.heap[g1]?=some (.cells #[a0,a1,a2,a3,a4] 136 (0,0))) (h2:wr.heap[g2]?=some (.cells #[b0,b1,b2,b3,b4] 136 (0,0))) (h0:wr.heap[g0]?=C0) (n12:g2≠g1) (n01:g0≠g1) (n02:g0≠g2)
  (hB:Below B w wr) (hb1:B≤g1) (hb2:B≤g2) :
  (st5 ((st5 wr g1 v0 v1 v2 v3 v4).drewN nq) g2 x0 x1 x2 x3 x4).heap[g1]?=some (.cells #[v0,v1,v2,v3,v4] 136 (0,0)) ∧
  (st5 ((st5 wr g1 v0 v1 v2 v3 v4).drewN nq) g2 x0 x1 x2 x3 x4).heap[g2]?=some (.cells #[x0,x1,x2,x3,x4] 136 (0,0)) ∧
  (st5 ((st5 wr g1 v0 v1 v2 v3 v4).drewN nq) g2 x0 x1 x2 x3 x4).heap[g0]?=C0∧Below B w (st5 ((st5 wr g1 v0 v1 v2 v3 v4).drewN nq) g2 x0 x1 x2 x3 x4):=by
 have e1:(st5 wr g1 v0 v1 v2 v3 v4).heap[g1]?=some (.cells #[v0,v1,v2,v3,v4] 136 (0,0)):=st5_at v0 v1 v2 v3 v4 h1;have e2:(st5 wr g1 v0 v1 v2 v3 v4).heap[g2]?=wr.heap[g2]?:=st5_far wr g1 g2 v0 v1 v2 v3 v4 n12;have e0:(st5 wr g1 v0 v1 v2 v3 v4).heap[g0]?=wr.heap[g0]?:=st5_far wr g1 g0 v0 v1 v2 v3 v4 n01;have e3:Below B w (st5 wr g1 v0 v1 v2 v3 v4):=st5_below v0 v1 v2 v3 v4 hB hb1;generalize st5 wr g1 v0 v1 v2 v3 v4=W at *
 refine⟨?_,?_,?_,?_⟩
 ·exact (st5_far (W.drewN nq) g2 g1 x0 x1 x2 x3 x4 n12.symm).trans e1
 ·exact st5_at (w:=W.drewN nq) x0 x1 x2 x3 x4 (e2.trans h2)
 ·exact (st5_far (W.drewN nq) g2 g0 x0 x1 x2 x3 x4 n02).trans (e0.trans h0)
 ·exact st5_below x0 x1 x2 x3 x4 (below_drewN e3 nq) hb2
theorem res63 (W:World) (tmps:Array Value) (g:Nat) {v0 v1 v2 v3 v4:Value} (ht:tmps.getD 4 undef=.pointer (some ⟨g,0,none⟩)) (h:W.heap[g]?=some (.cells #[v0,v1,v2,v3,v4] 136 (0,0))) :
  (results Tryz.f142 tmps).run Tryz.prog W=.ok (.agg #[v0,v1,v2,v3,v4]) W:=by
 obtain⟨⟨c0,c1,c2,c3,c4⟩,_⟩:=cells5 h;have ht':tmps[4]?.getD undef=.pointer (some ⟨g,0,none⟩):=by rw[←ht];simp[Array.getD_eq_getD_getElem?]
 simp[results,Tryz.results142,go_sem,ht',c0,c1,c2,c3,c4]
theorem new3 (w:World) (A B C:Array Value):(((w.alloc (.cells A 136)).alloc (.cells B 136)).alloc (.cells C 136)).heap[w.heap.size]?=some (.cells A 136 (0,0)) ∧
  (((w.alloc (.cells A 136)).alloc (.cells B 136)).alloc (.cells C 136)).heap[w.heap.size+1]?=some (.cells B 136 (0,0))∧(((w.alloc (.cells A 136)).alloc (.cells B 136)).alloc (.cells C 136)).heap[w.heap.size+1+1]?=some (.cells C 136 (0,0)):=by
 refine⟨?_,?_,?_⟩
 ·rw[Below.heap_alloc _ _ _ (by simp;omega),Below.heap_alloc _ _ _ (by simp)];exact heap_alloc_new w _
 ·rw[Below.heap_alloc _ _ _ (by simp)]
  have:=heap_alloc_new (w.alloc (.cells A 136)) (.cells B 136);rw[show (w.alloc (.cells A 136)).heap.size=w.heap.size+1 by simp] at this
  exact this
 ·have:=heap_alloc_new ((w.alloc (.cells A 136)).alloc (.cells B 136)) (.cells C 136)
  rw[show ((w.alloc (.cells A 136)).alloc (.cells B 136)).heap.size=w.heap.size+1+1 by simp] at this
  exact this
theorem foresee_any (x y:Nat) (w:World) (hx:x<18446744073709551616) (hyx:y≤x) :
  Calls Tryz.prog 142 #[.int .u64 x,.int .u64 y] w fun e w'=>∃ a b c d o,e=.returned (.agg #[.int .u64 (a:Nat),.int .u64 (b:Nat),.int .u64 (c:Nat),.int .u64 (d:Nat),.bool o])∧Good x y a b c d o∧Below w.heap.size w w':=by
 replace hx:=Lib.hid hx;replace hyx:=Lib.hid hyx;go_enter Tryz.func142,Tryz.ntmps142;go_wp2
 go_loopg [0,1] y (fun s xv yv wr=>∃ (r a b c d a' b' c' d':Nat) (o o':Bool),xv=.int .u64 (r:Nat)∧yv=.int .u64 (s:Nat)∧s≤r∧r≤x∧Inv x y r s a b c d o∧Good x y a' b' c' d' o' ∧
   Blk wr (w.heap.size+1) a' b' c' d' o'∧Blk wr (w.heap.size+1+1) a b c d o∧(∃ u0 u1 u2 u3 u4,wr.heap[w.heap.size]?=some (.cells #[u0,u1,u2,u3,u4] 136 (0,0)))∧Below w.heap.size w wr)
 case atStart=>
  have hn:=new3 w #[.int .u64 0,.int .u64 0,.int .u64 0,.int .u64 0,.bool false] #[.int .u64 1,.int .u64 0,.int .u64 0,.int .u64 1,.bool false] #[.int .u64 1,.int .u64 0,.int .u64 0,.int .u64 1,.bool false];exact⟨x,1,0,0,1,1,0,0,1,false,false,rfl,rfl,hyx.out,Nat.le_refl _,Inv.first x y,.inl ⟨rfl,rfl,rfl,rfl,rfl⟩,hn.2.1,hn.2.2,⟨_,_,_,_,_,hn.1⟩,(((Below.refl _ _).alloc (Nat.le_refl _) _).alloc (by simp) _).alloc (by simp;omega) _⟩
 case round=>
  obtain⟨r,a,b,c,d,a',b',c',d',o,o',rfl,rfl,hsr,hrx,hI,hGd,hB1,hB2,⟨u0,u1,u2,u3,u4,hB0⟩,hB⟩:=hrel;obtain⟨⟨k0,k1,k2,k3,k4⟩,f0,f1,f2,f3,f4⟩:=cells5 hB1;obtain⟨⟨n0,n1,n2,n3,n4⟩,e0,e1,e2,e3,e4⟩:=cells5 hB2;obtain⟨⟨p0,p1,p2,p3,p4⟩,q0,q1,q2,q3,q4⟩:=cells5 hB0;have hrb:(r:Int)≤18446744073709551615:=by have:=hx.out;omega
  replace hI:=Lib.hid hI;replace hGd:=Lib.hid hGd;replace hB:=Lib.hid hB;replace hB0:=Lib.hid hB0;replace hB1:=Lib.hid hB1;replace hB2:=Lib.hid hB2;replace hrx:=Lib.hid hrx
  by_cases hc1:d≤gk
  ·have hd32:=hI.out.small hc1 hsr hx.out
   have hbd:=hI.out.bd
   by_cases hc2:b+d+gk≤r
   ·have hs0:(1:Int)≤(gk:Int):=by have:=hI.out.d1;omega
    have hc2i:(b:Int)+(d:Int)≤(r:Int)-(gk:Int):=by omega
    have hdt:decide (d≤gk)=true:=by simp;exact hc1
    have hct:decide ((b:Int)+(d:Int)≤(r:Int)-(gk:Int))=true:=decide_eq_true hc2i;have hIn:=hI.out.next (show 0<gk by omega) hsr
    have hdx:=hIn.dx (show 0<gk by omega)
    have hcd:=hIn.cd;obtain⟨qq,hq⟩:∃ qq,r / gk=qq:=⟨_,rfl⟩;rw[hq] at hIn hdx hcd;have hqi:(r:Int) / (gk:Int)=(qq:Int):=by rw[←hq];simp
    have hmi:(r:Int)%(gk:Int)=((r%gk:Nat):Int):=(Int.natCast_emod r gk).symm;obtain⟨P,hP⟩:∃ P,qq*d=P:=⟨_,rfl⟩;obtain⟨Q,hQ⟩:∃ Q,qq*c=Q:=⟨_,rfl⟩;rw[hP] at hIn hdx hcd;rw[hQ] at hIn hcd;have hPi:(qq:Int)*(d:Int)=(P:Int):=by rw[←hP];simp
    have hQi:(qq:Int)*(c:Int)=(Q:Int):=by rw[←hQ];simp
    have hxx:=hx.out;have hPb:(b:Int)+(P:Int)≤18446744073709551615:=by omega
    have hQb:(a:Int)+(Q:Int)≤18446744073709551615:=by omega
    have hqb:(qq:Int)≤18446744073709551615:=by have:qq≤r:=by { rw[←hq];exact Nat.div_le_self _ _ };omega
    have hml:r%gk<gk:=Nat.mod_lt _ (by omega)
    replace hIn:=Lib.hid hIn;replace hml:=Lib.hid hml;clear hq hP hQ hdx hcd hxx;have hGn:Hid (Good x y a b c d o):=by
     rcases hI.out.shape with h | ⟨h,_,_⟩
     ·exact .inl h
     ·exact .inr ⟨r,gk,hI.out,h,hc1,hc2⟩
    have hgx:Hid (gk≤x):=by have:=hrx.out;show gk≤x;omega
    have z1:w.heap.size+1+1≠w.heap.size+1:=by omega
    have z2:w.heap.size≠w.heap.size+1+1:=by omega
    have z3:w.heap.size≠w.heap.size+1:=by omega
    replace z1:=Lib.hid z1;replace z2:=Lib.hid z2;replace z3:=Lib.hid z3;go_wp2
    go_quiet (fail)
    go_wp2
    go_roundg (r%gk)
    case measure=>exact hml.out
    case rel=>
     have hv1:(a:Int)+(Q:Int)=((a+Q:Nat):Int):=(Int.natCast_add a Q).symm;have hv2:(b:Int)+(P:Int)=((b+P:Nat):Int):=(Int.natCast_add b P).symm;rw[hv1,hv2,hmi];clear hv1 hv2 hmi hqi hPi hQi;exact⟨gk,c,d,a+Q,b+P,a,b,c,d,!o,o,rfl,rfl,Nat.le_of_lt hml.out,hgx.out,hIn.out,hGn.out,(two_st wr w.heap.size _ _ _ _ _ _ _ _ _ _ _ _ _ _ hB1.out hB2.out hB0.out z1.out z3.out z2.out hB.out (Nat.le_succ _) (Nat.le_trans (Nat.le_succ _) (Nat.le_succ _))).1,(two_st wr w.heap.size _ _ _ _ _ _ _ _ _ _ _ _ _ _ hB1.out hB2.out hB0.out z1.out z3.out z2.out hB.out (Nat.le_succ _) (Nat.le_trans (Nat.le_succ _) (Nat.le_succ _))).2.1,⟨u0,u1,u2,u3,u4,(two_st wr w.heap.size _ _ _ _ _ _ _ _ _ _ _ _ _ _ hB1.out hB2.out hB0.out z1.out z3.out z2.out hB.out (Nat.le_succ _) (Nat.le_trans (Nat.le_succ _) (Nat.le_succ _))).2.2.1⟩,(two_st wr w.heap.size _ _ _ _ _ _ _ _ _ _ _ _ _ _ hB1.out hB2.out hB0.out z1.out z3.out z2.out hB.out (Nat.le_succ _) (Nat.le_trans (Nat.le_succ _) (Nat.le_succ _))).2.2.2⟩
   ·have hdt:decide (d≤gk)=true:=by simp;exact hc1
    have hct:decide ((b:Int)+(d:Int)≤(r:Int)-(gk:Int))=false:=by simp;omega
    go_wp2;refine bodyPost_ret (res63 _ _ w.heap.size rfl (st5_at (.int .u64 (a':Nat)) (.int .u64 (b':Nat)) (.int .u64 (c':Nat)) (.int .u64 (d':Nat)) (.bool o') hB0.out)) rfl ?_
    exact⟨a',b',c',d',o',rfl,hGd.out,st5_below _ _ _ _ _ hB.out (Nat.le_refl _)⟩
  ·have hdt:decide (d≤gk)=false:=by simp;omega
   go_wp2;refine bodyPost_ret (res63 _ _ w.heap.size rfl (st5_at (.int .u64 (a':Nat)) (.int .u64 (b':Nat)) (.int .u64 (c':Nat)) (.int .u64 (d':Nat)) (.bool o') hB0.out)) rfl ?_
   exact⟨a',b',c',d',o',rfl,hGd.out,st5_below _ _ _ _ _ hB.out (Nat.le_refl _)⟩
end Go.Proofs.YthlinhconnmbcaaGreat
namespace Go.Proofs.YthlinhconnmbcaaGreat
theorem inv_even {xh yh r s a b c d:Nat} (h:Inv xh yh r s a b c d false):a*xh=r+b*yh∧d*yh=s+c*xh:=by
 have h1:=h.ex;have h2:=h.ey;have h3:a*d=b*c+1:=by have:=h.det;simpa using this
 constructor
 ·rw[←h1,←h2,Nat.mul_add,Nat.mul_add,←Nat.mul_assoc,←Nat.mul_assoc,←Nat.mul_assoc,←Nat.mul_assoc,h3,Nat.add_mul,Nat.one_mul,Nat.mul_comm a b];omega
 ·rw[←h1,←h2,Nat.mul_add,Nat.mul_add,←Nat.mul_assoc,←Nat.mul_assoc,←Nat.mul_assoc,←Nat.mul_assoc,Nat.mul_comm d a,h3,Nat.add_mul,Nat.one_mul,Nat.mul_comm d c,Nat.mul_comm c b];omega
theorem inv_odd {xh yh r s a b c d:Nat} (h:Inv xh yh r s a b c d true):b*yh=r+a*xh∧c*xh=s+d*yh:=by
 have h1:=h.ex;have h2:=h.ey;have h3:b*c=a*d+1:=by have:=h.det;simpa using this
 constructor
 ·rw[←h1,←h2,Nat.mul_add,Nat.mul_add,←Nat.mul_assoc,←Nat.mul_assoc,←Nat.mul_assoc,←Nat.mul_assoc,h3,Nat.add_mul,Nat.one_mul,Nat.mul_comm a b];omega
 ·rw[←h1,←h2,Nat.mul_add,Nat.mul_add,←Nat.mul_assoc,←Nat.mul_assoc,←Nat.mul_assoc,←Nat.mul_assoc,Nat.mul_comm c b,h3,Nat.add_mul,Nat.one_mul,Nat.mul_comm d c,Nat.mul_comm d a];omega
theorem comb {X Y X' Y' a b c d:Nat} (h:(X'+b*Y=a*X∧Y'+c*X=d*Y∧a*d=b*c+1)∨(X'+a*X=b*Y∧Y'+d*Y=c*X∧b*c=a*d+1)) :
  d*X'+b*Y'=X∧c*X'+a*Y'=Y:=by
 rcases h with ⟨h1,h2,h3⟩ | ⟨h1,h2,h3⟩
 ·have e1:d*X'+d*(b*Y)=a*d*X:=by rw[←Nat.mul_add,h1,←Nat.mul_assoc,Nat.mul_comm d a]
  have e2:b*Y'+b*c*X=d*(b*Y):=by rw[Nat.mul_assoc,←Nat.mul_add,h2,Nat.mul_left_comm]
  have e3:c*X'+b*c*Y=a*(c*X):=by rw[Nat.mul_comm b c,Nat.mul_assoc,←Nat.mul_add,h1,Nat.mul_left_comm]
  have e4:a*Y'+a*(c*X)=a*d*Y:=by rw[←Nat.mul_add,h2,Nat.mul_assoc]
  rw[h3,Nat.add_mul,Nat.one_mul] at e1 e4
  omega
 ·have e1:d*X'+a*d*X=d*(b*Y):=by rw[Nat.mul_comm a d,Nat.mul_assoc,←Nat.mul_add,h1]
  have e2:b*Y'+d*(b*Y)=b*c*X:=by rw[Nat.mul_left_comm,←Nat.mul_add,h2,Nat.mul_assoc]
  have e3:c*X'+a*(c*X)=b*c*Y:=by rw[Nat.mul_left_comm,←Nat.mul_add,h1,←Nat.mul_assoc,Nat.mul_comm c b]
  have e4:a*Y'+a*d*Y=a*(c*X):=by rw[Nat.mul_assoc,←Nat.mul_add,h2]
  rw[h3,Nat.add_mul,Nat.one_mul] at e2 e3
  omega
theorem gcd_comb {X Y X' Y' a b c d:Nat} (h:(X'+b*Y=a*X∧Y'+c*X=d*Y)∨(X'+a*X=b*Y∧Y'+d*Y=c*X)) (e1:d*X'+b*Y'=X) (e2:c*X'+a*Y'=Y):Nat.gcd X' Y'=Nat.gcd X Y:=by
 apply Nat.dvd_antisymm
 ·apply Nat.dvd_gcd
  ·rw[←e1];exact Nat.dvd_add (Nat.dvd_mul_left_of_dvd (Nat.gcd_dvd_left _ _) _) (Nat.dvd_mul_left_of_dvd (Nat.gcd_dvd_right _ _) _)
  ·rw[←e2];exact Nat.dvd_add (Nat.dvd_mul_left_of_dvd (Nat.gcd_dvd_left _ _) _) (Nat.dvd_mul_left_of_dvd (Nat.gcd_dvd_right _ _) _)
 ·have gx:∀ k,Nat.gcd X Y∣k*X:=fun k=>Nat.dvd_mul_left_of_dvd (Nat.gcd_dvd_left _ _) _
  have gy:∀ k,Nat.gcd X Y∣k*Y:=fun k=>Nat.dvd_mul_left_of_dvd (Nat.gcd_dvd_right _ _) _
  rcases h with ⟨h1,h2⟩ | ⟨h1,h2⟩
  ·apply Nat.dvd_gcd
   ·exact (Nat.dvd_add_iff_left (gy b)).2 (by rw[h1];exact gx a)
   ·exact (Nat.dvd_add_iff_left (gx c)).2 (by rw[h2];exact gy d)
  ·apply Nat.dvd_gcd
   ·exact (Nat.dvd_add_iff_left (gx a)).2 (by rw[h1];exact gy b)
   ·exact (Nat.dvd_add_iff_left (gy d)).2 (by rw[h2];exact gx c)
structure Later (X Y X' Y':Nat):Prop where
 gcd:Nat.gcd X' Y'=Nat.gcd X Y
 le:Y'≤X'
 lt:X'+Y'<X+Y
 lx:X'≤X
theorem later_of {X Y X' Y' a b c d:Nat} (hX:0<X) (hle:Y'≤X') (hb:1≤b) (hc:1≤c) (hd:1≤d)
  (h:(X'+b*Y=a*X∧Y'+c*X=d*Y∧a*d=b*c+1)∨(X'+a*X=b*Y∧Y'+d*Y=c*X∧b*c=a*d+1)):Later X Y X' Y':=by
 obtain⟨e1,e2⟩:=comb h;have h':(X'+b*Y=a*X∧Y'+c*X=d*Y)∨(X'+a*X=b*Y∧Y'+d*Y=c*X):=by
  rcases h with ⟨p,q,_⟩ | ⟨p,q,_⟩
  ·exact .inl ⟨p,q⟩
  ·exact .inr ⟨p,q⟩
 have m1:X'≤d*X':=Nat.le_mul_of_pos_left X' (by omega)
 have m2:Y'≤b*Y':=Nat.le_mul_of_pos_left Y' (by omega)
 have m3:X'≤c*X':=Nat.le_mul_of_pos_left X' (by omega)
 have hx0:0<X':=by
  rcases Nat.eq_zero_or_pos X' with h0 | h0
  ·have hy0:Y'=0:=by omega
   rw[h0,hy0,Nat.mul_zero,Nat.mul_zero] at e1;omega
  ·exact h0
 exact⟨gcd_comb h' e1 e2,hle,by omega,by omega⟩
theorem lehmer_even {X Y T xl yl r s a b c d xh yh:Nat} (hX:X=xh*T+xl) (hxl:xl<T) (hY:Y=yh*T+yl) (hyl:yl<T) (h:Inv xh yh r s a b c d false) (hb:1≤b) (hc:1≤c) (hds:d≤s) (hr:b+d+s≤r) :
  ∃ X' Y',X'+b*Y=a*X∧Y'+c*X=d*Y∧Later X Y X' Y':=by
 obtain⟨e1,e2⟩:=inv_even h;have f1:a*X=r*T+b*yh*T+a*xl:=by rw[hX,Nat.mul_add,←Nat.mul_assoc,e1,Nat.add_mul]
 have f2:b*Y=b*yh*T+b*yl:=by rw[hY,Nat.mul_add,←Nat.mul_assoc]
 have f3:d*Y=s*T+c*xh*T+d*yl:=by rw[hY,Nat.mul_add,←Nat.mul_assoc,e2,Nat.add_mul]
 have f4:c*X=c*xh*T+c*xl:=by rw[hX,Nat.mul_add,←Nat.mul_assoc]
 have g1:b*yl≤b*T:=Nat.mul_le_mul_left b (by omega)
 have g2:c*xl≤c*T:=Nat.mul_le_mul_left c (by omega)
 have g3:d*yl≤d*T:=Nat.mul_le_mul_left d (by omega)
 have g4:b*T+d*T+s*T≤r*T:=by rw[←Nat.add_mul,←Nat.add_mul];exact Nat.mul_le_mul_right T hr
 have g5:c*T≤d*T:=Nat.mul_le_mul_right T h.cd;have g6:d*T≤s*T:=Nat.mul_le_mul_right T hds;have hX0:0<X:=by
  have h1:=h.ex;have h2:=Nat.mul_pos (show 0<d by have:=h.d1;omega) (show 0<r by omega)
  have h3:=Nat.mul_pos (show 0<xh by omega) (show 0<T by omega)
  omega
 obtain⟨X',hX'⟩:∃ X',X'+b*Y=a*X:=⟨a*X-b*Y,by omega⟩
 obtain⟨Y',hY'⟩:∃ Y',Y'+c*X=d*Y:=⟨d*Y-c*X,by omega⟩
 refine⟨X',Y',hX',hY',later_of hX0 (by omega) hb hc h.d1 (.inl ⟨hX',hY',by have:=h.det;simpa using this⟩)⟩
theorem lehmer_odd {X Y T xl yl r s a b c d xh yh:Nat} (hX:X=xh*T+xl) (hxl:xl<T) (hY:Y=yh*T+yl) (hyl:yl<T) (h:Inv xh yh r s a b c d true) (hb:1≤b) (ha:a≤b) (hc:1≤c) (hds:d≤s) (hr:b+d+s≤r) :
  ∃ X' Y',X'+a*X=b*Y∧Y'+d*Y=c*X∧Later X Y X' Y':=by
 obtain⟨e1,e2⟩:=inv_odd h;have f1:a*X=a*xh*T+a*xl:=by rw[hX,Nat.mul_add,←Nat.mul_assoc]
 have f2:b*Y=r*T+a*xh*T+b*yl:=by rw[hY,Nat.mul_add,←Nat.mul_assoc,e1,Nat.add_mul]
 have f3:d*Y=d*yh*T+d*yl:=by rw[hY,Nat.mul_add,←Nat.mul_assoc]
 have f4:c*X=s*T+d*yh*T+c*xl:=by rw[hX,Nat.mul_add,←Nat.mul_assoc,e2,Nat.add_mul]
 have g1:a*xl≤a*T:=Nat.mul_le_mul_left a (by omega)
 have g2:c*xl≤c*T:=Nat.mul_le_mul_left c (by omega)
 have g3:d*yl≤d*T:=Nat.mul_le_mul_left d (by omega)
 have g4:b*T+d*T+s*T≤r*T:=by rw[←Nat.add_mul,←Nat.add_mul];exact Nat.mul_le_mul_right T hr
 have g5:c*T≤d*T:=Nat.mul_le_mul_right T h.cd;have g6:d*T≤s*T:=Nat.mul_le_mul_right T hds;have g7:a*T≤b*T:=Nat.mul_le_mul_right T ha;have hX0:0<X:=by
  have h1:=h.ex;have h2:=Nat.mul_pos (show 0<d by have:=h.d1;omega) (show 0<r by omega)
  have h3:=Nat.mul_pos (show 0<xh by omega) (show 0<T by omega)
  omega
 obtain⟨X',hX'⟩:∃ X',X'+a*X=b*Y:=⟨b*Y-a*X,by omega⟩
 obtain⟨Y',hY'⟩:∃ Y',Y'+d*Y=c*X:=⟨c*X-d*Y,by omega⟩
 refine⟨X',Y',hX',hY',later_of hX0 (by omega) hb hc h.d1 (.inr ⟨hX',hY',by have:=h.det;simpa using this⟩)⟩
theorem later_div {X Y:Nat} (hY:0<Y) (hle:Y≤X):Later X Y Y (X%Y):=by
 have h:=Nat.mod_lt X hY;refine⟨gcd_step X Y,by omega,by omega,hle⟩
theorem high_bound {X m l bl s:Nat} (hl:(limbs X).length=m+3) (hle:(limbs X).getD (m+2) 0=l) (h1:l<2^bl) (hs:s+bl=32):X / 4294967296^m*2^s<79228162514264337593543950336:=by
 have e:=val_take_succ (limbs X) (m+2) (by omega)
 rw[List.take_of_length_le (by omega),val_limbs,hle] at e
 have h2:=val_lt (sm_take (sm_limbs X) (m+2));rw[List.length_take,Nat.min_eq_left (by omega)] at h2
 have h3:X<4294967296^(m+2)*2^bl:=by
  have:=Nat.mul_le_mul_left (4294967296^(m+2)) (show l+1≤2^bl by omega)
  rw[Nat.mul_add] at this;omega
 rw[Nat.pow_add,Nat.mul_assoc] at h3;have h4:X / 4294967296^m<4294967296^2*2^bl:=(Nat.div_lt_iff_lt_mul (Nat.pow_pos (by omega))).2 (by rw[Nat.mul_comm];exact h3)
 have h5:=Nat.mul_lt_mul_of_pos_right h4 (Nat.pow_pos (n:=s) (show 0<2 by omega))
 rw[Nat.mul_assoc,←Nat.pow_add,show bl+s=32 by omega] at h5
 exact h5
theorem high_64 {V s:Nat} (hs:s<32) (h:V*2^s<79228162514264337593543950336):V / 2^(32-s)<18446744073709551616:=by
 rw[Nat.div_lt_iff_lt_mul (Nat.pow_pos (by omega))]
 have hB:2^s*2^(32-s)=4294967296:=two_pow_32 hs;have hp:0<2^s:=Nat.pow_pos (by omega)
 apply Nat.lt_of_mul_lt_mul_right (a:=2^s)
 rw[Nat.mul_assoc,Nat.mul_comm (2^(32-s)),hB];exact h
end Go.Proofs.YthlinhconnmbcaaGreat
