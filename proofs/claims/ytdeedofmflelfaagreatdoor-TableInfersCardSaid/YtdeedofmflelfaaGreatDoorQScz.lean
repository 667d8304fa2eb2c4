/- What Format writes is read back by Parse. Decimal of rational for every number of digits. The reference's Power; made's Mod. -/
import Derived.Test.YtdeedofmflelfaaGreatDoorQRnz
import Derived.Lib.Repeat
import Derived.Test.YtdeedofmflelfaaGreatDoorQWzz
import Derived.Test.YtdeedofmflelfaaGreatDoorQWqz
import Derived.Test.YtdeedofmflelfaaGreatDoorQWjz
namespace Go.Proofs.YtdeedofmflelfaaGreatDoor
open Go.RowKit RQ
end Go.Proofs.YtdeedofmflelfaaGreatDoor

namespace Go.Proofs.YtdeedofmflelfaaGreatDoor
open Go.RowKit RQ
end Go.Proofs.YtdeedofmflelfaaGreatDoor

namespace Go.Proofs.YtdeedofmflelfaaGreatDoor
open Go.RowKit RQ
theorem lit_any {z:Nat} (hz:z<4294967296) (h0:0<z) (w:World) (t:Nat):Rd (w.alloc (.cells #[.int .u32 (z:Int)] t)) (some ⟨w.heap.size,0,none⟩) 1 1 (limbs z):=by
 have e:limbs z=[z]:=by rw[limbs_pos h0,Nat.mod_eq_of_lt hz,Nat.div_eq_of_lt hz,limbs_zero]
 rw[e]
 refine⟨rfl,Nat.le_refl _,fun x hx=>by rw[List.mem_singleton.1 hx];exact hz,.inr ⟨w.heap.size,0,rfl,by simp,fun k hk=>?_⟩⟩
 obtain rfl:k=0:=by omega
 rw[cell_of_row _ _ _ _ t (0,0) (heap_alloc_new w _)]
 rfl
set_option maxHeartbeats 2000000 in
theorem rpower3_any (A:Option Addr) (n c:Nat) (xs:List Nat) (k:Int) (w:World) (h1:Rd w A n c xs) (hn:n≤6) :
  Calls Tryz.prog 170 #[.slice A n c,.int .i64 k] w (RetN (powV (num xs) k) w):=by
 have hxl:num xs<4294967296^6:=by
  have:=num_lt h1.sm
  rw[h1.len] at this
  exact Nat.lt_of_lt_of_le this (Nat.pow_le_pow_right (by omega) hn)
 obtain⟨x,hx⟩:∃ x,num xs=x:=⟨_,rfl⟩
 rw[hx] at hxl ⊢
 replace hx:=Lib.hid hx
 replace h1:=Lib.hid h1
 replace hxl:=Lib.hid hxl
 by_cases hk0:k<0
 ·have e:powV x k=0:=if_neg (by omega)
  rw[e]
  clear e
  go_enter Tryz.func170,Tryz.ntmps170
  go_wp2
  go_ret
  exact⟨none,0,0,rfl,by rw[limbs_zero];exact Rd.nil_ _ _ _,Below.refl _ _⟩
 by_cases hk64:64<k
 ·have e:powV x k=0:=if_neg (by omega)
  rw[e]
  clear e
  go_enter Tryz.func170,Tryz.ntmps170
  go_wp2
  go_ret
  exact⟨none,0,0,rfl,by rw[limbs_zero];exact Rd.nil_ _ _ _,Below.refl _ _⟩
 have e:powV x k=x^k.toNat:=if_pos (by omega)
 rw[e]
 obtain⟨m,rfl⟩:=Int.eq_ofNat_of_zero_le (by omega:0≤k)
 rw[Int.toNat_natCast]
 have hm:m≤64:=by omega
 clear e hk0 hk64
 go_enter Tryz.func170,Tryz.ntmps170
 go_wp2
 go_loopw [5,6] (fun ov iv wr=>∃ (i:Nat) (A3:Option Addr) (n3 c3:Nat),i≤m∧iv=.int .i64 i∧ov=.slice A3 n3 c3∧Rd wr A3 n3 c3 (limbs (x^i))∧Below w.heap.size w wr)
  (fun _ iv _=>m-(intOf iv).toNat)
 case atStart=>exact⟨0,_,_,_,Nat.zero_le _,rfl,rfl,by rw[Nat.pow_zero];exact lit_any (by decide) (by decide) w _,(Below.refl _ _).alloc (Nat.le_refl _) _⟩
 case round=>
  obtain⟨i,A3,n3,c3,hi,rfl,rfl,R3,hB⟩:=hrel
  have hn3:n3≤6*i+1:=by rw[←R3.len];exact len_of_lt (pow_bd hxl.out (by omega))
  replace R3:=Lib.hid R3
  replace hB:=Lib.hid hB
  by_cases hlt:i<m
  ·have R1a:=Lib.hid (h1.out.below hB.out)
   go_wp2_with fail
   refine (rmul_any _ _ _ _ _ _ _ _ _ R3.out R1a.out (by omega) (by omega)).mono ?_
   rintro e w3 ⟨A4,n4,c4,rfl,R4,b4⟩
   rw[num_limbs,hx.out,←Nat.pow_succ] at R4
   replace R4:=Lib.hid R4
   replace hB:=Lib.hid (hB.out.trans (b4.mono hB.out.size))
   clear b4 R3 R1a
   go_wp2
   go_roundw
   case rel=>exact⟨i+1,_,_,_,by omega,by go_num,rfl,R4.out,hB.out⟩
   case measure=>simp[intOf];omega
  ·obtain rfl:i=m:=by omega
   go_wp2
   go_ret
   exact⟨_,_,_,rfl,R3.out,hB.out⟩
end Go.Proofs.YtdeedofmflelfaaGreatDoor
