/- The reference's cut, digits, zeros. The reference's decimal. The reference's scaled; its Parse of a text without a sign. -/
import Derived.Test.YtdeedofmflelfaaGreatDoorQScz
import Derived.Lib.CleanWalkFns
import Derived.Test.YtdeedofmflelfaaGreatDoorQTmz
import Derived.Test.YtdeedofmflelfaaGreatDoorQRlz
namespace Go.Proofs.YtdeedofmflelfaaGreatDoor
open Go.RowKit RQ
end Go.Proofs.YtdeedofmflelfaaGreatDoor

namespace Go.Proofs.YtdeedofmflelfaaGreatDoor
open Go.RowKit RQ
set_option linter.unusedVariables false
/-- The number that the reference's decimal reads. -/
def dcq (s:ByteArray):Rat:=if pdok s=true then Rat.divInt (pdval s:Int) ((10^pdpl s:Nat):Int) else 0
theorem p10p (k:Nat):(0:Int)<((10^k:Nat):Int):=by have:=Nat.pow_pos (n:=k) (show 0<10 by decide);omega
theorem pow10_l32 {k:Nat} (h:k≤300):(limbs (10^k)).length≤32:=limbs_len_le.2 (Nat.lt_of_le_of_lt (Nat.pow_le_pow_right (by decide) h) (by decide +kernel))
end Go.Proofs.YtdeedofmflelfaaGreatDoor

namespace Go.Proofs.YtdeedofmflelfaaGreatDoor
open Go.RowKit RQ
set_option linter.unusedVariables false
theorem ten_ne (n:Nat):((10:Rat)^n)≠0:=by
 induction n with
 | zero=>decide
 | succ n ih=>
  rw[Rat.pow_succ]
  intro h
  rcases Rat.mul_eq_zero.1 h with h | h
  ·exact ih h
  ·exact absurd h (by decide)
theorem ten_cast (n:Nat):(((10^n:Nat):Int):Rat)=(10:Rat)^n:=by
 induction n with
 | zero=>rfl
 | succ n ih=>
  rw[Rat.pow_succ,←ih,Nat.pow_succ]
  push_cast
  rfl
theorem divInt_ten (N n:Nat):Rat.divInt (N:Int) ((10^n:Nat):Int)=(N:Rat) / (10:Rat)^n:=by
 rw[Rat.divInt_eq_div,ten_cast]
 rfl
theorem ten_add (a b:Nat):(10:Rat)^(a+b)=(10:Rat)^a*(10:Rat)^b:=by
 induction b with
 | zero=>rw[Nat.add_zero,Rat.pow_zero,Rat.mul_one]
 | succ b ih=>rw[←Nat.add_assoc,Rat.pow_succ,ih,Rat.pow_succ,Rat.mul_assoc]
theorem qscale_up (N f v:Nat):qscale N ((v:Int)-(f:Int))=(N:Rat) / (10:Rat)^f*(10:Rat)^v:=by
 unfold qscale
 have hf:=ten_ne f
 by_cases h:f≤v
 ·rw[if_pos (by omega)]
  obtain⟨d,rfl⟩:∃ d,v=f+d:=⟨v-f,by omega⟩
  rw[show (((f+d:Nat):Int)-(f:Int)).toNat=d by omega,ten_add]
  have e:(((N*10^d:Nat):Int):Rat)=(N:Rat)*(10:Rat)^d:=by
   rw[←ten_cast];push_cast;rfl
  rw[e]
  grind
 ·rw[if_neg (by omega)]
  obtain⟨d,rfl⟩:∃ d,f=v+d:=⟨f-v,by omega⟩
  rw[show (-((v:Int)-((v+d:Nat):Int))).toNat=d by omega,divInt_ten,ten_add]
  have h1:=ten_ne v
  have h2:=ten_ne d
  grind
theorem qscale_down (N f v:Nat):qscale N (-(v:Int)-(f:Int))=(N:Rat) / (10:Rat)^f / (10:Rat)^v:=by
 unfold qscale
 by_cases h:f+v=0
 ·obtain⟨rfl,rfl⟩:f=0∧v=0:=by omega
  rw[if_pos (by decide)]
  have e:(((N*10^0:Nat):Int):Rat)=(N:Rat):=by rw[Nat.pow_zero,Nat.mul_one];rfl
  rw[show (-((0:Nat):Int)-((0:Nat):Int)).toNat=0 by decide,e]
  grind
 ·rw[if_neg (by omega),show (-(-(v:Int)-(f:Int))).toNat=f+v by omega,divInt_ten,ten_add]
  have h1:=ten_ne v
  have h2:=ten_ne f
  grind
def p10q (k:Nat):Rat:=(((10^k:Nat):Int):Rat)
end Go.Proofs.YtdeedofmflelfaaGreatDoor
