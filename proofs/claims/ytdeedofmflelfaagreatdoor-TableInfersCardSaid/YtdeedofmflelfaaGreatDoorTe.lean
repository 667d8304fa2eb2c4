/- sum of rational: numbers of any size. -/
import Derived.Test.YtdeedofmflelfaaGreatDoorQTaz
import Derived.Test.YtdeedofmflelfaaGreatDoorQRgz
import Derived.Test.YtdeedofmflelfaaGreatDoorDr
namespace Go.Proofs.YtdeedofmflelfaaGreatDoor
open Go.RowKit RQ
theorem len_mono2 {a b p:Nat} (h:a≤b) (hb:(limbs b).length≤p):(limbs a).length≤p:=limbs_len_le.2 (Nat.lt_of_le_of_lt h (limbs_len_le.1 hb))
theorem mulI_len2 {a b:Int} {p k:Nat} (h1:(limbs a.natAbs).length≤p) (h2:(limbs b.natAbs).length≤k):(limbs (a*b).natAbs).length≤p+k:=by
 rw[limbs_len_le] at *
 rw[Int.natAbs_mul,Nat.pow_add];exact mul_lt h1 h2
theorem over_u {P g:Nat} (h1:(limbs P).length≤500) (h2:(limbs g).length≤500) (hg:0<g) (W:World) (A:Option Addr) (n c:Nat) (A':Option Addr) (n' c':Nat) (q1:Rd W A n c (limbs P)) (q2:Rd W A' n' c' (limbs g)) :
  Calls Tryz.prog 200 #[.agg #[.bool false,.slice A n c],.agg #[.bool false,.slice A' n' c']] W (RetU (P / g) W):=by
 have:=over_any (P:Int) A n c g A' n' c' W (by rw[Int.natAbs_natCast];exact q1) q2 (by rw[←q1.len];exact h1) (by rw[←q2.len];exact h2) hg
 rw[ngN,←Int.natCast_ediv] at this
 exact this.mono fun _ _ h=>RetI.u h
theorem over_i {z:Int} {g:Nat} (h1:(limbs z.natAbs).length≤500) (h2:(limbs g).length≤500) (hg:0<g) (W:World) (A:Option Addr) (n c:Nat) (A':Option Addr) (n' c':Nat) (q1:Rd W A n c (limbs z.natAbs)) (q2:Rd W A' n' c' (limbs g)) :
  Calls Tryz.prog 200 #[.agg #[.bool (ng z),.slice A n c],.agg #[.bool false,.slice A' n' c']] W (RetI (z / (g:Int)) W):=
 over_any z A n c g A' n' c' W q1 q2 (by rw[←q1.len];exact h1) (by rw[←q2.len];exact h2) hg
theorem divisor_iu {z:Int} {g:Nat} (h1:(limbs z.natAbs).length≤500) (h2:(limbs g).length≤500) (W:World) (A:Option Addr) (n c:Nat) (A':Option Addr) (n' c':Nat) (q1:Rd W A n c (limbs z.natAbs)) (q2:Rd W A' n' c' (limbs g)) :
  Calls Tryz.prog 181 #[.agg #[.bool (ng z),.slice A n c],.agg #[.bool false,.slice A' n' c']] W (RetU (Int.gcd z (g:Int)) W):=by
 have:=divisor_any (ng z) A n c _ false A' n' c' _ W q1 q2 (by rw[←q1.len];exact h1) (by rw[←q2.len];exact h2)
 rw[iv_z,iv_pos] at this
 exact this.mono fun _ _ h=>RetI.u h
theorem mul_uu {P g:Nat} (h1:(limbs P).length≤1000) (h2:(limbs g).length≤1000) (W:World) (A:Option Addr) (n c:Nat) (A':Option Addr) (n' c':Nat) (q1:Rd W A n c (limbs P)) (q2:Rd W A' n' c' (limbs g)) :
  Calls Tryz.prog 194 #[.agg #[.bool false,.slice A n c],.agg #[.bool false,.slice A' n' c']] W (RetU (P*g) W):=by
 have:=mulI_any false A n c _ false A' n' c' _ W q1 q2 (by rw[←q1.len];exact h1) (by rw[←q2.len];exact h2)
 rw[iv_pos,iv_pos,←Int.natCast_mul] at this
 exact this.mono fun _ _ h=>RetI.u h
theorem mul_ii {z y:Int} (h1:(limbs z.natAbs).length≤1000) (h2:(limbs y.natAbs).length≤1000) (W:World) (A:Option Addr) (n c:Nat) (A':Option Addr) (n' c':Nat) (q1:Rd W A n c (limbs z.natAbs)) (q2:Rd W A' n' c' (limbs y.natAbs)) :
  Calls Tryz.prog 194 #[.agg #[.bool (ng z),.slice A n c],.agg #[.bool (ng y),.slice A' n' c']] W (RetI (z*y) W):=by
 have:=mulI_any (ng z) A n c _ (ng y) A' n' c' _ W q1 q2 (by rw[←q1.len];exact h1) (by rw[←q2.len];exact h2)
 rwa [iv_z,iv_z] at this
theorem den_u (x:Rat) (W:World) (A:Option Addr) (n c:Nat) (D:Option Addr) (m d:Nat) (R:RR W A n c D m d x) :
  Calls Tryz.prog 199 #[.agg #[.bool (ng x.num),.slice A n c,.slice D m d]] W (RetU x.den W):=
 (denominator_any x A n c D m d W R).mono fun _ _ h=>RetI.u h
end Go.Proofs.YtdeedofmflelfaaGreatDoor
