/- Make of rational. -/
import Derived.Test.YtphckmdnflbloaaGreatQRcz
import Derived.Deep.CutBlock
namespace Go.Proofs.YtphckmdnflbloaaGreat
open Go.RowKit RQ
/-- What a function that returns one rational number and a word leaves. -/
def RetRE (q:Rat) (er:Value) (w:World) (e:Ending) (w':World):Prop:=∃ A n c D m d,e=.returned (.tuple #[.agg #[.bool (ng q.num),.slice A n c,.slice D m d],er])∧RR w' A n c D m d q∧Below w.heap.size w w'
theorem gcd_len {u v:Int} {p:Nat} (hv:v≠0) (h:v.natAbs<4294967296^p):(limbs (Int.gcd u v)).length≤p:=
 limbs_len_le.2 (Nat.lt_of_le_of_lt (Nat.le_of_dvd (by omega) (Nat.gcd_dvd_right _ _)) h)
end Go.Proofs.YtphckmdnflbloaaGreat
