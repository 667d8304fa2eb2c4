/- The law's fair; the law RationalIsOrdered. -/
import Derived.Test.YtphckmdnflbloaaGreatQTkz
namespace Go.Proofs.YtphckmdnflbloaaGreat
open Go.RowKit RQ
theorem cmpq_beq (x y:Rat):(cmpq x y==0)=decide (x=y):=by
 rw[Bool.eq_iff_iff,beq_iff_eq,decide_eq_true_iff,cmpq_zero]
theorem rs_light {w:World} {b:Bool} {A:Option Addr} {n c:Nat} {xs:List Nat} {D:Option Addr} {m d:Nat} {ds:List Nat} (R1:Rd w A n c xs) (R2:Rd w D m d ds) (h:lightB n m=true):Rs (rv b xs ds) 8:=by
 unfold lightB at h
 simp only[Bool.and_eq_true,decide_eq_true_eq] at h
 exact Rs.of R1.sm R2.sm (by rw[R1.len];exact h.1) (by rw[R2.len];exact h.2) (by decide)
end Go.Proofs.YtphckmdnflbloaaGreat
