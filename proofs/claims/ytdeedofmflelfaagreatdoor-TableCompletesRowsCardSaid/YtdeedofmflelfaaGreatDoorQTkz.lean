/- Contracts of rational at valid numbers; the reference's Same, both ways. The reference's Take and Sign of rational. -/
import Derived.Test.YtdeedofmflelfaaGreatDoorQRnz
import Derived.Test.YtdeedofmflelfaaGreatDoorQSaz
import Derived.Test.YtdeedofmflelfaaGreatDoorQIaz
import Derived.Test.YtdeedofmflelfaaGreatDoorQIjz
namespace Go.Proofs.YtdeedofmflelfaaGreatDoor
open Go.RowKit RQ
theorem dn_inj {q r:Rat} (h:dn q=dn r):q.den=r.den:=by rw[←dv_dn,←dv_dn,h]
theorem same_parts (q r:Rat):((decide (ng q.num=ng r.num)&&decide (limbs q.num.natAbs=limbs r.num.natAbs))&&decide (dn q=dn r))=decide (q=r):=by
 rw[Bool.eq_iff_iff]
 simp only[Bool.and_eq_true,decide_eq_true_eq]
 constructor
 ·rintro ⟨⟨h1,h2⟩,h3⟩
  have e1:=limbs_inj1 h2
  have e2:q.num=r.num:=by rw[←sg_ng q.num,←sg_ng r.num,h1,e1]
  exact Rat.ext e2 (dn_inj h3)
 ·rintro rfl;exact⟨⟨rfl,rfl⟩,rfl⟩
set_option maxHeartbeats 4000000 in
theorem same2_any (b:Bool) (A:Option Addr) (n c:Nat) (xs:List Nat) (b':Bool) (A':Option Addr) (n' c':Nat) (ys:List Nat) (w:World) (R1:Rd w A n c xs) (R2:Rd w A' n' c' ys) (hn:n≤10000) (hn':n'≤10000) :
  Calls Tryz.prog 72 #[.agg #[.bool b,.slice A n c],.agg #[.bool b',.slice A' n' c']] w fun e w'=>e=.returned (.bool (decide (b=b')&&decide (xs=ys)))∧Below w.heap.size w w':=by
 have hS:=Lib.hid (fun W p1 p2=>same1_any A n c A' n' c' xs ys W p1 p2 (by omega) (by omega))
 have S:=(((((St.new w).read R1).read R2).allocAt (w.heap.size) #[.bool b,.slice A n c] 44 (noL2 _ _ _ _) (by simp)).allocAt (w.heap.size+1) #[.bool b',.slice A' n' c'] 44 (noL2 _ _ _ _) (by simp))
 replace S:=Lib.hid S
 clear R1 R2 hn hn'
 generalize decide (xs=ys)=eq at *
 have hb:((b:Bool)==b')=decide (b=b'):=by cases b<;>cases b'<;>rfl
 cases hbb:decide (b=b')
 ·rw[hbb] at hb
  clear hbb hS
  have B:=Lib.hid S.out.bel
  go_enter Tryz.func72,Tryz.ntmps72
  go_wp2
  go_ret
  exact⟨rfl,B.out⟩
 ·rw[hbb] at hb
  clear hbb
  rw[Bool.true_and]
  go_enter Tryz.func72,Tryz.ntmps72
  go_wp2_with fail
  refine (hS.out _ (S.out.r 1 rfl) (S.out.r 0 rfl)).mono ?_
  rintro e w1 ⟨rfl,bb⟩
  have T:=(S.out.call bb)
  clear bb S
  have S:=T
  clear T
  obtain⟨c_y0,c_y1,f_y0,f_y1⟩:=S.cf2 0 rfl
  obtain⟨c_x0,c_x1,f_x0,f_x1⟩:=S.cf2 1 rfl
  have hz:w.heap.size+1<w1.heap.size:=S.lt 0 rfl
  replace S:=Lib.hid S
  have B:=Lib.hid S.out.bel
  go_wp2
  go_ret
  exact⟨rfl,B.out⟩
set_option maxHeartbeats 4000000 in
theorem sameQ (q r:Rat) (A:Option Addr) (n c:Nat) (D:Option Addr) (m d:Nat) (A':Option Addr) (n' c':Nat) (D':Option Addr) (m' d':Nat) (w:World) (X:RR w A n c D m d q) (Y:RR w A' n' c' D' m' d' r) (hs:Rs q 200) (hs':Rs r 200) :
  Calls Tryz.prog 27 #[.agg #[.bool (ng q.num),.slice A n c,.slice D m d],.agg #[.bool (ng r.num),.slice A' n' c',.slice D' m' d']] w fun e w'=>e=.returned (.bool (decide (q=r)))∧Below w.heap.size w w':=by
 have l:=X.lens hs
 have l':=Y.lens hs'
 have hS:=Lib.hid (fun W p1 p2=>same2_any (ng q.num) A n c (limbs q.num.natAbs) (ng r.num) A' n' c' (limbs r.num.natAbs) W p1 p2 (by omega) (by omega))
 have hT:=Lib.hid (fun W p1 p2=>same1_any D m d D' m' d' (dn q) (dn r) W p1 p2 (by omega) (by omega))
 have R1:=X.n
 have R2:=X.d
 have R3:=Y.n
 have R4:=Y.d
 rw[←same_parts]
 have S:=(((((((St.new w).read R1).read R2).read R3).read R4).allocAt (w.heap.size) #[.bool (ng q.num),.slice A n c,.slice D m d] 46 (noL3 _ _ _ _ _ _ _) (by simp)).allocAt (w.heap.size+1) #[.bool (ng r.num),.slice A' n' c',.slice D' m' d'] 46 (noL3 _ _ _ _ _ _ _) (by simp))
 replace S:=Lib.hid S
 clear X Y R1 R2 R3 R4 l l' hs hs'
 generalize decide (dn q=dn r)=e2 at *
 generalize (decide (ng q.num=ng r.num)&&decide (limbs q.num.natAbs=limbs r.num.natAbs))=e1 at *
 cases e1
 ·clear hT
  go_enter Tryz.func27,Tryz.ntmps27
  go_wp2_with fail
  refine (hS.out _ (S.out.r 3 rfl) (S.out.r 1 rfl)).mono ?_
  rintro e w1 ⟨rfl,bb⟩
  have T:=(S.out.call bb)
  clear bb S
  have S:=T
  clear T
  obtain⟨c_y0,c_y1,c_y2,f_y0,f_y1,f_y2⟩:=S.cf3 0 rfl
  obtain⟨c_x0,c_x1,c_x2,f_x0,f_x1,f_x2⟩:=S.cf3 1 rfl
  have hz:w.heap.size+1<w1.heap.size:=S.lt 0 rfl
  replace S:=Lib.hid S
  clear hS
  have B:=Lib.hid S.out.bel
  go_wp2
  go_ret
  exact⟨rfl,B.out⟩
 ·rw[Bool.true_and]
  go_enter Tryz.func27,Tryz.ntmps27
  go_wp2_with fail
  refine (hS.out _ (S.out.r 3 rfl) (S.out.r 1 rfl)).mono ?_
  rintro e w1 ⟨rfl,bb⟩
  have T:=(S.out.call bb)
  clear bb S
  have S:=T
  clear T
  obtain⟨c_y0,c_y1,c_y2,f_y0,f_y1,f_y2⟩:=S.cf3 0 rfl
  obtain⟨c_x0,c_x1,c_x2,f_x0,f_x1,f_x2⟩:=S.cf3 1 rfl
  have hz:w.heap.size+1<w1.heap.size:=S.lt 0 rfl
  replace S:=Lib.hid S
  clear hS
  go_wp2_with fail
  refine (hT.out _ (S.out.r 2 rfl) (S.out.r 0 rfl)).mono ?_
  rintro e w2 ⟨rfl,bb⟩
  have T:=(S.out.call bb)
  clear bb S c_y0 f_y0 c_y1 f_y1 c_y2 f_y2 c_x0 f_x0 c_x1 f_x1 c_x2 f_x2 hz
  have S:=T
  clear T
  obtain⟨c_y0,c_y1,c_y2,f_y0,f_y1,f_y2⟩:=S.cf3 0 rfl
  obtain⟨c_x0,c_x1,c_x2,f_x0,f_x1,f_x2⟩:=S.cf3 1 rfl
  have hz:w.heap.size+1<w2.heap.size:=S.lt 0 rfl
  replace S:=Lib.hid S
  clear hT
  have B:=Lib.hid S.out.bel
  go_wp2
  go_ret
  exact⟨rfl,B.out⟩
end Go.Proofs.YtdeedofmflelfaaGreatDoor

namespace Go.Proofs.YtdeedofmflelfaaGreatDoor
open Go.RowKit RQ
theorem sameT (q r:Rat) (he:q=r) (A:Option Addr) (n c:Nat) (D:Option Addr) (m d:Nat) (A':Option Addr) (n' c':Nat) (D':Option Addr) (m' d':Nat) (w:World) (X:RR w A n c D m d q) (Y:RR w A' n' c' D' m' d' r) (hs:Rs q 200) (hs':Rs r 200) :
  Calls Tryz.prog 27 #[.agg #[.bool (ng q.num),.slice A n c,.slice D m d],.agg #[.bool (ng r.num),.slice A' n' c',.slice D' m' d']] w fun e w'=>e=.returned (.bool true)∧Below w.heap.size w w':=by
 have:=sameQ q r A n c D m d A' n' c' D' m' d' w X Y hs hs'
 rwa [decide_eq_true he] at this
end Go.Proofs.YtdeedofmflelfaaGreatDoor
