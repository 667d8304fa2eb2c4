/- Contracts of the reference's Root and Power and of natural.Power. -/
import Derived.Test.YtphckmdnflbloaaGreatQWqz
namespace Go.Proofs.YtphckmdnflbloaaGreat
open Go.RowKit
theorem rdiv_two (A:Option Addr) (n c x:Nat) (A':Option Addr) (w:World) (h1:Rd w A n c (limbs x)) (h2:Rd w A' 1 1 (limbs 2)) (hn:n≤1000) :
  Calls Tryz.prog 164 #[.slice A n c,.slice A' 1 1] w (RetDiv x 2 w):=by
 have:=rdiv_any A n c (limbs x) A' 1 1 (limbs 2) w h1 h2 hn (by omega) (by rw[num_limbs];omega)
 rw[num_limbs,num_limbs] at this
 exact this
set_option maxHeartbeats 2000000 in
theorem rroot_any (A:Option Addr) (n c:Nat) (xs:List Nat) (w:World) (h1:Rd w A n c xs) (hn:n≤100) :
  Calls Tryz.prog 105 #[.slice A n c] w (RetN (isq (num xs)) w):=by
 replace h1:=Lib.hid h1
 go_enter Tryz.func105,Tryz.ntmps105
 go_wp2_with fail
 refine (take_any _ _ _ xs _ h1.out (by omega)).mono ?_
 rintro e w1 ⟨A1,n1,c1,rfl,R1,b1,l1⟩
 obtain⟨x,hx⟩:∃ x,num xs=x:=⟨_,rfl⟩
 rw[hx] at R1
 replace hx:=Lib.hid hx
 have hxl:=lt_of_len R1.len
 replace R1:=Lib.hid R1
 replace b1:=Lib.hid b1
 replace hxl:=Lib.hid hxl
 clear h1
 go_wp2_with fail
 refine (radd_any _ _ _ _ _ _ _ _ _ (R1.out.alloc _) (lit1 w1 _ 1 1 rfl rfl (by omega)) (by omega) (by omega)).mono ?_
 rintro e w2 ⟨A2,n2,c2,rfl,R2,b2⟩
 rw[num_limbs,show num [1]=1 from rfl] at R2
 replace R1:=Lib.hid ((R1.out.alloc _).below b2)
 replace R2:=Lib.hid R2
 replace b1:Hid (Below w.heap.size w w2):=Lib.hid ((b1.out.alloc b1.out.size _).trans (b2.mono (by have:=b1.out.size;simp;omega)))
 clear b2
 go_wp2
 go_loopg [3,4] (x+1) (fun g lv hv wr=>∃ (L H:Nat) (A3:Option Addr) (n3 c3:Nat) (A4:Option Addr) (n4 c4:Nat),lv=.slice A3 n3 c3∧hv=.slice A4 n4 c4∧Rd wr A3 n3 c3 (limbs L)∧Rd wr A4 n4 c4 (limbs H) ∧
   L≤isq x∧isq x<H∧H≤x+1∧g=H-L∧Below w2.heap.size w2 wr)
 case atStart=>
  have hlt:isq x<x+1:=by
   have h3:=(isq_spec x).1
   rcases Nat.eq_zero_or_pos (isq x) with h | h
   ·omega
   ·have:=Nat.mul_le_mul_left (isq x) h;omega
  exact⟨0,x+1,none,0,0,_,_,_,rfl,rfl,by rw[limbs_zero];exact Rd.nil_ _ _ _,R2.out,Nat.zero_le _,hlt,Nat.le_refl _,rfl,Below.refl _ _⟩
 case round=>
  obtain⟨L,H,A3,n3,c3,A4,n4,c4,rfl,rfl,R3,R4,hL,hH,hHx,hgk,hB⟩:=hrel
  have hHb:H<4294967296^(n1+1):=by
   have:=hxl.out
   rw[Nat.pow_succ]
   have:=Nat.pow_pos (n:=n1) (show 0<4294967296 by omega)
   omega
  have hn3:n3≤n1+1:=by rw[←R3.len];exact len_of_lt (by omega)
  have hn4:n4≤n1+1:=by rw[←R4.len];exact len_of_lt hHb
  obtain⟨M,hM⟩:∃ M,(L+H) / 2=M:=⟨_,rfl⟩
  have hMH:M<H∨M=L:=by omega
  have hML:L≤M:=by omega
  have hMb:M<4294967296^(n1+1):=by omega
  have hsum:L+H<4294967296^(n1+2):=by rw[show n1+2=n1+1+1 from rfl,Nat.pow_succ];omega
  replace R3:=Lib.hid R3
  replace R4:=Lib.hid R4
  replace hB:=Lib.hid hB
  replace hL:=Lib.hid hL
  replace hH:=Lib.hid hH
  replace hHx:=Lib.hid hHx
  replace hgk:=Lib.hid hgk
  replace hM:=Lib.hid hM
  replace hMH:=Lib.hid hMH
  replace hML:=Lib.hid hML
  replace hMb:=Lib.hid hMb
  replace hsum:=Lib.hid hsum
  clear hHb
  go_wp2_with fail
  refine (radd_any _ _ _ _ _ _ _ _ _ R3.out R4.out (by omega) (by omega)).mono ?_
  rintro e w3 ⟨A5,n5,c5,rfl,R5,b5⟩
  rw[num_limbs,num_limbs] at R5
  have hn5:n5≤n1+2:=by rw[←R5.len];exact len_of_lt hsum.out
  replace R3:=Lib.hid (R3.out.below b5)
  replace R4:=Lib.hid (R4.out.below b5)
  have R1a:=Lib.hid ((R1.out.below hB.out).below b5)
  replace R5:=Lib.hid R5
  replace hB:=Lib.hid (hB.out.trans (b5.mono hB.out.size))
  clear b5
  go_wp2_with fail
  refine (rdiv_two _ _ _ _ _ _ (R5.out.alloc _) (lit_one w3 _ 2 2 rfl rfl (by omega) (by omega)) (by omega)).mono ?_
  rintro e w4 ⟨A6,n6,c6,A7,n7,c7,rfl,R6,_,b6⟩
  rw[hM.out] at R6
  have hn6:n6≤n1+1:=by rw[←R6.len];exact len_of_lt hMb.out
  replace R3:=Lib.hid ((R3.out.alloc _).below b6)
  replace R4:=Lib.hid ((R4.out.alloc _).below b6)
  replace R1a:=Lib.hid ((R1a.out.alloc _).below b6)
  replace R6:=Lib.hid R6
  replace hB:Hid (Below w2.heap.size w2 w4):=Lib.hid ((hB.out.alloc hB.out.size _).trans (b6.mono (by have:=hB.out.size;simp;omega)))
  clear b6 R5
  by_cases hst:M=L
  ·have hfin:isq x=L:=by have:=hgk.out;have:=hM.out;have:=hL.out;have:=hH.out;omega
   replace hfin:=Lib.hid hfin
   go_wp2_with fail
   refine (rcmp_b _ _ _ _ _ _ _ _ _ R6.out R3.out (by omega) (by omega) 0 (cmpi_eq (by rw[hst]))).mono ?_
   rintro e w5 ⟨rfl,b7⟩
   replace R3:=Lib.hid (R3.out.below b7)
   replace hB:=Lib.hid (b1.out.trans ((hB.out.trans (b7.mono hB.out.size)).mono b1.out.size))
   clear b7 hst
   go_wp2
   go_ret
   exact⟨_,_,_,rfl,by rw[hx.out,hfin.out];exact R3.out,hB.out⟩
  ·have hMg:L<M:=by have:=hML.out;omega
   go_wp2_with fail
   refine (rcmp_b _ _ _ _ _ _ _ _ _ R6.out R3.out (by omega) (by omega) 1 (cmpi_gt (by omega))).mono ?_
   rintro e w5 ⟨rfl,b7⟩
   replace R3:=Lib.hid (R3.out.below b7)
   replace R4:=Lib.hid (R4.out.below b7)
   replace R6:=Lib.hid (R6.out.below b7)
   replace R1a:=Lib.hid (R1a.out.below b7)
   replace hB:=Lib.hid (hB.out.trans (b7.mono hB.out.size))
   clear b7
   go_wp2_with fail
   refine (rmul_any _ _ _ _ _ _ _ _ _ R6.out R6.out (by omega) (by omega)).mono ?_
   rintro e w6 ⟨A8,n8,c8,rfl,R8,b8⟩
   rw[num_limbs] at R8
   have hn8:n8≤(n1+1)+(n1+1):=by
    rw[←R8.len];apply len_of_lt;rw[Nat.pow_add]
    exact Nat.mul_lt_mul_of_lt_of_le hMb.out (by have:=hMb.out;omega) (Nat.pow_pos (by omega))
   replace R3:=Lib.hid (R3.out.below b8)
   replace R4:=Lib.hid (R4.out.below b8)
   replace R6:=Lib.hid (R6.out.below b8)
   replace R1a:=Lib.hid (R1a.out.below b8)
   replace R8:=Lib.hid R8
   replace hB:=Lib.hid (hB.out.trans (b8.mono hB.out.size))
   clear b8
   by_cases hle:M*M≤x
   ·obtain⟨q,hq,hq0⟩:∃ q,cmpi (M*M:Nat) x=q∧q≤0:=⟨_,rfl,by unfold cmpi;split;omega;rw[if_neg (by omega)];omega⟩
    have hMi:M≤isq x:=by
     rcases Nat.lt_or_ge (isq x) M with h | h
     ·have h2:=(isq_spec x).2
      have:=sq_mono (show isq x+1≤M by omega)
      omega
     ·exact h
    replace hMi:=Lib.hid hMi
    replace hq:=Lib.hid hq
    have hml:H-M<gk:=by have:=hgk.out;have:=hH.out;have:=hL.out;omega
    replace hml:=Lib.hid hml
    go_wp2_with fail
    refine (rcmp_b _ _ _ _ _ _ _ _ _ R8.out R1a.out (by omega) (by omega) q hq.out).mono ?_
    rintro e w7 ⟨rfl,b9⟩
    replace R4:=Lib.hid (R4.out.below b9)
    replace R6:=Lib.hid (R6.out.below b9)
    replace hB:=Lib.hid (hB.out.trans (b9.mono hB.out.size))
    clear b9
    go_wp2
    go_roundg (H-M)
    case measure=>exact hml.out
    case rel=>exact⟨M,H,_,_,_,_,_,_,rfl,rfl,R6.out,R4.out,hMi.out,hH.out,hHx.out,rfl,hB.out⟩
   ·have hMi:isq x<M:=by
     rcases Nat.lt_or_ge (isq x) M with h | h
     ·exact h
     ·have h2:=(isq_spec x).1
      have:=sq_mono h
      omega
    replace hMi:=Lib.hid hMi
    have hml:M-L<gk:=by have:=hgk.out;have:=hMH.out;omega
    replace hml:=Lib.hid hml
    have hMx:M≤x+1:=by have:=hMH.out;have:=hHx.out;omega
    replace hMx:=Lib.hid hMx
    go_wp2_with fail
    refine (rcmp_b _ _ _ _ _ _ _ _ _ R8.out R1a.out (by omega) (by omega) 1 (cmpi_gt (by omega))).mono ?_
    rintro e w7 ⟨rfl,b9⟩
    replace R3:=Lib.hid (R3.out.below b9)
    replace R6:=Lib.hid (R6.out.below b9)
    replace hB:=Lib.hid (hB.out.trans (b9.mono hB.out.size))
    clear b9
    go_wp2
    go_roundg (M-L)
    case measure=>exact hml.out
    case rel=>exact⟨L,M,_,_,_,_,_,_,rfl,rfl,R3.out,R6.out,hL.out,hMi.out,hMx.out,rfl,hB.out⟩
end Go.Proofs.YtphckmdnflbloaaGreat
