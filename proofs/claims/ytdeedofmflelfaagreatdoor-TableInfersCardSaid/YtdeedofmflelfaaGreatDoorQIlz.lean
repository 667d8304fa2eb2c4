/- Contract of Compare. Contract of the reference's Compare. Contracts of FromInt. Contract of Same. -/
import Derived.Test.YtdeedofmflelfaaGreatDoorQIaz
import Derived.Test.YtdeedofmflelfaaGreatDoorQIjz
import Derived.Test.YtdeedofmflelfaaGreatDoorQWaz
import Derived.Test.YtdeedofmflelfaaGreatDoorQWvz
import Derived.Test.YtdeedofmflelfaaGreatDoorQIgz
import Derived.Test.YtdeedofmflelfaaGreatDoorQWez
import Derived.Test.YtdeedofmflelfaaGreatDoorQWqz
import Derived.Test.YtdeedofmflelfaaGreatDoorQWjz
namespace Go.Proofs.YtdeedofmflelfaaGreatDoor
open Go.RowKit
end Go.Proofs.YtdeedofmflelfaaGreatDoor

namespace Go.Proofs.YtdeedofmflelfaaGreatDoor
open Go.RowKit
end Go.Proofs.YtdeedofmflelfaaGreatDoor

namespace Go.Proofs.YtdeedofmflelfaaGreatDoor
open Go.RowKit
theorem res_from (W:World) (tmps:Array Value) (g:Nat) {b:Bool} {A:Option Addr} {n c:Nat} (ht:tmps.getD 2 undef=.pointer (some ⟨g,0,none⟩)) (h:Bx W g b A n c) :
  (results Tryz.f90 tmps).run Tryz.prog W=.ok (.agg #[.bool b,.slice A n c]) W:=by
 obtain⟨c0,c1,_⟩:=h.at_
 have ht':tmps[2]?.getD undef=.pointer (some ⟨g,0,none⟩):=by rw[←ht];simp[Array.getD_eq_getD_getElem?]
 simp[results,Tryz.results90,go_sem,ht',c0,c1]
theorem res_rfrom (W:World) (tmps:Array Value) (g:Nat) {b:Bool} {A:Option Addr} {n c:Nat} (ht:tmps.getD 2 undef=.pointer (some ⟨g,0,none⟩)) (h:Bx W g b A n c) :
  (results Tryz.f83 tmps).run Tryz.prog W=.ok (.agg #[.bool b,.slice A n c]) W:=by
 obtain⟨c0,c1,_⟩:=h.at_
 have ht':tmps[2]?.getD undef=.pointer (some ⟨g,0,none⟩):=by rw[←ht];simp[Array.getD_eq_getD_getElem?]
 simp[results,Tryz.results83,go_sem,ht',c0,c1]
theorem fromUint_i (z:Int) (v:Nat) (w:World) (hz:z=v) (hv:v<18446744073709551616):Calls Tryz.prog 132 #[.int .u64 z] w (RetN v w):=by
 subst hz;exact fromUint_any v w hv
theorem rfromUint_ii (z:Int) (v:Nat) (w:World) (hz:z=v) (hv:v<18446744073709551616):Calls Tryz.prog 123 #[.int .u64 z] w (RetN v w):=by
 subst hz;exact rfromUint_any v w hv
theorem neg_wrap {v:Int} (h0 : -9223372036854775808≤v) (h1:v<0):IntKind.u64.wrap (-(IntKind.u64.wrap v))=(v.natAbs:Int):=by
 rw[IntKind.wrap_u64,IntKind.wrap_u64];omega
theorem sg_neg {v:Int} (h:v<0):sg true v.natAbs=v:=by
 have:=sg_ng v;rwa [show ng v=true from decide_eq_true h] at this
theorem sg_pos {v:Int} (h:0≤v):sg false v.natAbs=v:=by
 have:=sg_ng v;rwa [show ng v=false from decide_eq_false (by omega)] at this
set_option maxHeartbeats 2000000 in
theorem fromInt_any (v:Int) (w:World) (h0 : -9223372036854775808≤v) (h1:v≤9223372036854775807) :
  Calls Tryz.prog 90 #[.int .i64 v] w (RetI v w):=by
 have X:=Lib.hid (Bx.new w false none 0 0)
 have Bw:=Lib.hid ((Below.refl w.heap.size w).alloc (Nat.le_refl _) (.cells #[.bool false,.slice none 0 0] 44))
 by_cases hv:v<0
 ·have hw:=Lib.hid (neg_wrap h0 hv)
  have hs:=Lib.hid (sg_neg hv)
  have hb:Hid (v.natAbs<18446744073709551616):=by show v.natAbs<18446744073709551616;omega
  have hfu:=Lib.hid (fun W z (hz:z=((v.natAbs:Nat):Int))=>fromUint_i z v.natAbs W hz hb.out)
  clear hb
  go_enter Tryz.func90,Tryz.ntmps90
  go_wp2_with (go_at_call 132;refine (hfu.out _ _ (by first | exact hw.out | (rw[←hw.out];congr 1))).mono ?_;rintro e w1 ⟨A1,n1,c1,rfl,Q1,B1⟩;refine Hid.out ?_)
  refine Lib.hid ?_
  have X1:=Lib.hid (X.out.bel B1)
  have Bw1:=Lib.hid (Bw.out.trans (B1.mono Bw.out.size))
  replace Q1:=Lib.hid Q1
  clear B1
  go_wp2_with (go_at_call 131;refine (signedI_any _ _ _ _ v.natAbs _ (by exact Q1.out)).mono ?_;rw[hs.out];rintro e w2 ⟨A2,n2,c2,rfl,Q2,B2'⟩;refine Hid.out ?_)
  refine Lib.hid ?_
  have X2:=X1.out.bel B2'
  obtain⟨a0,a1,a2,a3⟩:=X2.at_
  have X3:=Lib.hid (X2.put (ng v) A2 n2 c2)
  have Q3:=Lib.hid (Q2.put X2 (.bool (ng v)) (.slice A2 n2 c2))
  have Bz:=Lib.hid (put_below (.bool (ng v)) (.slice A2 n2 c2) (Bw1.out.trans (B2'.mono Bw1.out.size)) (Nat.le_refl w.heap.size))
  clear X2 Q2 B2' hv
  go_wp2
  refine bodyPost_ret (res_from _ _ w.heap.size rfl X3.out) rfl ?_
  exact ret_I rfl Q3.out Bz.out
 ·have hv0:0≤v:=by omega
  have hs:=Lib.hid (sg_pos hv0)
  have hb:Hid (v.natAbs<18446744073709551616):=by show v.natAbs<18446744073709551616;omega
  have hw:Hid (v=((v.natAbs:Nat):Int)):=by show v=((v.natAbs:Nat):Int);omega
  have hw2:Hid (IntKind.u64.wrap v=((v.natAbs:Nat):Int)):=by show IntKind.u64.wrap v=((v.natAbs:Nat):Int);rw[IntKind.wrap_u64];omega
  have hfu:=Lib.hid (fun W z (hz:z=((v.natAbs:Nat):Int))=>fromUint_i z v.natAbs W hz hb.out)
  clear hb
  go_enter Tryz.func90,Tryz.ntmps90
  go_wp2_with (go_at_call 132;refine (hfu.out _ _ (by first | exact hw.out | exact hw2.out)).mono ?_;rintro e w1 ⟨A1,n1,c1,rfl,Q1,B1⟩;refine Hid.out ?_)
  refine Lib.hid ?_
  have X1:=Lib.hid (X.out.bel B1)
  have Bw1:=Lib.hid (Bw.out.trans (B1.mono Bw.out.size))
  replace Q1:=Lib.hid Q1
  clear B1
  go_wp2_with (go_at_call 131;refine (signedI_any _ _ _ _ v.natAbs _ (by exact Q1.out)).mono ?_;rw[hs.out];rintro e w2 ⟨A2,n2,c2,rfl,Q2,B2'⟩;refine Hid.out ?_)
  refine Lib.hid ?_
  have X2:=X1.out.bel B2'
  obtain⟨a0,a1,a2,a3⟩:=X2.at_
  have X3:=Lib.hid (X2.put (ng v) A2 n2 c2)
  have Q3:=Lib.hid (Q2.put X2 (.bool (ng v)) (.slice A2 n2 c2))
  have Bz:=Lib.hid (put_below (.bool (ng v)) (.slice A2 n2 c2) (Bw1.out.trans (B2'.mono Bw1.out.size)) (Nat.le_refl w.heap.size))
  clear X2 Q2 B2' hv
  go_wp2
  refine bodyPost_ret (res_from _ _ w.heap.size rfl X3.out) rfl ?_
  exact ret_I rfl Q3.out Bz.out
set_option maxHeartbeats 2000000 in
theorem rfromInt_any (v:Int) (w:World) (h0 : -9223372036854775808≤v) (h1:v≤9223372036854775807) :
  Calls Tryz.prog 83 #[.int .i64 v] w (RetI v w):=by
 have X:=Lib.hid (Bx.new w false none 0 0)
 have Bw:=Lib.hid ((Below.refl w.heap.size w).alloc (Nat.le_refl _) (.cells #[.bool false,.slice none 0 0] 44))
 by_cases hv:v<0
 ·have hs:=Lib.hid (sg_neg hv)
  obtain⟨N,hN⟩:∃ N:Nat,v.natAbs=N+1:=⟨v.natAbs-1,by omega⟩
  have hb:Hid (N<18446744073709551616):=by show N<18446744073709551616;omega
  have hw:Hid (-(v+1)=((N:Nat):Int)):=by show -(v+1)=((N:Nat):Int);omega
  have hw2:Hid (IntKind.u64.wrap (-(v+1))=((N:Nat):Int)):=by show IntKind.u64.wrap (-(v+1))=((N:Nat):Int);rw[IntKind.wrap_u64];omega
  have hfu:=Lib.hid (fun W z (hz:z=((N:Nat):Int))=>rfromUint_ii z N W hz hb.out)
  have hl:Hid ((limbs N).length≤2):=Lib.hid (len_of_lt (by have:=hb.out;omega))
  clear hb
  replace hN:=Lib.hid hN
  have g1:v+1≤0:=by omega
  have g2 : -9223372036854775807≤v+1:=by omega
  go_enter Tryz.func83,Tryz.ntmps83
  go_wp2_with (go_at_call 123;refine (hfu.out _ _ (by first | exact hw.out | exact hw2.out | (rw[←hw.out];omega))).mono ?_;rintro e w1 ⟨A1,n1,c1,rfl,Q1,B1⟩;refine Hid.out ?_)
  refine Lib.hid ?_
  have hn1:n1≤2:=by have:=hl.out;have:=Q1.len;omega
  have X1:=Lib.hid ((X.out.bel B1).alloc (.cells #[.int .u32 1] 119))
  have Bw1:=Lib.hid ((Bw.out.trans (B1.mono Bw.out.size)).alloc (Nat.le_trans Bw.out.size B1.size) (.cells #[.int .u32 1] 119))
  have ha:=Lib.hid (radd_any A1 n1 c1 (limbs N) (some ⟨w1.heap.size,0,none⟩) 1 1 [1] _ (Q1.alloc (.cells #[.int .u32 1] 119)) (lit1 w1 w1.heap.size 1 1 rfl rfl (by omega)) (by omega) (by omega))
  rw[num_limbs,show num [1]=1 from by decide,←hN.out] at ha
  clear Q1 B1
  go_wp2_with (go_at_call 122;refine ha.out.mono ?_;rintro e w2 ⟨A2,n2,c2,rfl,Q2,B2'⟩;refine Hid.out ?_)
  refine Lib.hid ?_
  replace X1:=Lib.hid (X1.out.bel B2')
  replace Bw1:=Lib.hid (Bw1.out.trans (B2'.mono Bw1.out.size))
  replace Q2:=Lib.hid Q2
  clear B2' ha
  go_wp2_with (go_at_call 113;refine (rsignedI_any _ _ _ _ v.natAbs _ (by exact Q2.out)).mono ?_;rw[hs.out];rintro e w3 ⟨A3,n3,c3,rfl,Q3,B3'⟩;refine Hid.out ?_)
  refine Lib.hid ?_
  have X2:=X1.out.bel B3'
  obtain⟨a0,a1,a2,a3⟩:=X2.at_
  have X3:=Lib.hid (X2.put (ng v) A3 n3 c3)
  have Q4:=Lib.hid (Q3.put X2 (.bool (ng v)) (.slice A3 n3 c3))
  have Bz:=Lib.hid (put_below (.bool (ng v)) (.slice A3 n3 c3) (Bw1.out.trans (B3'.mono Bw1.out.size)) (Nat.le_refl w.heap.size))
  clear X2 Q3 B3' hv g1 g2
  go_wp2
  refine bodyPost_ret (res_rfrom _ _ w.heap.size rfl X3.out) rfl ?_
  exact ret_I rfl Q4.out Bz.out
 ·have hv0:0≤v:=by omega
  have hs:=Lib.hid (sg_pos hv0)
  have hb:Hid (v.natAbs<18446744073709551616):=by show v.natAbs<18446744073709551616;omega
  have hw:Hid (v=((v.natAbs:Nat):Int)):=by show v=((v.natAbs:Nat):Int);omega
  have hw2:Hid (IntKind.u64.wrap v=((v.natAbs:Nat):Int)):=by show IntKind.u64.wrap v=((v.natAbs:Nat):Int);rw[IntKind.wrap_u64];omega
  have hfu:=Lib.hid (fun W z (hz:z=((v.natAbs:Nat):Int))=>rfromUint_ii z v.natAbs W hz hb.out)
  clear hb
  go_enter Tryz.func83,Tryz.ntmps83
  go_wp2_with (go_at_call 123;refine (hfu.out _ _ (by first | exact hw.out | exact hw2.out)).mono ?_;rintro e w1 ⟨A1,n1,c1,rfl,Q1,B1⟩;refine Hid.out ?_)
  refine Lib.hid ?_
  have X1:=Lib.hid (X.out.bel B1)
  have Bw1:=Lib.hid (Bw.out.trans (B1.mono Bw.out.size))
  replace Q1:=Lib.hid Q1
  clear B1
  go_wp2_with (go_at_call 113;refine (rsignedI_any _ _ _ _ v.natAbs _ (by exact Q1.out)).mono ?_;rw[hs.out];rintro e w2 ⟨A2,n2,c2,rfl,Q2,B2'⟩;refine Hid.out ?_)
  refine Lib.hid ?_
  have X2:=X1.out.bel B2'
  obtain⟨a0,a1,a2,a3⟩:=X2.at_
  have X3:=Lib.hid (X2.put (ng v) A2 n2 c2)
  have Q3:=Lib.hid (Q2.put X2 (.bool (ng v)) (.slice A2 n2 c2))
  have Bz:=Lib.hid (put_below (.bool (ng v)) (.slice A2 n2 c2) (Bw1.out.trans (B2'.mono Bw1.out.size)) (Nat.le_refl w.heap.size))
  clear X2 Q2 B2' hv
  go_wp2
  refine bodyPost_ret (res_rfrom _ _ w.heap.size rfl X3.out) rfl ?_
  exact ret_I rfl Q3.out Bz.out
end Go.Proofs.YtdeedofmflelfaaGreatDoor

namespace Go.Proofs.YtdeedofmflelfaaGreatDoor
open Go.RowKit
end Go.Proofs.YtdeedofmflelfaaGreatDoor
