/- MatrixProductHasTheDeterminant. -/
import Derived.Test.YthlinhconnmbcaaGreatM30
import Derived.WalkKit
import Derived.ProofKit
import Derived.OpenShut
import Derived.ShutString
import Derived.ChangeOld
import Derived.Below
import Derived.Lib.SmallJoins
import Derived.Test.YthlinhconnmbcaaGreatRows
import Derived.Test.YthlinhconnmbcaaGreatB19
set_option maxRecDepth 100000
set_option maxHeartbeats 40000000
set_option linter.unusedVariables false
namespace Go.Proofs.YthlinhconnmbcaaGreat
open Go.RowKit RQ GE
set_option linter.unusedVariables false
theorem elP {P:Rat→Prop} {Q:List (List Rat)} (h0:P 0) (h:∀ r∈Q,∀ q∈r,P q) (i j:Nat):P (el Q i j):=by
 unfold GE.el;rw[List.getD_eq_getElem?_getD,List.getD_eq_getElem?_getD]
 cases ha:Q[i]? with
 | none=>simpa using h0
 | some r=>
  simp only[Option.getD_some]
  cases hc:r[j]? with
  | none=>exact h0
  | some q=>exact h r (List.mem_of_getElem? ha) q (List.mem_of_getElem? hc)
theorem mdQ_tw {n k:Nat} {l:List Int}:∀ r∈mdQ n k l,∀ q∈r,Tw 12 360 q:=mk_all fun _ _=>mdF_tw
theorem mdQ_el {n k:Nat} {l:List Int} (i j:Nat):Tw 12 360 (el (mdQ n k l) i j):=elP Tw.zero mdQ_tw i j
theorem tw_s2 {q:Rat} (h:Tw 12 360 q):S2 1 1 q:=h.s2 (by omega) (by omega) (by omega)
theorem mdQ_s2 {n k:Nat} {l:List Int}:∀ r∈mdQ n k l,∀ q∈r,S2 1 1 q:=fun r hr q hq=>tw_s2 (mdQ_tw r hr q hq)
theorem s2_all {Q:List (List Rat)} (h:∀ r∈Q,∀ q∈r,S2 1 1 q) {p:Nat} (hp:1<p):∀ r∈Q,∀ q∈r,Rs q p:=fun r hr q hq=>s2_rs (h r hr q hq) hp
theorem sz11 {n k:Nat} (hn:n≤4) (hk:k≤8):∀ {Q:List (List Rat)},(∀ r∈Q,∀ q∈r,S2 1 1 q)→(∀ r∈Q,∀ q∈r,S2 2 2 q)∧SzE n k 2 2∧SzT n k 2 2:=fun h=>⟨fun r hr q hq=>(h r hr q hq).mono (by omega) (by omega),(sz22 hn hk).1,(sz22 hn hk).2⟩
theorem law_pd (b:UInt8) (L1:List Int) (A1:Option Addr) (l1 c1:Nat) (L2:List Int) (A2:Option Addr) (l2 c2:Nat) (w:World) (h1:LR intC w A1 l1 L1) (b1:∀ i,-9223372036854775808≤L1.getD i 0∧L1.getD i 0≤9223372036854775807) (h2:LR intC w A2 l2 L2) (b2:∀ i,-9223372036854775808≤L2.getD i 0∧L2.getD i 0≤9223372036854775807):Calls Tryz.prog 3 #[.int .u8 (b.toNat:Int),.slice A1 l1 c1,.slice A2 l2 c2] w fun e w'=>e=.returned (.bool true)∧Below w.heap.size w w':=by
 generalize b.toNat=b0;obtain⟨k,hk⟩:∃ r:Nat,r=b0%5:=⟨_,rfl⟩;have hk4:k≤4:=by omega
 have rv:(b0:Int)%5=(k:Int):=by omega
 have wv:IntKind.i64.wrap (k:Int)=(k:Int):=by rw[IntKind.wrap_i64];omega
 have wv8:IntKind.u8.wrap (k:Int)=(k:Int):=by rw[IntKind.wrap_u8];omega
 clear hk;obtain⟨X,hX⟩:∃ X,X=mdQ k k L1:=⟨_,rfl⟩;obtain⟨Y,hY⟩:∃ Y,Y=mdQ k k L2:=⟨_,rfl⟩;have X2:∀ r∈X,∀ q∈r,S2 1 1 q:=by rw[hX];exact mdQ_s2
 have Y2:∀ r∈Y,∀ q∈r,S2 1 1 q:=by rw[hY];exact mdQ_s2
 obtain⟨P0,hP⟩:∃ P0,P0=mk k k (mp k (el X) (el Y)):=⟨_,rfl⟩;obtain⟨T0,hT⟩:∃ T0,T0=mk k k (fun i j=>el X j i):=⟨_,rfl⟩
 have P2:∀ r∈P0,∀ q∈r,S2 1 1 q:=by
  rw[hP,hX,hY];exact mk_all fun i j=>mp_tw (fun i j=>mdQ_el i j) (fun i j=>mdQ_el i j) hk4 i j
 have T2:∀ r∈T0,∀ q∈r,S2 1 1 q:=by
  rw[hT,hX];exact mk_all fun i j=>tw_s2 (mdQ_el j i)
 have hM1:=Lib.hid (fun W (hW:LR intC W A1 l1 L1)=>made_any k k L1 A1 l1 c1 W hW b1 (by omega) (by omega) id id)
 have hM2:=Lib.hid (fun W (hW:LR intC W A2 l2 L2)=>made_any k k L2 A2 l2 c2 W hW b2 (by omega) (by omega) id id)
 rw[←hX] at hM1;rw[←hY] at hM2;obtain⟨p,hp⟩:∃ p,p=dE k (el X):=⟨_,rfl⟩;obtain⟨q,hq⟩:∃ q,q=dE k (el Y):=⟨_,rfl⟩;obtain⟨u,hu⟩:∃ u,u=p*q:=⟨_,rfl⟩;have ePd:dE k (el P0)=u:=by
  rw[hu,hp,hq,←dE_mul hk4,hP];exact dE_congr fun i hi j hj=>el_mk hi hj
 have eTd:dE k (el T0)=p:=by
  rw[hp,←dE_trans hk4,hT];exact dE_congr fun i hi j hj=>el_mk hj hi
 obtain⟨r,hr⟩:∃ r,r=rk k k (el X):=⟨_,rfl⟩;have eTr:rk k k (el T0)=r:=by
  rw[hr,←rk_trans (A:=el X),hT];exact rk_congr fun i hi j hj=>el_mk hi hj
 have hz:p=0↔r≠k:=by rw[hp,hr];exact dE_zero hk4
 have hXl:X.length=k∧GE.rct k X:=by rw[hX];exact⟨mk_len,mk_rct⟩
 have hYl:Y.length=k∧GE.rct k Y:=by rw[hY];exact⟨mk_len,mk_rct⟩
 have hpr:Hid (Rs p 9000000):=Lib.hid (by rw[hp];exact dE_rs hXl.1 hXl.2 (s2_all X2 (by omega)) (b:=2) (by omega) (pow5 hk4 (by omega)))
 have hqr:Hid (Rs q 9000000):=Lib.hid (by rw[hq];exact dE_rs hYl.1 hYl.2 (s2_all Y2 (by omega)) (b:=2) (by omega) (pow5 hk4 (by omega)))
 have hur:Hid (Rs u 9000000):=Lib.hid (by rw[←ePd];exact dE_rs (by rw[hP];exact mk_len) (by rw[hP];exact mk_rct) (s2_all P2 (by omega)) (b:=2) (by omega) (pow5 hk4 (by omega)))
 have hMul:=Lib.hid (fun W K1 K2 A c A' c' (g1:Gd K1 k k X) (g2:Gd K2 k k Y) (m1:Mr W A k c K1) (m2:Mr W A' k c' K2)=>pmul_g g1 g2 m1 m2 (s2_all X2 (by omega)) (s2_all Y2 (by omega)) (by omega) id id)
 have hTr:=Lib.hid (fun W K1 A c (g1:Gd K1 k k X) (m1:Mr W A k c K1)=>ptrans_g g1 m1 (s2_all X2 (by omega)) id id)
 rw[←hP] at hMul;rw[←hT] at hTr;have hDX:=Lib.hid (fun W K1 A c (g1:Gd K1 k k X) (m1:Mr W A k c K1)=>pdet_g g1 m1 (sz11 hk4 (show k≤8 by omega) X2).1 (sz11 hk4 (show k≤8 by omega) X2).2.1 hk4)
 have hDY:=Lib.hid (fun W K1 A c (g1:Gd K1 k k Y) (m1:Mr W A k c K1)=>pdet_g g1 m1 (sz11 hk4 (show k≤8 by omega) Y2).1 (sz11 hk4 (show k≤8 by omega) Y2).2.1 hk4)
 have hDP:=Lib.hid (fun W K1 A c (g1:Gd K1 k k P0) (m1:Mr W A k c K1)=>pdet_g g1 m1 (sz11 hk4 (show k≤8 by omega) P2).1 (sz11 hk4 (show k≤8 by omega) P2).2.1 hk4)
 have hDT:=Lib.hid (fun W K1 A c (g1:Gd K1 k k T0) (m1:Mr W A k c K1)=>pdet_g g1 m1 (sz11 hk4 (show k≤8 by omega) T2).1 (sz11 hk4 (show k≤8 by omega) T2).2.1 hk4)
 have hRX:=Lib.hid (fun W K1 A c (g1:Gd K1 k k X) (m1:Mr W A k c K1)=>prank_g g1 m1 (sz11 hk4 (show k≤8 by omega) X2).1 (sz11 hk4 (show k≤8 by omega) X2).2.1)
 have hRT:=Lib.hid (fun W K1 A c (g1:Gd K1 k k T0) (m1:Mr W A k c K1)=>prank_g g1 m1 (sz11 hk4 (show k≤8 by omega) T2).1 (sz11 hk4 (show k≤8 by omega) T2).2.1)
 rw[←hp] at hDX;rw[←hq] at hDY;rw[ePd] at hDP;rw[eTd] at hDT;rw[←hr] at hRX;rw[eTr] at hRT;have hA:=Lib.hid awake_any;have S0:=Lib.hid (St.new w);replace h1:=Lib.hid h1;replace h2:=Lib.hid h2;replace hu:=Lib.hid hu;replace hz:=Lib.hid hz;clear hX hY hP hT X2 Y2 P2 T2 hXl hYl hp hq hr ePd eTd eTr b1 b2 hk4;go_enter Tryz.func3,Tryz.ntmps3
 go_wp2_with fail
 refine (hM1.out _ h1.out).mono ?_
 rintro e w' ⟨A3,c3,K3,rfl,m3,g3,bb⟩;replace h1:=Lib.hid (h1.out.bel bb);replace h2:=Lib.hid (h2.out.bel bb);replace S0:=Lib.hid (S0.out.call bb);replace m3:=Lib.hid m3;replace g3:=Lib.hid g3;clear bb;clear hM1 h1
 go_wp2_with fail
 refine (hM2.out _ h2.out).mono ?_
 rintro e w' ⟨A4,c4,K4,rfl,m4,g4,bb⟩;replace h2:=Lib.hid (h2.out.bel bb);replace m3:=Lib.hid (m3.out.bel bb);replace S0:=Lib.hid (S0.out.call bb);replace m4:=Lib.hid m4;replace g4:=Lib.hid g4;clear bb;clear hM2 h2 rv wv wv8
 go_wp2_with fail
 refine (hMul.out _ K3 K4 A3 c3 A4 c4 g3.out g4.out m3.out m4.out).mono ?_
 rintro e w' ⟨A5,c5,K5,rfl,m5,g5,bb⟩;replace m3:=Lib.hid (m3.out.bel bb);replace m4:=Lib.hid (m4.out.bel bb);replace S0:=Lib.hid (S0.out.call bb);replace m5:=Lib.hid m5;replace g5:=Lib.hid g5;clear bb;clear hMul
 go_wp2_with fail
 refine (hTr.out _ K3 A3 c3 g3.out m3.out).mono ?_
 rintro e w' ⟨A6,c6,K6,rfl,m6,g6,bb⟩;replace m3:=Lib.hid (m3.out.bel bb);replace m4:=Lib.hid (m4.out.bel bb);replace m5:=Lib.hid (m5.out.bel bb);replace S0:=Lib.hid (S0.out.call bb);replace m6:=Lib.hid m6;replace g6:=Lib.hid g6;clear bb;clear hTr
 go_wp2_with fail
 refine (hDX.out _ K3 A3 c3 g3.out m3.out).mono ?_
 rintro e v11 ⟨A11,n11,c11,D11,m11,d11,rfl,x11,bb⟩;replace m3:=Lib.hid (m3.out.bel bb);replace m4:=Lib.hid (m4.out.bel bb);replace m5:=Lib.hid (m5.out.bel bb);replace m6:=Lib.hid (m6.out.bel bb);replace S0:=Lib.hid (S0.out.call bb);have B:=(Below.refl v11.heap.size v11).alloc (Nat.le_refl _) (.cells #[.bool (ng p.num),.slice A11 n11 c11,.slice D11 m11 d11] 33);replace S0:=Lib.hid (((S0.out.read x11.n).read x11.d).allocAt v11.heap.size #[.bool (ng p.num),.slice A11 n11 c11,.slice D11 m11 d11] 33 (noLof rfl) rfl)
 obtain⟨V11,hV⟩:∃ W,W=v11.alloc (.cells #[.bool (ng p.num),.slice A11 n11 c11,.slice D11 m11 d11] 33):=⟨_,rfl⟩;obtain⟨g11,hg⟩:∃ g,g=v11.heap.size:=⟨_,rfl⟩;rw[←hV] at B S0;rw[←hg] at S0;replace m3:=Lib.hid (m3.out.bel B);replace m4:=Lib.hid (m4.out.bel B);replace m5:=Lib.hid (m5.out.bel B);replace m6:=Lib.hid (m6.out.bel B);go_upto_region 8 with fail
 rw[←hg,←hV];clear hV hg B bb x11;clear hDX
 go_wp2_with fail
 refine (hDY.out _ K4 A4 c4 g4.out m4.out).mono ?_
 rintro e v12 ⟨A12,n12,c12,D12,m12,d12,rfl,x12,bb⟩;replace m3:=Lib.hid (m3.out.bel bb);replace m4:=Lib.hid (m4.out.bel bb);replace m5:=Lib.hid (m5.out.bel bb);replace m6:=Lib.hid (m6.out.bel bb);replace S0:=Lib.hid (S0.out.call bb);have B:=(Below.refl v12.heap.size v12).alloc (Nat.le_refl _) (.cells #[.bool (ng q.num),.slice A12 n12 c12,.slice D12 m12 d12] 33);replace S0:=Lib.hid (((S0.out.read x12.n).read x12.d).allocAt v12.heap.size #[.bool (ng q.num),.slice A12 n12 c12,.slice D12 m12 d12] 33 (noLof rfl) rfl)
 obtain⟨V12,hV⟩:∃ W,W=v12.alloc (.cells #[.bool (ng q.num),.slice A12 n12 c12,.slice D12 m12 d12] 33):=⟨_,rfl⟩;obtain⟨g12,hg⟩:∃ g,g=v12.heap.size:=⟨_,rfl⟩;rw[←hV] at B S0;rw[←hg] at S0;replace m3:=Lib.hid (m3.out.bel B);replace m4:=Lib.hid (m4.out.bel B);replace m5:=Lib.hid (m5.out.bel B);replace m6:=Lib.hid (m6.out.bel B);go_upto_region 9 with fail
 rw[←hg,←hV];clear hV hg B bb x12;clear hDY m4 g4
 go_wp2_with fail
 refine (hDP.out _ K5 A5 c5 g5.out m5.out).mono ?_
 rintro e v13 ⟨A13,n13,c13,D13,m13,d13,rfl,x13,bb⟩;replace m3:=Lib.hid (m3.out.bel bb);replace m5:=Lib.hid (m5.out.bel bb);replace m6:=Lib.hid (m6.out.bel bb);replace S0:=Lib.hid (S0.out.call bb);have B:=(Below.refl v13.heap.size v13).alloc (Nat.le_refl _) (.cells #[.bool (ng u.num),.slice A13 n13 c13,.slice D13 m13 d13] 33);replace S0:=Lib.hid (((S0.out.read x13.n).read x13.d).allocAt v13.heap.size #[.bool (ng u.num),.slice A13 n13 c13,.slice D13 m13 d13] 33 (noLof rfl) rfl)
 obtain⟨V13,hV⟩:∃ W,W=v13.alloc (.cells #[.bool (ng u.num),.slice A13 n13 c13,.slice D13 m13 d13] 33):=⟨_,rfl⟩;obtain⟨g13,hg⟩:∃ g,g=v13.heap.size:=⟨_,rfl⟩;rw[←hV] at B S0;rw[←hg] at S0;replace m3:=Lib.hid (m3.out.bel B);replace m5:=Lib.hid (m5.out.bel B);replace m6:=Lib.hid (m6.out.bel B);go_upto_region 10 with fail
 rw[←hg,←hV];clear hV hg B bb x13;clear hDP m5 g5
 go_wp2_with fail
 refine (hDT.out _ K6 A6 c6 g6.out m6.out).mono ?_
 rintro e v14 ⟨A14,n14,c14,D14,m14,d14,rfl,x14,bb⟩;replace m3:=Lib.hid (m3.out.bel bb);replace m6:=Lib.hid (m6.out.bel bb);replace S0:=Lib.hid (S0.out.call bb);have B:=(Below.refl v14.heap.size v14).alloc (Nat.le_refl _) (.cells #[.bool (ng p.num),.slice A14 n14 c14,.slice D14 m14 d14] 33);replace S0:=Lib.hid (((S0.out.read x14.n).read x14.d).allocAt v14.heap.size #[.bool (ng p.num),.slice A14 n14 c14,.slice D14 m14 d14] 33 (noLof rfl) rfl)
 obtain⟨V14,hV⟩:∃ W,W=v14.alloc (.cells #[.bool (ng p.num),.slice A14 n14 c14,.slice D14 m14 d14] 33):=⟨_,rfl⟩;obtain⟨g14,hg⟩:∃ g,g=v14.heap.size:=⟨_,rfl⟩;rw[←hV] at B S0;rw[←hg] at S0;replace m3:=Lib.hid (m3.out.bel B);replace m6:=Lib.hid (m6.out.bel B);go_upto_region 11 with fail
 rw[←hg,←hV];clear hV hg B bb x14;clear hDT
 go_wp2_with fail
 refine (hRX.out _ K3 A3 c3 g3.out m3.out).mono ?_
 rintro e w' ⟨rfl,bb⟩;replace m3:=Lib.hid (m3.out.bel bb);replace m6:=Lib.hid (m6.out.bel bb);replace S0:=Lib.hid (S0.out.call bb);clear bb;clear hRX m3 g3
 go_wp2_with fail
 refine (hRT.out _ K6 A6 c6 g6.out m6.out).mono ?_
 rintro e w' ⟨rfl,bb⟩;replace m6:=Lib.hid (m6.out.bel bb);replace S0:=Lib.hid (S0.out.call bb);clear bb;clear hRT m6 g6;have ud0:=Lib.hid (S0.out.cl 3 0 rfl rfl);have ud1:=Lib.hid (S0.out.cl 3 1 rfl rfl);have ud2:=Lib.hid (S0.out.cl 3 2 rfl rfl);have uc0:=Lib.hid (S0.out.cl 2 0 rfl rfl);have uc1:=Lib.hid (S0.out.cl 2 1 rfl rfl);have uc2:=Lib.hid (S0.out.cl 2 2 rfl rfl);have uq0:=Lib.hid (S0.out.cl 1 0 rfl rfl)
 have uq1:=Lib.hid (S0.out.cl 1 1 rfl rfl);have uq2:=Lib.hid (S0.out.cl 1 2 rfl rfl);have uu0:=Lib.hid (S0.out.cl 0 0 rfl rfl);have uu1:=Lib.hid (S0.out.cl 0 1 rfl rfl);have uu2:=Lib.hid (S0.out.cl 0 2 rfl rfl);obtain⟨z,hzz⟩:∃ z,z=p.num.sign:=⟨_,rfl⟩;have hF:=Lib.hid (fun W (hW:Below w'.heap.size w' W)=>fmulQ p q A11 n11 c11 D11 m11 d11 A12 n12 c12 D12 m12 d12 W ⟨(S0.out.call hW).rd (A11,n11,c11,limbs p.num.natAbs) (by simp),(S0.out.call hW).rd (D11,m11,d11,dn p) (by simp)⟩ ⟨(S0.out.call hW).rd (A12,n12,c12,limbs q.num.natAbs) (by simp),(S0.out.call hW).rd (D12,m12,d12,dn q) (by simp)⟩ (hpr.out.mono (by omega)) (hqr.out.mono (by omega)))
 rw[←hu.out] at hF;have hS1:=Lib.hid (fun W (hW:Below w'.heap.size w' W) A15 n15 c15 D15 m15 d15 (x15:RR W A15 n15 c15 D15 m15 d15 u)=>sameE (Rt.of A13 n13 c13 D13 m13 d13 u) (Rt.of A15 n15 c15 D15 m15 d15 u) (Rt.of_can _ _ _ _ _ _ hur.out) (Rt.of_can _ _ _ _ _ _ hur.out) rfl W ⟨(S0.out.call hW).rd (A13,n13,c13,limbs u.num.natAbs) (by simp),(S0.out.call hW).rd (D13,m13,d13,dn u) (by simp)⟩ ⟨x15.n,x15.d⟩)
 have hS2:=Lib.hid (fun W (hW:Below w'.heap.size w' W)=>sameE (Rt.of A14 n14 c14 D14 m14 d14 p) (Rt.of A11 n11 c11 D11 m11 d11 p) (Rt.of_can _ _ _ _ _ _ hpr.out) (Rt.of_can _ _ _ _ _ _ hpr.out) rfl W ⟨(S0.out.call hW).rd (A14,n14,c14,limbs p.num.natAbs) (by simp),(S0.out.call hW).rd (D14,m14,d14,dn p) (by simp)⟩ ⟨(S0.out.call hW).rd (A11,n11,c11,limbs p.num.natAbs) (by simp),(S0.out.call hW).rd (D11,m11,d11,dn p) (by simp)⟩)
 have hSg:=Lib.hid (fun W (hW:Below w'.heap.size w' W)=>rsignQ2 p A11 n11 c11 D11 m11 d11 W ⟨(S0.out.call hW).rd (A11,n11,c11,limbs p.num.natAbs) (by simp),(S0.out.call hW).rd (D11,m11,d11,dn p) (by simp)⟩ (hpr.out.mono (by omega)))
 rw[←hzz] at hSg;have hcmp:Hid (((r:Int)==(k:Int))=(z != 0)):=Lib.hid (by
  by_cases hr0:r=k
  ·have hz0:¬ z=0:=fun h0=>(hz.out.1 (Rat.num_eq_zero.1 (Int.sign_eq_zero_iff_zero.1 (by rw[←hzz];exact h0)))) hr0
   rw[hr0,beq_self_eq_true];simp[hz0]
  ·have hz0:z=0:=by rw[hzz,hz.out.2 hr0];rfl
   have hr1:¬ (r:Int)=(k:Int):=by omega
   rw[hz0];simp[hr1])
 clear hzz hz hu hpr hqr hur;go_upto_region 13 with fail
 refine Wl.start (fun W=>Below w'.heap.size w' W) [] rfl ?_
 have hS:Below w'.heap.size w' w'.drew:=(Below.refl _ _).drew
 try simp only[Act.put,sZ0,sZ1,sZ2]
 refine Wl.g (i:=0) at0 (by kernel_rfl) (by kernel_rfl) fun K' hK=>?_
 refine oper_call (f:=13) (args:=#[]) rfl (by kernel_rfl) ((hA.out _).mono ?_)
 rintro e Va ⟨rfl,bb⟩;have hSa:=hS.trans (bb.mono hS.size);refine⟨_,rfl,hK.out _ _ hSa ?_⟩
 clear hK K' hS bb hA
 try simp only[Act.put,sZ0,sZ1,sZ2]
 refine Wl.t (i:=1) (v:=.bool true) (some 85) at1 (hy:=fun _ _=>by kernel_rfl) (hS:=hSa) (h:=?_)
 refine Wl.t (i:=2) (v:=.int .i64 0) (some 86) at2 (hy:=fun _ _=>by kernel_rfl) (hS:=hSa) (h:=?_)
 refine Wl.t (i:=3) (v:=.bool true) (some 87) at3 (hy:=fun _ _=>by go_simp) (hS:=hSa) (h:=?_)
 refine Wl.t (i:=4) (v:=.bool true) (some 88) at4 (hy:=fun _ _=>by kernel_rfl) (hS:=hSa) (h:=?_)
 refine Wl.t (i:=5) (v:=.bool true) (some 89) at5 (hy:=fun _ _=>by kernel_rfl) (hS:=hSa) (h:=?_)
 refine Wl.t (i:=6) (v:=.int .i64 0) (some 90) at6 (hy:=fun _ _=>by kernel_rfl) (hS:=hSa) (h:=?_)
 refine Wl.t (i:=7) (v:=.bool true) (some 91) at7 (hy:=fun _ _=>by go_simp) (hS:=hSa) (h:=?_)
 refine Wl.t (i:=8) (v:=.bool true) (some 92) at8 (hy:=fun _ _=>by kernel_rfl) (hS:=hSa) (h:=?_)
 refine Wl.t (i:=9) (v:=.bool true) (some 93) at9 (hy:=fun _ _=>by kernel_rfl) (hS:=hSa) (h:=?_)
 refine Wl.t (i:=10) (v:=.agg #[.bool (ng u.num),.slice A13 n13 c13,.slice D13 m13 d13]) (some 94) at10 (hy:=fun W hS=>by (have k0:=bel_cell hS uq0.out;have k1:=bel_cell hS uq1.out;have k2:=bel_cell hS uq2.out;clear hS;go_simp)) (hS:=hSa) (h:=?_)
 refine Wl.t (i:=11) (v:=.agg #[.bool (ng p.num),.slice A11 n11 c11,.slice D11 m11 d11]) (some 95) at11 (hy:=fun W hS=>by (have k0:=bel_cell hS ud0.out;have k1:=bel_cell hS ud1.out;have k2:=bel_cell hS ud2.out;clear hS;go_simp)) (hS:=hSa) (h:=?_)
 refine Wl.t (i:=12) (v:=.agg #[.bool (ng q.num),.slice A12 n12 c12,.slice D12 m12 d12]) (some 96) at12 (hy:=fun W hS=>by (have k0:=bel_cell hS uc0.out;have k1:=bel_cell hS uc1.out;have k2:=bel_cell hS uc2.out;clear hS;go_simp)) (hS:=hSa) (h:=?_)
 try simp only[Act.put,sZ0,sZ1,sZ2]
 refine Wl.g (i:=13) at13 (by kernel_rfl) (by kernel_rfl) fun K' hK=>?_
 refine oper_call (f:=15) (args:=#[.agg #[.bool (ng p.num),.slice A11 n11 c11,.slice D11 m11 d11],.agg #[.bool (ng q.num),.slice A12 n12 c12,.slice D12 m12 d12]]) rfl (by kernel_rfl) ((hF.out _ hSa).mono ?_)
 rintro e Vb ⟨A15,n15,c15,D15,m15,d15,rfl,x15,bb⟩;have hSb:=hSa.trans (bb.mono hSa.size);refine⟨_,rfl,hK.out _ _ hSb ?_⟩
 clear hK K' hSa bb hF
 try simp only[Act.put,sZ0,sZ1,sZ2]
 have hS1x:=Lib.hid (hS1.out _ hSb A15 n15 c15 D15 m15 d15 x15);clear x15 hS1
 try simp only[Act.put,sZ0,sZ1,sZ2]
 refine Wl.g (i:=14) at14 (by kernel_rfl) (by kernel_rfl) fun K' hK=>?_
 refine oper_call (f:=14) (args:=#[.agg #[.bool (ng u.num),.slice A13 n13 c13,.slice D13 m13 d13],.agg #[.bool (ng u.num),.slice A15 n15 c15,.slice D15 m15 d15]]) rfl (by kernel_rfl) ((hS1x.out).mono ?_)
 rintro e Vc ⟨rfl,bb⟩;have hSc:=hSb.trans (bb.mono hSb.size);refine⟨_,rfl,hK.out _ _ hSc ?_⟩
 clear hK K' hSb bb hS1x
 try simp only[Act.put,sZ0,sZ1,sZ2]
 refine Wl.t (i:=15) (v:=.bool true) (some 99) at15 (hy:=fun _ _=>by kernel_rfl) (hS:=hSc) (h:=?_)
 refine Wl.t (i:=16) (v:=.bool true) (some 100) at16 (hy:=fun _ _=>by kernel_rfl) (hS:=hSc) (h:=?_)
 refine Wl.t (i:=17) (v:=.agg #[.bool (ng p.num),.slice A14 n14 c14,.slice D14 m14 d14]) (some 101) at17 (hy:=fun W hS=>by (have k0:=bel_cell hS uu0.out;have k1:=bel_cell hS uu1.out;have k2:=bel_cell hS uu2.out;clear hS;go_simp)) (hS:=hSc) (h:=?_)
 refine Wl.t (i:=18) (v:=.agg #[.bool (ng p.num),.slice A11 n11 c11,.slice D11 m11 d11]) (some 102) at18 (hy:=fun W hS=>by (have k0:=bel_cell hS ud0.out;have k1:=bel_cell hS ud1.out;have k2:=bel_cell hS ud2.out;clear hS;go_simp)) (hS:=hSc) (h:=?_)
 try simp only[Act.put,sZ0,sZ1,sZ2]
 refine Wl.g (i:=19) at19 (by kernel_rfl) (by kernel_rfl) fun K' hK=>?_
 refine oper_call (f:=14) (args:=#[.agg #[.bool (ng p.num),.slice A14 n14 c14,.slice D14 m14 d14],.agg #[.bool (ng p.num),.slice A11 n11 c11,.slice D11 m11 d11]]) rfl (by kernel_rfl) ((hS2.out _ hSc).mono ?_)
 rintro e Vd ⟨rfl,bb⟩;have hSd:=hSc.trans (bb.mono hSc.size);refine⟨_,rfl,hK.out _ _ hSd ?_⟩
 clear hK K' hSc bb hS2
 try simp only[Act.put,sZ0,sZ1,sZ2]
 refine Wl.t (i:=20) (v:=.bool true) (some 104) at20 (hy:=fun _ _=>by kernel_rfl) (hS:=hSd) (h:=?_)
 refine Wl.t (i:=21) (v:=.bool true) (some 105) at21 (hy:=fun _ _=>by kernel_rfl) (hS:=hSd) (h:=?_)
 refine Wl.t (i:=22) (v:=.int .i64 r) (some 106) at22 (hy:=fun _ _=>by kernel_rfl) (hS:=hSd) (h:=?_)
 refine Wl.t (i:=23) (v:=.int .i64 r) (some 107) at23 (hy:=fun _ _=>by kernel_rfl) (hS:=hSd) (h:=?_)
 refine Wl.t (i:=24) (v:=.bool true) (some 108) at24 (hy:=fun _ _=>by go_simp) (hS:=hSd) (h:=?_)
 refine Wl.t (i:=25) (v:=.bool true) (some 109) at25 (hy:=fun _ _=>by kernel_rfl) (hS:=hSd) (h:=?_)
 refine Wl.t (i:=26) (v:=.bool true) (some 110) at26 (hy:=fun _ _=>by kernel_rfl) (hS:=hSd) (h:=?_)
 refine Wl.t (i:=27) (v:=.int .i64 r) (some 111) at27 (hy:=fun _ _=>by kernel_rfl) (hS:=hSd) (h:=?_)
 refine Wl.t (i:=28) (v:=.int .i64 k) (some 112) at28 (hy:=fun _ _=>by kernel_rfl) (hS:=hSd) (h:=?_)
 refine Wl.t (i:=29) (v:=.bool ((r:Int)==(k:Int))) (some 113) at29 (hy:=fun _ _=>by go_simp) (hS:=hSd) (h:=?_)
 refine Wl.t (i:=30) (v:=.agg #[.bool (ng p.num),.slice A11 n11 c11,.slice D11 m11 d11]) (some 114) at30 (hy:=fun W hS=>by (have k0:=bel_cell hS ud0.out;have k1:=bel_cell hS ud1.out;have k2:=bel_cell hS ud2.out;clear hS;go_simp)) (hS:=hSd) (h:=?_)
 try simp only[Act.put,sZ0,sZ1,sZ2]
 refine Wl.g (i:=31) at31 (by kernel_rfl) (by kernel_rfl) fun K' hK=>?_
 refine oper_call (f:=16) (args:=#[.agg #[.bool (ng p.num),.slice A11 n11 c11,.slice D11 m11 d11]]) rfl (by kernel_rfl) ((hSg.out _ hSd).mono ?_)
 rintro e Ve ⟨rfl,bb⟩;have hSe:=hSd.trans (bb.mono hSd.size);refine⟨_,rfl,hK.out _ _ hSe ?_⟩
 clear hK K' hSd bb hSg
 try simp only[Act.put,sZ0,sZ1,sZ2]
 refine Wl.t (i:=32) (v:=.bool (z != 0)) (some 116) at32 (hy:=fun _ _=>by go_simp) (hS:=hSe) (h:=?_)
 have hcmp:=hcmp.out;refine Wl.t (i:=33) (v:=.bool true) (some 117) at33 (hy:=fun _ _=>by (rw[←hcmp];go_simp)) (hS:=hSe) (h:=?_)
 refine Wl.t (i:=34) (v:=.bool true) (some 118) at34 (hy:=fun _ _=>by kernel_rfl) (hS:=hSe) (h:=?_)
 refine Wl.t (i:=35) (v:=.bool true) (some 6) at35 (hy:=fun _ _=>by kernel_rfl) (hS:=hSe) (h:=?_)
 refine Wl.done (by kernel_rfl) ?_
 have S1:=Lib.hid (S0.out.call hSe);go_wp2;go_ret;exact⟨rfl,S1.out.bel⟩
end Go.Proofs.YthlinhconnmbcaaGreat
namespace Go.Proofs.YthlinhconnmbcaaGreat
open Go.ChangeShapes Go.WideShapes Go.ChangeAt Go.RowKit Go.Joins Go.Deep
set_option linter.unusedVariables false
theorem own:ownKnob Tryz.prog.godebug=none:=by kernel_rfl
theorem laidOut:laidOutB Tryz.prog=true:=by kernel_rfl
def Opn {α:Type} (t:TypeId) (C:Cod α):Prop:=∀ {H:Type} {enc:TypeId×Value→H} {W:World} {n:Nat} {cs:List Value} {x:DataW H×List MemPlace},DataW.trod enc Tryz.prog W 0 (fun _=>true) true n t cs=some x→∃ a:α,cs=C.cs a∧C.At W a
theorem cells_get8 {w:World} {base:Nat} {a:Addr} {n:Nat} {cs:List Value} (h:w.cells? base a n=some cs):cs.length=n∧∀ i,i<n→w.cell? (a.add i)=cs[i]?:=by
 unfold World.cells? at h
 split at h
 ·exact⟨by simpa using mapM_some_length h,fun i hi=>mapM_some_get h i i (by simp[hi])⟩
 ·cases h
theorem spot_none8 {w:World} {a:Addr} {v:Value} (h:w.cell? a=some v):a=⟨a.block,a.off,none⟩∧a.block<w.heap.size:=by
 obtain⟨b,o,s⟩:=a;unfold World.cell? at h
 split at h
 ·rename_i hb
  cases s with
  | none=>exact⟨rfl,(Array.getElem?_eq_some_iff.1 hb).1⟩
  | some z=>simp at h
 ·cases h
theorem add_n8 (b o k:Nat):(⟨b,o,none⟩:Addr).add k=⟨b,o+k,none⟩:=by unfold Addr.add;split<;>simp_all
theorem opn_slice {α:Type} {C:Cod α} {t e:TypeId} (hu:Program.underlying Tryz.prog t=some (.slice e)) (hc:Program.cellsOf Tryz.prog e=C.sz) (he:Opn e C):Opn t (slC C):=by
 intro H enc W n cs x h
 rcases DataW.trod_slice hu h with ⟨h0,_⟩ | ⟨a,len,cap,elems,rest,m,_,h0,_,hb,hl,hm,hlen,hel,_,_⟩
 ·exact⟨⟨none,0,[]⟩,h0,LR.nil_ _ _ _,Nat.le_refl _⟩
 ·rw[hc] at hel
  have each:∀ i,i<len→∃ y:α,(∀ k v,(C.cs y)[k]?=some v→W.cell? ((a.add (i*C.sz)).add k)=some v)∧C.At W y:=by
   intro i hi;have e:=hel i hi;rw[List.getElem?_eq_getElem (by omega),Option.bind_eq_some_iff] at e
   obtain⟨cs',hcs,hy⟩:=e;obtain⟨hcl,hcg⟩:=cells_get8 hcs;obtain⟨y,rfl,hat⟩:=he hy;exact⟨y,fun k v hv=>by rw[hcg k (by rw[←C.len y];exact (List.getElem?_eq_some_iff.1 hv).1)];exact hv,hat⟩
  rcases Nat.eq_zero_or_pos len with h1 | h1
  ·subst h1
   exact⟨⟨some a,cap,[]⟩,h0,LR.nil_ _ _ _,Nat.zero_le _⟩
  ·obtain⟨y0,e0,_⟩:=each 0 h1
   have e0':=e0 0 _ (List.getElem?_eq_getElem (by rw[C.len];exact C.pos))
   have ea:(a.add (0*C.sz)).add 0=a:=by simp[Addr.add]
   rw[ea] at e0';obtain⟨ha,hblt⟩:=spot_none8 e0';obtain⟨b,o,s⟩:=a;obtain rfl:s=none:=by injection ha
   obtain⟨L,hL⟩:∃ L,L=(List.range len).map (fun i=>if hi:i<len then (each i hi).choose else y0):=⟨_,rfl⟩
   have hfl:L.length=len:=by rw[hL];simp
   have hmem:∀ r∈L,∃ i,∃ hi:i<len,r=(each i hi).choose:=by
    intro r hr;rw[hL] at hr;obtain⟨i,hi,rfl⟩:=List.mem_map.1 hr;have hil:i<len:=by simpa using hi
    exact⟨i,hil,by simp only[hil,dite_true]⟩
   refine⟨⟨some ⟨b,o,none⟩,cap,L⟩,by rw[h0,←hfl];rfl,⟨rfl,.inr ⟨b,o,rfl,hblt,fun i x hi k v hv=>?_⟩,fun r hr=>?_⟩,by show L.length≤cap;omega⟩
   ·have hil:i<len:=by rw[←hfl];exact (List.getElem?_eq_some_iff.1 hi).1
    have er:x=(each i hil).choose:=by
     have hi':L[i]?=some x:=hi;rw[hL,List.getElem?_map,List.getElem?_range hil] at hi'
     simpa [hil] using hi'.symm
    have k0:=(each i hil).choose_spec.1 k v (by rw[←er];exact hv)
    rw[add_n8,add_n8] at k0;exact k0
   ·obtain⟨i,hi,rfl⟩:=hmem r hr
    exact (each i hi).choose_spec.2
def ibC:Cod Int where
 sz:=1
 cs a:=[.int .i64 a]
 At _ a:=-9223372036854775808≤a∧a≤9223372036854775807
 In _ _ _ a:=-9223372036854775808≤a∧a≤9223372036854775807
 pos:=by decide
 len _:=rfl
 noL a:=fun v hv z e=>by rw[List.mem_singleton.1 hv] at e;cases e
 one a:=fun v hv=>by rw[List.mem_singleton.1 hv];rfl
 bel h _:=h
 mono h _ _:=h
 at_ _ h:=h
 old _ _ h:=h
theorem opn_intb:Opn 3 ibC:=by
 intro H enc W n cs x h;obtain⟨s,e,_,hw⟩:=DataW.trod_int Tryz.underlying3 h;exact⟨s,e,bounds_i64 hw⟩
theorem c6Int:Program.cellsOf Tryz.prog 3=1:=by kernel_rfl
theorem opn_intsb:Opn 22 (slC ibC):=opn_slice Tryz.underlying22 c6Int opn_intb
theorem open_intl {H:Type} {enc:TypeId×Value→H} {W:World} {b0:Nat} {r:Reach} {v:Value} {d:DataW H} {p:List MemPlace} (hv:Value.okWide Tryz.prog W r b0 22 v) (h:DataW.Trod enc Tryz.prog W 0 (fun _=>true) true 22 v d p) :
  ∃ s:Sl Int,v=.slice s.A s.L.length s.c∧LR intC W s.A s.L.length s.L∧∀ i,-9223372036854775808≤s.L.getD i 0∧s.L.getD i 0≤9223372036854775807:=by
 obtain⟨sa,sl,sc,rfl⟩:=okWide_slice Tryz.underlying22 hv;obtain⟨fuel,hf⟩:=h;obtain⟨s,e,A1⟩:=opn_intsb (show DataW.trod enc Tryz.prog W 0 (fun _=>true) true fuel 22 [.slice sa sl sc]=some _ by simpa [Value.cells] using hf)
 have e:Value.slice sa sl sc=Value.slice s.A s.L.length s.c:=by simpa [slC,Sl.v] using e
 refine⟨s,e,⟨A1.1.len,A1.1.mem,fun _ _=>trivial⟩,fun i=>?_⟩
 rw[List.getD_eq_getElem?_getD]
 cases h:s.L[i]? with
 | none=>exact⟨by show (-9223372036854775808:Int)≤0;omega,by show (0:Int)≤9223372036854775807;omega⟩
 | some x=>exact A1.1.el x (List.mem_of_getElem? h)
theorem byte_in {n:Int} (h:(Lit.int .u8 n).wf=true):∃ c:UInt8,n=(c.toNat:Int):=by
 obtain⟨h1,h2⟩:=bounds_u8 h;refine⟨UInt8.ofNat n.toNat,?_⟩
 rw[UInt8.toNat_ofNat']
 omega
end Go.Proofs.YthlinhconnmbcaaGreat
