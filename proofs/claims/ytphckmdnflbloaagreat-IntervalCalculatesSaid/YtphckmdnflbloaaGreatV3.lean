/- The reference's Div of intervals. -/
import Derived.Test.YtphckmdnflbloaaGreatV1
namespace Go.Proofs.YtphckmdnflbloaaGreat
open Go.RowKit RQ
theorem res_rdivV (W:World) (tmps:Array Value) (g t:Nat) {v0 v1 v2 v3 v4 v5 e0:Value} (ht:tmps.getD 4 undef=.pointer (some ⟨g,0,none⟩)) (h0:tmps.getD 5 undef=e0) (h:Cb W g #[v0,v1,v2,v3,v4,v5] t) :
  (results Tryz.f17 tmps).run Tryz.prog W=.ok (.tuple #[.agg #[v0,v1,v2,v3,v4,v5],e0]) W:=by
 have c0:W.cell? ⟨g,0,none⟩=some v0:=h.cell rfl
 have c1:W.cell? ⟨g,1,none⟩=some v1:=h.cell rfl
 have c2:W.cell? ⟨g,2,none⟩=some v2:=h.cell rfl
 have c3:W.cell? ⟨g,3,none⟩=some v3:=h.cell rfl
 have c4:W.cell? ⟨g,4,none⟩=some v4:=h.cell rfl
 have c5:W.cell? ⟨g,5,none⟩=some v5:=h.cell rfl
 have ht':tmps[4]?.getD undef=.pointer (some ⟨g,0,none⟩):=by rw[←ht];simp[Array.getD_eq_getD_getElem?]
 have k0:tmps[5]?.getD undef=e0:=by rw[←h0];simp[Array.getD_eq_getD_getElem?]
 simp[results,Tryz.results17,go_sem,ht',k0,c0,c1,c2,c3,c4,c5]
set_option maxRecDepth 100000 in
set_option maxHeartbeats 8000000 in
theorem rdivV_no (b1:Bool) (A1:Option Addr) (n1 c1:Nat) (x1:List Nat) (D1:Option Addr) (m1 d1:Nat) (y1:List Nat) (q1:Rat) (b2:Bool) (A2:Option Addr) (n2 c2:Nat) (x2:List Nat) (D2:Option Addr) (m2 d2:Nat) (y2:List Nat) (q2:Rat) (b3:Bool) (A3:Option Addr) (n3 c3:Nat) (x3:List Nat) (D3:Option Addr) (m3 d3:Nat) (y3:List Nat) (q3:Rat) (b4:Bool) (A4:Option Addr) (n4 c4:Nat) (x4:List Nat) (D4:Option Addr) (m4 d4:Nat) (y4:List Nat) (q4:Rat) (hz:klo q3 q4≤0∧0≤khi q3 q4) (s1:Rs q1 19) (s2:Rs q2 19) (s3:Rs q3 19) (s4:Rs q4 19) (w:World) (X1:Rw w b1 A1 n1 c1 x1 D1 m1 d1 y1 q1) (X2:Rw w b2 A2 n2 c2 x2 D2 m2 d2 y2 q2) (X3:Rw w b3 A3 n3 c3 x3 D3 m3 d3 y3 q3) (X4:Rw w b4 A4 n4 c4 x4 D4 m4 d4 y4 q4):Calls Tryz.prog 17 #[.agg #[.bool b1,.slice A1 n1 c1,.slice D1 m1 d1,.bool b2,.slice A2 n2 c2,.slice D2 m2 d2],.agg #[.bool b3,.slice A3 n3 c3,.slice D3 m3 d3,.bool b4,.slice A4 n4 c4,.slice D4 m4 d4]] w (RetVE 0 0 (.int .i64 5) w):=by
 have hle:=kle q3 q4
 obtain⟨s5,s6⟩:=k_rsp s1 s2 (by decide)
 obtain⟨s7,s8⟩:=k_rsp s3 s4 (by decide)
 have hK1:=Lib.hid (fun W h1 h2=>rtakeV_any b1 A1 n1 c1 x1 D1 m1 d1 y1 q1 b2 A2 n2 c2 x2 D2 m2 d2 y2 q2 W h1 h2)
 have hK2:=Lib.hid (fun W h1 h2=>rtakeV_any b3 A3 n3 c3 x3 D3 m3 d3 y3 q3 b4 A4 n4 c4 x4 D4 m4 d4 y4 q4 W h1 h2)
 generalize klo q1 q2=q5 at *
 generalize khi q1 q2=q6 at *
 generalize klo q3 q4=q7 at *
 generalize khi q3 q4=q8 at *
 have hC:Hid (∀ W A n c D m d A' n' c' D' m' d',RR W A n c D m d q7→RR W A' n' c' D' m' d' q8→Calls Tryz.prog 38 #[.agg #[.bool (ng q7.num),.slice A n c,.slice D m d,.bool (ng q8.num),.slice A' n' c',.slice D' m' d'],.agg #[.bool false,.slice none 0 0,.slice none 0 0]] W fun e w'=>e=.returned (.bool true)∧Below W.heap.size W w'):=Lib.hid fun W A n c D m d A' n' c' D' m' d' h1 h2=>by
  have:=rcontains_any _ _ _ _ _ _ _ _ _ _ _ _ _ _ _ _ _ _ _ _ false none 0 0 [] none 0 0 [] 0 W (RR.w h1 (s7.mono (by decide))) (RR.w h2 (s8.mono (by decide))) (Rw.zero W)
  rwa [show klo q7 q8=q7 from if_neg (Rat.not_lt.2 hle),show khi q7 q8=q8 from if_neg (Rat.not_lt.2 hle),←Bool.decide_and,decide_eq_true hz] at this
 clear hz hle s1 s2 s3 s4 s5 s6 s7 s8
 have k1:=Lib.hid X1.k
 have k2:=Lib.hid X2.k
 have k3:=Lib.hid X3.k
 have k4:=Lib.hid X4.k
 have S:=((((((((((((St.new w).read X1.rn).read X1.rd).read X2.rn).read X2.rd).read X3.rn).read X3.rd).read X4.rn).read X4.rd).allocAt (w.heap.size) #[.bool b1,.slice A1 n1 c1,.slice D1 m1 d1,.bool b2,.slice A2 n2 c2,.slice D2 m2 d2] 28 (noL6 _ _ _ _ _ _ _ _ _ _ _ _ _ _) (by simp)).allocAt (w.heap.size+1) #[.bool b3,.slice A3 n3 c3,.slice D3 m3 d3,.bool b4,.slice A4 n4 c4,.slice D4 m4 d4] 28 (noL6 _ _ _ _ _ _ _ _ _ _ _ _ _ _) (by simp)).allocAt (w.heap.size+1+1) #[.bool false,.slice none 0 0,.slice none 0 0,.bool false,.slice none 0 0,.slice none 0 0] 28 (noL6 _ _ _ _ _ _ _ _ _ _ _ _ _ _) (by simp))
 replace S:=Lib.hid S
 clear X1 X2 X3 X4
 go_enter Tryz.func17,Tryz.ntmps17
 go_upto_region 1 with fail
 have S:=S.out
 generalize hW1:(World.alloc (World.alloc (World.alloc w (.cells #[.bool b1,.slice A1 n1 c1,.slice D1 m1 d1,.bool b2,.slice A2 n2 c2,.slice D2 m2 d2] 28)) (.cells #[.bool b3,.slice A3 n3 c3,.slice D3 m3 d3,.bool b4,.slice A4 n4 c4,.slice D4 m4 d4] 28)) (.cells #[.bool false,.slice none 0 0,.slice none 0 0,.bool false,.slice none 0 0,.slice none 0 0] 28))=w1 at S ⊢
 clear hW1
 replace S:=Lib.hid S
 have d_a0:=St.cl (S.out) 2 0 rfl rfl
 have d_a1:=St.cl (S.out) 2 1 rfl rfl
 have d_a2:=St.cl (S.out) 2 2 rfl rfl
 have d_a3:=St.cl (S.out) 2 3 rfl rfl
 have d_a4:=St.cl (S.out) 2 4 rfl rfl
 have d_a5:=St.cl (S.out) 2 5 rfl rfl
 have d_b0:=St.cl (S.out) 1 0 rfl rfl
 have d_b1:=St.cl (S.out) 1 1 rfl rfl
 have d_b2:=St.cl (S.out) 1 2 rfl rfl
 have d_b3:=St.cl (S.out) 1 3 rfl rfl
 have d_b4:=St.cl (S.out) 1 4 rfl rfl
 have d_b5:=St.cl (S.out) 1 5 rfl rfl
 have dz_a0:=St.f (S.out) 2 0 rfl
 have dz_a1:=St.f (S.out) 2 1 rfl
 have dz_a2:=St.f (S.out) 2 2 rfl
 have dz_a3:=St.f (S.out) 2 3 rfl
 have dz_a4:=St.f (S.out) 2 4 rfl
 have dz_a5:=St.f (S.out) 2 5 rfl
 have dz_b0:=St.f (S.out) 1 0 rfl
 have dz_b1:=St.f (S.out) 1 1 rfl
 have dz_b2:=St.f (S.out) 1 2 rfl
 have dz_b3:=St.f (S.out) 1 3 rfl
 have dz_b4:=St.f (S.out) 1 4 rfl
 have dz_b5:=St.f (S.out) 1 5 rfl
 go_cut [] (fun wx=>∃ A11 n11 c11 D11 m11 d11 A12 n12 c12 D12 m12 d12 A13 n13 c13 D13 m13 d13 A14 n14 c14 D14 m14 d14,St w wx [(w.heap.size+1+1,#[.bool false,.slice none 0 0,.slice none 0 0,.bool false,.slice none 0 0,.slice none 0 0],28),(w.heap.size+1,#[.bool (ng q7.num),.slice A13 n13 c13,.slice D13 m13 d13,.bool (ng q8.num),.slice A14 n14 c14,.slice D14 m14 d14],28),(w.heap.size,#[.bool (ng q5.num),.slice A11 n11 c11,.slice D11 m11 d11,.bool (ng q6.num),.slice A12 n12 c12,.slice D12 m12 d12],28)] [(D14,m14,d14,dn q8),(A14,n14,c14,limbs q8.num.natAbs),(D13,m13,d13,dn q7),(A13,n13,c13,limbs q7.num.natAbs),(D12,m12,d12,dn q6),(A12,n12,c12,limbs q6.num.natAbs),(D11,m11,d11,dn q5),(A11,n11,c11,limbs q5.num.natAbs),(D4,m4,d4,y4),(A4,n4,c4,x4),(D3,m3,d3,y3),(A3,n3,c3,x3),(D2,m2,d2,y2),(A2,n2,c2,x2),(D1,m1,d1,y1),(A1,n1,c1,x1)])
 case first=>
  have SD:=Lib.hid (S.out.drew)
  go_region_with (first
   | (go_at_call_of 82 (Value.agg #[.bool b1,.slice A1 n1 c1,.slice D1 m1 d1,.bool b2,.slice A2 n2 c2,.slice D2 m2 d2]);refine (hK1.out _ (Rw.of (SD.out.r 7 rfl) (SD.out.r 6 rfl) k1.out) (Rw.of (SD.out.r 5 rfl) (SD.out.r 4 rfl) k2.out)).mono ?_;rintro e w2 ⟨A11,n11,c11,D11,m11,d11,A12,n12,c12,D12,m12,d12,rfl,Q11,Q12,bb0⟩;have S0:St w w2 [(w.heap.size+1+1,#[.bool false,.slice none 0 0,.slice none 0 0,.bool false,.slice none 0 0,.slice none 0 0],28),(w.heap.size+1,#[.bool b3,.slice A3 n3 c3,.slice D3 m3 d3,.bool b4,.slice A4 n4 c4,.slice D4 m4 d4],28),(w.heap.size,#[.bool b1,.slice A1 n1 c1,.slice D1 m1 d1,.bool b2,.slice A2 n2 c2,.slice D2 m2 d2],28)] [(D12,m12,d12,dn q6),(A12,n12,c12,limbs q6.num.natAbs),(D11,m11,d11,dn q5),(A11,n11,c11,limbs q5.num.natAbs),(D4,m4,d4,y4),(A4,n4,c4,x4),(D3,m3,d3,y3),(A3,n3,c3,x3),(D2,m2,d2,y2),(A2,n2,c2,x2),(D1,m1,d1,y1),(A1,n1,c1,x1)]:=(((((SD.out.call bb0).read Q11.n).read Q11.d).read Q12.n).read Q12.d);have e0_b0:=St.cl (S0) 1 0 rfl rfl;have e0_b1:=St.cl (S0) 1 1 rfl rfl;have e0_b2:=St.cl (S0) 1 2 rfl rfl;have e0_b3:=St.cl (S0) 1 3 rfl rfl;have e0_b4:=St.cl (S0) 1 4 rfl rfl;have e0_b5:=St.cl (S0) 1 5 rfl rfl)
   | (go_at_call_of 82 (Value.agg #[.bool b3,.slice A3 n3 c3,.slice D3 m3 d3,.bool b4,.slice A4 n4 c4,.slice D4 m4 d4]);refine (hK2.out _ (Rw.of (S0.r 7 rfl) (S0.r 6 rfl) k3.out) (Rw.of (S0.r 5 rfl) (S0.r 4 rfl) k4.out)).mono ?_;rintro e w3 ⟨A13,n13,c13,D13,m13,d13,A14,n14,c14,D14,m14,d14,rfl,Q13,Q14,bb1⟩;have S1:St w w3 [(w.heap.size+1+1,#[.bool false,.slice none 0 0,.slice none 0 0,.bool false,.slice none 0 0,.slice none 0 0],28),(w.heap.size+1,#[.bool b3,.slice A3 n3 c3,.slice D3 m3 d3,.bool b4,.slice A4 n4 c4,.slice D4 m4 d4],28),(w.heap.size,#[.bool b1,.slice A1 n1 c1,.slice D1 m1 d1,.bool b2,.slice A2 n2 c2,.slice D2 m2 d2],28)] [(D14,m14,d14,dn q8),(A14,n14,c14,limbs q8.num.natAbs),(D13,m13,d13,dn q7),(A13,n13,c13,limbs q7.num.natAbs),(D12,m12,d12,dn q6),(A12,n12,c12,limbs q6.num.natAbs),(D11,m11,d11,dn q5),(A11,n11,c11,limbs q5.num.natAbs),(D4,m4,d4,y4),(A4,n4,c4,x4),(D3,m3,d3,y3),(A3,n3,c3,x3),(D2,m2,d2,y2),(A2,n2,c2,x2),(D1,m1,d1,y1),(A1,n1,c1,x1)]:=(((((S0.call bb1).read Q13.n).read Q13.d).read Q14.n).read Q14.d);have e1_a0:=St.cl (S1) 2 0 rfl rfl;have e1_a1:=St.cl (S1) 2 1 rfl rfl;have e1_a2:=St.cl (S1) 2 2 rfl rfl;have e1_a3:=St.cl (S1) 2 3 rfl rfl;have e1_a4:=St.cl (S1) 2 4 rfl rfl;have e1_a5:=St.cl (S1) 2 5 rfl rfl;have e1_b0:=St.cl (S1) 1 0 rfl rfl;have e1_b1:=St.cl (S1) 1 1 rfl rfl;have e1_b2:=St.cl (S1) 1 2 rfl rfl;have e1_b3:=St.cl (S1) 1 3 rfl rfl;have e1_b4:=St.cl (S1) 1 4 rfl rfl;have e1_b5:=St.cl (S1) 1 5 rfl rfl;have e1z_a0:=St.f (S1) 2 0 rfl;have e1z_a1:=St.f (S1) 2 1 rfl;have e1z_a2:=St.f (S1) 2 2 rfl;have e1z_a3:=St.f (S1) 2 3 rfl;have e1z_a4:=St.f (S1) 2 4 rfl;have e1z_a5:=St.f (S1) 2 5 rfl;have e1z_b0:=St.f (S1) 1 0 rfl;have e1z_b1:=St.f (S1) 1 1 rfl;have e1z_b2:=St.f (S1) 1 2 rfl;have e1z_b3:=St.f (S1) 1 3 rfl;have e1z_b4:=St.f (S1) 1 4 rfl;have e1z_b5:=St.f (S1) 1 5 rfl))
  all_goals
   have SE:=Lib.hid (((((((((((((S1.set 2 0 (.bool (ng q5.num)) rfl (by nofun)).set 2 1 (.slice A11 n11 c11) rfl (by nofun)).set 2 2 (.slice D11 m11 d11) rfl (by nofun)).set 2 3 (.bool (ng q6.num)) rfl (by nofun)).set 2 4 (.slice A12 n12 c12) rfl (by nofun)).set 2 5 (.slice D12 m12 d12) rfl (by nofun)).set 1 0 (.bool (ng q7.num)) rfl (by nofun)).set 1 1 (.slice A13 n13 c13) rfl (by nofun)).set 1 2 (.slice D13 m13 d13) rfl (by nofun)).set 1 3 (.bool (ng q8.num)) rfl (by nofun)).set 1 4 (.slice A14 n14 c14) rfl (by nofun)).set 1 5 (.slice D14 m14 d14) rfl (by nofun)))
   clear d_a0 d_a1 d_a2 d_a3 d_a4 d_a5 d_b0 d_b1 d_b2 d_b3 d_b4 d_b5 dz_a0 dz_a1 dz_a2 dz_a3 dz_a4 dz_a5 dz_b0 dz_b1 dz_b2 dz_b3 dz_b4 dz_b5 e0_b0 e0_b1 e0_b2 e0_b3 e0_b4 e0_b5 e1_a0 e1_a1 e1_a2 e1_a3 e1_a4 e1_a5 e1_b0 e1_b1 e1_b2 e1_b3 e1_b4 e1_b5 e1z_a0 e1z_a1 e1z_a2 e1z_a3 e1z_a4 e1z_a5 e1z_b0 e1z_b1 e1z_b2 e1z_b3 e1z_b4 e1z_b5
   go_wp2_with fail
   go_meet
   exact⟨_,_,_,_,_,_,_,_,_,_,_,_,_,_,_,_,_,_,_,_,_,_,_,_,SE.out⟩
 case rest=>
  clear d_a0 d_a1 d_a2 d_a3 d_a4 d_a5 d_b0 d_b1 d_b2 d_b3 d_b4 d_b5 dz_a0 dz_a1 dz_a2 dz_a3 dz_a4 dz_a5 dz_b0 dz_b1 dz_b2 dz_b3 dz_b4 dz_b5
  clear S
  obtain⟨A11,n11,c11,D11,m11,d11,A12,n12,c12,D12,m12,d12,A13,n13,c13,D13,m13,d13,A14,n14,c14,D14,m14,d14,S⟩:=hcut
  obtain⟨c_r0,c_r1,c_r2,c_r3,c_r4,c_r5,f_r0,f_r1,f_r2,f_r3,f_r4,f_r5⟩:=S.cf6 0 rfl
  obtain⟨c_b0,c_b1,c_b2,c_b3,c_b4,c_b5,f_b0,f_b1,f_b2,f_b3,f_b4,f_b5⟩:=S.cf6 1 rfl
  obtain⟨c_a0,c_a1,c_a2,c_a3,c_a4,c_a5,f_a0,f_a1,f_a2,f_a3,f_a4,f_a5⟩:=S.cf6 2 rfl
  have hz:w.heap.size+1+1<wc.heap.size:=S.lt 0 rfl
  replace S:=Lib.hid S
  clear hK1 hK2
  go_wp2_with fail
  refine (hC.out _ _ _ _ _ _ _ _ _ _ _ _ _ ⟨S.out.r 3 rfl,S.out.r 2 rfl⟩ ⟨S.out.r 1 rfl,S.out.r 0 rfl⟩).mono ?_
  rintro e w5 ⟨rfl,bb⟩
  have T:=(S.out.call bb)
  clear bb S c_r0 f_r0 c_r1 f_r1 c_r2 f_r2 c_r3 f_r3 c_r4 f_r4 c_r5 f_r5 c_b0 f_b0 c_b1 f_b1 c_b2 f_b2 c_b3 f_b3 c_b4 f_b4 c_b5 f_b5 c_a0 f_a0 c_a1 f_a1 c_a2 f_a2 c_a3 f_a3 c_a4 f_a4 c_a5 f_a5 hz
  have S:=T
  clear T
  obtain⟨c_r0,c_r1,c_r2,c_r3,c_r4,c_r5,f_r0,f_r1,f_r2,f_r3,f_r4,f_r5⟩:=S.cf6 0 rfl
  obtain⟨c_b0,c_b1,c_b2,c_b3,c_b4,c_b5,f_b0,f_b1,f_b2,f_b3,f_b4,f_b5⟩:=S.cf6 1 rfl
  obtain⟨c_a0,c_a1,c_a2,c_a3,c_a4,c_a5,f_a0,f_a1,f_a2,f_a3,f_a4,f_a5⟩:=S.cf6 2 rfl
  have hz:w.heap.size+1+1<w5.heap.size:=S.lt 0 rfl
  replace S:=Lib.hid S
  clear hC
  have S:St w _ [(w.heap.size+1+1,#[.bool false,.slice none 0 0,.slice none 0 0,.bool false,.slice none 0 0,.slice none 0 0],28),(w.heap.size+1,#[.bool (ng q7.num),.slice A13 n13 c13,.slice D13 m13 d13,.bool (ng q8.num),.slice A14 n14 c14,.slice D14 m14 d14],28),(w.heap.size,#[.bool (ng q5.num),.slice A11 n11 c11,.slice D11 m11 d11,.bool (ng q6.num),.slice A12 n12 c12,.slice D12 m12 d12],28)] [(D14,m14,d14,dn q8),(A14,n14,c14,limbs q8.num.natAbs),(D13,m13,d13,dn q7),(A13,n13,c13,limbs q7.num.natAbs),(D12,m12,d12,dn q6),(A12,n12,c12,limbs q6.num.natAbs),(D11,m11,d11,dn q5),(A11,n11,c11,limbs q5.num.natAbs),(D4,m4,d4,y4),(A4,n4,c4,x4),(D3,m3,d3,y3),(A3,n3,c3,x3),(D2,m2,d2,y2),(A2,n2,c2,x2),(D1,m1,d1,y1),(A1,n1,c1,x1)]:=((((((S.out.set 0 0 (.bool false) rfl (by nofun)).set 0 1 (.slice none 0 0) rfl (by nofun)).set 0 2 (.slice none 0 0) rfl (by nofun)).set 0 3 (.bool false) rfl (by nofun)).set 0 4 (.slice none 0 0) rfl (by nofun)).set 0 5 (.slice none 0 0) rfl (by nofun))
  replace S:=Lib.hid S
  go_wp2
  refine bodyPost_ret (res_rdivV _ _ (w.heap.size+1+1) 28 rfl rfl (S.out.bk _ (List.mem_of_getElem? (i:=0) rfl)).1) rfl ?_
  exact⟨_,_,_,_,_,_,_,_,_,_,_,_,rfl,zero_RR _ _ _ _ _,zero_RR _ _ _ _ _,S.out.bel⟩
set_option maxRecDepth 100000 in
set_option maxHeartbeats 8000000 in
theorem rdivV_yes (b1:Bool) (A1:Option Addr) (n1 c1:Nat) (x1:List Nat) (D1:Option Addr) (m1 d1:Nat) (y1:List Nat) (q1:Rat) (b2:Bool) (A2:Option Addr) (n2 c2:Nat) (x2:List Nat) (D2:Option Addr) (m2 d2:Nat) (y2:List Nat) (q2:Rat) (b3:Bool) (A3:Option Addr) (n3 c3:Nat) (x3:List Nat) (D3:Option Addr) (m3 d3:Nat) (y3:List Nat) (q3:Rat) (b4:Bool) (A4:Option Addr) (n4 c4:Nat) (x4:List Nat) (D4:Option Addr) (m4 d4:Nat) (y4:List Nat) (q4:Rat) (hz:¬ (klo q3 q4≤0∧0≤khi q3 q4)) (s1:Rs q1 19) (s2:Rs q2 19) (s3:Rs q3 19) (s4:Rs q4 19) (w:World) (X1:Rw w b1 A1 n1 c1 x1 D1 m1 d1 y1 q1) (X2:Rw w b2 A2 n2 c2 x2 D2 m2 d2 y2 q2) (X3:Rw w b3 A3 n3 c3 x3 D3 m3 d3 y3 q3) (X4:Rw w b4 A4 n4 c4 x4 D4 m4 d4 y4 q4):Calls Tryz.prog 17 #[.agg #[.bool b1,.slice A1 n1 c1,.slice D1 m1 d1,.bool b2,.slice A2 n2 c2,.slice D2 m2 d2],.agg #[.bool b3,.slice A3 n3 c3,.slice D3 m3 d3,.bool b4,.slice A4 n4 c4,.slice D4 m4 d4]] w (RetVE (minL [klo q1 q2 / klo q3 q4,klo q1 q2 / khi q3 q4,khi q1 q2 / klo q3 q4,khi q1 q2 / khi q3 q4]) (maxL [klo q1 q2 / klo q3 q4,klo q1 q2 / khi q3 q4,khi q1 q2 / klo q3 q4,khi q1 q2 / khi q3 q4]) (.int .i64 0) w):=by
 have hle:=kle q3 q4
 obtain⟨s5,s6⟩:=k_rsp s1 s2 (by decide)
 obtain⟨s7,s8⟩:=k_rsp s3 s4 (by decide)
 have hK1:=Lib.hid (fun W h1 h2=>rtakeV_any b1 A1 n1 c1 x1 D1 m1 d1 y1 q1 b2 A2 n2 c2 x2 D2 m2 d2 y2 q2 W h1 h2)
 have hK2:=Lib.hid (fun W h1 h2=>rtakeV_any b3 A3 n3 c3 x3 D3 m3 d3 y3 q3 b4 A4 n4 c4 x4 D4 m4 d4 y4 q4 W h1 h2)
 generalize klo q1 q2=q5 at *
 generalize khi q1 q2=q6 at *
 generalize klo q3 q4=q7 at *
 generalize khi q3 q4=q8 at *
 have hC:Hid (∀ W A n c D m d A' n' c' D' m' d',RR W A n c D m d q7→RR W A' n' c' D' m' d' q8→Calls Tryz.prog 38 #[.agg #[.bool (ng q7.num),.slice A n c,.slice D m d,.bool (ng q8.num),.slice A' n' c',.slice D' m' d'],.agg #[.bool false,.slice none 0 0,.slice none 0 0]] W fun e w'=>e=.returned (.bool false)∧Below W.heap.size W w'):=Lib.hid fun W A n c D m d A' n' c' D' m' d' h1 h2=>by
  have:=rcontains_any _ _ _ _ _ _ _ _ _ _ _ _ _ _ _ _ _ _ _ _ false none 0 0 [] none 0 0 [] 0 W (RR.w h1 (s7.mono (by decide))) (RR.w h2 (s8.mono (by decide))) (Rw.zero W)
  rwa [show klo q7 q8=q7 from if_neg (Rat.not_lt.2 hle),show khi q7 q8=q8 from if_neg (Rat.not_lt.2 hle),←Bool.decide_and,decide_eq_false hz] at this
 have ne7:q7≠0:=fun e=>hz ⟨by rw[e];exact Rat.le_refl,by rw[←e];exact hle⟩
 have ne8:q8≠0:=fun e=>hz ⟨by rw[←e];exact hle,by rw[e];exact Rat.le_refl⟩
 have hM0:Hid (∀ W A0 n0 c0 D0 m0 d0 A1 n1 c1 D1 m1 d1,RR W A0 n0 c0 D0 m0 d0 q5→RR W A1 n1 c1 D1 m1 d1 q7→Calls Tryz.prog 84 #[.agg #[.bool (ng q5.num),.slice A0 n0 c0,.slice D0 m0 d0],.agg #[.bool (ng q7.num),.slice A1 n1 c1,.slice D1 m1 d1]] W (RetR (q5 / q7) W)):=Lib.hid fun W A0 n0 c0 D0 m0 d0 A1 n1 c1 D1 m1 d1 X0 X1=>by
  have l0:=X0.lens s5
  have l1:=X1.lens s7
  have:=Fquo_any (ng q5.num) A0 n0 c0 _ D0 m0 d0 _ (ng q7.num) A1 n1 c1 _ D1 m1 d1 _ W X0.n X0.d X1.n X1.d (by omega) (by omega) (by omega) (by omega) (by rw[rv_z];exact ne7)
  rwa [rv_z,rv_z] at this
 have t0:Hid (Rs (q5 / q7) 40):=Lib.hid (by rw[div_eq];exact (s5.mul (s7.inv (by decide))).mono (by decide))
 have hM1:Hid (∀ W A0 n0 c0 D0 m0 d0 A1 n1 c1 D1 m1 d1,RR W A0 n0 c0 D0 m0 d0 q5→RR W A1 n1 c1 D1 m1 d1 q8→Calls Tryz.prog 84 #[.agg #[.bool (ng q5.num),.slice A0 n0 c0,.slice D0 m0 d0],.agg #[.bool (ng q8.num),.slice A1 n1 c1,.slice D1 m1 d1]] W (RetR (q5 / q8) W)):=Lib.hid fun W A0 n0 c0 D0 m0 d0 A1 n1 c1 D1 m1 d1 X0 X1=>by
  have l0:=X0.lens s5
  have l1:=X1.lens s8
  have:=Fquo_any (ng q5.num) A0 n0 c0 _ D0 m0 d0 _ (ng q8.num) A1 n1 c1 _ D1 m1 d1 _ W X0.n X0.d X1.n X1.d (by omega) (by omega) (by omega) (by omega) (by rw[rv_z];exact ne8)
  rwa [rv_z,rv_z] at this
 have t1:Hid (Rs (q5 / q8) 40):=Lib.hid (by rw[div_eq];exact (s5.mul (s8.inv (by decide))).mono (by decide))
 have hM2:Hid (∀ W A0 n0 c0 D0 m0 d0 A1 n1 c1 D1 m1 d1,RR W A0 n0 c0 D0 m0 d0 q6→RR W A1 n1 c1 D1 m1 d1 q7→Calls Tryz.prog 84 #[.agg #[.bool (ng q6.num),.slice A0 n0 c0,.slice D0 m0 d0],.agg #[.bool (ng q7.num),.slice A1 n1 c1,.slice D1 m1 d1]] W (RetR (q6 / q7) W)):=Lib.hid fun W A0 n0 c0 D0 m0 d0 A1 n1 c1 D1 m1 d1 X0 X1=>by
  have l0:=X0.lens s6
  have l1:=X1.lens s7
  have:=Fquo_any (ng q6.num) A0 n0 c0 _ D0 m0 d0 _ (ng q7.num) A1 n1 c1 _ D1 m1 d1 _ W X0.n X0.d X1.n X1.d (by omega) (by omega) (by omega) (by omega) (by rw[rv_z];exact ne7)
  rwa [rv_z,rv_z] at this
 have t2:Hid (Rs (q6 / q7) 40):=Lib.hid (by rw[div_eq];exact (s6.mul (s7.inv (by decide))).mono (by decide))
 have hM3:Hid (∀ W A0 n0 c0 D0 m0 d0 A1 n1 c1 D1 m1 d1,RR W A0 n0 c0 D0 m0 d0 q6→RR W A1 n1 c1 D1 m1 d1 q8→Calls Tryz.prog 84 #[.agg #[.bool (ng q6.num),.slice A0 n0 c0,.slice D0 m0 d0],.agg #[.bool (ng q8.num),.slice A1 n1 c1,.slice D1 m1 d1]] W (RetR (q6 / q8) W)):=Lib.hid fun W A0 n0 c0 D0 m0 d0 A1 n1 c1 D1 m1 d1 X0 X1=>by
  have l0:=X0.lens s6
  have l1:=X1.lens s8
  have:=Fquo_any (ng q6.num) A0 n0 c0 _ D0 m0 d0 _ (ng q8.num) A1 n1 c1 _ D1 m1 d1 _ W X0.n X0.d X1.n X1.d (by omega) (by omega) (by omega) (by omega) (by rw[rv_z];exact ne8)
  rwa [rv_z,rv_z] at this
 have t3:Hid (Rs (q6 / q8) 40):=Lib.hid (by rw[div_eq];exact (s6.mul (s8.inv (by decide))).mono (by decide))
 generalize q5 / q7=p0 at *
 generalize q5 / q8=p1 at *
 generalize q6 / q7=p2 at *
 generalize q6 / q8=p3 at *
 obtain⟨lo,hlo⟩:∃ lo,lo=minL [p0,p1,p2,p3]:=⟨_,rfl⟩
 obtain⟨hi,hhi⟩:∃ hi,hi=maxL [p0,p1,p2,p3]:=⟨_,rfl⟩
 rw[←hlo,←hhi]
 have hR:Hid (∀ W g A20 n20 c20 D20 m20 d20 A21 n21 c21 D21 m21 d21 A22 n22 c22 D22 m22 d22 A23 n23 c23 D23 m23 d23,Cb W g #[.bool (ng p0.num),.slice A20 n20 c20,.slice D20 m20 d20,.bool (ng p1.num),.slice A21 n21 c21,.slice D21 m21 d21,.bool (ng p2.num),.slice A22 n22 c22,.slice D22 m22 d22,.bool (ng p3.num),.slice A23 n23 c23,.slice D23 m23 d23] 26→Rw W (ng p0.num) A20 n20 c20 (limbs p0.num.natAbs) D20 m20 d20 (dn p0) p0→Rw W (ng p1.num) A21 n21 c21 (limbs p1.num.natAbs) D21 m21 d21 (dn p1) p1→Rw W (ng p2.num) A22 n22 c22 (limbs p2.num.natAbs) D22 m22 d22 (dn p2) p2→Rw W (ng p3.num) A23 n23 c23 (limbs p3.num.natAbs) D23 m23 d23 (dn p3) p3→Calls Tryz.prog 83 #[.slice (some ⟨g,0,none⟩) 4 4] W (RetV lo hi W)):=Lib.hid fun W g A20 n20 c20 D20 m20 d20 A21 n21 c21 D21 m21 d21 A22 n22 c22 D22 m22 d22 A23 n23 c23 D23 m23 d23 h h1 h2 h3 h4=>by
  rw[hlo,hhi];exact rhull4 _ _ _ _ _ _ _ _ _ _ _ _ _ _ _ _ _ _ _ _ _ _ _ _ _ _ _ _ _ _ _ _ _ _ _ _ _ _ _ _ W g _ h h1 h2 h3 h4
 clear hlo hhi
 clear ne7 ne8
 clear hz hle s1 s2 s3 s4 s5 s6 s7 s8
 have k1:=Lib.hid X1.k
 have k2:=Lib.hid X2.k
 have k3:=Lib.hid X3.k
 have k4:=Lib.hid X4.k
 have S:=((((((((((((St.new w).read X1.rn).read X1.rd).read X2.rn).read X2.rd).read X3.rn).read X3.rd).read X4.rn).read X4.rd).allocAt (w.heap.size) #[.bool b1,.slice A1 n1 c1,.slice D1 m1 d1,.bool b2,.slice A2 n2 c2,.slice D2 m2 d2] 28 (noL6 _ _ _ _ _ _ _ _ _ _ _ _ _ _) (by simp)).allocAt (w.heap.size+1) #[.bool b3,.slice A3 n3 c3,.slice D3 m3 d3,.bool b4,.slice A4 n4 c4,.slice D4 m4 d4] 28 (noL6 _ _ _ _ _ _ _ _ _ _ _ _ _ _) (by simp)).allocAt (w.heap.size+1+1) #[.bool false,.slice none 0 0,.slice none 0 0,.bool false,.slice none 0 0,.slice none 0 0] 28 (noL6 _ _ _ _ _ _ _ _ _ _ _ _ _ _) (by simp))
 replace S:=Lib.hid S
 clear X1 X2 X3 X4
 go_enter Tryz.func17,Tryz.ntmps17
 go_upto_region 1 with fail
 have S:=S.out
 generalize hW1:(World.alloc (World.alloc (World.alloc w (.cells #[.bool b1,.slice A1 n1 c1,.slice D1 m1 d1,.bool b2,.slice A2 n2 c2,.slice D2 m2 d2] 28)) (.cells #[.bool b3,.slice A3 n3 c3,.slice D3 m3 d3,.bool b4,.slice A4 n4 c4,.slice D4 m4 d4] 28)) (.cells #[.bool false,.slice none 0 0,.slice none 0 0,.bool false,.slice none 0 0,.slice none 0 0] 28))=w1 at S ⊢
 clear hW1
 replace S:=Lib.hid S
 have d_a0:=St.cl (S.out) 2 0 rfl rfl
 have d_a1:=St.cl (S.out) 2 1 rfl rfl
 have d_a2:=St.cl (S.out) 2 2 rfl rfl
 have d_a3:=St.cl (S.out) 2 3 rfl rfl
 have d_a4:=St.cl (S.out) 2 4 rfl rfl
 have d_a5:=St.cl (S.out) 2 5 rfl rfl
 have d_b0:=St.cl (S.out) 1 0 rfl rfl
 have d_b1:=St.cl (S.out) 1 1 rfl rfl
 have d_b2:=St.cl (S.out) 1 2 rfl rfl
 have d_b3:=St.cl (S.out) 1 3 rfl rfl
 have d_b4:=St.cl (S.out) 1 4 rfl rfl
 have d_b5:=St.cl (S.out) 1 5 rfl rfl
 have dz_a0:=St.f (S.out) 2 0 rfl
 have dz_a1:=St.f (S.out) 2 1 rfl
 have dz_a2:=St.f (S.out) 2 2 rfl
 have dz_a3:=St.f (S.out) 2 3 rfl
 have dz_a4:=St.f (S.out) 2 4 rfl
 have dz_a5:=St.f (S.out) 2 5 rfl
 have dz_b0:=St.f (S.out) 1 0 rfl
 have dz_b1:=St.f (S.out) 1 1 rfl
 have dz_b2:=St.f (S.out) 1 2 rfl
 have dz_b3:=St.f (S.out) 1 3 rfl
 have dz_b4:=St.f (S.out) 1 4 rfl
 have dz_b5:=St.f (S.out) 1 5 rfl
 go_cut [] (fun wx=>∃ A11 n11 c11 D11 m11 d11 A12 n12 c12 D12 m12 d12 A13 n13 c13 D13 m13 d13 A14 n14 c14 D14 m14 d14,St w wx [(w.heap.size+1+1,#[.bool false,.slice none 0 0,.slice none 0 0,.bool false,.slice none 0 0,.slice none 0 0],28),(w.heap.size+1,#[.bool (ng q7.num),.slice A13 n13 c13,.slice D13 m13 d13,.bool (ng q8.num),.slice A14 n14 c14,.slice D14 m14 d14],28),(w.heap.size,#[.bool (ng q5.num),.slice A11 n11 c11,.slice D11 m11 d11,.bool (ng q6.num),.slice A12 n12 c12,.slice D12 m12 d12],28)] [(D14,m14,d14,dn q8),(A14,n14,c14,limbs q8.num.natAbs),(D13,m13,d13,dn q7),(A13,n13,c13,limbs q7.num.natAbs),(D12,m12,d12,dn q6),(A12,n12,c12,limbs q6.num.natAbs),(D11,m11,d11,dn q5),(A11,n11,c11,limbs q5.num.natAbs),(D4,m4,d4,y4),(A4,n4,c4,x4),(D3,m3,d3,y3),(A3,n3,c3,x3),(D2,m2,d2,y2),(A2,n2,c2,x2),(D1,m1,d1,y1),(A1,n1,c1,x1)])
 case first=>
  have SD:=Lib.hid (S.out.drew)
  go_region_with (first
   | (go_at_call_of 82 (Value.agg #[.bool b1,.slice A1 n1 c1,.slice D1 m1 d1,.bool b2,.slice A2 n2 c2,.slice D2 m2 d2]);refine (hK1.out _ (Rw.of (SD.out.r 7 rfl) (SD.out.r 6 rfl) k1.out) (Rw.of (SD.out.r 5 rfl) (SD.out.r 4 rfl) k2.out)).mono ?_;rintro e w2 ⟨A11,n11,c11,D11,m11,d11,A12,n12,c12,D12,m12,d12,rfl,Q11,Q12,bb0⟩;have S0:St w w2 [(w.heap.size+1+1,#[.bool false,.slice none 0 0,.slice none 0 0,.bool false,.slice none 0 0,.slice none 0 0],28),(w.heap.size+1,#[.bool b3,.slice A3 n3 c3,.slice D3 m3 d3,.bool b4,.slice A4 n4 c4,.slice D4 m4 d4],28),(w.heap.size,#[.bool b1,.slice A1 n1 c1,.slice D1 m1 d1,.bool b2,.slice A2 n2 c2,.slice D2 m2 d2],28)] [(D12,m12,d12,dn q6),(A12,n12,c12,limbs q6.num.natAbs),(D11,m11,d11,dn q5),(A11,n11,c11,limbs q5.num.natAbs),(D4,m4,d4,y4),(A4,n4,c4,x4),(D3,m3,d3,y3),(A3,n3,c3,x3),(D2,m2,d2,y2),(A2,n2,c2,x2),(D1,m1,d1,y1),(A1,n1,c1,x1)]:=(((((SD.out.call bb0).read Q11.n).read Q11.d).read Q12.n).read Q12.d);have e0_b0:=St.cl (S0) 1 0 rfl rfl;have e0_b1:=St.cl (S0) 1 1 rfl rfl;have e0_b2:=St.cl (S0) 1 2 rfl rfl;have e0_b3:=St.cl (S0) 1 3 rfl rfl;have e0_b4:=St.cl (S0) 1 4 rfl rfl;have e0_b5:=St.cl (S0) 1 5 rfl rfl)
   | (go_at_call_of 82 (Value.agg #[.bool b3,.slice A3 n3 c3,.slice D3 m3 d3,.bool b4,.slice A4 n4 c4,.slice D4 m4 d4]);refine (hK2.out _ (Rw.of (S0.r 7 rfl) (S0.r 6 rfl) k3.out) (Rw.of (S0.r 5 rfl) (S0.r 4 rfl) k4.out)).mono ?_;rintro e w3 ⟨A13,n13,c13,D13,m13,d13,A14,n14,c14,D14,m14,d14,rfl,Q13,Q14,bb1⟩;have S1:St w w3 [(w.heap.size+1+1,#[.bool false,.slice none 0 0,.slice none 0 0,.bool false,.slice none 0 0,.slice none 0 0],28),(w.heap.size+1,#[.bool b3,.slice A3 n3 c3,.slice D3 m3 d3,.bool b4,.slice A4 n4 c4,.slice D4 m4 d4],28),(w.heap.size,#[.bool b1,.slice A1 n1 c1,.slice D1 m1 d1,.bool b2,.slice A2 n2 c2,.slice D2 m2 d2],28)] [(D14,m14,d14,dn q8),(A14,n14,c14,limbs q8.num.natAbs),(D13,m13,d13,dn q7),(A13,n13,c13,limbs q7.num.natAbs),(D12,m12,d12,dn q6),(A12,n12,c12,limbs q6.num.natAbs),(D11,m11,d11,dn q5),(A11,n11,c11,limbs q5.num.natAbs),(D4,m4,d4,y4),(A4,n4,c4,x4),(D3,m3,d3,y3),(A3,n3,c3,x3),(D2,m2,d2,y2),(A2,n2,c2,x2),(D1,m1,d1,y1),(A1,n1,c1,x1)]:=(((((S0.call bb1).read Q13.n).read Q13.d).read Q14.n).read Q14.d);have e1_a0:=St.cl (S1) 2 0 rfl rfl;have e1_a1:=St.cl (S1) 2 1 rfl rfl;have e1_a2:=St.cl (S1) 2 2 rfl rfl;have e1_a3:=St.cl (S1) 2 3 rfl rfl;have e1_a4:=St.cl (S1) 2 4 rfl rfl;have e1_a5:=St.cl (S1) 2 5 rfl rfl;have e1_b0:=St.cl (S1) 1 0 rfl rfl;have e1_b1:=St.cl (S1) 1 1 rfl rfl;have e1_b2:=St.cl (S1) 1 2 rfl rfl;have e1_b3:=St.cl (S1) 1 3 rfl rfl;have e1_b4:=St.cl (S1) 1 4 rfl rfl;have e1_b5:=St.cl (S1) 1 5 rfl rfl;have e1z_a0:=St.f (S1) 2 0 rfl;have e1z_a1:=St.f (S1) 2 1 rfl;have e1z_a2:=St.f (S1) 2 2 rfl;have e1z_a3:=St.f (S1) 2 3 rfl;have e1z_a4:=St.f (S1) 2 4 rfl;have e1z_a5:=St.f (S1) 2 5 rfl;have e1z_b0:=St.f (S1) 1 0 rfl;have e1z_b1:=St.f (S1) 1 1 rfl;have e1z_b2:=St.f (S1) 1 2 rfl;have e1z_b3:=St.f (S1) 1 3 rfl;have e1z_b4:=St.f (S1) 1 4 rfl;have e1z_b5:=St.f (S1) 1 5 rfl))
  all_goals
   have SE:=Lib.hid (((((((((((((S1.set 2 0 (.bool (ng q5.num)) rfl (by nofun)).set 2 1 (.slice A11 n11 c11) rfl (by nofun)).set 2 2 (.slice D11 m11 d11) rfl (by nofun)).set 2 3 (.bool (ng q6.num)) rfl (by nofun)).set 2 4 (.slice A12 n12 c12) rfl (by nofun)).set 2 5 (.slice D12 m12 d12) rfl (by nofun)).set 1 0 (.bool (ng q7.num)) rfl (by nofun)).set 1 1 (.slice A13 n13 c13) rfl (by nofun)).set 1 2 (.slice D13 m13 d13) rfl (by nofun)).set 1 3 (.bool (ng q8.num)) rfl (by nofun)).set 1 4 (.slice A14 n14 c14) rfl (by nofun)).set 1 5 (.slice D14 m14 d14) rfl (by nofun)))
   clear d_a0 d_a1 d_a2 d_a3 d_a4 d_a5 d_b0 d_b1 d_b2 d_b3 d_b4 d_b5 dz_a0 dz_a1 dz_a2 dz_a3 dz_a4 dz_a5 dz_b0 dz_b1 dz_b2 dz_b3 dz_b4 dz_b5 e0_b0 e0_b1 e0_b2 e0_b3 e0_b4 e0_b5 e1_a0 e1_a1 e1_a2 e1_a3 e1_a4 e1_a5 e1_b0 e1_b1 e1_b2 e1_b3 e1_b4 e1_b5 e1z_a0 e1z_a1 e1z_a2 e1z_a3 e1z_a4 e1z_a5 e1z_b0 e1z_b1 e1z_b2 e1z_b3 e1z_b4 e1z_b5
   go_wp2_with fail
   go_meet
   exact⟨_,_,_,_,_,_,_,_,_,_,_,_,_,_,_,_,_,_,_,_,_,_,_,_,SE.out⟩
 case rest=>
  clear d_a0 d_a1 d_a2 d_a3 d_a4 d_a5 d_b0 d_b1 d_b2 d_b3 d_b4 d_b5 dz_a0 dz_a1 dz_a2 dz_a3 dz_a4 dz_a5 dz_b0 dz_b1 dz_b2 dz_b3 dz_b4 dz_b5
  clear S
  obtain⟨A11,n11,c11,D11,m11,d11,A12,n12,c12,D12,m12,d12,A13,n13,c13,D13,m13,d13,A14,n14,c14,D14,m14,d14,S⟩:=hcut
  obtain⟨c_r0,c_r1,c_r2,c_r3,c_r4,c_r5,f_r0,f_r1,f_r2,f_r3,f_r4,f_r5⟩:=S.cf6 0 rfl
  obtain⟨c_b0,c_b1,c_b2,c_b3,c_b4,c_b5,f_b0,f_b1,f_b2,f_b3,f_b4,f_b5⟩:=S.cf6 1 rfl
  obtain⟨c_a0,c_a1,c_a2,c_a3,c_a4,c_a5,f_a0,f_a1,f_a2,f_a3,f_a4,f_a5⟩:=S.cf6 2 rfl
  have hz:w.heap.size+1+1<wc.heap.size:=S.lt 0 rfl
  replace S:=Lib.hid S
  clear hK1 hK2
  go_wp2_with fail
  refine (hC.out _ _ _ _ _ _ _ _ _ _ _ _ _ ⟨S.out.r 3 rfl,S.out.r 2 rfl⟩ ⟨S.out.r 1 rfl,S.out.r 0 rfl⟩).mono ?_
  rintro e w5 ⟨rfl,bb⟩
  have T:=(S.out.call bb)
  clear bb S c_r0 f_r0 c_r1 f_r1 c_r2 f_r2 c_r3 f_r3 c_r4 f_r4 c_r5 f_r5 c_b0 f_b0 c_b1 f_b1 c_b2 f_b2 c_b3 f_b3 c_b4 f_b4 c_b5 f_b5 c_a0 f_a0 c_a1 f_a1 c_a2 f_a2 c_a3 f_a3 c_a4 f_a4 c_a5 f_a5 hz
  have S:=T
  clear T
  obtain⟨c_r0,c_r1,c_r2,c_r3,c_r4,c_r5,f_r0,f_r1,f_r2,f_r3,f_r4,f_r5⟩:=S.cf6 0 rfl
  obtain⟨c_b0,c_b1,c_b2,c_b3,c_b4,c_b5,f_b0,f_b1,f_b2,f_b3,f_b4,f_b5⟩:=S.cf6 1 rfl
  obtain⟨c_a0,c_a1,c_a2,c_a3,c_a4,c_a5,f_a0,f_a1,f_a2,f_a3,f_a4,f_a5⟩:=S.cf6 2 rfl
  have hz:w.heap.size+1+1<w5.heap.size:=S.lt 0 rfl
  replace S:=Lib.hid S
  clear hC
  go_upto_region 4 with fail
  clear c_r0 f_r0 c_r1 f_r1 c_r2 f_r2 c_r3 f_r3 c_r4 f_r4 c_r5 f_r5 c_b0 f_b0 c_b1 f_b1 c_b2 f_b2 c_b3 f_b3 c_b4 f_b4 c_b5 f_b5 c_a0 f_a0 c_a1 f_a1 c_a2 f_a2 c_a3 f_a3 c_a4 f_a4 c_a5 f_a5 hz
  refine RW.begin (Z:=[]) (S:=(fun W=>Cb W (w.heap.size) #[.bool (ng q5.num),.slice A11 n11 c11,.slice D11 m11 d11,.bool (ng q6.num),.slice A12 n12 c12,.slice D12 m12 d12] 28∧Cb W (w.heap.size+1) #[.bool (ng q7.num),.slice A13 n13 c13,.slice D13 m13 d13,.bool (ng q8.num),.slice A14 n14 c14,.slice D14 m14 d14] 28)) (by kernel_rfl) ?_ S.out ?_
  ·exact⟨by kernel_rfl,zis_nil,by decide,by decide,nol_nil,(fun _ _ h=>⟨h.kb 2 rfl,h.kb 1 rfl⟩)⟩
  intro hzk
  clear S
  refine RW.t (i:=0) (v:=.pointer (some ⟨w.heap.size,0,none⟩)) (some 14) at0 (hy:=fun _ _=>by kernel_rfl) (h:=?_)
  refine RW.t (i:=1) (v:=.agg #[.bool (ng q5.num),.slice A11 n11 c11,.slice D11 m11 d11]) (some 15) at1 (hy:=fun W hS=>by (have k0:=Cb.cell (i:=0) hS.1 rfl;have k1:=Cb.cell (i:=1) hS.1 rfl;have k2:=Cb.cell (i:=2) hS.1 rfl;clear hS;go_simp)) (h:=?_)
  refine RW.t (i:=2) (v:=.pointer (some ⟨w.heap.size+1,0,none⟩)) (some 16) at2 (hy:=fun _ _=>by kernel_rfl) (h:=?_)
  refine RW.t (i:=3) (v:=.agg #[.bool (ng q7.num),.slice A13 n13 c13,.slice D13 m13 d13]) (some 17) at3 (hy:=fun W hS=>by (have k0:=Cb.cell (i:=0) hS.2 rfl;have k1:=Cb.cell (i:=1) hS.2 rfl;have k2:=Cb.cell (i:=2) hS.2 rfl;clear hS;go_simp)) (h:=?_)
  refine RW.t (i:=5) (v:=.pointer (some ⟨w.heap.size,0,none⟩)) (some 19) at5 (hy:=fun _ _=>by kernel_rfl) (h:=?_)
  refine RW.t (i:=6) (v:=.agg #[.bool (ng q5.num),.slice A11 n11 c11,.slice D11 m11 d11]) (some 20) at6 (hy:=fun W hS=>by (have k0:=Cb.cell (i:=0) hS.1 rfl;have k1:=Cb.cell (i:=1) hS.1 rfl;have k2:=Cb.cell (i:=2) hS.1 rfl;clear hS;go_simp)) (h:=?_)
  refine RW.t (i:=7) (v:=.pointer (some ⟨w.heap.size+1,3,none⟩)) (some 21) at7 (hy:=fun _ _=>by kernel_rfl) (h:=?_)
  refine RW.t (i:=8) (v:=.agg #[.bool (ng q8.num),.slice A14 n14 c14,.slice D14 m14 d14]) (some 22) at8 (hy:=fun W hS=>by (have k3:=Cb.cell (i:=3) hS.2 rfl;have k4:=Cb.cell (i:=4) hS.2 rfl;have k5:=Cb.cell (i:=5) hS.2 rfl;clear hS;go_simp)) (h:=?_)
  refine RW.t (i:=10) (v:=.pointer (some ⟨w.heap.size,3,none⟩)) (some 24) at10 (hy:=fun _ _=>by kernel_rfl) (h:=?_)
  refine RW.t (i:=11) (v:=.agg #[.bool (ng q6.num),.slice A12 n12 c12,.slice D12 m12 d12]) (some 25) at11 (hy:=fun W hS=>by (have k3:=Cb.cell (i:=3) hS.1 rfl;have k4:=Cb.cell (i:=4) hS.1 rfl;have k5:=Cb.cell (i:=5) hS.1 rfl;clear hS;go_simp)) (h:=?_)
  refine RW.t (i:=12) (v:=.pointer (some ⟨w.heap.size+1,0,none⟩)) (some 26) at12 (hy:=fun _ _=>by kernel_rfl) (h:=?_)
  refine RW.t (i:=13) (v:=.agg #[.bool (ng q7.num),.slice A13 n13 c13,.slice D13 m13 d13]) (some 27) at13 (hy:=fun W hS=>by (have k0:=Cb.cell (i:=0) hS.2 rfl;have k1:=Cb.cell (i:=1) hS.2 rfl;have k2:=Cb.cell (i:=2) hS.2 rfl;clear hS;go_simp)) (h:=?_)
  refine RW.t (i:=15) (v:=.pointer (some ⟨w.heap.size,3,none⟩)) (some 29) at15 (hy:=fun _ _=>by kernel_rfl) (h:=?_)
  refine RW.t (i:=16) (v:=.agg #[.bool (ng q6.num),.slice A12 n12 c12,.slice D12 m12 d12]) (some 30) at16 (hy:=fun W hS=>by (have k3:=Cb.cell (i:=3) hS.1 rfl;have k4:=Cb.cell (i:=4) hS.1 rfl;have k5:=Cb.cell (i:=5) hS.1 rfl;clear hS;go_simp)) (h:=?_)
  refine RW.t (i:=17) (v:=.pointer (some ⟨w.heap.size+1,3,none⟩)) (some 31) at17 (hy:=fun _ _=>by kernel_rfl) (h:=?_)
  refine RW.t (i:=18) (v:=.agg #[.bool (ng q8.num),.slice A14 n14 c14,.slice D14 m14 d14]) (some 32) at18 (hy:=fun W hS=>by (have k3:=Cb.cell (i:=3) hS.2 rfl;have k4:=Cb.cell (i:=4) hS.2 rfl;have k5:=Cb.cell (i:=5) hS.2 rfl;clear hS;go_simp)) (h:=?_)
  refine RW.c (i:=4) (args:=#[.agg #[.bool (ng q5.num),.slice A11 n11 c11,.slice D11 m11 d11],.agg #[.bool (ng q7.num),.slice A13 n13 c13,.slice D13 m13 d13]]) (some 18) hzk.out at4 (hx:=fun _=>by kernel_rfl) (h:=fun _ S=>(hM0.out _ _ _ _ _ _ _ _ _ _ _ _ _ ⟨S.r 7 rfl,S.r 6 rfl⟩ ⟨S.r 3 rfl,S.r 2 rfl⟩).mono ?_)
  rintro e w6 ⟨A20,n20,c20,D20,m20,d20,rfl,Q20,bb⟩
  refine⟨bb,_,[(D20,m20,d20,dn p0),(A20,n20,c20,limbs p0.num.natAbs)],rfl,(rd_cons Q20.d (rd_cons Q20.n rd_nil)),?_⟩
  clear bb S Q20
  refine RW.c (i:=9) (args:=#[.agg #[.bool (ng q5.num),.slice A11 n11 c11,.slice D11 m11 d11],.agg #[.bool (ng q8.num),.slice A14 n14 c14,.slice D14 m14 d14]]) (some 23) hzk.out at9 (hx:=fun _=>by kernel_rfl) (h:=fun _ S=>(hM1.out _ _ _ _ _ _ _ _ _ _ _ _ _ ⟨S.r 9 rfl,S.r 8 rfl⟩ ⟨S.r 3 rfl,S.r 2 rfl⟩).mono ?_)
  rintro e w7 ⟨A21,n21,c21,D21,m21,d21,rfl,Q21,bb⟩
  refine⟨bb,_,[(D21,m21,d21,dn p1),(A21,n21,c21,limbs p1.num.natAbs)],rfl,(rd_cons Q21.d (rd_cons Q21.n rd_nil)),?_⟩
  clear bb S Q21
  refine RW.c (i:=14) (args:=#[.agg #[.bool (ng q6.num),.slice A12 n12 c12,.slice D12 m12 d12],.agg #[.bool (ng q7.num),.slice A13 n13 c13,.slice D13 m13 d13]]) (some 28) hzk.out at14 (hx:=fun _=>by kernel_rfl) (h:=fun _ S=>(hM2.out _ _ _ _ _ _ _ _ _ _ _ _ _ ⟨S.r 9 rfl,S.r 8 rfl⟩ ⟨S.r 7 rfl,S.r 6 rfl⟩).mono ?_)
  rintro e w8 ⟨A22,n22,c22,D22,m22,d22,rfl,Q22,bb⟩
  refine⟨bb,_,[(D22,m22,d22,dn p2),(A22,n22,c22,limbs p2.num.natAbs)],rfl,(rd_cons Q22.d (rd_cons Q22.n rd_nil)),?_⟩
  clear bb S Q22
  refine RW.c (i:=19) (args:=#[.agg #[.bool (ng q6.num),.slice A12 n12 c12,.slice D12 m12 d12],.agg #[.bool (ng q8.num),.slice A14 n14 c14,.slice D14 m14 d14]]) (some 33) hzk.out at19 (hx:=fun _=>by kernel_rfl) (h:=fun _ S=>(hM3.out _ _ _ _ _ _ _ _ _ _ _ _ _ ⟨S.r 11 rfl,S.r 10 rfl⟩ ⟨S.r 7 rfl,S.r 6 rfl⟩).mono ?_)
  rintro e w9 ⟨A23,n23,c23,D23,m23,d23,rfl,Q23,bb⟩
  refine⟨bb,_,[(D23,m23,d23,dn p3),(A23,n23,c23,limbs p3.num.natAbs)],rfl,(rd_cons Q23.d (rd_cons Q23.n rd_nil)),?_⟩
  clear bb S Q23
  refine RW.blk (i:=20) (cs:=#[.bool (ng p0.num),.slice A20 n20 c20,.slice D20 m20 d20,.bool (ng p1.num),.slice A21 n21 c21,.slice D21 m21 d21,.bool (ng p2.num),.slice A22 n22 c22,.slice D22 m22 d22,.bool (ng p3.num),.slice A23 n23 c23,.slice D23 m23 d23]) (t:=26) (k:=4) (some 34) hzk.out at20 rfl (by kernel_rfl) (by kernel_rfl) (fun _=>by kernel_rfl) (noL12 _ _ _ _ _ _ _ _ _ _ _ _ _ _ _ _ _ _ _ _ _ _ _ _ _ _ _ _) ?_
  clear hzk
  intro g_L20 hzk
  refine RW.c (i:=21) (args:=#[.slice (some ⟨g_L20,0,none⟩) 4 4]) (some 35) hzk.out at21 (hx:=fun _=>by kernel_rfl) (h:=fun _ S=>(hR.out _ _ _ _ _ _ _ _ _ _ _ _ _ _ _ _ _ _ _ _ _ _ _ _ _ _ (S.cb 0 rfl) (RR.w ⟨S.r 7 rfl,S.r 6 rfl⟩ (t0.out)) (RR.w ⟨S.r 5 rfl,S.r 4 rfl⟩ (t1.out)) (RR.w ⟨S.r 3 rfl,S.r 2 rfl⟩ (t2.out)) (RR.w ⟨S.r 1 rfl,S.r 0 rfl⟩ (t3.out))).mono ?_)
  rintro e w10 ⟨A31,n31,c31,D31,m31,d31,A32,n32,c32,D32,m32,d32,rfl,Q31,Q32,bb⟩
  refine⟨bb,_,[(D32,m32,d32,dn hi),(A32,n32,c32,limbs hi.num.natAbs),(D31,m31,d31,dn lo),(A31,n31,c31,limbs lo.num.natAbs)],rfl,(rd_cons Q32.d (rd_cons Q32.n (rd_cons Q31.d (rd_cons Q31.n rd_nil)))),?_⟩
  clear bb S Q31 Q32
  refine RW.tail hzk.out (by kernel_rfl) ?_
  intro gs w11 hgs hS S
  obtain rfl:=len0 hgs
  clear hS hgs hzk
  simp only[mark,fill,Act.put,List.setIfInBounds_toArray,List.set_cons_zero,List.set_cons_succ]
  replace S:=Lib.hid S
  refine Wk.o (i:=22) at22 (by kernel_rfl) fun K' hK=>?_
  have q22_r0:=St.cl (S.out) 1 0 rfl rfl
  have q22_r1:=St.cl (S.out) 1 1 rfl rfl
  have q22_r2:=St.cl (S.out) 1 2 rfl rfl
  have q22_r3:=St.cl (S.out) 1 3 rfl rfl
  have q22_r4:=St.cl (S.out) 1 4 rfl rfl
  have q22_r5:=St.cl (S.out) 1 5 rfl rfl
  have q22z_r0:=St.f (S.out) 1 0 rfl
  have q22z_r1:=St.f (S.out) 1 1 rfl
  have q22z_r2:=St.f (S.out) 1 2 rfl
  have q22z_r3:=St.f (S.out) 1 3 rfl
  have q22z_r4:=St.f (S.out) 1 4 rfl
  have q22z_r5:=St.f (S.out) 1 5 rfl
  go_simp
  have SN:=((((((S.out.set 1 0 (.bool (ng lo.num)) rfl (by nofun)).set 1 1 (.slice A31 n31 c31) rfl (by nofun)).set 1 2 (.slice D31 m31 d31) rfl (by nofun)).set 1 3 (.bool (ng hi.num)) rfl (by nofun)).set 1 4 (.slice A32 n32 c32) rfl (by nofun)).set 1 5 (.slice D32 m32 d32) rfl (by nofun))
  clear S q22_r0 q22_r1 q22_r2 q22_r3 q22_r4 q22_r5 q22z_r0 q22z_r1 q22z_r2 q22z_r3 q22z_r4 q22z_r5
  have S:=SN
  clear SN
  refine hK.out _ _ ⟨(S.cb 3 rfl),(S.cb 2 rfl)⟩ ?_
  clear hK K'
  replace S:=Lib.hid S
  try simp only[Act.put,List.setIfInBounds_toArray,List.set_cons_zero,List.set_cons_succ]
  refine Wk.o (i:=23) at23 (by kernel_rfl) fun K' hK=>?_
  go_simp
  have SN:=S.out
  clear S
  have S:=SN
  clear SN
  refine hK.out _ _ ⟨(S.cb 3 rfl),(S.cb 2 rfl)⟩ ?_
  clear hK K'
  replace S:=Lib.hid S
  try simp only[Act.put,List.setIfInBounds_toArray,List.set_cons_zero,List.set_cons_succ]
  refine Wk.done (by kernel_rfl) ?_
  go_simp
  replace S:=S.out
  have S:St w _ [(g_L20,#[.bool (ng p0.num),.slice A20 n20 c20,.slice D20 m20 d20,.bool (ng p1.num),.slice A21 n21 c21,.slice D21 m21 d21,.bool (ng p2.num),.slice A22 n22 c22,.slice D22 m22 d22,.bool (ng p3.num),.slice A23 n23 c23,.slice D23 m23 d23],26),(w.heap.size+1+1,#[.bool (ng lo.num),.slice A31 n31 c31,.slice D31 m31 d31,.bool (ng hi.num),.slice A32 n32 c32,.slice D32 m32 d32],28),(w.heap.size+1,#[.bool (ng q7.num),.slice A13 n13 c13,.slice D13 m13 d13,.bool (ng q8.num),.slice A14 n14 c14,.slice D14 m14 d14],28),(w.heap.size,#[.bool (ng q5.num),.slice A11 n11 c11,.slice D11 m11 d11,.bool (ng q6.num),.slice A12 n12 c12,.slice D12 m12 d12],28)] [(D32,m32,d32,dn hi),(A32,n32,c32,limbs hi.num.natAbs),(D31,m31,d31,dn lo),(A31,n31,c31,limbs lo.num.natAbs),(D23,m23,d23,dn p3),(A23,n23,c23,limbs p3.num.natAbs),(D22,m22,d22,dn p2),(A22,n22,c22,limbs p2.num.natAbs),(D21,m21,d21,dn p1),(A21,n21,c21,limbs p1.num.natAbs),(D20,m20,d20,dn p0),(A20,n20,c20,limbs p0.num.natAbs),(D14,m14,d14,dn q8),(A14,n14,c14,limbs q8.num.natAbs),(D13,m13,d13,dn q7),(A13,n13,c13,limbs q7.num.natAbs),(D12,m12,d12,dn q6),(A12,n12,c12,limbs q6.num.natAbs),(D11,m11,d11,dn q5),(A11,n11,c11,limbs q5.num.natAbs),(D4,m4,d4,y4),(A4,n4,c4,x4),(D3,m3,d3,y3),(A3,n3,c3,x3),(D2,m2,d2,y2),(A2,n2,c2,x2),(D1,m1,d1,y1),(A1,n1,c1,x1)]:=S
  generalize hW12:(World.setCell (World.setCell (World.setCell (World.setCell (World.setCell (World.setCell w11 ⟨w.heap.size+1+1,0,none⟩ (.bool (ng lo.num))) ⟨w.heap.size+1+1,1,none⟩ (.slice A31 n31 c31)) ⟨w.heap.size+1+1,2,none⟩ (.slice D31 m31 d31)) ⟨w.heap.size+1+1,3,none⟩ (.bool (ng hi.num))) ⟨w.heap.size+1+1,4,none⟩ (.slice A32 n32 c32)) ⟨w.heap.size+1+1,5,none⟩ (.slice D32 m32 d32))=w12 at S ⊢
  clear hW12
  replace S:=Lib.hid S
  replace S:=S.out
  obtain⟨c_L200,c_L201,c_L202,c_L203,c_L204,c_L205,c_L206,c_L207,c_L208,c_L209,c_L2010,c_L2011,f_L200,f_L201,f_L202,f_L203,f_L204,f_L205,f_L206,f_L207,f_L208,f_L209,f_L2010,f_L2011⟩:=S.cf12 0 rfl
  obtain⟨c_r0,c_r1,c_r2,c_r3,c_r4,c_r5,f_r0,f_r1,f_r2,f_r3,f_r4,f_r5⟩:=S.cf6 1 rfl
  obtain⟨c_b0,c_b1,c_b2,c_b3,c_b4,c_b5,f_b0,f_b1,f_b2,f_b3,f_b4,f_b5⟩:=S.cf6 2 rfl
  obtain⟨c_a0,c_a1,c_a2,c_a3,c_a4,c_a5,f_a0,f_a1,f_a2,f_a3,f_a4,f_a5⟩:=S.cf6 3 rfl
  have hz:g_L20<w12.heap.size:=S.lt 0 rfl
  replace S:=Lib.hid S
  have S:=S.out
  replace S:=Lib.hid S
  go_wp2
  refine bodyPost_ret (res_rdivV _ _ (w.heap.size+1+1) 28 rfl rfl (S.out.bk _ (List.mem_of_getElem? (i:=1) rfl)).1) rfl ?_
  exact⟨_,_,_,_,_,_,_,_,_,_,_,_,rfl,⟨S.out.r 3 rfl,S.out.r 2 rfl⟩,⟨S.out.r 1 rfl,S.out.r 0 rfl⟩,S.out.bel⟩
end Go.Proofs.YtphckmdnflbloaaGreat
