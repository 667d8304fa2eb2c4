/- The reference's Hull. The reference's Meet. The reference's Root. -/
import Derived.Test.YtphckmdnflbloaaGreatV1
import Derived.Test.YtphckmdnflbloaaGreatV5
import Derived.Test.YtphckmdnflbloaaGreatWx
namespace Go.Proofs.YtphckmdnflbloaaGreat
open Go.RowKit RQ
theorem res_rhullV (W:World) (tmps:Array Value) (g t:Nat) {v0 v1 v2 v3 v4 v5:Value} (ht:tmps.getD 4 undef=.pointer (some ⟨g,0,none⟩)) (h:Cb W g #[v0,v1,v2,v3,v4,v5] t) :
  (results Tryz.f33 tmps).run Tryz.prog W=.ok (.agg #[v0,v1,v2,v3,v4,v5]) W:=by
 have c0:W.cell? ⟨g,0,none⟩=some v0:=h.cell rfl
 have c1:W.cell? ⟨g,1,none⟩=some v1:=h.cell rfl
 have c2:W.cell? ⟨g,2,none⟩=some v2:=h.cell rfl
 have c3:W.cell? ⟨g,3,none⟩=some v3:=h.cell rfl
 have c4:W.cell? ⟨g,4,none⟩=some v4:=h.cell rfl
 have c5:W.cell? ⟨g,5,none⟩=some v5:=h.cell rfl
 have ht':tmps[4]?.getD undef=.pointer (some ⟨g,0,none⟩):=by rw[←ht];simp[Array.getD_eq_getD_getElem?]
 simp[results,Tryz.results33,go_sem,ht',c0,c1,c2,c3,c4,c5]
set_option maxRecDepth 100000 in
set_option maxHeartbeats 8000000 in
theorem rhullV_any (b1:Bool) (A1:Option Addr) (n1 c1:Nat) (x1:List Nat) (D1:Option Addr) (m1 d1:Nat) (y1:List Nat) (q1:Rat) (b2:Bool) (A2:Option Addr) (n2 c2:Nat) (x2:List Nat) (D2:Option Addr) (m2 d2:Nat) (y2:List Nat) (q2:Rat) (b3:Bool) (A3:Option Addr) (n3 c3:Nat) (x3:List Nat) (D3:Option Addr) (m3 d3:Nat) (y3:List Nat) (q3:Rat) (b4:Bool) (A4:Option Addr) (n4 c4:Nat) (x4:List Nat) (D4:Option Addr) (m4 d4:Nat) (y4:List Nat) (q4:Rat) (s1:Rs q1 19) (s2:Rs q2 19) (s3:Rs q3 19) (s4:Rs q4 19) (w:World) (X1:Rw w b1 A1 n1 c1 x1 D1 m1 d1 y1 q1) (X2:Rw w b2 A2 n2 c2 x2 D2 m2 d2 y2 q2) (X3:Rw w b3 A3 n3 c3 x3 D3 m3 d3 y3 q3) (X4:Rw w b4 A4 n4 c4 x4 D4 m4 d4 y4 q4):Calls Tryz.prog 33 #[.agg #[.bool b1,.slice A1 n1 c1,.slice D1 m1 d1,.bool b2,.slice A2 n2 c2,.slice D2 m2 d2],.agg #[.bool b3,.slice A3 n3 c3,.slice D3 m3 d3,.bool b4,.slice A4 n4 c4,.slice D4 m4 d4]] w (RetV (minL [klo q1 q2,khi q1 q2,klo q3 q4,khi q3 q4]) (maxL [klo q1 q2,khi q1 q2,klo q3 q4,khi q3 q4]) w):=by
 obtain⟨s5,s6⟩:=k_rsp s1 s2 (by decide)
 obtain⟨s7,s8⟩:=k_rsp s3 s4 (by decide)
 have hK1:=Lib.hid (fun W h1 h2=>rtakeV_any b1 A1 n1 c1 x1 D1 m1 d1 y1 q1 b2 A2 n2 c2 x2 D2 m2 d2 y2 q2 W h1 h2)
 have hK2:=Lib.hid (fun W h1 h2=>rtakeV_any b3 A3 n3 c3 x3 D3 m3 d3 y3 q3 b4 A4 n4 c4 x4 D4 m4 d4 y4 q4 W h1 h2)
 generalize klo q1 q2=q5 at *
 generalize khi q1 q2=q6 at *
 generalize klo q3 q4=q7 at *
 generalize khi q3 q4=q8 at *
 have t5:Hid (Rs q5 40):=Lib.hid (s5.mono (by decide))
 have t6:Hid (Rs q6 40):=Lib.hid (s6.mono (by decide))
 have t7:Hid (Rs q7 40):=Lib.hid (s7.mono (by decide))
 have t8:Hid (Rs q8 40):=Lib.hid (s8.mono (by decide))
 obtain⟨lo,hlo⟩:∃ lo,lo=minL [q5,q6,q7,q8]:=⟨_,rfl⟩
 obtain⟨hi,hhi⟩:∃ hi,hi=maxL [q5,q6,q7,q8]:=⟨_,rfl⟩
 rw[←hlo,←hhi]
 have hR:Hid (∀ W g A11 n11 c11 D11 m11 d11 A12 n12 c12 D12 m12 d12 A13 n13 c13 D13 m13 d13 A14 n14 c14 D14 m14 d14,Cb W g #[.bool (ng q5.num),.slice A11 n11 c11,.slice D11 m11 d11,.bool (ng q6.num),.slice A12 n12 c12,.slice D12 m12 d12,.bool (ng q7.num),.slice A13 n13 c13,.slice D13 m13 d13,.bool (ng q8.num),.slice A14 n14 c14,.slice D14 m14 d14] 26→Rw W (ng q5.num) A11 n11 c11 (limbs q5.num.natAbs) D11 m11 d11 (dn q5) q5→Rw W (ng q6.num) A12 n12 c12 (limbs q6.num.natAbs) D12 m12 d12 (dn q6) q6→Rw W (ng q7.num) A13 n13 c13 (limbs q7.num.natAbs) D13 m13 d13 (dn q7) q7→Rw W (ng q8.num) A14 n14 c14 (limbs q8.num.natAbs) D14 m14 d14 (dn q8) q8→Calls Tryz.prog 83 #[.slice (some ⟨g,0,none⟩) 4 4] W (RetV lo hi W)):=Lib.hid fun W g A11 n11 c11 D11 m11 d11 A12 n12 c12 D12 m12 d12 A13 n13 c13 D13 m13 d13 A14 n14 c14 D14 m14 d14 h h1 h2 h3 h4=>by
  rw[hlo,hhi];exact rhull4 _ _ _ _ _ _ _ _ _ _ _ _ _ _ _ _ _ _ _ _ _ _ _ _ _ _ _ _ _ _ _ _ _ _ _ _ _ _ _ _ W g _ h h1 h2 h3 h4
 clear hlo hhi s1 s2 s3 s4 s5 s6 s7 s8
 have k1:=Lib.hid X1.k
 have k2:=Lib.hid X2.k
 have k3:=Lib.hid X3.k
 have k4:=Lib.hid X4.k
 have S:=((((((((((((St.new w).read X1.rn).read X1.rd).read X2.rn).read X2.rd).read X3.rn).read X3.rd).read X4.rn).read X4.rd).allocAt (w.heap.size) #[.bool b1,.slice A1 n1 c1,.slice D1 m1 d1,.bool b2,.slice A2 n2 c2,.slice D2 m2 d2] 28 (noL6 _ _ _ _ _ _ _ _ _ _ _ _ _ _) (by simp)).allocAt (w.heap.size+1) #[.bool b3,.slice A3 n3 c3,.slice D3 m3 d3,.bool b4,.slice A4 n4 c4,.slice D4 m4 d4] 28 (noL6 _ _ _ _ _ _ _ _ _ _ _ _ _ _) (by simp)).allocAt (w.heap.size+1+1) #[.bool false,.slice none 0 0,.slice none 0 0,.bool false,.slice none 0 0,.slice none 0 0] 28 (noL6 _ _ _ _ _ _ _ _ _ _ _ _ _ _) (by simp))
 replace S:=Lib.hid S
 clear X1 X2 X3 X4
 go_enter Tryz.func33,Tryz.ntmps33
 go_upto_region 1 with fail
 have S:=S.out
 generalize hW1:(World.alloc (World.alloc (World.alloc w (.cells #[.bool b1,.slice A1 n1 c1,.slice D1 m1 d1,.bool b2,.slice A2 n2 c2,.slice D2 m2 d2] 28)) (.cells #[.bool b3,.slice A3 n3 c3,.slice D3 m3 d3,.bool b4,.slice A4 n4 c4,.slice D4 m4 d4] 28)) (.cells #[.bool false,.slice none 0 0,.slice none 0 0,.bool false,.slice none 0 0,.slice none 0 0] 28))=w1 at S ⊢
 clear hW1
 replace S:=Lib.hid S
 have d_a0:=St.cl (S.out) 2 0 rfl rfl
 have d_a1:=St.cl (S.out) 2 1 rfl rfl
 have d_a2:=St.cl (S.out) 2 2 rfl rfl
 have d_a3:=St.cl (S.out) 2 3 rfl rfl
 have d_a4:=St.cl (S.out) 2 4 rfl rfl
 have d_a5:=St.cl (S.out) 2 5 rfl rfl
 have d_b0:=St.cl (S.out) 1 0 rfl rfl
 have d_b1:=St.cl (S.out) 1 1 rfl rfl
 have d_b2:=St.cl (S.out) 1 2 rfl rfl
 have d_b3:=St.cl (S.out) 1 3 rfl rfl
 have d_b4:=St.cl (S.out) 1 4 rfl rfl
 have d_b5:=St.cl (S.out) 1 5 rfl rfl
 have dz_a0:=St.f (S.out) 2 0 rfl
 have dz_a1:=St.f (S.out) 2 1 rfl
 have dz_a2:=St.f (S.out) 2 2 rfl
 have dz_a3:=St.f (S.out) 2 3 rfl
 have dz_a4:=St.f (S.out) 2 4 rfl
 have dz_a5:=St.f (S.out) 2 5 rfl
 have dz_b0:=St.f (S.out) 1 0 rfl
 have dz_b1:=St.f (S.out) 1 1 rfl
 have dz_b2:=St.f (S.out) 1 2 rfl
 have dz_b3:=St.f (S.out) 1 3 rfl
 have dz_b4:=St.f (S.out) 1 4 rfl
 have dz_b5:=St.f (S.out) 1 5 rfl
 go_cut [] (fun wx=>∃ A11 n11 c11 D11 m11 d11 A12 n12 c12 D12 m12 d12 A13 n13 c13 D13 m13 d13 A14 n14 c14 D14 m14 d14,St w wx [(w.heap.size+1+1,#[.bool false,.slice none 0 0,.slice none 0 0,.bool false,.slice none 0 0,.slice none 0 0],28),(w.heap.size+1,#[.bool (ng q7.num),.slice A13 n13 c13,.slice D13 m13 d13,.bool (ng q8.num),.slice A14 n14 c14,.slice D14 m14 d14],28),(w.heap.size,#[.bool (ng q5.num),.slice A11 n11 c11,.slice D11 m11 d11,.bool (ng q6.num),.slice A12 n12 c12,.slice D12 m12 d12],28)] [(D14,m14,d14,dn q8),(A14,n14,c14,limbs q8.num.natAbs),(D13,m13,d13,dn q7),(A13,n13,c13,limbs q7.num.natAbs),(D12,m12,d12,dn q6),(A12,n12,c12,limbs q6.num.natAbs),(D11,m11,d11,dn q5),(A11,n11,c11,limbs q5.num.natAbs),(D4,m4,d4,y4),(A4,n4,c4,x4),(D3,m3,d3,y3),(A3,n3,c3,x3),(D2,m2,d2,y2),(A2,n2,c2,x2),(D1,m1,d1,y1),(A1,n1,c1,x1)])
 case first=>
  have SD:=Lib.hid (S.out.drew)
  go_region_with (first
   | (go_at_call_of 82 (Value.agg #[.bool b1,.slice A1 n1 c1,.slice D1 m1 d1,.bool b2,.slice A2 n2 c2,.slice D2 m2 d2]);refine (hK1.out _ (Rw.of (SD.out.r 7 rfl) (SD.out.r 6 rfl) k1.out) (Rw.of (SD.out.r 5 rfl) (SD.out.r 4 rfl) k2.out)).mono ?_;rintro e w2 ⟨A11,n11,c11,D11,m11,d11,A12,n12,c12,D12,m12,d12,rfl,Q11,Q12,bb0⟩;have S0:St w w2 [(w.heap.size+1+1,#[.bool false,.slice none 0 0,.slice none 0 0,.bool false,.slice none 0 0,.slice none 0 0],28),(w.heap.size+1,#[.bool b3,.slice A3 n3 c3,.slice D3 m3 d3,.bool b4,.slice A4 n4 c4,.slice D4 m4 d4],28),(w.heap.size,#[.bool b1,.slice A1 n1 c1,.slice D1 m1 d1,.bool b2,.slice A2 n2 c2,.slice D2 m2 d2],28)] [(D12,m12,d12,dn q6),(A12,n12,c12,limbs q6.num.natAbs),(D11,m11,d11,dn q5),(A11,n11,c11,limbs q5.num.natAbs),(D4,m4,d4,y4),(A4,n4,c4,x4),(D3,m3,d3,y3),(A3,n3,c3,x3),(D2,m2,d2,y2),(A2,n2,c2,x2),(D1,m1,d1,y1),(A1,n1,c1,x1)]:=(((((SD.out.call bb0).read Q11.n).read Q11.d).read Q12.n).read Q12.d);have e0_b0:=St.cl (S0) 1 0 rfl rfl;have e0_b1:=St.cl (S0) 1 1 rfl rfl;have e0_b2:=St.cl (S0) 1 2 rfl rfl;have e0_b3:=St.cl (S0) 1 3 rfl rfl;have e0_b4:=St.cl (S0) 1 4 rfl rfl;have e0_b5:=St.cl (S0) 1 5 rfl rfl)
   | (go_at_call_of 82 (Value.agg #[.bool b3,.slice A3 n3 c3,.slice D3 m3 d3,.bool b4,.slice A4 n4 c4,.slice D4 m4 d4]);refine (hK2.out _ (Rw.of (S0.r 7 rfl) (S0.r 6 rfl) k3.out) (Rw.of (S0.r 5 rfl) (S0.r 4 rfl) k4.out)).mono ?_;rintro e w3 ⟨A13,n13,c13,D13,m13,d13,A14,n14,c14,D14,m14,d14,rfl,Q13,Q14,bb1⟩;have S1:St w w3 [(w.heap.size+1+1,#[.bool false,.slice none 0 0,.slice none 0 0,.bool false,.slice none 0 0,.slice none 0 0],28),(w.heap.size+1,#[.bool b3,.slice A3 n3 c3,.slice D3 m3 d3,.bool b4,.slice A4 n4 c4,.slice D4 m4 d4],28),(w.heap.size,#[.bool b1,.slice A1 n1 c1,.slice D1 m1 d1,.bool b2,.slice A2 n2 c2,.slice D2 m2 d2],28)] [(D14,m14,d14,dn q8),(A14,n14,c14,limbs q8.num.natAbs),(D13,m13,d13,dn q7),(A13,n13,c13,limbs q7.num.natAbs),(D12,m12,d12,dn q6),(A12,n12,c12,limbs q6.num.natAbs),(D11,m11,d11,dn q5),(A11,n11,c11,limbs q5.num.natAbs),(D4,m4,d4,y4),(A4,n4,c4,x4),(D3,m3,d3,y3),(A3,n3,c3,x3),(D2,m2,d2,y2),(A2,n2,c2,x2),(D1,m1,d1,y1),(A1,n1,c1,x1)]:=(((((S0.call bb1).read Q13.n).read Q13.d).read Q14.n).read Q14.d);have e1_a0:=St.cl (S1) 2 0 rfl rfl;have e1_a1:=St.cl (S1) 2 1 rfl rfl;have e1_a2:=St.cl (S1) 2 2 rfl rfl;have e1_a3:=St.cl (S1) 2 3 rfl rfl;have e1_a4:=St.cl (S1) 2 4 rfl rfl;have e1_a5:=St.cl (S1) 2 5 rfl rfl;have e1_b0:=St.cl (S1) 1 0 rfl rfl;have e1_b1:=St.cl (S1) 1 1 rfl rfl;have e1_b2:=St.cl (S1) 1 2 rfl rfl;have e1_b3:=St.cl (S1) 1 3 rfl rfl;have e1_b4:=St.cl (S1) 1 4 rfl rfl;have e1_b5:=St.cl (S1) 1 5 rfl rfl;have e1z_a0:=St.f (S1) 2 0 rfl;have e1z_a1:=St.f (S1) 2 1 rfl;have e1z_a2:=St.f (S1) 2 2 rfl;have e1z_a3:=St.f (S1) 2 3 rfl;have e1z_a4:=St.f (S1) 2 4 rfl;have e1z_a5:=St.f (S1) 2 5 rfl;have e1z_b0:=St.f (S1) 1 0 rfl;have e1z_b1:=St.f (S1) 1 1 rfl;have e1z_b2:=St.f (S1) 1 2 rfl;have e1z_b3:=St.f (S1) 1 3 rfl;have e1z_b4:=St.f (S1) 1 4 rfl;have e1z_b5:=St.f (S1) 1 5 rfl))
  all_goals
   have SE:=Lib.hid (((((((((((((S1.set 2 0 (.bool (ng q5.num)) rfl (by nofun)).set 2 1 (.slice A11 n11 c11) rfl (by nofun)).set 2 2 (.slice D11 m11 d11) rfl (by nofun)).set 2 3 (.bool (ng q6.num)) rfl (by nofun)).set 2 4 (.slice A12 n12 c12) rfl (by nofun)).set 2 5 (.slice D12 m12 d12) rfl (by nofun)).set 1 0 (.bool (ng q7.num)) rfl (by nofun)).set 1 1 (.slice A13 n13 c13) rfl (by nofun)).set 1 2 (.slice D13 m13 d13) rfl (by nofun)).set 1 3 (.bool (ng q8.num)) rfl (by nofun)).set 1 4 (.slice A14 n14 c14) rfl (by nofun)).set 1 5 (.slice D14 m14 d14) rfl (by nofun)))
   clear d_a0 d_a1 d_a2 d_a3 d_a4 d_a5 d_b0 d_b1 d_b2 d_b3 d_b4 d_b5 dz_a0 dz_a1 dz_a2 dz_a3 dz_a4 dz_a5 dz_b0 dz_b1 dz_b2 dz_b3 dz_b4 dz_b5 e0_b0 e0_b1 e0_b2 e0_b3 e0_b4 e0_b5 e1_a0 e1_a1 e1_a2 e1_a3 e1_a4 e1_a5 e1_b0 e1_b1 e1_b2 e1_b3 e1_b4 e1_b5 e1z_a0 e1z_a1 e1z_a2 e1z_a3 e1z_a4 e1z_a5 e1z_b0 e1z_b1 e1z_b2 e1z_b3 e1z_b4 e1z_b5
   go_wp2_with fail
   go_meet
   exact⟨_,_,_,_,_,_,_,_,_,_,_,_,_,_,_,_,_,_,_,_,_,_,_,_,SE.out⟩
 case rest=>
  clear d_a0 d_a1 d_a2 d_a3 d_a4 d_a5 d_b0 d_b1 d_b2 d_b3 d_b4 d_b5 dz_a0 dz_a1 dz_a2 dz_a3 dz_a4 dz_a5 dz_b0 dz_b1 dz_b2 dz_b3 dz_b4 dz_b5
  clear S
  obtain⟨A11,n11,c11,D11,m11,d11,A12,n12,c12,D12,m12,d12,A13,n13,c13,D13,m13,d13,A14,n14,c14,D14,m14,d14,S⟩:=hcut
  obtain⟨c_r0,c_r1,c_r2,c_r3,c_r4,c_r5,f_r0,f_r1,f_r2,f_r3,f_r4,f_r5⟩:=S.cf6 0 rfl
  obtain⟨c_b0,c_b1,c_b2,c_b3,c_b4,c_b5,f_b0,f_b1,f_b2,f_b3,f_b4,f_b5⟩:=S.cf6 1 rfl
  obtain⟨c_a0,c_a1,c_a2,c_a3,c_a4,c_a5,f_a0,f_a1,f_a2,f_a3,f_a4,f_a5⟩:=S.cf6 2 rfl
  have hz:w.heap.size+1+1<wc.heap.size:=S.lt 0 rfl
  replace S:=Lib.hid S
  clear hK1 hK2
  have S:=(S.out.allocAt (wc.heap.size) #[.bool (ng q5.num),.slice A11 n11 c11,.slice D11 m11 d11,.bool (ng q6.num),.slice A12 n12 c12,.slice D12 m12 d12,.bool (ng q7.num),.slice A13 n13 c13,.slice D13 m13 d13,.bool (ng q8.num),.slice A14 n14 c14,.slice D14 m14 d14] 26 (noL12 _ _ _ _ _ _ _ _ _ _ _ _ _ _ _ _ _ _ _ _ _ _ _ _ _ _ _ _) (by simp))
  replace S:=Lib.hid S
  go_wp2_with fail
  refine (hR.out _ _ _ _ _ _ _ _ _ _ _ _ _ _ _ _ _ _ _ _ _ _ _ _ _ _ (S.out.cb 0 rfl) (RR.w ⟨S.out.r 7 rfl,S.out.r 6 rfl⟩ (t5.out)) (RR.w ⟨S.out.r 5 rfl,S.out.r 4 rfl⟩ (t6.out)) (RR.w ⟨S.out.r 3 rfl,S.out.r 2 rfl⟩ (t7.out)) (RR.w ⟨S.out.r 1 rfl,S.out.r 0 rfl⟩ (t8.out))).mono ?_
  rintro e w5 ⟨A31,n31,c31,D31,m31,d31,A32,n32,c32,D32,m32,d32,rfl,Q31,Q32,bb⟩
  have T:=(((((S.out.call bb).read Q31.n).read Q31.d).read Q32.n).read Q32.d)
  clear bb S c_r0 f_r0 c_r1 f_r1 c_r2 f_r2 c_r3 f_r3 c_r4 f_r4 c_r5 f_r5 c_b0 f_b0 c_b1 f_b1 c_b2 f_b2 c_b3 f_b3 c_b4 f_b4 c_b5 f_b5 c_a0 f_a0 c_a1 f_a1 c_a2 f_a2 c_a3 f_a3 c_a4 f_a4 c_a5 f_a5 hz
  have S:=T
  clear T
  obtain⟨c_L0,c_L1,c_L2,c_L3,c_L4,c_L5,c_L6,c_L7,c_L8,c_L9,c_L10,c_L11,f_L0,f_L1,f_L2,f_L3,f_L4,f_L5,f_L6,f_L7,f_L8,f_L9,f_L10,f_L11⟩:=S.cf12 0 rfl
  obtain⟨c_r0,c_r1,c_r2,c_r3,c_r4,c_r5,f_r0,f_r1,f_r2,f_r3,f_r4,f_r5⟩:=S.cf6 1 rfl
  obtain⟨c_b0,c_b1,c_b2,c_b3,c_b4,c_b5,f_b0,f_b1,f_b2,f_b3,f_b4,f_b5⟩:=S.cf6 2 rfl
  obtain⟨c_a0,c_a1,c_a2,c_a3,c_a4,c_a5,f_a0,f_a1,f_a2,f_a3,f_a4,f_a5⟩:=S.cf6 3 rfl
  have hz:wc.heap.size<w5.heap.size:=S.lt 0 rfl
  replace S:=Lib.hid S
  clear Q31 Q32 hR
  have S:St w _ [(wc.heap.size,#[.bool (ng q5.num),.slice A11 n11 c11,.slice D11 m11 d11,.bool (ng q6.num),.slice A12 n12 c12,.slice D12 m12 d12,.bool (ng q7.num),.slice A13 n13 c13,.slice D13 m13 d13,.bool (ng q8.num),.slice A14 n14 c14,.slice D14 m14 d14],26),(w.heap.size+1+1,#[.bool (ng lo.num),.slice A31 n31 c31,.slice D31 m31 d31,.bool (ng hi.num),.slice A32 n32 c32,.slice D32 m32 d32],28),(w.heap.size+1,#[.bool (ng q7.num),.slice A13 n13 c13,.slice D13 m13 d13,.bool (ng q8.num),.slice A14 n14 c14,.slice D14 m14 d14],28),(w.heap.size,#[.bool (ng q5.num),.slice A11 n11 c11,.slice D11 m11 d11,.bool (ng q6.num),.slice A12 n12 c12,.slice D12 m12 d12],28)] [(D32,m32,d32,dn hi),(A32,n32,c32,limbs hi.num.natAbs),(D31,m31,d31,dn lo),(A31,n31,c31,limbs lo.num.natAbs),(D14,m14,d14,dn q8),(A14,n14,c14,limbs q8.num.natAbs),(D13,m13,d13,dn q7),(A13,n13,c13,limbs q7.num.natAbs),(D12,m12,d12,dn q6),(A12,n12,c12,limbs q6.num.natAbs),(D11,m11,d11,dn q5),(A11,n11,c11,limbs q5.num.natAbs),(D4,m4,d4,y4),(A4,n4,c4,x4),(D3,m3,d3,y3),(A3,n3,c3,x3),(D2,m2,d2,y2),(A2,n2,c2,x2),(D1,m1,d1,y1),(A1,n1,c1,x1)]:=((((((S.out.set 1 0 (.bool (ng lo.num)) rfl (by nofun)).set 1 1 (.slice A31 n31 c31) rfl (by nofun)).set 1 2 (.slice D31 m31 d31) rfl (by nofun)).set 1 3 (.bool (ng hi.num)) rfl (by nofun)).set 1 4 (.slice A32 n32 c32) rfl (by nofun)).set 1 5 (.slice D32 m32 d32) rfl (by nofun))
  replace S:=Lib.hid S
  go_wp2
  refine bodyPost_ret (res_rhullV _ _ (w.heap.size+1+1) 28 rfl (S.out.bk _ (List.mem_of_getElem? (i:=1) rfl)).1) rfl ?_
  exact⟨_,_,_,_,_,_,_,_,_,_,_,_,rfl,⟨S.out.r 3 rfl,S.out.r 2 rfl⟩,⟨S.out.r 1 rfl,S.out.r 0 rfl⟩,S.out.bel⟩
end Go.Proofs.YtphckmdnflbloaaGreat

namespace Go.Proofs.YtphckmdnflbloaaGreat
open Go.RowKit RQ
theorem res_rmeet (W:World) (tmps:Array Value) (g t:Nat) {v0 v1 v2 v3 v4 v5 e0:Value} (ht:tmps.getD 4 undef=.pointer (some ⟨g,0,none⟩)) (h0:tmps.getD 5 undef=e0) (h:Cb W g #[v0,v1,v2,v3,v4,v5] t) :
  (results Tryz.f29 tmps).run Tryz.prog W=.ok (.tuple #[.agg #[v0,v1,v2,v3,v4,v5],e0]) W:=by
 have c0:W.cell? ⟨g,0,none⟩=some v0:=h.cell rfl
 have c1:W.cell? ⟨g,1,none⟩=some v1:=h.cell rfl
 have c2:W.cell? ⟨g,2,none⟩=some v2:=h.cell rfl
 have c3:W.cell? ⟨g,3,none⟩=some v3:=h.cell rfl
 have c4:W.cell? ⟨g,4,none⟩=some v4:=h.cell rfl
 have c5:W.cell? ⟨g,5,none⟩=some v5:=h.cell rfl
 have ht':tmps[4]?.getD undef=.pointer (some ⟨g,0,none⟩):=by rw[←ht];simp[Array.getD_eq_getD_getElem?]
 have k0:tmps[5]?.getD undef=e0:=by rw[←h0];simp[Array.getD_eq_getD_getElem?]
 simp[results,Tryz.results29,go_sem,ht',k0,c0,c1,c2,c3,c4,c5]
set_option maxRecDepth 100000 in
set_option maxHeartbeats 8000000 in
theorem rmeet_no (b1:Bool) (A1:Option Addr) (n1 c1:Nat) (x1:List Nat) (D1:Option Addr) (m1 d1:Nat) (y1:List Nat) (q1:Rat) (b2:Bool) (A2:Option Addr) (n2 c2:Nat) (x2:List Nat) (D2:Option Addr) (m2 d2:Nat) (y2:List Nat) (q2:Rat) (b3:Bool) (A3:Option Addr) (n3 c3:Nat) (x3:List Nat) (D3:Option Addr) (m3 d3:Nat) (y3:List Nat) (q3:Rat) (b4:Bool) (A4:Option Addr) (n4 c4:Nat) (x4:List Nat) (D4:Option Addr) (m4 d4:Nat) (y4:List Nat) (q4:Rat) (h:(minL [khi q1 q2,khi q3 q4])<(maxL [klo q1 q2,klo q3 q4])) (s1:Rs q1 19) (s2:Rs q2 19) (s3:Rs q3 19) (s4:Rs q4 19) (w:World) (X1:Rw w b1 A1 n1 c1 x1 D1 m1 d1 y1 q1) (X2:Rw w b2 A2 n2 c2 x2 D2 m2 d2 y2 q2) (X3:Rw w b3 A3 n3 c3 x3 D3 m3 d3 y3 q3) (X4:Rw w b4 A4 n4 c4 x4 D4 m4 d4 y4 q4):Calls Tryz.prog 29 #[.agg #[.bool b1,.slice A1 n1 c1,.slice D1 m1 d1,.bool b2,.slice A2 n2 c2,.slice D2 m2 d2],.agg #[.bool b3,.slice A3 n3 c3,.slice D3 m3 d3,.bool b4,.slice A4 n4 c4,.slice D4 m4 d4]] w (RetVE 0 0 (.bool false) w):=by
 obtain⟨s5,s6⟩:=k_rsp s1 s2 (by decide)
 obtain⟨s7,s8⟩:=k_rsp s3 s4 (by decide)
 have hK1:=Lib.hid (fun W h1 h2=>rtakeV_any b1 A1 n1 c1 x1 D1 m1 d1 y1 q1 b2 A2 n2 c2 x2 D2 m2 d2 y2 q2 W h1 h2)
 have hK2:=Lib.hid (fun W h1 h2=>rtakeV_any b3 A3 n3 c3 x3 D3 m3 d3 y3 q3 b4 A4 n4 c4 x4 D4 m4 d4 y4 q4 W h1 h2)
 generalize klo q1 q2=q5 at *
 generalize khi q1 q2=q6 at *
 generalize klo q3 q4=q7 at *
 generalize khi q3 q4=q8 at *
 have slo:Rs (maxL [q5,q7]) 19:=(minL_rs (by simp) (fun y hy=>by simp at hy;rcases hy with rfl | rfl;exact s5;exact s7)).2
 have shi:Rs (minL [q6,q8]) 19:=(minL_rs (by simp) (fun y hy=>by simp at hy;rcases hy with rfl | rfl;exact s6;exact s8)).1
 have hG:Hid (∀ W A0 n0 c0 D0 m0 d0 A1 n1 c1 D1 m1 d1,RR W A0 n0 c0 D0 m0 d0 q5→RR W A1 n1 c1 D1 m1 d1 q7→Calls Tryz.prog 95 #[.agg #[.bool (ng q5.num),.slice A0 n0 c0,.slice D0 m0 d0],.agg #[.bool (ng q7.num),.slice A1 n1 c1,.slice D1 m1 d1]] W (RetR (maxL [q5,q7]) W)):=Lib.hid fun W A0 n0 c0 D0 m0 d0 A1 n1 c1 D1 m1 d1 X0 X1=>max_any _ _ _ _ _ _ _ _ _ _ _ _ _ _ _ _ _ _ _ _ W (RR.w X0 (s5.mono (by decide))) (RR.w X1 (s7.mono (by decide)))
 have hL:Hid (∀ W A0 n0 c0 D0 m0 d0 A1 n1 c1 D1 m1 d1,RR W A0 n0 c0 D0 m0 d0 q6→RR W A1 n1 c1 D1 m1 d1 q8→Calls Tryz.prog 96 #[.agg #[.bool (ng q6.num),.slice A0 n0 c0,.slice D0 m0 d0],.agg #[.bool (ng q8.num),.slice A1 n1 c1,.slice D1 m1 d1]] W (RetR (minL [q6,q8]) W)):=Lib.hid fun W A0 n0 c0 D0 m0 d0 A1 n1 c1 D1 m1 d1 X0 X1=>min_any _ _ _ _ _ _ _ _ _ _ _ _ _ _ _ _ _ _ _ _ W (RR.w X0 (s6.mono (by decide))) (RR.w X1 (s8.mono (by decide)))
 generalize maxL [q5,q7]=lo at *
 generalize minL [q6,q8]=hi at *
 have hO:Hid (∀ W A0 n0 c0 D0 m0 d0 A1 n1 c1 D1 m1 d1,RR W A0 n0 c0 D0 m0 d0 hi→RR W A1 n1 c1 D1 m1 d1 lo→Calls Tryz.prog 97 #[.agg #[.bool (ng hi.num),.slice A0 n0 c0,.slice D0 m0 d0],.agg #[.bool (ng lo.num),.slice A1 n1 c1,.slice D1 m1 d1]] W (fun e w'=>e=.returned (.bool true)∧Below W.heap.size W w')):=Lib.hid fun W A0 n0 c0 D0 m0 d0 A1 n1 c1 D1 m1 d1 X0 X1=>by
  have:=less_any _ _ _ _ _ _ _ _ _ _ _ _ _ _ _ _ _ _ _ _ W (RR.w X0 (shi.mono (by decide))) (RR.w X1 (slo.mono (by decide)))
  rwa [decide_eq_true h] at this
 clear h s1 s2 s3 s4 s5 s6 s7 s8 slo shi
 have k1:=Lib.hid X1.k
 have k2:=Lib.hid X2.k
 have k3:=Lib.hid X3.k
 have k4:=Lib.hid X4.k
 have S:=((((((((((((St.new w).read X1.rn).read X1.rd).read X2.rn).read X2.rd).read X3.rn).read X3.rd).read X4.rn).read X4.rd).allocAt (w.heap.size) #[.bool b1,.slice A1 n1 c1,.slice D1 m1 d1,.bool b2,.slice A2 n2 c2,.slice D2 m2 d2] 28 (noL6 _ _ _ _ _ _ _ _ _ _ _ _ _ _) (by simp)).allocAt (w.heap.size+1) #[.bool b3,.slice A3 n3 c3,.slice D3 m3 d3,.bool b4,.slice A4 n4 c4,.slice D4 m4 d4] 28 (noL6 _ _ _ _ _ _ _ _ _ _ _ _ _ _) (by simp)).allocAt (w.heap.size+1+1) #[.bool false,.slice none 0 0,.slice none 0 0,.bool false,.slice none 0 0,.slice none 0 0] 28 (noL6 _ _ _ _ _ _ _ _ _ _ _ _ _ _) (by simp))
 replace S:=Lib.hid S
 clear X1 X2 X3 X4
 go_enter Tryz.func29,Tryz.ntmps29
 go_upto_region 1 with fail
 have S:=S.out
 generalize hW1:(World.alloc (World.alloc (World.alloc w (.cells #[.bool b1,.slice A1 n1 c1,.slice D1 m1 d1,.bool b2,.slice A2 n2 c2,.slice D2 m2 d2] 28)) (.cells #[.bool b3,.slice A3 n3 c3,.slice D3 m3 d3,.bool b4,.slice A4 n4 c4,.slice D4 m4 d4] 28)) (.cells #[.bool false,.slice none 0 0,.slice none 0 0,.bool false,.slice none 0 0,.slice none 0 0] 28))=w1 at S ⊢
 clear hW1
 replace S:=Lib.hid S
 have d_a0:=St.cl (S.out) 2 0 rfl rfl
 have d_a1:=St.cl (S.out) 2 1 rfl rfl
 have d_a2:=St.cl (S.out) 2 2 rfl rfl
 have d_a3:=St.cl (S.out) 2 3 rfl rfl
 have d_a4:=St.cl (S.out) 2 4 rfl rfl
 have d_a5:=St.cl (S.out) 2 5 rfl rfl
 have d_b0:=St.cl (S.out) 1 0 rfl rfl
 have d_b1:=St.cl (S.out) 1 1 rfl rfl
 have d_b2:=St.cl (S.out) 1 2 rfl rfl
 have d_b3:=St.cl (S.out) 1 3 rfl rfl
 have d_b4:=St.cl (S.out) 1 4 rfl rfl
 have d_b5:=St.cl (S.out) 1 5 rfl rfl
 have dz_a0:=St.f (S.out) 2 0 rfl
 have dz_a1:=St.f (S.out) 2 1 rfl
 have dz_a2:=St.f (S.out) 2 2 rfl
 have dz_a3:=St.f (S.out) 2 3 rfl
 have dz_a4:=St.f (S.out) 2 4 rfl
 have dz_a5:=St.f (S.out) 2 5 rfl
 have dz_b0:=St.f (S.out) 1 0 rfl
 have dz_b1:=St.f (S.out) 1 1 rfl
 have dz_b2:=St.f (S.out) 1 2 rfl
 have dz_b3:=St.f (S.out) 1 3 rfl
 have dz_b4:=St.f (S.out) 1 4 rfl
 have dz_b5:=St.f (S.out) 1 5 rfl
 go_cut [] (fun wx=>∃ A11 n11 c11 D11 m11 d11 A12 n12 c12 D12 m12 d12 A13 n13 c13 D13 m13 d13 A14 n14 c14 D14 m14 d14,St w wx [(w.heap.size+1+1,#[.bool false,.slice none 0 0,.slice none 0 0,.bool false,.slice none 0 0,.slice none 0 0],28),(w.heap.size+1,#[.bool (ng q7.num),.slice A13 n13 c13,.slice D13 m13 d13,.bool (ng q8.num),.slice A14 n14 c14,.slice D14 m14 d14],28),(w.heap.size,#[.bool (ng q5.num),.slice A11 n11 c11,.slice D11 m11 d11,.bool (ng q6.num),.slice A12 n12 c12,.slice D12 m12 d12],28)] [(D14,m14,d14,dn q8),(A14,n14,c14,limbs q8.num.natAbs),(D13,m13,d13,dn q7),(A13,n13,c13,limbs q7.num.natAbs),(D12,m12,d12,dn q6),(A12,n12,c12,limbs q6.num.natAbs),(D11,m11,d11,dn q5),(A11,n11,c11,limbs q5.num.natAbs),(D4,m4,d4,y4),(A4,n4,c4,x4),(D3,m3,d3,y3),(A3,n3,c3,x3),(D2,m2,d2,y2),(A2,n2,c2,x2),(D1,m1,d1,y1),(A1,n1,c1,x1)])
 case first=>
  have SD:=Lib.hid (S.out.drew)
  go_region_with (first
   | (go_at_call_of 82 (Value.agg #[.bool b1,.slice A1 n1 c1,.slice D1 m1 d1,.bool b2,.slice A2 n2 c2,.slice D2 m2 d2]);refine (hK1.out _ (Rw.of (SD.out.r 7 rfl) (SD.out.r 6 rfl) k1.out) (Rw.of (SD.out.r 5 rfl) (SD.out.r 4 rfl) k2.out)).mono ?_;rintro e w2 ⟨A11,n11,c11,D11,m11,d11,A12,n12,c12,D12,m12,d12,rfl,Q11,Q12,bb0⟩;have S0:St w w2 [(w.heap.size+1+1,#[.bool false,.slice none 0 0,.slice none 0 0,.bool false,.slice none 0 0,.slice none 0 0],28),(w.heap.size+1,#[.bool b3,.slice A3 n3 c3,.slice D3 m3 d3,.bool b4,.slice A4 n4 c4,.slice D4 m4 d4],28),(w.heap.size,#[.bool b1,.slice A1 n1 c1,.slice D1 m1 d1,.bool b2,.slice A2 n2 c2,.slice D2 m2 d2],28)] [(D12,m12,d12,dn q6),(A12,n12,c12,limbs q6.num.natAbs),(D11,m11,d11,dn q5),(A11,n11,c11,limbs q5.num.natAbs),(D4,m4,d4,y4),(A4,n4,c4,x4),(D3,m3,d3,y3),(A3,n3,c3,x3),(D2,m2,d2,y2),(A2,n2,c2,x2),(D1,m1,d1,y1),(A1,n1,c1,x1)]:=(((((SD.out.call bb0).read Q11.n).read Q11.d).read Q12.n).read Q12.d);have e0_b0:=St.cl (S0) 1 0 rfl rfl;have e0_b1:=St.cl (S0) 1 1 rfl rfl;have e0_b2:=St.cl (S0) 1 2 rfl rfl;have e0_b3:=St.cl (S0) 1 3 rfl rfl;have e0_b4:=St.cl (S0) 1 4 rfl rfl;have e0_b5:=St.cl (S0) 1 5 rfl rfl)
   | (go_at_call_of 82 (Value.agg #[.bool b3,.slice A3 n3 c3,.slice D3 m3 d3,.bool b4,.slice A4 n4 c4,.slice D4 m4 d4]);refine (hK2.out _ (Rw.of (S0.r 7 rfl) (S0.r 6 rfl) k3.out) (Rw.of (S0.r 5 rfl) (S0.r 4 rfl) k4.out)).mono ?_;rintro e w3 ⟨A13,n13,c13,D13,m13,d13,A14,n14,c14,D14,m14,d14,rfl,Q13,Q14,bb1⟩;have S1:St w w3 [(w.heap.size+1+1,#[.bool false,.slice none 0 0,.slice none 0 0,.bool false,.slice none 0 0,.slice none 0 0],28),(w.heap.size+1,#[.bool b3,.slice A3 n3 c3,.slice D3 m3 d3,.bool b4,.slice A4 n4 c4,.slice D4 m4 d4],28),(w.heap.size,#[.bool b1,.slice A1 n1 c1,.slice D1 m1 d1,.bool b2,.slice A2 n2 c2,.slice D2 m2 d2],28)] [(D14,m14,d14,dn q8),(A14,n14,c14,limbs q8.num.natAbs),(D13,m13,d13,dn q7),(A13,n13,c13,limbs q7.num.natAbs),(D12,m12,d12,dn q6),(A12,n12,c12,limbs q6.num.natAbs),(D11,m11,d11,dn q5),(A11,n11,c11,limbs q5.num.natAbs),(D4,m4,d4,y4),(A4,n4,c4,x4),(D3,m3,d3,y3),(A3,n3,c3,x3),(D2,m2,d2,y2),(A2,n2,c2,x2),(D1,m1,d1,y1),(A1,n1,c1,x1)]:=(((((S0.call bb1).read Q13.n).read Q13.d).read Q14.n).read Q14.d);have e1_a0:=St.cl (S1) 2 0 rfl rfl;have e1_a1:=St.cl (S1) 2 1 rfl rfl;have e1_a2:=St.cl (S1) 2 2 rfl rfl;have e1_a3:=St.cl (S1) 2 3 rfl rfl;have e1_a4:=St.cl (S1) 2 4 rfl rfl;have e1_a5:=St.cl (S1) 2 5 rfl rfl;have e1_b0:=St.cl (S1) 1 0 rfl rfl;have e1_b1:=St.cl (S1) 1 1 rfl rfl;have e1_b2:=St.cl (S1) 1 2 rfl rfl;have e1_b3:=St.cl (S1) 1 3 rfl rfl;have e1_b4:=St.cl (S1) 1 4 rfl rfl;have e1_b5:=St.cl (S1) 1 5 rfl rfl;have e1z_a0:=St.f (S1) 2 0 rfl;have e1z_a1:=St.f (S1) 2 1 rfl;have e1z_a2:=St.f (S1) 2 2 rfl;have e1z_a3:=St.f (S1) 2 3 rfl;have e1z_a4:=St.f (S1) 2 4 rfl;have e1z_a5:=St.f (S1) 2 5 rfl;have e1z_b0:=St.f (S1) 1 0 rfl;have e1z_b1:=St.f (S1) 1 1 rfl;have e1z_b2:=St.f (S1) 1 2 rfl;have e1z_b3:=St.f (S1) 1 3 rfl;have e1z_b4:=St.f (S1) 1 4 rfl;have e1z_b5:=St.f (S1) 1 5 rfl))
  all_goals
   have SE:=Lib.hid (((((((((((((S1.set 2 0 (.bool (ng q5.num)) rfl (by nofun)).set 2 1 (.slice A11 n11 c11) rfl (by nofun)).set 2 2 (.slice D11 m11 d11) rfl (by nofun)).set 2 3 (.bool (ng q6.num)) rfl (by nofun)).set 2 4 (.slice A12 n12 c12) rfl (by nofun)).set 2 5 (.slice D12 m12 d12) rfl (by nofun)).set 1 0 (.bool (ng q7.num)) rfl (by nofun)).set 1 1 (.slice A13 n13 c13) rfl (by nofun)).set 1 2 (.slice D13 m13 d13) rfl (by nofun)).set 1 3 (.bool (ng q8.num)) rfl (by nofun)).set 1 4 (.slice A14 n14 c14) rfl (by nofun)).set 1 5 (.slice D14 m14 d14) rfl (by nofun)))
   clear d_a0 d_a1 d_a2 d_a3 d_a4 d_a5 d_b0 d_b1 d_b2 d_b3 d_b4 d_b5 dz_a0 dz_a1 dz_a2 dz_a3 dz_a4 dz_a5 dz_b0 dz_b1 dz_b2 dz_b3 dz_b4 dz_b5 e0_b0 e0_b1 e0_b2 e0_b3 e0_b4 e0_b5 e1_a0 e1_a1 e1_a2 e1_a3 e1_a4 e1_a5 e1_b0 e1_b1 e1_b2 e1_b3 e1_b4 e1_b5 e1z_a0 e1z_a1 e1z_a2 e1z_a3 e1z_a4 e1z_a5 e1z_b0 e1z_b1 e1z_b2 e1z_b3 e1z_b4 e1z_b5
   go_wp2_with fail
   go_meet
   exact⟨_,_,_,_,_,_,_,_,_,_,_,_,_,_,_,_,_,_,_,_,_,_,_,_,SE.out⟩
 case rest=>
  clear d_a0 d_a1 d_a2 d_a3 d_a4 d_a5 d_b0 d_b1 d_b2 d_b3 d_b4 d_b5 dz_a0 dz_a1 dz_a2 dz_a3 dz_a4 dz_a5 dz_b0 dz_b1 dz_b2 dz_b3 dz_b4 dz_b5
  clear S
  obtain⟨A11,n11,c11,D11,m11,d11,A12,n12,c12,D12,m12,d12,A13,n13,c13,D13,m13,d13,A14,n14,c14,D14,m14,d14,S⟩:=hcut
  obtain⟨c_r0,c_r1,c_r2,c_r3,c_r4,c_r5,f_r0,f_r1,f_r2,f_r3,f_r4,f_r5⟩:=S.cf6 0 rfl
  obtain⟨c_b0,c_b1,c_b2,c_b3,c_b4,c_b5,f_b0,f_b1,f_b2,f_b3,f_b4,f_b5⟩:=S.cf6 1 rfl
  obtain⟨c_a0,c_a1,c_a2,c_a3,c_a4,c_a5,f_a0,f_a1,f_a2,f_a3,f_a4,f_a5⟩:=S.cf6 2 rfl
  have hz:w.heap.size+1+1<wc.heap.size:=S.lt 0 rfl
  replace S:=Lib.hid S
  clear hK1 hK2
  go_upto_region 2 with fail
  clear c_r0 f_r0 c_r1 f_r1 c_r2 f_r2 c_r3 f_r3 c_r4 f_r4 c_r5 f_r5 c_b0 f_b0 c_b1 f_b1 c_b2 f_b2 c_b3 f_b3 c_b4 f_b4 c_b5 f_b5 c_a0 f_a0 c_a1 f_a1 c_a2 f_a2 c_a3 f_a3 c_a4 f_a4 c_a5 f_a5 hz
  refine RW.begin (Z:=[⟨10,6,#[.bool false,.slice none 0 0,.slice none 0 0],26⟩,⟨11,7,#[.bool false,.slice none 0 0,.slice none 0 0],26⟩]) (S:=(fun W=>Cb W (w.heap.size) #[.bool (ng q5.num),.slice A11 n11 c11,.slice D11 m11 d11,.bool (ng q6.num),.slice A12 n12 c12,.slice D12 m12 d12] 28∧Cb W (w.heap.size+1) #[.bool (ng q7.num),.slice A13 n13 c13,.slice D13 m13 d13,.bool (ng q8.num),.slice A14 n14 c14,.slice D14 m14 d14] 28)) (by kernel_rfl) ?_ S.out ?_
  ·exact⟨by kernel_rfl,(zis_cons at10 (fun _ _=>by kernel_rfl) (zis_cons at11 (fun _ _=>by kernel_rfl) zis_nil)),by decide,by decide,(nol_cons (noL3 _ _ _ _ _ _ _) (nol_cons (noL3 _ _ _ _ _ _ _) nol_nil)),(fun _ _ h=>⟨h.kb 2 rfl,h.kb 1 rfl⟩)⟩
  intro hzk
  clear S
  refine RW.t (i:=0) (v:=.pointer (some ⟨w.heap.size,0,none⟩)) (some 12) at0 (hy:=fun _ _=>by kernel_rfl) (h:=?_)
  refine RW.t (i:=1) (v:=.agg #[.bool (ng q5.num),.slice A11 n11 c11,.slice D11 m11 d11]) (some 13) at1 (hy:=fun W hS=>by (have k0:=Cb.cell (i:=0) hS.1 rfl;have k1:=Cb.cell (i:=1) hS.1 rfl;have k2:=Cb.cell (i:=2) hS.1 rfl;clear hS;go_simp)) (h:=?_)
  refine RW.t (i:=2) (v:=.pointer (some ⟨w.heap.size+1,0,none⟩)) (some 14) at2 (hy:=fun _ _=>by kernel_rfl) (h:=?_)
  refine RW.t (i:=3) (v:=.agg #[.bool (ng q7.num),.slice A13 n13 c13,.slice D13 m13 d13]) (some 15) at3 (hy:=fun W hS=>by (have k0:=Cb.cell (i:=0) hS.2 rfl;have k1:=Cb.cell (i:=1) hS.2 rfl;have k2:=Cb.cell (i:=2) hS.2 rfl;clear hS;go_simp)) (h:=?_)
  refine RW.t (i:=5) (v:=.pointer (some ⟨w.heap.size,3,none⟩)) (some 17) at5 (hy:=fun _ _=>by kernel_rfl) (h:=?_)
  refine RW.t (i:=6) (v:=.agg #[.bool (ng q6.num),.slice A12 n12 c12,.slice D12 m12 d12]) (some 18) at6 (hy:=fun W hS=>by (have k3:=Cb.cell (i:=3) hS.1 rfl;have k4:=Cb.cell (i:=4) hS.1 rfl;have k5:=Cb.cell (i:=5) hS.1 rfl;clear hS;go_simp)) (h:=?_)
  refine RW.t (i:=7) (v:=.pointer (some ⟨w.heap.size+1,3,none⟩)) (some 19) at7 (hy:=fun _ _=>by kernel_rfl) (h:=?_)
  refine RW.t (i:=8) (v:=.agg #[.bool (ng q8.num),.slice A14 n14 c14,.slice D14 m14 d14]) (some 20) at8 (hy:=fun W hS=>by (have k3:=Cb.cell (i:=3) hS.2 rfl;have k4:=Cb.cell (i:=4) hS.2 rfl;have k5:=Cb.cell (i:=5) hS.2 rfl;clear hS;go_simp)) (h:=?_)
  refine RW.c (i:=4) (args:=#[.agg #[.bool (ng q5.num),.slice A11 n11 c11,.slice D11 m11 d11],.agg #[.bool (ng q7.num),.slice A13 n13 c13,.slice D13 m13 d13]]) (some 16) hzk.out at4 (hx:=fun _=>by kernel_rfl) (h:=fun _ S=>(hG.out _ _ _ _ _ _ _ _ _ _ _ _ _ ⟨S.r 7 rfl,S.r 6 rfl⟩ ⟨S.r 3 rfl,S.r 2 rfl⟩).mono ?_)
  rintro e w5 ⟨A31,n31,c31,D31,m31,d31,rfl,Q31,bb⟩
  refine⟨bb,_,[(D31,m31,d31,dn lo),(A31,n31,c31,limbs lo.num.natAbs)],rfl,(rd_cons Q31.d (rd_cons Q31.n rd_nil)),?_⟩
  clear bb S Q31
  refine RW.c (i:=9) (args:=#[.agg #[.bool (ng q6.num),.slice A12 n12 c12,.slice D12 m12 d12],.agg #[.bool (ng q8.num),.slice A14 n14 c14,.slice D14 m14 d14]]) (some 21) hzk.out at9 (hx:=fun _=>by kernel_rfl) (h:=fun _ S=>(hL.out _ _ _ _ _ _ _ _ _ _ _ _ _ ⟨S.r 7 rfl,S.r 6 rfl⟩ ⟨S.r 3 rfl,S.r 2 rfl⟩).mono ?_)
  rintro e w6 ⟨A32,n32,c32,D32,m32,d32,rfl,Q32,bb⟩
  refine⟨bb,_,[(D32,m32,d32,dn hi),(A32,n32,c32,limbs hi.num.natAbs)],rfl,(rd_cons Q32.d (rd_cons Q32.n rd_nil)),?_⟩
  clear bb S Q32
  refine RW.tail hzk.out (by kernel_rfl) ?_
  intro gs w7 hgs hS S
  obtain⟨g_lo,g_hi,rfl⟩:=len2 hgs
  clear hS hgs hzk
  simp only[mark,fill,List.map,Act.put,List.setIfInBounds_toArray,List.set_cons_zero,List.set_cons_succ]
  replace S:=Lib.hid S
  refine Wk.o (i:=12) at12 (by kernel_rfl) fun K' hK=>?_
  have q12_lo0:=St.cl (S.out) 0 0 rfl rfl
  have q12_lo1:=St.cl (S.out) 0 1 rfl rfl
  have q12_lo2:=St.cl (S.out) 0 2 rfl rfl
  have q12z_lo0:=St.f (S.out) 0 0 rfl
  have q12z_lo1:=St.f (S.out) 0 1 rfl
  have q12z_lo2:=St.f (S.out) 0 2 rfl
  go_simp
  have SN:=(((S.out.set 0 0 (.bool (ng lo.num)) rfl (by nofun)).set 0 1 (.slice A31 n31 c31) rfl (by nofun)).set 0 2 (.slice D31 m31 d31) rfl (by nofun))
  clear S q12_lo0 q12_lo1 q12_lo2 q12z_lo0 q12z_lo1 q12z_lo2
  have S:=SN
  clear SN
  refine hK.out _ _ ⟨(S.cb 4 rfl),(S.cb 3 rfl)⟩ ?_
  clear hK K'
  replace S:=Lib.hid S
  try simp only[Act.put,List.setIfInBounds_toArray,List.set_cons_zero,List.set_cons_succ]
  refine Wk.o (i:=13) at13 (by kernel_rfl) fun K' hK=>?_
  have q13_hi0:=St.cl (S.out) 1 0 rfl rfl
  have q13_hi1:=St.cl (S.out) 1 1 rfl rfl
  have q13_hi2:=St.cl (S.out) 1 2 rfl rfl
  have q13z_hi0:=St.f (S.out) 1 0 rfl
  have q13z_hi1:=St.f (S.out) 1 1 rfl
  have q13z_hi2:=St.f (S.out) 1 2 rfl
  go_simp
  have SN:=(((S.out.set 1 0 (.bool (ng hi.num)) rfl (by nofun)).set 1 1 (.slice A32 n32 c32) rfl (by nofun)).set 1 2 (.slice D32 m32 d32) rfl (by nofun))
  clear S q13_hi0 q13_hi1 q13_hi2 q13z_hi0 q13z_hi1 q13z_hi2
  have S:=SN
  clear SN
  refine hK.out _ _ ⟨(S.cb 4 rfl),(S.cb 3 rfl)⟩ ?_
  clear hK K'
  replace S:=Lib.hid S
  try simp only[Act.put,List.setIfInBounds_toArray,List.set_cons_zero,List.set_cons_succ]
  refine Wk.done (by kernel_rfl) ?_
  go_simp
  replace S:=S.out
  have S:St w _ [(g_lo,#[.bool (ng lo.num),.slice A31 n31 c31,.slice D31 m31 d31],26),(g_hi,#[.bool (ng hi.num),.slice A32 n32 c32,.slice D32 m32 d32],26),(w.heap.size+1+1,#[.bool false,.slice none 0 0,.slice none 0 0,.bool false,.slice none 0 0,.slice none 0 0],28),(w.heap.size+1,#[.bool (ng q7.num),.slice A13 n13 c13,.slice D13 m13 d13,.bool (ng q8.num),.slice A14 n14 c14,.slice D14 m14 d14],28),(w.heap.size,#[.bool (ng q5.num),.slice A11 n11 c11,.slice D11 m11 d11,.bool (ng q6.num),.slice A12 n12 c12,.slice D12 m12 d12],28)] [(D32,m32,d32,dn hi),(A32,n32,c32,limbs hi.num.natAbs),(D31,m31,d31,dn lo),(A31,n31,c31,limbs lo.num.natAbs),(D14,m14,d14,dn q8),(A14,n14,c14,limbs q8.num.natAbs),(D13,m13,d13,dn q7),(A13,n13,c13,limbs q7.num.natAbs),(D12,m12,d12,dn q6),(A12,n12,c12,limbs q6.num.natAbs),(D11,m11,d11,dn q5),(A11,n11,c11,limbs q5.num.natAbs),(D4,m4,d4,y4),(A4,n4,c4,x4),(D3,m3,d3,y3),(A3,n3,c3,x3),(D2,m2,d2,y2),(A2,n2,c2,x2),(D1,m1,d1,y1),(A1,n1,c1,x1)]:=S
  generalize hW8:(World.setCell (World.setCell (World.setCell (World.setCell (World.setCell (World.setCell w7 ⟨g_lo,0,none⟩ (.bool (ng lo.num))) ⟨g_lo,1,none⟩ (.slice A31 n31 c31)) ⟨g_lo,2,none⟩ (.slice D31 m31 d31)) ⟨g_hi,0,none⟩ (.bool (ng hi.num))) ⟨g_hi,1,none⟩ (.slice A32 n32 c32)) ⟨g_hi,2,none⟩ (.slice D32 m32 d32))=w8 at S ⊢
  clear hW8
  replace S:=Lib.hid S
  replace S:=S.out
  obtain⟨c_lo0,c_lo1,c_lo2,f_lo0,f_lo1,f_lo2⟩:=S.cf3 0 rfl
  obtain⟨c_hi0,c_hi1,c_hi2,f_hi0,f_hi1,f_hi2⟩:=S.cf3 1 rfl
  obtain⟨c_r0,c_r1,c_r2,c_r3,c_r4,c_r5,f_r0,f_r1,f_r2,f_r3,f_r4,f_r5⟩:=S.cf6 2 rfl
  obtain⟨c_b0,c_b1,c_b2,c_b3,c_b4,c_b5,f_b0,f_b1,f_b2,f_b3,f_b4,f_b5⟩:=S.cf6 3 rfl
  obtain⟨c_a0,c_a1,c_a2,c_a3,c_a4,c_a5,f_a0,f_a1,f_a2,f_a3,f_a4,f_a5⟩:=S.cf6 4 rfl
  have hz:g_lo<w8.heap.size:=S.lt 0 rfl
  replace S:=Lib.hid S
  clear hG hL
  go_wp2_with fail
  refine (hO.out _ _ _ _ _ _ _ _ _ _ _ _ _ ⟨S.out.r 1 rfl,S.out.r 0 rfl⟩ ⟨S.out.r 3 rfl,S.out.r 2 rfl⟩).mono ?_
  rintro e w9 ⟨rfl,bb⟩
  have T:=(S.out.call bb)
  clear bb S c_lo0 f_lo0 c_lo1 f_lo1 c_lo2 f_lo2 c_hi0 f_hi0 c_hi1 f_hi1 c_hi2 f_hi2 c_r0 f_r0 c_r1 f_r1 c_r2 f_r2 c_r3 f_r3 c_r4 f_r4 c_r5 f_r5 c_b0 f_b0 c_b1 f_b1 c_b2 f_b2 c_b3 f_b3 c_b4 f_b4 c_b5 f_b5 c_a0 f_a0 c_a1 f_a1 c_a2 f_a2 c_a3 f_a3 c_a4 f_a4 c_a5 f_a5 hz
  have S:=T
  clear T
  obtain⟨c_lo0,c_lo1,c_lo2,f_lo0,f_lo1,f_lo2⟩:=S.cf3 0 rfl
  obtain⟨c_hi0,c_hi1,c_hi2,f_hi0,f_hi1,f_hi2⟩:=S.cf3 1 rfl
  obtain⟨c_r0,c_r1,c_r2,c_r3,c_r4,c_r5,f_r0,f_r1,f_r2,f_r3,f_r4,f_r5⟩:=S.cf6 2 rfl
  obtain⟨c_b0,c_b1,c_b2,c_b3,c_b4,c_b5,f_b0,f_b1,f_b2,f_b3,f_b4,f_b5⟩:=S.cf6 3 rfl
  obtain⟨c_a0,c_a1,c_a2,c_a3,c_a4,c_a5,f_a0,f_a1,f_a2,f_a3,f_a4,f_a5⟩:=S.cf6 4 rfl
  have hz:g_lo<w9.heap.size:=S.lt 0 rfl
  replace S:=Lib.hid S
  clear hO
  have S:St w _ [(g_lo,#[.bool (ng lo.num),.slice A31 n31 c31,.slice D31 m31 d31],26),(g_hi,#[.bool (ng hi.num),.slice A32 n32 c32,.slice D32 m32 d32],26),(w.heap.size+1+1,#[.bool false,.slice none 0 0,.slice none 0 0,.bool false,.slice none 0 0,.slice none 0 0],28),(w.heap.size+1,#[.bool (ng q7.num),.slice A13 n13 c13,.slice D13 m13 d13,.bool (ng q8.num),.slice A14 n14 c14,.slice D14 m14 d14],28),(w.heap.size,#[.bool (ng q5.num),.slice A11 n11 c11,.slice D11 m11 d11,.bool (ng q6.num),.slice A12 n12 c12,.slice D12 m12 d12],28)] [(D32,m32,d32,dn hi),(A32,n32,c32,limbs hi.num.natAbs),(D31,m31,d31,dn lo),(A31,n31,c31,limbs lo.num.natAbs),(D14,m14,d14,dn q8),(A14,n14,c14,limbs q8.num.natAbs),(D13,m13,d13,dn q7),(A13,n13,c13,limbs q7.num.natAbs),(D12,m12,d12,dn q6),(A12,n12,c12,limbs q6.num.natAbs),(D11,m11,d11,dn q5),(A11,n11,c11,limbs q5.num.natAbs),(D4,m4,d4,y4),(A4,n4,c4,x4),(D3,m3,d3,y3),(A3,n3,c3,x3),(D2,m2,d2,y2),(A2,n2,c2,x2),(D1,m1,d1,y1),(A1,n1,c1,x1)]:=((((((S.out.set 2 0 (.bool false) rfl (by nofun)).set 2 1 (.slice none 0 0) rfl (by nofun)).set 2 2 (.slice none 0 0) rfl (by nofun)).set 2 3 (.bool false) rfl (by nofun)).set 2 4 (.slice none 0 0) rfl (by nofun)).set 2 5 (.slice none 0 0) rfl (by nofun))
  replace S:=Lib.hid S
  go_wp2
  refine bodyPost_ret (res_rmeet _ _ (w.heap.size+1+1) 28 rfl rfl (S.out.bk _ (List.mem_of_getElem? (i:=2) rfl)).1) rfl ?_
  exact⟨_,_,_,_,_,_,_,_,_,_,_,_,rfl,zero_RR _ _ _ _ _,zero_RR _ _ _ _ _,S.out.bel⟩
set_option maxRecDepth 100000 in
set_option maxHeartbeats 8000000 in
theorem rmeet_yes (b1:Bool) (A1:Option Addr) (n1 c1:Nat) (x1:List Nat) (D1:Option Addr) (m1 d1:Nat) (y1:List Nat) (q1:Rat) (b2:Bool) (A2:Option Addr) (n2 c2:Nat) (x2:List Nat) (D2:Option Addr) (m2 d2:Nat) (y2:List Nat) (q2:Rat) (b3:Bool) (A3:Option Addr) (n3 c3:Nat) (x3:List Nat) (D3:Option Addr) (m3 d3:Nat) (y3:List Nat) (q3:Rat) (b4:Bool) (A4:Option Addr) (n4 c4:Nat) (x4:List Nat) (D4:Option Addr) (m4 d4:Nat) (y4:List Nat) (q4:Rat) (h:¬ (minL [khi q1 q2,khi q3 q4])<(maxL [klo q1 q2,klo q3 q4])) (s1:Rs q1 19) (s2:Rs q2 19) (s3:Rs q3 19) (s4:Rs q4 19) (w:World) (X1:Rw w b1 A1 n1 c1 x1 D1 m1 d1 y1 q1) (X2:Rw w b2 A2 n2 c2 x2 D2 m2 d2 y2 q2) (X3:Rw w b3 A3 n3 c3 x3 D3 m3 d3 y3 q3) (X4:Rw w b4 A4 n4 c4 x4 D4 m4 d4 y4 q4):Calls Tryz.prog 29 #[.agg #[.bool b1,.slice A1 n1 c1,.slice D1 m1 d1,.bool b2,.slice A2 n2 c2,.slice D2 m2 d2],.agg #[.bool b3,.slice A3 n3 c3,.slice D3 m3 d3,.bool b4,.slice A4 n4 c4,.slice D4 m4 d4]] w (RetVE (maxL [klo q1 q2,klo q3 q4]) (minL [khi q1 q2,khi q3 q4]) (.bool true) w):=by
 obtain⟨s5,s6⟩:=k_rsp s1 s2 (by decide)
 obtain⟨s7,s8⟩:=k_rsp s3 s4 (by decide)
 have hK1:=Lib.hid (fun W h1 h2=>rtakeV_any b1 A1 n1 c1 x1 D1 m1 d1 y1 q1 b2 A2 n2 c2 x2 D2 m2 d2 y2 q2 W h1 h2)
 have hK2:=Lib.hid (fun W h1 h2=>rtakeV_any b3 A3 n3 c3 x3 D3 m3 d3 y3 q3 b4 A4 n4 c4 x4 D4 m4 d4 y4 q4 W h1 h2)
 generalize klo q1 q2=q5 at *
 generalize khi q1 q2=q6 at *
 generalize klo q3 q4=q7 at *
 generalize khi q3 q4=q8 at *
 have slo:Rs (maxL [q5,q7]) 19:=(minL_rs (by simp) (fun y hy=>by simp at hy;rcases hy with rfl | rfl;exact s5;exact s7)).2
 have shi:Rs (minL [q6,q8]) 19:=(minL_rs (by simp) (fun y hy=>by simp at hy;rcases hy with rfl | rfl;exact s6;exact s8)).1
 have hG:Hid (∀ W A0 n0 c0 D0 m0 d0 A1 n1 c1 D1 m1 d1,RR W A0 n0 c0 D0 m0 d0 q5→RR W A1 n1 c1 D1 m1 d1 q7→Calls Tryz.prog 95 #[.agg #[.bool (ng q5.num),.slice A0 n0 c0,.slice D0 m0 d0],.agg #[.bool (ng q7.num),.slice A1 n1 c1,.slice D1 m1 d1]] W (RetR (maxL [q5,q7]) W)):=Lib.hid fun W A0 n0 c0 D0 m0 d0 A1 n1 c1 D1 m1 d1 X0 X1=>max_any _ _ _ _ _ _ _ _ _ _ _ _ _ _ _ _ _ _ _ _ W (RR.w X0 (s5.mono (by decide))) (RR.w X1 (s7.mono (by decide)))
 have hL:Hid (∀ W A0 n0 c0 D0 m0 d0 A1 n1 c1 D1 m1 d1,RR W A0 n0 c0 D0 m0 d0 q6→RR W A1 n1 c1 D1 m1 d1 q8→Calls Tryz.prog 96 #[.agg #[.bool (ng q6.num),.slice A0 n0 c0,.slice D0 m0 d0],.agg #[.bool (ng q8.num),.slice A1 n1 c1,.slice D1 m1 d1]] W (RetR (minL [q6,q8]) W)):=Lib.hid fun W A0 n0 c0 D0 m0 d0 A1 n1 c1 D1 m1 d1 X0 X1=>min_any _ _ _ _ _ _ _ _ _ _ _ _ _ _ _ _ _ _ _ _ W (RR.w X0 (s6.mono (by decide))) (RR.w X1 (s8.mono (by decide)))
 generalize maxL [q5,q7]=lo at *
 generalize minL [q6,q8]=hi at *
 have hO:Hid (∀ W A0 n0 c0 D0 m0 d0 A1 n1 c1 D1 m1 d1,RR W A0 n0 c0 D0 m0 d0 hi→RR W A1 n1 c1 D1 m1 d1 lo→Calls Tryz.prog 97 #[.agg #[.bool (ng hi.num),.slice A0 n0 c0,.slice D0 m0 d0],.agg #[.bool (ng lo.num),.slice A1 n1 c1,.slice D1 m1 d1]] W (fun e w'=>e=.returned (.bool false)∧Below W.heap.size W w')):=Lib.hid fun W A0 n0 c0 D0 m0 d0 A1 n1 c1 D1 m1 d1 X0 X1=>by
  have:=less_any _ _ _ _ _ _ _ _ _ _ _ _ _ _ _ _ _ _ _ _ W (RR.w X0 (shi.mono (by decide))) (RR.w X1 (slo.mono (by decide)))
  rwa [decide_eq_false h] at this
 clear h s1 s2 s3 s4 s5 s6 s7 s8 slo shi
 have k1:=Lib.hid X1.k
 have k2:=Lib.hid X2.k
 have k3:=Lib.hid X3.k
 have k4:=Lib.hid X4.k
 have S:=((((((((((((St.new w).read X1.rn).read X1.rd).read X2.rn).read X2.rd).read X3.rn).read X3.rd).read X4.rn).read X4.rd).allocAt (w.heap.size) #[.bool b1,.slice A1 n1 c1,.slice D1 m1 d1,.bool b2,.slice A2 n2 c2,.slice D2 m2 d2] 28 (noL6 _ _ _ _ _ _ _ _ _ _ _ _ _ _) (by simp)).allocAt (w.heap.size+1) #[.bool b3,.slice A3 n3 c3,.slice D3 m3 d3,.bool b4,.slice A4 n4 c4,.slice D4 m4 d4] 28 (noL6 _ _ _ _ _ _ _ _ _ _ _ _ _ _) (by simp)).allocAt (w.heap.size+1+1) #[.bool false,.slice none 0 0,.slice none 0 0,.bool false,.slice none 0 0,.slice none 0 0] 28 (noL6 _ _ _ _ _ _ _ _ _ _ _ _ _ _) (by simp))
 replace S:=Lib.hid S
 clear X1 X2 X3 X4
 go_enter Tryz.func29,Tryz.ntmps29
 go_upto_region 1 with fail
 have S:=S.out
 generalize hW1:(World.alloc (World.alloc (World.alloc w (.cells #[.bool b1,.slice A1 n1 c1,.slice D1 m1 d1,.bool b2,.slice A2 n2 c2,.slice D2 m2 d2] 28)) (.cells #[.bool b3,.slice A3 n3 c3,.slice D3 m3 d3,.bool b4,.slice A4 n4 c4,.slice D4 m4 d4] 28)) (.cells #[.bool false,.slice none 0 0,.slice none 0 0,.bool false,.slice none 0 0,.slice none 0 0] 28))=w1 at S ⊢
 clear hW1
 replace S:=Lib.hid S
 have d_a0:=St.cl (S.out) 2 0 rfl rfl
 have d_a1:=St.cl (S.out) 2 1 rfl rfl
 have d_a2:=St.cl (S.out) 2 2 rfl rfl
 have d_a3:=St.cl (S.out) 2 3 rfl rfl
 have d_a4:=St.cl (S.out) 2 4 rfl rfl
 have d_a5:=St.cl (S.out) 2 5 rfl rfl
 have d_b0:=St.cl (S.out) 1 0 rfl rfl
 have d_b1:=St.cl (S.out) 1 1 rfl rfl
 have d_b2:=St.cl (S.out) 1 2 rfl rfl
 have d_b3:=St.cl (S.out) 1 3 rfl rfl
 have d_b4:=St.cl (S.out) 1 4 rfl rfl
 have d_b5:=St.cl (S.out) 1 5 rfl rfl
 have dz_a0:=St.f (S.out) 2 0 rfl
 have dz_a1:=St.f (S.out) 2 1 rfl
 have dz_a2:=St.f (S.out) 2 2 rfl
 have dz_a3:=St.f (S.out) 2 3 rfl
 have dz_a4:=St.f (S.out) 2 4 rfl
 have dz_a5:=St.f (S.out) 2 5 rfl
 have dz_b0:=St.f (S.out) 1 0 rfl
 have dz_b1:=St.f (S.out) 1 1 rfl
 have dz_b2:=St.f (S.out) 1 2 rfl
 have dz_b3:=St.f (S.out) 1 3 rfl
 have dz_b4:=St.f (S.out) 1 4 rfl
 have dz_b5:=St.f (S.out) 1 5 rfl
 go_cut [] (fun wx=>∃ A11 n11 c11 D11 m11 d11 A12 n12 c12 D12 m12 d12 A13 n13 c13 D13 m13 d13 A14 n14 c14 D14 m14 d14,St w wx [(w.heap.size+1+1,#[.bool false,.slice none 0 0,.slice none 0 0,.bool false,.slice none 0 0,.slice none 0 0],28),(w.heap.size+1,#[.bool (ng q7.num),.slice A13 n13 c13,.slice D13 m13 d13,.bool (ng q8.num),.slice A14 n14 c14,.slice D14 m14 d14],28),(w.heap.size,#[.bool (ng q5.num),.slice A11 n11 c11,.slice D11 m11 d11,.bool (ng q6.num),.slice A12 n12 c12,.slice D12 m12 d12],28)] [(D14,m14,d14,dn q8),(A14,n14,c14,limbs q8.num.natAbs),(D13,m13,d13,dn q7),(A13,n13,c13,limbs q7.num.natAbs),(D12,m12,d12,dn q6),(A12,n12,c12,limbs q6.num.natAbs),(D11,m11,d11,dn q5),(A11,n11,c11,limbs q5.num.natAbs),(D4,m4,d4,y4),(A4,n4,c4,x4),(D3,m3,d3,y3),(A3,n3,c3,x3),(D2,m2,d2,y2),(A2,n2,c2,x2),(D1,m1,d1,y1),(A1,n1,c1,x1)])
 case first=>
  have SD:=Lib.hid (S.out.drew)
  go_region_with (first
   | (go_at_call_of 82 (Value.agg #[.bool b1,.slice A1 n1 c1,.slice D1 m1 d1,.bool b2,.slice A2 n2 c2,.slice D2 m2 d2]);refine (hK1.out _ (Rw.of (SD.out.r 7 rfl) (SD.out.r 6 rfl) k1.out) (Rw.of (SD.out.r 5 rfl) (SD.out.r 4 rfl) k2.out)).mono ?_;rintro e w2 ⟨A11,n11,c11,D11,m11,d11,A12,n12,c12,D12,m12,d12,rfl,Q11,Q12,bb0⟩;have S0:St w w2 [(w.heap.size+1+1,#[.bool false,.slice none 0 0,.slice none 0 0,.bool false,.slice none 0 0,.slice none 0 0],28),(w.heap.size+1,#[.bool b3,.slice A3 n3 c3,.slice D3 m3 d3,.bool b4,.slice A4 n4 c4,.slice D4 m4 d4],28),(w.heap.size,#[.bool b1,.slice A1 n1 c1,.slice D1 m1 d1,.bool b2,.slice A2 n2 c2,.slice D2 m2 d2],28)] [(D12,m12,d12,dn q6),(A12,n12,c12,limbs q6.num.natAbs),(D11,m11,d11,dn q5),(A11,n11,c11,limbs q5.num.natAbs),(D4,m4,d4,y4),(A4,n4,c4,x4),(D3,m3,d3,y3),(A3,n3,c3,x3),(D2,m2,d2,y2),(A2,n2,c2,x2),(D1,m1,d1,y1),(A1,n1,c1,x1)]:=(((((SD.out.call bb0).read Q11.n).read Q11.d).read Q12.n).read Q12.d);have e0_b0:=St.cl (S0) 1 0 rfl rfl;have e0_b1:=St.cl (S0) 1 1 rfl rfl;have e0_b2:=St.cl (S0) 1 2 rfl rfl;have e0_b3:=St.cl (S0) 1 3 rfl rfl;have e0_b4:=St.cl (S0) 1 4 rfl rfl;have e0_b5:=St.cl (S0) 1 5 rfl rfl)
   | (go_at_call_of 82 (Value.agg #[.bool b3,.slice A3 n3 c3,.slice D3 m3 d3,.bool b4,.slice A4 n4 c4,.slice D4 m4 d4]);refine (hK2.out _ (Rw.of (S0.r 7 rfl) (S0.r 6 rfl) k3.out) (Rw.of (S0.r 5 rfl) (S0.r 4 rfl) k4.out)).mono ?_;rintro e w3 ⟨A13,n13,c13,D13,m13,d13,A14,n14,c14,D14,m14,d14,rfl,Q13,Q14,bb1⟩;have S1:St w w3 [(w.heap.size+1+1,#[.bool false,.slice none 0 0,.slice none 0 0,.bool false,.slice none 0 0,.slice none 0 0],28),(w.heap.size+1,#[.bool b3,.slice A3 n3 c3,.slice D3 m3 d3,.bool b4,.slice A4 n4 c4,.slice D4 m4 d4],28),(w.heap.size,#[.bool b1,.slice A1 n1 c1,.slice D1 m1 d1,.bool b2,.slice A2 n2 c2,.slice D2 m2 d2],28)] [(D14,m14,d14,dn q8),(A14,n14,c14,limbs q8.num.natAbs),(D13,m13,d13,dn q7),(A13,n13,c13,limbs q7.num.natAbs),(D12,m12,d12,dn q6),(A12,n12,c12,limbs q6.num.natAbs),(D11,m11,d11,dn q5),(A11,n11,c11,limbs q5.num.natAbs),(D4,m4,d4,y4),(A4,n4,c4,x4),(D3,m3,d3,y3),(A3,n3,c3,x3),(D2,m2,d2,y2),(A2,n2,c2,x2),(D1,m1,d1,y1),(A1,n1,c1,x1)]:=(((((S0.call bb1).read Q13.n).read Q13.d).read Q14.n).read Q14.d);have e1_a0:=St.cl (S1) 2 0 rfl rfl;have e1_a1:=St.cl (S1) 2 1 rfl rfl;have e1_a2:=St.cl (S1) 2 2 rfl rfl;have e1_a3:=St.cl (S1) 2 3 rfl rfl;have e1_a4:=St.cl (S1) 2 4 rfl rfl;have e1_a5:=St.cl (S1) 2 5 rfl rfl;have e1_b0:=St.cl (S1) 1 0 rfl rfl;have e1_b1:=St.cl (S1) 1 1 rfl rfl;have e1_b2:=St.cl (S1) 1 2 rfl rfl;have e1_b3:=St.cl (S1) 1 3 rfl rfl;have e1_b4:=St.cl (S1) 1 4 rfl rfl;have e1_b5:=St.cl (S1) 1 5 rfl rfl;have e1z_a0:=St.f (S1) 2 0 rfl;have e1z_a1:=St.f (S1) 2 1 rfl;have e1z_a2:=St.f (S1) 2 2 rfl;have e1z_a3:=St.f (S1) 2 3 rfl;have e1z_a4:=St.f (S1) 2 4 rfl;have e1z_a5:=St.f (S1) 2 5 rfl;have e1z_b0:=St.f (S1) 1 0 rfl;have e1z_b1:=St.f (S1) 1 1 rfl;have e1z_b2:=St.f (S1) 1 2 rfl;have e1z_b3:=St.f (S1) 1 3 rfl;have e1z_b4:=St.f (S1) 1 4 rfl;have e1z_b5:=St.f (S1) 1 5 rfl))
  all_goals
   have SE:=Lib.hid (((((((((((((S1.set 2 0 (.bool (ng q5.num)) rfl (by nofun)).set 2 1 (.slice A11 n11 c11) rfl (by nofun)).set 2 2 (.slice D11 m11 d11) rfl (by nofun)).set 2 3 (.bool (ng q6.num)) rfl (by nofun)).set 2 4 (.slice A12 n12 c12) rfl (by nofun)).set 2 5 (.slice D12 m12 d12) rfl (by nofun)).set 1 0 (.bool (ng q7.num)) rfl (by nofun)).set 1 1 (.slice A13 n13 c13) rfl (by nofun)).set 1 2 (.slice D13 m13 d13) rfl (by nofun)).set 1 3 (.bool (ng q8.num)) rfl (by nofun)).set 1 4 (.slice A14 n14 c14) rfl (by nofun)).set 1 5 (.slice D14 m14 d14) rfl (by nofun)))
   clear d_a0 d_a1 d_a2 d_a3 d_a4 d_a5 d_b0 d_b1 d_b2 d_b3 d_b4 d_b5 dz_a0 dz_a1 dz_a2 dz_a3 dz_a4 dz_a5 dz_b0 dz_b1 dz_b2 dz_b3 dz_b4 dz_b5 e0_b0 e0_b1 e0_b2 e0_b3 e0_b4 e0_b5 e1_a0 e1_a1 e1_a2 e1_a3 e1_a4 e1_a5 e1_b0 e1_b1 e1_b2 e1_b3 e1_b4 e1_b5 e1z_a0 e1z_a1 e1z_a2 e1z_a3 e1z_a4 e1z_a5 e1z_b0 e1z_b1 e1z_b2 e1z_b3 e1z_b4 e1z_b5
   go_wp2_with fail
   go_meet
   exact⟨_,_,_,_,_,_,_,_,_,_,_,_,_,_,_,_,_,_,_,_,_,_,_,_,SE.out⟩
 case rest=>
  clear d_a0 d_a1 d_a2 d_a3 d_a4 d_a5 d_b0 d_b1 d_b2 d_b3 d_b4 d_b5 dz_a0 dz_a1 dz_a2 dz_a3 dz_a4 dz_a5 dz_b0 dz_b1 dz_b2 dz_b3 dz_b4 dz_b5
  clear S
  obtain⟨A11,n11,c11,D11,m11,d11,A12,n12,c12,D12,m12,d12,A13,n13,c13,D13,m13,d13,A14,n14,c14,D14,m14,d14,S⟩:=hcut
  obtain⟨c_r0,c_r1,c_r2,c_r3,c_r4,c_r5,f_r0,f_r1,f_r2,f_r3,f_r4,f_r5⟩:=S.cf6 0 rfl
  obtain⟨c_b0,c_b1,c_b2,c_b3,c_b4,c_b5,f_b0,f_b1,f_b2,f_b3,f_b4,f_b5⟩:=S.cf6 1 rfl
  obtain⟨c_a0,c_a1,c_a2,c_a3,c_a4,c_a5,f_a0,f_a1,f_a2,f_a3,f_a4,f_a5⟩:=S.cf6 2 rfl
  have hz:w.heap.size+1+1<wc.heap.size:=S.lt 0 rfl
  replace S:=Lib.hid S
  clear hK1 hK2
  go_upto_region 2 with fail
  clear c_r0 f_r0 c_r1 f_r1 c_r2 f_r2 c_r3 f_r3 c_r4 f_r4 c_r5 f_r5 c_b0 f_b0 c_b1 f_b1 c_b2 f_b2 c_b3 f_b3 c_b4 f_b4 c_b5 f_b5 c_a0 f_a0 c_a1 f_a1 c_a2 f_a2 c_a3 f_a3 c_a4 f_a4 c_a5 f_a5 hz
  refine RW.begin (Z:=[⟨10,6,#[.bool false,.slice none 0 0,.slice none 0 0],26⟩,⟨11,7,#[.bool false,.slice none 0 0,.slice none 0 0],26⟩]) (S:=(fun W=>Cb W (w.heap.size) #[.bool (ng q5.num),.slice A11 n11 c11,.slice D11 m11 d11,.bool (ng q6.num),.slice A12 n12 c12,.slice D12 m12 d12] 28∧Cb W (w.heap.size+1) #[.bool (ng q7.num),.slice A13 n13 c13,.slice D13 m13 d13,.bool (ng q8.num),.slice A14 n14 c14,.slice D14 m14 d14] 28)) (by kernel_rfl) ?_ S.out ?_
  ·exact⟨by kernel_rfl,(zis_cons at10 (fun _ _=>by kernel_rfl) (zis_cons at11 (fun _ _=>by kernel_rfl) zis_nil)),by decide,by decide,(nol_cons (noL3 _ _ _ _ _ _ _) (nol_cons (noL3 _ _ _ _ _ _ _) nol_nil)),(fun _ _ h=>⟨h.kb 2 rfl,h.kb 1 rfl⟩)⟩
  intro hzk
  clear S
  refine RW.t (i:=0) (v:=.pointer (some ⟨w.heap.size,0,none⟩)) (some 12) at0 (hy:=fun _ _=>by kernel_rfl) (h:=?_)
  refine RW.t (i:=1) (v:=.agg #[.bool (ng q5.num),.slice A11 n11 c11,.slice D11 m11 d11]) (some 13) at1 (hy:=fun W hS=>by (have k0:=Cb.cell (i:=0) hS.1 rfl;have k1:=Cb.cell (i:=1) hS.1 rfl;have k2:=Cb.cell (i:=2) hS.1 rfl;clear hS;go_simp)) (h:=?_)
  refine RW.t (i:=2) (v:=.pointer (some ⟨w.heap.size+1,0,none⟩)) (some 14) at2 (hy:=fun _ _=>by kernel_rfl) (h:=?_)
  refine RW.t (i:=3) (v:=.agg #[.bool (ng q7.num),.slice A13 n13 c13,.slice D13 m13 d13]) (some 15) at3 (hy:=fun W hS=>by (have k0:=Cb.cell (i:=0) hS.2 rfl;have k1:=Cb.cell (i:=1) hS.2 rfl;have k2:=Cb.cell (i:=2) hS.2 rfl;clear hS;go_simp)) (h:=?_)
  refine RW.t (i:=5) (v:=.pointer (some ⟨w.heap.size,3,none⟩)) (some 17) at5 (hy:=fun _ _=>by kernel_rfl) (h:=?_)
  refine RW.t (i:=6) (v:=.agg #[.bool (ng q6.num),.slice A12 n12 c12,.slice D12 m12 d12]) (some 18) at6 (hy:=fun W hS=>by (have k3:=Cb.cell (i:=3) hS.1 rfl;have k4:=Cb.cell (i:=4) hS.1 rfl;have k5:=Cb.cell (i:=5) hS.1 rfl;clear hS;go_simp)) (h:=?_)
  refine RW.t (i:=7) (v:=.pointer (some ⟨w.heap.size+1,3,none⟩)) (some 19) at7 (hy:=fun _ _=>by kernel_rfl) (h:=?_)
  refine RW.t (i:=8) (v:=.agg #[.bool (ng q8.num),.slice A14 n14 c14,.slice D14 m14 d14]) (some 20) at8 (hy:=fun W hS=>by (have k3:=Cb.cell (i:=3) hS.2 rfl;have k4:=Cb.cell (i:=4) hS.2 rfl;have k5:=Cb.cell (i:=5) hS.2 rfl;clear hS;go_simp)) (h:=?_)
  refine RW.c (i:=4) (args:=#[.agg #[.bool (ng q5.num),.slice A11 n11 c11,.slice D11 m11 d11],.agg #[.bool (ng q7.num),.slice A13 n13 c13,.slice D13 m13 d13]]) (some 16) hzk.out at4 (hx:=fun _=>by kernel_rfl) (h:=fun _ S=>(hG.out _ _ _ _ _ _ _ _ _ _ _ _ _ ⟨S.r 7 rfl,S.r 6 rfl⟩ ⟨S.r 3 rfl,S.r 2 rfl⟩).mono ?_)
  rintro e w5 ⟨A31,n31,c31,D31,m31,d31,rfl,Q31,bb⟩
  refine⟨bb,_,[(D31,m31,d31,dn lo),(A31,n31,c31,limbs lo.num.natAbs)],rfl,(rd_cons Q31.d (rd_cons Q31.n rd_nil)),?_⟩
  clear bb S Q31
  refine RW.c (i:=9) (args:=#[.agg #[.bool (ng q6.num),.slice A12 n12 c12,.slice D12 m12 d12],.agg #[.bool (ng q8.num),.slice A14 n14 c14,.slice D14 m14 d14]]) (some 21) hzk.out at9 (hx:=fun _=>by kernel_rfl) (h:=fun _ S=>(hL.out _ _ _ _ _ _ _ _ _ _ _ _ _ ⟨S.r 7 rfl,S.r 6 rfl⟩ ⟨S.r 3 rfl,S.r 2 rfl⟩).mono ?_)
  rintro e w6 ⟨A32,n32,c32,D32,m32,d32,rfl,Q32,bb⟩
  refine⟨bb,_,[(D32,m32,d32,dn hi),(A32,n32,c32,limbs hi.num.natAbs)],rfl,(rd_cons Q32.d (rd_cons Q32.n rd_nil)),?_⟩
  clear bb S Q32
  refine RW.tail hzk.out (by kernel_rfl) ?_
  intro gs w7 hgs hS S
  obtain⟨g_lo,g_hi,rfl⟩:=len2 hgs
  clear hS hgs hzk
  simp only[mark,fill,List.map,Act.put,List.setIfInBounds_toArray,List.set_cons_zero,List.set_cons_succ]
  replace S:=Lib.hid S
  refine Wk.o (i:=12) at12 (by kernel_rfl) fun K' hK=>?_
  have q12_lo0:=St.cl (S.out) 0 0 rfl rfl
  have q12_lo1:=St.cl (S.out) 0 1 rfl rfl
  have q12_lo2:=St.cl (S.out) 0 2 rfl rfl
  have q12z_lo0:=St.f (S.out) 0 0 rfl
  have q12z_lo1:=St.f (S.out) 0 1 rfl
  have q12z_lo2:=St.f (S.out) 0 2 rfl
  go_simp
  have SN:=(((S.out.set 0 0 (.bool (ng lo.num)) rfl (by nofun)).set 0 1 (.slice A31 n31 c31) rfl (by nofun)).set 0 2 (.slice D31 m31 d31) rfl (by nofun))
  clear S q12_lo0 q12_lo1 q12_lo2 q12z_lo0 q12z_lo1 q12z_lo2
  have S:=SN
  clear SN
  refine hK.out _ _ ⟨(S.cb 4 rfl),(S.cb 3 rfl)⟩ ?_
  clear hK K'
  replace S:=Lib.hid S
  try simp only[Act.put,List.setIfInBounds_toArray,List.set_cons_zero,List.set_cons_succ]
  refine Wk.o (i:=13) at13 (by kernel_rfl) fun K' hK=>?_
  have q13_hi0:=St.cl (S.out) 1 0 rfl rfl
  have q13_hi1:=St.cl (S.out) 1 1 rfl rfl
  have q13_hi2:=St.cl (S.out) 1 2 rfl rfl
  have q13z_hi0:=St.f (S.out) 1 0 rfl
  have q13z_hi1:=St.f (S.out) 1 1 rfl
  have q13z_hi2:=St.f (S.out) 1 2 rfl
  go_simp
  have SN:=(((S.out.set 1 0 (.bool (ng hi.num)) rfl (by nofun)).set 1 1 (.slice A32 n32 c32) rfl (by nofun)).set 1 2 (.slice D32 m32 d32) rfl (by nofun))
  clear S q13_hi0 q13_hi1 q13_hi2 q13z_hi0 q13z_hi1 q13z_hi2
  have S:=SN
  clear SN
  refine hK.out _ _ ⟨(S.cb 4 rfl),(S.cb 3 rfl)⟩ ?_
  clear hK K'
  replace S:=Lib.hid S
  try simp only[Act.put,List.setIfInBounds_toArray,List.set_cons_zero,List.set_cons_succ]
  refine Wk.done (by kernel_rfl) ?_
  go_simp
  replace S:=S.out
  have S:St w _ [(g_lo,#[.bool (ng lo.num),.slice A31 n31 c31,.slice D31 m31 d31],26),(g_hi,#[.bool (ng hi.num),.slice A32 n32 c32,.slice D32 m32 d32],26),(w.heap.size+1+1,#[.bool false,.slice none 0 0,.slice none 0 0,.bool false,.slice none 0 0,.slice none 0 0],28),(w.heap.size+1,#[.bool (ng q7.num),.slice A13 n13 c13,.slice D13 m13 d13,.bool (ng q8.num),.slice A14 n14 c14,.slice D14 m14 d14],28),(w.heap.size,#[.bool (ng q5.num),.slice A11 n11 c11,.slice D11 m11 d11,.bool (ng q6.num),.slice A12 n12 c12,.slice D12 m12 d12],28)] [(D32,m32,d32,dn hi),(A32,n32,c32,limbs hi.num.natAbs),(D31,m31,d31,dn lo),(A31,n31,c31,limbs lo.num.natAbs),(D14,m14,d14,dn q8),(A14,n14,c14,limbs q8.num.natAbs),(D13,m13,d13,dn q7),(A13,n13,c13,limbs q7.num.natAbs),(D12,m12,d12,dn q6),(A12,n12,c12,limbs q6.num.natAbs),(D11,m11,d11,dn q5),(A11,n11,c11,limbs q5.num.natAbs),(D4,m4,d4,y4),(A4,n4,c4,x4),(D3,m3,d3,y3),(A3,n3,c3,x3),(D2,m2,d2,y2),(A2,n2,c2,x2),(D1,m1,d1,y1),(A1,n1,c1,x1)]:=S
  generalize hW8:(World.setCell (World.setCell (World.setCell (World.setCell (World.setCell (World.setCell w7 ⟨g_lo,0,none⟩ (.bool (ng lo.num))) ⟨g_lo,1,none⟩ (.slice A31 n31 c31)) ⟨g_lo,2,none⟩ (.slice D31 m31 d31)) ⟨g_hi,0,none⟩ (.bool (ng hi.num))) ⟨g_hi,1,none⟩ (.slice A32 n32 c32)) ⟨g_hi,2,none⟩ (.slice D32 m32 d32))=w8 at S ⊢
  clear hW8
  replace S:=Lib.hid S
  replace S:=S.out
  obtain⟨c_lo0,c_lo1,c_lo2,f_lo0,f_lo1,f_lo2⟩:=S.cf3 0 rfl
  obtain⟨c_hi0,c_hi1,c_hi2,f_hi0,f_hi1,f_hi2⟩:=S.cf3 1 rfl
  obtain⟨c_r0,c_r1,c_r2,c_r3,c_r4,c_r5,f_r0,f_r1,f_r2,f_r3,f_r4,f_r5⟩:=S.cf6 2 rfl
  obtain⟨c_b0,c_b1,c_b2,c_b3,c_b4,c_b5,f_b0,f_b1,f_b2,f_b3,f_b4,f_b5⟩:=S.cf6 3 rfl
  obtain⟨c_a0,c_a1,c_a2,c_a3,c_a4,c_a5,f_a0,f_a1,f_a2,f_a3,f_a4,f_a5⟩:=S.cf6 4 rfl
  have hz:g_lo<w8.heap.size:=S.lt 0 rfl
  replace S:=Lib.hid S
  clear hG hL
  go_wp2_with fail
  refine (hO.out _ _ _ _ _ _ _ _ _ _ _ _ _ ⟨S.out.r 1 rfl,S.out.r 0 rfl⟩ ⟨S.out.r 3 rfl,S.out.r 2 rfl⟩).mono ?_
  rintro e w9 ⟨rfl,bb⟩
  have T:=(S.out.call bb)
  clear bb S c_lo0 f_lo0 c_lo1 f_lo1 c_lo2 f_lo2 c_hi0 f_hi0 c_hi1 f_hi1 c_hi2 f_hi2 c_r0 f_r0 c_r1 f_r1 c_r2 f_r2 c_r3 f_r3 c_r4 f_r4 c_r5 f_r5 c_b0 f_b0 c_b1 f_b1 c_b2 f_b2 c_b3 f_b3 c_b4 f_b4 c_b5 f_b5 c_a0 f_a0 c_a1 f_a1 c_a2 f_a2 c_a3 f_a3 c_a4 f_a4 c_a5 f_a5 hz
  have S:=T
  clear T
  obtain⟨c_lo0,c_lo1,c_lo2,f_lo0,f_lo1,f_lo2⟩:=S.cf3 0 rfl
  obtain⟨c_hi0,c_hi1,c_hi2,f_hi0,f_hi1,f_hi2⟩:=S.cf3 1 rfl
  obtain⟨c_r0,c_r1,c_r2,c_r3,c_r4,c_r5,f_r0,f_r1,f_r2,f_r3,f_r4,f_r5⟩:=S.cf6 2 rfl
  obtain⟨c_b0,c_b1,c_b2,c_b3,c_b4,c_b5,f_b0,f_b1,f_b2,f_b3,f_b4,f_b5⟩:=S.cf6 3 rfl
  obtain⟨c_a0,c_a1,c_a2,c_a3,c_a4,c_a5,f_a0,f_a1,f_a2,f_a3,f_a4,f_a5⟩:=S.cf6 4 rfl
  have hz:g_lo<w9.heap.size:=S.lt 0 rfl
  replace S:=Lib.hid S
  clear hO
  have S:St w _ [(g_lo,#[.bool (ng lo.num),.slice A31 n31 c31,.slice D31 m31 d31],26),(g_hi,#[.bool (ng hi.num),.slice A32 n32 c32,.slice D32 m32 d32],26),(w.heap.size+1+1,#[.bool (ng lo.num),.slice A31 n31 c31,.slice D31 m31 d31,.bool (ng hi.num),.slice A32 n32 c32,.slice D32 m32 d32],28),(w.heap.size+1,#[.bool (ng q7.num),.slice A13 n13 c13,.slice D13 m13 d13,.bool (ng q8.num),.slice A14 n14 c14,.slice D14 m14 d14],28),(w.heap.size,#[.bool (ng q5.num),.slice A11 n11 c11,.slice D11 m11 d11,.bool (ng q6.num),.slice A12 n12 c12,.slice D12 m12 d12],28)] [(D32,m32,d32,dn hi),(A32,n32,c32,limbs hi.num.natAbs),(D31,m31,d31,dn lo),(A31,n31,c31,limbs lo.num.natAbs),(D14,m14,d14,dn q8),(A14,n14,c14,limbs q8.num.natAbs),(D13,m13,d13,dn q7),(A13,n13,c13,limbs q7.num.natAbs),(D12,m12,d12,dn q6),(A12,n12,c12,limbs q6.num.natAbs),(D11,m11,d11,dn q5),(A11,n11,c11,limbs q5.num.natAbs),(D4,m4,d4,y4),(A4,n4,c4,x4),(D3,m3,d3,y3),(A3,n3,c3,x3),(D2,m2,d2,y2),(A2,n2,c2,x2),(D1,m1,d1,y1),(A1,n1,c1,x1)]:=((((((S.out.set 2 0 (.bool (ng lo.num)) rfl (by nofun)).set 2 1 (.slice A31 n31 c31) rfl (by nofun)).set 2 2 (.slice D31 m31 d31) rfl (by nofun)).set 2 3 (.bool (ng hi.num)) rfl (by nofun)).set 2 4 (.slice A32 n32 c32) rfl (by nofun)).set 2 5 (.slice D32 m32 d32) rfl (by nofun))
  replace S:=Lib.hid S
  go_wp2
  refine bodyPost_ret (res_rmeet _ _ (w.heap.size+1+1) 28 rfl rfl (S.out.bk _ (List.mem_of_getElem? (i:=2) rfl)).1) rfl ?_
  exact⟨_,_,_,_,_,_,_,_,_,_,_,_,rfl,⟨S.out.r 3 rfl,S.out.r 2 rfl⟩,⟨S.out.r 1 rfl,S.out.r 0 rfl⟩,S.out.bel⟩
end Go.Proofs.YtphckmdnflbloaaGreat

namespace Go.Proofs.YtphckmdnflbloaaGreat
open Go.RowKit RQ
theorem res_rroot4 (W:World) (tmps:Array Value) (g t:Nat) {v0 v1 v2 v3 v4 v5 e0:Value} (ht:tmps.getD 4 undef=.pointer (some ⟨g,0,none⟩)) (h0:tmps.getD 5 undef=e0) (h:Cb W g #[v0,v1,v2,v3,v4,v5] t) :
  (results Tryz.f31 tmps).run Tryz.prog W=.ok (.tuple #[.agg #[v0,v1,v2,v3,v4,v5],e0]) W:=by
 have c0:W.cell? ⟨g,0,none⟩=some v0:=h.cell rfl
 have c1:W.cell? ⟨g,1,none⟩=some v1:=h.cell rfl
 have c2:W.cell? ⟨g,2,none⟩=some v2:=h.cell rfl
 have c3:W.cell? ⟨g,3,none⟩=some v3:=h.cell rfl
 have c4:W.cell? ⟨g,4,none⟩=some v4:=h.cell rfl
 have c5:W.cell? ⟨g,5,none⟩=some v5:=h.cell rfl
 have ht':tmps[4]?.getD undef=.pointer (some ⟨g,0,none⟩):=by rw[←ht];simp[Array.getD_eq_getD_getElem?]
 have k0:tmps[5]?.getD undef=e0:=by rw[←h0];simp[Array.getD_eq_getD_getElem?]
 simp[results,Tryz.results31,go_sem,ht',k0,c0,c1,c2,c3,c4,c5]
set_option maxRecDepth 100000 in
set_option maxHeartbeats 4000000 in
theorem rroot_no1 (b1:Bool) (A1:Option Addr) (n1 c1:Nat) (x1:List Nat) (D1:Option Addr) (m1 d1:Nat) (y1:List Nat) (q1:Rat) (s:Int) (h:q1<0) (w:World) (X1:Rw w b1 A1 n1 c1 x1 D1 m1 d1 y1 q1):Calls Tryz.prog 31 #[.agg #[.bool b1,.slice A1 n1 c1,.slice D1 m1 d1],.int .i64 s] w (RetVE 0 0 (.int .i64 1) w):=by
 have hS:Hid (∀ W,Rw W b1 A1 n1 c1 x1 D1 m1 d1 y1 q1→Calls Tryz.prog 37 #[.agg #[.bool b1,.slice A1 n1 c1,.slice D1 m1 d1]] W fun e w'=>e=.returned (.int .i64 q1.num.sign)∧Below W.heap.size W w'):=Lib.hid fun W h=>by
  have:=rsignR_any b1 A1 n1 c1 x1 D1 m1 d1 y1 W h.rn h.rd (by have:=h.k.2.1;omega) (by have:=h.k.2.2;omega)
  rwa [h.k.1] at this
 have g1:decide (q1.num.sign<0)=true:=decide_eq_true (Int.sign_neg_iff.2 ((num_lt0 _).2 h))
 clear h
 generalize q1.num.sign=sg at *
 have k1:=Lib.hid X1.k
 have S:=(((((St.new w).read X1.rn).read X1.rd).allocAt (w.heap.size) #[.bool b1,.slice A1 n1 c1,.slice D1 m1 d1] 26 (noL3 _ _ _ _ _ _ _) (by simp)).allocAt (w.heap.size+1) #[.bool false,.slice none 0 0,.slice none 0 0,.bool false,.slice none 0 0,.slice none 0 0] 28 (noL6 _ _ _ _ _ _ _ _ _ _ _ _ _ _) (by simp))
 replace S:=Lib.hid S
 clear X1
 go_enter Tryz.func31,Tryz.ntmps31
 go_wp2_with fail
 refine (hS.out _ (Rw.of (S.out.r 1 rfl) (S.out.r 0 rfl) k1.out)).mono ?_
 rintro e w1 ⟨rfl,bb⟩
 have T:=(S.out.call bb)
 clear bb S
 have S:=T
 clear T
 obtain⟨c_r0,c_r1,c_r2,c_r3,c_r4,c_r5,f_r0,f_r1,f_r2,f_r3,f_r4,f_r5⟩:=S.cf6 0 rfl
 obtain⟨c_v0,c_v1,c_v2,f_v0,f_v1,f_v2⟩:=S.cf3 1 rfl
 have hz:w.heap.size+1<w1.heap.size:=S.lt 0 rfl
 replace S:=Lib.hid S
 clear hS
 have S:St w _ [(w.heap.size+1,#[.bool false,.slice none 0 0,.slice none 0 0,.bool false,.slice none 0 0,.slice none 0 0],28),(w.heap.size,#[.bool b1,.slice A1 n1 c1,.slice D1 m1 d1],26)] [(D1,m1,d1,y1),(A1,n1,c1,x1)]:=((((((S.out.set 0 0 (.bool false) rfl (by nofun)).set 0 1 (.slice none 0 0) rfl (by nofun)).set 0 2 (.slice none 0 0) rfl (by nofun)).set 0 3 (.bool false) rfl (by nofun)).set 0 4 (.slice none 0 0) rfl (by nofun)).set 0 5 (.slice none 0 0) rfl (by nofun))
 replace S:=Lib.hid S
 go_wp2
 refine bodyPost_ret (res_rroot4 _ _ (w.heap.size+1) 28 rfl rfl (S.out.bk _ (List.mem_of_getElem? (i:=0) rfl)).1) rfl ?_
 exact⟨_,_,_,_,_,_,_,_,_,_,_,_,rfl,zero_RR _ _ _ _ _,zero_RR _ _ _ _ _,S.out.bel⟩
set_option maxRecDepth 100000 in
set_option maxHeartbeats 4000000 in
theorem rroot_no2 (b1:Bool) (A1:Option Addr) (n1 c1:Nat) (x1:List Nat) (D1:Option Addr) (m1 d1:Nat) (y1:List Nat) (q1:Rat) (s:Int) (hq:¬ q1<0) (h:s<0) (w:World) (X1:Rw w b1 A1 n1 c1 x1 D1 m1 d1 y1 q1):Calls Tryz.prog 31 #[.agg #[.bool b1,.slice A1 n1 c1,.slice D1 m1 d1],.int .i64 s] w (RetVE 0 0 (.int .i64 1) w):=by
 have hS:Hid (∀ W,Rw W b1 A1 n1 c1 x1 D1 m1 d1 y1 q1→Calls Tryz.prog 37 #[.agg #[.bool b1,.slice A1 n1 c1,.slice D1 m1 d1]] W fun e w'=>e=.returned (.int .i64 q1.num.sign)∧Below W.heap.size W w'):=Lib.hid fun W h=>by
  have:=rsignR_any b1 A1 n1 c1 x1 D1 m1 d1 y1 W h.rn h.rd (by have:=h.k.2.1;omega) (by have:=h.k.2.2;omega)
  rwa [h.k.1] at this
 have g1:decide (q1.num.sign<0)=false:=decide_eq_false (fun h'=>hq ((num_lt0 _).1 (Int.sign_neg_iff.1 h')))
 clear hq
 have g2:decide (s<0)=true:=decide_eq_true h
 clear h
 generalize q1.num.sign=sg at *
 have k1:=Lib.hid X1.k
 have S:=(((((St.new w).read X1.rn).read X1.rd).allocAt (w.heap.size) #[.bool b1,.slice A1 n1 c1,.slice D1 m1 d1] 26 (noL3 _ _ _ _ _ _ _) (by simp)).allocAt (w.heap.size+1) #[.bool false,.slice none 0 0,.slice none 0 0,.bool false,.slice none 0 0,.slice none 0 0] 28 (noL6 _ _ _ _ _ _ _ _ _ _ _ _ _ _) (by simp))
 replace S:=Lib.hid S
 clear X1
 go_enter Tryz.func31,Tryz.ntmps31
 go_wp2_with fail
 refine (hS.out _ (Rw.of (S.out.r 1 rfl) (S.out.r 0 rfl) k1.out)).mono ?_
 rintro e w1 ⟨rfl,bb⟩
 have T:=(S.out.call bb)
 clear bb S
 have S:=T
 clear T
 obtain⟨c_r0,c_r1,c_r2,c_r3,c_r4,c_r5,f_r0,f_r1,f_r2,f_r3,f_r4,f_r5⟩:=S.cf6 0 rfl
 obtain⟨c_v0,c_v1,c_v2,f_v0,f_v1,f_v2⟩:=S.cf3 1 rfl
 have hz:w.heap.size+1<w1.heap.size:=S.lt 0 rfl
 replace S:=Lib.hid S
 clear hS
 have S:St w _ [(w.heap.size+1,#[.bool false,.slice none 0 0,.slice none 0 0,.bool false,.slice none 0 0,.slice none 0 0],28),(w.heap.size,#[.bool b1,.slice A1 n1 c1,.slice D1 m1 d1],26)] [(D1,m1,d1,y1),(A1,n1,c1,x1)]:=((((((S.out.set 0 0 (.bool false) rfl (by nofun)).set 0 1 (.slice none 0 0) rfl (by nofun)).set 0 2 (.slice none 0 0) rfl (by nofun)).set 0 3 (.bool false) rfl (by nofun)).set 0 4 (.slice none 0 0) rfl (by nofun)).set 0 5 (.slice none 0 0) rfl (by nofun))
 replace S:=Lib.hid S
 go_wp2
 refine bodyPost_ret (res_rroot4 _ _ (w.heap.size+1) 28 rfl rfl (S.out.bk _ (List.mem_of_getElem? (i:=0) rfl)).1) rfl ?_
 exact⟨_,_,_,_,_,_,_,_,_,_,_,_,rfl,zero_RR _ _ _ _ _,zero_RR _ _ _ _ _,S.out.bel⟩
set_option maxRecDepth 100000 in
set_option maxHeartbeats 4000000 in
theorem rroot_no3 (b1:Bool) (A1:Option Addr) (n1 c1:Nat) (x1:List Nat) (D1:Option Addr) (m1 d1:Nat) (y1:List Nat) (q1:Rat) (s:Int) (hq:¬ q1<0) (h0:¬ s<0) (h:128<s) (w:World) (X1:Rw w b1 A1 n1 c1 x1 D1 m1 d1 y1 q1):Calls Tryz.prog 31 #[.agg #[.bool b1,.slice A1 n1 c1,.slice D1 m1 d1],.int .i64 s] w (RetVE 0 0 (.int .i64 1) w):=by
 have hS:Hid (∀ W,Rw W b1 A1 n1 c1 x1 D1 m1 d1 y1 q1→Calls Tryz.prog 37 #[.agg #[.bool b1,.slice A1 n1 c1,.slice D1 m1 d1]] W fun e w'=>e=.returned (.int .i64 q1.num.sign)∧Below W.heap.size W w'):=Lib.hid fun W h=>by
  have:=rsignR_any b1 A1 n1 c1 x1 D1 m1 d1 y1 W h.rn h.rd (by have:=h.k.2.1;omega) (by have:=h.k.2.2;omega)
  rwa [h.k.1] at this
 have g1:decide (q1.num.sign<0)=false:=decide_eq_false (fun h'=>hq ((num_lt0 _).1 (Int.sign_neg_iff.1 h')))
 clear hq
 have g2:decide (s<0)=false:=decide_eq_false h0
 have g3:decide (128<s)=true:=decide_eq_true h
 clear h h0
 generalize q1.num.sign=sg at *
 have k1:=Lib.hid X1.k
 have S:=(((((St.new w).read X1.rn).read X1.rd).allocAt (w.heap.size) #[.bool b1,.slice A1 n1 c1,.slice D1 m1 d1] 26 (noL3 _ _ _ _ _ _ _) (by simp)).allocAt (w.heap.size+1) #[.bool false,.slice none 0 0,.slice none 0 0,.bool false,.slice none 0 0,.slice none 0 0] 28 (noL6 _ _ _ _ _ _ _ _ _ _ _ _ _ _) (by simp))
 replace S:=Lib.hid S
 clear X1
 go_enter Tryz.func31,Tryz.ntmps31
 go_wp2_with fail
 refine (hS.out _ (Rw.of (S.out.r 1 rfl) (S.out.r 0 rfl) k1.out)).mono ?_
 rintro e w1 ⟨rfl,bb⟩
 have T:=(S.out.call bb)
 clear bb S
 have S:=T
 clear T
 obtain⟨c_r0,c_r1,c_r2,c_r3,c_r4,c_r5,f_r0,f_r1,f_r2,f_r3,f_r4,f_r5⟩:=S.cf6 0 rfl
 obtain⟨c_v0,c_v1,c_v2,f_v0,f_v1,f_v2⟩:=S.cf3 1 rfl
 have hz:w.heap.size+1<w1.heap.size:=S.lt 0 rfl
 replace S:=Lib.hid S
 clear hS
 have S:St w _ [(w.heap.size+1,#[.bool false,.slice none 0 0,.slice none 0 0,.bool false,.slice none 0 0,.slice none 0 0],28),(w.heap.size,#[.bool b1,.slice A1 n1 c1,.slice D1 m1 d1],26)] [(D1,m1,d1,y1),(A1,n1,c1,x1)]:=((((((S.out.set 0 0 (.bool false) rfl (by nofun)).set 0 1 (.slice none 0 0) rfl (by nofun)).set 0 2 (.slice none 0 0) rfl (by nofun)).set 0 3 (.bool false) rfl (by nofun)).set 0 4 (.slice none 0 0) rfl (by nofun)).set 0 5 (.slice none 0 0) rfl (by nofun))
 replace S:=Lib.hid S
 go_wp2
 refine bodyPost_ret (res_rroot4 _ _ (w.heap.size+1) 28 rfl rfl (S.out.bk _ (List.mem_of_getElem? (i:=0) rfl)).1) rfl ?_
 exact⟨_,_,_,_,_,_,_,_,_,_,_,_,rfl,zero_RR _ _ _ _ _,zero_RR _ _ _ _ _,S.out.bel⟩
set_option maxRecDepth 100000 in
set_option maxHeartbeats 8000000 in
theorem rroot_yes (b1:Bool) (A1:Option Addr) (n1 c1:Nat) (x1:List Nat) (D1:Option Addr) (m1 d1:Nat) (y1:List Nat) (q1:Rat) (k:Nat) (hk:k≤128) (hq:0≤q1) (hs:Rs q1 10) (hh:rtLo q1 k*rtLo q1 k=q1) (w:World) (X1:Rw w b1 A1 n1 c1 x1 D1 m1 d1 y1 q1):Calls Tryz.prog 31 #[.agg #[.bool b1,.slice A1 n1 c1,.slice D1 m1 d1],.int .i64 k] w (RetVE (rtLo q1 k) (rtLo q1 k) (.int .i64 0) w):=by
 obtain⟨hN,hP19⟩:=rtN_lt (k:=k) hs hk
 have hP5:Rs (qz (2^k)) 5:=qz_rs (p2_lt (by omega)) (by decide)
 have hL24:=rtLo_rs (k:=k) hs hk
 have hF9:Rs (qz (2^(2*k))) 9:=qz_rs (p2_lt (by omega)) (by decide)
 have hI:Rs (qz (isq (rtN q1 k))) 19:=qz_rs (Nat.lt_of_le_of_lt (isq_self _) hN) (by decide)
 have hI1:Rs (qz (isq (rtN q1 k)+1)) 20:=qz_rs (Nat.lt_of_lt_of_le (Nat.succ_lt_succ (Nat.lt_of_le_of_lt (isq_self _) hN)) (by decide)) (by decide)
 have hfo:qz (2^k)*qz (2^k)=qz (2^(2*k)):=by rw[←qz_mul,←Nat.pow_add,Nat.two_mul]
 have hp0:qz (2^k)≠0:=fun h=>by have:=(qz_lt (a:=0)).2 (show 0<2^k from Nat.pow_pos (by decide));rw[h] at this;exact absurd this (by decide)
 have hlo:qz (isq (rtN q1 k)) / qz (2^k)=rtLo q1 k:=by rw[div_eq];rfl
 have hhi:qz (isq (rtN q1 k)+1) / qz (2^k)=rtLo q1 k+rtU k:=by rw[div_eq,qz_add,Rat.add_mul,show qz 1=1 from rfl,Rat.one_mul];rfl
 have hS:Hid (∀ W,Rw W b1 A1 n1 c1 x1 D1 m1 d1 y1 q1→Calls Tryz.prog 37 #[.agg #[.bool b1,.slice A1 n1 c1,.slice D1 m1 d1]] W fun e w'=>e=.returned (.int .i64 q1.num.sign)∧Below W.heap.size W w'):=Lib.hid fun W h=>by
  have:=rsignR_any b1 A1 n1 c1 x1 D1 m1 d1 y1 W h.rn h.rd (by have:=h.k.2.1;omega) (by have:=h.k.2.2;omega)
  rwa [h.k.1] at this
 have g1:decide (q1.num.sign<0)=false:=decide_eq_false (fun h'=>Rat.not_lt.2 hq ((num_lt0 _).1 (Int.sign_neg_iff.1 h')))
 have g2:decide ((k:Int)<0)=false:=decide_eq_false (by omega)
 have g3:decide (128<(k:Int))=false:=decide_eq_false (by omega)
 have hU:=Lib.hid (fun W=>two_any k W (by omega))
 have hM0:Hid (∀ W A0 n0 c0 D0 m0 d0 A1 n1 c1 D1 m1 d1,RR W A0 n0 c0 D0 m0 d0 (qz (2^k))→RR W A1 n1 c1 D1 m1 d1 (qz (2^k))→Calls Tryz.prog 35 #[.agg #[.bool (ng (qz (2^k)).num),.slice A0 n0 c0,.slice D0 m0 d0],.agg #[.bool (ng (qz (2^k)).num),.slice A1 n1 c1,.slice D1 m1 d1]] W (RetR (qz (2^(2*k))) W)):=Lib.hid fun W A0 n0 c0 D0 m0 d0 A1 n1 c1 D1 m1 d1 X0 X1=>by
  have l0:=X0.lens hP5
  have l1:=X1.lens hP5
  have:=Fmul_any (ng (qz (2^k)).num) A0 n0 c0 _ D0 m0 d0 _ (ng (qz (2^k)).num) A1 n1 c1 _ D1 m1 d1 _ W X0.n X0.d X1.n X1.d (by omega) (by omega) (by omega) (by omega)
  rwa [rv_z,hfo] at this
 have hM1:Hid (∀ W A n c D m d,Rw W b1 A1 n1 c1 x1 D1 m1 d1 y1 q1→RR W A n c D m d (qz (2^(2*k)))→Calls Tryz.prog 35 #[.agg #[.bool b1,.slice A1 n1 c1,.slice D1 m1 d1],.agg #[.bool (ng (qz (2^(2*k))).num),.slice A n c,.slice D m d]] W (RetR (q1*qz (2^(2*k))) W)):=Lib.hid fun W A n c D m d h1 h2=>by
  have l:=h2.lens hF9
  have:=Fmul_any b1 A1 n1 c1 x1 D1 m1 d1 y1 (ng (qz (2^(2*k))).num) A n c _ D m d _ W h1.rn h1.rd h2.n h2.d (by have:=h1.k.2.1;omega) (by have:=h1.k.2.2;omega) (by omega) (by omega)
  rwa [rv_z,h1.k.1] at this
 have hFl:Hid (∀ W A0 n0 c0 D0 m0 d0,RR W A0 n0 c0 D0 m0 d0 (q1*qz (2^(2*k)))→Calls Tryz.prog 104 #[.agg #[.bool (ng (q1*qz (2^(2*k))).num),.slice A0 n0 c0,.slice D0 m0 d0]] W (fun e w'=>∃ A n c,e=.returned (.agg #[.bool (ng (qz (rtN q1 k)).num),.slice A n c])∧Rd w' A n c (limbs (rtN q1 k))∧Below W.heap.size W w')):=Lib.hid fun W A0 n0 c0 D0 m0 d0 X0=>by
  have l0:=X0.lens hP19
  have:=Ffloor_any (ng (q1*qz (2^(2*k))).num) A0 n0 c0 _ D0 m0 d0 _ W X0.n X0.d (by omega) (by omega)
  rw[rv_z,rtN_floor hq] at this
  exact this
 have hRo:Hid (∀ W A n c,Rd W A n c (limbs (rtN q1 k))→Calls Tryz.prog 105 #[.slice A n c] W (RetN (isq (rtN q1 k)) W)):=Lib.hid fun W A n c h=>by
  have l:n≤19:=by rw[←h.len];exact limbs_len_le.2 hN
  have:=rroot_any A n c _ W h (by omega)
  rwa [num_limbs] at this
 have hQ:Hid (∀ W A0 n0 c0 D0 m0 d0 A1 n1 c1 D1 m1 d1,RR W A0 n0 c0 D0 m0 d0 (qz (isq (rtN q1 k)))→RR W A1 n1 c1 D1 m1 d1 (qz (2^k))→Calls Tryz.prog 84 #[.agg #[.bool (ng (qz (isq (rtN q1 k))).num),.slice A0 n0 c0,.slice D0 m0 d0],.agg #[.bool (ng (qz (2^k)).num),.slice A1 n1 c1,.slice D1 m1 d1]] W (RetR (rtLo q1 k) W)):=Lib.hid fun W A0 n0 c0 D0 m0 d0 A1 n1 c1 D1 m1 d1 X0 X1=>by
  have l0:=X0.lens hI
  have l1:=X1.lens hP5
  have:=Fquo_any (ng (qz (isq (rtN q1 k))).num) A0 n0 c0 _ D0 m0 d0 _ (ng (qz (2^k)).num) A1 n1 c1 _ D1 m1 d1 _ W X0.n X0.d X1.n X1.d (by omega) (by omega) (by omega) (by omega) (by rw[rv_z];exact hp0)
  rwa [rv_z,rv_z,hlo] at this
 have hM3:Hid (∀ W A0 n0 c0 D0 m0 d0 A1 n1 c1 D1 m1 d1,RR W A0 n0 c0 D0 m0 d0 (rtLo q1 k)→RR W A1 n1 c1 D1 m1 d1 (rtLo q1 k)→Calls Tryz.prog 35 #[.agg #[.bool (ng (rtLo q1 k).num),.slice A0 n0 c0,.slice D0 m0 d0],.agg #[.bool (ng (rtLo q1 k).num),.slice A1 n1 c1,.slice D1 m1 d1]] W (RetR (rtLo q1 k*rtLo q1 k) W)):=Lib.hid fun W A0 n0 c0 D0 m0 d0 A1 n1 c1 D1 m1 d1 X0 X1=>by
  have l0:=X0.lens hL24
  have l1:=X1.lens hL24
  have:=Fmul_any (ng (rtLo q1 k).num) A0 n0 c0 _ D0 m0 d0 _ (ng (rtLo q1 k).num) A1 n1 c1 _ D1 m1 d1 _ W X0.n X0.d X1.n X1.d (by omega) (by omega) (by omega) (by omega)
  rwa [rv_z] at this
 have hLL:Rs (rtLo q1 k*rtLo q1 k) 48:=hL24.mul hL24
 have hC:Hid (∀ W A n c D m d,RR W A n c D m d (rtLo q1 k*rtLo q1 k)→Rw W b1 A1 n1 c1 x1 D1 m1 d1 y1 q1→Calls Tryz.prog 106 #[.agg #[.bool (ng (rtLo q1 k*rtLo q1 k).num),.slice A n c,.slice D m d],.agg #[.bool b1,.slice A1 n1 c1,.slice D1 m1 d1]] W fun e w'=>e=.returned (.int .i64 (cmpq (rtLo q1 k*rtLo q1 k) q1))∧Below W.heap.size W w'):=Lib.hid fun W A n c D m d h1 h2=>by
  have l:=h1.lens hLL
  have:=Fcompare_any (ng (rtLo q1 k*rtLo q1 k).num) A n c _ D m d _ b1 A1 n1 c1 x1 D1 m1 d1 y1 W h1.n h1.d h2.rn h2.rd (by omega) (by omega) (by have:=h2.k.2.1;omega) (by have:=h2.k.2.2;omega)
  rwa [rv_z,h2.k.1] at this
 have hcc:(cmpq (rtLo q1 k*rtLo q1 k) q1==0)=true:=by rw[cmpq_beq,decide_eq_true hh]
 clear hN hP19 hP5 hL24 hF9 hI hI1 hLL hk hq hs hh hfo hp0 hlo hhi
 generalize cmpq (rtLo q1 k*rtLo q1 k) q1=cc at *
 generalize rtLo q1 k*rtLo q1 k=ll at *
 generalize rtLo q1 k=lo at *
 have hrs:Hid (ng (qz (isq (rtN q1 k))).num=false∧(∀ W A n c,Rd W A n c (limbs (isq (rtN q1 k)))→Rd W A n c (limbs (qz (isq (rtN q1 k))).num.natAbs))∧∀ W,Rd W none 0 0 (dn (qz (isq (rtN q1 k))))):=Lib.hid ⟨qz_ng _,fun _ _ _ _ h=>h,fun W=>Rd.nil_ _ _ _⟩
 generalize qz (isq (rtN q1 k))=ro at *
 generalize isq (rtN q1 k)=iN at *
 generalize (qz (rtN q1 k)).num=zN at *
 generalize rtN q1 k=nN at *
 generalize q1*qz (2^(2*k))=pr at *
 generalize qz (2^(2*k))=fo at *
 generalize qz (2^k)=un at *
 generalize q1.num.sign=sg at *
 replace hQ:=hQ.out
 simp only[hrs.out.1] at hQ
 replace hQ:=Lib.hid hQ
 have k1:=Lib.hid X1.k
 have S:=(((((St.new w).read X1.rn).read X1.rd).allocAt (w.heap.size) #[.bool b1,.slice A1 n1 c1,.slice D1 m1 d1] 26 (noL3 _ _ _ _ _ _ _) (by simp)).allocAt (w.heap.size+1) #[.bool false,.slice none 0 0,.slice none 0 0,.bool false,.slice none 0 0,.slice none 0 0] 28 (noL6 _ _ _ _ _ _ _ _ _ _ _ _ _ _) (by simp))
 replace S:=Lib.hid S
 clear X1
 go_enter Tryz.func31,Tryz.ntmps31
 go_wp2_with fail
 refine (hS.out _ (Rw.of (S.out.r 1 rfl) (S.out.r 0 rfl) k1.out)).mono ?_
 rintro e w1 ⟨rfl,bb⟩
 have T:=(S.out.call bb)
 clear bb S
 have S:=T
 clear T
 obtain⟨c_r0,c_r1,c_r2,c_r3,c_r4,c_r5,f_r0,f_r1,f_r2,f_r3,f_r4,f_r5⟩:=S.cf6 0 rfl
 obtain⟨c_v0,c_v1,c_v2,f_v0,f_v1,f_v2⟩:=S.cf3 1 rfl
 have hz:w.heap.size+1<w1.heap.size:=S.lt 0 rfl
 replace S:=Lib.hid S
 clear hS
 go_wp2_with fail
 refine (hU.out _).mono ?_
 rintro e w2 ⟨A20,n20,c20,D20,m20,d20,rfl,Q20,bb⟩
 have T:=(((S.out.call bb).read Q20.n).read Q20.d)
 clear bb S c_r0 f_r0 c_r1 f_r1 c_r2 f_r2 c_r3 f_r3 c_r4 f_r4 c_r5 f_r5 c_v0 f_v0 c_v1 f_v1 c_v2 f_v2 hz
 have S:=T
 clear T
 obtain⟨c_r0,c_r1,c_r2,c_r3,c_r4,c_r5,f_r0,f_r1,f_r2,f_r3,f_r4,f_r5⟩:=S.cf6 0 rfl
 obtain⟨c_v0,c_v1,c_v2,f_v0,f_v1,f_v2⟩:=S.cf3 1 rfl
 have hz:w.heap.size+1<w2.heap.size:=S.lt 0 rfl
 replace S:=Lib.hid S
 clear Q20 hU g1 g2 g3
 go_upto_region 4 with fail
 clear c_r0 f_r0 c_r1 f_r1 c_r2 f_r2 c_r3 f_r3 c_r4 f_r4 c_r5 f_r5 c_v0 f_v0 c_v1 f_v1 c_v2 f_v2 hz
 have S:=(S.out.allocAt (w2.heap.size) #[.bool (ng un.num),.slice A20 n20 c20,.slice D20 m20 d20] 26 (noL3 _ _ _ _ _ _ _) (by simp))
 generalize hW3:(World.alloc w2 (.cells #[.bool (ng un.num),.slice A20 n20 c20,.slice D20 m20 d20] 26))=w3 at S ⊢
 clear hW3
 replace S:=Lib.hid S
 refine RW.begin (Z:=[⟨6,7,#[.bool false,.slice none 0 0],24⟩]) (S:=(fun W=>Cb W (w.heap.size) #[.bool b1,.slice A1 n1 c1,.slice D1 m1 d1] 26∧Cb W (w2.heap.size) #[.bool (ng un.num),.slice A20 n20 c20,.slice D20 m20 d20] 26)) (by kernel_rfl) ?_ S.out ?_
 ·exact⟨by kernel_rfl,(zis_cons at6 (fun _ _=>by kernel_rfl) zis_nil),by decide,by decide,(nol_cons (noL2 _ _ _ _) nol_nil),(fun _ _ h=>⟨h.kb 2 rfl,h.kb 0 rfl⟩)⟩
 intro hzk
 clear S
 refine RW.t (i:=0) (v:=.agg #[.bool b1,.slice A1 n1 c1,.slice D1 m1 d1]) (some 25) at0 (hy:=fun W hS=>by (have k0:=Cb.cell (i:=0) hS.1 rfl;have k1:=Cb.cell (i:=1) hS.1 rfl;have k2:=Cb.cell (i:=2) hS.1 rfl;clear hS;go_simp)) (h:=?_)
 refine RW.t (i:=1) (v:=.agg #[.bool (ng un.num),.slice A20 n20 c20,.slice D20 m20 d20]) (some 26) at1 (hy:=fun W hS=>by (have k0:=Cb.cell (i:=0) hS.2 rfl;have k1:=Cb.cell (i:=1) hS.2 rfl;have k2:=Cb.cell (i:=2) hS.2 rfl;clear hS;go_simp)) (h:=?_)
 refine RW.t (i:=2) (v:=.agg #[.bool (ng un.num),.slice A20 n20 c20,.slice D20 m20 d20]) (some 27) at2 (hy:=fun W hS=>by (have k0:=Cb.cell (i:=0) hS.2 rfl;have k1:=Cb.cell (i:=1) hS.2 rfl;have k2:=Cb.cell (i:=2) hS.2 rfl;clear hS;go_simp)) (h:=?_)
 refine RW.c (i:=3) (args:=#[.agg #[.bool (ng un.num),.slice A20 n20 c20,.slice D20 m20 d20],.agg #[.bool (ng un.num),.slice A20 n20 c20,.slice D20 m20 d20]]) (some 28) hzk.out at3 (hx:=fun _=>by kernel_rfl) (h:=fun _ S=>(hM0.out _ _ _ _ _ _ _ _ _ _ _ _ _ ⟨S.r 1 rfl,S.r 0 rfl⟩ ⟨S.r 1 rfl,S.r 0 rfl⟩).mono ?_)
 rintro e w4 ⟨A21,n21,c21,D21,m21,d21,rfl,Q21,bb⟩
 refine⟨bb,_,[(D21,m21,d21,dn fo),(A21,n21,c21,limbs fo.num.natAbs)],rfl,(rd_cons Q21.d (rd_cons Q21.n rd_nil)),?_⟩
 clear bb S Q21
 refine RW.c (i:=4) (args:=#[.agg #[.bool b1,.slice A1 n1 c1,.slice D1 m1 d1],.agg #[.bool (ng fo.num),.slice A21 n21 c21,.slice D21 m21 d21]]) (some 29) hzk.out at4 (hx:=fun _=>by kernel_rfl) (h:=fun _ S=>(hM1.out _ _ _ _ _ _ _ (Rw.of (S.r 5 rfl) (S.r 4 rfl) k1.out) ⟨S.r 1 rfl,S.r 0 rfl⟩).mono ?_)
 rintro e w5 ⟨A22,n22,c22,D22,m22,d22,rfl,Q22,bb⟩
 refine⟨bb,_,[(D22,m22,d22,dn pr),(A22,n22,c22,limbs pr.num.natAbs)],rfl,(rd_cons Q22.d (rd_cons Q22.n rd_nil)),?_⟩
 clear bb S Q22
 refine RW.c (i:=5) (args:=#[.agg #[.bool (ng pr.num),.slice A22 n22 c22,.slice D22 m22 d22]]) (some 30) hzk.out at5 (hx:=fun _=>by kernel_rfl) (h:=fun _ S=>(hFl.out _ _ _ _ _ _ _ ⟨S.r 1 rfl,S.r 0 rfl⟩).mono ?_)
 rintro e w6 ⟨A23,n23,c23,rfl,Q23,bb⟩
 refine⟨bb,_,[(A23,n23,c23,limbs nN)],rfl,(rd_cons Q23 rd_nil),?_⟩
 clear bb S Q23
 refine RW.tail hzk.out (by kernel_rfl) ?_
 intro gs w7 hgs hS S
 obtain⟨g_n,rfl⟩:=len1' hgs
 clear hS hgs hzk
 simp only[mark,fill,List.map,Act.put,List.setIfInBounds_toArray,List.set_cons_zero,List.set_cons_succ]
 replace S:=Lib.hid S
 refine Wk.o (i:=7) at7 (by kernel_rfl) fun K' hK=>?_
 have q7_n0:=St.cl (S.out) 0 0 rfl rfl
 have q7_n1:=St.cl (S.out) 0 1 rfl rfl
 have q7z_n0:=St.f (S.out) 0 0 rfl
 have q7z_n1:=St.f (S.out) 0 1 rfl
 go_simp
 have SN:=((S.out.set 0 0 (.bool (ng zN)) rfl (by nofun)).set 0 1 (.slice A23 n23 c23) rfl (by nofun))
 clear S q7_n0 q7_n1 q7z_n0 q7z_n1
 have S:=SN
 clear SN
 refine hK.out _ _ ⟨(S.cb 3 rfl),(S.cb 1 rfl)⟩ ?_
 clear hK K'
 replace S:=Lib.hid S
 try simp only[Act.put,List.setIfInBounds_toArray,List.set_cons_zero,List.set_cons_succ]
 refine Wk.done (by kernel_rfl) ?_
 go_simp
 replace S:=S.out
 have S:St w _ [(g_n,#[.bool (ng zN),.slice A23 n23 c23],24),(w2.heap.size,#[.bool (ng un.num),.slice A20 n20 c20,.slice D20 m20 d20],26),(w.heap.size+1,#[.bool false,.slice none 0 0,.slice none 0 0,.bool false,.slice none 0 0,.slice none 0 0],28),(w.heap.size,#[.bool b1,.slice A1 n1 c1,.slice D1 m1 d1],26)] [(A23,n23,c23,limbs nN),(D22,m22,d22,dn pr),(A22,n22,c22,limbs pr.num.natAbs),(D21,m21,d21,dn fo),(A21,n21,c21,limbs fo.num.natAbs),(D20,m20,d20,dn un),(A20,n20,c20,limbs un.num.natAbs),(D1,m1,d1,y1),(A1,n1,c1,x1)]:=S
 generalize hW8:(World.setCell (World.setCell w7 ⟨g_n,0,none⟩ (.bool (ng zN))) ⟨g_n,1,none⟩ (.slice A23 n23 c23))=w8 at S ⊢
 clear hW8
 replace S:=Lib.hid S
 replace S:=S.out
 obtain⟨c_n0,c_n1,f_n0,f_n1⟩:=S.cf2 0 rfl
 obtain⟨c_u0,c_u1,c_u2,f_u0,f_u1,f_u2⟩:=S.cf3 1 rfl
 obtain⟨c_r0,c_r1,c_r2,c_r3,c_r4,c_r5,f_r0,f_r1,f_r2,f_r3,f_r4,f_r5⟩:=S.cf6 2 rfl
 obtain⟨c_v0,c_v1,c_v2,f_v0,f_v1,f_v2⟩:=S.cf3 3 rfl
 have hz:g_n<w8.heap.size:=S.lt 0 rfl
 replace S:=Lib.hid S
 clear hM0 hM1 hFl
 go_wp2_with fail
 refine (hRo.out _ _ _ _ (S.out.r 0 rfl)).mono ?_
 rintro e w9 ⟨A24,n24,c24,rfl,Q24,bb⟩
 have T:=((S.out.call bb).read Q24)
 clear bb S c_n0 f_n0 c_n1 f_n1 c_u0 f_u0 c_u1 f_u1 c_u2 f_u2 c_r0 f_r0 c_r1 f_r1 c_r2 f_r2 c_r3 f_r3 c_r4 f_r4 c_r5 f_r5 c_v0 f_v0 c_v1 f_v1 c_v2 f_v2 hz
 have S:=T
 clear T
 obtain⟨c_n0,c_n1,f_n0,f_n1⟩:=S.cf2 0 rfl
 obtain⟨c_u0,c_u1,c_u2,f_u0,f_u1,f_u2⟩:=S.cf3 1 rfl
 obtain⟨c_r0,c_r1,c_r2,c_r3,c_r4,c_r5,f_r0,f_r1,f_r2,f_r3,f_r4,f_r5⟩:=S.cf6 2 rfl
 obtain⟨c_v0,c_v1,c_v2,f_v0,f_v1,f_v2⟩:=S.cf3 3 rfl
 have hz:g_n<w9.heap.size:=S.lt 0 rfl
 replace S:=Lib.hid S
 clear Q24 hRo
 replace S:=S.out
 have S:=(S.read (hrs.out.2.1 _ _ _ _ (S.r 0 rfl))).read (hrs.out.2.2 _)
 replace S:=Lib.hid S
 have S:=(S.out.allocAt (w9.heap.size) #[.bool false,.slice A24 n24 c24,.slice none 0 0] 26 (noL3 _ _ _ _ _ _ _) (by simp))
 obtain⟨a_u0,a_u1,a_u2,b_u0,b_u1,b_u2⟩:=S.cf3 2 rfl
 replace S:=Lib.hid S
 go_wp2_with fail
 refine (hQ.out _ _ _ _ _ _ _ _ _ _ _ _ _ ⟨S.out.r 1 rfl,S.out.r 0 rfl⟩ ⟨S.out.r 9 rfl,S.out.r 8 rfl⟩).mono ?_
 rintro e w10 ⟨A25,n25,c25,D25,m25,d25,rfl,Q25,bb⟩
 have T:=(((S.out.call bb).read Q25.n).read Q25.d)
 clear bb S c_n0 f_n0 c_n1 f_n1 c_u0 f_u0 c_u1 f_u1 c_u2 f_u2 c_r0 f_r0 c_r1 f_r1 c_r2 f_r2 c_r3 f_r3 c_r4 f_r4 c_r5 f_r5 c_v0 f_v0 c_v1 f_v1 c_v2 f_v2 hz a_u0 b_u0 a_u1 b_u1 a_u2 b_u2
 have S:=T
 clear T
 obtain⟨c_ro0,c_ro1,c_ro2,f_ro0,f_ro1,f_ro2⟩:=S.cf3 0 rfl
 obtain⟨c_n0,c_n1,f_n0,f_n1⟩:=S.cf2 1 rfl
 obtain⟨c_u0,c_u1,c_u2,f_u0,f_u1,f_u2⟩:=S.cf3 2 rfl
 obtain⟨c_r0,c_r1,c_r2,c_r3,c_r4,c_r5,f_r0,f_r1,f_r2,f_r3,f_r4,f_r5⟩:=S.cf6 3 rfl
 obtain⟨c_v0,c_v1,c_v2,f_v0,f_v1,f_v2⟩:=S.cf3 4 rfl
 have hz:w9.heap.size<w10.heap.size:=S.lt 0 rfl
 replace S:=Lib.hid S
 clear Q25 hQ
 go_upto_region 7 with fail
 clear c_ro0 f_ro0 c_ro1 f_ro1 c_ro2 f_ro2 c_n0 f_n0 c_n1 f_n1 c_u0 f_u0 c_u1 f_u1 c_u2 f_u2 c_r0 f_r0 c_r1 f_r1 c_r2 f_r2 c_r3 f_r3 c_r4 f_r4 c_r5 f_r5 c_v0 f_v0 c_v1 f_v1 c_v2 f_v2 hz
 have S:=(S.out.allocAt (w10.heap.size) #[.bool (ng lo.num),.slice A25 n25 c25,.slice D25 m25 d25] 26 (noL3 _ _ _ _ _ _ _) (by simp))
 generalize hW11:(World.alloc w10 (.cells #[.bool (ng lo.num),.slice A25 n25 c25,.slice D25 m25 d25] 26))=w11 at S ⊢
 clear hW11
 replace S:=Lib.hid S
 refine RW.begin (Z:=[]) (S:=(fun W=>Cb W (w10.heap.size) #[.bool (ng lo.num),.slice A25 n25 c25,.slice D25 m25 d25] 26∧Cb W (w.heap.size) #[.bool b1,.slice A1 n1 c1,.slice D1 m1 d1] 26)) (by kernel_rfl) ?_ S.out ?_
 ·exact⟨by kernel_rfl,zis_nil,by decide,by decide,nol_nil,(fun _ _ h=>⟨h.kb 0 rfl,h.kb 5 rfl⟩)⟩
 intro hzk
 clear S
 refine RW.t (i:=0) (v:=.agg #[.bool (ng lo.num),.slice A25 n25 c25,.slice D25 m25 d25]) (some 39) at0 (hy:=fun W hS=>by (have k0:=Cb.cell (i:=0) hS.1 rfl;have k1:=Cb.cell (i:=1) hS.1 rfl;have k2:=Cb.cell (i:=2) hS.1 rfl;clear hS;go_simp)) (h:=?_)
 refine RW.t (i:=1) (v:=.agg #[.bool (ng lo.num),.slice A25 n25 c25,.slice D25 m25 d25]) (some 40) at1 (hy:=fun W hS=>by (have k0:=Cb.cell (i:=0) hS.1 rfl;have k1:=Cb.cell (i:=1) hS.1 rfl;have k2:=Cb.cell (i:=2) hS.1 rfl;clear hS;go_simp)) (h:=?_)
 refine RW.t (i:=3) (v:=.agg #[.bool b1,.slice A1 n1 c1,.slice D1 m1 d1]) (some 42) at3 (hy:=fun W hS=>by (have k0:=Cb.cell (i:=0) hS.2 rfl;have k1:=Cb.cell (i:=1) hS.2 rfl;have k2:=Cb.cell (i:=2) hS.2 rfl;clear hS;go_simp)) (h:=?_)
 refine RW.c (i:=2) (args:=#[.agg #[.bool (ng lo.num),.slice A25 n25 c25,.slice D25 m25 d25],.agg #[.bool (ng lo.num),.slice A25 n25 c25,.slice D25 m25 d25]]) (some 41) hzk.out at2 (hx:=fun _=>by kernel_rfl) (h:=fun _ S=>(hM3.out _ _ _ _ _ _ _ _ _ _ _ _ _ ⟨S.r 1 rfl,S.r 0 rfl⟩ ⟨S.r 1 rfl,S.r 0 rfl⟩).mono ?_)
 rintro e w12 ⟨A26,n26,c26,D26,m26,d26,rfl,Q26,bb⟩
 refine⟨bb,_,[(D26,m26,d26,dn ll),(A26,n26,c26,limbs ll.num.natAbs)],rfl,(rd_cons Q26.d (rd_cons Q26.n rd_nil)),?_⟩
 clear bb S Q26
 refine RW.c (i:=4) (args:=#[.agg #[.bool (ng ll.num),.slice A26 n26 c26,.slice D26 m26 d26],.agg #[.bool b1,.slice A1 n1 c1,.slice D1 m1 d1]]) (some 43) hzk.out at4 (hx:=fun _=>by kernel_rfl) (h:=fun _ S=>(hC.out _ _ _ _ _ _ _ ⟨S.r 1 rfl,S.r 0 rfl⟩ (Rw.of (S.r 15 rfl) (S.r 14 rfl) k1.out)).mono ?_)
 rintro e w13 ⟨rfl,bb⟩
 refine⟨bb,_,[],rfl,rd_nil,?_⟩
 clear bb S
 refine RW.t (i:=5) (v:=.bool true) (some 44) at5 (hy:=fun _ _=>by go_simp) (h:=?_)
 refine RW.tail hzk.out (by kernel_rfl) ?_
 intro gs w14 hgs hS S
 obtain rfl:=len0 hgs
 clear hS hgs hzk
 simp only[mark,fill,Act.put,List.setIfInBounds_toArray,List.set_cons_zero,List.set_cons_succ]
 replace S:=Lib.hid S
 refine Wk.done (by kernel_rfl) ?_
 go_simp
 replace S:=S.out
 have S:St w _ [(w10.heap.size,#[.bool (ng lo.num),.slice A25 n25 c25,.slice D25 m25 d25],26),(w9.heap.size,#[.bool false,.slice A24 n24 c24,.slice none 0 0],26),(g_n,#[.bool (ng zN),.slice A23 n23 c23],24),(w2.heap.size,#[.bool (ng un.num),.slice A20 n20 c20,.slice D20 m20 d20],26),(w.heap.size+1,#[.bool false,.slice none 0 0,.slice none 0 0,.bool false,.slice none 0 0,.slice none 0 0],28),(w.heap.size,#[.bool b1,.slice A1 n1 c1,.slice D1 m1 d1],26)] [(D26,m26,d26,dn ll),(A26,n26,c26,limbs ll.num.natAbs),(D25,m25,d25,dn lo),(A25,n25,c25,limbs lo.num.natAbs),(none,0,0,dn ro),(A24,n24,c24,limbs ro.num.natAbs),(A24,n24,c24,limbs iN),(A23,n23,c23,limbs nN),(D22,m22,d22,dn pr),(A22,n22,c22,limbs pr.num.natAbs),(D21,m21,d21,dn fo),(A21,n21,c21,limbs fo.num.natAbs),(D20,m20,d20,dn un),(A20,n20,c20,limbs un.num.natAbs),(D1,m1,d1,y1),(A1,n1,c1,x1)]:=S
 replace S:=Lib.hid S
 replace S:=S.out
 obtain⟨c_lo0,c_lo1,c_lo2,f_lo0,f_lo1,f_lo2⟩:=S.cf3 0 rfl
 obtain⟨c_ro0,c_ro1,c_ro2,f_ro0,f_ro1,f_ro2⟩:=S.cf3 1 rfl
 obtain⟨c_n0,c_n1,f_n0,f_n1⟩:=S.cf2 2 rfl
 obtain⟨c_u0,c_u1,c_u2,f_u0,f_u1,f_u2⟩:=S.cf3 3 rfl
 obtain⟨c_r0,c_r1,c_r2,c_r3,c_r4,c_r5,f_r0,f_r1,f_r2,f_r3,f_r4,f_r5⟩:=S.cf6 4 rfl
 obtain⟨c_v0,c_v1,c_v2,f_v0,f_v1,f_v2⟩:=S.cf3 5 rfl
 have hz:w10.heap.size<w14.heap.size:=S.lt 0 rfl
 replace S:=Lib.hid S
 clear hM3 hC
 have S:St w _ [(w10.heap.size,#[.bool (ng lo.num),.slice A25 n25 c25,.slice D25 m25 d25],26),(w9.heap.size,#[.bool false,.slice A24 n24 c24,.slice none 0 0],26),(g_n,#[.bool (ng zN),.slice A23 n23 c23],24),(w2.heap.size,#[.bool (ng un.num),.slice A20 n20 c20,.slice D20 m20 d20],26),(w.heap.size+1,#[.bool (ng lo.num),.slice A25 n25 c25,.slice D25 m25 d25,.bool (ng lo.num),.slice A25 n25 c25,.slice D25 m25 d25],28),(w.heap.size,#[.bool b1,.slice A1 n1 c1,.slice D1 m1 d1],26)] [(D26,m26,d26,dn ll),(A26,n26,c26,limbs ll.num.natAbs),(D25,m25,d25,dn lo),(A25,n25,c25,limbs lo.num.natAbs),(none,0,0,dn ro),(A24,n24,c24,limbs ro.num.natAbs),(A24,n24,c24,limbs iN),(A23,n23,c23,limbs nN),(D22,m22,d22,dn pr),(A22,n22,c22,limbs pr.num.natAbs),(D21,m21,d21,dn fo),(A21,n21,c21,limbs fo.num.natAbs),(D20,m20,d20,dn un),(A20,n20,c20,limbs un.num.natAbs),(D1,m1,d1,y1),(A1,n1,c1,x1)]:=((((((S.out.set 4 0 (.bool (ng lo.num)) rfl (by nofun)).set 4 1 (.slice A25 n25 c25) rfl (by nofun)).set 4 2 (.slice D25 m25 d25) rfl (by nofun)).set 4 3 (.bool (ng lo.num)) rfl (by nofun)).set 4 4 (.slice A25 n25 c25) rfl (by nofun)).set 4 5 (.slice D25 m25 d25) rfl (by nofun))
 replace S:=Lib.hid S
 go_wp2
 refine bodyPost_ret (res_rroot4 _ _ (w.heap.size+1) 28 rfl rfl (S.out.bk _ (List.mem_of_getElem? (i:=4) rfl)).1) rfl ?_
 exact⟨_,_,_,_,_,_,_,_,_,_,_,_,rfl,⟨S.out.r 3 rfl,S.out.r 2 rfl⟩,⟨S.out.r 3 rfl,S.out.r 2 rfl⟩,S.out.bel⟩
set_option maxRecDepth 100000 in
set_option maxHeartbeats 8000000 in
theorem rroot_yes2 (b1:Bool) (A1:Option Addr) (n1 c1:Nat) (x1:List Nat) (D1:Option Addr) (m1 d1:Nat) (y1:List Nat) (q1:Rat) (k:Nat) (hk:k≤128) (hq:0≤q1) (hs:Rs q1 10) (hh:rtLo q1 k*rtLo q1 k≠q1) (w:World) (X1:Rw w b1 A1 n1 c1 x1 D1 m1 d1 y1 q1):Calls Tryz.prog 31 #[.agg #[.bool b1,.slice A1 n1 c1,.slice D1 m1 d1],.int .i64 k] w (RetVE (rtLo q1 k) (rtLo q1 k+rtU k) (.int .i64 0) w):=by
 obtain⟨hN,hP19⟩:=rtN_lt (k:=k) hs hk
 have hP5:Rs (qz (2^k)) 5:=qz_rs (p2_lt (by omega)) (by decide)
 have hL24:=rtLo_rs (k:=k) hs hk
 have hF9:Rs (qz (2^(2*k))) 9:=qz_rs (p2_lt (by omega)) (by decide)
 have hI:Rs (qz (isq (rtN q1 k))) 19:=qz_rs (Nat.lt_of_le_of_lt (isq_self _) hN) (by decide)
 have hI1:Rs (qz (isq (rtN q1 k)+1)) 20:=qz_rs (Nat.lt_of_lt_of_le (Nat.succ_lt_succ (Nat.lt_of_le_of_lt (isq_self _) hN)) (by decide)) (by decide)
 have hfo:qz (2^k)*qz (2^k)=qz (2^(2*k)):=by rw[←qz_mul,←Nat.pow_add,Nat.two_mul]
 have hp0:qz (2^k)≠0:=fun h=>by have:=(qz_lt (a:=0)).2 (show 0<2^k from Nat.pow_pos (by decide));rw[h] at this;exact absurd this (by decide)
 have hlo:qz (isq (rtN q1 k)) / qz (2^k)=rtLo q1 k:=by rw[div_eq];rfl
 have hhi:qz (isq (rtN q1 k)+1) / qz (2^k)=rtLo q1 k+rtU k:=by rw[div_eq,qz_add,Rat.add_mul,show qz 1=1 from rfl,Rat.one_mul];rfl
 have hS:Hid (∀ W,Rw W b1 A1 n1 c1 x1 D1 m1 d1 y1 q1→Calls Tryz.prog 37 #[.agg #[.bool b1,.slice A1 n1 c1,.slice D1 m1 d1]] W fun e w'=>e=.returned (.int .i64 q1.num.sign)∧Below W.heap.size W w'):=Lib.hid fun W h=>by
  have:=rsignR_any b1 A1 n1 c1 x1 D1 m1 d1 y1 W h.rn h.rd (by have:=h.k.2.1;omega) (by have:=h.k.2.2;omega)
  rwa [h.k.1] at this
 have g1:decide (q1.num.sign<0)=false:=decide_eq_false (fun h'=>Rat.not_lt.2 hq ((num_lt0 _).1 (Int.sign_neg_iff.1 h')))
 have g2:decide ((k:Int)<0)=false:=decide_eq_false (by omega)
 have g3:decide (128<(k:Int))=false:=decide_eq_false (by omega)
 have hU:=Lib.hid (fun W=>two_any k W (by omega))
 have hM0:Hid (∀ W A0 n0 c0 D0 m0 d0 A1 n1 c1 D1 m1 d1,RR W A0 n0 c0 D0 m0 d0 (qz (2^k))→RR W A1 n1 c1 D1 m1 d1 (qz (2^k))→Calls Tryz.prog 35 #[.agg #[.bool (ng (qz (2^k)).num),.slice A0 n0 c0,.slice D0 m0 d0],.agg #[.bool (ng (qz (2^k)).num),.slice A1 n1 c1,.slice D1 m1 d1]] W (RetR (qz (2^(2*k))) W)):=Lib.hid fun W A0 n0 c0 D0 m0 d0 A1 n1 c1 D1 m1 d1 X0 X1=>by
  have l0:=X0.lens hP5
  have l1:=X1.lens hP5
  have:=Fmul_any (ng (qz (2^k)).num) A0 n0 c0 _ D0 m0 d0 _ (ng (qz (2^k)).num) A1 n1 c1 _ D1 m1 d1 _ W X0.n X0.d X1.n X1.d (by omega) (by omega) (by omega) (by omega)
  rwa [rv_z,hfo] at this
 have hM1:Hid (∀ W A n c D m d,Rw W b1 A1 n1 c1 x1 D1 m1 d1 y1 q1→RR W A n c D m d (qz (2^(2*k)))→Calls Tryz.prog 35 #[.agg #[.bool b1,.slice A1 n1 c1,.slice D1 m1 d1],.agg #[.bool (ng (qz (2^(2*k))).num),.slice A n c,.slice D m d]] W (RetR (q1*qz (2^(2*k))) W)):=Lib.hid fun W A n c D m d h1 h2=>by
  have l:=h2.lens hF9
  have:=Fmul_any b1 A1 n1 c1 x1 D1 m1 d1 y1 (ng (qz (2^(2*k))).num) A n c _ D m d _ W h1.rn h1.rd h2.n h2.d (by have:=h1.k.2.1;omega) (by have:=h1.k.2.2;omega) (by omega) (by omega)
  rwa [rv_z,h1.k.1] at this
 have hFl:Hid (∀ W A0 n0 c0 D0 m0 d0,RR W A0 n0 c0 D0 m0 d0 (q1*qz (2^(2*k)))→Calls Tryz.prog 104 #[.agg #[.bool (ng (q1*qz (2^(2*k))).num),.slice A0 n0 c0,.slice D0 m0 d0]] W (fun e w'=>∃ A n c,e=.returned (.agg #[.bool (ng (qz (rtN q1 k)).num),.slice A n c])∧Rd w' A n c (limbs (rtN q1 k))∧Below W.heap.size W w')):=Lib.hid fun W A0 n0 c0 D0 m0 d0 X0=>by
  have l0:=X0.lens hP19
  have:=Ffloor_any (ng (q1*qz (2^(2*k))).num) A0 n0 c0 _ D0 m0 d0 _ W X0.n X0.d (by omega) (by omega)
  rw[rv_z,rtN_floor hq] at this
  exact this
 have hRo:Hid (∀ W A n c,Rd W A n c (limbs (rtN q1 k))→Calls Tryz.prog 105 #[.slice A n c] W (RetN (isq (rtN q1 k)) W)):=Lib.hid fun W A n c h=>by
  have l:n≤19:=by rw[←h.len];exact limbs_len_le.2 hN
  have:=rroot_any A n c _ W h (by omega)
  rwa [num_limbs] at this
 have hQ:Hid (∀ W A0 n0 c0 D0 m0 d0 A1 n1 c1 D1 m1 d1,RR W A0 n0 c0 D0 m0 d0 (qz (isq (rtN q1 k)))→RR W A1 n1 c1 D1 m1 d1 (qz (2^k))→Calls Tryz.prog 84 #[.agg #[.bool (ng (qz (isq (rtN q1 k))).num),.slice A0 n0 c0,.slice D0 m0 d0],.agg #[.bool (ng (qz (2^k)).num),.slice A1 n1 c1,.slice D1 m1 d1]] W (RetR (rtLo q1 k) W)):=Lib.hid fun W A0 n0 c0 D0 m0 d0 A1 n1 c1 D1 m1 d1 X0 X1=>by
  have l0:=X0.lens hI
  have l1:=X1.lens hP5
  have:=Fquo_any (ng (qz (isq (rtN q1 k))).num) A0 n0 c0 _ D0 m0 d0 _ (ng (qz (2^k)).num) A1 n1 c1 _ D1 m1 d1 _ W X0.n X0.d X1.n X1.d (by omega) (by omega) (by omega) (by omega) (by rw[rv_z];exact hp0)
  rwa [rv_z,rv_z,hlo] at this
 have hM3:Hid (∀ W A0 n0 c0 D0 m0 d0 A1 n1 c1 D1 m1 d1,RR W A0 n0 c0 D0 m0 d0 (rtLo q1 k)→RR W A1 n1 c1 D1 m1 d1 (rtLo q1 k)→Calls Tryz.prog 35 #[.agg #[.bool (ng (rtLo q1 k).num),.slice A0 n0 c0,.slice D0 m0 d0],.agg #[.bool (ng (rtLo q1 k).num),.slice A1 n1 c1,.slice D1 m1 d1]] W (RetR (rtLo q1 k*rtLo q1 k) W)):=Lib.hid fun W A0 n0 c0 D0 m0 d0 A1 n1 c1 D1 m1 d1 X0 X1=>by
  have l0:=X0.lens hL24
  have l1:=X1.lens hL24
  have:=Fmul_any (ng (rtLo q1 k).num) A0 n0 c0 _ D0 m0 d0 _ (ng (rtLo q1 k).num) A1 n1 c1 _ D1 m1 d1 _ W X0.n X0.d X1.n X1.d (by omega) (by omega) (by omega) (by omega)
  rwa [rv_z] at this
 have hLL:Rs (rtLo q1 k*rtLo q1 k) 48:=hL24.mul hL24
 have hC:Hid (∀ W A n c D m d,RR W A n c D m d (rtLo q1 k*rtLo q1 k)→Rw W b1 A1 n1 c1 x1 D1 m1 d1 y1 q1→Calls Tryz.prog 106 #[.agg #[.bool (ng (rtLo q1 k*rtLo q1 k).num),.slice A n c,.slice D m d],.agg #[.bool b1,.slice A1 n1 c1,.slice D1 m1 d1]] W fun e w'=>e=.returned (.int .i64 (cmpq (rtLo q1 k*rtLo q1 k) q1))∧Below W.heap.size W w'):=Lib.hid fun W A n c D m d h1 h2=>by
  have l:=h1.lens hLL
  have:=Fcompare_any (ng (rtLo q1 k*rtLo q1 k).num) A n c _ D m d _ b1 A1 n1 c1 x1 D1 m1 d1 y1 W h1.n h1.d h2.rn h2.rd (by omega) (by omega) (by have:=h2.k.2.1;omega) (by have:=h2.k.2.2;omega)
  rwa [rv_z,h2.k.1] at this
 have hcc:(cmpq (rtLo q1 k*rtLo q1 k) q1==0)=false:=by rw[cmpq_beq,decide_eq_false hh]
 have hF1:=Lib.hid (fun W=>rfromInt_any 1 W (by decide) (by decide))
 have hA1:Hid (∀ W A n c A' n' c',Rd W A n c (limbs (isq (rtN q1 k)))→Rd W A' n' c' (limbs (1:Int).natAbs)→Calls Tryz.prog 107 #[.agg #[.bool false,.slice A n c],.agg #[.bool (ng 1),.slice A' n' c']] W fun e w'=>∃ A n c,e=.returned (.agg #[.bool (ng (qz (isq (rtN q1 k)+1)).num),.slice A n c])∧Rd w' A n c (limbs (qz (isq (rtN q1 k)+1)).num.natAbs)∧Below W.heap.size W w'):=Lib.hid fun W A n c A' n' c' h1 h2=>by
  have l:n≤19:=by rw[←h1.len];exact limbs_len_le.2 (Nat.lt_of_le_of_lt (isq_self _) hN)
  have l':n'≤1:=by rw[←h2.len];exact limbs_len_le.2 (by decide)
  have:=raddI_any false A n c _ (ng 1) A' n' c' _ W h1 h2 (by omega) (by omega)
  rw[iv_z,iv_pos] at this
  exact this
 have hQ2:Hid (∀ W A0 n0 c0 D0 m0 d0 A1 n1 c1 D1 m1 d1,RR W A0 n0 c0 D0 m0 d0 (qz (isq (rtN q1 k)+1))→RR W A1 n1 c1 D1 m1 d1 (qz (2^k))→Calls Tryz.prog 84 #[.agg #[.bool (ng (qz (isq (rtN q1 k)+1)).num),.slice A0 n0 c0,.slice D0 m0 d0],.agg #[.bool (ng (qz (2^k)).num),.slice A1 n1 c1,.slice D1 m1 d1]] W (RetR (rtLo q1 k+rtU k) W)):=Lib.hid fun W A0 n0 c0 D0 m0 d0 A1 n1 c1 D1 m1 d1 X0 X1=>by
  have l0:=X0.lens hI1
  have l1:=X1.lens hP5
  have:=Fquo_any (ng (qz (isq (rtN q1 k)+1)).num) A0 n0 c0 _ D0 m0 d0 _ (ng (qz (2^k)).num) A1 n1 c1 _ D1 m1 d1 _ W X0.n X0.d X1.n X1.d (by omega) (by omega) (by omega) (by omega) (by rw[rv_z];exact hp0)
  rwa [rv_z,rv_z,hhi] at this
 clear hN hP19 hP5 hL24 hF9 hI hI1 hLL hk hq hs hh hfo hp0 hlo hhi
 generalize rtLo q1 k+rtU k=hi at *
 have hnd:Hid (∀ W,Rd W none 0 0 (dn (qz (isq (rtN q1 k)+1)))):=Lib.hid fun W=>Rd.nil_ _ _ _
 generalize qz (isq (rtN q1 k)+1)=nx at *
 generalize cmpq (rtLo q1 k*rtLo q1 k) q1=cc at *
 generalize rtLo q1 k*rtLo q1 k=ll at *
 generalize rtLo q1 k=lo at *
 have hrs:Hid (ng (qz (isq (rtN q1 k))).num=false∧(∀ W A n c,Rd W A n c (limbs (isq (rtN q1 k)))→Rd W A n c (limbs (qz (isq (rtN q1 k))).num.natAbs))∧∀ W,Rd W none 0 0 (dn (qz (isq (rtN q1 k))))):=Lib.hid ⟨qz_ng _,fun _ _ _ _ h=>h,fun W=>Rd.nil_ _ _ _⟩
 generalize qz (isq (rtN q1 k))=ro at *
 generalize isq (rtN q1 k)=iN at *
 generalize (qz (rtN q1 k)).num=zN at *
 generalize rtN q1 k=nN at *
 generalize q1*qz (2^(2*k))=pr at *
 generalize qz (2^(2*k))=fo at *
 generalize qz (2^k)=un at *
 generalize q1.num.sign=sg at *
 replace hQ:=hQ.out
 simp only[hrs.out.1] at hQ
 replace hQ:=Lib.hid hQ
 have k1:=Lib.hid X1.k
 have S:=(((((St.new w).read X1.rn).read X1.rd).allocAt (w.heap.size) #[.bool b1,.slice A1 n1 c1,.slice D1 m1 d1] 26 (noL3 _ _ _ _ _ _ _) (by simp)).allocAt (w.heap.size+1) #[.bool false,.slice none 0 0,.slice none 0 0,.bool false,.slice none 0 0,.slice none 0 0] 28 (noL6 _ _ _ _ _ _ _ _ _ _ _ _ _ _) (by simp))
 replace S:=Lib.hid S
 clear X1
 go_enter Tryz.func31,Tryz.ntmps31
 go_wp2_with fail
 refine (hS.out _ (Rw.of (S.out.r 1 rfl) (S.out.r 0 rfl) k1.out)).mono ?_
 rintro e w1 ⟨rfl,bb⟩
 have T:=(S.out.call bb)
 clear bb S
 have S:=T
 clear T
 obtain⟨c_r0,c_r1,c_r2,c_r3,c_r4,c_r5,f_r0,f_r1,f_r2,f_r3,f_r4,f_r5⟩:=S.cf6 0 rfl
 obtain⟨c_v0,c_v1,c_v2,f_v0,f_v1,f_v2⟩:=S.cf3 1 rfl
 have hz:w.heap.size+1<w1.heap.size:=S.lt 0 rfl
 replace S:=Lib.hid S
 clear hS
 go_wp2_with fail
 refine (hU.out _).mono ?_
 rintro e w2 ⟨A20,n20,c20,D20,m20,d20,rfl,Q20,bb⟩
 have T:=(((S.out.call bb).read Q20.n).read Q20.d)
 clear bb S c_r0 f_r0 c_r1 f_r1 c_r2 f_r2 c_r3 f_r3 c_r4 f_r4 c_r5 f_r5 c_v0 f_v0 c_v1 f_v1 c_v2 f_v2 hz
 have S:=T
 clear T
 obtain⟨c_r0,c_r1,c_r2,c_r3,c_r4,c_r5,f_r0,f_r1,f_r2,f_r3,f_r4,f_r5⟩:=S.cf6 0 rfl
 obtain⟨c_v0,c_v1,c_v2,f_v0,f_v1,f_v2⟩:=S.cf3 1 rfl
 have hz:w.heap.size+1<w2.heap.size:=S.lt 0 rfl
 replace S:=Lib.hid S
 clear Q20 hU g1 g2 g3
 go_upto_region 4 with fail
 clear c_r0 f_r0 c_r1 f_r1 c_r2 f_r2 c_r3 f_r3 c_r4 f_r4 c_r5 f_r5 c_v0 f_v0 c_v1 f_v1 c_v2 f_v2 hz
 have S:=(S.out.allocAt (w2.heap.size) #[.bool (ng un.num),.slice A20 n20 c20,.slice D20 m20 d20] 26 (noL3 _ _ _ _ _ _ _) (by simp))
 generalize hW3:(World.alloc w2 (.cells #[.bool (ng un.num),.slice A20 n20 c20,.slice D20 m20 d20] 26))=w3 at S ⊢
 clear hW3
 replace S:=Lib.hid S
 refine RW.begin (Z:=[⟨6,7,#[.bool false,.slice none 0 0],24⟩]) (S:=(fun W=>Cb W (w.heap.size) #[.bool b1,.slice A1 n1 c1,.slice D1 m1 d1] 26∧Cb W (w2.heap.size) #[.bool (ng un.num),.slice A20 n20 c20,.slice D20 m20 d20] 26)) (by kernel_rfl) ?_ S.out ?_
 ·exact⟨by kernel_rfl,(zis_cons at6 (fun _ _=>by kernel_rfl) zis_nil),by decide,by decide,(nol_cons (noL2 _ _ _ _) nol_nil),(fun _ _ h=>⟨h.kb 2 rfl,h.kb 0 rfl⟩)⟩
 intro hzk
 clear S
 refine RW.t (i:=0) (v:=.agg #[.bool b1,.slice A1 n1 c1,.slice D1 m1 d1]) (some 25) at0 (hy:=fun W hS=>by (have k0:=Cb.cell (i:=0) hS.1 rfl;have k1:=Cb.cell (i:=1) hS.1 rfl;have k2:=Cb.cell (i:=2) hS.1 rfl;clear hS;go_simp)) (h:=?_)
 refine RW.t (i:=1) (v:=.agg #[.bool (ng un.num),.slice A20 n20 c20,.slice D20 m20 d20]) (some 26) at1 (hy:=fun W hS=>by (have k0:=Cb.cell (i:=0) hS.2 rfl;have k1:=Cb.cell (i:=1) hS.2 rfl;have k2:=Cb.cell (i:=2) hS.2 rfl;clear hS;go_simp)) (h:=?_)
 refine RW.t (i:=2) (v:=.agg #[.bool (ng un.num),.slice A20 n20 c20,.slice D20 m20 d20]) (some 27) at2 (hy:=fun W hS=>by (have k0:=Cb.cell (i:=0) hS.2 rfl;have k1:=Cb.cell (i:=1) hS.2 rfl;have k2:=Cb.cell (i:=2) hS.2 rfl;clear hS;go_simp)) (h:=?_)
 refine RW.c (i:=3) (args:=#[.agg #[.bool (ng un.num),.slice A20 n20 c20,.slice D20 m20 d20],.agg #[.bool (ng un.num),.slice A20 n20 c20,.slice D20 m20 d20]]) (some 28) hzk.out at3 (hx:=fun _=>by kernel_rfl) (h:=fun _ S=>(hM0.out _ _ _ _ _ _ _ _ _ _ _ _ _ ⟨S.r 1 rfl,S.r 0 rfl⟩ ⟨S.r 1 rfl,S.r 0 rfl⟩).mono ?_)
 rintro e w4 ⟨A21,n21,c21,D21,m21,d21,rfl,Q21,bb⟩
 refine⟨bb,_,[(D21,m21,d21,dn fo),(A21,n21,c21,limbs fo.num.natAbs)],rfl,(rd_cons Q21.d (rd_cons Q21.n rd_nil)),?_⟩
 clear bb S Q21
 refine RW.c (i:=4) (args:=#[.agg #[.bool b1,.slice A1 n1 c1,.slice D1 m1 d1],.agg #[.bool (ng fo.num),.slice A21 n21 c21,.slice D21 m21 d21]]) (some 29) hzk.out at4 (hx:=fun _=>by kernel_rfl) (h:=fun _ S=>(hM1.out _ _ _ _ _ _ _ (Rw.of (S.r 5 rfl) (S.r 4 rfl) k1.out) ⟨S.r 1 rfl,S.r 0 rfl⟩).mono ?_)
 rintro e w5 ⟨A22,n22,c22,D22,m22,d22,rfl,Q22,bb⟩
 refine⟨bb,_,[(D22,m22,d22,dn pr),(A22,n22,c22,limbs pr.num.natAbs)],rfl,(rd_cons Q22.d (rd_cons Q22.n rd_nil)),?_⟩
 clear bb S Q22
 refine RW.c (i:=5) (args:=#[.agg #[.bool (ng pr.num),.slice A22 n22 c22,.slice D22 m22 d22]]) (some 30) hzk.out at5 (hx:=fun _=>by kernel_rfl) (h:=fun _ S=>(hFl.out _ _ _ _ _ _ _ ⟨S.r 1 rfl,S.r 0 rfl⟩).mono ?_)
 rintro e w6 ⟨A23,n23,c23,rfl,Q23,bb⟩
 refine⟨bb,_,[(A23,n23,c23,limbs nN)],rfl,(rd_cons Q23 rd_nil),?_⟩
 clear bb S Q23
 refine RW.tail hzk.out (by kernel_rfl) ?_
 intro gs w7 hgs hS S
 obtain⟨g_n,rfl⟩:=len1' hgs
 clear hS hgs hzk
 simp only[mark,fill,List.map,Act.put,List.setIfInBounds_toArray,List.set_cons_zero,List.set_cons_succ]
 replace S:=Lib.hid S
 refine Wk.o (i:=7) at7 (by kernel_rfl) fun K' hK=>?_
 have q7_n0:=St.cl (S.out) 0 0 rfl rfl
 have q7_n1:=St.cl (S.out) 0 1 rfl rfl
 have q7z_n0:=St.f (S.out) 0 0 rfl
 have q7z_n1:=St.f (S.out) 0 1 rfl
 go_simp
 have SN:=((S.out.set 0 0 (.bool (ng zN)) rfl (by nofun)).set 0 1 (.slice A23 n23 c23) rfl (by nofun))
 clear S q7_n0 q7_n1 q7z_n0 q7z_n1
 have S:=SN
 clear SN
 refine hK.out _ _ ⟨(S.cb 3 rfl),(S.cb 1 rfl)⟩ ?_
 clear hK K'
 replace S:=Lib.hid S
 try simp only[Act.put,List.setIfInBounds_toArray,List.set_cons_zero,List.set_cons_succ]
 refine Wk.done (by kernel_rfl) ?_
 go_simp
 replace S:=S.out
 have S:St w _ [(g_n,#[.bool (ng zN),.slice A23 n23 c23],24),(w2.heap.size,#[.bool (ng un.num),.slice A20 n20 c20,.slice D20 m20 d20],26),(w.heap.size+1,#[.bool false,.slice none 0 0,.slice none 0 0,.bool false,.slice none 0 0,.slice none 0 0],28),(w.heap.size,#[.bool b1,.slice A1 n1 c1,.slice D1 m1 d1],26)] [(A23,n23,c23,limbs nN),(D22,m22,d22,dn pr),(A22,n22,c22,limbs pr.num.natAbs),(D21,m21,d21,dn fo),(A21,n21,c21,limbs fo.num.natAbs),(D20,m20,d20,dn un),(A20,n20,c20,limbs un.num.natAbs),(D1,m1,d1,y1),(A1,n1,c1,x1)]:=S
 generalize hW8:(World.setCell (World.setCell w7 ⟨g_n,0,none⟩ (.bool (ng zN))) ⟨g_n,1,none⟩ (.slice A23 n23 c23))=w8 at S ⊢
 clear hW8
 replace S:=Lib.hid S
 replace S:=S.out
 obtain⟨c_n0,c_n1,f_n0,f_n1⟩:=S.cf2 0 rfl
 obtain⟨c_u0,c_u1,c_u2,f_u0,f_u1,f_u2⟩:=S.cf3 1 rfl
 obtain⟨c_r0,c_r1,c_r2,c_r3,c_r4,c_r5,f_r0,f_r1,f_r2,f_r3,f_r4,f_r5⟩:=S.cf6 2 rfl
 obtain⟨c_v0,c_v1,c_v2,f_v0,f_v1,f_v2⟩:=S.cf3 3 rfl
 have hz:g_n<w8.heap.size:=S.lt 0 rfl
 replace S:=Lib.hid S
 clear hM0 hM1 hFl
 go_wp2_with fail
 refine (hRo.out _ _ _ _ (S.out.r 0 rfl)).mono ?_
 rintro e w9 ⟨A24,n24,c24,rfl,Q24,bb⟩
 have T:=((S.out.call bb).read Q24)
 clear bb S c_n0 f_n0 c_n1 f_n1 c_u0 f_u0 c_u1 f_u1 c_u2 f_u2 c_r0 f_r0 c_r1 f_r1 c_r2 f_r2 c_r3 f_r3 c_r4 f_r4 c_r5 f_r5 c_v0 f_v0 c_v1 f_v1 c_v2 f_v2 hz
 have S:=T
 clear T
 obtain⟨c_n0,c_n1,f_n0,f_n1⟩:=S.cf2 0 rfl
 obtain⟨c_u0,c_u1,c_u2,f_u0,f_u1,f_u2⟩:=S.cf3 1 rfl
 obtain⟨c_r0,c_r1,c_r2,c_r3,c_r4,c_r5,f_r0,f_r1,f_r2,f_r3,f_r4,f_r5⟩:=S.cf6 2 rfl
 obtain⟨c_v0,c_v1,c_v2,f_v0,f_v1,f_v2⟩:=S.cf3 3 rfl
 have hz:g_n<w9.heap.size:=S.lt 0 rfl
 replace S:=Lib.hid S
 clear Q24 hRo
 replace S:=S.out
 have S:=(S.read (hrs.out.2.1 _ _ _ _ (S.r 0 rfl))).read (hrs.out.2.2 _)
 replace S:=Lib.hid S
 have S:=(S.out.allocAt (w9.heap.size) #[.bool false,.slice A24 n24 c24,.slice none 0 0] 26 (noL3 _ _ _ _ _ _ _) (by simp))
 obtain⟨a_u0,a_u1,a_u2,b_u0,b_u1,b_u2⟩:=S.cf3 2 rfl
 replace S:=Lib.hid S
 go_wp2_with fail
 refine (hQ.out _ _ _ _ _ _ _ _ _ _ _ _ _ ⟨S.out.r 1 rfl,S.out.r 0 rfl⟩ ⟨S.out.r 9 rfl,S.out.r 8 rfl⟩).mono ?_
 rintro e w10 ⟨A25,n25,c25,D25,m25,d25,rfl,Q25,bb⟩
 have T:=(((S.out.call bb).read Q25.n).read Q25.d)
 clear bb S c_n0 f_n0 c_n1 f_n1 c_u0 f_u0 c_u1 f_u1 c_u2 f_u2 c_r0 f_r0 c_r1 f_r1 c_r2 f_r2 c_r3 f_r3 c_r4 f_r4 c_r5 f_r5 c_v0 f_v0 c_v1 f_v1 c_v2 f_v2 hz a_u0 b_u0 a_u1 b_u1 a_u2 b_u2
 have S:=T
 clear T
 obtain⟨c_ro0,c_ro1,c_ro2,f_ro0,f_ro1,f_ro2⟩:=S.cf3 0 rfl
 obtain⟨c_n0,c_n1,f_n0,f_n1⟩:=S.cf2 1 rfl
 obtain⟨c_u0,c_u1,c_u2,f_u0,f_u1,f_u2⟩:=S.cf3 2 rfl
 obtain⟨c_r0,c_r1,c_r2,c_r3,c_r4,c_r5,f_r0,f_r1,f_r2,f_r3,f_r4,f_r5⟩:=S.cf6 3 rfl
 obtain⟨c_v0,c_v1,c_v2,f_v0,f_v1,f_v2⟩:=S.cf3 4 rfl
 have hz:w9.heap.size<w10.heap.size:=S.lt 0 rfl
 replace S:=Lib.hid S
 clear Q25 hQ
 go_upto_region 7 with fail
 clear c_ro0 f_ro0 c_ro1 f_ro1 c_ro2 f_ro2 c_n0 f_n0 c_n1 f_n1 c_u0 f_u0 c_u1 f_u1 c_u2 f_u2 c_r0 f_r0 c_r1 f_r1 c_r2 f_r2 c_r3 f_r3 c_r4 f_r4 c_r5 f_r5 c_v0 f_v0 c_v1 f_v1 c_v2 f_v2 hz
 have S:=(S.out.allocAt (w10.heap.size) #[.bool (ng lo.num),.slice A25 n25 c25,.slice D25 m25 d25] 26 (noL3 _ _ _ _ _ _ _) (by simp))
 generalize hW11:(World.alloc w10 (.cells #[.bool (ng lo.num),.slice A25 n25 c25,.slice D25 m25 d25] 26))=w11 at S ⊢
 clear hW11
 replace S:=Lib.hid S
 refine RW.begin (Z:=[]) (S:=(fun W=>Cb W (w10.heap.size) #[.bool (ng lo.num),.slice A25 n25 c25,.slice D25 m25 d25] 26∧Cb W (w.heap.size) #[.bool b1,.slice A1 n1 c1,.slice D1 m1 d1] 26)) (by kernel_rfl) ?_ S.out ?_
 ·exact⟨by kernel_rfl,zis_nil,by decide,by decide,nol_nil,(fun _ _ h=>⟨h.kb 0 rfl,h.kb 5 rfl⟩)⟩
 intro hzk
 clear S
 refine RW.t (i:=0) (v:=.agg #[.bool (ng lo.num),.slice A25 n25 c25,.slice D25 m25 d25]) (some 39) at0 (hy:=fun W hS=>by (have k0:=Cb.cell (i:=0) hS.1 rfl;have k1:=Cb.cell (i:=1) hS.1 rfl;have k2:=Cb.cell (i:=2) hS.1 rfl;clear hS;go_simp)) (h:=?_)
 refine RW.t (i:=1) (v:=.agg #[.bool (ng lo.num),.slice A25 n25 c25,.slice D25 m25 d25]) (some 40) at1 (hy:=fun W hS=>by (have k0:=Cb.cell (i:=0) hS.1 rfl;have k1:=Cb.cell (i:=1) hS.1 rfl;have k2:=Cb.cell (i:=2) hS.1 rfl;clear hS;go_simp)) (h:=?_)
 refine RW.t (i:=3) (v:=.agg #[.bool b1,.slice A1 n1 c1,.slice D1 m1 d1]) (some 42) at3 (hy:=fun W hS=>by (have k0:=Cb.cell (i:=0) hS.2 rfl;have k1:=Cb.cell (i:=1) hS.2 rfl;have k2:=Cb.cell (i:=2) hS.2 rfl;clear hS;go_simp)) (h:=?_)
 refine RW.c (i:=2) (args:=#[.agg #[.bool (ng lo.num),.slice A25 n25 c25,.slice D25 m25 d25],.agg #[.bool (ng lo.num),.slice A25 n25 c25,.slice D25 m25 d25]]) (some 41) hzk.out at2 (hx:=fun _=>by kernel_rfl) (h:=fun _ S=>(hM3.out _ _ _ _ _ _ _ _ _ _ _ _ _ ⟨S.r 1 rfl,S.r 0 rfl⟩ ⟨S.r 1 rfl,S.r 0 rfl⟩).mono ?_)
 rintro e w12 ⟨A26,n26,c26,D26,m26,d26,rfl,Q26,bb⟩
 refine⟨bb,_,[(D26,m26,d26,dn ll),(A26,n26,c26,limbs ll.num.natAbs)],rfl,(rd_cons Q26.d (rd_cons Q26.n rd_nil)),?_⟩
 clear bb S Q26
 refine RW.c (i:=4) (args:=#[.agg #[.bool (ng ll.num),.slice A26 n26 c26,.slice D26 m26 d26],.agg #[.bool b1,.slice A1 n1 c1,.slice D1 m1 d1]]) (some 43) hzk.out at4 (hx:=fun _=>by kernel_rfl) (h:=fun _ S=>(hC.out _ _ _ _ _ _ _ ⟨S.r 1 rfl,S.r 0 rfl⟩ (Rw.of (S.r 15 rfl) (S.r 14 rfl) k1.out)).mono ?_)
 rintro e w13 ⟨rfl,bb⟩
 refine⟨bb,_,[],rfl,rd_nil,?_⟩
 clear bb S
 refine RW.t (i:=5) (v:=.bool false) (some 44) at5 (hy:=fun _ _=>by go_simp) (h:=?_)
 refine RW.tail hzk.out (by kernel_rfl) ?_
 intro gs w14 hgs hS S
 obtain rfl:=len0 hgs
 clear hS hgs hzk
 simp only[mark,fill,Act.put,List.setIfInBounds_toArray,List.set_cons_zero,List.set_cons_succ]
 replace S:=Lib.hid S
 refine Wk.done (by kernel_rfl) ?_
 go_simp
 replace S:=S.out
 have S:St w _ [(w10.heap.size,#[.bool (ng lo.num),.slice A25 n25 c25,.slice D25 m25 d25],26),(w9.heap.size,#[.bool false,.slice A24 n24 c24,.slice none 0 0],26),(g_n,#[.bool (ng zN),.slice A23 n23 c23],24),(w2.heap.size,#[.bool (ng un.num),.slice A20 n20 c20,.slice D20 m20 d20],26),(w.heap.size+1,#[.bool false,.slice none 0 0,.slice none 0 0,.bool false,.slice none 0 0,.slice none 0 0],28),(w.heap.size,#[.bool b1,.slice A1 n1 c1,.slice D1 m1 d1],26)] [(D26,m26,d26,dn ll),(A26,n26,c26,limbs ll.num.natAbs),(D25,m25,d25,dn lo),(A25,n25,c25,limbs lo.num.natAbs),(none,0,0,dn ro),(A24,n24,c24,limbs ro.num.natAbs),(A24,n24,c24,limbs iN),(A23,n23,c23,limbs nN),(D22,m22,d22,dn pr),(A22,n22,c22,limbs pr.num.natAbs),(D21,m21,d21,dn fo),(A21,n21,c21,limbs fo.num.natAbs),(D20,m20,d20,dn un),(A20,n20,c20,limbs un.num.natAbs),(D1,m1,d1,y1),(A1,n1,c1,x1)]:=S
 replace S:=Lib.hid S
 replace S:=S.out
 obtain⟨c_lo0,c_lo1,c_lo2,f_lo0,f_lo1,f_lo2⟩:=S.cf3 0 rfl
 obtain⟨c_ro0,c_ro1,c_ro2,f_ro0,f_ro1,f_ro2⟩:=S.cf3 1 rfl
 obtain⟨c_n0,c_n1,f_n0,f_n1⟩:=S.cf2 2 rfl
 obtain⟨c_u0,c_u1,c_u2,f_u0,f_u1,f_u2⟩:=S.cf3 3 rfl
 obtain⟨c_r0,c_r1,c_r2,c_r3,c_r4,c_r5,f_r0,f_r1,f_r2,f_r3,f_r4,f_r5⟩:=S.cf6 4 rfl
 obtain⟨c_v0,c_v1,c_v2,f_v0,f_v1,f_v2⟩:=S.cf3 5 rfl
 have hz:w10.heap.size<w14.heap.size:=S.lt 0 rfl
 replace S:=Lib.hid S
 clear hM3 hC
 go_upto_region 9 with fail
 clear c_lo0 f_lo0 c_lo1 f_lo1 c_lo2 f_lo2 c_ro0 f_ro0 c_ro1 f_ro1 c_ro2 f_ro2 c_n0 f_n0 c_n1 f_n1 c_u0 f_u0 c_u1 f_u1 c_u2 f_u2 c_r0 f_r0 c_r1 f_r1 c_r2 f_r2 c_r3 f_r3 c_r4 f_r4 c_r5 f_r5 c_v0 f_v0 c_v1 f_v1 c_v2 f_v2 hz
 refine RW.begin (Z:=[⟨5,10,#[.bool false,.slice none 0 0,.slice none 0 0],26⟩]) (S:=(fun W=>Cb W (w9.heap.size) #[.bool false,.slice A24 n24 c24,.slice none 0 0] 26)) (by kernel_rfl) ?_ S.out ?_
 ·exact⟨by kernel_rfl,(zis_cons at5 (fun _ _=>by kernel_rfl) zis_nil),by decide,by decide,(nol_cons (noL3 _ _ _ _ _ _ _) nol_nil),(fun _ _ h=>h.kb 1 rfl)⟩
 intro hzk
 clear S
 refine RW.t (i:=0) (v:=.pointer (some ⟨w9.heap.size,0,none⟩)) (some 48) at0 (hy:=fun _ _=>by kernel_rfl) (h:=?_)
 refine RW.t (i:=1) (v:=.agg #[.bool false,.slice A24 n24 c24]) (some 49) at1 (hy:=fun W hS=>by (have k0:=Cb.cell (i:=0) hS rfl;have k1:=Cb.cell (i:=1) hS rfl;clear hS;go_simp)) (h:=?_)
 refine RW.c (i:=2) (args:=#[.int .i64 1]) (some 50) hzk.out at2 (hx:=fun _=>by kernel_rfl) (h:=fun _ S=>(hF1.out _).mono ?_)
 rintro e w15 ⟨A40,n40,c40,rfl,Q40,bb⟩
 refine⟨bb,_,[(A40,n40,c40,limbs (1:Int).natAbs)],rfl,(rd_cons Q40 rd_nil),?_⟩
 clear bb S Q40
 refine RW.c (i:=3) (args:=#[.agg #[.bool false,.slice A24 n24 c24],.agg #[.bool (ng 1),.slice A40 n40 c40]]) (some 51) hzk.out at3 (hx:=fun _=>by kernel_rfl) (h:=fun _ S=>(hA1.out _ _ _ _ _ _ _ (S.r 7 rfl) (S.r 0 rfl)).mono ?_)
 rintro e w16 ⟨A28,n28,c28,rfl,Q28,bb⟩
 refine⟨bb,_,[(A28,n28,c28,limbs nx.num.natAbs)],rfl,(rd_cons Q28 rd_nil),?_⟩
 clear bb S Q28
 refine RW.t (i:=4) (v:=.agg #[.bool (ng nx.num),.slice A28 n28 c28,.slice none 0 0]) (some 52) at4 (hy:=fun _ _=>by kernel_rfl) (h:=?_)
 refine RW.tail hzk.out (by kernel_rfl) ?_
 intro gs w17 hgs hS S
 obtain⟨g_nx,rfl⟩:=len1' hgs
 clear hS hgs hzk
 simp only[mark,fill,List.map,Act.put,List.setIfInBounds_toArray,List.set_cons_zero,List.set_cons_succ]
 replace S:=Lib.hid S
 refine Wk.o (i:=6) at6 (by kernel_rfl) fun K' hK=>?_
 have q6_nx0:=St.cl (S.out) 0 0 rfl rfl
 have q6_nx1:=St.cl (S.out) 0 1 rfl rfl
 have q6_nx2:=St.cl (S.out) 0 2 rfl rfl
 have q6z_nx0:=St.f (S.out) 0 0 rfl
 have q6z_nx1:=St.f (S.out) 0 1 rfl
 have q6z_nx2:=St.f (S.out) 0 2 rfl
 go_simp
 have SN:=(((S.out.set 0 0 (.bool (ng nx.num)) rfl (by nofun)).set 0 1 (.slice A28 n28 c28) rfl (by nofun)).set 0 2 (.slice none 0 0) rfl (by nofun))
 clear S q6_nx0 q6_nx1 q6_nx2 q6z_nx0 q6z_nx1 q6z_nx2
 have S:=SN
 clear SN
 refine hK.out _ _ (S.cb 2 rfl) ?_
 clear hK K'
 replace S:=Lib.hid S
 try simp only[Act.put,List.setIfInBounds_toArray,List.set_cons_zero,List.set_cons_succ]
 refine Wk.done (by kernel_rfl) ?_
 go_simp
 replace S:=S.out
 have S:St w _ [(g_nx,#[.bool (ng nx.num),.slice A28 n28 c28,.slice none 0 0],26),(w10.heap.size,#[.bool (ng lo.num),.slice A25 n25 c25,.slice D25 m25 d25],26),(w9.heap.size,#[.bool false,.slice A24 n24 c24,.slice none 0 0],26),(g_n,#[.bool (ng zN),.slice A23 n23 c23],24),(w2.heap.size,#[.bool (ng un.num),.slice A20 n20 c20,.slice D20 m20 d20],26),(w.heap.size+1,#[.bool false,.slice none 0 0,.slice none 0 0,.bool false,.slice none 0 0,.slice none 0 0],28),(w.heap.size,#[.bool b1,.slice A1 n1 c1,.slice D1 m1 d1],26)] [(A28,n28,c28,limbs nx.num.natAbs),(A40,n40,c40,limbs (1:Int).natAbs),(D26,m26,d26,dn ll),(A26,n26,c26,limbs ll.num.natAbs),(D25,m25,d25,dn lo),(A25,n25,c25,limbs lo.num.natAbs),(none,0,0,dn ro),(A24,n24,c24,limbs ro.num.natAbs),(A24,n24,c24,limbs iN),(A23,n23,c23,limbs nN),(D22,m22,d22,dn pr),(A22,n22,c22,limbs pr.num.natAbs),(D21,m21,d21,dn fo),(A21,n21,c21,limbs fo.num.natAbs),(D20,m20,d20,dn un),(A20,n20,c20,limbs un.num.natAbs),(D1,m1,d1,y1),(A1,n1,c1,x1)]:=S
 generalize hW18:(World.setCell (World.setCell (World.setCell w17 ⟨g_nx,0,none⟩ (.bool (ng nx.num))) ⟨g_nx,1,none⟩ (.slice A28 n28 c28)) ⟨g_nx,2,none⟩ (.slice none 0 0))=w18 at S ⊢
 clear hW18
 replace S:=Lib.hid S
 replace S:=S.out
 obtain⟨c_nx0,c_nx1,c_nx2,f_nx0,f_nx1,f_nx2⟩:=S.cf3 0 rfl
 obtain⟨c_lo0,c_lo1,c_lo2,f_lo0,f_lo1,f_lo2⟩:=S.cf3 1 rfl
 obtain⟨c_ro0,c_ro1,c_ro2,f_ro0,f_ro1,f_ro2⟩:=S.cf3 2 rfl
 obtain⟨c_n0,c_n1,f_n0,f_n1⟩:=S.cf2 3 rfl
 obtain⟨c_u0,c_u1,c_u2,f_u0,f_u1,f_u2⟩:=S.cf3 4 rfl
 obtain⟨c_r0,c_r1,c_r2,c_r3,c_r4,c_r5,f_r0,f_r1,f_r2,f_r3,f_r4,f_r5⟩:=S.cf6 5 rfl
 obtain⟨c_v0,c_v1,c_v2,f_v0,f_v1,f_v2⟩:=S.cf3 6 rfl
 have hz:g_nx<w18.heap.size:=S.lt 0 rfl
 replace S:=Lib.hid S
 clear hF1 hA1
 replace S:=S.out
 have S:=S.read (hnd.out _)
 replace S:=Lib.hid S
 go_upto_region 10 with fail
 clear c_nx0 f_nx0 c_nx1 f_nx1 c_nx2 f_nx2 c_lo0 f_lo0 c_lo1 f_lo1 c_lo2 f_lo2 c_ro0 f_ro0 c_ro1 f_ro1 c_ro2 f_ro2 c_n0 f_n0 c_n1 f_n1 c_u0 f_u0 c_u1 f_u1 c_u2 f_u2 c_r0 f_r0 c_r1 f_r1 c_r2 f_r2 c_r3 f_r3 c_r4 f_r4 c_r5 f_r5 c_v0 f_v0 c_v1 f_v1 c_v2 f_v2 hz
 refine RW.begin (Z:=[]) (S:=(fun W=>Cb W (w10.heap.size) #[.bool (ng lo.num),.slice A25 n25 c25,.slice D25 m25 d25] 26∧Cb W (g_nx) #[.bool (ng nx.num),.slice A28 n28 c28,.slice none 0 0] 26∧Cb W (w2.heap.size) #[.bool (ng un.num),.slice A20 n20 c20,.slice D20 m20 d20] 26)) (by kernel_rfl) ?_ S.out ?_
 ·exact⟨by kernel_rfl,zis_nil,by decide,by decide,nol_nil,(fun _ _ h=>⟨h.kb 1 rfl,h.kb 0 rfl,h.kb 4 rfl⟩)⟩
 intro hzk
 clear S
 refine RW.t (i:=0) (v:=.agg #[.bool (ng lo.num),.slice A25 n25 c25,.slice D25 m25 d25]) (some 53) at0 (hy:=fun W hS=>by (have k0:=Cb.cell (i:=0) hS.1 rfl;have k1:=Cb.cell (i:=1) hS.1 rfl;have k2:=Cb.cell (i:=2) hS.1 rfl;clear hS;go_simp)) (h:=?_)
 refine RW.t (i:=1) (v:=.agg #[.bool (ng nx.num),.slice A28 n28 c28,.slice none 0 0]) (some 54) at1 (hy:=fun W hS=>by (have k0:=Cb.cell (i:=0) hS.2.1 rfl;have k1:=Cb.cell (i:=1) hS.2.1 rfl;have k2:=Cb.cell (i:=2) hS.2.1 rfl;clear hS;go_simp)) (h:=?_)
 refine RW.t (i:=2) (v:=.agg #[.bool (ng un.num),.slice A20 n20 c20,.slice D20 m20 d20]) (some 55) at2 (hy:=fun W hS=>by (have k0:=Cb.cell (i:=0) hS.2.2 rfl;have k1:=Cb.cell (i:=1) hS.2.2 rfl;have k2:=Cb.cell (i:=2) hS.2.2 rfl;clear hS;go_simp)) (h:=?_)
 refine RW.c (i:=3) (args:=#[.agg #[.bool (ng nx.num),.slice A28 n28 c28,.slice none 0 0],.agg #[.bool (ng un.num),.slice A20 n20 c20,.slice D20 m20 d20]]) (some 56) hzk.out at3 (hx:=fun _=>by kernel_rfl) (h:=fun _ S=>(hQ2.out _ _ _ _ _ _ _ _ _ _ _ _ _ ⟨S.r 1 rfl,S.r 0 rfl⟩ ⟨S.r 16 rfl,S.r 15 rfl⟩).mono ?_)
 rintro e w19 ⟨A27,n27,c27,D27,m27,d27,rfl,Q27,bb⟩
 refine⟨bb,_,[(D27,m27,d27,dn hi),(A27,n27,c27,limbs hi.num.natAbs)],rfl,(rd_cons Q27.d (rd_cons Q27.n rd_nil)),?_⟩
 clear bb S Q27
 refine RW.t (i:=4) (v:=.agg #[.bool (ng lo.num),.slice A25 n25 c25,.slice D25 m25 d25,.bool (ng hi.num),.slice A27 n27 c27,.slice D27 m27 d27]) (some 57) at4 (hy:=fun _ _=>by kernel_rfl) (h:=?_)
 refine RW.tail hzk.out (by kernel_rfl) ?_
 intro gs w20 hgs hS S
 obtain rfl:=len0 hgs
 clear hS hgs hzk
 simp only[mark,fill,Act.put,List.setIfInBounds_toArray,List.set_cons_zero,List.set_cons_succ]
 replace S:=Lib.hid S
 refine Wk.o (i:=5) at5 (by kernel_rfl) fun K' hK=>?_
 have q5_r0:=St.cl (S.out) 5 0 rfl rfl
 have q5_r1:=St.cl (S.out) 5 1 rfl rfl
 have q5_r2:=St.cl (S.out) 5 2 rfl rfl
 have q5_r3:=St.cl (S.out) 5 3 rfl rfl
 have q5_r4:=St.cl (S.out) 5 4 rfl rfl
 have q5_r5:=St.cl (S.out) 5 5 rfl rfl
 have q5z_r0:=St.f (S.out) 5 0 rfl
 have q5z_r1:=St.f (S.out) 5 1 rfl
 have q5z_r2:=St.f (S.out) 5 2 rfl
 have q5z_r3:=St.f (S.out) 5 3 rfl
 have q5z_r4:=St.f (S.out) 5 4 rfl
 have q5z_r5:=St.f (S.out) 5 5 rfl
 go_simp
 have SN:=((((((S.out.set 5 0 (.bool (ng lo.num)) rfl (by nofun)).set 5 1 (.slice A25 n25 c25) rfl (by nofun)).set 5 2 (.slice D25 m25 d25) rfl (by nofun)).set 5 3 (.bool (ng hi.num)) rfl (by nofun)).set 5 4 (.slice A27 n27 c27) rfl (by nofun)).set 5 5 (.slice D27 m27 d27) rfl (by nofun))
 clear S q5_r0 q5_r1 q5_r2 q5_r3 q5_r4 q5_r5 q5z_r0 q5z_r1 q5z_r2 q5z_r3 q5z_r4 q5z_r5
 have S:=SN
 clear SN
 refine hK.out _ _ ⟨(S.cb 1 rfl),(S.cb 0 rfl),(S.cb 4 rfl)⟩ ?_
 clear hK K'
 replace S:=Lib.hid S
 try simp only[Act.put,List.setIfInBounds_toArray,List.set_cons_zero,List.set_cons_succ]
 refine Wk.o (i:=6) at6 (by kernel_rfl) fun K' hK=>?_
 go_simp
 have SN:=S.out
 clear S
 have S:=SN
 clear SN
 refine hK.out _ _ ⟨(S.cb 1 rfl),(S.cb 0 rfl),(S.cb 4 rfl)⟩ ?_
 clear hK K'
 replace S:=Lib.hid S
 try simp only[Act.put,List.setIfInBounds_toArray,List.set_cons_zero,List.set_cons_succ]
 refine Wk.done (by kernel_rfl) ?_
 go_simp
 replace S:=S.out
 have S:St w _ [(g_nx,#[.bool (ng nx.num),.slice A28 n28 c28,.slice none 0 0],26),(w10.heap.size,#[.bool (ng lo.num),.slice A25 n25 c25,.slice D25 m25 d25],26),(w9.heap.size,#[.bool false,.slice A24 n24 c24,.slice none 0 0],26),(g_n,#[.bool (ng zN),.slice A23 n23 c23],24),(w2.heap.size,#[.bool (ng un.num),.slice A20 n20 c20,.slice D20 m20 d20],26),(w.heap.size+1,#[.bool (ng lo.num),.slice A25 n25 c25,.slice D25 m25 d25,.bool (ng hi.num),.slice A27 n27 c27,.slice D27 m27 d27],28),(w.heap.size,#[.bool b1,.slice A1 n1 c1,.slice D1 m1 d1],26)] [(D27,m27,d27,dn hi),(A27,n27,c27,limbs hi.num.natAbs),(none,0,0,dn nx),(A28,n28,c28,limbs nx.num.natAbs),(A40,n40,c40,limbs (1:Int).natAbs),(D26,m26,d26,dn ll),(A26,n26,c26,limbs ll.num.natAbs),(D25,m25,d25,dn lo),(A25,n25,c25,limbs lo.num.natAbs),(none,0,0,dn ro),(A24,n24,c24,limbs ro.num.natAbs),(A24,n24,c24,limbs iN),(A23,n23,c23,limbs nN),(D22,m22,d22,dn pr),(A22,n22,c22,limbs pr.num.natAbs),(D21,m21,d21,dn fo),(A21,n21,c21,limbs fo.num.natAbs),(D20,m20,d20,dn un),(A20,n20,c20,limbs un.num.natAbs),(D1,m1,d1,y1),(A1,n1,c1,x1)]:=S
 generalize hW21:(World.setCell (World.setCell (World.setCell (World.setCell (World.setCell (World.setCell w20 ⟨w.heap.size+1,0,none⟩ (.bool (ng lo.num))) ⟨w.heap.size+1,1,none⟩ (.slice A25 n25 c25)) ⟨w.heap.size+1,2,none⟩ (.slice D25 m25 d25)) ⟨w.heap.size+1,3,none⟩ (.bool (ng hi.num))) ⟨w.heap.size+1,4,none⟩ (.slice A27 n27 c27)) ⟨w.heap.size+1,5,none⟩ (.slice D27 m27 d27))=w21 at S ⊢
 clear hW21
 replace S:=Lib.hid S
 replace S:=S.out
 obtain⟨c_nx0,c_nx1,c_nx2,f_nx0,f_nx1,f_nx2⟩:=S.cf3 0 rfl
 obtain⟨c_lo0,c_lo1,c_lo2,f_lo0,f_lo1,f_lo2⟩:=S.cf3 1 rfl
 obtain⟨c_ro0,c_ro1,c_ro2,f_ro0,f_ro1,f_ro2⟩:=S.cf3 2 rfl
 obtain⟨c_n0,c_n1,f_n0,f_n1⟩:=S.cf2 3 rfl
 obtain⟨c_u0,c_u1,c_u2,f_u0,f_u1,f_u2⟩:=S.cf3 4 rfl
 obtain⟨c_r0,c_r1,c_r2,c_r3,c_r4,c_r5,f_r0,f_r1,f_r2,f_r3,f_r4,f_r5⟩:=S.cf6 5 rfl
 obtain⟨c_v0,c_v1,c_v2,f_v0,f_v1,f_v2⟩:=S.cf3 6 rfl
 have hz:g_nx<w21.heap.size:=S.lt 0 rfl
 replace S:=Lib.hid S
 have S:=S.out
 replace S:=Lib.hid S
 go_wp2
 refine bodyPost_ret (res_rroot4 _ _ (w.heap.size+1) 28 rfl rfl (S.out.bk _ (List.mem_of_getElem? (i:=5) rfl)).1) rfl ?_
 exact⟨_,_,_,_,_,_,_,_,_,_,_,_,rfl,⟨S.out.r 8 rfl,S.out.r 7 rfl⟩,⟨S.out.r 1 rfl,S.out.r 0 rfl⟩,S.out.bel⟩
end Go.Proofs.YtphckmdnflbloaaGreat
