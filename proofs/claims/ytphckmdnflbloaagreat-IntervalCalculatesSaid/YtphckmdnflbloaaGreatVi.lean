/- Div of interval. -/
import Derived.Test.YtphckmdnflbloaaGreatQVfz
namespace Go.Proofs.YtphckmdnflbloaaGreat
open Go.RowKit RQ
theorem div_ok {x y:Rat} (h:¬ (klo x y≤0∧0≤khi x y)):x≤y∧(0<x∨y<0):=by
 unfold klo khi at h
 by_cases hc:y<x
 ·rw[if_pos hc,if_pos hc] at h;exact absurd ⟨Rat.le_refl,Rat.le_refl⟩ h
 ·rw[if_neg hc,if_neg hc] at h
  refine⟨Rat.not_lt.1 hc,?_⟩
  rcases Rat.le_total (a:=x) (b:=0) with h1 | h1
  ·exact .inr (Rat.not_le.1 fun h2=>h ⟨h1,h2⟩)
  ·by_cases h3:x=0
   ·exact .inr (Rat.not_le.1 fun h2=>h ⟨by rw[h3];exact Rat.le_refl,h2⟩)
   ·exact .inl (Rat.lt_of_le_of_ne h1 (Ne.symm h3))
theorem res_idiv (W:World) (tmps:Array Value) (g t:Nat) {v0 v1 v2 v3 v4 v5 e0:Value} (ht:tmps.getD 4 undef=.pointer (some ⟨g,0,none⟩)) (h0:tmps.getD 5 undef=e0) (h:Cb W g #[v0,v1,v2,v3,v4,v5] t) :
  (results Tryz.f16 tmps).run Tryz.prog W=.ok (.tuple #[.agg #[v0,v1,v2,v3,v4,v5],e0]) W:=by
 have c0:W.cell? ⟨g,0,none⟩=some v0:=h.cell rfl
 have c1:W.cell? ⟨g,1,none⟩=some v1:=h.cell rfl
 have c2:W.cell? ⟨g,2,none⟩=some v2:=h.cell rfl
 have c3:W.cell? ⟨g,3,none⟩=some v3:=h.cell rfl
 have c4:W.cell? ⟨g,4,none⟩=some v4:=h.cell rfl
 have c5:W.cell? ⟨g,5,none⟩=some v5:=h.cell rfl
 have ht':tmps[4]?.getD undef=.pointer (some ⟨g,0,none⟩):=by rw[←ht];simp[Array.getD_eq_getD_getElem?]
 have k0:tmps[5]?.getD undef=e0:=by rw[←h0];simp[Array.getD_eq_getD_getElem?]
 simp[results,Tryz.results16,go_sem,ht',k0,c0,c1,c2,c3,c4,c5]
set_option maxRecDepth 100000 in
set_option maxHeartbeats 8000000 in
theorem idiv_no (b1:Bool) (A1:Option Addr) (n1 c1:Nat) (x1:List Nat) (D1:Option Addr) (m1 d1:Nat) (y1:List Nat) (q1:Rat) (b2:Bool) (A2:Option Addr) (n2 c2:Nat) (x2:List Nat) (D2:Option Addr) (m2 d2:Nat) (y2:List Nat) (q2:Rat) (b3:Bool) (A3:Option Addr) (n3 c3:Nat) (x3:List Nat) (D3:Option Addr) (m3 d3:Nat) (y3:List Nat) (q3:Rat) (b4:Bool) (A4:Option Addr) (n4 c4:Nat) (x4:List Nat) (D4:Option Addr) (m4 d4:Nat) (y4:List Nat) (q4:Rat) (hz:klo q3 q4≤0∧0≤khi q3 q4) (w:World) (X1:Rw w b1 A1 n1 c1 x1 D1 m1 d1 y1 q1) (X2:Rw w b2 A2 n2 c2 x2 D2 m2 d2 y2 q2) (X3:Rw w b3 A3 n3 c3 x3 D3 m3 d3 y3 q3) (X4:Rw w b4 A4 n4 c4 x4 D4 m4 d4 y4 q4):Calls Tryz.prog 16 #[.agg #[.bool b1,.slice A1 n1 c1,.slice D1 m1 d1,.bool b2,.slice A2 n2 c2,.slice D2 m2 d2],.agg #[.bool b3,.slice A3 n3 c3,.slice D3 m3 d3,.bool b4,.slice A4 n4 c4,.slice D4 m4 d4]] w (RetVE 0 0 (.int .i64 5) w):=by
 have hC:Hid (∀ W,Rw W b3 A3 n3 c3 x3 D3 m3 d3 y3 q3→Rw W b4 A4 n4 c4 x4 D4 m4 d4 y4 q4→Calls Tryz.prog 79 #[.agg #[.bool b3,.slice A3 n3 c3,.slice D3 m3 d3,.bool b4,.slice A4 n4 c4,.slice D4 m4 d4],.agg #[.bool false,.slice none 0 0,.slice none 0 0]] W fun e w'=>e=.returned (.bool true)∧Below W.heap.size W w'):=Lib.hid fun W h1 h2=>by
  have:=contains_any b3 A3 n3 c3 x3 D3 m3 d3 y3 q3 b4 A4 n4 c4 x4 D4 m4 d4 y4 q4 false none 0 0 [] none 0 0 [] 0 W h1 h2 (Rw.zero W)
  rwa [decide_eq_true hz.1,decide_eq_true hz.2] at this
 clear hz
 have k1:=Lib.hid X1.k
 have k2:=Lib.hid X2.k
 have k3:=Lib.hid X3.k
 have k4:=Lib.hid X4.k
 have S:=((((((((((((St.new w).read X1.rn).read X1.rd).read X2.rn).read X2.rd).read X3.rn).read X3.rd).read X4.rn).read X4.rd).allocAt (w.heap.size) #[.bool b1,.slice A1 n1 c1,.slice D1 m1 d1,.bool b2,.slice A2 n2 c2,.slice D2 m2 d2] 28 (noL6 _ _ _ _ _ _ _ _ _ _ _ _ _ _) (by simp)).allocAt (w.heap.size+1) #[.bool b3,.slice A3 n3 c3,.slice D3 m3 d3,.bool b4,.slice A4 n4 c4,.slice D4 m4 d4] 28 (noL6 _ _ _ _ _ _ _ _ _ _ _ _ _ _) (by simp)).allocAt (w.heap.size+1+1) #[.bool false,.slice none 0 0,.slice none 0 0,.bool false,.slice none 0 0,.slice none 0 0] 28 (noL6 _ _ _ _ _ _ _ _ _ _ _ _ _ _) (by simp))
 replace S:=Lib.hid S
 clear X1 X2 X3 X4
 go_enter Tryz.func16,Tryz.ntmps16
 go_wp2_with fail
 refine (hC.out _ (Rw.of (S.out.r 3 rfl) (S.out.r 2 rfl) k3.out) (Rw.of (S.out.r 1 rfl) (S.out.r 0 rfl) k4.out)).mono ?_
 rintro e w1 ⟨rfl,bb⟩
 have T:=(S.out.call bb)
 clear bb S
 have S:=T
 clear T
 obtain⟨c_r0,c_r1,c_r2,c_r3,c_r4,c_r5,f_r0,f_r1,f_r2,f_r3,f_r4,f_r5⟩:=S.cf6 0 rfl
 obtain⟨c_b0,c_b1,c_b2,c_b3,c_b4,c_b5,f_b0,f_b1,f_b2,f_b3,f_b4,f_b5⟩:=S.cf6 1 rfl
 obtain⟨c_a0,c_a1,c_a2,c_a3,c_a4,c_a5,f_a0,f_a1,f_a2,f_a3,f_a4,f_a5⟩:=S.cf6 2 rfl
 have hz:w.heap.size+1+1<w1.heap.size:=S.lt 0 rfl
 replace S:=Lib.hid S
 clear hC
 have S:St w _ [(w.heap.size+1+1,#[.bool false,.slice none 0 0,.slice none 0 0,.bool false,.slice none 0 0,.slice none 0 0],28),(w.heap.size+1,#[.bool b3,.slice A3 n3 c3,.slice D3 m3 d3,.bool b4,.slice A4 n4 c4,.slice D4 m4 d4],28),(w.heap.size,#[.bool b1,.slice A1 n1 c1,.slice D1 m1 d1,.bool b2,.slice A2 n2 c2,.slice D2 m2 d2],28)] [(D4,m4,d4,y4),(A4,n4,c4,x4),(D3,m3,d3,y3),(A3,n3,c3,x3),(D2,m2,d2,y2),(A2,n2,c2,x2),(D1,m1,d1,y1),(A1,n1,c1,x1)]:=((((((S.out.set 0 0 (.bool false) rfl (by nofun)).set 0 1 (.slice none 0 0) rfl (by nofun)).set 0 2 (.slice none 0 0) rfl (by nofun)).set 0 3 (.bool false) rfl (by nofun)).set 0 4 (.slice none 0 0) rfl (by nofun)).set 0 5 (.slice none 0 0) rfl (by nofun))
 replace S:=Lib.hid S
 go_wp2
 refine bodyPost_ret (res_idiv _ _ (w.heap.size+1+1) 28 rfl rfl (S.out.bk _ (List.mem_of_getElem? (i:=0) rfl)).1) rfl ?_
 exact⟨_,_,_,_,_,_,_,_,_,_,_,_,rfl,zero_RR _ _ _ _ _,zero_RR _ _ _ _ _,S.out.bel⟩
set_option maxRecDepth 100000 in
set_option maxHeartbeats 8000000 in
theorem idiv_yes (b1:Bool) (A1:Option Addr) (n1 c1:Nat) (x1:List Nat) (D1:Option Addr) (m1 d1:Nat) (y1:List Nat) (q1:Rat) (b2:Bool) (A2:Option Addr) (n2 c2:Nat) (x2:List Nat) (D2:Option Addr) (m2 d2:Nat) (y2:List Nat) (q2:Rat) (b3:Bool) (A3:Option Addr) (n3 c3:Nat) (x3:List Nat) (D3:Option Addr) (m3 d3:Nat) (y3:List Nat) (q3:Rat) (b4:Bool) (A4:Option Addr) (n4 c4:Nat) (x4:List Nat) (D4:Option Addr) (m4 d4:Nat) (y4:List Nat) (q4:Rat) (hz:¬ (klo q3 q4≤0∧0≤khi q3 q4)) (s1:Rs q1 19) (s2:Rs q2 19) (s3:Rs q3 19) (s4:Rs q4 19) (w:World) (X1:Rw w b1 A1 n1 c1 x1 D1 m1 d1 y1 q1) (X2:Rw w b2 A2 n2 c2 x2 D2 m2 d2 y2 q2) (X3:Rw w b3 A3 n3 c3 x3 D3 m3 d3 y3 q3) (X4:Rw w b4 A4 n4 c4 x4 D4 m4 d4 y4 q4):Calls Tryz.prog 16 #[.agg #[.bool b1,.slice A1 n1 c1,.slice D1 m1 d1,.bool b2,.slice A2 n2 c2,.slice D2 m2 d2],.agg #[.bool b3,.slice A3 n3 c3,.slice D3 m3 d3,.bool b4,.slice A4 n4 c4,.slice D4 m4 d4]] w (RetVE (minL (mulL (klo q1 q2) (khi q1 q2) q4⁻¹ q3⁻¹)) (maxL (mulL (klo q1 q2) (khi q1 q2) q4⁻¹ q3⁻¹)) (.int .i64 0) w):=by
 obtain⟨ho,hs⟩:=div_ok hz
 have hC:Hid (∀ W,Rw W b3 A3 n3 c3 x3 D3 m3 d3 y3 q3→Rw W b4 A4 n4 c4 x4 D4 m4 d4 y4 q4→Calls Tryz.prog 79 #[.agg #[.bool b3,.slice A3 n3 c3,.slice D3 m3 d3,.bool b4,.slice A4 n4 c4,.slice D4 m4 d4],.agg #[.bool false,.slice none 0 0,.slice none 0 0]] W fun e w'=>e=.returned (.bool false)∧Below W.heap.size W w'):=Lib.hid fun W h1 h2=>by
  have:=contains_any b3 A3 n3 c3 x3 D3 m3 d3 y3 q3 b4 A4 n4 c4 x4 D4 m4 d4 y4 q4 false none 0 0 [] none 0 0 [] 0 W h1 h2 (Rw.zero W)
  rwa [←Bool.decide_and,decide_eq_false hz] at this
 have hi:q4⁻¹≤q3⁻¹:=inv_ord ho hs
 have hF:Hid (∀ W,Calls Tryz.prog 80 #[.int .i64 1] W (RetR 1 W)):=Lib.hid fun W=>fromIntR_any 1 W (by decide) (by decide)
 have t0:Hid (Rs (1:Rat) 40):=Lib.hid ⟨by decide,by decide⟩
 have ne3:q3≠0:=by rcases hs with h | h<;>intro e<;>subst e<;>revert h ho<;>grind
 have hD3:Hid (∀ W A n c D m d,Rw W (ng (1:Rat).num) A n c (limbs (1:Rat).num.natAbs) D m d (dn 1) 1→Rw W b3 A3 n3 c3 x3 D3 m3 d3 y3 q3→Calls Tryz.prog 81 #[.agg #[.bool (ng (1:Rat).num),.slice A n c,.slice D m d],.agg #[.bool b3,.slice A3 n3 c3,.slice D3 m3 d3]] W (RetRE q3⁻¹ (.int .i64 0) W)):=Lib.hid fun W A n c D m d h1 h2=>by
  have:=divW _ A n c _ D m d _ 1 b3 A3 n3 c3 x3 D3 m3 d3 y3 q3 W h1 h2
  rwa [show (1:Rat) / q3=q3⁻¹ by rw[Rat.div_def,Rat.one_mul],show dvE q3=0 from if_neg ne3] at this
 have t3:Hid (Rs q3⁻¹ 19):=Lib.hid (s3.inv (by decide))
 have ne4:q4≠0:=by rcases hs with h | h<;>intro e<;>subst e<;>revert h ho<;>grind
 have hD4:Hid (∀ W A n c D m d,Rw W (ng (1:Rat).num) A n c (limbs (1:Rat).num.natAbs) D m d (dn 1) 1→Rw W b4 A4 n4 c4 x4 D4 m4 d4 y4 q4→Calls Tryz.prog 81 #[.agg #[.bool (ng (1:Rat).num),.slice A n c,.slice D m d],.agg #[.bool b4,.slice A4 n4 c4,.slice D4 m4 d4]] W (RetRE q4⁻¹ (.int .i64 0) W)):=Lib.hid fun W A n c D m d h1 h2=>by
  have:=divW _ A n c _ D m d _ 1 b4 A4 n4 c4 x4 D4 m4 d4 y4 q4 W h1 h2
  rwa [show (1:Rat) / q4=q4⁻¹ by rw[Rat.div_def,Rat.one_mul],show dvE q4=0 from if_neg ne4] at this
 have t4:Hid (Rs q4⁻¹ 19):=Lib.hid (s4.inv (by decide))
 have hM:Hid (∀ W A n c D m d A' n' c' D' m' d',Rw W b1 A1 n1 c1 x1 D1 m1 d1 y1 q1→Rw W b2 A2 n2 c2 x2 D2 m2 d2 y2 q2→RR W A n c D m d q4⁻¹→RR W A' n' c' D' m' d' q3⁻¹→Calls Tryz.prog 23 #[.agg #[.bool b1,.slice A1 n1 c1,.slice D1 m1 d1,.bool b2,.slice A2 n2 c2,.slice D2 m2 d2],.agg #[.bool (ng q4⁻¹.num),.slice A n c,.slice D m d,.bool (ng q3⁻¹.num),.slice A' n' c',.slice D' m' d']] W (RetV (minL (mulL (klo q1 q2) (khi q1 q2) q4⁻¹ q3⁻¹)) (maxL (mulL (klo q1 q2) (khi q1 q2) q4⁻¹ q3⁻¹)) W)):=Lib.hid fun W A n c D m d A' n' c' D' m' d' h1 h2 h3 h4=>by
  have:=imul_any _ _ _ _ _ _ _ _ _ _ _ _ _ _ _ _ _ _ _ _ _ _ _ _ _ _ _ _ _ _ _ _ _ _ _ _ _ _ _ _ s1 s2 t4.out t3.out W h1 h2 (RR.w h3 (t4.out.mono (by decide))) (RR.w h4 (t3.out.mono (by decide)))
  rwa [show klo q4⁻¹ q3⁻¹=q4⁻¹ from if_neg (Rat.not_lt.2 hi),show khi q4⁻¹ q3⁻¹=q3⁻¹ from if_neg (Rat.not_lt.2 hi)] at this
 replace t3:=Lib.hid (t3.out.mono (show 19≤40 by decide))
 replace t4:=Lib.hid (t4.out.mono (show 19≤40 by decide))
 clear hi hz ho hs ne3 ne4 s1 s2 s3 s4
 have k1:=Lib.hid X1.k
 have k2:=Lib.hid X2.k
 have k3:=Lib.hid X3.k
 have k4:=Lib.hid X4.k
 generalize minL (mulL (klo q1 q2) (khi q1 q2) q4⁻¹ q3⁻¹)=lo at *
 generalize maxL (mulL (klo q1 q2) (khi q1 q2) q4⁻¹ q3⁻¹)=hi at *
 generalize q3⁻¹=i3 at *
 generalize q4⁻¹=i4 at *
 generalize (1:Rat)=e1 at *
 have S:=((((((((((((St.new w).read X1.rn).read X1.rd).read X2.rn).read X2.rd).read X3.rn).read X3.rd).read X4.rn).read X4.rd).allocAt (w.heap.size) #[.bool b1,.slice A1 n1 c1,.slice D1 m1 d1,.bool b2,.slice A2 n2 c2,.slice D2 m2 d2] 28 (noL6 _ _ _ _ _ _ _ _ _ _ _ _ _ _) (by simp)).allocAt (w.heap.size+1) #[.bool b3,.slice A3 n3 c3,.slice D3 m3 d3,.bool b4,.slice A4 n4 c4,.slice D4 m4 d4] 28 (noL6 _ _ _ _ _ _ _ _ _ _ _ _ _ _) (by simp)).allocAt (w.heap.size+1+1) #[.bool false,.slice none 0 0,.slice none 0 0,.bool false,.slice none 0 0,.slice none 0 0] 28 (noL6 _ _ _ _ _ _ _ _ _ _ _ _ _ _) (by simp))
 replace S:=Lib.hid S
 clear X1 X2 X3 X4
 go_enter Tryz.func16,Tryz.ntmps16
 go_wp2_with fail
 refine (hC.out _ (Rw.of (S.out.r 3 rfl) (S.out.r 2 rfl) k3.out) (Rw.of (S.out.r 1 rfl) (S.out.r 0 rfl) k4.out)).mono ?_
 rintro e w1 ⟨rfl,bb⟩
 have T:=(S.out.call bb)
 clear bb S
 have S:=T
 clear T
 obtain⟨c_r0,c_r1,c_r2,c_r3,c_r4,c_r5,f_r0,f_r1,f_r2,f_r3,f_r4,f_r5⟩:=S.cf6 0 rfl
 obtain⟨c_b0,c_b1,c_b2,c_b3,c_b4,c_b5,f_b0,f_b1,f_b2,f_b3,f_b4,f_b5⟩:=S.cf6 1 rfl
 obtain⟨c_a0,c_a1,c_a2,c_a3,c_a4,c_a5,f_a0,f_a1,f_a2,f_a3,f_a4,f_a5⟩:=S.cf6 2 rfl
 have hz:w.heap.size+1+1<w1.heap.size:=S.lt 0 rfl
 replace S:=Lib.hid S
 clear hC
 go_wp2_with fail
 refine (hF.out _).mono ?_
 rintro e w2 ⟨A20,n20,c20,D20,m20,d20,rfl,Q20,bb⟩
 have T:=(((S.out.call bb).read Q20.n).read Q20.d)
 clear bb S c_r0 f_r0 c_r1 f_r1 c_r2 f_r2 c_r3 f_r3 c_r4 f_r4 c_r5 f_r5 c_b0 f_b0 c_b1 f_b1 c_b2 f_b2 c_b3 f_b3 c_b4 f_b4 c_b5 f_b5 c_a0 f_a0 c_a1 f_a1 c_a2 f_a2 c_a3 f_a3 c_a4 f_a4 c_a5 f_a5 hz
 have S:=T
 clear T
 obtain⟨c_r0,c_r1,c_r2,c_r3,c_r4,c_r5,f_r0,f_r1,f_r2,f_r3,f_r4,f_r5⟩:=S.cf6 0 rfl
 obtain⟨c_b0,c_b1,c_b2,c_b3,c_b4,c_b5,f_b0,f_b1,f_b2,f_b3,f_b4,f_b5⟩:=S.cf6 1 rfl
 obtain⟨c_a0,c_a1,c_a2,c_a3,c_a4,c_a5,f_a0,f_a1,f_a2,f_a3,f_a4,f_a5⟩:=S.cf6 2 rfl
 have hz:w.heap.size+1+1<w2.heap.size:=S.lt 0 rfl
 replace S:=Lib.hid S
 clear Q20 hF
 have S:=(S.out.allocAt (w2.heap.size) #[.bool (ng e1.num),.slice A20 n20 c20,.slice D20 m20 d20] 26 (noL3 _ _ _ _ _ _ _) (by simp))
 obtain⟨a_b0,a_b1,a_b2,a_b3,a_b4,a_b5,b_b0,b_b1,b_b2,b_b3,b_b4,b_b5⟩:=S.cf6 2 rfl
 replace S:=Lib.hid S
 go_wp2_with fail
 refine (hD4.out _ _ _ _ _ _ _ (RR.w ⟨S.out.r 1 rfl,S.out.r 0 rfl⟩ (t0.out)) (Rw.of (S.out.r 3 rfl) (S.out.r 2 rfl) k4.out)).mono ?_
 rintro e w3 ⟨A24,n24,c24,D24,m24,d24,rfl,Q24,bb⟩
 have T:=(((S.out.call bb).read Q24.n).read Q24.d)
 clear bb S c_r0 f_r0 c_r1 f_r1 c_r2 f_r2 c_r3 f_r3 c_r4 f_r4 c_r5 f_r5 c_b0 f_b0 c_b1 f_b1 c_b2 f_b2 c_b3 f_b3 c_b4 f_b4 c_b5 f_b5 c_a0 f_a0 c_a1 f_a1 c_a2 f_a2 c_a3 f_a3 c_a4 f_a4 c_a5 f_a5 hz a_b0 b_b0 a_b1 b_b1 a_b2 b_b2 a_b3 b_b3 a_b4 b_b4 a_b5 b_b5
 have S:=T
 clear T
 obtain⟨c_o0,c_o1,c_o2,f_o0,f_o1,f_o2⟩:=S.cf3 0 rfl
 obtain⟨c_r0,c_r1,c_r2,c_r3,c_r4,c_r5,f_r0,f_r1,f_r2,f_r3,f_r4,f_r5⟩:=S.cf6 1 rfl
 obtain⟨c_b0,c_b1,c_b2,c_b3,c_b4,c_b5,f_b0,f_b1,f_b2,f_b3,f_b4,f_b5⟩:=S.cf6 2 rfl
 obtain⟨c_a0,c_a1,c_a2,c_a3,c_a4,c_a5,f_a0,f_a1,f_a2,f_a3,f_a4,f_a5⟩:=S.cf6 3 rfl
 have hz:w2.heap.size<w3.heap.size:=S.lt 0 rfl
 replace S:=Lib.hid S
 clear Q24 hD4
 have S:=(S.out.allocAt (w3.heap.size) #[.bool (ng i4.num),.slice A24 n24 c24,.slice D24 m24 d24] 26 (noL3 _ _ _ _ _ _ _) (by simp))
 obtain⟨a_o0,a_o1,a_o2,b_o0,b_o1,b_o2⟩:=S.cf3 1 rfl
 obtain⟨a_b0,a_b1,a_b2,a_b3,a_b4,a_b5,b_b0,b_b1,b_b2,b_b3,b_b4,b_b5⟩:=S.cf6 3 rfl
 replace S:=Lib.hid S
 go_wp2_with fail
 refine (hD3.out _ _ _ _ _ _ _ (RR.w ⟨S.out.r 3 rfl,S.out.r 2 rfl⟩ (t0.out)) (Rw.of (S.out.r 7 rfl) (S.out.r 6 rfl) k3.out)).mono ?_
 rintro e w4 ⟨A23,n23,c23,D23,m23,d23,rfl,Q23,bb⟩
 have T:=(((S.out.call bb).read Q23.n).read Q23.d)
 clear bb S c_o0 f_o0 c_o1 f_o1 c_o2 f_o2 c_r0 f_r0 c_r1 f_r1 c_r2 f_r2 c_r3 f_r3 c_r4 f_r4 c_r5 f_r5 c_b0 f_b0 c_b1 f_b1 c_b2 f_b2 c_b3 f_b3 c_b4 f_b4 c_b5 f_b5 c_a0 f_a0 c_a1 f_a1 c_a2 f_a2 c_a3 f_a3 c_a4 f_a4 c_a5 f_a5 hz a_o0 b_o0 a_o1 b_o1 a_o2 b_o2 a_b0 b_b0 a_b1 b_b1 a_b2 b_b2 a_b3 b_b3 a_b4 b_b4 a_b5 b_b5
 have S:=T
 clear T
 obtain⟨c_l0,c_l1,c_l2,f_l0,f_l1,f_l2⟩:=S.cf3 0 rfl
 obtain⟨c_o0,c_o1,c_o2,f_o0,f_o1,f_o2⟩:=S.cf3 1 rfl
 obtain⟨c_r0,c_r1,c_r2,c_r3,c_r4,c_r5,f_r0,f_r1,f_r2,f_r3,f_r4,f_r5⟩:=S.cf6 2 rfl
 obtain⟨c_b0,c_b1,c_b2,c_b3,c_b4,c_b5,f_b0,f_b1,f_b2,f_b3,f_b4,f_b5⟩:=S.cf6 3 rfl
 obtain⟨c_a0,c_a1,c_a2,c_a3,c_a4,c_a5,f_a0,f_a1,f_a2,f_a3,f_a4,f_a5⟩:=S.cf6 4 rfl
 have hz:w3.heap.size<w4.heap.size:=S.lt 0 rfl
 replace S:=Lib.hid S
 clear Q23 hD3
 have S:=(S.out.allocAt (w4.heap.size) #[.bool (ng i3.num),.slice A23 n23 c23,.slice D23 m23 d23] 26 (noL3 _ _ _ _ _ _ _) (by simp))
 obtain⟨a_l0,a_l1,a_l2,b_l0,b_l1,b_l2⟩:=S.cf3 1 rfl
 obtain⟨a_a0,a_a1,a_a2,a_a3,a_a4,a_a5,b_a0,b_a1,b_a2,b_a3,b_a4,b_a5⟩:=S.cf6 5 rfl
 replace S:=Lib.hid S
 go_wp2_with fail
 refine (hM.out _ _ _ _ _ _ _ _ _ _ _ _ _ (Rw.of (S.out.r 13 rfl) (S.out.r 12 rfl) k1.out) (Rw.of (S.out.r 11 rfl) (S.out.r 10 rfl) k2.out) ⟨S.out.r 3 rfl,S.out.r 2 rfl⟩ ⟨S.out.r 1 rfl,S.out.r 0 rfl⟩).mono ?_
 rintro e w5 ⟨A31,n31,c31,D31,m31,d31,A32,n32,c32,D32,m32,d32,rfl,Q31,Q32,bb⟩
 have T:=(((((S.out.call bb).read Q31.n).read Q31.d).read Q32.n).read Q32.d)
 clear bb S c_l0 f_l0 c_l1 f_l1 c_l2 f_l2 c_o0 f_o0 c_o1 f_o1 c_o2 f_o2 c_r0 f_r0 c_r1 f_r1 c_r2 f_r2 c_r3 f_r3 c_r4 f_r4 c_r5 f_r5 c_b0 f_b0 c_b1 f_b1 c_b2 f_b2 c_b3 f_b3 c_b4 f_b4 c_b5 f_b5 c_a0 f_a0 c_a1 f_a1 c_a2 f_a2 c_a3 f_a3 c_a4 f_a4 c_a5 f_a5 hz a_l0 b_l0 a_l1 b_l1 a_l2 b_l2 a_a0 b_a0 a_a1 b_a1 a_a2 b_a2 a_a3 b_a3 a_a4 b_a4 a_a5 b_a5
 have S:=T
 clear T
 obtain⟨c_h0,c_h1,c_h2,f_h0,f_h1,f_h2⟩:=S.cf3 0 rfl
 obtain⟨c_l0,c_l1,c_l2,f_l0,f_l1,f_l2⟩:=S.cf3 1 rfl
 obtain⟨c_o0,c_o1,c_o2,f_o0,f_o1,f_o2⟩:=S.cf3 2 rfl
 obtain⟨c_r0,c_r1,c_r2,c_r3,c_r4,c_r5,f_r0,f_r1,f_r2,f_r3,f_r4,f_r5⟩:=S.cf6 3 rfl
 obtain⟨c_b0,c_b1,c_b2,c_b3,c_b4,c_b5,f_b0,f_b1,f_b2,f_b3,f_b4,f_b5⟩:=S.cf6 4 rfl
 obtain⟨c_a0,c_a1,c_a2,c_a3,c_a4,c_a5,f_a0,f_a1,f_a2,f_a3,f_a4,f_a5⟩:=S.cf6 5 rfl
 have hz:w4.heap.size<w5.heap.size:=S.lt 0 rfl
 replace S:=Lib.hid S
 clear Q31 Q32 hM
 have S:St w _ [(w4.heap.size,#[.bool (ng i3.num),.slice A23 n23 c23,.slice D23 m23 d23],26),(w3.heap.size,#[.bool (ng i4.num),.slice A24 n24 c24,.slice D24 m24 d24],26),(w2.heap.size,#[.bool (ng e1.num),.slice A20 n20 c20,.slice D20 m20 d20],26),(w.heap.size+1+1,#[.bool (ng lo.num),.slice A31 n31 c31,.slice D31 m31 d31,.bool (ng hi.num),.slice A32 n32 c32,.slice D32 m32 d32],28),(w.heap.size+1,#[.bool b3,.slice A3 n3 c3,.slice D3 m3 d3,.bool b4,.slice A4 n4 c4,.slice D4 m4 d4],28),(w.heap.size,#[.bool b1,.slice A1 n1 c1,.slice D1 m1 d1,.bool b2,.slice A2 n2 c2,.slice D2 m2 d2],28)] [(D32,m32,d32,dn hi),(A32,n32,c32,limbs hi.num.natAbs),(D31,m31,d31,dn lo),(A31,n31,c31,limbs lo.num.natAbs),(D23,m23,d23,dn i3),(A23,n23,c23,limbs i3.num.natAbs),(D24,m24,d24,dn i4),(A24,n24,c24,limbs i4.num.natAbs),(D20,m20,d20,dn e1),(A20,n20,c20,limbs e1.num.natAbs),(D4,m4,d4,y4),(A4,n4,c4,x4),(D3,m3,d3,y3),(A3,n3,c3,x3),(D2,m2,d2,y2),(A2,n2,c2,x2),(D1,m1,d1,y1),(A1,n1,c1,x1)]:=((((((S.out.set 3 0 (.bool (ng lo.num)) rfl (by nofun)).set 3 1 (.slice A31 n31 c31) rfl (by nofun)).set 3 2 (.slice D31 m31 d31) rfl (by nofun)).set 3 3 (.bool (ng hi.num)) rfl (by nofun)).set 3 4 (.slice A32 n32 c32) rfl (by nofun)).set 3 5 (.slice D32 m32 d32) rfl (by nofun))
 replace S:=Lib.hid S
 go_wp2
 refine bodyPost_ret (res_idiv _ _ (w.heap.size+1+1) 28 rfl rfl (S.out.bk _ (List.mem_of_getElem? (i:=3) rfl)).1) rfl ?_
 exact⟨_,_,_,_,_,_,_,_,_,_,_,_,rfl,⟨S.out.r 3 rfl,S.out.r 2 rfl⟩,⟨S.out.r 1 rfl,S.out.r 0 rfl⟩,S.out.bel⟩
end Go.Proofs.YtphckmdnflbloaaGreat
