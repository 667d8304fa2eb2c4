/- Mul of interval. Square of interval. Make of interval. -/
import Derived.Test.YtphckmdnflbloaaGreatQVdz
namespace Go.Proofs.YtphckmdnflbloaaGreat
open Go.RowKit RQ
theorem res_imul (W:World) (tmps:Array Value) (g t:Nat) {v0 v1 v2 v3 v4 v5:Value} (ht:tmps.getD 4 undef=.pointer (some ⟨g,0,none⟩)) (h:Cb W g #[v0,v1,v2,v3,v4,v5] t) :
  (results Tryz.f23 tmps).run Tryz.prog W=.ok (.agg #[v0,v1,v2,v3,v4,v5]) W:=by
 have c0:W.cell? ⟨g,0,none⟩=some v0:=h.cell rfl
 have c1:W.cell? ⟨g,1,none⟩=some v1:=h.cell rfl
 have c2:W.cell? ⟨g,2,none⟩=some v2:=h.cell rfl
 have c3:W.cell? ⟨g,3,none⟩=some v3:=h.cell rfl
 have c4:W.cell? ⟨g,4,none⟩=some v4:=h.cell rfl
 have c5:W.cell? ⟨g,5,none⟩=some v5:=h.cell rfl
 have ht':tmps[4]?.getD undef=.pointer (some ⟨g,0,none⟩):=by rw[←ht];simp[Array.getD_eq_getD_getElem?]
 simp[results,Tryz.results23,go_sem,ht',c0,c1,c2,c3,c4,c5]
set_option maxRecDepth 100000 in
set_option maxHeartbeats 8000000 in
theorem imul_any (b1:Bool) (A1:Option Addr) (n1 c1:Nat) (x1:List Nat) (D1:Option Addr) (m1 d1:Nat) (y1:List Nat) (q1:Rat) (b2:Bool) (A2:Option Addr) (n2 c2:Nat) (x2:List Nat) (D2:Option Addr) (m2 d2:Nat) (y2:List Nat) (q2:Rat) (b3:Bool) (A3:Option Addr) (n3 c3:Nat) (x3:List Nat) (D3:Option Addr) (m3 d3:Nat) (y3:List Nat) (q3:Rat) (b4:Bool) (A4:Option Addr) (n4 c4:Nat) (x4:List Nat) (D4:Option Addr) (m4 d4:Nat) (y4:List Nat) (q4:Rat) (s1:Rs q1 19) (s2:Rs q2 19) (s3:Rs q3 19) (s4:Rs q4 19) (w:World) (X1:Rw w b1 A1 n1 c1 x1 D1 m1 d1 y1 q1) (X2:Rw w b2 A2 n2 c2 x2 D2 m2 d2 y2 q2) (X3:Rw w b3 A3 n3 c3 x3 D3 m3 d3 y3 q3) (X4:Rw w b4 A4 n4 c4 x4 D4 m4 d4 y4 q4):Calls Tryz.prog 23 #[.agg #[.bool b1,.slice A1 n1 c1,.slice D1 m1 d1,.bool b2,.slice A2 n2 c2,.slice D2 m2 d2],.agg #[.bool b3,.slice A3 n3 c3,.slice D3 m3 d3,.bool b4,.slice A4 n4 c4,.slice D4 m4 d4]] w (RetV (minL (mulL (klo q1 q2) (khi q1 q2) (klo q3 q4) (khi q3 q4))) (maxL (mulL (klo q1 q2) (khi q1 q2) (klo q3 q4) (khi q3 q4))) w):=by
 obtain⟨s5,s6⟩:=k_rsp s1 s2 (by decide)
 obtain⟨s7,s8⟩:=k_rsp s3 s4 (by decide)
 obtain⟨b5,A5,n5,c5,x5,D5,m5,d5,y5,b6,A6,n6,c6,x6,D6,m6,d6,y6,X5,X6,hK1⟩:=known_rows b1 A1 n1 c1 x1 D1 m1 d1 y1 q1 b2 A2 n2 c2 x2 D2 m2 d2 y2 q2 w X1 X2
 obtain⟨b7,A7,n7,c7,x7,D7,m7,d7,y7,b8,A8,n8,c8,x8,D8,m8,d8,y8,X7,X8,hK2⟩:=known_rows b3 A3 n3 c3 x3 D3 m3 d3 y3 q3 b4 A4 n4 c4 x4 D4 m4 d4 y4 q4 w X3 X4
 generalize klo q1 q2=q5 at *
 generalize khi q1 q2=q6 at *
 generalize klo q3 q4=q7 at *
 generalize khi q3 q4=q8 at *
 have hM0:=fun W h1 h2=>mulW b5 A5 n5 c5 x5 D5 m5 d5 y5 q5 b7 A7 n7 c7 x7 D7 m7 d7 y7 q7 W h1 h2
 have t0:Hid (Rs (q5*q7) 40):=Lib.hid ((s5.mul s7).mono (by decide))
 have hM1:=fun W h1 h2=>mulW b5 A5 n5 c5 x5 D5 m5 d5 y5 q5 b8 A8 n8 c8 x8 D8 m8 d8 y8 q8 W h1 h2
 have t1:Hid (Rs (q5*q8) 40):=Lib.hid ((s5.mul s8).mono (by decide))
 have hM2:=fun W h1 h2=>mulW b6 A6 n6 c6 x6 D6 m6 d6 y6 q6 b7 A7 n7 c7 x7 D7 m7 d7 y7 q7 W h1 h2
 have t2:Hid (Rs (q6*q7) 40):=Lib.hid ((s6.mul s7).mono (by decide))
 have hM3:=fun W h1 h2=>mulW b6 A6 n6 c6 x6 D6 m6 d6 y6 q6 b8 A8 n8 c8 x8 D8 m8 d8 y8 q8 W h1 h2
 have t3:Hid (Rs (q6*q8) 40):=Lib.hid ((s6.mul s8).mono (by decide))
 unfold mulL
 have k1:=Lib.hid X1.k
 have k2:=Lib.hid X2.k
 have k3:=Lib.hid X3.k
 have k4:=Lib.hid X4.k
 have k5:=Lib.hid X5.k
 have k6:=Lib.hid X6.k
 have k7:=Lib.hid X7.k
 have k8:=Lib.hid X8.k
 clear s1 s2 s3 s4 s5 s6 s7 s8
 generalize q5*q7=p0 at *
 replace hM0:=Lib.hid hM0
 generalize q5*q8=p1 at *
 replace hM1:=Lib.hid hM1
 generalize q6*q7=p2 at *
 replace hM2:=Lib.hid hM2
 generalize q6*q8=p3 at *
 replace hM3:=Lib.hid hM3
 obtain⟨lo,hlo⟩:∃ lo,lo=minL [p0,p1,p2,p3]:=⟨_,rfl⟩
 obtain⟨hi,hhi⟩:∃ hi,hi=maxL [p0,p1,p2,p3]:=⟨_,rfl⟩
 rw[←hlo,←hhi]
 have hR:Hid (∀ W g A20 n20 c20 D20 m20 d20 A21 n21 c21 D21 m21 d21 A22 n22 c22 D22 m22 d22 A23 n23 c23 D23 m23 d23,Cb W g #[.bool (ng p0.num),.slice A20 n20 c20,.slice D20 m20 d20,.bool (ng p1.num),.slice A21 n21 c21,.slice D21 m21 d21,.bool (ng p2.num),.slice A22 n22 c22,.slice D22 m22 d22,.bool (ng p3.num),.slice A23 n23 c23,.slice D23 m23 d23] 26→Rw W (ng p0.num) A20 n20 c20 (limbs p0.num.natAbs) D20 m20 d20 (dn p0) p0→Rw W (ng p1.num) A21 n21 c21 (limbs p1.num.natAbs) D21 m21 d21 (dn p1) p1→Rw W (ng p2.num) A22 n22 c22 (limbs p2.num.natAbs) D22 m22 d22 (dn p2) p2→Rw W (ng p3.num) A23 n23 c23 (limbs p3.num.natAbs) D23 m23 d23 (dn p3) p3→Calls Tryz.prog 90 #[.slice (some ⟨g,0,none⟩) 4 4] W (RetV lo hi W)):=Lib.hid fun W g A20 n20 c20 D20 m20 d20 A21 n21 c21 D21 m21 d21 A22 n22 c22 D22 m22 d22 A23 n23 c23 D23 m23 d23 h h1 h2 h3 h4=>by
  rw[hlo,hhi];exact around4 _ _ _ _ _ _ _ _ _ _ _ _ _ _ _ _ _ _ _ _ _ _ _ _ _ _ _ _ _ _ _ _ _ _ _ _ _ _ _ _ W g _ h h1 h2 h3 h4
 clear hlo hhi
 have S:=((((((((((((((((((((St.new w).read X1.rn).read X1.rd).read X2.rn).read X2.rd).read X3.rn).read X3.rd).read X4.rn).read X4.rd).read X5.rn).read X5.rd).read X6.rn).read X6.rd).read X7.rn).read X7.rd).read X8.rn).read X8.rd).allocAt (w.heap.size) #[.bool b1,.slice A1 n1 c1,.slice D1 m1 d1,.bool b2,.slice A2 n2 c2,.slice D2 m2 d2] 28 (noL6 _ _ _ _ _ _ _ _ _ _ _ _ _ _) (by simp)).allocAt (w.heap.size+1) #[.bool b3,.slice A3 n3 c3,.slice D3 m3 d3,.bool b4,.slice A4 n4 c4,.slice D4 m4 d4] 28 (noL6 _ _ _ _ _ _ _ _ _ _ _ _ _ _) (by simp)).allocAt (w.heap.size+1+1) #[.bool false,.slice none 0 0,.slice none 0 0,.bool false,.slice none 0 0,.slice none 0 0] 28 (noL6 _ _ _ _ _ _ _ _ _ _ _ _ _ _) (by simp))
 replace S:=Lib.hid S
 clear X1 X2 X3 X4 X5 X6 X7 X8
 go_enter Tryz.func23,Tryz.ntmps23
 go_upto_region 1 with fail
 have S:=S.out
 generalize hW1:(World.alloc (World.alloc (World.alloc w (.cells #[.bool b1,.slice A1 n1 c1,.slice D1 m1 d1,.bool b2,.slice A2 n2 c2,.slice D2 m2 d2] 28)) (.cells #[.bool b3,.slice A3 n3 c3,.slice D3 m3 d3,.bool b4,.slice A4 n4 c4,.slice D4 m4 d4] 28)) (.cells #[.bool false,.slice none 0 0,.slice none 0 0,.bool false,.slice none 0 0,.slice none 0 0] 28))=w1 at S ⊢
 clear hW1
 replace S:=Lib.hid S
 have d_a0:=St.cl (S.out) 2 0 rfl rfl
 have d_a1:=St.cl (S.out) 2 1 rfl rfl
 have d_a2:=St.cl (S.out) 2 2 rfl rfl
 have d_a3:=St.cl (S.out) 2 3 rfl rfl
 have d_a4:=St.cl (S.out) 2 4 rfl rfl
 have d_a5:=St.cl (S.out) 2 5 rfl rfl
 have d_b0:=St.cl (S.out) 1 0 rfl rfl
 have d_b1:=St.cl (S.out) 1 1 rfl rfl
 have d_b2:=St.cl (S.out) 1 2 rfl rfl
 have d_b3:=St.cl (S.out) 1 3 rfl rfl
 have d_b4:=St.cl (S.out) 1 4 rfl rfl
 have d_b5:=St.cl (S.out) 1 5 rfl rfl
 have dz_a0:=St.f (S.out) 2 0 rfl
 have dz_a1:=St.f (S.out) 2 1 rfl
 have dz_a2:=St.f (S.out) 2 2 rfl
 have dz_a3:=St.f (S.out) 2 3 rfl
 have dz_a4:=St.f (S.out) 2 4 rfl
 have dz_a5:=St.f (S.out) 2 5 rfl
 have dz_b0:=St.f (S.out) 1 0 rfl
 have dz_b1:=St.f (S.out) 1 1 rfl
 have dz_b2:=St.f (S.out) 1 2 rfl
 have dz_b3:=St.f (S.out) 1 3 rfl
 have dz_b4:=St.f (S.out) 1 4 rfl
 have dz_b5:=St.f (S.out) 1 5 rfl
 go_cut [] (fun wx=>St w wx [(w.heap.size+1+1,#[.bool false,.slice none 0 0,.slice none 0 0,.bool false,.slice none 0 0,.slice none 0 0],28),(w.heap.size+1,#[.bool b7,.slice A7 n7 c7,.slice D7 m7 d7,.bool b8,.slice A8 n8 c8,.slice D8 m8 d8],28),(w.heap.size,#[.bool b5,.slice A5 n5 c5,.slice D5 m5 d5,.bool b6,.slice A6 n6 c6,.slice D6 m6 d6],28)] [(D8,m8,d8,y8),(A8,n8,c8,x8),(D7,m7,d7,y7),(A7,n7,c7,x7),(D6,m6,d6,y6),(A6,n6,c6,x6),(D5,m5,d5,y5),(A5,n5,c5,x5),(D4,m4,d4,y4),(A4,n4,c4,x4),(D3,m3,d3,y3),(A3,n3,c3,x3),(D2,m2,d2,y2),(A2,n2,c2,x2),(D1,m1,d1,y1),(A1,n1,c1,x1)])
 case first=>
  have SD:=Lib.hid (S.out.drew)
  go_region_with (first
   | (go_at_call_of 85 (Value.agg #[.bool b1,.slice A1 n1 c1,.slice D1 m1 d1,.bool b2,.slice A2 n2 c2,.slice D2 m2 d2]);refine (hK1.out _ (Rw.of (SD.out.r 15 rfl) (SD.out.r 14 rfl) k1.out) (Rw.of (SD.out.r 13 rfl) (SD.out.r 12 rfl) k2.out)).mono ?_;rintro e w2 ⟨rfl,bb0⟩;have S0:St w w2 [(w.heap.size+1+1,#[.bool false,.slice none 0 0,.slice none 0 0,.bool false,.slice none 0 0,.slice none 0 0],28),(w.heap.size+1,#[.bool b3,.slice A3 n3 c3,.slice D3 m3 d3,.bool b4,.slice A4 n4 c4,.slice D4 m4 d4],28),(w.heap.size,#[.bool b1,.slice A1 n1 c1,.slice D1 m1 d1,.bool b2,.slice A2 n2 c2,.slice D2 m2 d2],28)] [(D8,m8,d8,y8),(A8,n8,c8,x8),(D7,m7,d7,y7),(A7,n7,c7,x7),(D6,m6,d6,y6),(A6,n6,c6,x6),(D5,m5,d5,y5),(A5,n5,c5,x5),(D4,m4,d4,y4),(A4,n4,c4,x4),(D3,m3,d3,y3),(A3,n3,c3,x3),(D2,m2,d2,y2),(A2,n2,c2,x2),(D1,m1,d1,y1),(A1,n1,c1,x1)]:=(SD.out.call bb0);have e0_b0:=St.cl (S0) 1 0 rfl rfl;have e0_b1:=St.cl (S0) 1 1 rfl rfl;have e0_b2:=St.cl (S0) 1 2 rfl rfl;have e0_b3:=St.cl (S0) 1 3 rfl rfl;have e0_b4:=St.cl (S0) 1 4 rfl rfl;have e0_b5:=St.cl (S0) 1 5 rfl rfl)
   | (go_at_call_of 85 (Value.agg #[.bool b3,.slice A3 n3 c3,.slice D3 m3 d3,.bool b4,.slice A4 n4 c4,.slice D4 m4 d4]);refine (hK2.out _ (Rw.of (S0.r 11 rfl) (S0.r 10 rfl) k3.out) (Rw.of (S0.r 9 rfl) (S0.r 8 rfl) k4.out)).mono ?_;rintro e w3 ⟨rfl,bb1⟩;have S1:St w w3 [(w.heap.size+1+1,#[.bool false,.slice none 0 0,.slice none 0 0,.bool false,.slice none 0 0,.slice none 0 0],28),(w.heap.size+1,#[.bool b3,.slice A3 n3 c3,.slice D3 m3 d3,.bool b4,.slice A4 n4 c4,.slice D4 m4 d4],28),(w.heap.size,#[.bool b1,.slice A1 n1 c1,.slice D1 m1 d1,.bool b2,.slice A2 n2 c2,.slice D2 m2 d2],28)] [(D8,m8,d8,y8),(A8,n8,c8,x8),(D7,m7,d7,y7),(A7,n7,c7,x7),(D6,m6,d6,y6),(A6,n6,c6,x6),(D5,m5,d5,y5),(A5,n5,c5,x5),(D4,m4,d4,y4),(A4,n4,c4,x4),(D3,m3,d3,y3),(A3,n3,c3,x3),(D2,m2,d2,y2),(A2,n2,c2,x2),(D1,m1,d1,y1),(A1,n1,c1,x1)]:=(S0.call bb1);have e1_a0:=St.cl (S1) 2 0 rfl rfl;have e1_a1:=St.cl (S1) 2 1 rfl rfl;have e1_a2:=St.cl (S1) 2 2 rfl rfl;have e1_a3:=St.cl (S1) 2 3 rfl rfl;have e1_a4:=St.cl (S1) 2 4 rfl rfl;have e1_a5:=St.cl (S1) 2 5 rfl rfl;have e1_b0:=St.cl (S1) 1 0 rfl rfl;have e1_b1:=St.cl (S1) 1 1 rfl rfl;have e1_b2:=St.cl (S1) 1 2 rfl rfl;have e1_b3:=St.cl (S1) 1 3 rfl rfl;have e1_b4:=St.cl (S1) 1 4 rfl rfl;have e1_b5:=St.cl (S1) 1 5 rfl rfl;have e1z_a0:=St.f (S1) 2 0 rfl;have e1z_a1:=St.f (S1) 2 1 rfl;have e1z_a2:=St.f (S1) 2 2 rfl;have e1z_a3:=St.f (S1) 2 3 rfl;have e1z_a4:=St.f (S1) 2 4 rfl;have e1z_a5:=St.f (S1) 2 5 rfl;have e1z_b0:=St.f (S1) 1 0 rfl;have e1z_b1:=St.f (S1) 1 1 rfl;have e1z_b2:=St.f (S1) 1 2 rfl;have e1z_b3:=St.f (S1) 1 3 rfl;have e1z_b4:=St.f (S1) 1 4 rfl;have e1z_b5:=St.f (S1) 1 5 rfl))
  all_goals
   have SE:=Lib.hid (((((((((((((S1.set 2 0 (.bool b5) rfl (by nofun)).set 2 1 (.slice A5 n5 c5) rfl (by nofun)).set 2 2 (.slice D5 m5 d5) rfl (by nofun)).set 2 3 (.bool b6) rfl (by nofun)).set 2 4 (.slice A6 n6 c6) rfl (by nofun)).set 2 5 (.slice D6 m6 d6) rfl (by nofun)).set 1 0 (.bool b7) rfl (by nofun)).set 1 1 (.slice A7 n7 c7) rfl (by nofun)).set 1 2 (.slice D7 m7 d7) rfl (by nofun)).set 1 3 (.bool b8) rfl (by nofun)).set 1 4 (.slice A8 n8 c8) rfl (by nofun)).set 1 5 (.slice D8 m8 d8) rfl (by nofun)))
   clear d_a0 d_a1 d_a2 d_a3 d_a4 d_a5 d_b0 d_b1 d_b2 d_b3 d_b4 d_b5 dz_a0 dz_a1 dz_a2 dz_a3 dz_a4 dz_a5 dz_b0 dz_b1 dz_b2 dz_b3 dz_b4 dz_b5 e0_b0 e0_b1 e0_b2 e0_b3 e0_b4 e0_b5 e1_a0 e1_a1 e1_a2 e1_a3 e1_a4 e1_a5 e1_b0 e1_b1 e1_b2 e1_b3 e1_b4 e1_b5 e1z_a0 e1z_a1 e1z_a2 e1z_a3 e1z_a4 e1z_a5 e1z_b0 e1z_b1 e1z_b2 e1z_b3 e1z_b4 e1z_b5
   go_wp2_with fail
   go_meet
   exact SE.out
 case rest=>
  clear d_a0 d_a1 d_a2 d_a3 d_a4 d_a5 d_b0 d_b1 d_b2 d_b3 d_b4 d_b5 dz_a0 dz_a1 dz_a2 dz_a3 dz_a4 dz_a5 dz_b0 dz_b1 dz_b2 dz_b3 dz_b4 dz_b5
  clear S
  have S:=hcut
  obtain⟨c_r0,c_r1,c_r2,c_r3,c_r4,c_r5,f_r0,f_r1,f_r2,f_r3,f_r4,f_r5⟩:=S.cf6 0 rfl
  obtain⟨c_b0,c_b1,c_b2,c_b3,c_b4,c_b5,f_b0,f_b1,f_b2,f_b3,f_b4,f_b5⟩:=S.cf6 1 rfl
  obtain⟨c_a0,c_a1,c_a2,c_a3,c_a4,c_a5,f_a0,f_a1,f_a2,f_a3,f_a4,f_a5⟩:=S.cf6 2 rfl
  have hz:w.heap.size+1+1<wc.heap.size:=S.lt 0 rfl
  replace S:=Lib.hid S
  clear hK1 hK2
  go_upto_region 2 with fail
  clear c_r0 f_r0 c_r1 f_r1 c_r2 f_r2 c_r3 f_r3 c_r4 f_r4 c_r5 f_r5 c_b0 f_b0 c_b1 f_b1 c_b2 f_b2 c_b3 f_b3 c_b4 f_b4 c_b5 f_b5 c_a0 f_a0 c_a1 f_a1 c_a2 f_a2 c_a3 f_a3 c_a4 f_a4 c_a5 f_a5 hz
  refine RW.begin (Z:=[]) (S:=(fun W=>Cb W (w.heap.size) #[.bool b5,.slice A5 n5 c5,.slice D5 m5 d5,.bool b6,.slice A6 n6 c6,.slice D6 m6 d6] 28∧Cb W (w.heap.size+1) #[.bool b7,.slice A7 n7 c7,.slice D7 m7 d7,.bool b8,.slice A8 n8 c8,.slice D8 m8 d8] 28)) (by kernel_rfl) ?_ S.out ?_
  ·exact⟨by kernel_rfl,zis_nil,by decide,by decide,nol_nil,(fun _ _ h=>⟨h.kb 2 rfl,h.kb 1 rfl⟩)⟩
  intro hzk
  clear S
  refine RW.t (i:=0) (v:=.pointer (some ⟨w.heap.size,0,none⟩)) (some 9) at0 (hy:=fun _ _=>by kernel_rfl) (h:=?_)
  refine RW.t (i:=1) (v:=.agg #[.bool b5,.slice A5 n5 c5,.slice D5 m5 d5]) (some 10) at1 (hy:=fun W hS=>by (have k0:=Cb.cell (i:=0) hS.1 rfl;have k1:=Cb.cell (i:=1) hS.1 rfl;have k2:=Cb.cell (i:=2) hS.1 rfl;clear hS;go_simp)) (h:=?_)
  refine RW.t (i:=2) (v:=.pointer (some ⟨w.heap.size+1,0,none⟩)) (some 11) at2 (hy:=fun _ _=>by kernel_rfl) (h:=?_)
  refine RW.t (i:=3) (v:=.agg #[.bool b7,.slice A7 n7 c7,.slice D7 m7 d7]) (some 12) at3 (hy:=fun W hS=>by (have k0:=Cb.cell (i:=0) hS.2 rfl;have k1:=Cb.cell (i:=1) hS.2 rfl;have k2:=Cb.cell (i:=2) hS.2 rfl;clear hS;go_simp)) (h:=?_)
  refine RW.t (i:=5) (v:=.pointer (some ⟨w.heap.size,0,none⟩)) (some 14) at5 (hy:=fun _ _=>by kernel_rfl) (h:=?_)
  refine RW.t (i:=6) (v:=.agg #[.bool b5,.slice A5 n5 c5,.slice D5 m5 d5]) (some 15) at6 (hy:=fun W hS=>by (have k0:=Cb.cell (i:=0) hS.1 rfl;have k1:=Cb.cell (i:=1) hS.1 rfl;have k2:=Cb.cell (i:=2) hS.1 rfl;clear hS;go_simp)) (h:=?_)
  refine RW.t (i:=7) (v:=.pointer (some ⟨w.heap.size+1,3,none⟩)) (some 16) at7 (hy:=fun _ _=>by kernel_rfl) (h:=?_)
  refine RW.t (i:=8) (v:=.agg #[.bool b8,.slice A8 n8 c8,.slice D8 m8 d8]) (some 17) at8 (hy:=fun W hS=>by (have k3:=Cb.cell (i:=3) hS.2 rfl;have k4:=Cb.cell (i:=4) hS.2 rfl;have k5:=Cb.cell (i:=5) hS.2 rfl;clear hS;go_simp)) (h:=?_)
  refine RW.t (i:=10) (v:=.pointer (some ⟨w.heap.size,3,none⟩)) (some 19) at10 (hy:=fun _ _=>by kernel_rfl) (h:=?_)
  refine RW.t (i:=11) (v:=.agg #[.bool b6,.slice A6 n6 c6,.slice D6 m6 d6]) (some 20) at11 (hy:=fun W hS=>by (have k3:=Cb.cell (i:=3) hS.1 rfl;have k4:=Cb.cell (i:=4) hS.1 rfl;have k5:=Cb.cell (i:=5) hS.1 rfl;clear hS;go_simp)) (h:=?_)
  refine RW.t (i:=12) (v:=.pointer (some ⟨w.heap.size+1,0,none⟩)) (some 21) at12 (hy:=fun _ _=>by kernel_rfl) (h:=?_)
  refine RW.t (i:=13) (v:=.agg #[.bool b7,.slice A7 n7 c7,.slice D7 m7 d7]) (some 22) at13 (hy:=fun W hS=>by (have k0:=Cb.cell (i:=0) hS.2 rfl;have k1:=Cb.cell (i:=1) hS.2 rfl;have k2:=Cb.cell (i:=2) hS.2 rfl;clear hS;go_simp)) (h:=?_)
  refine RW.t (i:=15) (v:=.pointer (some ⟨w.heap.size,3,none⟩)) (some 24) at15 (hy:=fun _ _=>by kernel_rfl) (h:=?_)
  refine RW.t (i:=16) (v:=.agg #[.bool b6,.slice A6 n6 c6,.slice D6 m6 d6]) (some 25) at16 (hy:=fun W hS=>by (have k3:=Cb.cell (i:=3) hS.1 rfl;have k4:=Cb.cell (i:=4) hS.1 rfl;have k5:=Cb.cell (i:=5) hS.1 rfl;clear hS;go_simp)) (h:=?_)
  refine RW.t (i:=17) (v:=.pointer (some ⟨w.heap.size+1,3,none⟩)) (some 26) at17 (hy:=fun _ _=>by kernel_rfl) (h:=?_)
  refine RW.t (i:=18) (v:=.agg #[.bool b8,.slice A8 n8 c8,.slice D8 m8 d8]) (some 27) at18 (hy:=fun W hS=>by (have k3:=Cb.cell (i:=3) hS.2 rfl;have k4:=Cb.cell (i:=4) hS.2 rfl;have k5:=Cb.cell (i:=5) hS.2 rfl;clear hS;go_simp)) (h:=?_)
  refine RW.c (i:=4) (args:=#[.agg #[.bool b5,.slice A5 n5 c5,.slice D5 m5 d5],.agg #[.bool b7,.slice A7 n7 c7,.slice D7 m7 d7]]) (some 13) hzk.out at4 (hx:=fun _=>by kernel_rfl) (h:=fun _ S=>(hM0.out _ (Rw.of (S.r 7 rfl) (S.r 6 rfl) k5.out) (Rw.of (S.r 3 rfl) (S.r 2 rfl) k7.out)).mono ?_)
  rintro e w5 ⟨A20,n20,c20,D20,m20,d20,rfl,Q20,bb⟩
  refine⟨bb,_,[(D20,m20,d20,dn p0),(A20,n20,c20,limbs p0.num.natAbs)],rfl,(rd_cons Q20.d (rd_cons Q20.n rd_nil)),?_⟩
  clear bb S Q20
  refine RW.c (i:=9) (args:=#[.agg #[.bool b5,.slice A5 n5 c5,.slice D5 m5 d5],.agg #[.bool b8,.slice A8 n8 c8,.slice D8 m8 d8]]) (some 18) hzk.out at9 (hx:=fun _=>by kernel_rfl) (h:=fun _ S=>(hM1.out _ (Rw.of (S.r 9 rfl) (S.r 8 rfl) k5.out) (Rw.of (S.r 3 rfl) (S.r 2 rfl) k8.out)).mono ?_)
  rintro e w6 ⟨A21,n21,c21,D21,m21,d21,rfl,Q21,bb⟩
  refine⟨bb,_,[(D21,m21,d21,dn p1),(A21,n21,c21,limbs p1.num.natAbs)],rfl,(rd_cons Q21.d (rd_cons Q21.n rd_nil)),?_⟩
  clear bb S Q21
  refine RW.c (i:=14) (args:=#[.agg #[.bool b6,.slice A6 n6 c6,.slice D6 m6 d6],.agg #[.bool b7,.slice A7 n7 c7,.slice D7 m7 d7]]) (some 23) hzk.out at14 (hx:=fun _=>by kernel_rfl) (h:=fun _ S=>(hM2.out _ (Rw.of (S.r 9 rfl) (S.r 8 rfl) k6.out) (Rw.of (S.r 7 rfl) (S.r 6 rfl) k7.out)).mono ?_)
  rintro e w7 ⟨A22,n22,c22,D22,m22,d22,rfl,Q22,bb⟩
  refine⟨bb,_,[(D22,m22,d22,dn p2),(A22,n22,c22,limbs p2.num.natAbs)],rfl,(rd_cons Q22.d (rd_cons Q22.n rd_nil)),?_⟩
  clear bb S Q22
  refine RW.c (i:=19) (args:=#[.agg #[.bool b6,.slice A6 n6 c6,.slice D6 m6 d6],.agg #[.bool b8,.slice A8 n8 c8,.slice D8 m8 d8]]) (some 28) hzk.out at19 (hx:=fun _=>by kernel_rfl) (h:=fun _ S=>(hM3.out _ (Rw.of (S.r 11 rfl) (S.r 10 rfl) k6.out) (Rw.of (S.r 7 rfl) (S.r 6 rfl) k8.out)).mono ?_)
  rintro e w8 ⟨A23,n23,c23,D23,m23,d23,rfl,Q23,bb⟩
  refine⟨bb,_,[(D23,m23,d23,dn p3),(A23,n23,c23,limbs p3.num.natAbs)],rfl,(rd_cons Q23.d (rd_cons Q23.n rd_nil)),?_⟩
  clear bb S Q23
  refine RW.blk (i:=20) (cs:=#[.bool (ng p0.num),.slice A20 n20 c20,.slice D20 m20 d20,.bool (ng p1.num),.slice A21 n21 c21,.slice D21 m21 d21,.bool (ng p2.num),.slice A22 n22 c22,.slice D22 m22 d22,.bool (ng p3.num),.slice A23 n23 c23,.slice D23 m23 d23]) (t:=26) (k:=4) (some 29) hzk.out at20 rfl (by kernel_rfl) (by kernel_rfl) (fun _=>by kernel_rfl) (noL12 _ _ _ _ _ _ _ _ _ _ _ _ _ _ _ _ _ _ _ _ _ _ _ _ _ _ _ _) ?_
  clear hzk
  intro g_L20 hzk
  refine RW.c (i:=21) (args:=#[.slice (some ⟨g_L20,0,none⟩) 4 4]) (some 30) hzk.out at21 (hx:=fun _=>by kernel_rfl) (h:=fun _ S=>(hR.out _ _ _ _ _ _ _ _ _ _ _ _ _ _ _ _ _ _ _ _ _ _ _ _ _ _ (S.cb 0 rfl) (RR.w ⟨S.r 7 rfl,S.r 6 rfl⟩ (t0.out)) (RR.w ⟨S.r 5 rfl,S.r 4 rfl⟩ (t1.out)) (RR.w ⟨S.r 3 rfl,S.r 2 rfl⟩ (t2.out)) (RR.w ⟨S.r 1 rfl,S.r 0 rfl⟩ (t3.out))).mono ?_)
  rintro e w9 ⟨A31,n31,c31,D31,m31,d31,A32,n32,c32,D32,m32,d32,rfl,Q31,Q32,bb⟩
  refine⟨bb,_,[(D32,m32,d32,dn hi),(A32,n32,c32,limbs hi.num.natAbs),(D31,m31,d31,dn lo),(A31,n31,c31,limbs lo.num.natAbs)],rfl,(rd_cons Q32.d (rd_cons Q32.n (rd_cons Q31.d (rd_cons Q31.n rd_nil)))),?_⟩
  clear bb S Q31 Q32
  refine RW.tail hzk.out (by kernel_rfl) ?_
  intro gs w10 hgs hS S
  obtain rfl:=len0 hgs
  clear hS hgs hzk
  simp only[mark,fill,Act.put,List.setIfInBounds_toArray,List.set_cons_zero,List.set_cons_succ]
  replace S:=Lib.hid S
  refine Wk.o (i:=22) at22 (by kernel_rfl) fun K' hK=>?_
  have q22_r0:=St.cl (S.out) 1 0 rfl rfl
  have q22_r1:=St.cl (S.out) 1 1 rfl rfl
  have q22_r2:=St.cl (S.out) 1 2 rfl rfl
  have q22_r3:=St.cl (S.out) 1 3 rfl rfl
  have q22_r4:=St.cl (S.out) 1 4 rfl rfl
  have q22_r5:=St.cl (S.out) 1 5 rfl rfl
  have q22z_r0:=St.f (S.out) 1 0 rfl
  have q22z_r1:=St.f (S.out) 1 1 rfl
  have q22z_r2:=St.f (S.out) 1 2 rfl
  have q22z_r3:=St.f (S.out) 1 3 rfl
  have q22z_r4:=St.f (S.out) 1 4 rfl
  have q22z_r5:=St.f (S.out) 1 5 rfl
  go_simp
  have SN:=((((((S.out.set 1 0 (.bool (ng lo.num)) rfl (by nofun)).set 1 1 (.slice A31 n31 c31) rfl (by nofun)).set 1 2 (.slice D31 m31 d31) rfl (by nofun)).set 1 3 (.bool (ng hi.num)) rfl (by nofun)).set 1 4 (.slice A32 n32 c32) rfl (by nofun)).set 1 5 (.slice D32 m32 d32) rfl (by nofun))
  clear S q22_r0 q22_r1 q22_r2 q22_r3 q22_r4 q22_r5 q22z_r0 q22z_r1 q22z_r2 q22z_r3 q22z_r4 q22z_r5
  have S:=SN
  clear SN
  refine hK.out _ _ ⟨(S.cb 3 rfl),(S.cb 2 rfl)⟩ ?_
  clear hK K'
  replace S:=Lib.hid S
  try simp only[Act.put,List.setIfInBounds_toArray,List.set_cons_zero,List.set_cons_succ]
  refine Wk.done (by kernel_rfl) ?_
  go_simp
  replace S:=S.out
  have S:St w _ [(g_L20,#[.bool (ng p0.num),.slice A20 n20 c20,.slice D20 m20 d20,.bool (ng p1.num),.slice A21 n21 c21,.slice D21 m21 d21,.bool (ng p2.num),.slice A22 n22 c22,.slice D22 m22 d22,.bool (ng p3.num),.slice A23 n23 c23,.slice D23 m23 d23],26),(w.heap.size+1+1,#[.bool (ng lo.num),.slice A31 n31 c31,.slice D31 m31 d31,.bool (ng hi.num),.slice A32 n32 c32,.slice D32 m32 d32],28),(w.heap.size+1,#[.bool b7,.slice A7 n7 c7,.slice D7 m7 d7,.bool b8,.slice A8 n8 c8,.slice D8 m8 d8],28),(w.heap.size,#[.bool b5,.slice A5 n5 c5,.slice D5 m5 d5,.bool b6,.slice A6 n6 c6,.slice D6 m6 d6],28)] [(D32,m32,d32,dn hi),(A32,n32,c32,limbs hi.num.natAbs),(D31,m31,d31,dn lo),(A31,n31,c31,limbs lo.num.natAbs),(D23,m23,d23,dn p3),(A23,n23,c23,limbs p3.num.natAbs),(D22,m22,d22,dn p2),(A22,n22,c22,limbs p2.num.natAbs),(D21,m21,d21,dn p1),(A21,n21,c21,limbs p1.num.natAbs),(D20,m20,d20,dn p0),(A20,n20,c20,limbs p0.num.natAbs),(D8,m8,d8,y8),(A8,n8,c8,x8),(D7,m7,d7,y7),(A7,n7,c7,x7),(D6,m6,d6,y6),(A6,n6,c6,x6),(D5,m5,d5,y5),(A5,n5,c5,x5),(D4,m4,d4,y4),(A4,n4,c4,x4),(D3,m3,d3,y3),(A3,n3,c3,x3),(D2,m2,d2,y2),(A2,n2,c2,x2),(D1,m1,d1,y1),(A1,n1,c1,x1)]:=S
  generalize hW11:(World.setCell (World.setCell (World.setCell (World.setCell (World.setCell (World.setCell w10 ⟨w.heap.size+1+1,0,none⟩ (.bool (ng lo.num))) ⟨w.heap.size+1+1,1,none⟩ (.slice A31 n31 c31)) ⟨w.heap.size+1+1,2,none⟩ (.slice D31 m31 d31)) ⟨w.heap.size+1+1,3,none⟩ (.bool (ng hi.num))) ⟨w.heap.size+1+1,4,none⟩ (.slice A32 n32 c32)) ⟨w.heap.size+1+1,5,none⟩ (.slice D32 m32 d32))=w11 at S ⊢
  clear hW11
  replace S:=Lib.hid S
  replace S:=S.out
  obtain⟨c_L200,c_L201,c_L202,c_L203,c_L204,c_L205,c_L206,c_L207,c_L208,c_L209,c_L2010,c_L2011,f_L200,f_L201,f_L202,f_L203,f_L204,f_L205,f_L206,f_L207,f_L208,f_L209,f_L2010,f_L2011⟩:=S.cf12 0 rfl
  obtain⟨c_r0,c_r1,c_r2,c_r3,c_r4,c_r5,f_r0,f_r1,f_r2,f_r3,f_r4,f_r5⟩:=S.cf6 1 rfl
  obtain⟨c_b0,c_b1,c_b2,c_b3,c_b4,c_b5,f_b0,f_b1,f_b2,f_b3,f_b4,f_b5⟩:=S.cf6 2 rfl
  obtain⟨c_a0,c_a1,c_a2,c_a3,c_a4,c_a5,f_a0,f_a1,f_a2,f_a3,f_a4,f_a5⟩:=S.cf6 3 rfl
  have hz:g_L20<w11.heap.size:=S.lt 0 rfl
  replace S:=Lib.hid S
  have S:=S.out
  replace S:=Lib.hid S
  go_wp2
  refine bodyPost_ret (res_imul _ _ (w.heap.size+1+1) 28 rfl (S.out.bk _ (List.mem_of_getElem? (i:=1) rfl)).1) rfl ?_
  exact⟨_,_,_,_,_,_,_,_,_,_,_,_,rfl,⟨S.out.r 3 rfl,S.out.r 2 rfl⟩,⟨S.out.r 1 rfl,S.out.r 0 rfl⟩,S.out.bel⟩
end Go.Proofs.YtphckmdnflbloaaGreat

namespace Go.Proofs.YtphckmdnflbloaaGreat
open Go.RowKit RQ
theorem res_isq (W:World) (tmps:Array Value) (g t:Nat) {v0 v1 v2 v3 v4 v5:Value} (ht:tmps.getD 2 undef=.pointer (some ⟨g,0,none⟩)) (h:Cb W g #[v0,v1,v2,v3,v4,v5] t) :
  (results Tryz.f25 tmps).run Tryz.prog W=.ok (.agg #[v0,v1,v2,v3,v4,v5]) W:=by
 have c0:W.cell? ⟨g,0,none⟩=some v0:=h.cell rfl
 have c1:W.cell? ⟨g,1,none⟩=some v1:=h.cell rfl
 have c2:W.cell? ⟨g,2,none⟩=some v2:=h.cell rfl
 have c3:W.cell? ⟨g,3,none⟩=some v3:=h.cell rfl
 have c4:W.cell? ⟨g,4,none⟩=some v4:=h.cell rfl
 have c5:W.cell? ⟨g,5,none⟩=some v5:=h.cell rfl
 have ht':tmps[2]?.getD undef=.pointer (some ⟨g,0,none⟩):=by rw[←ht];simp[Array.getD_eq_getD_getElem?]
 simp[results,Tryz.results25,go_sem,ht',c0,c1,c2,c3,c4,c5]
set_option maxRecDepth 100000 in
set_option maxHeartbeats 8000000 in
theorem isquare_any (b1:Bool) (A1:Option Addr) (n1 c1:Nat) (x1:List Nat) (D1:Option Addr) (m1 d1:Nat) (y1:List Nat) (q1:Rat) (b2:Bool) (A2:Option Addr) (n2 c2:Nat) (x2:List Nat) (D2:Option Addr) (m2 d2:Nat) (y2:List Nat) (q2:Rat) (s1:Rs q1 19) (s2:Rs q2 19) (w:World) (X1:Rw w b1 A1 n1 c1 x1 D1 m1 d1 y1 q1) (X2:Rw w b2 A2 n2 c2 x2 D2 m2 d2 y2 q2):Calls Tryz.prog 25 #[.agg #[.bool b1,.slice A1 n1 c1,.slice D1 m1 d1,.bool b2,.slice A2 n2 c2,.slice D2 m2 d2]] w (RetV (minL (sqL (klo q1 q2) (khi q1 q2))) (maxL (sqL (klo q1 q2) (khi q1 q2))) w):=by
 obtain⟨s3,s4⟩:=k_rsp s1 s2 (by decide)
 have hle:=kle q1 q2
 obtain⟨b3,A3,n3,c3,x3,D3,m3,d3,y3,b4,A4,n4,c4,x4,D4,m4,d4,y4,X3,X4,hK⟩:=known_rows b1 A1 n1 c1 x1 D1 m1 d1 y1 q1 b2 A2 n2 c2 x2 D2 m2 d2 y2 q2 w X1 X2
 generalize klo q1 q2=q3 at *
 generalize khi q1 q2=q4 at *
 have hC:Hid (∀ W,Rw W b3 A3 n3 c3 x3 D3 m3 d3 y3 q3→Rw W b4 A4 n4 c4 x4 D4 m4 d4 y4 q4→Calls Tryz.prog 79 #[.agg #[.bool b3,.slice A3 n3 c3,.slice D3 m3 d3,.bool b4,.slice A4 n4 c4,.slice D4 m4 d4],.agg #[.bool false,.slice none 0 0,.slice none 0 0]] W fun e w'=>e=.returned (.bool (decide (q3≤0∧0≤q4)))∧Below W.heap.size W w'):=Lib.hid fun W h1 h2=>by
  have:=contains_any b3 A3 n3 c3 x3 D3 m3 d3 y3 q3 b4 A4 n4 c4 x4 D4 m4 d4 y4 q4 false none 0 0 [] none 0 0 [] 0 W h1 h2 (Rw.zero W)
  rw[show klo q3 q4=q3 from if_neg (Rat.not_lt.2 hle),show khi q3 q4=q4 from if_neg (Rat.not_lt.2 hle)] at this
  rw[Bool.decide_and];exact this
 clear hle
 unfold sqL
 have hM0:=fun W h1 h2=>mulW b3 A3 n3 c3 x3 D3 m3 d3 y3 q3 b3 A3 n3 c3 x3 D3 m3 d3 y3 q3 W h1 h2
 have t0:Hid (Rs (q3*q3) 40):=Lib.hid ((s3.mul s3).mono (by decide))
 have hM1:=fun W h1 h2=>mulW b4 A4 n4 c4 x4 D4 m4 d4 y4 q4 b4 A4 n4 c4 x4 D4 m4 d4 y4 q4 W h1 h2
 have t1:Hid (Rs (q4*q4) 40):=Lib.hid ((s4.mul s4).mono (by decide))
 have tz:Hid (Rs (0:Rat) 40):=Lib.hid ⟨by decide,by decide⟩
 have k1:=Lib.hid X1.k
 have k2:=Lib.hid X2.k
 have k3:=Lib.hid X3.k
 have k4:=Lib.hid X4.k
 clear s1 s2 s3 s4
 generalize q3*q3=p0 at *
 replace hM0:=Lib.hid hM0
 generalize q4*q4=p1 at *
 replace hM1:=Lib.hid hM1
 generalize hu:decide (q3≤0∧0≤q4)=u at *
 have S:=(((((((((((St.new w).read X1.rn).read X1.rd).read X2.rn).read X2.rd).read X3.rn).read X3.rd).read X4.rn).read X4.rd).allocAt (w.heap.size) #[.bool b1,.slice A1 n1 c1,.slice D1 m1 d1,.bool b2,.slice A2 n2 c2,.slice D2 m2 d2] 28 (noL6 _ _ _ _ _ _ _ _ _ _ _ _ _ _) (by simp)).allocAt (w.heap.size+1) #[.bool false,.slice none 0 0,.slice none 0 0,.bool false,.slice none 0 0,.slice none 0 0] 28 (noL6 _ _ _ _ _ _ _ _ _ _ _ _ _ _) (by simp))
 replace S:=Lib.hid S
 clear X1 X2 X3 X4
 cases u
 ·rw[if_neg (of_decide_eq_false hu)]
  clear hu
  obtain⟨lo,hlo⟩:∃ lo,lo=minL [p0,p1]:=⟨_,rfl⟩
  obtain⟨hi,hhi⟩:∃ hi,hi=maxL [p0,p1]:=⟨_,rfl⟩
  rw[←hlo,←hhi]
  have hR:Hid (∀ W g A20 n20 c20 D20 m20 d20 A21 n21 c21 D21 m21 d21,Cb W g #[.bool (ng p0.num),.slice A20 n20 c20,.slice D20 m20 d20,.bool (ng p1.num),.slice A21 n21 c21,.slice D21 m21 d21] 26→Rw W (ng p0.num) A20 n20 c20 (limbs p0.num.natAbs) D20 m20 d20 (dn p0) p0→Rw W (ng p1.num) A21 n21 c21 (limbs p1.num.natAbs) D21 m21 d21 (dn p1) p1→Calls Tryz.prog 90 #[.slice (some ⟨g,0,none⟩) 2 2] W (RetV lo hi W)):=Lib.hid fun W g A20 n20 c20 D20 m20 d20 A21 n21 c21 D21 m21 d21 h h0 h1=>by
   rw[hlo,hhi];exact around2 _ _ _ _ _ _ _ _ _ _ _ _ _ _ _ _ _ _ _ _ W g _ h h0 h1
  clear hlo hhi
  go_enter Tryz.func25,Tryz.ntmps25
  go_wp2_with fail
  refine (hK.out _ (Rw.of (S.out.r 7 rfl) (S.out.r 6 rfl) k1.out) (Rw.of (S.out.r 5 rfl) (S.out.r 4 rfl) k2.out)).mono ?_
  rintro e w1 ⟨rfl,bb⟩
  have T:=(S.out.call bb)
  clear bb S
  have S:=T
  clear T
  obtain⟨c_r0,c_r1,c_r2,c_r3,c_r4,c_r5,f_r0,f_r1,f_r2,f_r3,f_r4,f_r5⟩:=S.cf6 0 rfl
  obtain⟨c_a0,c_a1,c_a2,c_a3,c_a4,c_a5,f_a0,f_a1,f_a2,f_a3,f_a4,f_a5⟩:=S.cf6 1 rfl
  have hz:w.heap.size+1<w1.heap.size:=S.lt 0 rfl
  replace S:=Lib.hid S
  clear hK
  go_upto_region 2 with fail
  clear c_r0 f_r0 c_r1 f_r1 c_r2 f_r2 c_r3 f_r3 c_r4 f_r4 c_r5 f_r5 c_a0 f_a0 c_a1 f_a1 c_a2 f_a2 c_a3 f_a3 c_a4 f_a4 c_a5 f_a5 hz
  have S:St w _ [(w.heap.size+1,#[.bool false,.slice none 0 0,.slice none 0 0,.bool false,.slice none 0 0,.slice none 0 0],28),(w.heap.size,#[.bool b3,.slice A3 n3 c3,.slice D3 m3 d3,.bool b4,.slice A4 n4 c4,.slice D4 m4 d4],28)] [(D4,m4,d4,y4),(A4,n4,c4,x4),(D3,m3,d3,y3),(A3,n3,c3,x3),(D2,m2,d2,y2),(A2,n2,c2,x2),(D1,m1,d1,y1),(A1,n1,c1,x1)]:=((((((S.out.set 1 0 (.bool b3) rfl (by nofun)).set 1 1 (.slice A3 n3 c3) rfl (by nofun)).set 1 2 (.slice D3 m3 d3) rfl (by nofun)).set 1 3 (.bool b4) rfl (by nofun)).set 1 4 (.slice A4 n4 c4) rfl (by nofun)).set 1 5 (.slice D4 m4 d4) rfl (by nofun))
  generalize hW2:(World.setCell (World.setCell (World.setCell (World.setCell (World.setCell (World.setCell w1 ⟨w.heap.size,0,none⟩ (.bool b3)) ⟨w.heap.size,1,none⟩ (.slice A3 n3 c3)) ⟨w.heap.size,2,none⟩ (.slice D3 m3 d3)) ⟨w.heap.size,3,none⟩ (.bool b4)) ⟨w.heap.size,4,none⟩ (.slice A4 n4 c4)) ⟨w.heap.size,5,none⟩ (.slice D4 m4 d4))=w2 at S ⊢
  clear hW2
  replace S:=Lib.hid S
  refine RW.begin (Z:=[⟨10,3,#[.bool false,.slice none 0 0,.slice none 0 0],26⟩,⟨11,4,#[.bool false,.slice none 0 0,.slice none 0 0],26⟩]) (S:=(fun W=>Cb W (w.heap.size) #[.bool b3,.slice A3 n3 c3,.slice D3 m3 d3,.bool b4,.slice A4 n4 c4,.slice D4 m4 d4] 28)) (by kernel_rfl) ?_ S.out ?_
  ·exact⟨by kernel_rfl,(zis_cons at10 (fun _ _=>by kernel_rfl) (zis_cons at11 (fun _ _=>by kernel_rfl) zis_nil)),by decide,by decide,(nol_cons (noL3 _ _ _ _ _ _ _) (nol_cons (noL3 _ _ _ _ _ _ _) nol_nil)),(fun _ _ h=>h.kb 1 rfl)⟩
  intro hzk
  clear S
  refine RW.t (i:=0) (v:=.pointer (some ⟨w.heap.size,0,none⟩)) (some 7) at0 (hy:=fun _ _=>by kernel_rfl) (h:=?_)
  refine RW.t (i:=1) (v:=.agg #[.bool b3,.slice A3 n3 c3,.slice D3 m3 d3]) (some 8) at1 (hy:=fun W hS=>by (have k0:=Cb.cell (i:=0) hS rfl;have k1:=Cb.cell (i:=1) hS rfl;have k2:=Cb.cell (i:=2) hS rfl;clear hS;go_simp)) (h:=?_)
  refine RW.t (i:=2) (v:=.pointer (some ⟨w.heap.size,0,none⟩)) (some 9) at2 (hy:=fun _ _=>by kernel_rfl) (h:=?_)
  refine RW.t (i:=3) (v:=.agg #[.bool b3,.slice A3 n3 c3,.slice D3 m3 d3]) (some 10) at3 (hy:=fun W hS=>by (have k0:=Cb.cell (i:=0) hS rfl;have k1:=Cb.cell (i:=1) hS rfl;have k2:=Cb.cell (i:=2) hS rfl;clear hS;go_simp)) (h:=?_)
  refine RW.t (i:=5) (v:=.pointer (some ⟨w.heap.size,3,none⟩)) (some 12) at5 (hy:=fun _ _=>by kernel_rfl) (h:=?_)
  refine RW.t (i:=6) (v:=.agg #[.bool b4,.slice A4 n4 c4,.slice D4 m4 d4]) (some 13) at6 (hy:=fun W hS=>by (have k3:=Cb.cell (i:=3) hS rfl;have k4:=Cb.cell (i:=4) hS rfl;have k5:=Cb.cell (i:=5) hS rfl;clear hS;go_simp)) (h:=?_)
  refine RW.t (i:=7) (v:=.pointer (some ⟨w.heap.size,3,none⟩)) (some 14) at7 (hy:=fun _ _=>by kernel_rfl) (h:=?_)
  refine RW.t (i:=8) (v:=.agg #[.bool b4,.slice A4 n4 c4,.slice D4 m4 d4]) (some 15) at8 (hy:=fun W hS=>by (have k3:=Cb.cell (i:=3) hS rfl;have k4:=Cb.cell (i:=4) hS rfl;have k5:=Cb.cell (i:=5) hS rfl;clear hS;go_simp)) (h:=?_)
  refine RW.c (i:=4) (args:=#[.agg #[.bool b3,.slice A3 n3 c3,.slice D3 m3 d3],.agg #[.bool b3,.slice A3 n3 c3,.slice D3 m3 d3]]) (some 11) hzk.out at4 (hx:=fun _=>by kernel_rfl) (h:=fun _ S=>(hM0.out _ (Rw.of (S.r 3 rfl) (S.r 2 rfl) k3.out) (Rw.of (S.r 3 rfl) (S.r 2 rfl) k3.out)).mono ?_)
  rintro e w3 ⟨A20,n20,c20,D20,m20,d20,rfl,Q20,bb⟩
  refine⟨bb,_,[(D20,m20,d20,dn p0),(A20,n20,c20,limbs p0.num.natAbs)],rfl,(rd_cons Q20.d (rd_cons Q20.n rd_nil)),?_⟩
  clear bb S Q20
  refine RW.c (i:=9) (args:=#[.agg #[.bool b4,.slice A4 n4 c4,.slice D4 m4 d4],.agg #[.bool b4,.slice A4 n4 c4,.slice D4 m4 d4]]) (some 16) hzk.out at9 (hx:=fun _=>by kernel_rfl) (h:=fun _ S=>(hM1.out _ (Rw.of (S.r 3 rfl) (S.r 2 rfl) k4.out) (Rw.of (S.r 3 rfl) (S.r 2 rfl) k4.out)).mono ?_)
  rintro e w4 ⟨A21,n21,c21,D21,m21,d21,rfl,Q21,bb⟩
  refine⟨bb,_,[(D21,m21,d21,dn p1),(A21,n21,c21,limbs p1.num.natAbs)],rfl,(rd_cons Q21.d (rd_cons Q21.n rd_nil)),?_⟩
  clear bb S Q21
  refine RW.tail hzk.out (by kernel_rfl) ?_
  intro gs w5 hgs hS S
  obtain⟨g_u,g_v,rfl⟩:=len2 hgs
  clear hS hgs hzk
  simp only[mark,fill,List.map,Act.put,List.setIfInBounds_toArray,List.set_cons_zero,List.set_cons_succ]
  replace S:=Lib.hid S
  refine Wk.o (i:=12) at12 (by kernel_rfl) fun K' hK=>?_
  have q12_u0:=St.cl (S.out) 0 0 rfl rfl
  have q12_u1:=St.cl (S.out) 0 1 rfl rfl
  have q12_u2:=St.cl (S.out) 0 2 rfl rfl
  have q12z_u0:=St.f (S.out) 0 0 rfl
  have q12z_u1:=St.f (S.out) 0 1 rfl
  have q12z_u2:=St.f (S.out) 0 2 rfl
  go_simp
  have SN:=(((S.out.set 0 0 (.bool (ng p0.num)) rfl (by nofun)).set 0 1 (.slice A20 n20 c20) rfl (by nofun)).set 0 2 (.slice D20 m20 d20) rfl (by nofun))
  clear S q12_u0 q12_u1 q12_u2 q12z_u0 q12z_u1 q12z_u2
  have S:=SN
  clear SN
  refine hK.out _ _ (S.cb 3 rfl) ?_
  clear hK K'
  replace S:=Lib.hid S
  try simp only[Act.put,List.setIfInBounds_toArray,List.set_cons_zero,List.set_cons_succ]
  refine Wk.o (i:=13) at13 (by kernel_rfl) fun K' hK=>?_
  have q13_v0:=St.cl (S.out) 1 0 rfl rfl
  have q13_v1:=St.cl (S.out) 1 1 rfl rfl
  have q13_v2:=St.cl (S.out) 1 2 rfl rfl
  have q13z_v0:=St.f (S.out) 1 0 rfl
  have q13z_v1:=St.f (S.out) 1 1 rfl
  have q13z_v2:=St.f (S.out) 1 2 rfl
  go_simp
  have SN:=(((S.out.set 1 0 (.bool (ng p1.num)) rfl (by nofun)).set 1 1 (.slice A21 n21 c21) rfl (by nofun)).set 1 2 (.slice D21 m21 d21) rfl (by nofun))
  clear S q13_v0 q13_v1 q13_v2 q13z_v0 q13z_v1 q13z_v2
  have S:=SN
  clear SN
  refine hK.out _ _ (S.cb 3 rfl) ?_
  clear hK K'
  replace S:=Lib.hid S
  try simp only[Act.put,List.setIfInBounds_toArray,List.set_cons_zero,List.set_cons_succ]
  refine Wk.done (by kernel_rfl) ?_
  go_simp
  replace S:=S.out
  have S:St w _ [(g_u,#[.bool (ng p0.num),.slice A20 n20 c20,.slice D20 m20 d20],26),(g_v,#[.bool (ng p1.num),.slice A21 n21 c21,.slice D21 m21 d21],26),(w.heap.size+1,#[.bool false,.slice none 0 0,.slice none 0 0,.bool false,.slice none 0 0,.slice none 0 0],28),(w.heap.size,#[.bool b3,.slice A3 n3 c3,.slice D3 m3 d3,.bool b4,.slice A4 n4 c4,.slice D4 m4 d4],28)] [(D21,m21,d21,dn p1),(A21,n21,c21,limbs p1.num.natAbs),(D20,m20,d20,dn p0),(A20,n20,c20,limbs p0.num.natAbs),(D4,m4,d4,y4),(A4,n4,c4,x4),(D3,m3,d3,y3),(A3,n3,c3,x3),(D2,m2,d2,y2),(A2,n2,c2,x2),(D1,m1,d1,y1),(A1,n1,c1,x1)]:=S
  generalize hW6:(World.setCell (World.setCell (World.setCell (World.setCell (World.setCell (World.setCell w5 ⟨g_u,0,none⟩ (.bool (ng p0.num))) ⟨g_u,1,none⟩ (.slice A20 n20 c20)) ⟨g_u,2,none⟩ (.slice D20 m20 d20)) ⟨g_v,0,none⟩ (.bool (ng p1.num))) ⟨g_v,1,none⟩ (.slice A21 n21 c21)) ⟨g_v,2,none⟩ (.slice D21 m21 d21))=w6 at S ⊢
  clear hW6
  replace S:=Lib.hid S
  replace S:=S.out
  obtain⟨c_u0,c_u1,c_u2,f_u0,f_u1,f_u2⟩:=S.cf3 0 rfl
  obtain⟨c_v0,c_v1,c_v2,f_v0,f_v1,f_v2⟩:=S.cf3 1 rfl
  obtain⟨c_r0,c_r1,c_r2,c_r3,c_r4,c_r5,f_r0,f_r1,f_r2,f_r3,f_r4,f_r5⟩:=S.cf6 2 rfl
  obtain⟨c_a0,c_a1,c_a2,c_a3,c_a4,c_a5,f_a0,f_a1,f_a2,f_a3,f_a4,f_a5⟩:=S.cf6 3 rfl
  have hz:g_u<w6.heap.size:=S.lt 0 rfl
  replace S:=Lib.hid S
  clear hM0 hM1
  go_wp2_with fail
  refine (hC.out _ (Rw.of (S.out.r 7 rfl) (S.out.r 6 rfl) k3.out) (Rw.of (S.out.r 5 rfl) (S.out.r 4 rfl) k4.out)).mono ?_
  rintro e w7 ⟨rfl,bb⟩
  have T:=(S.out.call bb)
  clear bb S c_u0 f_u0 c_u1 f_u1 c_u2 f_u2 c_v0 f_v0 c_v1 f_v1 c_v2 f_v2 c_r0 f_r0 c_r1 f_r1 c_r2 f_r2 c_r3 f_r3 c_r4 f_r4 c_r5 f_r5 c_a0 f_a0 c_a1 f_a1 c_a2 f_a2 c_a3 f_a3 c_a4 f_a4 c_a5 f_a5 hz
  have S:=T
  clear T
  obtain⟨c_u0,c_u1,c_u2,f_u0,f_u1,f_u2⟩:=S.cf3 0 rfl
  obtain⟨c_v0,c_v1,c_v2,f_v0,f_v1,f_v2⟩:=S.cf3 1 rfl
  obtain⟨c_r0,c_r1,c_r2,c_r3,c_r4,c_r5,f_r0,f_r1,f_r2,f_r3,f_r4,f_r5⟩:=S.cf6 2 rfl
  obtain⟨c_a0,c_a1,c_a2,c_a3,c_a4,c_a5,f_a0,f_a1,f_a2,f_a3,f_a4,f_a5⟩:=S.cf6 3 rfl
  have hz:g_u<w7.heap.size:=S.lt 0 rfl
  replace S:=Lib.hid S
  clear hC
  have S:=(S.out.allocAt (w7.heap.size) #[.bool (ng p0.num),.slice A20 n20 c20,.slice D20 m20 d20,.bool (ng p1.num),.slice A21 n21 c21,.slice D21 m21 d21] 26 (noL6 _ _ _ _ _ _ _ _ _ _ _ _ _ _) (by simp))
  replace S:=Lib.hid S
  go_wp2_with fail
  refine (hR.out _ _ _ _ _ _ _ _ _ _ _ _ _ _ (S.out.cb 0 rfl) (RR.w ⟨S.out.r 3 rfl,S.out.r 2 rfl⟩ (t0.out)) (RR.w ⟨S.out.r 1 rfl,S.out.r 0 rfl⟩ (t1.out))).mono ?_
  rintro e w8 ⟨A31,n31,c31,D31,m31,d31,A32,n32,c32,D32,m32,d32,rfl,Q31,Q32,bb⟩
  have T:=(((((S.out.call bb).read Q31.n).read Q31.d).read Q32.n).read Q32.d)
  clear bb S c_u0 f_u0 c_u1 f_u1 c_u2 f_u2 c_v0 f_v0 c_v1 f_v1 c_v2 f_v2 c_r0 f_r0 c_r1 f_r1 c_r2 f_r2 c_r3 f_r3 c_r4 f_r4 c_r5 f_r5 c_a0 f_a0 c_a1 f_a1 c_a2 f_a2 c_a3 f_a3 c_a4 f_a4 c_a5 f_a5 hz
  have S:=T
  clear T
  obtain⟨c_L0,c_L1,c_L2,c_L3,c_L4,c_L5,f_L0,f_L1,f_L2,f_L3,f_L4,f_L5⟩:=S.cf6 0 rfl
  obtain⟨c_u0,c_u1,c_u2,f_u0,f_u1,f_u2⟩:=S.cf3 1 rfl
  obtain⟨c_v0,c_v1,c_v2,f_v0,f_v1,f_v2⟩:=S.cf3 2 rfl
  obtain⟨c_r0,c_r1,c_r2,c_r3,c_r4,c_r5,f_r0,f_r1,f_r2,f_r3,f_r4,f_r5⟩:=S.cf6 3 rfl
  obtain⟨c_a0,c_a1,c_a2,c_a3,c_a4,c_a5,f_a0,f_a1,f_a2,f_a3,f_a4,f_a5⟩:=S.cf6 4 rfl
  have hz:w7.heap.size<w8.heap.size:=S.lt 0 rfl
  replace S:=Lib.hid S
  clear Q31 Q32 hR
  have S:St w _ [(w7.heap.size,#[.bool (ng p0.num),.slice A20 n20 c20,.slice D20 m20 d20,.bool (ng p1.num),.slice A21 n21 c21,.slice D21 m21 d21],26),(g_u,#[.bool (ng p0.num),.slice A20 n20 c20,.slice D20 m20 d20],26),(g_v,#[.bool (ng p1.num),.slice A21 n21 c21,.slice D21 m21 d21],26),(w.heap.size+1,#[.bool (ng lo.num),.slice A31 n31 c31,.slice D31 m31 d31,.bool (ng hi.num),.slice A32 n32 c32,.slice D32 m32 d32],28),(w.heap.size,#[.bool b3,.slice A3 n3 c3,.slice D3 m3 d3,.bool b4,.slice A4 n4 c4,.slice D4 m4 d4],28)] [(D32,m32,d32,dn hi),(A32,n32,c32,limbs hi.num.natAbs),(D31,m31,d31,dn lo),(A31,n31,c31,limbs lo.num.natAbs),(D21,m21,d21,dn p1),(A21,n21,c21,limbs p1.num.natAbs),(D20,m20,d20,dn p0),(A20,n20,c20,limbs p0.num.natAbs),(D4,m4,d4,y4),(A4,n4,c4,x4),(D3,m3,d3,y3),(A3,n3,c3,x3),(D2,m2,d2,y2),(A2,n2,c2,x2),(D1,m1,d1,y1),(A1,n1,c1,x1)]:=((((((S.out.set 3 0 (.bool (ng lo.num)) rfl (by nofun)).set 3 1 (.slice A31 n31 c31) rfl (by nofun)).set 3 2 (.slice D31 m31 d31) rfl (by nofun)).set 3 3 (.bool (ng hi.num)) rfl (by nofun)).set 3 4 (.slice A32 n32 c32) rfl (by nofun)).set 3 5 (.slice D32 m32 d32) rfl (by nofun))
  replace S:=Lib.hid S
  go_wp2
  refine bodyPost_ret (res_isq _ _ (w.heap.size+1) 28 rfl (S.out.bk _ (List.mem_of_getElem? (i:=3) rfl)).1) rfl ?_
  exact⟨_,_,_,_,_,_,_,_,_,_,_,_,rfl,⟨S.out.r 3 rfl,S.out.r 2 rfl⟩,⟨S.out.r 1 rfl,S.out.r 0 rfl⟩,S.out.bel⟩
 ·rw[if_pos (of_decide_eq_true hu)]
  clear hu
  obtain⟨lo,hlo⟩:∃ lo,lo=minL [0,p0,p1]:=⟨_,rfl⟩
  obtain⟨hi,hhi⟩:∃ hi,hi=maxL [0,p0,p1]:=⟨_,rfl⟩
  rw[←hlo,←hhi]
  have hR:Hid (∀ W g A20 n20 c20 D20 m20 d20 A21 n21 c21 D21 m21 d21,Cb W g #[.bool false,.slice none 0 0,.slice none 0 0,.bool (ng p0.num),.slice A20 n20 c20,.slice D20 m20 d20,.bool (ng p1.num),.slice A21 n21 c21,.slice D21 m21 d21] 26→Rw W false none 0 0 [] none 0 0 [] 0→Rw W (ng p0.num) A20 n20 c20 (limbs p0.num.natAbs) D20 m20 d20 (dn p0) p0→Rw W (ng p1.num) A21 n21 c21 (limbs p1.num.natAbs) D21 m21 d21 (dn p1) p1→Calls Tryz.prog 90 #[.slice (some ⟨g,0,none⟩) 3 3] W (RetV lo hi W)):=Lib.hid fun W g A20 n20 c20 D20 m20 d20 A21 n21 c21 D21 m21 d21 h h0 h1 h2=>by
   rw[hlo,hhi];exact around3 _ _ _ _ _ _ _ _ _ _ _ _ _ _ _ _ _ _ _ _ _ _ _ _ _ _ _ _ _ _ W g _ h h0 h1 h2
  clear hlo hhi
  go_enter Tryz.func25,Tryz.ntmps25
  go_wp2_with fail
  refine (hK.out _ (Rw.of (S.out.r 7 rfl) (S.out.r 6 rfl) k1.out) (Rw.of (S.out.r 5 rfl) (S.out.r 4 rfl) k2.out)).mono ?_
  rintro e w1 ⟨rfl,bb⟩
  have T:=(S.out.call bb)
  clear bb S
  have S:=T
  clear T
  obtain⟨c_r0,c_r1,c_r2,c_r3,c_r4,c_r5,f_r0,f_r1,f_r2,f_r3,f_r4,f_r5⟩:=S.cf6 0 rfl
  obtain⟨c_a0,c_a1,c_a2,c_a3,c_a4,c_a5,f_a0,f_a1,f_a2,f_a3,f_a4,f_a5⟩:=S.cf6 1 rfl
  have hz:w.heap.size+1<w1.heap.size:=S.lt 0 rfl
  replace S:=Lib.hid S
  clear hK
  go_upto_region 2 with fail
  clear c_r0 f_r0 c_r1 f_r1 c_r2 f_r2 c_r3 f_r3 c_r4 f_r4 c_r5 f_r5 c_a0 f_a0 c_a1 f_a1 c_a2 f_a2 c_a3 f_a3 c_a4 f_a4 c_a5 f_a5 hz
  have S:St w _ [(w.heap.size+1,#[.bool false,.slice none 0 0,.slice none 0 0,.bool false,.slice none 0 0,.slice none 0 0],28),(w.heap.size,#[.bool b3,.slice A3 n3 c3,.slice D3 m3 d3,.bool b4,.slice A4 n4 c4,.slice D4 m4 d4],28)] [(D4,m4,d4,y4),(A4,n4,c4,x4),(D3,m3,d3,y3),(A3,n3,c3,x3),(D2,m2,d2,y2),(A2,n2,c2,x2),(D1,m1,d1,y1),(A1,n1,c1,x1)]:=((((((S.out.set 1 0 (.bool b3) rfl (by nofun)).set 1 1 (.slice A3 n3 c3) rfl (by nofun)).set 1 2 (.slice D3 m3 d3) rfl (by nofun)).set 1 3 (.bool b4) rfl (by nofun)).set 1 4 (.slice A4 n4 c4) rfl (by nofun)).set 1 5 (.slice D4 m4 d4) rfl (by nofun))
  generalize hW2:(World.setCell (World.setCell (World.setCell (World.setCell (World.setCell (World.setCell w1 ⟨w.heap.size,0,none⟩ (.bool b3)) ⟨w.heap.size,1,none⟩ (.slice A3 n3 c3)) ⟨w.heap.size,2,none⟩ (.slice D3 m3 d3)) ⟨w.heap.size,3,none⟩ (.bool b4)) ⟨w.heap.size,4,none⟩ (.slice A4 n4 c4)) ⟨w.heap.size,5,none⟩ (.slice D4 m4 d4))=w2 at S ⊢
  clear hW2
  replace S:=Lib.hid S
  refine RW.begin (Z:=[⟨10,3,#[.bool false,.slice none 0 0,.slice none 0 0],26⟩,⟨11,4,#[.bool false,.slice none 0 0,.slice none 0 0],26⟩]) (S:=(fun W=>Cb W (w.heap.size) #[.bool b3,.slice A3 n3 c3,.slice D3 m3 d3,.bool b4,.slice A4 n4 c4,.slice D4 m4 d4] 28)) (by kernel_rfl) ?_ S.out ?_
  ·exact⟨by kernel_rfl,(zis_cons at10 (fun _ _=>by kernel_rfl) (zis_cons at11 (fun _ _=>by kernel_rfl) zis_nil)),by decide,by decide,(nol_cons (noL3 _ _ _ _ _ _ _) (nol_cons (noL3 _ _ _ _ _ _ _) nol_nil)),(fun _ _ h=>h.kb 1 rfl)⟩
  intro hzk
  clear S
  refine RW.t (i:=0) (v:=.pointer (some ⟨w.heap.size,0,none⟩)) (some 7) at0 (hy:=fun _ _=>by kernel_rfl) (h:=?_)
  refine RW.t (i:=1) (v:=.agg #[.bool b3,.slice A3 n3 c3,.slice D3 m3 d3]) (some 8) at1 (hy:=fun W hS=>by (have k0:=Cb.cell (i:=0) hS rfl;have k1:=Cb.cell (i:=1) hS rfl;have k2:=Cb.cell (i:=2) hS rfl;clear hS;go_simp)) (h:=?_)
  refine RW.t (i:=2) (v:=.pointer (some ⟨w.heap.size,0,none⟩)) (some 9) at2 (hy:=fun _ _=>by kernel_rfl) (h:=?_)
  refine RW.t (i:=3) (v:=.agg #[.bool b3,.slice A3 n3 c3,.slice D3 m3 d3]) (some 10) at3 (hy:=fun W hS=>by (have k0:=Cb.cell (i:=0) hS rfl;have k1:=Cb.cell (i:=1) hS rfl;have k2:=Cb.cell (i:=2) hS rfl;clear hS;go_simp)) (h:=?_)
  refine RW.t (i:=5) (v:=.pointer (some ⟨w.heap.size,3,none⟩)) (some 12) at5 (hy:=fun _ _=>by kernel_rfl) (h:=?_)
  refine RW.t (i:=6) (v:=.agg #[.bool b4,.slice A4 n4 c4,.slice D4 m4 d4]) (some 13) at6 (hy:=fun W hS=>by (have k3:=Cb.cell (i:=3) hS rfl;have k4:=Cb.cell (i:=4) hS rfl;have k5:=Cb.cell (i:=5) hS rfl;clear hS;go_simp)) (h:=?_)
  refine RW.t (i:=7) (v:=.pointer (some ⟨w.heap.size,3,none⟩)) (some 14) at7 (hy:=fun _ _=>by kernel_rfl) (h:=?_)
  refine RW.t (i:=8) (v:=.agg #[.bool b4,.slice A4 n4 c4,.slice D4 m4 d4]) (some 15) at8 (hy:=fun W hS=>by (have k3:=Cb.cell (i:=3) hS rfl;have k4:=Cb.cell (i:=4) hS rfl;have k5:=Cb.cell (i:=5) hS rfl;clear hS;go_simp)) (h:=?_)
  refine RW.c (i:=4) (args:=#[.agg #[.bool b3,.slice A3 n3 c3,.slice D3 m3 d3],.agg #[.bool b3,.slice A3 n3 c3,.slice D3 m3 d3]]) (some 11) hzk.out at4 (hx:=fun _=>by kernel_rfl) (h:=fun _ S=>(hM0.out _ (Rw.of (S.r 3 rfl) (S.r 2 rfl) k3.out) (Rw.of (S.r 3 rfl) (S.r 2 rfl) k3.out)).mono ?_)
  rintro e w3 ⟨A20,n20,c20,D20,m20,d20,rfl,Q20,bb⟩
  refine⟨bb,_,[(D20,m20,d20,dn p0),(A20,n20,c20,limbs p0.num.natAbs)],rfl,(rd_cons Q20.d (rd_cons Q20.n rd_nil)),?_⟩
  clear bb S Q20
  refine RW.c (i:=9) (args:=#[.agg #[.bool b4,.slice A4 n4 c4,.slice D4 m4 d4],.agg #[.bool b4,.slice A4 n4 c4,.slice D4 m4 d4]]) (some 16) hzk.out at9 (hx:=fun _=>by kernel_rfl) (h:=fun _ S=>(hM1.out _ (Rw.of (S.r 3 rfl) (S.r 2 rfl) k4.out) (Rw.of (S.r 3 rfl) (S.r 2 rfl) k4.out)).mono ?_)
  rintro e w4 ⟨A21,n21,c21,D21,m21,d21,rfl,Q21,bb⟩
  refine⟨bb,_,[(D21,m21,d21,dn p1),(A21,n21,c21,limbs p1.num.natAbs)],rfl,(rd_cons Q21.d (rd_cons Q21.n rd_nil)),?_⟩
  clear bb S Q21
  refine RW.tail hzk.out (by kernel_rfl) ?_
  intro gs w5 hgs hS S
  obtain⟨g_u,g_v,rfl⟩:=len2 hgs
  clear hS hgs hzk
  simp only[mark,fill,List.map,Act.put,List.setIfInBounds_toArray,List.set_cons_zero,List.set_cons_succ]
  replace S:=Lib.hid S
  refine Wk.o (i:=12) at12 (by kernel_rfl) fun K' hK=>?_
  have q12_u0:=St.cl (S.out) 0 0 rfl rfl
  have q12_u1:=St.cl (S.out) 0 1 rfl rfl
  have q12_u2:=St.cl (S.out) 0 2 rfl rfl
  have q12z_u0:=St.f (S.out) 0 0 rfl
  have q12z_u1:=St.f (S.out) 0 1 rfl
  have q12z_u2:=St.f (S.out) 0 2 rfl
  go_simp
  have SN:=(((S.out.set 0 0 (.bool (ng p0.num)) rfl (by nofun)).set 0 1 (.slice A20 n20 c20) rfl (by nofun)).set 0 2 (.slice D20 m20 d20) rfl (by nofun))
  clear S q12_u0 q12_u1 q12_u2 q12z_u0 q12z_u1 q12z_u2
  have S:=SN
  clear SN
  refine hK.out _ _ (S.cb 3 rfl) ?_
  clear hK K'
  replace S:=Lib.hid S
  try simp only[Act.put,List.setIfInBounds_toArray,List.set_cons_zero,List.set_cons_succ]
  refine Wk.o (i:=13) at13 (by kernel_rfl) fun K' hK=>?_
  have q13_v0:=St.cl (S.out) 1 0 rfl rfl
  have q13_v1:=St.cl (S.out) 1 1 rfl rfl
  have q13_v2:=St.cl (S.out) 1 2 rfl rfl
  have q13z_v0:=St.f (S.out) 1 0 rfl
  have q13z_v1:=St.f (S.out) 1 1 rfl
  have q13z_v2:=St.f (S.out) 1 2 rfl
  go_simp
  have SN:=(((S.out.set 1 0 (.bool (ng p1.num)) rfl (by nofun)).set 1 1 (.slice A21 n21 c21) rfl (by nofun)).set 1 2 (.slice D21 m21 d21) rfl (by nofun))
  clear S q13_v0 q13_v1 q13_v2 q13z_v0 q13z_v1 q13z_v2
  have S:=SN
  clear SN
  refine hK.out _ _ (S.cb 3 rfl) ?_
  clear hK K'
  replace S:=Lib.hid S
  try simp only[Act.put,List.setIfInBounds_toArray,List.set_cons_zero,List.set_cons_succ]
  refine Wk.done (by kernel_rfl) ?_
  go_simp
  replace S:=S.out
  have S:St w _ [(g_u,#[.bool (ng p0.num),.slice A20 n20 c20,.slice D20 m20 d20],26),(g_v,#[.bool (ng p1.num),.slice A21 n21 c21,.slice D21 m21 d21],26),(w.heap.size+1,#[.bool false,.slice none 0 0,.slice none 0 0,.bool false,.slice none 0 0,.slice none 0 0],28),(w.heap.size,#[.bool b3,.slice A3 n3 c3,.slice D3 m3 d3,.bool b4,.slice A4 n4 c4,.slice D4 m4 d4],28)] [(D21,m21,d21,dn p1),(A21,n21,c21,limbs p1.num.natAbs),(D20,m20,d20,dn p0),(A20,n20,c20,limbs p0.num.natAbs),(D4,m4,d4,y4),(A4,n4,c4,x4),(D3,m3,d3,y3),(A3,n3,c3,x3),(D2,m2,d2,y2),(A2,n2,c2,x2),(D1,m1,d1,y1),(A1,n1,c1,x1)]:=S
  generalize hW6:(World.setCell (World.setCell (World.setCell (World.setCell (World.setCell (World.setCell w5 ⟨g_u,0,none⟩ (.bool (ng p0.num))) ⟨g_u,1,none⟩ (.slice A20 n20 c20)) ⟨g_u,2,none⟩ (.slice D20 m20 d20)) ⟨g_v,0,none⟩ (.bool (ng p1.num))) ⟨g_v,1,none⟩ (.slice A21 n21 c21)) ⟨g_v,2,none⟩ (.slice D21 m21 d21))=w6 at S ⊢
  clear hW6
  replace S:=Lib.hid S
  replace S:=S.out
  obtain⟨c_u0,c_u1,c_u2,f_u0,f_u1,f_u2⟩:=S.cf3 0 rfl
  obtain⟨c_v0,c_v1,c_v2,f_v0,f_v1,f_v2⟩:=S.cf3 1 rfl
  obtain⟨c_r0,c_r1,c_r2,c_r3,c_r4,c_r5,f_r0,f_r1,f_r2,f_r3,f_r4,f_r5⟩:=S.cf6 2 rfl
  obtain⟨c_a0,c_a1,c_a2,c_a3,c_a4,c_a5,f_a0,f_a1,f_a2,f_a3,f_a4,f_a5⟩:=S.cf6 3 rfl
  have hz:g_u<w6.heap.size:=S.lt 0 rfl
  replace S:=Lib.hid S
  clear hM0 hM1
  go_wp2_with fail
  refine (hC.out _ (Rw.of (S.out.r 7 rfl) (S.out.r 6 rfl) k3.out) (Rw.of (S.out.r 5 rfl) (S.out.r 4 rfl) k4.out)).mono ?_
  rintro e w7 ⟨rfl,bb⟩
  have T:=(S.out.call bb)
  clear bb S c_u0 f_u0 c_u1 f_u1 c_u2 f_u2 c_v0 f_v0 c_v1 f_v1 c_v2 f_v2 c_r0 f_r0 c_r1 f_r1 c_r2 f_r2 c_r3 f_r3 c_r4 f_r4 c_r5 f_r5 c_a0 f_a0 c_a1 f_a1 c_a2 f_a2 c_a3 f_a3 c_a4 f_a4 c_a5 f_a5 hz
  have S:=T
  clear T
  obtain⟨c_u0,c_u1,c_u2,f_u0,f_u1,f_u2⟩:=S.cf3 0 rfl
  obtain⟨c_v0,c_v1,c_v2,f_v0,f_v1,f_v2⟩:=S.cf3 1 rfl
  obtain⟨c_r0,c_r1,c_r2,c_r3,c_r4,c_r5,f_r0,f_r1,f_r2,f_r3,f_r4,f_r5⟩:=S.cf6 2 rfl
  obtain⟨c_a0,c_a1,c_a2,c_a3,c_a4,c_a5,f_a0,f_a1,f_a2,f_a3,f_a4,f_a5⟩:=S.cf6 3 rfl
  have hz:g_u<w7.heap.size:=S.lt 0 rfl
  replace S:=Lib.hid S
  clear hC
  have S:=(S.out.allocAt (w7.heap.size) #[.bool false,.slice none 0 0,.slice none 0 0,.bool (ng p0.num),.slice A20 n20 c20,.slice D20 m20 d20,.bool (ng p1.num),.slice A21 n21 c21,.slice D21 m21 d21] 26 (noL9 _ _ _ _ _ _ _ _ _ _ _ _ _ _ _ _ _ _ _ _ _) (by simp))
  replace S:=Lib.hid S
  go_wp2_with fail
  refine (hR.out _ _ _ _ _ _ _ _ _ _ _ _ _ _ (S.out.cb 0 rfl) (Rw.zero _) (RR.w ⟨S.out.r 3 rfl,S.out.r 2 rfl⟩ (t0.out)) (RR.w ⟨S.out.r 1 rfl,S.out.r 0 rfl⟩ (t1.out))).mono ?_
  rintro e w8 ⟨A31,n31,c31,D31,m31,d31,A32,n32,c32,D32,m32,d32,rfl,Q31,Q32,bb⟩
  have T:=(((((S.out.call bb).read Q31.n).read Q31.d).read Q32.n).read Q32.d)
  clear bb S c_u0 f_u0 c_u1 f_u1 c_u2 f_u2 c_v0 f_v0 c_v1 f_v1 c_v2 f_v2 c_r0 f_r0 c_r1 f_r1 c_r2 f_r2 c_r3 f_r3 c_r4 f_r4 c_r5 f_r5 c_a0 f_a0 c_a1 f_a1 c_a2 f_a2 c_a3 f_a3 c_a4 f_a4 c_a5 f_a5 hz
  have S:=T
  clear T
  obtain⟨c_L0,c_L1,c_L2,c_L3,c_L4,c_L5,c_L6,c_L7,c_L8,f_L0,f_L1,f_L2,f_L3,f_L4,f_L5,f_L6,f_L7,f_L8⟩:=S.cf9 0 rfl
  obtain⟨c_u0,c_u1,c_u2,f_u0,f_u1,f_u2⟩:=S.cf3 1 rfl
  obtain⟨c_v0,c_v1,c_v2,f_v0,f_v1,f_v2⟩:=S.cf3 2 rfl
  obtain⟨c_r0,c_r1,c_r2,c_r3,c_r4,c_r5,f_r0,f_r1,f_r2,f_r3,f_r4,f_r5⟩:=S.cf6 3 rfl
  obtain⟨c_a0,c_a1,c_a2,c_a3,c_a4,c_a5,f_a0,f_a1,f_a2,f_a3,f_a4,f_a5⟩:=S.cf6 4 rfl
  have hz:w7.heap.size<w8.heap.size:=S.lt 0 rfl
  replace S:=Lib.hid S
  clear Q31 Q32 hR
  have S:St w _ [(w7.heap.size,#[.bool false,.slice none 0 0,.slice none 0 0,.bool (ng p0.num),.slice A20 n20 c20,.slice D20 m20 d20,.bool (ng p1.num),.slice A21 n21 c21,.slice D21 m21 d21],26),(g_u,#[.bool (ng p0.num),.slice A20 n20 c20,.slice D20 m20 d20],26),(g_v,#[.bool (ng p1.num),.slice A21 n21 c21,.slice D21 m21 d21],26),(w.heap.size+1,#[.bool (ng lo.num),.slice A31 n31 c31,.slice D31 m31 d31,.bool (ng hi.num),.slice A32 n32 c32,.slice D32 m32 d32],28),(w.heap.size,#[.bool b3,.slice A3 n3 c3,.slice D3 m3 d3,.bool b4,.slice A4 n4 c4,.slice D4 m4 d4],28)] [(D32,m32,d32,dn hi),(A32,n32,c32,limbs hi.num.natAbs),(D31,m31,d31,dn lo),(A31,n31,c31,limbs lo.num.natAbs),(D21,m21,d21,dn p1),(A21,n21,c21,limbs p1.num.natAbs),(D20,m20,d20,dn p0),(A20,n20,c20,limbs p0.num.natAbs),(D4,m4,d4,y4),(A4,n4,c4,x4),(D3,m3,d3,y3),(A3,n3,c3,x3),(D2,m2,d2,y2),(A2,n2,c2,x2),(D1,m1,d1,y1),(A1,n1,c1,x1)]:=((((((S.out.set 3 0 (.bool (ng lo.num)) rfl (by nofun)).set 3 1 (.slice A31 n31 c31) rfl (by nofun)).set 3 2 (.slice D31 m31 d31) rfl (by nofun)).set 3 3 (.bool (ng hi.num)) rfl (by nofun)).set 3 4 (.slice A32 n32 c32) rfl (by nofun)).set 3 5 (.slice D32 m32 d32) rfl (by nofun))
  replace S:=Lib.hid S
  go_wp2
  refine bodyPost_ret (res_isq _ _ (w.heap.size+1) 28 rfl (S.out.bk _ (List.mem_of_getElem? (i:=3) rfl)).1) rfl ?_
  exact⟨_,_,_,_,_,_,_,_,_,_,_,_,rfl,⟨S.out.r 3 rfl,S.out.r 2 rfl⟩,⟨S.out.r 1 rfl,S.out.r 0 rfl⟩,S.out.bel⟩
end Go.Proofs.YtphckmdnflbloaaGreat

namespace Go.Proofs.YtphckmdnflbloaaGreat
open Go.RowKit RQ
end Go.Proofs.YtphckmdnflbloaaGreat
