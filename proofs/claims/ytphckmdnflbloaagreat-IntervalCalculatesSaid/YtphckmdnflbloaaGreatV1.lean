/- The reference's hull at rows; its Square, Add, Sub. -/
import Derived.Test.YtphckmdnflbloaaGreatQVyz
import Derived.Test.YtphckmdnflbloaaGreatQVpz
namespace Go.Proofs.YtphckmdnflbloaaGreat
open Go.RowKit RQ
theorem rhull2 (b1:Bool) (A1:Option Addr) (n1 c1:Nat) (x1:List Nat) (D1:Option Addr) (m1 d1:Nat) (y1:List Nat) (q1:Rat) (b2:Bool) (A2:Option Addr) (n2 c2:Nat) (x2:List Nat) (D2:Option Addr) (m2 d2:Nat) (y2:List Nat) (q2:Rat) (W:World) (g t:Nat) (h:Cb W g #[.bool b1,.slice A1 n1 c1,.slice D1 m1 d1,.bool b2,.slice A2 n2 c2,.slice D2 m2 d2] t) (X1:Rw W b1 A1 n1 c1 x1 D1 m1 d1 y1 q1) (X2:Rw W b2 A2 n2 c2 x2 D2 m2 d2 y2 q2):Calls Tryz.prog 83 #[.slice (some ⟨g,0,none⟩) 2 2] W (RetV (minL [q1,q2]) (maxL [q1,q2]) W):=
 have hL:=lt2 b1 A1 n1 c1 x1 D1 m1 d1 y1 q1 b2 A2 n2 c2 x2 D2 m2 d2 y2 q2 W g t h X1 X2
 rhull_any [⟨b1,A1,n1,c1,x1,D1,m1,d1,y1,q1⟩,⟨b2,A2,n2,c2,x2,D2,m2,d2,y2,q2⟩] g W hL (by simp) (by simp) (fun r hr=>(hL.at_ r hr).rs)
theorem rhull3 (b1:Bool) (A1:Option Addr) (n1 c1:Nat) (x1:List Nat) (D1:Option Addr) (m1 d1:Nat) (y1:List Nat) (q1:Rat) (b2:Bool) (A2:Option Addr) (n2 c2:Nat) (x2:List Nat) (D2:Option Addr) (m2 d2:Nat) (y2:List Nat) (q2:Rat) (b3:Bool) (A3:Option Addr) (n3 c3:Nat) (x3:List Nat) (D3:Option Addr) (m3 d3:Nat) (y3:List Nat) (q3:Rat) (W:World) (g t:Nat) (h:Cb W g #[.bool b1,.slice A1 n1 c1,.slice D1 m1 d1,.bool b2,.slice A2 n2 c2,.slice D2 m2 d2,.bool b3,.slice A3 n3 c3,.slice D3 m3 d3] t) (X1:Rw W b1 A1 n1 c1 x1 D1 m1 d1 y1 q1) (X2:Rw W b2 A2 n2 c2 x2 D2 m2 d2 y2 q2) (X3:Rw W b3 A3 n3 c3 x3 D3 m3 d3 y3 q3):Calls Tryz.prog 83 #[.slice (some ⟨g,0,none⟩) 3 3] W (RetV (minL [q1,q2,q3]) (maxL [q1,q2,q3]) W):=
 have hL:=lt3 b1 A1 n1 c1 x1 D1 m1 d1 y1 q1 b2 A2 n2 c2 x2 D2 m2 d2 y2 q2 b3 A3 n3 c3 x3 D3 m3 d3 y3 q3 W g t h X1 X2 X3
 rhull_any [⟨b1,A1,n1,c1,x1,D1,m1,d1,y1,q1⟩,⟨b2,A2,n2,c2,x2,D2,m2,d2,y2,q2⟩,⟨b3,A3,n3,c3,x3,D3,m3,d3,y3,q3⟩] g W hL (by simp) (by simp) (fun r hr=>(hL.at_ r hr).rs)
theorem rhull4 (b1:Bool) (A1:Option Addr) (n1 c1:Nat) (x1:List Nat) (D1:Option Addr) (m1 d1:Nat) (y1:List Nat) (q1:Rat) (b2:Bool) (A2:Option Addr) (n2 c2:Nat) (x2:List Nat) (D2:Option Addr) (m2 d2:Nat) (y2:List Nat) (q2:Rat) (b3:Bool) (A3:Option Addr) (n3 c3:Nat) (x3:List Nat) (D3:Option Addr) (m3 d3:Nat) (y3:List Nat) (q3:Rat) (b4:Bool) (A4:Option Addr) (n4 c4:Nat) (x4:List Nat) (D4:Option Addr) (m4 d4:Nat) (y4:List Nat) (q4:Rat) (W:World) (g t:Nat) (h:Cb W g #[.bool b1,.slice A1 n1 c1,.slice D1 m1 d1,.bool b2,.slice A2 n2 c2,.slice D2 m2 d2,.bool b3,.slice A3 n3 c3,.slice D3 m3 d3,.bool b4,.slice A4 n4 c4,.slice D4 m4 d4] t) (X1:Rw W b1 A1 n1 c1 x1 D1 m1 d1 y1 q1) (X2:Rw W b2 A2 n2 c2 x2 D2 m2 d2 y2 q2) (X3:Rw W b3 A3 n3 c3 x3 D3 m3 d3 y3 q3) (X4:Rw W b4 A4 n4 c4 x4 D4 m4 d4 y4 q4):Calls Tryz.prog 83 #[.slice (some ⟨g,0,none⟩) 4 4] W (RetV (minL [q1,q2,q3,q4]) (maxL [q1,q2,q3,q4]) W):=
 have hL:=lt4 b1 A1 n1 c1 x1 D1 m1 d1 y1 q1 b2 A2 n2 c2 x2 D2 m2 d2 y2 q2 b3 A3 n3 c3 x3 D3 m3 d3 y3 q3 b4 A4 n4 c4 x4 D4 m4 d4 y4 q4 W g t h X1 X2 X3 X4
 rhull_any [⟨b1,A1,n1,c1,x1,D1,m1,d1,y1,q1⟩,⟨b2,A2,n2,c2,x2,D2,m2,d2,y2,q2⟩,⟨b3,A3,n3,c3,x3,D3,m3,d3,y3,q3⟩,⟨b4,A4,n4,c4,x4,D4,m4,d4,y4,q4⟩] g W hL (by simp) (by simp) (fun r hr=>(hL.at_ r hr).rs)
theorem res_rsqV (W:World) (tmps:Array Value) (g t:Nat) {v0 v1 v2 v3 v4 v5:Value} (ht:tmps.getD 2 undef=.pointer (some ⟨g,0,none⟩)) (h:Cb W g #[v0,v1,v2,v3,v4,v5] t) :
  (results Tryz.f26 tmps).run Tryz.prog W=.ok (.agg #[v0,v1,v2,v3,v4,v5]) W:=by
 have c0:W.cell? ⟨g,0,none⟩=some v0:=h.cell rfl
 have c1:W.cell? ⟨g,1,none⟩=some v1:=h.cell rfl
 have c2:W.cell? ⟨g,2,none⟩=some v2:=h.cell rfl
 have c3:W.cell? ⟨g,3,none⟩=some v3:=h.cell rfl
 have c4:W.cell? ⟨g,4,none⟩=some v4:=h.cell rfl
 have c5:W.cell? ⟨g,5,none⟩=some v5:=h.cell rfl
 have ht':tmps[2]?.getD undef=.pointer (some ⟨g,0,none⟩):=by rw[←ht];simp[Array.getD_eq_getD_getElem?]
 simp[results,Tryz.results26,go_sem,ht',c0,c1,c2,c3,c4,c5]
set_option maxRecDepth 100000 in
set_option maxHeartbeats 8000000 in
theorem rsquareV_any (b1:Bool) (A1:Option Addr) (n1 c1:Nat) (x1:List Nat) (D1:Option Addr) (m1 d1:Nat) (y1:List Nat) (q1:Rat) (b2:Bool) (A2:Option Addr) (n2 c2:Nat) (x2:List Nat) (D2:Option Addr) (m2 d2:Nat) (y2:List Nat) (q2:Rat) (s1:Rs q1 19) (s2:Rs q2 19) (w:World) (X1:Rw w b1 A1 n1 c1 x1 D1 m1 d1 y1 q1) (X2:Rw w b2 A2 n2 c2 x2 D2 m2 d2 y2 q2):Calls Tryz.prog 26 #[.agg #[.bool b1,.slice A1 n1 c1,.slice D1 m1 d1,.bool b2,.slice A2 n2 c2,.slice D2 m2 d2]] w (RetV (minL (sqL (klo q1 q2) (khi q1 q2))) (maxL (sqL (klo q1 q2) (khi q1 q2))) w):=by
 obtain⟨s5,s6⟩:=k_rsp s1 s2 (by decide)
 have hle:=kle q1 q2
 have hK:=Lib.hid (fun W h1 h2=>rtakeV_any b1 A1 n1 c1 x1 D1 m1 d1 y1 q1 b2 A2 n2 c2 x2 D2 m2 d2 y2 q2 W h1 h2)
 generalize klo q1 q2=q5 at *
 generalize khi q1 q2=q6 at *
 have hC:Hid (∀ W A n c D m d A' n' c' D' m' d',RR W A n c D m d q5→RR W A' n' c' D' m' d' q6→Calls Tryz.prog 38 #[.agg #[.bool (ng q5.num),.slice A n c,.slice D m d,.bool (ng q6.num),.slice A' n' c',.slice D' m' d'],.agg #[.bool false,.slice none 0 0,.slice none 0 0]] W fun e w'=>e=.returned (.bool (decide (q5≤0∧0≤q6)))∧Below W.heap.size W w'):=Lib.hid fun W A n c D m d A' n' c' D' m' d' h1 h2=>by
  have:=rcontains_any _ _ _ _ _ _ _ _ _ _ _ _ _ _ _ _ _ _ _ _ false none 0 0 [] none 0 0 [] 0 W (RR.w h1 (s5.mono (by decide))) (RR.w h2 (s6.mono (by decide))) (Rw.zero W)
  rwa [show klo q5 q6=q5 from if_neg (Rat.not_lt.2 hle),show khi q5 q6=q6 from if_neg (Rat.not_lt.2 hle),←Bool.decide_and] at this
 clear hle
 unfold sqL
 have hM0:Hid (∀ W A0 n0 c0 D0 m0 d0 A1 n1 c1 D1 m1 d1,RR W A0 n0 c0 D0 m0 d0 q5→RR W A1 n1 c1 D1 m1 d1 q5→Calls Tryz.prog 35 #[.agg #[.bool (ng q5.num),.slice A0 n0 c0,.slice D0 m0 d0],.agg #[.bool (ng q5.num),.slice A1 n1 c1,.slice D1 m1 d1]] W (RetR (q5*q5) W)):=Lib.hid fun W A0 n0 c0 D0 m0 d0 A1 n1 c1 D1 m1 d1 X0 X1=>by
  have l0:=X0.lens s5
  have l1:=X1.lens s5
  have:=Fmul_any (ng q5.num) A0 n0 c0 _ D0 m0 d0 _ (ng q5.num) A1 n1 c1 _ D1 m1 d1 _ W X0.n X0.d X1.n X1.d (by omega) (by omega) (by omega) (by omega)
  rwa [rv_z] at this
 have t0:Hid (Rs (q5*q5) 40):=Lib.hid ((s5.mul s5).mono (by decide))
 have hM1:Hid (∀ W A0 n0 c0 D0 m0 d0 A1 n1 c1 D1 m1 d1,RR W A0 n0 c0 D0 m0 d0 q6→RR W A1 n1 c1 D1 m1 d1 q6→Calls Tryz.prog 35 #[.agg #[.bool (ng q6.num),.slice A0 n0 c0,.slice D0 m0 d0],.agg #[.bool (ng q6.num),.slice A1 n1 c1,.slice D1 m1 d1]] W (RetR (q6*q6) W)):=Lib.hid fun W A0 n0 c0 D0 m0 d0 A1 n1 c1 D1 m1 d1 X0 X1=>by
  have l0:=X0.lens s6
  have l1:=X1.lens s6
  have:=Fmul_any (ng q6.num) A0 n0 c0 _ D0 m0 d0 _ (ng q6.num) A1 n1 c1 _ D1 m1 d1 _ W X0.n X0.d X1.n X1.d (by omega) (by omega) (by omega) (by omega)
  rwa [rv_z] at this
 have t1:Hid (Rs (q6*q6) 40):=Lib.hid ((s6.mul s6).mono (by decide))
 clear s1 s2 s5 s6
 have k1:=Lib.hid X1.k
 have k2:=Lib.hid X2.k
 generalize q5*q5=p0 at *
 generalize q6*q6=p1 at *
 generalize hu:decide (q5≤0∧0≤q6)=u at *
 have S:=(((((((St.new w).read X1.rn).read X1.rd).read X2.rn).read X2.rd).allocAt (w.heap.size) #[.bool b1,.slice A1 n1 c1,.slice D1 m1 d1,.bool b2,.slice A2 n2 c2,.slice D2 m2 d2] 28 (noL6 _ _ _ _ _ _ _ _ _ _ _ _ _ _) (by simp)).allocAt (w.heap.size+1) #[.bool false,.slice none 0 0,.slice none 0 0,.bool false,.slice none 0 0,.slice none 0 0] 28 (noL6 _ _ _ _ _ _ _ _ _ _ _ _ _ _) (by simp))
 replace S:=Lib.hid S
 clear X1 X2
 cases u
 ·rw[if_neg (of_decide_eq_false hu)]
  clear hu
  obtain⟨lo,hlo⟩:∃ lo,lo=minL [p0,p1]:=⟨_,rfl⟩
  obtain⟨hi,hhi⟩:∃ hi,hi=maxL [p0,p1]:=⟨_,rfl⟩
  rw[←hlo,←hhi]
  have hR:Hid (∀ W g A20 n20 c20 D20 m20 d20 A21 n21 c21 D21 m21 d21,Cb W g #[.bool (ng p0.num),.slice A20 n20 c20,.slice D20 m20 d20,.bool (ng p1.num),.slice A21 n21 c21,.slice D21 m21 d21] 26→Rw W (ng p0.num) A20 n20 c20 (limbs p0.num.natAbs) D20 m20 d20 (dn p0) p0→Rw W (ng p1.num) A21 n21 c21 (limbs p1.num.natAbs) D21 m21 d21 (dn p1) p1→Calls Tryz.prog 83 #[.slice (some ⟨g,0,none⟩) 2 2] W (RetV lo hi W)):=Lib.hid fun W g A20 n20 c20 D20 m20 d20 A21 n21 c21 D21 m21 d21 h h0 h1=>by
   rw[hlo,hhi];exact rhull2 _ _ _ _ _ _ _ _ _ _ _ _ _ _ _ _ _ _ _ _ W g _ h h0 h1
  clear hlo hhi
  go_enter Tryz.func26,Tryz.ntmps26
  go_wp2_with fail
  refine (hK.out _ (Rw.of (S.out.r 3 rfl) (S.out.r 2 rfl) k1.out) (Rw.of (S.out.r 1 rfl) (S.out.r 0 rfl) k2.out)).mono ?_
  rintro e w1 ⟨A11,n11,c11,D11,m11,d11,A12,n12,c12,D12,m12,d12,rfl,Q11,Q12,bb⟩
  have T:=(((((S.out.call bb).read Q11.n).read Q11.d).read Q12.n).read Q12.d)
  clear bb S
  have S:=T
  clear T
  obtain⟨c_r0,c_r1,c_r2,c_r3,c_r4,c_r5,f_r0,f_r1,f_r2,f_r3,f_r4,f_r5⟩:=S.cf6 0 rfl
  obtain⟨c_a0,c_a1,c_a2,c_a3,c_a4,c_a5,f_a0,f_a1,f_a2,f_a3,f_a4,f_a5⟩:=S.cf6 1 rfl
  have hz:w.heap.size+1<w1.heap.size:=S.lt 0 rfl
  replace S:=Lib.hid S
  clear hK Q11 Q12
  go_upto_region 2 with fail
  clear c_r0 f_r0 c_r1 f_r1 c_r2 f_r2 c_r3 f_r3 c_r4 f_r4 c_r5 f_r5 c_a0 f_a0 c_a1 f_a1 c_a2 f_a2 c_a3 f_a3 c_a4 f_a4 c_a5 f_a5 hz
  have S:St w _ [(w.heap.size+1,#[.bool false,.slice none 0 0,.slice none 0 0,.bool false,.slice none 0 0,.slice none 0 0],28),(w.heap.size,#[.bool (ng q5.num),.slice A11 n11 c11,.slice D11 m11 d11,.bool (ng q6.num),.slice A12 n12 c12,.slice D12 m12 d12],28)] [(D12,m12,d12,dn q6),(A12,n12,c12,limbs q6.num.natAbs),(D11,m11,d11,dn q5),(A11,n11,c11,limbs q5.num.natAbs),(D2,m2,d2,y2),(A2,n2,c2,x2),(D1,m1,d1,y1),(A1,n1,c1,x1)]:=((((((S.out.set 1 0 (.bool (ng q5.num)) rfl (by nofun)).set 1 1 (.slice A11 n11 c11) rfl (by nofun)).set 1 2 (.slice D11 m11 d11) rfl (by nofun)).set 1 3 (.bool (ng q6.num)) rfl (by nofun)).set 1 4 (.slice A12 n12 c12) rfl (by nofun)).set 1 5 (.slice D12 m12 d12) rfl (by nofun))
  generalize hW2:(World.setCell (World.setCell (World.setCell (World.setCell (World.setCell (World.setCell w1 ⟨w.heap.size,0,none⟩ (.bool (ng q5.num))) ⟨w.heap.size,1,none⟩ (.slice A11 n11 c11)) ⟨w.heap.size,2,none⟩ (.slice D11 m11 d11)) ⟨w.heap.size,3,none⟩ (.bool (ng q6.num))) ⟨w.heap.size,4,none⟩ (.slice A12 n12 c12)) ⟨w.heap.size,5,none⟩ (.slice D12 m12 d12))=w2 at S ⊢
  clear hW2
  replace S:=Lib.hid S
  refine RW.begin (Z:=[⟨10,3,#[.bool false,.slice none 0 0,.slice none 0 0],26⟩,⟨11,4,#[.bool false,.slice none 0 0,.slice none 0 0],26⟩]) (S:=(fun W=>Cb W (w.heap.size) #[.bool (ng q5.num),.slice A11 n11 c11,.slice D11 m11 d11,.bool (ng q6.num),.slice A12 n12 c12,.slice D12 m12 d12] 28)) (by kernel_rfl) ?_ S.out ?_
  ·exact⟨by kernel_rfl,(zis_cons at10 (fun _ _=>by kernel_rfl) (zis_cons at11 (fun _ _=>by kernel_rfl) zis_nil)),by decide,by decide,(nol_cons (noL3 _ _ _ _ _ _ _) (nol_cons (noL3 _ _ _ _ _ _ _) nol_nil)),(fun _ _ h=>h.kb 1 rfl)⟩
  intro hzk
  clear S
  refine RW.t (i:=0) (v:=.pointer (some ⟨w.heap.size,0,none⟩)) (some 7) at0 (hy:=fun _ _=>by kernel_rfl) (h:=?_)
  refine RW.t (i:=1) (v:=.agg #[.bool (ng q5.num),.slice A11 n11 c11,.slice D11 m11 d11]) (some 8) at1 (hy:=fun W hS=>by (have k0:=Cb.cell (i:=0) hS rfl;have k1:=Cb.cell (i:=1) hS rfl;have k2:=Cb.cell (i:=2) hS rfl;clear hS;go_simp)) (h:=?_)
  refine RW.t (i:=2) (v:=.pointer (some ⟨w.heap.size,0,none⟩)) (some 9) at2 (hy:=fun _ _=>by kernel_rfl) (h:=?_)
  refine RW.t (i:=3) (v:=.agg #[.bool (ng q5.num),.slice A11 n11 c11,.slice D11 m11 d11]) (some 10) at3 (hy:=fun W hS=>by (have k0:=Cb.cell (i:=0) hS rfl;have k1:=Cb.cell (i:=1) hS rfl;have k2:=Cb.cell (i:=2) hS rfl;clear hS;go_simp)) (h:=?_)
  refine RW.t (i:=5) (v:=.pointer (some ⟨w.heap.size,3,none⟩)) (some 12) at5 (hy:=fun _ _=>by kernel_rfl) (h:=?_)
  refine RW.t (i:=6) (v:=.agg #[.bool (ng q6.num),.slice A12 n12 c12,.slice D12 m12 d12]) (some 13) at6 (hy:=fun W hS=>by (have k3:=Cb.cell (i:=3) hS rfl;have k4:=Cb.cell (i:=4) hS rfl;have k5:=Cb.cell (i:=5) hS rfl;clear hS;go_simp)) (h:=?_)
  refine RW.t (i:=7) (v:=.pointer (some ⟨w.heap.size,3,none⟩)) (some 14) at7 (hy:=fun _ _=>by kernel_rfl) (h:=?_)
  refine RW.t (i:=8) (v:=.agg #[.bool (ng q6.num),.slice A12 n12 c12,.slice D12 m12 d12]) (some 15) at8 (hy:=fun W hS=>by (have k3:=Cb.cell (i:=3) hS rfl;have k4:=Cb.cell (i:=4) hS rfl;have k5:=Cb.cell (i:=5) hS rfl;clear hS;go_simp)) (h:=?_)
  refine RW.c (i:=4) (args:=#[.agg #[.bool (ng q5.num),.slice A11 n11 c11,.slice D11 m11 d11],.agg #[.bool (ng q5.num),.slice A11 n11 c11,.slice D11 m11 d11]]) (some 11) hzk.out at4 (hx:=fun _=>by kernel_rfl) (h:=fun _ S=>(hM0.out _ _ _ _ _ _ _ _ _ _ _ _ _ ⟨S.r 3 rfl,S.r 2 rfl⟩ ⟨S.r 3 rfl,S.r 2 rfl⟩).mono ?_)
  rintro e w3 ⟨A20,n20,c20,D20,m20,d20,rfl,Q20,bb⟩
  refine⟨bb,_,[(D20,m20,d20,dn p0),(A20,n20,c20,limbs p0.num.natAbs)],rfl,(rd_cons Q20.d (rd_cons Q20.n rd_nil)),?_⟩
  clear bb S Q20
  refine RW.c (i:=9) (args:=#[.agg #[.bool (ng q6.num),.slice A12 n12 c12,.slice D12 m12 d12],.agg #[.bool (ng q6.num),.slice A12 n12 c12,.slice D12 m12 d12]]) (some 16) hzk.out at9 (hx:=fun _=>by kernel_rfl) (h:=fun _ S=>(hM1.out _ _ _ _ _ _ _ _ _ _ _ _ _ ⟨S.r 3 rfl,S.r 2 rfl⟩ ⟨S.r 3 rfl,S.r 2 rfl⟩).mono ?_)
  rintro e w4 ⟨A21,n21,c21,D21,m21,d21,rfl,Q21,bb⟩
  refine⟨bb,_,[(D21,m21,d21,dn p1),(A21,n21,c21,limbs p1.num.natAbs)],rfl,(rd_cons Q21.d (rd_cons Q21.n rd_nil)),?_⟩
  clear bb S Q21
  refine RW.tail hzk.out (by kernel_rfl) ?_
  intro gs w5 hgs hS S
  obtain⟨g_u,g_v,rfl⟩:=len2 hgs
  clear hS hgs hzk
  simp only[mark,fill,List.map,Act.put,List.setIfInBounds_toArray,List.set_cons_zero,List.set_cons_succ]
  replace S:=Lib.hid S
  refine Wk.o (i:=12) at12 (by kernel_rfl) fun K' hK=>?_
  have q12_u0:=St.cl (S.out) 0 0 rfl rfl
  have q12_u1:=St.cl (S.out) 0 1 rfl rfl
  have q12_u2:=St.cl (S.out) 0 2 rfl rfl
  have q12z_u0:=St.f (S.out) 0 0 rfl
  have q12z_u1:=St.f (S.out) 0 1 rfl
  have q12z_u2:=St.f (S.out) 0 2 rfl
  go_simp
  have SN:=(((S.out.set 0 0 (.bool (ng p0.num)) rfl (by nofun)).set 0 1 (.slice A20 n20 c20) rfl (by nofun)).set 0 2 (.slice D20 m20 d20) rfl (by nofun))
  clear S q12_u0 q12_u1 q12_u2 q12z_u0 q12z_u1 q12z_u2
  have S:=SN
  clear SN
  refine hK.out _ _ (S.cb 3 rfl) ?_
  clear hK K'
  replace S:=Lib.hid S
  try simp only[Act.put,List.setIfInBounds_toArray,List.set_cons_zero,List.set_cons_succ]
  refine Wk.o (i:=13) at13 (by kernel_rfl) fun K' hK=>?_
  have q13_v0:=St.cl (S.out) 1 0 rfl rfl
  have q13_v1:=St.cl (S.out) 1 1 rfl rfl
  have q13_v2:=St.cl (S.out) 1 2 rfl rfl
  have q13z_v0:=St.f (S.out) 1 0 rfl
  have q13z_v1:=St.f (S.out) 1 1 rfl
  have q13z_v2:=St.f (S.out) 1 2 rfl
  go_simp
  have SN:=(((S.out.set 1 0 (.bool (ng p1.num)) rfl (by nofun)).set 1 1 (.slice A21 n21 c21) rfl (by nofun)).set 1 2 (.slice D21 m21 d21) rfl (by nofun))
  clear S q13_v0 q13_v1 q13_v2 q13z_v0 q13z_v1 q13z_v2
  have S:=SN
  clear SN
  refine hK.out _ _ (S.cb 3 rfl) ?_
  clear hK K'
  replace S:=Lib.hid S
  try simp only[Act.put,List.setIfInBounds_toArray,List.set_cons_zero,List.set_cons_succ]
  refine Wk.done (by kernel_rfl) ?_
  go_simp
  replace S:=S.out
  have S:St w _ [(g_u,#[.bool (ng p0.num),.slice A20 n20 c20,.slice D20 m20 d20],26),(g_v,#[.bool (ng p1.num),.slice A21 n21 c21,.slice D21 m21 d21],26),(w.heap.size+1,#[.bool false,.slice none 0 0,.slice none 0 0,.bool false,.slice none 0 0,.slice none 0 0],28),(w.heap.size,#[.bool (ng q5.num),.slice A11 n11 c11,.slice D11 m11 d11,.bool (ng q6.num),.slice A12 n12 c12,.slice D12 m12 d12],28)] [(D21,m21,d21,dn p1),(A21,n21,c21,limbs p1.num.natAbs),(D20,m20,d20,dn p0),(A20,n20,c20,limbs p0.num.natAbs),(D12,m12,d12,dn q6),(A12,n12,c12,limbs q6.num.natAbs),(D11,m11,d11,dn q5),(A11,n11,c11,limbs q5.num.natAbs),(D2,m2,d2,y2),(A2,n2,c2,x2),(D1,m1,d1,y1),(A1,n1,c1,x1)]:=S
  generalize hW6:(World.setCell (World.setCell (World.setCell (World.setCell (World.setCell (World.setCell w5 ⟨g_u,0,none⟩ (.bool (ng p0.num))) ⟨g_u,1,none⟩ (.slice A20 n20 c20)) ⟨g_u,2,none⟩ (.slice D20 m20 d20)) ⟨g_v,0,none⟩ (.bool (ng p1.num))) ⟨g_v,1,none⟩ (.slice A21 n21 c21)) ⟨g_v,2,none⟩ (.slice D21 m21 d21))=w6 at S ⊢
  clear hW6
  replace S:=Lib.hid S
  replace S:=S.out
  obtain⟨c_u0,c_u1,c_u2,f_u0,f_u1,f_u2⟩:=S.cf3 0 rfl
  obtain⟨c_v0,c_v1,c_v2,f_v0,f_v1,f_v2⟩:=S.cf3 1 rfl
  obtain⟨c_r0,c_r1,c_r2,c_r3,c_r4,c_r5,f_r0,f_r1,f_r2,f_r3,f_r4,f_r5⟩:=S.cf6 2 rfl
  obtain⟨c_a0,c_a1,c_a2,c_a3,c_a4,c_a5,f_a0,f_a1,f_a2,f_a3,f_a4,f_a5⟩:=S.cf6 3 rfl
  have hz:g_u<w6.heap.size:=S.lt 0 rfl
  replace S:=Lib.hid S
  clear hM0 hM1
  go_wp2_with fail
  refine (hC.out _ _ _ _ _ _ _ _ _ _ _ _ _ ⟨S.out.r 7 rfl,S.out.r 6 rfl⟩ ⟨S.out.r 5 rfl,S.out.r 4 rfl⟩).mono ?_
  rintro e w7 ⟨rfl,bb⟩
  have T:=(S.out.call bb)
  clear bb S c_u0 f_u0 c_u1 f_u1 c_u2 f_u2 c_v0 f_v0 c_v1 f_v1 c_v2 f_v2 c_r0 f_r0 c_r1 f_r1 c_r2 f_r2 c_r3 f_r3 c_r4 f_r4 c_r5 f_r5 c_a0 f_a0 c_a1 f_a1 c_a2 f_a2 c_a3 f_a3 c_a4 f_a4 c_a5 f_a5 hz
  have S:=T
  clear T
  obtain⟨c_u0,c_u1,c_u2,f_u0,f_u1,f_u2⟩:=S.cf3 0 rfl
  obtain⟨c_v0,c_v1,c_v2,f_v0,f_v1,f_v2⟩:=S.cf3 1 rfl
  obtain⟨c_r0,c_r1,c_r2,c_r3,c_r4,c_r5,f_r0,f_r1,f_r2,f_r3,f_r4,f_r5⟩:=S.cf6 2 rfl
  obtain⟨c_a0,c_a1,c_a2,c_a3,c_a4,c_a5,f_a0,f_a1,f_a2,f_a3,f_a4,f_a5⟩:=S.cf6 3 rfl
  have hz:g_u<w7.heap.size:=S.lt 0 rfl
  replace S:=Lib.hid S
  clear hC
  have S:=(S.out.allocAt (w7.heap.size) #[.bool (ng p0.num),.slice A20 n20 c20,.slice D20 m20 d20,.bool (ng p1.num),.slice A21 n21 c21,.slice D21 m21 d21] 26 (noL6 _ _ _ _ _ _ _ _ _ _ _ _ _ _) (by simp))
  replace S:=Lib.hid S
  go_wp2_with fail
  refine (hR.out _ _ _ _ _ _ _ _ _ _ _ _ _ _ (S.out.cb 0 rfl) (RR.w ⟨S.out.r 3 rfl,S.out.r 2 rfl⟩ (t0.out)) (RR.w ⟨S.out.r 1 rfl,S.out.r 0 rfl⟩ (t1.out))).mono ?_
  rintro e w8 ⟨A31,n31,c31,D31,m31,d31,A32,n32,c32,D32,m32,d32,rfl,Q31,Q32,bb⟩
  have T:=(((((S.out.call bb).read Q31.n).read Q31.d).read Q32.n).read Q32.d)
  clear bb S c_u0 f_u0 c_u1 f_u1 c_u2 f_u2 c_v0 f_v0 c_v1 f_v1 c_v2 f_v2 c_r0 f_r0 c_r1 f_r1 c_r2 f_r2 c_r3 f_r3 c_r4 f_r4 c_r5 f_r5 c_a0 f_a0 c_a1 f_a1 c_a2 f_a2 c_a3 f_a3 c_a4 f_a4 c_a5 f_a5 hz
  have S:=T
  clear T
  obtain⟨c_L0,c_L1,c_L2,c_L3,c_L4,c_L5,f_L0,f_L1,f_L2,f_L3,f_L4,f_L5⟩:=S.cf6 0 rfl
  obtain⟨c_u0,c_u1,c_u2,f_u0,f_u1,f_u2⟩:=S.cf3 1 rfl
  obtain⟨c_v0,c_v1,c_v2,f_v0,f_v1,f_v2⟩:=S.cf3 2 rfl
  obtain⟨c_r0,c_r1,c_r2,c_r3,c_r4,c_r5,f_r0,f_r1,f_r2,f_r3,f_r4,f_r5⟩:=S.cf6 3 rfl
  obtain⟨c_a0,c_a1,c_a2,c_a3,c_a4,c_a5,f_a0,f_a1,f_a2,f_a3,f_a4,f_a5⟩:=S.cf6 4 rfl
  have hz:w7.heap.size<w8.heap.size:=S.lt 0 rfl
  replace S:=Lib.hid S
  clear Q31 Q32 hR
  have S:St w _ [(w7.heap.size,#[.bool (ng p0.num),.slice A20 n20 c20,.slice D20 m20 d20,.bool (ng p1.num),.slice A21 n21 c21,.slice D21 m21 d21],26),(g_u,#[.bool (ng p0.num),.slice A20 n20 c20,.slice D20 m20 d20],26),(g_v,#[.bool (ng p1.num),.slice A21 n21 c21,.slice D21 m21 d21],26),(w.heap.size+1,#[.bool (ng lo.num),.slice A31 n31 c31,.slice D31 m31 d31,.bool (ng hi.num),.slice A32 n32 c32,.slice D32 m32 d32],28),(w.heap.size,#[.bool (ng q5.num),.slice A11 n11 c11,.slice D11 m11 d11,.bool (ng q6.num),.slice A12 n12 c12,.slice D12 m12 d12],28)] [(D32,m32,d32,dn hi),(A32,n32,c32,limbs hi.num.natAbs),(D31,m31,d31,dn lo),(A31,n31,c31,limbs lo.num.natAbs),(D21,m21,d21,dn p1),(A21,n21,c21,limbs p1.num.natAbs),(D20,m20,d20,dn p0),(A20,n20,c20,limbs p0.num.natAbs),(D12,m12,d12,dn q6),(A12,n12,c12,limbs q6.num.natAbs),(D11,m11,d11,dn q5),(A11,n11,c11,limbs q5.num.natAbs),(D2,m2,d2,y2),(A2,n2,c2,x2),(D1,m1,d1,y1),(A1,n1,c1,x1)]:=((((((S.out.set 3 0 (.bool (ng lo.num)) rfl (by nofun)).set 3 1 (.slice A31 n31 c31) rfl (by nofun)).set 3 2 (.slice D31 m31 d31) rfl (by nofun)).set 3 3 (.bool (ng hi.num)) rfl (by nofun)).set 3 4 (.slice A32 n32 c32) rfl (by nofun)).set 3 5 (.slice D32 m32 d32) rfl (by nofun))
  replace S:=Lib.hid S
  go_wp2
  refine bodyPost_ret (res_rsqV _ _ (w.heap.size+1) 28 rfl (S.out.bk _ (List.mem_of_getElem? (i:=3) rfl)).1) rfl ?_
  exact⟨_,_,_,_,_,_,_,_,_,_,_,_,rfl,⟨S.out.r 3 rfl,S.out.r 2 rfl⟩,⟨S.out.r 1 rfl,S.out.r 0 rfl⟩,S.out.bel⟩
 ·rw[if_pos (of_decide_eq_true hu)]
  clear hu
  obtain⟨lo,hlo⟩:∃ lo,lo=minL [0,p0,p1]:=⟨_,rfl⟩
  obtain⟨hi,hhi⟩:∃ hi,hi=maxL [0,p0,p1]:=⟨_,rfl⟩
  rw[←hlo,←hhi]
  have hR:Hid (∀ W g A20 n20 c20 D20 m20 d20 A21 n21 c21 D21 m21 d21,Cb W g #[.bool false,.slice none 0 0,.slice none 0 0,.bool (ng p0.num),.slice A20 n20 c20,.slice D20 m20 d20,.bool (ng p1.num),.slice A21 n21 c21,.slice D21 m21 d21] 26→Rw W false none 0 0 [] none 0 0 [] 0→Rw W (ng p0.num) A20 n20 c20 (limbs p0.num.natAbs) D20 m20 d20 (dn p0) p0→Rw W (ng p1.num) A21 n21 c21 (limbs p1.num.natAbs) D21 m21 d21 (dn p1) p1→Calls Tryz.prog 83 #[.slice (some ⟨g,0,none⟩) 3 3] W (RetV lo hi W)):=Lib.hid fun W g A20 n20 c20 D20 m20 d20 A21 n21 c21 D21 m21 d21 h h0 h1 h2=>by
   rw[hlo,hhi];exact rhull3 _ _ _ _ _ _ _ _ _ _ _ _ _ _ _ _ _ _ _ _ _ _ _ _ _ _ _ _ _ _ W g _ h h0 h1 h2
  clear hlo hhi
  go_enter Tryz.func26,Tryz.ntmps26
  go_wp2_with fail
  refine (hK.out _ (Rw.of (S.out.r 3 rfl) (S.out.r 2 rfl) k1.out) (Rw.of (S.out.r 1 rfl) (S.out.r 0 rfl) k2.out)).mono ?_
  rintro e w1 ⟨A11,n11,c11,D11,m11,d11,A12,n12,c12,D12,m12,d12,rfl,Q11,Q12,bb⟩
  have T:=(((((S.out.call bb).read Q11.n).read Q11.d).read Q12.n).read Q12.d)
  clear bb S
  have S:=T
  clear T
  obtain⟨c_r0,c_r1,c_r2,c_r3,c_r4,c_r5,f_r0,f_r1,f_r2,f_r3,f_r4,f_r5⟩:=S.cf6 0 rfl
  obtain⟨c_a0,c_a1,c_a2,c_a3,c_a4,c_a5,f_a0,f_a1,f_a2,f_a3,f_a4,f_a5⟩:=S.cf6 1 rfl
  have hz:w.heap.size+1<w1.heap.size:=S.lt 0 rfl
  replace S:=Lib.hid S
  clear hK Q11 Q12
  go_upto_region 2 with fail
  clear c_r0 f_r0 c_r1 f_r1 c_r2 f_r2 c_r3 f_r3 c_r4 f_r4 c_r5 f_r5 c_a0 f_a0 c_a1 f_a1 c_a2 f_a2 c_a3 f_a3 c_a4 f_a4 c_a5 f_a5 hz
  have S:St w _ [(w.heap.size+1,#[.bool false,.slice none 0 0,.slice none 0 0,.bool false,.slice none 0 0,.slice none 0 0],28),(w.heap.size,#[.bool (ng q5.num),.slice A11 n11 c11,.slice D11 m11 d11,.bool (ng q6.num),.slice A12 n12 c12,.slice D12 m12 d12],28)] [(D12,m12,d12,dn q6),(A12,n12,c12,limbs q6.num.natAbs),(D11,m11,d11,dn q5),(A11,n11,c11,limbs q5.num.natAbs),(D2,m2,d2,y2),(A2,n2,c2,x2),(D1,m1,d1,y1),(A1,n1,c1,x1)]:=((((((S.out.set 1 0 (.bool (ng q5.num)) rfl (by nofun)).set 1 1 (.slice A11 n11 c11) rfl (by nofun)).set 1 2 (.slice D11 m11 d11) rfl (by nofun)).set 1 3 (.bool (ng q6.num)) rfl (by nofun)).set 1 4 (.slice A12 n12 c12) rfl (by nofun)).set 1 5 (.slice D12 m12 d12) rfl (by nofun))
  generalize hW2:(World.setCell (World.setCell (World.setCell (World.setCell (World.setCell (World.setCell w1 ⟨w.heap.size,0,none⟩ (.bool (ng q5.num))) ⟨w.heap.size,1,none⟩ (.slice A11 n11 c11)) ⟨w.heap.size,2,none⟩ (.slice D11 m11 d11)) ⟨w.heap.size,3,none⟩ (.bool (ng q6.num))) ⟨w.heap.size,4,none⟩ (.slice A12 n12 c12)) ⟨w.heap.size,5,none⟩ (.slice D12 m12 d12))=w2 at S ⊢
  clear hW2
  replace S:=Lib.hid S
  refine RW.begin (Z:=[⟨10,3,#[.bool false,.slice none 0 0,.slice none 0 0],26⟩,⟨11,4,#[.bool false,.slice none 0 0,.slice none 0 0],26⟩]) (S:=(fun W=>Cb W (w.heap.size) #[.bool (ng q5.num),.slice A11 n11 c11,.slice D11 m11 d11,.bool (ng q6.num),.slice A12 n12 c12,.slice D12 m12 d12] 28)) (by kernel_rfl) ?_ S.out ?_
  ·exact⟨by kernel_rfl,(zis_cons at10 (fun _ _=>by kernel_rfl) (zis_cons at11 (fun _ _=>by kernel_rfl) zis_nil)),by decide,by decide,(nol_cons (noL3 _ _ _ _ _ _ _) (nol_cons (noL3 _ _ _ _ _ _ _) nol_nil)),(fun _ _ h=>h.kb 1 rfl)⟩
  intro hzk
  clear S
  refine RW.t (i:=0) (v:=.pointer (some ⟨w.heap.size,0,none⟩)) (some 7) at0 (hy:=fun _ _=>by kernel_rfl) (h:=?_)
  refine RW.t (i:=1) (v:=.agg #[.bool (ng q5.num),.slice A11 n11 c11,.slice D11 m11 d11]) (some 8) at1 (hy:=fun W hS=>by (have k0:=Cb.cell (i:=0) hS rfl;have k1:=Cb.cell (i:=1) hS rfl;have k2:=Cb.cell (i:=2) hS rfl;clear hS;go_simp)) (h:=?_)
  refine RW.t (i:=2) (v:=.pointer (some ⟨w.heap.size,0,none⟩)) (some 9) at2 (hy:=fun _ _=>by kernel_rfl) (h:=?_)
  refine RW.t (i:=3) (v:=.agg #[.bool (ng q5.num),.slice A11 n11 c11,.slice D11 m11 d11]) (some 10) at3 (hy:=fun W hS=>by (have k0:=Cb.cell (i:=0) hS rfl;have k1:=Cb.cell (i:=1) hS rfl;have k2:=Cb.cell (i:=2) hS rfl;clear hS;go_simp)) (h:=?_)
  refine RW.t (i:=5) (v:=.pointer (some ⟨w.heap.size,3,none⟩)) (some 12) at5 (hy:=fun _ _=>by kernel_rfl) (h:=?_)
  refine RW.t (i:=6) (v:=.agg #[.bool (ng q6.num),.slice A12 n12 c12,.slice D12 m12 d12]) (some 13) at6 (hy:=fun W hS=>by (have k3:=Cb.cell (i:=3) hS rfl;have k4:=Cb.cell (i:=4) hS rfl;have k5:=Cb.cell (i:=5) hS rfl;clear hS;go_simp)) (h:=?_)
  refine RW.t (i:=7) (v:=.pointer (some ⟨w.heap.size,3,none⟩)) (some 14) at7 (hy:=fun _ _=>by kernel_rfl) (h:=?_)
  refine RW.t (i:=8) (v:=.agg #[.bool (ng q6.num),.slice A12 n12 c12,.slice D12 m12 d12]) (some 15) at8 (hy:=fun W hS=>by (have k3:=Cb.cell (i:=3) hS rfl;have k4:=Cb.cell (i:=4) hS rfl;have k5:=Cb.cell (i:=5) hS rfl;clear hS;go_simp)) (h:=?_)
  refine RW.c (i:=4) (args:=#[.agg #[.bool (ng q5.num),.slice A11 n11 c11,.slice D11 m11 d11],.agg #[.bool (ng q5.num),.slice A11 n11 c11,.slice D11 m11 d11]]) (some 11) hzk.out at4 (hx:=fun _=>by kernel_rfl) (h:=fun _ S=>(hM0.out _ _ _ _ _ _ _ _ _ _ _ _ _ ⟨S.r 3 rfl,S.r 2 rfl⟩ ⟨S.r 3 rfl,S.r 2 rfl⟩).mono ?_)
  rintro e w3 ⟨A20,n20,c20,D20,m20,d20,rfl,Q20,bb⟩
  refine⟨bb,_,[(D20,m20,d20,dn p0),(A20,n20,c20,limbs p0.num.natAbs)],rfl,(rd_cons Q20.d (rd_cons Q20.n rd_nil)),?_⟩
  clear bb S Q20
  refine RW.c (i:=9) (args:=#[.agg #[.bool (ng q6.num),.slice A12 n12 c12,.slice D12 m12 d12],.agg #[.bool (ng q6.num),.slice A12 n12 c12,.slice D12 m12 d12]]) (some 16) hzk.out at9 (hx:=fun _=>by kernel_rfl) (h:=fun _ S=>(hM1.out _ _ _ _ _ _ _ _ _ _ _ _ _ ⟨S.r 3 rfl,S.r 2 rfl⟩ ⟨S.r 3 rfl,S.r 2 rfl⟩).mono ?_)
  rintro e w4 ⟨A21,n21,c21,D21,m21,d21,rfl,Q21,bb⟩
  refine⟨bb,_,[(D21,m21,d21,dn p1),(A21,n21,c21,limbs p1.num.natAbs)],rfl,(rd_cons Q21.d (rd_cons Q21.n rd_nil)),?_⟩
  clear bb S Q21
  refine RW.tail hzk.out (by kernel_rfl) ?_
  intro gs w5 hgs hS S
  obtain⟨g_u,g_v,rfl⟩:=len2 hgs
  clear hS hgs hzk
  simp only[mark,fill,List.map,Act.put,List.setIfInBounds_toArray,List.set_cons_zero,List.set_cons_succ]
  replace S:=Lib.hid S
  refine Wk.o (i:=12) at12 (by kernel_rfl) fun K' hK=>?_
  have q12_u0:=St.cl (S.out) 0 0 rfl rfl
  have q12_u1:=St.cl (S.out) 0 1 rfl rfl
  have q12_u2:=St.cl (S.out) 0 2 rfl rfl
  have q12z_u0:=St.f (S.out) 0 0 rfl
  have q12z_u1:=St.f (S.out) 0 1 rfl
  have q12z_u2:=St.f (S.out) 0 2 rfl
  go_simp
  have SN:=(((S.out.set 0 0 (.bool (ng p0.num)) rfl (by nofun)).set 0 1 (.slice A20 n20 c20) rfl (by nofun)).set 0 2 (.slice D20 m20 d20) rfl (by nofun))
  clear S q12_u0 q12_u1 q12_u2 q12z_u0 q12z_u1 q12z_u2
  have S:=SN
  clear SN
  refine hK.out _ _ (S.cb 3 rfl) ?_
  clear hK K'
  replace S:=Lib.hid S
  try simp only[Act.put,List.setIfInBounds_toArray,List.set_cons_zero,List.set_cons_succ]
  refine Wk.o (i:=13) at13 (by kernel_rfl) fun K' hK=>?_
  have q13_v0:=St.cl (S.out) 1 0 rfl rfl
  have q13_v1:=St.cl (S.out) 1 1 rfl rfl
  have q13_v2:=St.cl (S.out) 1 2 rfl rfl
  have q13z_v0:=St.f (S.out) 1 0 rfl
  have q13z_v1:=St.f (S.out) 1 1 rfl
  have q13z_v2:=St.f (S.out) 1 2 rfl
  go_simp
  have SN:=(((S.out.set 1 0 (.bool (ng p1.num)) rfl (by nofun)).set 1 1 (.slice A21 n21 c21) rfl (by nofun)).set 1 2 (.slice D21 m21 d21) rfl (by nofun))
  clear S q13_v0 q13_v1 q13_v2 q13z_v0 q13z_v1 q13z_v2
  have S:=SN
  clear SN
  refine hK.out _ _ (S.cb 3 rfl) ?_
  clear hK K'
  replace S:=Lib.hid S
  try simp only[Act.put,List.setIfInBounds_toArray,List.set_cons_zero,List.set_cons_succ]
  refine Wk.done (by kernel_rfl) ?_
  go_simp
  replace S:=S.out
  have S:St w _ [(g_u,#[.bool (ng p0.num),.slice A20 n20 c20,.slice D20 m20 d20],26),(g_v,#[.bool (ng p1.num),.slice A21 n21 c21,.slice D21 m21 d21],26),(w.heap.size+1,#[.bool false,.slice none 0 0,.slice none 0 0,.bool false,.slice none 0 0,.slice none 0 0],28),(w.heap.size,#[.bool (ng q5.num),.slice A11 n11 c11,.slice D11 m11 d11,.bool (ng q6.num),.slice A12 n12 c12,.slice D12 m12 d12],28)] [(D21,m21,d21,dn p1),(A21,n21,c21,limbs p1.num.natAbs),(D20,m20,d20,dn p0),(A20,n20,c20,limbs p0.num.natAbs),(D12,m12,d12,dn q6),(A12,n12,c12,limbs q6.num.natAbs),(D11,m11,d11,dn q5),(A11,n11,c11,limbs q5.num.natAbs),(D2,m2,d2,y2),(A2,n2,c2,x2),(D1,m1,d1,y1),(A1,n1,c1,x1)]:=S
  generalize hW6:(World.setCell (World.setCell (World.setCell (World.setCell (World.setCell (World.setCell w5 ⟨g_u,0,none⟩ (.bool (ng p0.num))) ⟨g_u,1,none⟩ (.slice A20 n20 c20)) ⟨g_u,2,none⟩ (.slice D20 m20 d20)) ⟨g_v,0,none⟩ (.bool (ng p1.num))) ⟨g_v,1,none⟩ (.slice A21 n21 c21)) ⟨g_v,2,none⟩ (.slice D21 m21 d21))=w6 at S ⊢
  clear hW6
  replace S:=Lib.hid S
  replace S:=S.out
  obtain⟨c_u0,c_u1,c_u2,f_u0,f_u1,f_u2⟩:=S.cf3 0 rfl
  obtain⟨c_v0,c_v1,c_v2,f_v0,f_v1,f_v2⟩:=S.cf3 1 rfl
  obtain⟨c_r0,c_r1,c_r2,c_r3,c_r4,c_r5,f_r0,f_r1,f_r2,f_r3,f_r4,f_r5⟩:=S.cf6 2 rfl
  obtain⟨c_a0,c_a1,c_a2,c_a3,c_a4,c_a5,f_a0,f_a1,f_a2,f_a3,f_a4,f_a5⟩:=S.cf6 3 rfl
  have hz:g_u<w6.heap.size:=S.lt 0 rfl
  replace S:=Lib.hid S
  clear hM0 hM1
  go_wp2_with fail
  refine (hC.out _ _ _ _ _ _ _ _ _ _ _ _ _ ⟨S.out.r 7 rfl,S.out.r 6 rfl⟩ ⟨S.out.r 5 rfl,S.out.r 4 rfl⟩).mono ?_
  rintro e w7 ⟨rfl,bb⟩
  have T:=(S.out.call bb)
  clear bb S c_u0 f_u0 c_u1 f_u1 c_u2 f_u2 c_v0 f_v0 c_v1 f_v1 c_v2 f_v2 c_r0 f_r0 c_r1 f_r1 c_r2 f_r2 c_r3 f_r3 c_r4 f_r4 c_r5 f_r5 c_a0 f_a0 c_a1 f_a1 c_a2 f_a2 c_a3 f_a3 c_a4 f_a4 c_a5 f_a5 hz
  have S:=T
  clear T
  obtain⟨c_u0,c_u1,c_u2,f_u0,f_u1,f_u2⟩:=S.cf3 0 rfl
  obtain⟨c_v0,c_v1,c_v2,f_v0,f_v1,f_v2⟩:=S.cf3 1 rfl
  obtain⟨c_r0,c_r1,c_r2,c_r3,c_r4,c_r5,f_r0,f_r1,f_r2,f_r3,f_r4,f_r5⟩:=S.cf6 2 rfl
  obtain⟨c_a0,c_a1,c_a2,c_a3,c_a4,c_a5,f_a0,f_a1,f_a2,f_a3,f_a4,f_a5⟩:=S.cf6 3 rfl
  have hz:g_u<w7.heap.size:=S.lt 0 rfl
  replace S:=Lib.hid S
  clear hC
  have S:=(S.out.allocAt (w7.heap.size) #[.bool false,.slice none 0 0,.slice none 0 0,.bool (ng p0.num),.slice A20 n20 c20,.slice D20 m20 d20,.bool (ng p1.num),.slice A21 n21 c21,.slice D21 m21 d21] 26 (noL9 _ _ _ _ _ _ _ _ _ _ _ _ _ _ _ _ _ _ _ _ _) (by simp))
  replace S:=Lib.hid S
  go_wp2_with fail
  refine (hR.out _ _ _ _ _ _ _ _ _ _ _ _ _ _ (S.out.cb 0 rfl) (Rw.zero _) (RR.w ⟨S.out.r 3 rfl,S.out.r 2 rfl⟩ (t0.out)) (RR.w ⟨S.out.r 1 rfl,S.out.r 0 rfl⟩ (t1.out))).mono ?_
  rintro e w8 ⟨A31,n31,c31,D31,m31,d31,A32,n32,c32,D32,m32,d32,rfl,Q31,Q32,bb⟩
  have T:=(((((S.out.call bb).read Q31.n).read Q31.d).read Q32.n).read Q32.d)
  clear bb S c_u0 f_u0 c_u1 f_u1 c_u2 f_u2 c_v0 f_v0 c_v1 f_v1 c_v2 f_v2 c_r0 f_r0 c_r1 f_r1 c_r2 f_r2 c_r3 f_r3 c_r4 f_r4 c_r5 f_r5 c_a0 f_a0 c_a1 f_a1 c_a2 f_a2 c_a3 f_a3 c_a4 f_a4 c_a5 f_a5 hz
  have S:=T
  clear T
  obtain⟨c_L0,c_L1,c_L2,c_L3,c_L4,c_L5,c_L6,c_L7,c_L8,f_L0,f_L1,f_L2,f_L3,f_L4,f_L5,f_L6,f_L7,f_L8⟩:=S.cf9 0 rfl
  obtain⟨c_u0,c_u1,c_u2,f_u0,f_u1,f_u2⟩:=S.cf3 1 rfl
  obtain⟨c_v0,c_v1,c_v2,f_v0,f_v1,f_v2⟩:=S.cf3 2 rfl
  obtain⟨c_r0,c_r1,c_r2,c_r3,c_r4,c_r5,f_r0,f_r1,f_r2,f_r3,f_r4,f_r5⟩:=S.cf6 3 rfl
  obtain⟨c_a0,c_a1,c_a2,c_a3,c_a4,c_a5,f_a0,f_a1,f_a2,f_a3,f_a4,f_a5⟩:=S.cf6 4 rfl
  have hz:w7.heap.size<w8.heap.size:=S.lt 0 rfl
  replace S:=Lib.hid S
  clear Q31 Q32 hR
  have S:St w _ [(w7.heap.size,#[.bool false,.slice none 0 0,.slice none 0 0,.bool (ng p0.num),.slice A20 n20 c20,.slice D20 m20 d20,.bool (ng p1.num),.slice A21 n21 c21,.slice D21 m21 d21],26),(g_u,#[.bool (ng p0.num),.slice A20 n20 c20,.slice D20 m20 d20],26),(g_v,#[.bool (ng p1.num),.slice A21 n21 c21,.slice D21 m21 d21],26),(w.heap.size+1,#[.bool (ng lo.num),.slice A31 n31 c31,.slice D31 m31 d31,.bool (ng hi.num),.slice A32 n32 c32,.slice D32 m32 d32],28),(w.heap.size,#[.bool (ng q5.num),.slice A11 n11 c11,.slice D11 m11 d11,.bool (ng q6.num),.slice A12 n12 c12,.slice D12 m12 d12],28)] [(D32,m32,d32,dn hi),(A32,n32,c32,limbs hi.num.natAbs),(D31,m31,d31,dn lo),(A31,n31,c31,limbs lo.num.natAbs),(D21,m21,d21,dn p1),(A21,n21,c21,limbs p1.num.natAbs),(D20,m20,d20,dn p0),(A20,n20,c20,limbs p0.num.natAbs),(D12,m12,d12,dn q6),(A12,n12,c12,limbs q6.num.natAbs),(D11,m11,d11,dn q5),(A11,n11,c11,limbs q5.num.natAbs),(D2,m2,d2,y2),(A2,n2,c2,x2),(D1,m1,d1,y1),(A1,n1,c1,x1)]:=((((((S.out.set 3 0 (.bool (ng lo.num)) rfl (by nofun)).set 3 1 (.slice A31 n31 c31) rfl (by nofun)).set 3 2 (.slice D31 m31 d31) rfl (by nofun)).set 3 3 (.bool (ng hi.num)) rfl (by nofun)).set 3 4 (.slice A32 n32 c32) rfl (by nofun)).set 3 5 (.slice D32 m32 d32) rfl (by nofun))
  replace S:=Lib.hid S
  go_wp2
  refine bodyPost_ret (res_rsqV _ _ (w.heap.size+1) 28 rfl (S.out.bk _ (List.mem_of_getElem? (i:=3) rfl)).1) rfl ?_
  exact⟨_,_,_,_,_,_,_,_,_,_,_,_,rfl,⟨S.out.r 3 rfl,S.out.r 2 rfl⟩,⟨S.out.r 1 rfl,S.out.r 0 rfl⟩,S.out.bel⟩
theorem res_raddV (W:World) (tmps:Array Value) (g t:Nat) {v0 v1 v2 v3 v4 v5:Value} (ht:tmps.getD 4 undef=.pointer (some ⟨g,0,none⟩)) (h:Cb W g #[v0,v1,v2,v3,v4,v5] t) :
  (results Tryz.f20 tmps).run Tryz.prog W=.ok (.agg #[v0,v1,v2,v3,v4,v5]) W:=by
 have c0:W.cell? ⟨g,0,none⟩=some v0:=h.cell rfl
 have c1:W.cell? ⟨g,1,none⟩=some v1:=h.cell rfl
 have c2:W.cell? ⟨g,2,none⟩=some v2:=h.cell rfl
 have c3:W.cell? ⟨g,3,none⟩=some v3:=h.cell rfl
 have c4:W.cell? ⟨g,4,none⟩=some v4:=h.cell rfl
 have c5:W.cell? ⟨g,5,none⟩=some v5:=h.cell rfl
 have ht':tmps[4]?.getD undef=.pointer (some ⟨g,0,none⟩):=by rw[←ht];simp[Array.getD_eq_getD_getElem?]
 simp[results,Tryz.results20,go_sem,ht',c0,c1,c2,c3,c4,c5]
set_option maxRecDepth 100000 in
set_option maxHeartbeats 8000000 in
theorem raddV_any (b1:Bool) (A1:Option Addr) (n1 c1:Nat) (x1:List Nat) (D1:Option Addr) (m1 d1:Nat) (y1:List Nat) (q1:Rat) (b2:Bool) (A2:Option Addr) (n2 c2:Nat) (x2:List Nat) (D2:Option Addr) (m2 d2:Nat) (y2:List Nat) (q2:Rat) (b3:Bool) (A3:Option Addr) (n3 c3:Nat) (x3:List Nat) (D3:Option Addr) (m3 d3:Nat) (y3:List Nat) (q3:Rat) (b4:Bool) (A4:Option Addr) (n4 c4:Nat) (x4:List Nat) (D4:Option Addr) (m4 d4:Nat) (y4:List Nat) (q4:Rat) (s1:Rs q1 19) (s2:Rs q2 19) (s3:Rs q3 19) (s4:Rs q4 19) (w:World) (X1:Rw w b1 A1 n1 c1 x1 D1 m1 d1 y1 q1) (X2:Rw w b2 A2 n2 c2 x2 D2 m2 d2 y2 q2) (X3:Rw w b3 A3 n3 c3 x3 D3 m3 d3 y3 q3) (X4:Rw w b4 A4 n4 c4 x4 D4 m4 d4 y4 q4):Calls Tryz.prog 20 #[.agg #[.bool b1,.slice A1 n1 c1,.slice D1 m1 d1,.bool b2,.slice A2 n2 c2,.slice D2 m2 d2],.agg #[.bool b3,.slice A3 n3 c3,.slice D3 m3 d3,.bool b4,.slice A4 n4 c4,.slice D4 m4 d4]] w (RetV (klo q1 q2+klo q3 q4) (khi q1 q2+khi q3 q4) w):=by
 obtain⟨s5,s6⟩:=k_rsp s1 s2 (by decide)
 obtain⟨s7,s8⟩:=k_rsp s3 s4 (by decide)
 have hK1:=Lib.hid (fun W h1 h2=>rtakeV_any b1 A1 n1 c1 x1 D1 m1 d1 y1 q1 b2 A2 n2 c2 x2 D2 m2 d2 y2 q2 W h1 h2)
 have hK2:=Lib.hid (fun W h1 h2=>rtakeV_any b3 A3 n3 c3 x3 D3 m3 d3 y3 q3 b4 A4 n4 c4 x4 D4 m4 d4 y4 q4 W h1 h2)
 generalize klo q1 q2=q5 at *
 generalize khi q1 q2=q6 at *
 generalize klo q3 q4=q7 at *
 generalize khi q3 q4=q8 at *
 have hA:Hid (∀ W A0 n0 c0 D0 m0 d0 A1 n1 c1 D1 m1 d1,RR W A0 n0 c0 D0 m0 d0 q5→RR W A1 n1 c1 D1 m1 d1 q7→Calls Tryz.prog 87 #[.agg #[.bool (ng q5.num),.slice A0 n0 c0,.slice D0 m0 d0],.agg #[.bool (ng q7.num),.slice A1 n1 c1,.slice D1 m1 d1]] W (RetR (q5+q7) W)):=Lib.hid fun W A0 n0 c0 D0 m0 d0 A1 n1 c1 D1 m1 d1 X0 X1=>by
  have l0:=X0.lens s5
  have l1:=X1.lens s7
  have:=Fadd_any (ng q5.num) A0 n0 c0 _ D0 m0 d0 _ (ng q7.num) A1 n1 c1 _ D1 m1 d1 _ W X0.n X0.d X1.n X1.d (by omega) (by omega) (by omega) (by omega)
  rwa [rv_z,rv_z] at this
 have hB:Hid (∀ W A0 n0 c0 D0 m0 d0 A1 n1 c1 D1 m1 d1,RR W A0 n0 c0 D0 m0 d0 q6→RR W A1 n1 c1 D1 m1 d1 q8→Calls Tryz.prog 87 #[.agg #[.bool (ng q6.num),.slice A0 n0 c0,.slice D0 m0 d0],.agg #[.bool (ng q8.num),.slice A1 n1 c1,.slice D1 m1 d1]] W (RetR (q6+q8) W)):=Lib.hid fun W A0 n0 c0 D0 m0 d0 A1 n1 c1 D1 m1 d1 X0 X1=>by
  have l0:=X0.lens s6
  have l1:=X1.lens s8
  have:=Fadd_any (ng q6.num) A0 n0 c0 _ D0 m0 d0 _ (ng q8.num) A1 n1 c1 _ D1 m1 d1 _ W X0.n X0.d X1.n X1.d (by omega) (by omega) (by omega) (by omega)
  rwa [rv_z,rv_z] at this
 generalize q5+q7=lo at *
 generalize q6+q8=hi at *
 clear s1 s2 s3 s4 s5 s6 s7 s8
 have k1:=Lib.hid X1.k
 have k2:=Lib.hid X2.k
 have k3:=Lib.hid X3.k
 have k4:=Lib.hid X4.k
 have S:=((((((((((((St.new w).read X1.rn).read X1.rd).read X2.rn).read X2.rd).read X3.rn).read X3.rd).read X4.rn).read X4.rd).allocAt (w.heap.size) #[.bool b1,.slice A1 n1 c1,.slice D1 m1 d1,.bool b2,.slice A2 n2 c2,.slice D2 m2 d2] 28 (noL6 _ _ _ _ _ _ _ _ _ _ _ _ _ _) (by simp)).allocAt (w.heap.size+1) #[.bool b3,.slice A3 n3 c3,.slice D3 m3 d3,.bool b4,.slice A4 n4 c4,.slice D4 m4 d4] 28 (noL6 _ _ _ _ _ _ _ _ _ _ _ _ _ _) (by simp)).allocAt (w.heap.size+1+1) #[.bool false,.slice none 0 0,.slice none 0 0,.bool false,.slice none 0 0,.slice none 0 0] 28 (noL6 _ _ _ _ _ _ _ _ _ _ _ _ _ _) (by simp))
 replace S:=Lib.hid S
 clear X1 X2 X3 X4
 go_enter Tryz.func20,Tryz.ntmps20
 go_upto_region 1 with fail
 have S:=S.out
 generalize hW1:(World.alloc (World.alloc (World.alloc w (.cells #[.bool b1,.slice A1 n1 c1,.slice D1 m1 d1,.bool b2,.slice A2 n2 c2,.slice D2 m2 d2] 28)) (.cells #[.bool b3,.slice A3 n3 c3,.slice D3 m3 d3,.bool b4,.slice A4 n4 c4,.slice D4 m4 d4] 28)) (.cells #[.bool false,.slice none 0 0,.slice none 0 0,.bool false,.slice none 0 0,.slice none 0 0] 28))=w1 at S ⊢
 clear hW1
 replace S:=Lib.hid S
 have d_a0:=St.cl (S.out) 2 0 rfl rfl
 have d_a1:=St.cl (S.out) 2 1 rfl rfl
 have d_a2:=St.cl (S.out) 2 2 rfl rfl
 have d_a3:=St.cl (S.out) 2 3 rfl rfl
 have d_a4:=St.cl (S.out) 2 4 rfl rfl
 have d_a5:=St.cl (S.out) 2 5 rfl rfl
 have d_b0:=St.cl (S.out) 1 0 rfl rfl
 have d_b1:=St.cl (S.out) 1 1 rfl rfl
 have d_b2:=St.cl (S.out) 1 2 rfl rfl
 have d_b3:=St.cl (S.out) 1 3 rfl rfl
 have d_b4:=St.cl (S.out) 1 4 rfl rfl
 have d_b5:=St.cl (S.out) 1 5 rfl rfl
 have dz_a0:=St.f (S.out) 2 0 rfl
 have dz_a1:=St.f (S.out) 2 1 rfl
 have dz_a2:=St.f (S.out) 2 2 rfl
 have dz_a3:=St.f (S.out) 2 3 rfl
 have dz_a4:=St.f (S.out) 2 4 rfl
 have dz_a5:=St.f (S.out) 2 5 rfl
 have dz_b0:=St.f (S.out) 1 0 rfl
 have dz_b1:=St.f (S.out) 1 1 rfl
 have dz_b2:=St.f (S.out) 1 2 rfl
 have dz_b3:=St.f (S.out) 1 3 rfl
 have dz_b4:=St.f (S.out) 1 4 rfl
 have dz_b5:=St.f (S.out) 1 5 rfl
 go_cut [] (fun wx=>∃ A11 n11 c11 D11 m11 d11 A12 n12 c12 D12 m12 d12 A13 n13 c13 D13 m13 d13 A14 n14 c14 D14 m14 d14,St w wx [(w.heap.size+1+1,#[.bool false,.slice none 0 0,.slice none 0 0,.bool false,.slice none 0 0,.slice none 0 0],28),(w.heap.size+1,#[.bool (ng q7.num),.slice A13 n13 c13,.slice D13 m13 d13,.bool (ng q8.num),.slice A14 n14 c14,.slice D14 m14 d14],28),(w.heap.size,#[.bool (ng q5.num),.slice A11 n11 c11,.slice D11 m11 d11,.bool (ng q6.num),.slice A12 n12 c12,.slice D12 m12 d12],28)] [(D14,m14,d14,dn q8),(A14,n14,c14,limbs q8.num.natAbs),(D13,m13,d13,dn q7),(A13,n13,c13,limbs q7.num.natAbs),(D12,m12,d12,dn q6),(A12,n12,c12,limbs q6.num.natAbs),(D11,m11,d11,dn q5),(A11,n11,c11,limbs q5.num.natAbs),(D4,m4,d4,y4),(A4,n4,c4,x4),(D3,m3,d3,y3),(A3,n3,c3,x3),(D2,m2,d2,y2),(A2,n2,c2,x2),(D1,m1,d1,y1),(A1,n1,c1,x1)])
 case first=>
  have SD:=Lib.hid (S.out.drew)
  go_region_with (first
   | (go_at_call_of 82 (Value.agg #[.bool b1,.slice A1 n1 c1,.slice D1 m1 d1,.bool b2,.slice A2 n2 c2,.slice D2 m2 d2]);refine (hK1.out _ (Rw.of (SD.out.r 7 rfl) (SD.out.r 6 rfl) k1.out) (Rw.of (SD.out.r 5 rfl) (SD.out.r 4 rfl) k2.out)).mono ?_;rintro e w2 ⟨A11,n11,c11,D11,m11,d11,A12,n12,c12,D12,m12,d12,rfl,Q11,Q12,bb0⟩;have S0:St w w2 [(w.heap.size+1+1,#[.bool false,.slice none 0 0,.slice none 0 0,.bool false,.slice none 0 0,.slice none 0 0],28),(w.heap.size+1,#[.bool b3,.slice A3 n3 c3,.slice D3 m3 d3,.bool b4,.slice A4 n4 c4,.slice D4 m4 d4],28),(w.heap.size,#[.bool b1,.slice A1 n1 c1,.slice D1 m1 d1,.bool b2,.slice A2 n2 c2,.slice D2 m2 d2],28)] [(D12,m12,d12,dn q6),(A12,n12,c12,limbs q6.num.natAbs),(D11,m11,d11,dn q5),(A11,n11,c11,limbs q5.num.natAbs),(D4,m4,d4,y4),(A4,n4,c4,x4),(D3,m3,d3,y3),(A3,n3,c3,x3),(D2,m2,d2,y2),(A2,n2,c2,x2),(D1,m1,d1,y1),(A1,n1,c1,x1)]:=(((((SD.out.call bb0).read Q11.n).read Q11.d).read Q12.n).read Q12.d);have e0_b0:=St.cl (S0) 1 0 rfl rfl;have e0_b1:=St.cl (S0) 1 1 rfl rfl;have e0_b2:=St.cl (S0) 1 2 rfl rfl;have e0_b3:=St.cl (S0) 1 3 rfl rfl;have e0_b4:=St.cl (S0) 1 4 rfl rfl;have e0_b5:=St.cl (S0) 1 5 rfl rfl)
   | (go_at_call_of 82 (Value.agg #[.bool b3,.slice A3 n3 c3,.slice D3 m3 d3,.bool b4,.slice A4 n4 c4,.slice D4 m4 d4]);refine (hK2.out _ (Rw.of (S0.r 7 rfl) (S0.r 6 rfl) k3.out) (Rw.of (S0.r 5 rfl) (S0.r 4 rfl) k4.out)).mono ?_;rintro e w3 ⟨A13,n13,c13,D13,m13,d13,A14,n14,c14,D14,m14,d14,rfl,Q13,Q14,bb1⟩;have S1:St w w3 [(w.heap.size+1+1,#[.bool false,.slice none 0 0,.slice none 0 0,.bool false,.slice none 0 0,.slice none 0 0],28),(w.heap.size+1,#[.bool b3,.slice A3 n3 c3,.slice D3 m3 d3,.bool b4,.slice A4 n4 c4,.slice D4 m4 d4],28),(w.heap.size,#[.bool b1,.slice A1 n1 c1,.slice D1 m1 d1,.bool b2,.slice A2 n2 c2,.slice D2 m2 d2],28)] [(D14,m14,d14,dn q8),(A14,n14,c14,limbs q8.num.natAbs),(D13,m13,d13,dn q7),(A13,n13,c13,limbs q7.num.natAbs),(D12,m12,d12,dn q6),(A12,n12,c12,limbs q6.num.natAbs),(D11,m11,d11,dn q5),(A11,n11,c11,limbs q5.num.natAbs),(D4,m4,d4,y4),(A4,n4,c4,x4),(D3,m3,d3,y3),(A3,n3,c3,x3),(D2,m2,d2,y2),(A2,n2,c2,x2),(D1,m1,d1,y1),(A1,n1,c1,x1)]:=(((((S0.call bb1).read Q13.n).read Q13.d).read Q14.n).read Q14.d);have e1_a0:=St.cl (S1) 2 0 rfl rfl;have e1_a1:=St.cl (S1) 2 1 rfl rfl;have e1_a2:=St.cl (S1) 2 2 rfl rfl;have e1_a3:=St.cl (S1) 2 3 rfl rfl;have e1_a4:=St.cl (S1) 2 4 rfl rfl;have e1_a5:=St.cl (S1) 2 5 rfl rfl;have e1_b0:=St.cl (S1) 1 0 rfl rfl;have e1_b1:=St.cl (S1) 1 1 rfl rfl;have e1_b2:=St.cl (S1) 1 2 rfl rfl;have e1_b3:=St.cl (S1) 1 3 rfl rfl;have e1_b4:=St.cl (S1) 1 4 rfl rfl;have e1_b5:=St.cl (S1) 1 5 rfl rfl;have e1z_a0:=St.f (S1) 2 0 rfl;have e1z_a1:=St.f (S1) 2 1 rfl;have e1z_a2:=St.f (S1) 2 2 rfl;have e1z_a3:=St.f (S1) 2 3 rfl;have e1z_a4:=St.f (S1) 2 4 rfl;have e1z_a5:=St.f (S1) 2 5 rfl;have e1z_b0:=St.f (S1) 1 0 rfl;have e1z_b1:=St.f (S1) 1 1 rfl;have e1z_b2:=St.f (S1) 1 2 rfl;have e1z_b3:=St.f (S1) 1 3 rfl;have e1z_b4:=St.f (S1) 1 4 rfl;have e1z_b5:=St.f (S1) 1 5 rfl))
  all_goals
   have SE:=Lib.hid (((((((((((((S1.set 2 0 (.bool (ng q5.num)) rfl (by nofun)).set 2 1 (.slice A11 n11 c11) rfl (by nofun)).set 2 2 (.slice D11 m11 d11) rfl (by nofun)).set 2 3 (.bool (ng q6.num)) rfl (by nofun)).set 2 4 (.slice A12 n12 c12) rfl (by nofun)).set 2 5 (.slice D12 m12 d12) rfl (by nofun)).set 1 0 (.bool (ng q7.num)) rfl (by nofun)).set 1 1 (.slice A13 n13 c13) rfl (by nofun)).set 1 2 (.slice D13 m13 d13) rfl (by nofun)).set 1 3 (.bool (ng q8.num)) rfl (by nofun)).set 1 4 (.slice A14 n14 c14) rfl (by nofun)).set 1 5 (.slice D14 m14 d14) rfl (by nofun)))
   clear d_a0 d_a1 d_a2 d_a3 d_a4 d_a5 d_b0 d_b1 d_b2 d_b3 d_b4 d_b5 dz_a0 dz_a1 dz_a2 dz_a3 dz_a4 dz_a5 dz_b0 dz_b1 dz_b2 dz_b3 dz_b4 dz_b5 e0_b0 e0_b1 e0_b2 e0_b3 e0_b4 e0_b5 e1_a0 e1_a1 e1_a2 e1_a3 e1_a4 e1_a5 e1_b0 e1_b1 e1_b2 e1_b3 e1_b4 e1_b5 e1z_a0 e1z_a1 e1z_a2 e1z_a3 e1z_a4 e1z_a5 e1z_b0 e1z_b1 e1z_b2 e1z_b3 e1z_b4 e1z_b5
   go_wp2_with fail
   go_meet
   exact⟨_,_,_,_,_,_,_,_,_,_,_,_,_,_,_,_,_,_,_,_,_,_,_,_,SE.out⟩
 case rest=>
  clear d_a0 d_a1 d_a2 d_a3 d_a4 d_a5 d_b0 d_b1 d_b2 d_b3 d_b4 d_b5 dz_a0 dz_a1 dz_a2 dz_a3 dz_a4 dz_a5 dz_b0 dz_b1 dz_b2 dz_b3 dz_b4 dz_b5
  clear S
  obtain⟨A11,n11,c11,D11,m11,d11,A12,n12,c12,D12,m12,d12,A13,n13,c13,D13,m13,d13,A14,n14,c14,D14,m14,d14,S⟩:=hcut
  obtain⟨c_r0,c_r1,c_r2,c_r3,c_r4,c_r5,f_r0,f_r1,f_r2,f_r3,f_r4,f_r5⟩:=S.cf6 0 rfl
  obtain⟨c_b0,c_b1,c_b2,c_b3,c_b4,c_b5,f_b0,f_b1,f_b2,f_b3,f_b4,f_b5⟩:=S.cf6 1 rfl
  obtain⟨c_a0,c_a1,c_a2,c_a3,c_a4,c_a5,f_a0,f_a1,f_a2,f_a3,f_a4,f_a5⟩:=S.cf6 2 rfl
  have hz:w.heap.size+1+1<wc.heap.size:=S.lt 0 rfl
  replace S:=Lib.hid S
  clear hK1 hK2
  go_upto_region 2 with fail
  clear c_r0 f_r0 c_r1 f_r1 c_r2 f_r2 c_r3 f_r3 c_r4 f_r4 c_r5 f_r5 c_b0 f_b0 c_b1 f_b1 c_b2 f_b2 c_b3 f_b3 c_b4 f_b4 c_b5 f_b5 c_a0 f_a0 c_a1 f_a1 c_a2 f_a2 c_a3 f_a3 c_a4 f_a4 c_a5 f_a5 hz
  refine RW.begin (Z:=[]) (S:=(fun W=>Cb W (w.heap.size) #[.bool (ng q5.num),.slice A11 n11 c11,.slice D11 m11 d11,.bool (ng q6.num),.slice A12 n12 c12,.slice D12 m12 d12] 28∧Cb W (w.heap.size+1) #[.bool (ng q7.num),.slice A13 n13 c13,.slice D13 m13 d13,.bool (ng q8.num),.slice A14 n14 c14,.slice D14 m14 d14] 28)) (by kernel_rfl) ?_ S.out ?_
  ·exact⟨by kernel_rfl,zis_nil,by decide,by decide,nol_nil,(fun _ _ h=>⟨h.kb 2 rfl,h.kb 1 rfl⟩)⟩
  intro hzk
  clear S
  refine RW.t (i:=0) (v:=.pointer (some ⟨w.heap.size,0,none⟩)) (some 9) at0 (hy:=fun _ _=>by kernel_rfl) (h:=?_)
  refine RW.t (i:=1) (v:=.agg #[.bool (ng q5.num),.slice A11 n11 c11,.slice D11 m11 d11]) (some 10) at1 (hy:=fun W hS=>by (have k0:=Cb.cell (i:=0) hS.1 rfl;have k1:=Cb.cell (i:=1) hS.1 rfl;have k2:=Cb.cell (i:=2) hS.1 rfl;clear hS;go_simp)) (h:=?_)
  refine RW.t (i:=2) (v:=.pointer (some ⟨w.heap.size+1,0,none⟩)) (some 11) at2 (hy:=fun _ _=>by kernel_rfl) (h:=?_)
  refine RW.t (i:=3) (v:=.agg #[.bool (ng q7.num),.slice A13 n13 c13,.slice D13 m13 d13]) (some 12) at3 (hy:=fun W hS=>by (have k0:=Cb.cell (i:=0) hS.2 rfl;have k1:=Cb.cell (i:=1) hS.2 rfl;have k2:=Cb.cell (i:=2) hS.2 rfl;clear hS;go_simp)) (h:=?_)
  refine RW.t (i:=5) (v:=.pointer (some ⟨w.heap.size,3,none⟩)) (some 14) at5 (hy:=fun _ _=>by kernel_rfl) (h:=?_)
  refine RW.t (i:=6) (v:=.agg #[.bool (ng q6.num),.slice A12 n12 c12,.slice D12 m12 d12]) (some 15) at6 (hy:=fun W hS=>by (have k3:=Cb.cell (i:=3) hS.1 rfl;have k4:=Cb.cell (i:=4) hS.1 rfl;have k5:=Cb.cell (i:=5) hS.1 rfl;clear hS;go_simp)) (h:=?_)
  refine RW.t (i:=7) (v:=.pointer (some ⟨w.heap.size+1,3,none⟩)) (some 16) at7 (hy:=fun _ _=>by kernel_rfl) (h:=?_)
  refine RW.t (i:=8) (v:=.agg #[.bool (ng q8.num),.slice A14 n14 c14,.slice D14 m14 d14]) (some 17) at8 (hy:=fun W hS=>by (have k3:=Cb.cell (i:=3) hS.2 rfl;have k4:=Cb.cell (i:=4) hS.2 rfl;have k5:=Cb.cell (i:=5) hS.2 rfl;clear hS;go_simp)) (h:=?_)
  refine RW.c (i:=4) (args:=#[.agg #[.bool (ng q5.num),.slice A11 n11 c11,.slice D11 m11 d11],.agg #[.bool (ng q7.num),.slice A13 n13 c13,.slice D13 m13 d13]]) (some 13) hzk.out at4 (hx:=fun _=>by kernel_rfl) (h:=fun _ S=>(hA.out _ _ _ _ _ _ _ _ _ _ _ _ _ ⟨S.r 7 rfl,S.r 6 rfl⟩ ⟨S.r 3 rfl,S.r 2 rfl⟩).mono ?_)
  rintro e w5 ⟨A31,n31,c31,D31,m31,d31,rfl,Q31,bb⟩
  refine⟨bb,_,[(D31,m31,d31,dn lo),(A31,n31,c31,limbs lo.num.natAbs)],rfl,(rd_cons Q31.d (rd_cons Q31.n rd_nil)),?_⟩
  clear bb S Q31
  refine RW.c (i:=9) (args:=#[.agg #[.bool (ng q6.num),.slice A12 n12 c12,.slice D12 m12 d12],.agg #[.bool (ng q8.num),.slice A14 n14 c14,.slice D14 m14 d14]]) (some 18) hzk.out at9 (hx:=fun _=>by kernel_rfl) (h:=fun _ S=>(hB.out _ _ _ _ _ _ _ _ _ _ _ _ _ ⟨S.r 7 rfl,S.r 6 rfl⟩ ⟨S.r 3 rfl,S.r 2 rfl⟩).mono ?_)
  rintro e w6 ⟨A32,n32,c32,D32,m32,d32,rfl,Q32,bb⟩
  refine⟨bb,_,[(D32,m32,d32,dn hi),(A32,n32,c32,limbs hi.num.natAbs)],rfl,(rd_cons Q32.d (rd_cons Q32.n rd_nil)),?_⟩
  clear bb S Q32
  refine RW.t (i:=10) (v:=.agg #[.bool (ng lo.num),.slice A31 n31 c31,.slice D31 m31 d31,.bool (ng hi.num),.slice A32 n32 c32,.slice D32 m32 d32]) (some 19) at10 (hy:=fun _ _=>by kernel_rfl) (h:=?_)
  refine RW.tail hzk.out (by kernel_rfl) ?_
  intro gs w7 hgs hS S
  obtain rfl:=len0 hgs
  clear hS hgs hzk
  simp only[mark,fill,Act.put,List.setIfInBounds_toArray,List.set_cons_zero,List.set_cons_succ]
  replace S:=Lib.hid S
  refine Wk.o (i:=11) at11 (by kernel_rfl) fun K' hK=>?_
  have q11_r0:=St.cl (S.out) 0 0 rfl rfl
  have q11_r1:=St.cl (S.out) 0 1 rfl rfl
  have q11_r2:=St.cl (S.out) 0 2 rfl rfl
  have q11_r3:=St.cl (S.out) 0 3 rfl rfl
  have q11_r4:=St.cl (S.out) 0 4 rfl rfl
  have q11_r5:=St.cl (S.out) 0 5 rfl rfl
  have q11z_r0:=St.f (S.out) 0 0 rfl
  have q11z_r1:=St.f (S.out) 0 1 rfl
  have q11z_r2:=St.f (S.out) 0 2 rfl
  have q11z_r3:=St.f (S.out) 0 3 rfl
  have q11z_r4:=St.f (S.out) 0 4 rfl
  have q11z_r5:=St.f (S.out) 0 5 rfl
  go_simp
  have SN:=((((((S.out.set 0 0 (.bool (ng lo.num)) rfl (by nofun)).set 0 1 (.slice A31 n31 c31) rfl (by nofun)).set 0 2 (.slice D31 m31 d31) rfl (by nofun)).set 0 3 (.bool (ng hi.num)) rfl (by nofun)).set 0 4 (.slice A32 n32 c32) rfl (by nofun)).set 0 5 (.slice D32 m32 d32) rfl (by nofun))
  clear S q11_r0 q11_r1 q11_r2 q11_r3 q11_r4 q11_r5 q11z_r0 q11z_r1 q11z_r2 q11z_r3 q11z_r4 q11z_r5
  have S:=SN
  clear SN
  refine hK.out _ _ ⟨(S.cb 2 rfl),(S.cb 1 rfl)⟩ ?_
  clear hK K'
  replace S:=Lib.hid S
  try simp only[Act.put,List.setIfInBounds_toArray,List.set_cons_zero,List.set_cons_succ]
  refine Wk.done (by kernel_rfl) ?_
  go_simp
  replace S:=S.out
  have S:St w _ [(w.heap.size+1+1,#[.bool (ng lo.num),.slice A31 n31 c31,.slice D31 m31 d31,.bool (ng hi.num),.slice A32 n32 c32,.slice D32 m32 d32],28),(w.heap.size+1,#[.bool (ng q7.num),.slice A13 n13 c13,.slice D13 m13 d13,.bool (ng q8.num),.slice A14 n14 c14,.slice D14 m14 d14],28),(w.heap.size,#[.bool (ng q5.num),.slice A11 n11 c11,.slice D11 m11 d11,.bool (ng q6.num),.slice A12 n12 c12,.slice D12 m12 d12],28)] [(D32,m32,d32,dn hi),(A32,n32,c32,limbs hi.num.natAbs),(D31,m31,d31,dn lo),(A31,n31,c31,limbs lo.num.natAbs),(D14,m14,d14,dn q8),(A14,n14,c14,limbs q8.num.natAbs),(D13,m13,d13,dn q7),(A13,n13,c13,limbs q7.num.natAbs),(D12,m12,d12,dn q6),(A12,n12,c12,limbs q6.num.natAbs),(D11,m11,d11,dn q5),(A11,n11,c11,limbs q5.num.natAbs),(D4,m4,d4,y4),(A4,n4,c4,x4),(D3,m3,d3,y3),(A3,n3,c3,x3),(D2,m2,d2,y2),(A2,n2,c2,x2),(D1,m1,d1,y1),(A1,n1,c1,x1)]:=S
  generalize hW8:(World.setCell (World.setCell (World.setCell (World.setCell (World.setCell (World.setCell w7 ⟨w.heap.size+1+1,0,none⟩ (.bool (ng lo.num))) ⟨w.heap.size+1+1,1,none⟩ (.slice A31 n31 c31)) ⟨w.heap.size+1+1,2,none⟩ (.slice D31 m31 d31)) ⟨w.heap.size+1+1,3,none⟩ (.bool (ng hi.num))) ⟨w.heap.size+1+1,4,none⟩ (.slice A32 n32 c32)) ⟨w.heap.size+1+1,5,none⟩ (.slice D32 m32 d32))=w8 at S ⊢
  clear hW8
  replace S:=Lib.hid S
  replace S:=S.out
  obtain⟨c_r0,c_r1,c_r2,c_r3,c_r4,c_r5,f_r0,f_r1,f_r2,f_r3,f_r4,f_r5⟩:=S.cf6 0 rfl
  obtain⟨c_b0,c_b1,c_b2,c_b3,c_b4,c_b5,f_b0,f_b1,f_b2,f_b3,f_b4,f_b5⟩:=S.cf6 1 rfl
  obtain⟨c_a0,c_a1,c_a2,c_a3,c_a4,c_a5,f_a0,f_a1,f_a2,f_a3,f_a4,f_a5⟩:=S.cf6 2 rfl
  have hz:w.heap.size+1+1<w8.heap.size:=S.lt 0 rfl
  replace S:=Lib.hid S
  have S:=S.out
  replace S:=Lib.hid S
  go_wp2
  refine bodyPost_ret (res_raddV _ _ (w.heap.size+1+1) 28 rfl (S.out.bk _ (List.mem_of_getElem? (i:=0) rfl)).1) rfl ?_
  exact⟨_,_,_,_,_,_,_,_,_,_,_,_,rfl,⟨S.out.r 3 rfl,S.out.r 2 rfl⟩,⟨S.out.r 1 rfl,S.out.r 0 rfl⟩,S.out.bel⟩
theorem res_rsubV (W:World) (tmps:Array Value) (g t:Nat) {v0 v1 v2 v3 v4 v5:Value} (ht:tmps.getD 4 undef=.pointer (some ⟨g,0,none⟩)) (h:Cb W g #[v0,v1,v2,v3,v4,v5] t) :
  (results Tryz.f22 tmps).run Tryz.prog W=.ok (.agg #[v0,v1,v2,v3,v4,v5]) W:=by
 have c0:W.cell? ⟨g,0,none⟩=some v0:=h.cell rfl
 have c1:W.cell? ⟨g,1,none⟩=some v1:=h.cell rfl
 have c2:W.cell? ⟨g,2,none⟩=some v2:=h.cell rfl
 have c3:W.cell? ⟨g,3,none⟩=some v3:=h.cell rfl
 have c4:W.cell? ⟨g,4,none⟩=some v4:=h.cell rfl
 have c5:W.cell? ⟨g,5,none⟩=some v5:=h.cell rfl
 have ht':tmps[4]?.getD undef=.pointer (some ⟨g,0,none⟩):=by rw[←ht];simp[Array.getD_eq_getD_getElem?]
 simp[results,Tryz.results22,go_sem,ht',c0,c1,c2,c3,c4,c5]
set_option maxRecDepth 100000 in
set_option maxHeartbeats 8000000 in
theorem rsubV_any (b1:Bool) (A1:Option Addr) (n1 c1:Nat) (x1:List Nat) (D1:Option Addr) (m1 d1:Nat) (y1:List Nat) (q1:Rat) (b2:Bool) (A2:Option Addr) (n2 c2:Nat) (x2:List Nat) (D2:Option Addr) (m2 d2:Nat) (y2:List Nat) (q2:Rat) (b3:Bool) (A3:Option Addr) (n3 c3:Nat) (x3:List Nat) (D3:Option Addr) (m3 d3:Nat) (y3:List Nat) (q3:Rat) (b4:Bool) (A4:Option Addr) (n4 c4:Nat) (x4:List Nat) (D4:Option Addr) (m4 d4:Nat) (y4:List Nat) (q4:Rat) (s1:Rs q1 19) (s2:Rs q2 19) (s3:Rs q3 19) (s4:Rs q4 19) (w:World) (X1:Rw w b1 A1 n1 c1 x1 D1 m1 d1 y1 q1) (X2:Rw w b2 A2 n2 c2 x2 D2 m2 d2 y2 q2) (X3:Rw w b3 A3 n3 c3 x3 D3 m3 d3 y3 q3) (X4:Rw w b4 A4 n4 c4 x4 D4 m4 d4 y4 q4):Calls Tryz.prog 22 #[.agg #[.bool b1,.slice A1 n1 c1,.slice D1 m1 d1,.bool b2,.slice A2 n2 c2,.slice D2 m2 d2],.agg #[.bool b3,.slice A3 n3 c3,.slice D3 m3 d3,.bool b4,.slice A4 n4 c4,.slice D4 m4 d4]] w (RetV (klo q1 q2-khi q3 q4) (khi q1 q2-klo q3 q4) w):=by
 obtain⟨s5,s6⟩:=k_rsp s1 s2 (by decide)
 obtain⟨s7,s8⟩:=k_rsp s3 s4 (by decide)
 have hK1:=Lib.hid (fun W h1 h2=>rtakeV_any b1 A1 n1 c1 x1 D1 m1 d1 y1 q1 b2 A2 n2 c2 x2 D2 m2 d2 y2 q2 W h1 h2)
 have hK2:=Lib.hid (fun W h1 h2=>rtakeV_any b3 A3 n3 c3 x3 D3 m3 d3 y3 q3 b4 A4 n4 c4 x4 D4 m4 d4 y4 q4 W h1 h2)
 generalize klo q1 q2=q5 at *
 generalize khi q1 q2=q6 at *
 generalize klo q3 q4=q7 at *
 generalize khi q3 q4=q8 at *
 have hA:Hid (∀ W A0 n0 c0 D0 m0 d0 A1 n1 c1 D1 m1 d1,RR W A0 n0 c0 D0 m0 d0 q5→RR W A1 n1 c1 D1 m1 d1 q8→Calls Tryz.prog 89 #[.agg #[.bool (ng q5.num),.slice A0 n0 c0,.slice D0 m0 d0],.agg #[.bool (ng q8.num),.slice A1 n1 c1,.slice D1 m1 d1]] W (RetR (q5-q8) W)):=Lib.hid fun W A0 n0 c0 D0 m0 d0 A1 n1 c1 D1 m1 d1 X0 X1=>by
  have l0:=X0.lens s5
  have l1:=X1.lens s8
  have:=Fsub_any (ng q5.num) A0 n0 c0 _ D0 m0 d0 _ (ng q8.num) A1 n1 c1 _ D1 m1 d1 _ W X0.n X0.d X1.n X1.d (by omega) (by omega) (by omega) (by omega)
  rwa [rv_z,rv_z] at this
 have hB:Hid (∀ W A0 n0 c0 D0 m0 d0 A1 n1 c1 D1 m1 d1,RR W A0 n0 c0 D0 m0 d0 q6→RR W A1 n1 c1 D1 m1 d1 q7→Calls Tryz.prog 89 #[.agg #[.bool (ng q6.num),.slice A0 n0 c0,.slice D0 m0 d0],.agg #[.bool (ng q7.num),.slice A1 n1 c1,.slice D1 m1 d1]] W (RetR (q6-q7) W)):=Lib.hid fun W A0 n0 c0 D0 m0 d0 A1 n1 c1 D1 m1 d1 X0 X1=>by
  have l0:=X0.lens s6
  have l1:=X1.lens s7
  have:=Fsub_any (ng q6.num) A0 n0 c0 _ D0 m0 d0 _ (ng q7.num) A1 n1 c1 _ D1 m1 d1 _ W X0.n X0.d X1.n X1.d (by omega) (by omega) (by omega) (by omega)
  rwa [rv_z,rv_z] at this
 generalize q5-q8=lo at *
 generalize q6-q7=hi at *
 clear s1 s2 s3 s4 s5 s6 s7 s8
 have k1:=Lib.hid X1.k
 have k2:=Lib.hid X2.k
 have k3:=Lib.hid X3.k
 have k4:=Lib.hid X4.k
 have S:=((((((((((((St.new w).read X1.rn).read X1.rd).read X2.rn).read X2.rd).read X3.rn).read X3.rd).read X4.rn).read X4.rd).allocAt (w.heap.size) #[.bool b1,.slice A1 n1 c1,.slice D1 m1 d1,.bool b2,.slice A2 n2 c2,.slice D2 m2 d2] 28 (noL6 _ _ _ _ _ _ _ _ _ _ _ _ _ _) (by simp)).allocAt (w.heap.size+1) #[.bool b3,.slice A3 n3 c3,.slice D3 m3 d3,.bool b4,.slice A4 n4 c4,.slice D4 m4 d4] 28 (noL6 _ _ _ _ _ _ _ _ _ _ _ _ _ _) (by simp)).allocAt (w.heap.size+1+1) #[.bool false,.slice none 0 0,.slice none 0 0,.bool false,.slice none 0 0,.slice none 0 0] 28 (noL6 _ _ _ _ _ _ _ _ _ _ _ _ _ _) (by simp))
 replace S:=Lib.hid S
 clear X1 X2 X3 X4
 go_enter Tryz.func22,Tryz.ntmps22
 go_upto_region 1 with fail
 have S:=S.out
 generalize hW1:(World.alloc (World.alloc (World.alloc w (.cells #[.bool b1,.slice A1 n1 c1,.slice D1 m1 d1,.bool b2,.slice A2 n2 c2,.slice D2 m2 d2] 28)) (.cells #[.bool b3,.slice A3 n3 c3,.slice D3 m3 d3,.bool b4,.slice A4 n4 c4,.slice D4 m4 d4] 28)) (.cells #[.bool false,.slice none 0 0,.slice none 0 0,.bool false,.slice none 0 0,.slice none 0 0] 28))=w1 at S ⊢
 clear hW1
 replace S:=Lib.hid S
 have d_a0:=St.cl (S.out) 2 0 rfl rfl
 have d_a1:=St.cl (S.out) 2 1 rfl rfl
 have d_a2:=St.cl (S.out) 2 2 rfl rfl
 have d_a3:=St.cl (S.out) 2 3 rfl rfl
 have d_a4:=St.cl (S.out) 2 4 rfl rfl
 have d_a5:=St.cl (S.out) 2 5 rfl rfl
 have d_b0:=St.cl (S.out) 1 0 rfl rfl
 have d_b1:=St.cl (S.out) 1 1 rfl rfl
 have d_b2:=St.cl (S.out) 1 2 rfl rfl
 have d_b3:=St.cl (S.out) 1 3 rfl rfl
 have d_b4:=St.cl (S.out) 1 4 rfl rfl
 have d_b5:=St.cl (S.out) 1 5 rfl rfl
 have dz_a0:=St.f (S.out) 2 0 rfl
 have dz_a1:=St.f (S.out) 2 1 rfl
 have dz_a2:=St.f (S.out) 2 2 rfl
 have dz_a3:=St.f (S.out) 2 3 rfl
 have dz_a4:=St.f (S.out) 2 4 rfl
 have dz_a5:=St.f (S.out) 2 5 rfl
 have dz_b0:=St.f (S.out) 1 0 rfl
 have dz_b1:=St.f (S.out) 1 1 rfl
 have dz_b2:=St.f (S.out) 1 2 rfl
 have dz_b3:=St.f (S.out) 1 3 rfl
 have dz_b4:=St.f (S.out) 1 4 rfl
 have dz_b5:=St.f (S.out) 1 5 rfl
 go_cut [] (fun wx=>∃ A11 n11 c11 D11 m11 d11 A12 n12 c12 D12 m12 d12 A13 n13 c13 D13 m13 d13 A14 n14 c14 D14 m14 d14,St w wx [(w.heap.size+1+1,#[.bool false,.slice none 0 0,.slice none 0 0,.bool false,.slice none 0 0,.slice none 0 0],28),(w.heap.size+1,#[.bool (ng q7.num),.slice A13 n13 c13,.slice D13 m13 d13,.bool (ng q8.num),.slice A14 n14 c14,.slice D14 m14 d14],28),(w.heap.size,#[.bool (ng q5.num),.slice A11 n11 c11,.slice D11 m11 d11,.bool (ng q6.num),.slice A12 n12 c12,.slice D12 m12 d12],28)] [(D14,m14,d14,dn q8),(A14,n14,c14,limbs q8.num.natAbs),(D13,m13,d13,dn q7),(A13,n13,c13,limbs q7.num.natAbs),(D12,m12,d12,dn q6),(A12,n12,c12,limbs q6.num.natAbs),(D11,m11,d11,dn q5),(A11,n11,c11,limbs q5.num.natAbs),(D4,m4,d4,y4),(A4,n4,c4,x4),(D3,m3,d3,y3),(A3,n3,c3,x3),(D2,m2,d2,y2),(A2,n2,c2,x2),(D1,m1,d1,y1),(A1,n1,c1,x1)])
 case first=>
  have SD:=Lib.hid (S.out.drew)
  go_region_with (first
   | (go_at_call_of 82 (Value.agg #[.bool b1,.slice A1 n1 c1,.slice D1 m1 d1,.bool b2,.slice A2 n2 c2,.slice D2 m2 d2]);refine (hK1.out _ (Rw.of (SD.out.r 7 rfl) (SD.out.r 6 rfl) k1.out) (Rw.of (SD.out.r 5 rfl) (SD.out.r 4 rfl) k2.out)).mono ?_;rintro e w2 ⟨A11,n11,c11,D11,m11,d11,A12,n12,c12,D12,m12,d12,rfl,Q11,Q12,bb0⟩;have S0:St w w2 [(w.heap.size+1+1,#[.bool false,.slice none 0 0,.slice none 0 0,.bool false,.slice none 0 0,.slice none 0 0],28),(w.heap.size+1,#[.bool b3,.slice A3 n3 c3,.slice D3 m3 d3,.bool b4,.slice A4 n4 c4,.slice D4 m4 d4],28),(w.heap.size,#[.bool b1,.slice A1 n1 c1,.slice D1 m1 d1,.bool b2,.slice A2 n2 c2,.slice D2 m2 d2],28)] [(D12,m12,d12,dn q6),(A12,n12,c12,limbs q6.num.natAbs),(D11,m11,d11,dn q5),(A11,n11,c11,limbs q5.num.natAbs),(D4,m4,d4,y4),(A4,n4,c4,x4),(D3,m3,d3,y3),(A3,n3,c3,x3),(D2,m2,d2,y2),(A2,n2,c2,x2),(D1,m1,d1,y1),(A1,n1,c1,x1)]:=(((((SD.out.call bb0).read Q11.n).read Q11.d).read Q12.n).read Q12.d);have e0_b0:=St.cl (S0) 1 0 rfl rfl;have e0_b1:=St.cl (S0) 1 1 rfl rfl;have e0_b2:=St.cl (S0) 1 2 rfl rfl;have e0_b3:=St.cl (S0) 1 3 rfl rfl;have e0_b4:=St.cl (S0) 1 4 rfl rfl;have e0_b5:=St.cl (S0) 1 5 rfl rfl)
   | (go_at_call_of 82 (Value.agg #[.bool b3,.slice A3 n3 c3,.slice D3 m3 d3,.bool b4,.slice A4 n4 c4,.slice D4 m4 d4]);refine (hK2.out _ (Rw.of (S0.r 7 rfl) (S0.r 6 rfl) k3.out) (Rw.of (S0.r 5 rfl) (S0.r 4 rfl) k4.out)).mono ?_;rintro e w3 ⟨A13,n13,c13,D13,m13,d13,A14,n14,c14,D14,m14,d14,rfl,Q13,Q14,bb1⟩;have S1:St w w3 [(w.heap.size+1+1,#[.bool false,.slice none 0 0,.slice none 0 0,.bool false,.slice none 0 0,.slice none 0 0],28),(w.heap.size+1,#[.bool b3,.slice A3 n3 c3,.slice D3 m3 d3,.bool b4,.slice A4 n4 c4,.slice D4 m4 d4],28),(w.heap.size,#[.bool b1,.slice A1 n1 c1,.slice D1 m1 d1,.bool b2,.slice A2 n2 c2,.slice D2 m2 d2],28)] [(D14,m14,d14,dn q8),(A14,n14,c14,limbs q8.num.natAbs),(D13,m13,d13,dn q7),(A13,n13,c13,limbs q7.num.natAbs),(D12,m12,d12,dn q6),(A12,n12,c12,limbs q6.num.natAbs),(D11,m11,d11,dn q5),(A11,n11,c11,limbs q5.num.natAbs),(D4,m4,d4,y4),(A4,n4,c4,x4),(D3,m3,d3,y3),(A3,n3,c3,x3),(D2,m2,d2,y2),(A2,n2,c2,x2),(D1,m1,d1,y1),(A1,n1,c1,x1)]:=(((((S0.call bb1).read Q13.n).read Q13.d).read Q14.n).read Q14.d);have e1_a0:=St.cl (S1) 2 0 rfl rfl;have e1_a1:=St.cl (S1) 2 1 rfl rfl;have e1_a2:=St.cl (S1) 2 2 rfl rfl;have e1_a3:=St.cl (S1) 2 3 rfl rfl;have e1_a4:=St.cl (S1) 2 4 rfl rfl;have e1_a5:=St.cl (S1) 2 5 rfl rfl;have e1_b0:=St.cl (S1) 1 0 rfl rfl;have e1_b1:=St.cl (S1) 1 1 rfl rfl;have e1_b2:=St.cl (S1) 1 2 rfl rfl;have e1_b3:=St.cl (S1) 1 3 rfl rfl;have e1_b4:=St.cl (S1) 1 4 rfl rfl;have e1_b5:=St.cl (S1) 1 5 rfl rfl;have e1z_a0:=St.f (S1) 2 0 rfl;have e1z_a1:=St.f (S1) 2 1 rfl;have e1z_a2:=St.f (S1) 2 2 rfl;have e1z_a3:=St.f (S1) 2 3 rfl;have e1z_a4:=St.f (S1) 2 4 rfl;have e1z_a5:=St.f (S1) 2 5 rfl;have e1z_b0:=St.f (S1) 1 0 rfl;have e1z_b1:=St.f (S1) 1 1 rfl;have e1z_b2:=St.f (S1) 1 2 rfl;have e1z_b3:=St.f (S1) 1 3 rfl;have e1z_b4:=St.f (S1) 1 4 rfl;have e1z_b5:=St.f (S1) 1 5 rfl))
  all_goals
   have SE:=Lib.hid (((((((((((((S1.set 2 0 (.bool (ng q5.num)) rfl (by nofun)).set 2 1 (.slice A11 n11 c11) rfl (by nofun)).set 2 2 (.slice D11 m11 d11) rfl (by nofun)).set 2 3 (.bool (ng q6.num)) rfl (by nofun)).set 2 4 (.slice A12 n12 c12) rfl (by nofun)).set 2 5 (.slice D12 m12 d12) rfl (by nofun)).set 1 0 (.bool (ng q7.num)) rfl (by nofun)).set 1 1 (.slice A13 n13 c13) rfl (by nofun)).set 1 2 (.slice D13 m13 d13) rfl (by nofun)).set 1 3 (.bool (ng q8.num)) rfl (by nofun)).set 1 4 (.slice A14 n14 c14) rfl (by nofun)).set 1 5 (.slice D14 m14 d14) rfl (by nofun)))
   clear d_a0 d_a1 d_a2 d_a3 d_a4 d_a5 d_b0 d_b1 d_b2 d_b3 d_b4 d_b5 dz_a0 dz_a1 dz_a2 dz_a3 dz_a4 dz_a5 dz_b0 dz_b1 dz_b2 dz_b3 dz_b4 dz_b5 e0_b0 e0_b1 e0_b2 e0_b3 e0_b4 e0_b5 e1_a0 e1_a1 e1_a2 e1_a3 e1_a4 e1_a5 e1_b0 e1_b1 e1_b2 e1_b3 e1_b4 e1_b5 e1z_a0 e1z_a1 e1z_a2 e1z_a3 e1z_a4 e1z_a5 e1z_b0 e1z_b1 e1z_b2 e1z_b3 e1z_b4 e1z_b5
   go_wp2_with fail
   go_meet
   exact⟨_,_,_,_,_,_,_,_,_,_,_,_,_,_,_,_,_,_,_,_,_,_,_,_,SE.out⟩
 case rest=>
  clear d_a0 d_a1 d_a2 d_a3 d_a4 d_a5 d_b0 d_b1 d_b2 d_b3 d_b4 d_b5 dz_a0 dz_a1 dz_a2 dz_a3 dz_a4 dz_a5 dz_b0 dz_b1 dz_b2 dz_b3 dz_b4 dz_b5
  clear S
  obtain⟨A11,n11,c11,D11,m11,d11,A12,n12,c12,D12,m12,d12,A13,n13,c13,D13,m13,d13,A14,n14,c14,D14,m14,d14,S⟩:=hcut
  obtain⟨c_r0,c_r1,c_r2,c_r3,c_r4,c_r5,f_r0,f_r1,f_r2,f_r3,f_r4,f_r5⟩:=S.cf6 0 rfl
  obtain⟨c_b0,c_b1,c_b2,c_b3,c_b4,c_b5,f_b0,f_b1,f_b2,f_b3,f_b4,f_b5⟩:=S.cf6 1 rfl
  obtain⟨c_a0,c_a1,c_a2,c_a3,c_a4,c_a5,f_a0,f_a1,f_a2,f_a3,f_a4,f_a5⟩:=S.cf6 2 rfl
  have hz:w.heap.size+1+1<wc.heap.size:=S.lt 0 rfl
  replace S:=Lib.hid S
  clear hK1 hK2
  go_upto_region 2 with fail
  clear c_r0 f_r0 c_r1 f_r1 c_r2 f_r2 c_r3 f_r3 c_r4 f_r4 c_r5 f_r5 c_b0 f_b0 c_b1 f_b1 c_b2 f_b2 c_b3 f_b3 c_b4 f_b4 c_b5 f_b5 c_a0 f_a0 c_a1 f_a1 c_a2 f_a2 c_a3 f_a3 c_a4 f_a4 c_a5 f_a5 hz
  refine RW.begin (Z:=[]) (S:=(fun W=>Cb W (w.heap.size) #[.bool (ng q5.num),.slice A11 n11 c11,.slice D11 m11 d11,.bool (ng q6.num),.slice A12 n12 c12,.slice D12 m12 d12] 28∧Cb W (w.heap.size+1) #[.bool (ng q7.num),.slice A13 n13 c13,.slice D13 m13 d13,.bool (ng q8.num),.slice A14 n14 c14,.slice D14 m14 d14] 28)) (by kernel_rfl) ?_ S.out ?_
  ·exact⟨by kernel_rfl,zis_nil,by decide,by decide,nol_nil,(fun _ _ h=>⟨h.kb 2 rfl,h.kb 1 rfl⟩)⟩
  intro hzk
  clear S
  refine RW.t (i:=0) (v:=.pointer (some ⟨w.heap.size,0,none⟩)) (some 9) at0 (hy:=fun _ _=>by kernel_rfl) (h:=?_)
  refine RW.t (i:=1) (v:=.agg #[.bool (ng q5.num),.slice A11 n11 c11,.slice D11 m11 d11]) (some 10) at1 (hy:=fun W hS=>by (have k0:=Cb.cell (i:=0) hS.1 rfl;have k1:=Cb.cell (i:=1) hS.1 rfl;have k2:=Cb.cell (i:=2) hS.1 rfl;clear hS;go_simp)) (h:=?_)
  refine RW.t (i:=2) (v:=.pointer (some ⟨w.heap.size+1,3,none⟩)) (some 11) at2 (hy:=fun _ _=>by kernel_rfl) (h:=?_)
  refine RW.t (i:=3) (v:=.agg #[.bool (ng q8.num),.slice A14 n14 c14,.slice D14 m14 d14]) (some 12) at3 (hy:=fun W hS=>by (have k3:=Cb.cell (i:=3) hS.2 rfl;have k4:=Cb.cell (i:=4) hS.2 rfl;have k5:=Cb.cell (i:=5) hS.2 rfl;clear hS;go_simp)) (h:=?_)
  refine RW.t (i:=5) (v:=.pointer (some ⟨w.heap.size,3,none⟩)) (some 14) at5 (hy:=fun _ _=>by kernel_rfl) (h:=?_)
  refine RW.t (i:=6) (v:=.agg #[.bool (ng q6.num),.slice A12 n12 c12,.slice D12 m12 d12]) (some 15) at6 (hy:=fun W hS=>by (have k3:=Cb.cell (i:=3) hS.1 rfl;have k4:=Cb.cell (i:=4) hS.1 rfl;have k5:=Cb.cell (i:=5) hS.1 rfl;clear hS;go_simp)) (h:=?_)
  refine RW.t (i:=7) (v:=.pointer (some ⟨w.heap.size+1,0,none⟩)) (some 16) at7 (hy:=fun _ _=>by kernel_rfl) (h:=?_)
  refine RW.t (i:=8) (v:=.agg #[.bool (ng q7.num),.slice A13 n13 c13,.slice D13 m13 d13]) (some 17) at8 (hy:=fun W hS=>by (have k0:=Cb.cell (i:=0) hS.2 rfl;have k1:=Cb.cell (i:=1) hS.2 rfl;have k2:=Cb.cell (i:=2) hS.2 rfl;clear hS;go_simp)) (h:=?_)
  refine RW.c (i:=4) (args:=#[.agg #[.bool (ng q5.num),.slice A11 n11 c11,.slice D11 m11 d11],.agg #[.bool (ng q8.num),.slice A14 n14 c14,.slice D14 m14 d14]]) (some 13) hzk.out at4 (hx:=fun _=>by kernel_rfl) (h:=fun _ S=>(hA.out _ _ _ _ _ _ _ _ _ _ _ _ _ ⟨S.r 7 rfl,S.r 6 rfl⟩ ⟨S.r 1 rfl,S.r 0 rfl⟩).mono ?_)
  rintro e w5 ⟨A31,n31,c31,D31,m31,d31,rfl,Q31,bb⟩
  refine⟨bb,_,[(D31,m31,d31,dn lo),(A31,n31,c31,limbs lo.num.natAbs)],rfl,(rd_cons Q31.d (rd_cons Q31.n rd_nil)),?_⟩
  clear bb S Q31
  refine RW.c (i:=9) (args:=#[.agg #[.bool (ng q6.num),.slice A12 n12 c12,.slice D12 m12 d12],.agg #[.bool (ng q7.num),.slice A13 n13 c13,.slice D13 m13 d13]]) (some 18) hzk.out at9 (hx:=fun _=>by kernel_rfl) (h:=fun _ S=>(hB.out _ _ _ _ _ _ _ _ _ _ _ _ _ ⟨S.r 7 rfl,S.r 6 rfl⟩ ⟨S.r 5 rfl,S.r 4 rfl⟩).mono ?_)
  rintro e w6 ⟨A32,n32,c32,D32,m32,d32,rfl,Q32,bb⟩
  refine⟨bb,_,[(D32,m32,d32,dn hi),(A32,n32,c32,limbs hi.num.natAbs)],rfl,(rd_cons Q32.d (rd_cons Q32.n rd_nil)),?_⟩
  clear bb S Q32
  refine RW.t (i:=10) (v:=.agg #[.bool (ng lo.num),.slice A31 n31 c31,.slice D31 m31 d31,.bool (ng hi.num),.slice A32 n32 c32,.slice D32 m32 d32]) (some 19) at10 (hy:=fun _ _=>by kernel_rfl) (h:=?_)
  refine RW.tail hzk.out (by kernel_rfl) ?_
  intro gs w7 hgs hS S
  obtain rfl:=len0 hgs
  clear hS hgs hzk
  simp only[mark,fill,Act.put,List.setIfInBounds_toArray,List.set_cons_zero,List.set_cons_succ]
  replace S:=Lib.hid S
  refine Wk.o (i:=11) at11 (by kernel_rfl) fun K' hK=>?_
  have q11_r0:=St.cl (S.out) 0 0 rfl rfl
  have q11_r1:=St.cl (S.out) 0 1 rfl rfl
  have q11_r2:=St.cl (S.out) 0 2 rfl rfl
  have q11_r3:=St.cl (S.out) 0 3 rfl rfl
  have q11_r4:=St.cl (S.out) 0 4 rfl rfl
  have q11_r5:=St.cl (S.out) 0 5 rfl rfl
  have q11z_r0:=St.f (S.out) 0 0 rfl
  have q11z_r1:=St.f (S.out) 0 1 rfl
  have q11z_r2:=St.f (S.out) 0 2 rfl
  have q11z_r3:=St.f (S.out) 0 3 rfl
  have q11z_r4:=St.f (S.out) 0 4 rfl
  have q11z_r5:=St.f (S.out) 0 5 rfl
  go_simp
  have SN:=((((((S.out.set 0 0 (.bool (ng lo.num)) rfl (by nofun)).set 0 1 (.slice A31 n31 c31) rfl (by nofun)).set 0 2 (.slice D31 m31 d31) rfl (by nofun)).set 0 3 (.bool (ng hi.num)) rfl (by nofun)).set 0 4 (.slice A32 n32 c32) rfl (by nofun)).set 0 5 (.slice D32 m32 d32) rfl (by nofun))
  clear S q11_r0 q11_r1 q11_r2 q11_r3 q11_r4 q11_r5 q11z_r0 q11z_r1 q11z_r2 q11z_r3 q11z_r4 q11z_r5
  have S:=SN
  clear SN
  refine hK.out _ _ ⟨(S.cb 2 rfl),(S.cb 1 rfl)⟩ ?_
  clear hK K'
  replace S:=Lib.hid S
  try simp only[Act.put,List.setIfInBounds_toArray,List.set_cons_zero,List.set_cons_succ]
  refine Wk.done (by kernel_rfl) ?_
  go_simp
  replace S:=S.out
  have S:St w _ [(w.heap.size+1+1,#[.bool (ng lo.num),.slice A31 n31 c31,.slice D31 m31 d31,.bool (ng hi.num),.slice A32 n32 c32,.slice D32 m32 d32],28),(w.heap.size+1,#[.bool (ng q7.num),.slice A13 n13 c13,.slice D13 m13 d13,.bool (ng q8.num),.slice A14 n14 c14,.slice D14 m14 d14],28),(w.heap.size,#[.bool (ng q5.num),.slice A11 n11 c11,.slice D11 m11 d11,.bool (ng q6.num),.slice A12 n12 c12,.slice D12 m12 d12],28)] [(D32,m32,d32,dn hi),(A32,n32,c32,limbs hi.num.natAbs),(D31,m31,d31,dn lo),(A31,n31,c31,limbs lo.num.natAbs),(D14,m14,d14,dn q8),(A14,n14,c14,limbs q8.num.natAbs),(D13,m13,d13,dn q7),(A13,n13,c13,limbs q7.num.natAbs),(D12,m12,d12,dn q6),(A12,n12,c12,limbs q6.num.natAbs),(D11,m11,d11,dn q5),(A11,n11,c11,limbs q5.num.natAbs),(D4,m4,d4,y4),(A4,n4,c4,x4),(D3,m3,d3,y3),(A3,n3,c3,x3),(D2,m2,d2,y2),(A2,n2,c2,x2),(D1,m1,d1,y1),(A1,n1,c1,x1)]:=S
  generalize hW8:(World.setCell (World.setCell (World.setCell (World.setCell (World.setCell (World.setCell w7 ⟨w.heap.size+1+1,0,none⟩ (.bool (ng lo.num))) ⟨w.heap.size+1+1,1,none⟩ (.slice A31 n31 c31)) ⟨w.heap.size+1+1,2,none⟩ (.slice D31 m31 d31)) ⟨w.heap.size+1+1,3,none⟩ (.bool (ng hi.num))) ⟨w.heap.size+1+1,4,none⟩ (.slice A32 n32 c32)) ⟨w.heap.size+1+1,5,none⟩ (.slice D32 m32 d32))=w8 at S ⊢
  clear hW8
  replace S:=Lib.hid S
  replace S:=S.out
  obtain⟨c_r0,c_r1,c_r2,c_r3,c_r4,c_r5,f_r0,f_r1,f_r2,f_r3,f_r4,f_r5⟩:=S.cf6 0 rfl
  obtain⟨c_b0,c_b1,c_b2,c_b3,c_b4,c_b5,f_b0,f_b1,f_b2,f_b3,f_b4,f_b5⟩:=S.cf6 1 rfl
  obtain⟨c_a0,c_a1,c_a2,c_a3,c_a4,c_a5,f_a0,f_a1,f_a2,f_a3,f_a4,f_a5⟩:=S.cf6 2 rfl
  have hz:w.heap.size+1+1<w8.heap.size:=S.lt 0 rfl
  replace S:=Lib.hid S
  have S:=S.out
  replace S:=Lib.hid S
  go_wp2
  refine bodyPost_ret (res_rsubV _ _ (w.heap.size+1+1) 28 rfl (S.out.bk _ (List.mem_of_getElem? (i:=0) rfl)).1) rfl ?_
  exact⟨_,_,_,_,_,_,_,_,_,_,_,_,rfl,⟨S.out.r 3 rfl,S.out.r 2 rfl⟩,⟨S.out.r 1 rfl,S.out.r 0 rfl⟩,S.out.bel⟩
end Go.Proofs.YtphckmdnflbloaaGreat
