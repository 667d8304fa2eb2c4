/- light; the reference's Less, Take, Contains on intervals. The law's awake. What the laws share. -/
import Derived.Test.YtphckmdnflbloaaGreatQVaz
import Derived.Test.YtphckmdnflbloaaGreatQMaz
import Derived.Test.YtphckmdnflbloaaGreatQTmz
import Derived.Test.YtphckmdnflbloaaGreatVn
import Derived.Test.YtphckmdnflbloaaGreatQVfz
import Derived.Test.YtphckmdnflbloaaGreatRf
import Derived.Test.YtphckmdnflbloaaGreatQIlz
import Derived.Test.YtphckmdnflbloaaGreatUb
namespace Go.Proofs.YtphckmdnflbloaaGreat
open Go.RowKit RQ
set_option maxRecDepth 100000 in
set_option maxHeartbeats 4000000 in
theorem lightIv_any (b1:Bool) (A1:Option Addr) (n1 c1:Nat) (D1:Option Addr) (m1 d1:Nat) (b2:Bool) (A2:Option Addr) (n2 c2:Nat) (D2:Option Addr) (m2 d2:Nat) (w:World) (h1:n1≤9223372036854775807) (h2:m1≤9223372036854775807) (h3:n2≤9223372036854775807) (h4:m2≤9223372036854775807):Calls Tryz.prog 77 #[.agg #[.bool b1,.slice A1 n1 c1,.slice D1 m1 d1,.bool b2,.slice A2 n2 c2,.slice D2 m2 d2]] w fun e w'=>e=.returned (.bool (lightB n1 m1&&lightB n2 m2))∧Below w.heap.size w w':=by
 have hL1:=fun W=>lightR_any b1 A1 n1 c1 D1 m1 d1 W h1 h2
 have hL2:=Lib.hid (fun W=>lightR_any b2 A2 n2 c2 D2 m2 d2 W h3 h4)
 clear h1 h2 h3 h4
 generalize lightB n1 m1=u1 at *
 generalize lightB n2 m2=u2 at *
 have S:=((St.new w).allocAt (w.heap.size) #[.bool b1,.slice A1 n1 c1,.slice D1 m1 d1,.bool b2,.slice A2 n2 c2,.slice D2 m2 d2] 28 (noL6 _ _ _ _ _ _ _ _ _ _ _ _ _ _) (by simp))
 replace S:=Lib.hid S
 cases u1
 ·replace hL1:=Lib.hid hL1
  go_enter Tryz.func77,Tryz.ntmps77
  go_wp2_with fail
  refine (hL1.out _).mono ?_
  rintro e w1 ⟨rfl,bb⟩
  have T:=(S.out.call bb)
  clear bb S
  have S:=T
  clear T
  obtain⟨c_a0,c_a1,c_a2,c_a3,c_a4,c_a5,f_a0,f_a1,f_a2,f_a3,f_a4,f_a5⟩:=S.cf6 0 rfl
  have hz:w.heap.size<w1.heap.size:=S.lt 0 rfl
  replace S:=Lib.hid S
  clear hL1
  have S:=S.out
  replace S:=Lib.hid S
  go_wp2
  go_ret
  exact⟨rfl,S.out.bel⟩
 ·replace hL1:=Lib.hid hL1
  try rw[Bool.true_and]
  go_enter Tryz.func77,Tryz.ntmps77
  go_wp2_with fail
  refine (hL1.out _).mono ?_
  rintro e w1 ⟨rfl,bb⟩
  have T:=(S.out.call bb)
  clear bb S
  have S:=T
  clear T
  obtain⟨c_a0,c_a1,c_a2,c_a3,c_a4,c_a5,f_a0,f_a1,f_a2,f_a3,f_a4,f_a5⟩:=S.cf6 0 rfl
  have hz:w.heap.size<w1.heap.size:=S.lt 0 rfl
  replace S:=Lib.hid S
  clear hL1
  go_wp2_with fail
  refine (hL2.out _).mono ?_
  rintro e w2 ⟨rfl,bb⟩
  have T:=(S.out.call bb)
  clear bb S c_a0 f_a0 c_a1 f_a1 c_a2 f_a2 c_a3 f_a3 c_a4 f_a4 c_a5 f_a5 hz
  have S:=T
  clear T
  obtain⟨c_a0,c_a1,c_a2,c_a3,c_a4,c_a5,f_a0,f_a1,f_a2,f_a3,f_a4,f_a5⟩:=S.cf6 0 rfl
  have hz:w.heap.size<w2.heap.size:=S.lt 0 rfl
  replace S:=Lib.hid S
  clear hL2
  have S:=S.out
  replace S:=Lib.hid S
  go_wp2
  go_ret
  exact⟨rfl,S.out.bel⟩
set_option maxHeartbeats 4000000 in
theorem light4_any (b1:Bool) (A1:Option Addr) (n1 c1:Nat) (D1:Option Addr) (m1 d1:Nat) (b2:Bool) (A2:Option Addr) (n2 c2:Nat) (D2:Option Addr) (m2 d2:Nat) (w:World) (h1:n1≤9223372036854775807) (h2:m1≤9223372036854775807) (h3:n2≤9223372036854775807) (h4:m2≤9223372036854775807):Calls Tryz.prog 14 #[.agg #[.bool b1,.slice A1 n1 c1,.slice D1 m1 d1,.bool b2,.slice A2 n2 c2,.slice D2 m2 d2]] w fun e w'=>e=.returned (.bool (lightB n1 m1&&lightB n2 m2))∧Below w.heap.size w w':=by
 have hL:=Lib.hid (fun W=>lightIv_any b1 A1 n1 c1 D1 m1 d1 b2 A2 n2 c2 D2 m2 d2 W h1 h2 h3 h4)
 clear h1 h2 h3 h4
 generalize (lightB n1 m1&&lightB n2 m2)=u at *
 have S:=((St.new w).allocAt (w.heap.size) #[.bool b1,.slice A1 n1 c1,.slice D1 m1 d1,.bool b2,.slice A2 n2 c2,.slice D2 m2 d2] 28 (noL6 _ _ _ _ _ _ _ _ _ _ _ _ _ _) (by simp))
 replace S:=Lib.hid S
 go_enter Tryz.func14,Tryz.ntmps14
 go_wp2_with fail
 refine (hL.out _).mono ?_
 rintro e w1 ⟨rfl,bb⟩
 have T:=(S.out.call bb)
 clear bb S
 have S:=T
 clear T
 obtain⟨c_a0,c_a1,c_a2,c_a3,c_a4,c_a5,f_a0,f_a1,f_a2,f_a3,f_a4,f_a5⟩:=S.cf6 0 rfl
 have hz:w.heap.size<w1.heap.size:=S.lt 0 rfl
 replace S:=Lib.hid S
 clear hL
 have S:=S.out
 replace S:=Lib.hid S
 go_wp2
 go_ret
 exact⟨rfl,S.out.bel⟩
theorem compareF (b1:Bool) (A1:Option Addr) (n1 c1:Nat) (x1:List Nat) (D1:Option Addr) (m1 d1:Nat) (y1:List Nat) (q1:Rat) (b2:Bool) (A2:Option Addr) (n2 c2:Nat) (x2:List Nat) (D2:Option Addr) (m2 d2:Nat) (y2:List Nat) (q2:Rat) (w:World) (X1:Rw w b1 A1 n1 c1 x1 D1 m1 d1 y1 q1) (X2:Rw w b2 A2 n2 c2 x2 D2 m2 d2 y2 q2):Calls Tryz.prog 106 #[.agg #[.bool b1,.slice A1 n1 c1,.slice D1 m1 d1],.agg #[.bool b2,.slice A2 n2 c2,.slice D2 m2 d2]] w fun e w'=>e=.returned (.int .i64 (cmpq q1 q2))∧Below w.heap.size w w':=by
 have:=Fcompare_any b1 A1 n1 c1 x1 D1 m1 d1 y1 b2 A2 n2 c2 x2 D2 m2 d2 y2 w X1.rn X1.rd X2.rn X2.rd (by have:=X1.k.2.1;omega) (by have:=X1.k.2.2;omega) (by have:=X2.k.2.1;omega) (by have:=X2.k.2.2;omega)
 rwa [X1.k.1,X2.k.1] at this
theorem takeF (b1:Bool) (A1:Option Addr) (n1 c1:Nat) (x1:List Nat) (D1:Option Addr) (m1 d1:Nat) (y1:List Nat) (q1:Rat) (w:World) (X1:Rw w b1 A1 n1 c1 x1 D1 m1 d1 y1 q1):Calls Tryz.prog 110 #[.agg #[.bool b1,.slice A1 n1 c1,.slice D1 m1 d1]] w (RetR q1 w):=by
 have:=rtakeR_any b1 A1 n1 c1 x1 D1 m1 d1 y1 w X1.rn X1.rd (by have:=X1.k.2.1;omega) (by have:=X1.k.2.2;omega)
 rwa [X1.k.1] at this
theorem not_lt_le (a b:Rat):(!decide (a<b))=decide (b≤a):=by
 rw[←decide_not,decide_eq_decide];exact Rat.not_lt
set_option maxRecDepth 100000 in
set_option maxHeartbeats 4000000 in
theorem less_any (b1:Bool) (A1:Option Addr) (n1 c1:Nat) (x1:List Nat) (D1:Option Addr) (m1 d1:Nat) (y1:List Nat) (q1:Rat) (b2:Bool) (A2:Option Addr) (n2 c2:Nat) (x2:List Nat) (D2:Option Addr) (m2 d2:Nat) (y2:List Nat) (q2:Rat) (w:World) (X1:Rw w b1 A1 n1 c1 x1 D1 m1 d1 y1 q1) (X2:Rw w b2 A2 n2 c2 x2 D2 m2 d2 y2 q2):Calls Tryz.prog 97 #[.agg #[.bool b1,.slice A1 n1 c1,.slice D1 m1 d1],.agg #[.bool b2,.slice A2 n2 c2,.slice D2 m2 d2]] w fun e w'=>e=.returned (.bool (decide (q1<q2)))∧Below w.heap.size w w':=by
 have hC:=Lib.hid (fun W h1 h2=>compareF b1 A1 n1 c1 x1 D1 m1 d1 y1 q1 b2 A2 n2 c2 x2 D2 m2 d2 y2 q2 W h1 h2)
 rw[←cmpq_lt0]
 generalize cmpq q1 q2=cc at *
 have k1:=Lib.hid X1.k
 have k2:=Lib.hid X2.k
 have S:=(((((((St.new w).read X1.rn).read X1.rd).read X2.rn).read X2.rd).allocAt (w.heap.size) #[.bool b1,.slice A1 n1 c1,.slice D1 m1 d1] 26 (noL3 _ _ _ _ _ _ _) (by simp)).allocAt (w.heap.size+1) #[.bool b2,.slice A2 n2 c2,.slice D2 m2 d2] 26 (noL3 _ _ _ _ _ _ _) (by simp))
 replace S:=Lib.hid S
 clear X1 X2
 go_enter Tryz.func97,Tryz.ntmps97
 go_wp2_with fail
 refine (hC.out _ (Rw.of (S.out.r 3 rfl) (S.out.r 2 rfl) k1.out) (Rw.of (S.out.r 1 rfl) (S.out.r 0 rfl) k2.out)).mono ?_
 rintro e w1 ⟨rfl,bb⟩
 have T:=(S.out.call bb)
 clear bb S
 have S:=T
 clear T
 obtain⟨c_y0,c_y1,c_y2,f_y0,f_y1,f_y2⟩:=S.cf3 0 rfl
 obtain⟨c_x0,c_x1,c_x2,f_x0,f_x1,f_x2⟩:=S.cf3 1 rfl
 have hz:w.heap.size+1<w1.heap.size:=S.lt 0 rfl
 replace S:=Lib.hid S
 clear hC
 have S:=S.out
 replace S:=Lib.hid S
 go_wp2
 go_ret
 exact⟨rfl,S.out.bel⟩
theorem res_rtakeV (W:World) (tmps:Array Value) (g t:Nat) {v0 v1 v2 v3 v4 v5:Value} (ht:tmps.getD 2 undef=.pointer (some ⟨g,0,none⟩)) (h:Cb W g #[v0,v1,v2,v3,v4,v5] t) :
  (results Tryz.f82 tmps).run Tryz.prog W=.ok (.agg #[v0,v1,v2,v3,v4,v5]) W:=by
 have c0:W.cell? ⟨g,0,none⟩=some v0:=h.cell rfl
 have c1:W.cell? ⟨g,1,none⟩=some v1:=h.cell rfl
 have c2:W.cell? ⟨g,2,none⟩=some v2:=h.cell rfl
 have c3:W.cell? ⟨g,3,none⟩=some v3:=h.cell rfl
 have c4:W.cell? ⟨g,4,none⟩=some v4:=h.cell rfl
 have c5:W.cell? ⟨g,5,none⟩=some v5:=h.cell rfl
 have ht':tmps[2]?.getD undef=.pointer (some ⟨g,0,none⟩):=by rw[←ht];simp[Array.getD_eq_getD_getElem?]
 simp[results,Tryz.results82,go_sem,ht',c0,c1,c2,c3,c4,c5]
set_option maxRecDepth 100000 in
set_option maxHeartbeats 4000000 in
theorem rtakeV_no (b1:Bool) (A1:Option Addr) (n1 c1:Nat) (x1:List Nat) (D1:Option Addr) (m1 d1:Nat) (y1:List Nat) (q1:Rat) (b2:Bool) (A2:Option Addr) (n2 c2:Nat) (x2:List Nat) (D2:Option Addr) (m2 d2:Nat) (y2:List Nat) (q2:Rat) (h:q2<q1) (w:World) (X1:Rw w b1 A1 n1 c1 x1 D1 m1 d1 y1 q1) (X2:Rw w b2 A2 n2 c2 x2 D2 m2 d2 y2 q2):Calls Tryz.prog 82 #[.agg #[.bool b1,.slice A1 n1 c1,.slice D1 m1 d1,.bool b2,.slice A2 n2 c2,.slice D2 m2 d2]] w (RetV 0 0 w):=by
 have hL:=fun W h1 h2=>less_any b2 A2 n2 c2 x2 D2 m2 d2 y2 q2 b1 A1 n1 c1 x1 D1 m1 d1 y1 q1 W h1 h2
 rw[show decide (q2<q1)=true from decide_eq_true h] at hL
 replace hL:=Lib.hid hL
 clear h
 have k1:=Lib.hid X1.k
 have k2:=Lib.hid X2.k
 have S:=(((((((St.new w).read X1.rn).read X1.rd).read X2.rn).read X2.rd).allocAt (w.heap.size) #[.bool b1,.slice A1 n1 c1,.slice D1 m1 d1,.bool b2,.slice A2 n2 c2,.slice D2 m2 d2] 28 (noL6 _ _ _ _ _ _ _ _ _ _ _ _ _ _) (by simp)).allocAt (w.heap.size+1) #[.bool false,.slice none 0 0,.slice none 0 0,.bool false,.slice none 0 0,.slice none 0 0] 28 (noL6 _ _ _ _ _ _ _ _ _ _ _ _ _ _) (by simp))
 replace S:=Lib.hid S
 clear X1 X2
 go_enter Tryz.func82,Tryz.ntmps82
 go_wp2_with fail
 refine (hL.out _ (Rw.of (S.out.r 1 rfl) (S.out.r 0 rfl) k2.out) (Rw.of (S.out.r 3 rfl) (S.out.r 2 rfl) k1.out)).mono ?_
 rintro e w1 ⟨rfl,bb⟩
 have T:=(S.out.call bb)
 clear bb S
 have S:=T
 clear T
 obtain⟨c_r0,c_r1,c_r2,c_r3,c_r4,c_r5,f_r0,f_r1,f_r2,f_r3,f_r4,f_r5⟩:=S.cf6 0 rfl
 obtain⟨c_a0,c_a1,c_a2,c_a3,c_a4,c_a5,f_a0,f_a1,f_a2,f_a3,f_a4,f_a5⟩:=S.cf6 1 rfl
 have hz:w.heap.size+1<w1.heap.size:=S.lt 0 rfl
 replace S:=Lib.hid S
 clear hL
 have S:St w _ [(w.heap.size+1,#[.bool false,.slice none 0 0,.slice none 0 0,.bool false,.slice none 0 0,.slice none 0 0],28),(w.heap.size,#[.bool b1,.slice A1 n1 c1,.slice D1 m1 d1,.bool b2,.slice A2 n2 c2,.slice D2 m2 d2],28)] [(D2,m2,d2,y2),(A2,n2,c2,x2),(D1,m1,d1,y1),(A1,n1,c1,x1)]:=((((((S.out.set 0 0 (.bool false) rfl (by nofun)).set 0 1 (.slice none 0 0) rfl (by nofun)).set 0 2 (.slice none 0 0) rfl (by nofun)).set 0 3 (.bool false) rfl (by nofun)).set 0 4 (.slice none 0 0) rfl (by nofun)).set 0 5 (.slice none 0 0) rfl (by nofun))
 replace S:=Lib.hid S
 go_wp2
 refine bodyPost_ret (res_rtakeV _ _ (w.heap.size+1) 28 rfl (S.out.bk _ (List.mem_of_getElem? (i:=0) rfl)).1) rfl ?_
 exact⟨_,_,_,_,_,_,_,_,_,_,_,_,rfl,zero_RR _ _ _ _ _,zero_RR _ _ _ _ _,S.out.bel⟩
set_option maxRecDepth 100000 in
set_option maxHeartbeats 4000000 in
theorem rtakeV_yes (b1:Bool) (A1:Option Addr) (n1 c1:Nat) (x1:List Nat) (D1:Option Addr) (m1 d1:Nat) (y1:List Nat) (q1:Rat) (b2:Bool) (A2:Option Addr) (n2 c2:Nat) (x2:List Nat) (D2:Option Addr) (m2 d2:Nat) (y2:List Nat) (q2:Rat) (h:¬ q2<q1) (w:World) (X1:Rw w b1 A1 n1 c1 x1 D1 m1 d1 y1 q1) (X2:Rw w b2 A2 n2 c2 x2 D2 m2 d2 y2 q2):Calls Tryz.prog 82 #[.agg #[.bool b1,.slice A1 n1 c1,.slice D1 m1 d1,.bool b2,.slice A2 n2 c2,.slice D2 m2 d2]] w (RetV q1 q2 w):=by
 have hL:=fun W h1 h2=>less_any b2 A2 n2 c2 x2 D2 m2 d2 y2 q2 b1 A1 n1 c1 x1 D1 m1 d1 y1 q1 W h1 h2
 rw[show decide (q2<q1)=false from decide_eq_false h] at hL
 replace hL:=Lib.hid hL
 clear h
 have k1:=Lib.hid X1.k
 have k2:=Lib.hid X2.k
 have hT1:=Lib.hid (fun W h1=>takeF b1 A1 n1 c1 x1 D1 m1 d1 y1 q1 W h1)
 have hT2:=Lib.hid (fun W h1=>takeF b2 A2 n2 c2 x2 D2 m2 d2 y2 q2 W h1)
 have S:=(((((((St.new w).read X1.rn).read X1.rd).read X2.rn).read X2.rd).allocAt (w.heap.size) #[.bool b1,.slice A1 n1 c1,.slice D1 m1 d1,.bool b2,.slice A2 n2 c2,.slice D2 m2 d2] 28 (noL6 _ _ _ _ _ _ _ _ _ _ _ _ _ _) (by simp)).allocAt (w.heap.size+1) #[.bool false,.slice none 0 0,.slice none 0 0,.bool false,.slice none 0 0,.slice none 0 0] 28 (noL6 _ _ _ _ _ _ _ _ _ _ _ _ _ _) (by simp))
 replace S:=Lib.hid S
 clear X1 X2
 go_enter Tryz.func82,Tryz.ntmps82
 go_wp2_with fail
 refine (hL.out _ (Rw.of (S.out.r 1 rfl) (S.out.r 0 rfl) k2.out) (Rw.of (S.out.r 3 rfl) (S.out.r 2 rfl) k1.out)).mono ?_
 rintro e w1 ⟨rfl,bb⟩
 have T:=(S.out.call bb)
 clear bb S
 have S:=T
 clear T
 obtain⟨c_r0,c_r1,c_r2,c_r3,c_r4,c_r5,f_r0,f_r1,f_r2,f_r3,f_r4,f_r5⟩:=S.cf6 0 rfl
 obtain⟨c_a0,c_a1,c_a2,c_a3,c_a4,c_a5,f_a0,f_a1,f_a2,f_a3,f_a4,f_a5⟩:=S.cf6 1 rfl
 have hz:w.heap.size+1<w1.heap.size:=S.lt 0 rfl
 replace S:=Lib.hid S
 clear hL
 go_upto_region 3 with fail
 clear c_r0 f_r0 c_r1 f_r1 c_r2 f_r2 c_r3 f_r3 c_r4 f_r4 c_r5 f_r5 c_a0 f_a0 c_a1 f_a1 c_a2 f_a2 c_a3 f_a3 c_a4 f_a4 c_a5 f_a5 hz
 refine RW.begin (Z:=[]) (S:=(fun W=>Cb W (w.heap.size) #[.bool b1,.slice A1 n1 c1,.slice D1 m1 d1,.bool b2,.slice A2 n2 c2,.slice D2 m2 d2] 28)) (by kernel_rfl) ?_ S.out ?_
 ·exact⟨by kernel_rfl,zis_nil,by decide,by decide,nol_nil,(fun _ _ h=>h.kb 1 rfl)⟩
 intro hzk
 clear S
 refine RW.t (i:=0) (v:=.pointer (some ⟨w.heap.size,0,none⟩)) (some 9) at0 (hy:=fun _ _=>by kernel_rfl) (h:=?_)
 refine RW.t (i:=1) (v:=.agg #[.bool b1,.slice A1 n1 c1,.slice D1 m1 d1]) (some 10) at1 (hy:=fun W hS=>by (have k0:=Cb.cell (i:=0) hS rfl;have k1:=Cb.cell (i:=1) hS rfl;have k2:=Cb.cell (i:=2) hS rfl;clear hS;go_simp)) (h:=?_)
 refine RW.t (i:=3) (v:=.pointer (some ⟨w.heap.size,3,none⟩)) (some 12) at3 (hy:=fun _ _=>by kernel_rfl) (h:=?_)
 refine RW.t (i:=4) (v:=.agg #[.bool b2,.slice A2 n2 c2,.slice D2 m2 d2]) (some 13) at4 (hy:=fun W hS=>by (have k3:=Cb.cell (i:=3) hS rfl;have k4:=Cb.cell (i:=4) hS rfl;have k5:=Cb.cell (i:=5) hS rfl;clear hS;go_simp)) (h:=?_)
 refine RW.c (i:=2) (args:=#[.agg #[.bool b1,.slice A1 n1 c1,.slice D1 m1 d1]]) (some 11) hzk.out at2 (hx:=fun _=>by kernel_rfl) (h:=fun _ S=>(hT1.out _ (Rw.of (S.r 3 rfl) (S.r 2 rfl) k1.out)).mono ?_)
 rintro e w2 ⟨A11,n11,c11,D11,m11,d11,rfl,Q11,bb⟩
 refine⟨bb,_,[(D11,m11,d11,dn q1),(A11,n11,c11,limbs q1.num.natAbs)],rfl,(rd_cons Q11.d (rd_cons Q11.n rd_nil)),?_⟩
 clear bb S Q11
 refine RW.c (i:=5) (args:=#[.agg #[.bool b2,.slice A2 n2 c2,.slice D2 m2 d2]]) (some 14) hzk.out at5 (hx:=fun _=>by kernel_rfl) (h:=fun _ S=>(hT2.out _ (Rw.of (S.r 3 rfl) (S.r 2 rfl) k2.out)).mono ?_)
 rintro e w3 ⟨A12,n12,c12,D12,m12,d12,rfl,Q12,bb⟩
 refine⟨bb,_,[(D12,m12,d12,dn q2),(A12,n12,c12,limbs q2.num.natAbs)],rfl,(rd_cons Q12.d (rd_cons Q12.n rd_nil)),?_⟩
 clear bb S Q12
 refine RW.t (i:=6) (v:=.agg #[.bool (ng q1.num),.slice A11 n11 c11,.slice D11 m11 d11,.bool (ng q2.num),.slice A12 n12 c12,.slice D12 m12 d12]) (some 15) at6 (hy:=fun _ _=>by kernel_rfl) (h:=?_)
 refine RW.tail hzk.out (by kernel_rfl) ?_
 intro gs w4 hgs hS S
 obtain rfl:=len0 hgs
 clear hS hgs hzk
 simp only[mark,fill,Act.put,List.setIfInBounds_toArray,List.set_cons_zero,List.set_cons_succ]
 replace S:=Lib.hid S
 refine Wk.o (i:=7) at7 (by kernel_rfl) fun K' hK=>?_
 have q7_r0:=St.cl (S.out) 0 0 rfl rfl
 have q7_r1:=St.cl (S.out) 0 1 rfl rfl
 have q7_r2:=St.cl (S.out) 0 2 rfl rfl
 have q7_r3:=St.cl (S.out) 0 3 rfl rfl
 have q7_r4:=St.cl (S.out) 0 4 rfl rfl
 have q7_r5:=St.cl (S.out) 0 5 rfl rfl
 have q7z_r0:=St.f (S.out) 0 0 rfl
 have q7z_r1:=St.f (S.out) 0 1 rfl
 have q7z_r2:=St.f (S.out) 0 2 rfl
 have q7z_r3:=St.f (S.out) 0 3 rfl
 have q7z_r4:=St.f (S.out) 0 4 rfl
 have q7z_r5:=St.f (S.out) 0 5 rfl
 go_simp
 have SN:=((((((S.out.set 0 0 (.bool (ng q1.num)) rfl (by nofun)).set 0 1 (.slice A11 n11 c11) rfl (by nofun)).set 0 2 (.slice D11 m11 d11) rfl (by nofun)).set 0 3 (.bool (ng q2.num)) rfl (by nofun)).set 0 4 (.slice A12 n12 c12) rfl (by nofun)).set 0 5 (.slice D12 m12 d12) rfl (by nofun))
 clear S q7_r0 q7_r1 q7_r2 q7_r3 q7_r4 q7_r5 q7z_r0 q7z_r1 q7z_r2 q7z_r3 q7z_r4 q7z_r5
 have S:=SN
 clear SN
 refine hK.out _ _ (S.cb 1 rfl) ?_
 clear hK K'
 replace S:=Lib.hid S
 try simp only[Act.put,List.setIfInBounds_toArray,List.set_cons_zero,List.set_cons_succ]
 refine Wk.done (by kernel_rfl) ?_
 go_simp
 replace S:=S.out
 have S:St w _ [(w.heap.size+1,#[.bool (ng q1.num),.slice A11 n11 c11,.slice D11 m11 d11,.bool (ng q2.num),.slice A12 n12 c12,.slice D12 m12 d12],28),(w.heap.size,#[.bool b1,.slice A1 n1 c1,.slice D1 m1 d1,.bool b2,.slice A2 n2 c2,.slice D2 m2 d2],28)] [(D12,m12,d12,dn q2),(A12,n12,c12,limbs q2.num.natAbs),(D11,m11,d11,dn q1),(A11,n11,c11,limbs q1.num.natAbs),(D2,m2,d2,y2),(A2,n2,c2,x2),(D1,m1,d1,y1),(A1,n1,c1,x1)]:=S
 generalize hW5:(World.setCell (World.setCell (World.setCell (World.setCell (World.setCell (World.setCell w4 ⟨w.heap.size+1,0,none⟩ (.bool (ng q1.num))) ⟨w.heap.size+1,1,none⟩ (.slice A11 n11 c11)) ⟨w.heap.size+1,2,none⟩ (.slice D11 m11 d11)) ⟨w.heap.size+1,3,none⟩ (.bool (ng q2.num))) ⟨w.heap.size+1,4,none⟩ (.slice A12 n12 c12)) ⟨w.heap.size+1,5,none⟩ (.slice D12 m12 d12))=w5 at S ⊢
 clear hW5
 replace S:=Lib.hid S
 replace S:=S.out
 obtain⟨c_r0,c_r1,c_r2,c_r3,c_r4,c_r5,f_r0,f_r1,f_r2,f_r3,f_r4,f_r5⟩:=S.cf6 0 rfl
 obtain⟨c_a0,c_a1,c_a2,c_a3,c_a4,c_a5,f_a0,f_a1,f_a2,f_a3,f_a4,f_a5⟩:=S.cf6 1 rfl
 have hz:w.heap.size+1<w5.heap.size:=S.lt 0 rfl
 replace S:=Lib.hid S
 have S:=S.out
 replace S:=Lib.hid S
 go_wp2
 refine bodyPost_ret (res_rtakeV _ _ (w.heap.size+1) 28 rfl (S.out.bk _ (List.mem_of_getElem? (i:=0) rfl)).1) rfl ?_
 exact⟨_,_,_,_,_,_,_,_,_,_,_,_,rfl,⟨S.out.r 3 rfl,S.out.r 2 rfl⟩,⟨S.out.r 1 rfl,S.out.r 0 rfl⟩,S.out.bel⟩
theorem rtakeV_any (b1:Bool) (A1:Option Addr) (n1 c1:Nat) (x1:List Nat) (D1:Option Addr) (m1 d1:Nat) (y1:List Nat) (q1:Rat) (b2:Bool) (A2:Option Addr) (n2 c2:Nat) (x2:List Nat) (D2:Option Addr) (m2 d2:Nat) (y2:List Nat) (q2:Rat) (w:World) (X1:Rw w b1 A1 n1 c1 x1 D1 m1 d1 y1 q1) (X2:Rw w b2 A2 n2 c2 x2 D2 m2 d2 y2 q2):Calls Tryz.prog 82 #[.agg #[.bool b1,.slice A1 n1 c1,.slice D1 m1 d1,.bool b2,.slice A2 n2 c2,.slice D2 m2 d2]] w (RetV (klo q1 q2) (khi q1 q2) w):=by
 by_cases h:q2<q1
 ·rw[show klo q1 q2=0 from if_pos h,show khi q1 q2=0 from if_pos h];exact rtakeV_no b1 A1 n1 c1 x1 D1 m1 d1 y1 q1 b2 A2 n2 c2 x2 D2 m2 d2 y2 q2 h w X1 X2
 ·rw[show klo q1 q2=q1 from if_neg h,show khi q1 q2=q2 from if_neg h];exact rtakeV_yes b1 A1 n1 c1 x1 D1 m1 d1 y1 q1 b2 A2 n2 c2 x2 D2 m2 d2 y2 q2 h w X1 X2
set_option maxRecDepth 100000 in
set_option maxHeartbeats 4000000 in
theorem rcontains_any (b1:Bool) (A1:Option Addr) (n1 c1:Nat) (x1:List Nat) (D1:Option Addr) (m1 d1:Nat) (y1:List Nat) (q1:Rat) (b2:Bool) (A2:Option Addr) (n2 c2:Nat) (x2:List Nat) (D2:Option Addr) (m2 d2:Nat) (y2:List Nat) (q2:Rat) (b3:Bool) (A3:Option Addr) (n3 c3:Nat) (x3:List Nat) (D3:Option Addr) (m3 d3:Nat) (y3:List Nat) (q3:Rat) (w:World) (X1:Rw w b1 A1 n1 c1 x1 D1 m1 d1 y1 q1) (X2:Rw w b2 A2 n2 c2 x2 D2 m2 d2 y2 q2) (X3:Rw w b3 A3 n3 c3 x3 D3 m3 d3 y3 q3):Calls Tryz.prog 38 #[.agg #[.bool b1,.slice A1 n1 c1,.slice D1 m1 d1,.bool b2,.slice A2 n2 c2,.slice D2 m2 d2],.agg #[.bool b3,.slice A3 n3 c3,.slice D3 m3 d3]] w fun e w'=>e=.returned (.bool (decide (klo q1 q2≤q3)&&decide (q3≤khi q1 q2)))∧Below w.heap.size w w':=by
 obtain⟨sl,sh⟩:=k_rs X1.rs X2.rs
 have hT:=Lib.hid (fun W h1 h2=>rtakeV_any b1 A1 n1 c1 x1 D1 m1 d1 y1 q1 b2 A2 n2 c2 x2 D2 m2 d2 y2 q2 W h1 h2)
 rw[←not_lt_le,←not_lt_le]
 generalize klo q1 q2=lo at *
 generalize khi q1 q2=hi at *
 have hC1:∀ W A n c D m d,Rw W b3 A3 n3 c3 x3 D3 m3 d3 y3 q3→RR W A n c D m d lo→Calls Tryz.prog 97 #[.agg #[.bool b3,.slice A3 n3 c3,.slice D3 m3 d3],.agg #[.bool (ng lo.num),.slice A n c,.slice D m d]] W fun e w'=>e=.returned (.bool (decide (q3<lo)))∧Below W.heap.size W w':=fun W A n c D m d h1 h2=>less_any _ _ _ _ _ _ _ _ _ _ _ _ _ _ _ _ _ _ _ _ W h1 (RR.w h2 sl)
 have hC2:Hid (∀ W A n c D m d,RR W A n c D m d hi→Rw W b3 A3 n3 c3 x3 D3 m3 d3 y3 q3→Calls Tryz.prog 97 #[.agg #[.bool (ng hi.num),.slice A n c,.slice D m d],.agg #[.bool b3,.slice A3 n3 c3,.slice D3 m3 d3]] W fun e w'=>e=.returned (.bool (decide (hi<q3)))∧Below W.heap.size W w'):=Lib.hid fun W A n c D m d h1 h2=>less_any _ _ _ _ _ _ _ _ _ _ _ _ _ _ _ _ _ _ _ _ W (RR.w h1 sh) h2
 clear sl sh
 generalize decide (q3<lo)=u1 at *
 generalize decide (hi<q3)=u2 at *
 have k1:=Lib.hid X1.k
 have k2:=Lib.hid X2.k
 have k3:=Lib.hid X3.k
 have S:=(((((((((St.new w).read X1.rn).read X1.rd).read X2.rn).read X2.rd).read X3.rn).read X3.rd).allocAt (w.heap.size) #[.bool b1,.slice A1 n1 c1,.slice D1 m1 d1,.bool b2,.slice A2 n2 c2,.slice D2 m2 d2] 28 (noL6 _ _ _ _ _ _ _ _ _ _ _ _ _ _) (by simp)).allocAt (w.heap.size+1) #[.bool b3,.slice A3 n3 c3,.slice D3 m3 d3] 26 (noL3 _ _ _ _ _ _ _) (by simp))
 replace S:=Lib.hid S
 clear X1 X2 X3
 cases u1
 rotate_left
 ·replace hC1:=Lib.hid hC1
  go_enter Tryz.func38,Tryz.ntmps38
  go_wp2_with fail
  refine (hT.out _ (Rw.of (S.out.r 5 rfl) (S.out.r 4 rfl) k1.out) (Rw.of (S.out.r 3 rfl) (S.out.r 2 rfl) k2.out)).mono ?_
  rintro e w1 ⟨A11,n11,c11,D11,m11,d11,A12,n12,c12,D12,m12,d12,rfl,Q11,Q12,bb⟩
  have T:=(((((S.out.call bb).read Q11.n).read Q11.d).read Q12.n).read Q12.d)
  clear bb S
  have S:=T
  clear T
  obtain⟨c_v0,c_v1,c_v2,f_v0,f_v1,f_v2⟩:=S.cf3 0 rfl
  obtain⟨c_a0,c_a1,c_a2,c_a3,c_a4,c_a5,f_a0,f_a1,f_a2,f_a3,f_a4,f_a5⟩:=S.cf6 1 rfl
  have hz:w.heap.size+1<w1.heap.size:=S.lt 0 rfl
  replace S:=Lib.hid S
  clear hT Q11 Q12
  have S:St w _ [(w.heap.size+1,#[.bool b3,.slice A3 n3 c3,.slice D3 m3 d3],26),(w.heap.size,#[.bool (ng lo.num),.slice A11 n11 c11,.slice D11 m11 d11,.bool (ng hi.num),.slice A12 n12 c12,.slice D12 m12 d12],28)] [(D12,m12,d12,dn hi),(A12,n12,c12,limbs hi.num.natAbs),(D11,m11,d11,dn lo),(A11,n11,c11,limbs lo.num.natAbs),(D3,m3,d3,y3),(A3,n3,c3,x3),(D2,m2,d2,y2),(A2,n2,c2,x2),(D1,m1,d1,y1),(A1,n1,c1,x1)]:=((((((S.out.set 1 0 (.bool (ng lo.num)) rfl (by nofun)).set 1 1 (.slice A11 n11 c11) rfl (by nofun)).set 1 2 (.slice D11 m11 d11) rfl (by nofun)).set 1 3 (.bool (ng hi.num)) rfl (by nofun)).set 1 4 (.slice A12 n12 c12) rfl (by nofun)).set 1 5 (.slice D12 m12 d12) rfl (by nofun))
  obtain⟨a_a0,a_a1,a_a2,a_a3,a_a4,a_a5,b_a0,b_a1,b_a2,b_a3,b_a4,b_a5⟩:=S.cf6 1 rfl
  obtain⟨a_v0,a_v1,a_v2,b_v0,b_v1,b_v2⟩:=S.cf3 0 rfl
  replace S:=Lib.hid S
  go_wp2_with fail
  refine (hC1.out _ _ _ _ _ _ _ (Rw.of (S.out.r 5 rfl) (S.out.r 4 rfl) k3.out) ⟨S.out.r 3 rfl,S.out.r 2 rfl⟩).mono ?_
  rintro e w2 ⟨rfl,bb⟩
  have T:=(S.out.call bb)
  clear bb S c_v0 f_v0 c_v1 f_v1 c_v2 f_v2 c_a0 f_a0 c_a1 f_a1 c_a2 f_a2 c_a3 f_a3 c_a4 f_a4 c_a5 f_a5 hz a_a0 b_a0 a_a1 b_a1 a_a2 b_a2 a_a3 b_a3 a_a4 b_a4 a_a5 b_a5 a_v0 b_v0 a_v1 b_v1 a_v2 b_v2
  have S:=T
  clear T
  obtain⟨c_v0,c_v1,c_v2,f_v0,f_v1,f_v2⟩:=S.cf3 0 rfl
  obtain⟨c_a0,c_a1,c_a2,c_a3,c_a4,c_a5,f_a0,f_a1,f_a2,f_a3,f_a4,f_a5⟩:=S.cf6 1 rfl
  have hz:w.heap.size+1<w2.heap.size:=S.lt 0 rfl
  replace S:=Lib.hid S
  clear hC1
  have S:=S.out
  replace S:=Lib.hid S
  go_wp2
  go_ret
  exact⟨rfl,S.out.bel⟩
 ·replace hC1:=Lib.hid hC1
  rw[Bool.not_false,Bool.true_and]
  go_enter Tryz.func38,Tryz.ntmps38
  go_wp2_with fail
  refine (hT.out _ (Rw.of (S.out.r 5 rfl) (S.out.r 4 rfl) k1.out) (Rw.of (S.out.r 3 rfl) (S.out.r 2 rfl) k2.out)).mono ?_
  rintro e w1 ⟨A11,n11,c11,D11,m11,d11,A12,n12,c12,D12,m12,d12,rfl,Q11,Q12,bb⟩
  have T:=(((((S.out.call bb).read Q11.n).read Q11.d).read Q12.n).read Q12.d)
  clear bb S
  have S:=T
  clear T
  obtain⟨c_v0,c_v1,c_v2,f_v0,f_v1,f_v2⟩:=S.cf3 0 rfl
  obtain⟨c_a0,c_a1,c_a2,c_a3,c_a4,c_a5,f_a0,f_a1,f_a2,f_a3,f_a4,f_a5⟩:=S.cf6 1 rfl
  have hz:w.heap.size+1<w1.heap.size:=S.lt 0 rfl
  replace S:=Lib.hid S
  clear hT Q11 Q12
  have S:St w _ [(w.heap.size+1,#[.bool b3,.slice A3 n3 c3,.slice D3 m3 d3],26),(w.heap.size,#[.bool (ng lo.num),.slice A11 n11 c11,.slice D11 m11 d11,.bool (ng hi.num),.slice A12 n12 c12,.slice D12 m12 d12],28)] [(D12,m12,d12,dn hi),(A12,n12,c12,limbs hi.num.natAbs),(D11,m11,d11,dn lo),(A11,n11,c11,limbs lo.num.natAbs),(D3,m3,d3,y3),(A3,n3,c3,x3),(D2,m2,d2,y2),(A2,n2,c2,x2),(D1,m1,d1,y1),(A1,n1,c1,x1)]:=((((((S.out.set 1 0 (.bool (ng lo.num)) rfl (by nofun)).set 1 1 (.slice A11 n11 c11) rfl (by nofun)).set 1 2 (.slice D11 m11 d11) rfl (by nofun)).set 1 3 (.bool (ng hi.num)) rfl (by nofun)).set 1 4 (.slice A12 n12 c12) rfl (by nofun)).set 1 5 (.slice D12 m12 d12) rfl (by nofun))
  obtain⟨a_a0,a_a1,a_a2,a_a3,a_a4,a_a5,b_a0,b_a1,b_a2,b_a3,b_a4,b_a5⟩:=S.cf6 1 rfl
  obtain⟨a_v0,a_v1,a_v2,b_v0,b_v1,b_v2⟩:=S.cf3 0 rfl
  replace S:=Lib.hid S
  go_wp2_with fail
  refine (hC1.out _ _ _ _ _ _ _ (Rw.of (S.out.r 5 rfl) (S.out.r 4 rfl) k3.out) ⟨S.out.r 3 rfl,S.out.r 2 rfl⟩).mono ?_
  rintro e w2 ⟨rfl,bb⟩
  have T:=(S.out.call bb)
  clear bb S c_v0 f_v0 c_v1 f_v1 c_v2 f_v2 c_a0 f_a0 c_a1 f_a1 c_a2 f_a2 c_a3 f_a3 c_a4 f_a4 c_a5 f_a5 hz a_a0 b_a0 a_a1 b_a1 a_a2 b_a2 a_a3 b_a3 a_a4 b_a4 a_a5 b_a5 a_v0 b_v0 a_v1 b_v1 a_v2 b_v2
  have S:=T
  clear T
  obtain⟨c_v0,c_v1,c_v2,f_v0,f_v1,f_v2⟩:=S.cf3 0 rfl
  obtain⟨c_a0,c_a1,c_a2,c_a3,c_a4,c_a5,f_a0,f_a1,f_a2,f_a3,f_a4,f_a5⟩:=S.cf6 1 rfl
  have hz:w.heap.size+1<w2.heap.size:=S.lt 0 rfl
  replace S:=Lib.hid S
  clear hC1
  go_wp2_with fail
  refine (hC2.out _ _ _ _ _ _ _ ⟨S.out.r 1 rfl,S.out.r 0 rfl⟩ (Rw.of (S.out.r 5 rfl) (S.out.r 4 rfl) k3.out)).mono ?_
  rintro e w3 ⟨rfl,bb⟩
  have T:=(S.out.call bb)
  clear bb S c_v0 f_v0 c_v1 f_v1 c_v2 f_v2 c_a0 f_a0 c_a1 f_a1 c_a2 f_a2 c_a3 f_a3 c_a4 f_a4 c_a5 f_a5 hz
  have S:=T
  clear T
  obtain⟨c_v0,c_v1,c_v2,f_v0,f_v1,f_v2⟩:=S.cf3 0 rfl
  obtain⟨c_a0,c_a1,c_a2,c_a3,c_a4,c_a5,f_a0,f_a1,f_a2,f_a3,f_a4,f_a5⟩:=S.cf6 1 rfl
  have hz:w.heap.size+1<w3.heap.size:=S.lt 0 rfl
  replace S:=Lib.hid S
  clear hC2
  have S:=S.out
  replace S:=Lib.hid S
  go_wp2
  go_ret
  exact⟨rfl,S.out.bel⟩
end Go.Proofs.YtphckmdnflbloaaGreat

namespace Go.Proofs.YtphckmdnflbloaaGreat
open Go.RowKit RQ
theorem res_rfrac (W:World) (tmps:Array Value) (g t:Nat) {v0 v1 v2:Value} (ht:tmps.getD 4 undef=.pointer (some ⟨g,0,none⟩)) (h:Cb W g #[v0,v1,v2] t) :
  (results Tryz.f141 tmps).run Tryz.prog W=.ok (.agg #[v0,v1,v2]) W:=by
 have c0:W.cell? ⟨g,0,none⟩=some v0:=h.cell rfl
 have c1:W.cell? ⟨g,1,none⟩=some v1:=h.cell rfl
 have c2:W.cell? ⟨g,2,none⟩=some v2:=h.cell rfl
 have ht':tmps[4]?.getD undef=.pointer (some ⟨g,0,none⟩):=by rw[←ht];simp[Array.getD_eq_getD_getElem?]
 simp[results,Tryz.results141,go_sem,ht',c0,c1,c2]
set_option maxRecDepth 100000 in
set_option maxHeartbeats 4000000 in
theorem rfrac_any (u v:Int) (w:World) (h1 : -9223372036854775808≤u∧u≤9223372036854775807) (h2 : -9223372036854775808≤v∧v≤9223372036854775807) (hv:v≠0):Calls Tryz.prog 141 #[.int .i64 u,.int .i64 v] w (RetR (Rat.divInt u v) w):=by
 have hF1:=Lib.hid (fun W=>rfromInt_any u W h1.1 h1.2)
 have hF2:=Lib.hid (fun W=>rfromInt_any v W h2.1 h2.2)
 have lu:(limbs u.natAbs).length≤2:=limbs_len_le.2 (by omega)
 have lv:(limbs v.natAbs).length≤2:=limbs_len_le.2 (by omega)
 have hO:Hid (∀ W A n c A' n' c',Rd W A n c (limbs u.natAbs)→Rd W A' n' c' (limbs v.natAbs)→Calls Tryz.prog 111 #[.agg #[.bool (ng u),.slice A n c],.agg #[.bool (ng v),.slice A' n' c']] W (RetR (Rat.divInt u v) W)):=Lib.hid fun W A n c A' n' c' q1 q2=>rover_any u v A n c A' n' c' W q1 q2 (by rw[←q1.len];omega) (by rw[←q2.len];omega) hv
 generalize Rat.divInt u v=q at *
 clear lu lv h1 h2 hv
 have S:=((St.new w).allocAt (w.heap.size) #[.bool false,.slice none 0 0,.slice none 0 0] 26 (noL3 _ _ _ _ _ _ _) (by simp))
 replace S:=Lib.hid S
 go_enter Tryz.func141,Tryz.ntmps141
 go_wp2_with fail
 refine (hF1.out _).mono ?_
 rintro e w1 ⟨A1,n1,c1,rfl,Q1,bb⟩
 have T:=((S.out.call bb).read Q1)
 clear bb S
 have S:=T
 clear T
 obtain⟨c_r0,c_r1,c_r2,f_r0,f_r1,f_r2⟩:=S.cf3 0 rfl
 have hz:w.heap.size<w1.heap.size:=S.lt 0 rfl
 replace S:=Lib.hid S
 clear Q1 hF1
 go_wp2_with fail
 refine (hF2.out _).mono ?_
 rintro e w2 ⟨A2,n2,c2,rfl,Q2,bb⟩
 have T:=((S.out.call bb).read Q2)
 clear bb S c_r0 f_r0 c_r1 f_r1 c_r2 f_r2 hz
 have S:=T
 clear T
 obtain⟨c_r0,c_r1,c_r2,f_r0,f_r1,f_r2⟩:=S.cf3 0 rfl
 have hz:w.heap.size<w2.heap.size:=S.lt 0 rfl
 replace S:=Lib.hid S
 clear Q2 hF2
 go_wp2_with fail
 refine (hO.out _ _ _ _ _ _ _ (S.out.r 1 rfl) (S.out.r 0 rfl)).mono ?_
 rintro e w3 ⟨A9,n9,c9,D9,m9,d9,rfl,Q9,bb⟩
 have T:=(((S.out.call bb).read Q9.n).read Q9.d)
 clear bb S c_r0 f_r0 c_r1 f_r1 c_r2 f_r2 hz
 have S:=T
 clear T
 obtain⟨c_r0,c_r1,c_r2,f_r0,f_r1,f_r2⟩:=S.cf3 0 rfl
 have hz:w.heap.size<w3.heap.size:=S.lt 0 rfl
 replace S:=Lib.hid S
 clear Q9 hO
 have S:St w _ [(w.heap.size,#[.bool (ng q.num),.slice A9 n9 c9,.slice D9 m9 d9],26)] [(D9,m9,d9,dn q),(A9,n9,c9,limbs q.num.natAbs),(A2,n2,c2,limbs v.natAbs),(A1,n1,c1,limbs u.natAbs)]:=(((S.out.set 0 0 (.bool (ng q.num)) rfl (by nofun)).set 0 1 (.slice A9 n9 c9) rfl (by nofun)).set 0 2 (.slice D9 m9 d9) rfl (by nofun))
 replace S:=Lib.hid S
 go_wp2
 refine bodyPost_ret (res_rfrac _ _ (w.heap.size) 26 rfl (S.out.bk _ (List.mem_of_getElem? (i:=0) rfl)).1) rfl ?_
 exact⟨_,_,_,_,_,_,rfl,⟨S.out.r 1 rfl,S.out.r 0 rfl⟩,S.out.bel⟩
theorem res_of (W:World) (tmps:Array Value) (g t:Nat) {v0 v1 v2 v3 v4 v5:Value} (ht:tmps.getD 8 undef=.pointer (some ⟨g,0,none⟩)) (h:Cb W g #[v0,v1,v2,v3,v4,v5] t) :
  (results Tryz.f78 tmps).run Tryz.prog W=.ok (.agg #[v0,v1,v2,v3,v4,v5]) W:=by
 have c0:W.cell? ⟨g,0,none⟩=some v0:=h.cell rfl
 have c1:W.cell? ⟨g,1,none⟩=some v1:=h.cell rfl
 have c2:W.cell? ⟨g,2,none⟩=some v2:=h.cell rfl
 have c3:W.cell? ⟨g,3,none⟩=some v3:=h.cell rfl
 have c4:W.cell? ⟨g,4,none⟩=some v4:=h.cell rfl
 have c5:W.cell? ⟨g,5,none⟩=some v5:=h.cell rfl
 have ht':tmps[8]?.getD undef=.pointer (some ⟨g,0,none⟩):=by rw[←ht];simp[Array.getD_eq_getD_getElem?]
 simp[results,Tryz.results78,go_sem,ht',c0,c1,c2,c3,c4,c5]
set_option maxRecDepth 100000 in
set_option maxHeartbeats 4000000 in
theorem of_any (a b c d:Int) (w:World) (h1 : -9223372036854775808≤a∧a≤9223372036854775807) (h2 : -9223372036854775808≤b∧b≤9223372036854775807) (h3 : -9223372036854775808≤c∧c≤9223372036854775807) (h4 : -9223372036854775808≤d∧d≤9223372036854775807) (hb:b≠0) (hd:d≠0):Calls Tryz.prog 78 #[.int .i64 a,.int .i64 b,.int .i64 c,.int .i64 d] w (RetV (Rat.divInt a b) (Rat.divInt c d) w):=by
 have hF1:=Lib.hid (fun W=>rfrac_any a b W h1 h2 hb)
 have hF2:=Lib.hid (fun W=>rfrac_any c d W h3 h4 hd)
 generalize Rat.divInt a b=lo at *
 generalize Rat.divInt c d=hi at *
 clear h1 h2 h3 h4 hb hd
 have S:=((St.new w).allocAt (w.heap.size) #[.bool false,.slice none 0 0,.slice none 0 0,.bool false,.slice none 0 0,.slice none 0 0] 28 (noL6 _ _ _ _ _ _ _ _ _ _ _ _ _ _) (by simp))
 replace S:=Lib.hid S
 go_enter Tryz.func78,Tryz.ntmps78
 go_wp2_with fail
 refine (hF1.out _).mono ?_
 rintro e w1 ⟨A11,n11,c11,D11,m11,d11,rfl,Q11,bb⟩
 have T:=(((S.out.call bb).read Q11.n).read Q11.d)
 clear bb S
 have S:=T
 clear T
 obtain⟨c_r0,c_r1,c_r2,c_r3,c_r4,c_r5,f_r0,f_r1,f_r2,f_r3,f_r4,f_r5⟩:=S.cf6 0 rfl
 have hz:w.heap.size<w1.heap.size:=S.lt 0 rfl
 replace S:=Lib.hid S
 clear Q11 hF1
 go_wp2_with fail
 refine (hF2.out _).mono ?_
 rintro e w2 ⟨A12,n12,c12,D12,m12,d12,rfl,Q12,bb⟩
 have T:=(((S.out.call bb).read Q12.n).read Q12.d)
 clear bb S c_r0 f_r0 c_r1 f_r1 c_r2 f_r2 c_r3 f_r3 c_r4 f_r4 c_r5 f_r5 hz
 have S:=T
 clear T
 obtain⟨c_r0,c_r1,c_r2,c_r3,c_r4,c_r5,f_r0,f_r1,f_r2,f_r3,f_r4,f_r5⟩:=S.cf6 0 rfl
 have hz:w.heap.size<w2.heap.size:=S.lt 0 rfl
 replace S:=Lib.hid S
 clear Q12 hF2
 have S:St w _ [(w.heap.size,#[.bool (ng lo.num),.slice A11 n11 c11,.slice D11 m11 d11,.bool (ng hi.num),.slice A12 n12 c12,.slice D12 m12 d12],28)] [(D12,m12,d12,dn hi),(A12,n12,c12,limbs hi.num.natAbs),(D11,m11,d11,dn lo),(A11,n11,c11,limbs lo.num.natAbs)]:=((((((S.out.set 0 0 (.bool (ng lo.num)) rfl (by nofun)).set 0 1 (.slice A11 n11 c11) rfl (by nofun)).set 0 2 (.slice D11 m11 d11) rfl (by nofun)).set 0 3 (.bool (ng hi.num)) rfl (by nofun)).set 0 4 (.slice A12 n12 c12) rfl (by nofun)).set 0 5 (.slice D12 m12 d12) rfl (by nofun))
 replace S:=Lib.hid S
 go_wp2
 refine bodyPost_ret (res_of _ _ (w.heap.size) 28 rfl (S.out.bk _ (List.mem_of_getElem? (i:=0) rfl)).1) rfl ?_
 exact⟨_,_,_,_,_,_,_,_,_,_,_,_,rfl,⟨S.out.r 3 rfl,S.out.r 2 rfl⟩,⟨S.out.r 1 rfl,S.out.r 0 rfl⟩,S.out.bel⟩
set_option maxRecDepth 100000 in
set_option maxHeartbeats 4000000 in
theorem sameV (lo hi:Rat) (sl:Rs lo 200) (sh:Rs hi 200) (A0:Option Addr) (n0 c0:Nat) (D0:Option Addr) (m0 d0:Nat) (A1:Option Addr) (n1 c1:Nat) (D1:Option Addr) (m1 d1:Nat) (A2:Option Addr) (n2 c2:Nat) (D2:Option Addr) (m2 d2:Nat) (A3:Option Addr) (n3 c3:Nat) (D3:Option Addr) (m3 d3:Nat) (w:World) (X0:RR w A0 n0 c0 D0 m0 d0 lo) (X1:RR w A1 n1 c1 D1 m1 d1 hi) (X2:RR w A2 n2 c2 D2 m2 d2 lo) (X3:RR w A3 n3 c3 D3 m3 d3 hi):Calls Tryz.prog 18 #[.agg #[.bool (ng lo.num),.slice A0 n0 c0,.slice D0 m0 d0,.bool (ng hi.num),.slice A1 n1 c1,.slice D1 m1 d1],.agg #[.bool (ng lo.num),.slice A2 n2 c2,.slice D2 m2 d2,.bool (ng hi.num),.slice A3 n3 c3,.slice D3 m3 d3]] w fun e w'=>e=.returned (.bool true)∧Below w.heap.size w w':=by
 have hS1:=Lib.hid (fun W h1 h2=>sameT lo lo rfl A0 n0 c0 D0 m0 d0 A2 n2 c2 D2 m2 d2 W h1 h2 sl sl)
 have hS2:=Lib.hid (fun W h1 h2=>sameT hi hi rfl A1 n1 c1 D1 m1 d1 A3 n3 c3 D3 m3 d3 W h1 h2 sh sh)
 clear sl sh
 have S:=(((((((((((St.new w).read X0.n).read X0.d).read X1.n).read X1.d).read X2.n).read X2.d).read X3.n).read X3.d).allocAt (w.heap.size) #[.bool (ng lo.num),.slice A0 n0 c0,.slice D0 m0 d0,.bool (ng hi.num),.slice A1 n1 c1,.slice D1 m1 d1] 28 (noL6 _ _ _ _ _ _ _ _ _ _ _ _ _ _) (by simp)).allocAt (w.heap.size+1) #[.bool (ng lo.num),.slice A2 n2 c2,.slice D2 m2 d2,.bool (ng hi.num),.slice A3 n3 c3,.slice D3 m3 d3] 28 (noL6 _ _ _ _ _ _ _ _ _ _ _ _ _ _) (by simp))
 replace S:=Lib.hid S
 clear X0 X1 X2 X3
 go_enter Tryz.func18,Tryz.ntmps18
 go_wp2_with fail
 refine (hS1.out _ ⟨S.out.r 7 rfl,S.out.r 6 rfl⟩ ⟨S.out.r 3 rfl,S.out.r 2 rfl⟩).mono ?_
 rintro e w1 ⟨rfl,bb⟩
 have T:=(S.out.call bb)
 clear bb S
 have S:=T
 clear T
 obtain⟨c_b0,c_b1,c_b2,c_b3,c_b4,c_b5,f_b0,f_b1,f_b2,f_b3,f_b4,f_b5⟩:=S.cf6 0 rfl
 obtain⟨c_a0,c_a1,c_a2,c_a3,c_a4,c_a5,f_a0,f_a1,f_a2,f_a3,f_a4,f_a5⟩:=S.cf6 1 rfl
 have hz:w.heap.size+1<w1.heap.size:=S.lt 0 rfl
 replace S:=Lib.hid S
 clear hS1
 go_wp2_with fail
 refine (hS2.out _ ⟨S.out.r 5 rfl,S.out.r 4 rfl⟩ ⟨S.out.r 1 rfl,S.out.r 0 rfl⟩).mono ?_
 rintro e w2 ⟨rfl,bb⟩
 have T:=(S.out.call bb)
 clear bb S c_b0 f_b0 c_b1 f_b1 c_b2 f_b2 c_b3 f_b3 c_b4 f_b4 c_b5 f_b5 c_a0 f_a0 c_a1 f_a1 c_a2 f_a2 c_a3 f_a3 c_a4 f_a4 c_a5 f_a5 hz
 have S:=T
 clear T
 obtain⟨c_b0,c_b1,c_b2,c_b3,c_b4,c_b5,f_b0,f_b1,f_b2,f_b3,f_b4,f_b5⟩:=S.cf6 0 rfl
 obtain⟨c_a0,c_a1,c_a2,c_a3,c_a4,c_a5,f_a0,f_a1,f_a2,f_a3,f_a4,f_a5⟩:=S.cf6 1 rfl
 have hz:w.heap.size+1<w2.heap.size:=S.lt 0 rfl
 replace S:=Lib.hid S
 clear hS2
 have S:=S.out
 replace S:=Lib.hid S
 go_wp2
 go_ret
 exact⟨rfl,S.out.bel⟩
theorem awake_root:rtLo ((2:Int):Rat) 2=Rat.divInt 5 4∧rtLo ((2:Int):Rat) 2+rtU 2=Rat.divInt 3 2∧rtLo ((2:Int):Rat) 2*rtLo ((2:Int):Rat) 2≠((2:Int):Rat):=by decide +kernel
theorem awake_mul:minL (mulL (klo (Rat.divInt (-1) 1) (Rat.divInt 2 1)) (khi (Rat.divInt (-1) 1) (Rat.divInt 2 1)) (klo (Rat.divInt 3 1) (Rat.divInt 4 1)) (khi (Rat.divInt 3 1) (Rat.divInt 4 1)))=Rat.divInt (-4) 1∧maxL (mulL (klo (Rat.divInt (-1) 1) (Rat.divInt 2 1)) (khi (Rat.divInt (-1) 1) (Rat.divInt 2 1)) (klo (Rat.divInt 3 1) (Rat.divInt 4 1)) (khi (Rat.divInt 3 1) (Rat.divInt 4 1)))=Rat.divInt 8 1:=by decide +kernel
theorem awake_sq:minL (sqL (klo (Rat.divInt (-1) 1) (Rat.divInt 2 1)) (khi (Rat.divInt (-1) 1) (Rat.divInt 2 1)))=Rat.divInt 0 1∧maxL (sqL (klo (Rat.divInt (-1) 1) (Rat.divInt 2 1)) (khi (Rat.divInt (-1) 1) (Rat.divInt 2 1)))=Rat.divInt 4 1:=by decide +kernel
set_option maxRecDepth 100000 in
set_option maxHeartbeats 8000000 in
theorem awakeV_any (w:World):Calls Tryz.prog 15 #[] w fun e w'=>e=.returned (.bool true)∧Below w.heap.size w w':=by
 obtain⟨t2,e_t2⟩:∃ x:Rat,x=((2:Int):Rat):=⟨_,rfl⟩
 have s_t2:Hid (Rs t2 1):=Lib.hid (by rw[e_t2];exact⟨by decide +kernel,by decide +kernel⟩)
 obtain⟨v54,e_v54⟩:∃ x:Rat,x=Rat.divInt 5 4:=⟨_,rfl⟩
 have s_v54:Hid (Rs v54 1):=Lib.hid (by rw[e_v54];exact⟨by decide +kernel,by decide +kernel⟩)
 obtain⟨v32,e_v32⟩:∃ x:Rat,x=Rat.divInt 3 2:=⟨_,rfl⟩
 have s_v32:Hid (Rs v32 1):=Lib.hid (by rw[e_v32];exact⟨by decide +kernel,by decide +kernel⟩)
 obtain⟨vm1,e_vm1⟩:∃ x:Rat,x=Rat.divInt (-1) 1:=⟨_,rfl⟩
 have s_vm1:Hid (Rs vm1 1):=Lib.hid (by rw[e_vm1];exact⟨by decide +kernel,by decide +kernel⟩)
 obtain⟨v2,e_v2⟩:∃ x:Rat,x=Rat.divInt 2 1:=⟨_,rfl⟩
 have s_v2:Hid (Rs v2 1):=Lib.hid (by rw[e_v2];exact⟨by decide +kernel,by decide +kernel⟩)
 obtain⟨v3,e_v3⟩:∃ x:Rat,x=Rat.divInt 3 1:=⟨_,rfl⟩
 have s_v3:Hid (Rs v3 1):=Lib.hid (by rw[e_v3];exact⟨by decide +kernel,by decide +kernel⟩)
 obtain⟨v4,e_v4⟩:∃ x:Rat,x=Rat.divInt 4 1:=⟨_,rfl⟩
 have s_v4:Hid (Rs v4 1):=Lib.hid (by rw[e_v4];exact⟨by decide +kernel,by decide +kernel⟩)
 obtain⟨vm4,e_vm4⟩:∃ x:Rat,x=Rat.divInt (-4) 1:=⟨_,rfl⟩
 have s_vm4:Hid (Rs vm4 1):=Lib.hid (by rw[e_vm4];exact⟨by decide +kernel,by decide +kernel⟩)
 obtain⟨v8,e_v8⟩:∃ x:Rat,x=Rat.divInt 8 1:=⟨_,rfl⟩
 have s_v8:Hid (Rs v8 1):=Lib.hid (by rw[e_v8];exact⟨by decide +kernel,by decide +kernel⟩)
 obtain⟨v0,e_v0⟩:∃ x:Rat,x=Rat.divInt 0 1:=⟨_,rfl⟩
 have s_v0:Hid (Rs v0 1):=Lib.hid (by rw[e_v0];exact⟨by decide +kernel,by decide +kernel⟩)
 have hF:Hid (∀ W,Calls Tryz.prog 69 #[.int .i64 2] W (RetR t2 W)):=Lib.hid fun W=>by rw[e_t2];exact FfromInt_any 2 W (by decide) (by decide)
 have hRt:Hid (∀ W A0 n0 c0 D0 m0 d0,RR W A0 n0 c0 D0 m0 d0 t2→Calls Tryz.prog 30 #[.agg #[.bool (ng t2.num),.slice A0 n0 c0,.slice D0 m0 d0],.int .i64 2] W (RetVE v54 v32 (.int .i64 0) W)):=Lib.hid fun W A0 n0 c0 D0 m0 d0 X0=>by
  have:=root_yes2 _ A0 n0 c0 _ D0 m0 d0 _ t2 2 (by decide) (by rw[e_t2];decide) (s_t2.out.mono (by decide)) (by rw[e_t2];exact awake_root.2.2) W (RR.w X0 (s_t2.out.mono (by decide)))
  rw[show rtLo t2 2+rtU 2=v32 by rw[e_t2,e_v32];exact awake_root.2.1,show rtLo t2 2=v54 by rw[e_t2,e_v54];exact awake_root.1] at this
  exact this
 have hO1:Hid (∀ W,Calls Tryz.prog 78 #[.int .i64 5,.int .i64 4,.int .i64 3,.int .i64 2] W (RetV v54 v32 W)):=Lib.hid fun W=>by rw[e_v54,e_v32];exact of_any 5 4 3 2 W (by decide) (by decide) (by decide) (by decide) (by decide) (by decide)
 have hO2:Hid (∀ W,Calls Tryz.prog 78 #[.int .i64 (-1),.int .i64 1,.int .i64 2,.int .i64 1] W (RetV vm1 v2 W)):=Lib.hid fun W=>by rw[e_vm1,e_v2];exact of_any (-1) 1 2 1 W (by decide) (by decide) (by decide) (by decide) (by decide) (by decide)
 have hO3:Hid (∀ W,Calls Tryz.prog 78 #[.int .i64 3,.int .i64 1,.int .i64 4,.int .i64 1] W (RetV v3 v4 W)):=Lib.hid fun W=>by rw[e_v3,e_v4];exact of_any 3 1 4 1 W (by decide) (by decide) (by decide) (by decide) (by decide) (by decide)
 have hO4:Hid (∀ W,Calls Tryz.prog 78 #[.int .i64 (-4),.int .i64 1,.int .i64 8,.int .i64 1] W (RetV vm4 v8 W)):=Lib.hid fun W=>by rw[e_vm4,e_v8];exact of_any (-4) 1 8 1 W (by decide) (by decide) (by decide) (by decide) (by decide) (by decide)
 have hO5:Hid (∀ W,Calls Tryz.prog 78 #[.int .i64 0,.int .i64 1,.int .i64 4,.int .i64 1] W (RetV v0 v4 W)):=Lib.hid fun W=>by rw[e_v0,e_v4];exact of_any 0 1 4 1 W (by decide) (by decide) (by decide) (by decide) (by decide) (by decide)
 have hMl:Hid (∀ W A0 n0 c0 D0 m0 d0 A1 n1 c1 D1 m1 d1 A2 n2 c2 D2 m2 d2 A3 n3 c3 D3 m3 d3,RR W A0 n0 c0 D0 m0 d0 vm1→RR W A1 n1 c1 D1 m1 d1 v2→RR W A2 n2 c2 D2 m2 d2 v3→RR W A3 n3 c3 D3 m3 d3 v4→Calls Tryz.prog 23 #[.agg #[.bool (ng vm1.num),.slice A0 n0 c0,.slice D0 m0 d0,.bool (ng v2.num),.slice A1 n1 c1,.slice D1 m1 d1],.agg #[.bool (ng v3.num),.slice A2 n2 c2,.slice D2 m2 d2,.bool (ng v4.num),.slice A3 n3 c3,.slice D3 m3 d3]] W (RetV vm4 v8 W)):=Lib.hid fun W A0 n0 c0 D0 m0 d0 A1 n1 c1 D1 m1 d1 A2 n2 c2 D2 m2 d2 A3 n3 c3 D3 m3 d3 X0 X1 X2 X3=>by
  have:=imul_any _ _ _ _ _ _ _ _ _ _ _ _ _ _ _ _ _ _ _ _ _ _ _ _ _ _ _ _ _ _ _ _ _ _ _ _ _ _ _ _ (s_vm1.out.mono (by decide)) (s_v2.out.mono (by decide)) (s_v3.out.mono (by decide)) (s_v4.out.mono (by decide)) W (RR.w X0 (s_vm1.out.mono (by decide))) (RR.w X1 (s_v2.out.mono (by decide))) (RR.w X2 (s_v3.out.mono (by decide))) (RR.w X3 (s_v4.out.mono (by decide)))
  rwa [show minL (mulL (klo vm1 v2) (khi vm1 v2) (klo v3 v4) (khi v3 v4))=vm4 by rw[e_vm1,e_v2,e_v3,e_v4,e_vm4];exact awake_mul.1,show maxL (mulL (klo vm1 v2) (khi vm1 v2) (klo v3 v4) (khi v3 v4))=v8 by rw[e_vm1,e_v2,e_v3,e_v4,e_v8];exact awake_mul.2] at this
 have hSq:Hid (∀ W A0 n0 c0 D0 m0 d0 A1 n1 c1 D1 m1 d1,RR W A0 n0 c0 D0 m0 d0 vm1→RR W A1 n1 c1 D1 m1 d1 v2→Calls Tryz.prog 25 #[.agg #[.bool (ng vm1.num),.slice A0 n0 c0,.slice D0 m0 d0,.bool (ng v2.num),.slice A1 n1 c1,.slice D1 m1 d1]] W (RetV v0 v4 W)):=Lib.hid fun W A0 n0 c0 D0 m0 d0 A1 n1 c1 D1 m1 d1 X0 X1=>by
  have:=isquare_any _ _ _ _ _ _ _ _ _ _ _ _ _ _ _ _ _ _ _ _ (s_vm1.out.mono (by decide)) (s_v2.out.mono (by decide)) W (RR.w X0 (s_vm1.out.mono (by decide))) (RR.w X1 (s_v2.out.mono (by decide)))
  rwa [show minL (sqL (klo vm1 v2) (khi vm1 v2))=v0 by rw[e_vm1,e_v2,e_v0];exact awake_sq.1,show maxL (sqL (klo vm1 v2) (khi vm1 v2))=v4 by rw[e_vm1,e_v2,e_v4];exact awake_sq.2] at this
 clear e_t2 e_v54 e_v32 e_vm1 e_v2 e_v3 e_v4 e_vm4 e_v8 e_v0
 have S:=(St.new w)
 replace S:=Lib.hid S
 go_enter Tryz.func15,Tryz.ntmps15
 go_wp2_with fail
 refine (hF.out _).mono ?_
 rintro e w1 ⟨A1,n1,c1,D1,m1,d1,rfl,Q1,bb⟩
 have T:=(((S.out.call bb).read Q1.n).read Q1.d)
 clear bb S
 have S:=T
 clear T
 replace S:=Lib.hid S
 clear Q1 hF
 go_wp2_with fail
 refine (hRt.out _ _ _ _ _ _ _ ⟨S.out.r 1 rfl,S.out.r 0 rfl⟩).mono ?_
 rintro e w2 ⟨A2,n2,c2,D2,m2,d2,A3,n3,c3,D3,m3,d3,rfl,Q2,Q3,bb⟩
 have T:=(((((S.out.call bb).read Q2.n).read Q2.d).read Q3.n).read Q3.d)
 clear bb S
 have S:=T
 clear T
 replace S:=Lib.hid S
 clear Q2 Q3 hRt
 have S:=(S.out.allocAt (w2.heap.size) #[.bool (ng v54.num),.slice A2 n2 c2,.slice D2 m2 d2,.bool (ng v32.num),.slice A3 n3 c3,.slice D3 m3 d3] 28 (noL6 _ _ _ _ _ _ _ _ _ _ _ _ _ _) (by simp))
 replace S:=Lib.hid S
 go_upto_region 2 with fail
 have S:=S.out
 generalize hW3:(World.alloc w2 (.cells #[.bool (ng v54.num),.slice A2 n2 c2,.slice D2 m2 d2,.bool (ng v32.num),.slice A3 n3 c3,.slice D3 m3 d3] 28))=w3 at S ⊢
 clear hW3
 replace S:=Lib.hid S
 refine RW.begin (Z:=[]) (S:=(fun W=>Cb W (w2.heap.size) #[.bool (ng v54.num),.slice A2 n2 c2,.slice D2 m2 d2,.bool (ng v32.num),.slice A3 n3 c3,.slice D3 m3 d3] 28)) (by kernel_rfl) ?_ S.out ?_
 ·exact⟨by kernel_rfl,zis_nil,by decide,by decide,nol_nil,(fun _ _ h=>h.kb 0 rfl)⟩
 intro hzk
 clear S
 refine RW.t (i:=0) (v:=.int .i64 0) (some 8) at0 (hy:=fun _ _=>by kernel_rfl) (h:=?_)
 refine RW.t (i:=1) (v:=.bool true) (some 9) at1 (hy:=fun _ _=>by go_simp) (h:=?_)
 refine RW.t (i:=2) (v:=.bool true) (some 10) at2 (hy:=fun _ _=>by kernel_rfl) (h:=?_)
 refine RW.t (i:=3) (v:=.agg #[.bool (ng v54.num),.slice A2 n2 c2,.slice D2 m2 d2,.bool (ng v32.num),.slice A3 n3 c3,.slice D3 m3 d3]) (some 11) at3 (hy:=fun W hS=>by (obtain⟨k0,k1,k2,k3,k4,k5⟩:=Cb.c6 hS;clear hS;go_simp)) (h:=?_)
 refine RW.c (i:=4) (args:=#[.int .i64 5,.int .i64 4,.int .i64 3,.int .i64 2]) (some 12) hzk.out at4 (hx:=fun _=>by kernel_rfl) (h:=fun _ S=>(hO1.out _).mono ?_)
 rintro e w4 ⟨A10,n10,c10,D10,m10,d10,A11,n11,c11,D11,m11,d11,rfl,Q10,Q11,bb⟩
 refine⟨bb,_,[(D11,m11,d11,dn v32),(A11,n11,c11,limbs v32.num.natAbs),(D10,m10,d10,dn v54),(A10,n10,c10,limbs v54.num.natAbs)],rfl,(rd_cons Q11.d (rd_cons Q11.n (rd_cons Q10.d (rd_cons Q10.n rd_nil)))),?_⟩
 clear bb S Q10 Q11
 refine RW.c (i:=5) (args:=#[.agg #[.bool (ng v54.num),.slice A2 n2 c2,.slice D2 m2 d2,.bool (ng v32.num),.slice A3 n3 c3,.slice D3 m3 d3],.agg #[.bool (ng v54.num),.slice A10 n10 c10,.slice D10 m10 d10,.bool (ng v32.num),.slice A11 n11 c11,.slice D11 m11 d11]]) (some 13) hzk.out at5 (hx:=fun _=>by kernel_rfl) (h:=fun _ S=>(sameV v54 v32 (s_v54.out.mono (by decide)) (s_v32.out.mono (by decide)) _ _ _ _ _ _ _ _ _ _ _ _ _ _ _ _ _ _ _ _ _ _ _ _ _ ⟨S.r 7 rfl,S.r 6 rfl⟩ ⟨S.r 5 rfl,S.r 4 rfl⟩ ⟨S.r 3 rfl,S.r 2 rfl⟩ ⟨S.r 1 rfl,S.r 0 rfl⟩).mono ?_)
 rintro e w5 ⟨rfl,bb⟩
 refine⟨bb,_,[],rfl,rd_nil,?_⟩
 clear bb S
 refine RW.t (i:=6) (v:=.bool true) (some 14) at6 (hy:=fun _ _=>by kernel_rfl) (h:=?_)
 refine RW.t (i:=7) (v:=.bool true) (some 15) at7 (hy:=fun _ _=>by kernel_rfl) (h:=?_)
 refine RW.c (i:=8) (args:=#[.int .i64 (-1),.int .i64 1,.int .i64 2,.int .i64 1]) (some 16) hzk.out at8 (hx:=fun _=>by kernel_rfl) (h:=fun _ S=>(hO2.out _).mono ?_)
 rintro e w6 ⟨A12,n12,c12,D12,m12,d12,A13,n13,c13,D13,m13,d13,rfl,Q12,Q13,bb⟩
 refine⟨bb,_,[(D13,m13,d13,dn v2),(A13,n13,c13,limbs v2.num.natAbs),(D12,m12,d12,dn vm1),(A12,n12,c12,limbs vm1.num.natAbs)],rfl,(rd_cons Q13.d (rd_cons Q13.n (rd_cons Q12.d (rd_cons Q12.n rd_nil)))),?_⟩
 clear bb S Q12 Q13
 refine RW.c (i:=9) (args:=#[.int .i64 3,.int .i64 1,.int .i64 4,.int .i64 1]) (some 17) hzk.out at9 (hx:=fun _=>by kernel_rfl) (h:=fun _ S=>(hO3.out _).mono ?_)
 rintro e w7 ⟨A14,n14,c14,D14,m14,d14,A15,n15,c15,D15,m15,d15,rfl,Q14,Q15,bb⟩
 refine⟨bb,_,[(D15,m15,d15,dn v4),(A15,n15,c15,limbs v4.num.natAbs),(D14,m14,d14,dn v3),(A14,n14,c14,limbs v3.num.natAbs)],rfl,(rd_cons Q15.d (rd_cons Q15.n (rd_cons Q14.d (rd_cons Q14.n rd_nil)))),?_⟩
 clear bb S Q14 Q15
 refine RW.c (i:=10) (args:=#[.agg #[.bool (ng vm1.num),.slice A12 n12 c12,.slice D12 m12 d12,.bool (ng v2.num),.slice A13 n13 c13,.slice D13 m13 d13],.agg #[.bool (ng v3.num),.slice A14 n14 c14,.slice D14 m14 d14,.bool (ng v4.num),.slice A15 n15 c15,.slice D15 m15 d15]]) (some 18) hzk.out at10 (hx:=fun _=>by kernel_rfl) (h:=fun _ S=>(hMl.out _ _ _ _ _ _ _ _ _ _ _ _ _ _ _ _ _ _ _ _ _ _ _ _ _ ⟨S.r 7 rfl,S.r 6 rfl⟩ ⟨S.r 5 rfl,S.r 4 rfl⟩ ⟨S.r 3 rfl,S.r 2 rfl⟩ ⟨S.r 1 rfl,S.r 0 rfl⟩).mono ?_)
 rintro e w8 ⟨A16,n16,c16,D16,m16,d16,A17,n17,c17,D17,m17,d17,rfl,Q16,Q17,bb⟩
 refine⟨bb,_,[(D17,m17,d17,dn v8),(A17,n17,c17,limbs v8.num.natAbs),(D16,m16,d16,dn vm4),(A16,n16,c16,limbs vm4.num.natAbs)],rfl,(rd_cons Q17.d (rd_cons Q17.n (rd_cons Q16.d (rd_cons Q16.n rd_nil)))),?_⟩
 clear bb S Q16 Q17
 refine RW.c (i:=11) (args:=#[.int .i64 (-4),.int .i64 1,.int .i64 8,.int .i64 1]) (some 19) hzk.out at11 (hx:=fun _=>by kernel_rfl) (h:=fun _ S=>(hO4.out _).mono ?_)
 rintro e w9 ⟨A18,n18,c18,D18,m18,d18,A19,n19,c19,D19,m19,d19,rfl,Q18,Q19,bb⟩
 refine⟨bb,_,[(D19,m19,d19,dn v8),(A19,n19,c19,limbs v8.num.natAbs),(D18,m18,d18,dn vm4),(A18,n18,c18,limbs vm4.num.natAbs)],rfl,(rd_cons Q19.d (rd_cons Q19.n (rd_cons Q18.d (rd_cons Q18.n rd_nil)))),?_⟩
 clear bb S Q18 Q19
 refine RW.c (i:=12) (args:=#[.agg #[.bool (ng vm4.num),.slice A16 n16 c16,.slice D16 m16 d16,.bool (ng v8.num),.slice A17 n17 c17,.slice D17 m17 d17],.agg #[.bool (ng vm4.num),.slice A18 n18 c18,.slice D18 m18 d18,.bool (ng v8.num),.slice A19 n19 c19,.slice D19 m19 d19]]) (some 20) hzk.out at12 (hx:=fun _=>by kernel_rfl) (h:=fun _ S=>(sameV vm4 v8 (s_vm4.out.mono (by decide)) (s_v8.out.mono (by decide)) _ _ _ _ _ _ _ _ _ _ _ _ _ _ _ _ _ _ _ _ _ _ _ _ _ ⟨S.r 7 rfl,S.r 6 rfl⟩ ⟨S.r 5 rfl,S.r 4 rfl⟩ ⟨S.r 3 rfl,S.r 2 rfl⟩ ⟨S.r 1 rfl,S.r 0 rfl⟩).mono ?_)
 rintro e w10 ⟨rfl,bb⟩
 refine⟨bb,_,[],rfl,rd_nil,?_⟩
 clear bb S
 refine RW.t (i:=13) (v:=.bool true) (some 21) at13 (hy:=fun _ _=>by kernel_rfl) (h:=?_)
 refine RW.t (i:=14) (v:=.bool true) (some 22) at14 (hy:=fun _ _=>by kernel_rfl) (h:=?_)
 refine RW.c (i:=15) (args:=#[.int .i64 (-1),.int .i64 1,.int .i64 2,.int .i64 1]) (some 23) hzk.out at15 (hx:=fun _=>by kernel_rfl) (h:=fun _ S=>(hO2.out _).mono ?_)
 rintro e w11 ⟨A20,n20,c20,D20,m20,d20,A21,n21,c21,D21,m21,d21,rfl,Q20,Q21,bb⟩
 refine⟨bb,_,[(D21,m21,d21,dn v2),(A21,n21,c21,limbs v2.num.natAbs),(D20,m20,d20,dn vm1),(A20,n20,c20,limbs vm1.num.natAbs)],rfl,(rd_cons Q21.d (rd_cons Q21.n (rd_cons Q20.d (rd_cons Q20.n rd_nil)))),?_⟩
 clear bb S Q20 Q21
 refine RW.c (i:=16) (args:=#[.agg #[.bool (ng vm1.num),.slice A20 n20 c20,.slice D20 m20 d20,.bool (ng v2.num),.slice A21 n21 c21,.slice D21 m21 d21]]) (some 24) hzk.out at16 (hx:=fun _=>by kernel_rfl) (h:=fun _ S=>(hSq.out _ _ _ _ _ _ _ _ _ _ _ _ _ ⟨S.r 3 rfl,S.r 2 rfl⟩ ⟨S.r 1 rfl,S.r 0 rfl⟩).mono ?_)
 rintro e w12 ⟨A22,n22,c22,D22,m22,d22,A23,n23,c23,D23,m23,d23,rfl,Q22,Q23,bb⟩
 refine⟨bb,_,[(D23,m23,d23,dn v4),(A23,n23,c23,limbs v4.num.natAbs),(D22,m22,d22,dn v0),(A22,n22,c22,limbs v0.num.natAbs)],rfl,(rd_cons Q23.d (rd_cons Q23.n (rd_cons Q22.d (rd_cons Q22.n rd_nil)))),?_⟩
 clear bb S Q22 Q23
 refine RW.c (i:=17) (args:=#[.int .i64 0,.int .i64 1,.int .i64 4,.int .i64 1]) (some 25) hzk.out at17 (hx:=fun _=>by kernel_rfl) (h:=fun _ S=>(hO5.out _).mono ?_)
 rintro e w13 ⟨A24,n24,c24,D24,m24,d24,A25,n25,c25,D25,m25,d25,rfl,Q24,Q25,bb⟩
 refine⟨bb,_,[(D25,m25,d25,dn v4),(A25,n25,c25,limbs v4.num.natAbs),(D24,m24,d24,dn v0),(A24,n24,c24,limbs v0.num.natAbs)],rfl,(rd_cons Q25.d (rd_cons Q25.n (rd_cons Q24.d (rd_cons Q24.n rd_nil)))),?_⟩
 clear bb S Q24 Q25
 refine RW.c (i:=18) (args:=#[.agg #[.bool (ng v0.num),.slice A22 n22 c22,.slice D22 m22 d22,.bool (ng v4.num),.slice A23 n23 c23,.slice D23 m23 d23],.agg #[.bool (ng v0.num),.slice A24 n24 c24,.slice D24 m24 d24,.bool (ng v4.num),.slice A25 n25 c25,.slice D25 m25 d25]]) (some 26) hzk.out at18 (hx:=fun _=>by kernel_rfl) (h:=fun _ S=>(sameV v0 v4 (s_v0.out.mono (by decide)) (s_v4.out.mono (by decide)) _ _ _ _ _ _ _ _ _ _ _ _ _ _ _ _ _ _ _ _ _ _ _ _ _ ⟨S.r 7 rfl,S.r 6 rfl⟩ ⟨S.r 5 rfl,S.r 4 rfl⟩ ⟨S.r 3 rfl,S.r 2 rfl⟩ ⟨S.r 1 rfl,S.r 0 rfl⟩).mono ?_)
 rintro e w14 ⟨rfl,bb⟩
 refine⟨bb,_,[],rfl,rd_nil,?_⟩
 clear bb S
 refine RW.t (i:=19) (v:=.bool true) (some 27) at19 (hy:=fun _ _=>by kernel_rfl) (h:=?_)
 refine RW.tail hzk.out (by kernel_rfl) ?_
 intro gs w15 hgs hS S
 obtain rfl:=len0 hgs
 clear hS hgs hzk
 simp only[mark,fill,Act.put,List.setIfInBounds_toArray,List.set_cons_zero,List.set_cons_succ]
 replace S:=Lib.hid S
 refine Wk.o (i:=20) at20 (by kernel_rfl) fun K' hK=>?_
 go_simp
 have SN:=S.out
 clear S
 have S:=SN
 clear SN
 refine hK.out _ _ (S.cb 0 rfl) ?_
 clear hK K'
 replace S:=Lib.hid S
 try simp only[Act.put,List.setIfInBounds_toArray,List.set_cons_zero,List.set_cons_succ]
 refine Wk.done (by kernel_rfl) ?_
 go_simp
 replace S:=S.out
 have S:St w _ [(w2.heap.size,#[.bool (ng v54.num),.slice A2 n2 c2,.slice D2 m2 d2,.bool (ng v32.num),.slice A3 n3 c3,.slice D3 m3 d3],28)] [(D25,m25,d25,dn v4),(A25,n25,c25,limbs v4.num.natAbs),(D24,m24,d24,dn v0),(A24,n24,c24,limbs v0.num.natAbs),(D23,m23,d23,dn v4),(A23,n23,c23,limbs v4.num.natAbs),(D22,m22,d22,dn v0),(A22,n22,c22,limbs v0.num.natAbs),(D21,m21,d21,dn v2),(A21,n21,c21,limbs v2.num.natAbs),(D20,m20,d20,dn vm1),(A20,n20,c20,limbs vm1.num.natAbs),(D19,m19,d19,dn v8),(A19,n19,c19,limbs v8.num.natAbs),(D18,m18,d18,dn vm4),(A18,n18,c18,limbs vm4.num.natAbs),(D17,m17,d17,dn v8),(A17,n17,c17,limbs v8.num.natAbs),(D16,m16,d16,dn vm4),(A16,n16,c16,limbs vm4.num.natAbs),(D15,m15,d15,dn v4),(A15,n15,c15,limbs v4.num.natAbs),(D14,m14,d14,dn v3),(A14,n14,c14,limbs v3.num.natAbs),(D13,m13,d13,dn v2),(A13,n13,c13,limbs v2.num.natAbs),(D12,m12,d12,dn vm1),(A12,n12,c12,limbs vm1.num.natAbs),(D11,m11,d11,dn v32),(A11,n11,c11,limbs v32.num.natAbs),(D10,m10,d10,dn v54),(A10,n10,c10,limbs v54.num.natAbs),(D3,m3,d3,dn v32),(A3,n3,c3,limbs v32.num.natAbs),(D2,m2,d2,dn v54),(A2,n2,c2,limbs v54.num.natAbs),(D1,m1,d1,dn t2),(A1,n1,c1,limbs t2.num.natAbs)]:=S
 replace S:=Lib.hid S
 replace S:=S.out
 replace S:=Lib.hid S
 have S:=S.out
 replace S:=Lib.hid S
 go_wp2
 go_ret
 exact⟨rfl,S.out.bel⟩
end Go.Proofs.YtphckmdnflbloaaGreat

namespace Go.Proofs.YtphckmdnflbloaaGreat
open Go.RowKit RQ
theorem light_8 {n m:Nat} (h:lightB n m=true):n≤8∧m≤8:=by unfold lightB at h;simp only[Bool.and_eq_true,decide_eq_true_eq] at h;exact h
theorem minL_rs {l:List Rat} {p:Nat} (h:l≠[]) (hl:∀ y∈l,Rs y p):Rs (minL l) p∧Rs (maxL l) p:=⟨hl _ (minL_mem h),hl _ (maxL_mem h)⟩
theorem mulL_rs {a b c d:Rat} {p:Nat} (h1:Rs a p) (h2:Rs b p) (h3:Rs c p) (h4:Rs d p):Rs (minL (mulL a b c d)) (p+p)∧Rs (maxL (mulL a b c d)) (p+p):=by
 refine minL_rs (by simp[mulL]) fun y hy=>?_
 simp only[mulL,List.mem_cons,List.not_mem_nil,or_false] at hy
 rcases hy with rfl | rfl | rfl | rfl
 ·exact h1.mul h3
 ·exact h1.mul h4
 ·exact h2.mul h3
 ·exact h2.mul h4
theorem sqL_rs {a b:Rat} {p:Nat} (h1:Rs a p) (h2:Rs b p) (hp:1≤p):Rs (minL (sqL a b)) (p+p)∧Rs (maxL (sqL a b)) (p+p):=by
 refine minL_rs (sqL_ne a b) fun y hy=>?_
 unfold sqL at hy
 have z:Rs (0:Rat) (p+p):=(Rs.int (z:=0) (p:=1) (by decide) (by decide)).mono (by omega)
 split at hy
 ·simp only[List.mem_cons,List.not_mem_nil,or_false] at hy
  rcases hy with rfl | rfl | rfl
  ·exact z
  ·exact h1.mul h1
  ·exact h2.mul h2
 ·simp only[List.mem_cons,List.not_mem_nil,or_false] at hy
  rcases hy with rfl | rfl
  ·exact h1.mul h1
  ·exact h2.mul h2
end Go.Proofs.YtphckmdnflbloaaGreat
