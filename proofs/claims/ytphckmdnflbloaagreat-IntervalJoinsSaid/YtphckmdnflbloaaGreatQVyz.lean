/- The reference's Min, Max. The reference's hull. -/
import Derived.Test.YtphckmdnflbloaaGreatQVpz
import Derived.Test.YtphckmdnflbloaaGreatQVdz
namespace Go.Proofs.YtphckmdnflbloaaGreat
open Go.RowKit RQ
theorem res_min_any (W:World) (tmps:Array Value) (g t:Nat) {v0 v1 v2:Value} (ht:tmps.getD 4 undef=.pointer (some ⟨g,0,none⟩)) (h:Cb W g #[v0,v1,v2] t) :
  (results Tryz.f96 tmps).run Tryz.prog W=.ok (.agg #[v0,v1,v2]) W:=by
 have c0:W.cell? ⟨g,0,none⟩=some v0:=h.cell rfl
 have c1:W.cell? ⟨g,1,none⟩=some v1:=h.cell rfl
 have c2:W.cell? ⟨g,2,none⟩=some v2:=h.cell rfl
 have ht':tmps[4]?.getD undef=.pointer (some ⟨g,0,none⟩):=by rw[←ht];simp[Array.getD_eq_getD_getElem?]
 simp[results,Tryz.results96,go_sem,ht',c0,c1,c2]
set_option maxRecDepth 100000 in
set_option maxHeartbeats 4000000 in
theorem min_any_a (b1:Bool) (A1:Option Addr) (n1 c1:Nat) (x1:List Nat) (D1:Option Addr) (m1 d1:Nat) (y1:List Nat) (q1:Rat) (b2:Bool) (A2:Option Addr) (n2 c2:Nat) (x2:List Nat) (D2:Option Addr) (m2 d2:Nat) (y2:List Nat) (q2:Rat) (h:q2<q1) (w:World) (X1:Rw w b1 A1 n1 c1 x1 D1 m1 d1 y1 q1) (X2:Rw w b2 A2 n2 c2 x2 D2 m2 d2 y2 q2):Calls Tryz.prog 96 #[.agg #[.bool b1,.slice A1 n1 c1,.slice D1 m1 d1],.agg #[.bool b2,.slice A2 n2 c2,.slice D2 m2 d2]] w (RetR q2 w):=by
 have hL:=fun W h1 h2=>less_any b2 A2 n2 c2 x2 D2 m2 d2 y2 q2 b1 A1 n1 c1 x1 D1 m1 d1 y1 q1 W h1 h2
 rw[show decide (q2<q1)=true from decide_eq_true h] at hL
 replace hL:=Lib.hid hL
 clear h
 have hT:=Lib.hid (fun W h1=>takeF b2 A2 n2 c2 x2 D2 m2 d2 y2 q2 W h1)
 have k1:=Lib.hid X1.k
 have k2:=Lib.hid X2.k
 have S:=((((((((St.new w).read X1.rn).read X1.rd).read X2.rn).read X2.rd).allocAt (w.heap.size) #[.bool b1,.slice A1 n1 c1,.slice D1 m1 d1] 26 (noL3 _ _ _ _ _ _ _) (by simp)).allocAt (w.heap.size+1) #[.bool b2,.slice A2 n2 c2,.slice D2 m2 d2] 26 (noL3 _ _ _ _ _ _ _) (by simp)).allocAt (w.heap.size+1+1) #[.bool false,.slice none 0 0,.slice none 0 0] 26 (noL3 _ _ _ _ _ _ _) (by simp))
 replace S:=Lib.hid S
 clear X1 X2
 go_enter Tryz.func96,Tryz.ntmps96
 go_wp2_with fail
 refine (hL.out _ (Rw.of (S.out.r 1 rfl) (S.out.r 0 rfl) k2.out) (Rw.of (S.out.r 3 rfl) (S.out.r 2 rfl) k1.out)).mono ?_
 rintro e w1 ⟨rfl,bb⟩
 have T:=(S.out.call bb)
 clear bb S
 have S:=T
 clear T
 obtain⟨c_r0,c_r1,c_r2,f_r0,f_r1,f_r2⟩:=S.cf3 0 rfl
 obtain⟨c_y0,c_y1,c_y2,f_y0,f_y1,f_y2⟩:=S.cf3 1 rfl
 obtain⟨c_x0,c_x1,c_x2,f_x0,f_x1,f_x2⟩:=S.cf3 2 rfl
 have hz:w.heap.size+1+1<w1.heap.size:=S.lt 0 rfl
 replace S:=Lib.hid S
 clear hL
 go_wp2_with fail
 refine (hT.out _ (Rw.of (S.out.r 1 rfl) (S.out.r 0 rfl) k2.out)).mono ?_
 rintro e w2 ⟨A9,n9,c9,D9,m9,d9,rfl,Q9,bb⟩
 have T:=(((S.out.call bb).read Q9.n).read Q9.d)
 clear bb S c_r0 f_r0 c_r1 f_r1 c_r2 f_r2 c_y0 f_y0 c_y1 f_y1 c_y2 f_y2 c_x0 f_x0 c_x1 f_x1 c_x2 f_x2 hz
 have S:=T
 clear T
 obtain⟨c_r0,c_r1,c_r2,f_r0,f_r1,f_r2⟩:=S.cf3 0 rfl
 obtain⟨c_y0,c_y1,c_y2,f_y0,f_y1,f_y2⟩:=S.cf3 1 rfl
 obtain⟨c_x0,c_x1,c_x2,f_x0,f_x1,f_x2⟩:=S.cf3 2 rfl
 have hz:w.heap.size+1+1<w2.heap.size:=S.lt 0 rfl
 replace S:=Lib.hid S
 clear Q9 hT
 have S:St w _ [(w.heap.size+1+1,#[.bool (ng q2.num),.slice A9 n9 c9,.slice D9 m9 d9],26),(w.heap.size+1,#[.bool b2,.slice A2 n2 c2,.slice D2 m2 d2],26),(w.heap.size,#[.bool b1,.slice A1 n1 c1,.slice D1 m1 d1],26)] [(D9,m9,d9,dn q2),(A9,n9,c9,limbs q2.num.natAbs),(D2,m2,d2,y2),(A2,n2,c2,x2),(D1,m1,d1,y1),(A1,n1,c1,x1)]:=(((S.out.set 0 0 (.bool (ng q2.num)) rfl (by nofun)).set 0 1 (.slice A9 n9 c9) rfl (by nofun)).set 0 2 (.slice D9 m9 d9) rfl (by nofun))
 replace S:=Lib.hid S
 go_wp2
 refine bodyPost_ret (res_min_any _ _ (w.heap.size+1+1) 26 rfl (S.out.bk _ (List.mem_of_getElem? (i:=0) rfl)).1) rfl ?_
 exact⟨_,_,_,_,_,_,rfl,⟨S.out.r 1 rfl,S.out.r 0 rfl⟩,S.out.bel⟩
set_option maxRecDepth 100000 in
set_option maxHeartbeats 4000000 in
theorem min_any_b (b1:Bool) (A1:Option Addr) (n1 c1:Nat) (x1:List Nat) (D1:Option Addr) (m1 d1:Nat) (y1:List Nat) (q1:Rat) (b2:Bool) (A2:Option Addr) (n2 c2:Nat) (x2:List Nat) (D2:Option Addr) (m2 d2:Nat) (y2:List Nat) (q2:Rat) (h:¬ q2<q1) (w:World) (X1:Rw w b1 A1 n1 c1 x1 D1 m1 d1 y1 q1) (X2:Rw w b2 A2 n2 c2 x2 D2 m2 d2 y2 q2):Calls Tryz.prog 96 #[.agg #[.bool b1,.slice A1 n1 c1,.slice D1 m1 d1],.agg #[.bool b2,.slice A2 n2 c2,.slice D2 m2 d2]] w (RetR q1 w):=by
 have hL:=fun W h1 h2=>less_any b2 A2 n2 c2 x2 D2 m2 d2 y2 q2 b1 A1 n1 c1 x1 D1 m1 d1 y1 q1 W h1 h2
 rw[show decide (q2<q1)=false from decide_eq_false h] at hL
 replace hL:=Lib.hid hL
 clear h
 have hT:=Lib.hid (fun W h1=>takeF b1 A1 n1 c1 x1 D1 m1 d1 y1 q1 W h1)
 have k1:=Lib.hid X1.k
 have k2:=Lib.hid X2.k
 have S:=((((((((St.new w).read X1.rn).read X1.rd).read X2.rn).read X2.rd).allocAt (w.heap.size) #[.bool b1,.slice A1 n1 c1,.slice D1 m1 d1] 26 (noL3 _ _ _ _ _ _ _) (by simp)).allocAt (w.heap.size+1) #[.bool b2,.slice A2 n2 c2,.slice D2 m2 d2] 26 (noL3 _ _ _ _ _ _ _) (by simp)).allocAt (w.heap.size+1+1) #[.bool false,.slice none 0 0,.slice none 0 0] 26 (noL3 _ _ _ _ _ _ _) (by simp))
 replace S:=Lib.hid S
 clear X1 X2
 go_enter Tryz.func96,Tryz.ntmps96
 go_wp2_with fail
 refine (hL.out _ (Rw.of (S.out.r 1 rfl) (S.out.r 0 rfl) k2.out) (Rw.of (S.out.r 3 rfl) (S.out.r 2 rfl) k1.out)).mono ?_
 rintro e w1 ⟨rfl,bb⟩
 have T:=(S.out.call bb)
 clear bb S
 have S:=T
 clear T
 obtain⟨c_r0,c_r1,c_r2,f_r0,f_r1,f_r2⟩:=S.cf3 0 rfl
 obtain⟨c_y0,c_y1,c_y2,f_y0,f_y1,f_y2⟩:=S.cf3 1 rfl
 obtain⟨c_x0,c_x1,c_x2,f_x0,f_x1,f_x2⟩:=S.cf3 2 rfl
 have hz:w.heap.size+1+1<w1.heap.size:=S.lt 0 rfl
 replace S:=Lib.hid S
 clear hL
 go_wp2_with fail
 refine (hT.out _ (Rw.of (S.out.r 3 rfl) (S.out.r 2 rfl) k1.out)).mono ?_
 rintro e w2 ⟨A9,n9,c9,D9,m9,d9,rfl,Q9,bb⟩
 have T:=(((S.out.call bb).read Q9.n).read Q9.d)
 clear bb S c_r0 f_r0 c_r1 f_r1 c_r2 f_r2 c_y0 f_y0 c_y1 f_y1 c_y2 f_y2 c_x0 f_x0 c_x1 f_x1 c_x2 f_x2 hz
 have S:=T
 clear T
 obtain⟨c_r0,c_r1,c_r2,f_r0,f_r1,f_r2⟩:=S.cf3 0 rfl
 obtain⟨c_y0,c_y1,c_y2,f_y0,f_y1,f_y2⟩:=S.cf3 1 rfl
 obtain⟨c_x0,c_x1,c_x2,f_x0,f_x1,f_x2⟩:=S.cf3 2 rfl
 have hz:w.heap.size+1+1<w2.heap.size:=S.lt 0 rfl
 replace S:=Lib.hid S
 clear Q9 hT
 have S:St w _ [(w.heap.size+1+1,#[.bool (ng q1.num),.slice A9 n9 c9,.slice D9 m9 d9],26),(w.heap.size+1,#[.bool b2,.slice A2 n2 c2,.slice D2 m2 d2],26),(w.heap.size,#[.bool b1,.slice A1 n1 c1,.slice D1 m1 d1],26)] [(D9,m9,d9,dn q1),(A9,n9,c9,limbs q1.num.natAbs),(D2,m2,d2,y2),(A2,n2,c2,x2),(D1,m1,d1,y1),(A1,n1,c1,x1)]:=(((S.out.set 0 0 (.bool (ng q1.num)) rfl (by nofun)).set 0 1 (.slice A9 n9 c9) rfl (by nofun)).set 0 2 (.slice D9 m9 d9) rfl (by nofun))
 replace S:=Lib.hid S
 go_wp2
 refine bodyPost_ret (res_min_any _ _ (w.heap.size+1+1) 26 rfl (S.out.bk _ (List.mem_of_getElem? (i:=0) rfl)).1) rfl ?_
 exact⟨_,_,_,_,_,_,rfl,⟨S.out.r 1 rfl,S.out.r 0 rfl⟩,S.out.bel⟩
theorem min_any (b1:Bool) (A1:Option Addr) (n1 c1:Nat) (x1:List Nat) (D1:Option Addr) (m1 d1:Nat) (y1:List Nat) (q1:Rat) (b2:Bool) (A2:Option Addr) (n2 c2:Nat) (x2:List Nat) (D2:Option Addr) (m2 d2:Nat) (y2:List Nat) (q2:Rat) (w:World) (X1:Rw w b1 A1 n1 c1 x1 D1 m1 d1 y1 q1) (X2:Rw w b2 A2 n2 c2 x2 D2 m2 d2 y2 q2):Calls Tryz.prog 96 #[.agg #[.bool b1,.slice A1 n1 c1,.slice D1 m1 d1],.agg #[.bool b2,.slice A2 n2 c2,.slice D2 m2 d2]] w (RetR (mn q1 q2) w):=by
 by_cases h:q2<q1
 ·rw[show mn q1 q2=q2 from if_pos h];exact min_any_a b1 A1 n1 c1 x1 D1 m1 d1 y1 q1 b2 A2 n2 c2 x2 D2 m2 d2 y2 q2 h w X1 X2
 ·rw[show mn q1 q2=q1 from if_neg h];exact min_any_b b1 A1 n1 c1 x1 D1 m1 d1 y1 q1 b2 A2 n2 c2 x2 D2 m2 d2 y2 q2 h w X1 X2
theorem res_max_any (W:World) (tmps:Array Value) (g t:Nat) {v0 v1 v2:Value} (ht:tmps.getD 4 undef=.pointer (some ⟨g,0,none⟩)) (h:Cb W g #[v0,v1,v2] t) :
  (results Tryz.f95 tmps).run Tryz.prog W=.ok (.agg #[v0,v1,v2]) W:=by
 have c0:W.cell? ⟨g,0,none⟩=some v0:=h.cell rfl
 have c1:W.cell? ⟨g,1,none⟩=some v1:=h.cell rfl
 have c2:W.cell? ⟨g,2,none⟩=some v2:=h.cell rfl
 have ht':tmps[4]?.getD undef=.pointer (some ⟨g,0,none⟩):=by rw[←ht];simp[Array.getD_eq_getD_getElem?]
 simp[results,Tryz.results95,go_sem,ht',c0,c1,c2]
set_option maxRecDepth 100000 in
set_option maxHeartbeats 4000000 in
theorem max_any_a (b1:Bool) (A1:Option Addr) (n1 c1:Nat) (x1:List Nat) (D1:Option Addr) (m1 d1:Nat) (y1:List Nat) (q1:Rat) (b2:Bool) (A2:Option Addr) (n2 c2:Nat) (x2:List Nat) (D2:Option Addr) (m2 d2:Nat) (y2:List Nat) (q2:Rat) (h:q1<q2) (w:World) (X1:Rw w b1 A1 n1 c1 x1 D1 m1 d1 y1 q1) (X2:Rw w b2 A2 n2 c2 x2 D2 m2 d2 y2 q2):Calls Tryz.prog 95 #[.agg #[.bool b1,.slice A1 n1 c1,.slice D1 m1 d1],.agg #[.bool b2,.slice A2 n2 c2,.slice D2 m2 d2]] w (RetR q2 w):=by
 have hL:=fun W h1 h2=>less_any b1 A1 n1 c1 x1 D1 m1 d1 y1 q1 b2 A2 n2 c2 x2 D2 m2 d2 y2 q2 W h1 h2
 rw[show decide (q1<q2)=true from decide_eq_true h] at hL
 replace hL:=Lib.hid hL
 clear h
 have hT:=Lib.hid (fun W h1=>takeF b2 A2 n2 c2 x2 D2 m2 d2 y2 q2 W h1)
 have k1:=Lib.hid X1.k
 have k2:=Lib.hid X2.k
 have S:=((((((((St.new w).read X1.rn).read X1.rd).read X2.rn).read X2.rd).allocAt (w.heap.size) #[.bool b1,.slice A1 n1 c1,.slice D1 m1 d1] 26 (noL3 _ _ _ _ _ _ _) (by simp)).allocAt (w.heap.size+1) #[.bool b2,.slice A2 n2 c2,.slice D2 m2 d2] 26 (noL3 _ _ _ _ _ _ _) (by simp)).allocAt (w.heap.size+1+1) #[.bool false,.slice none 0 0,.slice none 0 0] 26 (noL3 _ _ _ _ _ _ _) (by simp))
 replace S:=Lib.hid S
 clear X1 X2
 go_enter Tryz.func95,Tryz.ntmps95
 go_wp2_with fail
 refine (hL.out _ (Rw.of (S.out.r 3 rfl) (S.out.r 2 rfl) k1.out) (Rw.of (S.out.r 1 rfl) (S.out.r 0 rfl) k2.out)).mono ?_
 rintro e w1 ⟨rfl,bb⟩
 have T:=(S.out.call bb)
 clear bb S
 have S:=T
 clear T
 obtain⟨c_r0,c_r1,c_r2,f_r0,f_r1,f_r2⟩:=S.cf3 0 rfl
 obtain⟨c_y0,c_y1,c_y2,f_y0,f_y1,f_y2⟩:=S.cf3 1 rfl
 obtain⟨c_x0,c_x1,c_x2,f_x0,f_x1,f_x2⟩:=S.cf3 2 rfl
 have hz:w.heap.size+1+1<w1.heap.size:=S.lt 0 rfl
 replace S:=Lib.hid S
 clear hL
 go_wp2_with fail
 refine (hT.out _ (Rw.of (S.out.r 1 rfl) (S.out.r 0 rfl) k2.out)).mono ?_
 rintro e w2 ⟨A9,n9,c9,D9,m9,d9,rfl,Q9,bb⟩
 have T:=(((S.out.call bb).read Q9.n).read Q9.d)
 clear bb S c_r0 f_r0 c_r1 f_r1 c_r2 f_r2 c_y0 f_y0 c_y1 f_y1 c_y2 f_y2 c_x0 f_x0 c_x1 f_x1 c_x2 f_x2 hz
 have S:=T
 clear T
 obtain⟨c_r0,c_r1,c_r2,f_r0,f_r1,f_r2⟩:=S.cf3 0 rfl
 obtain⟨c_y0,c_y1,c_y2,f_y0,f_y1,f_y2⟩:=S.cf3 1 rfl
 obtain⟨c_x0,c_x1,c_x2,f_x0,f_x1,f_x2⟩:=S.cf3 2 rfl
 have hz:w.heap.size+1+1<w2.heap.size:=S.lt 0 rfl
 replace S:=Lib.hid S
 clear Q9 hT
 have S:St w _ [(w.heap.size+1+1,#[.bool (ng q2.num),.slice A9 n9 c9,.slice D9 m9 d9],26),(w.heap.size+1,#[.bool b2,.slice A2 n2 c2,.slice D2 m2 d2],26),(w.heap.size,#[.bool b1,.slice A1 n1 c1,.slice D1 m1 d1],26)] [(D9,m9,d9,dn q2),(A9,n9,c9,limbs q2.num.natAbs),(D2,m2,d2,y2),(A2,n2,c2,x2),(D1,m1,d1,y1),(A1,n1,c1,x1)]:=(((S.out.set 0 0 (.bool (ng q2.num)) rfl (by nofun)).set 0 1 (.slice A9 n9 c9) rfl (by nofun)).set 0 2 (.slice D9 m9 d9) rfl (by nofun))
 replace S:=Lib.hid S
 go_wp2
 refine bodyPost_ret (res_max_any _ _ (w.heap.size+1+1) 26 rfl (S.out.bk _ (List.mem_of_getElem? (i:=0) rfl)).1) rfl ?_
 exact⟨_,_,_,_,_,_,rfl,⟨S.out.r 1 rfl,S.out.r 0 rfl⟩,S.out.bel⟩
set_option maxRecDepth 100000 in
set_option maxHeartbeats 4000000 in
theorem max_any_b (b1:Bool) (A1:Option Addr) (n1 c1:Nat) (x1:List Nat) (D1:Option Addr) (m1 d1:Nat) (y1:List Nat) (q1:Rat) (b2:Bool) (A2:Option Addr) (n2 c2:Nat) (x2:List Nat) (D2:Option Addr) (m2 d2:Nat) (y2:List Nat) (q2:Rat) (h:¬ q1<q2) (w:World) (X1:Rw w b1 A1 n1 c1 x1 D1 m1 d1 y1 q1) (X2:Rw w b2 A2 n2 c2 x2 D2 m2 d2 y2 q2):Calls Tryz.prog 95 #[.agg #[.bool b1,.slice A1 n1 c1,.slice D1 m1 d1],.agg #[.bool b2,.slice A2 n2 c2,.slice D2 m2 d2]] w (RetR q1 w):=by
 have hL:=fun W h1 h2=>less_any b1 A1 n1 c1 x1 D1 m1 d1 y1 q1 b2 A2 n2 c2 x2 D2 m2 d2 y2 q2 W h1 h2
 rw[show decide (q1<q2)=false from decide_eq_false h] at hL
 replace hL:=Lib.hid hL
 clear h
 have hT:=Lib.hid (fun W h1=>takeF b1 A1 n1 c1 x1 D1 m1 d1 y1 q1 W h1)
 have k1:=Lib.hid X1.k
 have k2:=Lib.hid X2.k
 have S:=((((((((St.new w).read X1.rn).read X1.rd).read X2.rn).read X2.rd).allocAt (w.heap.size) #[.bool b1,.slice A1 n1 c1,.slice D1 m1 d1] 26 (noL3 _ _ _ _ _ _ _) (by simp)).allocAt (w.heap.size+1) #[.bool b2,.slice A2 n2 c2,.slice D2 m2 d2] 26 (noL3 _ _ _ _ _ _ _) (by simp)).allocAt (w.heap.size+1+1) #[.bool false,.slice none 0 0,.slice none 0 0] 26 (noL3 _ _ _ _ _ _ _) (by simp))
 replace S:=Lib.hid S
 clear X1 X2
 go_enter Tryz.func95,Tryz.ntmps95
 go_wp2_with fail
 refine (hL.out _ (Rw.of (S.out.r 3 rfl) (S.out.r 2 rfl) k1.out) (Rw.of (S.out.r 1 rfl) (S.out.r 0 rfl) k2.out)).mono ?_
 rintro e w1 ⟨rfl,bb⟩
 have T:=(S.out.call bb)
 clear bb S
 have S:=T
 clear T
 obtain⟨c_r0,c_r1,c_r2,f_r0,f_r1,f_r2⟩:=S.cf3 0 rfl
 obtain⟨c_y0,c_y1,c_y2,f_y0,f_y1,f_y2⟩:=S.cf3 1 rfl
 obtain⟨c_x0,c_x1,c_x2,f_x0,f_x1,f_x2⟩:=S.cf3 2 rfl
 have hz:w.heap.size+1+1<w1.heap.size:=S.lt 0 rfl
 replace S:=Lib.hid S
 clear hL
 go_wp2_with fail
 refine (hT.out _ (Rw.of (S.out.r 3 rfl) (S.out.r 2 rfl) k1.out)).mono ?_
 rintro e w2 ⟨A9,n9,c9,D9,m9,d9,rfl,Q9,bb⟩
 have T:=(((S.out.call bb).read Q9.n).read Q9.d)
 clear bb S c_r0 f_r0 c_r1 f_r1 c_r2 f_r2 c_y0 f_y0 c_y1 f_y1 c_y2 f_y2 c_x0 f_x0 c_x1 f_x1 c_x2 f_x2 hz
 have S:=T
 clear T
 obtain⟨c_r0,c_r1,c_r2,f_r0,f_r1,f_r2⟩:=S.cf3 0 rfl
 obtain⟨c_y0,c_y1,c_y2,f_y0,f_y1,f_y2⟩:=S.cf3 1 rfl
 obtain⟨c_x0,c_x1,c_x2,f_x0,f_x1,f_x2⟩:=S.cf3 2 rfl
 have hz:w.heap.size+1+1<w2.heap.size:=S.lt 0 rfl
 replace S:=Lib.hid S
 clear Q9 hT
 have S:St w _ [(w.heap.size+1+1,#[.bool (ng q1.num),.slice A9 n9 c9,.slice D9 m9 d9],26),(w.heap.size+1,#[.bool b2,.slice A2 n2 c2,.slice D2 m2 d2],26),(w.heap.size,#[.bool b1,.slice A1 n1 c1,.slice D1 m1 d1],26)] [(D9,m9,d9,dn q1),(A9,n9,c9,limbs q1.num.natAbs),(D2,m2,d2,y2),(A2,n2,c2,x2),(D1,m1,d1,y1),(A1,n1,c1,x1)]:=(((S.out.set 0 0 (.bool (ng q1.num)) rfl (by nofun)).set 0 1 (.slice A9 n9 c9) rfl (by nofun)).set 0 2 (.slice D9 m9 d9) rfl (by nofun))
 replace S:=Lib.hid S
 go_wp2
 refine bodyPost_ret (res_max_any _ _ (w.heap.size+1+1) 26 rfl (S.out.bk _ (List.mem_of_getElem? (i:=0) rfl)).1) rfl ?_
 exact⟨_,_,_,_,_,_,rfl,⟨S.out.r 1 rfl,S.out.r 0 rfl⟩,S.out.bel⟩
theorem max_any (b1:Bool) (A1:Option Addr) (n1 c1:Nat) (x1:List Nat) (D1:Option Addr) (m1 d1:Nat) (y1:List Nat) (q1:Rat) (b2:Bool) (A2:Option Addr) (n2 c2:Nat) (x2:List Nat) (D2:Option Addr) (m2 d2:Nat) (y2:List Nat) (q2:Rat) (w:World) (X1:Rw w b1 A1 n1 c1 x1 D1 m1 d1 y1 q1) (X2:Rw w b2 A2 n2 c2 x2 D2 m2 d2 y2 q2):Calls Tryz.prog 95 #[.agg #[.bool b1,.slice A1 n1 c1,.slice D1 m1 d1],.agg #[.bool b2,.slice A2 n2 c2,.slice D2 m2 d2]] w (RetR (mx q1 q2) w):=by
 by_cases h:q1<q2
 ·rw[show mx q1 q2=q2 from if_pos h];exact max_any_a b1 A1 n1 c1 x1 D1 m1 d1 y1 q1 b2 A2 n2 c2 x2 D2 m2 d2 y2 q2 h w X1 X2
 ·rw[show mx q1 q2=q1 from if_neg h];exact max_any_b b1 A1 n1 c1 x1 D1 m1 d1 y1 q1 b2 A2 n2 c2 x2 D2 m2 d2 y2 q2 h w X1 X2
end Go.Proofs.YtphckmdnflbloaaGreat

namespace Go.Proofs.YtphckmdnflbloaaGreat
open Go.RowKit RQ
section
variable {P:Program} {ops:Array Oper} {Q:Exit→Act→World→Prop} {S:World→Prop}
/-- Either of two operations comes next. -/
theorem Wk.two {i j:Nat} {oi oj:Oper} {L:Array Bool} {a:Act} {w:World} (hi:ops[i]?=some oi) (hj:ops[j]?=some oj) (hr:(((Region.ready .any ops L==[i,j])&&oi.guard.isNone)&&oj.guard.isNone)=true)
  (h1:∀ K':Act→World→Prop,Shut (∀ a w,S w→Wk P ops Q S (L.setIfInBounds i true) a w→K' a w)→Oper.wp P oi a w K' Q)
  (h2:∀ K':Act→World→Prop,Shut (∀ a w,S w→Wk P ops Q S (L.setIfInBounds j true) a w→K' a w)→Oper.wp P oj a w K' Q):Wk P ops Q S L a w:=by
 simp only[Bool.and_eq_true,beq_iff_eq] at hr
 obtain⟨⟨r,gi⟩,gj⟩:=hr
 refine Wk.all ⟨i,by rw[r];simp⟩ fun k hk=>?_
 rw[r] at hk
 rcases List.mem_cons.1 hk with rfl | hk
 ·exact wpOp_step hi (fun K' hK=>by rw[if_pos (wanted_none gi)];exact h1 K' (fun a w hS hW=>hK a w ⟨hS,hW⟩))
 ·have:=List.mem_singleton.1 hk
  subst this
  exact wpOp_step hj (fun K' hK=>by rw[if_pos (wanted_none gj)];exact h2 K' (fun a w hS hW=>hK a w ⟨hS,hW⟩))
end
theorem res_rhull (W:World) (tmps:Array Value) (g t:Nat) {v0 v1 v2 v3 v4 v5:Value} (ht:tmps.getD 2 undef=.pointer (some ⟨g,0,none⟩)) (h:Cb W g #[v0,v1,v2,v3,v4,v5] t) :
  (results Tryz.f83 tmps).run Tryz.prog W=.ok (.agg #[v0,v1,v2,v3,v4,v5]) W:=by
 have c0:W.cell? ⟨g,0,none⟩=some v0:=h.cell rfl
 have c1:W.cell? ⟨g,1,none⟩=some v1:=h.cell rfl
 have c2:W.cell? ⟨g,2,none⟩=some v2:=h.cell rfl
 have c3:W.cell? ⟨g,3,none⟩=some v3:=h.cell rfl
 have c4:W.cell? ⟨g,4,none⟩=some v4:=h.cell rfl
 have c5:W.cell? ⟨g,5,none⟩=some v5:=h.cell rfl
 have ht':tmps[2]?.getD undef=.pointer (some ⟨g,0,none⟩):=by rw[←ht];simp[Array.getD_eq_getD_getElem?]
 simp[results,Tryz.results83,go_sem,ht',c0,c1,c2,c3,c4,c5]
set_option maxRecDepth 100000 in
set_option maxHeartbeats 8000000 in
theorem rhull_any (L:List Rt) (g:Nat) (w:World) (h:Lt w g L) (hL:0<L.length) (hl:L.length≤1000) (hs:∀ r∈L,Rs r.q 40):Calls Tryz.prog 83 #[.slice (some ⟨g,0,none⟩) L.length L.length] w (RetV (minL (L.map (·.q))) (maxL (L.map (·.q))) w):=by
 obtain⟨r0,hr0⟩:∃ r,L[0]?=some r:=⟨L[0],by simp⟩
 have hm0:=Lib.hid (List.mem_of_getElem? hr0)
 have e1:=Lib.hid (minL_one (L.map (·.q)) (x:=r0.q) (by rw[List.getElem?_map,hr0];rfl))
 have e2:=Lib.hid (maxL_one (L.map (·.q)) (x:=r0.q) (by rw[List.getElem?_map,hr0];rfl))
 have hT:=Lib.hid (fun W (h':Lt W g L)=>takeF r0.b r0.A r0.n r0.c r0.x r0.D r0.m r0.d r0.y r0.q W (h'.at_ r0 hm0.out))
 have hz0:Hid (∀ W,Lt W g L→W.cell? ⟨g,0,none⟩=some (.bool r0.b)∧W.cell? ⟨g,1,none⟩=some (.slice r0.A r0.n r0.c)∧W.cell? ⟨g,2,none⟩=some (.slice r0.D r0.m r0.d)):=Lib.hid fun W h'=>by
  have:=h'.cl 0 r0 hr0
  simpa using this
 obtain⟨q0,hq0⟩:∃ q,q=r0.q:=⟨_,rfl⟩
 rw[←hq0] at hT
 have hk':=Lib.hid (rfl:L.length=L.length)
 generalize hk:L.length=k at hL hl hk' ⊢
 replace hk:=Lib.hid hk
 clear hk'
 replace h:=Lib.hid h
 replace hs:=Lib.hid hs
 replace hq0:=Lib.hid hq0
 have k3:(0:Int)<(k:Int):=by omega
 have S:=(St.new w).allocAt (w.heap.size) #[.bool false,.slice none 0 0,.slice none 0 0,.bool false,.slice none 0 0,.slice none 0 0] 28 (noL6 _ _ _ _ _ _ _ _ _ _ _ _ _ _) (by simp)
 replace S:=Lib.hid S
 clear hr0
 go_enter Tryz.func83,Tryz.ntmps83
 go_upto_region 1 with fail
 have S:=S.out
 generalize hW1:(World.alloc w (.cells #[.bool false,.slice none 0 0,.slice none 0 0,.bool false,.slice none 0 0,.slice none 0 0] 28))=w1 at S ⊢
 clear hW1
 refine RW.begin (Z:=[⟨9,3,#[.bool false,.slice none 0 0,.slice none 0 0,.bool false,.slice none 0 0,.slice none 0 0],28⟩]) (S:=fun W=>Lt W g L) (by kernel_rfl) ?_ S ?_
 ·exact⟨by kernel_rfl,zis_cons at9 (fun _ _=>by kernel_rfl) zis_nil,by decide,by decide,nol_cons (noL6 _ _ _ _ _ _ _ _ _ _ _ _ _ _) nol_nil,fun _ _ hh=>h.out.bel hh.bel⟩
 intro hzk
 clear S
 refine RW.t (i:=0) (v:=.slice (some ⟨g,0,none⟩) k k) (some 5) at0 (hy:=fun _ _=>by kernel_rfl) (h:=?_)
 refine RW.t (i:=1) (v:=.pointer (some ⟨g,0,none⟩)) (some 6) at1 (hy:=fun _ _=>by go_simp) (h:=?_)
 refine RW.t (i:=2) (v:=.agg #[.bool r0.b,.slice r0.A r0.n r0.c,.slice r0.D r0.m r0.d]) (some 7) at2 (hy:=fun W hS=>by (obtain⟨k0,k1,k2⟩:=hz0.out W hS;clear hS;go_simp)) (h:=?_)
 refine RW.t (i:=4) (v:=.slice (some ⟨g,0,none⟩) k k) (some 9) at4 (hy:=fun _ _=>by kernel_rfl) (h:=?_)
 refine RW.t (i:=5) (v:=.pointer (some ⟨g,0,none⟩)) (some 10) at5 (hy:=fun _ _=>by go_simp) (h:=?_)
 refine RW.t (i:=6) (v:=.agg #[.bool r0.b,.slice r0.A r0.n r0.c,.slice r0.D r0.m r0.d]) (some 11) at6 (hy:=fun W hS=>by (obtain⟨k0,k1,k2⟩:=hz0.out W hS;clear hS;go_simp)) (h:=?_)
 refine RW.c (i:=3) (args:=#[.agg #[.bool r0.b,.slice r0.A r0.n r0.c,.slice r0.D r0.m r0.d]]) (some 8) hzk.out at3 (hx:=fun _=>by kernel_rfl) (h:=fun _ S=>(hT.out _ (h.out.bel S.bel)).mono ?_)
 rintro e w2 ⟨A21,n21,c21,D21,m21,d21,rfl,Q21,bb⟩
 refine⟨bb,_,[(D21,m21,d21,dn q0),(A21,n21,c21,limbs q0.num.natAbs)],rfl,(rd_cons Q21.d (rd_cons Q21.n rd_nil)),?_⟩
 clear bb S Q21
 refine RW.c (i:=7) (args:=#[.agg #[.bool r0.b,.slice r0.A r0.n r0.c,.slice r0.D r0.m r0.d]]) (some 12) hzk.out at7 (hx:=fun _=>by kernel_rfl) (h:=fun _ S=>(hT.out _ (h.out.bel S.bel)).mono ?_)
 rintro e w3 ⟨A22,n22,c22,D22,m22,d22,rfl,Q22,bb⟩
 refine⟨bb,_,[(D22,m22,d22,dn q0),(A22,n22,c22,limbs q0.num.natAbs)],rfl,(rd_cons Q22.d (rd_cons Q22.n rd_nil)),?_⟩
 clear bb S Q22
 refine RW.t (i:=8) (v:=.agg #[.bool (ng q0.num),.slice A21 n21 c21,.slice D21 m21 d21,.bool (ng q0.num),.slice A22 n22 c22,.slice D22 m22 d22]) (some 13) at8 (hy:=fun _ _=>by kernel_rfl) (h:=?_)
 refine RW.tail hzk.out (by kernel_rfl) ?_
 intro gs w9 hgs hS S
 obtain⟨g_o,rfl⟩:=len1' hgs
 clear hS hgs hzk
 simp only[mark,fill,List.map,Act.put,List.setIfInBounds_toArray,List.set_cons_zero,List.set_cons_succ]
 refine Wk.o (i:=10) at10 (by kernel_rfl) fun K' hK=>?_
 have q10_o0:=St.cl (S) 0 0 rfl rfl
 have q10_o1:=St.cl (S) 0 1 rfl rfl
 have q10_o2:=St.cl (S) 0 2 rfl rfl
 have q10_o3:=St.cl (S) 0 3 rfl rfl
 have q10_o4:=St.cl (S) 0 4 rfl rfl
 have q10_o5:=St.cl (S) 0 5 rfl rfl
 have q10z_o0:=St.f (S) 0 0 rfl
 have q10z_o1:=St.f (S) 0 1 rfl
 have q10z_o2:=St.f (S) 0 2 rfl
 have q10z_o3:=St.f (S) 0 3 rfl
 have q10z_o4:=St.f (S) 0 4 rfl
 have q10z_o5:=St.f (S) 0 5 rfl
 go_simp
 have SN:=((((((S.set 0 0 (.bool (ng q0.num)) rfl (by nofun)).set 0 1 (.slice A21 n21 c21) rfl (by nofun)).set 0 2 (.slice D21 m21 d21) rfl (by nofun)).set 0 3 (.bool (ng q0.num)) rfl (by nofun)).set 0 4 (.slice A22 n22 c22) rfl (by nofun)).set 0 5 (.slice D22 m22 d22) rfl (by nofun))
 clear S q10_o0 q10_o1 q10_o2 q10_o3 q10_o4 q10_o5 q10z_o0 q10z_o1 q10z_o2 q10z_o3 q10z_o4 q10z_o5
 have S:=SN
 clear SN
 refine hK.out _ _ (h.out.bel S.bel) ?_
 clear hK K'
 replace S:=Lib.hid S
 try simp only[Act.put,List.setIfInBounds_toArray,List.set_cons_zero,List.set_cons_succ]
 refine Wk.done (by kernel_rfl) ?_
 go_simp
 replace S:=S.out
 have S:St w _ [(g_o,#[.bool (ng q0.num),.slice A21 n21 c21,.slice D21 m21 d21,.bool (ng q0.num),.slice A22 n22 c22,.slice D22 m22 d22],28),(w.heap.size,#[.bool false,.slice none 0 0,.slice none 0 0,.bool false,.slice none 0 0,.slice none 0 0],28)] [(D22,m22,d22,dn q0),(A22,n22,c22,limbs q0.num.natAbs),(D21,m21,d21,dn q0),(A21,n21,c21,limbs q0.num.natAbs)]:=S
 generalize hW4:(World.setCell (World.setCell (World.setCell (World.setCell (World.setCell (World.setCell w9 ⟨g_o,0,none⟩ (.bool (ng q0.num))) ⟨g_o,1,none⟩ (.slice A21 n21 c21)) ⟨g_o,2,none⟩ (.slice D21 m21 d21)) ⟨g_o,3,none⟩ (.bool (ng q0.num))) ⟨g_o,4,none⟩ (.slice A22 n22 c22)) ⟨g_o,5,none⟩ (.slice D22 m22 d22))=w4 at S ⊢
 clear hW4
 replace S:=Lib.hid S
 replace S:=Lib.hid S
 go_wp2
 go_loopw [4] (fun iv wr=>∃ (i:Nat) (A31:Option Addr) (n31 c31:Nat) (D31:Option Addr) (m31 d31:Nat) (A32:Option Addr) (n32 c32:Nat) (D32:Option Addr) (m32 d32:Nat),1≤i∧i≤k∧iv=.int .i64 i∧St w wr [(g_o,#[.bool (ng ((minL (List.take i (L.map (·.q))))).num),.slice A31 n31 c31,.slice D31 m31 d31,.bool (ng ((maxL (List.take i (L.map (·.q))))).num),.slice A32 n32 c32,.slice D32 m32 d32],28),(w.heap.size,#[.bool false,.slice none 0 0,.slice none 0 0,.bool false,.slice none 0 0,.slice none 0 0],28)] [(D32,m32,d32,dn ((maxL (List.take i (L.map (·.q)))))),(A32,n32,c32,limbs ((maxL (List.take i (L.map (·.q))))).num.natAbs),(D31,m31,d31,dn ((minL (List.take i (L.map (·.q)))))),(A31,n31,c31,limbs ((minL (List.take i (L.map (·.q))))).num.natAbs)]) (fun iv _=>k-(intOf iv).toNat)
 case atStart=>exact⟨1,A21,n21,c21,D21,m21,d21,A22,n22,c22,D22,m22,d22,Nat.le_refl _,by omega,rfl,by rw[e1.out,e2.out,←hq0.out];exact S.out⟩
 case round=>
  clear S hT hz0 e1 e2 hm0 hq0
  obtain⟨i,A31,n31,c31,D31,m31,d31,A32,n32,c32,D32,m32,d32,hi1,hik,rfl,S⟩:=hrel
  have hne:List.take i (L.map (·.q))≠[]:=by intro e;rcases List.take_eq_nil_iff.1 e with e | e;omega;rw[List.map_eq_nil_iff] at e;rw[e] at hk;have:=hk.out;simp at this;omega
  have hmq:∀ y∈List.take i (L.map (·.q)),Rs y 40:=fun y hy=>by obtain⟨r,hr,rfl⟩:=List.mem_map.1 (List.mem_of_mem_take hy);exact hs.out r hr
  have sl:=Lib.hid (hmq _ (minL_mem hne))
  have sh:=Lib.hid (hmq _ (maxL_mem hne))
  clear hmq hne
  by_cases hlt:i<k
  ·obtain⟨x,hx⟩:∃ x,L[i]?=some x:=⟨L[i]'(by rw[hk.out];exact hlt),by simp⟩
   have hxm:=Lib.hid (List.mem_of_getElem? hx)
   have st1:mn (minL (List.take i (L.map (·.q)))) x.q=minL ((L.map (·.q)).take (i+1)):=minL_step (L.map (fun z:Rt=>z.q)) i hi1 (x:=x.q) (by rw[List.getElem?_map,hx];rfl) rfl
   have st2:mx (maxL (List.take i (L.map (·.q)))) x.q=maxL ((L.map (·.q)).take (i+1)):=maxL_step (L.map (fun z:Rt=>z.q)) i hi1 (x:=x.q) (by rw[List.getElem?_map,hx];rfl) rfl
   obtain⟨lo,hlo⟩:∃ lo,lo=(minL (List.take i (L.map (·.q)))):=⟨_,rfl⟩
   obtain⟨hi,hhi⟩:∃ hi,hi=(maxL (List.take i (L.map (·.q)))):=⟨_,rfl⟩
   rw[←hlo] at S sl st1
   rw[←hhi] at S sh st2
   clear hlo hhi
   obtain⟨l2,hl2⟩:∃ l2,l2=mn lo x.q:=⟨_,rfl⟩
   obtain⟨h2,hh2⟩:∃ h2,h2=mx hi x.q:=⟨_,rfl⟩
   have hMn:Hid (∀ W,RR W A31 n31 c31 D31 m31 d31 lo→Lt W g L→Calls Tryz.prog 96 #[.agg #[.bool (ng lo.num),.slice A31 n31 c31,.slice D31 m31 d31],.agg #[.bool x.b,.slice x.A x.n x.c,.slice x.D x.m x.d]] W (RetR l2 W)):=Lib.hid fun W h1 h2'=>by rw[hl2];exact min_any _ _ _ _ _ _ _ _ _ _  x.b x.A x.n x.c x.x x.D x.m x.d x.y x.q W (RR.w h1 sl.out) (h2'.at_ x hxm.out)
   have hMx:Hid (∀ W,RR W A32 n32 c32 D32 m32 d32 hi→Lt W g L→Calls Tryz.prog 95 #[.agg #[.bool (ng hi.num),.slice A32 n32 c32,.slice D32 m32 d32],.agg #[.bool x.b,.slice x.A x.n x.c,.slice x.D x.m x.d]] W (RetR h2 W)):=Lib.hid fun W h1 h2'=>by rw[hh2];exact max_any _ _ _ _ _ _ _ _ _ _  x.b x.A x.n x.c x.x x.D x.m x.d x.y x.q W (RR.w h1 sh.out) (h2'.at_ x hxm.out)
   rw[←hl2] at st1
   rw[←hh2] at st2
   replace st1:=Lib.hid st1
   replace st2:=Lib.hid st2
   have hcx:Hid (∀ W,Lt W g L→W.cell? ⟨g,i*3,none⟩=some (.bool x.b)∧W.cell? ⟨g,i*3+1,none⟩=some (.slice x.A x.n x.c)∧W.cell? ⟨g,i*3+2,none⟩=some (.slice x.D x.m x.d)):=Lib.hid fun W h'=>h'.cl i x hx
   clear hl2 hh2 sl sh hx hs
   have g1:(i:Int)<(k:Int):=by omega
   have g0:(0:Int)≤(i:Int):=by omega
   have hh:=Lib.hid hlt
   have hh1:=Lib.hid hi1
   have hlh:=Lib.hid hl
   clear hlt hi1 hik hL hl k3
   obtain⟨dc0,dc1,dc2,dc3,dc4,dc5,df0,df1,df2,df3,df4,df5⟩:=St.cf6 (S) 0 rfl
   obtain⟨dx0,dx1,dx2⟩:=hcx.out _ (h.out.bel (S).bel)
   replace S:=Lib.hid S
   clear dc0 df0 dc1 df1 dc2 df2 dc3 df3 dc4 df4 dc5 df5 dx0 dx1 dx2
   go_upto_region 5 with fail
   refine RW.begin (Z:=[]) (S:=fun W=>Lt W g L) (by kernel_rfl) ?_ S.out ?_
   ·exact⟨by kernel_rfl,zis_nil,by decide,by decide,nol_nil,fun _ _ hh=>h.out.bel hh.bel⟩
   intro hzk
   clear S
   refine RW.t (i:=0) (v:=.pointer (some ⟨g_o,0,none⟩)) (some 20) at0 (hy:=fun _ _=>by kernel_rfl) (h:=?_)
   refine RW.t (i:=7) (v:=.pointer (some ⟨g_o,3,none⟩)) (some 27) at7 (hy:=fun _ _=>by kernel_rfl) (h:=?_)
   refine RW.t (i:=2) (v:=.slice (some ⟨g,0,none⟩) k k) (some 22) at2 (hy:=fun _ _=>by kernel_rfl) (h:=?_)
   refine RW.t (i:=3) (v:=.int .i64 i) (some 23) at3 (hy:=fun _ _=>by kernel_rfl) (h:=?_)
   refine RW.t (i:=4) (v:=.pointer (some ⟨g,i*3,none⟩)) (some 24) at4 (hy:=fun _ _=>by go_simp) (h:=?_)
   refine RW.t (i:=5) (v:=.agg #[.bool x.b,.slice x.A x.n x.c,.slice x.D x.m x.d]) (some 25) at5 (hy:=fun W hS=>by (obtain⟨k0,k1,k2⟩:=hcx.out W hS;clear hS;go_simp)) (h:=?_)
   refine RW.t (i:=9) (v:=.slice (some ⟨g,0,none⟩) k k) (some 29) at9 (hy:=fun _ _=>by kernel_rfl) (h:=?_)
   refine RW.t (i:=10) (v:=.int .i64 i) (some 30) at10 (hy:=fun _ _=>by kernel_rfl) (h:=?_)
   refine RW.t (i:=11) (v:=.pointer (some ⟨g,i*3,none⟩)) (some 31) at11 (hy:=fun _ _=>by go_simp) (h:=?_)
   refine RW.t (i:=12) (v:=.agg #[.bool x.b,.slice x.A x.n x.c,.slice x.D x.m x.d]) (some 32) at12 (hy:=fun W hS=>by (obtain⟨k0,k1,k2⟩:=hcx.out W hS;clear hS;go_simp)) (h:=?_)
   intro σ w2 hσ hS S
   obtain rfl:σ=[]:=List.length_eq_zero_iff.1 hσ
   clear hS hσ hzk
   have S:St w w2 [(g_o,#[.bool (ng lo.num),.slice A31 n31 c31,.slice D31 m31 d31,.bool (ng hi.num),.slice A32 n32 c32,.slice D32 m32 d32],28),(w.heap.size,#[.bool false,.slice none 0 0,.slice none 0 0,.bool false,.slice none 0 0,.slice none 0 0],28)] _:=S
   replace S:=Lib.hid S
   simp only[mark,fill,Act.put,List.setIfInBounds_toArray,List.set_cons_zero,List.set_cons_succ]
   refine Wk.two (i:=1) (j:=8) at1 at8 (by kernel_rfl) (fun K' hK=>?_) (fun K' hK=>?_)
   ·obtain⟨c0,c1,c2,c3,c4,c5,f0,f1,f2,f3,f4,f5⟩:=S.out.cf6 0 rfl
    go_simp
    clear c0 c1 c2 c3 c4 c5 f0 f1 f2 f3 f4 f5
    refine hK.out _ _ (h.out.bel S.out.bel) ?_
    clear hK K'
    try simp only[Act.put,List.setIfInBounds_toArray,List.set_cons_zero,List.set_cons_succ]
    refine Wk.two (i:=6) (j:=8) at6 at8 (by kernel_rfl) (fun K' hK=>?_) (fun K' hK=>?_)
    ·go_simp
     refine (hMn.out _ ⟨S.out.r 3 rfl,S.out.r 2 rfl⟩ (h.out.bel S.out.bel)).mono ?_
     rintro e wq5 ⟨A41,n41,c41,D41,m41,d41,rfl,Q41,bb⟩
     have T:=((S.out.call bb).read Q41.n).read Q41.d
     clear bb S Q41
     have S:=T
     clear T
     refine hK.out _ _ (h.out.bel S.bel) ?_
     clear hK K'
     replace S:=Lib.hid S
     try simp only[Act.put,List.setIfInBounds_toArray,List.set_cons_zero,List.set_cons_succ]
     refine Wk.o (i:=8) at8 (by kernel_rfl) fun K' hK=>?_
     obtain⟨c0,c1,c2,c3,c4,c5,f0,f1,f2,f3,f4,f5⟩:=S.out.cf6 0 rfl
     go_simp
     clear c0 c1 c2 c3 c4 c5 f0 f1 f2 f3 f4 f5
     refine hK.out _ _ (h.out.bel S.out.bel) ?_
     clear hK K'
     try simp only[Act.put,List.setIfInBounds_toArray,List.set_cons_zero,List.set_cons_succ]
     refine Wk.o (i:=13) at13 (by kernel_rfl) fun K' hK=>?_
     go_simp
     refine (hMx.out _ ⟨S.out.r 3 rfl,S.out.r 2 rfl⟩ (h.out.bel S.out.bel)).mono ?_
     rintro e wq6 ⟨A42,n42,c42,D42,m42,d42,rfl,Q42,bb⟩
     have T:=((S.out.call bb).read Q42.n).read Q42.d
     clear bb S Q42
     have S:=T
     clear T
     refine hK.out _ _ (h.out.bel S.bel) ?_
     clear hK K'
     replace S:=Lib.hid S
     try simp only[Act.put,List.setIfInBounds_toArray,List.set_cons_zero,List.set_cons_succ]
     refine Wk.o (i:=14) at14 (by kernel_rfl) fun K' hK=>?_
     go_simp
     refine hK.out _ _ (h.out.bel S.out.bel) ?_
     clear hK K'
     try simp only[Act.put,List.setIfInBounds_toArray,List.set_cons_zero,List.set_cons_succ]
     refine Wk.o (i:=15) at15 (by kernel_rfl) fun K' hK=>?_
     obtain⟨c0,c1,c2,c3,c4,c5,f0,f1,f2,f3,f4,f5⟩:=S.out.cf6 0 rfl
     go_simp
     have T:=((((((S.out.set 0 0 (.bool (ng l2.num)) rfl (by nofun)).set 0 1 (.slice A41 n41 c41) rfl (by nofun)).set 0 2 (.slice D41 m41 d41) rfl (by nofun)).set 0 3 (.bool (ng h2.num)) rfl (by nofun)).set 0 4 (.slice A42 n42 c42) rfl (by nofun)).set 0 5 (.slice D42 m42 d42) rfl (by nofun))
     clear S c0 c1 c2 c3 c4 c5 f0 f1 f2 f3 f4 f5
     have S:St w _ [(g_o,#[.bool (ng l2.num),.slice A41 n41 c41,.slice D41 m41 d41,.bool (ng h2.num),.slice A42 n42 c42,.slice D42 m42 d42],28),(w.heap.size,#[.bool false,.slice none 0 0,.slice none 0 0,.bool false,.slice none 0 0,.slice none 0 0],28)] _:=T
     clear T
     refine hK.out _ _ (h.out.bel S.bel) ?_
     clear hK K'
     replace S:=Lib.hid S
     try simp only[Act.put,List.setIfInBounds_toArray,List.set_cons_zero,List.set_cons_succ]
     refine Wk.done (by kernel_rfl) ?_
     go_simp
     replace hh1:=hh1
     have hlt:=hh.out
     have hi1:=hh1.out
     have hl:=hlh.out
     go_wp2
     go_roundw
     case rel=>exact⟨i+1,A41,n41,c41,D41,m41,d41,A42,n42,c42,D42,m42,d42,by omega,by omega,by go_num,by rw[←st1.out,←st2.out];exact S.out.pick [0,1] [0,1,2,3] rfl (by decide) rfl⟩
     case measure=>simp[intOf];omega
    ·obtain⟨c0,c1,c2,c3,c4,c5,f0,f1,f2,f3,f4,f5⟩:=S.out.cf6 0 rfl
     go_simp
     clear c0 c1 c2 c3 c4 c5 f0 f1 f2 f3 f4 f5
     refine hK.out _ _ (h.out.bel S.out.bel) ?_
     clear hK K'
     try simp only[Act.put,List.setIfInBounds_toArray,List.set_cons_zero,List.set_cons_succ]
     refine Wk.o (i:=6) at6 (by kernel_rfl) fun K' hK=>?_
     go_simp
     refine (hMn.out _ ⟨S.out.r 3 rfl,S.out.r 2 rfl⟩ (h.out.bel S.out.bel)).mono ?_
     rintro e wq5 ⟨A41,n41,c41,D41,m41,d41,rfl,Q41,bb⟩
     have T:=((S.out.call bb).read Q41.n).read Q41.d
     clear bb S Q41
     have S:=T
     clear T
     refine hK.out _ _ (h.out.bel S.bel) ?_
     clear hK K'
     replace S:=Lib.hid S
     try simp only[Act.put,List.setIfInBounds_toArray,List.set_cons_zero,List.set_cons_succ]
     refine Wk.o (i:=13) at13 (by kernel_rfl) fun K' hK=>?_
     go_simp
     refine (hMx.out _ ⟨S.out.r 3 rfl,S.out.r 2 rfl⟩ (h.out.bel S.out.bel)).mono ?_
     rintro e wq6 ⟨A42,n42,c42,D42,m42,d42,rfl,Q42,bb⟩
     have T:=((S.out.call bb).read Q42.n).read Q42.d
     clear bb S Q42
     have S:=T
     clear T
     refine hK.out _ _ (h.out.bel S.bel) ?_
     clear hK K'
     replace S:=Lib.hid S
     try simp only[Act.put,List.setIfInBounds_toArray,List.set_cons_zero,List.set_cons_succ]
     refine Wk.o (i:=14) at14 (by kernel_rfl) fun K' hK=>?_
     go_simp
     refine hK.out _ _ (h.out.bel S.out.bel) ?_
     clear hK K'
     try simp only[Act.put,List.setIfInBounds_toArray,List.set_cons_zero,List.set_cons_succ]
     refine Wk.o (i:=15) at15 (by kernel_rfl) fun K' hK=>?_
     obtain⟨c0,c1,c2,c3,c4,c5,f0,f1,f2,f3,f4,f5⟩:=S.out.cf6 0 rfl
     go_simp
     have T:=((((((S.out.set 0 0 (.bool (ng l2.num)) rfl (by nofun)).set 0 1 (.slice A41 n41 c41) rfl (by nofun)).set 0 2 (.slice D41 m41 d41) rfl (by nofun)).set 0 3 (.bool (ng h2.num)) rfl (by nofun)).set 0 4 (.slice A42 n42 c42) rfl (by nofun)).set 0 5 (.slice D42 m42 d42) rfl (by nofun))
     clear S c0 c1 c2 c3 c4 c5 f0 f1 f2 f3 f4 f5
     have S:St w _ [(g_o,#[.bool (ng l2.num),.slice A41 n41 c41,.slice D41 m41 d41,.bool (ng h2.num),.slice A42 n42 c42,.slice D42 m42 d42],28),(w.heap.size,#[.bool false,.slice none 0 0,.slice none 0 0,.bool false,.slice none 0 0,.slice none 0 0],28)] _:=T
     clear T
     refine hK.out _ _ (h.out.bel S.bel) ?_
     clear hK K'
     replace S:=Lib.hid S
     try simp only[Act.put,List.setIfInBounds_toArray,List.set_cons_zero,List.set_cons_succ]
     refine Wk.done (by kernel_rfl) ?_
     go_simp
     replace hh1:=hh1
     have hlt:=hh.out
     have hi1:=hh1.out
     have hl:=hlh.out
     go_wp2
     go_roundw
     case rel=>exact⟨i+1,A41,n41,c41,D41,m41,d41,A42,n42,c42,D42,m42,d42,by omega,by omega,by go_num,by rw[←st1.out,←st2.out];exact S.out.pick [0,1] [0,1,2,3] rfl (by decide) rfl⟩
     case measure=>simp[intOf];omega
   ·obtain⟨c0,c1,c2,c3,c4,c5,f0,f1,f2,f3,f4,f5⟩:=S.out.cf6 0 rfl
    go_simp
    clear c0 c1 c2 c3 c4 c5 f0 f1 f2 f3 f4 f5
    refine hK.out _ _ (h.out.bel S.out.bel) ?_
    clear hK K'
    try simp only[Act.put,List.setIfInBounds_toArray,List.set_cons_zero,List.set_cons_succ]
    refine Wk.o (i:=1) at1 (by kernel_rfl) fun K' hK=>?_
    obtain⟨c0,c1,c2,c3,c4,c5,f0,f1,f2,f3,f4,f5⟩:=S.out.cf6 0 rfl
    go_simp
    clear c0 c1 c2 c3 c4 c5 f0 f1 f2 f3 f4 f5
    refine hK.out _ _ (h.out.bel S.out.bel) ?_
    clear hK K'
    try simp only[Act.put,List.setIfInBounds_toArray,List.set_cons_zero,List.set_cons_succ]
    refine Wk.o (i:=6) at6 (by kernel_rfl) fun K' hK=>?_
    go_simp
    refine (hMn.out _ ⟨S.out.r 3 rfl,S.out.r 2 rfl⟩ (h.out.bel S.out.bel)).mono ?_
    rintro e wq5 ⟨A41,n41,c41,D41,m41,d41,rfl,Q41,bb⟩
    have T:=((S.out.call bb).read Q41.n).read Q41.d
    clear bb S Q41
    have S:=T
    clear T
    refine hK.out _ _ (h.out.bel S.bel) ?_
    clear hK K'
    replace S:=Lib.hid S
    try simp only[Act.put,List.setIfInBounds_toArray,List.set_cons_zero,List.set_cons_succ]
    refine Wk.o (i:=13) at13 (by kernel_rfl) fun K' hK=>?_
    go_simp
    refine (hMx.out _ ⟨S.out.r 3 rfl,S.out.r 2 rfl⟩ (h.out.bel S.out.bel)).mono ?_
    rintro e wq6 ⟨A42,n42,c42,D42,m42,d42,rfl,Q42,bb⟩
    have T:=((S.out.call bb).read Q42.n).read Q42.d
    clear bb S Q42
    have S:=T
    clear T
    refine hK.out _ _ (h.out.bel S.bel) ?_
    clear hK K'
    replace S:=Lib.hid S
    try simp only[Act.put,List.setIfInBounds_toArray,List.set_cons_zero,List.set_cons_succ]
    refine Wk.o (i:=14) at14 (by kernel_rfl) fun K' hK=>?_
    go_simp
    refine hK.out _ _ (h.out.bel S.out.bel) ?_
    clear hK K'
    try simp only[Act.put,List.setIfInBounds_toArray,List.set_cons_zero,List.set_cons_succ]
    refine Wk.o (i:=15) at15 (by kernel_rfl) fun K' hK=>?_
    obtain⟨c0,c1,c2,c3,c4,c5,f0,f1,f2,f3,f4,f5⟩:=S.out.cf6 0 rfl
    go_simp
    have T:=((((((S.out.set 0 0 (.bool (ng l2.num)) rfl (by nofun)).set 0 1 (.slice A41 n41 c41) rfl (by nofun)).set 0 2 (.slice D41 m41 d41) rfl (by nofun)).set 0 3 (.bool (ng h2.num)) rfl (by nofun)).set 0 4 (.slice A42 n42 c42) rfl (by nofun)).set 0 5 (.slice D42 m42 d42) rfl (by nofun))
    clear S c0 c1 c2 c3 c4 c5 f0 f1 f2 f3 f4 f5
    have S:St w _ [(g_o,#[.bool (ng l2.num),.slice A41 n41 c41,.slice D41 m41 d41,.bool (ng h2.num),.slice A42 n42 c42,.slice D42 m42 d42],28),(w.heap.size,#[.bool false,.slice none 0 0,.slice none 0 0,.bool false,.slice none 0 0,.slice none 0 0],28)] _:=T
    clear T
    refine hK.out _ _ (h.out.bel S.bel) ?_
    clear hK K'
    replace S:=Lib.hid S
    try simp only[Act.put,List.setIfInBounds_toArray,List.set_cons_zero,List.set_cons_succ]
    refine Wk.done (by kernel_rfl) ?_
    go_simp
    replace hh1:=hh1
    have hlt:=hh.out
    have hi1:=hh1.out
    have hl:=hlh.out
    go_wp2
    go_roundw
    case rel=>exact⟨i+1,A41,n41,c41,D41,m41,d41,A42,n42,c42,D42,m42,d42,by omega,by omega,by go_num,by rw[←st1.out,←st2.out];exact S.out.pick [0,1] [0,1,2,3] rfl (by decide) rfl⟩
    case measure=>simp[intOf];omega
  ·have ek:i=k:=by omega
   subst ek
   have q1':minL (List.take i (L.map (·.q)))=minL (L.map (·.q)):=by rw[List.take_of_length_le (by rw[List.length_map,hk.out];exact Nat.le_refl _)]
   have q2':maxL (List.take i (L.map (·.q)))=maxL (L.map (·.q)):=by rw[List.take_of_length_le (by rw[List.length_map,hk.out];exact Nat.le_refl _)]
   obtain⟨lo,hlo⟩:∃ lo,lo=minL (L.map (·.q)):=⟨_,rfl⟩
   obtain⟨hi,hhi⟩:∃ hi,hi=maxL (L.map (·.q)):=⟨_,rfl⟩
   rw[q1',q2',←hlo,←hhi] at S
   replace hlo:=Lib.hid hlo
   replace hhi:=Lib.hid hhi
   clear q1' q2' hlt hi1 hik sl sh hs hk hL hl k3
   obtain⟨c0,c1,c2,c3,c4,c5,f0,f1,f2,f3,f4,f5⟩:=S.cf6 0 rfl
   obtain⟨d0,d1,d2,d3,d4,d5,e0,e1,e2,e3,e4,e5⟩:=S.cf6 1 rfl
   have T:=((((((S.set 1 0 (.bool (ng lo.num)) rfl (by nofun)).set 1 1 (.slice A31 n31 c31) rfl (by nofun)).set 1 2 (.slice D31 m31 d31) rfl (by nofun)).set 1 3 (.bool (ng hi.num)) rfl (by nofun)).set 1 4 (.slice A32 n32 c32) rfl (by nofun)).set 1 5 (.slice D32 m32 d32) rfl (by nofun))
   have S:St w _ [(g_o,#[.bool (ng lo.num),.slice A31 n31 c31,.slice D31 m31 d31,.bool (ng hi.num),.slice A32 n32 c32,.slice D32 m32 d32],28),(w.heap.size,#[.bool (ng lo.num),.slice A31 n31 c31,.slice D31 m31 d31,.bool (ng hi.num),.slice A32 n32 c32,.slice D32 m32 d32],28)] _:=T
   clear T
   replace S:=Lib.hid S
   go_wp2
   refine bodyPost_ret (res_rhull _ _ (w.heap.size) 28 rfl (S.out.bk _ (List.mem_of_getElem? (i:=1) rfl)).1) rfl ?_
   rw[←hlo.out,←hhi.out]
   exact⟨_,_,_,_,_,_,_,_,_,_,_,_,rfl,⟨S.out.r 3 rfl,S.out.r 2 rfl⟩,⟨S.out.r 1 rfl,S.out.r 0 rfl⟩,S.out.bel⟩
end Go.Proofs.YtphckmdnflbloaaGreat
