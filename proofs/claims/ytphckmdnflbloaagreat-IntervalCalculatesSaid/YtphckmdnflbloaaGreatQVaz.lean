/- Rows that count as numbers; intervals: isOrdered, known, Contains, Within. interval's Within, Width, Add, Sub. -/
import Derived.Test.YtphckmdnflbloaaGreatQTkz
import Derived.Test.YtphckmdnflbloaaGreatQMaz
import Derived.Test.YtphckmdnflbloaaGreatDr
namespace Go.Proofs.YtphckmdnflbloaaGreat
open Go.RowKit RQ
theorem addW (b1:Bool) (A1:Option Addr) (n1 c1:Nat) (x1:List Nat) (D1:Option Addr) (m1 d1:Nat) (y1:List Nat) (q1:Rat) (b2:Bool) (A2:Option Addr) (n2 c2:Nat) (x2:List Nat) (D2:Option Addr) (m2 d2:Nat) (y2:List Nat) (q2:Rat) (w:World) (X1:Rw w b1 A1 n1 c1 x1 D1 m1 d1 y1 q1) (X2:Rw w b2 A2 n2 c2 x2 D2 m2 d2 y2 q2):Calls Tryz.prog 86 #[.agg #[.bool b1,.slice A1 n1 c1,.slice D1 m1 d1],.agg #[.bool b2,.slice A2 n2 c2,.slice D2 m2 d2]] w (RetR (q1+q2) w):=by
 have:=Radd_any b1 A1 n1 c1 x1 D1 m1 d1 y1 b2 A2 n2 c2 x2 D2 m2 d2 y2 w X1.rn X1.rd X2.rn X2.rd (by have:=X1.k.2.1;omega) (by have:=X1.k.2.2;omega) (by have:=X2.k.2.1;omega) (by have:=X2.k.2.2;omega)
 rwa [X1.k.1,X2.k.1] at this
theorem subW (b1:Bool) (A1:Option Addr) (n1 c1:Nat) (x1:List Nat) (D1:Option Addr) (m1 d1:Nat) (y1:List Nat) (q1:Rat) (b2:Bool) (A2:Option Addr) (n2 c2:Nat) (x2:List Nat) (D2:Option Addr) (m2 d2:Nat) (y2:List Nat) (q2:Rat) (w:World) (X1:Rw w b1 A1 n1 c1 x1 D1 m1 d1 y1 q1) (X2:Rw w b2 A2 n2 c2 x2 D2 m2 d2 y2 q2):Calls Tryz.prog 88 #[.agg #[.bool b1,.slice A1 n1 c1,.slice D1 m1 d1],.agg #[.bool b2,.slice A2 n2 c2,.slice D2 m2 d2]] w (RetR (q1-q2) w):=by
 have:=Rsub_any b1 A1 n1 c1 x1 D1 m1 d1 y1 b2 A2 n2 c2 x2 D2 m2 d2 y2 w X1.rn X1.rd X2.rn X2.rd (by have:=X1.k.2.1;omega) (by have:=X1.k.2.2;omega) (by have:=X2.k.2.1;omega) (by have:=X2.k.2.2;omega)
 rwa [X1.k.1,X2.k.1] at this
theorem mulW (b1:Bool) (A1:Option Addr) (n1 c1:Nat) (x1:List Nat) (D1:Option Addr) (m1 d1:Nat) (y1:List Nat) (q1:Rat) (b2:Bool) (A2:Option Addr) (n2 c2:Nat) (x2:List Nat) (D2:Option Addr) (m2 d2:Nat) (y2:List Nat) (q2:Rat) (w:World) (X1:Rw w b1 A1 n1 c1 x1 D1 m1 d1 y1 q1) (X2:Rw w b2 A2 n2 c2 x2 D2 m2 d2 y2 q2):Calls Tryz.prog 91 #[.agg #[.bool b1,.slice A1 n1 c1,.slice D1 m1 d1],.agg #[.bool b2,.slice A2 n2 c2,.slice D2 m2 d2]] w (RetR (q1*q2) w):=by
 have:=Rmul_any b1 A1 n1 c1 x1 D1 m1 d1 y1 b2 A2 n2 c2 x2 D2 m2 d2 y2 w X1.rn X1.rd X2.rn X2.rd (by have:=X1.k.2.1;omega) (by have:=X1.k.2.2;omega) (by have:=X2.k.2.1;omega) (by have:=X2.k.2.2;omega)
 rwa [X1.k.1,X2.k.1] at this
theorem divW (b1:Bool) (A1:Option Addr) (n1 c1:Nat) (x1:List Nat) (D1:Option Addr) (m1 d1:Nat) (y1:List Nat) (q1:Rat) (b2:Bool) (A2:Option Addr) (n2 c2:Nat) (x2:List Nat) (D2:Option Addr) (m2 d2:Nat) (y2:List Nat) (q2:Rat) (w:World) (X1:Rw w b1 A1 n1 c1 x1 D1 m1 d1 y1 q1) (X2:Rw w b2 A2 n2 c2 x2 D2 m2 d2 y2 q2):Calls Tryz.prog 81 #[.agg #[.bool b1,.slice A1 n1 c1,.slice D1 m1 d1],.agg #[.bool b2,.slice A2 n2 c2,.slice D2 m2 d2]] w (RetRE (q1 / q2) (.int .i64 (dvE q2)) w):=by
 have:=Rdiv_any b1 A1 n1 c1 x1 D1 m1 d1 y1 b2 A2 n2 c2 x2 D2 m2 d2 y2 w X1.rn X1.rd X2.rn X2.rd (by have:=X1.k.2.1;omega) (by have:=X1.k.2.2;omega) (by have:=X2.k.2.1;omega) (by have:=X2.k.2.2;omega)
 rwa [X1.k.1,X2.k.1] at this
theorem compareW (b1:Bool) (A1:Option Addr) (n1 c1:Nat) (x1:List Nat) (D1:Option Addr) (m1 d1:Nat) (y1:List Nat) (q1:Rat) (b2:Bool) (A2:Option Addr) (n2 c2:Nat) (x2:List Nat) (D2:Option Addr) (m2 d2:Nat) (y2:List Nat) (q2:Rat) (w:World) (X1:Rw w b1 A1 n1 c1 x1 D1 m1 d1 y1 q1) (X2:Rw w b2 A2 n2 c2 x2 D2 m2 d2 y2 q2):Calls Tryz.prog 102 #[.agg #[.bool b1,.slice A1 n1 c1,.slice D1 m1 d1],.agg #[.bool b2,.slice A2 n2 c2,.slice D2 m2 d2]] w fun e w'=>e=.returned (.int .i64 (cmpq q1 q2))∧Below w.heap.size w w':=by
 have:=Rcompare_any b1 A1 n1 c1 x1 D1 m1 d1 y1 b2 A2 n2 c2 x2 D2 m2 d2 y2 w X1.rn X1.rd X2.rn X2.rd (by have:=X1.k.2.1;omega) (by have:=X1.k.2.2;omega) (by have:=X2.k.2.1;omega) (by have:=X2.k.2.2;omega)
 rwa [X1.k.1,X2.k.1] at this
theorem signW (b1:Bool) (A1:Option Addr) (n1 c1:Nat) (x1:List Nat) (D1:Option Addr) (m1 d1:Nat) (y1:List Nat) (q1:Rat) (w:World) (X1:Rw w b1 A1 n1 c1 x1 D1 m1 d1 y1 q1):Calls Tryz.prog 98 #[.agg #[.bool b1,.slice A1 n1 c1,.slice D1 m1 d1]] w fun e w'=>e=.returned (.int .i64 q1.num.sign)∧Below w.heap.size w w':=by
 have:=signR_any b1 A1 n1 c1 x1 D1 m1 d1 y1 w X1.rn X1.rd (by have:=X1.k.2.1;omega) (by have:=X1.k.2.2;omega)
 rwa [X1.k.1] at this
theorem cmpq_le (x y:Rat):decide (cmpq x y≤0)=decide (x≤y):=by
 rw[decide_eq_decide]
 constructor
 ·intro h;exact Rat.not_lt.1 fun h'=>by have:=cmpq_pos.2 h';omega
 ·intro h;exact Int.not_lt.1 fun h'=>Rat.not_lt.2 h (cmpq_pos.1 h')
set_option maxRecDepth 100000 in
set_option maxHeartbeats 4000000 in
theorem isOrdered_any (b1:Bool) (A1:Option Addr) (n1 c1:Nat) (x1:List Nat) (D1:Option Addr) (m1 d1:Nat) (y1:List Nat) (q1:Rat) (b2:Bool) (A2:Option Addr) (n2 c2:Nat) (x2:List Nat) (D2:Option Addr) (m2 d2:Nat) (y2:List Nat) (q2:Rat) (w:World) (X1:Rw w b1 A1 n1 c1 x1 D1 m1 d1 y1 q1) (X2:Rw w b2 A2 n2 c2 x2 D2 m2 d2 y2 q2):Calls Tryz.prog 94 #[.agg #[.bool b1,.slice A1 n1 c1,.slice D1 m1 d1,.bool b2,.slice A2 n2 c2,.slice D2 m2 d2]] w fun e w'=>e=.returned (.bool (decide (q1≤q2)))∧Below w.heap.size w w':=by
 have hC:=Lib.hid (fun W h1 h2=>compareW b1 A1 n1 c1 x1 D1 m1 d1 y1 q1 b2 A2 n2 c2 x2 D2 m2 d2 y2 q2 W h1 h2)
 rw[←cmpq_le]
 generalize cmpq q1 q2=cc at *
 have k1:=Lib.hid X1.k
 have k2:=Lib.hid X2.k
 have S:=((((((St.new w).read X1.rn).read X1.rd).read X2.rn).read X2.rd).allocAt (w.heap.size) #[.bool b1,.slice A1 n1 c1,.slice D1 m1 d1,.bool b2,.slice A2 n2 c2,.slice D2 m2 d2] 28 (noL6 _ _ _ _ _ _ _ _ _ _ _ _ _ _) (by simp))
 replace S:=Lib.hid S
 clear X1 X2
 go_enter Tryz.func94,Tryz.ntmps94
 go_wp2_with fail
 refine (hC.out _ (Rw.of (S.out.r 3 rfl) (S.out.r 2 rfl) k1.out) (Rw.of (S.out.r 1 rfl) (S.out.r 0 rfl) k2.out)).mono ?_
 rintro e w1 ⟨rfl,bb⟩
 have T:=(S.out.call bb)
 clear bb S
 have S:=T
 clear T
 obtain⟨c_a0,c_a1,c_a2,c_a3,c_a4,c_a5,f_a0,f_a1,f_a2,f_a3,f_a4,f_a5⟩:=S.cf6 0 rfl
 have hz:w.heap.size<w1.heap.size:=S.lt 0 rfl
 replace S:=Lib.hid S
 have S:=S.out
 replace S:=Lib.hid S
 go_wp2
 go_ret
 exact⟨rfl,S.out.bel⟩
theorem res_iknown (W:World) (tmps:Array Value) (g t:Nat) {v0 v1 v2 v3 v4 v5:Value} (ht:tmps.getD 2 undef=.pointer (some ⟨g,0,none⟩)) (h:Cb W g #[v0,v1,v2,v3,v4,v5] t) :
  (results Tryz.f85 tmps).run Tryz.prog W=.ok (.agg #[v0,v1,v2,v3,v4,v5]) W:=by
 have c0:W.cell? ⟨g,0,none⟩=some v0:=h.cell rfl
 have c1:W.cell? ⟨g,1,none⟩=some v1:=h.cell rfl
 have c2:W.cell? ⟨g,2,none⟩=some v2:=h.cell rfl
 have c3:W.cell? ⟨g,3,none⟩=some v3:=h.cell rfl
 have c4:W.cell? ⟨g,4,none⟩=some v4:=h.cell rfl
 have c5:W.cell? ⟨g,5,none⟩=some v5:=h.cell rfl
 have ht':tmps[2]?.getD undef=.pointer (some ⟨g,0,none⟩):=by rw[←ht];simp[Array.getD_eq_getD_getElem?]
 simp[results,Tryz.results85,go_sem,ht',c0,c1,c2,c3,c4,c5]
set_option maxRecDepth 100000 in
set_option maxHeartbeats 4000000 in
theorem known_no (b1:Bool) (A1:Option Addr) (n1 c1:Nat) (x1:List Nat) (D1:Option Addr) (m1 d1:Nat) (y1:List Nat) (q1:Rat) (b2:Bool) (A2:Option Addr) (n2 c2:Nat) (x2:List Nat) (D2:Option Addr) (m2 d2:Nat) (y2:List Nat) (q2:Rat) (h:q2<q1) (w:World) (X1:Rw w b1 A1 n1 c1 x1 D1 m1 d1 y1 q1) (X2:Rw w b2 A2 n2 c2 x2 D2 m2 d2 y2 q2):Calls Tryz.prog 85 #[.agg #[.bool b1,.slice A1 n1 c1,.slice D1 m1 d1,.bool b2,.slice A2 n2 c2,.slice D2 m2 d2]] w fun e w'=>e=.returned (.agg #[.bool false,.slice none 0 0,.slice none 0 0,.bool false,.slice none 0 0,.slice none 0 0])∧Below w.heap.size w w':=by
 have hO:=fun W h1 h2=>isOrdered_any b1 A1 n1 c1 x1 D1 m1 d1 y1 q1 b2 A2 n2 c2 x2 D2 m2 d2 y2 q2 W h1 h2
 rw[show decide (q1≤q2)=false from decide_eq_false (Rat.not_le.2 h)] at hO
 replace hO:=Lib.hid hO
 clear h
 have k1:=Lib.hid X1.k
 have k2:=Lib.hid X2.k
 have S:=(((((((St.new w).read X1.rn).read X1.rd).read X2.rn).read X2.rd).allocAt (w.heap.size) #[.bool b1,.slice A1 n1 c1,.slice D1 m1 d1,.bool b2,.slice A2 n2 c2,.slice D2 m2 d2] 28 (noL6 _ _ _ _ _ _ _ _ _ _ _ _ _ _) (by simp)).allocAt (w.heap.size+1) #[.bool false,.slice none 0 0,.slice none 0 0,.bool false,.slice none 0 0,.slice none 0 0] 28 (noL6 _ _ _ _ _ _ _ _ _ _ _ _ _ _) (by simp))
 replace S:=Lib.hid S
 clear X1 X2
 go_enter Tryz.func85,Tryz.ntmps85
 go_wp2_with fail
 refine (hO.out _ (Rw.of (S.out.r 3 rfl) (S.out.r 2 rfl) k1.out) (Rw.of (S.out.r 1 rfl) (S.out.r 0 rfl) k2.out)).mono ?_
 rintro e w1 ⟨rfl,bb⟩
 have T:=(S.out.call bb)
 clear bb S
 have S:=T
 clear T
 obtain⟨c_r0,c_r1,c_r2,c_r3,c_r4,c_r5,f_r0,f_r1,f_r2,f_r3,f_r4,f_r5⟩:=S.cf6 0 rfl
 obtain⟨c_a0,c_a1,c_a2,c_a3,c_a4,c_a5,f_a0,f_a1,f_a2,f_a3,f_a4,f_a5⟩:=S.cf6 1 rfl
 have hz:w.heap.size+1<w1.heap.size:=S.lt 0 rfl
 replace S:=Lib.hid S
 clear hO
 have S:St w _ [(w.heap.size+1,#[.bool false,.slice none 0 0,.slice none 0 0,.bool false,.slice none 0 0,.slice none 0 0],28),(w.heap.size,#[.bool b1,.slice A1 n1 c1,.slice D1 m1 d1,.bool b2,.slice A2 n2 c2,.slice D2 m2 d2],28)] [(D2,m2,d2,y2),(A2,n2,c2,x2),(D1,m1,d1,y1),(A1,n1,c1,x1)]:=((((((S.out.set 0 0 (.bool false) rfl (by nofun)).set 0 1 (.slice none 0 0) rfl (by nofun)).set 0 2 (.slice none 0 0) rfl (by nofun)).set 0 3 (.bool false) rfl (by nofun)).set 0 4 (.slice none 0 0) rfl (by nofun)).set 0 5 (.slice none 0 0) rfl (by nofun))
 replace S:=Lib.hid S
 go_wp2
 refine bodyPost_ret (res_iknown _ _ (w.heap.size+1) 28 rfl (S.out.bk _ (List.mem_of_getElem? (i:=0) rfl)).1) rfl ?_
 exact⟨rfl,S.out.bel⟩
set_option maxRecDepth 100000 in
set_option maxHeartbeats 4000000 in
theorem known_yes (b1:Bool) (A1:Option Addr) (n1 c1:Nat) (x1:List Nat) (D1:Option Addr) (m1 d1:Nat) (y1:List Nat) (q1:Rat) (b2:Bool) (A2:Option Addr) (n2 c2:Nat) (x2:List Nat) (D2:Option Addr) (m2 d2:Nat) (y2:List Nat) (q2:Rat) (h:¬ q2<q1) (w:World) (X1:Rw w b1 A1 n1 c1 x1 D1 m1 d1 y1 q1) (X2:Rw w b2 A2 n2 c2 x2 D2 m2 d2 y2 q2):Calls Tryz.prog 85 #[.agg #[.bool b1,.slice A1 n1 c1,.slice D1 m1 d1,.bool b2,.slice A2 n2 c2,.slice D2 m2 d2]] w fun e w'=>e=.returned (.agg #[.bool b1,.slice A1 n1 c1,.slice D1 m1 d1,.bool b2,.slice A2 n2 c2,.slice D2 m2 d2])∧Below w.heap.size w w':=by
 have hO:=fun W h1 h2=>isOrdered_any b1 A1 n1 c1 x1 D1 m1 d1 y1 q1 b2 A2 n2 c2 x2 D2 m2 d2 y2 q2 W h1 h2
 rw[show decide (q1≤q2)=true from decide_eq_true (Rat.not_lt.1 h)] at hO
 replace hO:=Lib.hid hO
 clear h
 have k1:=Lib.hid X1.k
 have k2:=Lib.hid X2.k
 have S:=(((((((St.new w).read X1.rn).read X1.rd).read X2.rn).read X2.rd).allocAt (w.heap.size) #[.bool b1,.slice A1 n1 c1,.slice D1 m1 d1,.bool b2,.slice A2 n2 c2,.slice D2 m2 d2] 28 (noL6 _ _ _ _ _ _ _ _ _ _ _ _ _ _) (by simp)).allocAt (w.heap.size+1) #[.bool false,.slice none 0 0,.slice none 0 0,.bool false,.slice none 0 0,.slice none 0 0] 28 (noL6 _ _ _ _ _ _ _ _ _ _ _ _ _ _) (by simp))
 replace S:=Lib.hid S
 clear X1 X2
 go_enter Tryz.func85,Tryz.ntmps85
 go_wp2_with fail
 refine (hO.out _ (Rw.of (S.out.r 3 rfl) (S.out.r 2 rfl) k1.out) (Rw.of (S.out.r 1 rfl) (S.out.r 0 rfl) k2.out)).mono ?_
 rintro e w1 ⟨rfl,bb⟩
 have T:=(S.out.call bb)
 clear bb S
 have S:=T
 clear T
 obtain⟨c_r0,c_r1,c_r2,c_r3,c_r4,c_r5,f_r0,f_r1,f_r2,f_r3,f_r4,f_r5⟩:=S.cf6 0 rfl
 obtain⟨c_a0,c_a1,c_a2,c_a3,c_a4,c_a5,f_a0,f_a1,f_a2,f_a3,f_a4,f_a5⟩:=S.cf6 1 rfl
 have hz:w.heap.size+1<w1.heap.size:=S.lt 0 rfl
 replace S:=Lib.hid S
 clear hO
 have S:St w _ [(w.heap.size+1,#[.bool b1,.slice A1 n1 c1,.slice D1 m1 d1,.bool b2,.slice A2 n2 c2,.slice D2 m2 d2],28),(w.heap.size,#[.bool b1,.slice A1 n1 c1,.slice D1 m1 d1,.bool b2,.slice A2 n2 c2,.slice D2 m2 d2],28)] [(D2,m2,d2,y2),(A2,n2,c2,x2),(D1,m1,d1,y1),(A1,n1,c1,x1)]:=((((((S.out.set 0 0 (.bool b1) rfl (by nofun)).set 0 1 (.slice A1 n1 c1) rfl (by nofun)).set 0 2 (.slice D1 m1 d1) rfl (by nofun)).set 0 3 (.bool b2) rfl (by nofun)).set 0 4 (.slice A2 n2 c2) rfl (by nofun)).set 0 5 (.slice D2 m2 d2) rfl (by nofun))
 replace S:=Lib.hid S
 go_wp2
 refine bodyPost_ret (res_iknown _ _ (w.heap.size+1) 28 rfl (S.out.bk _ (List.mem_of_getElem? (i:=0) rfl)).1) rfl ?_
 exact⟨rfl,S.out.bel⟩
theorem known_rows (b1:Bool) (A1:Option Addr) (n1 c1:Nat) (x1:List Nat) (D1:Option Addr) (m1 d1:Nat) (y1:List Nat) (q1:Rat) (b2:Bool) (A2:Option Addr) (n2 c2:Nat) (x2:List Nat) (D2:Option Addr) (m2 d2:Nat) (y2:List Nat) (q2:Rat) (w:World) (X1:Rw w b1 A1 n1 c1 x1 D1 m1 d1 y1 q1) (X2:Rw w b2 A2 n2 c2 x2 D2 m2 d2 y2 q2):∃ (b3:Bool) (A3:Option Addr) (n3 c3:Nat) (x3:List Nat) (D3:Option Addr) (m3 d3:Nat) (y3:List Nat) (b4:Bool) (A4:Option Addr) (n4 c4:Nat) (x4:List Nat) (D4:Option Addr) (m4 d4:Nat) (y4:List Nat),Rw w b3 A3 n3 c3 x3 D3 m3 d3 y3 (klo q1 q2)∧Rw w b4 A4 n4 c4 x4 D4 m4 d4 y4 (khi q1 q2)∧Hid (∀ W,Rw W b1 A1 n1 c1 x1 D1 m1 d1 y1 q1→Rw W b2 A2 n2 c2 x2 D2 m2 d2 y2 q2→Calls Tryz.prog 85 #[.agg #[.bool b1,.slice A1 n1 c1,.slice D1 m1 d1,.bool b2,.slice A2 n2 c2,.slice D2 m2 d2]] W fun e w'=>e=.returned (.agg #[.bool b3,.slice A3 n3 c3,.slice D3 m3 d3,.bool b4,.slice A4 n4 c4,.slice D4 m4 d4])∧Below W.heap.size W w'):=by
 by_cases h:q2<q1
 ·refine⟨false,none,0,0,[],none,0,0,[],false,none,0,0,[],none,0,0,[],?_,?_,Lib.hid fun W Y1 Y2=>known_no b1 A1 n1 c1 x1 D1 m1 d1 y1 q1 b2 A2 n2 c2 x2 D2 m2 d2 y2 q2 h W Y1 Y2⟩
  ·rw[show klo q1 q2=0 from if_pos h];exact Rw.zero _
  ·rw[show khi q1 q2=0 from if_pos h];exact Rw.zero _
 ·refine⟨b1,A1,n1,c1,x1,D1,m1,d1,y1,b2,A2,n2,c2,x2,D2,m2,d2,y2,?_,?_,Lib.hid fun W Y1 Y2=>known_yes b1 A1 n1 c1 x1 D1 m1 d1 y1 q1 b2 A2 n2 c2 x2 D2 m2 d2 y2 q2 h W Y1 Y2⟩
  ·rw[show klo q1 q2=q1 from if_neg h];exact X1
  ·rw[show khi q1 q2=q2 from if_neg h];exact X2
set_option maxRecDepth 100000 in
set_option maxHeartbeats 4000000 in
theorem contains_any (b1:Bool) (A1:Option Addr) (n1 c1:Nat) (x1:List Nat) (D1:Option Addr) (m1 d1:Nat) (y1:List Nat) (q1:Rat) (b2:Bool) (A2:Option Addr) (n2 c2:Nat) (x2:List Nat) (D2:Option Addr) (m2 d2:Nat) (y2:List Nat) (q2:Rat) (b5:Bool) (A5:Option Addr) (n5 c5:Nat) (x5:List Nat) (D5:Option Addr) (m5 d5:Nat) (y5:List Nat) (q5:Rat) (w:World) (X1:Rw w b1 A1 n1 c1 x1 D1 m1 d1 y1 q1) (X2:Rw w b2 A2 n2 c2 x2 D2 m2 d2 y2 q2) (X5:Rw w b5 A5 n5 c5 x5 D5 m5 d5 y5 q5):Calls Tryz.prog 79 #[.agg #[.bool b1,.slice A1 n1 c1,.slice D1 m1 d1,.bool b2,.slice A2 n2 c2,.slice D2 m2 d2],.agg #[.bool b5,.slice A5 n5 c5,.slice D5 m5 d5]] w fun e w'=>e=.returned (.bool (decide (klo q1 q2≤q5)&&decide (q5≤khi q1 q2)))∧Below w.heap.size w w':=by
 obtain⟨b3,A3,n3,c3,x3,D3,m3,d3,y3,b4,A4,n4,c4,x4,D4,m4,d4,y4,X3,X4,hK⟩:=known_rows b1 A1 n1 c1 x1 D1 m1 d1 y1 q1 b2 A2 n2 c2 x2 D2 m2 d2 y2 q2 w X1 X2
 generalize klo q1 q2=q3 at *
 generalize khi q1 q2=q4 at *
 have hC1:=fun W h1 h2=>compareW b3 A3 n3 c3 x3 D3 m3 d3 y3 q3 b5 A5 n5 c5 x5 D5 m5 d5 y5 q5 W h1 h2
 have hC2:=Lib.hid (fun W h1 h2=>compareW b5 A5 n5 c5 x5 D5 m5 d5 y5 q5 b4 A4 n4 c4 x4 D4 m4 d4 y4 q4 W h1 h2)
 have e1:=cmpq_le q3 q5
 rw[←cmpq_le q5 q4]
 generalize cmpq q3 q5=c1' at *
 generalize cmpq q5 q4=c2' at *
 replace hC1:=Lib.hid hC1
 have k1:=Lib.hid X1.k
 have k2:=Lib.hid X2.k
 have k3:=Lib.hid X3.k
 have k4:=Lib.hid X4.k
 have k5:=Lib.hid X5.k
 have S:=(((((((((((((St.new w).read X1.rn).read X1.rd).read X2.rn).read X2.rd).read X3.rn).read X3.rd).read X4.rn).read X4.rd).read X5.rn).read X5.rd).allocAt (w.heap.size) #[.bool b1,.slice A1 n1 c1,.slice D1 m1 d1,.bool b2,.slice A2 n2 c2,.slice D2 m2 d2] 28 (noL6 _ _ _ _ _ _ _ _ _ _ _ _ _ _) (by simp)).allocAt (w.heap.size+1) #[.bool b5,.slice A5 n5 c5,.slice D5 m5 d5] 26 (noL3 _ _ _ _ _ _ _) (by simp))
 replace S:=Lib.hid S
 clear X1 X2 X3 X4 X5
 cases hb:decide (q3≤q5)
 ·rw[hb] at e1
  clear hb
  go_enter Tryz.func79,Tryz.ntmps79
  go_wp2_with fail
  refine (hK.out _ (Rw.of (S.out.r 9 rfl) (S.out.r 8 rfl) k1.out) (Rw.of (S.out.r 7 rfl) (S.out.r 6 rfl) k2.out)).mono ?_
  rintro e w1 ⟨rfl,bb⟩
  have T:=(S.out.call bb)
  clear bb S
  have S:=T
  clear T
  obtain⟨c_v0,c_v1,c_v2,f_v0,f_v1,f_v2⟩:=S.cf3 0 rfl
  obtain⟨c_a0,c_a1,c_a2,c_a3,c_a4,c_a5,f_a0,f_a1,f_a2,f_a3,f_a4,f_a5⟩:=S.cf6 1 rfl
  have hz:w.heap.size+1<w1.heap.size:=S.lt 0 rfl
  replace S:=Lib.hid S
  clear hK
  have S:St w _ [(w.heap.size+1,#[.bool b5,.slice A5 n5 c5,.slice D5 m5 d5],26),(w.heap.size,#[.bool b3,.slice A3 n3 c3,.slice D3 m3 d3,.bool b4,.slice A4 n4 c4,.slice D4 m4 d4],28)] [(D5,m5,d5,y5),(A5,n5,c5,x5),(D4,m4,d4,y4),(A4,n4,c4,x4),(D3,m3,d3,y3),(A3,n3,c3,x3),(D2,m2,d2,y2),(A2,n2,c2,x2),(D1,m1,d1,y1),(A1,n1,c1,x1)]:=((((((S.out.set 1 0 (.bool b3) rfl (by nofun)).set 1 1 (.slice A3 n3 c3) rfl (by nofun)).set 1 2 (.slice D3 m3 d3) rfl (by nofun)).set 1 3 (.bool b4) rfl (by nofun)).set 1 4 (.slice A4 n4 c4) rfl (by nofun)).set 1 5 (.slice D4 m4 d4) rfl (by nofun))
  obtain⟨a_a0,a_a1,a_a2,a_a3,a_a4,a_a5,b_a0,b_a1,b_a2,b_a3,b_a4,b_a5⟩:=S.cf6 1 rfl
  obtain⟨a_v0,a_v1,a_v2,b_v0,b_v1,b_v2⟩:=S.cf3 0 rfl
  replace S:=Lib.hid S
  go_wp2_with fail
  refine (hC1.out _ (Rw.of (S.out.r 5 rfl) (S.out.r 4 rfl) k3.out) (Rw.of (S.out.r 1 rfl) (S.out.r 0 rfl) k5.out)).mono ?_
  rintro e w2 ⟨rfl,bb⟩
  have T:=(S.out.call bb)
  clear bb S c_v0 f_v0 c_v1 f_v1 c_v2 f_v2 c_a0 f_a0 c_a1 f_a1 c_a2 f_a2 c_a3 f_a3 c_a4 f_a4 c_a5 f_a5 hz a_a0 b_a0 a_a1 b_a1 a_a2 b_a2 a_a3 b_a3 a_a4 b_a4 a_a5 b_a5 a_v0 b_v0 a_v1 b_v1 a_v2 b_v2
  have S:=T
  clear T
  obtain⟨c_v0,c_v1,c_v2,f_v0,f_v1,f_v2⟩:=S.cf3 0 rfl
  obtain⟨c_a0,c_a1,c_a2,c_a3,c_a4,c_a5,f_a0,f_a1,f_a2,f_a3,f_a4,f_a5⟩:=S.cf6 1 rfl
  have hz:w.heap.size+1<w2.heap.size:=S.lt 0 rfl
  replace S:=Lib.hid S
  clear hC1
  have S:=S.out
  replace S:=Lib.hid S
  go_wp2
  go_ret
  exact⟨rfl,S.out.bel⟩
 ·rw[hb] at e1
  clear hb
  rw[Bool.true_and]
  go_enter Tryz.func79,Tryz.ntmps79
  go_wp2_with fail
  refine (hK.out _ (Rw.of (S.out.r 9 rfl) (S.out.r 8 rfl) k1.out) (Rw.of (S.out.r 7 rfl) (S.out.r 6 rfl) k2.out)).mono ?_
  rintro e w1 ⟨rfl,bb⟩
  have T:=(S.out.call bb)
  clear bb S
  have S:=T
  clear T
  obtain⟨c_v0,c_v1,c_v2,f_v0,f_v1,f_v2⟩:=S.cf3 0 rfl
  obtain⟨c_a0,c_a1,c_a2,c_a3,c_a4,c_a5,f_a0,f_a1,f_a2,f_a3,f_a4,f_a5⟩:=S.cf6 1 rfl
  have hz:w.heap.size+1<w1.heap.size:=S.lt 0 rfl
  replace S:=Lib.hid S
  clear hK
  have S:St w _ [(w.heap.size+1,#[.bool b5,.slice A5 n5 c5,.slice D5 m5 d5],26),(w.heap.size,#[.bool b3,.slice A3 n3 c3,.slice D3 m3 d3,.bool b4,.slice A4 n4 c4,.slice D4 m4 d4],28)] [(D5,m5,d5,y5),(A5,n5,c5,x5),(D4,m4,d4,y4),(A4,n4,c4,x4),(D3,m3,d3,y3),(A3,n3,c3,x3),(D2,m2,d2,y2),(A2,n2,c2,x2),(D1,m1,d1,y1),(A1,n1,c1,x1)]:=((((((S.out.set 1 0 (.bool b3) rfl (by nofun)).set 1 1 (.slice A3 n3 c3) rfl (by nofun)).set 1 2 (.slice D3 m3 d3) rfl (by nofun)).set 1 3 (.bool b4) rfl (by nofun)).set 1 4 (.slice A4 n4 c4) rfl (by nofun)).set 1 5 (.slice D4 m4 d4) rfl (by nofun))
  obtain⟨a_a0,a_a1,a_a2,a_a3,a_a4,a_a5,b_a0,b_a1,b_a2,b_a3,b_a4,b_a5⟩:=S.cf6 1 rfl
  obtain⟨a_v0,a_v1,a_v2,b_v0,b_v1,b_v2⟩:=S.cf3 0 rfl
  replace S:=Lib.hid S
  go_wp2_with fail
  refine (hC1.out _ (Rw.of (S.out.r 5 rfl) (S.out.r 4 rfl) k3.out) (Rw.of (S.out.r 1 rfl) (S.out.r 0 rfl) k5.out)).mono ?_
  rintro e w2 ⟨rfl,bb⟩
  have T:=(S.out.call bb)
  clear bb S c_v0 f_v0 c_v1 f_v1 c_v2 f_v2 c_a0 f_a0 c_a1 f_a1 c_a2 f_a2 c_a3 f_a3 c_a4 f_a4 c_a5 f_a5 hz a_a0 b_a0 a_a1 b_a1 a_a2 b_a2 a_a3 b_a3 a_a4 b_a4 a_a5 b_a5 a_v0 b_v0 a_v1 b_v1 a_v2 b_v2
  have S:=T
  clear T
  obtain⟨c_v0,c_v1,c_v2,f_v0,f_v1,f_v2⟩:=S.cf3 0 rfl
  obtain⟨c_a0,c_a1,c_a2,c_a3,c_a4,c_a5,f_a0,f_a1,f_a2,f_a3,f_a4,f_a5⟩:=S.cf6 1 rfl
  have hz:w.heap.size+1<w2.heap.size:=S.lt 0 rfl
  replace S:=Lib.hid S
  clear hC1
  go_wp2_with fail
  refine (hC2.out _ (Rw.of (S.out.r 1 rfl) (S.out.r 0 rfl) k5.out) (Rw.of (S.out.r 3 rfl) (S.out.r 2 rfl) k4.out)).mono ?_
  rintro e w3 ⟨rfl,bb⟩
  have T:=(S.out.call bb)
  clear bb S c_v0 f_v0 c_v1 f_v1 c_v2 f_v2 c_a0 f_a0 c_a1 f_a1 c_a2 f_a2 c_a3 f_a3 c_a4 f_a4 c_a5 f_a5 hz
  have S:=T
  clear T
  obtain⟨c_v0,c_v1,c_v2,f_v0,f_v1,f_v2⟩:=S.cf3 0 rfl
  obtain⟨c_a0,c_a1,c_a2,c_a3,c_a4,c_a5,f_a0,f_a1,f_a2,f_a3,f_a4,f_a5⟩:=S.cf6 1 rfl
  have hz:w.heap.size+1<w3.heap.size:=S.lt 0 rfl
  replace S:=Lib.hid S
  clear hC2
  have S:=S.out
  replace S:=Lib.hid S
  go_wp2
  go_ret
  exact⟨rfl,S.out.bel⟩
end Go.Proofs.YtphckmdnflbloaaGreat

namespace Go.Proofs.YtphckmdnflbloaaGreat
open Go.RowKit RQ
/-- What a function that returns an interval of valid numbers leaves. -/
def RetV (lo hi:Rat) (w:World) (e:Ending) (w':World):Prop:=∃ A n c D m d A' n' c' D' m' d',e=.returned (.agg #[.bool (ng lo.num),.slice A n c,.slice D m d,.bool (ng hi.num),.slice A' n' c',.slice D' m' d'])∧RR w' A n c D m d lo∧RR w' A' n' c' D' m' d' hi∧Below w.heap.size w w'
/-- .. and a word besides. -/
def RetVE (lo hi:Rat) (v:Value) (w:World) (e:Ending) (w':World):Prop:=∃ A n c D m d A' n' c' D' m' d',e=.returned (.tuple #[.agg #[.bool (ng lo.num),.slice A n c,.slice D m d,.bool (ng hi.num),.slice A' n' c',.slice D' m' d'],v])∧RR w' A n c D m d lo∧RR w' A' n' c' D' m' d' hi∧Below w.heap.size w w'
theorem k_rs {lo hi:Rat} (h1:Rs lo 40) (h2:Rs hi 40):Rs (klo lo hi) 40∧Rs (khi lo hi) 40:=by
 have z:Rs (0:Rat) 40:=⟨by decide,by decide⟩
 unfold klo khi
 split
 ·exact⟨z,z⟩
 ·exact⟨h1,h2⟩
theorem res_iadd (W:World) (tmps:Array Value) (g t:Nat) {v0 v1 v2 v3 v4 v5:Value} (ht:tmps.getD 4 undef=.pointer (some ⟨g,0,none⟩)) (h:Cb W g #[v0,v1,v2,v3,v4,v5] t) :
  (results Tryz.f19 tmps).run Tryz.prog W=.ok (.agg #[v0,v1,v2,v3,v4,v5]) W:=by
 have c0:W.cell? ⟨g,0,none⟩=some v0:=h.cell rfl
 have c1:W.cell? ⟨g,1,none⟩=some v1:=h.cell rfl
 have c2:W.cell? ⟨g,2,none⟩=some v2:=h.cell rfl
 have c3:W.cell? ⟨g,3,none⟩=some v3:=h.cell rfl
 have c4:W.cell? ⟨g,4,none⟩=some v4:=h.cell rfl
 have c5:W.cell? ⟨g,5,none⟩=some v5:=h.cell rfl
 have ht':tmps[4]?.getD undef=.pointer (some ⟨g,0,none⟩):=by rw[←ht];simp[Array.getD_eq_getD_getElem?]
 simp[results,Tryz.results19,go_sem,ht',c0,c1,c2,c3,c4,c5]
set_option maxRecDepth 100000 in
set_option maxHeartbeats 8000000 in
theorem iadd_any (b1:Bool) (A1:Option Addr) (n1 c1:Nat) (x1:List Nat) (D1:Option Addr) (m1 d1:Nat) (y1:List Nat) (q1:Rat) (b2:Bool) (A2:Option Addr) (n2 c2:Nat) (x2:List Nat) (D2:Option Addr) (m2 d2:Nat) (y2:List Nat) (q2:Rat) (b3:Bool) (A3:Option Addr) (n3 c3:Nat) (x3:List Nat) (D3:Option Addr) (m3 d3:Nat) (y3:List Nat) (q3:Rat) (b4:Bool) (A4:Option Addr) (n4 c4:Nat) (x4:List Nat) (D4:Option Addr) (m4 d4:Nat) (y4:List Nat) (q4:Rat) (w:World) (X1:Rw w b1 A1 n1 c1 x1 D1 m1 d1 y1 q1) (X2:Rw w b2 A2 n2 c2 x2 D2 m2 d2 y2 q2) (X3:Rw w b3 A3 n3 c3 x3 D3 m3 d3 y3 q3) (X4:Rw w b4 A4 n4 c4 x4 D4 m4 d4 y4 q4):Calls Tryz.prog 19 #[.agg #[.bool b1,.slice A1 n1 c1,.slice D1 m1 d1,.bool b2,.slice A2 n2 c2,.slice D2 m2 d2],.agg #[.bool b3,.slice A3 n3 c3,.slice D3 m3 d3,.bool b4,.slice A4 n4 c4,.slice D4 m4 d4]] w (RetV (klo q1 q2+klo q3 q4) (khi q1 q2+khi q3 q4) w):=by
 obtain⟨b5,A5,n5,c5,x5,D5,m5,d5,y5,b6,A6,n6,c6,x6,D6,m6,d6,y6,X5,X6,hK1⟩:=known_rows b1 A1 n1 c1 x1 D1 m1 d1 y1 q1 b2 A2 n2 c2 x2 D2 m2 d2 y2 q2 w X1 X2
 obtain⟨b7,A7,n7,c7,x7,D7,m7,d7,y7,b8,A8,n8,c8,x8,D8,m8,d8,y8,X7,X8,hK2⟩:=known_rows b3 A3 n3 c3 x3 D3 m3 d3 y3 q3 b4 A4 n4 c4 x4 D4 m4 d4 y4 q4 w X3 X4
 generalize klo q1 q2=q5 at *
 generalize khi q1 q2=q6 at *
 generalize klo q3 q4=q7 at *
 generalize khi q3 q4=q8 at *
 have hA:=fun W h1 h2=>addW b5 A5 n5 c5 x5 D5 m5 d5 y5 q5 b7 A7 n7 c7 x7 D7 m7 d7 y7 q7 W h1 h2
 have hB:=fun W h1 h2=>addW b6 A6 n6 c6 x6 D6 m6 d6 y6 q6 b8 A8 n8 c8 x8 D8 m8 d8 y8 q8 W h1 h2
 have k1:=Lib.hid X1.k
 have k2:=Lib.hid X2.k
 have k3:=Lib.hid X3.k
 have k4:=Lib.hid X4.k
 have k5:=Lib.hid X5.k
 have k6:=Lib.hid X6.k
 have k7:=Lib.hid X7.k
 have k8:=Lib.hid X8.k
 generalize q5+q7=lo at *
 generalize q6+q8=hi at *
 replace hA:=Lib.hid hA
 replace hB:=Lib.hid hB
 have S:=((((((((((((((((((((St.new w).read X1.rn).read X1.rd).read X2.rn).read X2.rd).read X3.rn).read X3.rd).read X4.rn).read X4.rd).read X5.rn).read X5.rd).read X6.rn).read X6.rd).read X7.rn).read X7.rd).read X8.rn).read X8.rd).allocAt (w.heap.size) #[.bool b1,.slice A1 n1 c1,.slice D1 m1 d1,.bool b2,.slice A2 n2 c2,.slice D2 m2 d2] 28 (noL6 _ _ _ _ _ _ _ _ _ _ _ _ _ _) (by simp)).allocAt (w.heap.size+1) #[.bool b3,.slice A3 n3 c3,.slice D3 m3 d3,.bool b4,.slice A4 n4 c4,.slice D4 m4 d4] 28 (noL6 _ _ _ _ _ _ _ _ _ _ _ _ _ _) (by simp)).allocAt (w.heap.size+1+1) #[.bool false,.slice none 0 0,.slice none 0 0,.bool false,.slice none 0 0,.slice none 0 0] 28 (noL6 _ _ _ _ _ _ _ _ _ _ _ _ _ _) (by simp))
 replace S:=Lib.hid S
 clear X1 X2 X3 X4 X5 X6 X7 X8
 go_enter Tryz.func19,Tryz.ntmps19
 go_upto_region 1 with fail
 have S:=S.out
 generalize hW1:(World.alloc (World.alloc (World.alloc w (.cells #[.bool b1,.slice A1 n1 c1,.slice D1 m1 d1,.bool b2,.slice A2 n2 c2,.slice D2 m2 d2] 28)) (.cells #[.bool b3,.slice A3 n3 c3,.slice D3 m3 d3,.bool b4,.slice A4 n4 c4,.slice D4 m4 d4] 28)) (.cells #[.bool false,.slice none 0 0,.slice none 0 0,.bool false,.slice none 0 0,.slice none 0 0] 28))=w1 at S ⊢
 clear hW1
 replace S:=Lib.hid S
 have d_a0:=St.cl (S.out) 2 0 rfl rfl
 have d_a1:=St.cl (S.out) 2 1 rfl rfl
 have d_a2:=St.cl (S.out) 2 2 rfl rfl
 have d_a3:=St.cl (S.out) 2 3 rfl rfl
 have d_a4:=St.cl (S.out) 2 4 rfl rfl
 have d_a5:=St.cl (S.out) 2 5 rfl rfl
 have d_b0:=St.cl (S.out) 1 0 rfl rfl
 have d_b1:=St.cl (S.out) 1 1 rfl rfl
 have d_b2:=St.cl (S.out) 1 2 rfl rfl
 have d_b3:=St.cl (S.out) 1 3 rfl rfl
 have d_b4:=St.cl (S.out) 1 4 rfl rfl
 have d_b5:=St.cl (S.out) 1 5 rfl rfl
 have dz_a0:=St.f (S.out) 2 0 rfl
 have dz_a1:=St.f (S.out) 2 1 rfl
 have dz_a2:=St.f (S.out) 2 2 rfl
 have dz_a3:=St.f (S.out) 2 3 rfl
 have dz_a4:=St.f (S.out) 2 4 rfl
 have dz_a5:=St.f (S.out) 2 5 rfl
 have dz_b0:=St.f (S.out) 1 0 rfl
 have dz_b1:=St.f (S.out) 1 1 rfl
 have dz_b2:=St.f (S.out) 1 2 rfl
 have dz_b3:=St.f (S.out) 1 3 rfl
 have dz_b4:=St.f (S.out) 1 4 rfl
 have dz_b5:=St.f (S.out) 1 5 rfl
 go_cut [] (fun wx=>St w wx [(w.heap.size+1+1,#[.bool false,.slice none 0 0,.slice none 0 0,.bool false,.slice none 0 0,.slice none 0 0],28),(w.heap.size+1,#[.bool b7,.slice A7 n7 c7,.slice D7 m7 d7,.bool b8,.slice A8 n8 c8,.slice D8 m8 d8],28),(w.heap.size,#[.bool b5,.slice A5 n5 c5,.slice D5 m5 d5,.bool b6,.slice A6 n6 c6,.slice D6 m6 d6],28)] [(D8,m8,d8,y8),(A8,n8,c8,x8),(D7,m7,d7,y7),(A7,n7,c7,x7),(D6,m6,d6,y6),(A6,n6,c6,x6),(D5,m5,d5,y5),(A5,n5,c5,x5),(D4,m4,d4,y4),(A4,n4,c4,x4),(D3,m3,d3,y3),(A3,n3,c3,x3),(D2,m2,d2,y2),(A2,n2,c2,x2),(D1,m1,d1,y1),(A1,n1,c1,x1)])
 case first=>
  have SD:=Lib.hid (S.out.drew)
  go_region_with (first
   | (go_at_call_of 85 (Value.agg #[.bool b1,.slice A1 n1 c1,.slice D1 m1 d1,.bool b2,.slice A2 n2 c2,.slice D2 m2 d2]);refine (hK1.out _ (Rw.of (SD.out.r 15 rfl) (SD.out.r 14 rfl) k1.out) (Rw.of (SD.out.r 13 rfl) (SD.out.r 12 rfl) k2.out)).mono ?_;rintro e w2 ⟨rfl,bb0⟩;have S0:St w w2 [(w.heap.size+1+1,#[.bool false,.slice none 0 0,.slice none 0 0,.bool false,.slice none 0 0,.slice none 0 0],28),(w.heap.size+1,#[.bool b3,.slice A3 n3 c3,.slice D3 m3 d3,.bool b4,.slice A4 n4 c4,.slice D4 m4 d4],28),(w.heap.size,#[.bool b1,.slice A1 n1 c1,.slice D1 m1 d1,.bool b2,.slice A2 n2 c2,.slice D2 m2 d2],28)] [(D8,m8,d8,y8),(A8,n8,c8,x8),(D7,m7,d7,y7),(A7,n7,c7,x7),(D6,m6,d6,y6),(A6,n6,c6,x6),(D5,m5,d5,y5),(A5,n5,c5,x5),(D4,m4,d4,y4),(A4,n4,c4,x4),(D3,m3,d3,y3),(A3,n3,c3,x3),(D2,m2,d2,y2),(A2,n2,c2,x2),(D1,m1,d1,y1),(A1,n1,c1,x1)]:=(SD.out.call bb0);have e0_b0:=St.cl (S0) 1 0 rfl rfl;have e0_b1:=St.cl (S0) 1 1 rfl rfl;have e0_b2:=St.cl (S0) 1 2 rfl rfl;have e0_b3:=St.cl (S0) 1 3 rfl rfl;have e0_b4:=St.cl (S0) 1 4 rfl rfl;have e0_b5:=St.cl (S0) 1 5 rfl rfl)
   | (go_at_call_of 85 (Value.agg #[.bool b3,.slice A3 n3 c3,.slice D3 m3 d3,.bool b4,.slice A4 n4 c4,.slice D4 m4 d4]);refine (hK2.out _ (Rw.of (S0.r 11 rfl) (S0.r 10 rfl) k3.out) (Rw.of (S0.r 9 rfl) (S0.r 8 rfl) k4.out)).mono ?_;rintro e w3 ⟨rfl,bb1⟩;have S1:St w w3 [(w.heap.size+1+1,#[.bool false,.slice none 0 0,.slice none 0 0,.bool false,.slice none 0 0,.slice none 0 0],28),(w.heap.size+1,#[.bool b3,.slice A3 n3 c3,.slice D3 m3 d3,.bool b4,.slice A4 n4 c4,.slice D4 m4 d4],28),(w.heap.size,#[.bool b1,.slice A1 n1 c1,.slice D1 m1 d1,.bool b2,.slice A2 n2 c2,.slice D2 m2 d2],28)] [(D8,m8,d8,y8),(A8,n8,c8,x8),(D7,m7,d7,y7),(A7,n7,c7,x7),(D6,m6,d6,y6),(A6,n6,c6,x6),(D5,m5,d5,y5),(A5,n5,c5,x5),(D4,m4,d4,y4),(A4,n4,c4,x4),(D3,m3,d3,y3),(A3,n3,c3,x3),(D2,m2,d2,y2),(A2,n2,c2,x2),(D1,m1,d1,y1),(A1,n1,c1,x1)]:=(S0.call bb1);have e1_a0:=St.cl (S1) 2 0 rfl rfl;have e1_a1:=St.cl (S1) 2 1 rfl rfl;have e1_a2:=St.cl (S1) 2 2 rfl rfl;have e1_a3:=St.cl (S1) 2 3 rfl rfl;have e1_a4:=St.cl (S1) 2 4 rfl rfl;have e1_a5:=St.cl (S1) 2 5 rfl rfl;have e1_b0:=St.cl (S1) 1 0 rfl rfl;have e1_b1:=St.cl (S1) 1 1 rfl rfl;have e1_b2:=St.cl (S1) 1 2 rfl rfl;have e1_b3:=St.cl (S1) 1 3 rfl rfl;have e1_b4:=St.cl (S1) 1 4 rfl rfl;have e1_b5:=St.cl (S1) 1 5 rfl rfl;have e1z_a0:=St.f (S1) 2 0 rfl;have e1z_a1:=St.f (S1) 2 1 rfl;have e1z_a2:=St.f (S1) 2 2 rfl;have e1z_a3:=St.f (S1) 2 3 rfl;have e1z_a4:=St.f (S1) 2 4 rfl;have e1z_a5:=St.f (S1) 2 5 rfl;have e1z_b0:=St.f (S1) 1 0 rfl;have e1z_b1:=St.f (S1) 1 1 rfl;have e1z_b2:=St.f (S1) 1 2 rfl;have e1z_b3:=St.f (S1) 1 3 rfl;have e1z_b4:=St.f (S1) 1 4 rfl;have e1z_b5:=St.f (S1) 1 5 rfl))
  all_goals
   have SE:=Lib.hid (((((((((((((S1.set 2 0 (.bool b5) rfl (by nofun)).set 2 1 (.slice A5 n5 c5) rfl (by nofun)).set 2 2 (.slice D5 m5 d5) rfl (by nofun)).set 2 3 (.bool b6) rfl (by nofun)).set 2 4 (.slice A6 n6 c6) rfl (by nofun)).set 2 5 (.slice D6 m6 d6) rfl (by nofun)).set 1 0 (.bool b7) rfl (by nofun)).set 1 1 (.slice A7 n7 c7) rfl (by nofun)).set 1 2 (.slice D7 m7 d7) rfl (by nofun)).set 1 3 (.bool b8) rfl (by nofun)).set 1 4 (.slice A8 n8 c8) rfl (by nofun)).set 1 5 (.slice D8 m8 d8) rfl (by nofun)))
   clear d_a0 d_a1 d_a2 d_a3 d_a4 d_a5 d_b0 d_b1 d_b2 d_b3 d_b4 d_b5 dz_a0 dz_a1 dz_a2 dz_a3 dz_a4 dz_a5 dz_b0 dz_b1 dz_b2 dz_b3 dz_b4 dz_b5 e0_b0 e0_b1 e0_b2 e0_b3 e0_b4 e0_b5 e1_a0 e1_a1 e1_a2 e1_a3 e1_a4 e1_a5 e1_b0 e1_b1 e1_b2 e1_b3 e1_b4 e1_b5 e1z_a0 e1z_a1 e1z_a2 e1z_a3 e1z_a4 e1z_a5 e1z_b0 e1z_b1 e1z_b2 e1z_b3 e1z_b4 e1z_b5
   go_wp2_with fail
   go_meet
   exact SE.out
 case rest=>
  clear d_a0 d_a1 d_a2 d_a3 d_a4 d_a5 d_b0 d_b1 d_b2 d_b3 d_b4 d_b5 dz_a0 dz_a1 dz_a2 dz_a3 dz_a4 dz_a5 dz_b0 dz_b1 dz_b2 dz_b3 dz_b4 dz_b5
  clear S
  have S:=hcut
  obtain⟨c_r0,c_r1,c_r2,c_r3,c_r4,c_r5,f_r0,f_r1,f_r2,f_r3,f_r4,f_r5⟩:=S.cf6 0 rfl
  obtain⟨c_b0,c_b1,c_b2,c_b3,c_b4,c_b5,f_b0,f_b1,f_b2,f_b3,f_b4,f_b5⟩:=S.cf6 1 rfl
  obtain⟨c_a0,c_a1,c_a2,c_a3,c_a4,c_a5,f_a0,f_a1,f_a2,f_a3,f_a4,f_a5⟩:=S.cf6 2 rfl
  have hz:w.heap.size+1+1<wc.heap.size:=S.lt 0 rfl
  replace S:=Lib.hid S
  clear hK1 hK2
  go_upto_region 2 with fail
  clear c_r0 f_r0 c_r1 f_r1 c_r2 f_r2 c_r3 f_r3 c_r4 f_r4 c_r5 f_r5 c_b0 f_b0 c_b1 f_b1 c_b2 f_b2 c_b3 f_b3 c_b4 f_b4 c_b5 f_b5 c_a0 f_a0 c_a1 f_a1 c_a2 f_a2 c_a3 f_a3 c_a4 f_a4 c_a5 f_a5 hz
  refine RW.begin (Z:=[]) (S:=(fun W=>Cb W (w.heap.size) #[.bool b5,.slice A5 n5 c5,.slice D5 m5 d5,.bool b6,.slice A6 n6 c6,.slice D6 m6 d6] 28∧Cb W (w.heap.size+1) #[.bool b7,.slice A7 n7 c7,.slice D7 m7 d7,.bool b8,.slice A8 n8 c8,.slice D8 m8 d8] 28)) (by kernel_rfl) ?_ S.out ?_
  ·exact⟨by kernel_rfl,zis_nil,by decide,by decide,nol_nil,(fun _ _ h=>⟨h.kb 2 rfl,h.kb 1 rfl⟩)⟩
  intro hzk
  clear S
  refine RW.t (i:=0) (v:=.pointer (some ⟨w.heap.size,0,none⟩)) (some 9) at0 (hy:=fun _ _=>by kernel_rfl) (h:=?_)
  refine RW.t (i:=1) (v:=.agg #[.bool b5,.slice A5 n5 c5,.slice D5 m5 d5]) (some 10) at1 (hy:=fun W hS=>by (have k0:=Cb.cell (i:=0) hS.1 rfl;have k1:=Cb.cell (i:=1) hS.1 rfl;have k2:=Cb.cell (i:=2) hS.1 rfl;clear hS;go_simp)) (h:=?_)
  refine RW.t (i:=2) (v:=.pointer (some ⟨w.heap.size+1,0,none⟩)) (some 11) at2 (hy:=fun _ _=>by kernel_rfl) (h:=?_)
  refine RW.t (i:=3) (v:=.agg #[.bool b7,.slice A7 n7 c7,.slice D7 m7 d7]) (some 12) at3 (hy:=fun W hS=>by (have k0:=Cb.cell (i:=0) hS.2 rfl;have k1:=Cb.cell (i:=1) hS.2 rfl;have k2:=Cb.cell (i:=2) hS.2 rfl;clear hS;go_simp)) (h:=?_)
  refine RW.t (i:=5) (v:=.pointer (some ⟨w.heap.size,3,none⟩)) (some 14) at5 (hy:=fun _ _=>by kernel_rfl) (h:=?_)
  refine RW.t (i:=6) (v:=.agg #[.bool b6,.slice A6 n6 c6,.slice D6 m6 d6]) (some 15) at6 (hy:=fun W hS=>by (have k3:=Cb.cell (i:=3) hS.1 rfl;have k4:=Cb.cell (i:=4) hS.1 rfl;have k5:=Cb.cell (i:=5) hS.1 rfl;clear hS;go_simp)) (h:=?_)
  refine RW.t (i:=7) (v:=.pointer (some ⟨w.heap.size+1,3,none⟩)) (some 16) at7 (hy:=fun _ _=>by kernel_rfl) (h:=?_)
  refine RW.t (i:=8) (v:=.agg #[.bool b8,.slice A8 n8 c8,.slice D8 m8 d8]) (some 17) at8 (hy:=fun W hS=>by (have k3:=Cb.cell (i:=3) hS.2 rfl;have k4:=Cb.cell (i:=4) hS.2 rfl;have k5:=Cb.cell (i:=5) hS.2 rfl;clear hS;go_simp)) (h:=?_)
  refine RW.c (i:=4) (args:=#[.agg #[.bool b5,.slice A5 n5 c5,.slice D5 m5 d5],.agg #[.bool b7,.slice A7 n7 c7,.slice D7 m7 d7]]) (some 13) hzk.out at4 (hx:=fun _=>by kernel_rfl) (h:=fun _ S=>(hA.out _ (Rw.of (S.r 7 rfl) (S.r 6 rfl) k5.out) (Rw.of (S.r 3 rfl) (S.r 2 rfl) k7.out)).mono ?_)
  rintro e w5 ⟨A11,n11,c11,D11,m11,d11,rfl,Q11,bb⟩
  refine⟨bb,_,[(D11,m11,d11,dn lo),(A11,n11,c11,limbs lo.num.natAbs)],rfl,(rd_cons Q11.d (rd_cons Q11.n rd_nil)),?_⟩
  clear bb S Q11
  refine RW.c (i:=9) (args:=#[.agg #[.bool b6,.slice A6 n6 c6,.slice D6 m6 d6],.agg #[.bool b8,.slice A8 n8 c8,.slice D8 m8 d8]]) (some 18) hzk.out at9 (hx:=fun _=>by kernel_rfl) (h:=fun _ S=>(hB.out _ (Rw.of (S.r 7 rfl) (S.r 6 rfl) k6.out) (Rw.of (S.r 3 rfl) (S.r 2 rfl) k8.out)).mono ?_)
  rintro e w6 ⟨A12,n12,c12,D12,m12,d12,rfl,Q12,bb⟩
  refine⟨bb,_,[(D12,m12,d12,dn hi),(A12,n12,c12,limbs hi.num.natAbs)],rfl,(rd_cons Q12.d (rd_cons Q12.n rd_nil)),?_⟩
  clear bb S Q12
  refine RW.t (i:=10) (v:=.agg #[.bool (ng lo.num),.slice A11 n11 c11,.slice D11 m11 d11,.bool (ng hi.num),.slice A12 n12 c12,.slice D12 m12 d12]) (some 19) at10 (hy:=fun _ _=>by kernel_rfl) (h:=?_)
  refine RW.tail hzk.out (by kernel_rfl) ?_
  intro gs w7 hgs hS S
  obtain rfl:=len0 hgs
  clear hS hgs hzk
  simp only[mark,fill,Act.put,List.setIfInBounds_toArray,List.set_cons_zero,List.set_cons_succ]
  replace S:=Lib.hid S
  refine Wk.o (i:=11) at11 (by kernel_rfl) fun K' hK=>?_
  have q11_r0:=St.cl (S.out) 0 0 rfl rfl
  have q11_r1:=St.cl (S.out) 0 1 rfl rfl
  have q11_r2:=St.cl (S.out) 0 2 rfl rfl
  have q11_r3:=St.cl (S.out) 0 3 rfl rfl
  have q11_r4:=St.cl (S.out) 0 4 rfl rfl
  have q11_r5:=St.cl (S.out) 0 5 rfl rfl
  have q11z_r0:=St.f (S.out) 0 0 rfl
  have q11z_r1:=St.f (S.out) 0 1 rfl
  have q11z_r2:=St.f (S.out) 0 2 rfl
  have q11z_r3:=St.f (S.out) 0 3 rfl
  have q11z_r4:=St.f (S.out) 0 4 rfl
  have q11z_r5:=St.f (S.out) 0 5 rfl
  go_simp
  have SN:=((((((S.out.set 0 0 (.bool (ng lo.num)) rfl (by nofun)).set 0 1 (.slice A11 n11 c11) rfl (by nofun)).set 0 2 (.slice D11 m11 d11) rfl (by nofun)).set 0 3 (.bool (ng hi.num)) rfl (by nofun)).set 0 4 (.slice A12 n12 c12) rfl (by nofun)).set 0 5 (.slice D12 m12 d12) rfl (by nofun))
  clear S q11_r0 q11_r1 q11_r2 q11_r3 q11_r4 q11_r5 q11z_r0 q11z_r1 q11z_r2 q11z_r3 q11z_r4 q11z_r5
  have S:=SN
  clear SN
  refine hK.out _ _ ⟨(S.cb 2 rfl),(S.cb 1 rfl)⟩ ?_
  clear hK K'
  replace S:=Lib.hid S
  try simp only[Act.put,List.setIfInBounds_toArray,List.set_cons_zero,List.set_cons_succ]
  refine Wk.done (by kernel_rfl) ?_
  go_simp
  replace S:=S.out
  have S:St w _ [(w.heap.size+1+1,#[.bool (ng lo.num),.slice A11 n11 c11,.slice D11 m11 d11,.bool (ng hi.num),.slice A12 n12 c12,.slice D12 m12 d12],28),(w.heap.size+1,#[.bool b7,.slice A7 n7 c7,.slice D7 m7 d7,.bool b8,.slice A8 n8 c8,.slice D8 m8 d8],28),(w.heap.size,#[.bool b5,.slice A5 n5 c5,.slice D5 m5 d5,.bool b6,.slice A6 n6 c6,.slice D6 m6 d6],28)] [(D12,m12,d12,dn hi),(A12,n12,c12,limbs hi.num.natAbs),(D11,m11,d11,dn lo),(A11,n11,c11,limbs lo.num.natAbs),(D8,m8,d8,y8),(A8,n8,c8,x8),(D7,m7,d7,y7),(A7,n7,c7,x7),(D6,m6,d6,y6),(A6,n6,c6,x6),(D5,m5,d5,y5),(A5,n5,c5,x5),(D4,m4,d4,y4),(A4,n4,c4,x4),(D3,m3,d3,y3),(A3,n3,c3,x3),(D2,m2,d2,y2),(A2,n2,c2,x2),(D1,m1,d1,y1),(A1,n1,c1,x1)]:=S
  generalize hW8:(World.setCell (World.setCell (World.setCell (World.setCell (World.setCell (World.setCell w7 ⟨w.heap.size+1+1,0,none⟩ (.bool (ng lo.num))) ⟨w.heap.size+1+1,1,none⟩ (.slice A11 n11 c11)) ⟨w.heap.size+1+1,2,none⟩ (.slice D11 m11 d11)) ⟨w.heap.size+1+1,3,none⟩ (.bool (ng hi.num))) ⟨w.heap.size+1+1,4,none⟩ (.slice A12 n12 c12)) ⟨w.heap.size+1+1,5,none⟩ (.slice D12 m12 d12))=w8 at S ⊢
  clear hW8
  replace S:=Lib.hid S
  replace S:=S.out
  obtain⟨c_r0,c_r1,c_r2,c_r3,c_r4,c_r5,f_r0,f_r1,f_r2,f_r3,f_r4,f_r5⟩:=S.cf6 0 rfl
  obtain⟨c_b0,c_b1,c_b2,c_b3,c_b4,c_b5,f_b0,f_b1,f_b2,f_b3,f_b4,f_b5⟩:=S.cf6 1 rfl
  obtain⟨c_a0,c_a1,c_a2,c_a3,c_a4,c_a5,f_a0,f_a1,f_a2,f_a3,f_a4,f_a5⟩:=S.cf6 2 rfl
  have hz:w.heap.size+1+1<w8.heap.size:=S.lt 0 rfl
  replace S:=Lib.hid S
  have S:=S.out
  replace S:=Lib.hid S
  go_wp2
  refine bodyPost_ret (res_iadd _ _ (w.heap.size+1+1) 28 rfl (S.out.bk _ (List.mem_of_getElem? (i:=0) rfl)).1) rfl ?_
  exact⟨_,_,_,_,_,_,_,_,_,_,_,_,rfl,⟨S.out.r 3 rfl,S.out.r 2 rfl⟩,⟨S.out.r 1 rfl,S.out.r 0 rfl⟩,S.out.bel⟩
theorem res_isub (W:World) (tmps:Array Value) (g t:Nat) {v0 v1 v2 v3 v4 v5:Value} (ht:tmps.getD 4 undef=.pointer (some ⟨g,0,none⟩)) (h:Cb W g #[v0,v1,v2,v3,v4,v5] t) :
  (results Tryz.f21 tmps).run Tryz.prog W=.ok (.agg #[v0,v1,v2,v3,v4,v5]) W:=by
 have c0:W.cell? ⟨g,0,none⟩=some v0:=h.cell rfl
 have c1:W.cell? ⟨g,1,none⟩=some v1:=h.cell rfl
 have c2:W.cell? ⟨g,2,none⟩=some v2:=h.cell rfl
 have c3:W.cell? ⟨g,3,none⟩=some v3:=h.cell rfl
 have c4:W.cell? ⟨g,4,none⟩=some v4:=h.cell rfl
 have c5:W.cell? ⟨g,5,none⟩=some v5:=h.cell rfl
 have ht':tmps[4]?.getD undef=.pointer (some ⟨g,0,none⟩):=by rw[←ht];simp[Array.getD_eq_getD_getElem?]
 simp[results,Tryz.results21,go_sem,ht',c0,c1,c2,c3,c4,c5]
set_option maxRecDepth 100000 in
set_option maxHeartbeats 8000000 in
theorem isub_any (b1:Bool) (A1:Option Addr) (n1 c1:Nat) (x1:List Nat) (D1:Option Addr) (m1 d1:Nat) (y1:List Nat) (q1:Rat) (b2:Bool) (A2:Option Addr) (n2 c2:Nat) (x2:List Nat) (D2:Option Addr) (m2 d2:Nat) (y2:List Nat) (q2:Rat) (b3:Bool) (A3:Option Addr) (n3 c3:Nat) (x3:List Nat) (D3:Option Addr) (m3 d3:Nat) (y3:List Nat) (q3:Rat) (b4:Bool) (A4:Option Addr) (n4 c4:Nat) (x4:List Nat) (D4:Option Addr) (m4 d4:Nat) (y4:List Nat) (q4:Rat) (w:World) (X1:Rw w b1 A1 n1 c1 x1 D1 m1 d1 y1 q1) (X2:Rw w b2 A2 n2 c2 x2 D2 m2 d2 y2 q2) (X3:Rw w b3 A3 n3 c3 x3 D3 m3 d3 y3 q3) (X4:Rw w b4 A4 n4 c4 x4 D4 m4 d4 y4 q4):Calls Tryz.prog 21 #[.agg #[.bool b1,.slice A1 n1 c1,.slice D1 m1 d1,.bool b2,.slice A2 n2 c2,.slice D2 m2 d2],.agg #[.bool b3,.slice A3 n3 c3,.slice D3 m3 d3,.bool b4,.slice A4 n4 c4,.slice D4 m4 d4]] w (RetV (klo q1 q2-khi q3 q4) (khi q1 q2-klo q3 q4) w):=by
 obtain⟨b5,A5,n5,c5,x5,D5,m5,d5,y5,b6,A6,n6,c6,x6,D6,m6,d6,y6,X5,X6,hK1⟩:=known_rows b1 A1 n1 c1 x1 D1 m1 d1 y1 q1 b2 A2 n2 c2 x2 D2 m2 d2 y2 q2 w X1 X2
 obtain⟨b7,A7,n7,c7,x7,D7,m7,d7,y7,b8,A8,n8,c8,x8,D8,m8,d8,y8,X7,X8,hK2⟩:=known_rows b3 A3 n3 c3 x3 D3 m3 d3 y3 q3 b4 A4 n4 c4 x4 D4 m4 d4 y4 q4 w X3 X4
 generalize klo q1 q2=q5 at *
 generalize khi q1 q2=q6 at *
 generalize klo q3 q4=q7 at *
 generalize khi q3 q4=q8 at *
 have hA:=fun W h1 h2=>subW b5 A5 n5 c5 x5 D5 m5 d5 y5 q5 b8 A8 n8 c8 x8 D8 m8 d8 y8 q8 W h1 h2
 have hB:=fun W h1 h2=>subW b6 A6 n6 c6 x6 D6 m6 d6 y6 q6 b7 A7 n7 c7 x7 D7 m7 d7 y7 q7 W h1 h2
 have k1:=Lib.hid X1.k
 have k2:=Lib.hid X2.k
 have k3:=Lib.hid X3.k
 have k4:=Lib.hid X4.k
 have k5:=Lib.hid X5.k
 have k6:=Lib.hid X6.k
 have k7:=Lib.hid X7.k
 have k8:=Lib.hid X8.k
 generalize q5-q8=lo at *
 generalize q6-q7=hi at *
 replace hA:=Lib.hid hA
 replace hB:=Lib.hid hB
 have S:=((((((((((((((((((((St.new w).read X1.rn).read X1.rd).read X2.rn).read X2.rd).read X3.rn).read X3.rd).read X4.rn).read X4.rd).read X5.rn).read X5.rd).read X6.rn).read X6.rd).read X7.rn).read X7.rd).read X8.rn).read X8.rd).allocAt (w.heap.size) #[.bool b1,.slice A1 n1 c1,.slice D1 m1 d1,.bool b2,.slice A2 n2 c2,.slice D2 m2 d2] 28 (noL6 _ _ _ _ _ _ _ _ _ _ _ _ _ _) (by simp)).allocAt (w.heap.size+1) #[.bool b3,.slice A3 n3 c3,.slice D3 m3 d3,.bool b4,.slice A4 n4 c4,.slice D4 m4 d4] 28 (noL6 _ _ _ _ _ _ _ _ _ _ _ _ _ _) (by simp)).allocAt (w.heap.size+1+1) #[.bool false,.slice none 0 0,.slice none 0 0,.bool false,.slice none 0 0,.slice none 0 0] 28 (noL6 _ _ _ _ _ _ _ _ _ _ _ _ _ _) (by simp))
 replace S:=Lib.hid S
 clear X1 X2 X3 X4 X5 X6 X7 X8
 go_enter Tryz.func21,Tryz.ntmps21
 go_upto_region 1 with fail
 have S:=S.out
 generalize hW1:(World.alloc (World.alloc (World.alloc w (.cells #[.bool b1,.slice A1 n1 c1,.slice D1 m1 d1,.bool b2,.slice A2 n2 c2,.slice D2 m2 d2] 28)) (.cells #[.bool b3,.slice A3 n3 c3,.slice D3 m3 d3,.bool b4,.slice A4 n4 c4,.slice D4 m4 d4] 28)) (.cells #[.bool false,.slice none 0 0,.slice none 0 0,.bool false,.slice none 0 0,.slice none 0 0] 28))=w1 at S ⊢
 clear hW1
 replace S:=Lib.hid S
 have d_a0:=St.cl (S.out) 2 0 rfl rfl
 have d_a1:=St.cl (S.out) 2 1 rfl rfl
 have d_a2:=St.cl (S.out) 2 2 rfl rfl
 have d_a3:=St.cl (S.out) 2 3 rfl rfl
 have d_a4:=St.cl (S.out) 2 4 rfl rfl
 have d_a5:=St.cl (S.out) 2 5 rfl rfl
 have d_b0:=St.cl (S.out) 1 0 rfl rfl
 have d_b1:=St.cl (S.out) 1 1 rfl rfl
 have d_b2:=St.cl (S.out) 1 2 rfl rfl
 have d_b3:=St.cl (S.out) 1 3 rfl rfl
 have d_b4:=St.cl (S.out) 1 4 rfl rfl
 have d_b5:=St.cl (S.out) 1 5 rfl rfl
 have dz_a0:=St.f (S.out) 2 0 rfl
 have dz_a1:=St.f (S.out) 2 1 rfl
 have dz_a2:=St.f (S.out) 2 2 rfl
 have dz_a3:=St.f (S.out) 2 3 rfl
 have dz_a4:=St.f (S.out) 2 4 rfl
 have dz_a5:=St.f (S.out) 2 5 rfl
 have dz_b0:=St.f (S.out) 1 0 rfl
 have dz_b1:=St.f (S.out) 1 1 rfl
 have dz_b2:=St.f (S.out) 1 2 rfl
 have dz_b3:=St.f (S.out) 1 3 rfl
 have dz_b4:=St.f (S.out) 1 4 rfl
 have dz_b5:=St.f (S.out) 1 5 rfl
 go_cut [] (fun wx=>St w wx [(w.heap.size+1+1,#[.bool false,.slice none 0 0,.slice none 0 0,.bool false,.slice none 0 0,.slice none 0 0],28),(w.heap.size+1,#[.bool b7,.slice A7 n7 c7,.slice D7 m7 d7,.bool b8,.slice A8 n8 c8,.slice D8 m8 d8],28),(w.heap.size,#[.bool b5,.slice A5 n5 c5,.slice D5 m5 d5,.bool b6,.slice A6 n6 c6,.slice D6 m6 d6],28)] [(D8,m8,d8,y8),(A8,n8,c8,x8),(D7,m7,d7,y7),(A7,n7,c7,x7),(D6,m6,d6,y6),(A6,n6,c6,x6),(D5,m5,d5,y5),(A5,n5,c5,x5),(D4,m4,d4,y4),(A4,n4,c4,x4),(D3,m3,d3,y3),(A3,n3,c3,x3),(D2,m2,d2,y2),(A2,n2,c2,x2),(D1,m1,d1,y1),(A1,n1,c1,x1)])
 case first=>
  have SD:=Lib.hid (S.out.drew)
  go_region_with (first
   | (go_at_call_of 85 (Value.agg #[.bool b1,.slice A1 n1 c1,.slice D1 m1 d1,.bool b2,.slice A2 n2 c2,.slice D2 m2 d2]);refine (hK1.out _ (Rw.of (SD.out.r 15 rfl) (SD.out.r 14 rfl) k1.out) (Rw.of (SD.out.r 13 rfl) (SD.out.r 12 rfl) k2.out)).mono ?_;rintro e w2 ⟨rfl,bb0⟩;have S0:St w w2 [(w.heap.size+1+1,#[.bool false,.slice none 0 0,.slice none 0 0,.bool false,.slice none 0 0,.slice none 0 0],28),(w.heap.size+1,#[.bool b3,.slice A3 n3 c3,.slice D3 m3 d3,.bool b4,.slice A4 n4 c4,.slice D4 m4 d4],28),(w.heap.size,#[.bool b1,.slice A1 n1 c1,.slice D1 m1 d1,.bool b2,.slice A2 n2 c2,.slice D2 m2 d2],28)] [(D8,m8,d8,y8),(A8,n8,c8,x8),(D7,m7,d7,y7),(A7,n7,c7,x7),(D6,m6,d6,y6),(A6,n6,c6,x6),(D5,m5,d5,y5),(A5,n5,c5,x5),(D4,m4,d4,y4),(A4,n4,c4,x4),(D3,m3,d3,y3),(A3,n3,c3,x3),(D2,m2,d2,y2),(A2,n2,c2,x2),(D1,m1,d1,y1),(A1,n1,c1,x1)]:=(SD.out.call bb0);have e0_b0:=St.cl (S0) 1 0 rfl rfl;have e0_b1:=St.cl (S0) 1 1 rfl rfl;have e0_b2:=St.cl (S0) 1 2 rfl rfl;have e0_b3:=St.cl (S0) 1 3 rfl rfl;have e0_b4:=St.cl (S0) 1 4 rfl rfl;have e0_b5:=St.cl (S0) 1 5 rfl rfl)
   | (go_at_call_of 85 (Value.agg #[.bool b3,.slice A3 n3 c3,.slice D3 m3 d3,.bool b4,.slice A4 n4 c4,.slice D4 m4 d4]);refine (hK2.out _ (Rw.of (S0.r 11 rfl) (S0.r 10 rfl) k3.out) (Rw.of (S0.r 9 rfl) (S0.r 8 rfl) k4.out)).mono ?_;rintro e w3 ⟨rfl,bb1⟩;have S1:St w w3 [(w.heap.size+1+1,#[.bool false,.slice none 0 0,.slice none 0 0,.bool false,.slice none 0 0,.slice none 0 0],28),(w.heap.size+1,#[.bool b3,.slice A3 n3 c3,.slice D3 m3 d3,.bool b4,.slice A4 n4 c4,.slice D4 m4 d4],28),(w.heap.size,#[.bool b1,.slice A1 n1 c1,.slice D1 m1 d1,.bool b2,.slice A2 n2 c2,.slice D2 m2 d2],28)] [(D8,m8,d8,y8),(A8,n8,c8,x8),(D7,m7,d7,y7),(A7,n7,c7,x7),(D6,m6,d6,y6),(A6,n6,c6,x6),(D5,m5,d5,y5),(A5,n5,c5,x5),(D4,m4,d4,y4),(A4,n4,c4,x4),(D3,m3,d3,y3),(A3,n3,c3,x3),(D2,m2,d2,y2),(A2,n2,c2,x2),(D1,m1,d1,y1),(A1,n1,c1,x1)]:=(S0.call bb1);have e1_a0:=St.cl (S1) 2 0 rfl rfl;have e1_a1:=St.cl (S1) 2 1 rfl rfl;have e1_a2:=St.cl (S1) 2 2 rfl rfl;have e1_a3:=St.cl (S1) 2 3 rfl rfl;have e1_a4:=St.cl (S1) 2 4 rfl rfl;have e1_a5:=St.cl (S1) 2 5 rfl rfl;have e1_b0:=St.cl (S1) 1 0 rfl rfl;have e1_b1:=St.cl (S1) 1 1 rfl rfl;have e1_b2:=St.cl (S1) 1 2 rfl rfl;have e1_b3:=St.cl (S1) 1 3 rfl rfl;have e1_b4:=St.cl (S1) 1 4 rfl rfl;have e1_b5:=St.cl (S1) 1 5 rfl rfl;have e1z_a0:=St.f (S1) 2 0 rfl;have e1z_a1:=St.f (S1) 2 1 rfl;have e1z_a2:=St.f (S1) 2 2 rfl;have e1z_a3:=St.f (S1) 2 3 rfl;have e1z_a4:=St.f (S1) 2 4 rfl;have e1z_a5:=St.f (S1) 2 5 rfl;have e1z_b0:=St.f (S1) 1 0 rfl;have e1z_b1:=St.f (S1) 1 1 rfl;have e1z_b2:=St.f (S1) 1 2 rfl;have e1z_b3:=St.f (S1) 1 3 rfl;have e1z_b4:=St.f (S1) 1 4 rfl;have e1z_b5:=St.f (S1) 1 5 rfl))
  all_goals
   have SE:=Lib.hid (((((((((((((S1.set 2 0 (.bool b5) rfl (by nofun)).set 2 1 (.slice A5 n5 c5) rfl (by nofun)).set 2 2 (.slice D5 m5 d5) rfl (by nofun)).set 2 3 (.bool b6) rfl (by nofun)).set 2 4 (.slice A6 n6 c6) rfl (by nofun)).set 2 5 (.slice D6 m6 d6) rfl (by nofun)).set 1 0 (.bool b7) rfl (by nofun)).set 1 1 (.slice A7 n7 c7) rfl (by nofun)).set 1 2 (.slice D7 m7 d7) rfl (by nofun)).set 1 3 (.bool b8) rfl (by nofun)).set 1 4 (.slice A8 n8 c8) rfl (by nofun)).set 1 5 (.slice D8 m8 d8) rfl (by nofun)))
   clear d_a0 d_a1 d_a2 d_a3 d_a4 d_a5 d_b0 d_b1 d_b2 d_b3 d_b4 d_b5 dz_a0 dz_a1 dz_a2 dz_a3 dz_a4 dz_a5 dz_b0 dz_b1 dz_b2 dz_b3 dz_b4 dz_b5 e0_b0 e0_b1 e0_b2 e0_b3 e0_b4 e0_b5 e1_a0 e1_a1 e1_a2 e1_a3 e1_a4 e1_a5 e1_b0 e1_b1 e1_b2 e1_b3 e1_b4 e1_b5 e1z_a0 e1z_a1 e1z_a2 e1z_a3 e1z_a4 e1z_a5 e1z_b0 e1z_b1 e1z_b2 e1z_b3 e1z_b4 e1z_b5
   go_wp2_with fail
   go_meet
   exact SE.out
 case rest=>
  clear d_a0 d_a1 d_a2 d_a3 d_a4 d_a5 d_b0 d_b1 d_b2 d_b3 d_b4 d_b5 dz_a0 dz_a1 dz_a2 dz_a3 dz_a4 dz_a5 dz_b0 dz_b1 dz_b2 dz_b3 dz_b4 dz_b5
  clear S
  have S:=hcut
  obtain⟨c_r0,c_r1,c_r2,c_r3,c_r4,c_r5,f_r0,f_r1,f_r2,f_r3,f_r4,f_r5⟩:=S.cf6 0 rfl
  obtain⟨c_b0,c_b1,c_b2,c_b3,c_b4,c_b5,f_b0,f_b1,f_b2,f_b3,f_b4,f_b5⟩:=S.cf6 1 rfl
  obtain⟨c_a0,c_a1,c_a2,c_a3,c_a4,c_a5,f_a0,f_a1,f_a2,f_a3,f_a4,f_a5⟩:=S.cf6 2 rfl
  have hz:w.heap.size+1+1<wc.heap.size:=S.lt 0 rfl
  replace S:=Lib.hid S
  clear hK1 hK2
  go_upto_region 2 with fail
  clear c_r0 f_r0 c_r1 f_r1 c_r2 f_r2 c_r3 f_r3 c_r4 f_r4 c_r5 f_r5 c_b0 f_b0 c_b1 f_b1 c_b2 f_b2 c_b3 f_b3 c_b4 f_b4 c_b5 f_b5 c_a0 f_a0 c_a1 f_a1 c_a2 f_a2 c_a3 f_a3 c_a4 f_a4 c_a5 f_a5 hz
  refine RW.begin (Z:=[]) (S:=(fun W=>Cb W (w.heap.size) #[.bool b5,.slice A5 n5 c5,.slice D5 m5 d5,.bool b6,.slice A6 n6 c6,.slice D6 m6 d6] 28∧Cb W (w.heap.size+1) #[.bool b7,.slice A7 n7 c7,.slice D7 m7 d7,.bool b8,.slice A8 n8 c8,.slice D8 m8 d8] 28)) (by kernel_rfl) ?_ S.out ?_
  ·exact⟨by kernel_rfl,zis_nil,by decide,by decide,nol_nil,(fun _ _ h=>⟨h.kb 2 rfl,h.kb 1 rfl⟩)⟩
  intro hzk
  clear S
  refine RW.t (i:=0) (v:=.pointer (some ⟨w.heap.size,0,none⟩)) (some 9) at0 (hy:=fun _ _=>by kernel_rfl) (h:=?_)
  refine RW.t (i:=1) (v:=.agg #[.bool b5,.slice A5 n5 c5,.slice D5 m5 d5]) (some 10) at1 (hy:=fun W hS=>by (have k0:=Cb.cell (i:=0) hS.1 rfl;have k1:=Cb.cell (i:=1) hS.1 rfl;have k2:=Cb.cell (i:=2) hS.1 rfl;clear hS;go_simp)) (h:=?_)
  refine RW.t (i:=2) (v:=.pointer (some ⟨w.heap.size+1,3,none⟩)) (some 11) at2 (hy:=fun _ _=>by kernel_rfl) (h:=?_)
  refine RW.t (i:=3) (v:=.agg #[.bool b8,.slice A8 n8 c8,.slice D8 m8 d8]) (some 12) at3 (hy:=fun W hS=>by (have k3:=Cb.cell (i:=3) hS.2 rfl;have k4:=Cb.cell (i:=4) hS.2 rfl;have k5:=Cb.cell (i:=5) hS.2 rfl;clear hS;go_simp)) (h:=?_)
  refine RW.t (i:=5) (v:=.pointer (some ⟨w.heap.size,3,none⟩)) (some 14) at5 (hy:=fun _ _=>by kernel_rfl) (h:=?_)
  refine RW.t (i:=6) (v:=.agg #[.bool b6,.slice A6 n6 c6,.slice D6 m6 d6]) (some 15) at6 (hy:=fun W hS=>by (have k3:=Cb.cell (i:=3) hS.1 rfl;have k4:=Cb.cell (i:=4) hS.1 rfl;have k5:=Cb.cell (i:=5) hS.1 rfl;clear hS;go_simp)) (h:=?_)
  refine RW.t (i:=7) (v:=.pointer (some ⟨w.heap.size+1,0,none⟩)) (some 16) at7 (hy:=fun _ _=>by kernel_rfl) (h:=?_)
  refine RW.t (i:=8) (v:=.agg #[.bool b7,.slice A7 n7 c7,.slice D7 m7 d7]) (some 17) at8 (hy:=fun W hS=>by (have k0:=Cb.cell (i:=0) hS.2 rfl;have k1:=Cb.cell (i:=1) hS.2 rfl;have k2:=Cb.cell (i:=2) hS.2 rfl;clear hS;go_simp)) (h:=?_)
  refine RW.c (i:=4) (args:=#[.agg #[.bool b5,.slice A5 n5 c5,.slice D5 m5 d5],.agg #[.bool b8,.slice A8 n8 c8,.slice D8 m8 d8]]) (some 13) hzk.out at4 (hx:=fun _=>by kernel_rfl) (h:=fun _ S=>(hA.out _ (Rw.of (S.r 7 rfl) (S.r 6 rfl) k5.out) (Rw.of (S.r 1 rfl) (S.r 0 rfl) k8.out)).mono ?_)
  rintro e w5 ⟨A11,n11,c11,D11,m11,d11,rfl,Q11,bb⟩
  refine⟨bb,_,[(D11,m11,d11,dn lo),(A11,n11,c11,limbs lo.num.natAbs)],rfl,(rd_cons Q11.d (rd_cons Q11.n rd_nil)),?_⟩
  clear bb S Q11
  refine RW.c (i:=9) (args:=#[.agg #[.bool b6,.slice A6 n6 c6,.slice D6 m6 d6],.agg #[.bool b7,.slice A7 n7 c7,.slice D7 m7 d7]]) (some 18) hzk.out at9 (hx:=fun _=>by kernel_rfl) (h:=fun _ S=>(hB.out _ (Rw.of (S.r 7 rfl) (S.r 6 rfl) k6.out) (Rw.of (S.r 5 rfl) (S.r 4 rfl) k7.out)).mono ?_)
  rintro e w6 ⟨A12,n12,c12,D12,m12,d12,rfl,Q12,bb⟩
  refine⟨bb,_,[(D12,m12,d12,dn hi),(A12,n12,c12,limbs hi.num.natAbs)],rfl,(rd_cons Q12.d (rd_cons Q12.n rd_nil)),?_⟩
  clear bb S Q12
  refine RW.t (i:=10) (v:=.agg #[.bool (ng lo.num),.slice A11 n11 c11,.slice D11 m11 d11,.bool (ng hi.num),.slice A12 n12 c12,.slice D12 m12 d12]) (some 19) at10 (hy:=fun _ _=>by kernel_rfl) (h:=?_)
  refine RW.tail hzk.out (by kernel_rfl) ?_
  intro gs w7 hgs hS S
  obtain rfl:=len0 hgs
  clear hS hgs hzk
  simp only[mark,fill,Act.put,List.setIfInBounds_toArray,List.set_cons_zero,List.set_cons_succ]
  replace S:=Lib.hid S
  refine Wk.o (i:=11) at11 (by kernel_rfl) fun K' hK=>?_
  have q11_r0:=St.cl (S.out) 0 0 rfl rfl
  have q11_r1:=St.cl (S.out) 0 1 rfl rfl
  have q11_r2:=St.cl (S.out) 0 2 rfl rfl
  have q11_r3:=St.cl (S.out) 0 3 rfl rfl
  have q11_r4:=St.cl (S.out) 0 4 rfl rfl
  have q11_r5:=St.cl (S.out) 0 5 rfl rfl
  have q11z_r0:=St.f (S.out) 0 0 rfl
  have q11z_r1:=St.f (S.out) 0 1 rfl
  have q11z_r2:=St.f (S.out) 0 2 rfl
  have q11z_r3:=St.f (S.out) 0 3 rfl
  have q11z_r4:=St.f (S.out) 0 4 rfl
  have q11z_r5:=St.f (S.out) 0 5 rfl
  go_simp
  have SN:=((((((S.out.set 0 0 (.bool (ng lo.num)) rfl (by nofun)).set 0 1 (.slice A11 n11 c11) rfl (by nofun)).set 0 2 (.slice D11 m11 d11) rfl (by nofun)).set 0 3 (.bool (ng hi.num)) rfl (by nofun)).set 0 4 (.slice A12 n12 c12) rfl (by nofun)).set 0 5 (.slice D12 m12 d12) rfl (by nofun))
  clear S q11_r0 q11_r1 q11_r2 q11_r3 q11_r4 q11_r5 q11z_r0 q11z_r1 q11z_r2 q11z_r3 q11z_r4 q11z_r5
  have S:=SN
  clear SN
  refine hK.out _ _ ⟨(S.cb 2 rfl),(S.cb 1 rfl)⟩ ?_
  clear hK K'
  replace S:=Lib.hid S
  try simp only[Act.put,List.setIfInBounds_toArray,List.set_cons_zero,List.set_cons_succ]
  refine Wk.done (by kernel_rfl) ?_
  go_simp
  replace S:=S.out
  have S:St w _ [(w.heap.size+1+1,#[.bool (ng lo.num),.slice A11 n11 c11,.slice D11 m11 d11,.bool (ng hi.num),.slice A12 n12 c12,.slice D12 m12 d12],28),(w.heap.size+1,#[.bool b7,.slice A7 n7 c7,.slice D7 m7 d7,.bool b8,.slice A8 n8 c8,.slice D8 m8 d8],28),(w.heap.size,#[.bool b5,.slice A5 n5 c5,.slice D5 m5 d5,.bool b6,.slice A6 n6 c6,.slice D6 m6 d6],28)] [(D12,m12,d12,dn hi),(A12,n12,c12,limbs hi.num.natAbs),(D11,m11,d11,dn lo),(A11,n11,c11,limbs lo.num.natAbs),(D8,m8,d8,y8),(A8,n8,c8,x8),(D7,m7,d7,y7),(A7,n7,c7,x7),(D6,m6,d6,y6),(A6,n6,c6,x6),(D5,m5,d5,y5),(A5,n5,c5,x5),(D4,m4,d4,y4),(A4,n4,c4,x4),(D3,m3,d3,y3),(A3,n3,c3,x3),(D2,m2,d2,y2),(A2,n2,c2,x2),(D1,m1,d1,y1),(A1,n1,c1,x1)]:=S
  generalize hW8:(World.setCell (World.setCell (World.setCell (World.setCell (World.setCell (World.setCell w7 ⟨w.heap.size+1+1,0,none⟩ (.bool (ng lo.num))) ⟨w.heap.size+1+1,1,none⟩ (.slice A11 n11 c11)) ⟨w.heap.size+1+1,2,none⟩ (.slice D11 m11 d11)) ⟨w.heap.size+1+1,3,none⟩ (.bool (ng hi.num))) ⟨w.heap.size+1+1,4,none⟩ (.slice A12 n12 c12)) ⟨w.heap.size+1+1,5,none⟩ (.slice D12 m12 d12))=w8 at S ⊢
  clear hW8
  replace S:=Lib.hid S
  replace S:=S.out
  obtain⟨c_r0,c_r1,c_r2,c_r3,c_r4,c_r5,f_r0,f_r1,f_r2,f_r3,f_r4,f_r5⟩:=S.cf6 0 rfl
  obtain⟨c_b0,c_b1,c_b2,c_b3,c_b4,c_b5,f_b0,f_b1,f_b2,f_b3,f_b4,f_b5⟩:=S.cf6 1 rfl
  obtain⟨c_a0,c_a1,c_a2,c_a3,c_a4,c_a5,f_a0,f_a1,f_a2,f_a3,f_a4,f_a5⟩:=S.cf6 2 rfl
  have hz:w.heap.size+1+1<w8.heap.size:=S.lt 0 rfl
  replace S:=Lib.hid S
  have S:=S.out
  replace S:=Lib.hid S
  go_wp2
  refine bodyPost_ret (res_isub _ _ (w.heap.size+1+1) 28 rfl (S.out.bk _ (List.mem_of_getElem? (i:=0) rfl)).1) rfl ?_
  exact⟨_,_,_,_,_,_,_,_,_,_,_,_,rfl,⟨S.out.r 3 rfl,S.out.r 2 rfl⟩,⟨S.out.r 1 rfl,S.out.r 0 rfl⟩,S.out.bel⟩
end Go.Proofs.YtphckmdnflbloaaGreat
