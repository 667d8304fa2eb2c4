/- Rows that count as numbers; intervals: isOrdered, known, Contains, Within. interval's Within, Width, Add, Sub. -/
import Derived.Test.YtphckmdnflbloaaGreatQTkz
import Derived.Test.YtphckmdnflbloaaGreatQMaz
import Derived.Test.YtphckmdnflbloaaGreatDr
namespace Go.Proofs.YtphckmdnflbloaaGreat
open Go.RowKit RQ
theorem addW (b1:Bool) (A1:Option Addr) (n1 c1:Nat) (x1:List Nat) (D1:Option Addr) (m1 d1:Nat) (y1:List Nat) (q1:Rat) (b2:Bool) (A2:Option Addr) (n2 c2:Nat) (x2:List Nat) (D2:Option Addr) (m2 d2:Nat) (y2:List Nat) (q2:Rat) (w:World) (X1:Rw w b1 A1 n1 c1 x1 D1 m1 d1 y1 q1) (X2:Rw w b2 A2 n2 c2 x2 D2 m2 d2 y2 q2):Calls Tryz.prog 86 #[.agg #[.bool b1,.slice A1 n1 c1,.slice D1 m1 d1],.agg #[.bool b2,.slice A2 n2 c2,.slice D2 m2 d2]] w (RetR (q1+q2) w):=by
 have:=Radd_any b1 A1 n1 c1 x1 D1 m1 d1 y1 b2 A2 n2 c2 x2 D2 m2 d2 y2 w X1.rn X1.rd X2.rn X2.rd (by have:=X1.k.2.1;omega) (by have:=X1.k.2.2;omega) (by have:=X2.k.2.1;omega) (by have:=X2.k.2.2;omega)
 rwa [X1.k.1,X2.k.1] at this
theorem mulW (b1:Bool) (A1:Option Addr) (n1 c1:Nat) (x1:List Nat) (D1:Option Addr) (m1 d1:Nat) (y1:List Nat) (q1:Rat) (b2:Bool) (A2:Option Addr) (n2 c2:Nat) (x2:List Nat) (D2:Option Addr) (m2 d2:Nat) (y2:List Nat) (q2:Rat) (w:World) (X1:Rw w b1 A1 n1 c1 x1 D1 m1 d1 y1 q1) (X2:Rw w b2 A2 n2 c2 x2 D2 m2 d2 y2 q2):Calls Tryz.prog 91 #[.agg #[.bool b1,.slice A1 n1 c1,.slice D1 m1 d1],.agg #[.bool b2,.slice A2 n2 c2,.slice D2 m2 d2]] w (RetR (q1*q2) w):=by
 have:=Rmul_any b1 A1 n1 c1 x1 D1 m1 d1 y1 b2 A2 n2 c2 x2 D2 m2 d2 y2 w X1.rn X1.rd X2.rn X2.rd (by have:=X1.k.2.1;omega) (by have:=X1.k.2.2;omega) (by have:=X2.k.2.1;omega) (by have:=X2.k.2.2;omega)
 rwa [X1.k.1,X2.k.1] at this
theorem compareW (b1:Bool) (A1:Option Addr) (n1 c1:Nat) (x1:List Nat) (D1:Option Addr) (m1 d1:Nat) (y1:List Nat) (q1:Rat) (b2:Bool) (A2:Option Addr) (n2 c2:Nat) (x2:List Nat) (D2:Option Addr) (m2 d2:Nat) (y2:List Nat) (q2:Rat) (w:World) (X1:Rw w b1 A1 n1 c1 x1 D1 m1 d1 y1 q1) (X2:Rw w b2 A2 n2 c2 x2 D2 m2 d2 y2 q2):Calls Tryz.prog 102 #[.agg #[.bool b1,.slice A1 n1 c1,.slice D1 m1 d1],.agg #[.bool b2,.slice A2 n2 c2,.slice D2 m2 d2]] w fun e w'=>e=.returned (.int .i64 (cmpq q1 q2))∧Below w.heap.size w w':=by
 have:=Rcompare_any b1 A1 n1 c1 x1 D1 m1 d1 y1 b2 A2 n2 c2 x2 D2 m2 d2 y2 w X1.rn X1.rd X2.rn X2.rd (by have:=X1.k.2.1;omega) (by have:=X1.k.2.2;omega) (by have:=X2.k.2.1;omega) (by have:=X2.k.2.2;omega)
 rwa [X1.k.1,X2.k.1] at this
theorem signW (b1:Bool) (A1:Option Addr) (n1 c1:Nat) (x1:List Nat) (D1:Option Addr) (m1 d1:Nat) (y1:List Nat) (q1:Rat) (w:World) (X1:Rw w b1 A1 n1 c1 x1 D1 m1 d1 y1 q1):Calls Tryz.prog 98 #[.agg #[.bool b1,.slice A1 n1 c1,.slice D1 m1 d1]] w fun e w'=>e=.returned (.int .i64 q1.num.sign)∧Below w.heap.size w w':=by
 have:=signR_any b1 A1 n1 c1 x1 D1 m1 d1 y1 w X1.rn X1.rd (by have:=X1.k.2.1;omega) (by have:=X1.k.2.2;omega)
 rwa [X1.k.1] at this
theorem cmpq_le (x y:Rat):decide (cmpq x y≤0)=decide (x≤y):=by
 rw[decide_eq_decide]
 constructor
 ·intro h;exact Rat.not_lt.1 fun h'=>by have:=cmpq_pos.2 h';omega
 ·intro h;exact Int.not_lt.1 fun h'=>Rat.not_lt.2 h (cmpq_pos.1 h')
set_option maxRecDepth 100000 in
set_option maxHeartbeats 4000000 in
theorem isOrdered_any (b1:Bool) (A1:Option Addr) (n1 c1:Nat) (x1:List Nat) (D1:Option Addr) (m1 d1:Nat) (y1:List Nat) (q1:Rat) (b2:Bool) (A2:Option Addr) (n2 c2:Nat) (x2:List Nat) (D2:Option Addr) (m2 d2:Nat) (y2:List Nat) (q2:Rat) (w:World) (X1:Rw w b1 A1 n1 c1 x1 D1 m1 d1 y1 q1) (X2:Rw w b2 A2 n2 c2 x2 D2 m2 d2 y2 q2):Calls Tryz.prog 94 #[.agg #[.bool b1,.slice A1 n1 c1,.slice D1 m1 d1,.bool b2,.slice A2 n2 c2,.slice D2 m2 d2]] w fun e w'=>e=.returned (.bool (decide (q1≤q2)))∧Below w.heap.size w w':=by
 have hC:=Lib.hid (fun W h1 h2=>compareW b1 A1 n1 c1 x1 D1 m1 d1 y1 q1 b2 A2 n2 c2 x2 D2 m2 d2 y2 q2 W h1 h2)
 rw[←cmpq_le]
 generalize cmpq q1 q2=cc at *
 have k1:=Lib.hid X1.k
 have k2:=Lib.hid X2.k
 have S:=((((((St.new w).read X1.rn).read X1.rd).read X2.rn).read X2.rd).allocAt (w.heap.size) #[.bool b1,.slice A1 n1 c1,.slice D1 m1 d1,.bool b2,.slice A2 n2 c2,.slice D2 m2 d2] 28 (noL6 _ _ _ _ _ _ _ _ _ _ _ _ _ _) (by simp))
 replace S:=Lib.hid S
 clear X1 X2
 go_enter Tryz.func94,Tryz.ntmps94
 go_wp2_with fail
 refine (hC.out _ (Rw.of (S.out.r 3 rfl) (S.out.r 2 rfl) k1.out) (Rw.of (S.out.r 1 rfl) (S.out.r 0 rfl) k2.out)).mono ?_
 rintro e w1 ⟨rfl,bb⟩
 have T:=(S.out.call bb)
 clear bb S
 have S:=T
 clear T
 obtain⟨c_a0,c_a1,c_a2,c_a3,c_a4,c_a5,f_a0,f_a1,f_a2,f_a3,f_a4,f_a5⟩:=S.cf6 0 rfl
 have hz:w.heap.size<w1.heap.size:=S.lt 0 rfl
 replace S:=Lib.hid S
 have S:=S.out
 replace S:=Lib.hid S
 go_wp2
 go_ret
 exact⟨rfl,S.out.bel⟩
theorem res_iknown (W:World) (tmps:Array Value) (g t:Nat) {v0 v1 v2 v3 v4 v5:Value} (ht:tmps.getD 2 undef=.pointer (some ⟨g,0,none⟩)) (h:Cb W g #[v0,v1,v2,v3,v4,v5] t) :
  (results Tryz.f85 tmps).run Tryz.prog W=.ok (.agg #[v0,v1,v2,v3,v4,v5]) W:=by
 have c0:W.cell? ⟨g,0,none⟩=some v0:=h.cell rfl
 have c1:W.cell? ⟨g,1,none⟩=some v1:=h.cell rfl
 have c2:W.cell? ⟨g,2,none⟩=some v2:=h.cell rfl
 have c3:W.cell? ⟨g,3,none⟩=some v3:=h.cell rfl
 have c4:W.cell? ⟨g,4,none⟩=some v4:=h.cell rfl
 have c5:W.cell? ⟨g,5,none⟩=some v5:=h.cell rfl
 have ht':tmps[2]?.getD undef=.pointer (some ⟨g,0,none⟩):=by rw[←ht];simp[Array.getD_eq_getD_getElem?]
 simp[results,Tryz.results85,go_sem,ht',c0,c1,c2,c3,c4,c5]
set_option maxRecDepth 100000 in
set_option maxHeartbeats 4000000 in
theorem known_no (b1:Bool) (A1:Option Addr) (n1 c1:Nat) (x1:List Nat) (D1:Option Addr) (m1 d1:Nat) (y1:List Nat) (q1:Rat) (b2:Bool) (A2:Option Addr) (n2 c2:Nat) (x2:List Nat) (D2:Option Addr) (m2 d2:Nat) (y2:List Nat) (q2:Rat) (h:q2<q1) (w:World) (X1:Rw w b1 A1 n1 c1 x1 D1 m1 d1 y1 q1) (X2:Rw w b2 A2 n2 c2 x2 D2 m2 d2 y2 q2):Calls Tryz.prog 85 #[.agg #[.bool b1,.slice A1 n1 c1,.slice D1 m1 d1,.bool b2,.slice A2 n2 c2,.slice D2 m2 d2]] w fun e w'=>e=.returned (.agg #[.bool false,.slice none 0 0,.slice none 0 0,.bool false,.slice none 0 0,.slice none 0 0])∧Below w.heap.size w w':=by
 have hO:=fun W h1 h2=>isOrdered_any b1 A1 n1 c1 x1 D1 m1 d1 y1 q1 b2 A2 n2 c2 x2 D2 m2 d2 y2 q2 W h1 h2
 rw[show decide (q1≤q2)=false from decide_eq_false (Rat.not_le.2 h)] at hO
 replace hO:=Lib.hid hO
 clear h
 have k1:=Lib.hid X1.k
 have k2:=Lib.hid X2.k
 have S:=(((((((St.new w).read X1.rn).read X1.rd).read X2.rn).read X2.rd).allocAt (w.heap.size) #[.bool b1,.slice A1 n1 c1,.slice D1 m1 d1,.bool b2,.slice A2 n2 c2,.slice D2 m2 d2] 28 (noL6 _ _ _ _ _ _ _ _ _ _ _ _ _ _) (by simp)).allocAt (w.heap.size+1) #[.bool false,.slice none 0 0,.slice none 0 0,.bool false,.slice none 0 0,.slice none 0 0] 28 (noL6 _ _ _ _ _ _ _ _ _ _ _ _ _ _) (by simp))
 replace S:=Lib.hid S
 clear X1 X2
 go_enter Tryz.func85,Tryz.ntmps85
 go_wp2_with fail
 refine (hO.out _ (Rw.of (S.out.r 3 rfl) (S.out.r 2 rfl) k1.out) (Rw.of (S.out.r 1 rfl) (S.out.r 0 rfl) k2.out)).mono ?_
 rintro e w1 ⟨rfl,bb⟩
 have T:=(S.out.call bb)
 clear bb S
 have S:=T
 clear T
 obtain⟨c_r0,c_r1,c_r2,c_r3,c_r4,c_r5,f_r0,f_r1,f_r2,f_r3,f_r4,f_r5⟩:=S.cf6 0 rfl
 obtain⟨c_a0,c_a1,c_a2,c_a3,c_a4,c_a5,f_a0,f_a1,f_a2,f_a3,f_a4,f_a5⟩:=S.cf6 1 rfl
 have hz:w.heap.size+1<w1.heap.size:=S.lt 0 rfl
 replace S:=Lib.hid S
 clear hO
 have S:St w _ [(w.heap.size+1,#[.bool false,.slice none 0 0,.slice none 0 0,.bool false,.slice none 0 0,.slice none 0 0],28),(w.heap.size,#[.bool b1,.slice A1 n1 c1,.slice D1 m1 d1,.bool b2,.slice A2 n2 c2,.slice D2 m2 d2],28)] [(D2,m2,d2,y2),(A2,n2,c2,x2),(D1,m1,d1,y1),(A1,n1,c1,x1)]:=((((((S.out.set 0 0 (.bool false) rfl (by nofun)).set 0 1 (.slice none 0 0) rfl (by nofun)).set 0 2 (.slice none 0 0) rfl (by nofun)).set 0 3 (.bool false) rfl (by nofun)).set 0 4 (.slice none 0 0) rfl (by nofun)).set 0 5 (.slice none 0 0) rfl (by nofun))
 replace S:=Lib.hid S
 go_wp2
 refine bodyPost_ret (res_iknown _ _ (w.heap.size+1) 28 rfl (S.out.bk _ (List.mem_of_getElem? (i:=0) rfl)).1) rfl ?_
 exact⟨rfl,S.out.bel⟩
set_option maxRecDepth 100000 in
set_option maxHeartbeats 4000000 in
theorem known_yes (b1:Bool) (A1:Option Addr) (n1 c1:Nat) (x1:List Nat) (D1:Option Addr) (m1 d1:Nat) (y1:List Nat) (q1:Rat) (b2:Bool) (A2:Option Addr) (n2 c2:Nat) (x2:List Nat) (D2:Option Addr) (m2 d2:Nat) (y2:List Nat) (q2:Rat) (h:¬ q2<q1) (w:World) (X1:Rw w b1 A1 n1 c1 x1 D1 m1 d1 y1 q1) (X2:Rw w b2 A2 n2 c2 x2 D2 m2 d2 y2 q2):Calls Tryz.prog 85 #[.agg #[.bool b1,.slice A1 n1 c1,.slice D1 m1 d1,.bool b2,.slice A2 n2 c2,.slice D2 m2 d2]] w fun e w'=>e=.returned (.agg #[.bool b1,.slice A1 n1 c1,.slice D1 m1 d1,.bool b2,.slice A2 n2 c2,.slice D2 m2 d2])∧Below w.heap.size w w':=by
 have hO:=fun W h1 h2=>isOrdered_any b1 A1 n1 c1 x1 D1 m1 d1 y1 q1 b2 A2 n2 c2 x2 D2 m2 d2 y2 q2 W h1 h2
 rw[show decide (q1≤q2)=true from decide_eq_true (Rat.not_lt.1 h)] at hO
 replace hO:=Lib.hid hO
 clear h
 have k1:=Lib.hid X1.k
 have k2:=Lib.hid X2.k
 have S:=(((((((St.new w).read X1.rn).read X1.rd).read X2.rn).read X2.rd).allocAt (w.heap.size) #[.bool b1,.slice A1 n1 c1,.slice D1 m1 d1,.bool b2,.slice A2 n2 c2,.slice D2 m2 d2] 28 (noL6 _ _ _ _ _ _ _ _ _ _ _ _ _ _) (by simp)).allocAt (w.heap.size+1) #[.bool false,.slice none 0 0,.slice none 0 0,.bool false,.slice none 0 0,.slice none 0 0] 28 (noL6 _ _ _ _ _ _ _ _ _ _ _ _ _ _) (by simp))
 replace S:=Lib.hid S
 clear X1 X2
 go_enter Tryz.func85,Tryz.ntmps85
 go_wp2_with fail
 refine (hO.out _ (Rw.of (S.out.r 3 rfl) (S.out.r 2 rfl) k1.out) (Rw.of (S.out.r 1 rfl) (S.out.r 0 rfl) k2.out)).mono ?_
 rintro e w1 ⟨rfl,bb⟩
 have T:=(S.out.call bb)
 clear bb S
 have S:=T
 clear T
 obtain⟨c_r0,c_r1,c_r2,c_r3,c_r4,c_r5,f_r0,f_r1,f_r2,f_r3,f_r4,f_r5⟩:=S.cf6 0 rfl
 obtain⟨c_a0,c_a1,c_a2,c_a3,c_a4,c_a5,f_a0,f_a1,f_a2,f_a3,f_a4,f_a5⟩:=S.cf6 1 rfl
 have hz:w.heap.size+1<w1.heap.size:=S.lt 0 rfl
 replace S:=Lib.hid S
 clear hO
 have S:St w _ [(w.heap.size+1,#[.bool b1,.slice A1 n1 c1,.slice D1 m1 d1,.bool b2,.slice A2 n2 c2,.slice D2 m2 d2],28),(w.heap.size,#[.bool b1,.slice A1 n1 c1,.slice D1 m1 d1,.bool b2,.slice A2 n2 c2,.slice D2 m2 d2],28)] [(D2,m2,d2,y2),(A2,n2,c2,x2),(D1,m1,d1,y1),(A1,n1,c1,x1)]:=((((((S.out.set 0 0 (.bool b1) rfl (by nofun)).set 0 1 (.slice A1 n1 c1) rfl (by nofun)).set 0 2 (.slice D1 m1 d1) rfl (by nofun)).set 0 3 (.bool b2) rfl (by nofun)).set 0 4 (.slice A2 n2 c2) rfl (by nofun)).set 0 5 (.slice D2 m2 d2) rfl (by nofun))
 replace S:=Lib.hid S
 go_wp2
 refine bodyPost_ret (res_iknown _ _ (w.heap.size+1) 28 rfl (S.out.bk _ (List.mem_of_getElem? (i:=0) rfl)).1) rfl ?_
 exact⟨rfl,S.out.bel⟩
theorem known_rows (b1:Bool) (A1:Option Addr) (n1 c1:Nat) (x1:List Nat) (D1:Option Addr) (m1 d1:Nat) (y1:List Nat) (q1:Rat) (b2:Bool) (A2:Option Addr) (n2 c2:Nat) (x2:List Nat) (D2:Option Addr) (m2 d2:Nat) (y2:List Nat) (q2:Rat) (w:World) (X1:Rw w b1 A1 n1 c1 x1 D1 m1 d1 y1 q1) (X2:Rw w b2 A2 n2 c2 x2 D2 m2 d2 y2 q2):∃ (b3:Bool) (A3:Option Addr) (n3 c3:Nat) (x3:List Nat) (D3:Option Addr) (m3 d3:Nat) (y3:List Nat) (b4:Bool) (A4:Option Addr) (n4 c4:Nat) (x4:List Nat) (D4:Option Addr) (m4 d4:Nat) (y4:List Nat),Rw w b3 A3 n3 c3 x3 D3 m3 d3 y3 (klo q1 q2)∧Rw w b4 A4 n4 c4 x4 D4 m4 d4 y4 (khi q1 q2)∧Hid (∀ W,Rw W b1 A1 n1 c1 x1 D1 m1 d1 y1 q1→Rw W b2 A2 n2 c2 x2 D2 m2 d2 y2 q2→Calls Tryz.prog 85 #[.agg #[.bool b1,.slice A1 n1 c1,.slice D1 m1 d1,.bool b2,.slice A2 n2 c2,.slice D2 m2 d2]] W fun e w'=>e=.returned (.agg #[.bool b3,.slice A3 n3 c3,.slice D3 m3 d3,.bool b4,.slice A4 n4 c4,.slice D4 m4 d4])∧Below W.heap.size W w'):=by
 by_cases h:q2<q1
 ·refine⟨false,none,0,0,[],none,0,0,[],false,none,0,0,[],none,0,0,[],?_,?_,Lib.hid fun W Y1 Y2=>known_no b1 A1 n1 c1 x1 D1 m1 d1 y1 q1 b2 A2 n2 c2 x2 D2 m2 d2 y2 q2 h W Y1 Y2⟩
  ·rw[show klo q1 q2=0 from if_pos h];exact Rw.zero _
  ·rw[show khi q1 q2=0 from if_pos h];exact Rw.zero _
 ·refine⟨b1,A1,n1,c1,x1,D1,m1,d1,y1,b2,A2,n2,c2,x2,D2,m2,d2,y2,?_,?_,Lib.hid fun W Y1 Y2=>known_yes b1 A1 n1 c1 x1 D1 m1 d1 y1 q1 b2 A2 n2 c2 x2 D2 m2 d2 y2 q2 h W Y1 Y2⟩
  ·rw[show klo q1 q2=q1 from if_neg h];exact X1
  ·rw[show khi q1 q2=q2 from if_neg h];exact X2
set_option maxRecDepth 100000 in
set_option maxHeartbeats 4000000 in
theorem contains_any (b1:Bool) (A1:Option Addr) (n1 c1:Nat) (x1:List Nat) (D1:Option Addr) (m1 d1:Nat) (y1:List Nat) (q1:Rat) (b2:Bool) (A2:Option Addr) (n2 c2:Nat) (x2:List Nat) (D2:Option Addr) (m2 d2:Nat) (y2:List Nat) (q2:Rat) (b5:Bool) (A5:Option Addr) (n5 c5:Nat) (x5:List Nat) (D5:Option Addr) (m5 d5:Nat) (y5:List Nat) (q5:Rat) (w:World) (X1:Rw w b1 A1 n1 c1 x1 D1 m1 d1 y1 q1) (X2:Rw w b2 A2 n2 c2 x2 D2 m2 d2 y2 q2) (X5:Rw w b5 A5 n5 c5 x5 D5 m5 d5 y5 q5):Calls Tryz.prog 79 #[.agg #[.bool b1,.slice A1 n1 c1,.slice D1 m1 d1,.bool b2,.slice A2 n2 c2,.slice D2 m2 d2],.agg #[.bool b5,.slice A5 n5 c5,.slice D5 m5 d5]] w fun e w'=>e=.returned (.bool (decide (klo q1 q2≤q5)&&decide (q5≤khi q1 q2)))∧Below w.heap.size w w':=by
 obtain⟨b3,A3,n3,c3,x3,D3,m3,d3,y3,b4,A4,n4,c4,x4,D4,m4,d4,y4,X3,X4,hK⟩:=known_rows b1 A1 n1 c1 x1 D1 m1 d1 y1 q1 b2 A2 n2 c2 x2 D2 m2 d2 y2 q2 w X1 X2
 generalize klo q1 q2=q3 at *
 generalize khi q1 q2=q4 at *
 have hC1:=fun W h1 h2=>compareW b3 A3 n3 c3 x3 D3 m3 d3 y3 q3 b5 A5 n5 c5 x5 D5 m5 d5 y5 q5 W h1 h2
 have hC2:=Lib.hid (fun W h1 h2=>compareW b5 A5 n5 c5 x5 D5 m5 d5 y5 q5 b4 A4 n4 c4 x4 D4 m4 d4 y4 q4 W h1 h2)
 have e1:=cmpq_le q3 q5
 rw[←cmpq_le q5 q4]
 generalize cmpq q3 q5=c1' at *
 generalize cmpq q5 q4=c2' at *
 replace hC1:=Lib.hid hC1
 have k1:=Lib.hid X1.k
 have k2:=Lib.hid X2.k
 have k3:=Lib.hid X3.k
 have k4:=Lib.hid X4.k
 have k5:=Lib.hid X5.k
 have S:=(((((((((((((St.new w).read X1.rn).read X1.rd).read X2.rn).read X2.rd).read X3.rn).read X3.rd).read X4.rn).read X4.rd).read X5.rn).read X5.rd).allocAt (w.heap.size) #[.bool b1,.slice A1 n1 c1,.slice D1 m1 d1,.bool b2,.slice A2 n2 c2,.slice D2 m2 d2] 28 (noL6 _ _ _ _ _ _ _ _ _ _ _ _ _ _) (by simp)).allocAt (w.heap.size+1) #[.bool b5,.slice A5 n5 c5,.slice D5 m5 d5] 26 (noL3 _ _ _ _ _ _ _) (by simp))
 replace S:=Lib.hid S
 clear X1 X2 X3 X4 X5
 cases hb:decide (q3≤q5)
 ·rw[hb] at e1
  clear hb
  go_enter Tryz.func79,Tryz.ntmps79
  go_wp2_with fail
  refine (hK.out _ (Rw.of (S.out.r 9 rfl) (S.out.r 8 rfl) k1.out) (Rw.of (S.out.r 7 rfl) (S.out.r 6 rfl) k2.out)).mono ?_
  rintro e w1 ⟨rfl,bb⟩
  have T:=(S.out.call bb)
  clear bb S
  have S:=T
  clear T
  obtain⟨c_v0,c_v1,c_v2,f_v0,f_v1,f_v2⟩:=S.cf3 0 rfl
  obtain⟨c_a0,c_a1,c_a2,c_a3,c_a4,c_a5,f_a0,f_a1,f_a2,f_a3,f_a4,f_a5⟩:=S.cf6 1 rfl
  have hz:w.heap.size+1<w1.heap.size:=S.lt 0 rfl
  replace S:=Lib.hid S
  clear hK
  have S:St w _ [(w.heap.size+1,#[.bool b5,.slice A5 n5 c5,.slice D5 m5 d5],26),(w.heap.size,#[.bool b3,.slice A3 n3 c3,.slice D3 m3 d3,.bool b4,.slice A4 n4 c4,.slice D4 m4 d4],28)] [(D5,m5,d5,y5),(A5,n5,c5,x5),(D4,m4,d4,y4),(A4,n4,c4,x4),(D3,m3,d3,y3),(A3,n3,c3,x3),(D2,m2,d2,y2),(A2,n2,c2,x2),(D1,m1,d1,y1),(A1,n1,c1,x1)]:=((((((S.out.set 1 0 (.bool b3) rfl (by nofun)).set 1 1 (.slice A3 n3 c3) rfl (by nofun)).set 1 2 (.slice D3 m3 d3) rfl (by nofun)).set 1 3 (.bool b4) rfl (by nofun)).set 1 4 (.slice A4 n4 c4) rfl (by nofun)).set 1 5 (.slice D4 m4 d4) rfl (by nofun))
  obtain⟨a_a0,a_a1,a_a2,a_a3,a_a4,a_a5,b_a0,b_a1,b_a2,b_a3,b_a4,b_a5⟩:=S.cf6 1 rfl
  obtain⟨a_v0,a_v1,a_v2,b_v0,b_v1,b_v2⟩:=S.cf3 0 rfl
  replace S:=Lib.hid S
  go_wp2_with fail
  refine (hC1.out _ (Rw.of (S.out.r 5 rfl) (S.out.r 4 rfl) k3.out) (Rw.of (S.out.r 1 rfl) (S.out.r 0 rfl) k5.out)).mono ?_
  rintro e w2 ⟨rfl,bb⟩
  have T:=(S.out.call bb)
  clear bb S c_v0 f_v0 c_v1 f_v1 c_v2 f_v2 c_a0 f_a0 c_a1 f_a1 c_a2 f_a2 c_a3 f_a3 c_a4 f_a4 c_a5 f_a5 hz a_a0 b_a0 a_a1 b_a1 a_a2 b_a2 a_a3 b_a3 a_a4 b_a4 a_a5 b_a5 a_v0 b_v0 a_v1 b_v1 a_v2 b_v2
  have S:=T
  clear T
  obtain⟨c_v0,c_v1,c_v2,f_v0,f_v1,f_v2⟩:=S.cf3 0 rfl
  obtain⟨c_a0,c_a1,c_a2,c_a3,c_a4,c_a5,f_a0,f_a1,f_a2,f_a3,f_a4,f_a5⟩:=S.cf6 1 rfl
  have hz:w.heap.size+1<w2.heap.size:=S.lt 0 rfl
  replace S:=Lib.hid S
  clear hC1
  have S:=S.out
  replace S:=Lib.hid S
  go_wp2
  go_ret
  exact⟨rfl,S.out.bel⟩
 ·rw[hb] at e1
  clear hb
  rw[Bool.true_and]
  go_enter Tryz.func79,Tryz.ntmps79
  go_wp2_with fail
  refine (hK.out _ (Rw.of (S.out.r 9 rfl) (S.out.r 8 rfl) k1.out) (Rw.of (S.out.r 7 rfl) (S.out.r 6 rfl) k2.out)).mono ?_
  rintro e w1 ⟨rfl,bb⟩
  have T:=(S.out.call bb)
  clear bb S
  have S:=T
  clear T
  obtain⟨c_v0,c_v1,c_v2,f_v0,f_v1,f_v2⟩:=S.cf3 0 rfl
  obtain⟨c_a0,c_a1,c_a2,c_a3,c_a4,c_a5,f_a0,f_a1,f_a2,f_a3,f_a4,f_a5⟩:=S.cf6 1 rfl
  have hz:w.heap.size+1<w1.heap.size:=S.lt 0 rfl
  replace S:=Lib.hid S
  clear hK
  have S:St w _ [(w.heap.size+1,#[.bool b5,.slice A5 n5 c5,.slice D5 m5 d5],26),(w.heap.size,#[.bool b3,.slice A3 n3 c3,.slice D3 m3 d3,.bool b4,.slice A4 n4 c4,.slice D4 m4 d4],28)] [(D5,m5,d5,y5),(A5,n5,c5,x5),(D4,m4,d4,y4),(A4,n4,c4,x4),(D3,m3,d3,y3),(A3,n3,c3,x3),(D2,m2,d2,y2),(A2,n2,c2,x2),(D1,m1,d1,y1),(A1,n1,c1,x1)]:=((((((S.out.set 1 0 (.bool b3) rfl (by nofun)).set 1 1 (.slice A3 n3 c3) rfl (by nofun)).set 1 2 (.slice D3 m3 d3) rfl (by nofun)).set 1 3 (.bool b4) rfl (by nofun)).set 1 4 (.slice A4 n4 c4) rfl (by nofun)).set 1 5 (.slice D4 m4 d4) rfl (by nofun))
  obtain⟨a_a0,a_a1,a_a2,a_a3,a_a4,a_a5,b_a0,b_a1,b_a2,b_a3,b_a4,b_a5⟩:=S.cf6 1 rfl
  obtain⟨a_v0,a_v1,a_v2,b_v0,b_v1,b_v2⟩:=S.cf3 0 rfl
  replace S:=Lib.hid S
  go_wp2_with fail
  refine (hC1.out _ (Rw.of (S.out.r 5 rfl) (S.out.r 4 rfl) k3.out) (Rw.of (S.out.r 1 rfl) (S.out.r 0 rfl) k5.out)).mono ?_
  rintro e w2 ⟨rfl,bb⟩
  have T:=(S.out.call bb)
  clear bb S c_v0 f_v0 c_v1 f_v1 c_v2 f_v2 c_a0 f_a0 c_a1 f_a1 c_a2 f_a2 c_a3 f_a3 c_a4 f_a4 c_a5 f_a5 hz a_a0 b_a0 a_a1 b_a1 a_a2 b_a2 a_a3 b_a3 a_a4 b_a4 a_a5 b_a5 a_v0 b_v0 a_v1 b_v1 a_v2 b_v2
  have S:=T
  clear T
  obtain⟨c_v0,c_v1,c_v2,f_v0,f_v1,f_v2⟩:=S.cf3 0 rfl
  obtain⟨c_a0,c_a1,c_a2,c_a3,c_a4,c_a5,f_a0,f_a1,f_a2,f_a3,f_a4,f_a5⟩:=S.cf6 1 rfl
  have hz:w.heap.size+1<w2.heap.size:=S.lt 0 rfl
  replace S:=Lib.hid S
  clear hC1
  go_wp2_with fail
  refine (hC2.out _ (Rw.of (S.out.r 1 rfl) (S.out.r 0 rfl) k5.out) (Rw.of (S.out.r 3 rfl) (S.out.r 2 rfl) k4.out)).mono ?_
  rintro e w3 ⟨rfl,bb⟩
  have T:=(S.out.call bb)
  clear bb S c_v0 f_v0 c_v1 f_v1 c_v2 f_v2 c_a0 f_a0 c_a1 f_a1 c_a2 f_a2 c_a3 f_a3 c_a4 f_a4 c_a5 f_a5 hz
  have S:=T
  clear T
  obtain⟨c_v0,c_v1,c_v2,f_v0,f_v1,f_v2⟩:=S.cf3 0 rfl
  obtain⟨c_a0,c_a1,c_a2,c_a3,c_a4,c_a5,f_a0,f_a1,f_a2,f_a3,f_a4,f_a5⟩:=S.cf6 1 rfl
  have hz:w.heap.size+1<w3.heap.size:=S.lt 0 rfl
  replace S:=Lib.hid S
  clear hC2
  have S:=S.out
  replace S:=Lib.hid S
  go_wp2
  go_ret
  exact⟨rfl,S.out.bel⟩
end Go.Proofs.YtphckmdnflbloaaGreat

namespace Go.Proofs.YtphckmdnflbloaaGreat
open Go.RowKit RQ
/-- What a function that returns an interval of valid numbers leaves. -/
def RetV (lo hi:Rat) (w:World) (e:Ending) (w':World):Prop:=∃ A n c D m d A' n' c' D' m' d',e=.returned (.agg #[.bool (ng lo.num),.slice A n c,.slice D m d,.bool (ng hi.num),.slice A' n' c',.slice D' m' d'])∧RR w' A n c D m d lo∧RR w' A' n' c' D' m' d' hi∧Below w.heap.size w w'
/-- .. and a word besides. -/
def RetVE (lo hi:Rat) (v:Value) (w:World) (e:Ending) (w':World):Prop:=∃ A n c D m d A' n' c' D' m' d',e=.returned (.tuple #[.agg #[.bool (ng lo.num),.slice A n c,.slice D m d,.bool (ng hi.num),.slice A' n' c',.slice D' m' d'],v])∧RR w' A n c D m d lo∧RR w' A' n' c' D' m' d' hi∧Below w.heap.size w w'
theorem k_rs {lo hi:Rat} (h1:Rs lo 40) (h2:Rs hi 40):Rs (klo lo hi) 40∧Rs (khi lo hi) 40:=by
 have z:Rs (0:Rat) 40:=⟨by decide,by decide⟩
 unfold klo khi
 split
 ·exact⟨z,z⟩
 ·exact⟨h1,h2⟩
end Go.Proofs.YtphckmdnflbloaaGreat
