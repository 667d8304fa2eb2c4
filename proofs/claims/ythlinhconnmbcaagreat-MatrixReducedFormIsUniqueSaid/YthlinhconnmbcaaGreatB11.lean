/- sum, product and inverse of rational; Add, Sub, Mul, Div. -/
import Derived.Test.YthlinhconnmbcaaGreatB10
import Derived.Test.YthlinhconnmbcaaGreatB08
set_option maxRecDepth 100000
set_option maxHeartbeats 40000000
set_option linter.unusedVariables false
namespace Go.Proofs.YthlinhconnmbcaaGreat
open Go.RowKit RQ
theorem sum_any (x y:Rat) (A:Option Addr) (n c:Nat) (D:Option Addr) (m d:Nat) (A':Option Addr) (n' c':Nat) (D':Option Addr) (m' d':Nat) (w:World) (X:RR w A n c D m d x) (Y:RR w A' n' c' D' m' d' y) (hx:Rs x 20000000) (hy:Rs y 20000000):Calls Tryz.prog 85 #[.agg #[.bool (ng x.num),.slice A n c,.slice D m d],.agg #[.bool (ng y.num),.slice A' n' c',.slice D' m' d']] w (RetR (x+y) w):=by
 obtain⟨l1,l2⟩:=X.lens hx;obtain⟨l3,l4⟩:=Y.lens hy
 cases hs:(shq x&&shq y)
 ·by_cases h:m=0
  ·subst h
   by_cases h':m'=0
   ·subst h';exact sum_int x y A n c D d A' n' c' D' d' w X Y hs (by omega) (by omega)
   ·exact sum_long0 x y A n c D d A' n' c' D' m' d' w X Y hs hx hy h'
  ·exact sum_long x y A n c D m d A' n' c' D' m' d' w X Y hs hx hy h
 ·exact sum_short x y A n c D m d A' n' c' D' m' d' w X Y hs
theorem res_product (W:World) (tmps:Array Value) (g t:Nat) {v0 v1 v2:Value} (ht:tmps.getD 4 undef=.pointer (some ⟨g,0,none⟩)) (h:Cb W g #[v0,v1,v2] t) :
  (results Tryz.f84 tmps).run Tryz.prog W=.ok (.agg #[v0,v1,v2]) W:=by
 have c0:W.cell? ⟨g,0,none⟩=some v0:=h.cell rfl;have c1:W.cell? ⟨g,1,none⟩=some v1:=h.cell rfl;have c2:W.cell? ⟨g,2,none⟩=some v2:=h.cell rfl;have ht':tmps[4]?.getD undef=.pointer (some ⟨g,0,none⟩):=by rw[←ht];simp[Array.getD_eq_getD_getElem?]
 simp[results,Tryz.results84,go_sem,ht',c0,c1,c2]
theorem product_short (x y:Rat) (A:Option Addr) (n c:Nat) (D:Option Addr) (m d:Nat) (A':Option Addr) (n' c':Nat) (D':Option Addr) (m' d':Nat) (w:World) (X:RR w A n c D m d x) (Y:RR w A' n' c' D' m' d' y) (hs:(shq x&&shq y)=true):Calls Tryz.prog 84 #[.agg #[.bool (ng x.num),.slice A n c,.slice D m d],.agg #[.bool (ng y.num),.slice A' n' c',.slice D' m' d']] w (RetR (x*y) w):=by
 have hB:Hid (∀ W,RR W A n c D m d x→RR W A' n' c' D' m' d' y→Calls Tryz.prog 104 #[.agg #[.bool (ng x.num),.slice A n c,.slice D m d],.agg #[.bool (ng y.num),.slice A' n' c',.slice D' m' d']] W fun e w'=>e=.returned (.tuple #[.agg #[.int .i64 x.num,.int .i64 x.den],.agg #[.int .i64 y.num,.int .i64 y.den],.bool true])∧Below W.heap.size W w'):=Lib.hid fun W h h'=>(bothShort_any x y A n c D m d A' n' c' D' m' d' W h h').mono (by
  rintro e w' ⟨a,b,c,d,rfl,h,bb⟩;obtain⟨rfl,rfl,rfl,rfl⟩:=h hs;rw[hs];exact⟨rfl,bb⟩)
 have R1:=X.n;have R2:=X.d;have R3:=Y.n;have R4:=Y.d;obtain⟨b1,b2,b3,b4⟩:=shq_true hs;have p1:=mulq_bd b1 b3;have p3:=mulq_bd b2 b4;have hQ:Hid (∀ W,Calls Tryz.prog 105 #[.int .i64 (x.num*y.num),.int .i64 ((x.den:Int)*(y.den:Int))] W (RetR (x*y) W)):=Lib.hid fun W=>by
  rw[mul_eq];exact quotientOfInts_any _ _ W (by omega) (by omega) (den_mul_pos x y) (by omega)
 have w1:IntKind.i64.wrap (x.num*y.num)=x.num*y.num:=IntWalk.i64_in _ (by omega)
 have w3:IntKind.i64.wrap ((x.den:Int)*y.den)=(x.den:Int)*y.den:=IntWalk.i64_in _ (by omega)
 have S:=((((((((St.new w).read R1).read R2).read R3).read R4).allocAt (w.heap.size) #[.bool (ng x.num),.slice A n c,.slice D m d] 33 (noL3 _ _ _ _ _ _ _) (by simp)).allocAt (w.heap.size+1) #[.bool (ng y.num),.slice A' n' c',.slice D' m' d'] 33 (noL3 _ _ _ _ _ _ _) (by simp)).allocAt (w.heap.size+1+1) #[.bool false,.slice none 0 0,.slice none 0 0] 33 (noL3 _ _ _ _ _ _ _) (by simp))
 replace S:=Lib.hid S;clear X Y R1 R2 R3 R4 b1 b2 b3 b4 p1 p3 hs;go_enter Tryz.func84,Tryz.ntmps84
 go_wp2_with fail
 refine (hB.out _ ⟨S.out.r 3 rfl,S.out.r 2 rfl⟩ ⟨S.out.r 1 rfl,S.out.r 0 rfl⟩).mono ?_
 rintro e w1 ⟨rfl,bb⟩;have T:=(S.out.call bb);clear bb S;have S:=T;clear T;obtain⟨c_r0,c_r1,c_r2,f_r0,f_r1,f_r2⟩:=S.cf3 0 rfl;obtain⟨c_y0,c_y1,c_y2,f_y0,f_y1,f_y2⟩:=S.cf3 1 rfl;obtain⟨c_x0,c_x1,c_x2,f_x0,f_x1,f_x2⟩:=S.cf3 2 rfl;have hz:w.heap.size+1+1<w1.heap.size:=S.lt 0 rfl;replace S:=Lib.hid S;have S:=((S.out.allocAt (w1.heap.size) #[.int .i64 x.num,.int .i64 x.den] 116 (noLi _ _) (by simp)).allocAt (w1.heap.size+1) #[.int .i64 y.num,.int .i64 y.den] 116 (noLi _ _) (by simp))
 replace S:=Lib.hid S
 go_wp2_with fail
 refine (hQ.out _).mono ?_
 rintro e w2 ⟨A3,n3,c3,D3,m3,d3,rfl,Q3,bb⟩;have T:=(((S.out.call bb).read Q3.n).read Q3.d);clear bb S c_r0 f_r0 c_r1 f_r1 c_r2 f_r2 c_y0 f_y0 c_y1 f_y1 c_y2 f_y2 c_x0 f_x0 c_x1 f_x1 c_x2 f_x2 hz;have S:=T;clear T;obtain⟨c_t0,c_t1,f_t0,f_t1⟩:=S.cf2 0 rfl;obtain⟨c_s0,c_s1,f_s0,f_s1⟩:=S.cf2 1 rfl;obtain⟨c_r0,c_r1,c_r2,f_r0,f_r1,f_r2⟩:=S.cf3 2 rfl;obtain⟨c_y0,c_y1,c_y2,f_y0,f_y1,f_y2⟩:=S.cf3 3 rfl;obtain⟨c_x0,c_x1,c_x2,f_x0,f_x1,f_x2⟩:=S.cf3 4 rfl
 have hz:w1.heap.size+1<w2.heap.size:=S.lt 0 rfl;replace S:=Lib.hid S;clear Q3;have S:St w _ [(w1.heap.size+1,#[.int .i64 y.num,.int .i64 y.den],116),(w1.heap.size,#[.int .i64 x.num,.int .i64 x.den],116),(w.heap.size+1+1,#[.bool (ng (x*y).num),.slice A3 n3 c3,.slice D3 m3 d3],33),(w.heap.size+1,#[.bool (ng y.num),.slice A' n' c',.slice D' m' d'],33),(w.heap.size,#[.bool (ng x.num),.slice A n c,.slice D m d],33)] [(D3,m3,d3,dn (x*y)),(A3,n3,c3,limbs (x*y).num.natAbs),(D',m',d',dn y),(A',n',c',limbs y.num.natAbs),(D,m,d,dn x),(A,n,c,limbs x.num.natAbs)]:=(((S.out.set 2 0 (.bool (ng (x*y).num)) rfl (by nofun)).set 2 1 (.slice A3 n3 c3) rfl (by nofun)).set 2 2 (.slice D3 m3 d3) rfl (by nofun))
 replace S:=Lib.hid S;go_wp2;refine bodyPost_ret (res_product _ _ (w.heap.size+1+1) 33 rfl (S.out.bk _ (List.mem_of_getElem? (i:=2) rfl)).1) rfl ?_
 exact⟨_,_,_,_,_,_,rfl,⟨S.out.r 1 rfl,S.out.r 0 rfl⟩,S.out.bel⟩
theorem product_int (x y:Rat) (A:Option Addr) (n c:Nat) (D:Option Addr) (d:Nat) (A':Option Addr) (n' c':Nat) (D':Option Addr) (d':Nat) (w:World) (X:RR w A n c D 0 d x) (Y:RR w A' n' c' D' 0 d' y) (hs:(shq x&&shq y)=false) (hn:n≤50000000) (hn':n'≤50000000) :
  Calls Tryz.prog 84 #[.agg #[.bool (ng x.num),.slice A n c,.slice D 0 d],.agg #[.bool (ng y.num),.slice A' n' c',.slice D' 0 d']] w (RetR (x*y) w):=by
 have hB:Hid (∀ W,RR W A n c D 0 d x→RR W A' n' c' D' 0 d' y→Calls Tryz.prog 104 #[.agg #[.bool (ng x.num),.slice A n c,.slice D 0 d],.agg #[.bool (ng y.num),.slice A' n' c',.slice D' 0 d']] W fun e w'=>∃ a b c d:Int,e=.returned (.tuple #[.agg #[.int .i64 a,.int .i64 b],.agg #[.int .i64 c,.int .i64 d],.bool false])∧Below W.heap.size W w'):=Lib.hid fun W h h'=>(bothShort_any x y A n c D 0 d A' n' c' D' 0 d' W h h').mono (by
  rintro e w' ⟨a,b,c,d,rfl,h,bb⟩;rw[hs];exact⟨a,b,c,d,rfl,bb⟩)
 have R1:=X.n;have R2:=X.d;have R3:=Y.n;have R4:=Y.d;have ex:(x.den:Int)=1:=(dn_len0 R2.len).1 rfl;have ey:(y.den:Int)=1:=(dn_len0 R4.len).1 rfl;have hA:Hid (∀ W,Rd W A n c (limbs x.num.natAbs)→Rd W A' n' c' (limbs y.num.natAbs)→Calls Tryz.prog 106 #[.agg #[.bool (ng x.num),.slice A n c],.agg #[.bool (ng y.num),.slice A' n' c']] W (RetI (x.num*y.num) W)):=Lib.hid fun W h h'=>by
  have:=mulI_any (ng x.num) A n c _ (ng y.num) A' n' c' _ W h h' (by omega) (by omega)
  rwa [iv_z,iv_z] at this
 have es:x*y=((x.num*y.num:Int):Rat):=by rw[mul_eq,ex,ey,Int.mul_one,over_one]
 have S:=((((((((St.new w).read R1).read R2).read R3).read R4).allocAt (w.heap.size) #[.bool (ng x.num),.slice A n c,.slice D 0 d] 33 (noL3 _ _ _ _ _ _ _) (by simp)).allocAt (w.heap.size+1) #[.bool (ng y.num),.slice A' n' c',.slice D' 0 d'] 33 (noL3 _ _ _ _ _ _ _) (by simp)).allocAt (w.heap.size+1+1) #[.bool false,.slice none 0 0,.slice none 0 0] 33 (noL3 _ _ _ _ _ _ _) (by simp))
 replace S:=Lib.hid S;rw[es];clear X Y R1 R2 R3 R4 hs hn hn' ex ey es;go_enter Tryz.func84,Tryz.ntmps84
 go_wp2_with fail
 refine (hB.out _ ⟨S.out.r 3 rfl,S.out.r 2 rfl⟩ ⟨S.out.r 1 rfl,S.out.r 0 rfl⟩).mono ?_
 rintro e w1 ⟨a1,b1,a2,b2,rfl,bb⟩;have T:=(S.out.call bb);clear bb S;have S:=T;clear T;obtain⟨c_r0,c_r1,c_r2,f_r0,f_r1,f_r2⟩:=S.cf3 0 rfl;obtain⟨c_y0,c_y1,c_y2,f_y0,f_y1,f_y2⟩:=S.cf3 1 rfl;obtain⟨c_x0,c_x1,c_x2,f_x0,f_x1,f_x2⟩:=S.cf3 2 rfl;have hz:w.heap.size+1+1<w1.heap.size:=S.lt 0 rfl;replace S:=Lib.hid S;have S:=((S.out.allocAt (w1.heap.size) #[.int .i64 a1,.int .i64 b1] 116 (noLi _ _) (by simp)).allocAt (w1.heap.size+1) #[.int .i64 a2,.int .i64 b2] 116 (noLi _ _) (by simp))
 replace S:=Lib.hid S;have S:=S.out;obtain⟨a_x0,a_x1,a_x2,b_x0,b_x1,b_x2⟩:=S.cf3 4 rfl;obtain⟨a_y0,a_y1,a_y2,b_y0,b_y1,b_y2⟩:=S.cf3 3 rfl;replace S:=Lib.hid S
 go_wp2_with fail
 refine (hA.out _ (S.out.r 3 rfl) (S.out.r 1 rfl)).mono ?_
 rintro e w2 ⟨A3,n3,c3,rfl,Q3,bb⟩;have T:=((S.out.call bb).read Q3);clear bb S c_r0 f_r0 c_r1 f_r1 c_r2 f_r2 c_y0 f_y0 c_y1 f_y1 c_y2 f_y2 c_x0 f_x0 c_x1 f_x1 c_x2 f_x2 hz a_x0 b_x0 a_x1 b_x1 a_x2 b_x2 a_y0 b_y0 a_y1 b_y1 a_y2 b_y2;have S:=T;clear T;obtain⟨c_t0,c_t1,f_t0,f_t1⟩:=S.cf2 0 rfl;obtain⟨c_s0,c_s1,f_s0,f_s1⟩:=S.cf2 1 rfl;obtain⟨c_r0,c_r1,c_r2,f_r0,f_r1,f_r2⟩:=S.cf3 2 rfl;obtain⟨c_y0,c_y1,c_y2,f_y0,f_y1,f_y2⟩:=S.cf3 3 rfl
 obtain⟨c_x0,c_x1,c_x2,f_x0,f_x1,f_x2⟩:=S.cf3 4 rfl;have hz:w1.heap.size+1<w2.heap.size:=S.lt 0 rfl;replace S:=Lib.hid S;clear Q3;have S:St w _ [(w1.heap.size+1,#[.int .i64 a2,.int .i64 b2],116),(w1.heap.size,#[.int .i64 a1,.int .i64 b1],116),(w.heap.size+1+1,#[.bool (ng (x.num*y.num)),.slice A3 n3 c3,.slice none 0 0],33),(w.heap.size+1,#[.bool (ng y.num),.slice A' n' c',.slice D' 0 d'],33),(w.heap.size,#[.bool (ng x.num),.slice A n c,.slice D 0 d],33)] [(A3,n3,c3,limbs (x.num*y.num).natAbs),(D',0,d',dn y),(A',n',c',limbs y.num.natAbs),(D,0,d,dn x),(A,n,c,limbs x.num.natAbs)]:=(((S.out.set 2 0 (.bool (ng (x.num*y.num))) rfl (by nofun)).set 2 1 (.slice A3 n3 c3) rfl (by nofun)).set 2 2 (.slice none 0 0) rfl (by nofun))
 replace S:=Lib.hid S;go_wp2;refine bodyPost_ret (res_product _ _ (w.heap.size+1+1) 33 rfl (S.out.bk _ (List.mem_of_getElem? (i:=2) rfl)).1) rfl ?_
 exact⟨_,_,_,_,_,_,rfl,int_RR (S.out.r 0 rfl),S.out.bel⟩
theorem product_long (x y:Rat) (A:Option Addr) (n c:Nat) (D:Option Addr) (m d:Nat) (A':Option Addr) (n' c':Nat) (D':Option Addr) (m' d':Nat) (w:World) (X:RR w A n c D m d x) (Y:RR w A' n' c' D' m' d' y) (hs:(shq x&&shq y)=false) (hx:Rs x 20000000) (hy:Rs y 20000000) (hm:¬ m=0) :
  Calls Tryz.prog 84 #[.agg #[.bool (ng x.num),.slice A n c,.slice D m d],.agg #[.bool (ng y.num),.slice A' n' c',.slice D' m' d']] w (RetR (x*y) w):=by
 have hB:Hid (∀ W,RR W A n c D m d x→RR W A' n' c' D' m' d' y→Calls Tryz.prog 104 #[.agg #[.bool (ng x.num),.slice A n c,.slice D m d],.agg #[.bool (ng y.num),.slice A' n' c',.slice D' m' d']] W fun e w'=>∃ a b c d:Int,e=.returned (.tuple #[.agg #[.int .i64 a,.int .i64 b],.agg #[.int .i64 c,.int .i64 d],.bool false])∧Below W.heap.size W w'):=Lib.hid fun W h h'=>(bothShort_any x y A n c D m d A' n' c' D' m' d' W h h').mono (by
  rintro e w' ⟨a,b,c,d,rfl,h,bb⟩;rw[hs];exact⟨a,b,c,d,rfl,bb⟩)
 have R1:=X.n;have R2:=X.d;have R3:=Y.n;have R4:=Y.d;have kx:(limbs x.num.natAbs).length≤20000000:=limbs_len_le.2 hx.n;have ky:(limbs y.num.natAbs).length≤20000000:=limbs_len_le.2 hy.n;have kp:(limbs x.den).length≤20000000:=limbs_len_le.2 hx.d;have kq:(limbs y.den).length≤20000000:=limbs_len_le.2 hy.d;obtain⟨f,ef⟩:∃ f:Nat,f=Int.gcd x.num (y.den:Int):=⟨_,rfl⟩;obtain⟨s,es⟩:∃ s:Nat,s=Int.gcd y.num (x.den:Int):=⟨_,rfl⟩
 obtain⟨z1,e1⟩:∃ z1:Int,z1=x.num / (f:Int):=⟨_,rfl⟩;obtain⟨z2,e2⟩:∃ z2:Int,z2=y.num / (s:Int):=⟨_,rfl⟩;obtain⟨b1,eb⟩:∃ b1:Nat,b1=x.den / s:=⟨_,rfl⟩;obtain⟨d1,ed⟩:∃ d1:Nat,d1=y.den / f:=⟨_,rfl⟩;obtain⟨en,ede,fp,sp⟩:=prod_eq x y f s ef es;rw[←e1,←e2] at en;have ede2:b1*d1=(x*y).den:=by
  rw[←Int.natCast_ediv,←Int.natCast_ediv,←eb,←ed,←Int.natCast_mul] at ede;exact (Int.ofNat.inj ede).symm
 have kf:(limbs f).length≤20000000:=len_mono2 (by rw[ef];exact Nat.le_of_dvd y.den_pos (Nat.gcd_dvd_right _ _)) kq
 have ks:(limbs s).length≤20000000:=len_mono2 (by rw[es];exact Nat.le_of_dvd x.den_pos (Nat.gcd_dvd_right _ _)) kp
 have k1:(limbs z1.natAbs).length≤20000000:=len_mono2 (by rw[e1];exact natAbs_ediv_le _ _) kx
 have k2:(limbs z2.natAbs).length≤20000000:=len_mono2 (by rw[e2];exact natAbs_ediv_le _ _) ky
 have kb:(limbs b1).length≤20000000:=len_mono2 (by rw[eb];exact Nat.div_le_self _ _) kp
 have kd:(limbs d1).length≤20000000:=len_mono2 (by rw[ed];exact Nat.div_le_self _ _) kq
 have hX:=Lib.hid (den_u x);have hY:=Lib.hid (den_u y);have hF1:=Lib.hid (divisor_iu (z:=x.num) (g:=y.den) (by omega) (by omega))
 have hF2:=Lib.hid (divisor_iu (z:=y.num) (g:=x.den) (by omega) (by omega))
 have hO1:=Lib.hid (over_i (z:=x.num) (g:=f) (by omega) (by omega) fp)
 have hO2:=Lib.hid (over_i (z:=y.num) (g:=s) (by omega) (by omega) sp)
 have hM1:=Lib.hid (mul_ii (z:=z1) (y:=z2) (by omega) (by omega))
 have hO3:=Lib.hid (over_u (P:=x.den) (g:=s) (by omega) (by omega) sp)
 have hO4:=Lib.hid (over_u (P:=y.den) (g:=f) (by omega) (by omega) fp)
 have hM2:=Lib.hid (mul_uu (P:=b1) (g:=d1) (by omega) (by omega))
 rw[←ef] at hF1;rw[←es] at hF2;rw[←e1] at hO1;rw[←e2] at hO2;rw[←en] at hM1;rw[←eb] at hO3;rw[←ed] at hO4;rw[ede2] at hM2;have hF:=Lib.hid (fun A n c D m1 d W h h'=>fraction_any (x*y) A n c D m1 d W h h')
 generalize hq:x*y=q at *;clear ef es e1 e2 eb ed en ede ede2 fp sp kx ky kp kq kf ks k1 k2 kb kd hs hx hy hq X Y;have S:=((((((((St.new w).read R1).read R2).read R3).read R4).allocAt (w.heap.size) #[.bool (ng x.num),.slice A n c,.slice D m d] 33 (noL3 _ _ _ _ _ _ _) (by simp)).allocAt (w.heap.size+1) #[.bool (ng y.num),.slice A' n' c',.slice D' m' d'] 33 (noL3 _ _ _ _ _ _ _) (by simp)).allocAt (w.heap.size+1+1) #[.bool false,.slice none 0 0,.slice none 0 0] 33 (noL3 _ _ _ _ _ _ _) (by simp))
 replace S:=Lib.hid S;clear R1 R2 R3 R4;go_enter Tryz.func84,Tryz.ntmps84
 go_wp2_with fail
 refine (hB.out _ ⟨S.out.r 3 rfl,S.out.r 2 rfl⟩ ⟨S.out.r 1 rfl,S.out.r 0 rfl⟩).mono ?_
 rintro e w1 ⟨a1,b1',a2,b2',rfl,bb⟩;have T:=(S.out.call bb);clear bb S;have S:=T;clear T;obtain⟨c_r0,c_r1,c_r2,f_r0,f_r1,f_r2⟩:=S.cf3 0 rfl;obtain⟨c_y0,c_y1,c_y2,f_y0,f_y1,f_y2⟩:=S.cf3 1 rfl;obtain⟨c_x0,c_x1,c_x2,f_x0,f_x1,f_x2⟩:=S.cf3 2 rfl;have hz:w.heap.size+1+1<w1.heap.size:=S.lt 0 rfl;replace S:=Lib.hid S;clear hB;have S:=((S.out.allocAt (w1.heap.size) #[.int .i64 a1,.int .i64 b1'] 116 (noLi _ _) (by simp)).allocAt (w1.heap.size+1) #[.int .i64 a2,.int .i64 b2'] 116 (noLi _ _) (by simp))
 replace S:=Lib.hid S;have S:=S.out;obtain⟨a_x0,a_x1,a_x2,b_x0,b_x1,b_x2⟩:=S.cf3 4 rfl;obtain⟨a_y0,a_y1,a_y2,b_y0,b_y1,b_y2⟩:=S.cf3 3 rfl;replace S:=Lib.hid S;go_upto_region 6 with fail
 clear c_r0 f_r0 c_r1 f_r1 c_r2 f_r2 c_y0 f_y0 c_y1 f_y1 c_y2 f_y2 c_x0 f_x0 c_x1 f_x1 c_x2 f_x2 hz a_x0 b_x0 a_x1 b_x1 a_x2 b_x2 a_y0 b_y0 a_y1 b_y1 a_y2 b_y2;have S:=S.out;generalize hW2:(World.alloc (World.alloc w1 (.cells #[.int .i64 a1,.int .i64 b1'] 116)) (.cells #[.int .i64 a2,.int .i64 b2'] 116))=w2 at S ⊢;clear hW2;replace S:=Lib.hid S;refine RW.begin (Z:=[⟨4,8,#[.bool false,.slice none 0 0],31⟩,⟨5,9,#[.bool false,.slice none 0 0],31⟩]) (S:=(fun W=>Cb W (w.heap.size) #[.bool (ng x.num),.slice A n c,.slice D m d] 33∧Cb W (w.heap.size+1) #[.bool (ng y.num),.slice A' n' c',.slice D' m' d'] 33)) (by kernel_rfl) ?_ S.out ?_
 ·exact⟨by kernel_rfl,(zis_cons at4 (fun _ _=>by kernel_rfl) (zis_cons at5 (fun _ _=>by kernel_rfl) zis_nil)),by decide,by decide,(nol_cons (noL2 _ _ _ _) (nol_cons (noL2 _ _ _ _) nol_nil)),(fun _ _ h=>⟨h.kb 4 rfl,h.kb 3 rfl⟩)⟩
 intro hzk;clear S;refine RW.t (i:=0) (v:=.agg #[.bool (ng x.num),.slice A n c,.slice D m d]) (some 48) at0 (hy:=fun W hS=>by (have k0:=Cb.cell (i:=0) hS.1 rfl;have k1:=Cb.cell (i:=1) hS.1 rfl;have k2:=Cb.cell (i:=2) hS.1 rfl;clear hS;go_simp)) (h:=?_)
 refine RW.t (i:=2) (v:=.agg #[.bool (ng y.num),.slice A' n' c',.slice D' m' d']) (some 50) at2 (hy:=fun W hS=>by (have k0:=Cb.cell (i:=0) hS.2 rfl;have k1:=Cb.cell (i:=1) hS.2 rfl;have k2:=Cb.cell (i:=2) hS.2 rfl;clear hS;go_simp)) (h:=?_)
 refine RW.c (i:=1) (args:=#[.agg #[.bool (ng x.num),.slice A n c,.slice D m d]]) (some 49) hzk.out at1 (hx:=fun _=>by kernel_rfl) (h:=fun _ S=>(hX.out _ _ _ _ _ _ _ ⟨S.r 3 rfl,S.r 2 rfl⟩).mono ?_)
 rintro e w3 ⟨A2,n2,c2,rfl,Q2,bb⟩;refine⟨bb,_,[(A2,n2,c2,limbs x.den)],rfl,(rd_cons Q2 rd_nil),?_⟩
 clear bb S Q2;refine RW.c (i:=3) (args:=#[.agg #[.bool (ng y.num),.slice A' n' c',.slice D' m' d']]) (some 51) hzk.out at3 (hx:=fun _=>by kernel_rfl) (h:=fun _ S=>(hY.out _ _ _ _ _ _ _ ⟨S.r 2 rfl,S.r 1 rfl⟩).mono ?_)
 rintro e w4 ⟨A3,n3,c3,rfl,Q3,bb⟩;refine⟨bb,_,[(A3,n3,c3,limbs y.den)],rfl,(rd_cons Q3 rd_nil),?_⟩
 clear bb S Q3;refine RW.tail hzk.out (by kernel_rfl) ?_
 intro gs w5 hgs hS S;obtain⟨g_b,g_d,rfl⟩:=len2 hgs;clear hS hgs hzk;simp only[mark,fill,List.map,Act.put,sZ0,sZ1,sZ2];replace S:=Lib.hid S;refine Wk.o (i:=6) at6 (by kernel_rfl) fun K' hK=>?_
 have q6_b0:=St.cl (S.out) 0 0 rfl rfl;have q6_b1:=St.cl (S.out) 0 1 rfl rfl;have q6z_b0:=St.f (S.out) 0 0 rfl;have q6z_b1:=St.f (S.out) 0 1 rfl
 go_simp
 have SN:=((S.out.set 0 0 (.bool false) rfl (by nofun)).set 0 1 (.slice A2 n2 c2) rfl (by nofun))
 clear S q6_b0 q6_b1 q6z_b0 q6z_b1;have S:=SN;clear SN;refine hK.out _ _ ⟨(S.cb 6 rfl),(S.cb 5 rfl)⟩ ?_
 clear hK K';replace S:=Lib.hid S
 try simp only[Act.put,sZ0,sZ1,sZ2]
 refine Wk.o (i:=7) at7 (by kernel_rfl) fun K' hK=>?_
 have q7_d0:=St.cl (S.out) 1 0 rfl rfl;have q7_d1:=St.cl (S.out) 1 1 rfl rfl;have q7z_d0:=St.f (S.out) 1 0 rfl;have q7z_d1:=St.f (S.out) 1 1 rfl
 go_simp
 have SN:=((S.out.set 1 0 (.bool false) rfl (by nofun)).set 1 1 (.slice A3 n3 c3) rfl (by nofun))
 clear S q7_d0 q7_d1 q7z_d0 q7z_d1;have S:=SN;clear SN;refine hK.out _ _ ⟨(S.cb 6 rfl),(S.cb 5 rfl)⟩ ?_
 clear hK K';replace S:=Lib.hid S
 try simp only[Act.put,sZ0,sZ1,sZ2]
 refine Wk.done (by kernel_rfl) ?_
 go_simp
 replace S:=S.out;have S:St w _ [(g_b,#[.bool false,.slice A2 n2 c2],31),(g_d,#[.bool false,.slice A3 n3 c3],31),(w1.heap.size+1,#[.int .i64 a2,.int .i64 b2'],116),(w1.heap.size,#[.int .i64 a1,.int .i64 b1'],116),(w.heap.size+1+1,#[.bool false,.slice none 0 0,.slice none 0 0],33),(w.heap.size+1,#[.bool (ng y.num),.slice A' n' c',.slice D' m' d'],33),(w.heap.size,#[.bool (ng x.num),.slice A n c,.slice D m d],33)] [(A3,n3,c3,limbs y.den),(A2,n2,c2,limbs x.den),(D',m',d',dn y),(A',n',c',limbs y.num.natAbs),(D,m,d,dn x),(A,n,c,limbs x.num.natAbs)]:=S
 generalize hW6:(World.setCell (World.setCell (World.setCell (World.setCell w5 ⟨g_b,0,none⟩ (.bool false)) ⟨g_b,1,none⟩ (.slice A2 n2 c2)) ⟨g_d,0,none⟩ (.bool false)) ⟨g_d,1,none⟩ (.slice A3 n3 c3))=w6 at S ⊢;clear hW6;replace S:=Lib.hid S;replace S:=S.out;obtain⟨c_b0,c_b1,f_b0,f_b1⟩:=S.cf2 0 rfl;obtain⟨c_d0,c_d1,f_d0,f_d1⟩:=S.cf2 1 rfl;obtain⟨c_t0,c_t1,f_t0,f_t1⟩:=S.cf2 2 rfl;obtain⟨c_s0,c_s1,f_s0,f_s1⟩:=S.cf2 3 rfl
 obtain⟨c_r0,c_r1,c_r2,f_r0,f_r1,f_r2⟩:=S.cf3 4 rfl;obtain⟨c_y0,c_y1,c_y2,f_y0,f_y1,f_y2⟩:=S.cf3 5 rfl;obtain⟨c_x0,c_x1,c_x2,f_x0,f_x1,f_x2⟩:=S.cf3 6 rfl;have hz:g_b<w6.heap.size:=S.lt 0 rfl;replace S:=Lib.hid S;clear hX hY;go_upto_region 7 with fail
 clear c_b0 f_b0 c_b1 f_b1 c_d0 f_d0 c_d1 f_d1 c_t0 f_t0 c_t1 f_t1 c_s0 f_s0 c_s1 f_s1 c_r0 f_r0 c_r1 f_r1 c_r2 f_r2 c_y0 f_y0 c_y1 f_y1 c_y2 f_y2 c_x0 f_x0 c_x1 f_x1 c_x2 f_x2 hz;refine RW.begin (Z:=[⟨8,10,#[.bool false,.slice none 0 0],31⟩,⟨9,11,#[.bool false,.slice none 0 0],31⟩]) (S:=(fun W=>Cb W (w.heap.size) #[.bool (ng x.num),.slice A n c,.slice D m d] 33∧Cb W (w.heap.size+1) #[.bool (ng y.num),.slice A' n' c',.slice D' m' d'] 33∧Cb W (g_b) #[.bool false,.slice A2 n2 c2] 31∧Cb W (g_d) #[.bool false,.slice A3 n3 c3] 31)) (by kernel_rfl) ?_ S.out ?_
 ·exact⟨by kernel_rfl,(zis_cons at8 (fun _ _=>by kernel_rfl) (zis_cons at9 (fun _ _=>by kernel_rfl) zis_nil)),by decide,by decide,(nol_cons (noL2 _ _ _ _) (nol_cons (noL2 _ _ _ _) nol_nil)),(fun _ _ h=>⟨h.kb 6 rfl,h.kb 5 rfl,h.kb 0 rfl,h.kb 1 rfl⟩)⟩
 intro hzk;clear S;refine RW.t (i:=0) (v:=.pointer (some ⟨w.heap.size,0,none⟩)) (some 52) at0 (hy:=fun _ _=>by kernel_rfl) (h:=?_)
 refine RW.t (i:=1) (v:=.agg #[.bool (ng x.num),.slice A n c]) (some 53) at1 (hy:=fun W hS=>by (have k0:=Cb.cell (i:=0) hS.1 rfl;have k1:=Cb.cell (i:=1) hS.1 rfl;clear hS;go_simp)) (h:=?_)
 refine RW.t (i:=2) (v:=.agg #[.bool false,.slice A3 n3 c3]) (some 54) at2 (hy:=fun W hS=>by (have k0:=Cb.cell (i:=0) hS.2.2.2 rfl;have k1:=Cb.cell (i:=1) hS.2.2.2 rfl;clear hS;go_simp)) (h:=?_)
 refine RW.t (i:=4) (v:=.pointer (some ⟨w.heap.size+1,0,none⟩)) (some 56) at4 (hy:=fun _ _=>by kernel_rfl) (h:=?_)
 refine RW.t (i:=5) (v:=.agg #[.bool (ng y.num),.slice A' n' c']) (some 57) at5 (hy:=fun W hS=>by (have k0:=Cb.cell (i:=0) hS.2.1 rfl;have k1:=Cb.cell (i:=1) hS.2.1 rfl;clear hS;go_simp)) (h:=?_)
 refine RW.t (i:=6) (v:=.agg #[.bool false,.slice A2 n2 c2]) (some 58) at6 (hy:=fun W hS=>by (have k0:=Cb.cell (i:=0) hS.2.2.1 rfl;have k1:=Cb.cell (i:=1) hS.2.2.1 rfl;clear hS;go_simp)) (h:=?_)
 refine RW.c (i:=3) (args:=#[.agg #[.bool (ng x.num),.slice A n c],.agg #[.bool false,.slice A3 n3 c3]]) (some 55) hzk.out at3 (hx:=fun _=>by kernel_rfl) (h:=fun _ S=>(hF1.out _ _ _ _ _ _ _ (S.r 5 rfl) (S.r 0 rfl)).mono ?_)
 rintro e w7 ⟨A4,n4,c4,rfl,Q4,bb⟩;refine⟨bb,_,[(A4,n4,c4,limbs f)],rfl,(rd_cons Q4 rd_nil),?_⟩
 clear bb S Q4;refine RW.c (i:=7) (args:=#[.agg #[.bool (ng y.num),.slice A' n' c'],.agg #[.bool false,.slice A2 n2 c2]]) (some 59) hzk.out at7 (hx:=fun _=>by kernel_rfl) (h:=fun _ S=>(hF2.out _ _ _ _ _ _ _ (S.r 4 rfl) (S.r 2 rfl)).mono ?_)
 rintro e w8 ⟨A5,n5,c5,rfl,Q5,bb⟩;refine⟨bb,_,[(A5,n5,c5,limbs s)],rfl,(rd_cons Q5 rd_nil),?_⟩
 clear bb S Q5;refine RW.tail hzk.out (by kernel_rfl) ?_
 intro gs w9 hgs hS S;obtain⟨g_f,g_s2,rfl⟩:=len2 hgs;clear hS hgs hzk;simp only[mark,fill,List.map,Act.put,sZ0,sZ1,sZ2];replace S:=Lib.hid S;refine Wk.o (i:=10) at10 (by kernel_rfl) fun K' hK=>?_
 have q10_f0:=St.cl (S.out) 0 0 rfl rfl;have q10_f1:=St.cl (S.out) 0 1 rfl rfl;have q10z_f0:=St.f (S.out) 0 0 rfl;have q10z_f1:=St.f (S.out) 0 1 rfl
 go_simp
 have SN:=((S.out.set 0 0 (.bool false) rfl (by nofun)).set 0 1 (.slice A4 n4 c4) rfl (by nofun))
 clear S q10_f0 q10_f1 q10z_f0 q10z_f1;have S:=SN;clear SN;refine hK.out _ _ ⟨(S.cb 8 rfl),(S.cb 7 rfl),(S.cb 2 rfl),(S.cb 3 rfl)⟩ ?_
 clear hK K';replace S:=Lib.hid S
 try simp only[Act.put,sZ0,sZ1,sZ2]
 refine Wk.o (i:=11) at11 (by kernel_rfl) fun K' hK=>?_
 have q11_s20:=St.cl (S.out) 1 0 rfl rfl;have q11_s21:=St.cl (S.out) 1 1 rfl rfl;have q11z_s20:=St.f (S.out) 1 0 rfl;have q11z_s21:=St.f (S.out) 1 1 rfl
 go_simp
 have SN:=((S.out.set 1 0 (.bool false) rfl (by nofun)).set 1 1 (.slice A5 n5 c5) rfl (by nofun))
 clear S q11_s20 q11_s21 q11z_s20 q11z_s21;have S:=SN;clear SN;refine hK.out _ _ ⟨(S.cb 8 rfl),(S.cb 7 rfl),(S.cb 2 rfl),(S.cb 3 rfl)⟩ ?_
 clear hK K';replace S:=Lib.hid S
 try simp only[Act.put,sZ0,sZ1,sZ2]
 refine Wk.done (by kernel_rfl) ?_
 go_simp
 replace S:=S.out;have S:St w _ [(g_f,#[.bool false,.slice A4 n4 c4],31),(g_s2,#[.bool false,.slice A5 n5 c5],31),(g_b,#[.bool false,.slice A2 n2 c2],31),(g_d,#[.bool false,.slice A3 n3 c3],31),(w1.heap.size+1,#[.int .i64 a2,.int .i64 b2'],116),(w1.heap.size,#[.int .i64 a1,.int .i64 b1'],116),(w.heap.size+1+1,#[.bool false,.slice none 0 0,.slice none 0 0],33),(w.heap.size+1,#[.bool (ng y.num),.slice A' n' c',.slice D' m' d'],33),(w.heap.size,#[.bool (ng x.num),.slice A n c,.slice D m d],33)] [(A5,n5,c5,limbs s),(A4,n4,c4,limbs f),(A3,n3,c3,limbs y.den),(A2,n2,c2,limbs x.den),(D',m',d',dn y),(A',n',c',limbs y.num.natAbs),(D,m,d,dn x),(A,n,c,limbs x.num.natAbs)]:=S
 generalize hW10:(World.setCell (World.setCell (World.setCell (World.setCell w9 ⟨g_f,0,none⟩ (.bool false)) ⟨g_f,1,none⟩ (.slice A4 n4 c4)) ⟨g_s2,0,none⟩ (.bool false)) ⟨g_s2,1,none⟩ (.slice A5 n5 c5))=w10 at S ⊢;clear hW10;replace S:=Lib.hid S;replace S:=S.out;obtain⟨c_f0,c_f1,f_f0,f_f1⟩:=S.cf2 0 rfl;obtain⟨c_s20,c_s21,f_s20,f_s21⟩:=S.cf2 1 rfl;obtain⟨c_b0,c_b1,f_b0,f_b1⟩:=S.cf2 2 rfl;obtain⟨c_d0,c_d1,f_d0,f_d1⟩:=S.cf2 3 rfl
 obtain⟨c_t0,c_t1,f_t0,f_t1⟩:=S.cf2 4 rfl;obtain⟨c_s0,c_s1,f_s0,f_s1⟩:=S.cf2 5 rfl;obtain⟨c_r0,c_r1,c_r2,f_r0,f_r1,f_r2⟩:=S.cf3 6 rfl;obtain⟨c_y0,c_y1,c_y2,f_y0,f_y1,f_y2⟩:=S.cf3 7 rfl;obtain⟨c_x0,c_x1,c_x2,f_x0,f_x1,f_x2⟩:=S.cf3 8 rfl;have hz:g_f<w10.heap.size:=S.lt 0 rfl;replace S:=Lib.hid S;clear hF1 hF2;go_upto_region 8 with fail
 clear c_f0 f_f0 c_f1 f_f1 c_s20 f_s20 c_s21 f_s21 c_b0 f_b0 c_b1 f_b1 c_d0 f_d0 c_d1 f_d1 c_t0 f_t0 c_t1 f_t1 c_s0 f_s0 c_s1 f_s1 c_r0 f_r0 c_r1 f_r1 c_r2 f_r2 c_y0 f_y0 c_y1 f_y1 c_y2 f_y2 c_x0 f_x0 c_x1 f_x1 c_x2 f_x2 hz;refine RW.begin (Z:=[⟨9,12,#[.bool false,.slice none 0 0],31⟩]) (S:=(fun W=>Cb W (w.heap.size) #[.bool (ng x.num),.slice A n c,.slice D m d] 33∧Cb W (w.heap.size+1) #[.bool (ng y.num),.slice A' n' c',.slice D' m' d'] 33∧Cb W (g_f) #[.bool false,.slice A4 n4 c4] 31∧Cb W (g_s2) #[.bool false,.slice A5 n5 c5] 31)) (by kernel_rfl) ?_ S.out ?_
 ·exact⟨by kernel_rfl,(zis_cons at9 (fun _ _=>by kernel_rfl) zis_nil),by decide,by decide,(nol_cons (noL2 _ _ _ _) nol_nil),(fun _ _ h=>⟨h.kb 8 rfl,h.kb 7 rfl,h.kb 0 rfl,h.kb 1 rfl⟩)⟩
 intro hzk;clear S;refine RW.t (i:=0) (v:=.pointer (some ⟨w.heap.size,0,none⟩)) (some 60) at0 (hy:=fun _ _=>by kernel_rfl) (h:=?_)
 refine RW.t (i:=1) (v:=.agg #[.bool (ng x.num),.slice A n c]) (some 61) at1 (hy:=fun W hS=>by (have k0:=Cb.cell (i:=0) hS.1 rfl;have k1:=Cb.cell (i:=1) hS.1 rfl;clear hS;go_simp)) (h:=?_)
 refine RW.t (i:=2) (v:=.agg #[.bool false,.slice A4 n4 c4]) (some 62) at2 (hy:=fun W hS=>by (have k0:=Cb.cell (i:=0) hS.2.2.1 rfl;have k1:=Cb.cell (i:=1) hS.2.2.1 rfl;clear hS;go_simp)) (h:=?_)
 refine RW.t (i:=4) (v:=.pointer (some ⟨w.heap.size+1,0,none⟩)) (some 64) at4 (hy:=fun _ _=>by kernel_rfl) (h:=?_)
 refine RW.t (i:=5) (v:=.agg #[.bool (ng y.num),.slice A' n' c']) (some 65) at5 (hy:=fun W hS=>by (have k0:=Cb.cell (i:=0) hS.2.1 rfl;have k1:=Cb.cell (i:=1) hS.2.1 rfl;clear hS;go_simp)) (h:=?_)
 refine RW.t (i:=6) (v:=.agg #[.bool false,.slice A5 n5 c5]) (some 66) at6 (hy:=fun W hS=>by (have k0:=Cb.cell (i:=0) hS.2.2.2 rfl;have k1:=Cb.cell (i:=1) hS.2.2.2 rfl;clear hS;go_simp)) (h:=?_)
 refine RW.c (i:=3) (args:=#[.agg #[.bool (ng x.num),.slice A n c],.agg #[.bool false,.slice A4 n4 c4]]) (some 63) hzk.out at3 (hx:=fun _=>by kernel_rfl) (h:=fun _ S=>(hO1.out _ _ _ _ _ _ _ (S.r 7 rfl) (S.r 1 rfl)).mono ?_)
 rintro e w11 ⟨A6,n6,c6,rfl,Q6,bb⟩;refine⟨bb,_,[(A6,n6,c6,limbs z1.natAbs)],rfl,(rd_cons Q6 rd_nil),?_⟩
 clear bb S Q6;refine RW.c (i:=7) (args:=#[.agg #[.bool (ng y.num),.slice A' n' c'],.agg #[.bool false,.slice A5 n5 c5]]) (some 67) hzk.out at7 (hx:=fun _=>by kernel_rfl) (h:=fun _ S=>(hO2.out _ _ _ _ _ _ _ (S.r 6 rfl) (S.r 1 rfl)).mono ?_)
 rintro e w12 ⟨A7,n7,c7,rfl,Q7,bb⟩;refine⟨bb,_,[(A7,n7,c7,limbs z2.natAbs)],rfl,(rd_cons Q7 rd_nil),?_⟩
 clear bb S Q7;refine RW.c (i:=8) (args:=#[.agg #[.bool (ng z1),.slice A6 n6 c6],.agg #[.bool (ng z2),.slice A7 n7 c7]]) (some 68) hzk.out at8 (hx:=fun _=>by kernel_rfl) (h:=fun _ S=>(hM1.out _ _ _ _ _ _ _ (S.r 1 rfl) (S.r 0 rfl)).mono ?_)
 rintro e w13 ⟨A8,n8,c8,rfl,Q8,bb⟩;refine⟨bb,_,[(A8,n8,c8,limbs q.num.natAbs)],rfl,(rd_cons Q8 rd_nil),?_⟩
 clear bb S Q8;refine RW.tail hzk.out (by kernel_rfl) ?_
 intro gs w14 hgs hS S;obtain⟨g_n,rfl⟩:=len1' hgs;clear hS hgs hzk;simp only[mark,fill,List.map,Act.put,sZ0,sZ1,sZ2];replace S:=Lib.hid S;refine Wk.o (i:=10) at10 (by kernel_rfl) fun K' hK=>?_
 have q10_n0:=St.cl (S.out) 0 0 rfl rfl;have q10_n1:=St.cl (S.out) 0 1 rfl rfl;have q10z_n0:=St.f (S.out) 0 0 rfl;have q10z_n1:=St.f (S.out) 0 1 rfl
 go_simp
 have SN:=((S.out.set 0 0 (.bool (ng q.num)) rfl (by nofun)).set 0 1 (.slice A8 n8 c8) rfl (by nofun))
 clear S q10_n0 q10_n1 q10z_n0 q10z_n1;have S:=SN;clear SN;refine hK.out _ _ ⟨(S.cb 9 rfl),(S.cb 8 rfl),(S.cb 1 rfl),(S.cb 2 rfl)⟩ ?_
 clear hK K';replace S:=Lib.hid S
 try simp only[Act.put,sZ0,sZ1,sZ2]
 refine Wk.done (by kernel_rfl) ?_
 go_simp
 replace S:=S.out;have S:St w _ [(g_n,#[.bool (ng q.num),.slice A8 n8 c8],31),(g_f,#[.bool false,.slice A4 n4 c4],31),(g_s2,#[.bool false,.slice A5 n5 c5],31),(g_b,#[.bool false,.slice A2 n2 c2],31),(g_d,#[.bool false,.slice A3 n3 c3],31),(w1.heap.size+1,#[.int .i64 a2,.int .i64 b2'],116),(w1.heap.size,#[.int .i64 a1,.int .i64 b1'],116),(w.heap.size+1+1,#[.bool false,.slice none 0 0,.slice none 0 0],33),(w.heap.size+1,#[.bool (ng y.num),.slice A' n' c',.slice D' m' d'],33),(w.heap.size,#[.bool (ng x.num),.slice A n c,.slice D m d],33)] [(A8,n8,c8,limbs q.num.natAbs),(A7,n7,c7,limbs z2.natAbs),(A6,n6,c6,limbs z1.natAbs),(A5,n5,c5,limbs s),(A4,n4,c4,limbs f),(A3,n3,c3,limbs y.den),(A2,n2,c2,limbs x.den),(D',m',d',dn y),(A',n',c',limbs y.num.natAbs),(D,m,d,dn x),(A,n,c,limbs x.num.natAbs)]:=S
 generalize hW15:(World.setCell (World.setCell w14 ⟨g_n,0,none⟩ (.bool (ng q.num))) ⟨g_n,1,none⟩ (.slice A8 n8 c8))=w15 at S ⊢;clear hW15;replace S:=Lib.hid S;replace S:=S.out;obtain⟨c_n0,c_n1,f_n0,f_n1⟩:=S.cf2 0 rfl;obtain⟨c_f0,c_f1,f_f0,f_f1⟩:=S.cf2 1 rfl;obtain⟨c_s20,c_s21,f_s20,f_s21⟩:=S.cf2 2 rfl;obtain⟨c_b0,c_b1,f_b0,f_b1⟩:=S.cf2 3 rfl;obtain⟨c_d0,c_d1,f_d0,f_d1⟩:=S.cf2 4 rfl;obtain⟨c_t0,c_t1,f_t0,f_t1⟩:=S.cf2 5 rfl
 obtain⟨c_s0,c_s1,f_s0,f_s1⟩:=S.cf2 6 rfl;obtain⟨c_r0,c_r1,c_r2,f_r0,f_r1,f_r2⟩:=S.cf3 7 rfl;obtain⟨c_y0,c_y1,c_y2,f_y0,f_y1,f_y2⟩:=S.cf3 8 rfl;obtain⟨c_x0,c_x1,c_x2,f_x0,f_x1,f_x2⟩:=S.cf3 9 rfl;have hz:g_n<w15.heap.size:=S.lt 0 rfl;replace S:=Lib.hid S;clear hO1 hO2 hM1;go_upto_region 9 with fail
 clear c_n0 f_n0 c_n1 f_n1 c_f0 f_f0 c_f1 f_f1 c_s20 f_s20 c_s21 f_s21 c_b0 f_b0 c_b1 f_b1 c_d0 f_d0 c_d1 f_d1 c_t0 f_t0 c_t1 f_t1 c_s0 f_s0 c_s1 f_s1 c_r0 f_r0 c_r1 f_r1 c_r2 f_r2 c_y0 f_y0 c_y1 f_y1 c_y2 f_y2 c_x0 f_x0 c_x1 f_x1 c_x2 f_x2 hz;refine RW.begin (Z:=[]) (S:=(fun W=>Cb W (g_b) #[.bool false,.slice A2 n2 c2] 31∧Cb W (g_d) #[.bool false,.slice A3 n3 c3] 31∧Cb W (g_f) #[.bool false,.slice A4 n4 c4] 31∧Cb W (g_s2) #[.bool false,.slice A5 n5 c5] 31∧Cb W (g_n) #[.bool (ng q.num),.slice A8 n8 c8] 31)) (by kernel_rfl) ?_ S.out ?_
 ·exact⟨by kernel_rfl,zis_nil,by decide,by decide,nol_nil,(fun _ _ h=>⟨h.kb 3 rfl,h.kb 4 rfl,h.kb 1 rfl,h.kb 2 rfl,h.kb 0 rfl⟩)⟩
 intro hzk;clear S;refine RW.t (i:=0) (v:=.agg #[.bool (ng q.num),.slice A8 n8 c8]) (some 69) at0 (hy:=fun W hS=>by (have k0:=Cb.cell (i:=0) hS.2.2.2.2 rfl;have k1:=Cb.cell (i:=1) hS.2.2.2.2 rfl;clear hS;go_simp)) (h:=?_)
 refine RW.t (i:=1) (v:=.agg #[.bool false,.slice A2 n2 c2]) (some 70) at1 (hy:=fun W hS=>by (have k0:=Cb.cell (i:=0) hS.1 rfl;have k1:=Cb.cell (i:=1) hS.1 rfl;clear hS;go_simp)) (h:=?_)
 refine RW.t (i:=2) (v:=.agg #[.bool false,.slice A5 n5 c5]) (some 71) at2 (hy:=fun W hS=>by (have k0:=Cb.cell (i:=0) hS.2.2.2.1 rfl;have k1:=Cb.cell (i:=1) hS.2.2.2.1 rfl;clear hS;go_simp)) (h:=?_)
 refine RW.t (i:=4) (v:=.agg #[.bool false,.slice A3 n3 c3]) (some 73) at4 (hy:=fun W hS=>by (have k0:=Cb.cell (i:=0) hS.2.1 rfl;have k1:=Cb.cell (i:=1) hS.2.1 rfl;clear hS;go_simp)) (h:=?_)
 refine RW.t (i:=5) (v:=.agg #[.bool false,.slice A4 n4 c4]) (some 74) at5 (hy:=fun W hS=>by (have k0:=Cb.cell (i:=0) hS.2.2.1 rfl;have k1:=Cb.cell (i:=1) hS.2.2.1 rfl;clear hS;go_simp)) (h:=?_)
 refine RW.c (i:=3) (args:=#[.agg #[.bool false,.slice A2 n2 c2],.agg #[.bool false,.slice A5 n5 c5]]) (some 72) hzk.out at3 (hx:=fun _=>by kernel_rfl) (h:=fun _ S=>(hO3.out _ _ _ _ _ _ _ (S.r 6 rfl) (S.r 3 rfl)).mono ?_)
 rintro e w16 ⟨A9,n9,c9,rfl,Q9,bb⟩;refine⟨bb,_,[(A9,n9,c9,limbs b1)],rfl,(rd_cons Q9 rd_nil),?_⟩
 clear bb S Q9;refine RW.c (i:=6) (args:=#[.agg #[.bool false,.slice A3 n3 c3],.agg #[.bool false,.slice A4 n4 c4]]) (some 75) hzk.out at6 (hx:=fun _=>by kernel_rfl) (h:=fun _ S=>(hO4.out _ _ _ _ _ _ _ (S.r 6 rfl) (S.r 5 rfl)).mono ?_)
 rintro e w17 ⟨A10,n10,c10,rfl,Q10,bb⟩;refine⟨bb,_,[(A10,n10,c10,limbs d1)],rfl,(rd_cons Q10 rd_nil),?_⟩
 clear bb S Q10;refine RW.c (i:=7) (args:=#[.agg #[.bool false,.slice A9 n9 c9],.agg #[.bool false,.slice A10 n10 c10]]) (some 76) hzk.out at7 (hx:=fun _=>by kernel_rfl) (h:=fun _ S=>(hM2.out _ _ _ _ _ _ _ (S.r 1 rfl) (S.r 0 rfl)).mono ?_)
 rintro e w18 ⟨A11,n11,c11,rfl,Q11,bb⟩;refine⟨bb,_,[(A11,n11,c11,limbs q.den)],rfl,(rd_cons Q11 rd_nil),?_⟩
 clear bb S Q11;refine RW.c (i:=8) (args:=#[.agg #[.bool (ng q.num),.slice A8 n8 c8],.agg #[.bool false,.slice A11 n11 c11]]) (some 77) hzk.out at8 (hx:=fun _=>by kernel_rfl) (h:=fun _ S=>(hF.out _ _ _ _ _ _ _ (S.r 3 rfl) (S.r 0 rfl)).mono ?_)
 rintro e w19 ⟨A14,n14,c14,D14,m14,d14,rfl,Q14,bb⟩;refine⟨bb,_,[(D14,m14,d14,dn q),(A14,n14,c14,limbs q.num.natAbs)],rfl,(rd_cons Q14.d (rd_cons Q14.n rd_nil)),?_⟩
 clear bb S Q14;refine RW.tail hzk.out (by kernel_rfl) ?_
 intro gs w20 hgs hS S;obtain rfl:=len0 hgs;clear hS hgs hzk;simp only[mark,fill,Act.put,sZ0,sZ1,sZ2];replace S:=Lib.hid S;refine Wk.o (i:=9) at9 (by kernel_rfl) fun K' hK=>?_
 have q9_r0:=St.cl (S.out) 7 0 rfl rfl;have q9_r1:=St.cl (S.out) 7 1 rfl rfl;have q9_r2:=St.cl (S.out) 7 2 rfl rfl;have q9z_r0:=St.f (S.out) 7 0 rfl;have q9z_r1:=St.f (S.out) 7 1 rfl;have q9z_r2:=St.f (S.out) 7 2 rfl
 go_simp
 have SN:=(((S.out.set 7 0 (.bool (ng q.num)) rfl (by nofun)).set 7 1 (.slice A14 n14 c14) rfl (by nofun)).set 7 2 (.slice D14 m14 d14) rfl (by nofun))
 clear S q9_r0 q9_r1 q9_r2 q9z_r0 q9z_r1 q9z_r2;have S:=SN;clear SN;refine hK.out _ _ ⟨(S.cb 3 rfl),(S.cb 4 rfl),(S.cb 1 rfl),(S.cb 2 rfl),(S.cb 0 rfl)⟩ ?_
 clear hK K';replace S:=Lib.hid S
 try simp only[Act.put,sZ0,sZ1,sZ2]
 refine Wk.done (by kernel_rfl) ?_
 go_simp
 replace S:=S.out;have S:St w _ [(g_n,#[.bool (ng q.num),.slice A8 n8 c8],31),(g_f,#[.bool false,.slice A4 n4 c4],31),(g_s2,#[.bool false,.slice A5 n5 c5],31),(g_b,#[.bool false,.slice A2 n2 c2],31),(g_d,#[.bool false,.slice A3 n3 c3],31),(w1.heap.size+1,#[.int .i64 a2,.int .i64 b2'],116),(w1.heap.size,#[.int .i64 a1,.int .i64 b1'],116),(w.heap.size+1+1,#[.bool (ng q.num),.slice A14 n14 c14,.slice D14 m14 d14],33),(w.heap.size+1,#[.bool (ng y.num),.slice A' n' c',.slice D' m' d'],33),(w.heap.size,#[.bool (ng x.num),.slice A n c,.slice D m d],33)] [(D14,m14,d14,dn q),(A14,n14,c14,limbs q.num.natAbs),(A11,n11,c11,limbs q.den),(A10,n10,c10,limbs d1),(A9,n9,c9,limbs b1),(A8,n8,c8,limbs q.num.natAbs),(A7,n7,c7,limbs z2.natAbs),(A6,n6,c6,limbs z1.natAbs),(A5,n5,c5,limbs s),(A4,n4,c4,limbs f),(A3,n3,c3,limbs y.den),(A2,n2,c2,limbs x.den),(D',m',d',dn y),(A',n',c',limbs y.num.natAbs),(D,m,d,dn x),(A,n,c,limbs x.num.natAbs)]:=S
 generalize hW21:(World.setCell (World.setCell (World.setCell w20 ⟨w.heap.size+1+1,0,none⟩ (.bool (ng q.num))) ⟨w.heap.size+1+1,1,none⟩ (.slice A14 n14 c14)) ⟨w.heap.size+1+1,2,none⟩ (.slice D14 m14 d14))=w21 at S ⊢;clear hW21;replace S:=Lib.hid S;replace S:=S.out;obtain⟨c_n0,c_n1,f_n0,f_n1⟩:=S.cf2 0 rfl;obtain⟨c_f0,c_f1,f_f0,f_f1⟩:=S.cf2 1 rfl;obtain⟨c_s20,c_s21,f_s20,f_s21⟩:=S.cf2 2 rfl;obtain⟨c_b0,c_b1,f_b0,f_b1⟩:=S.cf2 3 rfl
 obtain⟨c_d0,c_d1,f_d0,f_d1⟩:=S.cf2 4 rfl;obtain⟨c_t0,c_t1,f_t0,f_t1⟩:=S.cf2 5 rfl;obtain⟨c_s0,c_s1,f_s0,f_s1⟩:=S.cf2 6 rfl;obtain⟨c_r0,c_r1,c_r2,f_r0,f_r1,f_r2⟩:=S.cf3 7 rfl;obtain⟨c_y0,c_y1,c_y2,f_y0,f_y1,f_y2⟩:=S.cf3 8 rfl;obtain⟨c_x0,c_x1,c_x2,f_x0,f_x1,f_x2⟩:=S.cf3 9 rfl;have hz:g_n<w21.heap.size:=S.lt 0 rfl;replace S:=Lib.hid S;have S:=S.out;replace S:=Lib.hid S;go_wp2;refine bodyPost_ret (res_product _ _ (w.heap.size+1+1) 33 rfl (S.out.bk _ (List.mem_of_getElem? (i:=7) rfl)).1) rfl ?_
 exact⟨_,_,_,_,_,_,rfl,⟨S.out.r 1 rfl,S.out.r 0 rfl⟩,S.out.bel⟩
theorem product_long0 (x y:Rat) (A:Option Addr) (n c:Nat) (D:Option Addr) (d:Nat) (A':Option Addr) (n' c':Nat) (D':Option Addr) (m' d':Nat) (w:World) (X:RR w A n c D 0 d x) (Y:RR w A' n' c' D' m' d' y) (hs:(shq x&&shq y)=false) (hx:Rs x 20000000) (hy:Rs y 20000000) (hm:¬ m'=0) :
  Calls Tryz.prog 84 #[.agg #[.bool (ng x.num),.slice A n c,.slice D 0 d],.agg #[.bool (ng y.num),.slice A' n' c',.slice D' m' d']] w (RetR (x*y) w):=by
 have hB:Hid (∀ W,RR W A n c D 0 d x→RR W A' n' c' D' m' d' y→Calls Tryz.prog 104 #[.agg #[.bool (ng x.num),.slice A n c,.slice D 0 d],.agg #[.bool (ng y.num),.slice A' n' c',.slice D' m' d']] W fun e w'=>∃ a b c d:Int,e=.returned (.tuple #[.agg #[.int .i64 a,.int .i64 b],.agg #[.int .i64 c,.int .i64 d],.bool false])∧Below W.heap.size W w'):=Lib.hid fun W h h'=>(bothShort_any x y A n c D 0 d A' n' c' D' m' d' W h h').mono (by
  rintro e w' ⟨a,b,c,d,rfl,h,bb⟩;rw[hs];exact⟨a,b,c,d,rfl,bb⟩)
 have R1:=X.n;have R2:=X.d;have R3:=Y.n;have R4:=Y.d;have kx:(limbs x.num.natAbs).length≤20000000:=limbs_len_le.2 hx.n;have ky:(limbs y.num.natAbs).length≤20000000:=limbs_len_le.2 hy.n;have kp:(limbs x.den).length≤20000000:=limbs_len_le.2 hx.d;have kq:(limbs y.den).length≤20000000:=limbs_len_le.2 hy.d;obtain⟨f,ef⟩:∃ f:Nat,f=Int.gcd x.num (y.den:Int):=⟨_,rfl⟩;obtain⟨s,es⟩:∃ s:Nat,s=Int.gcd y.num (x.den:Int):=⟨_,rfl⟩
 obtain⟨z1,e1⟩:∃ z1:Int,z1=x.num / (f:Int):=⟨_,rfl⟩;obtain⟨z2,e2⟩:∃ z2:Int,z2=y.num / (s:Int):=⟨_,rfl⟩;obtain⟨b1,eb⟩:∃ b1:Nat,b1=x.den / s:=⟨_,rfl⟩;obtain⟨d1,ed⟩:∃ d1:Nat,d1=y.den / f:=⟨_,rfl⟩;obtain⟨en,ede,fp,sp⟩:=prod_eq x y f s ef es;rw[←e1,←e2] at en;have ede2:b1*d1=(x*y).den:=by
  rw[←Int.natCast_ediv,←Int.natCast_ediv,←eb,←ed,←Int.natCast_mul] at ede;exact (Int.ofNat.inj ede).symm
 have kf:(limbs f).length≤20000000:=len_mono2 (by rw[ef];exact Nat.le_of_dvd y.den_pos (Nat.gcd_dvd_right _ _)) kq
 have ks:(limbs s).length≤20000000:=len_mono2 (by rw[es];exact Nat.le_of_dvd x.den_pos (Nat.gcd_dvd_right _ _)) kp
 have k1:(limbs z1.natAbs).length≤20000000:=len_mono2 (by rw[e1];exact natAbs_ediv_le _ _) kx
 have k2:(limbs z2.natAbs).length≤20000000:=len_mono2 (by rw[e2];exact natAbs_ediv_le _ _) ky
 have kb:(limbs b1).length≤20000000:=len_mono2 (by rw[eb];exact Nat.div_le_self _ _) kp
 have kd:(limbs d1).length≤20000000:=len_mono2 (by rw[ed];exact Nat.div_le_self _ _) kq
 have hX:=Lib.hid (den_u x);have hY:=Lib.hid (den_u y);have hF1:=Lib.hid (divisor_iu (z:=x.num) (g:=y.den) (by omega) (by omega))
 have hF2:=Lib.hid (divisor_iu (z:=y.num) (g:=x.den) (by omega) (by omega))
 have hO1:=Lib.hid (over_i (z:=x.num) (g:=f) (by omega) (by omega) fp)
 have hO2:=Lib.hid (over_i (z:=y.num) (g:=s) (by omega) (by omega) sp)
 have hM1:=Lib.hid (mul_ii (z:=z1) (y:=z2) (by omega) (by omega))
 have hO3:=Lib.hid (over_u (P:=x.den) (g:=s) (by omega) (by omega) sp)
 have hO4:=Lib.hid (over_u (P:=y.den) (g:=f) (by omega) (by omega) fp)
 have hM2:=Lib.hid (mul_uu (P:=b1) (g:=d1) (by omega) (by omega))
 rw[←ef] at hF1;rw[←es] at hF2;rw[←e1] at hO1;rw[←e2] at hO2;rw[←en] at hM1;rw[←eb] at hO3;rw[←ed] at hO4;rw[ede2] at hM2;have hF:=Lib.hid (fun A n c D m1 d W h h'=>fraction_any (x*y) A n c D m1 d W h h')
 generalize hq:x*y=q at *;clear ef es e1 e2 eb ed en ede ede2 fp sp kx ky kp kq kf ks k1 k2 kb kd hs hx hy hq X Y;have S:=((((((((St.new w).read R1).read R2).read R3).read R4).allocAt (w.heap.size) #[.bool (ng x.num),.slice A n c,.slice D 0 d] 33 (noL3 _ _ _ _ _ _ _) (by simp)).allocAt (w.heap.size+1) #[.bool (ng y.num),.slice A' n' c',.slice D' m' d'] 33 (noL3 _ _ _ _ _ _ _) (by simp)).allocAt (w.heap.size+1+1) #[.bool false,.slice none 0 0,.slice none 0 0] 33 (noL3 _ _ _ _ _ _ _) (by simp))
 replace S:=Lib.hid S;clear R1 R2 R3 R4;go_enter Tryz.func84,Tryz.ntmps84
 go_wp2_with fail
 refine (hB.out _ ⟨S.out.r 3 rfl,S.out.r 2 rfl⟩ ⟨S.out.r 1 rfl,S.out.r 0 rfl⟩).mono ?_
 rintro e w1 ⟨a1,b1',a2,b2',rfl,bb⟩;have T:=(S.out.call bb);clear bb S;have S:=T;clear T;obtain⟨c_r0,c_r1,c_r2,f_r0,f_r1,f_r2⟩:=S.cf3 0 rfl;obtain⟨c_y0,c_y1,c_y2,f_y0,f_y1,f_y2⟩:=S.cf3 1 rfl;obtain⟨c_x0,c_x1,c_x2,f_x0,f_x1,f_x2⟩:=S.cf3 2 rfl;have hz:w.heap.size+1+1<w1.heap.size:=S.lt 0 rfl;replace S:=Lib.hid S;clear hB;have S:=((S.out.allocAt (w1.heap.size) #[.int .i64 a1,.int .i64 b1'] 116 (noLi _ _) (by simp)).allocAt (w1.heap.size+1) #[.int .i64 a2,.int .i64 b2'] 116 (noLi _ _) (by simp))
 replace S:=Lib.hid S;have S:=S.out;obtain⟨a_x0,a_x1,a_x2,b_x0,b_x1,b_x2⟩:=S.cf3 4 rfl;obtain⟨a_y0,a_y1,a_y2,b_y0,b_y1,b_y2⟩:=S.cf3 3 rfl;replace S:=Lib.hid S;go_upto_region 6 with fail
 clear c_r0 f_r0 c_r1 f_r1 c_r2 f_r2 c_y0 f_y0 c_y1 f_y1 c_y2 f_y2 c_x0 f_x0 c_x1 f_x1 c_x2 f_x2 hz a_x0 b_x0 a_x1 b_x1 a_x2 b_x2 a_y0 b_y0 a_y1 b_y1 a_y2 b_y2;have S:=S.out;generalize hW2:(World.alloc (World.alloc w1 (.cells #[.int .i64 a1,.int .i64 b1'] 116)) (.cells #[.int .i64 a2,.int .i64 b2'] 116))=w2 at S ⊢;clear hW2;replace S:=Lib.hid S;refine RW.begin (Z:=[⟨4,8,#[.bool false,.slice none 0 0],31⟩,⟨5,9,#[.bool false,.slice none 0 0],31⟩]) (S:=(fun W=>Cb W (w.heap.size) #[.bool (ng x.num),.slice A n c,.slice D 0 d] 33∧Cb W (w.heap.size+1) #[.bool (ng y.num),.slice A' n' c',.slice D' m' d'] 33)) (by kernel_rfl) ?_ S.out ?_
 ·exact⟨by kernel_rfl,(zis_cons at4 (fun _ _=>by kernel_rfl) (zis_cons at5 (fun _ _=>by kernel_rfl) zis_nil)),by decide,by decide,(nol_cons (noL2 _ _ _ _) (nol_cons (noL2 _ _ _ _) nol_nil)),(fun _ _ h=>⟨h.kb 4 rfl,h.kb 3 rfl⟩)⟩
 intro hzk;clear S;refine RW.t (i:=0) (v:=.agg #[.bool (ng x.num),.slice A n c,.slice D 0 d]) (some 48) at0 (hy:=fun W hS=>by (have k0:=Cb.cell (i:=0) hS.1 rfl;have k1:=Cb.cell (i:=1) hS.1 rfl;have k2:=Cb.cell (i:=2) hS.1 rfl;clear hS;go_simp)) (h:=?_)
 refine RW.t (i:=2) (v:=.agg #[.bool (ng y.num),.slice A' n' c',.slice D' m' d']) (some 50) at2 (hy:=fun W hS=>by (have k0:=Cb.cell (i:=0) hS.2 rfl;have k1:=Cb.cell (i:=1) hS.2 rfl;have k2:=Cb.cell (i:=2) hS.2 rfl;clear hS;go_simp)) (h:=?_)
 refine RW.c (i:=1) (args:=#[.agg #[.bool (ng x.num),.slice A n c,.slice D 0 d]]) (some 49) hzk.out at1 (hx:=fun _=>by kernel_rfl) (h:=fun _ S=>(hX.out _ _ _ _ _ _ _ ⟨S.r 3 rfl,S.r 2 rfl⟩).mono ?_)
 rintro e w3 ⟨A2,n2,c2,rfl,Q2,bb⟩;refine⟨bb,_,[(A2,n2,c2,limbs x.den)],rfl,(rd_cons Q2 rd_nil),?_⟩
 clear bb S Q2;refine RW.c (i:=3) (args:=#[.agg #[.bool (ng y.num),.slice A' n' c',.slice D' m' d']]) (some 51) hzk.out at3 (hx:=fun _=>by kernel_rfl) (h:=fun _ S=>(hY.out _ _ _ _ _ _ _ ⟨S.r 2 rfl,S.r 1 rfl⟩).mono ?_)
 rintro e w4 ⟨A3,n3,c3,rfl,Q3,bb⟩;refine⟨bb,_,[(A3,n3,c3,limbs y.den)],rfl,(rd_cons Q3 rd_nil),?_⟩
 clear bb S Q3;refine RW.tail hzk.out (by kernel_rfl) ?_
 intro gs w5 hgs hS S;obtain⟨g_b,g_d,rfl⟩:=len2 hgs;clear hS hgs hzk;simp only[mark,fill,List.map,Act.put,sZ0,sZ1,sZ2];replace S:=Lib.hid S;refine Wk.o (i:=6) at6 (by kernel_rfl) fun K' hK=>?_
 have q6_b0:=St.cl (S.out) 0 0 rfl rfl;have q6_b1:=St.cl (S.out) 0 1 rfl rfl;have q6z_b0:=St.f (S.out) 0 0 rfl;have q6z_b1:=St.f (S.out) 0 1 rfl
 go_simp
 have SN:=((S.out.set 0 0 (.bool false) rfl (by nofun)).set 0 1 (.slice A2 n2 c2) rfl (by nofun))
 clear S q6_b0 q6_b1 q6z_b0 q6z_b1;have S:=SN;clear SN;refine hK.out _ _ ⟨(S.cb 6 rfl),(S.cb 5 rfl)⟩ ?_
 clear hK K';replace S:=Lib.hid S
 try simp only[Act.put,sZ0,sZ1,sZ2]
 refine Wk.o (i:=7) at7 (by kernel_rfl) fun K' hK=>?_
 have q7_d0:=St.cl (S.out) 1 0 rfl rfl;have q7_d1:=St.cl (S.out) 1 1 rfl rfl;have q7z_d0:=St.f (S.out) 1 0 rfl;have q7z_d1:=St.f (S.out) 1 1 rfl
 go_simp
 have SN:=((S.out.set 1 0 (.bool false) rfl (by nofun)).set 1 1 (.slice A3 n3 c3) rfl (by nofun))
 clear S q7_d0 q7_d1 q7z_d0 q7z_d1;have S:=SN;clear SN;refine hK.out _ _ ⟨(S.cb 6 rfl),(S.cb 5 rfl)⟩ ?_
 clear hK K';replace S:=Lib.hid S
 try simp only[Act.put,sZ0,sZ1,sZ2]
 refine Wk.done (by kernel_rfl) ?_
 go_simp
 replace S:=S.out;have S:St w _ [(g_b,#[.bool false,.slice A2 n2 c2],31),(g_d,#[.bool false,.slice A3 n3 c3],31),(w1.heap.size+1,#[.int .i64 a2,.int .i64 b2'],116),(w1.heap.size,#[.int .i64 a1,.int .i64 b1'],116),(w.heap.size+1+1,#[.bool false,.slice none 0 0,.slice none 0 0],33),(w.heap.size+1,#[.bool (ng y.num),.slice A' n' c',.slice D' m' d'],33),(w.heap.size,#[.bool (ng x.num),.slice A n c,.slice D 0 d],33)] [(A3,n3,c3,limbs y.den),(A2,n2,c2,limbs x.den),(D',m',d',dn y),(A',n',c',limbs y.num.natAbs),(D,0,d,dn x),(A,n,c,limbs x.num.natAbs)]:=S
 generalize hW6:(World.setCell (World.setCell (World.setCell (World.setCell w5 ⟨g_b,0,none⟩ (.bool false)) ⟨g_b,1,none⟩ (.slice A2 n2 c2)) ⟨g_d,0,none⟩ (.bool false)) ⟨g_d,1,none⟩ (.slice A3 n3 c3))=w6 at S ⊢;clear hW6;replace S:=Lib.hid S;replace S:=S.out;obtain⟨c_b0,c_b1,f_b0,f_b1⟩:=S.cf2 0 rfl;obtain⟨c_d0,c_d1,f_d0,f_d1⟩:=S.cf2 1 rfl;obtain⟨c_t0,c_t1,f_t0,f_t1⟩:=S.cf2 2 rfl;obtain⟨c_s0,c_s1,f_s0,f_s1⟩:=S.cf2 3 rfl
 obtain⟨c_r0,c_r1,c_r2,f_r0,f_r1,f_r2⟩:=S.cf3 4 rfl;obtain⟨c_y0,c_y1,c_y2,f_y0,f_y1,f_y2⟩:=S.cf3 5 rfl;obtain⟨c_x0,c_x1,c_x2,f_x0,f_x1,f_x2⟩:=S.cf3 6 rfl;have hz:g_b<w6.heap.size:=S.lt 0 rfl;replace S:=Lib.hid S;clear hX hY;go_upto_region 7 with fail
 clear c_b0 f_b0 c_b1 f_b1 c_d0 f_d0 c_d1 f_d1 c_t0 f_t0 c_t1 f_t1 c_s0 f_s0 c_s1 f_s1 c_r0 f_r0 c_r1 f_r1 c_r2 f_r2 c_y0 f_y0 c_y1 f_y1 c_y2 f_y2 c_x0 f_x0 c_x1 f_x1 c_x2 f_x2 hz;refine RW.begin (Z:=[⟨8,10,#[.bool false,.slice none 0 0],31⟩,⟨9,11,#[.bool false,.slice none 0 0],31⟩]) (S:=(fun W=>Cb W (w.heap.size) #[.bool (ng x.num),.slice A n c,.slice D 0 d] 33∧Cb W (w.heap.size+1) #[.bool (ng y.num),.slice A' n' c',.slice D' m' d'] 33∧Cb W (g_b) #[.bool false,.slice A2 n2 c2] 31∧Cb W (g_d) #[.bool false,.slice A3 n3 c3] 31)) (by kernel_rfl) ?_ S.out ?_
 ·exact⟨by kernel_rfl,(zis_cons at8 (fun _ _=>by kernel_rfl) (zis_cons at9 (fun _ _=>by kernel_rfl) zis_nil)),by decide,by decide,(nol_cons (noL2 _ _ _ _) (nol_cons (noL2 _ _ _ _) nol_nil)),(fun _ _ h=>⟨h.kb 6 rfl,h.kb 5 rfl,h.kb 0 rfl,h.kb 1 rfl⟩)⟩
 intro hzk;clear S;refine RW.t (i:=0) (v:=.pointer (some ⟨w.heap.size,0,none⟩)) (some 52) at0 (hy:=fun _ _=>by kernel_rfl) (h:=?_)
 refine RW.t (i:=1) (v:=.agg #[.bool (ng x.num),.slice A n c]) (some 53) at1 (hy:=fun W hS=>by (have k0:=Cb.cell (i:=0) hS.1 rfl;have k1:=Cb.cell (i:=1) hS.1 rfl;clear hS;go_simp)) (h:=?_)
 refine RW.t (i:=2) (v:=.agg #[.bool false,.slice A3 n3 c3]) (some 54) at2 (hy:=fun W hS=>by (have k0:=Cb.cell (i:=0) hS.2.2.2 rfl;have k1:=Cb.cell (i:=1) hS.2.2.2 rfl;clear hS;go_simp)) (h:=?_)
 refine RW.t (i:=4) (v:=.pointer (some ⟨w.heap.size+1,0,none⟩)) (some 56) at4 (hy:=fun _ _=>by kernel_rfl) (h:=?_)
 refine RW.t (i:=5) (v:=.agg #[.bool (ng y.num),.slice A' n' c']) (some 57) at5 (hy:=fun W hS=>by (have k0:=Cb.cell (i:=0) hS.2.1 rfl;have k1:=Cb.cell (i:=1) hS.2.1 rfl;clear hS;go_simp)) (h:=?_)
 refine RW.t (i:=6) (v:=.agg #[.bool false,.slice A2 n2 c2]) (some 58) at6 (hy:=fun W hS=>by (have k0:=Cb.cell (i:=0) hS.2.2.1 rfl;have k1:=Cb.cell (i:=1) hS.2.2.1 rfl;clear hS;go_simp)) (h:=?_)
 refine RW.c (i:=3) (args:=#[.agg #[.bool (ng x.num),.slice A n c],.agg #[.bool false,.slice A3 n3 c3]]) (some 55) hzk.out at3 (hx:=fun _=>by kernel_rfl) (h:=fun _ S=>(hF1.out _ _ _ _ _ _ _ (S.r 5 rfl) (S.r 0 rfl)).mono ?_)
 rintro e w7 ⟨A4,n4,c4,rfl,Q4,bb⟩;refine⟨bb,_,[(A4,n4,c4,limbs f)],rfl,(rd_cons Q4 rd_nil),?_⟩
 clear bb S Q4;refine RW.c (i:=7) (args:=#[.agg #[.bool (ng y.num),.slice A' n' c'],.agg #[.bool false,.slice A2 n2 c2]]) (some 59) hzk.out at7 (hx:=fun _=>by kernel_rfl) (h:=fun _ S=>(hF2.out _ _ _ _ _ _ _ (S.r 4 rfl) (S.r 2 rfl)).mono ?_)
 rintro e w8 ⟨A5,n5,c5,rfl,Q5,bb⟩;refine⟨bb,_,[(A5,n5,c5,limbs s)],rfl,(rd_cons Q5 rd_nil),?_⟩
 clear bb S Q5;refine RW.tail hzk.out (by kernel_rfl) ?_
 intro gs w9 hgs hS S;obtain⟨g_f,g_s2,rfl⟩:=len2 hgs;clear hS hgs hzk;simp only[mark,fill,List.map,Act.put,sZ0,sZ1,sZ2];replace S:=Lib.hid S;refine Wk.o (i:=10) at10 (by kernel_rfl) fun K' hK=>?_
 have q10_f0:=St.cl (S.out) 0 0 rfl rfl;have q10_f1:=St.cl (S.out) 0 1 rfl rfl;have q10z_f0:=St.f (S.out) 0 0 rfl;have q10z_f1:=St.f (S.out) 0 1 rfl
 go_simp
 have SN:=((S.out.set 0 0 (.bool false) rfl (by nofun)).set 0 1 (.slice A4 n4 c4) rfl (by nofun))
 clear S q10_f0 q10_f1 q10z_f0 q10z_f1;have S:=SN;clear SN;refine hK.out _ _ ⟨(S.cb 8 rfl),(S.cb 7 rfl),(S.cb 2 rfl),(S.cb 3 rfl)⟩ ?_
 clear hK K';replace S:=Lib.hid S
 try simp only[Act.put,sZ0,sZ1,sZ2]
 refine Wk.o (i:=11) at11 (by kernel_rfl) fun K' hK=>?_
 have q11_s20:=St.cl (S.out) 1 0 rfl rfl;have q11_s21:=St.cl (S.out) 1 1 rfl rfl;have q11z_s20:=St.f (S.out) 1 0 rfl;have q11z_s21:=St.f (S.out) 1 1 rfl
 go_simp
 have SN:=((S.out.set 1 0 (.bool false) rfl (by nofun)).set 1 1 (.slice A5 n5 c5) rfl (by nofun))
 clear S q11_s20 q11_s21 q11z_s20 q11z_s21;have S:=SN;clear SN;refine hK.out _ _ ⟨(S.cb 8 rfl),(S.cb 7 rfl),(S.cb 2 rfl),(S.cb 3 rfl)⟩ ?_
 clear hK K';replace S:=Lib.hid S
 try simp only[Act.put,sZ0,sZ1,sZ2]
 refine Wk.done (by kernel_rfl) ?_
 go_simp
 replace S:=S.out;have S:St w _ [(g_f,#[.bool false,.slice A4 n4 c4],31),(g_s2,#[.bool false,.slice A5 n5 c5],31),(g_b,#[.bool false,.slice A2 n2 c2],31),(g_d,#[.bool false,.slice A3 n3 c3],31),(w1.heap.size+1,#[.int .i64 a2,.int .i64 b2'],116),(w1.heap.size,#[.int .i64 a1,.int .i64 b1'],116),(w.heap.size+1+1,#[.bool false,.slice none 0 0,.slice none 0 0],33),(w.heap.size+1,#[.bool (ng y.num),.slice A' n' c',.slice D' m' d'],33),(w.heap.size,#[.bool (ng x.num),.slice A n c,.slice D 0 d],33)] [(A5,n5,c5,limbs s),(A4,n4,c4,limbs f),(A3,n3,c3,limbs y.den),(A2,n2,c2,limbs x.den),(D',m',d',dn y),(A',n',c',limbs y.num.natAbs),(D,0,d,dn x),(A,n,c,limbs x.num.natAbs)]:=S
 generalize hW10:(World.setCell (World.setCell (World.setCell (World.setCell w9 ⟨g_f,0,none⟩ (.bool false)) ⟨g_f,1,none⟩ (.slice A4 n4 c4)) ⟨g_s2,0,none⟩ (.bool false)) ⟨g_s2,1,none⟩ (.slice A5 n5 c5))=w10 at S ⊢;clear hW10;replace S:=Lib.hid S;replace S:=S.out;obtain⟨c_f0,c_f1,f_f0,f_f1⟩:=S.cf2 0 rfl;obtain⟨c_s20,c_s21,f_s20,f_s21⟩:=S.cf2 1 rfl;obtain⟨c_b0,c_b1,f_b0,f_b1⟩:=S.cf2 2 rfl;obtain⟨c_d0,c_d1,f_d0,f_d1⟩:=S.cf2 3 rfl
 obtain⟨c_t0,c_t1,f_t0,f_t1⟩:=S.cf2 4 rfl;obtain⟨c_s0,c_s1,f_s0,f_s1⟩:=S.cf2 5 rfl;obtain⟨c_r0,c_r1,c_r2,f_r0,f_r1,f_r2⟩:=S.cf3 6 rfl;obtain⟨c_y0,c_y1,c_y2,f_y0,f_y1,f_y2⟩:=S.cf3 7 rfl;obtain⟨c_x0,c_x1,c_x2,f_x0,f_x1,f_x2⟩:=S.cf3 8 rfl;have hz:g_f<w10.heap.size:=S.lt 0 rfl;replace S:=Lib.hid S;clear hF1 hF2;go_upto_region 8 with fail
 clear c_f0 f_f0 c_f1 f_f1 c_s20 f_s20 c_s21 f_s21 c_b0 f_b0 c_b1 f_b1 c_d0 f_d0 c_d1 f_d1 c_t0 f_t0 c_t1 f_t1 c_s0 f_s0 c_s1 f_s1 c_r0 f_r0 c_r1 f_r1 c_r2 f_r2 c_y0 f_y0 c_y1 f_y1 c_y2 f_y2 c_x0 f_x0 c_x1 f_x1 c_x2 f_x2 hz;refine RW.begin (Z:=[⟨9,12,#[.bool false,.slice none 0 0],31⟩]) (S:=(fun W=>Cb W (w.heap.size) #[.bool (ng x.num),.slice A n c,.slice D 0 d] 33∧Cb W (w.heap.size+1) #[.bool (ng y.num),.slice A' n' c',.slice D' m' d'] 33∧Cb W (g_f) #[.bool false,.slice A4 n4 c4] 31∧Cb W (g_s2) #[.bool false,.slice A5 n5 c5] 31)) (by kernel_rfl) ?_ S.out ?_
 ·exact⟨by kernel_rfl,(zis_cons at9 (fun _ _=>by kernel_rfl) zis_nil),by decide,by decide,(nol_cons (noL2 _ _ _ _) nol_nil),(fun _ _ h=>⟨h.kb 8 rfl,h.kb 7 rfl,h.kb 0 rfl,h.kb 1 rfl⟩)⟩
 intro hzk;clear S;refine RW.t (i:=0) (v:=.pointer (some ⟨w.heap.size,0,none⟩)) (some 60) at0 (hy:=fun _ _=>by kernel_rfl) (h:=?_)
 refine RW.t (i:=1) (v:=.agg #[.bool (ng x.num),.slice A n c]) (some 61) at1 (hy:=fun W hS=>by (have k0:=Cb.cell (i:=0) hS.1 rfl;have k1:=Cb.cell (i:=1) hS.1 rfl;clear hS;go_simp)) (h:=?_)
 refine RW.t (i:=2) (v:=.agg #[.bool false,.slice A4 n4 c4]) (some 62) at2 (hy:=fun W hS=>by (have k0:=Cb.cell (i:=0) hS.2.2.1 rfl;have k1:=Cb.cell (i:=1) hS.2.2.1 rfl;clear hS;go_simp)) (h:=?_)
 refine RW.t (i:=4) (v:=.pointer (some ⟨w.heap.size+1,0,none⟩)) (some 64) at4 (hy:=fun _ _=>by kernel_rfl) (h:=?_)
 refine RW.t (i:=5) (v:=.agg #[.bool (ng y.num),.slice A' n' c']) (some 65) at5 (hy:=fun W hS=>by (have k0:=Cb.cell (i:=0) hS.2.1 rfl;have k1:=Cb.cell (i:=1) hS.2.1 rfl;clear hS;go_simp)) (h:=?_)
 refine RW.t (i:=6) (v:=.agg #[.bool false,.slice A5 n5 c5]) (some 66) at6 (hy:=fun W hS=>by (have k0:=Cb.cell (i:=0) hS.2.2.2 rfl;have k1:=Cb.cell (i:=1) hS.2.2.2 rfl;clear hS;go_simp)) (h:=?_)
 refine RW.c (i:=3) (args:=#[.agg #[.bool (ng x.num),.slice A n c],.agg #[.bool false,.slice A4 n4 c4]]) (some 63) hzk.out at3 (hx:=fun _=>by kernel_rfl) (h:=fun _ S=>(hO1.out _ _ _ _ _ _ _ (S.r 7 rfl) (S.r 1 rfl)).mono ?_)
 rintro e w11 ⟨A6,n6,c6,rfl,Q6,bb⟩;refine⟨bb,_,[(A6,n6,c6,limbs z1.natAbs)],rfl,(rd_cons Q6 rd_nil),?_⟩
 clear bb S Q6;refine RW.c (i:=7) (args:=#[.agg #[.bool (ng y.num),.slice A' n' c'],.agg #[.bool false,.slice A5 n5 c5]]) (some 67) hzk.out at7 (hx:=fun _=>by kernel_rfl) (h:=fun _ S=>(hO2.out _ _ _ _ _ _ _ (S.r 6 rfl) (S.r 1 rfl)).mono ?_)
 rintro e w12 ⟨A7,n7,c7,rfl,Q7,bb⟩;refine⟨bb,_,[(A7,n7,c7,limbs z2.natAbs)],rfl,(rd_cons Q7 rd_nil),?_⟩
 clear bb S Q7;refine RW.c (i:=8) (args:=#[.agg #[.bool (ng z1),.slice A6 n6 c6],.agg #[.bool (ng z2),.slice A7 n7 c7]]) (some 68) hzk.out at8 (hx:=fun _=>by kernel_rfl) (h:=fun _ S=>(hM1.out _ _ _ _ _ _ _ (S.r 1 rfl) (S.r 0 rfl)).mono ?_)
 rintro e w13 ⟨A8,n8,c8,rfl,Q8,bb⟩;refine⟨bb,_,[(A8,n8,c8,limbs q.num.natAbs)],rfl,(rd_cons Q8 rd_nil),?_⟩
 clear bb S Q8;refine RW.tail hzk.out (by kernel_rfl) ?_
 intro gs w14 hgs hS S;obtain⟨g_n,rfl⟩:=len1' hgs;clear hS hgs hzk;simp only[mark,fill,List.map,Act.put,sZ0,sZ1,sZ2];replace S:=Lib.hid S;refine Wk.o (i:=10) at10 (by kernel_rfl) fun K' hK=>?_
 have q10_n0:=St.cl (S.out) 0 0 rfl rfl;have q10_n1:=St.cl (S.out) 0 1 rfl rfl;have q10z_n0:=St.f (S.out) 0 0 rfl;have q10z_n1:=St.f (S.out) 0 1 rfl
 go_simp
 have SN:=((S.out.set 0 0 (.bool (ng q.num)) rfl (by nofun)).set 0 1 (.slice A8 n8 c8) rfl (by nofun))
 clear S q10_n0 q10_n1 q10z_n0 q10z_n1;have S:=SN;clear SN;refine hK.out _ _ ⟨(S.cb 9 rfl),(S.cb 8 rfl),(S.cb 1 rfl),(S.cb 2 rfl)⟩ ?_
 clear hK K';replace S:=Lib.hid S
 try simp only[Act.put,sZ0,sZ1,sZ2]
 refine Wk.done (by kernel_rfl) ?_
 go_simp
 replace S:=S.out;have S:St w _ [(g_n,#[.bool (ng q.num),.slice A8 n8 c8],31),(g_f,#[.bool false,.slice A4 n4 c4],31),(g_s2,#[.bool false,.slice A5 n5 c5],31),(g_b,#[.bool false,.slice A2 n2 c2],31),(g_d,#[.bool false,.slice A3 n3 c3],31),(w1.heap.size+1,#[.int .i64 a2,.int .i64 b2'],116),(w1.heap.size,#[.int .i64 a1,.int .i64 b1'],116),(w.heap.size+1+1,#[.bool false,.slice none 0 0,.slice none 0 0],33),(w.heap.size+1,#[.bool (ng y.num),.slice A' n' c',.slice D' m' d'],33),(w.heap.size,#[.bool (ng x.num),.slice A n c,.slice D 0 d],33)] [(A8,n8,c8,limbs q.num.natAbs),(A7,n7,c7,limbs z2.natAbs),(A6,n6,c6,limbs z1.natAbs),(A5,n5,c5,limbs s),(A4,n4,c4,limbs f),(A3,n3,c3,limbs y.den),(A2,n2,c2,limbs x.den),(D',m',d',dn y),(A',n',c',limbs y.num.natAbs),(D,0,d,dn x),(A,n,c,limbs x.num.natAbs)]:=S
 generalize hW15:(World.setCell (World.setCell w14 ⟨g_n,0,none⟩ (.bool (ng q.num))) ⟨g_n,1,none⟩ (.slice A8 n8 c8))=w15 at S ⊢;clear hW15;replace S:=Lib.hid S;replace S:=S.out;obtain⟨c_n0,c_n1,f_n0,f_n1⟩:=S.cf2 0 rfl;obtain⟨c_f0,c_f1,f_f0,f_f1⟩:=S.cf2 1 rfl;obtain⟨c_s20,c_s21,f_s20,f_s21⟩:=S.cf2 2 rfl;obtain⟨c_b0,c_b1,f_b0,f_b1⟩:=S.cf2 3 rfl;obtain⟨c_d0,c_d1,f_d0,f_d1⟩:=S.cf2 4 rfl;obtain⟨c_t0,c_t1,f_t0,f_t1⟩:=S.cf2 5 rfl
 obtain⟨c_s0,c_s1,f_s0,f_s1⟩:=S.cf2 6 rfl;obtain⟨c_r0,c_r1,c_r2,f_r0,f_r1,f_r2⟩:=S.cf3 7 rfl;obtain⟨c_y0,c_y1,c_y2,f_y0,f_y1,f_y2⟩:=S.cf3 8 rfl;obtain⟨c_x0,c_x1,c_x2,f_x0,f_x1,f_x2⟩:=S.cf3 9 rfl;have hz:g_n<w15.heap.size:=S.lt 0 rfl;replace S:=Lib.hid S;clear hO1 hO2 hM1;go_upto_region 9 with fail
 clear c_n0 f_n0 c_n1 f_n1 c_f0 f_f0 c_f1 f_f1 c_s20 f_s20 c_s21 f_s21 c_b0 f_b0 c_b1 f_b1 c_d0 f_d0 c_d1 f_d1 c_t0 f_t0 c_t1 f_t1 c_s0 f_s0 c_s1 f_s1 c_r0 f_r0 c_r1 f_r1 c_r2 f_r2 c_y0 f_y0 c_y1 f_y1 c_y2 f_y2 c_x0 f_x0 c_x1 f_x1 c_x2 f_x2 hz;refine RW.begin (Z:=[]) (S:=(fun W=>Cb W (g_b) #[.bool false,.slice A2 n2 c2] 31∧Cb W (g_d) #[.bool false,.slice A3 n3 c3] 31∧Cb W (g_f) #[.bool false,.slice A4 n4 c4] 31∧Cb W (g_s2) #[.bool false,.slice A5 n5 c5] 31∧Cb W (g_n) #[.bool (ng q.num),.slice A8 n8 c8] 31)) (by kernel_rfl) ?_ S.out ?_
 ·exact⟨by kernel_rfl,zis_nil,by decide,by decide,nol_nil,(fun _ _ h=>⟨h.kb 3 rfl,h.kb 4 rfl,h.kb 1 rfl,h.kb 2 rfl,h.kb 0 rfl⟩)⟩
 intro hzk;clear S;refine RW.t (i:=0) (v:=.agg #[.bool (ng q.num),.slice A8 n8 c8]) (some 69) at0 (hy:=fun W hS=>by (have k0:=Cb.cell (i:=0) hS.2.2.2.2 rfl;have k1:=Cb.cell (i:=1) hS.2.2.2.2 rfl;clear hS;go_simp)) (h:=?_)
 refine RW.t (i:=1) (v:=.agg #[.bool false,.slice A2 n2 c2]) (some 70) at1 (hy:=fun W hS=>by (have k0:=Cb.cell (i:=0) hS.1 rfl;have k1:=Cb.cell (i:=1) hS.1 rfl;clear hS;go_simp)) (h:=?_)
 refine RW.t (i:=2) (v:=.agg #[.bool false,.slice A5 n5 c5]) (some 71) at2 (hy:=fun W hS=>by (have k0:=Cb.cell (i:=0) hS.2.2.2.1 rfl;have k1:=Cb.cell (i:=1) hS.2.2.2.1 rfl;clear hS;go_simp)) (h:=?_)
 refine RW.t (i:=4) (v:=.agg #[.bool false,.slice A3 n3 c3]) (some 73) at4 (hy:=fun W hS=>by (have k0:=Cb.cell (i:=0) hS.2.1 rfl;have k1:=Cb.cell (i:=1) hS.2.1 rfl;clear hS;go_simp)) (h:=?_)
 refine RW.t (i:=5) (v:=.agg #[.bool false,.slice A4 n4 c4]) (some 74) at5 (hy:=fun W hS=>by (have k0:=Cb.cell (i:=0) hS.2.2.1 rfl;have k1:=Cb.cell (i:=1) hS.2.2.1 rfl;clear hS;go_simp)) (h:=?_)
 refine RW.c (i:=3) (args:=#[.agg #[.bool false,.slice A2 n2 c2],.agg #[.bool false,.slice A5 n5 c5]]) (some 72) hzk.out at3 (hx:=fun _=>by kernel_rfl) (h:=fun _ S=>(hO3.out _ _ _ _ _ _ _ (S.r 6 rfl) (S.r 3 rfl)).mono ?_)
 rintro e w16 ⟨A9,n9,c9,rfl,Q9,bb⟩;refine⟨bb,_,[(A9,n9,c9,limbs b1)],rfl,(rd_cons Q9 rd_nil),?_⟩
 clear bb S Q9;refine RW.c (i:=6) (args:=#[.agg #[.bool false,.slice A3 n3 c3],.agg #[.bool false,.slice A4 n4 c4]]) (some 75) hzk.out at6 (hx:=fun _=>by kernel_rfl) (h:=fun _ S=>(hO4.out _ _ _ _ _ _ _ (S.r 6 rfl) (S.r 5 rfl)).mono ?_)
 rintro e w17 ⟨A10,n10,c10,rfl,Q10,bb⟩;refine⟨bb,_,[(A10,n10,c10,limbs d1)],rfl,(rd_cons Q10 rd_nil),?_⟩
 clear bb S Q10;refine RW.c (i:=7) (args:=#[.agg #[.bool false,.slice A9 n9 c9],.agg #[.bool false,.slice A10 n10 c10]]) (some 76) hzk.out at7 (hx:=fun _=>by kernel_rfl) (h:=fun _ S=>(hM2.out _ _ _ _ _ _ _ (S.r 1 rfl) (S.r 0 rfl)).mono ?_)
 rintro e w18 ⟨A11,n11,c11,rfl,Q11,bb⟩;refine⟨bb,_,[(A11,n11,c11,limbs q.den)],rfl,(rd_cons Q11 rd_nil),?_⟩
 clear bb S Q11;refine RW.c (i:=8) (args:=#[.agg #[.bool (ng q.num),.slice A8 n8 c8],.agg #[.bool false,.slice A11 n11 c11]]) (some 77) hzk.out at8 (hx:=fun _=>by kernel_rfl) (h:=fun _ S=>(hF.out _ _ _ _ _ _ _ (S.r 3 rfl) (S.r 0 rfl)).mono ?_)
 rintro e w19 ⟨A14,n14,c14,D14,m14,d14,rfl,Q14,bb⟩;refine⟨bb,_,[(D14,m14,d14,dn q),(A14,n14,c14,limbs q.num.natAbs)],rfl,(rd_cons Q14.d (rd_cons Q14.n rd_nil)),?_⟩
 clear bb S Q14;refine RW.tail hzk.out (by kernel_rfl) ?_
 intro gs w20 hgs hS S;obtain rfl:=len0 hgs;clear hS hgs hzk;simp only[mark,fill,Act.put,sZ0,sZ1,sZ2];replace S:=Lib.hid S;refine Wk.o (i:=9) at9 (by kernel_rfl) fun K' hK=>?_
 have q9_r0:=St.cl (S.out) 7 0 rfl rfl;have q9_r1:=St.cl (S.out) 7 1 rfl rfl;have q9_r2:=St.cl (S.out) 7 2 rfl rfl;have q9z_r0:=St.f (S.out) 7 0 rfl;have q9z_r1:=St.f (S.out) 7 1 rfl;have q9z_r2:=St.f (S.out) 7 2 rfl
 go_simp
 have SN:=(((S.out.set 7 0 (.bool (ng q.num)) rfl (by nofun)).set 7 1 (.slice A14 n14 c14) rfl (by nofun)).set 7 2 (.slice D14 m14 d14) rfl (by nofun))
 clear S q9_r0 q9_r1 q9_r2 q9z_r0 q9z_r1 q9z_r2;have S:=SN;clear SN;refine hK.out _ _ ⟨(S.cb 3 rfl),(S.cb 4 rfl),(S.cb 1 rfl),(S.cb 2 rfl),(S.cb 0 rfl)⟩ ?_
 clear hK K';replace S:=Lib.hid S
 try simp only[Act.put,sZ0,sZ1,sZ2]
 refine Wk.done (by kernel_rfl) ?_
 go_simp
 replace S:=S.out;have S:St w _ [(g_n,#[.bool (ng q.num),.slice A8 n8 c8],31),(g_f,#[.bool false,.slice A4 n4 c4],31),(g_s2,#[.bool false,.slice A5 n5 c5],31),(g_b,#[.bool false,.slice A2 n2 c2],31),(g_d,#[.bool false,.slice A3 n3 c3],31),(w1.heap.size+1,#[.int .i64 a2,.int .i64 b2'],116),(w1.heap.size,#[.int .i64 a1,.int .i64 b1'],116),(w.heap.size+1+1,#[.bool (ng q.num),.slice A14 n14 c14,.slice D14 m14 d14],33),(w.heap.size+1,#[.bool (ng y.num),.slice A' n' c',.slice D' m' d'],33),(w.heap.size,#[.bool (ng x.num),.slice A n c,.slice D 0 d],33)] [(D14,m14,d14,dn q),(A14,n14,c14,limbs q.num.natAbs),(A11,n11,c11,limbs q.den),(A10,n10,c10,limbs d1),(A9,n9,c9,limbs b1),(A8,n8,c8,limbs q.num.natAbs),(A7,n7,c7,limbs z2.natAbs),(A6,n6,c6,limbs z1.natAbs),(A5,n5,c5,limbs s),(A4,n4,c4,limbs f),(A3,n3,c3,limbs y.den),(A2,n2,c2,limbs x.den),(D',m',d',dn y),(A',n',c',limbs y.num.natAbs),(D,0,d,dn x),(A,n,c,limbs x.num.natAbs)]:=S
 generalize hW21:(World.setCell (World.setCell (World.setCell w20 ⟨w.heap.size+1+1,0,none⟩ (.bool (ng q.num))) ⟨w.heap.size+1+1,1,none⟩ (.slice A14 n14 c14)) ⟨w.heap.size+1+1,2,none⟩ (.slice D14 m14 d14))=w21 at S ⊢;clear hW21;replace S:=Lib.hid S;replace S:=S.out;obtain⟨c_n0,c_n1,f_n0,f_n1⟩:=S.cf2 0 rfl;obtain⟨c_f0,c_f1,f_f0,f_f1⟩:=S.cf2 1 rfl;obtain⟨c_s20,c_s21,f_s20,f_s21⟩:=S.cf2 2 rfl;obtain⟨c_b0,c_b1,f_b0,f_b1⟩:=S.cf2 3 rfl
 obtain⟨c_d0,c_d1,f_d0,f_d1⟩:=S.cf2 4 rfl;obtain⟨c_t0,c_t1,f_t0,f_t1⟩:=S.cf2 5 rfl;obtain⟨c_s0,c_s1,f_s0,f_s1⟩:=S.cf2 6 rfl;obtain⟨c_r0,c_r1,c_r2,f_r0,f_r1,f_r2⟩:=S.cf3 7 rfl;obtain⟨c_y0,c_y1,c_y2,f_y0,f_y1,f_y2⟩:=S.cf3 8 rfl;obtain⟨c_x0,c_x1,c_x2,f_x0,f_x1,f_x2⟩:=S.cf3 9 rfl;have hz:g_n<w21.heap.size:=S.lt 0 rfl;replace S:=Lib.hid S;have S:=S.out;replace S:=Lib.hid S;go_wp2;refine bodyPost_ret (res_product _ _ (w.heap.size+1+1) 33 rfl (S.out.bk _ (List.mem_of_getElem? (i:=7) rfl)).1) rfl ?_
 exact⟨_,_,_,_,_,_,rfl,⟨S.out.r 1 rfl,S.out.r 0 rfl⟩,S.out.bel⟩
theorem product_any (x y:Rat) (A:Option Addr) (n c:Nat) (D:Option Addr) (m d:Nat) (A':Option Addr) (n' c':Nat) (D':Option Addr) (m' d':Nat) (w:World) (X:RR w A n c D m d x) (Y:RR w A' n' c' D' m' d' y) (hx:Rs x 20000000) (hy:Rs y 20000000):Calls Tryz.prog 84 #[.agg #[.bool (ng x.num),.slice A n c,.slice D m d],.agg #[.bool (ng y.num),.slice A' n' c',.slice D' m' d']] w (RetR (x*y) w):=by
 obtain⟨l1,l2⟩:=X.lens hx;obtain⟨l3,l4⟩:=Y.lens hy
 cases hs:(shq x&&shq y)
 ·by_cases h:m=0
  ·subst h
   by_cases h':m'=0
   ·subst h';exact product_int x y A n c D d A' n' c' D' d' w X Y hs (by omega) (by omega)
   ·exact product_long0 x y A n c D d A' n' c' D' m' d' w X Y hs hx hy h'
  ·exact product_long x y A n c D m d A' n' c' D' m' d' w X Y hs hx hy h
 ·exact product_short x y A n c D m d A' n' c' D' m' d' w X Y hs
theorem res_inverse (W:World) (tmps:Array Value) (g t:Nat) {v0 v1 v2:Value} (ht:tmps.getD 2 undef=.pointer (some ⟨g,0,none⟩)) (h:Cb W g #[v0,v1,v2] t) :
  (results Tryz.f90 tmps).run Tryz.prog W=.ok (.agg #[v0,v1,v2]) W:=by
 have c0:W.cell? ⟨g,0,none⟩=some v0:=h.cell rfl;have c1:W.cell? ⟨g,1,none⟩=some v1:=h.cell rfl;have c2:W.cell? ⟨g,2,none⟩=some v2:=h.cell rfl;have ht':tmps[2]?.getD undef=.pointer (some ⟨g,0,none⟩):=by rw[←ht];simp[Array.getD_eq_getD_getElem?]
 simp[results,Tryz.results90,go_sem,ht',c0,c1,c2]
theorem inverse_any (x:Rat) (A:Option Addr) (n c:Nat) (D:Option Addr) (m d:Nat) (w:World) (X:RR w A n c D m d x) (h0:x≠0) :
  Calls Tryz.prog 90 #[.agg #[.bool (ng x.num),.slice A n c,.slice D m d]] w (RetR x⁻¹ w):=by
 have R1:=X.n;have R2:=X.d;obtain⟨i1,i2,i3⟩:=inv_parts h0;have i2:ng x.num=ng (x⁻¹).num:=by unfold ng;exact decide_eq_decide.2 i2.symm
 have hX:=Lib.hid (den_u x);have hF:=Lib.hid (fun A n c D m d W h h'=>fraction_any x⁻¹ A n c D m d W h h')
 generalize x⁻¹=q at *;replace i1:=Lib.hid i1;replace i2:=Lib.hid i2;replace i3:=Lib.hid i3;have S:=(((((St.new w).read R1).read R2).allocAt (w.heap.size) #[.bool (ng x.num),.slice A n c,.slice D m d] 33 (noL3 _ _ _ _ _ _ _) (by simp)).allocAt (w.heap.size+1) #[.bool false,.slice none 0 0,.slice none 0 0] 33 (noL3 _ _ _ _ _ _ _) (by simp))
 replace S:=Lib.hid S;clear X R1 R2 h0;go_enter Tryz.func90,Tryz.ntmps90
 go_wp2_with fail
 refine (hX.out _ _ _ _ _ _ _ ⟨S.out.r 1 rfl,S.out.r 0 rfl⟩).mono ?_
 rintro e w1 ⟨A2,n2,c2,rfl,Q2,bb⟩;have T:=((S.out.call bb).read Q2);clear bb S;have S:=T;clear T;obtain⟨c_r0,c_r1,c_r2,f_r0,f_r1,f_r2⟩:=S.cf3 0 rfl;obtain⟨c_x0,c_x1,c_x2,f_x0,f_x1,f_x2⟩:=S.cf3 1 rfl;have hz:w.heap.size+1<w1.heap.size:=S.lt 0 rfl;replace S:=Lib.hid S;clear Q2;have SZ:Hid (St w _ [(w1.heap.size,#[.bool false,.slice A2 n2 c2],31),(w.heap.size+1,#[.bool false,.slice none 0 0,.slice none 0 0],33),(w.heap.size,#[.bool (ng x.num),.slice A n c,.slice D m d],33)] [(A2,n2,c2,limbs x.den),(D,m,d,dn x),(A,n,c,limbs x.num.natAbs)]):=Lib.hid (S.out.allocAt (w1.heap.size) #[.bool false,.slice A2 n2 c2] 31 (noL2 _ _ _ _) (by simp))
 obtain⟨a_x0,a_x1,a_x2,b_x0,b_x1,b_x2⟩:=SZ.out.cf3 2 rfl;have S:=(S.out.allocAt (w1.heap.size) #[.bool (ng x.num),.slice A2 n2 c2] 31 (noL2 _ _ _ _) (by simp))
 obtain⟨a_x0,a_x1,a_x2,b_x0,b_x1,b_x2⟩:=S.cf3 2 rfl;replace S:=Lib.hid S;have hF':Hid (∀ W,Rd W A2 n2 c2 (limbs x.den)→Rd W A n c (limbs x.num.natAbs)→Calls Tryz.prog 110 #[.agg #[.bool (ng x.num),.slice A2 n2 c2],.agg #[.bool false,.slice A n c]] W (RetR q W)):=Lib.hid fun W h h'=>by rw[i2.out];exact hF.out _ _ _ _ _ _ W (by rw[i1.out];exact h) (by rw[i3.out];exact h')
 clear hF hX i1 i2 i3 SZ
 go_wp2_with fail
 refine (hF'.out _ (S.out.r 0 rfl) (S.out.r 2 rfl)).mono ?_
 rintro e w2 ⟨A4,n4,c4,D4,m4,d4,rfl,Q4,bb⟩;have T:=(((S.out.call bb).read Q4.n).read Q4.d);clear bb S c_r0 f_r0 c_r1 f_r1 c_r2 f_r2 c_x0 f_x0 c_x1 f_x1 c_x2 f_x2 hz a_x0 b_x0 a_x1 b_x1 a_x2 b_x2;have S:=T;clear T;obtain⟨c_n0,c_n1,f_n0,f_n1⟩:=S.cf2 0 rfl;obtain⟨c_r0,c_r1,c_r2,f_r0,f_r1,f_r2⟩:=S.cf3 1 rfl;obtain⟨c_x0,c_x1,c_x2,f_x0,f_x1,f_x2⟩:=S.cf3 2 rfl;have hz:w1.heap.size<w2.heap.size:=S.lt 0 rfl
 replace S:=Lib.hid S;clear Q4;have S:St w _ [(w1.heap.size,#[.bool (ng x.num),.slice A2 n2 c2],31),(w.heap.size+1,#[.bool (ng q.num),.slice A4 n4 c4,.slice D4 m4 d4],33),(w.heap.size,#[.bool (ng x.num),.slice A n c,.slice D m d],33)] [(D4,m4,d4,dn q),(A4,n4,c4,limbs q.num.natAbs),(A2,n2,c2,limbs x.den),(D,m,d,dn x),(A,n,c,limbs x.num.natAbs)]:=(((S.out.set 1 0 (.bool (ng q.num)) rfl (by nofun)).set 1 1 (.slice A4 n4 c4) rfl (by nofun)).set 1 2 (.slice D4 m4 d4) rfl (by nofun))
 replace S:=Lib.hid S;go_wp2;refine bodyPost_ret (res_inverse _ _ (w.heap.size+1) 33 rfl (S.out.bk _ (List.mem_of_getElem? (i:=1) rfl)).1) rfl ?_
 exact⟨_,_,_,_,_,_,rfl,⟨S.out.r 1 rfl,S.out.r 0 rfl⟩,S.out.bel⟩
end Go.Proofs.YthlinhconnmbcaaGreat
