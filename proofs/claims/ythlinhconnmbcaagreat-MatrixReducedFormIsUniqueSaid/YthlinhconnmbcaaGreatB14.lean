/- The reference's Neg, Add, Sub, Compare, Mul, Quo, Div, Floor, Abs, FromInt of rational. -/
import Derived.Test.YthlinhconnmbcaaGreatB13
import Derived.Test.YthlinhconnmbcaaGreatB07
import Derived.Test.YthlinhconnmbcaaGreatB08
import Derived.Test.YthlinhconnmbcaaGreatB05
import Derived.Test.YthlinhconnmbcaaGreatB04
set_option maxRecDepth 100000
set_option maxHeartbeats 40000000
set_option linter.unusedVariables false
namespace Go.Proofs.YthlinhconnmbcaaGreat
open Go.RowKit RQ
theorem rmul_iu {z:Int} {g:Nat} (h1:(limbs z.natAbs).length≤50000000) (h2:(limbs g).length≤50000000) (W:World) (A:Option Addr) (n c:Nat) (A':Option Addr) (n' c':Nat) (q1:Rd W A n c (limbs z.natAbs)) (q2:Rd W A' n' c' (limbs g)) :
  Calls Tryz.prog 46 #[.agg #[.bool (ng z),.slice A n c],.agg #[.bool false,.slice A' n' c']] W (RetI (z*(g:Int)) W):=by
 have:=rmulI_any (ng z) A n c _ false A' n' c' _ W q1 q2 (by rw[←q1.len];exact h1) (by rw[←q2.len];exact h2)
 rwa [iv_z,iv_pos] at this
theorem rmul_uu {P g:Nat} (h1:(limbs P).length≤50000000) (h2:(limbs g).length≤50000000) (W:World) (A:Option Addr) (n c:Nat) (A':Option Addr) (n' c':Nat) (q1:Rd W A n c (limbs P)) (q2:Rd W A' n' c' (limbs g)) :
  Calls Tryz.prog 46 #[.agg #[.bool false,.slice A n c],.agg #[.bool false,.slice A' n' c']] W (RetI ((P:Int)*(g:Int)) W):=by
 have:=rmulI_any false A n c _ false A' n' c' _ W q1 q2 (by rw[←q1.len];exact h1) (by rw[←q2.len];exact h2)
 rwa [iv_pos,iv_pos] at this
theorem rmul_ii {z y:Int} (h1:(limbs z.natAbs).length≤50000000) (h2:(limbs y.natAbs).length≤50000000) (W:World) (A:Option Addr) (n c:Nat) (A':Option Addr) (n' c':Nat) (q1:Rd W A n c (limbs z.natAbs)) (q2:Rd W A' n' c' (limbs y.natAbs)) :
  Calls Tryz.prog 46 #[.agg #[.bool (ng z),.slice A n c],.agg #[.bool (ng y),.slice A' n' c']] W (RetI (z*y) W):=by
 have:=rmulI_any (ng z) A n c _ (ng y) A' n' c' _ W q1 q2 (by rw[←q1.len];exact h1) (by rw[←q2.len];exact h2)
 rwa [iv_z,iv_z] at this
theorem radd_ii {z y:Int} (h1:(limbs z.natAbs).length≤50000000) (h2:(limbs y.natAbs).length≤50000000) (W:World) (A:Option Addr) (n c:Nat) (A':Option Addr) (n' c':Nat) (q1:Rd W A n c (limbs z.natAbs)) (q2:Rd W A' n' c' (limbs y.natAbs)) :
  Calls Tryz.prog 103 #[.agg #[.bool (ng z),.slice A n c],.agg #[.bool (ng y),.slice A' n' c']] W (RetI (z+y) W):=by
 have:=raddI_any (ng z) A n c _ (ng y) A' n' c' _ W q1 q2 (by rw[←q1.len];exact h1) (by rw[←q2.len];exact h2)
 rwa [iv_z,iv_z] at this
theorem rover_ii {u v:Int} (h1:(limbs u.natAbs).length≤40000000) (h2:(limbs v.natAbs).length≤40000000) (hv:v≠0) (W:World) (A:Option Addr) (n c:Nat) (A':Option Addr) (n' c':Nat) (q1:Rd W A n c (limbs u.natAbs)) (q2:Rd W A' n' c' (limbs v.natAbs)) :
  Calls Tryz.prog 45 #[.agg #[.bool (ng u),.slice A n c],.agg #[.bool (ng v),.slice A' n' c']] W (RetR (Rat.divInt u v) W):=
 rover_any u v A n c A' n' c' W q1 q2 (by rw[←q1.len];exact h1) (by rw[←q2.len];exact h2) hv
theorem rden_u (x:Rat) (hs:Rs x 20000000) (W:World) (A:Option Addr) (n c:Nat) (D:Option Addr) (m d:Nat) (R:RR W A n c D m d x) :
  Calls Tryz.prog 47 #[.agg #[.bool (ng x.num),.slice A n c,.slice D m d]] W (RetU x.den W):=by
 have:=R.lens hs;exact rden_any x A n c D m d W R (by omega)
theorem rsignQ2 (q:Rat) (A:Option Addr) (n c:Nat) (D:Option Addr) (m d:Nat) (W:World) (h:RR W A n c D m d q) (hs:Rs q 19800001):Calls Tryz.prog 16 #[.agg #[.bool (ng q.num),.slice A n c,.slice D m d]] W (fun e w'=>e=.returned (.int .i64 q.num.sign)∧Below W.heap.size W w'):=by
 have l:=h.lens hs;have:=rsignR_any (ng q.num) A n c _ D m d _ W h.n h.d (by omega) (by omega)
 rwa [rv_z] at this
theorem nat_abs_len {g p:Nat} (h:(limbs g).length≤p):(limbs ((g:Int)).natAbs).length≤p:=by rwa [Int.natAbs_natCast]
theorem res_rAdd (W:World) (tmps:Array Value) (g t:Nat) {v0 v1 v2:Value} (ht:tmps.getD 4 undef=.pointer (some ⟨g,0,none⟩)) (h:Cb W g #[v0,v1,v2] t) :
  (results Tryz.f83 tmps).run Tryz.prog W=.ok (.agg #[v0,v1,v2]) W:=by
 have c0:W.cell? ⟨g,0,none⟩=some v0:=h.cell rfl;have c1:W.cell? ⟨g,1,none⟩=some v1:=h.cell rfl;have c2:W.cell? ⟨g,2,none⟩=some v2:=h.cell rfl;have ht':tmps[4]?.getD undef=.pointer (some ⟨g,0,none⟩):=by rw[←ht];simp[Array.getD_eq_getD_getElem?]
 simp[results,Tryz.results83,go_sem,ht',c0,c1,c2]
theorem Fadd_any (b:Bool) (A:Option Addr) (n c:Nat) (xs:List Nat) (D:Option Addr) (m d:Nat) (ds:List Nat) (b':Bool) (A':Option Addr) (n' c':Nat) (ys:List Nat) (D':Option Addr) (m' d':Nat) (es:List Nat) (w:World) (R1:Rd w A n c xs) (R2:Rd w D m d ds) (R3:Rd w A' n' c' ys) (R4:Rd w D' m' d' es) (hn:n≤9900000) (hm:m≤9900000) (hn':n'≤9900000) (hm':m'≤9900000):Calls Tryz.prog 83 #[.agg #[.bool b,.slice A n c,.slice D m d],.agg #[.bool b',.slice A' n' c',.slice D' m' d']] w (RetR (rv b xs ds+rv b' ys es) w):=by
 have h1:Rs (rv b xs ds) 9900000:=Rs.of R1.sm R2.sm (Nat.le_trans (Nat.le_of_eq R1.len) hn) (Nat.le_trans (Nat.le_of_eq R2.len) hm) (by decide)
 have h2:Rs (rv b' ys es) 9900000:=Rs.of R3.sm R4.sm (Nat.le_trans (Nat.le_of_eq R3.len) hn') (Nat.le_trans (Nat.le_of_eq R4.len) hm') (by decide)
 have hK1:=fun W h h'=>rtakeR_any b A n c xs D m d ds W h h' (by omega) (by omega)
 have hK2:=fun W h h'=>rtakeR_any b' A' n' c' ys D' m' d' es W h h' (by omega) (by omega)
 generalize rv b xs ds=x at *;generalize rv b' ys es=y at *;have kx:(limbs x.num.natAbs).length≤9900000:=limbs_len_le.2 h1.n;have ky:(limbs y.num.natAbs).length≤9900000:=limbs_len_le.2 h2.n;have kp:(limbs x.den).length≤9900000:=limbs_len_le.2 h1.d;have kq:(limbs y.den).length≤9900000:=limbs_len_le.2 h2.d;have hX:=Lib.hid (rden_u x (h1.mono (by decide)))
 have hY:=Lib.hid (rden_u y (h2.mono (by decide)))
 obtain⟨z1,e1⟩:∃ z1:Int,z1=x.num*(y.den:Int):=⟨_,rfl⟩;obtain⟨z2,e2⟩:∃ z2:Int,z2=y.num*(x.den:Int):=⟨_,rfl⟩;obtain⟨zn,e3⟩:∃ zn:Int,zn=z1+z2:=⟨_,rfl⟩;obtain⟨zd,e4⟩:∃ zd:Int,zd=(x.den:Int)*(y.den:Int):=⟨_,rfl⟩;have k1:(limbs z1.natAbs).length≤19800000:=by rw[e1];exact mulI_len2 kx (nat_abs_len kq)
 have k2:(limbs z2.natAbs).length≤19800000:=by rw[e2];exact mulI_len2 ky (nat_abs_len kp)
 have k3:(limbs zn.natAbs).length≤19800001:=by rw[e3];exact addI_len2 k1 k2
 have k4:(limbs zd.natAbs).length≤19800000:=by rw[e4];exact mulI_len2 (nat_abs_len kp) (nat_abs_len kq)
 have hM1:=Lib.hid (rmul_iu (z:=x.num) (g:=y.den) (by omega) (by omega))
 have hM2:=Lib.hid (rmul_iu (z:=y.num) (g:=x.den) (by omega) (by omega))
 have hA:=Lib.hid (radd_ii (z:=z1) (y:=z2) (by omega) (by omega))
 have hM3:=Lib.hid (rmul_uu (P:=x.den) (g:=y.den) (by omega) (by omega))
 have hO:=Lib.hid (rover_ii (u:=zn) (v:=zd) (by omega) (by omega) (by rw[e4];have:=den_mul_pos x y;omega))
 rw[←e1] at hM1;rw[←e2] at hM2;rw[←e3] at hA;rw[←e4] at hM3;rw[show Rat.divInt zn zd=x+y by rw[e3,e4,e1,e2,←add_eq]] at hO
 generalize x+y=q at *;clear e1 e2 e3 e4 k1 k2 k3 k4;replace hK1:=Lib.hid hK1;replace hK2:=Lib.hid hK2;have S:=((((((((St.new w).read R1).read R2).read R3).read R4).allocAt (w.heap.size) #[.bool b,.slice A n c,.slice D m d] 33 (noL3 _ _ _ _ _ _ _) (by simp)).allocAt (w.heap.size+1) #[.bool b',.slice A' n' c',.slice D' m' d'] 33 (noL3 _ _ _ _ _ _ _) (by simp)).allocAt (w.heap.size+1+1) #[.bool false,.slice none 0 0,.slice none 0 0] 33 (noL3 _ _ _ _ _ _ _) (by simp))
 replace S:=Lib.hid S;clear R1 R2 R3 R4 hn hm hn' hm' h1 h2 kx ky kp kq;go_enter Tryz.func83,Tryz.ntmps83;go_upto_region 1 with fail
 have S:=S.out;generalize hW1:(World.alloc (World.alloc (World.alloc w (.cells #[.bool b,.slice A n c,.slice D m d] 33)) (.cells #[.bool b',.slice A' n' c',.slice D' m' d'] 33)) (.cells #[.bool false,.slice none 0 0,.slice none 0 0] 33))=w1 at S ⊢;clear hW1;replace S:=Lib.hid S;have d_x0:=St.cl (S.out) 2 0 rfl rfl;have d_x1:=St.cl (S.out) 2 1 rfl rfl;have d_x2:=St.cl (S.out) 2 2 rfl rfl;have d_y0:=St.cl (S.out) 1 0 rfl rfl
 have d_y1:=St.cl (S.out) 1 1 rfl rfl;have d_y2:=St.cl (S.out) 1 2 rfl rfl;have dz_x0:=St.f (S.out) 2 0 rfl;have dz_x1:=St.f (S.out) 2 1 rfl;have dz_x2:=St.f (S.out) 2 2 rfl;have dz_y0:=St.f (S.out) 1 0 rfl;have dz_y1:=St.f (S.out) 1 1 rfl;have dz_y2:=St.f (S.out) 1 2 rfl
 go_cut [] (fun wx=>∃ A1 n1 c1 D1 m1 d1 A2 n2 c2 D2 m2 d2,St w wx [(w.heap.size+1+1,#[.bool false,.slice none 0 0,.slice none 0 0],33),(w.heap.size+1,#[.bool (ng y.num),.slice A2 n2 c2,.slice D2 m2 d2],33),(w.heap.size,#[.bool (ng x.num),.slice A1 n1 c1,.slice D1 m1 d1],33)] [(D2,m2,d2,dn y),(A2,n2,c2,limbs y.num.natAbs),(D1,m1,d1,dn x),(A1,n1,c1,limbs x.num.natAbs),(D',m',d',es),(A',n',c',ys),(D,m,d,ds),(A,n,c,xs)])
 case first=>
  have SD:=Lib.hid (S.out.drew)
  go_region_with (first
   | (go_at_call_of 44 (Value.agg #[.bool b,.slice A n c,.slice D m d]);refine (hK1.out _ (SD.out.r 3 rfl) (SD.out.r 2 rfl)).mono ?_;rintro e w2 ⟨A1,n1,c1,D1,m1,d1,rfl,Q1,bb0⟩;have S0:St w w2 [(w.heap.size+1+1,#[.bool false,.slice none 0 0,.slice none 0 0],33),(w.heap.size+1,#[.bool b',.slice A' n' c',.slice D' m' d'],33),(w.heap.size,#[.bool b,.slice A n c,.slice D m d],33)] [(D1,m1,d1,dn x),(A1,n1,c1,limbs x.num.natAbs),(D',m',d',es),(A',n',c',ys),(D,m,d,ds),(A,n,c,xs)]:=(((SD.out.call bb0).read Q1.n).read Q1.d);have e0_y0:=St.cl (S0) 1 0 rfl rfl;have e0_y1:=St.cl (S0) 1 1 rfl rfl;have e0_y2:=St.cl (S0) 1 2 rfl rfl)
   | (go_at_call_of 44 (Value.agg #[.bool b',.slice A' n' c',.slice D' m' d']);refine (hK2.out _ (S0.r 3 rfl) (S0.r 2 rfl)).mono ?_;rintro e w3 ⟨A2,n2,c2,D2,m2,d2,rfl,Q2,bb1⟩;have S1:St w w3 [(w.heap.size+1+1,#[.bool false,.slice none 0 0,.slice none 0 0],33),(w.heap.size+1,#[.bool b',.slice A' n' c',.slice D' m' d'],33),(w.heap.size,#[.bool b,.slice A n c,.slice D m d],33)] [(D2,m2,d2,dn y),(A2,n2,c2,limbs y.num.natAbs),(D1,m1,d1,dn x),(A1,n1,c1,limbs x.num.natAbs),(D',m',d',es),(A',n',c',ys),(D,m,d,ds),(A,n,c,xs)]:=(((S0.call bb1).read Q2.n).read Q2.d);have e1_x0:=St.cl (S1) 2 0 rfl rfl;have e1_x1:=St.cl (S1) 2 1 rfl rfl;have e1_x2:=St.cl (S1) 2 2 rfl rfl;have e1_y0:=St.cl (S1) 1 0 rfl rfl;have e1_y1:=St.cl (S1) 1 1 rfl rfl;have e1_y2:=St.cl (S1) 1 2 rfl rfl;have e1z_x0:=St.f (S1) 2 0 rfl;have e1z_x1:=St.f (S1) 2 1 rfl;have e1z_x2:=St.f (S1) 2 2 rfl;have e1z_y0:=St.f (S1) 1 0 rfl;have e1z_y1:=St.f (S1) 1 1 rfl;have e1z_y2:=St.f (S1) 1 2 rfl))
  all_goals
   have SE:=Lib.hid (((((((S1.set 2 0 (.bool (ng x.num)) rfl (by nofun)).set 2 1 (.slice A1 n1 c1) rfl (by nofun)).set 2 2 (.slice D1 m1 d1) rfl (by nofun)).set 1 0 (.bool (ng y.num)) rfl (by nofun)).set 1 1 (.slice A2 n2 c2) rfl (by nofun)).set 1 2 (.slice D2 m2 d2) rfl (by nofun)))
   clear d_x0 d_x1 d_x2 d_y0 d_y1 d_y2 dz_x0 dz_x1 dz_x2 dz_y0 dz_y1 dz_y2 e0_y0 e0_y1 e0_y2 e1_x0 e1_x1 e1_x2 e1_y0 e1_y1 e1_y2 e1z_x0 e1z_x1 e1z_x2 e1z_y0 e1z_y1 e1z_y2
   go_wp2_with fail
   go_meet
   exact⟨_,_,_,_,_,_,_,_,_,_,_,_,SE.out⟩
 case rest=>
  clear d_x0 d_x1 d_x2 d_y0 d_y1 d_y2 dz_x0 dz_x1 dz_x2 dz_y0 dz_y1 dz_y2;clear S;obtain⟨A1,n1,c1,D1,m1,d1,A2,n2,c2,D2,m2,d2,S⟩:=hcut;obtain⟨c_r0,c_r1,c_r2,f_r0,f_r1,f_r2⟩:=S.cf3 0 rfl;obtain⟨c_y0,c_y1,c_y2,f_y0,f_y1,f_y2⟩:=S.cf3 1 rfl;obtain⟨c_x0,c_x1,c_x2,f_x0,f_x1,f_x2⟩:=S.cf3 2 rfl;have hz:w.heap.size+1+1<wc.heap.size:=S.lt 0 rfl;replace S:=Lib.hid S;clear hK1 hK2;go_upto_region 2 with fail
  clear c_r0 f_r0 c_r1 f_r1 c_r2 f_r2 c_y0 f_y0 c_y1 f_y1 c_y2 f_y2 c_x0 f_x0 c_x1 f_x1 c_x2 f_x2 hz;refine RW.begin (Z:=[]) (S:=(fun W=>Cb W (w.heap.size) #[.bool (ng x.num),.slice A1 n1 c1,.slice D1 m1 d1] 33∧Cb W (w.heap.size+1) #[.bool (ng y.num),.slice A2 n2 c2,.slice D2 m2 d2] 33)) (by kernel_rfl) ?_ S.out ?_
  ·exact⟨by kernel_rfl,zis_nil,by decide,by decide,nol_nil,(fun _ _ h=>⟨h.kb 2 rfl,h.kb 1 rfl⟩)⟩
  intro hzk;clear S;refine RW.t (i:=0) (v:=.pointer (some ⟨w.heap.size,0,none⟩)) (some 9) at0 (hy:=fun _ _=>by kernel_rfl) (h:=?_)
  refine RW.t (i:=1) (v:=.agg #[.bool (ng x.num),.slice A1 n1 c1]) (some 10) at1 (hy:=fun W hS=>by (have k0:=Cb.cell (i:=0) hS.1 rfl;have k1:=Cb.cell (i:=1) hS.1 rfl;clear hS;go_simp)) (h:=?_)
  refine RW.t (i:=2) (v:=.agg #[.bool (ng y.num),.slice A2 n2 c2,.slice D2 m2 d2]) (some 11) at2 (hy:=fun W hS=>by (have k0:=Cb.cell (i:=0) hS.2 rfl;have k1:=Cb.cell (i:=1) hS.2 rfl;have k2:=Cb.cell (i:=2) hS.2 rfl;clear hS;go_simp)) (h:=?_)
  refine RW.t (i:=5) (v:=.pointer (some ⟨w.heap.size+1,0,none⟩)) (some 14) at5 (hy:=fun _ _=>by kernel_rfl) (h:=?_)
  refine RW.t (i:=6) (v:=.agg #[.bool (ng y.num),.slice A2 n2 c2]) (some 15) at6 (hy:=fun W hS=>by (have k0:=Cb.cell (i:=0) hS.2 rfl;have k1:=Cb.cell (i:=1) hS.2 rfl;clear hS;go_simp)) (h:=?_)
  refine RW.t (i:=7) (v:=.agg #[.bool (ng x.num),.slice A1 n1 c1,.slice D1 m1 d1]) (some 16) at7 (hy:=fun W hS=>by (have k0:=Cb.cell (i:=0) hS.1 rfl;have k1:=Cb.cell (i:=1) hS.1 rfl;have k2:=Cb.cell (i:=2) hS.1 rfl;clear hS;go_simp)) (h:=?_)
  refine RW.t (i:=11) (v:=.agg #[.bool (ng x.num),.slice A1 n1 c1,.slice D1 m1 d1]) (some 20) at11 (hy:=fun W hS=>by (have k0:=Cb.cell (i:=0) hS.1 rfl;have k1:=Cb.cell (i:=1) hS.1 rfl;have k2:=Cb.cell (i:=2) hS.1 rfl;clear hS;go_simp)) (h:=?_)
  refine RW.t (i:=13) (v:=.agg #[.bool (ng y.num),.slice A2 n2 c2,.slice D2 m2 d2]) (some 22) at13 (hy:=fun W hS=>by (have k0:=Cb.cell (i:=0) hS.2 rfl;have k1:=Cb.cell (i:=1) hS.2 rfl;have k2:=Cb.cell (i:=2) hS.2 rfl;clear hS;go_simp)) (h:=?_)
  refine RW.c (i:=3) (args:=#[.agg #[.bool (ng y.num),.slice A2 n2 c2,.slice D2 m2 d2]]) (some 12) hzk.out at3 (hx:=fun _=>by kernel_rfl) (h:=fun _ S=>(hY.out _ _ _ _ _ _ _ ⟨(S.r 1 rfl),(S.r 0 rfl)⟩).mono ?_)
  rintro e w5 ⟨A3,n3,c3,rfl,Q3,bb⟩;refine⟨bb,_,[(A3,n3,c3,limbs y.den)],rfl,(rd_cons Q3 rd_nil),?_⟩
  clear bb S Q3;refine RW.c (i:=4) (args:=#[.agg #[.bool (ng x.num),.slice A1 n1 c1],.agg #[.bool false,.slice A3 n3 c3]]) (some 13) hzk.out at4 (hx:=fun _=>by kernel_rfl) (h:=fun _ S=>(hM1.out _ _ _ _ _ _ _ (S.r 4 rfl) (S.r 0 rfl)).mono ?_)
  rintro e w6 ⟨A4,n4,c4,rfl,Q4,bb⟩;refine⟨bb,_,[(A4,n4,c4,limbs z1.natAbs)],rfl,(rd_cons Q4 rd_nil),?_⟩
  clear bb S Q4;refine RW.c (i:=8) (args:=#[.agg #[.bool (ng x.num),.slice A1 n1 c1,.slice D1 m1 d1]]) (some 17) hzk.out at8 (hx:=fun _=>by kernel_rfl) (h:=fun _ S=>(hX.out _ _ _ _ _ _ _ ⟨(S.r 5 rfl),(S.r 4 rfl)⟩).mono ?_)
  rintro e w7 ⟨A5,n5,c5,rfl,Q5,bb⟩;refine⟨bb,_,[(A5,n5,c5,limbs x.den)],rfl,(rd_cons Q5 rd_nil),?_⟩
  clear bb S Q5;refine RW.c (i:=9) (args:=#[.agg #[.bool (ng y.num),.slice A2 n2 c2],.agg #[.bool false,.slice A5 n5 c5]]) (some 18) hzk.out at9 (hx:=fun _=>by kernel_rfl) (h:=fun _ S=>(hM2.out _ _ _ _ _ _ _ (S.r 4 rfl) (S.r 0 rfl)).mono ?_)
  rintro e w8 ⟨A6,n6,c6,rfl,Q6,bb⟩;refine⟨bb,_,[(A6,n6,c6,limbs z2.natAbs)],rfl,(rd_cons Q6 rd_nil),?_⟩
  clear bb S Q6;refine RW.c (i:=10) (args:=#[.agg #[.bool (ng z1),.slice A4 n4 c4],.agg #[.bool (ng z2),.slice A6 n6 c6]]) (some 19) hzk.out at10 (hx:=fun _=>by kernel_rfl) (h:=fun _ S=>(hA.out _ _ _ _ _ _ _ (S.r 2 rfl) (S.r 0 rfl)).mono ?_)
  rintro e w9 ⟨A7,n7,c7,rfl,Q7,bb⟩;refine⟨bb,_,[(A7,n7,c7,limbs zn.natAbs)],rfl,(rd_cons Q7 rd_nil),?_⟩
  clear bb S Q7;refine RW.c (i:=12) (args:=#[.agg #[.bool (ng x.num),.slice A1 n1 c1,.slice D1 m1 d1]]) (some 21) hzk.out at12 (hx:=fun _=>by kernel_rfl) (h:=fun _ S=>(hX.out _ _ _ _ _ _ _ ⟨(S.r 8 rfl),(S.r 7 rfl)⟩).mono ?_)
  rintro e w10 ⟨A8,n8,c8,rfl,Q8,bb⟩;refine⟨bb,_,[(A8,n8,c8,limbs x.den)],rfl,(rd_cons Q8 rd_nil),?_⟩
  clear bb S Q8;refine RW.c (i:=14) (args:=#[.agg #[.bool (ng y.num),.slice A2 n2 c2,.slice D2 m2 d2]]) (some 23) hzk.out at14 (hx:=fun _=>by kernel_rfl) (h:=fun _ S=>(hY.out _ _ _ _ _ _ _ ⟨(S.r 7 rfl),(S.r 6 rfl)⟩).mono ?_)
  rintro e w11 ⟨A9,n9,c9,rfl,Q9,bb⟩;refine⟨bb,_,[(A9,n9,c9,limbs y.den)],rfl,(rd_cons Q9 rd_nil),?_⟩
  clear bb S Q9;refine RW.c (i:=15) (args:=#[.agg #[.bool false,.slice A8 n8 c8],.agg #[.bool false,.slice A9 n9 c9]]) (some 24) hzk.out at15 (hx:=fun _=>by kernel_rfl) (h:=fun _ S=>(hM3.out _ _ _ _ _ _ _ (S.r 1 rfl) (S.r 0 rfl)).mono ?_)
  rintro e w12 ⟨A10,n10,c10,rfl,Q10,bb⟩;refine⟨bb,_,[(A10,n10,c10,limbs zd.natAbs)],rfl,(rd_cons Q10 rd_nil),?_⟩
  clear bb S Q10;refine RW.c (i:=16) (args:=#[.agg #[.bool (ng zn),.slice A7 n7 c7],.agg #[.bool (ng zd),.slice A10 n10 c10]]) (some 25) hzk.out at16 (hx:=fun _=>by kernel_rfl) (h:=fun _ S=>(hO.out _ _ _ _ _ _ _ (S.r 3 rfl) (S.r 0 rfl)).mono ?_)
  rintro e w13 ⟨A11,n11,c11,D11,m11,d11,rfl,Q11,bb⟩;refine⟨bb,_,[(D11,m11,d11,dn q),(A11,n11,c11,limbs q.num.natAbs)],rfl,(rd_cons Q11.d (rd_cons Q11.n rd_nil)),?_⟩
  clear bb S Q11;refine RW.tail hzk.out (by kernel_rfl) ?_
  intro gs w14 hgs hS S;obtain rfl:=len0 hgs;clear hS hgs hzk;simp only[mark,fill,Act.put,sZ0,sZ1,sZ2];replace S:=Lib.hid S;refine Wk.o (i:=17) at17 (by kernel_rfl) fun K' hK=>?_
  have q17_r0:=St.cl (S.out) 0 0 rfl rfl;have q17_r1:=St.cl (S.out) 0 1 rfl rfl;have q17_r2:=St.cl (S.out) 0 2 rfl rfl;have q17z_r0:=St.f (S.out) 0 0 rfl;have q17z_r1:=St.f (S.out) 0 1 rfl;have q17z_r2:=St.f (S.out) 0 2 rfl
  go_simp
  have SN:=(((S.out.set 0 0 (.bool (ng q.num)) rfl (by nofun)).set 0 1 (.slice A11 n11 c11) rfl (by nofun)).set 0 2 (.slice D11 m11 d11) rfl (by nofun))
  clear S q17_r0 q17_r1 q17_r2 q17z_r0 q17z_r1 q17z_r2;have S:=SN;clear SN;refine hK.out _ _ ⟨(S.cb 2 rfl),(S.cb 1 rfl)⟩ ?_
  clear hK K';replace S:=Lib.hid S
  try simp only[Act.put,sZ0,sZ1,sZ2]
  refine Wk.done (by kernel_rfl) ?_
  go_simp
  replace S:=S.out;have S:St w _ [(w.heap.size+1+1,#[.bool (ng q.num),.slice A11 n11 c11,.slice D11 m11 d11],33),(w.heap.size+1,#[.bool (ng y.num),.slice A2 n2 c2,.slice D2 m2 d2],33),(w.heap.size,#[.bool (ng x.num),.slice A1 n1 c1,.slice D1 m1 d1],33)] [(D11,m11,d11,dn q),(A11,n11,c11,limbs q.num.natAbs),(A10,n10,c10,limbs zd.natAbs),(A9,n9,c9,limbs y.den),(A8,n8,c8,limbs x.den),(A7,n7,c7,limbs zn.natAbs),(A6,n6,c6,limbs z2.natAbs),(A5,n5,c5,limbs x.den),(A4,n4,c4,limbs z1.natAbs),(A3,n3,c3,limbs y.den),(D2,m2,d2,dn y),(A2,n2,c2,limbs y.num.natAbs),(D1,m1,d1,dn x),(A1,n1,c1,limbs x.num.natAbs),(D',m',d',es),(A',n',c',ys),(D,m,d,ds),(A,n,c,xs)]:=S
  generalize hW15:(World.setCell (World.setCell (World.setCell w14 ⟨w.heap.size+1+1,0,none⟩ (.bool (ng q.num))) ⟨w.heap.size+1+1,1,none⟩ (.slice A11 n11 c11)) ⟨w.heap.size+1+1,2,none⟩ (.slice D11 m11 d11))=w15 at S ⊢;clear hW15;replace S:=Lib.hid S;replace S:=S.out;replace S:=Lib.hid S;have S:=S.out;replace S:=Lib.hid S;go_wp2;refine bodyPost_ret (res_rAdd _ _ (w.heap.size+1+1) 33 rfl (S.out.bk _ (List.mem_of_getElem? (i:=0) rfl)).1) rfl ?_
  exact⟨_,_,_,_,_,_,rfl,⟨S.out.r 1 rfl,S.out.r 0 rfl⟩,S.out.bel⟩
theorem res_rMul (W:World) (tmps:Array Value) (g t:Nat) {v0 v1 v2:Value} (ht:tmps.getD 4 undef=.pointer (some ⟨g,0,none⟩)) (h:Cb W g #[v0,v1,v2] t) :
  (results Tryz.f15 tmps).run Tryz.prog W=.ok (.agg #[v0,v1,v2]) W:=by
 have c0:W.cell? ⟨g,0,none⟩=some v0:=h.cell rfl;have c1:W.cell? ⟨g,1,none⟩=some v1:=h.cell rfl;have c2:W.cell? ⟨g,2,none⟩=some v2:=h.cell rfl;have ht':tmps[4]?.getD undef=.pointer (some ⟨g,0,none⟩):=by rw[←ht];simp[Array.getD_eq_getD_getElem?]
 simp[results,Tryz.results15,go_sem,ht',c0,c1,c2]
theorem Fmul_any (b:Bool) (A:Option Addr) (n c:Nat) (xs:List Nat) (D:Option Addr) (m d:Nat) (ds:List Nat) (b':Bool) (A':Option Addr) (n' c':Nat) (ys:List Nat) (D':Option Addr) (m' d':Nat) (es:List Nat) (w:World) (R1:Rd w A n c xs) (R2:Rd w D m d ds) (R3:Rd w A' n' c' ys) (R4:Rd w D' m' d' es) (hn:n≤9900000) (hm:m≤9900000) (hn':n'≤9900000) (hm':m'≤9900000):Calls Tryz.prog 15 #[.agg #[.bool b,.slice A n c,.slice D m d],.agg #[.bool b',.slice A' n' c',.slice D' m' d']] w (RetR (rv b xs ds*rv b' ys es) w):=by
 have h1:Rs (rv b xs ds) 9900000:=Rs.of R1.sm R2.sm (Nat.le_trans (Nat.le_of_eq R1.len) hn) (Nat.le_trans (Nat.le_of_eq R2.len) hm) (by decide)
 have h2:Rs (rv b' ys es) 9900000:=Rs.of R3.sm R4.sm (Nat.le_trans (Nat.le_of_eq R3.len) hn') (Nat.le_trans (Nat.le_of_eq R4.len) hm') (by decide)
 have hK1:=fun W h h'=>rtakeR_any b A n c xs D m d ds W h h' (by omega) (by omega)
 have hK2:=fun W h h'=>rtakeR_any b' A' n' c' ys D' m' d' es W h h' (by omega) (by omega)
 generalize rv b xs ds=x at *;generalize rv b' ys es=y at *;have kx:(limbs x.num.natAbs).length≤9900000:=limbs_len_le.2 h1.n;have ky:(limbs y.num.natAbs).length≤9900000:=limbs_len_le.2 h2.n;have kp:(limbs x.den).length≤9900000:=limbs_len_le.2 h1.d;have kq:(limbs y.den).length≤9900000:=limbs_len_le.2 h2.d;have hX:=Lib.hid (rden_u x (h1.mono (by decide)))
 have hY:=Lib.hid (rden_u y (h2.mono (by decide)))
 obtain⟨zn,e3⟩:∃ zn:Int,zn=x.num*y.num:=⟨_,rfl⟩;obtain⟨zd,e4⟩:∃ zd:Int,zd=(x.den:Int)*(y.den:Int):=⟨_,rfl⟩;have k3:(limbs zn.natAbs).length≤19800000:=by rw[e3];exact mulI_len2 kx ky
 have k4:(limbs zd.natAbs).length≤19800000:=by rw[e4];exact mulI_len2 (nat_abs_len kp) (nat_abs_len kq)
 have hM1:=Lib.hid (rmul_ii (z:=x.num) (y:=y.num) (by omega) (by omega))
 have hM3:=Lib.hid (rmul_uu (P:=x.den) (g:=y.den) (by omega) (by omega))
 have hO:=Lib.hid (rover_ii (u:=zn) (v:=zd) (by omega) (by omega) (by rw[e4];have:=den_mul_pos x y;omega))
 rw[←e3] at hM1;rw[←e4] at hM3;rw[show Rat.divInt zn zd=x*y by rw[e3,e4,←mul_eq]] at hO
 generalize x*y=q at *;clear e3 e4 k3 k4;replace hK1:=Lib.hid hK1;replace hK2:=Lib.hid hK2;have S:=((((((((St.new w).read R1).read R2).read R3).read R4).allocAt (w.heap.size) #[.bool b,.slice A n c,.slice D m d] 33 (noL3 _ _ _ _ _ _ _) (by simp)).allocAt (w.heap.size+1) #[.bool b',.slice A' n' c',.slice D' m' d'] 33 (noL3 _ _ _ _ _ _ _) (by simp)).allocAt (w.heap.size+1+1) #[.bool false,.slice none 0 0,.slice none 0 0] 33 (noL3 _ _ _ _ _ _ _) (by simp))
 replace S:=Lib.hid S;clear R1 R2 R3 R4 hn hm hn' hm' h1 h2 kx ky kp kq;go_enter Tryz.func15,Tryz.ntmps15;go_upto_region 1 with fail
 have S:=S.out;generalize hW1:(World.alloc (World.alloc (World.alloc w (.cells #[.bool b,.slice A n c,.slice D m d] 33)) (.cells #[.bool b',.slice A' n' c',.slice D' m' d'] 33)) (.cells #[.bool false,.slice none 0 0,.slice none 0 0] 33))=w1 at S ⊢;clear hW1;replace S:=Lib.hid S;have d_x0:=St.cl (S.out) 2 0 rfl rfl;have d_x1:=St.cl (S.out) 2 1 rfl rfl;have d_x2:=St.cl (S.out) 2 2 rfl rfl;have d_y0:=St.cl (S.out) 1 0 rfl rfl
 have d_y1:=St.cl (S.out) 1 1 rfl rfl;have d_y2:=St.cl (S.out) 1 2 rfl rfl;have dz_x0:=St.f (S.out) 2 0 rfl;have dz_x1:=St.f (S.out) 2 1 rfl;have dz_x2:=St.f (S.out) 2 2 rfl;have dz_y0:=St.f (S.out) 1 0 rfl;have dz_y1:=St.f (S.out) 1 1 rfl;have dz_y2:=St.f (S.out) 1 2 rfl
 go_cut [] (fun wx=>∃ A1 n1 c1 D1 m1 d1 A2 n2 c2 D2 m2 d2,St w wx [(w.heap.size+1+1,#[.bool false,.slice none 0 0,.slice none 0 0],33),(w.heap.size+1,#[.bool (ng y.num),.slice A2 n2 c2,.slice D2 m2 d2],33),(w.heap.size,#[.bool (ng x.num),.slice A1 n1 c1,.slice D1 m1 d1],33)] [(D2,m2,d2,dn y),(A2,n2,c2,limbs y.num.natAbs),(D1,m1,d1,dn x),(A1,n1,c1,limbs x.num.natAbs),(D',m',d',es),(A',n',c',ys),(D,m,d,ds),(A,n,c,xs)])
 case first=>
  have SD:=Lib.hid (S.out.drew)
  go_region_with (first
   | (go_at_call_of 44 (Value.agg #[.bool b,.slice A n c,.slice D m d]);refine (hK1.out _ (SD.out.r 3 rfl) (SD.out.r 2 rfl)).mono ?_;rintro e w2 ⟨A1,n1,c1,D1,m1,d1,rfl,Q1,bb0⟩;have S0:St w w2 [(w.heap.size+1+1,#[.bool false,.slice none 0 0,.slice none 0 0],33),(w.heap.size+1,#[.bool b',.slice A' n' c',.slice D' m' d'],33),(w.heap.size,#[.bool b,.slice A n c,.slice D m d],33)] [(D1,m1,d1,dn x),(A1,n1,c1,limbs x.num.natAbs),(D',m',d',es),(A',n',c',ys),(D,m,d,ds),(A,n,c,xs)]:=(((SD.out.call bb0).read Q1.n).read Q1.d);have e0_y0:=St.cl (S0) 1 0 rfl rfl;have e0_y1:=St.cl (S0) 1 1 rfl rfl;have e0_y2:=St.cl (S0) 1 2 rfl rfl)
   | (go_at_call_of 44 (Value.agg #[.bool b',.slice A' n' c',.slice D' m' d']);refine (hK2.out _ (S0.r 3 rfl) (S0.r 2 rfl)).mono ?_;rintro e w3 ⟨A2,n2,c2,D2,m2,d2,rfl,Q2,bb1⟩;have S1:St w w3 [(w.heap.size+1+1,#[.bool false,.slice none 0 0,.slice none 0 0],33),(w.heap.size+1,#[.bool b',.slice A' n' c',.slice D' m' d'],33),(w.heap.size,#[.bool b,.slice A n c,.slice D m d],33)] [(D2,m2,d2,dn y),(A2,n2,c2,limbs y.num.natAbs),(D1,m1,d1,dn x),(A1,n1,c1,limbs x.num.natAbs),(D',m',d',es),(A',n',c',ys),(D,m,d,ds),(A,n,c,xs)]:=(((S0.call bb1).read Q2.n).read Q2.d);have e1_x0:=St.cl (S1) 2 0 rfl rfl;have e1_x1:=St.cl (S1) 2 1 rfl rfl;have e1_x2:=St.cl (S1) 2 2 rfl rfl;have e1_y0:=St.cl (S1) 1 0 rfl rfl;have e1_y1:=St.cl (S1) 1 1 rfl rfl;have e1_y2:=St.cl (S1) 1 2 rfl rfl;have e1z_x0:=St.f (S1) 2 0 rfl;have e1z_x1:=St.f (S1) 2 1 rfl;have e1z_x2:=St.f (S1) 2 2 rfl;have e1z_y0:=St.f (S1) 1 0 rfl;have e1z_y1:=St.f (S1) 1 1 rfl;have e1z_y2:=St.f (S1) 1 2 rfl))
  all_goals
   have SE:=Lib.hid (((((((S1.set 2 0 (.bool (ng x.num)) rfl (by nofun)).set 2 1 (.slice A1 n1 c1) rfl (by nofun)).set 2 2 (.slice D1 m1 d1) rfl (by nofun)).set 1 0 (.bool (ng y.num)) rfl (by nofun)).set 1 1 (.slice A2 n2 c2) rfl (by nofun)).set 1 2 (.slice D2 m2 d2) rfl (by nofun)))
   clear d_x0 d_x1 d_x2 d_y0 d_y1 d_y2 dz_x0 dz_x1 dz_x2 dz_y0 dz_y1 dz_y2 e0_y0 e0_y1 e0_y2 e1_x0 e1_x1 e1_x2 e1_y0 e1_y1 e1_y2 e1z_x0 e1z_x1 e1z_x2 e1z_y0 e1z_y1 e1z_y2
   go_wp2_with fail
   go_meet
   exact⟨_,_,_,_,_,_,_,_,_,_,_,_,SE.out⟩
 case rest=>
  clear d_x0 d_x1 d_x2 d_y0 d_y1 d_y2 dz_x0 dz_x1 dz_x2 dz_y0 dz_y1 dz_y2;clear S;obtain⟨A1,n1,c1,D1,m1,d1,A2,n2,c2,D2,m2,d2,S⟩:=hcut;obtain⟨c_r0,c_r1,c_r2,f_r0,f_r1,f_r2⟩:=S.cf3 0 rfl;obtain⟨c_y0,c_y1,c_y2,f_y0,f_y1,f_y2⟩:=S.cf3 1 rfl;obtain⟨c_x0,c_x1,c_x2,f_x0,f_x1,f_x2⟩:=S.cf3 2 rfl;have hz:w.heap.size+1+1<wc.heap.size:=S.lt 0 rfl;replace S:=Lib.hid S;clear hK1 hK2;go_upto_region 2 with fail
  clear c_r0 f_r0 c_r1 f_r1 c_r2 f_r2 c_y0 f_y0 c_y1 f_y1 c_y2 f_y2 c_x0 f_x0 c_x1 f_x1 c_x2 f_x2 hz;refine RW.begin (Z:=[]) (S:=(fun W=>Cb W (w.heap.size) #[.bool (ng x.num),.slice A1 n1 c1,.slice D1 m1 d1] 33∧Cb W (w.heap.size+1) #[.bool (ng y.num),.slice A2 n2 c2,.slice D2 m2 d2] 33)) (by kernel_rfl) ?_ S.out ?_
  ·exact⟨by kernel_rfl,zis_nil,by decide,by decide,nol_nil,(fun _ _ h=>⟨h.kb 2 rfl,h.kb 1 rfl⟩)⟩
  intro hzk;clear S;refine RW.t (i:=0) (v:=.pointer (some ⟨w.heap.size,0,none⟩)) (some 9) at0 (hy:=fun _ _=>by kernel_rfl) (h:=?_)
  refine RW.t (i:=1) (v:=.agg #[.bool (ng x.num),.slice A1 n1 c1]) (some 10) at1 (hy:=fun W hS=>by (have k0:=Cb.cell (i:=0) hS.1 rfl;have k1:=Cb.cell (i:=1) hS.1 rfl;clear hS;go_simp)) (h:=?_)
  refine RW.t (i:=2) (v:=.pointer (some ⟨w.heap.size+1,0,none⟩)) (some 11) at2 (hy:=fun _ _=>by kernel_rfl) (h:=?_)
  refine RW.t (i:=3) (v:=.agg #[.bool (ng y.num),.slice A2 n2 c2]) (some 12) at3 (hy:=fun W hS=>by (have k0:=Cb.cell (i:=0) hS.2 rfl;have k1:=Cb.cell (i:=1) hS.2 rfl;clear hS;go_simp)) (h:=?_)
  refine RW.t (i:=5) (v:=.agg #[.bool (ng x.num),.slice A1 n1 c1,.slice D1 m1 d1]) (some 14) at5 (hy:=fun W hS=>by (have k0:=Cb.cell (i:=0) hS.1 rfl;have k1:=Cb.cell (i:=1) hS.1 rfl;have k2:=Cb.cell (i:=2) hS.1 rfl;clear hS;go_simp)) (h:=?_)
  refine RW.t (i:=7) (v:=.agg #[.bool (ng y.num),.slice A2 n2 c2,.slice D2 m2 d2]) (some 16) at7 (hy:=fun W hS=>by (have k0:=Cb.cell (i:=0) hS.2 rfl;have k1:=Cb.cell (i:=1) hS.2 rfl;have k2:=Cb.cell (i:=2) hS.2 rfl;clear hS;go_simp)) (h:=?_)
  refine RW.c (i:=4) (args:=#[.agg #[.bool (ng x.num),.slice A1 n1 c1],.agg #[.bool (ng y.num),.slice A2 n2 c2]]) (some 13) hzk.out at4 (hx:=fun _=>by kernel_rfl) (h:=fun _ S=>(hM1.out _ _ _ _ _ _ _ (S.r 3 rfl) (S.r 1 rfl)).mono ?_)
  rintro e w5 ⟨A3,n3,c3,rfl,Q3,bb⟩;refine⟨bb,_,[(A3,n3,c3,limbs zn.natAbs)],rfl,(rd_cons Q3 rd_nil),?_⟩
  clear bb S Q3;refine RW.c (i:=6) (args:=#[.agg #[.bool (ng x.num),.slice A1 n1 c1,.slice D1 m1 d1]]) (some 15) hzk.out at6 (hx:=fun _=>by kernel_rfl) (h:=fun _ S=>(hX.out _ _ _ _ _ _ _ ⟨(S.r 4 rfl),(S.r 3 rfl)⟩).mono ?_)
  rintro e w6 ⟨A8,n8,c8,rfl,Q8,bb⟩;refine⟨bb,_,[(A8,n8,c8,limbs x.den)],rfl,(rd_cons Q8 rd_nil),?_⟩
  clear bb S Q8;refine RW.c (i:=8) (args:=#[.agg #[.bool (ng y.num),.slice A2 n2 c2,.slice D2 m2 d2]]) (some 17) hzk.out at8 (hx:=fun _=>by kernel_rfl) (h:=fun _ S=>(hY.out _ _ _ _ _ _ _ ⟨(S.r 3 rfl),(S.r 2 rfl)⟩).mono ?_)
  rintro e w7 ⟨A9,n9,c9,rfl,Q9,bb⟩;refine⟨bb,_,[(A9,n9,c9,limbs y.den)],rfl,(rd_cons Q9 rd_nil),?_⟩
  clear bb S Q9;refine RW.c (i:=9) (args:=#[.agg #[.bool false,.slice A8 n8 c8],.agg #[.bool false,.slice A9 n9 c9]]) (some 18) hzk.out at9 (hx:=fun _=>by kernel_rfl) (h:=fun _ S=>(hM3.out _ _ _ _ _ _ _ (S.r 1 rfl) (S.r 0 rfl)).mono ?_)
  rintro e w8 ⟨A10,n10,c10,rfl,Q10,bb⟩;refine⟨bb,_,[(A10,n10,c10,limbs zd.natAbs)],rfl,(rd_cons Q10 rd_nil),?_⟩
  clear bb S Q10;refine RW.c (i:=10) (args:=#[.agg #[.bool (ng zn),.slice A3 n3 c3],.agg #[.bool (ng zd),.slice A10 n10 c10]]) (some 19) hzk.out at10 (hx:=fun _=>by kernel_rfl) (h:=fun _ S=>(hO.out _ _ _ _ _ _ _ (S.r 3 rfl) (S.r 0 rfl)).mono ?_)
  rintro e w9 ⟨A11,n11,c11,D11,m11,d11,rfl,Q11,bb⟩;refine⟨bb,_,[(D11,m11,d11,dn q),(A11,n11,c11,limbs q.num.natAbs)],rfl,(rd_cons Q11.d (rd_cons Q11.n rd_nil)),?_⟩
  clear bb S Q11;refine RW.tail hzk.out (by kernel_rfl) ?_
  intro gs w10 hgs hS S;obtain rfl:=len0 hgs;clear hS hgs hzk;simp only[mark,fill,Act.put,sZ0,sZ1,sZ2];replace S:=Lib.hid S;refine Wk.o (i:=11) at11 (by kernel_rfl) fun K' hK=>?_
  have q11_r0:=St.cl (S.out) 0 0 rfl rfl;have q11_r1:=St.cl (S.out) 0 1 rfl rfl;have q11_r2:=St.cl (S.out) 0 2 rfl rfl;have q11z_r0:=St.f (S.out) 0 0 rfl;have q11z_r1:=St.f (S.out) 0 1 rfl;have q11z_r2:=St.f (S.out) 0 2 rfl
  go_simp
  have SN:=(((S.out.set 0 0 (.bool (ng q.num)) rfl (by nofun)).set 0 1 (.slice A11 n11 c11) rfl (by nofun)).set 0 2 (.slice D11 m11 d11) rfl (by nofun))
  clear S q11_r0 q11_r1 q11_r2 q11z_r0 q11z_r1 q11z_r2;have S:=SN;clear SN;refine hK.out _ _ ⟨(S.cb 2 rfl),(S.cb 1 rfl)⟩ ?_
  clear hK K';replace S:=Lib.hid S
  try simp only[Act.put,sZ0,sZ1,sZ2]
  refine Wk.done (by kernel_rfl) ?_
  go_simp
  replace S:=S.out;have S:St w _ [(w.heap.size+1+1,#[.bool (ng q.num),.slice A11 n11 c11,.slice D11 m11 d11],33),(w.heap.size+1,#[.bool (ng y.num),.slice A2 n2 c2,.slice D2 m2 d2],33),(w.heap.size,#[.bool (ng x.num),.slice A1 n1 c1,.slice D1 m1 d1],33)] [(D11,m11,d11,dn q),(A11,n11,c11,limbs q.num.natAbs),(A10,n10,c10,limbs zd.natAbs),(A9,n9,c9,limbs y.den),(A8,n8,c8,limbs x.den),(A3,n3,c3,limbs zn.natAbs),(D2,m2,d2,dn y),(A2,n2,c2,limbs y.num.natAbs),(D1,m1,d1,dn x),(A1,n1,c1,limbs x.num.natAbs),(D',m',d',es),(A',n',c',ys),(D,m,d,ds),(A,n,c,xs)]:=S
  generalize hW11:(World.setCell (World.setCell (World.setCell w10 ⟨w.heap.size+1+1,0,none⟩ (.bool (ng q.num))) ⟨w.heap.size+1+1,1,none⟩ (.slice A11 n11 c11)) ⟨w.heap.size+1+1,2,none⟩ (.slice D11 m11 d11))=w11 at S ⊢;clear hW11;replace S:=Lib.hid S;replace S:=S.out;replace S:=Lib.hid S;have S:=S.out;replace S:=Lib.hid S;go_wp2;refine bodyPost_ret (res_rMul _ _ (w.heap.size+1+1) 33 rfl (S.out.bk _ (List.mem_of_getElem? (i:=0) rfl)).1) rfl ?_
  exact⟨_,_,_,_,_,_,rfl,⟨S.out.r 1 rfl,S.out.r 0 rfl⟩,S.out.bel⟩
end Go.Proofs.YthlinhconnmbcaaGreat
namespace Go.Proofs.YthlinhconnmbcaaGreat
open Go.RowKit RQ
theorem res_rfromIntR (W:World) (tmps:Array Value) (g t:Nat) {v0 v1 v2:Value} (ht:tmps.getD 2 undef=.pointer (some ⟨g,0,none⟩)) (h:Cb W g #[v0,v1,v2] t) :
  (results Tryz.f19 tmps).run Tryz.prog W=.ok (.agg #[v0,v1,v2]) W:=by
 have c0:W.cell? ⟨g,0,none⟩=some v0:=h.cell rfl;have c1:W.cell? ⟨g,1,none⟩=some v1:=h.cell rfl;have c2:W.cell? ⟨g,2,none⟩=some v2:=h.cell rfl;have ht':tmps[2]?.getD undef=.pointer (some ⟨g,0,none⟩):=by rw[←ht];simp[Array.getD_eq_getD_getElem?]
 simp[results,Tryz.results19,go_sem,ht',c0,c1,c2]
theorem FfromInt_any (v:Int) (w:World) (h0 : -9223372036854775808≤v) (h1:v≤9223372036854775807) :
  Calls Tryz.prog 19 #[.int .i64 v] w (RetR (v:Rat) w):=by
 have hF:=Lib.hid (fun W=>rfromInt_any v W h0 h1)
 have S:=((St.new w).allocAt (w.heap.size) #[.bool false,.slice none 0 0,.slice none 0 0] 33 (noL3 _ _ _ _ _ _ _) (by simp))
 replace S:=Lib.hid S;clear h0 h1;go_enter Tryz.func19,Tryz.ntmps19
 go_wp2_with fail
 refine (hF.out _).mono ?_
 rintro e w1 ⟨A1,n1,c1,rfl,Q1,bb⟩;have T:=((S.out.call bb).read Q1);clear bb S;have S:=T;clear T;obtain⟨c_r0,c_r1,c_r2,f_r0,f_r1,f_r2⟩:=S.cf3 0 rfl;have hz:w.heap.size<w1.heap.size:=S.lt 0 rfl;replace S:=Lib.hid S;clear Q1 hF;have S:St w _ [(w.heap.size,#[.bool (ng v),.slice A1 n1 c1,.slice none 0 0],33)] [(A1,n1,c1,limbs v.natAbs)]:=(((S.out.set 0 0 (.bool (ng v)) rfl (by nofun)).set 0 1 (.slice A1 n1 c1) rfl (by nofun)).set 0 2 (.slice none 0 0) rfl (by nofun))
 replace S:=Lib.hid S;go_wp2;refine bodyPost_ret (res_rfromIntR _ _ (w.heap.size) 33 rfl (S.out.bk _ (List.mem_of_getElem? (i:=0) rfl)).1) rfl ?_
 exact⟨_,_,_,_,_,_,rfl,int_RR (S.out.r 0 rfl),S.out.bel⟩
end Go.Proofs.YthlinhconnmbcaaGreat
namespace Go.Proofs.YthlinhconnmbcaaGreat
open Go.RowKit RQ
def Rk (b:Bool) (n:Nat) (x:List Nat) (m:Nat) (y:List Nat) (q:Rat):Prop:=rv b x y=q∧n≤9000000∧m≤9000000
structure Rw (W:World) (b:Bool) (A:Option Addr) (n c:Nat) (x:List Nat) (D:Option Addr) (m d:Nat) (y:List Nat) (q:Rat):Prop where
 rn:Rd W A n c x
 rd:Rd W D m d y
 k:Rk b n x m y q
section
variable {W:World} {b:Bool} {A:Option Addr} {n c:Nat} {x:List Nat} {D:Option Addr} {m d:Nat} {y:List Nat} {q:Rat}
theorem Rw.of (h1:Rd W A n c x) (h2:Rd W D m d y) (k:Rk b n x m y q):Rw W b A n c x D m d y q:=⟨h1,h2,k⟩
theorem Rw.rs (h:Rw W b A n c x D m d y q):Rs q 9000000:=h.k.1 ▸ Rs.of h.rn.sm h.rd.sm (Nat.le_trans (Nat.le_of_eq h.rn.len) h.k.2.1) (Nat.le_trans (Nat.le_of_eq h.rd.len) h.k.2.2) (by decide)
theorem RR.w (h:RR W A n c D m d q) (hs:Rs q 9000000):Rw W (ng q.num) A n c (limbs q.num.natAbs) D m d (dn q) q:=⟨h.n,h.d,rv_z q,(h.lens hs).1,(h.lens hs).2⟩
theorem Rw.bel {W':World} (h:Rw W b A n c x D m d y q) (hb:Below W.heap.size W W'):Rw W' b A n c x D m d y q:=⟨h.rn.below hb,h.rd.below hb,h.k⟩
theorem Rw.zero (W:World):Rw W false none 0 0 [] none 0 0 [] 0:=⟨Rd.nil_ _ _ _,Rd.nil_ _ _ _,rfl,by decide,by decide⟩
end
structure Rt where
 b:Bool
 A:Option Addr
 n:Nat
 c:Nat
 x:List Nat
 D:Option Addr
 m:Nat
 d:Nat
 y:List Nat
 q:Rat
def Rt.at (r:Rt) (W:World):Prop:=Rw W r.b r.A r.n r.c r.x r.D r.m r.d r.y r.q
structure Lt (W:World) (g:Nat) (L:List Rt):Prop where
 lt:g<W.heap.size
 cl:∀ (i:Nat) (r:Rt),L[i]?=some r→W.cell? ⟨g,i*3,none⟩=some (.bool r.b)∧W.cell? ⟨g,i*3+1,none⟩=some (.slice r.A r.n r.c)∧W.cell? ⟨g,i*3+2,none⟩=some (.slice r.D r.m r.d)
 at_:∀ r∈L,r.at W
theorem Lt.bel {W W':World} {g:Nat} {L:List Rt} (h:Lt W g L) (hb:Below W.heap.size W W'):Lt W' g L:=by
 refine⟨Nat.lt_of_lt_of_le h.lt hb.size,fun i r hi=>?_,fun r hr=>(h.at_ r hr).bel hb⟩
 obtain⟨h1,h2,h3⟩:=h.cl i r hi;refine⟨?_,?_,?_⟩
 ·rw[World.cell?_of_block (hb.block g h.lt)];exact h1
 ·rw[World.cell?_of_block (hb.block g h.lt)];exact h2
 ·rw[World.cell?_of_block (hb.block g h.lt)];exact h3
end Go.Proofs.YthlinhconnmbcaaGreat
namespace Go.Proofs.YthlinhconnmbcaaGreat
open Go.RowKit RQ
theorem addW (b1:Bool) (A1:Option Addr) (n1 c1:Nat) (x1:List Nat) (D1:Option Addr) (m1 d1:Nat) (y1:List Nat) (q1:Rat) (b2:Bool) (A2:Option Addr) (n2 c2:Nat) (x2:List Nat) (D2:Option Addr) (m2 d2:Nat) (y2:List Nat) (q2:Rat) (w:World) (X1:Rw w b1 A1 n1 c1 x1 D1 m1 d1 y1 q1) (X2:Rw w b2 A2 n2 c2 x2 D2 m2 d2 y2 q2):Calls Tryz.prog 62 #[.agg #[.bool b1,.slice A1 n1 c1,.slice D1 m1 d1],.agg #[.bool b2,.slice A2 n2 c2,.slice D2 m2 d2]] w (RetR (q1+q2) w):=by
 have:=Radd_any b1 A1 n1 c1 x1 D1 m1 d1 y1 b2 A2 n2 c2 x2 D2 m2 d2 y2 w X1.rn X1.rd X2.rn X2.rd (by have:=X1.k.2.1;omega) (by have:=X1.k.2.2;omega) (by have:=X2.k.2.1;omega) (by have:=X2.k.2.2;omega)
 rwa [X1.k.1,X2.k.1] at this
theorem subW (b1:Bool) (A1:Option Addr) (n1 c1:Nat) (x1:List Nat) (D1:Option Addr) (m1 d1:Nat) (y1:List Nat) (q1:Rat) (b2:Bool) (A2:Option Addr) (n2 c2:Nat) (x2:List Nat) (D2:Option Addr) (m2 d2:Nat) (y2:List Nat) (q2:Rat) (w:World) (X1:Rw w b1 A1 n1 c1 x1 D1 m1 d1 y1 q1) (X2:Rw w b2 A2 n2 c2 x2 D2 m2 d2 y2 q2):Calls Tryz.prog 79 #[.agg #[.bool b1,.slice A1 n1 c1,.slice D1 m1 d1],.agg #[.bool b2,.slice A2 n2 c2,.slice D2 m2 d2]] w (RetR (q1-q2) w):=by
 have:=Rsub_any b1 A1 n1 c1 x1 D1 m1 d1 y1 b2 A2 n2 c2 x2 D2 m2 d2 y2 w X1.rn X1.rd X2.rn X2.rd (by have:=X1.k.2.1;omega) (by have:=X1.k.2.2;omega) (by have:=X2.k.2.1;omega) (by have:=X2.k.2.2;omega)
 rwa [X1.k.1,X2.k.1] at this
theorem mulW (b1:Bool) (A1:Option Addr) (n1 c1:Nat) (x1:List Nat) (D1:Option Addr) (m1 d1:Nat) (y1:List Nat) (q1:Rat) (b2:Bool) (A2:Option Addr) (n2 c2:Nat) (x2:List Nat) (D2:Option Addr) (m2 d2:Nat) (y2:List Nat) (q2:Rat) (w:World) (X1:Rw w b1 A1 n1 c1 x1 D1 m1 d1 y1 q1) (X2:Rw w b2 A2 n2 c2 x2 D2 m2 d2 y2 q2):Calls Tryz.prog 60 #[.agg #[.bool b1,.slice A1 n1 c1,.slice D1 m1 d1],.agg #[.bool b2,.slice A2 n2 c2,.slice D2 m2 d2]] w (RetR (q1*q2) w):=by
 have:=Rmul_any b1 A1 n1 c1 x1 D1 m1 d1 y1 b2 A2 n2 c2 x2 D2 m2 d2 y2 w X1.rn X1.rd X2.rn X2.rd (by have:=X1.k.2.1;omega) (by have:=X1.k.2.2;omega) (by have:=X2.k.2.1;omega) (by have:=X2.k.2.2;omega)
 rwa [X1.k.1,X2.k.1] at this
theorem divW (b1:Bool) (A1:Option Addr) (n1 c1:Nat) (x1:List Nat) (D1:Option Addr) (m1 d1:Nat) (y1:List Nat) (q1:Rat) (b2:Bool) (A2:Option Addr) (n2 c2:Nat) (x2:List Nat) (D2:Option Addr) (m2 d2:Nat) (y2:List Nat) (q2:Rat) (w:World) (X1:Rw w b1 A1 n1 c1 x1 D1 m1 d1 y1 q1) (X2:Rw w b2 A2 n2 c2 x2 D2 m2 d2 y2 q2):Calls Tryz.prog 65 #[.agg #[.bool b1,.slice A1 n1 c1,.slice D1 m1 d1],.agg #[.bool b2,.slice A2 n2 c2,.slice D2 m2 d2]] w (RetRE (q1 / q2) (.int .i64 (dvE q2)) w):=by
 have:=Rdiv_any b1 A1 n1 c1 x1 D1 m1 d1 y1 b2 A2 n2 c2 x2 D2 m2 d2 y2 w X1.rn X1.rd X2.rn X2.rd (by have:=X1.k.2.1;omega) (by have:=X1.k.2.2;omega) (by have:=X2.k.2.1;omega) (by have:=X2.k.2.2;omega)
 rwa [X1.k.1,X2.k.1] at this
theorem signW (b1:Bool) (A1:Option Addr) (n1 c1:Nat) (x1:List Nat) (D1:Option Addr) (m1 d1:Nat) (y1:List Nat) (q1:Rat) (w:World) (X1:Rw w b1 A1 n1 c1 x1 D1 m1 d1 y1 q1):Calls Tryz.prog 88 #[.agg #[.bool b1,.slice A1 n1 c1,.slice D1 m1 d1]] w fun e w'=>e=.returned (.int .i64 q1.num.sign)∧Below w.heap.size w w':=by
 have:=signR_any b1 A1 n1 c1 x1 D1 m1 d1 y1 w X1.rn X1.rd (by have:=X1.k.2.1;omega) (by have:=X1.k.2.2;omega)
 rwa [X1.k.1] at this
theorem negW (b1:Bool) (A1:Option Addr) (n1 c1:Nat) (x1:List Nat) (D1:Option Addr) (m1 d1:Nat) (y1:List Nat) (q1:Rat) (w:World) (X1:Rw w b1 A1 n1 c1 x1 D1 m1 d1 y1 q1):Calls Tryz.prog 56 #[.agg #[.bool b1,.slice A1 n1 c1,.slice D1 m1 d1]] w (RetR (-q1) w):=by
 have:=negR_any b1 A1 n1 c1 x1 D1 m1 d1 y1 w X1.rn X1.rd (by have:=X1.k.2.1;omega) (by have:=X1.k.2.2;omega)
 rwa [X1.k.1] at this
theorem takeF (b1:Bool) (A1:Option Addr) (n1 c1:Nat) (x1:List Nat) (D1:Option Addr) (m1 d1:Nat) (y1:List Nat) (q1:Rat) (w:World) (X1:Rw w b1 A1 n1 c1 x1 D1 m1 d1 y1 q1):Calls Tryz.prog 44 #[.agg #[.bool b1,.slice A1 n1 c1,.slice D1 m1 d1]] w (RetR q1 w):=by
 have:=rtakeR_any b1 A1 n1 c1 x1 D1 m1 d1 y1 w X1.rn X1.rd (by have:=X1.k.2.1;omega) (by have:=X1.k.2.2;omega)
 rwa [X1.k.1] at this
end Go.Proofs.YthlinhconnmbcaaGreat
namespace Go.Proofs.YthlinhconnmbcaaGreat
open Go.RowKit RQ
def Rt.raw (r:Rt) (W:World):Prop:=Rd W r.A r.n r.c r.x∧Rd W r.D r.m r.d r.y
theorem Rt.raw.bel {r:Rt} {W W':World} (h:r.raw W) (hb:Below W.heap.size W W'):r.raw W':=⟨h.1.below hb,h.2.below hb⟩
theorem Rt.raw.at_ {r:Rt} {W:World} (h:r.raw W) (k:Rk r.b r.n r.x r.m r.y r.q):r.at W:=⟨h.1,h.2,k⟩
structure Sr (W:World) (A:Option Addr) (n c:Nat) (L:List Rt):Prop where
 len:L.length=n
 cap:n≤c
 mem:n=0∨∃ b o,A=some ⟨b,o,none⟩∧b<W.heap.size∧∀ (i:Nat) (r:Rt),L[i]?=some r→W.cell? ⟨b,o+i*3,none⟩=some (.bool r.b)∧W.cell? ⟨b,o+i*3+1,none⟩=some (.slice r.A r.n r.c)∧W.cell? ⟨b,o+i*3+2,none⟩=some (.slice r.D r.m r.d)
 rd:∀ r∈L,r.raw W
section
variable {W W':World} {A:Option Addr} {n c:Nat} {L:List Rt}
theorem Sr.bel (h:Sr W A n c L) (hb:Below W.heap.size W W'):Sr W' A n c L:=by
 refine⟨h.len,h.cap,?_,fun r hr=>(h.rd r hr).bel hb⟩
 rcases h.mem with h0 | ⟨b,o,hA,hlt,hc⟩
 ·exact .inl h0
 ·refine .inr ⟨b,o,hA,Nat.lt_of_lt_of_le hlt hb.size,fun i r hi=>?_⟩
  obtain⟨h1,h2,h3⟩:=hc i r hi;have k:=fun j=>World.cell?_of_block (a:=⟨b,j,none⟩) (hb.block b hlt)
  exact⟨(k _).trans h1,(k _).trans h2,(k _).trans h3⟩
theorem Sr.get (h:Sr W A n c L) {i:Nat} (hi:i<n):∃ b o r,A=some ⟨b,o,none⟩∧L[i]?=some r∧r∈L∧W.cell? ⟨b,o+i*3,none⟩=some (.bool r.b)∧W.cell? ⟨b,o+i*3+1,none⟩=some (.slice r.A r.n r.c)∧W.cell? ⟨b,o+i*3+2,none⟩=some (.slice r.D r.m r.d):=by
 have hl:=h.len
 rcases h.mem with h0 | ⟨b,o,hA,_,hc⟩
 ·omega
 ·have e:L[i]?=some L[i]:=List.getElem?_eq_getElem (by omega)
  exact⟨b,o,L[i],hA,e,List.getElem_mem _,hc i _ e⟩
theorem Sr.none_ (W:World) (A:Option Addr) (c:Nat):Sr W A 0 c []:=⟨rfl,Nat.zero_le _,.inl rfl,fun r hr=>by cases hr⟩
end
theorem all_false {α:Type} {L:List α} {f:α→Bool} {i:Nat} {r:α} (h:L[i]?=some r) (hf:f r=false):L.all f=false:=by
 rw[List.all_eq_false];exact⟨r,List.mem_of_getElem? h,by rw[hf];decide⟩
theorem all_true {α:Type} {L:List α} {f:α→Bool} (h:∀ j r,j<L.length→L[j]?=some r→f r=true):L.all f=true:=by
 rw[List.all_eq_true];intro r hr;obtain⟨j,hj⟩:=List.getElem?_of_mem hr
 exact h j r (List.getElem?_eq_some_iff.1 hj).1 hj
end Go.Proofs.YthlinhconnmbcaaGreat
namespace Go.Proofs.YthlinhconnmbcaaGreat
open Go.RowKit RQ
structure Ro where
 A:Option Addr
 n:Nat
 c:Nat
 L:List Rt
structure Mr (W:World) (A:Option Addr) (n c:Nat) (M:List Ro):Prop where
 len:M.length=n
 cap:n≤c
 mem:n=0∨∃ b o,A=some ⟨b,o,none⟩∧b<W.heap.size∧∀ (i:Nat) (r:Ro),M[i]?=some r→W.cell? ⟨b,o+i,none⟩=some (.slice r.A r.n r.c)
 rd:∀ r∈M,Sr W r.A r.n r.c r.L
section
variable {W W':World} {A:Option Addr} {n c:Nat} {M:List Ro}
theorem Mr.bel (h:Mr W A n c M) (hb:Below W.heap.size W W'):Mr W' A n c M:=by
 refine⟨h.len,h.cap,?_,fun r hr=>(h.rd r hr).bel hb⟩
 rcases h.mem with h0 | ⟨b,o,hA,hlt,hc⟩
 ·exact .inl h0
 ·exact .inr ⟨b,o,hA,Nat.lt_of_lt_of_le hlt hb.size,fun i r hi=>(World.cell?_of_block (hb.block b hlt)).trans (hc i r hi)⟩
theorem Mr.get (h:Mr W A n c M) {i:Nat} (hi:i<n):∃ b o r,A=some ⟨b,o,none⟩∧M[i]?=some r∧r∈M∧W.cell? ⟨b,o+i,none⟩=some (.slice r.A r.n r.c):=by
 have hl:=h.len
 rcases h.mem with h0 | ⟨b,o,hA,_,hc⟩
 ·omega
 ·have e:M[i]?=some M[i]:=List.getElem?_eq_getElem (by omega)
  exact⟨b,o,M[i],hA,e,List.getElem_mem _,hc i _ e⟩
end
end Go.Proofs.YthlinhconnmbcaaGreat
namespace Go.Proofs.YthlinhconnmbcaaGreat
open Go.RowKit RQ
def colM (M:List Ro):Nat:=(M.map (·.n)).headD 0
def rowM (k:Nat) (r:Ro):Bool:=decide (1≤r.n)&&decide (r.n≤96)&&decide (r.n=k)
def wfM (M:List Ro):Bool:=decide (M.length≤96)&&M.all (rowM (colM M))
theorem headM {M:List Ro} {r:Ro} (h:M[0]?=some r):colM M=r.n:=by
 unfold colM
 cases M with
 | nil=>simp at h
 | cons a l=>simp at h;subst h;rfl
theorem wf_any (M:List Ro) (A:Option Addr) (n c:Nat) (w:World) (h:Mr w A n c M) (hm:∀ r∈M,r.n≤9223372036854775807) (hn:n≤9223372036854775807):Calls Tryz.prog 34 #[.slice A n c] w fun e w'=>e=.returned (.bool (wfM M))∧Below w.heap.size w w':=by
 have hlen:=h.len;unfold wfM;rw[hlen];replace h:=Lib.hid h;replace hm:=Lib.hid hm
 by_cases hnk:n≤96
 ·rw[decide_eq_true hnk,Bool.true_and]
  have g0:¬ 96<n:=by omega
  have hb:=Lib.hid hnk;replace hlen:=Lib.hid hlen;clear hnk hn;go_enter Tryz.func34,Tryz.ntmps34;go_wp2
  go_loopw [10] (fun iv wr=>∃ (i:Nat),i≤n∧iv=.int .i64 i∧(∀ j r,j<i→M[j]?=some r→(rowM (colM M) r)=true)∧Below w.heap.size w wr) (fun iv _=>n-(intOf iv).toNat)
  case atStart=>exact⟨0,Nat.zero_le _,rfl,fun j r hj=>absurd hj (Nat.not_lt_zero _),Below.refl _ _⟩
  case round=>
   obtain⟨i,hin,rfl,hall,B⟩:=hrel
   by_cases hlt:i<n
   ·obtain⟨b,o,r,rfl,hr,hrm,e0⟩:=(h.out.bel B).get hlt
    obtain⟨b',o',r0,hbo,hr0,hrm0,e1⟩:=(h.out.bel B).get (show 0<n by omega)
    obtain⟨rfl,rfl⟩:b=b'∧o=o':=by simpa using hbo
    have hh:=headM hr0;have hlh:=Lib.hid hlt;have g1:(i:Int)<(n:Int):=by omega
    have g2:(0:Int)≤(i:Int):=by omega
    have g3:0<n:=by omega
    rw[Nat.add_zero] at e1;replace B:=Lib.hid B;replace hall:=Lib.hid hall;replace hr:=Lib.hid hr;have hrn:=hm.out r hrm;have hrn0:=hm.out r0 hrm0;clear hin hrm hrm0 hr0 hbo
    by_cases h1:r.n=0
    ·have hx:=Lib.hid (show (rowM (colM M) r)=false by unfold rowM;rw[h1];rfl)
     replace hh:=Lib.hid hh;clear hlt;go_wp2;go_ret;exact⟨by rw[all_false hr.out (f:=rowM (colM M)) hx.out];rfl,B.out⟩
    ·by_cases h2:96<r.n
     ·have hx:=Lib.hid (show (rowM (colM M) r)=false by unfold rowM;rw[decide_eq_false (show ¬ r.n≤96 by omega),Bool.and_false,Bool.false_and])
      replace hh:=Lib.hid hh;clear hlt;go_wp2;go_ret;exact⟨by rw[all_false hr.out (f:=rowM (colM M)) hx.out];rfl,B.out⟩
     ·have f1:((r.n:Int)==0)=false:=beq_eq_false_iff_ne.2 (by omega)
      have f2:decide (96<(r.n:Int))=false:=decide_eq_false (by omega)
      by_cases h3:r.n=r0.n
      ·have hx:=Lib.hid (show (rowM (colM M) r)=true by unfold rowM;rw[hh,decide_eq_true (show 1≤r.n by omega),decide_eq_true (show r.n≤96 by omega),decide_eq_true h3];rfl)
       have f3:((r.n:Int)==(r0.n:Int))=true:=beq_iff_eq.2 (by omega)
       replace hh:=Lib.hid hh;clear h1 h2 h3 hrn hrn0;clear hlt;have hlt:=hlh.out;have hbb:=hb.out;go_wp2
       go_roundw
       case rel=>exact⟨i+1,by omega,by go_num,fun j r' hj hjr=>(by rcases Nat.lt_or_ge j i with h1 | h1;exact hall.out j r' h1 hjr;obtain rfl:j=i:=(by omega);rw[hr.out] at hjr;injection hjr with hjr;subst hjr;exact hx.out),B.out⟩
       case measure=>simp[intOf];omega
      ·have hx:=Lib.hid (show (rowM (colM M) r)=false by unfold rowM;rw[hh,decide_eq_false h3,Bool.and_false])
       have f3:((r.n:Int)==(r0.n:Int))=false:=beq_eq_false_iff_ne.2 (by omega)
       clear h1 h2 h3 hrn hrn0;replace hh:=Lib.hid hh;clear hlt;go_wp2;go_ret;exact⟨by rw[all_false hr.out (f:=rowM (colM M)) hx.out];rfl,B.out⟩
   ·obtain rfl:i=n:=by omega
    have hfin:=Lib.hid (show M.all (rowM (colM M))=true from all_true (fun j r hj hjr=>hall j r (by rw[←hlen.out];exact hj) hjr))
    clear hall hin;replace B:=Lib.hid B;go_wp2;go_ret;exact⟨by rw[hfin.out];rfl,B.out⟩
 ·rw[decide_eq_false hnk,Bool.false_and]
  have g0:96<n:=by omega
  clear hnk hn;go_enter Tryz.func34,Tryz.ntmps34;go_wp2;go_ret;exact⟨rfl,Below.refl _ _⟩
theorem cols_any (M:List Ro) (A:Option Addr) (n c:Nat) (w:World) (h:Mr w A n c M):Calls Tryz.prog 35 #[.slice A n c] w fun e w'=>e=.returned (.int .i64 (colM M))∧Below w.heap.size w w':=by
 have hlen:=h.len
 rcases Nat.eq_zero_or_pos n with h0 | h0
 ·subst h0
  obtain rfl:M=[]:=List.length_eq_zero_iff.1 hlen;replace h:=Lib.hid h;go_enter Tryz.func35,Tryz.ntmps35;go_wp2;go_ret;exact⟨rfl,Below.refl _ _⟩
 ·obtain⟨b,o,r,rfl,hr,hrm,e0⟩:=h.get h0
  rw[headM hr];rw[Nat.add_zero] at e0;have g1:¬ n=0:=by omega
  clear h hlen hr hrm;go_enter Tryz.func35,Tryz.ntmps35;go_wp2;go_ret;exact⟨rfl,Below.refl _ _⟩
end Go.Proofs.YthlinhconnmbcaaGreat
namespace Go.Proofs.YthlinhconnmbcaaGreat
open Go.RowKit RQ
def Rt.can (r:Rt):Prop:=r.b=ng r.q.num∧r.x=limbs r.q.num.natAbs∧r.y=dn r.q∧Rs r.q 9000000
theorem sameE (r s:Rt) (hr:r.can) (hs:s.can) (hq:r.q=s.q) (W:World) (h1:r.raw W) (h2:s.raw W):Calls Tryz.prog 14 #[.agg #[.bool r.b,.slice r.A r.n r.c,.slice r.D r.m r.d],.agg #[.bool s.b,.slice s.A s.n s.c,.slice s.D s.m s.d]] W fun e w'=>e=.returned (.bool true)∧Below W.heap.size W w':=by
 obtain⟨b,A,n,c,x,D,m,d,y,q⟩:=r;obtain⟨b',A',n',c',x',D',m',d',y',q'⟩:=s;obtain⟨e1,e2,e3,e4⟩:=hr;obtain⟨f1,f2,f3,f4⟩:=hs
 dsimp only at e1 e2 e3 e4 f1 f2 f3 f4 hq
 subst e1;subst e2;subst e3;subst f1;subst f2;subst f3;subst hq;exact sameT q q rfl _ _ _ _ _ _ _ _ _ _ _ _ W ⟨h1.1,h1.2⟩ ⟨h2.1,h2.2⟩ (e4.mono (by decide)) (e4.mono (by decide))
theorem map_get {α β:Type} {L L':List α} {f:α→β} (h:L.map f=L'.map f) {i:Nat} {r s:α} (hr:L[i]?=some r) (hs:L'[i]?=some s):f r=f s:=by
 have:(L.map f)[i]?=(L'.map f)[i]?:=by rw[h]
 rw[List.getElem?_map,List.getElem?_map,hr,hs] at this
 exact Option.some.inj this
theorem sameList_any (L L':List Rt) (A:Option Addr) (n c:Nat) (A':Option Addr) (n' c':Nat) (w:World) (h:Sr w A n c L) (h':Sr w A' n' c' L') (ca:∀ r∈L,r.can) (cb:∀ r∈L',r.can) (he:L.map (·.q)=L'.map (·.q)) (hk:n≤1000):Calls Tryz.prog 27 #[.slice A n c,.slice A' n' c'] w fun e w'=>e=.returned (.bool true)∧Below w.heap.size w w':=by
 obtain rfl:n=n':=by have:=congrArg List.length he;rw[List.length_map,List.length_map,h.len,h'.len] at this;exact this
 replace h:=Lib.hid h;replace h':=Lib.hid h';replace ca:=Lib.hid ca;replace cb:=Lib.hid cb;replace he:=Lib.hid he;have hb:=Lib.hid hk;clear hk;go_enter Tryz.func27,Tryz.ntmps27;go_wp2
 go_loopw [5] (fun iv wr=>∃ (i:Nat),i≤n∧iv=.int .i64 i∧Below w.heap.size w wr) (fun iv _=>n-(intOf iv).toNat)
 case atStart=>exact⟨0,Nat.zero_le _,rfl,Below.refl _ _⟩
 case round=>
  obtain⟨i,hin,rfl,B⟩:=hrel
  by_cases hlt:i<n
  ·obtain⟨b,o,r,rfl,hr,hrm,e0,e1,e2⟩:=(h.out.bel B.drew).get hlt
   obtain⟨b',o',s,rfl,hs,hsm,f0,f1,f2⟩:=(h'.out.bel B.drew).get hlt;have hS:=Lib.hid (fun W h1 h2=>sameE r s (ca.out r hrm) (cb.out s hsm) (map_get he.out hr hs) W h1 h2)
   have R1:=Lib.hid ((h.out.bel B.drew).rd r hrm);have R2:=Lib.hid ((h'.out.bel B.drew).rd s hsm);have hlh:=Lib.hid hlt;have g1:(i:Int)<(n:Int):=by omega
   have g2:(0:Int)≤(i:Int):=by omega
   have Bd:=Lib.hid B.drew;clear hlt hin hrm hsm hr hs B;go_wp2
   go_region_with (go_at_call 14;refine (hS.out _ R1.out R2.out).mono ?_;rintro e w1 ⟨rfl,bb⟩)
   all_goals
    have T:=Lib.hid (Bd.out.trans (bb.mono Bd.out.size));clear bb Bd e0 e1 e2 f0 f1 f2 R1 R2;have hlt:=hlh.out;have hbb:=hb.out;go_wp2
    go_roundw
    case rel=>exact⟨i+1,by omega,by go_num,T.out⟩
    case measure=>simp[intOf];omega
  ·obtain rfl:i=n:=by omega
   clear hin;replace B:=Lib.hid B;go_wp2;go_ret;exact⟨rfl,B.out⟩
end Go.Proofs.YthlinhconnmbcaaGreat
namespace Go.Proofs.YthlinhconnmbcaaGreat
open Go.RowKit RQ
def canM (M:List Ro):Prop:=∀ r∈M,r.n≤1000∧∀ x∈r.L,x.can
def qM (M:List Ro):List (List Rat):=M.map fun r=>r.L.map (·.q)
theorem sameLists_any (L L':List Ro) (A:Option Addr) (n c:Nat) (A':Option Addr) (n' c':Nat) (w:World) (h:Mr w A n c L) (h':Mr w A' n' c' L') (ca:canM L) (cb:canM L') (he:qM L=qM L') (hk:n≤1000):Calls Tryz.prog 32 #[.slice A n c,.slice A' n' c'] w fun e w'=>e=.returned (.bool true)∧Below w.heap.size w w':=by
 obtain rfl:n=n':=by have:=congrArg List.length he;unfold qM at this;rw[List.length_map,List.length_map,h.len,h'.len] at this;exact this
 replace h:=Lib.hid h;replace h':=Lib.hid h';replace ca:=Lib.hid ca;replace cb:=Lib.hid cb;replace he:=Lib.hid he;have hb:=Lib.hid hk;clear hk;go_enter Tryz.func32,Tryz.ntmps32;go_wp2
 go_loopw [5] (fun iv wr=>∃ (i:Nat),i≤n∧iv=.int .i64 i∧Below w.heap.size w wr) (fun iv _=>n-(intOf iv).toNat)
 case atStart=>exact⟨0,Nat.zero_le _,rfl,Below.refl _ _⟩
 case round=>
  obtain⟨i,hin,rfl,B⟩:=hrel
  by_cases hlt:i<n
  ·obtain⟨b,o,r,rfl,hr,hrm,e0⟩:=(h.out.bel B.drew).get hlt
   obtain⟨b',o',s,rfl,hs,hsm,f0⟩:=(h'.out.bel B.drew).get hlt;have hS:=Lib.hid (fun W h1 h2=>sameList_any r.L s.L r.A r.n r.c s.A s.n s.c W h1 h2 (ca.out r hrm).2 (cb.out s hsm).2 (map_get (f:=fun r:Ro=>r.L.map (fun z:Rt=>z.q)) (L:=L) (L':=L') he.out hr hs) (ca.out r hrm).1)
   have R1:=Lib.hid ((h.out.bel B.drew).rd r hrm);have R2:=Lib.hid ((h'.out.bel B.drew).rd s hsm);have hlh:=Lib.hid hlt;have g1:(i:Int)<(n:Int):=by omega
   have g2:(0:Int)≤(i:Int):=by omega
   have Bd:=Lib.hid B.drew;clear hlt hin hrm hsm hr hs B;go_wp2
   go_region_with (go_at_call 27;refine (hS.out _ R1.out R2.out).mono ?_;rintro e w1 ⟨rfl,bb⟩)
   all_goals
    have T:=Lib.hid (Bd.out.trans (bb.mono Bd.out.size));clear bb Bd e0 f0 R1 R2;have hlt:=hlh.out;have hbb:=hb.out;go_wp2
    go_roundw
    case rel=>exact⟨i+1,by omega,by go_num,T.out⟩
    case measure=>simp[intOf];omega
  ·obtain rfl:i=n:=by omega
   clear hin;replace B:=Lib.hid B;go_wp2;go_ret;exact⟨rfl,B.out⟩
end Go.Proofs.YthlinhconnmbcaaGreat
namespace Go.Proofs.YthlinhconnmbcaaGreat
open Go.RowKit RQ
theorem Mr.get' {W:World} {A:Option Addr} {n c:Nat} {M:List Ro} (h:Mr W A n c M) {i:Nat} (hi:i<n):∃ b o r,A=some ⟨b,o,none⟩∧b<W.heap.size∧M[i]?=some r∧r∈M∧W.cell? ⟨b,o+i,none⟩=some (.slice r.A r.n r.c):=by
 have hl:=h.len
 rcases h.mem with h0 | ⟨b,o,hA,hb,hc⟩
 ·omega
 ·have e:M[i]?=some M[i]:=List.getElem?_eq_getElem (by omega)
  exact⟨b,o,M[i],hA,hb,e,List.getElem_mem _,hc i _ e⟩
end Go.Proofs.YthlinhconnmbcaaGreat
namespace Go.Proofs.YthlinhconnmbcaaGreat
open Go.RowKit RQ
def dq (a b:List Rat):Nat→Rat
 | 0=>0
 | i+1=>dq a b i+a.getD i 0*b.getD i 0
theorem dq_rs {a b:List Rat} {p:Nat} (ha:∀ x∈a,Rs x p) (hb:∀ x∈b,Rs x p) (hp:1≤p):∀ i,Rs (dq a b i) (i*(p+p+1)+1):=by
 have z:Rs (0:Rat) 1:=⟨by decide,by decide⟩
 have g:∀ (l:List Rat) i,(∀ x∈l,Rs x p)→Rs (l.getD i 0) p:=fun l i h=>by
  rw[List.getD_eq_getElem?_getD]
  rcases e:l[i]? with _ | x
  ·exact z.mono hp
  ·exact h x (List.mem_of_getElem? e)
 intro i
 induction i with
 | zero=>exact z.mono (by omega)
 | succ i ih=>exact (ih.add ((g a i ha).mul (g b i hb))).mono (by rw[Nat.succ_mul];omega)
theorem map_getD {L:List Rt} {i:Nat} {r:Rt} (h:L[i]?=some r):(L.map (·.q)).getD i 0=r.q:=by
 rw[List.getD_eq_getElem?_getD,List.getElem?_map,h];rfl
end Go.Proofs.YthlinhconnmbcaaGreat
