/- sum of rational: numbers of any size. -/
import Derived.Test.YthlinhconnmbcaaGreatB09
import Derived.Test.YthlinhconnmbcaaGreatB08
import Derived.Test.YthlinhconnmbcaaGreatB05
set_option maxRecDepth 100000
set_option maxHeartbeats 40000000
set_option linter.unusedVariables false
namespace Go.Proofs.YthlinhconnmbcaaGreat
open Go.RowKit RQ
theorem len_mono2 {a b p:Nat} (h:a≤b) (hb:(limbs b).length≤p):(limbs a).length≤p:=limbs_len_le.2 (Nat.lt_of_le_of_lt h (limbs_len_le.1 hb))
theorem addI_len2 {a b:Int} {p:Nat} (h1:(limbs a.natAbs).length≤p) (h2:(limbs b.natAbs).length≤p):(limbs (a+b).natAbs).length≤p+1:=by
 rw[limbs_len_le] at *;have:=Int.natAbs_add_le a b;rw[Nat.pow_succ];omega
theorem mulI_len2 {a b:Int} {p k:Nat} (h1:(limbs a.natAbs).length≤p) (h2:(limbs b.natAbs).length≤k):(limbs (a*b).natAbs).length≤p+k:=by
 rw[limbs_len_le] at *;rw[Int.natAbs_mul,Nat.pow_add];exact mul_lt h1 h2
theorem over_u {P g:Nat} (h1:(limbs P).length≤50000000) (h2:(limbs g).length≤50000000) (hg:0<g) (W:World) (A:Option Addr) (n c:Nat) (A':Option Addr) (n' c':Nat) (q1:Rd W A n c (limbs P)) (q2:Rd W A' n' c' (limbs g)) :
  Calls Tryz.prog 109 #[.agg #[.bool false,.slice A n c],.agg #[.bool false,.slice A' n' c']] W (RetU (P / g) W):=by
 have:=over_any (P:Int) A n c g A' n' c' W (by rw[Int.natAbs_natCast];exact q1) q2 (by rw[←q1.len];exact h1) (by rw[←q2.len];exact h2) hg
 rw[ngN,←Int.natCast_ediv] at this;exact this.mono fun _ _ h=>RetI.u h
theorem over_i {z:Int} {g:Nat} (h1:(limbs z.natAbs).length≤50000000) (h2:(limbs g).length≤50000000) (hg:0<g) (W:World) (A:Option Addr) (n c:Nat) (A':Option Addr) (n' c':Nat) (q1:Rd W A n c (limbs z.natAbs)) (q2:Rd W A' n' c' (limbs g)) :
  Calls Tryz.prog 109 #[.agg #[.bool (ng z),.slice A n c],.agg #[.bool false,.slice A' n' c']] W (RetI (z / (g:Int)) W):=
 over_any z A n c g A' n' c' W q1 q2 (by rw[←q1.len];exact h1) (by rw[←q2.len];exact h2) hg
theorem divisor_u {P g:Nat} (h1:(limbs P).length≤50000000) (h2:(limbs g).length≤50000000) (W:World) (A:Option Addr) (n c:Nat) (A':Option Addr) (n' c':Nat) (q1:Rd W A n c (limbs P)) (q2:Rd W A' n' c' (limbs g)) :
  Calls Tryz.prog 108 #[.agg #[.bool false,.slice A n c],.agg #[.bool false,.slice A' n' c']] W (RetU (Int.gcd (P:Int) (g:Int)) W):=by
 have:=divisor_any false A n c _ false A' n' c' _ W q1 q2 (by rw[←q1.len];exact h1) (by rw[←q2.len];exact h2)
 rw[iv_pos,iv_pos] at this;exact this.mono fun _ _ h=>RetI.u h
theorem divisor_iu {z:Int} {g:Nat} (h1:(limbs z.natAbs).length≤50000000) (h2:(limbs g).length≤50000000) (W:World) (A:Option Addr) (n c:Nat) (A':Option Addr) (n' c':Nat) (q1:Rd W A n c (limbs z.natAbs)) (q2:Rd W A' n' c' (limbs g)) :
  Calls Tryz.prog 108 #[.agg #[.bool (ng z),.slice A n c],.agg #[.bool false,.slice A' n' c']] W (RetU (Int.gcd z (g:Int)) W):=by
 have:=divisor_any (ng z) A n c _ false A' n' c' _ W q1 q2 (by rw[←q1.len];exact h1) (by rw[←q2.len];exact h2)
 rw[iv_z,iv_pos] at this;exact this.mono fun _ _ h=>RetI.u h
theorem mul_iu {z:Int} {g:Nat} (h1:(limbs z.natAbs).length≤100000000) (h2:(limbs g).length≤100000000) (W:World) (A:Option Addr) (n c:Nat) (A':Option Addr) (n' c':Nat) (q1:Rd W A n c (limbs z.natAbs)) (q2:Rd W A' n' c' (limbs g)) :
  Calls Tryz.prog 106 #[.agg #[.bool (ng z),.slice A n c],.agg #[.bool false,.slice A' n' c']] W (RetI (z*(g:Int)) W):=by
 have:=mulI_any (ng z) A n c _ false A' n' c' _ W q1 q2 (by rw[←q1.len];exact h1) (by rw[←q2.len];exact h2)
 rwa [iv_z,iv_pos] at this
theorem mul_uu {P g:Nat} (h1:(limbs P).length≤100000000) (h2:(limbs g).length≤100000000) (W:World) (A:Option Addr) (n c:Nat) (A':Option Addr) (n' c':Nat) (q1:Rd W A n c (limbs P)) (q2:Rd W A' n' c' (limbs g)) :
  Calls Tryz.prog 106 #[.agg #[.bool false,.slice A n c],.agg #[.bool false,.slice A' n' c']] W (RetU (P*g) W):=by
 have:=mulI_any false A n c _ false A' n' c' _ W q1 q2 (by rw[←q1.len];exact h1) (by rw[←q2.len];exact h2)
 rw[iv_pos,iv_pos,←Int.natCast_mul] at this;exact this.mono fun _ _ h=>RetI.u h
theorem mul_ii {z y:Int} (h1:(limbs z.natAbs).length≤100000000) (h2:(limbs y.natAbs).length≤100000000) (W:World) (A:Option Addr) (n c:Nat) (A':Option Addr) (n' c':Nat) (q1:Rd W A n c (limbs z.natAbs)) (q2:Rd W A' n' c' (limbs y.natAbs)) :
  Calls Tryz.prog 106 #[.agg #[.bool (ng z),.slice A n c],.agg #[.bool (ng y),.slice A' n' c']] W (RetI (z*y) W):=by
 have:=mulI_any (ng z) A n c _ (ng y) A' n' c' _ W q1 q2 (by rw[←q1.len];exact h1) (by rw[←q2.len];exact h2)
 rwa [iv_z,iv_z] at this
theorem add_ii {z y:Int} (h1:(limbs z.natAbs).length≤50000000) (h2:(limbs y.natAbs).length≤50000000) (W:World) (A:Option Addr) (n c:Nat) (A':Option Addr) (n' c':Nat) (q1:Rd W A n c (limbs z.natAbs)) (q2:Rd W A' n' c' (limbs y.natAbs)) :
  Calls Tryz.prog 111 #[.agg #[.bool (ng z),.slice A n c],.agg #[.bool (ng y),.slice A' n' c']] W (RetI (z+y) W):=by
 have:=addI_any (ng z) A n c _ (ng y) A' n' c' _ W q1 q2 (by rw[←q1.len];exact h1) (by rw[←q2.len];exact h2)
 rwa [iv_z,iv_z] at this
theorem den_u (x:Rat) (W:World) (A:Option Addr) (n c:Nat) (D:Option Addr) (m d:Nat) (R:RR W A n c D m d x) :
  Calls Tryz.prog 107 #[.agg #[.bool (ng x.num),.slice A n c,.slice D m d]] W (RetU x.den W):=
 (denominator_any x A n c D m d W R).mono fun _ _ h=>RetI.u h
theorem sum_long (x y:Rat) (A:Option Addr) (n c:Nat) (D:Option Addr) (m d:Nat) (A':Option Addr) (n' c':Nat) (D':Option Addr) (m' d':Nat) (w:World) (X:RR w A n c D m d x) (Y:RR w A' n' c' D' m' d' y) (hs:(shq x&&shq y)=false) (hx:Rs x 20000000) (hy:Rs y 20000000) (hm:¬ m=0) :
  Calls Tryz.prog 85 #[.agg #[.bool (ng x.num),.slice A n c,.slice D m d],.agg #[.bool (ng y.num),.slice A' n' c',.slice D' m' d']] w (RetR (x+y) w):=by
 have hB:Hid (∀ W,RR W A n c D m d x→RR W A' n' c' D' m' d' y→Calls Tryz.prog 104 #[.agg #[.bool (ng x.num),.slice A n c,.slice D m d],.agg #[.bool (ng y.num),.slice A' n' c',.slice D' m' d']] W fun e w'=>∃ a b c d:Int,e=.returned (.tuple #[.agg #[.int .i64 a,.int .i64 b],.agg #[.int .i64 c,.int .i64 d],.bool false])∧Below W.heap.size W w'):=Lib.hid fun W h h'=>(bothShort_any x y A n c D m d A' n' c' D' m' d' W h h').mono (by
  rintro e w' ⟨a,b,c,d,rfl,h,bb⟩;rw[hs];exact⟨a,b,c,d,rfl,bb⟩)
 have R1:=X.n;have R2:=X.d;have R3:=Y.n;have R4:=Y.d;have kx:(limbs x.num.natAbs).length≤20000000:=limbs_len_le.2 hx.n;have ky:(limbs y.num.natAbs).length≤20000000:=limbs_len_le.2 hy.n;have kp:(limbs x.den).length≤20000000:=limbs_len_le.2 hx.d;have kq:(limbs y.den).length≤20000000:=limbs_len_le.2 hy.d;obtain⟨g,eg⟩:∃ g:Nat,g=Int.gcd (x.den:Int) (y.den:Int):=⟨_,rfl⟩;obtain⟨b1,eb⟩:∃ b1:Nat,b1=x.den / g:=⟨_,rfl⟩
 obtain⟨d1,ed⟩:∃ d1:Nat,d1=y.den / g:=⟨_,rfl⟩;obtain⟨z1,e1⟩:∃ z1:Int,z1=x.num*(d1:Int):=⟨_,rfl⟩;obtain⟨z2,e2⟩:∃ z2:Int,z2=y.num*(b1:Int):=⟨_,rfl⟩;obtain⟨r,er⟩:∃ r:Nat,r=Int.gcd (z1+z2) (g:Int):=⟨_,rfl⟩;obtain⟨d2,ef⟩:∃ d2:Nat,d2=y.den / r:=⟨_,rfl⟩;obtain⟨en,ede,gp,rp⟩:=sum_eq x y g r (b1:Int) (z1+z2) eg (by rw[eb,Int.natCast_ediv]) (by rw[e1,e2,ed,Int.natCast_ediv]) er
 have ede2:b1*d2=(x+y).den:=by
  rw[←Int.natCast_ediv,←ef,←Int.natCast_mul] at ede;exact (Int.ofNat.inj ede).symm
 have kg:(limbs g).length≤20000000:=len_mono2 (by rw[eg];exact Nat.le_of_dvd x.den_pos (Nat.gcd_dvd_left _ _)) kp
 have kb:(limbs b1).length≤20000000:=len_mono2 (by rw[eb];exact Nat.div_le_self _ _) kp
 have kd:(limbs d1).length≤20000000:=len_mono2 (by rw[ed];exact Nat.div_le_self _ _) kq
 have kd2:(limbs d2).length≤20000000:=len_mono2 (by rw[ef];exact Nat.div_le_self _ _) kq
 have kr:(limbs r).length≤20000000:=len_mono2 (by rw[er];exact Nat.le_of_dvd gp (Nat.gcd_dvd_right _ _)) kg
 have k1:(limbs z1.natAbs).length≤40000000:=by rw[e1];exact mulI_len2 kx (by rw[Int.natAbs_natCast];exact kd)
 have k2:(limbs z2.natAbs).length≤40000000:=by rw[e2];exact mulI_len2 ky (by rw[Int.natAbs_natCast];exact kb)
 have kn:=addI_len2 k1 k2;have hX:=Lib.hid (den_u x);have hY:=Lib.hid (den_u y);have hC:=Lib.hid (divisor_u (P:=x.den) (g:=y.den) (by omega) (by omega))
 have hO1:=Lib.hid (over_u (P:=x.den) (g:=g) (by omega) (by omega) gp)
 have hO2:=Lib.hid (over_u (P:=y.den) (g:=g) (by omega) (by omega) gp)
 have hM1:=Lib.hid (mul_iu (z:=x.num) (g:=d1) (by omega) (by omega))
 have hM2:=Lib.hid (mul_iu (z:=y.num) (g:=b1) (by omega) (by omega))
 have hA:=Lib.hid (add_ii (z:=z1) (y:=z2) (by omega) (by omega))
 have hR:=Lib.hid (divisor_iu (z:=z1+z2) (g:=g) (by omega) (by omega))
 have hO3:=Lib.hid (over_i (z:=z1+z2) (g:=r) (by omega) (by omega) rp)
 have hO4:=Lib.hid (over_u (P:=y.den) (g:=r) (by omega) (by omega) rp)
 have hM3:=Lib.hid (mul_uu (P:=b1) (g:=d2) (by omega) (by omega))
 rw[←eg] at hC;rw[←eb] at hO1;rw[←ed] at hO2;rw[←e1] at hM1;rw[←e2] at hM2;rw[←er] at hR;rw[←en] at hO3;rw[←ef] at hO4;rw[ede2] at hM3;have hF:=Lib.hid (fun A n c D m1 d W h h'=>fraction_any (x+y) A n c D m1 d W h h')
 generalize hq:x+y=q at *;generalize hzn:z1+z2=zn at *;clear eg eb ed e1 e2 er ef en ede ede2 gp rp kx ky kp kq kg kb kd kd2 kr k1 k2 kn hs hx hy hq hzn X Y;have S:=((((((((St.new w).read R1).read R2).read R3).read R4).allocAt (w.heap.size) #[.bool (ng x.num),.slice A n c,.slice D m d] 33 (noL3 _ _ _ _ _ _ _) (by simp)).allocAt (w.heap.size+1) #[.bool (ng y.num),.slice A' n' c',.slice D' m' d'] 33 (noL3 _ _ _ _ _ _ _) (by simp)).allocAt (w.heap.size+1+1) #[.bool false,.slice none 0 0,.slice none 0 0] 33 (noL3 _ _ _ _ _ _ _) (by simp))
 replace S:=Lib.hid S;clear R1 R2 R3 R4;go_enter Tryz.func85,Tryz.ntmps85
 go_wp2_with fail
 refine (hB.out _ ⟨S.out.r 3 rfl,S.out.r 2 rfl⟩ ⟨S.out.r 1 rfl,S.out.r 0 rfl⟩).mono ?_
 rintro e w1 ⟨a1,b1',a2,b2',rfl,bb⟩;have T:=(S.out.call bb);clear bb S;have S:=T;clear T;obtain⟨c_r0,c_r1,c_r2,f_r0,f_r1,f_r2⟩:=S.cf3 0 rfl;obtain⟨c_y0,c_y1,c_y2,f_y0,f_y1,f_y2⟩:=S.cf3 1 rfl;obtain⟨c_x0,c_x1,c_x2,f_x0,f_x1,f_x2⟩:=S.cf3 2 rfl;have hz:w.heap.size+1+1<w1.heap.size:=S.lt 0 rfl;replace S:=Lib.hid S;clear hB;have S:=((S.out.allocAt (w1.heap.size) #[.int .i64 a1,.int .i64 b1'] 116 (noLi _ _) (by simp)).allocAt (w1.heap.size+1) #[.int .i64 a2,.int .i64 b2'] 116 (noLi _ _) (by simp))
 replace S:=Lib.hid S;have S:=S.out;obtain⟨a_x0,a_x1,a_x2,b_x0,b_x1,b_x2⟩:=S.cf3 4 rfl;obtain⟨a_y0,a_y1,a_y2,b_y0,b_y1,b_y2⟩:=S.cf3 3 rfl;replace S:=Lib.hid S;go_upto_region 6 with fail
 clear c_r0 f_r0 c_r1 f_r1 c_r2 f_r2 c_y0 f_y0 c_y1 f_y1 c_y2 f_y2 c_x0 f_x0 c_x1 f_x1 c_x2 f_x2 hz a_x0 b_x0 a_x1 b_x1 a_x2 b_x2 a_y0 b_y0 a_y1 b_y1 a_y2 b_y2;have S:=S.out;generalize hW2:(World.alloc (World.alloc w1 (.cells #[.int .i64 a1,.int .i64 b1'] 116)) (.cells #[.int .i64 a2,.int .i64 b2'] 116))=w2 at S ⊢;clear hW2;replace S:=Lib.hid S;refine RW.begin (Z:=[⟨4,8,#[.bool false,.slice none 0 0],31⟩,⟨5,9,#[.bool false,.slice none 0 0],31⟩]) (S:=(fun W=>Cb W (w.heap.size) #[.bool (ng x.num),.slice A n c,.slice D m d] 33∧Cb W (w.heap.size+1) #[.bool (ng y.num),.slice A' n' c',.slice D' m' d'] 33)) (by kernel_rfl) ?_ S.out ?_
 ·exact⟨by kernel_rfl,(zis_cons at4 (fun _ _=>by kernel_rfl) (zis_cons at5 (fun _ _=>by kernel_rfl) zis_nil)),by decide,by decide,(nol_cons (noL2 _ _ _ _) (nol_cons (noL2 _ _ _ _) nol_nil)),(fun _ _ h=>⟨h.kb 4 rfl,h.kb 3 rfl⟩)⟩
 intro hzk;clear S;refine RW.t (i:=0) (v:=.agg #[.bool (ng x.num),.slice A n c,.slice D m d]) (some 54) at0 (hy:=fun W hS=>by (have k0:=Cb.cell (i:=0) hS.1 rfl;have k1:=Cb.cell (i:=1) hS.1 rfl;have k2:=Cb.cell (i:=2) hS.1 rfl;clear hS;go_simp)) (h:=?_)
 refine RW.t (i:=2) (v:=.agg #[.bool (ng y.num),.slice A' n' c',.slice D' m' d']) (some 56) at2 (hy:=fun W hS=>by (have k0:=Cb.cell (i:=0) hS.2 rfl;have k1:=Cb.cell (i:=1) hS.2 rfl;have k2:=Cb.cell (i:=2) hS.2 rfl;clear hS;go_simp)) (h:=?_)
 refine RW.c (i:=1) (args:=#[.agg #[.bool (ng x.num),.slice A n c,.slice D m d]]) (some 55) hzk.out at1 (hx:=fun _=>by kernel_rfl) (h:=fun _ S=>(hX.out _ _ _ _ _ _ _ ⟨S.r 3 rfl,S.r 2 rfl⟩).mono ?_)
 rintro e w3 ⟨A2,n2,c2,rfl,Q2,bb⟩;refine⟨bb,_,[(A2,n2,c2,limbs x.den)],rfl,(rd_cons Q2 rd_nil),?_⟩
 clear bb S Q2;refine RW.c (i:=3) (args:=#[.agg #[.bool (ng y.num),.slice A' n' c',.slice D' m' d']]) (some 57) hzk.out at3 (hx:=fun _=>by kernel_rfl) (h:=fun _ S=>(hY.out _ _ _ _ _ _ _ ⟨S.r 2 rfl,S.r 1 rfl⟩).mono ?_)
 rintro e w4 ⟨A3,n3,c3,rfl,Q3,bb⟩;refine⟨bb,_,[(A3,n3,c3,limbs y.den)],rfl,(rd_cons Q3 rd_nil),?_⟩
 clear bb S Q3;refine RW.tail hzk.out (by kernel_rfl) ?_
 intro gs w5 hgs hS S;obtain⟨g_b,g_d,rfl⟩:=len2 hgs;clear hS hgs hzk;simp only[mark,fill,List.map,Act.put,sZ0,sZ1,sZ2];replace S:=Lib.hid S;refine Wk.o (i:=6) at6 (by kernel_rfl) fun K' hK=>?_
 have q6_b0:=St.cl (S.out) 0 0 rfl rfl;have q6_b1:=St.cl (S.out) 0 1 rfl rfl;have q6z_b0:=St.f (S.out) 0 0 rfl;have q6z_b1:=St.f (S.out) 0 1 rfl
 go_simp
 have SN:=((S.out.set 0 0 (.bool false) rfl (by nofun)).set 0 1 (.slice A2 n2 c2) rfl (by nofun))
 clear S q6_b0 q6_b1 q6z_b0 q6z_b1;have S:=SN;clear SN;refine hK.out _ _ ⟨(S.cb 6 rfl),(S.cb 5 rfl)⟩ ?_
 clear hK K';replace S:=Lib.hid S
 try simp only[Act.put,sZ0,sZ1,sZ2]
 refine Wk.o (i:=7) at7 (by kernel_rfl) fun K' hK=>?_
 have q7_d0:=St.cl (S.out) 1 0 rfl rfl;have q7_d1:=St.cl (S.out) 1 1 rfl rfl;have q7z_d0:=St.f (S.out) 1 0 rfl;have q7z_d1:=St.f (S.out) 1 1 rfl
 go_simp
 have SN:=((S.out.set 1 0 (.bool false) rfl (by nofun)).set 1 1 (.slice A3 n3 c3) rfl (by nofun))
 clear S q7_d0 q7_d1 q7z_d0 q7z_d1;have S:=SN;clear SN;refine hK.out _ _ ⟨(S.cb 6 rfl),(S.cb 5 rfl)⟩ ?_
 clear hK K';replace S:=Lib.hid S
 try simp only[Act.put,sZ0,sZ1,sZ2]
 refine Wk.done (by kernel_rfl) ?_
 go_simp
 replace S:=S.out;have S:St w _ [(g_b,#[.bool false,.slice A2 n2 c2],31),(g_d,#[.bool false,.slice A3 n3 c3],31),(w1.heap.size+1,#[.int .i64 a2,.int .i64 b2'],116),(w1.heap.size,#[.int .i64 a1,.int .i64 b1'],116),(w.heap.size+1+1,#[.bool false,.slice none 0 0,.slice none 0 0],33),(w.heap.size+1,#[.bool (ng y.num),.slice A' n' c',.slice D' m' d'],33),(w.heap.size,#[.bool (ng x.num),.slice A n c,.slice D m d],33)] [(A3,n3,c3,limbs y.den),(A2,n2,c2,limbs x.den),(D',m',d',dn y),(A',n',c',limbs y.num.natAbs),(D,m,d,dn x),(A,n,c,limbs x.num.natAbs)]:=S
 generalize hW6:(World.setCell (World.setCell (World.setCell (World.setCell w5 ⟨g_b,0,none⟩ (.bool false)) ⟨g_b,1,none⟩ (.slice A2 n2 c2)) ⟨g_d,0,none⟩ (.bool false)) ⟨g_d,1,none⟩ (.slice A3 n3 c3))=w6 at S ⊢;clear hW6;replace S:=Lib.hid S;replace S:=S.out;obtain⟨c_b0,c_b1,f_b0,f_b1⟩:=S.cf2 0 rfl;obtain⟨c_d0,c_d1,f_d0,f_d1⟩:=S.cf2 1 rfl;obtain⟨c_t0,c_t1,f_t0,f_t1⟩:=S.cf2 2 rfl;obtain⟨c_s0,c_s1,f_s0,f_s1⟩:=S.cf2 3 rfl
 obtain⟨c_r0,c_r1,c_r2,f_r0,f_r1,f_r2⟩:=S.cf3 4 rfl;obtain⟨c_y0,c_y1,c_y2,f_y0,f_y1,f_y2⟩:=S.cf3 5 rfl;obtain⟨c_x0,c_x1,c_x2,f_x0,f_x1,f_x2⟩:=S.cf3 6 rfl;have hz:g_b<w6.heap.size:=S.lt 0 rfl;replace S:=Lib.hid S;clear hX hY
 go_wp2_with fail
 refine (hC.out _ _ _ _ _ _ _ (S.out.r 1 rfl) (S.out.r 0 rfl)).mono ?_
 rintro e w7 ⟨A4,n4,c4,rfl,Q4,bb⟩;have T:=((S.out.call bb).read Q4);clear bb S c_b0 f_b0 c_b1 f_b1 c_d0 f_d0 c_d1 f_d1 c_t0 f_t0 c_t1 f_t1 c_s0 f_s0 c_s1 f_s1 c_r0 f_r0 c_r1 f_r1 c_r2 f_r2 c_y0 f_y0 c_y1 f_y1 c_y2 f_y2 c_x0 f_x0 c_x1 f_x1 c_x2 f_x2 hz;have S:=T;clear T;obtain⟨c_b0,c_b1,f_b0,f_b1⟩:=S.cf2 0 rfl;obtain⟨c_d0,c_d1,f_d0,f_d1⟩:=S.cf2 1 rfl;obtain⟨c_t0,c_t1,f_t0,f_t1⟩:=S.cf2 2 rfl;obtain⟨c_s0,c_s1,f_s0,f_s1⟩:=S.cf2 3 rfl
 obtain⟨c_r0,c_r1,c_r2,f_r0,f_r1,f_r2⟩:=S.cf3 4 rfl;obtain⟨c_y0,c_y1,c_y2,f_y0,f_y1,f_y2⟩:=S.cf3 5 rfl;obtain⟨c_x0,c_x1,c_x2,f_x0,f_x1,f_x2⟩:=S.cf3 6 rfl;have hz:g_b<w7.heap.size:=S.lt 0 rfl;replace S:=Lib.hid S;clear Q4 hC;have S:=(S.out.allocAt (w7.heap.size) #[.bool false,.slice A4 n4 c4] 31 (noL2 _ _ _ _) (by simp))
 obtain⟨a_b0,a_b1,b_b0,b_b1⟩:=S.cf2 1 rfl;obtain⟨a_g0,a_g1,b_g0,b_g1⟩:=S.cf2 0 rfl;replace S:=Lib.hid S
 go_wp2_with fail
 refine (hO1.out _ _ _ _ _ _ _ (S.out.r 2 rfl) (S.out.r 0 rfl)).mono ?_
 rintro e w8 ⟨A5,n5,c5,rfl,Q5,bb⟩;have T:=((S.out.call bb).read Q5);clear bb S c_b0 f_b0 c_b1 f_b1 c_d0 f_d0 c_d1 f_d1 c_t0 f_t0 c_t1 f_t1 c_s0 f_s0 c_s1 f_s1 c_r0 f_r0 c_r1 f_r1 c_r2 f_r2 c_y0 f_y0 c_y1 f_y1 c_y2 f_y2 c_x0 f_x0 c_x1 f_x1 c_x2 f_x2 hz a_b0 b_b0 a_b1 b_b1 a_g0 b_g0 a_g1 b_g1;have S:=T;clear T;obtain⟨c_g0,c_g1,f_g0,f_g1⟩:=S.cf2 0 rfl;obtain⟨c_b0,c_b1,f_b0,f_b1⟩:=S.cf2 1 rfl;obtain⟨c_d0,c_d1,f_d0,f_d1⟩:=S.cf2 2 rfl
 obtain⟨c_t0,c_t1,f_t0,f_t1⟩:=S.cf2 3 rfl;obtain⟨c_s0,c_s1,f_s0,f_s1⟩:=S.cf2 4 rfl;obtain⟨c_r0,c_r1,c_r2,f_r0,f_r1,f_r2⟩:=S.cf3 5 rfl;obtain⟨c_y0,c_y1,c_y2,f_y0,f_y1,f_y2⟩:=S.cf3 6 rfl;obtain⟨c_x0,c_x1,c_x2,f_x0,f_x1,f_x2⟩:=S.cf3 7 rfl;have hz:w7.heap.size<w8.heap.size:=S.lt 0 rfl;replace S:=Lib.hid S;clear Q5 hO1;go_upto_region 9 with fail
 clear c_g0 f_g0 c_g1 f_g1 c_b0 f_b0 c_b1 f_b1 c_d0 f_d0 c_d1 f_d1 c_t0 f_t0 c_t1 f_t1 c_s0 f_s0 c_s1 f_s1 c_r0 f_r0 c_r1 f_r1 c_r2 f_r2 c_y0 f_y0 c_y1 f_y1 c_y2 f_y2 c_x0 f_x0 c_x1 f_x1 c_x2 f_x2 hz;have S:St w _ [(w7.heap.size,#[.bool false,.slice A4 n4 c4],31),(g_b,#[.bool false,.slice A5 n5 c5],31),(g_d,#[.bool false,.slice A3 n3 c3],31),(w1.heap.size+1,#[.int .i64 a2,.int .i64 b2'],116),(w1.heap.size,#[.int .i64 a1,.int .i64 b1'],116),(w.heap.size+1+1,#[.bool false,.slice none 0 0,.slice none 0 0],33),(w.heap.size+1,#[.bool (ng y.num),.slice A' n' c',.slice D' m' d'],33),(w.heap.size,#[.bool (ng x.num),.slice A n c,.slice D m d],33)] [(A5,n5,c5,limbs b1),(A4,n4,c4,limbs g),(A3,n3,c3,limbs y.den),(A2,n2,c2,limbs x.den),(D',m',d',dn y),(A',n',c',limbs y.num.natAbs),(D,m,d,dn x),(A,n,c,limbs x.num.natAbs)]:=((S.out.set 1 0 (.bool false) rfl (by nofun)).set 1 1 (.slice A5 n5 c5) rfl (by nofun))
 generalize hW9:(World.setCell (World.setCell w8 ⟨g_b,0,none⟩ (.bool false)) ⟨g_b,1,none⟩ (.slice A5 n5 c5))=w9 at S ⊢;clear hW9;replace S:=Lib.hid S;refine RW.begin (Z:=[⟨11,11,#[.bool false,.slice none 0 0],31⟩]) (S:=(fun W=>Cb W (w.heap.size) #[.bool (ng x.num),.slice A n c,.slice D m d] 33∧Cb W (w.heap.size+1) #[.bool (ng y.num),.slice A' n' c',.slice D' m' d'] 33∧Cb W (g_b) #[.bool false,.slice A5 n5 c5] 31∧Cb W (g_d) #[.bool false,.slice A3 n3 c3] 31∧Cb W (w7.heap.size) #[.bool false,.slice A4 n4 c4] 31)) (by kernel_rfl) ?_ S.out ?_
 ·exact⟨by kernel_rfl,(zis_cons at11 (fun _ _=>by kernel_rfl) zis_nil),by decide,by decide,(nol_cons (noL2 _ _ _ _) nol_nil),(fun _ _ h=>⟨h.kb 7 rfl,h.kb 6 rfl,h.kb 1 rfl,h.kb 2 rfl,h.kb 0 rfl⟩)⟩
 intro hzk;clear S;refine RW.t (i:=0) (v:=.pointer (some ⟨w.heap.size,0,none⟩)) (some 64) at0 (hy:=fun _ _=>by kernel_rfl) (h:=?_)
 refine RW.t (i:=1) (v:=.agg #[.bool (ng x.num),.slice A n c]) (some 65) at1 (hy:=fun W hS=>by (have k0:=Cb.cell (i:=0) hS.1 rfl;have k1:=Cb.cell (i:=1) hS.1 rfl;clear hS;go_simp)) (h:=?_)
 refine RW.t (i:=2) (v:=.agg #[.bool false,.slice A3 n3 c3]) (some 66) at2 (hy:=fun W hS=>by (have k0:=Cb.cell (i:=0) hS.2.2.2.1 rfl;have k1:=Cb.cell (i:=1) hS.2.2.2.1 rfl;clear hS;go_simp)) (h:=?_)
 refine RW.t (i:=3) (v:=.agg #[.bool false,.slice A4 n4 c4]) (some 67) at3 (hy:=fun W hS=>by (have k0:=Cb.cell (i:=0) hS.2.2.2.2 rfl;have k1:=Cb.cell (i:=1) hS.2.2.2.2 rfl;clear hS;go_simp)) (h:=?_)
 refine RW.t (i:=6) (v:=.pointer (some ⟨w.heap.size+1,0,none⟩)) (some 70) at6 (hy:=fun _ _=>by kernel_rfl) (h:=?_)
 refine RW.t (i:=7) (v:=.agg #[.bool (ng y.num),.slice A' n' c']) (some 71) at7 (hy:=fun W hS=>by (have k0:=Cb.cell (i:=0) hS.2.1 rfl;have k1:=Cb.cell (i:=1) hS.2.1 rfl;clear hS;go_simp)) (h:=?_)
 refine RW.t (i:=8) (v:=.agg #[.bool false,.slice A5 n5 c5]) (some 72) at8 (hy:=fun W hS=>by (have k0:=Cb.cell (i:=0) hS.2.2.1 rfl;have k1:=Cb.cell (i:=1) hS.2.2.1 rfl;clear hS;go_simp)) (h:=?_)
 refine RW.c (i:=4) (args:=#[.agg #[.bool false,.slice A3 n3 c3],.agg #[.bool false,.slice A4 n4 c4]]) (some 68) hzk.out at4 (hx:=fun _=>by kernel_rfl) (h:=fun _ S=>(hO2.out _ _ _ _ _ _ _ (S.r 2 rfl) (S.r 1 rfl)).mono ?_)
 rintro e w10 ⟨A6,n6,c6,rfl,Q6,bb⟩;refine⟨bb,_,[(A6,n6,c6,limbs d1)],rfl,(rd_cons Q6 rd_nil),?_⟩
 clear bb S Q6;refine RW.c (i:=5) (args:=#[.agg #[.bool (ng x.num),.slice A n c],.agg #[.bool false,.slice A6 n6 c6]]) (some 69) hzk.out at5 (hx:=fun _=>by kernel_rfl) (h:=fun _ S=>(hM1.out _ _ _ _ _ _ _ (S.r 8 rfl) (S.r 0 rfl)).mono ?_)
 rintro e w11 ⟨A7,n7,c7,rfl,Q7,bb⟩;refine⟨bb,_,[(A7,n7,c7,limbs z1.natAbs)],rfl,(rd_cons Q7 rd_nil),?_⟩
 clear bb S Q7;refine RW.c (i:=9) (args:=#[.agg #[.bool (ng y.num),.slice A' n' c'],.agg #[.bool false,.slice A5 n5 c5]]) (some 73) hzk.out at9 (hx:=fun _=>by kernel_rfl) (h:=fun _ S=>(hM2.out _ _ _ _ _ _ _ (S.r 7 rfl) (S.r 2 rfl)).mono ?_)
 rintro e w12 ⟨A8,n8,c8,rfl,Q8,bb⟩;refine⟨bb,_,[(A8,n8,c8,limbs z2.natAbs)],rfl,(rd_cons Q8 rd_nil),?_⟩
 clear bb S Q8;refine RW.c (i:=10) (args:=#[.agg #[.bool (ng z1),.slice A7 n7 c7],.agg #[.bool (ng z2),.slice A8 n8 c8]]) (some 74) hzk.out at10 (hx:=fun _=>by kernel_rfl) (h:=fun _ S=>(hA.out _ _ _ _ _ _ _ (S.r 1 rfl) (S.r 0 rfl)).mono ?_)
 rintro e w13 ⟨A9,n9,c9,rfl,Q9,bb⟩;refine⟨bb,_,[(A9,n9,c9,limbs zn.natAbs)],rfl,(rd_cons Q9 rd_nil),?_⟩
 clear bb S Q9;refine RW.tail hzk.out (by kernel_rfl) ?_
 intro gs w14 hgs hS S;obtain⟨g_n,rfl⟩:=len1' hgs;clear hS hgs hzk;simp only[mark,fill,List.map,Act.put,sZ0,sZ1,sZ2];replace S:=Lib.hid S;refine Wk.o (i:=12) at12 (by kernel_rfl) fun K' hK=>?_
 have q12_n0:=St.cl (S.out) 0 0 rfl rfl;have q12_n1:=St.cl (S.out) 0 1 rfl rfl;have q12z_n0:=St.f (S.out) 0 0 rfl;have q12z_n1:=St.f (S.out) 0 1 rfl
 go_simp
 have SN:=((S.out.set 0 0 (.bool (ng zn)) rfl (by nofun)).set 0 1 (.slice A9 n9 c9) rfl (by nofun))
 clear S q12_n0 q12_n1 q12z_n0 q12z_n1;have S:=SN;clear SN;refine hK.out _ _ ⟨(S.cb 8 rfl),(S.cb 7 rfl),(S.cb 2 rfl),(S.cb 3 rfl),(S.cb 1 rfl)⟩ ?_
 clear hK K';replace S:=Lib.hid S
 try simp only[Act.put,sZ0,sZ1,sZ2]
 refine Wk.done (by kernel_rfl) ?_
 go_simp
 replace S:=S.out;have S:St w _ [(g_n,#[.bool (ng zn),.slice A9 n9 c9],31),(w7.heap.size,#[.bool false,.slice A4 n4 c4],31),(g_b,#[.bool false,.slice A5 n5 c5],31),(g_d,#[.bool false,.slice A3 n3 c3],31),(w1.heap.size+1,#[.int .i64 a2,.int .i64 b2'],116),(w1.heap.size,#[.int .i64 a1,.int .i64 b1'],116),(w.heap.size+1+1,#[.bool false,.slice none 0 0,.slice none 0 0],33),(w.heap.size+1,#[.bool (ng y.num),.slice A' n' c',.slice D' m' d'],33),(w.heap.size,#[.bool (ng x.num),.slice A n c,.slice D m d],33)] [(A9,n9,c9,limbs zn.natAbs),(A8,n8,c8,limbs z2.natAbs),(A7,n7,c7,limbs z1.natAbs),(A6,n6,c6,limbs d1),(A5,n5,c5,limbs b1),(A4,n4,c4,limbs g),(A3,n3,c3,limbs y.den),(A2,n2,c2,limbs x.den),(D',m',d',dn y),(A',n',c',limbs y.num.natAbs),(D,m,d,dn x),(A,n,c,limbs x.num.natAbs)]:=S
 generalize hW15:(World.setCell (World.setCell w14 ⟨g_n,0,none⟩ (.bool (ng zn))) ⟨g_n,1,none⟩ (.slice A9 n9 c9))=w15 at S ⊢;clear hW15;replace S:=Lib.hid S;replace S:=S.out;obtain⟨c_n0,c_n1,f_n0,f_n1⟩:=S.cf2 0 rfl;obtain⟨c_g0,c_g1,f_g0,f_g1⟩:=S.cf2 1 rfl;obtain⟨c_b0,c_b1,f_b0,f_b1⟩:=S.cf2 2 rfl;obtain⟨c_d0,c_d1,f_d0,f_d1⟩:=S.cf2 3 rfl;obtain⟨c_t0,c_t1,f_t0,f_t1⟩:=S.cf2 4 rfl;obtain⟨c_s0,c_s1,f_s0,f_s1⟩:=S.cf2 5 rfl
 obtain⟨c_r0,c_r1,c_r2,f_r0,f_r1,f_r2⟩:=S.cf3 6 rfl;obtain⟨c_y0,c_y1,c_y2,f_y0,f_y1,f_y2⟩:=S.cf3 7 rfl;obtain⟨c_x0,c_x1,c_x2,f_x0,f_x1,f_x2⟩:=S.cf3 8 rfl;have hz:g_n<w15.heap.size:=S.lt 0 rfl;replace S:=Lib.hid S;clear hO2 hM1 hM2 hA
 go_wp2_with fail
 refine (hR.out _ _ _ _ _ _ _ (S.out.r 0 rfl) (S.out.r 5 rfl)).mono ?_
 rintro e w16 ⟨A10,n10,c10,rfl,Q10,bb⟩;have T:=((S.out.call bb).read Q10);clear bb S c_n0 f_n0 c_n1 f_n1 c_g0 f_g0 c_g1 f_g1 c_b0 f_b0 c_b1 f_b1 c_d0 f_d0 c_d1 f_d1 c_t0 f_t0 c_t1 f_t1 c_s0 f_s0 c_s1 f_s1 c_r0 f_r0 c_r1 f_r1 c_r2 f_r2 c_y0 f_y0 c_y1 f_y1 c_y2 f_y2 c_x0 f_x0 c_x1 f_x1 c_x2 f_x2 hz;have S:=T;clear T;obtain⟨c_n0,c_n1,f_n0,f_n1⟩:=S.cf2 0 rfl;obtain⟨c_g0,c_g1,f_g0,f_g1⟩:=S.cf2 1 rfl;obtain⟨c_b0,c_b1,f_b0,f_b1⟩:=S.cf2 2 rfl
 obtain⟨c_d0,c_d1,f_d0,f_d1⟩:=S.cf2 3 rfl;obtain⟨c_t0,c_t1,f_t0,f_t1⟩:=S.cf2 4 rfl;obtain⟨c_s0,c_s1,f_s0,f_s1⟩:=S.cf2 5 rfl;obtain⟨c_r0,c_r1,c_r2,f_r0,f_r1,f_r2⟩:=S.cf3 6 rfl;obtain⟨c_y0,c_y1,c_y2,f_y0,f_y1,f_y2⟩:=S.cf3 7 rfl;obtain⟨c_x0,c_x1,c_x2,f_x0,f_x1,f_x2⟩:=S.cf3 8 rfl;have hz:g_n<w16.heap.size:=S.lt 0 rfl;replace S:=Lib.hid S;clear Q10 hR;go_upto_region 11 with fail
 clear c_n0 f_n0 c_n1 f_n1 c_g0 f_g0 c_g1 f_g1 c_b0 f_b0 c_b1 f_b1 c_d0 f_d0 c_d1 f_d1 c_t0 f_t0 c_t1 f_t1 c_s0 f_s0 c_s1 f_s1 c_r0 f_r0 c_r1 f_r1 c_r2 f_r2 c_y0 f_y0 c_y1 f_y1 c_y2 f_y2 c_x0 f_x0 c_x1 f_x1 c_x2 f_x2 hz;have S:=(S.out.allocAt (w16.heap.size) #[.bool false,.slice A10 n10 c10] 31 (noL2 _ _ _ _) (by simp))
 generalize hW17:(World.alloc w16 (.cells #[.bool false,.slice A10 n10 c10] 31))=w17 at S ⊢;clear hW17;replace S:=Lib.hid S;refine RW.begin (Z:=[]) (S:=(fun W=>Cb W (g_b) #[.bool false,.slice A5 n5 c5] 31∧Cb W (g_d) #[.bool false,.slice A3 n3 c3] 31∧Cb W (g_n) #[.bool (ng zn),.slice A9 n9 c9] 31∧Cb W (w16.heap.size) #[.bool false,.slice A10 n10 c10] 31)) (by kernel_rfl) ?_ S.out ?_
 ·exact⟨by kernel_rfl,zis_nil,by decide,by decide,nol_nil,(fun _ _ h=>⟨h.kb 3 rfl,h.kb 4 rfl,h.kb 1 rfl,h.kb 0 rfl⟩)⟩
 intro hzk;clear S;refine RW.t (i:=0) (v:=.agg #[.bool (ng zn),.slice A9 n9 c9]) (some 78) at0 (hy:=fun W hS=>by (have k0:=Cb.cell (i:=0) hS.2.2.1 rfl;have k1:=Cb.cell (i:=1) hS.2.2.1 rfl;clear hS;go_simp)) (h:=?_)
 refine RW.t (i:=1) (v:=.agg #[.bool false,.slice A10 n10 c10]) (some 79) at1 (hy:=fun W hS=>by (have k0:=Cb.cell (i:=0) hS.2.2.2 rfl;have k1:=Cb.cell (i:=1) hS.2.2.2 rfl;clear hS;go_simp)) (h:=?_)
 refine RW.t (i:=3) (v:=.agg #[.bool false,.slice A5 n5 c5]) (some 81) at3 (hy:=fun W hS=>by (have k0:=Cb.cell (i:=0) hS.1 rfl;have k1:=Cb.cell (i:=1) hS.1 rfl;clear hS;go_simp)) (h:=?_)
 refine RW.t (i:=4) (v:=.agg #[.bool false,.slice A3 n3 c3]) (some 82) at4 (hy:=fun W hS=>by (have k0:=Cb.cell (i:=0) hS.2.1 rfl;have k1:=Cb.cell (i:=1) hS.2.1 rfl;clear hS;go_simp)) (h:=?_)
 refine RW.t (i:=5) (v:=.agg #[.bool false,.slice A10 n10 c10]) (some 83) at5 (hy:=fun W hS=>by (have k0:=Cb.cell (i:=0) hS.2.2.2 rfl;have k1:=Cb.cell (i:=1) hS.2.2.2 rfl;clear hS;go_simp)) (h:=?_)
 refine RW.c (i:=2) (args:=#[.agg #[.bool (ng zn),.slice A9 n9 c9],.agg #[.bool false,.slice A10 n10 c10]]) (some 80) hzk.out at2 (hx:=fun _=>by kernel_rfl) (h:=fun _ S=>(hO3.out _ _ _ _ _ _ _ (S.r 1 rfl) (S.r 0 rfl)).mono ?_)
 rintro e w18 ⟨A11,n11,c11,rfl,Q11,bb⟩;refine⟨bb,_,[(A11,n11,c11,limbs q.num.natAbs)],rfl,(rd_cons Q11 rd_nil),?_⟩
 clear bb S Q11;refine RW.c (i:=6) (args:=#[.agg #[.bool false,.slice A3 n3 c3],.agg #[.bool false,.slice A10 n10 c10]]) (some 84) hzk.out at6 (hx:=fun _=>by kernel_rfl) (h:=fun _ S=>(hO4.out _ _ _ _ _ _ _ (S.r 8 rfl) (S.r 1 rfl)).mono ?_)
 rintro e w19 ⟨A12,n12,c12,rfl,Q12,bb⟩;refine⟨bb,_,[(A12,n12,c12,limbs d2)],rfl,(rd_cons Q12 rd_nil),?_⟩
 clear bb S Q12;refine RW.c (i:=7) (args:=#[.agg #[.bool false,.slice A5 n5 c5],.agg #[.bool false,.slice A12 n12 c12]]) (some 85) hzk.out at7 (hx:=fun _=>by kernel_rfl) (h:=fun _ S=>(hM3.out _ _ _ _ _ _ _ (S.r 7 rfl) (S.r 0 rfl)).mono ?_)
 rintro e w20 ⟨A13,n13,c13,rfl,Q13,bb⟩;refine⟨bb,_,[(A13,n13,c13,limbs q.den)],rfl,(rd_cons Q13 rd_nil),?_⟩
 clear bb S Q13;refine RW.c (i:=8) (args:=#[.agg #[.bool (ng q.num),.slice A11 n11 c11],.agg #[.bool false,.slice A13 n13 c13]]) (some 86) hzk.out at8 (hx:=fun _=>by kernel_rfl) (h:=fun _ S=>(hF.out _ _ _ _ _ _ _ (S.r 2 rfl) (S.r 0 rfl)).mono ?_)
 rintro e w21 ⟨A14,n14,c14,D14,m14,d14,rfl,Q14,bb⟩;refine⟨bb,_,[(D14,m14,d14,dn q),(A14,n14,c14,limbs q.num.natAbs)],rfl,(rd_cons Q14.d (rd_cons Q14.n rd_nil)),?_⟩
 clear bb S Q14;refine RW.tail hzk.out (by kernel_rfl) ?_
 intro gs w22 hgs hS S;obtain rfl:=len0 hgs;clear hS hgs hzk;simp only[mark,fill,Act.put,sZ0,sZ1,sZ2];replace S:=Lib.hid S;refine Wk.o (i:=9) at9 (by kernel_rfl) fun K' hK=>?_
 have q9_r0:=St.cl (S.out) 7 0 rfl rfl;have q9_r1:=St.cl (S.out) 7 1 rfl rfl;have q9_r2:=St.cl (S.out) 7 2 rfl rfl;have q9z_r0:=St.f (S.out) 7 0 rfl;have q9z_r1:=St.f (S.out) 7 1 rfl;have q9z_r2:=St.f (S.out) 7 2 rfl
 go_simp
 have SN:=(((S.out.set 7 0 (.bool (ng q.num)) rfl (by nofun)).set 7 1 (.slice A14 n14 c14) rfl (by nofun)).set 7 2 (.slice D14 m14 d14) rfl (by nofun))
 clear S q9_r0 q9_r1 q9_r2 q9z_r0 q9z_r1 q9z_r2;have S:=SN;clear SN;refine hK.out _ _ ⟨(S.cb 3 rfl),(S.cb 4 rfl),(S.cb 1 rfl),(S.cb 0 rfl)⟩ ?_
 clear hK K';replace S:=Lib.hid S
 try simp only[Act.put,sZ0,sZ1,sZ2]
 refine Wk.done (by kernel_rfl) ?_
 go_simp
 replace S:=S.out;have S:St w _ [(w16.heap.size,#[.bool false,.slice A10 n10 c10],31),(g_n,#[.bool (ng zn),.slice A9 n9 c9],31),(w7.heap.size,#[.bool false,.slice A4 n4 c4],31),(g_b,#[.bool false,.slice A5 n5 c5],31),(g_d,#[.bool false,.slice A3 n3 c3],31),(w1.heap.size+1,#[.int .i64 a2,.int .i64 b2'],116),(w1.heap.size,#[.int .i64 a1,.int .i64 b1'],116),(w.heap.size+1+1,#[.bool (ng q.num),.slice A14 n14 c14,.slice D14 m14 d14],33),(w.heap.size+1,#[.bool (ng y.num),.slice A' n' c',.slice D' m' d'],33),(w.heap.size,#[.bool (ng x.num),.slice A n c,.slice D m d],33)] [(D14,m14,d14,dn q),(A14,n14,c14,limbs q.num.natAbs),(A13,n13,c13,limbs q.den),(A12,n12,c12,limbs d2),(A11,n11,c11,limbs q.num.natAbs),(A10,n10,c10,limbs r),(A9,n9,c9,limbs zn.natAbs),(A8,n8,c8,limbs z2.natAbs),(A7,n7,c7,limbs z1.natAbs),(A6,n6,c6,limbs d1),(A5,n5,c5,limbs b1),(A4,n4,c4,limbs g),(A3,n3,c3,limbs y.den),(A2,n2,c2,limbs x.den),(D',m',d',dn y),(A',n',c',limbs y.num.natAbs),(D,m,d,dn x),(A,n,c,limbs x.num.natAbs)]:=S
 generalize hW23:(World.setCell (World.setCell (World.setCell w22 ⟨w.heap.size+1+1,0,none⟩ (.bool (ng q.num))) ⟨w.heap.size+1+1,1,none⟩ (.slice A14 n14 c14)) ⟨w.heap.size+1+1,2,none⟩ (.slice D14 m14 d14))=w23 at S ⊢;clear hW23;replace S:=Lib.hid S;replace S:=S.out;obtain⟨c_t20,c_t21,f_t20,f_t21⟩:=S.cf2 0 rfl;obtain⟨c_n0,c_n1,f_n0,f_n1⟩:=S.cf2 1 rfl;obtain⟨c_g0,c_g1,f_g0,f_g1⟩:=S.cf2 2 rfl;obtain⟨c_b0,c_b1,f_b0,f_b1⟩:=S.cf2 3 rfl
 obtain⟨c_d0,c_d1,f_d0,f_d1⟩:=S.cf2 4 rfl;obtain⟨c_t0,c_t1,f_t0,f_t1⟩:=S.cf2 5 rfl;obtain⟨c_s0,c_s1,f_s0,f_s1⟩:=S.cf2 6 rfl;obtain⟨c_r0,c_r1,c_r2,f_r0,f_r1,f_r2⟩:=S.cf3 7 rfl;obtain⟨c_y0,c_y1,c_y2,f_y0,f_y1,f_y2⟩:=S.cf3 8 rfl;obtain⟨c_x0,c_x1,c_x2,f_x0,f_x1,f_x2⟩:=S.cf3 9 rfl;have hz:w16.heap.size<w23.heap.size:=S.lt 0 rfl;replace S:=Lib.hid S;have S:=S.out;replace S:=Lib.hid S;go_wp2;refine bodyPost_ret (res_sum _ _ (w.heap.size+1+1) 33 rfl (S.out.bk _ (List.mem_of_getElem? (i:=7) rfl)).1) rfl ?_
 exact⟨_,_,_,_,_,_,rfl,⟨S.out.r 1 rfl,S.out.r 0 rfl⟩,S.out.bel⟩
theorem sum_long0 (x y:Rat) (A:Option Addr) (n c:Nat) (D:Option Addr) (d:Nat) (A':Option Addr) (n' c':Nat) (D':Option Addr) (m' d':Nat) (w:World) (X:RR w A n c D 0 d x) (Y:RR w A' n' c' D' m' d' y) (hs:(shq x&&shq y)=false) (hx:Rs x 20000000) (hy:Rs y 20000000) (hm:¬ m'=0) :
  Calls Tryz.prog 85 #[.agg #[.bool (ng x.num),.slice A n c,.slice D 0 d],.agg #[.bool (ng y.num),.slice A' n' c',.slice D' m' d']] w (RetR (x+y) w):=by
 have hB:Hid (∀ W,RR W A n c D 0 d x→RR W A' n' c' D' m' d' y→Calls Tryz.prog 104 #[.agg #[.bool (ng x.num),.slice A n c,.slice D 0 d],.agg #[.bool (ng y.num),.slice A' n' c',.slice D' m' d']] W fun e w'=>∃ a b c d:Int,e=.returned (.tuple #[.agg #[.int .i64 a,.int .i64 b],.agg #[.int .i64 c,.int .i64 d],.bool false])∧Below W.heap.size W w'):=Lib.hid fun W h h'=>(bothShort_any x y A n c D 0 d A' n' c' D' m' d' W h h').mono (by
  rintro e w' ⟨a,b,c,d,rfl,h,bb⟩;rw[hs];exact⟨a,b,c,d,rfl,bb⟩)
 have R1:=X.n;have R2:=X.d;have R3:=Y.n;have R4:=Y.d;have kx:(limbs x.num.natAbs).length≤20000000:=limbs_len_le.2 hx.n;have ky:(limbs y.num.natAbs).length≤20000000:=limbs_len_le.2 hy.n;have kp:(limbs x.den).length≤20000000:=limbs_len_le.2 hx.d;have kq:(limbs y.den).length≤20000000:=limbs_len_le.2 hy.d;obtain⟨g,eg⟩:∃ g:Nat,g=Int.gcd (x.den:Int) (y.den:Int):=⟨_,rfl⟩;obtain⟨b1,eb⟩:∃ b1:Nat,b1=x.den / g:=⟨_,rfl⟩
 obtain⟨d1,ed⟩:∃ d1:Nat,d1=y.den / g:=⟨_,rfl⟩;obtain⟨z1,e1⟩:∃ z1:Int,z1=x.num*(d1:Int):=⟨_,rfl⟩;obtain⟨z2,e2⟩:∃ z2:Int,z2=y.num*(b1:Int):=⟨_,rfl⟩;obtain⟨r,er⟩:∃ r:Nat,r=Int.gcd (z1+z2) (g:Int):=⟨_,rfl⟩;obtain⟨d2,ef⟩:∃ d2:Nat,d2=y.den / r:=⟨_,rfl⟩;obtain⟨en,ede,gp,rp⟩:=sum_eq x y g r (b1:Int) (z1+z2) eg (by rw[eb,Int.natCast_ediv]) (by rw[e1,e2,ed,Int.natCast_ediv]) er
 have ede2:b1*d2=(x+y).den:=by
  rw[←Int.natCast_ediv,←ef,←Int.natCast_mul] at ede;exact (Int.ofNat.inj ede).symm
 have kg:(limbs g).length≤20000000:=len_mono2 (by rw[eg];exact Nat.le_of_dvd x.den_pos (Nat.gcd_dvd_left _ _)) kp
 have kb:(limbs b1).length≤20000000:=len_mono2 (by rw[eb];exact Nat.div_le_self _ _) kp
 have kd:(limbs d1).length≤20000000:=len_mono2 (by rw[ed];exact Nat.div_le_self _ _) kq
 have kd2:(limbs d2).length≤20000000:=len_mono2 (by rw[ef];exact Nat.div_le_self _ _) kq
 have kr:(limbs r).length≤20000000:=len_mono2 (by rw[er];exact Nat.le_of_dvd gp (Nat.gcd_dvd_right _ _)) kg
 have k1:(limbs z1.natAbs).length≤40000000:=by rw[e1];exact mulI_len2 kx (by rw[Int.natAbs_natCast];exact kd)
 have k2:(limbs z2.natAbs).length≤40000000:=by rw[e2];exact mulI_len2 ky (by rw[Int.natAbs_natCast];exact kb)
 have kn:=addI_len2 k1 k2;have hX:=Lib.hid (den_u x);have hY:=Lib.hid (den_u y);have hC:=Lib.hid (divisor_u (P:=x.den) (g:=y.den) (by omega) (by omega))
 have hO1:=Lib.hid (over_u (P:=x.den) (g:=g) (by omega) (by omega) gp)
 have hO2:=Lib.hid (over_u (P:=y.den) (g:=g) (by omega) (by omega) gp)
 have hM1:=Lib.hid (mul_iu (z:=x.num) (g:=d1) (by omega) (by omega))
 have hM2:=Lib.hid (mul_iu (z:=y.num) (g:=b1) (by omega) (by omega))
 have hA:=Lib.hid (add_ii (z:=z1) (y:=z2) (by omega) (by omega))
 have hR:=Lib.hid (divisor_iu (z:=z1+z2) (g:=g) (by omega) (by omega))
 have hO3:=Lib.hid (over_i (z:=z1+z2) (g:=r) (by omega) (by omega) rp)
 have hO4:=Lib.hid (over_u (P:=y.den) (g:=r) (by omega) (by omega) rp)
 have hM3:=Lib.hid (mul_uu (P:=b1) (g:=d2) (by omega) (by omega))
 rw[←eg] at hC;rw[←eb] at hO1;rw[←ed] at hO2;rw[←e1] at hM1;rw[←e2] at hM2;rw[←er] at hR;rw[←en] at hO3;rw[←ef] at hO4;rw[ede2] at hM3;have hF:=Lib.hid (fun A n c D m1 d W h h'=>fraction_any (x+y) A n c D m1 d W h h')
 generalize hq:x+y=q at *;generalize hzn:z1+z2=zn at *;clear eg eb ed e1 e2 er ef en ede ede2 gp rp kx ky kp kq kg kb kd kd2 kr k1 k2 kn hs hx hy hq hzn X Y;have S:=((((((((St.new w).read R1).read R2).read R3).read R4).allocAt (w.heap.size) #[.bool (ng x.num),.slice A n c,.slice D 0 d] 33 (noL3 _ _ _ _ _ _ _) (by simp)).allocAt (w.heap.size+1) #[.bool (ng y.num),.slice A' n' c',.slice D' m' d'] 33 (noL3 _ _ _ _ _ _ _) (by simp)).allocAt (w.heap.size+1+1) #[.bool false,.slice none 0 0,.slice none 0 0] 33 (noL3 _ _ _ _ _ _ _) (by simp))
 replace S:=Lib.hid S;clear R1 R2 R3 R4;go_enter Tryz.func85,Tryz.ntmps85
 go_wp2_with fail
 refine (hB.out _ ⟨S.out.r 3 rfl,S.out.r 2 rfl⟩ ⟨S.out.r 1 rfl,S.out.r 0 rfl⟩).mono ?_
 rintro e w1 ⟨a1,b1',a2,b2',rfl,bb⟩;have T:=(S.out.call bb);clear bb S;have S:=T;clear T;obtain⟨c_r0,c_r1,c_r2,f_r0,f_r1,f_r2⟩:=S.cf3 0 rfl;obtain⟨c_y0,c_y1,c_y2,f_y0,f_y1,f_y2⟩:=S.cf3 1 rfl;obtain⟨c_x0,c_x1,c_x2,f_x0,f_x1,f_x2⟩:=S.cf3 2 rfl;have hz:w.heap.size+1+1<w1.heap.size:=S.lt 0 rfl;replace S:=Lib.hid S;clear hB;have S:=((S.out.allocAt (w1.heap.size) #[.int .i64 a1,.int .i64 b1'] 116 (noLi _ _) (by simp)).allocAt (w1.heap.size+1) #[.int .i64 a2,.int .i64 b2'] 116 (noLi _ _) (by simp))
 replace S:=Lib.hid S;have S:=S.out;obtain⟨a_x0,a_x1,a_x2,b_x0,b_x1,b_x2⟩:=S.cf3 4 rfl;obtain⟨a_y0,a_y1,a_y2,b_y0,b_y1,b_y2⟩:=S.cf3 3 rfl;replace S:=Lib.hid S;go_upto_region 6 with fail
 clear c_r0 f_r0 c_r1 f_r1 c_r2 f_r2 c_y0 f_y0 c_y1 f_y1 c_y2 f_y2 c_x0 f_x0 c_x1 f_x1 c_x2 f_x2 hz a_x0 b_x0 a_x1 b_x1 a_x2 b_x2 a_y0 b_y0 a_y1 b_y1 a_y2 b_y2;have S:=S.out;generalize hW2:(World.alloc (World.alloc w1 (.cells #[.int .i64 a1,.int .i64 b1'] 116)) (.cells #[.int .i64 a2,.int .i64 b2'] 116))=w2 at S ⊢;clear hW2;replace S:=Lib.hid S;refine RW.begin (Z:=[⟨4,8,#[.bool false,.slice none 0 0],31⟩,⟨5,9,#[.bool false,.slice none 0 0],31⟩]) (S:=(fun W=>Cb W (w.heap.size) #[.bool (ng x.num),.slice A n c,.slice D 0 d] 33∧Cb W (w.heap.size+1) #[.bool (ng y.num),.slice A' n' c',.slice D' m' d'] 33)) (by kernel_rfl) ?_ S.out ?_
 ·exact⟨by kernel_rfl,(zis_cons at4 (fun _ _=>by kernel_rfl) (zis_cons at5 (fun _ _=>by kernel_rfl) zis_nil)),by decide,by decide,(nol_cons (noL2 _ _ _ _) (nol_cons (noL2 _ _ _ _) nol_nil)),(fun _ _ h=>⟨h.kb 4 rfl,h.kb 3 rfl⟩)⟩
 intro hzk;clear S;refine RW.t (i:=0) (v:=.agg #[.bool (ng x.num),.slice A n c,.slice D 0 d]) (some 54) at0 (hy:=fun W hS=>by (have k0:=Cb.cell (i:=0) hS.1 rfl;have k1:=Cb.cell (i:=1) hS.1 rfl;have k2:=Cb.cell (i:=2) hS.1 rfl;clear hS;go_simp)) (h:=?_)
 refine RW.t (i:=2) (v:=.agg #[.bool (ng y.num),.slice A' n' c',.slice D' m' d']) (some 56) at2 (hy:=fun W hS=>by (have k0:=Cb.cell (i:=0) hS.2 rfl;have k1:=Cb.cell (i:=1) hS.2 rfl;have k2:=Cb.cell (i:=2) hS.2 rfl;clear hS;go_simp)) (h:=?_)
 refine RW.c (i:=1) (args:=#[.agg #[.bool (ng x.num),.slice A n c,.slice D 0 d]]) (some 55) hzk.out at1 (hx:=fun _=>by kernel_rfl) (h:=fun _ S=>(hX.out _ _ _ _ _ _ _ ⟨S.r 3 rfl,S.r 2 rfl⟩).mono ?_)
 rintro e w3 ⟨A2,n2,c2,rfl,Q2,bb⟩;refine⟨bb,_,[(A2,n2,c2,limbs x.den)],rfl,(rd_cons Q2 rd_nil),?_⟩
 clear bb S Q2;refine RW.c (i:=3) (args:=#[.agg #[.bool (ng y.num),.slice A' n' c',.slice D' m' d']]) (some 57) hzk.out at3 (hx:=fun _=>by kernel_rfl) (h:=fun _ S=>(hY.out _ _ _ _ _ _ _ ⟨S.r 2 rfl,S.r 1 rfl⟩).mono ?_)
 rintro e w4 ⟨A3,n3,c3,rfl,Q3,bb⟩;refine⟨bb,_,[(A3,n3,c3,limbs y.den)],rfl,(rd_cons Q3 rd_nil),?_⟩
 clear bb S Q3;refine RW.tail hzk.out (by kernel_rfl) ?_
 intro gs w5 hgs hS S;obtain⟨g_b,g_d,rfl⟩:=len2 hgs;clear hS hgs hzk;simp only[mark,fill,List.map,Act.put,sZ0,sZ1,sZ2];replace S:=Lib.hid S;refine Wk.o (i:=6) at6 (by kernel_rfl) fun K' hK=>?_
 have q6_b0:=St.cl (S.out) 0 0 rfl rfl;have q6_b1:=St.cl (S.out) 0 1 rfl rfl;have q6z_b0:=St.f (S.out) 0 0 rfl;have q6z_b1:=St.f (S.out) 0 1 rfl
 go_simp
 have SN:=((S.out.set 0 0 (.bool false) rfl (by nofun)).set 0 1 (.slice A2 n2 c2) rfl (by nofun))
 clear S q6_b0 q6_b1 q6z_b0 q6z_b1;have S:=SN;clear SN;refine hK.out _ _ ⟨(S.cb 6 rfl),(S.cb 5 rfl)⟩ ?_
 clear hK K';replace S:=Lib.hid S
 try simp only[Act.put,sZ0,sZ1,sZ2]
 refine Wk.o (i:=7) at7 (by kernel_rfl) fun K' hK=>?_
 have q7_d0:=St.cl (S.out) 1 0 rfl rfl;have q7_d1:=St.cl (S.out) 1 1 rfl rfl;have q7z_d0:=St.f (S.out) 1 0 rfl;have q7z_d1:=St.f (S.out) 1 1 rfl
 go_simp
 have SN:=((S.out.set 1 0 (.bool false) rfl (by nofun)).set 1 1 (.slice A3 n3 c3) rfl (by nofun))
 clear S q7_d0 q7_d1 q7z_d0 q7z_d1;have S:=SN;clear SN;refine hK.out _ _ ⟨(S.cb 6 rfl),(S.cb 5 rfl)⟩ ?_
 clear hK K';replace S:=Lib.hid S
 try simp only[Act.put,sZ0,sZ1,sZ2]
 refine Wk.done (by kernel_rfl) ?_
 go_simp
 replace S:=S.out;have S:St w _ [(g_b,#[.bool false,.slice A2 n2 c2],31),(g_d,#[.bool false,.slice A3 n3 c3],31),(w1.heap.size+1,#[.int .i64 a2,.int .i64 b2'],116),(w1.heap.size,#[.int .i64 a1,.int .i64 b1'],116),(w.heap.size+1+1,#[.bool false,.slice none 0 0,.slice none 0 0],33),(w.heap.size+1,#[.bool (ng y.num),.slice A' n' c',.slice D' m' d'],33),(w.heap.size,#[.bool (ng x.num),.slice A n c,.slice D 0 d],33)] [(A3,n3,c3,limbs y.den),(A2,n2,c2,limbs x.den),(D',m',d',dn y),(A',n',c',limbs y.num.natAbs),(D,0,d,dn x),(A,n,c,limbs x.num.natAbs)]:=S
 generalize hW6:(World.setCell (World.setCell (World.setCell (World.setCell w5 ⟨g_b,0,none⟩ (.bool false)) ⟨g_b,1,none⟩ (.slice A2 n2 c2)) ⟨g_d,0,none⟩ (.bool false)) ⟨g_d,1,none⟩ (.slice A3 n3 c3))=w6 at S ⊢;clear hW6;replace S:=Lib.hid S;replace S:=S.out;obtain⟨c_b0,c_b1,f_b0,f_b1⟩:=S.cf2 0 rfl;obtain⟨c_d0,c_d1,f_d0,f_d1⟩:=S.cf2 1 rfl;obtain⟨c_t0,c_t1,f_t0,f_t1⟩:=S.cf2 2 rfl;obtain⟨c_s0,c_s1,f_s0,f_s1⟩:=S.cf2 3 rfl
 obtain⟨c_r0,c_r1,c_r2,f_r0,f_r1,f_r2⟩:=S.cf3 4 rfl;obtain⟨c_y0,c_y1,c_y2,f_y0,f_y1,f_y2⟩:=S.cf3 5 rfl;obtain⟨c_x0,c_x1,c_x2,f_x0,f_x1,f_x2⟩:=S.cf3 6 rfl;have hz:g_b<w6.heap.size:=S.lt 0 rfl;replace S:=Lib.hid S;clear hX hY
 go_wp2_with fail
 refine (hC.out _ _ _ _ _ _ _ (S.out.r 1 rfl) (S.out.r 0 rfl)).mono ?_
 rintro e w7 ⟨A4,n4,c4,rfl,Q4,bb⟩;have T:=((S.out.call bb).read Q4);clear bb S c_b0 f_b0 c_b1 f_b1 c_d0 f_d0 c_d1 f_d1 c_t0 f_t0 c_t1 f_t1 c_s0 f_s0 c_s1 f_s1 c_r0 f_r0 c_r1 f_r1 c_r2 f_r2 c_y0 f_y0 c_y1 f_y1 c_y2 f_y2 c_x0 f_x0 c_x1 f_x1 c_x2 f_x2 hz;have S:=T;clear T;obtain⟨c_b0,c_b1,f_b0,f_b1⟩:=S.cf2 0 rfl;obtain⟨c_d0,c_d1,f_d0,f_d1⟩:=S.cf2 1 rfl;obtain⟨c_t0,c_t1,f_t0,f_t1⟩:=S.cf2 2 rfl;obtain⟨c_s0,c_s1,f_s0,f_s1⟩:=S.cf2 3 rfl
 obtain⟨c_r0,c_r1,c_r2,f_r0,f_r1,f_r2⟩:=S.cf3 4 rfl;obtain⟨c_y0,c_y1,c_y2,f_y0,f_y1,f_y2⟩:=S.cf3 5 rfl;obtain⟨c_x0,c_x1,c_x2,f_x0,f_x1,f_x2⟩:=S.cf3 6 rfl;have hz:g_b<w7.heap.size:=S.lt 0 rfl;replace S:=Lib.hid S;clear Q4 hC;have S:=(S.out.allocAt (w7.heap.size) #[.bool false,.slice A4 n4 c4] 31 (noL2 _ _ _ _) (by simp))
 obtain⟨a_b0,a_b1,b_b0,b_b1⟩:=S.cf2 1 rfl;obtain⟨a_g0,a_g1,b_g0,b_g1⟩:=S.cf2 0 rfl;replace S:=Lib.hid S
 go_wp2_with fail
 refine (hO1.out _ _ _ _ _ _ _ (S.out.r 2 rfl) (S.out.r 0 rfl)).mono ?_
 rintro e w8 ⟨A5,n5,c5,rfl,Q5,bb⟩;have T:=((S.out.call bb).read Q5);clear bb S c_b0 f_b0 c_b1 f_b1 c_d0 f_d0 c_d1 f_d1 c_t0 f_t0 c_t1 f_t1 c_s0 f_s0 c_s1 f_s1 c_r0 f_r0 c_r1 f_r1 c_r2 f_r2 c_y0 f_y0 c_y1 f_y1 c_y2 f_y2 c_x0 f_x0 c_x1 f_x1 c_x2 f_x2 hz a_b0 b_b0 a_b1 b_b1 a_g0 b_g0 a_g1 b_g1;have S:=T;clear T;obtain⟨c_g0,c_g1,f_g0,f_g1⟩:=S.cf2 0 rfl;obtain⟨c_b0,c_b1,f_b0,f_b1⟩:=S.cf2 1 rfl;obtain⟨c_d0,c_d1,f_d0,f_d1⟩:=S.cf2 2 rfl
 obtain⟨c_t0,c_t1,f_t0,f_t1⟩:=S.cf2 3 rfl;obtain⟨c_s0,c_s1,f_s0,f_s1⟩:=S.cf2 4 rfl;obtain⟨c_r0,c_r1,c_r2,f_r0,f_r1,f_r2⟩:=S.cf3 5 rfl;obtain⟨c_y0,c_y1,c_y2,f_y0,f_y1,f_y2⟩:=S.cf3 6 rfl;obtain⟨c_x0,c_x1,c_x2,f_x0,f_x1,f_x2⟩:=S.cf3 7 rfl;have hz:w7.heap.size<w8.heap.size:=S.lt 0 rfl;replace S:=Lib.hid S;clear Q5 hO1;go_upto_region 9 with fail
 clear c_g0 f_g0 c_g1 f_g1 c_b0 f_b0 c_b1 f_b1 c_d0 f_d0 c_d1 f_d1 c_t0 f_t0 c_t1 f_t1 c_s0 f_s0 c_s1 f_s1 c_r0 f_r0 c_r1 f_r1 c_r2 f_r2 c_y0 f_y0 c_y1 f_y1 c_y2 f_y2 c_x0 f_x0 c_x1 f_x1 c_x2 f_x2 hz;have S:St w _ [(w7.heap.size,#[.bool false,.slice A4 n4 c4],31),(g_b,#[.bool false,.slice A5 n5 c5],31),(g_d,#[.bool false,.slice A3 n3 c3],31),(w1.heap.size+1,#[.int .i64 a2,.int .i64 b2'],116),(w1.heap.size,#[.int .i64 a1,.int .i64 b1'],116),(w.heap.size+1+1,#[.bool false,.slice none 0 0,.slice none 0 0],33),(w.heap.size+1,#[.bool (ng y.num),.slice A' n' c',.slice D' m' d'],33),(w.heap.size,#[.bool (ng x.num),.slice A n c,.slice D 0 d],33)] [(A5,n5,c5,limbs b1),(A4,n4,c4,limbs g),(A3,n3,c3,limbs y.den),(A2,n2,c2,limbs x.den),(D',m',d',dn y),(A',n',c',limbs y.num.natAbs),(D,0,d,dn x),(A,n,c,limbs x.num.natAbs)]:=((S.out.set 1 0 (.bool false) rfl (by nofun)).set 1 1 (.slice A5 n5 c5) rfl (by nofun))
 generalize hW9:(World.setCell (World.setCell w8 ⟨g_b,0,none⟩ (.bool false)) ⟨g_b,1,none⟩ (.slice A5 n5 c5))=w9 at S ⊢;clear hW9;replace S:=Lib.hid S;refine RW.begin (Z:=[⟨11,11,#[.bool false,.slice none 0 0],31⟩]) (S:=(fun W=>Cb W (w.heap.size) #[.bool (ng x.num),.slice A n c,.slice D 0 d] 33∧Cb W (w.heap.size+1) #[.bool (ng y.num),.slice A' n' c',.slice D' m' d'] 33∧Cb W (g_b) #[.bool false,.slice A5 n5 c5] 31∧Cb W (g_d) #[.bool false,.slice A3 n3 c3] 31∧Cb W (w7.heap.size) #[.bool false,.slice A4 n4 c4] 31)) (by kernel_rfl) ?_ S.out ?_
 ·exact⟨by kernel_rfl,(zis_cons at11 (fun _ _=>by kernel_rfl) zis_nil),by decide,by decide,(nol_cons (noL2 _ _ _ _) nol_nil),(fun _ _ h=>⟨h.kb 7 rfl,h.kb 6 rfl,h.kb 1 rfl,h.kb 2 rfl,h.kb 0 rfl⟩)⟩
 intro hzk;clear S;refine RW.t (i:=0) (v:=.pointer (some ⟨w.heap.size,0,none⟩)) (some 64) at0 (hy:=fun _ _=>by kernel_rfl) (h:=?_)
 refine RW.t (i:=1) (v:=.agg #[.bool (ng x.num),.slice A n c]) (some 65) at1 (hy:=fun W hS=>by (have k0:=Cb.cell (i:=0) hS.1 rfl;have k1:=Cb.cell (i:=1) hS.1 rfl;clear hS;go_simp)) (h:=?_)
 refine RW.t (i:=2) (v:=.agg #[.bool false,.slice A3 n3 c3]) (some 66) at2 (hy:=fun W hS=>by (have k0:=Cb.cell (i:=0) hS.2.2.2.1 rfl;have k1:=Cb.cell (i:=1) hS.2.2.2.1 rfl;clear hS;go_simp)) (h:=?_)
 refine RW.t (i:=3) (v:=.agg #[.bool false,.slice A4 n4 c4]) (some 67) at3 (hy:=fun W hS=>by (have k0:=Cb.cell (i:=0) hS.2.2.2.2 rfl;have k1:=Cb.cell (i:=1) hS.2.2.2.2 rfl;clear hS;go_simp)) (h:=?_)
 refine RW.t (i:=6) (v:=.pointer (some ⟨w.heap.size+1,0,none⟩)) (some 70) at6 (hy:=fun _ _=>by kernel_rfl) (h:=?_)
 refine RW.t (i:=7) (v:=.agg #[.bool (ng y.num),.slice A' n' c']) (some 71) at7 (hy:=fun W hS=>by (have k0:=Cb.cell (i:=0) hS.2.1 rfl;have k1:=Cb.cell (i:=1) hS.2.1 rfl;clear hS;go_simp)) (h:=?_)
 refine RW.t (i:=8) (v:=.agg #[.bool false,.slice A5 n5 c5]) (some 72) at8 (hy:=fun W hS=>by (have k0:=Cb.cell (i:=0) hS.2.2.1 rfl;have k1:=Cb.cell (i:=1) hS.2.2.1 rfl;clear hS;go_simp)) (h:=?_)
 refine RW.c (i:=4) (args:=#[.agg #[.bool false,.slice A3 n3 c3],.agg #[.bool false,.slice A4 n4 c4]]) (some 68) hzk.out at4 (hx:=fun _=>by kernel_rfl) (h:=fun _ S=>(hO2.out _ _ _ _ _ _ _ (S.r 2 rfl) (S.r 1 rfl)).mono ?_)
 rintro e w10 ⟨A6,n6,c6,rfl,Q6,bb⟩;refine⟨bb,_,[(A6,n6,c6,limbs d1)],rfl,(rd_cons Q6 rd_nil),?_⟩
 clear bb S Q6;refine RW.c (i:=5) (args:=#[.agg #[.bool (ng x.num),.slice A n c],.agg #[.bool false,.slice A6 n6 c6]]) (some 69) hzk.out at5 (hx:=fun _=>by kernel_rfl) (h:=fun _ S=>(hM1.out _ _ _ _ _ _ _ (S.r 8 rfl) (S.r 0 rfl)).mono ?_)
 rintro e w11 ⟨A7,n7,c7,rfl,Q7,bb⟩;refine⟨bb,_,[(A7,n7,c7,limbs z1.natAbs)],rfl,(rd_cons Q7 rd_nil),?_⟩
 clear bb S Q7;refine RW.c (i:=9) (args:=#[.agg #[.bool (ng y.num),.slice A' n' c'],.agg #[.bool false,.slice A5 n5 c5]]) (some 73) hzk.out at9 (hx:=fun _=>by kernel_rfl) (h:=fun _ S=>(hM2.out _ _ _ _ _ _ _ (S.r 7 rfl) (S.r 2 rfl)).mono ?_)
 rintro e w12 ⟨A8,n8,c8,rfl,Q8,bb⟩;refine⟨bb,_,[(A8,n8,c8,limbs z2.natAbs)],rfl,(rd_cons Q8 rd_nil),?_⟩
 clear bb S Q8;refine RW.c (i:=10) (args:=#[.agg #[.bool (ng z1),.slice A7 n7 c7],.agg #[.bool (ng z2),.slice A8 n8 c8]]) (some 74) hzk.out at10 (hx:=fun _=>by kernel_rfl) (h:=fun _ S=>(hA.out _ _ _ _ _ _ _ (S.r 1 rfl) (S.r 0 rfl)).mono ?_)
 rintro e w13 ⟨A9,n9,c9,rfl,Q9,bb⟩;refine⟨bb,_,[(A9,n9,c9,limbs zn.natAbs)],rfl,(rd_cons Q9 rd_nil),?_⟩
 clear bb S Q9;refine RW.tail hzk.out (by kernel_rfl) ?_
 intro gs w14 hgs hS S;obtain⟨g_n,rfl⟩:=len1' hgs;clear hS hgs hzk;simp only[mark,fill,List.map,Act.put,sZ0,sZ1,sZ2];replace S:=Lib.hid S;refine Wk.o (i:=12) at12 (by kernel_rfl) fun K' hK=>?_
 have q12_n0:=St.cl (S.out) 0 0 rfl rfl;have q12_n1:=St.cl (S.out) 0 1 rfl rfl;have q12z_n0:=St.f (S.out) 0 0 rfl;have q12z_n1:=St.f (S.out) 0 1 rfl
 go_simp
 have SN:=((S.out.set 0 0 (.bool (ng zn)) rfl (by nofun)).set 0 1 (.slice A9 n9 c9) rfl (by nofun))
 clear S q12_n0 q12_n1 q12z_n0 q12z_n1;have S:=SN;clear SN;refine hK.out _ _ ⟨(S.cb 8 rfl),(S.cb 7 rfl),(S.cb 2 rfl),(S.cb 3 rfl),(S.cb 1 rfl)⟩ ?_
 clear hK K';replace S:=Lib.hid S
 try simp only[Act.put,sZ0,sZ1,sZ2]
 refine Wk.done (by kernel_rfl) ?_
 go_simp
 replace S:=S.out;have S:St w _ [(g_n,#[.bool (ng zn),.slice A9 n9 c9],31),(w7.heap.size,#[.bool false,.slice A4 n4 c4],31),(g_b,#[.bool false,.slice A5 n5 c5],31),(g_d,#[.bool false,.slice A3 n3 c3],31),(w1.heap.size+1,#[.int .i64 a2,.int .i64 b2'],116),(w1.heap.size,#[.int .i64 a1,.int .i64 b1'],116),(w.heap.size+1+1,#[.bool false,.slice none 0 0,.slice none 0 0],33),(w.heap.size+1,#[.bool (ng y.num),.slice A' n' c',.slice D' m' d'],33),(w.heap.size,#[.bool (ng x.num),.slice A n c,.slice D 0 d],33)] [(A9,n9,c9,limbs zn.natAbs),(A8,n8,c8,limbs z2.natAbs),(A7,n7,c7,limbs z1.natAbs),(A6,n6,c6,limbs d1),(A5,n5,c5,limbs b1),(A4,n4,c4,limbs g),(A3,n3,c3,limbs y.den),(A2,n2,c2,limbs x.den),(D',m',d',dn y),(A',n',c',limbs y.num.natAbs),(D,0,d,dn x),(A,n,c,limbs x.num.natAbs)]:=S
 generalize hW15:(World.setCell (World.setCell w14 ⟨g_n,0,none⟩ (.bool (ng zn))) ⟨g_n,1,none⟩ (.slice A9 n9 c9))=w15 at S ⊢;clear hW15;replace S:=Lib.hid S;replace S:=S.out;obtain⟨c_n0,c_n1,f_n0,f_n1⟩:=S.cf2 0 rfl;obtain⟨c_g0,c_g1,f_g0,f_g1⟩:=S.cf2 1 rfl;obtain⟨c_b0,c_b1,f_b0,f_b1⟩:=S.cf2 2 rfl;obtain⟨c_d0,c_d1,f_d0,f_d1⟩:=S.cf2 3 rfl;obtain⟨c_t0,c_t1,f_t0,f_t1⟩:=S.cf2 4 rfl;obtain⟨c_s0,c_s1,f_s0,f_s1⟩:=S.cf2 5 rfl
 obtain⟨c_r0,c_r1,c_r2,f_r0,f_r1,f_r2⟩:=S.cf3 6 rfl;obtain⟨c_y0,c_y1,c_y2,f_y0,f_y1,f_y2⟩:=S.cf3 7 rfl;obtain⟨c_x0,c_x1,c_x2,f_x0,f_x1,f_x2⟩:=S.cf3 8 rfl;have hz:g_n<w15.heap.size:=S.lt 0 rfl;replace S:=Lib.hid S;clear hO2 hM1 hM2 hA
 go_wp2_with fail
 refine (hR.out _ _ _ _ _ _ _ (S.out.r 0 rfl) (S.out.r 5 rfl)).mono ?_
 rintro e w16 ⟨A10,n10,c10,rfl,Q10,bb⟩;have T:=((S.out.call bb).read Q10);clear bb S c_n0 f_n0 c_n1 f_n1 c_g0 f_g0 c_g1 f_g1 c_b0 f_b0 c_b1 f_b1 c_d0 f_d0 c_d1 f_d1 c_t0 f_t0 c_t1 f_t1 c_s0 f_s0 c_s1 f_s1 c_r0 f_r0 c_r1 f_r1 c_r2 f_r2 c_y0 f_y0 c_y1 f_y1 c_y2 f_y2 c_x0 f_x0 c_x1 f_x1 c_x2 f_x2 hz;have S:=T;clear T;obtain⟨c_n0,c_n1,f_n0,f_n1⟩:=S.cf2 0 rfl;obtain⟨c_g0,c_g1,f_g0,f_g1⟩:=S.cf2 1 rfl;obtain⟨c_b0,c_b1,f_b0,f_b1⟩:=S.cf2 2 rfl
 obtain⟨c_d0,c_d1,f_d0,f_d1⟩:=S.cf2 3 rfl;obtain⟨c_t0,c_t1,f_t0,f_t1⟩:=S.cf2 4 rfl;obtain⟨c_s0,c_s1,f_s0,f_s1⟩:=S.cf2 5 rfl;obtain⟨c_r0,c_r1,c_r2,f_r0,f_r1,f_r2⟩:=S.cf3 6 rfl;obtain⟨c_y0,c_y1,c_y2,f_y0,f_y1,f_y2⟩:=S.cf3 7 rfl;obtain⟨c_x0,c_x1,c_x2,f_x0,f_x1,f_x2⟩:=S.cf3 8 rfl;have hz:g_n<w16.heap.size:=S.lt 0 rfl;replace S:=Lib.hid S;clear Q10 hR;go_upto_region 11 with fail
 clear c_n0 f_n0 c_n1 f_n1 c_g0 f_g0 c_g1 f_g1 c_b0 f_b0 c_b1 f_b1 c_d0 f_d0 c_d1 f_d1 c_t0 f_t0 c_t1 f_t1 c_s0 f_s0 c_s1 f_s1 c_r0 f_r0 c_r1 f_r1 c_r2 f_r2 c_y0 f_y0 c_y1 f_y1 c_y2 f_y2 c_x0 f_x0 c_x1 f_x1 c_x2 f_x2 hz;have S:=(S.out.allocAt (w16.heap.size) #[.bool false,.slice A10 n10 c10] 31 (noL2 _ _ _ _) (by simp))
 generalize hW17:(World.alloc w16 (.cells #[.bool false,.slice A10 n10 c10] 31))=w17 at S ⊢;clear hW17;replace S:=Lib.hid S;refine RW.begin (Z:=[]) (S:=(fun W=>Cb W (g_b) #[.bool false,.slice A5 n5 c5] 31∧Cb W (g_d) #[.bool false,.slice A3 n3 c3] 31∧Cb W (g_n) #[.bool (ng zn),.slice A9 n9 c9] 31∧Cb W (w16.heap.size) #[.bool false,.slice A10 n10 c10] 31)) (by kernel_rfl) ?_ S.out ?_
 ·exact⟨by kernel_rfl,zis_nil,by decide,by decide,nol_nil,(fun _ _ h=>⟨h.kb 3 rfl,h.kb 4 rfl,h.kb 1 rfl,h.kb 0 rfl⟩)⟩
 intro hzk;clear S;refine RW.t (i:=0) (v:=.agg #[.bool (ng zn),.slice A9 n9 c9]) (some 78) at0 (hy:=fun W hS=>by (have k0:=Cb.cell (i:=0) hS.2.2.1 rfl;have k1:=Cb.cell (i:=1) hS.2.2.1 rfl;clear hS;go_simp)) (h:=?_)
 refine RW.t (i:=1) (v:=.agg #[.bool false,.slice A10 n10 c10]) (some 79) at1 (hy:=fun W hS=>by (have k0:=Cb.cell (i:=0) hS.2.2.2 rfl;have k1:=Cb.cell (i:=1) hS.2.2.2 rfl;clear hS;go_simp)) (h:=?_)
 refine RW.t (i:=3) (v:=.agg #[.bool false,.slice A5 n5 c5]) (some 81) at3 (hy:=fun W hS=>by (have k0:=Cb.cell (i:=0) hS.1 rfl;have k1:=Cb.cell (i:=1) hS.1 rfl;clear hS;go_simp)) (h:=?_)
 refine RW.t (i:=4) (v:=.agg #[.bool false,.slice A3 n3 c3]) (some 82) at4 (hy:=fun W hS=>by (have k0:=Cb.cell (i:=0) hS.2.1 rfl;have k1:=Cb.cell (i:=1) hS.2.1 rfl;clear hS;go_simp)) (h:=?_)
 refine RW.t (i:=5) (v:=.agg #[.bool false,.slice A10 n10 c10]) (some 83) at5 (hy:=fun W hS=>by (have k0:=Cb.cell (i:=0) hS.2.2.2 rfl;have k1:=Cb.cell (i:=1) hS.2.2.2 rfl;clear hS;go_simp)) (h:=?_)
 refine RW.c (i:=2) (args:=#[.agg #[.bool (ng zn),.slice A9 n9 c9],.agg #[.bool false,.slice A10 n10 c10]]) (some 80) hzk.out at2 (hx:=fun _=>by kernel_rfl) (h:=fun _ S=>(hO3.out _ _ _ _ _ _ _ (S.r 1 rfl) (S.r 0 rfl)).mono ?_)
 rintro e w18 ⟨A11,n11,c11,rfl,Q11,bb⟩;refine⟨bb,_,[(A11,n11,c11,limbs q.num.natAbs)],rfl,(rd_cons Q11 rd_nil),?_⟩
 clear bb S Q11;refine RW.c (i:=6) (args:=#[.agg #[.bool false,.slice A3 n3 c3],.agg #[.bool false,.slice A10 n10 c10]]) (some 84) hzk.out at6 (hx:=fun _=>by kernel_rfl) (h:=fun _ S=>(hO4.out _ _ _ _ _ _ _ (S.r 8 rfl) (S.r 1 rfl)).mono ?_)
 rintro e w19 ⟨A12,n12,c12,rfl,Q12,bb⟩;refine⟨bb,_,[(A12,n12,c12,limbs d2)],rfl,(rd_cons Q12 rd_nil),?_⟩
 clear bb S Q12;refine RW.c (i:=7) (args:=#[.agg #[.bool false,.slice A5 n5 c5],.agg #[.bool false,.slice A12 n12 c12]]) (some 85) hzk.out at7 (hx:=fun _=>by kernel_rfl) (h:=fun _ S=>(hM3.out _ _ _ _ _ _ _ (S.r 7 rfl) (S.r 0 rfl)).mono ?_)
 rintro e w20 ⟨A13,n13,c13,rfl,Q13,bb⟩;refine⟨bb,_,[(A13,n13,c13,limbs q.den)],rfl,(rd_cons Q13 rd_nil),?_⟩
 clear bb S Q13;refine RW.c (i:=8) (args:=#[.agg #[.bool (ng q.num),.slice A11 n11 c11],.agg #[.bool false,.slice A13 n13 c13]]) (some 86) hzk.out at8 (hx:=fun _=>by kernel_rfl) (h:=fun _ S=>(hF.out _ _ _ _ _ _ _ (S.r 2 rfl) (S.r 0 rfl)).mono ?_)
 rintro e w21 ⟨A14,n14,c14,D14,m14,d14,rfl,Q14,bb⟩;refine⟨bb,_,[(D14,m14,d14,dn q),(A14,n14,c14,limbs q.num.natAbs)],rfl,(rd_cons Q14.d (rd_cons Q14.n rd_nil)),?_⟩
 clear bb S Q14;refine RW.tail hzk.out (by kernel_rfl) ?_
 intro gs w22 hgs hS S;obtain rfl:=len0 hgs;clear hS hgs hzk;simp only[mark,fill,Act.put,sZ0,sZ1,sZ2];replace S:=Lib.hid S;refine Wk.o (i:=9) at9 (by kernel_rfl) fun K' hK=>?_
 have q9_r0:=St.cl (S.out) 7 0 rfl rfl;have q9_r1:=St.cl (S.out) 7 1 rfl rfl;have q9_r2:=St.cl (S.out) 7 2 rfl rfl;have q9z_r0:=St.f (S.out) 7 0 rfl;have q9z_r1:=St.f (S.out) 7 1 rfl;have q9z_r2:=St.f (S.out) 7 2 rfl
 go_simp
 have SN:=(((S.out.set 7 0 (.bool (ng q.num)) rfl (by nofun)).set 7 1 (.slice A14 n14 c14) rfl (by nofun)).set 7 2 (.slice D14 m14 d14) rfl (by nofun))
 clear S q9_r0 q9_r1 q9_r2 q9z_r0 q9z_r1 q9z_r2;have S:=SN;clear SN;refine hK.out _ _ ⟨(S.cb 3 rfl),(S.cb 4 rfl),(S.cb 1 rfl),(S.cb 0 rfl)⟩ ?_
 clear hK K';replace S:=Lib.hid S
 try simp only[Act.put,sZ0,sZ1,sZ2]
 refine Wk.done (by kernel_rfl) ?_
 go_simp
 replace S:=S.out;have S:St w _ [(w16.heap.size,#[.bool false,.slice A10 n10 c10],31),(g_n,#[.bool (ng zn),.slice A9 n9 c9],31),(w7.heap.size,#[.bool false,.slice A4 n4 c4],31),(g_b,#[.bool false,.slice A5 n5 c5],31),(g_d,#[.bool false,.slice A3 n3 c3],31),(w1.heap.size+1,#[.int .i64 a2,.int .i64 b2'],116),(w1.heap.size,#[.int .i64 a1,.int .i64 b1'],116),(w.heap.size+1+1,#[.bool (ng q.num),.slice A14 n14 c14,.slice D14 m14 d14],33),(w.heap.size+1,#[.bool (ng y.num),.slice A' n' c',.slice D' m' d'],33),(w.heap.size,#[.bool (ng x.num),.slice A n c,.slice D 0 d],33)] [(D14,m14,d14,dn q),(A14,n14,c14,limbs q.num.natAbs),(A13,n13,c13,limbs q.den),(A12,n12,c12,limbs d2),(A11,n11,c11,limbs q.num.natAbs),(A10,n10,c10,limbs r),(A9,n9,c9,limbs zn.natAbs),(A8,n8,c8,limbs z2.natAbs),(A7,n7,c7,limbs z1.natAbs),(A6,n6,c6,limbs d1),(A5,n5,c5,limbs b1),(A4,n4,c4,limbs g),(A3,n3,c3,limbs y.den),(A2,n2,c2,limbs x.den),(D',m',d',dn y),(A',n',c',limbs y.num.natAbs),(D,0,d,dn x),(A,n,c,limbs x.num.natAbs)]:=S
 generalize hW23:(World.setCell (World.setCell (World.setCell w22 ⟨w.heap.size+1+1,0,none⟩ (.bool (ng q.num))) ⟨w.heap.size+1+1,1,none⟩ (.slice A14 n14 c14)) ⟨w.heap.size+1+1,2,none⟩ (.slice D14 m14 d14))=w23 at S ⊢;clear hW23;replace S:=Lib.hid S;replace S:=S.out;obtain⟨c_t20,c_t21,f_t20,f_t21⟩:=S.cf2 0 rfl;obtain⟨c_n0,c_n1,f_n0,f_n1⟩:=S.cf2 1 rfl;obtain⟨c_g0,c_g1,f_g0,f_g1⟩:=S.cf2 2 rfl;obtain⟨c_b0,c_b1,f_b0,f_b1⟩:=S.cf2 3 rfl
 obtain⟨c_d0,c_d1,f_d0,f_d1⟩:=S.cf2 4 rfl;obtain⟨c_t0,c_t1,f_t0,f_t1⟩:=S.cf2 5 rfl;obtain⟨c_s0,c_s1,f_s0,f_s1⟩:=S.cf2 6 rfl;obtain⟨c_r0,c_r1,c_r2,f_r0,f_r1,f_r2⟩:=S.cf3 7 rfl;obtain⟨c_y0,c_y1,c_y2,f_y0,f_y1,f_y2⟩:=S.cf3 8 rfl;obtain⟨c_x0,c_x1,c_x2,f_x0,f_x1,f_x2⟩:=S.cf3 9 rfl;have hz:w16.heap.size<w23.heap.size:=S.lt 0 rfl;replace S:=Lib.hid S;have S:=S.out;replace S:=Lib.hid S;go_wp2;refine bodyPost_ret (res_sum _ _ (w.heap.size+1+1) 33 rfl (S.out.bk _ (List.mem_of_getElem? (i:=7) rfl)).1) rfl ?_
 exact⟨_,_,_,_,_,_,rfl,⟨S.out.r 1 rfl,S.out.r 0 rfl⟩,S.out.bel⟩
end Go.Proofs.YthlinhconnmbcaaGreat
