/- Add, Sub, Mul, Div of rational. -/
import Derived.Test.YthlinhconnmbcaaGreatB11
import Derived.Test.YthlinhconnmbcaaGreatB08
import Derived.Test.YthlinhconnmbcaaGreatB01
import Derived.Test.YthlinhconnmbcaaGreatB05
set_option maxRecDepth 100000
set_option maxHeartbeats 40000000
set_option linter.unusedVariables false
namespace Go.Proofs.YthlinhconnmbcaaGreat
open Go.RowKit RQ
theorem res_RAdd (W:World) (tmps:Array Value) (g t:Nat) {v0 v1 v2:Value} (ht:tmps.getD 4 undef=.pointer (some ⟨g,0,none⟩)) (h:Cb W g #[v0,v1,v2] t) :
  (results Tryz.f62 tmps).run Tryz.prog W=.ok (.agg #[v0,v1,v2]) W:=by
 have c0:W.cell? ⟨g,0,none⟩=some v0:=h.cell rfl;have c1:W.cell? ⟨g,1,none⟩=some v1:=h.cell rfl;have c2:W.cell? ⟨g,2,none⟩=some v2:=h.cell rfl;have ht':tmps[4]?.getD undef=.pointer (some ⟨g,0,none⟩):=by rw[←ht];simp[Array.getD_eq_getD_getElem?]
 simp[results,Tryz.results62,go_sem,ht',c0,c1,c2]
theorem Radd_any (b:Bool) (A:Option Addr) (n c:Nat) (xs:List Nat) (D:Option Addr) (m d:Nat) (ds:List Nat) (b':Bool) (A':Option Addr) (n' c':Nat) (ys:List Nat) (D':Option Addr) (m' d':Nat) (es:List Nat) (w:World) (R1:Rd w A n c xs) (R2:Rd w D m d ds) (R3:Rd w A' n' c' ys) (R4:Rd w D' m' d' es) (hn:n≤20000000) (hm:m≤20000000) (hn':n'≤20000000) (hm':m'≤20000000):Calls Tryz.prog 62 #[.agg #[.bool b,.slice A n c,.slice D m d],.agg #[.bool b',.slice A' n' c',.slice D' m' d']] w (RetR (rv b xs ds+rv b' ys es) w):=by
 have h1:Rs (rv b xs ds) 20000000:=Rs.of R1.sm R2.sm (Nat.le_trans (Nat.le_of_eq R1.len) hn) (Nat.le_trans (Nat.le_of_eq R2.len) hm) (by decide)
 have h2:Rs (rv b' ys es) 20000000:=Rs.of R3.sm R4.sm (Nat.le_trans (Nat.le_of_eq R3.len) hn') (Nat.le_trans (Nat.le_of_eq R4.len) hm') (by decide)
 have hK1:=fun W h h'=>knownR_any b A n c xs D m d ds W h h' (by omega) (by omega)
 have hK2:=fun W h h'=>knownR_any b' A' n' c' ys D' m' d' es W h h' (by omega) (by omega)
 generalize rv b xs ds=x at *;generalize rv b' ys es=y at *;replace hK1:=Lib.hid hK1;replace hK2:=Lib.hid hK2;have hS:=Lib.hid (fun A n c D m d A' n' c' D' m' d' W X Y=>sum_any x y A n c D m d A' n' c' D' m' d' W X Y h1 h2)
 generalize x+y=q at *;have S:=((((((((St.new w).read R1).read R2).read R3).read R4).allocAt (w.heap.size) #[.bool b,.slice A n c,.slice D m d] 33 (noL3 _ _ _ _ _ _ _) (by simp)).allocAt (w.heap.size+1) #[.bool b',.slice A' n' c',.slice D' m' d'] 33 (noL3 _ _ _ _ _ _ _) (by simp)).allocAt (w.heap.size+1+1) #[.bool false,.slice none 0 0,.slice none 0 0] 33 (noL3 _ _ _ _ _ _ _) (by simp))
 replace S:=Lib.hid S;clear R1 R2 R3 R4 hn hm hn' hm' h1 h2;go_enter Tryz.func62,Tryz.ntmps62;go_upto_region 1 with fail
 have S:=S.out;generalize hW1:(World.alloc (World.alloc (World.alloc w (.cells #[.bool b,.slice A n c,.slice D m d] 33)) (.cells #[.bool b',.slice A' n' c',.slice D' m' d'] 33)) (.cells #[.bool false,.slice none 0 0,.slice none 0 0] 33))=w1 at S ⊢;clear hW1;replace S:=Lib.hid S;refine RW.begin (Z:=[]) (S:=(fun W=>Cb W (w.heap.size) #[.bool b,.slice A n c,.slice D m d] 33∧Cb W (w.heap.size+1) #[.bool b',.slice A' n' c',.slice D' m' d'] 33)) (by kernel_rfl) ?_ S.out ?_
 ·exact⟨by kernel_rfl,zis_nil,by decide,by decide,nol_nil,(fun _ _ h=>⟨h.kb 2 rfl,h.kb 1 rfl⟩)⟩
 intro hzk;clear S;refine RW.t (i:=0) (v:=.agg #[.bool b,.slice A n c,.slice D m d]) (some 5) at0 (hy:=fun W hS=>by (have k0:=Cb.cell (i:=0) hS.1 rfl;have k1:=Cb.cell (i:=1) hS.1 rfl;have k2:=Cb.cell (i:=2) hS.1 rfl;clear hS;go_simp)) (h:=?_)
 refine RW.t (i:=2) (v:=.agg #[.bool b',.slice A' n' c',.slice D' m' d']) (some 7) at2 (hy:=fun W hS=>by (have k0:=Cb.cell (i:=0) hS.2 rfl;have k1:=Cb.cell (i:=1) hS.2 rfl;have k2:=Cb.cell (i:=2) hS.2 rfl;clear hS;go_simp)) (h:=?_)
 refine RW.c (i:=1) (args:=#[.agg #[.bool b,.slice A n c,.slice D m d]]) (some 6) hzk.out at1 (hx:=fun _=>by kernel_rfl) (h:=fun _ S=>(hK1.out _ (S.r 3 rfl) (S.r 2 rfl)).mono ?_)
 rintro e w2 ⟨A1,n1,c1,D1,m1,d1,rfl,Q1,bb⟩;refine⟨bb,_,[(D1,m1,d1,dn x),(A1,n1,c1,limbs x.num.natAbs)],rfl,(rd_cons Q1.d (rd_cons Q1.n rd_nil)),?_⟩
 clear bb S Q1;refine RW.c (i:=3) (args:=#[.agg #[.bool b',.slice A' n' c',.slice D' m' d']]) (some 8) hzk.out at3 (hx:=fun _=>by kernel_rfl) (h:=fun _ S=>(hK2.out _ (S.r 3 rfl) (S.r 2 rfl)).mono ?_)
 rintro e w3 ⟨A2,n2,c2,D2,m2,d2,rfl,Q2,bb⟩;refine⟨bb,_,[(D2,m2,d2,dn y),(A2,n2,c2,limbs y.num.natAbs)],rfl,(rd_cons Q2.d (rd_cons Q2.n rd_nil)),?_⟩
 clear bb S Q2;refine RW.c (i:=4) (args:=#[.agg #[.bool (ng x.num),.slice A1 n1 c1,.slice D1 m1 d1],.agg #[.bool (ng y.num),.slice A2 n2 c2,.slice D2 m2 d2]]) (some 9) hzk.out at4 (hx:=fun _=>by kernel_rfl) (h:=fun _ S=>(hS.out _ _ _ _ _ _ _ _ _ _ _ _ _ ⟨S.r 3 rfl,S.r 2 rfl⟩ ⟨S.r 1 rfl,S.r 0 rfl⟩).mono ?_)
 rintro e w4 ⟨A3,n3,c3,D3,m3,d3,rfl,Q3,bb⟩;refine⟨bb,_,[(D3,m3,d3,dn q),(A3,n3,c3,limbs q.num.natAbs)],rfl,(rd_cons Q3.d (rd_cons Q3.n rd_nil)),?_⟩
 clear bb S Q3;refine RW.tail hzk.out (by kernel_rfl) ?_
 intro gs w5 hgs hS S;obtain rfl:=len0 hgs;clear hS hgs hzk;simp only[mark,fill,Act.put,sZ0,sZ1,sZ2];replace S:=Lib.hid S;refine Wk.o (i:=5) at5 (by kernel_rfl) fun K' hK=>?_
 have q5_r0:=St.cl (S.out) 0 0 rfl rfl;have q5_r1:=St.cl (S.out) 0 1 rfl rfl;have q5_r2:=St.cl (S.out) 0 2 rfl rfl;have q5z_r0:=St.f (S.out) 0 0 rfl;have q5z_r1:=St.f (S.out) 0 1 rfl;have q5z_r2:=St.f (S.out) 0 2 rfl
 go_simp
 have SN:=(((S.out.set 0 0 (.bool (ng q.num)) rfl (by nofun)).set 0 1 (.slice A3 n3 c3) rfl (by nofun)).set 0 2 (.slice D3 m3 d3) rfl (by nofun))
 clear S q5_r0 q5_r1 q5_r2 q5z_r0 q5z_r1 q5z_r2;have S:=SN;clear SN;refine hK.out _ _ ⟨(S.cb 2 rfl),(S.cb 1 rfl)⟩ ?_
 clear hK K';replace S:=Lib.hid S
 try simp only[Act.put,sZ0,sZ1,sZ2]
 refine Wk.done (by kernel_rfl) ?_
 go_simp
 replace S:=S.out;have S:St w _ [(w.heap.size+1+1,#[.bool (ng q.num),.slice A3 n3 c3,.slice D3 m3 d3],33),(w.heap.size+1,#[.bool b',.slice A' n' c',.slice D' m' d'],33),(w.heap.size,#[.bool b,.slice A n c,.slice D m d],33)] [(D3,m3,d3,dn q),(A3,n3,c3,limbs q.num.natAbs),(D2,m2,d2,dn y),(A2,n2,c2,limbs y.num.natAbs),(D1,m1,d1,dn x),(A1,n1,c1,limbs x.num.natAbs),(D',m',d',es),(A',n',c',ys),(D,m,d,ds),(A,n,c,xs)]:=S
 generalize hW6:(World.setCell (World.setCell (World.setCell w5 ⟨w.heap.size+1+1,0,none⟩ (.bool (ng q.num))) ⟨w.heap.size+1+1,1,none⟩ (.slice A3 n3 c3)) ⟨w.heap.size+1+1,2,none⟩ (.slice D3 m3 d3))=w6 at S ⊢;clear hW6;replace S:=Lib.hid S;replace S:=S.out;obtain⟨c_r0,c_r1,c_r2,f_r0,f_r1,f_r2⟩:=S.cf3 0 rfl;obtain⟨c_y0,c_y1,c_y2,f_y0,f_y1,f_y2⟩:=S.cf3 1 rfl;obtain⟨c_x0,c_x1,c_x2,f_x0,f_x1,f_x2⟩:=S.cf3 2 rfl
 have hz:w.heap.size+1+1<w6.heap.size:=S.lt 0 rfl;replace S:=Lib.hid S;have S:=S.out;replace S:=Lib.hid S;go_wp2;refine bodyPost_ret (res_RAdd _ _ (w.heap.size+1+1) 33 rfl (S.out.bk _ (List.mem_of_getElem? (i:=0) rfl)).1) rfl ?_
 exact⟨_,_,_,_,_,_,rfl,⟨S.out.r 1 rfl,S.out.r 0 rfl⟩,S.out.bel⟩
theorem res_RMul (W:World) (tmps:Array Value) (g t:Nat) {v0 v1 v2:Value} (ht:tmps.getD 4 undef=.pointer (some ⟨g,0,none⟩)) (h:Cb W g #[v0,v1,v2] t) :
  (results Tryz.f60 tmps).run Tryz.prog W=.ok (.agg #[v0,v1,v2]) W:=by
 have c0:W.cell? ⟨g,0,none⟩=some v0:=h.cell rfl;have c1:W.cell? ⟨g,1,none⟩=some v1:=h.cell rfl;have c2:W.cell? ⟨g,2,none⟩=some v2:=h.cell rfl;have ht':tmps[4]?.getD undef=.pointer (some ⟨g,0,none⟩):=by rw[←ht];simp[Array.getD_eq_getD_getElem?]
 simp[results,Tryz.results60,go_sem,ht',c0,c1,c2]
theorem Rmul_any (b:Bool) (A:Option Addr) (n c:Nat) (xs:List Nat) (D:Option Addr) (m d:Nat) (ds:List Nat) (b':Bool) (A':Option Addr) (n' c':Nat) (ys:List Nat) (D':Option Addr) (m' d':Nat) (es:List Nat) (w:World) (R1:Rd w A n c xs) (R2:Rd w D m d ds) (R3:Rd w A' n' c' ys) (R4:Rd w D' m' d' es) (hn:n≤20000000) (hm:m≤20000000) (hn':n'≤20000000) (hm':m'≤20000000):Calls Tryz.prog 60 #[.agg #[.bool b,.slice A n c,.slice D m d],.agg #[.bool b',.slice A' n' c',.slice D' m' d']] w (RetR (rv b xs ds*rv b' ys es) w):=by
 have h1:Rs (rv b xs ds) 20000000:=Rs.of R1.sm R2.sm (Nat.le_trans (Nat.le_of_eq R1.len) hn) (Nat.le_trans (Nat.le_of_eq R2.len) hm) (by decide)
 have h2:Rs (rv b' ys es) 20000000:=Rs.of R3.sm R4.sm (Nat.le_trans (Nat.le_of_eq R3.len) hn') (Nat.le_trans (Nat.le_of_eq R4.len) hm') (by decide)
 have hK1:=fun W h h'=>knownR_any b A n c xs D m d ds W h h' (by omega) (by omega)
 have hK2:=fun W h h'=>knownR_any b' A' n' c' ys D' m' d' es W h h' (by omega) (by omega)
 generalize rv b xs ds=x at *;generalize rv b' ys es=y at *;replace hK1:=Lib.hid hK1;replace hK2:=Lib.hid hK2;have hS:=Lib.hid (fun A n c D m d A' n' c' D' m' d' W X Y=>product_any x y A n c D m d A' n' c' D' m' d' W X Y h1 h2)
 generalize x*y=q at *;have S:=((((((((St.new w).read R1).read R2).read R3).read R4).allocAt (w.heap.size) #[.bool b,.slice A n c,.slice D m d] 33 (noL3 _ _ _ _ _ _ _) (by simp)).allocAt (w.heap.size+1) #[.bool b',.slice A' n' c',.slice D' m' d'] 33 (noL3 _ _ _ _ _ _ _) (by simp)).allocAt (w.heap.size+1+1) #[.bool false,.slice none 0 0,.slice none 0 0] 33 (noL3 _ _ _ _ _ _ _) (by simp))
 replace S:=Lib.hid S;clear R1 R2 R3 R4 hn hm hn' hm' h1 h2;go_enter Tryz.func60,Tryz.ntmps60;go_upto_region 1 with fail
 have S:=S.out;generalize hW1:(World.alloc (World.alloc (World.alloc w (.cells #[.bool b,.slice A n c,.slice D m d] 33)) (.cells #[.bool b',.slice A' n' c',.slice D' m' d'] 33)) (.cells #[.bool false,.slice none 0 0,.slice none 0 0] 33))=w1 at S ⊢;clear hW1;replace S:=Lib.hid S;refine RW.begin (Z:=[]) (S:=(fun W=>Cb W (w.heap.size) #[.bool b,.slice A n c,.slice D m d] 33∧Cb W (w.heap.size+1) #[.bool b',.slice A' n' c',.slice D' m' d'] 33)) (by kernel_rfl) ?_ S.out ?_
 ·exact⟨by kernel_rfl,zis_nil,by decide,by decide,nol_nil,(fun _ _ h=>⟨h.kb 2 rfl,h.kb 1 rfl⟩)⟩
 intro hzk;clear S;refine RW.t (i:=0) (v:=.agg #[.bool b,.slice A n c,.slice D m d]) (some 5) at0 (hy:=fun W hS=>by (have k0:=Cb.cell (i:=0) hS.1 rfl;have k1:=Cb.cell (i:=1) hS.1 rfl;have k2:=Cb.cell (i:=2) hS.1 rfl;clear hS;go_simp)) (h:=?_)
 refine RW.t (i:=2) (v:=.agg #[.bool b',.slice A' n' c',.slice D' m' d']) (some 7) at2 (hy:=fun W hS=>by (have k0:=Cb.cell (i:=0) hS.2 rfl;have k1:=Cb.cell (i:=1) hS.2 rfl;have k2:=Cb.cell (i:=2) hS.2 rfl;clear hS;go_simp)) (h:=?_)
 refine RW.c (i:=1) (args:=#[.agg #[.bool b,.slice A n c,.slice D m d]]) (some 6) hzk.out at1 (hx:=fun _=>by kernel_rfl) (h:=fun _ S=>(hK1.out _ (S.r 3 rfl) (S.r 2 rfl)).mono ?_)
 rintro e w2 ⟨A1,n1,c1,D1,m1,d1,rfl,Q1,bb⟩;refine⟨bb,_,[(D1,m1,d1,dn x),(A1,n1,c1,limbs x.num.natAbs)],rfl,(rd_cons Q1.d (rd_cons Q1.n rd_nil)),?_⟩
 clear bb S Q1;refine RW.c (i:=3) (args:=#[.agg #[.bool b',.slice A' n' c',.slice D' m' d']]) (some 8) hzk.out at3 (hx:=fun _=>by kernel_rfl) (h:=fun _ S=>(hK2.out _ (S.r 3 rfl) (S.r 2 rfl)).mono ?_)
 rintro e w3 ⟨A2,n2,c2,D2,m2,d2,rfl,Q2,bb⟩;refine⟨bb,_,[(D2,m2,d2,dn y),(A2,n2,c2,limbs y.num.natAbs)],rfl,(rd_cons Q2.d (rd_cons Q2.n rd_nil)),?_⟩
 clear bb S Q2;refine RW.c (i:=4) (args:=#[.agg #[.bool (ng x.num),.slice A1 n1 c1,.slice D1 m1 d1],.agg #[.bool (ng y.num),.slice A2 n2 c2,.slice D2 m2 d2]]) (some 9) hzk.out at4 (hx:=fun _=>by kernel_rfl) (h:=fun _ S=>(hS.out _ _ _ _ _ _ _ _ _ _ _ _ _ ⟨S.r 3 rfl,S.r 2 rfl⟩ ⟨S.r 1 rfl,S.r 0 rfl⟩).mono ?_)
 rintro e w4 ⟨A3,n3,c3,D3,m3,d3,rfl,Q3,bb⟩;refine⟨bb,_,[(D3,m3,d3,dn q),(A3,n3,c3,limbs q.num.natAbs)],rfl,(rd_cons Q3.d (rd_cons Q3.n rd_nil)),?_⟩
 clear bb S Q3;refine RW.tail hzk.out (by kernel_rfl) ?_
 intro gs w5 hgs hS S;obtain rfl:=len0 hgs;clear hS hgs hzk;simp only[mark,fill,Act.put,sZ0,sZ1,sZ2];replace S:=Lib.hid S;refine Wk.o (i:=5) at5 (by kernel_rfl) fun K' hK=>?_
 have q5_r0:=St.cl (S.out) 0 0 rfl rfl;have q5_r1:=St.cl (S.out) 0 1 rfl rfl;have q5_r2:=St.cl (S.out) 0 2 rfl rfl;have q5z_r0:=St.f (S.out) 0 0 rfl;have q5z_r1:=St.f (S.out) 0 1 rfl;have q5z_r2:=St.f (S.out) 0 2 rfl
 go_simp
 have SN:=(((S.out.set 0 0 (.bool (ng q.num)) rfl (by nofun)).set 0 1 (.slice A3 n3 c3) rfl (by nofun)).set 0 2 (.slice D3 m3 d3) rfl (by nofun))
 clear S q5_r0 q5_r1 q5_r2 q5z_r0 q5z_r1 q5z_r2;have S:=SN;clear SN;refine hK.out _ _ ⟨(S.cb 2 rfl),(S.cb 1 rfl)⟩ ?_
 clear hK K';replace S:=Lib.hid S
 try simp only[Act.put,sZ0,sZ1,sZ2]
 refine Wk.done (by kernel_rfl) ?_
 go_simp
 replace S:=S.out;have S:St w _ [(w.heap.size+1+1,#[.bool (ng q.num),.slice A3 n3 c3,.slice D3 m3 d3],33),(w.heap.size+1,#[.bool b',.slice A' n' c',.slice D' m' d'],33),(w.heap.size,#[.bool b,.slice A n c,.slice D m d],33)] [(D3,m3,d3,dn q),(A3,n3,c3,limbs q.num.natAbs),(D2,m2,d2,dn y),(A2,n2,c2,limbs y.num.natAbs),(D1,m1,d1,dn x),(A1,n1,c1,limbs x.num.natAbs),(D',m',d',es),(A',n',c',ys),(D,m,d,ds),(A,n,c,xs)]:=S
 generalize hW6:(World.setCell (World.setCell (World.setCell w5 ⟨w.heap.size+1+1,0,none⟩ (.bool (ng q.num))) ⟨w.heap.size+1+1,1,none⟩ (.slice A3 n3 c3)) ⟨w.heap.size+1+1,2,none⟩ (.slice D3 m3 d3))=w6 at S ⊢;clear hW6;replace S:=Lib.hid S;replace S:=S.out;obtain⟨c_r0,c_r1,c_r2,f_r0,f_r1,f_r2⟩:=S.cf3 0 rfl;obtain⟨c_y0,c_y1,c_y2,f_y0,f_y1,f_y2⟩:=S.cf3 1 rfl;obtain⟨c_x0,c_x1,c_x2,f_x0,f_x1,f_x2⟩:=S.cf3 2 rfl
 have hz:w.heap.size+1+1<w6.heap.size:=S.lt 0 rfl;replace S:=Lib.hid S;have S:=S.out;replace S:=Lib.hid S;go_wp2;refine bodyPost_ret (res_RMul _ _ (w.heap.size+1+1) 33 rfl (S.out.bk _ (List.mem_of_getElem? (i:=0) rfl)).1) rfl ?_
 exact⟨_,_,_,_,_,_,rfl,⟨S.out.r 1 rfl,S.out.r 0 rfl⟩,S.out.bel⟩
theorem res_RSub (W:World) (tmps:Array Value) (g t:Nat) {v0 v1 v2:Value} (ht:tmps.getD 4 undef=.pointer (some ⟨g,0,none⟩)) (h:Cb W g #[v0,v1,v2] t) :
  (results Tryz.f79 tmps).run Tryz.prog W=.ok (.agg #[v0,v1,v2]) W:=by
 have c0:W.cell? ⟨g,0,none⟩=some v0:=h.cell rfl;have c1:W.cell? ⟨g,1,none⟩=some v1:=h.cell rfl;have c2:W.cell? ⟨g,2,none⟩=some v2:=h.cell rfl;have ht':tmps[4]?.getD undef=.pointer (some ⟨g,0,none⟩):=by rw[←ht];simp[Array.getD_eq_getD_getElem?]
 simp[results,Tryz.results79,go_sem,ht',c0,c1,c2]
theorem Rsub_any (b:Bool) (A:Option Addr) (n c:Nat) (xs:List Nat) (D:Option Addr) (m d:Nat) (ds:List Nat) (b':Bool) (A':Option Addr) (n' c':Nat) (ys:List Nat) (D':Option Addr) (m' d':Nat) (es:List Nat) (w:World) (R1:Rd w A n c xs) (R2:Rd w D m d ds) (R3:Rd w A' n' c' ys) (R4:Rd w D' m' d' es) (hn:n≤20000000) (hm:m≤20000000) (hn':n'≤20000000) (hm':m'≤20000000):Calls Tryz.prog 79 #[.agg #[.bool b,.slice A n c,.slice D m d],.agg #[.bool b',.slice A' n' c',.slice D' m' d']] w (RetR (rv b xs ds-rv b' ys es) w):=by
 have h1:Rs (rv b xs ds) 20000000:=Rs.of R1.sm R2.sm (Nat.le_trans (Nat.le_of_eq R1.len) hn) (Nat.le_trans (Nat.le_of_eq R2.len) hm) (by decide)
 have h2:Rs (rv b' ys es) 20000000:=Rs.of R3.sm R4.sm (Nat.le_trans (Nat.le_of_eq R3.len) hn') (Nat.le_trans (Nat.le_of_eq R4.len) hm') (by decide)
 have hK1:=fun W h h'=>knownR_any b A n c xs D m d ds W h h' (by omega) (by omega)
 have hK2:=fun W h h'=>knownR_any b' A' n' c' ys D' m' d' es W h h' (by omega) (by omega)
 generalize rv b xs ds=x at *;generalize rv b' ys es=y at *;replace hK1:=Lib.hid hK1;replace hK2:=Lib.hid hK2;have hS:=Lib.hid (fun A n c D m d A' n' c' D' m' d' W X (Y:RR W A' n' c' D' m' d' (-y))=>sum_any x (-y) A n c D m d A' n' c' D' m' d' W X Y h1 h2.neg)
 have hN:Hid (∀ W A n c,Rd W A n c (limbs y.num.natAbs)→Calls Tryz.prog 81 #[.agg #[.bool (ng y.num),.slice A n c]] W (RetI (-y.num) W)):=Lib.hid fun W A n c h=>by
  have l:n≤20000000:=by rw[←h.len];exact limbs_len_le.2 h2.n
  have:=negI_any (ng y.num) A n c _ W h (by omega)
  rwa [iv_z] at this
 rw[Rat.sub_eq_add_neg];have e1:=Lib.hid (show ∀ A n c D m d W,Rd W A n c (limbs (-y.num).natAbs)→Rd W D m d (dn y)→RR W A n c D m d (-y) from fun _ _ _ _ _ _ _ h1 h2=>neg_RR h1 h2)
 have e2:=Lib.hid (show ng (-y).num=ng (-y.num) from rfl)
 generalize x + -y=q at *;rw[e2.out] at hS;generalize -y=z at *;generalize -y.num=zn at *;have S:=((((((((St.new w).read R1).read R2).read R3).read R4).allocAt (w.heap.size) #[.bool b,.slice A n c,.slice D m d] 33 (noL3 _ _ _ _ _ _ _) (by simp)).allocAt (w.heap.size+1) #[.bool b',.slice A' n' c',.slice D' m' d'] 33 (noL3 _ _ _ _ _ _ _) (by simp)).allocAt (w.heap.size+1+1) #[.bool false,.slice none 0 0,.slice none 0 0] 33 (noL3 _ _ _ _ _ _ _) (by simp))
 replace S:=Lib.hid S;clear R1 R2 R3 R4 hn hm hn' hm' h1 h2 e2;go_enter Tryz.func79,Tryz.ntmps79
 go_wp2_with fail
 refine (hK2.out _ (S.out.r 1 rfl) (S.out.r 0 rfl)).mono ?_
 rintro e w1 ⟨A1,n1,c1,D1,m1,d1,rfl,Q1,bb⟩;have T:=(((S.out.call bb).read Q1.n).read Q1.d);clear bb S;have S:=T;clear T;obtain⟨c_r0,c_r1,c_r2,f_r0,f_r1,f_r2⟩:=S.cf3 0 rfl;obtain⟨c_y0,c_y1,c_y2,f_y0,f_y1,f_y2⟩:=S.cf3 1 rfl;obtain⟨c_x0,c_x1,c_x2,f_x0,f_x1,f_x2⟩:=S.cf3 2 rfl;have hz:w.heap.size+1+1<w1.heap.size:=S.lt 0 rfl;replace S:=Lib.hid S;clear Q1 hK2;go_upto_region 2 with fail
 clear c_r0 f_r0 c_r1 f_r1 c_r2 f_r2 c_y0 f_y0 c_y1 f_y1 c_y2 f_y2 c_x0 f_x0 c_x1 f_x1 c_x2 f_x2 hz;have S:St w _ [(w.heap.size+1+1,#[.bool false,.slice none 0 0,.slice none 0 0],33),(w.heap.size+1,#[.bool (ng y.num),.slice A1 n1 c1,.slice D1 m1 d1],33),(w.heap.size,#[.bool b,.slice A n c,.slice D m d],33)] [(D1,m1,d1,dn y),(A1,n1,c1,limbs y.num.natAbs),(D',m',d',es),(A',n',c',ys),(D,m,d,ds),(A,n,c,xs)]:=(((S.out.set 1 0 (.bool (ng y.num)) rfl (by nofun)).set 1 1 (.slice A1 n1 c1) rfl (by nofun)).set 1 2 (.slice D1 m1 d1) rfl (by nofun))
 generalize hW2:(World.setCell (World.setCell (World.setCell w1 ⟨w.heap.size+1,0,none⟩ (.bool (ng y.num))) ⟨w.heap.size+1,1,none⟩ (.slice A1 n1 c1)) ⟨w.heap.size+1,2,none⟩ (.slice D1 m1 d1))=w2 at S ⊢;clear hW2;replace S:=Lib.hid S;refine RW.begin (Z:=[]) (S:=(fun W=>Cb W (w.heap.size) #[.bool b,.slice A n c,.slice D m d] 33∧Cb W (w.heap.size+1) #[.bool (ng y.num),.slice A1 n1 c1,.slice D1 m1 d1] 33)) (by kernel_rfl) ?_ S.out ?_
 ·exact⟨by kernel_rfl,zis_nil,by decide,by decide,nol_nil,(fun _ _ h=>⟨h.kb 2 rfl,h.kb 1 rfl⟩)⟩
 intro hzk;clear S;refine RW.t (i:=0) (v:=.agg #[.bool b,.slice A n c,.slice D m d]) (some 7) at0 (hy:=fun W hS=>by (have k0:=Cb.cell (i:=0) hS.1 rfl;have k1:=Cb.cell (i:=1) hS.1 rfl;have k2:=Cb.cell (i:=2) hS.1 rfl;clear hS;go_simp)) (h:=?_)
 refine RW.t (i:=2) (v:=.pointer (some ⟨w.heap.size+1,0,none⟩)) (some 9) at2 (hy:=fun _ _=>by kernel_rfl) (h:=?_)
 refine RW.t (i:=3) (v:=.agg #[.bool (ng y.num),.slice A1 n1 c1]) (some 10) at3 (hy:=fun W hS=>by (have k0:=Cb.cell (i:=0) hS.2 rfl;have k1:=Cb.cell (i:=1) hS.2 rfl;clear hS;go_simp)) (h:=?_)
 refine RW.t (i:=5) (v:=.pointer (some ⟨w.heap.size+1,2,none⟩)) (some 12) at5 (hy:=fun _ _=>by kernel_rfl) (h:=?_)
 refine RW.t (i:=6) (v:=.slice D1 m1 d1) (some 13) at6 (hy:=fun W hS=>by (have k2:=Cb.cell (i:=2) hS.2 rfl;clear hS;go_simp)) (h:=?_)
 refine RW.c (i:=1) (args:=#[.agg #[.bool b,.slice A n c,.slice D m d]]) (some 8) hzk.out at1 (hx:=fun _=>by kernel_rfl) (h:=fun _ S=>(hK1.out _ (S.r 5 rfl) (S.r 4 rfl)).mono ?_)
 rintro e w3 ⟨A2,n2,c2,D2,m2,d2,rfl,Q2,bb⟩;refine⟨bb,_,[(D2,m2,d2,dn x),(A2,n2,c2,limbs x.num.natAbs)],rfl,(rd_cons Q2.d (rd_cons Q2.n rd_nil)),?_⟩
 clear bb S Q2;refine RW.c (i:=4) (args:=#[.agg #[.bool (ng y.num),.slice A1 n1 c1]]) (some 11) hzk.out at4 (hx:=fun _=>by kernel_rfl) (h:=fun _ S=>(hN.out _ _ _ _ (S.r 3 rfl)).mono ?_)
 rintro e w4 ⟨A3,n3,c3,rfl,Q3,bb⟩;refine⟨bb,_,[(A3,n3,c3,limbs zn.natAbs)],rfl,(rd_cons Q3 rd_nil),?_⟩
 clear bb S Q3;refine RW.t (i:=7) (v:=.agg #[.bool (ng zn),.slice A3 n3 c3,.slice D1 m1 d1]) (some 14) at7 (hy:=fun _ _=>by kernel_rfl) (h:=?_)
 refine RW.c (i:=8) (args:=#[.agg #[.bool (ng x.num),.slice A2 n2 c2,.slice D2 m2 d2],.agg #[.bool (ng zn),.slice A3 n3 c3,.slice D1 m1 d1]]) (some 15) hzk.out at8 (hx:=fun _=>by kernel_rfl) (h:=fun _ S=>(hS.out _ _ _ _ _ _ _ _ _ _ _ _ _ ⟨S.r 2 rfl,S.r 1 rfl⟩ (e1.out _ _ _ _ _ _ _ (S.r 0 rfl) (S.r 3 rfl))).mono ?_)
 rintro e w5 ⟨A4,n4,c4,D4,m4,d4,rfl,Q4,bb⟩;refine⟨bb,_,[(D4,m4,d4,dn q),(A4,n4,c4,limbs q.num.natAbs)],rfl,(rd_cons Q4.d (rd_cons Q4.n rd_nil)),?_⟩
 clear bb S Q4;refine RW.tail hzk.out (by kernel_rfl) ?_
 intro gs w6 hgs hS S;obtain rfl:=len0 hgs;clear hS hgs hzk;simp only[mark,fill,Act.put,sZ0,sZ1,sZ2];replace S:=Lib.hid S;refine Wk.o (i:=9) at9 (by kernel_rfl) fun K' hK=>?_
 have q9_r0:=St.cl (S.out) 0 0 rfl rfl;have q9_r1:=St.cl (S.out) 0 1 rfl rfl;have q9_r2:=St.cl (S.out) 0 2 rfl rfl;have q9z_r0:=St.f (S.out) 0 0 rfl;have q9z_r1:=St.f (S.out) 0 1 rfl;have q9z_r2:=St.f (S.out) 0 2 rfl
 go_simp
 have SN:=(((S.out.set 0 0 (.bool (ng q.num)) rfl (by nofun)).set 0 1 (.slice A4 n4 c4) rfl (by nofun)).set 0 2 (.slice D4 m4 d4) rfl (by nofun))
 clear S q9_r0 q9_r1 q9_r2 q9z_r0 q9z_r1 q9z_r2;have S:=SN;clear SN;refine hK.out _ _ ⟨(S.cb 2 rfl),(S.cb 1 rfl)⟩ ?_
 clear hK K';replace S:=Lib.hid S
 try simp only[Act.put,sZ0,sZ1,sZ2]
 refine Wk.done (by kernel_rfl) ?_
 go_simp
 replace S:=S.out;have S:St w _ [(w.heap.size+1+1,#[.bool (ng q.num),.slice A4 n4 c4,.slice D4 m4 d4],33),(w.heap.size+1,#[.bool (ng y.num),.slice A1 n1 c1,.slice D1 m1 d1],33),(w.heap.size,#[.bool b,.slice A n c,.slice D m d],33)] [(D4,m4,d4,dn q),(A4,n4,c4,limbs q.num.natAbs),(A3,n3,c3,limbs zn.natAbs),(D2,m2,d2,dn x),(A2,n2,c2,limbs x.num.natAbs),(D1,m1,d1,dn y),(A1,n1,c1,limbs y.num.natAbs),(D',m',d',es),(A',n',c',ys),(D,m,d,ds),(A,n,c,xs)]:=S
 generalize hW7:(World.setCell (World.setCell (World.setCell w6 ⟨w.heap.size+1+1,0,none⟩ (.bool (ng q.num))) ⟨w.heap.size+1+1,1,none⟩ (.slice A4 n4 c4)) ⟨w.heap.size+1+1,2,none⟩ (.slice D4 m4 d4))=w7 at S ⊢;clear hW7;replace S:=Lib.hid S;replace S:=S.out;obtain⟨c_r0,c_r1,c_r2,f_r0,f_r1,f_r2⟩:=S.cf3 0 rfl;obtain⟨c_y0,c_y1,c_y2,f_y0,f_y1,f_y2⟩:=S.cf3 1 rfl;obtain⟨c_x0,c_x1,c_x2,f_x0,f_x1,f_x2⟩:=S.cf3 2 rfl
 have hz:w.heap.size+1+1<w7.heap.size:=S.lt 0 rfl;replace S:=Lib.hid S;have S:=S.out;replace S:=Lib.hid S;go_wp2;refine bodyPost_ret (res_RSub _ _ (w.heap.size+1+1) 33 rfl (S.out.bk _ (List.mem_of_getElem? (i:=0) rfl)).1) rfl ?_
 exact⟨_,_,_,_,_,_,rfl,⟨S.out.r 1 rfl,S.out.r 0 rfl⟩,S.out.bel⟩
theorem res_RDiv (W:World) (tmps:Array Value) (g t:Nat) {v0 v1 v2 e0:Value} (ht:tmps.getD 4 undef=.pointer (some ⟨g,0,none⟩)) (h0:tmps.getD 5 undef=e0) (h:Cb W g #[v0,v1,v2] t) :
  (results Tryz.f65 tmps).run Tryz.prog W=.ok (.tuple #[.agg #[v0,v1,v2],e0]) W:=by
 have c0:W.cell? ⟨g,0,none⟩=some v0:=h.cell rfl;have c1:W.cell? ⟨g,1,none⟩=some v1:=h.cell rfl;have c2:W.cell? ⟨g,2,none⟩=some v2:=h.cell rfl;have ht':tmps[4]?.getD undef=.pointer (some ⟨g,0,none⟩):=by rw[←ht];simp[Array.getD_eq_getD_getElem?]
 have k0:tmps[5]?.getD undef=e0:=by rw[←h0];simp[Array.getD_eq_getD_getElem?]
 simp[results,Tryz.results65,go_sem,ht',k0,c0,c1,c2]
def dvE (q:Rat):Int:=if q=0 then 5 else 0
theorem Rdiv_any (b:Bool) (A:Option Addr) (n c:Nat) (xs:List Nat) (D:Option Addr) (m d:Nat) (ds:List Nat) (b':Bool) (A':Option Addr) (n' c':Nat) (ys:List Nat) (D':Option Addr) (m' d':Nat) (es:List Nat) (w:World) (R1:Rd w A n c xs) (R2:Rd w D m d ds) (R3:Rd w A' n' c' ys) (R4:Rd w D' m' d' es) (hn:n≤20000000) (hm:m≤20000000) (hn':n'≤20000000) (hm':m'≤20000000):Calls Tryz.prog 65 #[.agg #[.bool b,.slice A n c,.slice D m d],.agg #[.bool b',.slice A' n' c',.slice D' m' d']] w (RetRE (rv b xs ds / rv b' ys es) (.int .i64 (dvE (rv b' ys es))) w):=by
 have h1:Rs (rv b xs ds) 20000000:=Rs.of R1.sm R2.sm (Nat.le_trans (Nat.le_of_eq R1.len) hn) (Nat.le_trans (Nat.le_of_eq R2.len) hm) (by decide)
 have h2:Rs (rv b' ys es) 20000000:=Rs.of R3.sm R4.sm (Nat.le_trans (Nat.le_of_eq R3.len) hn') (Nat.le_trans (Nat.le_of_eq R4.len) hm') (by decide)
 have hK1:=fun W h h'=>knownR_any b A n c xs D m d ds W h h' (by omega) (by omega)
 have hK2:=fun W h h'=>knownR_any b' A' n' c' ys D' m' d' es W h h' (by omega) (by omega)
 generalize rv b xs ds=x at *;generalize rv b' ys es=y at *;replace hK1:=Lib.hid hK1;replace hK2:=Lib.hid hK2;have hs:Hid (∀ W A n c,Rd W A n c (limbs y.num.natAbs)→Calls Tryz.prog 89 #[.agg #[.bool (ng y.num),.slice A n c]] W fun e w'=>e=.returned (.int .i64 y.num.sign)∧Below W.heap.size W w'):=Lib.hid fun W A n c h=>by
  have l:n≤20000000:=by rw[←h.len];exact limbs_len_le.2 h2.n
  have:=signI_any (ng y.num) A n c _ W h (by omega)
  rwa [iv_z] at this
 have S:=((((((((St.new w).read R1).read R2).read R3).read R4).allocAt (w.heap.size) #[.bool b,.slice A n c,.slice D m d] 33 (noL3 _ _ _ _ _ _ _) (by simp)).allocAt (w.heap.size+1) #[.bool b',.slice A' n' c',.slice D' m' d'] 33 (noL3 _ _ _ _ _ _ _) (by simp)).allocAt (w.heap.size+1+1) #[.bool false,.slice none 0 0,.slice none 0 0] 33 (noL3 _ _ _ _ _ _ _) (by simp))
 replace S:=Lib.hid S
 by_cases hy:y=0
 ·have e0:y.num.sign=0:=by rw[hy];rfl
  rw[show x / y=0 by rw[hy,Rat.div_def,Rat.inv_zero,Rat.mul_zero],show dvE y=5 from if_pos hy]
  rw[e0] at hs;clear e0 R1 R2 R3 R4 hn hm hn' hm' h1 h2 hK1 hy;go_enter Tryz.func65,Tryz.ntmps65
  go_wp2_with fail
  refine (hK2.out _ (S.out.r 1 rfl) (S.out.r 0 rfl)).mono ?_
  rintro e w1 ⟨A1,n1,c1,D1,m1,d1,rfl,Q1,bb⟩;have T:=(((S.out.call bb).read Q1.n).read Q1.d);clear bb S;have S:=T;clear T;obtain⟨c_r0,c_r1,c_r2,f_r0,f_r1,f_r2⟩:=S.cf3 0 rfl;obtain⟨c_y0,c_y1,c_y2,f_y0,f_y1,f_y2⟩:=S.cf3 1 rfl;obtain⟨c_x0,c_x1,c_x2,f_x0,f_x1,f_x2⟩:=S.cf3 2 rfl;have hz:w.heap.size+1+1<w1.heap.size:=S.lt 0 rfl;replace S:=Lib.hid S;clear Q1 hK2;have S:St w _ [(w.heap.size+1+1,#[.bool false,.slice none 0 0,.slice none 0 0],33),(w.heap.size+1,#[.bool (ng y.num),.slice A1 n1 c1,.slice D1 m1 d1],33),(w.heap.size,#[.bool b,.slice A n c,.slice D m d],33)] [(D1,m1,d1,dn y),(A1,n1,c1,limbs y.num.natAbs),(D',m',d',es),(A',n',c',ys),(D,m,d,ds),(A,n,c,xs)]:=(((S.out.set 1 0 (.bool (ng y.num)) rfl (by nofun)).set 1 1 (.slice A1 n1 c1) rfl (by nofun)).set 1 2 (.slice D1 m1 d1) rfl (by nofun))
  obtain⟨a_y0,a_y1,a_y2,b_y0,b_y1,b_y2⟩:=S.cf3 1 rfl;replace S:=Lib.hid S
  go_wp2_with fail
  refine (hs.out _ _ _ _ (S.out.r 1 rfl)).mono ?_
  rintro e w2 ⟨rfl,bb⟩;have T:=(S.out.call bb);clear bb S c_r0 f_r0 c_r1 f_r1 c_r2 f_r2 c_y0 f_y0 c_y1 f_y1 c_y2 f_y2 c_x0 f_x0 c_x1 f_x1 c_x2 f_x2 hz a_y0 b_y0 a_y1 b_y1 a_y2 b_y2;have S:=T;clear T;obtain⟨c_r0,c_r1,c_r2,f_r0,f_r1,f_r2⟩:=S.cf3 0 rfl;obtain⟨c_y0,c_y1,c_y2,f_y0,f_y1,f_y2⟩:=S.cf3 1 rfl;obtain⟨c_x0,c_x1,c_x2,f_x0,f_x1,f_x2⟩:=S.cf3 2 rfl;have hz:w.heap.size+1+1<w2.heap.size:=S.lt 0 rfl
  replace S:=Lib.hid S;clear hs;have S:St w _ [(w.heap.size+1+1,#[.bool false,.slice none 0 0,.slice none 0 0],33),(w.heap.size+1,#[.bool (ng y.num),.slice A1 n1 c1,.slice D1 m1 d1],33),(w.heap.size,#[.bool b,.slice A n c,.slice D m d],33)] [(D1,m1,d1,dn y),(A1,n1,c1,limbs y.num.natAbs),(D',m',d',es),(A',n',c',ys),(D,m,d,ds),(A,n,c,xs)]:=(((S.out.set 0 0 (.bool false) rfl (by nofun)).set 0 1 (.slice none 0 0) rfl (by nofun)).set 0 2 (.slice none 0 0) rfl (by nofun))
  replace S:=Lib.hid S;go_wp2;refine bodyPost_ret (res_RDiv _ _ (w.heap.size+1+1) 33 rfl rfl (S.out.bk _ (List.mem_of_getElem? (i:=0) rfl)).1) rfl ?_
  exact⟨_,_,_,_,_,_,rfl,zero_RR _ _ _ _ _,S.out.bel⟩
 ·have e0:((y.num.sign:Int)==0)=false:=by rw[beq_eq_false_iff_ne];intro h;exact hy (Rat.num_eq_zero.1 (Int.sign_eq_zero_iff_zero.1 h))
  rw[show dvE y=0 from if_neg hy,Rat.div_def]
  have hI:=Lib.hid (fun A n c D m d W X=>inverse_any y A n c D m d W X hy)
  have hS:=Lib.hid (fun A n c D m d A' n' c' D' m' d' W X (Y:RR W A' n' c' D' m' d' y⁻¹)=>product_any x y⁻¹ A n c D m d A' n' c' D' m' d' W X Y h1 (h2.inv (by decide)))
  generalize x*y⁻¹=q at *;generalize y⁻¹=v at *;clear R1 R2 R3 R4 hn hm hn' hm' h1 h2 hy;go_enter Tryz.func65,Tryz.ntmps65
  go_wp2_with fail
  refine (hK2.out _ (S.out.r 1 rfl) (S.out.r 0 rfl)).mono ?_
  rintro e w1 ⟨A1,n1,c1,D1,m1,d1,rfl,Q1,bb⟩;have T:=(((S.out.call bb).read Q1.n).read Q1.d);clear bb S;have S:=T;clear T;obtain⟨c_r0,c_r1,c_r2,f_r0,f_r1,f_r2⟩:=S.cf3 0 rfl;obtain⟨c_y0,c_y1,c_y2,f_y0,f_y1,f_y2⟩:=S.cf3 1 rfl;obtain⟨c_x0,c_x1,c_x2,f_x0,f_x1,f_x2⟩:=S.cf3 2 rfl;have hz:w.heap.size+1+1<w1.heap.size:=S.lt 0 rfl;replace S:=Lib.hid S;clear Q1 hK2;have S:St w _ [(w.heap.size+1+1,#[.bool false,.slice none 0 0,.slice none 0 0],33),(w.heap.size+1,#[.bool (ng y.num),.slice A1 n1 c1,.slice D1 m1 d1],33),(w.heap.size,#[.bool b,.slice A n c,.slice D m d],33)] [(D1,m1,d1,dn y),(A1,n1,c1,limbs y.num.natAbs),(D',m',d',es),(A',n',c',ys),(D,m,d,ds),(A,n,c,xs)]:=(((S.out.set 1 0 (.bool (ng y.num)) rfl (by nofun)).set 1 1 (.slice A1 n1 c1) rfl (by nofun)).set 1 2 (.slice D1 m1 d1) rfl (by nofun))
  obtain⟨a_y0,a_y1,a_y2,b_y0,b_y1,b_y2⟩:=S.cf3 1 rfl;replace S:=Lib.hid S
  go_wp2_with fail
  refine (hs.out _ _ _ _ (S.out.r 1 rfl)).mono ?_
  rintro e w2 ⟨rfl,bb⟩;have T:=(S.out.call bb);clear bb S c_r0 f_r0 c_r1 f_r1 c_r2 f_r2 c_y0 f_y0 c_y1 f_y1 c_y2 f_y2 c_x0 f_x0 c_x1 f_x1 c_x2 f_x2 hz a_y0 b_y0 a_y1 b_y1 a_y2 b_y2;have S:=T;clear T;obtain⟨c_r0,c_r1,c_r2,f_r0,f_r1,f_r2⟩:=S.cf3 0 rfl;obtain⟨c_y0,c_y1,c_y2,f_y0,f_y1,f_y2⟩:=S.cf3 1 rfl;obtain⟨c_x0,c_x1,c_x2,f_x0,f_x1,f_x2⟩:=S.cf3 2 rfl;have hz:w.heap.size+1+1<w2.heap.size:=S.lt 0 rfl
  replace S:=Lib.hid S;clear hs;go_upto_region 4 with fail
  clear c_r0 f_r0 c_r1 f_r1 c_r2 f_r2 c_y0 f_y0 c_y1 f_y1 c_y2 f_y2 c_x0 f_x0 c_x1 f_x1 c_x2 f_x2 hz;refine RW.begin (Z:=[]) (S:=(fun W=>Cb W (w.heap.size) #[.bool b,.slice A n c,.slice D m d] 33∧Cb W (w.heap.size+1) #[.bool (ng y.num),.slice A1 n1 c1,.slice D1 m1 d1] 33)) (by kernel_rfl) ?_ S.out ?_
  ·exact⟨by kernel_rfl,zis_nil,by decide,by decide,nol_nil,(fun _ _ h=>⟨h.kb 2 rfl,h.kb 1 rfl⟩)⟩
  intro hzk;clear S;refine RW.t (i:=0) (v:=.agg #[.bool b,.slice A n c,.slice D m d]) (some 13) at0 (hy:=fun W hS=>by (have k0:=Cb.cell (i:=0) hS.1 rfl;have k1:=Cb.cell (i:=1) hS.1 rfl;have k2:=Cb.cell (i:=2) hS.1 rfl;clear hS;go_simp)) (h:=?_)
  refine RW.t (i:=2) (v:=.agg #[.bool (ng y.num),.slice A1 n1 c1,.slice D1 m1 d1]) (some 15) at2 (hy:=fun W hS=>by (have k0:=Cb.cell (i:=0) hS.2 rfl;have k1:=Cb.cell (i:=1) hS.2 rfl;have k2:=Cb.cell (i:=2) hS.2 rfl;clear hS;go_simp)) (h:=?_)
  refine RW.c (i:=1) (args:=#[.agg #[.bool b,.slice A n c,.slice D m d]]) (some 14) hzk.out at1 (hx:=fun _=>by kernel_rfl) (h:=fun _ S=>(hK1.out _ (S.r 5 rfl) (S.r 4 rfl)).mono ?_)
  rintro e w3 ⟨A2,n2,c2,D2,m2,d2,rfl,Q2,bb⟩;refine⟨bb,_,[(D2,m2,d2,dn x),(A2,n2,c2,limbs x.num.natAbs)],rfl,(rd_cons Q2.d (rd_cons Q2.n rd_nil)),?_⟩
  clear bb S Q2;refine RW.c (i:=3) (args:=#[.agg #[.bool (ng y.num),.slice A1 n1 c1,.slice D1 m1 d1]]) (some 16) hzk.out at3 (hx:=fun _=>by kernel_rfl) (h:=fun _ S=>(hI.out _ _ _ _ _ _ _ ⟨(S.r 3 rfl),(S.r 2 rfl)⟩).mono ?_)
  rintro e w4 ⟨A3,n3,c3,D3,m3,d3,rfl,Q3,bb⟩;refine⟨bb,_,[(D3,m3,d3,dn v),(A3,n3,c3,limbs v.num.natAbs)],rfl,(rd_cons Q3.d (rd_cons Q3.n rd_nil)),?_⟩
  clear bb S Q3;refine RW.c (i:=4) (args:=#[.agg #[.bool (ng x.num),.slice A2 n2 c2,.slice D2 m2 d2],.agg #[.bool (ng v.num),.slice A3 n3 c3,.slice D3 m3 d3]]) (some 17) hzk.out at4 (hx:=fun _=>by kernel_rfl) (h:=fun _ S=>(hS.out _ _ _ _ _ _ _ _ _ _ _ _ _ ⟨S.r 3 rfl,S.r 2 rfl⟩ ⟨S.r 1 rfl,S.r 0 rfl⟩).mono ?_)
  rintro e w5 ⟨A4,n4,c4,D4,m4,d4,rfl,Q4,bb⟩;refine⟨bb,_,[(D4,m4,d4,dn q),(A4,n4,c4,limbs q.num.natAbs)],rfl,(rd_cons Q4.d (rd_cons Q4.n rd_nil)),?_⟩
  clear bb S Q4;refine RW.tail hzk.out (by kernel_rfl) ?_
  intro gs w6 hgs hS S;obtain rfl:=len0 hgs;clear hS hgs hzk;simp only[mark,fill,Act.put,sZ0,sZ1,sZ2];replace S:=Lib.hid S;refine Wk.o (i:=5) at5 (by kernel_rfl) fun K' hK=>?_
  have q5_r0:=St.cl (S.out) 0 0 rfl rfl;have q5_r1:=St.cl (S.out) 0 1 rfl rfl;have q5_r2:=St.cl (S.out) 0 2 rfl rfl;have q5z_r0:=St.f (S.out) 0 0 rfl;have q5z_r1:=St.f (S.out) 0 1 rfl;have q5z_r2:=St.f (S.out) 0 2 rfl
  go_simp
  have SN:=(((S.out.set 0 0 (.bool (ng q.num)) rfl (by nofun)).set 0 1 (.slice A4 n4 c4) rfl (by nofun)).set 0 2 (.slice D4 m4 d4) rfl (by nofun))
  clear S q5_r0 q5_r1 q5_r2 q5z_r0 q5z_r1 q5z_r2;have S:=SN;clear SN;refine hK.out _ _ ⟨(S.cb 2 rfl),(S.cb 1 rfl)⟩ ?_
  clear hK K';replace S:=Lib.hid S
  try simp only[Act.put,sZ0,sZ1,sZ2]
  refine Wk.o (i:=6) at6 (by kernel_rfl) fun K' hK=>?_
  go_simp
  have SN:=S.out;clear S;have S:=SN;clear SN;refine hK.out _ _ ⟨(S.cb 2 rfl),(S.cb 1 rfl)⟩ ?_
  clear hK K';replace S:=Lib.hid S
  try simp only[Act.put,sZ0,sZ1,sZ2]
  refine Wk.done (by kernel_rfl) ?_
  go_simp
  replace S:=S.out;have S:St w _ [(w.heap.size+1+1,#[.bool (ng q.num),.slice A4 n4 c4,.slice D4 m4 d4],33),(w.heap.size+1,#[.bool (ng y.num),.slice A1 n1 c1,.slice D1 m1 d1],33),(w.heap.size,#[.bool b,.slice A n c,.slice D m d],33)] [(D4,m4,d4,dn q),(A4,n4,c4,limbs q.num.natAbs),(D3,m3,d3,dn v),(A3,n3,c3,limbs v.num.natAbs),(D2,m2,d2,dn x),(A2,n2,c2,limbs x.num.natAbs),(D1,m1,d1,dn y),(A1,n1,c1,limbs y.num.natAbs),(D',m',d',es),(A',n',c',ys),(D,m,d,ds),(A,n,c,xs)]:=S
  generalize hW7:(World.setCell (World.setCell (World.setCell w6 ⟨w.heap.size+1+1,0,none⟩ (.bool (ng q.num))) ⟨w.heap.size+1+1,1,none⟩ (.slice A4 n4 c4)) ⟨w.heap.size+1+1,2,none⟩ (.slice D4 m4 d4))=w7 at S ⊢;clear hW7;replace S:=Lib.hid S;replace S:=S.out;obtain⟨c_r0,c_r1,c_r2,f_r0,f_r1,f_r2⟩:=S.cf3 0 rfl;obtain⟨c_y0,c_y1,c_y2,f_y0,f_y1,f_y2⟩:=S.cf3 1 rfl;obtain⟨c_x0,c_x1,c_x2,f_x0,f_x1,f_x2⟩:=S.cf3 2 rfl
  have hz:w.heap.size+1+1<w7.heap.size:=S.lt 0 rfl;replace S:=Lib.hid S;have S:=S.out;replace S:=Lib.hid S;go_wp2;refine bodyPost_ret (res_RDiv _ _ (w.heap.size+1+1) 33 rfl rfl (S.out.bk _ (List.mem_of_getElem? (i:=0) rfl)).1) rfl ?_
  exact⟨_,_,_,_,_,_,rfl,⟨S.out.r 1 rfl,S.out.r 0 rfl⟩,S.out.bel⟩
end Go.Proofs.YthlinhconnmbcaaGreat
namespace Go.Proofs.YthlinhconnmbcaaGreat
open Go.RowKit
theorem ne_len {xs ys:List Nat} {n n':Nat} (h:xs.length=n) (h':ys.length=n') (hn:n≠n'):decide (xs=ys)=false:=decide_eq_false (by rintro rfl;omega)
theorem ne_at {xs ys:List Nat} {k:Nat} (h:xs.getD k 0≠ys.getD k 0):decide (xs=ys)=false:=decide_eq_false (by rintro rfl;exact h rfl)
theorem take_eq {xs ys:List Nat} {k:Nat} (h:xs.take k=ys.take k) (hk:k<xs.length) (hk':k<ys.length) (he:xs.getD k 0=ys.getD k 0):xs.take (k+1)=ys.take (k+1):=by
 rw[List.take_succ_eq_append_getElem hk,List.take_succ_eq_append_getElem hk',h]
 simp[List.getD_eq_getElem?_getD,List.getElem?_eq_getElem hk,List.getElem?_eq_getElem hk'] at he
 rw[he]
theorem all_eq {xs ys:List Nat} {n:Nat} (h:xs.take n=ys.take n) (h1:xs.length=n) (h2:ys.length=n):decide (xs=ys)=true:=decide_eq_true (by
 rw[←h1,List.take_length,h1,←h2,List.take_length] at h;exact h)
theorem same1_any (A:Option Addr) (n c:Nat) (A':Option Addr) (n' c':Nat) (xs ys:List Nat) (w:World)
  (h1:Rd w A n c xs) (h2:Rd w A' n' c' ys) (hn:n≤10000000000) (hn':n'≤10000000000) :
  Calls Tryz.prog 43 #[.slice A n c,.slice A' n' c'] w fun e w'=>e=.returned (.bool (decide (xs=ys)))∧Below w.heap.size w w':=by
 by_cases hnn:n=n'
 ·subst hnn
  replace h1:=Lib.hid h1;replace h2:=Lib.hid h2;go_enter Tryz.func43,Tryz.ntmps43;go_wp2
  go_loopw [5] (fun iv wr=>∃ (k m:Nat),k≤n∧iv=.int .i64 k∧wr=w.drewN m∧xs.take k=ys.take k) (fun iv _=>n-(intOf iv).toNat)
  case atStart=>exact⟨0,0,Nat.zero_le _,rfl,rfl,by simp⟩
  case round=>
   obtain⟨k,m,hk,rfl,rfl,ht⟩:=hrel;replace ht:=Lib.hid ht
   by_cases hlt:k<n
   ·obtain⟨b1,o1,x1,rfl,hb1,hx1,hxe,hcx⟩:=h1.out.at_ hlt
    obtain⟨b2,o2,y1,rfl,hb2,hy1,hye,hcy⟩:=h2.out.at_ hlt;have g1:(0:Int)≤(k:Int):=by omega
    have g2:(k:Int)<(n:Int):=by omega
    by_cases hxy:x1=y1
    ·have ht':Hid (xs.take (k+1)=ys.take (k+1)):=Lib.hid (take_eq ht.out (by rw[h1.out.len];exact hlt) (by rw[h2.out.len];exact hlt) (by rw[hxe,hye,hxy]))
     clear hxe hye;subst hxy;have hq:((x1:Int) != (x1:Int))=false:=by simp
     go_wp2
     go_quiet (fail)
     go_wp2
     go_roundw
     case rel=>exact⟨k+1,_,by omega,by go_num,rfl,ht'.out⟩
     case measure=>simp[intOf];omega
    ·have hf:Hid (decide (xs=ys)=false):=Lib.hid (ne_at (k:=k) (by rw[hxe,hye];exact hxy))
     have hq:((x1:Int) != (y1:Int))=true:=by simp;omega
     clear hxe hye ht;go_wp2
     go_quiet (fail)
     go_wp2;go_ret;rw[hf.out];exact⟨rfl,below_drewN (below_drewN (Below.refl _ _) _) _⟩
   ·have ek:k=n:=by omega
    have hf:Hid (decide (xs=ys)=true):=Lib.hid (all_eq (n:=n) (ek ▸ ht.out) h1.out.len h2.out.len);clear ek;clear ht;go_wp2;go_ret;rw[hf.out];exact⟨rfl,below_drewN (Below.refl _ _) _⟩
 ·have hf:Hid (decide (xs=ys)=false):=Lib.hid (ne_len h1.len h2.len hnn)
  have B:=Lib.hid (Below.refl w.heap.size w);clear h1 h2;go_enter Tryz.func43,Tryz.ntmps43;go_wp2;go_ret;rw[hf.out];exact⟨rfl,B.out⟩
end Go.Proofs.YthlinhconnmbcaaGreat
