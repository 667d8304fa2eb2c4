/- Add, Sub, Mul, Div of rational. -/
import Derived.Test.YtdeedofmflelfaaGreatDoorTg
import Derived.Test.YtdeedofmflelfaaGreatDoorQRcz
namespace Go.Proofs.YtdeedofmflelfaaGreatDoor
open Go.RowKit RQ
theorem res_RMul (W:World) (tmps:Array Value) (g t:Nat) {v0 v1 v2:Value} (ht:tmps.getD 4 undef=.pointer (some ⟨g,0,none⟩)) (h:Cb W g #[v0,v1,v2] t) :
  (results Tryz.f142 tmps).run Tryz.prog W=.ok (.agg #[v0,v1,v2]) W:=by
 have c0:W.cell? ⟨g,0,none⟩=some v0:=h.cell rfl
 have c1:W.cell? ⟨g,1,none⟩=some v1:=h.cell rfl
 have c2:W.cell? ⟨g,2,none⟩=some v2:=h.cell rfl
 have ht':tmps[4]?.getD undef=.pointer (some ⟨g,0,none⟩):=by rw[←ht];simp[Array.getD_eq_getD_getElem?]
 simp[results,Tryz.results142,go_sem,ht',c0,c1,c2]
set_option maxRecDepth 100000 in
set_option maxHeartbeats 4000000 in
theorem Rmul_any (b:Bool) (A:Option Addr) (n c:Nat) (xs:List Nat) (D:Option Addr) (m d:Nat) (ds:List Nat) (b':Bool) (A':Option Addr) (n' c':Nat) (ys:List Nat) (D':Option Addr) (m' d':Nat) (es:List Nat) (w:World) (R1:Rd w A n c xs) (R2:Rd w D m d ds) (R3:Rd w A' n' c' ys) (R4:Rd w D' m' d' es) (hn:n≤200) (hm:m≤200) (hn':n'≤200) (hm':m'≤200):Calls Tryz.prog 142 #[.agg #[.bool b,.slice A n c,.slice D m d],.agg #[.bool b',.slice A' n' c',.slice D' m' d']] w (RetR (rv b xs ds*rv b' ys es) w):=by
 have h1:Rs (rv b xs ds) 200:=Rs.of R1.sm R2.sm (Nat.le_trans (Nat.le_of_eq R1.len) hn) (Nat.le_trans (Nat.le_of_eq R2.len) hm) (by decide)
 have h2:Rs (rv b' ys es) 200:=Rs.of R3.sm R4.sm (Nat.le_trans (Nat.le_of_eq R3.len) hn') (Nat.le_trans (Nat.le_of_eq R4.len) hm') (by decide)
 have hK1:=fun W h h'=>knownR_any b A n c xs D m d ds W h h' (by omega) (by omega)
 have hK2:=fun W h h'=>knownR_any b' A' n' c' ys D' m' d' es W h h' (by omega) (by omega)
 generalize rv b xs ds=x at *
 generalize rv b' ys es=y at *
 replace hK1:=Lib.hid hK1
 replace hK2:=Lib.hid hK2
 have hS:=Lib.hid (fun A n c D m d A' n' c' D' m' d' W X Y=>product_any x y A n c D m d A' n' c' D' m' d' W X Y h1 h2)
 generalize x*y=q at *
 have S:=((((((((St.new w).read R1).read R2).read R3).read R4).allocAt (w.heap.size) #[.bool b,.slice A n c,.slice D m d] 46 (noL3 _ _ _ _ _ _ _) (by simp)).allocAt (w.heap.size+1) #[.bool b',.slice A' n' c',.slice D' m' d'] 46 (noL3 _ _ _ _ _ _ _) (by simp)).allocAt (w.heap.size+1+1) #[.bool false,.slice none 0 0,.slice none 0 0] 46 (noL3 _ _ _ _ _ _ _) (by simp))
 replace S:=Lib.hid S
 clear R1 R2 R3 R4 hn hm hn' hm' h1 h2
 go_enter Tryz.func142,Tryz.ntmps142
 go_upto_region 1 with fail
 have S:=S.out
 generalize hW1:(World.alloc (World.alloc (World.alloc w (.cells #[.bool b,.slice A n c,.slice D m d] 46)) (.cells #[.bool b',.slice A' n' c',.slice D' m' d'] 46)) (.cells #[.bool false,.slice none 0 0,.slice none 0 0] 46))=w1 at S ⊢
 clear hW1
 replace S:=Lib.hid S
 refine RW.begin (Z:=[]) (S:=(fun W=>Cb W (w.heap.size) #[.bool b,.slice A n c,.slice D m d] 46∧Cb W (w.heap.size+1) #[.bool b',.slice A' n' c',.slice D' m' d'] 46)) (by kernel_rfl) ?_ S.out ?_
 ·exact⟨by kernel_rfl,zis_nil,by decide,by decide,nol_nil,(fun _ _ h=>⟨h.kb 2 rfl,h.kb 1 rfl⟩)⟩
 intro hzk
 clear S
 refine RW.t (i:=0) (v:=.agg #[.bool b,.slice A n c,.slice D m d]) (some 5) at0 (hy:=fun W hS=>by (have k0:=Cb.cell (i:=0) hS.1 rfl;have k1:=Cb.cell (i:=1) hS.1 rfl;have k2:=Cb.cell (i:=2) hS.1 rfl;clear hS;go_simp)) (h:=?_)
 refine RW.t (i:=2) (v:=.agg #[.bool b',.slice A' n' c',.slice D' m' d']) (some 7) at2 (hy:=fun W hS=>by (have k0:=Cb.cell (i:=0) hS.2 rfl;have k1:=Cb.cell (i:=1) hS.2 rfl;have k2:=Cb.cell (i:=2) hS.2 rfl;clear hS;go_simp)) (h:=?_)
 refine RW.c (i:=1) (args:=#[.agg #[.bool b,.slice A n c,.slice D m d]]) (some 6) hzk.out at1 (hx:=fun _=>by kernel_rfl) (h:=fun _ S=>(hK1.out _ (S.r 3 rfl) (S.r 2 rfl)).mono ?_)
 rintro e w2 ⟨A1,n1,c1,D1,m1,d1,rfl,Q1,bb⟩
 refine⟨bb,_,[(D1,m1,d1,dn x),(A1,n1,c1,limbs x.num.natAbs)],rfl,(rd_cons Q1.d (rd_cons Q1.n rd_nil)),?_⟩
 clear bb S Q1
 refine RW.c (i:=3) (args:=#[.agg #[.bool b',.slice A' n' c',.slice D' m' d']]) (some 8) hzk.out at3 (hx:=fun _=>by kernel_rfl) (h:=fun _ S=>(hK2.out _ (S.r 3 rfl) (S.r 2 rfl)).mono ?_)
 rintro e w3 ⟨A2,n2,c2,D2,m2,d2,rfl,Q2,bb⟩
 refine⟨bb,_,[(D2,m2,d2,dn y),(A2,n2,c2,limbs y.num.natAbs)],rfl,(rd_cons Q2.d (rd_cons Q2.n rd_nil)),?_⟩
 clear bb S Q2
 refine RW.c (i:=4) (args:=#[.agg #[.bool (ng x.num),.slice A1 n1 c1,.slice D1 m1 d1],.agg #[.bool (ng y.num),.slice A2 n2 c2,.slice D2 m2 d2]]) (some 9) hzk.out at4 (hx:=fun _=>by kernel_rfl) (h:=fun _ S=>(hS.out _ _ _ _ _ _ _ _ _ _ _ _ _ ⟨S.r 3 rfl,S.r 2 rfl⟩ ⟨S.r 1 rfl,S.r 0 rfl⟩).mono ?_)
 rintro e w4 ⟨A3,n3,c3,D3,m3,d3,rfl,Q3,bb⟩
 refine⟨bb,_,[(D3,m3,d3,dn q),(A3,n3,c3,limbs q.num.natAbs)],rfl,(rd_cons Q3.d (rd_cons Q3.n rd_nil)),?_⟩
 clear bb S Q3
 refine RW.tail hzk.out (by kernel_rfl) ?_
 intro gs w5 hgs hS S
 obtain rfl:=len0 hgs
 clear hS hgs hzk
 simp only[mark,fill,Act.put,List.setIfInBounds_toArray,List.set_cons_zero,List.set_cons_succ]
 replace S:=Lib.hid S
 refine Wk.o (i:=5) at5 (by kernel_rfl) fun K' hK=>?_
 have q5_r0:=St.cl (S.out) 0 0 rfl rfl
 have q5_r1:=St.cl (S.out) 0 1 rfl rfl
 have q5_r2:=St.cl (S.out) 0 2 rfl rfl
 have q5z_r0:=St.f (S.out) 0 0 rfl
 have q5z_r1:=St.f (S.out) 0 1 rfl
 have q5z_r2:=St.f (S.out) 0 2 rfl
 go_simp
 have SN:=(((S.out.set 0 0 (.bool (ng q.num)) rfl (by nofun)).set 0 1 (.slice A3 n3 c3) rfl (by nofun)).set 0 2 (.slice D3 m3 d3) rfl (by nofun))
 clear S q5_r0 q5_r1 q5_r2 q5z_r0 q5z_r1 q5z_r2
 have S:=SN
 clear SN
 refine hK.out _ _ ⟨(S.cb 2 rfl),(S.cb 1 rfl)⟩ ?_
 clear hK K'
 replace S:=Lib.hid S
 try simp only[Act.put,List.setIfInBounds_toArray,List.set_cons_zero,List.set_cons_succ]
 refine Wk.done (by kernel_rfl) ?_
 go_simp
 replace S:=S.out
 have S:St w _ [(w.heap.size+1+1,#[.bool (ng q.num),.slice A3 n3 c3,.slice D3 m3 d3],46),(w.heap.size+1,#[.bool b',.slice A' n' c',.slice D' m' d'],46),(w.heap.size,#[.bool b,.slice A n c,.slice D m d],46)] [(D3,m3,d3,dn q),(A3,n3,c3,limbs q.num.natAbs),(D2,m2,d2,dn y),(A2,n2,c2,limbs y.num.natAbs),(D1,m1,d1,dn x),(A1,n1,c1,limbs x.num.natAbs),(D',m',d',es),(A',n',c',ys),(D,m,d,ds),(A,n,c,xs)]:=S
 generalize hW6:(World.setCell (World.setCell (World.setCell w5 ⟨w.heap.size+1+1,0,none⟩ (.bool (ng q.num))) ⟨w.heap.size+1+1,1,none⟩ (.slice A3 n3 c3)) ⟨w.heap.size+1+1,2,none⟩ (.slice D3 m3 d3))=w6 at S ⊢
 clear hW6
 replace S:=Lib.hid S
 replace S:=S.out
 obtain⟨c_r0,c_r1,c_r2,f_r0,f_r1,f_r2⟩:=S.cf3 0 rfl
 obtain⟨c_y0,c_y1,c_y2,f_y0,f_y1,f_y2⟩:=S.cf3 1 rfl
 obtain⟨c_x0,c_x1,c_x2,f_x0,f_x1,f_x2⟩:=S.cf3 2 rfl
 have hz:w.heap.size+1+1<w6.heap.size:=S.lt 0 rfl
 replace S:=Lib.hid S
 have S:=S.out
 replace S:=Lib.hid S
 go_wp2
 refine bodyPost_ret (res_RMul _ _ (w.heap.size+1+1) 46 rfl (S.out.bk _ (List.mem_of_getElem? (i:=0) rfl)).1) rfl ?_
 exact⟨_,_,_,_,_,_,rfl,⟨S.out.r 1 rfl,S.out.r 0 rfl⟩,S.out.bel⟩
end Go.Proofs.YtdeedofmflelfaaGreatDoor
