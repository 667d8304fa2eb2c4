/- Floor of rational. -/
import Derived.Test.YtphckmdnflbloaaGreatDr
import Derived.Test.YtphckmdnflbloaaGreatQRcz
import Derived.Test.YtphckmdnflbloaaGreatRg
import Derived.Test.YtphckmdnflbloaaGreatIp
namespace Go.Proofs.YtphckmdnflbloaaGreat
open Go.RowKit RQ
theorem res_floor (W:World) (tmps:Array Value) (g t:Nat) {v0 v1:Value} (ht:tmps.getD 2 undef=.pointer (some ⟨g,0,none⟩)) (h:Cb W g #[v0,v1] t) :
  (results Tryz.f100 tmps).run Tryz.prog W=.ok (.agg #[v0,v1]) W:=by
 have c0:W.cell? ⟨g,0,none⟩=some v0:=h.cell rfl
 have c1:W.cell? ⟨g,1,none⟩=some v1:=h.cell rfl
 have ht':tmps[2]?.getD undef=.pointer (some ⟨g,0,none⟩):=by rw[←ht];simp[Array.getD_eq_getD_getElem?]
 simp[results,Tryz.results100,go_sem,ht',c0,c1]
set_option maxRecDepth 100000 in
set_option maxHeartbeats 8000000 in
theorem floorR_any (b:Bool) (A:Option Addr) (n c:Nat) (xs:List Nat) (D:Option Addr) (m d:Nat) (ds:List Nat) (w:World) (R1:Rd w A n c xs) (R2:Rd w D m d ds) (hn:n≤500) (hm:m≤500) :
  Calls Tryz.prog 100 #[.agg #[.bool b,.slice A n c,.slice D m d]] w (RetI (rv b xs ds).floor w):=by
 have S:=(((((St.new w).read R1).read R2).allocAt (w.heap.size) #[.bool b,.slice A n c,.slice D m d] 26 (noL3 _ _ _ _ _ _ _) (by simp)).allocAt (w.heap.size+1) #[.bool false,.slice none 0 0] 24 (noL2 _ _ _ _) (by simp))
 replace S:=Lib.hid S
 have hs:=Lib.hid (Rs.of (b:=b) R1.sm R2.sm (Nat.le_trans (Nat.le_of_eq R1.len) hn) (Nat.le_trans (Nat.le_of_eq R2.len) hm) (by decide))
 have hK:=fun W h h'=>knownR_any b A n c xs D m d ds W h h' hn hm
 generalize rv b xs ds=q at hK hs ⊢
 replace hK:=Lib.hid hK
 rw[floor_parts]
 clear R1 R2 hn hm
 have hD:Hid (∀ W A n c D m d,RR W A n c D m d q→Calls Tryz.prog 153 #[.agg #[.bool (ng q.num),.slice A n c,.slice D m d]] W (RetU q.den W)):=Lib.hid fun W A n c D m d h=>(denominator_any q A n c D m d W h).mono fun _ _ h=>RetI.u h
 have hV:Hid (∀ W A n c A' n' c',Rd W A n c (limbs q.num.natAbs)→Rd W A' n' c' (limbs q.den)→Calls Tryz.prog 152 #[.agg #[.bool (ng q.num),.slice A n c],.agg #[.bool false,.slice A' n' c']] W (RetD2 (q.num / (q.den:Int)) (q.num%(q.den:Int)) W)):=Lib.hid fun W A n c A' n' c' q1 q2=>by
  have l1:(limbs q.num.natAbs).length≤500:=limbs_len_le.2 hs.out.n
  have l2:(limbs q.den).length≤500:=limbs_len_le.2 hs.out.d
  have:=divI_any (ng q.num) A n c _ false A' n' c' _ W q1 q2 (by rw[←q1.len];exact l1) (by rw[←q2.len];exact l2) (by rw[iv_pos];have:=q.den_pos;omega)
  rwa [iv_z,iv_pos] at this
 clear hs
 go_enter Tryz.func100,Tryz.ntmps100
 go_wp2_with fail
 refine (hK.out _ (S.out.r 1 rfl) (S.out.r 0 rfl)).mono ?_
 rintro e w1 ⟨A1,n1,c1,D1,m1,d1,rfl,Q,bb⟩
 have T:=(((S.out.call bb).read Q.n).read Q.d)
 clear bb S
 have S:=T
 clear T
 obtain⟨c_r0,c_r1,f_r0,f_r1⟩:=S.cf2 0 rfl
 obtain⟨c_x0,c_x1,c_x2,f_x0,f_x1,f_x2⟩:=S.cf3 1 rfl
 have hz:w.heap.size+1<w1.heap.size:=S.lt 0 rfl
 replace S:=Lib.hid S
 clear Q
 go_upto_region 2 with fail
 clear c_r0 f_r0 c_r1 f_r1 c_x0 f_x0 c_x1 f_x1 c_x2 f_x2 hz
 have S:St w _ [(w.heap.size+1,#[.bool false,.slice none 0 0],24),(w.heap.size,#[.bool (ng q.num),.slice A1 n1 c1,.slice D1 m1 d1],26)] [(D1,m1,d1,dn q),(A1,n1,c1,limbs q.num.natAbs),(D,m,d,ds),(A,n,c,xs)]:=(((S.out.set 1 0 (.bool (ng q.num)) rfl (by nofun)).set 1 1 (.slice A1 n1 c1) rfl (by nofun)).set 1 2 (.slice D1 m1 d1) rfl (by nofun))
 generalize hW2:(World.setCell (World.setCell (World.setCell w1 ⟨w.heap.size,0,none⟩ (.bool (ng q.num))) ⟨w.heap.size,1,none⟩ (.slice A1 n1 c1)) ⟨w.heap.size,2,none⟩ (.slice D1 m1 d1))=w2 at S ⊢
 clear hW2
 replace S:=Lib.hid S
 refine RW.begin (Z:=[⟨9,3,#[.bool false,.slice none 0 0],24⟩,⟨10,4,#[.bool false,.slice none 0 0],24⟩]) (S:=(fun W=>Cb W (w.heap.size) #[.bool (ng q.num),.slice A1 n1 c1,.slice D1 m1 d1] 26)) (by kernel_rfl) ?_ S.out ?_
 ·exact⟨by kernel_rfl,(zis_cons at9 (fun _ _=>by kernel_rfl) (zis_cons at10 (fun _ _=>by kernel_rfl) zis_nil)),by decide,by decide,(nol_cons (noL2 _ _ _ _) (nol_cons (noL2 _ _ _ _) nol_nil)),(fun _ _ h=>h.kb 1 rfl)⟩
 intro hzk
 clear S
 refine RW.t (i:=0) (v:=.pointer (some ⟨w.heap.size,0,none⟩)) (some 9) at0 (hy:=fun _ _=>by kernel_rfl) (h:=?_)
 refine RW.t (i:=1) (v:=.agg #[.bool (ng q.num),.slice A1 n1 c1]) (some 10) at1 (hy:=fun W hS=>by (have k0:=Cb.cell (i:=0) hS rfl;have k1:=Cb.cell (i:=1) hS rfl;clear hS;go_simp)) (h:=?_)
 refine RW.t (i:=2) (v:=.agg #[.bool (ng q.num),.slice A1 n1 c1,.slice D1 m1 d1]) (some 11) at2 (hy:=fun W hS=>by (have k0:=Cb.cell (i:=0) hS rfl;have k1:=Cb.cell (i:=1) hS rfl;have k2:=Cb.cell (i:=2) hS rfl;clear hS;go_simp)) (h:=?_)
 refine RW.c (i:=3) (args:=#[.agg #[.bool (ng q.num),.slice A1 n1 c1,.slice D1 m1 d1]]) (some 12) hzk.out at3 (hx:=fun _=>by kernel_rfl) (h:=fun _ S=>(hD.out _ _ _ _ _ _ _ ⟨S.r 1 rfl,S.r 0 rfl⟩).mono ?_)
 rintro e w3 ⟨A2,n2,c2,rfl,Q2,bb⟩
 refine⟨bb,_,[(A2,n2,c2,limbs q.den)],rfl,(rd_cons Q2 rd_nil),?_⟩
 clear bb S Q2
 refine RW.c (i:=4) (args:=#[.agg #[.bool (ng q.num),.slice A1 n1 c1],.agg #[.bool false,.slice A2 n2 c2]]) (some 13) hzk.out at4 (hx:=fun _=>by kernel_rfl) (h:=fun _ S=>(hV.out _ _ _ _ _ _ _ (S.r 2 rfl) (S.r 0 rfl)).mono ?_)
 rintro e w4 ⟨A3,n3,c3,A4,n4,c4,rfl,Q3,Q4,bb⟩
 refine⟨bb,_,[(A4,n4,c4,limbs (q.num%(q.den:Int)).natAbs),(A3,n3,c3,limbs (q.num / (q.den:Int)).natAbs)],rfl,(rd_cons Q4 (rd_cons Q3 rd_nil)),?_⟩
 clear bb S Q3 Q4
 refine RW.t (i:=5) (v:=.tuple #[(.agg #[.bool (ng (q.num / (q.den:Int))),.slice A3 n3 c3]),(.agg #[.bool (ng (q.num%(q.den:Int))),.slice A4 n4 c4]),(.bool true)]) (some 8) at5 (hy:=fun _ _=>by kernel_rfl) (h:=?_)
 refine RW.t (i:=6) (v:=.agg #[.bool (ng (q.num / (q.den:Int))),.slice A3 n3 c3]) (some 14) at6 (hy:=fun _ _=>by kernel_rfl) (h:=?_)
 refine RW.t (i:=7) (v:=.agg #[.bool (ng (q.num%(q.den:Int))),.slice A4 n4 c4]) (some 15) at7 (hy:=fun _ _=>by kernel_rfl) (h:=?_)
 refine RW.t (i:=8) (v:=.bool true) (some 16) at8 (hy:=fun _ _=>by kernel_rfl) (h:=?_)
 refine RW.tail hzk.out (by kernel_rfl) ?_
 intro gs w5 hgs hS S
 obtain⟨g_q,g_z,rfl⟩:=len2 hgs
 clear hS hgs hzk
 simp only[mark,fill,List.map,Act.put,List.setIfInBounds_toArray,List.set_cons_zero,List.set_cons_succ]
 replace S:=Lib.hid S
 refine Wk.o (i:=11) at11 (by kernel_rfl) fun K' hK=>?_
 have q11_q0:=St.cl (S.out) 0 0 rfl rfl
 have q11_q1:=St.cl (S.out) 0 1 rfl rfl
 have q11z_q0:=St.f (S.out) 0 0 rfl
 have q11z_q1:=St.f (S.out) 0 1 rfl
 go_simp
 have SN:=((S.out.set 0 0 (.bool (ng (q.num / (q.den:Int)))) rfl (by nofun)).set 0 1 (.slice A3 n3 c3) rfl (by nofun))
 clear S q11_q0 q11_q1 q11z_q0 q11z_q1
 have S:=SN
 clear SN
 refine hK.out _ _ (S.cb 3 rfl) ?_
 clear hK K'
 replace S:=Lib.hid S
 try simp only[Act.put,List.setIfInBounds_toArray,List.set_cons_zero,List.set_cons_succ]
 refine Wk.o (i:=12) at12 (by kernel_rfl) fun K' hK=>?_
 have q12_z0:=St.cl (S.out) 1 0 rfl rfl
 have q12_z1:=St.cl (S.out) 1 1 rfl rfl
 have q12z_z0:=St.f (S.out) 1 0 rfl
 have q12z_z1:=St.f (S.out) 1 1 rfl
 go_simp
 have SN:=((S.out.set 1 0 (.bool (ng (q.num%(q.den:Int)))) rfl (by nofun)).set 1 1 (.slice A4 n4 c4) rfl (by nofun))
 clear S q12_z0 q12_z1 q12z_z0 q12z_z1
 have S:=SN
 clear SN
 refine hK.out _ _ (S.cb 3 rfl) ?_
 clear hK K'
 replace S:=Lib.hid S
 try simp only[Act.put,List.setIfInBounds_toArray,List.set_cons_zero,List.set_cons_succ]
 refine Wk.o (i:=13) at13 (by kernel_rfl) fun K' hK=>?_
 go_simp
 have SN:=S.out
 clear S
 have S:=SN
 clear SN
 refine hK.out _ _ (S.cb 3 rfl) ?_
 clear hK K'
 replace S:=Lib.hid S
 try simp only[Act.put,List.setIfInBounds_toArray,List.set_cons_zero,List.set_cons_succ]
 refine Wk.done (by kernel_rfl) ?_
 go_simp
 replace S:=S.out
 have S:St w _ [(g_q,#[.bool (ng (q.num / (q.den:Int))),.slice A3 n3 c3],24),(g_z,#[.bool (ng (q.num%(q.den:Int))),.slice A4 n4 c4],24),(w.heap.size+1,#[.bool false,.slice none 0 0],24),(w.heap.size,#[.bool (ng q.num),.slice A1 n1 c1,.slice D1 m1 d1],26)] [(A4,n4,c4,limbs (q.num%(q.den:Int)).natAbs),(A3,n3,c3,limbs (q.num / (q.den:Int)).natAbs),(A2,n2,c2,limbs q.den),(D1,m1,d1,dn q),(A1,n1,c1,limbs q.num.natAbs),(D,m,d,ds),(A,n,c,xs)]:=S
 generalize hW6:(World.setCell (World.setCell (World.setCell (World.setCell w5 ⟨g_q,0,none⟩ (.bool (ng (q.num / (q.den:Int))))) ⟨g_q,1,none⟩ (.slice A3 n3 c3)) ⟨g_z,0,none⟩ (.bool (ng (q.num%(q.den:Int))))) ⟨g_z,1,none⟩ (.slice A4 n4 c4))=w6 at S ⊢
 clear hW6
 replace S:=Lib.hid S
 replace S:=S.out
 obtain⟨c_q0,c_q1,f_q0,f_q1⟩:=S.cf2 0 rfl
 obtain⟨c_z0,c_z1,f_z0,f_z1⟩:=S.cf2 1 rfl
 obtain⟨c_r0,c_r1,f_r0,f_r1⟩:=S.cf2 2 rfl
 obtain⟨c_x0,c_x1,c_x2,f_x0,f_x1,f_x2⟩:=S.cf3 3 rfl
 have hz:g_q<w6.heap.size:=S.lt 0 rfl
 replace S:=Lib.hid S
 clear hD hV hK
 have S:St w _ [(g_q,#[.bool (ng (q.num / (q.den:Int))),.slice A3 n3 c3],24),(g_z,#[.bool (ng (q.num%(q.den:Int))),.slice A4 n4 c4],24),(w.heap.size+1,#[.bool (ng (q.num / (q.den:Int))),.slice A3 n3 c3],24),(w.heap.size,#[.bool (ng q.num),.slice A1 n1 c1,.slice D1 m1 d1],26)] [(A4,n4,c4,limbs (q.num%(q.den:Int)).natAbs),(A3,n3,c3,limbs (q.num / (q.den:Int)).natAbs),(A2,n2,c2,limbs q.den),(D1,m1,d1,dn q),(A1,n1,c1,limbs q.num.natAbs),(D,m,d,ds),(A,n,c,xs)]:=((S.out.set 2 0 (.bool (ng (q.num / (q.den:Int)))) rfl (by nofun)).set 2 1 (.slice A3 n3 c3) rfl (by nofun))
 replace S:=Lib.hid S
 go_wp2
 refine bodyPost_ret (res_floor _ _ (w.heap.size+1) 24 rfl (S.out.bk _ (List.mem_of_getElem? (i:=2) rfl)).1) rfl ?_
 exact⟨_,_,_,rfl,S.out.r 1 rfl,S.out.bel⟩
end Go.Proofs.YtphckmdnflbloaaGreat
