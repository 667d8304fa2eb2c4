/- Contracts of rational at valid numbers; the reference's Same, both ways. The reference's Take and Sign of rational. -/
import Derived.Test.YtdeedofmflelfaaGreatDoorQRnz
import Derived.Test.YtdeedofmflelfaaGreatDoorQSaz
import Derived.Test.YtdeedofmflelfaaGreatDoorQIaz
import Derived.Test.YtdeedofmflelfaaGreatDoorQIjz
namespace Go.Proofs.YtdeedofmflelfaaGreatDoor
open Go.RowKit RQ
theorem dn_inj {q r:Rat} (h:dn q=dn r):q.den=r.den:=by rw[←dv_dn,←dv_dn,h]
theorem same_parts (q r:Rat):((decide (ng q.num=ng r.num)&&decide (limbs q.num.natAbs=limbs r.num.natAbs))&&decide (dn q=dn r))=decide (q=r):=by
 rw[Bool.eq_iff_iff]
 simp only[Bool.and_eq_true,decide_eq_true_eq]
 constructor
 ·rintro ⟨⟨h1,h2⟩,h3⟩
  have e1:=limbs_inj1 h2
  have e2:q.num=r.num:=by rw[←sg_ng q.num,←sg_ng r.num,h1,e1]
  exact Rat.ext e2 (dn_inj h3)
 ·rintro rfl;exact⟨⟨rfl,rfl⟩,rfl⟩
set_option maxHeartbeats 4000000 in
theorem same2_any (b:Bool) (A:Option Addr) (n c:Nat) (xs:List Nat) (b':Bool) (A':Option Addr) (n' c':Nat) (ys:List Nat) (w:World) (R1:Rd w A n c xs) (R2:Rd w A' n' c' ys) (hn:n≤10000) (hn':n'≤10000) :
  Calls Tryz.prog 72 #[.agg #[.bool b,.slice A n c],.agg #[.bool b',.slice A' n' c']] w fun e w'=>e=.returned (.bool (decide (b=b')&&decide (xs=ys)))∧Below w.heap.size w w':=by
 have hS:=Lib.hid (fun W p1 p2=>same1_any A n c A' n' c' xs ys W p1 p2 (by omega) (by omega))
 have S:=(((((St.new w).read R1).read R2).allocAt (w.heap.size) #[.bool b,.slice A n c] 44 (noL2 _ _ _ _) (by simp)).allocAt (w.heap.size+1) #[.bool b',.slice A' n' c'] 44 (noL2 _ _ _ _) (by simp))
 replace S:=Lib.hid S
 clear R1 R2 hn hn'
 generalize decide (xs=ys)=eq at *
 have hb:((b:Bool)==b')=decide (b=b'):=by cases b<;>cases b'<;>rfl
 cases hbb:decide (b=b')
 ·rw[hbb] at hb
  clear hbb hS
  have B:=Lib.hid S.out.bel
  go_enter Tryz.func72,Tryz.ntmps72
  go_wp2
  go_ret
  exact⟨rfl,B.out⟩
 ·rw[hbb] at hb
  clear hbb
  rw[Bool.true_and]
  go_enter Tryz.func72,Tryz.ntmps72
  go_wp2_with fail
  refine (hS.out _ (S.out.r 1 rfl) (S.out.r 0 rfl)).mono ?_
  rintro e w1 ⟨rfl,bb⟩
  have T:=(S.out.call bb)
  clear bb S
  have S:=T
  clear T
  obtain⟨c_y0,c_y1,f_y0,f_y1⟩:=S.cf2 0 rfl
  obtain⟨c_x0,c_x1,f_x0,f_x1⟩:=S.cf2 1 rfl
  have hz:w.heap.size+1<w1.heap.size:=S.lt 0 rfl
  replace S:=Lib.hid S
  have B:=Lib.hid S.out.bel
  go_wp2
  go_ret
  exact⟨rfl,B.out⟩
set_option maxHeartbeats 4000000 in
theorem sameQ (q r:Rat) (A:Option Addr) (n c:Nat) (D:Option Addr) (m d:Nat) (A':Option Addr) (n' c':Nat) (D':Option Addr) (m' d':Nat) (w:World) (X:RR w A n c D m d q) (Y:RR w A' n' c' D' m' d' r) (hs:Rs q 200) (hs':Rs r 200) :
  Calls Tryz.prog 27 #[.agg #[.bool (ng q.num),.slice A n c,.slice D m d],.agg #[.bool (ng r.num),.slice A' n' c',.slice D' m' d']] w fun e w'=>e=.returned (.bool (decide (q=r)))∧Below w.heap.size w w':=by
 have l:=X.lens hs
 have l':=Y.lens hs'
 have hS:=Lib.hid (fun W p1 p2=>same2_any (ng q.num) A n c (limbs q.num.natAbs) (ng r.num) A' n' c' (limbs r.num.natAbs) W p1 p2 (by omega) (by omega))
 have hT:=Lib.hid (fun W p1 p2=>same1_any D m d D' m' d' (dn q) (dn r) W p1 p2 (by omega) (by omega))
 have R1:=X.n
 have R2:=X.d
 have R3:=Y.n
 have R4:=Y.d
 rw[←same_parts]
 have S:=(((((((St.new w).read R1).read R2).read R3).read R4).allocAt (w.heap.size) #[.bool (ng q.num),.slice A n c,.slice D m d] 46 (noL3 _ _ _ _ _ _ _) (by simp)).allocAt (w.heap.size+1) #[.bool (ng r.num),.slice A' n' c',.slice D' m' d'] 46 (noL3 _ _ _ _ _ _ _) (by simp))
 replace S:=Lib.hid S
 clear X Y R1 R2 R3 R4 l l' hs hs'
 generalize decide (dn q=dn r)=e2 at *
 generalize (decide (ng q.num=ng r.num)&&decide (limbs q.num.natAbs=limbs r.num.natAbs))=e1 at *
 cases e1
 ·clear hT
  go_enter Tryz.func27,Tryz.ntmps27
  go_wp2_with fail
  refine (hS.out _ (S.out.r 3 rfl) (S.out.r 1 rfl)).mono ?_
  rintro e w1 ⟨rfl,bb⟩
  have T:=(S.out.call bb)
  clear bb S
  have S:=T
  clear T
  obtain⟨c_y0,c_y1,c_y2,f_y0,f_y1,f_y2⟩:=S.cf3 0 rfl
  obtain⟨c_x0,c_x1,c_x2,f_x0,f_x1,f_x2⟩:=S.cf3 1 rfl
  have hz:w.heap.size+1<w1.heap.size:=S.lt 0 rfl
  replace S:=Lib.hid S
  clear hS
  have B:=Lib.hid S.out.bel
  go_wp2
  go_ret
  exact⟨rfl,B.out⟩
 ·rw[Bool.true_and]
  go_enter Tryz.func27,Tryz.ntmps27
  go_wp2_with fail
  refine (hS.out _ (S.out.r 3 rfl) (S.out.r 1 rfl)).mono ?_
  rintro e w1 ⟨rfl,bb⟩
  have T:=(S.out.call bb)
  clear bb S
  have S:=T
  clear T
  obtain⟨c_y0,c_y1,c_y2,f_y0,f_y1,f_y2⟩:=S.cf3 0 rfl
  obtain⟨c_x0,c_x1,c_x2,f_x0,f_x1,f_x2⟩:=S.cf3 1 rfl
  have hz:w.heap.size+1<w1.heap.size:=S.lt 0 rfl
  replace S:=Lib.hid S
  clear hS
  go_wp2_with fail
  refine (hT.out _ (S.out.r 2 rfl) (S.out.r 0 rfl)).mono ?_
  rintro e w2 ⟨rfl,bb⟩
  have T:=(S.out.call bb)
  clear bb S c_y0 f_y0 c_y1 f_y1 c_y2 f_y2 c_x0 f_x0 c_x1 f_x1 c_x2 f_x2 hz
  have S:=T
  clear T
  obtain⟨c_y0,c_y1,c_y2,f_y0,f_y1,f_y2⟩:=S.cf3 0 rfl
  obtain⟨c_x0,c_x1,c_x2,f_x0,f_x1,f_x2⟩:=S.cf3 1 rfl
  have hz:w.heap.size+1<w2.heap.size:=S.lt 0 rfl
  replace S:=Lib.hid S
  clear hT
  have B:=Lib.hid S.out.bel
  go_wp2
  go_ret
  exact⟨rfl,B.out⟩
end Go.Proofs.YtdeedofmflelfaaGreatDoor

namespace Go.Proofs.YtdeedofmflelfaaGreatDoor
open Go.RowKit RQ
theorem res_rtake (W:World) (tmps:Array Value) (g t:Nat) {v0 v1 v2:Value} (ht:tmps.getD 2 undef=.pointer (some ⟨g,0,none⟩)) (h:Cb W g #[v0,v1,v2] t) :
  (results Tryz.f68 tmps).run Tryz.prog W=.ok (.agg #[v0,v1,v2]) W:=by
 have c0:W.cell? ⟨g,0,none⟩=some v0:=h.cell rfl
 have c1:W.cell? ⟨g,1,none⟩=some v1:=h.cell rfl
 have c2:W.cell? ⟨g,2,none⟩=some v2:=h.cell rfl
 have ht':tmps[2]?.getD undef=.pointer (some ⟨g,0,none⟩):=by rw[←ht];simp[Array.getD_eq_getD_getElem?]
 simp[results,Tryz.results68,go_sem,ht',c0,c1,c2]
theorem num_dn (q:Rat):limbs (num (dn q))=dn q:=by
 unfold dn
 split
 ·rw[show num []=0 from rfl,limbs_zero]
 ·rw[show num (limbs q.den)=val (limbs q.den) by unfold num;rw[vldB_limbs];rfl,val_limbs]
set_option maxRecDepth 100000 in
set_option maxHeartbeats 4000000 in
theorem rtakeR_any (b:Bool) (A:Option Addr) (n c:Nat) (xs:List Nat) (D:Option Addr) (m d:Nat) (ds:List Nat) (w:World) (R1:Rd w A n c xs) (R2:Rd w D m d ds) (hn:n≤200) (hm:m≤200):Calls Tryz.prog 68 #[.agg #[.bool b,.slice A n c,.slice D m d]] w (RetR (rv b xs ds) w):=by
 have hV:=fun W q1 q2=>rvalidR_any b A n c xs D m d ds W q1 q2 (by omega) (by omega)
 have S:=(((((St.new w).read R1).read R2).allocAt (w.heap.size) #[.bool b,.slice A n c,.slice D m d] 46 (noL3 _ _ _ _ _ _ _) (by simp)).allocAt (w.heap.size+1) #[.bool false,.slice none 0 0,.slice none 0 0] 46 (noL3 _ _ _ _ _ _ _) (by simp))
 replace S:=Lib.hid S
 cases hv:vldR b xs ds
 ·rw[hv] at hV
  rw[rv_no hv]
  replace hV:=Lib.hid hV
  clear hv R1 R2 hn hm
  go_enter Tryz.func68,Tryz.ntmps68
  go_wp2_with fail
  refine (hV.out _ (S.out.r 1 rfl) (S.out.r 0 rfl)).mono ?_
  rintro e w1 ⟨rfl,bb⟩
  have T:=(S.out.call bb)
  clear bb S
  have S:=T
  clear T
  obtain⟨c_r0,c_r1,c_r2,f_r0,f_r1,f_r2⟩:=S.cf3 0 rfl
  obtain⟨c_x0,c_x1,c_x2,f_x0,f_x1,f_x2⟩:=S.cf3 1 rfl
  have hz:w.heap.size+1<w1.heap.size:=S.lt 0 rfl
  replace S:=Lib.hid S
  clear hV
  have S:St w _ [(w.heap.size+1,#[.bool false,.slice none 0 0,.slice none 0 0],46),(w.heap.size,#[.bool b,.slice A n c,.slice D m d],46)] [(D,m,d,ds),(A,n,c,xs)]:=(((S.out.set 0 0 (.bool false) rfl (by nofun)).set 0 1 (.slice none 0 0) rfl (by nofun)).set 0 2 (.slice none 0 0) rfl (by nofun))
  replace S:=Lib.hid S
  go_wp2
  refine bodyPost_ret (res_rtake _ _ (w.heap.size+1) 46 rfl (S.out.bk _ (List.mem_of_getElem? (i:=0) rfl)).1) rfl ?_
  exact⟨_,_,_,_,_,_,rfl,zero_RR _ _ _ _ _,S.out.bel⟩
 rw[hv] at hV
 obtain⟨e1,e2,e3⟩:=canonR R1.sm R2.sm hv
 generalize rv b xs ds=q at *
 subst e1;subst e2;subst e3
 have h2:Hid (∀ W,Rd W A n c (limbs q.num.natAbs)→Calls Tryz.prog 107 #[.agg #[.bool (ng q.num),.slice A n c]] W (RetI q.num W)):=Lib.hid fun W p=>by
  have:=takeI_any (ng q.num) A n c _ W p (by omega)
  rwa [iv_z] at this
 have h1:Hid (∀ W,Rd W D m d (dn q)→Calls Tryz.prog 108 #[.slice D m d] W fun e w'=>∃ A' n' c',e=.returned (.slice A' n' c')∧Rd w' A' n' c' (dn q)∧Below W.heap.size W w'):=Lib.hid fun W p=>(take_any D m d _ W p (by omega)).mono fun e w' h=>by
  obtain⟨A',n',c',he,hr,hb,_⟩:=h
  rw[num_dn] at hr
  exact⟨A',n',c',he,hr,hb⟩
 replace hV:=Lib.hid hV
 clear hv R1 R2 hn hm
 go_enter Tryz.func68,Tryz.ntmps68
 go_wp2_with fail
 refine (hV.out _ (S.out.r 1 rfl) (S.out.r 0 rfl)).mono ?_
 rintro e w1 ⟨rfl,bb⟩
 have T:=(S.out.call bb)
 clear bb S
 have S:=T
 clear T
 obtain⟨c_r0,c_r1,c_r2,f_r0,f_r1,f_r2⟩:=S.cf3 0 rfl
 obtain⟨c_x0,c_x1,c_x2,f_x0,f_x1,f_x2⟩:=S.cf3 1 rfl
 have hz:w.heap.size+1<w1.heap.size:=S.lt 0 rfl
 replace S:=Lib.hid S
 clear hV
 go_upto_region 3 with fail
 clear c_r0 f_r0 c_r1 f_r1 c_r2 f_r2 c_x0 f_x0 c_x1 f_x1 c_x2 f_x2 hz
 refine RW.begin (Z:=[]) (S:=(fun W=>Cb W (w.heap.size) #[.bool (ng q.num),.slice A n c,.slice D m d] 46)) (by kernel_rfl) ?_ S.out ?_
 ·exact⟨by kernel_rfl,zis_nil,by decide,by decide,nol_nil,(fun _ _ h=>h.kb 1 rfl)⟩
 intro hzk
 clear S
 refine RW.t (i:=0) (v:=.pointer (some ⟨w.heap.size,0,none⟩)) (some 7) at0 (hy:=fun _ _=>by kernel_rfl) (h:=?_)
 refine RW.t (i:=1) (v:=.agg #[.bool (ng q.num),.slice A n c]) (some 8) at1 (hy:=fun W hS=>by (have k0:=Cb.cell (i:=0) hS rfl;have k1:=Cb.cell (i:=1) hS rfl;clear hS;go_simp)) (h:=?_)
 refine RW.t (i:=3) (v:=.pointer (some ⟨w.heap.size,2,none⟩)) (some 10) at3 (hy:=fun _ _=>by kernel_rfl) (h:=?_)
 refine RW.t (i:=4) (v:=.slice D m d) (some 11) at4 (hy:=fun W hS=>by (have k2:=Cb.cell (i:=2) hS rfl;clear hS;go_simp)) (h:=?_)
 refine RW.c (i:=2) (args:=#[.agg #[.bool (ng q.num),.slice A n c]]) (some 9) hzk.out at2 (hx:=fun _=>by kernel_rfl) (h:=fun _ S=>(h2.out _ (S.r 1 rfl)).mono ?_)
 rintro e w2 ⟨A1,n1,c1,rfl,Q1,bb⟩
 refine⟨bb,_,[(A1,n1,c1,limbs q.num.natAbs)],rfl,(rd_cons Q1 rd_nil),?_⟩
 clear bb S Q1
 refine RW.c (i:=5) (args:=#[.slice D m d]) (some 12) hzk.out at5 (hx:=fun _=>by kernel_rfl) (h:=fun _ S=>(h1.out _ (S.r 1 rfl)).mono ?_)
 rintro e w3 ⟨D2,m2,d2,rfl,Q2,bb⟩
 refine⟨bb,_,[(D2,m2,d2,dn q)],rfl,(rd_cons Q2 rd_nil),?_⟩
 clear bb S Q2
 refine RW.t (i:=6) (v:=.agg #[.bool (ng q.num),.slice A1 n1 c1,.slice D2 m2 d2]) (some 13) at6 (hy:=fun _ _=>by kernel_rfl) (h:=?_)
 refine RW.tail hzk.out (by kernel_rfl) ?_
 intro gs w4 hgs hS S
 obtain rfl:=len0 hgs
 clear hS hgs hzk
 simp only[mark,fill,Act.put,List.setIfInBounds_toArray,List.set_cons_zero,List.set_cons_succ]
 replace S:=Lib.hid S
 refine Wk.o (i:=7) at7 (by kernel_rfl) fun K' hK=>?_
 have q7_r0:=St.cl (S.out) 0 0 rfl rfl
 have q7_r1:=St.cl (S.out) 0 1 rfl rfl
 have q7_r2:=St.cl (S.out) 0 2 rfl rfl
 have q7z_r0:=St.f (S.out) 0 0 rfl
 have q7z_r1:=St.f (S.out) 0 1 rfl
 have q7z_r2:=St.f (S.out) 0 2 rfl
 go_simp
 have SN:=(((S.out.set 0 0 (.bool (ng q.num)) rfl (by nofun)).set 0 1 (.slice A1 n1 c1) rfl (by nofun)).set 0 2 (.slice D2 m2 d2) rfl (by nofun))
 clear S q7_r0 q7_r1 q7_r2 q7z_r0 q7z_r1 q7z_r2
 have S:=SN
 clear SN
 refine hK.out _ _ (S.cb 1 rfl) ?_
 clear hK K'
 replace S:=Lib.hid S
 try simp only[Act.put,List.setIfInBounds_toArray,List.set_cons_zero,List.set_cons_succ]
 refine Wk.done (by kernel_rfl) ?_
 go_simp
 replace S:=S.out
 have S:St w _ [(w.heap.size+1,#[.bool (ng q.num),.slice A1 n1 c1,.slice D2 m2 d2],46),(w.heap.size,#[.bool (ng q.num),.slice A n c,.slice D m d],46)] [(D2,m2,d2,dn q),(A1,n1,c1,limbs q.num.natAbs),(D,m,d,dn q),(A,n,c,limbs q.num.natAbs)]:=S
 generalize hW5:(World.setCell (World.setCell (World.setCell w4 ⟨w.heap.size+1,0,none⟩ (.bool (ng q.num))) ⟨w.heap.size+1,1,none⟩ (.slice A1 n1 c1)) ⟨w.heap.size+1,2,none⟩ (.slice D2 m2 d2))=w5 at S ⊢
 clear hW5
 replace S:=Lib.hid S
 replace S:=S.out
 replace S:=Lib.hid S
 have S:=S.out
 replace S:=Lib.hid S
 go_wp2
 refine bodyPost_ret (res_rtake _ _ (w.heap.size+1) 46 rfl (S.out.bk _ (List.mem_of_getElem? (i:=0) rfl)).1) rfl ?_
 exact⟨_,_,_,_,_,_,rfl,⟨S.out.r 1 rfl,S.out.r 0 rfl⟩,S.out.bel⟩
theorem sameT (q r:Rat) (he:q=r) (A:Option Addr) (n c:Nat) (D:Option Addr) (m d:Nat) (A':Option Addr) (n' c':Nat) (D':Option Addr) (m' d':Nat) (w:World) (X:RR w A n c D m d q) (Y:RR w A' n' c' D' m' d' r) (hs:Rs q 200) (hs':Rs r 200) :
  Calls Tryz.prog 27 #[.agg #[.bool (ng q.num),.slice A n c,.slice D m d],.agg #[.bool (ng r.num),.slice A' n' c',.slice D' m' d']] w fun e w'=>e=.returned (.bool true)∧Below w.heap.size w w':=by
 have:=sameQ q r A n c D m d A' n' c' D' m' d' w X Y hs hs'
 rwa [decide_eq_true he] at this
end Go.Proofs.YtdeedofmflelfaaGreatDoor
