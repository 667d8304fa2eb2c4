/- Root of interval. -/
import Derived.Test.YtphckmdnflbloaaGreatQVkz
import Derived.Test.YtphckmdnflbloaaGreatQVdz
import Derived.Test.YtphckmdnflbloaaGreatUb
namespace Go.Proofs.YtphckmdnflbloaaGreat
open Go.RowKit RQ
theorem num_lt0 (q:Rat):q.num<0↔q<0:=by
 rw[Rat.lt_iff,show (0:Rat).den=1 from rfl,show (0:Rat).num=0 from rfl];simp
/-- The whole number whose root is taken; the lower end; the unit. -/
def rtN (q:Rat) (k:Nat):Nat:=(q*qz (2^(2*k))).floor.toNat
def rtU (k:Nat):Rat:=(qz (2^k))⁻¹
def rtLo (q:Rat) (k:Nat):Rat:=qz (isq (rtN q k))*rtU k
theorem floor_size {x:Rat} {p:Nat} (h:Rs x p):x.floor.natAbs<4294967296^p:=by
 rw[floor_parts];exact Nat.lt_of_le_of_lt (natAbs_ediv_le _ _) h.n
theorem rtN_floor {q:Rat} {k:Nat} (h:0≤q):(q*qz (2^(2*k))).floor=(rtN q k:Int):=by
 have h1:0≤q*qz (2^(2*k)):=Rat.mul_nonneg h ((qz_le (a:=0)).2 (Nat.zero_le _))
 have h2:(0:Int)≤(q*qz (2^(2*k))).floor:=Rat.le_floor_iff.2 h1
 unfold rtN;omega
theorem rtN_lt {q:Rat} {k:Nat} (hq:Rs q 10) (hk:k≤128):rtN q k<4294967296^19∧Rs (q*qz (2^(2*k))) 19:=by
 have h1:Rs (q*qz (2^(2*k))) 19:=hq.mul (qz_rs (p:=9) (p2_lt (by omega)) (by decide))
 have h2:=floor_size h1
 refine⟨?_,h1⟩
 unfold rtN;omega
theorem rtU_rs {k:Nat} (hk:k≤128):Rs (rtU k) 5:=(qz_rs (p:=5) (p2_lt (by omega)) (by decide)).inv (by decide)
theorem isq_self (x:Nat):isq x≤x:=by
 obtain⟨a,_⟩:=isq_spec x
 rcases Nat.eq_zero_or_pos (isq x) with h | h
 ·omega
 ·have:=Nat.mul_le_mul_right (isq x) h;omega
theorem rtLo_rs {q:Rat} {k:Nat} (hq:Rs q 10) (hk:k≤128):Rs (rtLo q k) 24:=(qz_rs (Nat.lt_of_le_of_lt (isq_self _) (rtN_lt hq hk).1) (by decide)).mul (rtU_rs hk)
theorem pow2_minus (k:Nat) (w:World) (hk:k≤1000):Calls Tryz.prog 99 #[.int .i64 (-(k:Int))] w (RetR (rtU k) w):=by
 rcases Nat.eq_zero_or_pos k with h | h
 ·subst h
  have e:rtU 0=(((2^0:Nat):Int):Rat):=by decide +kernel
  rw[e]
  exact pow2_pos 0 w (by decide)
 ·exact pow2_neg k w h (by omega)
theorem res_root (W:World) (tmps:Array Value) (g t:Nat) {v0 v1 v2 v3 v4 v5 e0:Value} (ht:tmps.getD 4 undef=.pointer (some ⟨g,0,none⟩)) (h0:tmps.getD 5 undef=e0) (h:Cb W g #[v0,v1,v2,v3,v4,v5] t) :
  (results Tryz.f30 tmps).run Tryz.prog W=.ok (.tuple #[.agg #[v0,v1,v2,v3,v4,v5],e0]) W:=by
 have c0:W.cell? ⟨g,0,none⟩=some v0:=h.cell rfl
 have c1:W.cell? ⟨g,1,none⟩=some v1:=h.cell rfl
 have c2:W.cell? ⟨g,2,none⟩=some v2:=h.cell rfl
 have c3:W.cell? ⟨g,3,none⟩=some v3:=h.cell rfl
 have c4:W.cell? ⟨g,4,none⟩=some v4:=h.cell rfl
 have c5:W.cell? ⟨g,5,none⟩=some v5:=h.cell rfl
 have ht':tmps[4]?.getD undef=.pointer (some ⟨g,0,none⟩):=by rw[←ht];simp[Array.getD_eq_getD_getElem?]
 have k0:tmps[5]?.getD undef=e0:=by rw[←h0];simp[Array.getD_eq_getD_getElem?]
 simp[results,Tryz.results30,go_sem,ht',k0,c0,c1,c2,c3,c4,c5]
set_option maxRecDepth 100000 in
set_option maxHeartbeats 8000000 in
theorem root_yes2 (b1:Bool) (A1:Option Addr) (n1 c1:Nat) (x1:List Nat) (D1:Option Addr) (m1 d1:Nat) (y1:List Nat) (q1:Rat) (k:Nat) (hk:k≤128) (hq:0≤q1) (hs:Rs q1 10) (hh:rtLo q1 k*rtLo q1 k≠q1) (w:World) (X1:Rw w b1 A1 n1 c1 x1 D1 m1 d1 y1 q1):Calls Tryz.prog 30 #[.agg #[.bool b1,.slice A1 n1 c1,.slice D1 m1 d1],.int .i64 k] w (RetVE (rtLo q1 k) (rtLo q1 k+rtU k) (.int .i64 0) w):=by
 obtain⟨hN,hP19⟩:=rtN_lt (k:=k) hs hk
 have hU5:=rtU_rs hk
 have hL24:=rtLo_rs (k:=k) hs hk
 have hF9:Rs (qz (2^(2*k))) 9:=qz_rs (p2_lt (by omega)) (by decide)
 have hI:Rs (qz (isq (rtN q1 k))) 19:=qz_rs (Nat.lt_of_le_of_lt (isq_self _) hN) (by decide)
 have hS:=Lib.hid (fun W h1=>signW b1 A1 n1 c1 x1 D1 m1 d1 y1 q1 W h1)
 have g1:decide (q1.num.sign<0)=false:=decide_eq_false (fun h'=>Rat.not_lt.2 hq ((num_lt0 _).1 (Int.sign_neg_iff.1 h')))
 have g2:decide ((k:Int)<0)=false:=decide_eq_false (by omega)
 have g3:decide (128<(k:Int))=false:=decide_eq_false (by omega)
 have w1:IntKind.i64.wrap (-(k:Int)) = -(k:Int):=IntWalk.i64_in _ (by omega)
 have w2:IntKind.i64.wrap (2*(k:Int))=2*(k:Int):=IntWalk.i64_in _ (by omega)
 have hU:Hid (∀ W,Calls Tryz.prog 99 #[.int .i64 (-(k:Int))] W (RetR (rtU k) W)):=Lib.hid fun W=>pow2_minus k W (by omega)
 have hF:Hid (∀ W,Calls Tryz.prog 99 #[.int .i64 (2*(k:Int))] W (RetR (qz (2^(2*k))) W)):=Lib.hid fun W=>pow2_pos (2*k) W (by omega)
 have hM1:Hid (∀ W A n c D m d,Rw W b1 A1 n1 c1 x1 D1 m1 d1 y1 q1→RR W A n c D m d (qz (2^(2*k)))→Calls Tryz.prog 91 #[.agg #[.bool b1,.slice A1 n1 c1,.slice D1 m1 d1],.agg #[.bool (ng (qz (2^(2*k))).num),.slice A n c,.slice D m d]] W (RetR (q1*qz (2^(2*k))) W)):=Lib.hid fun W A n c D m d h1 h2=>mulW _ _ _ _ _ _ _ _ _ _ _ _ _ _ _ _ _ _ _ _ W h1 (RR.w h2 (hF9.mono (by decide)))
 have hFl:Hid (∀ W A0 n0 c0 D0 m0 d0,RR W A0 n0 c0 D0 m0 d0 (q1*qz (2^(2*k)))→Calls Tryz.prog 100 #[.agg #[.bool (ng (q1*qz (2^(2*k))).num),.slice A0 n0 c0,.slice D0 m0 d0]] W (fun e w'=>∃ A n c,e=.returned (.agg #[.bool (ng (qz (rtN q1 k)).num),.slice A n c])∧Rd w' A n c (limbs (qz (rtN q1 k)).num.natAbs)∧Below W.heap.size W w')):=Lib.hid fun W A0 n0 c0 D0 m0 d0 X0=>by
  have:=floorQ _ A0 n0 c0 D0 m0 d0 W X0 (hP19.mono (by decide))
  rw[rtN_floor hq] at this;exact this
 have hW:Hid (∀ W A0 n0 c0 D0 m0 d0,RR W A0 n0 c0 D0 m0 d0 (qz (rtN q1 k))→Calls Tryz.prog 101 #[.agg #[.bool (ng (qz (rtN q1 k)).num),.slice A0 n0 c0,.slice D0 m0 d0]] W (RetR (qz (isq (rtN q1 k))) W)):=Lib.hid fun W A0 n0 c0 D0 m0 d0 X0=>whole_any (rtN q1 k) _ rfl A0 n0 c0 D0 m0 d0 W X0 hN
 have hM2:Hid (∀ W A0 n0 c0 D0 m0 d0 A1 n1 c1 D1 m1 d1,RR W A0 n0 c0 D0 m0 d0 (qz (isq (rtN q1 k)))→RR W A1 n1 c1 D1 m1 d1 (rtU k)→Calls Tryz.prog 91 #[.agg #[.bool (ng (qz (isq (rtN q1 k))).num),.slice A0 n0 c0,.slice D0 m0 d0],.agg #[.bool (ng (rtU k).num),.slice A1 n1 c1,.slice D1 m1 d1]] W (RetR (rtLo q1 k) W)):=Lib.hid fun W A0 n0 c0 D0 m0 d0 A1 n1 c1 D1 m1 d1 X0 X1=>mulQ _ _ A0 n0 c0 D0 m0 d0 A1 n1 c1 D1 m1 d1 W X0 X1 (hI.mono (by decide)) (hU5.mono (by decide))
 have hM3:Hid (∀ W A0 n0 c0 D0 m0 d0 A1 n1 c1 D1 m1 d1,RR W A0 n0 c0 D0 m0 d0 (rtLo q1 k)→RR W A1 n1 c1 D1 m1 d1 (rtLo q1 k)→Calls Tryz.prog 91 #[.agg #[.bool (ng (rtLo q1 k).num),.slice A0 n0 c0,.slice D0 m0 d0],.agg #[.bool (ng (rtLo q1 k).num),.slice A1 n1 c1,.slice D1 m1 d1]] W (RetR (rtLo q1 k*rtLo q1 k) W)):=Lib.hid fun W A0 n0 c0 D0 m0 d0 A1 n1 c1 D1 m1 d1 X0 X1=>mulQ _ _ A0 n0 c0 D0 m0 d0 A1 n1 c1 D1 m1 d1 W X0 X1 (hL24.mono (by decide)) (hL24.mono (by decide))
 have hLL:Rs (rtLo q1 k*rtLo q1 k) 48:=hL24.mul hL24
 have hC:Hid (∀ W A n c D m d,RR W A n c D m d (rtLo q1 k*rtLo q1 k)→Rw W b1 A1 n1 c1 x1 D1 m1 d1 y1 q1→Calls Tryz.prog 102 #[.agg #[.bool (ng (rtLo q1 k*rtLo q1 k).num),.slice A n c,.slice D m d],.agg #[.bool b1,.slice A1 n1 c1,.slice D1 m1 d1]] W fun e w'=>e=.returned (.int .i64 (cmpq (rtLo q1 k*rtLo q1 k) q1))∧Below W.heap.size W w'):=Lib.hid fun W A n c D m d h1 h2=>by
  have l:=h1.lens hLL
  have:=Rcompare_any (ng (rtLo q1 k*rtLo q1 k).num) A n c _ D m d _ b1 A1 n1 c1 x1 D1 m1 d1 y1 W h1.n h1.d h2.rn h2.rd (by omega) (by omega) (by have:=h2.k.2.1;omega) (by have:=h2.k.2.2;omega)
  rwa [rv_z,h2.k.1] at this
 have hA:Hid (∀ W A0 n0 c0 D0 m0 d0 A1 n1 c1 D1 m1 d1,RR W A0 n0 c0 D0 m0 d0 (rtLo q1 k)→RR W A1 n1 c1 D1 m1 d1 (rtU k)→Calls Tryz.prog 86 #[.agg #[.bool (ng (rtLo q1 k).num),.slice A0 n0 c0,.slice D0 m0 d0],.agg #[.bool (ng (rtU k).num),.slice A1 n1 c1,.slice D1 m1 d1]] W (RetR (rtLo q1 k+rtU k) W)):=Lib.hid fun W A0 n0 c0 D0 m0 d0 A1 n1 c1 D1 m1 d1 X0 X1=>addQ _ _ A0 n0 c0 D0 m0 d0 A1 n1 c1 D1 m1 d1 W X0 X1 (hL24.mono (by decide)) (hU5.mono (by decide))
 have hcc:(cmpq (rtLo q1 k*rtLo q1 k) q1==0)=false:=by rw[cmpq_beq,decide_eq_false hh]
 clear hN hP19 hU5 hL24 hF9 hI hLL hk hq hs hh
 generalize rtLo q1 k+rtU k=hi at *
 generalize cmpq (rtLo q1 k*rtLo q1 k) q1=cc at *
 generalize rtLo q1 k*rtLo q1 k=ll at *
 generalize rtLo q1 k=lo at *
 generalize rtU k=un at *
 generalize qz (isq (rtN q1 k))=ro at *
 have hScd:Hid (∀ W,Rd W none 0 0 (dn (qz (rtN q1 k)))):=Lib.hid fun W=>Rd.nil_ _ _ _
 generalize qz (rtN q1 k)=sc at *
 generalize q1*qz (2^(2*k))=pr at *
 generalize qz (2^(2*k))=fo at *
 generalize q1.num.sign=sg at *
 have k1:=Lib.hid X1.k
 have S:=(((((St.new w).read X1.rn).read X1.rd).allocAt (w.heap.size) #[.bool b1,.slice A1 n1 c1,.slice D1 m1 d1] 26 (noL3 _ _ _ _ _ _ _) (by simp)).allocAt (w.heap.size+1) #[.bool false,.slice none 0 0,.slice none 0 0,.bool false,.slice none 0 0,.slice none 0 0] 28 (noL6 _ _ _ _ _ _ _ _ _ _ _ _ _ _) (by simp))
 replace S:=Lib.hid S
 clear X1
 go_enter Tryz.func30,Tryz.ntmps30
 go_wp2_with fail
 refine (hS.out _ (Rw.of (S.out.r 1 rfl) (S.out.r 0 rfl) k1.out)).mono ?_
 rintro e w1 ⟨rfl,bb⟩
 have T:=(S.out.call bb)
 clear bb S
 have S:=T
 clear T
 obtain⟨c_r0,c_r1,c_r2,c_r3,c_r4,c_r5,f_r0,f_r1,f_r2,f_r3,f_r4,f_r5⟩:=S.cf6 0 rfl
 obtain⟨c_v0,c_v1,c_v2,f_v0,f_v1,f_v2⟩:=S.cf3 1 rfl
 have hz:w.heap.size+1<w1.heap.size:=S.lt 0 rfl
 replace S:=Lib.hid S
 clear hS
 go_wp2_with fail
 refine (hU.out _).mono ?_
 rintro e w2 ⟨A20,n20,c20,D20,m20,d20,rfl,Q20,bb⟩
 have T:=(((S.out.call bb).read Q20.n).read Q20.d)
 clear bb S c_r0 f_r0 c_r1 f_r1 c_r2 f_r2 c_r3 f_r3 c_r4 f_r4 c_r5 f_r5 c_v0 f_v0 c_v1 f_v1 c_v2 f_v2 hz
 have S:=T
 clear T
 obtain⟨c_r0,c_r1,c_r2,c_r3,c_r4,c_r5,f_r0,f_r1,f_r2,f_r3,f_r4,f_r5⟩:=S.cf6 0 rfl
 obtain⟨c_v0,c_v1,c_v2,f_v0,f_v1,f_v2⟩:=S.cf3 1 rfl
 have hz:w.heap.size+1<w2.heap.size:=S.lt 0 rfl
 replace S:=Lib.hid S
 clear Q20 hU g1 g2 g3
 go_upto_region 4 with fail
 clear c_r0 f_r0 c_r1 f_r1 c_r2 f_r2 c_r3 f_r3 c_r4 f_r4 c_r5 f_r5 c_v0 f_v0 c_v1 f_v1 c_v2 f_v2 hz
 have S:=(S.out.allocAt (w2.heap.size) #[.bool (ng un.num),.slice A20 n20 c20,.slice D20 m20 d20] 26 (noL3 _ _ _ _ _ _ _) (by simp))
 generalize hW3:(World.alloc w2 (.cells #[.bool (ng un.num),.slice A20 n20 c20,.slice D20 m20 d20] 26))=w3 at S ⊢
 clear hW3
 replace S:=Lib.hid S
 refine RW.begin (Z:=[⟨6,7,#[.bool false,.slice none 0 0],24⟩]) (S:=(fun W=>Cb W (w.heap.size) #[.bool b1,.slice A1 n1 c1,.slice D1 m1 d1] 26)) (by kernel_rfl) ?_ S.out ?_
 ·exact⟨by kernel_rfl,(zis_cons at6 (fun _ _=>by kernel_rfl) zis_nil),by decide,by decide,(nol_cons (noL2 _ _ _ _) nol_nil),(fun _ _ h=>h.kb 2 rfl)⟩
 intro hzk
 clear S
 refine RW.t (i:=0) (v:=.agg #[.bool b1,.slice A1 n1 c1,.slice D1 m1 d1]) (some 24) at0 (hy:=fun W hS=>by (have k0:=Cb.cell (i:=0) hS rfl;have k1:=Cb.cell (i:=1) hS rfl;have k2:=Cb.cell (i:=2) hS rfl;clear hS;go_simp)) (h:=?_)
 refine RW.t (i:=1) (v:=.int .i64 k) (some 25) at1 (hy:=fun _ _=>by kernel_rfl) (h:=?_)
 refine RW.t (i:=2) (v:=.int .i64 (2*(k:Int))) (some 26) at2 (hy:=fun _ _=>by go_simp) (h:=?_)
 refine RW.c (i:=3) (args:=#[.int .i64 (2*(k:Int))]) (some 27) hzk.out at3 (hx:=fun _=>by kernel_rfl) (h:=fun _ S=>(hF.out _).mono ?_)
 rintro e w4 ⟨A21,n21,c21,D21,m21,d21,rfl,Q21,bb⟩
 refine⟨bb,_,[(D21,m21,d21,dn fo),(A21,n21,c21,limbs fo.num.natAbs)],rfl,(rd_cons Q21.d (rd_cons Q21.n rd_nil)),?_⟩
 clear bb S Q21
 refine RW.c (i:=4) (args:=#[.agg #[.bool b1,.slice A1 n1 c1,.slice D1 m1 d1],.agg #[.bool (ng fo.num),.slice A21 n21 c21,.slice D21 m21 d21]]) (some 28) hzk.out at4 (hx:=fun _=>by kernel_rfl) (h:=fun _ S=>(hM1.out _ _ _ _ _ _ _ (Rw.of (S.r 5 rfl) (S.r 4 rfl) k1.out) ⟨S.r 1 rfl,S.r 0 rfl⟩).mono ?_)
 rintro e w5 ⟨A22,n22,c22,D22,m22,d22,rfl,Q22,bb⟩
 refine⟨bb,_,[(D22,m22,d22,dn pr),(A22,n22,c22,limbs pr.num.natAbs)],rfl,(rd_cons Q22.d (rd_cons Q22.n rd_nil)),?_⟩
 clear bb S Q22
 refine RW.c (i:=5) (args:=#[.agg #[.bool (ng pr.num),.slice A22 n22 c22,.slice D22 m22 d22]]) (some 29) hzk.out at5 (hx:=fun _=>by kernel_rfl) (h:=fun _ S=>(hFl.out _ _ _ _ _ _ _ ⟨S.r 1 rfl,S.r 0 rfl⟩).mono ?_)
 rintro e w6 ⟨A23,n23,c23,rfl,Q23,bb⟩
 refine⟨bb,_,[(A23,n23,c23,limbs sc.num.natAbs)],rfl,(rd_cons Q23 rd_nil),?_⟩
 clear bb S Q23
 refine RW.tail hzk.out (by kernel_rfl) ?_
 intro gs w7 hgs hS S
 obtain⟨g_sc,rfl⟩:=len1' hgs
 clear hS hgs hzk
 simp only[mark,fill,List.map,Act.put,List.setIfInBounds_toArray,List.set_cons_zero,List.set_cons_succ]
 replace S:=Lib.hid S
 refine Wk.o (i:=7) at7 (by kernel_rfl) fun K' hK=>?_
 have q7_sc0:=St.cl (S.out) 0 0 rfl rfl
 have q7_sc1:=St.cl (S.out) 0 1 rfl rfl
 have q7z_sc0:=St.f (S.out) 0 0 rfl
 have q7z_sc1:=St.f (S.out) 0 1 rfl
 go_simp
 have SN:=((S.out.set 0 0 (.bool (ng sc.num)) rfl (by nofun)).set 0 1 (.slice A23 n23 c23) rfl (by nofun))
 clear S q7_sc0 q7_sc1 q7z_sc0 q7z_sc1
 have S:=SN
 clear SN
 refine hK.out _ _ (S.cb 3 rfl) ?_
 clear hK K'
 replace S:=Lib.hid S
 try simp only[Act.put,List.setIfInBounds_toArray,List.set_cons_zero,List.set_cons_succ]
 refine Wk.done (by kernel_rfl) ?_
 go_simp
 replace S:=S.out
 have S:St w _ [(g_sc,#[.bool (ng sc.num),.slice A23 n23 c23],24),(w2.heap.size,#[.bool (ng un.num),.slice A20 n20 c20,.slice D20 m20 d20],26),(w.heap.size+1,#[.bool false,.slice none 0 0,.slice none 0 0,.bool false,.slice none 0 0,.slice none 0 0],28),(w.heap.size,#[.bool b1,.slice A1 n1 c1,.slice D1 m1 d1],26)] [(A23,n23,c23,limbs sc.num.natAbs),(D22,m22,d22,dn pr),(A22,n22,c22,limbs pr.num.natAbs),(D21,m21,d21,dn fo),(A21,n21,c21,limbs fo.num.natAbs),(D20,m20,d20,dn un),(A20,n20,c20,limbs un.num.natAbs),(D1,m1,d1,y1),(A1,n1,c1,x1)]:=S
 generalize hW8:(World.setCell (World.setCell w7 ⟨g_sc,0,none⟩ (.bool (ng sc.num))) ⟨g_sc,1,none⟩ (.slice A23 n23 c23))=w8 at S ⊢
 clear hW8
 replace S:=Lib.hid S
 replace S:=S.out
 obtain⟨c_sc0,c_sc1,f_sc0,f_sc1⟩:=S.cf2 0 rfl
 obtain⟨c_u0,c_u1,c_u2,f_u0,f_u1,f_u2⟩:=S.cf3 1 rfl
 obtain⟨c_r0,c_r1,c_r2,c_r3,c_r4,c_r5,f_r0,f_r1,f_r2,f_r3,f_r4,f_r5⟩:=S.cf6 2 rfl
 obtain⟨c_v0,c_v1,c_v2,f_v0,f_v1,f_v2⟩:=S.cf3 3 rfl
 have hz:g_sc<w8.heap.size:=S.lt 0 rfl
 replace S:=Lib.hid S
 clear hF hM1 hFl
 replace S:=S.out
 have S:=S.read (show Rd _ none 0 0 (dn sc) from hScd.out _)
 replace S:=Lib.hid S
 go_upto_region 5 with fail
 clear c_sc0 f_sc0 c_sc1 f_sc1 c_u0 f_u0 c_u1 f_u1 c_u2 f_u2 c_r0 f_r0 c_r1 f_r1 c_r2 f_r2 c_r3 f_r3 c_r4 f_r4 c_r5 f_r5 c_v0 f_v0 c_v1 f_v1 c_v2 f_v2 hz
 refine RW.begin (Z:=[⟨5,8,#[.bool false,.slice none 0 0,.slice none 0 0],26⟩]) (S:=(fun W=>Cb W (g_sc) #[.bool (ng sc.num),.slice A23 n23 c23] 24∧Cb W (w2.heap.size) #[.bool (ng un.num),.slice A20 n20 c20,.slice D20 m20 d20] 26)) (by kernel_rfl) ?_ S.out ?_
 ·exact⟨by kernel_rfl,(zis_cons at5 (fun _ _=>by kernel_rfl) zis_nil),by decide,by decide,(nol_cons (noL3 _ _ _ _ _ _ _) nol_nil),(fun _ _ h=>⟨h.kb 0 rfl,h.kb 1 rfl⟩)⟩
 intro hzk
 clear S
 refine RW.t (i:=0) (v:=.agg #[.bool (ng sc.num),.slice A23 n23 c23]) (some 30) at0 (hy:=fun W hS=>by (have k0:=Cb.cell (i:=0) hS.1 rfl;have k1:=Cb.cell (i:=1) hS.1 rfl;clear hS;go_simp)) (h:=?_)
 refine RW.t (i:=1) (v:=.agg #[.bool (ng sc.num),.slice A23 n23 c23,.slice none 0 0]) (some 31) at1 (hy:=fun _ _=>by kernel_rfl) (h:=?_)
 refine RW.t (i:=3) (v:=.agg #[.bool (ng un.num),.slice A20 n20 c20,.slice D20 m20 d20]) (some 33) at3 (hy:=fun W hS=>by (have k0:=Cb.cell (i:=0) hS.2 rfl;have k1:=Cb.cell (i:=1) hS.2 rfl;have k2:=Cb.cell (i:=2) hS.2 rfl;clear hS;go_simp)) (h:=?_)
 refine RW.c (i:=2) (args:=#[.agg #[.bool (ng sc.num),.slice A23 n23 c23,.slice none 0 0]]) (some 32) hzk.out at2 (hx:=fun _=>by kernel_rfl) (h:=fun _ S=>(hW.out _ _ _ _ _ _ _ ⟨S.r 1 rfl,S.r 0 rfl⟩).mono ?_)
 rintro e w9 ⟨A24,n24,c24,D24,m24,d24,rfl,Q24,bb⟩
 refine⟨bb,_,[(D24,m24,d24,dn ro),(A24,n24,c24,limbs ro.num.natAbs)],rfl,(rd_cons Q24.d (rd_cons Q24.n rd_nil)),?_⟩
 clear bb S Q24
 refine RW.c (i:=4) (args:=#[.agg #[.bool (ng ro.num),.slice A24 n24 c24,.slice D24 m24 d24],.agg #[.bool (ng un.num),.slice A20 n20 c20,.slice D20 m20 d20]]) (some 34) hzk.out at4 (hx:=fun _=>by kernel_rfl) (h:=fun _ S=>(hM2.out _ _ _ _ _ _ _ _ _ _ _ _ _ ⟨S.r 1 rfl,S.r 0 rfl⟩ ⟨S.r 9 rfl,S.r 8 rfl⟩).mono ?_)
 rintro e w10 ⟨A25,n25,c25,D25,m25,d25,rfl,Q25,bb⟩
 refine⟨bb,_,[(D25,m25,d25,dn lo),(A25,n25,c25,limbs lo.num.natAbs)],rfl,(rd_cons Q25.d (rd_cons Q25.n rd_nil)),?_⟩
 clear bb S Q25
 refine RW.tail hzk.out (by kernel_rfl) ?_
 intro gs w11 hgs hS S
 obtain⟨g_lo,rfl⟩:=len1' hgs
 clear hS hgs hzk
 simp only[mark,fill,List.map,Act.put,List.setIfInBounds_toArray,List.set_cons_zero,List.set_cons_succ]
 replace S:=Lib.hid S
 refine Wk.o (i:=6) at6 (by kernel_rfl) fun K' hK=>?_
 have q6_lo0:=St.cl (S.out) 0 0 rfl rfl
 have q6_lo1:=St.cl (S.out) 0 1 rfl rfl
 have q6_lo2:=St.cl (S.out) 0 2 rfl rfl
 have q6z_lo0:=St.f (S.out) 0 0 rfl
 have q6z_lo1:=St.f (S.out) 0 1 rfl
 have q6z_lo2:=St.f (S.out) 0 2 rfl
 go_simp
 have SN:=(((S.out.set 0 0 (.bool (ng lo.num)) rfl (by nofun)).set 0 1 (.slice A25 n25 c25) rfl (by nofun)).set 0 2 (.slice D25 m25 d25) rfl (by nofun))
 clear S q6_lo0 q6_lo1 q6_lo2 q6z_lo0 q6z_lo1 q6z_lo2
 have S:=SN
 clear SN
 refine hK.out _ _ ⟨(S.cb 1 rfl),(S.cb 2 rfl)⟩ ?_
 clear hK K'
 replace S:=Lib.hid S
 try simp only[Act.put,List.setIfInBounds_toArray,List.set_cons_zero,List.set_cons_succ]
 refine Wk.done (by kernel_rfl) ?_
 go_simp
 replace S:=S.out
 have S:St w _ [(g_lo,#[.bool (ng lo.num),.slice A25 n25 c25,.slice D25 m25 d25],26),(g_sc,#[.bool (ng sc.num),.slice A23 n23 c23],24),(w2.heap.size,#[.bool (ng un.num),.slice A20 n20 c20,.slice D20 m20 d20],26),(w.heap.size+1,#[.bool false,.slice none 0 0,.slice none 0 0,.bool false,.slice none 0 0,.slice none 0 0],28),(w.heap.size,#[.bool b1,.slice A1 n1 c1,.slice D1 m1 d1],26)] [(D25,m25,d25,dn lo),(A25,n25,c25,limbs lo.num.natAbs),(D24,m24,d24,dn ro),(A24,n24,c24,limbs ro.num.natAbs),(none,0,0,dn sc),(A23,n23,c23,limbs sc.num.natAbs),(D22,m22,d22,dn pr),(A22,n22,c22,limbs pr.num.natAbs),(D21,m21,d21,dn fo),(A21,n21,c21,limbs fo.num.natAbs),(D20,m20,d20,dn un),(A20,n20,c20,limbs un.num.natAbs),(D1,m1,d1,y1),(A1,n1,c1,x1)]:=S
 generalize hW12:(World.setCell (World.setCell (World.setCell w11 ⟨g_lo,0,none⟩ (.bool (ng lo.num))) ⟨g_lo,1,none⟩ (.slice A25 n25 c25)) ⟨g_lo,2,none⟩ (.slice D25 m25 d25))=w12 at S ⊢
 clear hW12
 replace S:=Lib.hid S
 replace S:=S.out
 obtain⟨c_lo0,c_lo1,c_lo2,f_lo0,f_lo1,f_lo2⟩:=S.cf3 0 rfl
 obtain⟨c_sc0,c_sc1,f_sc0,f_sc1⟩:=S.cf2 1 rfl
 obtain⟨c_u0,c_u1,c_u2,f_u0,f_u1,f_u2⟩:=S.cf3 2 rfl
 obtain⟨c_r0,c_r1,c_r2,c_r3,c_r4,c_r5,f_r0,f_r1,f_r2,f_r3,f_r4,f_r5⟩:=S.cf6 3 rfl
 obtain⟨c_v0,c_v1,c_v2,f_v0,f_v1,f_v2⟩:=S.cf3 4 rfl
 have hz:g_lo<w12.heap.size:=S.lt 0 rfl
 replace S:=Lib.hid S
 clear hW hM2
 go_upto_region 6 with fail
 clear c_lo0 f_lo0 c_lo1 f_lo1 c_lo2 f_lo2 c_sc0 f_sc0 c_sc1 f_sc1 c_u0 f_u0 c_u1 f_u1 c_u2 f_u2 c_r0 f_r0 c_r1 f_r1 c_r2 f_r2 c_r3 f_r3 c_r4 f_r4 c_r5 f_r5 c_v0 f_v0 c_v1 f_v1 c_v2 f_v2 hz
 refine RW.begin (Z:=[]) (S:=(fun W=>Cb W (g_lo) #[.bool (ng lo.num),.slice A25 n25 c25,.slice D25 m25 d25] 26∧Cb W (w.heap.size) #[.bool b1,.slice A1 n1 c1,.slice D1 m1 d1] 26)) (by kernel_rfl) ?_ S.out ?_
 ·exact⟨by kernel_rfl,zis_nil,by decide,by decide,nol_nil,(fun _ _ h=>⟨h.kb 0 rfl,h.kb 4 rfl⟩)⟩
 intro hzk
 clear S
 refine RW.t (i:=0) (v:=.agg #[.bool (ng lo.num),.slice A25 n25 c25,.slice D25 m25 d25]) (some 35) at0 (hy:=fun W hS=>by (have k0:=Cb.cell (i:=0) hS.1 rfl;have k1:=Cb.cell (i:=1) hS.1 rfl;have k2:=Cb.cell (i:=2) hS.1 rfl;clear hS;go_simp)) (h:=?_)
 refine RW.t (i:=1) (v:=.agg #[.bool (ng lo.num),.slice A25 n25 c25,.slice D25 m25 d25]) (some 36) at1 (hy:=fun W hS=>by (have k0:=Cb.cell (i:=0) hS.1 rfl;have k1:=Cb.cell (i:=1) hS.1 rfl;have k2:=Cb.cell (i:=2) hS.1 rfl;clear hS;go_simp)) (h:=?_)
 refine RW.t (i:=3) (v:=.agg #[.bool b1,.slice A1 n1 c1,.slice D1 m1 d1]) (some 38) at3 (hy:=fun W hS=>by (have k0:=Cb.cell (i:=0) hS.2 rfl;have k1:=Cb.cell (i:=1) hS.2 rfl;have k2:=Cb.cell (i:=2) hS.2 rfl;clear hS;go_simp)) (h:=?_)
 refine RW.c (i:=2) (args:=#[.agg #[.bool (ng lo.num),.slice A25 n25 c25,.slice D25 m25 d25],.agg #[.bool (ng lo.num),.slice A25 n25 c25,.slice D25 m25 d25]]) (some 37) hzk.out at2 (hx:=fun _=>by kernel_rfl) (h:=fun _ S=>(hM3.out _ _ _ _ _ _ _ _ _ _ _ _ _ ⟨S.r 1 rfl,S.r 0 rfl⟩ ⟨S.r 1 rfl,S.r 0 rfl⟩).mono ?_)
 rintro e w13 ⟨A26,n26,c26,D26,m26,d26,rfl,Q26,bb⟩
 refine⟨bb,_,[(D26,m26,d26,dn ll),(A26,n26,c26,limbs ll.num.natAbs)],rfl,(rd_cons Q26.d (rd_cons Q26.n rd_nil)),?_⟩
 clear bb S Q26
 refine RW.c (i:=4) (args:=#[.agg #[.bool (ng ll.num),.slice A26 n26 c26,.slice D26 m26 d26],.agg #[.bool b1,.slice A1 n1 c1,.slice D1 m1 d1]]) (some 39) hzk.out at4 (hx:=fun _=>by kernel_rfl) (h:=fun _ S=>(hC.out _ _ _ _ _ _ _ ⟨S.r 1 rfl,S.r 0 rfl⟩ (Rw.of (S.r 15 rfl) (S.r 14 rfl) k1.out)).mono ?_)
 rintro e w14 ⟨rfl,bb⟩
 refine⟨bb,_,[],rfl,rd_nil,?_⟩
 clear bb S
 refine RW.t (i:=5) (v:=.bool false) (some 40) at5 (hy:=fun _ _=>by go_simp) (h:=?_)
 refine RW.tail hzk.out (by kernel_rfl) ?_
 intro gs w15 hgs hS S
 obtain rfl:=len0 hgs
 clear hS hgs hzk
 simp only[mark,fill,Act.put,List.setIfInBounds_toArray,List.set_cons_zero,List.set_cons_succ]
 replace S:=Lib.hid S
 refine Wk.done (by kernel_rfl) ?_
 go_simp
 replace S:=S.out
 have S:St w _ [(g_lo,#[.bool (ng lo.num),.slice A25 n25 c25,.slice D25 m25 d25],26),(g_sc,#[.bool (ng sc.num),.slice A23 n23 c23],24),(w2.heap.size,#[.bool (ng un.num),.slice A20 n20 c20,.slice D20 m20 d20],26),(w.heap.size+1,#[.bool false,.slice none 0 0,.slice none 0 0,.bool false,.slice none 0 0,.slice none 0 0],28),(w.heap.size,#[.bool b1,.slice A1 n1 c1,.slice D1 m1 d1],26)] [(D26,m26,d26,dn ll),(A26,n26,c26,limbs ll.num.natAbs),(D25,m25,d25,dn lo),(A25,n25,c25,limbs lo.num.natAbs),(D24,m24,d24,dn ro),(A24,n24,c24,limbs ro.num.natAbs),(none,0,0,dn sc),(A23,n23,c23,limbs sc.num.natAbs),(D22,m22,d22,dn pr),(A22,n22,c22,limbs pr.num.natAbs),(D21,m21,d21,dn fo),(A21,n21,c21,limbs fo.num.natAbs),(D20,m20,d20,dn un),(A20,n20,c20,limbs un.num.natAbs),(D1,m1,d1,y1),(A1,n1,c1,x1)]:=S
 replace S:=Lib.hid S
 replace S:=S.out
 obtain⟨c_lo0,c_lo1,c_lo2,f_lo0,f_lo1,f_lo2⟩:=S.cf3 0 rfl
 obtain⟨c_sc0,c_sc1,f_sc0,f_sc1⟩:=S.cf2 1 rfl
 obtain⟨c_u0,c_u1,c_u2,f_u0,f_u1,f_u2⟩:=S.cf3 2 rfl
 obtain⟨c_r0,c_r1,c_r2,c_r3,c_r4,c_r5,f_r0,f_r1,f_r2,f_r3,f_r4,f_r5⟩:=S.cf6 3 rfl
 obtain⟨c_v0,c_v1,c_v2,f_v0,f_v1,f_v2⟩:=S.cf3 4 rfl
 have hz:g_lo<w15.heap.size:=S.lt 0 rfl
 replace S:=Lib.hid S
 clear hM3 hC
 go_upto_region 8 with fail
 clear c_lo0 f_lo0 c_lo1 f_lo1 c_lo2 f_lo2 c_sc0 f_sc0 c_sc1 f_sc1 c_u0 f_u0 c_u1 f_u1 c_u2 f_u2 c_r0 f_r0 c_r1 f_r1 c_r2 f_r2 c_r3 f_r3 c_r4 f_r4 c_r5 f_r5 c_v0 f_v0 c_v1 f_v1 c_v2 f_v2 hz
 refine RW.begin (Z:=[]) (S:=(fun W=>Cb W (g_lo) #[.bool (ng lo.num),.slice A25 n25 c25,.slice D25 m25 d25] 26∧Cb W (w2.heap.size) #[.bool (ng un.num),.slice A20 n20 c20,.slice D20 m20 d20] 26)) (by kernel_rfl) ?_ S.out ?_
 ·exact⟨by kernel_rfl,zis_nil,by decide,by decide,nol_nil,(fun _ _ h=>⟨h.kb 0 rfl,h.kb 2 rfl⟩)⟩
 intro hzk
 clear S
 refine RW.t (i:=0) (v:=.agg #[.bool (ng lo.num),.slice A25 n25 c25,.slice D25 m25 d25]) (some 44) at0 (hy:=fun W hS=>by (have k0:=Cb.cell (i:=0) hS.1 rfl;have k1:=Cb.cell (i:=1) hS.1 rfl;have k2:=Cb.cell (i:=2) hS.1 rfl;clear hS;go_simp)) (h:=?_)
 refine RW.t (i:=1) (v:=.agg #[.bool (ng lo.num),.slice A25 n25 c25,.slice D25 m25 d25]) (some 45) at1 (hy:=fun W hS=>by (have k0:=Cb.cell (i:=0) hS.1 rfl;have k1:=Cb.cell (i:=1) hS.1 rfl;have k2:=Cb.cell (i:=2) hS.1 rfl;clear hS;go_simp)) (h:=?_)
 refine RW.t (i:=2) (v:=.agg #[.bool (ng un.num),.slice A20 n20 c20,.slice D20 m20 d20]) (some 46) at2 (hy:=fun W hS=>by (have k0:=Cb.cell (i:=0) hS.2 rfl;have k1:=Cb.cell (i:=1) hS.2 rfl;have k2:=Cb.cell (i:=2) hS.2 rfl;clear hS;go_simp)) (h:=?_)
 refine RW.c (i:=3) (args:=#[.agg #[.bool (ng lo.num),.slice A25 n25 c25,.slice D25 m25 d25],.agg #[.bool (ng un.num),.slice A20 n20 c20,.slice D20 m20 d20]]) (some 47) hzk.out at3 (hx:=fun _=>by kernel_rfl) (h:=fun _ S=>(hA.out _ _ _ _ _ _ _ _ _ _ _ _ _ ⟨S.r 3 rfl,S.r 2 rfl⟩ ⟨S.r 13 rfl,S.r 12 rfl⟩).mono ?_)
 rintro e w16 ⟨A27,n27,c27,D27,m27,d27,rfl,Q27,bb⟩
 refine⟨bb,_,[(D27,m27,d27,dn hi),(A27,n27,c27,limbs hi.num.natAbs)],rfl,(rd_cons Q27.d (rd_cons Q27.n rd_nil)),?_⟩
 clear bb S Q27
 refine RW.t (i:=4) (v:=.agg #[.bool (ng lo.num),.slice A25 n25 c25,.slice D25 m25 d25,.bool (ng hi.num),.slice A27 n27 c27,.slice D27 m27 d27]) (some 48) at4 (hy:=fun _ _=>by kernel_rfl) (h:=?_)
 refine RW.tail hzk.out (by kernel_rfl) ?_
 intro gs w17 hgs hS S
 obtain rfl:=len0 hgs
 clear hS hgs hzk
 simp only[mark,fill,Act.put,List.setIfInBounds_toArray,List.set_cons_zero,List.set_cons_succ]
 replace S:=Lib.hid S
 refine Wk.o (i:=5) at5 (by kernel_rfl) fun K' hK=>?_
 have q5_r0:=St.cl (S.out) 3 0 rfl rfl
 have q5_r1:=St.cl (S.out) 3 1 rfl rfl
 have q5_r2:=St.cl (S.out) 3 2 rfl rfl
 have q5_r3:=St.cl (S.out) 3 3 rfl rfl
 have q5_r4:=St.cl (S.out) 3 4 rfl rfl
 have q5_r5:=St.cl (S.out) 3 5 rfl rfl
 have q5z_r0:=St.f (S.out) 3 0 rfl
 have q5z_r1:=St.f (S.out) 3 1 rfl
 have q5z_r2:=St.f (S.out) 3 2 rfl
 have q5z_r3:=St.f (S.out) 3 3 rfl
 have q5z_r4:=St.f (S.out) 3 4 rfl
 have q5z_r5:=St.f (S.out) 3 5 rfl
 go_simp
 have SN:=((((((S.out.set 3 0 (.bool (ng lo.num)) rfl (by nofun)).set 3 1 (.slice A25 n25 c25) rfl (by nofun)).set 3 2 (.slice D25 m25 d25) rfl (by nofun)).set 3 3 (.bool (ng hi.num)) rfl (by nofun)).set 3 4 (.slice A27 n27 c27) rfl (by nofun)).set 3 5 (.slice D27 m27 d27) rfl (by nofun))
 clear S q5_r0 q5_r1 q5_r2 q5_r3 q5_r4 q5_r5 q5z_r0 q5z_r1 q5z_r2 q5z_r3 q5z_r4 q5z_r5
 have S:=SN
 clear SN
 refine hK.out _ _ ⟨(S.cb 0 rfl),(S.cb 2 rfl)⟩ ?_
 clear hK K'
 replace S:=Lib.hid S
 try simp only[Act.put,List.setIfInBounds_toArray,List.set_cons_zero,List.set_cons_succ]
 refine Wk.o (i:=6) at6 (by kernel_rfl) fun K' hK=>?_
 go_simp
 have SN:=S.out
 clear S
 have S:=SN
 clear SN
 refine hK.out _ _ ⟨(S.cb 0 rfl),(S.cb 2 rfl)⟩ ?_
 clear hK K'
 replace S:=Lib.hid S
 try simp only[Act.put,List.setIfInBounds_toArray,List.set_cons_zero,List.set_cons_succ]
 refine Wk.done (by kernel_rfl) ?_
 go_simp
 replace S:=S.out
 have S:St w _ [(g_lo,#[.bool (ng lo.num),.slice A25 n25 c25,.slice D25 m25 d25],26),(g_sc,#[.bool (ng sc.num),.slice A23 n23 c23],24),(w2.heap.size,#[.bool (ng un.num),.slice A20 n20 c20,.slice D20 m20 d20],26),(w.heap.size+1,#[.bool (ng lo.num),.slice A25 n25 c25,.slice D25 m25 d25,.bool (ng hi.num),.slice A27 n27 c27,.slice D27 m27 d27],28),(w.heap.size,#[.bool b1,.slice A1 n1 c1,.slice D1 m1 d1],26)] [(D27,m27,d27,dn hi),(A27,n27,c27,limbs hi.num.natAbs),(D26,m26,d26,dn ll),(A26,n26,c26,limbs ll.num.natAbs),(D25,m25,d25,dn lo),(A25,n25,c25,limbs lo.num.natAbs),(D24,m24,d24,dn ro),(A24,n24,c24,limbs ro.num.natAbs),(none,0,0,dn sc),(A23,n23,c23,limbs sc.num.natAbs),(D22,m22,d22,dn pr),(A22,n22,c22,limbs pr.num.natAbs),(D21,m21,d21,dn fo),(A21,n21,c21,limbs fo.num.natAbs),(D20,m20,d20,dn un),(A20,n20,c20,limbs un.num.natAbs),(D1,m1,d1,y1),(A1,n1,c1,x1)]:=S
 generalize hW18:(World.setCell (World.setCell (World.setCell (World.setCell (World.setCell (World.setCell w17 ⟨w.heap.size+1,0,none⟩ (.bool (ng lo.num))) ⟨w.heap.size+1,1,none⟩ (.slice A25 n25 c25)) ⟨w.heap.size+1,2,none⟩ (.slice D25 m25 d25)) ⟨w.heap.size+1,3,none⟩ (.bool (ng hi.num))) ⟨w.heap.size+1,4,none⟩ (.slice A27 n27 c27)) ⟨w.heap.size+1,5,none⟩ (.slice D27 m27 d27))=w18 at S ⊢
 clear hW18
 replace S:=Lib.hid S
 replace S:=S.out
 obtain⟨c_lo0,c_lo1,c_lo2,f_lo0,f_lo1,f_lo2⟩:=S.cf3 0 rfl
 obtain⟨c_sc0,c_sc1,f_sc0,f_sc1⟩:=S.cf2 1 rfl
 obtain⟨c_u0,c_u1,c_u2,f_u0,f_u1,f_u2⟩:=S.cf3 2 rfl
 obtain⟨c_r0,c_r1,c_r2,c_r3,c_r4,c_r5,f_r0,f_r1,f_r2,f_r3,f_r4,f_r5⟩:=S.cf6 3 rfl
 obtain⟨c_v0,c_v1,c_v2,f_v0,f_v1,f_v2⟩:=S.cf3 4 rfl
 have hz:g_lo<w18.heap.size:=S.lt 0 rfl
 replace S:=Lib.hid S
 have S:=S.out
 replace S:=Lib.hid S
 go_wp2
 refine bodyPost_ret (res_root _ _ (w.heap.size+1) 28 rfl rfl (S.out.bk _ (List.mem_of_getElem? (i:=3) rfl)).1) rfl ?_
 exact⟨_,_,_,_,_,_,_,_,_,_,_,_,rfl,⟨S.out.r 5 rfl,S.out.r 4 rfl⟩,⟨S.out.r 1 rfl,S.out.r 0 rfl⟩,S.out.bel⟩
end Go.Proofs.YtphckmdnflbloaaGreat
