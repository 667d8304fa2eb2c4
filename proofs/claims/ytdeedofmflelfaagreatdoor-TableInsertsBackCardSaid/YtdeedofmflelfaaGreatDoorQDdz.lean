/- The reference: lists and cells that say the same. The reference: tables that say the same. A cell is copied. Select's cells. -/
import Derived.Test.YtdeedofmflelfaaGreatDoorQCaz
import Derived.Test.YtdeedofmflelfaaGreatDoorQBez
import Derived.Test.YtdeedofmflelfaaGreatDoorQBxz
namespace Go.Proofs.YtdeedofmflelfaaGreatDoor
open Go.RowKit RQ
set_option linter.unusedVariables false
set_option maxRecDepth 100000 in
set_option maxHeartbeats 4000000 in
theorem sameList_yes (L:List ByteArray) (A:Option Addr) (n c:Nat) (A':Option Addr) (c':Nat) (w:World) (h:LR strC w A n L) (h':LR strC w A' n L) (hn:n≤100000):Calls Tryz.prog 52 #[.slice A n c,.slice A' n c'] w fun e w'=>e=.returned (.bool (true))∧Below w.heap.size w w':=by
 have hb:=Lib.hid hn
 replace h:=Lib.hid h
 replace h':=Lib.hid h'
 clear hn
 go_enter Tryz.func52,Tryz.ntmps52
 go_wp2
 go_loopw [5] (fun iv wr=>∃ i:Nat,i≤n∧iv=.int .i64 i∧Below w.heap.size w wr) (fun iv _=>n-(intOf iv).toNat)
 case atStart=>exact⟨0,Nat.zero_le _,rfl,Below.refl _ _⟩
 case round=>
  obtain⟨i,hin,rfl,B⟩:=hrel
  by_cases hlt:i<n
  ·obtain⟨b,o,x,rfl,hx,_,e0⟩:=str_get (h.out.bel B) hlt
   obtain⟨b2,o2,y,rfl,hy,_,y0⟩:=str_get (h'.out.bel B) hlt
   obtain rfl:y=x:=by rw[hx] at hy;exact (Option.some.inj hy).symm
   have hih:=Lib.hid hlt
   have g1:(i:Int)<(n:Int):=by omega
   have g2:(0:Int)≤(i:Int):=by omega
   replace B:=Lib.hid B
   replace e0:=Lib.hid e0
   replace y0:=Lib.hid y0
   clear hlt hin hx hy
   go_upto_region 6 with fail
   have hbase:=Lib.hid (St.new wr)
   refine RW.begin (Z:=[]) (S:=(fun W=>Below wr.heap.size wr W)) (by kernel_rfl) ?_ hbase.out ?_
   ·exact⟨by kernel_rfl,zis_nil,by decide,by decide,nol_nil,(fun _ _ h=>h.bel)⟩
   intro hzk
   refine RW.t (i:=0) (v:=.slice (some ⟨b,o,none⟩) n c) (some 17) at0 (hy:=fun _ _=>by kernel_rfl) (h:=?_)
   refine RW.t (i:=1) (v:=.int .i64 i) (some 18) at1 (hy:=fun _ _=>by kernel_rfl) (h:=?_)
   refine RW.t (i:=2) (v:=.pointer (some ⟨b,o+i,none⟩)) (some 19) at2 (hy:=fun _ _=>by go_simp) (h:=?_)
   refine RW.t (i:=3) (v:=.string y) (some 20) at3 (hy:=fun W hS=>by (have k0:=bel_cell hS e0.out;clear hS;go_simp)) (h:=?_)
   refine RW.t (i:=4) (v:=.slice (some ⟨b2,o2,none⟩) n c') (some 21) at4 (hy:=fun _ _=>by kernel_rfl) (h:=?_)
   refine RW.t (i:=5) (v:=.int .i64 i) (some 22) at5 (hy:=fun _ _=>by kernel_rfl) (h:=?_)
   refine RW.t (i:=6) (v:=.pointer (some ⟨b2,o2+i,none⟩)) (some 23) at6 (hy:=fun _ _=>by go_simp) (h:=?_)
   refine RW.t (i:=7) (v:=.string y) (some 24) at7 (hy:=fun W hS=>by (have k0:=bel_cell hS y0.out;clear hS;go_simp)) (h:=?_)
   refine RW.t (i:=8) (v:=.bool false) (some 25) at8 (hy:=fun _ _=>by go_simp) (h:=?_)
   refine RW.tail hzk.out (by kernel_rfl) ?_
   intro gs' w5 hgs' hS Sb
   obtain rfl:=len0 hgs'
   simp only[mark,fill,Act.put,List.setIfInBounds_toArray,List.set_cons_zero,List.set_cons_succ]
   refine Wk.done (by kernel_rfl) ?_
   have T:=Lib.hid (B.out.trans (hS.mono B.out.size))
   clear Sb hgs' hzk hbase hS B
   try go_simp
   have hlt:=hih.out
   have hbb:=hb.out
   go_wp2
   go_roundw
   case rel=>exact⟨i+1,by omega,by go_num,T.out⟩
   case measure=>simp[intOf];omega
  ·obtain rfl:n=i:=by omega
   replace B:=Lib.hid B
   clear hin hlt
   go_wp2
   go_ret
   exact⟨rfl,B.out⟩
theorem cx_parts {x y:Ce} (h:x.cx=y.cx):x.m=y.m∧x.v.b=y.v.b∧x.v.x.x=y.v.x.x∧x.v.y.x=y.v.y.x∧x.l=y.l:=
 ⟨congrArg (fun z=>z.1) h,congrArg (fun z=>z.2.1) h,congrArg (fun z=>z.2.2.1) h,congrArg (fun z=>z.2.2.2.1) h,congrArg (fun z=>z.2.2.2.2) h⟩
set_option maxRecDepth 100000 in
set_option maxHeartbeats 4000000 in
theorem sameCells_yes (L L':List Ce) (A:Option Addr) (n c:Nat) (A':Option Addr) (c':Nat) (w:World) (h:LR ceC w A n L) (h':LR ceC w A' n L') (he:L.map Ce.cx=L'.map Ce.cx) (hn:n≤100000) (hl:∀ y∈L,LtC y) (hl':∀ y∈L',LtC y):Calls Tryz.prog 34 #[.slice A n c,.slice A' n c'] w fun e w'=>e=.returned (.bool (true))∧Below w.heap.size w w':=by
 have hb:=Lib.hid hn
 replace h:=Lib.hid h
 replace h':=Lib.hid h'
 replace he:=Lib.hid he
 replace hl:=Lib.hid hl
 replace hl':=Lib.hid hl'
 clear hn
 go_enter Tryz.func34,Tryz.ntmps34
 go_wp2
 go_loopw [5] (fun iv wr=>∃ i:Nat,i≤n∧iv=.int .i64 i∧Below w.heap.size w wr) (fun iv _=>n-(intOf iv).toNat)
 case atStart=>exact⟨0,Nat.zero_le _,rfl,Below.refl _ _⟩
 case round=>
  obtain⟨i,hin,rfl,B⟩:=hrel
  by_cases hlt:i<n
  ·obtain⟨b,o,x,rfl,hx,hxm,hxa,e0,e1,e2,e3,e4⟩:=ce_get (h.out.bel B) hlt
   obtain⟨b2,o2,y,rfl,hy,hym,hya,y0,y1,y2,y3,y4⟩:=ce_get (h'.out.bel B) hlt
   have hxy:x.cx=y.cx:=by
    have h1:(L.map Ce.cx)[i]?=some x.cx:=by rw[List.getElem?_map,hx];rfl
    have h2:(L'.map Ce.cx)[i]?=some y.cx:=by rw[List.getElem?_map,hy];rfl
    rw[he.out,h2] at h1
    exact (Option.some.inj h1).symm
   obtain⟨p1,p2,p3,p4,p5⟩:=cx_parts hxy
   rw[←p1] at y0
   rw[←p2] at y1
   rw[←p5] at y4
   have hX:Hid (∀ W,Below wr.heap.size wr W→Calls Tryz.prog 27 #[.agg #[.bool x.v.b,.slice x.v.x.A x.v.x.n x.v.x.c,.slice x.v.y.A x.v.y.n x.v.y.c],.agg #[.bool x.v.b,.slice y.v.x.A y.v.x.n y.v.x.c,.slice y.v.y.A y.v.y.n y.v.y.c]] W fun e w'=>e=.returned (.bool true)∧Below W.heap.size W w'):=Lib.hid fun W hW=>by
    have:=sameR x.v.b x.v.x.A x.v.x.n x.v.x.c x.v.x.x x.v.y.A x.v.y.n x.v.y.c x.v.y.x x.v.b y.v.x.A y.v.x.n y.v.x.c y.v.x.x y.v.y.A y.v.y.n y.v.y.c y.v.y.x W (hxa.1.below hW) (hxa.2.below hW) (hya.1.below hW) (hya.2.below hW) (hl.out x hxm).1 (hl.out x hxm).2 (hl'.out y hym).1 (hl'.out y hym).2
    rwa [p3,p4,decide_eq_true rfl,decide_eq_true rfl,decide_eq_true rfl] at this
   have hih:=Lib.hid hlt
   have g1:(i:Int)<(n:Int):=by omega
   have g2:(0:Int)≤(i:Int):=by omega
   replace B:=Lib.hid B
   replace e0:=Lib.hid e0
   replace e1:=Lib.hid e1
   replace e2:=Lib.hid e2
   replace e3:=Lib.hid e3
   replace e4:=Lib.hid e4
   replace y0:=Lib.hid y0
   replace y1:=Lib.hid y1
   replace y2:=Lib.hid y2
   replace y3:=Lib.hid y3
   replace y4:=Lib.hid y4
   clear hlt hin hx hy hxm hym hxa hya hxy p1 p2 p3 p4 p5
   go_upto_region 6 with fail
   have hbase:=Lib.hid (St.new wr)
   refine RW.begin (Z:=[]) (S:=(fun W=>Below wr.heap.size wr W)) (by kernel_rfl) ?_ hbase.out ?_
   ·exact⟨by kernel_rfl,zis_nil,by decide,by decide,nol_nil,(fun _ _ h=>h.bel)⟩
   intro hzk
   refine RW.t (i:=0) (v:=.slice (some ⟨b,o,none⟩) n c) (some 17) at0 (hy:=fun _ _=>by kernel_rfl) (h:=?_)
   refine RW.t (i:=1) (v:=.int .i64 i) (some 18) at1 (hy:=fun _ _=>by kernel_rfl) (h:=?_)
   refine RW.t (i:=2) (v:=.pointer (some ⟨b,o+i*5,none⟩)) (some 19) at2 (hy:=fun _ _=>by go_simp) (h:=?_)
   refine RW.t (i:=3) (v:=.pointer (some ⟨b,o+i*5,none⟩)) (some 20) at3 (hy:=fun _ _=>by go_simp) (h:=?_)
   refine RW.t (i:=4) (v:=.bool x.m) (some 21) at4 (hy:=fun W hS=>by (have k0:=bel_cell hS e0.out;clear hS;go_simp)) (h:=?_)
   refine RW.t (i:=5) (v:=.slice (some ⟨b2,o2,none⟩) n c') (some 22) at5 (hy:=fun _ _=>by kernel_rfl) (h:=?_)
   refine RW.t (i:=6) (v:=.int .i64 i) (some 23) at6 (hy:=fun _ _=>by kernel_rfl) (h:=?_)
   refine RW.t (i:=7) (v:=.pointer (some ⟨b2,o2+i*5,none⟩)) (some 24) at7 (hy:=fun _ _=>by go_simp) (h:=?_)
   refine RW.t (i:=8) (v:=.pointer (some ⟨b2,o2+i*5,none⟩)) (some 25) at8 (hy:=fun _ _=>by go_simp) (h:=?_)
   refine RW.t (i:=9) (v:=.bool x.m) (some 26) at9 (hy:=fun W hS=>by (have k0:=bel_cell hS y0.out;clear hS;go_simp)) (h:=?_)
   refine RW.t (i:=10) (v:=.bool false) (some 27) at10 (hy:=fun _ _=>by go_simp) (h:=?_)
   refine RW.t (i:=11) (v:=.bool false) (some 28) at11 (hy:=fun _ _=>by kernel_rfl) (h:=?_)
   refine RW.t (i:=12) (v:=.slice (some ⟨b,o,none⟩) n c) (some 29) at12 (hy:=fun _ _=>by kernel_rfl) (h:=?_)
   refine RW.t (i:=13) (v:=.int .i64 i) (some 30) at13 (hy:=fun _ _=>by kernel_rfl) (h:=?_)
   refine RW.t (i:=14) (v:=.pointer (some ⟨b,o+i*5,none⟩)) (some 31) at14 (hy:=fun _ _=>by go_simp) (h:=?_)
   refine RW.t (i:=15) (v:=.pointer (some ⟨b,o+i*5+4,none⟩)) (some 32) at15 (hy:=fun _ _=>by go_simp) (h:=?_)
   refine RW.t (i:=16) (v:=.int .i64 x.l) (some 33) at16 (hy:=fun W hS=>by (have k0:=bel_cell hS e4.out;clear hS;go_simp)) (h:=?_)
   refine RW.t (i:=17) (v:=.slice (some ⟨b2,o2,none⟩) n c') (some 34) at17 (hy:=fun _ _=>by kernel_rfl) (h:=?_)
   refine RW.t (i:=18) (v:=.int .i64 i) (some 35) at18 (hy:=fun _ _=>by kernel_rfl) (h:=?_)
   refine RW.t (i:=19) (v:=.pointer (some ⟨b2,o2+i*5,none⟩)) (some 36) at19 (hy:=fun _ _=>by go_simp) (h:=?_)
   refine RW.t (i:=20) (v:=.pointer (some ⟨b2,o2+i*5+4,none⟩)) (some 37) at20 (hy:=fun _ _=>by go_simp) (h:=?_)
   refine RW.t (i:=21) (v:=.int .i64 x.l) (some 38) at21 (hy:=fun W hS=>by (have k0:=bel_cell hS y4.out;clear hS;go_simp)) (h:=?_)
   refine RW.t (i:=22) (v:=.bool false) (some 39) at22 (hy:=fun _ _=>by go_simp) (h:=?_)
   refine RW.t (i:=23) (v:=.bool false) (some 40) at23 (hy:=fun _ _=>by kernel_rfl) (h:=?_)
   refine RW.t (i:=24) (v:=.bool false) (some 41) at24 (hy:=fun _ _=>by kernel_rfl) (h:=?_)
   refine RW.t (i:=25) (v:=.slice (some ⟨b,o,none⟩) n c) (some 42) at25 (hy:=fun _ _=>by kernel_rfl) (h:=?_)
   refine RW.t (i:=26) (v:=.int .i64 i) (some 43) at26 (hy:=fun _ _=>by kernel_rfl) (h:=?_)
   refine RW.t (i:=27) (v:=.pointer (some ⟨b,o+i*5,none⟩)) (some 44) at27 (hy:=fun _ _=>by go_simp) (h:=?_)
   refine RW.t (i:=28) (v:=.pointer (some ⟨b,o+i*5+1,none⟩)) (some 45) at28 (hy:=fun _ _=>by go_simp) (h:=?_)
   refine RW.t (i:=29) (v:=.agg #[.bool x.v.b,.slice x.v.x.A x.v.x.n x.v.x.c,.slice x.v.y.A x.v.y.n x.v.y.c]) (some 46) at29 (hy:=fun W hS=>by (have k0:=bel_cell hS e1.out;have k1:=bel_cell hS e2.out;have k2:=bel_cell hS e3.out;clear hS;go_simp)) (h:=?_)
   refine RW.t (i:=30) (v:=.slice (some ⟨b2,o2,none⟩) n c') (some 47) at30 (hy:=fun _ _=>by kernel_rfl) (h:=?_)
   refine RW.t (i:=31) (v:=.int .i64 i) (some 48) at31 (hy:=fun _ _=>by kernel_rfl) (h:=?_)
   refine RW.t (i:=32) (v:=.pointer (some ⟨b2,o2+i*5,none⟩)) (some 49) at32 (hy:=fun _ _=>by go_simp) (h:=?_)
   refine RW.t (i:=33) (v:=.pointer (some ⟨b2,o2+i*5+1,none⟩)) (some 50) at33 (hy:=fun _ _=>by go_simp) (h:=?_)
   refine RW.t (i:=34) (v:=.agg #[.bool x.v.b,.slice y.v.x.A y.v.x.n y.v.x.c,.slice y.v.y.A y.v.y.n y.v.y.c]) (some 51) at34 (hy:=fun W hS=>by (have k0:=bel_cell hS y1.out;have k1:=bel_cell hS y2.out;have k2:=bel_cell hS y3.out;clear hS;go_simp)) (h:=?_)
   refine RW.c (i:=35) (args:=#[.agg #[.bool x.v.b,.slice x.v.x.A x.v.x.n x.v.x.c,.slice x.v.y.A x.v.y.n x.v.y.c],.agg #[.bool x.v.b,.slice y.v.x.A y.v.x.n y.v.x.c,.slice y.v.y.A y.v.y.n y.v.y.c]]) (some 52) hzk.out at35 (hx:=fun _=>by kernel_rfl) (h:=fun W S=>(hX.out W (by have:=S.bel;exact this)).mono ?_)
   rintro e w7 ⟨rfl,bb⟩
   refine⟨bb,_,[],rfl,rd_nil,?_⟩
   clear S bb
   refine RW.t (i:=36) (v:=.bool false) (some 53) at36 (hy:=fun _ _=>by kernel_rfl) (h:=?_)
   refine RW.t (i:=37) (v:=.bool false) (some 54) at37 (hy:=fun _ _=>by kernel_rfl) (h:=?_)
   refine RW.tail hzk.out (by kernel_rfl) ?_
   intro gs' w5 hgs' hS Sb
   obtain rfl:=len0 hgs'
   simp only[mark,fill,Act.put,List.setIfInBounds_toArray,List.set_cons_zero,List.set_cons_succ]
   refine Wk.done (by kernel_rfl) ?_
   have T:=Lib.hid (B.out.trans (hS.mono B.out.size))
   clear Sb hgs' hzk hbase hS B
   try go_simp
   have hlt:=hih.out
   have hbb:=hb.out
   go_wp2
   go_roundw
   case rel=>exact⟨i+1,by omega,by go_num,T.out⟩
   case measure=>simp[intOf];omega
  ·obtain rfl:n=i:=by omega
   replace B:=Lib.hid B
   clear hin hlt
   go_wp2
   go_ret
   exact⟨rfl,B.out⟩
end Go.Proofs.YtdeedofmflelfaaGreatDoor

namespace Go.Proofs.YtdeedofmflelfaaGreatDoor
open Go.RowKit RQ
set_option linter.unusedVariables false
theorem lx_parts {x y:Cl} (h:x.lx=y.lx):x.n=y.n∧x.k=y.k∧x.lv.L=y.lv.L∧x.ce.L.map Ce.cx=y.ce.L.map Ce.cx:=
 ⟨congrArg Lx.n h,congrArg Lx.k h,congrArg Lx.lv h,congrArg Lx.ce h⟩
set_option maxRecDepth 100000 in
set_option maxHeartbeats 4000000 in
/-- Tables that say the same are the same. -/
theorem same_yes (R:Int) (TA:Option Addr) (tn tc:Nat) (L:List Cl) (UA:Option Addr) (uc:Nat) (L':List Cl) (w:World) (h:LR clC w TA tn L) (h':LR clC w UA tn L') (he:L.map Cl.lx=L'.map Cl.lx) (hn:tn≤1000) (hl:∀ x∈L,LtL x) (hl':∀ x∈L',LtL x):Calls Tryz.prog 21 #[.agg #[.int .i64 R,.slice TA tn tc],.agg #[.int .i64 R,.slice UA tn uc]] w fun e w'=>e=.returned (.bool (true))∧Below w.heap.size w w':=by
 have hb:=Lib.hid hn
 have hT:=Lib.hid h
 have hU:=Lib.hid h'
 replace he:=Lib.hid he
 replace hl:=Lib.hid hl
 replace hl':=Lib.hid hl'
 clear hn h h'
 have S:=(((St.new w).allocAt (w.heap.size) #[.int .i64 R,.slice TA tn tc] 37 (noLof rfl) (by simp)).allocAt (w.heap.size+1) #[.int .i64 R,.slice UA tn uc] 37 (noLof rfl) (by simp))
 replace S:=Lib.hid S
 go_enter Tryz.func21,Tryz.ntmps21
 go_wp2
 replace S:=Lib.hid S.out
 go_loopw [5] (fun iv wr=>∃ i:Nat,i≤tn∧iv=.int .i64 i∧St w wr [(w.heap.size+1,#[.int .i64 R,.slice UA tn uc],37),(w.heap.size,#[.int .i64 R,.slice TA tn tc],37)] []) (fun iv _=>tn-(intOf iv).toNat)
 case atStart=>exact⟨0,Nat.zero_le _,rfl,S.out⟩
 case round=>
  clear S
  obtain⟨i,hin,rfl,S⟩:=hrel
  obtain⟨c_0,c_1,f_0,f_1⟩:=S.cf2 0 rfl
  obtain⟨d_0,d_1,d0_0,d0_1⟩:=S.cf2 1 rfl
  have hz:w.heap.size+1<wr.heap.size:=S.lt 0 rfl
  replace S:=Lib.hid S
  by_cases hlt:i<tn
  ·obtain⟨tb,tq,x,rfl,hx,hxm,_,e0,e1,e2,e3⟩:=cl_get hT.out hlt
   obtain⟨ub,uq,y,rfl,hy,hym,_,y0,y1,y2,y3⟩:=cl_get hU.out hlt
   have hxy:x.lx=y.lx:=by
    have h1:(L.map Cl.lx)[i]?=some x.lx:=by rw[List.getElem?_map,hx];rfl
    have h2:(L'.map Cl.lx)[i]?=some y.lx:=by rw[List.getElem?_map,hy];rfl
    rw[he.out,h2] at h1
    exact (Option.some.inj h1).symm
   obtain⟨p1,p2,p3,p4⟩:=lx_parts hxy
   have p5:x.ce.L.length=y.ce.L.length:=by have:=congrArg List.length p4;rwa [List.length_map,List.length_map] at this
   rw[←p1] at y0
   rw[←p2] at y1
   rw[←p3] at y2
   rw[←p5] at y3
   have hSL:Hid (∀ W,Below w.heap.size w W→Calls Tryz.prog 52 #[.slice x.lv.A x.lv.L.length x.lv.c,.slice y.lv.A x.lv.L.length y.lv.c] W fun e w'=>e=.returned (.bool (true))∧Below W.heap.size W w'):=Lib.hid fun W hW=>sameList_yes x.lv.L _ _ _ _ _ W (cl_at.1 ((hT.out.bel hW).el x hxm)).1.1 (by rw[p3];exact (cl_at.1 ((hU.out.bel hW).el y hym)).1.1) (by have:=(hl.out x hxm).2.1;omega)
   have hSC:Hid (∀ W,Below w.heap.size w W→Calls Tryz.prog 34 #[.slice x.ce.A x.ce.L.length x.ce.c,.slice y.ce.A x.ce.L.length y.ce.c] W fun e w'=>e=.returned (.bool (true))∧Below W.heap.size W w'):=Lib.hid fun W hW=>sameCells_yes x.ce.L y.ce.L _ _ _ _ _ W (cl_at.1 ((hT.out.bel hW).el x hxm)).2.1 (by rw[p5];exact (cl_at.1 ((hU.out.bel hW).el y hym)).2.1) p4 (by have:=(hl.out x hxm).2.2.2.1;omega) (hl.out x hxm).2.2.2.2 (hl'.out y hym).2.2.2.2
   have hih:=Lib.hid hlt
   have g1:(i:Int)<(tn:Int):=by omega
   have g2:(0:Int)≤(i:Int):=by omega
   replace e0:=Lib.hid e0
   replace e1:=Lib.hid e1
   replace e2:=Lib.hid e2
   replace e3:=Lib.hid e3
   replace y0:=Lib.hid y0
   replace y1:=Lib.hid y1
   replace y2:=Lib.hid y2
   replace y3:=Lib.hid y3
   clear hlt hin hx hy hxm hym hxy p1 p2 p3 p4 p5
   go_upto_region 6 with fail
   clear c_0 f_0 c_1 f_1 d_0 d0_0 d_1 d0_1 hz
   refine RW.begin (Z:=[⟨10,6,#[.string ByteArray.empty,.int .i64 0,.slice none 0 0,.slice none 0 0],56⟩,⟨11,7,#[.string ByteArray.empty,.int .i64 0,.slice none 0 0,.slice none 0 0],56⟩]) (S:=(fun W=>Cb W w.heap.size #[.int .i64 R,.slice (some ⟨tb,tq,none⟩) tn tc] 37∧Cb W (w.heap.size+1) #[.int .i64 R,.slice (some ⟨ub,uq,none⟩) tn uc] 37∧Below w.heap.size w W)) (by kernel_rfl) ?_ S.out ?_
   ·exact⟨by kernel_rfl,(zis_cons at10 (fun _ _=>by kernel_rfl) (zis_cons at11 (fun _ _=>by kernel_rfl) zis_nil)),by decide,by decide,(nol_cons (noLof rfl) (nol_cons (noLof rfl) nol_nil)),(fun _ _ h=>⟨h.kb 1 rfl,h.kb 0 rfl,h.bel⟩)⟩
   intro hzk
   clear S
   refine RW.t (i:=0) (v:=.pointer (some ⟨w.heap.size,1,none⟩)) (some 29) at0 (hy:=fun _ _=>by kernel_rfl) (h:=?_)
   refine RW.t (i:=1) (v:=.slice (some ⟨tb,tq,none⟩) tn tc) (some 30) at1 (hy:=fun W hS=>by (have k0:=Cb.cell (i:=1) hS.1 rfl;clear hS;go_simp)) (h:=?_)
   refine RW.t (i:=2) (v:=.int .i64 i) (some 31) at2 (hy:=fun _ _=>by kernel_rfl) (h:=?_)
   refine RW.t (i:=3) (v:=.pointer (some ⟨tb,tq+i*4,none⟩)) (some 32) at3 (hy:=fun _ _=>by go_simp) (h:=?_)
   refine RW.t (i:=4) (v:=.agg #[.string x.n,.int .i64 x.k,.slice x.lv.A x.lv.L.length x.lv.c,.slice x.ce.A x.ce.L.length x.ce.c]) (some 33) at4 (hy:=fun W hS=>by (have k0:=bel_cell hS.2.2 e0.out;have k1:=bel_cell hS.2.2 e1.out;have k2:=bel_cell hS.2.2 e2.out;have k3:=bel_cell hS.2.2 e3.out;clear hS;go_simp)) (h:=?_)
   refine RW.t (i:=5) (v:=.pointer (some ⟨w.heap.size+1,1,none⟩)) (some 34) at5 (hy:=fun _ _=>by kernel_rfl) (h:=?_)
   refine RW.t (i:=6) (v:=.slice (some ⟨ub,uq,none⟩) tn uc) (some 35) at6 (hy:=fun W hS=>by (have k0:=Cb.cell (i:=1) hS.2.1 rfl;clear hS;go_simp)) (h:=?_)
   refine RW.t (i:=7) (v:=.int .i64 i) (some 36) at7 (hy:=fun _ _=>by kernel_rfl) (h:=?_)
   refine RW.t (i:=8) (v:=.pointer (some ⟨ub,uq+i*4,none⟩)) (some 37) at8 (hy:=fun _ _=>by go_simp) (h:=?_)
   refine RW.t (i:=9) (v:=.agg #[.string x.n,.int .i64 x.k,.slice y.lv.A x.lv.L.length y.lv.c,.slice y.ce.A x.ce.L.length y.ce.c]) (some 38) at9 (hy:=fun W hS=>by (have k0:=bel_cell hS.2.2 y0.out;have k1:=bel_cell hS.2.2 y1.out;have k2:=bel_cell hS.2.2 y2.out;have k3:=bel_cell hS.2.2 y3.out;clear hS;go_simp)) (h:=?_)
   refine RW.tail hzk.out (by kernel_rfl) ?_
   intro gs w5 hgs hS S
   obtain⟨g_x,g_y,rfl⟩:=len2 hgs
   clear hS hgs hzk
   simp only[mark,fill,List.map,Act.put,List.setIfInBounds_toArray,List.set_cons_zero,List.set_cons_succ]
   replace S:=Lib.hid S
   refine Wk.o (i:=12) at12 (by kernel_rfl) fun K' hK=>?_
   have q_0:=St.cl (S.out) 0 0 rfl rfl
   have z_0:=St.f (S.out) 0 0 rfl
   have q_1:=St.cl (S.out) 0 1 rfl rfl
   have z_1:=St.f (S.out) 0 1 rfl
   have q_2:=St.cl (S.out) 0 2 rfl rfl
   have z_2:=St.f (S.out) 0 2 rfl
   have q_3:=St.cl (S.out) 0 3 rfl rfl
   have z_3:=St.f (S.out) 0 3 rfl
   go_simp
   have SN:=((((S.out.set 0 0 (.string x.n) rfl (by nofun)).set 0 1 (.int .i64 x.k) rfl (by nofun)).set 0 2 (.slice x.lv.A x.lv.L.length x.lv.c) rfl (by nofun)).set 0 3 (.slice x.ce.A x.ce.L.length x.ce.c) rfl (by nofun))
   clear S q_0 q_1 q_2 q_3 z_0 z_1 z_2 z_3
   have S:=Lib.hid SN
   clear SN
   refine hK.out _ _ ⟨S.out.cb 3 rfl,S.out.cb 2 rfl,S.out.bel⟩ ?_
   clear hK K'
   try simp only[Act.put,List.setIfInBounds_toArray,List.set_cons_zero,List.set_cons_succ]
   refine Wk.o (i:=13) at13 (by kernel_rfl) fun K' hK=>?_
   have q_0:=St.cl (S.out) 1 0 rfl rfl
   have z_0:=St.f (S.out) 1 0 rfl
   have q_1:=St.cl (S.out) 1 1 rfl rfl
   have z_1:=St.f (S.out) 1 1 rfl
   have q_2:=St.cl (S.out) 1 2 rfl rfl
   have z_2:=St.f (S.out) 1 2 rfl
   have q_3:=St.cl (S.out) 1 3 rfl rfl
   have z_3:=St.f (S.out) 1 3 rfl
   go_simp
   have SN:=((((S.out.set 1 0 (.string x.n) rfl (by nofun)).set 1 1 (.int .i64 x.k) rfl (by nofun)).set 1 2 (.slice y.lv.A x.lv.L.length y.lv.c) rfl (by nofun)).set 1 3 (.slice y.ce.A x.ce.L.length y.ce.c) rfl (by nofun))
   clear S q_0 q_1 q_2 q_3 z_0 z_1 z_2 z_3
   have S:=Lib.hid SN
   clear SN
   refine hK.out _ _ ⟨S.out.cb 3 rfl,S.out.cb 2 rfl,S.out.bel⟩ ?_
   clear hK K'
   try simp only[Act.put,List.setIfInBounds_toArray,List.set_cons_zero,List.set_cons_succ]
   refine Wk.done (by kernel_rfl) ?_
   try go_simp
   have c_x0:=S.out.cl 0 0 rfl rfl
   have f_x0:=S.out.f 0 0 rfl
   have c_y0:=S.out.cl 1 0 rfl rfl
   have f_y0:=S.out.f 1 0 rfl
   have c_x1:=S.out.cl 0 1 rfl rfl
   have f_x1:=S.out.f 0 1 rfl
   have c_y1:=S.out.cl 1 1 rfl rfl
   have f_y1:=S.out.f 1 1 rfl
   have c_x2:=S.out.cl 0 2 rfl rfl
   have f_x2:=S.out.f 0 2 rfl
   have c_y2:=S.out.cl 1 2 rfl rfl
   have f_y2:=S.out.f 1 2 rfl
   have c_x3:=S.out.cl 0 3 rfl rfl
   have f_x3:=S.out.f 0 3 rfl
   have c_y3:=S.out.cl 1 3 rfl rfl
   have f_y3:=S.out.f 1 3 rfl
   have hz1:=S.out.lt 0 rfl
   have hz2:=S.out.lt 1 rfl
   go_wp2_with fail
   refine (hSL.out _ S.out.bel).mono ?_
   rintro e w6 ⟨rfl,bb⟩
   have SN:=Lib.hid (S.out.call bb)
   clear bb S
   have S:=SN
   clear SN
   clear c_x0 f_x0 c_y0 f_y0 c_x1 f_x1 c_y1 f_y1 c_x2 f_x2 c_y2 f_y2 c_x3 f_x3 c_y3 f_y3 hz1 hz2
   have c_x0:=S.out.cl 0 0 rfl rfl
   have f_x0:=S.out.f 0 0 rfl
   have c_y0:=S.out.cl 1 0 rfl rfl
   have f_y0:=S.out.f 1 0 rfl
   have c_x1:=S.out.cl 0 1 rfl rfl
   have f_x1:=S.out.f 0 1 rfl
   have c_y1:=S.out.cl 1 1 rfl rfl
   have f_y1:=S.out.f 1 1 rfl
   have c_x2:=S.out.cl 0 2 rfl rfl
   have f_x2:=S.out.f 0 2 rfl
   have c_y2:=S.out.cl 1 2 rfl rfl
   have f_y2:=S.out.f 1 2 rfl
   have c_x3:=S.out.cl 0 3 rfl rfl
   have f_x3:=S.out.f 0 3 rfl
   have c_y3:=S.out.cl 1 3 rfl rfl
   have f_y3:=S.out.f 1 3 rfl
   have hz1:=S.out.lt 0 rfl
   have hz2:=S.out.lt 1 rfl
   go_wp2_with fail
   refine (hSC.out _ S.out.bel).mono ?_
   rintro e w7 ⟨rfl,bb⟩
   have SN:=Lib.hid (S.out.call bb)
   clear bb S
   have S:=SN
   clear SN
   clear c_x0 f_x0 c_y0 f_y0 c_x1 f_x1 c_y1 f_y1 c_x2 f_x2 c_y2 f_y2 c_x3 f_x3 c_y3 f_y3 hz1 hz2
   have hlt:=hih.out
   have hbb:=hb.out
   go_wp2
   go_roundw
   case rel=>exact⟨i+1,by omega,by go_num,S.out.sub2.sub2⟩
   case measure=>simp[intOf];omega
  ·obtain rfl:tn=i:=by omega
   clear hin hlt
   go_wp2
   go_ret
   exact⟨rfl,S.out.bel⟩
end Go.Proofs.YtdeedofmflelfaaGreatDoor

namespace Go.Proofs.YtdeedofmflelfaaGreatDoor
open Go.RowKit RQ
set_option linter.unusedVariables false
theorem res_copyCell (W:World) (tmps:Array Value) (g t:Nat) {v0 v1 v2 v3 v4:Value} (ht:tmps.getD 2 undef=.pointer (some ⟨g,0,none⟩)) (h:Cb W g #[v0,v1,v2,v3,v4] t) :
  (results Tryz.f79 tmps).run Tryz.prog W=.ok (.agg #[v0,v1,v2,v3,v4]) W:=by
 have c0:W.cell? ⟨g,0,none⟩=some v0:=h.cell rfl
 have c1:W.cell? ⟨g,1,none⟩=some v1:=h.cell rfl
 have c2:W.cell? ⟨g,2,none⟩=some v2:=h.cell rfl
 have c3:W.cell? ⟨g,3,none⟩=some v3:=h.cell rfl
 have c4:W.cell? ⟨g,4,none⟩=some v4:=h.cell rfl
 have ht':tmps[2]?.getD undef=.pointer (some ⟨g,0,none⟩):=by rw[←ht];simp[Array.getD_eq_getD_getElem?]
 simp[results,Tryz.results79,go_sem,ht',c0,c1,c2,c3,c4]
set_option maxRecDepth 100000 in
set_option maxHeartbeats 4000000 in
theorem copyCell_any (y:Ce) (w:World) (R1:Rd w y.v.x.A y.v.x.n y.v.x.c y.v.x.x) (R2:Rd w y.v.y.A y.v.y.n y.v.y.c y.v.y.x) (hx:LtC y):Calls Tryz.prog 79 #[.agg #[.bool y.m,.bool y.v.b,.slice y.v.x.A y.v.x.n y.v.x.c,.slice y.v.y.A y.v.y.n y.v.y.c,.int .i64 y.l]] w fun e w'=>∃ A1 c1 A2 c2,e=.returned (.agg #[.bool y.m,.bool y.v.b,.slice A1 y.v.x.n c1,.slice A2 y.v.y.n c2,.int .i64 y.l])∧Rd w' A1 y.v.x.n c1 y.v.x.x∧Rd w' A2 y.v.y.n c2 y.v.y.x∧Below w.heap.size w w':=by
 have hC1:Hid (∀ W,Below w.heap.size w W→Calls Tryz.prog 120 #[.slice y.v.x.A y.v.x.n y.v.x.c] W (RetClone y.v.x.n y.v.x.x W)):=Lib.hid fun W hb=>clone_any _ _ _ _ W (R1.below hb) (by have:=hx.1;omega)
 have hC2:Hid (∀ W,Below w.heap.size w W→Calls Tryz.prog 120 #[.slice y.v.y.A y.v.y.n y.v.y.c] W (RetClone y.v.y.n y.v.y.x W)):=Lib.hid fun W hb=>clone_any _ _ _ _ W (R2.below hb) (by have:=hx.2;omega)
 clear R1 R2 hx
 have S:=(((St.new w).allocAt (w.heap.size) #[.bool y.m,.bool y.v.b,.slice y.v.x.A y.v.x.n y.v.x.c,.slice y.v.y.A y.v.y.n y.v.y.c,.int .i64 y.l] 58 (noLof rfl) (by simp)).allocAt (w.heap.size+1) #[.bool false,.bool false,.slice none 0 0,.slice none 0 0,.int .i64 0] 58 (noLof rfl) (by simp))
 replace S:=Lib.hid S
 go_enter Tryz.func79,Tryz.ntmps79
 go_upto_region 1 with fail
 generalize hW:World.alloc _ _=w1 at S ⊢
 clear hW
 have SD:=Lib.hid (S.out.drew)
 have d_0:=SD.out.cl 1 0 rfl rfl;have d0:=SD.out.cl 1 0 rfl rfl;have df0:=SD.out.f 1 0 rfl;have d1:=SD.out.cl 1 1 rfl rfl;have df1:=SD.out.f 1 1 rfl;have d2:=SD.out.cl 1 2 rfl rfl;have df2:=SD.out.f 1 2 rfl;have d3:=SD.out.cl 1 3 rfl rfl;have df3:=SD.out.f 1 3 rfl;have d4:=SD.out.cl 1 4 rfl rfl;have df4:=SD.out.f 1 4 rfl;have dz:=SD.out.lt 1 rfl;have dz0:=SD.out.lt 0 rfl
 go_region_with (first
  | (go_at_call_of 120 (Value.slice y.v.x.A y.v.x.n y.v.x.c);refine (hC1.out _ SD.out.bel).mono ?_;rintro e w2 ⟨A1,c1,rfl,Q1,_,bb1⟩;have S0:=(SD.out.call bb1).read Q1;have a0:=S0.cl 1 0 rfl rfl;have af0:=S0.f 1 0 rfl;have a1:=S0.cl 1 1 rfl rfl;have af1:=S0.f 1 1 rfl;have a2:=S0.cl 1 2 rfl rfl;have af2:=S0.f 1 2 rfl;have a3:=S0.cl 1 3 rfl rfl;have af3:=S0.f 1 3 rfl;have a4:=S0.cl 1 4 rfl rfl;have af4:=S0.f 1 4 rfl;have az:=S0.lt 1 rfl;have az0:=S0.lt 0 rfl)
  | (go_at_call_of 120 (Value.slice y.v.y.A y.v.y.n y.v.y.c);refine (hC2.out _ S0.bel).mono ?_;rintro e w3 ⟨A2,c2,rfl,Q2,_,bb2⟩;have S1:=(S0.call bb2).read Q2;have b0:=S1.cl 1 0 rfl rfl;have bf0:=S1.f 1 0 rfl;have b1:=S1.cl 1 1 rfl rfl;have bf1:=S1.f 1 1 rfl;have b2:=S1.cl 1 2 rfl rfl;have bf2:=S1.f 1 2 rfl;have b3:=S1.cl 1 3 rfl rfl;have bf3:=S1.f 1 3 rfl;have b4:=S1.cl 1 4 rfl rfl;have bf4:=S1.f 1 4 rfl;have bz:=S1.lt 1 rfl;have bz0:=S1.lt 0 rfl))
 all_goals
  have S:=Lib.hid ((S1.set 1 2 (.slice A1 y.v.x.n c1) rfl (by nofun)).set 1 3 (.slice A2 y.v.y.n c2) rfl (by nofun))
  clear d0 df0 d1 df1 d2 df2 d3 df3 d4 df4 dz dz0 a0 af0 a1 af1 a2 af2 a3 af3 a4 af4 az az0 b0 bf0 b1 bf1 b2 bf2 b3 bf3 b4 bf4 bz bz0 d_0 S0 S1 SD bb1 bb2 Q1 Q2 hC1 hC2
  generalize hW:World.setCell _ _ _=w4 at S ⊢
  clear hW
  have x0:=S.out.cl 1 0 rfl rfl
  have x1:=S.out.cl 1 1 rfl rfl
  have x2:=S.out.cl 1 2 rfl rfl
  have x3:=S.out.cl 1 3 rfl rfl
  have x4:=S.out.cl 1 4 rfl rfl
  have r0:=S.out.cl 0 0 rfl rfl
  have r1:=S.out.cl 0 1 rfl rfl
  have r2:=S.out.cl 0 2 rfl rfl
  have r3:=S.out.cl 0 3 rfl rfl
  have r4:=S.out.cl 0 4 rfl rfl
  have q0:=S.out.f 0 0 rfl
  have q1:=S.out.f 0 1 rfl
  have q2:=S.out.f 0 2 rfl
  have q3:=S.out.f 0 3 rfl
  have q4:=S.out.f 0 4 rfl
  have hz:=S.out.lt 0 rfl
  have T:=Lib.hid (((((S.out.set 0 0 (.bool y.m) rfl (by nofun)).set 0 1 (.bool y.v.b) rfl (by nofun)).set 0 2 (.slice A1 y.v.x.n c1) rfl (by nofun)).set 0 3 (.slice A2 y.v.y.n c2) rfl (by nofun)).set 0 4 (.int .i64 y.l) rfl (by nofun))
  clear S
  go_wp2
  refine bodyPost_ret (res_copyCell _ _ (w.heap.size+1) 58 rfl (T.out.cb 0 rfl)) rfl ⟨A1,c1,A2,c2,rfl,T.out.r 1 rfl,T.out.r 0 rfl,T.out.bel⟩
end Go.Proofs.YtdeedofmflelfaaGreatDoor

namespace Go.Proofs.YtdeedofmflelfaaGreatDoor
open Go.RowKit RQ
set_option linter.unusedVariables false
end Go.Proofs.YtdeedofmflelfaaGreatDoor
