/- Further values that came in: records, fields, cells. Rows that are taken, added and left out: the mathematics. A table that is arranged anew. Select. The law: selections. -/
import Derived.Test.YtdeedofmflelfaaGreatDoorQDbz
import Derived.Test.YtdeedofmflelfaaGreatDoorQBez
import Derived.Test.YtdeedofmflelfaaGreatDoorQDdz
import Derived.Deep.CutRange
import Derived.Test.YtdeedofmflelfaaGreatDoorQChz
import Derived.Deep.CutBlock
namespace Go.Proofs.YtdeedofmflelfaaGreatDoor
open Go.ChangeShapes Go.WideShapes Go.ChangeAt Go.RowKit Go.Joins Go.Deep RQ
set_option linter.unusedVariables false
end Go.Proofs.YtdeedofmflelfaaGreatDoor

namespace Go.Proofs.YtdeedofmflelfaaGreatDoor
open Go.RowKit RQ
set_option linter.unusedVariables false
def cx0:Cx:=(false,false,[],[],0)
/-- The columns with the rows of these numbers. -/
def selL (T:List Lx) (R:List Nat):List Lx:=T.map fun c=>⟨c.n,c.k,c.lv,R.map fun q=>c.ce.getD q cx0⟩
theorem getD_lt {κ:Type} {cs:List κ} {q:Nat} (d:κ) (h:q<cs.length):cs.getD q d=cs[q]:=by
 rw[List.getD_eq_getElem?_getD,List.getElem?_eq_getElem h];rfl
/-- Columns whose cells are other ones that fit. -/
theorem tab_map {r r':Int} {T:List Lx} (f:Lx→List Cx) (h:tabB r T=true) (h0:0≤r') (h1:r'≤1024) (hf:∀ c∈T,colB c r=true→((f c).length:Int)=r'∧∀ y∈f c,fitB c.k c.lv.length y=true):tabB r' (T.map fun c=>⟨c.n,c.k,c.lv,f c⟩)=true:=by
 obtain⟨h2,h3,h4,h5,h6⟩:=tab_parts h
 refine tab_mk ⟨h0,h1,by rw[List.length_map];exact h4,by rw[List.map_map];exact h5,?_⟩
 rw[List.all_eq_true]
 intro c hc
 obtain⟨d,hd,rfl⟩:=List.mem_map.1 hc
 have h7:=List.all_eq_true.1 h6 d hd
 obtain⟨h8,h9⟩:=hf d hd h7
 unfold colB at h7 ⊢
 simp only[Bool.and_eq_true,decide_eq_true_eq] at h7 ⊢
 exact⟨⟨h7.1.1,h8⟩,List.all_eq_true.2 h9⟩
theorem col_fits {c:Lx} {r:Int} (h:colB c r=true):(c.ce.length:Int)=r∧∀ y∈c.ce,fitB c.k c.lv.length y=true:=by
 unfold colB at h
 simp only[Bool.and_eq_true,decide_eq_true_eq] at h
 exact⟨h.1.2,List.all_eq_true.1 h.2⟩
theorem fit_at {c:Lx} {r:Int} (h:colB c r=true) {q:Nat} (hq:(q:Int)<r):fitB c.k c.lv.length (c.ce.getD q cx0)=true:=by
 obtain⟨h1,h2⟩:=col_fits h
 have hlt:q<c.ce.length:=by omega
 rw[getD_lt _ hlt]
 exact h2 _ (List.getElem_mem hlt)
theorem selL_tab {r:Int} {T:List Lx} {R:List Nat} (h:tabB r T=true) (hR:∀ q∈R,(q:Int)<r) (hl:R.length≤1024):tabB (R.length:Int) (selL T R)=true:=by
 refine tab_map _ h (Int.natCast_nonneg _) (by omega) fun c _ hc=>⟨by rw[List.length_map],fun y hy=>?_⟩
 obtain⟨q,hq,rfl⟩:=List.mem_map.1 hy
 exact fit_at hc (hR q hq)
theorem selL_two {T:List Lx} {A B:List Nat} (hB:∀ q∈B,q<A.length):selL (selL T A) B=selL T (B.map fun q=>A.getD q 0):=by
 unfold selL
 rw[List.map_map]
 refine List.map_congr_left fun c _=>?_
 show (Lx.mk _ _ _ _)=Lx.mk _ _ _ _
 congr 1
 rw[List.map_map]
 refine List.map_congr_left fun q hq=>?_
 have:=hB q hq
 simp[List.getD_eq_getElem?_getD,List.getElem?_map,List.getElem?_eq_getElem this]
theorem selL_all {r:Nat} {T:List Lx} (h:tabB (r:Int) T=true):selL T (List.range r)=T:=by
 obtain⟨_,_,_,_,h6⟩:=tab_parts h
 unfold selL
 conv=>rhs;rw[←List.map_id T]
 refine List.map_congr_left fun c hc=>?_
 have h7:=(col_fits (List.all_eq_true.1 h6 c hc)).1
 show (Lx.mk c.n c.k c.lv _)=c
 have:(List.range r).map (fun q=>c.ce.getD q cx0)=c.ce:=by
  apply List.ext_getElem
  ·rw[List.length_map,List.length_range];omega
  ·intro j h1 h2
   rw[List.getElem_map,List.getElem_range,getD_lt _ h2]
 rw[this]
end Go.Proofs.YtdeedofmflelfaaGreatDoor

namespace Go.Proofs.YtdeedofmflelfaaGreatDoor
open Go.RowKit RQ
set_option linter.unusedVariables false
/-- What a call made of its own, beside what its caller knows. -/
theorem St.join {w W W':World} {bs bs':List GBk} {rs rs':List GRd} (h:St w W bs rs) (h':St W W' bs' rs'):St w W' (bs++bs') (rs++rs'):=by
 refine⟨h.bel.trans (h'.bel.mono h.bel.size),fun p hp=>?_,?_,fun r hr=>?_⟩
 ·rcases List.mem_append.1 hp with hp | hp
  ·exact⟨(h.bk p hp).1.bel h'.bel,(h.bk p hp).2⟩
  ·exact⟨(h'.bk p hp).1,(h'.bk p hp).2.1,Nat.le_trans h.bel.size (h'.bk p hp).2.2⟩
 ·refine List.pairwise_append.2 ⟨h.nd,h'.nd,fun p hp q hq=>?_⟩
  have h1:=(h.bk p hp).1.lt
  have h2:=(h'.bk q hq).2.2
  omega
 ·rcases List.mem_append.1 hr with hr | hr
  ·exact (h.rd r hr).below h'.bel
  ·exact h'.rd r hr
theorem perm4 {α:Type} (a b c d:α) (l:List α):(a::b::c::d::l).Perm (d::a::b::c::l):=List.perm_middle (l₁:=[a,b,c])
theorem perm5 {α:Type} (d a b c:α) (l:List α):(d::a::b::c::l).Perm (c::a::d::b::l):=(List.perm_middle (l₁:=[d,a,b])).trans ((List.Perm.swap a d _).cons c)
theorem perm6 {α:Type} (a d b g t:α) (l:List α):(a::d::b::g::t::l).Perm (d::g::t::a::b::l):=(List.Perm.swap d a _).trans ((List.perm_append_comm_assoc [a,b] [g,t] l).cons d)
theorem res_arr (W:World) (tmps:Array Value) (g t:Nat) {v0 v1:Value} (ht:tmps.getD 6 undef=.pointer (some ⟨g,0,none⟩)) (h:Cb W g #[v0,v1] t) :
  (results Tryz.f76 tmps).run Tryz.prog W=.ok (.agg #[v0,v1]) W:=by
 have c0:W.cell? ⟨g,0,none⟩=some v0:=h.cell rfl
 have c1:W.cell? ⟨g,1,none⟩=some v1:=h.cell rfl
 have ht':tmps[6]?.getD undef=.pointer (some ⟨g,0,none⟩):=by rw[←ht];simp[Array.getD_eq_getD_getElem?]
 simp[results,Tryz.results76,go_sem,ht',c0,c1]
set_option maxRecDepth 100000 in
set_option maxHeartbeats 4000000 in
/-- A table is arranged out of the cells that a function gives. -/
theorem arranged2_any (R:Int) (TA:Option Addr) (tn tc rows:Nat) (L:List Cl) (f:Nat) (va vb:Value) (Y:Nat→Nat→Ce) (w:World) (h:LR clC w TA tn L) (hx:∀ x∈L,LtL x) (hn:tn≤32) (hr:rows≤1024) (hcf:∀ (x y:Value) (W:World),(callFunc f #[x,y,va,vb]).run Tryz.prog W=.ok (.enter f #[x,y,va,vb]) W) (hY:∀ i j:Nat,i<tn→j<rows→LtC (Y i j)∧ceC.At w (Y i j)∧∀ W,Below w.heap.size w W→Calls Tryz.prog f #[.int .i64 (i:Nat),.int .i64 (j:Nat),va,vb] W fun e w'=>e=.returned (.agg (Y i j).vs)∧Below W.heap.size W w'):Calls Tryz.prog 76 #[.agg #[.int .i64 R,.slice TA tn tc],.int .i64 rows,.func (.func f) #[] #[va,vb]] w fun e w'=>∃ (cb:Nat) (Cs:List Cl) (F:List GBk) (rs:List GRd),e=.returned (.agg #[.int .i64 rows,.slice (some ⟨cb,0,none⟩) tn tn])∧St w w' ((cb,(clC.all Cs).toArray,56)::F) rs∧Cs.length=tn∧(∀ c∈Cs,∀ v,clC.In v F rs c)∧(∀ (q:Nat) (x:Cl),L[q]?=some x→∃ c:Cl,Cs[q]?=some c∧c.lx=⟨x.n,x.k,x.lv.L,(List.range rows).map fun j=>(Y q j).cx⟩)∧(∀ c∈Cs,LtL c):=by
 have hlen:=Lib.hid h.len
 have hCt0:=Lib.hid (fun x (hxm:x∈L) W (hW:Below w.heap.size w W)=>copyTexts_any x.lv.L x.lv.A x.lv.L.length x.lv.c W ((cl_at.1 (h.el x hxm)).1.1.bel hW) (by have:=(hx x hxm).2.1;omega) (fun s hs=>by have:=(hx x hxm).2.2.1 s hs;omega))
 have hCl0:=Lib.hid (fun x (hxm:x∈L) W=>cloneS_any x.n W (by have:=(hx x hxm).1;omega))
 have hLt:=Lib.hid hx
 have hmk:=make_col tn (by omega)
 have hmc:=Lib.hid (make_cell rows (by omega))
 have S:=Lib.hid (((St.new w).allocAt w.heap.size #[.int .i64 R,.slice TA tn tc] 37 (noLof rfl) rfl).allocAt (w.heap.size+1) #[.int .i64 0,.slice none 0 0] 37 (noLof rfl) (by simp))
 replace h:=Lib.hid h
 have hnh:=Lib.hid hn
 have hrh:=Lib.hid hr
 have hYh:=Lib.hid hY
 replace hcf:=Lib.hid hcf
 clear hx hn hr hY
 go_enter Tryz.func76,Tryz.ntmps76
 go_upto_region 1 with fail
 have hz4:w.heap.size+2=(World.alloc (World.alloc w (.cells #[.int .i64 R,.slice TA tn tc] 37)) (.cells #[.int .i64 0,.slice none 0 0] 37)).heap.size:=by simp
 generalize hW:World.alloc (World.alloc _ _) _=w4 at S hz4 ⊢
 clear hW
 have S1:=Lib.hid (S.out.allocC clC (List.replicate tn Cl0) (w.heap.size+2) 56 hz4.symm)
 obtain⟨c_0,c_1,f_0,f_1⟩:=S.out.cf2 1 rfl
 have hz:w.heap.size<w4.heap.size:=S.out.lt 1 rfl
 go_upto_region 2 with fail
 replace hmk:=Lib.hid hmk
 clear hmk c_0 f_0 c_1 f_1 hz S
 rw[←hz4]
 generalize hW:World.alloc _ _=w5 at S1 ⊢
 clear hW hz4 w4
 obtain⟨c_0,c_1,f_0,f_1⟩:=S1.out.cf2 2 rfl
 have hz:w.heap.size<w5.heap.size:=S1.out.lt 2 rfl
 go_wp2
 clear c_0 f_0 c_1 f_1 hz
 go_loopw [18] (fun iv wr=>∃ (i:Nat) (Cs:List Cl) (F:List GBk) (rs:List GRd),i≤tn∧iv=.int .i64 i∧Cs.length=tn∧St w wr ((w.heap.size+2,(clC.all Cs).toArray,56)::(w.heap.size+1,#[.int .i64 0,.slice none 0 0],37)::(w.heap.size,#[.int .i64 R,.slice TA tn tc],37)::F) rs∧(∀ (q:Nat) (x:Cl),q<i→L[q]?=some x→∃ c:Cl,Cs[q]?=some c∧(∀ v,clC.In v F rs c)∧c.lx=⟨x.n,x.k,x.lv.L,(List.range rows).map fun j=>(Y q j).cx⟩∧LtL c)) (fun iv _=>tn-(intOf iv).toNat)
 case atStart=>exact⟨0,List.replicate tn Cl0,[],[],Nat.zero_le _,rfl,List.length_replicate,S1.out,fun q x h=>absurd h (Nat.not_lt_zero _)⟩
 case round=>
  clear S1
  obtain⟨i,Cs,F,rs,hin,rfl,hCl2,S,hq⟩:=hrel
  by_cases hlt:i<tn
  ·obtain⟨b,o,x,rfl,hxe,hxm,hxa,e0,e1,e2,e3⟩:=cl_get (h.out.bel S.bel) hlt
   have g1:(i:Int)<(tn:Int):=by omega
   have g2:(0:Int)≤(i:Int):=by omega
   obtain⟨cy,hci⟩:∃ y,Cs[i]?=some y:=⟨_,List.getElem?_eq_getElem (by omega)⟩
   have hih:=Lib.hid hlt
   have hCt:=Lib.hid (hCt0.out x hxm)
   have hCl:=Lib.hid (hCl0.out x hxm)
   have hxl:=Lib.hid (hLt.out x hxm)
   have S1:=S.allocAt wr.heap.size #[.string x.n,.int .i64 x.k,.slice x.lv.A x.lv.L.length x.lv.c,.slice x.ce.A x.ce.L.length x.ce.c] 56 (noLof rfl) rfl
   replace S1:=Lib.hid S1
   replace hci:=Lib.hid hci
   replace hCl2:=Lib.hid hCl2
   replace hq:=Lib.hid hq
   replace hxe:=Lib.hid hxe
   clear hlt hin hxa hxm S
   go_upto_region 5 with fail
   clear e0 e1 e2 e3
   obtain⟨fv,hfv⟩:∃ g,g=wr.heap.size:=⟨_,rfl⟩
   rw[←hfv] at S1
   generalize hW:World.alloc _ _=w4 at S1 ⊢
   clear hW
   rw[←hfv]
   clear hfv
   have S:=S1
   clear S1
   go_cut [18] from 18 to 54 (fun v wc=>v=.int .i64 i∧∃ lb eb,St w wc ((eb,(ceC.all (List.replicate rows Ce0)).toArray,58)::(w.heap.size+2,(clC.all (Cs.set i ⟨x.n,x.k,⟨some ⟨lb,0,none⟩,x.lv.L.length,x.lv.L⟩,⟨some ⟨eb,0,none⟩,rows,List.replicate rows Ce0⟩⟩)).toArray,56)::(lb,(strC.all x.lv.L).toArray,9)::(w.heap.size+1,#[.int .i64 0,.slice none 0 0],37)::(w.heap.size,#[.int .i64 R,.slice (some ⟨b,o,none⟩) tn tc],37)::F) rs)
   case first=>
    have hbase:=Lib.hid (St.new w4)
    refine RW.begin (Z:=[]) (S:=(fun W=>Cb W fv #[.string x.n,.int .i64 x.k,.slice x.lv.A x.lv.L.length x.lv.c,.slice x.ce.A x.ce.L.length x.ce.c] 56)) (by kernel_rfl) ?_ hbase.out ?_
    ·exact⟨by kernel_rfl,zis_nil,by decide,by decide,nol_nil,(fun _ _ h=>(S.out.cb 0 rfl).bel h.bel)⟩
    intro hzk
    refine RW.t (i:=0) (v:=.slice (some ⟨w.heap.size+2,0,none⟩) tn tn) (some 23) at0 (hy:=fun _ _=>by kernel_rfl) (h:=?_)
    refine RW.t (i:=1) (v:=.int .i64 i) (some 24) at1 (hy:=fun _ _=>by kernel_rfl) (h:=?_)
    refine RW.t (i:=2) (v:=.pointer (some ⟨fv,0,none⟩)) (some 25) at2 (hy:=fun _ _=>by kernel_rfl) (h:=?_)
    refine RW.t (i:=3) (v:=.string x.n) (some 26) at3 (hy:=fun W hS=>by (have k0:=Cb.cell (i:=0) hS rfl;clear hS;go_simp)) (h:=?_)
    refine RW.t (i:=5) (v:=.pointer (some ⟨fv,1,none⟩)) (some 28) at5 (hy:=fun _ _=>by kernel_rfl) (h:=?_)
    refine RW.t (i:=6) (v:=.int .i64 x.k) (some 29) at6 (hy:=fun W hS=>by (have k0:=Cb.cell (i:=1) hS rfl;clear hS;go_simp)) (h:=?_)
    refine RW.t (i:=7) (v:=.pointer (some ⟨fv,2,none⟩)) (some 30) at7 (hy:=fun _ _=>by kernel_rfl) (h:=?_)
    refine RW.t (i:=8) (v:=.slice x.lv.A x.lv.L.length x.lv.c) (some 31) at8 (hy:=fun W hS=>by (have k0:=Cb.cell (i:=2) hS rfl;clear hS;go_simp)) (h:=?_)
    refine RW.t (i:=10) (v:=.int .i64 rows) (some 33) at10 (hy:=fun _ _=>by kernel_rfl) (h:=?_)
    refine RW.tail hzk.out (by kernel_rfl) ?_
    intro gs' w5 hgs' hS Sb
    obtain rfl:=len0 hgs'
    simp only[mark,fill,Act.put,List.setIfInBounds_toArray,List.set_cons_zero,List.set_cons_succ]
    have T:=Lib.hid (S.out.call Sb.bel)
    clear S Sb hS hgs' hzk hbase
    have S:=T
    clear T
    refine Wk.two (i:=4) (j:=11) at4 at11 (by kernel_rfl) (fun K' hK=>?_) (fun K' hK=>?_)
    ·refine oper_call (f:=45) (args:=#[.string x.n]) rfl (by kernel_rfl) ((hCl.out _).mono ?_)
     rintro e w6 ⟨rfl,bb⟩
     have T:=Lib.hid (S.out.call bb)
     clear S bb
     have S:=T
     clear T
     refine⟨_,rfl,hK.out _ _ (S.out.cb 0 rfl) ?_⟩
     clear hK K'
     try simp only[Act.put,List.setIfInBounds_toArray,List.set_cons_zero,List.set_cons_succ]
     refine Wk.two (i:=9) (j:=11) at9 at11 (by kernel_rfl) (fun K' hK=>?_) (fun K' hK=>?_)
     ·refine oper_call (f:=46) (args:=#[.slice x.lv.A x.lv.L.length x.lv.c]) rfl (by kernel_rfl) ((hCt.out _ S.out.bel).mono ?_)
      rintro e w7 ⟨lb,rfl,hlb,hcb,bb⟩
      have T:=Lib.hid (S.out.adopt bb hcb hlb (all_noL strC _).arr)
      clear S bb hlb hcb
      have S:=T
      clear T
      refine⟨_,rfl,hK.out _ _ (S.out.cb 1 rfl) ?_⟩
      clear hK K'
      try simp only[Act.put,List.setIfInBounds_toArray,List.set_cons_zero,List.set_cons_succ]
      refine Wk.o (i:=11) at11 (by kernel_rfl) fun K' hK=>?_
      have hm:=hmc.out w7
      obtain⟨eb,heb⟩:∃ g,g=w7.heap.size:=⟨_,rfl⟩
      have T:=Lib.hid (S.out.allocC ceC (List.replicate rows Ce0) eb 58 heb.symm)
      rw[←heb] at hm
      replace heb:=Lib.hid heb
      go_simp
      clear S hm heb
      have S:=T
      clear T
      generalize hW:World.alloc w7 _=w8 at S ⊢
      clear hW
      refine hK.out _ _ (S.out.cb 2 rfl) ?_
      clear hK K'
      try simp only[Act.put,List.setIfInBounds_toArray,List.set_cons_zero,List.set_cons_succ]
      refine Wk.o (i:=12) at12 (by kernel_rfl) fun K' hK=>?_
      go_simp
      refine hK.out _ _ (S.out.cb 2 rfl) ?_
      clear hK K'
      try simp only[Act.put,List.setIfInBounds_toArray,List.set_cons_zero,List.set_cons_succ]
      refine Wk.o (i:=13) at13 (by kernel_rfl) fun K' hK=>?_
      go_simp
      refine hK.out _ _ (S.out.cb 2 rfl) ?_
      clear hK K'
      try simp only[Act.put,List.setIfInBounds_toArray,List.set_cons_zero,List.set_cons_succ]
      refine Wk.o (i:=14) at14 (by kernel_rfl) fun K' hK=>?_
      have T:=Lib.hid (S.out.prm (perm4 _ _ _ _ _))
      clear S
      have S:=T
      clear T
      obtain⟨hcl,hfr⟩:=St_gcl (C:=clC) S.out hci.out
      have q0:=hcl 0 _ rfl
      have q1:=hcl 1 _ rfl
      have q2:=hcl 2 _ rfl
      have q3:=hcl 3 _ rfl
      have f0:=hfr (i*4)
      have f1:=hfr (i*4+1)
      have f2:=hfr (i*4+2)
      have f3:=hfr (i*4+3)
      simp only[cl_sz,Nat.add_zero] at q0 q1 q2 q3
      go_simp
      have T:=Lib.hid (show St w (World.setCell (World.setCell (World.setCell (World.setCell w8 ⟨w.heap.size+2,i*4,none⟩ (.string x.n)) ⟨w.heap.size+2,i*4+1,none⟩ (.int .i64 x.k)) ⟨w.heap.size+2,i*4+2,none⟩ (.slice (some ⟨lb,0,none⟩) x.lv.L.length x.lv.L.length)) ⟨w.heap.size+2,i*4+3,none⟩ (.slice (some ⟨eb,0,none⟩) rows rows)) _ _ from (by
       have:=St_gset (C:=clC) S.out (⟨x.n,x.k,⟨some ⟨lb,0,none⟩,x.lv.L.length,x.lv.L⟩,⟨some ⟨eb,0,none⟩,rows,List.replicate rows Ce0⟩⟩:Cl) (i:=i) (by have:=hCl2.out;have:=hih.out;omega)
       rw[cl_cs,List.length_replicate] at this
       exact this))
      clear S hcl hfr q0 q1 q2 q3 f0 f1 f2 f3
      have S:=T
      clear T
      refine hK.out _ _ (S.out.cb 3 rfl) ?_
      clear hK K'
      try simp only[Act.put,List.setIfInBounds_toArray,List.set_cons_zero,List.set_cons_succ]
      refine Wk.done (by kernel_rfl) ?_
      go_simp
      go_wp2
      go_meet
      exact⟨rfl,lb,eb,(S.out.prm (perm5 _ _ _ _ _)).sub⟩
     ·have hm:=hmc.out w6
      obtain⟨eb,heb⟩:∃ g,g=w6.heap.size:=⟨_,rfl⟩
      have T:=Lib.hid (S.out.allocC ceC (List.replicate rows Ce0) eb 58 heb.symm)
      rw[←heb] at hm
      replace heb:=Lib.hid heb
      go_simp
      clear S hm heb
      have S:=T
      clear T
      generalize hW:World.alloc w6 _=w7 at S ⊢
      clear hW
      refine hK.out _ _ (S.out.cb 1 rfl) ?_
      clear hK K'
      try simp only[Act.put,List.setIfInBounds_toArray,List.set_cons_zero,List.set_cons_succ]
      refine Wk.o (i:=9) at9 (by kernel_rfl) fun K' hK=>?_
      refine oper_call (f:=46) (args:=#[.slice x.lv.A x.lv.L.length x.lv.c]) rfl (by kernel_rfl) ((hCt.out _ S.out.bel).mono ?_)
      rintro e w8 ⟨lb,rfl,hlb,hcb,bb⟩
      have T:=Lib.hid (S.out.adopt bb hcb hlb (all_noL strC _).arr)
      clear S bb hlb hcb
      have S:=T
      clear T
      refine⟨_,rfl,hK.out _ _ (S.out.cb 2 rfl) ?_⟩
      clear hK K'
      try simp only[Act.put,List.setIfInBounds_toArray,List.set_cons_zero,List.set_cons_succ]
      have T:=Lib.hid (S.out.swap)
      clear S
      have S:=T
      clear T
      refine Wk.o (i:=12) at12 (by kernel_rfl) fun K' hK=>?_
      go_simp
      refine hK.out _ _ (S.out.cb 2 rfl) ?_
      clear hK K'
      try simp only[Act.put,List.setIfInBounds_toArray,List.set_cons_zero,List.set_cons_succ]
      refine Wk.o (i:=13) at13 (by kernel_rfl) fun K' hK=>?_
      go_simp
      refine hK.out _ _ (S.out.cb 2 rfl) ?_
      clear hK K'
      try simp only[Act.put,List.setIfInBounds_toArray,List.set_cons_zero,List.set_cons_succ]
      refine Wk.o (i:=14) at14 (by kernel_rfl) fun K' hK=>?_
      have T:=Lib.hid (S.out.prm (perm4 _ _ _ _ _))
      clear S
      have S:=T
      clear T
      obtain⟨hcl,hfr⟩:=St_gcl (C:=clC) S.out hci.out
      have q0:=hcl 0 _ rfl
      have q1:=hcl 1 _ rfl
      have q2:=hcl 2 _ rfl
      have q3:=hcl 3 _ rfl
      have f0:=hfr (i*4)
      have f1:=hfr (i*4+1)
      have f2:=hfr (i*4+2)
      have f3:=hfr (i*4+3)
      simp only[cl_sz,Nat.add_zero] at q0 q1 q2 q3
      go_simp
      have T:=Lib.hid (show St w (World.setCell (World.setCell (World.setCell (World.setCell w8 ⟨w.heap.size+2,i*4,none⟩ (.string x.n)) ⟨w.heap.size+2,i*4+1,none⟩ (.int .i64 x.k)) ⟨w.heap.size+2,i*4+2,none⟩ (.slice (some ⟨lb,0,none⟩) x.lv.L.length x.lv.L.length)) ⟨w.heap.size+2,i*4+3,none⟩ (.slice (some ⟨eb,0,none⟩) rows rows)) _ _ from (by
       have:=St_gset (C:=clC) S.out (⟨x.n,x.k,⟨some ⟨lb,0,none⟩,x.lv.L.length,x.lv.L⟩,⟨some ⟨eb,0,none⟩,rows,List.replicate rows Ce0⟩⟩:Cl) (i:=i) (by have:=hCl2.out;have:=hih.out;omega)
       rw[cl_cs,List.length_replicate] at this
       exact this))
      clear S hcl hfr q0 q1 q2 q3 f0 f1 f2 f3
      have S:=T
      clear T
      refine hK.out _ _ (S.out.cb 3 rfl) ?_
      clear hK K'
      try simp only[Act.put,List.setIfInBounds_toArray,List.set_cons_zero,List.set_cons_succ]
      refine Wk.done (by kernel_rfl) ?_
      go_simp
      go_wp2
      go_meet
      exact⟨rfl,lb,eb,(S.out.prm (perm5 _ _ _ _ _)).sub⟩
    ·have hm:=hmc.out w5
     obtain⟨eb,heb⟩:∃ g,g=w5.heap.size:=⟨_,rfl⟩
     have T:=Lib.hid (S.out.allocC ceC (List.replicate rows Ce0) eb 58 heb.symm)
     rw[←heb] at hm
     replace heb:=Lib.hid heb
     go_simp
     clear S hm heb
     have S:=T
     clear T
     generalize hW:World.alloc w5 _=w6 at S ⊢
     clear hW
     refine hK.out _ _ (S.out.cb 1 rfl) ?_
     clear hK K'
     try simp only[Act.put,List.setIfInBounds_toArray,List.set_cons_zero,List.set_cons_succ]
     refine Wk.o (i:=4) at4 (by kernel_rfl) fun K' hK=>?_
     refine oper_call (f:=45) (args:=#[.string x.n]) rfl (by kernel_rfl) ((hCl.out _).mono ?_)
     rintro e w7 ⟨rfl,bb⟩
     have T:=Lib.hid (S.out.call bb)
     clear S bb
     have S:=T
     clear T
     refine⟨_,rfl,hK.out _ _ (S.out.cb 1 rfl) ?_⟩
     clear hK K'
     try simp only[Act.put,List.setIfInBounds_toArray,List.set_cons_zero,List.set_cons_succ]
     refine Wk.o (i:=9) at9 (by kernel_rfl) fun K' hK=>?_
     refine oper_call (f:=46) (args:=#[.slice x.lv.A x.lv.L.length x.lv.c]) rfl (by kernel_rfl) ((hCt.out _ S.out.bel).mono ?_)
     rintro e w8 ⟨lb,rfl,hlb,hcb,bb⟩
     have T:=Lib.hid (S.out.adopt bb hcb hlb (all_noL strC _).arr)
     clear S bb hlb hcb
     have S:=T
     clear T
     refine⟨_,rfl,hK.out _ _ (S.out.cb 2 rfl) ?_⟩
     clear hK K'
     try simp only[Act.put,List.setIfInBounds_toArray,List.set_cons_zero,List.set_cons_succ]
     have T:=Lib.hid (S.out.swap)
     clear S
     have S:=T
     clear T
     refine Wk.o (i:=12) at12 (by kernel_rfl) fun K' hK=>?_
     go_simp
     refine hK.out _ _ (S.out.cb 2 rfl) ?_
     clear hK K'
     try simp only[Act.put,List.setIfInBounds_toArray,List.set_cons_zero,List.set_cons_succ]
     refine Wk.o (i:=13) at13 (by kernel_rfl) fun K' hK=>?_
     go_simp
     refine hK.out _ _ (S.out.cb 2 rfl) ?_
     clear hK K'
     try simp only[Act.put,List.setIfInBounds_toArray,List.set_cons_zero,List.set_cons_succ]
     refine Wk.o (i:=14) at14 (by kernel_rfl) fun K' hK=>?_
     have T:=Lib.hid (S.out.prm (perm4 _ _ _ _ _))
     clear S
     have S:=T
     clear T
     obtain⟨hcl,hfr⟩:=St_gcl (C:=clC) S.out hci.out
     have q0:=hcl 0 _ rfl
     have q1:=hcl 1 _ rfl
     have q2:=hcl 2 _ rfl
     have q3:=hcl 3 _ rfl
     have f0:=hfr (i*4)
     have f1:=hfr (i*4+1)
     have f2:=hfr (i*4+2)
     have f3:=hfr (i*4+3)
     simp only[cl_sz,Nat.add_zero] at q0 q1 q2 q3
     go_simp
     have T:=Lib.hid (show St w (World.setCell (World.setCell (World.setCell (World.setCell w8 ⟨w.heap.size+2,i*4,none⟩ (.string x.n)) ⟨w.heap.size+2,i*4+1,none⟩ (.int .i64 x.k)) ⟨w.heap.size+2,i*4+2,none⟩ (.slice (some ⟨lb,0,none⟩) x.lv.L.length x.lv.L.length)) ⟨w.heap.size+2,i*4+3,none⟩ (.slice (some ⟨eb,0,none⟩) rows rows)) _ _ from (by
      have:=St_gset (C:=clC) S.out (⟨x.n,x.k,⟨some ⟨lb,0,none⟩,x.lv.L.length,x.lv.L⟩,⟨some ⟨eb,0,none⟩,rows,List.replicate rows Ce0⟩⟩:Cl) (i:=i) (by have:=hCl2.out;have:=hih.out;omega)
      rw[cl_cs,List.length_replicate] at this
      exact this))
     clear S hcl hfr q0 q1 q2 q3 f0 f1 f2 f3
     have S:=T
     clear T
     refine hK.out _ _ (S.out.cb 3 rfl) ?_
     clear hK K'
     try simp only[Act.put,List.setIfInBounds_toArray,List.set_cons_zero,List.set_cons_succ]
     refine Wk.done (by kernel_rfl) ?_
     go_simp
     go_wp2
     go_meet
     exact⟨rfl,lb,eb,(S.out.prm (perm5 _ _ _ _ _)).sub⟩
   case rest=>
    obtain⟨rfl,lb,eb,S0⟩:=hcut
    replace S0:=Lib.hid S0
    clear S
    have hcs:clC.cs (⟨x.n,x.k,⟨some ⟨lb,0,none⟩,x.lv.L.length,x.lv.L⟩,⟨some ⟨eb,0,none⟩,rows,List.replicate rows Ce0⟩⟩:Cl)=[.string x.n,.int .i64 x.k,.slice (some ⟨lb,0,none⟩) x.lv.L.length x.lv.L.length,.slice (some ⟨eb,0,none⟩) rows rows]:=by rw[cl_cs,List.length_replicate]
    have hq3:Hid ((clC.all (Cs.set i ⟨x.n,x.k,⟨some ⟨lb,0,none⟩,x.lv.L.length,x.lv.L⟩,⟨some ⟨eb,0,none⟩,rows,List.replicate rows Ce0⟩⟩)).toArray[i*4+3]?=some (.slice (some ⟨eb,0,none⟩) rows rows)):=Lib.hid (by
     rw[List.getElem?_toArray]
     exact all_get (i:=i) clC (List.getElem?_set_self (by have:=hCl2.out;have:=hih.out;omega)) 3 _ (by rw[hcs];rfl))
    replace hcs:=Lib.hid hcs
    go_wp2
    go_loopw [38] (fun jv wx=>∃ (j:Nat) (Es:List Ce) (rs':List GRd),j≤rows∧jv=.int .i64 j∧Es.length=rows∧St w wx ((eb,(ceC.all Es).toArray,58)::(w.heap.size+2,(clC.all (Cs.set i ⟨x.n,x.k,⟨some ⟨lb,0,none⟩,x.lv.L.length,x.lv.L⟩,⟨some ⟨eb,0,none⟩,rows,List.replicate rows Ce0⟩⟩)).toArray,56)::(lb,(strC.all x.lv.L).toArray,9)::(w.heap.size+1,#[.int .i64 0,.slice none 0 0],37)::(w.heap.size,#[.int .i64 R,.slice (some ⟨b,o,none⟩) tn tc],37)::F) rs'∧(∀ p∈rs,p∈rs')∧∀ q,q<j→∃ e,Es[q]?=some e∧(∀ v,ceC.In v [] rs' e)∧e.cx=(Y i q).cx∧LtC e) (fun jv _=>rows-(intOf jv).toNat)
    case atStart=>exact⟨0,List.replicate rows Ce0,rs,Nat.zero_le _,rfl,List.length_replicate,S0.out,fun _ h=>h,fun q hq=>absurd hq (Nat.not_lt_zero _)⟩
    case round=>
     clear S0
     obtain⟨j,Es,rs',hjn,rfl,hEl,S,hsub,hEq⟩:=hrel
     by_cases hlt:j<rows
     ·have g3:(j:Int)<(rows:Int):=by omega
      have g4:(0:Int)≤(j:Int):=by omega
      obtain⟨ey,hEj⟩:∃ y,Es[j]?=some y:=⟨_,List.getElem?_eq_getElem (by omega)⟩
      have hjh:=Lib.hid hlt
      obtain⟨hyl,hya,hYc⟩:=hYh.out i j hih.out hlt
      obtain⟨y,hyd⟩:∃ y,y=Y i j:=⟨_,rfl⟩
      rw[←hyd] at hyl hya hYc
      have hCc:=Lib.hid (fun W (hW:Below w.heap.size w W)=>copyCell_any y W ((ce_at.1 hya).1.below hW) ((ce_at.1 hya).2.below hW) hyl)
      replace hyl:=Lib.hid hyl
      replace hyd:=Lib.hid hyd
      replace hYc:=Lib.hid hYc
      replace hEj:=Lib.hid hEj
      replace hEl:=Lib.hid hEl
      replace hsub:=Lib.hid hsub
      replace hEq:=Lib.hid hEq
      replace S:=Lib.hid S
      clear hlt hjn hya
      rename World=>wx
      go_upto_region 9 with fail
      have hbase:=Lib.hid (St.new wx)
      refine RW.begin (Z:=[]) (S:=(fun W=>Cb W (w.heap.size+2) (clC.all (Cs.set i ⟨x.n,x.k,⟨some ⟨lb,0,none⟩,x.lv.L.length,x.lv.L⟩,⟨some ⟨eb,0,none⟩,rows,List.replicate rows Ce0⟩⟩)).toArray 56)) (by kernel_rfl) ?_ hbase.out ?_
      ·exact⟨by kernel_rfl,zis_nil,by decide,by decide,nol_nil,(fun _ _ h=>(S.out.cb 1 rfl).bel h.bel)⟩
      intro hzk
      refine RW.t (i:=0) (v:=.slice (some ⟨w.heap.size+2,0,none⟩) tn tn) (some 41) at0 (hy:=fun _ _=>by kernel_rfl) (h:=?_)
      refine RW.t (i:=1) (v:=.int .i64 i) (some 42) at1 (hy:=fun _ _=>by kernel_rfl) (h:=?_)
      refine RW.t (i:=2) (v:=.pointer (some ⟨w.heap.size+2,i*4,none⟩)) (some 43) at2 (hy:=fun _ _=>by go_simp) (h:=?_)
      refine RW.t (i:=3) (v:=.pointer (some ⟨w.heap.size+2,i*4+3,none⟩)) (some 44) at3 (hy:=fun _ _=>by go_simp) (h:=?_)
      refine RW.t (i:=4) (v:=.slice (some ⟨eb,0,none⟩) rows rows) (some 45) at4 (hy:=fun W hS=>by (have k0:=Cb.cell (i:=i*4+3) hS hq3.out;clear hS;go_simp)) (h:=?_)
      refine RW.t (i:=5) (v:=.int .i64 j) (some 46) at5 (hy:=fun _ _=>by kernel_rfl) (h:=?_)
      refine RW.t (i:=6) (v:=.func (.func f) #[] #[va,vb]) (some 47) at6 (hy:=fun _ _=>by kernel_rfl) (h:=?_)
      refine RW.t (i:=7) (v:=.int .i64 i) (some 48) at7 (hy:=fun _ _=>by kernel_rfl) (h:=?_)
      refine RW.t (i:=8) (v:=.int .i64 j) (some 49) at8 (hy:=fun _ _=>by kernel_rfl) (h:=?_)
      refine RW.tail hzk.out (by kernel_rfl) ?_
      intro gs' wx6 hgs' hS Sb
      obtain rfl:=len0 hgs'
      simp only[mark,fill,Act.put,List.setIfInBounds_toArray,List.set_cons_zero,List.set_cons_succ]
      have T:=Lib.hid (S.out.call Sb.bel)
      clear S Sb hS hgs' hzk hbase
      have S:=T
      clear T
      refine Wk.o (i:=9) at9 (by kernel_rfl) fun K' hK=>?_
      refine oper_call (f:=f) (args:=#[.int .i64 (i:Nat),.int .i64 (j:Nat),va,vb]) rfl (by go_simp;exact hcf.out _ _ _) ((hYc.out _ S.out.bel).mono ?_)
      rintro e wx7 ⟨rfl,bb⟩
      have T:=Lib.hid (S.out.call bb)
      clear S bb
      have S:=T
      clear T
      refine⟨_,rfl,hK.out _ _ (S.out.cb 1 rfl) ?_⟩
      clear hK K'
      try simp only[Act.put,List.setIfInBounds_toArray,List.set_cons_zero,List.set_cons_succ]
      refine Wk.o (i:=10) at10 (by kernel_rfl) fun K' hK=>?_
      refine oper_call (f:=79) (args:=#[.agg #[.bool y.m,.bool y.v.b,.slice y.v.x.A y.v.x.n y.v.x.c,.slice y.v.y.A y.v.y.n y.v.y.c,.int .i64 y.l]]) rfl (by kernel_rfl) ((hCc.out _ S.out.bel).mono ?_)
      rintro e wx8 ⟨A1,c1,A2,c2,rfl,Q1,Q2,bb⟩
      have T:=Lib.hid (((S.out.call bb).read Q2).read Q1)
      clear S bb Q1 Q2
      have S:=T
      clear T
      refine⟨_,rfl,hK.out _ _ (S.out.cb 1 rfl) ?_⟩
      clear hK K'
      try simp only[Act.put,List.setIfInBounds_toArray,List.set_cons_zero,List.set_cons_succ]
      refine Wk.o (i:=11) at11 (by kernel_rfl) fun K' hK=>?_
      go_simp
      refine hK.out _ _ (S.out.cb 1 rfl) ?_
      clear hK K'
      try simp only[Act.put,List.setIfInBounds_toArray,List.set_cons_zero,List.set_cons_succ]
      refine Wk.o (i:=12) at12 (by kernel_rfl) fun K' hK=>?_
      obtain⟨hcl,hfr⟩:=St_gcl (C:=ceC) S.out hEj.out
      have q0:=hcl 0 _ rfl
      have q1:=hcl 1 _ rfl
      have q2:=hcl 2 _ rfl
      have q3:=hcl 3 _ rfl
      have q4:=hcl 4 _ rfl
      have f0:=hfr (j*5)
      have f1:=hfr (j*5+1)
      have f2:=hfr (j*5+2)
      have f3:=hfr (j*5+3)
      have f4:=hfr (j*5+4)
      simp only[ce_sz,Nat.add_zero] at q0 q1 q2 q3 q4
      go_simp
      have T:=Lib.hid (show St w (World.setCell (World.setCell (World.setCell (World.setCell (World.setCell (wx8) ⟨eb,j*5,none⟩ (.bool y.m)) ⟨eb,j*5+1,none⟩ (.bool y.v.b)) ⟨eb,j*5+2,none⟩ (.slice A1 y.v.x.n c1)) ⟨eb,j*5+3,none⟩ (.slice A2 y.v.y.n c2)) ⟨eb,j*5+4,none⟩ (.int .i64 y.l)) _ _ from St_gset (C:=ceC) S.out (⟨y.m,⟨y.v.b,⟨A1,y.v.x.n,c1,y.v.x.x⟩,⟨A2,y.v.y.n,c2,y.v.y.x⟩⟩,y.l⟩:Ce) (i:=j) (by have:=hEl.out;have:=hjh.out;omega))
      clear S hcl hfr q0 q1 q2 q3 q4 f0 f1 f2 f3 f4
      have S:=T
      clear T
      refine hK.out _ _ (S.out.cb 1 rfl) ?_
      clear hK K'
      try simp only[Act.put,List.setIfInBounds_toArray,List.set_cons_zero,List.set_cons_succ]
      refine Wk.done (by kernel_rfl) ?_
      go_simp
      have hlt:=hjh.out
      have hbb:=hrh.out
      go_wp2
      go_roundw
      case rel=>
       refine⟨j+1,Es.set j ⟨y.m,⟨y.v.b,⟨A1,y.v.x.n,c1,y.v.x.x⟩,⟨A2,y.v.y.n,c2,y.v.y.x⟩⟩,y.l⟩,_,by omega,by go_num,by rw[List.length_set];exact hEl.out,S.out,fun p hp=>List.mem_cons_of_mem _ (List.mem_cons_of_mem _ (hsub.out p hp)),fun q hq=>?_⟩
       by_cases e:j=q
       ·subst e
        exact⟨_,List.getElem?_set_self (by have:=hEl.out;omega),fun _=>⟨trivial,⟨trivial,.inl List.mem_cons_self,.inl (List.mem_cons_of_mem _ List.mem_cons_self)⟩,trivial⟩,by rw[←hyd.out];rfl,hyl.out⟩
       ·obtain⟨e0,e1,e2,e3⟩:=hEq.out q (by omega)
        exact⟨e0,by rw[List.getElem?_set_ne e];exact e1,fun v=>ceC.mono (e2 v) (fun _ h=>h) (fun p hp=>List.mem_cons_of_mem _ (List.mem_cons_of_mem _ hp)),e3⟩
      case measure=>simp[intOf];omega
     ·obtain rfl:rows=j:=by omega
      have hE2:∀ q,q<rows→∃ e,Es[q]?=some e∧(∀ v,ceC.In v [] rs' e)∧e.cx=(Y i q).cx∧LtC e:=hEq
      have hcx:Es.map Ce.cx=(List.range rows).map (fun j=>(Y i j).cx):=by
       apply List.ext_getElem?
       intro q
       rcases Nat.lt_or_ge q rows with h1 | h1
       ·obtain⟨e,e1,_,e2,_⟩:=hE2 q h1
        rw[List.getElem?_map,e1,List.getElem?_map,List.getElem?_range h1]
        exact congrArg some e2
       ·rw[List.getElem?_eq_none (by rw[List.length_map];omega),List.getElem?_eq_none (by rw[List.length_map,List.length_range];exact h1)]
      have hEm:∀ e∈Es,(∀ v,ceC.In v [] rs' e)∧LtC e:=fun e he=>by
       obtain⟨q,hq⟩:=List.getElem?_of_mem he
       obtain⟨e',e1,e2,_,e3⟩:=hE2 q (by rw[←hEl];exact (List.getElem?_eq_some_iff.1 hq).1)
       rw[hq] at e1
       injection e1 with e1
       subst e1
       exact⟨e2,e3⟩
      have hset:clC.all (Cs.set i ⟨x.n,x.k,⟨some ⟨lb,0,none⟩,x.lv.L.length,x.lv.L⟩,⟨some ⟨eb,0,none⟩,rows,List.replicate rows Ce0⟩⟩)=clC.all (Cs.set i ⟨x.n,x.k,⟨some ⟨lb,0,none⟩,x.lv.L.length,x.lv.L⟩,⟨some ⟨eb,0,none⟩,rows,Es⟩⟩):=by
       rw[all_set clC _ (by have:=hCl2.out;have:=hih.out;omega),all_set clC _ (by have:=hCl2.out;have:=hih.out;omega),hcs.out,cl_cs,hEl]
      rw[hset] at S
      have S2:=Lib.hid (S.prm (perm6 _ _ _ _ _ _))
      replace hcx:=Lib.hid hcx
      replace hEm:=Lib.hid hEm
      replace hEl:=Lib.hid hEl
      replace hsub:=Lib.hid hsub
      have hltx:=hih.out
      have hnn:=hnh.out
      clear hlt hjn hE2 hEq hset S
      go_wp2
      go_roundw
      case rel=>
       refine⟨i+1,_,_,_,by omega,by go_num,by rw[List.length_set];exact hCl2.out,S2.out,fun q x' hqi hx'=>?_⟩
       by_cases e:i=q
       ·subst e
        obtain rfl:x=x':=by have:=hxe.out;rw[hx'] at this;exact (Option.some.inj this).symm
        refine⟨_,List.getElem?_set_self (by have:=hCl2.out;omega),fun _=>⟨trivial,trivial,⟨LI.blk (List.mem_cons_of_mem _ List.mem_cons_self) (fun _ _=>trivial),Nat.le_refl _⟩,⟨LI.blk List.mem_cons_self (fun e he=>ceC.mono ((hEm.out e he).1 _) (fun p hp=>by cases hp) (fun _ h=>h)),by show Es.length≤rows;rw[hEl.out];exact Nat.le_refl _⟩⟩,?_,?_⟩
        ·show Lx.mk _ _ _ _=Lx.mk _ _ _ _
         rw[←hcx.out]
        ·have:=hxl.out
         exact⟨this.1,this.2.1,this.2.2.1,by show Es.length≤2000;rw[hEl.out];have:=hrh.out;omega,fun e he=>(hEm.out e he).2⟩
       ·obtain⟨c,k1,k2,k3⟩:=hq.out q x' (by omega) hx'
        exact⟨c,by rw[List.getElem?_set_ne e];exact k1,fun v=>clC.mono (k2 v) (fun p hp=>List.mem_cons_of_mem _ (List.mem_cons_of_mem _ hp)) hsub.out,k3⟩
      case measure=>simp[intOf];omega
  ·obtain rfl:tn=i:=by omega
   have hat:∀ c∈Cs,(∀ v,clC.In v F rs c)∧LtL c:=fun c hc=>by
    obtain⟨q,hq1⟩:=List.getElem?_of_mem hc
    have hql:q<tn:=by rw[←hCl2];exact (List.getElem?_eq_some_iff.1 hq1).1
    obtain⟨x,hx⟩:∃ x,L[q]?=some x:=⟨_,List.getElem?_eq_getElem (by rw[hlen.out];exact hql)⟩
    obtain⟨c',k1,k2,_,k3⟩:=hq q x hql hx
    rw[hq1] at k1
    injection k1 with k1
    subst k1
    exact⟨k2,k3⟩
   have hcs:=Lib.hid (fun q x (hx:L[q]?=some x)=>(by
    obtain⟨c,k1,_,k2,_⟩:=hq q x (by rw[←hlen.out];exact (List.getElem?_eq_some_iff.1 hx).1) hx
    exact⟨c,k1,k2⟩:∃ c:Cl,Cs[q]?=some c∧c.lx=⟨x.n,x.k,x.lv.L,(List.range rows).map fun j=>(Y q j).cx⟩))
   obtain⟨c_0,c_1,f_0,f_1⟩:=S.cf2 1 rfl
   have hz:w.heap.size+1<wr.heap.size:=S.lt 1 rfl
   have T:=Lib.hid (show St w _ ((w.heap.size+2,(clC.all Cs).toArray,56)::(w.heap.size+1,#[.int .i64 rows,.slice (some ⟨w.heap.size+2,0,none⟩) tn tn],37)::(w.heap.size,#[.int .i64 R,.slice TA tn tc],37)::F) rs from ((S.set 1 0 (.int .i64 rows) rfl (by nofun)).set 1 1 (.slice (some ⟨w.heap.size+2,0,none⟩) tn tn) rfl (by nofun)))
   replace hat:=Lib.hid hat
   replace hCl2:=Lib.hid hCl2
   clear hlt hin hq S
   go_wp2
   refine bodyPost_ret (res_arr _ _ (w.heap.size+1) 37 rfl (T.out.cb 1 rfl)) rfl ⟨_,Cs,_,_,rfl,T.out,hCl2.out,fun c hc v=>clC.mono ((hat.out c hc).1 v) (fun p hp=>List.mem_cons_of_mem _ (List.mem_cons_of_mem _ hp)) (fun _ h=>h),hcs.out,fun c hc=>(hat.out c hc).2⟩
end Go.Proofs.YtdeedofmflelfaaGreatDoor

namespace Go.Proofs.YtdeedofmflelfaaGreatDoor
open Go.RowKit RQ
set_option linter.unusedVariables false
/-- The cell that Select takes. -/
def selY (L:List Cl) (Rs:List Nat) (i j:Nat):Ce:=(L.getD i Cl0).ce.L.getD (Rs.getD j 0) Ce0
def natI (Rs:List Nat):List Int:=Rs.map fun q:Nat=>(q:Int)
theorem natI_at {Rs:List Nat} {j q:Nat} (h:Rs[j]?=some q):(natI Rs)[j]?=some (q:Int):=by unfold natI;rw[List.getElem?_map,h];rfl
theorem ce_len {L:List Cl} {R:Nat} (hv:tabB (R:Int) (L.map Cl.lx)=true) {x:Cl} (hx:x∈L):x.ce.L.length=R:=by
 have:=(col_fits (List.all_eq_true.1 (tab_parts hv).2.2.2.2 x.lx (List.mem_map_of_mem hx))).1
 unfold Cl.lx at this
 rw[List.length_map] at this
 omega
theorem tab_tn {L:List Cl} {r:Int} (hv:tabB r (L.map Cl.lx)=true):L.length≤32:=by
 have:=(tab_parts hv).2.2.1
 rwa [List.length_map] at this
/-- The columns that are made say what is said of each. -/
theorem lx_map {L Cs:List Cl} (F:Lx→Lx) (hl:Cs.length=L.length) (h:∀ (q:Nat) (x:Cl),L[q]?=some x→∃ c:Cl,Cs[q]?=some c∧c.lx=F x.lx):Cs.map Cl.lx=(L.map Cl.lx).map F:=by
 apply List.ext_getElem?
 intro q
 rcases Nat.lt_or_ge q L.length with h1 | h1
 ·obtain⟨c,e1,e2⟩:=h q L[q] (List.getElem?_eq_getElem h1)
  rw[List.getElem?_map,e1,List.getElem?_map,List.getElem?_map,List.getElem?_eq_getElem h1]
  exact congrArg some e2
 ·rw[List.getElem?_eq_none (by rw[List.length_map];omega),List.getElem?_eq_none (by rw[List.length_map,List.length_map];exact h1)]
theorem selY_at {L:List Cl} {Rs:List Nat} {i j q:Nat} {x:Cl} (hx:L[i]?=some x) (hq:Rs[j]?=some q) (hl:q<x.ce.L.length):x.ce.L[q]?=some (selY L Rs i j):=by
 unfold selY
 rw[List.getD_eq_getElem?_getD (l:=L),hx,List.getD_eq_getElem?_getD (l:=Rs),hq]
 show x.ce.L[q]?=some (x.ce.L.getD q Ce0)
 rw[getD_lt _ hl,List.getElem?_eq_getElem hl]
theorem selY_ok {L:List Cl} {Rs:List Nat} {R:Nat} {TA rA:Option Addr} {tn tc rn rc gt gr tt tr:Nat} {W:World} (h:LR clC W TA tn L) (hx:∀ x∈L,LtL x) (hv:tabB (R:Int) (L.map Cl.lx)=true) (hr:LR intC W rA rn (natI Rs)) (hin:∀ q∈Rs,q<R) (ht:Cb W gt #[.int .i64 R,.slice TA tn tc] tt) (hg:Cb W gr #[.slice rA rn rc] tr) (i j:Nat) (hi:i<tn) (hj:j<rn):LtC (selY L Rs i j)∧ceC.At W (selY L Rs i j)∧∀ W',Below W.heap.size W W'→Calls Tryz.prog 80 #[.int .i64 (i:Nat),.int .i64 (j:Nat),.pointer (some ⟨gt,0,none⟩),.pointer (some ⟨gr,0,none⟩)] W' fun e w'=>e=.returned (.agg (selY L Rs i j).vs)∧Below W'.heap.size W' w':=by
 obtain⟨x,hxe⟩:∃ x,L[i]?=some x:=⟨_,List.getElem?_eq_getElem (by rw[h.len];exact hi)⟩
 have hxm:=List.mem_of_getElem? hxe
 obtain⟨q,hq⟩:∃ q,Rs[j]?=some q:=⟨_,List.getElem?_eq_getElem (by have:=hr.len;unfold natI at this;rw[List.length_map] at this;omega)⟩
 have hqR:q<x.ce.L.length:=by rw[ce_len hv hxm];exact hin q (List.mem_of_getElem? hq)
 have hy:=selY_at hxe hq hqR
 have hym:=List.mem_of_getElem? hy
 obtain⟨tb,tq,_,rfl,_⟩:=cl_get h hi
 obtain⟨rb,rq,_,rfl,_⟩:=int_get hr hj
 refine⟨(hx x hxm).2.2.2.2 _ hym,(cl_at.1 (h.el x hxm)).2.1.el _ hym,fun W' hW=>?_⟩
 exact select1_any R tb tq tn tc L rb rq rn rc (natI Rs) gt gr tt tr j i q x _ W' (h.bel hW) (hr.bel hW) (ht.bel hW) (hg.bel hW) hxe (natI_at hq) hy
theorem sel_lx {L Cs:List Cl} {Rs:List Nat} {R rn:Nat} (hv:tabB (R:Int) (L.map Cl.lx)=true) (hin:∀ q∈Rs,q<R) (hrn:Rs.length=rn) (hl:Cs.length=L.length) (h:∀ (q:Nat) (x:Cl),L[q]?=some x→∃ c:Cl,Cs[q]?=some c∧c.lx=⟨x.n,x.k,x.lv.L,(List.range rn).map fun j=>(selY L Rs q j).cx⟩):Cs.map Cl.lx=selL (L.map Cl.lx) Rs:=by
 refine lx_map (fun c=>⟨c.n,c.k,c.lv,Rs.map fun q=>c.ce.getD q cx0⟩) hl fun q x hx=>?_
 obtain⟨c,h1,h2⟩:=h q x hx
 refine⟨c,h1,h2.trans ?_⟩
 show Lx.mk _ _ _ _=Lx.mk _ _ _ _
 congr 1
 apply List.ext_getElem
 ·rw[List.length_map,List.length_map,List.length_range,hrn]
 ·intro j k1 k2
  rw[List.getElem_map,List.getElem_map,List.getElem_range]
  have hj:j<Rs.length:=by rw[List.length_map] at k2;exact k2
  have hqR:Rs[j]<x.ce.L.length:=by rw[ce_len hv (List.mem_of_getElem? hx)];exact hin _ (List.getElem_mem hj)
  have hy:=selY_at hx (List.getElem?_eq_getElem hj) hqR
  show _=(x.ce.L.map Ce.cx).getD Rs[j] cx0
  rw[getD_lt _ (by rw[List.length_map];exact hqR),List.getElem_map]
  rw[List.getElem?_eq_getElem hqR] at hy
  rw[Option.some.inj hy]
theorem res_sel (W:World) (tmps:Array Value) (g t:Nat) {v0 v1 e0:Value} (ht:tmps.getD 4 undef=.pointer (some ⟨g,0,none⟩)) (h0:tmps.getD 5 undef=e0) (h:Cb W g #[v0,v1] t) :
  (results Tryz.f35 tmps).run Tryz.prog W=.ok (.tuple #[.agg #[v0,v1],e0]) W:=by
 have c0:W.cell? ⟨g,0,none⟩=some v0:=h.cell rfl
 have c1:W.cell? ⟨g,1,none⟩=some v1:=h.cell rfl
 have ht':tmps[4]?.getD undef=.pointer (some ⟨g,0,none⟩):=by rw[←ht];simp[Array.getD_eq_getD_getElem?]
 have k0:tmps[5]?.getD undef=e0:=by rw[←h0];simp[Array.getD_eq_getD_getElem?]
 simp[results,Tryz.results35,go_sem,ht',k0,c0,c1]
set_option maxRecDepth 100000 in
set_option maxHeartbeats 4000000 in
/-- The rows of these numbers. -/
theorem select_any (R:Nat) (TA:Option Addr) (tn tc:Nat) (L:List Cl) (rA:Option Addr) (rn rc:Nat) (Rs:List Nat) (w:World) (h:LR clC w TA tn L) (hx:∀ x∈L,LtL x) (hv:tabB (R:Int) (L.map Cl.lx)=true) (hr:LR intC w rA rn (natI Rs)) (hin:∀ q∈Rs,q<R) (hrn:rn≤1024):Calls Tryz.prog 35 #[.agg #[.int .i64 R,.slice TA tn tc],.slice rA rn rc] w fun e w'=>∃ cb Cs,e=.returned (.tuple #[.agg #[.int .i64 rn,.slice (some ⟨cb,0,none⟩) tn tn],.int .i64 0])∧LR clC w' (some ⟨cb,0,none⟩) tn Cs∧Cs.map Cl.lx=selL (L.map Cl.lx) Rs∧(∀ c∈Cs,LtL c)∧Below w.heap.size w w':=by
 have hC:Hid (∀ W,Below w.heap.size w W→Calls Tryz.prog 74 #[.agg #[.int .i64 R,.slice TA tn tc],.int .i64 (R:Nat),.slice rA rn rc] W fun e w'=>e=.returned (.int .i64 0)∧Below W.heap.size W w'):=Lib.hid fun W hW=>check_ok L R TA tn tc R (natI Rs) rA rn rc W (h.bel hW) hx hv (hr.bel hW) (by omega) (fun z hz=>by
  unfold natI at hz
  obtain⟨q,hq,rfl⟩:=List.mem_map.1 hz
  have:=hin q hq
  exact⟨Int.natCast_nonneg _,by omega⟩)
 have hrl:Hid (Rs.length=rn):=Lib.hid (by have:=hr.len;unfold natI at this;rwa [List.length_map] at this)
 have htn:Hid (tn≤32):=Lib.hid (by rw[←h.len];exact tab_tn hv)
 have hlen:=Lib.hid h.len
 have g1:¬ (1024:Int)<(rn:Int):=by omega
 have hT:=Lib.hid h
 have hR:=Lib.hid hr
 have hLt:=Lib.hid hx
 have hrh:=Lib.hid hrn
 replace hv:=Lib.hid hv
 replace hin:=Lib.hid hin
 clear h hx hr hrn
 have S:=((((St.new w).allocAt (w.heap.size) #[.int .i64 R,.slice TA tn tc] 37 (noLof rfl) (by simp)).allocAt (w.heap.size+1) #[.slice rA rn rc] 69 (noLof rfl) (by simp)).allocAt (w.heap.size+1+1) #[.int .i64 0,.slice none 0 0] 37 (noLof rfl) (by simp))
 replace S:=Lib.hid S
 go_enter Tryz.func35,Tryz.ntmps35
 go_wp2_with fail
 refine (hC.out _ S.out.bel).mono ?_
 rintro e w1 ⟨rfl,bb⟩
 have T:=(S.out.call bb)
 clear bb S
 have S:=T
 clear T
 obtain⟨c_r0,c_r1,f_r0,f_r1⟩:=S.cf2 0 rfl
 have c_y0:=S.cl 1 0 rfl rfl
 have f_y0:=S.f 1 0 rfl
 obtain⟨c_x0,c_x1,f_x0,f_x1⟩:=S.cf2 2 rfl
 have hz:w.heap.size+1+1<w1.heap.size:=S.lt 0 rfl
 replace S:=Lib.hid S
 go_wp2_with fail
 refine (arranged2_any R TA tn tc rn L 80 (.pointer (some ⟨w.heap.size,0,none⟩)) (.pointer (some ⟨w.heap.size+1,0,none⟩)) (selY L Rs) _ (hT.out.bel S.out.bel) hLt.out htn.out hrh.out (fun _ _ _=>by kernel_rfl) (selY_ok (hT.out.bel S.out.bel) hLt.out hv.out (hR.out.bel S.out.bel) hin.out (S.out.cb 2 rfl) (S.out.cb 1 rfl))).mono ?_
 rintro e w2 ⟨cb,Cs,F1,rs1,rfl,SJ,hCl,hIn,hcs,hls⟩
 have T:St w _ ((w.heap.size+1+1,#[.int .i64 0,.slice none 0 0],37)::(w.heap.size+1,#[.slice rA rn rc],69)::(w.heap.size,#[.int .i64 R,.slice TA tn tc],37)::(cb,(clC.all Cs).toArray,56)::F1) rs1:=S.out.join SJ
 clear S SJ c_r0 f_r0 c_r1 f_r1 c_y0 f_y0 c_x0 f_x0 c_x1 f_x1 hz
 have S:=T
 clear T
 obtain⟨c_r0,c_r1,f_r0,f_r1⟩:=S.cf2 0 rfl
 have hz:w.heap.size+1+1<w2.heap.size:=S.lt 0 rfl
 replace S:=Lib.hid S
 replace hCl:=Lib.hid hCl
 replace hIn:=Lib.hid hIn
 replace hcs:=Lib.hid hcs
 replace hls:=Lib.hid hls
 have T:=Lib.hid (show St w _ ((w.heap.size+1+1,#[.int .i64 rn,.slice (some ⟨cb,0,none⟩) tn tn],37)::(w.heap.size+1,#[.slice rA rn rc],69)::(w.heap.size,#[.int .i64 R,.slice TA tn tc],37)::(cb,(clC.all Cs).toArray,56)::F1) rs1 from (S.out.set 0 0 (.int .i64 rn) rfl (by nofun)).set 0 1 (.slice (some ⟨cb,0,none⟩) tn tn) rfl (by nofun))
 clear S
 go_wp2
 have hLR:=St_glr (T.out.prm (perm4 _ _ _ _ _)) tn hCl.out (fun c hc=>clC.at_ T.out.sub.sub.sub.sub (hIn.out c hc _))
 refine bodyPost_ret (res_sel _ _ (w.heap.size+2) 37 rfl rfl (T.out.cb 0 rfl)) rfl ⟨cb,Cs,rfl,hLR,sel_lx hv.out hin.out hrl.out (by rw[hCl.out,hlen.out]) hcs.out,hls.out,T.out.bel⟩
end Go.Proofs.YtdeedofmflelfaaGreatDoor

namespace Go.Proofs.YtdeedofmflelfaaGreatDoor
open Go.RowKit RQ
set_option linter.unusedVariables false
/-- A list of numbers that grows, and the blocks in which it lies. -/
def OBi (ob:List GBk) (l:Sl Int):Prop:=(intC.all l.L).length=l.L.length*1∧NoLl (intC.all l.L)∧OB ob 3 1 l.v l.L.length (intC.all l.L)
section
variable {w W:World} {bs ob:List GBk} {rs rs':List GRd}
theorem OBi.gro {l:Sl Int} (h:OBi ob l) (S:St w W (bs++ob) rs):Gro intC w W bs rs 3 l.v l.L:=⟨Apd.close h S,fun x _=>trivial⟩
theorem Gro.opi {v:Value} {L:List Int} (G:Gro intC w W bs rs 3 v L):∃ (l:Sl Int) (ob:List GBk),v=l.v∧l.L=L∧OBi ob l∧St w W (bs++ob) rs:=by
 obtain⟨A,c,hv,hl⟩:=G.lr
 obtain⟨ob,h1,h2⟩:=G.1.open_
 exact⟨⟨A,c,L⟩,ob,hv,rfl,by subst hv;exact h1,h2⟩
theorem OBi.lrm {l:Sl Int} (h:OBi ob l) (S:St w W bs rs) (hm:∀ p∈ob,p∈bs):LR intC W l.A l.L.length l.L:=by
 obtain⟨h1,h2,⟨hv,h3,rfl⟩ | ⟨g,cap,cur,hv,h3,h4,h5,h6,rfl⟩⟩:=h
 ·exact⟨rfl,.inl h3,fun _ _=>trivial⟩
 ·injection hv with hA _ _
  have hb:=(S.bk _ (hm _ List.mem_cons_self)).1
  refine⟨rfl,.inr ⟨g,0,hA,hb.lt,fun i x hi k v hv=>?_⟩,fun _ _=>trivial⟩
  rw[Nat.zero_add]
  refine hb.cell ?_
  have hu:=all_get (i:=i) intC hi k v hv
  rw[←h6,List.getElem?_take] at hu
  split at hu
  ·simpa using hu
  ·cases hu
end
/-- Numbers that are made numbers of rows. -/
def modL (n:Nat) (l:List Int):List Nat:=if n=0 then [] else l.map fun z=>(z%(n:Int)).toNat
theorem modL_lt {n:Nat} {l:List Int}:∀ q∈modL n l,q<n:=by
 intro q hq
 unfold modL at hq
 split at hq
 ·cases hq
 ·obtain⟨z,_,rfl⟩:=List.mem_map.1 hq
  have h1:=Int.emod_nonneg z (show (n:Int)≠0 by omega)
  have h2:=Int.emod_lt_of_pos z (show (0:Int)<(n:Int) by omega)
  omega
theorem modL_le (n:Nat) (l:List Int):(modL n l).length≤l.length:=by
 unfold modL
 split
 ·exact Nat.zero_le _
 ·rw[List.length_map];exact Nat.le_refl _
theorem modL_at {n:Nat} {l:List Int} {i q:Nat} {z:Int} (hn:0<n) (hz:l[i]?=some z) (hq:z%(n:Int)=q):(modL n l)[i]?=some q:=by
 unfold modL
 rw[if_neg (by omega),List.getElem?_map,hz]
 show some (z%(n:Int)).toNat=_
 rw[hq,Int.toNat_natCast]
theorem modL_all {n:Nat} {l:List Int} {i:Nat} (h:n=0∨l.length≤i):(modL n l).take i=modL n l:=by
 rcases h with h | h
 ·unfold modL;rw[if_pos h,List.take_nil]
 ·exact List.take_of_length_le (Nat.le_trans (modL_le n l) h)
theorem natI_len (l:List Nat):(natI l).length=l.length:=List.length_map ..
theorem natI_snoc {l:List Nat} {i q:Nat} (h:l[i]?=some q):natI (l.take (i+1))=natI (l.take i)++[(q:Int)]:=by
 unfold natI
 rw[take_snoc h,List.map_append];rfl
theorem permA {α:Type} (X B C:List α):((X++C)++B).Perm (X++(B++C)):=by
 rw[List.append_assoc]
 exact List.Perm.append_left X List.perm_append_comm
theorem permC {α:Type} (X B C:List α):((X++B)++C).Perm ((X++C)++B):=by
 rw[List.append_assoc,List.append_assoc]
 exact List.Perm.append_left X List.perm_append_comm
theorem permB {α:Type} (X B C:List α):(X++(B++C)).Perm ((X++B)++C):=by rw[List.append_assoc]
set_option maxRecDepth 100000 in
set_option maxHeartbeats 4000000 in
theorem tst_any (R:Int) (TA:Option Addr) (tn tc:Nat) (L:List Cl) (aA:Option Addr) (an ac:Nat) (La:List Int) (bA:Option Addr) (bn bc:Nat) (Lb:List Int) (w:World) (h:LR clC w TA tn L) (ha:LR intC w aA an La) (hb:LR intC w bA bn Lb):Calls Tryz.prog 8 #[.agg #[.int .i64 R,.slice TA tn tc],.slice aA an ac,.slice bA bn bc] w fun e w'=>e=.returned (.bool true)∧Below w.heap.size w w':=by
 have hA:=Lib.hid (fun W=>awake_any W)
 have hLi:Hid (∀ W,Below w.heap.size w W→Calls Tryz.prog 28 #[.agg #[.int .i64 R,.slice TA tn tc]] W fun e w'=>(∃ v:Bool,e=.returned (.bool v)∧(v=true→tn≤40∧∀ x∈L,LiC x))∧Below W.heap.size W w'):=Lib.hid fun W hW=>llight_any R TA tn tc L W (h.bel hW)
 have hlen:=Lib.hid h.len
 have hT:=Lib.hid h
 have haL:=Lib.hid ha
 have hbL:=Lib.hid hb
 clear h ha hb
 have S:=((St.new w).allocAt (w.heap.size) #[.int .i64 R,.slice TA tn tc] 37 (noLof rfl) (by simp))
 replace S:=Lib.hid S
 go_enter Tryz.func8,Tryz.ntmps8
 go_wp2_with fail
 refine (hLi.out _ S.out.bel).mono ?_
 rintro e w1 ⟨⟨v,rfl,hli⟩,bb⟩
 have T:=(S.out.call bb)
 clear bb S
 have S:=T
 clear T
 obtain⟨c_x0,c_x1,f_x0,f_x1⟩:=S.cf2 0 rfl
 have hz:w.heap.size<w1.heap.size:=S.lt 0 rfl
 replace S:=Lib.hid S
 cases v
 ·clear hli hLi hT haL hbL
  go_wp2_with fail
  refine (hA.out _).mono ?_
  rintro e w2 ⟨rfl,bb⟩
  have T:=(S.out.call bb)
  clear bb S c_x0 f_x0 c_x1 f_x1 hz
  have S:=T
  clear T
  obtain⟨c_x0,c_x1,f_x0,f_x1⟩:=S.cf2 0 rfl
  have hz:w.heap.size<w2.heap.size:=S.lt 0 rfl
  replace S:=Lib.hid S
  go_wp2
  go_ret
  exact⟨rfl,S.out.bel⟩
 obtain⟨htn,hlc⟩:=hli rfl
 clear hli hLi
 replace htn:=Lib.hid htn
 replace hlc:=Lib.hid hlc
 by_cases h1:40<an
 ·have g1:(40:Int)<(an:Int):=by omega
  clear h1 hT haL hbL
  go_wp2_with fail
  refine (hA.out _).mono ?_
  rintro e w2 ⟨rfl,bb⟩
  have T:=(S.out.call bb)
  clear bb S c_x0 f_x0 c_x1 f_x1 hz
  have S:=T
  clear T
  obtain⟨c_x0,c_x1,f_x0,f_x1⟩:=S.cf2 0 rfl
  have hz:w.heap.size<w2.heap.size:=S.lt 0 rfl
  replace S:=Lib.hid S
  go_wp2
  go_ret
  exact⟨rfl,S.out.bel⟩
 have g1:¬ (40:Int)<(an:Int):=by omega
 by_cases h2:40<bn
 ·have g2:(40:Int)<(bn:Int):=by omega
  clear h1 h2 hT haL hbL
  go_wp2_with fail
  refine (hA.out _).mono ?_
  rintro e w2 ⟨rfl,bb⟩
  have T:=(S.out.call bb)
  clear bb S c_x0 f_x0 c_x1 f_x1 hz
  have S:=T
  clear T
  obtain⟨c_x0,c_x1,f_x0,f_x1⟩:=S.cf2 0 rfl
  have hz:w.heap.size<w2.heap.size:=S.lt 0 rfl
  replace S:=Lib.hid S
  go_wp2
  go_ret
  exact⟨rfl,S.out.bel⟩
 have g2:¬ (40:Int)<(bn:Int):=by omega
 have hsz:=Lib.hid (And.intro h1 h2)
 clear h1 h2
 have hV:Hid (∀ W,Below w.heap.size w W→Calls Tryz.prog 30 #[.agg #[.int .i64 R,.slice TA tn tc]] W fun e w'=>e=.returned (.bool (tabB R (L.map Cl.lx)))∧Below W.heap.size W w'):=Lib.hid fun W hW=>rValid_any R TA tn tc L W (hT.out.bel hW) (fun x hx=>(hlc.out x hx).l)
 cases hv:tabB R (L.map Cl.lx)
 ·rw[hv] at hV
  clear hT haL hbL hv
  go_wp2_with fail
  refine (hV.out _ S.out.bel).mono ?_
  rintro e w2 ⟨rfl,bb⟩
  have T:=(S.out.call bb)
  clear bb S c_x0 f_x0 c_x1 f_x1 hz
  have S:=T
  clear T
  obtain⟨c_x0,c_x1,f_x0,f_x1⟩:=S.cf2 0 rfl
  have hz:w.heap.size<w2.heap.size:=S.lt 0 rfl
  replace S:=Lib.hid S
  go_wp2_with fail
  refine (hA.out _).mono ?_
  rintro e w3 ⟨rfl,bb⟩
  have T:=(S.out.call bb)
  clear bb S c_x0 f_x0 c_x1 f_x1 hz
  have S:=T
  clear T
  obtain⟨c_x0,c_x1,f_x0,f_x1⟩:=S.cf2 0 rfl
  have hz:w.heap.size<w3.heap.size:=S.lt 0 rfl
  replace S:=Lib.hid S
  go_wp2
  go_ret
  exact⟨rfl,S.out.bel⟩
 rw[hv] at hV
 obtain⟨Rn,rfl⟩:=Int.eq_ofNat_of_zero_le (tab_parts hv).1
 replace hv:=Lib.hid hv
 go_wp2_with fail
 refine (hV.out _ S.out.bel).mono ?_
 rintro e w2 ⟨rfl,bb⟩
 have T:=(S.out.call bb)
 clear bb S c_x0 f_x0 c_x1 f_x1 hz
 have S:=T
 clear T
 obtain⟨c_x0,c_x1,f_x0,f_x1⟩:=S.cf2 0 rfl
 have hz:w.heap.size<w2.heap.size:=S.lt 0 rfl
 replace S:=Lib.hid S
 by_cases h4:40<Rn
 ·have g4:(40:Int)<(Rn:Int):=by omega
  clear h4 hT haL hbL hV
  go_wp2_with fail
  refine (hA.out _).mono ?_
  rintro e w3 ⟨rfl,bb⟩
  have T:=(S.out.call bb)
  clear bb S c_x0 f_x0 c_x1 f_x1 hz
  have S:=T
  clear T
  obtain⟨c_x0,c_x1,f_x0,f_x1⟩:=S.cf2 0 rfl
  have hz:w.heap.size<w3.heap.size:=S.lt 0 rfl
  replace S:=Lib.hid S
  go_wp2
  go_ret
  exact⟨rfl,S.out.bel⟩
 have g4:¬ (40:Int)<(Rn:Int):=by omega
 have hRn:=Lib.hid h4
 clear h4 hV
 obtain⟨Af,hAf⟩:∃ z,z=modL Rn La:=⟨_,rfl⟩
 obtain⟨nF,hnF⟩:∃ z,z=Af.length:=⟨_,rfl⟩
 have hnF40:Hid (nF≤40):=Lib.hid (by have h1:=modL_le Rn La;have h2:=haL.out.len;have:=hsz.out;rw[hnF,hAf];omega)
 have hFlt:Hid (∀ q∈Af,q<Rn):=Lib.hid (by rw[hAf];exact modL_lt)
 replace hAf:=Lib.hid hAf
 replace hnF:=Lib.hid hnF
 go_upto_block 0 with fail
 clear c_x0 f_x0 c_x1 f_x1 hz
 go_cut [7] (fun v7 wc=>∃ (A7:Option Addr) (c7:Nat) (ob:List GBk),v7=.slice A7 nF c7∧OBi ob ⟨A7,c7,natI Af⟩∧St w wc ((w.heap.size,#[.int .i64 Rn,.slice TA tn tc],37)::ob) [])
 case first=>
  go_wp2
  go_loopw [7,11] (fun av iv wr=>∃ (i:Nat) (v0:Value),i≤an∧iv=.int .i64 i∧v0=av∧Gro intC w wr [(w.heap.size,#[.int .i64 Rn,.slice TA tn tc],37)] [] 3 v0 (natI (Af.take i))) (fun _ iv _=>an-(intOf iv).toNat)
  case atStart=>exact⟨0,_,Nat.zero_le _,rfl,rfl,Gro.nil_ intC S.out _⟩
  case round=>
   clear S
   obtain⟨i,v0,hin,rfl,rfl,G⟩:=hrel
   obtain⟨c_0,c_1,f_0,f_1⟩:=G.st.cf2 0 rfl
   have hz:w.heap.size<wr.heap.size:=G.st.lt 0 rfl
   by_cases hlt:i<an
   ·by_cases hR0:0<Rn
    ·obtain⟨ba,oa,kk,rfl,hk,hkm,ek⟩:=int_get haL.out hlt
     have hM:=Lib.hid (fun W=>mmod_any kk Rn W (by omega) (by have:=hRn.out;omega))
     obtain⟨q,hq⟩:∃ q:Nat,kk%(Rn:Int)=q:=⟨(kk%(Rn:Int)).toNat,by have:=Int.emod_nonneg kk (show (Rn:Int)≠0 by omega);omega⟩
     have hsn:Hid (natI (Af.take (i+1))=natI (Af.take i)++[(q:Int)]):=Lib.hid (natI_snoc (by rw[hAf.out];exact modL_at hR0 hk hq))
     have hli:Hid (i≤40):=Lib.hid (by have:=hsz.out;omega)
     rw[hq] at hM
     have hih:=Lib.hid hlt
     have g5:(i:Int)<(an:Int):=by omega
     have g6:(0:Int)≤(i:Int):=by omega
     have g7:(0:Int)<(Rn:Int):=by omega
     replace ek:=Lib.hid ek
     replace G:=Lib.hid G
     clear hlt hin hk hkm hq hR0
     go_upto_region 7 with fail
     clear c_0 f_0 c_1 f_1 hz
     have hbase:=Lib.hid (St.new wr)
     refine RW.begin (Z:=[]) (S:=(fun W=>Cb W w.heap.size #[.int .i64 Rn,.slice TA tn tc] 37∧Below w.heap.size w W)) (by kernel_rfl) ?_ hbase.out ?_
     ·exact⟨by kernel_rfl,zis_nil,by decide,by decide,nol_nil,(fun _ _ h=>⟨(G.out.st.cb 0 rfl).bel h.bel,G.out.st.bel.trans (h.bel.mono G.out.st.bel.size)⟩)⟩
     intro hzk
     refine RW.t (i:=0) (v:=v0) (some 57) at0 (hy:=fun _ _=>by kernel_rfl) (h:=?_)
     refine RW.t (i:=1) (v:=.slice (some ⟨ba,oa,none⟩) an ac) (some 58) at1 (hy:=fun _ _=>by kernel_rfl) (h:=?_)
     refine RW.t (i:=2) (v:=.int .i64 i) (some 59) at2 (hy:=fun _ _=>by kernel_rfl) (h:=?_)
     refine RW.t (i:=3) (v:=.pointer (some ⟨ba,oa+i,none⟩)) (some 60) at3 (hy:=fun _ _=>by go_simp) (h:=?_)
     refine RW.t (i:=4) (v:=.int .i64 kk) (some 61) at4 (hy:=fun W hS=>by (have k0:=bel_cell hS.2 ek.out;clear hS;go_simp)) (h:=?_)
     refine RW.t (i:=5) (v:=.pointer (some ⟨w.heap.size,0,none⟩)) (some 62) at5 (hy:=fun _ _=>by kernel_rfl) (h:=?_)
     refine RW.t (i:=6) (v:=.int .i64 Rn) (some 63) at6 (hy:=fun W hS=>by (have k0:=Cb.cell (i:=0) hS.1 rfl;clear hS;go_simp)) (h:=?_)
     refine RW.c (i:=7) (args:=#[.int .i64 kk,.int .i64 Rn]) (some 64) hzk.out at7 (hx:=fun _=>by kernel_rfl) (h:=fun W S=>(hM.out W).mono ?_)
     rintro e w7 ⟨rfl,rfl⟩
     refine⟨Below.refl _ _,_,[],rfl,rd_nil,?_⟩
     clear S
     refine RW.tail hzk.out (by kernel_rfl) ?_
     intro gs' w5 hgs' hS Sb
     obtain rfl:=len0 hgs'
     simp only[mark,fill,Act.put,List.setIfInBounds_toArray,List.set_cons_zero,List.set_cons_succ]
     have T:=Lib.hid (G.out.call Sb.bel)
     clear G Sb hS hgs' hzk hbase
     have G:=T
     clear T
     refine Wk.o (i:=8) at8 (by kernel_rfl) fun K' hK=>?_
     go_simp
     have T:=Lib.hid (G.out.alloc #[.int .i64 q] 3 (noLof rfl))
     clear G
     refine hK.out _ _ ⟨T.out.st.cb 1 rfl,T.out.st.bel⟩ ?_
     clear hK K'
     try simp only[Act.put,List.setIfInBounds_toArray,List.set_cons_zero,List.set_cons_succ]
     refine Wk.o (i:=9) at9 (by kernel_rfl) fun K' hK=>?_
     refine Gro.op (.tmp 57) (.tmp 65) 69 rfl (.int .i64 0) 8 Tryz.underlying69 (by kernel_rfl) rfl (fun v hv z e=>by simp[Value.cells] at hv;subst hv;cases e) rfl T.out w5.heap.size (q:Int) rfl (T.out.st.cb 0 rfl) trivial (by have:=hli.out;simp only[natI_len,List.length_take];omega) (by have:=hli.out;simp only[natI_len,List.length_take];unfold maxLen;omega) ?_
     intro av1 w6 G2 hmk
     replace G2:=Lib.hid (G2.sub (fun _ _=>trivial))
     clear T hmk
     refine hK.out _ _ ⟨G2.out.st.cb 0 rfl,G2.out.st.bel⟩ ?_
     clear hK K'
     try simp only[Act.put,List.setIfInBounds_toArray,List.set_cons_zero,List.set_cons_succ]
     refine Wk.o (i:=10) at10 (by kernel_rfl) fun K' hK=>?_
     go_simp
     refine hK.out _ _ ⟨G2.out.st.cb 0 rfl,G2.out.st.bel⟩ ?_
     clear hK K'
     try simp only[Act.put,List.setIfInBounds_toArray,List.set_cons_zero,List.set_cons_succ]
     refine Wk.done (by kernel_rfl) ?_
     go_simp
     have hlt:=hih.out
     have hbb:=hsz.out
     go_wp2
     go_roundw
     case rel=>exact⟨i+1,av1,by omega,by go_num,rfl,by rw[hsn.out];exact G2.out⟩
     case measure=>simp[intOf];omega
    ·have hfin:=modL_all (n:=Rn) (l:=La) (i:=i) (.inl (by omega))
     rw[hAf.out,hfin,←hAf.out] at G
     have g5:(i:Int)<(an:Int):=by omega
     obtain rfl:Rn=0:=by omega
     obtain⟨l,ob,hav,hl,hob,S2⟩:=G.opi
     have hlL:l.L.length=nF:=by rw[hl,natI_len,hnF.out]
     replace hav:=hav.trans (show l.v=Value.slice l.A l.L.length l.c from rfl)
     rw[hlL] at hav
     subst hav
     replace hl:=Lib.hid hl
     replace hob:=Lib.hid hob
     replace S2:=Lib.hid S2
     clear hlL G
     clear hlt hin hR0 hfin
     go_wp2
     go_meet
     exact⟨l.A,l.c,ob,rfl,(by rw[←hl.out];exact hob.out),S2.out⟩
   ·obtain rfl:an=i:=by omega
    have hfin:=modL_all (n:=Rn) (l:=La) (i:=an) (.inr (by rw[haL.out.len];exact Nat.le_refl _))
    rw[hAf.out,hfin,←hAf.out] at G
    obtain⟨l,ob,hav,hl,hob,S2⟩:=G.opi
    have hlL:l.L.length=nF:=by rw[hl,natI_len,hnF.out]
    replace hav:=hav.trans (show l.v=Value.slice l.A l.L.length l.c from rfl)
    rw[hlL] at hav
    subst hav
    replace hl:=Lib.hid hl
    replace hob:=Lib.hid hob
    replace S2:=Lib.hid S2
    clear hlL G
    clear hlt hin hfin
    go_wp2
    go_meet
    exact⟨l.A,l.c,ob,rfl,(by rw[←hl.out];exact hob.out),S2.out⟩
 case rest=>
  obtain⟨AF,cF,obF,rfl,hoF,S⟩:=hcut
  replace hoF:=Lib.hid hoF
  replace S:=Lib.hid S
  obtain⟨As,hAs⟩:∃ z,z=modL nF Lb:=⟨_,rfl⟩
  obtain⟨Ab,hAb⟩:∃ z,z=As.map (fun q=>Af.getD q 0):=⟨_,rfl⟩
  obtain⟨nS,hnS⟩:∃ z,z=As.length:=⟨_,rfl⟩
  have hnS40:Hid (nS≤40):=Lib.hid (by have h1:=modL_le nF Lb;have h2:=hbL.out.len;have:=hsz.out;rw[hnS,hAs];omega)
  have hSlt:Hid (∀ q∈As,q<nF):=Lib.hid (by rw[hAs];exact modL_lt)
  have hAbl:Hid (Ab.length=As.length):=Lib.hid (by rw[hAb,List.length_map])
  replace hAs:=Lib.hid hAs
  replace hAb:=Lib.hid hAb
  replace hnS:=Lib.hid hnS
  go_upto_block 2 with fail
  go_cut [8,9] (fun v8 v9 wc=>∃ (l2 l3:Sl Int) (ob2 ob3:List GBk),v8=.slice l2.A nS l2.c∧v9=.slice l3.A nS l3.c∧l2.L=natI As∧l3.L=natI Ab∧OBi ob2 l2∧OBi ob3 l3∧St w wc (((w.heap.size,#[.int .i64 Rn,.slice TA tn tc],37)::obF)++(ob2++ob3)) [])
  case first=>
   go_wp2
   go_loopw [8,9,12] (fun v8 v9 iv wr=>∃ (i:Nat) (l2 l3:Sl Int) (ob2 ob3:List GBk),i≤bn∧iv=.int .i64 i∧v8=.slice l2.A l2.L.length l2.c∧v9=.slice l3.A l3.L.length l3.c∧l2.L=natI (As.take i)∧l3.L=natI (Ab.take i)∧OBi ob2 l2∧OBi ob3 l3∧St w wr (((w.heap.size,#[.int .i64 Rn,.slice TA tn tc],37)::obF)++(ob2++ob3)) []) (fun _ _ iv _=>bn-(intOf iv).toNat)
   case atStart=>exact⟨0,⟨none,0,[]⟩,⟨none,0,[]⟩,[],[],Nat.zero_le _,rfl,rfl,rfl,rfl,rfl,⟨rfl,(fun v hv=>by cases hv),.inl ⟨rfl,rfl,rfl⟩⟩,⟨rfl,(fun v hv=>by cases hv),.inl ⟨rfl,rfl,rfl⟩⟩,by rw[List.append_nil,List.append_nil];exact S.out⟩
   case round=>
    clear S
    obtain⟨i,l2,l3,ob2,ob3,hin,rfl,hv8,hv9,hl2,hl3,ho2,ho3,S⟩:=hrel
    subst hv8
    subst hv9
    by_cases hlt:i<bn
    ·by_cases hF0:0<nF
     ·obtain⟨ba,oa,kk,hbA,hk,hkm,ek⟩:=int_get (hbL.out.bel S.bel) hlt
      have hM:=Lib.hid (fun W=>mmod_any kk nF W (by omega) (by have:=hnF40.out;omega))
      obtain⟨q,hq⟩:∃ q:Nat,kk%(nF:Int)=q:=⟨(kk%(nF:Int)).toNat,by have:=Int.emod_nonneg kk (show (nF:Int)≠0 by omega);omega⟩
      have hql:q<nF:=by have:=Int.emod_lt_of_pos kk (show (0:Int)<(nF:Int) by omega);omega
      have hAsi:As[i]?=some q:=by rw[hAs.out];exact modL_at hF0 hk hq
      obtain⟨fq,hfq⟩:∃ z,Af[q]?=some z:=⟨_,List.getElem?_eq_getElem (by rw[←hnF.out];exact hql)⟩
      have hAbi:Ab[i]?=some fq:=by rw[hAb.out,List.getElem?_map,hAsi];show some (Af.getD q 0)=_;rw[List.getD_eq_getElem?_getD,hfq];rfl
      have hsn2:Hid (natI (As.take (i+1))=natI (As.take i)++[(q:Int)]):=Lib.hid (natI_snoc hAsi)
      have hsn3:Hid (natI (Ab.take (i+1))=natI (Ab.take i)++[(fq:Int)]):=Lib.hid (natI_snoc hAbi)
      have hS2:Hid ((natI (As.take (i+1)))[i]?=some (q:Int)):=Lib.hid (natI_at (by rw[List.getElem?_take,if_pos (by omega)];exact hAsi))
      have hF2:Hid ((natI Af)[q]?=some (fq:Int)):=Lib.hid (natI_at hfq)
      have hl2n:Hid (l2.L.length=i):=Lib.hid (by rw[hl2,natI_len,List.length_take];have:=(List.getElem?_eq_some_iff.1 hAsi).1;omega)
      have hl3n:Hid (l3.L.length=i):=Lib.hid (by rw[hl3,natI_len,List.length_take];have:=(List.getElem?_eq_some_iff.1 hAbi).1;omega)
      have hli:Hid (i≤40):=Lib.hid (by have:=hsz.out;omega)
      rw[hq] at hM
      have hih:=Lib.hid hlt
      have g5:(i:Int)<(bn:Int):=by omega
      have g6:(0:Int)≤(i:Int):=by omega
      have g7:(0:Int)<(nF:Int):=by omega
      have g8:(q:Int)<(nF:Int):=by omega
      have g9:(0:Int)≤(q:Int):=by omega
      have G2:=Lib.hid (OBi.gro (bs:=((w.heap.size,#[.int .i64 Rn,.slice TA tn tc],37)::obF)++ob3) ho2 (S.prm (permA _ _ _).symm))
      replace hl2:=Lib.hid hl2
      replace hl3:=Lib.hid hl3
      replace ho3:=Lib.hid ho3
      subst hbA
      clear hlt hin hk hkm hq hql hAsi hfq hAbi hF0 ho2 S
      go_wp2_with fail
      refine (hM.out _).mono ?_
      rintro e w7 ⟨rfl,rfl⟩
      clear ek
      have GA:=Lib.hid (G2.out.alloc #[.int .i64 q] 3 (noLof rfl))
      clear G2
      go_wp2_with (at_builtin;refine Gro.wp2 rfl (.tmp 78) (.tmp 86) 69 rfl (.int .i64 0) 8 Tryz.underlying69 (by kernel_rfl) rfl (fun v hv z e=>by simp[Value.cells] at hv;subst hv;cases e) rfl GA.out w7.heap.size (q:Int) rfl ((GA.out.st).cb 0 rfl) trivial (by have:=hl2n.out;have:=hli.out;omega) (by have:=hl2n.out;have:=hli.out;unfold maxLen;omega) ?_)
      intro av1 w6 G3 hmk
      obtain⟨⟨A8,c8,L8⟩,ob8,hav,hl8,ho8,S8⟩:=(G3.sub (fun _ _=>trivial)).opi
      clear GA hmk G3
      replace hav:=hav.trans (show Sl.v ⟨A8,c8,L8⟩=Value.slice A8 L8.length c8 from rfl)
      replace hl8:L8=natI (As.take (i+1)):=by rw[hsn2.out,←hl2.out];exact hl8
      have hL8n:L8.length=l2.L.length+1:=by rw[hl8,hsn2.out,←hl2.out,List.length_append];rfl
      obtain⟨n8,hn8⟩:∃ z,z=L8.length:=⟨_,rfl⟩
      rw[←hn8] at hav
      subst hav
      have hlr8:=OBi.lrm ho8 S8 (fun p hp=>List.mem_append_right _ hp)
      have hlrF:=OBi.lrm hoF.out S8 (fun p hp=>List.mem_append_left _ (List.mem_append_left _ (List.mem_cons_of_mem _ hp)))
      have hi8:i<n8:=by have:=hl2n.out;omega
      obtain⟨sb,so,_,hA8,_⟩:=hlr8.get (show i<L8.length by omega)
      have hA8:A8=some ⟨sb,so,none⟩:=hA8
      subst hA8
      have es:=lr_cell (x:=(q:Int)) hlr8 (show L8[i]?=some (q:Int) by rw[hl8];exact hS2.out) (k:=0) rfl
      obtain⟨fb,fo,_,hAF,_⟩:=hlrF.get (show q<(natI Af).length by rw[natI_len,←hnF.out];omega)
      replace hAF:AF=some ⟨fb,fo,none⟩:=hAF
      subst hAF
      have ef:=lr_cell (x:=(fq:Int)) hlrF hF2.out (k:=0) rfl
      rw[show intC.sz=1 from rfl,Nat.mul_one,Nat.add_zero] at es ef
      have q1:(i:Int)<(n8:Int):=by omega
      have G3:=Lib.hid (OBi.gro (bs:=((w.heap.size,#[.int .i64 Rn,.slice TA tn tc],37)::obF)++ob8) ho3.out (S8.prm (permC ((w.heap.size,#[.int .i64 Rn,.slice TA tn tc],37)::obF) _ _)))
      replace ho8:=Lib.hid ho8
      replace hl8:=Lib.hid hl8
      replace hn8:=Lib.hid hn8
      clear S8 hlr8 hlrF hi8 hL8n
      have GA:=Lib.hid (G3.out.alloc #[.int .i64 fq] 3 (noLof rfl))
      clear G3
      go_wp2_with (at_builtin;refine Gro.wp2 rfl (.tmp 88) (.tmp 96) 69 rfl (.int .i64 0) 8 Tryz.underlying69 (by kernel_rfl) rfl (fun v hv z e=>by simp[Value.cells] at hv;subst hv;cases e) rfl GA.out w6.heap.size (fq:Int) rfl ((GA.out.st).cb 0 rfl) trivial (by have:=hl3n.out;have:=hli.out;omega) (by have:=hl3n.out;have:=hli.out;unfold maxLen;omega) ?_)
      intro av2 w8 G4 hmk
      obtain⟨l9,ob9,hav,hl9,ho9,S9⟩:=(G4.sub (fun _ _=>trivial)).opi
      clear GA hmk G4 es ef
      replace hav:=hav.trans (show l9.v=Value.slice l9.A l9.L.length l9.c from rfl)
      subst hav
      replace hl9:l9.L=natI (Ab.take (i+1)):=by rw[hsn3.out,←hl3.out];exact hl9
      have H:=Lib.hid (And.intro hl9 (And.intro ho9 (S9.prm (permB (α:=GBk) ((w.heap.size,#[.int .i64 Rn,.slice TA tn tc],37)::obF) ob8 ob9).symm)))
      clear hl9 ho9 S9
      have hlt:=hih.out
      have hbb:=hsz.out
      go_wp2
      go_roundw
      case rel=>exact⟨i+1,⟨some ⟨sb,so,none⟩,c8,L8⟩,l9,ob8,ob9,by omega,by go_num,by rw[hn8.out],rfl,hl8.out,H.out.1,ho8.out,H.out.2.1,H.out.2.2⟩
      case measure=>simp[intOf];omega
     ·have hfin:=modL_all (n:=nF) (l:=Lb) (i:=i) (.inl (by omega))
      rw[←hAs.out] at hfin
      rw[hfin] at hl2
      rw[show Ab.take i=Ab by rw[hAb.out,←List.map_take,hfin]] at hl3
      have g5:(i:Int)<(bn:Int):=by omega
      obtain rfl:nF=0:=by omega
      have hl2L:l2.L.length=nS:=by rw[hl2,natI_len,hnS.out]
      have hl3L:l3.L.length=nS:=by rw[hl3,natI_len,hAbl.out,hnS.out]
      have H:=Lib.hid (And.intro hl2 (And.intro hl3 (And.intro ho2 (And.intro ho3 S))))
      rw[hl2L,hl3L]
      clear hl2 hl3 ho2 ho3 S hl2L hl3L hlt hin hF0 hfin
      go_wp2
      go_meet
      exact⟨l2,l3,ob2,ob3,rfl,rfl,H.out.1,H.out.2.1,H.out.2.2.1,H.out.2.2.2.1,H.out.2.2.2.2⟩
    ·obtain rfl:bn=i:=by omega
     have hfin:=modL_all (n:=nF) (l:=Lb) (i:=bn) (.inr (by rw[hbL.out.len];exact Nat.le_refl _))
     rw[←hAs.out] at hfin
     rw[hfin] at hl2
     rw[show Ab.take bn=Ab by rw[hAb.out,←List.map_take,hfin]] at hl3
     have hl2L:l2.L.length=nS:=by rw[hl2,natI_len,hnS.out]
     have hl3L:l3.L.length=nS:=by rw[hl3,natI_len,hAbl.out,hnS.out]
     have H:=Lib.hid (And.intro hl2 (And.intro hl3 (And.intro ho2 (And.intro ho3 S))))
     rw[hl2L,hl3L]
     clear hl2 hl3 ho2 ho3 S hl2L hl3L hlt hin hfin
     go_wp2
     go_meet
     exact⟨l2,l3,ob2,ob3,rfl,rfl,H.out.1,H.out.2.1,H.out.2.2.1,H.out.2.2.2.1,H.out.2.2.2.2⟩
  case rest=>
   obtain⟨l2,l3,ob2,ob3,rfl,rfl,hl2,hl3,ho2,ho3,S0⟩:=hcut
   clear S
   have S:=Lib.hid S0
   clear S0
   replace hl2:=Lib.hid hl2
   replace hl3:=Lib.hid hl3
   replace ho2:=Lib.hid ho2
   replace ho3:=Lib.hid ho3
   go_wp2
   go_loopw [10,13] (fun av iv wr=>∃ (i:Nat) (v0:Value),i≤Rn∧iv=.int .i64 i∧v0=av∧Gro intC w wr (((w.heap.size,#[.int .i64 Rn,.slice TA tn tc],37)::obF)++(ob2++ob3)) [] 3 v0 (natI (List.range i))) (fun _ iv _=>Rn-(intOf iv).toNat)
   case atStart=>exact⟨0,_,Nat.zero_le _,rfl,rfl,Gro.nil_ intC S.out _⟩
   case round=>
    clear S
    obtain⟨i,v0,hin,rfl,rfl,G⟩:=hrel
    obtain⟨c_0,c_1,f_0,f_1⟩:=G.st.cf2 0 rfl
    have hz:w.heap.size<wr.heap.size:=G.st.lt 0 rfl
    by_cases hlt:i<Rn
    ·have hih:=Lib.hid hlt
     have g5:(i:Int)<(Rn:Int):=by omega
     have hli:Hid (i≤40):=Lib.hid (by have:=hRn.out;omega)
     have GA:=Lib.hid (G.alloc #[.int .i64 i] 3 (noLof rfl))
     clear hlt hin G
     go_wp2_with (at_builtin;refine Gro.wp2 rfl (.tmp 104) (.tmp 106) 69 rfl (.int .i64 0) 8 Tryz.underlying69 (by kernel_rfl) rfl (fun v hv z e=>by simp[Value.cells] at hv;subst hv;cases e) rfl GA.out wr.heap.size (i:Int) rfl ((GA.out.st).cb 0 rfl) trivial (by have:=hli.out;simp only[natI_len,List.length_range];omega) (by have:=hli.out;simp only[natI_len,List.length_range];unfold maxLen;omega) ?_)
     intro av1 w6 G2 hmk
     replace G2:=Lib.hid (G2.sub (fun _ _=>trivial))
     clear GA hmk c_0 f_0 c_1 f_1 hz
     have hlt:=hih.out
     have hbb:=hRn.out
     go_wp2
     go_roundw
     case rel=>exact⟨i+1,av1,by omega,by go_num,rfl,by rw[show natI (List.range (i+1))=natI (List.range i)++[(i:Int)] by unfold natI;rw[List.range_succ,List.map_append];rfl];exact G2.out⟩
     case measure=>simp[intOf];omega
    ·obtain rfl:Rn=i:=by omega
     have hSt:=G.st
     obtain⟨l4,ob4,hav,hl4,ho4,S4⟩:=G.opi
     have hl4L:l4.L.length=Rn:=by rw[hl4,natI_len,List.length_range]
     replace hav:=hav.trans (show l4.v=Value.slice l4.A l4.L.length l4.c from rfl)
     rw[hl4L] at hav
     subst hav
     have r1:=OBi.lrm hoF.out S4 (fun p hp=>by simp[hp])
     have r2:=OBi.lrm ho2.out S4 (fun p hp=>by simp[hp])
     have r3:=OBi.lrm ho3.out S4 (fun p hp=>by simp[hp])
     have r4:=OBi.lrm ho4 S4 (fun p hp=>by simp[hp])
     replace r1:LR intC wr AF nF (natI Af):=by
      have e:(⟨AF,cF,natI Af⟩:Sl Int).L.length=nF:=by show (natI Af).length=nF;rw[natI_len,hnF.out]
      rw[e] at r1;exact r1
     rw[hl2.out,natI_len,←hnS.out] at r2
     rw[hl3.out,natI_len,hAbl.out,←hnS.out] at r3
     rw[hl4,natI_len,List.length_range] at r4
     have hX:=Lib.hid (hSt.cb 0 rfl)
     have hTd:=Lib.hid (hT.out.bel hSt.bel)
     have hbl:=Lib.hid hSt.bel
     have hLl:Hid (∀ x∈L,LtL x):=Lib.hid fun x hx=>(hlc.out x hx).l
     have hBlt:Hid (∀ q∈Ab,q<Rn):=Lib.hid (fun q hq=>by
      rw[hAb.out] at hq
      obtain⟨p,hp,rfl⟩:=List.mem_map.1 hq
      have hpl:p<Af.length:=by rw[←hnF.out];exact hSlt.out p hp
      rw[getD_lt _ hpl]
      exact hFlt.out _ (List.getElem_mem hpl))
     replace r1:=Lib.hid r1
     replace r2:=Lib.hid r2
     replace r3:=Lib.hid r3
     replace r4:=Lib.hid r4
     clear hlt hin G hSt S4 ho4 hl4 hl4L hoF ho2 ho3 c_0 f_0 c_1 f_1 hz
     rename World=>b0
     have c_x0:=hX.out.cell (i:=0) rfl
     have c_x1:=hX.out.cell (i:=1) rfl
     go_wp2_with fail
     refine (select_any Rn TA tn tc L AF nF cF Af _ hTd.out hLl.out hv.out r1.out hFlt.out (by have:=hnF40.out;omega)).mono ?_
     rintro e w1 ⟨cb1,Cs1,rfl,hr1,hx1,hm1,bb⟩
     clear c_x0 c_x1
     have T:=Lib.hid (((St.new b0).call bb).allocAt w1.heap.size #[.int .i64 nF,.slice (some ⟨cb1,0,none⟩) tn tn] 37 (noLof rfl) rfl)
     replace hr1:=Lib.hid (hr1.bel ((Below.refl w1.heap.size w1).alloc (Nat.le_refl _) (.cells #[.int .i64 nF,.slice (some ⟨cb1,0,none⟩) tn tn] 37)))
     replace hx1:=Lib.hid hx1
     replace hm1:=Lib.hid hm1
     clear bb
     go_upto_region 18 with fail
     obtain⟨g1,hg⟩:∃ g,g=w1.heap.size:=⟨_,rfl⟩
     rw[←hg] at T ⊢
     generalize hW:World.alloc w1 _=b1 at T hr1 ⊢
     clear hW hg
     replace hX:=Lib.hid (hX.out.bel T.out.bel)
     replace hTd:=Lib.hid (hTd.out.bel T.out.bel)
     replace r2:=Lib.hid (r2.out.bel T.out.bel)
     replace r3:=Lib.hid (r3.out.bel T.out.bel)
     replace r4:=Lib.hid (r4.out.bel T.out.bel)
     replace hbl:=Lib.hid (hbl.out.trans (T.out.bel.mono hbl.out.size))
     have hU:=Lib.hid (T.out.cb 0 rfl)
     clear T
     have c_u0:=hU.out.cell (i:=0) rfl
     have c_u1:=hU.out.cell (i:=1) rfl
     have c_x0:=hX.out.cell (i:=0) rfl
     have c_x1:=hX.out.cell (i:=1) rfl
     go_wp2_with fail
     refine (select_any nF (some ⟨cb1,0,none⟩) tn tn Cs1 l2.A nS l2.c As _ hr1.out hm1.out (by rw[hx1.out,hnF.out];exact selL_tab hv.out (fun q hq=>by have:=hFlt.out q hq;omega) (by rw[←hnF.out];have:=hnF40.out;omega)) r2.out hSlt.out (by have:=hnS40.out;omega)).mono ?_
     rintro e w2 ⟨cb2,Cs2,rfl,hr2,hx2,hm2,bb⟩
     clear c_u0 c_u1 c_x0 c_x1
     have T:=Lib.hid (((St.new b1).call bb).allocAt w2.heap.size #[.int .i64 nS,.slice (some ⟨cb2,0,none⟩) tn tn] 37 (noLof rfl) rfl)
     replace hr2:=Lib.hid (hr2.bel ((Below.refl w2.heap.size w2).alloc (Nat.le_refl _) (.cells #[.int .i64 nS,.slice (some ⟨cb2,0,none⟩) tn tn] 37)))
     replace hx2:=Lib.hid hx2
     replace hm2:=Lib.hid hm2
     clear bb
     go_upto_region 19 with fail
     obtain⟨g2,hg⟩:∃ g,g=w2.heap.size:=⟨_,rfl⟩
     rw[←hg] at T ⊢
     generalize hW:World.alloc w2 _=b2 at T hr2 ⊢
     clear hW hg
     replace hX:=Lib.hid (hX.out.bel T.out.bel)
     replace hTd:=Lib.hid (hTd.out.bel T.out.bel)
     replace r2:=Lib.hid (r2.out.bel T.out.bel)
     replace r3:=Lib.hid (r3.out.bel T.out.bel)
     replace r4:=Lib.hid (r4.out.bel T.out.bel)
     replace hU:=Lib.hid (hU.out.bel T.out.bel)
     replace hr1:=Lib.hid (hr1.out.bel T.out.bel)
     replace hbl:=Lib.hid (hbl.out.trans (T.out.bel.mono hbl.out.size))
     have hV:=Lib.hid (T.out.cb 0 rfl)
     clear T
     have c_v0:=hV.out.cell (i:=0) rfl
     have c_v1:=hV.out.cell (i:=1) rfl
     have c_x0:=hX.out.cell (i:=0) rfl
     have c_x1:=hX.out.cell (i:=1) rfl
     go_wp2_with fail
     refine (select_any Rn TA tn tc L l3.A nS l3.c Ab _ hTd.out hLl.out hv.out r3.out hBlt.out (by have:=hnS40.out;omega)).mono ?_
     rintro e w3 ⟨cb3,Cs3,rfl,hr3,hx3,hm3,bb⟩
     clear c_v0 c_v1 c_x0 c_x1
     have T:=Lib.hid (((St.new b2).call bb).allocAt w3.heap.size #[.int .i64 nS,.slice (some ⟨cb3,0,none⟩) tn tn] 37 (noLof rfl) rfl)
     replace hr3:=Lib.hid (hr3.bel ((Below.refl w3.heap.size w3).alloc (Nat.le_refl _) (.cells #[.int .i64 nS,.slice (some ⟨cb3,0,none⟩) tn tn] 37)))
     replace hx3:=Lib.hid hx3
     replace hm3:=Lib.hid hm3
     clear bb
     go_upto_region 20 with fail
     obtain⟨g3,hg⟩:∃ g,g=w3.heap.size:=⟨_,rfl⟩
     rw[←hg] at T ⊢
     generalize hW:World.alloc w3 _=b3 at T hr3 ⊢
     clear hW hg
     replace hX:=Lib.hid (hX.out.bel T.out.bel)
     replace hTd:=Lib.hid (hTd.out.bel T.out.bel)
     replace r2:=Lib.hid (r2.out.bel T.out.bel)
     replace r3:=Lib.hid (r3.out.bel T.out.bel)
     replace r4:=Lib.hid (r4.out.bel T.out.bel)
     replace hU:=Lib.hid (hU.out.bel T.out.bel)
     replace hr1:=Lib.hid (hr1.out.bel T.out.bel)
     replace hV:=Lib.hid (hV.out.bel T.out.bel)
     replace hr2:=Lib.hid (hr2.out.bel T.out.bel)
     replace hbl:=Lib.hid (hbl.out.trans (T.out.bel.mono hbl.out.size))
     have hY:=Lib.hid (T.out.cb 0 rfl)
     clear T
     have c_v0:=hV.out.cell (i:=0) rfl
     have c_v1:=hV.out.cell (i:=1) rfl
     have c_x0:=hX.out.cell (i:=0) rfl
     have c_x1:=hX.out.cell (i:=1) rfl
     have c_y0:=hY.out.cell (i:=0) rfl
     have c_y1:=hY.out.cell (i:=1) rfl
     go_wp2_with fail
     refine (select_any Rn TA tn tc L l4.A Rn l4.c (List.range Rn) _ hTd.out hLl.out hv.out r4.out (fun q hq=>List.mem_range.1 hq) (by have:=hRn.out;omega)).mono ?_
     rintro e w4 ⟨cb4,Cs4,rfl,hr4,hx4,hm4,bb⟩
     clear c_v0 c_v1 c_x0 c_x1 c_y0 c_y1
     have T:=Lib.hid (((St.new b3).call bb).allocAt w4.heap.size #[.int .i64 Rn,.slice (some ⟨cb4,0,none⟩) tn tn] 37 (noLof rfl) rfl)
     replace hr4:=Lib.hid (hr4.bel ((Below.refl w4.heap.size w4).alloc (Nat.le_refl _) (.cells #[.int .i64 Rn,.slice (some ⟨cb4,0,none⟩) tn tn] 37)))
     replace hx4:=Lib.hid hx4
     replace hm4:=Lib.hid hm4
     clear bb
     go_upto_region 21 with fail
     obtain⟨g4,hg⟩:∃ g,g=w4.heap.size:=⟨_,rfl⟩
     rw[←hg] at T ⊢
     generalize hW:World.alloc w4 _=b4 at T hr4 ⊢
     clear hW hg
     replace hX:=Lib.hid (hX.out.bel T.out.bel)
     replace hTd:=Lib.hid (hTd.out.bel T.out.bel)
     replace r2:=Lib.hid (r2.out.bel T.out.bel)
     replace r3:=Lib.hid (r3.out.bel T.out.bel)
     replace r4:=Lib.hid (r4.out.bel T.out.bel)
     replace hU:=Lib.hid (hU.out.bel T.out.bel)
     replace hr1:=Lib.hid (hr1.out.bel T.out.bel)
     replace hV:=Lib.hid (hV.out.bel T.out.bel)
     replace hr2:=Lib.hid (hr2.out.bel T.out.bel)
     replace hY:=Lib.hid (hY.out.bel T.out.bel)
     replace hr3:=Lib.hid (hr3.out.bel T.out.bel)
     replace hbl:=Lib.hid (hbl.out.trans (T.out.bel.mono hbl.out.size))
     have hZ:=Lib.hid (T.out.cb 0 rfl)
     clear T
     have c_v0:=hV.out.cell (i:=0) rfl
     have c_v1:=hV.out.cell (i:=1) rfl
     have c_x0:=hX.out.cell (i:=0) rfl
     have c_x1:=hX.out.cell (i:=1) rfl
     have c_y0:=hY.out.cell (i:=0) rfl
     have c_y1:=hY.out.cell (i:=1) rfl
     have c_z0:=hZ.out.cell (i:=0) rfl
     have c_z1:=hZ.out.cell (i:=1) rfl
     clear r1
     have e23:Hid (Cs2.map Cl.lx=Cs3.map Cl.lx):=Lib.hid (by rw[hx2.out,hx1.out,hx3.out,selL_two (fun q hq=>by rw[←hnF.out];exact hSlt.out q hq),hAb.out])
     have e4:Hid (Cs4.map Cl.lx=L.map Cl.lx):=Lib.hid (by rw[hx4.out,selL_all hv.out])
     go_wp2_with fail
     refine (hA.out _).mono ?_
     rintro e v5 ⟨rfl,bb⟩
     clear c_v0 c_v1 c_x0 c_x1 c_y0 c_y1 c_z0 c_z1
     replace hX:=Lib.hid (hX.out.bel bb)
     replace hTd:=Lib.hid (hTd.out.bel bb)
     replace r2:=Lib.hid (r2.out.bel bb)
     replace r3:=Lib.hid (r3.out.bel bb)
     replace r4:=Lib.hid (r4.out.bel bb)
     replace hU:=Lib.hid (hU.out.bel bb)
     replace hr1:=Lib.hid (hr1.out.bel bb)
     replace hV:=Lib.hid (hV.out.bel bb)
     replace hr2:=Lib.hid (hr2.out.bel bb)
     replace hY:=Lib.hid (hY.out.bel bb)
     replace hr3:=Lib.hid (hr3.out.bel bb)
     replace hZ:=Lib.hid (hZ.out.bel bb)
     replace hr4:=Lib.hid (hr4.out.bel bb)
     replace hbl:=Lib.hid (hbl.out.trans (bb.mono hbl.out.size))
     clear bb
     have c_v0:=hV.out.cell (i:=0) rfl
     have c_v1:=hV.out.cell (i:=1) rfl
     have c_x0:=hX.out.cell (i:=0) rfl
     have c_x1:=hX.out.cell (i:=1) rfl
     have c_y0:=hY.out.cell (i:=0) rfl
     have c_y1:=hY.out.cell (i:=1) rfl
     have c_z0:=hZ.out.cell (i:=0) rfl
     have c_z1:=hZ.out.cell (i:=1) rfl
     go_wp2_with fail
     refine (same_yes nS (some ⟨cb2,0,none⟩) tn tn Cs2 (some ⟨cb3,0,none⟩) tn Cs3 _ hr2.out hr3.out e23.out (by have:=htn.out;omega) hm2.out hm3.out).mono ?_
     rintro e v6 ⟨rfl,bb⟩
     clear c_v0 c_v1 c_x0 c_x1 c_y0 c_y1 c_z0 c_z1
     replace hX:=Lib.hid (hX.out.bel bb)
     replace hTd:=Lib.hid (hTd.out.bel bb)
     replace r2:=Lib.hid (r2.out.bel bb)
     replace r3:=Lib.hid (r3.out.bel bb)
     replace r4:=Lib.hid (r4.out.bel bb)
     replace hU:=Lib.hid (hU.out.bel bb)
     replace hr1:=Lib.hid (hr1.out.bel bb)
     replace hV:=Lib.hid (hV.out.bel bb)
     replace hr2:=Lib.hid (hr2.out.bel bb)
     replace hY:=Lib.hid (hY.out.bel bb)
     replace hr3:=Lib.hid (hr3.out.bel bb)
     replace hZ:=Lib.hid (hZ.out.bel bb)
     replace hr4:=Lib.hid (hr4.out.bel bb)
     replace hbl:=Lib.hid (hbl.out.trans (bb.mono hbl.out.size))
     clear bb
     have c_v0:=hV.out.cell (i:=0) rfl
     have c_v1:=hV.out.cell (i:=1) rfl
     have c_x0:=hX.out.cell (i:=0) rfl
     have c_x1:=hX.out.cell (i:=1) rfl
     have c_y0:=hY.out.cell (i:=0) rfl
     have c_y1:=hY.out.cell (i:=1) rfl
     have c_z0:=hZ.out.cell (i:=0) rfl
     have c_z1:=hZ.out.cell (i:=1) rfl
     go_wp2_with fail
     refine (same_yes Rn (some ⟨cb4,0,none⟩) tn tn Cs4 TA tc L _ hr4.out hTd.out e4.out (by have:=htn.out;omega) hm4.out hLl.out).mono ?_
     rintro e v7 ⟨rfl,bb⟩
     clear c_v0 c_v1 c_x0 c_x1 c_y0 c_y1 c_z0 c_z1
     replace hX:=Lib.hid (hX.out.bel bb)
     replace hTd:=Lib.hid (hTd.out.bel bb)
     replace r2:=Lib.hid (r2.out.bel bb)
     replace r3:=Lib.hid (r3.out.bel bb)
     replace r4:=Lib.hid (r4.out.bel bb)
     replace hU:=Lib.hid (hU.out.bel bb)
     replace hr1:=Lib.hid (hr1.out.bel bb)
     replace hV:=Lib.hid (hV.out.bel bb)
     replace hr2:=Lib.hid (hr2.out.bel bb)
     replace hY:=Lib.hid (hY.out.bel bb)
     replace hr3:=Lib.hid (hr3.out.bel bb)
     replace hZ:=Lib.hid (hZ.out.bel bb)
     replace hr4:=Lib.hid (hr4.out.bel bb)
     replace hbl:=Lib.hid (hbl.out.trans (bb.mono hbl.out.size))
     clear bb
     go_wp2
     go_ret
     exact⟨rfl,hbl.out⟩
end Go.Proofs.YtdeedofmflelfaaGreatDoor
