/- Further values that came in: records, fields, cells. Rows that are taken, added and left out: the mathematics. A table that is arranged anew. Select. The cells that Insert and Delete take. Delete. Insert. Row. The law: rows that are added and left out. -/
import Derived.Test.YtdeedofmflelfaaGreatDoorQDbz
import Derived.Test.YtdeedofmflelfaaGreatDoorQBez
import Derived.Test.YtdeedofmflelfaaGreatDoorQDdz
import Derived.Deep.CutRange
import Derived.Test.YtdeedofmflelfaaGreatDoorQChz
namespace Go.Proofs.YtdeedofmflelfaaGreatDoor
open Go.ChangeShapes Go.WideShapes Go.ChangeAt Go.RowKit Go.Joins Go.Deep RQ
set_option linter.unusedVariables false
set_option maxRecDepth 100000 in
/-- A slice that came in. -/
theorem open_sl {α:Type} {C:Cod α} {t e:TypeId} (hu:Program.underlying Tryz.prog t=some (.slice e)) (ho:Opn t (slC C)) {H:Type} {enc:TypeId×Value→H} {W:World} {b0:Nat} {r:Reach} {v:Value} {d:DataW H} {p:List MemPlace} (hv:Value.okWide Tryz.prog W r b0 t v) (h:DataW.Trod enc Tryz.prog W 0 (fun _=>true) true t v d p) :
  ∃ s:Sl α,v=.slice s.A s.L.length s.c∧LR C W s.A s.L.length s.L:=by
 obtain⟨sa,sl,sc,rfl⟩:=okWide_slice hu hv
 obtain⟨fuel,hf⟩:=h
 obtain⟨s,e,A1⟩:=ho (show DataW.trod enc Tryz.prog W 0 (fun _=>true) true fuel t [.slice sa sl sc]=some _ by simpa [Value.cells] using hf)
 have e:Value.slice sa sl sc=Value.slice s.A s.L.length s.c:=by simpa [slC,Sl.v] using e
 exact⟨s,e,A1.1⟩
end Go.Proofs.YtdeedofmflelfaaGreatDoor

namespace Go.Proofs.YtdeedofmflelfaaGreatDoor
open Go.RowKit RQ
set_option linter.unusedVariables false
def cx0:Cx:=(false,false,[],[],0)
/-- A cell is added at a place, the others follow. -/
def insC {κ:Type} (cs:List κ) (y d:κ) (p:Nat):List κ:=(List.range (cs.length+1)).map fun j=>if j<p then cs.getD j d else if j=p then y else cs.getD (j-1) d
/-- The cell at a place is left out. -/
def delC {κ:Type} (cs:List κ) (d:κ) (p:Nat):List κ:=(List.range (cs.length-1)).map fun j=>if j<p then cs.getD j d else cs.getD (j+1) d
theorem getD_lt {κ:Type} {cs:List κ} {q:Nat} (d:κ) (h:q<cs.length):cs.getD q d=cs[q]:=by
 rw[List.getD_eq_getElem?_getD,List.getElem?_eq_getElem h];rfl
theorem ins_len {κ:Type} (cs:List κ) (y d:κ) (p:Nat):(insC cs y d p).length=cs.length+1:=by unfold insC;rw[List.length_map,List.length_range]
theorem del_len {κ:Type} (cs:List κ) (d:κ) (p:Nat):(delC cs d p).length=cs.length-1:=by unfold delC;rw[List.length_map,List.length_range]
theorem ins_at {κ:Type} (cs:List κ) (y d:κ) (p:Nat) {j:Nat} (h:j<cs.length+1):(insC cs y d p).getD j d=if j<p then cs.getD j d else if j=p then y else cs.getD (j-1) d:=by
 rw[getD_lt d (by rw[ins_len];exact h)]
 unfold insC
 rw[List.getElem_map,List.getElem_range]
theorem del_at {κ:Type} (cs:List κ) (d:κ) (p:Nat) {j:Nat} (h:j<cs.length-1):(delC cs d p).getD j d=if j<p then cs.getD j d else cs.getD (j+1) d:=by
 rw[getD_lt d (by rw[del_len];exact h)]
 unfold delC
 rw[List.getElem_map,List.getElem_range]
/-- What has been added is left out again. -/
theorem del_ins {κ:Type} (cs:List κ) (y d:κ) (p:Nat):delC (insC cs y d p) d p=cs:=by
 apply List.ext_getElem
 ·rw[del_len,ins_len];rfl
 ·intro j h1 h2
  rw[←getD_lt d h1,←getD_lt d h2,del_at _ _ _ (by rw[ins_len];omega)]
  split
  ·rw[ins_at _ _ _ _ (by omega),if_pos (by assumption)]
  ·rw[ins_at _ _ _ _ (by omega),if_neg (by omega),if_neg (by omega),Nat.add_sub_cancel]
/-- What has been left out is added again. -/
theorem ins_del {κ:Type} (cs:List κ) (d:κ) (p:Nat) (hp:p<cs.length):insC (delC cs d p) (cs.getD p d) d p=cs:=by
 apply List.ext_getElem
 ·rw[ins_len,del_len];omega
 ·intro j h1 h2
  rw[←getD_lt d h1,←getD_lt d h2,ins_at _ _ _ _ (by rw[del_len];omega)]
  split
  ·rw[del_at _ _ _ (by omega),if_pos (by assumption)]
  ·split
   ·rename_i h;rw[h]
   ·rw[del_at _ _ _ (by omega),if_neg (by omega),show j-1+1=j by omega]
/-- Columns whose cells are other ones that fit. -/
theorem tab_map {r r':Int} {T:List Lx} (f:Lx→List Cx) (h:tabB r T=true) (h0:0≤r') (h1:r'≤1024) (hf:∀ c∈T,colB c r=true→((f c).length:Int)=r'∧∀ y∈f c,fitB c.k c.lv.length y=true):tabB r' (T.map fun c=>⟨c.n,c.k,c.lv,f c⟩)=true:=by
 obtain⟨h2,h3,h4,h5,h6⟩:=tab_parts h
 refine tab_mk ⟨h0,h1,by rw[List.length_map];exact h4,by rw[List.map_map];exact h5,?_⟩
 rw[List.all_eq_true]
 intro c hc
 obtain⟨d,hd,rfl⟩:=List.mem_map.1 hc
 have h7:=List.all_eq_true.1 h6 d hd
 obtain⟨h8,h9⟩:=hf d hd h7
 unfold colB at h7 ⊢
 simp only[Bool.and_eq_true,decide_eq_true_eq] at h7 ⊢
 exact⟨⟨h7.1.1,h8⟩,List.all_eq_true.2 h9⟩
theorem col_fits {c:Lx} {r:Int} (h:colB c r=true):(c.ce.length:Int)=r∧∀ y∈c.ce,fitB c.k c.lv.length y=true:=by
 unfold colB at h
 simp only[Bool.and_eq_true,decide_eq_true_eq] at h
 exact⟨h.1.2,List.all_eq_true.1 h.2⟩
theorem fit_at {c:Lx} {r:Int} (h:colB c r=true) {q:Nat} (hq:(q:Int)<r):fitB c.k c.lv.length (c.ce.getD q cx0)=true:=by
 obtain⟨h1,h2⟩:=col_fits h
 have hlt:q<c.ce.length:=by omega
 rw[getD_lt _ hlt]
 exact h2 _ (List.getElem_mem hlt)
/-- A table with a row more, and with one less. -/
def insL (T:List Lx) (ys:List Cx) (p:Nat):List Lx:=(List.zip T ys).map fun c=>⟨c.1.n,c.1.k,c.1.lv,insC c.1.ce c.2 cx0 p⟩
def delL (T:List Lx) (p:Nat):List Lx:=T.map fun c=>⟨c.n,c.k,c.lv,delC c.ce cx0 p⟩
end Go.Proofs.YtdeedofmflelfaaGreatDoor

namespace Go.Proofs.YtdeedofmflelfaaGreatDoor
open Go.RowKit RQ
set_option linter.unusedVariables false
/-- What a call made of its own, beside what its caller knows. -/
theorem St.join {w W W':World} {bs bs':List GBk} {rs rs':List GRd} (h:St w W bs rs) (h':St W W' bs' rs'):St w W' (bs++bs') (rs++rs'):=by
 refine⟨h.bel.trans (h'.bel.mono h.bel.size),fun p hp=>?_,?_,fun r hr=>?_⟩
 ·rcases List.mem_append.1 hp with hp | hp
  ·exact⟨(h.bk p hp).1.bel h'.bel,(h.bk p hp).2⟩
  ·exact⟨(h'.bk p hp).1,(h'.bk p hp).2.1,Nat.le_trans h.bel.size (h'.bk p hp).2.2⟩
 ·refine List.pairwise_append.2 ⟨h.nd,h'.nd,fun p hp q hq=>?_⟩
  have h1:=(h.bk p hp).1.lt
  have h2:=(h'.bk q hq).2.2
  omega
 ·rcases List.mem_append.1 hr with hr | hr
  ·exact (h.rd r hr).below h'.bel
  ·exact h'.rd r hr
theorem perm4 {α:Type} (a b c d:α) (l:List α):(a::b::c::d::l).Perm (d::a::b::c::l):=List.perm_middle (l₁:=[a,b,c])
theorem perm5 {α:Type} (d a b c:α) (l:List α):(d::a::b::c::l).Perm (c::a::d::b::l):=(List.perm_middle (l₁:=[d,a,b])).trans ((List.Perm.swap a d _).cons c)
theorem perm6 {α:Type} (a d b g t:α) (l:List α):(a::d::b::g::t::l).Perm (d::g::t::a::b::l):=(List.Perm.swap d a _).trans ((List.perm_append_comm_assoc [a,b] [g,t] l).cons d)
theorem res_arr (W:World) (tmps:Array Value) (g t:Nat) {v0 v1:Value} (ht:tmps.getD 6 undef=.pointer (some ⟨g,0,none⟩)) (h:Cb W g #[v0,v1] t) :
  (results Tryz.f76 tmps).run Tryz.prog W=.ok (.agg #[v0,v1]) W:=by
 have c0:W.cell? ⟨g,0,none⟩=some v0:=h.cell rfl
 have c1:W.cell? ⟨g,1,none⟩=some v1:=h.cell rfl
 have ht':tmps[6]?.getD undef=.pointer (some ⟨g,0,none⟩):=by rw[←ht];simp[Array.getD_eq_getD_getElem?]
 simp[results,Tryz.results76,go_sem,ht',c0,c1]
set_option maxRecDepth 100000 in
set_option maxHeartbeats 4000000 in
/-- A table is arranged out of the cells that a function gives. -/
theorem arranged2_any (R:Int) (TA:Option Addr) (tn tc rows:Nat) (L:List Cl) (f:Nat) (va vb:Value) (Y:Nat→Nat→Ce) (w:World) (h:LR clC w TA tn L) (hx:∀ x∈L,LtL x) (hn:tn≤32) (hr:rows≤1024) (hcf:∀ (x y:Value) (W:World),(callFunc f #[x,y,va,vb]).run Tryz.prog W=.ok (.enter f #[x,y,va,vb]) W) (hY:∀ i j:Nat,i<tn→j<rows→LtC (Y i j)∧ceC.At w (Y i j)∧∀ W,Below w.heap.size w W→Calls Tryz.prog f #[.int .i64 (i:Nat),.int .i64 (j:Nat),va,vb] W fun e w'=>e=.returned (.agg (Y i j).vs)∧Below W.heap.size W w'):Calls Tryz.prog 76 #[.agg #[.int .i64 R,.slice TA tn tc],.int .i64 rows,.func (.func f) #[] #[va,vb]] w fun e w'=>∃ (cb:Nat) (Cs:List Cl) (F:List GBk) (rs:List GRd),e=.returned (.agg #[.int .i64 rows,.slice (some ⟨cb,0,none⟩) tn tn])∧St w w' ((cb,(clC.all Cs).toArray,56)::F) rs∧Cs.length=tn∧(∀ c∈Cs,∀ v,clC.In v F rs c)∧(∀ (q:Nat) (x:Cl),L[q]?=some x→∃ c:Cl,Cs[q]?=some c∧c.lx=⟨x.n,x.k,x.lv.L,(List.range rows).map fun j=>(Y q j).cx⟩)∧(∀ c∈Cs,LtL c):=by
 have hlen:=Lib.hid h.len
 have hCt0:=Lib.hid (fun x (hxm:x∈L) W (hW:Below w.heap.size w W)=>copyTexts_any x.lv.L x.lv.A x.lv.L.length x.lv.c W ((cl_at.1 (h.el x hxm)).1.1.bel hW) (by have:=(hx x hxm).2.1;omega) (fun s hs=>by have:=(hx x hxm).2.2.1 s hs;omega))
 have hCl0:=Lib.hid (fun x (hxm:x∈L) W=>cloneS_any x.n W (by have:=(hx x hxm).1;omega))
 have hLt:=Lib.hid hx
 have hmk:=make_col tn (by omega)
 have hmc:=Lib.hid (make_cell rows (by omega))
 have S:=Lib.hid (((St.new w).allocAt w.heap.size #[.int .i64 R,.slice TA tn tc] 37 (noLof rfl) rfl).allocAt (w.heap.size+1) #[.int .i64 0,.slice none 0 0] 37 (noLof rfl) (by simp))
 replace h:=Lib.hid h
 have hnh:=Lib.hid hn
 have hrh:=Lib.hid hr
 have hYh:=Lib.hid hY
 replace hcf:=Lib.hid hcf
 clear hx hn hr hY
 go_enter Tryz.func76,Tryz.ntmps76
 go_upto_region 1 with fail
 have hz4:w.heap.size+2=(World.alloc (World.alloc w (.cells #[.int .i64 R,.slice TA tn tc] 37)) (.cells #[.int .i64 0,.slice none 0 0] 37)).heap.size:=by simp
 generalize hW:World.alloc (World.alloc _ _) _=w4 at S hz4 ⊢
 clear hW
 have S1:=Lib.hid (S.out.allocC clC (List.replicate tn Cl0) (w.heap.size+2) 56 hz4.symm)
 obtain⟨c_0,c_1,f_0,f_1⟩:=S.out.cf2 1 rfl
 have hz:w.heap.size<w4.heap.size:=S.out.lt 1 rfl
 go_upto_region 2 with fail
 replace hmk:=Lib.hid hmk
 clear hmk c_0 f_0 c_1 f_1 hz S
 rw[←hz4]
 generalize hW:World.alloc _ _=w5 at S1 ⊢
 clear hW hz4 w4
 obtain⟨c_0,c_1,f_0,f_1⟩:=S1.out.cf2 2 rfl
 have hz:w.heap.size<w5.heap.size:=S1.out.lt 2 rfl
 go_wp2
 clear c_0 f_0 c_1 f_1 hz
 go_loopw [18] (fun iv wr=>∃ (i:Nat) (Cs:List Cl) (F:List GBk) (rs:List GRd),i≤tn∧iv=.int .i64 i∧Cs.length=tn∧St w wr ((w.heap.size+2,(clC.all Cs).toArray,56)::(w.heap.size+1,#[.int .i64 0,.slice none 0 0],37)::(w.heap.size,#[.int .i64 R,.slice TA tn tc],37)::F) rs∧(∀ (q:Nat) (x:Cl),q<i→L[q]?=some x→∃ c:Cl,Cs[q]?=some c∧(∀ v,clC.In v F rs c)∧c.lx=⟨x.n,x.k,x.lv.L,(List.range rows).map fun j=>(Y q j).cx⟩∧LtL c)) (fun iv _=>tn-(intOf iv).toNat)
 case atStart=>exact⟨0,List.replicate tn Cl0,[],[],Nat.zero_le _,rfl,List.length_replicate,S1.out,fun q x h=>absurd h (Nat.not_lt_zero _)⟩
 case round=>
  clear S1
  obtain⟨i,Cs,F,rs,hin,rfl,hCl2,S,hq⟩:=hrel
  by_cases hlt:i<tn
  ·obtain⟨b,o,x,rfl,hxe,hxm,hxa,e0,e1,e2,e3⟩:=cl_get (h.out.bel S.bel) hlt
   have g1:(i:Int)<(tn:Int):=by omega
   have g2:(0:Int)≤(i:Int):=by omega
   obtain⟨cy,hci⟩:∃ y,Cs[i]?=some y:=⟨_,List.getElem?_eq_getElem (by omega)⟩
   have hih:=Lib.hid hlt
   have hCt:=Lib.hid (hCt0.out x hxm)
   have hCl:=Lib.hid (hCl0.out x hxm)
   have hxl:=Lib.hid (hLt.out x hxm)
   have S1:=S.allocAt wr.heap.size #[.string x.n,.int .i64 x.k,.slice x.lv.A x.lv.L.length x.lv.c,.slice x.ce.A x.ce.L.length x.ce.c] 56 (noLof rfl) rfl
   replace S1:=Lib.hid S1
   replace hci:=Lib.hid hci
   replace hCl2:=Lib.hid hCl2
   replace hq:=Lib.hid hq
   replace hxe:=Lib.hid hxe
   clear hlt hin hxa hxm S
   go_upto_region 5 with fail
   clear e0 e1 e2 e3
   obtain⟨fv,hfv⟩:∃ g,g=wr.heap.size:=⟨_,rfl⟩
   rw[←hfv] at S1
   generalize hW:World.alloc _ _=w4 at S1 ⊢
   clear hW
   rw[←hfv]
   clear hfv
   have S:=S1
   clear S1
   go_cut [18] from 18 to 54 (fun v wc=>v=.int .i64 i∧∃ lb eb,St w wc ((eb,(ceC.all (List.replicate rows Ce0)).toArray,58)::(w.heap.size+2,(clC.all (Cs.set i ⟨x.n,x.k,⟨some ⟨lb,0,none⟩,x.lv.L.length,x.lv.L⟩,⟨some ⟨eb,0,none⟩,rows,List.replicate rows Ce0⟩⟩)).toArray,56)::(lb,(strC.all x.lv.L).toArray,9)::(w.heap.size+1,#[.int .i64 0,.slice none 0 0],37)::(w.heap.size,#[.int .i64 R,.slice (some ⟨b,o,none⟩) tn tc],37)::F) rs)
   case first=>
    have hbase:=Lib.hid (St.new w4)
    refine RW.begin (Z:=[]) (S:=(fun W=>Cb W fv #[.string x.n,.int .i64 x.k,.slice x.lv.A x.lv.L.length x.lv.c,.slice x.ce.A x.ce.L.length x.ce.c] 56)) (by kernel_rfl) ?_ hbase.out ?_
    ·exact⟨by kernel_rfl,zis_nil,by decide,by decide,nol_nil,(fun _ _ h=>(S.out.cb 0 rfl).bel h.bel)⟩
    intro hzk
    refine RW.t (i:=0) (v:=.slice (some ⟨w.heap.size+2,0,none⟩) tn tn) (some 23) at0 (hy:=fun _ _=>by kernel_rfl) (h:=?_)
    refine RW.t (i:=1) (v:=.int .i64 i) (some 24) at1 (hy:=fun _ _=>by kernel_rfl) (h:=?_)
    refine RW.t (i:=2) (v:=.pointer (some ⟨fv,0,none⟩)) (some 25) at2 (hy:=fun _ _=>by kernel_rfl) (h:=?_)
    refine RW.t (i:=3) (v:=.string x.n) (some 26) at3 (hy:=fun W hS=>by (have k0:=Cb.cell (i:=0) hS rfl;clear hS;go_simp)) (h:=?_)
    refine RW.t (i:=5) (v:=.pointer (some ⟨fv,1,none⟩)) (some 28) at5 (hy:=fun _ _=>by kernel_rfl) (h:=?_)
    refine RW.t (i:=6) (v:=.int .i64 x.k) (some 29) at6 (hy:=fun W hS=>by (have k0:=Cb.cell (i:=1) hS rfl;clear hS;go_simp)) (h:=?_)
    refine RW.t (i:=7) (v:=.pointer (some ⟨fv,2,none⟩)) (some 30) at7 (hy:=fun _ _=>by kernel_rfl) (h:=?_)
    refine RW.t (i:=8) (v:=.slice x.lv.A x.lv.L.length x.lv.c) (some 31) at8 (hy:=fun W hS=>by (have k0:=Cb.cell (i:=2) hS rfl;clear hS;go_simp)) (h:=?_)
    refine RW.t (i:=10) (v:=.int .i64 rows) (some 33) at10 (hy:=fun _ _=>by kernel_rfl) (h:=?_)
    refine RW.tail hzk.out (by kernel_rfl) ?_
    intro gs' w5 hgs' hS Sb
    obtain rfl:=len0 hgs'
    simp only[mark,fill,Act.put,List.setIfInBounds_toArray,List.set_cons_zero,List.set_cons_succ]
    have T:=Lib.hid (S.out.call Sb.bel)
    clear S Sb hS hgs' hzk hbase
    have S:=T
    clear T
    refine Wk.two (i:=4) (j:=11) at4 at11 (by kernel_rfl) (fun K' hK=>?_) (fun K' hK=>?_)
    ·refine oper_call (f:=45) (args:=#[.string x.n]) rfl (by kernel_rfl) ((hCl.out _).mono ?_)
     rintro e w6 ⟨rfl,bb⟩
     have T:=Lib.hid (S.out.call bb)
     clear S bb
     have S:=T
     clear T
     refine⟨_,rfl,hK.out _ _ (S.out.cb 0 rfl) ?_⟩
     clear hK K'
     try simp only[Act.put,List.setIfInBounds_toArray,List.set_cons_zero,List.set_cons_succ]
     refine Wk.two (i:=9) (j:=11) at9 at11 (by kernel_rfl) (fun K' hK=>?_) (fun K' hK=>?_)
     ·refine oper_call (f:=46) (args:=#[.slice x.lv.A x.lv.L.length x.lv.c]) rfl (by kernel_rfl) ((hCt.out _ S.out.bel).mono ?_)
      rintro e w7 ⟨lb,rfl,hlb,hcb,bb⟩
      have T:=Lib.hid (S.out.adopt bb hcb hlb (all_noL strC _).arr)
      clear S bb hlb hcb
      have S:=T
      clear T
      refine⟨_,rfl,hK.out _ _ (S.out.cb 1 rfl) ?_⟩
      clear hK K'
      try simp only[Act.put,List.setIfInBounds_toArray,List.set_cons_zero,List.set_cons_succ]
      refine Wk.o (i:=11) at11 (by kernel_rfl) fun K' hK=>?_
      have hm:=hmc.out w7
      obtain⟨eb,heb⟩:∃ g,g=w7.heap.size:=⟨_,rfl⟩
      have T:=Lib.hid (S.out.allocC ceC (List.replicate rows Ce0) eb 58 heb.symm)
      rw[←heb] at hm
      replace heb:=Lib.hid heb
      go_simp
      clear S hm heb
      have S:=T
      clear T
      generalize hW:World.alloc w7 _=w8 at S ⊢
      clear hW
      refine hK.out _ _ (S.out.cb 2 rfl) ?_
      clear hK K'
      try simp only[Act.put,List.setIfInBounds_toArray,List.set_cons_zero,List.set_cons_succ]
      refine Wk.o (i:=12) at12 (by kernel_rfl) fun K' hK=>?_
      go_simp
      refine hK.out _ _ (S.out.cb 2 rfl) ?_
      clear hK K'
      try simp only[Act.put,List.setIfInBounds_toArray,List.set_cons_zero,List.set_cons_succ]
      refine Wk.o (i:=13) at13 (by kernel_rfl) fun K' hK=>?_
      go_simp
      refine hK.out _ _ (S.out.cb 2 rfl) ?_
      clear hK K'
      try simp only[Act.put,List.setIfInBounds_toArray,List.set_cons_zero,List.set_cons_succ]
      refine Wk.o (i:=14) at14 (by kernel_rfl) fun K' hK=>?_
      have T:=Lib.hid (S.out.prm (perm4 _ _ _ _ _))
      clear S
      have S:=T
      clear T
      obtain⟨hcl,hfr⟩:=St_gcl (C:=clC) S.out hci.out
      have q0:=hcl 0 _ rfl
      have q1:=hcl 1 _ rfl
      have q2:=hcl 2 _ rfl
      have q3:=hcl 3 _ rfl
      have f0:=hfr (i*4)
      have f1:=hfr (i*4+1)
      have f2:=hfr (i*4+2)
      have f3:=hfr (i*4+3)
      simp only[cl_sz,Nat.add_zero] at q0 q1 q2 q3
      go_simp
      have T:=Lib.hid (show St w (World.setCell (World.setCell (World.setCell (World.setCell w8 ⟨w.heap.size+2,i*4,none⟩ (.string x.n)) ⟨w.heap.size+2,i*4+1,none⟩ (.int .i64 x.k)) ⟨w.heap.size+2,i*4+2,none⟩ (.slice (some ⟨lb,0,none⟩) x.lv.L.length x.lv.L.length)) ⟨w.heap.size+2,i*4+3,none⟩ (.slice (some ⟨eb,0,none⟩) rows rows)) _ _ from (by
       have:=St_gset (C:=clC) S.out (⟨x.n,x.k,⟨some ⟨lb,0,none⟩,x.lv.L.length,x.lv.L⟩,⟨some ⟨eb,0,none⟩,rows,List.replicate rows Ce0⟩⟩:Cl) (i:=i) (by have:=hCl2.out;have:=hih.out;omega)
       rw[cl_cs,List.length_replicate] at this
       exact this))
      clear S hcl hfr q0 q1 q2 q3 f0 f1 f2 f3
      have S:=T
      clear T
      refine hK.out _ _ (S.out.cb 3 rfl) ?_
      clear hK K'
      try simp only[Act.put,List.setIfInBounds_toArray,List.set_cons_zero,List.set_cons_succ]
      refine Wk.done (by kernel_rfl) ?_
      go_simp
      go_wp2
      go_meet
      exact⟨rfl,lb,eb,(S.out.prm (perm5 _ _ _ _ _)).sub⟩
     ·have hm:=hmc.out w6
      obtain⟨eb,heb⟩:∃ g,g=w6.heap.size:=⟨_,rfl⟩
      have T:=Lib.hid (S.out.allocC ceC (List.replicate rows Ce0) eb 58 heb.symm)
      rw[←heb] at hm
      replace heb:=Lib.hid heb
      go_simp
      clear S hm heb
      have S:=T
      clear T
      generalize hW:World.alloc w6 _=w7 at S ⊢
      clear hW
      refine hK.out _ _ (S.out.cb 1 rfl) ?_
      clear hK K'
      try simp only[Act.put,List.setIfInBounds_toArray,List.set_cons_zero,List.set_cons_succ]
      refine Wk.o (i:=9) at9 (by kernel_rfl) fun K' hK=>?_
      refine oper_call (f:=46) (args:=#[.slice x.lv.A x.lv.L.length x.lv.c]) rfl (by kernel_rfl) ((hCt.out _ S.out.bel).mono ?_)
      rintro e w8 ⟨lb,rfl,hlb,hcb,bb⟩
      have T:=Lib.hid (S.out.adopt bb hcb hlb (all_noL strC _).arr)
      clear S bb hlb hcb
      have S:=T
      clear T
      refine⟨_,rfl,hK.out _ _ (S.out.cb 2 rfl) ?_⟩
      clear hK K'
      try simp only[Act.put,List.setIfInBounds_toArray,List.set_cons_zero,List.set_cons_succ]
      have T:=Lib.hid (S.out.swap)
      clear S
      have S:=T
      clear T
      refine Wk.o (i:=12) at12 (by kernel_rfl) fun K' hK=>?_
      go_simp
      refine hK.out _ _ (S.out.cb 2 rfl) ?_
      clear hK K'
      try simp only[Act.put,List.setIfInBounds_toArray,List.set_cons_zero,List.set_cons_succ]
      refine Wk.o (i:=13) at13 (by kernel_rfl) fun K' hK=>?_
      go_simp
      refine hK.out _ _ (S.out.cb 2 rfl) ?_
      clear hK K'
      try simp only[Act.put,List.setIfInBounds_toArray,List.set_cons_zero,List.set_cons_succ]
      refine Wk.o (i:=14) at14 (by kernel_rfl) fun K' hK=>?_
      have T:=Lib.hid (S.out.prm (perm4 _ _ _ _ _))
      clear S
      have S:=T
      clear T
      obtain⟨hcl,hfr⟩:=St_gcl (C:=clC) S.out hci.out
      have q0:=hcl 0 _ rfl
      have q1:=hcl 1 _ rfl
      have q2:=hcl 2 _ rfl
      have q3:=hcl 3 _ rfl
      have f0:=hfr (i*4)
      have f1:=hfr (i*4+1)
      have f2:=hfr (i*4+2)
      have f3:=hfr (i*4+3)
      simp only[cl_sz,Nat.add_zero] at q0 q1 q2 q3
      go_simp
      have T:=Lib.hid (show St w (World.setCell (World.setCell (World.setCell (World.setCell w8 ⟨w.heap.size+2,i*4,none⟩ (.string x.n)) ⟨w.heap.size+2,i*4+1,none⟩ (.int .i64 x.k)) ⟨w.heap.size+2,i*4+2,none⟩ (.slice (some ⟨lb,0,none⟩) x.lv.L.length x.lv.L.length)) ⟨w.heap.size+2,i*4+3,none⟩ (.slice (some ⟨eb,0,none⟩) rows rows)) _ _ from (by
       have:=St_gset (C:=clC) S.out (⟨x.n,x.k,⟨some ⟨lb,0,none⟩,x.lv.L.length,x.lv.L⟩,⟨some ⟨eb,0,none⟩,rows,List.replicate rows Ce0⟩⟩:Cl) (i:=i) (by have:=hCl2.out;have:=hih.out;omega)
       rw[cl_cs,List.length_replicate] at this
       exact this))
      clear S hcl hfr q0 q1 q2 q3 f0 f1 f2 f3
      have S:=T
      clear T
      refine hK.out _ _ (S.out.cb 3 rfl) ?_
      clear hK K'
      try simp only[Act.put,List.setIfInBounds_toArray,List.set_cons_zero,List.set_cons_succ]
      refine Wk.done (by kernel_rfl) ?_
      go_simp
      go_wp2
      go_meet
      exact⟨rfl,lb,eb,(S.out.prm (perm5 _ _ _ _ _)).sub⟩
    ·have hm:=hmc.out w5
     obtain⟨eb,heb⟩:∃ g,g=w5.heap.size:=⟨_,rfl⟩
     have T:=Lib.hid (S.out.allocC ceC (List.replicate rows Ce0) eb 58 heb.symm)
     rw[←heb] at hm
     replace heb:=Lib.hid heb
     go_simp
     clear S hm heb
     have S:=T
     clear T
     generalize hW:World.alloc w5 _=w6 at S ⊢
     clear hW
     refine hK.out _ _ (S.out.cb 1 rfl) ?_
     clear hK K'
     try simp only[Act.put,List.setIfInBounds_toArray,List.set_cons_zero,List.set_cons_succ]
     refine Wk.o (i:=4) at4 (by kernel_rfl) fun K' hK=>?_
     refine oper_call (f:=45) (args:=#[.string x.n]) rfl (by kernel_rfl) ((hCl.out _).mono ?_)
     rintro e w7 ⟨rfl,bb⟩
     have T:=Lib.hid (S.out.call bb)
     clear S bb
     have S:=T
     clear T
     refine⟨_,rfl,hK.out _ _ (S.out.cb 1 rfl) ?_⟩
     clear hK K'
     try simp only[Act.put,List.setIfInBounds_toArray,List.set_cons_zero,List.set_cons_succ]
     refine Wk.o (i:=9) at9 (by kernel_rfl) fun K' hK=>?_
     refine oper_call (f:=46) (args:=#[.slice x.lv.A x.lv.L.length x.lv.c]) rfl (by kernel_rfl) ((hCt.out _ S.out.bel).mono ?_)
     rintro e w8 ⟨lb,rfl,hlb,hcb,bb⟩
     have T:=Lib.hid (S.out.adopt bb hcb hlb (all_noL strC _).arr)
     clear S bb hlb hcb
     have S:=T
     clear T
     refine⟨_,rfl,hK.out _ _ (S.out.cb 2 rfl) ?_⟩
     clear hK K'
     try simp only[Act.put,List.setIfInBounds_toArray,List.set_cons_zero,List.set_cons_succ]
     have T:=Lib.hid (S.out.swap)
     clear S
     have S:=T
     clear T
     refine Wk.o (i:=12) at12 (by kernel_rfl) fun K' hK=>?_
     go_simp
     refine hK.out _ _ (S.out.cb 2 rfl) ?_
     clear hK K'
     try simp only[Act.put,List.setIfInBounds_toArray,List.set_cons_zero,List.set_cons_succ]
     refine Wk.o (i:=13) at13 (by kernel_rfl) fun K' hK=>?_
     go_simp
     refine hK.out _ _ (S.out.cb 2 rfl) ?_
     clear hK K'
     try simp only[Act.put,List.setIfInBounds_toArray,List.set_cons_zero,List.set_cons_succ]
     refine Wk.o (i:=14) at14 (by kernel_rfl) fun K' hK=>?_
     have T:=Lib.hid (S.out.prm (perm4 _ _ _ _ _))
     clear S
     have S:=T
     clear T
     obtain⟨hcl,hfr⟩:=St_gcl (C:=clC) S.out hci.out
     have q0:=hcl 0 _ rfl
     have q1:=hcl 1 _ rfl
     have q2:=hcl 2 _ rfl
     have q3:=hcl 3 _ rfl
     have f0:=hfr (i*4)
     have f1:=hfr (i*4+1)
     have f2:=hfr (i*4+2)
     have f3:=hfr (i*4+3)
     simp only[cl_sz,Nat.add_zero] at q0 q1 q2 q3
     go_simp
     have T:=Lib.hid (show St w (World.setCell (World.setCell (World.setCell (World.setCell w8 ⟨w.heap.size+2,i*4,none⟩ (.string x.n)) ⟨w.heap.size+2,i*4+1,none⟩ (.int .i64 x.k)) ⟨w.heap.size+2,i*4+2,none⟩ (.slice (some ⟨lb,0,none⟩) x.lv.L.length x.lv.L.length)) ⟨w.heap.size+2,i*4+3,none⟩ (.slice (some ⟨eb,0,none⟩) rows rows)) _ _ from (by
      have:=St_gset (C:=clC) S.out (⟨x.n,x.k,⟨some ⟨lb,0,none⟩,x.lv.L.length,x.lv.L⟩,⟨some ⟨eb,0,none⟩,rows,List.replicate rows Ce0⟩⟩:Cl) (i:=i) (by have:=hCl2.out;have:=hih.out;omega)
      rw[cl_cs,List.length_replicate] at this
      exact this))
     clear S hcl hfr q0 q1 q2 q3 f0 f1 f2 f3
     have S:=T
     clear T
     refine hK.out _ _ (S.out.cb 3 rfl) ?_
     clear hK K'
     try simp only[Act.put,List.setIfInBounds_toArray,List.set_cons_zero,List.set_cons_succ]
     refine Wk.done (by kernel_rfl) ?_
     go_simp
     go_wp2
     go_meet
     exact⟨rfl,lb,eb,(S.out.prm (perm5 _ _ _ _ _)).sub⟩
   case rest=>
    obtain⟨rfl,lb,eb,S0⟩:=hcut
    replace S0:=Lib.hid S0
    clear S
    have hcs:clC.cs (⟨x.n,x.k,⟨some ⟨lb,0,none⟩,x.lv.L.length,x.lv.L⟩,⟨some ⟨eb,0,none⟩,rows,List.replicate rows Ce0⟩⟩:Cl)=[.string x.n,.int .i64 x.k,.slice (some ⟨lb,0,none⟩) x.lv.L.length x.lv.L.length,.slice (some ⟨eb,0,none⟩) rows rows]:=by rw[cl_cs,List.length_replicate]
    have hq3:Hid ((clC.all (Cs.set i ⟨x.n,x.k,⟨some ⟨lb,0,none⟩,x.lv.L.length,x.lv.L⟩,⟨some ⟨eb,0,none⟩,rows,List.replicate rows Ce0⟩⟩)).toArray[i*4+3]?=some (.slice (some ⟨eb,0,none⟩) rows rows)):=Lib.hid (by
     rw[List.getElem?_toArray]
     exact all_get (i:=i) clC (List.getElem?_set_self (by have:=hCl2.out;have:=hih.out;omega)) 3 _ (by rw[hcs];rfl))
    replace hcs:=Lib.hid hcs
    go_wp2
    go_loopw [38] (fun jv wx=>∃ (j:Nat) (Es:List Ce) (rs':List GRd),j≤rows∧jv=.int .i64 j∧Es.length=rows∧St w wx ((eb,(ceC.all Es).toArray,58)::(w.heap.size+2,(clC.all (Cs.set i ⟨x.n,x.k,⟨some ⟨lb,0,none⟩,x.lv.L.length,x.lv.L⟩,⟨some ⟨eb,0,none⟩,rows,List.replicate rows Ce0⟩⟩)).toArray,56)::(lb,(strC.all x.lv.L).toArray,9)::(w.heap.size+1,#[.int .i64 0,.slice none 0 0],37)::(w.heap.size,#[.int .i64 R,.slice (some ⟨b,o,none⟩) tn tc],37)::F) rs'∧(∀ p∈rs,p∈rs')∧∀ q,q<j→∃ e,Es[q]?=some e∧(∀ v,ceC.In v [] rs' e)∧e.cx=(Y i q).cx∧LtC e) (fun jv _=>rows-(intOf jv).toNat)
    case atStart=>exact⟨0,List.replicate rows Ce0,rs,Nat.zero_le _,rfl,List.length_replicate,S0.out,fun _ h=>h,fun q hq=>absurd hq (Nat.not_lt_zero _)⟩
    case round=>
     clear S0
     obtain⟨j,Es,rs',hjn,rfl,hEl,S,hsub,hEq⟩:=hrel
     by_cases hlt:j<rows
     ·have g3:(j:Int)<(rows:Int):=by omega
      have g4:(0:Int)≤(j:Int):=by omega
      obtain⟨ey,hEj⟩:∃ y,Es[j]?=some y:=⟨_,List.getElem?_eq_getElem (by omega)⟩
      have hjh:=Lib.hid hlt
      obtain⟨hyl,hya,hYc⟩:=hYh.out i j hih.out hlt
      obtain⟨y,hyd⟩:∃ y,y=Y i j:=⟨_,rfl⟩
      rw[←hyd] at hyl hya hYc
      have hCc:=Lib.hid (fun W (hW:Below w.heap.size w W)=>copyCell_any y W ((ce_at.1 hya).1.below hW) ((ce_at.1 hya).2.below hW) hyl)
      replace hyl:=Lib.hid hyl
      replace hyd:=Lib.hid hyd
      replace hYc:=Lib.hid hYc
      replace hEj:=Lib.hid hEj
      replace hEl:=Lib.hid hEl
      replace hsub:=Lib.hid hsub
      replace hEq:=Lib.hid hEq
      replace S:=Lib.hid S
      clear hlt hjn hya
      rename World=>wx
      go_upto_region 9 with fail
      have hbase:=Lib.hid (St.new wx)
      refine RW.begin (Z:=[]) (S:=(fun W=>Cb W (w.heap.size+2) (clC.all (Cs.set i ⟨x.n,x.k,⟨some ⟨lb,0,none⟩,x.lv.L.length,x.lv.L⟩,⟨some ⟨eb,0,none⟩,rows,List.replicate rows Ce0⟩⟩)).toArray 56)) (by kernel_rfl) ?_ hbase.out ?_
      ·exact⟨by kernel_rfl,zis_nil,by decide,by decide,nol_nil,(fun _ _ h=>(S.out.cb 1 rfl).bel h.bel)⟩
      intro hzk
      refine RW.t (i:=0) (v:=.slice (some ⟨w.heap.size+2,0,none⟩) tn tn) (some 41) at0 (hy:=fun _ _=>by kernel_rfl) (h:=?_)
      refine RW.t (i:=1) (v:=.int .i64 i) (some 42) at1 (hy:=fun _ _=>by kernel_rfl) (h:=?_)
      refine RW.t (i:=2) (v:=.pointer (some ⟨w.heap.size+2,i*4,none⟩)) (some 43) at2 (hy:=fun _ _=>by go_simp) (h:=?_)
      refine RW.t (i:=3) (v:=.pointer (some ⟨w.heap.size+2,i*4+3,none⟩)) (some 44) at3 (hy:=fun _ _=>by go_simp) (h:=?_)
      refine RW.t (i:=4) (v:=.slice (some ⟨eb,0,none⟩) rows rows) (some 45) at4 (hy:=fun W hS=>by (have k0:=Cb.cell (i:=i*4+3) hS hq3.out;clear hS;go_simp)) (h:=?_)
      refine RW.t (i:=5) (v:=.int .i64 j) (some 46) at5 (hy:=fun _ _=>by kernel_rfl) (h:=?_)
      refine RW.t (i:=6) (v:=.func (.func f) #[] #[va,vb]) (some 47) at6 (hy:=fun _ _=>by kernel_rfl) (h:=?_)
      refine RW.t (i:=7) (v:=.int .i64 i) (some 48) at7 (hy:=fun _ _=>by kernel_rfl) (h:=?_)
      refine RW.t (i:=8) (v:=.int .i64 j) (some 49) at8 (hy:=fun _ _=>by kernel_rfl) (h:=?_)
      refine RW.tail hzk.out (by kernel_rfl) ?_
      intro gs' wx6 hgs' hS Sb
      obtain rfl:=len0 hgs'
      simp only[mark,fill,Act.put,List.setIfInBounds_toArray,List.set_cons_zero,List.set_cons_succ]
      have T:=Lib.hid (S.out.call Sb.bel)
      clear S Sb hS hgs' hzk hbase
      have S:=T
      clear T
      refine Wk.o (i:=9) at9 (by kernel_rfl) fun K' hK=>?_
      refine oper_call (f:=f) (args:=#[.int .i64 (i:Nat),.int .i64 (j:Nat),va,vb]) rfl (by go_simp;exact hcf.out _ _ _) ((hYc.out _ S.out.bel).mono ?_)
      rintro e wx7 ⟨rfl,bb⟩
      have T:=Lib.hid (S.out.call bb)
      clear S bb
      have S:=T
      clear T
      refine⟨_,rfl,hK.out _ _ (S.out.cb 1 rfl) ?_⟩
      clear hK K'
      try simp only[Act.put,List.setIfInBounds_toArray,List.set_cons_zero,List.set_cons_succ]
      refine Wk.o (i:=10) at10 (by kernel_rfl) fun K' hK=>?_
      refine oper_call (f:=79) (args:=#[.agg #[.bool y.m,.bool y.v.b,.slice y.v.x.A y.v.x.n y.v.x.c,.slice y.v.y.A y.v.y.n y.v.y.c,.int .i64 y.l]]) rfl (by kernel_rfl) ((hCc.out _ S.out.bel).mono ?_)
      rintro e wx8 ⟨A1,c1,A2,c2,rfl,Q1,Q2,bb⟩
      have T:=Lib.hid (((S.out.call bb).read Q2).read Q1)
      clear S bb Q1 Q2
      have S:=T
      clear T
      refine⟨_,rfl,hK.out _ _ (S.out.cb 1 rfl) ?_⟩
      clear hK K'
      try simp only[Act.put,List.setIfInBounds_toArray,List.set_cons_zero,List.set_cons_succ]
      refine Wk.o (i:=11) at11 (by kernel_rfl) fun K' hK=>?_
      go_simp
      refine hK.out _ _ (S.out.cb 1 rfl) ?_
      clear hK K'
      try simp only[Act.put,List.setIfInBounds_toArray,List.set_cons_zero,List.set_cons_succ]
      refine Wk.o (i:=12) at12 (by kernel_rfl) fun K' hK=>?_
      obtain⟨hcl,hfr⟩:=St_gcl (C:=ceC) S.out hEj.out
      have q0:=hcl 0 _ rfl
      have q1:=hcl 1 _ rfl
      have q2:=hcl 2 _ rfl
      have q3:=hcl 3 _ rfl
      have q4:=hcl 4 _ rfl
      have f0:=hfr (j*5)
      have f1:=hfr (j*5+1)
      have f2:=hfr (j*5+2)
      have f3:=hfr (j*5+3)
      have f4:=hfr (j*5+4)
      simp only[ce_sz,Nat.add_zero] at q0 q1 q2 q3 q4
      go_simp
      have T:=Lib.hid (show St w (World.setCell (World.setCell (World.setCell (World.setCell (World.setCell (wx8) ⟨eb,j*5,none⟩ (.bool y.m)) ⟨eb,j*5+1,none⟩ (.bool y.v.b)) ⟨eb,j*5+2,none⟩ (.slice A1 y.v.x.n c1)) ⟨eb,j*5+3,none⟩ (.slice A2 y.v.y.n c2)) ⟨eb,j*5+4,none⟩ (.int .i64 y.l)) _ _ from St_gset (C:=ceC) S.out (⟨y.m,⟨y.v.b,⟨A1,y.v.x.n,c1,y.v.x.x⟩,⟨A2,y.v.y.n,c2,y.v.y.x⟩⟩,y.l⟩:Ce) (i:=j) (by have:=hEl.out;have:=hjh.out;omega))
      clear S hcl hfr q0 q1 q2 q3 q4 f0 f1 f2 f3 f4
      have S:=T
      clear T
      refine hK.out _ _ (S.out.cb 1 rfl) ?_
      clear hK K'
      try simp only[Act.put,List.setIfInBounds_toArray,List.set_cons_zero,List.set_cons_succ]
      refine Wk.done (by kernel_rfl) ?_
      go_simp
      have hlt:=hjh.out
      have hbb:=hrh.out
      go_wp2
      go_roundw
      case rel=>
       refine⟨j+1,Es.set j ⟨y.m,⟨y.v.b,⟨A1,y.v.x.n,c1,y.v.x.x⟩,⟨A2,y.v.y.n,c2,y.v.y.x⟩⟩,y.l⟩,_,by omega,by go_num,by rw[List.length_set];exact hEl.out,S.out,fun p hp=>List.mem_cons_of_mem _ (List.mem_cons_of_mem _ (hsub.out p hp)),fun q hq=>?_⟩
       by_cases e:j=q
       ·subst e
        exact⟨_,List.getElem?_set_self (by have:=hEl.out;omega),fun _=>⟨trivial,⟨trivial,.inl List.mem_cons_self,.inl (List.mem_cons_of_mem _ List.mem_cons_self)⟩,trivial⟩,by rw[←hyd.out];rfl,hyl.out⟩
       ·obtain⟨e0,e1,e2,e3⟩:=hEq.out q (by omega)
        exact⟨e0,by rw[List.getElem?_set_ne e];exact e1,fun v=>ceC.mono (e2 v) (fun _ h=>h) (fun p hp=>List.mem_cons_of_mem _ (List.mem_cons_of_mem _ hp)),e3⟩
      case measure=>simp[intOf];omega
     ·obtain rfl:rows=j:=by omega
      have hE2:∀ q,q<rows→∃ e,Es[q]?=some e∧(∀ v,ceC.In v [] rs' e)∧e.cx=(Y i q).cx∧LtC e:=hEq
      have hcx:Es.map Ce.cx=(List.range rows).map (fun j=>(Y i j).cx):=by
       apply List.ext_getElem?
       intro q
       rcases Nat.lt_or_ge q rows with h1 | h1
       ·obtain⟨e,e1,_,e2,_⟩:=hE2 q h1
        rw[List.getElem?_map,e1,List.getElem?_map,List.getElem?_range h1]
        exact congrArg some e2
       ·rw[List.getElem?_eq_none (by rw[List.length_map];omega),List.getElem?_eq_none (by rw[List.length_map,List.length_range];exact h1)]
      have hEm:∀ e∈Es,(∀ v,ceC.In v [] rs' e)∧LtC e:=fun e he=>by
       obtain⟨q,hq⟩:=List.getElem?_of_mem he
       obtain⟨e',e1,e2,_,e3⟩:=hE2 q (by rw[←hEl];exact (List.getElem?_eq_some_iff.1 hq).1)
       rw[hq] at e1
       injection e1 with e1
       subst e1
       exact⟨e2,e3⟩
      have hset:clC.all (Cs.set i ⟨x.n,x.k,⟨some ⟨lb,0,none⟩,x.lv.L.length,x.lv.L⟩,⟨some ⟨eb,0,none⟩,rows,List.replicate rows Ce0⟩⟩)=clC.all (Cs.set i ⟨x.n,x.k,⟨some ⟨lb,0,none⟩,x.lv.L.length,x.lv.L⟩,⟨some ⟨eb,0,none⟩,rows,Es⟩⟩):=by
       rw[all_set clC _ (by have:=hCl2.out;have:=hih.out;omega),all_set clC _ (by have:=hCl2.out;have:=hih.out;omega),hcs.out,cl_cs,hEl]
      rw[hset] at S
      have S2:=Lib.hid (S.prm (perm6 _ _ _ _ _ _))
      replace hcx:=Lib.hid hcx
      replace hEm:=Lib.hid hEm
      replace hEl:=Lib.hid hEl
      replace hsub:=Lib.hid hsub
      have hltx:=hih.out
      have hnn:=hnh.out
      clear hlt hjn hE2 hEq hset S
      go_wp2
      go_roundw
      case rel=>
       refine⟨i+1,_,_,_,by omega,by go_num,by rw[List.length_set];exact hCl2.out,S2.out,fun q x' hqi hx'=>?_⟩
       by_cases e:i=q
       ·subst e
        obtain rfl:x=x':=by have:=hxe.out;rw[hx'] at this;exact (Option.some.inj this).symm
        refine⟨_,List.getElem?_set_self (by have:=hCl2.out;omega),fun _=>⟨trivial,trivial,⟨LI.blk (List.mem_cons_of_mem _ List.mem_cons_self) (fun _ _=>trivial),Nat.le_refl _⟩,⟨LI.blk List.mem_cons_self (fun e he=>ceC.mono ((hEm.out e he).1 _) (fun p hp=>by cases hp) (fun _ h=>h)),by show Es.length≤rows;rw[hEl.out];exact Nat.le_refl _⟩⟩,?_,?_⟩
        ·show Lx.mk _ _ _ _=Lx.mk _ _ _ _
         rw[←hcx.out]
        ·have:=hxl.out
         exact⟨this.1,this.2.1,this.2.2.1,by show Es.length≤2000;rw[hEl.out];have:=hrh.out;omega,fun e he=>(hEm.out e he).2⟩
       ·obtain⟨c,k1,k2,k3⟩:=hq.out q x' (by omega) hx'
        exact⟨c,by rw[List.getElem?_set_ne e];exact k1,fun v=>clC.mono (k2 v) (fun p hp=>List.mem_cons_of_mem _ (List.mem_cons_of_mem _ hp)) hsub.out,k3⟩
      case measure=>simp[intOf];omega
  ·obtain rfl:tn=i:=by omega
   have hat:∀ c∈Cs,(∀ v,clC.In v F rs c)∧LtL c:=fun c hc=>by
    obtain⟨q,hq1⟩:=List.getElem?_of_mem hc
    have hql:q<tn:=by rw[←hCl2];exact (List.getElem?_eq_some_iff.1 hq1).1
    obtain⟨x,hx⟩:∃ x,L[q]?=some x:=⟨_,List.getElem?_eq_getElem (by rw[hlen.out];exact hql)⟩
    obtain⟨c',k1,k2,_,k3⟩:=hq q x hql hx
    rw[hq1] at k1
    injection k1 with k1
    subst k1
    exact⟨k2,k3⟩
   have hcs:=Lib.hid (fun q x (hx:L[q]?=some x)=>(by
    obtain⟨c,k1,_,k2,_⟩:=hq q x (by rw[←hlen.out];exact (List.getElem?_eq_some_iff.1 hx).1) hx
    exact⟨c,k1,k2⟩:∃ c:Cl,Cs[q]?=some c∧c.lx=⟨x.n,x.k,x.lv.L,(List.range rows).map fun j=>(Y q j).cx⟩))
   obtain⟨c_0,c_1,f_0,f_1⟩:=S.cf2 1 rfl
   have hz:w.heap.size+1<wr.heap.size:=S.lt 1 rfl
   have T:=Lib.hid (show St w _ ((w.heap.size+2,(clC.all Cs).toArray,56)::(w.heap.size+1,#[.int .i64 rows,.slice (some ⟨w.heap.size+2,0,none⟩) tn tn],37)::(w.heap.size,#[.int .i64 R,.slice TA tn tc],37)::F) rs from ((S.set 1 0 (.int .i64 rows) rfl (by nofun)).set 1 1 (.slice (some ⟨w.heap.size+2,0,none⟩) tn tn) rfl (by nofun)))
   replace hat:=Lib.hid hat
   replace hCl2:=Lib.hid hCl2
   clear hlt hin hq S
   go_wp2
   refine bodyPost_ret (res_arr _ _ (w.heap.size+1) 37 rfl (T.out.cb 1 rfl)) rfl ⟨_,Cs,_,_,rfl,T.out,hCl2.out,fun c hc v=>clC.mono ((hat.out c hc).1 v) (fun p hp=>List.mem_cons_of_mem _ (List.mem_cons_of_mem _ hp)) (fun _ h=>h),hcs.out,fun c hc=>(hat.out c hc).2⟩
set_option maxRecDepth 100000 in
set_option maxHeartbeats 4000000 in
/-- A table is arranged out of the cells that a function gives. -/
theorem arranged3_any (R:Int) (TA:Option Addr) (tn tc rows:Nat) (L:List Cl) (f:Nat) (va vb vd:Value) (Y:Nat→Nat→Ce) (w:World) (h:LR clC w TA tn L) (hx:∀ x∈L,LtL x) (hn:tn≤32) (hr:rows≤1024) (hcf:∀ (x y:Value) (W:World),(callFunc f #[x,y,va,vb,vd]).run Tryz.prog W=.ok (.enter f #[x,y,va,vb,vd]) W) (hY:∀ i j:Nat,i<tn→j<rows→LtC (Y i j)∧ceC.At w (Y i j)∧∀ W,Below w.heap.size w W→Calls Tryz.prog f #[.int .i64 (i:Nat),.int .i64 (j:Nat),va,vb,vd] W fun e w'=>e=.returned (.agg (Y i j).vs)∧Below W.heap.size W w'):Calls Tryz.prog 76 #[.agg #[.int .i64 R,.slice TA tn tc],.int .i64 rows,.func (.func f) #[] #[va,vb,vd]] w fun e w'=>∃ (cb:Nat) (Cs:List Cl) (F:List GBk) (rs:List GRd),e=.returned (.agg #[.int .i64 rows,.slice (some ⟨cb,0,none⟩) tn tn])∧St w w' ((cb,(clC.all Cs).toArray,56)::F) rs∧Cs.length=tn∧(∀ c∈Cs,∀ v,clC.In v F rs c)∧(∀ (q:Nat) (x:Cl),L[q]?=some x→∃ c:Cl,Cs[q]?=some c∧c.lx=⟨x.n,x.k,x.lv.L,(List.range rows).map fun j=>(Y q j).cx⟩)∧(∀ c∈Cs,LtL c):=by
 have hlen:=Lib.hid h.len
 have hCt0:=Lib.hid (fun x (hxm:x∈L) W (hW:Below w.heap.size w W)=>copyTexts_any x.lv.L x.lv.A x.lv.L.length x.lv.c W ((cl_at.1 (h.el x hxm)).1.1.bel hW) (by have:=(hx x hxm).2.1;omega) (fun s hs=>by have:=(hx x hxm).2.2.1 s hs;omega))
 have hCl0:=Lib.hid (fun x (hxm:x∈L) W=>cloneS_any x.n W (by have:=(hx x hxm).1;omega))
 have hLt:=Lib.hid hx
 have hmk:=make_col tn (by omega)
 have hmc:=Lib.hid (make_cell rows (by omega))
 have S:=Lib.hid (((St.new w).allocAt w.heap.size #[.int .i64 R,.slice TA tn tc] 37 (noLof rfl) rfl).allocAt (w.heap.size+1) #[.int .i64 0,.slice none 0 0] 37 (noLof rfl) (by simp))
 replace h:=Lib.hid h
 have hnh:=Lib.hid hn
 have hrh:=Lib.hid hr
 have hYh:=Lib.hid hY
 replace hcf:=Lib.hid hcf
 clear hx hn hr hY
 go_enter Tryz.func76,Tryz.ntmps76
 go_upto_region 1 with fail
 have hz4:w.heap.size+2=(World.alloc (World.alloc w (.cells #[.int .i64 R,.slice TA tn tc] 37)) (.cells #[.int .i64 0,.slice none 0 0] 37)).heap.size:=by simp
 generalize hW:World.alloc (World.alloc _ _) _=w4 at S hz4 ⊢
 clear hW
 have S1:=Lib.hid (S.out.allocC clC (List.replicate tn Cl0) (w.heap.size+2) 56 hz4.symm)
 obtain⟨c_0,c_1,f_0,f_1⟩:=S.out.cf2 1 rfl
 have hz:w.heap.size<w4.heap.size:=S.out.lt 1 rfl
 go_upto_region 2 with fail
 replace hmk:=Lib.hid hmk
 clear hmk c_0 f_0 c_1 f_1 hz S
 rw[←hz4]
 generalize hW:World.alloc _ _=w5 at S1 ⊢
 clear hW hz4 w4
 obtain⟨c_0,c_1,f_0,f_1⟩:=S1.out.cf2 2 rfl
 have hz:w.heap.size<w5.heap.size:=S1.out.lt 2 rfl
 go_wp2
 clear c_0 f_0 c_1 f_1 hz
 go_loopw [18] (fun iv wr=>∃ (i:Nat) (Cs:List Cl) (F:List GBk) (rs:List GRd),i≤tn∧iv=.int .i64 i∧Cs.length=tn∧St w wr ((w.heap.size+2,(clC.all Cs).toArray,56)::(w.heap.size+1,#[.int .i64 0,.slice none 0 0],37)::(w.heap.size,#[.int .i64 R,.slice TA tn tc],37)::F) rs∧(∀ (q:Nat) (x:Cl),q<i→L[q]?=some x→∃ c:Cl,Cs[q]?=some c∧(∀ v,clC.In v F rs c)∧c.lx=⟨x.n,x.k,x.lv.L,(List.range rows).map fun j=>(Y q j).cx⟩∧LtL c)) (fun iv _=>tn-(intOf iv).toNat)
 case atStart=>exact⟨0,List.replicate tn Cl0,[],[],Nat.zero_le _,rfl,List.length_replicate,S1.out,fun q x h=>absurd h (Nat.not_lt_zero _)⟩
 case round=>
  clear S1
  obtain⟨i,Cs,F,rs,hin,rfl,hCl2,S,hq⟩:=hrel
  by_cases hlt:i<tn
  ·obtain⟨b,o,x,rfl,hxe,hxm,hxa,e0,e1,e2,e3⟩:=cl_get (h.out.bel S.bel) hlt
   have g1:(i:Int)<(tn:Int):=by omega
   have g2:(0:Int)≤(i:Int):=by omega
   obtain⟨cy,hci⟩:∃ y,Cs[i]?=some y:=⟨_,List.getElem?_eq_getElem (by omega)⟩
   have hih:=Lib.hid hlt
   have hCt:=Lib.hid (hCt0.out x hxm)
   have hCl:=Lib.hid (hCl0.out x hxm)
   have hxl:=Lib.hid (hLt.out x hxm)
   have S1:=S.allocAt wr.heap.size #[.string x.n,.int .i64 x.k,.slice x.lv.A x.lv.L.length x.lv.c,.slice x.ce.A x.ce.L.length x.ce.c] 56 (noLof rfl) rfl
   replace S1:=Lib.hid S1
   replace hci:=Lib.hid hci
   replace hCl2:=Lib.hid hCl2
   replace hq:=Lib.hid hq
   replace hxe:=Lib.hid hxe
   clear hlt hin hxa hxm S
   go_upto_region 5 with fail
   clear e0 e1 e2 e3
   obtain⟨fv,hfv⟩:∃ g,g=wr.heap.size:=⟨_,rfl⟩
   rw[←hfv] at S1
   generalize hW:World.alloc _ _=w4 at S1 ⊢
   clear hW
   rw[←hfv]
   clear hfv
   have S:=S1
   clear S1
   go_cut [18] from 18 to 54 (fun v wc=>v=.int .i64 i∧∃ lb eb,St w wc ((eb,(ceC.all (List.replicate rows Ce0)).toArray,58)::(w.heap.size+2,(clC.all (Cs.set i ⟨x.n,x.k,⟨some ⟨lb,0,none⟩,x.lv.L.length,x.lv.L⟩,⟨some ⟨eb,0,none⟩,rows,List.replicate rows Ce0⟩⟩)).toArray,56)::(lb,(strC.all x.lv.L).toArray,9)::(w.heap.size+1,#[.int .i64 0,.slice none 0 0],37)::(w.heap.size,#[.int .i64 R,.slice (some ⟨b,o,none⟩) tn tc],37)::F) rs)
   case first=>
    have hbase:=Lib.hid (St.new w4)
    refine RW.begin (Z:=[]) (S:=(fun W=>Cb W fv #[.string x.n,.int .i64 x.k,.slice x.lv.A x.lv.L.length x.lv.c,.slice x.ce.A x.ce.L.length x.ce.c] 56)) (by kernel_rfl) ?_ hbase.out ?_
    ·exact⟨by kernel_rfl,zis_nil,by decide,by decide,nol_nil,(fun _ _ h=>(S.out.cb 0 rfl).bel h.bel)⟩
    intro hzk
    refine RW.t (i:=0) (v:=.slice (some ⟨w.heap.size+2,0,none⟩) tn tn) (some 23) at0 (hy:=fun _ _=>by kernel_rfl) (h:=?_)
    refine RW.t (i:=1) (v:=.int .i64 i) (some 24) at1 (hy:=fun _ _=>by kernel_rfl) (h:=?_)
    refine RW.t (i:=2) (v:=.pointer (some ⟨fv,0,none⟩)) (some 25) at2 (hy:=fun _ _=>by kernel_rfl) (h:=?_)
    refine RW.t (i:=3) (v:=.string x.n) (some 26) at3 (hy:=fun W hS=>by (have k0:=Cb.cell (i:=0) hS rfl;clear hS;go_simp)) (h:=?_)
    refine RW.t (i:=5) (v:=.pointer (some ⟨fv,1,none⟩)) (some 28) at5 (hy:=fun _ _=>by kernel_rfl) (h:=?_)
    refine RW.t (i:=6) (v:=.int .i64 x.k) (some 29) at6 (hy:=fun W hS=>by (have k0:=Cb.cell (i:=1) hS rfl;clear hS;go_simp)) (h:=?_)
    refine RW.t (i:=7) (v:=.pointer (some ⟨fv,2,none⟩)) (some 30) at7 (hy:=fun _ _=>by kernel_rfl) (h:=?_)
    refine RW.t (i:=8) (v:=.slice x.lv.A x.lv.L.length x.lv.c) (some 31) at8 (hy:=fun W hS=>by (have k0:=Cb.cell (i:=2) hS rfl;clear hS;go_simp)) (h:=?_)
    refine RW.t (i:=10) (v:=.int .i64 rows) (some 33) at10 (hy:=fun _ _=>by kernel_rfl) (h:=?_)
    refine RW.tail hzk.out (by kernel_rfl) ?_
    intro gs' w5 hgs' hS Sb
    obtain rfl:=len0 hgs'
    simp only[mark,fill,Act.put,List.setIfInBounds_toArray,List.set_cons_zero,List.set_cons_succ]
    have T:=Lib.hid (S.out.call Sb.bel)
    clear S Sb hS hgs' hzk hbase
    have S:=T
    clear T
    refine Wk.two (i:=4) (j:=11) at4 at11 (by kernel_rfl) (fun K' hK=>?_) (fun K' hK=>?_)
    ·refine oper_call (f:=45) (args:=#[.string x.n]) rfl (by kernel_rfl) ((hCl.out _).mono ?_)
     rintro e w6 ⟨rfl,bb⟩
     have T:=Lib.hid (S.out.call bb)
     clear S bb
     have S:=T
     clear T
     refine⟨_,rfl,hK.out _ _ (S.out.cb 0 rfl) ?_⟩
     clear hK K'
     try simp only[Act.put,List.setIfInBounds_toArray,List.set_cons_zero,List.set_cons_succ]
     refine Wk.two (i:=9) (j:=11) at9 at11 (by kernel_rfl) (fun K' hK=>?_) (fun K' hK=>?_)
     ·refine oper_call (f:=46) (args:=#[.slice x.lv.A x.lv.L.length x.lv.c]) rfl (by kernel_rfl) ((hCt.out _ S.out.bel).mono ?_)
      rintro e w7 ⟨lb,rfl,hlb,hcb,bb⟩
      have T:=Lib.hid (S.out.adopt bb hcb hlb (all_noL strC _).arr)
      clear S bb hlb hcb
      have S:=T
      clear T
      refine⟨_,rfl,hK.out _ _ (S.out.cb 1 rfl) ?_⟩
      clear hK K'
      try simp only[Act.put,List.setIfInBounds_toArray,List.set_cons_zero,List.set_cons_succ]
      refine Wk.o (i:=11) at11 (by kernel_rfl) fun K' hK=>?_
      have hm:=hmc.out w7
      obtain⟨eb,heb⟩:∃ g,g=w7.heap.size:=⟨_,rfl⟩
      have T:=Lib.hid (S.out.allocC ceC (List.replicate rows Ce0) eb 58 heb.symm)
      rw[←heb] at hm
      replace heb:=Lib.hid heb
      go_simp
      clear S hm heb
      have S:=T
      clear T
      generalize hW:World.alloc w7 _=w8 at S ⊢
      clear hW
      refine hK.out _ _ (S.out.cb 2 rfl) ?_
      clear hK K'
      try simp only[Act.put,List.setIfInBounds_toArray,List.set_cons_zero,List.set_cons_succ]
      refine Wk.o (i:=12) at12 (by kernel_rfl) fun K' hK=>?_
      go_simp
      refine hK.out _ _ (S.out.cb 2 rfl) ?_
      clear hK K'
      try simp only[Act.put,List.setIfInBounds_toArray,List.set_cons_zero,List.set_cons_succ]
      refine Wk.o (i:=13) at13 (by kernel_rfl) fun K' hK=>?_
      go_simp
      refine hK.out _ _ (S.out.cb 2 rfl) ?_
      clear hK K'
      try simp only[Act.put,List.setIfInBounds_toArray,List.set_cons_zero,List.set_cons_succ]
      refine Wk.o (i:=14) at14 (by kernel_rfl) fun K' hK=>?_
      have T:=Lib.hid (S.out.prm (perm4 _ _ _ _ _))
      clear S
      have S:=T
      clear T
      obtain⟨hcl,hfr⟩:=St_gcl (C:=clC) S.out hci.out
      have q0:=hcl 0 _ rfl
      have q1:=hcl 1 _ rfl
      have q2:=hcl 2 _ rfl
      have q3:=hcl 3 _ rfl
      have f0:=hfr (i*4)
      have f1:=hfr (i*4+1)
      have f2:=hfr (i*4+2)
      have f3:=hfr (i*4+3)
      simp only[cl_sz,Nat.add_zero] at q0 q1 q2 q3
      go_simp
      have T:=Lib.hid (show St w (World.setCell (World.setCell (World.setCell (World.setCell w8 ⟨w.heap.size+2,i*4,none⟩ (.string x.n)) ⟨w.heap.size+2,i*4+1,none⟩ (.int .i64 x.k)) ⟨w.heap.size+2,i*4+2,none⟩ (.slice (some ⟨lb,0,none⟩) x.lv.L.length x.lv.L.length)) ⟨w.heap.size+2,i*4+3,none⟩ (.slice (some ⟨eb,0,none⟩) rows rows)) _ _ from (by
       have:=St_gset (C:=clC) S.out (⟨x.n,x.k,⟨some ⟨lb,0,none⟩,x.lv.L.length,x.lv.L⟩,⟨some ⟨eb,0,none⟩,rows,List.replicate rows Ce0⟩⟩:Cl) (i:=i) (by have:=hCl2.out;have:=hih.out;omega)
       rw[cl_cs,List.length_replicate] at this
       exact this))
      clear S hcl hfr q0 q1 q2 q3 f0 f1 f2 f3
      have S:=T
      clear T
      refine hK.out _ _ (S.out.cb 3 rfl) ?_
      clear hK K'
      try simp only[Act.put,List.setIfInBounds_toArray,List.set_cons_zero,List.set_cons_succ]
      refine Wk.done (by kernel_rfl) ?_
      go_simp
      go_wp2
      go_meet
      exact⟨rfl,lb,eb,(S.out.prm (perm5 _ _ _ _ _)).sub⟩
     ·have hm:=hmc.out w6
      obtain⟨eb,heb⟩:∃ g,g=w6.heap.size:=⟨_,rfl⟩
      have T:=Lib.hid (S.out.allocC ceC (List.replicate rows Ce0) eb 58 heb.symm)
      rw[←heb] at hm
      replace heb:=Lib.hid heb
      go_simp
      clear S hm heb
      have S:=T
      clear T
      generalize hW:World.alloc w6 _=w7 at S ⊢
      clear hW
      refine hK.out _ _ (S.out.cb 1 rfl) ?_
      clear hK K'
      try simp only[Act.put,List.setIfInBounds_toArray,List.set_cons_zero,List.set_cons_succ]
      refine Wk.o (i:=9) at9 (by kernel_rfl) fun K' hK=>?_
      refine oper_call (f:=46) (args:=#[.slice x.lv.A x.lv.L.length x.lv.c]) rfl (by kernel_rfl) ((hCt.out _ S.out.bel).mono ?_)
      rintro e w8 ⟨lb,rfl,hlb,hcb,bb⟩
      have T:=Lib.hid (S.out.adopt bb hcb hlb (all_noL strC _).arr)
      clear S bb hlb hcb
      have S:=T
      clear T
      refine⟨_,rfl,hK.out _ _ (S.out.cb 2 rfl) ?_⟩
      clear hK K'
      try simp only[Act.put,List.setIfInBounds_toArray,List.set_cons_zero,List.set_cons_succ]
      have T:=Lib.hid (S.out.swap)
      clear S
      have S:=T
      clear T
      refine Wk.o (i:=12) at12 (by kernel_rfl) fun K' hK=>?_
      go_simp
      refine hK.out _ _ (S.out.cb 2 rfl) ?_
      clear hK K'
      try simp only[Act.put,List.setIfInBounds_toArray,List.set_cons_zero,List.set_cons_succ]
      refine Wk.o (i:=13) at13 (by kernel_rfl) fun K' hK=>?_
      go_simp
      refine hK.out _ _ (S.out.cb 2 rfl) ?_
      clear hK K'
      try simp only[Act.put,List.setIfInBounds_toArray,List.set_cons_zero,List.set_cons_succ]
      refine Wk.o (i:=14) at14 (by kernel_rfl) fun K' hK=>?_
      have T:=Lib.hid (S.out.prm (perm4 _ _ _ _ _))
      clear S
      have S:=T
      clear T
      obtain⟨hcl,hfr⟩:=St_gcl (C:=clC) S.out hci.out
      have q0:=hcl 0 _ rfl
      have q1:=hcl 1 _ rfl
      have q2:=hcl 2 _ rfl
      have q3:=hcl 3 _ rfl
      have f0:=hfr (i*4)
      have f1:=hfr (i*4+1)
      have f2:=hfr (i*4+2)
      have f3:=hfr (i*4+3)
      simp only[cl_sz,Nat.add_zero] at q0 q1 q2 q3
      go_simp
      have T:=Lib.hid (show St w (World.setCell (World.setCell (World.setCell (World.setCell w8 ⟨w.heap.size+2,i*4,none⟩ (.string x.n)) ⟨w.heap.size+2,i*4+1,none⟩ (.int .i64 x.k)) ⟨w.heap.size+2,i*4+2,none⟩ (.slice (some ⟨lb,0,none⟩) x.lv.L.length x.lv.L.length)) ⟨w.heap.size+2,i*4+3,none⟩ (.slice (some ⟨eb,0,none⟩) rows rows)) _ _ from (by
       have:=St_gset (C:=clC) S.out (⟨x.n,x.k,⟨some ⟨lb,0,none⟩,x.lv.L.length,x.lv.L⟩,⟨some ⟨eb,0,none⟩,rows,List.replicate rows Ce0⟩⟩:Cl) (i:=i) (by have:=hCl2.out;have:=hih.out;omega)
       rw[cl_cs,List.length_replicate] at this
       exact this))
      clear S hcl hfr q0 q1 q2 q3 f0 f1 f2 f3
      have S:=T
      clear T
      refine hK.out _ _ (S.out.cb 3 rfl) ?_
      clear hK K'
      try simp only[Act.put,List.setIfInBounds_toArray,List.set_cons_zero,List.set_cons_succ]
      refine Wk.done (by kernel_rfl) ?_
      go_simp
      go_wp2
      go_meet
      exact⟨rfl,lb,eb,(S.out.prm (perm5 _ _ _ _ _)).sub⟩
    ·have hm:=hmc.out w5
     obtain⟨eb,heb⟩:∃ g,g=w5.heap.size:=⟨_,rfl⟩
     have T:=Lib.hid (S.out.allocC ceC (List.replicate rows Ce0) eb 58 heb.symm)
     rw[←heb] at hm
     replace heb:=Lib.hid heb
     go_simp
     clear S hm heb
     have S:=T
     clear T
     generalize hW:World.alloc w5 _=w6 at S ⊢
     clear hW
     refine hK.out _ _ (S.out.cb 1 rfl) ?_
     clear hK K'
     try simp only[Act.put,List.setIfInBounds_toArray,List.set_cons_zero,List.set_cons_succ]
     refine Wk.o (i:=4) at4 (by kernel_rfl) fun K' hK=>?_
     refine oper_call (f:=45) (args:=#[.string x.n]) rfl (by kernel_rfl) ((hCl.out _).mono ?_)
     rintro e w7 ⟨rfl,bb⟩
     have T:=Lib.hid (S.out.call bb)
     clear S bb
     have S:=T
     clear T
     refine⟨_,rfl,hK.out _ _ (S.out.cb 1 rfl) ?_⟩
     clear hK K'
     try simp only[Act.put,List.setIfInBounds_toArray,List.set_cons_zero,List.set_cons_succ]
     refine Wk.o (i:=9) at9 (by kernel_rfl) fun K' hK=>?_
     refine oper_call (f:=46) (args:=#[.slice x.lv.A x.lv.L.length x.lv.c]) rfl (by kernel_rfl) ((hCt.out _ S.out.bel).mono ?_)
     rintro e w8 ⟨lb,rfl,hlb,hcb,bb⟩
     have T:=Lib.hid (S.out.adopt bb hcb hlb (all_noL strC _).arr)
     clear S bb hlb hcb
     have S:=T
     clear T
     refine⟨_,rfl,hK.out _ _ (S.out.cb 2 rfl) ?_⟩
     clear hK K'
     try simp only[Act.put,List.setIfInBounds_toArray,List.set_cons_zero,List.set_cons_succ]
     have T:=Lib.hid (S.out.swap)
     clear S
     have S:=T
     clear T
     refine Wk.o (i:=12) at12 (by kernel_rfl) fun K' hK=>?_
     go_simp
     refine hK.out _ _ (S.out.cb 2 rfl) ?_
     clear hK K'
     try simp only[Act.put,List.setIfInBounds_toArray,List.set_cons_zero,List.set_cons_succ]
     refine Wk.o (i:=13) at13 (by kernel_rfl) fun K' hK=>?_
     go_simp
     refine hK.out _ _ (S.out.cb 2 rfl) ?_
     clear hK K'
     try simp only[Act.put,List.setIfInBounds_toArray,List.set_cons_zero,List.set_cons_succ]
     refine Wk.o (i:=14) at14 (by kernel_rfl) fun K' hK=>?_
     have T:=Lib.hid (S.out.prm (perm4 _ _ _ _ _))
     clear S
     have S:=T
     clear T
     obtain⟨hcl,hfr⟩:=St_gcl (C:=clC) S.out hci.out
     have q0:=hcl 0 _ rfl
     have q1:=hcl 1 _ rfl
     have q2:=hcl 2 _ rfl
     have q3:=hcl 3 _ rfl
     have f0:=hfr (i*4)
     have f1:=hfr (i*4+1)
     have f2:=hfr (i*4+2)
     have f3:=hfr (i*4+3)
     simp only[cl_sz,Nat.add_zero] at q0 q1 q2 q3
     go_simp
     have T:=Lib.hid (show St w (World.setCell (World.setCell (World.setCell (World.setCell w8 ⟨w.heap.size+2,i*4,none⟩ (.string x.n)) ⟨w.heap.size+2,i*4+1,none⟩ (.int .i64 x.k)) ⟨w.heap.size+2,i*4+2,none⟩ (.slice (some ⟨lb,0,none⟩) x.lv.L.length x.lv.L.length)) ⟨w.heap.size+2,i*4+3,none⟩ (.slice (some ⟨eb,0,none⟩) rows rows)) _ _ from (by
      have:=St_gset (C:=clC) S.out (⟨x.n,x.k,⟨some ⟨lb,0,none⟩,x.lv.L.length,x.lv.L⟩,⟨some ⟨eb,0,none⟩,rows,List.replicate rows Ce0⟩⟩:Cl) (i:=i) (by have:=hCl2.out;have:=hih.out;omega)
      rw[cl_cs,List.length_replicate] at this
      exact this))
     clear S hcl hfr q0 q1 q2 q3 f0 f1 f2 f3
     have S:=T
     clear T
     refine hK.out _ _ (S.out.cb 3 rfl) ?_
     clear hK K'
     try simp only[Act.put,List.setIfInBounds_toArray,List.set_cons_zero,List.set_cons_succ]
     refine Wk.done (by kernel_rfl) ?_
     go_simp
     go_wp2
     go_meet
     exact⟨rfl,lb,eb,(S.out.prm (perm5 _ _ _ _ _)).sub⟩
   case rest=>
    obtain⟨rfl,lb,eb,S0⟩:=hcut
    replace S0:=Lib.hid S0
    clear S
    have hcs:clC.cs (⟨x.n,x.k,⟨some ⟨lb,0,none⟩,x.lv.L.length,x.lv.L⟩,⟨some ⟨eb,0,none⟩,rows,List.replicate rows Ce0⟩⟩:Cl)=[.string x.n,.int .i64 x.k,.slice (some ⟨lb,0,none⟩) x.lv.L.length x.lv.L.length,.slice (some ⟨eb,0,none⟩) rows rows]:=by rw[cl_cs,List.length_replicate]
    have hq3:Hid ((clC.all (Cs.set i ⟨x.n,x.k,⟨some ⟨lb,0,none⟩,x.lv.L.length,x.lv.L⟩,⟨some ⟨eb,0,none⟩,rows,List.replicate rows Ce0⟩⟩)).toArray[i*4+3]?=some (.slice (some ⟨eb,0,none⟩) rows rows)):=Lib.hid (by
     rw[List.getElem?_toArray]
     exact all_get (i:=i) clC (List.getElem?_set_self (by have:=hCl2.out;have:=hih.out;omega)) 3 _ (by rw[hcs];rfl))
    replace hcs:=Lib.hid hcs
    go_wp2
    go_loopw [38] (fun jv wx=>∃ (j:Nat) (Es:List Ce) (rs':List GRd),j≤rows∧jv=.int .i64 j∧Es.length=rows∧St w wx ((eb,(ceC.all Es).toArray,58)::(w.heap.size+2,(clC.all (Cs.set i ⟨x.n,x.k,⟨some ⟨lb,0,none⟩,x.lv.L.length,x.lv.L⟩,⟨some ⟨eb,0,none⟩,rows,List.replicate rows Ce0⟩⟩)).toArray,56)::(lb,(strC.all x.lv.L).toArray,9)::(w.heap.size+1,#[.int .i64 0,.slice none 0 0],37)::(w.heap.size,#[.int .i64 R,.slice (some ⟨b,o,none⟩) tn tc],37)::F) rs'∧(∀ p∈rs,p∈rs')∧∀ q,q<j→∃ e,Es[q]?=some e∧(∀ v,ceC.In v [] rs' e)∧e.cx=(Y i q).cx∧LtC e) (fun jv _=>rows-(intOf jv).toNat)
    case atStart=>exact⟨0,List.replicate rows Ce0,rs,Nat.zero_le _,rfl,List.length_replicate,S0.out,fun _ h=>h,fun q hq=>absurd hq (Nat.not_lt_zero _)⟩
    case round=>
     clear S0
     obtain⟨j,Es,rs',hjn,rfl,hEl,S,hsub,hEq⟩:=hrel
     by_cases hlt:j<rows
     ·have g3:(j:Int)<(rows:Int):=by omega
      have g4:(0:Int)≤(j:Int):=by omega
      obtain⟨ey,hEj⟩:∃ y,Es[j]?=some y:=⟨_,List.getElem?_eq_getElem (by omega)⟩
      have hjh:=Lib.hid hlt
      obtain⟨hyl,hya,hYc⟩:=hYh.out i j hih.out hlt
      obtain⟨y,hyd⟩:∃ y,y=Y i j:=⟨_,rfl⟩
      rw[←hyd] at hyl hya hYc
      have hCc:=Lib.hid (fun W (hW:Below w.heap.size w W)=>copyCell_any y W ((ce_at.1 hya).1.below hW) ((ce_at.1 hya).2.below hW) hyl)
      replace hyl:=Lib.hid hyl
      replace hyd:=Lib.hid hyd
      replace hYc:=Lib.hid hYc
      replace hEj:=Lib.hid hEj
      replace hEl:=Lib.hid hEl
      replace hsub:=Lib.hid hsub
      replace hEq:=Lib.hid hEq
      replace S:=Lib.hid S
      clear hlt hjn hya
      rename World=>wx
      go_upto_region 9 with fail
      have hbase:=Lib.hid (St.new wx)
      refine RW.begin (Z:=[]) (S:=(fun W=>Cb W (w.heap.size+2) (clC.all (Cs.set i ⟨x.n,x.k,⟨some ⟨lb,0,none⟩,x.lv.L.length,x.lv.L⟩,⟨some ⟨eb,0,none⟩,rows,List.replicate rows Ce0⟩⟩)).toArray 56)) (by kernel_rfl) ?_ hbase.out ?_
      ·exact⟨by kernel_rfl,zis_nil,by decide,by decide,nol_nil,(fun _ _ h=>(S.out.cb 1 rfl).bel h.bel)⟩
      intro hzk
      refine RW.t (i:=0) (v:=.slice (some ⟨w.heap.size+2,0,none⟩) tn tn) (some 41) at0 (hy:=fun _ _=>by kernel_rfl) (h:=?_)
      refine RW.t (i:=1) (v:=.int .i64 i) (some 42) at1 (hy:=fun _ _=>by kernel_rfl) (h:=?_)
      refine RW.t (i:=2) (v:=.pointer (some ⟨w.heap.size+2,i*4,none⟩)) (some 43) at2 (hy:=fun _ _=>by go_simp) (h:=?_)
      refine RW.t (i:=3) (v:=.pointer (some ⟨w.heap.size+2,i*4+3,none⟩)) (some 44) at3 (hy:=fun _ _=>by go_simp) (h:=?_)
      refine RW.t (i:=4) (v:=.slice (some ⟨eb,0,none⟩) rows rows) (some 45) at4 (hy:=fun W hS=>by (have k0:=Cb.cell (i:=i*4+3) hS hq3.out;clear hS;go_simp)) (h:=?_)
      refine RW.t (i:=5) (v:=.int .i64 j) (some 46) at5 (hy:=fun _ _=>by kernel_rfl) (h:=?_)
      refine RW.t (i:=6) (v:=.func (.func f) #[] #[va,vb,vd]) (some 47) at6 (hy:=fun _ _=>by kernel_rfl) (h:=?_)
      refine RW.t (i:=7) (v:=.int .i64 i) (some 48) at7 (hy:=fun _ _=>by kernel_rfl) (h:=?_)
      refine RW.t (i:=8) (v:=.int .i64 j) (some 49) at8 (hy:=fun _ _=>by kernel_rfl) (h:=?_)
      refine RW.tail hzk.out (by kernel_rfl) ?_
      intro gs' wx6 hgs' hS Sb
      obtain rfl:=len0 hgs'
      simp only[mark,fill,Act.put,List.setIfInBounds_toArray,List.set_cons_zero,List.set_cons_succ]
      have T:=Lib.hid (S.out.call Sb.bel)
      clear S Sb hS hgs' hzk hbase
      have S:=T
      clear T
      refine Wk.o (i:=9) at9 (by kernel_rfl) fun K' hK=>?_
      refine oper_call (f:=f) (args:=#[.int .i64 (i:Nat),.int .i64 (j:Nat),va,vb,vd]) rfl (by go_simp;exact hcf.out _ _ _) ((hYc.out _ S.out.bel).mono ?_)
      rintro e wx7 ⟨rfl,bb⟩
      have T:=Lib.hid (S.out.call bb)
      clear S bb
      have S:=T
      clear T
      refine⟨_,rfl,hK.out _ _ (S.out.cb 1 rfl) ?_⟩
      clear hK K'
      try simp only[Act.put,List.setIfInBounds_toArray,List.set_cons_zero,List.set_cons_succ]
      refine Wk.o (i:=10) at10 (by kernel_rfl) fun K' hK=>?_
      refine oper_call (f:=79) (args:=#[.agg #[.bool y.m,.bool y.v.b,.slice y.v.x.A y.v.x.n y.v.x.c,.slice y.v.y.A y.v.y.n y.v.y.c,.int .i64 y.l]]) rfl (by kernel_rfl) ((hCc.out _ S.out.bel).mono ?_)
      rintro e wx8 ⟨A1,c1,A2,c2,rfl,Q1,Q2,bb⟩
      have T:=Lib.hid (((S.out.call bb).read Q2).read Q1)
      clear S bb Q1 Q2
      have S:=T
      clear T
      refine⟨_,rfl,hK.out _ _ (S.out.cb 1 rfl) ?_⟩
      clear hK K'
      try simp only[Act.put,List.setIfInBounds_toArray,List.set_cons_zero,List.set_cons_succ]
      refine Wk.o (i:=11) at11 (by kernel_rfl) fun K' hK=>?_
      go_simp
      refine hK.out _ _ (S.out.cb 1 rfl) ?_
      clear hK K'
      try simp only[Act.put,List.setIfInBounds_toArray,List.set_cons_zero,List.set_cons_succ]
      refine Wk.o (i:=12) at12 (by kernel_rfl) fun K' hK=>?_
      obtain⟨hcl,hfr⟩:=St_gcl (C:=ceC) S.out hEj.out
      have q0:=hcl 0 _ rfl
      have q1:=hcl 1 _ rfl
      have q2:=hcl 2 _ rfl
      have q3:=hcl 3 _ rfl
      have q4:=hcl 4 _ rfl
      have f0:=hfr (j*5)
      have f1:=hfr (j*5+1)
      have f2:=hfr (j*5+2)
      have f3:=hfr (j*5+3)
      have f4:=hfr (j*5+4)
      simp only[ce_sz,Nat.add_zero] at q0 q1 q2 q3 q4
      go_simp
      have T:=Lib.hid (show St w (World.setCell (World.setCell (World.setCell (World.setCell (World.setCell (wx8) ⟨eb,j*5,none⟩ (.bool y.m)) ⟨eb,j*5+1,none⟩ (.bool y.v.b)) ⟨eb,j*5+2,none⟩ (.slice A1 y.v.x.n c1)) ⟨eb,j*5+3,none⟩ (.slice A2 y.v.y.n c2)) ⟨eb,j*5+4,none⟩ (.int .i64 y.l)) _ _ from St_gset (C:=ceC) S.out (⟨y.m,⟨y.v.b,⟨A1,y.v.x.n,c1,y.v.x.x⟩,⟨A2,y.v.y.n,c2,y.v.y.x⟩⟩,y.l⟩:Ce) (i:=j) (by have:=hEl.out;have:=hjh.out;omega))
      clear S hcl hfr q0 q1 q2 q3 q4 f0 f1 f2 f3 f4
      have S:=T
      clear T
      refine hK.out _ _ (S.out.cb 1 rfl) ?_
      clear hK K'
      try simp only[Act.put,List.setIfInBounds_toArray,List.set_cons_zero,List.set_cons_succ]
      refine Wk.done (by kernel_rfl) ?_
      go_simp
      have hlt:=hjh.out
      have hbb:=hrh.out
      go_wp2
      go_roundw
      case rel=>
       refine⟨j+1,Es.set j ⟨y.m,⟨y.v.b,⟨A1,y.v.x.n,c1,y.v.x.x⟩,⟨A2,y.v.y.n,c2,y.v.y.x⟩⟩,y.l⟩,_,by omega,by go_num,by rw[List.length_set];exact hEl.out,S.out,fun p hp=>List.mem_cons_of_mem _ (List.mem_cons_of_mem _ (hsub.out p hp)),fun q hq=>?_⟩
       by_cases e:j=q
       ·subst e
        exact⟨_,List.getElem?_set_self (by have:=hEl.out;omega),fun _=>⟨trivial,⟨trivial,.inl List.mem_cons_self,.inl (List.mem_cons_of_mem _ List.mem_cons_self)⟩,trivial⟩,by rw[←hyd.out];rfl,hyl.out⟩
       ·obtain⟨e0,e1,e2,e3⟩:=hEq.out q (by omega)
        exact⟨e0,by rw[List.getElem?_set_ne e];exact e1,fun v=>ceC.mono (e2 v) (fun _ h=>h) (fun p hp=>List.mem_cons_of_mem _ (List.mem_cons_of_mem _ hp)),e3⟩
      case measure=>simp[intOf];omega
     ·obtain rfl:rows=j:=by omega
      have hE2:∀ q,q<rows→∃ e,Es[q]?=some e∧(∀ v,ceC.In v [] rs' e)∧e.cx=(Y i q).cx∧LtC e:=hEq
      have hcx:Es.map Ce.cx=(List.range rows).map (fun j=>(Y i j).cx):=by
       apply List.ext_getElem?
       intro q
       rcases Nat.lt_or_ge q rows with h1 | h1
       ·obtain⟨e,e1,_,e2,_⟩:=hE2 q h1
        rw[List.getElem?_map,e1,List.getElem?_map,List.getElem?_range h1]
        exact congrArg some e2
       ·rw[List.getElem?_eq_none (by rw[List.length_map];omega),List.getElem?_eq_none (by rw[List.length_map,List.length_range];exact h1)]
      have hEm:∀ e∈Es,(∀ v,ceC.In v [] rs' e)∧LtC e:=fun e he=>by
       obtain⟨q,hq⟩:=List.getElem?_of_mem he
       obtain⟨e',e1,e2,_,e3⟩:=hE2 q (by rw[←hEl];exact (List.getElem?_eq_some_iff.1 hq).1)
       rw[hq] at e1
       injection e1 with e1
       subst e1
       exact⟨e2,e3⟩
      have hset:clC.all (Cs.set i ⟨x.n,x.k,⟨some ⟨lb,0,none⟩,x.lv.L.length,x.lv.L⟩,⟨some ⟨eb,0,none⟩,rows,List.replicate rows Ce0⟩⟩)=clC.all (Cs.set i ⟨x.n,x.k,⟨some ⟨lb,0,none⟩,x.lv.L.length,x.lv.L⟩,⟨some ⟨eb,0,none⟩,rows,Es⟩⟩):=by
       rw[all_set clC _ (by have:=hCl2.out;have:=hih.out;omega),all_set clC _ (by have:=hCl2.out;have:=hih.out;omega),hcs.out,cl_cs,hEl]
      rw[hset] at S
      have S2:=Lib.hid (S.prm (perm6 _ _ _ _ _ _))
      replace hcx:=Lib.hid hcx
      replace hEm:=Lib.hid hEm
      replace hEl:=Lib.hid hEl
      replace hsub:=Lib.hid hsub
      have hltx:=hih.out
      have hnn:=hnh.out
      clear hlt hjn hE2 hEq hset S
      go_wp2
      go_roundw
      case rel=>
       refine⟨i+1,_,_,_,by omega,by go_num,by rw[List.length_set];exact hCl2.out,S2.out,fun q x' hqi hx'=>?_⟩
       by_cases e:i=q
       ·subst e
        obtain rfl:x=x':=by have:=hxe.out;rw[hx'] at this;exact (Option.some.inj this).symm
        refine⟨_,List.getElem?_set_self (by have:=hCl2.out;omega),fun _=>⟨trivial,trivial,⟨LI.blk (List.mem_cons_of_mem _ List.mem_cons_self) (fun _ _=>trivial),Nat.le_refl _⟩,⟨LI.blk List.mem_cons_self (fun e he=>ceC.mono ((hEm.out e he).1 _) (fun p hp=>by cases hp) (fun _ h=>h)),by show Es.length≤rows;rw[hEl.out];exact Nat.le_refl _⟩⟩,?_,?_⟩
        ·show Lx.mk _ _ _ _=Lx.mk _ _ _ _
         rw[←hcx.out]
        ·have:=hxl.out
         exact⟨this.1,this.2.1,this.2.2.1,by show Es.length≤2000;rw[hEl.out];have:=hrh.out;omega,fun e he=>(hEm.out e he).2⟩
       ·obtain⟨c,k1,k2,k3⟩:=hq.out q x' (by omega) hx'
        exact⟨c,by rw[List.getElem?_set_ne e];exact k1,fun v=>clC.mono (k2 v) (fun p hp=>List.mem_cons_of_mem _ (List.mem_cons_of_mem _ hp)) hsub.out,k3⟩
      case measure=>simp[intOf];omega
  ·obtain rfl:tn=i:=by omega
   have hat:∀ c∈Cs,(∀ v,clC.In v F rs c)∧LtL c:=fun c hc=>by
    obtain⟨q,hq1⟩:=List.getElem?_of_mem hc
    have hql:q<tn:=by rw[←hCl2];exact (List.getElem?_eq_some_iff.1 hq1).1
    obtain⟨x,hx⟩:∃ x,L[q]?=some x:=⟨_,List.getElem?_eq_getElem (by rw[hlen.out];exact hql)⟩
    obtain⟨c',k1,k2,_,k3⟩:=hq q x hql hx
    rw[hq1] at k1
    injection k1 with k1
    subst k1
    exact⟨k2,k3⟩
   have hcs:=Lib.hid (fun q x (hx:L[q]?=some x)=>(by
    obtain⟨c,k1,_,k2,_⟩:=hq q x (by rw[←hlen.out];exact (List.getElem?_eq_some_iff.1 hx).1) hx
    exact⟨c,k1,k2⟩:∃ c:Cl,Cs[q]?=some c∧c.lx=⟨x.n,x.k,x.lv.L,(List.range rows).map fun j=>(Y q j).cx⟩))
   obtain⟨c_0,c_1,f_0,f_1⟩:=S.cf2 1 rfl
   have hz:w.heap.size+1<wr.heap.size:=S.lt 1 rfl
   have T:=Lib.hid (show St w _ ((w.heap.size+2,(clC.all Cs).toArray,56)::(w.heap.size+1,#[.int .i64 rows,.slice (some ⟨w.heap.size+2,0,none⟩) tn tn],37)::(w.heap.size,#[.int .i64 R,.slice TA tn tc],37)::F) rs from ((S.set 1 0 (.int .i64 rows) rfl (by nofun)).set 1 1 (.slice (some ⟨w.heap.size+2,0,none⟩) tn tn) rfl (by nofun)))
   replace hat:=Lib.hid hat
   replace hCl2:=Lib.hid hCl2
   clear hlt hin hq S
   go_wp2
   refine bodyPost_ret (res_arr _ _ (w.heap.size+1) 37 rfl (T.out.cb 1 rfl)) rfl ⟨_,Cs,_,_,rfl,T.out,hCl2.out,fun c hc v=>clC.mono ((hat.out c hc).1 v) (fun p hp=>List.mem_cons_of_mem _ (List.mem_cons_of_mem _ hp)) (fun _ h=>h),hcs.out,fun c hc=>(hat.out c hc).2⟩
end Go.Proofs.YtdeedofmflelfaaGreatDoor

namespace Go.Proofs.YtdeedofmflelfaaGreatDoor
open Go.RowKit RQ
set_option linter.unusedVariables false
theorem ce_len {L:List Cl} {R:Nat} (hv:tabB (R:Int) (L.map Cl.lx)=true) {x:Cl} (hx:x∈L):x.ce.L.length=R:=by
 have:=(col_fits (List.all_eq_true.1 (tab_parts hv).2.2.2.2 x.lx (List.mem_map_of_mem hx))).1
 unfold Cl.lx at this
 rw[List.length_map] at this
 omega
theorem tab_tn {L:List Cl} {r:Int} (hv:tabB r (L.map Cl.lx)=true):L.length≤32:=by
 have:=(tab_parts hv).2.2.1
 rwa [List.length_map] at this
/-- The columns that are made say what is said of each. -/
theorem lx_map {L Cs:List Cl} (F:Lx→Lx) (hl:Cs.length=L.length) (h:∀ (q:Nat) (x:Cl),L[q]?=some x→∃ c:Cl,Cs[q]?=some c∧c.lx=F x.lx):Cs.map Cl.lx=(L.map Cl.lx).map F:=by
 apply List.ext_getElem?
 intro q
 rcases Nat.lt_or_ge q L.length with h1 | h1
 ·obtain⟨c,e1,e2⟩:=h q L[q] (List.getElem?_eq_getElem h1)
  rw[List.getElem?_map,e1,List.getElem?_map,List.getElem?_map,List.getElem?_eq_getElem h1]
  exact congrArg some e2
 ·rw[List.getElem?_eq_none (by rw[List.length_map];omega),List.getElem?_eq_none (by rw[List.length_map,List.length_map];exact h1)]
end Go.Proofs.YtdeedofmflelfaaGreatDoor

namespace Go.Proofs.YtdeedofmflelfaaGreatDoor
open Go.RowKit RQ
set_option linter.unusedVariables false
theorem res_del1 (W:World) (tmps:Array Value) (g t:Nat) {v0 v1 v2 v3 v4:Value} (ht:tmps.getD 6 undef=.pointer (some ⟨g,0,none⟩)) (h:Cb W g #[v0,v1,v2,v3,v4] t) :
  (results Tryz.f78 tmps).run Tryz.prog W=.ok (.agg #[v0,v1,v2,v3,v4]) W:=by
 have c0:W.cell? ⟨g,0,none⟩=some v0:=h.cell rfl
 have c1:W.cell? ⟨g,1,none⟩=some v1:=h.cell rfl
 have c2:W.cell? ⟨g,2,none⟩=some v2:=h.cell rfl
 have c3:W.cell? ⟨g,3,none⟩=some v3:=h.cell rfl
 have c4:W.cell? ⟨g,4,none⟩=some v4:=h.cell rfl
 have ht':tmps[6]?.getD undef=.pointer (some ⟨g,0,none⟩):=by rw[←ht];simp[Array.getD_eq_getD_getElem?]
 simp[results,Tryz.results78,go_sem,ht',c0,c1,c2,c3,c4]
theorem res_ins1 (W:World) (tmps:Array Value) (g t:Nat) {v0 v1 v2 v3 v4:Value} (ht:tmps.getD 7 undef=.pointer (some ⟨g,0,none⟩)) (h:Cb W g #[v0,v1,v2,v3,v4] t) :
  (results Tryz.f77 tmps).run Tryz.prog W=.ok (.agg #[v0,v1,v2,v3,v4]) W:=by
 have c0:W.cell? ⟨g,0,none⟩=some v0:=h.cell rfl
 have c1:W.cell? ⟨g,1,none⟩=some v1:=h.cell rfl
 have c2:W.cell? ⟨g,2,none⟩=some v2:=h.cell rfl
 have c3:W.cell? ⟨g,3,none⟩=some v3:=h.cell rfl
 have c4:W.cell? ⟨g,4,none⟩=some v4:=h.cell rfl
 have ht':tmps[7]?.getD undef=.pointer (some ⟨g,0,none⟩):=by rw[←ht];simp[Array.getD_eq_getD_getElem?]
 simp[results,Tryz.results77,go_sem,ht',c0,c1,c2,c3,c4]
set_option maxRecDepth 100000 in
set_option maxHeartbeats 4000000 in
theorem delete1_lo (R:Int) (tb tq tn tc:Nat) (L:List Cl) (p ga gt ta tt i j:Nat) (x:Cl) (y:Ce) (w:World) (h:LR clC w (some ⟨tb,tq,none⟩) tn L) (ha:Cb w ga #[.int .i64 p] ta) (ht:Cb w gt #[.int .i64 R,.slice (some ⟨tb,tq,none⟩) tn tc] tt) (hx:L[i]?=some x) (hj:j≤5000) (hp:p≤5000) (hjp:j<p) (hy:x.ce.L[j]?=some y):Calls Tryz.prog 78 #[.int .i64 (i:Nat),.int .i64 (j:Nat),.pointer (some ⟨ga,0,none⟩),.pointer (some ⟨gt,0,none⟩)] w fun e w'=>e=.returned (.agg #[.bool y.m,.bool y.v.b,.slice y.v.x.A y.v.x.n y.v.x.c,.slice y.v.y.A y.v.y.n y.v.y.c,.int .i64 y.l])∧Below w.heap.size w w':=by
 have hi:i<tn:=by rw[←h.len];exact (List.getElem?_eq_some_iff.1 hx).1
 have hce:=(cl_at.1 (h.el x (List.mem_of_getElem? hx))).2.1
 have t1:Hid (w.cell? ⟨gt,1,none⟩=some (.slice (some ⟨tb,tq,none⟩) tn tc)):=Lib.hid (ht.cell (i:=1) rfl)
 have a0:Hid (w.cell? ⟨ga,0,none⟩=some (.int .i64 p)):=Lib.hid (ha.cell (i:=0) rfl)
 have g1:(i:Int)<(tn:Int):=by omega
 have g2:(0:Int)≤(i:Int):=by omega
 have hq:j<x.ce.L.length:=(List.getElem?_eq_some_iff.1 hy).1
 obtain⟨db,dq,y',hA,hy',_,_,y0,y1,y2,y3,y4⟩:=ce_get hce hq
 obtain rfl:y=y':=by rw[hy] at hy';exact Option.some.inj hy'
 obtain⟨dn,hdn⟩:∃ z,z=x.ce.L.length:=⟨_,rfl⟩
 obtain⟨dc,hdc⟩:∃ z,z=x.ce.c:=⟨_,rfl⟩
 have e3:Hid (w.cell? ⟨tb,tq+i*4+3,none⟩=some (.slice (some ⟨db,dq,none⟩) dn dc)):=Lib.hid (by rw[←hA,hdn,hdc];exact lr_cell h hx (k:=3) rfl)
 replace y0:=Lib.hid y0
 replace y1:=Lib.hid y1
 replace y2:=Lib.hid y2
 replace y3:=Lib.hid y3
 replace y4:=Lib.hid y4
 have g5:((j:Nat):Int)<(dn:Int):=by omega
 have g6:(0:Int)≤((j:Nat):Int):=by omega
 clear hy' hA hdn hdc
 have g3:(j:Int)<(p:Int):=by omega
 clear h ht ha hx hy hce hi hq
 clear hjp
 have S:=Lib.hid ((St.new w).allocAt (w.heap.size) #[.bool false,.bool false,.slice none 0 0,.slice none 0 0,.int .i64 0] 58 (noLof rfl) (by simp))
 go_enter Tryz.func78,Tryz.ntmps78
 go_upto_region 1 with fail
 generalize hW:World.alloc _ _=w4 at S ⊢
 clear hW
 have k0:=bel_cell S.out.bel t1.out
 have k1:=bel_cell S.out.bel a0.out
 have k2:=bel_cell S.out.bel e3.out
 have k3:=bel_cell S.out.bel y0.out
 have k4:=bel_cell S.out.bel y1.out
 have k5:=bel_cell S.out.bel y2.out
 have k6:=bel_cell S.out.bel y3.out
 have k7:=bel_cell S.out.bel y4.out
 have c_0:=S.out.cl 0 0 rfl rfl
 have f_0:=S.out.f 0 0 rfl
 have c_1:=S.out.cl 0 1 rfl rfl
 have f_1:=S.out.f 0 1 rfl
 have c_2:=S.out.cl 0 2 rfl rfl
 have f_2:=S.out.f 0 2 rfl
 have c_3:=S.out.cl 0 3 rfl rfl
 have f_3:=S.out.f 0 3 rfl
 have c_4:=S.out.cl 0 4 rfl rfl
 have f_4:=S.out.f 0 4 rfl
 have hz:=S.out.lt 0 rfl
 have T:=Lib.hid ((((((S.out.set 0 0 (.bool y.m) rfl (by nofun)).set 0 1 (.bool y.v.b) rfl (by nofun)).set 0 2 (.slice y.v.x.A y.v.x.n y.v.x.c) rfl (by nofun)).set 0 3 (.slice y.v.y.A y.v.y.n y.v.y.c) rfl (by nofun)).set 0 4 (.int .i64 y.l) rfl (by nofun)))
 clear S
 go_wp2
 refine bodyPost_ret (res_del1 _ _ w.heap.size 58 rfl (T.out.cb 0 rfl)) rfl ⟨rfl,T.out.bel⟩
set_option maxRecDepth 100000 in
set_option maxHeartbeats 4000000 in
theorem delete1_hi (R:Int) (tb tq tn tc:Nat) (L:List Cl) (p ga gt ta tt i j:Nat) (x:Cl) (y:Ce) (w:World) (h:LR clC w (some ⟨tb,tq,none⟩) tn L) (ha:Cb w ga #[.int .i64 p] ta) (ht:Cb w gt #[.int .i64 R,.slice (some ⟨tb,tq,none⟩) tn tc] tt) (hx:L[i]?=some x) (hj:j≤5000) (hp:p≤5000) (hjp:¬ j<p) (hy:x.ce.L[j+1]?=some y):Calls Tryz.prog 78 #[.int .i64 (i:Nat),.int .i64 (j:Nat),.pointer (some ⟨ga,0,none⟩),.pointer (some ⟨gt,0,none⟩)] w fun e w'=>e=.returned (.agg #[.bool y.m,.bool y.v.b,.slice y.v.x.A y.v.x.n y.v.x.c,.slice y.v.y.A y.v.y.n y.v.y.c,.int .i64 y.l])∧Below w.heap.size w w':=by
 have hi:i<tn:=by rw[←h.len];exact (List.getElem?_eq_some_iff.1 hx).1
 have hce:=(cl_at.1 (h.el x (List.mem_of_getElem? hx))).2.1
 have t1:Hid (w.cell? ⟨gt,1,none⟩=some (.slice (some ⟨tb,tq,none⟩) tn tc)):=Lib.hid (ht.cell (i:=1) rfl)
 have a0:Hid (w.cell? ⟨ga,0,none⟩=some (.int .i64 p)):=Lib.hid (ha.cell (i:=0) rfl)
 have g1:(i:Int)<(tn:Int):=by omega
 have g2:(0:Int)≤(i:Int):=by omega
 have hq:j+1<x.ce.L.length:=(List.getElem?_eq_some_iff.1 hy).1
 obtain⟨db,dq,y',hA,hy',_,_,y0,y1,y2,y3,y4⟩:=ce_get hce hq
 obtain rfl:y=y':=by rw[hy] at hy';exact Option.some.inj hy'
 obtain⟨dn,hdn⟩:∃ z,z=x.ce.L.length:=⟨_,rfl⟩
 obtain⟨dc,hdc⟩:∃ z,z=x.ce.c:=⟨_,rfl⟩
 have e3:Hid (w.cell? ⟨tb,tq+i*4+3,none⟩=some (.slice (some ⟨db,dq,none⟩) dn dc)):=Lib.hid (by rw[←hA,hdn,hdc];exact lr_cell h hx (k:=3) rfl)
 replace y0:=Lib.hid y0
 replace y1:=Lib.hid y1
 replace y2:=Lib.hid y2
 replace y3:=Lib.hid y3
 replace y4:=Lib.hid y4
 have g5:((j+1:Nat):Int)<(dn:Int):=by omega
 have g6:(0:Int)≤((j+1:Nat):Int):=by omega
 clear hy' hA hdn hdc
 have g3:¬ (j:Int)<(p:Int):=by omega
 clear h ht ha hx hy hce hi hq
 clear hjp
 have S:=Lib.hid ((St.new w).allocAt (w.heap.size) #[.bool false,.bool false,.slice none 0 0,.slice none 0 0,.int .i64 0] 58 (noLof rfl) (by simp))
 go_enter Tryz.func78,Tryz.ntmps78
 go_upto_region 1 with fail
 generalize hW:World.alloc _ _=w4 at S ⊢
 clear hW
 have k0:=bel_cell S.out.bel t1.out
 have k1:=bel_cell S.out.bel a0.out
 have k2:=bel_cell S.out.bel e3.out
 have k3:=bel_cell S.out.bel y0.out
 have k4:=bel_cell S.out.bel y1.out
 have k5:=bel_cell S.out.bel y2.out
 have k6:=bel_cell S.out.bel y3.out
 have k7:=bel_cell S.out.bel y4.out
 have c_0:=S.out.cl 0 0 rfl rfl
 have f_0:=S.out.f 0 0 rfl
 have c_1:=S.out.cl 0 1 rfl rfl
 have f_1:=S.out.f 0 1 rfl
 have c_2:=S.out.cl 0 2 rfl rfl
 have f_2:=S.out.f 0 2 rfl
 have c_3:=S.out.cl 0 3 rfl rfl
 have f_3:=S.out.f 0 3 rfl
 have c_4:=S.out.cl 0 4 rfl rfl
 have f_4:=S.out.f 0 4 rfl
 have hz:=S.out.lt 0 rfl
 have T:=Lib.hid ((((((S.out.set 0 0 (.bool y.m) rfl (by nofun)).set 0 1 (.bool y.v.b) rfl (by nofun)).set 0 2 (.slice y.v.x.A y.v.x.n y.v.x.c) rfl (by nofun)).set 0 3 (.slice y.v.y.A y.v.y.n y.v.y.c) rfl (by nofun)).set 0 4 (.int .i64 y.l) rfl (by nofun)))
 clear S
 go_wp2
 refine bodyPost_ret (res_del1 _ _ w.heap.size 58 rfl (T.out.cb 0 rfl)) rfl ⟨rfl,T.out.bel⟩
set_option maxRecDepth 100000 in
set_option maxHeartbeats 4000000 in
theorem insert1_lo (R:Int) (tb tq tn tc:Nat) (L:List Cl) (p ga gt ta tt i j:Nat) (x:Cl) (y:Ce) (w:World) (h:LR clC w (some ⟨tb,tq,none⟩) tn L) (ha:Cb w ga #[.int .i64 p] ta) (ht:Cb w gt #[.int .i64 R,.slice (some ⟨tb,tq,none⟩) tn tc] tt) (hx:L[i]?=some x) (hj:j≤5000) (hp:p≤5000) (MA:Option Addr) (mn mc:Nat) (M:List Ce) (gc tcx:Nat) (hM:LR ceC w MA mn M) (hg:Cb w gc #[.slice MA mn mc] tcx) (hjp:j<p) (hy:x.ce.L[j]?=some y):Calls Tryz.prog 77 #[.int .i64 (i:Nat),.int .i64 (j:Nat),.pointer (some ⟨ga,0,none⟩),.pointer (some ⟨gt,0,none⟩),.pointer (some ⟨gc,0,none⟩)] w fun e w'=>e=.returned (.agg #[.bool y.m,.bool y.v.b,.slice y.v.x.A y.v.x.n y.v.x.c,.slice y.v.y.A y.v.y.n y.v.y.c,.int .i64 y.l])∧Below w.heap.size w w':=by
 have hi:i<tn:=by rw[←h.len];exact (List.getElem?_eq_some_iff.1 hx).1
 have hce:=(cl_at.1 (h.el x (List.mem_of_getElem? hx))).2.1
 have t1:Hid (w.cell? ⟨gt,1,none⟩=some (.slice (some ⟨tb,tq,none⟩) tn tc)):=Lib.hid (ht.cell (i:=1) rfl)
 have a0:Hid (w.cell? ⟨ga,0,none⟩=some (.int .i64 p)):=Lib.hid (ha.cell (i:=0) rfl)
 have g1:(i:Int)<(tn:Int):=by omega
 have g2:(0:Int)≤(i:Int):=by omega
 have hq:j<x.ce.L.length:=(List.getElem?_eq_some_iff.1 hy).1
 obtain⟨db,dq,y',hA,hy',_,_,y0,y1,y2,y3,y4⟩:=ce_get hce hq
 obtain rfl:y=y':=by rw[hy] at hy';exact Option.some.inj hy'
 obtain⟨dn,hdn⟩:∃ z,z=x.ce.L.length:=⟨_,rfl⟩
 obtain⟨dc,hdc⟩:∃ z,z=x.ce.c:=⟨_,rfl⟩
 have e3:Hid (w.cell? ⟨tb,tq+i*4+3,none⟩=some (.slice (some ⟨db,dq,none⟩) dn dc)):=Lib.hid (by rw[←hA,hdn,hdc];exact lr_cell h hx (k:=3) rfl)
 replace y0:=Lib.hid y0
 replace y1:=Lib.hid y1
 replace y2:=Lib.hid y2
 replace y3:=Lib.hid y3
 replace y4:=Lib.hid y4
 have g5:((j:Nat):Int)<(dn:Int):=by omega
 have g6:(0:Int)≤((j:Nat):Int):=by omega
 clear hy' hA hdn hdc
 have g3:(j:Int)<(p:Int):=by omega
 clear h ht ha hx hy hce hi hq
 clear hjp hM hg
 have S:=Lib.hid ((St.new w).allocAt (w.heap.size) #[.bool false,.bool false,.slice none 0 0,.slice none 0 0,.int .i64 0] 58 (noLof rfl) (by simp))
 go_enter Tryz.func77,Tryz.ntmps77
 go_upto_region 1 with fail
 generalize hW:World.alloc _ _=w4 at S ⊢
 clear hW
 have k0:=bel_cell S.out.bel t1.out
 have k1:=bel_cell S.out.bel a0.out
 have k2:=bel_cell S.out.bel e3.out
 have k3:=bel_cell S.out.bel y0.out
 have k4:=bel_cell S.out.bel y1.out
 have k5:=bel_cell S.out.bel y2.out
 have k6:=bel_cell S.out.bel y3.out
 have k7:=bel_cell S.out.bel y4.out
 have c_0:=S.out.cl 0 0 rfl rfl
 have f_0:=S.out.f 0 0 rfl
 have c_1:=S.out.cl 0 1 rfl rfl
 have f_1:=S.out.f 0 1 rfl
 have c_2:=S.out.cl 0 2 rfl rfl
 have f_2:=S.out.f 0 2 rfl
 have c_3:=S.out.cl 0 3 rfl rfl
 have f_3:=S.out.f 0 3 rfl
 have c_4:=S.out.cl 0 4 rfl rfl
 have f_4:=S.out.f 0 4 rfl
 have hz:=S.out.lt 0 rfl
 have T:=Lib.hid ((((((S.out.set 0 0 (.bool y.m) rfl (by nofun)).set 0 1 (.bool y.v.b) rfl (by nofun)).set 0 2 (.slice y.v.x.A y.v.x.n y.v.x.c) rfl (by nofun)).set 0 3 (.slice y.v.y.A y.v.y.n y.v.y.c) rfl (by nofun)).set 0 4 (.int .i64 y.l) rfl (by nofun)))
 clear S
 go_wp2
 refine bodyPost_ret (res_ins1 _ _ w.heap.size 58 rfl (T.out.cb 0 rfl)) rfl ⟨rfl,T.out.bel⟩
set_option maxRecDepth 100000 in
set_option maxHeartbeats 4000000 in
theorem insert1_hi (R:Int) (tb tq tn tc:Nat) (L:List Cl) (p ga gt ta tt i j:Nat) (x:Cl) (y:Ce) (w:World) (h:LR clC w (some ⟨tb,tq,none⟩) tn L) (ha:Cb w ga #[.int .i64 p] ta) (ht:Cb w gt #[.int .i64 R,.slice (some ⟨tb,tq,none⟩) tn tc] tt) (hx:L[i]?=some x) (hj:j≤5000) (hp:p≤5000) (MA:Option Addr) (mn mc:Nat) (M:List Ce) (gc tcx:Nat) (hM:LR ceC w MA mn M) (hg:Cb w gc #[.slice MA mn mc] tcx) (hjp:p<j) (hy:x.ce.L[j-1]?=some y):Calls Tryz.prog 77 #[.int .i64 (i:Nat),.int .i64 (j:Nat),.pointer (some ⟨ga,0,none⟩),.pointer (some ⟨gt,0,none⟩),.pointer (some ⟨gc,0,none⟩)] w fun e w'=>e=.returned (.agg #[.bool y.m,.bool y.v.b,.slice y.v.x.A y.v.x.n y.v.x.c,.slice y.v.y.A y.v.y.n y.v.y.c,.int .i64 y.l])∧Below w.heap.size w w':=by
 obtain⟨k,rfl⟩:∃ k,j=k+1:=⟨j-1,by omega⟩
 rw[Nat.add_sub_cancel] at hy
 have hi:i<tn:=by rw[←h.len];exact (List.getElem?_eq_some_iff.1 hx).1
 have hce:=(cl_at.1 (h.el x (List.mem_of_getElem? hx))).2.1
 have t1:Hid (w.cell? ⟨gt,1,none⟩=some (.slice (some ⟨tb,tq,none⟩) tn tc)):=Lib.hid (ht.cell (i:=1) rfl)
 have a0:Hid (w.cell? ⟨ga,0,none⟩=some (.int .i64 p)):=Lib.hid (ha.cell (i:=0) rfl)
 have g1:(i:Int)<(tn:Int):=by omega
 have g2:(0:Int)≤(i:Int):=by omega
 have hq:k<x.ce.L.length:=(List.getElem?_eq_some_iff.1 hy).1
 obtain⟨db,dq,y',hA,hy',_,_,y0,y1,y2,y3,y4⟩:=ce_get hce hq
 obtain rfl:y=y':=by rw[hy] at hy';exact Option.some.inj hy'
 obtain⟨dn,hdn⟩:∃ z,z=x.ce.L.length:=⟨_,rfl⟩
 obtain⟨dc,hdc⟩:∃ z,z=x.ce.c:=⟨_,rfl⟩
 have e3:Hid (w.cell? ⟨tb,tq+i*4+3,none⟩=some (.slice (some ⟨db,dq,none⟩) dn dc)):=Lib.hid (by rw[←hA,hdn,hdc];exact lr_cell h hx (k:=3) rfl)
 replace y0:=Lib.hid y0
 replace y1:=Lib.hid y1
 replace y2:=Lib.hid y2
 replace y3:=Lib.hid y3
 replace y4:=Lib.hid y4
 have g5:((k:Nat):Int)<(dn:Int):=by omega
 have g6:(0:Int)≤((k:Nat):Int):=by omega
 clear hy' hA hdn hdc
 have g3:¬ ((k+1:Nat):Int)<(p:Int):=by omega
 have g4:(((k+1:Nat):Int)==(p:Int))=false:=by rw[beq_eq_false_iff_ne];omega
 clear h ht ha hx hy hce hi hq
 clear hjp hM hg
 have S:=Lib.hid ((St.new w).allocAt (w.heap.size) #[.bool false,.bool false,.slice none 0 0,.slice none 0 0,.int .i64 0] 58 (noLof rfl) (by simp))
 go_enter Tryz.func77,Tryz.ntmps77
 go_upto_region 1 with fail
 generalize hW:World.alloc _ _=w4 at S ⊢
 clear hW
 have k0:=bel_cell S.out.bel t1.out
 have k1:=bel_cell S.out.bel a0.out
 have k2:=bel_cell S.out.bel e3.out
 have k3:=bel_cell S.out.bel y0.out
 have k4:=bel_cell S.out.bel y1.out
 have k5:=bel_cell S.out.bel y2.out
 have k6:=bel_cell S.out.bel y3.out
 have k7:=bel_cell S.out.bel y4.out
 have c_0:=S.out.cl 0 0 rfl rfl
 have f_0:=S.out.f 0 0 rfl
 have c_1:=S.out.cl 0 1 rfl rfl
 have f_1:=S.out.f 0 1 rfl
 have c_2:=S.out.cl 0 2 rfl rfl
 have f_2:=S.out.f 0 2 rfl
 have c_3:=S.out.cl 0 3 rfl rfl
 have f_3:=S.out.f 0 3 rfl
 have c_4:=S.out.cl 0 4 rfl rfl
 have f_4:=S.out.f 0 4 rfl
 have hz:=S.out.lt 0 rfl
 have T:=Lib.hid ((((((S.out.set 0 0 (.bool y.m) rfl (by nofun)).set 0 1 (.bool y.v.b) rfl (by nofun)).set 0 2 (.slice y.v.x.A y.v.x.n y.v.x.c) rfl (by nofun)).set 0 3 (.slice y.v.y.A y.v.y.n y.v.y.c) rfl (by nofun)).set 0 4 (.int .i64 y.l) rfl (by nofun)))
 clear S
 go_wp2
 refine bodyPost_ret (res_ins1 _ _ w.heap.size 58 rfl (T.out.cb 0 rfl)) rfl ⟨rfl,T.out.bel⟩
set_option maxRecDepth 100000 in
set_option maxHeartbeats 4000000 in
theorem insert1_eq (R:Int) (tb tq tn tc:Nat) (L:List Cl) (p ga gt ta tt i j:Nat) (x:Cl) (y:Ce) (w:World) (h:LR clC w (some ⟨tb,tq,none⟩) tn L) (ha:Cb w ga #[.int .i64 p] ta) (ht:Cb w gt #[.int .i64 R,.slice (some ⟨tb,tq,none⟩) tn tc] tt) (hx:L[i]?=some x) (hj:j≤5000) (hp:p≤5000) (MA:Option Addr) (mn mc:Nat) (M:List Ce) (gc tcx:Nat) (hM:LR ceC w MA mn M) (hg:Cb w gc #[.slice MA mn mc] tcx) (hjp:j=p) (hy:M[i]?=some y):Calls Tryz.prog 77 #[.int .i64 (i:Nat),.int .i64 (j:Nat),.pointer (some ⟨ga,0,none⟩),.pointer (some ⟨gt,0,none⟩),.pointer (some ⟨gc,0,none⟩)] w fun e w'=>e=.returned (.agg #[.bool y.m,.bool y.v.b,.slice y.v.x.A y.v.x.n y.v.x.c,.slice y.v.y.A y.v.y.n y.v.y.c,.int .i64 y.l])∧Below w.heap.size w w':=by
 have hi:i<tn:=by rw[←h.len];exact (List.getElem?_eq_some_iff.1 hx).1
 have hq:i<mn:=by rw[←hM.len];exact (List.getElem?_eq_some_iff.1 hy).1
 obtain⟨mb,mq,y',rfl,hy',_,_,y0,y1,y2,y3,y4⟩:=ce_get hM hq
 obtain rfl:y=y':=by rw[hy] at hy';exact Option.some.inj hy'
 have a0:Hid (w.cell? ⟨ga,0,none⟩=some (.int .i64 p)):=Lib.hid (ha.cell (i:=0) rfl)
 have m0:Hid (w.cell? ⟨gc,0,none⟩=some (.slice (some ⟨mb,mq,none⟩) mn mc)):=Lib.hid (hg.cell (i:=0) rfl)
 have g1:(i:Int)<(mn:Int):=by omega
 have g2:(0:Int)≤(i:Int):=by omega
 have g3:¬ (j:Int)<(p:Int):=by omega
 have g4:((j:Int)==(p:Int))=true:=by rw[beq_iff_eq];omega
 replace y0:=Lib.hid y0
 replace y1:=Lib.hid y1
 replace y2:=Lib.hid y2
 replace y3:=Lib.hid y3
 replace y4:=Lib.hid y4
 clear h ht ha hx hy hy' hi hq hjp hM hg
 have S:=Lib.hid ((St.new w).allocAt (w.heap.size) #[.bool false,.bool false,.slice none 0 0,.slice none 0 0,.int .i64 0] 58 (noLof rfl) (by simp))
 go_enter Tryz.func77,Tryz.ntmps77
 go_upto_region 1 with fail
 generalize hW:World.alloc _ _=w4 at S ⊢
 clear hW
 have k0:=bel_cell S.out.bel a0.out
 have k1:=bel_cell S.out.bel m0.out
 have k2:=bel_cell S.out.bel y0.out
 have k3:=bel_cell S.out.bel y1.out
 have k4:=bel_cell S.out.bel y2.out
 have k5:=bel_cell S.out.bel y3.out
 have k6:=bel_cell S.out.bel y4.out
 have c_0:=S.out.cl 0 0 rfl rfl
 have f_0:=S.out.f 0 0 rfl
 have c_1:=S.out.cl 0 1 rfl rfl
 have f_1:=S.out.f 0 1 rfl
 have c_2:=S.out.cl 0 2 rfl rfl
 have f_2:=S.out.f 0 2 rfl
 have c_3:=S.out.cl 0 3 rfl rfl
 have f_3:=S.out.f 0 3 rfl
 have c_4:=S.out.cl 0 4 rfl rfl
 have f_4:=S.out.f 0 4 rfl
 have hz:=S.out.lt 0 rfl
 have T:=Lib.hid ((((((S.out.set 0 0 (.bool y.m) rfl (by nofun)).set 0 1 (.bool y.v.b) rfl (by nofun)).set 0 2 (.slice y.v.x.A y.v.x.n y.v.x.c) rfl (by nofun)).set 0 3 (.slice y.v.y.A y.v.y.n y.v.y.c) rfl (by nofun)).set 0 4 (.int .i64 y.l) rfl (by nofun)))
 clear S
 go_wp2
 refine bodyPost_ret (res_ins1 _ _ w.heap.size 58 rfl (T.out.cb 0 rfl)) rfl ⟨rfl,T.out.bel⟩
end Go.Proofs.YtdeedofmflelfaaGreatDoor

namespace Go.Proofs.YtdeedofmflelfaaGreatDoor
open Go.RowKit RQ
set_option linter.unusedVariables false
theorem getD_map {α β:Type} (f:α→β) (l:List α) (d:α) (j:Nat):(l.map f).getD j (f d)=f (l.getD j d):=by
 rw[List.getD_eq_getElem?_getD,List.getD_eq_getElem?_getD,List.getElem?_map]
 cases l[j]?<;>rfl
theorem cx_getD (l:List Ce) (j:Nat):(l.map Ce.cx).getD j cx0=(l.getD j Ce0).cx:=getD_map Ce.cx l Ce0 j
theorem getD_some {α:Type} {l:List α} {i:Nat} {x:α} (d:α) (h:l[i]?=some x):l.getD i d=x:=by
 rw[List.getD_eq_getElem?_getD,h];rfl
theorem getD_at {α:Type} {l:List α} {i:Nat} (d:α) (h:i<l.length):l[i]?=some (l.getD i d):=by
 rw[getD_lt d h];exact List.getElem?_eq_getElem h
theorem insL_at {T:List Lx} {ys:List Cx} {p i:Nat} {c:Lx} {y:Cx} (h:T[i]?=some c) (hy:ys[i]?=some y):(insL T ys p)[i]?=some ⟨c.n,c.k,c.lv,insC c.ce y cx0 p⟩:=by
 unfold insL
 rw[List.getElem?_map,(List.getElem?_zip_eq_some (z:=(c,y))).2 ⟨h,hy⟩];rfl
theorem delL_at {T:List Lx} {p i:Nat} {c:Lx} (h:T[i]?=some c):(delL T p)[i]?=some ⟨c.n,c.k,c.lv,delC c.ce cx0 p⟩:=by
 unfold delL
 rw[List.getElem?_map,h];rfl
/-- The cells that Delete and Insert take. -/
def delY (L:List Cl) (p i j:Nat):Ce:=if j<p then (L.getD i Cl0).ce.L.getD j Ce0 else (L.getD i Cl0).ce.L.getD (j+1) Ce0
def insY (L:List Cl) (M:List Ce) (p i j:Nat):Ce:=if j<p then (L.getD i Cl0).ce.L.getD j Ce0 else if j=p then M.getD i Ce0 else (L.getD i Cl0).ce.L.getD (j-1) Ce0
theorem delL_tab {r:Nat} {T:List Lx} {p:Nat} (h:tabB ((r+1:Nat):Int) T=true) (hp:p<r+1):tabB (r:Int) (delL T p)=true:=by
 have hr:=(tab_parts h).2.1
 refine tab_map (fun c=>delC c.ce cx0 p) h (Int.natCast_nonneg _) (by omega) fun c _ hc=>?_
 have hl:=(col_fits hc).1
 refine⟨by rw[del_len];omega,fun y hy=>?_⟩
 unfold delC at hy
 obtain⟨j,hj,rfl⟩:=List.mem_map.1 hy
 have hj:=List.mem_range.1 hj
 split<;>exact fit_at hc (by omega)
theorem insL_len (T:List Lx) (ys:List Cx) (p:Nat) (hl:ys.length=T.length):(insL T ys p).length=T.length:=by unfold insL;rw[List.length_map,List.length_zip];omega
theorem insL_tab {r:Nat} {T:List Lx} {ys:List Cx} {p:Nat} (h:tabB (r:Int) T=true) (hl:ys.length=T.length) (hf:∀ (i:Nat) (c:Lx) (y:Cx),T[i]?=some c→ys[i]?=some y→fitB c.k c.lv.length y=true) (hp:p≤r) (hr:r+1≤1024):tabB ((r+1:Nat):Int) (insL T ys p)=true:=by
 obtain⟨h1,h2,h3,h4,h5⟩:=tab_parts h
 refine tab_mk ⟨Int.natCast_nonneg _,by omega,by rw[insL_len _ _ _ hl];exact h3,?_,?_⟩
 ·have:(insL T ys p).map (·.n)=T.map (·.n):=by
   unfold insL
   rw[List.map_map]
   have:T=(List.zip T ys).map Prod.fst:=by rw[List.map_fst_zip (by omega)]
   conv=>rhs;rw[this,List.map_map]
   rfl
  rw[this];exact h4
 ·rw[List.all_eq_true]
  intro c hc
  unfold insL at hc
  obtain⟨d,hd,rfl⟩:=List.mem_map.1 hc
  obtain⟨i,hi⟩:=List.getElem?_of_mem hd
  rw[List.getElem?_zip_eq_some] at hi
  have hcb:=List.all_eq_true.1 h5 d.1 (List.mem_of_getElem? hi.1)
  have hlc:=(col_fits hcb).1
  have hcb':=hcb
  unfold colB at hcb ⊢
  simp only[Bool.and_eq_true,decide_eq_true_eq] at hcb ⊢
  refine⟨⟨hcb.1.1,by rw[ins_len];omega⟩,?_⟩
  rw[List.all_eq_true]
  intro y hy
  unfold insC at hy
  obtain⟨j,hj,rfl⟩:=List.mem_map.1 hy
  have hj:=List.mem_range.1 hj
  split
  ·exact fit_at hcb' (by omega)
  ·split
   ·exact hf i d.1 d.2 hi.1 hi.2
   ·exact fit_at hcb' (by omega)
theorem delL_insL {T:List Lx} {ys:List Cx} {p:Nat} (hl:ys.length=T.length):delL (insL T ys p) p=T:=by
 unfold delL insL
 rw[List.map_map]
 have:(List.zip T ys).map Prod.fst=T:=by rw[List.map_fst_zip (by omega)]
 conv=>rhs;rw[←this]
 refine List.map_congr_left fun c _=>?_
 show Lx.mk _ _ _ _=c.1
 show Lx.mk c.1.n c.1.k c.1.lv (delC (insC c.1.ce c.2 cx0 p) cx0 p)=c.1
 rw[del_ins]
theorem insL_delL {r:Nat} {T:List Lx} {p:Nat} (h:tabB (r:Int) T=true) (hp:p<r):insL (delL T p) (T.map fun c=>c.ce.getD p cx0) p=T:=by
 have hl:(insL (delL T p) (T.map fun c=>c.ce.getD p cx0) p).length=T.length:=by
  rw[insL_len _ _ _ (by unfold delL;rw[List.length_map,List.length_map])]
  unfold delL;rw[List.length_map]
 apply List.ext_getElem?
 intro i
 rcases Nat.lt_or_ge i T.length with h2 | h2
 ·have hc:=List.all_eq_true.1 (tab_parts h).2.2.2.2 T[i] (List.getElem_mem h2)
  have hlc:=(col_fits hc).1
  have he:=List.getElem?_eq_getElem h2
  rw[insL_at (delL_at he) (by rw[List.getElem?_map,he];rfl),he,ins_del _ _ _ (by omega)]
 ·rw[List.getElem?_eq_none (by omega),List.getElem?_eq_none h2]
theorem insL_fit {r:Nat} {T:List Lx} {p:Nat} (h:tabB (r:Int) T=true) (hp:p<r):∀ (i:Nat) (c:Lx) (y:Cx),(delL T p)[i]?=some c→(T.map fun c=>c.ce.getD p cx0)[i]?=some y→fitB c.k c.lv.length y=true:=by
 intro i c y h1 h2
 unfold delL at h1
 rw[List.getElem?_map] at h1 h2
 obtain⟨d,hd,rfl⟩:=Option.map_eq_some_iff.1 h1
 rw[hd] at h2
 injection h2 with h2
 subst h2
 exact fit_at (List.all_eq_true.1 (tab_parts h).2.2.2.2 d (List.mem_of_getElem? hd)) (by omega)
theorem del_lx {L Cs:List Cl} {r p:Nat} (hv:tabB ((r+1:Nat):Int) (L.map Cl.lx)=true) (hl:Cs.length=L.length) (h:∀ (q:Nat) (x:Cl),L[q]?=some x→∃ c:Cl,Cs[q]?=some c∧c.lx=⟨x.n,x.k,x.lv.L,(List.range r).map fun j=>(delY L p q j).cx⟩):Cs.map Cl.lx=delL (L.map Cl.lx) p:=by
 refine lx_map (fun c=>⟨c.n,c.k,c.lv,delC c.ce cx0 p⟩) hl fun q x hx=>?_
 obtain⟨c,h1,h2⟩:=h q x hx
 refine⟨c,h1,h2.trans ?_⟩
 have e:(List.range r).map (fun j=>(delY L p q j).cx)=delC (x.ce.L.map Ce.cx) cx0 p:=by
  unfold delC
  rw[List.length_map,ce_len hv (List.mem_of_getElem? hx),Nat.add_sub_cancel]
  refine List.map_congr_left fun j _=>?_
  unfold delY
  rw[getD_some Cl0 hx,cx_getD,cx_getD]
  split<;>rfl
 rw[e];rfl
theorem ins_lx {L Cs:List Cl} {M:List Ce} {r p:Nat} (hv:tabB (r:Int) (L.map Cl.lx)=true) (hl:Cs.length=L.length) (hM:M.length=L.length) (h:∀ (q:Nat) (x:Cl),L[q]?=some x→∃ c:Cl,Cs[q]?=some c∧c.lx=⟨x.n,x.k,x.lv.L,(List.range (r+1)).map fun j=>(insY L M p q j).cx⟩):Cs.map Cl.lx=insL (L.map Cl.lx) (M.map Ce.cx) p:=by
 have hil:(insL (L.map Cl.lx) (M.map Ce.cx) p).length=L.length:=by
  rw[insL_len _ _ _ (by rw[List.length_map,List.length_map];exact hM),List.length_map]
 apply List.ext_getElem?
 intro q
 rcases Nat.lt_or_ge q L.length with hq | hq
 ·have hx:=List.getElem?_eq_getElem hq
  obtain⟨y,hy⟩:∃ y,M[q]?=some y:=⟨_,List.getElem?_eq_getElem (by omega)⟩
  obtain⟨c,h3,h4⟩:=h q L[q] hx
  rw[insL_at (show (L.map Cl.lx)[q]?=some L[q].lx by rw[List.getElem?_map,hx];rfl) (show (M.map Ce.cx)[q]?=some y.cx by rw[List.getElem?_map,hy];rfl),List.getElem?_map,h3]
  show some c.lx=_
  rw[h4]
  have e:(List.range (r+1)).map (fun j=>(insY L M p q j).cx)=insC (L[q].ce.L.map Ce.cx) y.cx cx0 p:=by
   unfold insC
   rw[List.length_map,ce_len hv (List.getElem_mem hq)]
   refine List.map_congr_left fun j _=>?_
   unfold insY
   rw[getD_some Cl0 hx,cx_getD,cx_getD,getD_some Ce0 hy]
   split
   ·rfl
   ·split<;>rfl
  rw[e];rfl
 ·rw[List.getElem?_eq_none (by rw[List.length_map];omega),List.getElem?_eq_none (by omega)]
/-- One element in a block of its own. -/
theorem lr_one {α:Type} {C:Cod α} {W:World} {g t:Nat} {x:α} (h:Cb W g (C.cs x).toArray t) (hx:C.At W x):LR C W (some ⟨g,0,none⟩) 1 [x]:=by
 refine⟨rfl,.inr ⟨g,0,rfl,h.lt,fun i y hi k v hv=>?_⟩,fun y hy=>by rw[List.mem_singleton.1 hy];exact hx⟩
 obtain rfl:i=0:=by
  have:=(List.getElem?_eq_some_iff.1 hi).1
  simpa using this
 obtain rfl:x=y:=by simpa using hi
 rw[Nat.zero_mul,Nat.zero_add]
 try rw[Nat.zero_add]
 exact h.cell (by rw[List.getElem?_toArray];exact hv)
theorem delY_ok {L:List Cl} {r p:Nat} {TA:Option Addr} {tn tc gt ga tt ta:Nat} {W:World} (h:LR clC W TA tn L) (hx:∀ x∈L,LtL x) (hv:tabB ((r+1:Nat):Int) (L.map Cl.lx)=true) (hp:p<r+1) (hr:r≤2000) (ht:Cb W gt #[.int .i64 (r+1:Nat),.slice TA tn tc] tt) (ha:Cb W ga #[.int .i64 p] ta) (i j:Nat) (hi:i<tn) (hj:j<r):LtC (delY L p i j)∧ceC.At W (delY L p i j)∧∀ W',Below W.heap.size W W'→Calls Tryz.prog 78 #[.int .i64 (i:Nat),.int .i64 (j:Nat),.pointer (some ⟨ga,0,none⟩),.pointer (some ⟨gt,0,none⟩)] W' fun e w'=>e=.returned (.agg (delY L p i j).vs)∧Below W'.heap.size W' w':=by
 obtain⟨x,hxe⟩:∃ x,L[i]?=some x:=⟨_,List.getElem?_eq_getElem (by rw[h.len];exact hi)⟩
 have hxm:=List.mem_of_getElem? hxe
 have hlen:=ce_len hv hxm
 obtain⟨tb,tq,_,rfl,_⟩:=cl_get h hi
 have hd:delY L p i j=if j<p then x.ce.L.getD j Ce0 else x.ce.L.getD (j+1) Ce0:=by unfold delY;rw[getD_some Cl0 hxe]
 by_cases hjp:j<p
 ·rw[if_pos hjp] at hd
  rw[hd]
  have hy:=getD_at Ce0 (l:=x.ce.L) (i:=j) (by omega)
  have hym:=List.mem_of_getElem? hy
  exact⟨(hx x hxm).2.2.2.2 _ hym,(cl_at.1 (h.el x hxm)).2.1.el _ hym,fun W' hW=>delete1_lo _ tb tq tn tc L p ga gt ta tt i j x _ W' (h.bel hW) (ha.bel hW) (ht.bel hW) hxe (by omega) (by omega) hjp hy⟩
 ·rw[if_neg hjp] at hd
  rw[hd]
  have hy:=getD_at Ce0 (l:=x.ce.L) (i:=j+1) (by omega)
  have hym:=List.mem_of_getElem? hy
  exact⟨(hx x hxm).2.2.2.2 _ hym,(cl_at.1 (h.el x hxm)).2.1.el _ hym,fun W' hW=>delete1_hi _ tb tq tn tc L p ga gt ta tt i j x _ W' (h.bel hW) (ha.bel hW) (ht.bel hW) hxe (by omega) (by omega) hjp hy⟩
theorem res_del (W:World) (tmps:Array Value) (g t:Nat) {v0 v1 e0:Value} (ht:tmps.getD 4 undef=.pointer (some ⟨g,0,none⟩)) (h0:tmps.getD 5 undef=e0) (h:Cb W g #[v0,v1] t) :
  (results Tryz.f32 tmps).run Tryz.prog W=.ok (.tuple #[.agg #[v0,v1],e0]) W:=by
 have c0:W.cell? ⟨g,0,none⟩=some v0:=h.cell rfl
 have c1:W.cell? ⟨g,1,none⟩=some v1:=h.cell rfl
 have ht':tmps[4]?.getD undef=.pointer (some ⟨g,0,none⟩):=by rw[←ht];simp[Array.getD_eq_getD_getElem?]
 have k0:tmps[5]?.getD undef=e0:=by rw[←h0];simp[Array.getD_eq_getD_getElem?]
 simp[results,Tryz.results32,go_sem,ht',k0,c0,c1]
theorem res_ins (W:World) (tmps:Array Value) (g t:Nat) {v0 v1 e0:Value} (ht:tmps.getD 6 undef=.pointer (some ⟨g,0,none⟩)) (h0:tmps.getD 7 undef=e0) (h:Cb W g #[v0,v1] t) :
  (results Tryz.f31 tmps).run Tryz.prog W=.ok (.tuple #[.agg #[v0,v1],e0]) W:=by
 have c0:W.cell? ⟨g,0,none⟩=some v0:=h.cell rfl
 have c1:W.cell? ⟨g,1,none⟩=some v1:=h.cell rfl
 have ht':tmps[6]?.getD undef=.pointer (some ⟨g,0,none⟩):=by rw[←ht];simp[Array.getD_eq_getD_getElem?]
 have k0:tmps[7]?.getD undef=e0:=by rw[←h0];simp[Array.getD_eq_getD_getElem?]
 simp[results,Tryz.results31,go_sem,ht',k0,c0,c1]
theorem permD {α:Type} (a b c d e:α) (l:List α):(a::b::c::d::e::l).Perm (e::a::b::c::d::l):=List.perm_middle (l₁:=[a,b,c,d])
set_option maxRecDepth 100000 in
set_option maxHeartbeats 4000000 in
/-- A row is left out. -/
theorem delete_any (r:Nat) (TA:Option Addr) (tn tc:Nat) (L:List Cl) (p:Nat) (w:World) (h:LR clC w TA tn L) (hx:∀ x∈L,LtL x) (hv:tabB ((r+1:Nat):Int) (L.map Cl.lx)=true) (hp:p<r+1):Calls Tryz.prog 32 #[.agg #[.int .i64 (r+1:Nat),.slice TA tn tc],.int .i64 p] w fun e w'=>∃ cb Cs,e=.returned (.tuple #[.agg #[.int .i64 r,.slice (some ⟨cb,0,none⟩) tn tn],.int .i64 0])∧LR clC w' (some ⟨cb,0,none⟩) tn Cs∧Cs.map Cl.lx=delL (L.map Cl.lx) p∧(∀ c∈Cs,LtL c)∧Below w.heap.size w w':=by
 have hrh:Hid (r+1≤1024):=Lib.hid (by have:=(tab_parts hv).2.1;omega)
 have hC:Hid (∀ W,Below w.heap.size w W→∀ {g t:Nat},Cb W g #[.int .i64 p] t→Calls Tryz.prog 74 #[.agg #[.int .i64 (r+1:Nat),.slice TA tn tc],.int .i64 (r+1:Nat),.slice (some ⟨g,0,none⟩) 1 1] W fun e w'=>e=.returned (.int .i64 0)∧Below W.heap.size W w'):=Lib.hid fun W hW g t hg=>check_ok L _ TA tn tc _ [(p:Int)] _ 1 1 W (h.bel hW) hx hv (lr_one (C:=intC) hg trivial) (by omega) (fun z hz=>by
  rw[List.mem_singleton.1 hz];omega)
 have htn:Hid (tn≤32):=Lib.hid (by rw[←h.len];exact tab_tn hv)
 have hlen:=Lib.hid h.len
 have hT:=Lib.hid h
 have hLt:=Lib.hid hx
 have hph:=Lib.hid hp
 have hrb:r≤1024:=by have:=hrh.out;omega
 replace hv:=Lib.hid hv
 clear h hx hp
 have S:=((((St.new w).allocAt (w.heap.size) #[.int .i64 (r+1:Nat),.slice TA tn tc] 37 (noLof rfl) (by simp)).allocAt (w.heap.size+1) #[.int .i64 p] 3 (noLof rfl) (by simp)).allocAt (w.heap.size+1+1) #[.int .i64 0,.slice none 0 0] 37 (noLof rfl) (by simp))
 replace S:=Lib.hid S
 go_enter Tryz.func32,Tryz.ntmps32
 go_wp2_with fail
 refine (hC.out _ (S.out.allocAt (w.heap.size+1+1+1) #[.int .i64 p] 3 (noLof rfl) (by simp)).bel ((S.out.allocAt (w.heap.size+1+1+1) #[.int .i64 p] 3 (noLof rfl) (by simp)).cb 0 rfl)).mono ?_
 rintro e w1 ⟨rfl,bb⟩
 have T:=((S.out.allocAt (w.heap.size+1+1+1) #[.int .i64 p] 3 (noLof rfl) (by simp)).call bb)
 clear bb S
 have S:=T
 clear T
 have c_q0:=S.cl 0 0 rfl rfl
 have f_q0:=S.f 0 0 rfl
 obtain⟨c_r0,c_r1,f_r0,f_r1⟩:=S.cf2 1 rfl
 have c_y0:=S.cl 2 0 rfl rfl
 have f_y0:=S.f 2 0 rfl
 obtain⟨c_x0,c_x1,f_x0,f_x1⟩:=S.cf2 3 rfl
 have hz:w.heap.size+1+1+1<w1.heap.size:=S.lt 0 rfl
 replace S:=Lib.hid S
 go_wp2_with fail
 refine (arranged2_any _ TA tn tc r L 78 (.pointer (some ⟨w.heap.size+1,0,none⟩)) (.pointer (some ⟨w.heap.size,0,none⟩)) (delY L p) _ (hT.out.bel S.out.bel) hLt.out htn.out (by have:=hrh.out;omega) (fun _ _ _=>by kernel_rfl) (delY_ok (hT.out.bel S.out.bel) hLt.out hv.out hph.out (by have:=hrh.out;omega) (S.out.cb 3 rfl) (S.out.cb 2 rfl))).mono ?_
 rintro e w2 ⟨cb,Cs,F1,rs1,rfl,SJ,hCl,hIn,hcs,hls⟩
 have T:St w _ ((w.heap.size+1+1+1,#[.int .i64 p],3)::(w.heap.size+1+1,#[.int .i64 0,.slice none 0 0],37)::(w.heap.size+1,#[.int .i64 p],3)::(w.heap.size,#[.int .i64 (r+1:Nat),.slice TA tn tc],37)::(cb,(clC.all Cs).toArray,56)::F1) rs1:=S.out.join SJ
 clear S SJ c_q0 f_q0 c_r0 f_r0 c_r1 f_r1 c_y0 f_y0 c_x0 f_x0 c_x1 f_x1 hz
 have S:=T
 clear T
 obtain⟨c_r0,c_r1,f_r0,f_r1⟩:=S.cf2 1 rfl
 have hz:w.heap.size+1+1+1<w2.heap.size:=S.lt 0 rfl
 replace S:=Lib.hid S
 replace hCl:=Lib.hid hCl
 replace hIn:=Lib.hid hIn
 replace hcs:=Lib.hid hcs
 replace hls:=Lib.hid hls
 have T:=Lib.hid (show St w _ ((w.heap.size+1+1+1,#[.int .i64 p],3)::(w.heap.size+1+1,#[.int .i64 r,.slice (some ⟨cb,0,none⟩) tn tn],37)::(w.heap.size+1,#[.int .i64 p],3)::(w.heap.size,#[.int .i64 (r+1:Nat),.slice TA tn tc],37)::(cb,(clC.all Cs).toArray,56)::F1) rs1 from (S.out.set 1 0 (.int .i64 r) rfl (by nofun)).set 1 1 (.slice (some ⟨cb,0,none⟩) tn tn) rfl (by nofun))
 clear S
 go_wp2
 have hLR:=St_glr (T.out.prm (permD _ _ _ _ _ _)) tn hCl.out (fun c hc=>clC.at_ T.out.sub.sub.sub.sub.sub (hIn.out c hc _))
 refine bodyPost_ret (res_del _ _ (w.heap.size+2) 37 rfl rfl (T.out.cb 1 rfl)) rfl ⟨cb,Cs,rfl,hLR,del_lx hv.out (by rw[hCl.out,hlen.out]) hcs.out,hls.out,T.out.bel⟩
end Go.Proofs.YtdeedofmflelfaaGreatDoor

namespace Go.Proofs.YtdeedofmflelfaaGreatDoor
open Go.RowKit RQ
set_option linter.unusedVariables false
theorem insY_ok {L:List Cl} {M:List Ce} {r p:Nat} {TA MA:Option Addr} {tn tc mn mc gt ga gc tt ta tcx:Nat} {W:World} (h:LR clC W TA tn L) (hx:∀ x∈L,LtL x) (hv:tabB (r:Int) (L.map Cl.lx)=true) (hp:p≤r) (hr:r≤2000) (hM:LR ceC W MA mn M) (hm:∀ y∈M,LtC y) (hmn:mn=tn) (ht:Cb W gt #[.int .i64 (r:Nat),.slice TA tn tc] tt) (ha:Cb W ga #[.int .i64 p] ta) (hg:Cb W gc #[.slice MA mn mc] tcx) (i j:Nat) (hi:i<tn) (hj:j<r+1):LtC (insY L M p i j)∧ceC.At W (insY L M p i j)∧∀ W',Below W.heap.size W W'→Calls Tryz.prog 77 #[.int .i64 (i:Nat),.int .i64 (j:Nat),.pointer (some ⟨ga,0,none⟩),.pointer (some ⟨gt,0,none⟩),.pointer (some ⟨gc,0,none⟩)] W' fun e w'=>e=.returned (.agg (insY L M p i j).vs)∧Below W'.heap.size W' w':=by
 obtain⟨x,hxe⟩:∃ x,L[i]?=some x:=⟨_,List.getElem?_eq_getElem (by rw[h.len];exact hi)⟩
 have hxm:=List.mem_of_getElem? hxe
 have hlen:=ce_len hv hxm
 obtain⟨tb,tq,_,rfl,_⟩:=cl_get h hi
 have hd:insY L M p i j=if j<p then x.ce.L.getD j Ce0 else if j=p then M.getD i Ce0 else x.ce.L.getD (j-1) Ce0:=by unfold insY;rw[getD_some Cl0 hxe]
 by_cases hjp:j<p
 ·rw[if_pos hjp] at hd
  rw[hd]
  have hy:=getD_at Ce0 (l:=x.ce.L) (i:=j) (by omega)
  have hym:=List.mem_of_getElem? hy
  exact⟨(hx x hxm).2.2.2.2 _ hym,(cl_at.1 (h.el x hxm)).2.1.el _ hym,fun W' hW=>insert1_lo _ tb tq tn tc L p ga gt ta tt i j x _ W' (h.bel hW) (ha.bel hW) (ht.bel hW) hxe (by omega) (by omega) MA mn mc M gc tcx (hM.bel hW) (hg.bel hW) hjp hy⟩
 ·rw[if_neg hjp] at hd
  by_cases hje:j=p
  ·rw[if_pos hje] at hd
   rw[hd]
   have hy:=getD_at Ce0 (l:=M) (i:=i) (by rw[hM.len];omega)
   have hym:=List.mem_of_getElem? hy
   exact⟨hm _ hym,hM.el _ hym,fun W' hW=>insert1_eq _ tb tq tn tc L p ga gt ta tt i j x _ W' (h.bel hW) (ha.bel hW) (ht.bel hW) hxe (by omega) (by omega) MA mn mc M gc tcx (hM.bel hW) (hg.bel hW) hje hy⟩
  ·rw[if_neg hje] at hd
   rw[hd]
   have hy:=getD_at Ce0 (l:=x.ce.L) (i:=j-1) (by omega)
   have hym:=List.mem_of_getElem? hy
   exact⟨(hx x hxm).2.2.2.2 _ hym,(cl_at.1 (h.el x hxm)).2.1.el _ hym,fun W' hW=>insert1_hi _ tb tq tn tc L p ga gt ta tt i j x _ W' (h.bel hW) (ha.bel hW) (ht.bel hW) hxe (by omega) (by omega) MA mn mc M gc tcx (hM.bel hW) (hg.bel hW) (by omega) hy⟩
/-- Do the cells fit the columns? -/
def fitsL (L:List Cl) (M:List Ce):Prop:=∀ (i:Nat) (x:Cl) (y:Ce),L[i]?=some x→M[i]?=some y→fitB x.k x.lv.L.length y.cx=true
theorem fitsL_cx {L:List Cl} {M:List Ce} (h:fitsL L M):∀ (i:Nat) (c:Lx) (y:Cx),(L.map Cl.lx)[i]?=some c→(M.map Ce.cx)[i]?=some y→fitB c.k c.lv.length y=true:=by
 intro i c y h1 h2
 rw[List.getElem?_map] at h1 h2
 obtain⟨x,hx,rfl⟩:=Option.map_eq_some_iff.1 h1
 obtain⟨z,hz,rfl⟩:=Option.map_eq_some_iff.1 h2
 exact h i x z hx hz
theorem permE {α:Type} (a b c d e f:α) (l:List α):(a::b::c::d::e::f::l).Perm (f::a::b::c::d::e::l):=List.perm_middle (l₁:=[a,b,c,d,e])
set_option maxRecDepth 100000 in
set_option maxHeartbeats 4000000 in
/-- A row is added. -/
theorem insert_any (R:Nat) (TA:Option Addr) (tn tc:Nat) (L:List Cl) (p:Nat) (MA:Option Addr) (mn mc:Nat) (M:List Ce) (w:World) (h:LR clC w TA tn L) (hx:∀ x∈L,LtL x) (hv:tabB (R:Int) (L.map Cl.lx)=true) (hp:p≤R) (hR:R+1≤1024) (hM:LR ceC w MA mn M) (hm:∀ y∈M,LtC y) (hmb:mn≤1000):Calls Tryz.prog 31 #[.agg #[.int .i64 R,.slice TA tn tc],.int .i64 p,.slice MA mn mc] w fun e w'=>(¬ (mn=tn∧fitsL L M)∧∃ z:Int,e=.returned (.tuple #[.agg #[.int .i64 0,.slice none 0 0],.int .i64 z])∧z≠0∧Below w.heap.size w w')∨((mn=tn∧fitsL L M)∧∃ cb Cs,e=.returned (.tuple #[.agg #[.int .i64 (R+1:Nat),.slice (some ⟨cb,0,none⟩) tn tn],.int .i64 0])∧LR clC w' (some ⟨cb,0,none⟩) tn Cs∧Cs.map Cl.lx=insL (L.map Cl.lx) (M.map Ce.cx) p∧(∀ c∈Cs,LtL c)∧Below w.heap.size w w'):=by
 have hC:Hid (∀ W,Below w.heap.size w W→∀ {g t:Nat},Cb W g #[.int .i64 p] t→Calls Tryz.prog 74 #[.agg #[.int .i64 R,.slice TA tn tc],.int .i64 (R+1),.slice (some ⟨g,0,none⟩) 1 1] W fun e w'=>e=.returned (.int .i64 0)∧Below W.heap.size W w'):=Lib.hid fun W hW g t hg=>check_ok L _ TA tn tc _ [(p:Int)] _ 1 1 W (h.bel hW) hx hv (lr_one (C:=intC) hg trivial) (by omega) (fun z hz=>by
  rw[List.mem_singleton.1 hz];omega)
 have hlen:=Lib.hid h.len
 have hT:=Lib.hid h
 have hLt:=Lib.hid hx
 have hph:=Lib.hid hp
 have hRh:=Lib.hid hR
 have hMh:=Lib.hid hM
 have hmL:=Lib.hid hm
 have hmbh:=Lib.hid hmb
 have g1:((R:Int)==1024)=false:=by rw[beq_eq_false_iff_ne];omega
 have hRb:R≤1024:=by omega
 have htn:Hid (tn≤32):=Lib.hid (by rw[←h.len];exact tab_tn hv)
 replace hv:=Lib.hid hv
 clear h hx hp hR hM hm hmb
 have S:=(((((St.new w).allocAt (w.heap.size) #[.int .i64 R,.slice TA tn tc] 37 (noLof rfl) (by simp)).allocAt (w.heap.size+1) #[.int .i64 p] 3 (noLof rfl) (by simp)).allocAt (w.heap.size+1+1) #[.slice MA mn mc] 54 (noLof rfl) (by simp)).allocAt (w.heap.size+1+1+1) #[.int .i64 0,.slice none 0 0] 37 (noLof rfl) (by simp))
 replace S:=Lib.hid S
 go_enter Tryz.func31,Tryz.ntmps31
 go_wp2_with fail
 refine (hC.out _ (S.out.allocAt (w.heap.size+1+1+1+1) #[.int .i64 p] 3 (noLof rfl) (by simp)).bel ((S.out.allocAt (w.heap.size+1+1+1+1) #[.int .i64 p] 3 (noLof rfl) (by simp)).cb 0 rfl)).mono ?_
 rintro e w1 ⟨rfl,bb⟩
 have T:=((S.out.allocAt (w.heap.size+1+1+1+1) #[.int .i64 p] 3 (noLof rfl) (by simp)).call bb)
 clear bb S
 have S:=T
 clear T
 have c_q0:=S.cl 0 0 rfl rfl
 have f_q0:=S.f 0 0 rfl
 obtain⟨c_r0,c_r1,f_r0,f_r1⟩:=S.cf2 1 rfl
 have c_c0:=S.cl 2 0 rfl rfl
 have f_c0:=S.f 2 0 rfl
 have c_y0:=S.cl 3 0 rfl rfl
 have f_y0:=S.f 3 0 rfl
 obtain⟨c_x0,c_x1,f_x0,f_x1⟩:=S.cf2 4 rfl
 have hz:w.heap.size+1+1+1+1<w1.heap.size:=S.lt 0 rfl
 replace S:=Lib.hid S
 by_cases hmn:mn=tn
 ·have hmnh:=Lib.hid hmn
  have g2:((mn:Int)==(tn:Int))=true:=by rw[beq_iff_eq];omega
  clear hmn
  go_wp2
  clear c_q0 f_q0 c_r0 f_r0 c_r1 f_r1 c_c0 f_c0 c_y0 f_y0 c_x0 f_x0 c_x1 f_x1 hz
  go_loopw [35] (fun iv wr=>∃ i:Nat,i≤mn∧iv=.int .i64 i∧St w wr ((w.heap.size+1+1+1+1,#[.int .i64 p],3)::(w.heap.size+1+1+1,#[.int .i64 0,.slice none 0 0],37)::(w.heap.size+1+1,#[.slice MA mn mc],54)::(w.heap.size+1,#[.int .i64 p],3)::(w.heap.size,#[.int .i64 R,.slice TA tn tc],37)::[]) []∧∀ q,q<i→∀ (x:Cl) (y:Ce),L[q]?=some x→M[q]?=some y→fitB x.k x.lv.L.length y.cx=true) (fun iv _=>mn-(intOf iv).toNat)
  case atStart=>exact⟨0,Nat.zero_le _,rfl,S.out,fun q hq=>absurd hq (Nat.not_lt_zero _)⟩
  case round=>
   clear S
   obtain⟨i,hin,rfl,S,hq⟩:=hrel
   by_cases hlt:i<mn
   ·obtain⟨mb,mq,y,rfl,hye,hym,hya,y0,y1,y2,y3,y4⟩:=ce_get (hMh.out.bel S.bel) hlt
    obtain⟨tb,tq,x,rfl,hxe,hxm,hxa,e0,e1,e2,e3⟩:=cl_get (hT.out.bel S.bel) (show i<tn by have:=hmnh.out;omega)
    have g5:(i:Int)<(mn:Int):=by omega
    have g6:(0:Int)≤(i:Int):=by omega
    have g7:(i:Int)<(tn:Int):=by have:=hmnh.out;omega
    obtain⟨ft,hft⟩:∃ z,z=fitB x.k x.lv.L.length y.cx:=⟨_,rfl⟩
    have hF:Hid (∀ W,Below w.heap.size w W→Calls Tryz.prog 75 #[.agg #[.string x.n,.int .i64 x.k,.slice x.lv.A x.lv.L.length x.lv.c,.slice x.ce.A x.ce.L.length x.ce.c],.agg #[.bool y.m,.bool y.v.b,.slice y.v.x.A y.v.x.n y.v.x.c,.slice y.v.y.A y.v.y.n y.v.y.c,.int .i64 y.l]] W fun e w'=>e=.returned (.bool ft)∧Below W.heap.size W w'):=Lib.hid fun W hW=>by
     rw[hft]
     have h1:=ce_at.1 (hMh.out.el y hym)
     have h2:=hmL.out y hym
     exact fits_any x.n x.k x.lv.A x.lv.L.length x.lv.c x.ce.A x.ce.L.length x.ce.c y.m y.v.b y.v.x.A y.v.x.n y.v.x.c y.v.x.x y.v.y.A y.v.y.n y.v.y.c y.v.y.x y.l W (h1.1.below hW) (h1.2.below hW) h2.1 h2.2
    have hih:=Lib.hid hlt
    replace hft:=Lib.hid hft
    replace hxe:=Lib.hid hxe
    replace hye:=Lib.hid hye
    replace hq:=Lib.hid hq
    have x1:=S.cl 4 1 rfl rfl
    have B0:=Lib.hid S.bel
    have c_c0:=S.cl 2 0 rfl rfl
    have f_c0:=S.f 2 0 rfl
    obtain⟨c_x0,c_x1,f_x0,f_x1⟩:=S.cf2 4 rfl
    have hz:w.heap.size<wr.heap.size:=S.lt 4 rfl
    have S1:=Lib.hid (S.allocAt wr.heap.size #[.bool y.m,.bool y.v.b,.slice y.v.x.A y.v.x.n y.v.x.c,.slice y.v.y.A y.v.y.n y.v.y.c,.int .i64 y.l] 58 (noLof rfl) rfl)
    clear hlt hin hym hya hxm hxa S x1 e0 e1 e2 e3
    go_upto_region 11 with fail
    clear y0 y1 y2 y3 y4 c_c0 f_c0 c_x0 f_x0 c_x1 f_x1 hz
    obtain⟨fv,hfv⟩:∃ g,g=wr.heap.size:=⟨_,rfl⟩
    rw[←hfv] at S1
    generalize hW:World.alloc _ _=w4 at S1 ⊢
    clear hW
    rw[←hfv]
    clear hfv
    have S:=S1
    clear S1
    have hF4:=Lib.hid (fun W (hW:Below w4.heap.size w4 W)=>hF.out W (S.out.bel.trans (hW.mono S.out.bel.size)))
    replace hF:=hF4
    clear hF4
    have x1:=Lib.hid (S.out.cl 5 1 rfl rfl)
    have hTx:=hT.out.bel S.out.bel
    have e0:Hid (w4.cell? ⟨tb,tq+i*4,none⟩=some (.string x.n)):=Lib.hid (lr_cell hTx hxe.out (k:=0) rfl)
    have e1:Hid (w4.cell? ⟨tb,tq+i*4+1,none⟩=some (.int .i64 x.k)):=Lib.hid (lr_cell hTx hxe.out (k:=1) rfl)
    have e2:Hid (w4.cell? ⟨tb,tq+i*4+2,none⟩=some (.slice x.lv.A x.lv.L.length x.lv.c)):=Lib.hid (lr_cell hTx hxe.out (k:=2) rfl)
    have e3:Hid (w4.cell? ⟨tb,tq+i*4+3,none⟩=some (.slice x.ce.A x.ce.L.length x.ce.c)):=Lib.hid (lr_cell hTx hxe.out (k:=3) rfl)
    have d0:=Lib.hid (S.out.cl 0 0 rfl rfl)
    have d1:=Lib.hid (S.out.cl 0 1 rfl rfl)
    have d2:=Lib.hid (S.out.cl 0 2 rfl rfl)
    have d3:=Lib.hid (S.out.cl 0 3 rfl rfl)
    have d4:=Lib.hid (S.out.cl 0 4 rfl rfl)
    clear hTx B0
    have hbase:=Lib.hid (St.new w4)
    refine RW.begin (Z:=[]) (S:=(fun W=>Below w4.heap.size w4 W)) (by kernel_rfl) ?_ hbase.out ?_
    ·exact⟨by kernel_rfl,zis_nil,by decide,by decide,nol_nil,(fun _ _ h=>h.bel)⟩
    intro hzk
    refine RW.t (i:=0) (v:=.pointer (some ⟨w.heap.size,1,none⟩)) (some 40) at0 (hy:=fun _ _=>by kernel_rfl) (h:=?_)
    refine RW.t (i:=1) (v:=.slice (some ⟨tb,tq,none⟩) tn tc) (some 41) at1 (hy:=fun W hS=>by (have k0:=bel_cell hS x1.out;clear hS;go_simp)) (h:=?_)
    refine RW.t (i:=2) (v:=.int .i64 i) (some 42) at2 (hy:=fun _ _=>by kernel_rfl) (h:=?_)
    refine RW.t (i:=3) (v:=.pointer (some ⟨tb,tq+i*4,none⟩)) (some 43) at3 (hy:=fun _ _=>by go_simp) (h:=?_)
    refine RW.t (i:=4) (v:=.agg #[.string x.n,.int .i64 x.k,.slice x.lv.A x.lv.L.length x.lv.c,.slice x.ce.A x.ce.L.length x.ce.c]) (some 44) at4 (hy:=fun W hS=>by (have k0:=bel_cell hS e0.out;have k1:=bel_cell hS e1.out;have k2:=bel_cell hS e2.out;have k3:=bel_cell hS e3.out;clear hS;go_simp)) (h:=?_)
    refine RW.t (i:=5) (v:=.agg #[.bool y.m,.bool y.v.b,.slice y.v.x.A y.v.x.n y.v.x.c,.slice y.v.y.A y.v.y.n y.v.y.c,.int .i64 y.l]) (some 45) at5 (hy:=fun W hS=>by (have k0:=bel_cell hS d0.out;have k1:=bel_cell hS d1.out;have k2:=bel_cell hS d2.out;have k3:=bel_cell hS d3.out;have k4:=bel_cell hS d4.out;clear hS;go_simp)) (h:=?_)
    refine RW.c (i:=6) (args:=#[.agg #[.string x.n,.int .i64 x.k,.slice x.lv.A x.lv.L.length x.lv.c,.slice x.ce.A x.ce.L.length x.ce.c],.agg #[.bool y.m,.bool y.v.b,.slice y.v.x.A y.v.x.n y.v.x.c,.slice y.v.y.A y.v.y.n y.v.y.c,.int .i64 y.l]]) (some 46) hzk.out at6 (hx:=fun _=>by kernel_rfl) (h:=fun W S=>(hF.out W S.bel).mono ?_)
    rintro e w7 ⟨rfl,bb⟩
    refine⟨bb,_,[],rfl,rd_nil,?_⟩
    clear S bb
    refine RW.t (i:=7) (v:=.bool (!ft)) (some 47) at7 (hy:=fun _ _=>by kernel_rfl) (h:=?_)
    refine RW.tail hzk.out (by kernel_rfl) ?_
    intro gs' w5 hgs' hS Sb
    obtain rfl:=len0 hgs'
    simp only[mark,fill,Act.put,List.setIfInBounds_toArray,List.set_cons_zero,List.set_cons_succ]
    have T:=Lib.hid ((S.out.call hS).sub)
    clear S Sb hS hgs' hzk hbase
    have S:=T
    clear T
    refine Wk.done (by kernel_rfl) ?_
    clear x1 e0 e1 e2 e3 d0 d1 d2 d3 d4 hF
    cases ft
    ·rename World=>wq
     obtain⟨c_r0,c_r1,f_r0,f_r1⟩:=S.out.cf2 1 rfl
     have hz:w.heap.size<wq.heap.size:=S.out.lt 4 rfl
     have S:St w _ [(w.heap.size+1+1+1+1,#[.int .i64 p],3),(w.heap.size+1+1+1,#[.int .i64 0,.slice none 0 0],37),(w.heap.size+1+1,#[.slice (some ⟨mb,mq,none⟩) mn mc],54),(w.heap.size+1,#[.int .i64 p],3),(w.heap.size,#[.int .i64 R,.slice (some ⟨tb,tq,none⟩) tn tc],37)] []:=((S.out.set 1 0 (.int .i64 0) rfl (by nofun)).set 1 1 (.slice none 0 0) rfl (by nofun))
     replace S:=Lib.hid S
     go_wp2
     refine bodyPost_ret (res_ins _ _ (w.heap.size+3) 37 rfl rfl (S.out.cb 1 rfl)) rfl (.inl ⟨fun hf=>absurd (hf.2 i x y hxe.out hye.out) (by rw[←hft.out];simp),_,rfl,by decide,S.out.bel⟩)
    ·rename World=>wq
     have hlt:=hih.out
     have hmb:=hmbh.out
     go_wp2
     go_roundw
     case rel=>
      refine⟨i+1,by omega,by go_num,S.out,fun q hqi x' y' hx' hy'=>?_⟩
      by_cases e:q=i
      ·subst e
       have h1:=hxe.out;rw[hx'] at h1
       have h2:=hye.out;rw[hy'] at h2
       injection h1 with h1;injection h2 with h2
       subst h1;subst h2
       exact hft.out.symm
      ·exact hq.out q (by omega) x' y' hx' hy'
     case measure=>simp[intOf];omega
   ·obtain rfl:mn=i:=by omega
    rename World=>wq
    have hfit:Hid (fitsL L M):=Lib.hid (fun q x y hx hy=>hq q (by rw[←hMh.out.len];exact (List.getElem?_eq_some_iff.1 hy).1) x y hx hy)
    have hAr:=Lib.hid (arranged3_any R TA tn tc (R+1) L 77 (.pointer (some ⟨w.heap.size+1,0,none⟩)) (.pointer (some ⟨w.heap.size,0,none⟩)) (.pointer (some ⟨w.heap.size+2,0,none⟩)) (insY L M p) wq (hT.out.bel S.bel) hLt.out htn.out hRh.out (fun _ _ _=>by kernel_rfl) (insY_ok (hT.out.bel S.bel) hLt.out hv.out hph.out (by have:=hRh.out;omega) (hMh.out.bel S.bel) hmL.out hmnh.out (S.cb 4 rfl) (S.cb 3 rfl) (S.cb 2 rfl)))
    obtain⟨c_x0,c_x1,f_x0,f_x1⟩:=S.cf2 4 rfl
    have hz:w.heap.size<wq.heap.size:=S.lt 4 rfl
    replace S:=Lib.hid S
    clear hlt hin hq
    have hRb2:=hRh.out
    go_wp2_with fail
    refine (hAr.out).mono ?_
    rintro e w2 ⟨cb,Cs,F1,rs1,rfl,SJ,hCl,hIn,hcs,hls⟩
    have T:St w _ ((w.heap.size+1+1+1+1,#[.int .i64 p],3)::(w.heap.size+1+1+1,#[.int .i64 0,.slice none 0 0],37)::(w.heap.size+1+1,#[.slice MA mn mc],54)::(w.heap.size+1,#[.int .i64 p],3)::(w.heap.size,#[.int .i64 R,.slice TA tn tc],37)::(cb,(clC.all Cs).toArray,56)::F1) rs1:=S.out.join SJ
    clear S SJ
    have S:=T
    clear T
    obtain⟨c_r0,c_r1,f_r0,f_r1⟩:=S.cf2 1 rfl
    have hz:w.heap.size+1+1+1+1<w2.heap.size:=S.lt 0 rfl
    replace S:=Lib.hid S
    replace hCl:=Lib.hid hCl
    replace hIn:=Lib.hid hIn
    replace hcs:=Lib.hid hcs
    replace hls:=Lib.hid hls
    have T:=Lib.hid (show St w _ ((w.heap.size+1+1+1+1,#[.int .i64 p],3)::(w.heap.size+1+1+1,#[.int .i64 (R+1:Nat),.slice (some ⟨cb,0,none⟩) tn tn],37)::(w.heap.size+1+1,#[.slice MA mn mc],54)::(w.heap.size+1,#[.int .i64 p],3)::(w.heap.size,#[.int .i64 R,.slice TA tn tc],37)::(cb,(clC.all Cs).toArray,56)::F1) rs1 from (S.out.set 1 0 (.int .i64 (R+1:Nat)) rfl (by nofun)).set 1 1 (.slice (some ⟨cb,0,none⟩) tn tn) rfl (by nofun))
    clear S
    go_wp2
    have hLR:=St_glr (T.out.prm (permE _ _ _ _ _ _ _)) tn hCl.out (fun c hc=>clC.at_ T.out.sub.sub.sub.sub.sub.sub (hIn.out c hc _))
    refine bodyPost_ret (res_ins _ _ (w.heap.size+3) 37 rfl rfl (T.out.cb 1 rfl)) rfl (.inr ⟨⟨hmnh.out,hfit.out⟩,cb,Cs,rfl,hLR,ins_lx hv.out (by rw[hCl.out,hlen.out]) (by rw[hMh.out.len,hlen.out];exact hmnh.out) hcs.out,hls.out,T.out.bel⟩)
 ·have g2:((mn:Int)==(tn:Int))=false:=by rw[beq_eq_false_iff_ne];omega
  have hmnh:=Lib.hid hmn
  clear hmn
  have S:St w _ [(w.heap.size+1+1+1+1,#[.int .i64 p],3),(w.heap.size+1+1+1,#[.int .i64 0,.slice none 0 0],37),(w.heap.size+1+1,#[.slice MA mn mc],54),(w.heap.size+1,#[.int .i64 p],3),(w.heap.size,#[.int .i64 R,.slice TA tn tc],37)] []:=((S.out.set 1 0 (.int .i64 0) rfl (by nofun)).set 1 1 (.slice none 0 0) rfl (by nofun))
  replace S:=Lib.hid S
  go_wp2
  refine bodyPost_ret (res_ins _ _ (w.heap.size+3) 37 rfl rfl (S.out.cb 1 rfl)) rfl (.inl ⟨fun hf=>hmnh.out hf.1,_,rfl,by decide,S.out.bel⟩)
end Go.Proofs.YtdeedofmflelfaaGreatDoor

namespace Go.Proofs.YtdeedofmflelfaaGreatDoor
open Go.RowKit RQ
set_option linter.unusedVariables false
set_option maxRecDepth 100000 in
set_option maxHeartbeats 4000000 in
/-- The cells of a row. -/
theorem row_any (R:Nat) (TA:Option Addr) (tn tc:Nat) (L:List Cl) (p:Nat) (w:World) (h:LR clC w TA tn L) (hx:∀ x∈L,LtL x) (hv:tabB (R:Int) (L.map Cl.lx)=true) (hp:p<R):Calls Tryz.prog 33 #[.agg #[.int .i64 R,.slice TA tn tc],.int .i64 p] w fun e w'=>∃ eb Es,e=.returned (.tuple #[.slice (some ⟨eb,0,none⟩) tn tn,.int .i64 0])∧LR ceC w' (some ⟨eb,0,none⟩) tn Es∧Es.map Ce.cx=(L.map Cl.lx).map (fun c=>c.ce.getD p cx0)∧(∀ y∈Es,LtC y)∧Below w.heap.size w w':=by
 have hC:Hid (∀ W,Below w.heap.size w W→∀ {g t:Nat},Cb W g #[.int .i64 p] t→Calls Tryz.prog 74 #[.agg #[.int .i64 R,.slice TA tn tc],.int .i64 (R:Nat),.slice (some ⟨g,0,none⟩) 1 1] W fun e w'=>e=.returned (.int .i64 0)∧Below W.heap.size W w'):=Lib.hid fun W hW g t hg=>check_ok L _ TA tn tc _ [(p:Int)] _ 1 1 W (h.bel hW) hx hv (lr_one (C:=intC) hg trivial) (by omega) (fun z hz=>by
  rw[List.mem_singleton.1 hz];omega)
 have htn:Hid (tn≤32):=Lib.hid (by rw[←h.len];exact tab_tn hv)
 have hlen:=Lib.hid h.len
 have hT:=Lib.hid h
 have hLt:=Lib.hid hx
 have hph:=Lib.hid hp
 have hmk:=make_cell tn (by have:=htn.out;omega)
 replace hv:=Lib.hid hv
 clear h hx hp
 have S:=((St.new w).allocAt (w.heap.size) #[.int .i64 R,.slice TA tn tc] 37 (noLof rfl) (by simp))
 replace S:=Lib.hid S
 go_enter Tryz.func33,Tryz.ntmps33
 go_wp2_with fail
 refine (hC.out _ (S.out.allocAt (w.heap.size+1) #[.int .i64 p] 3 (noLof rfl) (by simp)).bel ((S.out.allocAt (w.heap.size+1) #[.int .i64 p] 3 (noLof rfl) (by simp)).cb 0 rfl)).mono ?_
 rintro e w1 ⟨rfl,bb⟩
 have T:=((S.out.allocAt (w.heap.size+1) #[.int .i64 p] 3 (noLof rfl) (by simp)).call bb)
 clear bb S
 have S:=T
 clear T
 have c_q0:=S.cl 0 0 rfl rfl
 have f_q0:=S.f 0 0 rfl
 obtain⟨c_x0,c_x1,f_x0,f_x1⟩:=S.cf2 1 rfl
 have hz:w.heap.size+1<w1.heap.size:=S.lt 0 rfl
 replace S:=Lib.hid S
 obtain⟨eb,heb⟩:∃ g,g=w1.heap.size:=⟨_,rfl⟩
 have S1:=Lib.hid (show St w _ ((eb,(ceC.all (List.replicate tn Ce0)).toArray,58)::(w.heap.size+1,#[.int .i64 p],3)::(w.heap.size,#[.int .i64 R,.slice TA tn tc],37)::[]) [] from S.out.allocC ceC (List.replicate tn Ce0) eb 58 heb.symm)
 clear S
 go_upto_region 5 with fail
 replace hmk:=Lib.hid hmk
 clear hmk c_x0 f_x0 c_x1 f_x1 c_q0 f_q0 hz
 rw[←heb]
 generalize hW:World.alloc _ _=w5 at S1 ⊢
 clear hW heb
 obtain⟨c_0,c_1,f_0,f_1⟩:=S1.out.cf2 2 rfl
 have hz:w.heap.size<w5.heap.size:=S1.out.lt 2 rfl
 go_wp2
 clear c_0 f_0 c_1 f_1 hz
 go_loopw [26] (fun iv wr=>∃ (i:Nat) (Es:List Ce) (rs:List GRd),i≤tn∧iv=.int .i64 i∧Es.length=tn∧St w wr ((eb,(ceC.all Es).toArray,58)::(w.heap.size+1,#[.int .i64 p],3)::(w.heap.size,#[.int .i64 R,.slice TA tn tc],37)::[]) rs∧∀ q x,q<i→L[q]?=some x→∃ e,Es[q]?=some e∧(∀ v,ceC.In v [] rs e)∧e.cx=(x.ce.L.getD p Ce0).cx∧LtC e) (fun iv _=>tn-(intOf iv).toNat)
 case atStart=>exact⟨0,List.replicate tn Ce0,[],Nat.zero_le _,rfl,List.length_replicate,S1.out,fun q x h=>absurd h (Nat.not_lt_zero _)⟩
 case round=>
  clear S1
  obtain⟨i,Es,rs,hin,rfl,hEl,S,hq⟩:=hrel
  by_cases hlt:i<tn
  ·obtain⟨b,o,x,rfl,hxe,hxm,hxa,e0,e1,e2,e3⟩:=cl_get (hT.out.bel S.bel) hlt
   have g1:(i:Int)<(tn:Int):=by omega
   have g2:(0:Int)≤(i:Int):=by omega
   have hlx:=ce_len hv.out hxm
   obtain⟨y,hyd⟩:∃ y,y=x.ce.L.getD p Ce0:=⟨_,rfl⟩
   have hye:x.ce.L[p]?=some y:=by rw[hyd];exact getD_at Ce0 (by have:=hph.out;omega)
   have hym:=List.mem_of_getElem? hye
   have hy1:=Lib.hid (ce_at.1 ((cl_at.1 (hT.out.el x hxm)).2.1.el y hym))
   have hyl:Hid (LtC y):=Lib.hid ((hLt.out x hxm).2.2.2.2 y hym)
   have hCc:=Lib.hid (fun W (hW:Below w.heap.size w W)=>copyCell_any y W (hy1.out.1.below hW) (hy1.out.2.below hW) hyl.out)
   obtain⟨db,dq,y',hA,hy',_,_,y0,y1,y2,y3,y4⟩:=ce_get hxa.2.1 (show p<x.ce.L.length by have:=hph.out;omega)
   obtain rfl:y=y':=by rw[hye] at hy';exact Option.some.inj hy'
   rw[hA,hlx] at e3
   have g3:(p:Int)<(R:Int):=by have:=hph.out;omega
   have g4:(0:Int)≤(p:Int):=by omega
   obtain⟨ey,hEi⟩:∃ y,Es[i]?=some y:=⟨_,List.getElem?_eq_getElem (by omega)⟩
   have hih:=Lib.hid hlt
   replace hEi:=Lib.hid hEi
   replace hEl:=Lib.hid hEl
   replace hq:=Lib.hid hq
   replace hxe:=Lib.hid hxe
   replace hyd:=Lib.hid hyd
   have hb:=Lib.hid (St.new wr)
   replace y0:=Lib.hid y0
   replace y1:=Lib.hid y1
   replace y2:=Lib.hid y2
   replace y3:=Lib.hid y3
   replace y4:=Lib.hid y4
   have S1:=Lib.hid (S.allocAt wr.heap.size #[.string x.n,.int .i64 x.k,.slice x.lv.A x.lv.L.length x.lv.c,.slice (some ⟨db,dq,none⟩) R x.ce.c] 56 (noLof rfl) rfl)
   have B1:=Lib.hid (hb.out.allocAt wr.heap.size #[.string x.n,.int .i64 x.k,.slice x.lv.A x.lv.L.length x.lv.c,.slice (some ⟨db,dq,none⟩) R x.ce.c] 56 (noLof rfl) rfl)
   clear hlt hin hxm hxa hlx hye hym hy1 hA hy' S hb
   go_upto_region 8 with fail
   clear e0 e1 e2 e3
   obtain⟨fv,hfv⟩:∃ g,g=wr.heap.size:=⟨_,rfl⟩
   generalize hW:World.alloc _ _=w4 at S1 B1 ⊢
   clear hW
   rw[←hfv] at S1 ⊢
   have k0:=bel_cell B1.out.bel y0.out
   have k1:=bel_cell B1.out.bel y1.out
   have k2:=bel_cell B1.out.bel y2.out
   have k3:=bel_cell B1.out.bel y3.out
   have k4:=bel_cell B1.out.bel y4.out
   have q3:=S1.out.cl 0 3 rfl rfl
   clear B1 hfv y0 y1 y2 y3 y4
   go_wp2_with fail
   refine (hCc.out _ S1.out.bel).mono ?_
   rintro e w6 ⟨A1,c1,A2,c2,rfl,Q1,Q2,bb⟩
   have S:=Lib.hid (((S1.out.call bb).read Q2).read Q1)
   clear k0 k1 k2 k3 k4 q3 S1 bb Q1 Q2
   obtain⟨hcl,hfr⟩:=St_gcl (C:=ceC) S.out.swap hEi.out
   have q0:=hcl 0 _ rfl
   have q1:=hcl 1 _ rfl
   have q2:=hcl 2 _ rfl
   have q3:=hcl 3 _ rfl
   have q4:=hcl 4 _ rfl
   have f0:=hfr (i*5)
   have f1:=hfr (i*5+1)
   have f2:=hfr (i*5+2)
   have f3:=hfr (i*5+3)
   have f4:=hfr (i*5+4)
   simp only[ce_sz,Nat.add_zero] at q0 q1 q2 q3 q4
   have T:=Lib.hid (show St w (World.setCell (World.setCell (World.setCell (World.setCell (World.setCell (w6) ⟨eb,i*5,none⟩ (.bool y.m)) ⟨eb,i*5+1,none⟩ (.bool y.v.b)) ⟨eb,i*5+2,none⟩ (.slice A1 y.v.x.n c1)) ⟨eb,i*5+3,none⟩ (.slice A2 y.v.y.n c2)) ⟨eb,i*5+4,none⟩ (.int .i64 y.l)) _ _ from St_gset (C:=ceC) S.out.swap (⟨y.m,⟨y.v.b,⟨A1,y.v.x.n,c1,y.v.x.x⟩,⟨A2,y.v.y.n,c2,y.v.y.x⟩⟩,y.l⟩:Ce) (i:=i) (by have:=hEl.out;have:=hih.out;omega))
   clear S hcl hfr
   have hlt:=hih.out
   have hnn:=htn.out
   go_wp2
   go_roundw
   case rel=>
    refine⟨i+1,Es.set i ⟨y.m,⟨y.v.b,⟨A1,y.v.x.n,c1,y.v.x.x⟩,⟨A2,y.v.y.n,c2,y.v.y.x⟩⟩,y.l⟩,_,by omega,by go_num,by rw[List.length_set];exact hEl.out,T.out.swap.sub,fun q x' hqi hx'=>?_⟩
    by_cases e:i=q
    ·subst e
     obtain rfl:x=x':=by have:=hxe.out;rw[hx'] at this;exact (Option.some.inj this).symm
     exact⟨_,List.getElem?_set_self (by have:=hEl.out;omega),fun _=>⟨trivial,⟨trivial,.inl List.mem_cons_self,.inl (List.mem_cons_of_mem _ List.mem_cons_self)⟩,trivial⟩,by rw[←hyd.out];rfl,hyl.out⟩
    ·obtain⟨e0,e1,e2,e3⟩:=hq.out q x' (by omega) hx'
     exact⟨e0,by rw[List.getElem?_set_ne e];exact e1,fun v=>ceC.mono (e2 v) (fun _ h=>h) (fun p hp=>List.mem_cons_of_mem _ (List.mem_cons_of_mem _ hp)),e3⟩
   case measure=>simp[intOf];omega
  ·obtain rfl:tn=i:=by omega
   have hat:∀ q,q<tn→∃ x e,L[q]?=some x∧Es[q]?=some e∧(∀ v,ceC.In v [] rs e)∧e.cx=(x.ce.L.getD p Ce0).cx∧LtC e:=fun q hql=>by
    obtain⟨x,hx⟩:∃ x,L[q]?=some x:=⟨_,List.getElem?_eq_getElem (by rw[hlen.out];exact hql)⟩
    obtain⟨e,he⟩:=hq q x hql hx
    exact⟨x,e,hx,he⟩
   have hcx:Es.map Ce.cx=(L.map Cl.lx).map (fun c=>c.ce.getD p cx0):=by
    apply List.ext_getElem?
    intro q
    rcases Nat.lt_or_ge q tn with h1 | h1
    ·obtain⟨x,e,hx,he,_,h2,_⟩:=hat q h1
     rw[List.getElem?_map,he,List.getElem?_map,List.getElem?_map,hx]
     show some e.cx=some ((x.ce.L.map Ce.cx).getD p cx0)
     rw[cx_getD,h2]
    ·rw[List.getElem?_eq_none (by rw[List.length_map];omega),List.getElem?_eq_none (by rw[List.length_map,List.length_map,hlen.out];exact h1)]
   have hEm:∀ e∈Es,(∀ v,ceC.In v [] rs e)∧LtC e:=fun e he=>by
    obtain⟨q,hq1⟩:=List.getElem?_of_mem he
    obtain⟨_,e',_,he',h1,_,h2⟩:=hat q (by rw[←hEl];exact (List.getElem?_eq_some_iff.1 hq1).1)
    rw[hq1] at he'
    injection he' with he'
    subst he'
    exact⟨h1,h2⟩
   have hR:=Lib.hid (St_glr S tn hEl (fun e he=>ceC.at_ S.sub.sub.sub ((hEm e he).1 _)))
   have hE2:=Lib.hid (fun e he=>(hEm e he).2)
   have hbl:=Lib.hid S.bel
   replace hcx:=Lib.hid hcx
   clear hlt hin hq hat hEm S hEl
   go_wp2
   go_ret2
   exact⟨eb,Es,rfl,hR.out,hcx.out,hE2.out,hbl.out⟩
end Go.Proofs.YtdeedofmflelfaaGreatDoor

namespace Go.Proofs.YtdeedofmflelfaaGreatDoor
open Go.RowKit RQ
set_option linter.unusedVariables false
theorem row_insL {r:Nat} {T:List Lx} {ys:List Cx} {p:Nat} (h:tabB (r:Int) T=true) (hl:ys.length=T.length) (hp:p≤r):(insL T ys p).map (fun c=>c.ce.getD p cx0)=ys:=by
 apply List.ext_getElem?
 intro i
 rcases Nat.lt_or_ge i T.length with h2 | h2
 ·have he:=List.getElem?_eq_getElem h2
  obtain⟨y,hy⟩:∃ y,ys[i]?=some y:=⟨_,List.getElem?_eq_getElem (by omega)⟩
  have hlc:=(col_fits (List.all_eq_true.1 (tab_parts h).2.2.2.2 T[i] (List.getElem_mem h2))).1
  rw[List.getElem?_map,insL_at he hy,hy]
  show some ((insC T[i].ce y cx0 p).getD p cx0)=some y
  rw[ins_at _ _ _ _ (by omega),if_neg (by omega),if_pos rfl]
 ·rw[List.getElem?_eq_none (by rw[List.length_map,insL_len _ _ _ hl];exact h2),List.getElem?_eq_none (by omega)]
/-- Insert, however it ends. -/
theorem insert_u (R:Nat) (TA:Option Addr) (tn tc:Nat) (L:List Cl) (p:Nat) (MA:Option Addr) (mn mc:Nat) (M:List Ce) (w:World) (h:LR clC w TA tn L) (hx:∀ x∈L,LtL x) (hv:tabB (R:Int) (L.map Cl.lx)=true) (hp:p≤R) (hR:R+1≤1024) (hM:LR ceC w MA mn M) (hm:∀ y∈M,LtC y) (hmb:mn≤1000):Calls Tryz.prog 31 #[.agg #[.int .i64 (R:Nat),.slice TA tn tc],.int .i64 p,.slice MA mn mc] w fun e w'=>∃ (z m:Int) (A:Option Addr) (n c:Nat),e=.returned (.tuple #[.agg #[.int .i64 m,.slice A n c],.int .i64 z])∧((¬ (mn=tn∧fitsL L M)∧z≠0)∨((mn=tn∧fitsL L M)∧z=0∧m=((R+1:Nat):Int)∧n=tn∧∃ Cs,LR clC w' A tn Cs∧Cs.map Cl.lx=insL (L.map Cl.lx) (M.map Ce.cx) p∧∀ c∈Cs,LtL c))∧Below w.heap.size w w':=by
 refine (insert_any R TA tn tc L p MA mn mc M w h hx hv hp hR hM hm hmb).mono ?_
 rintro e w' (⟨h1,z,rfl,h2,h3⟩ | ⟨h1,cb,Cs,rfl,h2,h3,h4,h5⟩)
 ·exact⟨z,0,none,0,0,rfl,.inl ⟨h1,h2⟩,h3⟩
 ·exact⟨0,_,_,tn,tn,rfl,.inr ⟨h1,rfl,rfl,rfl,Cs,h2,h3,h4⟩,h5⟩
set_option maxRecDepth 100000 in
set_option maxHeartbeats 4000000 in
theorem tib_any (R:Int) (TA:Option Addr) (tn tc:Nat) (L:List Cl) (a:Int) (xA:Option Addr) (xn xc:Nat) (M:List Ce) (w:World) (h:LR clC w TA tn L) (hm:LR ceC w xA xn M):Calls Tryz.prog 7 #[.agg #[.int .i64 R,.slice TA tn tc],.int .i64 a,.slice xA xn xc] w fun e w'=>e=.returned (.bool true)∧Below w.heap.size w w':=by
 have hA:=Lib.hid (fun W=>awake_any W)
 have hLi:Hid (∀ W,Below w.heap.size w W→Calls Tryz.prog 28 #[.agg #[.int .i64 R,.slice TA tn tc]] W fun e w'=>(∃ v:Bool,e=.returned (.bool v)∧(v=true→tn≤40∧∀ x∈L,LiC x))∧Below W.heap.size W w'):=Lib.hid fun W hW=>llight_any R TA tn tc L W (h.bel hW)
 have hCe:Hid (∀ W,Below w.heap.size w W→Calls Tryz.prog 29 #[.slice xA xn xc] W fun e w'=>(∃ v:Bool,e=.returned (.bool v)∧(v=true→xn≤40∧∀ y∈M,y.v.x.n≤8∧y.v.y.n≤8))∧Below W.heap.size W w'):=Lib.hid fun W hW=>lcells_any M xA xn xc W (hm.bel hW)
 have hlen:=Lib.hid h.len
 have hT:=Lib.hid h
 have hMl:=Lib.hid hm
 clear h hm
 have S:=((St.new w).allocAt (w.heap.size) #[.int .i64 R,.slice TA tn tc] 37 (noLof rfl) (by simp))
 replace S:=Lib.hid S
 go_enter Tryz.func7,Tryz.ntmps7
 go_wp2_with fail
 refine (hLi.out _ S.out.bel).mono ?_
 rintro e w1 ⟨⟨v,rfl,hli⟩,bb⟩
 have T:=(S.out.call bb)
 clear bb S
 have S:=T
 clear T
 obtain⟨c_x0,c_x1,f_x0,f_x1⟩:=S.cf2 0 rfl
 have hz:w.heap.size<w1.heap.size:=S.lt 0 rfl
 replace S:=Lib.hid S
 cases v
 ·clear hli hLi hT hMl hCe
  go_wp2_with fail
  refine (hA.out _).mono ?_
  rintro e w2 ⟨rfl,bb⟩
  have T:=(S.out.call bb)
  clear bb S c_x0 f_x0 c_x1 f_x1 hz
  have S:=T
  clear T
  obtain⟨c_x0,c_x1,f_x0,f_x1⟩:=S.cf2 0 rfl
  have hz:w.heap.size<w2.heap.size:=S.lt 0 rfl
  replace S:=Lib.hid S
  go_wp2
  go_ret
  exact⟨rfl,S.out.bel⟩
 obtain⟨htn,hlc⟩:=hli rfl
 clear hli hLi
 replace htn:=Lib.hid htn
 replace hlc:=Lib.hid hlc
 go_wp2_with fail
 refine (hCe.out _ S.out.bel).mono ?_
 rintro e w2 ⟨⟨v,rfl,hlx⟩,bb⟩
 have T:=(S.out.call bb)
 clear bb S c_x0 f_x0 c_x1 f_x1 hz
 have S:=T
 clear T
 obtain⟨c_x0,c_x1,f_x0,f_x1⟩:=S.cf2 0 rfl
 have hz:w.heap.size<w2.heap.size:=S.lt 0 rfl
 replace S:=Lib.hid S
 cases v
 ·clear hlx hCe hT hMl
  go_wp2_with fail
  refine (hA.out _).mono ?_
  rintro e w3 ⟨rfl,bb⟩
  have T:=(S.out.call bb)
  clear bb S c_x0 f_x0 c_x1 f_x1 hz
  have S:=T
  clear T
  obtain⟨c_x0,c_x1,f_x0,f_x1⟩:=S.cf2 0 rfl
  have hz:w.heap.size<w3.heap.size:=S.lt 0 rfl
  replace S:=Lib.hid S
  go_wp2
  go_ret
  exact⟨rfl,S.out.bel⟩
 obtain⟨hxn,hxl⟩:=hlx rfl
 clear hlx hCe
 replace hxn:=Lib.hid hxn
 have hmL:Hid (∀ y∈M,LtC y):=Lib.hid fun y hy=>by have:=hxl y hy;exact⟨by omega,by omega⟩
 clear hxl
 have hV:Hid (∀ W,Below w.heap.size w W→Calls Tryz.prog 30 #[.agg #[.int .i64 R,.slice TA tn tc]] W fun e w'=>e=.returned (.bool (tabB R (L.map Cl.lx)))∧Below W.heap.size W w'):=Lib.hid fun W hW=>rValid_any R TA tn tc L W (hT.out.bel hW) (fun x hx=>(hlc.out x hx).l)
 cases hv:tabB R (L.map Cl.lx)
 ·rw[hv] at hV
  clear hT hMl hv
  go_wp2_with fail
  refine (hV.out _ S.out.bel).mono ?_
  rintro e w3 ⟨rfl,bb⟩
  have T:=(S.out.call bb)
  clear bb S c_x0 f_x0 c_x1 f_x1 hz
  have S:=T
  clear T
  obtain⟨c_x0,c_x1,f_x0,f_x1⟩:=S.cf2 0 rfl
  have hz:w.heap.size<w3.heap.size:=S.lt 0 rfl
  replace S:=Lib.hid S
  go_wp2_with fail
  refine (hA.out _).mono ?_
  rintro e w4 ⟨rfl,bb⟩
  have T:=(S.out.call bb)
  clear bb S c_x0 f_x0 c_x1 f_x1 hz
  have S:=T
  clear T
  obtain⟨c_x0,c_x1,f_x0,f_x1⟩:=S.cf2 0 rfl
  have hz:w.heap.size<w4.heap.size:=S.lt 0 rfl
  replace S:=Lib.hid S
  go_wp2
  go_ret
  exact⟨rfl,S.out.bel⟩
 rw[hv] at hV
 obtain⟨Rn,rfl⟩:=Int.eq_ofNat_of_zero_le (tab_parts hv).1
 replace hv:=Lib.hid hv
 go_wp2_with fail
 refine (hV.out _ S.out.bel).mono ?_
 rintro e w3 ⟨rfl,bb⟩
 have T:=(S.out.call bb)
 clear bb S c_x0 f_x0 c_x1 f_x1 hz
 have S:=T
 clear T
 obtain⟨c_x0,c_x1,f_x0,f_x1⟩:=S.cf2 0 rfl
 have hz:w.heap.size<w3.heap.size:=S.lt 0 rfl
 replace S:=Lib.hid S
 by_cases h4:40<Rn
 ·have g4:(40:Int)<(Rn:Int):=by omega
  clear h4 hT hMl hV
  go_wp2_with fail
  refine (hA.out _).mono ?_
  rintro e w4 ⟨rfl,bb⟩
  have T:=(S.out.call bb)
  clear bb S c_x0 f_x0 c_x1 f_x1 hz
  have S:=T
  clear T
  obtain⟨c_x0,c_x1,f_x0,f_x1⟩:=S.cf2 0 rfl
  have hz:w.heap.size<w4.heap.size:=S.lt 0 rfl
  replace S:=Lib.hid S
  go_wp2
  go_ret
  exact⟨rfl,S.out.bel⟩
 have g4:¬ (40:Int)<(Rn:Int):=by omega
 have hRn:=Lib.hid h4
 have hLl:Hid (∀ x∈L,LtL x):=Lib.hid fun x hx=>(hlc.out x hx).l
 have hM:=Lib.hid (fun W=>mmod_any a ((Rn:Int)+1) W (by omega) (by omega))
 obtain⟨p,hp⟩:∃ p:Nat,a%((Rn:Int)+1)=p:=⟨(a%((Rn:Int)+1)).toNat,by have:=Int.emod_nonneg a (show ((Rn:Int)+1)≠0 by omega);omega⟩
 have hpR:Hid (p≤Rn):=Lib.hid (by have:=Int.emod_lt_of_pos a (show (0:Int)<(Rn:Int)+1 by omega);omega)
 rw[hp] at hM
 have hRb:Rn≤40:=by omega
 clear h4 hV hp
 go_wp2_with fail
 refine (hM.out _).mono ?_
 rintro e v0 ⟨rfl,rfl⟩
 clear hM
 rename World=>b0
 have hbl:=Lib.hid S.out.bel
 have hX:=Lib.hid (S.out.cb 0 rfl)
 have hTd:=Lib.hid (hT.out.bel hbl.out)
 have hMd:=Lib.hid (hMl.out.bel hbl.out)
 clear S hT hMl
 go_wp2_with fail
 refine (insert_u Rn TA tn tc L p xA xn xc M _ hTd.out hLl.out hv.out hpR.out (by have:=hRn.out;omega) hMd.out hmL.out (by have:=hxn.out;omega)).mono ?_
 rintro e w1 ⟨z,m,uA,un,uc,rfl,hcase,bb⟩
 clear c_x0 f_x0 c_x1 f_x1 hz g4
 have T:=Lib.hid (((St.new b0).call bb).allocAt w1.heap.size #[.int .i64 m,.slice uA un uc] 37 (noLof rfl) rfl)
 have hcs:Hid ((¬ (xn=tn∧fitsL L M)∧z≠0)∨((xn=tn∧fitsL L M)∧z=0∧m=((Rn+1:Nat):Int)∧un=tn∧∃ Cs,LR clC (w1.alloc (.cells #[.int .i64 m,.slice uA un uc] 37)) uA tn Cs∧Cs.map Cl.lx=insL (L.map Cl.lx) (M.map Ce.cx) p∧∀ c∈Cs,LtL c)):=Lib.hid (by
  rcases hcase with h | ⟨h1,h2,h3,h4,Cs,h5,h6⟩
  ·exact .inl h
  ·exact .inr ⟨h1,h2,h3,h4,Cs,h5.bel ((Below.refl w1.heap.size w1).alloc (Nat.le_refl _) _),h6⟩)
 clear bb hcase
 go_upto_if 51 with fail
 obtain⟨g1,hg⟩:∃ g,g=w1.heap.size:=⟨_,rfl⟩
 rw[←hg] at T ⊢
 generalize hW:World.alloc w1 _=b1 at T hcs ⊢
 clear hW hg
 replace hX:=Lib.hid (hX.out.bel T.out.bel)
 replace hTd:=Lib.hid (hTd.out.bel T.out.bel)
 replace hMd:=Lib.hid (hMd.out.bel T.out.bel)
 replace hbl:=Lib.hid (hbl.out.trans (T.out.bel.mono hbl.out.size))
 have hU:=Lib.hid (T.out.cb 0 rfl)
 clear T
 go_cut [] (fun wc=>Below b1.heap.size b1 wc)
 case first=>
  rcases hcs.out with ⟨_,hz⟩ | ⟨⟨rfl,hfit⟩,rfl,rfl,rfl,Cs1,hr1,hx1,hm1⟩
  ·have g5:(z==0)=false:=beq_eq_false_iff_ne.2 hz
   clear hcs hz
   go_wp2
   go_meet
   exact Below.refl _ _
  ·clear hcs
   have hv1:Hid (tabB ((Rn+1:Nat):Int) (Cs1.map Cl.lx)=true):=Lib.hid (by rw[hx1];exact insL_tab hv.out (by rw[List.length_map,List.length_map,hMd.out.len,hlen.out]) (fitsL_cx hfit) hpR.out (by have:=hRn.out;omega))
   have hB:=Lib.hid (Below.refl b1.heap.size b1)
   replace hr1:=Lib.hid hr1
   replace hx1:=Lib.hid hx1
   replace hm1:=Lib.hid hm1
   clear hfit
   have c_u0:=hU.out.cell (i:=0) rfl
   have c_u1:=hU.out.cell (i:=1) rfl
   have c_x0:=hX.out.cell (i:=0) rfl
   have c_x1:=hX.out.cell (i:=1) rfl
   go_wp2_with fail
   refine (delete_any Rn uA un uc Cs1 p _ hr1.out hm1.out hv1.out (by have:=hpR.out;omega)).mono ?_
   rintro e u1b1 ⟨cb2,Cs2,rfl,hr2,hx2,hm2,bb⟩
   clear c_u0 c_u1 c_x0 c_x1
   have T:=Lib.hid (((St.new b1).call bb).allocAt u1b1.heap.size #[.int .i64 Rn,.slice (some ⟨cb2,0,none⟩) un un] 37 (noLof rfl) rfl)
   replace hr2:=Lib.hid (hr2.bel ((Below.refl u1b1.heap.size u1b1).alloc (Nat.le_refl _) (.cells #[.int .i64 Rn,.slice (some ⟨cb2,0,none⟩) un un] 37)))
   replace hx2:=Lib.hid hx2
   replace hm2:=Lib.hid hm2
   clear bb
   go_upto_region 7 with fail
   obtain⟨gu1b1,hg⟩:∃ g,g=u1b1.heap.size:=⟨_,rfl⟩
   rw[←hg] at T ⊢
   generalize hW:World.alloc u1b1 _=b2 at T hr2 ⊢
   clear hW hg
   replace hX:=Lib.hid (hX.out.bel T.out.bel)
   replace hTd:=Lib.hid (hTd.out.bel T.out.bel)
   replace hMd:=Lib.hid (hMd.out.bel T.out.bel)
   replace hU:=Lib.hid (hU.out.bel T.out.bel)
   replace hr1:=Lib.hid (hr1.out.bel T.out.bel)
   replace hB:=Lib.hid (hB.out.trans (T.out.bel.mono hB.out.size))
   have hV:=Lib.hid (T.out.cb 0 rfl)
   clear T
   have c_u0:=hU.out.cell (i:=0) rfl
   have c_u1:=hU.out.cell (i:=1) rfl
   have c_v0:=hV.out.cell (i:=0) rfl
   have c_v1:=hV.out.cell (i:=1) rfl
   have c_x0:=hX.out.cell (i:=0) rfl
   have c_x1:=hX.out.cell (i:=1) rfl
   go_wp2_with fail
   refine (row_any (Rn+1) uA un uc Cs1 p _ hr1.out hm1.out hv1.out (by have:=hpR.out;omega)).mono ?_
   rintro e b3 ⟨eb,Es,rfl,hre,hxe,hme,bb⟩
   clear c_u0 c_u1 c_v0 c_v1 c_x0 c_x1
   replace hX:=Lib.hid (hX.out.bel bb)
   replace hTd:=Lib.hid (hTd.out.bel bb)
   replace hMd:=Lib.hid (hMd.out.bel bb)
   replace hU:=Lib.hid (hU.out.bel bb)
   replace hr1:=Lib.hid (hr1.out.bel bb)
   replace hV:=Lib.hid (hV.out.bel bb)
   replace hr2:=Lib.hid (hr2.out.bel bb)
   replace hB:=Lib.hid (hB.out.trans (bb.mono hB.out.size))
   replace hre:=Lib.hid hre
   replace hxe:=Lib.hid hxe
   replace hme:=Lib.hid hme
   clear bb
   have c_v0:=hV.out.cell (i:=0) rfl
   have c_v1:=hV.out.cell (i:=1) rfl
   have c_x0:=hX.out.cell (i:=0) rfl
   have c_x1:=hX.out.cell (i:=1) rfl
   have e2:Hid (Cs2.map Cl.lx=L.map Cl.lx):=Lib.hid (by rw[hx2.out,hx1.out,delL_insL (by rw[List.length_map,List.length_map,hMd.out.len,hlen.out])])
   have e3:Hid (Es.map Ce.cx=M.map Ce.cx):=Lib.hid (by rw[hxe.out,hx1.out,row_insL hv.out (by rw[List.length_map,List.length_map,hMd.out.len,hlen.out]) hpR.out])
   go_wp2_with fail
   refine (same_yes Rn (some ⟨cb2,0,none⟩) un un Cs2 TA tc L _ hr2.out hTd.out e2.out (by have:=htn.out;omega) hm2.out hLl.out).mono ?_
   rintro e b4 ⟨rfl,bb⟩
   clear c_v0 c_v1 c_x0 c_x1
   replace hX:=Lib.hid (hX.out.bel bb)
   replace hTd:=Lib.hid (hTd.out.bel bb)
   replace hMd:=Lib.hid (hMd.out.bel bb)
   replace hU:=Lib.hid (hU.out.bel bb)
   replace hr1:=Lib.hid (hr1.out.bel bb)
   replace hV:=Lib.hid (hV.out.bel bb)
   replace hr2:=Lib.hid (hr2.out.bel bb)
   replace hre:=Lib.hid (hre.out.bel bb)
   replace hB:=Lib.hid (hB.out.trans (bb.mono hB.out.size))
   clear bb
   go_wp2_with fail
   refine (sameCells_yes Es M (some ⟨eb,0,none⟩) un un xA xc _ hre.out hMd.out e3.out (by have:=htn.out;omega) hme.out hmL.out).mono ?_
   rintro e b5 ⟨rfl,bb⟩
   replace hX:=Lib.hid (hX.out.bel bb)
   replace hTd:=Lib.hid (hTd.out.bel bb)
   replace hMd:=Lib.hid (hMd.out.bel bb)
   replace hU:=Lib.hid (hU.out.bel bb)
   replace hr1:=Lib.hid (hr1.out.bel bb)
   replace hV:=Lib.hid (hV.out.bel bb)
   replace hr2:=Lib.hid (hr2.out.bel bb)
   replace hre:=Lib.hid (hre.out.bel bb)
   replace hB:=Lib.hid (hB.out.trans (bb.mono hB.out.size))
   clear bb
   go_wp2
   go_meet
   exact hB.out
 case rest=>
  have hBc:=Lib.hid hcut
  replace hX:=Lib.hid (hX.out.bel hBc.out)
  replace hTd:=Lib.hid (hTd.out.bel hBc.out)
  replace hbl:=Lib.hid (hbl.out.trans (hBc.out.mono hbl.out.size))
  clear hcut hBc hU hMd hcs
  rename World=>c0
  have c_x0:=hX.out.cell (i:=0) rfl
  have c_x1:=hX.out.cell (i:=1) rfl
  by_cases hpe:p=Rn
  ·have g5:((p:Int)==(Rn:Int))=true:=by rw[beq_iff_eq];omega
   clear hpe
   go_wp2_with fail
   refine (hA.out _).mono ?_
   rintro e w9 ⟨rfl,bb⟩
   replace hbl:=Lib.hid (hbl.out.trans (bb.mono hbl.out.size))
   clear bb c_x0 c_x1 hX
   go_wp2
   go_ret
   exact⟨rfl,hbl.out⟩
  ·have g5:((p:Int)==(Rn:Int))=false:=by rw[beq_eq_false_iff_ne];omega
   have hpl:p<Rn:=by have:=hpR.out;omega
   obtain⟨r,rfl⟩:∃ r,Rn=r+1:=⟨Rn-1,by omega⟩
   replace hpl:=Lib.hid hpl
   clear hpe hRb
   go_wp2_with fail
   refine (row_any (r+1) TA tn tc L p _ hTd.out hLl.out hv.out hpl.out).mono ?_
   rintro e c1 ⟨eb,Es,rfl,hre,hxe,hme,bb⟩
   clear c_x0 c_x1
   replace hX:=Lib.hid (hX.out.bel bb)
   replace hTd:=Lib.hid (hTd.out.bel bb)
   replace hbl:=Lib.hid (hbl.out.trans (bb.mono hbl.out.size))
   replace hre:=Lib.hid hre
   replace hxe:=Lib.hid hxe
   replace hme:=Lib.hid hme
   clear bb
   have c_x0:=hX.out.cell (i:=0) rfl
   have c_x1:=hX.out.cell (i:=1) rfl
   go_wp2_with fail
   refine (delete_any r TA tn tc L p _ hTd.out hLl.out hv.out hpl.out).mono ?_
   rintro e u1c1 ⟨cb2,Cs2,rfl,hr2,hx2,hm2,bb⟩
   clear c_x0 c_x1
   have T:=Lib.hid (((St.new c1).call bb).allocAt u1c1.heap.size #[.int .i64 r,.slice (some ⟨cb2,0,none⟩) tn tn] 37 (noLof rfl) rfl)
   replace hr2:=Lib.hid (hr2.bel ((Below.refl u1c1.heap.size u1c1).alloc (Nat.le_refl _) (.cells #[.int .i64 r,.slice (some ⟨cb2,0,none⟩) tn tn] 37)))
   replace hx2:=Lib.hid hx2
   replace hm2:=Lib.hid hm2
   clear bb
   go_upto_region 14 with fail
   obtain⟨gu1c1,hg⟩:∃ g,g=u1c1.heap.size:=⟨_,rfl⟩
   rw[←hg] at T ⊢
   generalize hW:World.alloc u1c1 _=c2 at T hr2 ⊢
   clear hW hg
   replace hX:=Lib.hid (hX.out.bel T.out.bel)
   replace hTd:=Lib.hid (hTd.out.bel T.out.bel)
   replace hre:=Lib.hid (hre.out.bel T.out.bel)
   replace hbl:=Lib.hid (hbl.out.trans (T.out.bel.mono hbl.out.size))
   have hU:=Lib.hid (T.out.cb 0 rfl)
   clear T
   have c_u0:=hU.out.cell (i:=0) rfl
   have c_u1:=hU.out.cell (i:=1) rfl
   have c_x0:=hX.out.cell (i:=0) rfl
   have c_x1:=hX.out.cell (i:=1) rfl
   have hv2:Hid (tabB (r:Int) (Cs2.map Cl.lx)=true):=Lib.hid (by rw[hx2.out];exact delL_tab hv.out hpl.out)
   have hye:Hid (tn=tn∧fitsL Cs2 Es):=Lib.hid ⟨rfl,fun i x y hx hy=>by
    refine insL_fit hv.out hpl.out i x.lx y.cx (by rw[←hx2.out,List.getElem?_map,hx];rfl) (by rw[←hxe.out,List.getElem?_map,hy];rfl)⟩
   have hIn:Hid (∀ W,Below c2.heap.size c2 W→Calls Tryz.prog 31 #[.agg #[.int .i64 r,.slice (some ⟨cb2,0,none⟩) tn tn],.int .i64 p,.slice (some ⟨eb,0,none⟩) tn tn] W fun e w'=>∃ cb Cs,e=.returned (.tuple #[.agg #[.int .i64 (r+1:Nat),.slice (some ⟨cb,0,none⟩) tn tn],.int .i64 0])∧LR clC w' (some ⟨cb,0,none⟩) tn Cs∧Cs.map Cl.lx=insL (Cs2.map Cl.lx) (Es.map Ce.cx) p∧(∀ c∈Cs,LtL c)∧Below W.heap.size W w'):=Lib.hid fun W hW=>(insert_any r (some ⟨cb2,0,none⟩) tn tn Cs2 p (some ⟨eb,0,none⟩) tn tn Es W (hr2.out.bel hW) hm2.out hv2.out (by have:=hpl.out;omega) (by have:=hRn.out;omega) (hre.out.bel hW) hme.out (by have:=htn.out;omega)).mono fun e w' h=>h.elim (fun h=>absurd hye.out h.1) (fun h=>h.2)
   go_wp2_with fail
   refine (hIn.out _ (Below.refl _ _)).mono ?_
   rintro e u2c2 ⟨cb3,Cs3,rfl,hr3,hx3,hm3,bb⟩
   clear c_u0 c_u1 c_x0 c_x1
   have T:=Lib.hid (((St.new c2).call bb).allocAt u2c2.heap.size #[.int .i64 ((r:Int)+1),.slice (some ⟨cb3,0,none⟩) tn tn] 37 (noLof rfl) rfl)
   replace hr3:=Lib.hid (hr3.bel ((Below.refl u2c2.heap.size u2c2).alloc (Nat.le_refl _) (.cells #[.int .i64 ((r:Int)+1),.slice (some ⟨cb3,0,none⟩) tn tn] 37)))
   replace hx3:=Lib.hid hx3
   replace hm3:=Lib.hid hm3
   clear bb
   go_upto_region 15 with fail
   obtain⟨gu2c2,hg⟩:∃ g,g=u2c2.heap.size:=⟨_,rfl⟩
   rw[←hg] at T ⊢
   generalize hW:World.alloc u2c2 _=c3 at T hr3 ⊢
   clear hW hg
   replace hX:=Lib.hid (hX.out.bel T.out.bel)
   replace hTd:=Lib.hid (hTd.out.bel T.out.bel)
   replace hre:=Lib.hid (hre.out.bel T.out.bel)
   replace hU:=Lib.hid (hU.out.bel T.out.bel)
   replace hr2:=Lib.hid (hr2.out.bel T.out.bel)
   replace hbl:=Lib.hid (hbl.out.trans (T.out.bel.mono hbl.out.size))
   have hV:=Lib.hid (T.out.cb 0 rfl)
   clear T
   have c_v0:=hV.out.cell (i:=0) rfl
   have c_v1:=hV.out.cell (i:=1) rfl
   have c_x0:=hX.out.cell (i:=0) rfl
   have c_x1:=hX.out.cell (i:=1) rfl
   have e4:Hid (Cs3.map Cl.lx=L.map Cl.lx):=Lib.hid (by rw[hx3.out,hx2.out,hxe.out,insL_delL hv.out hpl.out])
   go_wp2_with fail
   refine (hA.out _).mono ?_
   rintro e c4 ⟨rfl,bb⟩
   clear c_v0 c_v1 c_x0 c_x1
   replace hX:=Lib.hid (hX.out.bel bb)
   replace hTd:=Lib.hid (hTd.out.bel bb)
   replace hre:=Lib.hid (hre.out.bel bb)
   replace hU:=Lib.hid (hU.out.bel bb)
   replace hr2:=Lib.hid (hr2.out.bel bb)
   replace hV:=Lib.hid (hV.out.bel bb)
   replace hr3:=Lib.hid (hr3.out.bel bb)
   replace hbl:=Lib.hid (hbl.out.trans (bb.mono hbl.out.size))
   clear bb
   have c_v0:=hV.out.cell (i:=0) rfl
   have c_v1:=hV.out.cell (i:=1) rfl
   have c_x0:=hX.out.cell (i:=0) rfl
   have c_x1:=hX.out.cell (i:=1) rfl
   go_wp2_with fail
   refine (same_yes ((r:Int)+1) (some ⟨cb3,0,none⟩) tn tn Cs3 TA tc L _ hr3.out hTd.out e4.out (by have:=htn.out;omega) hm3.out hLl.out).mono ?_
   rintro e c5 ⟨rfl,bb⟩
   clear c_v0 c_v1 c_x0 c_x1
   replace hX:=Lib.hid (hX.out.bel bb)
   replace hTd:=Lib.hid (hTd.out.bel bb)
   replace hre:=Lib.hid (hre.out.bel bb)
   replace hU:=Lib.hid (hU.out.bel bb)
   replace hr2:=Lib.hid (hr2.out.bel bb)
   replace hV:=Lib.hid (hV.out.bel bb)
   replace hr3:=Lib.hid (hr3.out.bel bb)
   replace hbl:=Lib.hid (hbl.out.trans (bb.mono hbl.out.size))
   clear bb
   go_wp2
   go_ret
   exact⟨rfl,hbl.out⟩
end Go.Proofs.YtdeedofmflelfaaGreatDoor
