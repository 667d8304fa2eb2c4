/- make of lists; blocks that hold lists. Zero, cells that fit. The names of columns and of fields; copies of texts. Levels and cells of a column. Columns and tables that are valid. Numbers of rows in range; a column by its name. -/
import Derived.Test.YtdeedofmflelfaaGreatDoorQLgz
import Derived.Test.YtdeedofmflelfaaGreatDoorQRcz
import Derived.Test.YtdeedofmflelfaaGreatDoorSi
import Derived.Test.YtdeedofmflelfaaGreatDoorDr
namespace Go.Proofs.YtdeedofmflelfaaGreatDoor
open Go.RowKit RQ
set_option linter.unusedVariables false
theorem make_of {α:Type} {P:Program} (C:Cod α) (x:α) (ty e:TypeId) (z:Value) (bytes:Nat) (hu:P.underlying ty=some (.slice e)) (hi:(P.info? e).map (fun i=>(i.zero,i.size,i.bytes))=some (some z,C.sz,bytes)) (hz:z.cells=(C.cs x).toArray) (hb:bytes≤1000) (n:Nat) (hn:n≤1000000) (w:World) :
  (Instr.makeSlice ty (.int .i64 (n:Int)) (.int .i64 (n:Int))).run P w=.ok (.slice (some ⟨w.heap.size,0,none⟩) n n) (w.alloc (.cells (C.all (List.replicate n x)).toArray e)):=by
 obtain⟨i0,hi,hzz⟩:=Option.map_eq_some_iff.1 hi
 simp only[Prod.mk.injEq] at hzz
 obtain⟨hz0,hz1,hz2⟩:=hzz
 have hm:bytes*n≤1000000000:=by have h9:=Nat.mul_le_mul hb hn;omega
 have hm2:(bytes:Int)*(n:Int)≤1000000000:=by have:=Int.ofNat_le.2 hm;rw[Int.natCast_mul] at this;omega
 have hr:=run_make (P:=P) w ty e i0 _ hu hi hz0 .i64 .i64 n n (by omega) (Int.le_refl _) (by rw[hz2];omega) (by omega)
 simp only[Int.toNat_natCast,hz1] at hr
 rw[hr,hz,all_rep]
/-- The zero values of cells and columns. -/
def Nl0:Nl:=⟨none,0,0,[]⟩
def Ce0:Ce:=⟨false,⟨false,Nl0,Nl0⟩,0⟩
def Cl0:Cl:=⟨ByteArray.empty,0,⟨none,0,[]⟩,⟨none,0,[]⟩⟩
theorem make_str (n:Nat) (hn:n≤1000000) (w:World):(Instr.makeSlice 22 (.int .i64 (n:Int)) (.int .i64 (n:Int))).run Tryz.prog w=.ok (.slice (some ⟨w.heap.size,0,none⟩) n n) (w.alloc (.cells (strC.all (List.replicate n ByteArray.empty)).toArray 9)):=
 make_of strC ByteArray.empty 22 9 (.string ByteArray.empty) 16 Tryz.underlying22 (by kernel_rfl) rfl (by decide) n hn w
theorem make_cell (n:Nat) (hn:n≤1000000) (w:World):(Instr.makeSlice 54 (.int .i64 (n:Int)) (.int .i64 (n:Int))).run Tryz.prog w=.ok (.slice (some ⟨w.heap.size,0,none⟩) n n) (w.alloc (.cells (ceC.all (List.replicate n Ce0)).toArray 58)):=
 make_of ceC Ce0 54 58 (.agg Ce0.vs) 72 Tryz.underlying54 (by kernel_rfl) rfl (by decide) n hn w
theorem make_col (n:Nat) (hn:n≤1000000) (w:World):(Instr.makeSlice 35 (.int .i64 (n:Int)) (.int .i64 (n:Int))).run Tryz.prog w=.ok (.slice (some ⟨w.heap.size,0,none⟩) n n) (w.alloc (.cells (clC.all (List.replicate n Cl0)).toArray 56)):=
 make_of clC Cl0 35 56 (.agg #[.string ByteArray.empty,.int .i64 0,.slice none 0 0,.slice none 0 0]) 72 Tryz.underlying35 (by kernel_rfl) rfl (by decide) n hn w
theorem make_bool (n:Nat) (hn:n≤1000000) (w:World):(Instr.makeSlice 111 (.int .i64 (n:Int)) (.int .i64 (n:Int))).run Tryz.prog w=.ok (.slice (some ⟨w.heap.size,0,none⟩) n n) (w.alloc (.cells (boolC.all (List.replicate n false)).toArray 4)):=
 make_of boolC false 111 4 (.bool false) 1 Tryz.underlying111 (by kernel_rfl) rfl (by decide) n hn w
section
variable {α:Type} {C:Cod α} {w W W':World} {g t:Nat} {L:List α} {bs:List GBk} {rs:List GRd}
/-- A block that holds a list reads as a slice. -/
theorem St_glr (h:St w W ((g,(C.all L).toArray,t)::bs) rs) (n:Nat) (hn:L.length=n) (hx:∀ x∈L,C.At W x):LR C W (some ⟨g,0,none⟩) n L:=by
 have hb:=(h.bk _ List.mem_cons_self).1
 refine⟨hn,.inr ⟨g,0,rfl,hb.lt,fun i x hi k v hv=>?_⟩,hx⟩
 rw[Nat.zero_add]
 exact hb.cell (by rw[List.getElem?_toArray];exact all_get (i:=i) C hi k v hv)
theorem St.allocC (h:St w W bs rs) (C:Cod α) (L:List α) (g t:Nat) (hg:W.heap.size=g):St w (W.alloc (.cells (C.all L).toArray t)) ((g,(C.all L).toArray,t)::bs) rs:=h.allocAt g _ t (all_noL C L).arr hg
theorem take_set_step {i:Nat} {x:α} {K M:List α} (h:K.take i=M.take i) (hl:i<K.length) (hx:M[i]?=some x):(K.set i x).take (i+1)=M.take (i+1):=by
 rw[take_snoc hx,←h,List.take_add_one,List.getElem?_set_self hl,List.take_set_of_le (Nat.le_refl i)];rfl
theorem take_fin {i:Nat} {K M:List α} (h:K.take i=M.take i) (hk:K.length=i) (hm:M.length=i):K=M:=by
 rwa [List.take_of_length_le (by omega),List.take_of_length_le (by omega)] at h
end
end Go.Proofs.YtdeedofmflelfaaGreatDoor

namespace Go.Proofs.YtdeedofmflelfaaGreatDoor
open Go.RowKit RQ
set_option linter.unusedVariables false
theorem noLof {xs:List Value} (h:xs.all (fun v=>match v with | .int .u32 _=>false | _=>true)=true):NoL xs.toArray:=by
 refine NoLl.arr fun v hv z e=>?_
 have:=List.all_eq_true.1 h v hv
 rw[e] at this
 cases this
set_option maxRecDepth 100000 in
set_option maxHeartbeats 4000000 in
theorem isZero_any (b:Bool) (A:Option Addr) (n c:Nat) (xs:List Nat) (D:Option Addr) (m d:Nat) (ds:List Nat) (w:World) (R1:Rd w A n c xs) (R2:Rd w D m d ds) (hn:n≤200) (hm:m≤200) :
  Calls Tryz.prog 118 #[.agg #[.bool b,.slice A n c,.slice D m d]] w fun e w'=>e=.returned (.bool (!b&&xs.isEmpty&&ds.isEmpty))∧Below w.heap.size w w':=by
 have hV:Hid (∀ W,Below w.heap.size w W→Calls Tryz.prog 119 #[.agg #[.bool b,.slice A n c,.slice D m d]] W fun e w'=>e=.returned (.bool (vldR b xs ds))∧Below W.heap.size W w'):=Lib.hid fun W h=>validR_any b A n c xs D m d ds W (R1.below h) (R2.below h) (by omega) (by omega)
 have hG:Hid (∀ W,Below w.heap.size w W→Calls Tryz.prog 140 #[.agg #[.bool b,.slice A n c,.slice D m d]] W fun e w'=>e=.returned (.int .i64 (rv b xs ds).num.sign)∧Below W.heap.size W w'):=Lib.hid fun W h=>signR_any b A n c xs D m d ds W (R1.below h) (R2.below h) (by omega) (by omega)
 rw[←zer_vld R1.sm R2.sm]
 generalize (rv b xs ds).num.sign=s at *
 generalize vldR b xs ds=v at *
 clear R1 R2 hn hm
 cases v
 ·clear hG
  have S:=((St.new w).allocAt (w.heap.size) #[.bool b,.slice A n c,.slice D m d] 46 (noLof rfl) (by simp))
  replace S:=Lib.hid S
  go_enter Tryz.func118,Tryz.ntmps118
  go_wp2_with fail
  refine (hV.out _ S.out.bel).mono ?_
  rintro e w1 ⟨rfl,bb⟩
  have T:=(S.out.call bb)
  clear bb S
  have S:=T
  clear T
  obtain⟨c_x0,c_x1,c_x2,f_x0,f_x1,f_x2⟩:=S.cf3 0 rfl
  have hz:w.heap.size<w1.heap.size:=S.lt 0 rfl
  replace S:=Lib.hid S
  go_wp2
  go_ret
  exact⟨by simp,S.out.bel⟩
 ·
  have S:=((St.new w).allocAt (w.heap.size) #[.bool b,.slice A n c,.slice D m d] 46 (noLof rfl) (by simp))
  replace S:=Lib.hid S
  go_enter Tryz.func118,Tryz.ntmps118
  go_wp2_with fail
  refine (hV.out _ S.out.bel).mono ?_
  rintro e w1 ⟨rfl,bb⟩
  have T:=(S.out.call bb)
  clear bb S
  have S:=T
  clear T
  obtain⟨c_x0,c_x1,c_x2,f_x0,f_x1,f_x2⟩:=S.cf3 0 rfl
  have hz:w.heap.size<w1.heap.size:=S.lt 0 rfl
  replace S:=Lib.hid S
  go_wp2_with fail
  refine (hG.out _ S.out.bel).mono ?_
  rintro e w2 ⟨rfl,bb⟩
  have T:=(S.out.call bb)
  clear bb S c_x0 f_x0 c_x1 f_x1 c_x2 f_x2 hz
  have S:=T
  clear T
  obtain⟨c_x0,c_x1,c_x2,f_x0,f_x1,f_x2⟩:=S.cf3 0 rfl
  have hz:w.heap.size<w2.heap.size:=S.lt 0 rfl
  replace S:=Lib.hid S
  go_wp2
  go_ret
  exact⟨by simp,S.out.bel⟩
set_option maxRecDepth 100000 in
set_option maxHeartbeats 4000000 in
theorem fits_any (N:ByteArray) (k:Int) (LA:Option Addr) (ln lc:Nat) (CA:Option Addr) (cn cc:Nat) (mi:Bool) (b:Bool) (A:Option Addr) (n c:Nat) (xs:List Nat) (D:Option Addr) (m d:Nat) (ds:List Nat) (l:Int) (w:World) (R1:Rd w A n c xs) (R2:Rd w D m d ds) (hn:n≤200) (hm:m≤200) :
  Calls Tryz.prog 75 #[.agg #[.string N,.int .i64 k,.slice LA ln lc,.slice CA cn cc],.agg #[.bool mi,.bool b,.slice A n c,.slice D m d,.int .i64 l]] w fun e w'=>e=.returned (.bool (fitB k ln (mi,b,xs,ds,l)))∧Below w.heap.size w w':=by
 have hV:Hid (∀ W,Below w.heap.size w W→Calls Tryz.prog 119 #[.agg #[.bool b,.slice A n c,.slice D m d]] W fun e w'=>e=.returned (.bool (vldR b xs ds))∧Below W.heap.size W w'):=Lib.hid fun W h=>validR_any b A n c xs D m d ds W (R1.below h) (R2.below h) (by omega) (by omega)
 have hZ:Hid (∀ W,Below w.heap.size w W→Calls Tryz.prog 118 #[.agg #[.bool b,.slice A n c,.slice D m d]] W fun e w'=>e=.returned (.bool (!b&&xs.isEmpty&&ds.isEmpty))∧Below W.heap.size W w'):=Lib.hid fun W h=>isZero_any b A n c xs D m d ds W (R1.below h) (R2.below h) hn hm
 unfold fitB zerB
 dsimp only
 generalize (!b&&xs.isEmpty&&ds.isEmpty)=z at *
 generalize vldR b xs ds=v at *
 clear R1 R2 hn hm
 cases mi
 ·cases hk:(k==1)
  ·have hk2:=hk
   clear hV
   cases z
   ·
    have S:=(((St.new w).allocAt (w.heap.size) #[.string N,.int .i64 k,.slice LA ln lc,.slice CA cn cc] 56 (noLof rfl) (by simp)).allocAt (w.heap.size+1) #[.bool false,.bool b,.slice A n c,.slice D m d,.int .i64 l] 58 (noLof rfl) (by simp))
    replace S:=Lib.hid S
    go_enter Tryz.func75,Tryz.ntmps75
    go_wp2_with fail
    refine (hZ.out _ S.out.bel).mono ?_
    rintro e w1 ⟨rfl,bb⟩
    have T:=(S.out.call bb)
    clear bb S
    have S:=T
    clear T
    have c_x0:=S.cl 0 0 rfl rfl
    have f_x0:=S.f 0 0 rfl
    have c_x1:=S.cl 0 1 rfl rfl
    have f_x1:=S.f 0 1 rfl
    have c_x2:=S.cl 0 2 rfl rfl
    have f_x2:=S.f 0 2 rfl
    have c_x3:=S.cl 0 3 rfl rfl
    have f_x3:=S.f 0 3 rfl
    have c_x4:=S.cl 0 4 rfl rfl
    have f_x4:=S.f 0 4 rfl
    have c_y0:=S.cl 1 0 rfl rfl
    have f_y0:=S.f 1 0 rfl
    have c_y1:=S.cl 1 1 rfl rfl
    have f_y1:=S.f 1 1 rfl
    have c_y2:=S.cl 1 2 rfl rfl
    have f_y2:=S.f 1 2 rfl
    have c_y3:=S.cl 1 3 rfl rfl
    have f_y3:=S.f 1 3 rfl
    have hz:w.heap.size+1<w1.heap.size:=S.lt 0 rfl
    replace S:=Lib.hid S
    go_wp2
    go_ret
    exact⟨by simp[*],S.out.bel⟩
   ·by_cases h0:0≤l
    ·
     have S:=(((St.new w).allocAt (w.heap.size) #[.string N,.int .i64 k,.slice LA ln lc,.slice CA cn cc] 56 (noLof rfl) (by simp)).allocAt (w.heap.size+1) #[.bool false,.bool b,.slice A n c,.slice D m d,.int .i64 l] 58 (noLof rfl) (by simp))
     replace S:=Lib.hid S
     go_enter Tryz.func75,Tryz.ntmps75
     go_wp2_with fail
     refine (hZ.out _ S.out.bel).mono ?_
     rintro e w1 ⟨rfl,bb⟩
     have T:=(S.out.call bb)
     clear bb S
     have S:=T
     clear T
     have c_x0:=S.cl 0 0 rfl rfl
     have f_x0:=S.f 0 0 rfl
     have c_x1:=S.cl 0 1 rfl rfl
     have f_x1:=S.f 0 1 rfl
     have c_x2:=S.cl 0 2 rfl rfl
     have f_x2:=S.f 0 2 rfl
     have c_x3:=S.cl 0 3 rfl rfl
     have f_x3:=S.f 0 3 rfl
     have c_x4:=S.cl 0 4 rfl rfl
     have f_x4:=S.f 0 4 rfl
     have c_y0:=S.cl 1 0 rfl rfl
     have f_y0:=S.f 1 0 rfl
     have c_y1:=S.cl 1 1 rfl rfl
     have f_y1:=S.f 1 1 rfl
     have c_y2:=S.cl 1 2 rfl rfl
     have f_y2:=S.f 1 2 rfl
     have c_y3:=S.cl 1 3 rfl rfl
     have f_y3:=S.f 1 3 rfl
     have hz:w.heap.size+1<w1.heap.size:=S.lt 0 rfl
     replace S:=Lib.hid S
     go_wp2
     go_ret
     exact⟨by simp[*],S.out.bel⟩
    ·have h1:decide (0≤l)=false:=decide_eq_false h0
     have S:=(((St.new w).allocAt (w.heap.size) #[.string N,.int .i64 k,.slice LA ln lc,.slice CA cn cc] 56 (noLof rfl) (by simp)).allocAt (w.heap.size+1) #[.bool false,.bool b,.slice A n c,.slice D m d,.int .i64 l] 58 (noLof rfl) (by simp))
     replace S:=Lib.hid S
     go_enter Tryz.func75,Tryz.ntmps75
     go_wp2_with fail
     refine (hZ.out _ S.out.bel).mono ?_
     rintro e w1 ⟨rfl,bb⟩
     have T:=(S.out.call bb)
     clear bb S
     have S:=T
     clear T
     have c_x0:=S.cl 0 0 rfl rfl
     have f_x0:=S.f 0 0 rfl
     have c_x1:=S.cl 0 1 rfl rfl
     have f_x1:=S.f 0 1 rfl
     have c_x2:=S.cl 0 2 rfl rfl
     have f_x2:=S.f 0 2 rfl
     have c_x3:=S.cl 0 3 rfl rfl
     have f_x3:=S.f 0 3 rfl
     have c_x4:=S.cl 0 4 rfl rfl
     have f_x4:=S.f 0 4 rfl
     have c_y0:=S.cl 1 0 rfl rfl
     have f_y0:=S.f 1 0 rfl
     have c_y1:=S.cl 1 1 rfl rfl
     have f_y1:=S.f 1 1 rfl
     have c_y2:=S.cl 1 2 rfl rfl
     have f_y2:=S.f 1 2 rfl
     have c_y3:=S.cl 1 3 rfl rfl
     have f_y3:=S.f 1 3 rfl
     have hz:w.heap.size+1<w1.heap.size:=S.lt 0 rfl
     replace S:=Lib.hid S
     go_wp2
     go_ret
     exact⟨by simp[*],S.out.bel⟩
  ·clear hZ
   cases v
   ·
    have S:=(((St.new w).allocAt (w.heap.size) #[.string N,.int .i64 k,.slice LA ln lc,.slice CA cn cc] 56 (noLof rfl) (by simp)).allocAt (w.heap.size+1) #[.bool false,.bool b,.slice A n c,.slice D m d,.int .i64 l] 58 (noLof rfl) (by simp))
    replace S:=Lib.hid S
    go_enter Tryz.func75,Tryz.ntmps75
    go_wp2_with fail
    refine (hV.out _ S.out.bel).mono ?_
    rintro e w1 ⟨rfl,bb⟩
    have T:=(S.out.call bb)
    clear bb S
    have S:=T
    clear T
    have c_x0:=S.cl 0 0 rfl rfl
    have f_x0:=S.f 0 0 rfl
    have c_x1:=S.cl 0 1 rfl rfl
    have f_x1:=S.f 0 1 rfl
    have c_x2:=S.cl 0 2 rfl rfl
    have f_x2:=S.f 0 2 rfl
    have c_x3:=S.cl 0 3 rfl rfl
    have f_x3:=S.f 0 3 rfl
    have c_x4:=S.cl 0 4 rfl rfl
    have f_x4:=S.f 0 4 rfl
    have c_y0:=S.cl 1 0 rfl rfl
    have f_y0:=S.f 1 0 rfl
    have c_y1:=S.cl 1 1 rfl rfl
    have f_y1:=S.f 1 1 rfl
    have c_y2:=S.cl 1 2 rfl rfl
    have f_y2:=S.f 1 2 rfl
    have c_y3:=S.cl 1 3 rfl rfl
    have f_y3:=S.f 1 3 rfl
    have hz:w.heap.size+1<w1.heap.size:=S.lt 0 rfl
    replace S:=Lib.hid S
    go_wp2
    go_ret
    exact⟨by simp[*],S.out.bel⟩
   ·
    have S:=(((St.new w).allocAt (w.heap.size) #[.string N,.int .i64 k,.slice LA ln lc,.slice CA cn cc] 56 (noLof rfl) (by simp)).allocAt (w.heap.size+1) #[.bool false,.bool b,.slice A n c,.slice D m d,.int .i64 l] 58 (noLof rfl) (by simp))
    replace S:=Lib.hid S
    go_enter Tryz.func75,Tryz.ntmps75
    go_wp2_with fail
    refine (hV.out _ S.out.bel).mono ?_
    rintro e w1 ⟨rfl,bb⟩
    have T:=(S.out.call bb)
    clear bb S
    have S:=T
    clear T
    have c_x0:=S.cl 0 0 rfl rfl
    have f_x0:=S.f 0 0 rfl
    have c_x1:=S.cl 0 1 rfl rfl
    have f_x1:=S.f 0 1 rfl
    have c_x2:=S.cl 0 2 rfl rfl
    have f_x2:=S.f 0 2 rfl
    have c_x3:=S.cl 0 3 rfl rfl
    have f_x3:=S.f 0 3 rfl
    have c_x4:=S.cl 0 4 rfl rfl
    have f_x4:=S.f 0 4 rfl
    have c_y0:=S.cl 1 0 rfl rfl
    have f_y0:=S.f 1 0 rfl
    have c_y1:=S.cl 1 1 rfl rfl
    have f_y1:=S.f 1 1 rfl
    have c_y2:=S.cl 1 2 rfl rfl
    have f_y2:=S.f 1 2 rfl
    have c_y3:=S.cl 1 3 rfl rfl
    have f_y3:=S.f 1 3 rfl
    have hz:w.heap.size+1<w1.heap.size:=S.lt 0 rfl
    replace S:=Lib.hid S
    go_wp2
    go_ret
    exact⟨by simp[*],S.out.bel⟩
 ·clear hV
  cases z
  ·
   have S:=(((St.new w).allocAt (w.heap.size) #[.string N,.int .i64 k,.slice LA ln lc,.slice CA cn cc] 56 (noLof rfl) (by simp)).allocAt (w.heap.size+1) #[.bool true,.bool b,.slice A n c,.slice D m d,.int .i64 l] 58 (noLof rfl) (by simp))
   replace S:=Lib.hid S
   go_enter Tryz.func75,Tryz.ntmps75
   go_wp2_with fail
   refine (hZ.out _ S.out.bel).mono ?_
   rintro e w1 ⟨rfl,bb⟩
   have T:=(S.out.call bb)
   clear bb S
   have S:=T
   clear T
   have c_x0:=S.cl 0 0 rfl rfl
   have f_x0:=S.f 0 0 rfl
   have c_x1:=S.cl 0 1 rfl rfl
   have f_x1:=S.f 0 1 rfl
   have c_x2:=S.cl 0 2 rfl rfl
   have f_x2:=S.f 0 2 rfl
   have c_x3:=S.cl 0 3 rfl rfl
   have f_x3:=S.f 0 3 rfl
   have c_x4:=S.cl 0 4 rfl rfl
   have f_x4:=S.f 0 4 rfl
   have c_y0:=S.cl 1 0 rfl rfl
   have f_y0:=S.f 1 0 rfl
   have c_y1:=S.cl 1 1 rfl rfl
   have f_y1:=S.f 1 1 rfl
   have c_y2:=S.cl 1 2 rfl rfl
   have f_y2:=S.f 1 2 rfl
   have c_y3:=S.cl 1 3 rfl rfl
   have f_y3:=S.f 1 3 rfl
   have hz:w.heap.size+1<w1.heap.size:=S.lt 0 rfl
   replace S:=Lib.hid S
   go_wp2
   go_ret
   exact⟨by simp[*],S.out.bel⟩
  ·
   have S:=(((St.new w).allocAt (w.heap.size) #[.string N,.int .i64 k,.slice LA ln lc,.slice CA cn cc] 56 (noLof rfl) (by simp)).allocAt (w.heap.size+1) #[.bool true,.bool b,.slice A n c,.slice D m d,.int .i64 l] 58 (noLof rfl) (by simp))
   replace S:=Lib.hid S
   go_enter Tryz.func75,Tryz.ntmps75
   go_wp2_with fail
   refine (hZ.out _ S.out.bel).mono ?_
   rintro e w1 ⟨rfl,bb⟩
   have T:=(S.out.call bb)
   clear bb S
   have S:=T
   clear T
   have c_x0:=S.cl 0 0 rfl rfl
   have f_x0:=S.f 0 0 rfl
   have c_x1:=S.cl 0 1 rfl rfl
   have f_x1:=S.f 0 1 rfl
   have c_x2:=S.cl 0 2 rfl rfl
   have f_x2:=S.f 0 2 rfl
   have c_x3:=S.cl 0 3 rfl rfl
   have f_x3:=S.f 0 3 rfl
   have c_x4:=S.cl 0 4 rfl rfl
   have f_x4:=S.f 0 4 rfl
   have c_y0:=S.cl 1 0 rfl rfl
   have f_y0:=S.f 1 0 rfl
   have c_y1:=S.cl 1 1 rfl rfl
   have f_y1:=S.f 1 1 rfl
   have c_y2:=S.cl 1 2 rfl rfl
   have f_y2:=S.f 1 2 rfl
   have c_y3:=S.cl 1 3 rfl rfl
   have f_y3:=S.f 1 3 rfl
   have hz:w.heap.size+1<w1.heap.size:=S.lt 0 rfl
   replace S:=Lib.hid S
   go_wp2
   go_ret
   exact⟨by simp[*],S.out.bel⟩
end Go.Proofs.YtdeedofmflelfaaGreatDoor

namespace Go.Proofs.YtdeedofmflelfaaGreatDoor
open Go.RowKit RQ
set_option linter.unusedVariables false
theorem St.sub2 {w W:World} {p:GBk} {bs:List GBk} {rs:List GRd} (h:St w W (p::bs) rs):St w W bs rs:=by
 obtain⟨g,cs,t⟩:=p
 exact h.sub
set_option maxRecDepth 100000 in
set_option maxHeartbeats 4000000 in
theorem namesC1_any (x:Cl) (w:World):Calls Tryz.prog 63 #[.agg #[.string x.n,.int .i64 x.k,.slice x.lv.A x.lv.L.length x.lv.c,.slice x.ce.A x.ce.L.length x.ce.c]] w fun e w'=>e=.returned (.string x.n)∧Below w.heap.size w w':=by
 have S:=(St.new w).allocAt (w.heap.size) #[.string x.n,.int .i64 x.k,.slice x.lv.A x.lv.L.length x.lv.c,.slice x.ce.A x.ce.L.length x.ce.c] 56 (noLof rfl) (by simp)
 replace S:=Lib.hid S
 go_enter Tryz.func63,Tryz.ntmps63
 go_wp2
 go_ret
 exact⟨rfl,S.out.bel⟩
set_option maxRecDepth 100000 in
set_option maxHeartbeats 4000000 in
theorem namesC_any (L:List Cl) (A:Option Addr) (n c:Nat) (w:World) (h:LR clC w A n L) (hn:n≤100000) :
  Calls Tryz.prog 62 #[.slice A n c,.func (.func 63) #[] #[]] w fun e w'=>∃ g,e=.returned (.slice (some ⟨g,0,none⟩) n n)∧LR strC w' (some ⟨g,0,none⟩) n (L.map (·.n))∧Below w.heap.size w w':=by
 have hmk:=make_str n (by omega)
 have hV:=Lib.hid (fun x W=>namesC1_any x W)
 have S:St w _ [(w.heap.size,(strC.all (List.replicate n ByteArray.empty)).toArray,9)] []:=(St.new w).allocC strC _ w.heap.size 9 rfl
 replace S:=Lib.hid S
 have hb:=Lib.hid hn
 have hlen:=Lib.hid h.len
 replace h:=Lib.hid h
 clear hn
 go_enter Tryz.func62,Tryz.ntmps62
 go_wp2
 replace hmk:=Lib.hid hmk
 clear hmk
 go_loopw [13] (fun iv wr=>∃ (i:Nat) (K:List ByteArray),i≤n∧iv=.int .i64 i∧K.length=n∧K.take i=(L.map (·.n)).take i∧St w wr [(w.heap.size,(strC.all K).toArray,9)] []) (fun iv _=>n-(intOf iv).toNat)
 case atStart=>exact⟨0,_,Nat.zero_le _,rfl,List.length_replicate,rfl,S.out⟩
 case round=>
  clear S
  obtain⟨i,K,hin,rfl,hK,hq,S⟩:=hrel
  by_cases hlt:i<n
  ·obtain⟨b,o,x,rfl,hx,hxm,hxa,e0,e1,e2,e3⟩:=cl_get (h.out.bel S.bel) hlt
   have hih:=Lib.hid hlt
   have g1:(i:Int)<(n:Int):=by omega
   have g2:(0:Int)≤(i:Int):=by omega
   have hx2:=Lib.hid (show (L.map (·.n))[i]?=some x.n by rw[List.getElem?_map,hx];rfl)
   have S1:=S.allocAt (wr.heap.size) #[.string x.n,.int .i64 x.k,.slice x.lv.A x.lv.L.length x.lv.c,.slice x.ce.A x.ce.L.length x.ce.c] 56 (noLof rfl) rfl
   replace S1:=Lib.hid S1
   replace hq:=Lib.hid hq
   replace hK:=Lib.hid hK
   clear S hlt hin hx hxm hxa
   go_wp2_with fail
   refine (hV.out x _).mono ?_
   rintro e w1 ⟨rfl,bb⟩
   have S2:=(S1.out.call bb).sub2
   have hKi:=List.getElem?_eq_getElem (l:=K) (i:=i) (by rw[hK.out];exact hih.out)
   obtain⟨hcl,hfr⟩:=St_gcl (C:=strC) S2 hKi
   have hc0:=hcl 0 _ rfl
   rw[show strC.sz=1 from rfl,Nat.mul_one,Nat.add_zero] at hc0
   have hf0:=hfr i
   have S3:=Lib.hid (show St w (w1.setCell ⟨w.heap.size,i,none⟩ (.string x.n)) [(w.heap.size,(strC.all (K.set i x.n)).toArray,9)] [] from by
    have:=St_gset S2 x.n (i:=i) (by rw[hK.out];exact hih.out)
    simpa [wset,strC,cellC] using this)
   clear bb S1 S2 hcl hfr hKi e0 e1 e2 e3
   have hlt:=hih.out
   have hbb:=hb.out
   go_wp2
   go_roundw
   case rel=>exact⟨i+1,K.set i x.n,by omega,by go_num,by rw[List.length_set];exact hK.out,take_set_step hq.out (by rw[hK.out];exact hlt) hx2.out,S3.out⟩
   case measure=>simp[intOf];omega
  ·obtain rfl:i=n:=by omega
   have hfin:=take_fin hq hK (by rw[List.length_map];exact hlen.out)
   subst hfin
   have hR:=Lib.hid (St_glr S i hK (fun x _=>trivial))
   have hbl:=Lib.hid S.bel
   clear S hq hin hlt hK
   go_wp2
   go_ret
   exact⟨_,rfl,hR.out,hbl.out⟩
set_option maxRecDepth 100000 in
set_option maxHeartbeats 4000000 in
theorem namesF1_any (x:Fe) (w:World):Calls Tryz.prog 94 #[.agg #[.string x.n,.int .i64 x.k,.slice x.mi.A x.mi.L.length x.mi.c,.bool x.u.b,.slice x.u.x.A x.u.x.n x.u.x.c,.slice x.u.y.A x.u.y.n x.u.y.c]] w fun e w'=>e=.returned (.string x.n)∧Below w.heap.size w w':=by
 have S:=(St.new w).allocAt (w.heap.size) #[.string x.n,.int .i64 x.k,.slice x.mi.A x.mi.L.length x.mi.c,.bool x.u.b,.slice x.u.x.A x.u.x.n x.u.x.c,.slice x.u.y.A x.u.y.n x.u.y.c] 48 (noLof rfl) (by simp)
 replace S:=Lib.hid S
 go_enter Tryz.func94,Tryz.ntmps94
 go_wp2
 go_ret
 exact⟨rfl,S.out.bel⟩
set_option maxRecDepth 100000 in
set_option maxHeartbeats 4000000 in
theorem namesF_any (L:List Fe) (A:Option Addr) (n c:Nat) (w:World) (h:LR feC w A n L) (hn:n≤100000) :
  Calls Tryz.prog 93 #[.slice A n c,.func (.func 94) #[] #[]] w fun e w'=>∃ g,e=.returned (.slice (some ⟨g,0,none⟩) n n)∧LR strC w' (some ⟨g,0,none⟩) n (L.map (·.n))∧Below w.heap.size w w':=by
 have hmk:=make_str n (by omega)
 have hV:=Lib.hid (fun x W=>namesF1_any x W)
 have S:St w _ [(w.heap.size,(strC.all (List.replicate n ByteArray.empty)).toArray,9)] []:=(St.new w).allocC strC _ w.heap.size 9 rfl
 replace S:=Lib.hid S
 have hb:=Lib.hid hn
 have hlen:=Lib.hid h.len
 replace h:=Lib.hid h
 clear hn
 go_enter Tryz.func93,Tryz.ntmps93
 go_wp2
 replace hmk:=Lib.hid hmk
 clear hmk
 go_loopw [13] (fun iv wr=>∃ (i:Nat) (K:List ByteArray),i≤n∧iv=.int .i64 i∧K.length=n∧K.take i=(L.map (·.n)).take i∧St w wr [(w.heap.size,(strC.all K).toArray,9)] []) (fun iv _=>n-(intOf iv).toNat)
 case atStart=>exact⟨0,_,Nat.zero_le _,rfl,List.length_replicate,rfl,S.out⟩
 case round=>
  clear S
  obtain⟨i,K,hin,rfl,hK,hq,S⟩:=hrel
  by_cases hlt:i<n
  ·obtain⟨b,o,x,rfl,hx,hxm,hxa,e0,e1,e2,e3,e4,e5⟩:=fe_get (h.out.bel S.bel) hlt
   have hih:=Lib.hid hlt
   have g1:(i:Int)<(n:Int):=by omega
   have g2:(0:Int)≤(i:Int):=by omega
   have hx2:=Lib.hid (show (L.map (·.n))[i]?=some x.n by rw[List.getElem?_map,hx];rfl)
   have S1:=S.allocAt (wr.heap.size) #[.string x.n,.int .i64 x.k,.slice x.mi.A x.mi.L.length x.mi.c,.bool x.u.b,.slice x.u.x.A x.u.x.n x.u.x.c,.slice x.u.y.A x.u.y.n x.u.y.c] 48 (noLof rfl) rfl
   replace S1:=Lib.hid S1
   replace hq:=Lib.hid hq
   replace hK:=Lib.hid hK
   clear S hlt hin hx hxm hxa
   go_wp2_with fail
   refine (hV.out x _).mono ?_
   rintro e w1 ⟨rfl,bb⟩
   have S2:=(S1.out.call bb).sub2
   have hKi:=List.getElem?_eq_getElem (l:=K) (i:=i) (by rw[hK.out];exact hih.out)
   obtain⟨hcl,hfr⟩:=St_gcl (C:=strC) S2 hKi
   have hc0:=hcl 0 _ rfl
   rw[show strC.sz=1 from rfl,Nat.mul_one,Nat.add_zero] at hc0
   have hf0:=hfr i
   have S3:=Lib.hid (show St w (w1.setCell ⟨w.heap.size,i,none⟩ (.string x.n)) [(w.heap.size,(strC.all (K.set i x.n)).toArray,9)] [] from by
    have:=St_gset S2 x.n (i:=i) (by rw[hK.out];exact hih.out)
    simpa [wset,strC,cellC] using this)
   clear bb S1 S2 hcl hfr hKi e0 e1 e2 e3 e4 e5
   have hlt:=hih.out
   have hbb:=hb.out
   go_wp2
   go_roundw
   case rel=>exact⟨i+1,K.set i x.n,by omega,by go_num,by rw[List.length_set];exact hK.out,take_set_step hq.out (by rw[hK.out];exact hlt) hx2.out,S3.out⟩
   case measure=>simp[intOf];omega
  ·obtain rfl:i=n:=by omega
   have hfin:=take_fin hq hK (by rw[List.length_map];exact hlen.out)
   subst hfin
   have hR:=Lib.hid (St_glr S i hK (fun x _=>trivial))
   have hbl:=Lib.hid S.bel
   clear S hq hin hlt hK
   go_wp2
   go_ret
   exact⟨_,rfl,hR.out,hbl.out⟩
theorem cloneS_any (s:ByteArray) (w:World) (hs:s.size≤281474976710656):Calls Tryz.prog 45 #[.string s] w fun e w'=>e=.returned (.string s)∧Below w.heap.size w w':=by
 have hH:=Lib.hid (fun W=>Tryz.stringslite_Clone s W hs)
 go_enter Tryz.func45,Tryz.ntmps45
 go_wp2_with fail
 refine (hH.out _).mono ?_
 rintro e w' ⟨rfl,hb⟩
 replace hb:=Lib.hid hb
 go_wp2
 go_ret
 exact⟨rfl,hb.out⟩
set_option maxRecDepth 100000 in
set_option maxHeartbeats 4000000 in
theorem copyTexts_any (L:List ByteArray) (A:Option Addr) (n c:Nat) (w:World) (h:LR strC w A n L) (hn:n≤100000) (hs:∀ s∈L,s.size≤281474976710656) :
  Calls Tryz.prog 46 #[.slice A n c] w fun e w'=>∃ g,e=.returned (.slice (some ⟨g,0,none⟩) n n)∧w.heap.size≤g∧Cb w' g (strC.all L).toArray 9∧Below w.heap.size w w':=by
 have hmk:=make_str n (by omega)
 have hV:Hid (∀ x∈L,∀ W,Calls Tryz.prog 45 #[.string x] W fun e w'=>e=.returned (.string x)∧Below W.heap.size W w'):=Lib.hid (fun x hx W=>cloneS_any x W (hs x hx))
 have S:St w _ [(w.heap.size,(strC.all (List.replicate n ByteArray.empty)).toArray,9)] []:=(St.new w).allocC strC _ w.heap.size 9 rfl
 replace S:=Lib.hid S
 have hb:=Lib.hid hn
 have hlen:=Lib.hid h.len
 replace h:=Lib.hid h
 clear hn hs
 go_enter Tryz.func46,Tryz.ntmps46
 go_wp2
 replace hmk:=Lib.hid hmk
 clear hmk
 go_loopw [11] (fun iv wr=>∃ (i:Nat) (K:List ByteArray),i≤n∧iv=.int .i64 i∧K.length=n∧K.take i=L.take i∧St w wr [(w.heap.size,(strC.all K).toArray,9)] []) (fun iv _=>n-(intOf iv).toNat)
 case atStart=>exact⟨0,_,Nat.zero_le _,rfl,List.length_replicate,rfl,S.out⟩
 case round=>
  clear S
  obtain⟨i,K,hin,rfl,hK,hq,S⟩:=hrel
  by_cases hlt:i<n
  ·obtain⟨b,o,x,rfl,hx,hxm,e0⟩:=str_get (h.out.bel S.bel) hlt
   have hih:=Lib.hid hlt
   have hVx:=Lib.hid (hV.out x hxm)
   have g1:(i:Int)<(n:Int):=by omega
   have g2:(0:Int)≤(i:Int):=by omega
   replace S:=Lib.hid S
   replace hq:=Lib.hid hq
   replace hK:=Lib.hid hK
   replace hx:=Lib.hid hx
   clear hlt hin hxm
   go_wp2_with fail
   refine (hVx.out _).mono ?_
   rintro e w1 ⟨rfl,bb⟩
   have S2:=S.out.call bb
   have hKi:=List.getElem?_eq_getElem (l:=K) (i:=i) (by rw[hK.out];exact hih.out)
   obtain⟨hcl,hfr⟩:=St_gcl (C:=strC) S2 hKi
   have hc0:=hcl 0 _ rfl
   rw[show strC.sz=1 from rfl,Nat.mul_one,Nat.add_zero] at hc0
   have hf0:=hfr i
   have S3:=Lib.hid (show St w (w1.setCell ⟨w.heap.size,i,none⟩ (.string x)) [(w.heap.size,(strC.all (K.set i x)).toArray,9)] [] from by
    have:=St_gset S2 x (i:=i) (by rw[hK.out];exact hih.out)
    simpa [wset,strC,cellC] using this)
   clear bb S S2 hcl hfr hKi e0
   have hlt:=hih.out
   have hbb:=hb.out
   go_wp2
   go_roundw
   case rel=>exact⟨i+1,K.set i x,by omega,by go_num,by rw[List.length_set];exact hK.out,take_set_step hq.out (by rw[hK.out];exact hlt) hx.out,S3.out⟩
   case measure=>simp[intOf];omega
  ·obtain rfl:i=n:=by omega
   have hfin:=take_fin hq hK hlen.out
   subst hfin
   have hR:=Lib.hid (S.cb 0 rfl)
   have hbl:=Lib.hid S.bel
   clear S hq hin hlt hK
   go_wp2
   go_ret
   exact⟨_,rfl,Nat.le_refl _,hR.out,hbl.out⟩
end Go.Proofs.YtdeedofmflelfaaGreatDoor

namespace Go.Proofs.YtdeedofmflelfaaGreatDoor
open Go.RowKit RQ
set_option linter.unusedVariables false
/-- Bounds of cells and columns. -/
def LtC (c:Ce):Prop:=c.v.x.n≤200∧c.v.y.n≤200
def LtL (x:Cl):Prop:=x.n.size≤1000∧x.lv.L.length≤1000∧(∀ s∈x.lv.L,s.size≤1000)∧x.ce.L.length≤2000∧∀ c∈x.ce.L,LtC c
set_option maxRecDepth 100000 in
set_option maxHeartbeats 4000000 in
theorem isCol1_any (x:Ce) (N:ByteArray) (k:Int) (LA:Option Addr) (ln lc:Nat) (CA:Option Addr) (cn cc g t:Nat) (w:World) (hlt:g<w.heap.size) (hg:Cb w g #[.string N,.int .i64 k,.slice LA ln lc,.slice CA cn cc] t) (R1:Rd w x.v.x.A x.v.x.n x.v.x.c x.v.x.x) (R2:Rd w x.v.y.A x.v.y.n x.v.y.c x.v.y.x) (hx:LtC x) :
  Calls Tryz.prog 106 #[.agg #[.bool x.m,.bool x.v.b,.slice x.v.x.A x.v.x.n x.v.x.c,.slice x.v.y.A x.v.y.n x.v.y.c,.int .i64 x.l],.pointer (some ⟨g,0,none⟩)] w fun e w'=>e=.returned (.bool (!(fitB k ln x.cx)))∧Below w.heap.size w w':=by
 have ho:Hid (∀ W,Below w.heap.size w W→Cb W g #[.string N,.int .i64 k,.slice LA ln lc,.slice CA cn cc] t):=Lib.hid fun W h=>hg.keep (h.block g hlt)
 have hF:Hid (∀ W,Below w.heap.size w W→Calls Tryz.prog 75 #[.agg #[.string N,.int .i64 k,.slice LA ln lc,.slice CA cn cc],.agg #[.bool x.m,.bool x.v.b,.slice x.v.x.A x.v.x.n x.v.x.c,.slice x.v.y.A x.v.y.n x.v.y.c,.int .i64 x.l]] W fun e w'=>e=.returned (.bool (fitB k ln x.cx))∧Below W.heap.size W w'):=Lib.hid fun W h=>fits_any N k LA ln lc CA cn cc x.m x.v.b x.v.x.A x.v.x.n x.v.x.c x.v.x.x x.v.y.A x.v.y.n x.v.y.c x.v.y.x x.l W (R1.below h) (R2.below h) hx.1 hx.2
 generalize fitB k ln x.cx=v at *
 clear R1 R2 hx hlt hg
 have S:=((St.new w).allocAt (w.heap.size) #[.bool x.m,.bool x.v.b,.slice x.v.x.A x.v.x.n x.v.x.c,.slice x.v.y.A x.v.y.n x.v.y.c,.int .i64 x.l] 58 (noLof rfl) (by simp))
 replace S:=Lib.hid S
 have o_o0:=(ho.out _ S.out.bel).cell (i:=0) rfl
 have o_o1:=(ho.out _ S.out.bel).cell (i:=1) rfl
 have o_o2:=(ho.out _ S.out.bel).cell (i:=2) rfl
 have o_o3:=(ho.out _ S.out.bel).cell (i:=3) rfl
 go_enter Tryz.func106,Tryz.ntmps106
 go_wp2_with fail
 refine (hF.out _ S.out.bel).mono ?_
 rintro e w1 ⟨rfl,bb⟩
 have T:=(S.out.call bb)
 clear bb S o_o0 o_o1 o_o2 o_o3
 have S:=T
 clear T
 have c_x0:=S.cl 0 0 rfl rfl
 have f_x0:=S.f 0 0 rfl
 have c_x1:=S.cl 0 1 rfl rfl
 have f_x1:=S.f 0 1 rfl
 have c_x2:=S.cl 0 2 rfl rfl
 have f_x2:=S.f 0 2 rfl
 have c_x3:=S.cl 0 3 rfl rfl
 have f_x3:=S.f 0 3 rfl
 have c_x4:=S.cl 0 4 rfl rfl
 have f_x4:=S.f 0 4 rfl
 have hz:w.heap.size<w1.heap.size:=S.lt 0 rfl
 replace S:=Lib.hid S
 have o_o0:=(ho.out _ S.out.bel).cell (i:=0) rfl
 have o_o1:=(ho.out _ S.out.bel).cell (i:=1) rfl
 have o_o2:=(ho.out _ S.out.bel).cell (i:=2) rfl
 have o_o3:=(ho.out _ S.out.bel).cell (i:=3) rfl
 go_wp2
 go_ret
 exact⟨by simp,S.out.bel⟩
set_option maxRecDepth 100000 in
set_option maxHeartbeats 4000000 in
theorem ixCell_any (L:List Ce) (A:Option Addr) (n c:Nat) (k:Int) (ln g:Nat) (w:World) (h:LR ceC w A n L) (hn:n≤100000) (hP:∀ (i:Nat) (x:Ce),L[i]?=some x→∀ W,Below w.heap.size w W→Calls Tryz.prog 106 #[.agg #[.bool x.m,.bool x.v.b,.slice x.v.x.A x.v.x.n x.v.x.c,.slice x.v.y.A x.v.y.n x.v.y.c,.int .i64 x.l],.pointer (some ⟨g,0,none⟩)] W fun e w'=>e=.returned (.bool (!(fitB k ln x.cx)))∧Below W.heap.size W w') :
  Calls Tryz.prog 148 #[.slice A n c,.func (.func 106) #[] #[.pointer (some ⟨g,0,none⟩)]] w fun e w'=>(∃ z,e=.returned (.int .i64 z)∧IxF L (fun x:Ce=>!(fitB k ln x.cx)) z)∧Below w.heap.size w w':=by
 have hb:=Lib.hid hn
 have hlen:=Lib.hid h.len
 replace h:=Lib.hid h
 obtain⟨pp,hpp⟩:∃ f:Ce→Bool,f=(fun x:Ce=>!(fitB k ln x.cx)):=⟨_,rfl⟩
 have hPh:Hid (∀ (i:Nat) (x:Ce),L[i]?=some x→∀ W,Below w.heap.size w W→Calls Tryz.prog 106 #[.agg #[.bool x.m,.bool x.v.b,.slice x.v.x.A x.v.x.n x.v.x.c,.slice x.v.y.A x.v.y.n x.v.y.c,.int .i64 x.l],.pointer (some ⟨g,0,none⟩)] W fun e w'=>e=.returned (.bool (pp x))∧Below W.heap.size W w'):=Lib.hid (by rw[hpp];exact hP)
 rw[←hpp]
 clear hn hP
 replace hpp:=Lib.hid hpp
 go_enter Tryz.func148,Tryz.ntmps148
 go_wp2
 go_loopw [8] (fun iv wr=>∃ i:Nat,i≤n∧iv=.int .i64 i∧Below w.heap.size w wr∧(∀ j s,j<i→L[j]?=some s→pp s=false)) (fun iv _=>n-(intOf iv).toNat)
 case atStart=>exact⟨0,Nat.zero_le _,rfl,Below.refl _ _,fun j s h0=>absurd h0 (Nat.not_lt_zero _)⟩
 case round=>
  obtain⟨i,hin,rfl,B,hall⟩:=hrel
  by_cases hlt:i<n
  ·obtain⟨b,o,x,rfl,hx,hxm,hxa,e0,e1,e2,e3,e4⟩:=ce_get (h.out.bel B) hlt
   have hPx:=hPh.out i x hx wr B
   obtain⟨v,hv⟩:∃ v,v=pp x:=⟨_,rfl⟩
   rw[←hv] at hPx
   replace hPx:=Lib.hid hPx
   have hih:=Lib.hid hlt
   have g1:(i:Int)<(n:Int):=by omega
   have g2:(0:Int)≤(i:Int):=by omega
   replace B:=Lib.hid B
   replace hall:=Lib.hid hall
   replace hx:=Lib.hid hx
   replace hv:=Lib.hid hv
   clear hlt hin hxm
   go_wp2_with fail
   refine hPx.out.mono ?_
   rintro e w1 ⟨rfl,bb⟩
   have T:=Lib.hid (B.out.trans (bb.mono B.out.size))
   clear bb B hPx hxa e0 e1 e2 e3 e4
   cases v
   ·have hlt:=hih.out
    have hbb:=hb.out
    go_wp2
    go_roundw
    case rel=>exact⟨i+1,by omega,by go_num,T.out,fun j' s h1 h2=>(by rcases Nat.lt_or_ge j' i with h3 | h3;exact hall.out j' s h3 h2;obtain rfl:j'=i:=(by omega);rw[hx.out] at h2;injection h2 with h2;subst h2;exact hv.out.symm)⟩
    case measure=>simp[intOf];omega
   ·go_wp2
    go_ret
    exact⟨⟨_,rfl,.inr ⟨i,x,rfl,hx.out,hv.out.symm,hall.out⟩⟩,T.out⟩
  ·obtain rfl:i=n:=by omega
   have hfin:Hid (∀ r∈L,pp r=false):=Lib.hid fun r hr=>by
    obtain⟨k,hk⟩:=List.getElem?_of_mem hr
    exact hall k r (by rw[←hlen.out];exact (List.getElem?_eq_some_iff.1 hk).1) hk
   replace B:=Lib.hid B
   clear hall hin hlt
   go_wp2
   go_ret
   exact⟨⟨-1,rfl,.inl ⟨rfl,hfin.out⟩⟩,B.out⟩
set_option maxRecDepth 100000 in
set_option maxHeartbeats 4000000 in
theorem cfCell_any (L:List Ce) (A:Option Addr) (n c:Nat) (k:Int) (ln g:Nat) (w:World) (h:LR ceC w A n L) (hn:n≤100000) (hP:∀ (i:Nat) (x:Ce),L[i]?=some x→∀ W,Below w.heap.size w W→Calls Tryz.prog 106 #[.agg #[.bool x.m,.bool x.v.b,.slice x.v.x.A x.v.x.n x.v.x.c,.slice x.v.y.A x.v.y.n x.v.y.c,.int .i64 x.l],.pointer (some ⟨g,0,none⟩)] W fun e w'=>e=.returned (.bool (!(fitB k ln x.cx)))∧Below W.heap.size W w') :
  Calls Tryz.prog 105 #[.slice A n c,.func (.func 106) #[] #[.pointer (some ⟨g,0,none⟩)]] w fun e w'=>e=.returned (.bool (L.any (fun x:Ce=>!(fitB k ln x.cx))))∧Below w.heap.size w w':=by
 have hX:=Lib.hid (ixCell_any L A n c k ln g w h hn hP)
 clear h hn hP
 obtain⟨bv,hbv⟩:∃ z,z=L.any (fun x:Ce=>!(fitB k ln x.cx)):=⟨_,rfl⟩
 rw[←hbv]
 replace hbv:=Lib.hid hbv
 go_enter Tryz.func105,Tryz.ntmps105
 go_wp2_with fail
 refine hX.out.mono ?_
 rintro e w1 ⟨⟨z,rfl,hz⟩,bb⟩
 have hz2:=Lib.hid (hz.any_)
 replace bb:=Lib.hid bb
 clear hX hz
 go_wp2
 go_ret
 exact⟨by rw[hbv.out,hz2.out];rfl,bb.out⟩
theorem isEmpty_len (l:List ByteArray):l.isEmpty=((l.length:Int)==0):=by cases l<;>simp;omega
set_option maxRecDepth 100000 in
set_option maxHeartbeats 4000000 in
theorem hasLevels_any (N:ByteArray) (k:Int) (LA:Option Addr) (lc:Nat) (lv:List ByteArray) (CA:Option Addr) (cn cc:Nat) (w:World) (h:LR strC w LA lv.length lv) (hc:lv.length≤lc) (hl:lv.length≤100000):Calls Tryz.prog 104 #[.agg #[.string N,.int .i64 k,.slice LA lv.length lc,.slice CA cn cc]] w fun e w'=>e=.returned (.bool (levK k lv))∧Below w.heap.size w w':=by
 have hD:Hid (∀ W,Below w.heap.size w W→Calls Tryz.prog 84 #[.slice LA lv.length lc] W fun e w'=>e=.returned (.bool (diffB lv))∧Below W.heap.size W w'):=Lib.hid fun W hb=>(areDifferent_any lv LA lv.length lc W (h.bel hb) hl hc).mono fun e w' hh=>⟨hh.1,by rw[hh.2];exact Below.refl _ _⟩
 unfold levK
 rw[isEmpty_len]
 generalize diffB lv=v at *
 generalize lv.length=ln at *
 clear h hc hl
 cases hk1:(k==1)
 ·cases hk2:(k==2)
  ·
   have S:=((St.new w).allocAt (w.heap.size) #[.string N,.int .i64 k,.slice LA ln lc,.slice CA cn cc] 56 (noLof rfl) (by simp))
   replace S:=Lib.hid S
   go_enter Tryz.func104,Tryz.ntmps104
   go_wp2
   go_ret
   exact⟨by simp[*],S.out.bel⟩
  ·by_cases h32:ln≤32
   ·have g1:(ln:Int)≤32:=by omega
    replace h32:=Lib.hid (decide_eq_true h32)
    rw[h32.out]
    have S:=((St.new w).allocAt (w.heap.size) #[.string N,.int .i64 k,.slice LA ln lc,.slice CA cn cc] 56 (noLof rfl) (by simp))
    replace S:=Lib.hid S
    go_enter Tryz.func104,Tryz.ntmps104
    go_wp2_with fail
    refine (hD.out _ S.out.bel).mono ?_
    rintro e w1 ⟨rfl,bb⟩
    have T:=(S.out.call bb)
    clear bb S
    have S:=T
    clear T
    have c_x0:=S.cl 0 0 rfl rfl
    have f_x0:=S.f 0 0 rfl
    have c_x1:=S.cl 0 1 rfl rfl
    have f_x1:=S.f 0 1 rfl
    have c_x2:=S.cl 0 2 rfl rfl
    have f_x2:=S.f 0 2 rfl
    have c_x3:=S.cl 0 3 rfl rfl
    have f_x3:=S.f 0 3 rfl
    have hz:w.heap.size<w1.heap.size:=S.lt 0 rfl
    replace S:=Lib.hid S
    go_wp2
    go_ret
    exact⟨by simp[*],S.out.bel⟩
   ·have g1:¬ (ln:Int)≤32:=by omega
    have g2:decide ((ln:Int)≤32)=false:=decide_eq_false g1
    replace h32:=Lib.hid (decide_eq_false h32)
    rw[h32.out]
    have S:=((St.new w).allocAt (w.heap.size) #[.string N,.int .i64 k,.slice LA ln lc,.slice CA cn cc] 56 (noLof rfl) (by simp))
    replace S:=Lib.hid S
    go_enter Tryz.func104,Tryz.ntmps104
    go_wp2
    go_ret
    exact⟨by simp[*],S.out.bel⟩
 ·
  have S:=((St.new w).allocAt (w.heap.size) #[.string N,.int .i64 k,.slice LA ln lc,.slice CA cn cc] 56 (noLof rfl) (by simp))
  replace S:=Lib.hid S
  go_enter Tryz.func104,Tryz.ntmps104
  go_wp2
  go_ret
  exact⟨by simp[*],S.out.bel⟩
end Go.Proofs.YtdeedofmflelfaaGreatDoor

namespace Go.Proofs.YtdeedofmflelfaaGreatDoor
open Go.RowKit RQ
set_option linter.unusedVariables false
theorem colB_eq (x:Cl) (r:Int):colB x.lx r=(levK x.k x.lv.L&&((x.ce.L.length:Int)==r) && !(x.ce.L.any fun c=>!(fitB x.k x.lv.L.length c.cx))):=by
 unfold colB Cl.lx
 rw[any_not,List.all_map,List.length_map]
 congr 2
/-- What a column reads as, where a world comes later. -/
def ClAt (W:World) (x:Cl):Prop:=(LR strC W x.lv.A x.lv.L.length x.lv.L∧x.lv.L.length≤x.lv.c)∧LR ceC W x.ce.A x.ce.L.length x.ce.L∧x.ce.L.length≤x.ce.c
theorem ClAt.bel {W W':World} {x:Cl} (h:ClAt W x) (hb:Below W.heap.size W W'):ClAt W' x:=⟨⟨h.1.1.bel hb,h.1.2⟩,h.2.1.bel hb,h.2.2⟩
theorem ClAt.rd {W:World} {x:Cl} (h:ClAt W x) {c:Ce} (hc:c∈x.ce.L):Rd W c.v.x.A c.v.x.n c.v.x.c c.v.x.x∧Rd W c.v.y.A c.v.y.n c.v.y.c c.v.y.x:=ce_at.1 (h.2.1.el c hc)
set_option maxRecDepth 100000 in
set_option maxHeartbeats 4000000 in
theorem isColumn_any (x:Cl) (r:Int) (w:World) (H:ClAt w x) (hx:LtL x):Calls Tryz.prog 66 #[.agg #[.string x.n,.int .i64 x.k,.slice x.lv.A x.lv.L.length x.lv.c,.slice x.ce.A x.ce.L.length x.ce.c],.int .i64 r] w fun e w'=>e=.returned (.bool (colB x.lx r))∧Below w.heap.size w w':=by
 have hL:Hid (∀ W,Below w.heap.size w W→Calls Tryz.prog 104 #[.agg #[.string x.n,.int .i64 x.k,.slice x.lv.A x.lv.L.length x.lv.c,.slice x.ce.A x.ce.L.length x.ce.c]] W fun e w'=>e=.returned (.bool (levK x.k x.lv.L))∧Below W.heap.size W w'):=Lib.hid fun W hb=>hasLevels_any x.n x.k x.lv.A x.lv.c x.lv.L x.ce.A x.ce.L.length x.ce.c W (H.1.1.bel hb) H.1.2 (by have:=hx.2.1;omega)
 have hC:Hid (∀ W,Below w.heap.size w W→Cb W w.heap.size #[.string x.n,.int .i64 x.k,.slice x.lv.A x.lv.L.length x.lv.c,.slice x.ce.A x.ce.L.length x.ce.c] 56→Calls Tryz.prog 105 #[.slice x.ce.A x.ce.L.length x.ce.c,.func (.func 106) #[] #[.pointer (some ⟨w.heap.size,0,none⟩)]] W fun e w'=>e=.returned (.bool (x.ce.L.any fun c=>!(fitB x.k x.lv.L.length c.cx)))∧Below W.heap.size W w'):=Lib.hid fun W hb hg=>
  cfCell_any x.ce.L x.ce.A x.ce.L.length x.ce.c x.k x.lv.L.length w.heap.size W (H.2.1.bel hb) (by have:=hx.2.2.2.1;omega) fun i y hy W2 hb2=>
   isCol1_any y x.n x.k x.lv.A x.lv.L.length x.lv.c x.ce.A x.ce.L.length x.ce.c w.heap.size 56 W2 (Nat.lt_of_lt_of_le hg.lt hb2.size) (hg.bel hb2) (((H.rd (List.mem_of_getElem? hy)).1.below hb).below hb2) (((H.rd (List.mem_of_getElem? hy)).2.below hb).below hb2) (hx.2.2.2.2 y (List.mem_of_getElem? hy))
 rw[colB_eq]
 generalize (x.ce.L.any fun c=>!(fitB x.k x.lv.L.length c.cx))=v at *
 generalize levK x.k x.lv.L=l at *
 clear H hx
 cases l
 ·clear hC
  have S:=((St.new w).allocAt (w.heap.size) #[.string x.n,.int .i64 x.k,.slice x.lv.A x.lv.L.length x.lv.c,.slice x.ce.A x.ce.L.length x.ce.c] 56 (noLof rfl) (by simp))
  replace S:=Lib.hid S
  go_enter Tryz.func66,Tryz.ntmps66
  go_wp2_with fail
  refine (hL.out _ S.out.bel).mono ?_
  rintro e w1 ⟨rfl,bb⟩
  have T:=(S.out.call bb)
  clear bb S
  have S:=T
  clear T
  have c_x0:=S.cl 0 0 rfl rfl
  have f_x0:=S.f 0 0 rfl
  have c_x1:=S.cl 0 1 rfl rfl
  have f_x1:=S.f 0 1 rfl
  have c_x2:=S.cl 0 2 rfl rfl
  have f_x2:=S.f 0 2 rfl
  have c_x3:=S.cl 0 3 rfl rfl
  have f_x3:=S.f 0 3 rfl
  have hz:w.heap.size<w1.heap.size:=S.lt 0 rfl
  replace S:=Lib.hid S
  go_wp2
  go_ret
  exact⟨by simp[*],S.out.bel⟩
 ·cases he:((x.ce.L.length:Int)==r)
  ·clear hC
   have S:=((St.new w).allocAt (w.heap.size) #[.string x.n,.int .i64 x.k,.slice x.lv.A x.lv.L.length x.lv.c,.slice x.ce.A x.ce.L.length x.ce.c] 56 (noLof rfl) (by simp))
   replace S:=Lib.hid S
   go_enter Tryz.func66,Tryz.ntmps66
   go_wp2_with fail
   refine (hL.out _ S.out.bel).mono ?_
   rintro e w1 ⟨rfl,bb⟩
   have T:=(S.out.call bb)
   clear bb S
   have S:=T
   clear T
   have c_x0:=S.cl 0 0 rfl rfl
   have f_x0:=S.f 0 0 rfl
   have c_x1:=S.cl 0 1 rfl rfl
   have f_x1:=S.f 0 1 rfl
   have c_x2:=S.cl 0 2 rfl rfl
   have f_x2:=S.f 0 2 rfl
   have c_x3:=S.cl 0 3 rfl rfl
   have f_x3:=S.f 0 3 rfl
   have hz:w.heap.size<w1.heap.size:=S.lt 0 rfl
   replace S:=Lib.hid S
   go_wp2
   go_ret
   exact⟨by simp[*],S.out.bel⟩
  ·
   have S:=((St.new w).allocAt (w.heap.size) #[.string x.n,.int .i64 x.k,.slice x.lv.A x.lv.L.length x.lv.c,.slice x.ce.A x.ce.L.length x.ce.c] 56 (noLof rfl) (by simp))
   replace S:=Lib.hid S
   go_enter Tryz.func66,Tryz.ntmps66
   go_wp2_with fail
   refine (hL.out _ S.out.bel).mono ?_
   rintro e w1 ⟨rfl,bb⟩
   have T:=(S.out.call bb)
   clear bb S
   have S:=T
   clear T
   have c_x0:=S.cl 0 0 rfl rfl
   have f_x0:=S.f 0 0 rfl
   have c_x1:=S.cl 0 1 rfl rfl
   have f_x1:=S.f 0 1 rfl
   have c_x2:=S.cl 0 2 rfl rfl
   have f_x2:=S.f 0 2 rfl
   have c_x3:=S.cl 0 3 rfl rfl
   have f_x3:=S.f 0 3 rfl
   have hz:w.heap.size<w1.heap.size:=S.lt 0 rfl
   replace S:=Lib.hid S
   go_wp2_with fail
   refine (hC.out _ S.out.bel (S.out.cb 0 rfl)).mono ?_
   rintro e w2 ⟨rfl,bb⟩
   have T:=(S.out.call bb)
   clear bb S c_x0 f_x0 c_x1 f_x1 c_x2 f_x2 c_x3 f_x3 hz
   have S:=T
   clear T
   have c_x0:=S.cl 0 0 rfl rfl
   have f_x0:=S.f 0 0 rfl
   have c_x1:=S.cl 0 1 rfl rfl
   have f_x1:=S.f 0 1 rfl
   have c_x2:=S.cl 0 2 rfl rfl
   have f_x2:=S.f 0 2 rfl
   have c_x3:=S.cl 0 3 rfl rfl
   have f_x3:=S.f 0 3 rfl
   have hz:w.heap.size<w2.heap.size:=S.lt 0 rfl
   replace S:=Lib.hid S
   go_wp2
   go_ret
   exact⟨by simp[*],S.out.bel⟩
set_option maxRecDepth 100000 in
set_option maxHeartbeats 4000000 in
theorem val2_any (x:Cl) (r:Int) (TA:Option Addr) (tn tc g t:Nat) (w:World) (hlt:g<w.heap.size) (hg:Cb w g #[.int .i64 r,.slice TA tn tc] t) (H:ClAt w x) (hx:LtL x):Calls Tryz.prog 65 #[.agg #[.string x.n,.int .i64 x.k,.slice x.lv.A x.lv.L.length x.lv.c,.slice x.ce.A x.ce.L.length x.ce.c],.pointer (some ⟨g,0,none⟩)] w fun e w'=>e=.returned (.bool (!(colB x.lx r)))∧Below w.heap.size w w':=by
 have ho:Hid (∀ W,Below w.heap.size w W→Cb W g #[.int .i64 r,.slice TA tn tc] t):=Lib.hid fun W h=>hg.keep (h.block g hlt)
 have hF:Hid (∀ W,Below w.heap.size w W→Calls Tryz.prog 66 #[.agg #[.string x.n,.int .i64 x.k,.slice x.lv.A x.lv.L.length x.lv.c,.slice x.ce.A x.ce.L.length x.ce.c],.int .i64 r] W fun e w'=>e=.returned (.bool (colB x.lx r))∧Below W.heap.size W w'):=Lib.hid fun W h=>isColumn_any x r W (H.bel h) hx
 generalize colB x.lx r=v at *
 clear H hx hlt hg
 have S:=((St.new w).allocAt (w.heap.size) #[.string x.n,.int .i64 x.k,.slice x.lv.A x.lv.L.length x.lv.c,.slice x.ce.A x.ce.L.length x.ce.c] 56 (noLof rfl) (by simp))
 replace S:=Lib.hid S
 have o_o0:=(ho.out _ S.out.bel).cell (i:=0) rfl
 have o_o1:=(ho.out _ S.out.bel).cell (i:=1) rfl
 go_enter Tryz.func65,Tryz.ntmps65
 go_wp2_with fail
 refine (hF.out _ S.out.bel).mono ?_
 rintro e w1 ⟨rfl,bb⟩
 have T:=(S.out.call bb)
 clear bb S o_o0 o_o1
 have S:=T
 clear T
 have c_x0:=S.cl 0 0 rfl rfl
 have f_x0:=S.f 0 0 rfl
 have c_x1:=S.cl 0 1 rfl rfl
 have f_x1:=S.f 0 1 rfl
 have c_x2:=S.cl 0 2 rfl rfl
 have f_x2:=S.f 0 2 rfl
 have c_x3:=S.cl 0 3 rfl rfl
 have f_x3:=S.f 0 3 rfl
 have hz:w.heap.size<w1.heap.size:=S.lt 0 rfl
 replace S:=Lib.hid S
 have o_o0:=(ho.out _ S.out.bel).cell (i:=0) rfl
 have o_o1:=(ho.out _ S.out.bel).cell (i:=1) rfl
 go_wp2
 go_ret
 exact⟨by simp,S.out.bel⟩
set_option maxRecDepth 100000 in
set_option maxHeartbeats 4000000 in
theorem ixCol_any (L:List Cl) (A:Option Addr) (n c:Nat) (r:Int) (g:Nat) (w:World) (h:LR clC w A n L) (hn:n≤100000) (hP:∀ (i:Nat) (x:Cl),L[i]?=some x→∀ W,Below w.heap.size w W→Calls Tryz.prog 65 #[.agg #[.string x.n,.int .i64 x.k,.slice x.lv.A x.lv.L.length x.lv.c,.slice x.ce.A x.ce.L.length x.ce.c],.pointer (some ⟨g,0,none⟩)] W fun e w'=>e=.returned (.bool (!(colB x.lx r)))∧Below W.heap.size W w') :
  Calls Tryz.prog 102 #[.slice A n c,.func (.func 65) #[] #[.pointer (some ⟨g,0,none⟩)]] w fun e w'=>(∃ z,e=.returned (.int .i64 z)∧IxF L (fun x:Cl=>!(colB x.lx r)) z)∧Below w.heap.size w w':=by
 have hb:=Lib.hid hn
 have hlen:=Lib.hid h.len
 replace h:=Lib.hid h
 obtain⟨pp,hpp⟩:∃ f:Cl→Bool,f=(fun x:Cl=>!(colB x.lx r)):=⟨_,rfl⟩
 have hPh:Hid (∀ (i:Nat) (x:Cl),L[i]?=some x→∀ W,Below w.heap.size w W→Calls Tryz.prog 65 #[.agg #[.string x.n,.int .i64 x.k,.slice x.lv.A x.lv.L.length x.lv.c,.slice x.ce.A x.ce.L.length x.ce.c],.pointer (some ⟨g,0,none⟩)] W fun e w'=>e=.returned (.bool (pp x))∧Below W.heap.size W w'):=Lib.hid (by rw[hpp];exact hP)
 rw[←hpp]
 clear hn hP
 replace hpp:=Lib.hid hpp
 go_enter Tryz.func102,Tryz.ntmps102
 go_wp2
 go_loopw [8] (fun iv wr=>∃ i:Nat,i≤n∧iv=.int .i64 i∧Below w.heap.size w wr∧(∀ j s,j<i→L[j]?=some s→pp s=false)) (fun iv _=>n-(intOf iv).toNat)
 case atStart=>exact⟨0,Nat.zero_le _,rfl,Below.refl _ _,fun j s h0=>absurd h0 (Nat.not_lt_zero _)⟩
 case round=>
  obtain⟨i,hin,rfl,B,hall⟩:=hrel
  by_cases hlt:i<n
  ·obtain⟨b,o,x,rfl,hx,hxm,hxa,e0,e1,e2,e3⟩:=cl_get (h.out.bel B) hlt
   have hPx:=hPh.out i x hx wr B
   obtain⟨v,hv⟩:∃ v,v=pp x:=⟨_,rfl⟩
   rw[←hv] at hPx
   replace hPx:=Lib.hid hPx
   have hih:=Lib.hid hlt
   have g1:(i:Int)<(n:Int):=by omega
   have g2:(0:Int)≤(i:Int):=by omega
   replace B:=Lib.hid B
   replace hall:=Lib.hid hall
   replace hx:=Lib.hid hx
   replace hv:=Lib.hid hv
   clear hlt hin hxm
   go_wp2_with fail
   refine hPx.out.mono ?_
   rintro e w1 ⟨rfl,bb⟩
   have T:=Lib.hid (B.out.trans (bb.mono B.out.size))
   clear bb B hPx hxa e0 e1 e2 e3
   cases v
   ·have hlt:=hih.out
    have hbb:=hb.out
    go_wp2
    go_roundw
    case rel=>exact⟨i+1,by omega,by go_num,T.out,fun j' s h1 h2=>(by rcases Nat.lt_or_ge j' i with h3 | h3;exact hall.out j' s h3 h2;obtain rfl:j'=i:=(by omega);rw[hx.out] at h2;injection h2 with h2;subst h2;exact hv.out.symm)⟩
    case measure=>simp[intOf];omega
   ·go_wp2
    go_ret
    exact⟨⟨_,rfl,.inr ⟨i,x,rfl,hx.out,hv.out.symm,hall.out⟩⟩,T.out⟩
  ·obtain rfl:i=n:=by omega
   have hfin:Hid (∀ r∈L,pp r=false):=Lib.hid fun r hr=>by
    obtain⟨k,hk⟩:=List.getElem?_of_mem hr
    exact hall k r (by rw[←hlen.out];exact (List.getElem?_eq_some_iff.1 hk).1) hk
   replace B:=Lib.hid B
   clear hall hin hlt
   go_wp2
   go_ret
   exact⟨⟨-1,rfl,.inl ⟨rfl,hfin.out⟩⟩,B.out⟩
set_option maxRecDepth 100000 in
set_option maxHeartbeats 4000000 in
theorem cfCol_any (L:List Cl) (A:Option Addr) (n c:Nat) (r:Int) (g:Nat) (w:World) (h:LR clC w A n L) (hn:n≤100000) (hP:∀ (i:Nat) (x:Cl),L[i]?=some x→∀ W,Below w.heap.size w W→Calls Tryz.prog 65 #[.agg #[.string x.n,.int .i64 x.k,.slice x.lv.A x.lv.L.length x.lv.c,.slice x.ce.A x.ce.L.length x.ce.c],.pointer (some ⟨g,0,none⟩)] W fun e w'=>e=.returned (.bool (!(colB x.lx r)))∧Below W.heap.size W w') :
  Calls Tryz.prog 64 #[.slice A n c,.func (.func 65) #[] #[.pointer (some ⟨g,0,none⟩)]] w fun e w'=>e=.returned (.bool (L.any (fun x:Cl=>!(colB x.lx r))))∧Below w.heap.size w w':=by
 have hX:=Lib.hid (ixCol_any L A n c r g w h hn hP)
 clear h hn hP
 obtain⟨bv,hbv⟩:∃ z,z=L.any (fun x:Cl=>!(colB x.lx r)):=⟨_,rfl⟩
 rw[←hbv]
 replace hbv:=Lib.hid hbv
 go_enter Tryz.func64,Tryz.ntmps64
 go_wp2_with fail
 refine hX.out.mono ?_
 rintro e w1 ⟨⟨z,rfl,hz⟩,bb⟩
 have hz2:=Lib.hid (hz.any_)
 replace bb:=Lib.hid bb
 clear hX hz
 go_wp2
 go_ret
 exact⟨by rw[hbv.out,hz2.out];rfl,bb.out⟩
theorem tab_parts {r:Int} {T:List Lx} (h:tabB r T=true):0≤r∧r≤1024∧T.length≤32∧namesB (T.map (·.n))=true∧T.all (colB · r)=true:=by
 unfold tabB at h
 simp only[Bool.and_eq_true,decide_eq_true_eq] at h
 exact⟨h.1.1.1.1,h.1.1.1.2,h.1.1.2,h.1.2,h.2⟩
theorem tab_mk {r:Int} {T:List Lx} (h:0≤r∧r≤1024∧T.length≤32∧namesB (T.map (·.n))=true∧T.all (colB · r)=true):tabB r T=true:=by
 unfold tabB
 simp only[Bool.and_eq_true,decide_eq_true_eq]
 exact⟨⟨⟨⟨h.1,h.2.1⟩,h.2.2.1⟩,h.2.2.2.1⟩,h.2.2.2.2⟩
set_option maxRecDepth 100000 in
set_option maxHeartbeats 4000000 in
theorem valid_yes (L:List Cl) (r:Int) (A:Option Addr) (n c:Nat) (w:World) (h:LR clC w A n L) (hx:∀ x∈L,LtL x) (hv:tabB r (L.map Cl.lx)=true):Calls Tryz.prog 22 #[.agg #[.int .i64 r,.slice A n c]] w fun e w'=>e=.returned (.bool (true))∧Below w.heap.size w w':=by
 obtain⟨v1,v2,v3,v4,v5⟩:=tab_parts hv
 rw[List.length_map,h.len] at v3
 rw[List.map_map] at v4
 have g1:¬ r<0:=by omega
 have g2:¬ 1024<r:=by omega
 have g3:¬ (32:Int)<(n:Int):=by omega
 have g4:decide (r<0)=false:=decide_eq_false g1
 have g5:decide (1024<r)=false:=decide_eq_false g2
 have hN:Hid (∀ W,Below w.heap.size w W→Calls Tryz.prog 62 #[.slice A n c,.func (.func 63) #[] #[]] W fun e w'=>∃ g,e=.returned (.slice (some ⟨g,0,none⟩) n n)∧LR strC w' (some ⟨g,0,none⟩) n (L.map (·.n))∧Below W.heap.size W w'):=Lib.hid fun W hb=>namesC_any L A n c W (h.bel hb) (by omega)
 have hA:Hid (∀ W g,LR strC W (some ⟨g,0,none⟩) n (L.map (·.n))→Calls Tryz.prog 43 #[.slice (some ⟨g,0,none⟩) n n] W fun e w'=>e=.returned (.bool true)∧Below W.heap.size W w'):=Lib.hid fun W g hR=>by
  have:=areNames_any (L.map (·.n)) (some ⟨g,0,none⟩) n n W hR (by omega) (Nat.le_refl _)
  rwa [show namesB (L.map (·.n))=true from v4] at this
 have hC:Hid (∀ W,Below w.heap.size w W→Cb W w.heap.size #[.int .i64 r,.slice A n c] 37→Calls Tryz.prog 64 #[.slice A n c,.func (.func 65) #[] #[.pointer (some ⟨w.heap.size,0,none⟩)]] W fun e w'=>e=.returned (.bool false)∧Below W.heap.size W w'):=Lib.hid fun W hb hg=>by
  have:=cfCol_any L A n c r w.heap.size W (h.bel hb) (by omega) fun i x hi W2 hb2=>val2_any x r A n c w.heap.size 37 W2 (Nat.lt_of_lt_of_le hg.lt hb2.size) (hg.bel hb2) (cl_at.1 (((h.bel hb).bel hb2).el x (List.mem_of_getElem? hi))) (hx x (List.mem_of_getElem? hi))
  have e:(L.any fun x=>!(colB x.lx r))=false:=by
   rw[List.all_map] at v5
   have:=any_not L (fun x=>colB x.lx r)
   rw[show L.all (fun x=>colB x.lx r)=true from v5] at this
   cases hh:(L.any fun x=>!(colB x.lx r))
   ·rfl
   ·rw[hh] at this;cases this
  rwa [e] at this
 clear h hx hv v1 v2 v3 v4 v5
 have S:=((St.new w).allocAt (w.heap.size) #[.int .i64 r,.slice A n c] 37 (noLof rfl) (by simp))
 replace S:=Lib.hid S
 go_enter Tryz.func22,Tryz.ntmps22
 go_wp2_with fail
 refine (hN.out _ S.out.bel).mono ?_
 rintro e w1 ⟨g,rfl,hR,bb⟩
 have T:=(S.out.call bb)
 clear bb S
 have S:=T
 clear T
 replace hR:=Lib.hid hR
 obtain⟨c_t0,c_t1,f_t0,f_t1⟩:=S.cf2 0 rfl
 have hz:w.heap.size<w1.heap.size:=S.lt 0 rfl
 replace S:=Lib.hid S
 go_wp2_with fail
 refine (hA.out _ g (hR.out)).mono ?_
 rintro e w2 ⟨rfl,bb⟩
 have T:=(S.out.call bb)
 clear bb S c_t0 f_t0 c_t1 f_t1 hz
 have S:=T
 clear T
 obtain⟨c_t0,c_t1,f_t0,f_t1⟩:=S.cf2 0 rfl
 have hz:w.heap.size<w2.heap.size:=S.lt 0 rfl
 replace S:=Lib.hid S
 go_wp2_with fail
 refine (hC.out _ S.out.bel (S.out.cb 0 rfl)).mono ?_
 rintro e w3 ⟨rfl,bb⟩
 have T:=(S.out.call bb)
 clear bb S c_t0 f_t0 c_t1 f_t1 hz
 have S:=T
 clear T
 obtain⟨c_t0,c_t1,f_t0,f_t1⟩:=S.cf2 0 rfl
 have hz:w.heap.size<w3.heap.size:=S.lt 0 rfl
 replace S:=Lib.hid S
 go_wp2
 go_ret
 exact⟨rfl,S.out.bel⟩
end Go.Proofs.YtdeedofmflelfaaGreatDoor

namespace Go.Proofs.YtdeedofmflelfaaGreatDoor
open Go.RowKit RQ
set_option linter.unusedVariables false
set_option maxRecDepth 100000 in
set_option maxHeartbeats 4000000 in
theorem chk1_any (z u:Int) (g t:Nat) (w:World) (hlt:g<w.heap.size) (hg:Cb w g #[.int .i64 u] t):Calls Tryz.prog 117 #[.int .i64 z,.pointer (some ⟨g,0,none⟩)] w fun e w'=>e=.returned (.bool (decide (z<0)||decide (u≤z)))∧Below w.heap.size w w':=by
 have ho:Hid (∀ W,Below w.heap.size w W→Cb W g #[.int .i64 u] t):=Lib.hid fun W h=>hg.keep (h.block g hlt)
 clear hlt hg
 by_cases h1:z<0
 ·
  have S:=(St.new w)
  replace S:=Lib.hid S
  have o_o0:=(ho.out _ S.out.bel).cell (i:=0) rfl
  go_enter Tryz.func117,Tryz.ntmps117
  go_wp2
  go_ret
  exact⟨by simp[*],S.out.bel⟩
 ·have h2:decide (z<0)=false:=decide_eq_false h1
  by_cases h3:u≤z
  ·
   have S:=(St.new w)
   replace S:=Lib.hid S
   have o_o0:=(ho.out _ S.out.bel).cell (i:=0) rfl
   go_enter Tryz.func117,Tryz.ntmps117
   go_wp2
   go_ret
   exact⟨by simp[*],S.out.bel⟩
  ·have h4:decide (u≤z)=false:=decide_eq_false h3
   have S:=(St.new w)
   replace S:=Lib.hid S
   have o_o0:=(ho.out _ S.out.bel).cell (i:=0) rfl
   go_enter Tryz.func117,Tryz.ntmps117
   go_wp2
   go_ret
   exact⟨by simp[*],S.out.bel⟩
set_option maxRecDepth 100000 in
set_option maxHeartbeats 4000000 in
theorem ixInt_any (L:List Int) (A:Option Addr) (n c:Nat) (u:Int) (g:Nat) (w:World) (h:LR intC w A n L) (hn:n≤100000) (hP:∀ (i:Nat) (x:Int),L[i]?=some x→∀ W,Below w.heap.size w W→Calls Tryz.prog 117 #[.int .i64 x,.pointer (some ⟨g,0,none⟩)] W fun e w'=>e=.returned (.bool (decide (x<0)||decide (u≤x)))∧Below W.heap.size W w') :
  Calls Tryz.prog 152 #[.slice A n c,.func (.func 117) #[] #[.pointer (some ⟨g,0,none⟩)]] w fun e w'=>(∃ z,e=.returned (.int .i64 z)∧IxF L (fun x:Int=>decide (x<0)||decide (u≤x)) z)∧Below w.heap.size w w':=by
 have hb:=Lib.hid hn
 have hlen:=Lib.hid h.len
 replace h:=Lib.hid h
 obtain⟨pp,hpp⟩:∃ f:Int→Bool,f=(fun x:Int=>decide (x<0)||decide (u≤x)):=⟨_,rfl⟩
 have hPh:Hid (∀ (i:Nat) (x:Int),L[i]?=some x→∀ W,Below w.heap.size w W→Calls Tryz.prog 117 #[.int .i64 x,.pointer (some ⟨g,0,none⟩)] W fun e w'=>e=.returned (.bool (pp x))∧Below W.heap.size W w'):=Lib.hid (by rw[hpp];exact hP)
 rw[←hpp]
 clear hn hP
 replace hpp:=Lib.hid hpp
 go_enter Tryz.func152,Tryz.ntmps152
 go_wp2
 go_loopw [8] (fun iv wr=>∃ i:Nat,i≤n∧iv=.int .i64 i∧Below w.heap.size w wr∧(∀ j s,j<i→L[j]?=some s→pp s=false)) (fun iv _=>n-(intOf iv).toNat)
 case atStart=>exact⟨0,Nat.zero_le _,rfl,Below.refl _ _,fun j s h0=>absurd h0 (Nat.not_lt_zero _)⟩
 case round=>
  obtain⟨i,hin,rfl,B,hall⟩:=hrel
  by_cases hlt:i<n
  ·obtain⟨b,o,x,rfl,hx,hxm,e0⟩:=int_get (h.out.bel B) hlt
   have hPx:=hPh.out i x hx wr B
   obtain⟨v,hv⟩:∃ v,v=pp x:=⟨_,rfl⟩
   rw[←hv] at hPx
   replace hPx:=Lib.hid hPx
   have hih:=Lib.hid hlt
   have g1:(i:Int)<(n:Int):=by omega
   have g2:(0:Int)≤(i:Int):=by omega
   replace B:=Lib.hid B
   replace hall:=Lib.hid hall
   replace hx:=Lib.hid hx
   replace hv:=Lib.hid hv
   clear hlt hin hxm
   go_wp2_with fail
   refine hPx.out.mono ?_
   rintro e w1 ⟨rfl,bb⟩
   have T:=Lib.hid (B.out.trans (bb.mono B.out.size))
   clear bb B hPx e0
   cases v
   ·have hlt:=hih.out
    have hbb:=hb.out
    go_wp2
    go_roundw
    case rel=>exact⟨i+1,by omega,by go_num,T.out,fun j' s h1 h2=>(by rcases Nat.lt_or_ge j' i with h3 | h3;exact hall.out j' s h3 h2;obtain rfl:j'=i:=(by omega);rw[hx.out] at h2;injection h2 with h2;subst h2;exact hv.out.symm)⟩
    case measure=>simp[intOf];omega
   ·go_wp2
    go_ret
    exact⟨⟨_,rfl,.inr ⟨i,x,rfl,hx.out,hv.out.symm,hall.out⟩⟩,T.out⟩
  ·obtain rfl:i=n:=by omega
   have hfin:Hid (∀ r∈L,pp r=false):=Lib.hid fun r hr=>by
    obtain⟨k,hk⟩:=List.getElem?_of_mem hr
    exact hall k r (by rw[←hlen.out];exact (List.getElem?_eq_some_iff.1 hk).1) hk
   replace B:=Lib.hid B
   clear hall hin hlt
   go_wp2
   go_ret
   exact⟨⟨-1,rfl,.inl ⟨rfl,hfin.out⟩⟩,B.out⟩
set_option maxRecDepth 100000 in
set_option maxHeartbeats 4000000 in
theorem cfInt_any (L:List Int) (A:Option Addr) (n c:Nat) (u:Int) (g:Nat) (w:World) (h:LR intC w A n L) (hn:n≤100000) (hP:∀ (i:Nat) (x:Int),L[i]?=some x→∀ W,Below w.heap.size w W→Calls Tryz.prog 117 #[.int .i64 x,.pointer (some ⟨g,0,none⟩)] W fun e w'=>e=.returned (.bool (decide (x<0)||decide (u≤x)))∧Below W.heap.size W w') :
  Calls Tryz.prog 116 #[.slice A n c,.func (.func 117) #[] #[.pointer (some ⟨g,0,none⟩)]] w fun e w'=>e=.returned (.bool (L.any (fun x:Int=>decide (x<0)||decide (u≤x))))∧Below w.heap.size w w':=by
 have hX:=Lib.hid (ixInt_any L A n c u g w h hn hP)
 clear h hn hP
 obtain⟨bv,hbv⟩:∃ z,z=L.any (fun x:Int=>decide (x<0)||decide (u≤x)):=⟨_,rfl⟩
 rw[←hbv]
 replace hbv:=Lib.hid hbv
 go_enter Tryz.func116,Tryz.ntmps116
 go_wp2_with fail
 refine hX.out.mono ?_
 rintro e w1 ⟨⟨z,rfl,hz⟩,bb⟩
 have hz2:=Lib.hid (hz.any_)
 replace bb:=Lib.hid bb
 clear hX hz
 go_wp2
 go_ret
 exact⟨by rw[hbv.out,hz2.out];rfl,bb.out⟩
set_option maxRecDepth 100000 in
set_option maxHeartbeats 4000000 in
theorem check_ok (L:List Cl) (r:Int) (A:Option Addr) (n c:Nat) (u:Int) (M:List Int) (MA:Option Addr) (mn mc:Nat) (w:World) (h:LR clC w A n L) (hx:∀ x∈L,LtL x) (hv:tabB r (L.map Cl.lx)=true) (hM:LR intC w MA mn M) (hmn:mn≤100000) (hin:∀ z∈M,0≤z∧z<u):Calls Tryz.prog 74 #[.agg #[.int .i64 r,.slice A n c],.int .i64 u,.slice MA mn mc] w fun e w'=>e=.returned (.int .i64 0)∧Below w.heap.size w w':=by
 have hV:Hid (∀ W,Below w.heap.size w W→Calls Tryz.prog 22 #[.agg #[.int .i64 r,.slice A n c]] W fun e w'=>e=.returned (.bool true)∧Below W.heap.size W w'):=Lib.hid fun W hb=>valid_yes L r A n c W (h.bel hb) hx hv
 have hC:Hid (∀ W,Below w.heap.size w W→Cb W (w.heap.size+1) #[.int .i64 u] 3→Calls Tryz.prog 116 #[.slice MA mn mc,.func (.func 117) #[] #[.pointer (some ⟨w.heap.size+1,0,none⟩)]] W fun e w'=>e=.returned (.bool false)∧Below W.heap.size W w'):=Lib.hid fun W hb hg=>by
  have:=cfInt_any M MA mn mc u (w.heap.size+1) W (hM.bel hb) hmn fun i x hi W2 hb2=>chk1_any x u (w.heap.size+1) 3 W2 (Nat.lt_of_lt_of_le hg.lt hb2.size) (hg.bel hb2)
  have e:(M.any fun x=>decide (x<0)||decide (u≤x))=false:=by
   rw[List.any_eq_false]
   intro x hxm
   have:=hin x hxm
   simp;omega
  rwa [e] at this
 clear h hx hv hM hmn hin
 have S:=(((St.new w).allocAt (w.heap.size) #[.int .i64 r,.slice A n c] 37 (noLof rfl) (by simp)).allocAt (w.heap.size+1) #[.int .i64 u] 3 (noLof rfl) (by simp))
 replace S:=Lib.hid S
 go_enter Tryz.func74,Tryz.ntmps74
 go_wp2_with fail
 refine (hV.out _ S.out.bel).mono ?_
 rintro e w1 ⟨rfl,bb⟩
 have T:=(S.out.call bb)
 clear bb S
 have S:=T
 clear T
 have c_u0:=S.cl 0 0 rfl rfl
 have f_u0:=S.f 0 0 rfl
 obtain⟨c_t0,c_t1,f_t0,f_t1⟩:=S.cf2 1 rfl
 have hz:w.heap.size+1<w1.heap.size:=S.lt 0 rfl
 replace S:=Lib.hid S
 go_wp2_with fail
 refine (hC.out _ S.out.bel (S.out.cb 0 rfl)).mono ?_
 rintro e w2 ⟨rfl,bb⟩
 have T:=(S.out.call bb)
 clear bb S c_u0 f_u0 c_t0 f_t0 c_t1 f_t1 hz
 have S:=T
 clear T
 have c_u0:=S.cl 0 0 rfl rfl
 have f_u0:=S.f 0 0 rfl
 obtain⟨c_t0,c_t1,f_t0,f_t1⟩:=S.cf2 1 rfl
 have hz:w.heap.size+1<w2.heap.size:=S.lt 0 rfl
 replace S:=Lib.hid S
 go_wp2
 go_ret
 exact⟨rfl,S.out.bel⟩
set_option maxRecDepth 100000 in
set_option maxHeartbeats 4000000 in
theorem fnd1_any (x:Cl) (s:ByteArray) (g t:Nat) (w:World) (hlt:g<w.heap.size) (hg:Cb w g #[.string s] t):Calls Tryz.prog 121 #[.agg #[.string x.n,.int .i64 x.k,.slice x.lv.A x.lv.L.length x.lv.c,.slice x.ce.A x.ce.L.length x.ce.c],.pointer (some ⟨g,0,none⟩)] w fun e w'=>e=.returned (.bool (seB x.n s))∧Below w.heap.size w w':=by
 have ho:Hid (∀ W,Below w.heap.size w W→Cb W g #[.string s] t):=Lib.hid fun W h=>hg.keep (h.block g hlt)
 clear hlt hg
 have S:=((St.new w).allocAt (w.heap.size) #[.string x.n,.int .i64 x.k,.slice x.lv.A x.lv.L.length x.lv.c,.slice x.ce.A x.ce.L.length x.ce.c] 56 (noLof rfl) (by simp))
 replace S:=Lib.hid S
 have o_o0:=(ho.out _ S.out.bel).cell (i:=0) rfl
 go_enter Tryz.func121,Tryz.ntmps121
 go_wp2
 go_ret
 exact⟨rfl,S.out.bel⟩
set_option maxRecDepth 100000 in
set_option maxHeartbeats 4000000 in
theorem ixFnd_any (L:List Cl) (A:Option Addr) (n c:Nat) (nm:ByteArray) (g:Nat) (w:World) (h:LR clC w A n L) (hn:n≤100000) (hP:∀ (i:Nat) (x:Cl),L[i]?=some x→∀ W,Below w.heap.size w W→Calls Tryz.prog 121 #[.agg #[.string x.n,.int .i64 x.k,.slice x.lv.A x.lv.L.length x.lv.c,.slice x.ce.A x.ce.L.length x.ce.c],.pointer (some ⟨g,0,none⟩)] W fun e w'=>e=.returned (.bool (seB x.n nm))∧Below W.heap.size W w') :
  Calls Tryz.prog 102 #[.slice A n c,.func (.func 121) #[] #[.pointer (some ⟨g,0,none⟩)]] w fun e w'=>(∃ z,e=.returned (.int .i64 z)∧IxF L (fun x:Cl=>seB x.n nm) z)∧Below w.heap.size w w':=by
 have hb:=Lib.hid hn
 have hlen:=Lib.hid h.len
 replace h:=Lib.hid h
 obtain⟨pp,hpp⟩:∃ f:Cl→Bool,f=(fun x:Cl=>seB x.n nm):=⟨_,rfl⟩
 have hPh:Hid (∀ (i:Nat) (x:Cl),L[i]?=some x→∀ W,Below w.heap.size w W→Calls Tryz.prog 121 #[.agg #[.string x.n,.int .i64 x.k,.slice x.lv.A x.lv.L.length x.lv.c,.slice x.ce.A x.ce.L.length x.ce.c],.pointer (some ⟨g,0,none⟩)] W fun e w'=>e=.returned (.bool (pp x))∧Below W.heap.size W w'):=Lib.hid (by rw[hpp];exact hP)
 rw[←hpp]
 clear hn hP
 replace hpp:=Lib.hid hpp
 go_enter Tryz.func102,Tryz.ntmps102
 go_wp2
 go_loopw [8] (fun iv wr=>∃ i:Nat,i≤n∧iv=.int .i64 i∧Below w.heap.size w wr∧(∀ j s,j<i→L[j]?=some s→pp s=false)) (fun iv _=>n-(intOf iv).toNat)
 case atStart=>exact⟨0,Nat.zero_le _,rfl,Below.refl _ _,fun j s h0=>absurd h0 (Nat.not_lt_zero _)⟩
 case round=>
  obtain⟨i,hin,rfl,B,hall⟩:=hrel
  by_cases hlt:i<n
  ·obtain⟨b,o,x,rfl,hx,hxm,hxa,e0,e1,e2,e3⟩:=cl_get (h.out.bel B) hlt
   have hPx:=hPh.out i x hx wr B
   obtain⟨v,hv⟩:∃ v,v=pp x:=⟨_,rfl⟩
   rw[←hv] at hPx
   replace hPx:=Lib.hid hPx
   have hih:=Lib.hid hlt
   have g1:(i:Int)<(n:Int):=by omega
   have g2:(0:Int)≤(i:Int):=by omega
   replace B:=Lib.hid B
   replace hall:=Lib.hid hall
   replace hx:=Lib.hid hx
   replace hv:=Lib.hid hv
   clear hlt hin hxm
   go_wp2_with fail
   refine hPx.out.mono ?_
   rintro e w1 ⟨rfl,bb⟩
   have T:=Lib.hid (B.out.trans (bb.mono B.out.size))
   clear bb B hPx hxa e0 e1 e2 e3
   cases v
   ·have hlt:=hih.out
    have hbb:=hb.out
    go_wp2
    go_roundw
    case rel=>exact⟨i+1,by omega,by go_num,T.out,fun j' s h1 h2=>(by rcases Nat.lt_or_ge j' i with h3 | h3;exact hall.out j' s h3 h2;obtain rfl:j'=i:=(by omega);rw[hx.out] at h2;injection h2 with h2;subst h2;exact hv.out.symm)⟩
    case measure=>simp[intOf];omega
   ·go_wp2
    go_ret
    exact⟨⟨_,rfl,.inr ⟨i,x,rfl,hx.out,hv.out.symm,hall.out⟩⟩,T.out⟩
  ·obtain rfl:i=n:=by omega
   have hfin:Hid (∀ r∈L,pp r=false):=Lib.hid fun r hr=>by
    obtain⟨k,hk⟩:=List.getElem?_of_mem hr
    exact hall k r (by rw[←hlen.out];exact (List.getElem?_eq_some_iff.1 hk).1) hk
   replace B:=Lib.hid B
   clear hall hin hlt
   go_wp2
   go_ret
   exact⟨⟨-1,rfl,.inl ⟨rfl,hfin.out⟩⟩,B.out⟩
set_option maxRecDepth 100000 in
set_option maxHeartbeats 4000000 in
theorem find_any (L:List Cl) (r:Int) (A:Option Addr) (n c:Nat) (nm:ByteArray) (w:World) (h:LR clC w A n L) (hn:n≤100000):Calls Tryz.prog 81 #[.agg #[.int .i64 r,.slice A n c],.string nm] w fun e w'=>(∃ z,e=.returned (.int .i64 z)∧IxF L (fun x=>seB x.n nm) z)∧Below w.heap.size w w':=by
 have hC:Hid (∀ W,Below w.heap.size w W→Cb W (w.heap.size+1) #[.string nm] 9→Calls Tryz.prog 102 #[.slice A n c,.func (.func 121) #[] #[.pointer (some ⟨w.heap.size+1,0,none⟩)]] W fun e w'=>(∃ z,e=.returned (.int .i64 z)∧IxF L (fun x=>seB x.n nm) z)∧Below W.heap.size W w'):=Lib.hid fun W hb hg=>
  ixFnd_any L A n c nm (w.heap.size+1) W (h.bel hb) hn fun i x hi W2 hb2=>fnd1_any x nm (w.heap.size+1) 9 W2 (Nat.lt_of_lt_of_le hg.lt hb2.size) (hg.bel hb2)
 clear h hn
 have S:=(((St.new w).allocAt (w.heap.size) #[.int .i64 r,.slice A n c] 37 (noLof rfl) (by simp)).allocAt (w.heap.size+1) #[.string nm] 9 (noLof rfl) (by simp))
 replace S:=Lib.hid S
 go_enter Tryz.func81,Tryz.ntmps81
 go_wp2_with fail
 refine (hC.out _ S.out.bel (S.out.cb 0 rfl)).mono ?_
 rintro e w1 ⟨⟨z,rfl,hz⟩,bb⟩
 have T:=(S.out.call bb)
 clear bb S
 have S:=T
 clear T
 have c_s0:=S.cl 0 0 rfl rfl
 have f_s0:=S.f 0 0 rfl
 obtain⟨c_t0,c_t1,f_t0,f_t1⟩:=S.cf2 1 rfl
 have hzz:w.heap.size+1<w1.heap.size:=S.lt 0 rfl
 replace S:=Lib.hid S
 replace hz:=Lib.hid hz
 go_wp2
 go_ret
 exact⟨⟨z,rfl,hz.out⟩,S.out.bel⟩
end Go.Proofs.YtdeedofmflelfaaGreatDoor
