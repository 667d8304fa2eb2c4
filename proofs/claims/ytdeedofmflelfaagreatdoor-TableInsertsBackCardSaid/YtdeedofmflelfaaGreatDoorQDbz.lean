/- Values that came in, read as lists. What the rows' condition on the listed variables gives: the table of powers of ten; a start that meets it. -/
import Derived.Test.YtdeedofmflelfaaGreatDoorRows
import Derived.Test.YtdeedofmflelfaaGreatDoorQLgz
import Derived.Test.YtdeedofmflelfaaGreatDoorQWjz
import Derived.WalkKit
import Derived.ProofKit
import Derived.OpenShut
import Derived.ShutString
import Derived.ChangeOld
import Derived.Below
import Derived.Lib.SmallJoins
import Derived.LaidMore
import Derived.Stop.Joined
import Derived.Stop.LaidErr
import Derived.Lay
namespace Go.Proofs.YtdeedofmflelfaaGreatDoor
open Go.ChangeShapes Go.WideShapes Go.ChangeAt Go.RowKit Go.Joins Go.Deep RQ
set_option linter.unusedVariables false
/-- What comes in as this type reads as one of these. -/
def Opn {α:Type} (t:TypeId) (C:Cod α):Prop:=∀ {H:Type} {enc:TypeId×Value→H} {W:World} {n:Nat} {cs:List Value} {x:DataW H×List MemPlace},DataW.trod enc Tryz.prog W 0 (fun _=>true) true n t cs=some x→∃ a:α,cs=C.cs a∧C.At W a
theorem cells_get8 {w:World} {base:Nat} {a:Addr} {n:Nat} {cs:List Value} (h:w.cells? base a n=some cs):cs.length=n∧∀ i,i<n→w.cell? (a.add i)=cs[i]?:=by
 unfold World.cells? at h
 split at h
 ·exact⟨by simpa using mapM_some_length h,fun i hi=>mapM_some_get h i i (by simp[hi])⟩
 ·cases h
theorem spot_none8 {w:World} {a:Addr} {v:Value} (h:w.cell? a=some v):a=⟨a.block,a.off,none⟩∧a.block<w.heap.size:=by
 obtain⟨b,o,s⟩:=a
 unfold World.cell? at h
 split at h
 ·rename_i hb
  cases s with
  | none=>exact⟨rfl,(Array.getElem?_eq_some_iff.1 hb).1⟩
  | some z=>simp at h
 ·cases h
theorem add_n8 (b o k:Nat):(⟨b,o,none⟩:Addr).add k=⟨b,o+k,none⟩:=by unfold Addr.add;split<;>simp_all
theorem opn_slice {α:Type} {C:Cod α} {t e:TypeId} (hu:Program.underlying Tryz.prog t=some (.slice e)) (hc:Program.cellsOf Tryz.prog e=C.sz) (he:Opn e C):Opn t (slC C):=by
 intro H enc W n cs x h
 rcases DataW.trod_slice hu h with ⟨h0,_⟩ | ⟨a,len,cap,elems,rest,m,_,h0,_,hb,hl,hm,hlen,hel,_,_⟩
 ·exact⟨⟨none,0,[]⟩,h0,LR.nil_ _ _ _,Nat.le_refl _⟩
 ·rw[hc] at hel
  have each:∀ i,i<len→∃ y:α,(∀ k v,(C.cs y)[k]?=some v→W.cell? ((a.add (i*C.sz)).add k)=some v)∧C.At W y:=by
   intro i hi
   have e:=hel i hi
   rw[List.getElem?_eq_getElem (by omega),Option.bind_eq_some_iff] at e
   obtain⟨cs',hcs,hy⟩:=e
   obtain⟨hcl,hcg⟩:=cells_get8 hcs
   obtain⟨y,rfl,hat⟩:=he hy
   exact⟨y,fun k v hv=>by rw[hcg k (by rw[←C.len y];exact (List.getElem?_eq_some_iff.1 hv).1)];exact hv,hat⟩
  rcases Nat.eq_zero_or_pos len with h1 | h1
  ·subst h1
   exact⟨⟨some a,cap,[]⟩,h0,LR.nil_ _ _ _,Nat.zero_le _⟩
  ·obtain⟨y0,e0,_⟩:=each 0 h1
   have e0':=e0 0 _ (List.getElem?_eq_getElem (by rw[C.len];exact C.pos))
   have ea:(a.add (0*C.sz)).add 0=a:=by simp[Addr.add]
   rw[ea] at e0'
   obtain⟨ha,hblt⟩:=spot_none8 e0'
   obtain⟨b,o,s⟩:=a
   obtain rfl:s=none:=by injection ha
   obtain⟨L,hL⟩:∃ L,L=(List.range len).map (fun i=>if hi:i<len then (each i hi).choose else y0):=⟨_,rfl⟩
   have hfl:L.length=len:=by rw[hL];simp
   have hmem:∀ r∈L,∃ i,∃ hi:i<len,r=(each i hi).choose:=by
    intro r hr
    rw[hL] at hr
    obtain⟨i,hi,rfl⟩:=List.mem_map.1 hr
    have hil:i<len:=by simpa using hi
    exact⟨i,hil,by simp only[hil,dite_true]⟩
   refine⟨⟨some ⟨b,o,none⟩,cap,L⟩,by rw[h0,←hfl];rfl,⟨rfl,.inr ⟨b,o,rfl,hblt,fun i x hi k v hv=>?_⟩,fun r hr=>?_⟩,by show L.length≤cap;omega⟩
   ·have hil:i<len:=by rw[←hfl];exact (List.getElem?_eq_some_iff.1 hi).1
    have er:x=(each i hil).choose:=by
     have hi':L[i]?=some x:=hi
     rw[hL,List.getElem?_map,List.getElem?_range hil] at hi'
     simpa [hil] using hi'.symm
    have k0:=(each i hil).choose_spec.1 k v (by rw[←er];exact hv)
    rw[add_n8,add_n8] at k0
    exact k0
   ·obtain⟨i,hi,rfl⟩:=hmem r hr
    exact (each i hi).choose_spec.2
theorem opn_str:Opn 9 strC:=by
 intro H enc W n cs x h
 obtain⟨s,e,_⟩:=DataW.trod_string Tryz.underlying9 h
 exact⟨s,e,trivial⟩
theorem opn_bool:Opn 4 boolC:=by
 intro H enc W n cs x h
 obtain⟨s,e,_⟩:=DataW.trod_bool Tryz.underlying4 h
 exact⟨s,e,trivial⟩
theorem opn_int:Opn 3 intC:=by
 intro H enc W n cs x h
 obtain⟨s,e,_⟩:=DataW.trod_int Tryz.underlying3 h
 exact⟨s,e,trivial⟩
theorem opn_lim:Opn 42 limC:=by
 intro H enc W n cs x h
 rcases open_ints Tryz.underlying42 Tryz.underlying119 (by kernel_rfl) h with ⟨hcs,_⟩ | ⟨x,l,c,zs,hcs,_,hl,hm,hz,_,hcell,hwz⟩
 ·exact⟨⟨none,0,0,[]⟩,hcs,Rd.nil_ _ _ _⟩
 ·obtain⟨xs,R,m⟩:=rd_of_row (w:=W) (a:=some x) (len:=l) (cap:=c) (zs:=zs) (.inr ⟨x,rfl,hl,hm,by simpa using hz,hcell,hwz⟩)
  exact⟨⟨some x,l,c,xs⟩,hcs,R⟩
theorem trod_struct3 {H:Type} {enc:TypeId×Value→H} {w:World} {base:Nat} {spare:Nat→Bool} {held:Bool} {t:TypeId} {f0 f1 f2:Field} {fuel:Nat} {cs:List Value} {x:DataW H×List MemPlace} (ht:Program.underlying Tryz.prog t=some (.struct #[f0,f1,f2])) (h:DataW.trod enc Tryz.prog w base spare held fuel t cs=some x) :
  ∃ y0 y1 y2 n,cs.length=Program.cellsOf Tryz.prog t∧DataW.trod enc Tryz.prog w base spare held n f0.type ((cs.drop f0.offset).take (Program.cellsOf Tryz.prog f0.type))=some y0∧DataW.trod enc Tryz.prog w base spare held n f1.type ((cs.drop f1.offset).take (Program.cellsOf Tryz.prog f1.type))=some y1∧DataW.trod enc Tryz.prog w base spare held n f2.type ((cs.drop f2.offset).take (Program.cellsOf Tryz.prog f2.type))=some y2:=by
 obtain⟨xs,n,_,rfl,hl,hlen,hf⟩:=DataW.trod_struct ht h
 match xs,hlen with
 | [y0,y1,y2],_=>exact⟨y0,y1,y2,n,hl,by simpa using hf 0 f0 rfl,by simpa using hf 1 f1 rfl,by simpa using hf 2 f2 rfl⟩
theorem trod_struct4 {H:Type} {enc:TypeId×Value→H} {w:World} {base:Nat} {spare:Nat→Bool} {held:Bool} {t:TypeId} {f0 f1 f2 f3:Field} {fuel:Nat} {cs:List Value} {x:DataW H×List MemPlace} (ht:Program.underlying Tryz.prog t=some (.struct #[f0,f1,f2,f3])) (h:DataW.trod enc Tryz.prog w base spare held fuel t cs=some x) :
  ∃ y0 y1 y2 y3 n,cs.length=Program.cellsOf Tryz.prog t∧DataW.trod enc Tryz.prog w base spare held n f0.type ((cs.drop f0.offset).take (Program.cellsOf Tryz.prog f0.type))=some y0∧DataW.trod enc Tryz.prog w base spare held n f1.type ((cs.drop f1.offset).take (Program.cellsOf Tryz.prog f1.type))=some y1∧DataW.trod enc Tryz.prog w base spare held n f2.type ((cs.drop f2.offset).take (Program.cellsOf Tryz.prog f2.type))=some y2∧DataW.trod enc Tryz.prog w base spare held n f3.type ((cs.drop f3.offset).take (Program.cellsOf Tryz.prog f3.type))=some y3:=by
 obtain⟨xs,n,_,rfl,hl,hlen,hf⟩:=DataW.trod_struct ht h
 match xs,hlen with
 | [y0,y1,y2,y3],_=>exact⟨y0,y1,y2,y3,n,hl,by simpa using hf 0 f0 rfl,by simpa using hf 1 f1 rfl,by simpa using hf 2 f2 rfl,by simpa using hf 3 f3 rfl⟩
theorem c8Api:Program.cellsOf Tryz.prog 44=2:=by kernel_rfl
theorem c8Rat:Program.cellsOf Tryz.prog 46=3:=by kernel_rfl
theorem c8Row:Program.cellsOf Tryz.prog 42=1:=by kernel_rfl
theorem c8Bool:Program.cellsOf Tryz.prog 4=1:=by kernel_rfl
theorem c8Int:Program.cellsOf Tryz.prog 3=1:=by kernel_rfl
theorem c8Str:Program.cellsOf Tryz.prog 9=1:=by kernel_rfl
theorem c8Strs:Program.cellsOf Tryz.prog 22=1:=by kernel_rfl
theorem c8Ces:Program.cellsOf Tryz.prog 54=1:=by kernel_rfl
theorem c8Ce:Program.cellsOf Tryz.prog 58=5:=by kernel_rfl
theorem c8Co:Program.cellsOf Tryz.prog 56=4:=by kernel_rfl
theorem c8Cos:Program.cellsOf Tryz.prog 35=1:=by kernel_rfl
theorem c8Ta:Program.cellsOf Tryz.prog 37=2:=by kernel_rfl
set_option maxRecDepth 100000 in
theorem opn_rat:Opn 46 rwC:=by
 intro H enc W n cs x h
 obtain⟨y0,y1,n,_,hl,h0,h1⟩:=trod_struct2 Tryz.underlying46 h
 rw[c8Rat] at hl
 match cs,hl with
 | [c0,c1,c2],_=>
  have h0':DataW.trod enc Tryz.prog W 0 (fun _=>true) true n 44 [c0,c1]=some y0:=by simpa [c8Api] using h0
  have h1':DataW.trod enc Tryz.prog W 0 (fun _=>true) true n 42 [c2]=some y1:=by simpa [c8Row] using h1
  obtain⟨z0,z1,m,hz,_,k0,k1⟩:=trod_struct2 Tryz.underlying44 h0'
  have k0':DataW.trod enc Tryz.prog W 0 (fun _=>true) true m 4 [c0]=some z0:=by simpa [c8Bool] using k0
  have k1':DataW.trod enc Tryz.prog W 0 (fun _=>true) true m 42 [c1]=some z1:=by simpa [c8Row] using k1
  obtain⟨b,e1,_⟩:=opn_bool k0'
  obtain⟨u,e2,R1⟩:=opn_lim k1'
  obtain⟨v,e3,R2⟩:=opn_lim h1'
  exact⟨⟨b,u,v⟩,by show [c0]++([c1]++[c2])=_;rw[e1,e2,e3];rfl,rw_at.2 ⟨R1,R2⟩⟩
set_option maxRecDepth 100000 in
theorem opn_cell:Opn 58 ceC:=by
 intro H enc W n cs x h
 obtain⟨y0,y1,y2,n,hl,h0,h1,h2⟩:=trod_struct3 Tryz.underlying58 h
 rw[c8Ce] at hl
 match cs,hl with
 | [c0,c1,c2,c3,c4],_=>
  have h0':DataW.trod enc Tryz.prog W 0 (fun _=>true) true n 4 [c0]=some y0:=by simpa [c8Bool] using h0
  have h1':DataW.trod enc Tryz.prog W 0 (fun _=>true) true n 46 [c1,c2,c3]=some y1:=by simpa [c8Rat] using h1
  have h2':DataW.trod enc Tryz.prog W 0 (fun _=>true) true n 3 [c4]=some y2:=by simpa [c8Int] using h2
  obtain⟨b,e1,_⟩:=opn_bool h0'
  obtain⟨v,e2,R⟩:=opn_rat h1'
  obtain⟨l,e3,_⟩:=opn_int h2'
  exact⟨⟨b,v,l⟩,by show [c0]++([c1,c2,c3]++[c4])=_;rw[e1,e2,e3];rfl,ce_at.2 (rw_at.1 R)⟩
theorem opn_strs:Opn 22 (slC strC):=opn_slice Tryz.underlying22 c8Str opn_str
theorem opn_cells:Opn 54 (slC ceC):=opn_slice Tryz.underlying54 c8Ce opn_cell
set_option maxRecDepth 100000 in
theorem opn_col:Opn 56 clC:=by
 intro H enc W n cs x h
 obtain⟨y0,y1,y2,y3,n,hl,h0,h1,h2,h3⟩:=trod_struct4 Tryz.underlying56 h
 rw[c8Co] at hl
 match cs,hl with
 | [c0,c1,c2,c3],_=>
  have h0':DataW.trod enc Tryz.prog W 0 (fun _=>true) true n 9 [c0]=some y0:=by simpa [c8Str] using h0
  have h1':DataW.trod enc Tryz.prog W 0 (fun _=>true) true n 3 [c1]=some y1:=by simpa [c8Int] using h1
  have h2':DataW.trod enc Tryz.prog W 0 (fun _=>true) true n 22 [c2]=some y2:=by simpa [c8Strs] using h2
  have h3':DataW.trod enc Tryz.prog W 0 (fun _=>true) true n 54 [c3]=some y3:=by simpa [c8Ces] using h3
  obtain⟨nm,e1,_⟩:=opn_str h0'
  obtain⟨k,e2,_⟩:=opn_int h1'
  obtain⟨lv,e3,A1⟩:=opn_strs h2'
  obtain⟨ce,e4,A2⟩:=opn_cells h3'
  exact⟨⟨nm,k,lv,ce⟩,by show [c0]++([c1]++([c2]++[c3]))=_;rw[e1,e2,e3,e4];rfl,cl_at.2 ⟨A1,A2⟩⟩
theorem opn_cols:Opn 35 (slC clC):=opn_slice Tryz.underlying35 c8Co opn_col
set_option maxRecDepth 100000 in
/-- A table that came in. -/
theorem open_table {H:Type} {enc:TypeId×Value→H} {W:World} {b0:Nat} {r:Reach} {v:Value} {d:DataW H} {p:List MemPlace} (hv:Value.okWide Tryz.prog W r b0 37 v) (h:DataW.Trod enc Tryz.prog W 0 (fun _=>true) true 37 v d p) :
  ∃ (R:Int) (s:Sl Cl),v=.agg #[.int .i64 R,.slice s.A s.L.length s.c]∧LR clC W s.A s.L.length s.L:=by
 obtain⟨cs,rfl,hsz⟩:=okWide_struct Tryz.underlying37 hv
 obtain⟨c0,c1,rfl⟩:∃ c0 c1,cs=#[c0,c1]:=by
  have hsz:=hsz.trans c8Ta
  obtain⟨l⟩:=cs
  match l,hsz with
  | [c0,c1],_=>exact⟨c0,c1,rfl⟩
 obtain⟨fuel,hf⟩:=h
 obtain⟨y0,y1,n,hx,_,h0,h1⟩:=trod_struct2 Tryz.underlying37 hf
 have h0':DataW.trod enc Tryz.prog W 0 (fun _=>true) true n 3 [c0]=some y0:=by simpa [Value.cells,c8Int] using h0
 have h1':DataW.trod enc Tryz.prog W 0 (fun _=>true) true n 35 [c1]=some y1:=by simpa [Value.cells,c8Cos] using h1
 obtain⟨R,e1,_⟩:=opn_int h0'
 obtain⟨s,e2,A1⟩:=opn_cols h1'
 obtain rfl:c0=.int .i64 R:=by simpa [intC,cellC] using e1
 obtain rfl:c1=.slice s.A s.L.length s.c:=by simpa [slC,Sl.v] using e2
 exact⟨R,s,rfl,A1.1⟩
end Go.Proofs.YtdeedofmflelfaaGreatDoor

namespace Go.Proofs.YtdeedofmflelfaaGreatDoor
open Go.ChangeShapes Go.WideShapes Go.ChangeAt Go.RowKit
theorem own:ownKnob Tryz.prog.godebug=none:=by kernel_rfl
theorem laidOut:laidOutB Tryz.prog=true:=by kernel_rfl
abbrev laid7 : List (String × DataW Unit) := [("math/bits.deBruijn32tab", Rows.laid_math_bits_deBruijn32tab), ("math/bits.deBruijn64tab", Rows.laid_math_bits_deBruijn64tab), ("internal/strconv.uint64pow10", Rows.laid_internal_strconv_uint64pow10), ("unicode/utf8.acceptRanges", Rows.laid_unicode_utf8_acceptRanges), ("strconv.ErrRange", Rows.laid_strconv_ErrRange), ("strconv.ErrSyntax", Rows.laid_strconv_ErrSyntax), ("unicode/utf8.first", Rows.laid_unicode_utf8_first)]
theorem laid_met7 (os:Os) (args:Array Value):laidMetH Tryz.prog laid7 ((World.laidAll Tryz.prog os laid7).forCall (fun _ _=>0) ⟨#[],args,[]⟩).memory:=by
 rw[MakeChecks.laidMetH_plain _ _ _ (by kernel_rfl)]
 exact laidMet_laidAll _ (by kernel_rfl) (by kernel_rfl)
theorem laid_shaped (os:Os):(World.laidAll Tryz.prog os laid7).Shaped Tryz.prog:=World.shaped_of_ZipB (by kernel_rfl) (by kernel_rfl)
end Go.Proofs.YtdeedofmflelfaaGreatDoor
