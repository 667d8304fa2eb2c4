/- make of lists; blocks that hold lists. Zero, cells that fit. The names of columns and of fields; copies of texts. Levels and cells of a column. Columns and tables that are valid. Numbers of rows in range; a column by its name. -/
import Derived.Test.YtdeedofmflelfaaGreatDoorQLgz
import Derived.Test.YtdeedofmflelfaaGreatDoorQRcz
import Derived.Test.YtdeedofmflelfaaGreatDoorSi
import Derived.Test.YtdeedofmflelfaaGreatDoorDr
namespace Go.Proofs.YtdeedofmflelfaaGreatDoor
open Go.RowKit RQ
set_option linter.unusedVariables false
theorem make_of {α:Type} {P:Program} (C:Cod α) (x:α) (ty e:TypeId) (z:Value) (bytes:Nat) (hu:P.underlying ty=some (.slice e)) (hi:(P.info? e).map (fun i=>(i.zero,i.size,i.bytes))=some (some z,C.sz,bytes)) (hz:z.cells=(C.cs x).toArray) (hb:bytes≤1000) (n:Nat) (hn:n≤1000000) (w:World) :
  (Instr.makeSlice ty (.int .i64 (n:Int)) (.int .i64 (n:Int))).run P w=.ok (.slice (some ⟨w.heap.size,0,none⟩) n n) (w.alloc (.cells (C.all (List.replicate n x)).toArray e)):=by
 obtain⟨i0,hi,hzz⟩:=Option.map_eq_some_iff.1 hi
 simp only[Prod.mk.injEq] at hzz
 obtain⟨hz0,hz1,hz2⟩:=hzz
 have hm:bytes*n≤1000000000:=by have h9:=Nat.mul_le_mul hb hn;omega
 have hm2:(bytes:Int)*(n:Int)≤1000000000:=by have:=Int.ofNat_le.2 hm;rw[Int.natCast_mul] at this;omega
 have hr:=run_make (P:=P) w ty e i0 _ hu hi hz0 .i64 .i64 n n (by omega) (Int.le_refl _) (by rw[hz2];omega) (by omega)
 simp only[Int.toNat_natCast,hz1] at hr
 rw[hr,hz,all_rep]
/-- The zero values of cells and columns. -/
def Nl0:Nl:=⟨none,0,0,[]⟩
def Ce0:Ce:=⟨false,⟨false,Nl0,Nl0⟩,0⟩
def Cl0:Cl:=⟨ByteArray.empty,0,⟨none,0,[]⟩,⟨none,0,[]⟩⟩
theorem make_str (n:Nat) (hn:n≤1000000) (w:World):(Instr.makeSlice 22 (.int .i64 (n:Int)) (.int .i64 (n:Int))).run Tryz.prog w=.ok (.slice (some ⟨w.heap.size,0,none⟩) n n) (w.alloc (.cells (strC.all (List.replicate n ByteArray.empty)).toArray 9)):=
 make_of strC ByteArray.empty 22 9 (.string ByteArray.empty) 16 Tryz.underlying22 (by kernel_rfl) rfl (by decide) n hn w
theorem make_col (n:Nat) (hn:n≤1000000) (w:World):(Instr.makeSlice 35 (.int .i64 (n:Int)) (.int .i64 (n:Int))).run Tryz.prog w=.ok (.slice (some ⟨w.heap.size,0,none⟩) n n) (w.alloc (.cells (clC.all (List.replicate n Cl0)).toArray 56)):=
 make_of clC Cl0 35 56 (.agg #[.string ByteArray.empty,.int .i64 0,.slice none 0 0,.slice none 0 0]) 72 Tryz.underlying35 (by kernel_rfl) rfl (by decide) n hn w
section
variable {α:Type} {C:Cod α} {w W W':World} {g t:Nat} {L:List α} {bs:List GBk} {rs:List GRd}
/-- A block that holds a list reads as a slice. -/
theorem St_glr (h:St w W ((g,(C.all L).toArray,t)::bs) rs) (n:Nat) (hn:L.length=n) (hx:∀ x∈L,C.At W x):LR C W (some ⟨g,0,none⟩) n L:=by
 have hb:=(h.bk _ List.mem_cons_self).1
 refine⟨hn,.inr ⟨g,0,rfl,hb.lt,fun i x hi k v hv=>?_⟩,hx⟩
 rw[Nat.zero_add]
 exact hb.cell (by rw[List.getElem?_toArray];exact all_get (i:=i) C hi k v hv)
theorem St.allocC (h:St w W bs rs) (C:Cod α) (L:List α) (g t:Nat) (hg:W.heap.size=g):St w (W.alloc (.cells (C.all L).toArray t)) ((g,(C.all L).toArray,t)::bs) rs:=h.allocAt g _ t (all_noL C L).arr hg
theorem take_set_step {i:Nat} {x:α} {K M:List α} (h:K.take i=M.take i) (hl:i<K.length) (hx:M[i]?=some x):(K.set i x).take (i+1)=M.take (i+1):=by
 rw[take_snoc hx,←h,List.take_add_one,List.getElem?_set_self hl,List.take_set_of_le (Nat.le_refl i)];rfl
theorem take_fin {i:Nat} {K M:List α} (h:K.take i=M.take i) (hk:K.length=i) (hm:M.length=i):K=M:=by
 rwa [List.take_of_length_le (by omega),List.take_of_length_le (by omega)] at h
end
end Go.Proofs.YtdeedofmflelfaaGreatDoor

namespace Go.Proofs.YtdeedofmflelfaaGreatDoor
open Go.RowKit RQ
set_option linter.unusedVariables false
theorem noLof {xs:List Value} (h:xs.all (fun v=>match v with | .int .u32 _=>false | _=>true)=true):NoL xs.toArray:=by
 refine NoLl.arr fun v hv z e=>?_
 have:=List.all_eq_true.1 h v hv
 rw[e] at this
 cases this
end Go.Proofs.YtdeedofmflelfaaGreatDoor

namespace Go.Proofs.YtdeedofmflelfaaGreatDoor
open Go.RowKit RQ
set_option linter.unusedVariables false
theorem St.sub2 {w W:World} {p:GBk} {bs:List GBk} {rs:List GRd} (h:St w W (p::bs) rs):St w W bs rs:=by
 obtain⟨g,cs,t⟩:=p
 exact h.sub
set_option maxRecDepth 100000 in
set_option maxHeartbeats 4000000 in
theorem namesF1_any (x:Fe) (w:World):Calls Tryz.prog 94 #[.agg #[.string x.n,.int .i64 x.k,.slice x.mi.A x.mi.L.length x.mi.c,.bool x.u.b,.slice x.u.x.A x.u.x.n x.u.x.c,.slice x.u.y.A x.u.y.n x.u.y.c]] w fun e w'=>e=.returned (.string x.n)∧Below w.heap.size w w':=by
 have S:=(St.new w).allocAt (w.heap.size) #[.string x.n,.int .i64 x.k,.slice x.mi.A x.mi.L.length x.mi.c,.bool x.u.b,.slice x.u.x.A x.u.x.n x.u.x.c,.slice x.u.y.A x.u.y.n x.u.y.c] 48 (noLof rfl) (by simp)
 replace S:=Lib.hid S
 go_enter Tryz.func94,Tryz.ntmps94
 go_wp2
 go_ret
 exact⟨rfl,S.out.bel⟩
set_option maxRecDepth 100000 in
set_option maxHeartbeats 4000000 in
theorem namesF_any (L:List Fe) (A:Option Addr) (n c:Nat) (w:World) (h:LR feC w A n L) (hn:n≤100000) :
  Calls Tryz.prog 93 #[.slice A n c,.func (.func 94) #[] #[]] w fun e w'=>∃ g,e=.returned (.slice (some ⟨g,0,none⟩) n n)∧LR strC w' (some ⟨g,0,none⟩) n (L.map (·.n))∧Below w.heap.size w w':=by
 have hmk:=make_str n (by omega)
 have hV:=Lib.hid (fun x W=>namesF1_any x W)
 have S:St w _ [(w.heap.size,(strC.all (List.replicate n ByteArray.empty)).toArray,9)] []:=(St.new w).allocC strC _ w.heap.size 9 rfl
 replace S:=Lib.hid S
 have hb:=Lib.hid hn
 have hlen:=Lib.hid h.len
 replace h:=Lib.hid h
 clear hn
 go_enter Tryz.func93,Tryz.ntmps93
 go_wp2
 replace hmk:=Lib.hid hmk
 clear hmk
 go_loopw [13] (fun iv wr=>∃ (i:Nat) (K:List ByteArray),i≤n∧iv=.int .i64 i∧K.length=n∧K.take i=(L.map (·.n)).take i∧St w wr [(w.heap.size,(strC.all K).toArray,9)] []) (fun iv _=>n-(intOf iv).toNat)
 case atStart=>exact⟨0,_,Nat.zero_le _,rfl,List.length_replicate,rfl,S.out⟩
 case round=>
  clear S
  obtain⟨i,K,hin,rfl,hK,hq,S⟩:=hrel
  by_cases hlt:i<n
  ·obtain⟨b,o,x,rfl,hx,hxm,hxa,e0,e1,e2,e3,e4,e5⟩:=fe_get (h.out.bel S.bel) hlt
   have hih:=Lib.hid hlt
   have g1:(i:Int)<(n:Int):=by omega
   have g2:(0:Int)≤(i:Int):=by omega
   have hx2:=Lib.hid (show (L.map (·.n))[i]?=some x.n by rw[List.getElem?_map,hx];rfl)
   have S1:=S.allocAt (wr.heap.size) #[.string x.n,.int .i64 x.k,.slice x.mi.A x.mi.L.length x.mi.c,.bool x.u.b,.slice x.u.x.A x.u.x.n x.u.x.c,.slice x.u.y.A x.u.y.n x.u.y.c] 48 (noLof rfl) rfl
   replace S1:=Lib.hid S1
   replace hq:=Lib.hid hq
   replace hK:=Lib.hid hK
   clear S hlt hin hx hxm hxa
   go_wp2_with fail
   refine (hV.out x _).mono ?_
   rintro e w1 ⟨rfl,bb⟩
   have S2:=(S1.out.call bb).sub2
   have hKi:=List.getElem?_eq_getElem (l:=K) (i:=i) (by rw[hK.out];exact hih.out)
   obtain⟨hcl,hfr⟩:=St_gcl (C:=strC) S2 hKi
   have hc0:=hcl 0 _ rfl
   rw[show strC.sz=1 from rfl,Nat.mul_one,Nat.add_zero] at hc0
   have hf0:=hfr i
   have S3:=Lib.hid (show St w (w1.setCell ⟨w.heap.size,i,none⟩ (.string x.n)) [(w.heap.size,(strC.all (K.set i x.n)).toArray,9)] [] from by
    have:=St_gset S2 x.n (i:=i) (by rw[hK.out];exact hih.out)
    simpa [wset,strC,cellC] using this)
   clear bb S1 S2 hcl hfr hKi e0 e1 e2 e3 e4 e5
   have hlt:=hih.out
   have hbb:=hb.out
   go_wp2
   go_roundw
   case rel=>exact⟨i+1,K.set i x.n,by omega,by go_num,by rw[List.length_set];exact hK.out,take_set_step hq.out (by rw[hK.out];exact hlt) hx2.out,S3.out⟩
   case measure=>simp[intOf];omega
  ·obtain rfl:i=n:=by omega
   have hfin:=take_fin hq hK (by rw[List.length_map];exact hlen.out)
   subst hfin
   have hR:=Lib.hid (St_glr S i hK (fun x _=>trivial))
   have hbl:=Lib.hid S.bel
   clear S hq hin hlt hK
   go_wp2
   go_ret
   exact⟨_,rfl,hR.out,hbl.out⟩
theorem cloneS_any (s:ByteArray) (w:World) (hs:s.size≤281474976710656):Calls Tryz.prog 45 #[.string s] w fun e w'=>e=.returned (.string s)∧Below w.heap.size w w':=by
 have hH:=Lib.hid (fun W=>Tryz.stringslite_Clone s W hs)
 go_enter Tryz.func45,Tryz.ntmps45
 go_wp2_with fail
 refine (hH.out _).mono ?_
 rintro e w' ⟨rfl,hb⟩
 replace hb:=Lib.hid hb
 go_wp2
 go_ret
 exact⟨rfl,hb.out⟩
set_option maxRecDepth 100000 in
set_option maxHeartbeats 4000000 in
theorem copyTexts_any (L:List ByteArray) (A:Option Addr) (n c:Nat) (w:World) (h:LR strC w A n L) (hn:n≤100000) (hs:∀ s∈L,s.size≤281474976710656) :
  Calls Tryz.prog 46 #[.slice A n c] w fun e w'=>∃ g,e=.returned (.slice (some ⟨g,0,none⟩) n n)∧w.heap.size≤g∧Cb w' g (strC.all L).toArray 9∧Below w.heap.size w w':=by
 have hmk:=make_str n (by omega)
 have hV:Hid (∀ x∈L,∀ W,Calls Tryz.prog 45 #[.string x] W fun e w'=>e=.returned (.string x)∧Below W.heap.size W w'):=Lib.hid (fun x hx W=>cloneS_any x W (hs x hx))
 have S:St w _ [(w.heap.size,(strC.all (List.replicate n ByteArray.empty)).toArray,9)] []:=(St.new w).allocC strC _ w.heap.size 9 rfl
 replace S:=Lib.hid S
 have hb:=Lib.hid hn
 have hlen:=Lib.hid h.len
 replace h:=Lib.hid h
 clear hn hs
 go_enter Tryz.func46,Tryz.ntmps46
 go_wp2
 replace hmk:=Lib.hid hmk
 clear hmk
 go_loopw [11] (fun iv wr=>∃ (i:Nat) (K:List ByteArray),i≤n∧iv=.int .i64 i∧K.length=n∧K.take i=L.take i∧St w wr [(w.heap.size,(strC.all K).toArray,9)] []) (fun iv _=>n-(intOf iv).toNat)
 case atStart=>exact⟨0,_,Nat.zero_le _,rfl,List.length_replicate,rfl,S.out⟩
 case round=>
  clear S
  obtain⟨i,K,hin,rfl,hK,hq,S⟩:=hrel
  by_cases hlt:i<n
  ·obtain⟨b,o,x,rfl,hx,hxm,e0⟩:=str_get (h.out.bel S.bel) hlt
   have hih:=Lib.hid hlt
   have hVx:=Lib.hid (hV.out x hxm)
   have g1:(i:Int)<(n:Int):=by omega
   have g2:(0:Int)≤(i:Int):=by omega
   replace S:=Lib.hid S
   replace hq:=Lib.hid hq
   replace hK:=Lib.hid hK
   replace hx:=Lib.hid hx
   clear hlt hin hxm
   go_wp2_with fail
   refine (hVx.out _).mono ?_
   rintro e w1 ⟨rfl,bb⟩
   have S2:=S.out.call bb
   have hKi:=List.getElem?_eq_getElem (l:=K) (i:=i) (by rw[hK.out];exact hih.out)
   obtain⟨hcl,hfr⟩:=St_gcl (C:=strC) S2 hKi
   have hc0:=hcl 0 _ rfl
   rw[show strC.sz=1 from rfl,Nat.mul_one,Nat.add_zero] at hc0
   have hf0:=hfr i
   have S3:=Lib.hid (show St w (w1.setCell ⟨w.heap.size,i,none⟩ (.string x)) [(w.heap.size,(strC.all (K.set i x)).toArray,9)] [] from by
    have:=St_gset S2 x (i:=i) (by rw[hK.out];exact hih.out)
    simpa [wset,strC,cellC] using this)
   clear bb S S2 hcl hfr hKi e0
   have hlt:=hih.out
   have hbb:=hb.out
   go_wp2
   go_roundw
   case rel=>exact⟨i+1,K.set i x,by omega,by go_num,by rw[List.length_set];exact hK.out,take_set_step hq.out (by rw[hK.out];exact hlt) hx.out,S3.out⟩
   case measure=>simp[intOf];omega
  ·obtain rfl:i=n:=by omega
   have hfin:=take_fin hq hK hlen.out
   subst hfin
   have hR:=Lib.hid (S.cb 0 rfl)
   have hbl:=Lib.hid S.bel
   clear S hq hin hlt hK
   go_wp2
   go_ret
   exact⟨_,rfl,Nat.le_refl _,hR.out,hbl.out⟩
end Go.Proofs.YtdeedofmflelfaaGreatDoor

namespace Go.Proofs.YtdeedofmflelfaaGreatDoor
open Go.RowKit RQ
set_option linter.unusedVariables false
/-- Bounds of cells and columns. -/
def LtC (c:Ce):Prop:=c.v.x.n≤200∧c.v.y.n≤200
def LtL (x:Cl):Prop:=x.n.size≤1000∧x.lv.L.length≤1000∧(∀ s∈x.lv.L,s.size≤1000)∧x.ce.L.length≤2000∧∀ c∈x.ce.L,LtC c
end Go.Proofs.YtdeedofmflelfaaGreatDoor

namespace Go.Proofs.YtdeedofmflelfaaGreatDoor
open Go.RowKit RQ
set_option linter.unusedVariables false
/-- What a column reads as, where a world comes later. -/
def ClAt (W:World) (x:Cl):Prop:=(LR strC W x.lv.A x.lv.L.length x.lv.L∧x.lv.L.length≤x.lv.c)∧LR ceC W x.ce.A x.ce.L.length x.ce.L∧x.ce.L.length≤x.ce.c
theorem ClAt.bel {W W':World} {x:Cl} (h:ClAt W x) (hb:Below W.heap.size W W'):ClAt W' x:=⟨⟨h.1.1.bel hb,h.1.2⟩,h.2.1.bel hb,h.2.2⟩
theorem ClAt.rd {W:World} {x:Cl} (h:ClAt W x) {c:Ce} (hc:c∈x.ce.L):Rd W c.v.x.A c.v.x.n c.v.x.c c.v.x.x∧Rd W c.v.y.A c.v.y.n c.v.y.c c.v.y.x:=ce_at.1 (h.2.1.el c hc)
end Go.Proofs.YtdeedofmflelfaaGreatDoor

namespace Go.Proofs.YtdeedofmflelfaaGreatDoor
open Go.RowKit RQ
set_option linter.unusedVariables false
end Go.Proofs.YtdeedofmflelfaaGreatDoor
