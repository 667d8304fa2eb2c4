/- The reference: lists and cells that say the same. The reference: tables that say the same. A cell is copied. Select's cells. -/
import Derived.Test.YtdeedofmflelfaaGreatDoorQCaz
import Derived.Test.YtdeedofmflelfaaGreatDoorQBez
import Derived.Test.YtdeedofmflelfaaGreatDoorQBxz
namespace Go.Proofs.YtdeedofmflelfaaGreatDoor
open Go.RowKit RQ
set_option linter.unusedVariables false
set_option maxRecDepth 100000 in
set_option maxHeartbeats 4000000 in
theorem sameList_yes (L:List ByteArray) (A:Option Addr) (n c:Nat) (A':Option Addr) (c':Nat) (w:World) (h:LR strC w A n L) (h':LR strC w A' n L) (hn:n≤100000):Calls Tryz.prog 52 #[.slice A n c,.slice A' n c'] w fun e w'=>e=.returned (.bool (true))∧Below w.heap.size w w':=by
 have hb:=Lib.hid hn
 replace h:=Lib.hid h
 replace h':=Lib.hid h'
 clear hn
 go_enter Tryz.func52,Tryz.ntmps52
 go_wp2
 go_loopw [5] (fun iv wr=>∃ i:Nat,i≤n∧iv=.int .i64 i∧Below w.heap.size w wr) (fun iv _=>n-(intOf iv).toNat)
 case atStart=>exact⟨0,Nat.zero_le _,rfl,Below.refl _ _⟩
 case round=>
  obtain⟨i,hin,rfl,B⟩:=hrel
  by_cases hlt:i<n
  ·obtain⟨b,o,x,rfl,hx,_,e0⟩:=str_get (h.out.bel B) hlt
   obtain⟨b2,o2,y,rfl,hy,_,y0⟩:=str_get (h'.out.bel B) hlt
   obtain rfl:y=x:=by rw[hx] at hy;exact (Option.some.inj hy).symm
   have hih:=Lib.hid hlt
   have g1:(i:Int)<(n:Int):=by omega
   have g2:(0:Int)≤(i:Int):=by omega
   replace B:=Lib.hid B
   replace e0:=Lib.hid e0
   replace y0:=Lib.hid y0
   clear hlt hin hx hy
   go_upto_region 6 with fail
   have hbase:=Lib.hid (St.new wr)
   refine RW.begin (Z:=[]) (S:=(fun W=>Below wr.heap.size wr W)) (by kernel_rfl) ?_ hbase.out ?_
   ·exact⟨by kernel_rfl,zis_nil,by decide,by decide,nol_nil,(fun _ _ h=>h.bel)⟩
   intro hzk
   refine RW.t (i:=0) (v:=.slice (some ⟨b,o,none⟩) n c) (some 17) at0 (hy:=fun _ _=>by kernel_rfl) (h:=?_)
   refine RW.t (i:=1) (v:=.int .i64 i) (some 18) at1 (hy:=fun _ _=>by kernel_rfl) (h:=?_)
   refine RW.t (i:=2) (v:=.pointer (some ⟨b,o+i,none⟩)) (some 19) at2 (hy:=fun _ _=>by go_simp) (h:=?_)
   refine RW.t (i:=3) (v:=.string y) (some 20) at3 (hy:=fun W hS=>by (have k0:=bel_cell hS e0.out;clear hS;go_simp)) (h:=?_)
   refine RW.t (i:=4) (v:=.slice (some ⟨b2,o2,none⟩) n c') (some 21) at4 (hy:=fun _ _=>by kernel_rfl) (h:=?_)
   refine RW.t (i:=5) (v:=.int .i64 i) (some 22) at5 (hy:=fun _ _=>by kernel_rfl) (h:=?_)
   refine RW.t (i:=6) (v:=.pointer (some ⟨b2,o2+i,none⟩)) (some 23) at6 (hy:=fun _ _=>by go_simp) (h:=?_)
   refine RW.t (i:=7) (v:=.string y) (some 24) at7 (hy:=fun W hS=>by (have k0:=bel_cell hS y0.out;clear hS;go_simp)) (h:=?_)
   refine RW.t (i:=8) (v:=.bool false) (some 25) at8 (hy:=fun _ _=>by go_simp) (h:=?_)
   refine RW.tail hzk.out (by kernel_rfl) ?_
   intro gs' w5 hgs' hS Sb
   obtain rfl:=len0 hgs'
   simp only[mark,fill,Act.put,List.setIfInBounds_toArray,List.set_cons_zero,List.set_cons_succ]
   refine Wk.done (by kernel_rfl) ?_
   have T:=Lib.hid (B.out.trans (hS.mono B.out.size))
   clear Sb hgs' hzk hbase hS B
   try go_simp
   have hlt:=hih.out
   have hbb:=hb.out
   go_wp2
   go_roundw
   case rel=>exact⟨i+1,by omega,by go_num,T.out⟩
   case measure=>simp[intOf];omega
  ·obtain rfl:n=i:=by omega
   replace B:=Lib.hid B
   clear hin hlt
   go_wp2
   go_ret
   exact⟨rfl,B.out⟩
end Go.Proofs.YtdeedofmflelfaaGreatDoor

namespace Go.Proofs.YtdeedofmflelfaaGreatDoor
open Go.RowKit RQ
set_option linter.unusedVariables false
end Go.Proofs.YtdeedofmflelfaaGreatDoor

namespace Go.Proofs.YtdeedofmflelfaaGreatDoor
open Go.RowKit RQ
set_option linter.unusedVariables false
end Go.Proofs.YtdeedofmflelfaaGreatDoor

namespace Go.Proofs.YtdeedofmflelfaaGreatDoor
open Go.RowKit RQ
set_option linter.unusedVariables false
end Go.Proofs.YtdeedofmflelfaaGreatDoor
