/- A set of texts: a map, and what is asked of it. Fields: what can be read, and the errors of fields. Appends that leave maps alone; a part of an element is stored. Functions that add cells. -/
import Derived.Test.YtdeedofmflelfaaGreatDoorQBez
import Derived.Maps.Own
import Derived.Maps.OwnOps
import Derived.Maps.Views
import Derived.Laws.EntriesVeiled
namespace Go.Proofs.YtdeedofmflelfaaGreatDoor
open Go.RowKit RQ
set_option linter.unusedVariables false
open Go.Maps in
/-- A map that says of each text whether it is one of a list. -/
def MapS (W:World) (m:Nat) (L:List ByteArray):Prop:=∃ (D:DataW Unit) (k:Nat),W.ownsMap Tryz.prog 9 (plainElem Tryz.prog 4) m k D∧k≤L.length∧IsMap D∧∀ s:ByteArray,s.size≤100000→D.atKey (.string s.data.toList) (.lit (.bool false))=.lit (.bool (inB s L))
theorem MapS.lt {W:World} {m:Nat} {L:List ByteArray} (h:MapS W m L):m<W.heap.size:=by
 obtain⟨D,k,h1,_⟩:=h
 exact h1.lt
theorem MapS.keep {W W':World} {m:Nat} {L:List ByteArray} (h:MapS W m L) (hb:W'.heap[m]?=W.heap[m]?):MapS W' m L:=by
 obtain⟨D,k,⟨es,clock,h1,h2,h3,h4⟩,h5⟩:=h
 exact⟨D,k,⟨es,clock,hb.trans h1,h2,h3,h4⟩,h5⟩
theorem MapS.bel {W W':World} {m:Nat} {L:List ByteArray} (h:MapS W m L) (hb:Below W.heap.size W W'):MapS W' m L:=h.keep (hb.block m h.lt)
theorem MapS.new (W:World):MapS (W.alloc (.map #[] 0)) W.heap.size []:=⟨.map [],0,World.ownsMap_made _ _ _ _,Nat.le_refl _,Go.Maps.isMap_empty,fun s hs=>rfl⟩
theorem keyS {s:ByteArray} (hs:s.size≤100000):keyOf Tryz.prog 9 (.string s)=some (.string s.data.toList):=Go.WideMaps.keyOf_string_mk Tryz.underlying9 (by unfold maxLen;omega)
theorem lawS:Go.Maps.Keyed Tryz.prog 9:=Go.Maps.string_keyed Tryz.underlying9
set_option maxRecDepth 100000 in
theorem plainElem_bool_inv {v:Value} {z:DataW Unit×List MemPlace} (h:plainElem Tryz.prog 4 v=some z):∃ x,v=.bool x∧z=(.lit (.bool x),[]):=by
 unfold plainElem at h
 rw[Tryz.underlying4] at h
 cases v<;>simp at h
 exact⟨_,rfl,h.symm⟩
set_option maxRecDepth 100000 in
/-- What is asked of such a map. -/
theorem MapS.look {W:World} {m:Nat} {L:List ByteArray} (h:MapS W m L) {s:ByteArray} (hs:s.size≤100000):(Instr.lookup 115 (.map (some m)) (.string s) false).run Tryz.prog W=.ok (.bool (inB s L)) W:=by
 obtain⟨D,k,h1,_,_,h4⟩:=h
 obtain⟨v,ps,hr,hv⟩:=h1.lookup lawS Tryz.underlying115 (show (zeroValue 4).run Tryz.prog W=.ok (.bool false) W by kernel_rfl) (plainElem_bool Tryz.underlying4 false) (keyS hs)
 obtain⟨x,rfl,hx⟩:=plainElem_bool_inv hv
 rw[h4 s hs] at hx
 injection hx with hx
 injection hx with hx
 injection hx with hx
 rw[hr,hx]
theorem str_data {s t:ByteArray} (h:s.data.toList=t.data.toList):s=t:=ByteArray.ext (by have:=congrArg List.toArray h;simpa using this)
theorem MapS.put {W':World} {m k:Nat} {L:List ByteArray} {D:DataW Unit} {s:ByteArray} (h:W'.ownsMap Tryz.prog 9 (plainElem Tryz.prog 4) m (k+1) (D.put (.string s.data.toList) (.lit (.bool true)))) (hk:k≤L.length) (hD:Go.Maps.IsMap D) (hL:∀ s:ByteArray,s.size≤100000→D.atKey (.string s.data.toList) (.lit (.bool false))=.lit (.bool (inB s L))):MapS W' m (L++[s]):=by
 refine⟨_,k+1,h,by rw[List.length_append];show k+1≤_+1;omega,hD.put _ _,fun t ht=>?_⟩
 rw[inB_app]
 by_cases he:t=s
 ·subst he
  rw[Go.Maps.atKey_put_same hD (show Go.WideAt.IsKeyLit (.string _) from trivial)]
  have:inB t [t]=true:=inB_mem.2 List.mem_cons_self
  rw[this,Bool.or_true]
 ·rw[Go.Maps.atKey_put_other (fun h=>he (str_data (by injection h)))]
  rw[hL t ht]
  have:inB t [s]=false:=by
   cases hh:inB t [s]
   ·rfl
   ·exact absurd (List.mem_singleton.1 (inB_mem.1 hh)) he
  rw[this,Bool.or_false]
theorem runMap (n:Nat) (w:World):(Instr.makeMap 115 (some (.int .i64 (n:Int)))).run Tryz.prog w=.ok (.map (some w.heap.size)) (w.alloc (.map #[] 0)):=by
 have:(Instr.makeMap 115 (some (.int .i64 (n:Int)))).run Tryz.prog w=(Instr.makeMap 115 none).run Tryz.prog w:=by
  simp[Instr.makeMap,run_underlying Tryz.underlying115,Result.andThen,asInt,asIntOf]
 rw[this];rfl
/-- A set that lies behind a variable. -/
def SetAt (W:World) (g:Nat) (L:List ByteArray):Prop:=∃ m,Cb W g #[.map (some m)] 115∧MapS W m L
theorem SetAt.bel {W W':World} {g:Nat} {L:List ByteArray} (h:SetAt W g L) (hb:Below W.heap.size W W'):SetAt W' g L:=by
 obtain⟨m,h1,h2⟩:=h
 exact⟨m,h1.bel hb,h2.bel hb⟩
set_option maxRecDepth 100000 in
set_option maxHeartbeats 4000000 in
theorem oneOf1_any (L:List ByteArray) (s:ByteArray) (g:Nat) (w:World) (h:SetAt w g L) (hs:s.size≤100000):Calls Tryz.prog 87 #[.string s,.pointer (some ⟨g,0,none⟩)] w fun e w'=>e=.returned (.bool (inB s L))∧w'=w:=by
 obtain⟨m,h1,h2⟩:=h
 have c0:=h1.cell (i:=0) rfl
 have hl:=h2.look hs
 generalize inB s L=v at *
 clear h1 h2 hs
 go_enter Tryz.func87,Tryz.ntmps87
 go_wp2
 go_ret
 exact⟨rfl,rfl⟩
set_option maxRecDepth 100000 in
set_option maxHeartbeats 4000000 in
theorem oneOf_any (L:List ByteArray) (A:Option Addr) (n c:Nat) (w:World) (h:LR strC w A n L) (hn:n≤100000) (hs:∀ s∈L,s.size≤100000):Calls Tryz.prog 44 #[.slice A n c] w fun e w'=>∃ g,e=.returned (.func (.func 87) #[] #[.pointer (some ⟨g,0,none⟩)])∧w.heap.size≤g∧SetAt w' g L∧Below w.heap.size w w':=by
 have hmm:=runMap n
 have hb:=Lib.hid hn
 have hlen:=Lib.hid h.len
 have hB:=Lib.hid (((Below.refl w.heap.size w).alloc (Nat.le_refl _) (.map #[] 0)).alloc (by simp) (.cells #[.map (some w.heap.size)] 115))
 have hM:=Lib.hid ((MapS.new w).bel ((Below.refl _ _).alloc (Nat.le_refl _) (.cells #[.map (some w.heap.size)] 115)))
 have hC:=Lib.hid (show Cb ((w.alloc (.map #[] 0)).alloc (.cells #[.map (some w.heap.size)] 115)) (w.heap.size+1) #[.map (some w.heap.size)] 115 from by
  have:=Cb.new (w.alloc (.map #[] 0)) #[.map (some w.heap.size)] 115
  simpa using this)
 replace h:=Lib.hid h
 replace hs:=Lib.hid hs
 clear hn
 go_enter Tryz.func44,Tryz.ntmps44
 go_wp2
 replace hmm:=Lib.hid hmm
 clear hmm
 go_loopw [11] (fun iv wr=>∃ (i:Nat),i≤n∧iv=.int .i64 i∧MapS wr w.heap.size (L.take i)∧Cb wr (w.heap.size+1) #[.map (some w.heap.size)] 115∧Below w.heap.size w wr) (fun iv _=>n-(intOf iv).toNat)
 case atStart=>exact⟨0,Nat.zero_le _,rfl,hM.out,hC.out,hB.out⟩
 case round=>
  clear hM hC hB
  obtain⟨i,hin,rfl,M,C,B⟩:=hrel
  by_cases hlt:i<n
  ·obtain⟨b,o,x,rfl,hx,hxm,e0⟩:=str_get (h.out.bel B) hlt
   have hih:=Lib.hid hlt
   have g1:(i:Int)<(n:Int):=by omega
   have g2:(0:Int)≤(i:Int):=by omega
   have c0:=C.cell (i:=0) rfl
   obtain⟨D,k,hown,hk,hD,hat⟩:=M
   have hkey:=keyS (hs.out x hxm)
   have hkb:k<maxLen:=by
    have h1:=hb.out
    rw[List.length_take] at hk
    unfold maxLen;omega
   replace C:=Lib.hid C
   replace B:=Lib.hid B
   replace hk:=Lib.hid hk
   replace hD:=Lib.hid hD
   replace hat:=Lib.hid hat
   replace hx:=Lib.hid hx
   replace hkb:=Lib.hid hkb
   clear hlt hin hxm
   replace hown:=Lib.hid hown
   replace hkey:=Lib.hid hkey
   go_wp2_with (at_mapUpdate;refine wpList_mapUpdate_own _ rfl _ _ _ 115 rfl 9 4 lawS Tryz.underlying115 _ w.heap.size k D rfl hown.out hkb.out _ _ _ rfl rfl hkey.out _ [] (plainElem_bool Tryz.underlying4 true) ?_)
   intro w1 hown1 hg1
   have M1:=Lib.hid (MapS.put hown1 hk.out hD.out hat.out)
   have C1:=Lib.hid (C.out.keep (hg1.block (w.heap.size+1) C.out.lt (by simp)))
   have B1:=Lib.hid (B.out.trans (show Below w.heap.size wr w1 from ⟨hg1.os,hg1.tape,hg1.output,hg1.size,fun j hj=>hg1.block j (Nat.lt_of_lt_of_le hj B.out.size) (by intro e;injection e with e;omega)⟩))
   clear hown1 hg1 hown C B c0 e0 hat hD hk
   have hlt:=hih.out
   have hbb:=hb.out
   go_wp2
   go_roundw
   case rel=>exact⟨i+1,by omega,by go_num,by rw[take_snoc hx.out];exact M1.out,C1.out,B1.out⟩
   case measure=>simp[intOf];omega
  ·obtain rfl:i=n:=by omega
   rw[List.take_of_length_le (by rw[hlen.out];exact Nat.le_refl _)] at M
   replace M:=Lib.hid M
   replace C:=Lib.hid C
   replace B:=Lib.hid B
   clear hlt hin
   go_wp2
   go_ret
   exact⟨_,rfl,by omega,⟨_,C.out,M.out⟩,B.out⟩
end Go.Proofs.YtdeedofmflelfaaGreatDoor

namespace Go.Proofs.YtdeedofmflelfaaGreatDoor
open Go.RowKit RQ
set_option linter.unusedVariables false
/-- Can cells be read by this field? -/
def reaB (k:Int) (b:Bool) (xs ds:List Nat):Bool:=if k==1 then vldR b xs ds && !((rv b xs ds).num.sign==0) else k==2||k==3
def Fe.rea (x:Fe):Bool:=reaB x.k x.u.b x.u.x.x x.u.y.x
/-- Bounds of a field. -/
def LtF (x:Fe):Prop:=x.n.size≤1000∧x.mi.L.length≤1000∧(∀ s∈x.mi.L,s.size≤1000)∧x.u.x.n≤20∧x.u.y.n≤20
/-- The error of fields, for so many records. -/
def cfE (L:List Fe) (m:Nat):Int:=if 32<L.length∨1024<m then 2 else if namesB (L.map (·.n))=false then 8 else if L.all Fe.rea=false then 4 else 0
set_option maxRecDepth 100000 in
set_option maxHeartbeats 4000000 in
theorem isReadable_any (x:Fe) (w:World) (R1:Rd w x.u.x.A x.u.x.n x.u.x.c x.u.x.x) (R2:Rd w x.u.y.A x.u.y.n x.u.y.c x.u.y.x) (hx:LtF x):Calls Tryz.prog 97 #[.agg #[.string x.n,.int .i64 x.k,.slice x.mi.A x.mi.L.length x.mi.c,.bool x.u.b,.slice x.u.x.A x.u.x.n x.u.x.c,.slice x.u.y.A x.u.y.n x.u.y.c]] w fun e w'=>e=.returned (.bool (x.rea))∧Below w.heap.size w w':=by
 have hV:Hid (∀ W,Below w.heap.size w W→Calls Tryz.prog 119 #[.agg #[.bool x.u.b,.slice x.u.x.A x.u.x.n x.u.x.c,.slice x.u.y.A x.u.y.n x.u.y.c]] W fun e w'=>e=.returned (.bool (vldR x.u.b x.u.x.x x.u.y.x))∧Below W.heap.size W w'):=Lib.hid fun W h=>validR_any x.u.b x.u.x.A x.u.x.n x.u.x.c x.u.x.x x.u.y.A x.u.y.n x.u.y.c x.u.y.x W (R1.below h) (R2.below h) (by have:=hx.2.2.2.1;omega) (by have:=hx.2.2.2.2;omega)
 have hG:Hid (∀ W,Below w.heap.size w W→Calls Tryz.prog 140 #[.agg #[.bool x.u.b,.slice x.u.x.A x.u.x.n x.u.x.c,.slice x.u.y.A x.u.y.n x.u.y.c]] W fun e w'=>e=.returned (.int .i64 (rv x.u.b x.u.x.x x.u.y.x).num.sign)∧Below W.heap.size W w'):=Lib.hid fun W h=>signR_any x.u.b x.u.x.A x.u.x.n x.u.x.c x.u.x.x x.u.y.A x.u.y.n x.u.y.c x.u.y.x W (R1.below h) (R2.below h) (by have:=hx.2.2.2.1;omega) (by have:=hx.2.2.2.2;omega)
 unfold Fe.rea reaB
 generalize (rv x.u.b x.u.x.x x.u.y.x).num.sign=s at *
 generalize vldR x.u.b x.u.x.x x.u.y.x=v at *
 clear R1 R2 hx
 cases hk1:(x.k==1)
 ·clear hV hG
  cases hk2:(x.k==2)
  ·
   have S:=((St.new w).allocAt (w.heap.size) #[.string x.n,.int .i64 x.k,.slice x.mi.A x.mi.L.length x.mi.c,.bool x.u.b,.slice x.u.x.A x.u.x.n x.u.x.c,.slice x.u.y.A x.u.y.n x.u.y.c] 48 (noLof rfl) (by simp))
   replace S:=Lib.hid S
   go_enter Tryz.func97,Tryz.ntmps97
   go_wp2
   go_ret
   exact⟨by simp[*],S.out.bel⟩
  ·
   have S:=((St.new w).allocAt (w.heap.size) #[.string x.n,.int .i64 x.k,.slice x.mi.A x.mi.L.length x.mi.c,.bool x.u.b,.slice x.u.x.A x.u.x.n x.u.x.c,.slice x.u.y.A x.u.y.n x.u.y.c] 48 (noLof rfl) (by simp))
   replace S:=Lib.hid S
   go_enter Tryz.func97,Tryz.ntmps97
   go_wp2
   go_ret
   exact⟨by simp[*],S.out.bel⟩
 ·cases v
  ·clear hG
   have S:=((St.new w).allocAt (w.heap.size) #[.string x.n,.int .i64 x.k,.slice x.mi.A x.mi.L.length x.mi.c,.bool x.u.b,.slice x.u.x.A x.u.x.n x.u.x.c,.slice x.u.y.A x.u.y.n x.u.y.c] 48 (noLof rfl) (by simp))
   replace S:=Lib.hid S
   go_enter Tryz.func97,Tryz.ntmps97
   go_wp2_with fail
   refine (hV.out _ S.out.bel).mono ?_
   rintro e w1 ⟨rfl,bb⟩
   have T:=(S.out.call bb)
   clear bb S
   have S:=T
   clear T
   obtain⟨c_x0,c_x1,c_x2,c_x3,c_x4,c_x5,f_x0,f_x1,f_x2,f_x3,f_x4,f_x5⟩:=S.cf6 0 rfl
   have hz:w.heap.size<w1.heap.size:=S.lt 0 rfl
   replace S:=Lib.hid S
   go_wp2
   go_ret
   exact⟨by simp[*],S.out.bel⟩
  ·have hs3:(s != 0) = !(s==0):=rfl
   have S:=((St.new w).allocAt (w.heap.size) #[.string x.n,.int .i64 x.k,.slice x.mi.A x.mi.L.length x.mi.c,.bool x.u.b,.slice x.u.x.A x.u.x.n x.u.x.c,.slice x.u.y.A x.u.y.n x.u.y.c] 48 (noLof rfl) (by simp))
   replace S:=Lib.hid S
   go_enter Tryz.func97,Tryz.ntmps97
   go_wp2_with fail
   refine (hV.out _ S.out.bel).mono ?_
   rintro e w1 ⟨rfl,bb⟩
   have T:=(S.out.call bb)
   clear bb S
   have S:=T
   clear T
   obtain⟨c_x0,c_x1,c_x2,c_x3,c_x4,c_x5,f_x0,f_x1,f_x2,f_x3,f_x4,f_x5⟩:=S.cf6 0 rfl
   have hz:w.heap.size<w1.heap.size:=S.lt 0 rfl
   replace S:=Lib.hid S
   go_wp2_with fail
   refine (hG.out _ S.out.bel).mono ?_
   rintro e w2 ⟨rfl,bb⟩
   have T:=(S.out.call bb)
   clear bb S c_x0 f_x0 c_x1 f_x1 c_x2 f_x2 c_x3 f_x3 c_x4 f_x4 c_x5 f_x5 hz
   have S:=T
   clear T
   obtain⟨c_x0,c_x1,c_x2,c_x3,c_x4,c_x5,f_x0,f_x1,f_x2,f_x3,f_x4,f_x5⟩:=S.cf6 0 rfl
   have hz:w.heap.size<w2.heap.size:=S.lt 0 rfl
   replace S:=Lib.hid S
   go_wp2
   go_ret
   exact⟨by simp[*],S.out.bel⟩
set_option maxRecDepth 100000 in
set_option maxHeartbeats 4000000 in
theorem cf2_any (x:Fe) (w:World) (R1:Rd w x.u.x.A x.u.x.n x.u.x.c x.u.x.x) (R2:Rd w x.u.y.A x.u.y.n x.u.y.c x.u.y.x) (hx:LtF x):Calls Tryz.prog 96 #[.agg #[.string x.n,.int .i64 x.k,.slice x.mi.A x.mi.L.length x.mi.c,.bool x.u.b,.slice x.u.x.A x.u.x.n x.u.x.c,.slice x.u.y.A x.u.y.n x.u.y.c]] w fun e w'=>e=.returned (.bool (!(x.rea)))∧Below w.heap.size w w':=by
 have hF:Hid (∀ W,Below w.heap.size w W→Calls Tryz.prog 97 #[.agg #[.string x.n,.int .i64 x.k,.slice x.mi.A x.mi.L.length x.mi.c,.bool x.u.b,.slice x.u.x.A x.u.x.n x.u.x.c,.slice x.u.y.A x.u.y.n x.u.y.c]] W fun e w'=>e=.returned (.bool x.rea)∧Below W.heap.size W w'):=Lib.hid fun W h=>isReadable_any x W (R1.below h) (R2.below h) hx
 generalize x.rea=v at *
 clear R1 R2 hx
 have S:=((St.new w).allocAt (w.heap.size) #[.string x.n,.int .i64 x.k,.slice x.mi.A x.mi.L.length x.mi.c,.bool x.u.b,.slice x.u.x.A x.u.x.n x.u.x.c,.slice x.u.y.A x.u.y.n x.u.y.c] 48 (noLof rfl) (by simp))
 replace S:=Lib.hid S
 go_enter Tryz.func96,Tryz.ntmps96
 go_wp2_with fail
 refine (hF.out _ S.out.bel).mono ?_
 rintro e w1 ⟨rfl,bb⟩
 have T:=(S.out.call bb)
 clear bb S
 have S:=T
 clear T
 obtain⟨c_x0,c_x1,c_x2,c_x3,c_x4,c_x5,f_x0,f_x1,f_x2,f_x3,f_x4,f_x5⟩:=S.cf6 0 rfl
 have hz:w.heap.size<w1.heap.size:=S.lt 0 rfl
 replace S:=Lib.hid S
 go_wp2
 go_ret
 exact⟨by simp,S.out.bel⟩
set_option maxRecDepth 100000 in
set_option maxHeartbeats 4000000 in
theorem ixFld_any (L:List Fe) (A:Option Addr) (n c:Nat)  (w:World) (h:LR feC w A n L) (hn:n≤100000) (hP:∀ (i:Nat) (x:Fe),L[i]?=some x→∀ W,Below w.heap.size w W→Calls Tryz.prog 96 #[.agg #[.string x.n,.int .i64 x.k,.slice x.mi.A x.mi.L.length x.mi.c,.bool x.u.b,.slice x.u.x.A x.u.x.n x.u.x.c,.slice x.u.y.A x.u.y.n x.u.y.c]] W fun e w'=>e=.returned (.bool (!(x.rea)))∧Below W.heap.size W w') :
  Calls Tryz.prog 139 #[.slice A n c,.func (.func 96) #[] #[]] w fun e w'=>(∃ z,e=.returned (.int .i64 z)∧IxF L (fun x:Fe=>!(x.rea)) z)∧Below w.heap.size w w':=by
 have hb:=Lib.hid hn
 have hlen:=Lib.hid h.len
 replace h:=Lib.hid h
 obtain⟨pp,hpp⟩:∃ f:Fe→Bool,f=(fun x:Fe=>!(x.rea)):=⟨_,rfl⟩
 have hPh:Hid (∀ (i:Nat) (x:Fe),L[i]?=some x→∀ W,Below w.heap.size w W→Calls Tryz.prog 96 #[.agg #[.string x.n,.int .i64 x.k,.slice x.mi.A x.mi.L.length x.mi.c,.bool x.u.b,.slice x.u.x.A x.u.x.n x.u.x.c,.slice x.u.y.A x.u.y.n x.u.y.c]] W fun e w'=>e=.returned (.bool (pp x))∧Below W.heap.size W w'):=Lib.hid (by rw[hpp];exact hP)
 rw[←hpp]
 clear hn hP
 replace hpp:=Lib.hid hpp
 go_enter Tryz.func139,Tryz.ntmps139
 go_wp2
 go_loopw [8] (fun iv wr=>∃ i:Nat,i≤n∧iv=.int .i64 i∧Below w.heap.size w wr∧(∀ j s,j<i→L[j]?=some s→pp s=false)) (fun iv _=>n-(intOf iv).toNat)
 case atStart=>exact⟨0,Nat.zero_le _,rfl,Below.refl _ _,fun j s h0=>absurd h0 (Nat.not_lt_zero _)⟩
 case round=>
  obtain⟨i,hin,rfl,B,hall⟩:=hrel
  by_cases hlt:i<n
  ·obtain⟨b,o,x,rfl,hx,hxm,hxa,e0,e1,e2,e3,e4,e5⟩:=fe_get (h.out.bel B) hlt
   have hPx:=hPh.out i x hx wr B
   obtain⟨v,hv⟩:∃ v,v=pp x:=⟨_,rfl⟩
   rw[←hv] at hPx
   replace hPx:=Lib.hid hPx
   have hih:=Lib.hid hlt
   have g1:(i:Int)<(n:Int):=by omega
   have g2:(0:Int)≤(i:Int):=by omega
   replace B:=Lib.hid B
   replace hall:=Lib.hid hall
   replace hx:=Lib.hid hx
   replace hv:=Lib.hid hv
   clear hlt hin hxm
   go_wp2_with fail
   refine hPx.out.mono ?_
   rintro e w1 ⟨rfl,bb⟩
   have T:=Lib.hid (B.out.trans (bb.mono B.out.size))
   clear bb B hPx hxa e0 e1 e2 e3 e4 e5
   cases v
   ·have hlt:=hih.out
    have hbb:=hb.out
    go_wp2
    go_roundw
    case rel=>exact⟨i+1,by omega,by go_num,T.out,fun j' s h1 h2=>(by rcases Nat.lt_or_ge j' i with h3 | h3;exact hall.out j' s h3 h2;obtain rfl:j'=i:=(by omega);rw[hx.out] at h2;injection h2 with h2;subst h2;exact hv.out.symm)⟩
    case measure=>simp[intOf];omega
   ·go_wp2
    go_ret
    exact⟨⟨_,rfl,.inr ⟨i,x,rfl,hx.out,hv.out.symm,hall.out⟩⟩,T.out⟩
  ·obtain rfl:i=n:=by omega
   have hfin:Hid (∀ r∈L,pp r=false):=Lib.hid fun r hr=>by
    obtain⟨k,hk⟩:=List.getElem?_of_mem hr
    exact hall k r (by rw[←hlen.out];exact (List.getElem?_eq_some_iff.1 hk).1) hk
   replace B:=Lib.hid B
   clear hall hin hlt
   go_wp2
   go_ret
   exact⟨⟨-1,rfl,.inl ⟨rfl,hfin.out⟩⟩,B.out⟩
set_option maxRecDepth 100000 in
set_option maxHeartbeats 4000000 in
theorem cfFld_any (L:List Fe) (A:Option Addr) (n c:Nat)  (w:World) (h:LR feC w A n L) (hn:n≤100000) (hP:∀ (i:Nat) (x:Fe),L[i]?=some x→∀ W,Below w.heap.size w W→Calls Tryz.prog 96 #[.agg #[.string x.n,.int .i64 x.k,.slice x.mi.A x.mi.L.length x.mi.c,.bool x.u.b,.slice x.u.x.A x.u.x.n x.u.x.c,.slice x.u.y.A x.u.y.n x.u.y.c]] W fun e w'=>e=.returned (.bool (!(x.rea)))∧Below W.heap.size W w') :
  Calls Tryz.prog 95 #[.slice A n c,.func (.func 96) #[] #[]] w fun e w'=>e=.returned (.bool (L.any (fun x:Fe=>!(x.rea))))∧Below w.heap.size w w':=by
 have hX:=Lib.hid (ixFld_any L A n c  w h hn hP)
 clear h hn hP
 obtain⟨bv,hbv⟩:∃ z,z=L.any (fun x:Fe=>!(x.rea)):=⟨_,rfl⟩
 rw[←hbv]
 replace hbv:=Lib.hid hbv
 go_enter Tryz.func95,Tryz.ntmps95
 go_wp2_with fail
 refine hX.out.mono ?_
 rintro e w1 ⟨⟨z,rfl,hz⟩,bb⟩
 have hz2:=Lib.hid (hz.any_)
 replace bb:=Lib.hid bb
 clear hX hz
 go_wp2
 go_ret
 exact⟨by rw[hbv.out,hz2.out];rfl,bb.out⟩
set_option maxRecDepth 100000 in
set_option maxHeartbeats 4000000 in
theorem checkFields_any (L:List Fe) (A:Option Addr) (n c m:Nat) (w:World) (h:LR feC w A n L) (hx:∀ x∈L,LtF x) (hn:n≤100000):Calls Tryz.prog 55 #[.slice A n c,.int .i64 m] w fun e w'=>e=.returned (.int .i64 (cfE L m))∧Below w.heap.size w w':=by
 have hN:Hid (∀ W,Below w.heap.size w W→Calls Tryz.prog 93 #[.slice A n c,.func (.func 94) #[] #[]] W fun e w'=>∃ g,e=.returned (.slice (some ⟨g,0,none⟩) n n)∧LR strC w' (some ⟨g,0,none⟩) n (L.map (·.n))∧Below W.heap.size W w'):=Lib.hid fun W hb=>namesF_any L A n c W (h.bel hb) (by omega)
 have hA:Hid (∀ W g,LR strC W (some ⟨g,0,none⟩) n (L.map (·.n))→Calls Tryz.prog 43 #[.slice (some ⟨g,0,none⟩) n n] W fun e w'=>e=.returned (.bool (namesB (L.map (·.n))))∧Below W.heap.size W w'):=Lib.hid fun W g hR=>areNames_any (L.map (·.n)) (some ⟨g,0,none⟩) n n W hR (by omega) (Nat.le_refl _)
 have hC:Hid (∀ W,Below w.heap.size w W→Calls Tryz.prog 95 #[.slice A n c,.func (.func 96) #[] #[]] W fun e w'=>e=.returned (.bool (L.any fun x=>!(x.rea)))∧Below W.heap.size W w'):=Lib.hid fun W hb=>
  cfFld_any L A n c W (h.bel hb) (by omega) fun i x hi W2 hb2=>cf2_any x W2 (fe_at.1 (((h.bel hb).bel hb2).el x (List.mem_of_getElem? hi))).2.1 (fe_at.1 (((h.bel hb).bel hb2).el x (List.mem_of_getElem? hi))).2.2 (hx x (List.mem_of_getElem? hi))
 have hnot:(L.any fun x=>!(x.rea)) = !(L.all Fe.rea):=by rw[←any_not,Bool.not_not]
 rw[hnot] at hC
 have hlen:=h.len
 unfold cfE
 rw[hlen]
 generalize L.all Fe.rea=u at *
 generalize namesB (L.map (·.n))=v at *
 clear h hx hnot hlen
 by_cases h1:32<n
 ·rw[if_pos (.inl h1)]
  have g1:(32:Int)<(n:Int):=by omega
  clear hN hA hC h1
  have S:=(St.new w)
  replace S:=Lib.hid S
  go_enter Tryz.func55,Tryz.ntmps55
  go_wp2
  go_ret
  exact⟨rfl,S.out.bel⟩
 have g1:¬ (32:Int)<(n:Int):=by omega
 have g1':decide ((32:Int)<(n:Int))=false:=decide_eq_false g1
 by_cases h2:1024<m
 ·rw[if_pos (.inr h2)]
  have g2:(1024:Int)<(m:Int):=by omega
  clear hN hA hC h1 h2 hn
  have S:=(St.new w)
  replace S:=Lib.hid S
  go_enter Tryz.func55,Tryz.ntmps55
  go_wp2
  go_ret
  exact⟨rfl,S.out.bel⟩
 have g2:¬ (1024:Int)<(m:Int):=by omega
 rw[if_neg (by omega)]
 clear h1 h2 hn
 cases v
 ·rw[if_pos rfl]
  clear hC
  have S:=(St.new w)
  replace S:=Lib.hid S
  go_enter Tryz.func55,Tryz.ntmps55
  go_wp2_with fail
  refine (hN.out _ S.out.bel).mono ?_
  rintro e w1 ⟨g,rfl,hR,bb⟩
  have T:=(S.out.call bb)
  clear bb S
  have S:=T
  clear T
  replace hR:=Lib.hid hR
  replace S:=Lib.hid S
  go_wp2_with fail
  refine (hA.out _ g (hR.out)).mono ?_
  rintro e w2 ⟨rfl,bb⟩
  have T:=(S.out.call bb)
  clear bb S
  have S:=T
  clear T
  replace S:=Lib.hid S
  go_wp2
  go_ret
  exact⟨rfl,S.out.bel⟩
 ·rw[if_neg (by simp)]
  cases u
  ·rw[if_pos rfl]
   have S:=(St.new w)
   replace S:=Lib.hid S
   go_enter Tryz.func55,Tryz.ntmps55
   go_wp2_with fail
   refine (hN.out _ S.out.bel).mono ?_
   rintro e w1 ⟨g,rfl,hR,bb⟩
   have T:=(S.out.call bb)
   clear bb S
   have S:=T
   clear T
   replace hR:=Lib.hid hR
   replace S:=Lib.hid S
   go_wp2_with fail
   refine (hA.out _ g (hR.out)).mono ?_
   rintro e w2 ⟨rfl,bb⟩
   have T:=(S.out.call bb)
   clear bb S
   have S:=T
   clear T
   replace S:=Lib.hid S
   go_wp2_with fail
   refine (hC.out _ S.out.bel).mono ?_
   rintro e w3 ⟨rfl,bb⟩
   have T:=(S.out.call bb)
   clear bb S
   have S:=T
   clear T
   replace S:=Lib.hid S
   go_wp2
   go_ret
   exact⟨rfl,S.out.bel⟩
  ·rw[if_neg (by simp)]
   have S:=(St.new w)
   replace S:=Lib.hid S
   go_enter Tryz.func55,Tryz.ntmps55
   go_wp2_with fail
   refine (hN.out _ S.out.bel).mono ?_
   rintro e w1 ⟨g,rfl,hR,bb⟩
   have T:=(S.out.call bb)
   clear bb S
   have S:=T
   clear T
   replace hR:=Lib.hid hR
   replace S:=Lib.hid S
   go_wp2_with fail
   refine (hA.out _ g (hR.out)).mono ?_
   rintro e w2 ⟨rfl,bb⟩
   have T:=(S.out.call bb)
   clear bb S
   have S:=T
   clear T
   replace S:=Lib.hid S
   go_wp2_with fail
   refine (hC.out _ S.out.bel).mono ?_
   rintro e w3 ⟨rfl,bb⟩
   have T:=(S.out.call bb)
   clear bb S
   have S:=T
   clear T
   replace S:=Lib.hid S
   go_wp2
   go_ret
   exact⟨rfl,S.out.bel⟩
end Go.Proofs.YtdeedofmflelfaaGreatDoor

namespace Go.Proofs.YtdeedofmflelfaaGreatDoor
open Go.RowKit RQ
set_option linter.unusedVariables false
/-- All maps stay what they are. -/
def MK (W W':World):Prop:=∀ (m:Nat) (es:Array MapEntry) (c:Nat),W.heap[m]?=some (.map es c)→W'.heap[m]?=some (.map es c)
section
variable {W W' W'':World}
theorem MK.refl (W:World):MK W W:=fun _ _ _ h=>h
theorem MK.trans (h:MK W W') (h':MK W' W''):MK W W'':=fun m es c k=>h' m es c (h m es c k)
theorem MK.bel (h:MK W W') (hb:Below W'.heap.size W' W''):MK W W'':=fun m es c k=>by
 have h1:=h m es c k
 rw[hb.block m (Array.getElem?_eq_some_iff.1 h1).1];exact h1
theorem MK.drew (h:MK W W'):MK W W'.drew:=h
theorem MK.alloc (h:MK W W') (o:Obj):MK W (W'.alloc o):=h.bel ((Below.refl _ _).alloc (Nat.le_refl _) o)
theorem MK.set (h:MK W W') {g t:Nat} {cs:Array Value} (hb:Cb W' g cs t) (i:Nat) (v:Value):MK W (W'.setCell ⟨g,i,none⟩ v):=fun m es c k=>by
 have h1:=h m es c k
 by_cases e:m=g
 ·subst e;rw[hb] at h1;cases h1
 ·rw[Below.heap_setCell _ _ _ _ e];exact h1
theorem MK.row {g t:Nat} {cs:Array Value} (hb:Cb W g cs t) (cs':Array Value):MK W (W.setRow g cs'):=fun m es c k=>by
 by_cases e:m=g
 ·subst e;rw[hb] at k;cases k
 ·rw[setRow_other W g m cs' e];exact k
theorem MapS.mk {m:Nat} {L:List ByteArray} (h:MapS W m L) (hm:MK W W'):MapS W' m L:=by
 obtain⟨D,k,⟨es,clock,h1,h2,h3,h4⟩,h5⟩:=h
 exact⟨D,k,⟨es,clock,hm _ _ _ h1,h2,h3,h4⟩,h5⟩
end
section
variable {P:Program} {w W:World} {bs:List (Nat×Array Value×Nat)} {rs:List (Option Addr×Nat×Nat×List Nat)} {e size:Nat} {v:Value} {n:Nat} {xs:List Value}
theorem Apd.run2 (t ty:TypeId) (i:TypeInfo) (z:Value) (bytes:Nat) (ht:P.underlying t=some (.slice e)) (hi:P.info? e=some i) (hz:i.zero=some z)
  (hsize:i.size=size) (hby:i.bytes=bytes) (hzs:z.cells.size=size) (hzn:NoLl z.cells.toList)
  (h:Apd w W bs rs e size v n xs) (a:Addr) (m c:Nat) (news:List Value) (hl:news.length=m*size) (hnews:∀ j u,news[j]?=some u→W.cell? (a.add j)=some u) (h1:∀ u∈news,u.oneCell'=true) (hnn:NoLl news) (hm:0<m)
  (h63:n+m≤maxLen) (hbytes:(n+m)*bytes≤140737488355328) :
  ∃ v' W',(Builtin.append_ #[t,t] ty #[v,.slice (some a) m c]).run P W=.ok v' W'∧Apd w W' bs rs e size v' (n+m) (xs++news)∧MK W W':=by
 subst hsize
 subst hby
 have hsmall:n+m≤9223372036854775807:=by simp only[maxLen] at h63;omega
 obtain⟨hx,hxn,h⟩:=h
 have hlen:(xs++news).length=(n+m)*i.size:=by rw[List.length_append,hx,hl,Nat.add_mul]
 have hall:=hxn.app hnn
 have made:∀ (old:Nat) (bs':List (Nat×Array Value×Nat)),St w W bs' rs→∀ bs,(∀ W' p,St w W' (p::bs') rs→St w W' (p::bs) rs)→old<n+m →
   Apd w (W.drew.alloc (.cells (xs.toArray++news.toArray++Builtin.zeroCells z.cells (grownCap W (n+m) old e-(n+m))) e)) bs rs e i.size (.slice (some ⟨W.heap.size,0,none⟩) (n+m) (grownCap W (n+m) old e)) (n+m) (xs++news):=by
  intro old bs' S bs hbs ho
  have hge:=grownCap_ge W (n+m) old e
  have hcm:=grownCap_le_maxLen W (n+m) old e h63
  have hno:NoL (xs.toArray++news.toArray++Builtin.zeroCells z.cells (grownCap W (n+m) old e-(n+m))):=by
   have:=(hall.app (NoLl.zeros hzn (grownCap W (n+m) old e-(n+m)))).arr
   rwa [show ((xs++news)++(Builtin.zeroCells z.cells (grownCap W (n+m) old e-(n+m))).toList).toArray=xs.toArray++news.toArray++Builtin.zeroCells z.cells (grownCap W (n+m) old e-(n+m)) from Array.ext' (by simp)] at this
  refine⟨hlen,hall,.inr ⟨W.heap.size,_,_,rfl,hge,hcm,?_,?_,hbs _ _ (S.drew.alloc _ e hno)⟩⟩
  ·simp only[Array.size_append,List.size_toArray,size_zeroCells,hzs,hx,hl,←Nat.add_mul]
   congr 1
   omega
  ·simp only[Array.toList_append,List.append_assoc]
   rw[←List.append_assoc,←hlen]
   exact List.take_left
 rcases h with ⟨rfl,rfl,S⟩ | ⟨g,cap,cur,rfl,hnc,hcm,hcs,htake,S⟩
 ·have hx0:xs=[]:=List.eq_nil_of_length_eq_zero (by simpa using hx)
  subst hx0
  have hr:=run_append_nil (P:=P) W t ty e i z ht hi hz a m c news hl hnews hm (by omega) (by have hb:=hbytes;simp only[Nat.zero_add] at hb;omega)
  have hgr:=made 0 bs S bs (fun _ _ h=>h) (by omega)
  simp only[Nat.zero_add,List.nil_append,Array.empty_append] at hgr ⊢
  exact⟨_,_,hr,hgr,(MK.refl W).drew.alloc _⟩
 ·have hb:=(S.bk _ List.mem_cons_self).1
  by_cases hroom:n+m≤cap
  ·have hfit:n*i.size+news.length≤cur.size:=by rw[hl,hcs,←Nat.add_mul];exact Nat.mul_le_mul_right _ hroom
   have hr:=run_append_room (P:=P) W t ty e i ht hi g n cap cur hb a m c news hl hnews h1 hroom hfit
   have hcn:=(S.bk _ List.mem_cons_self).2.1
   refine⟨_,_,hr,⟨hlen,hall,.inr ⟨g,cap,_,rfl,hroom,hcm,?_,?_,S.setRow (((hcn.lst.take _).app hnn).app (hcn.lst.drop _)).arr⟩⟩,MK.row hb _⟩
   ·simp only[List.size_toArray,List.length_append,List.length_take,List.length_drop,Array.length_toList]
    omega
   ·rw[htake,←hlen]
    exact List.take_left
  ·have holds:∀ j u,xs[j]?=some u→W.cell? ((⟨g,0,none⟩:Addr).add j)=some u:=by
    intro j u hu
    have hadd:(⟨g,0,none⟩:Addr).add j=⟨g,j,none⟩:=by unfold Addr.add;split<;>simp_all
    rw[hadd]
    refine hb.cell ?_
    rw[←htake,List.getElem?_take] at hu
    split at hu
    ·simpa using hu
    ·cases hu
   have hr:=run_append_grow (P:=P) W t ty e i z ht hi hz ⟨g,0,none⟩ n cap xs hx holds a m c news hl hnews (by omega) (by omega) (growslice_fits (by omega) hbytes)
   exact⟨_,_,hr,made cap _ S bs (fun W' p h=>h.swap.sub) (by omega),(MK.refl W).drew.alloc _⟩
end
section
variable {α:Type} {C:Cod α} {w W W':World} {e:Nat} {L:List α} {bs:List GBk} {rs:List GRd} {v:Value}
/-- v = append(v, x), as it runs: the element lies in a block of its own. -/
theorem Gro.run2 {P:Program} (ty rt:TypeId) (z:Value) (bytes:Nat) (ht:P.underlying ty=some (.slice e)) (hi:(P.info? e).map (fun i=>(i.zero,i.size,i.bytes))=some (some z,C.sz,bytes))
  (hzs:z.cells.size=C.sz) (hzn:NoLl z.cells.toList) (h:Gro C w W bs rs e v L)
  (g:Nat) (y:α) {t:Nat} (hc:Cb W g (C.cs y).toArray t) (hy:C.In w bs rs y) (hn:(L.length+1)*bytes≤140737488355328) (h63:L.length+1≤maxLen) :
  ∃ v' W',(Builtin.append_ #[ty,ty] rt #[v,.slice (some ⟨g,0,none⟩) 1 1]).run P W=.ok v' W'∧Gro C w W' bs rs e v' (L++[y])∧MK W W':=by
 obtain⟨i0,hi0,hzz⟩:=Option.map_eq_some_iff.1 hi
 simp only[Prod.mk.injEq] at hzz
 obtain⟨hz0,hz1,hz2⟩:=hzz
 obtain⟨v',W',hr,hA,hm⟩:=Apd.run2 (P:=P) ty rt i0 z bytes ht hi0 hz0 hz1 hz2 hzs hzn h.1 ⟨g,0,none⟩ 1 1 (C.cs y) (by rw[C.len,Nat.one_mul]) (by
  intro j u hu
  have hadd:(⟨g,0,none⟩:Addr).add j=⟨g,j,none⟩:=by unfold Addr.add;split<;>simp_all
  rw[hadd]
  exact hc.cell (by rw[List.getElem?_toArray];exact hu)) (C.one y) (C.noL y) (by decide) h63 hn
 refine⟨v',W',hr,⟨?_,fun x hx=>?_⟩,hm⟩
 ·rw[all_app,all_one,List.length_append];exact hA
 ·rcases List.mem_append.1 hx with hx | hx
  ·exact h.2 x hx
  ·rw[List.mem_singleton.1 hx];exact hy
/-- .. in a region whose order is open. -/
theorem Gro.op {P:Program} {o:Oper} {a:Act} {K':Act→World→Prop} {Q:Exit→Act→World→Prop} (s x:Operand) (ty:TypeId)
  (ho:o.op=.call { callee:=.builtin .append,args:=#[s,x],argTypes:=#[ty,ty] })
  (z:Value) (bytes:Nat) (ht:P.underlying ty=some (.slice e)) (hi:(P.info? e).map (fun i=>(i.zero,i.size,i.bytes))=some (some z,C.sz,bytes))
  (hzs:z.cells.size=C.sz) (hzn:NoLl z.cells.toList) (hs:a.eval s=v) (h:Gro C w W bs rs e v L)
  (g:Nat) (y:α) {t:Nat} (hx:a.eval x=.slice (some ⟨g,0,none⟩) 1 1) (hc:Cb W g (C.cs y).toArray t) (hy:C.In w bs rs y) (hn:(L.length+1)*bytes≤140737488355328) (h63:L.length+1≤maxLen)
  (hk:∀ v' W',Gro C w W' bs rs e v' (L++[y])→MK W W'→K' (a.put o.dst v') W'):Oper.wp P o a W K' Q:=by
 obtain⟨v',W',hr,h2,h3⟩:=Gro.run2 (P:=P) ty o.type z bytes ht hi hzs hzn h g y hc hy hn h63
 unfold Oper.wp execOp
 simp only[ho,resolve,invoke,builtin,Sem.run_bind,Sem.run_pure,Result.andThen_ok,List.map_toArray,List.map_cons,List.map_nil,hs,hx,hr]
 exact hk v' W' h2 h3
/-- .. where the walk stands. -/
theorem Gro.wp2 {P:Program} {ops:Array Oper} {rest:List Oper} {o:Oper} {a:Act} {Q:Exit→Act→World→Prop} (hgd:o.guard=none) (s x:Operand) (ty:TypeId)
  (ho:o.op=.call { callee:=.builtin .append,args:=#[s,x],argTypes:=#[ty,ty] })
  (z:Value) (bytes:Nat) (ht:P.underlying ty=some (.slice e)) (hi:(P.info? e).map (fun i=>(i.zero,i.size,i.bytes))=some (some z,C.sz,bytes))
  (hzs:z.cells.size=C.sz) (hzn:NoLl z.cells.toList) (hs:a.eval s=v) (h:Gro C w W bs rs e v L)
  (g:Nat) (y:α) {t:Nat} (hx:a.eval x=.slice (some ⟨g,0,none⟩) 1 1) (hc:Cb W g (C.cs y).toArray t) (hy:C.In w bs rs y) (hn:(L.length+1)*bytes≤140737488355328) (h63:L.length+1≤maxLen)
  (hk:∀ v' W',Gro C w W' bs rs e v' (L++[y])→MK W W'→wpList P ops Q rest (a.put o.dst v') W'):wpList P ops Q (o::rest) a W:=
 wpList_plain hgd fun _ hK=>Gro.op s x ty ho z bytes ht hi hzs hzn hs h g y hx hc hy hn h63 fun v' W' h1 h2=>hK _ _ (hk v' W' h1 h2)
theorem all_set1 (C:Cod α):∀ {L:List α} {i k:Nat} {x x':α} {u:Value},L[i]?=some x→k<C.sz→C.cs x'=(C.cs x).set k u→(C.all L).set (i*C.sz+k) u=C.all (L.set i x')
 | [],_,_,_,_,_,h,_,_=>by simp at h
 | y::l,0,k,x,x',u,h,hk,hu=>by
  obtain rfl:y=x:=by simpa using h
  show (C.cs y++C.all l).set (0*C.sz+k) u=C.cs x'++C.all l
  rw[Nat.zero_mul,Nat.zero_add,hu,List.set_append_left _ _ (by rw[C.len];exact hk)]
 | y::l,i+1,k,x,x',u,h,hk,hu=>by
  have ih:=all_set1 C (L:=l) (i:=i) (k:=k) (x:=x) (x':=x') (u:=u) (by simpa using h) hk hu
  show (C.cs y++C.all l).set ((i+1)*C.sz+k) u=C.cs y++C.all (l.set i x')
  have e:(i+1)*C.sz+k=C.sz+(i*C.sz+k):=by rw[Nat.add_mul,Nat.one_mul];omega
  rw[List.set_append_right _ _ (by rw[C.len,e];omega),C.len,e,Nat.add_sub_cancel_left,ih]
/-- A part of an element is stored in a block that holds a list. -/
theorem St_gset1 {g t:Nat} (h:St w W ((g,(C.all L).toArray,t)::bs) rs) {i k:Nat} {x x':α} {u:Value} (hi:L[i]?=some x) (hk:k<C.sz) (hu:C.cs x'=(C.cs x).set k u) (hv:∀ z,u≠.int .u32 z) :
  St w (W.setCell ⟨g,i*C.sz+k,none⟩ u) ((g,(C.all (L.set i x')).toArray,t)::bs) rs:=by
 have:=h.set 0 (i*C.sz+k) u rfl hv
 have e:(C.all L).toArray.setIfInBounds (i*C.sz+k) u=(C.all (L.set i x')).toArray:=by
  rw[←all_set1 C hi hk hu];simp
 rw[←e];exact this
end
end Go.Proofs.YtdeedofmflelfaaGreatDoor

namespace Go.Proofs.YtdeedofmflelfaaGreatDoor
open Go.RowKit RQ
set_option linter.unusedVariables false
theorem St.adopt {w W W':World} {g t:Nat} {cs:Array Value} {bs:List GBk} {rs:List GRd} (h:St w W bs rs) (hb:Below W.heap.size W W') (hc:Cb W' g cs t) (hg:W.heap.size≤g) (hn:NoL cs):St w W' ((g,cs,t)::bs) rs:=by
 have h':=h.call hb
 refine⟨h'.bel,fun p hp=>?_,List.pairwise_cons.2 ⟨fun p hp=>?_,h'.nd⟩,h'.rd⟩
 ·rcases List.mem_cons.1 hp with rfl | hp
  ·exact⟨hc,hn,Nat.le_trans h.bel.size hg⟩
  ·exact h'.bk p hp
 ·have:=(h.bk p hp).1.lt
  show g≠p.1
  omega
/-- A function that adds a cell to a column, with the blocks that it knows. -/
def AdIn (W:World) (F:List GBk) (v:Value) (x:Fe) (cb o:Nat):Prop:=
 (x.k=1∧∃ b6 b5 b3 u gs m,v=.func (.func 101) #[] #[.pointer (some ⟨b6,0,none⟩),.pointer (some ⟨b5,0,none⟩),.pointer (some ⟨b3,0,none⟩)]∧(b6,#[.func (.func 87) #[] #[.pointer (some ⟨gs,0,none⟩)]],27)∈F∧(b5,#[.func (.func 141) #[] #[.pointer (some ⟨u,0,none⟩)]],124)∈F∧(b3,#[.pointer (some ⟨cb,o,none⟩)],89)∈F∧(u,#[.bool x.u.b,.slice x.u.x.A x.u.x.n x.u.x.c,.slice x.u.y.A x.u.y.n x.u.y.c],46)∈F∧(gs,#[.map (some m)],115)∈F∧MapS W m x.mi.L) ∨
 (x.k=2∧∃ b6 b5 b3 u gs m,v=.func (.func 101) #[] #[.pointer (some ⟨b6,0,none⟩),.pointer (some ⟨b5,0,none⟩),.pointer (some ⟨b3,0,none⟩)]∧(b6,#[.func (.func 87) #[] #[.pointer (some ⟨gs,0,none⟩)]],27)∈F∧(b5,#[.func (.func 143) #[] #[.pointer (some ⟨u,0,none⟩)]],124)∈F∧(b3,#[.pointer (some ⟨cb,o,none⟩)],89)∈F∧(u,#[.pointer (some ⟨cb,o,none⟩)],89)∈F∧(gs,#[.map (some m)],115)∈F∧MapS W m x.mi.L) ∨
 (x.k≠1∧x.k≠2∧v=.func (.func 100) #[] #[])
theorem AdIn.mk {W W':World} {F F':List GBk} {v:Value} {x:Fe} {cb o:Nat} (h:AdIn W F v x cb o) (hm:MK W W') (hF:∀ p∈F,p∈F'):AdIn W' F' v x cb o:=by
 rcases h with ⟨hk,b6,b5,b3,u,gs,m,h1,h2,h3,h4,h5,h6,h7⟩ | ⟨hk,b6,b5,b3,u,gs,m,h1,h2,h3,h4,h5,h6,h7⟩ | h
 ·exact .inl ⟨hk,b6,b5,b3,u,gs,m,h1,hF _ h2,hF _ h3,hF _ h4,hF _ h5,hF _ h6,h7.mk hm⟩
 ·exact .inr (.inl ⟨hk,b6,b5,b3,u,gs,m,h1,hF _ h2,hF _ h3,hF _ h4,hF _ h5,hF _ h6,h7.mk hm⟩)
 ·exact .inr (.inr h)
set_option maxRecDepth 100000 in
set_option maxHeartbeats 4000000 in
theorem numberReader_any (b:Bool) (A:Option Addr) (n c:Nat) (D:Option Addr) (m d:Nat) (w:World):Calls Tryz.prog 98 #[.agg #[.bool b,.slice A n c,.slice D m d]] w fun e w'=>e=.returned (.func (.func 141) #[] #[.pointer (some ⟨w.heap.size,0,none⟩)])∧w'=w.alloc (.cells #[.bool b,.slice A n c,.slice D m d] 46):=by
 go_enter Tryz.func98,Tryz.ntmps98
 go_wp2
 go_ret
 exact⟨rfl,rfl⟩
set_option maxRecDepth 100000 in
set_option maxHeartbeats 4000000 in
theorem levelReader_any (cb o:Nat) (w:World):Calls Tryz.prog 99 #[.pointer (some ⟨cb,o,none⟩)] w fun e w'=>e=.returned (.func (.func 143) #[] #[.pointer (some ⟨w.heap.size,0,none⟩)])∧w'=w.alloc (.cells #[.pointer (some ⟨cb,o,none⟩)] 89):=by
 go_enter Tryz.func99,Tryz.ntmps99
 go_wp2
 go_ret
 exact⟨rfl,rfl⟩
set_option maxRecDepth 100000 in
set_option maxHeartbeats 4000000 in
theorem adder_num (x:Fe) (cb o:Nat) (w0 w:World) (bs:List GBk) (rs:List GRd) (S0:St w0 w bs rs) (hmi:LR strC w0 x.mi.A x.mi.L.length x.mi.L) (hx:LtF x) (hk:x.k=1):Calls Tryz.prog 56 #[.agg #[.string x.n,.int .i64 x.k,.slice x.mi.A x.mi.L.length x.mi.c,.bool x.u.b,.slice x.u.x.A x.u.x.n x.u.x.c,.slice x.u.y.A x.u.y.n x.u.y.c],.pointer (some ⟨cb,o,none⟩)] w fun e w'=>∃ v F,e=.returned v∧St w0 w' (F++bs) rs∧AdIn w' F v x cb o∧MK w w':=by
 have g1:(x.k==1)=true:=by rw[hk];rfl
 have g2:(x.k==2)=false:=by rw[hk];rfl
 have hO:Hid (∀ W,Below w0.heap.size w0 W→Calls Tryz.prog 44 #[.slice x.mi.A x.mi.L.length x.mi.c] W fun e w'=>∃ g,e=.returned (.func (.func 87) #[] #[.pointer (some ⟨g,0,none⟩)])∧W.heap.size≤g∧SetAt w' g x.mi.L∧Below W.heap.size W w'):=Lib.hid fun W hb=>oneOf_any x.mi.L x.mi.A x.mi.L.length x.mi.c W (hmi.bel hb) (by have:=hx.2.1;omega) (fun s hs=>by have:=hx.2.2.1 s hs;omega)
 replace hk:=Lib.hid hk
 clear hmi hx
 have S:St w0 _ ((w.heap.size+1+1,#[.nilFunc],124)::(w.heap.size+1,#[.pointer (some ⟨cb,o,none⟩)],89)::(w.heap.size,#[.string x.n,.int .i64 x.k,.slice x.mi.A x.mi.L.length x.mi.c,.bool x.u.b,.slice x.u.x.A x.u.x.n x.u.x.c,.slice x.u.y.A x.u.y.n x.u.y.c],48)::bs) (rs):=(((S0.allocAt (w.heap.size) #[.string x.n,.int .i64 x.k,.slice x.mi.A x.mi.L.length x.mi.c,.bool x.u.b,.slice x.u.x.A x.u.x.n x.u.x.c,.slice x.u.y.A x.u.y.n x.u.y.c] 48 (noLof rfl) (by simp)).allocAt (w.heap.size+1) #[.pointer (some ⟨cb,o,none⟩)] 89 (noLof rfl) (by simp)).allocAt (w.heap.size+1+1) #[.nilFunc] 124 (noLof rfl) (by simp))
 replace S:=Lib.hid S
 have hmk:=Lib.hid ((((MK.refl w).alloc (.cells #[.string x.n,.int .i64 x.k,.slice x.mi.A x.mi.L.length x.mi.c,.bool x.u.b,.slice x.u.x.A x.u.x.n x.u.x.c,.slice x.u.y.A x.u.y.n x.u.y.c] 48)).alloc (.cells #[.pointer (some ⟨cb,o,none⟩)] 89)).alloc (.cells #[.nilFunc] 124))
 go_enter Tryz.func56,Tryz.ntmps56
 go_wp2_with fail
 refine (numberReader_any _ _ _ _ _ _ _ _).mono ?_
 rintro e w1 ⟨rfl,rfl⟩
 have S1:St w0 _ ((w.heap.size+1+1+1,#[.bool x.u.b,.slice x.u.x.A x.u.x.n x.u.x.c,.slice x.u.y.A x.u.y.n x.u.y.c],46)::(w.heap.size+1+1,#[.nilFunc],124)::(w.heap.size+1,#[.pointer (some ⟨cb,o,none⟩)],89)::(w.heap.size,#[.string x.n,.int .i64 x.k,.slice x.mi.A x.mi.L.length x.mi.c,.bool x.u.b,.slice x.u.x.A x.u.x.n x.u.x.c,.slice x.u.y.A x.u.y.n x.u.y.c],48)::bs) rs:=S.out.allocAt (w.heap.size+1+1+1) #[.bool x.u.b,.slice x.u.x.A x.u.x.n x.u.x.c,.slice x.u.y.A x.u.y.n x.u.y.c] 46 (noLof rfl) (by simp)
 have hmk1:=Lib.hid (hmk.out.alloc (.cells #[.bool x.u.b,.slice x.u.x.A x.u.x.n x.u.x.c,.slice x.u.y.A x.u.y.n x.u.y.c] 46))
 clear S hmk
 generalize hW:World.alloc _ _=w2 at S1 hmk1 ⊢
 clear hW
 replace S1:=Lib.hid S1
 have S:St w0 _ ((w.heap.size+1+1+1,#[.bool x.u.b,.slice x.u.x.A x.u.x.n x.u.x.c,.slice x.u.y.A x.u.y.n x.u.y.c],46)::(w.heap.size+1+1,#[.nilFunc],124)::(w.heap.size+1,#[.pointer (some ⟨cb,o,none⟩)],89)::(w.heap.size,#[.string x.n,.int .i64 x.k,.slice x.mi.A x.mi.L.length x.mi.c,.bool x.u.b,.slice x.u.x.A x.u.x.n x.u.x.c,.slice x.u.y.A x.u.y.n x.u.y.c],48)::bs) (rs):=S1.out
 obtain⟨c_u0,c_u1,c_u2,f_u0,f_u1,f_u2⟩:=S.cf3 0 rfl
 have c_r0:=S.cl 1 0 rfl rfl
 have f_r0:=S.f 1 0 rfl
 have c_p0:=S.cl 2 0 rfl rfl
 have f_p0:=S.f 2 0 rfl
 obtain⟨c_f0,c_f1,c_f2,c_f3,c_f4,c_f5,f_f0,f_f1,f_f2,f_f3,f_f4,f_f5⟩:=S.cf6 3 rfl
 have hz:w.heap.size+1+1+1<w2.heap.size:=S.lt 0 rfl
 replace S:=Lib.hid S
 have hmk2:=Lib.hid (hmk1.out.set (S.out.cb 1 rfl) 0 (.func (.func 141) #[] #[.pointer (some ⟨w.heap.size+1+1+1,0,none⟩)]))
 clear S1 hmk1
 go_wp2_with fail
 refine (hO.out _ (S.out.set 1 0 (.func (.func 141) #[] #[.pointer (some ⟨w.heap.size+1+1+1,0,none⟩)]) rfl (by nofun)).bel).mono ?_
 rintro e w1 ⟨gs,rfl,hgs,⟨m,hCs,hMs⟩,bb⟩
 have T:=((S.out.set 1 0 (.func (.func 141) #[] #[.pointer (some ⟨w.heap.size+1+1+1,0,none⟩)]) rfl (by nofun)).adopt bb hCs hgs (noLof rfl))
 clear S c_u0 f_u0 c_u1 f_u1 c_u2 f_u2 c_r0 f_r0 c_p0 f_p0 c_f0 f_f0 c_f1 f_f1 c_f2 f_f2 c_f3 f_f3 c_f4 f_f4 c_f5 f_f5 hz
 have S:=T
 clear T
 have c_s0:=S.cl 0 0 rfl rfl
 have f_s0:=S.f 0 0 rfl
 obtain⟨c_u0,c_u1,c_u2,f_u0,f_u1,f_u2⟩:=S.cf3 1 rfl
 have c_r0:=S.cl 2 0 rfl rfl
 have f_r0:=S.f 2 0 rfl
 have c_p0:=S.cl 3 0 rfl rfl
 have f_p0:=S.f 3 0 rfl
 obtain⟨c_f0,c_f1,c_f2,c_f3,c_f4,c_f5,f_f0,f_f1,f_f2,f_f3,f_f4,f_f5⟩:=S.cf6 4 rfl
 have hz:gs<w1.heap.size:=S.lt 0 rfl
 replace S:=Lib.hid S
 have hmk3:=Lib.hid (hmk2.out.bel bb)
 replace hMs:=Lib.hid hMs
 clear hmk2 bb hCs hgs hO
 have S:St w0 _ ((w1.heap.size,#[.func (.func 87) #[] #[.pointer (some ⟨gs,0,none⟩)]],27)::(gs,#[.map (some m)],115)::(w.heap.size+1+1+1,#[.bool x.u.b,.slice x.u.x.A x.u.x.n x.u.x.c,.slice x.u.y.A x.u.y.n x.u.y.c],46)::(w.heap.size+1+1,#[.func (.func 141) #[] #[.pointer (some ⟨w.heap.size+1+1+1,0,none⟩)]],124)::(w.heap.size+1,#[.pointer (some ⟨cb,o,none⟩)],89)::(w.heap.size,#[.string x.n,.int .i64 x.k,.slice x.mi.A x.mi.L.length x.mi.c,.bool x.u.b,.slice x.u.x.A x.u.x.n x.u.x.c,.slice x.u.y.A x.u.y.n x.u.y.c],48)::bs) (rs):=(S.out.allocAt (w1.heap.size) #[.func (.func 87) #[] #[.pointer (some ⟨gs,0,none⟩)]] 27 (noLof rfl) (by simp))
 replace S:=Lib.hid S
 have hmk4:=Lib.hid (hmk3.out.alloc (.cells #[.func (.func 87) #[] #[.pointer (some ⟨gs,0,none⟩)]] 27))
 have hMs4:=Lib.hid (hMs.out.mk ((MK.refl w1).alloc (.cells #[.func (.func 87) #[] #[.pointer (some ⟨gs,0,none⟩)]] 27)))
 clear hMs hmk3
 go_wp2
 go_ret
 exact⟨_,[(w1.heap.size,#[.func (.func 87) #[] #[.pointer (some ⟨gs,0,none⟩)]],27),(gs,#[.map (some m)],115),(w.heap.size+1+1+1,#[.bool x.u.b,.slice x.u.x.A x.u.x.n x.u.x.c,.slice x.u.y.A x.u.y.n x.u.y.c],46),(w.heap.size+1+1,#[.func (.func 141) #[] #[.pointer (some ⟨w.heap.size+1+1+1,0,none⟩)]],124),(w.heap.size+1,#[.pointer (some ⟨cb,o,none⟩)],89),(w.heap.size,#[.string x.n,.int .i64 x.k,.slice x.mi.A x.mi.L.length x.mi.c,.bool x.u.b,.slice x.u.x.A x.u.x.n x.u.x.c,.slice x.u.y.A x.u.y.n x.u.y.c],48)],rfl,S.out,.inl ⟨hk.out,w1.heap.size,w.heap.size+1+1,w.heap.size+1,w.heap.size+1+1+1,gs,m,rfl,by simp,by simp,by simp,by simp,by simp,hMs4.out⟩,hmk4.out⟩
set_option maxRecDepth 100000 in
set_option maxHeartbeats 4000000 in
theorem adder_cat (x:Fe) (cb o:Nat) (w0 w:World) (bs:List GBk) (rs:List GRd) (S0:St w0 w bs rs) (hmi:LR strC w0 x.mi.A x.mi.L.length x.mi.L) (hx:LtF x) (hk:x.k=2):Calls Tryz.prog 56 #[.agg #[.string x.n,.int .i64 x.k,.slice x.mi.A x.mi.L.length x.mi.c,.bool x.u.b,.slice x.u.x.A x.u.x.n x.u.x.c,.slice x.u.y.A x.u.y.n x.u.y.c],.pointer (some ⟨cb,o,none⟩)] w fun e w'=>∃ v F,e=.returned v∧St w0 w' (F++bs) rs∧AdIn w' F v x cb o∧MK w w':=by
 have g1:(x.k==1)=false:=by rw[hk];rfl
 have g2:(x.k==2)=true:=by rw[hk];rfl
 have hO:Hid (∀ W,Below w0.heap.size w0 W→Calls Tryz.prog 44 #[.slice x.mi.A x.mi.L.length x.mi.c] W fun e w'=>∃ g,e=.returned (.func (.func 87) #[] #[.pointer (some ⟨g,0,none⟩)])∧W.heap.size≤g∧SetAt w' g x.mi.L∧Below W.heap.size W w'):=Lib.hid fun W hb=>oneOf_any x.mi.L x.mi.A x.mi.L.length x.mi.c W (hmi.bel hb) (by have:=hx.2.1;omega) (fun s hs=>by have:=hx.2.2.1 s hs;omega)
 replace hk:=Lib.hid hk
 clear hmi hx
 have S:St w0 _ ((w.heap.size+1+1,#[.nilFunc],124)::(w.heap.size+1,#[.pointer (some ⟨cb,o,none⟩)],89)::(w.heap.size,#[.string x.n,.int .i64 x.k,.slice x.mi.A x.mi.L.length x.mi.c,.bool x.u.b,.slice x.u.x.A x.u.x.n x.u.x.c,.slice x.u.y.A x.u.y.n x.u.y.c],48)::bs) (rs):=(((S0.allocAt (w.heap.size) #[.string x.n,.int .i64 x.k,.slice x.mi.A x.mi.L.length x.mi.c,.bool x.u.b,.slice x.u.x.A x.u.x.n x.u.x.c,.slice x.u.y.A x.u.y.n x.u.y.c] 48 (noLof rfl) (by simp)).allocAt (w.heap.size+1) #[.pointer (some ⟨cb,o,none⟩)] 89 (noLof rfl) (by simp)).allocAt (w.heap.size+1+1) #[.nilFunc] 124 (noLof rfl) (by simp))
 replace S:=Lib.hid S
 have hmk:=Lib.hid ((((MK.refl w).alloc (.cells #[.string x.n,.int .i64 x.k,.slice x.mi.A x.mi.L.length x.mi.c,.bool x.u.b,.slice x.u.x.A x.u.x.n x.u.x.c,.slice x.u.y.A x.u.y.n x.u.y.c] 48)).alloc (.cells #[.pointer (some ⟨cb,o,none⟩)] 89)).alloc (.cells #[.nilFunc] 124))
 go_enter Tryz.func56,Tryz.ntmps56
 go_wp2_with fail
 refine (levelReader_any cb o _).mono ?_
 rintro e w1 ⟨rfl,rfl⟩
 have S1:St w0 _ ((w.heap.size+1+1+1,#[.pointer (some ⟨cb,o,none⟩)],89)::(w.heap.size+1+1,#[.nilFunc],124)::(w.heap.size+1,#[.pointer (some ⟨cb,o,none⟩)],89)::(w.heap.size,#[.string x.n,.int .i64 x.k,.slice x.mi.A x.mi.L.length x.mi.c,.bool x.u.b,.slice x.u.x.A x.u.x.n x.u.x.c,.slice x.u.y.A x.u.y.n x.u.y.c],48)::bs) rs:=S.out.allocAt (w.heap.size+1+1+1) #[.pointer (some ⟨cb,o,none⟩)] 89 (noLof rfl) (by simp)
 have hmk1:=Lib.hid (hmk.out.alloc (.cells #[.pointer (some ⟨cb,o,none⟩)] 89))
 clear S hmk
 generalize hW:World.alloc _ _=w2 at S1 hmk1 ⊢
 clear hW
 replace S1:=Lib.hid S1
 have S:St w0 _ ((w.heap.size+1+1+1,#[.pointer (some ⟨cb,o,none⟩)],89)::(w.heap.size+1+1,#[.nilFunc],124)::(w.heap.size+1,#[.pointer (some ⟨cb,o,none⟩)],89)::(w.heap.size,#[.string x.n,.int .i64 x.k,.slice x.mi.A x.mi.L.length x.mi.c,.bool x.u.b,.slice x.u.x.A x.u.x.n x.u.x.c,.slice x.u.y.A x.u.y.n x.u.y.c],48)::bs) (rs):=S1.out
 have c_u0:=S.cl 0 0 rfl rfl
 have f_u0:=S.f 0 0 rfl
 have c_r0:=S.cl 1 0 rfl rfl
 have f_r0:=S.f 1 0 rfl
 have c_p0:=S.cl 2 0 rfl rfl
 have f_p0:=S.f 2 0 rfl
 obtain⟨c_f0,c_f1,c_f2,c_f3,c_f4,c_f5,f_f0,f_f1,f_f2,f_f3,f_f4,f_f5⟩:=S.cf6 3 rfl
 have hz:w.heap.size+1+1+1<w2.heap.size:=S.lt 0 rfl
 replace S:=Lib.hid S
 have hmk2:=Lib.hid (hmk1.out.set (S.out.cb 1 rfl) 0 (.func (.func 143) #[] #[.pointer (some ⟨w.heap.size+1+1+1,0,none⟩)]))
 clear S1 hmk1
 go_wp2_with fail
 refine (hO.out _ (S.out.set 1 0 (.func (.func 143) #[] #[.pointer (some ⟨w.heap.size+1+1+1,0,none⟩)]) rfl (by nofun)).bel).mono ?_
 rintro e w1 ⟨gs,rfl,hgs,⟨m,hCs,hMs⟩,bb⟩
 have T:=((S.out.set 1 0 (.func (.func 143) #[] #[.pointer (some ⟨w.heap.size+1+1+1,0,none⟩)]) rfl (by nofun)).adopt bb hCs hgs (noLof rfl))
 clear S c_u0 f_u0 c_r0 f_r0 c_p0 f_p0 c_f0 f_f0 c_f1 f_f1 c_f2 f_f2 c_f3 f_f3 c_f4 f_f4 c_f5 f_f5 hz
 have S:=T
 clear T
 have c_s0:=S.cl 0 0 rfl rfl
 have f_s0:=S.f 0 0 rfl
 have c_u0:=S.cl 1 0 rfl rfl
 have f_u0:=S.f 1 0 rfl
 have c_r0:=S.cl 2 0 rfl rfl
 have f_r0:=S.f 2 0 rfl
 have c_p0:=S.cl 3 0 rfl rfl
 have f_p0:=S.f 3 0 rfl
 obtain⟨c_f0,c_f1,c_f2,c_f3,c_f4,c_f5,f_f0,f_f1,f_f2,f_f3,f_f4,f_f5⟩:=S.cf6 4 rfl
 have hz:gs<w1.heap.size:=S.lt 0 rfl
 replace S:=Lib.hid S
 have hmk3:=Lib.hid (hmk2.out.bel bb)
 replace hMs:=Lib.hid hMs
 clear hmk2 bb hCs hgs hO
 have S:St w0 _ ((w1.heap.size,#[.func (.func 87) #[] #[.pointer (some ⟨gs,0,none⟩)]],27)::(gs,#[.map (some m)],115)::(w.heap.size+1+1+1,#[.pointer (some ⟨cb,o,none⟩)],89)::(w.heap.size+1+1,#[.func (.func 143) #[] #[.pointer (some ⟨w.heap.size+1+1+1,0,none⟩)]],124)::(w.heap.size+1,#[.pointer (some ⟨cb,o,none⟩)],89)::(w.heap.size,#[.string x.n,.int .i64 x.k,.slice x.mi.A x.mi.L.length x.mi.c,.bool x.u.b,.slice x.u.x.A x.u.x.n x.u.x.c,.slice x.u.y.A x.u.y.n x.u.y.c],48)::bs) (rs):=(S.out.allocAt (w1.heap.size) #[.func (.func 87) #[] #[.pointer (some ⟨gs,0,none⟩)]] 27 (noLof rfl) (by simp))
 replace S:=Lib.hid S
 have hmk4:=Lib.hid (hmk3.out.alloc (.cells #[.func (.func 87) #[] #[.pointer (some ⟨gs,0,none⟩)]] 27))
 have hMs4:=Lib.hid (hMs.out.mk ((MK.refl w1).alloc (.cells #[.func (.func 87) #[] #[.pointer (some ⟨gs,0,none⟩)]] 27)))
 clear hMs hmk3
 go_wp2
 go_ret
 exact⟨_,[(w1.heap.size,#[.func (.func 87) #[] #[.pointer (some ⟨gs,0,none⟩)]],27),(gs,#[.map (some m)],115),(w.heap.size+1+1+1,#[.pointer (some ⟨cb,o,none⟩)],89),(w.heap.size+1+1,#[.func (.func 143) #[] #[.pointer (some ⟨w.heap.size+1+1+1,0,none⟩)]],124),(w.heap.size+1,#[.pointer (some ⟨cb,o,none⟩)],89),(w.heap.size,#[.string x.n,.int .i64 x.k,.slice x.mi.A x.mi.L.length x.mi.c,.bool x.u.b,.slice x.u.x.A x.u.x.n x.u.x.c,.slice x.u.y.A x.u.y.n x.u.y.c],48)],rfl,S.out,.inr (.inl ⟨hk.out,w1.heap.size,w.heap.size+1+1,w.heap.size+1,w.heap.size+1+1+1,gs,m,rfl,by simp,by simp,by simp,by simp,by simp,hMs4.out⟩),hmk4.out⟩
end Go.Proofs.YtdeedofmflelfaaGreatDoor
