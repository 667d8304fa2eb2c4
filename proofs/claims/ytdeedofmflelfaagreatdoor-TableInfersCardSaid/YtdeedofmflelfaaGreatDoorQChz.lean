/- Rows without missing cells. Complete. Complete rows: what is counted. The law: complete rows. -/
import Derived.Test.YtdeedofmflelfaaGreatDoorQCaz
import Derived.Test.YtdeedofmflelfaaGreatDoorQBmz
namespace Go.Proofs.YtdeedofmflelfaaGreatDoor
open Go.RowKit RQ
set_option linter.unusedVariables false
end Go.Proofs.YtdeedofmflelfaaGreatDoor

namespace Go.Proofs.YtdeedofmflelfaaGreatDoor
open Go.RowKit RQ
set_option linter.unusedVariables false
def Hit (L:List Cl) (s:ByteArray) (q:Nat):Prop:=∃ x,L[q]?=some x∧seB x.n s=true∧∀ j t,j<q→L[j]?=some t→seB t.n s=false
def NdOK (L:List Cl) (ns:List ByteArray) (Nd:List Bool):Prop:=∀ q,Nd[q]?=some true↔∃ s∈ns,Hit L s q
def Found (L:List Cl) (ns:List ByteArray):Prop:=∀ s∈ns,∃ x∈L,seB x.n s=true
theorem NdOK.nil_ (L:List Cl) (n:Nat):NdOK L [] (List.replicate n false):=fun q=>by
 constructor
 ·intro h
  rw[List.getElem?_replicate] at h
  split at h
  ·cases h
  ·cases h
 ·rintro ⟨s,hs,_⟩;cases hs
theorem IxF.hit {L:List Cl} {s:ByteArray} {z:Int} (h:IxF L (fun x=>seB x.n s) z) (hf:∃ x∈L,seB x.n s=true):∃ k:Nat,z=k∧Hit L s k∧k<L.length:=by
 rcases h with ⟨_,h⟩ | ⟨i,r,rfl,hr,hp,hall⟩
 ·obtain⟨x,hx,h1⟩:=hf
  exact absurd (show seB x.n s=true from h1) (by rw[show seB x.n s=false from h x hx];simp)
 ·exact⟨i,rfl,⟨r,hr,hp,hall⟩,(List.getElem?_eq_some_iff.1 hr).1⟩
end Go.Proofs.YtdeedofmflelfaaGreatDoor

namespace Go.Proofs.YtdeedofmflelfaaGreatDoor
open Go.RowKit RQ
set_option linter.unusedVariables false
theorem Found.app {L:List Cl} {a b:List ByteArray} (h1:Found L a) (h2:Found L b):Found L (a++b):=fun s hs=>by
 rcases List.mem_append.1 hs with h | h
 ·exact h1 s h
 ·exact h2 s h
end Go.Proofs.YtdeedofmflelfaaGreatDoor

namespace Go.Proofs.YtdeedofmflelfaaGreatDoor
open Go.RowKit RQ
set_option linter.unusedVariables false
end Go.Proofs.YtdeedofmflelfaaGreatDoor
