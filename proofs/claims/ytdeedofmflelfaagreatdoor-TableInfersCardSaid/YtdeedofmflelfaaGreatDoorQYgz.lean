/- Decimal digits, plain: what Format writes is what Parse takes, and back. -/
import Derived.Lib.AppendIntMem
import Derived.Test.YtdeedofmflelfaaGreatDoorQYdz
import Derived.Test.YtdeedofmflelfaaGreatDoorQYaz
namespace Go.Proofs.YtdeedofmflelfaaGreatDoor
open Go.RowKit
theorem Gr.grown {w w':World} {base g:Nat} {v:Value} {zs:List Nat} (h:Gr w base v zs) (hg:w.grownBy w' (some g)) (hlt:g<base):Gr w' base v zs:=by
 refine⟨⟨h.own.1,?_⟩,h.sm⟩
 rcases h.own.2 with h2 | ⟨g',cap,cur,hv,hbg,hh,hr⟩
 ·exact .inl h2
 ·have hl:g'<w.heap.size:=by
   rcases Nat.lt_or_ge g' w.heap.size with h | h
   ·exact h
   ·rw[Array.getElem?_eq_none h] at hh;cases hh
  exact .inr ⟨g',cap,cur,hv,hbg,by rw[hg.block g' hl (by intro e;injection e with e;omega)];exact hh,hr⟩
end Go.Proofs.YtdeedofmflelfaaGreatDoor

namespace Go.Proofs.YtdeedofmflelfaaGreatDoor
open Go.RowKit
end Go.Proofs.YtdeedofmflelfaaGreatDoor
