/- two ways of each. -/
import Derived.Test.YthlinhconnmbcaaGreatB20
set_option linter.unusedVariables false
namespace Go.Proofs.YthlinhconnmbcaaGreat
open Go.RowKit RQ
def RetMX (k:Int) (Q:List (List Rat)) (w:World) (e:Ending) (w':World):Prop:=∃ A n c M,e=.returned (.tuple #[.slice A n c,.int .i64 k])∧Mr w' A n c M∧canM M∧qM M=Q∧n≤1000∧Below w.heap.size w w'
def RetLX (k:Int) (Q:List Rat) (w:World) (e:Ending) (w':World):Prop:=∃ A n c L,e=.returned (.tuple #[.slice A n c,.int .i64 k])∧Sr w' A n c L∧(∀ x∈L,x.can)∧L.map (·.q)=Q∧n≤1000∧Below w.heap.size w w'
theorem RetE.lx {w:World} {e:Ending} {w':World} (h:RetE w e w'):RetLX 6 [] w e w':=⟨none,0,0,[],h.1,Sr.none_ _ _ _,fun r hr=>(by cases hr),rfl,by omega,h.2⟩
theorem RetLE.lx {Q:List Rat} {w:World} {e:Ending} {w':World} (h:RetLE Q w e w') (hQ:Q.length≤1000):RetLX 0 Q w e w':=by
 obtain⟨A,n,c,M,h1,h2,h3,h4,h5⟩:=h;refine⟨A,n,c,M,h1,h2,h3,h4,?_,h5⟩
 rw[←h2.len];rw[←h4] at hQ;rwa [List.length_map] at hQ
theorem colM_le {M:List Ro} (h:wfM M=true):colM M≤96:=by
 cases hM:M with
 | nil=>show 0≤96;omega
 | cons r l=>have:=(wf_row h (r:=r) (by rw[hM];exact List.mem_cons_self));rw[←hM];omega
end Go.Proofs.YthlinhconnmbcaaGreat
