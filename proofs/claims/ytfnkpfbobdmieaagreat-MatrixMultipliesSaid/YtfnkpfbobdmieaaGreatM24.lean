/- two ways of each. -/
import Derived.Test.YtfnkpfbobdmieaaGreatM23
set_option linter.unusedVariables false
namespace Go.Proofs.YtfnkpfbobdmieaaGreat
open Go.RowKit RQ
def RetMX (k:Int) (Q:List (List Rat)) (w:World) (e:Ending) (w':World):Prop:=∃ A n c M,e=.returned (.tuple #[.slice A n c,.int .i64 k])∧Mr w' A n c M∧canM M∧qM M=Q∧n≤1000∧Below w.heap.size w w'
def RetLX (k:Int) (Q:List Rat) (w:World) (e:Ending) (w':World):Prop:=∃ A n c L,e=.returned (.tuple #[.slice A n c,.int .i64 k])∧Sr w' A n c L∧(∀ x∈L,x.can)∧L.map (·.q)=Q∧n≤1000∧Below w.heap.size w w'
theorem RetE.mx {w:World} {e:Ending} {w':World} (h:RetE w e w'):RetMX 6 [] w e w':=⟨none,0,0,[],h.1,⟨rfl,Nat.le_refl _,.inl rfl,fun r hr=>(by cases hr)⟩,fun r hr=>(by cases hr),rfl,by omega,h.2⟩
theorem RetE.lx {w:World} {e:Ending} {w':World} (h:RetE w e w'):RetLX 6 [] w e w':=⟨none,0,0,[],h.1,Sr.none_ _ _ _,fun r hr=>(by cases hr),rfl,by omega,h.2⟩
theorem RetME.mx {Q:List (List Rat)} {w:World} {e:Ending} {w':World} (h:RetME Q w e w') (hQ:Q.length≤1000):RetMX 0 Q w e w':=by
 obtain⟨A,n,c,M,h1,h2,h3,h4,h5⟩:=h;refine⟨A,n,c,M,h1,h2,h3,h4,?_,h5⟩
 rw[←h2.len];rw[←h4] at hQ;unfold qM at hQ;rwa [List.length_map] at hQ
theorem RetLE.lx {Q:List Rat} {w:World} {e:Ending} {w':World} (h:RetLE Q w e w') (hQ:Q.length≤1000):RetLX 0 Q w e w':=by
 obtain⟨A,n,c,M,h1,h2,h3,h4,h5⟩:=h;refine⟨A,n,c,M,h1,h2,h3,h4,?_,h5⟩
 rw[←h2.len];rw[←h4] at hQ;rwa [List.length_map] at hQ
theorem colM_le {M:List Ro} (h:wfM M=true):colM M≤96:=by
 cases hM:M with
 | nil=>show 0≤96;omega
 | cons r l=>have:=(wf_row h (r:=r) (by rw[hM];exact List.mem_cons_self));rw[←hM];omega
theorem trans_two (M:List Ro) (A:Option Addr) (n c:Nat) (hm:∀ r∈M,r.n≤9223372036854775807) (hn:n≤9223372036854775807) (lm:ltM M):∃ k Q,(∀ W,Mr W A n c M→Calls Tryz.prog 9 #[.slice A n c] W (RetMX k Q W))∧(∀ W,Mr W A n c M→Calls Tryz.prog 10 #[.slice A n c] W (RetMX k Q W)):=by
 cases hwf:wfM M
 ·exact⟨6,[],fun W h=>(mtrans_no M A n c W h hm hn hwf).mono fun _ _ h=>h.mx,fun W h=>(rtrans_no M A n c W h hm hn hwf).mono fun _ _ h=>h.mx⟩
 ·have hq:(tQ M).length≤1000:=by rw[tQ_len];have:=colM_le hwf;omega
  exact⟨0,tQ M,fun W h=>(mtrans_yes M A n c W h hm hn lm hwf).mono fun _ _ h=>h.mx hq,fun W h=>(rtrans_yes M A n c W h hm hn lm hwf).mono fun _ _ h=>h.mx hq⟩
theorem mul_two (M:List Ro) (A:Option Addr) (n c:Nat) (hl:M.length=n) (hm:∀ r∈M,r.n≤9223372036854775807) (hn:n≤9223372036854775807) (lm:ltM M) (N:List Ro) (A':Option Addr) (n' c':Nat) (hm':∀ r∈N,r.n≤9223372036854775807) (hn':n'≤9223372036854775807) (ln:ltM N) (h6:n'≤6):∃ k Q,(∀ W,Mr W A n c M→Mr W A' n' c' N→Calls Tryz.prog 11 #[.slice A n c,.slice A' n' c'] W (RetMX k Q W))∧(∀ W,Mr W A n c M→Mr W A' n' c' N→Calls Tryz.prog 12 #[.slice A n c,.slice A' n' c'] W (RetMX k Q W)):=by
 cases hwf:wfM M
 ·exact⟨6,[],fun W h h'=>(mmul_no1 M A n c N A' n' c' W h hm hn h' hm' hn' hwf).mono fun _ _ h=>h.mx,fun W h h'=>(rmul_no1 M A n c N A' n' c' W h hm hn h' hm' hn' hwf).mono fun _ _ h=>h.mx⟩
 cases hwg:wfM N
 ·exact⟨6,[],fun W h h'=>(mmul_no2 M A n c N A' n' c' W h hm hn h' hm' hn' hwf hwg).mono fun _ _ h=>h.mx,fun W h h'=>(rmul_no2 M A n c N A' n' c' W h hm hn h' hm' hn' hwf hwg).mono fun _ _ h=>h.mx⟩
 by_cases hc:colM M=n'
 ·have hq:(prodQ M N).length≤1000:=by unfold prodQ;rw[List.length_map];have:=wf_len hwf;omega
  exact⟨0,prodQ M N,fun W h h'=>(mmul_yes M A n c N A' n' c' W h hm hn h' hm' hn' lm ln hwf hwg hc h6).mono fun _ _ h=>h.mx hq,fun W h h'=>(rmul_yes M A n c N A' n' c' W h hm hn h' hm' hn' lm ln hwf hwg hc).mono fun _ _ h=>h.mx hq⟩
 ·exact⟨6,[],fun W h h'=>(mmul_no3 M A n c N A' n' c' W h hm hn h' hm' hn' hwf hwg hc).mono fun _ _ h=>h.mx,fun W h h'=>(rmul_no3 M A n c N A' n' c' W h hm hn h' hm' hn' hwf hwg hc).mono fun _ _ h=>h.mx⟩
theorem apply_two (M:List Ro) (A:Option Addr) (n c:Nat) (hm:∀ r∈M,r.n≤9223372036854775807) (hn:n≤9223372036854775807) (lm:ltM M) (L:List Rt) (A':Option Addr) (n' c':Nat) (ll:ltL L) (h6:n'≤6):∃ k Q,(∀ W,Mr W A n c M→Sr W A' n' c' L→Calls Tryz.prog 13 #[.slice A n c,.slice A' n' c'] W (RetLX k Q W))∧(∀ W,Mr W A n c M→Sr W A' n' c' L→Calls Tryz.prog 14 #[.slice A n c,.slice A' n' c'] W (RetLX k Q W)):=by
 cases hwf:wfM M
 ·exact⟨6,[],fun W h h'=>(mapply_no1 M A n c L A' n' c' W h hm hn h' lm ll hwf).mono fun _ _ h=>h.lx,fun W h h'=>(rapply_no1 M A n c L A' n' c' W h hm hn h' lm ll hwf).mono fun _ _ h=>h.lx⟩
 by_cases hc:n'=colM M
 ·have hq:(apQ M L).length≤1000:=by unfold apQ;rw[List.length_map];have:=wf_len hwf;omega
  exact⟨0,apQ M L,fun W h h'=>(mapply_yes M A n c L A' n' c' W h hm hn h' lm ll hwf hc h6).mono fun _ _ h=>h.lx hq,fun W h h'=>(rapply_yes M A n c L A' n' c' W h hm hn h' lm ll hwf hc).mono fun _ _ h=>h.lx hq⟩
 ·exact⟨6,[],fun W h h'=>(mapply_no2 M A n c L A' n' c' W h hm hn h' lm ll hwf hc).mono fun _ _ h=>h.lx,fun W h h'=>(rapply_no2 M A n c L A' n' c' W h hm hn h' lm ll hwf hc).mono fun _ _ h=>h.lx⟩
theorem lt_of {W:World} {L:List Rt} (hr:∀ x∈L,x.raw W) (hq:∀ x∈L,x.q=rv x.b x.x x.y) (hl:lL L=true):ltL L:=fun x hx=>by
 have h:=List.all_eq_true.1 hl x hx;unfold lightB at h;simp only[Bool.and_eq_true,decide_eq_true_eq] at h;refine⟨⟨(hq x hx).symm,by omega,by omega⟩,?_⟩
 rw[hq x hx];exact Rs.of (hr x hx).1.sm (hr x hx).2.sm (by rw[(hr x hx).1.len];exact h.1) (by rw[(hr x hx).2.len];exact h.2) (by decide)
end Go.Proofs.YtfnkpfbobdmieaaGreat
