/- Integers: a sign and limbs; a block that holds one; Valid of both. Contracts of known and signed. Contract of Mul. The reference's Valid, Take and signed; two and four blocks of pairs. -/
import Derived.Test.YtdeedofmflelfaaGreatDoorQWqz
import Derived.Test.YtdeedofmflelfaaGreatDoorQWzz
import Derived.Test.YtdeedofmflelfaaGreatDoorQWjz
import Derived.Deep.RegionHeld3
import Derived.RegionTactic
import Derived.Deep.RegionWith
import Derived.Test.YtdeedofmflelfaaGreatDoorQWez
import Derived.Deep.DeepCutAuto
namespace Go.Proofs.YtdeedofmflelfaaGreatDoor
open Go.RowKit
/-- Is a pair of a sign and limbs valid? -/
def vldI (b:Bool) (xs:List Nat):Bool:=vldB xs && !(b&&xs.length==0)
/-- A sign and a size as an integer. -/
def sg (b:Bool) (N:Nat):Int:=if b then -(N:Int) else (N:Int)
/-- What a pair of a sign and limbs counts as. -/
def iv (b:Bool) (xs:List Nat):Int:=if vldI b xs then sg b (val xs) else 0
/-- The sign of an integer, as it is kept. -/
def ng (z:Int):Bool:=decide (z<0)
theorem ng_sg {b:Bool} {N:Nat} (h:0<N):ng (sg b N)=b:=by
 unfold ng sg;cases b<;>simp<;>omega
theorem abs_sg (b:Bool) (N:Nat):(sg b N).natAbs=N:=by
 unfold sg;cases b<;>simp
theorem sg_zero (b:Bool):sg b 0=0:=by unfold sg;cases b<;>simp
theorem sg_ng (z:Int):sg (ng z) z.natAbs=z:=by
 unfold sg ng
 by_cases h:z<0
 ·rw[decide_eq_true h];simp;omega
 ·rw[decide_eq_false h];simp;omega
theorem vldI_z (z:Int):vldI (ng z) (limbs z.natAbs)=true:=by
 unfold vldI
 rw[vldB_limbs]
 by_cases h:z<0
 ·have:0<(limbs z.natAbs).length:=by rw[limbs_pos (by omega)];simp
  have h2:((limbs z.natAbs).length==0)=false:=by rw[beq_eq_false_iff_ne];omega
  rw[h2];simp
 ·have:ng z=false:=decide_eq_false h
  rw[this];rfl
theorem iv_z (z:Int):iv (ng z) (limbs z.natAbs)=z:=by
 unfold iv;rw[vldI_z,if_pos rfl,val_limbs,sg_ng]
theorem iv_no {b:Bool} {xs:List Nat} (h:vldI b xs=false):iv b xs=0:=by unfold iv;rw[h];rfl
theorem iv_yes {b:Bool} {xs:List Nat} (h:vldI b xs=true):iv b xs=sg b (val xs):=by unfold iv;rw[h];rfl
theorem vldI_parts {b:Bool} {xs:List Nat} (h:vldI b xs=true):vldB xs=true∧(b=true→xs≠[]):=by
 unfold vldI at h
 rw[Bool.and_eq_true] at h
 refine⟨h.1,fun hb hx=>?_⟩
 rw[hb,hx] at h
 simp at h
/-- A valid pair is the one that belongs to its integer. -/
theorem canon {b:Bool} {xs:List Nat} (hs:Sm xs) (h:vldI b xs=true):b=ng (iv b xs)∧xs=limbs (iv b xs).natAbs:=by
 obtain⟨h1,h2⟩:=vldI_parts h
 rw[iv_yes h,abs_sg,limbs_val hs h1]
 refine⟨?_,rfl⟩
 by_cases hx:xs=[]
 ·subst hx
  have:b=false:=by cases b;rfl;exact absurd rfl (h2 rfl)
  subst this;rfl
 ·exact (ng_sg (val_pos h1 hx)).symm
theorem iv_abs {b:Bool} {xs:List Nat} {k:Nat} (hs:Sm xs) (hl:xs.length≤k):(limbs (iv b xs).natAbs).length≤k:=by
 cases h:vldI b xs
 ·rw[iv_no h];simp[limbs_zero]
 ·rw[←(canon hs h).2];exact hl
/-- What a function that returns one integer leaves. -/
def RetI (z:Int) (w:World) (e:Ending) (w':World):Prop:=∃ A n c,e=.returned (.agg #[.bool (ng z),.slice A n c])∧Rd w' A n c (limbs z.natAbs)∧Below w.heap.size w w'
/-- A block of the call's own that holds a pair. -/
def Bx (w:World) (g:Nat) (b:Bool) (A:Option Addr) (n c:Nat):Prop:=w.heap[g]?=some (.cells #[.bool b,.slice A n c] 44 (0,0))
section
variable {w w':World} {g:Nat} {b:Bool} {A:Option Addr} {n c:Nat}
theorem Bx.lt (h:Bx w g b A n c):g<w.heap.size:=by
 rcases Nat.lt_or_ge g w.heap.size with hlt | hge
 ·exact hlt
 ·unfold Bx at h;rw[Array.getElem?_eq_none hge] at h;cases h
theorem Bx.at_ (h:Bx w g b A n c):w.cell? ⟨g,0,none⟩=some (.bool b)∧w.cell? ⟨g,1,none⟩=some (.slice A n c)∧w.frozen? ⟨g,0,none⟩=false∧w.frozen? ⟨g,1,none⟩=false:=by
 refine⟨?_,?_,?_,?_⟩
 iterate 2 (rw[cell_of_row w g _ _ 44 (0,0) h];rfl)
 all_goals (unfold Bx at h;simp[World.frozen?,h])
theorem Bx.new (w:World) (b:Bool) (A:Option Addr) (n c:Nat):Bx (w.alloc (.cells #[.bool b,.slice A n c] 44)) w.heap.size b A n c:=heap_alloc_new w _
theorem Bx.keep (h:Bx w g b A n c) (hk:w'.heap[g]?=w.heap[g]?):Bx w' g b A n c:=hk.trans h
theorem Bx.alloc (h:Bx w g b A n c) (o:Obj):Bx (w.alloc o) g b A n c:=h.keep (Below.heap_alloc w o g h.lt)
theorem Bx.below {B:Nat} (h:Bx w g b A n c) (hb:Below B w w') (hg:g<B):Bx w' g b A n c:=h.keep (hb.block g hg)
theorem Bx.bel (h:Bx w g b A n c) (hb:Below w.heap.size w w'):Bx w' g b A n c:=h.below hb h.lt
theorem Bx.drew (h:Bx w g b A n c):Bx w.drew g b A n c:=h
theorem Bx.drewN (h:Bx w g b A n c) (k:Nat):Bx (w.drewN k) g b A n c:=h
/-- A pair is stored whole. -/
theorem Bx.put (h:Bx w g b A n c) (b':Bool) (A':Option Addr) (n' c':Nat):Bx ((w.setCell ⟨g,0,none⟩ (.bool b')).setCell ⟨g,1,none⟩ (.slice A' n' c')) g b' A' n' c':=by
 unfold Bx at *
 simp[World.setCell,Array.getElem?_modify,h]
theorem Bx.far (h:Bx w g b A n c) {p:Addr} (hp:g≠p.block) (u:Value):Bx (w.setCell p u) g b A n c:=h.keep (Below.heap_setCell w p u g hp)
end
theorem put_below {B:Nat} {a w:World} {g:Nat} (v0 v1:Value) (h:Below B a w) (hg:B≤g):Below B a ((w.setCell ⟨g,0,none⟩ v0).setCell ⟨g,1,none⟩ v1):=(h.setCell hg _).setCell hg _
theorem cast_beq (n:Nat):((n:Int)==0)=(n==0):=by rw[Bool.eq_iff_iff];simp
set_option maxHeartbeats 1000000 in
theorem validI_any (b:Bool) (A:Option Addr) (n c:Nat) (xs:List Nat) (w:World) (h:Rd w A n c xs) (hn:n≤10000) :
  Calls Tryz.prog 153 #[.agg #[.bool b,.slice A n c]] w fun e w'=>e=.returned (.bool (vldI b xs))∧Below w.heap.size w w':=by
 have hl:=h.len
 have hv:=valid_any A n c xs (w.alloc (.cells #[.bool b,.slice A n c] 44)) (h.alloc _) (by omega)
 have Hb:=Lib.hid (((Below.refl w.heap.size w).alloc (Nat.le_refl _) (.cells #[.bool b,.slice A n c] 44)))
 unfold vldI
 rw[hl]
 replace hl:=Lib.hid hl
 replace h:=Lib.hid h
 cases hb:vldB xs
 ·rw[hb] at hv
  replace hv:=Lib.hid hv
  clear hb
  go_enter Tryz.func153,Tryz.ntmps153
  go_wp2_with (go_at_call 178;refine hv.out.mono ?_;rintro e w1 ⟨rfl,rfl⟩)
  go_ret
  exact⟨rfl,Hb.out⟩
 ·rw[hb] at hv
  replace hv:=Lib.hid hv
  clear hb
  cases b
  ·go_enter Tryz.func153,Tryz.ntmps153
   go_wp2_with (go_at_call 178;refine hv.out.mono ?_;rintro e w1 ⟨rfl,rfl⟩)
   go_ret
   exact⟨rfl,Hb.out⟩
  ·go_enter Tryz.func153,Tryz.ntmps153
   go_wp2_with (go_at_call 178;refine hv.out.mono ?_;rintro e w1 ⟨rfl,rfl⟩)
   go_ret
   exact⟨by rw[cast_beq];simp,Hb.out⟩
end Go.Proofs.YtdeedofmflelfaaGreatDoor

namespace Go.Proofs.YtdeedofmflelfaaGreatDoor
open Go.RowKit
theorem Bx.two (w:World) (b:Bool) (A:Option Addr) (n c:Nat) (b':Bool) (A':Option Addr) (n' c':Nat) :
  Bx ((w.alloc (.cells #[.bool b,.slice A n c] 44)).alloc (.cells #[.bool b',.slice A' n' c'] 44)) w.heap.size b A n c ∧
  Bx ((w.alloc (.cells #[.bool b,.slice A n c] 44)).alloc (.cells #[.bool b',.slice A' n' c'] 44)) (w.heap.size+1) b' A' n' c':=by
 refine⟨(Bx.new w b A n c).alloc _,?_⟩
 have:=Bx.new (w.alloc (.cells #[.bool b,.slice A n c] 44)) b' A' n' c'
 rwa [show (w.alloc (.cells #[.bool b,.slice A n c] 44)).heap.size=w.heap.size+1 by simp] at this
theorem two_bel (w:World) (o o':Obj):Below w.heap.size w ((w.alloc o).alloc o'):=((Below.refl _ _).alloc (Nat.le_refl _) _).alloc (by simp) _
theorem two_size (w:World) (o o':Obj):((w.alloc o).alloc o').heap.size=w.heap.size+1+1:=by simp
theorem res_known (W:World) (tmps:Array Value) (g:Nat) {b:Bool} {A:Option Addr} {n c:Nat} (ht:tmps.getD 2 undef=.pointer (some ⟨g,0,none⟩)) (h:Bx W g b A n c) :
  (results Tryz.f196 tmps).run Tryz.prog W=.ok (.agg #[.bool b,.slice A n c]) W:=by
 obtain⟨c0,c1,_⟩:=h.at_
 have ht':tmps[2]?.getD undef=.pointer (some ⟨g,0,none⟩):=by rw[←ht];simp[Array.getD_eq_getD_getElem?]
 simp[results,Tryz.results196,go_sem,ht',c0,c1]
theorem res_signed (W:World) (tmps:Array Value) (g:Nat) {b:Bool} {A:Option Addr} {n c:Nat} (ht:tmps.getD 4 undef=.pointer (some ⟨g,0,none⟩)) (h:Bx W g b A n c) :
  (results Tryz.f131 tmps).run Tryz.prog W=.ok (.agg #[.bool b,.slice A n c]) W:=by
 obtain⟨c0,c1,_⟩:=h.at_
 have ht':tmps[4]?.getD undef=.pointer (some ⟨g,0,none⟩):=by rw[←ht];simp[Array.getD_eq_getD_getElem?]
 simp[results,Tryz.results131,go_sem,ht',c0,c1]
theorem ret_zero {z:Int} {w w':World} {A:Option Addr} {c:Nat} (hz:z=0) (hB:Below w.heap.size w w'):RetI z w (.returned (.agg #[.bool false,.slice A 0 c])) w':=by
 subst hz;exact⟨A,0,c,rfl,by rw[show limbs (0:Int).natAbs=[] from limbs_zero];exact Rd.nil_ _ _ _,hB⟩
theorem ret_I {z:Int} {w w':World} {b:Bool} {A:Option Addr} {n c:Nat} (hb:b=ng z) (R:Rd w' A n c (limbs z.natAbs)) (hB:Below w.heap.size w w'):RetI z w (.returned (.agg #[.bool b,.slice A n c])) w':=by
 subst hb;exact⟨A,n,c,rfl,R,hB⟩
set_option maxHeartbeats 1000000 in
theorem knownI_any (b:Bool) (A:Option Addr) (n c:Nat) (xs:List Nat) (w:World) (h:Rd w A n c xs) (hn:n≤10000) :
  Calls Tryz.prog 196 #[.agg #[.bool b,.slice A n c]] w (RetI (iv b xs) w):=by
 have h0:=((h.alloc (.cells #[.bool b,.slice A n c] 44)).alloc (.cells #[.bool false,.slice none 0 0] 44))
 have hv:=validI_any b A n c xs _ h0 hn
 obtain⟨x1,x2⟩:=Bx.two w b A n c false none 0 0
 have Bw:=two_bel w (.cells #[.bool b,.slice A n c] 44) (.cells #[.bool false,.slice none 0 0] 44)
 have hsz:=two_size w (.cells #[.bool b,.slice A n c] 44) (.cells #[.bool false,.slice none 0 0] 44)
 replace hsz:=Lib.hid hsz
 replace x1:=Lib.hid x1
 replace x2:=Lib.hid x2
 replace Bw:=Lib.hid Bw
 cases hb:vldI b xs
 ·rw[hb] at hv
  have hz:=Lib.hid (iv_no hb)
  replace hv:=Lib.hid hv
  clear hb h0 h
  go_enter Tryz.func196,Tryz.ntmps196
  go_wp2_with (go_at_call 153;refine hv.out.mono ?_;rintro e w1 ⟨rfl,B1⟩;refine Hid.out ?_)
  refine Lib.hid ?_
  have y2:=x2.out.bel B1
  have Bw1:=Lib.hid (Bw.out.trans (B1.mono Bw.out.size))
  obtain⟨c0,c1,f0,f1⟩:=y2.at_
  have y3:=Lib.hid (y2.put false none 0 0)
  clear B1 hv y2
  go_wp2
  refine bodyPost_ret (res_known _ _ (w.heap.size+1) rfl y3.out) rfl ?_
  exact ret_zero hz.out (put_below _ _ Bw1.out (by omega))
 ·rw[hb] at hv
  have hz:=Lib.hid (canon h.sm hb)
  replace hv:=Lib.hid hv
  clear hb
  replace h0:=Lib.hid h0
  replace h:=Lib.hid h
  go_enter Tryz.func196,Tryz.ntmps196
  go_wp2_with (go_at_call 153;refine hv.out.mono ?_;rintro e w1 ⟨rfl,B1⟩;refine Hid.out ?_)
  refine Lib.hid ?_
  have y1:=x1.out.bel B1
  have y2:=x2.out.bel B1
  have Bw1:=Lib.hid (Bw.out.trans (B1.mono Bw.out.size))
  obtain⟨c0,c1,f0,f1⟩:=y2.at_
  obtain⟨d0,d1,e0,e1⟩:=y1.at_
  have y3:=Lib.hid (y2.put b A n c)
  have R:=Lib.hid (h.out.below Bw1.out)
  clear B1 hv y1 y2
  go_wp2
  refine bodyPost_ret (res_known _ _ (w.heap.size+1) rfl y3.out) rfl ?_
  have R2:=h.out.below (put_below (.bool b) (.slice A n c) Bw1.out (Nat.le_succ _))
  rw[hz.out.2] at R2
  exact ret_I hz.out.1 R2 (put_below _ _ Bw1.out (by omega))
set_option maxHeartbeats 1000000 in
theorem signedI_any (b:Bool) (A:Option Addr) (n c N:Nat) (w:World) (h:Rd w A n c (limbs N)) :
  Calls Tryz.prog 131 #[.bool b,.slice A n c] w (RetI (sg b N) w):=by
 have x2:=Bx.new w false none 0 0
 have Bw:=(Below.refl w.heap.size w).alloc (Nat.le_refl _) (.cells #[.bool false,.slice none 0 0] 44)
 obtain⟨c0,c1,f0,f1⟩:=x2.at_
 replace Bw:=Lib.hid Bw
 by_cases h0:n=0
 ·subst h0
  have hN:Hid (sg b N=0):=by
   have:=List.eq_nil_of_length_eq_zero h.len
   have h2:=congrArg val this
   rw[val_limbs] at h2
   show sg b N=0
   rw[h2];exact sg_zero b
  have y3:=Lib.hid (Bx.new w false none 0 0)
  clear x2
  replace h:=Lib.hid h
  go_enter Tryz.func131,Tryz.ntmps131
  go_wp2
  refine bodyPost_ret (res_signed _ _ w.heap.size rfl y3.out) rfl ?_
  exact ret_zero hN.out ((Below.refl w.heap.size w).alloc (Nat.le_refl _) _)
 ·have hN:Hid (0<N):=by
   rcases Nat.eq_zero_or_pos N with h1 | h1
   ·have:=h.len;rw[h1,limbs_zero] at this;exact absurd this.symm h0
   ·exact h1
  have hn:((n:Int)==0)=false:=by rw[beq_eq_false_iff_ne];omega
  have y3:=Lib.hid (Bx.new w b A n c)
  clear x2
  replace h:=Lib.hid h
  replace h0:=Lib.hid h0
  go_enter Tryz.func131,Tryz.ntmps131
  go_wp2
  refine bodyPost_ret (res_signed _ _ w.heap.size rfl y3.out) rfl ?_
  refine ret_I (ng_sg hN.out).symm ?_ ((Below.refl w.heap.size w).alloc (Nat.le_refl _) _)
  rw[abs_sg]
  exact h.out.alloc _
end Go.Proofs.YtdeedofmflelfaaGreatDoor

namespace Go.Proofs.YtdeedofmflelfaaGreatDoor
open Go.RowKit
/-- Three blocks of pairs that a call has made. -/
structure B3 (w W:World) (b1:Bool) (A1:Option Addr) (n1 c1:Nat) (b2:Bool) (A2:Option Addr) (n2 c2:Nat) (b3:Bool) (A3:Option Addr) (n3 c3:Nat):Prop where
 x1:Bx W w.heap.size b1 A1 n1 c1
 x2:Bx W (w.heap.size+1) b2 A2 n2 c2
 x3:Bx W (w.heap.size+1+1) b3 A3 n3 c3
 bel:Below w.heap.size w W
 sz:w.heap.size+1+1+1≤W.heap.size
section
variable {w W W':World} {b1 b2 b3 b':Bool} {A1 A2 A3 A':Option Addr} {n1 n2 n3 n' c1 c2 c3 c':Nat}
theorem B3.new (w:World) (b1:Bool) (A1:Option Addr) (n1 c1:Nat) (b2:Bool) (A2:Option Addr) (n2 c2:Nat) (b3:Bool) (A3:Option Addr) (n3 c3:Nat) :
  B3 w (((w.alloc (.cells #[.bool b1,.slice A1 n1 c1] 44)).alloc (.cells #[.bool b2,.slice A2 n2 c2] 44)).alloc (.cells #[.bool b3,.slice A3 n3 c3] 44)) b1 A1 n1 c1 b2 A2 n2 c2 b3 A3 n3 c3:=by
 obtain⟨h1,h2⟩:=Bx.two w b1 A1 n1 c1 b2 A2 n2 c2
 refine⟨h1.alloc _,h2.alloc _,?_,(two_bel w _ _).alloc (by simp;omega) _,by simp⟩
 have:=Bx.new ((w.alloc (.cells #[.bool b1,.slice A1 n1 c1] 44)).alloc (.cells #[.bool b2,.slice A2 n2 c2] 44)) b3 A3 n3 c3
 rwa [two_size] at this
theorem B3.on (h:B3 w W b1 A1 n1 c1 b2 A2 n2 c2 b3 A3 n3 c3) (hb:Below W.heap.size W W'):B3 w W' b1 A1 n1 c1 b2 A2 n2 c2 b3 A3 n3 c3:=
 ⟨h.x1.bel hb,h.x2.bel hb,h.x3.bel hb,h.bel.trans (hb.mono h.bel.size),Nat.le_trans h.sz hb.size⟩
theorem B3.drew (h:B3 w W b1 A1 n1 c1 b2 A2 n2 c2 b3 A3 n3 c3):B3 w W.drew b1 A1 n1 c1 b2 A2 n2 c2 b3 A3 n3 c3:=⟨h.x1,h.x2,h.x3,h.bel.drew,h.sz⟩
theorem B3.put1 (h:B3 w W b1 A1 n1 c1 b2 A2 n2 c2 b3 A3 n3 c3) (b':Bool) (A':Option Addr) (n' c':Nat) :
  B3 w ((W.setCell ⟨w.heap.size,0,none⟩ (.bool b')).setCell ⟨w.heap.size,1,none⟩ (.slice A' n' c')) b' A' n' c' b2 A2 n2 c2 b3 A3 n3 c3:=
 ⟨h.x1.put _ _ _ _,(h.x2.far (Nat.ne_of_gt (Nat.lt_succ_self _)) _).far (Nat.ne_of_gt (Nat.lt_succ_self _)) _,(h.x3.far (Nat.ne_of_gt (Nat.lt_succ_of_lt (Nat.lt_succ_self _))) _).far (Nat.ne_of_gt (Nat.lt_succ_of_lt (Nat.lt_succ_self _))) _,put_below _ _ h.bel (Nat.le_refl _),by simpa using h.sz⟩
theorem B3.put2 (h:B3 w W b1 A1 n1 c1 b2 A2 n2 c2 b3 A3 n3 c3) (b':Bool) (A':Option Addr) (n' c':Nat) :
  B3 w ((W.setCell ⟨w.heap.size+1,0,none⟩ (.bool b')).setCell ⟨w.heap.size+1,1,none⟩ (.slice A' n' c')) b1 A1 n1 c1 b' A' n' c' b3 A3 n3 c3:=
 ⟨(h.x1.far (Nat.ne_of_lt (Nat.lt_succ_self _)) _).far (Nat.ne_of_lt (Nat.lt_succ_self _)) _,h.x2.put _ _ _ _,(h.x3.far (Nat.ne_of_gt (Nat.lt_succ_self _)) _).far (Nat.ne_of_gt (Nat.lt_succ_self _)) _,put_below _ _ h.bel (Nat.le_succ _),by simpa using h.sz⟩
theorem B3.put3 (h:B3 w W b1 A1 n1 c1 b2 A2 n2 c2 b3 A3 n3 c3) (b':Bool) (A':Option Addr) (n' c':Nat) :
  B3 w ((W.setCell ⟨w.heap.size+1+1,0,none⟩ (.bool b')).setCell ⟨w.heap.size+1+1,1,none⟩ (.slice A' n' c')) b1 A1 n1 c1 b2 A2 n2 c2 b' A' n' c':=
 ⟨(h.x1.far (Nat.ne_of_lt (Nat.lt_succ_of_lt (Nat.lt_succ_self _))) _).far (Nat.ne_of_lt (Nat.lt_succ_of_lt (Nat.lt_succ_self _))) _,(h.x2.far (Nat.ne_of_lt (Nat.lt_succ_self _)) _).far (Nat.ne_of_lt (Nat.lt_succ_self _)) _,h.x3.put _ _ _ _,put_below _ _ h.bel (Nat.le_succ_of_le (Nat.le_succ _)),by simpa using h.sz⟩
theorem B3.two_puts (h:B3 w W b1 A1 n1 c1 b2 A2 n2 c2 b3 A3 n3 c3) (b':Bool) (A':Option Addr) (n' c':Nat) (b'':Bool) (A'':Option Addr) (n'' c'':Nat) :
  B3 w ((((W.setCell ⟨w.heap.size,0,none⟩ (.bool b')).setCell ⟨w.heap.size,1,none⟩ (.slice A' n' c')).setCell ⟨w.heap.size+1,0,none⟩ (.bool b'')).setCell ⟨w.heap.size+1,1,none⟩ (.slice A'' n'' c'')) b' A' n' c' b'' A'' n'' c'' b3 A3 n3 c3:=
 (h.put1 b' A' n' c').put2 b'' A'' n'' c''
end
theorem Rd.drew1 {w:World} {A:Option Addr} {n c:Nat} {xs:List Nat} (h:Rd w A n c xs):Rd w.drew A n c xs:=⟨h.len,h.cap,h.sm,h.mem⟩
/-- A pair's block holds no limbs: what reads as limbs is left alone by a store into it. -/
theorem Rd.put {W:World} {g:Nat} {b:Bool} {A':Option Addr} {n' c':Nat} {A:Option Addr} {n c:Nat} {xs:List Nat} (h:Rd W A n c xs) (x:Bx W g b A' n' c') (v0 v1:Value) :
  Rd ((W.setCell ⟨g,0,none⟩ v0).setCell ⟨g,1,none⟩ v1) A n c xs:=by
 refine⟨h.len,h.cap,h.sm,?_⟩
 rcases h.mem with h0 | ⟨bk,o,hA,hlt,hc⟩
 ·exact .inl h0
 ·rcases Nat.eq_zero_or_pos n with hn | hn
  ·exact .inl hn
  have hne:bk≠g:=by
   rintro rfl
   have h1:=hc 0 hn
   rw[Nat.add_zero,cell_of_row W bk o _ 44 (0,0) x] at h1
   match o,h1 with
   | 0,h1=>simp at h1
   | 1,h1=>simp at h1
   | k+2,h1=>simp at h1
  refine .inr ⟨bk,o,hA,by simpa using hlt,fun k hk=>?_⟩
  rw[World.cell?_of_block (Below.heap_setCell _ _ _ _ hne),World.cell?_of_block (Below.heap_setCell _ _ _ _ hne)]
  exact hc k hk
theorem sg_mul (x y:Int):sg (ng x != ng y) (x.natAbs*y.natAbs)=x*y:=by
 have hx:=sg_ng x
 have hy:=sg_ng y
 generalize x.natAbs=a at *
 generalize y.natAbs=b at *
 generalize ng x=p at *
 generalize ng y=q at *
 subst hx hy
 cases p<;>cases q<;>simp[sg,Int.neg_mul,Int.mul_neg]
theorem res_mul (W:World) (tmps:Array Value) (g:Nat) {b:Bool} {A:Option Addr} {n c:Nat} (ht:tmps.getD 4 undef=.pointer (some ⟨g,0,none⟩)) (h:Bx W g b A n c) :
  (results Tryz.f194 tmps).run Tryz.prog W=.ok (.agg #[.bool b,.slice A n c]) W:=by
 obtain⟨c0,c1,_⟩:=h.at_
 have ht':tmps[4]?.getD undef=.pointer (some ⟨g,0,none⟩):=by rw[←ht];simp[Array.getD_eq_getD_getElem?]
 simp[results,Tryz.results194,go_sem,ht',c0,c1]
set_option maxHeartbeats 4000000 in
theorem mulI_any (b:Bool) (A:Option Addr) (n c:Nat) (xs:List Nat) (b':Bool) (A':Option Addr) (n' c':Nat) (ys:List Nat) (w:World) (h1:Rd w A n c xs) (h2:Rd w A' n' c' ys) (hn:n≤1000) (hn':n'≤1000) :
  Calls Tryz.prog 194 #[.agg #[.bool b,.slice A n c],.agg #[.bool b',.slice A' n' c']] w (RetI (iv b xs*iv b' ys) w):=by
 have hk1:=fun W (h:Rd W A n c xs)=>knownI_any b A n c xs W h (by omega)
 have hk2:=fun W (h:Rd W A' n' c' ys)=>knownI_any b' A' n' c' ys W h (by omega)
 have l1:=iv_abs (b:=b) h1.sm (Nat.le_of_eq h1.len)
 have l2:=iv_abs (b:=b') h2.sm (Nat.le_of_eq h2.len)
 generalize iv b xs=z1 at hk1 l1 ⊢
 generalize iv b' ys=z2 at hk2 l2 ⊢
 replace hk1:=Lib.hid hk1
 replace hk2:=Lib.hid hk2
 replace l1:=Lib.hid l1
 replace l2:=Lib.hid l2
 have X:=B3.new w b A n c b' A' n' c' false none 0 0
 have R1:=h1.below X.bel
 have R2:=h2.below X.bel
 go_enter Tryz.func194,Tryz.ntmps194
 go_upto_region 1 with fail
 generalize ((w.alloc (.cells #[.bool b,.slice A n c] 44)).alloc (.cells #[.bool b',.slice A' n' c'] 44)).alloc (.cells #[.bool false,.slice none 0 0] 44)=W0 at X R1 R2 ⊢
 obtain⟨a0,a1,a2,a3⟩:=X.x1.at_
 obtain⟨d0,d1,d2,d3⟩:=X.x2.at_
 replace X:=Lib.hid X
 replace R1:=Lib.hid R1
 replace R2:=Lib.hid R2
 go_cut [] (fun wx=>∃ A1 n1 c1 A2 n2 c2,B3 w wx (ng (z1)) A1 n1 c1 (ng (z2)) A2 n2 c2 false none 0 0∧Rd wx A1 n1 c1 (limbs (z1).natAbs)∧Rd wx A2 n2 c2 (limbs (z2).natAbs))
 case first=>
  have XD:=Lib.hid X.out.drew
  have RD1:=Lib.hid (Rd.drew1 R1.out)
  have RD2:=Lib.hid (Rd.drew1 R2.out)
  go_region_with (first
   | (go_at_call_of 196 (Value.agg #[.bool b,.slice A n c]);refine (hk1.out _ (by exact RD1.out)).mono ?_;rintro e w1 ⟨A1,n1,c1,rfl,Q1,B1⟩;have X1:=XD.out.on B1;have R2':=RD2.out.below B1;obtain⟨d0',d1',d2',d3'⟩:=X1.x2.at_)
   | (go_at_call_of 196 (Value.agg #[.bool b',.slice A' n' c']);refine (hk2.out _ (by exact R2')).mono ?_;rintro e w2 ⟨A2,n2,c2,rfl,Q2,B2⟩;have X2:=X1.on B2;obtain⟨f0,f1,f2,f3⟩:=X2.x1.at_;obtain⟨k0,k1,k2,k3⟩:=X2.x2.at_))
  all_goals
   have Y:=Lib.hid (X2.two_puts (ng (z1)) A1 n1 c1 (ng (z2)) A2 n2 c2)
   have P1:=Lib.hid (((Q1.below B2).put X2.x1 (.bool (ng (z1))) (.slice A1 n1 c1)).put (X2.put1 (ng (z1)) A1 n1 c1).x2 (.bool (ng (z2))) (.slice A2 n2 c2))
   have P2:=Lib.hid ((Q2.put X2.x1 (.bool (ng (z1))) (.slice A1 n1 c1)).put (X2.put1 (ng (z1)) A1 n1 c1).x2 (.bool (ng (z2))) (.slice A2 n2 c2))
   clear a0 a1 a2 a3 d0 d1 d2 d3 d0' d1' d2' d3' f0 f1 f2 f3 k0 k1 k2 k3 Q1 Q2 B1 B2 X1 X2 R2'
   go_wp2_with fail
   go_meet
   exact⟨_,_,_,_,_,_,Y.out,P1.out,P2.out⟩
 case rest=>
  obtain⟨A1,n1,c1,A2,n2,c2,Y,P1,P2⟩:=hcut
  clear X R1 R2 a0 a1 a2 a3 d0 d1 d2 d3 hk1 hk2 h1 h2
  have hl1:n1≤1000:=by have:=l1.out;have:=P1.len;omega
  have hl2:n2≤1000:=by have:=l2.out;have:=P2.len;omega
  have hs:=Lib.hid (show sg (!(ng z1==ng z2)) (z1.natAbs*z2.natAbs)=z1*z2 from sg_mul z1 z2)
  obtain⟨a0,a1,a2,a3⟩:=Y.x1.at_
  obtain⟨d0,d1,d2,d3⟩:=Y.x2.at_
  have YD:=Lib.hid Y.drew
  have P1D:=Lib.hid (Rd.drew1 P1)
  have P2D:=Lib.hid (Rd.drew1 P2)
  clear Y P1 P2
  go_wp2_with fail
  go_region_held3 (fun w'=>w'.cell? ⟨w.heap.size,0,none⟩=some (.bool (ng z1))∧w'.cell? ⟨w.heap.size,1,none⟩=some (.slice A1 n1 c1)∧w'.cell? ⟨w.heap.size+1,0,none⟩=some (.bool (ng z2))∧w'.cell? ⟨w.heap.size+1,1,none⟩=some (.slice A2 n2 c2))
   (first | exact⟨a0,a1,d0,d1⟩ | exact⟨f0,f1,k0,k1⟩ | exact⟨p0,p1,q0,q1⟩ | exact⟨r0,r1,t0,t1⟩)
   (first
    | (go_at_call 216;refine (mul_any _ _ _ (limbs z1.natAbs) _ _ _ (limbs z2.natAbs) _ (by exact P1D.out) (by exact P2D.out) (by omega) (by omega)).mono ?_;rw[num_limbs,num_limbs];rintro e w3 ⟨A3,n3,c3,rfl,Q3,B3'⟩;have Y3:=YD.out.on B3';obtain⟨f0,f1,_⟩:=Y3.x1.at_;obtain⟨k0,k1,_⟩:=Y3.x2.at_)
    | (go_at_call 131;refine (signedI_any _ _ _ _ (z1.natAbs*z2.natAbs) _ (by exact Q3)).mono ?_;rw[hs.out];rintro e w4 ⟨A4,n4,c4,rfl,Q4,B4⟩;have Y4:=Y3.on B4;obtain⟨p0,p1,_⟩:=Y4.x1.at_;obtain⟨q0,q1,_⟩:=Y4.x2.at_;obtain⟨v0,v1,v2,v3⟩:=Y4.x3.at_;have Y5:=Y4.put3 (ng (z1*z2)) A4 n4 c4;obtain⟨r0,r1,_⟩:=Y5.x1.at_;obtain⟨t0,t1,_⟩:=Y5.x2.at_))
  all_goals
   have Y5':=Lib.hid Y5
   have Q5:=Lib.hid (Q4.put Y4.x3 (.bool (ng (z1*z2))) (.slice A4 n4 c4))
   clear Y5 Y4 Y3 r0 r1 t0 t1 v0 v1 v2 v3 p0 p1 q0 q1 f0 f1 k0 k1 Q3 Q4 B3' B4
   go_wp2
   refine bodyPost_ret (res_mul _ _ (w.heap.size+1+1) rfl Y5'.out.x3) rfl ?_
   exact ret_I rfl Q5.out Y5'.out.bel
end Go.Proofs.YtdeedofmflelfaaGreatDoor

namespace Go.Proofs.YtdeedofmflelfaaGreatDoor
open Go.RowKit
set_option maxHeartbeats 1000000 in
theorem rvalidI_any (b:Bool) (A:Option Addr) (n c:Nat) (xs:List Nat) (w:World) (h:Rd w A n c xs) (hn:n≤10000) :
  Calls Tryz.prog 145 #[.agg #[.bool b,.slice A n c]] w fun e w'=>e=.returned (.bool (vldI b xs))∧Below w.heap.size w w':=by
 have hl:=h.len
 have hv:=rvalid_any A n c xs (w.alloc (.cells #[.bool b,.slice A n c] 44)) (h.alloc _) (by omega)
 have Hb:=Lib.hid (((Below.refl w.heap.size w).alloc (Nat.le_refl _) (.cells #[.bool b,.slice A n c] 44)))
 unfold vldI
 rw[hl]
 replace hl:=Lib.hid hl
 replace h:=Lib.hid h
 cases hb:vldB xs
 ·rw[hb] at hv
  replace hv:=Lib.hid hv
  clear hb
  go_enter Tryz.func145,Tryz.ntmps145
  go_wp2_with (go_at_call 146;refine hv.out.mono ?_;rintro e w1 ⟨rfl,rfl⟩)
  go_ret
  exact⟨rfl,Hb.out⟩
 ·rw[hb] at hv
  replace hv:=Lib.hid hv
  clear hb
  cases b
  ·go_enter Tryz.func145,Tryz.ntmps145
   go_wp2_with (go_at_call 146;refine hv.out.mono ?_;rintro e w1 ⟨rfl,rfl⟩)
   go_ret
   exact⟨rfl,Hb.out⟩
  ·go_enter Tryz.func145,Tryz.ntmps145
   go_wp2_with (go_at_call 146;refine hv.out.mono ?_;rintro e w1 ⟨rfl,rfl⟩)
   go_ret
   exact⟨by rw[cast_beq];simp,Hb.out⟩
theorem res_take (W:World) (tmps:Array Value) (g:Nat) {b:Bool} {A:Option Addr} {n c:Nat} (ht:tmps.getD 2 undef=.pointer (some ⟨g,0,none⟩)) (h:Bx W g b A n c) :
  (results Tryz.f107 tmps).run Tryz.prog W=.ok (.agg #[.bool b,.slice A n c]) W:=by
 obtain⟨c0,c1,_⟩:=h.at_
 have ht':tmps[2]?.getD undef=.pointer (some ⟨g,0,none⟩):=by rw[←ht];simp[Array.getD_eq_getD_getElem?]
 simp[results,Tryz.results107,go_sem,ht',c0,c1]
theorem res_rsigned (W:World) (tmps:Array Value) (g:Nat) {b:Bool} {A:Option Addr} {n c:Nat} (ht:tmps.getD 4 undef=.pointer (some ⟨g,0,none⟩)) (h:Bx W g b A n c) :
  (results Tryz.f113 tmps).run Tryz.prog W=.ok (.agg #[.bool b,.slice A n c]) W:=by
 obtain⟨c0,c1,_⟩:=h.at_
 have ht':tmps[4]?.getD undef=.pointer (some ⟨g,0,none⟩):=by rw[←ht];simp[Array.getD_eq_getD_getElem?]
 simp[results,Tryz.results113,go_sem,ht',c0,c1]
set_option maxHeartbeats 4000000 in
theorem takeI_any (b:Bool) (A:Option Addr) (n c:Nat) (xs:List Nat) (w:World) (h:Rd w A n c xs) (hn:n≤10000) :
  Calls Tryz.prog 107 #[.agg #[.bool b,.slice A n c]] w (RetI (iv b xs) w):=by
 have h0:=((h.alloc (.cells #[.bool b,.slice A n c] 44)).alloc (.cells #[.bool false,.slice none 0 0] 44))
 have hv:=rvalidI_any b A n c xs _ h0 hn
 obtain⟨x1,x2⟩:=Bx.two w b A n c false none 0 0
 have Bw:=two_bel w (.cells #[.bool b,.slice A n c] 44) (.cells #[.bool false,.slice none 0 0] 44)
 replace x1:=Lib.hid x1
 replace x2:=Lib.hid x2
 replace Bw:=Lib.hid Bw
 cases hb:vldI b xs
 ·rw[hb] at hv
  have hz:=Lib.hid (iv_no hb)
  replace hv:=Lib.hid hv
  clear hb h0 h
  go_enter Tryz.func107,Tryz.ntmps107
  go_wp2_with (go_at_call 145;refine hv.out.mono ?_;rintro e w1 ⟨rfl,B1⟩;refine Hid.out ?_)
  refine Lib.hid ?_
  have y2:=x2.out.bel B1
  have Bw1:=Lib.hid (Bw.out.trans (B1.mono Bw.out.size))
  obtain⟨c0,c1,f0,f1⟩:=y2.at_
  have y3:=Lib.hid (y2.put false none 0 0)
  clear B1 hv y2
  go_wp2
  refine bodyPost_ret (res_take _ _ (w.heap.size+1) rfl y3.out) rfl ?_
  exact ret_zero hz.out (put_below _ _ Bw1.out (by omega))
 ·rw[hb] at hv
  have hz:=Lib.hid (canon h.sm hb)
  have hnum:num xs=(iv b xs).natAbs:=by rw[num_of_vld (vldI_parts hb).1,iv_yes hb,abs_sg]
  generalize hZ:iv b xs=z at hz hnum ⊢
  replace hnum:=Lib.hid hnum
  replace hZ:=Lib.hid hZ
  replace hv:=Lib.hid hv
  clear hb
  replace h0:=Lib.hid h0
  replace h:=Lib.hid h
  go_enter Tryz.func107,Tryz.ntmps107
  go_wp2_with (go_at_call 145;refine hv.out.mono ?_;rintro e w1 ⟨rfl,B1⟩;refine Hid.out ?_)
  refine Lib.hid ?_
  have y1:=x1.out.bel B1
  have y2:=x2.out.bel B1
  have Bw1:=Bw.out.trans (B1.mono Bw.out.size)
  obtain⟨d0,d1,e0,e1⟩:=y1.at_
  have R:=Lib.hid (Rd.drew1 (h.out.below Bw1))
  have y1D:=Lib.hid (Bx.drew y1)
  have y2D:=Lib.hid (Bx.drew y2)
  have BwD:=Lib.hid (Bw1.drew)
  clear B1 hv y1 y2 Bw1 h0
  go_wp2
  go_region_held3 (fun w'=>w'.cell? ⟨w.heap.size,0,none⟩=some (.bool b)∧w'.cell? ⟨w.heap.size,1,none⟩=some (.slice A n c))
   (first | exact⟨d0,d1⟩ | exact⟨p0,p1⟩ | exact⟨r0,r1⟩)
   (first
    | (go_at_call 108;refine (take_any A n c xs _ (by exact R.out) hn).mono ?_;rw[hnum.out];rintro e w4 ⟨A4,n4,c4,rfl,Q4,B4,l4⟩;have Y1:=y1D.out.bel B4;have Y2:=y2D.out.bel B4;obtain⟨p0,p1,_⟩:=Y1.at_;obtain⟨v0,v1,v2,v3⟩:=Y2.at_;have Y3:=Y2.put b A4 n4 c4;have Y4:=(Y1.far (p:=⟨w.heap.size+1,0,none⟩) (Nat.ne_of_lt (Nat.lt_succ_self _)) (.bool b)).far (p:=⟨w.heap.size+1,1,none⟩) (Nat.ne_of_lt (Nat.lt_succ_self _)) (.slice A4 n4 c4);obtain⟨r0,r1,_⟩:=Y4.at_))
  all_goals
   have Q5:=Lib.hid (Q4.put Y2 (.bool b) (.slice A4 n4 c4))
   have Y5:=Lib.hid Y3
   have Bz:=Lib.hid (put_below (g:=w.heap.size+1) (.bool b) (.slice A4 n4 c4) (BwD.out.trans (B4.mono BwD.out.size)) (Nat.le_succ _))
   clear Y3 Y4 Y1 Y2 r0 r1 p0 p1 v0 v1 v2 v3 Q4 B4
   go_wp2
   refine bodyPost_ret (res_take _ _ (w.heap.size+1) rfl Y5.out) rfl ?_
   exact ret_I hz.out.1 Q5.out Bz.out
set_option maxHeartbeats 1000000 in
theorem rsignedI_any (b:Bool) (A:Option Addr) (n c N:Nat) (w:World) (h:Rd w A n c (limbs N)) :
  Calls Tryz.prog 113 #[.bool b,.slice A n c] w (RetI (sg b N) w):=by
 have x2:=Bx.new w false none 0 0
 obtain⟨c0,c1,f0,f1⟩:=x2.at_
 by_cases h0:n=0
 ·subst h0
  have hN:Hid (sg b N=0):=by
   have:=List.eq_nil_of_length_eq_zero h.len
   have h2:=congrArg val this
   rw[val_limbs] at h2
   show sg b N=0
   rw[h2];exact sg_zero b
  clear x2
  replace h:=Lib.hid h
  cases b
  all_goals
   go_enter Tryz.func113,Tryz.ntmps113
   go_wp2
   refine bodyPost_ret (res_rsigned _ _ w.heap.size rfl (Bx.new w _ _ _ _)) rfl ?_
   exact ret_zero hN.out ((Below.refl w.heap.size w).alloc (Nat.le_refl _) _)
 ·have hN:Hid (0<N):=by
   rcases Nat.eq_zero_or_pos N with h1 | h1
   ·have:=h.len;rw[h1,limbs_zero] at this;exact absurd this.symm h0
   ·exact h1
  have hn:(0:Int)<(n:Int):=by omega
  have hn':Hid (0<n):=by show 0<n;omega
  clear x2
  replace h:=Lib.hid h
  replace h0:=Lib.hid h0
  cases b
  all_goals
   go_enter Tryz.func113,Tryz.ntmps113
   go_wp2
   refine bodyPost_ret (res_rsigned _ _ w.heap.size rfl (Bx.new w _ _ _ _)) rfl ?_
   refine ret_I (by rw[ng_sg hN.out]<;>exact decide_eq_true hn'.out) ?_ ((Below.refl w.heap.size w).alloc (Nat.le_refl _) _)
   rw[abs_sg]
   exact h.out.alloc _
/-- Two blocks of pairs. -/
structure B2 (w W:World) (b1:Bool) (A1:Option Addr) (n1 c1:Nat) (b2:Bool) (A2:Option Addr) (n2 c2:Nat):Prop where
 x1:Bx W w.heap.size b1 A1 n1 c1
 x2:Bx W (w.heap.size+1) b2 A2 n2 c2
 bel:Below w.heap.size w W
 sz:w.heap.size+1+1≤W.heap.size
/-- Four blocks of pairs. -/
structure B4 (w W:World) (b1:Bool) (A1:Option Addr) (n1 c1:Nat) (b2:Bool) (A2:Option Addr) (n2 c2:Nat):Prop where
 t:B3 w W b1 A1 n1 c1 b2 A2 n2 c2 false none 0 0
 x4:Bx W (w.heap.size+1+1+1) false none 0 0
section
variable {w W W':World} {b1 b2:Bool} {A1 A2:Option Addr} {n1 n2 c1 c2:Nat}
theorem B2.new (w:World) (b1:Bool) (A1:Option Addr) (n1 c1:Nat) (b2:Bool) (A2:Option Addr) (n2 c2:Nat) :
  B2 w ((w.alloc (.cells #[.bool b1,.slice A1 n1 c1] 44)).alloc (.cells #[.bool b2,.slice A2 n2 c2] 44)) b1 A1 n1 c1 b2 A2 n2 c2:=by
 obtain⟨h1,h2⟩:=Bx.two w b1 A1 n1 c1 b2 A2 n2 c2
 exact⟨h1,h2,two_bel w _ _,by simp⟩
theorem B2.on (h:B2 w W b1 A1 n1 c1 b2 A2 n2 c2) (hb:Below W.heap.size W W'):B2 w W' b1 A1 n1 c1 b2 A2 n2 c2:=
 ⟨h.x1.bel hb,h.x2.bel hb,h.bel.trans (hb.mono h.bel.size),Nat.le_trans h.sz hb.size⟩
theorem B2.drew (h:B2 w W b1 A1 n1 c1 b2 A2 n2 c2):B2 w W.drew b1 A1 n1 c1 b2 A2 n2 c2:=⟨h.x1,h.x2,h.bel.drew,h.sz⟩
theorem B2.put1 (h:B2 w W b1 A1 n1 c1 b2 A2 n2 c2) (b':Bool) (A':Option Addr) (n' c':Nat) :
  B2 w ((W.setCell ⟨w.heap.size,0,none⟩ (.bool b')).setCell ⟨w.heap.size,1,none⟩ (.slice A' n' c')) b' A' n' c' b2 A2 n2 c2:=
 ⟨h.x1.put _ _ _ _,(h.x2.far (Nat.ne_of_gt (Nat.lt_succ_self _)) _).far (Nat.ne_of_gt (Nat.lt_succ_self _)) _,put_below _ _ h.bel (Nat.le_refl _),by simpa using h.sz⟩
theorem B2.put2 (h:B2 w W b1 A1 n1 c1 b2 A2 n2 c2) (b':Bool) (A':Option Addr) (n' c':Nat) :
  B2 w ((W.setCell ⟨w.heap.size+1,0,none⟩ (.bool b')).setCell ⟨w.heap.size+1,1,none⟩ (.slice A' n' c')) b1 A1 n1 c1 b' A' n' c':=
 ⟨(h.x1.far (Nat.ne_of_lt (Nat.lt_succ_self _)) _).far (Nat.ne_of_lt (Nat.lt_succ_self _)) _,h.x2.put _ _ _ _,put_below _ _ h.bel (Nat.le_succ _),by simpa using h.sz⟩
theorem B2.two_puts (h:B2 w W b1 A1 n1 c1 b2 A2 n2 c2) (b':Bool) (A':Option Addr) (n' c':Nat) (b'':Bool) (A'':Option Addr) (n'' c'':Nat) :
  B2 w ((((W.setCell ⟨w.heap.size,0,none⟩ (.bool b')).setCell ⟨w.heap.size,1,none⟩ (.slice A' n' c')).setCell ⟨w.heap.size+1,0,none⟩ (.bool b'')).setCell ⟨w.heap.size+1,1,none⟩ (.slice A'' n'' c'')) b' A' n' c' b'' A'' n'' c'':=
 (h.put1 b' A' n' c').put2 b'' A'' n'' c''
theorem B4.new (w:World) (b1:Bool) (A1:Option Addr) (n1 c1:Nat) (b2:Bool) (A2:Option Addr) (n2 c2:Nat) :
  B4 w ((((w.alloc (.cells #[.bool b1,.slice A1 n1 c1] 44)).alloc (.cells #[.bool b2,.slice A2 n2 c2] 44)).alloc (.cells #[.bool false,.slice none 0 0] 44)).alloc (.cells #[.bool false,.slice none 0 0] 44)) b1 A1 n1 c1 b2 A2 n2 c2:=by
 have h:=B3.new w b1 A1 n1 c1 b2 A2 n2 c2 false none 0 0
 refine⟨h.on ((Below.refl _ _).alloc (Nat.le_refl _) _),?_⟩
 have:=Bx.new (((w.alloc (.cells #[.bool b1,.slice A1 n1 c1] 44)).alloc (.cells #[.bool b2,.slice A2 n2 c2] 44)).alloc (.cells #[.bool false,.slice none 0 0] 44)) false none 0 0
 rwa [show (((w.alloc (.cells #[.bool b1,.slice A1 n1 c1] 44)).alloc (.cells #[.bool b2,.slice A2 n2 c2] 44)).alloc (.cells #[.bool false,.slice none 0 0] 44)).heap.size=w.heap.size+1+1+1 by simp] at this
theorem B4.on (h:B4 w W b1 A1 n1 c1 b2 A2 n2 c2) (hb:Below W.heap.size W W'):B4 w W' b1 A1 n1 c1 b2 A2 n2 c2:=⟨h.t.on hb,h.x4.bel hb⟩
theorem B4.drew (h:B4 w W b1 A1 n1 c1 b2 A2 n2 c2):B4 w W.drew b1 A1 n1 c1 b2 A2 n2 c2:=⟨h.t.drew,h.x4⟩
theorem B4.bel (h:B4 w W b1 A1 n1 c1 b2 A2 n2 c2):Below w.heap.size w W:=h.t.bel
theorem B4.x1 (h:B4 w W b1 A1 n1 c1 b2 A2 n2 c2):Bx W w.heap.size b1 A1 n1 c1:=h.t.x1
theorem B4.x2 (h:B4 w W b1 A1 n1 c1 b2 A2 n2 c2):Bx W (w.heap.size+1) b2 A2 n2 c2:=h.t.x2
theorem B4.x3 (h:B4 w W b1 A1 n1 c1 b2 A2 n2 c2):Bx W (w.heap.size+1+1) false none 0 0:=h.t.x3
theorem B4.put1 (h:B4 w W b1 A1 n1 c1 b2 A2 n2 c2) (b':Bool) (A':Option Addr) (n' c':Nat) :
  B4 w ((W.setCell ⟨w.heap.size,0,none⟩ (.bool b')).setCell ⟨w.heap.size,1,none⟩ (.slice A' n' c')) b' A' n' c' b2 A2 n2 c2:=
 ⟨h.t.put1 _ _ _ _,(h.x4.far (show w.heap.size+1+1+1≠w.heap.size by omega) _).far (show w.heap.size+1+1+1≠w.heap.size by omega) _⟩
theorem B4.put2 (h:B4 w W b1 A1 n1 c1 b2 A2 n2 c2) (b':Bool) (A':Option Addr) (n' c':Nat) :
  B4 w ((W.setCell ⟨w.heap.size+1,0,none⟩ (.bool b')).setCell ⟨w.heap.size+1,1,none⟩ (.slice A' n' c')) b1 A1 n1 c1 b' A' n' c':=
 ⟨h.t.put2 _ _ _ _,(h.x4.far (show w.heap.size+1+1+1≠w.heap.size+1 by omega) _).far (show w.heap.size+1+1+1≠w.heap.size+1 by omega) _⟩
theorem B4.two_puts (h:B4 w W b1 A1 n1 c1 b2 A2 n2 c2) (b':Bool) (A':Option Addr) (n' c':Nat) (b'':Bool) (A'':Option Addr) (n'' c'':Nat) :
  B4 w ((((W.setCell ⟨w.heap.size,0,none⟩ (.bool b')).setCell ⟨w.heap.size,1,none⟩ (.slice A' n' c')).setCell ⟨w.heap.size+1,0,none⟩ (.bool b'')).setCell ⟨w.heap.size+1,1,none⟩ (.slice A'' n'' c'')) b' A' n' c' b'' A'' n'' c'':=
 (h.put1 b' A' n' c').put2 b'' A'' n'' c''
end
end Go.Proofs.YtdeedofmflelfaaGreatDoor
