/- Plain facts on intervals of rational numbers. Rows that count as numbers, rows of rows. slices.MinFunc and slices.MaxFunc over rows that count as numbers, with Compare. -/
import Derived.Test.YtphckmdnflbloaaGreatQStz
import Derived.Test.YtphckmdnflbloaaGreatDr
namespace Go.Proofs.YtphckmdnflbloaaGreat
namespace RQ
/-- The ends of the interval that a pair of ends counts as. -/
def klo (x y:Rat):Rat:=if y<x then 0 else x
def khi (x y:Rat):Rat:=if y<x then 0 else y
def mn (x y:Rat):Rat:=if y<x then y else x
def mx (x y:Rat):Rat:=if x<y then y else x
def minL:List Rat→Rat
 | []=>0
 | x::l=>l.foldl mn x
def maxL:List Rat→Rat
 | []=>0
 | x::l=>l.foldl mx x
theorem kle (x y:Rat):klo x y≤khi x y:=by
 unfold klo khi;split
 ·exact Rat.le_refl
 ·rename_i h;exact Rat.not_lt.1 h
theorem mn_le1 (x y:Rat):mn x y≤x:=by
 unfold mn;split
 ·rename_i h;exact Rat.le_of_lt h
 ·exact Rat.le_refl
theorem mn_le2 (x y:Rat):mn x y≤y:=by
 unfold mn;split
 ·exact Rat.le_refl
 ·rename_i h;exact Rat.not_lt.1 h
theorem mx_le1 (x y:Rat):x≤mx x y:=by
 unfold mx;split
 ·rename_i h;exact Rat.le_of_lt h
 ·exact Rat.le_refl
theorem mx_le2 (x y:Rat):y≤mx x y:=by
 unfold mx;split
 ·exact Rat.le_refl
 ·rename_i h;exact Rat.not_lt.1 h
theorem mn_or (x y:Rat):mn x y=x∨mn x y=y:=by unfold mn;split<;>simp
theorem mx_or (x y:Rat):mx x y=x∨mx x y=y:=by unfold mx;split<;>simp
theorem foldl_mn_le (l:List Rat):∀ x,l.foldl mn x≤x∧∀ y∈l,l.foldl mn x≤y:=by
 induction l with
 | nil=>intro x;exact⟨Rat.le_refl,by simp⟩
 | cons z l ih=>
  intro x
  obtain⟨h1,h2⟩:=ih (mn x z)
  refine⟨Rat.le_trans h1 (mn_le1 x z),fun y hy=>?_⟩
  rcases List.mem_cons.1 hy with rfl | hy
  ·exact Rat.le_trans h1 (mn_le2 x y)
  ·exact h2 y hy
theorem foldl_mx_le (l:List Rat):∀ x,x≤l.foldl mx x∧∀ y∈l,y≤l.foldl mx x:=by
 induction l with
 | nil=>intro x;exact⟨Rat.le_refl,by simp⟩
 | cons z l ih=>
  intro x
  obtain⟨h1,h2⟩:=ih (mx x z)
  refine⟨Rat.le_trans (mx_le1 x z) h1,fun y hy=>?_⟩
  rcases List.mem_cons.1 hy with rfl | hy
  ·exact Rat.le_trans (mx_le2 x y) h1
  ·exact h2 y hy
theorem foldl_mn_mem (l:List Rat):∀ x,l.foldl mn x∈x::l:=by
 induction l with
 | nil=>intro x;simp
 | cons z l ih=>
  intro x
  have:=ih (mn x z)
  rcases List.mem_cons.1 this with h | h
  ·rw[List.foldl_cons,h]
   rcases mn_or x z with e | e<;>rw[e]<;>simp
  ·exact List.mem_cons_of_mem _ (List.mem_cons_of_mem _ h)
theorem foldl_mx_mem (l:List Rat):∀ x,l.foldl mx x∈x::l:=by
 induction l with
 | nil=>intro x;simp
 | cons z l ih=>
  intro x
  have:=ih (mx x z)
  rcases List.mem_cons.1 this with h | h
  ·rw[List.foldl_cons,h]
   rcases mx_or x z with e | e<;>rw[e]<;>simp
  ·exact List.mem_cons_of_mem _ (List.mem_cons_of_mem _ h)
theorem minL_le {l:List Rat} {y:Rat} (h:y∈l):minL l≤y:=by
 cases l with
 | nil=>simp at h
 | cons x l=>
  rcases List.mem_cons.1 h with rfl | h
  ·exact (foldl_mn_le l y).1
  ·exact (foldl_mn_le l x).2 y h
theorem le_maxL {l:List Rat} {y:Rat} (h:y∈l):y≤maxL l:=by
 cases l with
 | nil=>simp at h
 | cons x l=>
  rcases List.mem_cons.1 h with rfl | h
  ·exact (foldl_mx_le l y).1
  ·exact (foldl_mx_le l x).2 y h
theorem minL_mem {l:List Rat} (h:l≠[]):minL l∈l:=by
 cases l with
 | nil=>exact absurd rfl h
 | cons x l=>exact foldl_mn_mem l x
theorem maxL_mem {l:List Rat} (h:l≠[]):maxL l∈l:=by
 cases l with
 | nil=>exact absurd rfl h
 | cons x l=>exact foldl_mx_mem l x
theorem mul_mono {x y z:Rat} (h:x≤y) (hz:0≤z):x*z≤y*z:=Rat.mul_le_mul_of_nonneg_right h hz
/-- The ends of a product. -/
def mulL (a b c d:Rat):List Rat:=[a*c,a*d,b*c,b*d]
/-- The ends of a square. -/
def sqL (a b:Rat):List Rat:=if a≤0∧0≤b then [0,a*a,b*b] else [a*a,b*b]
theorem sq_nonneg (x:Rat):0≤x*x:=by
 rcases Rat.le_total (a:=0) (b:=x) with h | h
 ·exact Rat.mul_nonneg h h
 ·have:=Rat.mul_nonneg (a:=-x) (b:=-x) (by grind) (by grind);grind
theorem inv_neg' {x:Rat} (h:x<0):x⁻¹<0:=by
 have h1:0<(-x)⁻¹:=Rat.inv_pos.2 (by grind)
 have h2:=Rat.mul_inv_cancel (-x) (by grind)
 have h3:=Rat.mul_inv_cancel x (by grind)
 have:(-x)⁻¹ = - x⁻¹:=by
  apply Rat.inv_eq_of_mul_eq_one;grind
 grind
/-- Inverses turn the order around. -/
theorem inv_le {x y:Rat} (h:x≤y) (hs:0<x∨y<0):y⁻¹≤x⁻¹:=by
 have hx:x≠0:=by grind
 have hy:y≠0:=by grind
 have e1:x*(x⁻¹*y⁻¹)=y⁻¹:=by rw[←Rat.mul_assoc,Rat.mul_inv_cancel x hx,Rat.one_mul]
 have e2:y*(x⁻¹*y⁻¹)=x⁻¹:=by rw[Rat.mul_comm x⁻¹,←Rat.mul_assoc,Rat.mul_inv_cancel y hy,Rat.one_mul]
 rcases hs with hs | hs
 ·have p1:0<x⁻¹:=Rat.inv_pos.2 hs
  have p2:0<y⁻¹:=Rat.inv_pos.2 (by grind)
  have:=mul_mono h (z:=x⁻¹*y⁻¹) (Rat.mul_nonneg (Rat.le_of_lt p1) (Rat.le_of_lt p2))
  rwa [e1,e2] at this
 ·have p1:x⁻¹<0:=inv_neg' (by grind)
  have p2:y⁻¹<0:=inv_neg' hs
  have:=mul_mono h (z:=x⁻¹*y⁻¹) (by have:=Rat.mul_nonneg (a:=-x⁻¹) (b:=-y⁻¹) (by grind) (by grind);grind)
  rwa [e1,e2] at this
theorem inv_ord {c d:Rat} (h:c≤d) (hs:0<c∨d<0):d⁻¹≤c⁻¹:=inv_le h (by grind)
theorem sqL_ne (a b:Rat):sqL a b≠[]:=by unfold sqL;split<;>simp
end RQ
end Go.Proofs.YtphckmdnflbloaaGreat

namespace Go.Proofs.YtphckmdnflbloaaGreat
open Go.RowKit RQ
theorem noL6 (b:Bool) (A:Option Addr) (n c:Nat) (D:Option Addr) (m d:Nat) (b':Bool) (A':Option Addr) (n' c':Nat) (D':Option Addr) (m' d':Nat):NoL #[.bool b,.slice A n c,.slice D m d,.bool b',.slice A' n' c',.slice D' m' d']:=by
 intro i z;match i with
 | 0=>simp
 | 1=>simp
 | 2=>simp
 | 3=>simp
 | 4=>simp
 | 5=>simp
 | k+6=>simp
/-- What is known of a row without a world. -/
def Rk (b:Bool) (n:Nat) (x:List Nat) (m:Nat) (y:List Nat) (q:Rat):Prop:=rv b x y=q∧n≤40∧m≤40
/-- A row of at most 40 limbs that counts as the number q. -/
structure Rw (W:World) (b:Bool) (A:Option Addr) (n c:Nat) (x:List Nat) (D:Option Addr) (m d:Nat) (y:List Nat) (q:Rat):Prop where
 rn:Rd W A n c x
 rd:Rd W D m d y
 k:Rk b n x m y q
section
variable {W:World} {b:Bool} {A:Option Addr} {n c:Nat} {x:List Nat} {D:Option Addr} {m d:Nat} {y:List Nat} {q:Rat}
theorem Rw.of (h1:Rd W A n c x) (h2:Rd W D m d y) (k:Rk b n x m y q):Rw W b A n c x D m d y q:=⟨h1,h2,k⟩
theorem Rw.rs (h:Rw W b A n c x D m d y q):Rs q 40:=h.k.1 ▸ Rs.of h.rn.sm h.rd.sm (Nat.le_trans (Nat.le_of_eq h.rn.len) h.k.2.1) (Nat.le_trans (Nat.le_of_eq h.rd.len) h.k.2.2) (by decide)
theorem RR.w (h:RR W A n c D m d q) (hs:Rs q 40):Rw W (ng q.num) A n c (limbs q.num.natAbs) D m d (dn q) q:=⟨h.n,h.d,rv_z q,(h.lens hs).1,(h.lens hs).2⟩
theorem Rw.bel {W':World} (h:Rw W b A n c x D m d y q) (hb:Below W.heap.size W W'):Rw W' b A n c x D m d y q:=⟨h.rn.below hb,h.rd.below hb,h.k⟩
theorem Rw.zero (W:World):Rw W false none 0 0 [] none 0 0 [] 0:=⟨Rd.nil_ _ _ _,Rd.nil_ _ _ _,rfl,by decide,by decide⟩
end
/-- A row that counts as a number, by its parts. -/
structure Rt where
 b:Bool
 A:Option Addr
 n:Nat
 c:Nat
 x:List Nat
 D:Option Addr
 m:Nat
 d:Nat
 y:List Nat
 q:Rat
def Rt.at (r:Rt) (W:World):Prop:=Rw W r.b r.A r.n r.c r.x r.D r.m r.d r.y r.q
/-- A block that holds rows, one behind the other. -/
structure Lt (W:World) (g:Nat) (L:List Rt):Prop where
 lt:g<W.heap.size
 cl:∀ (i:Nat) (r:Rt),L[i]?=some r→W.cell? ⟨g,i*3,none⟩=some (.bool r.b)∧W.cell? ⟨g,i*3+1,none⟩=some (.slice r.A r.n r.c)∧W.cell? ⟨g,i*3+2,none⟩=some (.slice r.D r.m r.d)
 at_:∀ r∈L,r.at W
theorem Lt.bel {W W':World} {g:Nat} {L:List Rt} (h:Lt W g L) (hb:Below W.heap.size W W'):Lt W' g L:=by
 refine⟨Nat.lt_of_lt_of_le h.lt hb.size,fun i r hi=>?_,fun r hr=>(h.at_ r hr).bel hb⟩
 obtain⟨h1,h2,h3⟩:=h.cl i r hi
 refine⟨?_,?_,?_⟩
 ·rw[World.cell?_of_block (hb.block g h.lt)];exact h1
 ·rw[World.cell?_of_block (hb.block g h.lt)];exact h2
 ·rw[World.cell?_of_block (hb.block g h.lt)];exact h3
end Go.Proofs.YtphckmdnflbloaaGreat

namespace Go.Proofs.YtphckmdnflbloaaGreat
open Go.RowKit RQ
theorem cmpq_lt0 (x y:Rat):decide (cmpq x y<0)=decide (x<y):=by rw[decide_eq_decide];exact cmpq_neg
theorem cmpq_gt0 (x y:Rat):decide (0<cmpq x y)=decide (y<x):=by rw[decide_eq_decide];exact cmpq_pos
theorem minL_one (l:List Rat) {x:Rat} (h:l[0]?=some x):minL (l.take 1)=x:=by
 cases l with
 | nil=>simp at h
 | cons a l=>simp at h;subst h;rfl
theorem maxL_one (l:List Rat) {x:Rat} (h:l[0]?=some x):maxL (l.take 1)=x:=by
 cases l with
 | nil=>simp at h
 | cons a l=>simp at h;subst h;rfl
theorem take_snoc (l:List Rat) (i:Nat) {x:Rat} (h:l[i]?=some x):l.take (i+1)=l.take i++[x]:=by
 obtain⟨hi,he⟩:=List.getElem?_eq_some_iff.1 h
 rw[List.take_succ_eq_append_getElem hi,he]
theorem minL_snoc (l:List Rat) (h:l≠[]) (x:Rat):minL (l++[x])=mn (minL l) x:=by
 cases l with
 | nil=>exact absurd rfl h
 | cons a l=>show (l++[x]).foldl mn a=mn (l.foldl mn a) x;rw[List.foldl_append];rfl
theorem maxL_snoc (l:List Rat) (h:l≠[]) (x:Rat):maxL (l++[x])=mx (maxL l) x:=by
 cases l with
 | nil=>exact absurd rfl h
 | cons a l=>show (l++[x]).foldl mx a=mx (l.foldl mx a) x;rw[List.foldl_append];rfl
theorem minL_step (l:List Rat) (i:Nat) (hi:1≤i) {x r:Rat} (h:l[i]?=some x) (hr:r=minL (l.take i)):(if x<r then x else r)=minL (l.take (i+1)):=by
 obtain⟨hl,_⟩:=List.getElem?_eq_some_iff.1 h
 rw[take_snoc l i h,minL_snoc _ (by intro e;rcases List.take_eq_nil_iff.1 e with e | e;omega;subst e;simp at hl),←hr];rfl
theorem maxL_step (l:List Rat) (i:Nat) (hi:1≤i) {x r:Rat} (h:l[i]?=some x) (hr:r=maxL (l.take i)):(if r<x then x else r)=maxL (l.take (i+1)):=by
 obtain⟨hl,_⟩:=List.getElem?_eq_some_iff.1 h
 rw[take_snoc l i h,maxL_snoc _ (by intro e;rcases List.take_eq_nil_iff.1 e with e | e;omega;subst e;simp at hl),←hr];rfl
theorem res_minFunc (W:World) (tmps:Array Value) (g t:Nat) {v0 v1 v2:Value} (ht:tmps.getD 4 undef=.pointer (some ⟨g,0,none⟩)) (h:Cb W g #[v0,v1,v2] t) :
  (results Tryz.f151 tmps).run Tryz.prog W=.ok (.agg #[v0,v1,v2]) W:=by
 have c0:W.cell? ⟨g,0,none⟩=some v0:=h.cell rfl
 have c1:W.cell? ⟨g,1,none⟩=some v1:=h.cell rfl
 have c2:W.cell? ⟨g,2,none⟩=some v2:=h.cell rfl
 have ht':tmps[4]?.getD undef=.pointer (some ⟨g,0,none⟩):=by rw[←ht];simp[Array.getD_eq_getD_getElem?]
 simp[results,Tryz.results151,go_sem,ht',c0,c1,c2]
set_option maxRecDepth 100000 in
set_option maxHeartbeats 8000000 in
theorem minFunc_any (L:List Rt) (g:Nat) (w:World) (h:Lt w g L) (hL:0<L.length) (hl:L.length≤1000)
  (hC:Hid (∀ (W:World) (r s:Rt),r.at W→s.at W→Calls Tryz.prog 102 #[.agg #[.bool r.b,.slice r.A r.n r.c,.slice r.D r.m r.d],.agg #[.bool s.b,.slice s.A s.n s.c,.slice s.D s.m s.d]] W fun e w'=>e=.returned (.int .i64 (cmpq r.q s.q))∧Below W.heap.size W w')) :
  Calls Tryz.prog 151 #[.slice (some ⟨g,0,none⟩) L.length L.length,.func (.func 102) #[] #[]] w fun e w'=>∃ r∈L,r.q=minL (L.map (·.q))∧e=.returned (.agg #[.bool r.b,.slice r.A r.n r.c,.slice r.D r.m r.d])∧Below w.heap.size w w':=by
 obtain⟨r0,hr0⟩:∃ r,L[0]?=some r:=⟨L[0],by simp[hL]⟩
 have hm0:r0∈L:=List.mem_of_getElem? hr0
 have h1':=Lib.hid hr0
 obtain⟨z0,z1,z2⟩:=h.cl 0 r0 hr0
 have hg:=h.lt
 generalize hk:L.length=k at *
 have S:=(St.new w).allocAt (w.heap.size) #[.bool false,.slice none 0 0,.slice none 0 0] 26 (noL3 _ _ _ _ _ _ _) (by simp)
 have y0:(World.alloc w (.cells #[.bool false,.slice none 0 0,.slice none 0 0] 26)).cell? ⟨g,0,none⟩=some (.bool r0.b):=by rw[World.cell?_of_block (S.bel.block g hg)];exact z0
 have y1:(World.alloc w (.cells #[.bool false,.slice none 0 0,.slice none 0 0] 26)).cell? ⟨g,1,none⟩=some (.slice r0.A r0.n r0.c):=by rw[World.cell?_of_block (S.bel.block g hg)];exact z1
 have y2:(World.alloc w (.cells #[.bool false,.slice none 0 0,.slice none 0 0] 26)).cell? ⟨g,2,none⟩=some (.slice r0.D r0.m r0.d):=by rw[World.cell?_of_block (S.bel.block g hg)];exact z2
 replace S:=Lib.hid (S.allocAt (w.heap.size+1) #[.bool r0.b,.slice r0.A r0.n r0.c,.slice r0.D r0.m r0.d] 26 (noL3 _ _ _ _ _ _ _) (by simp))
 clear z0 z1 z2
 replace h:=Lib.hid h
 replace hr0:=Lib.hid hr0
 replace hm0:=Lib.hid hm0
 have hk':=Lib.hid hk
 replace hg:=Lib.hid hg
 clear hk
 have k1:(1:Int)≤(k:Int):=by omega
 have k2:decide ((k:Int)<1)=false:=decide_eq_false (by omega)
 have k3:(0:Int)<(k:Int):=by omega
 go_enter Tryz.func151,Tryz.ntmps151
 go_wp2
 go_loopw [6] (fun iv wr=>∃ (i:Nat) (r:Rt),1≤i∧i≤k∧iv=.int .i64 i∧r∈L∧r.q=minL ((L.map (·.q)).take i)∧St w wr [(w.heap.size+1,#[.bool r.b,.slice r.A r.n r.c,.slice r.D r.m r.d],26),(w.heap.size,#[.bool false,.slice none 0 0,.slice none 0 0],26)] []) (fun iv _=>k-(intOf iv).toNat)
 case atStart=>exact⟨1,r0,Nat.le_refl _,by omega,rfl,hm0.out,(minL_one _ (by rw[List.getElem?_map,hr0.out];rfl)).symm,S.out⟩
 case round=>
  clear S y0 y1 y2
  obtain⟨i,r,hi1,hik,rfl,hr,hq,S⟩:=hrel
  by_cases hlt:i<k
  ·obtain⟨x,hx⟩:∃ x,L[i]?=some x:=⟨L[i]'(by rw[hk'.out];exact hlt),by simp⟩
   have hxm:x∈L:=List.mem_of_getElem? hx
   obtain⟨e0,e1,e2⟩:=(h.out.bel S.bel).cl i x hx
   have hst:=Lib.hid (minL_step (L.map (·.q)) i hi1 (x:=x.q) (by rw[List.getElem?_map,hx];rfl) hq)
   have hCx:=Lib.hid (fun W (h':Lt W g L)=>hC.out W x r (h'.at_ x hxm) (h'.at_ r hr))
   have cc_:=cmpq_lt0 x.q r.q
   obtain⟨c0,c1,c2,f0,f1,f2⟩:=S.cf3 0 rfl
   replace S:=Lib.hid S
   replace hx:=Lib.hid hx
   replace hxm:=Lib.hid hxm
   replace hr:=Lib.hid hr
   replace hq:=Lib.hid hq
   have g1:(i:Int)<(k:Int):=by omega
   have g0:(0:Int)≤(i:Int):=by omega
   generalize cmpq x.q r.q=cc at *
   have hh:=Lib.hid hlt
   have hh1:=Lib.hid hi1
   clear hlt hi1 hik
   go_wp2
   go_region_with (go_at_call 102;refine (hCx.out _ (h.out.bel S.out.drew.bel)).mono ?_;rintro e w1 ⟨rfl,bb⟩)
   all_goals
    have T:=S.out.drew.call bb
    clear S bb c0 c1 c2 f0 f1 f2 e0 e1 e2
    obtain⟨e0,e1,e2⟩:=(h.out.bel T.bel).cl i x hx.out
    obtain⟨c0,c1,c2,f0,f1,f2⟩:=T.cf3 0 rfl
    have S:=Lib.hid T
    clear T
    cases hb:decide (x.q<r.q)
    ·rw[hb] at cc_
     have hst':=Lib.hid (show r.q=minL ((L.map (·.q)).take (i+1)) by rw[←hst.out,if_neg (of_decide_eq_false hb)])
     clear hb hst e0 e1 e2
     go_wp2
     go_roundw
     case rel=>exact⟨i+1,r,by omega,hh.out,by have:=hh.out;go_num,hr.out,hst'.out,S.out⟩
     case measure=>have:=hh.out;simp[intOf];omega
    ·rw[hb] at cc_
     have hst':=Lib.hid (show x.q=minL ((L.map (·.q)).take (i+1)) by rw[←hst.out,if_pos (of_decide_eq_true hb)])
     clear hb hst
     go_wp2
     go_roundw
     case rel=>exact⟨i+1,x,by omega,hh.out,by have:=hh.out;go_num,hxm.out,hst'.out,((S.out.set 0 0 _ rfl (by nofun)).set 0 1 _ rfl (by nofun)).set 0 2 _ rfl (by nofun)⟩
     case measure=>have:=hh.out;simp[intOf];omega
  ·have ek:i=k:=by omega
   subst ek
   have hq':Hid (r.q=minL (L.map (·.q))):=Lib.hid (by rw[hq,List.take_of_length_le (by rw[List.length_map,hk'.out];exact Nat.le_refl _)])
   obtain⟨c0,c1,c2⟩:=S.c3 0 rfl
   obtain⟨d0,d1,d2,f0,f1,f2⟩:=S.cf3 1 rfl
   replace hr:=Lib.hid hr
   replace S:=Lib.hid (((S.set 1 0 (.bool r.b) rfl (by nofun)).set 1 1 (.slice r.A r.n r.c) rfl (by nofun)).set 1 2 (.slice r.D r.m r.d) rfl (by nofun))
   clear hlt hi1 hik hq
   go_wp2
   refine bodyPost_ret (res_minFunc _ _ (w.heap.size) 26 rfl (S.out.bk _ (List.mem_of_getElem? (i:=1) rfl)).1) rfl ?_
   exact⟨r,hr.out,hq'.out,rfl,S.out.bel⟩
theorem res_maxFunc (W:World) (tmps:Array Value) (g t:Nat) {v0 v1 v2:Value} (ht:tmps.getD 4 undef=.pointer (some ⟨g,0,none⟩)) (h:Cb W g #[v0,v1,v2] t) :
  (results Tryz.f150 tmps).run Tryz.prog W=.ok (.agg #[v0,v1,v2]) W:=by
 have c0:W.cell? ⟨g,0,none⟩=some v0:=h.cell rfl
 have c1:W.cell? ⟨g,1,none⟩=some v1:=h.cell rfl
 have c2:W.cell? ⟨g,2,none⟩=some v2:=h.cell rfl
 have ht':tmps[4]?.getD undef=.pointer (some ⟨g,0,none⟩):=by rw[←ht];simp[Array.getD_eq_getD_getElem?]
 simp[results,Tryz.results150,go_sem,ht',c0,c1,c2]
set_option maxRecDepth 100000 in
set_option maxHeartbeats 8000000 in
theorem maxFunc_any (L:List Rt) (g:Nat) (w:World) (h:Lt w g L) (hL:0<L.length) (hl:L.length≤1000)
  (hC:Hid (∀ (W:World) (r s:Rt),r.at W→s.at W→Calls Tryz.prog 102 #[.agg #[.bool r.b,.slice r.A r.n r.c,.slice r.D r.m r.d],.agg #[.bool s.b,.slice s.A s.n s.c,.slice s.D s.m s.d]] W fun e w'=>e=.returned (.int .i64 (cmpq r.q s.q))∧Below W.heap.size W w')) :
  Calls Tryz.prog 150 #[.slice (some ⟨g,0,none⟩) L.length L.length,.func (.func 102) #[] #[]] w fun e w'=>∃ r∈L,r.q=maxL (L.map (·.q))∧e=.returned (.agg #[.bool r.b,.slice r.A r.n r.c,.slice r.D r.m r.d])∧Below w.heap.size w w':=by
 obtain⟨r0,hr0⟩:∃ r,L[0]?=some r:=⟨L[0],by simp[hL]⟩
 have hm0:r0∈L:=List.mem_of_getElem? hr0
 have h1':=Lib.hid hr0
 obtain⟨z0,z1,z2⟩:=h.cl 0 r0 hr0
 have hg:=h.lt
 generalize hk:L.length=k at *
 have S:=(St.new w).allocAt (w.heap.size) #[.bool false,.slice none 0 0,.slice none 0 0] 26 (noL3 _ _ _ _ _ _ _) (by simp)
 have y0:(World.alloc w (.cells #[.bool false,.slice none 0 0,.slice none 0 0] 26)).cell? ⟨g,0,none⟩=some (.bool r0.b):=by rw[World.cell?_of_block (S.bel.block g hg)];exact z0
 have y1:(World.alloc w (.cells #[.bool false,.slice none 0 0,.slice none 0 0] 26)).cell? ⟨g,1,none⟩=some (.slice r0.A r0.n r0.c):=by rw[World.cell?_of_block (S.bel.block g hg)];exact z1
 have y2:(World.alloc w (.cells #[.bool false,.slice none 0 0,.slice none 0 0] 26)).cell? ⟨g,2,none⟩=some (.slice r0.D r0.m r0.d):=by rw[World.cell?_of_block (S.bel.block g hg)];exact z2
 replace S:=Lib.hid (S.allocAt (w.heap.size+1) #[.bool r0.b,.slice r0.A r0.n r0.c,.slice r0.D r0.m r0.d] 26 (noL3 _ _ _ _ _ _ _) (by simp))
 clear z0 z1 z2
 replace h:=Lib.hid h
 replace hr0:=Lib.hid hr0
 replace hm0:=Lib.hid hm0
 have hk':=Lib.hid hk
 replace hg:=Lib.hid hg
 clear hk
 have k1:(1:Int)≤(k:Int):=by omega
 have k2:decide ((k:Int)<1)=false:=decide_eq_false (by omega)
 have k3:(0:Int)<(k:Int):=by omega
 go_enter Tryz.func150,Tryz.ntmps150
 go_wp2
 go_loopw [6] (fun iv wr=>∃ (i:Nat) (r:Rt),1≤i∧i≤k∧iv=.int .i64 i∧r∈L∧r.q=maxL ((L.map (·.q)).take i)∧St w wr [(w.heap.size+1,#[.bool r.b,.slice r.A r.n r.c,.slice r.D r.m r.d],26),(w.heap.size,#[.bool false,.slice none 0 0,.slice none 0 0],26)] []) (fun iv _=>k-(intOf iv).toNat)
 case atStart=>exact⟨1,r0,Nat.le_refl _,by omega,rfl,hm0.out,(maxL_one _ (by rw[List.getElem?_map,hr0.out];rfl)).symm,S.out⟩
 case round=>
  clear S y0 y1 y2
  obtain⟨i,r,hi1,hik,rfl,hr,hq,S⟩:=hrel
  by_cases hlt:i<k
  ·obtain⟨x,hx⟩:∃ x,L[i]?=some x:=⟨L[i]'(by rw[hk'.out];exact hlt),by simp⟩
   have hxm:x∈L:=List.mem_of_getElem? hx
   obtain⟨e0,e1,e2⟩:=(h.out.bel S.bel).cl i x hx
   have hst:=Lib.hid (maxL_step (L.map (·.q)) i hi1 (x:=x.q) (by rw[List.getElem?_map,hx];rfl) hq)
   have hCx:=Lib.hid (fun W (h':Lt W g L)=>hC.out W x r (h'.at_ x hxm) (h'.at_ r hr))
   have cc_:=cmpq_gt0 x.q r.q
   obtain⟨c0,c1,c2,f0,f1,f2⟩:=S.cf3 0 rfl
   replace S:=Lib.hid S
   replace hx:=Lib.hid hx
   replace hxm:=Lib.hid hxm
   replace hr:=Lib.hid hr
   replace hq:=Lib.hid hq
   have g1:(i:Int)<(k:Int):=by omega
   have g0:(0:Int)≤(i:Int):=by omega
   generalize cmpq x.q r.q=cc at *
   have hh:=Lib.hid hlt
   have hh1:=Lib.hid hi1
   clear hlt hi1 hik
   go_wp2
   go_region_with (go_at_call 102;refine (hCx.out _ (h.out.bel S.out.drew.bel)).mono ?_;rintro e w1 ⟨rfl,bb⟩)
   all_goals
    have T:=S.out.drew.call bb
    clear S bb c0 c1 c2 f0 f1 f2 e0 e1 e2
    obtain⟨e0,e1,e2⟩:=(h.out.bel T.bel).cl i x hx.out
    obtain⟨c0,c1,c2,f0,f1,f2⟩:=T.cf3 0 rfl
    have S:=Lib.hid T
    clear T
    cases hb:decide (r.q<x.q)
    ·rw[hb] at cc_
     have hst':=Lib.hid (show r.q=maxL ((L.map (·.q)).take (i+1)) by rw[←hst.out,if_neg (of_decide_eq_false hb)])
     clear hb hst e0 e1 e2
     go_wp2
     go_roundw
     case rel=>exact⟨i+1,r,by omega,hh.out,by have:=hh.out;go_num,hr.out,hst'.out,S.out⟩
     case measure=>have:=hh.out;simp[intOf];omega
    ·rw[hb] at cc_
     have hst':=Lib.hid (show x.q=maxL ((L.map (·.q)).take (i+1)) by rw[←hst.out,if_pos (of_decide_eq_true hb)])
     clear hb hst
     go_wp2
     go_roundw
     case rel=>exact⟨i+1,x,by omega,hh.out,by have:=hh.out;go_num,hxm.out,hst'.out,((S.out.set 0 0 _ rfl (by nofun)).set 0 1 _ rfl (by nofun)).set 0 2 _ rfl (by nofun)⟩
     case measure=>have:=hh.out;simp[intOf];omega
  ·have ek:i=k:=by omega
   subst ek
   have hq':Hid (r.q=maxL (L.map (·.q))):=Lib.hid (by rw[hq,List.take_of_length_le (by rw[List.length_map,hk'.out];exact Nat.le_refl _)])
   obtain⟨c0,c1,c2⟩:=S.c3 0 rfl
   obtain⟨d0,d1,d2,f0,f1,f2⟩:=S.cf3 1 rfl
   replace hr:=Lib.hid hr
   replace S:=Lib.hid (((S.set 1 0 (.bool r.b) rfl (by nofun)).set 1 1 (.slice r.A r.n r.c) rfl (by nofun)).set 1 2 (.slice r.D r.m r.d) rfl (by nofun))
   clear hlt hi1 hik hq
   go_wp2
   refine bodyPost_ret (res_maxFunc _ _ (w.heap.size) 26 rfl (S.out.bk _ (List.mem_of_getElem? (i:=1) rfl)).1) rfl ?_
   exact⟨r,hr.out,hq'.out,rfl,S.out.bel⟩
end Go.Proofs.YtphckmdnflbloaaGreat
