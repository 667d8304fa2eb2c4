/- Contracts of gcdUint, limbAt and difference. Contracts of highBits and foresee. -/
import Derived.Test.YtdeedofmflelfaaGreatDoorQWqz
namespace Go.Proofs.YtdeedofmflelfaaGreatDoor
open Go.RowKit
set_option maxHeartbeats 1000000 in
theorem gcdUint_any (v y:Nat) (w:World) (hv:v<18446744073709551616) (hy:y<18446744073709551616) :
  Calls Tryz.prog 234 #[.int .u64 v,.int .u64 y] w fun e w'=>e=.returned (.int .u64 (Nat.gcd v y:Nat))∧Below w.heap.size w w':=by
 replace hv:=Lib.hid hv
 replace hy:=Lib.hid hy
 go_enter Tryz.func234,Tryz.ntmps234
 go_wp2
 go_loopg [0,1] y (fun b av bv wr=>∃ a:Nat,av=.int .u64 a∧bv=.int .u64 b∧Nat.gcd a b=Nat.gcd v y∧Below w.heap.size w wr)
 case atStart=>exact⟨v,rfl,rfl,rfl,Below.refl _ _⟩
 case round=>
  obtain⟨a,rfl,rfl,hg,hB⟩:=hrel
  by_cases h0:gk=0
  ·subst h0
   rw[Nat.gcd_zero_right] at hg
   replace hg:=Lib.hid hg
   replace hB:=Lib.hid hB
   go_wp2
   go_ret
   exact⟨ret_u32 (by rw[hg.out]),hB.out⟩
  ·have hne:((gk:Int) != 0)=true:=by simp;omega
   have hpos:(1:Int)≤(gk:Int):=by omega
   have ha0:(0:Int)≤(a:Int):=by omega
   have hml:=Nat.mod_lt a (show 0<gk by omega)
   have hmi:(a:Int)%(gk:Int)=((a%gk:Nat):Int):=(Int.natCast_emod a gk).symm
   have hg2:=(gcd_step a gk).trans hg
   replace hg2:=Lib.hid hg2
   replace hml:=Lib.hid hml
   replace hB:=Lib.hid hB
   clear hg h0
   go_wp2
   go_quiet (fail)
   go_wp2
   go_roundg (a%gk)
   case measure=>exact hml.out
   case rel=>exact⟨gk,rfl,rfl,hg2.out,below_drewN hB.out _⟩
theorem limbAt_any (A:Option Addr) (n c:Nat) (xs:List Nat) (w:World) (i:Int) (k x:Nat) (h:Rd w A n c xs) (_:n≤100000) (hi:i=k) (hx:xs.getD k 0=x) :
  Calls Tryz.prog 252 #[.slice A n c,.int .i64 i] w fun e w'=>e=.returned (.int .u32 (x:Nat))∧w'=w:=by
 subst hi
 by_cases hk:k<n
 ·obtain⟨b,o,x',rfl,hb,hx',hxe,hc⟩:=h.at_ hk
  obtain rfl:x'=x:=hxe.symm.trans hx
  have g1:(0:Int)≤(k:Int):=by omega
  have g2:(k:Int)<(n:Int):=by omega
  clear h hx hxe
  go_enter Tryz.func252,Tryz.ntmps252
  go_wp2
  go_ret
  exact⟨rfl,rfl⟩
 ·obtain rfl:x=0:=by rw[←hx];exact getD_none (by rw[h.len];omega)
  have g2:(n:Int)≤(k:Int):=by omega
  clear h hx
  go_enter Tryz.func252,Tryz.ntmps252
  go_wp2
  go_ret
  exact⟨rfl,rfl⟩
theorem limbAt_eq (A:Option Addr) (n c:Nat) (xs:List Nat) (w:World) (i:Int) (k x:Nat) (h:Rd w A n c xs) (hn:n≤100000) (hi:i=k) (hx:xs.getD k 0=x) :
  Calls Tryz.prog 252 #[.slice A n c,.int .i64 i] w fun e w'=>e=.returned (.int .u32 (x:Nat))∧w=w':=
 (limbAt_any A n c xs w i k x h hn hi hx).mono fun _ _ ⟨a,b⟩=>⟨a,b.symm⟩
set_option maxHeartbeats 4000000 in
theorem diff_any (A:Option Addr) (n c x:Nat) (A':Option Addr) (n' c' y:Nat) (p q:Nat) (w:World)
  (h1:Rd w A n c (limbs x)) (h2:Rd w A' n' c' (limbs y)) (hn:n≤10000) (hn':n'≤10000) (hp:p<4294967296) (hq:q<4294967296) (hle:q*y≤p*x) (hlt:p*x-q*y<4294967296^max n n') :
  Calls Tryz.prog 245 #[.int .u64 p,.slice A n c,.int .u64 q,.slice A' n' c'] w (RetN (p*x-q*y) w):=by
 have hmk:∀ W:World,(Instr.makeSlice 42 (.int .i64 (max (n:Int) (n':Int))) (.int .i64 (max (n:Int) (n':Int)))).run Tryz.prog W=.ok (.slice (some ⟨W.heap.size,0,none⟩) (max n n') (max n n')) (W.alloc (.cells (madeCells #[.int .u32 0] (max n n')) 119)):=fun W=>by
  rw[show max (n:Int) (n':Int)=((max n n':Nat):Int) by omega]
  exact make_u32 (max n n') (by omega) .i64 .i64 W
 replace h1:=Lib.hid h1
 replace h2:=Lib.hid h2
 replace hle:=Lib.hid hle
 replace hlt:=Lib.hid hlt
 go_enter Tryz.func245,Tryz.ntmps245
 go_wp2
 go_loopw [10,11,12,23] (fun pv mv bv iv wr=>∃ (k plus minus br:Nat) (zs:List Nat),k≤max n n'∧iv=.int .i64 k∧pv=.int .u64 plus∧mv=.int .u64 minus∧bv=.int .u64 br∧br≤1∧plus<4294967296∧minus<4294967296 ∧
   zs.length=max n n'∧Own wr w.heap.size zs∧Below w.heap.size w wr ∧
   val (zs.take k)+q*val ((limbs y).take k)+4294967296^k*plus=p*val ((limbs x).take k)+4294967296^k*(minus+br))
  (fun _ _ _ iv _=>max n n'-(intOf iv).toNat)
 case atStart=>exact⟨0,0,0,0,List.replicate (max n n') 0,Nat.zero_le _,rfl,rfl,rfl,rfl,by omega,by omega,by omega,by simp,Own.new _ _,(Below.refl _ _).alloc (Nat.le_refl _) _,by simp[val]⟩
 case round=>
  clear hmk
  obtain⟨k,plus,minus,br,zs,hk,rfl,rfl,rfl,rfl,hbr,hpl,hmi,hl,hO,hB,hv⟩:=hrel
  replace hl:=Lib.hid hl
  replace hO:=Lib.hid hO
  replace hB:=Lib.hid hB
  replace hv:=Lib.hid hv
  by_cases hlt2:k<max n n'
  ·obtain⟨x1,hx1⟩:∃ x1,(limbs x).getD k 0=x1:=⟨_,rfl⟩
   obtain⟨y1,hy1⟩:∃ y1,(limbs y).getD k 0=y1:=⟨_,rfl⟩
   have hx1b:x1<4294967296:=by rw[←hx1];exact sm_get (sm_limbs _) k
   have hy1b:y1<4294967296:=by rw[←hy1];exact sm_get (sm_limbs _) k
   obtain⟨P,hP⟩:∃ P,P=plus+p*x1:=⟨_,rfl⟩
   obtain⟨M,hM⟩:∃ M,M=minus+q*y1:=⟨_,rfl⟩
   have hp1:=mul_bd hp hx1b
   have hq1:=mul_bd hq hy1b
   have hPc:(plus:Int)+(p:Int)*(x1:Int)=(P:Int):=by rw[hP];simp
   have hMc:(minus:Int)+(q:Int)*(y1:Int)=(M:Int):=by rw[hM];simp
   have hPb:(P:Int)≤18446744069414584320:=by omega
   have hMb:(M:Int)≤18446744069414584320:=by omega
   have hp2:(p:Int)*(x1:Int)≤18446744065119617025:=by have e:((p*x1:Nat):Int)=(p:Int)*x1:=Int.natCast_mul p x1;omega
   have hp3:0≤(p:Int)*(x1:Int):=by have e:((p*x1:Nat):Int)=(p:Int)*x1:=Int.natCast_mul p x1;omega
   have hq2:(q:Int)*(y1:Int)≤18446744065119617025:=by have e:((q*y1:Nat):Int)=(q:Int)*y1:=Int.natCast_mul q y1;omega
   have hq3:0≤(q:Int)*(y1:Int):=by have e:((q*y1:Nat):Int)=(q:Int)*y1:=Int.natCast_mul q y1;omega
   obtain⟨d,b',hd,hb',hdd,he1,he2⟩:=diff_limb (P:=P) (M:=M) hbr
   have hst:=diff_step (by rw[hl.out];exact hlt2) hv.out hx1 hy1 hP hM hdd
   have hPd:P / 4294967296<4294967296:=by omega
   have hMd:M / 4294967296<4294967296:=by omega
   have hcell:=hO.out.cell (k:=k) (by rw[hl.out];omega)
   have hfz:=hO.out.frozen k
   replace hx1:=Lib.hid hx1
   replace hy1:=Lib.hid hy1
   replace hst:=Lib.hid hst
   replace he1:=Lib.hid he1
   replace he2:=Lib.hid he2
   replace hPd:=Lib.hid hPd
   replace hMd:=Lib.hid hMd
   replace hd:=Lib.hid hd
   clear hp1 hq1 hP hM hdd
   go_wp2_with fail
   refine (limbAt_eq _ _ _ _ _ _ k x1 (h1.out.below hB.out) (by omega) rfl hx1.out).mono ?_
   rintro e w' ⟨rfl,rfl⟩
   go_wp2_with fail
   refine (limbAt_eq _ _ _ _ _ _ k y1 (h2.out.below hB.out) (by omega) rfl hy1.out).mono ?_
   rintro e w' ⟨rfl,rfl⟩
   go_wp2
   go_roundw
   case rel=>
    have O2:=hO.out.set_ k d hd.out
    simp only[IntKind.wrap_u64]
    rw[he1.out,he2.out]
    exact⟨k+1,P / 4294967296,M / 4294967296,b',_,by omega,by go_num,by go_num,by go_num,rfl,hb',hPd.out,hMd.out,by rw[List.length_set];exact hl.out,O2,hB.out.setCell (Nat.le_refl _) _,hst.out⟩
   case measure=>simp[intOf];omega
  ·obtain rfl:k=max n n':=by omega
   have hfin:=Lib.hid (diff_last hl.out hO.out.sm (by rw[h1.out.len];omega) (by rw[h2.out.len];omega) (val_limbs x) (val_limbs y) hv.out hle.out hlt.out)
   go_wp2_with fail
   refine (trim_any _ _ _ zs _ (hO.out.rdn hl.out (Nat.le_refl _)) (by omega)).mono ?_
   rintro e w' ⟨n',rfl,rfl,R⟩
   rw[hfin.out] at R
   replace R:=Lib.hid R
   go_wp2
   go_ret
   exact⟨_,_,_,rfl,R.out,hB.out⟩
end Go.Proofs.YtdeedofmflelfaaGreatDoor

namespace Go.Proofs.YtdeedofmflelfaaGreatDoor
open Go.RowKit
set_option maxRecDepth 100000 in
set_option maxHeartbeats 400000 in
theorem high_any (A:Option Addr) (n c x m s:Nat) (ni si:Int) (w:World) (h:Rd w A n c (limbs x)) (hn:n≤10000) (hm:m≤10000) (hni:ni=(m:Int)+3) (hsi:si=s) (hs:s<32)
  (hx:x<4294967296^(m+3)) (hb:x / 4294967296^m*2^s<79228162514264337593543950336) :
  Calls Tryz.prog 244 #[.slice A n c,.int .i64 ni,.int .i64 si] w fun e w'=>e=.returned (.int .u64 (x / 4294967296^m / 2^(32-s):Nat))∧Below w.heap.size w w':=by
 subst hsi
 obtain⟨a1,h1⟩:∃ a1,(limbs x).getD m 0=a1:=⟨_,rfl⟩
 obtain⟨a2,h2⟩:∃ a2,(limbs x).getD (m+1) 0=a2:=⟨_,rfl⟩
 obtain⟨a3,h3⟩:∃ a3,(limbs x).getD (m+2) 0=a3:=⟨_,rfl⟩
 have b1:a1<4294967296:=by rw[←h1];exact sm_get (sm_limbs _) _
 have b2:a2<4294967296:=by rw[←h2];exact sm_get (sm_limbs _) _
 have b3:a3<4294967296:=by rw[←h3];exact sm_get (sm_limbs _) _
 have hV:=top3 hx h1 h2 h3
 obtain⟨hm1,hm2,hm3⟩:=high_math (a1:=a1) hs hV b1 hb
 have hor1:=or_limb a3 a2 b3 b2
 obtain⟨hi,hhi⟩:∃ hi,a3*4294967296+a2=hi:=⟨_,rfl⟩
 rw[hhi] at hm1 hm3 hor1
 have hhib:(hi:Int)≤18446744073709551615:=by omega
 obtain⟨p,hp⟩:∃ p,hi*2^s=p:=⟨_,rfl⟩
 obtain⟨q,hq⟩:∃ q,a1 / 2^(32-s)=q:=⟨_,rfl⟩
 have hpc:(hi:Int)*2^s=(p:Int):=by rw[←hp];simp
 have hqc:(a1:Int) / 2^(32-s)=(q:Int):=by rw[←hq];simp
 rw[hp] at hm1 hm3
 rw[hq] at hm2 hm3
 have hpb:(p:Int)≤18446744073709551615:=by omega
 have hq31:=pow31 hs
 have hqb:(q:Int)≤2147483648:=by omega
 have hor2:=u64_or_nat p q hm1 (by omega)
 rw[hm3] at hor2
 obtain⟨R,hR⟩:∃ R,x / 4294967296^m / 2^(32-s)=R:=⟨_,rfl⟩
 rw[hR] at hor2 ⊢
 have hc1:=fun W h'=>limbAt_eq A n c (limbs x) W ((m:Int)+3-1) (m+2) a3 h' (by omega) (by omega) h3
 have hc2:=fun W h'=>limbAt_eq A n c (limbs x) W ((m:Int)+3-2) (m+1) a2 h' (by omega) (by omega) h2
 have hc3:=fun W h'=>limbAt_any A n c (limbs x) W (m:Int) m a1 h' (by omega) rfl h1
 subst hni
 replace hc1:=Lib.hid hc1
 replace hc2:=Lib.hid hc2
 replace hc3:=Lib.hid hc3
 replace h:=Lib.hid h
 clear h1 h2 h3 hV hm1 hm2 hm3 hhi hp hq hR hx hb hq31
 have hsh:(0:Int)≤32-(s:Int):=by omega
 have hsi0:(0:Int)≤(s:Int):=by omega
 go_enter Tryz.func244,Tryz.ntmps244
 go_wp2_with fail
 refine (hc1.out _ h.out).mono ?_
 rintro e w' ⟨rfl,rfl⟩
 go_wp2_with fail
 refine (hc2.out _ h.out).mono ?_
 rintro e w' ⟨rfl,rfl⟩
 go_wp2
 have hw3:IntKind.i64.wrap (m:Int)=(m:Int):=IntWalk.i64_in _ (by omega)
 have hw4:IntKind.i64.wrap (32-(s:Int))=32-(s:Int):=IntWalk.i64_in _ (by omega)
 have hw5:(32-(s:Int)).toNat=32-s:=by omega
 go_quiet ((go_at_call 252;(with_reducible refine Calls.quiet_of_same (hc3.out _ ?_));exact⟨h.out.len,h.out.cap,h.out.sm,h.out.mem⟩))
 go_wp2
 go_ret
 exact⟨rfl,drewN_below _ _⟩
/-- A block of five cells: some steps of Euclid's algorithm. -/
def Blk (w:World) (g:Nat) (a b c d:Nat) (o:Bool):Prop:=w.heap[g]?=some (.cells #[.int .u64 (a:Nat),.int .u64 (b:Nat),.int .u64 (c:Nat),.int .u64 (d:Nat),.bool o] 225 (0,0))
theorem Blk.cells {w:World} {g a b c d:Nat} {o:Bool} (h:Blk w g a b c d o) :
  w.cell? ⟨g,0,none⟩=some (.int .u64 (a:Nat))∧w.cell? ⟨g,1,none⟩=some (.int .u64 (b:Nat))∧w.cell? ⟨g,2,none⟩=some (.int .u64 (c:Nat))∧w.cell? ⟨g,3,none⟩=some (.int .u64 (d:Nat))∧w.cell? ⟨g,4,none⟩=some (.bool o):=by
 refine⟨?_,?_,?_,?_,?_⟩<;>(rw[cell_of_row w g _ _ 225 (0,0) h];rfl)
theorem Blk.frozen {w:World} {g a b c d:Nat} {o:Bool} (h:Blk w g a b c d o) (i:Nat):w.frozen? ⟨g,i,none⟩=false:=by
 unfold Blk at h;simp[World.frozen?,h]
/-- The steps, and the remainders that they leave of the highest bits x and y. -/
structure Inv (x y r s a b c d:Nat) (o:Bool):Prop where
 ex:d*r+b*s=x
 ey:c*r+a*s=y
 det:if o then b*c=a*d+1 else a*d=b*c+1
 d1:1≤d
 bd:b≤d
 cd:c≤d
 shape:(a=1∧b=0∧c=0∧d=1∧o=false)∨(1≤b∧a≤b∧1≤c)
/-- Steps that are right for all numbers with these highest bits. -/
def Good (x y a b c d:Nat) (o:Bool):Prop:=
 (a=1∧b=0∧c=0∧d=1∧o=false)∨∃ r s,Inv x y r s a b c d o∧1≤b∧d≤s∧b+d+s≤r
theorem Inv.first (x y:Nat):Inv x y x y 1 0 0 1 false:=⟨by omega,by omega,by simp,by omega,by omega,by omega,.inl ⟨rfl,rfl,rfl,rfl,rfl⟩⟩
theorem Inv.next {x y r s a b c d:Nat} {o:Bool} (h:Inv x y r s a b c d o) (hs:0<s) (hrs:s≤r):Inv x y s (r%s) c d (a+r / s*c) (b+r / s*d) (!o):=by
 have e:=Nat.div_add_mod' r s
 have hq:1≤r / s:=(Nat.le_div_iff_mul_le hs).2 (by omega)
 generalize r / s=q at *
 generalize r%s=t at *
 have hqd:d≤q*d:=Nat.le_mul_of_pos_left d (by omega)
 have hqc:q*c≤q*d:=Nat.mul_le_mul_left q h.cd
 refine⟨?_,?_,?_,?_,by omega,?_,.inr ⟨h.d1,h.cd,?_⟩⟩
 ·rw[←h.ex,←e,Nat.add_mul,Nat.mul_add,Nat.mul_right_comm,Nat.mul_comm d (q*s),Nat.mul_right_comm];omega
 ·rw[←h.ey,←e,Nat.add_mul,Nat.mul_add,Nat.mul_right_comm,Nat.mul_comm c (q*s),Nat.mul_right_comm];omega
 ·have hdet:=h.det
  have e1:d*(a+q*c)=a*d+q*c*d:=by rw[Nat.mul_add,Nat.mul_comm d a,Nat.mul_comm d]
  have e2:c*(b+q*d)=b*c+q*c*d:=by rw[Nat.mul_add,Nat.mul_comm c b,Nat.mul_comm c,Nat.mul_right_comm]
  cases o
  ·simp only[Bool.not_false,if_true]
   simp at hdet
   rw[e1,e2];omega
  ·simp only[Bool.not_true]
   simp at hdet ⊢
   rw[e1,e2];omega
 ·have:=h.d1;omega
 ·rcases h.shape with ⟨rfl,rfl,rfl,rfl,_⟩ | ⟨h1,h2,h3⟩
  ·simp;omega
  ·omega
 ·rcases h.shape with ⟨rfl,rfl,rfl,rfl,_⟩ | ⟨h1,h2,h3⟩
  ·omega
  ·have:c≤q*c:=Nat.le_mul_of_pos_left c (by omega)
   omega
theorem Inv.small {x y r s a b c d:Nat} {o:Bool} (h:Inv x y r s a b c d o) (hd:d≤s) (hrs:s≤r) (hx:x<18446744073709551616):d<4294967296:=by
 rcases Nat.lt_or_ge d 4294967296 with hl | hl
 ·exact hl
 ·exfalso
  have h1:=Nat.mul_le_mul hl (show 4294967296≤r by omega)
  have:=h.ex
  omega
theorem Inv.dx {x y r s a b c d:Nat} {o:Bool} (h:Inv x y r s a b c d o) (hr:0<r):d≤x:=by
 have:=Nat.le_mul_of_pos_right d hr
 have:=h.ex
 omega
/-- Five cells of a block are stored. -/
abbrev st5 (w:World) (g:Nat) (v0 v1 v2 v3 v4:Value):World:=((((w.setCell ⟨g,0,none⟩ v0).setCell ⟨g,1,none⟩ v1).setCell ⟨g,2,none⟩ v2).setCell ⟨g,3,none⟩ v3).setCell ⟨g,4,none⟩ v4
theorem st5_at {w:World} {g:Nat} {u0 u1 u2 u3 u4:Value} (v0 v1 v2 v3 v4:Value) (h:w.heap[g]?=some (.cells #[u0,u1,u2,u3,u4] 225 (0,0))) :
  (st5 w g v0 v1 v2 v3 v4).heap[g]?=some (.cells #[v0,v1,v2,v3,v4] 225 (0,0)):=by
 simp[st5,World.setCell,Array.getElem?_modify,h]
theorem st5_far (w:World) (g g':Nat) (v0 v1 v2 v3 v4:Value) (h:g'≠g):(st5 w g v0 v1 v2 v3 v4).heap[g']?=w.heap[g']?:=by
 unfold st5
 rw[Below.heap_setCell _ _ _ _ h,Below.heap_setCell _ _ _ _ h,Below.heap_setCell _ _ _ _ h,Below.heap_setCell _ _ _ _ h,Below.heap_setCell _ _ _ _ h]
theorem st5_below {B:Nat} {a w:World} {g:Nat} (v0 v1 v2 v3 v4:Value) (h:Below B a w) (hg:B≤g):Below B a (st5 w g v0 v1 v2 v3 v4):=
 ((((h.setCell hg _).setCell hg _).setCell hg _).setCell hg _).setCell hg _
theorem cells5 {w:World} {g:Nat} {u0 u1 u2 u3 u4:Value} (h:w.heap[g]?=some (.cells #[u0,u1,u2,u3,u4] 225 (0,0))) :
  (w.cell? ⟨g,0,none⟩=some u0∧w.cell? ⟨g,1,none⟩=some u1∧w.cell? ⟨g,2,none⟩=some u2∧w.cell? ⟨g,3,none⟩=some u3∧w.cell? ⟨g,4,none⟩=some u4)∧(w.frozen? ⟨g,0,none⟩=false∧w.frozen? ⟨g,1,none⟩=false∧w.frozen? ⟨g,2,none⟩=false∧w.frozen? ⟨g,3,none⟩=false∧w.frozen? ⟨g,4,none⟩=false):=by
 refine⟨⟨?_,?_,?_,?_,?_⟩,?_,?_,?_,?_,?_⟩
 iterate 5 (rw[cell_of_row w g _ _ 225 (0,0) h];rfl)
 all_goals simp[World.frozen?,h]
theorem two_st (wr:World) (B:Nat) (g1 g2 g0 nq:Nat) (v0 v1 v2 v3 v4 x0 x1 x2 x3 x4:Value) {w:World} {a0 a1 a2 a3 a4 b0 b1 b2 b3 b4:Value} {C0:Option Obj}
  (h1:wr.heap[g1]?=some (.cells #[a0,a1,a2,a3,a4] 225 (0,0))) (h2:wr.heap[g2]?=some (.cells #[b0,b1,b2,b3,b4] 225 (0,0))) (h0:wr.heap[g0]?=C0) (n12:g2≠g1) (n01:g0≠g1) (n02:g0≠g2)
  (hB:Below B w wr) (hb1:B≤g1) (hb2:B≤g2) :
  (st5 ((st5 wr g1 v0 v1 v2 v3 v4).drewN nq) g2 x0 x1 x2 x3 x4).heap[g1]?=some (.cells #[v0,v1,v2,v3,v4] 225 (0,0)) ∧
  (st5 ((st5 wr g1 v0 v1 v2 v3 v4).drewN nq) g2 x0 x1 x2 x3 x4).heap[g2]?=some (.cells #[x0,x1,x2,x3,x4] 225 (0,0)) ∧
  (st5 ((st5 wr g1 v0 v1 v2 v3 v4).drewN nq) g2 x0 x1 x2 x3 x4).heap[g0]?=C0∧Below B w (st5 ((st5 wr g1 v0 v1 v2 v3 v4).drewN nq) g2 x0 x1 x2 x3 x4):=by
 have e1:(st5 wr g1 v0 v1 v2 v3 v4).heap[g1]?=some (.cells #[v0,v1,v2,v3,v4] 225 (0,0)):=st5_at v0 v1 v2 v3 v4 h1
 have e2:(st5 wr g1 v0 v1 v2 v3 v4).heap[g2]?=wr.heap[g2]?:=st5_far wr g1 g2 v0 v1 v2 v3 v4 n12
 have e0:(st5 wr g1 v0 v1 v2 v3 v4).heap[g0]?=wr.heap[g0]?:=st5_far wr g1 g0 v0 v1 v2 v3 v4 n01
 have e3:Below B w (st5 wr g1 v0 v1 v2 v3 v4):=st5_below v0 v1 v2 v3 v4 hB hb1
 generalize st5 wr g1 v0 v1 v2 v3 v4=W at *
 refine⟨?_,?_,?_,?_⟩
 ·exact (st5_far (W.drewN nq) g2 g1 x0 x1 x2 x3 x4 n12.symm).trans e1
 ·exact st5_at (w:=W.drewN nq) x0 x1 x2 x3 x4 (e2.trans h2)
 ·exact (st5_far (W.drewN nq) g2 g0 x0 x1 x2 x3 x4 n02).trans (e0.trans h0)
 ·exact st5_below x0 x1 x2 x3 x4 (below_drewN e3 nq) hb2
theorem res63 (W:World) (tmps:Array Value) (g:Nat) {v0 v1 v2 v3 v4:Value} (ht:tmps.getD 4 undef=.pointer (some ⟨g,0,none⟩)) (h:W.heap[g]?=some (.cells #[v0,v1,v2,v3,v4] 225 (0,0))) :
  (results Tryz.f243 tmps).run Tryz.prog W=.ok (.agg #[v0,v1,v2,v3,v4]) W:=by
 obtain⟨⟨c0,c1,c2,c3,c4⟩,_⟩:=cells5 h
 have ht':tmps[4]?.getD undef=.pointer (some ⟨g,0,none⟩):=by rw[←ht];simp[Array.getD_eq_getD_getElem?]
 simp[results,Tryz.results243,go_sem,ht',c0,c1,c2,c3,c4]
theorem new3 (w:World) (A B C:Array Value):(((w.alloc (.cells A 225)).alloc (.cells B 225)).alloc (.cells C 225)).heap[w.heap.size]?=some (.cells A 225 (0,0)) ∧
  (((w.alloc (.cells A 225)).alloc (.cells B 225)).alloc (.cells C 225)).heap[w.heap.size+1]?=some (.cells B 225 (0,0))∧(((w.alloc (.cells A 225)).alloc (.cells B 225)).alloc (.cells C 225)).heap[w.heap.size+1+1]?=some (.cells C 225 (0,0)):=by
 refine⟨?_,?_,?_⟩
 ·rw[Below.heap_alloc _ _ _ (by simp;omega),Below.heap_alloc _ _ _ (by simp)];exact heap_alloc_new w _
 ·rw[Below.heap_alloc _ _ _ (by simp)]
  have:=heap_alloc_new (w.alloc (.cells A 225)) (.cells B 225)
  rw[show (w.alloc (.cells A 225)).heap.size=w.heap.size+1 by simp] at this
  exact this
 ·have:=heap_alloc_new ((w.alloc (.cells A 225)).alloc (.cells B 225)) (.cells C 225)
  rw[show ((w.alloc (.cells A 225)).alloc (.cells B 225)).heap.size=w.heap.size+1+1 by simp] at this
  exact this
set_option maxRecDepth 100000 in
set_option maxHeartbeats 4000000 in
theorem foresee_any (x y:Nat) (w:World) (hx:x<18446744073709551616) (hyx:y≤x) :
  Calls Tryz.prog 243 #[.int .u64 x,.int .u64 y] w fun e w'=>∃ a b c d o,e=.returned (.agg #[.int .u64 (a:Nat),.int .u64 (b:Nat),.int .u64 (c:Nat),.int .u64 (d:Nat),.bool o])∧Good x y a b c d o∧Below w.heap.size w w':=by
 replace hx:=Lib.hid hx
 replace hyx:=Lib.hid hyx
 go_enter Tryz.func243,Tryz.ntmps243
 go_wp2
 go_loopg [0,1] y (fun s xv yv wr=>∃ (r a b c d a' b' c' d':Nat) (o o':Bool),xv=.int .u64 (r:Nat)∧yv=.int .u64 (s:Nat)∧s≤r∧r≤x∧Inv x y r s a b c d o∧Good x y a' b' c' d' o' ∧
   Blk wr (w.heap.size+1) a' b' c' d' o'∧Blk wr (w.heap.size+1+1) a b c d o∧(∃ u0 u1 u2 u3 u4,wr.heap[w.heap.size]?=some (.cells #[u0,u1,u2,u3,u4] 225 (0,0)))∧Below w.heap.size w wr)
 case atStart=>
  have hn:=new3 w #[.int .u64 0,.int .u64 0,.int .u64 0,.int .u64 0,.bool false] #[.int .u64 1,.int .u64 0,.int .u64 0,.int .u64 1,.bool false] #[.int .u64 1,.int .u64 0,.int .u64 0,.int .u64 1,.bool false]
  exact⟨x,1,0,0,1,1,0,0,1,false,false,rfl,rfl,hyx.out,Nat.le_refl _,Inv.first x y,.inl ⟨rfl,rfl,rfl,rfl,rfl⟩,hn.2.1,hn.2.2,⟨_,_,_,_,_,hn.1⟩,(((Below.refl _ _).alloc (Nat.le_refl _) _).alloc (by simp) _).alloc (by simp;omega) _⟩
 case round=>
  obtain⟨r,a,b,c,d,a',b',c',d',o,o',rfl,rfl,hsr,hrx,hI,hGd,hB1,hB2,⟨u0,u1,u2,u3,u4,hB0⟩,hB⟩:=hrel
  obtain⟨⟨k0,k1,k2,k3,k4⟩,f0,f1,f2,f3,f4⟩:=cells5 hB1
  obtain⟨⟨n0,n1,n2,n3,n4⟩,e0,e1,e2,e3,e4⟩:=cells5 hB2
  obtain⟨⟨p0,p1,p2,p3,p4⟩,q0,q1,q2,q3,q4⟩:=cells5 hB0
  have hrb:(r:Int)≤18446744073709551615:=by have:=hx.out;omega
  replace hI:=Lib.hid hI
  replace hGd:=Lib.hid hGd
  replace hB:=Lib.hid hB
  replace hB0:=Lib.hid hB0
  replace hB1:=Lib.hid hB1
  replace hB2:=Lib.hid hB2
  replace hrx:=Lib.hid hrx
  by_cases hc1:d≤gk
  ·have hd32:=hI.out.small hc1 hsr hx.out
   have hbd:=hI.out.bd
   by_cases hc2:b+d+gk≤r
   ·have hs0:(1:Int)≤(gk:Int):=by have:=hI.out.d1;omega
    have hc2i:(b:Int)+(d:Int)≤(r:Int)-(gk:Int):=by omega
    have hdt:decide (d≤gk)=true:=by simp;exact hc1
    have hct:decide ((b:Int)+(d:Int)≤(r:Int)-(gk:Int))=true:=decide_eq_true hc2i
    have hIn:=hI.out.next (show 0<gk by omega) hsr
    have hdx:=hIn.dx (show 0<gk by omega)
    have hcd:=hIn.cd
    obtain⟨qq,hq⟩:∃ qq,r / gk=qq:=⟨_,rfl⟩
    rw[hq] at hIn hdx hcd
    have hqi:(r:Int) / (gk:Int)=(qq:Int):=by rw[←hq];simp
    have hmi:(r:Int)%(gk:Int)=((r%gk:Nat):Int):=(Int.natCast_emod r gk).symm
    obtain⟨P,hP⟩:∃ P,qq*d=P:=⟨_,rfl⟩
    obtain⟨Q,hQ⟩:∃ Q,qq*c=Q:=⟨_,rfl⟩
    rw[hP] at hIn hdx hcd
    rw[hQ] at hIn hcd
    have hPi:(qq:Int)*(d:Int)=(P:Int):=by rw[←hP];simp
    have hQi:(qq:Int)*(c:Int)=(Q:Int):=by rw[←hQ];simp
    have hxx:=hx.out
    have hPb:(b:Int)+(P:Int)≤18446744073709551615:=by omega
    have hQb:(a:Int)+(Q:Int)≤18446744073709551615:=by omega
    have hqb:(qq:Int)≤18446744073709551615:=by have:qq≤r:=by { rw[←hq];exact Nat.div_le_self _ _ };omega
    have hml:r%gk<gk:=Nat.mod_lt _ (by omega)
    replace hIn:=Lib.hid hIn
    replace hml:=Lib.hid hml
    clear hq hP hQ hdx hcd hxx
    have hGn:Hid (Good x y a b c d o):=by
     rcases hI.out.shape with h | ⟨h,_,_⟩
     ·exact .inl h
     ·exact .inr ⟨r,gk,hI.out,h,hc1,hc2⟩
    have hgx:Hid (gk≤x):=by have:=hrx.out;show gk≤x;omega
    have z1:w.heap.size+1+1≠w.heap.size+1:=by omega
    have z2:w.heap.size≠w.heap.size+1+1:=by omega
    have z3:w.heap.size≠w.heap.size+1:=by omega
    replace z1:=Lib.hid z1
    replace z2:=Lib.hid z2
    replace z3:=Lib.hid z3
    go_wp2
    go_quiet (fail)
    go_wp2
    go_roundg (r%gk)
    case measure=>exact hml.out
    case rel=>
     have hv1:(a:Int)+(Q:Int)=((a+Q:Nat):Int):=(Int.natCast_add a Q).symm
     have hv2:(b:Int)+(P:Int)=((b+P:Nat):Int):=(Int.natCast_add b P).symm
     rw[hv1,hv2,hmi]
     clear hv1 hv2 hmi hqi hPi hQi
     exact⟨gk,c,d,a+Q,b+P,a,b,c,d,!o,o,rfl,rfl,Nat.le_of_lt hml.out,hgx.out,hIn.out,hGn.out,(two_st wr w.heap.size _ _ _ _ _ _ _ _ _ _ _ _ _ _ hB1.out hB2.out hB0.out z1.out z3.out z2.out hB.out (Nat.le_succ _) (Nat.le_trans (Nat.le_succ _) (Nat.le_succ _))).1,(two_st wr w.heap.size _ _ _ _ _ _ _ _ _ _ _ _ _ _ hB1.out hB2.out hB0.out z1.out z3.out z2.out hB.out (Nat.le_succ _) (Nat.le_trans (Nat.le_succ _) (Nat.le_succ _))).2.1,⟨u0,u1,u2,u3,u4,(two_st wr w.heap.size _ _ _ _ _ _ _ _ _ _ _ _ _ _ hB1.out hB2.out hB0.out z1.out z3.out z2.out hB.out (Nat.le_succ _) (Nat.le_trans (Nat.le_succ _) (Nat.le_succ _))).2.2.1⟩,(two_st wr w.heap.size _ _ _ _ _ _ _ _ _ _ _ _ _ _ hB1.out hB2.out hB0.out z1.out z3.out z2.out hB.out (Nat.le_succ _) (Nat.le_trans (Nat.le_succ _) (Nat.le_succ _))).2.2.2⟩
   ·have hdt:decide (d≤gk)=true:=by simp;exact hc1
    have hct:decide ((b:Int)+(d:Int)≤(r:Int)-(gk:Int))=false:=by simp;omega
    go_wp2
    refine bodyPost_ret (res63 _ _ w.heap.size rfl (st5_at (.int .u64 (a':Nat)) (.int .u64 (b':Nat)) (.int .u64 (c':Nat)) (.int .u64 (d':Nat)) (.bool o') hB0.out)) rfl ?_
    exact⟨a',b',c',d',o',rfl,hGd.out,st5_below _ _ _ _ _ hB.out (Nat.le_refl _)⟩
  ·have hdt:decide (d≤gk)=false:=by simp;omega
   go_wp2
   refine bodyPost_ret (res63 _ _ w.heap.size rfl (st5_at (.int .u64 (a':Nat)) (.int .u64 (b':Nat)) (.int .u64 (c':Nat)) (.int .u64 (d':Nat)) (.bool o') hB0.out)) rfl ?_
   exact⟨a',b',c',d',o',rfl,hGd.out,st5_below _ _ _ _ _ hB.out (Nat.le_refl _)⟩
end Go.Proofs.YtdeedofmflelfaaGreatDoor
