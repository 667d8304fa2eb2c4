/- Contract of Div. -/
import Derived.Test.YtdeedofmflelfaaGreatDoorQIaz
import Derived.Test.YtdeedofmflelfaaGreatDoorQWnz
import Derived.Test.YtdeedofmflelfaaGreatDoorQWez
import Derived.Test.YtdeedofmflelfaaGreatDoorQWjz
namespace Go.Proofs.YtdeedofmflelfaaGreatDoor
open Go.RowKit
section
variable {w W W':World} {b1 b2:Bool} {A1 A2:Option Addr} {n1 n2 c1 c2:Nat}
theorem B4.x4f (h:B4 w W b1 A1 n1 c1 b2 A2 n2 c2) (b':Bool) (A':Option Addr) (n' c':Nat) :
  Bx ((W.setCell ⟨w.heap.size+1+1,0,none⟩ (.bool b')).setCell ⟨w.heap.size+1+1,1,none⟩ (.slice A' n' c')) (w.heap.size+1+1+1) false none 0 0:=
 (h.x4.far (show w.heap.size+1+1+1≠w.heap.size+1+1 by omega) _).far (show w.heap.size+1+1+1≠w.heap.size+1+1 by omega) _
theorem B4.res (h:B4 w W b1 A1 n1 c1 b2 A2 n2 c2) (b':Bool) (A':Option Addr) (n' c':Nat) (b'':Bool) (A'':Option Addr) (n'' c'':Nat) :
  Bx ((((W.setCell ⟨w.heap.size+1+1,0,none⟩ (.bool b')).setCell ⟨w.heap.size+1+1,1,none⟩ (.slice A' n' c')).setCell ⟨w.heap.size+1+1+1,0,none⟩ (.bool b'')).setCell ⟨w.heap.size+1+1+1,1,none⟩ (.slice A'' n'' c'')) (w.heap.size+1+1) b' A' n' c' ∧
  Bx ((((W.setCell ⟨w.heap.size+1+1,0,none⟩ (.bool b')).setCell ⟨w.heap.size+1+1,1,none⟩ (.slice A' n' c')).setCell ⟨w.heap.size+1+1+1,0,none⟩ (.bool b'')).setCell ⟨w.heap.size+1+1+1,1,none⟩ (.slice A'' n'' c'')) (w.heap.size+1+1+1) b'' A'' n'' c'' ∧
  Below w.heap.size w ((((W.setCell ⟨w.heap.size+1+1,0,none⟩ (.bool b')).setCell ⟨w.heap.size+1+1,1,none⟩ (.slice A' n' c')).setCell ⟨w.heap.size+1+1+1,0,none⟩ (.bool b'')).setCell ⟨w.heap.size+1+1+1,1,none⟩ (.slice A'' n'' c'')):=
 ⟨((h.x3.put _ _ _ _).far (show w.heap.size+1+1≠w.heap.size+1+1+1 by omega) _).far (show w.heap.size+1+1≠w.heap.size+1+1+1 by omega) _,(h.x4f b' A' n' c').put _ _ _ _,put_below _ _ (put_below _ _ h.bel (by omega)) (by omega)⟩
end
/-- What Div leaves. -/
def RetD2 (q r:Int) (w:World) (e:Ending) (w':World):Prop:=∃ A n c A' n' c',e=.returned (.tuple #[.agg #[.bool (ng q),.slice A n c],.agg #[.bool (ng r),.slice A' n' c'],.bool true])∧Rd w' A n c (limbs q.natAbs)∧Rd w' A' n' c' (limbs r.natAbs)∧Below w.heap.size w w'
theorem dm_unique {x y q r:Int} (hy:y≠0) (h:q*y+r=x) (h0:0≤r) (h1:r<y.natAbs):x / y=q∧x%y=r:=by
 have hr:r%y=r:=by
  rcases Int.lt_or_gt_of_ne hy with hlt | hgt
  ·rw[←Int.emod_neg];exact Int.emod_eq_of_lt h0 (by omega)
  ·exact Int.emod_eq_of_lt h0 (by omega)
 have hq:r / y=0:=by
  have e:=Int.mul_ediv_add_emod r y
  rw[hr] at e
  have:y*(r / y)=0:=by omega
  rcases Int.mul_eq_zero.1 this with h2 | h2
  ·exact absurd h2 hy
  ·exact h2
 subst h
 constructor
 ·rw[Int.add_comm,Int.add_mul_ediv_right _ _ hy,hq,Int.zero_add]
 ·rw[Int.add_comm,Int.add_mul_emod_self_right,hr]
theorem div_pos {x y:Int} (hy:y≠0) (hx:ng x=false):sg (!(ng x==ng y)) (x.natAbs / y.natAbs)=x / y∧sg false (x.natAbs%y.natAbs)=x%y:=by
 have e:=Nat.div_add_mod' x.natAbs y.natAbs
 have hl:=Nat.mod_lt x.natAbs (show y.natAbs > 0 by omega)
 have h1:=sg_ng x
 have h2:=sg_ng y
 have:=@dm_unique x y (sg (!(ng x==ng y)) (x.natAbs / y.natAbs)) (sg false (x.natAbs%y.natAbs)) hy ?_ ?_ ?_
 ·exact⟨this.1.symm,this.2.symm⟩
 ·rw[hx] at h1 ⊢
  generalize x.natAbs / y.natAbs=q at *
  generalize x.natAbs%y.natAbs=r at *
  generalize x.natAbs=a at *
  generalize y.natAbs=c at *
  generalize ng y=p at *
  have e':(q:Int)*(c:Int)+(r:Int)=(a:Int):=by rw[←e];simp
  subst h1 h2
  cases p<;>simp[sg,Int.neg_mul,Int.mul_neg]<;>omega
 ·simp[sg];omega
 ·simp only[sg];simp;omega
theorem div_neg0 {x y:Int} (hy:y≠0) (hx:ng x=true) (h0:x.natAbs%y.natAbs=0):sg (!(ng x==ng y)) (x.natAbs / y.natAbs)=x / y∧sg false (x.natAbs%y.natAbs)=x%y:=by
 have e:=Nat.div_add_mod' x.natAbs y.natAbs
 have h1:=sg_ng x
 have h2:=sg_ng y
 have:=@dm_unique x y (sg (!(ng x==ng y)) (x.natAbs / y.natAbs)) (sg false (x.natAbs%y.natAbs)) hy ?_ ?_ ?_
 ·exact⟨this.1.symm,this.2.symm⟩
 ·rw[h0] at e ⊢
  rw[hx] at h1 ⊢
  generalize x.natAbs / y.natAbs=q at *
  generalize x.natAbs=a at *
  generalize y.natAbs=c at *
  generalize ng y=p at *
  have e':(q:Int)*(c:Int)=(a:Int):=by rw[←e];simp
  subst h1 h2
  cases p<;>simp[sg,Int.neg_mul,Int.mul_neg]<;>omega
 ·rw[h0];simp[sg]
 ·rw[h0];simp only[sg];simp;omega
theorem div_neg1 {x y:Int} (hy:y≠0) (hx:ng x=true) (h0:0<x.natAbs%y.natAbs):sg (!(ng x==ng y)) (x.natAbs / y.natAbs+1)=x / y∧sg false (y.natAbs-x.natAbs%y.natAbs)=x%y:=by
 have e:=Nat.div_add_mod' x.natAbs y.natAbs
 have hl:=Nat.mod_lt x.natAbs (show y.natAbs > 0 by omega)
 have h1:=sg_ng x
 have h2:=sg_ng y
 have:=@dm_unique x y (sg (!(ng x==ng y)) (x.natAbs / y.natAbs+1)) (sg false (y.natAbs-x.natAbs%y.natAbs)) hy ?_ ?_ ?_
 ·exact⟨this.1.symm,this.2.symm⟩
 ·rw[hx] at h1 ⊢
  generalize x.natAbs / y.natAbs=q at *
  generalize x.natAbs%y.natAbs=r at *
  generalize x.natAbs=a at *
  generalize y.natAbs=c at *
  generalize ng y=p at *
  have e':(q:Int)*(c:Int)+(r:Int)=(a:Int):=by rw[←e];simp
  have e2:((c-r:Nat):Int)=(c:Int)-r:=by omega
  have e3:((q:Int)+1)*(c:Int)=(q:Int)*(c:Int)+(c:Int):=by rw[Int.add_mul,Int.one_mul]
  subst h1 h2
  cases p
  ·simp[sg,Int.neg_mul,e2,e3];omega
  ·have e4 : -((c:Int)*((q:Int)+1)) = -((q:Int)*(c:Int))-c:=by rw[Int.mul_comm,e3];omega
   simp[sg,Int.mul_neg,e2,e3];omega
 ·simp[sg]
 ·simp only[sg];simp;omega
theorem res_div (W:World) (tmps:Array Value) (g g':Nat) (q:Bool) {b:Bool} {A:Option Addr} {n c:Nat} {b':Bool} {A':Option Addr} {n' c':Nat} (ht:tmps.getD 4 undef=.pointer (some ⟨g,0,none⟩)) (ht2:tmps.getD 5 undef=.pointer (some ⟨g',0,none⟩)) (ht3:tmps.getD 6 undef=.bool q) (h:Bx W g b A n c) (h':Bx W g' b' A' n' c') :
  (results Tryz.f186 tmps).run Tryz.prog W=.ok (.tuple #[.agg #[.bool b,.slice A n c],.agg #[.bool b',.slice A' n' c'],.bool q]) W:=by
 obtain⟨c0,c1,_⟩:=h.at_
 obtain⟨d0,d1,_⟩:=h'.at_
 have e1:tmps[4]?.getD undef=.pointer (some ⟨g,0,none⟩):=by rw[←ht];simp[Array.getD_eq_getD_getElem?]
 have e2:tmps[5]?.getD undef=.pointer (some ⟨g',0,none⟩):=by rw[←ht2];simp[Array.getD_eq_getD_getElem?]
 have e3:tmps[6]?.getD undef=.bool q:=by rw[←ht3];simp[Array.getD_eq_getD_getElem?]
 simp[results,Tryz.results186,go_sem,e1,e2,e3,c0,c1,d0,d1]
set_option maxHeartbeats 8000000 in
theorem divI_any (b:Bool) (A:Option Addr) (n c:Nat) (xs:List Nat) (b':Bool) (A':Option Addr) (n' c':Nat) (ys:List Nat) (w:World) (h1:Rd w A n c xs) (h2:Rd w A' n' c' ys) (hn:n≤500) (hn':n'≤500) (hz:iv b' ys≠0) :
  Calls Tryz.prog 186 #[.agg #[.bool b,.slice A n c],.agg #[.bool b',.slice A' n' c']] w (RetD2 ((iv b xs) / (iv b' ys)) ((iv b xs)%(iv b' ys)) w):=by
 have hk1:=fun W (h:Rd W A n c xs)=>knownI_any b A n c xs W h (by omega)
 have hk2:=fun W (h:Rd W A' n' c' ys)=>knownI_any b' A' n' c' ys W h (by omega)
 have l1:=iv_abs (b:=b) h1.sm (Nat.le_of_eq h1.len)
 have l2:=iv_abs (b:=b') h2.sm (Nat.le_of_eq h2.len)
 generalize iv b xs=z1 at *
 generalize iv b' ys=z2 at *
 replace hk1:=Lib.hid hk1
 replace hk2:=Lib.hid hk2
 replace l1:=Lib.hid l1
 replace l2:=Lib.hid l2
 replace hz:=Lib.hid hz
 have X:=B4.new w b A n c b' A' n' c'
 have R1:=h1.below X.bel
 have R2:=h2.below X.bel
 clear h1 h2
 go_enter Tryz.func186,Tryz.ntmps186
 go_upto_region 1 with fail
 generalize (((w.alloc (.cells #[.bool b,.slice A n c] 44)).alloc (.cells #[.bool b',.slice A' n' c'] 44)).alloc (.cells #[.bool false,.slice none 0 0] 44)).alloc (.cells #[.bool false,.slice none 0 0] 44)=W0 at X R1 R2 ⊢
 obtain⟨a0,a1,a2,a3⟩:=X.x1.at_
 obtain⟨d0,d1,d2,d3⟩:=X.x2.at_
 replace X:=Lib.hid X
 replace R1:=Lib.hid R1
 replace R2:=Lib.hid R2
 go_cut [] (fun wx=>∃ A1 n1 c1 A2 n2 c2,B4 w wx (ng z1) A1 n1 c1 (ng z2) A2 n2 c2∧Rd wx A1 n1 c1 (limbs z1.natAbs)∧Rd wx A2 n2 c2 (limbs z2.natAbs))
 case first=>
  have XD:=Lib.hid X.out.drew
  have RD1:=Lib.hid (Rd.drew1 R1.out)
  have RD2:=Lib.hid (Rd.drew1 R2.out)
  go_region_with (first
   | (go_at_call_of 196 (Value.agg #[.bool b,.slice A n c]);refine (hk1.out _ (by exact RD1.out)).mono ?_;rintro e w1 ⟨A1,n1,c1,rfl,Q1,B1⟩;have X1:=XD.out.on B1;have R2':=RD2.out.below B1;obtain⟨d0',d1',d2',d3'⟩:=X1.x2.at_)
   | (go_at_call_of 196 (Value.agg #[.bool b',.slice A' n' c']);refine (hk2.out _ (by exact R2')).mono ?_;rintro e w2 ⟨A2,n2,c2,rfl,Q2,B2⟩;have X2:=X1.on B2;obtain⟨f0,f1,f2,f3⟩:=X2.x1.at_;obtain⟨k0,k1,k2,k3⟩:=X2.x2.at_))
  all_goals
   have Y:=Lib.hid (X2.two_puts (ng z1) A1 n1 c1 (ng z2) A2 n2 c2)
   have P1:=Lib.hid (((Q1.below B2).put X2.x1 (.bool (ng z1)) (.slice A1 n1 c1)).put (X2.put1 (ng z1) A1 n1 c1).x2 (.bool (ng z2)) (.slice A2 n2 c2))
   have P2:=Lib.hid ((Q2.put X2.x1 (.bool (ng z1)) (.slice A1 n1 c1)).put (X2.put1 (ng z1) A1 n1 c1).x2 (.bool (ng z2)) (.slice A2 n2 c2))
   clear a0 a1 a2 a3 d0 d1 d2 d3 d0' d1' d2' d3' f0 f1 f2 f3 k0 k1 k2 k3 Q1 Q2 B1 B2 X1 X2 R2'
   go_wp2_with fail
   go_meet
   exact⟨_,_,_,_,_,_,Y.out,P1.out,P2.out⟩
 case rest=>
  obtain⟨A1,n1,c1,A2,n2,c2,Y,P1,P2⟩:=hcut
  clear X R1 R2 a0 a1 a2 a3 d0 d1 d2 d3 hk1 hk2
  have hl1:n1≤500:=by have:=l1.out;have:=P1.len;omega
  have hl2:n2≤500:=by have:=l2.out;have:=P2.len;omega
  obtain⟨a0,a1,a2,a3⟩:=Y.x1.at_
  obtain⟨d0,d1,d2,d3⟩:=Y.x2.at_
  replace hz:=hz.out
  have hpos:0<z2.natAbs:=by omega
  have hd:=div_any _ _ _ (limbs z1.natAbs) _ _ _ (limbs z2.natAbs) wc P1 P2 (by omega) (by omega) (by rw[num_limbs];exact hpos)
  rw[num_limbs,num_limbs] at hd
  replace hd:=Lib.hid hd
  have hlq:(limbs (z1.natAbs / z2.natAbs)).length≤500:=by
   have h5:=len_le (x:=z1.natAbs) (y:=z1.natAbs / z2.natAbs) (Nat.div_le_self _ _)
   have:=l1.out
   omega
  have hlr:(limbs (z1.natAbs%z2.natAbs)).length≤500:=by
   have h5:=len_le (x:=z2.natAbs) (y:=z1.natAbs%z2.natAbs) (Nat.le_of_lt (Nat.mod_lt _ hpos))
   have:=l2.out
   omega
  have hle:=Lib.hid (Nat.le_of_lt (Nat.mod_lt z1.natAbs hpos))
  replace hlq:=Lib.hid hlq
  replace hlr:=Lib.hid hlr
  replace Y:=Lib.hid Y
  replace P2:=Lib.hid P2
  clear P1 hpos
  by_cases hA:ng z1=true∧0<z1.natAbs%z2.natAbs
  ·obtain⟨hg,hr0⟩:=hA
   have hm:=Lib.hid (div_neg1 hz hg hr0)
   rw[hg] at hm a0
   rw[show (!(true==ng z2)) = !(ng z2) by simp] at hm
   have hnr:Hid (∀ W A n c,Rd W A n c (limbs (z1.natAbs%z2.natAbs))→0<n):=Lib.hid (fun W A n c h=>by have:=h.len;rw[limbs_pos hr0] at this;simp at this;omega)
   clear hz hr0
   replace hg:=Lib.hid hg
   go_wp2_with (go_at_call 208;refine hd.out.mono ?_;rintro e w3 ⟨A3,n3,c3,A4,n4,c4,rfl,Qq,Qr,B3'⟩;refine Hid.out ?_)
   refine Lib.hid ?_
   have hn4:=hnr.out _ _ _ _ Qr
   have hn4i:(0:Int)<(n4:Int):=by omega
   have hn3:n3≤500:=by have:=hlq.out;have:=Qq.len;omega
   have hn4b:n4≤500:=by have:=hlr.out;have:=Qr.len;omega
   replace Y:=Y.out.on B3'
   replace P2:=Lib.hid (P2.out.below B3')
   rw[hg.out] at Y
   obtain⟨f0,f1,f2,f3⟩:=Y.x1.at_
   obtain⟨k0,k1,k2,k3⟩:=Y.x2.at_
   replace Y:=Lib.hid Y
   replace Qq:=Lib.hid Qq
   replace Qr:=Lib.hid Qr
   clear B3' a0 a1 a2 a3 d0 d1 d2 d3 hd hnr hn4
   have hfu:=fromUint_any 1 w3 (by omega)
   replace hfu:=Lib.hid hfu
   go_wp2_with (go_at_call 132;refine hfu.out.mono ?_;rintro e w4 ⟨A7,n7,c7,rfl,Q7,B7⟩;refine Hid.out ?_)
   refine Lib.hid ?_
   replace Y:=Lib.hid (Y.out.on B7)
   replace P2:=Lib.hid (P2.out.below B7)
   replace Qr:=Lib.hid (Qr.out.below B7)
   have hn7:n7≤1:=by have:=Q7.len;have:=len_of_lt (x:=1) (n:=1) (by omega);omega
   have had:=add_any A3 n3 c3 (limbs (z1.natAbs / z2.natAbs)) A7 n7 c7 (limbs 1) w4 (Qq.out.below B7) Q7 (by omega) (by omega)
   rw[num_limbs,num_limbs] at had
   replace had:=Lib.hid had
   clear f0 f1 f2 f3 k0 k1 k2 k3 B7 Q7 hfu
   go_wp2_with (go_at_call 209;refine had.out.mono ?_;rintro e w5 ⟨A5,n5,c5,rfl,Q5,B5⟩;refine Hid.out ?_)
   refine Lib.hid ?_
   replace Y:=Y.out.on B5
   obtain⟨f0,f1,f2,f3⟩:=Y.x1.at_
   obtain⟨k0,k1,k2,k3⟩:=Y.x2.at_
   replace P2:=P2.out.below B5
   replace Qr:=Qr.out.below B5
   have hsb:=Lib.hid (sub_ge_b _ _ _ _ _ _ _ _ _ 1000 P2 Qr (by omega) (by omega) (by omega) hle.out)
   replace Y:=Lib.hid Y
   replace Q5:=Lib.hid Q5
   clear P2 Qr B5 Qq
   go_wp2_with (go_at_call 210;refine hsb.out.mono ?_;rintro e w6 ⟨A6,n6,c6,rfl,Qr,B6,_⟩;refine Hid.out ?_)
   refine Lib.hid ?_
   replace Y:=Y.out.on B6
   clear f0 f1 f2 f3 k0 k1 k2 k3
   obtain⟨f0,f1,f2,f3⟩:=Y.x1.at_
   obtain⟨k0,k1,k2,k3⟩:=Y.x2.at_
   have Qq:=Lib.hid (Q5.out.below B6)
   replace Y:=Lib.hid Y
   replace Qr:=Lib.hid Qr
   clear Q5 B6 hsb
   go_wp2_with (go_at_call 131;refine (signedI_any _ _ _ _ (z1.natAbs / z2.natAbs+1) _ (by exact Qq.out)).mono ?_;rw[hm.out.1];rintro e w8 ⟨A8,n8,c8,rfl,Q8,B8⟩;refine Hid.out ?_)
   refine Lib.hid ?_
   replace Y:=Lib.hid (Y.out.on B8)
   replace Qr:=Lib.hid (Qr.out.below B8)
   replace Q8:=Lib.hid Q8
   clear B8 Qq
   go_wp2_with (go_at_call 131;refine (signedI_any _ _ _ _ (z2.natAbs-z1.natAbs%z2.natAbs) _ (by exact Qr.out)).mono ?_;rw[hm.out.2];rintro e w9 ⟨A9,n9,c9,rfl,Q9,B9⟩;refine Hid.out ?_)
   refine Lib.hid ?_
   have Y9:=Y.out.on B9
   have Q8':=Q8.out.below B9
   clear Q8 B9 Qr Y
   obtain⟨v0,v1,v2,v3⟩:=Y9.x3.at_
   obtain⟨y0,y1,y2,y3⟩:=Y9.x4.at_
   have Z:=Lib.hid (Y9.res (ng (z1 / z2)) A8 n8 c8 (ng (z1%z2)) A9 n9 c9)
   have QA:=Lib.hid ((Q8'.put Y9.x3 (.bool (ng (z1 / z2))) (.slice A8 n8 c8)).put (Y9.x4f (ng (z1 / z2)) A8 n8 c8) (.bool (ng (z1%z2))) (.slice A9 n9 c9))
   have QB:=Lib.hid ((Q9.put Y9.x3 (.bool (ng (z1 / z2))) (.slice A8 n8 c8)).put (Y9.x4f (ng (z1 / z2)) A8 n8 c8) (.bool (ng (z1%z2))) (.slice A9 n9 c9))
   clear Y9 Q8' Q9
   go_wp2
   refine bodyPost_ret (res_div _ _ (w.heap.size+1+1) (w.heap.size+1+1+1) true rfl rfl rfl Z.out.1 Z.out.2.1) rfl ?_
   exact⟨_,_,_,_,_,_,rfl,QA.out,QB.out,Z.out.2.2⟩
  ·have hm:Hid (sg (!(ng z1==ng z2)) (z1.natAbs / z2.natAbs)=z1 / z2∧sg false (z1.natAbs%z2.natAbs)=z1%z2):=by
    cases hg:ng z1
    ·have:=div_pos hz hg;rw[hg] at this;exact Lib.hid this
    ·have:=div_neg0 hz hg (by rcases Nat.eq_zero_or_pos (z1.natAbs%z2.natAbs) with h | h;exact h;exact absurd ⟨hg,h⟩ hA);rw[hg] at this;exact Lib.hid this
   have hcase:Hid (∀ W A n c,Rd W A n c (limbs (z1.natAbs%z2.natAbs))→ng z1=false∨(ng z1=true∧n=0)):=by
    refine Lib.hid (fun W A n c h=>?_)
    cases hg:ng z1
    ·exact .inl rfl
    ·refine .inr ⟨rfl,?_⟩
     have h0:z1.natAbs%z2.natAbs=0:=by rcases Nat.eq_zero_or_pos (z1.natAbs%z2.natAbs) with h | h;exact h;exact absurd ⟨hg,h⟩ hA
     have:=h.len
     rw[h0,limbs_zero] at this
     exact this.symm
   clear hA hz
   go_wp2_with (go_at_call 208;refine hd.out.mono ?_;rintro e w3 ⟨A3,n3,c3,A4,n4,c4,rfl,Qq,Qr,B3'⟩;refine Hid.out ?_)
   refine Lib.hid ?_
   have hc2:=hcase.out _ _ _ _ Qr
   replace Y:=Y.out.on B3'
   clear B3' a0 a1 a2 a3 d0 d1 d2 d3 hd hcase P2
   rcases hc2 with hg | ⟨hg,rfl⟩
   all_goals
    rw[hg] at Y hm
    first
     | rw[show (!(true==ng z2)) = !(ng z2) by simp] at hm
     | rw[show (!(false==ng z2))=ng z2 by simp] at hm
    obtain⟨f0,f1,f2,f3⟩:=Y.x1.at_
    obtain⟨k0,k1,k2,k3⟩:=Y.x2.at_
    clear hg
    replace Y:=Lib.hid Y
    replace Qq:=Lib.hid Qq
    replace Qr:=Lib.hid Qr
    go_wp2_with (go_at_call 131;refine (signedI_any _ _ _ _ (z1.natAbs / z2.natAbs) _ (by exact Qq.out)).mono ?_;rw[hm.out.1];rintro e w8 ⟨A8,n8,c8,rfl,Q8,B8⟩;refine Hid.out ?_)
    refine Lib.hid ?_
    replace Y:=Lib.hid (Y.out.on B8)
    replace Qr:=Lib.hid (Qr.out.below B8)
    replace Q8:=Lib.hid Q8
    clear B8 Qq
    go_wp2_with (go_at_call 131;refine (signedI_any _ _ _ _ (z1.natAbs%z2.natAbs) _ (by exact Qr.out)).mono ?_;rw[hm.out.2];rintro e w9 ⟨A9,n9,c9,rfl,Q9,B9⟩;refine Hid.out ?_)
    refine Lib.hid ?_
    have Y9:=Y.out.on B9
    have Q8':=Q8.out.below B9
    clear Q8 B9 Qr Y
    obtain⟨v0,v1,v2,v3⟩:=Y9.x3.at_
    obtain⟨y0,y1,y2,y3⟩:=Y9.x4.at_
    have Z:=Lib.hid (Y9.res (ng (z1 / z2)) A8 n8 c8 (ng (z1%z2)) A9 n9 c9)
    have QA:=Lib.hid ((Q8'.put Y9.x3 (.bool (ng (z1 / z2))) (.slice A8 n8 c8)).put (Y9.x4f (ng (z1 / z2)) A8 n8 c8) (.bool (ng (z1%z2))) (.slice A9 n9 c9))
    have QB:=Lib.hid ((Q9.put Y9.x3 (.bool (ng (z1 / z2))) (.slice A8 n8 c8)).put (Y9.x4f (ng (z1 / z2)) A8 n8 c8) (.bool (ng (z1%z2))) (.slice A9 n9 c9))
    clear Y9 Q8' Q9
    go_wp2
    refine bodyPost_ret (res_div _ _ (w.heap.size+1+1) (w.heap.size+1+1+1) true rfl rfl rfl Z.out.1 Z.out.2.1) rfl ?_
    exact⟨_,_,_,_,_,_,rfl,QA.out,QB.out,Z.out.2.2⟩
end Go.Proofs.YtdeedofmflelfaaGreatDoor
