/- Contracts of the reference's Take, trim, FromUint, compare and Compare. Contracts of natural.Uint and of the reference's Uint. Contracts of the reference's limb, Add, Sub, times and Mul. Contracts of the reference's times and Mul. Contracts of the reference's double, bit, Div and Gcd. -/
import Derived.Test.YtdeedofmflelfaaGreatDoorQWnz
namespace Go.Proofs.YtdeedofmflelfaaGreatDoor
open Go.RowKit
set_option maxHeartbeats 400000 in
theorem rtrim_any (A:Option Addr) (n c:Nat) (xs:List Nat) (w:World) (h:Rd w A n c xs) (hn:n≤100000) :
  Calls Tryz.prog 157 #[.slice A n c] w fun e w'=>∃ n',e=.returned (.slice A n' c)∧w=w'∧Rd w A n' c (limbs (val xs)):=by
 have hcap:=h.cap
 have hl:=h.len
 have R:Rd w A (tl xs n) c (limbs (val xs)):=by
  have:=h.take (tl_le xs n)
  rw[tl_limbs h.sm n (by omega),←hl,List.take_length,hl] at this
  exact this
 have R:=Lib.hid R
 have HH:=Lib.hid h
 clear h hl
 go_enter Tryz.func157,Tryz.ntmps157
 go_wp2
 go_loop [0] (fun s=>∃ k:Nat,k≤n∧s=.slice A k c∧tl xs k=tl xs n) (fun s=>match s with | .slice _ k _=>k | _=>0)
 case atStart=>exact⟨n,Nat.le_refl _,rfl,rfl⟩
 case round=>
  obtain⟨k,hk,rfl,ht⟩:=hrel
  have ht:=Lib.hid ht
  by_cases h0:k=0
  ·subst h0
   have hg:((0:Int) > 0)=False:=by simp
   go_wp2
   go_ret
   exact⟨0,rfl,rfl,by have:=R.out;rw[←ht.out] at this;exact this⟩
  ·obtain⟨m,rfl⟩:∃ m,k=m+1:=⟨k-1,by omega⟩
   obtain⟨b,o,x,rfl,hb,hx,hxs,hc⟩:=HH.out.at_ (k:=m) (by omega)
   have hxs:=Lib.hid hxs
   clear h0
   have hg:(0:Int)<(m:Int)+1:=by omega
   have hg2:decide ((0:Int)<(m:Int)+1)=true:=decide_eq_true hg
   by_cases hx0:x=0
   ·have hx1:((x:Int)==0)=true:=by simp;omega
    have e:tl xs (m+1)=tl xs m:=by rw[tl,if_pos (by rw[hxs.out];exact hx0)]
    have e:=Lib.hid e
    clear hx0
    go_wp2
    go_round
    case rel=>exact⟨m,by omega,rfl,by rw[←e.out];exact ht.out⟩
    case measure=>simp
   ·have hx1:((x:Int)==0)=false:=by simp;omega
    have e:tl xs (m+1)=m+1:=by rw[tl,if_neg];rw[hxs.out];exact hx0
    have e:=Lib.hid e
    clear hx0
    go_wp2
    go_ret
    exact⟨m+1,rfl,rfl,by have:=R.out;rw[←ht.out,e.out] at this;exact this⟩
set_option maxHeartbeats 1000000 in
theorem rfromUint_any (v:Nat) (w:World) (hv:v<18446744073709551616) :
  Calls Tryz.prog 123 #[.int .u64 v] w (RetN v w):=by
 have O:=Own.lit w [v%4294967296,v / 4294967296] (by intro x hx;simp at hx;omega)
 have hval:val [v%4294967296,v / 4294967296]=v:=by simp[val];omega
 have h1:(v:Int) / 4294967296<4294967296:=by omega
 have h0:(0:Int)≤v:=by omega
 replace hval:=Lib.hid hval
 replace hv:=Lib.hid hv
 replace O:=Lib.hid O
 go_enter Tryz.func123,Tryz.ntmps123
 go_wp2_with fail
 have R:=O.out.rd0 2 (by simp)
 simp only[List.map,u32,Int.natCast_emod,Int.natCast_ediv,List.length] at R
 refine (rtrim_any _ _ _ _ _ R (by omega)).mono ?_
 rintro e w' ⟨n',rfl,rfl,R2⟩
 replace R2:=Lib.hid R2
 go_wp2
 go_ret
 exact⟨_,_,_,rfl,by have:=R2.out;rw[hval.out] at this;exact this,(Below.refl _ _).alloc (Nat.le_refl _) _⟩
set_option maxHeartbeats 1000000 in
theorem take_any (A:Option Addr) (n c:Nat) (xs:List Nat) (w:World) (h:Rd w A n c xs) (hn:n≤10000) :
  Calls Tryz.prog 108 #[.slice A n c] w fun e w'=>∃ A' n' c',e=.returned (.slice A' n' c')∧Rd w' A' n' c' (limbs (num xs))∧Below w.heap.size w w'∧n'≤n:=by
 have hv:=rvalid_any A n c xs w h (by omega)
 have hk:=kn_limbs h.sm
 cases hb:vldB xs
 ·rw[hb] at hv
  have R:Rd w none 0 0 (limbs (num xs)):=by rw[←hk];unfold kn;rw[hb];exact Rd.nil_ w 0 none
  replace R:=Lib.hid R
  replace hv:=Lib.hid hv
  clear hk hb h
  go_enter Tryz.func108,Tryz.ntmps108
  go_wp2_with fail
  refine (hv.out).mono ?_
  rintro e w' ⟨rfl,hw⟩
  have hw:=hw.symm
  subst hw
  go_wp2
  go_ret
  exact⟨none,0,0,rfl,R.out,Below.refl _ _,Nat.zero_le _⟩
 ·rw[hb] at hv
  have e:limbs (num xs)=xs:=by rw[←hk];unfold kn;rw[hb];rfl
  rw[e]
  replace hv:=Lib.hid hv
  have hl:=h.len
  clear hk hb e
  rcases A with _ | ad
  ·have hx:xs=[]:=by
    rcases h.mem with h0 | ⟨b,o,h0,_⟩
    ·exact List.eq_nil_of_length_eq_zero (by omega)
    ·cases h0
   subst hx
   obtain rfl:n=0:=by simpa using hl.symm
   clear h hl
   go_enter Tryz.func108,Tryz.ntmps108
   go_wp2_with fail
   refine (hv.out).mono ?_
   rintro e w' ⟨rfl,hw⟩
   have hw:=hw.symm
   subst hw
   go_wp2
   go_ret
   exact⟨none,0,0,rfl,Rd.nil_ _ _ _,Below.refl _ _,Nat.zero_le _⟩
  ·replace h:=Lib.hid h
   replace hl:=Lib.hid hl
   go_enter Tryz.func108,Tryz.ntmps108
   go_wp2_with fail
   refine (hv.out).mono ?_
   rintro e w' ⟨rfl,hw⟩
   have hw:=hw.symm
   subst hw
   go_wp2_with (at_builtin;refine wpList_append_u32 _ rfl (.const (.slice none 0 0)) (.tmp 6) rfl w.heap.size _ [] rfl (Gr.nil_ w _) ad n c xs rfl h.out ?c1 ?c2 ?_)
   case c1=>show 0+n≤100000;omega
   case c2=>exact Nat.le_refl _
   intro v' w' hG hg
   obtain⟨A',c',hv',hR,_⟩:=hG.form
   subst hv'
   have hl2:=hl.out
   subst hl2
   replace hR:=Lib.hid hR
   replace hg:=Lib.hid (Below.grown (Below.refl w.heap.size w) hg (Nat.le_refl _) (by intro k hk;simp[Value.ownBlock] at hk))
   clear hG
   go_wp2
   go_ret
   exact⟨_,_,_,rfl,hR.out,hg.out,Nat.le_refl _⟩
set_option maxHeartbeats 1000000 in
theorem rcmp_any (A:Option Addr) (n c:Nat) (x:Nat) (A':Option Addr) (n' c':Nat) (y:Nat) (w:World)
  (R1:Rd w A n c (limbs x)) (R2:Rd w A' n' c' (limbs y)) (hn:n≤10000) (hn':n'≤10000) :
  Calls Tryz.prog 177 #[.slice A n c,.slice A' n' c'] w fun e w'=>e=.returned (.int .i64 (cmpi x y))∧∃ m,w'=w.drewN m:=by
 replace R1:=Lib.hid R1
 replace R2:=Lib.hid R2
 by_cases hne:n=n'
 ·subst hne
  have hne0:((n:Int) != (n:Int))=false:=by simp
  go_enter Tryz.func177,Tryz.ntmps177
  go_wp2
  go_loopw [5] (fun iv wr=>∃ (i:Int) (k m:Nat),k≤n∧i+1=k∧iv=.int .i64 i∧wr=w.drewN m∧(limbs x).drop k=(limbs y).drop k) (fun iv _=>(intOf iv+1).toNat)
  case atStart=>exact⟨_,n,0,Nat.le_refl _,by omega,rfl,rfl,by rw[List.drop_of_length_le (by rw[R1.out.len];omega),List.drop_of_length_le (by rw[R2.out.len];omega)]⟩
  case round=>
   obtain⟨i,k,m,hk,hik,rfl,rfl,hd⟩:=hrel
   replace hd:=Lib.hid hd
   by_cases h0:k=0
   ·subst h0
    have hxy:x=y:=limbs_inj (by simpa using hd.out)
    have hcmp:=Lib.hid (cmpi_eq (a:=x) (b:=y) (by omega))
    obtain rfl:i = -1:=by omega
    clear hik hd hxy
    go_wp2
    go_ret
    rw[hcmp.out];exact⟨rfl,_,rfl⟩
   ·obtain⟨j,rfl⟩:∃ j,k=j+1:=⟨k-1,by omega⟩
    obtain rfl:i=j:=by omega
    obtain⟨b1,o1,x1,rfl,hb1,hx1,hxe,hcx⟩:=R1.out.at_ (k:=j) (by omega)
    obtain⟨b2,o2,y1,rfl,hb2,hy1,hye,hcy⟩:=R2.out.at_ (k:=j) (by omega)
    replace hxe:=Lib.hid hxe
    replace hye:=Lib.hid hye
    clear hik h0
    have g1:(0:Int)≤(j:Int):=by omega
    have g2:(j:Int)<(n:Int):=by omega
    by_cases hlt:x1<y1
    ·have hcm:cmpi x y = -1:=by
      rw[cmp_at (by rw[R1.out.len];omega) (by rw[R2.out.len];omega) hd.out hxe.out hye.out (by omega) (sm_limbs _) (sm_limbs _)]
      exact cmpi_lt (by omega)
     replace hcm:=Lib.hid hcm
     go_wp2
     go_quiet (fail)
     go_wp2
     go_ret
     rw[hcm.out];exact⟨rfl,_,by rw[World.drewN_drewN]⟩
    ·by_cases hgt:y1<x1
     ·have hcm:cmpi x y=1:=by
       rw[cmp_at (by rw[R1.out.len];omega) (by rw[R2.out.len];omega) hd.out hxe.out hye.out (by omega) (sm_limbs _) (sm_limbs _)]
       exact cmpi_gt (by omega)
      replace hcm:=Lib.hid hcm
      go_wp2
      go_quiet (fail)
      go_wp2
      go_quiet (fail)
      go_wp2
      go_ret
      rw[hcm.out];exact⟨rfl,_,by rw[World.drewN_drewN,World.drewN_drewN]⟩
     ·have hd2:=Lib.hid (drop_same (by rw[R1.out.len];omega) (by rw[R2.out.len];omega) hd.out (hxe.out.trans ((show x1=y1 by omega).trans hye.out.symm)))
      go_wp2
      go_quiet (fail)
      go_wp2
      go_quiet (fail)
      go_wp2
      go_roundw
      case rel=>exact⟨_,j,_,by omega,by omega,rfl,rfl,hd2.out⟩
      case measure=>simp[intOf]
 ·have hc:cmpi x y=cmpi n n':=cmp_len R1.out.len R2.out.len hne
  have ht:((n:Int) != (n':Int))=true:=by simp;omega
  by_cases hlt:n<n'
  ·rw[hc,cmpi_lt (by omega)]
   clear hne hc
   go_enter Tryz.func177,Tryz.ntmps177
   go_wp2
   go_ret
   exact⟨rfl,0,rfl⟩
  ·rw[hc,cmpi_gt (by omega)]
   clear hc
   go_enter Tryz.func177,Tryz.ntmps177
   go_wp2
   go_ret
   exact⟨rfl,0,rfl⟩
theorem rcmp_b (A:Option Addr) (n c:Nat) (x:Nat) (A':Option Addr) (n' c':Nat) (y:Nat) (w:World)
  (h1:Rd w A n c (limbs x)) (h2:Rd w A' n' c' (limbs y)) (hn:n≤10000) (hn':n'≤10000) (q:Int) (hq:cmpi x y=q) :
  Calls Tryz.prog 177 #[.slice A n c,.slice A' n' c'] w fun e w'=>e=.returned (.int .i64 q)∧Below w.heap.size w w':=by
 have:=rcmp_any A n c x A' n' c' y w h1 h2 hn hn'
 rw[hq] at this
 refine this.mono ?_
 rintro e w' ⟨he,m,rfl⟩
 exact⟨he,drewN_below w m⟩
end Go.Proofs.YtdeedofmflelfaaGreatDoor

namespace Go.Proofs.YtdeedofmflelfaaGreatDoor
open Go.RowKit
/-- What Uint gives of a number. -/
def uval (x:Nat):Nat:=if x<18446744073709551616 then x else 0
def uok (x:Nat):Bool:=decide (x<18446744073709551616)
theorem two_pow_64:4294967296^2=18446744073709551616:=rfl
theorem u_big {x n:Nat} (h:(limbs x).length=n) (hn:2<n):uval x=0∧uok x=false:=by
 have h1:¬ x<18446744073709551616:=by
  intro hx
  have:=len_of_lt (x:=x) (n:=2) (by rw[two_pow_64];exact hx)
  omega
 exact⟨if_neg h1,decide_eq_false h1⟩
theorem u_small {x n:Nat} (h:(limbs x).length=n) (hn:n≤2):uval x=x∧uok x=true:=by
 have h1:x<18446744073709551616:=by
  have:=limbs_len_le (n:=x) (k:=2).1 (by omega)
  rw[two_pow_64] at this
  exact this
 exact⟨if_pos h1,decide_eq_true h1⟩
theorem or_high (a x:Nat) (ha:a<4294967296) (hx:x<4294967296):bits .or .u64 (a:Int) ((x:Int)*4294967296)=((a+x*4294967296:Nat):Int):=by
 rw[show (x:Int)*4294967296=((x*4294967296:Nat):Int) by simp]
 rw[u64_or_nat a (x*4294967296) (by omega) (by omega)]
 congr 1
 have:=Nat.two_pow_add_eq_or_of_lt (i:=32) (b:=a) (by omega) x
 rw[show (2:Nat)^32=4294967296 from rfl,Nat.mul_comm] at this
 rw[Nat.or_comm,←this,Nat.add_comm]
theorem or_zero (x:Nat) (hx:x<4294967296):bits .or .u64 0 (x:Int)=(x:Int):=by
 have:=u64_or_nat 0 x (by omega) (by omega)
 rw[Nat.zero_or] at this
 exact this
set_option maxHeartbeats 2000000 in
theorem uint_any (A:Option Addr) (n c:Nat) (xs:List Nat) (w:World) (h1:Rd w A n c xs) (hn:n≤10000) :
  Calls Tryz.prog 201 #[.slice A n c] w fun e w'=>e=.returned (.tuple #[.int .u64 (uval (num xs):Nat),.bool (uok (num xs))])∧w=w':=by
 replace h1:=Lib.hid h1
 go_enter Tryz.func201,Tryz.ntmps201
 go_wp2_with fail
 refine (known_any _ _ _ xs _ h1.out (by omega)).mono ?_
 rintro e w' ⟨B1,n1,c1,rfl,rfl,R1,l1⟩
 replace R1:=Lib.hid R1
 clear h1
 by_cases hb:2<n1
 ·obtain⟨e1,e2⟩:=u_big R1.out.len hb
  have hbi:(2:Int)<(n1:Int):=by omega
  replace e1:=Lib.hid e1
  replace e2:=Lib.hid e2
  go_wp2
  go_ret2
  rw[e1.out,e2.out];exact⟨rfl,rfl⟩
 ·obtain⟨e1,e2⟩:=u_small R1.out.len (by omega)
  replace e1:=Lib.hid e1
  replace e2:=Lib.hid e2
  have hbi:(n1:Int)≤2:=by omega
  go_wp2
  go_loop [2,13] (fun v i=>∃ k:Nat,k≤n1∧i=.int .i64 k∧v=.int .u64 (val ((limbs (num xs)).take k):Nat)) (fun _ i=>n1-(intOf i).toNat)
  case atStart=>exact⟨0,Nat.zero_le _,rfl,rfl⟩
  case round=>
   obtain⟨k,hk,rfl,rfl⟩:=hrel
   by_cases hlt:k<n1
   ·obtain⟨b1,o1,x1,rfl,hb1,hx1,hxe,hcx⟩:=R1.out.at_ hlt
    have hst:=val_take_succ_any (limbs (num xs)) k
    rw[hxe] at hst
    replace hst:=Lib.hid hst
    clear hxe
    have hk01:k=0∨k=1:=by omega
    rcases hk01 with rfl | rfl
    ·have hz:val ((limbs (num xs)).take 0)=0:=by simp[val]
     have hor:=or_zero x1 hx1
     have hs1:val ((limbs (num xs)).take 1)=x1:=by have:=hst.out;rw[hz] at this;simpa using this
     rw[hz]
     rw[Nat.add_zero] at hcx
     replace hs1:=Lib.hid hs1
     clear hz
     go_wp2
     go_round
     case rel=>exact⟨1,by omega,rfl,by rw[hs1.out]⟩
     case measure=>simp[intOf];omega
    ·have hv1:val ((limbs (num xs)).take 1)<4294967296:=by
      have:=val_lt (sm_take (sm_limbs (num xs)) 1)
      have h2:((limbs (num xs)).take 1).length≤1:=by rw[List.length_take];omega
      have h3:4294967296^((limbs (num xs)).take 1).length≤4294967296^1:=Nat.pow_le_pow_right (by omega) h2
      omega
     obtain⟨v1,hv1e⟩:∃ v1,val ((limbs (num xs)).take 1)=v1:=⟨_,rfl⟩
     have hor:=or_high v1 x1 (by omega) hx1
     rw[hv1e]
     have hs2:val ((limbs (num xs)).take 2)=v1+x1*4294967296:=by have:=hst.out;rw[hv1e,Nat.pow_one,Nat.mul_comm] at this;exact this
     replace hs2:=Lib.hid hs2
     clear hv1e
     go_wp2
     go_round
     case rel=>exact⟨2,by omega,rfl,by rw[hs2.out];simp⟩
     case measure=>simp[intOf];omega
   ·obtain rfl:k=n1:=by omega
    have e:val ((limbs (num xs)).take k)=num xs:=by rw[List.take_of_length_le (by rw[R1.out.len];omega),val_limbs]
    replace e:=Lib.hid e
    go_wp2
    go_ret2
    rw[e1.out,e2.out,e.out];exact⟨rfl,rfl⟩
set_option maxHeartbeats 2000000 in
theorem ruint_any (A:Option Addr) (n c:Nat) (xs:List Nat) (w:World) (h1:Rd w A n c xs) (hn:n≤10000) :
  Calls Tryz.prog 137 #[.slice A n c] w fun e w'=>e=.returned (.tuple #[.int .u64 (uval (num xs):Nat),.bool (uok (num xs))])∧Below w.heap.size w w':=by
 replace h1:=Lib.hid h1
 go_enter Tryz.func137,Tryz.ntmps137
 go_wp2_with fail
 refine (take_any _ _ _ xs _ h1.out (by omega)).mono ?_
 rintro e w1 ⟨B1,n1,c1,rfl,R1,b1,l1⟩
 replace R1:=Lib.hid R1
 replace b1:=Lib.hid b1
 clear h1
 by_cases hb:2<n1
 ·obtain⟨e1,e2⟩:=u_big R1.out.len hb
  have hbi:(2:Int)<(n1:Int):=by omega
  replace e1:=Lib.hid e1
  replace e2:=Lib.hid e2
  go_wp2
  go_ret2
  rw[e1.out,e2.out];exact⟨rfl,b1.out⟩
 ·obtain⟨e1,e2⟩:=u_small R1.out.len (by omega)
  replace e1:=Lib.hid e1
  replace e2:=Lib.hid e2
  have hbi:(n1:Int)≤2:=by omega
  go_wp2
  go_loop [4,5] (fun v iv=>∃ (i:Int) (k:Nat),k≤n1∧i+1=k∧iv=.int .i64 i∧v=.int .u64 (val ((limbs (num xs)).drop k):Nat)) (fun _ iv=>(intOf iv+1).toNat)
  case atStart=>exact⟨_,n1,Nat.le_refl _,by omega,rfl,by rw[List.drop_of_length_le (by rw[R1.out.len];omega)];rfl⟩
  case round=>
   obtain⟨i,k,hk,hik,rfl,rfl⟩:=hrel
   by_cases h0:k=0
   ·subst h0
    obtain rfl:i = -1:=by omega
    clear hik
    go_wp2
    go_ret2
    rw[e1.out,e2.out,val_limbs];exact⟨rfl,b1.out⟩
   ·obtain⟨j,rfl⟩:∃ j,k=j+1:=⟨k-1,by omega⟩
    obtain rfl:i=j:=by omega
    obtain⟨bb,o1,x1,rfl,hb1,hx1,hxe,hcx⟩:=R1.out.at_ (k:=j) (by omega)
    have hst:=drop_get (X:=limbs (num xs)) (j:=j) (by rw[R1.out.len];omega)
    have hst2:val ((limbs (num xs)).drop j)=val ((limbs (num xs)).drop (j+1))*4294967296+x1:=by rw[hst,val,hxe];omega
    have hvb:val ((limbs (num xs)).drop (j+1))<4294967296:=by
     have h2:=val_lt (sm_drop (sm_limbs (num xs)) (j+1))
     have h3:((limbs (num xs)).drop (j+1)).length≤1:=by rw[List.length_drop,R1.out.len];omega
     have h4:4294967296^((limbs (num xs)).drop (j+1)).length≤4294967296^1:=Nat.pow_le_pow_right (by omega) h3
     omega
    obtain⟨v1,hv1e⟩:∃ v1,val ((limbs (num xs)).drop (j+1))=v1:=⟨_,rfl⟩
    rw[hv1e] at hst2 hvb ⊢
    have hor:=or_limb v1 x1 hvb hx1
    have g1:(0:Int)≤(j:Int):=by omega
    have g2:(j:Int)<(n1:Int):=by omega
    replace hst2:=Lib.hid hst2
    clear hst hxe hv1e hik h0
    go_wp2
    go_round
    case rel=>exact⟨_,j,by omega,by omega,rfl,by rw[hst2.out];simp⟩
    case measure=>simp[intOf]
end Go.Proofs.YtdeedofmflelfaaGreatDoor

namespace Go.Proofs.YtdeedofmflelfaaGreatDoor
open Go.RowKit
/-- A literal of one limb, 0 too. -/
theorem lit1 (w:World) (g d:Nat) (z:Int) (hg:g=w.heap.size) (hz:z=d) (hd:d<4294967296):Rd (w.alloc (.cells #[.int .u32 z] 119)) (some ⟨g,0,none⟩) 1 1 [d]:=by
 subst hg
 subst hz
 exact (Own.lit w [d] (by intro y hy;simp at hy;omega)).rd0 1 (by simp)
theorem limb_any (A:Option Addr) (n c:Nat) (xs:List Nat) (w:World) (i:Int) (k x:Nat) (h:Rd w A n c xs) (_:n≤100000) (hi:i=k) (hx:xs.getD k 0=x) :
  Calls Tryz.prog 156 #[.slice A n c,.int .i64 i] w fun e w'=>e=.returned (.int .u64 (x:Nat))∧w=w':=by
 subst hi
 by_cases hk:k<n
 ·obtain⟨b,o,x',rfl,hb,hx',hxe,hc⟩:=h.at_ hk
  obtain rfl:x'=x:=hxe.symm.trans hx
  have g1:(0:Int)≤(k:Int):=by omega
  have g2:(k:Int)<(n:Int):=by omega
  clear h hx hxe
  go_enter Tryz.func156,Tryz.ntmps156
  go_wp2
  go_ret
  exact⟨rfl,rfl⟩
 ·obtain rfl:x=0:=by rw[←hx];exact getD_none (by rw[h.len];omega)
  have g2:(n:Int)≤(k:Int):=by omega
  clear h hx
  go_enter Tryz.func156,Tryz.ntmps156
  go_wp2
  go_ret
  exact⟨rfl,rfl⟩
theorem radd_step {zs X Y:List Nat} {k cy x y:Nat} (hl:zs.length=k) (h:val zs+4294967296^k*cy=val (X.take k)+val (Y.take k)) (hx:X.getD k 0=x) (hy:Y.getD k 0=y) :
  val (zs++[(x+y+cy)%4294967296])+4294967296^(k+1)*((x+y+cy) / 4294967296)=val (X.take (k+1))+val (Y.take (k+1)):=by
 rw[val_snoc,hl,val_take_succ_any X,val_take_succ_any Y,hx,hy,pow_mul_succ,Nat.add_assoc,←Nat.mul_add,Nat.mod_add_div,Nat.mul_add,Nat.mul_add]
 omega
theorem radd_last {zs:List Nat} {x y n1 n2 k cy:Nat} (h1:(limbs x).length=n1) (h2:(limbs y).length=n2) (hk:k=max n1 n2+1)
  (h:val zs+4294967296^k*cy=val ((limbs x).take k)+val ((limbs y).take k)):val zs=x+y:=by
 rw[List.take_of_length_le (by omega),List.take_of_length_le (by omega),val_limbs,val_limbs] at h
 have a:=lt_of_len h1
 have b:=lt_of_len h2
 have a2:4294967296^n1≤4294967296^max n1 n2:=Nat.pow_le_pow_right (by omega) (by omega)
 have b2:4294967296^n2≤4294967296^max n1 n2:=Nat.pow_le_pow_right (by omega) (by omega)
 rcases Nat.eq_zero_or_pos cy with h0 | h0
 ·subst h0;omega
 ·have:=Nat.mul_le_mul_left (4294967296^k) h0
  rw[hk,Nat.pow_succ] at this
  rw[hk,Nat.pow_succ] at h
  omega
theorem own_ge {w:World} {base:Nat} {v:Value} {zs:List Nat} (h:Gr w base v zs):∀ k,v.ownBlock=some k→base≤k:=fun k hk=>(h.own.lt k hk).1
set_option maxHeartbeats 2000000 in
theorem radd_any (A:Option Addr) (n c:Nat) (xs:List Nat) (A':Option Addr) (n' c':Nat) (ys:List Nat) (w:World)
  (h1:Rd w A n c xs) (h2:Rd w A' n' c' ys) (hn:n≤10000) (hn':n'≤10000) :
  Calls Tryz.prog 122 #[.slice A n c,.slice A' n' c'] w (RetN (num xs+num ys) w):=by
 replace h1:=Lib.hid h1
 replace h2:=Lib.hid h2
 go_enter Tryz.func122,Tryz.ntmps122
 go_wp2_with fail
 refine (take_any _ _ _ xs _ h1.out (by omega)).mono ?_
 rintro e w1 ⟨A1,n1,c1,rfl,R1,b1,l1⟩
 replace h2:=Lib.hid (h2.out.below b1)
 replace R1:=Lib.hid R1
 replace b1:=Lib.hid b1
 go_wp2_with fail
 refine (take_any _ _ _ ys _ h2.out (by omega)).mono ?_
 rintro e w2 ⟨A2,n2,c2,rfl,R2,b2,l2⟩
 replace R1:=Lib.hid (R1.out.below b2)
 replace R2:=Lib.hid R2
 replace b1:=Lib.hid (b1.out.trans (b2.mono b1.out.size))
 clear b2 h1 h2
 go_wp2
 go_loopw [5,6,7] (fun ov cv iv wr=>∃ (k cy:Nat) (zs:List Nat),k≤max n1 n2+1∧iv=.int .i64 k∧cv=.int .u64 cy∧cy≤1∧zs.length=k∧Gr wr w2.heap.size ov zs∧Below w2.heap.size w2 wr ∧
   val zs+4294967296^k*cy=val ((limbs (num xs)).take k)+val ((limbs (num ys)).take k))
  (fun _ _ iv _=>max n1 n2+1-(intOf iv).toNat)
 case atStart=>exact⟨0,0,[],Nat.zero_le _,rfl,rfl,by omega,rfl,Gr.nil_ _ _,Below.refl _ _,by simp[val]⟩
 case round=>
  obtain⟨k,cy,zs,hk,rfl,rfl,hcy,hl,hG,hB,hv⟩:=hrel
  replace hl:=Lib.hid hl
  replace hG:=Lib.hid hG
  replace hB:=Lib.hid hB
  replace hv:=Lib.hid hv
  by_cases hlt:k≤max n1 n2
  ·obtain⟨x1,hx1⟩:∃ x1,(limbs (num xs)).getD k 0=x1:=⟨_,rfl⟩
   obtain⟨y1,hy1⟩:∃ y1,(limbs (num ys)).getD k 0=y1:=⟨_,rfl⟩
   have hx1b:x1<4294967296:=by rw[←hx1];exact sm_get (sm_limbs _) k
   have hy1b:y1<4294967296:=by rw[←hy1];exact sm_get (sm_limbs _) k
   replace hx1:=Lib.hid hx1
   replace hy1:=Lib.hid hy1
   go_wp2_with fail
   refine (limb_any _ _ _ _ _ _ k x1 (R1.out.below hB.out) (by omega) rfl hx1.out).mono ?_
   rintro e w' ⟨rfl,rfl⟩
   go_wp2_with fail
   refine (limb_any _ _ _ _ _ _ k y1 (R2.out.below hB.out) (by omega) rfl hy1.out).mono ?_
   rintro e w' ⟨rfl,rfl⟩
   go_wp2_with (at_builtin;refine wpList_append_u32 _ rfl (.tmp 31) (.tmp 34) rfl w2.heap.size _ zs rfl (hG.out.alloc _) ⟨wr.heap.size,0,none⟩ 1 1 [(x1+y1+cy)%4294967296] rfl (lit1 _ _ _ _ rfl ?c0 ?c3) ?c1 ?c2 ?_)
   case c0=>omega
   case c3=>omega
   case c1=>rw[hl.out];omega
   case c2=>have:=hB.out.size;simp;omega
   intro v' w' hG' hg
   have hB':=Lib.hid (Below.grown (hB.out.alloc hB.out.size _) hg (by have:=hB.out.size;simp;omega) (own_ge hG.out))
   replace hG':=Lib.hid hG'
   clear hg
   go_wp2
   go_roundw
   case rel=>exact⟨k+1,(x1+y1+cy) / 4294967296,_,by omega,by go_num,by go_num,by omega,by rw[List.length_append,hl.out];rfl,hG'.out,hB'.out,radd_step hl.out hv.out hx1.out hy1.out⟩
   case measure=>simp[intOf];omega
  ·have hke:k=max n1 n2+1:=by omega
   have hfin:=Lib.hid (radd_last (n1:=n1) (n2:=n2) R1.out.len R2.out.len hke hv.out)
   obtain⟨A3,c3,hv3,R3,_⟩:=hG.out.form
   subst hv3
   replace R3:=Lib.hid R3
   clear hke
   go_wp2_with fail
   refine (rtrim_any _ _ _ zs _ R3.out (by rw[hl.out];omega)).mono ?_
   rintro e w' ⟨n',rfl,rfl,R⟩
   rw[hfin.out] at R
   replace R:=Lib.hid R
   have hB':=Lib.hid (b1.out.trans (hB.out.mono b1.out.size))
   go_wp2
   go_ret
   exact⟨_,_,_,rfl,R.out,hB'.out⟩
set_option maxHeartbeats 2000000 in
theorem rsub_lt (A:Option Addr) (n c:Nat) (xs:List Nat) (A':Option Addr) (n' c':Nat) (ys:List Nat) (w:World)
  (h1:Rd w A n c xs) (h2:Rd w A' n' c' ys) (hn:n≤10000) (hn':n'≤10000) (hlt:num xs<num ys) :
  Calls Tryz.prog 150 #[.slice A n c,.slice A' n' c'] w fun e w'=>e=.returned (.tuple #[.slice none 0 0,.bool false])∧Below w.heap.size w w':=by
 replace h1:=Lib.hid h1
 replace h2:=Lib.hid h2
 replace hlt:=Lib.hid hlt
 go_enter Tryz.func150,Tryz.ntmps150
 go_wp2_with fail
 refine (take_any _ _ _ xs _ h1.out (by omega)).mono ?_
 rintro e w1 ⟨A1,n1,c1,rfl,R1,b1,l1⟩
 replace h2:=Lib.hid (h2.out.below b1)
 replace R1:=Lib.hid R1
 replace b1:=Lib.hid b1
 go_wp2_with fail
 refine (take_any _ _ _ ys _ h2.out (by omega)).mono ?_
 rintro e w2 ⟨A2,n2,c2,rfl,R2,b2,l2⟩
 replace R1:=Lib.hid (R1.out.below b2)
 replace R2:=Lib.hid R2
 replace b1:=Lib.hid (b1.out.trans (b2.mono b1.out.size))
 clear b2 h1 h2
 go_wp2_with fail
 refine (rcmp_b _ _ _ _ _ _ _ _ _ R1.out R2.out (by omega) (by omega) (-1) (cmpi_lt (by have:=hlt.out;omega))).mono ?_
 rintro e w3 ⟨rfl,b3⟩
 replace b1:=Lib.hid (b1.out.trans (b3.mono b1.out.size))
 clear b3
 go_wp2
 go_ret2
 exact⟨rfl,b1.out⟩
theorem rsub_step {zs X Y:List Nat} {k br x y t d:Nat} (hl:zs.length=k) (h:val zs+val (Y.take k)=val (X.take k)+4294967296^k*br) (hx:X.getD k 0=x) (hy:Y.getD k 0=y)
  (ht:t+y+br=x+4294967296) (hd:d=t%4294967296) (hb:br≤1) (hxb:x<4294967296) :
  val (zs++[d])+val (Y.take (k+1))=val (X.take (k+1))+4294967296^(k+1)*(1-t / 4294967296):=by
 rw[val_snoc,hl,val_take_succ_any X,val_take_succ_any Y,hx,hy,pow_mul_succ]
 have e:d+y+br=x+4294967296*(1-t / 4294967296):=by omega
 have e2:4294967296^k*(d+y+br)=4294967296^k*(x+4294967296*(1-t / 4294967296)):=by rw[e]
 rw[Nat.mul_add,Nat.mul_add,Nat.mul_add] at e2
 omega
set_option maxHeartbeats 2000000 in
theorem rsub_ge (A:Option Addr) (n c:Nat) (xs:List Nat) (A':Option Addr) (n' c':Nat) (ys:List Nat) (w:World)
  (h1:Rd w A n c xs) (h2:Rd w A' n' c' ys) (hn:n≤10000) (hn':n'≤10000) (hge:num ys≤num xs) :
  Calls Tryz.prog 150 #[.slice A n c,.slice A' n' c'] w fun e w'=>∃ A n c,e=.returned (.tuple #[.slice A n c,.bool true])∧Rd w' A n c (limbs (num xs-num ys))∧Below w.heap.size w w':=by
 replace h1:=Lib.hid h1
 replace h2:=Lib.hid h2
 replace hge:=Lib.hid hge
 go_enter Tryz.func150,Tryz.ntmps150
 go_wp2_with fail
 refine (take_any _ _ _ xs _ h1.out (by omega)).mono ?_
 rintro e w1 ⟨A1,n1,c1,rfl,R1,b1,l1⟩
 replace h2:=Lib.hid (h2.out.below b1)
 replace R1:=Lib.hid R1
 replace b1:=Lib.hid b1
 go_wp2_with fail
 refine (take_any _ _ _ ys _ h2.out (by omega)).mono ?_
 rintro e w2 ⟨A2,n2,c2,rfl,R2,b2,l2⟩
 replace R1:=Lib.hid (R1.out.below b2)
 replace R2:=Lib.hid R2
 replace b1:=Lib.hid (b1.out.trans (b2.mono b1.out.size))
 clear b2 h1 h2
 obtain⟨q,hq,hq0⟩:∃ q,cmpi (num xs) (num ys)=q∧0≤q:=⟨_,rfl,by unfold cmpi;have:=hge.out;split;omega;split<;>omega⟩
 replace hq:=Lib.hid hq
 have hq1:decide (q<0)=false:=by simp;omega
 go_wp2_with fail
 refine (rcmp_b _ _ _ _ _ _ _ _ _ R1.out R2.out (by omega) (by omega) q hq.out).mono ?_
 rintro e w3 ⟨rfl,b3⟩
 replace R1:=Lib.hid (R1.out.below b3)
 replace R2:=Lib.hid (R2.out.below b3)
 replace b1:=Lib.hid (b1.out.trans (b3.mono b1.out.size))
 clear b3
 go_wp2
 go_loopw [6,7,8] (fun ov cv iv wr=>∃ (k br:Nat) (zs:List Nat),k≤n1∧iv=.int .i64 k∧cv=.int .u64 br∧br≤1∧zs.length=k∧Gr wr w3.heap.size ov zs∧Below w3.heap.size w3 wr ∧
   val zs+val ((limbs (num ys)).take k)=val ((limbs (num xs)).take k)+4294967296^k*br)
  (fun _ _ iv _=>n1-(intOf iv).toNat)
 case atStart=>exact⟨0,0,[],Nat.zero_le _,rfl,rfl,by omega,rfl,Gr.nil_ _ _,Below.refl _ _,by simp[val]⟩
 case round=>
  obtain⟨k,br,zs,hk,rfl,rfl,hbr,hl,hG,hB,hv⟩:=hrel
  replace hl:=Lib.hid hl
  replace hG:=Lib.hid hG
  replace hB:=Lib.hid hB
  replace hv:=Lib.hid hv
  by_cases hlt:k<n1
  ·obtain⟨x1,hx1⟩:∃ x1,(limbs (num xs)).getD k 0=x1:=⟨_,rfl⟩
   obtain⟨y1,hy1⟩:∃ y1,(limbs (num ys)).getD k 0=y1:=⟨_,rfl⟩
   have hx1b:x1<4294967296:=by rw[←hx1];exact sm_get (sm_limbs _) k
   have hy1b:y1<4294967296:=by rw[←hy1];exact sm_get (sm_limbs _) k
   replace hx1:=Lib.hid hx1
   replace hy1:=Lib.hid hy1
   obtain⟨t,ht⟩:∃ t,t+y1+br=x1+4294967296:=⟨x1+4294967296-y1-br,by omega⟩
   have htb:t≤8589934591:=by omega
   have hst:=rsub_step (zs:=zs) (d:=t%4294967296) hl.out hv.out hx1.out hy1.out ht rfl hbr hx1b
   have hti:(x1:Int)+4294967296-y1-br=(t:Int):=by omega
   have hbd:t / 4294967296≤1:=by omega
   replace hst:=Lib.hid hst
   clear ht
   go_wp2_with fail
   refine (limb_any _ _ _ _ _ _ k x1 (R1.out.below hB.out) (by omega) rfl hx1.out).mono ?_
   rintro e w' ⟨rfl,rfl⟩
   go_wp2_with fail
   refine (limb_any _ _ _ _ _ _ k y1 (R2.out.below hB.out) (by omega) rfl hy1.out).mono ?_
   rintro e w' ⟨rfl,rfl⟩
   go_wp2_with (at_builtin;refine wpList_append_u32 _ rfl (.tmp 34) (.tmp 37) rfl w3.heap.size _ zs rfl (hG.out.alloc _) ⟨wr.heap.size,0,none⟩ 1 1 [t%4294967296] rfl (lit1 _ _ _ _ rfl ?c0 ?c3) ?c1 ?c2 ?_)
   case c0=>omega
   case c3=>omega
   case c1=>rw[hl.out];omega
   case c2=>have:=hB.out.size;simp;omega
   intro v' w' hG' hg
   have hB':=Lib.hid (Below.grown (hB.out.alloc hB.out.size _) hg (by have:=hB.out.size;simp;omega) (own_ge hG.out))
   replace hG':=Lib.hid hG'
   clear hg
   go_wp2
   go_roundw
   case rel=>exact⟨k+1,1-t / 4294967296,_,by omega,by go_num,by go_num,by omega,by rw[List.length_append,hl.out];rfl,hG'.out,hB'.out,hst.out⟩
   case measure=>simp[intOf];omega
  ·obtain rfl:k=n1:=by omega
   have hzs:Sm zs:=hG.out.sm
   have hfin:=Lib.hid (sub_last hl.out hzs (by rw[List.take_of_length_le (by rw[hl.out];omega)];exact hv.out) R1.out.len hge.out)
   obtain⟨A3,c3,hv3,R3,_⟩:=hG.out.form
   subst hv3
   replace R3:=Lib.hid R3
   clear hzs
   go_wp2_with fail
   refine (rtrim_any _ _ _ zs _ R3.out (by rw[hl.out];omega)).mono ?_
   rintro e w' ⟨n',rfl,rfl,R⟩
   rw[hfin.out] at R
   replace R:=Lib.hid R
   have hB':=Lib.hid (b1.out.trans (hB.out.mono b1.out.size))
   go_wp2
   go_ret2
   exact⟨_,_,_,rfl,R.out,hB'.out⟩
end Go.Proofs.YtdeedofmflelfaaGreatDoor

namespace Go.Proofs.YtdeedofmflelfaaGreatDoor
open Go.RowKit
theorem times_step {zs X:List Nat} {b k cy x v t:Nat} (hl:zs.length=b+k) (h:val zs+4294967296^(b+k)*cy=4294967296^b*(v*val (X.take k))) (hx:X.getD k 0=x) (ht:t=x*v+cy) :
  val (zs++[t%4294967296])+4294967296^(b+(k+1))*(t / 4294967296)=4294967296^b*(v*val (X.take (k+1))):=by
 rw[val_snoc,hl,val_take_succ_any X,hx,show b+(k+1)=b+k+1 by omega,pow_mul_succ,Nat.add_assoc,←Nat.mul_add,Nat.mod_add_div,ht]
 have e4:4294967296^b*(v*(val (X.take k)+4294967296^k*x))=4294967296^b*(v*val (X.take k))+4294967296^(b+k)*(x*v):=by
  rw[Nat.mul_add,Nat.mul_add,Nat.pow_add]
  congr 1
  rw[Nat.mul_left_comm v,Nat.mul_assoc,Nat.mul_comm v x]
 rw[e4,Nat.mul_add,←h]
 omega
theorem times_last {zs X:List Nat} {b n cy v:Nat} (hX:X.length=n) (hs:Sm X) (hv:v<4294967296) (h:val zs+4294967296^(b+(n+1))*cy=4294967296^b*(v*val (X.take (n+1)))) :
  val zs=val X*v*4294967296^b:=by
 rw[List.take_of_length_le (by omega)] at h
 have hx:=val_lt hs
 rw[hX] at hx
 have h1:v*val X<4294967296*4294967296^n:=by
  rcases Nat.eq_zero_or_pos v with h0 | h0
  ·subst h0;rw[Nat.zero_mul];exact Nat.mul_pos (by omega) (Nat.pow_pos (by omega))
  ·exact Nat.lt_of_le_of_lt (Nat.mul_le_mul_right _ (Nat.le_of_lt hv)) (Nat.mul_lt_mul_of_pos_left hx (by omega))
 have h2:4294967296^b*(v*val X)<4294967296^(b+(n+1)):=by
  rw[Nat.pow_add,Nat.pow_succ,Nat.mul_comm (4294967296^n)]
  exact Nat.mul_lt_mul_of_pos_left h1 (Nat.pow_pos (by omega))
 have e:4294967296^b*(v*val X)=val X*v*4294967296^b:=by rw[Nat.mul_comm,Nat.mul_comm v]
 rcases Nat.eq_zero_or_pos cy with h0 | h0
 ·subst h0;omega
 ·have:=Nat.mul_le_mul_left (4294967296^(b+(n+1))) h0
  omega
set_option maxHeartbeats 2000000 in
theorem times_any (A:Option Addr) (n c x v b:Nat) (bi vi:Int) (w:World)
  (h1:Rd w A n c (limbs x)) (hn:n≤10000) (hv:v<4294967296) (hb:b≤10000) (hbi:bi=b) (hvi:vi=v) :
  Calls Tryz.prog 151 #[.slice A n c,.int .u32 vi,.int .i64 bi] w (RetN (x*v*4294967296^b) w):=by
 subst hbi
 subst hvi
 have hmk:∀ W:World,(Instr.makeSlice 42 (.int .i64 (b:Int)) (.int .i64 (b:Int))).run Tryz.prog W=.ok (.slice (some ⟨W.heap.size,0,none⟩) b b) (W.alloc (.cells (madeCells #[.int .u32 0] b) 119)):=fun W=>make_u32 b (by omega) .i64 .i64 W
 replace h1:=Lib.hid h1
 go_enter Tryz.func151,Tryz.ntmps151
 go_wp2
 go_loopw [7,8,9] (fun ov cv iv wr=>∃ (k cy:Nat) (zs:List Nat),k≤n+1∧iv=.int .i64 k∧cv=.int .u64 cy∧cy<4294967296∧zs.length=b+k∧Gr wr w.heap.size ov zs∧Below w.heap.size w wr ∧
   val zs+4294967296^(b+k)*cy=4294967296^b*(v*val ((limbs x).take k)))
  (fun _ _ iv _=>n+1-(intOf iv).toNat)
 case atStart=>exact⟨0,0,List.replicate b 0,Nat.zero_le _,rfl,rfl,by omega,by simp,Gr.zeros w b (by omega),(Below.refl _ _).alloc (Nat.le_refl _) _,by simp[val,val_zeros]⟩
 case round=>
  clear hmk
  obtain⟨k,cy,zs,hk,rfl,rfl,hcy,hl,hG,hB,hvv⟩:=hrel
  replace hl:=Lib.hid hl
  replace hG:=Lib.hid hG
  replace hB:=Lib.hid hB
  replace hvv:=Lib.hid hvv
  by_cases hlt:k≤n
  ·obtain⟨x1,hx1⟩:∃ x1,(limbs x).getD k 0=x1:=⟨_,rfl⟩
   have hx1b:x1<4294967296:=by rw[←hx1];exact sm_get (sm_limbs _) k
   replace hx1:=Lib.hid hx1
   have hp:(x1:Int)*(v:Int)≤18446744065119617025:=by have:=mul_bd hx1b hv;have e:((x1*v:Nat):Int)=(x1:Int)*v:=Int.natCast_mul x1 v;omega
   have hp0:0≤(x1:Int)*(v:Int):=by have e:((x1*v:Nat):Int)=(x1:Int)*v:=Int.natCast_mul x1 v;omega
   obtain⟨t,ht⟩:∃ t,t=x1*v+cy:=⟨_,rfl⟩
   have htc:(x1:Int)*(v:Int)+(cy:Int)=(t:Int):=by rw[ht];simp
   have htb:(t:Int)≤18446744069414584320:=by omega
   have htd:t / 4294967296<4294967296:=by omega
   have hst:=times_step hl.out hvv.out hx1.out ht
   replace hst:=Lib.hid hst
   replace htd:=Lib.hid htd
   clear ht
   go_wp2_with fail
   refine (limb_any _ _ _ _ _ _ k x1 (h1.out.below hB.out) (by omega) rfl hx1.out).mono ?_
   rintro e w' ⟨rfl,rfl⟩
   go_wp2_with (at_builtin;refine wpList_append_u32 _ rfl (.tmp 27) (.tmp 30) rfl w.heap.size _ zs rfl (hG.out.alloc _) ⟨wr.heap.size,0,none⟩ 1 1 [t%4294967296] rfl (lit1 _ _ _ _ rfl ?c0 ?c3) ?c1 ?c2 ?_)
   case c0=>omega
   case c3=>omega
   case c1=>rw[hl.out];omega
   case c2=>have:=hB.out.size;simp;omega
   intro v' w' hG' hg
   have hB':=Lib.hid (Below.grown (hB.out.alloc hB.out.size _) hg (by have:=hB.out.size;simp;omega) (own_ge hG.out))
   replace hG':=Lib.hid hG'
   clear hg
   go_wp2
   go_roundw
   case rel=>exact⟨k+1,t / 4294967296,_,by omega,by go_num,by go_num,htd.out,by rw[List.length_append,hl.out];rfl,hG'.out,hB'.out,hst.out⟩
   case measure=>simp[intOf];omega
  ·obtain rfl:k=n+1:=by omega
   have hfin:=Lib.hid (times_last h1.out.len (sm_limbs x) hv hvv.out)
   obtain⟨A3,c3,hv3,R3,_⟩:=hG.out.form
   subst hv3
   replace R3:=Lib.hid R3
   go_wp2_with fail
   refine (rtrim_any _ _ _ zs _ R3.out (by rw[hl.out];omega)).mono ?_
   rintro e w' ⟨n',rfl,rfl,R⟩
   rw[hfin.out,val_limbs] at R
   replace R:=Lib.hid R
   go_wp2
   go_ret
   exact⟨_,_,_,rfl,R.out,hB.out⟩
set_option maxHeartbeats 2000000 in
theorem rmul_any (A:Option Addr) (n c:Nat) (xs:List Nat) (A':Option Addr) (n' c':Nat) (ys:List Nat) (w:World)
  (h1:Rd w A n c xs) (h2:Rd w A' n' c' ys) (hn:n≤2000) (hn':n'≤2000) :
  Calls Tryz.prog 114 #[.slice A n c,.slice A' n' c'] w (RetN (num xs*num ys) w):=by
 replace h1:=Lib.hid h1
 replace h2:=Lib.hid h2
 go_enter Tryz.func114,Tryz.ntmps114
 go_wp2_with fail
 refine (take_any _ _ _ xs _ h1.out (by omega)).mono ?_
 rintro e w1 ⟨A1,n1,c1,rfl,R1,b1,l1⟩
 replace h2:=Lib.hid (h2.out.below b1)
 replace R1:=Lib.hid R1
 replace b1:=Lib.hid b1
 go_wp2_with fail
 refine (take_any _ _ _ ys _ h2.out (by omega)).mono ?_
 rintro e w2 ⟨A2,n2,c2,rfl,R2,b2,l2⟩
 replace R1:=Lib.hid (R1.out.below b2)
 replace R2:=Lib.hid R2
 replace b1:=Lib.hid (b1.out.trans (b2.mono b1.out.size))
 clear b2 h1 h2
 go_wp2
 go_loopw [5,6] (fun ov iv wr=>∃ (k:Nat) (A3:Option Addr) (n3 c3:Nat),k≤n2∧iv=.int .i64 k∧ov=.slice A3 n3 c3∧Rd wr A3 n3 c3 (limbs (num xs*val ((limbs (num ys)).take k)))∧Below w2.heap.size w2 wr)
  (fun _ iv _=>n2-(intOf iv).toNat)
 case atStart=>exact⟨0,none,0,0,Nat.zero_le _,rfl,rfl,by simp only[List.take_zero,val,Nat.mul_zero,limbs_zero];exact Rd.nil_ _ _ _,Below.refl _ _⟩
 case round=>
  obtain⟨k,A3,n3,c3,hk,rfl,rfl,R3,hB⟩:=hrel
  have hX:=lt_of_len R1.out.len
  have hn3:n3≤n1+k:=by
   rw[←R3.len]
   apply len_of_lt
   rw[Nat.pow_add]
   have:=val_lt (sm_take (sm_limbs (num ys)) k)
   have h3:4294967296^((limbs (num ys)).take k).length≤4294967296^k:=Nat.pow_le_pow_right (by omega) (by rw[List.length_take];omega)
   exact Nat.mul_lt_mul_of_lt_of_le hX (by omega) (Nat.pow_pos (by omega))
  replace R3:=Lib.hid R3
  replace hB:=Lib.hid hB
  replace hX:=Lib.hid hX
  by_cases hlt:k<n2
  ·obtain⟨bb,ob,y1,rfl,hbb,hy1,hye,hcy⟩:=(R2.out.below hB.out).at_ hlt
   have hst:num xs*val ((limbs (num ys)).take k)+num xs*y1*4294967296^k=num xs*val ((limbs (num ys)).take (k+1)):=by
    rw[val_take_succ_any,hye,Nat.mul_add,Nat.mul_comm (4294967296^k),Nat.mul_assoc]
   replace hst:=Lib.hid hst
   clear hye
   have g1:(0:Int)≤(k:Int):=by omega
   have g2:(k:Int)<(n2:Int):=by omega
   go_wp2_with fail
   refine (times_any _ _ _ (num xs) y1 k _ _ _ (R1.out.below hB.out) (by omega) hy1 (by omega) rfl rfl).mono ?_
   rintro e w4 ⟨A4,n4,c4,rfl,R4,b4⟩
   have hn4:n4≤n1+1+k:=by
    rw[←R4.len]
    apply len_of_lt
    rw[Nat.pow_add,Nat.pow_succ]
    exact Nat.mul_lt_mul_of_pos_right (Nat.mul_lt_mul_of_lt_of_le hX.out (by omega) (by omega)) (Nat.pow_pos (by omega))
   replace R3:=Lib.hid (R3.out.below b4)
   replace R4:=Lib.hid R4
   replace hB:=Lib.hid (hB.out.trans (b4.mono hB.out.size))
   clear b4 hcy
   go_wp2_with fail
   refine (radd_any _ _ _ _ _ _ _ _ _ R3.out R4.out (by omega) (by omega)).mono ?_
   rintro e w5 ⟨A5,n5,c5,rfl,R5,b5⟩
   rw[num_limbs,num_limbs,hst.out] at R5
   replace R5:=Lib.hid R5
   replace hB:=Lib.hid (hB.out.trans (b5.mono hB.out.size))
   clear b5
   go_wp2
   go_roundw
   case rel=>exact⟨k+1,_,_,_,by omega,by go_num,rfl,R5.out,hB.out⟩
   case measure=>simp[intOf];omega
  ·obtain rfl:k=n2:=by omega
   have e:num xs*val ((limbs (num ys)).take k)=num xs*num ys:=by rw[List.take_of_length_le (by rw[R2.out.len];omega),val_limbs]
   have R6:=R3.out
   rw[e] at R6
   replace R6:=Lib.hid R6
   have hB':=Lib.hid (b1.out.trans (hB.out.mono b1.out.size))
   clear e
   go_wp2
   go_ret
   exact⟨_,_,_,rfl,R6.out,hB'.out⟩
end Go.Proofs.YtdeedofmflelfaaGreatDoor

namespace Go.Proofs.YtdeedofmflelfaaGreatDoor
open Go.RowKit
/-- A contract's number, with its length. -/
def RetL (N p:Nat) (w:World) (e:Ending) (w':World):Prop:=∃ A n c,e=.returned (.slice A n c)∧Rd w' A n c (limbs N)∧Below w.heap.size w w'∧n≤p
theorem RetN.l {N p:Nat} {w:World} {e:Ending} {w':World} (hp:N<4294967296^p):RetN N w e w'→RetL N p w e w':=by
 rintro ⟨A,n,c,he,hR,hb⟩
 exact⟨A,n,c,he,hR,hb,by rw[←hR.len];exact len_of_lt hp⟩
set_option maxHeartbeats 1000000 in
theorem double_any (A:Option Addr) (n c x o:Nat) (oi:Int) (w:World) (h1:Rd w A n c (limbs x)) (hn:n≤2000) (ho:o<2) (hoi:oi=o) :
  Calls Tryz.prog 175 #[.slice A n c,.int .u32 oi] w (RetN (2*x+o) w):=by
 subst hoi
 have hx:=lt_of_len h1.len
 replace h1:=Lib.hid h1
 replace hx:=Lib.hid hx
 have ht:=fun W h=>times_any A n c x 2 0 0 2 W h (by omega) (by omega) (by omega) rfl rfl
 replace ht:=Lib.hid ht
 by_cases h0:o=0
 ·subst h0
  go_enter Tryz.func175,Tryz.ntmps175
  go_wp2_with fail
  refine (ht.out _ h1.out).mono ?_
  rintro e w1 ⟨A1,n1,c1,rfl,R1,b1⟩
  rw[Nat.pow_zero,Nat.mul_one,Nat.mul_comm] at R1
  replace R1:=Lib.hid R1
  replace b1:=Lib.hid b1
  go_wp2
  go_ret
  exact⟨_,_,_,rfl,R1.out,b1.out⟩
 ·obtain rfl:o=1:=by omega
  clear h0
  go_enter Tryz.func175,Tryz.ntmps175
  go_wp2_with fail
  refine (ht.out _ h1.out).mono ?_
  rintro e w1 ⟨A1,n1,c1,rfl,R1,b1⟩
  rw[Nat.pow_zero,Nat.mul_one,Nat.mul_comm] at R1
  have hn1:n1≤n+1:=by
   rw[←R1.len];apply len_of_lt;rw[Nat.pow_succ];have:=hx.out;omega
  replace R1:=Lib.hid R1
  replace b1:=Lib.hid b1
  go_wp2_with fail
  refine (radd_any _ _ _ _ _ _ _ _ _ (R1.out.alloc _) (lit1 w1 _ 1 1 rfl rfl (by omega)) (by omega) (by omega)).mono ?_
  rintro e w2 ⟨A2,n2,c2,rfl,R2,b2⟩
  rw[num_limbs,show num [1]=1 from rfl] at R2
  replace R2:=Lib.hid R2
  replace b2:Hid (Below w.heap.size w w2):=Lib.hid ((b1.out.alloc b1.out.size _).trans (b2.mono (by have:=b1.out.size;simp;omega)))
  go_wp2
  go_ret
  exact⟨_,_,_,rfl,R2.out,b2.out⟩
theorem and_one_u32 (m:Nat) (hm:m<4294967296):bits .and .u32 (m:Int) 1=((m%2:Nat):Int):=by
 have:=u32_and_nat m 1 hm (by omega)
 rw[Nat.and_one_is_mod] at this
 exact this
set_option maxHeartbeats 1000000 in
theorem bit_any (A:Option Addr) (n c x i b:Nat) (ii:Int) (w:World) (h1:Rd w A n c (limbs x)) (hn:n≤2000) (hi:i<32*n) (hii:ii=i) (hb:x / 2^i%2=b) :
  Calls Tryz.prog 176 #[.slice A n c,.int .i64 ii] w fun e w'=>e=.returned (.int .u32 (b:Nat))∧w=w':=by
 subst hii
 obtain⟨bb,o,x1,rfl,hbb,hx1,hxe,hc⟩:=h1.at_ (k:=i / 32) (by omega)
 have hbit:=bit_at (limbs x) i (sm_limbs x)
 rw[hxe,val_limbs,hb] at hbit
 have hle:x1 / 2^(i%32)≤x1:=Nat.div_le_self _ _
 obtain⟨m,hm⟩:∃ m,x1 / 2^(i%32)=m:=⟨_,rfl⟩
 rw[hm] at hbit hle
 have hmc:(x1:Int) / 2^(i%32)=(m:Int):=by rw[←hm];simp
 have hand:=and_one_u32 m (by omega)
 rw[hbit] at hand
 replace hbit:=Lib.hid hbit
 replace hm:=Lib.hid hm
 clear h1 hxe hb
 have g1:(0:Int)≤(i:Int):=by omega
 have g2:(i:Int) / 32<(n:Int):=by omega
 go_enter Tryz.func176,Tryz.ntmps176
 go_wp2
 go_ret
 exact⟨rfl,rfl⟩
theorem rsub_lt_b (A:Option Addr) (n c x:Nat) (A':Option Addr) (n' c' y:Nat) (w:World) (h1:Rd w A n c (limbs x)) (h2:Rd w A' n' c' (limbs y)) (hn:n≤2000) (hn':n'≤2000) (hlt:x<y) :
  Calls Tryz.prog 150 #[.slice A n c,.slice A' n' c'] w fun e w'=>e=.returned (.tuple #[.slice none 0 0,.bool false])∧Below w.heap.size w w':=
 rsub_lt A n c (limbs x) A' n' c' (limbs y) w h1 h2 (by omega) (by omega) (by rw[num_limbs,num_limbs];exact hlt)
theorem rsub_ge_b (A:Option Addr) (n c x:Nat) (A':Option Addr) (n' c' y:Nat) (w:World) (h1:Rd w A n c (limbs x)) (h2:Rd w A' n' c' (limbs y)) (hn:n≤2000) (hn':n'≤2000) (hge:y≤x) :
  Calls Tryz.prog 150 #[.slice A n c,.slice A' n' c'] w fun e w'=>∃ A n c,e=.returned (.tuple #[.slice A n c,.bool true])∧Rd w' A n c (limbs (x-y))∧Below w.heap.size w w':=by
 have:=rsub_ge A n c (limbs x) A' n' c' (limbs y) w h1 h2 (by omega) (by omega) (by rw[num_limbs,num_limbs];exact hge)
 rw[num_limbs,num_limbs] at this
 exact this
/-- The quotient so far has few limbs. -/
theorem quo_len {x y k p:Nat} (hx:x<4294967296^p):(limbs (x / 2^k / y)).length≤p:=
 len_of_lt (Nat.lt_of_le_of_lt (Nat.le_trans (Nat.div_le_self _ _) (Nat.div_le_self _ _)) hx)
set_option maxHeartbeats 4000000 in
theorem rdiv_any (A:Option Addr) (n c:Nat) (xs:List Nat) (A':Option Addr) (n' c':Nat) (ys:List Nat) (w:World)
  (h1:Rd w A n c xs) (h2:Rd w A' n' c' ys) (hn:n≤1000) (hn':n'≤1000) (hy:0<num ys) :
  Calls Tryz.prog 149 #[.slice A n c,.slice A' n' c'] w (RetDiv (num xs) (num ys) w):=by
 replace h1:=Lib.hid h1
 replace h2:=Lib.hid h2
 replace hy:=Lib.hid hy
 go_enter Tryz.func149,Tryz.ntmps149
 go_wp2_with fail
 refine (take_any _ _ _ xs _ h1.out (by omega)).mono ?_
 rintro e w1 ⟨A1,n1,c1,rfl,R1,b1,l1⟩
 replace h2:=Lib.hid (h2.out.below b1)
 replace R1:=Lib.hid R1
 replace b1:=Lib.hid b1
 go_wp2_with fail
 refine (take_any _ _ _ ys _ h2.out (by omega)).mono ?_
 rintro e w2 ⟨A2,n2,c2,rfl,R2,b2,l2⟩
 replace R1:=Lib.hid (R1.out.below b2)
 have hn2:1≤n2:=limbs_ne R2.len hy.out
 replace R2:=Lib.hid R2
 replace b1:=Lib.hid (b1.out.trans (b2.mono b1.out.size))
 clear b2 h1 h2
 obtain⟨x,hx⟩:∃ x,num xs=x:=⟨_,rfl⟩
 obtain⟨y,hyy⟩:∃ y,num ys=y:=⟨_,rfl⟩
 have R1':Hid (Rd w2 A1 n1 c1 (limbs x)):=by rw[←hx];exact R1
 have R2':Hid (Rd w2 A2 n2 c2 (limbs y)):=by rw[←hyy];exact R2
 have hy0:0<y:=by rw[←hyy];exact hy.out
 have hxl:=lt_of_len R1'.out.len
 have hyl:=lt_of_len R2'.out.len
 replace hx:=Lib.hid hx
 replace hyy:=Lib.hid hyy
 replace hxl:=Lib.hid hxl
 replace hyl:=Lib.hid hyl
 clear R1 R2 hy
 have hg0:((n2:Int)==0)=false:=by simp;omega
 go_wp2
 go_loopw [7,8,9] (fun qv rv iv wr=>∃ (i:Int) (k:Nat) (A3:Option Addr) (n3 c3:Nat) (A4:Option Addr) (n4 c4:Nat),k≤32*n1∧i+1=k∧iv=.int .i64 i∧qv=.slice A3 n3 c3∧rv=.slice A4 n4 c4 ∧
   Rd wr A3 n3 c3 (limbs (x / 2^k / y))∧Rd wr A4 n4 c4 (limbs (x / 2^k%y))∧Below w2.heap.size w2 wr)
  (fun _ _ iv _=>(intOf iv+1).toNat)
 case atStart=>
  have h0:x / 2^(32*n1)=0:=Nat.div_eq_of_lt (by rw[←pow_limb];exact hxl.out)
  exact⟨_,32*n1,none,0,0,none,0,0,Nat.le_refl _,by omega,rfl,rfl,rfl,by rw[h0,Nat.zero_div,limbs_zero];exact Rd.nil_ _ _ _,by rw[h0,Nat.zero_mod,limbs_zero];exact Rd.nil_ _ _ _,Below.refl _ _⟩
 case round=>
  obtain⟨i,k,A3,n3,c3,A4,n4,c4,hk,hik,rfl,rfl,rfl,R3,R4,hB⟩:=hrel
  have hn3:n3≤n1:=by rw[←R3.len];exact quo_len hxl.out
  have hn4:n4≤n2:=by rw[←R4.len];exact len_of_lt (Nat.lt_trans (Nat.mod_lt _ hy0) hyl.out)
  by_cases h0:k=0
  ·subst h0
   obtain rfl:i = -1:=by omega
   rw[Nat.pow_zero,Nat.div_one] at R3 R4
   rw[←hx.out,←hyy.out] at R3 R4
   replace R3:=Lib.hid R3
   replace R4:=Lib.hid R4
   replace hB:=Lib.hid (b1.out.trans (hB.mono b1.out.size))
   clear hik
   go_wp2
   go_ret3
   exact⟨_,_,_,_,_,_,rfl,R3.out,R4.out,hB.out⟩
  ·obtain⟨j,rfl⟩:∃ j,k=j+1:=⟨k-1,by omega⟩
   obtain rfl:i=j:=by omega
   clear hik h0
   obtain⟨b,hb⟩:∃ b,x / 2^j%2=b:=⟨_,rfl⟩
   have hb2:b<2:=by rw[←hb];exact Nat.mod_lt _ (by omega)
   have hhalf:=half_step (x:=x) (k:=j)
   rw[hb] at hhalf
   obtain⟨q,hq⟩:∃ q,x / 2^(j+1) / y=q:=⟨_,rfl⟩
   obtain⟨r,hr⟩:∃ r,x / 2^(j+1)%y=r:=⟨_,rfl⟩
   have hry:r<y:=by rw[←hr];exact Nat.mod_lt _ hy0
   have hstep:=bitdiv_step hry hq hr hb2
   rw[←hhalf] at hstep
   rw[hq] at R3
   rw[hr] at R4
   replace R3:=Lib.hid R3
   replace R4:=Lib.hid R4
   replace hB:=Lib.hid hB
   replace hb:=Lib.hid hb
   replace hstep:=Lib.hid hstep
   clear hhalf hq hr
   have g1:(0:Int)≤(j:Int):=by omega
   go_wp2_with fail
   refine (bit_any _ _ _ x j b _ _ (R1'.out.below hB.out) (by omega) (by omega) rfl hb.out).mono ?_
   rintro e w' ⟨rfl,rfl⟩
   go_wp2_with fail
   refine (double_any _ _ _ r b _ _ R4.out (by omega) hb2 rfl).mono ?_
   rintro e w4 ⟨A5,n5,c5,rfl,R5,b5⟩
   have hn5:n5≤n2+1:=by rw[←R5.len];apply len_of_lt;rw[Nat.pow_succ];have:=hyl.out;omega
   replace R3:=Lib.hid (R3.out.below b5)
   replace R5:=Lib.hid R5
   replace hB:=Lib.hid (hB.out.trans (b5.mono hB.out.size))
   have R2'':=Lib.hid (R2'.out.below hB.out)
   clear R4 b5
   by_cases hge:y≤2*r+b
   ·obtain⟨hs1,hs2⟩:=hstep.out.1 hge
    replace hs1:=Lib.hid hs1
    replace hs2:=Lib.hid hs2
    go_wp2_with fail
    refine (rsub_ge_b _ _ _ _ _ _ _ _ _ R5.out R2''.out (by omega) (by omega) hge).mono ?_
    rintro e w5 ⟨A6,n6,c6,rfl,R6,b6⟩
    replace R3:=Lib.hid (R3.out.below b6)
    replace R6:=Lib.hid R6
    replace hB:=Lib.hid (hB.out.trans (b6.mono hB.out.size))
    clear R5 b6 R2''
    go_wp2_with fail
    refine (double_any _ _ _ q 1 1 _ R3.out (by omega) (by omega) rfl).mono ?_
    rintro e w6 ⟨A7,n7,c7,rfl,R7,b7⟩
    replace R6:=Lib.hid (R6.out.below b7)
    replace R7:=Lib.hid R7
    replace hB:=Lib.hid (hB.out.trans (b7.mono hB.out.size))
    clear b7 R3
    go_wp2
    go_roundw
    case rel=>exact⟨_,j,_,_,_,_,_,_,by omega,by omega,rfl,rfl,rfl,by rw[hs1.out];exact R7.out,by rw[hs2.out];exact R6.out,hB.out⟩
    case measure=>simp[intOf]
   ·obtain⟨hs1,hs2⟩:=hstep.out.2 (by omega)
    replace hs1:=Lib.hid hs1
    replace hs2:=Lib.hid hs2
    go_wp2_with fail
    refine (rsub_lt_b _ _ _ _ _ _ _ _ _ R5.out R2''.out (by omega) (by omega) (by omega)).mono ?_
    rintro e w5 ⟨rfl,b6⟩
    replace R3:=Lib.hid (R3.out.below b6)
    replace R5:=Lib.hid (R5.out.below b6)
    replace hB:=Lib.hid (hB.out.trans (b6.mono hB.out.size))
    clear b6 R2''
    go_wp2_with fail
    refine (double_any _ _ _ q 0 0 _ R3.out (by omega) (by omega) rfl).mono ?_
    rintro e w6 ⟨A7,n7,c7,rfl,R7,b7⟩
    replace R5:=Lib.hid (R5.out.below b7)
    replace R7:=Lib.hid R7
    replace hB:=Lib.hid (hB.out.trans (b7.mono hB.out.size))
    clear b7 R3
    go_wp2
    go_roundw
    case rel=>exact⟨_,j,_,_,_,_,_,_,by omega,by omega,rfl,rfl,rfl,by rw[hs1.out];exact R7.out,by rw[hs2.out];exact R5.out,hB.out⟩
    case measure=>simp[intOf]
set_option maxHeartbeats 2000000 in
theorem rgcd_any (A:Option Addr) (n c:Nat) (xs:List Nat) (A':Option Addr) (n' c':Nat) (ys:List Nat) (w:World)
  (h1:Rd w A n c xs) (h2:Rd w A' n' c' ys) (hn:n≤1000) (hn':n'≤1000) :
  Calls Tryz.prog 147 #[.slice A n c,.slice A' n' c'] w (RetN (Nat.gcd (num xs) (num ys)) w):=by
 replace h1:=Lib.hid h1
 replace h2:=Lib.hid h2
 go_enter Tryz.func147,Tryz.ntmps147
 go_wp2_with fail
 refine (take_any _ _ _ xs _ h1.out (by omega)).mono ?_
 rintro e w1 ⟨A1,n1,c1,rfl,R1,b1,l1⟩
 replace h2:=Lib.hid (h2.out.below b1)
 replace R1:=Lib.hid R1
 replace b1:=Lib.hid b1
 go_wp2_with fail
 refine (take_any _ _ _ ys _ h2.out (by omega)).mono ?_
 rintro e w2 ⟨A2,n2,c2,rfl,R2,b2,l2⟩
 replace R1:=Lib.hid (R1.out.below b2)
 replace R2:=Lib.hid R2
 replace b1:=Lib.hid (b1.out.trans (b2.mono b1.out.size))
 clear b2 h1 h2
 go_wp2
 go_loopg [0,1] (num ys) (fun y av bv wr=>∃ (x:Nat) (A3:Option Addr) (n3 c3:Nat) (A4:Option Addr) (n4 c4:Nat),av=.slice A3 n3 c3∧bv=.slice A4 n4 c4∧n3≤1000∧n4≤1000 ∧
   Rd wr A3 n3 c3 (limbs x)∧Rd wr A4 n4 c4 (limbs y)∧Nat.gcd x y=Nat.gcd (num xs) (num ys)∧Below w2.heap.size w2 wr)
 case atStart=>exact⟨num xs,_,_,_,_,_,_,rfl,rfl,by omega,by omega,R1.out,R2.out,rfl,Below.refl _ _⟩
 case round=>
  obtain⟨x,A3,n3,c3,A4,n4,c4,rfl,rfl,l3,l4,R3,R4,hgcd,hB⟩:=hrel
  by_cases h0:n4=0
  ·subst h0
   have hy0:gk=0:=limbs_inj (by rw[limbs_zero];exact List.eq_nil_of_length_eq_zero R4.len)
   rw[hy0,Nat.gcd_zero_right] at hgcd
   rw[hgcd] at R3
   replace R3:=Lib.hid R3
   replace hB:=Lib.hid (b1.out.trans (hB.mono b1.out.size))
   clear R4 hgcd hy0
   go_wp2
   go_ret
   exact⟨_,_,_,rfl,R3.out,hB.out⟩
  ·have hy0:0<gk:=by
    rcases Nat.eq_zero_or_pos gk with h | h
    ·rw[h,limbs_zero] at R4;exact absurd R4.len.symm h0
    ·exact h
   have hpos:(0:Int)<(n4:Int):=by omega
   have hd:=fun W h h'=>rdiv_any A3 n3 c3 (limbs x) A4 n4 c4 (limbs gk) W h h' l3 l4 (by rw[num_limbs];exact hy0)
   simp only[num_limbs] at hd
   have hml:=Nat.mod_lt x hy0
   have hln:=len_le (Nat.le_of_lt hml)
   rw[R4.len] at hln
   replace hd:=Lib.hid hd
   replace R3:=Lib.hid R3
   replace R4:=Lib.hid R4
   replace hB:=Lib.hid hB
   replace hgcd:=Lib.hid hgcd
   replace hml:=Lib.hid hml
   replace hln:=Lib.hid hln
   clear h0
   go_wp2_with fail
   refine (hd.out _ R3.out R4.out).mono ?_
   rintro e w3 ⟨A5,n5,c5,A6,n6,c6,rfl,_,R6,b6⟩
   have l6:n6≤1000:=by rw[←R6.len];have:=hln.out;omega
   replace R4:=Lib.hid (R4.out.below b6)
   replace R6:=Lib.hid R6
   replace hB:=Lib.hid (hB.out.trans (b6.mono hB.out.size))
   clear b6 R3
   go_wp2
   go_roundg (x%gk)
   case measure=>exact hml.out
   case rel=>exact⟨gk,_,_,_,_,_,_,rfl,rfl,l4,l6,R4.out,R6.out,by rw[←hgcd.out,Nat.gcd_comm,←Nat.gcd_rec,Nat.gcd_comm],hB.out⟩
end Go.Proofs.YtdeedofmflelfaaGreatDoor
