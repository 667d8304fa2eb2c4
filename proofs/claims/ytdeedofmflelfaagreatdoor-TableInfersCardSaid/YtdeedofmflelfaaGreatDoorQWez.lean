/- Contracts of addProduct and of natural.Mul. Contracts of the reference's Same and Valid, and of the law's light and fair. The contract of divideByLimb. Contracts of FromUint, powerOfTwo and shiftRight. Contracts of natural.Div where the divisor is 0, greater than the dividend, or of one limb. -/
import Derived.Test.YtdeedofmflelfaaGreatDoorQWaz
import Derived.Test.YtdeedofmflelfaaGreatDoorSh
namespace Go.Proofs.YtdeedofmflelfaaGreatDoor
open Go.RowKit
/-- A window of the block was increased by x times ys. -/
def RetAddP (g o m x:Nat) (zs ys:List Nat) (w:World) (e:Ending) (w':World):Prop:=
 ∃ (cy:Nat) (zs':List Nat),e=.returned (.int .u32 cy)∧cy<4294967296∧Own w' g zs'∧zs'.length=zs.length∧zs'.take o=zs.take o∧zs'.drop (o+m)=zs.drop (o+m) ∧
  val zs'+4294967296^(o+m)*cy=val zs+4294967296^o*(x*val ys)∧w.grownBy w' (some g)
theorem grown_set {a w:World} {g:Nat} (h:a.grownBy w (some g)) (i:Nat) (u:Value):a.grownBy (w.setCell ⟨g,i,none⟩ u) (some g):=
 ⟨h.os,h.tape,h.output,by simpa [World.setCell] using h.size,fun j hj hne=>(Below.heap_setCell w ⟨g,i,none⟩ u j (by rintro rfl;exact hne rfl)).trans (h.block j hj hne)⟩
set_option maxHeartbeats 1000000 in
theorem addProduct_any (g o m cs:Nat) (zs:List Nat) (A:Option Addr) (cb:Nat) (ys:List Nat) (x:Nat) (w:World)
  (hO:Own w g zs) (hom:o+m≤zs.length) (hR:RdX w g A m cb ys) (hx:x<4294967296) (hm:m≤100000) :
  Calls Tryz.prog 230 #[.slice (some ⟨g,o,none⟩) m cs,.slice A m cb,.int .u32 x] w (RetAddP g o m x zs ys w):=by
 replace hO:=Lib.hid hO
 replace hR:=Lib.hid hR
 replace hom:=Lib.hid hom
 go_enter Tryz.func230,Tryz.ntmps230
 go_wp2
 go_loopw [7,12] (fun cv iv wr=>∃ (k cy:Nat) (zs':List Nat),k≤m∧iv=.int .i64 k∧cv=.int .u64 cy∧cy<4294967296∧Own wr g zs'∧zs'.length=zs.length∧zs'.take o=zs.take o∧zs'.drop (o+k)=zs.drop (o+k) ∧
  val zs'+4294967296^(o+k)*cy=val zs+4294967296^o*(x*val (ys.take k))∧w.grownBy wr (some g))
  (fun _ iv _=>m-(intOf iv).toNat)
 case atStart=>exact⟨0,0,zs,Nat.zero_le _,rfl,rfl,by omega,hO.out,rfl,rfl,rfl,by simp[val],World.grownBy.refl _ _⟩
 case round=>
  obtain⟨k,cy,zs',hk,rfl,rfl,hcy,hO',hl,ht,hd,hv,hg⟩:=hrel
  replace hO':=Lib.hid hO'
  replace hl:=Lib.hid hl
  replace ht:=Lib.hid ht
  replace hd:=Lib.hid hd
  replace hv:=Lib.hid hv
  replace hg:=Lib.hid hg
  by_cases hlt:k<m
  ·have hkl:o+k<zs'.length:=by rw[hl.out];have:=hom.out;omega
   obtain⟨b2,o2,y1,rfl,hb2,hy1,hye,hcy2⟩:=(hR.out.grown hg.out).at_ hlt
   replace hye:=Lib.hid hye
   have hcell:=hO'.out.cell hkl
   obtain⟨s,hs⟩:∃ s,zs'.getD (o+k) 0=s:=⟨_,rfl⟩
   have hs1:s<4294967296:=by rw[←hs];exact sm_get hO'.out.sm _
   rw[hs] at hcell
   replace hs:=Lib.hid hs
   have hfz:=hO'.out.frozen (o+k)
   have hkl:=Lib.hid hkl
   have hp:(x:Int)*(y1:Int)≤18446744065119617025:=by have:=mul_bd hx hy1;have e:((x*y1:Nat):Int)=(x:Int)*y1:=Int.natCast_mul x y1;omega
   have hp0:0≤(x:Int)*(y1:Int):=by have e:((x*y1:Nat):Int)=(x:Int)*y1:=Int.natCast_mul x y1;omega
   obtain⟨t,ht'⟩:∃ t,t=cy+(x*y1+s):=⟨_,rfl⟩
   have htc:((t:Nat):Int)=(cy:Int)+((x:Int)*y1+s):=by rw[ht'];simp
   replace ht':=Lib.hid ht'
   replace htc:=Lib.hid htc
   have htb:t / 4294967296<4294967296:=by have:=ht'.out;have:=mul_bd hx hy1;omega
   replace htb:=Lib.hid htb
   go_wp2
   go_roundw
   case rel=>
    rw[←htc.out]
    have O2:=hO'.out.set_ (o+k) (t%4294967296) (by omega)
    rw[show ((t%4294967296:Nat):Int)=(t:Int)%4294967296 by omega] at O2
    exact⟨k+1,t / 4294967296,_,by omega,by go_num,by go_num,htb.out,O2,by rw[List.length_set];exact hl.out,by rw[take_set_low _ _ (by omega)];exact ht.out,by rw[show o+(k+1)=o+k+1 by omega,drop_set_succ];exact drop_step' hd.out,mul_step hkl.out hv.out hs.out hye.out ht'.out,grown_set hg.out _ _⟩
   case measure=>simp[intOf];omega
  ·obtain rfl:k=m:=by omega
   go_wp2
   go_ret
   have e:ys.take k=ys:=List.take_of_length_le (by rw[hR.out.len];omega)
   refine⟨cy,zs',rfl,hcy,hO'.out,hl.out,ht.out,hd.out,?_,hg.out⟩
   have:=hv.out
   rw[e] at this
   exact this
set_option maxHeartbeats 1000000 in
theorem mul_any (A:Option Addr) (n c:Nat) (xs:List Nat) (A':Option Addr) (n' c':Nat) (ys:List Nat) (w:World)
  (h1:Rd w A n c xs) (h2:Rd w A' n' c' ys) (hn:n≤10000) (hn':n'≤10000) :
  Calls Tryz.prog 216 #[.slice A n c,.slice A' n' c'] w (RetN (num xs*num ys) w):=by
 replace h1:=Lib.hid h1
 replace h2:=Lib.hid h2
 go_enter Tryz.func216,Tryz.ntmps216
 go_wp2_with fail
 refine (known_any _ _ _ xs _ h1.out (by omega)).mono ?_
 rintro e w' ⟨B1,n1,c1,rfl,rfl,R1,l1⟩
 replace R1:=Lib.hid R1
 go_wp2_with fail
 refine (known_any _ _ _ ys _ h2.out (by omega)).mono ?_
 rintro e w' ⟨B2,n2,c2,rfl,rfl,R2,l2⟩
 replace R2:=Lib.hid R2
 have hmk:∀ W:World,(Instr.makeSlice 42 (.int .i64 ((n1:Int)+n2)) (.int .i64 ((n1:Int)+n2))).run Tryz.prog W=.ok (.slice (some ⟨W.heap.size,0,none⟩) (n1+n2) (n1+n2)) (W.alloc (.cells (madeCells #[.int .u32 0] (n1+n2)) 119)):=fun W=>by
  have:=make_u32 (n1+n2) (by omega) .i64 .i64 W
  rw[Int.natCast_add] at this
  exact this
 go_wp2
 go_loopw [20] (fun iv wr=>∃ (k:Nat) (zs:List Nat),k≤n1∧iv=.int .i64 k∧zs.length=n1+n2∧Own wr w.heap.size zs∧Below w.heap.size w wr∧val zs=val ((limbs (num xs)).take k)*num ys∧zs.drop (k+n2)=List.replicate (n1-k) 0)
  (fun iv _=>n1-(intOf iv).toNat)
 case atStart=>exact⟨0,List.replicate (n1+n2) 0,Nat.zero_le _,rfl,by simp,Own.new _ _,(Below.refl _ _).alloc (Nat.le_refl _) _,by simp[val,val_zeros],by simp⟩
 case round=>
  clear hmk
  obtain⟨k,zs,hk,rfl,hl,hO,hB,hv,hd⟩:=hrel
  replace hl:=Lib.hid hl
  replace hO:=Lib.hid hO
  replace hB:=Lib.hid hB
  replace hv:=Lib.hid hv
  replace hd:=Lib.hid hd
  by_cases hlt:k<n1
  ·obtain⟨b1,o1,x1,rfl,hb1,hx1,hxe,hcx⟩:=(R1.out.base hB.out).at_ hlt
   replace hxe:=Lib.hid hxe
   go_wp2_with fail
   rw[show k+n2-k=n2 by omega]
   refine (addProduct_any w.heap.size k n2 _ zs B2 c2 (limbs (num ys)) x1 _ hO.out (by rw[hl.out];omega) ((R2.out.base hB.out).x (Nat.le_refl _)) hx1 (by omega)).mono ?_
   rintro e w' ⟨cy,zs',rfl,hcy,O',hl',ht',hd',hv',hg'⟩
   have hkl:k+n2<zs'.length:=by rw[hl',hl.out];omega
   have hz0:zs'.getD (k+n2) 0=0:=getD_drop_zero (hd'.trans hd.out)
   have hcell:=O'.cell hkl
   rw[hz0] at hcell
   have hfz:=O'.frozen (k+n2)
   have O2:=O'.set_ (k+n2) cy hcy
   have hb':=Below.grown hB.out hg' (by have:=hO.out.lt;omega) (by intro k hk;injection hk;omega)
   have hlen:(zs'.set (k+n2) cy).length=n1+n2:=by rw[List.length_set,hl',hl.out]
   have hval:val (zs'.set (k+n2) cy)=val ((limbs (num xs)).take (k+1))*num ys:=by
    have e1:=val_set zs' (k+n2) cy hkl
    rw[hz0,Nat.mul_zero,Nat.add_zero,hv',hv.out,val_limbs] at e1
    rw[e1,val_take_succ_any,hxe.out,Nat.add_mul,Nat.mul_assoc]
   have hdr:(zs'.set (k+n2) cy).drop (k+1+n2)=List.replicate (n1-(k+1)) 0:=by
    rw[show k+1+n2=k+n2+1 by omega,drop_set_succ]
    have:=congrArg (List.drop 1) (hd'.trans hd.out)
    rw[List.drop_drop] at this
    rw[this]
    simp
    omega
   replace O2:=Lib.hid O2
   replace hb':=Lib.hid hb'
   replace hlen:=Lib.hid hlen
   replace hval:=Lib.hid hval
   replace hdr:=Lib.hid hdr
   clear O' hl' ht' hd' hv' hg' hkl hz0
   go_wp2
   go_roundw
   case rel=>exact⟨k+1,_,by omega,by go_num,hlen.out,O2.out,hb'.out.setCell (Nat.le_refl _) _,hval.out,hdr.out⟩
   case measure=>simp[intOf];omega
  ·obtain rfl:k=n1:=by omega
   go_wp2_with fail
   refine (trim_any _ _ _ zs _ (hO.out.rdn hl.out (Nat.le_refl _)) (by omega)).mono ?_
   rintro e w' ⟨n',rfl,rfl,R⟩
   replace R:=Lib.hid R
   go_wp2
   go_ret
   exact⟨_,_,_,rfl,by have:=R.out;rw[hv.out,val_take_all (by rw[R1.out.len];omega),val_limbs] at this;exact this,hB.out⟩
end Go.Proofs.YtdeedofmflelfaaGreatDoor

namespace Go.Proofs.YtdeedofmflelfaaGreatDoor
open Go.RowKit
set_option maxHeartbeats 400000 in
theorem rvalid_any (A:Option Addr) (n c:Nat) (xs:List Nat) (w:World) (h:Rd w A n c xs) (hn:n≤100000) :
  Calls Tryz.prog 146 #[.slice A n c] w fun e w'=>e=.returned (.bool (vldB xs))∧w'=w:=by
 by_cases h0:n=0
 ·have H:Hid (vldB xs=true):=by have:=h.len;show vldB xs=true;rw[List.eq_nil_of_length_eq_zero (by omega:xs.length=0)];rfl
  subst h0
  clear h
  go_enter Tryz.func146,Tryz.ntmps146
  go_wp2
  go_ret
  rw[H.out];exact⟨rfl,rfl⟩
 ·obtain⟨m,rfl⟩:∃ m,n=m+1:=⟨n-1,by omega⟩
  obtain⟨b,o,x,rfl,hb,hx,hxs,hc⟩:=h.at_ (k:=m) (by omega)
  have H:Hid (vldB xs = !((x:Int)==0)):=vldB_last h.len hxs
  clear hxs h h0
  have hg:((m:Int)+1==0)=false:=by simp;omega
  have hm:(0:Int)≤m:=by omega
  go_enter Tryz.func146,Tryz.ntmps146
  go_wp2
  go_ret
  rw[H.out];exact⟨rfl,rfl⟩
end Go.Proofs.YtdeedofmflelfaaGreatDoor

namespace Go.Proofs.YtdeedofmflelfaaGreatDoor
open Go.RowKit
/-- A row was divided in place. -/
def RetDivL (g n b:Nat) (zs:List Nat) (w:World) (e:Ending) (w':World):Prop:=
 ∃ (r:Nat) (zs':List Nat),e=.returned (.int .u32 r)∧r<b∧Own w' g zs'∧zs'.length=n∧val zs'*b+r=val zs∧w.grownBy w' (some g)
set_option maxHeartbeats 1000000 in
theorem divL_any (g n cs b:Nat) (zs:List Nat) (w:World) (hO:Own w g zs) (hl:zs.length=n) (hb:b<4294967296) (hb0:0<b) (hn:n≤100000) :
  Calls Tryz.prog 226 #[.slice (some ⟨g,0,none⟩) n cs,.int .u32 b] w (RetDivL g n b zs w):=by
 replace hO:=Lib.hid hO
 replace hl:=Lib.hid hl
 go_enter Tryz.func226,Tryz.ntmps226
 go_wp2
 go_loopw [5,6] (fun rv iv wr=>∃ (i:Int) (k rest:Nat) (zs':List Nat),k≤n∧i+1=k∧iv=.int .i64 i∧rv=.int .u64 rest∧rest<b∧Own wr g zs'∧zs'.length=n∧zs'.take k=zs.take k∧val (zs'.drop k)*b+rest=val (zs.drop k)∧w.grownBy wr (some g))
  (fun _ iv _=>(intOf iv+1).toNat)
 case atStart=>exact⟨_,n,0,zs,Nat.le_refl _,by omega,rfl,rfl,hb0,hO.out,hl.out,rfl,by rw[List.drop_of_length_le (by rw[hl.out];omega)];simp[val],World.grownBy.refl _ _⟩
 case round=>
  obtain⟨i,k,rest,zs',hk,hik,rfl,rfl,hr,hO',hl',ht,hv,hg⟩:=hrel
  replace hO':=Lib.hid hO'
  replace hl':=Lib.hid hl'
  replace ht:=Lib.hid ht
  replace hv:=Lib.hid hv
  replace hg:=Lib.hid hg
  by_cases h0:k=0
  ·subst h0
   obtain rfl:i = -1:=by omega
   clear hik
   go_wp2
   go_ret
   exact⟨rest,zs',rfl,hr,hO'.out,hl'.out,by have:=hv.out;simpa using this,hg.out⟩
  ·obtain⟨j,rfl⟩:∃ j,k=j+1:=⟨k-1,by omega⟩
   obtain rfl:i=j:=by omega
   clear hik h0
   obtain⟨hx,ht1⟩:=take_step ht.out
   have hcell:=hO'.out.cell (k:=j) (by rw[hl'.out];omega)
   obtain⟨x,hxe⟩:∃ x,zs'.getD j 0=x:=⟨_,rfl⟩
   have hxb:x<4294967296:=by rw[←hxe];exact sm_get hO'.out.sm _
   rw[hxe] at hcell
   have hx':=Lib.hid (hx.symm.trans hxe)
   clear hx hxe
   replace ht1:=Lib.hid ht1
   have hfz:=hO'.out.frozen j
   have g1:(0:Int)≤(j:Int):=by omega
   have g2:(j:Int)<(n:Int):=by omega
   have hor:=or_limb rest x (by omega) hxb
   obtain⟨t,ht'⟩:∃ t,t=rest*4294967296+x:=⟨_,rfl⟩
   rw[←ht'] at hor
   have htb:(t:Int)≤18446744073709551615:=by omega
   have ht0:(0:Int)≤(t:Int):=by omega
   have hb1:(1:Int)≤(b:Int):=by omega
   have hq:=quo_bd hr hxb ht'
   have hqi:(t:Int) / (b:Int)<4294967296:=by rw[←Int.natCast_ediv];exact Int.ofNat_lt.2 hq
   have hqi0:0≤(t:Int) / (b:Int):=by rw[←Int.natCast_ediv];exact Int.natCast_nonneg _
   have hri:(t:Int)%(b:Int)<4294967296:=by rw[←Int.natCast_emod];exact Int.ofNat_lt.2 (Nat.lt_trans (Nat.mod_lt t hb0) hb)
   replace hq:=Lib.hid hq
   replace ht':=Lib.hid ht'
   go_wp2
   go_roundw
   case rel=>
    have O2:=hO'.out.set_ j (t / b) hq.out
    rw[Int.natCast_ediv] at O2
    exact⟨_,j,t%b,_,by omega,by omega,rfl,by rw[Int.natCast_emod],Nat.mod_lt t hb0,O2,by rw[List.length_set];exact hl'.out,by rw[take_set_low _ _ (Nat.le_refl _)];exact ht1.out,div_step (by rw[hl'.out];omega) (by rw[hl.out];omega) hv.out hx'.out ht'.out,grown_set hg.out _ _⟩
   case measure=>simp[intOf]
end Go.Proofs.YtdeedofmflelfaaGreatDoor

namespace Go.Proofs.YtdeedofmflelfaaGreatDoor
open Go.RowKit
theorem bitLen_zero:Lib.bitLen 0=0:=by decide +kernel
theorem bitLen_spec (x:Nat) (h:x<18446744073709551616):x<2^Lib.bitLen x∧(0<x→2^Lib.bitLen x≤2*x):=by
 induction x using Nat.strongRecOn with
 | ind x ih=>
  by_cases h0:x=0
  ·subst h0;rw[bitLen_zero];simp
  ·have e:=Lib.bitLen_half x h0 (by omega)
   obtain⟨i1,i2⟩:=ih (x / 2) (by omega) (by omega)
   rw[e,Nat.add_comm,Nat.pow_succ]
   refine⟨by omega,fun _=>?_⟩
   by_cases h1:x / 2=0
   ·rw[h1,bitLen_zero];omega
   ·have:=i2 (by omega);omega
set_option maxHeartbeats 1000000 in
theorem fromUint_any (v:Nat) (w:World) (hv:v<18446744073709551616) :
  Calls Tryz.prog 132 #[.int .u64 v] w (RetN v w):=by
 have O:=Own.lit w [v%4294967296,v / 4294967296] (by intro x hx;simp at hx;omega)
 have hval:val [v%4294967296,v / 4294967296]=v:=by simp[val];omega
 have h1:(v:Int) / 4294967296<4294967296:=by omega
 have h0:(0:Int)≤v:=by omega
 replace hval:=Lib.hid hval
 replace hv:=Lib.hid hv
 replace O:=Lib.hid O
 go_enter Tryz.func132,Tryz.ntmps132
 go_wp2_with fail
 have R:=O.out.rd0 2 (by simp)
 simp only[List.map,u32,Int.natCast_emod,Int.natCast_ediv,List.length] at R
 refine (trim_any _ _ _ _ _ R (by omega)).mono ?_
 rintro e w' ⟨n',rfl,rfl,R2⟩
 replace R2:=Lib.hid R2
 go_wp2
 go_ret
 exact⟨_,_,_,rfl,by have:=R2.out;rw[hval.out] at this;exact this,(Below.refl _ _).alloc (Nat.le_refl _) _⟩
set_option maxHeartbeats 1000000 in
theorem shiftRight_any (g n cs s:Nat) (zs:List Nat) (w:World) (hO:Own w g zs) (hl:zs.length=n) (hs:s<32) (hn:n≤100000) :
  Calls Tryz.prog 241 #[.slice (some ⟨g,0,none⟩) n cs,.int .i64 s] w fun e w'=>e=.returned (.tuple #[])∧∃ zs',Own w' g zs'∧zs'.length=n∧val zs'=val zs / 2^s∧w.grownBy w' (some g):=by
 replace hO:=Lib.hid hO
 replace hl:=Lib.hid hl
 go_enter Tryz.func241,Tryz.ntmps241
 go_wp2
 go_loopw [4,5] (fun lv iv wr=>∃ (i:Int) (k low:Nat) (zs':List Nat),k≤n∧i+1=k∧iv=.int .i64 i∧lv=.int .u32 low∧low=zs.getD k 0∧Own wr g zs'∧zs'.length=n∧zs'.take k=zs.take k∧val (zs'.drop k)=val (zs.drop k) / 2^s∧w.grownBy wr (some g))
  (fun _ iv _=>(intOf iv+1).toNat)
 case atStart=>exact⟨_,n,0,zs,Nat.le_refl _,by omega,rfl,rfl,by rw[getD_none (by rw[hl.out];omega)],hO.out,hl.out,rfl,by rw[List.drop_of_length_le (by rw[hl.out];omega)];simp[val],World.grownBy.refl _ _⟩
 case round=>
  obtain⟨i,k,low,zs',hk,hik,rfl,rfl,hlow,hO',hl',ht,hv,hg⟩:=hrel
  replace hO':=Lib.hid hO'
  replace hl':=Lib.hid hl'
  replace ht:=Lib.hid ht
  replace hv:=Lib.hid hv
  replace hg:=Lib.hid hg
  have hlb:low<4294967296:=by rw[hlow];exact sm_get hO.out.sm _
  replace hlow:=Lib.hid hlow
  by_cases h0:k=0
  ·subst h0
   obtain rfl:i = -1:=by omega
   clear hik
   go_wp2
   go_end0
   exact⟨rfl,zs',hO'.out,hl'.out,by have:=hv.out;simpa using this,hg.out⟩
  ·obtain⟨j,rfl⟩:∃ j,k=j+1:=⟨k-1,by omega⟩
   obtain rfl:i=j:=by omega
   clear hik h0
   obtain⟨hx,ht1⟩:=take_step ht.out
   have hcell:=hO'.out.cell (k:=j) (by rw[hl'.out];omega)
   obtain⟨x,hxe⟩:∃ x,zs'.getD j 0=x:=⟨_,rfl⟩
   have hxb:x<4294967296:=by rw[←hxe];exact sm_get hO'.out.sm _
   rw[hxe] at hcell
   have hx':=Lib.hid (hx.symm.trans hxe)
   clear hx hxe
   replace ht1:=Lib.hid ht1
   have hfz:=hO'.out.frozen j
   have g1:(0:Int)≤(j:Int):=by omega
   have g2:(j:Int)<(n:Int):=by omega
   have hor:=or_limb low x hlb hxb
   obtain⟨t,ht'⟩:∃ t,t=low*4294967296+x:=⟨_,rfl⟩
   rw[←ht'] at hor
   have htb:(t:Int)≤18446744073709551615:=by omega
   have ht0:(0:Int)≤(t:Int):=by omega
   replace ht':=Lib.hid ht'
   go_wp2
   go_roundw
   case rel=>
    have O2:=hO'.out.set_ j (t / 2^s%4294967296) (by omega)
    have e:((t / 2^s%4294967296:Nat):Int)=(t:Int) / 2^s%4294967296:=by simp
    rw[e] at O2
    exact⟨_,j,x,_,by omega,by omega,rfl,rfl,hx'.out.symm,O2,by rw[List.length_set];exact hl'.out,by rw[take_set_low _ _ (Nat.le_refl _)];exact ht1.out,shr_step (by rw[hl'.out];omega) (by rw[hl.out];omega) hs hO.out.sm hv.out hlow.out hx'.out ht'.out,grown_set hg.out _ _⟩
   case measure=>simp[intOf]
end Go.Proofs.YtdeedofmflelfaaGreatDoor

namespace Go.Proofs.YtdeedofmflelfaaGreatDoor
open Go.RowKit
/-- What a division leaves. -/
def RetDiv (x y:Nat) (w:World) (e:Ending) (w':World):Prop:=
 ∃ A n c A' n' c',e=.returned (.tuple #[.slice A n c,.slice A' n' c',.bool true])∧Rd w' A n c (limbs (x / y))∧Rd w' A' n' c' (limbs (x%y))∧Below w.heap.size w w'
theorem limbs_ne {y n:Nat} (h:(limbs y).length=n) (hy:0<y):1≤n:=by
 rw[limbs_pos hy] at h;simp at h;omega
set_option maxHeartbeats 1000000 in
theorem div_less (A:Option Addr) (n c:Nat) (xs:List Nat) (A':Option Addr) (n' c':Nat) (ys:List Nat) (w:World)
  (h1:Rd w A n c xs) (h2:Rd w A' n' c' ys) (hn:n≤10000) (hn':n'≤10000) (hlt:num xs<num ys) :
  Calls Tryz.prog 208 #[.slice A n c,.slice A' n' c'] w (RetDiv (num xs) (num ys) w):=by
 replace h1:=Lib.hid h1
 replace h2:=Lib.hid h2
 replace hlt:=Lib.hid hlt
 go_enter Tryz.func208,Tryz.ntmps208
 go_wp2_with fail
 refine (known_any _ _ _ xs _ h1.out (by omega)).mono ?_
 rintro e w' ⟨B1,n1,c1,rfl,rfl,R1,l1⟩
 replace R1:=Lib.hid R1
 go_wp2_with fail
 refine (known_any _ _ _ ys _ h2.out (by omega)).mono ?_
 rintro e w' ⟨B2,n2,c2,rfl,rfl,R2,l2⟩
 replace R2:=Lib.hid R2
 clear h1 h2
 have hn2:1≤n2:=limbs_ne R2.out.len (by have:=hlt.out;omega)
 have hg:((n2:Int)==0)=false:=by simp;omega
 go_wp2_with fail
 have hc:=compare_any _ _ _ _ _ _ _ _ _ R1.out R2.out (by omega) (by omega)
 rw[num_limbs,num_limbs,cmpi_lt (by have:=hlt.out;omega)] at hc
 refine hc.mono ?_
 clear hc
 rintro e w' ⟨rfl,m,rfl⟩
 go_wp2_with fail
 refine (clone_any _ _ _ _ _ (R1.out.drewN m) (by omega)).mono ?_
 rintro e w' ⟨B3,c3,rfl,R3,O3,b3⟩
 replace R3:=Lib.hid R3
 replace b3:Hid (Below w.heap.size w w'):=Lib.hid ((drewN_below w m).trans b3)
 clear O3
 go_wp2
 go_ret3
 exact⟨_,_,_,_,_,_,rfl,by rw[Nat.div_eq_of_lt hlt.out,limbs_zero];exact Rd.nil_ _ _ _,by rw[Nat.mod_eq_of_lt hlt.out];exact R3.out,b3.out⟩
theorem limbs_one {y:Nat} (h:(limbs y).length=1):y<4294967296∧(limbs y).getD 0 0=y:=by
 have h1:=limbs_len_le.1 (show (limbs y).length≤1 by omega)
 rw[Nat.pow_one] at h1
 refine⟨h1,?_⟩
 rcases Nat.eq_zero_or_pos y with h0 | h0
 ·subst h0;rw[limbs_zero];rfl
 ·rw[limbs_pos h0];show y%4294967296=y;omega
theorem divmod_of {x y q r:Nat} (h:q*y+r=x) (hr:r<y):x / y=q∧x%y=r:=by
 constructor
 ·rw[←h,Nat.mul_comm,Nat.mul_add_div (by omega),Nat.div_eq_of_lt hr,Nat.add_zero]
 ·rw[←h,Nat.mul_comm,Nat.mul_add_mod,Nat.mod_eq_of_lt hr]
set_option maxHeartbeats 1000000 in
theorem div_one (A:Option Addr) (n c:Nat) (xs:List Nat) (A':Option Addr) (n' c':Nat) (ys:List Nat) (w:World)
  (h1:Rd w A n c xs) (h2:Rd w A' n' c' ys) (hn:n≤10000) (hn':n'≤10000) (hge:num ys≤num xs) (hlen:(limbs (num ys)).length=1) :
  Calls Tryz.prog 208 #[.slice A n c,.slice A' n' c'] w (RetDiv (num xs) (num ys) w):=by
 have hy0:0<num ys:=by
  rcases Nat.eq_zero_or_pos (num ys) with h | h
  ·rw[h,limbs_zero] at hlen;cases hlen
  ·exact h
 replace h1:=Lib.hid h1
 replace h2:=Lib.hid h2
 replace hge:=Lib.hid hge
 replace hlen:=Lib.hid hlen
 replace hy0:=Lib.hid hy0
 go_enter Tryz.func208,Tryz.ntmps208
 go_wp2_with fail
 refine (known_any _ _ _ xs _ h1.out (by omega)).mono ?_
 rintro e w' ⟨B1,n1,c1,rfl,rfl,R1,l1⟩
 replace R1:=Lib.hid R1
 go_wp2_with fail
 refine (known_any _ _ _ ys _ h2.out (by omega)).mono ?_
 rintro e w' ⟨B2,n2,c2,rfl,rfl,R2,l2⟩
 obtain rfl:n2=1:=by rw[←R2.len,hlen.out]
 obtain⟨bb,ob,yb,rfl,hbb,hyb,hye,hcy⟩:=R2.at_ (k:=0) (by omega)
 have hyy:yb=num ys:=hye.symm.trans (limbs_one hlen.out).2
 replace hyy:=Lib.hid hyy
 clear hye
 replace R2:=Lib.hid R2
 clear h1 h2
 go_wp2_with fail
 have hc:=compare_any _ _ _ _ _ _ _ _ _ R1.out R2.out (by omega) (by omega)
 rw[num_limbs,num_limbs] at hc
 obtain⟨q,hq,hq0⟩:∃ q,cmpi (num xs) (num ys)=q∧0≤q:=⟨_,rfl,by unfold cmpi;have:=hge.out;split;omega;split<;>omega⟩
 rw[hq] at hc
 clear hq
 have hq1:decide (q<0)=false:=by simp;omega
 refine hc.mono ?_
 clear hc
 rintro e w' ⟨rfl,m,rfl⟩
 go_wp2_with fail
 refine (clone_any _ _ _ _ _ (R1.out.drewN m) (by omega)).mono ?_
 rintro e w' ⟨B3,c3,rfl,R3,O3,b3⟩
 have hn1:1≤n1:=limbs_ne R1.out.len (by have:=hge.out;have:=hy0.out;omega)
 obtain⟨g,rfl,hg,O⟩:∃ g,B3=some ⟨g,0,none⟩∧w.heap.size≤g∧Own w' g (limbs (num xs)):=by
  rcases O3 with h | h
  ·omega
  ·exact h
 clear O3
 have hcap:=Lib.hid R3.cap
 clear R3
 replace b3:Hid (Below w.heap.size w w'):=Lib.hid ((drewN_below w m).trans b3)
 replace hcy:w'.cell? ⟨bb,ob,none⟩=some (.int .u32 (yb:Int)):=(b3.out.cell (p:=⟨bb,ob,none⟩) hbb).trans hcy
 replace O:=Lib.hid O
 go_wp2_with fail
 refine (divL_any g n1 _ yb _ _ O.out R1.out.len hyb (by rw[hyy.out];exact hy0.out) (by omega)).mono ?_
 rintro e w2 ⟨r,zs',rfl,hr,O',hl',hv,hg'⟩
 have b4:Hid (Below w.heap.size w w2):=Lib.hid (Below.grown b3.out hg' (by have:=O.out.lt;omega) (by intro k hk;injection hk;omega))
 clear hg' hcy
 obtain⟨hd1,hd2⟩:=divmod_of (hv.trans (val_limbs _)) hr
 rw[hyy.out] at hd1 hd2
 replace hd1:=Lib.hid hd1
 replace hd2:=Lib.hid hd2
 replace O':=Lib.hid O'
 replace hl':=Lib.hid hl'
 clear hv
 go_wp2_with fail
 refine (trim_any _ _ _ zs' _ (O'.out.rdn hl'.out hcap.out) (by omega)).mono ?_
 rintro e w3 ⟨n4,rfl,rfl,R4⟩
 replace R4:=Lib.hid R4
 go_wp2_with fail
 refine (fromUint_any r _ (by omega)).mono ?_
 rintro e w4 ⟨A5,n5,c5,rfl,R5,b5⟩
 replace R4:=Lib.hid (R4.out.below b5)
 replace R5:=Lib.hid R5
 replace b5:=Lib.hid b5
 go_wp2
 go_ret3
 exact⟨_,_,_,_,_,_,rfl,by rw[hd1.out];exact R4.out,by rw[hd2.out];exact R5.out,b4.out.trans (b5.out.mono b4.out.size)⟩
end Go.Proofs.YtdeedofmflelfaaGreatDoor
