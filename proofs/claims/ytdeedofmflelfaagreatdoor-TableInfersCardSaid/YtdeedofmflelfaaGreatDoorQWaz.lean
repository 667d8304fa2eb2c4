/- Contracts of natural.Valid, known and trim. The contract of natural.Compare. Contracts of slices.Clone at limbs and of natural.Sub. The contract of natural.Add. -/
import Derived.Test.YtdeedofmflelfaaGreatDoorQNtz
namespace Go.Proofs.YtdeedofmflelfaaGreatDoor
open Go.RowKit
theorem vldB_last {xs:List Nat} {m x:Nat} (hl:xs.length=m+1) (hx:xs.getD m 0=x):vldB xs = !((x:Int)==0):=by
 unfold vldB;rw[hl,show m+1-1=m from rfl,hx]
 have:((m+1:Nat)==0)=false:=rfl
 rw[this,Bool.false_or]
 congr 1
 rw[Bool.eq_iff_iff];simp
set_option maxHeartbeats 400000 in
theorem valid_any (A:Option Addr) (n c:Nat) (xs:List Nat) (w:World) (h:Rd w A n c xs) (hn:n≤100000) :
  Calls Tryz.prog 178 #[.slice A n c] w fun e w'=>e=.returned (.bool (vldB xs))∧w=w':=by
 by_cases h0:n=0
 ·have H:Hid (vldB xs=true):=by have:=h.len;show vldB xs=true;rw[List.eq_nil_of_length_eq_zero (by omega:xs.length=0)];rfl
  subst h0
  clear h
  go_enter Tryz.func178,Tryz.ntmps178
  go_wp2
  go_ret
  rw[H.out];exact⟨rfl,rfl⟩
 ·obtain⟨m,rfl⟩:∃ m,n=m+1:=⟨n-1,by omega⟩
  obtain⟨b,o,x,rfl,hb,hx,hxs,hc⟩:=h.at_ (k:=m) (by omega)
  have H:Hid (vldB xs = !((x:Int)==0)):=vldB_last h.len hxs
  clear hxs h h0
  have hg:((m:Int)+1==0)=false:=by simp;omega
  have hm:(0:Int)≤m:=by omega
  go_enter Tryz.func178,Tryz.ntmps178
  go_wp2
  go_ret
  rw[H.out];exact⟨rfl,rfl⟩
set_option maxHeartbeats 400000 in
theorem known_any (A:Option Addr) (n c:Nat) (xs:List Nat) (w:World) (h:Rd w A n c xs) (hn:n≤100000) :
  Calls Tryz.prog 219 #[.slice A n c] w fun e w'=>∃ A' n' c',e=.returned (.slice A' n' c')∧w=w'∧Rd w A' n' c' (limbs (num xs))∧n'≤n:=by
 have hv:=valid_any A n c xs w h hn
 have hk:=kn_limbs h.sm
 cases hb:vldB xs
 ·rw[hb] at hv
  have R:Rd w none 0 0 (limbs (num xs)):=by rw[←hk];unfold kn;rw[hb];exact Rd.nil_ w 0 none
  have R:=Lib.hid R
  have hv:=Lib.hid hv
  clear hk hb h
  go_enter Tryz.func219,Tryz.ntmps219
  go_wp2_with (go_at_call 178;refine (hv.out).mono ?_;rintro e w' ⟨rfl,rfl⟩)
  go_ret
  exact⟨none,0,0,rfl,rfl,R.out,Nat.zero_le _⟩
 ·rw[hb] at hv
  have R:Rd w A n c (limbs (num xs)):=by rw[←hk];unfold kn;rw[hb];exact h
  have R:=Lib.hid R
  have hv:=Lib.hid hv
  clear hk hb h
  go_enter Tryz.func219,Tryz.ntmps219
  go_wp2_with (go_at_call 178;refine (hv.out).mono ?_;rintro e w' ⟨rfl,rfl⟩)
  go_ret
  exact⟨A,n,c,rfl,rfl,R.out,Nat.le_refl _⟩
set_option maxHeartbeats 400000 in
theorem trim_any (A:Option Addr) (n c:Nat) (xs:List Nat) (w:World) (h:Rd w A n c xs) (hn:n≤100000) :
  Calls Tryz.prog 167 #[.slice A n c] w fun e w'=>∃ n',e=.returned (.slice A n' c)∧w=w'∧Rd w A n' c (limbs (val xs)):=by
 have hcap:=h.cap
 have hl:=h.len
 have R:Rd w A (tl xs n) c (limbs (val xs)):=by
  have:=h.take (tl_le xs n)
  rw[tl_limbs h.sm n (by omega),←hl,List.take_length,hl] at this
  exact this
 have R:=Lib.hid R
 have HH:=Lib.hid h
 clear h hl
 go_enter Tryz.func167,Tryz.ntmps167
 go_wp2
 go_loop [0] (fun s=>∃ k:Nat,k≤n∧s=.slice A k c∧tl xs k=tl xs n) (fun s=>match s with | .slice _ k _=>k | _=>0)
 case atStart=>exact⟨n,Nat.le_refl _,rfl,rfl⟩
 case round=>
  obtain⟨k,hk,rfl,ht⟩:=hrel
  have ht:=Lib.hid ht
  by_cases h0:k=0
  ·subst h0
   have hg:((0:Int) > 0)=False:=by simp
   go_wp2
   go_ret
   exact⟨0,rfl,rfl,by have:=R.out;rw[←ht.out] at this;exact this⟩
  ·obtain⟨m,rfl⟩:∃ m,k=m+1:=⟨k-1,by omega⟩
   obtain⟨b,o,x,rfl,hb,hx,hxs,hc⟩:=HH.out.at_ (k:=m) (by omega)
   have hxs:=Lib.hid hxs
   clear h0
   have hg:(0:Int)<(m:Int)+1:=by omega
   have hg2:decide ((0:Int)<(m:Int)+1)=true:=decide_eq_true hg
   by_cases hx0:x=0
   ·have hx1:((x:Int)==0)=true:=by simp;omega
    have e:tl xs (m+1)=tl xs m:=by rw[tl,if_pos (by rw[hxs.out];exact hx0)]
    have e:=Lib.hid e
    clear hx0
    go_wp2
    go_round
    case rel=>exact⟨m,by omega,rfl,by rw[←e.out];exact ht.out⟩
    case measure=>simp
   ·have hx1:((x:Int)==0)=false:=by simp;omega
    have e:tl xs (m+1)=m+1:=by rw[tl,if_neg];rw[hxs.out];exact hx0
    have e:=Lib.hid e
    clear hx0
    go_wp2
    go_ret
    exact⟨m+1,rfl,rfl,by have:=R.out;rw[←ht.out,e.out] at this;exact this⟩
end Go.Proofs.YtdeedofmflelfaaGreatDoor

namespace Go.Proofs.YtdeedofmflelfaaGreatDoor
open Go.RowKit
/-- The answer of a comparison. -/
def cmpi (a b:Int):Int:=if a<b then -1 else if b<a then 1 else 0
theorem cmpi_lt {a b:Int} (h:a<b):cmpi a b = -1:=by unfold cmpi;rw[if_pos h]
theorem cmpi_gt {a b:Int} (h:b<a):cmpi a b=1:=by unfold cmpi;rw[if_neg (by omega),if_pos h]
theorem cmpi_eq {a b:Int} (h:a=b):cmpi a b=0:=by unfold cmpi;rw[if_neg (by omega),if_neg (by omega)]
theorem nan_int (a:Int) (w:World):Calls Tryz.prog 248 #[.int .i64 a] w fun e w'=>e=.returned (.bool false)∧w'=w:=by
 go_enter Tryz.func248,Tryz.ntmps248
 go_wp2
 go_ret
 simp
theorem nan_u32 (a:Int) (w:World):Calls Tryz.prog 249 #[.int .u32 a] w fun e w'=>e=.returned (.bool false)∧w'=w:=by
 go_enter Tryz.func249,Tryz.ntmps249
 go_wp2
 go_ret
 simp
theorem cmp_int (a b:Int) (w:World):Calls Tryz.prog 236 #[.int .i64 a,.int .i64 b] w fun e w'=>e=.returned (.int .i64 (cmpi a b))∧w'=w:=by
 have h1:=Lib.hid (@cmpi_lt a b)
 have h2:=Lib.hid (@cmpi_gt a b)
 have h3:=Lib.hid (@cmpi_eq a b)
 by_cases hlt:a<b
 ·go_enter Tryz.func236,Tryz.ntmps236
  go_wp2_with (go_at_call 248;refine (nan_int _ _).mono ?_;rintro e w' ⟨rfl,rfl⟩)
  go_ret
  rw[h1.out hlt];exact⟨rfl,rfl⟩
 ·by_cases hgt:b<a
  ·go_enter Tryz.func236,Tryz.ntmps236
   go_wp2_with (go_at_call 248;refine (nan_int _ _).mono ?_;rintro e w' ⟨rfl,rfl⟩)
   go_ret
   rw[h2.out hgt];exact⟨rfl,rfl⟩
  ·go_enter Tryz.func236,Tryz.ntmps236
   go_wp2_with (go_at_call 248;refine (nan_int _ _).mono ?_;rintro e w' ⟨rfl,rfl⟩)
   go_ret
   rw[h3.out (by omega)];exact⟨rfl,rfl⟩
theorem cmp_u32 (a b:Int) (w:World):Calls Tryz.prog 237 #[.int .u32 a,.int .u32 b] w fun e w'=>e=.returned (.int .i64 (cmpi a b))∧w'=w:=by
 have h1:=Lib.hid (@cmpi_lt a b)
 have h2:=Lib.hid (@cmpi_gt a b)
 have h3:=Lib.hid (@cmpi_eq a b)
 by_cases hlt:a<b
 ·go_enter Tryz.func237,Tryz.ntmps237
  go_wp2_with (go_at_call 249;refine (nan_u32 _ _).mono ?_;rintro e w' ⟨rfl,rfl⟩)
  go_ret
  rw[h1.out hlt];exact⟨rfl,rfl⟩
 ·by_cases hgt:b<a
  ·go_enter Tryz.func237,Tryz.ntmps237
   go_wp2_with (go_at_call 249;refine (nan_u32 _ _).mono ?_;rintro e w' ⟨rfl,rfl⟩)
   go_ret
   rw[h2.out hgt];exact⟨rfl,rfl⟩
  ·go_enter Tryz.func237,Tryz.ntmps237
   go_wp2_with (go_at_call 249;refine (nan_u32 _ _).mono ?_;rintro e w' ⟨rfl,rfl⟩)
   go_ret
   rw[h3.out (by omega)];exact⟨rfl,rfl⟩
theorem quiet_add_same {P:Program} {f:FuncId} {args:Array Value} {w:World} {a n:Nat} {v:Value}
  (h:Calls P f args (w.drewN (a+n)) fun e w'=>e=.returned v∧w'=w.drewN (a+n)) :
  Calls P f args (w.drewN (a+n)) fun e w''=>e=.returned v∧∃ m,w''=w.drewN (a+m):=
 h.mono fun _ _ ⟨he,hm⟩=>⟨he,n,hm⟩
theorem cmp_at {x y j x1 y1:Nat} (hX:j<(limbs x).length) (hY:j<(limbs y).length) (h:(limbs x).drop (j+1)=(limbs y).drop (j+1))
  (hx:(limbs x).getD j 0=x1) (hy:(limbs y).getD j 0=y1) (hne:¬ x1=y1) (s1:Sm (limbs x)) (s2:Sm (limbs y)):cmpi x y=cmpi x1 y1:=by
 rcases Nat.lt_or_gt_of_ne hne with hlt | hgt
 ·have:=lt_at hX hY h s1 (by omega)
  rw[val_limbs,val_limbs] at this
  rw[cmpi_lt (by omega),cmpi_lt (by omega)]
 ·have:=lt_at hY hX h.symm s2 (by omega)
  rw[val_limbs,val_limbs] at this
  rw[cmpi_gt (by omega),cmpi_gt (by omega)]
theorem cmp_len {x y n1 n2:Nat} (hX:(limbs x).length=n1) (hY:(limbs y).length=n2) (hne:¬ n1=n2):cmpi x y=cmpi n1 n2:=by
 rcases Nat.lt_or_gt_of_ne hne with hlt | hgt
 ·have:=lt_len (x:=x) (y:=y) (by omega)
  rw[cmpi_lt (by omega),cmpi_lt (by omega)]
 ·have:=lt_len (x:=y) (y:=x) (by omega)
  rw[cmpi_gt (by omega),cmpi_gt (by omega)]
theorem drewN_below (w:World) (n:Nat):Below w.heap.size w (w.drewN n):=⟨rfl,rfl,rfl,Nat.le_refl _,fun _ _=>rfl⟩
set_option maxHeartbeats 1000000 in
theorem compare_any (A:Option Addr) (n c:Nat) (xs:List Nat) (A':Option Addr) (n' c':Nat) (ys:List Nat) (w:World)
  (h1:Rd w A n c xs) (h2:Rd w A' n' c' ys) (hn:n≤10000) (hn':n'≤10000) :
  Calls Tryz.prog 225 #[.slice A n c,.slice A' n' c'] w fun e w'=>e=.returned (.int .i64 (cmpi (num xs) (num ys)))∧∃ m,w'=w.drewN m:=by
 replace h1:=Lib.hid h1
 replace h2:=Lib.hid h2
 go_enter Tryz.func225,Tryz.ntmps225
 go_wp2_with fail
 refine (known_any _ _ _ xs _ h1.out (by omega)).mono ?_
 rintro e w' ⟨B1,n1,c1,rfl,rfl,R1,l1⟩
 replace R1:=Lib.hid R1
 go_wp2_with fail
 refine (known_any _ _ _ ys _ h2.out (by omega)).mono ?_
 rintro e w' ⟨B2,n2,c2,rfl,rfl,R2,l2⟩
 replace R2:=Lib.hid R2
 clear h1 h2
 by_cases hne:n1=n2
 ·subst hne
  go_wp2
  go_loopw [5] (fun iv wr=>∃ (i:Int) (k m:Nat),k≤n1∧i+1=k∧iv=.int .i64 i∧wr=w.drewN m∧(limbs (num xs)).drop k=(limbs (num ys)).drop k) (fun iv _=>(intOf iv+1).toNat)
  case atStart=>exact⟨_,n1,0,Nat.le_refl _,by omega,rfl,rfl,by rw[List.drop_of_length_le (by rw[R1.out.len];omega),List.drop_of_length_le (by rw[R2.out.len];omega)]⟩
  case round=>
   obtain⟨i,k,m,hk,hik,rfl,rfl,hd⟩:=hrel
   replace hd:=Lib.hid hd
   by_cases h0:k=0
   ·subst h0
    have hxy:num xs=num ys:=limbs_inj (by simpa using hd.out)
    have hcmp:=Lib.hid (cmpi_eq (a:=num xs) (b:=num ys) (by omega))
    obtain rfl:i = -1:=by omega
    clear hik hd hxy
    go_wp2
    go_ret
    rw[hcmp.out];exact⟨rfl,_,rfl⟩
   ·obtain⟨j,rfl⟩:∃ j,k=j+1:=⟨k-1,by omega⟩
    obtain rfl:i=j:=by omega
    obtain⟨b1,o1,x1,rfl,hb1,hx1,hxe,hcx⟩:=R1.out.at_ (k:=j) (by omega)
    obtain⟨b2,o2,y1,rfl,hb2,hy1,hye,hcy⟩:=R2.out.at_ (k:=j) (by omega)
    replace hxe:=Lib.hid hxe
    replace hye:=Lib.hid hye
    clear hik h0
    have g1:(0:Int)≤(j:Int):=by omega
    have g2:(j:Int)<(n1:Int):=by omega
    by_cases hxy:x1=y1
    ·have ht:((x1:Int) != (y1:Int))=false:=by rw[hxy];simp
     have hd2:=Lib.hid (drop_same (by rw[R1.out.len];omega) (by rw[R2.out.len];omega) hd.out (hxe.out.trans (hxy.trans hye.out.symm)))
     clear hxy
     go_wp2
     go_quiet (fail)
     go_wp2
     go_roundw
     case rel=>exact⟨_,j,_,by omega,by omega,rfl,rfl,hd2.out⟩
     case measure=>simp[intOf]
    ·have ht:((x1:Int) != (y1:Int))=true:=by simp;omega
     have hcm:cmpi (num xs) (num ys)=cmpi x1 y1:=cmp_at (by rw[R1.out.len];omega) (by rw[R2.out.len];omega) hd.out hxe.out hye.out hxy (sm_limbs _) (sm_limbs _)
     replace hcm:=Lib.hid hcm
     clear hxy
     go_wp2
     go_quiet (fail)
     go_wp2
     go_quiet ((go_at_call 237;exact quiet_add_same (cmp_u32 _ _ _)))
     go_wp2
     go_ret
     rw[hcm.out];exact⟨rfl,_,by rw[World.drewN_drewN,World.drewN_drewN]⟩
 ·have hc:cmpi (num xs) (num ys)=cmpi n1 n2:=cmp_len R1.out.len R2.out.len hne
  have ht:((n1:Int) != (n2:Int))=true:=by simp;omega
  replace hc:=Lib.hid hc
  clear hne
  go_wp2_with (go_at_call 236;refine (cmp_int _ _ _).mono ?_;rintro e w' ⟨rfl,rfl⟩)
  go_ret
  rw[hc.out];exact⟨rfl,0,rfl⟩
end Go.Proofs.YtdeedofmflelfaaGreatDoor

namespace Go.Proofs.YtdeedofmflelfaaGreatDoor
open Go.RowKit
/-- What a function that copies a slice leaves: the limbs xs, in new memory. -/
def RetClone (n:Nat) (xs:List Nat) (w:World) (e:Ending) (w':World):Prop:=
 ∃ A c,e=.returned (.slice A n c)∧Rd w' A n c xs∧(n=0∨∃ g,A=some ⟨g,0,none⟩∧w.heap.size≤g∧Own w' g xs)∧Below w.heap.size w w'
set_option maxHeartbeats 1000000 in
theorem clone_any (A:Option Addr) (n c:Nat) (xs:List Nat) (w:World) (h:Rd w A n c xs) (hn:n≤10000) :
  Calls Tryz.prog 120 #[.slice A n c] w (RetClone n xs w):=by
 rcases A with _ | ad
 ·have hq:∀ W:World,(binOp .eql 42 (.slice none n c) (.slice none 0 0)).run Tryz.prog W=.ok (.bool true) W:=fun W=>by
   simpa using Lib.run_eql_slice_nil (P:=Tryz.prog) W 42 119 none n c 0 0 Tryz.underlying42
  have hx:xs=[]:=by
   rcases h.mem with h0 | ⟨b,o,h0,_⟩
   ·exact List.eq_nil_of_length_eq_zero (by have:=h.len;omega)
   ·cases h0
  subst hx
  have hn0:=Lib.hid h.len
  clear h
  go_enter Tryz.func120,Tryz.ntmps120
  go_wp2
  go_ret
  obtain rfl:n=0:=by have:=hn0.out;simpa using this.symm
  exact⟨none,0,rfl,Rd.nil_ _ _ _,.inl rfl,Below.refl _ _⟩
 ·have hq:∀ W:World,(binOp .eql 42 (.slice (some ad) n c) (.slice none 0 0)).run Tryz.prog W=.ok (.bool false) W:=fun W=>by
   simpa using Lib.run_eql_slice_nil (P:=Tryz.prog) W 42 119 (some ad) n c 0 0 Tryz.underlying42
  replace h:=Lib.hid h
  go_enter Tryz.func120,Tryz.ntmps120
  go_wp2_with (at_builtin;refine wpList_append_u32 _ rfl (.tmp 5) (.tmp 6) rfl w.heap.size _ [] rfl (Gr.made w) ad n c xs rfl (Rd.alloc h.out _) ?c1 ?c2 ?_)
  case c1=>show 0+n≤100000;omega
  case c2=>show w.heap.size≤(w.alloc _).heap.size;simp
  intro v' w' hG hg
  obtain⟨A',c',hv,hR,hO⟩:=hG.form
  subst hv
  replace hR:=Lib.hid hR
  replace hO:=Lib.hid hO
  replace hg:=Lib.hid (Below.grown ((Below.refl w.heap.size w).alloc (Nat.le_refl _) (.cells #[] 119)) hg (by simp) (by intro k hk;simp[Value.ownBlock] at hk;omega))
  clear hG
  have hl:=h.out.len
  subst hl
  go_wp2
  go_ret
  exact⟨_,_,rfl,hR.out,hO.out,hg.out⟩
set_option maxHeartbeats 1000000 in
theorem sub_ge (A:Option Addr) (n c:Nat) (xs:List Nat) (A':Option Addr) (n' c':Nat) (ys:List Nat) (w:World)
  (h1:Rd w A n c xs) (h2:Rd w A' n' c' ys) (hn:n≤10000) (hn':n'≤10000) (hge:num ys≤num xs) :
  Calls Tryz.prog 210 #[.slice A n c,.slice A' n' c'] w fun e w'=>∃ A n c,e=.returned (.tuple #[.slice A n c,.bool true])∧Rd w' A n c (limbs (num xs-num ys))∧Below w.heap.size w w':=by
 replace h1:=Lib.hid h1
 replace h2:=Lib.hid h2
 have hge':=Lib.hid hge
 clear hge
 go_enter Tryz.func210,Tryz.ntmps210
 go_wp2_with fail
 refine (known_any _ _ _ xs _ h1.out (by omega)).mono ?_
 rintro e w' ⟨B1,n1,c1,rfl,rfl,R1,l1⟩
 replace R1:=Lib.hid R1
 go_wp2_with fail
 refine (known_any _ _ _ ys _ h2.out (by omega)).mono ?_
 rintro e w' ⟨B2,n2,c2,rfl,rfl,R2,l2⟩
 replace R2:=Lib.hid R2
 clear h1 h2
 go_wp2_with fail
 have hc:=compare_any _ _ _ _ _ _ _ _ _ R1.out R2.out (by omega) (by omega)
 rw[num_limbs,num_limbs] at hc
 obtain⟨q,hq,hq0⟩:∃ q,cmpi (num xs) (num ys)=q∧0≤q:=⟨_,rfl,by unfold cmpi;have:=hge'.out;split;omega;split<;>omega⟩
 rw[hq] at hc
 clear hq
 refine hc.mono ?_
 clear hc
 rintro e w' ⟨rfl,m,rfl⟩
 go_wp2_with fail
 refine (clone_any _ _ _ _ _ (R1.out.drewN m) (by omega)).mono ?_
 rintro e w' ⟨B3,c3,rfl,R3,O3,b3⟩
 replace R3:=Lib.hid R3
 replace b3:Hid (Below w.heap.size w w'):=Lib.hid ((drewN_below w m).trans b3)
 have hq1:decide (q<0)=false:=by simp;omega
 go_wp2
 go_loopw [6,21] (fun bv iv wr=>∃ (k br:Nat) (zs:List Nat),k≤n1∧iv=.int .i64 k∧bv=.int .u64 br∧br≤1∧zs.length=n1∧Sm zs∧(n1=0∨∃ g,B3=some ⟨g,0,none⟩∧w.heap.size≤g∧Own wr g zs)∧Below w.heap.size w wr ∧
   val (zs.take k)+val ((limbs (num ys)).take k)=val ((limbs (num xs)).take k)+4294967296^k*br∧zs.drop k=(limbs (num xs)).drop k)
   (fun _ iv _=>n1-(intOf iv).toNat)
 case atStart=>exact⟨0,0,limbs (num xs),Nat.zero_le _,rfl,rfl,by omega,R3.out.len,sm_limbs _,O3,b3.out,by simp[val],rfl⟩
 case round=>
  clear O3
  obtain⟨k,br,zs,hk,rfl,rfl,hbr,hzl,hzs,hO,hB,hval,hdr⟩:=hrel
  replace hval:=Lib.hid hval
  replace hzl:=Lib.hid hzl
  replace hO:=Lib.hid hO
  replace hB:=Lib.hid hB
  replace hdr:=Lib.hid hdr
  replace hzs:=Lib.hid hzs
  by_cases hlt:k<n1
  ·rcases hO.out with h0 | ⟨g,rfl,hg,O⟩
   ·omega
   replace O:=Lib.hid O
   obtain⟨hzx,hdr1⟩:=drop_step hdr.out (by rw[hzl.out];exact hlt) (by rw[R1.out.len];exact hlt)
   replace hdr1:=Lib.hid hdr1
   obtain⟨x1,hx1e⟩:∃ x1,zs.getD k 0=x1:=⟨_,rfl⟩
   have hx1:x1<4294967296:=by rw[←hx1e];exact sm_get O.out.sm k
   have hcell:=O.out.cell (k:=k) (by rw[hzl.out];omega)
   rw[hx1e] at hcell
   have hxe:=Lib.hid (hzx.symm.trans hx1e)
   clear hzx hx1e
   have hfz:=O.out.frozen k
   by_cases hlt2:k<n2
   ·obtain⟨b2,o2,y1,rfl,hb2,hy1,hye,hcy2⟩:=(R2.out.base hB.out).at_ hlt2
    replace hye:=Lib.hid hye
    obtain⟨d,b',hd,hb',hdd,he1,he2⟩:=sub_limb x1 br y1 hx1 hbr hy1
    replace hdd:=Lib.hid hdd
    replace he1:=Lib.hid he1
    replace he2:=Lib.hid he2
    go_wp2
    go_roundw
    case rel=>
     have O':=O.out.set_ k d hd
     simp only[IntKind.wrap_u64]
     rw[he1.out,he2.out]
     exact⟨k+1,b',_,by omega,by go_num,rfl,hb',by rw[List.length_set];exact hzl.out,O'.sm,.inr ⟨g,rfl,hg,O'⟩,hB.out.setCell hg _,sub_step (by rw[hzl.out];omega) hval.out hxe.out hye.out hdd.out,by rw[drop_set_succ];exact hdr1.out⟩
    case measure=>simp[intOf];omega
   ·have hye:=Lib.hid (getD_none (X:=limbs (num ys)) (k:=k) (by rw[R2.out.len];omega))
    obtain⟨d,b',hd,hb',hdd,he1,he2⟩:=sub_limb x1 br 0 hx1 hbr (by omega)
    replace hdd:=Lib.hid hdd
    replace he1:=Lib.hid he1
    replace he2:=Lib.hid he2
    go_wp2
    go_roundw
    case rel=>
     have O':=O.out.set_ k d hd
     simp only[IntKind.wrap_u64]
     have e1:=he1.out
     have e2:=he2.out
     simp only[Int.natCast_zero,Int.sub_zero,Int.emod_emod] at e1 e2
     rw[e1,e2]
     exact⟨k+1,b',_,by omega,by go_num,rfl,hb',by rw[List.length_set];exact hzl.out,O'.sm,.inr ⟨g,rfl,hg,O'⟩,hB.out.setCell hg _,sub_step (by rw[hzl.out];omega) hval.out hxe.out hye.out hdd.out,by rw[drop_set_succ];exact hdr1.out⟩
    case measure=>simp[intOf];omega
  ·obtain rfl:k=n1:=by omega
   have R:Rd wr B3 k c3 zs:=by
    rcases hO.out with h0 | ⟨g,rfl,hg,O⟩
    ·subst h0
     rw[List.eq_nil_of_length_eq_zero hzl.out]
     exact Rd.nil_ _ _ _
    ·exact O.rdn hzl.out R3.out.cap
   replace R:=Lib.hid R
   go_wp2_with fail
   refine (trim_any _ _ _ zs _ R.out (by omega)).mono ?_
   rintro e w' ⟨n',rfl,rfl,R4⟩
   replace R4:=Lib.hid R4
   go_wp2
   go_ret2
   exact⟨_,_,_,rfl,by have:=R4.out;rw[sub_last hzl.out hzs.out hval.out R1.out.len hge'.out] at this;exact this,hB.out⟩
end Go.Proofs.YtdeedofmflelfaaGreatDoor

namespace Go.Proofs.YtdeedofmflelfaaGreatDoor
open Go.RowKit
set_option maxHeartbeats 1000000 in
theorem add_own (A:Option Addr) (n c:Nat) (xs:List Nat) (A':Option Addr) (n' c':Nat) (ys:List Nat) (w:World)
  (h1:Rd w A n c xs) (h2:Rd w A' n' c' ys) (hn:n≤10000) (hn':n'≤10000) :
  Calls Tryz.prog 209 #[.slice A n c,.slice A' n' c'] w (RetO (num xs+num ys) w):=by
 replace h1:=Lib.hid h1
 replace h2:=Lib.hid h2
 go_enter Tryz.func209,Tryz.ntmps209
 go_wp2_with fail
 refine (known_any _ _ _ xs _ h1.out (by omega)).mono ?_
 rintro e w' ⟨B1,n1,c1,rfl,rfl,R1,l1⟩
 replace R1:=Lib.hid R1
 go_wp2_with fail
 refine (known_any _ _ _ ys _ h2.out (by omega)).mono ?_
 rintro e w' ⟨B2,n2,c2,rfl,rfl,R2,l2⟩
 replace R2:=Lib.hid R2
 go_upto_if 16 with fail
 go_cut [0,1] (fun a b w'=>∃ A1 n1 c1 A2 n2 c2 x y,a=.slice A1 n1 c1∧b=.slice A2 n2 c2∧Rd w A1 n1 c1 (limbs x)∧Rd w A2 n2 c2 (limbs y)∧n2≤n1∧n1≤10000∧x+y=num xs+num ys∧w=w')
 case first=>
  by_cases hlt:n1<n2
  ·go_wp2
   go_meet
   case rel=>exact⟨_,_,_,_,_,_,_,_,rfl,rfl,R2.out,R1.out,by omega,by omega,Nat.add_comm _ _,rfl⟩
  ·go_wp2
   go_meet
   case rel=>exact⟨_,_,_,_,_,_,_,_,rfl,rfl,R1.out,R2.out,by omega,by omega,rfl,rfl⟩
 case rest=>
  clear R1 R2 l1 l2
  obtain⟨A1,n1,c1,A2,n2,c2,x,y,rfl,rfl,R1,R2,hle,hb1,hxy,rfl⟩:=hcut
  replace R1:=Lib.hid R1
  replace R2:=Lib.hid R2
  replace hxy:=Lib.hid hxy
  have hmk:∀ W:World,(Instr.makeSlice 42 (.int .i64 ((n1:Int)+1)) (.int .i64 ((n1:Int)+1))).run Tryz.prog W=.ok (.slice (some ⟨W.heap.size,0,none⟩) (n1+1) (n1+1)) (W.alloc (.cells (madeCells #[.int .u32 0] (n1+1)) 119)):=fun W=>make_u32 (n1+1) (by omega) .i64 .i64 W
  go_wp2
  go_loopw [6,25] (fun cv iv wr=>∃ (k cy:Nat) (zs:List Nat),k≤n1∧iv=.int .i64 k∧cv=.int .u64 cy∧cy≤1∧zs.length=n1+1∧Own wr w.heap.size zs∧Below w.heap.size w wr∧val (zs.take k)+4294967296^k*cy=val ((limbs x).take k)+val ((limbs y).take k))
   (fun _ iv _=>n1-(intOf iv).toNat)
  case atStart=>exact⟨0,0,List.replicate (n1+1) 0,Nat.zero_le _,rfl,rfl,by omega,by simp,Own.new _ _,(Below.refl _ _).alloc (Nat.le_refl _) _,by simp[val]⟩
  case round=>
   clear hmk
   obtain⟨k,cy,zs,hk,rfl,rfl,hcy,hzl,hO,hB,hval⟩:=hrel
   replace hval:=Lib.hid hval
   replace hzl:=Lib.hid hzl
   replace hO:=Lib.hid hO
   replace hB:=Lib.hid hB
   by_cases hlt:k<n1
   ·obtain⟨b1,o1,x1,rfl,hb1,hx1,hxe,hcx⟩:=(R1.out.below hB.out).at_ hlt
    replace hxe:=Lib.hid hxe
    have hcell:=hO.out.cell (k:=k) (by rw[hzl.out];omega)
    have hfz:=hO.out.frozen k
    by_cases hlt2:k<n2
    ·obtain⟨b2,o2,y1,rfl,hb2,hy1,hye,hcy2⟩:=(R2.out.below hB.out).at_ hlt2
     replace hye:=Lib.hid hye
     go_wp2
     go_roundw
     case rel=>
      have O:=hO.out.set_ k ((cy+x1+y1)%4294967296) (by omega)
      rw[show (((cy+x1+y1)%4294967296:Nat):Int)=((cy:Int)+x1+y1)%4294967296 by omega] at O
      exact⟨k+1,(cy+x1+y1) / 4294967296,_,by omega,by go_num,by go_num,by omega,by rw[List.length_set];exact hzl.out,O,hB.out.setCell (Nat.le_refl _) _,add_step (by rw[hzl.out];omega) hval.out hxe.out hye.out⟩
     case measure=>simp[intOf];omega
    ·have hye:=Lib.hid (getD_none (X:=limbs y) (k:=k) (by rw[R2.out.len];omega))
     go_wp2
     go_roundw
     case rel=>
      have O:=hO.out.set_ k ((cy+x1+0)%4294967296) (by omega)
      rw[show (((cy+x1+0)%4294967296:Nat):Int)=((cy:Int)+x1)%4294967296 by omega] at O
      exact⟨k+1,(cy+x1+0) / 4294967296,_,by omega,by go_num,by go_num,by omega,by rw[List.length_set];exact hzl.out,O,hB.out.setCell (Nat.le_refl _) _,add_step (by rw[hzl.out];omega) hval.out hxe.out hye.out⟩
     case measure=>simp[intOf];omega
   ·obtain rfl:k=n1:=by omega
    have hcell:=hO.out.cell (k:=k) (by rw[hzl.out];omega)
    have hfz:=hO.out.frozen k
    go_wp2_with fail
    have O:=hO.out.set_ k cy (by omega)
    have hv:=Lib.hid (add_last hzl.out hval.out (by rw[R1.out.len];omega) (by rw[R2.out.len];omega))
    refine (trim_any _ _ _ (zs.set k cy) _ (O.rdn (by rw[List.length_set];exact hzl.out) (Nat.le_refl _)) (by omega)).mono ?_
    rintro e w' ⟨n',rfl,rfl,R⟩
    replace R:=Lib.hid R
    replace O:=Lib.hid O
    clear hcell hfz
    go_wp2
    go_ret
    have hv2:val (zs.set k cy)=num xs+num ys:=by rw[hv.out,val_limbs,val_limbs,hxy.out]
    have ht:=trim_take O.out.sm
    have O2:=O.out.pre (limbs (val (zs.set k cy))).length
    rw[←ht,hv2] at O2
    have hl:=R.out.len
    rw[hv2] at hl
    exact⟨_,_,_,rfl,Nat.le_refl _,O2,hl,R.out.cap,hB.out.setCell (Nat.le_refl _) _⟩
theorem add_any (A:Option Addr) (n c:Nat) (xs:List Nat) (A':Option Addr) (n' c':Nat) (ys:List Nat) (w:World)
  (h1:Rd w A n c xs) (h2:Rd w A' n' c' ys) (hn:n≤10000) (hn':n'≤10000) :
  Calls Tryz.prog 209 #[.slice A n c,.slice A' n' c'] w (RetN (num xs+num ys) w):=
 (add_own A n c xs A' n' c' ys w h1 h2 hn hn').mono fun _ _ h=>h.n
end Go.Proofs.YtdeedofmflelfaaGreatDoor
