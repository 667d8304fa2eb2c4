/- The contract of natural.Root, over a contract of Div. The law's sanity check returns true. Small forms of the contracts, for the laws' walks. Contracts of guessLimb, subProduct and shiftLeft. -/
import Derived.Test.YtdeedofmflelfaaGreatDoorQWez
import Derived.Test.YtdeedofmflelfaaGreatDoorQWaz
import Derived.Deep.LoopGhost
import Derived.OpenShut
namespace Go.Proofs.YtdeedofmflelfaaGreatDoor
open Go.RowKit
theorem lz32_any (l:Nat) (w:World) (h:l<4294967296):Calls Tryz.prog 238 #[.int .u32 l] w fun e w'=>e=.returned (.int .i64 (32-(Lib.bitLen l:Int)))∧w=w':=by
 have:=Tryz.bits_LeadingZeros32 l w (by omega) (by omega)
 rw[show ((l:Int).toNat)=l by omega] at this
 exact this.mono fun _ _ ⟨a,b⟩=>⟨a,b.symm⟩
end Go.Proofs.YtdeedofmflelfaaGreatDoor

namespace Go.Proofs.YtdeedofmflelfaaGreatDoor
open Go.RowKit
end Go.Proofs.YtdeedofmflelfaaGreatDoor

namespace Go.Proofs.YtdeedofmflelfaaGreatDoor
open Go.RowKit
theorem compare_b (A:Option Addr) (n c:Nat) (x:Nat) (A':Option Addr) (n' c':Nat) (y:Nat) (w:World)
  (h1:Rd w A n c (limbs x)) (h2:Rd w A' n' c' (limbs y)) (hn:n≤10000) (hn':n'≤10000) (q:Int) (hq:cmpi x y=q) :
  Calls Tryz.prog 225 #[.slice A n c,.slice A' n' c'] w fun e w'=>e=.returned (.int .i64 q)∧Below w.heap.size w w':=by
 have:=compare_any A n c (limbs x) A' n' c' (limbs y) w h1 h2 hn hn'
 rw[num_limbs,num_limbs,hq] at this
 refine this.mono ?_
 rintro e w' ⟨he,m,rfl⟩
 exact⟨he,drewN_below w m⟩
theorem sub_ge_b (A:Option Addr) (n c:Nat) (x:Nat) (A':Option Addr) (n' c':Nat) (y:Nat) (w:World) (p:Nat)
  (h1:Rd w A n c (limbs x)) (h2:Rd w A' n' c' (limbs y)) (hn:n≤p) (hn':n'≤p) (hp:p≤10000) (hge:y≤x) :
  Calls Tryz.prog 210 #[.slice A n c,.slice A' n' c'] w fun e w'=>∃ A n c,e=.returned (.tuple #[.slice A n c,.bool true])∧Rd w' A n c (limbs (x-y))∧Below w.heap.size w w'∧n≤p:=by
 have:=sub_ge A n c (limbs x) A' n' c' (limbs y) w h1 h2 (by omega) (by omega) (by rw[num_limbs,num_limbs];exact hge)
 rw[num_limbs,num_limbs] at this
 refine this.mono ?_
 rintro e w' ⟨A2,n2,c2,he,hR,hb⟩
 refine⟨A2,n2,c2,he,hR,hb,?_⟩
 have:=len_le (Nat.sub_le x y)
 have a:=h1.len
 have b:=hR.len
 omega
end Go.Proofs.YtdeedofmflelfaaGreatDoor

namespace Go.Proofs.YtdeedofmflelfaaGreatDoor
open Go.RowKit
theorem ret_u32 {k:IntKind} {a b:Int} (h:a=b):Ending.returned (.int k a)=.returned (.int k b):=by rw[h]
set_option maxRecDepth 100000 in
set_option maxHeartbeats 2000000 in
theorem guess_any (a2 a1 a0 b1 b0:Nat) (w:World) (h2:a2<4294967296) (h1:a1<4294967296) (h0:a0<4294967296) (hb1:2147483648≤b1) (hb1':b1<4294967296) (hb0:b0<4294967296)
  (hT:a2*4294967296+a1≤b1*4294967296+b0) :
  Calls Tryz.prog 250 #[.int .u32 a2,.int .u32 a1,.int .u32 a0,.int .u32 b1,.int .u32 b0] w fun e w'=>∃ g,(e=.returned (.int .u32 (g:Nat))∧GuessOk (a2*4294967296+a1) a0 b1 b0 g)∧∃ m,w'=w.drewN m:=by
 have hor:=or_limb a2 a1 h2 h1
 obtain⟨T,hTe⟩:∃ T,a2*4294967296+a1=T:=⟨_,rfl⟩
 rw[hTe] at hor hT ⊢
 have hTb:(T:Int)≤18446744073709551615:=by omega
 have hT0:(0:Int)≤(T:Int):=by omega
 have hq:=gl_start hT hb1 hb0
 have hqi:(T:Int) / (b1:Int)≤4294967297:=by rw[←Int.natCast_ediv];exact Int.ofNat_le.2 hq
 have hqi0:0≤(T:Int) / (b1:Int):=by rw[←Int.natCast_ediv];exact Int.natCast_nonneg _
 have hb1i:(1:Int)≤(b1:Int):=by omega
 have hm0:=gl_start_m T a0 b1 b0 (by omega) h0
 have hr0:=Nat.mod_lt T (show 0<b1 by omega)
 have hd0:=Nat.div_add_mod' T b1
 replace hq:=Lib.hid hq
 replace hm0:=Lib.hid hm0
 replace hr0:=Lib.hid hr0
 replace hd0:=Lib.hid hd0
 replace hT:=Lib.hid hT
 clear hTe
 go_enter Tryz.func250,Tryz.ntmps250
 go_wp2
 go_quiet (fail)
 go_wp2
 go_loopg [12,13] (T / b1) (fun g gv rv wr=>∃ (rest m:Nat),gv=.int .u64 (g:Nat)∧rv=.int .u64 (rest:Nat)∧g*b1+rest=T∧rest≤4294967295∧g≤4294967297∧(4294967295≤g∨T*4294967296+a0<(g+1)*(b1*4294967296+b0))∧wr=w.drewN m)
 case atStart=>exact⟨T%b1,_,by rw[Int.natCast_ediv],by rw[Int.natCast_emod],hd0.out,by have:=hr0.out;omega,hq.out,.inr hm0.out,rfl⟩
 case round=>
  clear hor hqi hqi0
  obtain⟨rest,m,rfl,rfl,hg,hr,hgb,hmx,rfl⟩:=hrel
  replace hmx:=Lib.hid hmx
  replace hg:=Lib.hid hg
  have hb1t:(b1:Int)<4294967296:=by omega
  have hb1z:(0:Int)≤(b1:Int):=by omega
  have hlc:1≤gk→(gk:Int)-1=((gk-1:Nat):Int):=fun h=>by omega
  have hlt0:1≤gk→gk-1<gk:=fun h=>by omega
  by_cases hgt:4294967295<gk
  ·have hgti:(4294967295:Int)<(gk:Int):=by omega
   obtain⟨hn1,hn2⟩:=gl_next (T:=T) (g:=gk-1) (rest:=rest) (by rw[show gk-1+1=gk by omega];exact hg.out) (a0:=a0) (b0:=b0) (.inl (by omega))
   replace hn1:=Lib.hid hn1
   replace hn2:=Lib.hid hn2
   have hlt1:=hlt0 (by omega)
   by_cases hbr:4294967295<rest+b1
   ·have hbri:(4294967295:Int)<(rest:Int)+(b1:Int):=by omega
    have hfin:=gl_break hn1.out (by omega) hT.out hb0 hn2.out
    have hgl:(gk:Int)-1<4294967296:=by have:=hfin.1;omega
    replace hfin:=Lib.hid hfin
    go_wp2
    go_ret
    exact⟨gk-1,⟨(by first | rfl | exact ret_u32 (hlc (by omega))),hfin.out⟩,m,rfl⟩
   ·have hbri:decide ((4294967295:Int)<(rest:Int)+(b1:Int))=false:=by simp;omega
    go_wp2
    go_roundg (gk-1)
    case measure=>exact hlt1
    case rel=>exact⟨rest+b1,m,by go_num,by go_num,hn1.out,by omega,by omega,hn2.out,rfl⟩
  ·have hgti:decide ((4294967295:Int)<(gk:Int))=false:=by simp;omega
   have hgtb:(gk:Int)<4294967296:=by omega
   have hor2:=or_limb rest a0 (by omega) h0
   obtain⟨t2,ht2⟩:∃ t2,rest*4294967296+a0=t2:=⟨_,rfl⟩
   rw[ht2] at hor2
   have ht2b:(t2:Int)≤18446744073709551615:=by omega
   obtain⟨p,hpe⟩:∃ p,gk*b0=p:=⟨_,rfl⟩
   have hpb:=mul_bd (x:=gk) (y:=b0) (by omega) hb0
   rw[hpe] at hpb
   have hpc:(gk:Int)*(b0:Int)=(p:Int):=by rw[←hpe,Int.natCast_mul]
   have hpb2:(p:Int)≤18446744065119617025:=by omega
   replace hpe:=Lib.hid hpe
   replace ht2:=Lib.hid ht2
   clear hpb
   by_cases hlt:t2<p
   ·have hlti:(t2:Int)<(p:Int):=by omega
    have hg1:1≤gk:=by
     rcases Nat.eq_zero_or_pos gk with h | h
     ·exfalso;have:=hpe.out;rw[h,Nat.zero_mul] at this;omega
     ·exact h
    have hg1i:(1:Int)≤(gk:Int):=by omega
    obtain⟨hn1,hn2⟩:=gl_next (T:=T) (g:=gk-1) (rest:=rest) (by rw[show gk-1+1=gk by omega];exact hg.out) (a0:=a0) (b0:=b0) (.inr (by rw[show gk-1+1=gk by omega,hpe.out,ht2.out];exact hlt))
    replace hn1:=Lib.hid hn1
    replace hn2:=Lib.hid hn2
    have hlt1:=hlt0 hg1
    by_cases hbr:4294967295<rest+b1
    ·have hbri:(4294967295:Int)<(rest:Int)+(b1:Int):=by omega
     have hfin:=gl_break hn1.out (by omega) hT.out hb0 hn2.out
     have hgl:(gk:Int)-1<4294967296:=by have:=hfin.1;omega
     replace hfin:=Lib.hid hfin
     go_wp2
     go_ret
     exact⟨gk-1,⟨(by first | rfl | exact ret_u32 (hlc (by omega))),hfin.out⟩,m,rfl⟩
    ·have hbri:decide ((4294967295:Int)<(rest:Int)+(b1:Int))=false:=by simp;omega
     go_wp2
     go_roundg (gk-1)
     case measure=>exact hlt1
     case rel=>exact⟨rest+b1,m,by go_num,by go_num,hn1.out,by omega,by omega,hn2.out,rfl⟩
   ·have hlti:decide ((t2:Int)<(p:Int))=false:=by simp;omega
    have hfin:=Lib.hid (gl_stop hg.out (show gk≤4294967295 by omega) (a0:=a0) (b0:=b0) (by rw[hpe.out,ht2.out];omega) hmx.out)
    go_wp2
    go_ret
    exact⟨gk,⟨rfl,hfin.out⟩,m,rfl⟩
end Go.Proofs.YtdeedofmflelfaaGreatDoor
