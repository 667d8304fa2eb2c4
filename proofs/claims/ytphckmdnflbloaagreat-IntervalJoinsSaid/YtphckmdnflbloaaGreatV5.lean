/- Two; made's Mod; the ends of a root. -/
import Derived.Test.YtphckmdnflbloaaGreatQVpz
import Derived.Test.YtphckmdnflbloaaGreatQWqz
namespace Go.Proofs.YtphckmdnflbloaaGreat
open Go.RowKit RQ
theorem lit_any {z:Nat} (hz:z<4294967296) (h0:0<z) (w:World) (t:Nat):Rd (w.alloc (.cells #[.int .u32 (z:Int)] t)) (some ⟨w.heap.size,0,none⟩) 1 1 (limbs z):=by
 have e:limbs z=[z]:=by rw[limbs_pos h0,Nat.mod_eq_of_lt hz,Nat.div_eq_of_lt hz,limbs_zero]
 rw[e]
 refine⟨rfl,Nat.le_refl _,fun x hx=>by rw[List.mem_singleton.1 hx];exact hz,.inr ⟨w.heap.size,0,rfl,by simp,fun k hk=>?_⟩⟩
 obtain rfl:k=0:=by omega
 rw[cell_of_row _ _ _ _ t (0,0) (heap_alloc_new w _)]
 rfl
theorem res_two (W:World) (tmps:Array Value) (g t:Nat) {v0 v1 v2:Value} (ht:tmps.getD 2 undef=.pointer (some ⟨g,0,none⟩)) (h:Cb W g #[v0,v1,v2] t) :
  (results Tryz.f103 tmps).run Tryz.prog W=.ok (.agg #[v0,v1,v2]) W:=by
 have c0:W.cell? ⟨g,0,none⟩=some v0:=h.cell rfl
 have c1:W.cell? ⟨g,1,none⟩=some v1:=h.cell rfl
 have c2:W.cell? ⟨g,2,none⟩=some v2:=h.cell rfl
 have ht':tmps[2]?.getD undef=.pointer (some ⟨g,0,none⟩):=by rw[←ht];simp[Array.getD_eq_getD_getElem?]
 simp[results,Tryz.results103,go_sem,ht',c0,c1,c2]
set_option maxRecDepth 100000 in
set_option maxHeartbeats 4000000 in
theorem two_any (k:Nat) (w:World) (hk:k≤200):Calls Tryz.prog 103 #[.int .i64 k] w (RetR (qz (2^k)) w):=by
 have S:=(St.new w).allocAt (w.heap.size) #[.bool false,.slice none 0 0,.slice none 0 0] 26 (noL3 _ _ _ _ _ _ _) (by simp)
 have R1:=lit_any (z:=1) (by decide) (by decide) (World.alloc w (.cells #[.bool false,.slice none 0 0,.slice none 0 0] 26)) 119
 rw[show (World.alloc w (.cells #[.bool false,.slice none 0 0,.slice none 0 0] 26)).heap.size=w.heap.size+1 by simp] at R1
 have S:=Lib.hid ((S.call ((Below.refl _ _).alloc (Nat.le_refl _) (.cells #[.int .u32 1] 119))).read R1)
 clear R1
 go_enter Tryz.func103,Tryz.ntmps103
 go_wp2
 go_loopw [3,4] (fun ov iv wr=>∃ (i:Nat) (A:Option Addr) (n c:Nat),i≤k∧iv=.int .i64 i∧ov=.slice A n c∧St w wr [(w.heap.size,#[.bool false,.slice none 0 0,.slice none 0 0],26)] [(A,n,c,limbs (2^i))]) (fun _ iv _=>k-(intOf iv).toNat)
 case atStart=>exact⟨0,_,_,_,Nat.zero_le _,rfl,rfl,by rw[Nat.pow_zero];exact S.out⟩
 case round=>
  clear S
  obtain⟨i,A,n,c,hi,rfl,rfl,S⟩:=hrel
  have hn:n≤10:=by have R:=S.r 0 rfl;rw[←R.len];exact limbs_len_le.2 (p2_lt (by omega))
  have hp:2^(i+1)=2^i*2:=Nat.pow_succ ..
  by_cases hlt:i<k
  ·have hM:Hid (∀ W (g:Nat) (W0:World),W=W0.alloc (.cells #[.int .u32 2] 119)→W0.heap.size=g→Rd W A n c (limbs (2^i))→Calls Tryz.prog 160 #[.slice A n c,.slice (some ⟨g,0,none⟩) 1 1] W (RetN (2^(i+1)) W)):=Lib.hid fun W g W0 hW hg h=>by
    subst hW;subst hg
    have:=rmul_any A n c _ _ 1 1 _ _ h (lit_any (z:=2) (by decide) (by decide) W0 119) (by omega) (by decide)
    rwa [num_limbs,num_limbs,←hp] at this
   have hlt':=Lib.hid hlt
   have hi':=Lib.hid hi
   replace hp:=Lib.hid hp
   clear hi hlt
   have g1:(i:Int)<(k:Int):=by have:=hlt'.out;omega
   have S1:=Lib.hid (S.call ((Below.refl _ _).alloc (Nat.le_refl _) (.cells #[.int .u32 2] 119)))
   replace S:=Lib.hid S
   replace hn:=Lib.hid hn
   go_wp2_with fail
   refine (hM.out _ _ _ rfl (by simp) (S1.out.r 0 rfl)).mono ?_
   rintro e w3 ⟨A2,n2,c2,rfl,Q2,bb⟩
   have T:=(S1.out.call bb).read Q2
   clear S S1 bb Q2
   have S:=Lib.hid T
   clear T
   have hlt:=hlt'.out
   go_wp2
   go_roundw
   case rel=>exact⟨i+1,A2,n2,c2,by omega,by go_num,rfl,S.out.pick [0] [0] rfl (by decide) rfl⟩
   case measure=>simp[intOf];omega
  ·obtain rfl:i=k:=by omega
   obtain⟨c0,c1,c2,f0,f1,f2⟩:=S.cf3 0 rfl
   have T:=((S.set 0 0 (.bool false) rfl (by nofun)).set 0 1 (.slice A n c) rfl (by nofun)).set 0 2 (.slice none 0 0) rfl (by nofun)
   clear S
   have S:=Lib.hid T
   clear T hlt hi hp hn
   go_wp2
   refine bodyPost_ret (res_two _ _ (w.heap.size) 26 rfl (S.out.bk _ (List.mem_of_getElem? (i:=0) rfl)).1) rfl ?_
   exact⟨A,n,c,none,0,0,by rw[qz_ng],qz_RR (S.out.r 0 rfl),S.out.bel⟩
end Go.Proofs.YtphckmdnflbloaaGreat
