/- powerOfTwo of interval. bitLength of interval. wholeRoot of interval. -/
import Derived.Test.YtphckmdnflbloaaGreatQVaz
import Derived.Test.YtphckmdnflbloaaGreatQWez
import Derived.Test.YtphckmdnflbloaaGreatQWjz
import Derived.Test.YtphckmdnflbloaaGreatQTkz
namespace Go.Proofs.YtphckmdnflbloaaGreat
open Go.RowKit RQ
theorem res_pow2 (W:World) (tmps:Array Value) (g t:Nat) {v0 v1 v2:Value} (ht:tmps.getD 2 undef=.pointer (some ⟨g,0,none⟩)) (h:Cb W g #[v0,v1,v2] t) :
  (results Tryz.f99 tmps).run Tryz.prog W=.ok (.agg #[v0,v1,v2]) W:=by
 have c0:W.cell? ⟨g,0,none⟩=some v0:=h.cell rfl
 have c1:W.cell? ⟨g,1,none⟩=some v1:=h.cell rfl
 have c2:W.cell? ⟨g,2,none⟩=some v2:=h.cell rfl
 have ht':tmps[2]?.getD undef=.pointer (some ⟨g,0,none⟩):=by rw[←ht];simp[Array.getD_eq_getD_getElem?]
 simp[results,Tryz.results99,go_sem,ht',c0,c1,c2]
theorem p2_den (s:Nat):((((2^s:Nat):Int):Rat)⁻¹).num=1∧((((2^s:Nat):Int):Rat)⁻¹).den=2^s:=by
 have hp:0<2^s:=Nat.pow_pos (by decide)
 have hne:(((2^s:Nat):Int):Rat)≠0:=by
  intro h
  have:=congrArg Rat.num h
  rw[Rat.num_intCast,show (0:Rat).num=0 from rfl] at this
  omega
 obtain⟨h1,h2,h3⟩:=inv_parts hne
 rw[Rat.num_intCast] at h2 h3
 rw[Rat.den_intCast] at h1
 refine⟨?_,by rw[h3];simp⟩
 have h4:¬ ((((2^s:Nat):Int):Rat)⁻¹).num<0:=fun h=>by have:=h2.1 h;omega
 omega
theorem p2_RR {w:World} {A:Option Addr} {n c:Nat} {D:Option Addr} {m d:Nat} {s:Nat} (hs:1≤s) (h1:Rd w A n c (limbs 1)) (h2:Rd w D m d (limbs (2^s))):RR w A n c D m d (((2^s:Nat):Int):Rat)⁻¹:=by
 obtain⟨e1,e2⟩:=p2_den s
 refine⟨by rw[e1];exact h1,?_⟩
 unfold dn
 rw[if_neg,e2]
 ·exact h2
 ·rw[e2]
  obtain⟨j,rfl⟩:∃ j,s=j+1:=⟨s-1,by omega⟩
  rw[Nat.pow_succ]
  have:0<2^j:=Nat.pow_pos (by decide)
  omega
theorem p2_ng (s:Nat):ng ((((2^s:Nat):Int):Rat)⁻¹).num=false:=by rw[(p2_den s).1];rfl
theorem nat_ng (N:Nat):ng (((N:Nat):Int):Rat).num=false:=by rw[Rat.num_intCast];exact decide_eq_false (by omega)
set_option maxRecDepth 100000 in
set_option maxHeartbeats 4000000 in
theorem pow2_pos (k:Nat) (w:World) (hk:k≤100000):Calls Tryz.prog 99 #[.int .i64 k] w (RetR (((2^k:Nat):Int):Rat) w):=by
 have hmk:∀ W:World,(Instr.makeSlice 22 (.int .i64 ((k:Int) / 32+1)) (.int .i64 ((k:Int) / 32+1))).run Tryz.prog W=.ok (.slice (some ⟨W.heap.size,0,none⟩) (k / 32+1) (k / 32+1)) (W.alloc (.cells (madeCells #[.int .u32 0] (k / 32+1)) 119)):=by
  intro W
  have:=make_u32 (k / 32+1) (by omega) .i64 .i64 W
  rw[show ((k / 32+1:Nat):Int)=(k:Int) / 32+1 by omega] at this
  exact this
 have O:=Own.new (World.alloc w (.cells #[.bool false,.slice none 0 0,.slice none 0 0] 26)) (k / 32+1)
 have hcell:=O.cell (k:=k / 32) (by simp)
 have hfz:=O.frozen (k / 32)
 have hp:2^(k%32)<4294967296:=Nat.lt_of_le_of_lt (Nat.pow_le_pow_right (by omega) (show k%32≤31 by omega)) (by decide)
 have O2:=Own.newset (World.alloc w (.cells #[.bool false,.slice (some ⟨w.heap.size+1,0,none⟩) (k / 32+1) (k / 32+1),.slice none 0 0] 26)) (k / 32+1) (k / 32) (2^(k%32)) hp
 rw[pow_list] at O2
 have hl:(limbs (2^k)).length=k / 32+1:=by rw[←pow_list];simp
 have hc:((2^(k%32):Nat):Int)=2^(k%32)%4294967296:=by
  have e:((2^(k%32):Nat):Int)=2^(k%32):=by simp
  rw[←e];exact (Int.emod_eq_of_lt (Int.natCast_nonneg _) (Int.ofNat_lt.2 hp)).symm
 rw[hc] at O2
 have R:=O2.rdn hl (Nat.le_refl _)
 rw[show (World.alloc w (.cells #[.bool false,.slice (some ⟨w.heap.size+1,0,none⟩) (k / 32+1) (k / 32+1),.slice none 0 0] 26)).heap.size=w.heap.size+1 by simp] at R
 rw[show (World.alloc w (.cells #[.bool false,.slice none 0 0,.slice none 0 0] 26)).heap.size=w.heap.size+1 by simp] at hcell hfz
 have S1:=(((St.new w).allocAt (w.heap.size) #[.bool false,.slice (some ⟨w.heap.size+1,0,none⟩) (k / 32+1) (k / 32+1),.slice none 0 0] 26 (noL3 _ _ _ _ _ _ _) (by simp)).call ((Below.refl _ _).alloc (Nat.le_refl _) (.cells ((madeCells #[.int .u32 0] (k / 32+1)).setIfInBounds (k / 32) (.int .u32 (2^(k%32)%4294967296))) 119))).read R
 have S:=Lib.hid S1
 have hmx:max (k:Int) (-(k:Int))=(k:Int):=by omega
 have hw:IntKind.i64.wrap (-(k:Int)) = -(k:Int):=IntWalk.i64_in _ (by omega)
 clear O hc hp O2 R S1 hl
 go_enter Tryz.func99,Tryz.ntmps99
 go_wp2
 refine bodyPost_ret (res_pow2 _ _ (w.heap.size) 26 rfl (S.out.bk _ (List.mem_of_getElem? (i:=0) rfl)).1) rfl ?_
 exact⟨some ⟨w.heap.size+1,0,none⟩,k / 32+1,k / 32+1,none,0,0,by rw[nat_ng],⟨S.out.r 0 rfl,by rw[show dn (((2^k:Nat):Int):Rat)=[] from rfl];exact Rd.nil_ _ _ _⟩,S.out.bel⟩
set_option maxRecDepth 100000 in
set_option maxHeartbeats 4000000 in
theorem pow2_neg (k:Nat) (w:World) (h1:1≤k) (hk:k≤100000):Calls Tryz.prog 99 #[.int .i64 (-(k:Int))] w (RetR (((2^k:Nat):Int):Rat)⁻¹ w):=by
 have hmk:∀ W:World,(Instr.makeSlice 22 (.int .i64 ((k:Int) / 32+1)) (.int .i64 ((k:Int) / 32+1))).run Tryz.prog W=.ok (.slice (some ⟨W.heap.size,0,none⟩) (k / 32+1) (k / 32+1)) (W.alloc (.cells (madeCells #[.int .u32 0] (k / 32+1)) 119)):=by
  intro W
  have:=make_u32 (k / 32+1) (by omega) .i64 .i64 W
  rw[show ((k / 32+1:Nat):Int)=(k:Int) / 32+1 by omega] at this
  exact this
 have O:=Own.new (World.alloc w (.cells #[.bool false,.slice none 0 0,.slice none 0 0] 26)) (k / 32+1)
 have hcell:=O.cell (k:=k / 32) (by simp)
 have hfz:=O.frozen (k / 32)
 have hp:2^(k%32)<4294967296:=Nat.lt_of_le_of_lt (Nat.pow_le_pow_right (by omega) (show k%32≤31 by omega)) (by decide)
 have O2:=Own.newset (World.alloc w (.cells #[.bool false,.slice (some ⟨w.heap.size+2,0,none⟩) 1 1,.slice (some ⟨w.heap.size+1,0,none⟩) (k / 32+1) (k / 32+1)] 26)) (k / 32+1) (k / 32) (2^(k%32)) hp
 rw[pow_list] at O2
 have hl:(limbs (2^k)).length=k / 32+1:=by rw[←pow_list];simp
 have hc:((2^(k%32):Nat):Int)=2^(k%32)%4294967296:=by
  have e:((2^(k%32):Nat):Int)=2^(k%32):=by simp
  rw[←e];exact (Int.emod_eq_of_lt (Int.natCast_nonneg _) (Int.ofNat_lt.2 hp)).symm
 rw[hc] at O2
 have R:=O2.rdn hl (Nat.le_refl _)
 rw[show (World.alloc w (.cells #[.bool false,.slice (some ⟨w.heap.size+2,0,none⟩) 1 1,.slice (some ⟨w.heap.size+1,0,none⟩) (k / 32+1) (k / 32+1)] 26)).heap.size=w.heap.size+1 by simp] at R
 rw[show (World.alloc w (.cells #[.bool false,.slice none 0 0,.slice none 0 0] 26)).heap.size=w.heap.size+1 by simp] at hcell hfz
 have S1:=(((St.new w).allocAt (w.heap.size) #[.bool false,.slice (some ⟨w.heap.size+2,0,none⟩) 1 1,.slice (some ⟨w.heap.size+1,0,none⟩) (k / 32+1) (k / 32+1)] 26 (noL3 _ _ _ _ _ _ _) (by simp)).call ((Below.refl _ _).alloc (Nat.le_refl _) (.cells ((madeCells #[.int .u32 0] (k / 32+1)).setIfInBounds (k / 32) (.int .u32 (2^(k%32)%4294967296))) 119))).read R
 have O3:=Own.lit (World.alloc (World.alloc w (.cells #[.bool false,.slice (some ⟨w.heap.size+2,0,none⟩) 1 1,.slice (some ⟨w.heap.size+1,0,none⟩) (k / 32+1) (k / 32+1)] 26)) (.cells ((madeCells #[.int .u32 0] (k / 32+1)).setIfInBounds (k / 32) (.int .u32 (2^(k%32)%4294967296))) 119)) [1] (by intro x hx;simp at hx;subst hx;decide)
 have R3:=O3.rdn (n:=1) rfl (Nat.le_refl _)
 rw[show (World.alloc (World.alloc w (.cells #[.bool false,.slice (some ⟨w.heap.size+2,0,none⟩) 1 1,.slice (some ⟨w.heap.size+1,0,none⟩) (k / 32+1) (k / 32+1)] 26)) (.cells ((madeCells #[.int .u32 0] (k / 32+1)).setIfInBounds (k / 32) (.int .u32 (2^(k%32)%4294967296))) 119)).heap.size=w.heap.size+2 by simp] at R3
 have S2:=(S1.call ((Below.refl _ _).alloc (Nat.le_refl _) (.cells #[.int .u32 1] 119))).read R3
 have S:=Lib.hid S2
 have hmx:max (-(k:Int)) (k:Int)=(k:Int):=by omega
 have hw:IntKind.i64.wrap (k:Int)=(k:Int):=IntWalk.i64_in _ (by omega)
 have hlt:decide (-(k:Int)<0)=true:=decide_eq_true (by omega)
 have h1':=Lib.hid h1
 clear O hc hp O2 R S1 hl O3 R3 S2 h1
 go_enter Tryz.func99,Tryz.ntmps99
 go_wp2
 refine bodyPost_ret (res_pow2 _ _ (w.heap.size) 26 rfl (S.out.bk _ (List.mem_of_getElem? (i:=0) rfl)).1) rfl ?_
 exact⟨_,_,_,_,_,_,by rw[p2_ng],p2_RR h1'.out (by rw[limbs_is1];exact S.out.r 0 rfl) (S.out.r 1 rfl),S.out.bel⟩
end Go.Proofs.YtphckmdnflbloaaGreat

namespace Go.Proofs.YtphckmdnflbloaaGreat
open Go.RowKit RQ
set_option maxRecDepth 100000 in
set_option maxHeartbeats 4000000 in
theorem bitLength_any (b:Bool) (A:Option Addr) (n c N:Nat) (D:Option Addr) (m d:Nat) (w:World) (R:Rd w A n c (limbs N)) (hN:0<N) (hn:n≤1000):Calls Tryz.prog 154 #[.agg #[.bool b,.slice A n c,.slice D m d]] w fun e w'=>∃ B:Nat,e=.returned (.int .i64 B)∧isq N≤2^((B+1) / 2)∧B≤32*n∧Below w.heap.size w w':=by
 obtain⟨j,hj⟩:∃ j,n=j+1:=by
  have:=R.len
  rw[limbs_pos hN] at this
  exact⟨n-1,by simp at this;omega⟩
 subst hj
 obtain⟨bk,of,x,rfl,_,hx,hxe,hcell⟩:=R.at_ (k:=j) (by omega)
 have hB:=Tryz.bits_Len32 (x:Int)
 have hst:=root_start (X:=limbs N) (n:=j) (b:=Lib.bitLen x) R.sm R.len (by rw[hxe];exact (bitLen_spec x (by omega)).1)
 rw[val_limbs] at hst
 have hbl:Lib.bitLen x≤32:=Lib.bitLen_le x 32 (by omega) (by omega)
 have hL:=Lib.hid (fun W=>hB W (by omega) (by omega))
 rw[show ((x:Int)).toNat=x by omega] at hL
 have S:=Lib.hid ((St.new w).allocAt (w.heap.size) #[.bool b,.slice (some ⟨bk,of,none⟩) (j+1) c,.slice D m d] 26 (noL3 _ _ _ _ _ _ _) (by simp))
 have hcell2:=(R.alloc (.cells #[.bool b,.slice (some ⟨bk,of,none⟩) (j+1) c,.slice D m d] 26)).at_ (k:=j) (by omega)
 obtain⟨bk2,of2,x2,e2,_,hx2,hxe2,hcell2⟩:=hcell2
 simp only[Option.some.injEq,Addr.mk.injEq,and_true] at e2
 obtain⟨rfl,rfl⟩:=e2
 obtain rfl:x=x2:=hxe.symm.trans hxe2
 have w1:IntKind.i64.wrap ((j:Int)+1-1)=(j:Int):=by rw[show (j:Int)+1-1=(j:Int) by omega];exact IntWalk.i64_in _ (by omega)
 have w2:IntKind.i64.wrap (32*(j:Int))=32*(j:Int):=IntWalk.i64_in _ (by omega)
 have w3:IntKind.i64.wrap (32*(j:Int)+(Lib.bitLen x:Int))=32*(j:Int)+(Lib.bitLen x:Int):=IntWalk.i64_in _ (by omega)
 have g1:(0:Int)≤(j:Int):=by omega
 have g2:(j:Int)<(j:Int)+1:=by omega
 generalize hbx:Lib.bitLen x=B at *
 replace hst:=Lib.hid hst
 replace hbl:=Lib.hid hbl
 clear hcell hx hxe hx2 hxe2 hB R
 go_enter Tryz.func154,Tryz.ntmps154
 go_wp2_with fail
 refine (hL.out _).mono ?_
 rintro e w1 ⟨rfl,rfl⟩
 go_wp2
 go_ret
 exact⟨32*j+B,by simp,hst.out,by have:=hbl.out;omega,S.out.bel⟩
end Go.Proofs.YtphckmdnflbloaaGreat

namespace Go.Proofs.YtphckmdnflbloaaGreat
open Go.RowKit RQ
def qz (N:Nat):Rat:=((N:Int):Rat)
theorem qz_le {a b:Nat}:qz a≤qz b↔a≤b:=by unfold qz;rw[Rat.intCast_le_intCast];omega
theorem qz_lt {a b:Nat}:qz a<qz b↔a<b:=by unfold qz;rw[Rat.intCast_lt_intCast];omega
theorem qz_add (a b:Nat):qz (a+b)=qz a+qz b:=by unfold qz;rw[←Rat.intCast_add];rfl
theorem qz_mul (a b:Nat):qz (a*b)=qz a*qz b:=by unfold qz;rw[←Rat.intCast_mul];rfl
theorem floor_is {x:Rat} {m:Nat} (h1:qz m≤x) (h2:x<qz (m+1)):x.floor=(m:Int):=by
 have e1:(m:Int)≤x.floor:=Rat.le_floor_iff.2 h1
 have e2:x.floor<((m+1:Nat):Int):=Rat.floor_lt_iff.2 h2
 omega
theorem newton_floor {N r:Nat} (hr:0<r):((qz r+qz N / qz r)*(qz 2)⁻¹).floor=(((r+N / r) / 2:Nat):Int):=by
 have hq:qz r≠0:=by
  intro h
  have:qz r=qz 0:=h
  have:=qz_le.1 (show qz r≤qz 0 by rw[this];exact Rat.le_refl)
  omega
 have p:0<qz r:=(qz_lt (a:=0)).2 hr
 generalize ht:qz N / qz r=t
 have h1:t*qz r=qz N:=by rw[←ht];exact Rat.div_mul_cancel hq
 generalize hk:N / r=k
 have hk1:k*r≤N:=by rw[←hk];exact Nat.div_mul_le_self N r
 have hk2:N<(k+1)*r:=by rw[←hk];have:=Nat.div_add_mod N r;have:=Nat.mod_lt N hr;rw[Nat.add_mul,Nat.mul_comm (N / r)];omega
 have t1:qz k≤t:=by
  apply Rat.le_of_mul_le_mul_right (c:=qz r) _ p
  rw[h1,←qz_mul];exact qz_le.2 hk1
 have t2:t<qz (k+1):=by
  apply Rat.not_le.1
  intro h
  have:=Rat.mul_le_mul_of_nonneg_right h (Rat.le_of_lt p)
  rw[h1,←qz_mul] at this
  have:=qz_le.1 this
  omega
 have two:qz 2=2:=rfl
 have i2:(qz 2)⁻¹*2=1:=by rw[two];exact Rat.inv_mul_cancel 2 (by decide)
 generalize (qz 2)⁻¹=u at *
 have hm:2*((r+k) / 2)≤r+k:=by omega
 have hm':r+k+1≤2*((r+k) / 2+1):=by omega
 generalize (r+k) / 2=m at *
 have hu:(qz r+t)*u*2=qz r+t:=by rw[Rat.mul_assoc,i2,Rat.mul_one]
 have b1:=qz_le.2 hm
 have b2:=qz_le.2 hm'
 rw[qz_mul,qz_add,two] at b1
 rw[qz_add,qz_add,qz_mul,two] at b2
 rw[qz_add] at t2
 generalize (qz r+t)*u=z at *
 apply floor_is
 ·grind
 ·grind
theorem p2_lt {e k:Nat} (h:e<32*k):2^e<4294967296^k:=by rw[pow_limb];exact Nat.pow_lt_pow_right (by decide) h
theorem qz_num (N:Nat):(qz N).num=(N:Int):=rfl
theorem qz_abs (N:Nat):(qz N).num.natAbs=N:=rfl
theorem qz_rs {N p:Nat} (h:N<4294967296^p) (hp:1≤p):Rs (qz N) p:=Rs.int (by rw[Int.natAbs_natCast];exact h) hp
theorem qz_cmp (a b:Nat):cmpq (qz a) (qz b)<0↔a<b:=by rw[cmpq_neg,qz_lt]
theorem res_whole (W:World) (tmps:Array Value) (g t:Nat) {v0 v1 v2:Value} (ht:tmps.getD 2 undef=.pointer (some ⟨g,0,none⟩)) (h:Cb W g #[v0,v1,v2] t) :
  (results Tryz.f101 tmps).run Tryz.prog W=.ok (.agg #[v0,v1,v2]) W:=by
 have c0:W.cell? ⟨g,0,none⟩=some v0:=h.cell rfl
 have c1:W.cell? ⟨g,1,none⟩=some v1:=h.cell rfl
 have c2:W.cell? ⟨g,2,none⟩=some v2:=h.cell rfl
 have ht':tmps[2]?.getD undef=.pointer (some ⟨g,0,none⟩):=by rw[←ht];simp[Array.getD_eq_getD_getElem?]
 simp[results,Tryz.results101,go_sem,ht',c0,c1,c2]
set_option maxRecDepth 100000 in
set_option maxHeartbeats 8000000 in
theorem whole_any (N:Nat) (X:Rat) (hX:X=qz N) (A:Option Addr) (n c:Nat) (D:Option Addr) (m d:Nat) (w:World) (R:RR w A n c D m d X) (hN:N<4294967296^19):Calls Tryz.prog 101 #[.agg #[.bool (ng X.num),.slice A n c,.slice D m d]] w (RetR (qz (isq N)) w):=by
 have hXs:Rs X 19:=hX ▸ qz_rs hN (by decide)
 have l:=R.lens hXs
 by_cases h0:N=0
 ·have hS:Hid (∀ W,RR W A n c D m d X→Calls Tryz.prog 98 #[.agg #[.bool (ng X.num),.slice A n c,.slice D m d]] W fun e w'=>e=.returned (.int .i64 0)∧Below W.heap.size W w'):=Lib.hid fun W h=>by
   have:=signQ X A n c D m d W h (hXs.mono (by decide))
   rwa [show X.num.sign=0 by rw[hX,h0];rfl] at this
  rw[show qz (isq N)=0 by rw[h0];rfl]
  have S:=(((((St.new w).read R.n).read R.d).allocAt (w.heap.size) #[.bool (ng X.num),.slice A n c,.slice D m d] 26 (noL3 _ _ _ _ _ _ _) (by simp)).allocAt (w.heap.size+1) #[.bool false,.slice none 0 0,.slice none 0 0] 26 (noL3 _ _ _ _ _ _ _) (by simp))
  replace S:=Lib.hid S
  clear R l hXs hX h0 hN
  go_enter Tryz.func101,Tryz.ntmps101
  go_wp2_with fail
  refine (hS.out _ ⟨S.out.r 1 rfl,S.out.r 0 rfl⟩).mono ?_
  rintro e w1 ⟨rfl,bb⟩
  have T:=(S.out.call bb)
  clear bb S
  have S:=T
  clear T
  obtain⟨c_r0,c_r1,c_r2,f_r0,f_r1,f_r2⟩:=S.cf3 0 rfl
  obtain⟨c_x0,c_x1,c_x2,f_x0,f_x1,f_x2⟩:=S.cf3 1 rfl
  have hz:w.heap.size+1<w1.heap.size:=S.lt 0 rfl
  replace S:=Lib.hid S
  clear hS
  have S:St w _ [(w.heap.size+1,#[.bool false,.slice none 0 0,.slice none 0 0],26),(w.heap.size,#[.bool (ng X.num),.slice A n c,.slice D m d],26)] [(D,m,d,dn X),(A,n,c,limbs X.num.natAbs)]:=(((S.out.set 0 0 (.bool false) rfl (by nofun)).set 0 1 (.slice none 0 0) rfl (by nofun)).set 0 2 (.slice none 0 0) rfl (by nofun))
  replace S:=Lib.hid S
  go_wp2
  refine bodyPost_ret (res_whole _ _ (w.heap.size+1) 26 rfl (S.out.bk _ (List.mem_of_getElem? (i:=0) rfl)).1) rfl ?_
  exact⟨_,_,_,_,_,_,rfl,zero_RR _ _ _ _ _,S.out.bel⟩
 ·have hpos:0<N:=Nat.pos_of_ne_zero h0
  have hsg:(X.num.sign==0)=false:=by rw[hX,beq_eq_false_iff_ne];intro h;have:=Int.sign_eq_zero_iff_zero.1 h;rw[qz_num] at this;omega
  have hS:Hid (∀ W,RR W A n c D m d X→Calls Tryz.prog 98 #[.agg #[.bool (ng X.num),.slice A n c,.slice D m d]] W fun e w'=>e=.returned (.int .i64 X.num.sign)∧Below W.heap.size W w'):=Lib.hid fun W h=>signQ X A n c D m d W h (hXs.mono (by decide))
  have hB:Hid (∀ W,RR W A n c D m d X→Calls Tryz.prog 154 #[.agg #[.bool (ng X.num),.slice A n c,.slice D m d]] W fun e w'=>∃ B:Nat,e=.returned (.int .i64 B)∧isq N≤2^((B+1) / 2)∧B≤32*n∧Below W.heap.size W w'):=Lib.hid fun W h=>bitLength_any _ A n c N D m d W (by have:=h.n;rwa [hX,qz_abs] at this) hpos (by omega)
  have hD:Hid (∀ r:Nat,0<r→r<4294967296^20→∀ W A' n' c' D' m' d',RR W A n c D m d X→RR W A' n' c' D' m' d' (qz r)→Calls Tryz.prog 81 #[.agg #[.bool (ng X.num),.slice A n c,.slice D m d],.agg #[.bool (ng (qz r).num),.slice A' n' c',.slice D' m' d']] W (RetRE (X / qz r) (.int .i64 0) W)):=Lib.hid fun r hr hr' W A' n' c' D' m' d' h1 h2=>by
   have:=divQ X (qz r) A n c D m d A' n' c' D' m' d' W h1 h2 (hXs.mono (by decide)) ((qz_rs hr' (by decide)).mono (by decide))
   rwa [show dvE (qz r)=0 from if_neg (fun h=>by have:=qz_le.1 (show qz r≤qz 0 by rw[show qz r=qz 0 from h];exact Rat.le_refl);omega)] at this
  have hQs:Hid (∀ r:Nat,r<4294967296^20→Rs (X / qz r) 39):=Lib.hid fun r hr=>by rw[div_eq];exact hXs.mul ((qz_rs hr (by decide)).inv (by decide))
  have hle:n≤19:=l.1
  generalize X.num.sign=sgx at *
  replace hN:=Lib.hid hN
  replace hpos:=Lib.hid hpos
  replace hX:=Lib.hid hX
  replace hXs:=Lib.hid hXs
  clear h0 l
  have S:=(((((St.new w).read R.n).read R.d).allocAt (w.heap.size) #[.bool (ng X.num),.slice A n c,.slice D m d] 26 (noL3 _ _ _ _ _ _ _) (by simp)).allocAt (w.heap.size+1) #[.bool false,.slice none 0 0,.slice none 0 0] 26 (noL3 _ _ _ _ _ _ _) (by simp))
  replace S:=Lib.hid S
  clear R
  replace hle:=Lib.hid hle
  go_enter Tryz.func101,Tryz.ntmps101
  go_wp2_with fail
  refine (hS.out _ ⟨S.out.r 1 rfl,S.out.r 0 rfl⟩).mono ?_
  rintro e w1 ⟨rfl,bb⟩
  have T:=(S.out.call bb)
  clear bb S
  have S:=T
  clear T
  obtain⟨c_r0,c_r1,c_r2,f_r0,f_r1,f_r2⟩:=S.cf3 0 rfl
  obtain⟨c_x0,c_x1,c_x2,f_x0,f_x1,f_x2⟩:=S.cf3 1 rfl
  have hz:w.heap.size+1<w1.heap.size:=S.lt 0 rfl
  replace S:=Lib.hid S
  clear hS
  go_wp2_with fail
  refine (hB.out _ ⟨S.out.r 1 rfl,S.out.r 0 rfl⟩).mono ?_
  rintro e w2 ⟨B,rfl,hst,hbd,bb⟩
  have T:=(S.out.call bb)
  clear bb S c_r0 f_r0 c_r1 f_r1 c_r2 f_r2 c_x0 f_x0 c_x1 f_x1 c_x2 f_x2 hz
  have S:=T
  clear T
  obtain⟨c_r0,c_r1,c_r2,f_r0,f_r1,f_r2⟩:=S.cf3 0 rfl
  obtain⟨c_x0,c_x1,c_x2,f_x0,f_x1,f_x2⟩:=S.cf3 1 rfl
  have hz:w.heap.size+1<w2.heap.size:=S.lt 0 rfl
  replace S:=Lib.hid S
  clear hB hsg
  have hbd':B≤608:=by have:=hle.out;omega
  have hr0:Hid (2^((B+1) / 2)<4294967296^20):=Lib.hid (p2_lt (by omega))
  have hw1:IntKind.i64.wrap ((B:Int)+1)=(B:Int)+1:=IntWalk.i64_in _ (by omega)
  have hw2:wrap64 (((B:Int)+1).tdiv 2)=(((B+1) / 2:Nat):Int):=by rw[Int.tdiv_eq_ediv_of_nonneg (by omega)];unfold wrap64;omega
  have hP:Hid (∀ W,Calls Tryz.prog 99 #[.int .i64 (((B+1) / 2:Nat):Int)] W (RetR (qz (2^((B+1) / 2))) W)):=Lib.hid fun W=>pow2_pos ((B+1) / 2) W (by omega)
  have hp0:=Lib.hid (show 0<2^((B+1) / 2) from Nat.pow_pos (by decide))
  generalize 2^((B+1) / 2)=r0 at *
  generalize (B+1) / 2=e2 at *
  replace hst:=Lib.hid hst
  clear hbd hbd'
  go_wp2_with fail
  refine (hP.out _).mono ?_
  rintro e w3 ⟨A2,n2,c2,D2,m2,d2,rfl,Q2,bb⟩
  have T:=(((S.out.call bb).read Q2.n).read Q2.d)
  clear bb S c_r0 f_r0 c_r1 f_r1 c_r2 f_r2 c_x0 f_x0 c_x1 f_x1 c_x2 f_x2 hz
  have S:=T
  clear T
  obtain⟨c_r0,c_r1,c_r2,f_r0,f_r1,f_r2⟩:=S.cf3 0 rfl
  obtain⟨c_x0,c_x1,c_x2,f_x0,f_x1,f_x2⟩:=S.cf3 1 rfl
  have hz:w.heap.size+1<w3.heap.size:=S.lt 0 rfl
  replace S:=Lib.hid S
  clear Q2 hP
  have S:=(S.out.allocAt (w3.heap.size) #[.bool (ng ((qz r0)).num),.slice A2 n2 c2,.slice D2 m2 d2] 26 (noL3 _ _ _ _ _ _ _) (by simp))
  replace S:=Lib.hid S
  go_wp2
  go_loopg [] r0 (fun r wr=>∃ (A2:Option Addr) (n2 c2:Nat) (D2:Option Addr) (m2 d2:Nat),0<r∧r≤r0∧isq N≤r∧St w wr [(w3.heap.size,#[.bool (ng (qz r).num),.slice A2 n2 c2,.slice D2 m2 d2],26),(w.heap.size+1,#[.bool false,.slice none 0 0,.slice none 0 0],26),(w.heap.size,#[.bool (ng X.num),.slice A n c,.slice D m d],26)] [(D2,m2,d2,dn (qz r)),(A2,n2,c2,limbs (qz r).num.natAbs),(D,m,d,dn X),(A,n,c,limbs X.num.natAbs)])
  case atStart=>exact⟨_,_,_,_,_,_,hp0.out,Nat.le_refl _,hst.out,S.out⟩
  case round=>
   clear S hp0 hst
   obtain⟨A2,n2,c2,D2,m2,d2,hr,hrr,hsr,S⟩:=hrel
   have hlt:gk<4294967296^20:=Nat.lt_of_le_of_lt hrr hr0.out
   have hN20:N<4294967296^20:=Nat.lt_of_lt_of_le hN.out (pow_mono (by decide))
   have hD':=Lib.hid (hD.out gk hr hlt)
   have hQ39:=Lib.hid (hQs.out gk hlt)
   have hR20:Hid (Rs (qz gk) 20):=Lib.hid (qz_rs hlt (by decide))
   have hfl:Hid (((qz gk+X / qz gk)*(qz 2)⁻¹).floor=(((gk+N / gk) / 2:Nat):Int)):=Lib.hid (by rw[hX.out];exact newton_floor hr)
   have hge:=Lib.hid (newton_ge (x:=N) hr)
   have hstop:=Lib.hid (fun h=>newton_stop (x:=N) hr hsr h)
   have hip:=Lib.hid (isq_pos (x:=N) hpos.out)
   have hm21:(gk+N / gk) / 2<4294967296^20:=by have:=Nat.div_le_self N gk;generalize 4294967296^20=P at *;omega
   have hY20:Hid (Rs (qz ((gk+N / gk) / 2)) 20):=Lib.hid (qz_rs hm21 (by decide))
   have hcm:cmpq (qz ((gk+N / gk) / 2)) (qz gk)<0↔(gk+N / gk) / 2<gk:=qz_cmp _ _
   have hH1:Hid (Rs (qz 2)⁻¹ 1):=Lib.hid ((qz_rs (N:=2) (p:=1) (by decide) (by decide)).inv (by decide))
   have hPw:Hid (∀ W,Calls Tryz.prog 99 #[.int .i64 (-1)] W (RetR (qz 2)⁻¹ W)):=Lib.hid fun W=>pow2_neg 1 W (by decide) (by decide)
   clear hlt hN20 hm21 hD hQs
   generalize (gk+N / gk) / 2=mm at *
   obtain⟨Y,hY⟩:∃ Y,qz mm=Y:=⟨_,rfl⟩
   have hYd:Hid (∀ W,Rd W none 0 0 (dn Y)):=Lib.hid fun W=>by rw[←hY];exact Rd.nil_ _ _ _
   have hfl2:Hid ((mm:Int)=Y.num):=Lib.hid (by rw[←hY];rfl)
   rw[hY] at hY20 hcm
   obtain⟨R,hR⟩:∃ R,qz gk=R:=⟨_,rfl⟩
   rw[hR] at S hD' hQ39 hR20 hfl hcm
   obtain⟨Q,hQ⟩:∃ Q,X / R=Q:=⟨_,rfl⟩
   rw[hQ] at hD' hQ39 hfl
   clear hQ
   have hT60:=Lib.hid (hR20.out.add hQ39.out)
   have hAd:Hid (∀ W A0 n0 c0 D0 m0 d0 A1 n1 c1 D1 m1 d1,RR W A0 n0 c0 D0 m0 d0 R→RR W A1 n1 c1 D1 m1 d1 Q→Calls Tryz.prog 86 #[.agg #[.bool (ng R.num),.slice A0 n0 c0,.slice D0 m0 d0],.agg #[.bool (ng Q.num),.slice A1 n1 c1,.slice D1 m1 d1]] W (RetR (R+Q) W)):=Lib.hid fun W A0 n0 c0 D0 m0 d0 A1 n1 c1 D1 m1 d1 X0 X1=>addQ R Q A0 n0 c0 D0 m0 d0 A1 n1 c1 D1 m1 d1 W X0 X1 (hR20.out.mono (by decide)) (hQ39.out.mono (by decide))
   obtain⟨H,hH⟩:∃ H,(qz 2)⁻¹=H:=⟨_,rfl⟩
   rw[hH] at hPw hH1 hfl
   clear hH
   obtain⟨T,hT⟩:∃ T,R+Q=T:=⟨_,rfl⟩
   rw[hT] at hAd hT60 hfl
   clear hT
   have hMu:Hid (∀ W A0 n0 c0 D0 m0 d0 A1 n1 c1 D1 m1 d1,RR W A0 n0 c0 D0 m0 d0 T→RR W A1 n1 c1 D1 m1 d1 H→Calls Tryz.prog 91 #[.agg #[.bool (ng T.num),.slice A0 n0 c0,.slice D0 m0 d0],.agg #[.bool (ng H.num),.slice A1 n1 c1,.slice D1 m1 d1]] W (RetR (T*H) W)):=Lib.hid fun W A0 n0 c0 D0 m0 d0 A1 n1 c1 D1 m1 d1 X0 X1=>mulQ T H A0 n0 c0 D0 m0 d0 A1 n1 c1 D1 m1 d1 W X0 X1 (hT60.out.mono (by decide)) (hH1.out.mono (by decide))
   have hM61:=Lib.hid (hT60.out.mul hH1.out)
   obtain⟨M,hM⟩:∃ M,T*H=M:=⟨_,rfl⟩
   rw[hM] at hMu hM61 hfl
   clear hM
   have hFl:Hid (∀ W A0 n0 c0 D0 m0 d0,RR W A0 n0 c0 D0 m0 d0 M→Calls Tryz.prog 100 #[.agg #[.bool (ng M.num),.slice A0 n0 c0,.slice D0 m0 d0]] W (fun e w'=>∃ A n c,e=.returned (.agg #[.bool (ng Y.num),.slice A n c])∧Rd w' A n c (limbs Y.num.natAbs)∧Below W.heap.size W w')):=Lib.hid fun W A0 n0 c0 D0 m0 d0 X0=>by
    have:=floorQ M A0 n0 c0 D0 m0 d0 W X0 (hM61.out.mono (by decide))
    rw[hfl.out,hfl2.out] at this;exact this
   have hCm:Hid (∀ W A0 n0 c0 D0 m0 d0 A1 n1 c1 D1 m1 d1,RR W A0 n0 c0 D0 m0 d0 Y→RR W A1 n1 c1 D1 m1 d1 R→Calls Tryz.prog 102 #[.agg #[.bool (ng Y.num),.slice A0 n0 c0,.slice D0 m0 d0],.agg #[.bool (ng R.num),.slice A1 n1 c1,.slice D1 m1 d1]] W (fun e w'=>e=.returned (.int .i64 (cmpq Y R))∧Below W.heap.size W w')):=Lib.hid fun W A0 n0 c0 D0 m0 d0 A1 n1 c1 D1 m1 d1 X0 X1=>compareQ Y R A0 n0 c0 D0 m0 d0 A1 n1 c1 D1 m1 d1 W X0 X1 (hY20.out.mono (by decide)) (hR20.out.mono (by decide))
   generalize cmpq Y R=cc at *
   replace hR:=Lib.hid hR
   replace hY:=Lib.hid hY
   replace hr:=Lib.hid hr
   replace hrr:=Lib.hid hrr
   replace hsr:=Lib.hid hsr
   clear hfl hfl2 hQ39 hR20 hT60 hM61 hH1 hY20 hX hXs hpos hN hle hr0
   by_cases hlt:mm<gk
   ·have hcc:decide (0≤cc)=false:=decide_eq_false (by have:=hcm.2 hlt;omega)
    replace hlt:=Lib.hid hlt
    clear hcm hstop
    obtain⟨c_t0,c_t1,c_t2,f_t0,f_t1,f_t2⟩:=S.cf3 0 rfl
    obtain⟨c_r0,c_r1,c_r2,f_r0,f_r1,f_r2⟩:=S.cf3 1 rfl
    obtain⟨c_x0,c_x1,c_x2,f_x0,f_x1,f_x2⟩:=S.cf3 2 rfl
    have hz:w3.heap.size<wr.heap.size:=S.lt 0 rfl
    replace S:=Lib.hid S
    go_wp2_with fail
    refine (hD'.out _ _ _ _ _ _ _ ⟨S.out.r 3 rfl,S.out.r 2 rfl⟩ ⟨S.out.r 1 rfl,S.out.r 0 rfl⟩).mono ?_
    rintro e w4 ⟨A7,n7,c7,D7,m7,d7,rfl,Q7,bb⟩
    have T:=(((S.out.call bb).read Q7.n).read Q7.d)
    clear bb S c_t0 f_t0 c_t1 f_t1 c_t2 f_t2 c_r0 f_r0 c_r1 f_r1 c_r2 f_r2 c_x0 f_x0 c_x1 f_x1 c_x2 f_x2 hz
    have S:=T
    clear T
    obtain⟨c_t0,c_t1,c_t2,f_t0,f_t1,f_t2⟩:=S.cf3 0 rfl
    obtain⟨c_r0,c_r1,c_r2,f_r0,f_r1,f_r2⟩:=S.cf3 1 rfl
    obtain⟨c_x0,c_x1,c_x2,f_x0,f_x1,f_x2⟩:=S.cf3 2 rfl
    have hz:w3.heap.size<w4.heap.size:=S.lt 0 rfl
    replace S:=Lib.hid S
    clear Q7
    have S:=(S.out.allocAt (w4.heap.size) #[.bool (ng Q.num),.slice A7 n7 c7,.slice D7 m7 d7] 26 (noL3 _ _ _ _ _ _ _) (by simp))
    obtain⟨a_t0,a_t1,a_t2,b_t0,b_t1,b_t2⟩:=S.cf3 1 rfl
    replace S:=Lib.hid S
    go_wp2_with fail
    refine (hAd.out _ _ _ _ _ _ _ _ _ _ _ _ _ ⟨S.out.r 3 rfl,S.out.r 2 rfl⟩ ⟨S.out.r 1 rfl,S.out.r 0 rfl⟩).mono ?_
    rintro e w5 ⟨A8,n8,c8,D8,m8,d8,rfl,Q8,bb⟩
    have T:=(((S.out.call bb).read Q8.n).read Q8.d)
    clear bb S c_t0 f_t0 c_t1 f_t1 c_t2 f_t2 c_r0 f_r0 c_r1 f_r1 c_r2 f_r2 c_x0 f_x0 c_x1 f_x1 c_x2 f_x2 hz a_t0 b_t0 a_t1 b_t1 a_t2 b_t2
    have S:=T
    clear T
    obtain⟨c_q0,c_q1,c_q2,f_q0,f_q1,f_q2⟩:=S.cf3 0 rfl
    obtain⟨c_t0,c_t1,c_t2,f_t0,f_t1,f_t2⟩:=S.cf3 1 rfl
    obtain⟨c_r0,c_r1,c_r2,f_r0,f_r1,f_r2⟩:=S.cf3 2 rfl
    obtain⟨c_x0,c_x1,c_x2,f_x0,f_x1,f_x2⟩:=S.cf3 3 rfl
    have hz:w4.heap.size<w5.heap.size:=S.lt 0 rfl
    replace S:=Lib.hid S
    clear Q8
    go_wp2_with fail
    refine (hPw.out _).mono ?_
    rintro e w6 ⟨A9,n9,c9,D9,m9,d9,rfl,Q9,bb⟩
    have T:=(((S.out.call bb).read Q9.n).read Q9.d)
    clear bb S c_q0 f_q0 c_q1 f_q1 c_q2 f_q2 c_t0 f_t0 c_t1 f_t1 c_t2 f_t2 c_r0 f_r0 c_r1 f_r1 c_r2 f_r2 c_x0 f_x0 c_x1 f_x1 c_x2 f_x2 hz
    have S:=T
    clear T
    obtain⟨c_q0,c_q1,c_q2,f_q0,f_q1,f_q2⟩:=S.cf3 0 rfl
    obtain⟨c_t0,c_t1,c_t2,f_t0,f_t1,f_t2⟩:=S.cf3 1 rfl
    obtain⟨c_r0,c_r1,c_r2,f_r0,f_r1,f_r2⟩:=S.cf3 2 rfl
    obtain⟨c_x0,c_x1,c_x2,f_x0,f_x1,f_x2⟩:=S.cf3 3 rfl
    have hz:w4.heap.size<w6.heap.size:=S.lt 0 rfl
    replace S:=Lib.hid S
    clear Q9
    go_wp2_with fail
    refine (hMu.out _ _ _ _ _ _ _ _ _ _ _ _ _ ⟨S.out.r 3 rfl,S.out.r 2 rfl⟩ ⟨S.out.r 1 rfl,S.out.r 0 rfl⟩).mono ?_
    rintro e w7 ⟨A10,n10,c10,D10,m10,d10,rfl,Q10,bb⟩
    have T:=(((S.out.call bb).read Q10.n).read Q10.d)
    clear bb S c_q0 f_q0 c_q1 f_q1 c_q2 f_q2 c_t0 f_t0 c_t1 f_t1 c_t2 f_t2 c_r0 f_r0 c_r1 f_r1 c_r2 f_r2 c_x0 f_x0 c_x1 f_x1 c_x2 f_x2 hz
    have S:=T
    clear T
    obtain⟨c_q0,c_q1,c_q2,f_q0,f_q1,f_q2⟩:=S.cf3 0 rfl
    obtain⟨c_t0,c_t1,c_t2,f_t0,f_t1,f_t2⟩:=S.cf3 1 rfl
    obtain⟨c_r0,c_r1,c_r2,f_r0,f_r1,f_r2⟩:=S.cf3 2 rfl
    obtain⟨c_x0,c_x1,c_x2,f_x0,f_x1,f_x2⟩:=S.cf3 3 rfl
    have hz:w4.heap.size<w7.heap.size:=S.lt 0 rfl
    replace S:=Lib.hid S
    clear Q10
    have S:=(S.out.allocAt (w7.heap.size) #[.bool (ng M.num),.slice A10 n10 c10,.slice D10 m10 d10] 26 (noL3 _ _ _ _ _ _ _) (by simp))
    replace S:=Lib.hid S
    go_wp2_with fail
    refine (hFl.out _ _ _ _ _ _ _ ⟨S.out.r 1 rfl,S.out.r 0 rfl⟩).mono ?_
    rintro e w8 ⟨A11,n11,c11,rfl,Q11,bb⟩
    have T:=((S.out.call bb).read Q11)
    clear bb S c_q0 f_q0 c_q1 f_q1 c_q2 f_q2 c_t0 f_t0 c_t1 f_t1 c_t2 f_t2 c_r0 f_r0 c_r1 f_r1 c_r2 f_r2 c_x0 f_x0 c_x1 f_x1 c_x2 f_x2 hz
    have S:=T
    clear T
    obtain⟨c_mi0,c_mi1,c_mi2,f_mi0,f_mi1,f_mi2⟩:=S.cf3 0 rfl
    obtain⟨c_q0,c_q1,c_q2,f_q0,f_q1,f_q2⟩:=S.cf3 1 rfl
    obtain⟨c_t0,c_t1,c_t2,f_t0,f_t1,f_t2⟩:=S.cf3 2 rfl
    obtain⟨c_r0,c_r1,c_r2,f_r0,f_r1,f_r2⟩:=S.cf3 3 rfl
    obtain⟨c_x0,c_x1,c_x2,f_x0,f_x1,f_x2⟩:=S.cf3 4 rfl
    have hz:w7.heap.size<w8.heap.size:=S.lt 0 rfl
    replace S:=Lib.hid S
    clear Q11
    have S:=((S.out.read (hYd.out _)).allocAt (w8.heap.size) #[.bool (ng Y.num),.slice A11 n11 c11,.slice none 0 0] 26 (noL3 _ _ _ _ _ _ _) (by simp))
    obtain⟨a_t0,a_t1,a_t2,b_t0,b_t1,b_t2⟩:=S.cf3 3 rfl
    replace S:=Lib.hid S
    go_wp2_with fail
    refine (hCm.out _ _ _ _ _ _ _ _ _ _ _ _ _ ⟨S.out.r 1 rfl,S.out.r 0 rfl⟩ ⟨S.out.r 11 rfl,S.out.r 10 rfl⟩).mono ?_
    rintro e w9 ⟨rfl,bb⟩
    have T:=(S.out.call bb)
    clear bb S c_mi0 f_mi0 c_mi1 f_mi1 c_mi2 f_mi2 c_q0 f_q0 c_q1 f_q1 c_q2 f_q2 c_t0 f_t0 c_t1 f_t1 c_t2 f_t2 c_r0 f_r0 c_r1 f_r1 c_r2 f_r2 c_x0 f_x0 c_x1 f_x1 c_x2 f_x2 hz a_t0 b_t0 a_t1 b_t1 a_t2 b_t2
    have S:=T
    clear T
    obtain⟨c_nx0,c_nx1,c_nx2,f_nx0,f_nx1,f_nx2⟩:=S.cf3 0 rfl
    obtain⟨c_mi0,c_mi1,c_mi2,f_mi0,f_mi1,f_mi2⟩:=S.cf3 1 rfl
    obtain⟨c_q0,c_q1,c_q2,f_q0,f_q1,f_q2⟩:=S.cf3 2 rfl
    obtain⟨c_t0,c_t1,c_t2,f_t0,f_t1,f_t2⟩:=S.cf3 3 rfl
    obtain⟨c_r0,c_r1,c_r2,f_r0,f_r1,f_r2⟩:=S.cf3 4 rfl
    obtain⟨c_x0,c_x1,c_x2,f_x0,f_x1,f_x2⟩:=S.cf3 5 rfl
    have hz:w8.heap.size<w9.heap.size:=S.lt 0 rfl
    replace S:=Lib.hid S
    clear hCm hFl hMu hPw hAd hD'
    have S:St w _ [(w8.heap.size,#[.bool (ng Y.num),.slice A11 n11 c11,.slice none 0 0],26),(w7.heap.size,#[.bool (ng M.num),.slice A10 n10 c10,.slice D10 m10 d10],26),(w4.heap.size,#[.bool (ng Q.num),.slice A7 n7 c7,.slice D7 m7 d7],26),(w3.heap.size,#[.bool (ng Y.num),.slice A11 n11 c11,.slice none 0 0],26),(w.heap.size+1,#[.bool false,.slice none 0 0,.slice none 0 0],26),(w.heap.size,#[.bool (ng X.num),.slice A n c,.slice D m d],26)] [(none,0,0,dn Y),(A11,n11,c11,limbs Y.num.natAbs),(D10,m10,d10,dn M),(A10,n10,c10,limbs M.num.natAbs),(D9,m9,d9,dn H),(A9,n9,c9,limbs H.num.natAbs),(D8,m8,d8,dn T),(A8,n8,c8,limbs T.num.natAbs),(D7,m7,d7,dn Q),(A7,n7,c7,limbs Q.num.natAbs),(D2,m2,d2,dn R),(A2,n2,c2,limbs R.num.natAbs),(D,m,d,dn X),(A,n,c,limbs X.num.natAbs)]:=(((S.out.set 3 0 (.bool (ng Y.num)) rfl (by nofun)).set 3 1 (.slice A11 n11 c11) rfl (by nofun)).set 3 2 (.slice none 0 0) rfl (by nofun))
    replace S:=Lib.hid S
    go_wp2
    go_roundg mm
    case measure=>exact hlt.out
    case rel=>exact⟨A11,n11,c11,none,0,0,by have:=hip.out;have:=hge.out;omega,by have:=hlt.out;have:=hrr.out;omega,hge.out,by rw[hY.out];exact S.out.pick [3,4,5] [0,1,12,13] rfl (by decide) rfl⟩
   ·have hcc:decide (0≤cc)=true:=decide_eq_true (Int.not_lt.1 fun h=>hlt (hcm.1 h))
    have hfin:Hid (R=qz (isq N)):=Lib.hid (by rw[hstop.out (by omega)];exact hR.out.symm)
    clear hlt hcm hstop hge
    obtain⟨c_t0,c_t1,c_t2,f_t0,f_t1,f_t2⟩:=S.cf3 0 rfl
    obtain⟨c_r0,c_r1,c_r2,f_r0,f_r1,f_r2⟩:=S.cf3 1 rfl
    obtain⟨c_x0,c_x1,c_x2,f_x0,f_x1,f_x2⟩:=S.cf3 2 rfl
    have hz:w3.heap.size<wr.heap.size:=S.lt 0 rfl
    replace S:=Lib.hid S
    go_wp2_with fail
    refine (hD'.out _ _ _ _ _ _ _ ⟨S.out.r 3 rfl,S.out.r 2 rfl⟩ ⟨S.out.r 1 rfl,S.out.r 0 rfl⟩).mono ?_
    rintro e w4 ⟨A7,n7,c7,D7,m7,d7,rfl,Q7,bb⟩
    have T:=(((S.out.call bb).read Q7.n).read Q7.d)
    clear bb S c_t0 f_t0 c_t1 f_t1 c_t2 f_t2 c_r0 f_r0 c_r1 f_r1 c_r2 f_r2 c_x0 f_x0 c_x1 f_x1 c_x2 f_x2 hz
    have S:=T
    clear T
    obtain⟨c_t0,c_t1,c_t2,f_t0,f_t1,f_t2⟩:=S.cf3 0 rfl
    obtain⟨c_r0,c_r1,c_r2,f_r0,f_r1,f_r2⟩:=S.cf3 1 rfl
    obtain⟨c_x0,c_x1,c_x2,f_x0,f_x1,f_x2⟩:=S.cf3 2 rfl
    have hz:w3.heap.size<w4.heap.size:=S.lt 0 rfl
    replace S:=Lib.hid S
    clear Q7
    have S:=(S.out.allocAt (w4.heap.size) #[.bool (ng Q.num),.slice A7 n7 c7,.slice D7 m7 d7] 26 (noL3 _ _ _ _ _ _ _) (by simp))
    obtain⟨a_t0,a_t1,a_t2,b_t0,b_t1,b_t2⟩:=S.cf3 1 rfl
    replace S:=Lib.hid S
    go_wp2_with fail
    refine (hAd.out _ _ _ _ _ _ _ _ _ _ _ _ _ ⟨S.out.r 3 rfl,S.out.r 2 rfl⟩ ⟨S.out.r 1 rfl,S.out.r 0 rfl⟩).mono ?_
    rintro e w5 ⟨A8,n8,c8,D8,m8,d8,rfl,Q8,bb⟩
    have T:=(((S.out.call bb).read Q8.n).read Q8.d)
    clear bb S c_t0 f_t0 c_t1 f_t1 c_t2 f_t2 c_r0 f_r0 c_r1 f_r1 c_r2 f_r2 c_x0 f_x0 c_x1 f_x1 c_x2 f_x2 hz a_t0 b_t0 a_t1 b_t1 a_t2 b_t2
    have S:=T
    clear T
    obtain⟨c_q0,c_q1,c_q2,f_q0,f_q1,f_q2⟩:=S.cf3 0 rfl
    obtain⟨c_t0,c_t1,c_t2,f_t0,f_t1,f_t2⟩:=S.cf3 1 rfl
    obtain⟨c_r0,c_r1,c_r2,f_r0,f_r1,f_r2⟩:=S.cf3 2 rfl
    obtain⟨c_x0,c_x1,c_x2,f_x0,f_x1,f_x2⟩:=S.cf3 3 rfl
    have hz:w4.heap.size<w5.heap.size:=S.lt 0 rfl
    replace S:=Lib.hid S
    clear Q8
    go_wp2_with fail
    refine (hPw.out _).mono ?_
    rintro e w6 ⟨A9,n9,c9,D9,m9,d9,rfl,Q9,bb⟩
    have T:=(((S.out.call bb).read Q9.n).read Q9.d)
    clear bb S c_q0 f_q0 c_q1 f_q1 c_q2 f_q2 c_t0 f_t0 c_t1 f_t1 c_t2 f_t2 c_r0 f_r0 c_r1 f_r1 c_r2 f_r2 c_x0 f_x0 c_x1 f_x1 c_x2 f_x2 hz
    have S:=T
    clear T
    obtain⟨c_q0,c_q1,c_q2,f_q0,f_q1,f_q2⟩:=S.cf3 0 rfl
    obtain⟨c_t0,c_t1,c_t2,f_t0,f_t1,f_t2⟩:=S.cf3 1 rfl
    obtain⟨c_r0,c_r1,c_r2,f_r0,f_r1,f_r2⟩:=S.cf3 2 rfl
    obtain⟨c_x0,c_x1,c_x2,f_x0,f_x1,f_x2⟩:=S.cf3 3 rfl
    have hz:w4.heap.size<w6.heap.size:=S.lt 0 rfl
    replace S:=Lib.hid S
    clear Q9
    go_wp2_with fail
    refine (hMu.out _ _ _ _ _ _ _ _ _ _ _ _ _ ⟨S.out.r 3 rfl,S.out.r 2 rfl⟩ ⟨S.out.r 1 rfl,S.out.r 0 rfl⟩).mono ?_
    rintro e w7 ⟨A10,n10,c10,D10,m10,d10,rfl,Q10,bb⟩
    have T:=(((S.out.call bb).read Q10.n).read Q10.d)
    clear bb S c_q0 f_q0 c_q1 f_q1 c_q2 f_q2 c_t0 f_t0 c_t1 f_t1 c_t2 f_t2 c_r0 f_r0 c_r1 f_r1 c_r2 f_r2 c_x0 f_x0 c_x1 f_x1 c_x2 f_x2 hz
    have S:=T
    clear T
    obtain⟨c_q0,c_q1,c_q2,f_q0,f_q1,f_q2⟩:=S.cf3 0 rfl
    obtain⟨c_t0,c_t1,c_t2,f_t0,f_t1,f_t2⟩:=S.cf3 1 rfl
    obtain⟨c_r0,c_r1,c_r2,f_r0,f_r1,f_r2⟩:=S.cf3 2 rfl
    obtain⟨c_x0,c_x1,c_x2,f_x0,f_x1,f_x2⟩:=S.cf3 3 rfl
    have hz:w4.heap.size<w7.heap.size:=S.lt 0 rfl
    replace S:=Lib.hid S
    clear Q10
    have S:=(S.out.allocAt (w7.heap.size) #[.bool (ng M.num),.slice A10 n10 c10,.slice D10 m10 d10] 26 (noL3 _ _ _ _ _ _ _) (by simp))
    replace S:=Lib.hid S
    go_wp2_with fail
    refine (hFl.out _ _ _ _ _ _ _ ⟨S.out.r 1 rfl,S.out.r 0 rfl⟩).mono ?_
    rintro e w8 ⟨A11,n11,c11,rfl,Q11,bb⟩
    have T:=((S.out.call bb).read Q11)
    clear bb S c_q0 f_q0 c_q1 f_q1 c_q2 f_q2 c_t0 f_t0 c_t1 f_t1 c_t2 f_t2 c_r0 f_r0 c_r1 f_r1 c_r2 f_r2 c_x0 f_x0 c_x1 f_x1 c_x2 f_x2 hz
    have S:=T
    clear T
    obtain⟨c_mi0,c_mi1,c_mi2,f_mi0,f_mi1,f_mi2⟩:=S.cf3 0 rfl
    obtain⟨c_q0,c_q1,c_q2,f_q0,f_q1,f_q2⟩:=S.cf3 1 rfl
    obtain⟨c_t0,c_t1,c_t2,f_t0,f_t1,f_t2⟩:=S.cf3 2 rfl
    obtain⟨c_r0,c_r1,c_r2,f_r0,f_r1,f_r2⟩:=S.cf3 3 rfl
    obtain⟨c_x0,c_x1,c_x2,f_x0,f_x1,f_x2⟩:=S.cf3 4 rfl
    have hz:w7.heap.size<w8.heap.size:=S.lt 0 rfl
    replace S:=Lib.hid S
    clear Q11
    have S:=((S.out.read (hYd.out _)).allocAt (w8.heap.size) #[.bool (ng Y.num),.slice A11 n11 c11,.slice none 0 0] 26 (noL3 _ _ _ _ _ _ _) (by simp))
    obtain⟨a_t0,a_t1,a_t2,b_t0,b_t1,b_t2⟩:=S.cf3 3 rfl
    replace S:=Lib.hid S
    go_wp2_with fail
    refine (hCm.out _ _ _ _ _ _ _ _ _ _ _ _ _ ⟨S.out.r 1 rfl,S.out.r 0 rfl⟩ ⟨S.out.r 11 rfl,S.out.r 10 rfl⟩).mono ?_
    rintro e w9 ⟨rfl,bb⟩
    have T:=(S.out.call bb)
    clear bb S c_mi0 f_mi0 c_mi1 f_mi1 c_mi2 f_mi2 c_q0 f_q0 c_q1 f_q1 c_q2 f_q2 c_t0 f_t0 c_t1 f_t1 c_t2 f_t2 c_r0 f_r0 c_r1 f_r1 c_r2 f_r2 c_x0 f_x0 c_x1 f_x1 c_x2 f_x2 hz a_t0 b_t0 a_t1 b_t1 a_t2 b_t2
    have S:=T
    clear T
    obtain⟨c_nx0,c_nx1,c_nx2,f_nx0,f_nx1,f_nx2⟩:=S.cf3 0 rfl
    obtain⟨c_mi0,c_mi1,c_mi2,f_mi0,f_mi1,f_mi2⟩:=S.cf3 1 rfl
    obtain⟨c_q0,c_q1,c_q2,f_q0,f_q1,f_q2⟩:=S.cf3 2 rfl
    obtain⟨c_t0,c_t1,c_t2,f_t0,f_t1,f_t2⟩:=S.cf3 3 rfl
    obtain⟨c_r0,c_r1,c_r2,f_r0,f_r1,f_r2⟩:=S.cf3 4 rfl
    obtain⟨c_x0,c_x1,c_x2,f_x0,f_x1,f_x2⟩:=S.cf3 5 rfl
    have hz:w8.heap.size<w9.heap.size:=S.lt 0 rfl
    replace S:=Lib.hid S
    clear hCm hFl hMu hPw hAd hD'
    have S:St w _ [(w8.heap.size,#[.bool (ng Y.num),.slice A11 n11 c11,.slice none 0 0],26),(w7.heap.size,#[.bool (ng M.num),.slice A10 n10 c10,.slice D10 m10 d10],26),(w4.heap.size,#[.bool (ng Q.num),.slice A7 n7 c7,.slice D7 m7 d7],26),(w3.heap.size,#[.bool (ng R.num),.slice A2 n2 c2,.slice D2 m2 d2],26),(w.heap.size+1,#[.bool (ng R.num),.slice A2 n2 c2,.slice D2 m2 d2],26),(w.heap.size,#[.bool (ng X.num),.slice A n c,.slice D m d],26)] [(none,0,0,dn Y),(A11,n11,c11,limbs Y.num.natAbs),(D10,m10,d10,dn M),(A10,n10,c10,limbs M.num.natAbs),(D9,m9,d9,dn H),(A9,n9,c9,limbs H.num.natAbs),(D8,m8,d8,dn T),(A8,n8,c8,limbs T.num.natAbs),(D7,m7,d7,dn Q),(A7,n7,c7,limbs Q.num.natAbs),(D2,m2,d2,dn R),(A2,n2,c2,limbs R.num.natAbs),(D,m,d,dn X),(A,n,c,limbs X.num.natAbs)]:=(((S.out.set 4 0 (.bool (ng R.num)) rfl (by nofun)).set 4 1 (.slice A2 n2 c2) rfl (by nofun)).set 4 2 (.slice D2 m2 d2) rfl (by nofun))
    replace S:=Lib.hid S
    go_wp2
    refine bodyPost_ret (res_whole _ _ (w.heap.size+1) 26 rfl (S.out.bk _ (List.mem_of_getElem? (i:=4) rfl)).1) rfl ?_
    exact⟨_,_,_,_,_,_,by rw[←hfin.out],by rw[←hfin.out];exact⟨S.out.r 11 rfl,S.out.r 10 rfl⟩,S.out.bel⟩
end Go.Proofs.YtphckmdnflbloaaGreat
