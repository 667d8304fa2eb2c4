/- The remainder of made numbers. -/
import Derived.Test.YthlinhconnmbcaaGreatB19
import Derived.Test.YthlinhconnmbcaaGreatB14
import Derived.Test.YthlinhconnmbcaaGreatB13
import Derived.Test.YthlinhconnmbcaaGreatB07
import Derived.Test.YthlinhconnmbcaaGreatM30
import Derived.WalkKit
import Derived.ProofKit
import Derived.OpenShut
import Derived.ShutString
import Derived.ChangeOld
import Derived.Below
import Derived.Lib.SmallJoins
import Derived.Test.YthlinhconnmbcaaGreatRows
set_option maxRecDepth 100000
set_option maxHeartbeats 40000000
set_option linter.unusedVariables false
namespace Go.Proofs.YthlinhconnmbcaaGreat
open Go.RowKit RQ GE
set_option linter.unusedVariables false
theorem mmod_eq (k n:Int) (h0:0<n):k%n=if k.tmod n<0 then k.tmod n+n else k.tmod n:=by
 have e1:=Int.tmod_add_mul_tdiv k n;have l1:k.tmod n<n:=Int.tmod_lt_of_pos k h0;have l2 : -n<k.tmod n:=Int.lt_tmod_of_pos k h0
 split
 ·rename_i h
  have:k=(k.tmod n+n)+n*(k.tdiv n-1):=by rw[Int.mul_sub];omega
  conv=>lhs;rw[this]
  rw[Int.add_mul_emod_self_left];exact Int.emod_eq_of_lt (by omega) (by omega)
 ·rename_i h
  conv=>lhs;rw[←e1]
  rw[Int.add_mul_emod_self_left];exact Int.emod_eq_of_lt (by omega) l1
theorem mmod_any (k n:Int) (w:World) (h0:0<n) (h1:n≤100000):Calls Tryz.prog 28 #[.int .i64 k,.int .i64 n] w fun e w'=>e=.returned (.int .i64 (k%n))∧w'=w:=by
 rw[mmod_eq k n h0];have l1:k.tmod n<n:=Int.tmod_lt_of_pos k h0;have l2 : -n<k.tmod n:=Int.lt_tmod_of_pos k h0;have g0:¬ n=0:=by omega
 have w1:∀ m:Int,-n<m→m<0→wrap64 (m+n)=m+n:=fun m h2 h3=>by unfold wrap64;omega
 by_cases hm:k.tmod n<0
 ·rw[if_pos hm,←w1 _ l2 hm]
  clear w1 l1 l2;go_enter Tryz.func28,Tryz.ntmps28;go_wp2;go_ret;exact⟨rfl,rfl⟩
 ·rw[if_neg hm]
  clear w1 l1 l2;go_enter Tryz.func28,Tryz.ntmps28;go_wp2;go_ret;exact⟨rfl,rfl⟩
end Go.Proofs.YthlinhconnmbcaaGreat
namespace Go.Proofs.YthlinhconnmbcaaGreat
open Go.RowKit RQ
theorem res_rfrac (W:World) (tmps:Array Value) (g t:Nat) {v0 v1 v2:Value} (ht:tmps.getD 4 undef=.pointer (some ⟨g,0,none⟩)) (h:Cb W g #[v0,v1,v2] t) :
  (results Tryz.f58 tmps).run Tryz.prog W=.ok (.agg #[v0,v1,v2]) W:=by
 have c0:W.cell? ⟨g,0,none⟩=some v0:=h.cell rfl;have c1:W.cell? ⟨g,1,none⟩=some v1:=h.cell rfl;have c2:W.cell? ⟨g,2,none⟩=some v2:=h.cell rfl;have ht':tmps[4]?.getD undef=.pointer (some ⟨g,0,none⟩):=by rw[←ht];simp[Array.getD_eq_getD_getElem?]
 simp[results,Tryz.results58,go_sem,ht',c0,c1,c2]
theorem rfrac_any (u v:Int) (w:World) (h1 : -9223372036854775808≤u∧u≤9223372036854775807) (h2 : -9223372036854775808≤v∧v≤9223372036854775807) (hv:v≠0):Calls Tryz.prog 58 #[.int .i64 u,.int .i64 v] w (RetR (Rat.divInt u v) w):=by
 have hF1:=Lib.hid (fun W=>rfromInt_any u W h1.1 h1.2)
 have hF2:=Lib.hid (fun W=>rfromInt_any v W h2.1 h2.2)
 have lu:(limbs u.natAbs).length≤2:=limbs_len_le.2 (by omega)
 have lv:(limbs v.natAbs).length≤2:=limbs_len_le.2 (by omega)
 have hO:Hid (∀ W A n c A' n' c',Rd W A n c (limbs u.natAbs)→Rd W A' n' c' (limbs v.natAbs)→Calls Tryz.prog 45 #[.agg #[.bool (ng u),.slice A n c],.agg #[.bool (ng v),.slice A' n' c']] W (RetR (Rat.divInt u v) W)):=Lib.hid fun W A n c A' n' c' q1 q2=>rover_any u v A n c A' n' c' W q1 q2 (by rw[←q1.len];omega) (by rw[←q2.len];omega) hv
 generalize Rat.divInt u v=q at *;clear lu lv h1 h2 hv;have S:=((St.new w).allocAt (w.heap.size) #[.bool false,.slice none 0 0,.slice none 0 0] 33 (noL3 _ _ _ _ _ _ _) (by simp))
 replace S:=Lib.hid S;go_enter Tryz.func58,Tryz.ntmps58
 go_wp2_with fail
 refine (hF1.out _).mono ?_
 rintro e w1 ⟨A1,n1,c1,rfl,Q1,bb⟩;have T:=((S.out.call bb).read Q1);clear bb S;have S:=T;clear T;obtain⟨c_r0,c_r1,c_r2,f_r0,f_r1,f_r2⟩:=S.cf3 0 rfl;have hz:w.heap.size<w1.heap.size:=S.lt 0 rfl;replace S:=Lib.hid S;clear Q1 hF1
 go_wp2_with fail
 refine (hF2.out _).mono ?_
 rintro e w2 ⟨A2,n2,c2,rfl,Q2,bb⟩;have T:=((S.out.call bb).read Q2);clear bb S c_r0 f_r0 c_r1 f_r1 c_r2 f_r2 hz;have S:=T;clear T;obtain⟨c_r0,c_r1,c_r2,f_r0,f_r1,f_r2⟩:=S.cf3 0 rfl;have hz:w.heap.size<w2.heap.size:=S.lt 0 rfl;replace S:=Lib.hid S;clear Q2 hF2
 go_wp2_with fail
 refine (hO.out _ _ _ _ _ _ _ (S.out.r 1 rfl) (S.out.r 0 rfl)).mono ?_
 rintro e w3 ⟨A9,n9,c9,D9,m9,d9,rfl,Q9,bb⟩;have T:=(((S.out.call bb).read Q9.n).read Q9.d);clear bb S c_r0 f_r0 c_r1 f_r1 c_r2 f_r2 hz;have S:=T;clear T;obtain⟨c_r0,c_r1,c_r2,f_r0,f_r1,f_r2⟩:=S.cf3 0 rfl;have hz:w.heap.size<w3.heap.size:=S.lt 0 rfl;replace S:=Lib.hid S;clear Q9 hO;have S:St w _ [(w.heap.size,#[.bool (ng q.num),.slice A9 n9 c9,.slice D9 m9 d9],33)] [(D9,m9,d9,dn q),(A9,n9,c9,limbs q.num.natAbs),(A2,n2,c2,limbs v.natAbs),(A1,n1,c1,limbs u.natAbs)]:=(((S.out.set 0 0 (.bool (ng q.num)) rfl (by nofun)).set 0 1 (.slice A9 n9 c9) rfl (by nofun)).set 0 2 (.slice D9 m9 d9) rfl (by nofun))
 replace S:=Lib.hid S;go_wp2;refine bodyPost_ret (res_rfrac _ _ (w.heap.size) 33 rfl (S.out.bk _ (List.mem_of_getElem? (i:=0) rfl)).1) rfl ?_
 exact⟨_,_,_,_,_,_,rfl,⟨S.out.r 1 rfl,S.out.r 0 rfl⟩,S.out.bel⟩
end Go.Proofs.YthlinhconnmbcaaGreat
namespace Go.Proofs.YthlinhconnmbcaaGreat
open Go.RowKit RQ GE
set_option linter.unusedVariables false
theorem int_get {W:World} {A:Option Addr} {n i:Nat} {L:List Int} (h:LR intC W A n L) (hi:i<n):∃ b p,A=some ⟨b,p,none⟩∧W.cell? ⟨b,p+i,none⟩=some (.int .i64 (L.getD i 0)):=by
 obtain⟨b,p,x,hA,hx,_,_,hc⟩:=h.get hi;have:=hc 0 (.int .i64 x) rfl;refine⟨b,p,hA,?_⟩
 rw[List.getD_eq_getElem?_getD,hx]
 rw[show intC.sz=1 from rfl,Nat.mul_one,Nat.add_zero] at this
 exact this
theorem at_any (L:List Int) (A:Option Addr) (n c i:Nat) (w:World) (h:LR intC w A n L) (hi:i≤1000):Calls Tryz.prog 26 #[.slice A n c,.int .i64 i] w fun e w'=>e=.returned (.int .i64 (L.getD i 0))∧Below w.heap.size w w':=by
 have B:=Lib.hid (Below.refl w.heap.size w)
 by_cases hl:i<n
 ·obtain⟨b,p,rfl,hc⟩:=int_get h hl
  obtain⟨z,hz⟩:∃ z,z=L.getD i 0:=⟨_,rfl⟩;rw[←hz] at hc ⊢;have g1:(i:Int)<(n:Int):=by omega
  have g2:(0:Int)≤(i:Int):=by omega
  clear h hl hz;go_enter Tryz.func26,Tryz.ntmps26;go_wp2;go_ret;exact⟨rfl,B.out⟩
 ·have e:L.getD i 0=0:=by
   rw[List.getD_eq_getElem?_getD,List.getElem?_eq_none (by rw[h.len];omega)];rfl
  rw[e];have g1:¬ (i:Int)<(n:Int):=by omega
  clear h hl e;go_enter Tryz.func26,Tryz.ntmps26;go_wp2;go_ret;exact⟨rfl,B.out⟩
theorem res_num (W:World) (tmps:Array Value) (g t:Nat) {v0 v1 v2:Value} (ht:tmps.getD 2 undef=.pointer (some ⟨g,0,none⟩)) (h:Cb W g #[v0,v1,v2] t) :
  (results Tryz.f25 tmps).run Tryz.prog W=.ok (.agg #[v0,v1,v2]) W:=by
 have c0:W.cell? ⟨g,0,none⟩=some v0:=h.cell rfl;have c1:W.cell? ⟨g,1,none⟩=some v1:=h.cell rfl;have c2:W.cell? ⟨g,2,none⟩=some v2:=h.cell rfl;have ht':tmps[2]?.getD undef=.pointer (some ⟨g,0,none⟩):=by rw[←ht];simp[Array.getD_eq_getD_getElem?]
 simp[results,Tryz.results25,go_sem,ht',c0,c1,c2]
theorem num_any (v:Int) (w:World) (h1 : -9223372036854775808≤v∧v≤9223372036854775807):Calls Tryz.prog 25 #[.int .i64 v] w (RetR (mNum v) w):=by
 have hM1:=Lib.hid (fun W=>mmod_any v 61 W (by decide) (by decide))
 have hM2:=Lib.hid (fun W=>mmod_any (v.tdiv 61) 4 W (by decide) (by decide))
 have hw0:wrap64 (v.tdiv 61)=v.tdiv 61:=by
  have t1:=Int.tmod_add_mul_tdiv v 61;have t2:v.tmod 61<61:=Int.tmod_lt_of_pos v (by decide)
  have t3 : -61<v.tmod 61:=Int.lt_tmod_of_pos v (by decide)
  unfold wrap64;omega
 obtain⟨q,hq⟩:∃ q,q=v.tdiv 61:=⟨_,rfl⟩;have hQ:mNum v=Rat.divInt (v%61-30) (q%4+1):=by rw[hq];rfl
 have e1:v.tdiv 61=q:=hq.symm;rw[hQ];rw[←hq] at hM2 hw0;obtain⟨x,hx⟩:∃ x,x=v%61:=⟨_,rfl⟩;obtain⟨y,hy⟩:∃ y,y=q%4:=⟨_,rfl⟩;have x0:0≤x:=by omega
 have x1:x<61:=by omega
 have y0:0≤y:=by omega
 have y1:y<4:=by omega
 rw[←hx,←hy];rw[←hx] at hM1;rw[←hy] at hM2;have hF:=Lib.hid (fun W=>rfrac_any (x-30) (1+y) W (by omega) (by omega) (by omega))
 rw[show y+1=1+y from Int.add_comm _ _]
 have hw1:wrap64 (x-30)=x-30:=by unfold wrap64;omega
 have hw2:wrap64 (1+y)=1+y:=by unfold wrap64;omega
 generalize Rat.divInt (x-30) (1+y)=r at *;clear hx hy hq hQ x0 x1 y0 y1;have S:=((St.new w).allocAt (w.heap.size) #[.bool false,.slice none 0 0,.slice none 0 0] 33 (noL3 _ _ _ _ _ _ _) (by simp))
 replace S:=Lib.hid S;clear h1;go_enter Tryz.func25,Tryz.ntmps25
 go_wp2_with fail
 refine (hM1.out _).mono ?_
 rintro e w1 ⟨rfl,rfl⟩
 go_wp2_with fail
 refine (hM2.out _).mono ?_
 rintro e w1 ⟨rfl,rfl⟩
 go_wp2_with fail
 refine (hF.out _).mono ?_
 rintro e w3 ⟨A9,n9,c9,D9,m9,d9,rfl,Q9,bb⟩;have T:=(((S.out.call bb).read Q9.n).read Q9.d);clear bb S;have S:=T;clear T;obtain⟨c_r0,c_r1,c_r2,f_r0,f_r1,f_r2⟩:=S.cf3 0 rfl;have hz:w.heap.size<w3.heap.size:=S.lt 0 rfl;replace S:=Lib.hid S;clear Q9 hF hM1 hM2;have S:St w _ [(w.heap.size,#[.bool (ng r.num),.slice A9 n9 c9,.slice D9 m9 d9],33)] [(D9,m9,d9,dn r),(A9,n9,c9,limbs r.num.natAbs)]:=(((S.out.set 0 0 (.bool (ng r.num)) rfl (by nofun)).set 0 1 (.slice A9 n9 c9) rfl (by nofun)).set 0 2 (.slice D9 m9 d9) rfl (by nofun))
 replace S:=Lib.hid S;go_wp2;refine bodyPost_ret (res_num _ _ (w.heap.size) 33 rfl (S.out.bk _ (List.mem_of_getElem? (i:=0) rfl)).1) rfl ?_
 exact⟨_,_,_,_,_,_,rfl,⟨S.out.r 1 rfl,S.out.r 0 rfl⟩,S.out.bel⟩
end Go.Proofs.YthlinhconnmbcaaGreat
namespace Go.Proofs.YthlinhconnmbcaaGreat
open Go.RowKit RQ GE
set_option linter.unusedVariables false
theorem dq_sm (l l':List Rat):∀ i,dq l l' i=sm (fun t=>l.getD t 0*l'.getD t 0) i
 | 0=>rfl
 | i+1=>by
  show dq l l' i+_=sm _ i+_
  rw[dq_sm l l' i]
structure Gd (K:List Ro) (n k:Nat) (Q:List (List Rat)):Prop where
 len:K.length=n
 rn:∀ r∈K,r.n=k
 rl:∀ r∈K,r.L.length=k
 can:∀ r∈K,∀ x∈r.L,x.can
 q:qM K=Q
 hn:n≤8
 hk:k≤8
 hs:n=0→k=0
 h1:0<n→1≤k
section
variable {K N:List Ro} {n k m:Nat} {Q R:List (List Rat)} {A:Option Addr} {c:Nat} {w W:World}
theorem Gd.wf (g:Gd K n k Q):wfM K=true:=by
 rcases Nat.eq_zero_or_pos n with h | h
 ·have:K=[]:=List.length_eq_zero_iff.1 (g.len.trans h)
  subst this;rfl
 ·exact wfM_of g.rn (g.h1 h) (by have:=g.hk;omega) (by rw[g.len];have:=g.hn;omega)
theorem Gd.col (g:Gd K n k Q):colM K=k:=by
 rcases Nat.eq_zero_or_pos n with h | h
 ·have:K=[]:=List.length_eq_zero_iff.1 (g.len.trans h)
  subst this;exact (g.hs h).symm
 ·exact colM_of g.rn (by rw[g.len];exact h)
theorem Gd.qlen (g:Gd K n k Q):Q.length=n:=by rw[←g.q];unfold qM;rw[List.length_map];exact g.len
theorem Gd.rct (g:Gd K n k Q):rct k Q:=fun r hr=>by
 rw[←g.q] at hr;obtain⟨y,hy,rfl⟩:=List.mem_map.1 hr;rw[List.length_map];exact g.rl y hy
theorem Gd.big (g:Gd K n k Q):∀ r∈K,r.n≤9223372036854775807:=fun r hr=>by rw[g.rn r hr];have:=g.hk;omega
theorem Gd.nbig (g:Gd K n k Q):n≤9223372036854775807:=by have:=g.hn;omega
theorem Gd.rk (g:Gd K n k Q) (h:Mr W A n c K):∀ r∈K,∀ x∈r.L,Rk x.b x.n x.x x.m x.y x.q:=fun r hr x hx=>can_k (g.can r hr x hx) ((h.rd r hr).rd x hx)
theorem Gd.all {P:Rat→Prop} (g:Gd K n k Q) (h:∀ r∈Q,∀ q∈r,P q):∀ r∈K,∀ x∈r.L,P x.q:=qM_all (by rw[g.q];exact h)
theorem Gd.lt (g:Gd K n k Q) (h:Mr W A n c K) (hs:∀ r∈Q,∀ q∈r,Rs q 8000):ltM K:=fun r hr x hx=>⟨g.rk h r hr x hx,g.all hs r hr x hx⟩
theorem Gd.of {n':Nat} (h:Mr W A n' c K) (hc:canM K) (hq:qM K=Q) (hl:Q.length=n) (hr:GE.rct k Q) (hn:n≤8) (hk:k≤8) (hs:n=0→k=0) (h1:0<n→1≤k):n'=n∧Gd K n k Q:=by
 have e:K.length=n:=by rw[←hl,←hq];unfold qM;rw[List.length_map]
 have e2:∀ r∈K,r.L.length=k:=fun r hr'=>by
  have:=hr (r.L.map (·.q)) (by rw[←hq];exact List.mem_map_of_mem hr')
  rwa [List.length_map] at this
 exact⟨h.len.symm.trans e,e,fun r hr'=>((h.rd r hr').len.symm.trans (e2 r hr')),e2,fun r hr'=>(hc r hr').2,hq,hn,hk,hs,h1⟩
theorem qM_at (i:Nat):((K[i]?).map (fun r=>r.L.map (·.q))).getD []=(qM K).getD i []:=by
 unfold qM;rw[List.getD_eq_getElem?_getD,List.getElem?_map]
theorem s2_rs {q:Rat} {a p:Nat} (h:S2 a a q) (ha:a<p):Rs q p:=S2.rs h ha ha
def RetMk (n k:Nat) (Q:List (List Rat)) (w:World) (e:Ending) (w':World):Prop:=∃ A c K,e=.returned (.slice A n c)∧Mr w' A n c K∧Gd K n k Q∧Below w.heap.size w w'
def RetM0 (n k:Nat) (Q:List (List Rat)) (w:World) (e:Ending) (w':World):Prop:=∃ A c K,e=.returned (.tuple #[.slice A n c,.int .i64 0])∧Mr w' A n c K∧Gd K n k Q∧Below w.heap.size w w'
theorem RetM0.of {e:Ending} (h:RetME Q w e W) (hl:Q.length=n) (hr:GE.rct k Q) (hn:n≤8) (hk:k≤8) (hs:n=0→k=0) (h1:0<n→1≤k):RetM0 n k Q w e W:=by
 obtain⟨A,n',c,M,rfl,h2,h3,h4,h5⟩:=h;obtain⟨rfl,g⟩:=Gd.of h2 h3 h4 hl hr hn hk hs h1;exact⟨A,c,M,rfl,h2,g,h5⟩
end
end Go.Proofs.YthlinhconnmbcaaGreat
namespace Go.Proofs.YthlinhconnmbcaaGreat
open Go.RowKit RQ GE
set_option linter.unusedVariables false
theorem mdQ_row {n k:Nat} {l:List Int} {K:List (List Rat)} (hl:K.length=n) (h:∀ i,i<n→K.getD i []=(List.range k).map fun j=>mNum (l.getD (i*k+j) 0)):K=mdQ n k l:=by
 unfold mdQ mk;refine List.ext_getElem? fun i=>?_
 rw[List.getElem?_map]
 rcases Nat.lt_or_ge i n with hi | hi
 ·rw[List.getElem?_range hi]
  have:=h i hi;rw[List.getD_eq_getElem?_getD,List.getElem?_eq_getElem (by omega)] at this
  rw[List.getElem?_eq_getElem (by omega)]
  simp only[Option.getD_some] at this;rw[this];rfl
 ·rw[List.getElem?_eq_none (by omega),List.getElem?_eq_none (by rw[List.length_range];exact hi)];rfl
theorem mNum_rs (v:Int):Rs (mNum v) 9000000:=(s2_rs (a:=1) (p:=2) ((mNum_tw v).s2 (by omega) (by omega) (by omega)) (by omega)).mono (by omega)
theorem made_any (n k:Nat) (L:List Int) (A0:Option Addr) (n0 c0:Nat) (w:World) (h:LR intC w A0 n0 L) (hv:∀ i,-9223372036854775808≤L.getD i 0∧L.getD i 0≤9223372036854775807) (hn:n≤8) (hk:k≤8) (hs:n=0→k=0) (h1:0<n→1≤k):Calls Tryz.prog 8 #[.int .i64 n,.int .i64 k,.slice A0 n0 c0] w (RetMk n k (mdQ n k L) w):=by
 have hrow:=Lib.hid (fun K (hK:K.length=n) h=>mdQ_row (k:=k) (l:=L) (K:=K) hK h)
 have hgd:=Lib.hid (fun (K:List Ro) (h1':K.length=n) (h2:∀ r∈K,r.n=k) (h3:∀ r∈K,r.L.length=k) (h4:∀ r∈K,∀ x∈r.L,x.can) (h5:qM K=mdQ n k L)=>(⟨h1',h2,h3,h4,h5,hn,hk,hs,h1⟩:Gd K n k (mdQ n k L)))
 have hAt:=Lib.hid (fun W (i:Nat) (hW:LR intC W A0 n0 L) (hi:i≤1000)=>at_any L A0 n0 c0 i W hW hi)
 have hNu:=Lib.hid (fun W (i:Nat)=>num_any (L.getD i 0) W (hv i))
 have S:=Lib.hid (St.new w);obtain⟨Q,hQ⟩:∃ Q,Q=mdQ n k L:=⟨_,rfl⟩;rw[←hQ] at hrow hgd ⊢;replace h:=Lib.hid h;have hbn:=Lib.hid hn;have hbk:=Lib.hid hk;clear hn hk hs h1 hv hQ;go_enter Tryz.func8,Tryz.ntmps8;go_wp2
 go_loopw [7,8] (fun ov iv wr=>∃ (i:Nat) (K:List Ro) (bs:List Bk) (rs:List Rdg),i≤n∧iv=.int .i64 i∧K.length=i∧Apd w wr bs rs 46 1 ov i (K.map Ro.v)∧(∀ r∈K,r.In bs rs)∧(∀ r∈K,r.n=k∧∀ x∈r.L,x.can)∧(∀ j,j<i→(qM K).getD j []=(List.range k).map fun t=>mNum (L.getD (j*k+t) 0))) (fun _ iv _=>n-(intOf iv).toNat)
 case atStart=>exact⟨0,[],[],[],Nat.zero_le _,rfl,rfl,Apd.nil_ S.out _ _,fun x hx=>(by cases hx),fun x hx=>(by cases hx),fun j hj=>absurd hj (Nat.not_lt_zero _)⟩
 case round=>
  clear S;obtain⟨i,K,bs,rs,hin,rfl,hK,AP,hIn,hcan,hq⟩:=hrel;rename World=>V0
  by_cases hlt:i<n
  ·have hih:=Lib.hid hlt
   have g1:(i:Int)<(n:Int):=by omega
   obtain⟨ob,hob,S⟩:=AP.opn;have AR0:=Lib.hid (Apd.nil_ S 33 3);have hb0:=Lib.hid (AP.st.bel);replace hob:=Lib.hid hob;replace hIn:=Lib.hid hIn;replace hcan:=Lib.hid hcan;replace hq:=Lib.hid hq;replace hK:=Lib.hid hK;clear hlt hin S AP;go_wp2
   go_loopw [9,10] (fun rv jv wr=>∃ (j:Nat) (E:List Rt) (rs':List Rdg),j≤k∧jv=.int .i64 j∧E.length=j∧Apd w wr (bs++ob) rs' 33 3 rv j (csE E)∧(∀ x∈E,x.can∧x.rdIn rs')∧E.map (·.q)=(List.range j).map (fun t=>mNum (L.getD (i*k+t) 0))∧(∀ p∈rs,p∈rs')) (fun _ jv _=>k-(intOf jv).toNat)
   case atStart=>exact⟨0,[],rs,Nat.zero_le _,rfl,rfl,AR0.out,fun x hx=>(by cases hx),rfl,fun p hp=>hp⟩
   case round=>
    clear AR0;obtain⟨j,E,rs',hjk,rfl,hE,AR,hcn,hqE,hsub⟩:=hrel;rename World=>V1
    by_cases hlj:j<k
    ·have g4:(j:Int)<(k:Int):=by omega
     have hjh:=Lib.hid hlj;have hm8:i*k≤64:=Nat.le_trans (Nat.mul_le_mul (show i≤8 by have:=hih.out;have:=hbn.out;omega) hbk.out) (by omega)
     obtain⟨m,hm⟩:∃ m:Nat,m=i*k:=⟨_,rfl⟩;have em:(i:Int)*(k:Int)=(m:Int):=by rw[hm,Int.natCast_mul]
     have ew:wrap64 (m:Int)=(m:Int):=by unfold wrap64;omega
     obtain⟨p,hp⟩:∃ p:Nat,p=m+j:=⟨_,rfl⟩;have ep:(m:Int)+(j:Int)=(p:Int):=by omega
     have ewp:wrap64 (p:Int)=(p:Int):=by have:=hbk.out;unfold wrap64;omega
     obtain⟨v,hv⟩:∃ v,v=L.getD p 0:=⟨_,rfl⟩;have hA1:=hAt.out V1 p (h.out.bel AR.st.bel) (by have:=hbk.out;omega)
     have hN1:=Lib.hid (fun W=>hNu.out W p)
     obtain⟨q1,hq1⟩:∃ q,q=mNum v:=⟨_,rfl⟩;rw[←hv] at hA1 hN1;rw[←hq1] at hN1;have hR1:Hid (Rs q1 9000000):=Lib.hid (by rw[hq1];exact mNum_rs v)
     have hnx:Hid ((List.range j).map (fun t=>mNum (L.getD (i*k+t) 0))++[q1]=(List.range (j+1)).map (fun t=>mNum (L.getD (i*k+t) 0))):=Lib.hid (by
      rw[List.range_succ,List.map_append,hq1,hv,hp,hm];rfl)
     replace hA1:=Lib.hid hA1;replace AR:=Lib.hid AR;replace hcn:=Lib.hid hcn;replace hqE:=Lib.hid hqE;replace hsub:=Lib.hid hsub;replace hE:=Lib.hid hE;clear hlj hjk hm8 hm hp hv hq1
     go_wp2_with fail
     refine hA1.out.mono ?_
     rintro e w2 ⟨rfl,bb⟩;replace AR:=Lib.hid (AR.out.call bb);clear bb hA1
     go_wp2_with fail
     refine (hN1.out _).mono ?_
     rintro e w3 ⟨A2,n2,c2,D2,m2,d2,rfl,Q2,bb⟩;have AP1:=(((AR.out.call bb).read Q2.n).read Q2.d).alloc #[.bool (ng q1.num),.slice A2 n2 c2,.slice D2 m2 d2] 33 (noL3 _ _ _ _ _ _ _);have hcb1:=AP1.st.cb 0 rfl;clear AR bb Q2 hN1 em ew ep ewp
     go_wp2_with (at_builtin;refine app_rat rfl (.tmp 21) (.tmp 30) rfl rfl AP1 _ rfl hcb1 (by have:=hjh.out;have:=hbk.out;omega) ?_)
     clear AP1 hcb1;intro v' W' AP;replace AP:=Lib.hid AP;have hlj:=hjh.out;have hbb:=hbk.out;go_wp2
     go_roundw
     case rel=>exact⟨j+1,E++[Rt.of A2 n2 c2 D2 m2 d2 q1],_,by omega,by go_num,by rw[List.length_append,hE.out];rfl,by rw[csE_app];exact AP.out.sub,fun x hx=>(by rcases List.mem_append.1 hx with hx | hx;exact⟨(hcn.out x hx).1,rd_cons_ (rd_cons_ (hcn.out x hx).2)⟩;obtain rfl:=List.mem_singleton.1 hx;exact⟨Rt.of_can _ _ _ _ _ _ hR1.out,List.mem_cons_of_mem _ List.mem_cons_self,List.mem_cons_self⟩),by rw[List.map_append,hqE.out];exact hnx.out,fun p hp=>List.mem_cons_of_mem _ (List.mem_cons_of_mem _ (hsub.out p hp))⟩
     case measure=>simp[intOf];omega
    ·obtain rfl:j=k:=by omega
     rw[←hE] at AR;obtain⟨r,bs',rfl,h1,h2,h3,h4,S3⟩:=row_done AR (fun x hx=>(hcn x hx).2)
     have APo:=Apd.close hob.out S3;have APl:=APo.alloc #[.slice r.A r.n r.c] 46 (noL1 _ _ _);have hcb1:=APl.st.cb 0 rfl;have hcn':=Lib.hid (fun x hx=>(hcn x hx).1)
     rw[hE] at h1;replace hqE:=Lib.hid hqE;replace hsub:=Lib.hid hsub;have hh:=Lib.hid (And.intro h1 (And.intro h2 (And.intro h3 h4)));clear AR hcn hjk h1 h2 h3 h4 S3 APo hob hlj hE;have hil:=hih.out;have hbb:=hbn.out
     go_wp2_with (at_builtin;refine app_row rfl (.tmp 32) (.tmp 34) rfl rfl APl _ rfl hcb1 (by omega) ?_)
     clear APl hcb1;intro v' W' AP;replace AP:=Lib.hid AP;go_wp2
     go_roundw
     case rel=>
      refine⟨i+1,K++[r],bs',_,by omega,by go_num,by rw[List.length_append,hK.out];rfl,by rw[List.map_append];exact AP.out.sub,In_app hIn.out hh.out.2.2.1 hsub.out hh.out.2.2.2,fun r' hr'=>?_,fun t ht=>?_⟩
      ·rcases List.mem_append.1 hr' with hr' | hr'
       ·exact hcan.out r' hr'
       ·obtain rfl:=List.mem_singleton.1 hr'
        exact⟨hh.out.1,by rw[hh.out.2.1];exact hcn'.out⟩
      ·have hl:(qM K).length=i:=by unfold qM;rw[List.length_map];exact hK.out
       rw[qM_app]
       by_cases hki:t<i
       ·rw[List.getD_eq_getElem?_getD,List.getElem?_append_left (by omega),←List.getD_eq_getElem?_getD]
        exact hq.out t hki
       ·obtain rfl:t=i:=by omega
        rw[List.getD_eq_getElem?_getD,List.getElem?_append_right (by omega),hl,Nat.sub_self]
        show r.L.map (·.q)=_
        rw[hh.out.2.1];exact hqE.out
     case measure=>simp[intOf];omega
  ·obtain rfl:i=n:=by omega
   have AP1:=AP;rw[←hK] at AP1;obtain⟨A3,c3,hv,M3⟩:=AP1.mat hIn;subst hv;rw[hK] at M3;have hbl:=Lib.hid AP1.st.bel;have hrl:∀ r∈K,r.L.length=k:=fun r hr=>by rw[(hIn r hr).1];exact (hcan r hr).1
   have hfin:=Lib.hid (hgd.out K hK (fun r hr=>(hcan r hr).1) hrl (fun r hr=>(hcan r hr).2) (hrow.out _ (by unfold qM;rw[List.length_map];exact hK) hq))
   replace M3:=Lib.hid M3;replace hK:=Lib.hid hK;clear AP AP1 hIn hq hlt hin hcan hrl;go_wp2;go_ret;exact⟨A3,c3,K,(show Ending.returned (Value.slice A3 K.length c3)=_ by rw[hK.out]),M3.out,hfin.out,hbl.out⟩
end Go.Proofs.YthlinhconnmbcaaGreat
namespace Go.Proofs.YthlinhconnmbcaaGreat
open Go.RowKit RQ GE
set_option linter.unusedVariables false
theorem elP {P:Rat→Prop} {Q:List (List Rat)} (h0:P 0) (h:∀ r∈Q,∀ q∈r,P q) (i j:Nat):P (el Q i j):=by
 unfold GE.el;rw[List.getD_eq_getElem?_getD,List.getD_eq_getElem?_getD]
 cases ha:Q[i]? with
 | none=>simpa using h0
 | some r=>
  simp only[Option.getD_some]
  cases hc:r[j]? with
  | none=>exact h0
  | some q=>exact h r (List.mem_of_getElem? ha) q (List.mem_of_getElem? hc)
theorem mdQ_tw {n k:Nat} {l:List Int}:∀ r∈mdQ n k l,∀ q∈r,Tw 12 360 q:=mk_all fun _ _=>mdF_tw
theorem mdQ_el {n k:Nat} {l:List Int} (i j:Nat):Tw 12 360 (el (mdQ n k l) i j):=elP Tw.zero mdQ_tw i j
theorem tw_s2 {q:Rat} (h:Tw 12 360 q):S2 1 1 q:=h.s2 (by omega) (by omega) (by omega)
theorem mdQ_s2 {n k:Nat} {l:List Int}:∀ r∈mdQ n k l,∀ q∈r,S2 1 1 q:=fun r hr q hq=>tw_s2 (mdQ_tw r hr q hq)
theorem sz11 {n k:Nat} (hn:n≤4) (hk:k≤8):∀ {Q:List (List Rat)},(∀ r∈Q,∀ q∈r,S2 1 1 q)→(∀ r∈Q,∀ q∈r,S2 2 2 q)∧SzE n k 2 2∧SzT n k 2 2:=fun h=>⟨fun r hr q hq=>(h r hr q hq).mono (by omega) (by omega),(sz22 hn hk).1,(sz22 hn hk).2⟩
end Go.Proofs.YthlinhconnmbcaaGreat
namespace Go.Proofs.YthlinhconnmbcaaGreat
open Go.ChangeShapes Go.WideShapes Go.ChangeAt Go.RowKit Go.Joins Go.Deep
set_option linter.unusedVariables false
theorem own:ownKnob Tryz.prog.godebug=none:=by kernel_rfl
theorem laidOut:laidOutB Tryz.prog=true:=by kernel_rfl
def Opn {α:Type} (t:TypeId) (C:Cod α):Prop:=∀ {H:Type} {enc:TypeId×Value→H} {W:World} {n:Nat} {cs:List Value} {x:DataW H×List MemPlace},DataW.trod enc Tryz.prog W 0 (fun _=>true) true n t cs=some x→∃ a:α,cs=C.cs a∧C.At W a
theorem cells_get8 {w:World} {base:Nat} {a:Addr} {n:Nat} {cs:List Value} (h:w.cells? base a n=some cs):cs.length=n∧∀ i,i<n→w.cell? (a.add i)=cs[i]?:=by
 unfold World.cells? at h
 split at h
 ·exact⟨by simpa using mapM_some_length h,fun i hi=>mapM_some_get h i i (by simp[hi])⟩
 ·cases h
theorem spot_none8 {w:World} {a:Addr} {v:Value} (h:w.cell? a=some v):a=⟨a.block,a.off,none⟩∧a.block<w.heap.size:=by
 obtain⟨b,o,s⟩:=a;unfold World.cell? at h
 split at h
 ·rename_i hb
  cases s with
  | none=>exact⟨rfl,(Array.getElem?_eq_some_iff.1 hb).1⟩
  | some z=>simp at h
 ·cases h
theorem add_n8 (b o k:Nat):(⟨b,o,none⟩:Addr).add k=⟨b,o+k,none⟩:=by unfold Addr.add;split<;>simp_all
theorem opn_slice {α:Type} {C:Cod α} {t e:TypeId} (hu:Program.underlying Tryz.prog t=some (.slice e)) (hc:Program.cellsOf Tryz.prog e=C.sz) (he:Opn e C):Opn t (slC C):=by
 intro H enc W n cs x h
 rcases DataW.trod_slice hu h with ⟨h0,_⟩ | ⟨a,len,cap,elems,rest,m,_,h0,_,hb,hl,hm,hlen,hel,_,_⟩
 ·exact⟨⟨none,0,[]⟩,h0,LR.nil_ _ _ _,Nat.le_refl _⟩
 ·rw[hc] at hel
  have each:∀ i,i<len→∃ y:α,(∀ k v,(C.cs y)[k]?=some v→W.cell? ((a.add (i*C.sz)).add k)=some v)∧C.At W y:=by
   intro i hi;have e:=hel i hi;rw[List.getElem?_eq_getElem (by omega),Option.bind_eq_some_iff] at e
   obtain⟨cs',hcs,hy⟩:=e;obtain⟨hcl,hcg⟩:=cells_get8 hcs;obtain⟨y,rfl,hat⟩:=he hy;exact⟨y,fun k v hv=>by rw[hcg k (by rw[←C.len y];exact (List.getElem?_eq_some_iff.1 hv).1)];exact hv,hat⟩
  rcases Nat.eq_zero_or_pos len with h1 | h1
  ·subst h1
   exact⟨⟨some a,cap,[]⟩,h0,LR.nil_ _ _ _,Nat.zero_le _⟩
  ·obtain⟨y0,e0,_⟩:=each 0 h1
   have e0':=e0 0 _ (List.getElem?_eq_getElem (by rw[C.len];exact C.pos))
   have ea:(a.add (0*C.sz)).add 0=a:=by simp[Addr.add]
   rw[ea] at e0';obtain⟨ha,hblt⟩:=spot_none8 e0';obtain⟨b,o,s⟩:=a;obtain rfl:s=none:=by injection ha
   obtain⟨L,hL⟩:∃ L,L=(List.range len).map (fun i=>if hi:i<len then (each i hi).choose else y0):=⟨_,rfl⟩
   have hfl:L.length=len:=by rw[hL];simp
   have hmem:∀ r∈L,∃ i,∃ hi:i<len,r=(each i hi).choose:=by
    intro r hr;rw[hL] at hr;obtain⟨i,hi,rfl⟩:=List.mem_map.1 hr;have hil:i<len:=by simpa using hi
    exact⟨i,hil,by simp only[hil,dite_true]⟩
   refine⟨⟨some ⟨b,o,none⟩,cap,L⟩,by rw[h0,←hfl];rfl,⟨rfl,.inr ⟨b,o,rfl,hblt,fun i x hi k v hv=>?_⟩,fun r hr=>?_⟩,by show L.length≤cap;omega⟩
   ·have hil:i<len:=by rw[←hfl];exact (List.getElem?_eq_some_iff.1 hi).1
    have er:x=(each i hil).choose:=by
     have hi':L[i]?=some x:=hi;rw[hL,List.getElem?_map,List.getElem?_range hil] at hi'
     simpa [hil] using hi'.symm
    have k0:=(each i hil).choose_spec.1 k v (by rw[←er];exact hv)
    rw[add_n8,add_n8] at k0;exact k0
   ·obtain⟨i,hi,rfl⟩:=hmem r hr
    exact (each i hi).choose_spec.2
def ibC:Cod Int where
 sz:=1
 cs a:=[.int .i64 a]
 At _ a:=-9223372036854775808≤a∧a≤9223372036854775807
 In _ _ _ a:=-9223372036854775808≤a∧a≤9223372036854775807
 pos:=by decide
 len _:=rfl
 noL a:=fun v hv z e=>by rw[List.mem_singleton.1 hv] at e;cases e
 one a:=fun v hv=>by rw[List.mem_singleton.1 hv];rfl
 bel h _:=h
 mono h _ _:=h
 at_ _ h:=h
 old _ _ h:=h
theorem opn_intb:Opn 3 ibC:=by
 intro H enc W n cs x h;obtain⟨s,e,_,hw⟩:=DataW.trod_int Tryz.underlying3 h;exact⟨s,e,bounds_i64 hw⟩
theorem c6Int:Program.cellsOf Tryz.prog 3=1:=by kernel_rfl
theorem opn_intsb:Opn 22 (slC ibC):=opn_slice Tryz.underlying22 c6Int opn_intb
theorem open_intl {H:Type} {enc:TypeId×Value→H} {W:World} {b0:Nat} {r:Reach} {v:Value} {d:DataW H} {p:List MemPlace} (hv:Value.okWide Tryz.prog W r b0 22 v) (h:DataW.Trod enc Tryz.prog W 0 (fun _=>true) true 22 v d p) :
  ∃ s:Sl Int,v=.slice s.A s.L.length s.c∧LR intC W s.A s.L.length s.L∧∀ i,-9223372036854775808≤s.L.getD i 0∧s.L.getD i 0≤9223372036854775807:=by
 obtain⟨sa,sl,sc,rfl⟩:=okWide_slice Tryz.underlying22 hv;obtain⟨fuel,hf⟩:=h;obtain⟨s,e,A1⟩:=opn_intsb (show DataW.trod enc Tryz.prog W 0 (fun _=>true) true fuel 22 [.slice sa sl sc]=some _ by simpa [Value.cells] using hf)
 have e:Value.slice sa sl sc=Value.slice s.A s.L.length s.c:=by simpa [slC,Sl.v] using e
 refine⟨s,e,⟨A1.1.len,A1.1.mem,fun _ _=>trivial⟩,fun i=>?_⟩
 rw[List.getD_eq_getElem?_getD]
 cases h:s.L[i]? with
 | none=>exact⟨by show (-9223372036854775808:Int)≤0;omega,by show (0:Int)≤9223372036854775807;omega⟩
 | some x=>exact A1.1.el x (List.mem_of_getElem? h)
theorem byte_in {n:Int} (h:(Lit.int .u8 n).wf=true):∃ c:UInt8,n=(c.toNat:Int):=by
 obtain⟨h1,h2⟩:=bounds_u8 h;refine⟨UInt8.ofNat n.toNat,?_⟩
 rw[UInt8.toNat_ofNat']
 omega
end Go.Proofs.YthlinhconnmbcaaGreat
namespace Go.Proofs.YthlinhconnmbcaaGreat
open Go.RowKit RQ GE
set_option linter.unusedVariables false
theorem tw_rs {q:Rat} (h:Tw 12 360 q):Rs q 1:=by
 have:=h.nd (by omega)
 exact⟨by rw[Nat.pow_one];omega,by rw[Nat.pow_one];omega⟩
theorem mdQ_rs {n k:Nat} {l:List Int}:∀ r∈mdQ n k l,∀ q∈r,Rs q 1:=fun r hr q hq=>tw_rs (mdQ_tw r hr q hq)
theorem red_rsB {Q:List (List Rat)} {n k b:Nat} (hn:Q.length=n) (hr:GE.rct k Q) (hs:∀ r∈Q,∀ q∈r,Rs q b) (hb:1≤b) (i c:Nat):Rs (el (red k Q).M i c) (b*5^n):=
 (run_grow rs_grw (c:=k) (j:=0) (s:=⟨Q,[],1⟩) (b:=b) (B:=b*5^n) (rf_start hn hr) (rs_el hb hs) ((Rs.int (z:=1) (p:=1) (by decide) (Nat.le_refl 1)).mono hb) hb (Nat.le_refl _)).2.1 i c
theorem p625 {n:Nat} (hn:n≤4):1*5^n≤625:=by
 rw[Nat.one_mul];exact Nat.le_trans (Nat.pow_le_pow_right (by decide) hn) (by decide)
end Go.Proofs.YthlinhconnmbcaaGreat
namespace Go.Proofs.YthlinhconnmbcaaGreat
open Go.RowKit RQ GE
set_option linter.unusedVariables false
theorem nst_len {k c:Nat} {f:Nat→Rat} {ps:List Nat}:∀ {i:Nat},(nst k c f ps i).length=k
 | 0=>by show ((List.replicate k (0:Rat)).set c 1).length=k;rw[List.length_set,List.length_replicate]
 | i+1=>by show ((nst k c f ps i).set _ _).length=k;rw[List.length_set];exact nst_len
theorem nst_all {P:Rat→Prop} {k c:Nat} {f:Nat→Rat} {ps:List Nat} (h0:P 0) (h1:P 1) (hf:∀ i,P (-(f i))):∀ {i:Nat},∀ q∈nst k c f ps i,P q
 | 0,q,hq=>by
  rcases List.mem_or_eq_of_mem_set hq with h | rfl
  ·rw[(List.mem_replicate.1 h).2];exact h0
  ·exact h1
 | i+1,q,hq=>by
  rcases List.mem_or_eq_of_mem_set hq with h | rfl
  ·exact nst_all h0 h1 hf q h
  ·exact hf i
theorem getQ_set {l:List Rat} {i j:Nat} {x:Rat} (hi:i<l.length):(l.set i x).getD j 0=if j=i then x else l.getD j 0:=by
 rw[List.getD_eq_getElem?_getD,List.getD_eq_getElem?_getD]
 by_cases h:j=i
 ·subst h;rw[if_pos rfl,List.getElem?_set_self hi];rfl
 ·rw[if_neg h,List.getElem?_set_ne (fun e=>h e.symm)]
theorem nst_get {k c:Nat} {f:Nat→Rat} {ps:List Nat} (hs:ps.Pairwise (· < ·)) (hl:∀ x∈ps,x<k) (hc:c<k) (j:Nat):∀ {i:Nat},i≤ps.length→(nst k c f ps i).getD j 0=if j∈ps.take i then -(f (ps.idxOf j)) else if j=c then 1 else 0
 | 0,_=>by
  show ((List.replicate k (0:Rat)).set c 1).getD j 0=_
  rw[getQ_set (by rw[List.length_replicate];exact hc),List.take_zero,if_neg (show ¬ j∈([]:List Nat) from List.not_mem_nil)]
  congr 1
  rw[List.getD_eq_getElem?_getD,List.getElem?_replicate]
  split<;>rfl
 | i+1,h=>by
  have e:ps.getD i 0=ps[i]:=by rw[List.getD_eq_getElem?_getD,List.getElem?_eq_getElem (by omega)];rfl
  show ((nst k c f ps i).set (ps.getD i 0) _).getD j 0=_
  rw[e,getQ_set (by rw[nst_len];exact hl _ (List.getElem_mem _)),nst_get hs hl hc j (by omega),List.take_succ_eq_append_getElem (by omega)]
  by_cases hj:j=ps[i]
  ·rw[if_pos hj,if_pos (List.mem_append.2 (Or.inr (List.mem_singleton.2 hj))),hj,idx_get hs]
  ·rw[if_neg hj]
   have e3:(j∈ps.take i)=(j∈ps.take i++[ps[i]]):=propext ⟨fun h=>List.mem_append.2 (Or.inl h),fun h=>(List.mem_append.1 h).resolve_right fun h=>hj (List.mem_singleton.1 h)⟩
   simp only[e3]
theorem nullQ_len {n k:Nat} {A:Nat→Nat→Rat}:freeL k (pv n k A)=fr n k A:=by
 unfold freeL fr;exact List.filter_congr fun x _=>by simp
theorem nullQ_el {n k:Nat} {A:Nat→Nat→Rat} {i j:Nat} (hi:i<(fr n k A).length):el (nullQ k (rr n k A) (pv n k A)) i j=nul n k A i j:=by
 have F:=rr_rf (n:=n) (k:=k) (A:=A);have hm:=fr_mem.1 (List.getElem_mem hi);unfold nul;rw[fr_get hi];have e2:(nullQ k (rr n k A) (pv n k A)).getD i []=nst k ((fr n k A)[i]) (fun t=>el (rr n k A) t ((fr n k A)[i])) (pv n k A) (pv n k A).length:=by
  unfold nullQ;rw[nullQ_len,List.getD_eq_getElem?_getD,List.getElem?_map,List.getElem?_eq_getElem hi];rfl
 show ((nullQ k (rr n k A) (pv n k A)).getD i []).getD j 0=_
 rw[e2];rw[nst_get F.mono F.lt hm.1 j (Nat.le_refl _),List.take_length];unfold nv
 by_cases hj:j∈pv n k A
 ·have hne:j≠(fr n k A)[i]:=fun e=>hm.2 (e ▸ hj)
  rw[if_pos hj,if_neg hne]
  by_cases hlt:j<(fr n k A)[i]
  ·rw[if_pos ⟨hlt,hj⟩]
  ·rw[if_neg (fun h=>hlt h.1)]
   have h1:(pv n k A).idxOf j<(pv n k A).length:=List.idxOf_lt_length_of_mem hj;have h2:=F.left _ h1 ((fr n k A)[i]) (by rw[List.getElem_idxOf h1];omega)
   have h3 : -(el (rr n k A) ((pv n k A).idxOf j) ((fr n k A)[i]))=0:=by rw[h2,Rat.neg_zero]
   exact h3
 ·rw[if_neg hj]
  by_cases hc:j=(fr n k A)[i]
  ·rw[if_pos hc,if_pos hc]
  ·rw[if_neg hc,if_neg hc,if_neg (fun h=>hj h.2)]
theorem nullQ_sh {n k:Nat} {A:Nat→Nat→Rat}:(nullQ k (rr n k A) (pv n k A)).length=k-rk n k A∧GE.rct k (nullQ k (rr n k A) (pv n k A)):=by
 refine⟨by unfold nullQ;rw[List.length_map,nullQ_len,fr_len],fun r hr=>?_⟩
 unfold nullQ at hr;obtain⟨c,_,rfl⟩:=List.mem_map.1 hr;exact nst_len
theorem nullQ_rs {n k:Nat} {Q:List (List Rat)} (hn:n≤4) (hq:Q.length=n) (hr:GE.rct k Q) (h:∀ r∈Q,∀ q∈r,Rs q 1):∀ r∈nullQ k (red k Q).M (red k Q).p,∀ q∈r,Rs q 625:=fun r hr' q hq'=>by
 unfold nullQ at hr';obtain⟨c,_,rfl⟩:=List.mem_map.1 hr';exact nst_all (P:=fun q=>Rs q 625) (rs_zero (by omega)) ((Rs.int (z:=1) (p:=1) (by decide) (Nat.le_refl 1)).mono (by omega)) (fun i=>((red_rsB hq hr h (by omega) i c).mono (p625 hn)).neg) q hq'
theorem pnull_g {K:List Ro} {n k:Nat} {Q:List (List Rat)} {A:Option Addr} {c:Nat} {W:World} (g:Gd K n k Q) (hA:Mr W A n c K) (s:∀ r∈Q,∀ q∈r,S2 2 2 q) (hn4:n≤4):Calls Tryz.prog 23 #[.slice A n c] W (fun e w'=>∃ A' c' K',e=.returned (.tuple #[.slice A' (k-rk n k (el Q)) c',.int .i64 0])∧Mr w' A' (k-rk n k (el Q)) c' K'∧Gd K' (k-rk n k (el Q)) (if k-rk n k (el Q)=0 then 0 else k) (nullQ k (rr n k (el Q)) (pv n k (el Q)))∧Below W.heap.size W w'):=by
 have z:=sz22 hn4 g.hk;refine (pnull_any K A n c W hA g.big g.nbig g.wf (g.rk hA) 2 2 (g.all s) (by rw[g.col];exact z.1) (by rw[g.col];exact z.2)).mono fun e w' hx=>?_
 rw[g.col,g.q] at hx;have e1:(red k Q).M=rr n k (el Q):=by unfold rr;rw[mk_el g.qlen g.rct]
 have e2:(red k Q).p=pv n k (el Q):=by unfold pv;rw[mk_el g.qlen g.rct]
 rw[e1,e2] at hx;obtain⟨A',n',c',M,rfl,m,hc,hq,_,bb⟩:=hx;have sh:=nullQ_sh (n:=n) (k:=k) (A:=el Q);obtain⟨rfl,g'⟩:=Gd.of (k:=if k-rk n k (el Q)=0 then 0 else k) m hc hq sh.1 (fun r hr=>by
  have h1:=sh.2 r hr
  split
  ·rename_i h0
   rw[h0] at sh;rw[List.length_eq_zero_iff.1 sh.1] at hr;cases hr
  ·exact h1) (by have:=g.hk;omega) (by have:=g.hk;split<;>omega) (fun h=>if_pos h) (fun h=>by rw[if_neg (by omega)];omega)
 exact⟨A',c',M,rfl,m,g',bb⟩
end Go.Proofs.YthlinhconnmbcaaGreat
