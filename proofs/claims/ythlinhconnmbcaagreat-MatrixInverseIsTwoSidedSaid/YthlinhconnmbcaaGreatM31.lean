/- Numbers and matrices that are made of plain numbers. -/
import Derived.Test.YthlinhconnmbcaaGreatB19
import Derived.Test.YthlinhconnmbcaaGreatM30
import Derived.WalkKit
import Derived.ProofKit
import Derived.OpenShut
import Derived.ShutString
import Derived.ChangeOld
import Derived.Below
import Derived.Lib.SmallJoins
import Derived.Test.YthlinhconnmbcaaGreatRows
set_option maxRecDepth 100000
set_option maxHeartbeats 40000000
set_option linter.unusedVariables false
namespace Go.Proofs.YthlinhconnmbcaaGreat
open Go.RowKit RQ GE
set_option linter.unusedVariables false
theorem int_get {W:World} {A:Option Addr} {n i:Nat} {L:List Int} (h:LR intC W A n L) (hi:i<n):∃ b p,A=some ⟨b,p,none⟩∧W.cell? ⟨b,p+i,none⟩=some (.int .i64 (L.getD i 0)):=by
 obtain⟨b,p,x,hA,hx,_,_,hc⟩:=h.get hi;have:=hc 0 (.int .i64 x) rfl;refine⟨b,p,hA,?_⟩
 rw[List.getD_eq_getElem?_getD,hx]
 rw[show intC.sz=1 from rfl,Nat.mul_one,Nat.add_zero] at this
 exact this
theorem at_any (L:List Int) (A:Option Addr) (n c i:Nat) (w:World) (h:LR intC w A n L) (hi:i≤1000):Calls Tryz.prog 26 #[.slice A n c,.int .i64 i] w fun e w'=>e=.returned (.int .i64 (L.getD i 0))∧Below w.heap.size w w':=by
 have B:=Lib.hid (Below.refl w.heap.size w)
 by_cases hl:i<n
 ·obtain⟨b,p,rfl,hc⟩:=int_get h hl
  obtain⟨z,hz⟩:∃ z,z=L.getD i 0:=⟨_,rfl⟩;rw[←hz] at hc ⊢;have g1:(i:Int)<(n:Int):=by omega
  have g2:(0:Int)≤(i:Int):=by omega
  clear h hl hz;go_enter Tryz.func26,Tryz.ntmps26;go_wp2;go_ret;exact⟨rfl,B.out⟩
 ·have e:L.getD i 0=0:=by
   rw[List.getD_eq_getElem?_getD,List.getElem?_eq_none (by rw[h.len];omega)];rfl
  rw[e];have g1:¬ (i:Int)<(n:Int):=by omega
  clear h hl e;go_enter Tryz.func26,Tryz.ntmps26;go_wp2;go_ret;exact⟨rfl,B.out⟩
theorem res_num (W:World) (tmps:Array Value) (g t:Nat) {v0 v1 v2:Value} (ht:tmps.getD 2 undef=.pointer (some ⟨g,0,none⟩)) (h:Cb W g #[v0,v1,v2] t) :
  (results Tryz.f25 tmps).run Tryz.prog W=.ok (.agg #[v0,v1,v2]) W:=by
 have c0:W.cell? ⟨g,0,none⟩=some v0:=h.cell rfl;have c1:W.cell? ⟨g,1,none⟩=some v1:=h.cell rfl;have c2:W.cell? ⟨g,2,none⟩=some v2:=h.cell rfl;have ht':tmps[2]?.getD undef=.pointer (some ⟨g,0,none⟩):=by rw[←ht];simp[Array.getD_eq_getD_getElem?]
 simp[results,Tryz.results25,go_sem,ht',c0,c1,c2]
theorem num_any (v:Int) (w:World) (h1 : -9223372036854775808≤v∧v≤9223372036854775807):Calls Tryz.prog 25 #[.int .i64 v] w (RetR (mNum v) w):=by
 have hM1:=Lib.hid (fun W=>mmod_any v 61 W (by decide) (by decide))
 have hM2:=Lib.hid (fun W=>mmod_any (v.tdiv 61) 4 W (by decide) (by decide))
 have hw0:wrap64 (v.tdiv 61)=v.tdiv 61:=by
  have t1:=Int.tmod_add_mul_tdiv v 61;have t2:v.tmod 61<61:=Int.tmod_lt_of_pos v (by decide)
  have t3 : -61<v.tmod 61:=Int.lt_tmod_of_pos v (by decide)
  unfold wrap64;omega
 obtain⟨q,hq⟩:∃ q,q=v.tdiv 61:=⟨_,rfl⟩;have hQ:mNum v=Rat.divInt (v%61-30) (q%4+1):=by rw[hq];rfl
 have e1:v.tdiv 61=q:=hq.symm;rw[hQ];rw[←hq] at hM2 hw0;obtain⟨x,hx⟩:∃ x,x=v%61:=⟨_,rfl⟩;obtain⟨y,hy⟩:∃ y,y=q%4:=⟨_,rfl⟩;have x0:0≤x:=by omega
 have x1:x<61:=by omega
 have y0:0≤y:=by omega
 have y1:y<4:=by omega
 rw[←hx,←hy];rw[←hx] at hM1;rw[←hy] at hM2;have hF:=Lib.hid (fun W=>rfrac_any (x-30) (1+y) W (by omega) (by omega) (by omega))
 rw[show y+1=1+y from Int.add_comm _ _]
 have hw1:wrap64 (x-30)=x-30:=by unfold wrap64;omega
 have hw2:wrap64 (1+y)=1+y:=by unfold wrap64;omega
 generalize Rat.divInt (x-30) (1+y)=r at *;clear hx hy hq hQ x0 x1 y0 y1;have S:=((St.new w).allocAt (w.heap.size) #[.bool false,.slice none 0 0,.slice none 0 0] 33 (noL3 _ _ _ _ _ _ _) (by simp))
 replace S:=Lib.hid S;clear h1;go_enter Tryz.func25,Tryz.ntmps25
 go_wp2_with fail
 refine (hM1.out _).mono ?_
 rintro e w1 ⟨rfl,rfl⟩
 go_wp2_with fail
 refine (hM2.out _).mono ?_
 rintro e w1 ⟨rfl,rfl⟩
 go_wp2_with fail
 refine (hF.out _).mono ?_
 rintro e w3 ⟨A9,n9,c9,D9,m9,d9,rfl,Q9,bb⟩;have T:=(((S.out.call bb).read Q9.n).read Q9.d);clear bb S;have S:=T;clear T;obtain⟨c_r0,c_r1,c_r2,f_r0,f_r1,f_r2⟩:=S.cf3 0 rfl;have hz:w.heap.size<w3.heap.size:=S.lt 0 rfl;replace S:=Lib.hid S;clear Q9 hF hM1 hM2;have S:St w _ [(w.heap.size,#[.bool (ng r.num),.slice A9 n9 c9,.slice D9 m9 d9],33)] [(D9,m9,d9,dn r),(A9,n9,c9,limbs r.num.natAbs)]:=(((S.out.set 0 0 (.bool (ng r.num)) rfl (by nofun)).set 0 1 (.slice A9 n9 c9) rfl (by nofun)).set 0 2 (.slice D9 m9 d9) rfl (by nofun))
 replace S:=Lib.hid S;go_wp2;refine bodyPost_ret (res_num _ _ (w.heap.size) 33 rfl (S.out.bk _ (List.mem_of_getElem? (i:=0) rfl)).1) rfl ?_
 exact⟨_,_,_,_,_,_,rfl,⟨S.out.r 1 rfl,S.out.r 0 rfl⟩,S.out.bel⟩
end Go.Proofs.YthlinhconnmbcaaGreat
namespace Go.Proofs.YthlinhconnmbcaaGreat
open Go.RowKit RQ GE
set_option linter.unusedVariables false
theorem dq_sm (l l':List Rat):∀ i,dq l l' i=sm (fun t=>l.getD t 0*l'.getD t 0) i
 | 0=>rfl
 | i+1=>by
  show dq l l' i+_=sm _ i+_
  rw[dq_sm l l' i]
structure Gd (K:List Ro) (n k:Nat) (Q:List (List Rat)):Prop where
 len:K.length=n
 rn:∀ r∈K,r.n=k
 rl:∀ r∈K,r.L.length=k
 can:∀ r∈K,∀ x∈r.L,x.can
 q:qM K=Q
 hn:n≤8
 hk:k≤8
 hs:n=0→k=0
 h1:0<n→1≤k
section
variable {K N:List Ro} {n k m:Nat} {Q R:List (List Rat)} {A:Option Addr} {c:Nat} {w W:World}
theorem Gd.wf (g:Gd K n k Q):wfM K=true:=by
 rcases Nat.eq_zero_or_pos n with h | h
 ·have:K=[]:=List.length_eq_zero_iff.1 (g.len.trans h)
  subst this;rfl
 ·exact wfM_of g.rn (g.h1 h) (by have:=g.hk;omega) (by rw[g.len];have:=g.hn;omega)
theorem Gd.col (g:Gd K n k Q):colM K=k:=by
 rcases Nat.eq_zero_or_pos n with h | h
 ·have:K=[]:=List.length_eq_zero_iff.1 (g.len.trans h)
  subst this;exact (g.hs h).symm
 ·exact colM_of g.rn (by rw[g.len];exact h)
theorem Gd.rct (g:Gd K n k Q):rct k Q:=fun r hr=>by
 rw[←g.q] at hr;obtain⟨y,hy,rfl⟩:=List.mem_map.1 hr;rw[List.length_map];exact g.rl y hy
theorem Gd.big (g:Gd K n k Q):∀ r∈K,r.n≤9223372036854775807:=fun r hr=>by rw[g.rn r hr];have:=g.hk;omega
theorem Gd.nbig (g:Gd K n k Q):n≤9223372036854775807:=by have:=g.hn;omega
theorem Gd.rk (g:Gd K n k Q) (h:Mr W A n c K):∀ r∈K,∀ x∈r.L,Rk x.b x.n x.x x.m x.y x.q:=fun r hr x hx=>can_k (g.can r hr x hx) ((h.rd r hr).rd x hx)
theorem Gd.all {P:Rat→Prop} (g:Gd K n k Q) (h:∀ r∈Q,∀ q∈r,P q):∀ r∈K,∀ x∈r.L,P x.q:=qM_all (by rw[g.q];exact h)
theorem Gd.lt (g:Gd K n k Q) (h:Mr W A n c K) (hs:∀ r∈Q,∀ q∈r,Rs q 8000):ltM K:=fun r hr x hx=>⟨g.rk h r hr x hx,g.all hs r hr x hx⟩
theorem Gd.of {n':Nat} (h:Mr W A n' c K) (hc:canM K) (hq:qM K=Q) (hl:Q.length=n) (hr:GE.rct k Q) (hn:n≤8) (hk:k≤8) (hs:n=0→k=0) (h1:0<n→1≤k):n'=n∧Gd K n k Q:=by
 have e:K.length=n:=by rw[←hl,←hq];unfold qM;rw[List.length_map]
 have e2:∀ r∈K,r.L.length=k:=fun r hr'=>by
  have:=hr (r.L.map (·.q)) (by rw[←hq];exact List.mem_map_of_mem hr')
  rwa [List.length_map] at this
 exact⟨h.len.symm.trans e,e,fun r hr'=>((h.rd r hr').len.symm.trans (e2 r hr')),e2,fun r hr'=>(hc r hr').2,hq,hn,hk,hs,h1⟩
theorem qM_at (i:Nat):((K[i]?).map (fun r=>r.L.map (·.q))).getD []=(qM K).getD i []:=by
 unfold qM;rw[List.getD_eq_getElem?_getD,List.getElem?_map]
theorem colQ_at (j t:Nat):(colQ N j).getD t 0=el (qM N) t j:=by
 have e:(N.map fun r=>r.L.map (·.q)).getD t []=((N[t]?).map fun r=>r.L.map (·.q)).getD []:=by rw[List.getD_eq_getElem?_getD,List.getElem?_map]
 unfold colQ GE.el qM;rw[e,List.getD_eq_getElem?_getD,List.getElem?_map]
 cases N[t]?<;>rfl
theorem prodQ_mk (g:Gd K n k Q) (h:Gd N k m R):prodQ K N=mk n m (mp k (el Q) (el R)):=by
 rw[prod_eq',g.col,h.col];unfold mk;refine List.ext_getElem? fun i=>?_
 rw[List.getElem?_map,List.getElem?_map]
 rcases Nat.lt_or_ge i n with hi | hi
 ·obtain⟨r,e⟩:∃ r,K[i]?=some r:=⟨K[i]'(by rw[g.len];exact hi),List.getElem?_eq_getElem _⟩
  rw[e,List.getElem?_range hi]
  simp only[Option.map_some,Option.some.injEq];refine List.map_congr_left fun j _=>?_
  rw[dq_sm];unfold mp;refine sm_congr fun t _=>?_
  rw[colQ_at,h.q,←g.q]
  congr 1
  unfold GE.el;rw[←qM_at i,e];rfl
 ·rw[List.getElem?_eq_none (by rw[g.len];exact hi),List.getElem?_eq_none (by rw[List.length_range];exact hi)];rfl
theorem s2_rs {q:Rat} {a p:Nat} (h:S2 a a q) (ha:a<p):Rs q p:=S2.rs h ha ha
def RetMk (n k:Nat) (Q:List (List Rat)) (w:World) (e:Ending) (w':World):Prop:=∃ A c K,e=.returned (.slice A n c)∧Mr w' A n c K∧Gd K n k Q∧Below w.heap.size w w'
def RetM0 (n k:Nat) (Q:List (List Rat)) (w:World) (e:Ending) (w':World):Prop:=∃ A c K,e=.returned (.tuple #[.slice A n c,.int .i64 0])∧Mr w' A n c K∧Gd K n k Q∧Below w.heap.size w w'
theorem RetM0.of {e:Ending} (h:RetME Q w e W) (hl:Q.length=n) (hr:GE.rct k Q) (hn:n≤8) (hk:k≤8) (hs:n=0→k=0) (h1:0<n→1≤k):RetM0 n k Q w e W:=by
 obtain⟨A,n',c,M,rfl,h2,h3,h4,h5⟩:=h;obtain⟨rfl,g⟩:=Gd.of h2 h3 h4 hl hr hn hk hs h1;exact⟨A,c,M,rfl,h2,g,h5⟩
theorem RetM0.ofx {e:Ending} (h:RetMX 0 Q w e W) (hl:Q.length=n) (hr:GE.rct k Q) (hn:n≤8) (hk:k≤8) (hs:n=0→k=0) (h1:0<n→1≤k):RetM0 n k Q w e W:=by
 obtain⟨A,n',c,M,rfl,h2,h3,h4,h5,h6⟩:=h;obtain⟨rfl,g⟩:=Gd.of h2 h3 h4 hl hr hn hk hs h1;exact⟨A,c,M,rfl,h2,g,h6⟩
theorem pmul_g (g:Gd K n k Q) (h:Gd N k m R) (hA:Mr W A n c K) {A':Option Addr} {c':Nat} (hB:Mr W A' k c' N) (s:∀ r∈Q,∀ q∈r,Rs q 8000) (s':∀ r∈R,∀ q∈r,Rs q 8000) (hk6:k≤6) (hs:n=0→m=0) (h1:0<n→1≤m):Calls Tryz.prog 9 #[.slice A n c,.slice A' k c'] W (RetM0 n m (mk n m (mp k (el Q) (el R))) W):=by
 refine (mmul_yes K A n c N A' k c' W hA g.big g.nbig hB h.big h.nbig (g.lt hA s) (h.lt hB s') g.wf h.wf g.col hk6).mono fun e w' hx=>?_
 rw[prodQ_mk g h] at hx;exact RetM0.of hx mk_len mk_rct g.hn h.hk hs h1
theorem dE_rs {Q:List (List Rat)} {n b:Nat} (hq:Q.length=n) (hr:GE.rct n Q) (hs:∀ r∈Q,∀ q∈r,Rs q b) (hb:1≤b) (hB:b*5^n≤9000000):Rs (dE n (el Q)) 9000000:=by
 unfold dE
 split
 ·rw[mk_el hq hr]
  exact (red_rs hq hr hs hb hB).2.2
 ·exact rs_zero (by omega)
theorem pdet_g (g:Gd K n n Q) (hA:Mr W A n c K) {a d:Nat} (s:∀ r∈Q,∀ q∈r,S2 a d q) (hz:SzE n n a d) (hn4:n≤4):Calls Tryz.prog 11 #[.slice A n c] W (RetDx 0 (dE n (el Q)) W):=by
 have:=pdet_any K A n c W hA g.big g.nbig g.wf (g.rk hA) a d (g.all s) (by rw[g.col];exact hz) g.col hn4
 rwa [g.q] at this
end
end Go.Proofs.YthlinhconnmbcaaGreat
namespace Go.Proofs.YthlinhconnmbcaaGreat
open Go.RowKit RQ GE
set_option linter.unusedVariables false
theorem mdQ_row {n k:Nat} {l:List Int} {K:List (List Rat)} (hl:K.length=n) (h:∀ i,i<n→K.getD i []=(List.range k).map fun j=>mNum (l.getD (i*k+j) 0)):K=mdQ n k l:=by
 unfold mdQ mk;refine List.ext_getElem? fun i=>?_
 rw[List.getElem?_map]
 rcases Nat.lt_or_ge i n with hi | hi
 ·rw[List.getElem?_range hi]
  have:=h i hi;rw[List.getD_eq_getElem?_getD,List.getElem?_eq_getElem (by omega)] at this
  rw[List.getElem?_eq_getElem (by omega)]
  simp only[Option.getD_some] at this;rw[this];rfl
 ·rw[List.getElem?_eq_none (by omega),List.getElem?_eq_none (by rw[List.length_range];exact hi)];rfl
theorem mNum_rs (v:Int):Rs (mNum v) 9000000:=(s2_rs (a:=1) (p:=2) ((mNum_tw v).s2 (by omega) (by omega) (by omega)) (by omega)).mono (by omega)
theorem made_any (n k:Nat) (L:List Int) (A0:Option Addr) (n0 c0:Nat) (w:World) (h:LR intC w A0 n0 L) (hv:∀ i,-9223372036854775808≤L.getD i 0∧L.getD i 0≤9223372036854775807) (hn:n≤8) (hk:k≤8) (hs:n=0→k=0) (h1:0<n→1≤k):Calls Tryz.prog 8 #[.int .i64 n,.int .i64 k,.slice A0 n0 c0] w (RetMk n k (mdQ n k L) w):=by
 have hrow:=Lib.hid (fun K (hK:K.length=n) h=>mdQ_row (k:=k) (l:=L) (K:=K) hK h)
 have hgd:=Lib.hid (fun (K:List Ro) (h1':K.length=n) (h2:∀ r∈K,r.n=k) (h3:∀ r∈K,r.L.length=k) (h4:∀ r∈K,∀ x∈r.L,x.can) (h5:qM K=mdQ n k L)=>(⟨h1',h2,h3,h4,h5,hn,hk,hs,h1⟩:Gd K n k (mdQ n k L)))
 have hAt:=Lib.hid (fun W (i:Nat) (hW:LR intC W A0 n0 L) (hi:i≤1000)=>at_any L A0 n0 c0 i W hW hi)
 have hNu:=Lib.hid (fun W (i:Nat)=>num_any (L.getD i 0) W (hv i))
 have S:=Lib.hid (St.new w);obtain⟨Q,hQ⟩:∃ Q,Q=mdQ n k L:=⟨_,rfl⟩;rw[←hQ] at hrow hgd ⊢;replace h:=Lib.hid h;have hbn:=Lib.hid hn;have hbk:=Lib.hid hk;clear hn hk hs h1 hv hQ;go_enter Tryz.func8,Tryz.ntmps8;go_wp2
 go_loopw [7,8] (fun ov iv wr=>∃ (i:Nat) (K:List Ro) (bs:List Bk) (rs:List Rdg),i≤n∧iv=.int .i64 i∧K.length=i∧Apd w wr bs rs 46 1 ov i (K.map Ro.v)∧(∀ r∈K,r.In bs rs)∧(∀ r∈K,r.n=k∧∀ x∈r.L,x.can)∧(∀ j,j<i→(qM K).getD j []=(List.range k).map fun t=>mNum (L.getD (j*k+t) 0))) (fun _ iv _=>n-(intOf iv).toNat)
 case atStart=>exact⟨0,[],[],[],Nat.zero_le _,rfl,rfl,Apd.nil_ S.out _ _,fun x hx=>(by cases hx),fun x hx=>(by cases hx),fun j hj=>absurd hj (Nat.not_lt_zero _)⟩
 case round=>
  clear S;obtain⟨i,K,bs,rs,hin,rfl,hK,AP,hIn,hcan,hq⟩:=hrel;rename World=>V0
  by_cases hlt:i<n
  ·have hih:=Lib.hid hlt
   have g1:(i:Int)<(n:Int):=by omega
   obtain⟨ob,hob,S⟩:=AP.opn;have AR0:=Lib.hid (Apd.nil_ S 33 3);have hb0:=Lib.hid (AP.st.bel);replace hob:=Lib.hid hob;replace hIn:=Lib.hid hIn;replace hcan:=Lib.hid hcan;replace hq:=Lib.hid hq;replace hK:=Lib.hid hK;clear hlt hin S AP;go_wp2
   go_loopw [9,10] (fun rv jv wr=>∃ (j:Nat) (E:List Rt) (rs':List Rdg),j≤k∧jv=.int .i64 j∧E.length=j∧Apd w wr (bs++ob) rs' 33 3 rv j (csE E)∧(∀ x∈E,x.can∧x.rdIn rs')∧E.map (·.q)=(List.range j).map (fun t=>mNum (L.getD (i*k+t) 0))∧(∀ p∈rs,p∈rs')) (fun _ jv _=>k-(intOf jv).toNat)
   case atStart=>exact⟨0,[],rs,Nat.zero_le _,rfl,rfl,AR0.out,fun x hx=>(by cases hx),rfl,fun p hp=>hp⟩
   case round=>
    clear AR0;obtain⟨j,E,rs',hjk,rfl,hE,AR,hcn,hqE,hsub⟩:=hrel;rename World=>V1
    by_cases hlj:j<k
    ·have g4:(j:Int)<(k:Int):=by omega
     have hjh:=Lib.hid hlj;have hm8:i*k≤64:=Nat.le_trans (Nat.mul_le_mul (show i≤8 by have:=hih.out;have:=hbn.out;omega) hbk.out) (by omega)
     obtain⟨m,hm⟩:∃ m:Nat,m=i*k:=⟨_,rfl⟩;have em:(i:Int)*(k:Int)=(m:Int):=by rw[hm,Int.natCast_mul]
     have ew:wrap64 (m:Int)=(m:Int):=by unfold wrap64;omega
     obtain⟨p,hp⟩:∃ p:Nat,p=m+j:=⟨_,rfl⟩;have ep:(m:Int)+(j:Int)=(p:Int):=by omega
     have ewp:wrap64 (p:Int)=(p:Int):=by have:=hbk.out;unfold wrap64;omega
     obtain⟨v,hv⟩:∃ v,v=L.getD p 0:=⟨_,rfl⟩;have hA1:=hAt.out V1 p (h.out.bel AR.st.bel) (by have:=hbk.out;omega)
     have hN1:=Lib.hid (fun W=>hNu.out W p)
     obtain⟨q1,hq1⟩:∃ q,q=mNum v:=⟨_,rfl⟩;rw[←hv] at hA1 hN1;rw[←hq1] at hN1;have hR1:Hid (Rs q1 9000000):=Lib.hid (by rw[hq1];exact mNum_rs v)
     have hnx:Hid ((List.range j).map (fun t=>mNum (L.getD (i*k+t) 0))++[q1]=(List.range (j+1)).map (fun t=>mNum (L.getD (i*k+t) 0))):=Lib.hid (by
      rw[List.range_succ,List.map_append,hq1,hv,hp,hm];rfl)
     replace hA1:=Lib.hid hA1;replace AR:=Lib.hid AR;replace hcn:=Lib.hid hcn;replace hqE:=Lib.hid hqE;replace hsub:=Lib.hid hsub;replace hE:=Lib.hid hE;clear hlj hjk hm8 hm hp hv hq1
     go_wp2_with fail
     refine hA1.out.mono ?_
     rintro e w2 ⟨rfl,bb⟩;replace AR:=Lib.hid (AR.out.call bb);clear bb hA1
     go_wp2_with fail
     refine (hN1.out _).mono ?_
     rintro e w3 ⟨A2,n2,c2,D2,m2,d2,rfl,Q2,bb⟩;have AP1:=(((AR.out.call bb).read Q2.n).read Q2.d).alloc #[.bool (ng q1.num),.slice A2 n2 c2,.slice D2 m2 d2] 33 (noL3 _ _ _ _ _ _ _);have hcb1:=AP1.st.cb 0 rfl;clear AR bb Q2 hN1 em ew ep ewp
     go_wp2_with (at_builtin;refine app_rat rfl (.tmp 21) (.tmp 30) rfl rfl AP1 _ rfl hcb1 (by have:=hjh.out;have:=hbk.out;omega) ?_)
     clear AP1 hcb1;intro v' W' AP;replace AP:=Lib.hid AP;have hlj:=hjh.out;have hbb:=hbk.out;go_wp2
     go_roundw
     case rel=>exact⟨j+1,E++[Rt.of A2 n2 c2 D2 m2 d2 q1],_,by omega,by go_num,by rw[List.length_append,hE.out];rfl,by rw[csE_app];exact AP.out.sub,fun x hx=>(by rcases List.mem_append.1 hx with hx | hx;exact⟨(hcn.out x hx).1,rd_cons_ (rd_cons_ (hcn.out x hx).2)⟩;obtain rfl:=List.mem_singleton.1 hx;exact⟨Rt.of_can _ _ _ _ _ _ hR1.out,List.mem_cons_of_mem _ List.mem_cons_self,List.mem_cons_self⟩),by rw[List.map_append,hqE.out];exact hnx.out,fun p hp=>List.mem_cons_of_mem _ (List.mem_cons_of_mem _ (hsub.out p hp))⟩
     case measure=>simp[intOf];omega
    ·obtain rfl:j=k:=by omega
     rw[←hE] at AR;obtain⟨r,bs',rfl,h1,h2,h3,h4,S3⟩:=row_done AR (fun x hx=>(hcn x hx).2)
     have APo:=Apd.close hob.out S3;have APl:=APo.alloc #[.slice r.A r.n r.c] 46 (noL1 _ _ _);have hcb1:=APl.st.cb 0 rfl;have hcn':=Lib.hid (fun x hx=>(hcn x hx).1)
     rw[hE] at h1;replace hqE:=Lib.hid hqE;replace hsub:=Lib.hid hsub;have hh:=Lib.hid (And.intro h1 (And.intro h2 (And.intro h3 h4)));clear AR hcn hjk h1 h2 h3 h4 S3 APo hob hlj hE;have hil:=hih.out;have hbb:=hbn.out
     go_wp2_with (at_builtin;refine app_row rfl (.tmp 32) (.tmp 34) rfl rfl APl _ rfl hcb1 (by omega) ?_)
     clear APl hcb1;intro v' W' AP;replace AP:=Lib.hid AP;go_wp2
     go_roundw
     case rel=>
      refine⟨i+1,K++[r],bs',_,by omega,by go_num,by rw[List.length_append,hK.out];rfl,by rw[List.map_append];exact AP.out.sub,In_app hIn.out hh.out.2.2.1 hsub.out hh.out.2.2.2,fun r' hr'=>?_,fun t ht=>?_⟩
      ·rcases List.mem_append.1 hr' with hr' | hr'
       ·exact hcan.out r' hr'
       ·obtain rfl:=List.mem_singleton.1 hr'
        exact⟨hh.out.1,by rw[hh.out.2.1];exact hcn'.out⟩
      ·have hl:(qM K).length=i:=by unfold qM;rw[List.length_map];exact hK.out
       rw[qM_app]
       by_cases hki:t<i
       ·rw[List.getD_eq_getElem?_getD,List.getElem?_append_left (by omega),←List.getD_eq_getElem?_getD]
        exact hq.out t hki
       ·obtain rfl:t=i:=by omega
        rw[List.getD_eq_getElem?_getD,List.getElem?_append_right (by omega),hl,Nat.sub_self]
        show r.L.map (·.q)=_
        rw[hh.out.2.1];exact hqE.out
     case measure=>simp[intOf];omega
  ·obtain rfl:i=n:=by omega
   have AP1:=AP;rw[←hK] at AP1;obtain⟨A3,c3,hv,M3⟩:=AP1.mat hIn;subst hv;rw[hK] at M3;have hbl:=Lib.hid AP1.st.bel;have hrl:∀ r∈K,r.L.length=k:=fun r hr=>by rw[(hIn r hr).1];exact (hcan r hr).1
   have hfin:=Lib.hid (hgd.out K hK (fun r hr=>(hcan r hr).1) hrl (fun r hr=>(hcan r hr).2) (hrow.out _ (by unfold qM;rw[List.length_map];exact hK) hq))
   replace M3:=Lib.hid M3;replace hK:=Lib.hid hK;clear AP AP1 hIn hq hlt hin hcan hrl;go_wp2;go_ret;exact⟨A3,c3,K,(show Ending.returned (Value.slice A3 K.length c3)=_ by rw[hK.out]),M3.out,hfin.out,hbl.out⟩
end Go.Proofs.YthlinhconnmbcaaGreat
namespace Go.Proofs.YthlinhconnmbcaaGreat
open Go.RowKit RQ GE
set_option linter.unusedVariables false
theorem elP {P:Rat→Prop} {Q:List (List Rat)} (h0:P 0) (h:∀ r∈Q,∀ q∈r,P q) (i j:Nat):P (el Q i j):=by
 unfold GE.el;rw[List.getD_eq_getElem?_getD,List.getD_eq_getElem?_getD]
 cases ha:Q[i]? with
 | none=>simpa using h0
 | some r=>
  simp only[Option.getD_some]
  cases hc:r[j]? with
  | none=>exact h0
  | some q=>exact h r (List.mem_of_getElem? ha) q (List.mem_of_getElem? hc)
theorem mdQ_tw {n k:Nat} {l:List Int}:∀ r∈mdQ n k l,∀ q∈r,Tw 12 360 q:=mk_all fun _ _=>mdF_tw
theorem tw_s2 {q:Rat} (h:Tw 12 360 q):S2 1 1 q:=h.s2 (by omega) (by omega) (by omega)
theorem mdQ_s2 {n k:Nat} {l:List Int}:∀ r∈mdQ n k l,∀ q∈r,S2 1 1 q:=fun r hr q hq=>tw_s2 (mdQ_tw r hr q hq)
theorem sz11 {n k:Nat} (hn:n≤4) (hk:k≤8):∀ {Q:List (List Rat)},(∀ r∈Q,∀ q∈r,S2 1 1 q)→(∀ r∈Q,∀ q∈r,S2 2 2 q)∧SzE n k 2 2∧SzT n k 2 2:=fun h=>⟨fun r hr q hq=>(h r hr q hq).mono (by omega) (by omega),(sz22 hn hk).1,(sz22 hn hk).2⟩
end Go.Proofs.YthlinhconnmbcaaGreat
namespace Go.Proofs.YthlinhconnmbcaaGreat
open Go.ChangeShapes Go.WideShapes Go.ChangeAt Go.RowKit Go.Joins Go.Deep
set_option linter.unusedVariables false
theorem own:ownKnob Tryz.prog.godebug=none:=by kernel_rfl
theorem laidOut:laidOutB Tryz.prog=true:=by kernel_rfl
def Opn {α:Type} (t:TypeId) (C:Cod α):Prop:=∀ {H:Type} {enc:TypeId×Value→H} {W:World} {n:Nat} {cs:List Value} {x:DataW H×List MemPlace},DataW.trod enc Tryz.prog W 0 (fun _=>true) true n t cs=some x→∃ a:α,cs=C.cs a∧C.At W a
theorem cells_get8 {w:World} {base:Nat} {a:Addr} {n:Nat} {cs:List Value} (h:w.cells? base a n=some cs):cs.length=n∧∀ i,i<n→w.cell? (a.add i)=cs[i]?:=by
 unfold World.cells? at h
 split at h
 ·exact⟨by simpa using mapM_some_length h,fun i hi=>mapM_some_get h i i (by simp[hi])⟩
 ·cases h
theorem spot_none8 {w:World} {a:Addr} {v:Value} (h:w.cell? a=some v):a=⟨a.block,a.off,none⟩∧a.block<w.heap.size:=by
 obtain⟨b,o,s⟩:=a;unfold World.cell? at h
 split at h
 ·rename_i hb
  cases s with
  | none=>exact⟨rfl,(Array.getElem?_eq_some_iff.1 hb).1⟩
  | some z=>simp at h
 ·cases h
theorem add_n8 (b o k:Nat):(⟨b,o,none⟩:Addr).add k=⟨b,o+k,none⟩:=by unfold Addr.add;split<;>simp_all
theorem opn_slice {α:Type} {C:Cod α} {t e:TypeId} (hu:Program.underlying Tryz.prog t=some (.slice e)) (hc:Program.cellsOf Tryz.prog e=C.sz) (he:Opn e C):Opn t (slC C):=by
 intro H enc W n cs x h
 rcases DataW.trod_slice hu h with ⟨h0,_⟩ | ⟨a,len,cap,elems,rest,m,_,h0,_,hb,hl,hm,hlen,hel,_,_⟩
 ·exact⟨⟨none,0,[]⟩,h0,LR.nil_ _ _ _,Nat.le_refl _⟩
 ·rw[hc] at hel
  have each:∀ i,i<len→∃ y:α,(∀ k v,(C.cs y)[k]?=some v→W.cell? ((a.add (i*C.sz)).add k)=some v)∧C.At W y:=by
   intro i hi;have e:=hel i hi;rw[List.getElem?_eq_getElem (by omega),Option.bind_eq_some_iff] at e
   obtain⟨cs',hcs,hy⟩:=e;obtain⟨hcl,hcg⟩:=cells_get8 hcs;obtain⟨y,rfl,hat⟩:=he hy;exact⟨y,fun k v hv=>by rw[hcg k (by rw[←C.len y];exact (List.getElem?_eq_some_iff.1 hv).1)];exact hv,hat⟩
  rcases Nat.eq_zero_or_pos len with h1 | h1
  ·subst h1
   exact⟨⟨some a,cap,[]⟩,h0,LR.nil_ _ _ _,Nat.zero_le _⟩
  ·obtain⟨y0,e0,_⟩:=each 0 h1
   have e0':=e0 0 _ (List.getElem?_eq_getElem (by rw[C.len];exact C.pos))
   have ea:(a.add (0*C.sz)).add 0=a:=by simp[Addr.add]
   rw[ea] at e0';obtain⟨ha,hblt⟩:=spot_none8 e0';obtain⟨b,o,s⟩:=a;obtain rfl:s=none:=by injection ha
   obtain⟨L,hL⟩:∃ L,L=(List.range len).map (fun i=>if hi:i<len then (each i hi).choose else y0):=⟨_,rfl⟩
   have hfl:L.length=len:=by rw[hL];simp
   have hmem:∀ r∈L,∃ i,∃ hi:i<len,r=(each i hi).choose:=by
    intro r hr;rw[hL] at hr;obtain⟨i,hi,rfl⟩:=List.mem_map.1 hr;have hil:i<len:=by simpa using hi
    exact⟨i,hil,by simp only[hil,dite_true]⟩
   refine⟨⟨some ⟨b,o,none⟩,cap,L⟩,by rw[h0,←hfl];rfl,⟨rfl,.inr ⟨b,o,rfl,hblt,fun i x hi k v hv=>?_⟩,fun r hr=>?_⟩,by show L.length≤cap;omega⟩
   ·have hil:i<len:=by rw[←hfl];exact (List.getElem?_eq_some_iff.1 hi).1
    have er:x=(each i hil).choose:=by
     have hi':L[i]?=some x:=hi;rw[hL,List.getElem?_map,List.getElem?_range hil] at hi'
     simpa [hil] using hi'.symm
    have k0:=(each i hil).choose_spec.1 k v (by rw[←er];exact hv)
    rw[add_n8,add_n8] at k0;exact k0
   ·obtain⟨i,hi,rfl⟩:=hmem r hr
    exact (each i hi).choose_spec.2
def ibC:Cod Int where
 sz:=1
 cs a:=[.int .i64 a]
 At _ a:=-9223372036854775808≤a∧a≤9223372036854775807
 In _ _ _ a:=-9223372036854775808≤a∧a≤9223372036854775807
 pos:=by decide
 len _:=rfl
 noL a:=fun v hv z e=>by rw[List.mem_singleton.1 hv] at e;cases e
 one a:=fun v hv=>by rw[List.mem_singleton.1 hv];rfl
 bel h _:=h
 mono h _ _:=h
 at_ _ h:=h
 old _ _ h:=h
theorem opn_intb:Opn 3 ibC:=by
 intro H enc W n cs x h;obtain⟨s,e,_,hw⟩:=DataW.trod_int Tryz.underlying3 h;exact⟨s,e,bounds_i64 hw⟩
theorem c6Int:Program.cellsOf Tryz.prog 3=1:=by kernel_rfl
theorem opn_intsb:Opn 22 (slC ibC):=opn_slice Tryz.underlying22 c6Int opn_intb
theorem open_intl {H:Type} {enc:TypeId×Value→H} {W:World} {b0:Nat} {r:Reach} {v:Value} {d:DataW H} {p:List MemPlace} (hv:Value.okWide Tryz.prog W r b0 22 v) (h:DataW.Trod enc Tryz.prog W 0 (fun _=>true) true 22 v d p) :
  ∃ s:Sl Int,v=.slice s.A s.L.length s.c∧LR intC W s.A s.L.length s.L∧∀ i,-9223372036854775808≤s.L.getD i 0∧s.L.getD i 0≤9223372036854775807:=by
 obtain⟨sa,sl,sc,rfl⟩:=okWide_slice Tryz.underlying22 hv;obtain⟨fuel,hf⟩:=h;obtain⟨s,e,A1⟩:=opn_intsb (show DataW.trod enc Tryz.prog W 0 (fun _=>true) true fuel 22 [.slice sa sl sc]=some _ by simpa [Value.cells] using hf)
 have e:Value.slice sa sl sc=Value.slice s.A s.L.length s.c:=by simpa [slC,Sl.v] using e
 refine⟨s,e,⟨A1.1.len,A1.1.mem,fun _ _=>trivial⟩,fun i=>?_⟩
 rw[List.getD_eq_getElem?_getD]
 cases h:s.L[i]? with
 | none=>exact⟨by show (-9223372036854775808:Int)≤0;omega,by show (0:Int)≤9223372036854775807;omega⟩
 | some x=>exact A1.1.el x (List.mem_of_getElem? h)
theorem byte_in {n:Int} (h:(Lit.int .u8 n).wf=true):∃ c:UInt8,n=(c.toNat:Int):=by
 obtain⟨h1,h2⟩:=bounds_u8 h;refine⟨UInt8.ofNat n.toNat,?_⟩
 rw[UInt8.toNat_ofNat']
 omega
end Go.Proofs.YthlinhconnmbcaaGreat
namespace Go.Proofs.YthlinhconnmbcaaGreat
open Go.RowKit RQ GE
set_option linter.unusedVariables false
theorem tw_rs {q:Rat} (h:Tw 12 360 q):Rs q 1:=by
 have:=h.nd (by omega)
 exact⟨by rw[Nat.pow_one];omega,by rw[Nat.pow_one];omega⟩
theorem rs_s2 {q:Rat} {p:Nat} (h:Rs q p):S2 p p q:=⟨Nat.le_of_lt h.n,Nat.le_of_lt h.d⟩
theorem mdQ_rs {n k:Nat} {l:List Int}:∀ r∈mdQ n k l,∀ q∈r,Rs q 1:=fun r hr q hq=>tw_rs (mdQ_tw r hr q hq)
theorem red_rsB {Q:List (List Rat)} {n k b:Nat} (hn:Q.length=n) (hr:GE.rct k Q) (hs:∀ r∈Q,∀ q∈r,Rs q b) (hb:1≤b) (i c:Nat):Rs (el (red k Q).M i c) (b*5^n):=
 (run_grow rs_grw (c:=k) (j:=0) (s:=⟨Q,[],1⟩) (b:=b) (B:=b*5^n) (rf_start hn hr) (rs_el hb hs) ((Rs.int (z:=1) (p:=1) (by decide) (Nat.le_refl 1)).mono hb) hb (Nat.le_refl _)).2.1 i c
theorem p625 {n:Nat} (hn:n≤4):1*5^n≤625:=by
 rw[Nat.one_mul];exact Nat.le_trans (Nat.pow_le_pow_right (by decide) hn) (by decide)
def szChkE (n k a d:Nat):Bool:=decide (d*k+a+d<1000000)&&decide ((zA (d*k+a) (n-1)).1≤1000000)&&decide ((zA (d*k+a) (n-1)).2.1≤1000000)&&decide (n*(d*k)<1000000)
theorem sze_of {n k a d:Nat} (h:szChkE n k a d=true):SzE n k a d:=by
 unfold szChkE at h;simp only[Bool.and_eq_true,decide_eq_true_eq] at h;exact⟨h.1.1.1,⟨h.1.1.2,h.1.2⟩,h.2⟩
theorem sz_tab625:((List.range 5).all fun n=>(List.range 5).all fun k=>szChkE n k 625 625)=true:=by decide +kernel
theorem sz625 {n k:Nat} (hn:n≤4) (hk:k≤4):SzE n k 625 625:=
 sze_of (List.all_eq_true.1 (List.all_eq_true.1 sz_tab625 n (List.mem_range.2 (by omega))) k (List.mem_range.2 (by omega)))
theorem el_drop {M:List (List Rat)} {n i j:Nat}:el (M.map (·.drop n)) i j=el M i (n+j):=by
 have e:(M.map (·.drop n)).getD i []=(M.getD i []).drop n:=by
  rw[List.getD_eq_getElem?_getD,List.getElem?_map,List.getD_eq_getElem?_getD]
  cases M[i]? with
  | none=>exact List.drop_nil.symm
  | some r=>rfl
 show ((M.map (·.drop n)).getD i []).getD j 0=(M.getD i []).getD (n+j) 0
 rw[e,List.getD_eq_getElem?_getD (l:=(M.getD i []).drop n),List.getElem?_drop,List.getD_eq_getElem?_getD (l:=M.getD i [])]
theorem invQ_sh {n:Nat} {Q:List (List Rat)}:(invQ n Q).length=n∧GE.rct n (invQ n Q):=by
 have F:=(red_rf (k:=n+n) (M:=besQ n Q) (n:=n) mk_len mk_rct).1;refine⟨by unfold invQ;rw[List.length_map];exact F.len,fun r hr=>?_⟩
 unfold invQ at hr;obtain⟨y,hy,rfl⟩:=List.mem_map.1 hr;rw[List.length_drop,F.rect y hy];omega
theorem invQ_el {n:Nat} {Q:List (List Rat)} (i j:Nat):el (invQ n Q) i j=inv n (el Q) i j:=el_drop
theorem invQ_rs {n:Nat} {Q:List (List Rat)} (hn:n≤4) (h:∀ r∈Q,∀ q∈r,Rs q 1):∀ r∈invQ n Q,∀ q∈r,Rs q 625:=by
 have hb:∀ r∈besQ n Q,∀ q∈r,Rs q 1:=mk_all fun i j=>by
  unfold besd
  split
  ·exact elP (rs_zero (by omega)) h i j
  ·unfold I1
   split
   ·exact Rs.int (z:=1) (p:=1) (by decide) (Nat.le_refl 1)
   ·exact rs_zero (by omega)
 have h2:=fun i j=>(red_rsB (k:=n+n) (n:=n) mk_len mk_rct hb (by omega) i j).mono (p625 hn)
 refine rs_mem fun i j=>?_
 have:el (invQ n Q) i j=el (red (n+n) (besQ n Q)).M i (n+j):=el_drop;rw[this];exact h2 i (n+j)
theorem mp_congr {n r k:Nat} {A B C D:Nat→Nat→Rat} {i j:Nat} (h1:∀ t<r,A i t=C i t) (h2:∀ t<r,B t j=D t j):mp r A B i j=mp r C D i j:=by
 unfold mp;exact sm_congr fun t ht=>by rw[h1 t ht,h2 t ht]
theorem pinv_g {K:List Ro} {n:Nat} {Q:List (List Rat)} {A:Option Addr} {c:Nat} {W:World} (g:Gd K n n Q) (hA:Mr W A n c K) (s:∀ r∈Q,∀ q∈r,S2 2 2 q) (hn4:n≤4) (hr:rk n n (el Q)=n):Calls Tryz.prog 17 #[.slice A n c] W (RetM0 n n (invQ n Q) W):=by
 have z:=sz22 hn4 (show n+n≤8 by omega)
 refine (pinv_any K A n c W hA g.big g.nbig g.wf g.col (g.rk hA) 2 2 (g.all s) z.1 z.2).mono fun e w' hx=>?_
 rw[g.q] at hx
 rcases hx with ⟨_,hx⟩ | ⟨h,_⟩
 ·exact RetM0.ofx hx invQ_sh.1 invQ_sh.2 g.hn g.hk id id
 ·exact absurd hr h
theorem pinv_n {K:List Ro} {n:Nat} {Q:List (List Rat)} {A:Option Addr} {c:Nat} {W:World} (g:Gd K n n Q) (hA:Mr W A n c K) (s:∀ r∈Q,∀ q∈r,S2 2 2 q) (hn4:n≤4) (hr:rk n n (el Q)≠n):Calls Tryz.prog 17 #[.slice A n c] W (fun e w'=>∃ A c,e=.returned (.tuple #[.slice A 0 c,.int .i64 7])∧Below W.heap.size W w'):=by
 have z:=sz22 hn4 (show n+n≤8 by omega)
 refine (pinv_any K A n c W hA g.big g.nbig g.wf g.col (g.rk hA) 2 2 (g.all s) z.1 z.2).mono fun e w' hx=>?_
 rw[g.q] at hx
 rcases hx with ⟨h,_⟩ | ⟨_,hx⟩
 ·exact absurd h hr
 ·obtain⟨A',n',c',M,rfl,m,_,hq,_,bb⟩:=hx
  have:n'=0:=by rw[←m.len];unfold qM at hq;exact List.length_eq_zero_iff.2 (List.map_eq_nil_iff.1 hq)
  subst this;exact⟨A',c',rfl,bb⟩
theorem unit_any (k:Nat) (K:List Ro) (A:Option Addr) (c:Nat) (w:World) (h:Mr w A k c K) (g:Gd K k k (mk k k I1)):Calls Tryz.prog 18 #[.slice A k c,.int .i64 k] w fun e w'=>e=.returned (.bool true)∧Below w.heap.size w w':=by
 have hF:Hid (∀ W (u:Nat),u≤1→Calls Tryz.prog 19 #[.int .i64 u] W (RetR (u:Rat) W)):=Lib.hid fun W u hu=>FfromInt_any u W (by omega) (by omega)
 have hk8:=Lib.hid g.hk;replace h:=Lib.hid h;replace g:=Lib.hid g;go_enter Tryz.func18,Tryz.ntmps18;go_wp2
 go_loopw [5] (fun iv wr=>∃ i:Nat,i≤k∧iv=.int .i64 i∧Below w.heap.size w wr) (fun iv _=>k-(intOf iv).toNat)
 case atStart=>exact⟨0,Nat.zero_le _,rfl,Below.refl _ _⟩
 case round=>
  obtain⟨i,hik,rfl,B⟩:=hrel;rename World=>V0
  by_cases hlt:i<k
  ·obtain⟨b,o,r,hA,hr,hrm,e0⟩:=(h.out.bel B).get hlt
   subst hA;rw[g.out.rn r hrm] at e0;have hS:=Lib.hid ((h.out.bel B).rd r hrm);have g1:(i:Int)<(k:Int):=by omega
   have g2:(0:Int)≤(i:Int):=by omega
   have hcan:=Lib.hid (g.out.can r hrm);have hrn:=Lib.hid (g.out.rn r hrm);have hqi:Hid (∀ j x,r.L[j]?=some x→j<k→x.q=if i=j then 1 else 0):=Lib.hid fun j x hx hj=>by
    have e:el (mk k k I1) i j=x.q:=by
     rw[←g.out.q];unfold GE.el;rw[←qM_at i,hr,List.getD_eq_getElem?_getD]
     show (r.L.map (·.q))[j]?.getD 0=_
     rw[List.getElem?_map,hx];rfl
    rw[←e,el_mk hlt hj];rfl
   have hB:=Lib.hid B;have hih:=Lib.hid hlt;have e0h:=Lib.hid e0;clear hr hrm hlt hik B;go_wp2;clear e0
   go_loopw [6] (fun jv wr=>∃ j:Nat,j≤k∧jv=.int .i64 j∧Below V0.heap.size V0 wr) (fun jv _=>k-(intOf jv).toNat)
   case atStart=>exact⟨0,Nat.zero_le _,rfl,Below.refl _ _⟩
   case round=>
    obtain⟨j,hjk,rfl,B⟩:=hrel;rename World=>V1
    by_cases hlj:j<k
    ·have e0:=bel_cell B e0h.out
     have hS1:=hS.out.bel B;rw[hrn.out] at hS1;obtain⟨b2,o2,x,hA2,hx,hxm,x0,x1,x2⟩:=hS1.get hlj;rw[hA2] at e0;have g4:(j:Int)<(k:Int):=by omega
     have g5:(0:Int)≤(j:Int):=by omega
     have xc:=hcan.out x hxm;have xr:=Lib.hid (hS1.rd x hxm);have hq:=hqi.out j x hx hlj;obtain⟨u,hu1,hu2⟩:∃ u:Nat,u≤1∧((i=j∧u=1)∨(i≠j∧u=0)):=by
      by_cases h:i=j
      ·exact⟨1,by omega,.inl ⟨h,rfl⟩⟩
      ·exact⟨0,by omega,.inr ⟨h,rfl⟩⟩
     have hqu:Hid (x.q=(u:Rat)):=Lib.hid (by
      rw[hq]
      rcases hu2 with ⟨h1,rfl⟩ | ⟨h1,rfl⟩
      ·rw[if_pos h1];rfl
      ·rw[if_neg h1];rfl)
     obtain⟨qu,hqe⟩:∃ q:Rat,q=(u:Rat):=⟨_,rfl⟩;have hFx:=Lib.hid (fun W=>hF.out W u hu1)
     rw[←hqe] at hFx hqu;have hRx:Hid (Rs qu 9000000):=Lib.hid (by rw[←hqu.out];exact xc.2.2.2)
     replace xc:=Lib.hid xc;have hB1:=Lib.hid B;have hjh:=Lib.hid hlj;replace e0:=Lib.hid e0;replace x0:=Lib.hid x0;replace x1:=Lib.hid x1;replace x2:=Lib.hid x2;clear hS1 hA2 hx hxm hq hqe hlj hjk B
     rcases hu2 with ⟨rfl,rfl⟩ | ⟨hne,rfl⟩
     ·skip
      have hFz:=hFx;go_upto_region 14 with fail
      refine Wl.start (fun W=>Below V1.heap.size V1 W) [] rfl ?_
      have hS:Below V1.heap.size V1 V1.drew:=(Below.refl _ _).drew;refine Wl.t (i:=0) (v:=.slice (some ⟨b,o,none⟩) k c) (some 32) at0 (hy:=fun _ _=>by kernel_rfl) (hS:=hS) (h:=?_)
      refine Wl.t (i:=1) (v:=.int .i64 i) (some 33) at1 (hy:=fun _ _=>by kernel_rfl) (hS:=hS) (h:=?_)
      refine Wl.t (i:=2) (v:=.pointer (some ⟨b,o+i,none⟩)) (some 34) at2 (hy:=fun _ _=>by go_simp) (hS:=hS) (h:=?_)
      refine Wl.t (i:=3) (v:=.slice (some ⟨b2,o2,none⟩) k r.c) (some 35) at3 (hy:=fun W hS=>by (have k0:=bel_cell hS e0.out;clear hS;go_simp)) (hS:=hS) (h:=?_)
      refine Wl.t (i:=4) (v:=.int .i64 i) (some 36) at4 (hy:=fun _ _=>by kernel_rfl) (hS:=hS) (h:=?_)
      refine Wl.t (i:=5) (v:=.pointer (some ⟨b2,o2+i*3,none⟩)) (some 37) at5 (hy:=fun _ _=>by go_simp) (hS:=hS) (h:=?_)
      refine Wl.t (i:=6) (v:=.agg #[.bool x.b,.slice x.A x.n x.c,.slice x.D x.m x.d]) (some 38) at6 (hy:=fun W hS=>by (have k0:=bel_cell hS x0.out;have k1:=bel_cell hS x1.out;have k2:=bel_cell hS x2.out;clear hS;go_simp)) (hS:=hS) (h:=?_)
      refine Wl.t (i:=7) (v:=.int .i64 1) (some 39) at7 (hy:=fun _ _=>by kernel_rfl) (hS:=hS) (h:=?_)
      try simp only[Act.put,sZ0,sZ1,sZ2]
      refine Wl.g (i:=8) at8 (by kernel_rfl) (by kernel_rfl) fun K' hK=>?_
      refine oper_call (f:=19) (args:=#[.int .i64 1]) rfl (by kernel_rfl) ((hFz.out _).mono ?_)
      rintro e w3 ⟨A9,n9,c9,D9,m9,d9,rfl,X9,bb⟩;have hSx:=Lib.hid (fun W (hW:Below w3.heap.size w3 W)=>sameE x (Rt.of A9 n9 c9 D9 m9 d9 qu) xc.out (Rt.of_can _ _ _ _ _ _ hRx.out) hqu.out W (xr.out.bel ((hS.trans (bb.mono hS.size)).trans (hW.mono (hS.trans (bb.mono hS.size)).size))) ⟨X9.n.below hW,X9.d.below hW⟩)
      clear X9;have hSa:=hS.trans (bb.mono hS.size);refine⟨_,rfl,hK.out _ _ hSa ?_⟩
      clear hK K' hS bb hFz
      try simp only[Act.put,sZ0,sZ1,sZ2]
      try simp only[Act.put,sZ0,sZ1,sZ2]
      refine Wl.g (i:=9) at9 (by kernel_rfl) (by kernel_rfl) fun K' hK=>?_
      refine oper_call (f:=14) (args:=#[.agg #[.bool x.b,.slice x.A x.n x.c,.slice x.D x.m x.d],.agg #[.bool (ng qu.num),.slice A9 n9 c9,.slice D9 m9 d9]]) rfl (by kernel_rfl) ((hSx.out _ (Below.refl _ _)).mono ?_)
      rintro e w4 ⟨rfl,bb⟩;have hSb:=hSa.trans (bb.mono hSa.size);refine⟨_,rfl,hK.out _ _ hSb ?_⟩
      clear hK K' hSa bb hSx
      try simp only[Act.put,sZ0,sZ1,sZ2]
      refine Wl.t (i:=10) (v:=.bool false) (some 42) at10 (hy:=fun _ _=>by go_simp) (hS:=hSb) (h:=?_)
      refine Wl.done (by kernel_rfl) ?_
      have hBy:=Lib.hid (hB1.out.trans (hSb.mono hB1.out.size));have hlj:=hjh.out;have hk9:=hk8.out;clear e0 x0 x1 x2 hSb xr xc;go_wp2
      go_roundw
      case rel=>exact⟨i+1,by omega,by go_num,hBy.out⟩
      case measure=>simp[intOf];omega
     ·have hnei:¬ ((i:Int)=(j:Int)):=by omega
      have hFz:=hFx;go_upto_region 14 with fail
      refine Wl.start (fun W=>Below V1.heap.size V1 W) [] rfl ?_
      have hS:Below V1.heap.size V1 V1.drew:=(Below.refl _ _).drew;refine Wl.t (i:=0) (v:=.slice (some ⟨b,o,none⟩) k c) (some 32) at0 (hy:=fun _ _=>by kernel_rfl) (hS:=hS) (h:=?_)
      refine Wl.t (i:=1) (v:=.int .i64 i) (some 33) at1 (hy:=fun _ _=>by kernel_rfl) (hS:=hS) (h:=?_)
      refine Wl.t (i:=2) (v:=.pointer (some ⟨b,o+i,none⟩)) (some 34) at2 (hy:=fun _ _=>by go_simp) (hS:=hS) (h:=?_)
      refine Wl.t (i:=3) (v:=.slice (some ⟨b2,o2,none⟩) k r.c) (some 35) at3 (hy:=fun W hS=>by (have k0:=bel_cell hS e0.out;clear hS;go_simp)) (hS:=hS) (h:=?_)
      refine Wl.t (i:=4) (v:=.int .i64 j) (some 36) at4 (hy:=fun _ _=>by kernel_rfl) (hS:=hS) (h:=?_)
      refine Wl.t (i:=5) (v:=.pointer (some ⟨b2,o2+j*3,none⟩)) (some 37) at5 (hy:=fun _ _=>by go_simp) (hS:=hS) (h:=?_)
      refine Wl.t (i:=6) (v:=.agg #[.bool x.b,.slice x.A x.n x.c,.slice x.D x.m x.d]) (some 38) at6 (hy:=fun W hS=>by (have k0:=bel_cell hS x0.out;have k1:=bel_cell hS x1.out;have k2:=bel_cell hS x2.out;clear hS;go_simp)) (hS:=hS) (h:=?_)
      refine Wl.t (i:=7) (v:=.int .i64 0) (some 39) at7 (hy:=fun _ _=>by kernel_rfl) (hS:=hS) (h:=?_)
      try simp only[Act.put,sZ0,sZ1,sZ2]
      refine Wl.g (i:=8) at8 (by kernel_rfl) (by kernel_rfl) fun K' hK=>?_
      refine oper_call (f:=19) (args:=#[.int .i64 0]) rfl (by kernel_rfl) ((hFz.out _).mono ?_)
      rintro e w3 ⟨A9,n9,c9,D9,m9,d9,rfl,X9,bb⟩;have hSx:=Lib.hid (fun W (hW:Below w3.heap.size w3 W)=>sameE x (Rt.of A9 n9 c9 D9 m9 d9 qu) xc.out (Rt.of_can _ _ _ _ _ _ hRx.out) hqu.out W (xr.out.bel ((hS.trans (bb.mono hS.size)).trans (hW.mono (hS.trans (bb.mono hS.size)).size))) ⟨X9.n.below hW,X9.d.below hW⟩)
      clear X9;have hSa:=hS.trans (bb.mono hS.size);refine⟨_,rfl,hK.out _ _ hSa ?_⟩
      clear hK K' hS bb hFz
      try simp only[Act.put,sZ0,sZ1,sZ2]
      try simp only[Act.put,sZ0,sZ1,sZ2]
      refine Wl.g (i:=9) at9 (by kernel_rfl) (by kernel_rfl) fun K' hK=>?_
      refine oper_call (f:=14) (args:=#[.agg #[.bool x.b,.slice x.A x.n x.c,.slice x.D x.m x.d],.agg #[.bool (ng qu.num),.slice A9 n9 c9,.slice D9 m9 d9]]) rfl (by kernel_rfl) ((hSx.out _ (Below.refl _ _)).mono ?_)
      rintro e w4 ⟨rfl,bb⟩;have hSb:=hSa.trans (bb.mono hSa.size);refine⟨_,rfl,hK.out _ _ hSb ?_⟩
      clear hK K' hSa bb hSx
      try simp only[Act.put,sZ0,sZ1,sZ2]
      refine Wl.t (i:=10) (v:=.bool false) (some 42) at10 (hy:=fun _ _=>by go_simp) (hS:=hSb) (h:=?_)
      refine Wl.done (by kernel_rfl) ?_
      have hBy:=Lib.hid (hB1.out.trans (hSb.mono hB1.out.size));have hlj:=hjh.out;have hk9:=hk8.out;clear e0 x0 x1 x2 hSb xr xc;go_wp2
      go_roundw
      case rel=>exact⟨j+1,by omega,by go_num,hBy.out⟩
      case measure=>simp[intOf];omega
    ·obtain rfl:j=k:=by omega
     have g4:¬ (j:Int)<(j:Int):=by omega
     have hfb:=Lib.hid (hB.out.trans (B.mono hB.out.size));have hil:=hih.out;have hk9:=hk8.out;clear hlj hjk B;go_wp2
     go_roundw
     case rel=>exact⟨i+1,by omega,by go_num,hfb.out⟩
     case measure=>simp[intOf];omega
  ·obtain rfl:i=k:=by omega
   replace B:=Lib.hid B;clear hlt hik;go_wp2;go_ret;exact⟨rfl,B.out⟩
theorem law_it (b:UInt8) (L1:List Int) (A1:Option Addr) (l1 c1:Nat) (w:World) (h1:LR intC w A1 l1 L1) (b1:∀ i,-9223372036854775808≤L1.getD i 0∧L1.getD i 0≤9223372036854775807):Calls Tryz.prog 4 #[.int .u8 (b.toNat:Int),.slice A1 l1 c1] w fun e w'=>e=.returned (.bool true)∧Below w.heap.size w w':=by
 generalize b.toNat=b0;obtain⟨k,hk⟩:∃ r:Nat,r=b0%5:=⟨_,rfl⟩;have hk4:k≤4:=by omega
 have rv:(b0:Int)%5=(k:Int):=by omega
 have wv:IntKind.i64.wrap (k:Int)=(k:Int):=by rw[IntKind.wrap_i64];omega
 have wv8:IntKind.u8.wrap (k:Int)=(k:Int):=by rw[IntKind.wrap_u8];omega
 clear hk;obtain⟨X,hX⟩:∃ X,X=mdQ k k L1:=⟨_,rfl⟩;have X1:∀ r∈X,∀ q∈r,Rs q 1:=by rw[hX];exact mdQ_rs
 have X2:∀ r∈X,∀ q∈r,S2 1 1 q:=by rw[hX];exact mdQ_s2
 have X3:=(sz11 hk4 (show k≤8 by omega) X2).1
 have X4:=(sz11 hk4 (show k≤8 by omega) X2).2.1
 have hM1:=Lib.hid (fun W (hW:LR intC W A1 l1 L1)=>made_any k k L1 A1 l1 c1 W hW b1 (by omega) (by omega) id id)
 rw[←hX] at hM1;obtain⟨p,hp⟩:∃ p,p=dE k (el X):=⟨_,rfl⟩;have hXl:X.length=k∧GE.rct k X:=by rw[hX];exact⟨mk_len,mk_rct⟩
 have hpr:Hid (Rs p 9000000):=Lib.hid (by rw[hp];exact dE_rs hXl.1 hXl.2 X1 (b:=1) (by omega) (pow5 hk4 (by omega)))
 have hz:p=0↔rk k k (el X)≠k:=by rw[hp];exact dE_zero hk4
 have hDX:=Lib.hid (fun W K1 A c (g1:Gd K1 k k X) (m1:Mr W A k c K1)=>pdet_g g1 m1 X3 X4 hk4)
 rw[←hp] at hDX;have hA:=Lib.hid awake_any;have S0:=Lib.hid (St.new w);replace h1:=Lib.hid h1
 by_cases hr:rk k k (el X)=k
 ·have hp0:p≠0:=fun h0=>(hz.1 h0) hr
  obtain⟨Y,hY⟩:∃ Y,Y=invQ k X:=⟨_,rfl⟩;have Y1:∀ r∈Y,∀ q∈r,Rs q 625:=by rw[hY];exact invQ_rs hk4 X1
  have hYl:Y.length=k∧GE.rct k Y:=by rw[hY];exact invQ_sh
  have hYe:∀ i j,el Y i j=inv k (el X) i j:=fun i j=>by rw[hY];exact invQ_el i j
  have hI:=Lib.hid (fun W K1 A c (g1:Gd K1 k k X) (m1:Mr W A k c K1)=>pinv_g g1 m1 X3 hk4 hr)
  rw[←hY] at hI;have e1:mk k k (mp k (el X) (el Y))=mk k k I1:=mk_congr fun i hi j hj=>by
   rw[mp_congr (C:=el X) (D:=inv k (el X)) (n:=k) (k:=k) (fun _ _=>rfl) (fun t _=>hYe t j)];exact inv_right hr hi hj
  have e2:mk k k (mp k (el Y) (el X))=mk k k I1:=mk_congr fun i hi j hj=>by
   rw[mp_congr (C:=inv k (el X)) (D:=el X) (n:=k) (k:=k) (fun t _=>hYe i t) (fun _ _=>rfl)];exact inv_left hr hi hj
  have X8:∀ r∈X,∀ q∈r,Rs q 8000:=fun r hr q hq=>(X1 r hr q hq).mono (by omega)
  have Y8:∀ r∈Y,∀ q∈r,Rs q 8000:=fun r hr q hq=>(Y1 r hr q hq).mono (by omega)
  have hP1:=Lib.hid (fun W K1 K2 A c A' c' (g1:Gd K1 k k X) (g2:Gd K2 k k Y) (m1:Mr W A k c K1) (m2:Mr W A' k c' K2)=>pmul_g g1 g2 m1 m2 X8 Y8 (by omega) id id)
  have hP2:=Lib.hid (fun W K1 K2 A c A' c' (g1:Gd K1 k k Y) (g2:Gd K2 k k X) (m1:Mr W A k c K1) (m2:Mr W A' k c' K2)=>pmul_g g1 g2 m1 m2 Y8 X8 (by omega) id id)
  rw[e1] at hP1;rw[e2] at hP2;obtain⟨q,hq⟩:∃ q,q=dE k (el Y):=⟨_,rfl⟩;have hqp:Hid (q*p=1):=Lib.hid (by
   rw[hq,hp,Rat.mul_comm,dE_congr (B:=inv k (el X)) fun i _ j _=>hYe i j];exact dE_inv hk4 hr)
  have hqr:Hid (Rs q 9000000):=Lib.hid (by rw[hq];exact dE_rs hYl.1 hYl.2 Y1 (b:=625) (by omega) (pow5 hk4 (by omega)))
  have hDY:=Lib.hid (fun W K1 A c (g1:Gd K1 k k Y) (m1:Mr W A k c K1)=>pdet_g g1 m1 (fun r hr q hq=>rs_s2 (Y1 r hr q hq)) (sz625 hk4 hk4) hk4)
  rw[←hq] at hDY;obtain⟨z,hzz⟩:∃ z,z=p.num.sign:=⟨_,rfl⟩;have hz0:¬ z=0:=fun h0=>hp0 (Rat.num_eq_zero.1 (Int.sign_eq_zero_iff_zero.1 (by rw[←hzz];exact h0)))
  obtain⟨f1,hf1⟩:∃ q:Rat,q=1:=⟨_,rfl⟩;rw[←hf1] at hqp;have hFI:Hid (∀ W,Calls Tryz.prog 19 #[.int .i64 1] W (RetR f1 W)):=Lib.hid (fun W=>by rw[hf1];exact FfromInt_any 1 W (by omega) (by omega))
  have rs1:Hid (Rs f1 9000000):=Lib.hid (by rw[hf1];exact S2.rs (S2.one (a:=1) (d:=1)) (by decide) (by decide))
  have hU:=Lib.hid (fun W K A c (m:Mr W A k c K) g=>unit_any k K A c W m g)
  replace hzz:=Lib.hid hzz;clear hX X1 X2 X3 X4 Y1 hXl hYl hYe hY hp hz hp0 hr e1 e2 X8 Y8 hq hf1 b1 hk4;go_enter Tryz.func4,Tryz.ntmps4
  go_wp2_with fail
  refine (hM1.out _ h1.out).mono ?_
  rintro e w' ⟨A3,c3,K3,rfl,m3,g3,bb⟩;replace h1:=Lib.hid (h1.out.bel bb);replace S0:=Lib.hid (S0.out.call bb);replace m3:=Lib.hid m3;replace g3:=Lib.hid g3;clear bb;clear hM1 h1 rv wv wv8
  go_wp2_with fail
  refine (hI.out _ K3 A3 c3 g3.out m3.out).mono ?_
  rintro e w' ⟨A4,c4,K4,rfl,m4,g4,bb⟩;replace m3:=Lib.hid (m3.out.bel bb);replace S0:=Lib.hid (S0.out.call bb);replace m4:=Lib.hid m4;replace g4:=Lib.hid g4;clear bb;clear hI
  go_wp2_with fail
  refine (hDX.out _ K3 A3 c3 g3.out m3.out).mono ?_
  rintro e v11 ⟨A11,n11,c11,D11,m11,d11,rfl,x11,bb⟩;replace m3:=Lib.hid (m3.out.bel bb);replace m4:=Lib.hid (m4.out.bel bb);replace S0:=Lib.hid (S0.out.call bb);have B:=(Below.refl v11.heap.size v11).alloc (Nat.le_refl _) (.cells #[.bool (ng p.num),.slice A11 n11 c11,.slice D11 m11 d11] 33);replace S0:=Lib.hid (((S0.out.read x11.n).read x11.d).allocAt v11.heap.size #[.bool (ng p.num),.slice A11 n11 c11,.slice D11 m11 d11] 33 (noLof rfl) rfl)
  obtain⟨V11,hV⟩:∃ W,W=v11.alloc (.cells #[.bool (ng p.num),.slice A11 n11 c11,.slice D11 m11 d11] 33):=⟨_,rfl⟩;obtain⟨g11,hg⟩:∃ g,g=v11.heap.size:=⟨_,rfl⟩;rw[←hV] at B S0;rw[←hg] at S0;replace m3:=Lib.hid (m3.out.bel B);replace m4:=Lib.hid (m4.out.bel B);go_upto_region 5 with fail
  rw[←hg,←hV];clear hV hg B bb x11;clear hDX;obtain⟨ud0,ud1,ud2⟩:=S0.out.c3 0 rfl;have hSg:=Lib.hid (rsignQ2 p A11 n11 c11 D11 m11 d11 _ ⟨S0.out.rd (A11,n11,c11,limbs p.num.natAbs) (by simp),S0.out.rd (D11,m11,d11,dn p) (by simp)⟩ (hpr.out.mono (by omega)))
  rw[←hzz.out] at hSg
  go_wp2_with fail
  refine hSg.out.mono ?_
  rintro e w7 ⟨rfl,bb⟩;replace m3:=Lib.hid (m3.out.bel bb);replace m4:=Lib.hid (m4.out.bel bb);replace S0:=Lib.hid (S0.out.call bb);clear bb hSg hzz ud0 ud1 ud2
  go_wp2_with fail
  refine (hP1.out _ K3 K4 A3 c3 A4 c4 g3.out g4.out m3.out m4.out).mono ?_
  rintro e w' ⟨A5,c5,K5,rfl,m5,g5,bb⟩;replace m3:=Lib.hid (m3.out.bel bb);replace m4:=Lib.hid (m4.out.bel bb);replace S0:=Lib.hid (S0.out.call bb);replace m5:=Lib.hid m5;replace g5:=Lib.hid g5;clear bb;clear hP1
  go_wp2_with fail
  refine (hP2.out _ K4 K3 A4 c4 A3 c3 g4.out g3.out m4.out m3.out).mono ?_
  rintro e w' ⟨A6,c6,K6,rfl,m6,g6,bb⟩;replace m3:=Lib.hid (m3.out.bel bb);replace m4:=Lib.hid (m4.out.bel bb);replace m5:=Lib.hid (m5.out.bel bb);replace S0:=Lib.hid (S0.out.call bb);replace m6:=Lib.hid m6;replace g6:=Lib.hid g6;clear bb;clear hP2;clear m3 g3
  go_wp2_with fail
  refine (hDY.out _ K4 A4 c4 g4.out m4.out).mono ?_
  rintro e v12 ⟨A12,n12,c12,D12,m12,d12,rfl,x12,bb⟩;replace m4:=Lib.hid (m4.out.bel bb);replace m5:=Lib.hid (m5.out.bel bb);replace m6:=Lib.hid (m6.out.bel bb);replace S0:=Lib.hid (S0.out.call bb);have B:=(Below.refl v12.heap.size v12).alloc (Nat.le_refl _) (.cells #[.bool (ng q.num),.slice A12 n12 c12,.slice D12 m12 d12] 33);replace S0:=Lib.hid (((S0.out.read x12.n).read x12.d).allocAt v12.heap.size #[.bool (ng q.num),.slice A12 n12 c12,.slice D12 m12 d12] 33 (noLof rfl) rfl)
  obtain⟨V12,hV⟩:∃ W,W=v12.alloc (.cells #[.bool (ng q.num),.slice A12 n12 c12,.slice D12 m12 d12] 33):=⟨_,rfl⟩;obtain⟨g12,hg⟩:∃ g,g=v12.heap.size:=⟨_,rfl⟩;rw[←hV] at B S0;rw[←hg] at S0;replace m4:=Lib.hid (m4.out.bel B);replace m5:=Lib.hid (m5.out.bel B);replace m6:=Lib.hid (m6.out.bel B);go_upto_region 10 with fail
  rw[←hg,←hV];clear hV hg B bb x12;clear hDY m4 g4
  go_wp2_with fail
  refine (hA.out _).mono ?_
  rintro e w' ⟨rfl,bb⟩;replace m5:=Lib.hid (m5.out.bel bb);replace m6:=Lib.hid (m6.out.bel bb);replace S0:=Lib.hid (S0.out.call bb);clear bb;clear hA
  go_wp2_with fail
  refine (hU.out _ K5 A5 c5 m5.out g5.out).mono ?_
  rintro e w' ⟨rfl,bb⟩;replace m5:=Lib.hid (m5.out.bel bb);replace m6:=Lib.hid (m6.out.bel bb);replace S0:=Lib.hid (S0.out.call bb);clear bb;clear m5 g5
  go_wp2_with fail
  refine (hU.out _ K6 A6 c6 m6.out g6.out).mono ?_
  rintro e w' ⟨rfl,bb⟩;replace m6:=Lib.hid (m6.out.bel bb);replace S0:=Lib.hid (S0.out.call bb);clear bb;clear m6 g6 hU;obtain⟨uc0,uc1,uc2⟩:=S0.out.c3 0 rfl;obtain⟨ud0,ud1,ud2⟩:=S0.out.c3 1 rfl;have hF:=Lib.hid (fmulQ q p A12 n12 c12 D12 m12 d12 A11 n11 c11 D11 m11 d11 _ ⟨S0.out.rd (A12,n12,c12,limbs q.num.natAbs) (by simp),S0.out.rd (D12,m12,d12,dn q) (by simp)⟩ ⟨S0.out.rd (A11,n11,c11,limbs p.num.natAbs) (by simp),S0.out.rd (D11,m11,d11,dn p) (by simp)⟩ (hqr.out.mono (by omega)) (hpr.out.mono (by omega)))
  rw[hqp.out] at hF
  go_wp2_with fail
  refine hF.out.mono ?_
  rintro e w7 ⟨A15,n15,c15,D15,m15,d15,rfl,x15,bb⟩;replace S0:=Lib.hid (((S0.out.call bb).read x15.n).read x15.d);clear bb hF x15 uc0 uc1 uc2 ud0 ud1 ud2
  go_wp2_with fail
  refine (hFI.out _).mono ?_
  rintro e w7 ⟨A16,n16,c16,D16,m16,d16,rfl,x16,bb⟩;replace S0:=Lib.hid (((S0.out.call bb).read x16.n).read x16.d);clear bb hFI x16;have hSa:=Lib.hid (sameE (Rt.of A15 n15 c15 D15 m15 d15 f1) (Rt.of A16 n16 c16 D16 m16 d16 f1) (Rt.of_can _ _ _ _ _ _ rs1.out) (Rt.of_can _ _ _ _ _ _ rs1.out) rfl _ ⟨S0.out.rd (A15,n15,c15,limbs f1.num.natAbs) (by simp),S0.out.rd (D15,m15,d15,dn f1) (by simp)⟩ ⟨S0.out.rd (A16,n16,c16,limbs f1.num.natAbs) (by simp),S0.out.rd (D16,m16,d16,dn f1) (by simp)⟩)
  go_wp2_with fail
  refine hSa.out.mono ?_
  rintro e w7 ⟨rfl,bb⟩;replace S0:=Lib.hid (S0.out.call bb);clear bb hSa;go_wp2;go_ret;exact⟨rfl,S0.out.bel⟩
 ·have hp0:p=0:=hz.2 hr
  have hI:=Lib.hid (fun W K1 A c (g1:Gd K1 k k X) (m1:Mr W A k c K1)=>pinv_n g1 m1 X3 hk4 hr)
  have hs0:Hid (p.num.sign=0):=Lib.hid (by rw[hp0];rfl)
  clear hX X1 X2 X3 X4 hXl hp hz hr b1 hk4 hp0;go_enter Tryz.func4,Tryz.ntmps4
  go_wp2_with fail
  refine (hM1.out _ h1.out).mono ?_
  rintro e w' ⟨A3,c3,K3,rfl,m3,g3,bb⟩;replace h1:=Lib.hid (h1.out.bel bb);replace S0:=Lib.hid (S0.out.call bb);replace m3:=Lib.hid m3;replace g3:=Lib.hid g3;clear bb;clear hM1 h1 rv wv wv8
  go_wp2_with fail
  refine (hI.out _ K3 A3 c3 g3.out m3.out).mono ?_
  rintro e w' ⟨A4,c4,rfl,bb⟩;replace m3:=Lib.hid (m3.out.bel bb);replace S0:=Lib.hid (S0.out.call bb);clear bb;clear hI
  go_wp2_with fail
  refine (hDX.out _ K3 A3 c3 g3.out m3.out).mono ?_
  rintro e v11 ⟨A11,n11,c11,D11,m11,d11,rfl,x11,bb⟩;replace m3:=Lib.hid (m3.out.bel bb);replace S0:=Lib.hid (S0.out.call bb);have B:=(Below.refl v11.heap.size v11).alloc (Nat.le_refl _) (.cells #[.bool (ng p.num),.slice A11 n11 c11,.slice D11 m11 d11] 33);replace S0:=Lib.hid (((S0.out.read x11.n).read x11.d).allocAt v11.heap.size #[.bool (ng p.num),.slice A11 n11 c11,.slice D11 m11 d11] 33 (noLof rfl) rfl)
  obtain⟨V11,hV⟩:∃ W,W=v11.alloc (.cells #[.bool (ng p.num),.slice A11 n11 c11,.slice D11 m11 d11] 33):=⟨_,rfl⟩;obtain⟨g11,hg⟩:∃ g,g=v11.heap.size:=⟨_,rfl⟩;rw[←hV] at B S0;rw[←hg] at S0;replace m3:=Lib.hid (m3.out.bel B);go_upto_region 5 with fail
  rw[←hg,←hV];clear hV hg B bb x11;clear hDX;have hSg:=Lib.hid (rsignQ2 p A11 n11 c11 D11 m11 d11 _ ⟨S0.out.rd (A11,n11,c11,limbs p.num.natAbs) (by simp),S0.out.rd (D11,m11,d11,dn p) (by simp)⟩ (hpr.out.mono (by omega)))
  rw[hs0.out] at hSg;obtain⟨ud0,ud1,ud2⟩:=S0.out.c3 0 rfl
  go_wp2_with fail
  refine hSg.out.mono ?_
  rintro e w7 ⟨rfl,bb⟩;replace m3:=Lib.hid (m3.out.bel bb);replace S0:=Lib.hid (S0.out.call bb);clear bb hSg ud0 ud1 ud2 m3 g3
  go_wp2_with fail
  refine (hA.out _).mono ?_
  rintro e w' ⟨rfl,bb⟩;replace S0:=Lib.hid (S0.out.call bb);clear bb;clear hA;go_wp2;go_ret;exact⟨rfl,S0.out.bel⟩
end Go.Proofs.YthlinhconnmbcaaGreat
