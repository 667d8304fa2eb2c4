/- shortOf, bothShort and quotientOfInts of rational. -/
import Derived.IntWalk
import Derived.Deep.CutBlock
import Derived.Test.YthlinhconnmbcaaGreatB08
import Derived.RegionTactic
import Derived.Test.YthlinhconnmbcaaGreatB07
import Derived.Test.YthlinhconnmbcaaGreatB06
import Derived.Test.YthlinhconnmbcaaGreatB04
set_option maxRecDepth 100000
set_option maxHeartbeats 40000000
set_option linter.unusedVariables false
namespace Go.Proofs.YthlinhconnmbcaaGreat
open Go.RowKit RQ
def shq (q:Rat):Bool:=decide (q.num.natAbs≤2147483647)&&decide (q.den≤2147483647)
def shN (q:Rat):Int:=if shq q=true then q.num else 0
def shD (q:Rat):Int:=if shq q=true then (q.den:Int) else 0
theorem res_shortOf (W:World) (tmps:Array Value) (g t:Nat) {v0 v1 e0:Value} (ht:tmps.getD 2 undef=.pointer (some ⟨g,0,none⟩)) (h0:tmps.getD 3 undef=e0) (h:Cb W g #[v0,v1] t) :
  (results Tryz.f120 tmps).run Tryz.prog W=.ok (.tuple #[.agg #[v0,v1],e0]) W:=by
 have c0:W.cell? ⟨g,0,none⟩=some v0:=h.cell rfl;have c1:W.cell? ⟨g,1,none⟩=some v1:=h.cell rfl;have ht':tmps[2]?.getD undef=.pointer (some ⟨g,0,none⟩):=by rw[←ht];simp[Array.getD_eq_getD_getElem?]
 have k0:tmps[3]?.getD undef=e0:=by rw[←h0];simp[Array.getD_eq_getD_getElem?]
 simp[results,Tryz.results120,go_sem,ht',k0,c0,c1]
theorem len1 {N n:Nat} (h:(limbs N).length=n) (hn:n≤1):N<4294967296∧(n=0→N=0)∧(n=1→(limbs N).getD 0 0=N):=by
 have h1:N<4294967296^1:=limbs_len_le.1 (by omega)
 rw[Nat.pow_one] at h1;refine⟨h1,fun e=>?_,fun e=>?_⟩
 ·have:=congrArg val (List.eq_nil_of_length_eq_zero (h.trans e));rwa [val_limbs] at this
 ·have hp:0<N:=by
   rcases Nat.eq_zero_or_pos N with h0 | h0
   ·rw[h0,limbs_zero] at h;simp at h;omega
   ·exact h0
  rw[limbs_pos hp];simp;omega
theorem big_len {N n:Nat} (h:(limbs N).length=n) (hn:1<n):2147483647<N:=by
 rcases Nat.lt_or_ge 2147483647 N with h1 | h1
 ·exact h1
 ·have:(limbs N).length≤1:=limbs_len_le.2 (by rw[Nat.pow_one];omega)
  omega
theorem shortOf_any (q:Rat) (A:Option Addr) (n c:Nat) (D:Option Addr) (m d:Nat) (w:World) (R:RR w A n c D m d q) :
  Calls Tryz.prog 120 #[.agg #[.bool (ng q.num),.slice A n c,.slice D m d]] w fun e w'=>e=.returned (.tuple #[.agg #[.int .i64 (shN q),.int .i64 (shD q)],.bool (shq q)])∧Below w.heap.size w w':=by
 have R1:=R.n;have R2:=R.d;have l1:=R1.len;have l2:=R2.len;obtain⟨d0,d1⟩:=dn_len0 l2;have S:=(((((St.new w).read R1).read R2).allocAt (w.heap.size) #[.bool (ng q.num),.slice A n c,.slice D m d] 33 (noL3 _ _ _ _ _ _ _) (by simp)).allocAt (w.heap.size+1) #[.int .i64 0,.int .i64 0] 116 (noLi _ _) (by simp))
 replace S:=Lib.hid S
 by_cases h1:1<n
 ·have g1:(1:Int)<(n:Int):=by omega
  have hs:shq q=false:=by unfold shq;rw[decide_eq_false (by have:=big_len l1 h1;omega)];rfl
  obtain⟨e1,e2⟩:shN q=0∧shD q=0:=by unfold shN shD;rw[hs];exact⟨rfl,rfl⟩
  rw[e1,e2,hs];clear h1 l1 l2 d0 d1 hs e1 e2 R R1 R2;go_enter Tryz.func120,Tryz.ntmps120;go_wp2;refine bodyPost_ret (res_shortOf _ _ (w.heap.size+1) 116 rfl rfl (S.out.bk _ (List.mem_of_getElem? (i:=0) rfl)).1) rfl ?_
  exact⟨rfl,S.out.bel⟩
 have g1:(n:Int)≤1:=by omega
 by_cases h2:1<m
 ·have g2:(1:Int)<(m:Int):=by omega
  have hs:shq q=false:=by unfold shq;rw[decide_eq_false (show ¬ q.den≤2147483647 by have e:=d1 (by omega);rw[e] at l2;have:=big_len l2 h2;omega)];simp
  obtain⟨e1,e2⟩:shN q=0∧shD q=0:=by unfold shN shD;rw[hs];exact⟨rfl,rfl⟩
  rw[e1,e2,hs];clear h1 h2 l1 l2 d0 d1 hs e1 e2 R R1 R2;go_enter Tryz.func120,Tryz.ntmps120;go_wp2;refine bodyPost_ret (res_shortOf _ _ (w.heap.size+1) 116 rfl rfl (S.out.bk _ (List.mem_of_getElem? (i:=0) rfl)).1) rfl ?_
  exact⟨rfl,S.out.bel⟩
 have g2:(m:Int)≤1:=by omega
 obtain⟨a1,a2,a3⟩:=len1 l1 (by omega)
 have hdm:q.den<4294967296∧(m=0→q.den=1)∧(m=1→(dn q).getD 0 0=q.den):=by
  by_cases hm:m=0
  ·refine⟨by have:=d0 hm;omega,fun _=>by have:=d0 hm;omega,fun e=>by omega⟩
  ·have e:=d1 hm
   rw[e] at l2;obtain⟨b1,_,b3⟩:=len1 l2 (by omega)
   exact⟨b1,fun h=>absurd h hm,fun h=>by rw[e];exact b3 h⟩
 obtain⟨b1,b2,b3⟩:=hdm;have hdp:=q.den_pos;obtain⟨N,hN⟩:∃ N,q.num.natAbs=N:=⟨_,rfl⟩;obtain⟨E,hE⟩:∃ E,q.den=E:=⟨_,rfl⟩;have hrow1:=fun W (h:Rd W A n c (limbs q.num.natAbs)) (hk:0<n)=>h.at_ hk
 have hrow2:=fun W (h:Rd W D m d (dn q)) (hk:0<m)=>h.at_ hk
 rw[hN] at a1 a2 a3;have hshN:shN q=if decide (N≤2147483647)&&decide (E≤2147483647) then q.num else 0:=by unfold shN shq;rw[hN,hE]
 have hshD:shD q=if decide (N≤2147483647)&&decide (E≤2147483647) then (E:Int) else 0:=by unfold shD shq;rw[hN,hE]
 have hshq:shq q=(decide (N≤2147483647)&&decide (E≤2147483647)):=by unfold shq;rw[hN,hE]
 rw[hE] at b1 b2 b3 hdp;have M1:(N:Int)<4294967296:=by omega
 have M2:(E:Int)<4294967296:=by omega
 replace hrow1:=Lib.hid hrow1;replace hrow2:=Lib.hid hrow2;replace a2:=Lib.hid a2;replace a3:=Lib.hid a3;replace b2:=Lib.hid b2;replace b3:=Lib.hid b3;replace hshN:=Lib.hid hshN;replace hshD:=Lib.hid hshD;replace hshq:=Lib.hid hshq;replace hN:=Lib.hid hN;replace hE:=Lib.hid hE;replace M1:=Lib.hid M1;replace M2:=Lib.hid M2;replace hdp:=Lib.hid hdp;clear R l1 l2 d0 d1 h1 h2 a1 b1;replace g1:=Lib.hid g1
 replace g2:=Lib.hid g2;have t1:decide ((1:Int)<(n:Int))=false:=decide_eq_false (by have:=g1.out;omega)
 have t2:decide ((1:Int)<(m:Int))=false:=decide_eq_false (by have:=g2.out;omega)
 go_enter Tryz.func120,Tryz.ntmps120
 go_upto_block 0 with fail
 generalize hW1:((w.alloc (.cells #[.bool (ng q.num),.slice A n c,.slice D m d] 33)).alloc (.cells #[.int .i64 0,.int .i64 1] 116))=w1;have S1:St w w1 [(w.heap.size+1,#[.int .i64 0,.int .i64 1],116),(w.heap.size,#[.bool (ng q.num),.slice A n c,.slice D m d],33)] [(D,m,d,dn q),(A,n,c,limbs q.num.natAbs)]:=by
  rw[←hW1];exact ((((St.new w).read R1).read R2).allocAt (w.heap.size) #[.bool (ng q.num),.slice A n c,.slice D m d] 33 (noL3 _ _ _ _ _ _ _) rfl).allocAt (w.heap.size+1) #[.int .i64 0,.int .i64 1] 116 (noLi _ _) (by simp)
 replace S1:=Lib.hid S1;clear hW1 S R1 R2;go_wp2
 go_loopw [25] (fun i wr=>∃ (k:Nat) (v:Int),i=.int .i64 (k:Int)∧k≤n∧(k=0→v=0)∧(0<k→v=(N:Int))∧St w wr [(w.heap.size+1,#[.int .i64 v,.int .i64 1],116),(w.heap.size,#[.bool (ng q.num),.slice A n c,.slice D m d],33)] [(D,m,d,dn q),(A,n,c,limbs q.num.natAbs)]) (fun i _=>n-(intOf i).toNat)
 case atStart=>exact⟨0,0,rfl,Nat.zero_le _,fun _=>rfl,fun h=>absurd h (by omega),S1.out⟩
 case round=>
  obtain⟨k,v,rfl,hk,hv0,hv1,S⟩:=hrel;clear S1
  by_cases hlt:k<n
  ·have hn1:n=1:=by have:=g1.out;omega
   have hk0:k=0:=by omega
   subst hk0;obtain⟨b,o,x,hA,hb,hx,hget,hc⟩:=hrow1.out _ (S.r 1 rfl) (by omega)
   subst hA;rw[hN.out,a3.out hn1] at hget;subst hget;rw[Nat.add_zero] at hc;have c0:=S.cl 0 0 rfl rfl;have f0:=S.f 0 0 rfl;have m0:=M1.out;have m1:(0:Int)≤(N:Int):=by omega
   have SE:=Lib.hid (S.set 0 0 (.int .i64 (N:Int)) rfl (by nofun))
   clear hv0 hv1 hb hx S;replace hn1:=Lib.hid hn1;have t3:decide (0<n)=true:=decide_eq_true hlt;have t4:(0:Int)<(n:Int):=by omega
   clear t1 t2 m0 m1;have m0:(N:Int)≤4294967295:=by have:=M1.out;omega
   go_wp2
   go_roundw
   case rel=>exact⟨1,N,rfl,by have:=hn1.out;omega,fun h=>absurd h (by omega),fun _=>rfl,SE.out⟩
   case measure=>simp[intOf];omega
  ·have hv:v=(N:Int):=by
    rcases Nat.eq_zero_or_pos k with h | h
    ·rw[hv0 h,a2.out (by omega)];rfl
    ·exact hv1 h
   subst hv;clear hv0 hv1;have t5:decide (k<n)=false:=decide_eq_false hlt;replace hlt:=Lib.hid hlt;replace hk:=Lib.hid hk;obtain⟨x0,x1,x2⟩:=S.c3 1 rfl;replace S:=Lib.hid S
   go_upto_block 2 with fail
   clear x0 x1 x2;go_wp2
   go_loopw [36] (fun i ws=>∃ (j:Nat) (u:Int),i=.int .i64 (j:Int)∧j≤m∧(j=0→u=1)∧(0<j→u=(E:Int))∧St w ws [(w.heap.size+1,#[.int .i64 (N:Int),.int .i64 u],116),(w.heap.size,#[.bool (ng q.num),.slice A n c,.slice D m d],33)] [(D,m,d,dn q),(A,n,c,limbs q.num.natAbs)]) (fun i _=>m-(intOf i).toNat)
   case atStart=>exact⟨0,1,rfl,Nat.zero_le _,fun _=>rfl,fun h=>absurd h (by omega),S.out⟩
   case round=>
    obtain⟨j,u,rfl,hj,hu0,hu1,S2⟩:=hrel;clear S;have S:=S2;clear S2
    by_cases hlu:j<m
    ·have hm1:m=1:=by have:=g2.out;omega
     have hj0:j=0:=by omega
     subst hj0;obtain⟨b,o,x,hA,hb,hx,hget,hc⟩:=hrow2.out _ (S.r 0 rfl) (by omega)
     subst hA;rw[b3.out hm1] at hget;subst hget;rw[Nat.add_zero] at hc;have c0:=S.cl 0 1 rfl rfl;have f0:=S.f 0 1 rfl;have m0:(E:Int)≤4294967295:=by have:=M2.out;omega
     have SE:=Lib.hid (S.set 0 1 (.int .i64 (E:Int)) rfl (by nofun))
     have t3:decide (0<m)=true:=decide_eq_true hlu;have t4:(0:Int)<(m:Int):=by omega
     clear hu0 hu1 hb hx S t1 t2 t5;replace hm1:=Lib.hid hm1;go_wp2
     go_roundw
     case rel=>exact⟨1,E,rfl,by have:=hm1.out;omega,fun h=>absurd h (by omega),fun _=>rfl,SE.out⟩
     case measure=>simp[intOf];omega
    ·have hu:u=(E:Int):=by
      rcases Nat.eq_zero_or_pos j with h | h
      ·rw[hu0 h,b2.out (by omega)];rfl
      ·exact hu1 h
     subst hu;clear hu0 hu1 t1 t2 t5;have t6:decide (j<m)=false:=decide_eq_false hlu;replace hlu:=Lib.hid hlu;replace hj:=Lib.hid hj;obtain⟨y0,y1,y2,y3⟩:=S.cf2 0 rfl;have x0:=S.cl 1 0 rfl rfl;replace S:=Lib.hid S;have hbk:=Lib.hid (S.out.bk _ (List.mem_of_getElem? (i:=0) rfl))
     rcases Nat.lt_or_ge 2147483647 (max N E) with hmx | hmx
     ·have t7:decide ((2147483647:Int)<max (N:Int) (E:Int))=true:=decide_eq_true (by omega)
      have hk0:(decide (N≤2147483647)&&decide (E≤2147483647))=false:=by
       rw[Bool.and_eq_false_iff,decide_eq_false_iff_not,decide_eq_false_iff_not];omega
      have e0:=Lib.hid (hshq.out.trans hk0);have e1:Hid (shN q=0):=Lib.hid (by rw[hshN.out,hk0];rfl)
      have e2:Hid (shD q=0):=Lib.hid (by rw[hshD.out,hk0];rfl)
      have SF:=Lib.hid ((S.out.set 0 0 (.int .i64 0) rfl (by nofun)).set 0 1 (.int .i64 0) rfl (by nofun))
      clear hmx hk0;go_wp2;refine bodyPost_ret (res_shortOf _ _ (w.heap.size+1) 116 rfl rfl (SF.out.bk _ (List.mem_of_getElem? (i:=0) rfl)).1) rfl ?_
      exact⟨by rw[e0.out,e1.out,e2.out];rfl,SF.out.bel⟩
     ·have t7:decide ((2147483647:Int)<max (N:Int) (E:Int))=false:=decide_eq_false (by omega)
      have hk0:(decide (N≤2147483647)&&decide (E≤2147483647))=true:=by
       rw[Bool.and_eq_true,decide_eq_true_iff,decide_eq_true_iff];omega
      have e0:=Lib.hid (hshq.out.trans hk0);have e1:Hid (shN q=q.num):=Lib.hid (by rw[hshN.out,hk0];rfl)
      have e2:Hid (shD q=(E:Int)):=Lib.hid (by rw[hshD.out,hk0];rfl)
      have m0:(N:Int)≤2147483647:=by omega
      have m1:(0:Int)≤(N:Int):=by omega
      clear hmx hk0
      rcases Bool.eq_false_or_eq_true (ng q.num) with hg | hg
      ·have hz:Hid (q.num = -(N:Int)):=Lib.hid (by
        have:=of_decide_eq_true (show decide (q.num<0)=true from hg)
        have:=hN.out;omega)
       have SF:=Lib.hid (((S.out.set 0 0 (.int .i64 (-(N:Int))) rfl (by nofun)).set 0 0 (.int .i64 (-(N:Int))) rfl (by nofun)).set 0 1 (.int .i64 (E:Int)) rfl (by nofun))
       go_wp2;refine bodyPost_ret (res_shortOf _ _ (w.heap.size+1) 116 rfl rfl (SF.out.bk _ (List.mem_of_getElem? (i:=0) rfl)).1) rfl ?_
       exact⟨by rw[e0.out,e1.out,e2.out,hz.out];rfl,SF.out.bel⟩
      ·have hz:Hid (q.num=(N:Int)):=Lib.hid (by
        have:=of_decide_eq_false (show decide (q.num<0)=false from hg)
        have:=hN.out;omega)
       have SF:=Lib.hid ((S.out.set 0 0 (.int .i64 (N:Int)) rfl (by nofun)).set 0 1 (.int .i64 (E:Int)) rfl (by nofun))
       go_wp2;refine bodyPost_ret (res_shortOf _ _ (w.heap.size+1) 116 rfl rfl (SF.out.bk _ (List.mem_of_getElem? (i:=0) rfl)).1) rfl ?_
       exact⟨by rw[e0.out,e1.out,e2.out,hz.out];rfl,SF.out.bel⟩
end Go.Proofs.YthlinhconnmbcaaGreat
namespace Go.Proofs.YthlinhconnmbcaaGreat
open Go.RowKit RQ
theorem res_both (W:World) (tmps:Array Value) (g g' t t':Nat) {v0 v1 v2 v3 e0:Value} (ht:tmps.getD 4 undef=.pointer (some ⟨g,0,none⟩)) (ht2:tmps.getD 5 undef=.pointer (some ⟨g',0,none⟩)) (h0:tmps.getD 6 undef=e0) (h:Cb W g #[v0,v1] t) (h':Cb W g' #[v2,v3] t') :
  (results Tryz.f104 tmps).run Tryz.prog W=.ok (.tuple #[.agg #[v0,v1],.agg #[v2,v3],e0]) W:=by
 have c0:W.cell? ⟨g,0,none⟩=some v0:=h.cell rfl;have c1:W.cell? ⟨g,1,none⟩=some v1:=h.cell rfl;have c2:W.cell? ⟨g',0,none⟩=some v2:=h'.cell rfl;have c3:W.cell? ⟨g',1,none⟩=some v3:=h'.cell rfl;have ht':tmps[4]?.getD undef=.pointer (some ⟨g,0,none⟩):=by rw[←ht];simp[Array.getD_eq_getD_getElem?]
 have ht3:tmps[5]?.getD undef=.pointer (some ⟨g',0,none⟩):=by rw[←ht2];simp[Array.getD_eq_getD_getElem?]
 have k0:tmps[6]?.getD undef=e0:=by rw[←h0];simp[Array.getD_eq_getD_getElem?]
 simp[results,Tryz.results104,go_sem,ht',ht3,k0,c0,c1,c2,c3]
def RetBS (x y:Rat) (w:World) (e:Ending) (w':World):Prop:=∃ a b c d:Int,e=.returned (.tuple #[.agg #[.int .i64 a,.int .i64 b],.agg #[.int .i64 c,.int .i64 d],.bool (shq x&&shq y)])∧((shq x&&shq y)=true→a=x.num∧b=x.den∧c=y.num∧d=y.den)∧Below w.heap.size w w'
theorem bothShort_any (x y:Rat) (A:Option Addr) (n c:Nat) (D:Option Addr) (m d:Nat) (A':Option Addr) (n' c':Nat) (D':Option Addr) (m' d':Nat) (w:World) (X:RR w A n c D m d x) (Y:RR w A' n' c' D' m' d' y) :
  Calls Tryz.prog 104 #[.agg #[.bool (ng x.num),.slice A n c,.slice D m d],.agg #[.bool (ng y.num),.slice A' n' c',.slice D' m' d']] w (RetBS x y w):=by
 have hX:=fun W h=>shortOf_any x A n c D m d W h
 have hY:=fun W h=>shortOf_any y A' n' c' D' m' d' W h
 have R1:=X.n;have R2:=X.d;have R3:=Y.n;have R4:=Y.d;have eX:shq x=true→shN x=x.num∧shD x=x.den:=fun h=>by unfold shN shD;rw[h];exact⟨rfl,rfl⟩
 have eY:shq y=true→shN y=y.num∧shD y=y.den:=fun h=>by unfold shN shD;rw[h];exact⟨rfl,rfl⟩
 unfold RetBS;have S:=(((((((((St.new w).read R1).read R2).read R3).read R4).allocAt (w.heap.size) #[.bool (ng x.num),.slice A n c,.slice D m d] 33 (noL3 _ _ _ _ _ _ _) (by simp)).allocAt (w.heap.size+1) #[.bool (ng y.num),.slice A' n' c',.slice D' m' d'] 33 (noL3 _ _ _ _ _ _ _) (by simp)).allocAt (w.heap.size+1+1) #[.int .i64 0,.int .i64 0] 116 (noLi _ _) (by simp)).allocAt (w.heap.size+1+1+1) #[.int .i64 0,.int .i64 0] 116 (noLi _ _) (by simp))
 replace S:=Lib.hid S;generalize shN x=a1 at hX eX;generalize shD x=b1 at hX eX;generalize shN y=a2 at hY eY;generalize shD y=b2 at hY eY;replace eX:=Lib.hid eX;replace eY:=Lib.hid eY;clear X Y R1 R2 R3 R4
 cases hx:shq x
 ·rw[hx] at hX eX
  replace hX:=Lib.hid hX;clear hY eY hx;go_enter Tryz.func104,Tryz.ntmps104
  go_wp2_with fail
  refine (hX.out _ ⟨S.out.r 3 rfl,S.out.r 2 rfl⟩).mono ?_
  rintro e w1 ⟨rfl,bb⟩;have T:=(S.out.call bb);clear bb S;have S:=T;clear T;obtain⟨c_t0,c_t1,f_t0,f_t1⟩:=S.cf2 0 rfl;obtain⟨c_s0,c_s1,f_s0,f_s1⟩:=S.cf2 1 rfl;obtain⟨c_y0,c_y1,c_y2,f_y0,f_y1,f_y2⟩:=S.cf3 2 rfl;obtain⟨c_x0,c_x1,c_x2,f_x0,f_x1,f_x2⟩:=S.cf3 3 rfl;have hz:w.heap.size+1+1+1<w1.heap.size:=S.lt 0 rfl;replace S:=Lib.hid S;have S:St w _ [(w.heap.size+1+1+1,#[.int .i64 0,.int .i64 0],116),(w.heap.size+1+1,#[.int .i64 a1,.int .i64 b1],116),(w.heap.size+1,#[.bool (ng y.num),.slice A' n' c',.slice D' m' d'],33),(w.heap.size,#[.bool (ng x.num),.slice A n c,.slice D m d],33)] [(D',m',d',dn y),(A',n',c',limbs y.num.natAbs),(D,m,d,dn x),(A,n,c,limbs x.num.natAbs)]:=((S.out.set 1 0 (.int .i64 a1) rfl (by nofun)).set 1 1 (.int .i64 b1) rfl (by nofun))
  go_wp2_with fail
  generalize hW:(World.setCell (World.setCell w1 ⟨w.heap.size+1+1,0,none⟩ (.int .i64 a1)) ⟨w.heap.size+1+1,1,none⟩ (.int .i64 b1))=w2 at S ⊢;clear hW;clear c_t0 f_t0 c_t1 f_t1 c_s0 f_s0 c_s1 f_s1 c_y0 f_y0 c_y1 f_y1 c_y2 f_y2 c_x0 f_x0 c_x1 f_x1 c_x2 f_x2 hz;have d_s0:=St.cl (S) 1 0 rfl rfl;have d_s1:=St.cl (S) 1 1 rfl rfl;have d_t0:=St.cl (S) 0 0 rfl rfl;have d_t1:=St.cl (S) 0 1 rfl rfl;have dz_s0:=St.f (S) 1 0 rfl
  have dz_s1:=St.f (S) 1 1 rfl;have dz_t0:=St.f (S) 0 0 rfl;have dz_t1:=St.f (S) 0 1 rfl;have SE:Hid (St w _ [(w.heap.size+1+1+1,#[.int .i64 0,.int .i64 0],116),(w.heap.size+1+1,#[.int .i64 a1,.int .i64 b1],116),(w.heap.size+1,#[.bool (ng y.num),.slice A' n' c',.slice D' m' d'],33),(w.heap.size,#[.bool (ng x.num),.slice A n c,.slice D m d],33)] [(D',m',d',dn y),(A',n',c',limbs y.num.natAbs),(D,m,d,dn x),(A,n,c,limbs x.num.natAbs)]):=Lib.hid ((((S.set 1 0 (.int .i64 a1) rfl (by nofun)).set 1 1 (.int .i64 b1) rfl (by nofun)).set 0 0 (.int .i64 0) rfl (by nofun)).set 0 1 (.int .i64 0) rfl (by nofun)).drew
  replace S:=Lib.hid S
  go_region
  all_goals
   go_wp2;refine bodyPost_ret (res_both _ _ (w.heap.size+1+1) (w.heap.size+1+1+1) 116 116 rfl rfl rfl (SE.out.bk _ (List.mem_of_getElem? (i:=1) rfl)).1 (SE.out.bk _ (List.mem_of_getElem? (i:=0) rfl)).1) rfl ?_
   exact⟨a1,b1,0,0,rfl,(by intro h;cases h),SE.out.bel⟩
 ·rw[hx] at hX eX
  replace hX:=Lib.hid hX;replace hY:=Lib.hid hY;clear hx;go_enter Tryz.func104,Tryz.ntmps104
  go_wp2_with fail
  refine (hX.out _ ⟨S.out.r 3 rfl,S.out.r 2 rfl⟩).mono ?_
  rintro e w1 ⟨rfl,bb⟩;have T:=(S.out.call bb);clear bb S;have S:=T;clear T;obtain⟨c_t0,c_t1,f_t0,f_t1⟩:=S.cf2 0 rfl;obtain⟨c_s0,c_s1,f_s0,f_s1⟩:=S.cf2 1 rfl;obtain⟨c_y0,c_y1,c_y2,f_y0,f_y1,f_y2⟩:=S.cf3 2 rfl;obtain⟨c_x0,c_x1,c_x2,f_x0,f_x1,f_x2⟩:=S.cf3 3 rfl;have hz:w.heap.size+1+1+1<w1.heap.size:=S.lt 0 rfl;replace S:=Lib.hid S;have S:St w _ [(w.heap.size+1+1+1,#[.int .i64 0,.int .i64 0],116),(w.heap.size+1+1,#[.int .i64 a1,.int .i64 b1],116),(w.heap.size+1,#[.bool (ng y.num),.slice A' n' c',.slice D' m' d'],33),(w.heap.size,#[.bool (ng x.num),.slice A n c,.slice D m d],33)] [(D',m',d',dn y),(A',n',c',limbs y.num.natAbs),(D,m,d,dn x),(A,n,c,limbs x.num.natAbs)]:=((S.out.set 1 0 (.int .i64 a1) rfl (by nofun)).set 1 1 (.int .i64 b1) rfl (by nofun))
  obtain⟨a_y0,a_y1,a_y2,b_y0,b_y1,b_y2⟩:=S.cf3 2 rfl;replace S:=Lib.hid S
  go_wp2_with fail
  refine (hY.out _ ⟨S.out.r 1 rfl,S.out.r 0 rfl⟩).mono ?_
  rintro e w2 ⟨rfl,bb⟩;have T:=(S.out.call bb);clear bb S c_t0 f_t0 c_t1 f_t1 c_s0 f_s0 c_s1 f_s1 c_y0 f_y0 c_y1 f_y1 c_y2 f_y2 c_x0 f_x0 c_x1 f_x1 c_x2 f_x2 hz a_y0 b_y0 a_y1 b_y1 a_y2 b_y2;have S:=T;clear T;obtain⟨c_t0,c_t1,f_t0,f_t1⟩:=S.cf2 0 rfl;obtain⟨c_s0,c_s1,f_s0,f_s1⟩:=S.cf2 1 rfl;obtain⟨c_y0,c_y1,c_y2,f_y0,f_y1,f_y2⟩:=S.cf3 2 rfl;obtain⟨c_x0,c_x1,c_x2,f_x0,f_x1,f_x2⟩:=S.cf3 3 rfl;have hz:w.heap.size+1+1+1<w2.heap.size:=S.lt 0 rfl
  replace S:=Lib.hid S;have S:St w _ [(w.heap.size+1+1+1,#[.int .i64 a2,.int .i64 b2],116),(w.heap.size+1+1,#[.int .i64 a1,.int .i64 b1],116),(w.heap.size+1,#[.bool (ng y.num),.slice A' n' c',.slice D' m' d'],33),(w.heap.size,#[.bool (ng x.num),.slice A n c,.slice D m d],33)] [(D',m',d',dn y),(A',n',c',limbs y.num.natAbs),(D,m,d,dn x),(A,n,c,limbs x.num.natAbs)]:=((S.out.set 0 0 (.int .i64 a2) rfl (by nofun)).set 0 1 (.int .i64 b2) rfl (by nofun))
  go_wp2_with fail
  generalize hW:(World.setCell (World.setCell w2 ⟨w.heap.size+1+1+1,0,none⟩ (.int .i64 a2)) ⟨w.heap.size+1+1+1,1,none⟩ (.int .i64 b2))=w3 at S ⊢;clear hW;clear c_t0 f_t0 c_t1 f_t1 c_s0 f_s0 c_s1 f_s1 c_y0 f_y0 c_y1 f_y1 c_y2 f_y2 c_x0 f_x0 c_x1 f_x1 c_x2 f_x2 hz;have d_s0:=St.cl (S) 1 0 rfl rfl;have d_s1:=St.cl (S) 1 1 rfl rfl;have d_t0:=St.cl (S) 0 0 rfl rfl;have d_t1:=St.cl (S) 0 1 rfl rfl;have dz_s0:=St.f (S) 1 0 rfl
  have dz_s1:=St.f (S) 1 1 rfl;have dz_t0:=St.f (S) 0 0 rfl;have dz_t1:=St.f (S) 0 1 rfl;have SE:Hid (St w _ [(w.heap.size+1+1+1,#[.int .i64 a2,.int .i64 b2],116),(w.heap.size+1+1,#[.int .i64 a1,.int .i64 b1],116),(w.heap.size+1,#[.bool (ng y.num),.slice A' n' c',.slice D' m' d'],33),(w.heap.size,#[.bool (ng x.num),.slice A n c,.slice D m d],33)] [(D',m',d',dn y),(A',n',c',limbs y.num.natAbs),(D,m,d,dn x),(A,n,c,limbs x.num.natAbs)]):=Lib.hid ((((S.set 1 0 (.int .i64 a1) rfl (by nofun)).set 1 1 (.int .i64 b1) rfl (by nofun)).set 0 0 (.int .i64 a2) rfl (by nofun)).set 0 1 (.int .i64 b2) rfl (by nofun)).drew
  replace S:=Lib.hid S
  go_region
  all_goals
   go_wp2;refine bodyPost_ret (res_both _ _ (w.heap.size+1+1) (w.heap.size+1+1+1) 116 116 rfl rfl rfl (SE.out.bk _ (List.mem_of_getElem? (i:=1) rfl)).1 (SE.out.bk _ (List.mem_of_getElem? (i:=0) rfl)).1) rfl ?_
   exact⟨a1,b1,a2,b2,rfl,(fun h=>⟨(eX.out trivial).1,(eX.out trivial).2,(eY.out h).1,(eY.out h).2⟩),SE.out.bel⟩
end Go.Proofs.YthlinhconnmbcaaGreat
namespace Go.Proofs.YthlinhconnmbcaaGreat
open Go.RowKit RQ
theorem quo_facts (n d:Int) (hd:0<d) (g:Nat) (hg:Nat.gcd n.natAbs d.natAbs=g):0<g∧n.tdiv (g:Int)=(Rat.divInt n d).num∧d.tdiv (g:Int)=((Rat.divInt n d).den:Int):=by
 obtain⟨h1,h2⟩:=divInt_pos n hd;have e:Int.gcd n d=g:=hg;rw[e] at h1 h2;have hp:0<g:=by rw[←hg];exact Nat.gcd_pos_of_pos_right _ (by omega)
 have d1:(g:Int)∣n:=by rw[←e];exact Int.gcd_dvd_left ..
 refine⟨hp,?_,?_⟩
 ·rw[h1];exact Int.tdiv_eq_ediv_of_dvd d1
 ·rw[h2];exact Int.tdiv_eq_ediv_of_nonneg (by omega)
theorem num_len (n d:Int) (hd:0<d):(Rat.divInt n d).num.natAbs≤n.natAbs∧((Rat.divInt n d).den:Int)≤d:=⟨num_divInt_le n hd,den_divInt_le n hd⟩
theorem res_quot (W:World) (tmps:Array Value) (g t:Nat) {v0 v1 v2:Value} (ht:tmps.getD 4 undef=.pointer (some ⟨g,0,none⟩)) (h:Cb W g #[v0,v1,v2] t) :
  (results Tryz.f105 tmps).run Tryz.prog W=.ok (.agg #[v0,v1,v2]) W:=by
 have c0:W.cell? ⟨g,0,none⟩=some v0:=h.cell rfl;have c1:W.cell? ⟨g,1,none⟩=some v1:=h.cell rfl;have c2:W.cell? ⟨g,2,none⟩=some v2:=h.cell rfl;have ht':tmps[4]?.getD undef=.pointer (some ⟨g,0,none⟩):=by rw[←ht];simp[Array.getD_eq_getD_getElem?]
 simp[results,Tryz.results105,go_sem,ht',c0,c1,c2]
theorem quotientOfInts_any (n d:Int) (w:World) (h0 : -9223372036854775807≤n) (h1:n≤9223372036854775807) (hd:0<d) (h2:d≤9223372036854775807) :
  Calls Tryz.prog 105 #[.int .i64 n,.int .i64 d] w (RetR (Rat.divInt n d) w):=by
 have hG:=fun W=>divisorOfInts_any n.natAbs d.natAbs W (by omega) (by omega)
 obtain⟨g,hg⟩:∃ g,Nat.gcd n.natAbs d.natAbs=g:=⟨_,rfl⟩;rw[hg] at hG;obtain⟨gp,e1,e2⟩:=quo_facts n d hd g hg;have dz:(d.natAbs:Int)=d:=by omega
 have mz:(n.natAbs:Int)=max n (-n):=by omega
 rw[dz,mz] at hG;have hw:IntKind.i64.wrap (-n) = -n:=IntWalk.i64_in _ (by omega)
 obtain⟨l1,l2⟩:=num_len n d hd;generalize Rat.divInt n d=q at *;have hF1:=Lib.hid (fun W=>fromInt_any q.num W (by omega) (by omega))
 have hF2:Hid (∀ W,Calls Tryz.prog 75 #[.int .i64 (q.den:Int)] W (fun e w'=>∃ A n c,e=.returned (.agg #[.bool false,.slice A n c])∧Rd w' A n c (limbs q.den)∧Below W.heap.size W w')):=Lib.hid (fun W=>by
  have:=fromInt_any (q.den:Int) W (by omega) (by omega)
  unfold RetI at this;rwa [show ng (q.den:Int)=false from decide_eq_false (by omega),Int.natAbs_natCast] at this)
 have hP:=Lib.hid (fun A n c D m d W h h'=>fraction_any q A n c D m d W h h')
 have hw1:IntKind.i64.wrap (n.tdiv (g:Int))=q.num:=by rw[e1];exact IntWalk.i64_in _ (by omega)
 have hw2:IntKind.i64.wrap (d.tdiv (g:Int))=(q.den:Int):=by rw[e2];exact IntWalk.i64_in _ (by omega)
 have gz:(1:Int)≤(g:Int):=by omega
 have gz2:¬ (g=0):=by omega
 replace hG:=Lib.hid hG;clear e1 e2 l1 l2 h0 h1 hd h2 gp hg dz mz;have S:=((St.new w).allocAt (w.heap.size) #[.bool false,.slice none 0 0,.slice none 0 0] 33 (noL3 _ _ _ _ _ _ _) (by simp))
 replace S:=Lib.hid S;go_enter Tryz.func105,Tryz.ntmps105
 go_wp2_with fail
 refine (hG.out _).mono ?_
 rintro e w1 ⟨rfl,bb⟩;have T:=(S.out.call bb);clear bb S;have S:=T;clear T;obtain⟨c_r0,c_r1,c_r2,f_r0,f_r1,f_r2⟩:=S.cf3 0 rfl;have hz:w.heap.size<w1.heap.size:=S.lt 0 rfl;replace S:=Lib.hid S
 go_wp2_with fail
 clear c_r0 f_r0 c_r1 f_r1 c_r2 f_r2 hz;have S:=S.out;replace S:=Lib.hid S;have SD:=Lib.hid (S.out.drew)
 go_region_held3 (fun w'=>True)
  (first | exact trivial | exact trivial | exact trivial | exact trivial | exact trivial)
  (first
   | (go_at_call_of 75 (Value.int IntKind.i64 q.num);refine (hF1.out _).mono ?_;rintro e w2 ⟨A1,n1,c1,rfl,Q1,bb0⟩;have S0:St w w2 [(w.heap.size,#[.bool false,.slice none 0 0,.slice none 0 0],33)] [(A1,n1,c1,limbs q.num.natAbs)]:=((SD.out.call bb0).read Q1))
   | (go_at_call_of 75 (Value.int IntKind.i64 (q.den:Int));refine (hF2.out _).mono ?_;rintro e w3 ⟨A2,n2,c2,rfl,Q2,bb1⟩;have S1:St w w3 [(w.heap.size,#[.bool false,.slice none 0 0,.slice none 0 0],33)] [(A2,n2,c2,limbs q.den),(A1,n1,c1,limbs q.num.natAbs)]:=((S0.call bb1).read Q2))
   | (go_at_call 110;refine (hP.out _ _ _ _ _ _ _ (S1.r 1 rfl) (S1.r 0 rfl)).mono ?_;rintro e w4 ⟨A3,n3,c3,D3,m3,d3,rfl,Q3,bb2⟩;have S2:St w w4 [(w.heap.size,#[.bool false,.slice none 0 0,.slice none 0 0],33)] [(D3,m3,d3,dn q),(A3,n3,c3,limbs q.num.natAbs),(A2,n2,c2,limbs q.den),(A1,n1,c1,limbs q.num.natAbs)]:=(((S1.call bb2).read Q3.n).read Q3.d);have e2r_r0:=St.cl (S2) 0 0 rfl rfl;have e2r_r1:=St.cl (S2) 0 1 rfl rfl;have e2r_r2:=St.cl (S2) 0 2 rfl rfl;have e2rz_r0:=St.f (S2) 0 0 rfl;have e2rz_r1:=St.f (S2) 0 1 rfl;have e2rz_r2:=St.f (S2) 0 2 rfl;have SE:St w _ [(w.heap.size,#[.bool (ng q.num),.slice A3 n3 c3,.slice D3 m3 d3],33)] [(D3,m3,d3,dn q),(A3,n3,c3,limbs q.num.natAbs),(A2,n2,c2,limbs q.den),(A1,n1,c1,limbs q.num.natAbs)]:=(((S2.set 0 0 (.bool (ng q.num)) rfl (by nofun)).set 0 1 (.slice A3 n3 c3) rfl (by nofun)).set 0 2 (.slice D3 m3 d3) rfl (by nofun))))
 all_goals
  have S:=SE;clear e2r_r0 e2r_r1 e2r_r2 e2rz_r0 e2rz_r1 e2rz_r2 SD bb0 bb1 bb2 SE S0 S1 S2;replace S:=Lib.hid S;have S:=S.out;replace S:=Lib.hid S;go_wp2;refine bodyPost_ret (res_quot _ _ (w.heap.size) 33 rfl (S.out.bk _ (List.mem_of_getElem? (i:=0) rfl)).1) rfl ?_
  exact⟨_,_,_,_,_,_,rfl,⟨S.out.r 1 rfl,S.out.r 0 rfl⟩,S.out.bel⟩
end Go.Proofs.YthlinhconnmbcaaGreat
namespace Go.Proofs.YthlinhconnmbcaaGreat
open Go.RowKit RQ
theorem mulq_bd {a b:Int} (h1:a.natAbs≤2147483647) (h2:b.natAbs≤2147483647):(a*b).natAbs≤4611686014132420609:=by
 rw[Int.natAbs_mul];exact Nat.mul_le_mul h1 h2
theorem shq_true {x y:Rat} (h:(shq x&&shq y)=true):x.num.natAbs≤2147483647∧(x.den:Int).natAbs≤2147483647∧y.num.natAbs≤2147483647∧(y.den:Int).natAbs≤2147483647:=by
 unfold shq at h;simp only[Bool.and_eq_true,decide_eq_true_eq] at h;omega
theorem res_sum (W:World) (tmps:Array Value) (g t:Nat) {v0 v1 v2:Value} (ht:tmps.getD 4 undef=.pointer (some ⟨g,0,none⟩)) (h:Cb W g #[v0,v1,v2] t) :
  (results Tryz.f85 tmps).run Tryz.prog W=.ok (.agg #[v0,v1,v2]) W:=by
 have c0:W.cell? ⟨g,0,none⟩=some v0:=h.cell rfl;have c1:W.cell? ⟨g,1,none⟩=some v1:=h.cell rfl;have c2:W.cell? ⟨g,2,none⟩=some v2:=h.cell rfl;have ht':tmps[4]?.getD undef=.pointer (some ⟨g,0,none⟩):=by rw[←ht];simp[Array.getD_eq_getD_getElem?]
 simp[results,Tryz.results85,go_sem,ht',c0,c1,c2]
theorem sum_short (x y:Rat) (A:Option Addr) (n c:Nat) (D:Option Addr) (m d:Nat) (A':Option Addr) (n' c':Nat) (D':Option Addr) (m' d':Nat) (w:World) (X:RR w A n c D m d x) (Y:RR w A' n' c' D' m' d' y) (hs:(shq x&&shq y)=true) :
  Calls Tryz.prog 85 #[.agg #[.bool (ng x.num),.slice A n c,.slice D m d],.agg #[.bool (ng y.num),.slice A' n' c',.slice D' m' d']] w (RetR (x+y) w):=by
 have hB:Hid (∀ W,RR W A n c D m d x→RR W A' n' c' D' m' d' y→Calls Tryz.prog 104 #[.agg #[.bool (ng x.num),.slice A n c,.slice D m d],.agg #[.bool (ng y.num),.slice A' n' c',.slice D' m' d']] W fun e w'=>e=.returned (.tuple #[.agg #[.int .i64 x.num,.int .i64 x.den],.agg #[.int .i64 y.num,.int .i64 y.den],.bool true])∧Below W.heap.size W w'):=Lib.hid fun W h h'=>(bothShort_any x y A n c D m d A' n' c' D' m' d' W h h').mono (by
  rintro e w' ⟨a,b,c,d,rfl,h,bb⟩;obtain⟨rfl,rfl,rfl,rfl⟩:=h hs;rw[hs];exact⟨rfl,bb⟩)
 have R1:=X.n;have R2:=X.d;have R3:=Y.n;have R4:=Y.d;obtain⟨b1,b2,b3,b4⟩:=shq_true hs;have p1:=mulq_bd b1 b4;have p2:=mulq_bd b3 b2;have p3:=mulq_bd b2 b4;have hQ:Hid (∀ W,Calls Tryz.prog 105 #[.int .i64 (x.num*y.den+y.num*x.den),.int .i64 ((x.den:Int)*(y.den:Int))] W (RetR (x+y) W)):=Lib.hid fun W=>by
  rw[add_eq];exact quotientOfInts_any _ _ W (by omega) (by omega) (den_mul_pos x y) (by omega)
 have w1:IntKind.i64.wrap (x.num*y.den)=x.num*y.den:=IntWalk.i64_in _ (by omega)
 have w2:IntKind.i64.wrap (y.num*x.den)=y.num*x.den:=IntWalk.i64_in _ (by omega)
 have w3:IntKind.i64.wrap ((x.den:Int)*y.den)=(x.den:Int)*y.den:=IntWalk.i64_in _ (by omega)
 have w4:IntKind.i64.wrap (x.num*y.den+y.num*x.den)=x.num*y.den+y.num*x.den:=IntWalk.i64_in _ (by omega)
 have S:=((((((((St.new w).read R1).read R2).read R3).read R4).allocAt (w.heap.size) #[.bool (ng x.num),.slice A n c,.slice D m d] 33 (noL3 _ _ _ _ _ _ _) (by simp)).allocAt (w.heap.size+1) #[.bool (ng y.num),.slice A' n' c',.slice D' m' d'] 33 (noL3 _ _ _ _ _ _ _) (by simp)).allocAt (w.heap.size+1+1) #[.bool false,.slice none 0 0,.slice none 0 0] 33 (noL3 _ _ _ _ _ _ _) (by simp))
 replace S:=Lib.hid S;clear X Y R1 R2 R3 R4 b1 b2 b3 b4 p1 p2 p3 hs;go_enter Tryz.func85,Tryz.ntmps85
 go_wp2_with fail
 refine (hB.out _ ⟨S.out.r 3 rfl,S.out.r 2 rfl⟩ ⟨S.out.r 1 rfl,S.out.r 0 rfl⟩).mono ?_
 rintro e w1 ⟨rfl,bb⟩;have T:=(S.out.call bb);clear bb S;have S:=T;clear T;obtain⟨c_r0,c_r1,c_r2,f_r0,f_r1,f_r2⟩:=S.cf3 0 rfl;obtain⟨c_y0,c_y1,c_y2,f_y0,f_y1,f_y2⟩:=S.cf3 1 rfl;obtain⟨c_x0,c_x1,c_x2,f_x0,f_x1,f_x2⟩:=S.cf3 2 rfl;have hz:w.heap.size+1+1<w1.heap.size:=S.lt 0 rfl;replace S:=Lib.hid S;have S:=((S.out.allocAt (w1.heap.size) #[.int .i64 x.num,.int .i64 x.den] 116 (noLi _ _) (by simp)).allocAt (w1.heap.size+1) #[.int .i64 y.num,.int .i64 y.den] 116 (noLi _ _) (by simp))
 replace S:=Lib.hid S
 go_wp2_with fail
 refine (hQ.out _).mono ?_
 rintro e w2 ⟨A3,n3,c3,D3,m3,d3,rfl,Q3,bb⟩;have T:=(((S.out.call bb).read Q3.n).read Q3.d);clear bb S c_r0 f_r0 c_r1 f_r1 c_r2 f_r2 c_y0 f_y0 c_y1 f_y1 c_y2 f_y2 c_x0 f_x0 c_x1 f_x1 c_x2 f_x2 hz;have S:=T;clear T;obtain⟨c_t0,c_t1,f_t0,f_t1⟩:=S.cf2 0 rfl;obtain⟨c_s0,c_s1,f_s0,f_s1⟩:=S.cf2 1 rfl;obtain⟨c_r0,c_r1,c_r2,f_r0,f_r1,f_r2⟩:=S.cf3 2 rfl;obtain⟨c_y0,c_y1,c_y2,f_y0,f_y1,f_y2⟩:=S.cf3 3 rfl;obtain⟨c_x0,c_x1,c_x2,f_x0,f_x1,f_x2⟩:=S.cf3 4 rfl
 have hz:w1.heap.size+1<w2.heap.size:=S.lt 0 rfl;replace S:=Lib.hid S;clear Q3;have S:St w _ [(w1.heap.size+1,#[.int .i64 y.num,.int .i64 y.den],116),(w1.heap.size,#[.int .i64 x.num,.int .i64 x.den],116),(w.heap.size+1+1,#[.bool (ng (x+y).num),.slice A3 n3 c3,.slice D3 m3 d3],33),(w.heap.size+1,#[.bool (ng y.num),.slice A' n' c',.slice D' m' d'],33),(w.heap.size,#[.bool (ng x.num),.slice A n c,.slice D m d],33)] [(D3,m3,d3,dn (x+y)),(A3,n3,c3,limbs (x+y).num.natAbs),(D',m',d',dn y),(A',n',c',limbs y.num.natAbs),(D,m,d,dn x),(A,n,c,limbs x.num.natAbs)]:=(((S.out.set 2 0 (.bool (ng (x+y).num)) rfl (by nofun)).set 2 1 (.slice A3 n3 c3) rfl (by nofun)).set 2 2 (.slice D3 m3 d3) rfl (by nofun))
 replace S:=Lib.hid S;go_wp2;refine bodyPost_ret (res_sum _ _ (w.heap.size+1+1) 33 rfl (S.out.bk _ (List.mem_of_getElem? (i:=2) rfl)).1) rfl ?_
 exact⟨_,_,_,_,_,_,rfl,⟨S.out.r 1 rfl,S.out.r 0 rfl⟩,S.out.bel⟩
theorem sum_int (x y:Rat) (A:Option Addr) (n c:Nat) (D:Option Addr) (d:Nat) (A':Option Addr) (n' c':Nat) (D':Option Addr) (d':Nat) (w:World) (X:RR w A n c D 0 d x) (Y:RR w A' n' c' D' 0 d' y) (hs:(shq x&&shq y)=false) (hn:n≤50000000) (hn':n'≤50000000) :
  Calls Tryz.prog 85 #[.agg #[.bool (ng x.num),.slice A n c,.slice D 0 d],.agg #[.bool (ng y.num),.slice A' n' c',.slice D' 0 d']] w (RetR (x+y) w):=by
 have hB:Hid (∀ W,RR W A n c D 0 d x→RR W A' n' c' D' 0 d' y→Calls Tryz.prog 104 #[.agg #[.bool (ng x.num),.slice A n c,.slice D 0 d],.agg #[.bool (ng y.num),.slice A' n' c',.slice D' 0 d']] W fun e w'=>∃ a b c d:Int,e=.returned (.tuple #[.agg #[.int .i64 a,.int .i64 b],.agg #[.int .i64 c,.int .i64 d],.bool false])∧Below W.heap.size W w'):=Lib.hid fun W h h'=>(bothShort_any x y A n c D 0 d A' n' c' D' 0 d' W h h').mono (by
  rintro e w' ⟨a,b,c,d,rfl,h,bb⟩;rw[hs];exact⟨a,b,c,d,rfl,bb⟩)
 have R1:=X.n;have R2:=X.d;have R3:=Y.n;have R4:=Y.d;have ex:(x.den:Int)=1:=(dn_len0 R2.len).1 rfl;have ey:(y.den:Int)=1:=(dn_len0 R4.len).1 rfl;have hA:Hid (∀ W,Rd W A n c (limbs x.num.natAbs)→Rd W A' n' c' (limbs y.num.natAbs)→Calls Tryz.prog 111 #[.agg #[.bool (ng x.num),.slice A n c],.agg #[.bool (ng y.num),.slice A' n' c']] W (RetI (x.num+y.num) W)):=Lib.hid fun W h h'=>by
  have:=addI_any (ng x.num) A n c _ (ng y.num) A' n' c' _ W h h' hn hn'
  rwa [iv_z,iv_z] at this
 have es:x+y=((x.num+y.num:Int):Rat):=by rw[add_eq,ex,ey,Int.mul_one,Int.mul_one,Int.mul_one,over_one]
 have S:=((((((((St.new w).read R1).read R2).read R3).read R4).allocAt (w.heap.size) #[.bool (ng x.num),.slice A n c,.slice D 0 d] 33 (noL3 _ _ _ _ _ _ _) (by simp)).allocAt (w.heap.size+1) #[.bool (ng y.num),.slice A' n' c',.slice D' 0 d'] 33 (noL3 _ _ _ _ _ _ _) (by simp)).allocAt (w.heap.size+1+1) #[.bool false,.slice none 0 0,.slice none 0 0] 33 (noL3 _ _ _ _ _ _ _) (by simp))
 replace S:=Lib.hid S;rw[es];clear X Y R1 R2 R3 R4 hs hn hn' ex ey es;go_enter Tryz.func85,Tryz.ntmps85
 go_wp2_with fail
 refine (hB.out _ ⟨S.out.r 3 rfl,S.out.r 2 rfl⟩ ⟨S.out.r 1 rfl,S.out.r 0 rfl⟩).mono ?_
 rintro e w1 ⟨a1,b1,a2,b2,rfl,bb⟩;have T:=(S.out.call bb);clear bb S;have S:=T;clear T;obtain⟨c_r0,c_r1,c_r2,f_r0,f_r1,f_r2⟩:=S.cf3 0 rfl;obtain⟨c_y0,c_y1,c_y2,f_y0,f_y1,f_y2⟩:=S.cf3 1 rfl;obtain⟨c_x0,c_x1,c_x2,f_x0,f_x1,f_x2⟩:=S.cf3 2 rfl;have hz:w.heap.size+1+1<w1.heap.size:=S.lt 0 rfl;replace S:=Lib.hid S;have S:=((S.out.allocAt (w1.heap.size) #[.int .i64 a1,.int .i64 b1] 116 (noLi _ _) (by simp)).allocAt (w1.heap.size+1) #[.int .i64 a2,.int .i64 b2] 116 (noLi _ _) (by simp))
 replace S:=Lib.hid S;have S:=S.out;obtain⟨a_x0,a_x1,a_x2,b_x0,b_x1,b_x2⟩:=S.cf3 4 rfl;obtain⟨a_y0,a_y1,a_y2,b_y0,b_y1,b_y2⟩:=S.cf3 3 rfl;replace S:=Lib.hid S
 go_wp2_with fail
 refine (hA.out _ (S.out.r 3 rfl) (S.out.r 1 rfl)).mono ?_
 rintro e w2 ⟨A3,n3,c3,rfl,Q3,bb⟩;have T:=((S.out.call bb).read Q3);clear bb S c_r0 f_r0 c_r1 f_r1 c_r2 f_r2 c_y0 f_y0 c_y1 f_y1 c_y2 f_y2 c_x0 f_x0 c_x1 f_x1 c_x2 f_x2 hz a_x0 b_x0 a_x1 b_x1 a_x2 b_x2 a_y0 b_y0 a_y1 b_y1 a_y2 b_y2;have S:=T;clear T;obtain⟨c_t0,c_t1,f_t0,f_t1⟩:=S.cf2 0 rfl;obtain⟨c_s0,c_s1,f_s0,f_s1⟩:=S.cf2 1 rfl;obtain⟨c_r0,c_r1,c_r2,f_r0,f_r1,f_r2⟩:=S.cf3 2 rfl;obtain⟨c_y0,c_y1,c_y2,f_y0,f_y1,f_y2⟩:=S.cf3 3 rfl
 obtain⟨c_x0,c_x1,c_x2,f_x0,f_x1,f_x2⟩:=S.cf3 4 rfl;have hz:w1.heap.size+1<w2.heap.size:=S.lt 0 rfl;replace S:=Lib.hid S;clear Q3;have S:St w _ [(w1.heap.size+1,#[.int .i64 a2,.int .i64 b2],116),(w1.heap.size,#[.int .i64 a1,.int .i64 b1],116),(w.heap.size+1+1,#[.bool (ng (x.num+y.num)),.slice A3 n3 c3,.slice none 0 0],33),(w.heap.size+1,#[.bool (ng y.num),.slice A' n' c',.slice D' 0 d'],33),(w.heap.size,#[.bool (ng x.num),.slice A n c,.slice D 0 d],33)] [(A3,n3,c3,limbs (x.num+y.num).natAbs),(D',0,d',dn y),(A',n',c',limbs y.num.natAbs),(D,0,d,dn x),(A,n,c,limbs x.num.natAbs)]:=(((S.out.set 2 0 (.bool (ng (x.num+y.num))) rfl (by nofun)).set 2 1 (.slice A3 n3 c3) rfl (by nofun)).set 2 2 (.slice none 0 0) rfl (by nofun))
 replace S:=Lib.hid S;go_wp2;refine bodyPost_ret (res_sum _ _ (w.heap.size+1+1) 33 rfl (S.out.bk _ (List.mem_of_getElem? (i:=2) rfl)).1) rfl ?_
 exact⟨_,_,_,_,_,_,rfl,int_RR (S.out.r 0 rfl),S.out.bel⟩
end Go.Proofs.YthlinhconnmbcaaGreat
