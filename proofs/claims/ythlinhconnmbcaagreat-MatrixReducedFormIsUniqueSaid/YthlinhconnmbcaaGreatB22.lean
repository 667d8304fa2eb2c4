/- the choice of a row. -/
import Derived.Test.YthlinhconnmbcaaGreatB21
import Derived.Test.YthlinhconnmbcaaGreatB18
set_option maxRecDepth 100000
set_option maxHeartbeats 40000000
set_option linter.unusedVariables false
namespace Go.Proofs.YthlinhconnmbcaaGreat
open Go.RowKit RQ
def nzq (q:Rat):Bool:=decide (q≠0)
def nzR (c:Nat) (r:Ro):Bool:=nzq ((r.L.map (·.q)).getD c 0)
theorem sign_no {q:Rat} (h:nzq q=false):q.num.sign=0:=by
 have:q=0:=by simpa [nzq] using h
 rw[this];rfl
theorem sign_yes {q:Rat} (h:nzq q=true):(q.num.sign != 0)=true:=by
 have:q≠0:=by simpa [nzq] using h
 simp only[bne_iff_ne,ne_eq,Int.sign_eq_zero_iff_zero];intro h0;exact this (Rat.num_eq_zero.1 h0)
theorem pick1_any (L:List Rt) (A:Option Addr) (n c j g:Nat) (w:World) (h:Sr w A n c L) (hj:j<n) (hj2:j≤1000) (hc:w.cell? ⟨g,0,none⟩=some (.int .i64 j)) (ka:∀ r∈L,Rk r.b r.n r.x r.m r.y r.q):Calls Tryz.prog 87 #[.slice A n c,.pointer (some ⟨g,0,none⟩)] w fun e w'=>e=.returned (.bool (nzq ((L.map (·.q)).getD j 0)))∧Below w.heap.size w w':=by
 obtain⟨b,o,r,rfl,hr,hrm,e0,e1,e2⟩:=h.get hj;rw[getD_get hr];have hS:=signW r.b r.A r.n r.c r.x r.D r.m r.d r.y r.q w ((h.rd r hrm).at_ (ka r hrm));have g1:(j:Int)<(n:Int):=by omega
 have g2:(0:Int)≤(j:Int):=by omega
 clear h hj hj2 hr hrm ka
 cases hz:nzq r.q
 ·rw[sign_no hz] at hS
  replace hS:=Lib.hid hS;clear hz;go_enter Tryz.func87,Tryz.ntmps87
  go_wp2_with fail
  refine hS.out.mono ?_
  rintro e w1 ⟨rfl,bb⟩;replace bb:=Lib.hid bb;go_wp2;go_ret;exact⟨rfl,bb.out⟩
 ·have hs:=sign_yes hz
  obtain⟨s,hse⟩:∃ s,s=r.q.num.sign:=⟨_,rfl⟩;rw[←hse] at hS hs;replace hS:=Lib.hid hS;clear hz hse;go_enter Tryz.func87,Tryz.ntmps87
  go_wp2_with fail
  refine hS.out.mono ?_
  rintro e w1 ⟨rfl,bb⟩;replace bb:=Lib.hid bb;go_wp2;go_ret;exact⟨rfl,bb.out⟩
def IxR (M:List Ro) (c:Nat) (z:Int):Prop:=(z = -1∧∀ r∈M,nzR c r=false)∨∃ (i:Nat) (r:Ro),z=i∧M[i]?=some r∧nzR c r=true∧∀ j s,j<i→M[j]?=some s→nzR c s=false
theorem index_any (M:List Ro) (A:Option Addr) (n c j g:Nat) (w:World) (h:Mr w A n c M) (hn:n≤1000) (hj:∀ r∈M,j<r.n) (hj2:j≤1000) (hg:g<w.heap.size) (hc:w.cell? ⟨g,0,none⟩=some (.int .i64 j)) (ka:∀ r∈M,∀ x∈r.L,Rk x.b x.n x.x x.m x.y x.q):Calls Tryz.prog 86 #[.slice A n c,.func (.func 87) #[] #[.pointer (some ⟨g,0,none⟩)]] w fun e w'=>(∃ z,e=.returned (.int .i64 z)∧IxR M j z)∧Below w.heap.size w w':=by
 have hP:Hid (∀ r∈M,∀ W,Sr W r.A r.n r.c r.L→W.cell? ⟨g,0,none⟩=some (.int .i64 j)→Calls Tryz.prog 87 #[.slice r.A r.n r.c,.pointer (some ⟨g,0,none⟩)] W fun e w'=>e=.returned (.bool (nzR j r))∧Below W.heap.size W w'):=Lib.hid fun r hr W h1 h2=>pick1_any r.L r.A r.n r.c j g W h1 (hj r hr) hj2 h2 (ka r hr)
 have hb:=Lib.hid hn;have hlen:=Lib.hid h.len;replace h:=Lib.hid h;replace hg:=Lib.hid hg;replace hc:=Lib.hid hc;clear hn hj hj2 ka;go_enter Tryz.func86,Tryz.ntmps86;go_wp2
 go_loopw [8] (fun iv wr=>∃ i:Nat,i≤n∧iv=.int .i64 i∧Below w.heap.size w wr∧(∀ j' s,j'<i→M[j']?=some s→nzR j s=false)) (fun iv _=>n-(intOf iv).toNat)
 case atStart=>exact⟨0,Nat.zero_le _,rfl,Below.refl _ _,fun j' s h0=>absurd h0 (Nat.not_lt_zero _)⟩
 case round=>
  obtain⟨i,hin,rfl,B,hall⟩:=hrel
  by_cases hlt:i<n
  ·obtain⟨b,o,r,rfl,hr,hrm,e0⟩:=(h.out.bel B).get hlt
   have R1:=Lib.hid ((h.out.bel B).rd r hrm);have hcw:=Lib.hid ((World.cell?_of_block (B.block g hg.out)).trans hc.out)
   have hPr:=Lib.hid (hP.out r hrm);obtain⟨v,hv⟩:∃ v,v=nzR j r:=⟨_,rfl⟩;rw[←hv] at hPr;have hih:=Lib.hid hlt;have g1:(i:Int)<(n:Int):=by omega
   have g2:(0:Int)≤(i:Int):=by omega
   replace B:=Lib.hid B;replace hall:=Lib.hid hall;replace hr:=Lib.hid hr;replace hv:=Lib.hid hv;clear hlt hin hrm
   go_wp2_with fail
   refine (hPr.out _ R1.out hcw.out).mono ?_
   rintro e w1 ⟨rfl,bb⟩;have T:=Lib.hid (B.out.trans (bb.mono B.out.size));clear bb B e0 R1 hcw
   cases v
   ·have hlt:=hih.out
    have hbb:=hb.out;go_wp2
    go_roundw
    case rel=>exact⟨i+1,by omega,by go_num,T.out,fun j' s h1 h2=>(by rcases Nat.lt_or_ge j' i with h3 | h3;exact hall.out j' s h3 h2;obtain rfl:j'=i:=(by omega);rw[hr.out] at h2;injection h2 with h2;subst h2;exact hv.out.symm)⟩
    case measure=>simp[intOf];omega
   ·go_wp2
    go_ret;exact⟨⟨_,rfl,.inr ⟨i,r,rfl,hr.out,hv.out.symm,hall.out⟩⟩,T.out⟩
  ·obtain rfl:i=n:=by omega
   have hfin:Hid (∀ r∈M,nzR j r=false):=Lib.hid fun r hr=>by
    obtain⟨k,hk⟩:=List.getElem?_of_mem hr
    exact hall k r (by rw[←hlen.out];exact (List.getElem?_eq_some_iff.1 hk).1) hk
   replace B:=Lib.hid B;clear hall hin hlt;go_wp2;go_ret;exact⟨⟨-1,rfl,.inl ⟨rfl,hfin.out⟩⟩,B.out⟩
end Go.Proofs.YthlinhconnmbcaaGreat
namespace Go.Proofs.YthlinhconnmbcaaGreat
open Go.RowKit RQ
theorem St_box {w W:World} {bs:List Bk} {rs:List Rdg} (h:St w W bs rs) (j:Nat) (t:Nat):St w (W.alloc (.cells #[.int .i64 j] t)) ((W.heap.size,#[.int .i64 j],t)::bs) rs:=h.alloc _ _ (by
 intro i z;match i with
 | 0=>simp
 | k+1=>simp)
theorem Mr.drop {W:World} {g n c:Nat} {K:List Ro} (h:Mr W (some ⟨g,0,none⟩) n c K) (p:Nat) (hp:p≤n):Mr W (some ⟨g,p,none⟩) (n-p) (c-p) (K.drop p):=by
 obtain⟨h1,h2,h3,h4⟩:=h;refine⟨by rw[List.length_drop,h1],by omega,?_,fun r hr=>h4 r (List.mem_of_mem_drop hr)⟩
 rcases h3 with h3 | ⟨b,o,e,hb,hc⟩
 ·exact .inl (by omega)
 ·injection e with e
  injection e with e1 e2
  subst e1;subst e2;refine .inr ⟨g,p,rfl,hb,fun i r hi=>?_⟩
  have:=hc (p+i) r (by rw[List.getElem?_drop] at hi;exact hi)
  rwa [Nat.zero_add] at this
def ChR (K:List Ro) (p c:Nat) (s:Rat) (v:Bool) (K':List Ro) (s':Rat):Prop:=
 (v=false∧K'=K∧s'=s∧∀ r∈K.drop p,nzR c r=false) ∨
 (v=true∧∃ i r0 r,K[p]?=some r0∧K[p+i]?=some r∧nzR c r=true∧(∀ j t,j<i→K[p+j]?=some t→nzR c t=false)∧((i=0∧K'=K∧s'=s)∨(0<i∧K'=(K.set p r).set (p+i) r0∧s' = -s)))
def ecE (gR n:Nat) (P:Option Addr) (p pc:Nat) (l:Rat) (A1:Option Addr) (n1 c1:Nat) (D1:Option Addr) (m1 d1:Nat) (s:Rat) (A2:Option Addr) (n2 c2:Nat) (D2:Option Addr) (m2 d2:Nat):Array Value:=#[.slice (some ⟨gR,0,none⟩) n n,.slice P p pc,.bool (ng l.num),.slice A1 n1 c1,.slice D1 m1 d1,.bool (ng s.num),.slice A2 n2 c2,.slice D2 m2 d2]
theorem choose_any (w0 W:World) (gE gR n p pc c m:Nat) (P:Option Addr) (K:List Ro) (bs:List Bk) (rs:List Rdg) (l s:Rat) (A1:Option Addr) (n1 c1:Nat) (D1:Option Addr) (m1 d1:Nat) (A2:Option Addr) (n2 c2:Nat) (D2:Option Addr) (m2 d2:Nat) (S:St w0 W ((gE,#[.slice (some ⟨gR,0,none⟩) n n,.slice P p pc,.bool (ng l.num),.slice A1 n1 c1,.slice D1 m1 d1,.bool (ng s.num),.slice A2 n2 c2,.slice D2 m2 d2],73)::(gR,(csR K).toArray,46)::bs) rs) (hIn:∀ r∈K,r.In bs rs) (hK:K.length=n) (hm:∀ r∈K,r.n=m∧∀ x∈r.L,x.can) (hn:n≤1000) (hp:p<n) (hc:c<m) (hc2:c≤1000) (q1:(A2,n2,c2,limbs s.num.natAbs)∈rs) (q2:(D2,m2,d2,dn s)∈rs) (hs:Rs s 9000000):Calls Tryz.prog 63 #[.pointer (some ⟨gE,0,none⟩),.int .i64 c] W (fun e W'=>∃ v K' s' A2' n2' c2' D2' m2' d2' rs',e=.returned (.bool v)∧ChR K p c s v K' s'∧St w0 W' ((gE,ecE gR n P p pc l A1 n1 c1 D1 m1 d1 s' A2' n2' c2' D2' m2' d2',73)::(gR,(csR K').toArray,46)::bs) rs'∧(∀ q∈rs,q∈rs')∧(A2',n2',c2',limbs s'.num.natAbs)∈rs'∧(D2',m2',d2',dn s')∈rs'):=by
 have hM:=Lib.hid ((St_mat (K:=K) (bs:=bs) S.sub hIn hK).drop p (by omega))
 have hX:Hid (∀ W' g,Mr W' (some ⟨gR,p,none⟩) (n-p) (n-p) (K.drop p)→g<W'.heap.size→W'.cell? ⟨g,0,none⟩=some (.int .i64 c)→Calls Tryz.prog 86 #[.slice (some ⟨gR,p,none⟩) (n-p) (n-p),.func (.func 87) #[] #[.pointer (some ⟨g,0,none⟩)]] W' fun e w'=>(∃ z,e=.returned (.int .i64 z)∧IxR (K.drop p) c z)∧Below W'.heap.size W' w'):=Lib.hid fun W' g h1 h2 h3=>index_any (K.drop p) _ _ _ c g W' h1 (by omega) (fun r hr=>by rw[(hm r (List.mem_of_mem_drop hr)).1];exact hc) hc2 h2 h3 (fun r hr x hx=>can_k ((hm r (List.mem_of_mem_drop hr)).2 x hx) ((h1.rd r hr).rd x hx))
 have hN:Hid (∀ W',RR W' A2 n2 c2 D2 m2 d2 s→Calls Tryz.prog 56 #[.agg #[.bool (ng s.num),.slice A2 n2 c2,.slice D2 m2 d2]] W' (RetR (-s) W')):=Lib.hid fun W' h=>negW _ _ _ _ _ _ _ _ _ _ W' (RR.w h hs)
 replace q1:=Lib.hid q1;replace q2:=Lib.hid q2;have g1:(p:Int)≤(n:Int):=by omega
 have g2:(0:Int)≤(p:Int):=by omega
 have g3:(n:Int)-(p:Int)=((n-p:Nat):Int):=by omega
 have hne:¬ n=p:=by omega
 have hsz:=S.lt 0 rfl;have T:=Lib.hid (St_box S c 3);replace S:=Lib.hid S;have hK_:=Lib.hid hK;replace hIn:=Lib.hid hIn;clear hK;have hb:=Lib.hid hn;have hpp:=Lib.hid hp;clear hn hp hc hc2;go_enter Tryz.func63,Tryz.ntmps63;go_upto_region 1 with fail
 have S:=T.out;replace S:=Lib.hid S;refine RW.begin (Z:=[]) (S:=(fun W=>Cb W (gE) #[.slice (some ⟨gR,0,none⟩) n n,.slice P p pc,.bool (ng l.num),.slice A1 n1 c1,.slice D1 m1 d1,.bool (ng s.num),.slice A2 n2 c2,.slice D2 m2 d2] 73)) (by kernel_rfl) ?_ S.out ?_
 ·exact⟨by kernel_rfl,zis_nil,by decide,by decide,nol_nil,(fun _ _ h=>h.kb 1 rfl)⟩
 intro hzk;clear S;refine RW.t (i:=0) (v:=.pointer (some ⟨gE,0,none⟩)) (some 7) at0 (hy:=fun _ _=>by kernel_rfl) (h:=?_)
 refine RW.t (i:=1) (v:=.pointer (some ⟨gE,0,none⟩)) (some 8) at1 (hy:=fun _ _=>by go_simp) (h:=?_)
 refine RW.t (i:=2) (v:=.pointer (some ⟨gE,0,none⟩)) (some 9) at2 (hy:=fun _ _=>by kernel_rfl) (h:=?_)
 refine RW.t (i:=3) (v:=.slice (some ⟨gR,0,none⟩) n n) (some 10) at3 (hy:=fun W hS=>by (have k0:=Cb.cell (i:=0) hS rfl;clear hS;go_simp)) (h:=?_)
 refine RW.t (i:=4) (v:=.pointer (some ⟨gE,0,none⟩)) (some 11) at4 (hy:=fun _ _=>by kernel_rfl) (h:=?_)
 refine RW.t (i:=5) (v:=.pointer (some ⟨gE,0,none⟩)) (some 12) at5 (hy:=fun _ _=>by go_simp) (h:=?_)
 refine RW.t (i:=6) (v:=.pointer (some ⟨gE,1,none⟩)) (some 13) at6 (hy:=fun _ _=>by kernel_rfl) (h:=?_)
 refine RW.t (i:=7) (v:=.slice P p pc) (some 14) at7 (hy:=fun W hS=>by (have k1:=Cb.cell (i:=1) hS rfl;clear hS;go_simp)) (h:=?_)
 refine RW.t (i:=8) (v:=.int .i64 p) (some 15) at8 (hy:=fun _ _=>by go_simp) (h:=?_)
 refine RW.t (i:=9) (v:=.slice (some ⟨gR,p,none⟩) (n-p) (n-p)) (some 16) at9 (hy:=fun _ _=>by go_simp) (h:=?_)
 refine RW.tail hzk.out (by kernel_rfl) ?_
 intro gs w21 hgs hS S;obtain rfl:=len0 hgs;clear hS hgs hzk;simp only[mark,fill,Act.put,sZ0,sZ1,sZ2];replace S:=Lib.hid S;refine Wk.o (i:=10) at10 (by kernel_rfl) fun K' hK=>?_
 go_simp
 refine hK.out _ _ (S.out.cb 1 rfl) ?_
 clear hK K'
 try simp only[Act.put,sZ0,sZ1,sZ2]
 refine Wk.done (by kernel_rfl) ?_
 go_wp2_with fail
 refine (hX.out _ W.heap.size (((St_mat (K:=K) (bs:=bs) S.out.sub.sub hIn.out hK_.out).drop p (by omega))) (S.out.lt 0 rfl) (S.out.cl 0 0 rfl rfl)).mono ?_
 rintro e w5 ⟨⟨z,rfl,hz⟩,bb⟩;replace S:=Lib.hid (S.out.call bb);clear bb
 rcases hz with ⟨rfl,hz⟩ | ⟨i,r,rfl,hr,hv,hz⟩
 ·go_wp2
  go_ret;exact⟨false,K,s,_,_,_,_,_,_,rs,rfl,.inl ⟨rfl,rfl,rfl,hz⟩,S.out.sub,fun _ h=>h,q1.out,q2.out⟩
 ·by_cases hi:i=0
  ·subst hi
   rw[List.getElem?_drop] at hr
   have hz':Hid (∀ j t,j<0→K[p+j]?=some t→nzR c t=false):=Lib.hid fun j t h=>absurd h (Nat.not_lt_zero _)
   replace hr:=Lib.hid hr;replace hv:=Lib.hid hv;clear hz;go_wp2;go_ret;exact⟨true,K,s,_,_,_,_,_,_,rs,rfl,.inr ⟨rfl,0,r,r,hr.out,hr.out,hv.out,hz'.out,.inl ⟨rfl,rfl,rfl⟩⟩,S.out.sub,fun _ h=>h,q1.out,q2.out⟩
  ·have g5:(0:Int)<(i:Int):=by omega
   have g6:(i:Int)<((n-p:Nat):Int):=by have:=(List.getElem?_eq_some_iff.1 hr).1;rw[List.length_drop] at this;have:=hK_.out;omega
   have g7:(0:Int)<((n-p:Nat):Int):=by omega
   obtain⟨r0,hr0⟩:∃ r0,K[p]?=some r0:=⟨K[p]'(by have:=hK_.out;omega),List.getElem?_eq_getElem _⟩
   have hz':Hid (∀ j t,j<i→K[p+j]?=some t→nzR c t=false):=Lib.hid fun j t h1 h2=>hz j t h1 (by rw[List.getElem?_drop];exact h2)
   rw[List.getElem?_drop] at hr
   obtain⟨e0,f0⟩:=St_rcl (K:=K) S.out.sub.sub hr0;obtain⟨e1,_⟩:=St_rcl (K:=K) S.out.sub.sub hr;have T2:=((St_rset (St_rset (K:=K) S.out.sub.swap p r) (p+i) r0).swap).drew;have hip:=Lib.hid (show 0<i by omega)
   replace hr:=Lib.hid hr;replace hr0:=Lib.hid hr0;replace hv:=Lib.hid hv;clear hz hi;go_upto_region 4 with fail
   go_region
   clear e0 e1 f0;have x5:=T2.cl 0 5 rfl rfl;have x6:=T2.cl 0 6 rfl rfl;have x7:=T2.cl 0 7 rfl rfl;replace T2:=Lib.hid T2;clear S
   go_wp2_with fail
   refine (hN.out _ ⟨T2.out.rd _ q1.out,T2.out.rd _ q2.out⟩).mono ?_
   rintro e w6 ⟨A3,n3,c3,D3,m3,d3,rfl,Q3,bb⟩;have S3:=((T2.out.call bb).read Q3.n).read Q3.d;have y5:=S3.cl 0 5 rfl rfl;have y6:=S3.cl 0 6 rfl rfl;have y7:=S3.cl 0 7 rfl rfl;have z5:=S3.f 0 5 rfl;have z6:=S3.f 0 6 rfl;have z7:=S3.f 0 7 rfl;have S4:=Lib.hid (((S3.set 0 5 (.bool (ng (-s).num)) rfl (by nofun)).set 0 6 (.slice A3 n3 c3) rfl (by nofun)).set 0 7 (.slice D3 m3 d3) rfl (by nofun))
   clear T2 bb Q3 S3 x5 x6 x7;go_wp2;go_ret;exact⟨true,_,-s,A3,n3,c3,D3,m3,d3,_,rfl,.inr ⟨rfl,i,r0,r,hr0.out,hr.out,hv.out,hz'.out,.inr ⟨hip.out,rfl,rfl⟩⟩,S4.out,fun _ h=>List.mem_cons_of_mem _ (List.mem_cons_of_mem _ h),List.mem_cons_of_mem _ List.mem_cons_self,List.mem_cons_self⟩
end Go.Proofs.YthlinhconnmbcaaGreat
namespace Go.Proofs.YthlinhconnmbcaaGreat
open Go.RowKit RQ
theorem choose_end (w0 W:World) (gE gR n pc c:Nat) (P:Option Addr) (K:List Ro) (bs:List Bk) (rs:List Rdg) (l s:Rat) (A1:Option Addr) (n1 c1:Nat) (D1:Option Addr) (m1 d1:Nat) (A2:Option Addr) (n2 c2:Nat) (D2:Option Addr) (m2 d2:Nat) (S:St w0 W ((gE,#[.slice (some ⟨gR,0,none⟩) n n,.slice P n pc,.bool (ng l.num),.slice A1 n1 c1,.slice D1 m1 d1,.bool (ng s.num),.slice A2 n2 c2,.slice D2 m2 d2],73)::(gR,(csR K).toArray,46)::bs) rs) (hn:n≤1000) (hc2:c≤1000):Calls Tryz.prog 63 #[.pointer (some ⟨gE,0,none⟩),.int .i64 c] W (fun e W'=>e=.returned (.bool false)∧St w0 W' ((gE,#[.slice (some ⟨gR,0,none⟩) n n,.slice P n pc,.bool (ng l.num),.slice A1 n1 c1,.slice D1 m1 d1,.bool (ng s.num),.slice A2 n2 c2,.slice D2 m2 d2],73)::(gR,(csR K).toArray,46)::bs) rs):=by
 have hX:Hid (∀ W' g,g<W'.heap.size→W'.cell? ⟨g,0,none⟩=some (.int .i64 c)→Calls Tryz.prog 86 #[.slice (some ⟨gR,0,none⟩) 0 0,.func (.func 87) #[] #[.pointer (some ⟨g,0,none⟩)]] W' fun e w'=>e=.returned (.int .i64 (-1))∧Below W'.heap.size W' w'):=Lib.hid fun W' g h2 h3=>(index_any [] (some ⟨gR,0,none⟩) 0 0 c g W' ⟨rfl,Nat.le_refl _,.inl rfl,fun r hr=>(by cases hr)⟩ (by omega) (fun r hr=>(by cases hr)) hc2 h2 h3 (fun r hr=>(by cases hr))).mono (by
   rintro e w' ⟨⟨z,rfl,hz⟩,bb⟩
   rcases hz with ⟨rfl,_⟩ | ⟨i,r,_,hr,_⟩
   ·exact⟨rfl,bb⟩
   ·simp at hr)
 have g2:(0:Int)≤(n:Int):=by omega
 have hsz:=S.lt 0 rfl;have T:=Lib.hid (St_box S c 3);replace S:=Lib.hid S;have hb:=Lib.hid hn;clear hn hc2;go_enter Tryz.func63,Tryz.ntmps63;go_upto_region 1 with fail
 have S:=T.out;replace S:=Lib.hid S;refine RW.begin (Z:=[]) (S:=(fun W=>Cb W (gE) #[.slice (some ⟨gR,0,none⟩) n n,.slice P n pc,.bool (ng l.num),.slice A1 n1 c1,.slice D1 m1 d1,.bool (ng s.num),.slice A2 n2 c2,.slice D2 m2 d2] 73)) (by kernel_rfl) ?_ S.out ?_
 ·exact⟨by kernel_rfl,zis_nil,by decide,by decide,nol_nil,(fun _ _ h=>h.kb 1 rfl)⟩
 intro hzk;clear S;refine RW.t (i:=0) (v:=.pointer (some ⟨gE,0,none⟩)) (some 7) at0 (hy:=fun _ _=>by kernel_rfl) (h:=?_)
 refine RW.t (i:=1) (v:=.pointer (some ⟨gE,0,none⟩)) (some 8) at1 (hy:=fun _ _=>by go_simp) (h:=?_)
 refine RW.t (i:=2) (v:=.pointer (some ⟨gE,0,none⟩)) (some 9) at2 (hy:=fun _ _=>by kernel_rfl) (h:=?_)
 refine RW.t (i:=3) (v:=.slice (some ⟨gR,0,none⟩) n n) (some 10) at3 (hy:=fun W hS=>by (have k0:=Cb.cell (i:=0) hS rfl;clear hS;go_simp)) (h:=?_)
 refine RW.t (i:=4) (v:=.pointer (some ⟨gE,0,none⟩)) (some 11) at4 (hy:=fun _ _=>by kernel_rfl) (h:=?_)
 refine RW.t (i:=5) (v:=.pointer (some ⟨gE,0,none⟩)) (some 12) at5 (hy:=fun _ _=>by go_simp) (h:=?_)
 refine RW.t (i:=6) (v:=.pointer (some ⟨gE,1,none⟩)) (some 13) at6 (hy:=fun _ _=>by kernel_rfl) (h:=?_)
 refine RW.t (i:=7) (v:=.slice P n pc) (some 14) at7 (hy:=fun W hS=>by (have k1:=Cb.cell (i:=1) hS rfl;clear hS;go_simp)) (h:=?_)
 refine RW.t (i:=8) (v:=.int .i64 n) (some 15) at8 (hy:=fun _ _=>by go_simp) (h:=?_)
 refine RW.t (i:=9) (v:=.slice (some ⟨gR,0,none⟩) 0 0) (some 16) at9 (hy:=fun _ _=>by go_simp) (h:=?_)
 refine RW.tail hzk.out (by kernel_rfl) ?_
 intro gs w21 hgs hS S;obtain rfl:=len0 hgs;clear hS hgs hzk;simp only[mark,fill,Act.put,sZ0,sZ1,sZ2];replace S:=Lib.hid S;refine Wk.o (i:=10) at10 (by kernel_rfl) fun K' hK=>?_
 go_simp
 refine hK.out _ _ (S.out.cb 1 rfl) ?_
 clear hK K'
 try simp only[Act.put,sZ0,sZ1,sZ2]
 refine Wk.done (by kernel_rfl) ?_
 go_wp2_with fail
 refine (hX.out _ W.heap.size (S.out.lt 0 rfl) (S.out.cl 0 0 rfl rfl)).mono ?_
 rintro e w5 ⟨rfl,bb⟩;replace S:=Lib.hid (S.out.call bb);clear bb;go_wp2;go_ret;exact⟨rfl,S.out.sub⟩
end Go.Proofs.YthlinhconnmbcaaGreat
namespace Go.Proofs.YthlinhconnmbcaaGreat
open Go.RowKit RQ
structure Ir (W:World) (A:Option Addr) (n c:Nat) (ps:List Nat):Prop where
 len:ps.length=n
 cap:n≤c
 mem:n=0∨∃ b o,A=some ⟨b,o,none⟩∧b<W.heap.size∧∀ (i p:Nat),ps[i]?=some p→W.cell? ⟨b,o+i,none⟩=some (.int .i64 p)
theorem Ir.bel {W W':World} {A:Option Addr} {n c:Nat} {ps:List Nat} (h:Ir W A n c ps) (hb:Below W.heap.size W W'):Ir W' A n c ps:=by
 refine⟨h.len,h.cap,?_⟩
 rcases h.mem with h0 | ⟨b,o,hA,hlt,hc⟩
 ·exact .inl h0
 ·exact .inr ⟨b,o,hA,Nat.lt_of_lt_of_le hlt hb.size,fun i p hi=>(World.cell?_of_block (hb.block b hlt)).trans (hc i p hi)⟩
theorem Ir.get {W:World} {A:Option Addr} {n c:Nat} {ps:List Nat} (h:Ir W A n c ps) {i:Nat} (hi:i<n):∃ b o p,A=some ⟨b,o,none⟩∧ps[i]?=some p∧W.cell? ⟨b,o+i,none⟩=some (.int .i64 p):=by
 have hl:=h.len
 rcases h.mem with h0 | ⟨b,o,hA,_,hc⟩
 ·omega
 ·have e:ps[i]?=some ps[i]:=List.getElem?_eq_getElem (by omega)
  exact⟨b,o,ps[i],hA,e,hc i _ e⟩
def IxI (ps:List Nat) (v:Nat) (z:Int):Prop:=(z = -1∧v∉ps)∨((0:Int)≤z∧v∈ps)
theorem indexI_any (ps:List Nat) (A:Option Addr) (n c v:Nat) (w:World) (h:Ir w A n c ps) (hn:n≤1000):Calls Tryz.prog 78 #[.slice A n c,.int .i64 v] w fun e w'=>(∃ z,e=.returned (.int .i64 z)∧IxI ps v z)∧Below w.heap.size w w':=by
 have hb:=Lib.hid hn;have hlen:=Lib.hid h.len;replace h:=Lib.hid h;clear hn;go_enter Tryz.func78,Tryz.ntmps78;go_wp2
 go_loopw [8] (fun iv wr=>∃ i:Nat,i≤n∧iv=.int .i64 i∧Below w.heap.size w wr∧(∀ j p,j<i→ps[j]?=some p→p≠v)) (fun iv _=>n-(intOf iv).toNat)
 case atStart=>exact⟨0,Nat.zero_le _,rfl,Below.refl _ _,fun j s h0=>absurd h0 (Nat.not_lt_zero _)⟩
 case round=>
  obtain⟨i,hin,rfl,B,hall⟩:=hrel
  by_cases hlt:i<n
  ·obtain⟨b,o,p,rfl,hp,e0⟩:=(h.out.bel B).get hlt
   have hih:=Lib.hid hlt;have g1:(i:Int)<(n:Int):=by omega
   have g2:(0:Int)≤(i:Int):=by omega
   replace B:=Lib.hid B;replace hall:=Lib.hid hall;replace hp:=Lib.hid hp;clear hlt hin
   by_cases hpv:p=v
   ·have g3:((v:Int)==(p:Int))=true:=by simp[hpv]
    have g4:((p:Int)==(v:Int))=true:=by simp[hpv]
    replace hpv:=Lib.hid hpv;go_wp2;go_ret;exact⟨⟨_,rfl,.inr ⟨g2,hpv.out ▸ List.mem_of_getElem? hp.out⟩⟩,B.out⟩
   ·have g3:((v:Int)==(p:Int))=false:=by simpa using fun e=>hpv (by omega)
    have g4:((p:Int)==(v:Int))=false:=by simpa using fun e=>hpv (by omega)
    replace hpv:=Lib.hid hpv;have hlt:=hih.out;have hbb:=hb.out;go_wp2
    go_roundw
    case rel=>exact⟨i+1,by omega,by go_num,B.out,fun j' s h1 h2=>(by rcases Nat.lt_or_ge j' i with h3 | h3;exact hall.out j' s h3 h2;obtain rfl:j'=i:=(by omega);rw[hp.out] at h2;injection h2 with h2;subst h2;exact hpv.out)⟩
    case measure=>simp[intOf];omega
  ·obtain rfl:i=n:=by omega
   have hfin:Hid (v∉ps):=Lib.hid fun hv=>by
    obtain⟨k,hk⟩:=List.getElem?_of_mem hv
    exact hall k v (by rw[←hlen.out];exact (List.getElem?_eq_some_iff.1 hk).1) hk rfl
   replace B:=Lib.hid B;clear hall hin hlt;go_wp2;go_ret;exact⟨⟨-1,rfl,.inl ⟨rfl,hfin.out⟩⟩,B.out⟩
theorem contains_any (ps:List Nat) (A:Option Addr) (n c v:Nat) (w:World) (h:Ir w A n c ps) (hn:n≤1000):Calls Tryz.prog 53 #[.slice A n c,.int .i64 v] w fun e w'=>e=.returned (.bool (decide (v∈ps)))∧Below w.heap.size w w':=by
 have hX:=Lib.hid (indexI_any ps A n c v w h hn);clear h hn;obtain⟨bv,hbv⟩:∃ z,z=decide (v∈ps):=⟨_,rfl⟩;rw[←hbv];replace hbv:=Lib.hid hbv;go_enter Tryz.func53,Tryz.ntmps53
 go_wp2_with fail
 refine hX.out.mono ?_
 rintro e w1 ⟨⟨z,rfl,hz⟩,bb⟩;replace bb:=Lib.hid bb
 rcases hz with ⟨rfl,hz⟩ | ⟨hz0,hz⟩
 ·replace hz:=Lib.hid (decide_eq_false hz)
  go_wp2;go_ret;exact⟨by rw[hbv.out,hz.out];rfl,bb.out⟩
 ·replace hz:=Lib.hid (decide_eq_true hz)
  have g1:decide ((0:Int)≤z)=true:=decide_eq_true hz0;go_wp2;go_ret;exact⟨by rw[hbv.out,hz.out];simp,bb.out⟩
end Go.Proofs.YthlinhconnmbcaaGreat
namespace Go.Proofs.YthlinhconnmbcaaGreat
open Go.RowKit RQ
def inC (L:List Nat):List Value:=L.map fun (p:Nat)=>.int .i64 (p:Int)
theorem infoInt:(Tryz.prog.info? 3).map (fun i=>(i.zero,i.size,i.bytes))=some (some (.int .i64 0),1,8):=by kernel_rfl
theorem app_int {w W:World} {bs:List Bk} {rs:List Rdg} {v:Value} {n:Nat} {xs:List Value} {ops:Array Oper} {rest:List Oper} {o:Oper} {a:Act} {Q:Exit→Act→World→Prop} (hgd:o.guard=none) (s x:Operand)
  (ho:o.op=.call { callee:=.builtin .append,args:=#[s,x],argTypes:=#[22,22] })
  (hs:a.eval s=v) (h:Apd w W bs rs 3 1 v n xs) (g:Nat) {p:Nat} (hx:a.eval x=.slice (some ⟨g,0,none⟩) 1 1) (hc:Cb W g #[.int .i64 p] 3) (hn:n≤100000)
  (hk:∀ v' W',Apd w W' bs rs 3 1 v' (n+1) (xs++[.int .i64 p])→wpList Tryz.prog ops Q rest (a.put o.dst v') W'):wpList Tryz.prog ops Q (o::rest) a W:=by
 obtain⟨i0,hi,hzz⟩:=Option.map_eq_some_iff.1 infoInt;simp only[Prod.mk.injEq] at hzz;obtain⟨hz0,hz1,hz2⟩:=hzz;refine Apd.wp hgd s x 22 ho i0 _ 8 Tryz.underlying22 hi hz0 hz1 hz2 rfl ?_ hs h ⟨g,0,none⟩ 1 1 [.int .i64 p] hx rfl ?_ ?_ ?_ (by decide) (by unfold maxLen;omega) (by omega) hk
 ·intro v hv z e;subst e;simp[Value.cells] at hv
 ·intro j u hu
  have hadd:(⟨g,0,none⟩:Addr).add j=⟨g,j,none⟩:=by unfold Addr.add;split<;>simp_all
  rw[hadd];exact hc.cell (by simpa using hu)
 ·intro u hu;simp at hu;rcases hu with rfl;rfl
 ·intro v hv z e;subst e;simp at hv
theorem Apd.ir {w W:World} {bs:List Bk} {rs:List Rdg} {v:Value} {L:List Nat} (h:Apd w W bs rs 3 1 v L.length (inC L)):∃ A c,v=.slice A L.length c∧Ir W A L.length c L:=by
 obtain⟨h1,h2,⟨rfl,h0,S⟩ | ⟨g,cap,cur,rfl,k2,k3,k4,k5,S⟩⟩:=h
 ·exact⟨none,0,by rw[h0],rfl,by omega,.inl h0⟩
 ·refine⟨some ⟨g,0,none⟩,cap,rfl,rfl,k2,.inr ⟨g,0,rfl,(S.cb 0 rfl).lt,fun i p hi=>?_⟩⟩
  rw[Nat.zero_add];refine (S.cb 0 rfl).cell ?_
  have:(inC L)[i]?=some (.int .i64 p):=by unfold inC;rw[List.getElem?_map,hi];rfl
  rw[←k5,List.getElem?_take] at this
  split at this
  ·simpa using this
  ·cases this
def freeL (k:Nat) (ps:List Nat):List Nat:=(List.range k).filter fun c=>!decide (c∈ps)
theorem freeL_le (k:Nat) (ps:List Nat):(freeL k ps).length≤k:=by
 unfold freeL;have:=List.length_filter_le (fun c=>!decide (c∈ps)) (List.range k)
 rwa [List.length_range] at this
theorem freeL_step (k:Nat) (ps:List Nat):freeL (k+1) ps=freeL k ps++(if k∈ps then [] else [k]):=by
 unfold freeL;rw[List.range_succ,List.filter_append]
 congr 1
 by_cases h:k∈ps<;>simp[h]
theorem free_any (K:List Ro) (gE gR n p pc:Nat) (P:Option Addr) (ps:List Nat) (w:World) (hg:gE<w.heap.size) (e0:w.cell? ⟨gE,0,none⟩=some (.slice (some ⟨gR,0,none⟩) n n)) (e1:w.cell? ⟨gE,1,none⟩=some (.slice P p pc)) (h:Mr w (some ⟨gR,0,none⟩) n n K) (hp:Ir w P p pc ps) (hp2:p≤1000) (hk:colM K≤1000):Calls Tryz.prog 55 #[.pointer (some ⟨gE,0,none⟩)] w fun e w'=>∃ A c,e=.returned (.slice A (freeL (colM K) ps).length c)∧Ir w' A (freeL (colM K) ps).length c (freeL (colM K) ps)∧Below w.heap.size w w':=by
 have hC:=Lib.hid (cols_any K (some ⟨gR,0,none⟩) n n w h);have hI:Hid (∀ (W:World) (v:Nat),Ir W P p pc ps→Calls Tryz.prog 53 #[.slice P p pc,.int .i64 v] W fun e w'=>e=.returned (.bool (decide (v∈ps)))∧Below W.heap.size W w'):=Lib.hid fun W v h=>contains_any ps P p pc v W h hp2
 generalize colM K=k at *;have hb:=Lib.hid hk;replace hp:=Lib.hid hp;have e1h:=Lib.hid e1;replace hg:=Lib.hid hg;have hgc:=hg.out;clear h hp2 hk;go_enter Tryz.func55,Tryz.ntmps55
 go_wp2_with fail
 refine hC.out.mono ?_
 rintro e w1 ⟨rfl,bb⟩;have S:=Lib.hid ((St.new w).call bb);clear bb hC e0 e1;go_wp2
 go_loopw [3,10] (fun ov iv wr=>∃ i:Nat,i≤k∧iv=.int .i64 i∧Apd w wr [] [] 3 1 ov (freeL i ps).length (inC (freeL i ps))) (fun _ iv _=>k-(intOf iv).toNat)
 case atStart=>exact⟨0,Nat.zero_le _,rfl,(show freeL 0 ps=[] from rfl) ▸ Apd.nil_ S.out _ _⟩
 case round=>
  clear S;obtain⟨i,hin,rfl,AP⟩:=hrel
  by_cases hlt:i<k
  ·have hih:=Lib.hid hlt
   have g1:(i:Int)<(k:Int):=by omega
   have g2:(0:Int)≤(i:Int):=by omega
   have B:=AP.st.bel;have e1w:=(World.cell?_of_block (B.block gE hg.out)).trans e1h.out
   have hgw:gE<wr.heap.size:=Nat.lt_of_lt_of_le hg.out B.size;have hpw:=Lib.hid (hp.out.bel B);have hst:=Lib.hid (freeL_step i ps);have hle:=Lib.hid (freeL_le i ps);replace AP:=Lib.hid AP;obtain⟨v,hv⟩:∃ z,z=decide (i∈ps):=⟨_,rfl⟩;have hIx:=hI.out wr i hpw.out;rw[←hv] at hIx;replace hIx:=Lib.hid hIx;clear hlt hin B
   go_wp2_with fail
   refine hIx.out.mono ?_
   rintro e w3 ⟨rfl,bb⟩;have T:=Lib.hid (AP.out.call bb);clear bb AP e1w hgw hIx hpw
   cases v
   ·have hns:i∉ps:=of_decide_eq_false hv.symm
    replace hst:Hid (freeL (i+1) ps=freeL i ps++[i]):=Lib.hid (by rw[hst.out,if_neg hns])
    clear hv hns;have AP1:=T.out.alloc #[.int .i64 i] 3 (by
     intro t z;match t with
     | 0=>simp
     | t+1=>simp)
    have hcb:=AP1.st.cb 0 rfl;clear T
    go_wp2_with (at_builtin;refine app_int rfl (.tmp 20) (.tmp 22) rfl rfl AP1 _ rfl hcb (by have:=hle.out;have:=hih.out;have:=hb.out;omega) ?_)
    clear AP1 hcb;intro v' W' AP;replace AP:=Lib.hid AP;have hlt:=hih.out;have hbb:=hb.out;go_wp2
    go_roundw
    case rel=>exact⟨i+1,by omega,by go_num,by rw[hst.out,List.length_append];unfold inC;rw[List.map_append];exact AP.out.sub⟩
    case measure=>simp[intOf];omega
   ·have hns:i∈ps:=of_decide_eq_true hv.symm
    replace hst:Hid (freeL (i+1) ps=freeL i ps):=Lib.hid (by rw[hst.out,if_pos hns,List.append_nil])
    clear hv hns;have hlt:=hih.out;have hbb:=hb.out;go_wp2
    go_roundw
    case rel=>exact⟨i+1,by omega,by go_num,by rw[hst.out];exact T.out⟩
    case measure=>simp[intOf];omega
  ·obtain rfl:i=k:=by omega
   obtain⟨A3,c3,hv,I3⟩:=AP.ir;subst hv;have B:=Lib.hid AP.st.bel;replace I3:=Lib.hid I3;clear AP hin hlt;go_wp2;go_ret;exact⟨_,_,rfl,I3.out,B.out⟩
end Go.Proofs.YthlinhconnmbcaaGreat
namespace Go.Proofs.YthlinhconnmbcaaGreat
open Go.RowKit RQ
structure Rows (K:List Ro) (m:Nat) (bs:List Bk) (rs:List Rdg):Prop where
 row:∀ r∈K,∃ g,r.A=some ⟨g,0,none⟩∧r.n=m∧r.c=m∧r.L.length=m∧(g,(csE r.L).toArray,33)∈bs∧∀ x∈r.L,x.can∧x.rdIn rs
 inj:∀ (i j:Nat) (r s:Ro),K[i]?=some r→K[j]?=some s→i≠j→r.A≠s.A
section
variable {w W:World} {bs:List Bk} {rs rs':List Rdg} {K:List Ro} {m:Nat}
theorem Rows.in_ (h:Rows K m bs rs):∀ r∈K,r.In bs rs:=fun r hr=>by
 obtain⟨g,h1,h2,h3,h4,h5,h6⟩:=h.row r hr;exact⟨by rw[h4,h2],.inr ⟨g,_,h1,by rw[h2,h3];exact Nat.le_refl _,h5,by rw[List.toList_toArray,List.take_of_length_le (by rw[csE_len,h4,h2];exact Nat.le_refl _)]⟩,fun x hx=>(h6 x hx).2⟩
theorem Rows.mono (h:Rows K m bs rs) (hr:∀ p∈rs,p∈rs'):Rows K m bs rs':=⟨fun r hr'=>by
 obtain⟨g,h1,h2,h3,h4,h5,h6⟩:=h.row r hr';exact⟨g,h1,h2,h3,h4,h5,fun x hx=>⟨(h6 x hx).1,hr _ (h6 x hx).2.1,hr _ (h6 x hx).2.2⟩⟩,h.inj⟩
theorem rows_set2 {K:List Ro} {p q:Nat} {r0 r:Ro} (h0:K[p]?=some r0) (h1:K[q]?=some r) (hpq:p≠q) (i:Nat) {t:Ro} (ht:((K.set p r).set q r0)[i]?=some t):∃ j,K[j]?=some t∧((i=p∧j=q)∨(i=q∧j=p)∨(i≠p∧i≠q∧j=i)):=by
 have hp:=(List.getElem?_eq_some_iff.1 h0).1
 have hq:=(List.getElem?_eq_some_iff.1 h1).1
 by_cases e:q=i
 ·subst e
  rw[List.getElem?_set_self (by rw[List.length_set];exact hq)] at ht
  injection ht with ht;subst ht
  exact⟨p,h0,.inr (.inl ⟨rfl,rfl⟩)⟩
 ·rw[List.getElem?_set_ne e] at ht
  by_cases e2:p=i
  ·subst e2
   rw[List.getElem?_set_self hp] at ht
   injection ht with ht;subst ht
   exact⟨q,h1,.inl ⟨rfl,rfl⟩⟩
  ·rw[List.getElem?_set_ne e2] at ht
   exact⟨i,ht,.inr (.inr ⟨fun h=>e2 h.symm,fun h=>e h.symm,rfl⟩)⟩
theorem Rows.swap (h:Rows K m bs rs) {p q:Nat} {r0 r:Ro} (h0:K[p]?=some r0) (h1:K[q]?=some r) (hpq:p≠q):Rows ((K.set p r).set q r0) m bs rs:=by
 refine⟨fun t ht=>?_,fun i j t u hi hj hij=>?_⟩
 ·obtain⟨i,hi⟩:=List.getElem?_of_mem ht
  obtain⟨j,hj,_⟩:=rows_set2 h0 h1 hpq i hi;exact h.row t (List.mem_of_getElem? hj)
 ·obtain⟨i',hi',a⟩:=rows_set2 h0 h1 hpq i hi
  obtain⟨j',hj',b⟩:=rows_set2 h0 h1 hpq j hj;exact h.inj i' j' t u hi' hj' (by omega)
theorem Rows.store (h:Rows K m bs rs) (S:St w W bs rs) {i:Nat} {r:Ro} (hi:K[i]?=some r) (j:Nat) (x:Rt) (hx:x.can∧x.rdIn rs):∃ g bs',r.A=some ⟨g,0,none⟩∧(∀ v0 v1 v2,v0=Value.bool x.b→v1=Value.slice x.A x.n x.c→v2=Value.slice x.D x.m x.d→St w (((W.setCell ⟨g,j*3,none⟩ v0).setCell ⟨g,j*3+1,none⟩ v1).setCell ⟨g,j*3+2,none⟩ v2) bs' rs)∧(∀ y,r.L[j]?=some y→(W.cell? ⟨g,j*3,none⟩=some (.bool y.b)∧W.cell? ⟨g,j*3+1,none⟩=some (.slice y.A y.n y.c)∧W.cell? ⟨g,j*3+2,none⟩=some (.slice y.D y.m y.d)))∧(∀ k,W.frozen? ⟨g,k,none⟩=false)∧Rows (K.set i ⟨r.A,r.n,r.c,r.L.set j x⟩) m bs' rs:=by
 obtain⟨g,h1,h2,h3,h4,h5,h6⟩:=h.row r (List.mem_of_getElem? hi);obtain⟨k,hk⟩:=List.getElem?_of_mem h5
 have hkl:=(List.getElem?_eq_some_iff.1 hk).1
 refine⟨g,bs.set k (g,(csE (r.L.set j x)).toArray,33),h1,?_,?_,fun q=>(S.bk _ h5).1.frozen q,?_⟩
 ·rintro v0 v1 v2 rfl rfl rfl
  have S1:=S.set k (j*3) (.bool x.b) hk (by nofun)
  have S2:=S1.set k (j*3+1) (.slice x.A x.n x.c) (List.getElem?_set_self hkl) (by nofun)
  have S3:=S2.set k (j*3+2) (.slice x.D x.m x.d) (List.getElem?_set_self (by rw[List.length_set];exact hkl)) (by nofun)
  rw[List.set_set,List.set_set,csE_set] at S3;exact S3
 ·intro y hy
  obtain⟨e0,e1,e2⟩:=csE_arr hy;exact⟨(S.bk _ h5).1.cell e0,(S.bk _ h5).1.cell e1,(S.bk _ h5).1.cell e2⟩
 ·have hil:=(List.getElem?_eq_some_iff.1 hi).1
  refine⟨fun t ht=>?_,fun a b t u ha hb hab=>?_⟩
  ·obtain⟨a,ha⟩:=List.getElem?_of_mem ht
   by_cases e:i=a
   ·subst e
    rw[List.getElem?_set_self hil] at ha
    injection ha with ha;subst ha
    refine⟨g,h1,h2,h3,by show (r.L.set j x).length=m;rw[List.length_set];exact h4,List.mem_of_getElem? (List.getElem?_set_self hkl),fun y hy=>?_⟩
    rcases List.mem_or_eq_of_mem_set hy with hy | rfl
    ·exact h6 y hy
    ·exact hx
   ·rw[List.getElem?_set_ne e] at ha
    obtain⟨g',k1,k2,k3,k4,k5,k6⟩:=h.row t (List.mem_of_getElem? ha);have hne:g'≠g:=fun hg=>h.inj i a r t hi ha e (by rw[h1,k1,hg])
    obtain⟨b,hb⟩:=List.getElem?_of_mem k5
    have hbk:k≠b:=fun e=>by
     subst e;rw[hk] at hb;injection hb with hb
     exact hne (congrArg Prod.fst hb).symm
    exact⟨g',k1,k2,k3,k4,List.mem_of_getElem? (by rw[List.getElem?_set_ne hbk];exact hb),k6⟩
  ·have key:∀ a (t:Ro),(K.set i ⟨r.A,r.n,r.c,r.L.set j x⟩)[a]?=some t→∃ t':Ro,K[a]?=some t'∧t.A=t'.A:=fun a t ha=>by
    by_cases e:i=a
    ·subst e
     rw[List.getElem?_set_self hil] at ha
     injection ha with ha;subst ha
     exact⟨r,hi,rfl⟩
    ·rw[List.getElem?_set_ne e] at ha
     exact⟨t,ha,rfl⟩
   obtain⟨t',ht,et⟩:=key a t ha;obtain⟨u',hu,eu⟩:=key b u hb;rw[et,eu];exact h.inj a b t' u' ht hu hab
end
end Go.Proofs.YthlinhconnmbcaaGreat
namespace Go.Proofs.YthlinhconnmbcaaGreat
open Go.RowKit RQ
theorem sameInts_any (ps:List Nat) (A:Option Addr) (n c:Nat) (A':Option Addr) (c':Nat) (w:World) (h:Ir w A n c ps) (h':Ir w A' n c' ps) (hn:n≤1000):Calls Tryz.prog 33 #[.slice A n c,.slice A' n c'] w fun e w'=>e=.returned (.bool true)∧Below w.heap.size w w':=by
 have hb:=Lib.hid hn;replace h:=Lib.hid h;replace h':=Lib.hid h';clear hn;go_enter Tryz.func33,Tryz.ntmps33;go_wp2
 go_loopw [5] (fun iv wr=>∃ i:Nat,i≤n∧iv=.int .i64 i∧Below w.heap.size w wr) (fun iv _=>n-(intOf iv).toNat)
 case atStart=>exact⟨0,Nat.zero_le _,rfl,Below.refl _ _⟩
 case round=>
  obtain⟨i,hin,rfl,B⟩:=hrel
  by_cases hlt:i<n
  ·obtain⟨b,o,p,rfl,hp,e0⟩:=(h.out.bel B).get hlt
   obtain⟨b',o',q,rfl,hq,e1⟩:=(h'.out.bel B).get hlt;obtain rfl:p=q:=by rw[hp] at hq;injection hq
   have hih:=Lib.hid hlt;have g1:(i:Int)<(n:Int):=by omega
   have g2:(0:Int)≤(i:Int):=by omega
   have T:=Lib.hid B.drew;clear hlt hin hp hq B;go_upto_region 6 with fail
   go_region
   have hlt:=hih.out;have hbb:=hb.out;go_wp2
   go_roundw
   case rel=>exact⟨i+1,by omega,by go_num,T.out⟩
   case measure=>simp[intOf];omega
  ·obtain rfl:i=n:=by omega
   replace B:=Lib.hid B;clear hin hlt;go_wp2;go_ret;exact⟨rfl,B.out⟩
end Go.Proofs.YthlinhconnmbcaaGreat
namespace Go.Proofs.YthlinhconnmbcaaGreat
open Go.RowKit RQ GE
set_option linter.unusedVariables false
def ESt (w W:World) (gE gR:Nat) (B:List Nat) (m:Nat) (P:Option Addr) (pc:Nat) (s:GS) (l:Rat) (zs:List Bk) (qs:List Rdg):Prop:=
 ∃ (R:List (List Rt)) (ys:List Bk) (rs:List Rdg) (A1:Option Addr) (n1 c1:Nat) (D1:Option Addr) (m1 d1:Nat) (A2:Option Addr) (n2 c2:Nat) (D2:Option Addr) (m2 d2:Nat),
  Apd w W ((gE,ecE gR B.length P s.p.length pc l A1 n1 c1 D1 m1 d1 s.f A2 n2 c2 D2 m2 d2,73)::(MB gR (B.map (rowv m)) B R++(zs++ys))) rs 3 1 (.slice P s.p.length pc) s.p.length (inC s.p)
  ∧ RK B m R s.M rs∧((A1,n1,c1,limbs l.num.natAbs)∈rs∧(D1,m1,d1,dn l)∈rs)∧((A2,n2,c2,limbs s.f.num.natAbs)∈rs∧(D2,m2,d2,dn s.f)∈rs)∧∀ q∈qs,q∈rs
theorem st_mid {w W:World} {a:Bk} {xs ys:List Bk} {rs:List Rdg} (S:St w W (a::(xs++ys)) rs):St w W (xs++a::ys) rs:=S.prm List.perm_middle.symm
theorem st_mid' {w W:World} {a:Bk} {xs ys:List Bk} {rs:List Rdg} (S:St w W (xs++a::ys) rs):St w W (a::(xs++ys)) rs:=S.prm List.perm_middle
section
variable {w W W':World} {gE gR m pc:Nat} {B:List Nat} {P:Option Addr} {s:GS} {l:Rat} {zs:List Bk} {qs:List Rdg}
theorem ESt.call (h:ESt w W gE gR B m P pc s l zs qs) (hb:Below W.heap.size W W'):ESt w W' gE gR B m P pc s l zs qs:=by
 obtain⟨R,ys,rs,A1,n1,c1,D1,m1,d1,A2,n2,c2,D2,m2,d2,G,h⟩:=h;exact⟨R,ys,rs,A1,n1,c1,D1,m1,d1,A2,n2,c2,D2,m2,d2,G.call hb,h⟩
theorem ESt.bel (h:ESt w W gE gR B m P pc s l zs qs):Below w.heap.size w W:=by
 obtain⟨R,ys,rs,A1,n1,c1,D1,m1,d1,A2,n2,c2,D2,m2,d2,G,h⟩:=h;exact G.st.bel
theorem ESt.len (h:ESt w W gE gR B m P pc s l zs qs):s.M.length=B.length:=by
 obtain⟨R,ys,rs,A1,n1,c1,D1,m1,d1,A2,n2,c2,D2,m2,d2,G,K,h⟩:=h;exact K.mlen
theorem ESt.rct (h:ESt w W gE gR B m P pc s l zs qs):GE.rct m s.M:=by
 obtain⟨R,ys,rs,A1,n1,c1,D1,m1,d1,A2,n2,c2,D2,m2,d2,G,K,h⟩:=h;exact K.rct
theorem Apd.prm {bs bs':List Bk} {rs:List Rdg} {e size:Nat} {v:Value} {n:Nat} {xs:List Value} (h:Apd w W bs rs e size v n xs) (p:bs.Perm bs'):Apd w W bs' rs e size v n xs:=by
 obtain⟨h1,h2,h | ⟨g,cap,cur,k1,k2,k3,k4,k5,h⟩⟩:=h
 ·exact⟨h1,h2,.inl ⟨h.1,h.2.1,h.2.2.prm p⟩⟩
 ·exact⟨h1,h2,.inr ⟨g,cap,cur,k1,k2,k3,k4,k5,h.prm (p.cons _)⟩⟩
theorem ESt.alloc (h:ESt w W gE gR B m P pc s l zs qs) (cs:Array Value) (t:Nat) (hn:NoL cs):ESt w (W.alloc (.cells cs t)) gE gR B m P pc s l ((W.heap.size,cs,t)::zs) qs:=by
 obtain⟨R,ys,rs,A1,n1,c1,D1,m1,d1,A2,n2,c2,D2,m2,d2,G,h⟩:=h;refine⟨R,ys,rs,A1,n1,c1,D1,m1,d1,A2,n2,c2,D2,m2,d2,(G.alloc cs t hn).prm ?_,h⟩
 exact (List.Perm.swap _ _ _).trans (List.Perm.cons _ List.perm_middle.symm)
theorem ESt.zc {g t:Nat} {cs:Array Value} (h:ESt w W gE gR B m P pc s l zs qs) (hz:(g,cs,t)∈zs):Cb W g cs t:=by
 obtain⟨R,ys,rs,A1,n1,c1,D1,m1,d1,A2,n2,c2,D2,m2,d2,G,h⟩:=h;exact (G.st.bk _ (List.mem_cons_of_mem _ (List.mem_append_right _ (List.mem_append_left _ hz)))).1
theorem ESt.drop (h:ESt w W gE gR B m P pc s l zs qs):ESt w W gE gR B m P pc s l [] qs:=by
 obtain⟨R,ys,rs,A1,n1,c1,D1,m1,d1,A2,n2,c2,D2,m2,d2,G,h⟩:=h;exact⟨R,zs++ys,rs,A1,n1,c1,D1,m1,d1,A2,n2,c2,D2,m2,d2,G,h⟩
theorem ESt.pop {p:Bk} {q1 q2:Rdg} (h:ESt w W gE gR B m P pc s l (p::zs) (q1::q2::qs)):ESt w W gE gR B m P pc s l zs qs:=by
 obtain⟨R,ys,rs,A1,n1,c1,D1,m1,d1,A2,n2,c2,D2,m2,d2,G,K,h,h',h''⟩:=h;exact⟨R,p::ys,rs,A1,n1,c1,D1,m1,d1,A2,n2,c2,D2,m2,d2,G.prm (List.Perm.cons _ (List.Perm.append_left _ List.perm_middle.symm)),K,h,h',fun q hq=>h'' q (List.mem_cons_of_mem _ (List.mem_cons_of_mem _ hq))⟩
theorem ESt.zset {g t:Nat} {cs:Array Value} (h:ESt w W gE gR B m P pc s l ((g,cs,t)::zs) qs) (i:Nat) (v:Value) (hv:∀ z,v≠.int .u32 z):ESt w (W.setCell ⟨g,i,none⟩ v) gE gR B m P pc s l ((g,cs.setIfInBounds i v,t)::zs) qs:=by
 obtain⟨R,ys,rs,A1,n1,c1,D1,m1,d1,A2,n2,c2,D2,m2,d2,G,h⟩:=h;refine⟨R,ys,rs,A1,n1,c1,D1,m1,d1,A2,n2,c2,D2,m2,d2,?_,h⟩
 have G1:Apd w W ((g,cs,t)::(gE,ecE gR B.length P s.p.length pc l A1 n1 c1 D1 m1 d1 s.f A2 n2 c2 D2 m2 d2,73)::(MB gR (B.map (rowv m)) B R++(zs++ys))) rs 3 1 (.slice P s.p.length pc) s.p.length (inC s.p):=G.prm ((List.Perm.cons _ List.perm_middle).trans (List.Perm.swap _ _ _));obtain⟨ob,hob,S⟩:=G1.open_;have S2:=S.set 0 i v rfl hv;exact (Apd.close hob S2).prm ((List.Perm.swap _ _ _).trans (List.Perm.cons _ List.perm_middle.symm))
theorem ESt.drew (h:ESt w W gE gR B m P pc s l zs qs):ESt w W.drew gE gR B m P pc s l zs qs:=h.call ((Below.refl _ _).drew)
theorem ESt.rd (h:ESt w W gE gR B m P pc s l zs qs) {A:Option Addr} {n c:Nat} {ys:List Nat} (hq:(A,n,c,ys)∈qs):Rd W A n c ys:=by
 obtain⟨R,ys,rs,A1,n1,c1,D1,m1,d1,A2,n2,c2,D2,m2,d2,G,K,h,h',h''⟩:=h;exact G.st.rd _ (h'' _ hq)
theorem ESt.read (h:ESt w W gE gR B m P pc s l zs qs) {A:Option Addr} {n c:Nat} {ys:List Nat} (R:Rd W A n c ys):ESt w W gE gR B m P pc s l zs ((A,n,c,ys)::qs):=by
 obtain⟨R',zs,rs,A1,n1,c1,D1,m1,d1,A2,n2,c2,D2,m2,d2,G,K,h,h',h''⟩:=h;refine⟨R',zs,_,A1,n1,c1,D1,m1,d1,A2,n2,c2,D2,m2,d2,G.read R,K.mono (fun p hp=>List.mem_cons_of_mem _ hp),⟨List.mem_cons_of_mem _ h.1,List.mem_cons_of_mem _ h.2⟩,⟨List.mem_cons_of_mem _ h'.1,List.mem_cons_of_mem _ h'.2⟩,fun q hq=>?_⟩
 rcases List.mem_cons.1 hq with rfl | hq
 ·exact List.mem_cons_self
 ·exact List.mem_cons_of_mem _ (h'' q hq)
theorem ESt.free (h:ESt w W gE gR B m P pc s l zs qs):ESt w W gE gR B m P pc s l [] []:=by
 obtain⟨R,ys,rs,A1,n1,c1,D1,m1,d1,A2,n2,c2,D2,m2,d2,G,K,h,h',h''⟩:=h;exact⟨R,zs++ys,rs,A1,n1,c1,D1,m1,d1,A2,n2,c2,D2,m2,d2,G,K,h,h',fun q hq=>by cases hq⟩
theorem ESt.ec (h:ESt w W gE gR B m P pc s l zs qs):gE<W.heap.size∧W.cell? ⟨gE,0,none⟩=some (.slice (some ⟨gR,0,none⟩) B.length B.length)∧W.cell? ⟨gE,1,none⟩=some (.slice P s.p.length pc)∧∀ k,W.frozen? ⟨gE,k,none⟩=false:=by
 obtain⟨R,ys,rs,A1,n1,c1,D1,m1,d1,A2,n2,c2,D2,m2,d2,G,K,h⟩:=h;exact⟨G.st.lt 0 rfl,G.st.cl 0 0 rfl rfl,G.st.cl 0 1 rfl rfl,fun k=>G.st.f 0 k rfl⟩
theorem ESt.last (h:ESt w W gE gR B m P pc s l zs qs):∃ A1 n1 c1 D1 m1 d1,W.cell? ⟨gE,2,none⟩=some (.bool (ng l.num))∧W.cell? ⟨gE,3,none⟩=some (.slice A1 n1 c1)∧W.cell? ⟨gE,4,none⟩=some (.slice D1 m1 d1)∧RR W A1 n1 c1 D1 m1 d1 l:=by
 obtain⟨R,ys,rs,A1,n1,c1,D1,m1,d1,A2,n2,c2,D2,m2,d2,G,K,h,h'⟩:=h;exact⟨A1,n1,c1,D1,m1,d1,G.st.cl 0 2 rfl rfl,G.st.cl 0 3 rfl rfl,G.st.cl 0 4 rfl rfl,G.st.rd _ h.1,G.st.rd _ h.2⟩
theorem ESt.scl (h:ESt w W gE gR B m P pc s l zs qs):∃ A1 n1 c1 D1 m1 d1,W.cell? ⟨gE,5,none⟩=some (.bool (ng s.f.num))∧W.cell? ⟨gE,6,none⟩=some (.slice A1 n1 c1)∧W.cell? ⟨gE,7,none⟩=some (.slice D1 m1 d1)∧RR W A1 n1 c1 D1 m1 d1 s.f:=by
 obtain⟨R,ys,rs,A1,n1,c1,D1,m1,d1,A2,n2,c2,D2,m2,d2,G,K,h,h'⟩:=h;exact⟨A2,n2,c2,D2,m2,d2,G.st.cl 0 5 rfl rfl,G.st.cl 0 6 rfl rfl,G.st.cl 0 7 rfl rfl,G.st.rd _ h'.1.1,G.st.rd _ h'.1.2⟩
theorem ESt.row (h:ESt w W gE gR B m P pc s l zs qs) {i:Nat} (hi:i<B.length):W.cell? ⟨gR,i,none⟩=some (.slice (some ⟨B.getD i 0,0,none⟩) m m)∧∀ k,W.frozen? ⟨gR,k,none⟩=false:=by
 obtain⟨R,ys,rs,A1,n1,c1,D1,m1,d1,A2,n2,c2,D2,m2,d2,G,K,h⟩:=h;refine⟨MB_row G.st.sub hi,(MB_cell G.st.sub (i:=i) (v:=rowv m (B.getD i 0)) ?_).2⟩
 rw[List.getElem?_map,List.getD_eq_getElem?_getD,List.getElem?_eq_getElem hi];rfl
theorem ESt.num (h:ESt w W gE gR B m P pc s l zs qs) {i j:Nat} (hi:i<B.length) (hj:j<m):∃ x:Rt,x.q=el s.M i j∧x.can∧x.raw W∧W.cell? ⟨B.getD i 0,j*3,none⟩=some (.bool x.b)∧W.cell? ⟨B.getD i 0,j*3+1,none⟩=some (.slice x.A x.n x.c)∧W.cell? ⟨B.getD i 0,j*3+2,none⟩=some (.slice x.D x.m x.d)∧∀ k,W.frozen? ⟨B.getD i 0,k,none⟩=false:=by
 obtain⟨R,ys,rs,A1,n1,c1,D1,m1,d1,A2,n2,c2,D2,m2,d2,G,K,h⟩:=h;exact MB_num G.st.sub K hi hj
theorem ESt.put (h:ESt w W gE gR B m P pc s l zs qs) (hb:Below W.heap.size W W') {i j:Nat} (hi:i<B.length) (x:Rt) (hx:x.can∧x.raw W'):ESt w (((W'.setCell ⟨B.getD i 0,j*3,none⟩ (.bool x.b)).setCell ⟨B.getD i 0,j*3+1,none⟩ (.slice x.A x.n x.c)).setCell ⟨B.getD i 0,j*3+2,none⟩ (.slice x.D x.m x.d)) gE gR B m P pc ⟨s.M.set i ((s.M.getD i []).set j x.q),s.p,s.f⟩ l zs qs:=by
 obtain⟨R,ys,rs,A1,n1,c1,D1,m1,d1,A2,n2,c2,D2,m2,d2,G,K,h,h'⟩:=h;obtain⟨ob,hob,S⟩:=(((G.call hb).read hx.2.1).read hx.2.2).open_;have K2:=K.mono (rs':=(x.D,x.m,x.d,x.y)::(x.A,x.n,x.c,x.x)::rs) (fun p hp=>List.mem_cons_of_mem _ (List.mem_cons_of_mem _ hp))
 rw[List.cons_append,List.append_assoc] at S;obtain⟨R',S2,K3⟩:=MB_put (xs:=_::((zs++ys)++ob)) (st_mid S) K2 (j:=j) hi x ⟨hx.1,List.mem_cons_of_mem _ List.mem_cons_self,List.mem_cons_self⟩;have S3:=st_mid' S2;rw[←List.append_assoc,←List.cons_append] at S3;exact⟨R',ys,_,A1,n1,c1,D1,m1,d1,A2,n2,c2,D2,m2,d2,Apd.close hob S3,K3,⟨List.mem_cons_of_mem _ (List.mem_cons_of_mem _ h.1),List.mem_cons_of_mem _ (List.mem_cons_of_mem _ h.2)⟩,⟨List.mem_cons_of_mem _ (List.mem_cons_of_mem _ h'.1.1),List.mem_cons_of_mem _ (List.mem_cons_of_mem _ h'.1.2)⟩,fun q hq=>List.mem_cons_of_mem _ (List.mem_cons_of_mem _ (h'.2 q hq))⟩
theorem S2.rs {a d p:Nat} {q:Rat} (h:S2 a d q) (ha:a<p) (hd:d<p):Rs q p:=⟨Nat.lt_of_le_of_lt h.n (Nat.pow_lt_pow_right (by decide) ha),Nat.lt_of_le_of_lt h.d (Nat.pow_lt_pow_right (by decide) hd)⟩
theorem ESt.mkp {R:List (List Rt)} {ys:List Bk} {rs:List Rdg} {A1:Option Addr} {n1 c1:Nat} {D1:Option Addr} {m1 d1:Nat} {A2:Option Addr} {n2 c2:Nat} {D2:Option Addr} {m2 d2:Nat} {gx tx c:Nat} {cx:Array Value} {v:Value}
  (G:Apd w W ((gx,cx,tx)::(gE,ecE gR B.length P s.p.length pc l A1 n1 c1 D1 m1 d1 s.f A2 n2 c2 D2 m2 d2,73)::(MB gR (B.map (rowv m)) B R++(zs++ys))) rs 3 1 v (s.p.length+1) (inC s.p++[.int .i64 c]))
  (K:RK B m R s.M rs) (h:(A1,n1,c1,limbs l.num.natAbs)∈rs∧(D1,m1,d1,dn l)∈rs) (h':(A2,n2,c2,limbs s.f.num.natAbs)∈rs∧(D2,m2,d2,dn s.f)∈rs) (hq:∀ q∈qs,q∈rs) :
  (W.cell? ⟨gE,1,none⟩=some (.slice P s.p.length pc)∧W.frozen? ⟨gE,1,none⟩=false)∧∃ P' pc',v=.slice P' (s.p.length+1) pc'∧ESt w (W.setCell ⟨gE,1,none⟩ (.slice P' (s.p.length+1) pc')) gE gR B m P' pc' ⟨s.M,s.p++[c],s.f⟩ l zs qs:=by
 have e1:(s.p++[c]).length=s.p.length+1:=List.length_append;have e2:inC (s.p++[c])=inC s.p++[.int .i64 c]:=by unfold inC;rw[List.map_append];rfl
 obtain⟨P',pc',hv⟩:∃ P' pc',v=.slice P' (s.p.length+1) pc':=by
  obtain⟨_,_,⟨_,h0,_⟩ | ⟨g,cap,cur,hv,_⟩⟩:=G
  ·omega
  ·exact⟨_,_,hv⟩
 subst hv;refine⟨⟨G.st.cl 1 1 rfl rfl,G.st.f 1 1 rfl⟩,P',pc',rfl,R,ys,rs,A1,n1,c1,D1,m1,d1,A2,n2,c2,D2,m2,d2,?_,K,h,h',hq⟩
 show Apd w _ ((gE,ecE gR B.length P' (s.p++[c]).length pc' l A1 n1 c1 D1 m1 d1 s.f A2 n2 c2 D2 m2 d2,_)::_) rs _ 1 (.slice P' (s.p++[c]).length pc') (s.p++[c]).length (inC (s.p++[c]))
 rw[e1,e2];obtain⟨ob,hob,S⟩:=G.sub.open_;exact Apd.close hob (S.set 0 1 (.slice P' (s.p.length+1) pc') rfl (by nofun))
theorem ESt.setl (h:ESt w W gE gR B m P pc s l zs qs) (x:Rt) (hx:x.can∧x.raw W):ESt w (((W.setCell ⟨gE,2,none⟩ (.bool x.b)).setCell ⟨gE,3,none⟩ (.slice x.A x.n x.c)).setCell ⟨gE,4,none⟩ (.slice x.D x.m x.d)) gE gR B m P pc s x.q zs qs:=by
 obtain⟨R,ys,rs,A1,n1,c1,D1,m1,d1,A2,n2,c2,D2,m2,d2,G,K,h,h'⟩:=h;obtain⟨ob,hob,S⟩:=((G.read hx.2.1).read hx.2.2).open_;obtain⟨k1,k2,k3,_⟩:=hx.1;refine⟨R,ys,(x.D,x.m,x.d,x.y)::(x.A,x.n,x.c,x.x)::rs,x.A,x.n,x.c,x.D,x.m,x.d,A2,n2,c2,D2,m2,d2,Apd.close hob ?_,K.mono (fun p hp=>List.mem_cons_of_mem _ (List.mem_cons_of_mem _ hp)),⟨by rw[←k2];exact List.mem_cons_of_mem _ List.mem_cons_self,by rw[←k3];exact List.mem_cons_self⟩,⟨List.mem_cons_of_mem _ (List.mem_cons_of_mem _ h'.1.1),List.mem_cons_of_mem _ (List.mem_cons_of_mem _ h'.1.2)⟩,fun q hq=>List.mem_cons_of_mem _ (List.mem_cons_of_mem _ (h'.2 q hq))⟩
 have S3:=((S.set 0 2 (.bool x.b) rfl (by nofun)).set 0 3 (.slice x.A x.n x.c) rfl (by nofun)).set 0 4 (.slice x.D x.m x.d) rfl (by nofun)
 rw[k1] at S3 ⊢;exact S3
end
end Go.Proofs.YthlinhconnmbcaaGreat
namespace Go.Proofs.YthlinhconnmbcaaGreat
open Go.RowKit RQ GE
set_option linter.unusedVariables false
theorem sr_all {j:Nat}:∀ {L:List (List Rat)},(∀ i,i<L.length→(L.getD i []).getD j 0=0)→sr j L=L.length
 | [],_=>rfl
 | r::L,h=>by
  have h0:=h 0 (Nat.zero_lt_succ _);have ih:=sr_all (j:=j) (L:=L) (fun i hi=>by have:=h (i+1) (Nat.succ_lt_succ hi);simpa using this)
  have h0':(r.getD j 0).num=0:=by
   have:r.getD j 0=0:=by simpa using h0
   rw[this];rfl
  show (if (r.getD j 0).num=0 then sr j L+1 else 0)=L.length+1
  rw[if_pos h0',ih]
theorem sr_is {j:Nat}:∀ {L:List (List Rat)} {i:Nat},i<L.length→(L.getD i []).getD j 0≠0→(∀ t,t<i→(L.getD t []).getD j 0=0)→sr j L=i
 | [],i,h,_,_=>by simp at h
 | r::L,0,_,h,_=>by
  have h':(r.getD j 0).num≠0:=fun e=>h (by simpa using Rat.num_eq_zero.1 e)
  show (if (r.getD j 0).num=0 then sr j L+1 else 0)=0
  rw[if_neg h']
 | r::L,i+1,hi,h,hz=>by
  have h0:=hz 0 (Nat.zero_lt_succ _);have h0':(r.getD j 0).num=0:=by
   have:r.getD j 0=0:=by simpa using h0
   rw[this];rfl
  have ih:=sr_is (j:=j) (L:=L) (i:=i) (by simpa using hi) (by simpa using h) (fun t ht=>by have:=hz (t+1) (Nat.succ_lt_succ ht);simpa using this)
  show (if (r.getD j 0).num=0 then sr j L+1 else 0)=i+1
  rw[if_pos h0',ih]
theorem zip_set {α β γ:Type} {f:α→β→γ}:∀ {B:List α} {R:List β} {i:Nat} {b:α} {L:β},List.zipWith f (B.set i b) (R.set i L)=(List.zipWith f B R).set i (f b L)
 | [],_,_,_,_=>rfl
 | _::_,[],i,_,_=>by cases i<;>rfl
 | _::_,_::_,0,_,_=>rfl
 | x::B,y::R,i+1,b,L=>by
  show f x y::List.zipWith f (B.set i b) (R.set i L)=f x y::(List.zipWith f B R).set i (f b L)
  rw[zip_set]
theorem swap_perm {α:Type} {l:List α} {p q:Nat} {x y:α} (hp:l[p]?=some x) (hq:l[q]?=some y):((l.set p y).set q x).Perm l:=by
 obtain⟨h1,rfl⟩:=List.getElem?_eq_some_iff.1 hp
 obtain⟨h2,rfl⟩:=List.getElem?_eq_some_iff.1 hq
 exact List.set_set_perm h1 h2
section
variable {w W W':World} {gE gR m pc:Nat} {B:List Nat} {R:List (List Rt)} {P:Option Addr} {s:GS} {l:Rat} {rs:List Rdg} {M:List (List Rat)} {xs zs:List Bk} {qs:List Rdg}
theorem KR_zin (K:RK B m R M rs):∀ r∈KR m B R,r.In (List.zipWith rowb B R++xs) rs:=by
 intro r hr;obtain⟨i,hi⟩:=List.getElem?_of_mem hr
 obtain⟨b,L,hb,hL,rfl⟩:=KR_of hi;have hm:=List.mem_of_getElem? hL;refine⟨K.row L hm,.inr ⟨b,(csE L).toArray,rfl,Nat.le_refl _,List.mem_append_left _ ((zip_perm hb hL).mem_iff.2 List.mem_cons_self),?_⟩,fun x hx=>(K.el L hm x hx).2⟩
 show ((csE L).toArray.toList).take (m*3)=csE L
 rw[List.toList_toArray,List.take_of_length_le (by rw[csE_len,K.row L hm];exact Nat.le_refl _)]
theorem KR_row (K:RK B m R M rs) {i:Nat} {r:Ro} (h:(KR m B R)[i]?=some r):r.L.map (·.q)=M.getD i []∧i<M.length:=by
 obtain⟨b,L,hb,hL,rfl⟩:=KR_of h;have hi:=(List.getElem?_eq_some_iff.1 hb).1
 obtain⟨L',h1,h2,h3,h4,h5⟩:=K.get hi;rw[hL] at h1;obtain rfl:=Option.some.inj h1;exact⟨h3.symm,by rw[K.mlen];exact hi⟩
theorem nzR_no {c:Nat} {r:Ro} (h:nzR c r=false):(r.L.map (·.q)).getD c 0=0:=by
 unfold nzR nzq at h
 simpa using h
theorem nzR_yes {c:Nat} {r:Ro} (h:nzR c r=true):(r.L.map (·.q)).getD c 0≠0:=by
 unfold nzR nzq at h
 simpa using h
theorem drop_gt {α:Type} {l:List α} {p i:Nat} {d:α}:(l.drop p).getD i d=l.getD (p+i) d:=by
 rw[List.getD_eq_getElem?_getD,List.getElem?_drop,List.getD_eq_getElem?_getD]
theorem KR_at (K:RK B m R M rs) {i:Nat} (hi:i<M.length):∃ r,(KR m B R)[i]?=some r∧r.L.map (·.q)=M.getD i []:=by
 obtain⟨L,h1,h2,h3,h4,h5⟩:=K.get (i:=i) (by rw[←K.mlen];exact hi)
 exact⟨_,KR_get h5 h1,h3.symm⟩
theorem ESt.choose {c:Nat} (h:ESt w W gE gR B m P pc s l zs qs) (hn:B.length≤1000) (hp:s.p.length≤B.length) (hc:c<m) (hc2:c≤1000) (hs:Rs s.f 9000000):Calls Tryz.prog 63 #[.pointer (some ⟨gE,0,none⟩),.int .i64 c] W fun e W'=>
  (gat c s=s.M.length∧e=.returned (.bool false)∧ESt w W' gE gR B m P pc s l zs qs) ∨
  (gat c s<s.M.length∧e=.returned (.bool true)∧∃ B',B'.length=B.length∧ESt w W' gE gR B' m P pc ⟨gm1 c s,s.p,gf1 c s⟩ l zs qs):=by
 have hlen:=h.len;obtain⟨R,ys,rs,A1,n1,c1,D1,m1,d1,A2,n2,c2,D2,m2,d2,G,K,h1,h2,h3⟩:=h;obtain⟨ob,hob,S⟩:=G.open_;have ecsR:(csR (KR m B R))=B.map (rowv m):=KR_v K.len;have hap:∀ (X:Bk) (us:List Bk),(X::((gR,(B.map (rowv m)).toArray,46)::us++(zs++ys)))++ob=X::(gR,(csR (KR m B R)).toArray,46)::(us++((zs++ys)++ob)):=fun X us=>by
  rw[ecsR];simp
 have S1:=S;unfold MB at S1;rw[hap] at S1;have hIn:=KR_zin (xs:=(zs++ys)++ob) K
 by_cases hpn:s.p.length=B.length
 ·have hg:gat c s=s.M.length:=by
   unfold gat;rw[List.drop_eq_nil_of_le (by omega)]
   show s.p.length+0=_
   omega
  have hce:=choose_end w W gE gR B.length pc c P (KR m B R) _ rs l s.f A1 n1 c1 D1 m1 d1 A2 n2 c2 D2 m2 d2 (by rw[hpn] at S1;exact S1) hn hc2
  refine hce.mono ?_
  rintro e W' ⟨rfl,S2⟩;refine .inl ⟨hg,rfl,R,ys,rs,A1,n1,c1,D1,m1,d1,A2,n2,c2,D2,m2,d2,?_,K,h1,h2,h3⟩
  refine Apd.close hob ?_
  unfold MB;rw[hap,hpn];exact S2
 ·have hplt:s.p.length<B.length:=by omega
  have hca:=choose_any w W gE gR B.length s.p.length pc c m P (KR m B R) _ rs l s.f A1 n1 c1 D1 m1 d1 A2 n2 c2 D2 m2 d2 S1 hIn (KR_len K) (fun r hr=>by
   obtain⟨i,hi⟩:=List.getElem?_of_mem hr
   obtain⟨b,L,hb,hL,rfl⟩:=KR_of hi;exact⟨rfl,fun x hx=>(K.el L (List.mem_of_getElem? hL) x hx).1⟩) hn hplt hc hc2 h2.1 h2.2 hs
  refine hca.mono ?_
  rintro e W' ⟨v,K',s',A3,n3,c3,D3,m3,d3,rs',rfl,hch,S2,hrs,q1,q2⟩;have K1:=K.mono hrs
  rcases hch with ⟨rfl,rfl,rfl,hz⟩ | ⟨rfl,i,r0,r,hr0,hr,hv,hz,ho⟩
  ·have hg:gat c s=s.M.length:=by
    unfold gat;rw[sr_all,List.length_drop]
    ·omega
    ·intro i hi
     rw[List.length_drop] at hi;obtain⟨r,hr,hq⟩:=KR_at K (i:=s.p.length+i) (by omega)
     have:=nzR_no (hz r (List.mem_of_getElem? (i:=i) (by rw[List.getElem?_drop];exact hr)))
     rw[drop_gt,←hq];exact this
   refine .inl ⟨hg,rfl,R,ys,rs',A1,n1,c1,D1,m1,d1,A3,n3,c3,D3,m3,d3,?_,K1,⟨hrs _ h1.1,hrs _ h1.2⟩,⟨q1,q2⟩,fun q hq=>hrs _ (h3 q hq)⟩
   refine Apd.close hob ?_
   unfold MB;rw[hap];exact S2
  ·obtain⟨hq,hlt⟩:=KR_row K hr
   obtain⟨hq0,hlt0⟩:=KR_row K hr0;have hsr:sr c (s.M.drop s.p.length)=i:=by
    refine sr_is (by rw[List.length_drop];omega) ?_ ?_
    ·rw[drop_gt,←hq];exact nzR_yes hv
    ·intro t ht
     obtain⟨r',hr',hq'⟩:=KR_at K (i:=s.p.length+t) (by omega)
     rw[drop_gt,←hq'];exact nzR_no (hz t r' ht hr')
   have hg:gat c s=s.p.length+i:=by unfold gat;rw[hsr]
   have hga:gat c s<s.M.length:=by omega
   rcases ho with ⟨h0,rfl,rfl⟩ | ⟨h0,rfl,rfl⟩
   ·have e1:gm1 c s=s.M:=by unfold gm1;rw[if_pos (by omega)]
    have e2:gf1 c s=s.f:=by unfold gf1;rw[if_pos (by omega)]
    refine .inr ⟨hga,rfl,B,rfl,R,ys,rs',A1,n1,c1,D1,m1,d1,A3,n3,c3,D3,m3,d3,?_,by rw[e1];exact K1,⟨hrs _ h1.1,hrs _ h1.2⟩,by rw[e2];exact⟨q1,q2⟩,fun q hq=>hrs _ (h3 q hq)⟩
    refine Apd.close hob ?_
    unfold MB;rw[hap,e2];exact S2
   ·have e1:gm1 c s=swp s.M (s.p.length+i) s.p.length:=by unfold gm1;rw[if_neg (by omega),hg]
    have e2:gf1 c s = -s.f:=by unfold gf1;rw[if_neg (by omega)]
    obtain⟨b0,L0,hb0,hL0,er0⟩:=KR_of hr0;obtain⟨b,L,hb,hL,er⟩:=KR_of hr;have hK':((KR m B R).set s.p.length r).set (s.p.length+i) r0=KR m ((B.set s.p.length b).set (s.p.length+i) b0) ((R.set s.p.length L).set (s.p.length+i) L0):=by
     unfold KR;rw[zip_set,zip_set,er,er0]
    have hzp:(List.zipWith rowb ((B.set s.p.length b).set (s.p.length+i) b0) ((R.set s.p.length L).set (s.p.length+i) L0)).Perm (List.zipWith rowb B R):=by
     rw[zip_set,zip_set];refine swap_perm ?_ ?_
     ·rw[List.getElem?_zipWith,hb0,hL0]
     ·rw[List.getElem?_zipWith,hb,hL]
    have hBl:((B.set s.p.length b).set (s.p.length+i) b0).length=B.length:=by rw[List.length_set,List.length_set]
    have hKl:((R.set s.p.length L).set (s.p.length+i) L0).length=((B.set s.p.length b).set (s.p.length+i) b0).length:=by
     rw[List.length_set,List.length_set,hBl];exact K.len
    have hM':gm1 c s=(s.M.set s.p.length (s.M.getD (s.p.length+i) [])).set (s.p.length+i) (s.M.getD s.p.length []):=by
     rw[e1];unfold swp;exact List.set_comm _ _ (by omega)
    refine .inr ⟨hga,rfl,_,hBl,(R.set s.p.length L).set (s.p.length+i) L0,ys,rs',A1,n1,c1,D1,m1,d1,A3,n3,c3,D3,m3,d3,?_,⟨hKl,fun L' h'=>?_,fun L' h' x hx=>?_,?_⟩,⟨hrs _ h1.1,hrs _ h1.2⟩,by rw[e2];exact⟨q1,q2⟩,fun q hq=>hrs _ (h3 q hq)⟩
    ·refine Apd.close hob ?_
     unfold MB;rw[e2,hBl];rw[hK',show csR (KR m _ _)=_ from KR_v hKl] at S2
     refine S2.prm ?_
     rw[List.cons_append,List.cons_append];refine List.Perm.cons _ ?_
     rw[List.cons_append,List.append_assoc];refine List.Perm.cons _ ?_
     rw[List.append_assoc];have:=hzp.symm.append_right (zs++(ys++ob))
     simpa only [List.append_assoc] using this
    ·rcases List.mem_or_eq_of_mem_set h' with h' | rfl
     ·rcases List.mem_or_eq_of_mem_set h' with h' | rfl
      ·exact K1.row _ h'
      ·exact K1.row _ (List.mem_of_getElem? hL)
     ·exact K1.row _ (List.mem_of_getElem? hL0)
    ·rcases List.mem_or_eq_of_mem_set h' with h' | rfl
     ·rcases List.mem_or_eq_of_mem_set h' with h' | rfl
      ·exact K1.el _ h' x hx
      ·exact K1.el _ (List.mem_of_getElem? hL) x hx
     ·exact K1.el _ (List.mem_of_getElem? hL0) x hx
    ·rw[hM',List.map_set,List.map_set,K.q]
     rw[er] at hq;rw[er0] at hq0;rw[←hq,←hq0]
end
end Go.Proofs.YthlinhconnmbcaaGreat
