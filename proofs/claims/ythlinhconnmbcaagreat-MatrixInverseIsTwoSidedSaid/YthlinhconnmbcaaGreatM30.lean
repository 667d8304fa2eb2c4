/- awake of law 6. -/
import Derived.Test.YthlinhconnmbcaaGreatM29
import Derived.Laws.CopyRow
import Derived.Test.YthlinhconnmbcaaGreatB18
import Derived.Test.YthlinhconnmbcaaGreatB19
import Derived.Test.YthlinhconnmbcaaGreatB14
import Derived.Test.YthlinhconnmbcaaGreatB13
import Derived.Test.YthlinhconnmbcaaGreatB07
set_option maxRecDepth 100000
set_option maxHeartbeats 40000000
set_option linter.unusedVariables false
namespace Go.Proofs.YthlinhconnmbcaaGreat
open Go.RowKit RQ GE
set_option linter.unusedVariables false
def tzB (a z p:Nat):Bool:=(List.range (p+1)).all fun d=>decide ((tz a z d).1≤1000000)&&decide ((tz a z d).2≤1000000)&&(List.range (d+1)).all fun m=>decide ((sz2 a z (tz a z d).1 (tz a z d).2 m).1≤1000000)&&decide ((sz2 a z (tz a z d).1 (tz a z d).2 m).2≤1000000)
theorem tzO_of {a z p:Nat} (h:tzB a z p=true):tzO a z p:=fun d hd=>by
 have h1:=List.all_eq_true.1 h d (List.mem_range.2 (by omega))
 rw[Bool.and_eq_true,Bool.and_eq_true] at h1;refine⟨of_decide_eq_true h1.1.1,of_decide_eq_true h1.1.2,fun m hm=>?_⟩
 have h2:=List.all_eq_true.1 h1.2 m (List.mem_range.2 (by omega))
 rw[Bool.and_eq_true] at h2;exact⟨of_decide_eq_true h2.1,of_decide_eq_true h2.2⟩
theorem mat22 {w W:World} {g g1 g2:Nat} {a b c d:Rt} {rs:List Rdg} {xs:List Bk} (S:St w W ((g,#[rowv 2 g1,rowv 2 g2],46)::(g2,(csE [c,d]).toArray,33)::(g1,(csE [a,b]).toArray,33)::xs) rs) (ha:a.can∧a.rdIn rs) (hb:b.can∧b.rdIn rs) (hc:c.can∧c.rdIn rs) (hd:d.can∧d.rdIn rs):∃ K:List Ro,Mr W (some ⟨g,0,none⟩) 2 2 K∧canM K∧qM K=[[a.q,b.q],[c.q,d.q]]∧wfM K=true∧colM K=2∧∀ r∈K,r.n=2:=by
 have S1:St w W (MB g ([g1,g2].map (rowv 2)) [g1,g2] [[a,b],[c,d]]++xs) rs:=S.prm ((List.Perm.swap _ _ _).cons _);have K:RK [g1,g2] 2 [[a,b],[c,d]] [[a.q,b.q],[c.q,d.q]] rs:=⟨rfl,fun L hL=>(by simp at hL;rcases hL with rfl | rfl<;>rfl),fun L hL x hx=>(by
  simp at hL
  rcases hL with rfl | rfl<;>simp at hx<;>rcases hx with rfl | rfl<;>assumption),rfl⟩
 refine⟨KR 2 [g1,g2] [[a,b],[c,d]],MB_mat S1 K,KR_can K (by omega),(KR_q K.len).trans K.q,rfl,rfl,fun r hr=>?_⟩
 obtain⟨i,hi⟩:=List.getElem?_of_mem hr
 obtain⟨b,L,hb,hL,rfl⟩:=KR_of hi
 rfl
theorem canM_rk {W:World} {A:Option Addr} {n c:Nat} {K:List Ro} (h:Mr W A n c K) (hc:canM K):∀ r∈K,∀ x∈r.L,Rk x.b x.n x.x x.m x.y x.q:=fun r hr x hx=>can_k ((hc r hr).2 x hx) ((h.rd r hr).rd x hx)
theorem qM_all {K:List Ro} {P:Rat→Prop} (h:∀ r∈qM K,∀ q∈r,P q):∀ r∈K,∀ x∈r.L,P x.q:=fun r hr x hx=>h (r.L.map (·.q)) (List.mem_map_of_mem hr) x.q (List.mem_map_of_mem hx)
theorem red22:(red 2 [[0,2],[1,1]]).M=[[1,0],[0,1]]∧(red 2 [[0,2],[1,1]]).p=[0,1]:=by
 constructor<;>kernel_rfl
theorem awake_any (w:World):Calls Tryz.prog 13 #[] w (fun e w'=>e=.returned (.bool true)∧Below w.heap.size w w'):=by
 obtain⟨q0,hq0⟩:∃ q:Rat,q=0:=⟨_,rfl⟩;obtain⟨q1,hq1⟩:∃ q:Rat,q=1:=⟨_,rfl⟩;obtain⟨q2,hq2⟩:∃ q:Rat,q=2:=⟨_,rfl⟩;have hF0:Hid (∀ W,Calls Tryz.prog 19 #[.int .i64 0] W (RetR q0 W)):=Lib.hid fun W=>by rw[hq0];exact FfromInt_any 0 W (by omega) (by omega)
 have hF1:Hid (∀ W,Calls Tryz.prog 19 #[.int .i64 1] W (RetR q1 W)):=Lib.hid fun W=>by rw[hq1];exact FfromInt_any 1 W (by omega) (by omega)
 have hF2:Hid (∀ W,Calls Tryz.prog 19 #[.int .i64 2] W (RetR q2 W)):=Lib.hid fun W=>by rw[hq2];exact FfromInt_any 2 W (by omega) (by omega)
 replace hq0:=Lib.hid hq0;replace hq1:=Lib.hid hq1;replace hq2:=Lib.hid hq2;have S0:=Lib.hid (St.new w);go_enter Tryz.func13,Tryz.ntmps13
 go_wp2_with fail
 refine (hF0.out _).mono ?_
 rintro e w1 ⟨A1,n1,c1,D1,m1,d1,rfl,X1,bb⟩;replace S0:=Lib.hid (((S0.out.call bb).read X1.n).read X1.d);clear X1 bb
 go_wp2_with fail
 refine (hF2.out _).mono ?_
 rintro e w2 ⟨A2,n2,c2,D2,m2,d2,rfl,X2,bb⟩;replace S0:=Lib.hid (((S0.out.call bb).read X2.n).read X2.d);clear X2 bb
 go_wp2_with fail
 obtain⟨g1,hg1⟩:∃ g,g=w2.heap.size:=⟨_,rfl⟩;obtain⟨W2,hW2⟩:∃ W,W=w2.alloc (.cells #[.bool (ng q0.num),.slice A1 n1 c1,.slice D1 m1 d1,.bool (ng q2.num),.slice A2 n2 c2,.slice D2 m2 d2] 33):=⟨_,rfl⟩;replace S0:=Lib.hid (S0.out.allocAt g1 #[.bool (ng q0.num),.slice A1 n1 c1,.slice D1 m1 d1,.bool (ng q2.num),.slice A2 n2 c2,.slice D2 m2 d2] 33 (noLof rfl) hg1.symm);rw[←hW2] at S0 ⊢;rw[←hg1];clear hW2 hg1
 refine (hF1.out _).mono ?_
 rintro e w3 ⟨A3,n3,c3,D3,m3,d3,rfl,X3,bb⟩;replace S0:=Lib.hid (((S0.out.call bb).read X3.n).read X3.d);clear X3 bb
 go_wp2_with fail
 refine (hF1.out _).mono ?_
 rintro e w4 ⟨A4,n4,c4,D4,m4,d4,rfl,X4,bb⟩;replace S0:=Lib.hid (((S0.out.call bb).read X4.n).read X4.d);clear X4 bb
 go_wp2_with fail
 obtain⟨g2,hg2⟩:∃ g,g=w4.heap.size:=⟨_,rfl⟩;obtain⟨gM,hgM⟩:∃ g,g=w4.heap.size+1:=⟨_,rfl⟩;replace S0:=Lib.hid ((S0.out.allocAt g2 #[.bool (ng q1.num),.slice A3 n3 c3,.slice D3 m3 d3,.bool (ng q1.num),.slice A4 n4 c4,.slice D4 m4 d4] 33 (noLof rfl) hg2.symm).allocAt gM #[.slice (some ⟨g1,0,none⟩) 2 2,.slice (some ⟨g2,0,none⟩) 2 2] 46 (noLof rfl) (by rw[hgM,World.size_alloc]))
 obtain⟨W4,hW4⟩:∃ W,W=(w4.alloc (.cells #[.bool (ng q1.num),.slice A3 n3 c3,.slice D3 m3 d3,.bool (ng q1.num),.slice A4 n4 c4,.slice D4 m4 d4] 33)).alloc (.cells #[.slice (some ⟨g1,0,none⟩) 2 2,.slice (some ⟨g2,0,none⟩) 2 2] 46):=⟨_,rfl⟩;rw[←hgM,←hg2];rw[←hW4] at S0 ⊢;clear hW4 hg2 hgM;have r0:Rs q0 9000000:=by rw[hq0.out];exact S2.rs (S2.zero (a:=1) (d:=1)) (by decide) (by decide)
 have r1:Rs q1 9000000:=by rw[hq1.out];exact S2.rs (S2.one (a:=1) (d:=1)) (by decide) (by decide)
 have s2:S2 1 0 (2:Rat):=⟨by decide,by decide⟩
 have r2:Rs q2 9000000:=by rw[hq2.out];exact S2.rs s2 (by decide) (by decide)
 obtain⟨K,hK,hKc,hKq,hKw,hKk,hKn⟩:=mat22 (a:=Rt.of A1 n1 c1 D1 m1 d1 q0) (b:=Rt.of A2 n2 c2 D2 m2 d2 q2) (c:=Rt.of A3 n3 c3 D3 m3 d3 q1) (d:=Rt.of A4 n4 c4 D4 m4 d4 q1) S0.out ⟨Rt.of_can _ _ _ _ _ _ r0,by simp[Rt.of],by simp[Rt.of]⟩ ⟨Rt.of_can _ _ _ _ _ _ r2,by simp[Rt.of],by simp[Rt.of]⟩ ⟨Rt.of_can _ _ _ _ _ _ r1,by simp[Rt.of],by simp[Rt.of]⟩ ⟨Rt.of_can _ _ _ _ _ _ r1,by simp[Rt.of],by simp[Rt.of]⟩
 change qM K=[[q0,q2],[q1,q1]] at hKq
 rw[hq0.out,hq1.out,hq2.out] at hKq;have hRx:=preduce_any K (some ⟨gM,0,none⟩) 2 2 W4 hK (fun r hr=>by rw[hKn r hr];decide) (by decide) hKw (canM_rk hK hKc) 1 0 (qM_all (fun r hr q hq=>by
  rw[hKq] at hr
  simp at hr
  rcases hr with rfl | rfl<;>simp at hq
  ·rcases hq with rfl | rfl
   ·exact S2.zero
   ·exact s2
  ·subst hq;exact S2.one)) (by rw[hKk];exact⟨by decide,by decide,by decide⟩) (by rw[hKk];exact tzO_of (by kernel_rfl))
 rw[hKk,hKq,red22.1,red22.2] at hRx;clear hK hKc hKq hKw hKk hKn r0 r2 s2;have hr1:=Lib.hid r1;clear r1;refine hRx.mono ?_
 rintro e w5 ⟨A5,n5,c5,M5,P,pc,rfl,hm5,hc5,hq5,hn5,hi5,bb⟩;replace S0:=Lib.hid (S0.out.call bb);replace hm5:=Lib.hid hm5;replace hi5:=Lib.hid hi5;replace hc5:=Lib.hid hc5;replace hq5:=Lib.hid hq5;replace hn5:=Lib.hid hn5;clear bb hRx
 go_wp2_with fail
 obtain⟨gI,hgI⟩:∃ g,g=w5.heap.size:=⟨_,rfl⟩;obtain⟨W5,hW5⟩:∃ W,W=w5.alloc (.cells #[.int .i64 0,.int .i64 1] 3):=⟨_,rfl⟩;have B5:Below w5.heap.size w5 W5:=by rw[hW5];exact (Below.refl _ _).alloc (Nat.le_refl _) _
 replace S0:=Lib.hid (S0.out.allocAt gI #[.int .i64 0,.int .i64 1] 3 (noLof rfl) hgI.symm);rw[←hW5] at S0 ⊢;rw[←hgI];replace hm5:=Lib.hid (hm5.out.bel B5);have hi6:Ir W5 P 2 pc [0,1]:=hi5.out.bel B5;have hcI:=(S0.out.bk _ List.mem_cons_self).1;have hi7:Ir W5 (some ⟨gI,0,none⟩) 2 2 [0,1]:=⟨rfl,Nat.le_refl _,.inr ⟨gI,0,rfl,hcI.lt,fun i p hi=>by
  rw[Nat.zero_add]
  match i with
  | 0=>obtain rfl:=Option.some.inj hi;exact hcI.cell rfl
  | 1=>obtain rfl:=Option.some.inj hi;exact hcI.cell rfl
  | i+2=>cases hi⟩⟩
 have hSI:=sameInts_any [0,1] P 2 pc (some ⟨gI,0,none⟩) 2 W5 hi6 hi7 (by decide)
 clear hW5 hgI B5 hi5 hi6 hi7 hcI;refine hSI.mono ?_
 rintro e w6 ⟨rfl,bb⟩;replace S0:=Lib.hid (S0.out.call bb);replace hm5:=Lib.hid (hm5.out.bel bb);clear bb hSI
 go_wp2_with fail
 refine (hF1.out _).mono ?_
 rintro e w7 ⟨A6,n6,c6,D6,m6,d6,rfl,X6,bb⟩;replace S0:=Lib.hid (((S0.out.call bb).read X6.n).read X6.d);replace hm5:=Lib.hid (hm5.out.bel bb);clear bb X6
 go_wp2_with fail
 obtain⟨g7,hg7⟩:∃ g,g=w7.heap.size:=⟨_,rfl⟩;obtain⟨W7,hW7⟩:∃ W,W=w7.alloc (.cells #[.bool (ng q1.num),.slice A6 n6 c6,.slice D6 m6 d6,.bool false,.slice none 0 0,.slice none 0 0] 33):=⟨_,rfl⟩;have B7:Below w7.heap.size w7 W7:=by rw[hW7];exact (Below.refl _ _).alloc (Nat.le_refl _) _
 replace S0:=Lib.hid (S0.out.allocAt g7 #[.bool (ng q1.num),.slice A6 n6 c6,.slice D6 m6 d6,.bool false,.slice none 0 0,.slice none 0 0] 33 (noLof rfl) hg7.symm);rw[←hW7] at S0 ⊢;rw[←hg7];replace hm5:=Lib.hid (hm5.out.bel B7);clear hW7 hg7 B7;refine (hF1.out _).mono ?_
 rintro e w8 ⟨A8,n8,c8,D8,m8,d8,rfl,X8,bb⟩;replace S0:=Lib.hid (((S0.out.call bb).read X8.n).read X8.d);replace hm5:=Lib.hid (hm5.out.bel bb);clear bb X8
 go_wp2_with fail
 obtain⟨g8,hg8⟩:∃ g,g=w8.heap.size:=⟨_,rfl⟩;obtain⟨gM8,hgM8⟩:∃ g,g=w8.heap.size+1:=⟨_,rfl⟩;replace S0:=Lib.hid ((S0.out.allocAt g8 #[.bool false,.slice none 0 0,.slice none 0 0,.bool (ng q1.num),.slice A8 n8 c8,.slice D8 m8 d8] 33 (noLof rfl) hg8.symm).allocAt gM8 #[.slice (some ⟨g7,0,none⟩) 2 2,.slice (some ⟨g8,0,none⟩) 2 2] 46 (noLof rfl) (by rw[hgM8,World.size_alloc]))
 obtain⟨W8,hW8⟩:∃ W,W=(w8.alloc (.cells #[.bool false,.slice none 0 0,.slice none 0 0,.bool (ng q1.num),.slice A8 n8 c8,.slice D8 m8 d8] 33)).alloc (.cells #[.slice (some ⟨g7,0,none⟩) 2 2,.slice (some ⟨g8,0,none⟩) 2 2] 46):=⟨_,rfl⟩;have B8:Below w8.heap.size w8 W8:=by rw[hW8];exact ((Below.refl _ _).alloc (Nat.le_refl _) _).alloc (by rw[World.size_alloc];omega) _
 rw[←hgM8,←hg8];rw[←hW8] at S0 ⊢;replace hm5:=Lib.hid (hm5.out.bel B8);clear hW8 hg8 hgM8 B8;replace S0:=Lib.hid (S0.out.read (show Rd _ none 0 0 [] from Rd.nil_ _ _ _))
 obtain⟨K,hK,hKc,hKq,hKw,hKk,hKn⟩:=mat22 (a:=Rt.of A6 n6 c6 D6 m6 d6 q1) (b:=Zt) (c:=Zt) (d:=Rt.of A8 n8 c8 D8 m8 d8 q1) S0.out ⟨Rt.of_can _ _ _ _ _ _ hr1.out,by simp[Rt.of],by simp[Rt.of]⟩ ⟨Zt_can,List.mem_cons_self,List.mem_cons_self⟩ ⟨Zt_can,List.mem_cons_self,List.mem_cons_self⟩ ⟨Rt.of_can _ _ _ _ _ _ hr1.out,by simp[Rt.of],by simp[Rt.of]⟩
 have hKq2:qM K=[[1,0],[0,1]]:=by rw[hKq];show [[q1,0],[0,q1]]=_;rw[hq1.out]
 have hSL:=sameLists_any M5 K A5 n5 c5 (some ⟨gM8,0,none⟩) 2 2 W8 hm5.out hK hc5.out hKc (by rw[hq5.out,hKq2]) hn5.out
 clear hK hKc hKq hKw hKk hKn hKq2;refine hSL.mono ?_
 rintro e w9 ⟨rfl,bb⟩;replace S0:=Lib.hid (S0.out.call bb);clear bb hSL;go_wp2;go_ret;exact⟨rfl,S0.out.bel⟩
end Go.Proofs.YthlinhconnmbcaaGreat
namespace Go.Proofs.YthlinhconnmbcaaGreat
open Go.RowKit RQ GE
set_option linter.unusedVariables false
theorem sr_cells {W:World} {b o n c:Nat} {L:List Rt} (h:Sr W (some ⟨b,o,none⟩) n c L) (hn:0<n):∀ j v,(csE L)[j]?=some v→W.cell? ((⟨b,o,none⟩:Addr).add j)=some v:=by
 intro j v hv;have hadd:(⟨b,o,none⟩:Addr).add j=⟨b,o+j,none⟩:=by unfold Addr.add;split<;>simp_all
 rw[hadd]
 rcases h.mem with h0 | ⟨b',o',hA,hlt,hc⟩
 ·omega
 ·obtain⟨rfl,rfl⟩:b=b'∧o=o':=by simp only[Option.some.injEq,Addr.mk.injEq] at hA;exact⟨hA.1,hA.2.1⟩
  have hj:j<L.length*3:=by rw[←csE_len];exact (List.getElem?_eq_some_iff.1 hv).1
  have h3:=Nat.div_add_mod j 3;have hm:=Nat.mod_lt j (show 0<3 by decide)
  have hi:j / 3<L.length:=by omega
  have hx:L[j / 3]?=some L[j / 3]:=List.getElem?_eq_getElem hi
  obtain⟨e0,e1,e2⟩:=csE_get hx;obtain⟨k0,k1,k2⟩:=hc _ _ hx;have hcs:j%3=0∨j%3=1∨j%3=2:=by omega
  rcases hcs with h | h | h
  ·rw[show j=j / 3*3 by omega] at hv ⊢
   rw[e0] at hv;rw[k0];exact hv
  ·rw[show j=j / 3*3+1 by omega] at hv ⊢
   rw[e1] at hv;rw[←Nat.add_assoc,k1];exact hv
  ·rw[show j=j / 3*3+2 by omega] at hv ⊢
   rw[e2] at hv;rw[←Nat.add_assoc,k2];exact hv
theorem csE_one (L:List Rt):∀ v∈csE L,v.oneCell'=true:=by
 intro v hv;obtain⟨r,_,hr⟩:=List.mem_flatMap.1 hv
 simp[Rt.cs] at hr
 rcases hr with rfl | rfl | rfl<;>rfl
theorem run_copy_rat (w:World) (g o dLen dCap b sOff sLen sCap:Nat) (cur:Array Value) (t:Nat) (L:List Rt) (hg:w.heap[g]?=some (.cells cur t (0,0))) (hn:Nat.min sLen dLen=sLen) (h:Sr w (some ⟨b,sOff,none⟩) sLen sCap L) (h0:0<sLen) (hfit:o+sLen*3≤cur.size) :
  (Builtin.copy_ #[46,46] 3 #[.slice (some ⟨g,o,none⟩) dLen dCap,.slice (some ⟨b,sOff,none⟩) sLen sCap]).run Tryz.prog w=.ok (goInt sLen) (w.setRow g (cur.toList.take o++csE L++cur.toList.drop (o+sLen*3)).toArray):=by
 have hlen:(csE L).length=sLen*3:=by rw[csE_len,h.len]
 have hl:=run_loadCells_list (P:=Tryz.prog) w ⟨b,sOff,none⟩ (csE L) (sr_cells h h0);have hst:=run_storeCells_at Tryz.prog g o t (csE L) 0 cur w hg (by rw[hlen];simpa using hfit) (csE_one L)
 rw[hlen] at hl hst;obtain⟨i0,hi,hzz⟩:=Option.map_eq_some_iff.1 infoR;simp only[Prod.mk.injEq] at hzz;obtain⟨hz0,hz1,hz2⟩:=hzz
 simp[Builtin.copy_,run_underlying Tryz.underlying46,Builtin.lenOf,Builtin.firstCells,sizeOf,typeInfo,hi,hz1,hn,hl,hst]
theorem csE_drop:∀ (L:List Rt) (p:Nat),(csE L).drop (p*3)=csE (L.drop p)
 | _,0=>by rw[Nat.zero_mul,List.drop_zero,List.drop_zero]
 | [],p+1=>by show List.drop _ []=_;rw[List.drop_nil];rfl
 | r::L,p+1=>by
  show ([Value.bool r.b,.slice r.A r.n r.c,.slice r.D r.m r.d]++csE L).drop ((p+1)*3)=csE (L.drop p)
  rw[←csE_drop L p,show (p+1)*3=[Value.bool r.b,.slice r.A r.n r.c,.slice r.D r.m r.d].length+p*3 by show _=3+p*3;omega,←List.drop_drop,List.drop_left]
def RetJ (L:List Rt) (n:Nat) (w:World) (e:Ending) (w':World):Prop:=∃ g,e=.returned (.slice (some ⟨g,0,none⟩) n n)∧w.heap.size≤g∧Cb w' g (csE L).toArray 33∧L.length=n∧Below w.heap.size w w'
theorem join1 {La Z:List Rt} {p m:Nat} (hp:La.length=p) (hz:Z.length=m):(csE Z).toArray.toList.take 0++csE La++(csE Z).toArray.toList.drop (0+p*3)=csE (La++Z.drop p):=by
 rw[List.toList_toArray,List.take_zero,List.nil_append,Nat.zero_add,csE_app,csE_drop]
theorem join2 {La Lb R:List Rt} {p q:Nat} (hp:La.length=p) (hq:Lb.length=q) (hR:R.length=q):(csE (La++R)).toArray.toList.take (p*3)++csE Lb++(csE (La++R)).toArray.toList.drop (p*3+q*3)=csE (La++Lb):=by
 rw[List.toList_toArray,csE_app,csE_app];have l1:(csE La).length=p*3:=by rw[csE_len,hp]
 rw[List.take_append_of_le_length (by omega),List.take_of_length_le (by omega),List.drop_eq_nil_of_le (by rw[List.length_append,l1,csE_len,hR];omega),List.append_nil]
theorem joined_any (La Lb:List Rt) (A B:Option Addr) (p q c c':Nat) (w:World) (h:Sr w A p c La) (h':Sr w B q c' Lb) (p0:0<p) (q0:0<q) (p1:p≤1000) (q1:q≤1000):Calls Tryz.prog 50 #[.slice A p c,.slice B q c'] w (RetJ (La++Lb) (p+q) w):=by
 obtain⟨b,o,rfl⟩:∃ b o,A=some ⟨b,o,none⟩:=by
  obtain⟨b,o,_,hA,_⟩:=h.get p0;exact⟨b,o,hA⟩
 obtain⟨b2,o2,rfl⟩:∃ b o,B=some ⟨b,o,none⟩:=by
  obtain⟨b,o,_,hA,_⟩:=h'.get q0;exact⟨b,o,hA⟩
 have hmk:∀ w,(Instr.makeSlice 46 (.int .i64 ((p:Int)+(q:Int))) (.int .i64 ((p:Int)+(q:Int)))).run Tryz.prog w=.ok (.slice (some ⟨w.heap.size,0,none⟩) (p+q) (p+q)) (w.alloc (.cells (csE (List.replicate (p+q) Zt)).toArray 33)):=fun w=>by
  have:=make_rat (p+q) (by omega) w
  rwa [Int.natCast_add] at this
 have S0:=Lib.hid ((St.new w).allocAt w.heap.size (csE (List.replicate (p+q) Zt)).toArray 33 (NoLl.csE _).arr rfl);replace h:=Lib.hid h;replace h':=Lib.hid h';have hp0:=Lib.hid p0;have hq0:=Lib.hid q0;go_enter Tryz.func50,Tryz.ntmps50;go_upto_region 2 with fail
 obtain⟨g,hg⟩:∃ g,g=w.heap.size:=⟨_,rfl⟩;obtain⟨W1,hW1⟩:∃ W,W=w.alloc (.cells (csE (List.replicate (p+q) Zt)).toArray 33):=⟨_,rfl⟩;rw[←hg,←hW1] at S0 ⊢;clear hW1;have hb1:=S0.out.bk _ List.mem_cons_self;have c1:=run_copy_rat W1 g 0 (p+q) (p+q) b o p c _ _ La hb1.1 (Nat.min_eq_left (by omega)) (h.out.bel S0.out.bel) p0 (by rw[List.size_toArray,csE_len,List.length_replicate];omega)
 have S1:=S0.out.setRow (cs':=(csE (La++(List.replicate (p+q) Zt).drop p)).toArray) (NoLl.csE _).arr;rw[join1 h.out.len (List.length_replicate)] at c1;obtain⟨W2,hW2⟩:∃ W,W=W1.setRow g (csE (La++(List.replicate (p+q) Zt).drop p)).toArray:=⟨_,rfl⟩;rw[←hW2] at c1 S1;have hb2:=S1.bk _ List.mem_cons_self;have c2:=run_copy_rat W2 g (p*3) q q b2 o2 q c' _ _ Lb hb2.1 (Nat.min_eq_left (by omega)) (h'.out.bel S1.bel) q0 (by rw[List.size_toArray,csE_len,List.length_append,List.length_drop,List.length_replicate,h.out.len];omega)
 have S2:=S1.setRow (cs':=(csE (La++Lb)).toArray) (NoLl.csE _).arr;rw[join2 h.out.len h'.out.len (by rw[List.length_drop,List.length_replicate];omega)] at c2
 obtain⟨W3,hW3⟩:∃ W,W=W2.setRow g (csE (La++Lb)).toArray:=⟨_,rfl⟩;rw[←hW3] at c2 S2;replace S2:=Lib.hid S2;have hlen:Hid ((La++Lb).length=p+q):=Lib.hid (by rw[List.length_append,h.out.len,h'.out.len])
 clear S1 S0 hb1 hb2 hW2 hW3 hmk h h' hg;go_wp2;go_ret;exact⟨g,rfl,(S2.out.bk _ List.mem_cons_self).2.2,(S2.out.bk _ List.mem_cons_self).1,hlen.out,S2.out.bel⟩
end Go.Proofs.YthlinhconnmbcaaGreat
namespace Go.Proofs.YthlinhconnmbcaaGreat
open Go.RowKit RQ GE
set_option linter.unusedVariables false
def Wm (w W:World) (g n:Nat) (B:List Nat) (m:Nat) (R:List (List Rt)) (zs:List Bk):Prop:=
 ∃ (ys:List Bk) (rs:List Rdg),St w W (MB g (B.map (rowv m)++List.replicate (n-B.length) (.slice none 0 0)) B R++(zs++ys)) rs∧R.length=B.length∧(∀ L∈R,L.length=m)∧∀ L∈R,∀ x∈L,x.rdIn rs
section
variable {w W W':World} {g n m:Nat} {B:List Nat} {R:List (List Rt)} {zs:List Bk}
theorem Wm.call (h:Wm w W g n B m R zs) (hb:Below W.heap.size W W'):Wm w W' g n B m R zs:=by
 obtain⟨ys,rs,S,h⟩:=h;exact⟨ys,rs,S.call hb,h⟩
theorem Wm.bel (h:Wm w W g n B m R zs):Below w.heap.size w W:=by
 obtain⟨ys,rs,S,h⟩:=h;exact S.bel
theorem Wm.len (h:Wm w W g n B m R zs):R.length=B.length:=by
 obtain⟨ys,rs,S,h,_⟩:=h;exact h
theorem Wm.start (S:St w W [(g,(csR (List.replicate n Ro0)).toArray,46)] []):Wm w W g n [] m [] []:=by
 refine⟨[],[],?_,rfl,fun L hL=>(by cases hL),fun L hL=>(by cases hL)⟩
 have e:csR (List.replicate n Ro0)=([]:List Nat).map (rowv m)++List.replicate (n-([]:List Nat).length) (.slice none 0 0):=by
  unfold csR;rw[List.map_replicate];rfl
 rw[e] at S;exact S
theorem Wm.own {h0:Nat} (h:Wm w W g n B m R zs) (hb:Below W.heap.size W W') {t:Nat} {cs:Array Value} (hg:W.heap.size≤h0) (hc:Cb W' h0 cs t) (hn:NoL cs):Wm w W' g n B m R ((h0,cs,t)::zs):=by
 obtain⟨ys,rs,S,h⟩:=h;exact⟨ys,rs,(St_own S hb hg hc hn).prm List.perm_middle.symm,h⟩
theorem Wm.nil (h:Wm w W g n B m R zs) (hi:B.length<n):W.cell? ⟨g,B.length,none⟩=some (.slice none 0 0)∧∀ k,W.frozen? ⟨g,k,none⟩=false:=by
 obtain⟨ys,rs,S,h⟩:=h;refine MB_cell S ?_
 rw[List.getElem?_append_right (by rw[List.length_map];exact Nat.le_refl _),List.length_map,Nat.sub_self,List.getElem?_replicate,if_pos (by omega)]
theorem Wm.row {h0:Nat} {L:List Rt} (h:Wm w W g n B m R ((h0,(csE L).toArray,33)::zs)) (hi:B.length<n) (hL:L.length=m) (hx:∀ x∈L,x.raw W):Wm w (W.setCell ⟨g,B.length,none⟩ (.slice (some ⟨h0,0,none⟩) m m)) g n (B++[h0]) m (R++[L]) zs:=by
 obtain⟨ys,rs,S,hl,hm,hr⟩:=h;have S1:=St_rds S hx;have S2:=S1.prm (bs':=(g,(B.map (rowv m)++List.replicate (n-B.length) (Value.slice none 0 0)).toArray,46)::(List.zipWith rowb (B++[h0]) (R++[L])++(zs++ys))) (by
  rw[List.zipWith_append (by rw[hl])]
  show ((g,_)::(List.zipWith rowb B R++(rowb h0 L::(zs++ys)))).Perm ((g,_)::((List.zipWith rowb B R++[rowb h0 L])++(zs++ys)))
  rw[List.append_assoc];exact List.Perm.refl _)
 have S3:=S2.set 0 B.length (.slice (some ⟨h0,0,none⟩) m m) rfl (by nofun)
 have hV:((B.map (rowv m)++List.replicate (n-B.length) (Value.slice none 0 0)).toArray.setIfInBounds B.length (.slice (some ⟨h0,0,none⟩) m m))=((B++[h0]).map (rowv m)++List.replicate (n-(B++[h0]).length) (Value.slice none 0 0)).toArray:=by
  rw[List.setIfInBounds_toArray,List.set_append_right _ _ (by rw[List.length_map];exact Nat.le_refl _),List.length_map,Nat.sub_self,List.length_append,List.length_singleton,List.map_append]
  rw[show n-B.length=(n-(B.length+1))+1 by omega,List.replicate_succ,List.set_cons_zero,List.append_assoc]
  rfl
 rw[hV] at S3;refine⟨ys,_,S3,by rw[List.length_append,List.length_append,hl];rfl,fun L' h'=>?_,fun L' h' x hx'=>?_⟩
 ·rcases List.mem_append.1 h' with h' | h'
  ·exact hm L' h'
  ·rw[List.mem_singleton.1 h'];exact hL
 ·rcases List.mem_append.1 h' with h' | h'
  ·exact⟨List.mem_append_right _ (hr L' h' x hx').1,List.mem_append_right _ (hr L' h' x hx').2⟩
  ·rw[List.mem_singleton.1 h'] at hx'
   exact rdsOf_in hx'
theorem Wm.mat (h:Wm w W g n B m R zs) (hn:B.length=n):Mr W (some ⟨g,0,none⟩) n n (KR m B R)∧(∀ r∈KR m B R,r.n=m)∧qM (KR m B R)=R.map (fun L=>L.map (·.q)):=by
 obtain⟨ys,rs,S,hl,hm,hr⟩:=h;rw[hn,Nat.sub_self,List.replicate_zero,List.append_nil] at S;refine⟨⟨?_,Nat.le_refl _,.inr ⟨g,0,rfl,(S.bk (g,(B.map (rowv m)).toArray,46) (List.mem_append_left _ List.mem_cons_self)).1.lt,fun i r hi=>?_⟩,fun r hr'=>?_⟩,fun r hr'=>?_,KR_q hl⟩
 ·unfold KR;rw[List.length_zipWith,hl,Nat.min_self,hn]
 ·obtain⟨b,L,hb,hL,rfl⟩:=KR_of hi
  rw[Nat.zero_add];exact (MB_cell S (v:=rowv m b) (by rw[List.getElem?_map,hb];rfl)).1
 ·obtain⟨i,hi⟩:=List.getElem?_of_mem hr'
  obtain⟨b,L,hb,hL,rfl⟩:=KR_of hi;have hLm:=List.mem_of_getElem? hL;exact St_srm S (g:=b) (t:=33) ((MB_perm hb hL).mem_iff.2 List.mem_cons_self) (hm L hLm) (hr L hLm)
 ·obtain⟨i,hi⟩:=List.getElem?_of_mem hr'
  obtain⟨b,L,hb,hL,rfl⟩:=KR_of hi
  rfl
end
def cutv (n b:Nat):Value:=.slice (some ⟨b,n*3,none⟩) n n
def KC (n:Nat) (B:List Nat) (R:List (List Rt)):List Ro:=List.zipWith (fun b L=>⟨some ⟨b,n*3,none⟩,n,n,L.drop n⟩) B R
theorem KC_of {n:Nat} {B:List Nat} {R:List (List Rt)} {i:Nat} {r:Ro} (h:(KC n B R)[i]?=some r):∃ b L,B[i]?=some b∧R[i]?=some L∧r=⟨some ⟨b,n*3,none⟩,n,n,L.drop n⟩:=by
 unfold KC at h;rw[List.getElem?_zipWith] at h
 cases hb:B[i]? with
 | none=>rw[hb] at h;cases h
 | some b=>cases hL:R[i]? with
  | none=>rw[hb,hL] at h;cases h
  | some L=>rw[hb,hL] at h;exact⟨b,L,rfl,rfl,(Option.some.inj h).symm⟩
theorem KC_q {n:Nat}:∀ {B:List Nat} {R:List (List Rt)},R.length=B.length→qM (KC n B R)=(R.map (fun L=>L.map (·.q))).map (·.drop n)
 | [],[],_=>rfl
 | b::B,L::R,h=>by
  have ih:=KC_q (n:=n) (B:=B) (R:=R) (by simpa using h)
  show (L.drop n).map (·.q)::qM (KC n B R)=(L.map (·.q)).drop n::_
  rw[ih,List.map_drop]
theorem Sr.cut {W:World} {b n c:Nat} {L:List Rt} (h:Sr W (some ⟨b,0,none⟩) (n+n) c L):Sr W (some ⟨b,n*3,none⟩) n n (L.drop n):=by
 refine⟨by rw[List.length_drop,h.len];omega,Nat.le_refl _,?_,fun r hr=>h.rd r (List.mem_of_mem_drop hr)⟩
 rcases h.mem with h0 | ⟨b',o',hA,hlt,hc⟩
 ·left;omega
 ·right
  obtain⟨rfl,rfl⟩:b=b'∧0=o':=by simp only[Option.some.injEq,Addr.mk.injEq] at hA;exact⟨hA.1,hA.2.1⟩
  refine⟨b,n*3,rfl,hlt,fun i r hi=>?_⟩
  rw[List.getElem?_drop] at hi
  obtain⟨k0,k1,k2⟩:=hc _ _ hi;rw[Nat.zero_add,show (n+i)*3=n*3+i*3 by omega] at k0 k1 k2
  exact⟨k0,k1,k2⟩
theorem cut_at {n i:Nat} {B:List Nat} (hi:i<B.length) (f g:Nat→Value):((B.take i).map f++(B.drop i).map g)[i]?=some (g (B.getD i 0)):=by
 rw[List.getElem?_append_right (by rw[List.length_map,List.length_take];omega),List.length_map,List.length_take,Nat.min_eq_left (by omega),Nat.sub_self,List.getElem?_map,List.getElem?_drop,Nat.add_zero,List.getD_eq_getElem?_getD,List.getElem?_eq_getElem hi];rfl
theorem cut_step {n i:Nat} {B:List Nat} (hi:i<B.length) (f g:Nat→Value):((B.take i).map f++(B.drop i).map g).toArray.setIfInBounds i (f (B.getD i 0))=((B.take (i+1)).map f++(B.drop (i+1)).map g).toArray:=by
 have hd:B.drop i=B.getD i 0::B.drop (i+1):=by
  rw[List.drop_eq_getElem_cons hi,List.getD_eq_getElem?_getD,List.getElem?_eq_getElem hi];rfl
 rw[List.setIfInBounds_toArray,List.set_append_right _ _ (by rw[List.length_map,List.length_take];omega),List.length_map,List.length_take,Nat.min_eq_left (by omega),Nat.sub_self,hd,List.map_cons,List.set_cons_zero,List.take_add_one,List.getElem?_eq_getElem hi,List.map_append,List.append_assoc,List.getD_eq_getElem?_getD,List.getElem?_eq_getElem hi];rfl
theorem KC_mat {w W:World} {g n:Nat} {B:List Nat} {R:List (List Rt)} {M:List (List Rat)} {ys:List Bk} {rs:List Rdg} (S:St w W ((g,(B.map (cutv n)).toArray,46)::(List.zipWith rowb B R++ys)) rs) (K:RK B (n+n) R M rs) (hB:B.length=n):Mr W (some ⟨g,0,none⟩) n n (KC n B R)∧(∀ r∈KC n B R,r.n=n∧∀ x∈r.L,x.can)∧qM (KC n B R)=M.map (·.drop n):=by
 have hrow:∀ {b:Nat} {L:List Rt},(∃ i:Nat,B[i]?=some b∧R[i]?=some L)→Sr W (some ⟨b,n*3,none⟩) n n (L.drop n):=by
  rintro b L ⟨i,hb,hL⟩;have hLm:=List.mem_of_getElem? hL;refine Sr.cut (St_srm S (t:=33) (List.mem_cons_of_mem _ (List.mem_append_left _ ?_)) (K.row L hLm) (fun x hx=>(K.el L hLm x hx).2))
  exact (zip_perm hb hL).mem_iff.2 List.mem_cons_self
 have hcb:=(S.bk _ List.mem_cons_self).1;refine⟨⟨?_,Nat.le_refl _,.inr ⟨g,0,rfl,hcb.lt,fun i r hi=>?_⟩,fun r hr=>?_⟩,fun r hr=>?_,by rw[KC_q K.len,K.q]⟩
 ·unfold KC;rw[List.length_zipWith,K.len,Nat.min_self,hB]
 ·obtain⟨b,L,hb,hL,rfl⟩:=KC_of hi
  rw[Nat.zero_add];exact hcb.cell (v:=cutv n b) (by rw[List.getElem?_toArray,List.getElem?_map,hb];rfl)
 ·obtain⟨i,hi⟩:=List.getElem?_of_mem hr
  obtain⟨b,L,hb,hL,rfl⟩:=KC_of hi;exact hrow ⟨i,hb,hL⟩
 ·obtain⟨i,hi⟩:=List.getElem?_of_mem hr
  obtain⟨b,L,hb,hL,rfl⟩:=KC_of hi;exact⟨rfl,fun x hx=>(K.el L (List.mem_of_getElem? hL) x (List.mem_of_mem_drop hx)).1⟩
def besQ (n:Nat) (Q:List (List Rat)):List (List Rat):=mk n (n+n) (besd n (el Q))
def invQ (n:Nat) (Q:List (List Rat)):List (List Rat):=(red (n+n) (besQ n Q)).M.map (·.drop n)
theorem bes_row {n:Nat} {Q N:List (List Rat)} (hq:Q.length=n) (hr:rct n Q) (hN:N.length=n) (h:∀ i,i<n→N.getD i []=Q.getD i []++(List.replicate n 0).set i 1):N=besQ n Q:=by
 have hl:∀ i,i<n→(Q.getD i []).length=n:=fun i hi=>rct_getD hr (by omega)
 have hNr:rct (n+n) N:=fun r hr'=>by
  obtain⟨i,hi⟩:=List.getElem?_of_mem hr'
  have hin:i<n:=by rw[←hN];exact (List.getElem?_eq_some_iff.1 hi).1
  have e:=h i hin;rw[List.getD_eq_getElem?_getD,hi] at e
  have e:r=_:=e;rw[e,List.length_append,hl i hin,List.length_set,List.length_replicate]
 refine ext_el hN mk_len hNr mk_rct fun i hi j hj=>?_
 unfold besQ;rw[el_mk hi hj];unfold GE.el besd;rw[h i hi]
 by_cases hjn:j<n
 ·rw[if_pos hjn,List.getD_eq_getElem?_getD,List.getElem?_append_left (by rw[hl i hi];exact hjn),←List.getD_eq_getElem?_getD]
 ·rw[if_neg hjn,List.getD_eq_getElem?_getD,List.getElem?_append_right (by rw[hl i hi];omega),hl i hi]
  unfold I1
  by_cases he:i=j-n
  ·rw[if_pos he,←he,List.getElem?_set_self (by rw[List.length_replicate];exact hi)];rfl
  ·rw[if_neg he,List.getElem?_set_ne he,List.getElem?_replicate,if_pos (by omega)];rfl
theorem pinv_any (M:List Ro) (A:Option Addr) (n c:Nat) (w:World) (h:Mr w A n c M) (hm:∀ r∈M,r.n≤9223372036854775807) (hn:n≤9223372036854775807) (hw:wfM M=true) (hsq:colM M=n) (ka:∀ r∈M,∀ x∈r.L,Rk x.b x.n x.x x.m x.y x.q) (a d:Nat) (hs:∀ r∈M,∀ x∈r.L,S2 a d x.q) (hz:SzE n (n+n) a d) (hT:SzT n (n+n) a d):Calls Tryz.prog 17 #[.slice A n c] w (fun e w'=>(rk n n (el (qM M))=n∧RetMX 0 (invQ n (qM M)) w e w')∨(rk n n (el (qM M))≠n∧RetMX 7 [] w e w')):=by
 obtain⟨hr,hq,hk,h0,hn96,hk96⟩:=wf_rct h hw;have hF:=fun W h'=>wf_any M A n c W h' hm hn
 rw[hw] at hF;have hC:=Lib.hid (fun W h'=>cols_any M A n c W h')
 rw[hsq] at hC hr hk;obtain⟨Q,hQ⟩:∃ Q,Q=qM M:=⟨_,rfl⟩;have hQ1:Hid (∀ i r,M[i]?=some r→Q.getD i []=r.L.map (·.q)):=Lib.hid fun i r hi=>by
  rw[hQ];unfold qM;rw[List.getD_eq_getElem?_getD,List.getElem?_map,hi];rfl
 simp only[←hQ] at hr hq ⊢;obtain⟨S,hS⟩:∃ S,S=(brun (n+n) 0 ⟨wh (besQ n Q),[],pr (rsc (besQ n Q)) n⟩ 1).1:=⟨_,rfl⟩;obtain⟨l,hl⟩:∃ l,l=(brun (n+n) 0 ⟨wh (besQ n Q),[],pr (rsc (besQ n Q)) n⟩ 1).2:=⟨_,rfl⟩;have hbr:brun (n+n) 0 ⟨wh (besQ n Q),[],pr (rsc (besQ n Q)) n⟩ 1=(S,l):=by rw[hS,hl]
 have hb1:(besQ n Q).length=n:=mk_len;have hb2:rct (n+n) (besQ n Q):=mk_rct;have hb3:∀ r∈besQ n Q,∀ x∈r,S2 a d x:=fun r hr' x hx=>by
  unfold besQ mk at hr';obtain⟨i,hi,rfl⟩:=List.mem_map.1 hr';obtain⟨j,hj,rfl⟩:=List.mem_map.1 hx;unfold besd
  split
  ·have hin:=List.mem_range.1 hi
   have hjn:j<n:=by assumption
   have e1:Q[i]?=some (Q.getD i []):=getD_at' (by omega)
   have e2:(Q.getD i []).length=n:=rct_getD hr (by omega)
   have h1:=qM_s2 hs (Q.getD i []) (by rw[←hQ];exact List.mem_of_getElem? e1)
   have e3:(Q.getD i [])[j]?=some (el Q i j):=getD_at (by rw[e2];exact hjn)
   exact h1 _ (List.mem_of_getElem? e3)
  ·unfold I1
   split
   ·exact S2.one
   ·exact S2.zero
 obtain⟨e1,e2,e3,e4,e5,e6,e7⟩:=el_all hb1 hb2 (by omega) hb3 hbr
 have hE:=Lib.hid (fun W (Mw:List Ro) (A':Option Addr) (hM:Mr W A' n n Mw) (hkw:∀ r∈Mw,r.n=n+n) (hqw:qM Mw=besQ n Q) (kaw:∀ r∈Mw,∀ x∈r.L,Rk x.b x.n x.x x.m x.y x.q)=>by
  have hc1:colM Mw=n+n:=by
   match Mw,hM.len with
   | [],h1=>simp at h1;subst h1;rfl
   | r::_,_=>exact hkw r List.mem_cons_self
  have hsw:∀ r∈Mw,∀ x∈r.L,S2 a d x.q:=fun r hr' x hx=>hb3 (r.L.map (·.q)) (by rw[←hqw];exact List.mem_map_of_mem hr') x.q (List.mem_map_of_mem hx)
  have h1:=elim_any Mw A' n n (n+n) W hM hkw hc1 kaw a d hsw (by omega) (by omega) hz.s1 hz.s2 hz.s3
  rw[hqw,←hS,←hl] at h1;exact h1)
 have hR:=Lib.hid (fun W gE gR K P pc A1 n1 c1 D1 m1 d1 (hW:Env W gE gR n (n+n) K P pc S.p l A1 n1 c1 D1 m1 d1) (hK:qM K=S.M)=>by
  have h1:=reduced_any hW (by omega) e4 e3 (by omega) (by omega) (by rw[hK];exact e1) e2 hz.s2 (hT.mono e4)
  rw[hK] at h1;exact h1)
 have hrd:rdP n (n+n) S l=(red (n+n) (besQ n Q)).M:=rdP_eq hb1 hb2 hbr;unfold rdP at hrd;rw[hrd] at hR;have hbq:besQ n Q=mk n (n+n) (besd n (el Q)):=rfl;have hpl:S.p.length=n:=by rw[e6,hbq];exact besd_rank
 have hsg:∀ t,n=t+1→(S.p.getD t 0=t↔rk n n (el Q)=n):=fun t ht=>by
  have h1:=besd_sing (n:=n) (A:=el Q) (by omega)
  unfold pv at h1;rw[←hbq,←e6,show n-1=t by omega] at h1
  exact h1
 have hrow:Hid (∀ W A',Mr W A' n c M→∀ r∈M,r.L.length=n):=Lib.hid fun W A' h' r hr'=>by rw[(h'.rd r hr').len];exact hk r hr'
 have hmr:=make_row n (by omega)
 have hmk:=make_rat n (by omega)
 obtain⟨f1,hf1⟩:∃ q:Rat,q=1:=⟨_,rfl⟩;have hFI:Hid (∀ W,Calls Tryz.prog 49 #[.int .i64 1] W (RetR f1 W)):=Lib.hid (fun W=>by rw[hf1];exact fromIntR_any 1 W (by decide) (by decide))
 have rs1:Hid (Rs f1 9000000):=Lib.hid (by rw[hf1];exact S2.rs (S2.one (a:=1) (d:=1)) (by decide) (by decide))
 have hkk:=Lib.hid hk;have hqr:=Lib.hid (fun N (hN:N.length=n) h=>bes_row (N:=N) hq hr hN h)
 have ka:=Lib.hid ka;have hn9:=hn96;replace h:=Lib.hid h;replace hF:=Lib.hid hF;replace hpl:=Lib.hid hpl;replace hsg:=Lib.hid hsg;replace hf1:=Lib.hid hf1;clear hm hn hw hs hb1 hb2 hb3 e1 e2 e3 e4 e5 e6 e7 hrd hbr hS hl hbq hr hq h0 hk hk96 hQ hsq hz hT hn96;go_enter Tryz.func17,Tryz.ntmps17
 go_wp2_with fail
 refine (hF.out _ h.out).mono ?_
 rintro e w1 ⟨rfl,bb⟩;have bw:=Lib.hid bb;clear hF bb
 go_wp2_with fail
 refine (hC.out _ (h.out.bel bw.out)).mono ?_
 rintro e w2 ⟨rfl,bb⟩;replace bw:=Lib.hid (bw.out.trans (bb.mono bw.out.size));clear hC bb;have S0:=Lib.hid (Wm.start (m:=n+n) (((St.new w).call bw.out).allocAt w2.heap.size (csR (List.replicate n Ro0)).toArray 46 (NoLl.rows _).arr rfl));go_upto_region 5 with fail
 obtain⟨gW,hgW⟩:∃ g,g=w2.heap.size:=⟨_,rfl⟩;rw[←hgW] at S0;rw[←hgW];clear hgW hmr bw;go_wp2
 go_loopw [29] (fun iv wr=>∃ i:Nat,i≤n∧iv=.int .i64 i∧∃ (B:List Nat) (R:List (List Rt)),B.length=i∧Wm w wr gW n B (n+n) R []∧(∀ (j:Nat) (L:List Rt),R[j]?=some L→∃ r x,M[j]?=some r∧x.can∧x.q=1∧L=r.L++(List.replicate n Zt).set j x)) (fun iv _=>n-(intOf iv).toNat)
 case atStart=>exact⟨0,Nat.zero_le _,rfl,[],[],rfl,S0.out,fun j L hL=>(by cases hL)⟩
 case round=>
  clear S0;obtain⟨i,hin,rfl,B,R,hB,T,hRj⟩:=hrel;rename World=>V0
  by_cases hlt:i<n
  ·have g4:(i:Int)<(n:Int):=by omega
   have g5:(0:Int)≤(i:Int):=by omega
   have hih:=Lib.hid hlt;have hM:=h.out.bel T.bel;obtain⟨b,o,r,rfl,hr,hrm,e0⟩:=hM.get hlt;have hrn:=hkk.out r hrm;have hrow2:=Lib.hid (hM.rd r hrm);rw[hrn] at e0 hrow2;have hbr_:=Lib.hid (⟨hr,hrm⟩:M[i]?=some r∧r∈M);have hrl:Hid (r.L.length=n):=Lib.hid (hrow.out _ _ h.out r hrm);have hRl:=Lib.hid (T.len.trans hB);replace T:=Lib.hid T;replace hB:=Lib.hid hB;replace hRj:=Lib.hid hRj;have SU:=Lib.hid (((St.new V0).allocAt V0.heap.size (csE (List.replicate n Zt)).toArray 33 (NoLl.csE _).arr rfl).read (show Rd _ none 0 0 [] from Rd.nil_ _ _ _))
   clear hlt hin hM hr hrm hrn;go_upto_region 9 with fail
   obtain⟨gU,hgU⟩:∃ g,g=V0.heap.size:=⟨_,rfl⟩;obtain⟨V1,hV1⟩:∃ W,W=V0.alloc (.cells (csE (List.replicate n Zt)).toArray 33):=⟨_,rfl⟩;rw[←hgU,←hV1] at SU ⊢;clear hgU hV1 e0
   go_wp2_with fail
   refine (hFI.out _).mono ?_
   rintro e w3 ⟨A9,n9,c9,D9,m9,d9,rfl,X9,bb⟩;have SU1:=((SU.out.call bb).read X9.n).read X9.d;have hZi:(List.replicate n Zt)[i]?=some Zt:=by rw[List.getElem?_replicate,if_pos hih.out]
   obtain⟨⟨k0,k1,k2⟩,f0⟩:=St_lcl SU1 hZi;have f2:=f0 (i*3);have f3:=f0 (i*3+1);have f4:=f0 (i*3+2);have SU2:=Lib.hid (St_lset SU1 i (Rt.of A9 n9 c9 D9 m9 d9 f1));clear SU SU1 hZi f0 bb X9;go_upto_region 10 with fail
   clear k0 k1 k2 f2 f3 f4;obtain⟨V2,hV2⟩:∃ W,W=((w3.setCell ⟨gU,i*3,none⟩ (.bool (ng f1.num))).setCell ⟨gU,i*3+1,none⟩ (.slice A9 n9 c9)).setCell ⟨gU,i*3+2,none⟩ (.slice D9 m9 d9):=⟨_,rfl⟩
   change Hid (St V0 (((w3.setCell ⟨gU,i*3,none⟩ (.bool (ng f1.num))).setCell ⟨gU,i*3+1,none⟩ (.slice A9 n9 c9)).setCell ⟨gU,i*3+2,none⟩ (.slice D9 m9 d9)) _ _) at SU2
   rw[←hV2] at SU2 ⊢;clear hV2;obtain⟨U,hU⟩:∃ U,U=(List.replicate n Zt).set i (Rt.of A9 n9 c9 D9 m9 d9 f1):=⟨_,rfl⟩;rw[←hU] at SU2;have hUl:U.length=n:=by rw[hU,List.length_set,List.length_replicate]
   have hUr:∀ x∈U,x.rdIn ((D9,m9,d9,dn f1)::(A9,n9,c9,limbs f1.num.natAbs)::[(none,0,0,[])]):=fun x hx=>by
    rw[hU] at hx
    rcases List.mem_or_eq_of_mem_set hx with hx | rfl
    ·obtain rfl:=(List.mem_replicate.1 hx).2
     exact⟨by simp[Zt],by simp[Zt]⟩
    ·exact⟨List.mem_cons_of_mem _ List.mem_cons_self,List.mem_cons_self⟩
   have hSU:=St_srm SU2.out List.mem_cons_self hUl hUr;have hJ:=Lib.hid (joined_any r.L U r.A (some ⟨gU,0,none⟩) n n r.c n V2 (hrow2.out.bel SU2.out.bel) hSU (by omega) (by omega) (by omega) (by omega))
   have hUx:Hid (∀ W,Below V2.heap.size V2 W→∀ x∈r.L++U,x.raw W):=Lib.hid fun W hW x hx=>by
    rcases List.mem_append.1 hx with hx | hx
    ·exact ((hrow2.out.rd x hx).bel SU2.out.bel).bel hW
    ·exact (hSU.rd x hx).bel hW
   replace T:=Lib.hid (T.out.call SU2.out.bel);replace hU:=Lib.hid hU;clear SU2 hUl hUr hSU hrow2
   go_wp2_with fail
   refine hJ.out.mono ?_
   rintro e w4 ⟨gJ,rfl,hg,hcb,hl,bb⟩;have T1:=T.out.own bb hg hcb (NoLl.csE _).arr;have hBn:B.length<n:=by rw[hB.out];exact hih.out
   obtain⟨nl,fn⟩:=T1.nil hBn;rw[hB.out] at nl;have fn:=fn i;have T2:=Lib.hid (T1.row hBn hl (hUx.out _ bb));rw[hB.out] at T2;have hi1:=hih.out;have hn8:=hn9;clear T T1 hBn hg hcb hl hJ hUx bb;go_wp2
   go_roundw
   case rel=>
    refine⟨i+1,by omega,by go_num,B++[gJ],R++[r.L++U],by rw[List.length_append,hB.out];rfl,T2.out,fun j L hL=>?_⟩
    by_cases hj:j<R.length
    ·rw[List.getElem?_append_left hj] at hL
     exact hRj.out j L hL
    ·rw[List.getElem?_append_right (by omega)] at hL
     have hj1:j=i:=by
      have:=(List.getElem?_eq_some_iff.1 hL).1
      simp at this
      have:=hRl.out
      omega
     subst hj1;rw[hRl.out,Nat.sub_self] at hL;obtain rfl:=Option.some.inj hL;exact⟨r,_,hbr_.out.1,Rt.of_can _ _ _ _ _ _ rs1.out,hf1.out,by rw[hU.out]⟩
   case measure=>simp[intOf];omega
  ·obtain rfl:n=i:=by omega
   obtain⟨hM1,hM2,hM3⟩:=T.mat hB;have hRl:=T.len.trans hB;have hMw:qM (KR (n+n) B R)=besQ n Q:=hqr.out _ (by rw[hM3,List.length_map];exact hRl) (fun j hj=>by
    have hLj:R[j]?=some R[j]:=List.getElem?_eq_getElem (by omega)
    obtain⟨r,x,hr,hx,hx1,hL⟩:=hRj j _ hLj;rw[hM3,List.getD_eq_getElem?_getD,List.getElem?_map,hLj]
    show R[j].map (·.q)=_
    rw[hL,List.map_append,hQ1.out j r hr,List.map_set,List.map_replicate,hx1];rfl)
   have hMk:∀ r∈KR (n+n) B R,∀ x∈r.L,Rk x.b x.n x.x x.m x.y x.q:=fun r hr x hx=>by
    have hraw:=(hM1.rd r hr).rd x hx;obtain⟨j,hj⟩:=List.getElem?_of_mem hr
    obtain⟨b,L,hb,hL,rfl⟩:=KR_of hj;obtain⟨r',y,hr',hy,hy1,rfl⟩:=hRj j L hL
    rcases List.mem_append.1 hx with hx | hx
    ·exact ka.out r' (List.mem_of_getElem? hr') x hx
    ·rcases List.mem_or_eq_of_mem_set hx with hx | rfl
     ·obtain rfl:=(List.mem_replicate.1 hx).2
      exact can_k Zt_can hraw
     ·exact can_k hy hraw
   have hEx:=Lib.hid (hE.out V0 (KR (n+n) B R) (some ⟨gW,0,none⟩) hM1 hM2 hMw hMk);have bw:=Lib.hid T.bel;clear T hRj hM1 hM2 hM3 hRl hMw hMk hlt hin hmk hFI rs1 hf1 hqr hE hkk hrow ka hQ1 h
   go_wp2_with fail
   refine hEx.out.mono ?_
   rintro e w3 ⟨gR,K,P,pc,A1,n1,c1,D1,m1,d1,A2,n2,c2,D2,m2,d2,rfl,hm2,hk2,hq2,hi2,x1,x2,b2⟩;unfold ecE;go_upto_region 13 with fail
   obtain⟨gF,hgF⟩:∃ g,g=w3.heap.size:=⟨_,rfl⟩;obtain⟨V,hV⟩:∃ W,W=w3.alloc (.cells #[.slice (some ⟨gR,0,none⟩) n n,.slice P S.p.length pc,.bool (ng l.num),.slice A1 n1 c1,.slice D1 m1 d1,.bool (ng S.f.num),.slice A2 n2 c2,.slice D2 m2 d2] 73):=⟨_,rfl⟩;have B2:Below w3.heap.size w3 V:=by rw[hV];exact (Below.refl _ _).alloc (Nat.le_refl _) _
   have hcb:Cb V gF (ecE gR n P S.p.length pc l A1 n1 c1 D1 m1 d1 S.f A2 n2 c2 D2 m2 d2) 73:=by rw[hV,hgF];exact Cb.new _ _ _
   have hEV:=Lib.hid (ec_env hcb (hm2.bel B2) hk2 (hi2.bel B2) (x1.below B2));replace bw:=Lib.hid (bw.out.trans ((b2.trans (B2.mono b2.size)).mono bw.out.size));rw[←hgF,←hV];have hRx:=hR.out V gF gR K P pc A1 n1 c1 D1 m1 d1 hEV.out hq2;replace hRx:=Lib.hid hRx;clear hV hgF hm2 hi2 x1 x2 b2 B2 hcb hR hEx hB;have u1:V.cell? ⟨gF,1,none⟩=some (.slice P S.p.length pc):=hEV.out.e1;rw[hpl.out] at u1
   by_cases hn0:n=0
   ·have hni:¬ (0<(n:Int)):=by omega
    have hrk1:rk n n (el Q)=n:=by
     have:=rk_rows (n:=n) (k:=n) (A:=el Q)
     omega
    replace hrk1:=Lib.hid hrk1;clear hsg hpl hn0
    go_wp2_with fail
    refine hRx.out.mono ?_
    rintro e w5 ⟨gI,B,R,ys,rs,rfl,hB,SI,KI⟩;have bwV:=bw;have SI0:Hid (St V w5 ((gI,((B.take 0).map (cutv n)++(B.drop 0).map (rowv (n+n))).toArray,46)::(List.zipWith rowb B R++ys)) rs):=Lib.hid SI;replace bw:=Lib.hid (bw.out.trans (SI.bel.mono bw.out.size));replace hB:=Lib.hid hB;replace KI:=Lib.hid KI;clear SI hRx u1 hEV;go_wp2
    go_loopw [65] (fun iv wr=>∃ i:Nat,i≤n∧iv=.int .i64 i∧St V wr ((gI,((B.take i).map (cutv n)++(B.drop i).map (rowv (n+n))).toArray,46)::(List.zipWith rowb B R++ys)) rs) (fun iv _=>n-(intOf iv).toNat)
    case atStart=>exact⟨0,Nat.zero_le _,rfl,SI0.out⟩
    case round=>
     clear SI0;obtain⟨i,hin,rfl,T⟩:=hrel;rename World=>V6
     by_cases hlt:i<n
     ·omega
     ·obtain rfl:n=i:=by omega
      rw[List.take_of_length_le (by rw[hB.out];exact Nat.le_refl _),List.drop_eq_nil_of_le (by rw[hB.out];exact Nat.le_refl _),List.map_nil,List.append_nil] at T
      obtain⟨m1_,m2_,m3_⟩:=KC_mat T KI.out hB.out;replace bw:=Lib.hid (bwV.out.trans (T.bel.mono bwV.out.size));replace m1_:=Lib.hid m1_;replace m2_:=Lib.hid m2_;replace m3_:=Lib.hid m3_;clear T hlt hin;go_wp2
      go_ret2
      exact .inl ⟨hrk1.out,_,_,_,_,rfl,m1_.out,fun r hr=>⟨by rw[(m2_.out r hr).1];omega,(m2_.out r hr).2⟩,m3_.out,by omega,bw.out⟩
   ·obtain⟨t,ht⟩:∃ t,n=t+1:=⟨n-1,by omega⟩
    have ei:(n:Int)-1=(t:Int):=by omega
    have hni:0<(n:Int):=by omega
    have htn:t<S.p.length:=by rw[hpl.out];omega
    have hir:=hEV.out.ir;obtain⟨bP,oP,pt,rfl,hp1,pc0⟩:=hir.get htn;have hs1:=hsg.out t ht;rw[List.getD_eq_getElem?_getD,hp1] at hs1
    have hs1:pt=t↔rk n n (el Q)=n:=hs1;have g6:(t:Int)<(n:Int):=by omega
    have g7:(0:Int)≤(t:Int):=by omega
    by_cases hpt:pt=t
    ·have hrk1:=Lib.hid (hs1.1 hpt)
     have hpi:(pt:Int)=(t:Int):=by rw[hpt]
     replace hpt:=Lib.hid hpt;replace ht:=Lib.hid ht;clear hsg hpl hn0 hs1 hp1 htn hir
     go_wp2_with fail
     refine hRx.out.mono ?_
     rintro e w5 ⟨gI,B,R,ys,rs,rfl,hB,SI,KI⟩;have bwV:=bw;have SI0:Hid (St V w5 ((gI,((B.take 0).map (cutv n)++(B.drop 0).map (rowv (n+n))).toArray,46)::(List.zipWith rowb B R++ys)) rs):=Lib.hid SI;replace bw:=Lib.hid (bw.out.trans (SI.bel.mono bw.out.size));replace hB:=Lib.hid hB;replace KI:=Lib.hid KI;clear SI hRx u1 hEV;go_wp2
     go_loopw [65] (fun iv wr=>∃ i:Nat,i≤n∧iv=.int .i64 i∧St V wr ((gI,((B.take i).map (cutv n)++(B.drop i).map (rowv (n+n))).toArray,46)::(List.zipWith rowb B R++ys)) rs) (fun iv _=>n-(intOf iv).toNat)
     case atStart=>exact⟨0,Nat.zero_le _,rfl,SI0.out⟩
     case round=>
      clear SI0;obtain⟨i,hin,rfl,T⟩:=hrel;rename World=>V6
      by_cases hlt:i<n
      ·have g8:(i:Int)<(n:Int):=by omega
       have g9:(0:Int)≤(i:Int):=by omega
       have hnp:0<n:=by omega
       have hiB:i<B.length:=by rw[hB.out];exact hlt
       have hcb:=(T.bk _ List.mem_cons_self).1;obtain⟨b,hb⟩:∃ b,b=B.getD i 0:=⟨_,rfl⟩;have e0:V6.cell? ⟨gI,i,none⟩=some (.slice (some ⟨b,0,none⟩) (n+n) (n+n)):=by rw[hb];exact hcb.cell (by rw[List.getElem?_toArray];exact cut_at (n:=n) hiB _ _)
       have f0:=hcb.frozen i;have T1:=T.set 0 i (cutv n b) rfl (by nofun)
       rw[hb] at T1
       change St V _ ((gI,((B.take i).map (cutv n)++(B.drop i).map (rowv (n+n))).toArray.setIfInBounds i (cutv n (B.getD i 0)),_)::_) _ at T1
       rw[cut_step (n:=n) hiB,←hb] at T1;replace T1:=Lib.hid T1;replace hb:=Lib.hid hb;clear T hcb hiB hlt hin;go_wp2
       go_roundw
       case rel=>exact⟨i+1,by omega,by go_num,T1.out⟩
       case measure=>simp[intOf];omega
      ·obtain rfl:n=i:=by omega
       rw[List.take_of_length_le (by rw[hB.out];exact Nat.le_refl _),List.drop_eq_nil_of_le (by rw[hB.out];exact Nat.le_refl _),List.map_nil,List.append_nil] at T
       obtain⟨m1_,m2_,m3_⟩:=KC_mat T KI.out hB.out;replace bw:=Lib.hid (bwV.out.trans (T.bel.mono bwV.out.size));replace m1_:=Lib.hid m1_;replace m2_:=Lib.hid m2_;replace m3_:=Lib.hid m3_;clear T hlt hin;go_wp2
       go_ret2
       exact .inl ⟨hrk1.out,_,_,_,_,rfl,m1_.out,fun r hr=>⟨by rw[(m2_.out r hr).1];omega,(m2_.out r hr).2⟩,m3_.out,by omega,bw.out⟩
    ·have hrk1:=Lib.hid (fun e=>hpt (hs1.2 e))
     have hpi:¬ ((pt:Int)=(t:Int)):=fun e=>hpt (by omega)
     replace ht:=Lib.hid ht;clear hsg hpl hn0 hs1 hp1 htn hir hRx hpt;go_wp2
     go_ret2
     exact .inr ⟨hrk1.out,none,0,0,[],rfl,⟨rfl,Nat.le_refl _,.inl rfl,fun r hr=>(by cases hr)⟩,fun r hr=>(by cases hr),rfl,by omega,bw.out⟩
end Go.Proofs.YthlinhconnmbcaaGreat
namespace Go.Proofs.YthlinhconnmbcaaGreat
open Go.RowKit RQ GE
set_option linter.unusedVariables false
theorem wfM_of {K:List Ro} {m:Nat} (h:∀ r∈K,r.n=m) (h1:1≤m) (h2:m≤96) (h3:K.length≤96):wfM K=true:=by
 unfold wfM;rw[Bool.and_eq_true];refine⟨decide_eq_true h3,List.all_eq_true.2 fun r hr=>?_⟩
 have hc:colM K=m:=by
  match K,hr with
  | s::_,_=>exact h s List.mem_cons_self
 unfold rowM;rw[hc,h r hr]
 simp[h1,h2]
theorem colM_of {K:List Ro} {m:Nat} (h:∀ r∈K,r.n=m) (h0:0<K.length):colM K=m:=by
 match K,h0 with
 | s::_,_=>exact h s List.mem_cons_self
end Go.Proofs.YthlinhconnmbcaaGreat
namespace Go.Proofs.YthlinhconnmbcaaGreat
open Go.RowKit RQ GE
set_option linter.unusedVariables false
def szChk (n k a d:Nat):Bool:=decide (d*k+a+d<1000000)&&decide ((zA (d*k+a) (n-1)).1≤1000000)&&decide ((zA (d*k+a) (n-1)).2.1≤1000000)&&decide (n*(d*k)<1000000)&&tzB (zA (d*k+a) (n-1)).1 (zA (d*k+a) (n-1)).2.1 n
theorem sz_of {n k a d:Nat} (h:szChk n k a d=true):SzE n k a d∧SzT n k a d:=by
 unfold szChk at h;simp only[Bool.and_eq_true,decide_eq_true_eq] at h;exact⟨⟨h.1.1.1.1,⟨h.1.1.1.2,h.1.1.2⟩,h.1.2⟩,tzO_of h.2⟩
theorem sz_tab:((List.range 5).all fun n=>(List.range 9).all fun k=>szChk n k 2 2)=true:=by kernel_rfl
theorem sz22 {n k:Nat} (hn:n≤4) (hk:k≤8):SzE n k 2 2∧SzT n k 2 2:=
 sz_of (List.all_eq_true.1 (List.all_eq_true.1 sz_tab n (List.mem_range.2 (by omega))) k (List.mem_range.2 (by omega)))
theorem pow5 {n b:Nat} (hn:n≤4) (hb:b≤14400):b*5^n≤9000000:=Nat.le_trans (Nat.mul_le_mul hb (Nat.pow_le_pow_right (by decide) hn)) (by decide)
section
variable {M:List Ro} {A:Option Addr} {n c:Nat}
structure Sml (M:List Ro) (n:Nat):Prop where
 hm:∀ r∈M,r.n≤9223372036854775807
 hn:n≤4
 ka:∀ r∈M,∀ x∈r.L,Rk x.b x.n x.x x.m x.y x.q
 rs:∀ r∈M,∀ x∈r.L,Rs x.q 2
 s2:∀ r∈M,∀ x∈r.L,S2 2 2 x.q
 k4:wfM M=true→colM M≤4
 rl:∀ r∈M,r.L.length=r.n
 ml:M.length=n
theorem Sml.rct (s:Sml M n) (hw:wfM M=true):GE.rct (colM M) (qM M)∧(qM M).length=n:=⟨fun q hq=>by
 obtain⟨r,hr,rfl⟩:=List.mem_map.1 hq;rw[List.length_map,s.rl r hr];exact (wf_row hw hr).2.2,by unfold qM;rw[List.length_map];exact s.ml⟩
end
end Go.Proofs.YthlinhconnmbcaaGreat
namespace Go.Proofs.YthlinhconnmbcaaGreat
open Go.RowKit RQ GE
set_option linter.unusedVariables false
def pAt (ps:List Nat) (j a:Nat):Prop:=a≤ps.length∧(∀ t (h:t<ps.length),t<a→ps[t]<j)∧∀ t (h:t<ps.length),a≤t→j≤ps[t]
theorem pAt.mem {ps:List Nat} {j a:Nat} (h:pAt ps j a) (hs:ps.Pairwise (· < ·)):j∈ps↔ps[a]?=some j:=by
 constructor
 ·intro hm
  obtain⟨t,ht,e⟩:=List.getElem_of_mem hm;have h1:a≤t:=by
   rcases Nat.lt_or_ge t a with g | g
   ·have:=h.2.1 t ht g;omega
   ·exact g
  rcases Nat.lt_or_ge a t with g | g
  ·have h2:=h.2.2 a (by omega) (Nat.le_refl _)
   have h3:=List.pairwise_iff_getElem.1 hs a t (by omega) ht g
   omega
  ·obtain rfl:a=t:=by omega
   rw[List.getElem?_eq_getElem ht,e]
 ·intro e
  exact List.mem_of_getElem? e
theorem pAt.step {ps:List Nat} {j a:Nat} (h:pAt ps j a) (hs:ps.Pairwise (· < ·)):(ps[a]?=some j→pAt ps (j+1) (a+1))∧(ps[a]?≠some j→pAt ps (j+1) a):=by
 refine⟨fun e=>?_,fun e=>⟨h.1,fun t ht g=>Nat.lt_succ_of_lt (h.2.1 t ht g),fun t ht g=>?_⟩⟩
 ·obtain⟨ha,e⟩:=List.getElem?_eq_some_iff.1 e
  refine⟨ha,fun t ht g=>?_,fun t ht g=>?_⟩
  ·rcases Nat.lt_or_ge t a with g' | g'
   ·exact Nat.lt_succ_of_lt (h.2.1 t ht g')
   ·obtain rfl:t=a:=by omega
    omega
  ·have:=List.pairwise_iff_getElem.1 hs a t ha ht (by omega)
   omega
 ·have h1:=h.2.2 t ht g
  rcases Nat.lt_or_ge a t with g' | g'
  ·have h2:=h.2.2 a (by omega) (Nat.le_refl _)
   have h3:=List.pairwise_iff_getElem.1 hs a t (by omega) ht g'
   omega
  ·obtain rfl:a=t:=by omega
   rcases Nat.lt_or_ge j ps[a] with g2 | g2
   ·exact g2
   ·exact absurd (by rw[List.getElem?_eq_getElem ht];congr 1;omega) e
end Go.Proofs.YthlinhconnmbcaaGreat
namespace Go.Proofs.YthlinhconnmbcaaGreat
open Go.RowKit RQ GE
set_option linter.unusedVariables false
theorem Sr.one {W:World} {b o n c i:Nat} {L:List Rt} {x:Rt} (h:Sr W (some ⟨b,o,none⟩) n c L) (hi:L[i]?=some x):Sr W (some ⟨b,o+i*3,none⟩) 1 (c-i) [x]:=by
 have hin:i<n:=by rw[←h.len];exact (List.getElem?_eq_some_iff.1 hi).1
 have hc:=h.cap;refine⟨rfl,by omega,?_,fun r hr=>by rw[List.mem_singleton.1 hr];exact h.rd x (List.mem_of_getElem? hi)⟩
 rcases h.mem with h0 | ⟨b',o',hA,hlt,hc⟩
 ·omega
 ·right
  obtain⟨rfl,rfl⟩:b=b'∧o=o':=by simp only[Option.some.injEq,Addr.mk.injEq] at hA;exact⟨hA.1,hA.2.1⟩
  refine⟨b,o+i*3,rfl,hlt,fun j r hj=>?_⟩
  match j,hj with
  | 0,hj=>
   obtain rfl:=Option.some.inj hj;rw[Nat.zero_mul,Nat.add_zero];exact hc _ _ hi
end Go.Proofs.YthlinhconnmbcaaGreat
namespace GE
def Tw (m B:Nat) (q:Rat):Prop:=∃ z:Int,q*(m:Rat)=(z:Rat)∧z.natAbs≤B
theorem Tw.mono {m B C:Nat} {q:Rat} (h:Tw m B q) (hc:B≤C):Tw m C q:=by
 obtain⟨z,h1,h2⟩:=h;exact⟨z,h1,Nat.le_trans h2 hc⟩
theorem Tw.zero {m B:Nat}:Tw m B 0:=⟨0,by rw[Rat.zero_mul];rfl,Nat.zero_le _⟩
theorem Tw.add {m B C:Nat} {q r:Rat} (h:Tw m B q) (g:Tw m C r):Tw m (B+C) (q+r):=by
 obtain⟨z,h1,h2⟩:=h;obtain⟨y,g1,g2⟩:=g;refine⟨z+y,?_,Nat.le_trans (Int.natAbs_add_le z y) (by omega)⟩
 rw[Rat.add_mul,h1,g1,Rat.intCast_add]
theorem Tw.mul {m k B C:Nat} {q r:Rat} (h:Tw m B q) (g:Tw k C r):Tw (m*k) (B*C) (q*r):=by
 obtain⟨z,h1,h2⟩:=h;obtain⟨y,g1,g2⟩:=g;refine⟨z*y,?_,by rw[Int.natAbs_mul];exact Nat.mul_le_mul h2 g2⟩
 rw[Rat.intCast_mul,←h1,←g1,Rat.natCast_mul]
 grind
theorem Tw.sm {m B:Nat} {f:Nat→Rat}:∀ {n:Nat},(∀ i<n,Tw m B (f i))→Tw m (n*B) (sm f n)
 | 0,_=>by rw[Nat.zero_mul];exact Tw.zero
 | n+1,h=>by
  rw[Nat.add_mul,Nat.one_mul];exact (Tw.sm fun i hi=>h i (by omega)).add (h n (by omega))
theorem Tw.nd {m B:Nat} {q:Rat} (hm:1≤m) (h:Tw m B q):q.num.natAbs≤B∧q.den≤m:=by
 obtain⟨z,h1,h2⟩:=h;have h9:(q.den:Rat)≠0:=fun h=>q.den_nz (by exact_mod_cast h)
 have e0:q*(q.den:Rat)=(q.num:Rat):=by
  have h8:Rat.divInt q.num q.den=q:=Rat.num_divInt_den q;rw[Rat.divInt_eq_div] at h8;have h7:(q.num:Rat) / (q.den:Rat)=q:=h8
  grind
 have e1:(q.num:Rat)*(m:Rat)=(z:Rat)*(q.den:Rat):=by rw[←e0,←h1];grind
 have e2:q.num*(m:Int)=z*(q.den:Int):=by
  have:((q.num*(m:Int):Int):Rat)=((z*(q.den:Int):Int):Rat):=by
   rw[Rat.intCast_mul,Rat.intCast_mul];exact e1
  exact Rat.intCast_inj.1 this
 have e3:q.num.natAbs*m=z.natAbs*q.den:=by
  have:=congrArg Int.natAbs e2
  rwa [Int.natAbs_mul,Int.natAbs_mul,Int.natAbs_natCast,Int.natAbs_natCast] at this
 have d1:q.den∣m:=q.reduced.symm.dvd_of_dvd_mul_left ⟨z.natAbs,by rw[e3,Nat.mul_comm]⟩
 have d2:q.num.natAbs∣z.natAbs:=q.reduced.dvd_of_dvd_mul_right ⟨m,e3.symm⟩;refine⟨?_,Nat.le_of_dvd hm d1⟩
 rcases Nat.eq_zero_or_pos z.natAbs with h0 | h0
 ·rw[h0,Nat.zero_mul] at e3
  rcases Nat.mul_eq_zero.1 e3 with h | h<;>omega
 ·exact Nat.le_trans (Nat.le_of_dvd h0 d2) h2
theorem Tw.s2 {m B:Nat} {q:Rat} (hm:1≤m) (h:Tw m B q) (h1:B≤4294967296) (h2:m≤4294967296):S2 1 1 q:=by
 have:=h.nd hm;exact⟨by rw[Nat.pow_one];omega,by rw[Nat.pow_one];omega⟩
def mNum (v:Int):Rat:=Rat.divInt (v%61-30) (v.tdiv 61%4+1)
theorem tw_div {z:Int} {d:Int} (h:d=1∨d=2∨d=3∨d=4) (hz:z.natAbs≤30):Tw 12 360 (Rat.divInt z d):=by
 rcases h with rfl | rfl | rfl | rfl
 ·exact⟨z*12,by rw[Rat.divInt_eq_div,Rat.intCast_mul];grind,by omega⟩
 ·exact⟨z*6,by rw[Rat.divInt_eq_div,Rat.intCast_mul];grind,by omega⟩
 ·exact⟨z*4,by rw[Rat.divInt_eq_div,Rat.intCast_mul];grind,by omega⟩
 ·exact⟨z*3,by rw[Rat.divInt_eq_div,Rat.intCast_mul];grind,by omega⟩
theorem mNum_tw (v:Int):Tw 12 360 (mNum v):=tw_div (by omega) (by omega)
def mdF (k:Nat) (l:List Int) (i j:Nat):Rat:=mNum (l.getD (i*k+j) 0)
def mdQ (n k:Nat) (l:List Int):List (List Rat):=mk n k (mdF k l)
theorem mdF_tw {k:Nat} {l:List Int} {i j:Nat}:Tw 12 360 (mdF k l i j):=mNum_tw _
theorem rk_congr {n k:Nat} {A B:Nat→Nat→Rat} (h:∀ i<n,∀ j<k,A i j=B i j):rk n k A=rk n k B:=by
 unfold rk pv;rw[mk_congr h]
theorem dE_congr {n:Nat} {A B:Nat→Nat→Rat} (h:∀ i<n,∀ j<n,A i j=B i j):dE n A=dE n B:=by
 unfold dE;rw[rk_congr h,mk_congr h]
theorem mk_all {n k:Nat} {A:Nat→Nat→Rat} {P:Rat→Prop} (h:∀ i j,P (A i j)):∀ r∈mk n k A,∀ q∈r,P q:=by
 intro r hr q hq;unfold mk at hr;obtain⟨i,_,rfl⟩:=List.mem_map.1 hr;obtain⟨j,_,rfl⟩:=List.mem_map.1 hq;exact h i j
end GE
namespace Go.Proofs.YthlinhconnmbcaaGreat
open Go.RowKit RQ GE
set_option linter.unusedVariables false
theorem mmod_eq (k n:Int) (h0:0<n):k%n=if k.tmod n<0 then k.tmod n+n else k.tmod n:=by
 have e1:=Int.tmod_add_mul_tdiv k n;have l1:k.tmod n<n:=Int.tmod_lt_of_pos k h0;have l2 : -n<k.tmod n:=Int.lt_tmod_of_pos k h0
 split
 ·rename_i h
  have:k=(k.tmod n+n)+n*(k.tdiv n-1):=by rw[Int.mul_sub];omega
  conv=>lhs;rw[this]
  rw[Int.add_mul_emod_self_left];exact Int.emod_eq_of_lt (by omega) (by omega)
 ·rename_i h
  conv=>lhs;rw[←e1]
  rw[Int.add_mul_emod_self_left];exact Int.emod_eq_of_lt (by omega) l1
theorem mmod_any (k n:Int) (w:World) (h0:0<n) (h1:n≤100000):Calls Tryz.prog 28 #[.int .i64 k,.int .i64 n] w fun e w'=>e=.returned (.int .i64 (k%n))∧w'=w:=by
 rw[mmod_eq k n h0];have l1:k.tmod n<n:=Int.tmod_lt_of_pos k h0;have l2 : -n<k.tmod n:=Int.lt_tmod_of_pos k h0;have g0:¬ n=0:=by omega
 have w1:∀ m:Int,-n<m→m<0→wrap64 (m+n)=m+n:=fun m h2 h3=>by unfold wrap64;omega
 by_cases hm:k.tmod n<0
 ·rw[if_pos hm,←w1 _ l2 hm]
  clear w1 l1 l2;go_enter Tryz.func28,Tryz.ntmps28;go_wp2;go_ret;exact⟨rfl,rfl⟩
 ·rw[if_neg hm]
  clear w1 l1 l2;go_enter Tryz.func28,Tryz.ntmps28;go_wp2;go_ret;exact⟨rfl,rfl⟩
end Go.Proofs.YthlinhconnmbcaaGreat
namespace Go.Proofs.YthlinhconnmbcaaGreat
open Go.RowKit RQ
theorem res_rfrac (W:World) (tmps:Array Value) (g t:Nat) {v0 v1 v2:Value} (ht:tmps.getD 4 undef=.pointer (some ⟨g,0,none⟩)) (h:Cb W g #[v0,v1,v2] t) :
  (results Tryz.f58 tmps).run Tryz.prog W=.ok (.agg #[v0,v1,v2]) W:=by
 have c0:W.cell? ⟨g,0,none⟩=some v0:=h.cell rfl;have c1:W.cell? ⟨g,1,none⟩=some v1:=h.cell rfl;have c2:W.cell? ⟨g,2,none⟩=some v2:=h.cell rfl;have ht':tmps[4]?.getD undef=.pointer (some ⟨g,0,none⟩):=by rw[←ht];simp[Array.getD_eq_getD_getElem?]
 simp[results,Tryz.results58,go_sem,ht',c0,c1,c2]
theorem rfrac_any (u v:Int) (w:World) (h1 : -9223372036854775808≤u∧u≤9223372036854775807) (h2 : -9223372036854775808≤v∧v≤9223372036854775807) (hv:v≠0):Calls Tryz.prog 58 #[.int .i64 u,.int .i64 v] w (RetR (Rat.divInt u v) w):=by
 have hF1:=Lib.hid (fun W=>rfromInt_any u W h1.1 h1.2)
 have hF2:=Lib.hid (fun W=>rfromInt_any v W h2.1 h2.2)
 have lu:(limbs u.natAbs).length≤2:=limbs_len_le.2 (by omega)
 have lv:(limbs v.natAbs).length≤2:=limbs_len_le.2 (by omega)
 have hO:Hid (∀ W A n c A' n' c',Rd W A n c (limbs u.natAbs)→Rd W A' n' c' (limbs v.natAbs)→Calls Tryz.prog 45 #[.agg #[.bool (ng u),.slice A n c],.agg #[.bool (ng v),.slice A' n' c']] W (RetR (Rat.divInt u v) W)):=Lib.hid fun W A n c A' n' c' q1 q2=>rover_any u v A n c A' n' c' W q1 q2 (by rw[←q1.len];omega) (by rw[←q2.len];omega) hv
 generalize Rat.divInt u v=q at *;clear lu lv h1 h2 hv;have S:=((St.new w).allocAt (w.heap.size) #[.bool false,.slice none 0 0,.slice none 0 0] 33 (noL3 _ _ _ _ _ _ _) (by simp))
 replace S:=Lib.hid S;go_enter Tryz.func58,Tryz.ntmps58
 go_wp2_with fail
 refine (hF1.out _).mono ?_
 rintro e w1 ⟨A1,n1,c1,rfl,Q1,bb⟩;have T:=((S.out.call bb).read Q1);clear bb S;have S:=T;clear T;obtain⟨c_r0,c_r1,c_r2,f_r0,f_r1,f_r2⟩:=S.cf3 0 rfl;have hz:w.heap.size<w1.heap.size:=S.lt 0 rfl;replace S:=Lib.hid S;clear Q1 hF1
 go_wp2_with fail
 refine (hF2.out _).mono ?_
 rintro e w2 ⟨A2,n2,c2,rfl,Q2,bb⟩;have T:=((S.out.call bb).read Q2);clear bb S c_r0 f_r0 c_r1 f_r1 c_r2 f_r2 hz;have S:=T;clear T;obtain⟨c_r0,c_r1,c_r2,f_r0,f_r1,f_r2⟩:=S.cf3 0 rfl;have hz:w.heap.size<w2.heap.size:=S.lt 0 rfl;replace S:=Lib.hid S;clear Q2 hF2
 go_wp2_with fail
 refine (hO.out _ _ _ _ _ _ _ (S.out.r 1 rfl) (S.out.r 0 rfl)).mono ?_
 rintro e w3 ⟨A9,n9,c9,D9,m9,d9,rfl,Q9,bb⟩;have T:=(((S.out.call bb).read Q9.n).read Q9.d);clear bb S c_r0 f_r0 c_r1 f_r1 c_r2 f_r2 hz;have S:=T;clear T;obtain⟨c_r0,c_r1,c_r2,f_r0,f_r1,f_r2⟩:=S.cf3 0 rfl;have hz:w.heap.size<w3.heap.size:=S.lt 0 rfl;replace S:=Lib.hid S;clear Q9 hO;have S:St w _ [(w.heap.size,#[.bool (ng q.num),.slice A9 n9 c9,.slice D9 m9 d9],33)] [(D9,m9,d9,dn q),(A9,n9,c9,limbs q.num.natAbs),(A2,n2,c2,limbs v.natAbs),(A1,n1,c1,limbs u.natAbs)]:=(((S.out.set 0 0 (.bool (ng q.num)) rfl (by nofun)).set 0 1 (.slice A9 n9 c9) rfl (by nofun)).set 0 2 (.slice D9 m9 d9) rfl (by nofun))
 replace S:=Lib.hid S;go_wp2;refine bodyPost_ret (res_rfrac _ _ (w.heap.size) 33 rfl (S.out.bk _ (List.mem_of_getElem? (i:=0) rfl)).1) rfl ?_
 exact⟨_,_,_,_,_,_,rfl,⟨S.out.r 1 rfl,S.out.r 0 rfl⟩,S.out.bel⟩
end Go.Proofs.YthlinhconnmbcaaGreat
