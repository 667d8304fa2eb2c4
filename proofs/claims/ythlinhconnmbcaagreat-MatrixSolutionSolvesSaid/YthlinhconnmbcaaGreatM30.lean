/- joined of matrix. -/
import Derived.Laws.CopyRow
import Derived.Test.YthlinhconnmbcaaGreatM29
import Derived.Test.YthlinhconnmbcaaGreatB18
set_option maxRecDepth 100000
set_option maxHeartbeats 40000000
set_option linter.unusedVariables false
namespace Go.Proofs.YthlinhconnmbcaaGreat
open Go.RowKit RQ GE
set_option linter.unusedVariables false
theorem sr_cells {W:World} {b o n c:Nat} {L:List Rt} (h:Sr W (some ⟨b,o,none⟩) n c L) (hn:0<n):∀ j v,(csE L)[j]?=some v→W.cell? ((⟨b,o,none⟩:Addr).add j)=some v:=by
 intro j v hv;have hadd:(⟨b,o,none⟩:Addr).add j=⟨b,o+j,none⟩:=by unfold Addr.add;split<;>simp_all
 rw[hadd]
 rcases h.mem with h0 | ⟨b',o',hA,hlt,hc⟩
 ·omega
 ·obtain⟨rfl,rfl⟩:b=b'∧o=o':=by simp only[Option.some.injEq,Addr.mk.injEq] at hA;exact⟨hA.1,hA.2.1⟩
  have hj:j<L.length*3:=by rw[←csE_len];exact (List.getElem?_eq_some_iff.1 hv).1
  have h3:=Nat.div_add_mod j 3;have hm:=Nat.mod_lt j (show 0<3 by decide)
  have hi:j / 3<L.length:=by omega
  have hx:L[j / 3]?=some L[j / 3]:=List.getElem?_eq_getElem hi
  obtain⟨e0,e1,e2⟩:=csE_get hx;obtain⟨k0,k1,k2⟩:=hc _ _ hx;have hcs:j%3=0∨j%3=1∨j%3=2:=by omega
  rcases hcs with h | h | h
  ·rw[show j=j / 3*3 by omega] at hv ⊢
   rw[e0] at hv;rw[k0];exact hv
  ·rw[show j=j / 3*3+1 by omega] at hv ⊢
   rw[e1] at hv;rw[←Nat.add_assoc,k1];exact hv
  ·rw[show j=j / 3*3+2 by omega] at hv ⊢
   rw[e2] at hv;rw[←Nat.add_assoc,k2];exact hv
theorem csE_one (L:List Rt):∀ v∈csE L,v.oneCell'=true:=by
 intro v hv;obtain⟨r,_,hr⟩:=List.mem_flatMap.1 hv
 simp[Rt.cs] at hr
 rcases hr with rfl | rfl | rfl<;>rfl
theorem run_copy_rat (w:World) (g o dLen dCap b sOff sLen sCap:Nat) (cur:Array Value) (t:Nat) (L:List Rt) (hg:w.heap[g]?=some (.cells cur t (0,0))) (hn:Nat.min sLen dLen=sLen) (h:Sr w (some ⟨b,sOff,none⟩) sLen sCap L) (h0:0<sLen) (hfit:o+sLen*3≤cur.size) :
  (Builtin.copy_ #[46,46] 3 #[.slice (some ⟨g,o,none⟩) dLen dCap,.slice (some ⟨b,sOff,none⟩) sLen sCap]).run Tryz.prog w=.ok (goInt sLen) (w.setRow g (cur.toList.take o++csE L++cur.toList.drop (o+sLen*3)).toArray):=by
 have hlen:(csE L).length=sLen*3:=by rw[csE_len,h.len]
 have hl:=run_loadCells_list (P:=Tryz.prog) w ⟨b,sOff,none⟩ (csE L) (sr_cells h h0);have hst:=run_storeCells_at Tryz.prog g o t (csE L) 0 cur w hg (by rw[hlen];simpa using hfit) (csE_one L)
 rw[hlen] at hl hst;obtain⟨i0,hi,hzz⟩:=Option.map_eq_some_iff.1 infoR;simp only[Prod.mk.injEq] at hzz;obtain⟨hz0,hz1,hz2⟩:=hzz
 simp[Builtin.copy_,run_underlying Tryz.underlying46,Builtin.lenOf,Builtin.firstCells,sizeOf,typeInfo,hi,hz1,hn,hl,hst]
theorem csE_drop:∀ (L:List Rt) (p:Nat),(csE L).drop (p*3)=csE (L.drop p)
 | _,0=>by rw[Nat.zero_mul,List.drop_zero,List.drop_zero]
 | [],p+1=>by show List.drop _ []=_;rw[List.drop_nil];rfl
 | r::L,p+1=>by
  show ([Value.bool r.b,.slice r.A r.n r.c,.slice r.D r.m r.d]++csE L).drop ((p+1)*3)=csE (L.drop p)
  rw[←csE_drop L p,show (p+1)*3=[Value.bool r.b,.slice r.A r.n r.c,.slice r.D r.m r.d].length+p*3 by show _=3+p*3;omega,←List.drop_drop,List.drop_left]
def RetJ (L:List Rt) (n:Nat) (w:World) (e:Ending) (w':World):Prop:=∃ g,e=.returned (.slice (some ⟨g,0,none⟩) n n)∧w.heap.size≤g∧Cb w' g (csE L).toArray 33∧L.length=n∧Below w.heap.size w w'
theorem join1 {La Z:List Rt} {p m:Nat} (hp:La.length=p) (hz:Z.length=m):(csE Z).toArray.toList.take 0++csE La++(csE Z).toArray.toList.drop (0+p*3)=csE (La++Z.drop p):=by
 rw[List.toList_toArray,List.take_zero,List.nil_append,Nat.zero_add,csE_app,csE_drop]
theorem join2 {La Lb R:List Rt} {p q:Nat} (hp:La.length=p) (hq:Lb.length=q) (hR:R.length=q):(csE (La++R)).toArray.toList.take (p*3)++csE Lb++(csE (La++R)).toArray.toList.drop (p*3+q*3)=csE (La++Lb):=by
 rw[List.toList_toArray,csE_app,csE_app];have l1:(csE La).length=p*3:=by rw[csE_len,hp]
 rw[List.take_append_of_le_length (by omega),List.take_of_length_le (by omega),List.drop_eq_nil_of_le (by rw[List.length_append,l1,csE_len,hR];omega),List.append_nil]
theorem joined_any (La Lb:List Rt) (A B:Option Addr) (p q c c':Nat) (w:World) (h:Sr w A p c La) (h':Sr w B q c' Lb) (p0:0<p) (q0:0<q) (p1:p≤1000) (q1:q≤1000):Calls Tryz.prog 50 #[.slice A p c,.slice B q c'] w (RetJ (La++Lb) (p+q) w):=by
 obtain⟨b,o,rfl⟩:∃ b o,A=some ⟨b,o,none⟩:=by
  obtain⟨b,o,_,hA,_⟩:=h.get p0;exact⟨b,o,hA⟩
 obtain⟨b2,o2,rfl⟩:∃ b o,B=some ⟨b,o,none⟩:=by
  obtain⟨b,o,_,hA,_⟩:=h'.get q0;exact⟨b,o,hA⟩
 have hmk:∀ w,(Instr.makeSlice 46 (.int .i64 ((p:Int)+(q:Int))) (.int .i64 ((p:Int)+(q:Int)))).run Tryz.prog w=.ok (.slice (some ⟨w.heap.size,0,none⟩) (p+q) (p+q)) (w.alloc (.cells (csE (List.replicate (p+q) Zt)).toArray 33)):=fun w=>by
  have:=make_rat (p+q) (by omega) w
  rwa [Int.natCast_add] at this
 have S0:=Lib.hid ((St.new w).allocAt w.heap.size (csE (List.replicate (p+q) Zt)).toArray 33 (NoLl.csE _).arr rfl);replace h:=Lib.hid h;replace h':=Lib.hid h';have hp0:=Lib.hid p0;have hq0:=Lib.hid q0;go_enter Tryz.func50,Tryz.ntmps50;go_upto_region 2 with fail
 obtain⟨g,hg⟩:∃ g,g=w.heap.size:=⟨_,rfl⟩;obtain⟨W1,hW1⟩:∃ W,W=w.alloc (.cells (csE (List.replicate (p+q) Zt)).toArray 33):=⟨_,rfl⟩;rw[←hg,←hW1] at S0 ⊢;clear hW1;have hb1:=S0.out.bk _ List.mem_cons_self;have c1:=run_copy_rat W1 g 0 (p+q) (p+q) b o p c _ _ La hb1.1 (Nat.min_eq_left (by omega)) (h.out.bel S0.out.bel) p0 (by rw[List.size_toArray,csE_len,List.length_replicate];omega)
 have S1:=S0.out.setRow (cs':=(csE (La++(List.replicate (p+q) Zt).drop p)).toArray) (NoLl.csE _).arr;rw[join1 h.out.len (List.length_replicate)] at c1;obtain⟨W2,hW2⟩:∃ W,W=W1.setRow g (csE (La++(List.replicate (p+q) Zt).drop p)).toArray:=⟨_,rfl⟩;rw[←hW2] at c1 S1;have hb2:=S1.bk _ List.mem_cons_self;have c2:=run_copy_rat W2 g (p*3) q q b2 o2 q c' _ _ Lb hb2.1 (Nat.min_eq_left (by omega)) (h'.out.bel S1.bel) q0 (by rw[List.size_toArray,csE_len,List.length_append,List.length_drop,List.length_replicate,h.out.len];omega)
 have S2:=S1.setRow (cs':=(csE (La++Lb)).toArray) (NoLl.csE _).arr;rw[join2 h.out.len h'.out.len (by rw[List.length_drop,List.length_replicate];omega)] at c2
 obtain⟨W3,hW3⟩:∃ W,W=W2.setRow g (csE (La++Lb)).toArray:=⟨_,rfl⟩;rw[←hW3] at c2 S2;replace S2:=Lib.hid S2;have hlen:Hid ((La++Lb).length=p+q):=Lib.hid (by rw[List.length_append,h.out.len,h'.out.len])
 clear S1 S0 hb1 hb2 hW2 hW3 hmk h h' hg;go_wp2;go_ret;exact⟨g,rfl,(S2.out.bk _ List.mem_cons_self).2.2,(S2.out.bk _ List.mem_cons_self).1,hlen.out,S2.out.bel⟩
end Go.Proofs.YthlinhconnmbcaaGreat
namespace Go.Proofs.YthlinhconnmbcaaGreat
open Go.RowKit RQ GE
set_option linter.unusedVariables false
def Wm (w W:World) (g n:Nat) (B:List Nat) (m:Nat) (R:List (List Rt)) (zs:List Bk):Prop:=
 ∃ (ys:List Bk) (rs:List Rdg),St w W (MB g (B.map (rowv m)++List.replicate (n-B.length) (.slice none 0 0)) B R++(zs++ys)) rs∧R.length=B.length∧(∀ L∈R,L.length=m)∧∀ L∈R,∀ x∈L,x.rdIn rs
section
variable {w W W':World} {g n m:Nat} {B:List Nat} {R:List (List Rt)} {zs:List Bk}
theorem Wm.call (h:Wm w W g n B m R zs) (hb:Below W.heap.size W W'):Wm w W' g n B m R zs:=by
 obtain⟨ys,rs,S,h⟩:=h;exact⟨ys,rs,S.call hb,h⟩
theorem Wm.bel (h:Wm w W g n B m R zs):Below w.heap.size w W:=by
 obtain⟨ys,rs,S,h⟩:=h;exact S.bel
theorem Wm.len (h:Wm w W g n B m R zs):R.length=B.length:=by
 obtain⟨ys,rs,S,h,_⟩:=h;exact h
theorem Wm.start (S:St w W [(g,(csR (List.replicate n Ro0)).toArray,46)] []):Wm w W g n [] m [] []:=by
 refine⟨[],[],?_,rfl,fun L hL=>(by cases hL),fun L hL=>(by cases hL)⟩
 have e:csR (List.replicate n Ro0)=([]:List Nat).map (rowv m)++List.replicate (n-([]:List Nat).length) (.slice none 0 0):=by
  unfold csR;rw[List.map_replicate];rfl
 rw[e] at S;exact S
theorem Wm.own {h0:Nat} (h:Wm w W g n B m R zs) (hb:Below W.heap.size W W') {t:Nat} {cs:Array Value} (hg:W.heap.size≤h0) (hc:Cb W' h0 cs t) (hn:NoL cs):Wm w W' g n B m R ((h0,cs,t)::zs):=by
 obtain⟨ys,rs,S,h⟩:=h;exact⟨ys,rs,(St_own S hb hg hc hn).prm List.perm_middle.symm,h⟩
theorem Wm.nil (h:Wm w W g n B m R zs) (hi:B.length<n):W.cell? ⟨g,B.length,none⟩=some (.slice none 0 0)∧∀ k,W.frozen? ⟨g,k,none⟩=false:=by
 obtain⟨ys,rs,S,h⟩:=h;refine MB_cell S ?_
 rw[List.getElem?_append_right (by rw[List.length_map];exact Nat.le_refl _),List.length_map,Nat.sub_self,List.getElem?_replicate,if_pos (by omega)]
theorem Wm.row {h0:Nat} {L:List Rt} (h:Wm w W g n B m R ((h0,(csE L).toArray,33)::zs)) (hi:B.length<n) (hL:L.length=m) (hx:∀ x∈L,x.raw W):Wm w (W.setCell ⟨g,B.length,none⟩ (.slice (some ⟨h0,0,none⟩) m m)) g n (B++[h0]) m (R++[L]) zs:=by
 obtain⟨ys,rs,S,hl,hm,hr⟩:=h;have S1:=St_rds S hx;have S2:=S1.prm (bs':=(g,(B.map (rowv m)++List.replicate (n-B.length) (Value.slice none 0 0)).toArray,46)::(List.zipWith rowb (B++[h0]) (R++[L])++(zs++ys))) (by
  rw[List.zipWith_append (by rw[hl])]
  show ((g,_)::(List.zipWith rowb B R++(rowb h0 L::(zs++ys)))).Perm ((g,_)::((List.zipWith rowb B R++[rowb h0 L])++(zs++ys)))
  rw[List.append_assoc];exact List.Perm.refl _)
 have S3:=S2.set 0 B.length (.slice (some ⟨h0,0,none⟩) m m) rfl (by nofun)
 have hV:((B.map (rowv m)++List.replicate (n-B.length) (Value.slice none 0 0)).toArray.setIfInBounds B.length (.slice (some ⟨h0,0,none⟩) m m))=((B++[h0]).map (rowv m)++List.replicate (n-(B++[h0]).length) (Value.slice none 0 0)).toArray:=by
  rw[List.setIfInBounds_toArray,List.set_append_right _ _ (by rw[List.length_map];exact Nat.le_refl _),List.length_map,Nat.sub_self,List.length_append,List.length_singleton,List.map_append]
  rw[show n-B.length=(n-(B.length+1))+1 by omega,List.replicate_succ,List.set_cons_zero,List.append_assoc]
  rfl
 rw[hV] at S3;refine⟨ys,_,S3,by rw[List.length_append,List.length_append,hl];rfl,fun L' h'=>?_,fun L' h' x hx'=>?_⟩
 ·rcases List.mem_append.1 h' with h' | h'
  ·exact hm L' h'
  ·rw[List.mem_singleton.1 h'];exact hL
 ·rcases List.mem_append.1 h' with h' | h'
  ·exact⟨List.mem_append_right _ (hr L' h' x hx').1,List.mem_append_right _ (hr L' h' x hx').2⟩
  ·rw[List.mem_singleton.1 h'] at hx'
   exact rdsOf_in hx'
theorem Wm.mat (h:Wm w W g n B m R zs) (hn:B.length=n):Mr W (some ⟨g,0,none⟩) n n (KR m B R)∧(∀ r∈KR m B R,r.n=m)∧qM (KR m B R)=R.map (fun L=>L.map (·.q)):=by
 obtain⟨ys,rs,S,hl,hm,hr⟩:=h;rw[hn,Nat.sub_self,List.replicate_zero,List.append_nil] at S;refine⟨⟨?_,Nat.le_refl _,.inr ⟨g,0,rfl,(S.bk (g,(B.map (rowv m)).toArray,46) (List.mem_append_left _ List.mem_cons_self)).1.lt,fun i r hi=>?_⟩,fun r hr'=>?_⟩,fun r hr'=>?_,KR_q hl⟩
 ·unfold KR;rw[List.length_zipWith,hl,Nat.min_self,hn]
 ·obtain⟨b,L,hb,hL,rfl⟩:=KR_of hi
  rw[Nat.zero_add];exact (MB_cell S (v:=rowv m b) (by rw[List.getElem?_map,hb];rfl)).1
 ·obtain⟨i,hi⟩:=List.getElem?_of_mem hr'
  obtain⟨b,L,hb,hL,rfl⟩:=KR_of hi;have hLm:=List.mem_of_getElem? hL;exact St_srm S (g:=b) (t:=33) ((MB_perm hb hL).mem_iff.2 List.mem_cons_self) (hm L hLm) (hr L hLm)
 ·obtain⟨i,hi⟩:=List.getElem?_of_mem hr'
  obtain⟨b,L,hb,hL,rfl⟩:=KR_of hi
  rfl
end
theorem Sr.cut {W:World} {b n c:Nat} {L:List Rt} (h:Sr W (some ⟨b,0,none⟩) (n+n) c L):Sr W (some ⟨b,n*3,none⟩) n n (L.drop n):=by
 refine⟨by rw[List.length_drop,h.len];omega,Nat.le_refl _,?_,fun r hr=>h.rd r (List.mem_of_mem_drop hr)⟩
 rcases h.mem with h0 | ⟨b',o',hA,hlt,hc⟩
 ·left;omega
 ·right
  obtain⟨rfl,rfl⟩:b=b'∧0=o':=by simp only[Option.some.injEq,Addr.mk.injEq] at hA;exact⟨hA.1,hA.2.1⟩
  refine⟨b,n*3,rfl,hlt,fun i r hi=>?_⟩
  rw[List.getElem?_drop] at hi
  obtain⟨k0,k1,k2⟩:=hc _ _ hi;rw[Nat.zero_add,show (n+i)*3=n*3+i*3 by omega] at k0 k1 k2
  exact⟨k0,k1,k2⟩
end Go.Proofs.YthlinhconnmbcaaGreat
namespace Go.Proofs.YthlinhconnmbcaaGreat
open Go.RowKit RQ GE
set_option linter.unusedVariables false
theorem wfM_of {K:List Ro} {m:Nat} (h:∀ r∈K,r.n=m) (h1:1≤m) (h2:m≤96) (h3:K.length≤96):wfM K=true:=by
 unfold wfM;rw[Bool.and_eq_true];refine⟨decide_eq_true h3,List.all_eq_true.2 fun r hr=>?_⟩
 have hc:colM K=m:=by
  match K,hr with
  | s::_,_=>exact h s List.mem_cons_self
 unfold rowM;rw[hc,h r hr]
 simp[h1,h2]
theorem colM_of {K:List Ro} {m:Nat} (h:∀ r∈K,r.n=m) (h0:0<K.length):colM K=m:=by
 match K,h0 with
 | s::_,_=>exact h s List.mem_cons_self
end Go.Proofs.YthlinhconnmbcaaGreat
namespace Go.Proofs.YthlinhconnmbcaaGreat
open Go.RowKit RQ GE
set_option linter.unusedVariables false
def szChk (n k a d:Nat):Bool:=decide (d*k+a+d<1000000)&&decide ((zA (d*k+a) (n-1)).1≤1000000)&&decide ((zA (d*k+a) (n-1)).2.1≤1000000)&&decide (n*(d*k)<1000000)&&tzB (zA (d*k+a) (n-1)).1 (zA (d*k+a) (n-1)).2.1 n
theorem sz_of {n k a d:Nat} (h:szChk n k a d=true):SzE n k a d∧SzT n k a d:=by
 unfold szChk at h;simp only[Bool.and_eq_true,decide_eq_true_eq] at h;exact⟨⟨h.1.1.1.1,⟨h.1.1.1.2,h.1.1.2⟩,h.1.2⟩,tzO_of h.2⟩
theorem sz_tab:((List.range 5).all fun n=>(List.range 9).all fun k=>szChk n k 2 2)=true:=by kernel_rfl
theorem sz22 {n k:Nat} (hn:n≤4) (hk:k≤8):SzE n k 2 2∧SzT n k 2 2:=
 sz_of (List.all_eq_true.1 (List.all_eq_true.1 sz_tab n (List.mem_range.2 (by omega))) k (List.mem_range.2 (by omega)))
section
variable {M:List Ro} {A:Option Addr} {n c:Nat}
structure Sml (M:List Ro) (n:Nat):Prop where
 hm:∀ r∈M,r.n≤9223372036854775807
 hn:n≤4
 ka:∀ r∈M,∀ x∈r.L,Rk x.b x.n x.x x.m x.y x.q
 rs:∀ r∈M,∀ x∈r.L,Rs x.q 2
 s2:∀ r∈M,∀ x∈r.L,S2 2 2 x.q
 k4:wfM M=true→colM M≤4
 rl:∀ r∈M,r.L.length=r.n
 ml:M.length=n
theorem Sml.rct (s:Sml M n) (hw:wfM M=true):GE.rct (colM M) (qM M)∧(qM M).length=n:=⟨fun q hq=>by
 obtain⟨r,hr,rfl⟩:=List.mem_map.1 hq;rw[List.length_map,s.rl r hr];exact (wf_row hw hr).2.2,by unfold qM;rw[List.length_map];exact s.ml⟩
end
end Go.Proofs.YthlinhconnmbcaaGreat
namespace Go.Proofs.YthlinhconnmbcaaGreat
open Go.RowKit RQ GE
set_option linter.unusedVariables false
theorem negT {x:Rt} {W:World} (hx:x.can) (hx':x.raw W):Calls Tryz.prog 56 #[.agg #[.bool x.b,.slice x.A x.n x.c,.slice x.D x.m x.d]] W (RetR (-x.q) W):=negW _ _ _ _ _ _ _ _ _ _ W (hx'.at_ (can_k hx hx'))
def nst (k c:Nat) (f:Nat→Rat) (ps:List Nat):Nat→List Rat
 | 0=>(List.replicate k 0).set c 1
 | i+1=>(nst k c f ps i).set (ps.getD i 0) (-(f i))
def nullQ (k:Nat) (R:List (List Rat)) (ps:List Nat):List (List Rat):=(freeL k ps).map fun c=>nst k c (fun i=>el R i c) ps ps.length
theorem nst_congr {k c:Nat} {f g:Nat→Rat} {ps:List Nat}:∀ {i:Nat},(∀ j<i,f j=g j)→nst k c f ps i=nst k c g ps i
 | 0,_=>rfl
 | i+1,h=>by
  show (nst k c f ps i).set _ _=(nst k c g ps i).set _ _
  rw[nst_congr (fun j hj=>h j (by omega)),h i (by omega)]
theorem pnull_any (M:List Ro) (A:Option Addr) (n c:Nat) (w:World) (h:Mr w A n c M) (hm:∀ r∈M,r.n≤9223372036854775807) (hn:n≤9223372036854775807) (hw:wfM M=true) (ka:∀ r∈M,∀ x∈r.L,Rk x.b x.n x.x x.m x.y x.q) (a d:Nat) (hs:∀ r∈M,∀ x∈r.L,S2 a d x.q) (hz:SzE n (colM M) a d) (hT:SzT n (colM M) a d):Calls Tryz.prog 23 #[.slice A n c] w (RetMX 0 (nullQ (colM M) (red (colM M) (qM M)).M (red (colM M) (qM M)).p) w):=by
 obtain⟨hr,hq,hk,h0,hn96,hk96⟩:=wf_rct h hw;have hF:=fun W h'=>wf_any M A n c W h' hm hn
 rw[hw] at hF;have hC:=Lib.hid (fun W h'=>cols_any M A n c W h')
 have hE:=Lib.hid (fun W (h':Mr W A n c M)=>elim_any M A n c (colM M) W h' hk rfl ka a d hs (by omega) (by omega) hz.s1 hz.s2 hz.s3)
 obtain⟨k,hkk⟩:∃ k,k=colM M:=⟨_,rfl⟩;obtain⟨Q,hQ⟩:∃ Q,Q=qM M:=⟨_,rfl⟩;have hQs:=qM_s2 hs;simp only[←hkk,←hQ] at hE hC hr hq h0 hk96 hz hQs hT ⊢;obtain⟨S,hS⟩:∃ S,S=(brun k 0 ⟨wh Q,[],pr (rsc Q) n⟩ 1).1:=⟨_,rfl⟩;obtain⟨l,hl⟩:∃ l,l=(brun k 0 ⟨wh Q,[],pr (rsc Q) n⟩ 1).2:=⟨_,rfl⟩;have hbr:brun k 0 ⟨wh Q,[],pr (rsc Q) n⟩ 1=(S,l):=by rw[hS,hl]
 rw[←hS,←hl] at hE;obtain⟨e1,e2,e3,e4,e5,e6,e7⟩:=el_all hq hr h0 hQs hbr;have htm:=(elim_red hq hr hbr).2.2.2;have hfin:nullQ k (red k Q).M (red k Q).p=(freeL k S.p).map fun c=>nst k c (fun i=>tmf S.M S.p l c S.p.length i / l) S.p S.p.length:=by
  unfold nullQ;rw[←e6];refine List.map_congr_left fun c hc=>nst_congr fun i hi=>?_
  obtain⟨h1,h2⟩:=freeL_mem.1 hc;exact htm c h1 h2 i hi
 rw[hfin];have hR:=Lib.hid (fun W gE gR K P pc A1 n1 c1 D1 m1 d1 c (hW:Env W gE gR n k K P pc S.p l A1 n1 c1 D1 m1 d1) (hK:qM K=S.M) (hc:c<k)=>by
  have h1:=redcol_any hW e4 e3 (fun _=>hc) (by omega) (by omega) (by rw[hK];exact e1) e2 hz.s2 (hT.mono e4)
  rw[hK] at h1;exact h1)
 have hFr:=Lib.hid (fun W gE gR K P pc A1 n1 c1 D1 m1 d1 (hW:Env W gE gR n k K P pc S.p l A1 n1 c1 D1 m1 d1)=>by
  have hc1:colM K=k:=by
   match K,hW.mr.len with
   | [],h1=>exact (h0 h1.symm).symm
   | r::_,_=>exact hW.rk r List.mem_cons_self
  have h1:=free_any K gE gR n S.p.length pc P S.p W hW.lt hW.e0 hW.e1 hW.mr hW.ir (by omega) (by rw[hc1];omega)
  rw[hc1] at h1;exact h1)
 have hmk:=make_rat k (by omega)
 obtain⟨f1,hf1⟩:∃ q:Rat,q=1:=⟨_,rfl⟩;have hFI:Hid (∀ W,Calls Tryz.prog 49 #[.int .i64 1] W (RetR f1 W)):=Lib.hid (fun W=>by rw[hf1];exact fromIntR_any 1 W (by decide) (by decide))
 have rs1:Hid (Rs f1 9000000):=Lib.hid (by rw[hf1];exact S2.rs (S2.one (a:=1) (d:=1)) (by decide) (by decide))
 have hk9:k≤96:=hk96;have hn9:n≤96:=hn96;obtain⟨ff,hff⟩:∃ f:Nat→Nat→Rat,f=fun c i=>tmf S.M S.p l c S.p.length i / l:=⟨_,rfl⟩
 rw[show (fun c=>nst k c (fun i=>tmf S.M S.p l c S.p.length i / l) S.p S.p.length)=fun c=>nst k c (ff c) S.p S.p.length by rw[hff]]
 have hp9:S.p.length≤96:=by omega
 replace hff:=Lib.hid hff;replace hT:=Lib.hid hT;replace hf1:=Lib.hid hf1;clear hfin htm;replace h:=Lib.hid h;replace hF:=Lib.hid hF;replace hz:=Lib.hid hz;replace e1:=Lib.hid e1;replace e2:=Lib.hid e2;replace e3:=Lib.hid e3;replace e4:=Lib.hid e4;replace e5:=Lib.hid e5;replace e6:=Lib.hid e6;replace e7:=Lib.hid e7;replace hbr:=Lib.hid hbr;replace hr:=Lib.hid hr;replace hq:=Lib.hid hq;replace h0:=Lib.hid h0
 replace hn96:=Lib.hid hn96;replace hk96:=Lib.hid hk96;clear hm hn hw ka hs hk hkk hQ hS hl hQs;go_enter Tryz.func23,Tryz.ntmps23
 go_wp2_with fail
 refine (hF.out _ h.out).mono ?_
 rintro e w1 ⟨rfl,bb⟩;replace h:=Lib.hid (h.out.bel bb);have bw:=Lib.hid bb;clear bb;clear hF
 go_wp2_with fail
 refine (hE.out _ h.out).mono ?_
 rintro e w2 ⟨gR,K,P,pc,A1,n1,c1,D1,m1,d1,A2,n2,c2,D2,m2,d2,rfl,hm2,hk2,hq2,hi2,x1,x2,b2⟩;unfold ecE;replace bw:=Lib.hid (bw.out.trans (b2.mono bw.out.size));replace h:=Lib.hid (h.out.bel b2);go_upto_region 4 with fail
 obtain⟨gF,hgF⟩:∃ g,g=w2.heap.size:=⟨_,rfl⟩;obtain⟨V,hV⟩:∃ W,W=w2.alloc (.cells #[.slice (some ⟨gR,0,none⟩) n n,.slice P S.p.length pc,.bool (ng l.num),.slice A1 n1 c1,.slice D1 m1 d1,.bool (ng S.f.num),.slice A2 n2 c2,.slice D2 m2 d2] 73):=⟨_,rfl⟩;have B2:Below w2.heap.size w2 V:=by rw[hV];exact (Below.refl _ _).alloc (Nat.le_refl _) _
 have hcb:Cb V gF (ecE gR n P S.p.length pc l A1 n1 c1 D1 m1 d1 S.f A2 n2 c2 D2 m2 d2) 73:=by rw[hV,hgF];exact Cb.new _ _ _
 have hEV:=Lib.hid (ec_env hcb (hm2.bel B2) hk2 (hi2.bel B2) (x1.below B2));rw[←hgF,←hV];replace bw:=Lib.hid (bw.out.trans (B2.mono bw.out.size));replace h:=Lib.hid (h.out.bel B2);have hFx:=Lib.hid (hFr.out V gF gR K P pc A1 n1 c1 D1 m1 d1 hEV.out);have hq2h:=Lib.hid hq2;clear hV hgF hm2 hi2 x1 x2 b2 B2 hcb hE hFr hq2;obtain⟨q,hqq⟩:∃ q,q=(freeL k S.p).length:=⟨_,rfl⟩;have hq9:q≤96:=by have:=freeL_le k S.p;omega
 rw[←hqq] at hFx;replace hqq:=Lib.hid hqq
 go_wp2_with fail
 refine hFx.out.mono ?_
 rintro e V1 ⟨AF,cF,rfl,hI,bb⟩;replace hEV:=Lib.hid (hEV.out.bel bb);replace h:=Lib.hid (h.out.bel bb);replace bw:=Lib.hid (bw.out.trans (bb.mono bw.out.size));have hIF:=Lib.hid hI;have S0:=Lib.hid (St.new V1);clear bb hI hFx;go_wp2
 go_loopw [5,18] (fun ov uv wr=>∃ (u:Nat) (K:List Ro) (bs:List Bk) (rs:List Rdg),u≤q∧uv=.int .i64 u∧K.length=u∧Apd V1 wr bs rs 46 1 ov u (K.map Ro.v)∧(∀ r∈K,r.In bs rs)∧canM K∧qM K=((freeL k S.p).take u).map fun c=>nst k c (ff c) S.p S.p.length) (fun _ uv _=>q-(intOf uv).toNat)
 case atStart=>exact⟨0,[],[],[],Nat.zero_le _,rfl,rfl,Apd.nil_ S0.out _ _,fun x hx=>(by cases hx),fun x hx=>(by cases hx),rfl⟩
 case round=>
  clear S0;obtain⟨u,K,bs,rs,huq,rfl,hK,AP,hIn,hcan,hqK⟩:=hrel;rename World=>V2
  by_cases hlt:u<q
  ·have huh:=Lib.hid hlt
   have g1:(u:Int)<(q:Int):=by omega
   have g2:(0:Int)≤(u:Int):=by omega
   have hst:=AP.st.bel;obtain⟨bF,oF,c0,hFA,hc1,fc0⟩:=(hIF.out.bel hst).get hlt;subst hFA;have hck:c0<k:=(freeL_mem.1 (List.mem_of_getElem? hc1)).1;have g3:(c0:Int)<(k:Int):=by omega
   have g4:(0:Int)≤(c0:Int):=by omega
   have hCx:=Lib.hid (hC.out V2 (h.out.bel hst));have hqn:Hid (((freeL k S.p).take u).map (fun c=>nst k c (ff c) S.p S.p.length)++[nst k c0 (ff c0) S.p S.p.length]=((freeL k S.p).take (u+1)).map fun c=>nst k c (ff c) S.p S.p.length):=Lib.hid (by
    rw[List.take_add_one,hc1,List.map_append];rfl)
   obtain⟨ob,hob,So⟩:=AP.open_;replace hob:=Lib.hid hob;replace So:=Lib.hid So;replace hIn:=Lib.hid hIn;replace hcan:=Lib.hid hcan;replace hqK:=Lib.hid hqK;replace hK:=Lib.hid hK;have hckh:=Lib.hid hck;clear AP hst hc1 hlt huq hck
   go_wp2_with fail
   refine hCx.out.mono ?_
   rintro e V3 ⟨rfl,bb⟩;have SE:=Lib.hid (((So.out.call bb).allocAt V3.heap.size (csE (List.replicate k Zt)).toArray 33 (NoLl.csE _).arr rfl).read (show Rd _ none 0 0 [] from Rd.nil_ _ _ _))
   clear bb So hCx fc0;go_upto_region 9 with fail
   obtain⟨gN,hgN⟩:∃ g,g=V3.heap.size:=⟨_,rfl⟩;obtain⟨V4,hV4⟩:∃ W,W=V3.alloc (.cells (csE (List.replicate k Zt)).toArray 33):=⟨_,rfl⟩;rw[←hgN,←hV4] at SE ⊢;clear hgN hV4
   go_wp2_with fail
   refine (hFI.out _).mono ?_
   rintro e V5 ⟨A9,n9,c9,D9,m9,d9,rfl,X9,bb⟩;have SE1:=((SE.out.call bb).read X9.n).read X9.d;have hZi:(List.replicate k Zt)[c0]?=some Zt:=by rw[List.getElem?_replicate,if_pos hckh.out]
   obtain⟨⟨k0,k1,k2⟩,f0⟩:=St_lcl SE1 hZi;have f2:=f0 (c0*3);have f3:=f0 (c0*3+1);have f4:=f0 (c0*3+2);have SE2:=Lib.hid (St_lset SE1 c0 (Rt.of A9 n9 c9 D9 m9 d9 f1));clear SE SE1 hZi f0 bb X9;go_upto_region 10 with fail
   clear k0 k1 k2 f2 f3 f4;obtain⟨V6,hV6⟩:∃ W,W=((V5.setCell ⟨gN,c0*3,none⟩ (.bool (ng f1.num))).setCell ⟨gN,c0*3+1,none⟩ (.slice A9 n9 c9)).setCell ⟨gN,c0*3+2,none⟩ (.slice D9 m9 d9):=⟨_,rfl⟩
   change Hid (St V1 (((V5.setCell ⟨gN,c0*3,none⟩ (.bool (ng f1.num))).setCell ⟨gN,c0*3+1,none⟩ (.slice A9 n9 c9)).setCell ⟨gN,c0*3+2,none⟩ (.slice D9 m9 d9)) _ _) at SE2
   rw[←hV6] at SE2 ⊢;clear hV6;obtain⟨E0,hE0⟩:∃ U,U=(List.replicate k Zt).set c0 (Rt.of A9 n9 c9 D9 m9 d9 f1):=⟨_,rfl⟩;obtain⟨rs2,hrs2⟩:∃ r,r=(D9,m9,d9,dn f1)::(A9,n9,c9,limbs f1.num.natAbs)::(none,0,0,[])::rs:=⟨_,rfl⟩;rw[←hE0,←hrs2] at SE2;have hE1:Hid (E0.length=k∧(∀ x∈E0,x.can∧x.rdIn rs2)∧E0.map (·.q)=nst k c0 (ff c0) S.p 0):=Lib.hid ⟨by rw[hE0,List.length_set,List.length_replicate],fun x hx=>by
    rw[hE0] at hx;rw[hrs2]
    rcases List.mem_or_eq_of_mem_set hx with hx | rfl
    ·obtain rfl:=(List.mem_replicate.1 hx).2
     exact⟨Zt_can,by simp[Zt],by simp[Zt]⟩
    ·exact⟨Rt.of_can _ _ _ _ _ _ rs1.out,List.mem_cons_of_mem _ List.mem_cons_self,List.mem_cons_self⟩,by
    rw[hE0,List.map_set,List.map_replicate]
    show (List.replicate k 0).set c0 f1=(List.replicate k 0).set c0 1
    rw[hf1.out]⟩
   have hrsub:Hid (∀ z∈rs,z∈rs2):=Lib.hid fun z hz=>by rw[hrs2];exact List.mem_cons_of_mem _ (List.mem_cons_of_mem _ (List.mem_cons_of_mem _ hz))
   have hRx:=Lib.hid (hR.out V6 gF gR _ P pc A1 n1 c1 D1 m1 d1 c0 (hEV.out.bel SE2.out.bel) hq2h.out hckh.out);clear hE0 hrs2
   go_wp2_with fail
   refine hRx.out.mono ?_
   rintro e V7 ⟨gC,L,rfl,⟨hg,hcb⟩,hL,hx,hLq,bb⟩;have SL:=Lib.hid ((St_rds (St_own SE2.out bb hg hcb (NoLl.csE _).arr) (fun x h=>(hx x h).2)).swap)
   have hxc:Hid (∀ x∈L,x.can):=Lib.hid fun x h=>(hx x h).1
   replace hL:=Lib.hid hL;replace hLq:=Lib.hid hLq;clear SE2 hg hcb hx bb hRx;go_wp2
   go_loopw [32] (fun iv wr=>∃ (i:Nat) (E:List Rt) (rs':List Rdg),i≤S.p.length∧iv=.int .i64 i∧St V1 wr ((gN,(csE E).toArray,33)::(gC,(csE L).toArray,33)::(bs++ob)) rs'∧E.length=k∧(∀ x∈E,x.can∧x.rdIn rs')∧E.map (·.q)=nst k c0 (ff c0) S.p i∧∀ z∈rdsOf L++rs2,z∈rs') (fun iv _=>S.p.length-(intOf iv).toNat)
   case atStart=>exact⟨0,E0,_,Nat.zero_le _,rfl,SL.out,hE1.out.1,fun x hx=>⟨(hE1.out.2.1 x hx).1,List.mem_append_right _ (hE1.out.2.1 x hx).2.1,List.mem_append_right _ (hE1.out.2.1 x hx).2.2⟩,hE1.out.2.2,fun z hz=>hz⟩
   case round=>
    clear SL hE1;obtain⟨i,E,rs',hip,rfl,T,hEl,hEc,hEq,hrs'⟩:=hrel;rename World=>V8
    by_cases hli:i<S.p.length
    ·have g6:(i:Int)<(S.p.length:Int):=by omega
     have g7:(0:Int)≤(i:Int):=by omega
     obtain⟨bP,oP,pk,hPA,hp1,pc0⟩:=(hEV.out.bel T.bel).ir.get hli;subst hPA;have hpk:pk<k:=e3.out pk (List.mem_of_getElem? hp1);have hpg:Hid (S.p.getD i 0=pk):=Lib.hid (by rw[List.getD_eq_getElem?_getD,hp1];rfl)
     have g8:(pk:Int)<(k:Int):=by omega
     have g9:(0:Int)≤(pk:Int):=by omega
     obtain⟨x,hLi⟩:∃ y,L[i]?=some y:=⟨L[i]'(by rw[hL.out];exact hli),List.getElem?_eq_getElem _⟩
     have xm:=List.mem_of_getElem? hLi;have xq:Hid (x.q=ff c0 i):=Lib.hid (by
      have h1:=el_at hLq.out hLi;rw[←h1,List.getD_eq_getElem?_getD,List.getElem?_map,List.getElem?_range hli,hff.out];rfl)
     have xin:=rdsOf_in (rs:=rs2) xm;have xr:x.raw V8:=⟨T.rd _ (hrs' _ xin.1),T.rd _ (hrs' _ xin.2)⟩;obtain⟨⟨x0,x1,x2⟩,_⟩:=St_lcl T.swap hLi;obtain⟨y,hEk⟩:∃ y,E[pk]?=some y:=⟨E[pk]'(by rw[hEl];exact hpk),List.getElem?_eq_getElem _⟩
     have xc:=hxc.out x xm;obtain⟨q1,hq1⟩:∃ q,q = -x.q:=⟨_,rfl⟩;have rq1:Hid (Rs q1 9000000):=Lib.hid (by rw[hq1];exact xc.2.2.2.neg)
     have e1h:V8.cell? ⟨gF,1,none⟩=some (.slice (some ⟨bP,oP,none⟩) S.p.length pc):=(hEV.out.bel T.bel).e1;have hih:=Lib.hid hli;replace e1h:=Lib.hid e1h;replace pc0:=Lib.hid pc0;replace T:=Lib.hid T;replace hEl:=Lib.hid hEl;replace hEc:=Lib.hid hEc;replace hEq:=Lib.hid hEq;replace hEk:=Lib.hid hEk;replace hrs':=Lib.hid hrs';replace xr:=Lib.hid xr;replace xc:=Lib.hid xc;replace hq1:=Lib.hid hq1;clear hli hip hp1 hpk hLi xm xin
     go_upto_region 13 with fail
     obtain⟨gX,hgX⟩:∃ g,g=V8.heap.size:=⟨_,rfl⟩;obtain⟨V9,hV9⟩:∃ W,W=V8.alloc (.cells #[.bool x.b,.slice x.A x.n x.c,.slice x.D x.m x.d] 33):=⟨_,rfl⟩;have B9:Below V8.heap.size V8 V9:=by rw[hV9];exact (Below.refl _ _).alloc (Nat.le_refl _) _
     have hCX:Cb V9 gX #[.bool x.b,.slice x.A x.n x.c,.slice x.D x.m x.d] 33:=by rw[hV9,hgX];exact Cb.new _ _ _
     rw[←hV9,←hgX];have c0_:=Lib.hid (hCX.cell (i:=0) rfl);have c1_:=Lib.hid (hCX.cell (i:=1) rfl);have c2_:=Lib.hid (hCX.cell (i:=2) rfl);replace e1h:=Lib.hid (bel_cell B9 e1h.out);replace pc0:=Lib.hid (bel_cell B9 pc0.out);replace T:=Lib.hid (T.out.call B9);have hNg:Hid (∀ W,Below V9.heap.size V9 W→Calls Tryz.prog 56 #[.agg #[.bool x.b,.slice x.A x.n x.c,.slice x.D x.m x.d]] W (RetR q1 W)):=Lib.hid fun W hW=>by rw[hq1.out];exact negT xc.out ((xr.out.bel B9).bel hW)
     clear hV9 hgX hCX B9 x0 x1 x2 xr xc;refine Wl.start (fun W=>Below V9.heap.size V9 W) [9] rfl ?_
     have hS:Below V9.heap.size V9 V9.drew:=(Below.refl _ _).drew;refine Wl.t (i:=0) (v:=.slice (some ⟨gN,0,none⟩) k k) (some 37) at0 (hy:=fun _ _=>by kernel_rfl) (hS:=hS) (h:=?_)
     refine Wl.t (i:=1) (v:=.pointer (some ⟨gF,1,none⟩)) (some 38) at1 (hy:=fun _ _=>by go_simp) (hS:=hS) (h:=?_)
     refine Wl.t (i:=2) (v:=.slice (some ⟨bP,oP,none⟩) S.p.length pc) (some 39) at2 (hy:=fun W hS=>by (have k0:=bel_cell hS e1h.out;clear hS;go_simp)) (hS:=hS) (h:=?_)
     refine Wl.t (i:=3) (v:=.int .i64 i) (some 40) at3 (hy:=fun _ _=>by kernel_rfl) (hS:=hS) (h:=?_)
     refine Wl.t (i:=4) (v:=.pointer (some ⟨bP,oP+i,none⟩)) (some 41) at4 (hy:=fun _ _=>by go_simp) (hS:=hS) (h:=?_)
     refine Wl.t (i:=5) (v:=.int .i64 pk) (some 42) at5 (hy:=fun W hS=>by (have k0:=bel_cell hS pc0.out;clear hS;go_simp)) (hS:=hS) (h:=?_)
     refine Wl.t (i:=6) (v:=.agg #[.bool x.b,.slice x.A x.n x.c,.slice x.D x.m x.d]) (some 43) at6 (hy:=fun W hS=>by (have k0:=bel_cell hS c0_.out;have k1:=bel_cell hS c1_.out;have k2:=bel_cell hS c2_.out;clear hS;go_simp)) (hS:=hS) (h:=?_)
     try simp only[Act.put,sZ0,sZ1,sZ2]
     refine Wl.g (i:=7) at7 (by kernel_rfl) (by kernel_rfl) fun K' hK=>?_
     refine oper_call (f:=56) (args:=#[.agg #[.bool x.b,.slice x.A x.n x.c,.slice x.D x.m x.d]]) rfl (by kernel_rfl) ((hNg.out _ hS).mono ?_)
     rintro e Va ⟨A8,n8,c8,D8,m8,d8,rfl,X8,bb⟩;have hSa:=hS.trans (bb.mono hS.size);refine⟨_,rfl,hK.out _ _ hSa ?_⟩
     clear hK K' hS bb
     try simp only[Act.put,sZ0,sZ1,sZ2]
     refine Wl.t (i:=8) (v:=.pointer (some ⟨gN,pk*3,none⟩)) (some 45) at8 (hy:=fun _ _=>by go_simp) (hS:=hSa) (h:=?_)
     have S3:=(((T.out.call hSa).read X8.n).read X8.d);obtain⟨⟨k0,k1,k2⟩,f0⟩:=St_lcl S3 hEk.out;have f2:=f0 (pk*3);have f3:=f0 (pk*3+1);have f4:=f0 (pk*3+2);obtain⟨Vb,hVb,T⟩:∃ W,W=((Va.setCell ⟨gN,pk*3,none⟩ (.bool (ng q1.num))).setCell ⟨gN,pk*3+1,none⟩ (.slice A8 n8 c8)).setCell ⟨gN,pk*3+2,none⟩ (.slice D8 m8 d8)∧Hid (St V1 W ((gN,(csE (E.set pk (Rt.of A8 n8 c8 D8 m8 d8 q1))).toArray,33)::(gC,(csE L).toArray,33)::(bs++ob)) ((D8,m8,d8,dn q1)::(A8,n8,c8,limbs q1.num.natAbs)::rs')):=⟨_,rfl,Lib.hid (St_lset S3 pk (Rt.of A8 n8 c8 D8 m8 d8 q1))⟩
     clear f0
     try simp only[Act.put,sZ0,sZ1,sZ2]
     refine Wl.s (i:=9) at9 (by kernel_rfl) (by kernel_rfl) (by kernel_rfl) fun K' hK=>?_
     go_simp
     rw[←hVb];refine hK.out _ _ ?_
     clear hK K' k0 k1 k2 f2 f3 f4 hVb S3 X8 hSa hNg;refine Wl.done (by kernel_rfl) ?_
     clear e1h pc0 c0_ c1_ c2_ hEk;have hp1:=hih.out;go_wp2
     go_roundw
     case rel=>exact⟨i+1,E.set pk (Rt.of A8 n8 c8 D8 m8 d8 q1),_,by omega,by go_num,T.out,by rw[List.length_set];exact hEl.out,fun z hz=>(by rcases List.mem_or_eq_of_mem_set hz with hz | rfl;exact⟨(hEc.out z hz).1,List.mem_cons_of_mem _ (List.mem_cons_of_mem _ (hEc.out z hz).2.1),List.mem_cons_of_mem _ (List.mem_cons_of_mem _ (hEc.out z hz).2.2)⟩;exact⟨Rt.of_can _ _ _ _ _ _ rq1.out,List.mem_cons_of_mem _ List.mem_cons_self,List.mem_cons_self⟩),by rw[List.map_set,hEq.out];show _=(nst k c0 (ff c0) S.p i).set (S.p.getD i 0) (-(ff c0 i));rw[hpg.out,←xq.out,←hq1.out];rfl,fun z hz=>List.mem_cons_of_mem _ (List.mem_cons_of_mem _ (hrs'.out z hz))⟩
     case measure=>simp[intOf];omega
    ·have hpi:i=S.p.length:=by omega
     have hqf:E.map (·.q)=nst k c0 (ff c0) S.p S.p.length:=by rw[hEq,hpi]
     have T2:St V1 V8 (((gN,(csE E).toArray,33)::(gC,(csE L).toArray,33)::bs)++ob) rs':=T;have APo:=Apd.close hob.out T2;have APl:=APo.alloc #[.slice (some ⟨gN,0,none⟩) k k] 46 (noL1 _ _ _);have hcb1:=APl.st.cb 0 rfl;have hIr:Hid ((⟨some ⟨gN,0,none⟩,k,k,E⟩:Ro).In ((gN,(csE E).toArray,33)::(gC,(csE L).toArray,33)::bs) rs'):=Lib.hid ⟨hEl,.inr ⟨gN,(csE E).toArray,rfl,Nat.le_refl _,List.mem_cons_self,by
      show ((csE E).toArray.toList).take (k*3)=csE E
      rw[List.toList_toArray,List.take_of_length_le (by rw[csE_len,hEl];exact Nat.le_refl _)]⟩,fun x hx=>(hEc x hx).2⟩
     have hcn':=Lib.hid (fun x hx=>(hEc x hx).1)
     have hsub:Hid (∀ z∈rs,z∈rs'):=Lib.hid fun z hz=>hrs' z (List.mem_append_right _ (hrsub.out z hz))
     replace hqf:=Lib.hid hqf;clear T T2 hEc hEq hEl hrs' hip hob APo;have hul:=huh.out;have g6:¬ ((i:Int)<(S.p.length:Int)):=by omega
     clear hli hpi
     go_wp2_with (at_builtin;refine app_row rfl (.tmp 47) (.tmp 49) rfl rfl APl _ rfl hcb1 (by omega) ?_)
     clear APl hcb1;intro v' W' AP;replace AP:=Lib.hid AP;go_wp2
     go_roundw
     case rel=>exact⟨u+1,K++[⟨some ⟨gN,0,none⟩,k,k,E⟩],_,rs',by omega,by go_num,by rw[List.length_append,hK.out];rfl,by rw[List.map_append];exact AP.out.sub,In_app hIn.out (fun z hz=>List.mem_cons_of_mem _ (List.mem_cons_of_mem _ hz)) hsub.out hIr.out,canM_app hcan.out (by show k≤1000;omega) hcn'.out,by rw[qM_app,hqK.out];show _++[E.map (·.q)]=_;rw[hqf.out];exact hqn.out⟩
     case measure=>simp[intOf];omega
  ·obtain rfl:q=u:=by omega
   have hst:=AP.st.bel;rw[←hK] at AP;obtain⟨A7,c7,hv,M7⟩:=AP.mat hIn;subst hv;rw[List.take_of_length_le (by rw[hqq.out];exact Nat.le_refl _)] at hqK
   replace bw:=Lib.hid (bw.out.trans (hst.mono bw.out.size));replace M7:=Lib.hid M7;replace hqK:=Lib.hid hqK;replace hcan:=Lib.hid hcan;replace hK:=Lib.hid hK;clear AP hIn hlt huq hst;go_wp2
   go_ret2
   exact⟨A7,K.length,c7,K,rfl,M7.out,hcan.out,hqK.out,by rw[hK.out];omega,bw.out⟩
end Go.Proofs.YthlinhconnmbcaaGreat
namespace Go.Proofs.YthlinhconnmbcaaGreat
open Go.RowKit RQ GE
set_option linter.unusedVariables false
def pAt (ps:List Nat) (j a:Nat):Prop:=a≤ps.length∧(∀ t (h:t<ps.length),t<a→ps[t]<j)∧∀ t (h:t<ps.length),a≤t→j≤ps[t]
theorem pAt.mem {ps:List Nat} {j a:Nat} (h:pAt ps j a) (hs:ps.Pairwise (· < ·)):j∈ps↔ps[a]?=some j:=by
 constructor
 ·intro hm
  obtain⟨t,ht,e⟩:=List.getElem_of_mem hm;have h1:a≤t:=by
   rcases Nat.lt_or_ge t a with g | g
   ·have:=h.2.1 t ht g;omega
   ·exact g
  rcases Nat.lt_or_ge a t with g | g
  ·have h2:=h.2.2 a (by omega) (Nat.le_refl _)
   have h3:=List.pairwise_iff_getElem.1 hs a t (by omega) ht g
   omega
  ·obtain rfl:a=t:=by omega
   rw[List.getElem?_eq_getElem ht,e]
 ·intro e
  exact List.mem_of_getElem? e
theorem pAt.step {ps:List Nat} {j a:Nat} (h:pAt ps j a) (hs:ps.Pairwise (· < ·)):(ps[a]?=some j→pAt ps (j+1) (a+1))∧(ps[a]?≠some j→pAt ps (j+1) a):=by
 refine⟨fun e=>?_,fun e=>⟨h.1,fun t ht g=>Nat.lt_succ_of_lt (h.2.1 t ht g),fun t ht g=>?_⟩⟩
 ·obtain⟨ha,e⟩:=List.getElem?_eq_some_iff.1 e
  refine⟨ha,fun t ht g=>?_,fun t ht g=>?_⟩
  ·rcases Nat.lt_or_ge t a with g' | g'
   ·exact Nat.lt_succ_of_lt (h.2.1 t ht g')
   ·obtain rfl:t=a:=by omega
    omega
  ·have:=List.pairwise_iff_getElem.1 hs a t ha ht (by omega)
   omega
 ·have h1:=h.2.2 t ht g
  rcases Nat.lt_or_ge a t with g' | g'
  ·have h2:=h.2.2 a (by omega) (Nat.le_refl _)
   have h3:=List.pairwise_iff_getElem.1 hs a t (by omega) ht g'
   omega
  ·obtain rfl:a=t:=by omega
   rcases Nat.lt_or_ge j ps[a] with g2 | g2
   ·exact g2
   ·exact absurd (by rw[List.getElem?_eq_getElem ht];congr 1;omega) e
end Go.Proofs.YthlinhconnmbcaaGreat
namespace Go.Proofs.YthlinhconnmbcaaGreat
open Go.RowKit RQ GE
set_option linter.unusedVariables false
theorem Sr.one {W:World} {b o n c i:Nat} {L:List Rt} {x:Rt} (h:Sr W (some ⟨b,o,none⟩) n c L) (hi:L[i]?=some x):Sr W (some ⟨b,o+i*3,none⟩) 1 (c-i) [x]:=by
 have hin:i<n:=by rw[←h.len];exact (List.getElem?_eq_some_iff.1 hi).1
 have hc:=h.cap;refine⟨rfl,by omega,?_,fun r hr=>by rw[List.mem_singleton.1 hr];exact h.rd x (List.mem_of_getElem? hi)⟩
 rcases h.mem with h0 | ⟨b',o',hA,hlt,hc⟩
 ·omega
 ·right
  obtain⟨rfl,rfl⟩:b=b'∧o=o':=by simp only[Option.some.injEq,Addr.mk.injEq] at hA;exact⟨hA.1,hA.2.1⟩
  refine⟨b,o+i*3,rfl,hlt,fun j r hj=>?_⟩
  match j,hj with
  | 0,hj=>
   obtain rfl:=Option.some.inj hj;rw[Nat.zero_mul,Nat.add_zero];exact hc _ _ hi
def widQ (Q:List (List Rat)) (bq:List Rat):List (List Rat):=List.zipWith (fun r x=>r++[x]) Q bq
def slt (k:Nat) (f:Nat→Rat) (ps:List Nat):Nat→List Rat
 | 0=>List.replicate k 0
 | i+1=>(slt k f ps i).set (ps.getD i 0) (f i)
theorem slt_congr {k:Nat} {f g:Nat→Rat} {ps:List Nat}:∀ {i:Nat},(∀ j<i,f j=g j)→slt k f ps i=slt k g ps i
 | 0,_=>rfl
 | i+1,h=>by
  show (slt k f ps i).set _ _=(slt k g ps i).set _ _
  rw[slt_congr (fun j hj=>h j (by omega)),h i (by omega)]
def wcol (n k:Nat):Nat:=if n=0 then 0 else k+1
def solQ (n k:Nat) (Q:List (List Rat)) (bq:List Rat):List Rat:=slt k (fun i=>el (red (wcol n k) (widQ Q bq)).M i k) (red (wcol n k) (widQ Q bq)).p (red (wcol n k) (widQ Q bq)).p.length
theorem wid_at {Q:List (List Rat)} {bq:List Rat} {i:Nat} {r:List Rat} {x:Rat} (h1:Q[i]?=some r) (h2:bq[i]?=some x):(widQ Q bq)[i]?=some (r++[x]):=by
 unfold widQ;rw[List.getElem?_zipWith,h1,h2]
theorem wid_of {Q:List (List Rat)} {bq:List Rat} {r:List Rat} (h:r∈widQ Q bq):∃ s∈Q,∃ x∈bq,r=s++[x]:=by
 obtain⟨i,hi⟩:=List.getElem?_of_mem h
 unfold widQ at hi;rw[List.getElem?_zipWith] at hi
 cases hs:Q[i]? with
 | none=>rw[hs] at hi;cases hi
 | some s=>cases hx:bq[i]? with
  | none=>rw[hs,hx] at hi;cases hi
  | some x=>rw[hs,hx] at hi;exact⟨s,List.mem_of_getElem? hs,x,List.mem_of_getElem? hx,(Option.some.inj hi).symm⟩
theorem wid_len {Q:List (List Rat)} {bq:List Rat} {n:Nat} (h1:Q.length=n) (h2:bq.length=n):(widQ Q bq).length=n:=by
 unfold widQ;rw[List.length_zipWith,h1,h2,Nat.min_self]
theorem wid_rct {Q:List (List Rat)} {bq:List Rat} {n k:Nat} (hq:Q.length=n) (hr:rct k Q):rct (wcol n k) (widQ Q bq):=fun r hr'=>by
 obtain⟨s,hs,x,hx,rfl⟩:=wid_of hr';have:0<Q.length:=List.length_pos_of_mem hs;unfold wcol;rw[if_neg (by omega),List.length_append,hr s hs];rfl
theorem psolve_any (M:List Ro) (A:Option Addr) (n c:Nat) (w:World) (h:Mr w A n c M) (hm:∀ r∈M,r.n≤9223372036854775807) (hn:n≤9223372036854775807) (hw:wfM M=true) (ka:∀ r∈M,∀ x∈r.L,Rk x.b x.n x.x x.m x.y x.q) (Lb:List Rt) (Ab:Option Addr) (cb:Nat) (hbl:Sr w Ab n cb Lb) (kb:∀ x∈Lb,Rk x.b x.n x.x x.m x.y x.q) (a d:Nat) (hs:∀ r∈M,∀ x∈r.L,S2 a d x.q) (hsb:∀ x∈Lb,S2 a d x.q) (hz:SzE n (wcol n (colM M)) a d) (hT:SzT n (wcol n (colM M)) a d):Calls Tryz.prog 22 #[.slice A n c,.slice Ab n cb] w (fun e w'=>(colM M∉(red (wcol n (colM M)) (widQ (qM M) (Lb.map (·.q)))).p∧RetLX 0 (solQ n (colM M) (qM M) (Lb.map (·.q))) w e w')∨(colM M∈(red (wcol n (colM M)) (widQ (qM M) (Lb.map (·.q)))).p∧RetLX 11 [] w e w')):=by
 obtain⟨hr,hq,hk,h0,hn96,hk96⟩:=wf_rct h hw;have hF:=fun W h'=>wf_any M A n c W h' hm hn
 rw[hw] at hF;have hC:=Lib.hid (fun W h'=>cols_any M A n c W h')
 obtain⟨k,hkk⟩:∃ k,k=colM M:=⟨_,rfl⟩;obtain⟨Q,hQ⟩:∃ Q,Q=qM M:=⟨_,rfl⟩;obtain⟨bq,hbq⟩:∃ z,z=Lb.map (·.q):=⟨_,rfl⟩;have hbql:bq.length=n:=by rw[hbq,List.length_map];exact hbl.len
 have hQ1:Hid (∀ (i:Nat) (r:Ro),M[i]?=some r→Q[i]?=some (r.L.map (·.q))):=Lib.hid fun i r hi=>by
  rw[hQ];unfold qM;rw[List.getElem?_map,hi];rfl
 have hQs:=qM_s2 hs;simp only[←hkk,←hQ,←hbq] at hC hr hq hk h0 hk96 hz hQs hT ⊢;obtain⟨m,hm_⟩:∃ m,m=wcol n k:=⟨_,rfl⟩;have hm1:0<n→m=k+1:=fun h=>by rw[hm_];unfold wcol;rw[if_neg (by omega)]
 have hm2:n=0→m=0:=fun h=>by rw[hm_];unfold wcol;rw[if_pos h]
 have hb1:=wid_len hq hbql;have hb2:rct m (widQ Q bq):=by rw[hm_];exact wid_rct hq hr
 have hb3:∀ r∈widQ Q bq,∀ x∈r,S2 a d x:=fun r hr' x hx=>by
  obtain⟨s,hs',y,hy,rfl⟩:=wid_of hr'
  rcases List.mem_append.1 hx with hx | hx
  ·exact hQs s hs' x hx
  ·rw[List.mem_singleton.1 hx]
   rw[hbq] at hy;obtain⟨z,hz',rfl⟩:=List.mem_map.1 hy;exact hsb z hz'
 unfold solQ;simp only[←hm_] at hz hT ⊢;obtain⟨S,hS⟩:∃ S,S=(brun m 0 ⟨wh (widQ Q bq),[],pr (rsc (widQ Q bq)) n⟩ 1).1:=⟨_,rfl⟩;obtain⟨l,hl⟩:∃ l,l=(brun m 0 ⟨wh (widQ Q bq),[],pr (rsc (widQ Q bq)) n⟩ 1).2:=⟨_,rfl⟩;have hbr:brun m 0 ⟨wh (widQ Q bq),[],pr (rsc (widQ Q bq)) n⟩ 1=(S,l):=by rw[hS,hl]
 have hmle:m≤97:=by
  rcases Nat.eq_zero_or_pos n with h1 | h1
  ·rw[hm2 h1];omega
  ·rw[hm1 h1];omega
 obtain⟨e1,e2,e3,e4,e5,e6,e7⟩:=el_all hb1 hb2 hm2 hb3 hbr;have hE:=Lib.hid (fun W (Mw:List Ro) (A':Option Addr) (hM:Mr W A' n n Mw) (hkw:∀ r∈Mw,r.n=k+1) (hqw:qM Mw=widQ Q bq) (kaw:∀ r∈Mw,∀ x∈r.L,Rk x.b x.n x.x x.m x.y x.q)=>by
  have hkw2:∀ r∈Mw,r.n=m:=fun r hr=>by
   have h1:0<Mw.length:=List.length_pos_of_mem hr;rw[hM.len] at h1;rw[hkw r hr,hm1 h1]
  have hc1:colM Mw=m:=by
   match Mw,hM.len with
   | [],h1=>simp at h1;rw[hm2 h1.symm];rfl
   | r::_,_=>exact hkw2 r List.mem_cons_self
  have hsw:∀ r∈Mw,∀ x∈r.L,S2 a d x.q:=fun r hr' x hx=>hb3 (r.L.map (·.q)) (by rw[←hqw];exact List.mem_map_of_mem hr') x.q (List.mem_map_of_mem hx)
  have h1:=elim_any Mw A' n n m W hM hkw2 hc1 kaw a d hsw (by omega) (by omega) hz.s1 hz.s2 hz.s3
  rw[hqw,←hS,←hl] at h1;exact h1)
 have hR:=Lib.hid (fun W gE gR K P pc A1 n1 c1 D1 m1 d1 (hW:Env W gE gR n m K P pc S.p l A1 n1 c1 D1 m1 d1) (hK:qM K=S.M)=>by
  have h1:=redcol_any (c:=k) hW e4 e3 (fun hp=>by rw[hm1 (by omega)];omega) (by omega) (by omega) (by rw[hK];exact e1) e2 hz.s2 (hT.mono e4)
  rw[hK] at h1;exact h1)
 have hCt:=Lib.hid (fun W P pc (hW:Ir W P S.p.length pc S.p)=>contains_any S.p P S.p.length pc k W hW (by omega))
 have htm:=(elim_red hb1 hb2 hbr).2.2.2;have hsl:k∉S.p→slt k (fun i=>el (red m (widQ Q bq)).M i k) S.p S.p.length=slt k (fun i=>tmf S.M S.p l k S.p.length i / l) S.p S.p.length:=fun hk=>slt_congr fun i hi=>htm k (by rw[hm1 (by omega)];omega) hk i hi
 rw[←e6];have hpk:k∉S.p→∀ x∈S.p,x<k:=fun hk x hx=>by
  have h1:=e3 x hx;have h2:0<S.p.length:=List.length_pos_of_mem hx;rw[hm1 (by omega)] at h1
  have h3:x≠k:=fun e=>hk (e ▸ hx)
  omega
 have hrow:Hid (∀ W A',Mr W A' n c M→∀ r∈M,r.L.length=k):=Lib.hid fun W A' h' r hr'=>by rw[(h'.rd r hr').len];exact hk r hr'
 have hmr:=make_row n (by omega)
 have hmk:=make_rat k (by omega)
 have hkk2:=Lib.hid hk;have hk1:Hid (∀ r∈M,1≤r.n):=Lib.hid fun r hr=>(wf_row hw hr).1
 have ka:=Lib.hid ka;have kb:=Lib.hid kb;have hn9:=hn96;have hk9:k≤96:=hk96;have hp9:S.p.length≤96:=by omega
 obtain⟨ff,hff⟩:∃ f:Nat→Rat,f=fun i=>tmf S.M S.p l k S.p.length i / l:=⟨_,rfl⟩
 rw[show slt k (fun i=>tmf S.M S.p l k S.p.length i / l) S.p S.p.length=slt k ff S.p S.p.length by rw[hff]] at hsl
 replace hff:=Lib.hid hff;have hbq1:Hid (∀ (i:Nat) (x:Rt),Lb[i]?=some x→bq[i]?=some x.q):=Lib.hid fun i x hi=>by rw[hbq,List.getElem?_map,hi];rfl
 have hbx:=Lib.hid hbql;replace h:=Lib.hid h;replace hF:=Lib.hid hF;replace hbl:=Lib.hid hbl;replace hsl:=Lib.hid hsl;replace hpk:=Lib.hid hpk;replace hb1:=Lib.hid hb1;replace e6:=Lib.hid e6;clear hm hn hw hs hsb hb2 hb3 e1 e2 e3 e4 e5 e7 hbr hr hq h0 hk96 hQ hz hT hn96 hS hl hkk hk hbq htm hm1 hm2 hmle hQs hm_ hbql;go_enter Tryz.func22,Tryz.ntmps22
 go_wp2_with fail
 refine (hF.out _ h.out).mono ?_
 rintro e w1 ⟨rfl,bb⟩;have bw:=Lib.hid bb;clear hF bb
 go_wp2_with fail
 refine (hC.out _ (h.out.bel bw.out)).mono ?_
 rintro e w2 ⟨rfl,bb⟩;replace bw:=Lib.hid (bw.out.trans (bb.mono bw.out.size));clear hC bb;have S0:=Lib.hid (Wm.start (m:=k+1) (((St.new w).call bw.out).allocAt w2.heap.size (csR (List.replicate n Ro0)).toArray 46 (NoLl.rows _).arr rfl));go_upto_region 5 with fail
 obtain⟨gW,hgW⟩:∃ g,g=w2.heap.size:=⟨_,rfl⟩;rw[←hgW] at S0;rw[←hgW];clear hgW hmr bw;go_wp2
 go_loopw [31] (fun iv wr=>∃ i:Nat,i≤n∧iv=.int .i64 i∧∃ (B:List Nat) (R:List (List Rt)),B.length=i∧Wm w wr gW n B (k+1) R []∧(∀ (j:Nat) (L:List Rt),R[j]?=some L→∃ r x,M[j]?=some r∧Lb[j]?=some x∧L=r.L++[x])) (fun iv _=>n-(intOf iv).toNat)
 case atStart=>exact⟨0,Nat.zero_le _,rfl,[],[],rfl,S0.out,fun j L hL=>(by cases hL)⟩
 case round=>
  clear S0;obtain⟨i,hin,rfl,B,R,hB,T,hRj⟩:=hrel;rename World=>V0
  by_cases hlt:i<n
  ·have g4:(i:Int)<(n:Int):=by omega
   have g5:(0:Int)≤(i:Int):=by omega
   have hih:=Lib.hid hlt;have hM:=h.out.bel T.bel;obtain⟨b,o,r,rfl,hr,hrm,e0⟩:=hM.get hlt;have hrn:=hkk2.out r hrm;have hrow2:=hM.rd r hrm;rw[hrn] at e0 hrow2;have hbV:=hbl.out.bel T.bel;obtain⟨bB,oB,y,rfl,hy,hym,_,_,_⟩:=hbV.get hlt;have hcb:=hbV.cap;have hb1_:=hbV.one hy;have hkp:0<k:=by have:=hk1.out r hrm;omega
   have hbr_:=Lib.hid (⟨hr,hrm⟩:M[i]?=some r∧r∈M);have hyh:=Lib.hid hy;have hJ:=Lib.hid (joined_any r.L [y] r.A (some ⟨bB,oB+i*3,none⟩) k 1 r.c (cb-i) V0 hrow2 hb1_ hkp (by omega) (by omega) (by omega))
   have hJx:Hid (∀ W,Below V0.heap.size V0 W→∀ x∈r.L++[y],x.raw W):=Lib.hid fun W hW x hx=>by
    rcases List.mem_append.1 hx with hx | hx
    ·exact (hrow2.rd x hx).bel hW
    ·exact (hb1_.rd x hx).bel hW
   have hRl:=Lib.hid (T.len.trans hB);replace T:=Lib.hid T;replace hB:=Lib.hid hB;replace hRj:=Lib.hid hRj;have g6:(i:Int)<(cb:Int):=by omega
   have g7:(i:Int)+1≤(cb:Int):=by omega
   have g8:i<cb:=by omega
   clear hlt hin hM hr hrm hrn hrow2 hbV hy hym hb1_ hkp
   go_wp2_with fail
   refine hJ.out.mono ?_
   rintro e w4 ⟨gJ,rfl,hg,hcbj,hlj,bb⟩;have T1:=T.out.own bb hg hcbj (NoLl.csE _).arr;have hBn:B.length<n:=by rw[hB.out];exact hih.out
   obtain⟨nl,fn⟩:=T1.nil hBn;rw[hB.out] at nl;have fn:=fn i;have T2:=Lib.hid (T1.row hBn hlj (hJx.out _ bb));rw[hB.out] at T2;have hi1:=hih.out;clear T T1 hBn hg hcbj hlj hJ hJx bb e0;go_wp2
   go_roundw
   case rel=>
    refine⟨i+1,by omega,by go_num,B++[gJ],R++[r.L++[y]],by rw[List.length_append,hB.out];rfl,T2.out,fun j L hL=>?_⟩
    by_cases hj:j<R.length
    ·rw[List.getElem?_append_left hj] at hL
     exact hRj.out j L hL
    ·rw[List.getElem?_append_right (by omega)] at hL
     have hj1:j=i:=by
      have:=(List.getElem?_eq_some_iff.1 hL).1
      simp at this
      have:=hRl.out
      omega
     subst hj1;rw[hRl.out,Nat.sub_self] at hL;obtain rfl:=Option.some.inj hL;exact⟨r,y,hbr_.out.1,hyh.out,rfl⟩
   case measure=>simp[intOf];omega
  ·obtain rfl:n=i:=by omega
   obtain⟨hM1,hM2,hM3⟩:=T.mat hB;have hRl:=T.len.trans hB;have hMw:qM (KR (k+1) B R)=widQ Q bq:=by
    rw[hM3]
    apply List.ext_getElem?
    intro j;rw[List.getElem?_map]
    have hl2:=hb1.out
    by_cases hj:j<n
    ·have hLj:R[j]?=some R[j]:=List.getElem?_eq_getElem (by omega)
     obtain⟨r,x,hr,hx,hL⟩:=hRj j _ hLj;rw[hLj,wid_at (hQ1.out j r hr) (hbq1.out j x hx),hL]
     show some ((r.L++[x]).map (·.q))=_
     rw[List.map_append];rfl
    ·rw[List.getElem?_eq_none (by omega),List.getElem?_eq_none (by omega)];rfl
   have hMk:∀ r∈KR (k+1) B R,∀ x∈r.L,Rk x.b x.n x.x x.m x.y x.q:=fun r hr x hx=>by
    obtain⟨j,hj⟩:=List.getElem?_of_mem hr
    obtain⟨b,L,hb,hL,rfl⟩:=KR_of hj;obtain⟨r',y,hr',hy,rfl⟩:=hRj j L hL
    rcases List.mem_append.1 hx with hx | hx
    ·exact ka.out r' (List.mem_of_getElem? hr') x hx
    ·rw[List.mem_singleton.1 hx]
     exact kb.out y (List.mem_of_getElem? hy)
   have hEx:=Lib.hid (hE.out V0 (KR (k+1) B R) (some ⟨gW,0,none⟩) hM1 hM2 hMw hMk);have bw:=Lib.hid T.bel;clear T hRj hM1 hM2 hM3 hRl hMw hMk hlt hin hE hkk2 hrow ka kb hQ1 h hbl hbq1 hb1
   go_wp2_with fail
   refine hEx.out.mono ?_
   rintro e w3 ⟨gR,K,P,pc,A1,n1,c1,D1,m1,d1,A2,n2,c2,D2,m2,d2,rfl,hm2,hk2,hq2,hi2,x1,x2,b2⟩;unfold ecE;go_upto_region 11 with fail
   obtain⟨gF,hgF⟩:∃ g,g=w3.heap.size:=⟨_,rfl⟩;obtain⟨V,hV⟩:∃ W,W=w3.alloc (.cells #[.slice (some ⟨gR,0,none⟩) n n,.slice P S.p.length pc,.bool (ng l.num),.slice A1 n1 c1,.slice D1 m1 d1,.bool (ng S.f.num),.slice A2 n2 c2,.slice D2 m2 d2] 73):=⟨_,rfl⟩;have B2:Below w3.heap.size w3 V:=by rw[hV];exact (Below.refl _ _).alloc (Nat.le_refl _) _
   have hcb:Cb V gF (ecE gR n P S.p.length pc l A1 n1 c1 D1 m1 d1 S.f A2 n2 c2 D2 m2 d2) 73:=by rw[hV,hgF];exact Cb.new _ _ _
   have hEV:=Lib.hid (ec_env hcb (hm2.bel B2) hk2 (hi2.bel B2) (x1.below B2));replace bw:=Lib.hid (bw.out.trans ((b2.trans (B2.mono b2.size)).mono bw.out.size));rw[←hgF,←hV];have hq2h:=Lib.hid hq2;have hCx:=hCt.out V P pc hEV.out.ir;have u1:V.cell? ⟨gF,1,none⟩=some (.slice P S.p.length pc):=hEV.out.e1;obtain⟨v,hv⟩:∃ v,v=decide (k∈S.p):=⟨_,rfl⟩;rw[←hv] at hCx;replace hCx:=Lib.hid hCx;replace hv:=Lib.hid hv
   clear hV hgF hm2 hi2 x1 x2 b2 B2 hcb hEx hB hCt hq2
   go_wp2_with fail
   refine hCx.out.mono ?_
   rintro e V1 ⟨rfl,bb⟩;replace bw:=Lib.hid (bw.out.trans (bb.mono bw.out.size));replace hEV:=Lib.hid (hEV.out.bel bb);clear bb hCx u1
   cases v
   ·have hkn:Hid (k∉S.p):=Lib.hid (of_decide_eq_false hv.out.symm)
    replace hsl:=Lib.hid (hsl.out hkn.out);replace hpk:=Lib.hid (hpk.out hkn.out);have SE:=Lib.hid (((St.new V1).allocAt V1.heap.size (csE (List.replicate k Zt)).toArray 33 (NoLl.csE _).arr rfl).read (show Rd _ none 0 0 [] from Rd.nil_ _ _ _))
    clear hv;go_upto_region 14 with fail
    obtain⟨gN,hgN⟩:∃ g,g=V1.heap.size:=⟨_,rfl⟩;obtain⟨V2,hV2⟩:∃ W,W=V1.alloc (.cells (csE (List.replicate k Zt)).toArray 33):=⟨_,rfl⟩;rw[←hgN,←hV2] at SE ⊢;clear hgN hV2;have hRx:=Lib.hid (hR.out V2 gF gR K P pc A1 n1 c1 D1 m1 d1 (hEV.out.bel SE.out.bel) hq2h.out);clear hR
    go_wp2_with fail
    refine hRx.out.mono ?_
    rintro e V3 ⟨gC,L,rfl,⟨hg,hcb⟩,hL,hx,hLq,bb⟩;have SL:=Lib.hid ((St_rds (St_own SE.out bb hg hcb (NoLl.csE _).arr) (fun x h=>(hx x h).2)).swap)
    have hxc:Hid (∀ x∈L,x.can):=Lib.hid fun x h=>(hx x h).1
    replace hL:=Lib.hid hL;replace hLq:=Lib.hid hLq;clear SE hg hcb hx bb hRx;go_wp2
    go_loopw [58] (fun iv wr=>∃ (i:Nat) (E:List Rt) (rs':List Rdg),i≤S.p.length∧iv=.int .i64 i∧St V1 wr [(gN,(csE E).toArray,33),(gC,(csE L).toArray,33)] rs'∧E.length=k∧(∀ x∈E,x.can∧x.rdIn rs')∧E.map (·.q)=slt k ff S.p i∧∀ z∈rdsOf L++[(none,0,0,[])],z∈rs') (fun iv _=>S.p.length-(intOf iv).toNat)
    case atStart=>exact⟨0,List.replicate k Zt,_,Nat.zero_le _,rfl,SL.out,List.length_replicate,fun x hx=>(by obtain rfl:=(List.mem_replicate.1 hx).2;exact⟨Zt_can,List.mem_append_right _ List.mem_cons_self,List.mem_append_right _ List.mem_cons_self⟩),by rw[List.map_replicate];rfl,fun z hz=>hz⟩
    case round=>
     clear SL;obtain⟨i,E,rs',hip,rfl,T,hEl,hEc,hEq,hrs'⟩:=hrel;rename World=>V8
     by_cases hli:i<S.p.length
     ·have g6:(i:Int)<(S.p.length:Int):=by omega
      have g7:(0:Int)≤(i:Int):=by omega
      obtain⟨bP,oP,pk,hPA,hp1,pc0⟩:=(hEV.out.bel T.bel).ir.get hli;subst hPA;have hpkk:pk<k:=hpk.out pk (List.mem_of_getElem? hp1);have hpg:Hid (S.p.getD i 0=pk):=Lib.hid (by rw[List.getD_eq_getElem?_getD,hp1];rfl)
      have g8:(pk:Int)<(k:Int):=by omega
      have g9:(0:Int)≤(pk:Int):=by omega
      obtain⟨x,hLi⟩:∃ y,L[i]?=some y:=⟨L[i]'(by rw[hL.out];exact hli),List.getElem?_eq_getElem _⟩
      have xm:=List.mem_of_getElem? hLi;have xq:Hid (x.q=ff i):=Lib.hid (by
       have h1:=el_at hLq.out hLi;rw[←h1,List.getD_eq_getElem?_getD,List.getElem?_map,List.getElem?_range hli,hff.out];rfl)
      have xin:=rdsOf_in (rs:=[(none,0,0,[])]) xm;have xrd:Hid (x.rdIn rs'):=Lib.hid ⟨hrs' _ xin.1,hrs' _ xin.2⟩;obtain⟨⟨x0,x1,x2⟩,_⟩:=St_lcl T.swap hLi;obtain⟨y,hEk⟩:∃ y,E[pk]?=some y:=⟨E[pk]'(by rw[hEl];exact hpkk),List.getElem?_eq_getElem _⟩
      have xc:=Lib.hid (hxc.out x xm);have e1h:V8.cell? ⟨gF,1,none⟩=some (.slice (some ⟨bP,oP,none⟩) S.p.length pc):=(hEV.out.bel T.bel).e1;have hih:=Lib.hid hli;replace e1h:=Lib.hid e1h;replace pc0:=Lib.hid pc0;replace T:=Lib.hid T;replace hEl:=Lib.hid hEl;replace hEc:=Lib.hid hEc;replace hEq:=Lib.hid hEq;replace hEk:=Lib.hid hEk;replace hrs':=Lib.hid hrs';clear hli hip hp1 hpkk hLi xm xin;go_upto_region 17 with fail
      obtain⟨gX,hgX⟩:∃ g,g=V8.heap.size:=⟨_,rfl⟩;obtain⟨V9,hV9⟩:∃ W,W=V8.alloc (.cells #[.bool x.b,.slice x.A x.n x.c,.slice x.D x.m x.d] 33):=⟨_,rfl⟩;have B9:Below V8.heap.size V8 V9:=by rw[hV9];exact (Below.refl _ _).alloc (Nat.le_refl _) _
      have hCX:Cb V9 gX #[.bool x.b,.slice x.A x.n x.c,.slice x.D x.m x.d] 33:=by rw[hV9,hgX];exact Cb.new _ _ _
      rw[←hV9,←hgX];have c0_:=Lib.hid (hCX.cell (i:=0) rfl);have c1_:=Lib.hid (hCX.cell (i:=1) rfl);have c2_:=Lib.hid (hCX.cell (i:=2) rfl);replace e1h:=Lib.hid (bel_cell B9 e1h.out);replace pc0:=Lib.hid (bel_cell B9 pc0.out);replace T:=Lib.hid (T.out.call B9);clear hV9 hgX hCX B9 x0 x1 x2;refine Wl.start (fun W=>Below V9.heap.size V9 W) [8] rfl ?_
      have hS:Below V9.heap.size V9 V9.drew:=(Below.refl _ _).drew;refine Wl.t (i:=0) (v:=.slice (some ⟨gN,0,none⟩) k k) (some 63) at0 (hy:=fun _ _=>by kernel_rfl) (hS:=hS) (h:=?_)
      refine Wl.t (i:=1) (v:=.pointer (some ⟨gF,1,none⟩)) (some 64) at1 (hy:=fun _ _=>by go_simp) (hS:=hS) (h:=?_)
      refine Wl.t (i:=2) (v:=.slice (some ⟨bP,oP,none⟩) S.p.length pc) (some 65) at2 (hy:=fun W hS=>by (have k0:=bel_cell hS e1h.out;clear hS;go_simp)) (hS:=hS) (h:=?_)
      refine Wl.t (i:=3) (v:=.int .i64 i) (some 66) at3 (hy:=fun _ _=>by kernel_rfl) (hS:=hS) (h:=?_)
      refine Wl.t (i:=4) (v:=.pointer (some ⟨bP,oP+i,none⟩)) (some 67) at4 (hy:=fun _ _=>by go_simp) (hS:=hS) (h:=?_)
      refine Wl.t (i:=5) (v:=.int .i64 pk) (some 68) at5 (hy:=fun W hS=>by (have k0:=bel_cell hS pc0.out;clear hS;go_simp)) (hS:=hS) (h:=?_)
      refine Wl.t (i:=6) (v:=.agg #[.bool x.b,.slice x.A x.n x.c,.slice x.D x.m x.d]) (some 69) at6 (hy:=fun W hS=>by (have k0:=bel_cell hS c0_.out;have k1:=bel_cell hS c1_.out;have k2:=bel_cell hS c2_.out;clear hS;go_simp)) (hS:=hS) (h:=?_)
      refine Wl.t (i:=7) (v:=.pointer (some ⟨gN,pk*3,none⟩)) (some 70) at7 (hy:=fun _ _=>by go_simp) (hS:=hS) (h:=?_)
      obtain⟨Va,hVa⟩:∃ W,W=V9.drew:=⟨_,rfl⟩;rw[←hVa] at hS ⊢;clear hVa;have S3:=T.out.call hS;obtain⟨⟨k0,k1,k2⟩,f0⟩:=St_lcl S3 hEk.out;have f2:=f0 (pk*3);have f3:=f0 (pk*3+1);have f4:=f0 (pk*3+2);obtain⟨Vb,hVb,T⟩:∃ W,W=((Va.setCell ⟨gN,pk*3,none⟩ (.bool x.b)).setCell ⟨gN,pk*3+1,none⟩ (.slice x.A x.n x.c)).setCell ⟨gN,pk*3+2,none⟩ (.slice x.D x.m x.d)∧Hid (St V1 W [(gN,(csE (E.set pk x)).toArray,33),(gC,(csE L).toArray,33)] rs'):=⟨_,rfl,Lib.hid (St_lset S3 pk x)⟩
      clear f0
      try simp only[Act.put,sZ0,sZ1,sZ2]
      refine Wl.s (i:=8) at8 (by kernel_rfl) (by kernel_rfl) (by kernel_rfl) fun K' hK=>?_
      go_simp
      rw[←hVb];refine hK.out _ _ ?_
      clear hK K' k0 k1 k2 f2 f3 f4 hVb S3 hS;refine Wl.done (by kernel_rfl) ?_
      clear e1h pc0 c0_ c1_ c2_ hEk;have hp1:=hih.out;go_wp2
      go_roundw
      case rel=>exact⟨i+1,E.set pk x,rs',by omega,by go_num,T.out,by rw[List.length_set];exact hEl.out,fun z hz=>(by rcases List.mem_or_eq_of_mem_set hz with hz | rfl;exact hEc.out z hz;exact⟨xc.out,xrd.out⟩),by rw[List.map_set,hEq.out];show _=(slt k ff S.p i).set (S.p.getD i 0) (ff i);rw[hpg.out,←xq.out],hrs'.out⟩
      case measure=>simp[intOf];omega
     ·have hpi:i=S.p.length:=by omega
      have hqf:Hid (E.map (·.q)=slt k ff S.p S.p.length):=Lib.hid (by rw[hEq,hpi])
      have hSr:=Lib.hid (St_srm T List.mem_cons_self hEl (fun x hx=>(hEc x hx).2))
      have hcn:=Lib.hid (fun x hx=>(hEc x hx).1)
      replace bw:=Lib.hid (bw.out.trans (T.bel.mono bw.out.size));have g6:¬ ((i:Int)<(S.p.length:Int)):=by omega
      clear T hEc hEq hEl hrs' hip hli hpi;go_wp2
      go_ret2
      exact .inl ⟨hkn.out,_,k,k,E,rfl,hSr.out,hcn.out,by rw[hsl.out];exact hqf.out,by omega,bw.out⟩
   ·have hkn:Hid (k∈S.p):=Lib.hid (of_decide_eq_true hv.out.symm)
    clear hv hsl hpk hR hEV;go_wp2
    go_ret2
    exact .inr ⟨hkn.out,none,0,0,[],rfl,Sr.none_ _ _ _,fun r hr=>(by cases hr),rfl,by omega,bw.out⟩
end Go.Proofs.YthlinhconnmbcaaGreat
namespace GE
def Tw (m B:Nat) (q:Rat):Prop:=∃ z:Int,q*(m:Rat)=(z:Rat)∧z.natAbs≤B
theorem Tw.mono {m B C:Nat} {q:Rat} (h:Tw m B q) (hc:B≤C):Tw m C q:=by
 obtain⟨z,h1,h2⟩:=h;exact⟨z,h1,Nat.le_trans h2 hc⟩
theorem Tw.zero {m B:Nat}:Tw m B 0:=⟨0,by rw[Rat.zero_mul];rfl,Nat.zero_le _⟩
theorem Tw.add {m B C:Nat} {q r:Rat} (h:Tw m B q) (g:Tw m C r):Tw m (B+C) (q+r):=by
 obtain⟨z,h1,h2⟩:=h;obtain⟨y,g1,g2⟩:=g;refine⟨z+y,?_,Nat.le_trans (Int.natAbs_add_le z y) (by omega)⟩
 rw[Rat.add_mul,h1,g1,Rat.intCast_add]
theorem Tw.mul {m k B C:Nat} {q r:Rat} (h:Tw m B q) (g:Tw k C r):Tw (m*k) (B*C) (q*r):=by
 obtain⟨z,h1,h2⟩:=h;obtain⟨y,g1,g2⟩:=g;refine⟨z*y,?_,by rw[Int.natAbs_mul];exact Nat.mul_le_mul h2 g2⟩
 rw[Rat.intCast_mul,←h1,←g1,Rat.natCast_mul]
 grind
theorem Tw.sm {m B:Nat} {f:Nat→Rat}:∀ {n:Nat},(∀ i<n,Tw m B (f i))→Tw m (n*B) (sm f n)
 | 0,_=>by rw[Nat.zero_mul];exact Tw.zero
 | n+1,h=>by
  rw[Nat.add_mul,Nat.one_mul];exact (Tw.sm fun i hi=>h i (by omega)).add (h n (by omega))
theorem Tw.nd {m B:Nat} {q:Rat} (hm:1≤m) (h:Tw m B q):q.num.natAbs≤B∧q.den≤m:=by
 obtain⟨z,h1,h2⟩:=h;have h9:(q.den:Rat)≠0:=fun h=>q.den_nz (by exact_mod_cast h)
 have e0:q*(q.den:Rat)=(q.num:Rat):=by
  have h8:Rat.divInt q.num q.den=q:=Rat.num_divInt_den q;rw[Rat.divInt_eq_div] at h8;have h7:(q.num:Rat) / (q.den:Rat)=q:=h8
  grind
 have e1:(q.num:Rat)*(m:Rat)=(z:Rat)*(q.den:Rat):=by rw[←e0,←h1];grind
 have e2:q.num*(m:Int)=z*(q.den:Int):=by
  have:((q.num*(m:Int):Int):Rat)=((z*(q.den:Int):Int):Rat):=by
   rw[Rat.intCast_mul,Rat.intCast_mul];exact e1
  exact Rat.intCast_inj.1 this
 have e3:q.num.natAbs*m=z.natAbs*q.den:=by
  have:=congrArg Int.natAbs e2
  rwa [Int.natAbs_mul,Int.natAbs_mul,Int.natAbs_natCast,Int.natAbs_natCast] at this
 have d1:q.den∣m:=q.reduced.symm.dvd_of_dvd_mul_left ⟨z.natAbs,by rw[e3,Nat.mul_comm]⟩
 have d2:q.num.natAbs∣z.natAbs:=q.reduced.dvd_of_dvd_mul_right ⟨m,e3.symm⟩;refine⟨?_,Nat.le_of_dvd hm d1⟩
 rcases Nat.eq_zero_or_pos z.natAbs with h0 | h0
 ·rw[h0,Nat.zero_mul] at e3
  rcases Nat.mul_eq_zero.1 e3 with h | h<;>omega
 ·exact Nat.le_trans (Nat.le_of_dvd h0 d2) h2
theorem Tw.s2 {m B:Nat} {q:Rat} (hm:1≤m) (h:Tw m B q) (h1:B≤4294967296) (h2:m≤4294967296):S2 1 1 q:=by
 have:=h.nd hm;exact⟨by rw[Nat.pow_one];omega,by rw[Nat.pow_one];omega⟩
def mNum (v:Int):Rat:=Rat.divInt (v%61-30) (v.tdiv 61%4+1)
theorem tw_div {z:Int} {d:Int} (h:d=1∨d=2∨d=3∨d=4) (hz:z.natAbs≤30):Tw 12 360 (Rat.divInt z d):=by
 rcases h with rfl | rfl | rfl | rfl
 ·exact⟨z*12,by rw[Rat.divInt_eq_div,Rat.intCast_mul];grind,by omega⟩
 ·exact⟨z*6,by rw[Rat.divInt_eq_div,Rat.intCast_mul];grind,by omega⟩
 ·exact⟨z*4,by rw[Rat.divInt_eq_div,Rat.intCast_mul];grind,by omega⟩
 ·exact⟨z*3,by rw[Rat.divInt_eq_div,Rat.intCast_mul];grind,by omega⟩
theorem mNum_tw (v:Int):Tw 12 360 (mNum v):=tw_div (by omega) (by omega)
def mdF (k:Nat) (l:List Int) (i j:Nat):Rat:=mNum (l.getD (i*k+j) 0)
def mdQ (n k:Nat) (l:List Int):List (List Rat):=mk n k (mdF k l)
theorem mdF_tw {k:Nat} {l:List Int} {i j:Nat}:Tw 12 360 (mdF k l i j):=mNum_tw _
theorem mk_all {n k:Nat} {A:Nat→Nat→Rat} {P:Rat→Prop} (h:∀ i j,P (A i j)):∀ r∈mk n k A,∀ q∈r,P q:=by
 intro r hr q hq;unfold mk at hr;obtain⟨i,_,rfl⟩:=List.mem_map.1 hr;obtain⟨j,_,rfl⟩:=List.mem_map.1 hq;exact h i j
end GE
