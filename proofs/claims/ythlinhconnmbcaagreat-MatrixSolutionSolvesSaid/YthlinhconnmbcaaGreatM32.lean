/- MatrixSolutionSolves. -/
import Derived.Test.YthlinhconnmbcaaGreatM31
set_option maxRecDepth 100000
set_option maxHeartbeats 40000000
set_option linter.unusedVariables false
namespace Go.Proofs.YthlinhconnmbcaaGreat
open Go.RowKit RQ GE
set_option linter.unusedVariables false
theorem slt_len {k:Nat} {f:Nat→Rat} {ps:List Nat}:∀ {i:Nat},(slt k f ps i).length=k
 | 0=>List.length_replicate
 | i+1=>by show ((slt k f ps i).set _ _).length=k;rw[List.length_set];exact slt_len
theorem slt_all {P:Rat→Prop} {k:Nat} {f:Nat→Rat} {ps:List Nat} (h0:P 0) (hf:∀ i,P (f i)):∀ {i:Nat},∀ q∈slt k f ps i,P q
 | 0,q,hq=>by rw[(List.mem_replicate.1 hq).2];exact h0
 | i+1,q,hq=>by
  rcases List.mem_or_eq_of_mem_set hq with h | rfl
  ·exact slt_all h0 hf q h
  ·exact hf i
theorem slt_get {k:Nat} {f:Nat→Rat} {ps:List Nat} (hs:ps.Pairwise (· < ·)) (hl:∀ x∈ps,x<k) (j:Nat):∀ {i:Nat},i≤ps.length→(slt k f ps i).getD j 0=if j∈ps.take i then f (ps.idxOf j) else 0
 | 0,_=>by
  show (List.replicate k (0:Rat)).getD j 0=_
  rw[List.take_zero,if_neg (show ¬ j∈([]:List Nat) from List.not_mem_nil),List.getD_eq_getElem?_getD,List.getElem?_replicate]
  split<;>rfl
 | i+1,h=>by
  have e:ps.getD i 0=ps[i]:=by rw[List.getD_eq_getElem?_getD,List.getElem?_eq_getElem (by omega)];rfl
  show ((slt k f ps i).set (ps.getD i 0) _).getD j 0=_
  rw[e,getQ_set (by rw[slt_len];exact hl _ (List.getElem_mem _)),slt_get hs hl j (by omega),List.take_succ_eq_append_getElem (by omega)]
  by_cases hj:j=ps[i]
  ·rw[if_pos hj,if_pos (List.mem_append.2 (Or.inr (List.mem_singleton.2 hj))),hj,idx_get hs]
  ·rw[if_neg hj]
   have e3:(j∈ps.take i)=(j∈ps.take i++[ps[i]]):=propext ⟨fun h=>List.mem_append.2 (Or.inl h),fun h=>(List.mem_append.1 h).resolve_right fun h=>hj (List.mem_singleton.1 h)⟩
   simp only[e3]
theorem widQ_mk {n k:Nat} {Q:List (List Rat)} {bq:List Rat} (hq:Q.length=n) (hr:GE.rct k Q) (hb:bq.length=n):widQ Q bq=mk n (k+1) (wide k (el Q) fun i=>bq.getD i 0):=by
 refine ext_el (n:=n) (k:=k+1) (by unfold widQ;rw[List.length_zipWith];omega) mk_len (fun r hr'=>?_) mk_rct fun i hi j hj=>?_
 ·unfold widQ at hr'
  obtain⟨a,ha⟩:=List.getElem?_of_mem hr'
  rw[List.getElem?_zipWith] at ha
  cases h1:Q[a]? with
  | none=>rw[h1] at ha;cases ha
  | some s=>
   cases h2:bq[a]? with
   | none=>rw[h1,h2] at ha;cases ha
   | some x=>
    rw[h1,h2] at ha;obtain rfl:=Option.some.inj ha;rw[List.length_append,hr s (List.mem_of_getElem? h1)];rfl
 ·rw[el_mk hi hj]
  have h1:Q[i]?=some Q[i]:=List.getElem?_eq_getElem (by omega)
  have h2:bq[i]?=some bq[i]:=List.getElem?_eq_getElem (by omega)
  have h3:Q[i].length=k:=hr _ (List.getElem_mem _);have e:(widQ Q bq)[i]?=some (Q[i]++[bq[i]]):=by unfold widQ;rw[List.getElem?_zipWith,h1,h2]
  unfold el;rw[List.getD_eq_getElem?_getD (l:=widQ Q bq),e]
  show (Q[i]++[bq[i]]).getD j 0=_
  unfold wide
  by_cases h:j<k
  ·rw[if_pos h,List.getD_eq_getElem?_getD,List.getElem?_append_left (by omega)]
   show _=(Q.getD i []).getD j 0
   rw[List.getD_eq_getElem?_getD (l:=Q),h1,List.getD_eq_getElem?_getD];rfl
  ·obtain rfl:j=k:=by omega
   rw[if_neg h,List.getD_eq_getElem?_getD,List.getElem?_append_right (by omega),h3,Nat.sub_self]
   show _=bq.getD i 0
   rw[List.getD_eq_getElem?_getD,h2];rfl
theorem solQ_el {n k:Nat} {Q:List (List Rat)} {bq:List Rat} (hn:0<n) (hq:Q.length=n) (hr:GE.rct k Q) (hb:bq.length=n) (h:k∉pv n (k+1) (wide k (el Q) fun i=>bq.getD i 0)) (j:Nat):(solQ n k Q bq).getD j 0=sol n k (el Q) (fun i=>bq.getD i 0) j:=by
 have e:wcol n k=k+1:=by unfold wcol;rw[if_neg (by omega)]
 unfold solQ sol;rw[e,widQ_mk hq hr hb];have F:=rr_rf (n:=n) (k:=k+1) (A:=wide k (el Q) fun i=>bq.getD i 0)
 show (slt k (fun i=>el (rr n (k+1) (wide k (el Q) fun i=>bq.getD i 0)) i k) (pv n (k+1) (wide k (el Q) fun i=>bq.getD i 0)) (pv n (k+1) (wide k (el Q) fun i=>bq.getD i 0)).length).getD j 0=_
 rw[slt_get F.mono (fun x hx=>by
  have h1:=F.lt x hx;have h2:x≠k:=fun e=>h (e ▸ hx)
  omega) j (Nat.le_refl _),List.take_length]
def toGw (x:Rt):Gw:=⟨x.b,⟨x.A,x.n,x.c,x.x⟩,⟨x.D,x.m,x.d,x.y⟩⟩
theorem Sr.lr {w:World} {A:Option Addr} {n c:Nat} {L:List Rt} (h:Sr w A n c L):LR rwC w A n (L.map toGw):=by
 refine⟨by rw[List.length_map];exact h.len,?_,fun y hy=>?_⟩
 ·rcases h.mem with h0 | ⟨b,o,hA,hlt,hc⟩
  ·exact .inl h0
  ·refine .inr ⟨b,o,hA,hlt,fun i y hi k v hv=>?_⟩
   rw[List.getElem?_map] at hi
   obtain⟨x,hx,rfl⟩:=Option.map_eq_some_iff.1 hi;obtain⟨k0,k1,k2⟩:=hc i x hx;rw[rw_cs] at hv
   match k,hv with
   | 0,hv=>obtain rfl:=Option.some.inj hv;exact k0
   | 1,hv=>obtain rfl:=Option.some.inj hv;exact k1
   | 2,hv=>obtain rfl:=Option.some.inj hv;exact k2
 ·obtain⟨x,hx,rfl⟩:=List.mem_map.1 hy
  exact⟨trivial,(h.rd x hx).1,(h.rd x hx).2⟩
theorem can_qV {x:Rt} (h:x.can):rwV (toGw x)=qV x.q:=by
 unfold rwV qV toGw;rw[h.1,h.2.1,h.2.2.1]
theorem cans_qV {L:List Rt} (h:∀ x∈L,x.can):(L.map toGw).map rwV=(L.map (·.q)).map qV:=by
 rw[List.map_map,List.map_map];exact List.map_congr_left fun x hx=>can_qV (h x hx)
def RetLl (k:Nat) (Q:List Rat) (w:World) (e:Ending) (w':World):Prop:=∃ A c L,e=.returned (.slice A k c)∧Sr w' A k c L∧(∀ x∈L,x.can)∧L.map (·.q)=Q∧Below w.heap.size w w'
def RetL0 (k:Nat) (Q:List Rat) (w:World) (e:Ending) (w':World):Prop:=∃ A c L,e=.returned (.tuple #[.slice A k c,.int .i64 0])∧Sr w' A k c L∧(∀ x∈L,x.can)∧L.map (·.q)=Q∧Below w.heap.size w w'
theorem RowO.ll {Q:List Rat} {k:Nat} {w W:World} {e:Ending} (h:RowO Q w e W) (hs:∀ q∈Q,Rs q 9000000) (hl:Q.length=k):RetLl k Q w e W:=by
 obtain⟨A,c,L,bs,rs,rfl,S,hI,hV⟩:=h;obtain⟨h1,h2,h3⟩:=row_sr (s:=⟨A,c,L⟩) hI S hV hs;have e:L.length=k:=by rw[←hl];have:=congrArg List.length hV;simpa using this
 rw[e] at h1 ⊢;exact⟨A,c,_,rfl,h1,h3,h2,S.bel⟩
theorem msum_any (P0 Q0:List Rat) (q:Rat) (L K:List Rt) (A:Option Addr) (k c:Nat) (A':Option Addr) (c':Nat) (X:Rt) (w:World) (h:Sr w A k c L) (h':Sr w A' k c' K) (cl:∀ x∈L,x.can) (ck:∀ x∈K,x.can) (hL:L.map (·.q)=P0) (hK:K.map (·.q)=Q0) (sP:∀ x∈P0,Rs x 8000) (sQ:∀ x∈Q0,Rs x 8000) (hk:k≤1000) (hX:X.can) (hr:X.raw w) (hq:X.q=q) (sq:Rs q 8000):Calls Tryz.prog 24 #[.slice A k c,.slice A' k c',.agg #[.bool X.b,.slice X.A X.n X.c,.slice X.D X.m X.d]] w (RetLl k (plusQ P0 (timesQ Q0 q)) w):=by
 have hQl:Q0.length=k:=by rw[←hK,List.length_map];exact h'.len
 have hPl:P0.length=k:=by rw[←hL,List.length_map];exact h.len
 have sT:∀ x∈timesQ Q0 q,Rs x 16000:=fun x hx=>by
  obtain⟨y,hy,rfl⟩:=List.mem_map.1 hx;exact (sQ y hy).mul sq
 have hT:=Lib.hid (fun W (hb:Below w.heap.size w W)=>(timesR_any Q0 q (K.map toGw) A' k c' (toGw X) W (h'.bel hb).lr (by rw[cans_qV ck,hK]) (fun x hx=>(sQ x hx).mono (by omega)) hk (by rw[can_qV hX,hq]) (hr.bel hb).1 (hr.bel hb).2 (sq.mono (by omega))).mono fun e w' hx=>hx.ll (k:=k) (fun x hx=>(sT x hx).mono (by omega)) (by show (Q0.map _).length=k;rw[List.length_map];exact hQl))
 have hTl:(timesQ Q0 q).length=k:=by show (Q0.map _).length=k;rw[List.length_map];exact hQl
 have hP:=Lib.hid (fun W (hb:Below w.heap.size w W) A2 c2 L2 (s2:Sr W A2 k c2 L2) (c2':∀ x∈L2,x.can) (q2:L2.map (·.q)=timesQ Q0 q)=>(plusR_any P0 (timesQ Q0 q) (L.map toGw) (L2.map toGw) A k c A2 c2 W (h.bel hb).lr s2.lr (by rw[cans_qV cl,hL]) (by rw[cans_qV c2',q2]) (fun x hx=>(sP x hx).mono (by omega)) (fun x hx=>(sT x hx).mono (by omega)) hk).mono fun e w' hx=>hx.ll (k:=k) (fun x hx=>by
  obtain⟨i,hi⟩:=List.getElem?_of_mem hx
  unfold plusQ at hi;rw[List.getElem?_zipWith] at hi
  cases h1:P0[i]? with
  | none=>rw[h1] at hi;cases hi
  | some a=>
   cases h2:(timesQ Q0 q)[i]? with
   | none=>rw[h1,h2] at hi;cases hi
   | some b=>
    rw[h1,h2] at hi;obtain rfl:=Option.some.inj hi;exact ((sP a (List.mem_of_getElem? h1)).add (sT b (List.mem_of_getElem? h2))).mono (by omega)) (by show (List.zipWith _ _ _).length=k;rw[List.length_zipWith,hPl,hTl,Nat.min_self]))
 have S:=Lib.hid ((St.new w).allocAt w.heap.size #[.bool X.b,.slice X.A X.n X.c,.slice X.D X.m X.d] 33 (noL3 _ _ _ _ _ _ _) rfl);obtain⟨xb,hxb⟩:∃ x,x=X.b:=⟨_,rfl⟩;clear h h' cl ck hL hK sP sQ hX hr hq sq sT hQl hPl hTl hk hxb;go_enter Tryz.func24,Tryz.ntmps24;go_upto_region 1 with fail
 obtain⟨u0,u1,u2⟩:=S.out.c3 0 rfl;have B0:=Lib.hid S.out.bel;obtain⟨w1,hw1⟩:∃ W,W=w.alloc (.cells #[.bool X.b,.slice X.A X.n X.c,.slice X.D X.m X.d] 33):=⟨_,rfl⟩;rw[←hw1] at u0 u1 u2 B0 ⊢;clear hw1 S;have hT1:=Lib.hid (hT.out _ B0.out);clear hT
 go_wp2_with fail
 refine hT1.out.mono ?_
 rintro e w2 ⟨A2,c2,L2,rfl,s2,cc2,q2,bb⟩;have B1:=Lib.hid (B0.out.trans (bb.mono B0.out.size));have hP1:=Lib.hid (hP.out _ B1.out A2 c2 L2 s2 cc2 q2);clear bb s2 cc2 q2 hP hT1 u0 u1 u2
 go_wp2_with fail
 refine hP1.out.mono ?_
 rintro e w3 ⟨A3,c3,L3,rfl,s3,cc3,q3,bb⟩;have hfin:=Lib.hid (show RetLl k (plusQ P0 (timesQ Q0 q)) w (.returned (.slice A3 k c3)) w3 from ⟨A3,c3,L3,rfl,s3,cc3,q3,B1.out.trans (bb.mono B1.out.size)⟩)
 clear bb s3 cc3 q3 hP1 B0 B1;go_wp2;go_ret;exact hfin.out
theorem vec_any (k:Nat) (L:List Int) (A0:Option Addr) (n0 c0:Nat) (w:World) (h:LR intC w A0 n0 L) (hv:∀ i,-9223372036854775808≤L.getD i 0∧L.getD i 0≤9223372036854775807) (hk:k≤8) (hk0:0<k):Calls Tryz.prog 21 #[.int .i64 k,.slice A0 n0 c0] w (RetLl k ((List.range k).map fun j=>mNum (L.getD j 0)) w):=by
 have hM:=Lib.hid (made_any 1 k L A0 n0 c0 w h hv (by omega) hk (by omega) (fun _=>hk0))
 have hQ:(mdQ 1 k L)[0]?=some ((List.range k).map fun j=>mNum (L.getD j 0)):=by
  unfold mdQ mk mdF;rw[List.getElem?_map,List.getElem?_range (by omega)]
  simp
 obtain⟨Q,hQe⟩:∃ Q,Q=(List.range k).map fun j=>mNum (L.getD j 0):=⟨_,rfl⟩
 rw[←hQe] at hQ ⊢;replace hQ:=Lib.hid hQ;clear h hv hQe hk hk0;go_enter Tryz.func21,Tryz.ntmps21
 go_wp2_with fail
 refine hM.out.mono ?_
 rintro e w1 ⟨A1,c1,K,rfl,m1,g,bb⟩;obtain⟨b,o,r,rfl,hr,hrm,e0⟩:=m1.get (show 0<1 by omega)
 rw[Nat.add_zero,g.rn r hrm] at e0;have hfin:=Lib.hid (show RetLl k Q w (.returned (.slice r.A k r.c)) w1 from ⟨r.A,r.c,r.L,rfl,by have:=m1.rd r hrm;rwa [g.rn r hrm] at this,g.can r hrm,by
  have:=hQ.out;rw[←g.q] at this;unfold qM at this;rw[List.getElem?_map,hr] at this
  exact Option.some.inj this,bb⟩)
 clear hM hQ m1 g bb hr hrm;go_wp2;go_ret;exact hfin.out
theorem law_ss (b b2:UInt8) (L1:List Int) (A1:Option Addr) (l1 c1:Nat) (L2:List Int) (A2:Option Addr) (l2 c2:Nat) (L3:List Int) (A3:Option Addr) (l3 c3:Nat) (w:World) (h1:LR intC w A1 l1 L1) (b1:∀ i,-9223372036854775808≤L1.getD i 0∧L1.getD i 0≤9223372036854775807) (h2:LR intC w A2 l2 L2) (b2':∀ i,-9223372036854775808≤L2.getD i 0∧L2.getD i 0≤9223372036854775807) (h3:LR intC w A3 l3 L3) (b3':∀ i,-9223372036854775808≤L3.getD i 0∧L3.getD i 0≤9223372036854775807):Calls Tryz.prog 5 #[.int .u8 (b.toNat:Int),.int .u8 (b2.toNat:Int),.slice A1 l1 c1,.slice A2 l2 c2,.slice A3 l3 c3] w fun e w'=>e=.returned (.bool true)∧Below w.heap.size w w':=by
 generalize b.toNat=b0;generalize b2.toNat=b3;obtain⟨n1,hn1⟩:∃ r:Nat,r=b0%4:=⟨_,rfl⟩;obtain⟨k1,hk1⟩:∃ r:Nat,r=b3%4:=⟨_,rfl⟩;have rv:(b0:Int)%4=(n1:Int):=by omega
 have rv2:(b3:Int)%4=(k1:Int):=by omega
 have wv:IntKind.i64.wrap (n1:Int)=(n1:Int):=by rw[IntKind.wrap_i64];omega
 have wv2:IntKind.i64.wrap (k1:Int)=(k1:Int):=by rw[IntKind.wrap_i64];omega
 obtain⟨n,hn⟩:∃ r:Nat,r=1+n1:=⟨_,rfl⟩;obtain⟨k,hk⟩:∃ r:Nat,r=1+k1:=⟨_,rfl⟩;have en:1+(n1:Int)=(n:Int):=by omega
 have ek:1+(k1:Int)=(k:Int):=by omega
 have hn4:n≤4:=by omega
 have hk4:k≤4:=by omega
 have hn0:0<n:=by omega
 have hk0:0<k:=by omega
 have wn:IntKind.i64.wrap (n:Int)=(n:Int):=by rw[IntKind.wrap_i64];omega
 have wk:IntKind.i64.wrap (k:Int)=(k:Int):=by rw[IntKind.wrap_i64];omega
 obtain⟨X,hX⟩:∃ X,X=mdQ n k L1:=⟨_,rfl⟩;have X1:∀ r∈X,∀ q∈r,Rs q 1:=by rw[hX];exact mdQ_rs
 have XT:∀ i j,Tw 12 360 (el X i j):=fun i j=>by rw[hX];exact mdQ_el i j
 have X2:∀ r∈X,∀ q∈r,S2 1 1 q:=by rw[hX];exact mdQ_s2
 have X3:=(sz11 hn4 (show k≤8 by omega) X2).1
 have hXl:X.length=n∧GE.rct k X:=by rw[hX];exact⟨mk_len,mk_rct⟩
 have hM1:=Lib.hid (fun W (hW:LR intC W A1 l1 L1)=>made_any n k L1 A1 l1 c1 W hW b1 (by omega) (by omega) (by omega) (by omega))
 rw[←hX] at hM1
 -- the vector
 obtain⟨V,hV⟩:∃ V,V=(List.range k).map fun j=>mNum (L2.getD j 0):=⟨_,rfl⟩
 have hM2:=Lib.hid (fun W (hW:LR intC W A2 l2 L2)=>vec_any k L2 A2 l2 c2 W hW b2' (by omega) hk0)
 rw[←hV] at hM2;have VT:∀ q∈V,Tw 12 360 q:=fun q hq=>by
  rw[hV] at hq;obtain⟨j,_,rfl⟩:=List.mem_map.1 hq;exact mNum_tw _
 have VT':∀ j,Tw 12 360 (V.getD j 0):=fun j=>by
  rw[List.getD_eq_getElem?_getD]
  cases h:V[j]? with
  | none=>exact Tw.zero
  | some q=>exact VT q (List.mem_of_getElem? h)
 -- the right side
 obtain⟨Bq,hB⟩:∃ Bq,Bq=(List.range n).map fun i=>sm (fun j=>el X i j*V.getD j 0) k:=⟨_,rfl⟩
 have hBl:Bq.length=n:=by rw[hB,List.length_map,List.length_range]
 have hBi:∀ i<n,Bq.getD i 0=sm (fun j=>el X i j*V.getD j 0) k:=fun i hi=>by
  rw[hB,List.getD_eq_getElem?_getD,List.getElem?_map,List.getElem?_range hi];rfl
 have BT:∀ q∈Bq,Tw 144 (4*129600) q:=fun q hq=>by
  rw[hB] at hq;obtain⟨i,_,rfl⟩:=List.mem_map.1 hq;exact (Tw.sm (m:=144) (B:=129600) fun t _=>(XT i t).mul (VT' t)).mono (by omega)
 have B2:∀ q∈Bq,S2 2 2 q:=fun q hq=>((BT q hq).s2 (by omega) (by omega) (by omega)).mono (by omega) (by omega)
 have B1:∀ q∈Bq,Rs q 1:=fun q hq=>by
  have:=(BT q hq).nd (by omega)
  exact⟨by rw[Nat.pow_one];omega,by rw[Nat.pow_one];omega⟩
 have hap:∀ (K:List Ro) (L:List Rt) (Y:List Rat),Gd K n k X→L.map (·.q)=Y→apQ K L=(List.range n).map fun i=>sm (fun j=>el X i j*Y.getD j 0) k:=fun K L Y g hL=>by
  refine List.ext_getElem? fun i=>?_
  unfold apQ;rw[List.getElem?_map,List.getElem?_map]
  rcases Nat.lt_or_ge i n with hi | hi
  ·obtain⟨r,e⟩:∃ r,K[i]?=some r:=⟨K[i]'(by rw[g.len];exact hi),List.getElem?_eq_getElem _⟩
   rw[e,List.getElem?_range hi]
   simp only[Option.map_some,Option.some.injEq];rw[g.col,dq_sm,hL];refine sm_congr fun t _=>?_
   congr 1
   unfold GE.el;rw[←g.q,←qM_at i,e];rfl
  ·rw[List.getElem?_eq_none (by rw[g.len];exact hi),List.getElem?_eq_none (by rw[List.length_range];exact hi)];rfl
 have hAp:=Lib.hid (fun W K A c L A' c' Y (g:Gd K n k X) (m:Mr W A n c K) (s:Sr W A' k c' L) (cn:∀ x∈L,x.can) (hL:L.map (·.q)=Y) (sY:∀ q∈Y,Rs q 8000)=>by
  have ll:ltL L:=fun x hx=>⟨can_k (cn x hx) (s.rd x hx),sY _ (by rw[←hL];exact List.mem_map_of_mem hx)⟩
  have h:=mapply_yes K A n c L A' k c' W m g.big g.nbig s (g.lt m fun r hr q hq=>(X1 r hr q hq).mono (by omega)) ll g.wf g.col.symm (by omega)
  rw[hap K L Y g hL] at h;exact h)
 have hBap:(List.range n).map (fun i=>sm (fun j=>el X i j*V.getD j 0) k)=Bq:=hB.symm
 -- solutions
 have hnp:k∉pv n (k+1) (wide k (el X) fun i=>Bq.getD i 0):=sol_exists (v:=fun j=>V.getD j 0) fun i hi=>(hBi i hi).symm
 obtain⟨Y,hY⟩:∃ Y,Y=solQ n k X Bq:=⟨_,rfl⟩;have hYl:Y.length=k:=by rw[hY];exact slt_len
 have hYs:∀ i<n,sm (fun j=>el X i j*Y.getD j 0) k=Bq.getD i 0:=fun i hi=>by
  rw[←sol_solves hnp i hi];exact sm_congr fun j _=>by rw[hY,solQ_el hn0 hXl.1 hXl.2 hBl hnp]
 have hw:wcol n k=k+1:=by unfold wcol;rw[if_neg (by omega)]
 have hpv:(red (k+1) (widQ X Bq)).p=pv n (k+1) (wide k (el X) fun i=>Bq.getD i 0):=by rw[widQ_mk hXl.1 hXl.2 hBl];rfl
 have Y1:∀ q∈Y,Rs q 625:=by
  rw[hY];unfold solQ;rw[hw];have hWs:∀ r∈widQ X Bq,∀ q∈r,Rs q 1:=by
   rw[widQ_mk hXl.1 hXl.2 hBl];refine mk_all fun i j=>?_
   unfold wide
   split
   ·exact elP (rs_zero (by omega)) X1 i j
   ·show Rs (Bq.getD i 0) 1
    rw[List.getD_eq_getElem?_getD]
    cases h:Bq[i]? with
    | none=>exact rs_zero (by omega)
    | some q=>exact B1 q (List.mem_of_getElem? h)
  have hsh:(widQ X Bq).length=n∧GE.rct (k+1) (widQ X Bq):=by rw[widQ_mk hXl.1 hXl.2 hBl];exact⟨mk_len,mk_rct⟩
  exact slt_all (rs_zero (by omega)) fun i=>(red_rsB hsh.1 hsh.2 hWs (by omega) i k).mono (p625 hn4)
 have z5:=sz22 hn4 (show k+1≤8 by omega)
 have hSo:=Lib.hid (fun W K A c L A' c' (g:Gd K n k X) (m:Mr W A n c K) (s:Sr W A' n c' L) (cn:∀ x∈L,x.can) (hL:L.map (·.q)=Bq)=>show Calls Tryz.prog 22 #[.slice A n c,.slice A' n c'] W (RetL0 k Y W) from by
  have h:=psolve_any K A n c W m g.big g.nbig g.wf (g.rk m) L A' c' s (fun x hx=>can_k (cn x hx) (s.rd x hx)) 2 2 (g.all X3) (fun x hx=>B2 _ (by rw[←hL];exact List.mem_map_of_mem hx)) (by rw[g.col,hw];exact z5.1) (by rw[g.col,hw];exact z5.2)
  rw[g.col,g.q,hL,hw,hpv] at h;refine h.mono fun e w' hx=>?_
  have hx':RetLX 0 (solQ n k X Bq) W e w':=by
   rcases hx with ⟨_,hx⟩ | ⟨hx,_⟩
   ·exact hx
   ·exact absurd hx hnp
  rw[←hY] at hx';obtain⟨A9,n9,c9,L9,rfl,s9,c9',q9,_,bb⟩:=hx';have:n9=k:=by rw[←s9.len,←hYl,←q9,List.length_map]
  subst this;exact⟨A9,c9,L9,rfl,s9,c9',q9,bb⟩)
 -- the null space
 obtain⟨m,hm⟩:∃ m,m=k-rk n k (el X):=⟨_,rfl⟩;obtain⟨N,hN⟩:∃ N,N=nullQ k (rr n k (el X)) (pv n k (el X)):=⟨_,rfl⟩;have N1:∀ r∈N,∀ q∈r,Rs q 625:=by
  have e1:(red k X).M=rr n k (el X):=by unfold rr;rw[mk_el hXl.1 hXl.2]
  have e2:(red k X).p=pv n k (el X):=by unfold pv;rw[mk_el hXl.1 hXl.2]
  rw[hN,←e1,←e2];exact nullQ_rs hn4 hXl.1 hXl.2 X1
 obtain⟨k',hk'⟩:∃ k',k'=if m=0 then 0 else k:=⟨_,rfl⟩
 have hm4:m≤4:=by omega
 have hkk:0<m→k'=k:=fun h=>by rw[hk',if_neg (by omega)]
 have hI:=Lib.hid (fun W K1 A c (g1:Gd K1 n k X) (m1:Mr W A n c K1)=>pnull_g g1 m1 X3 hn4)
 rw[←hN,←hm,←hk'] at hI;have hKF:∀ i<m,∀ a<n,sm (fun j=>el X a j*el N i j) k=0:=fun i hi a ha=>by
  have h1:=nul_kf (n:=n) (k:=k) (A:=el X) (i:=i) (by rw[fr_len];omega) a ha
  rw[←h1];exact sm_congr fun j _=>by rw[hN,nullQ_el (by rw[fr_len];omega)]
 have hStep:∀ (Z:List Rat) (i:Nat) (q:Rat),i<m→Z.length=k→(∀ a<n,sm (fun j=>el X a j*Z.getD j 0) k=Bq.getD a 0)→(N.getD i []).length=k→(∀ a<n,sm (fun j=>el X a j*(plusQ Z (timesQ (N.getD i []) q)).getD j 0) k=Bq.getD a 0):=fun Z i q hi hZ hs hNl a ha=>by
  have e:∀ j<k,el X a j*(plusQ Z (timesQ (N.getD i []) q)).getD j 0=el X a j*Z.getD j 0+el X a j*el N i j*q:=fun j hj=>by
   have h1:Z[j]?=some Z[j]:=List.getElem?_eq_getElem (by omega)
   have h2:(N.getD i [])[j]?=some (N.getD i [])[j]:=List.getElem?_eq_getElem (by omega)
   have h3:=plusQ_at h1 (timesQ_at (c:=q) h2);have e1:(plusQ Z (timesQ (N.getD i []) q)).getD j 0=Z[j]+(N.getD i [])[j]*q:=by rw[List.getD_eq_getElem?_getD,h3];rfl
   have e2:Z.getD j 0=Z[j]:=by rw[List.getD_eq_getElem?_getD,h1];rfl
   have e3:el N i j=(N.getD i [])[j]:=by unfold GE.el;rw[List.getD_eq_getElem?_getD (l:=N.getD i []),h2];rfl
   rw[e1,e2,e3];grind
  rw[sm_congr e,sm_add,sm_mul,hs a ha,hKF i hi a ha,Rat.zero_mul,Rat.add_zero]
 have hStepR:∀ (Z:List Rat) (i p:Nat) (v:Int),i<m→(∀ q∈Z,Rs q p)→∀ q∈plusQ Z (timesQ (N.getD i []) (mNum v)),Rs q (p+627):=fun Z i p v hi hZ q hq=>by
  obtain⟨a,ha⟩:=List.getElem?_of_mem hq
  unfold plusQ timesQ at ha;rw[List.getElem?_zipWith,List.getElem?_map] at ha
  cases h1:Z[a]? with
  | none=>rw[h1] at ha;cases ha
  | some x=>
   cases h2:(N.getD i [])[a]? with
   | none=>rw[h1,h2] at ha;cases ha
   | some y=>
    rw[h1,h2] at ha;obtain rfl:=Option.some.inj ha;have hy:Rs y 625:=by
     rw[List.getD_eq_getElem?_getD] at h2
     cases h3:N[i]? with
     | none=>rw[h3] at h2;cases h2
     | some r=>rw[h3] at h2;exact N1 r (List.mem_of_getElem? h3) y (List.mem_of_getElem? h2)
    exact ((hZ x (List.mem_of_getElem? h1)).add (hy.mul (tw_rs (mNum_tw v)))).mono (by omega)
 have hSum:=Lib.hid (fun W K2 A c (g2:Gd K2 m k' N) (m2:Mr W A m c K2) (i:Nat) (hi:i<m) (r:Ro) (hr:K2[i]?=some r) (Z:List Rat) L A' c' (s:Sr W A' k c' L) (cl:∀ x∈L,x.can) (hL:L.map (·.q)=Z) (hZ:∀ q∈Z,Rs q 4000) (v:Int) A9 n9 c9 D9 m9 d9 (R9:RR W A9 n9 c9 D9 m9 d9 (mNum v))=>by
  have hrm:=List.mem_of_getElem? hr;have hrk:r.n=k:=by rw[g2.rn r hrm];exact hkk (by omega)
  have hrq:r.L.map (·.q)=N.getD i []:=by rw[←g2.q,←qM_at i,hr];rfl
  have s2:=m2.rd r hrm;rw[hrk] at s2;exact msum_any Z (N.getD i []) (mNum v) L r.L A' k c' r.A r.c (Rt.of A9 n9 c9 D9 m9 d9 (mNum v)) W s s2 cl (g2.can r hrm) hL hrq (fun x hx=>(hZ x hx).mono (by omega)) (fun x hx=>by
   rw[←hrq] at hx;obtain⟨y,hy,rfl⟩:=List.mem_map.1 hx;exact (g2.all N1 r hrm y hy).mono (by omega)) (by omega) (Rt.of_can _ _ _ _ _ _ (mNum_rs v)) ⟨R9.n,R9.d⟩ rfl ((tw_rs (mNum_tw v)).mono (by omega)))
 have hNl:∀ i<m,(N.getD i []).length=k:=fun i hi=>by
  have sh:=nullQ_sh (n:=n) (k:=k) (A:=el X);rw[←hN] at sh;rw[List.getD_eq_getElem?_getD,List.getElem?_eq_getElem (by omega)]
  exact sh.2 _ (List.getElem_mem _)
 have hAt:=Lib.hid (fun W (i:Nat) (hW:LR intC W A3 l3 L3) (hi:i≤1000)=>at_any L3 A3 l3 c3 i W hW hi)
 have hNu:=Lib.hid (fun W (i:Nat)=>num_any (L3.getD i 0) W (b3' i))
 have hplen:∀ Z i q,Z.length=k→i<m→(plusQ Z (timesQ (N.getD i []) q)).length=k:=fun Z i q hZ hi=>by
  show (List.zipWith _ _ _).length=k
  rw[List.length_zipWith,hZ]
  show min k ((N.getD i []).map _).length=k
  rw[List.length_map,hNl i hi,Nat.min_self]
 have hfin:∀ Z:List Rat,(∀ a<n,sm (fun j=>el X a j*Z.getD j 0) k=Bq.getD a 0)→(List.range n).map (fun i=>sm (fun j=>el X i j*Z.getD j 0) k)=Bq:=fun Z hs=>by
  refine List.ext_getElem? fun i=>?_
  rw[List.getElem?_map]
  rcases Nat.lt_or_ge i n with hi | hi
  ·rw[List.getElem?_range hi,List.getElem?_eq_getElem (by omega)]
   simp only[Option.map_some,Option.some.injEq];rw[hs i hi,List.getD_eq_getElem?_getD,List.getElem?_eq_getElem (by omega)];rfl
  ·rw[List.getElem?_eq_none (by rw[List.length_range];exact hi),List.getElem?_eq_none (by omega)];rfl
 have V8:∀ q∈V,Rs q 8000:=fun q hq=>(tw_rs (VT q hq)).mono (by omega)
 have hA:=Lib.hid awake_any;have S0:=Lib.hid (St.new w);replace h1:=Lib.hid h1;replace h2:=Lib.hid h2;replace h3:=Lib.hid h3;replace hStep:=Lib.hid hStep;replace hStepR:=Lib.hid hStepR;replace hNl:=Lib.hid hNl;replace hplen:=Lib.hid hplen;replace hfin:=Lib.hid hfin;replace hBap:=Lib.hid hBap;replace V8:=Lib.hid V8;replace Y1:=Lib.hid Y1;replace hYl:=Lib.hid hYl;replace hYs:=Lib.hid hYs;replace hkk:=Lib.hid hkk
 have hm4h:=Lib.hid hm4;have hn4h:=Lib.hid hn4;have hk4h:=Lib.hid hk4;clear hn1 hk1 hn hk hX X1 XT X2 X3 hXl hV VT VT' hB hBl hBi BT B2 B1 hap hnp hY hw hpv z5 hm hN N1 hk' hKF b1 b2' b3' hn4 hk4 hm4 hn0 hk0;go_enter Tryz.func5,Tryz.ntmps5
 go_wp2_with fail
 refine (hM1.out _ h1.out).mono ?_
 rintro e w' ⟨A4,c4,K4,rfl,m4,g4,bb⟩;replace h1:=Lib.hid (h1.out.bel bb);replace h2:=Lib.hid (h2.out.bel bb);replace h3:=Lib.hid (h3.out.bel bb);replace S0:=Lib.hid (S0.out.call bb);replace m4:=Lib.hid m4;replace g4:=Lib.hid g4;clear bb;clear hM1 h1 rv rv2 wv wv2 en ek
 go_wp2_with fail
 refine (hM2.out _ h2.out).mono ?_
 rintro e w' ⟨A5,c5,L5,rfl,s5,n5,q5,bb⟩;replace h2:=Lib.hid (h2.out.bel bb);replace h3:=Lib.hid (h3.out.bel bb);replace m4:=Lib.hid (m4.out.bel bb);replace S0:=Lib.hid (S0.out.call bb);replace s5:=Lib.hid s5;replace n5:=Lib.hid n5;replace q5:=Lib.hid q5;clear bb;clear hM2 h2;have hAp1:=Lib.hid (hAp.out _ K4 A4 c4 L5 A5 c5 V g4.out m4.out s5.out n5.out q5.out V8.out);rw[hBap.out] at hAp1;clear s5 n5 q5
 go_wp2_with fail
 refine hAp1.out.mono ?_
 rintro e w' ⟨A6,l6,c6,L6,rfl,s6,n6,q6,bb⟩;obtain hl6:l6=n:=by rw[←s6.len,←List.length_map (f:=fun x:Rt=>x.q),q6,←hBap.out,List.length_map,List.length_range]
 rw[hl6] at s6 ⊢;clear hl6;replace h3:=Lib.hid (h3.out.bel bb);replace m4:=Lib.hid (m4.out.bel bb);replace S0:=Lib.hid (S0.out.call bb);replace s6:=Lib.hid s6;replace n6:=Lib.hid n6;replace q6:=Lib.hid q6;clear bb hAp1
 go_wp2_with fail
 refine (hSo.out _ K4 A4 c4 L6 A6 c6 g4.out m4.out s6.out n6.out q6.out).mono ?_
 rintro e w' ⟨A7,c7,L7,rfl,s7,n7,q7,bb⟩;replace h3:=Lib.hid (h3.out.bel bb);replace m4:=Lib.hid (m4.out.bel bb);replace s6:=Lib.hid (s6.out.bel bb);replace S0:=Lib.hid (S0.out.call bb);replace s7:=Lib.hid s7;replace n7:=Lib.hid n7;replace q7:=Lib.hid q7;clear bb;clear hSo
 go_wp2_with fail
 refine (hI.out _ K4 A4 c4 g4.out m4.out).mono ?_
 rintro e w' ⟨A8,c8,K8,rfl,m8,g8,bb⟩;replace h3:=Lib.hid (h3.out.bel bb);replace m4:=Lib.hid (m4.out.bel bb);replace s6:=Lib.hid (s6.out.bel bb);replace s7:=Lib.hid (s7.out.bel bb);replace S0:=Lib.hid (S0.out.call bb);replace m8:=Lib.hid m8;replace g8:=Lib.hid g8;clear bb;clear hI;rename World=>V9
 go_wp2
 go_loopw [16,20] (fun xv iv wr=>∃ (i:Nat) (Z:List Rat) (L:List Rt) (A:Option Addr) (c:Nat),i≤m∧iv=.int .i64 i∧xv=.slice A k c∧Sr wr A k c L∧(∀ x∈L,x.can)∧L.map (·.q)=Z∧Z.length=k∧(∀ a<n,sm (fun j=>el X a j*Z.getD j 0) k=Bq.getD a 0)∧(∀ q∈Z,Rs q (625+i*627))∧Below V9.heap.size V9 wr) (fun _ iv _=>m-(intOf iv).toNat)
 case atStart=>exact⟨0,Y,L7,A7,c7,Nat.zero_le _,rfl,rfl,s7.out,n7.out,q7.out,hYl.out,hYs.out,fun q hq=>(Y1.out q hq).mono (by omega),Below.refl _ _⟩
 case round=>
  obtain⟨i,Z,L,A,c,him,rfl,rfl,sx,cx,qx,zl,zs,zr,B⟩:=hrel;rename World=>V0
  by_cases hlt:i<m
  ·have M8:=m8.out.bel B
   have H3:=h3.out.bel B;obtain⟨bb0,o,r4,hA4,hr,hrm,e0⟩:=M8.get hlt;rw[g8.out.rn r4 hrm,hkk.out (by omega)] at e0
   subst hA4;have g1:(i:Int)<(m:Int):=by omega
   have g2:(0:Int)≤(i:Int):=by omega
   have hi4:i≤3:=by have:=hm4h.out;omega
   have hA1:=Lib.hid (fun W (hW:Below V0.heap.size V0 W)=>hAt.out W i (H3.bel hW) (by omega))
   obtain⟨v,hv⟩:∃ v,v=L3.getD i 0:=⟨_,rfl⟩;have hN1:=Lib.hid (fun W=>hNu.out W i)
   rw[←hv] at hA1 hN1;have hZ4:∀ q∈Z,Rs q 4000:=fun q hq=>(zr q hq).mono (by omega)
   have hS1:=Lib.hid (fun W (hW:Below V0.heap.size V0 W) A9 n9 c9 D9 m9 d9 (R9:RR W A9 n9 c9 D9 m9 d9 (mNum v))=>hSum.out W K8 _ c8 g8.out (M8.bel hW) i hlt r4 hr Z L A c (sx.bel hW) cx qx hZ4 v A9 n9 c9 D9 m9 d9 R9)
   have hnx:=Lib.hid (And.intro (hplen.out Z i (mNum v) zl hlt) (And.intro (hStep.out Z i (mNum v) hlt zl zs (hNl.out i hlt)) (hStepR.out Z i _ v hlt zr)));have hih:=Lib.hid hlt;have hB:=Lib.hid B;replace e0:=Lib.hid e0;clear M8 H3 hr hrm hlt him B sx cx qx zl zs zr hv hZ4 hi4;have e0x:=e0.out;go_upto_region 13 with fail
   clear e0x;refine Wl.start (fun W=>Below V0.heap.size V0 W) [] rfl ?_
   have hS:Below V0.heap.size V0 V0.drew:=(Below.refl _ _).drew;refine Wl.t (i:=0) (v:=.slice A k c) (some 83) at0 (hy:=fun _ _=>by kernel_rfl) (hS:=hS) (h:=?_)
   refine Wl.t (i:=1) (v:=.slice (some ⟨bb0,o,none⟩) m c8) (some 84) at1 (hy:=fun _ _=>by kernel_rfl) (hS:=hS) (h:=?_)
   refine Wl.t (i:=2) (v:=.int .i64 i) (some 85) at2 (hy:=fun _ _=>by kernel_rfl) (hS:=hS) (h:=?_)
   refine Wl.t (i:=3) (v:=.pointer (some ⟨bb0,o+i,none⟩)) (some 86) at3 (hy:=fun _ _=>by go_simp) (hS:=hS) (h:=?_)
   refine Wl.t (i:=4) (v:=.slice r4.A k r4.c) (some 87) at4 (hy:=fun W hS=>by (have k0:=bel_cell hS e0.out;clear hS;go_simp)) (hS:=hS) (h:=?_)
   refine Wl.t (i:=5) (v:=.slice A3 l3 c3) (some 88) at5 (hy:=fun _ _=>by kernel_rfl) (hS:=hS) (h:=?_)
   refine Wl.t (i:=6) (v:=.int .i64 i) (some 89) at6 (hy:=fun _ _=>by kernel_rfl) (hS:=hS) (h:=?_)
   try simp only[Act.put,sZ0,sZ1,sZ2]
   refine Wl.g (i:=7) at7 (by kernel_rfl) (by kernel_rfl) fun K' hK=>?_
   refine oper_call (f:=26) (args:=#[.slice A3 l3 c3,.int .i64 i]) rfl (by kernel_rfl) ((hA1.out _ hS).mono ?_)
   rintro e V1 ⟨rfl,bb⟩;have hSa:=hS.trans (bb.mono hS.size);refine⟨_,rfl,hK.out _ _ hSa ?_⟩
   clear hK K' hS bb hA1
   try simp only[Act.put,sZ0,sZ1,sZ2]
   try simp only[Act.put,sZ0,sZ1,sZ2]
   refine Wl.g (i:=8) at8 (by kernel_rfl) (by kernel_rfl) fun K' hK=>?_
   refine oper_call (f:=25) (args:=#[.int .i64 v]) rfl (by kernel_rfl) ((hN1.out _).mono ?_)
   rintro e V2 ⟨A9,n9,c9,D9,m9,d9,rfl,R9,bb⟩;have hSbb:=hSa.trans (bb.mono hSa.size);have hS2:=Lib.hid (hS1.out V2 hSbb A9 n9 c9 D9 m9 d9 R9);clear hSbb R9 hS1;have hSb:=hSa.trans (bb.mono hSa.size);refine⟨_,rfl,hK.out _ _ hSb ?_⟩
   clear hK K' hSa bb hN1
   try simp only[Act.put,sZ0,sZ1,sZ2]
   try simp only[Act.put,sZ0,sZ1,sZ2]
   refine Wl.g (i:=9) at9 (by kernel_rfl) (by kernel_rfl) fun K' hK=>?_
   refine oper_call (f:=24) (args:=#[.slice A k c,.slice r4.A k r4.c,.agg #[.bool (ng (mNum v).num),.slice A9 n9 c9,.slice D9 m9 d9]]) rfl (by kernel_rfl) ((hS2.out).mono ?_)
   rintro e V3 ⟨A0',c0',L0',rfl,s0',n0',q0',bb⟩;replace s0':=Lib.hid s0';replace n0':=Lib.hid n0';replace q0':=Lib.hid q0';have hSc:=hSb.trans (bb.mono hSb.size);refine⟨_,rfl,hK.out _ _ hSc ?_⟩
   clear hK K' hSb bb hS2
   try simp only[Act.put,sZ0,sZ1,sZ2]
   refine Wl.t (i:=10) (v:=.slice A0' k c0') (some 16) at10 (hy:=fun _ _=>by kernel_rfl) (hS:=hSc) (h:=?_)
   refine Wl.done (by kernel_rfl) ?_
   have hb3:=Lib.hid (hB.out.trans (hSc.mono hB.out.size));clear hSc;have hlj:=hih.out;have hm9:=hm4h.out;clear e0;go_wp2
   go_roundw
   case rel=>exact⟨i+1,_,L0',A0',c0',by omega,by go_num,rfl,s0'.out,n0'.out,q0'.out,hnx.out.1,hnx.out.2.1,fun q hq=>(hnx.out.2.2 q hq).mono (by omega),hb3.out⟩
   case measure=>simp[intOf];omega
  ·obtain rfl:i=m:=by omega
   have M4:=m4.out.bel B;have hAp2:=Lib.hid (hAp.out _ K4 A4 c4 L A c Z g4.out M4 sx cx qx (fun q hq=>(zr q hq).mono (by have:=hm4h.out;omega)))
   rw[hfin.out Z zs] at hAp2;have S1:=Lib.hid (S0.out.call B);have s6':=Lib.hid (s6.out.bel B);clear S0 hlt him B M4 sx cx qx zl zs zr s6
   go_wp2_with fail
   refine hAp2.out.mono ?_
   rintro e V1 ⟨A6',l6',c6',L6',rfl,s6'',n6',q6',bb⟩;have hSL:=Lib.hid (fun W (hW:Below V1.heap.size V1 W)=>sameList_any L6 L6' A6 n c6 A6' l6' c6' W ((s6'.out.bel bb).bel hW) (s6''.bel hW) n6.out n6' (q6.out.trans q6'.symm) (by have:=hn4h.out;omega))
   have S2:=Lib.hid (S1.out.call bb);clear bb s6'' n6' q6' hAp2 S1 s6'
   go_wp2_with fail
   refine (hA.out _).mono ?_
   rintro e V2 ⟨rfl,bb⟩;have hS2:=Lib.hid (hSL.out _ bb);have S3:=Lib.hid (S2.out.call bb);clear bb S2 hSL
   go_wp2_with fail
   refine hS2.out.mono ?_
   rintro e V3 ⟨rfl,bb⟩;have S4:=Lib.hid (S3.out.call bb);clear bb S3 hS2;go_wp2;go_ret;exact⟨rfl,S4.out.bel⟩
end Go.Proofs.YthlinhconnmbcaaGreat
