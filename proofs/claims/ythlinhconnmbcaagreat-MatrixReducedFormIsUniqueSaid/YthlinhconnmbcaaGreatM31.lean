/- The reduced form: sizes in bits; a matrix that is being changed. -/
import Derived.Test.YthlinhconnmbcaaGreatM30
set_option maxRecDepth 100000
set_option maxHeartbeats 40000000
set_option linter.unusedVariables false
namespace Go.Proofs.YthlinhconnmbcaaGreat
open Go.RowKit RQ GE
set_option linter.unusedVariables false
def Pb (p:Nat) (q:Rat):Prop:=q.num.natAbs<2^p∧q.den<2^p
theorem p2_mono {p k:Nat} (h:p≤k):2^p≤2^k:=Nat.pow_le_pow_right (by decide) h
theorem Pb.mono {q:Rat} {p k:Nat} (h:Pb p q) (hk:p≤k):Pb k q:=⟨Nat.lt_of_lt_of_le h.1 (p2_mono hk),Nat.lt_of_lt_of_le h.2 (p2_mono hk)⟩
theorem Pb.neg {q:Rat} {p:Nat} (h:Pb p q):Pb p (-q):=⟨by rw[Rat.neg_num,Int.natAbs_neg];exact h.1,h.2⟩
theorem Pb.divInt {n d:Int} {p:Nat} (hd:0<d) (h1:n.natAbs<2^p) (h2:d.natAbs<2^p):Pb p (Rat.divInt n d):=by
 have a:=num_divInt_le n hd;have b:=den_divInt_le n hd;exact⟨by omega,by omega⟩
theorem Pb.mul {x y:Rat} {p k:Nat} (h1:Pb p x) (h2:Pb k y):Pb (p+k) (x*y):=by
 have e:x*y=Rat.divInt (x.num*y.num) ((x.den*y.den:Nat):Int):=by rw[Rat.mul_def',Rat.divInt_ofNat]
 rw[e];refine Pb.divInt (by have:=Nat.mul_pos x.den_pos y.den_pos;omega) ?_ ?_
 ·rw[Int.natAbs_mul,Nat.pow_add];exact mul_lt h1.1 h2.1
 ·rw[Int.natAbs_natCast,Nat.pow_add];exact mul_lt h1.2 h2.2
theorem Pb.add {x y:Rat} {p k:Nat} (h1:Pb p x) (h2:Pb k y):Pb (p+k+1) (x+y):=by
 have e:x+y=Rat.divInt (x.num*y.den+y.num*x.den) ((x.den*y.den:Nat):Int):=by rw[Rat.add_def',Rat.divInt_ofNat]
 rw[e];have a:=mul_lt h1.1 h2.2;have b:=mul_lt h2.1 h1.2;have c:=mul_lt h1.2 h2.2;rw[←Nat.pow_add] at a b c;rw[Nat.add_comm k p] at b;refine Pb.divInt (by have:=Nat.mul_pos x.den_pos y.den_pos;omega) ?_ ?_
 ·have t:=Int.natAbs_add_le (x.num*y.den) (y.num*x.den)
  rw[Int.natAbs_mul,Int.natAbs_mul,Int.natAbs_natCast,Int.natAbs_natCast] at t;rw[Nat.pow_succ]
  omega
 ·rw[Int.natAbs_natCast]
  exact Nat.lt_of_lt_of_le c (p2_mono (by omega))
theorem Pb.inv {q:Rat} {p:Nat} (h:Pb p q) (hp:1≤p):Pb p q⁻¹:=by
 have:=p2_mono hp;refine⟨?_,?_⟩
 ·rw[Rat.num_inv,Int.natAbs_mul,Int.natAbs_natCast]
  have:q.num.sign.natAbs≤1:=by rw[Int.natAbs_sign];split<;>omega
  have h3:=Nat.mul_le_mul_right q.den this;have:=h.2
  omega
 ·rw[Rat.den_inv];split;omega;exact h.1
theorem pb_zero {p:Nat} (h:1≤p):Pb p 0:=⟨Nat.pow_pos (by decide),by have:=p2_mono h;show 1<2^p;omega⟩
theorem pb_one {p:Nat} (h:1≤p):Pb p 1:=⟨by have:=p2_mono h;show 1<2^p;omega,by have:=p2_mono h;show 1<2^p;omega⟩
theorem pb_grw:Grw Pb where
 mono:=fun h hb=>h.mono hb
 zero:=fun h=>pb_zero h
 neg:=fun h=>h.neg
 add:=fun h k=>h.add k
 mul:=fun h k=>h.mul k
 inv:=fun {a x} h ha=>by rw[Rat.div_def,Rat.one_mul];exact h.inv ha
theorem mNum_pb (v:Int):Pb 5 (mNum v):=Pb.divInt (by omega) (by show _<32;omega) (by show _<32;omega)
theorem pb_rs {q:Rat} {a b:Nat} (h:Pb a q) (hab:a≤32*b):Rs q b:=by
 have e:2^a≤4294967296^b:=by
  rw[show (4294967296:Nat)=2^32 from rfl,←Nat.pow_mul]
  exact p2_mono hab
 exact⟨Nat.lt_of_lt_of_le h.1 e,Nat.lt_of_lt_of_le h.2 e⟩
theorem red_43 {Q:List (List Rat)} {n k:Nat} (hn:Q.length=n) (hr:GE.rct k Q) (hn4:n≤4) (hs:∀ r∈Q,∀ q∈r,Pb 5 q):∀ r∈(red k Q).M,∀ q∈r,Rs q 43:=by
 refine rs_mem fun i c=>pb_rs (a:=gr4 5 4) ?_ (by decide)
 have:=run_grow4 pb_grw (c:=k) (j:=0) (s:=⟨Q,[],1⟩) (b:=5) (t:=4) (rf_start hn hr) (elP (pb_zero (by omega)) hs) (pb_one (by omega)) (by omega) (by show n-0≤4;omega) i c
 exact this
theorem sz_tab43:((List.range 5).all fun n=>(List.range 5).all fun k=>szChk n k 43 43)=true:=by decide +kernel
theorem sz43 {n k:Nat} (hn:n≤4) (hk:k≤4):SzE n k 43 43∧SzT n k 43 43:=
 sz_of (List.all_eq_true.1 (List.all_eq_true.1 sz_tab43 n (List.mem_range.2 (by omega))) k (List.mem_range.2 (by omega)))
theorem allQ_set {P:Rat→Prop} {M:List (List Rat)} (h:∀ r∈M,∀ q∈r,P q) {x:List Rat} (hx:∀ q∈x,P q) (i:Nat):∀ r∈M.set i x,∀ q∈r,P q:=fun r hr q hq=>by
 rcases List.mem_or_eq_of_mem_set hr with hr | rfl
 ·exact h r hr q hq
 ·exact hx q hq
theorem allQ_getD {P:Rat→Prop} {M:List (List Rat)} (h:∀ r∈M,∀ q∈r,P q) (i:Nat):∀ q∈M.getD i [],P q:=fun q hq=>by
 rw[List.getD_eq_getElem?_getD] at hq
 cases hx:M[i]? with
 | none=>rw[hx] at hq;cases hq
 | some r=>rw[hx] at hq;exact h r (List.mem_of_getElem? hx) q hq
theorem allQ_swp {P:Rat→Prop} {M:List (List Rat)} (h:∀ r∈M,∀ q∈r,P q) (a t:Nat):∀ r∈swp M a t,∀ q∈r,P q:=allQ_set (allQ_set h (allQ_getD h t) a) (allQ_getD h a) t
theorem tw144 {q:Rat} (h:Tw 12 360 q):Tw 144 4320 q:=by
 obtain⟨z,h1,h2⟩:=h;refine⟨z*12,?_,by omega⟩
 rw[Rat.intCast_mul,←h1];grind
theorem plus_tw {a b:List Rat} {q:Rat} (ha:∀ x∈a,Tw 12 360 x) (hb:∀ x∈b,Tw 12 360 x) (hq:Tw 12 360 q):∀ x∈plusQ a (timesQ b q),S2 1 1 x:=fun x hx=>by
 obtain⟨i,hi⟩:=List.getElem?_of_mem hx
 unfold plusQ timesQ at hi;rw[List.getElem?_zipWith,List.getElem?_map] at hi
 cases h1:a[i]? with
 | none=>rw[h1] at hi;cases hi
 | some u=>
  cases h2:b[i]? with
  | none=>rw[h1,h2] at hi;cases hi
  | some v=>
   rw[h1,h2] at hi;obtain rfl:=Option.some.inj hi;exact ((tw144 (ha u (List.mem_of_getElem? h1))).add ((hb v (List.mem_of_getElem? h2)).mul hq)).s2 (by omega) (by omega) (by omega)
theorem times_tw {b:List Rat} {q:Rat} (hb:∀ x∈b,Tw 12 360 x) (hq:Tw 12 360 q):∀ x∈timesQ b q,S2 1 1 x:=fun x hx=>by
 obtain⟨v,hv,rfl⟩:=List.mem_map.1 hx;exact ((hb v hv).mul hq).s2 (by omega) (by omega) (by omega)
theorem preduce_g {K:List Ro} {n k:Nat} {Q:List (List Rat)} {A:Option Addr} {c:Nat} {W:World} (g:Gd K n k Q) (hA:Mr W A n c K) {a d:Nat} (s:∀ r∈Q,∀ q∈r,S2 a d q) (hz:SzE n k a d) (hT:SzT n k a d):Calls Tryz.prog 31 #[.slice A n c] W (RetRx 0 (red k Q).M (red k Q).p W):=by
 have:=preduce_any K A n c W hA g.big g.nbig g.wf (g.rk hA) a d (g.all s) (by rw[g.col];exact hz) (by rw[g.col];exact hT)
 rwa [g.col,g.q] at this
def OSt (w W:World) (g fb n k:Nat) (q:Rat) (M:List (List Rat)):Prop:=∃ (cur:Array Value) (bs:List GBk) (rs:List GRd) (L:List (Sl Gw)) (y:Gw),
 St w W ((g,cur,46)::(fb,y.vs,33)::bs) rs∧L.length=n∧Mx cur L∧(∀ x∈L,RowI bs rs x)∧MatV L M∧GE.rct k M∧rwI rs y∧rwV y=qV q
section
variable {w wr W':World} {g fb n k:Nat} {q:Rat} {M:List (List Rat)}
theorem OSt.call (h:OSt w wr g fb n k q M) (hb:Below wr.heap.size wr W'):OSt w W' g fb n k q M:=by
 obtain⟨cur,bs,rs,L,y,S,h⟩:=h;exact⟨cur,bs,rs,L,y,S.call hb,h⟩
theorem OSt.bel (h:OSt w wr g fb n k q M):Below w.heap.size w wr:=by
 obtain⟨cur,bs,rs,L,y,S,h⟩:=h;exact S.bel
theorem OSt.len (h:OSt w wr g fb n k q M):M.length=n:=by
 obtain⟨cur,bs,rs,L,y,S,h1,h2,h3,h4,h5⟩:=h;rw[←h4.len];exact h1
theorem OSt.row (h:OSt w wr g fb n k q M) {i:Nat} (hi:i<n):∃ A c R,wr.cell? ⟨g,i,none⟩=some (.slice A k c)∧LR rwC wr A k R∧R.map rwV=(M.getD i []).map qV∧(M.getD i []).length=k:=by
 have hl0:=h.len;obtain⟨cur,bs,rs,L,y,S,h1,h2,h3,h4,h5,h6⟩:=h;have hr:=rct_getD h5 (i:=i) (by omega)
 have hx:L[i]?=some L[i]:=List.getElem?_eq_getElem (by omega)
 obtain⟨r,hq,hqm,hxq⟩:=map_at h4 hx;have e:M.getD i []=r:=by rw[List.getD_eq_getElem?_getD,hq];rfl
 have hl:L[i].L.length=k:=by have:=congrArg List.length hxq;rw[List.length_map,List.length_map,←e,hr] at this;exact this
 have hc:=(S.cb 0 rfl).cell (h2 i _ hx);refine⟨L[i].A,L[i].c,L[i].L,?_,?_,?_,hr⟩
 ·rw[hc];show some (Value.slice _ _ _)=_;rw[hl]
 ·have:=((h3 L[i] (List.getElem_mem _)).mono (bs':=(g,cur,46)::(fb,y.vs,33)::bs) (rs':=rs) (fun p hp=>List.mem_cons_of_mem _ (List.mem_cons_of_mem _ hp)) (fun p hp=>hp)).lr S
  rwa [hl] at this
 ·rw[e];exact hxq
theorem OSt.fac (h:OSt w wr g fb n k q M):∃ y:Gw,wr.cell? ⟨fb,0,none⟩=some (.bool y.b)∧wr.cell? ⟨fb,1,none⟩=some (.slice y.x.A y.x.n y.x.c)∧wr.cell? ⟨fb,2,none⟩=some (.slice y.y.A y.y.n y.y.c)∧rwV y=qV q∧Rd wr y.x.A y.x.n y.x.c y.x.x∧Rd wr y.y.A y.y.n y.y.c y.y.x:=by
 obtain⟨cur,bs,rs,L,y,S,h1,h2,h3,h4,h5,h6,h7⟩:=h;exact⟨y,(S.cb 1 rfl).cell rfl,(S.cb 1 rfl).cell rfl,(S.cb 1 rfl).cell rfl,h7,S.rd _ h6.1,S.rd _ h6.2⟩
theorem OSt.frz (h:OSt w wr g fb n k q M):∀ i,wr.frozen? ⟨g,i,none⟩=false:=by
 obtain⟨cur,bs,rs,L,y,S,h⟩:=h;exact fun i=>S.f 0 i rfl
theorem OSt.put (h:OSt w wr g fb n k q M) {bs':List GBk} {rs':List GRd} {A:Option Addr} {c i:Nat} {R:List Gw} {r:List Rat} (S:St wr W' bs' rs') (hI:RowI bs' rs' ⟨A,c,R⟩) (hR:R.map rwV=r.map qV) (hr:r.length=k):OSt w (W'.setCell ⟨g,i,none⟩ (.slice A k c)) g fb n k q (M.set i r):=by
 obtain⟨cur,bs,rs,L,y,S0,h1,h2,h3,h4,h5,h6,h7⟩:=h;have hl:R.length=k:=by have:=congrArg List.length hR;rw[List.length_map,List.length_map,hr] at this;exact this
 have e:(⟨A,c,R⟩:Sl Gw).v=.slice A k c:=by show Value.slice _ _ _=_;rw[hl]
 refine⟨cur.setIfInBounds i (⟨A,c,R⟩:Sl Gw).v,bs++bs',rs++rs',L.set i ⟨A,c,R⟩,y,?_,by rw[List.length_set];exact h1,h2.set _,fun x hx=>?_,?_,rct_set h5 hr,h6.mono (fun p hp=>List.mem_append_left _ hp),h7⟩
 ·have h8:=(S0.join S).set 0 i (.slice A k c) rfl (fun _ e=>by cases e)
  rw[e]
  simpa only [List.cons_append,List.set_cons_zero] using h8
 ·rcases List.mem_or_eq_of_mem_set hx with hx | rfl
  ·exact (h3 x hx).mono (fun p hp=>List.mem_append_left _ hp) (fun p hp=>List.mem_append_left _ hp)
  ·exact hI.mono (fun p hp=>List.mem_append_right _ hp) (fun p hp=>List.mem_append_right _ hp)
 ·unfold MatV at *
  rw[List.map_set,List.map_set,h4,hR]
theorem OSt.swap (h:OSt w wr g fb n k q M) {a t:Nat} {va vt:Value} (ha:a<n) (ht:t<n) (ca:wr.cell? ⟨g,a,none⟩=some va) (ct:wr.cell? ⟨g,t,none⟩=some vt):OSt w ((wr.setCell ⟨g,a,none⟩ vt).setCell ⟨g,t,none⟩ va) g fb n k q (swp M a t):=by
 obtain⟨cur,bs,rs,L,y,S,h1,h2,h3,h4,h5,h6,h7⟩:=h;have xa:L[a]?=some L[a]:=List.getElem?_eq_getElem (by omega)
 have xt:L[t]?=some L[t]:=List.getElem?_eq_getElem (by omega)
 have ka:=(S.cb 0 rfl).cell (h2 a _ xa);have kt:=(S.cb 0 rfl).cell (h2 t _ xt);rw[ca] at ka;rw[ct] at kt;obtain rfl:=Option.some.inj ka;obtain rfl:=Option.some.inj kt;obtain⟨qa,hqa,_,hxa⟩:=map_at h4 xa;obtain⟨qt,hqt,_,hxt⟩:=map_at h4 xt;have ea:M.getD a []=qa:=by rw[List.getD_eq_getElem?_getD,hqa];rfl
 have et:M.getD t []=qt:=by rw[List.getD_eq_getElem?_getD,hqt];rfl
 refine⟨(cur.setIfInBounds a L[t].v).setIfInBounds t L[a].v,bs,rs,(L.set a L[t]).set t L[a],y,?_,by rw[List.length_set,List.length_set];exact h1,(h2.set _).set _,fun x hx=>?_,?_,?_,h6,h7⟩
 ·exact (S.set 0 a L[t].v rfl (fun _ e=>by cases e)).set 0 t L[a].v rfl (fun _ e=>by cases e)
 ·rcases List.mem_or_eq_of_mem_set hx with hx | rfl
  ·rcases List.mem_or_eq_of_mem_set hx with hx | rfl
   ·exact h3 x hx
   ·exact h3 _ (List.getElem_mem _)
  ·exact h3 _ (List.getElem_mem _)
 ·unfold MatV at *
  show _=((M.set a (M.getD t [])).set t (M.getD a [])).map _
  rw[ea,et,List.map_set,List.map_set,List.map_set,List.map_set,h4,hxa,hxt]
 ·show GE.rct k ((M.set a (M.getD t [])).set t (M.getD a []))
  refine rct_set (rct_set h5 ?_) ?_
  ·rw[et];exact h5 _ (List.mem_of_getElem? hqt)
  ·rw[ea];exact h5 _ (List.mem_of_getElem? hqa)
theorem OSt.mr (h:OSt w wr g fb n k q M) {c:Nat} (hc:n≤c) (hs:∀ r∈M,∀ q∈r,Rs q 9000000) (hn:n≤8) (hk:k≤8) (hn0:0<n) (hk0:1≤k):∃ K,Mr wr (some ⟨g,0,none⟩) n c K∧Gd K n k M:=by
 have hMl:=h.len;obtain⟨cur,bs,rs,L,y,S,h1,h2,h3,h4,h5,h6,h7⟩:=h;have hB:=(S.bk _ List.mem_cons_self).1;have hR:∀ {x r},x∈L→r∈M→x.L.map rwV=r.map qV→Sr wr x.A x.L.length x.c (List.zipWith rtW x.L r)∧(List.zipWith rtW x.L r).map (·.q)=r∧∀ z∈List.zipWith rtW x.L r,z.can:=fun hx hr hv=>
  row_sr ((h3 _ hx).mono (fun p hp=>List.mem_cons_of_mem _ (List.mem_cons_of_mem _ hp)) (fun p hp=>hp)) S hv (hs _ hr)
 have m:Mr wr (some ⟨g,0,none⟩) n c (List.zipWith roW L M):=by
  refine⟨?_,hc,.inr ⟨g,0,rfl,hB.lt,fun i r hi=>?_⟩,fun r hr=>?_⟩
  ·rw[List.length_zipWith,←h4.len,Nat.min_self];exact h1
  ·obtain⟨x,q,hx,hq,rfl,e⟩:=zipM_at h4 hi
   rw[Nat.zero_add];exact hB.cell (h2 i x hx)
  ·obtain⟨i,hi⟩:=List.getElem?_of_mem hr
   obtain⟨x,q,hx,hq,rfl,e⟩:=zipM_at h4 hi;exact (hR (List.mem_of_getElem? hx) (List.mem_of_getElem? hq) e).1
 have cn:canM (List.zipWith roW L M):=fun r hr=>by
  obtain⟨i,hi⟩:=List.getElem?_of_mem hr
  obtain⟨x,q,hx,hq,rfl,e⟩:=zipM_at h4 hi;refine⟨?_,(hR (List.mem_of_getElem? hx) (List.mem_of_getElem? hq) e).2.2⟩
  show x.L.length≤1000
  have h8:x.L.length=q.length:=by have:=congrArg List.length e;simpa using this
  rw[h8,h5 q (List.mem_of_getElem? hq)];omega
 exact⟨_,m,(Gd.of m cn (zipM_q h4) hMl h5 hn hk (by omega) (fun _=>hk0)).2⟩
end
theorem RowO.rebase {Q:List Rat} {w w1 W:World} {e:Ending} (hb:Below w.heap.size w w1) (h:RowO Q w1 e W):RowO Q w e W:=by
 obtain⟨A,c,L,bs,rs,rfl,S,hI,hV⟩:=h;exact⟨A,c,L,bs,rs,rfl,St.rebase hb S,hI,hV⟩
theorem msumG_any (P0 Q0:List Rat) (q:Rat) (L K:List Gw) (A:Option Addr) (k c:Nat) (A':Option Addr) (c':Nat) (y:Gw) (w:World) (h:LR rwC w A k L) (h':LR rwC w A' k K) (hL:L.map rwV=P0.map qV) (hK:K.map rwV=Q0.map qV) (sP:∀ x∈P0,Rs x 8000) (sQ:∀ x∈Q0,Rs x 8000) (hk:k≤1000) (hy:rwV y=qV q) (R1:Rd w y.x.A y.x.n y.x.c y.x.x) (R2:Rd w y.y.A y.y.n y.y.c y.y.x) (sq:Rs q 8000):Calls Tryz.prog 24 #[.slice A k c,.slice A' k c',.agg #[.bool y.b,.slice y.x.A y.x.n y.x.c,.slice y.y.A y.y.n y.y.c]] w (RowO (plusQ P0 (timesQ Q0 q)) w):=by
 have sT:∀ x∈timesQ Q0 q,Rs x 16000:=fun x hx=>by
  obtain⟨z,hz,rfl⟩:=List.mem_map.1 hx;exact (sQ z hz).mul sq
 have hKl:K.length=Q0.length:=by have:=congrArg List.length hK;simpa using this
 have hTl:(timesQ Q0 q).length=k:=by show (Q0.map _).length=k;rw[List.length_map,←hKl];exact h'.len
 have hT:=Lib.hid (fun W (hb:Below w.heap.size w W)=>timesR_any Q0 q K A' k c' y W (h'.bel hb) hK (fun x hx=>(sQ x hx).mono (by omega)) hk hy (R1.below hb) (R2.below hb) (sq.mono (by omega)))
 have hP:=Lib.hid (fun W (hb:Below w.heap.size w W) A2 c2 L2 (s2:LR rwC W A2 k L2) (q2:L2.map rwV=(timesQ Q0 q).map qV)=>(plusR_any P0 (timesQ Q0 q) L L2 A k c A2 c2 W (h.bel hb) s2 hL q2 (fun x hx=>(sP x hx).mono (by omega)) (fun x hx=>(sT x hx).mono (by omega)) hk).mono fun e w' hx=>hx.rebase hb)
 have S:=Lib.hid ((St.new w).allocAt w.heap.size #[.bool y.b,.slice y.x.A y.x.n y.x.c,.slice y.y.A y.y.n y.y.c] 33 (noL3 _ _ _ _ _ _ _) rfl);replace hTl:=Lib.hid hTl;clear h h' hL hK sP sQ hy R1 R2 sq sT hk hKl;go_enter Tryz.func24,Tryz.ntmps24;go_upto_region 1 with fail
 obtain⟨u0,u1,u2⟩:=S.out.c3 0 rfl;have B0:=Lib.hid S.out.bel;obtain⟨w1,hw1⟩:∃ W,W=w.alloc (.cells #[.bool y.b,.slice y.x.A y.x.n y.x.c,.slice y.y.A y.y.n y.y.c] 33):=⟨_,rfl⟩;rw[←hw1] at u0 u1 u2 B0 ⊢;clear hw1 S;have hT1:=Lib.hid (hT.out _ B0.out);clear hT
 go_wp2_with fail
 refine hT1.out.mono ?_
 rintro e w2 ⟨A2,c2,L2,bs2,rs2,rfl,S2,hI2,hV2⟩;have hl2:L2.length=k:=by rw[←hTl.out];have:=congrArg List.length hV2;simpa using this
 have B1:=Lib.hid (B0.out.trans (S2.bel.mono B0.out.size));have hlr:LR rwC w2 A2 k L2:=by have:=hI2.lr S2;rwa [hl2] at this
 have hP1:=Lib.hid (hP.out _ B1.out A2 c2 L2 hlr hV2);rw[hl2];clear S2 hI2 hV2 hlr hl2 hP hT1 u0 u1 u2
 go_wp2_with fail
 refine hP1.out.mono ?_
 rintro e w3 ⟨A3,c3,L3,bs3,rs3,rfl,S3,hI3,hV3⟩;have hfin:=Lib.hid (show RowO (plusQ P0 (timesQ Q0 q)) w (.returned (.slice A3 L3.length c3)) w3 from ⟨A3,c3,L3,bs3,rs3,rfl,S3,hI3,hV3⟩)
 clear S3 hI3 hV3 hP1 B0 B1;go_wp2;go_ret;exact hfin.out
end Go.Proofs.YthlinhconnmbcaaGreat
namespace Go.Proofs.YthlinhconnmbcaaGreat
open Go.RowKit RQ GE
set_option linter.unusedVariables false
theorem law_rf (b b2:UInt8) (L1:List Int) (A1:Option Addr) (l1 c1:Nat) (iz jz cz:Int) (w:World) (h1:LR intC w A1 l1 L1) (b1:∀ i,-9223372036854775808≤L1.getD i 0∧L1.getD i 0≤9223372036854775807) (hcz : -9223372036854775808≤cz∧cz≤9223372036854775807):Calls Tryz.prog 7 #[.int .u8 (b.toNat:Int),.int .u8 (b2.toNat:Int),.slice A1 l1 c1,.int .i64 iz,.int .i64 jz,.int .i64 cz] w fun e w'=>e=.returned (.bool true)∧Below w.heap.size w w':=by
 generalize b.toNat=b0;generalize b2.toNat=b3;obtain⟨n1,hn1⟩:∃ r:Nat,r=b0%4:=⟨_,rfl⟩;obtain⟨k1,hk1⟩:∃ r:Nat,r=b3%4:=⟨_,rfl⟩;have rv:(b0:Int)%4=(n1:Int):=by omega
 have rv2:(b3:Int)%4=(k1:Int):=by omega
 have wv:IntKind.i64.wrap (n1:Int)=(n1:Int):=by rw[IntKind.wrap_i64];omega
 have wv2:IntKind.i64.wrap (k1:Int)=(k1:Int):=by rw[IntKind.wrap_i64];omega
 obtain⟨n,hn⟩:∃ r:Nat,r=1+n1:=⟨_,rfl⟩;obtain⟨k,hk⟩:∃ r:Nat,r=1+k1:=⟨_,rfl⟩;have en:1+(n1:Int)=(n:Int):=by omega
 have ek:1+(k1:Int)=(k:Int):=by omega
 have hn4:n≤4:=by omega
 have hk4:k≤4:=by omega
 have hn0:0<n:=by omega
 have hk0:0<k:=by omega
 have wn:IntKind.i64.wrap (n:Int)=(n:Int):=by rw[IntKind.wrap_i64];omega
 have wk:IntKind.i64.wrap (k:Int)=(k:Int):=by rw[IntKind.wrap_i64];omega
 obtain⟨i,hi⟩:∃ i:Nat,(i:Int)=iz%(n:Int):=⟨(iz%(n:Int)).toNat,by have:=Int.emod_nonneg iz (show (n:Int)≠0 by omega);omega⟩
 obtain⟨j,hj⟩:∃ j:Nat,(j:Int)=jz%(n:Int):=⟨(jz%(n:Int)).toNat,by have:=Int.emod_nonneg jz (show (n:Int)≠0 by omega);omega⟩
 have hin:i<n:=by have:=Int.emod_lt_of_pos iz (show 0<(n:Int) by omega);omega
 have hjn:j<n:=by have:=Int.emod_lt_of_pos jz (show 0<(n:Int) by omega);omega
 have hMi:=Lib.hid (fun W=>mmod_any iz n W (by omega) (by omega))
 have hMj:=Lib.hid (fun W=>mmod_any jz n W (by omega) (by omega))
 rw[←hi] at hMi;rw[←hj] at hMj;obtain⟨X,hX⟩:∃ X,X=mdQ n k L1:=⟨_,rfl⟩;have XT:∀ r∈X,∀ q∈r,Tw 12 360 q:=by rw[hX];exact mdQ_tw
 have XB:∀ r∈X,∀ q∈r,Pb 5 q:=by rw[hX];exact mk_all fun _ _=>mNum_pb _
 have X2:∀ r∈X,∀ q∈r,S2 1 1 q:=fun r hr q hq=>tw_s2 (XT r hr q hq)
 have hXl:X.length=n∧GE.rct k X:=by rw[hX];exact⟨mk_len,mk_rct⟩
 have hM1:=Lib.hid (fun W (hW:LR intC W A1 l1 L1)=>made_any n k L1 A1 l1 c1 W hW b1 (by omega) (by omega) (by omega) (by omega))
 rw[←hX] at hM1;obtain⟨q,hq⟩:∃ q,q=mNum cz:=⟨_,rfl⟩;have hNu:=Lib.hid (fun W=>num_any cz W hcz)
 rw[←hq] at hNu;have qT:Tw 12 360 q:=by rw[hq];exact mNum_tw _
 have qR:Hid (Rs q 8000):=Lib.hid ((tw_rs qT).mono (by omega))
 obtain⟨RM,hRM⟩:∃ RM,RM=(red k X).M:=⟨_,rfl⟩;obtain⟨ps,hps⟩:∃ ps,ps=(red k X).p:=⟨_,rfl⟩;have RF0:=(red_rf hXl.1 hXl.2).1;rw[←hRM,←hps] at RF0;have R43:∀ r∈RM,∀ q∈r,Rs q 43:=by rw[hRM];exact red_43 hXl.1 hXl.2 hn4 XB
 -- the three calls of Reduce
 have hR1:=Lib.hid (fun W K A c (g1:Gd K n k X) (m1:Mr W A n c K)=>preduce_g g1 m1 (sz11 hn4 (show k≤8 by omega) X2).1 (sz11 hn4 (show k≤8 by omega) X2).2.1 (sz11 hn4 (show k≤8 by omega) X2).2.2)
 rw[←hRM,←hps] at hR1;have hRo:∀ M2:List (List Rat),M2.length=n→GE.rct k M2→(∀ r∈M2,∀ q∈r,S2 1 1 q)→(∀ x,NS n k M2 x↔NS n k X x)→∀ w0 W g fb cg,n≤cg→OSt w0 W g fb n k q M2→Calls Tryz.prog 31 #[.slice (some ⟨g,0,none⟩) n cg] W (RetRx 0 RM ps W):=fun M2 h1 h2 h3 h4 w0 W g fb cg hcg T=>by
  obtain⟨e1,e2⟩:=red_unique h1 hXl.1 h2 hXl.2 h4;obtain⟨K,m,g⟩:=T.mr hcg (s2_all h3 (by omega)) (by omega) (by omega) hn0 hk0
  have:=preduce_g g m (sz11 hn4 (show k≤8 by omega) h3).1 (sz11 hn4 (show k≤8 by omega) h3).2.1 (sz11 hn4 (show k≤8 by omega) h3).2.2
  rw[e1,e2,←hRM,←hps] at this;exact this
 have hGR:=Lib.hid (fun W K A n' c (m:Mr W A n' c K) (cn:canM K) (hq:qM K=RM)=>Gd.of m cn hq RF0.len RF0.rect (show n≤8 by omega) (show k≤8 by omega) (by omega) (by omega))
 have hR3:=Lib.hid (fun W K A c (g1:Gd K n k RM) (m1:Mr W A n c K)=>preduce_g g1 m1 (fun r hr q hq=>rs_s2 (R43 r hr q hq)) (sz43 hn4 hk4).1 (sz43 hn4 hk4).2)
 have hid0:(red k RM).M=RM:=by rw[hRM];exact red_idem hXl.1 hXl.2
 obtain⟨ps3,hps3⟩:∃ ps,ps=(red k RM).p:=⟨_,rfl⟩;rw[hid0,←hps3] at hR3;have hTa:=Lib.hid (fun W K A c (g1:Gd K n k X) (m1:Mr W A n c K)=>takeM_any X K A n c W m1 g1.q (fun r hr=>⟨by rw[g1.rn r hr];omega,g1.rk m1 r hr⟩) (by omega))
 have hpl:Hid (ps.length≤1000):=Lib.hid (by have:=RF0.ple;omega)
 have hA:=Lib.hid awake_any;have S0:=Lib.hid (St.new w);have hw0:=hn0;replace h1:=Lib.hid h1;have hinh:=Lib.hid hin;have hjnh:=Lib.hid hjn;have hn4h:=Lib.hid hn4;have hk4h:=Lib.hid hk4;have hn0h:=Lib.hid hn0;have X8:Hid (∀ r∈X,∀ q∈r,Rs q 8000):=Lib.hid (fun r hr q hq=>(tw_rs (XT r hr q hq)).mono (by omega))
 have hXr:Hid (GE.rct k X):=Lib.hid hXl.2;have hXn:Hid (X.length=n):=Lib.hid hXl.1;have XTh:=Lib.hid XT;have qTh:=Lib.hid qT;have X2h:=Lib.hid X2;replace hRo:=Lib.hid hRo;clear hn1 hk1 hn hk hi hj hX XT XB X2 hXl hq qT hRM hps RF0 R43 hid0 hps3 b1 hcz hn4 hk4 hn0 hk0 hw0 hin hjn;go_enter Tryz.func7,Tryz.ntmps7
 go_wp2_with fail
 refine (hM1.out _ h1.out).mono ?_
 rintro e w' ⟨A3,c3,K3,rfl,m3,g3,bb⟩;replace h1:=Lib.hid (h1.out.bel bb);replace S0:=Lib.hid (S0.out.call bb);replace m3:=Lib.hid m3;replace g3:=Lib.hid g3;clear bb;clear hM1 h1 rv rv2 wv wv2 en ek
 go_wp2_with fail
 refine (hMi.out _).mono ?_
 rintro e w' ⟨rfl,rfl⟩;clear hMi
 go_wp2_with fail
 refine (hMj.out _).mono ?_
 rintro e w' ⟨rfl,rfl⟩;clear hMj;have hTx:=Lib.hid (hTa.out _ K3 A3 c3 g3.out m3.out);clear hTa
 go_wp2_with fail
 refine hTx.out.mono ?_
 rintro e V1 ⟨v,bs,rs,L,rfl,G,hI,hV⟩;have hLn:L.length=n:=by rw[hV.len];exact hXn.out
 obtain⟨g,cg,cur,rfl,hcg,hMx,SG⟩:∃ g cg cur,v=.slice (some ⟨g,0,none⟩) n cg∧n≤cg∧Mx cur L∧St w' V1 ((g,cur,46)::bs) rs:=by
  obtain⟨⟨h1,h2,⟨rfl,h0,S⟩ | ⟨g,cap,cur,rfl,k2,k3,k4,k5,S⟩⟩,hx⟩:=G
  ·have:=hn0h.out;omega
  ·refine⟨g,cap,cur,by rw[hLn],by omega,fun i s hs=>?_,S⟩
   have e:=all_get (slC rwC) hs 0 s.v rfl;rw[←k5,List.getElem?_take] at e
   split at e
   ·simpa [slC] using e
   ·cases e
 replace hI:=Lib.hid hI;replace hV:=Lib.hid hV;replace hMx:=Lib.hid hMx;replace SG:=Lib.hid SG;replace hcg:=Lib.hid hcg;clear G hLn hTx
 go_wp2_with fail
 refine (hNu.out _).mono ?_
 rintro e V2 ⟨A9,n9,c9,D9,m9,d9,rfl,R9,bb⟩;have S9:=(((SG.out.call bb).read R9.d).read R9.n).allocAt V2.heap.size #[.bool (ng q.num),.slice A9 n9 c9,.slice D9 m9 d9] 33 (noLof rfl) rfl;obtain⟨fb,hfb⟩:∃ f,f=V2.heap.size:=⟨_,rfl⟩;obtain⟨V,hVe⟩:∃ W,W=V2.alloc (.cells #[.bool (ng q.num),.slice A9 n9 c9,.slice D9 m9 d9] 33):=⟨_,rfl⟩;rw[←hfb,←hVe] at S9;have T:Hid (OSt w' V g fb n k q X):=Lib.hid ⟨cur,bs,_,L,⟨ng q.num,⟨A9,n9,c9,limbs q.num.natAbs⟩,⟨D9,m9,d9,dn q⟩⟩,S9.prm (List.Perm.swap _ _ _),hV.out.len.trans hXn.out,hMx.out,fun x hx=>(hI.out x hx).mono (fun p hp=>hp) (fun p hp=>List.mem_cons_of_mem _ (List.mem_cons_of_mem _ hp)),hV.out,hXr.out,⟨List.mem_cons_self,List.mem_cons_of_mem _ List.mem_cons_self⟩,rfl⟩
 clear hI hV hMx SG S9 R9 bb hNu;have hi1:=hinh.out;have hj1:=hjnh.out;have gi:(i:Int)<(n:Int):=by omega
 have gj:(j:Int)<(n:Int):=by omega
 have gi0:(0:Int)≤(i:Int):=by omega
 have gj0:(0:Int)≤(j:Int):=by omega
 clear hi1 hj1;go_upto_region 6 with fail
 rw[←hfb,←hVe];clear hfb hVe
 by_cases hij:i=j
 ·subst hij
  by_cases hq0:q=0
  ·skip
   obtain⟨y,f0,f1,f2,fq,F1,F2⟩:=T.out.fac;have Y:=(rw_rr fq F1 F2);have hSg:=Lib.hid (rsignQ2 q y.x.A y.x.n y.x.c y.y.A y.y.n y.y.c V Y.2 (qR.out.mono (by omega)))
   rw[show q.num.sign=0 by rw[hq0];rfl,←Y.1] at hSg
   have hRo':=Lib.hid (hRo.out X hXn.out hXr.out X2h.out (fun _=>Iff.rfl))
   clear fq F1 F2 Y hq0 hRo
   go_wp2_with fail
   refine hSg.out.mono ?_
   rintro e V3 ⟨rfl,bb⟩;replace T:=Lib.hid (T.out.call bb);clear bb hSg f0 f1 f2;replace m3:=Lib.hid (m3.out.bel T.out.bel);have S1:=Lib.hid (S0.out.call T.out.bel);have hRa:=Lib.hid (hR1.out _ K3 A3 c3 g3.out m3.out);clear hR1 m3 g3 S0 gi gj gi0 gj0
   go_wp2_with fail
   refine hRa.out.mono ?_
   rintro e W1 ⟨A4,n4,c4,K4,P4,pc4,rfl,m4,k4,q4,l4,i4,bb⟩;obtain⟨hn44,g4⟩:=hGR.out W1 K4 A4 n4 c4 m4 k4 q4;rw[hn44] at m4 l4 ⊢;clear hn44;replace T:=Lib.hid (T.out.call bb);replace S1:=Lib.hid (S1.out.call bb);replace m4:=Lib.hid m4;replace k4:=Lib.hid k4;replace q4:=Lib.hid q4;replace i4:=Lib.hid i4;replace g4:=Lib.hid g4;have hRb:=Lib.hid (hRo'.out _ _ g fb cg hcg.out T.out);clear bb hRa hRo' T
   go_wp2_with fail
   refine hRb.out.mono ?_
   rintro e W2 ⟨A5,n5,c5,K5,P5,pc5,rfl,m5,k5,q5,l5,i5,bb⟩;replace m4:=Lib.hid (m4.out.bel bb);replace i4:=Lib.hid (i4.out.bel bb);replace S1:=Lib.hid (S1.out.call bb);replace m5:=Lib.hid m5;replace k5:=Lib.hid k5;replace q5:=Lib.hid q5;replace i5:=Lib.hid i5;have hRc:=Lib.hid (hR3.out _ K4 A4 c4 g4.out m4.out);clear bb hRb hR3 hGR
   go_wp2_with fail
   refine hRc.out.mono ?_
   rintro e W3 ⟨A6,n6,c6,K6,P6,pc6,rfl,m6,k6,q6,l6,i6,bb⟩;replace m4:=Lib.hid (m4.out.bel bb);replace i4:=Lib.hid (i4.out.bel bb);replace m5:=Lib.hid (m5.out.bel bb);replace i5:=Lib.hid (i5.out.bel bb);replace S1:=Lib.hid (S1.out.call bb);replace m6:=Lib.hid m6;replace k6:=Lib.hid k6;replace q6:=Lib.hid q6;clear bb hRc i6 l6 l5
   go_wp2_with fail
   refine (hA.out _).mono ?_
   rintro e W4 ⟨rfl,bb⟩;replace m4:=Lib.hid (m4.out.bel bb);replace i4:=Lib.hid (i4.out.bel bb);replace m5:=Lib.hid (m5.out.bel bb);replace i5:=Lib.hid (i5.out.bel bb);replace m6:=Lib.hid (m6.out.bel bb);replace S1:=Lib.hid (S1.out.call bb);have hSa:=Lib.hid (sameLists_any K4 K5 A4 n c4 A5 n5 c5 _ m4.out m5.out k4.out k5.out (by rw[q4.out,q5.out]) l4)
   clear bb hA m5 k5 q5
   go_wp2_with fail
   refine hSa.out.mono ?_
   rintro e W5 ⟨rfl,bb⟩;replace m4:=Lib.hid (m4.out.bel bb);replace i4:=Lib.hid (i4.out.bel bb);replace i5:=Lib.hid (i5.out.bel bb);replace m6:=Lib.hid (m6.out.bel bb);replace S1:=Lib.hid (S1.out.call bb);have hSb:=Lib.hid (sameInts_any ps P4 ps.length pc4 P5 pc5 _ i4.out i5.out hpl.out);clear bb hSa i4 i5
   go_wp2_with fail
   refine hSb.out.mono ?_
   rintro e W6 ⟨rfl,bb⟩;replace m4:=Lib.hid (m4.out.bel bb);replace m6:=Lib.hid (m6.out.bel bb);replace S1:=Lib.hid (S1.out.call bb);have hSc:=Lib.hid (sameLists_any K4 K6 A4 n c4 A6 n6 c6 _ m4.out m6.out k4.out k6.out (by rw[q4.out,q6.out]) l4)
   clear bb hSb m4 m6 k4 k6 q4 q6
   go_wp2_with fail
   refine hSc.out.mono ?_
   rintro e W7 ⟨rfl,bb⟩;replace S1:=Lib.hid (S1.out.call bb);clear bb hSc;go_wp2;go_ret;exact⟨rfl,S1.out.bel⟩
  ·skip
   obtain⟨y,f0,f1,f2,fq,F1,F2⟩:=T.out.fac;have Y:=(rw_rr fq F1 F2);have hSg:=Lib.hid (rsignQ2 q y.x.A y.x.n y.x.c y.y.A y.y.n y.y.c V Y.2 (qR.out.mono (by omega)))
   obtain⟨z,hz⟩:∃ z,z=q.num.sign:=⟨_,rfl⟩;have hz0:¬ z=0:=fun h0=>hq0 (Rat.num_eq_zero.1 (Int.sign_eq_zero_iff_zero.1 (by rw[←hz];exact h0)))
   rw[←hz,←Y.1] at hSg;have hTl:Hid ((timesQ (X.getD i []) q).length=k):=Lib.hid (by show ((X.getD i []).map _).length=k;rw[List.length_map];exact rct_getD hXr.out (by rw[hXn.out];exact hinh.out))
   have hRo':=Lib.hid (hRo.out (X.set i (timesQ (X.getD i []) q)) (by rw[List.length_set];exact hXn.out) (rct_set hXr.out hTl.out) (allQ_set X2h.out (times_tw (allQ_getD XTh.out i) qTh.out) i) (fun x=>ns_times hXn.out hinh.out hq0 x))
   clear fq F1 F2 Y hq0 hRo hz
   go_wp2_with fail
   refine hSg.out.mono ?_
   rintro e V3 ⟨rfl,bb⟩;replace T:=Lib.hid (T.out.call bb);clear bb hSg f0 f1 f2;obtain⟨A4,c4,R4,r0,r1,r2,r3⟩:=T.out.row hinh.out;obtain⟨y,f0,f1,f2,fq,F1,F2⟩:=T.out.fac;have hTi:=Lib.hid (fun W (hW:Below V3.heap.size V3 W)=>timesR_any (X.getD i []) q R4 A4 k c4 y W (r1.bel hW) r2 (fun x hx=>(allQ_getD X8.out i x hx).mono (by omega)) (by have:=hk4h.out;omega) fq (F1.below hW) (F2.below hW) (qR.out.mono (by omega)))
   replace f0:=Lib.hid f0;replace f1:=Lib.hid f1;replace f2:=Lib.hid f2;replace r0:=Lib.hid r0;clear fq F1 F2 r1 r2 r3;go_upto_region 10 with fail
   clear hz0;refine Wl.start (fun W=>Below V3.heap.size V3 W) [9] rfl ?_
   have hS:Below V3.heap.size V3 V3.drew:=(Below.refl _ _).drew;refine Wl.t (i:=0) (v:=.slice (some ⟨g,0,none⟩) n cg) (some 82) at0 (hy:=fun _ _=>by kernel_rfl) (hS:=hS) (h:=?_)
   refine Wl.t (i:=1) (v:=.int .i64 i) (some 83) at1 (hy:=fun _ _=>by kernel_rfl) (hS:=hS) (h:=?_)
   refine Wl.t (i:=2) (v:=.slice (some ⟨g,0,none⟩) n cg) (some 84) at2 (hy:=fun _ _=>by kernel_rfl) (hS:=hS) (h:=?_)
   refine Wl.t (i:=3) (v:=.int .i64 i) (some 85) at3 (hy:=fun _ _=>by kernel_rfl) (hS:=hS) (h:=?_)
   refine Wl.t (i:=4) (v:=.pointer (some ⟨g,i,none⟩)) (some 86) at4 (hy:=fun _ _=>by go_simp) (hS:=hS) (h:=?_)
   refine Wl.t (i:=5) (v:=.slice A4 k c4) (some 87) at5 (hy:=fun W hS=>by (have k0:=bel_cell hS r0.out;clear hS;go_simp)) (hS:=hS) (h:=?_)
   refine Wl.t (i:=6) (v:=.agg #[.bool y.b,.slice y.x.A y.x.n y.x.c,.slice y.y.A y.y.n y.y.c]) (some 88) at6 (hy:=fun W hS=>by (have k0:=bel_cell hS f0.out;have k1:=bel_cell hS f1.out;have k2:=bel_cell hS f2.out;clear hS;go_simp)) (hS:=hS) (h:=?_)
   try simp only[Act.put,sZ0,sZ1,sZ2]
   refine Wl.g (i:=7) at7 (by kernel_rfl) (by kernel_rfl) fun K' hK=>?_
   refine oper_call (f:=30) (args:=#[.slice A4 k c4,.agg #[.bool y.b,.slice y.x.A y.x.n y.x.c,.slice y.y.A y.y.n y.y.c]]) rfl (by kernel_rfl) ((hTi.out _ hS).mono ?_)
   rintro e V4 ⟨A5,c5,L5,bs5,rs5,rfl,S5,hI5,hV5⟩;have bb:=S5.bel;have hl5:L5.length=k:=by rw[←hTl.out];have:=congrArg List.length hV5;simpa using this
   have T4:=T.out.call hS;have hI5b:=hI5;have T5:Hid (OSt w' (V4.setCell ⟨g,i,none⟩ (.slice A5 k c5)) g fb n k q (X.set i (timesQ (X.getD i []) q))):=Lib.hid (T4.put S5 hI5 hV5 hTl.out);have fz:=(T.out.call (hS.trans (bb.mono hS.size))).frz i;have c9:=bel_cell (hS.trans (bb.mono hS.size)) r0.out;rw[hl5];obtain⟨V5,hV5e⟩:∃ W,W=V4.setCell ⟨g,i,none⟩ (.slice A5 k c5):=⟨_,rfl⟩;rw[←hV5e] at T5;clear S5 hI5 hI5b hV5 hl5 T4
   have hSa:=hS.trans (bb.mono hS.size);refine⟨_,rfl,hK.out _ _ hSa ?_⟩
   clear hK K' hS bb hTi T
   try simp only[Act.put,sZ0,sZ1,sZ2]
   refine Wl.t (i:=8) (v:=.pointer (some ⟨g,i,none⟩)) (some 90) at8 (hy:=fun _ _=>by go_simp) (hS:=hSa) (h:=?_)
   try simp only[Act.put,sZ0,sZ1,sZ2]
   refine Wl.s (i:=9) at9 (by kernel_rfl) (by kernel_rfl) (by kernel_rfl) fun K' hK=>?_
   go_simp
   rw[←hV5e];refine hK.out _ _ ?_
   clear hK K' hSa c9 fz hV5e r0 f0 f1 f2;refine Wl.done (by kernel_rfl) ?_
   replace T:=T5;clear T5 hTl;replace m3:=Lib.hid (m3.out.bel T.out.bel);have S1:=Lib.hid (S0.out.call T.out.bel);have hRa:=Lib.hid (hR1.out _ K3 A3 c3 g3.out m3.out);clear hR1 m3 g3 S0 gi gj gi0 gj0
   go_wp2_with fail
   refine hRa.out.mono ?_
   rintro e W1 ⟨A4,n4,c4,K4,P4,pc4,rfl,m4,k4,q4,l4,i4,bb⟩;obtain⟨hn44,g4⟩:=hGR.out W1 K4 A4 n4 c4 m4 k4 q4;rw[hn44] at m4 l4 ⊢;clear hn44;replace T:=Lib.hid (T.out.call bb);replace S1:=Lib.hid (S1.out.call bb);replace m4:=Lib.hid m4;replace k4:=Lib.hid k4;replace q4:=Lib.hid q4;replace i4:=Lib.hid i4;replace g4:=Lib.hid g4;have hRb:=Lib.hid (hRo'.out _ _ g fb cg hcg.out T.out);clear bb hRa hRo' T
   go_wp2_with fail
   refine hRb.out.mono ?_
   rintro e W2 ⟨A5,n5,c5,K5,P5,pc5,rfl,m5,k5,q5,l5,i5,bb⟩;replace m4:=Lib.hid (m4.out.bel bb);replace i4:=Lib.hid (i4.out.bel bb);replace S1:=Lib.hid (S1.out.call bb);replace m5:=Lib.hid m5;replace k5:=Lib.hid k5;replace q5:=Lib.hid q5;replace i5:=Lib.hid i5;have hRc:=Lib.hid (hR3.out _ K4 A4 c4 g4.out m4.out);clear bb hRb hR3 hGR
   go_wp2_with fail
   refine hRc.out.mono ?_
   rintro e W3 ⟨A6,n6,c6,K6,P6,pc6,rfl,m6,k6,q6,l6,i6,bb⟩;replace m4:=Lib.hid (m4.out.bel bb);replace i4:=Lib.hid (i4.out.bel bb);replace m5:=Lib.hid (m5.out.bel bb);replace i5:=Lib.hid (i5.out.bel bb);replace S1:=Lib.hid (S1.out.call bb);replace m6:=Lib.hid m6;replace k6:=Lib.hid k6;replace q6:=Lib.hid q6;clear bb hRc i6 l6 l5
   go_wp2_with fail
   refine (hA.out _).mono ?_
   rintro e W4 ⟨rfl,bb⟩;replace m4:=Lib.hid (m4.out.bel bb);replace i4:=Lib.hid (i4.out.bel bb);replace m5:=Lib.hid (m5.out.bel bb);replace i5:=Lib.hid (i5.out.bel bb);replace m6:=Lib.hid (m6.out.bel bb);replace S1:=Lib.hid (S1.out.call bb);have hSa:=Lib.hid (sameLists_any K4 K5 A4 n c4 A5 n5 c5 _ m4.out m5.out k4.out k5.out (by rw[q4.out,q5.out]) l4)
   clear bb hA m5 k5 q5
   go_wp2_with fail
   refine hSa.out.mono ?_
   rintro e W5 ⟨rfl,bb⟩;replace m4:=Lib.hid (m4.out.bel bb);replace i4:=Lib.hid (i4.out.bel bb);replace i5:=Lib.hid (i5.out.bel bb);replace m6:=Lib.hid (m6.out.bel bb);replace S1:=Lib.hid (S1.out.call bb);have hSb:=Lib.hid (sameInts_any ps P4 ps.length pc4 P5 pc5 _ i4.out i5.out hpl.out);clear bb hSa i4 i5
   go_wp2_with fail
   refine hSb.out.mono ?_
   rintro e W6 ⟨rfl,bb⟩;replace m4:=Lib.hid (m4.out.bel bb);replace m6:=Lib.hid (m6.out.bel bb);replace S1:=Lib.hid (S1.out.call bb);have hSc:=Lib.hid (sameLists_any K4 K6 A4 n c4 A6 n6 c6 _ m4.out m6.out k4.out k6.out (by rw[q4.out,q6.out]) l4)
   clear bb hSb m4 m6 k4 k6 q4 q6
   go_wp2_with fail
   refine hSc.out.mono ?_
   rintro e W7 ⟨rfl,bb⟩;replace S1:=Lib.hid (S1.out.call bb);clear bb hSc;go_wp2;go_ret;exact⟨rfl,S1.out.bel⟩
 ·have hij2:¬ (i:Int)=(j:Int):=by omega
  have hij3:¬ (j=i):=fun e=>hij e.symm
  obtain⟨y,f0,f1,f2,fq,F1,F2⟩:=T.out.fac;obtain⟨A4,c4,R4,r0,r1,r2,r3⟩:=T.out.row hinh.out;obtain⟨A6,c6,R6,t0,t1,t2,t3⟩:=T.out.row hjnh.out;have hTl:Hid ((plusQ (X.getD i []) (timesQ (X.getD j []) q)).length=k):=Lib.hid (by
   show (List.zipWith _ _ ((X.getD j []).map _)).length=k
   rw[List.length_zipWith,List.length_map,r3,t3,Nat.min_self])
  obtain⟨M1,hM1⟩:∃ M1,M1=X.set i (plusQ (X.getD i []) (timesQ (X.getD j []) q)):=⟨_,rfl⟩;have hM1l:M1.length=n:=by rw[hM1,List.length_set];exact hXn.out
  have hM1r:GE.rct k M1:=by rw[hM1];exact rct_set hXr.out hTl.out
  have hRo':=Lib.hid (hRo.out (swp M1 i j) (by unfold swp;rw[List.length_set,List.length_set];exact hM1l) (by
   unfold swp;exact rct_set (rct_set hM1r (rct_getD hM1r (by rw[hM1l];exact hjnh.out))) (rct_getD hM1r (by rw[hM1l];exact hinh.out))) (allQ_swp (by rw[hM1];exact allQ_set X2h.out (plus_tw (allQ_getD XTh.out i) (allQ_getD XTh.out j) qTh.out) i) i j) (fun x=>(ns_swp hM1l hinh.out hjnh.out).trans (by rw[hM1];exact ns_add hXn.out hXr.out hinh.out hjnh.out hij x)))
  have hTi:=Lib.hid (fun W (hW:Below V.heap.size V W)=>msumG_any (X.getD i []) (X.getD j []) q R4 R6 A4 k c4 A6 c6 y W (r1.bel hW) (t1.bel hW) r2 t2 (allQ_getD X8.out i) (allQ_getD X8.out j) (by have:=hk4h.out;omega) fq (F1.below hW) (F2.below hW) qR.out)
  replace f0:=Lib.hid f0;replace f1:=Lib.hid f1;replace f2:=Lib.hid f2;replace r0:=Lib.hid r0;replace t0:=Lib.hid t0;clear fq F1 F2 r1 r2 r3 t1 t2 t3 hM1l hM1r hRo;go_upto_region 7 with fail
  refine Wl.start (fun W=>Below V.heap.size V W) [13] rfl ?_
  have hS:Below V.heap.size V V.drew:=(Below.refl _ _).drew;refine Wl.t (i:=0) (v:=.slice (some ⟨g,0,none⟩) n cg) (some 52) at0 (hy:=fun _ _=>by kernel_rfl) (hS:=hS) (h:=?_)
  refine Wl.t (i:=1) (v:=.int .i64 i) (some 53) at1 (hy:=fun _ _=>by kernel_rfl) (hS:=hS) (h:=?_)
  refine Wl.t (i:=2) (v:=.slice (some ⟨g,0,none⟩) n cg) (some 54) at2 (hy:=fun _ _=>by kernel_rfl) (hS:=hS) (h:=?_)
  refine Wl.t (i:=3) (v:=.int .i64 i) (some 55) at3 (hy:=fun _ _=>by kernel_rfl) (hS:=hS) (h:=?_)
  refine Wl.t (i:=4) (v:=.pointer (some ⟨g,i,none⟩)) (some 56) at4 (hy:=fun _ _=>by go_simp) (hS:=hS) (h:=?_)
  refine Wl.t (i:=5) (v:=.slice A4 k c4) (some 57) at5 (hy:=fun W hS=>by (have k0:=bel_cell hS r0.out;clear hS;go_simp)) (hS:=hS) (h:=?_)
  refine Wl.t (i:=6) (v:=.slice (some ⟨g,0,none⟩) n cg) (some 58) at6 (hy:=fun _ _=>by kernel_rfl) (hS:=hS) (h:=?_)
  refine Wl.t (i:=7) (v:=.int .i64 j) (some 59) at7 (hy:=fun _ _=>by kernel_rfl) (hS:=hS) (h:=?_)
  refine Wl.t (i:=8) (v:=.pointer (some ⟨g,j,none⟩)) (some 60) at8 (hy:=fun _ _=>by go_simp) (hS:=hS) (h:=?_)
  refine Wl.t (i:=9) (v:=.slice A6 k c6) (some 61) at9 (hy:=fun W hS=>by (have k0:=bel_cell hS t0.out;clear hS;go_simp)) (hS:=hS) (h:=?_)
  refine Wl.t (i:=10) (v:=.agg #[.bool y.b,.slice y.x.A y.x.n y.x.c,.slice y.y.A y.y.n y.y.c]) (some 62) at10 (hy:=fun W hS=>by (have k0:=bel_cell hS f0.out;have k1:=bel_cell hS f1.out;have k2:=bel_cell hS f2.out;clear hS;go_simp)) (hS:=hS) (h:=?_)
  try simp only[Act.put,sZ0,sZ1,sZ2]
  refine Wl.g (i:=11) at11 (by kernel_rfl) (by kernel_rfl) fun K' hK=>?_
  refine oper_call (f:=24) (args:=#[.slice A4 k c4,.slice A6 k c6,.agg #[.bool y.b,.slice y.x.A y.x.n y.x.c,.slice y.y.A y.y.n y.y.c]]) rfl (by kernel_rfl) ((hTi.out _ hS).mono ?_)
  rintro e V4 ⟨A5,c5,L5,bs5,rs5,rfl,S5,hI5,hV5⟩;have bb:=S5.bel;have hl5:L5.length=k:=by rw[←hTl.out];have:=congrArg List.length hV5;simpa using this
  have T4:=T.out.call hS;have hI5b:=hI5;have T5:Hid (OSt w' (V4.setCell ⟨g,i,none⟩ (.slice A5 k c5)) g fb n k q (X.set i (plusQ (X.getD i []) (timesQ (X.getD j []) q)))):=Lib.hid (T4.put S5 hI5 hV5 hTl.out);have fz:=(T.out.call (hS.trans (bb.mono hS.size))).frz i;have c9:=bel_cell (hS.trans (bb.mono hS.size)) r0.out;rw[hl5];rw[←hM1] at T5;obtain⟨V5,hV5e⟩:∃ W,W=V4.setCell ⟨g,i,none⟩ (.slice A5 k c5):=⟨_,rfl⟩
  rw[←hV5e] at T5;clear S5 hI5 hI5b hV5 hl5 T4;have hSa:=hS.trans (bb.mono hS.size);refine⟨_,rfl,hK.out _ _ hSa ?_⟩
  clear hK K' hS bb hTi T
  try simp only[Act.put,sZ0,sZ1,sZ2]
  refine Wl.t (i:=12) (v:=.pointer (some ⟨g,i,none⟩)) (some 64) at12 (hy:=fun _ _=>by go_simp) (hS:=hSa) (h:=?_)
  try simp only[Act.put,sZ0,sZ1,sZ2]
  refine Wl.s (i:=13) at13 (by kernel_rfl) (by kernel_rfl) (by kernel_rfl) fun K' hK=>?_
  go_simp
  rw[←hV5e];refine hK.out _ _ ?_
  clear hK K' hSa c9 fz hV5e r0 t0 f0 f1 f2;refine Wl.done (by kernel_rfl) ?_
  clear hM1;replace T:=T5;clear T5 hTl;obtain⟨Ai,ci,Ri,r0,_,_,_⟩:=T.out.row hinh.out;obtain⟨Aj,cj,Rj,t0,_,_,_⟩:=T.out.row hjnh.out;obtain⟨V6,hV6,T6⟩:∃ W,W=((V5.setCell ⟨g,i,none⟩ (.slice Aj k cj)).setCell ⟨g,j,none⟩ (.slice Ai k ci)).drew∧Hid (OSt w' W g fb n k q (swp M1 i j)):=⟨_,rfl,Lib.hid ((T.out.swap hinh.out hjnh.out r0 t0).call ((Below.refl _ _).drew))⟩;have kf:=Lib.hid T.out.frz;replace r0:=Lib.hid r0
  replace t0:=Lib.hid t0;clear T;go_upto_region 8 with fail
  refine Wl.start (fun W=>Below V5.heap.size V5 W) [13,15] rfl ?_
  have hS:Below V5.heap.size V5 V5.drew:=(Below.refl _ _).drew;refine Wl.t (i:=0) (v:=.slice (some ⟨g,0,none⟩) n cg) (some 65) at0 (hy:=fun _ _=>by kernel_rfl) (hS:=hS) (h:=?_)
  refine Wl.t (i:=1) (v:=.int .i64 i) (some 66) at1 (hy:=fun _ _=>by kernel_rfl) (hS:=hS) (h:=?_)
  refine Wl.p (i:=2) (v:=.slice (some ⟨g,0,none⟩) n cg) (some 67) at2 (hy:=fun _=>by kernel_rfl) (hS:=fun _=>hS) (h:=?_)
  refine Wl.p (i:=3) (v:=.int .i64 j) (some 68) at3 (hy:=fun _=>by kernel_rfl) (hS:=fun _=>hS) (h:=?_)
  refine Wl.t (i:=4) (v:=.slice (some ⟨g,0,none⟩) n cg) (some 69) at4 (hy:=fun _ _=>by kernel_rfl) (hS:=hS) (h:=?_)
  refine Wl.t (i:=5) (v:=.int .i64 j) (some 70) at5 (hy:=fun _ _=>by kernel_rfl) (hS:=hS) (h:=?_)
  refine Wl.t (i:=6) (v:=.pointer (some ⟨g,j,none⟩)) (some 71) at6 (hy:=fun _ _=>by go_simp) (hS:=hS) (h:=?_)
  refine Wl.t (i:=7) (v:=.slice Aj k cj) (some 72) at7 (hy:=fun W hS=>by (have k0:=bel_cell hS t0.out;clear hS;go_simp)) (hS:=hS) (h:=?_)
  refine Wl.t (i:=8) (v:=.slice (some ⟨g,0,none⟩) n cg) (some 73) at8 (hy:=fun _ _=>by kernel_rfl) (hS:=hS) (h:=?_)
  refine Wl.t (i:=9) (v:=.int .i64 i) (some 74) at9 (hy:=fun _ _=>by kernel_rfl) (hS:=hS) (h:=?_)
  refine Wl.t (i:=10) (v:=.pointer (some ⟨g,i,none⟩)) (some 75) at10 (hy:=fun _ _=>by go_simp) (hS:=hS) (h:=?_)
  refine Wl.t (i:=11) (v:=.slice Ai k ci) (some 76) at11 (hy:=fun W hS=>by (have k0:=bel_cell hS r0.out;clear hS;go_simp)) (hS:=hS) (h:=?_)
  refine Wl.p (i:=12) (v:=.pointer (some ⟨g,i,none⟩)) (some 77) at12 (hy:=fun _=>by go_simp) (hS:=fun _=>hS) (h:=?_)
  have c0:V5.cell? ⟨g,i,none⟩=some (.slice Ai k ci):=r0.out;have c0s:Hid (V5.cell? ⟨g,j,none⟩=some (.slice Aj k cj)):=Lib.hid t0.out;have k3:=kf.out i
  try simp only[Act.put,sZ0,sZ1,sZ2]
  refine Wl.s (i:=13) at13 (by kernel_rfl) (by kernel_rfl) (by kernel_rfl) fun K' hK=>?_
  go_simp
  refine hK.out _ _ ?_
  clear hK K' c0 k3 hS
  try simp only[Act.put,sZ0,sZ1,sZ2]
  refine Wl.s (i:=14) at14 (by kernel_rfl) (by kernel_rfl) (by kernel_rfl) fun K' hK=>?_
  go_simp
  refine hK.out _ _ ?_
  clear hK K';have c1:V5.cell? ⟨g,j,none⟩=some (.slice Aj k cj):=c0s.out;have k6:=kf.out j
  try simp only[Act.put,sZ0,sZ1,sZ2]
  refine Wl.s (i:=15) at15 (by kernel_rfl) (by kernel_rfl) (by kernel_rfl) fun K' hK=>?_
  go_simp
  rw[←hV6];refine hK.out _ _ ?_
  clear hK K' hV6 c1 k6 c0s kf r0 t0;refine Wl.done (by kernel_rfl) ?_
  replace T:=T6;clear T6 hij hij2 hij3;replace m3:=Lib.hid (m3.out.bel T.out.bel);have S1:=Lib.hid (S0.out.call T.out.bel);have hRa:=Lib.hid (hR1.out _ K3 A3 c3 g3.out m3.out);clear hR1 m3 g3 S0 gi gj gi0 gj0
  go_wp2_with fail
  refine hRa.out.mono ?_
  rintro e W1 ⟨A4,n4,c4,K4,P4,pc4,rfl,m4,k4,q4,l4,i4,bb⟩;obtain⟨hn44,g4⟩:=hGR.out W1 K4 A4 n4 c4 m4 k4 q4;rw[hn44] at m4 l4 ⊢;clear hn44;replace T:=Lib.hid (T.out.call bb);replace S1:=Lib.hid (S1.out.call bb);replace m4:=Lib.hid m4;replace k4:=Lib.hid k4;replace q4:=Lib.hid q4;replace i4:=Lib.hid i4;replace g4:=Lib.hid g4;have hRb:=Lib.hid (hRo'.out _ _ g fb cg hcg.out T.out);clear bb hRa hRo' T
  go_wp2_with fail
  refine hRb.out.mono ?_
  rintro e W2 ⟨A5,n5,c5,K5,P5,pc5,rfl,m5,k5,q5,l5,i5,bb⟩;replace m4:=Lib.hid (m4.out.bel bb);replace i4:=Lib.hid (i4.out.bel bb);replace S1:=Lib.hid (S1.out.call bb);replace m5:=Lib.hid m5;replace k5:=Lib.hid k5;replace q5:=Lib.hid q5;replace i5:=Lib.hid i5;have hRc:=Lib.hid (hR3.out _ K4 A4 c4 g4.out m4.out);clear bb hRb hR3 hGR
  go_wp2_with fail
  refine hRc.out.mono ?_
  rintro e W3 ⟨A6,n6,c6,K6,P6,pc6,rfl,m6,k6,q6,l6,i6,bb⟩;replace m4:=Lib.hid (m4.out.bel bb);replace i4:=Lib.hid (i4.out.bel bb);replace m5:=Lib.hid (m5.out.bel bb);replace i5:=Lib.hid (i5.out.bel bb);replace S1:=Lib.hid (S1.out.call bb);replace m6:=Lib.hid m6;replace k6:=Lib.hid k6;replace q6:=Lib.hid q6;clear bb hRc i6 l6 l5
  go_wp2_with fail
  refine (hA.out _).mono ?_
  rintro e W4 ⟨rfl,bb⟩;replace m4:=Lib.hid (m4.out.bel bb);replace i4:=Lib.hid (i4.out.bel bb);replace m5:=Lib.hid (m5.out.bel bb);replace i5:=Lib.hid (i5.out.bel bb);replace m6:=Lib.hid (m6.out.bel bb);replace S1:=Lib.hid (S1.out.call bb);have hSa:=Lib.hid (sameLists_any K4 K5 A4 n c4 A5 n5 c5 _ m4.out m5.out k4.out k5.out (by rw[q4.out,q5.out]) l4)
  clear bb hA m5 k5 q5
  go_wp2_with fail
  refine hSa.out.mono ?_
  rintro e W5 ⟨rfl,bb⟩;replace m4:=Lib.hid (m4.out.bel bb);replace i4:=Lib.hid (i4.out.bel bb);replace i5:=Lib.hid (i5.out.bel bb);replace m6:=Lib.hid (m6.out.bel bb);replace S1:=Lib.hid (S1.out.call bb);have hSb:=Lib.hid (sameInts_any ps P4 ps.length pc4 P5 pc5 _ i4.out i5.out hpl.out);clear bb hSa i4 i5
  go_wp2_with fail
  refine hSb.out.mono ?_
  rintro e W6 ⟨rfl,bb⟩;replace m4:=Lib.hid (m4.out.bel bb);replace m6:=Lib.hid (m6.out.bel bb);replace S1:=Lib.hid (S1.out.call bb);have hSc:=Lib.hid (sameLists_any K4 K6 A4 n c4 A6 n6 c6 _ m4.out m6.out k4.out k6.out (by rw[q4.out,q6.out]) l4)
  clear bb hSb m4 m6 k4 k6 q4 q6
  go_wp2_with fail
  refine hSc.out.mono ?_
  rintro e W7 ⟨rfl,bb⟩;replace S1:=Lib.hid (S1.out.call bb);clear bb hSc;go_wp2;go_ret;exact⟨rfl,S1.out.bel⟩
end Go.Proofs.YthlinhconnmbcaaGreat
