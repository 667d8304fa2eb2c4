/- Lists of whole numbers, and bytes, that came in. -/
import Derived.WalkKit
import Derived.ProofKit
import Derived.OpenShut
import Derived.ShutString
import Derived.ChangeOld
import Derived.Below
import Derived.Lib.SmallJoins
import Derived.Test.YthlinhconnmbcaaGreatRows
import Derived.Test.YthlinhconnmbcaaGreatB19
import Derived.Test.YthlinhconnmbcaaGreatM30
set_option maxRecDepth 100000
set_option maxHeartbeats 40000000
set_option linter.unusedVariables false
namespace Go.Proofs.YthlinhconnmbcaaGreat
open Go.ChangeShapes Go.WideShapes Go.ChangeAt Go.RowKit Go.Joins Go.Deep
set_option linter.unusedVariables false
theorem own:ownKnob Tryz.prog.godebug=none:=by kernel_rfl
theorem laidOut:laidOutB Tryz.prog=true:=by kernel_rfl
def Opn {α:Type} (t:TypeId) (C:Cod α):Prop:=∀ {H:Type} {enc:TypeId×Value→H} {W:World} {n:Nat} {cs:List Value} {x:DataW H×List MemPlace},DataW.trod enc Tryz.prog W 0 (fun _=>true) true n t cs=some x→∃ a:α,cs=C.cs a∧C.At W a
theorem cells_get8 {w:World} {base:Nat} {a:Addr} {n:Nat} {cs:List Value} (h:w.cells? base a n=some cs):cs.length=n∧∀ i,i<n→w.cell? (a.add i)=cs[i]?:=by
 unfold World.cells? at h
 split at h
 ·exact⟨by simpa using mapM_some_length h,fun i hi=>mapM_some_get h i i (by simp[hi])⟩
 ·cases h
theorem spot_none8 {w:World} {a:Addr} {v:Value} (h:w.cell? a=some v):a=⟨a.block,a.off,none⟩∧a.block<w.heap.size:=by
 obtain⟨b,o,s⟩:=a;unfold World.cell? at h
 split at h
 ·rename_i hb
  cases s with
  | none=>exact⟨rfl,(Array.getElem?_eq_some_iff.1 hb).1⟩
  | some z=>simp at h
 ·cases h
theorem add_n8 (b o k:Nat):(⟨b,o,none⟩:Addr).add k=⟨b,o+k,none⟩:=by unfold Addr.add;split<;>simp_all
theorem opn_slice {α:Type} {C:Cod α} {t e:TypeId} (hu:Program.underlying Tryz.prog t=some (.slice e)) (hc:Program.cellsOf Tryz.prog e=C.sz) (he:Opn e C):Opn t (slC C):=by
 intro H enc W n cs x h
 rcases DataW.trod_slice hu h with ⟨h0,_⟩ | ⟨a,len,cap,elems,rest,m,_,h0,_,hb,hl,hm,hlen,hel,_,_⟩
 ·exact⟨⟨none,0,[]⟩,h0,LR.nil_ _ _ _,Nat.le_refl _⟩
 ·rw[hc] at hel
  have each:∀ i,i<len→∃ y:α,(∀ k v,(C.cs y)[k]?=some v→W.cell? ((a.add (i*C.sz)).add k)=some v)∧C.At W y:=by
   intro i hi;have e:=hel i hi;rw[List.getElem?_eq_getElem (by omega),Option.bind_eq_some_iff] at e
   obtain⟨cs',hcs,hy⟩:=e;obtain⟨hcl,hcg⟩:=cells_get8 hcs;obtain⟨y,rfl,hat⟩:=he hy;exact⟨y,fun k v hv=>by rw[hcg k (by rw[←C.len y];exact (List.getElem?_eq_some_iff.1 hv).1)];exact hv,hat⟩
  rcases Nat.eq_zero_or_pos len with h1 | h1
  ·subst h1
   exact⟨⟨some a,cap,[]⟩,h0,LR.nil_ _ _ _,Nat.zero_le _⟩
  ·obtain⟨y0,e0,_⟩:=each 0 h1
   have e0':=e0 0 _ (List.getElem?_eq_getElem (by rw[C.len];exact C.pos))
   have ea:(a.add (0*C.sz)).add 0=a:=by simp[Addr.add]
   rw[ea] at e0';obtain⟨ha,hblt⟩:=spot_none8 e0';obtain⟨b,o,s⟩:=a;obtain rfl:s=none:=by injection ha
   obtain⟨L,hL⟩:∃ L,L=(List.range len).map (fun i=>if hi:i<len then (each i hi).choose else y0):=⟨_,rfl⟩
   have hfl:L.length=len:=by rw[hL];simp
   have hmem:∀ r∈L,∃ i,∃ hi:i<len,r=(each i hi).choose:=by
    intro r hr;rw[hL] at hr;obtain⟨i,hi,rfl⟩:=List.mem_map.1 hr;have hil:i<len:=by simpa using hi
    exact⟨i,hil,by simp only[hil,dite_true]⟩
   refine⟨⟨some ⟨b,o,none⟩,cap,L⟩,by rw[h0,←hfl];rfl,⟨rfl,.inr ⟨b,o,rfl,hblt,fun i x hi k v hv=>?_⟩,fun r hr=>?_⟩,by show L.length≤cap;omega⟩
   ·have hil:i<len:=by rw[←hfl];exact (List.getElem?_eq_some_iff.1 hi).1
    have er:x=(each i hil).choose:=by
     have hi':L[i]?=some x:=hi;rw[hL,List.getElem?_map,List.getElem?_range hil] at hi'
     simpa [hil] using hi'.symm
    have k0:=(each i hil).choose_spec.1 k v (by rw[←er];exact hv)
    rw[add_n8,add_n8] at k0;exact k0
   ·obtain⟨i,hi,rfl⟩:=hmem r hr
    exact (each i hi).choose_spec.2
def ibC:Cod Int where
 sz:=1
 cs a:=[.int .i64 a]
 At _ a:=-9223372036854775808≤a∧a≤9223372036854775807
 In _ _ _ a:=-9223372036854775808≤a∧a≤9223372036854775807
 pos:=by decide
 len _:=rfl
 noL a:=fun v hv z e=>by rw[List.mem_singleton.1 hv] at e;cases e
 one a:=fun v hv=>by rw[List.mem_singleton.1 hv];rfl
 bel h _:=h
 mono h _ _:=h
 at_ _ h:=h
 old _ _ h:=h
theorem opn_intb:Opn 3 ibC:=by
 intro H enc W n cs x h;obtain⟨s,e,_,hw⟩:=DataW.trod_int Tryz.underlying3 h;exact⟨s,e,bounds_i64 hw⟩
theorem c6Int:Program.cellsOf Tryz.prog 3=1:=by kernel_rfl
theorem opn_intsb:Opn 22 (slC ibC):=opn_slice Tryz.underlying22 c6Int opn_intb
theorem open_intl {H:Type} {enc:TypeId×Value→H} {W:World} {b0:Nat} {r:Reach} {v:Value} {d:DataW H} {p:List MemPlace} (hv:Value.okWide Tryz.prog W r b0 22 v) (h:DataW.Trod enc Tryz.prog W 0 (fun _=>true) true 22 v d p) :
  ∃ s:Sl Int,v=.slice s.A s.L.length s.c∧LR intC W s.A s.L.length s.L∧∀ i,-9223372036854775808≤s.L.getD i 0∧s.L.getD i 0≤9223372036854775807:=by
 obtain⟨sa,sl,sc,rfl⟩:=okWide_slice Tryz.underlying22 hv;obtain⟨fuel,hf⟩:=h;obtain⟨s,e,A1⟩:=opn_intsb (show DataW.trod enc Tryz.prog W 0 (fun _=>true) true fuel 22 [.slice sa sl sc]=some _ by simpa [Value.cells] using hf)
 have e:Value.slice sa sl sc=Value.slice s.A s.L.length s.c:=by simpa [slC,Sl.v] using e
 refine⟨s,e,⟨A1.1.len,A1.1.mem,fun _ _=>trivial⟩,fun i=>?_⟩
 rw[List.getD_eq_getElem?_getD]
 cases h:s.L[i]? with
 | none=>exact⟨by show (-9223372036854775808:Int)≤0;omega,by show (0:Int)≤9223372036854775807;omega⟩
 | some x=>exact A1.1.el x (List.mem_of_getElem? h)
theorem byte_in {n:Int} (h:(Lit.int .u8 n).wf=true):∃ c:UInt8,n=(c.toNat:Int):=by
 obtain⟨h1,h2⟩:=bounds_u8 h;refine⟨UInt8.ofNat n.toNat,?_⟩
 rw[UInt8.toNat_ofNat']
 omega
end Go.Proofs.YthlinhconnmbcaaGreat
namespace Go.Proofs.YthlinhconnmbcaaGreat
open Go.RowKit RQ GE
set_option linter.unusedVariables false
theorem tw_rs {q:Rat} (h:Tw 12 360 q):Rs q 1:=by
 have:=h.nd (by omega)
 exact⟨by rw[Nat.pow_one];omega,by rw[Nat.pow_one];omega⟩
theorem rs_s2 {q:Rat} {p:Nat} (h:Rs q p):S2 p p q:=⟨Nat.le_of_lt h.n,Nat.le_of_lt h.d⟩
theorem mdQ_rs {n k:Nat} {l:List Int}:∀ r∈mdQ n k l,∀ q∈r,Rs q 1:=fun r hr q hq=>tw_rs (mdQ_tw r hr q hq)
theorem red_rsB {Q:List (List Rat)} {n k b:Nat} (hn:Q.length=n) (hr:GE.rct k Q) (hs:∀ r∈Q,∀ q∈r,Rs q b) (hb:1≤b) (i c:Nat):Rs (el (red k Q).M i c) (b*5^n):=
 (run_grow rs_grw (c:=k) (j:=0) (s:=⟨Q,[],1⟩) (b:=b) (B:=b*5^n) (rf_start hn hr) (rs_el hb hs) ((Rs.int (z:=1) (p:=1) (by decide) (Nat.le_refl 1)).mono hb) hb (Nat.le_refl _)).2.1 i c
theorem p625 {n:Nat} (hn:n≤4):1*5^n≤625:=by
 rw[Nat.one_mul];exact Nat.le_trans (Nat.pow_le_pow_right (by decide) hn) (by decide)
def szChkE (n k a d:Nat):Bool:=decide (d*k+a+d<1000000)&&decide ((zA (d*k+a) (n-1)).1≤1000000)&&decide ((zA (d*k+a) (n-1)).2.1≤1000000)&&decide (n*(d*k)<1000000)
theorem sze_of {n k a d:Nat} (h:szChkE n k a d=true):SzE n k a d:=by
 unfold szChkE at h;simp only[Bool.and_eq_true,decide_eq_true_eq] at h;exact⟨h.1.1.1,⟨h.1.1.2,h.1.2⟩,h.2⟩
theorem sz_tab625:((List.range 5).all fun n=>(List.range 5).all fun k=>szChkE n k 625 625)=true:=by decide +kernel
theorem sz625 {n k:Nat} (hn:n≤4) (hk:k≤4):SzE n k 625 625:=
 sze_of (List.all_eq_true.1 (List.all_eq_true.1 sz_tab625 n (List.mem_range.2 (by omega))) k (List.mem_range.2 (by omega)))
end Go.Proofs.YthlinhconnmbcaaGreat
namespace Go.Proofs.YthlinhconnmbcaaGreat
open Go.RowKit RQ GE
set_option linter.unusedVariables false
theorem nst_len {k c:Nat} {f:Nat→Rat} {ps:List Nat}:∀ {i:Nat},(nst k c f ps i).length=k
 | 0=>by show ((List.replicate k (0:Rat)).set c 1).length=k;rw[List.length_set,List.length_replicate]
 | i+1=>by show ((nst k c f ps i).set _ _).length=k;rw[List.length_set];exact nst_len
theorem nst_all {P:Rat→Prop} {k c:Nat} {f:Nat→Rat} {ps:List Nat} (h0:P 0) (h1:P 1) (hf:∀ i,P (-(f i))):∀ {i:Nat},∀ q∈nst k c f ps i,P q
 | 0,q,hq=>by
  rcases List.mem_or_eq_of_mem_set hq with h | rfl
  ·rw[(List.mem_replicate.1 h).2];exact h0
  ·exact h1
 | i+1,q,hq=>by
  rcases List.mem_or_eq_of_mem_set hq with h | rfl
  ·exact nst_all h0 h1 hf q h
  ·exact hf i
theorem getQ_set {l:List Rat} {i j:Nat} {x:Rat} (hi:i<l.length):(l.set i x).getD j 0=if j=i then x else l.getD j 0:=by
 rw[List.getD_eq_getElem?_getD,List.getD_eq_getElem?_getD]
 by_cases h:j=i
 ·subst h;rw[if_pos rfl,List.getElem?_set_self hi];rfl
 ·rw[if_neg h,List.getElem?_set_ne (fun e=>h e.symm)]
theorem nst_get {k c:Nat} {f:Nat→Rat} {ps:List Nat} (hs:ps.Pairwise (· < ·)) (hl:∀ x∈ps,x<k) (hc:c<k) (j:Nat):∀ {i:Nat},i≤ps.length→(nst k c f ps i).getD j 0=if j∈ps.take i then -(f (ps.idxOf j)) else if j=c then 1 else 0
 | 0,_=>by
  show ((List.replicate k (0:Rat)).set c 1).getD j 0=_
  rw[getQ_set (by rw[List.length_replicate];exact hc),List.take_zero,if_neg (show ¬ j∈([]:List Nat) from List.not_mem_nil)]
  congr 1
  rw[List.getD_eq_getElem?_getD,List.getElem?_replicate]
  split<;>rfl
 | i+1,h=>by
  have e:ps.getD i 0=ps[i]:=by rw[List.getD_eq_getElem?_getD,List.getElem?_eq_getElem (by omega)];rfl
  show ((nst k c f ps i).set (ps.getD i 0) _).getD j 0=_
  rw[e,getQ_set (by rw[nst_len];exact hl _ (List.getElem_mem _)),nst_get hs hl hc j (by omega),List.take_succ_eq_append_getElem (by omega)]
  by_cases hj:j=ps[i]
  ·rw[if_pos hj,if_pos (List.mem_append.2 (Or.inr (List.mem_singleton.2 hj))),hj,idx_get hs]
  ·rw[if_neg hj]
   have e3:(j∈ps.take i)=(j∈ps.take i++[ps[i]]):=propext ⟨fun h=>List.mem_append.2 (Or.inl h),fun h=>(List.mem_append.1 h).resolve_right fun h=>hj (List.mem_singleton.1 h)⟩
   simp only[e3]
theorem nullQ_len {n k:Nat} {A:Nat→Nat→Rat}:freeL k (pv n k A)=fr n k A:=by
 unfold freeL fr;exact List.filter_congr fun x _=>by simp
theorem nullQ_el {n k:Nat} {A:Nat→Nat→Rat} {i j:Nat} (hi:i<(fr n k A).length):el (nullQ k (rr n k A) (pv n k A)) i j=nul n k A i j:=by
 have F:=rr_rf (n:=n) (k:=k) (A:=A);have hm:=fr_mem.1 (List.getElem_mem hi);unfold nul;rw[fr_get hi];have e2:(nullQ k (rr n k A) (pv n k A)).getD i []=nst k ((fr n k A)[i]) (fun t=>el (rr n k A) t ((fr n k A)[i])) (pv n k A) (pv n k A).length:=by
  unfold nullQ;rw[nullQ_len,List.getD_eq_getElem?_getD,List.getElem?_map,List.getElem?_eq_getElem hi];rfl
 show ((nullQ k (rr n k A) (pv n k A)).getD i []).getD j 0=_
 rw[e2];rw[nst_get F.mono F.lt hm.1 j (Nat.le_refl _),List.take_length];unfold nv
 by_cases hj:j∈pv n k A
 ·have hne:j≠(fr n k A)[i]:=fun e=>hm.2 (e ▸ hj)
  rw[if_pos hj,if_neg hne]
  by_cases hlt:j<(fr n k A)[i]
  ·rw[if_pos ⟨hlt,hj⟩]
  ·rw[if_neg (fun h=>hlt h.1)]
   have h1:(pv n k A).idxOf j<(pv n k A).length:=List.idxOf_lt_length_of_mem hj;have h2:=F.left _ h1 ((fr n k A)[i]) (by rw[List.getElem_idxOf h1];omega)
   have h3 : -(el (rr n k A) ((pv n k A).idxOf j) ((fr n k A)[i]))=0:=by rw[h2,Rat.neg_zero]
   exact h3
 ·rw[if_neg hj]
  by_cases hc:j=(fr n k A)[i]
  ·rw[if_pos hc,if_pos hc]
  ·rw[if_neg hc,if_neg hc,if_neg (fun h=>hj h.2)]
theorem nullQ_sh {n k:Nat} {A:Nat→Nat→Rat}:(nullQ k (rr n k A) (pv n k A)).length=k-rk n k A∧GE.rct k (nullQ k (rr n k A) (pv n k A)):=by
 refine⟨by unfold nullQ;rw[List.length_map,nullQ_len,fr_len],fun r hr=>?_⟩
 unfold nullQ at hr;obtain⟨c,_,rfl⟩:=List.mem_map.1 hr;exact nst_len
theorem nullQ_rs {n k:Nat} {Q:List (List Rat)} (hn:n≤4) (hq:Q.length=n) (hr:GE.rct k Q) (h:∀ r∈Q,∀ q∈r,Rs q 1):∀ r∈nullQ k (red k Q).M (red k Q).p,∀ q∈r,Rs q 625:=fun r hr' q hq'=>by
 unfold nullQ at hr';obtain⟨c,_,rfl⟩:=List.mem_map.1 hr';exact nst_all (P:=fun q=>Rs q 625) (rs_zero (by omega)) ((Rs.int (z:=1) (p:=1) (by decide) (Nat.le_refl 1)).mono (by omega)) (fun i=>((red_rsB hq hr h (by omega) i c).mono (p625 hn)).neg) q hq'
theorem pnull_g {K:List Ro} {n k:Nat} {Q:List (List Rat)} {A:Option Addr} {c:Nat} {W:World} (g:Gd K n k Q) (hA:Mr W A n c K) (s:∀ r∈Q,∀ q∈r,S2 2 2 q) (hn4:n≤4):Calls Tryz.prog 23 #[.slice A n c] W (fun e w'=>∃ A' c' K',e=.returned (.tuple #[.slice A' (k-rk n k (el Q)) c',.int .i64 0])∧Mr w' A' (k-rk n k (el Q)) c' K'∧Gd K' (k-rk n k (el Q)) (if k-rk n k (el Q)=0 then 0 else k) (nullQ k (rr n k (el Q)) (pv n k (el Q)))∧Below W.heap.size W w'):=by
 have z:=sz22 hn4 g.hk;refine (pnull_any K A n c W hA g.big g.nbig g.wf (g.rk hA) 2 2 (g.all s) (by rw[g.col];exact z.1) (by rw[g.col];exact z.2)).mono fun e w' hx=>?_
 rw[g.col,g.q] at hx;have e1:(red k Q).M=rr n k (el Q):=by unfold rr;rw[mk_el g.qlen g.rct]
 have e2:(red k Q).p=pv n k (el Q):=by unfold pv;rw[mk_el g.qlen g.rct]
 rw[e1,e2] at hx;obtain⟨A',n',c',M,rfl,m,hc,hq,_,bb⟩:=hx;have sh:=nullQ_sh (n:=n) (k:=k) (A:=el Q);obtain⟨rfl,g'⟩:=Gd.of (k:=if k-rk n k (el Q)=0 then 0 else k) m hc hq sh.1 (fun r hr=>by
  have h1:=sh.2 r hr
  split
  ·rename_i h0
   rw[h0] at sh;rw[List.length_eq_zero_iff.1 sh.1] at hr;cases hr
  ·exact h1) (by have:=g.hk;omega) (by have:=g.hk;split<;>omega) (fun h=>if_pos h) (fun h=>by rw[if_neg (by omega)];omega)
 exact⟨A',c',M,rfl,m,g',bb⟩
theorem null_rank {n k:Nat} {Q:List (List Rat)}:rk (k-rk n k (el Q)) (if k-rk n k (el Q)=0 then 0 else k) (el (nullQ k (rr n k (el Q)) (pv n k (el Q))))=k-rk n k (el Q):=by
 split
 ·rename_i h0
  rw[h0];have:=rk_rows (n:=0) (k:=0) (A:=el (nullQ k (rr n k (el Q)) (pv n k (el Q))))
  omega
 ·have h:=nul_rank (n:=n) (k:=k) (A:=el Q)
  rw[fr_len] at h;rw[←h]
  conv=>rhs;rw[h]
  rw[h]
  conv=>rhs;rw[←h]
  exact rk_congr fun i hi j hj=>nullQ_el (by rw[fr_len];exact hi)
theorem law_nb (b b2:UInt8) (L1:List Int) (A1:Option Addr) (l1 c1:Nat) (w:World) (h1:LR intC w A1 l1 L1) (b1:∀ i,-9223372036854775808≤L1.getD i 0∧L1.getD i 0≤9223372036854775807):Calls Tryz.prog 6 #[.int .u8 (b.toNat:Int),.int .u8 (b2.toNat:Int),.slice A1 l1 c1] w fun e w'=>e=.returned (.bool true)∧Below w.heap.size w w':=by
 generalize b.toNat=b0;generalize b2.toNat=b3;obtain⟨n1,hn1⟩:∃ r:Nat,r=b0%4:=⟨_,rfl⟩;obtain⟨k1,hk1⟩:∃ r:Nat,r=b3%4:=⟨_,rfl⟩;have rv:(b0:Int)%4=(n1:Int):=by omega
 have rv2:(b3:Int)%4=(k1:Int):=by omega
 have wv:IntKind.i64.wrap (n1:Int)=(n1:Int):=by rw[IntKind.wrap_i64];omega
 have wv2:IntKind.i64.wrap (k1:Int)=(k1:Int):=by rw[IntKind.wrap_i64];omega
 obtain⟨n,hn⟩:∃ r:Nat,r=1+n1:=⟨_,rfl⟩;obtain⟨k,hk⟩:∃ r:Nat,r=1+k1:=⟨_,rfl⟩;have en:1+(n1:Int)=(n:Int):=by omega
 have ek:1+(k1:Int)=(k:Int):=by omega
 have hn4:n≤4:=by omega
 have hk4:k≤4:=by omega
 have hn0:0<n:=by omega
 have hk0:0<k:=by omega
 have wn:IntKind.i64.wrap (n:Int)=(n:Int):=by rw[IntKind.wrap_i64];omega
 have wk:IntKind.i64.wrap (k:Int)=(k:Int):=by rw[IntKind.wrap_i64];omega
 obtain⟨X,hX⟩:∃ X,X=mdQ n k L1:=⟨_,rfl⟩;have X1:∀ r∈X,∀ q∈r,Rs q 1:=by rw[hX];exact mdQ_rs
 have X2:∀ r∈X,∀ q∈r,S2 1 1 q:=by rw[hX];exact mdQ_s2
 have X3:=(sz11 hn4 (show k≤8 by omega) X2).1
 have X4:=(sz11 hn4 (show k≤8 by omega) X2).2.1
 have hXl:X.length=n∧GE.rct k X:=by rw[hX];exact⟨mk_len,mk_rct⟩
 have hM1:=Lib.hid (fun W (hW:LR intC W A1 l1 L1)=>made_any n k L1 A1 l1 c1 W hW b1 (by omega) (by omega) (by omega) (by omega))
 rw[←hX] at hM1;obtain⟨m,hm⟩:∃ m,m=k-rk n k (el X):=⟨_,rfl⟩;obtain⟨r,hr⟩:∃ r,r=rk n k (el X):=⟨_,rfl⟩;have hrk:r≤k:=by rw[hr];exact rk_cols
 obtain⟨N,hN⟩:∃ N,N=nullQ k (rr n k (el X)) (pv n k (el X)):=⟨_,rfl⟩;have N1:∀ r∈N,∀ q∈r,Rs q 625:=by
  have e1:(red k X).M=rr n k (el X):=by unfold rr;rw[mk_el hXl.1 hXl.2]
  have e2:(red k X).p=pv n k (el X):=by unfold pv;rw[mk_el hXl.1 hXl.2]
  rw[hN,←e1,←e2];exact nullQ_rs hn4 hXl.1 hXl.2 X1
 obtain⟨k',hk'⟩:∃ k',k'=if m=0 then 0 else k:=⟨_,rfl⟩
 have hk'4:k'≤4:=by rw[hk'];split<;>omega
 have hm4:m≤4:=by omega
 have hI:=Lib.hid (fun W K1 A c (g1:Gd K1 n k X) (m1:Mr W A n c K1)=>pnull_g g1 m1 X3 hn4)
 rw[←hN,←hm,←hk'] at hI;have hrkN:rk m k' (el N)=m:=by rw[hk',hm,hN];exact null_rank
 have hR1:=Lib.hid (fun W K1 A c (g1:Gd K1 n k X) (m1:Mr W A n c K1)=>prank_g g1 m1 X3 X4)
 rw[←hr] at hR1;have hR2:=Lib.hid (fun W K1 A c (g1:Gd K1 m k' N) (m1:Mr W A m c K1)=>prank_g g1 m1 (fun r hr q hq=>rs_s2 (N1 r hr q hq)) (sz625 hm4 hk'4))
 rw[hrkN] at hR2;have hmr:(k:Int)-(r:Int)=(m:Int):=by omega
 have wm:IntKind.i64.wrap (m:Int)=(m:Int):=by rw[IntKind.wrap_i64];omega
 have hKF:∀ i<m,∀ a<n,sm (fun j=>el X a j*el N i j) k=0:=fun i hi a ha=>by
  have h1:=nul_kf (n:=n) (k:=k) (A:=el X) (i:=i) (by rw[fr_len];omega) a ha
  rw[←h1];exact sm_congr fun j _=>by rw[hN,nullQ_el (by rw[fr_len];omega)]
 have hAp:=Lib.hid (fun W K1 A c K2 A' c' (g1:Gd K1 n k X) (g2:Gd K2 m k' N) (m1:Mr W A n c K1) (m2:Mr W A' m c' K2) (i:Nat) (hi:i<m) (r:Ro) (hr:K2[i]?=some r)=>by
  have hrm:=List.mem_of_getElem? hr;have hkk:k'=k:=by rw[hk',if_neg (by omega)]
  have lm:ltM K1:=g1.lt m1 (fun r hr q hq=>(X1 r hr q hq).mono (by omega))
  have ln:ltM K2:=g2.lt m2 (fun r hr q hq=>(N1 r hr q hq).mono (by omega))
  have h:=mapply_yes K1 A n c r.L r.A r.n r.c W m1 g1.big g1.nbig (m2.rd r hrm) lm (ln r hrm) g1.wf (by rw[g1.col,g2.rn r hrm];exact hkk) (by rw[g2.rn r hrm];omega)
  have hq:apQ K1 r.L=List.replicate n 0:=by
   refine List.eq_replicate_iff.2 ⟨by unfold apQ;rw[List.length_map];exact g1.len,fun q hq=>?_⟩
   unfold apQ at hq;obtain⟨s,hs,rfl⟩:=List.mem_map.1 hq;obtain⟨a,ha⟩:=List.getElem?_of_mem hs
   have han:a<n:=by rw[←g1.len];exact (List.getElem?_eq_some_iff.1 ha).1
   rw[g1.col,dq_sm];refine Eq.trans (sm_congr fun j _=>?_) (hKF i hi a han)
   congr 1
   ·unfold GE.el;rw[←g1.q,←qM_at a,ha];rfl
   ·unfold GE.el;rw[←g2.q,←qM_at i,hr];rfl
  rw[hq] at h;exact h)
 have hA:=Lib.hid awake_any;have hmk:=make_rat n (by omega)
 have S0:=Lib.hid (St.new w);replace h1:=Lib.hid h1;have hn4h:=Lib.hid hn4;have hm4h:=Lib.hid hm4;have hZ:Hid (∀ V:World,Sr (V.alloc (.cells (csE (List.replicate n Zt)).toArray 33)) (some ⟨V.heap.size,0,none⟩) n n (List.replicate n Zt)):=Lib.hid fun V=>by
  have:=St_lsr ((St.new V).allocAt V.heap.size (csE (List.replicate n Zt)).toArray 33 (NoLl.csE _).arr rfl) n (by rw[List.length_replicate];exact Nat.le_refl _) (fun x hx=>by obtain rfl:=(List.mem_replicate.1 hx).2;exact Zt_raw _)
  rwa [List.length_replicate] at this
 clear hn1 hk1 hn hk hX X1 X2 X3 X4 hXl hN N1 hk' hk'4 hrkN hr hm hKF b1 hn4 hk4 hm4 hrk hn0 hk0;go_enter Tryz.func6,Tryz.ntmps6
 go_wp2_with fail
 refine (hM1.out _ h1.out).mono ?_
 rintro e w' ⟨A3,c3,K3,rfl,m3,g3,bb⟩;replace h1:=Lib.hid (h1.out.bel bb);replace S0:=Lib.hid (S0.out.call bb);replace m3:=Lib.hid m3;replace g3:=Lib.hid g3;clear bb;clear hM1 h1 rv rv2 wv wv2 en ek
 go_wp2_with fail
 refine (hI.out _ K3 A3 c3 g3.out m3.out).mono ?_
 rintro e w' ⟨A4,c4,K4,rfl,m4,g4,bb⟩;replace m3:=Lib.hid (m3.out.bel bb);replace S0:=Lib.hid (S0.out.call bb);replace m4:=Lib.hid m4;replace g4:=Lib.hid g4;clear bb;clear hI
 go_wp2_with fail
 refine (hR1.out _ K3 A3 c3 g3.out m3.out).mono ?_
 rintro e w' ⟨rfl,bb⟩;replace m3:=Lib.hid (m3.out.bel bb);replace m4:=Lib.hid (m4.out.bel bb);replace S0:=Lib.hid (S0.out.call bb);clear bb;clear hR1
 go_wp2_with fail
 refine (hR2.out _ K4 A4 c4 g4.out m4.out).mono ?_
 rintro e w' ⟨rfl,bb⟩;replace m3:=Lib.hid (m3.out.bel bb);replace m4:=Lib.hid (m4.out.bel bb);replace S0:=Lib.hid (S0.out.call bb);clear bb;clear hR2;rename World=>V9
 go_wp2
 go_loopw [16] (fun iv wr=>∃ i:Nat,i≤m∧iv=.int .i64 i∧Below V9.heap.size V9 wr) (fun iv _=>m-(intOf iv).toNat)
 case atStart=>exact⟨0,Nat.zero_le _,rfl,Below.refl _ _⟩
 case round=>
  obtain⟨i,him,rfl,B⟩:=hrel;rename World=>V0
  by_cases hlt:i<m
  ·have M3:=m3.out.bel B
   have M4:=m4.out.bel B;obtain⟨b,o,r4,hA4,hr,hrm,e0⟩:=M4.get hlt;have hAx:=hAp.out V0 K3 A3 c3 K4 A4 c4 g3.out g4.out M3 M4 i hlt r4 hr;rw[hA4];have g1:(i:Int)<(m:Int):=by omega
   have g2:(0:Int)≤(i:Int):=by omega
   have hih:=Lib.hid hlt;have hB:=Lib.hid B;replace hAx:=Lib.hid hAx;clear M3 M4 hr hrm hlt him B
   go_wp2_with fail
   refine hAx.out.mono ?_
   rintro e V1 ⟨A5,n5,c5,L5,rfl,s5,c5',q5,bb⟩;have hn5:n5=n:=by rw[←s5.len,←List.length_map (f:=fun x:Rt=>x.q),q5,List.length_replicate]
   subst hn5;have B1:=hB.out.trans (bb.mono hB.out.size);have hAl:=(Below.refl V1.heap.size V1).alloc (Nat.le_refl _) (.cells (csE (List.replicate n5 Zt)).toArray 33);have hSL:=Lib.hid (sameList_any L5 (List.replicate n5 Zt) A5 n5 c5 (some ⟨V1.heap.size,0,none⟩) n5 n5 _ (s5.bel hAl) (hZ.out V1) c5' (fun r hr=>by obtain rfl:=(List.mem_replicate.1 hr).2;exact Zt_can) (by rw[q5,List.map_replicate];rfl) (by have:=hn4h.out;omega))
   have hB2:=Lib.hid (B1.trans (hAl.mono B1.size));clear bb s5 c5' q5 hAx e0 B1 hAl
   go_wp2_with fail
   refine hSL.out.mono ?_
   rintro e V2 ⟨rfl,bb⟩;have hB3:=Lib.hid (hB2.out.trans (bb.mono hB2.out.size));have hlj:=hih.out;have hm9:=hm4h.out;clear bb hSL hB2;go_wp2
   go_roundw
   case rel=>exact⟨i+1,by omega,by go_num,hB3.out⟩
   case measure=>simp[intOf];omega
  ·obtain rfl:i=m:=by omega
   have S1:=Lib.hid (S0.out.call B);clear S0 hlt him B
   go_wp2_with fail
   refine (hA.out _).mono ?_
   rintro e V2 ⟨rfl,bb⟩;have S2:=Lib.hid (S1.out.call bb);clear bb S1;go_wp2;go_ret;exact⟨rfl,S2.out.bel⟩
end Go.Proofs.YthlinhconnmbcaaGreat
