/- Inverse of matrix. -/
import Derived.Test.YtfnkpfbobdmieaaGreatM30
set_option maxRecDepth 100000
set_option maxHeartbeats 40000000
set_option linter.unusedVariables false
namespace Go.Proofs.YtfnkpfbobdmieaaGreat
open Go.RowKit RQ GE
set_option linter.unusedVariables false
def Wm (w W:World) (g n:Nat) (B:List Nat) (m:Nat) (R:List (List Rt)) (zs:List Bk):Prop:=
 ∃ (ys:List Bk) (rs:List Rdg),St w W (MB g (B.map (rowv m)++List.replicate (n-B.length) (.slice none 0 0)) B R++(zs++ys)) rs∧R.length=B.length∧(∀ L∈R,L.length=m)∧∀ L∈R,∀ x∈L,x.rdIn rs
section
variable {w W W':World} {g n m:Nat} {B:List Nat} {R:List (List Rt)} {zs:List Bk}
theorem Wm.call (h:Wm w W g n B m R zs) (hb:Below W.heap.size W W'):Wm w W' g n B m R zs:=by
 obtain⟨ys,rs,S,h⟩:=h;exact⟨ys,rs,S.call hb,h⟩
theorem Wm.bel (h:Wm w W g n B m R zs):Below w.heap.size w W:=by
 obtain⟨ys,rs,S,h⟩:=h;exact S.bel
theorem Wm.len (h:Wm w W g n B m R zs):R.length=B.length:=by
 obtain⟨ys,rs,S,h,_⟩:=h;exact h
theorem Wm.start (S:St w W [(g,(csR (List.replicate n Ro0)).toArray,23)] []):Wm w W g n [] m [] []:=by
 refine⟨[],[],?_,rfl,fun L hL=>(by cases hL),fun L hL=>(by cases hL)⟩
 have e:csR (List.replicate n Ro0)=([]:List Nat).map (rowv m)++List.replicate (n-([]:List Nat).length) (.slice none 0 0):=by
  unfold csR;rw[List.map_replicate];rfl
 rw[e] at S;exact S
theorem Wm.own {h0:Nat} (h:Wm w W g n B m R zs) (hb:Below W.heap.size W W') {t:Nat} {cs:Array Value} (hg:W.heap.size≤h0) (hc:Cb W' h0 cs t) (hn:NoL cs):Wm w W' g n B m R ((h0,cs,t)::zs):=by
 obtain⟨ys,rs,S,h⟩:=h;exact⟨ys,rs,(St_own S hb hg hc hn).prm List.perm_middle.symm,h⟩
theorem Wm.nil (h:Wm w W g n B m R zs) (hi:B.length<n):W.cell? ⟨g,B.length,none⟩=some (.slice none 0 0)∧∀ k,W.frozen? ⟨g,k,none⟩=false:=by
 obtain⟨ys,rs,S,h⟩:=h;refine MB_cell S ?_
 rw[List.getElem?_append_right (by rw[List.length_map];exact Nat.le_refl _),List.length_map,Nat.sub_self,List.getElem?_replicate,if_pos (by omega)]
theorem Wm.row {h0:Nat} {L:List Rt} (h:Wm w W g n B m R ((h0,(csE L).toArray,45)::zs)) (hi:B.length<n) (hL:L.length=m) (hx:∀ x∈L,x.raw W):Wm w (W.setCell ⟨g,B.length,none⟩ (.slice (some ⟨h0,0,none⟩) m m)) g n (B++[h0]) m (R++[L]) zs:=by
 obtain⟨ys,rs,S,hl,hm,hr⟩:=h;have S1:=St_rds S hx;have S2:=S1.prm (bs':=(g,(B.map (rowv m)++List.replicate (n-B.length) (Value.slice none 0 0)).toArray,23)::(List.zipWith rowb (B++[h0]) (R++[L])++(zs++ys))) (by
  rw[List.zipWith_append (by rw[hl])]
  show ((g,_)::(List.zipWith rowb B R++(rowb h0 L::(zs++ys)))).Perm ((g,_)::((List.zipWith rowb B R++[rowb h0 L])++(zs++ys)))
  rw[List.append_assoc];exact List.Perm.refl _)
 have S3:=S2.set 0 B.length (.slice (some ⟨h0,0,none⟩) m m) rfl (by nofun)
 have hV:((B.map (rowv m)++List.replicate (n-B.length) (Value.slice none 0 0)).toArray.setIfInBounds B.length (.slice (some ⟨h0,0,none⟩) m m))=((B++[h0]).map (rowv m)++List.replicate (n-(B++[h0]).length) (Value.slice none 0 0)).toArray:=by
  rw[List.setIfInBounds_toArray,List.set_append_right _ _ (by rw[List.length_map];exact Nat.le_refl _),List.length_map,Nat.sub_self,List.length_append,List.length_singleton,List.map_append]
  rw[show n-B.length=(n-(B.length+1))+1 by omega,List.replicate_succ,List.set_cons_zero,List.append_assoc]
  rfl
 rw[hV] at S3;refine⟨ys,_,S3,by rw[List.length_append,List.length_append,hl];rfl,fun L' h'=>?_,fun L' h' x hx'=>?_⟩
 ·rcases List.mem_append.1 h' with h' | h'
  ·exact hm L' h'
  ·rw[List.mem_singleton.1 h'];exact hL
 ·rcases List.mem_append.1 h' with h' | h'
  ·exact⟨List.mem_append_right _ (hr L' h' x hx').1,List.mem_append_right _ (hr L' h' x hx').2⟩
  ·rw[List.mem_singleton.1 h'] at hx'
   exact rdsOf_in hx'
theorem Wm.mat (h:Wm w W g n B m R zs) (hn:B.length=n):Mr W (some ⟨g,0,none⟩) n n (KR m B R)∧(∀ r∈KR m B R,r.n=m)∧qM (KR m B R)=R.map (fun L=>L.map (·.q)):=by
 obtain⟨ys,rs,S,hl,hm,hr⟩:=h;rw[hn,Nat.sub_self,List.replicate_zero,List.append_nil] at S;refine⟨⟨?_,Nat.le_refl _,.inr ⟨g,0,rfl,(S.bk (g,(B.map (rowv m)).toArray,23) (List.mem_append_left _ List.mem_cons_self)).1.lt,fun i r hi=>?_⟩,fun r hr'=>?_⟩,fun r hr'=>?_,KR_q hl⟩
 ·unfold KR;rw[List.length_zipWith,hl,Nat.min_self,hn]
 ·obtain⟨b,L,hb,hL,rfl⟩:=KR_of hi
  rw[Nat.zero_add];exact (MB_cell S (v:=rowv m b) (by rw[List.getElem?_map,hb];rfl)).1
 ·obtain⟨i,hi⟩:=List.getElem?_of_mem hr'
  obtain⟨b,L,hb,hL,rfl⟩:=KR_of hi;have hLm:=List.mem_of_getElem? hL;exact St_srm S (g:=b) (t:=45) ((MB_perm hb hL).mem_iff.2 List.mem_cons_self) (hm L hLm) (hr L hLm)
 ·obtain⟨i,hi⟩:=List.getElem?_of_mem hr'
  obtain⟨b,L,hb,hL,rfl⟩:=KR_of hi
  rfl
end
def cutv (n b:Nat):Value:=.slice (some ⟨b,n*3,none⟩) n n
def KC (n:Nat) (B:List Nat) (R:List (List Rt)):List Ro:=List.zipWith (fun b L=>⟨some ⟨b,n*3,none⟩,n,n,L.drop n⟩) B R
theorem KC_of {n:Nat} {B:List Nat} {R:List (List Rt)} {i:Nat} {r:Ro} (h:(KC n B R)[i]?=some r):∃ b L,B[i]?=some b∧R[i]?=some L∧r=⟨some ⟨b,n*3,none⟩,n,n,L.drop n⟩:=by
 unfold KC at h;rw[List.getElem?_zipWith] at h
 cases hb:B[i]? with
 | none=>rw[hb] at h;cases h
 | some b=>cases hL:R[i]? with
  | none=>rw[hb,hL] at h;cases h
  | some L=>rw[hb,hL] at h;exact⟨b,L,rfl,rfl,(Option.some.inj h).symm⟩
theorem KC_q {n:Nat}:∀ {B:List Nat} {R:List (List Rt)},R.length=B.length→qM (KC n B R)=(R.map (fun L=>L.map (·.q))).map (·.drop n)
 | [],[],_=>rfl
 | b::B,L::R,h=>by
  have ih:=KC_q (n:=n) (B:=B) (R:=R) (by simpa using h)
  show (L.drop n).map (·.q)::qM (KC n B R)=(L.map (·.q)).drop n::_
  rw[ih,List.map_drop]
theorem Sr.cut {W:World} {b n c:Nat} {L:List Rt} (h:Sr W (some ⟨b,0,none⟩) (n+n) c L):Sr W (some ⟨b,n*3,none⟩) n n (L.drop n):=by
 refine⟨by rw[List.length_drop,h.len];omega,Nat.le_refl _,?_,fun r hr=>h.rd r (List.mem_of_mem_drop hr)⟩
 rcases h.mem with h0 | ⟨b',o',hA,hlt,hc⟩
 ·left;omega
 ·right
  obtain⟨rfl,rfl⟩:b=b'∧0=o':=by simp only[Option.some.injEq,Addr.mk.injEq] at hA;exact⟨hA.1,hA.2.1⟩
  refine⟨b,n*3,rfl,hlt,fun i r hi=>?_⟩
  rw[List.getElem?_drop] at hi
  obtain⟨k0,k1,k2⟩:=hc _ _ hi;rw[Nat.zero_add,show (n+i)*3=n*3+i*3 by omega] at k0 k1 k2
  exact⟨k0,k1,k2⟩
theorem cut_at {n i:Nat} {B:List Nat} (hi:i<B.length) (f g:Nat→Value):((B.take i).map f++(B.drop i).map g)[i]?=some (g (B.getD i 0)):=by
 rw[List.getElem?_append_right (by rw[List.length_map,List.length_take];omega),List.length_map,List.length_take,Nat.min_eq_left (by omega),Nat.sub_self,List.getElem?_map,List.getElem?_drop,Nat.add_zero,List.getD_eq_getElem?_getD,List.getElem?_eq_getElem hi];rfl
theorem cut_step {n i:Nat} {B:List Nat} (hi:i<B.length) (f g:Nat→Value):((B.take i).map f++(B.drop i).map g).toArray.setIfInBounds i (f (B.getD i 0))=((B.take (i+1)).map f++(B.drop (i+1)).map g).toArray:=by
 have hd:B.drop i=B.getD i 0::B.drop (i+1):=by
  rw[List.drop_eq_getElem_cons hi,List.getD_eq_getElem?_getD,List.getElem?_eq_getElem hi];rfl
 rw[List.setIfInBounds_toArray,List.set_append_right _ _ (by rw[List.length_map,List.length_take];omega),List.length_map,List.length_take,Nat.min_eq_left (by omega),Nat.sub_self,hd,List.map_cons,List.set_cons_zero,List.take_add_one,List.getElem?_eq_getElem hi,List.map_append,List.append_assoc,List.getD_eq_getElem?_getD,List.getElem?_eq_getElem hi];rfl
theorem KC_mat {w W:World} {g n:Nat} {B:List Nat} {R:List (List Rt)} {M:List (List Rat)} {ys:List Bk} {rs:List Rdg} (S:St w W ((g,(B.map (cutv n)).toArray,23)::(List.zipWith rowb B R++ys)) rs) (K:RK B (n+n) R M rs) (hB:B.length=n):Mr W (some ⟨g,0,none⟩) n n (KC n B R)∧(∀ r∈KC n B R,r.n=n∧∀ x∈r.L,x.can)∧qM (KC n B R)=M.map (·.drop n):=by
 have hrow:∀ {b:Nat} {L:List Rt},(∃ i:Nat,B[i]?=some b∧R[i]?=some L)→Sr W (some ⟨b,n*3,none⟩) n n (L.drop n):=by
  rintro b L ⟨i,hb,hL⟩;have hLm:=List.mem_of_getElem? hL;refine Sr.cut (St_srm S (t:=45) (List.mem_cons_of_mem _ (List.mem_append_left _ ?_)) (K.row L hLm) (fun x hx=>(K.el L hLm x hx).2))
  exact (zip_perm hb hL).mem_iff.2 List.mem_cons_self
 have hcb:=(S.bk _ List.mem_cons_self).1;refine⟨⟨?_,Nat.le_refl _,.inr ⟨g,0,rfl,hcb.lt,fun i r hi=>?_⟩,fun r hr=>?_⟩,fun r hr=>?_,by rw[KC_q K.len,K.q]⟩
 ·unfold KC;rw[List.length_zipWith,K.len,Nat.min_self,hB]
 ·obtain⟨b,L,hb,hL,rfl⟩:=KC_of hi
  rw[Nat.zero_add];exact hcb.cell (v:=cutv n b) (by rw[List.getElem?_toArray,List.getElem?_map,hb];rfl)
 ·obtain⟨i,hi⟩:=List.getElem?_of_mem hr
  obtain⟨b,L,hb,hL,rfl⟩:=KC_of hi;exact hrow ⟨i,hb,hL⟩
 ·obtain⟨i,hi⟩:=List.getElem?_of_mem hr
  obtain⟨b,L,hb,hL,rfl⟩:=KC_of hi;exact⟨rfl,fun x hx=>(K.el L (List.mem_of_getElem? hL) x (List.mem_of_mem_drop hx)).1⟩
def besQ (n:Nat) (Q:List (List Rat)):List (List Rat):=mk n (n+n) (besd n (el Q))
def invQ (n:Nat) (Q:List (List Rat)):List (List Rat):=(red (n+n) (besQ n Q)).M.map (·.drop n)
theorem bes_row {n:Nat} {Q N:List (List Rat)} (hq:Q.length=n) (hr:rct n Q) (hN:N.length=n) (h:∀ i,i<n→N.getD i []=Q.getD i []++(List.replicate n 0).set i 1):N=besQ n Q:=by
 have hl:∀ i,i<n→(Q.getD i []).length=n:=fun i hi=>rct_getD hr (by omega)
 have hNr:rct (n+n) N:=fun r hr'=>by
  obtain⟨i,hi⟩:=List.getElem?_of_mem hr'
  have hin:i<n:=by rw[←hN];exact (List.getElem?_eq_some_iff.1 hi).1
  have e:=h i hin;rw[List.getD_eq_getElem?_getD,hi] at e
  have e:r=_:=e;rw[e,List.length_append,hl i hin,List.length_set,List.length_replicate]
 refine ext_el hN mk_len hNr mk_rct fun i hi j hj=>?_
 unfold besQ;rw[el_mk hi hj];unfold GE.el besd;rw[h i hi]
 by_cases hjn:j<n
 ·rw[if_pos hjn,List.getD_eq_getElem?_getD,List.getElem?_append_left (by rw[hl i hi];exact hjn),←List.getD_eq_getElem?_getD]
 ·rw[if_neg hjn,List.getD_eq_getElem?_getD,List.getElem?_append_right (by rw[hl i hi];omega),hl i hi]
  unfold I1
  by_cases he:i=j-n
  ·rw[if_pos he,←he,List.getElem?_set_self (by rw[List.length_replicate];exact hi)];rfl
  ·rw[if_neg he,List.getElem?_set_ne he,List.getElem?_replicate,if_pos (by omega)];rfl
theorem pinv_any (M:List Ro) (A:Option Addr) (n c:Nat) (w:World) (h:Mr w A n c M) (hm:∀ r∈M,r.n≤9223372036854775807) (hn:n≤9223372036854775807) (hw:wfM M=true) (hsq:colM M=n) (ka:∀ r∈M,∀ x∈r.L,Rk x.b x.n x.x x.m x.y x.q) (a d:Nat) (hs:∀ r∈M,∀ x∈r.L,S2 a d x.q) (hz:SzE n (n+n) a d) (hT:SzT n (n+n) a d):Calls Tryz.prog 26 #[.slice A n c] w (fun e w'=>(rk n n (el (qM M))=n∧RetMX 0 (invQ n (qM M)) w e w')∨(rk n n (el (qM M))≠n∧RetMX 7 [] w e w')):=by
 obtain⟨hr,hq,hk,h0,hn96,hk96⟩:=wf_rct h hw;have hF:=fun W h'=>wf_any M A n c W h' hm hn
 rw[hw] at hF;have hC:=Lib.hid (fun W h'=>cols_any M A n c W h')
 rw[hsq] at hC hr hk;obtain⟨Q,hQ⟩:∃ Q,Q=qM M:=⟨_,rfl⟩;have hQ1:Hid (∀ i r,M[i]?=some r→Q.getD i []=r.L.map (·.q)):=Lib.hid fun i r hi=>by
  rw[hQ];unfold qM;rw[List.getD_eq_getElem?_getD,List.getElem?_map,hi];rfl
 simp only[←hQ] at hr hq ⊢;obtain⟨S,hS⟩:∃ S,S=(brun (n+n) 0 ⟨wh (besQ n Q),[],pr (rsc (besQ n Q)) n⟩ 1).1:=⟨_,rfl⟩;obtain⟨l,hl⟩:∃ l,l=(brun (n+n) 0 ⟨wh (besQ n Q),[],pr (rsc (besQ n Q)) n⟩ 1).2:=⟨_,rfl⟩;have hbr:brun (n+n) 0 ⟨wh (besQ n Q),[],pr (rsc (besQ n Q)) n⟩ 1=(S,l):=by rw[hS,hl]
 have hb1:(besQ n Q).length=n:=mk_len;have hb2:rct (n+n) (besQ n Q):=mk_rct;have hb3:∀ r∈besQ n Q,∀ x∈r,S2 a d x:=fun r hr' x hx=>by
  unfold besQ mk at hr';obtain⟨i,hi,rfl⟩:=List.mem_map.1 hr';obtain⟨j,hj,rfl⟩:=List.mem_map.1 hx;unfold besd
  split
  ·have hin:=List.mem_range.1 hi
   have hjn:j<n:=by assumption
   have e1:Q[i]?=some (Q.getD i []):=getD_at' (by omega)
   have e2:(Q.getD i []).length=n:=rct_getD hr (by omega)
   have h1:=qM_s2 hs (Q.getD i []) (by rw[←hQ];exact List.mem_of_getElem? e1)
   have e3:(Q.getD i [])[j]?=some (el Q i j):=getD_at (by rw[e2];exact hjn)
   exact h1 _ (List.mem_of_getElem? e3)
  ·unfold I1
   split
   ·exact S2.one
   ·exact S2.zero
 obtain⟨e1,e2,e3,e4,e5,e6,e7⟩:=el_all hb1 hb2 (by omega) hb3 hbr
 have hE:=Lib.hid (fun W (Mw:List Ro) (A':Option Addr) (hM:Mr W A' n n Mw) (hkw:∀ r∈Mw,r.n=n+n) (hqw:qM Mw=besQ n Q) (kaw:∀ r∈Mw,∀ x∈r.L,Rk x.b x.n x.x x.m x.y x.q)=>by
  have hc1:colM Mw=n+n:=by
   match Mw,hM.len with
   | [],h1=>simp at h1;subst h1;rfl
   | r::_,_=>exact hkw r List.mem_cons_self
  have hsw:∀ r∈Mw,∀ x∈r.L,S2 a d x.q:=fun r hr' x hx=>hb3 (r.L.map (·.q)) (by rw[←hqw];exact List.mem_map_of_mem hr') x.q (List.mem_map_of_mem hx)
  have h1:=elim_any Mw A' n n (n+n) W hM hkw hc1 kaw a d hsw (by omega) (by omega) hz.s1 hz.s2 hz.s3
  rw[hqw,←hS,←hl] at h1;exact h1)
 have hR:=Lib.hid (fun W gE gR K P pc A1 n1 c1 D1 m1 d1 (hW:Env W gE gR n (n+n) K P pc S.p l A1 n1 c1 D1 m1 d1) (hK:qM K=S.M)=>by
  have h1:=reduced_any hW (by omega) e4 e3 (by omega) (by omega) (by rw[hK];exact e1) e2 hz.s2 (hT.mono e4)
  rw[hK] at h1;exact h1)
 have hrd:rdP n (n+n) S l=(red (n+n) (besQ n Q)).M:=rdP_eq hb1 hb2 hbr;unfold rdP at hrd;rw[hrd] at hR;have hbq:besQ n Q=mk n (n+n) (besd n (el Q)):=rfl;have hpl:S.p.length=n:=by rw[e6,hbq];exact besd_rank
 have hsg:∀ t,n=t+1→(S.p.getD t 0=t↔rk n n (el Q)=n):=fun t ht=>by
  have h1:=besd_sing (n:=n) (A:=el Q) (by omega)
  unfold pv at h1;rw[←hbq,←e6,show n-1=t by omega] at h1
  exact h1
 have hrow:Hid (∀ W A',Mr W A' n c M→∀ r∈M,r.L.length=n):=Lib.hid fun W A' h' r hr'=>by rw[(h'.rd r hr').len];exact hk r hr'
 have hmr:=make_row n (by omega)
 have hmk:=make_rat n (by omega)
 obtain⟨f1,hf1⟩:∃ q:Rat,q=1:=⟨_,rfl⟩;have hFI:Hid (∀ W,Calls Tryz.prog 53 #[.int .i64 1] W (RetR f1 W)):=Lib.hid (fun W=>by rw[hf1];exact fromIntR_any 1 W (by decide) (by decide))
 have rs1:Hid (Rs f1 9000000):=Lib.hid (by rw[hf1];exact S2.rs (S2.one (a:=1) (d:=1)) (by decide) (by decide))
 have hkk:=Lib.hid hk;have hqr:=Lib.hid (fun N (hN:N.length=n) h=>bes_row (N:=N) hq hr hN h)
 have ka:=Lib.hid ka;have hn9:=hn96;replace h:=Lib.hid h;replace hF:=Lib.hid hF;replace hpl:=Lib.hid hpl;replace hsg:=Lib.hid hsg;replace hf1:=Lib.hid hf1;clear hm hn hw hs hb1 hb2 hb3 e1 e2 e3 e4 e5 e6 e7 hrd hbr hS hl hbq hr hq h0 hk hk96 hQ hsq hz hT hn96;go_enter Tryz.func26,Tryz.ntmps26
 go_wp2_with fail
 refine (hF.out _ h.out).mono ?_
 rintro e w1 ⟨rfl,bb⟩;have bw:=Lib.hid bb;clear hF bb
 go_wp2_with fail
 refine (hC.out _ (h.out.bel bw.out)).mono ?_
 rintro e w2 ⟨rfl,bb⟩;replace bw:=Lib.hid (bw.out.trans (bb.mono bw.out.size));clear hC bb;have S0:=Lib.hid (Wm.start (m:=n+n) (((St.new w).call bw.out).allocAt w2.heap.size (csR (List.replicate n Ro0)).toArray 23 (NoLl.rows _).arr rfl));go_upto_region 5 with fail
 obtain⟨gW,hgW⟩:∃ g,g=w2.heap.size:=⟨_,rfl⟩;rw[←hgW] at S0;rw[←hgW];clear hgW hmr bw;go_wp2
 go_loopw [29] (fun iv wr=>∃ i:Nat,i≤n∧iv=.int .i64 i∧∃ (B:List Nat) (R:List (List Rt)),B.length=i∧Wm w wr gW n B (n+n) R []∧(∀ (j:Nat) (L:List Rt),R[j]?=some L→∃ r x,M[j]?=some r∧x.can∧x.q=1∧L=r.L++(List.replicate n Zt).set j x)) (fun iv _=>n-(intOf iv).toNat)
 case atStart=>exact⟨0,Nat.zero_le _,rfl,[],[],rfl,S0.out,fun j L hL=>(by cases hL)⟩
 case round=>
  clear S0;obtain⟨i,hin,rfl,B,R,hB,T,hRj⟩:=hrel;rename World=>V0
  by_cases hlt:i<n
  ·have g4:(i:Int)<(n:Int):=by omega
   have g5:(0:Int)≤(i:Int):=by omega
   have hih:=Lib.hid hlt;have hM:=h.out.bel T.bel;obtain⟨b,o,r,rfl,hr,hrm,e0⟩:=hM.get hlt;have hrn:=hkk.out r hrm;have hrow2:=Lib.hid (hM.rd r hrm);rw[hrn] at e0 hrow2;have hbr_:=Lib.hid (⟨hr,hrm⟩:M[i]?=some r∧r∈M);have hrl:Hid (r.L.length=n):=Lib.hid (hrow.out _ _ h.out r hrm);have hRl:=Lib.hid (T.len.trans hB);replace T:=Lib.hid T;replace hB:=Lib.hid hB;replace hRj:=Lib.hid hRj;have SU:=Lib.hid (((St.new V0).allocAt V0.heap.size (csE (List.replicate n Zt)).toArray 45 (NoLl.csE _).arr rfl).read (show Rd _ none 0 0 [] from Rd.nil_ _ _ _))
   clear hlt hin hM hr hrm hrn;go_upto_region 9 with fail
   obtain⟨gU,hgU⟩:∃ g,g=V0.heap.size:=⟨_,rfl⟩;obtain⟨V1,hV1⟩:∃ W,W=V0.alloc (.cells (csE (List.replicate n Zt)).toArray 45):=⟨_,rfl⟩;rw[←hgU,←hV1] at SU ⊢;clear hgU hV1 e0
   go_wp2_with fail
   refine (hFI.out _).mono ?_
   rintro e w3 ⟨A9,n9,c9,D9,m9,d9,rfl,X9,bb⟩;have SU1:=((SU.out.call bb).read X9.n).read X9.d;have hZi:(List.replicate n Zt)[i]?=some Zt:=by rw[List.getElem?_replicate,if_pos hih.out]
   obtain⟨⟨k0,k1,k2⟩,f0⟩:=St_lcl SU1 hZi;have f2:=f0 (i*3);have f3:=f0 (i*3+1);have f4:=f0 (i*3+2);have SU2:=Lib.hid (St_lset SU1 i (Rt.of A9 n9 c9 D9 m9 d9 f1));clear SU SU1 hZi f0 bb X9;go_upto_region 10 with fail
   clear k0 k1 k2 f2 f3 f4;obtain⟨V2,hV2⟩:∃ W,W=((w3.setCell ⟨gU,i*3,none⟩ (.bool (ng f1.num))).setCell ⟨gU,i*3+1,none⟩ (.slice A9 n9 c9)).setCell ⟨gU,i*3+2,none⟩ (.slice D9 m9 d9):=⟨_,rfl⟩
   change Hid (St V0 (((w3.setCell ⟨gU,i*3,none⟩ (.bool (ng f1.num))).setCell ⟨gU,i*3+1,none⟩ (.slice A9 n9 c9)).setCell ⟨gU,i*3+2,none⟩ (.slice D9 m9 d9)) _ _) at SU2
   rw[←hV2] at SU2 ⊢;clear hV2;obtain⟨U,hU⟩:∃ U,U=(List.replicate n Zt).set i (Rt.of A9 n9 c9 D9 m9 d9 f1):=⟨_,rfl⟩;rw[←hU] at SU2;have hUl:U.length=n:=by rw[hU,List.length_set,List.length_replicate]
   have hUr:∀ x∈U,x.rdIn ((D9,m9,d9,dn f1)::(A9,n9,c9,limbs f1.num.natAbs)::[(none,0,0,[])]):=fun x hx=>by
    rw[hU] at hx
    rcases List.mem_or_eq_of_mem_set hx with hx | rfl
    ·obtain rfl:=(List.mem_replicate.1 hx).2
     exact⟨by simp[Zt],by simp[Zt]⟩
    ·exact⟨List.mem_cons_of_mem _ List.mem_cons_self,List.mem_cons_self⟩
   have hSU:=St_srm SU2.out List.mem_cons_self hUl hUr;have hJ:=Lib.hid (joined_any r.L U r.A (some ⟨gU,0,none⟩) n n r.c n V2 (hrow2.out.bel SU2.out.bel) hSU (by omega) (by omega) (by omega) (by omega))
   have hUx:Hid (∀ W,Below V2.heap.size V2 W→∀ x∈r.L++U,x.raw W):=Lib.hid fun W hW x hx=>by
    rcases List.mem_append.1 hx with hx | hx
    ·exact ((hrow2.out.rd x hx).bel SU2.out.bel).bel hW
    ·exact (hSU.rd x hx).bel hW
   replace T:=Lib.hid (T.out.call SU2.out.bel);replace hU:=Lib.hid hU;clear SU2 hUl hUr hSU hrow2
   go_wp2_with fail
   refine hJ.out.mono ?_
   rintro e w4 ⟨gJ,rfl,hg,hcb,hl,bb⟩;have T1:=T.out.own bb hg hcb (NoLl.csE _).arr;have hBn:B.length<n:=by rw[hB.out];exact hih.out
   obtain⟨nl,fn⟩:=T1.nil hBn;rw[hB.out] at nl;have fn:=fn i;have T2:=Lib.hid (T1.row hBn hl (hUx.out _ bb));rw[hB.out] at T2;have hi1:=hih.out;have hn8:=hn9;clear T T1 hBn hg hcb hl hJ hUx bb;go_wp2
   go_roundw
   case rel=>
    refine⟨i+1,by omega,by go_num,B++[gJ],R++[r.L++U],by rw[List.length_append,hB.out];rfl,T2.out,fun j L hL=>?_⟩
    by_cases hj:j<R.length
    ·rw[List.getElem?_append_left hj] at hL
     exact hRj.out j L hL
    ·rw[List.getElem?_append_right (by omega)] at hL
     have hj1:j=i:=by
      have:=(List.getElem?_eq_some_iff.1 hL).1
      simp at this
      have:=hRl.out
      omega
     subst hj1;rw[hRl.out,Nat.sub_self] at hL;obtain rfl:=Option.some.inj hL;exact⟨r,_,hbr_.out.1,Rt.of_can _ _ _ _ _ _ rs1.out,hf1.out,by rw[hU.out]⟩
   case measure=>simp[intOf];omega
  ·obtain rfl:n=i:=by omega
   obtain⟨hM1,hM2,hM3⟩:=T.mat hB;have hRl:=T.len.trans hB;have hMw:qM (KR (n+n) B R)=besQ n Q:=hqr.out _ (by rw[hM3,List.length_map];exact hRl) (fun j hj=>by
    have hLj:R[j]?=some R[j]:=List.getElem?_eq_getElem (by omega)
    obtain⟨r,x,hr,hx,hx1,hL⟩:=hRj j _ hLj;rw[hM3,List.getD_eq_getElem?_getD,List.getElem?_map,hLj]
    show R[j].map (·.q)=_
    rw[hL,List.map_append,hQ1.out j r hr,List.map_set,List.map_replicate,hx1];rfl)
   have hMk:∀ r∈KR (n+n) B R,∀ x∈r.L,Rk x.b x.n x.x x.m x.y x.q:=fun r hr x hx=>by
    have hraw:=(hM1.rd r hr).rd x hx;obtain⟨j,hj⟩:=List.getElem?_of_mem hr
    obtain⟨b,L,hb,hL,rfl⟩:=KR_of hj;obtain⟨r',y,hr',hy,hy1,rfl⟩:=hRj j L hL
    rcases List.mem_append.1 hx with hx | hx
    ·exact ka.out r' (List.mem_of_getElem? hr') x hx
    ·rcases List.mem_or_eq_of_mem_set hx with hx | rfl
     ·obtain rfl:=(List.mem_replicate.1 hx).2
      exact can_k Zt_can hraw
     ·exact can_k hy hraw
   have hEx:=Lib.hid (hE.out V0 (KR (n+n) B R) (some ⟨gW,0,none⟩) hM1 hM2 hMw hMk);have bw:=Lib.hid T.bel;clear T hRj hM1 hM2 hM3 hRl hMw hMk hlt hin hmk hFI rs1 hf1 hqr hE hkk hrow ka hQ1 h
   go_wp2_with fail
   refine hEx.out.mono ?_
   rintro e w3 ⟨gR,K,P,pc,A1,n1,c1,D1,m1,d1,A2,n2,c2,D2,m2,d2,rfl,hm2,hk2,hq2,hi2,x1,x2,b2⟩;unfold ecE;go_upto_region 13 with fail
   obtain⟨gF,hgF⟩:∃ g,g=w3.heap.size:=⟨_,rfl⟩;obtain⟨V,hV⟩:∃ W,W=w3.alloc (.cells #[.slice (some ⟨gR,0,none⟩) n n,.slice P S.p.length pc,.bool (ng l.num),.slice A1 n1 c1,.slice D1 m1 d1,.bool (ng S.f.num),.slice A2 n2 c2,.slice D2 m2 d2] 64):=⟨_,rfl⟩;have B2:Below w3.heap.size w3 V:=by rw[hV];exact (Below.refl _ _).alloc (Nat.le_refl _) _
   have hcb:Cb V gF (ecE gR n P S.p.length pc l A1 n1 c1 D1 m1 d1 S.f A2 n2 c2 D2 m2 d2) 64:=by rw[hV,hgF];exact Cb.new _ _ _
   have hEV:=Lib.hid (ec_env hcb (hm2.bel B2) hk2 (hi2.bel B2) (x1.below B2));replace bw:=Lib.hid (bw.out.trans ((b2.trans (B2.mono b2.size)).mono bw.out.size));rw[←hgF,←hV];have hRx:=hR.out V gF gR K P pc A1 n1 c1 D1 m1 d1 hEV.out hq2;replace hRx:=Lib.hid hRx;clear hV hgF hm2 hi2 x1 x2 b2 B2 hcb hR hEx hB;have u1:V.cell? ⟨gF,1,none⟩=some (.slice P S.p.length pc):=hEV.out.e1;rw[hpl.out] at u1
   by_cases hn0:n=0
   ·have hni:¬ (0<(n:Int)):=by omega
    have hrk1:rk n n (el Q)=n:=by
     have:=rk_rows (n:=n) (k:=n) (A:=el Q)
     omega
    replace hrk1:=Lib.hid hrk1;clear hsg hpl hn0
    go_wp2_with fail
    refine hRx.out.mono ?_
    rintro e w5 ⟨gI,B,R,ys,rs,rfl,hB,SI,KI⟩;have bwV:=bw;have SI0:Hid (St V w5 ((gI,((B.take 0).map (cutv n)++(B.drop 0).map (rowv (n+n))).toArray,23)::(List.zipWith rowb B R++ys)) rs):=Lib.hid SI;replace bw:=Lib.hid (bw.out.trans (SI.bel.mono bw.out.size));replace hB:=Lib.hid hB;replace KI:=Lib.hid KI;clear SI hRx u1 hEV;go_wp2
    go_loopw [65] (fun iv wr=>∃ i:Nat,i≤n∧iv=.int .i64 i∧St V wr ((gI,((B.take i).map (cutv n)++(B.drop i).map (rowv (n+n))).toArray,23)::(List.zipWith rowb B R++ys)) rs) (fun iv _=>n-(intOf iv).toNat)
    case atStart=>exact⟨0,Nat.zero_le _,rfl,SI0.out⟩
    case round=>
     clear SI0;obtain⟨i,hin,rfl,T⟩:=hrel;rename World=>V6
     by_cases hlt:i<n
     ·omega
     ·obtain rfl:n=i:=by omega
      rw[List.take_of_length_le (by rw[hB.out];exact Nat.le_refl _),List.drop_eq_nil_of_le (by rw[hB.out];exact Nat.le_refl _),List.map_nil,List.append_nil] at T
      obtain⟨m1_,m2_,m3_⟩:=KC_mat T KI.out hB.out;replace bw:=Lib.hid (bwV.out.trans (T.bel.mono bwV.out.size));replace m1_:=Lib.hid m1_;replace m2_:=Lib.hid m2_;replace m3_:=Lib.hid m3_;clear T hlt hin;go_wp2
      go_ret2
      exact .inl ⟨hrk1.out,_,_,_,_,rfl,m1_.out,fun r hr=>⟨by rw[(m2_.out r hr).1];omega,(m2_.out r hr).2⟩,m3_.out,by omega,bw.out⟩
   ·obtain⟨t,ht⟩:∃ t,n=t+1:=⟨n-1,by omega⟩
    have ei:(n:Int)-1=(t:Int):=by omega
    have hni:0<(n:Int):=by omega
    have htn:t<S.p.length:=by rw[hpl.out];omega
    have hir:=hEV.out.ir;obtain⟨bP,oP,pt,rfl,hp1,pc0⟩:=hir.get htn;have hs1:=hsg.out t ht;rw[List.getD_eq_getElem?_getD,hp1] at hs1
    have hs1:pt=t↔rk n n (el Q)=n:=hs1;have g6:(t:Int)<(n:Int):=by omega
    have g7:(0:Int)≤(t:Int):=by omega
    by_cases hpt:pt=t
    ·have hrk1:=Lib.hid (hs1.1 hpt)
     have hpi:(pt:Int)=(t:Int):=by rw[hpt]
     replace hpt:=Lib.hid hpt;replace ht:=Lib.hid ht;clear hsg hpl hn0 hs1 hp1 htn hir
     go_wp2_with fail
     refine hRx.out.mono ?_
     rintro e w5 ⟨gI,B,R,ys,rs,rfl,hB,SI,KI⟩;have bwV:=bw;have SI0:Hid (St V w5 ((gI,((B.take 0).map (cutv n)++(B.drop 0).map (rowv (n+n))).toArray,23)::(List.zipWith rowb B R++ys)) rs):=Lib.hid SI;replace bw:=Lib.hid (bw.out.trans (SI.bel.mono bw.out.size));replace hB:=Lib.hid hB;replace KI:=Lib.hid KI;clear SI hRx u1 hEV;go_wp2
     go_loopw [65] (fun iv wr=>∃ i:Nat,i≤n∧iv=.int .i64 i∧St V wr ((gI,((B.take i).map (cutv n)++(B.drop i).map (rowv (n+n))).toArray,23)::(List.zipWith rowb B R++ys)) rs) (fun iv _=>n-(intOf iv).toNat)
     case atStart=>exact⟨0,Nat.zero_le _,rfl,SI0.out⟩
     case round=>
      clear SI0;obtain⟨i,hin,rfl,T⟩:=hrel;rename World=>V6
      by_cases hlt:i<n
      ·have g8:(i:Int)<(n:Int):=by omega
       have g9:(0:Int)≤(i:Int):=by omega
       have hnp:0<n:=by omega
       have hiB:i<B.length:=by rw[hB.out];exact hlt
       have hcb:=(T.bk _ List.mem_cons_self).1;obtain⟨b,hb⟩:∃ b,b=B.getD i 0:=⟨_,rfl⟩;have e0:V6.cell? ⟨gI,i,none⟩=some (.slice (some ⟨b,0,none⟩) (n+n) (n+n)):=by rw[hb];exact hcb.cell (by rw[List.getElem?_toArray];exact cut_at (n:=n) hiB _ _)
       have f0:=hcb.frozen i;have T1:=T.set 0 i (cutv n b) rfl (by nofun)
       rw[hb] at T1
       change St V _ ((gI,((B.take i).map (cutv n)++(B.drop i).map (rowv (n+n))).toArray.setIfInBounds i (cutv n (B.getD i 0)),_)::_) _ at T1
       rw[cut_step (n:=n) hiB,←hb] at T1;replace T1:=Lib.hid T1;replace hb:=Lib.hid hb;clear T hcb hiB hlt hin;go_wp2
       go_roundw
       case rel=>exact⟨i+1,by omega,by go_num,T1.out⟩
       case measure=>simp[intOf];omega
      ·obtain rfl:n=i:=by omega
       rw[List.take_of_length_le (by rw[hB.out];exact Nat.le_refl _),List.drop_eq_nil_of_le (by rw[hB.out];exact Nat.le_refl _),List.map_nil,List.append_nil] at T
       obtain⟨m1_,m2_,m3_⟩:=KC_mat T KI.out hB.out;replace bw:=Lib.hid (bwV.out.trans (T.bel.mono bwV.out.size));replace m1_:=Lib.hid m1_;replace m2_:=Lib.hid m2_;replace m3_:=Lib.hid m3_;clear T hlt hin;go_wp2
       go_ret2
       exact .inl ⟨hrk1.out,_,_,_,_,rfl,m1_.out,fun r hr=>⟨by rw[(m2_.out r hr).1];omega,(m2_.out r hr).2⟩,m3_.out,by omega,bw.out⟩
    ·have hrk1:=Lib.hid (fun e=>hpt (hs1.2 e))
     have hpi:¬ ((pt:Int)=(t:Int)):=fun e=>hpt (by omega)
     replace ht:=Lib.hid ht;clear hsg hpl hn0 hs1 hp1 htn hir hRx hpt;go_wp2
     go_ret2
     exact .inr ⟨hrk1.out,none,0,0,[],rfl,⟨rfl,Nat.le_refl _,.inl rfl,fun r hr=>(by cases hr)⟩,fun r hr=>(by cases hr),rfl,by omega,bw.out⟩
end Go.Proofs.YtfnkpfbobdmieaaGreat
namespace Go.Proofs.YtfnkpfbobdmieaaGreat
open Go.RowKit RQ GE
set_option linter.unusedVariables false
theorem zip_all:∀ {L:List Gw} {r:List Rat},L.length=r.length→csE (List.zipWith rtW L r)=rwC.all L
 | [],[],_=>rfl
 | x::L,q::r,h=>by
  show [Value.bool x.b,.slice x.x.A x.x.n x.x.c,.slice x.y.A x.y.n x.y.c]++csE (List.zipWith rtW L r)=rwC.cs x++rwC.all L
  rw[zip_all (by simpa using h)];rfl
theorem Apd.onto {w V W:World} {B:List Bk} {rs rs3:List Rdg} {e size n:Nat} {v:Value} {xs:List Value} (S:St w V B rs) (h:Apd V W [] rs3 e size v n xs):Apd w W B (rs++rs3) e size v n xs:=by
 obtain⟨h1,h2,⟨rfl,h0,S'⟩ | ⟨g,cap,cur,rfl,k2,k3,k4,k5,S'⟩⟩:=h
 ·refine⟨h1,h2,.inl ⟨rfl,h0,?_⟩⟩
  have:=S.join S'
  rwa [List.append_nil] at this
 ·exact⟨h1,h2,.inr ⟨g,cap,cur,rfl,k2,k3,k4,k5,(S.join S').prm List.perm_append_comm⟩⟩
def RowA (M:List Rat) (w:World) (e:Ending) (w':World):Prop:=∃ v L rs,e=.returned v∧Apd w w' [] rs 45 3 v L.length (csE L)∧(∀ x∈L,x.can∧x.rdIn rs)∧L.map (·.q)=M
theorem RowG.apd {M:List Rat} {w:World} {e:Ending} {w':World} (h:RowG M w e w') (hs:∀ q∈M,Rs q 9000000):RowA M w e w':=by
 obtain⟨v,L,rs,rfl,G,hI,hV⟩:=h;have hl:L.length=M.length:=by have:=congrArg List.length hV;simpa using this
 refine⟨v,List.zipWith rtW L M,rs,rfl,?_,fun y hy=>?_,zip_q hl⟩
 ·rw[zip_all hl,List.length_zipWith,←hl,Nat.min_self];exact G.1
 ·obtain⟨i,hi⟩:=List.getElem?_of_mem hy
  obtain⟨x,q,hx,hq,rfl,e⟩:=zip_at hV hi;exact⟨rtW_can e (hs q (List.mem_of_getElem? hq)),hI x (List.mem_of_getElem? hx)⟩
theorem wfM_of {K:List Ro} {m:Nat} (h:∀ r∈K,r.n=m) (h1:1≤m) (h2:m≤96) (h3:K.length≤96):wfM K=true:=by
 unfold wfM;rw[Bool.and_eq_true];refine⟨decide_eq_true h3,List.all_eq_true.2 fun r hr=>?_⟩
 have hc:colM K=m:=by
  match K,hr with
  | s::_,_=>exact h s List.mem_cons_self
 unfold rowM;rw[hc,h r hr]
 simp[h1,h2]
theorem colM_of {K:List Ro} {m:Nat} (h:∀ r∈K,r.n=m) (h0:0<K.length):colM K=m:=by
 match K,h0 with
 | s::_,_=>exact h s List.mem_cons_self
theorem beside_any (M:List Ro) (A:Option Addr) (n c:Nat) (w:World) (h:Mr w A n c M) (hk:∀ r∈M,r.n=n) (hn:n≤96) (ka:∀ r∈M,∀ x∈r.L,Rk x.b x.n x.x x.m x.y x.q) (hs:∀ r∈M,∀ x∈r.L,Rs x.q 9000000):Calls Tryz.prog 56 #[.slice A n c] w (fun e w'=>∃ A' c' K,e=.returned (.slice A' n c')∧Mr w' A' n c' K∧(∀ r∈K,r.n=n+n∧∀ x∈r.L,x.can)∧qM K=besQ n (qM M)∧Below w.heap.size w w'):=by
 obtain⟨Q,hQ⟩:∃ Q,Q=qM M:=⟨_,rfl⟩;have hQ1:Hid (∀ i r,M[i]?=some r→Q.getD i []=r.L.map (·.q)):=Lib.hid fun i r hi=>by
  rw[hQ];unfold qM;rw[List.getD_eq_getElem?_getD,List.getElem?_map,hi];rfl
 have hq:Q.length=n:=by rw[hQ];unfold qM;rw[List.length_map];exact h.len
 have hr:rct n Q:=fun q hq=>by
  rw[hQ] at hq;obtain⟨r,hr,rfl⟩:=List.mem_map.1 hq;rw[List.length_map,(h.rd r hr).len];exact hk r hr
 have hqr:=Lib.hid (fun N (hN:N.length=n) h=>bes_row (N:=N) hq hr hN h)
 rw[←hQ];have hTk:Hid (∀ r∈M,∀ W,Mr W A n c M→Calls Tryz.prog 61 #[.slice r.A r.n r.c] W (RowA (r.L.map (·.q)) W)):=Lib.hid fun r hr W h'=>(takeG_any _ r.L r.A r.n r.c W (h'.rd r hr) rfl (ka r hr) (by rw[hk r hr];omega)).mono fun e w' hG=>hG.apd fun q hq=>by
  obtain⟨x,hx,rfl⟩:=List.mem_map.1 hq;exact hs r hr x hx
 have hrl:Hid (∀ r∈M,r.L.length=n):=Lib.hid fun r hr'=>by rw[(h.rd r hr').len];exact hk r hr'
 have hF:Hid (∀ W (u:Nat),u≤1→Calls Tryz.prog 36 #[.int .i64 u] W (RetR (u:Rat) W)):=Lib.hid fun W u hu=>FfromInt_any u W (by omega) (by omega)
 have S:=Lib.hid (St.new w);replace h:=Lib.hid h;have hb:=Lib.hid hn;clear hn hk ka hs hQ hq hr;go_enter Tryz.func56,Tryz.ntmps56;go_wp2
 go_loopw [3,4] (fun ov iv wr=>∃ (i:Nat) (K:List Ro) (bs:List Bk) (rs:List Rdg),i≤n∧iv=.int .i64 i∧K.length=i∧Apd w wr bs rs 23 1 ov i (K.map Ro.v)∧(∀ r∈K,r.In bs rs)∧(∀ r∈K,r.n=n+n∧∀ x∈r.L,x.can)∧(∀ j,j<i→(qM K).getD j []=Q.getD j []++(List.replicate n 0).set j 1)) (fun _ iv _=>n-(intOf iv).toNat)
 case atStart=>exact⟨0,[],[],[],Nat.zero_le _,rfl,rfl,Apd.nil_ S.out _ _,fun x hx=>(by cases hx),fun x hx=>(by cases hx),fun j hj=>absurd hj (Nat.not_lt_zero _)⟩
 case round=>
  clear S;obtain⟨i,K,bs,rs,hin,rfl,hK,AP,hIn,hcan,hq⟩:=hrel;rename World=>V0
  by_cases hlt:i<n
  ·have hih:=Lib.hid hlt
   have g1:(i:Int)<(n:Int):=by omega
   have g2:(0:Int)≤(i:Int):=by omega
   obtain⟨b,o,r,rfl,hr,hrm,e0⟩:=(h.out.bel AP.st.bel).get hlt;have hTx:=Lib.hid (hTk.out r hrm V0 (h.out.bel AP.st.bel));have hqi:=hQ1.out i r hr;rw[←hqi] at hTx;have hql:Hid ((Q.getD i []).length=n):=Lib.hid (by rw[hqi,List.length_map];exact hrl.out r hrm)
   replace AP:=Lib.hid AP;replace hIn:=Lib.hid hIn;replace hcan:=Lib.hid hcan;replace hq:=Lib.hid hq;replace hK:=Lib.hid hK;clear hlt hin hr hrm hqi
   go_wp2_with fail
   refine hTx.out.mono ?_
   rintro e w4 ⟨v,L0,rs3,rfl,AG,hL0,hLq⟩;obtain⟨ob,hob,S⟩:=AP.out.open_;have AR:=Lib.hid (Apd.onto S AG);have hLl:L0.length=n:=by have:=congrArg List.length hLq;rw[List.length_map] at this;exact this.trans hql.out
   rw[hLl] at AR;replace hob:=Lib.hid hob;replace hL0:=Lib.hid hL0;replace hLq:=Lib.hid hLq;replace hLl:=Lib.hid hLl;clear AG S AP hTx e0;go_wp2
   go_loopw [5,6] (fun rv jv wr=>∃ (j:Nat) (L:List Rt) (rs':List Rdg),j≤n∧jv=.int .i64 j∧L.length=n+j∧Apd w wr (bs++ob) rs' 45 3 rv (n+j) (csE L)∧(∀ x∈L,x.can∧x.rdIn rs')∧L.map (·.q)=Q.getD i []++((List.replicate n 0).set i 1).take j∧(∀ p∈rs,p∈rs')) (fun _ jv _=>n-(intOf jv).toNat)
   case atStart=>exact⟨0,L0,rs++rs3,Nat.zero_le _,rfl,hLl.out,AR.out,fun x hx=>⟨(hL0.out x hx).1,List.mem_append_right _ (hL0.out x hx).2.1,List.mem_append_right _ (hL0.out x hx).2.2⟩,by rw[hLq.out,List.take_zero,List.append_nil],fun p hp=>List.mem_append_left _ hp⟩
   case round=>
    clear AR hL0 hLq hLl;obtain⟨j,L,rs',hjn,rfl,hL,AR,hcn,hqL,hsub⟩:=hrel;rename World=>V1
    by_cases hlj:j<n
    ·have g4:(j:Int)<(n:Int):=by omega
     have g5:(0:Int)≤(j:Int):=by omega
     have hjh:=Lib.hid hlj;obtain⟨u,hu1,hu2⟩:∃ u:Nat,u≤1∧((i=j∧u=1)∨(i≠j∧u=0)):=by
      by_cases h:i=j
      ·exact⟨1,by omega,.inl ⟨h,rfl⟩⟩
      ·exact⟨0,by omega,.inr ⟨h,rfl⟩⟩
     obtain⟨qu,hqu⟩:∃ q:Rat,q=(u:Rat):=⟨_,rfl⟩;have hFx:=hF.out V1 u hu1;rw[←hqu] at hFx;replace hFx:=Lib.hid hFx;have hqn:Hid (Q.getD i []++((List.replicate n 0).set i 1).take j++[qu]=Q.getD i []++((List.replicate n 0).set i 1).take (j+1)):=Lib.hid (by
      have:((List.replicate n (0:Rat)).set i 1)[j]?=some qu:=by
       rw[hqu]
       rcases hu2 with ⟨rfl,rfl⟩ | ⟨h,rfl⟩
       ·rw[List.getElem?_set_self (by rw[List.length_replicate];exact hlj)];rfl
       ·rw[List.getElem?_set_ne h,List.getElem?_replicate,if_pos hlj];rfl
      rw[List.take_add_one,this,List.append_assoc];rfl)
     have hRx:Hid (Rs qu 9000000):=Lib.hid (by
      rw[hqu];have:S2 1 0 ((u:Nat):Rat):=by
       rcases hu2 with ⟨_,rfl⟩ | ⟨_,rfl⟩
       ·exact S2.one
       ·exact S2.zero
      exact S2.rs this (by decide) (by decide))
     replace AR:=Lib.hid AR;replace hcn:=Lib.hid hcn;replace hqL:=Lib.hid hqL;replace hsub:=Lib.hid hsub;replace hL:=Lib.hid hL;replace hqu:=Lib.hid hqu;clear hlj hjn
     rcases hu2 with ⟨rfl,rfl⟩ | ⟨hne,rfl⟩
     ·skip
      go_wp2_with fail
      refine hFx.out.mono ?_
      rintro e w3 ⟨A2,n2,c2,D2,m2,d2,rfl,Q2,bb⟩;have AP1:=(((AR.out.call bb).read Q2.n).read Q2.d).alloc #[.bool (ng qu.num),.slice A2 n2 c2,.slice D2 m2 d2] 45 (noL3 _ _ _ _ _ _ _);have hcb1:=AP1.st.cb 0 rfl;clear AR bb Q2 hFx
      go_wp2_with (at_builtin;refine app_rat rfl (.tmp 28) (.tmp 31) rfl rfl AP1 _ rfl hcb1 (by have:=hjh.out;have:=hb.out;omega) ?_)
      clear AP1 hcb1;intro v' W' AP;replace AP:=Lib.hid AP;have hlj:=hjh.out;have hbb:=hb.out;go_wp2
      go_roundw
      case rel=>exact⟨i+1,L++[Rt.of A2 n2 c2 D2 m2 d2 qu],_,by omega,by go_num,by rw[List.length_append,hL.out];rfl,by rw[csE_app];exact AP.out.sub,fun x hx=>(by rcases List.mem_append.1 hx with hx | hx;exact⟨(hcn.out x hx).1,rd_cons_ (rd_cons_ (hcn.out x hx).2)⟩;obtain rfl:=List.mem_singleton.1 hx;exact⟨Rt.of_can _ _ _ _ _ _ hRx.out,List.mem_cons_of_mem _ List.mem_cons_self,List.mem_cons_self⟩),by rw[List.map_append,hqL.out];exact hqn.out,fun p hp=>List.mem_cons_of_mem _ (List.mem_cons_of_mem _ (hsub.out p hp))⟩
      case measure=>simp[intOf];omega
     ·have hnei:¬ ((i:Int)=(j:Int)):=by omega
      go_wp2_with fail
      refine hFx.out.mono ?_
      rintro e w3 ⟨A2,n2,c2,D2,m2,d2,rfl,Q2,bb⟩;have AP1:=(((AR.out.call bb).read Q2.n).read Q2.d).alloc #[.bool (ng qu.num),.slice A2 n2 c2,.slice D2 m2 d2] 45 (noL3 _ _ _ _ _ _ _);have hcb1:=AP1.st.cb 0 rfl;clear AR bb Q2 hFx
      go_wp2_with (at_builtin;refine app_rat rfl (.tmp 28) (.tmp 31) rfl rfl AP1 _ rfl hcb1 (by have:=hjh.out;have:=hb.out;omega) ?_)
      clear AP1 hcb1;intro v' W' AP;replace AP:=Lib.hid AP;have hlj:=hjh.out;have hbb:=hb.out;go_wp2
      go_roundw
      case rel=>exact⟨j+1,L++[Rt.of A2 n2 c2 D2 m2 d2 qu],_,by omega,by go_num,by rw[List.length_append,hL.out];rfl,by rw[csE_app];exact AP.out.sub,fun x hx=>(by rcases List.mem_append.1 hx with hx | hx;exact⟨(hcn.out x hx).1,rd_cons_ (rd_cons_ (hcn.out x hx).2)⟩;obtain rfl:=List.mem_singleton.1 hx;exact⟨Rt.of_can _ _ _ _ _ _ hRx.out,List.mem_cons_of_mem _ List.mem_cons_self,List.mem_cons_self⟩),by rw[List.map_append,hqL.out];exact hqn.out,fun p hp=>List.mem_cons_of_mem _ (List.mem_cons_of_mem _ (hsub.out p hp))⟩
      case measure=>simp[intOf];omega
    ·obtain rfl:j=n:=by omega
     have hqf:L.map (·.q)=Q.getD i []++(List.replicate j 0).set i 1:=by rw[hqL,List.take_of_length_le (by rw[List.length_set,List.length_replicate];exact Nat.le_refl _)]
     rw[←hL] at AR;obtain⟨r,bs',rfl,h1,h2,h3,h4,S3⟩:=row_done AR (fun x hx=>(hcn x hx).2)
     have APo:=Apd.close hob.out S3;have APl:=APo.alloc #[.slice r.A r.n r.c] 23 (noL1 _ _ _);have hcb1:=APl.st.cb 0 rfl;have hcn':=Lib.hid (fun x hx=>(hcn x hx).1)
     rw[hL] at h1;replace hqf:=Lib.hid hqf;replace hsub:=Lib.hid hsub;have hh:=Lib.hid (And.intro h1 (And.intro h2 (And.intro h3 h4)));clear AR hcn hqL hjn h1 h2 h3 h4 S3 APo hob hlj hL;have hil:=hih.out;have hcbb:=hb.out
     go_wp2_with (at_builtin;refine app_row rfl (.tmp 33) (.tmp 35) rfl rfl APl _ rfl hcb1 (by omega) ?_)
     clear APl hcb1;intro v' W' AP;replace AP:=Lib.hid AP;go_wp2
     go_roundw
     case rel=>
      refine⟨i+1,K++[r],bs',_,by omega,by go_num,by rw[List.length_append,hK.out];rfl,by rw[List.map_append];exact AP.out.sub,In_app hIn.out hh.out.2.2.1 hsub.out hh.out.2.2.2,fun r' hr'=>?_,fun k hk=>?_⟩
      ·rcases List.mem_append.1 hr' with hr' | hr'
       ·exact hcan.out r' hr'
       ·obtain rfl:=List.mem_singleton.1 hr'
        exact⟨hh.out.1,by rw[hh.out.2.1];exact hcn'.out⟩
      ·have hl:(qM K).length=i:=by unfold qM;rw[List.length_map];exact hK.out
       rw[qM_app]
       by_cases hki:k<i
       ·rw[List.getD_eq_getElem?_getD,List.getElem?_append_left (by omega),←List.getD_eq_getElem?_getD]
        exact hq.out k hki
       ·obtain rfl:k=i:=by omega
        rw[List.getD_eq_getElem?_getD,List.getElem?_append_right (by omega),hl,Nat.sub_self]
        show r.L.map (·.q)=_
        rw[hh.out.2.1];exact hqf.out
     case measure=>simp[intOf];omega
  ·obtain rfl:i=n:=by omega
   have AP1:=AP;rw[←hK] at AP1;obtain⟨A3,c3,hv,M3⟩:=AP1.mat hIn;subst hv;rw[hK] at M3;have hbl:=Lib.hid AP1.st.bel;have hfin:Hid (qM K=besQ i Q):=Lib.hid (hqr.out _ (by unfold qM;rw[List.length_map];exact hK) hq)
   replace M3:=Lib.hid M3;replace hcan:=Lib.hid hcan;replace hK:=Lib.hid hK;clear AP AP1 hIn hq hlt hin;go_wp2;go_ret;exact⟨A3,c3,K,(show Ending.returned (Value.slice A3 K.length c3)=_ by rw[hK.out]),M3.out,hcan.out,hfin.out,hbl.out⟩
theorem Sr.cut2 {W:World} {b o n c:Nat} {L:List Rt} (h:Sr W (some ⟨b,o,none⟩) (n+n) c L):Sr W (some ⟨b,o+n*3,none⟩) n (c-n) (L.drop n):=by
 refine⟨by rw[List.length_drop,h.len];omega,by have:=h.cap;omega,?_,fun r hr=>h.rd r (List.mem_of_mem_drop hr)⟩
 rcases h.mem with h0 | ⟨b',o',hA,hlt,hc⟩
 ·left;omega
 ·right
  obtain⟨rfl,rfl⟩:b=b'∧o=o':=by simp only[Option.some.injEq,Addr.mk.injEq] at hA;exact⟨hA.1,hA.2.1⟩
  refine⟨b,o+n*3,rfl,hlt,fun i r hi=>?_⟩
  rw[List.getElem?_drop] at hi
  obtain⟨k0,k1,k2⟩:=hc _ _ hi;rw[show o+(n+i)*3=o+n*3+i*3 by omega] at k0 k1 k2
  exact⟨k0,k1,k2⟩
theorem Apd.mat_old {V W:World} {bs:List Bk} {rs:List Rdg} {v:Value} {M:List Ro} (h:Apd V W bs rs 23 1 v M.length (M.map Ro.v)) (hr:∀ r∈M,Sr V r.A r.n r.c r.L):∃ A c,v=.slice A M.length c∧Mr W A M.length c M:=by
 have hb:=h.st.bel;obtain⟨h1,h2,⟨rfl,h0,_⟩ | ⟨g,cap,cur,rfl,k2,k3,k4,k5,S'⟩⟩:=h
 ·exact⟨none,0,by rw[h0],rfl,by omega,.inl h0,fun r hr'=>(hr r hr').bel hb⟩
 ·refine⟨some ⟨g,0,none⟩,cap,rfl,rfl,k2,.inr ⟨g,0,rfl,(S'.bk _ List.mem_cons_self).1.lt,fun i r hi=>?_⟩,fun r hr'=>(hr r hr').bel hb⟩
  rw[Nat.zero_add];refine (S'.bk _ List.mem_cons_self).1.cell ?_
  have:(M.map Ro.v)[i]?=some (.slice r.A r.n r.c):=by rw[List.getElem?_map,hi];rfl
  rw[←k5,List.getElem?_take] at this
  split at this
  ·simpa using this
  ·cases this
theorem rinv_any (M:List Ro) (A:Option Addr) (n c:Nat) (w:World) (h:Mr w A n c M) (hm:∀ r∈M,r.n≤9223372036854775807) (hn:n≤9223372036854775807) (hw:wfM M=true) (ka:∀ r∈M,∀ x∈r.L,Rk x.b x.n x.x x.m x.y x.q) (b:Nat) (hs:∀ r∈M,∀ x∈r.L,Rs x.q b) (hb:1≤b) (hB:b*5^n≤9000000) (hsq:colM M=n) (hn4:n≤4):Calls Tryz.prog 27 #[.slice A n c] w (fun e w'=>(rk n n (el (qM M))=n∧RetMX 0 (invQ n (qM M)) w e w')∨(rk n n (el (qM M))≠n∧RetMX 7 [] w e w')):=by
 obtain⟨hr,hq,hk,h0,hn96,hk96⟩:=wf_rct h hw;rw[hsq] at hr hk;have hb9:b≤9000000:=Nat.le_trans (Nat.le_mul_of_pos_right b (Nat.pow_pos (by decide))) hB
 have hD:=Lib.hid (rDet_any M A n c w h hm hn hw ka b hs hb hB hsq);have hQs:∀ r∈qM M,∀ q∈r,Rs q b:=fun r hr q hq=>by
  obtain⟨y,hy,rfl⟩:=List.mem_map.1 hr;obtain⟨z,hz,rfl⟩:=List.mem_map.1 hq;exact hs y hy z hz
 have hBe:=Lib.hid (fun W h'=>beside_any M A n c W h' hk hn96 ka (fun r hr x hx=>(hs r hr x hx).mono hb9))
 obtain⟨Q,hQ⟩:∃ Q,Q=qM M:=⟨_,rfl⟩;rw[←hQ] at hr hq hQs hD hBe ⊢;have hdz:=dE_zero hn4 (A:=el Q);have hds:Rs (dE n (el Q)) 9000000:=by
  unfold dE
  split
  ·rw[mk_el hq hr]
   exact (red_rs hq hr hQs hb hB).2.2
  ·exact rs_zero (by omega)
 have hbs:∀ r∈besQ n Q,∀ q∈r,Rs q b:=fun r hr' x hx=>by
  unfold besQ mk at hr';obtain⟨i,hi,rfl⟩:=List.mem_map.1 hr';obtain⟨j,hj,rfl⟩:=List.mem_map.1 hx;unfold besd
  split
  ·exact rs_el hb hQs i j
  ·unfold I1
   split
   ·exact (Rs.int (z:=1) (p:=1) (by decide) (Nat.le_refl 1)).mono hb
   ·exact rs_zero hb
 have hRd:=Lib.hid (fun W (K:List Ro) (A':Option Addr) (c':Nat) (hK:Mr W A' n c' K) (hc:∀ r∈K,r.n=n+n∧∀ x∈r.L,x.can) (hKq:qM K=besQ n Q)=>by
  have hkn:∀ r∈K,r.n=n+n:=fun r hr=>(hc r hr).1
  have hcan:canM K:=fun r hr=>⟨by rw[hkn r hr];omega,(hc r hr).2⟩
  have hsK:∀ r∈K,∀ x∈r.L,Rs x.q b:=qM_all (by rw[hKq];exact hbs)
  have hwK:wfM K=true∧colM K=n+n:=by
   rcases Nat.eq_zero_or_pos n with h1 | h1
   ·have:K=[]:=List.length_eq_zero_iff.1 (hK.len.trans h1)
    subst this h1;exact⟨rfl,rfl⟩
   ·exact⟨wfM_of hkn (by omega) (by omega) (by rw[hK.len];omega),colM_of hkn (by rw[hK.len];exact h1)⟩
  have h1:=rred_all K A' n c' b W hK hwK.1 (canM_rk hK hcan) hsK hb hB;rw[hwK.2,hKq] at h1;exact h1)
 obtain⟨d,hd⟩:∃ d,d=dE n (el Q):=⟨_,rfl⟩;rw[←hd] at hdz hds hD;have hlen:Hid ((red (n+n) (besQ n Q)).M.length=n):=Lib.hid (red_rf mk_len mk_rct).1.len;have hrc:Hid (rct (n+n) (red (n+n) (besQ n Q)).M):=Lib.hid (red_rf mk_len mk_rct).1.rect;unfold invQ;obtain⟨RM,hRM⟩:∃ z,z=(red (n+n) (besQ n Q)).M:=⟨_,rfl⟩;obtain⟨RP,hRP⟩:∃ z,z=(red (n+n) (besQ n Q)).p:=⟨_,rfl⟩;obtain⟨RF,hRF⟩:∃ z,z=(red (n+n) (besQ n Q)).f:=⟨_,rfl⟩
 rw[←hRM] at hlen hrc ⊢;rw[←hRM,←hRP,←hRF] at hRd;have hSg:=Lib.hid (fun (W:World) A1 n1 c1 D1 m1 d1 (X:RR W A1 n1 c1 D1 m1 d1 d)=>rsignQ2 d A1 n1 c1 D1 m1 d1 W X (hds.mono (by omega)))
 have hn9:=hn96;replace h:=Lib.hid h;replace hdz:=Lib.hid hdz;clear hm hn hw ka hs hb hB hsq hn4 hr hq hk h0 hn96 hk96 hb9 hQs hds hbs hQ hd hRM hRP hRF;go_enter Tryz.func27,Tryz.ntmps27
 go_wp2_with fail
 refine hD.out.mono ?_
 rintro e w1 ⟨A1,n1,c1,D1,m1,d1,rfl,X1,bb⟩;have B3:Below w1.heap.size w1 (w1.alloc (.cells #[.bool (ng d.num),.slice A1 n1 c1,.slice D1 m1 d1] 45)):=(Below.refl _ _).alloc (Nat.le_refl _) _;obtain⟨w2,hw2⟩:∃ W,W=w1.alloc (.cells #[.bool (ng d.num),.slice A1 n1 c1,.slice D1 m1 d1] 45):=⟨_,rfl⟩;obtain⟨gd,hgd⟩:∃ g,g=w1.heap.size:=⟨_,rfl⟩;have hcd:Cb w2 gd #[.bool (ng d.num),.slice A1 n1 c1,.slice D1 m1 d1] 45:=by rw[hw2,hgd];exact Cb.new _ _ _
 rw[←hw2] at B3;replace X1:=X1.below B3;have bw:=Lib.hid (bb.trans (B3.mono bb.size));have hSx:=Lib.hid (hSg.out w2 A1 n1 c1 D1 m1 d1 X1);go_upto_region 2 with fail
 rw[←hgd,←hw2];clear hw2 hgd bb B3 X1 hD hSg;have x0:=hcd.cell (i:=0) rfl;have x1:=hcd.cell (i:=1) rfl;have x2:=hcd.cell (i:=2) rfl;clear hcd
 go_wp2_with fail
 refine hSx.out.mono ?_
 rintro e w3 ⟨rfl,bb⟩;replace bw:=Lib.hid (bw.out.trans (bb.mono bw.out.size));clear bb hSx x0 x1 x2
 by_cases hd0:d=0
 ·have hrk1:=Lib.hid (hdz.out.1 hd0)
  have hsz:d.num.sign=0:=by rw[hd0];rfl
  replace hd0:=Lib.hid hd0;clear hdz hBe hRd h;go_wp2
  go_ret2
  exact .inr ⟨hrk1.out,none,0,0,[],rfl,⟨rfl,Nat.le_refl _,.inl rfl,fun r hr=>(by cases hr)⟩,fun r hr=>(by cases hr),rfl,by omega,bw.out⟩
 ·have hrk1:rk n n (el Q)=n:=Classical.byContradiction fun e=>hd0 (hdz.out.2 e)
  have hsz:¬ (d.num.sign=0):=fun e=>hd0 (Rat.num_eq_zero.1 (Int.sign_eq_zero_iff_zero.1 e))
  have hBx:=Lib.hid (hBe.out w3 (h.out.bel bw.out));replace hrk1:=Lib.hid hrk1;replace hd0:=Lib.hid hd0;clear hdz hBe h
  go_wp2_with fail
  refine hBx.out.mono ?_
  rintro e w4 ⟨A4,c4,K4,rfl,hK4,hc4,hq4,bb⟩;have hRx:=Lib.hid (hRd.out w4 K4 A4 c4 hK4 hc4 hq4);replace bw:=Lib.hid (bw.out.trans (bb.mono bw.out.size));clear hK4 hc4 hq4 bb hBx hRd
  go_wp2_with fail
  refine hRx.out.mono ?_
  rintro e w5 ⟨A5,n5,c5,K5,P,pc,A6,n6,c6,D6,m6,d6,rfl,hK5,hc5,hq5,hn5,hi5,x5,bb⟩;have hn5n:n5=n:=by rw[←hK5.len,←hlen.out,←hq5];unfold qM;rw[List.length_map]
  subst hn5n;have B5:Below w5.heap.size w5 (w5.alloc (.cells #[.bool (ng RF.num),.slice A6 n6 c6,.slice D6 m6 d6] 45)):=(Below.refl _ _).alloc (Nat.le_refl _) _;obtain⟨V,hV⟩:∃ W,W=w5.alloc (.cells #[.bool (ng RF.num),.slice A6 n6 c6,.slice D6 m6 d6] 45):=⟨_,rfl⟩;rw[←hV] at B5;replace hK5:=Lib.hid (hK5.bel B5);replace bw:=Lib.hid (bw.out.trans ((bb.trans (B5.mono bb.size)).mono bw.out.size));have hrn:Hid (∀ r∈K5,r.n=n5+n5):=Lib.hid fun r hr=>by
   have h1:=hrc.out (r.L.map (·.q)) (by rw[←hq5];exact List.mem_map_of_mem hr)
   rw[List.length_map,(hK5.out.rd r hr).len] at h1;exact h1
  go_upto_region 7 with fail
  rw[←hV];have AP:=Lib.hid (Apd.nil_ (St.new V) 23 1);replace hc5:=Lib.hid hc5;replace hq5:=Lib.hid hq5;clear hV B5 bb hi5 x5 hn5 hRx hlen hrc;go_wp2
  go_loopw [9,10] (fun ov iv wr=>∃ (i:Nat) (K:List Ro),i≤n5∧iv=.int .i64 i∧K.length=i∧Apd V wr [] [] 23 1 ov i (K.map Ro.v)∧∀ (j:Nat) (r:Ro),K[j]?=some r→∃ s,K5[j]?=some s∧r.n=n5∧r.L=s.L.drop n5∧Sr V r.A r.n r.c r.L) (fun _ iv _=>n5-(intOf iv).toNat)
  case atStart=>exact⟨0,[],Nat.zero_le _,rfl,rfl,AP.out,fun j r hr=>(by cases hr)⟩
  case round=>
   clear AP;obtain⟨i,K,hin,rfl,hK,AP,hKj⟩:=hrel;rename World=>V6
   by_cases hlt:i<n5
   ·have g1:(i:Int)<(n5:Int):=by omega
    have g2:(0:Int)≤(i:Int):=by omega
    have hn0:0<n5:=by omega
    have hih:=Lib.hid hlt;obtain⟨b,o,s,rfl,hr,hrm,e0⟩:=(hK5.out.bel AP.st.bel).get hlt;have hsn:=hrn.out s hrm;have hS1:=hK5.out.rd s hrm;rw[hsn] at hS1 e0;obtain⟨b2,o2,_,hA2,_⟩:=hS1.get (i:=0) (by omega)
    rw[hA2] at hS1 e0;have hcap:=hS1.cap;have hcut:=Lib.hid hS1.cut2;have APl:=(AP.alloc #[.slice (some ⟨b2,o2+n5*3,none⟩) n5 (s.c-n5)] 23 (noL1 _ _ _));have hcb1:=APl.st.cb 0 rfl;have hrh:=Lib.hid hr;replace hKj:=Lib.hid hKj;replace hK:=Lib.hid hK;have hn8:=hn9;clear AP hr hrm hlt hin hS1 hA2 hsn
    go_wp2_with (at_builtin;refine app_row rfl (.tmp 35) (.tmp 43) rfl rfl APl _ rfl hcb1 (by omega) ?_)
    clear APl hcb1;intro v' W' AP;replace AP:=Lib.hid AP;go_wp2
    go_roundw
    case rel=>
     refine⟨i+1,K++[⟨some ⟨b2,o2+n5*3,none⟩,n5,s.c-n5,s.L.drop n5⟩],by omega,by go_num,by rw[List.length_append,hK.out];rfl,by rw[List.map_append];exact AP.out.sub,fun j r hr=>?_⟩
     by_cases hj:j<K.length
     ·rw[List.getElem?_append_left hj] at hr
      exact hKj.out j r hr
     ·rw[List.getElem?_append_right (by omega)] at hr
      have hj1:j=i:=by
       have:=(List.getElem?_eq_some_iff.1 hr).1
       simp at this
       have:=hK.out
       omega
      subst hj1;rw[hK.out,Nat.sub_self] at hr;obtain rfl:=Option.some.inj hr;exact⟨s,hrh.out,rfl,rfl,hcut.out⟩
    case measure=>simp[intOf];omega
   ·obtain rfl:n5=i:=by omega
    have hst:=AP.st.bel;rw[←hK] at AP;obtain⟨A7,c7,hv,M7⟩:=AP.mat_old (fun r hr=>by
     obtain⟨j,hj⟩:=List.getElem?_of_mem hr
     obtain⟨s,_,_,_,hS⟩:=hKj j r hj;exact hS)
    subst hv;have hfin:qM K=RM.map (·.drop n5):=by
     rw[←hq5.out];unfold qM;rw[List.map_map]
     apply List.ext_getElem?
     intro j;rw[List.getElem?_map,List.getElem?_map]
     have hl5:=hK5.out.len
     by_cases hj:j<n5
     ·have h1:K[j]?=some K[j]:=List.getElem?_eq_getElem (by omega)
      obtain⟨s,hs,_,hL,_⟩:=hKj j _ h1;rw[h1,hs]
      show some (K[j].L.map (·.q))=some ((s.L.map (·.q)).drop n5)
      rw[hL,List.map_drop]
     ·rw[List.getElem?_eq_none (by omega),List.getElem?_eq_none (by omega)];rfl
    have hcan7:canM K:=fun r hr=>by
     obtain⟨j,hj⟩:=List.getElem?_of_mem hr
     obtain⟨s,hs,hn,hL,_⟩:=hKj j r hj;exact⟨by rw[hn];omega,fun x hx=>(hc5.out s (List.mem_of_getElem? hs)).2 x (by rw[hL] at hx;exact List.mem_of_mem_drop hx)⟩
    replace bw:=Lib.hid (bw.out.trans (hst.mono bw.out.size));replace M7:=Lib.hid M7;replace hfin:=Lib.hid hfin;replace hcan7:=Lib.hid hcan7;replace hK:=Lib.hid hK;clear AP hKj hlt hin hst;go_wp2
    go_ret2
    exact .inl ⟨hrk1.out,A7,K.length,c7,K,rfl,M7.out,hcan7.out,hfin.out,by rw[hK.out];omega,bw.out⟩
end Go.Proofs.YtfnkpfbobdmieaaGreat
namespace Go.Proofs.YtfnkpfbobdmieaaGreat
open Go.RowKit RQ GE
set_option linter.unusedVariables false
theorem pinv_bad (M:List Ro) (A:Option Addr) (n c:Nat) (w:World) (h:Mr w A n c M) (hm:∀ r∈M,r.n≤9223372036854775807) (hn:n≤9223372036854775807) (hw:wfM M=false):Calls Tryz.prog 26 #[.slice A n c] w (RetMX 6 [] w):=by
 have hF:=fun W h'=>wf_any M A n c W h' hm hn
 rw[hw] at hF;replace hF:=Lib.hid hF;replace h:=Lib.hid h;clear hm hn hw;go_enter Tryz.func26,Tryz.ntmps26
 go_wp2_with fail
 refine (hF.out _ h.out).mono ?_
 rintro e w2 ⟨rfl,bb⟩;have bw:=Lib.hid bb;replace h:=Lib.hid (h.out.bel bb);clear hF bb;go_wp2
 go_ret2
 exact⟨none,0,0,[],rfl,⟨rfl,Nat.le_refl _,.inl rfl,fun r hr=>(by cases hr)⟩,fun r hr=>(by cases hr),rfl,by omega,bw.out⟩
theorem pinv_shape (M:List Ro) (A:Option Addr) (n c:Nat) (w:World) (h:Mr w A n c M) (hm:∀ r∈M,r.n≤9223372036854775807) (hn:n≤9223372036854775807) (hw:wfM M=true) (hne:colM M≠n):Calls Tryz.prog 26 #[.slice A n c] w (RetMX 6 [] w):=by
 have hF:=fun W h'=>wf_any M A n c W h' hm hn
 rw[hw] at hF;replace hF:=Lib.hid hF;have hC:=Lib.hid (fun W h'=>cols_any M A n c W h')
 obtain⟨k,hk⟩:∃ k,k=colM M:=⟨_,rfl⟩;have hk9:k≤96:=by rw[hk];exact colM_le hw
 have hn9:n≤96:=(wf_rct h hw).2.2.2.2.1;rw[←hk] at hC hne;have hki:¬ ((k:Int)=(n:Int)):=fun e=>hne (by omega)
 replace h:=Lib.hid h;clear hm hn hw;go_enter Tryz.func26,Tryz.ntmps26
 go_wp2_with fail
 refine (hF.out _ h.out).mono ?_
 rintro e w2 ⟨rfl,bb⟩;have bw:=Lib.hid bb;replace h:=Lib.hid (h.out.bel bb);clear hF bb
 go_wp2_with fail
 refine (hC.out _ h.out).mono ?_
 rintro e w3 ⟨rfl,bb⟩;replace bw:=Lib.hid (bw.out.trans (bb.mono bw.out.size));clear hC bb h;go_wp2
 go_ret2
 exact⟨none,0,0,[],rfl,⟨rfl,Nat.le_refl _,.inl rfl,fun r hr=>(by cases hr)⟩,fun r hr=>(by cases hr),rfl,by omega,bw.out⟩
theorem rinv_bad (M:List Ro) (A:Option Addr) (n c:Nat) (w:World) (h:Mr w A n c M) (hm:∀ r∈M,r.n≤9223372036854775807) (hn:n≤9223372036854775807) (hw:wfM M=false):Calls Tryz.prog 27 #[.slice A n c] w (RetMX 6 [] w):=by
 have hD:=Lib.hid (rDet_bad M A n c w h hm hn hw);clear hm hn hw;go_enter Tryz.func27,Tryz.ntmps27
 go_wp2_with fail
 refine hD.out.mono ?_
 rintro e w1 ⟨A1,n1,c1,D1,m1,d1,rfl,X1,bb⟩;have B3:Below w1.heap.size w1 (w1.alloc (.cells #[.bool (ng (0:Rat).num),.slice A1 n1 c1,.slice D1 m1 d1] 45)):=(Below.refl _ _).alloc (Nat.le_refl _) _;have bw:=Lib.hid (bb.trans (B3.mono bb.size));clear bb B3 X1 hD;go_wp2
 go_ret2
 exact⟨none,0,0,[],rfl,⟨rfl,Nat.le_refl _,.inl rfl,fun r hr=>(by cases hr)⟩,fun r hr=>(by cases hr),rfl,by omega,bw.out⟩
theorem rinv_shape (M:List Ro) (A:Option Addr) (n c:Nat) (w:World) (h:Mr w A n c M) (hm:∀ r∈M,r.n≤9223372036854775807) (hn:n≤9223372036854775807) (hw:wfM M=true) (hne:colM M≠n):Calls Tryz.prog 27 #[.slice A n c] w (RetMX 6 [] w):=by
 have hD:=Lib.hid (rDet_shape M A n c w h hm hn hw hne);clear hm hn hw hne;go_enter Tryz.func27,Tryz.ntmps27
 go_wp2_with fail
 refine hD.out.mono ?_
 rintro e w1 ⟨A1,n1,c1,D1,m1,d1,rfl,X1,bb⟩;have B3:Below w1.heap.size w1 (w1.alloc (.cells #[.bool (ng (0:Rat).num),.slice A1 n1 c1,.slice D1 m1 d1] 45)):=(Below.refl _ _).alloc (Nat.le_refl _) _;have bw:=Lib.hid (bb.trans (B3.mono bb.size));clear bb B3 X1 hD;go_wp2
 go_ret2
 exact⟨none,0,0,[],rfl,⟨rfl,Nat.le_refl _,.inl rfl,fun r hr=>(by cases hr)⟩,fun r hr=>(by cases hr),rfl,by omega,bw.out⟩
end Go.Proofs.YtfnkpfbobdmieaaGreat
