/- Inverse of matrix. -/
import Derived.Laws.CopyRow
import Derived.Test.YthlinhconnmbcaaGreatM29
import Derived.Test.YthlinhconnmbcaaGreatB18
import Derived.Test.YthlinhconnmbcaaGreatB19
import Derived.Test.YthlinhconnmbcaaGreatB14
import Derived.Test.YthlinhconnmbcaaGreatB13
import Derived.Test.YthlinhconnmbcaaGreatB07
set_option maxRecDepth 100000
set_option maxHeartbeats 40000000
set_option linter.unusedVariables false
namespace Go.Proofs.YthlinhconnmbcaaGreat
open Go.RowKit RQ GE
set_option linter.unusedVariables false
def Wm (w W:World) (g n:Nat) (B:List Nat) (m:Nat) (R:List (List Rt)) (zs:List Bk):Prop:=
 ∃ (ys:List Bk) (rs:List Rdg),St w W (MB g (B.map (rowv m)++List.replicate (n-B.length) (.slice none 0 0)) B R++(zs++ys)) rs∧R.length=B.length∧(∀ L∈R,L.length=m)∧∀ L∈R,∀ x∈L,x.rdIn rs
section
variable {w W W':World} {g n m:Nat} {B:List Nat} {R:List (List Rt)} {zs:List Bk}
theorem Wm.call (h:Wm w W g n B m R zs) (hb:Below W.heap.size W W'):Wm w W' g n B m R zs:=by
 obtain⟨ys,rs,S,h⟩:=h;exact⟨ys,rs,S.call hb,h⟩
theorem Wm.bel (h:Wm w W g n B m R zs):Below w.heap.size w W:=by
 obtain⟨ys,rs,S,h⟩:=h;exact S.bel
theorem Wm.len (h:Wm w W g n B m R zs):R.length=B.length:=by
 obtain⟨ys,rs,S,h,_⟩:=h;exact h
theorem Wm.start (S:St w W [(g,(csR (List.replicate n Ro0)).toArray,46)] []):Wm w W g n [] m [] []:=by
 refine⟨[],[],?_,rfl,fun L hL=>(by cases hL),fun L hL=>(by cases hL)⟩
 have e:csR (List.replicate n Ro0)=([]:List Nat).map (rowv m)++List.replicate (n-([]:List Nat).length) (.slice none 0 0):=by
  unfold csR;rw[List.map_replicate];rfl
 rw[e] at S;exact S
theorem Wm.own {h0:Nat} (h:Wm w W g n B m R zs) (hb:Below W.heap.size W W') {t:Nat} {cs:Array Value} (hg:W.heap.size≤h0) (hc:Cb W' h0 cs t) (hn:NoL cs):Wm w W' g n B m R ((h0,cs,t)::zs):=by
 obtain⟨ys,rs,S,h⟩:=h;exact⟨ys,rs,(St_own S hb hg hc hn).prm List.perm_middle.symm,h⟩
theorem Wm.nil (h:Wm w W g n B m R zs) (hi:B.length<n):W.cell? ⟨g,B.length,none⟩=some (.slice none 0 0)∧∀ k,W.frozen? ⟨g,k,none⟩=false:=by
 obtain⟨ys,rs,S,h⟩:=h;refine MB_cell S ?_
 rw[List.getElem?_append_right (by rw[List.length_map];exact Nat.le_refl _),List.length_map,Nat.sub_self,List.getElem?_replicate,if_pos (by omega)]
theorem Wm.row {h0:Nat} {L:List Rt} (h:Wm w W g n B m R ((h0,(csE L).toArray,33)::zs)) (hi:B.length<n) (hL:L.length=m) (hx:∀ x∈L,x.raw W):Wm w (W.setCell ⟨g,B.length,none⟩ (.slice (some ⟨h0,0,none⟩) m m)) g n (B++[h0]) m (R++[L]) zs:=by
 obtain⟨ys,rs,S,hl,hm,hr⟩:=h;have S1:=St_rds S hx;have S2:=S1.prm (bs':=(g,(B.map (rowv m)++List.replicate (n-B.length) (Value.slice none 0 0)).toArray,46)::(List.zipWith rowb (B++[h0]) (R++[L])++(zs++ys))) (by
  rw[List.zipWith_append (by rw[hl])]
  show ((g,_)::(List.zipWith rowb B R++(rowb h0 L::(zs++ys)))).Perm ((g,_)::((List.zipWith rowb B R++[rowb h0 L])++(zs++ys)))
  rw[List.append_assoc];exact List.Perm.refl _)
 have S3:=S2.set 0 B.length (.slice (some ⟨h0,0,none⟩) m m) rfl (by nofun)
 have hV:((B.map (rowv m)++List.replicate (n-B.length) (Value.slice none 0 0)).toArray.setIfInBounds B.length (.slice (some ⟨h0,0,none⟩) m m))=((B++[h0]).map (rowv m)++List.replicate (n-(B++[h0]).length) (Value.slice none 0 0)).toArray:=by
  rw[List.setIfInBounds_toArray,List.set_append_right _ _ (by rw[List.length_map];exact Nat.le_refl _),List.length_map,Nat.sub_self,List.length_append,List.length_singleton,List.map_append]
  rw[show n-B.length=(n-(B.length+1))+1 by omega,List.replicate_succ,List.set_cons_zero,List.append_assoc]
  rfl
 rw[hV] at S3;refine⟨ys,_,S3,by rw[List.length_append,List.length_append,hl];rfl,fun L' h'=>?_,fun L' h' x hx'=>?_⟩
 ·rcases List.mem_append.1 h' with h' | h'
  ·exact hm L' h'
  ·rw[List.mem_singleton.1 h'];exact hL
 ·rcases List.mem_append.1 h' with h' | h'
  ·exact⟨List.mem_append_right _ (hr L' h' x hx').1,List.mem_append_right _ (hr L' h' x hx').2⟩
  ·rw[List.mem_singleton.1 h'] at hx'
   exact rdsOf_in hx'
theorem Wm.mat (h:Wm w W g n B m R zs) (hn:B.length=n):Mr W (some ⟨g,0,none⟩) n n (KR m B R)∧(∀ r∈KR m B R,r.n=m)∧qM (KR m B R)=R.map (fun L=>L.map (·.q)):=by
 obtain⟨ys,rs,S,hl,hm,hr⟩:=h;rw[hn,Nat.sub_self,List.replicate_zero,List.append_nil] at S;refine⟨⟨?_,Nat.le_refl _,.inr ⟨g,0,rfl,(S.bk (g,(B.map (rowv m)).toArray,46) (List.mem_append_left _ List.mem_cons_self)).1.lt,fun i r hi=>?_⟩,fun r hr'=>?_⟩,fun r hr'=>?_,KR_q hl⟩
 ·unfold KR;rw[List.length_zipWith,hl,Nat.min_self,hn]
 ·obtain⟨b,L,hb,hL,rfl⟩:=KR_of hi
  rw[Nat.zero_add];exact (MB_cell S (v:=rowv m b) (by rw[List.getElem?_map,hb];rfl)).1
 ·obtain⟨i,hi⟩:=List.getElem?_of_mem hr'
  obtain⟨b,L,hb,hL,rfl⟩:=KR_of hi;have hLm:=List.mem_of_getElem? hL;exact St_srm S (g:=b) (t:=33) ((MB_perm hb hL).mem_iff.2 List.mem_cons_self) (hm L hLm) (hr L hLm)
 ·obtain⟨i,hi⟩:=List.getElem?_of_mem hr'
  obtain⟨b,L,hb,hL,rfl⟩:=KR_of hi
  rfl
end
theorem Sr.cut {W:World} {b n c:Nat} {L:List Rt} (h:Sr W (some ⟨b,0,none⟩) (n+n) c L):Sr W (some ⟨b,n*3,none⟩) n n (L.drop n):=by
 refine⟨by rw[List.length_drop,h.len];omega,Nat.le_refl _,?_,fun r hr=>h.rd r (List.mem_of_mem_drop hr)⟩
 rcases h.mem with h0 | ⟨b',o',hA,hlt,hc⟩
 ·left;omega
 ·right
  obtain⟨rfl,rfl⟩:b=b'∧0=o':=by simp only[Option.some.injEq,Addr.mk.injEq] at hA;exact⟨hA.1,hA.2.1⟩
  refine⟨b,n*3,rfl,hlt,fun i r hi=>?_⟩
  rw[List.getElem?_drop] at hi
  obtain⟨k0,k1,k2⟩:=hc _ _ hi;rw[Nat.zero_add,show (n+i)*3=n*3+i*3 by omega] at k0 k1 k2
  exact⟨k0,k1,k2⟩
end Go.Proofs.YthlinhconnmbcaaGreat
namespace Go.Proofs.YthlinhconnmbcaaGreat
open Go.RowKit RQ GE
set_option linter.unusedVariables false
theorem wfM_of {K:List Ro} {m:Nat} (h:∀ r∈K,r.n=m) (h1:1≤m) (h2:m≤96) (h3:K.length≤96):wfM K=true:=by
 unfold wfM;rw[Bool.and_eq_true];refine⟨decide_eq_true h3,List.all_eq_true.2 fun r hr=>?_⟩
 have hc:colM K=m:=by
  match K,hr with
  | s::_,_=>exact h s List.mem_cons_self
 unfold rowM;rw[hc,h r hr]
 simp[h1,h2]
theorem colM_of {K:List Ro} {m:Nat} (h:∀ r∈K,r.n=m) (h0:0<K.length):colM K=m:=by
 match K,h0 with
 | s::_,_=>exact h s List.mem_cons_self
end Go.Proofs.YthlinhconnmbcaaGreat
namespace Go.Proofs.YthlinhconnmbcaaGreat
open Go.RowKit RQ GE
set_option linter.unusedVariables false
def szChk (n k a d:Nat):Bool:=decide (d*k+a+d<1000000)&&decide ((zA (d*k+a) (n-1)).1≤1000000)&&decide ((zA (d*k+a) (n-1)).2.1≤1000000)&&decide (n*(d*k)<1000000)&&tzB (zA (d*k+a) (n-1)).1 (zA (d*k+a) (n-1)).2.1 n
theorem sz_of {n k a d:Nat} (h:szChk n k a d=true):SzE n k a d∧SzT n k a d:=by
 unfold szChk at h;simp only[Bool.and_eq_true,decide_eq_true_eq] at h;exact⟨⟨h.1.1.1.1,⟨h.1.1.1.2,h.1.1.2⟩,h.1.2⟩,tzO_of h.2⟩
theorem sz_tab:((List.range 5).all fun n=>(List.range 9).all fun k=>szChk n k 2 2)=true:=by kernel_rfl
theorem sz22 {n k:Nat} (hn:n≤4) (hk:k≤8):SzE n k 2 2∧SzT n k 2 2:=
 sz_of (List.all_eq_true.1 (List.all_eq_true.1 sz_tab n (List.mem_range.2 (by omega))) k (List.mem_range.2 (by omega)))
section
variable {M:List Ro} {A:Option Addr} {n c:Nat}
structure Sml (M:List Ro) (n:Nat):Prop where
 hm:∀ r∈M,r.n≤9223372036854775807
 hn:n≤4
 ka:∀ r∈M,∀ x∈r.L,Rk x.b x.n x.x x.m x.y x.q
 rs:∀ r∈M,∀ x∈r.L,Rs x.q 2
 s2:∀ r∈M,∀ x∈r.L,S2 2 2 x.q
 k4:wfM M=true→colM M≤4
 rl:∀ r∈M,r.L.length=r.n
 ml:M.length=n
theorem Sml.rct (s:Sml M n) (hw:wfM M=true):GE.rct (colM M) (qM M)∧(qM M).length=n:=⟨fun q hq=>by
 obtain⟨r,hr,rfl⟩:=List.mem_map.1 hq;rw[List.length_map,s.rl r hr];exact (wf_row hw hr).2.2,by unfold qM;rw[List.length_map];exact s.ml⟩
end
end Go.Proofs.YthlinhconnmbcaaGreat
namespace Go.Proofs.YthlinhconnmbcaaGreat
open Go.RowKit RQ GE
set_option linter.unusedVariables false
theorem negT {x:Rt} {W:World} (hx:x.can) (hx':x.raw W):Calls Tryz.prog 56 #[.agg #[.bool x.b,.slice x.A x.n x.c,.slice x.D x.m x.d]] W (RetR (-x.q) W):=negW _ _ _ _ _ _ _ _ _ _ W (hx'.at_ (can_k hx hx'))
def nst (k c:Nat) (f:Nat→Rat) (ps:List Nat):Nat→List Rat
 | 0=>(List.replicate k 0).set c 1
 | i+1=>(nst k c f ps i).set (ps.getD i 0) (-(f i))
def nullQ (k:Nat) (R:List (List Rat)) (ps:List Nat):List (List Rat):=(freeL k ps).map fun c=>nst k c (fun i=>el R i c) ps ps.length
theorem nst_congr {k c:Nat} {f g:Nat→Rat} {ps:List Nat}:∀ {i:Nat},(∀ j<i,f j=g j)→nst k c f ps i=nst k c g ps i
 | 0,_=>rfl
 | i+1,h=>by
  show (nst k c f ps i).set _ _=(nst k c g ps i).set _ _
  rw[nst_congr (fun j hj=>h j (by omega)),h i (by omega)]
theorem pnull_any (M:List Ro) (A:Option Addr) (n c:Nat) (w:World) (h:Mr w A n c M) (hm:∀ r∈M,r.n≤9223372036854775807) (hn:n≤9223372036854775807) (hw:wfM M=true) (ka:∀ r∈M,∀ x∈r.L,Rk x.b x.n x.x x.m x.y x.q) (a d:Nat) (hs:∀ r∈M,∀ x∈r.L,S2 a d x.q) (hz:SzE n (colM M) a d) (hT:SzT n (colM M) a d):Calls Tryz.prog 23 #[.slice A n c] w (RetMX 0 (nullQ (colM M) (red (colM M) (qM M)).M (red (colM M) (qM M)).p) w):=by
 obtain⟨hr,hq,hk,h0,hn96,hk96⟩:=wf_rct h hw;have hF:=fun W h'=>wf_any M A n c W h' hm hn
 rw[hw] at hF;have hC:=Lib.hid (fun W h'=>cols_any M A n c W h')
 have hE:=Lib.hid (fun W (h':Mr W A n c M)=>elim_any M A n c (colM M) W h' hk rfl ka a d hs (by omega) (by omega) hz.s1 hz.s2 hz.s3)
 obtain⟨k,hkk⟩:∃ k,k=colM M:=⟨_,rfl⟩;obtain⟨Q,hQ⟩:∃ Q,Q=qM M:=⟨_,rfl⟩;have hQs:=qM_s2 hs;simp only[←hkk,←hQ] at hE hC hr hq h0 hk96 hz hQs hT ⊢;obtain⟨S,hS⟩:∃ S,S=(brun k 0 ⟨wh Q,[],pr (rsc Q) n⟩ 1).1:=⟨_,rfl⟩;obtain⟨l,hl⟩:∃ l,l=(brun k 0 ⟨wh Q,[],pr (rsc Q) n⟩ 1).2:=⟨_,rfl⟩;have hbr:brun k 0 ⟨wh Q,[],pr (rsc Q) n⟩ 1=(S,l):=by rw[hS,hl]
 rw[←hS,←hl] at hE;obtain⟨e1,e2,e3,e4,e5,e6,e7⟩:=el_all hq hr h0 hQs hbr;have htm:=(elim_red hq hr hbr).2.2.2;have hfin:nullQ k (red k Q).M (red k Q).p=(freeL k S.p).map fun c=>nst k c (fun i=>tmf S.M S.p l c S.p.length i / l) S.p S.p.length:=by
  unfold nullQ;rw[←e6];refine List.map_congr_left fun c hc=>nst_congr fun i hi=>?_
  obtain⟨h1,h2⟩:=freeL_mem.1 hc;exact htm c h1 h2 i hi
 rw[hfin];have hR:=Lib.hid (fun W gE gR K P pc A1 n1 c1 D1 m1 d1 c (hW:Env W gE gR n k K P pc S.p l A1 n1 c1 D1 m1 d1) (hK:qM K=S.M) (hc:c<k)=>by
  have h1:=redcol_any hW e4 e3 (fun _=>hc) (by omega) (by omega) (by rw[hK];exact e1) e2 hz.s2 (hT.mono e4)
  rw[hK] at h1;exact h1)
 have hFr:=Lib.hid (fun W gE gR K P pc A1 n1 c1 D1 m1 d1 (hW:Env W gE gR n k K P pc S.p l A1 n1 c1 D1 m1 d1)=>by
  have hc1:colM K=k:=by
   match K,hW.mr.len with
   | [],h1=>exact (h0 h1.symm).symm
   | r::_,_=>exact hW.rk r List.mem_cons_self
  have h1:=free_any K gE gR n S.p.length pc P S.p W hW.lt hW.e0 hW.e1 hW.mr hW.ir (by omega) (by rw[hc1];omega)
  rw[hc1] at h1;exact h1)
 have hmk:=make_rat k (by omega)
 obtain⟨f1,hf1⟩:∃ q:Rat,q=1:=⟨_,rfl⟩;have hFI:Hid (∀ W,Calls Tryz.prog 49 #[.int .i64 1] W (RetR f1 W)):=Lib.hid (fun W=>by rw[hf1];exact fromIntR_any 1 W (by decide) (by decide))
 have rs1:Hid (Rs f1 9000000):=Lib.hid (by rw[hf1];exact S2.rs (S2.one (a:=1) (d:=1)) (by decide) (by decide))
 have hk9:k≤96:=hk96;have hn9:n≤96:=hn96;obtain⟨ff,hff⟩:∃ f:Nat→Nat→Rat,f=fun c i=>tmf S.M S.p l c S.p.length i / l:=⟨_,rfl⟩
 rw[show (fun c=>nst k c (fun i=>tmf S.M S.p l c S.p.length i / l) S.p S.p.length)=fun c=>nst k c (ff c) S.p S.p.length by rw[hff]]
 have hp9:S.p.length≤96:=by omega
 replace hff:=Lib.hid hff;replace hT:=Lib.hid hT;replace hf1:=Lib.hid hf1;clear hfin htm;replace h:=Lib.hid h;replace hF:=Lib.hid hF;replace hz:=Lib.hid hz;replace e1:=Lib.hid e1;replace e2:=Lib.hid e2;replace e3:=Lib.hid e3;replace e4:=Lib.hid e4;replace e5:=Lib.hid e5;replace e6:=Lib.hid e6;replace e7:=Lib.hid e7;replace hbr:=Lib.hid hbr;replace hr:=Lib.hid hr;replace hq:=Lib.hid hq;replace h0:=Lib.hid h0
 replace hn96:=Lib.hid hn96;replace hk96:=Lib.hid hk96;clear hm hn hw ka hs hk hkk hQ hS hl hQs;go_enter Tryz.func23,Tryz.ntmps23
 go_wp2_with fail
 refine (hF.out _ h.out).mono ?_
 rintro e w1 ⟨rfl,bb⟩;replace h:=Lib.hid (h.out.bel bb);have bw:=Lib.hid bb;clear bb;clear hF
 go_wp2_with fail
 refine (hE.out _ h.out).mono ?_
 rintro e w2 ⟨gR,K,P,pc,A1,n1,c1,D1,m1,d1,A2,n2,c2,D2,m2,d2,rfl,hm2,hk2,hq2,hi2,x1,x2,b2⟩;unfold ecE;replace bw:=Lib.hid (bw.out.trans (b2.mono bw.out.size));replace h:=Lib.hid (h.out.bel b2);go_upto_region 4 with fail
 obtain⟨gF,hgF⟩:∃ g,g=w2.heap.size:=⟨_,rfl⟩;obtain⟨V,hV⟩:∃ W,W=w2.alloc (.cells #[.slice (some ⟨gR,0,none⟩) n n,.slice P S.p.length pc,.bool (ng l.num),.slice A1 n1 c1,.slice D1 m1 d1,.bool (ng S.f.num),.slice A2 n2 c2,.slice D2 m2 d2] 73):=⟨_,rfl⟩;have B2:Below w2.heap.size w2 V:=by rw[hV];exact (Below.refl _ _).alloc (Nat.le_refl _) _
 have hcb:Cb V gF (ecE gR n P S.p.length pc l A1 n1 c1 D1 m1 d1 S.f A2 n2 c2 D2 m2 d2) 73:=by rw[hV,hgF];exact Cb.new _ _ _
 have hEV:=Lib.hid (ec_env hcb (hm2.bel B2) hk2 (hi2.bel B2) (x1.below B2));rw[←hgF,←hV];replace bw:=Lib.hid (bw.out.trans (B2.mono bw.out.size));replace h:=Lib.hid (h.out.bel B2);have hFx:=Lib.hid (hFr.out V gF gR K P pc A1 n1 c1 D1 m1 d1 hEV.out);have hq2h:=Lib.hid hq2;clear hV hgF hm2 hi2 x1 x2 b2 B2 hcb hE hFr hq2;obtain⟨q,hqq⟩:∃ q,q=(freeL k S.p).length:=⟨_,rfl⟩;have hq9:q≤96:=by have:=freeL_le k S.p;omega
 rw[←hqq] at hFx;replace hqq:=Lib.hid hqq
 go_wp2_with fail
 refine hFx.out.mono ?_
 rintro e V1 ⟨AF,cF,rfl,hI,bb⟩;replace hEV:=Lib.hid (hEV.out.bel bb);replace h:=Lib.hid (h.out.bel bb);replace bw:=Lib.hid (bw.out.trans (bb.mono bw.out.size));have hIF:=Lib.hid hI;have S0:=Lib.hid (St.new V1);clear bb hI hFx;go_wp2
 go_loopw [5,18] (fun ov uv wr=>∃ (u:Nat) (K:List Ro) (bs:List Bk) (rs:List Rdg),u≤q∧uv=.int .i64 u∧K.length=u∧Apd V1 wr bs rs 46 1 ov u (K.map Ro.v)∧(∀ r∈K,r.In bs rs)∧canM K∧qM K=((freeL k S.p).take u).map fun c=>nst k c (ff c) S.p S.p.length) (fun _ uv _=>q-(intOf uv).toNat)
 case atStart=>exact⟨0,[],[],[],Nat.zero_le _,rfl,rfl,Apd.nil_ S0.out _ _,fun x hx=>(by cases hx),fun x hx=>(by cases hx),rfl⟩
 case round=>
  clear S0;obtain⟨u,K,bs,rs,huq,rfl,hK,AP,hIn,hcan,hqK⟩:=hrel;rename World=>V2
  by_cases hlt:u<q
  ·have huh:=Lib.hid hlt
   have g1:(u:Int)<(q:Int):=by omega
   have g2:(0:Int)≤(u:Int):=by omega
   have hst:=AP.st.bel;obtain⟨bF,oF,c0,hFA,hc1,fc0⟩:=(hIF.out.bel hst).get hlt;subst hFA;have hck:c0<k:=(freeL_mem.1 (List.mem_of_getElem? hc1)).1;have g3:(c0:Int)<(k:Int):=by omega
   have g4:(0:Int)≤(c0:Int):=by omega
   have hCx:=Lib.hid (hC.out V2 (h.out.bel hst));have hqn:Hid (((freeL k S.p).take u).map (fun c=>nst k c (ff c) S.p S.p.length)++[nst k c0 (ff c0) S.p S.p.length]=((freeL k S.p).take (u+1)).map fun c=>nst k c (ff c) S.p S.p.length):=Lib.hid (by
    rw[List.take_add_one,hc1,List.map_append];rfl)
   obtain⟨ob,hob,So⟩:=AP.open_;replace hob:=Lib.hid hob;replace So:=Lib.hid So;replace hIn:=Lib.hid hIn;replace hcan:=Lib.hid hcan;replace hqK:=Lib.hid hqK;replace hK:=Lib.hid hK;have hckh:=Lib.hid hck;clear AP hst hc1 hlt huq hck
   go_wp2_with fail
   refine hCx.out.mono ?_
   rintro e V3 ⟨rfl,bb⟩;have SE:=Lib.hid (((So.out.call bb).allocAt V3.heap.size (csE (List.replicate k Zt)).toArray 33 (NoLl.csE _).arr rfl).read (show Rd _ none 0 0 [] from Rd.nil_ _ _ _))
   clear bb So hCx fc0;go_upto_region 9 with fail
   obtain⟨gN,hgN⟩:∃ g,g=V3.heap.size:=⟨_,rfl⟩;obtain⟨V4,hV4⟩:∃ W,W=V3.alloc (.cells (csE (List.replicate k Zt)).toArray 33):=⟨_,rfl⟩;rw[←hgN,←hV4] at SE ⊢;clear hgN hV4
   go_wp2_with fail
   refine (hFI.out _).mono ?_
   rintro e V5 ⟨A9,n9,c9,D9,m9,d9,rfl,X9,bb⟩;have SE1:=((SE.out.call bb).read X9.n).read X9.d;have hZi:(List.replicate k Zt)[c0]?=some Zt:=by rw[List.getElem?_replicate,if_pos hckh.out]
   obtain⟨⟨k0,k1,k2⟩,f0⟩:=St_lcl SE1 hZi;have f2:=f0 (c0*3);have f3:=f0 (c0*3+1);have f4:=f0 (c0*3+2);have SE2:=Lib.hid (St_lset SE1 c0 (Rt.of A9 n9 c9 D9 m9 d9 f1));clear SE SE1 hZi f0 bb X9;go_upto_region 10 with fail
   clear k0 k1 k2 f2 f3 f4;obtain⟨V6,hV6⟩:∃ W,W=((V5.setCell ⟨gN,c0*3,none⟩ (.bool (ng f1.num))).setCell ⟨gN,c0*3+1,none⟩ (.slice A9 n9 c9)).setCell ⟨gN,c0*3+2,none⟩ (.slice D9 m9 d9):=⟨_,rfl⟩
   change Hid (St V1 (((V5.setCell ⟨gN,c0*3,none⟩ (.bool (ng f1.num))).setCell ⟨gN,c0*3+1,none⟩ (.slice A9 n9 c9)).setCell ⟨gN,c0*3+2,none⟩ (.slice D9 m9 d9)) _ _) at SE2
   rw[←hV6] at SE2 ⊢;clear hV6;obtain⟨E0,hE0⟩:∃ U,U=(List.replicate k Zt).set c0 (Rt.of A9 n9 c9 D9 m9 d9 f1):=⟨_,rfl⟩;obtain⟨rs2,hrs2⟩:∃ r,r=(D9,m9,d9,dn f1)::(A9,n9,c9,limbs f1.num.natAbs)::(none,0,0,[])::rs:=⟨_,rfl⟩;rw[←hE0,←hrs2] at SE2;have hE1:Hid (E0.length=k∧(∀ x∈E0,x.can∧x.rdIn rs2)∧E0.map (·.q)=nst k c0 (ff c0) S.p 0):=Lib.hid ⟨by rw[hE0,List.length_set,List.length_replicate],fun x hx=>by
    rw[hE0] at hx;rw[hrs2]
    rcases List.mem_or_eq_of_mem_set hx with hx | rfl
    ·obtain rfl:=(List.mem_replicate.1 hx).2
     exact⟨Zt_can,by simp[Zt],by simp[Zt]⟩
    ·exact⟨Rt.of_can _ _ _ _ _ _ rs1.out,List.mem_cons_of_mem _ List.mem_cons_self,List.mem_cons_self⟩,by
    rw[hE0,List.map_set,List.map_replicate]
    show (List.replicate k 0).set c0 f1=(List.replicate k 0).set c0 1
    rw[hf1.out]⟩
   have hrsub:Hid (∀ z∈rs,z∈rs2):=Lib.hid fun z hz=>by rw[hrs2];exact List.mem_cons_of_mem _ (List.mem_cons_of_mem _ (List.mem_cons_of_mem _ hz))
   have hRx:=Lib.hid (hR.out V6 gF gR _ P pc A1 n1 c1 D1 m1 d1 c0 (hEV.out.bel SE2.out.bel) hq2h.out hckh.out);clear hE0 hrs2
   go_wp2_with fail
   refine hRx.out.mono ?_
   rintro e V7 ⟨gC,L,rfl,⟨hg,hcb⟩,hL,hx,hLq,bb⟩;have SL:=Lib.hid ((St_rds (St_own SE2.out bb hg hcb (NoLl.csE _).arr) (fun x h=>(hx x h).2)).swap)
   have hxc:Hid (∀ x∈L,x.can):=Lib.hid fun x h=>(hx x h).1
   replace hL:=Lib.hid hL;replace hLq:=Lib.hid hLq;clear SE2 hg hcb hx bb hRx;go_wp2
   go_loopw [32] (fun iv wr=>∃ (i:Nat) (E:List Rt) (rs':List Rdg),i≤S.p.length∧iv=.int .i64 i∧St V1 wr ((gN,(csE E).toArray,33)::(gC,(csE L).toArray,33)::(bs++ob)) rs'∧E.length=k∧(∀ x∈E,x.can∧x.rdIn rs')∧E.map (·.q)=nst k c0 (ff c0) S.p i∧∀ z∈rdsOf L++rs2,z∈rs') (fun iv _=>S.p.length-(intOf iv).toNat)
   case atStart=>exact⟨0,E0,_,Nat.zero_le _,rfl,SL.out,hE1.out.1,fun x hx=>⟨(hE1.out.2.1 x hx).1,List.mem_append_right _ (hE1.out.2.1 x hx).2.1,List.mem_append_right _ (hE1.out.2.1 x hx).2.2⟩,hE1.out.2.2,fun z hz=>hz⟩
   case round=>
    clear SL hE1;obtain⟨i,E,rs',hip,rfl,T,hEl,hEc,hEq,hrs'⟩:=hrel;rename World=>V8
    by_cases hli:i<S.p.length
    ·have g6:(i:Int)<(S.p.length:Int):=by omega
     have g7:(0:Int)≤(i:Int):=by omega
     obtain⟨bP,oP,pk,hPA,hp1,pc0⟩:=(hEV.out.bel T.bel).ir.get hli;subst hPA;have hpk:pk<k:=e3.out pk (List.mem_of_getElem? hp1);have hpg:Hid (S.p.getD i 0=pk):=Lib.hid (by rw[List.getD_eq_getElem?_getD,hp1];rfl)
     have g8:(pk:Int)<(k:Int):=by omega
     have g9:(0:Int)≤(pk:Int):=by omega
     obtain⟨x,hLi⟩:∃ y,L[i]?=some y:=⟨L[i]'(by rw[hL.out];exact hli),List.getElem?_eq_getElem _⟩
     have xm:=List.mem_of_getElem? hLi;have xq:Hid (x.q=ff c0 i):=Lib.hid (by
      have h1:=el_at hLq.out hLi;rw[←h1,List.getD_eq_getElem?_getD,List.getElem?_map,List.getElem?_range hli,hff.out];rfl)
     have xin:=rdsOf_in (rs:=rs2) xm;have xr:x.raw V8:=⟨T.rd _ (hrs' _ xin.1),T.rd _ (hrs' _ xin.2)⟩;obtain⟨⟨x0,x1,x2⟩,_⟩:=St_lcl T.swap hLi;obtain⟨y,hEk⟩:∃ y,E[pk]?=some y:=⟨E[pk]'(by rw[hEl];exact hpk),List.getElem?_eq_getElem _⟩
     have xc:=hxc.out x xm;obtain⟨q1,hq1⟩:∃ q,q = -x.q:=⟨_,rfl⟩;have rq1:Hid (Rs q1 9000000):=Lib.hid (by rw[hq1];exact xc.2.2.2.neg)
     have e1h:V8.cell? ⟨gF,1,none⟩=some (.slice (some ⟨bP,oP,none⟩) S.p.length pc):=(hEV.out.bel T.bel).e1;have hih:=Lib.hid hli;replace e1h:=Lib.hid e1h;replace pc0:=Lib.hid pc0;replace T:=Lib.hid T;replace hEl:=Lib.hid hEl;replace hEc:=Lib.hid hEc;replace hEq:=Lib.hid hEq;replace hEk:=Lib.hid hEk;replace hrs':=Lib.hid hrs';replace xr:=Lib.hid xr;replace xc:=Lib.hid xc;replace hq1:=Lib.hid hq1;clear hli hip hp1 hpk hLi xm xin
     go_upto_region 13 with fail
     obtain⟨gX,hgX⟩:∃ g,g=V8.heap.size:=⟨_,rfl⟩;obtain⟨V9,hV9⟩:∃ W,W=V8.alloc (.cells #[.bool x.b,.slice x.A x.n x.c,.slice x.D x.m x.d] 33):=⟨_,rfl⟩;have B9:Below V8.heap.size V8 V9:=by rw[hV9];exact (Below.refl _ _).alloc (Nat.le_refl _) _
     have hCX:Cb V9 gX #[.bool x.b,.slice x.A x.n x.c,.slice x.D x.m x.d] 33:=by rw[hV9,hgX];exact Cb.new _ _ _
     rw[←hV9,←hgX];have c0_:=Lib.hid (hCX.cell (i:=0) rfl);have c1_:=Lib.hid (hCX.cell (i:=1) rfl);have c2_:=Lib.hid (hCX.cell (i:=2) rfl);replace e1h:=Lib.hid (bel_cell B9 e1h.out);replace pc0:=Lib.hid (bel_cell B9 pc0.out);replace T:=Lib.hid (T.out.call B9);have hNg:Hid (∀ W,Below V9.heap.size V9 W→Calls Tryz.prog 56 #[.agg #[.bool x.b,.slice x.A x.n x.c,.slice x.D x.m x.d]] W (RetR q1 W)):=Lib.hid fun W hW=>by rw[hq1.out];exact negT xc.out ((xr.out.bel B9).bel hW)
     clear hV9 hgX hCX B9 x0 x1 x2 xr xc;refine Wl.start (fun W=>Below V9.heap.size V9 W) [9] rfl ?_
     have hS:Below V9.heap.size V9 V9.drew:=(Below.refl _ _).drew;refine Wl.t (i:=0) (v:=.slice (some ⟨gN,0,none⟩) k k) (some 37) at0 (hy:=fun _ _=>by kernel_rfl) (hS:=hS) (h:=?_)
     refine Wl.t (i:=1) (v:=.pointer (some ⟨gF,1,none⟩)) (some 38) at1 (hy:=fun _ _=>by go_simp) (hS:=hS) (h:=?_)
     refine Wl.t (i:=2) (v:=.slice (some ⟨bP,oP,none⟩) S.p.length pc) (some 39) at2 (hy:=fun W hS=>by (have k0:=bel_cell hS e1h.out;clear hS;go_simp)) (hS:=hS) (h:=?_)
     refine Wl.t (i:=3) (v:=.int .i64 i) (some 40) at3 (hy:=fun _ _=>by kernel_rfl) (hS:=hS) (h:=?_)
     refine Wl.t (i:=4) (v:=.pointer (some ⟨bP,oP+i,none⟩)) (some 41) at4 (hy:=fun _ _=>by go_simp) (hS:=hS) (h:=?_)
     refine Wl.t (i:=5) (v:=.int .i64 pk) (some 42) at5 (hy:=fun W hS=>by (have k0:=bel_cell hS pc0.out;clear hS;go_simp)) (hS:=hS) (h:=?_)
     refine Wl.t (i:=6) (v:=.agg #[.bool x.b,.slice x.A x.n x.c,.slice x.D x.m x.d]) (some 43) at6 (hy:=fun W hS=>by (have k0:=bel_cell hS c0_.out;have k1:=bel_cell hS c1_.out;have k2:=bel_cell hS c2_.out;clear hS;go_simp)) (hS:=hS) (h:=?_)
     try simp only[Act.put,sZ0,sZ1,sZ2]
     refine Wl.g (i:=7) at7 (by kernel_rfl) (by kernel_rfl) fun K' hK=>?_
     refine oper_call (f:=56) (args:=#[.agg #[.bool x.b,.slice x.A x.n x.c,.slice x.D x.m x.d]]) rfl (by kernel_rfl) ((hNg.out _ hS).mono ?_)
     rintro e Va ⟨A8,n8,c8,D8,m8,d8,rfl,X8,bb⟩;have hSa:=hS.trans (bb.mono hS.size);refine⟨_,rfl,hK.out _ _ hSa ?_⟩
     clear hK K' hS bb
     try simp only[Act.put,sZ0,sZ1,sZ2]
     refine Wl.t (i:=8) (v:=.pointer (some ⟨gN,pk*3,none⟩)) (some 45) at8 (hy:=fun _ _=>by go_simp) (hS:=hSa) (h:=?_)
     have S3:=(((T.out.call hSa).read X8.n).read X8.d);obtain⟨⟨k0,k1,k2⟩,f0⟩:=St_lcl S3 hEk.out;have f2:=f0 (pk*3);have f3:=f0 (pk*3+1);have f4:=f0 (pk*3+2);obtain⟨Vb,hVb,T⟩:∃ W,W=((Va.setCell ⟨gN,pk*3,none⟩ (.bool (ng q1.num))).setCell ⟨gN,pk*3+1,none⟩ (.slice A8 n8 c8)).setCell ⟨gN,pk*3+2,none⟩ (.slice D8 m8 d8)∧Hid (St V1 W ((gN,(csE (E.set pk (Rt.of A8 n8 c8 D8 m8 d8 q1))).toArray,33)::(gC,(csE L).toArray,33)::(bs++ob)) ((D8,m8,d8,dn q1)::(A8,n8,c8,limbs q1.num.natAbs)::rs')):=⟨_,rfl,Lib.hid (St_lset S3 pk (Rt.of A8 n8 c8 D8 m8 d8 q1))⟩
     clear f0
     try simp only[Act.put,sZ0,sZ1,sZ2]
     refine Wl.s (i:=9) at9 (by kernel_rfl) (by kernel_rfl) (by kernel_rfl) fun K' hK=>?_
     go_simp
     rw[←hVb];refine hK.out _ _ ?_
     clear hK K' k0 k1 k2 f2 f3 f4 hVb S3 X8 hSa hNg;refine Wl.done (by kernel_rfl) ?_
     clear e1h pc0 c0_ c1_ c2_ hEk;have hp1:=hih.out;go_wp2
     go_roundw
     case rel=>exact⟨i+1,E.set pk (Rt.of A8 n8 c8 D8 m8 d8 q1),_,by omega,by go_num,T.out,by rw[List.length_set];exact hEl.out,fun z hz=>(by rcases List.mem_or_eq_of_mem_set hz with hz | rfl;exact⟨(hEc.out z hz).1,List.mem_cons_of_mem _ (List.mem_cons_of_mem _ (hEc.out z hz).2.1),List.mem_cons_of_mem _ (List.mem_cons_of_mem _ (hEc.out z hz).2.2)⟩;exact⟨Rt.of_can _ _ _ _ _ _ rq1.out,List.mem_cons_of_mem _ List.mem_cons_self,List.mem_cons_self⟩),by rw[List.map_set,hEq.out];show _=(nst k c0 (ff c0) S.p i).set (S.p.getD i 0) (-(ff c0 i));rw[hpg.out,←xq.out,←hq1.out];rfl,fun z hz=>List.mem_cons_of_mem _ (List.mem_cons_of_mem _ (hrs'.out z hz))⟩
     case measure=>simp[intOf];omega
    ·have hpi:i=S.p.length:=by omega
     have hqf:E.map (·.q)=nst k c0 (ff c0) S.p S.p.length:=by rw[hEq,hpi]
     have T2:St V1 V8 (((gN,(csE E).toArray,33)::(gC,(csE L).toArray,33)::bs)++ob) rs':=T;have APo:=Apd.close hob.out T2;have APl:=APo.alloc #[.slice (some ⟨gN,0,none⟩) k k] 46 (noL1 _ _ _);have hcb1:=APl.st.cb 0 rfl;have hIr:Hid ((⟨some ⟨gN,0,none⟩,k,k,E⟩:Ro).In ((gN,(csE E).toArray,33)::(gC,(csE L).toArray,33)::bs) rs'):=Lib.hid ⟨hEl,.inr ⟨gN,(csE E).toArray,rfl,Nat.le_refl _,List.mem_cons_self,by
      show ((csE E).toArray.toList).take (k*3)=csE E
      rw[List.toList_toArray,List.take_of_length_le (by rw[csE_len,hEl];exact Nat.le_refl _)]⟩,fun x hx=>(hEc x hx).2⟩
     have hcn':=Lib.hid (fun x hx=>(hEc x hx).1)
     have hsub:Hid (∀ z∈rs,z∈rs'):=Lib.hid fun z hz=>hrs' z (List.mem_append_right _ (hrsub.out z hz))
     replace hqf:=Lib.hid hqf;clear T T2 hEc hEq hEl hrs' hip hob APo;have hul:=huh.out;have g6:¬ ((i:Int)<(S.p.length:Int)):=by omega
     clear hli hpi
     go_wp2_with (at_builtin;refine app_row rfl (.tmp 47) (.tmp 49) rfl rfl APl _ rfl hcb1 (by omega) ?_)
     clear APl hcb1;intro v' W' AP;replace AP:=Lib.hid AP;go_wp2
     go_roundw
     case rel=>exact⟨u+1,K++[⟨some ⟨gN,0,none⟩,k,k,E⟩],_,rs',by omega,by go_num,by rw[List.length_append,hK.out];rfl,by rw[List.map_append];exact AP.out.sub,In_app hIn.out (fun z hz=>List.mem_cons_of_mem _ (List.mem_cons_of_mem _ hz)) hsub.out hIr.out,canM_app hcan.out (by show k≤1000;omega) hcn'.out,by rw[qM_app,hqK.out];show _++[E.map (·.q)]=_;rw[hqf.out];exact hqn.out⟩
     case measure=>simp[intOf];omega
  ·obtain rfl:q=u:=by omega
   have hst:=AP.st.bel;rw[←hK] at AP;obtain⟨A7,c7,hv,M7⟩:=AP.mat hIn;subst hv;rw[List.take_of_length_le (by rw[hqq.out];exact Nat.le_refl _)] at hqK
   replace bw:=Lib.hid (bw.out.trans (hst.mono bw.out.size));replace M7:=Lib.hid M7;replace hqK:=Lib.hid hqK;replace hcan:=Lib.hid hcan;replace hK:=Lib.hid hK;clear AP hIn hlt huq hst;go_wp2
   go_ret2
   exact⟨A7,K.length,c7,K,rfl,M7.out,hcan.out,hqK.out,by rw[hK.out];omega,bw.out⟩
end Go.Proofs.YthlinhconnmbcaaGreat
namespace Go.Proofs.YthlinhconnmbcaaGreat
open Go.RowKit RQ GE
set_option linter.unusedVariables false
def pAt (ps:List Nat) (j a:Nat):Prop:=a≤ps.length∧(∀ t (h:t<ps.length),t<a→ps[t]<j)∧∀ t (h:t<ps.length),a≤t→j≤ps[t]
theorem pAt.mem {ps:List Nat} {j a:Nat} (h:pAt ps j a) (hs:ps.Pairwise (· < ·)):j∈ps↔ps[a]?=some j:=by
 constructor
 ·intro hm
  obtain⟨t,ht,e⟩:=List.getElem_of_mem hm;have h1:a≤t:=by
   rcases Nat.lt_or_ge t a with g | g
   ·have:=h.2.1 t ht g;omega
   ·exact g
  rcases Nat.lt_or_ge a t with g | g
  ·have h2:=h.2.2 a (by omega) (Nat.le_refl _)
   have h3:=List.pairwise_iff_getElem.1 hs a t (by omega) ht g
   omega
  ·obtain rfl:a=t:=by omega
   rw[List.getElem?_eq_getElem ht,e]
 ·intro e
  exact List.mem_of_getElem? e
theorem pAt.step {ps:List Nat} {j a:Nat} (h:pAt ps j a) (hs:ps.Pairwise (· < ·)):(ps[a]?=some j→pAt ps (j+1) (a+1))∧(ps[a]?≠some j→pAt ps (j+1) a):=by
 refine⟨fun e=>?_,fun e=>⟨h.1,fun t ht g=>Nat.lt_succ_of_lt (h.2.1 t ht g),fun t ht g=>?_⟩⟩
 ·obtain⟨ha,e⟩:=List.getElem?_eq_some_iff.1 e
  refine⟨ha,fun t ht g=>?_,fun t ht g=>?_⟩
  ·rcases Nat.lt_or_ge t a with g' | g'
   ·exact Nat.lt_succ_of_lt (h.2.1 t ht g')
   ·obtain rfl:t=a:=by omega
    omega
  ·have:=List.pairwise_iff_getElem.1 hs a t ha ht (by omega)
   omega
 ·have h1:=h.2.2 t ht g
  rcases Nat.lt_or_ge a t with g' | g'
  ·have h2:=h.2.2 a (by omega) (Nat.le_refl _)
   have h3:=List.pairwise_iff_getElem.1 hs a t (by omega) ht g'
   omega
  ·obtain rfl:a=t:=by omega
   rcases Nat.lt_or_ge j ps[a] with g2 | g2
   ·exact g2
   ·exact absurd (by rw[List.getElem?_eq_getElem ht];congr 1;omega) e
end Go.Proofs.YthlinhconnmbcaaGreat
namespace Go.Proofs.YthlinhconnmbcaaGreat
open Go.RowKit RQ GE
set_option linter.unusedVariables false
theorem Sr.one {W:World} {b o n c i:Nat} {L:List Rt} {x:Rt} (h:Sr W (some ⟨b,o,none⟩) n c L) (hi:L[i]?=some x):Sr W (some ⟨b,o+i*3,none⟩) 1 (c-i) [x]:=by
 have hin:i<n:=by rw[←h.len];exact (List.getElem?_eq_some_iff.1 hi).1
 have hc:=h.cap;refine⟨rfl,by omega,?_,fun r hr=>by rw[List.mem_singleton.1 hr];exact h.rd x (List.mem_of_getElem? hi)⟩
 rcases h.mem with h0 | ⟨b',o',hA,hlt,hc⟩
 ·omega
 ·right
  obtain⟨rfl,rfl⟩:b=b'∧o=o':=by simp only[Option.some.injEq,Addr.mk.injEq] at hA;exact⟨hA.1,hA.2.1⟩
  refine⟨b,o+i*3,rfl,hlt,fun j r hj=>?_⟩
  match j,hj with
  | 0,hj=>
   obtain rfl:=Option.some.inj hj;rw[Nat.zero_mul,Nat.add_zero];exact hc _ _ hi
end Go.Proofs.YthlinhconnmbcaaGreat
namespace GE
def Tw (m B:Nat) (q:Rat):Prop:=∃ z:Int,q*(m:Rat)=(z:Rat)∧z.natAbs≤B
theorem Tw.mono {m B C:Nat} {q:Rat} (h:Tw m B q) (hc:B≤C):Tw m C q:=by
 obtain⟨z,h1,h2⟩:=h;exact⟨z,h1,Nat.le_trans h2 hc⟩
theorem Tw.zero {m B:Nat}:Tw m B 0:=⟨0,by rw[Rat.zero_mul];rfl,Nat.zero_le _⟩
theorem Tw.add {m B C:Nat} {q r:Rat} (h:Tw m B q) (g:Tw m C r):Tw m (B+C) (q+r):=by
 obtain⟨z,h1,h2⟩:=h;obtain⟨y,g1,g2⟩:=g;refine⟨z+y,?_,Nat.le_trans (Int.natAbs_add_le z y) (by omega)⟩
 rw[Rat.add_mul,h1,g1,Rat.intCast_add]
theorem Tw.mul {m k B C:Nat} {q r:Rat} (h:Tw m B q) (g:Tw k C r):Tw (m*k) (B*C) (q*r):=by
 obtain⟨z,h1,h2⟩:=h;obtain⟨y,g1,g2⟩:=g;refine⟨z*y,?_,by rw[Int.natAbs_mul];exact Nat.mul_le_mul h2 g2⟩
 rw[Rat.intCast_mul,←h1,←g1,Rat.natCast_mul]
 grind
theorem Tw.sm {m B:Nat} {f:Nat→Rat}:∀ {n:Nat},(∀ i<n,Tw m B (f i))→Tw m (n*B) (sm f n)
 | 0,_=>by rw[Nat.zero_mul];exact Tw.zero
 | n+1,h=>by
  rw[Nat.add_mul,Nat.one_mul];exact (Tw.sm fun i hi=>h i (by omega)).add (h n (by omega))
theorem Tw.nd {m B:Nat} {q:Rat} (hm:1≤m) (h:Tw m B q):q.num.natAbs≤B∧q.den≤m:=by
 obtain⟨z,h1,h2⟩:=h;have h9:(q.den:Rat)≠0:=fun h=>q.den_nz (by exact_mod_cast h)
 have e0:q*(q.den:Rat)=(q.num:Rat):=by
  have h8:Rat.divInt q.num q.den=q:=Rat.num_divInt_den q;rw[Rat.divInt_eq_div] at h8;have h7:(q.num:Rat) / (q.den:Rat)=q:=h8
  grind
 have e1:(q.num:Rat)*(m:Rat)=(z:Rat)*(q.den:Rat):=by rw[←e0,←h1];grind
 have e2:q.num*(m:Int)=z*(q.den:Int):=by
  have:((q.num*(m:Int):Int):Rat)=((z*(q.den:Int):Int):Rat):=by
   rw[Rat.intCast_mul,Rat.intCast_mul];exact e1
  exact Rat.intCast_inj.1 this
 have e3:q.num.natAbs*m=z.natAbs*q.den:=by
  have:=congrArg Int.natAbs e2
  rwa [Int.natAbs_mul,Int.natAbs_mul,Int.natAbs_natCast,Int.natAbs_natCast] at this
 have d1:q.den∣m:=q.reduced.symm.dvd_of_dvd_mul_left ⟨z.natAbs,by rw[e3,Nat.mul_comm]⟩
 have d2:q.num.natAbs∣z.natAbs:=q.reduced.dvd_of_dvd_mul_right ⟨m,e3.symm⟩;refine⟨?_,Nat.le_of_dvd hm d1⟩
 rcases Nat.eq_zero_or_pos z.natAbs with h0 | h0
 ·rw[h0,Nat.zero_mul] at e3
  rcases Nat.mul_eq_zero.1 e3 with h | h<;>omega
 ·exact Nat.le_trans (Nat.le_of_dvd h0 d2) h2
theorem Tw.s2 {m B:Nat} {q:Rat} (hm:1≤m) (h:Tw m B q) (h1:B≤4294967296) (h2:m≤4294967296):S2 1 1 q:=by
 have:=h.nd hm;exact⟨by rw[Nat.pow_one];omega,by rw[Nat.pow_one];omega⟩
def mNum (v:Int):Rat:=Rat.divInt (v%61-30) (v.tdiv 61%4+1)
theorem tw_div {z:Int} {d:Int} (h:d=1∨d=2∨d=3∨d=4) (hz:z.natAbs≤30):Tw 12 360 (Rat.divInt z d):=by
 rcases h with rfl | rfl | rfl | rfl
 ·exact⟨z*12,by rw[Rat.divInt_eq_div,Rat.intCast_mul];grind,by omega⟩
 ·exact⟨z*6,by rw[Rat.divInt_eq_div,Rat.intCast_mul];grind,by omega⟩
 ·exact⟨z*4,by rw[Rat.divInt_eq_div,Rat.intCast_mul];grind,by omega⟩
 ·exact⟨z*3,by rw[Rat.divInt_eq_div,Rat.intCast_mul];grind,by omega⟩
theorem mNum_tw (v:Int):Tw 12 360 (mNum v):=tw_div (by omega) (by omega)
def mdF (k:Nat) (l:List Int) (i j:Nat):Rat:=mNum (l.getD (i*k+j) 0)
def mdQ (n k:Nat) (l:List Int):List (List Rat):=mk n k (mdF k l)
theorem mdF_tw {k:Nat} {l:List Int} {i j:Nat}:Tw 12 360 (mdF k l i j):=mNum_tw _
theorem rk_congr {n k:Nat} {A B:Nat→Nat→Rat} (h:∀ i<n,∀ j<k,A i j=B i j):rk n k A=rk n k B:=by
 unfold rk pv;rw[mk_congr h]
theorem mk_all {n k:Nat} {A:Nat→Nat→Rat} {P:Rat→Prop} (h:∀ i j,P (A i j)):∀ r∈mk n k A,∀ q∈r,P q:=by
 intro r hr q hq;unfold mk at hr;obtain⟨i,_,rfl⟩:=List.mem_map.1 hr;obtain⟨j,_,rfl⟩:=List.mem_map.1 hq;exact h i j
end GE
namespace Go.Proofs.YthlinhconnmbcaaGreat
open Go.RowKit RQ GE
set_option linter.unusedVariables false
theorem mmod_eq (k n:Int) (h0:0<n):k%n=if k.tmod n<0 then k.tmod n+n else k.tmod n:=by
 have e1:=Int.tmod_add_mul_tdiv k n;have l1:k.tmod n<n:=Int.tmod_lt_of_pos k h0;have l2 : -n<k.tmod n:=Int.lt_tmod_of_pos k h0
 split
 ·rename_i h
  have:k=(k.tmod n+n)+n*(k.tdiv n-1):=by rw[Int.mul_sub];omega
  conv=>lhs;rw[this]
  rw[Int.add_mul_emod_self_left];exact Int.emod_eq_of_lt (by omega) (by omega)
 ·rename_i h
  conv=>lhs;rw[←e1]
  rw[Int.add_mul_emod_self_left];exact Int.emod_eq_of_lt (by omega) l1
theorem mmod_any (k n:Int) (w:World) (h0:0<n) (h1:n≤100000):Calls Tryz.prog 28 #[.int .i64 k,.int .i64 n] w fun e w'=>e=.returned (.int .i64 (k%n))∧w'=w:=by
 rw[mmod_eq k n h0];have l1:k.tmod n<n:=Int.tmod_lt_of_pos k h0;have l2 : -n<k.tmod n:=Int.lt_tmod_of_pos k h0;have g0:¬ n=0:=by omega
 have w1:∀ m:Int,-n<m→m<0→wrap64 (m+n)=m+n:=fun m h2 h3=>by unfold wrap64;omega
 by_cases hm:k.tmod n<0
 ·rw[if_pos hm,←w1 _ l2 hm]
  clear w1 l1 l2;go_enter Tryz.func28,Tryz.ntmps28;go_wp2;go_ret;exact⟨rfl,rfl⟩
 ·rw[if_neg hm]
  clear w1 l1 l2;go_enter Tryz.func28,Tryz.ntmps28;go_wp2;go_ret;exact⟨rfl,rfl⟩
end Go.Proofs.YthlinhconnmbcaaGreat
namespace Go.Proofs.YthlinhconnmbcaaGreat
open Go.RowKit RQ
theorem res_rfrac (W:World) (tmps:Array Value) (g t:Nat) {v0 v1 v2:Value} (ht:tmps.getD 4 undef=.pointer (some ⟨g,0,none⟩)) (h:Cb W g #[v0,v1,v2] t) :
  (results Tryz.f58 tmps).run Tryz.prog W=.ok (.agg #[v0,v1,v2]) W:=by
 have c0:W.cell? ⟨g,0,none⟩=some v0:=h.cell rfl;have c1:W.cell? ⟨g,1,none⟩=some v1:=h.cell rfl;have c2:W.cell? ⟨g,2,none⟩=some v2:=h.cell rfl;have ht':tmps[4]?.getD undef=.pointer (some ⟨g,0,none⟩):=by rw[←ht];simp[Array.getD_eq_getD_getElem?]
 simp[results,Tryz.results58,go_sem,ht',c0,c1,c2]
theorem rfrac_any (u v:Int) (w:World) (h1 : -9223372036854775808≤u∧u≤9223372036854775807) (h2 : -9223372036854775808≤v∧v≤9223372036854775807) (hv:v≠0):Calls Tryz.prog 58 #[.int .i64 u,.int .i64 v] w (RetR (Rat.divInt u v) w):=by
 have hF1:=Lib.hid (fun W=>rfromInt_any u W h1.1 h1.2)
 have hF2:=Lib.hid (fun W=>rfromInt_any v W h2.1 h2.2)
 have lu:(limbs u.natAbs).length≤2:=limbs_len_le.2 (by omega)
 have lv:(limbs v.natAbs).length≤2:=limbs_len_le.2 (by omega)
 have hO:Hid (∀ W A n c A' n' c',Rd W A n c (limbs u.natAbs)→Rd W A' n' c' (limbs v.natAbs)→Calls Tryz.prog 45 #[.agg #[.bool (ng u),.slice A n c],.agg #[.bool (ng v),.slice A' n' c']] W (RetR (Rat.divInt u v) W)):=Lib.hid fun W A n c A' n' c' q1 q2=>rover_any u v A n c A' n' c' W q1 q2 (by rw[←q1.len];omega) (by rw[←q2.len];omega) hv
 generalize Rat.divInt u v=q at *;clear lu lv h1 h2 hv;have S:=((St.new w).allocAt (w.heap.size) #[.bool false,.slice none 0 0,.slice none 0 0] 33 (noL3 _ _ _ _ _ _ _) (by simp))
 replace S:=Lib.hid S;go_enter Tryz.func58,Tryz.ntmps58
 go_wp2_with fail
 refine (hF1.out _).mono ?_
 rintro e w1 ⟨A1,n1,c1,rfl,Q1,bb⟩;have T:=((S.out.call bb).read Q1);clear bb S;have S:=T;clear T;obtain⟨c_r0,c_r1,c_r2,f_r0,f_r1,f_r2⟩:=S.cf3 0 rfl;have hz:w.heap.size<w1.heap.size:=S.lt 0 rfl;replace S:=Lib.hid S;clear Q1 hF1
 go_wp2_with fail
 refine (hF2.out _).mono ?_
 rintro e w2 ⟨A2,n2,c2,rfl,Q2,bb⟩;have T:=((S.out.call bb).read Q2);clear bb S c_r0 f_r0 c_r1 f_r1 c_r2 f_r2 hz;have S:=T;clear T;obtain⟨c_r0,c_r1,c_r2,f_r0,f_r1,f_r2⟩:=S.cf3 0 rfl;have hz:w.heap.size<w2.heap.size:=S.lt 0 rfl;replace S:=Lib.hid S;clear Q2 hF2
 go_wp2_with fail
 refine (hO.out _ _ _ _ _ _ _ (S.out.r 1 rfl) (S.out.r 0 rfl)).mono ?_
 rintro e w3 ⟨A9,n9,c9,D9,m9,d9,rfl,Q9,bb⟩;have T:=(((S.out.call bb).read Q9.n).read Q9.d);clear bb S c_r0 f_r0 c_r1 f_r1 c_r2 f_r2 hz;have S:=T;clear T;obtain⟨c_r0,c_r1,c_r2,f_r0,f_r1,f_r2⟩:=S.cf3 0 rfl;have hz:w.heap.size<w3.heap.size:=S.lt 0 rfl;replace S:=Lib.hid S;clear Q9 hO;have S:St w _ [(w.heap.size,#[.bool (ng q.num),.slice A9 n9 c9,.slice D9 m9 d9],33)] [(D9,m9,d9,dn q),(A9,n9,c9,limbs q.num.natAbs),(A2,n2,c2,limbs v.natAbs),(A1,n1,c1,limbs u.natAbs)]:=(((S.out.set 0 0 (.bool (ng q.num)) rfl (by nofun)).set 0 1 (.slice A9 n9 c9) rfl (by nofun)).set 0 2 (.slice D9 m9 d9) rfl (by nofun))
 replace S:=Lib.hid S;go_wp2;refine bodyPost_ret (res_rfrac _ _ (w.heap.size) 33 rfl (S.out.bk _ (List.mem_of_getElem? (i:=0) rfl)).1) rfl ?_
 exact⟨_,_,_,_,_,_,rfl,⟨S.out.r 1 rfl,S.out.r 0 rfl⟩,S.out.bel⟩
end Go.Proofs.YthlinhconnmbcaaGreat
namespace Go.Proofs.YthlinhconnmbcaaGreat
open Go.RowKit RQ GE
set_option linter.unusedVariables false
theorem int_get {W:World} {A:Option Addr} {n i:Nat} {L:List Int} (h:LR intC W A n L) (hi:i<n):∃ b p,A=some ⟨b,p,none⟩∧W.cell? ⟨b,p+i,none⟩=some (.int .i64 (L.getD i 0)):=by
 obtain⟨b,p,x,hA,hx,_,_,hc⟩:=h.get hi;have:=hc 0 (.int .i64 x) rfl;refine⟨b,p,hA,?_⟩
 rw[List.getD_eq_getElem?_getD,hx]
 rw[show intC.sz=1 from rfl,Nat.mul_one,Nat.add_zero] at this
 exact this
theorem at_any (L:List Int) (A:Option Addr) (n c i:Nat) (w:World) (h:LR intC w A n L) (hi:i≤1000):Calls Tryz.prog 26 #[.slice A n c,.int .i64 i] w fun e w'=>e=.returned (.int .i64 (L.getD i 0))∧Below w.heap.size w w':=by
 have B:=Lib.hid (Below.refl w.heap.size w)
 by_cases hl:i<n
 ·obtain⟨b,p,rfl,hc⟩:=int_get h hl
  obtain⟨z,hz⟩:∃ z,z=L.getD i 0:=⟨_,rfl⟩;rw[←hz] at hc ⊢;have g1:(i:Int)<(n:Int):=by omega
  have g2:(0:Int)≤(i:Int):=by omega
  clear h hl hz;go_enter Tryz.func26,Tryz.ntmps26;go_wp2;go_ret;exact⟨rfl,B.out⟩
 ·have e:L.getD i 0=0:=by
   rw[List.getD_eq_getElem?_getD,List.getElem?_eq_none (by rw[h.len];omega)];rfl
  rw[e];have g1:¬ (i:Int)<(n:Int):=by omega
  clear h hl e;go_enter Tryz.func26,Tryz.ntmps26;go_wp2;go_ret;exact⟨rfl,B.out⟩
theorem res_num (W:World) (tmps:Array Value) (g t:Nat) {v0 v1 v2:Value} (ht:tmps.getD 2 undef=.pointer (some ⟨g,0,none⟩)) (h:Cb W g #[v0,v1,v2] t) :
  (results Tryz.f25 tmps).run Tryz.prog W=.ok (.agg #[v0,v1,v2]) W:=by
 have c0:W.cell? ⟨g,0,none⟩=some v0:=h.cell rfl;have c1:W.cell? ⟨g,1,none⟩=some v1:=h.cell rfl;have c2:W.cell? ⟨g,2,none⟩=some v2:=h.cell rfl;have ht':tmps[2]?.getD undef=.pointer (some ⟨g,0,none⟩):=by rw[←ht];simp[Array.getD_eq_getD_getElem?]
 simp[results,Tryz.results25,go_sem,ht',c0,c1,c2]
theorem num_any (v:Int) (w:World) (h1 : -9223372036854775808≤v∧v≤9223372036854775807):Calls Tryz.prog 25 #[.int .i64 v] w (RetR (mNum v) w):=by
 have hM1:=Lib.hid (fun W=>mmod_any v 61 W (by decide) (by decide))
 have hM2:=Lib.hid (fun W=>mmod_any (v.tdiv 61) 4 W (by decide) (by decide))
 have hw0:wrap64 (v.tdiv 61)=v.tdiv 61:=by
  have t1:=Int.tmod_add_mul_tdiv v 61;have t2:v.tmod 61<61:=Int.tmod_lt_of_pos v (by decide)
  have t3 : -61<v.tmod 61:=Int.lt_tmod_of_pos v (by decide)
  unfold wrap64;omega
 obtain⟨q,hq⟩:∃ q,q=v.tdiv 61:=⟨_,rfl⟩;have hQ:mNum v=Rat.divInt (v%61-30) (q%4+1):=by rw[hq];rfl
 have e1:v.tdiv 61=q:=hq.symm;rw[hQ];rw[←hq] at hM2 hw0;obtain⟨x,hx⟩:∃ x,x=v%61:=⟨_,rfl⟩;obtain⟨y,hy⟩:∃ y,y=q%4:=⟨_,rfl⟩;have x0:0≤x:=by omega
 have x1:x<61:=by omega
 have y0:0≤y:=by omega
 have y1:y<4:=by omega
 rw[←hx,←hy];rw[←hx] at hM1;rw[←hy] at hM2;have hF:=Lib.hid (fun W=>rfrac_any (x-30) (1+y) W (by omega) (by omega) (by omega))
 rw[show y+1=1+y from Int.add_comm _ _]
 have hw1:wrap64 (x-30)=x-30:=by unfold wrap64;omega
 have hw2:wrap64 (1+y)=1+y:=by unfold wrap64;omega
 generalize Rat.divInt (x-30) (1+y)=r at *;clear hx hy hq hQ x0 x1 y0 y1;have S:=((St.new w).allocAt (w.heap.size) #[.bool false,.slice none 0 0,.slice none 0 0] 33 (noL3 _ _ _ _ _ _ _) (by simp))
 replace S:=Lib.hid S;clear h1;go_enter Tryz.func25,Tryz.ntmps25
 go_wp2_with fail
 refine (hM1.out _).mono ?_
 rintro e w1 ⟨rfl,rfl⟩
 go_wp2_with fail
 refine (hM2.out _).mono ?_
 rintro e w1 ⟨rfl,rfl⟩
 go_wp2_with fail
 refine (hF.out _).mono ?_
 rintro e w3 ⟨A9,n9,c9,D9,m9,d9,rfl,Q9,bb⟩;have T:=(((S.out.call bb).read Q9.n).read Q9.d);clear bb S;have S:=T;clear T;obtain⟨c_r0,c_r1,c_r2,f_r0,f_r1,f_r2⟩:=S.cf3 0 rfl;have hz:w.heap.size<w3.heap.size:=S.lt 0 rfl;replace S:=Lib.hid S;clear Q9 hF hM1 hM2;have S:St w _ [(w.heap.size,#[.bool (ng r.num),.slice A9 n9 c9,.slice D9 m9 d9],33)] [(D9,m9,d9,dn r),(A9,n9,c9,limbs r.num.natAbs)]:=(((S.out.set 0 0 (.bool (ng r.num)) rfl (by nofun)).set 0 1 (.slice A9 n9 c9) rfl (by nofun)).set 0 2 (.slice D9 m9 d9) rfl (by nofun))
 replace S:=Lib.hid S;go_wp2;refine bodyPost_ret (res_num _ _ (w.heap.size) 33 rfl (S.out.bk _ (List.mem_of_getElem? (i:=0) rfl)).1) rfl ?_
 exact⟨_,_,_,_,_,_,rfl,⟨S.out.r 1 rfl,S.out.r 0 rfl⟩,S.out.bel⟩
end Go.Proofs.YthlinhconnmbcaaGreat
namespace Go.Proofs.YthlinhconnmbcaaGreat
open Go.RowKit RQ GE
set_option linter.unusedVariables false
theorem dq_sm (l l':List Rat):∀ i,dq l l' i=sm (fun t=>l.getD t 0*l'.getD t 0) i
 | 0=>rfl
 | i+1=>by
  show dq l l' i+_=sm _ i+_
  rw[dq_sm l l' i]
structure Gd (K:List Ro) (n k:Nat) (Q:List (List Rat)):Prop where
 len:K.length=n
 rn:∀ r∈K,r.n=k
 rl:∀ r∈K,r.L.length=k
 can:∀ r∈K,∀ x∈r.L,x.can
 q:qM K=Q
 hn:n≤8
 hk:k≤8
 hs:n=0→k=0
 h1:0<n→1≤k
section
variable {K N:List Ro} {n k m:Nat} {Q R:List (List Rat)} {A:Option Addr} {c:Nat} {w W:World}
theorem Gd.wf (g:Gd K n k Q):wfM K=true:=by
 rcases Nat.eq_zero_or_pos n with h | h
 ·have:K=[]:=List.length_eq_zero_iff.1 (g.len.trans h)
  subst this;rfl
 ·exact wfM_of g.rn (g.h1 h) (by have:=g.hk;omega) (by rw[g.len];have:=g.hn;omega)
theorem Gd.col (g:Gd K n k Q):colM K=k:=by
 rcases Nat.eq_zero_or_pos n with h | h
 ·have:K=[]:=List.length_eq_zero_iff.1 (g.len.trans h)
  subst this;exact (g.hs h).symm
 ·exact colM_of g.rn (by rw[g.len];exact h)
theorem Gd.qlen (g:Gd K n k Q):Q.length=n:=by rw[←g.q];unfold qM;rw[List.length_map];exact g.len
theorem Gd.rct (g:Gd K n k Q):rct k Q:=fun r hr=>by
 rw[←g.q] at hr;obtain⟨y,hy,rfl⟩:=List.mem_map.1 hr;rw[List.length_map];exact g.rl y hy
theorem Gd.big (g:Gd K n k Q):∀ r∈K,r.n≤9223372036854775807:=fun r hr=>by rw[g.rn r hr];have:=g.hk;omega
theorem Gd.nbig (g:Gd K n k Q):n≤9223372036854775807:=by have:=g.hn;omega
theorem Gd.rk (g:Gd K n k Q) (h:Mr W A n c K):∀ r∈K,∀ x∈r.L,Rk x.b x.n x.x x.m x.y x.q:=fun r hr x hx=>can_k (g.can r hr x hx) ((h.rd r hr).rd x hx)
theorem Gd.all {P:Rat→Prop} (g:Gd K n k Q) (h:∀ r∈Q,∀ q∈r,P q):∀ r∈K,∀ x∈r.L,P x.q:=qM_all (by rw[g.q];exact h)
theorem Gd.lt (g:Gd K n k Q) (h:Mr W A n c K) (hs:∀ r∈Q,∀ q∈r,Rs q 8000):ltM K:=fun r hr x hx=>⟨g.rk h r hr x hx,g.all hs r hr x hx⟩
theorem Gd.of {n':Nat} (h:Mr W A n' c K) (hc:canM K) (hq:qM K=Q) (hl:Q.length=n) (hr:GE.rct k Q) (hn:n≤8) (hk:k≤8) (hs:n=0→k=0) (h1:0<n→1≤k):n'=n∧Gd K n k Q:=by
 have e:K.length=n:=by rw[←hl,←hq];unfold qM;rw[List.length_map]
 have e2:∀ r∈K,r.L.length=k:=fun r hr'=>by
  have:=hr (r.L.map (·.q)) (by rw[←hq];exact List.mem_map_of_mem hr')
  rwa [List.length_map] at this
 exact⟨h.len.symm.trans e,e,fun r hr'=>((h.rd r hr').len.symm.trans (e2 r hr')),e2,fun r hr'=>(hc r hr').2,hq,hn,hk,hs,h1⟩
theorem qM_at (i:Nat):((K[i]?).map (fun r=>r.L.map (·.q))).getD []=(qM K).getD i []:=by
 unfold qM;rw[List.getD_eq_getElem?_getD,List.getElem?_map]
theorem s2_rs {q:Rat} {a p:Nat} (h:S2 a a q) (ha:a<p):Rs q p:=S2.rs h ha ha
def RetMk (n k:Nat) (Q:List (List Rat)) (w:World) (e:Ending) (w':World):Prop:=∃ A c K,e=.returned (.slice A n c)∧Mr w' A n c K∧Gd K n k Q∧Below w.heap.size w w'
def RetM0 (n k:Nat) (Q:List (List Rat)) (w:World) (e:Ending) (w':World):Prop:=∃ A c K,e=.returned (.tuple #[.slice A n c,.int .i64 0])∧Mr w' A n c K∧Gd K n k Q∧Below w.heap.size w w'
theorem RetM0.of {e:Ending} (h:RetME Q w e W) (hl:Q.length=n) (hr:GE.rct k Q) (hn:n≤8) (hk:k≤8) (hs:n=0→k=0) (h1:0<n→1≤k):RetM0 n k Q w e W:=by
 obtain⟨A,n',c,M,rfl,h2,h3,h4,h5⟩:=h;obtain⟨rfl,g⟩:=Gd.of h2 h3 h4 hl hr hn hk hs h1;exact⟨A,c,M,rfl,h2,g,h5⟩
theorem prank_g (g:Gd K n k Q) (hA:Mr W A n c K) {a d:Nat} (s:∀ r∈Q,∀ q∈r,S2 a d q) (hz:SzE n k a d):Calls Tryz.prog 12 #[.slice A n c] W (fun e w'=>e=.returned (.tuple #[.int .i64 (rk n k (el Q)),.int .i64 0])∧Below W.heap.size W w'):=by
 have:=prank_any K A n c W hA g.big g.nbig g.wf (g.rk hA) a d (g.all s) (by rw[g.col];exact hz)
 rw[g.col,g.q] at this;have e:rk n k (el Q)=(red k Q).p.length:=by unfold GE.rk pv;rw[mk_el g.qlen g.rct]
 rwa [e]
end
end Go.Proofs.YthlinhconnmbcaaGreat
namespace Go.Proofs.YthlinhconnmbcaaGreat
open Go.RowKit RQ GE
set_option linter.unusedVariables false
theorem mdQ_row {n k:Nat} {l:List Int} {K:List (List Rat)} (hl:K.length=n) (h:∀ i,i<n→K.getD i []=(List.range k).map fun j=>mNum (l.getD (i*k+j) 0)):K=mdQ n k l:=by
 unfold mdQ mk;refine List.ext_getElem? fun i=>?_
 rw[List.getElem?_map]
 rcases Nat.lt_or_ge i n with hi | hi
 ·rw[List.getElem?_range hi]
  have:=h i hi;rw[List.getD_eq_getElem?_getD,List.getElem?_eq_getElem (by omega)] at this
  rw[List.getElem?_eq_getElem (by omega)]
  simp only[Option.getD_some] at this;rw[this];rfl
 ·rw[List.getElem?_eq_none (by omega),List.getElem?_eq_none (by rw[List.length_range];exact hi)];rfl
theorem mNum_rs (v:Int):Rs (mNum v) 9000000:=(s2_rs (a:=1) (p:=2) ((mNum_tw v).s2 (by omega) (by omega) (by omega)) (by omega)).mono (by omega)
theorem made_any (n k:Nat) (L:List Int) (A0:Option Addr) (n0 c0:Nat) (w:World) (h:LR intC w A0 n0 L) (hv:∀ i,-9223372036854775808≤L.getD i 0∧L.getD i 0≤9223372036854775807) (hn:n≤8) (hk:k≤8) (hs:n=0→k=0) (h1:0<n→1≤k):Calls Tryz.prog 8 #[.int .i64 n,.int .i64 k,.slice A0 n0 c0] w (RetMk n k (mdQ n k L) w):=by
 have hrow:=Lib.hid (fun K (hK:K.length=n) h=>mdQ_row (k:=k) (l:=L) (K:=K) hK h)
 have hgd:=Lib.hid (fun (K:List Ro) (h1':K.length=n) (h2:∀ r∈K,r.n=k) (h3:∀ r∈K,r.L.length=k) (h4:∀ r∈K,∀ x∈r.L,x.can) (h5:qM K=mdQ n k L)=>(⟨h1',h2,h3,h4,h5,hn,hk,hs,h1⟩:Gd K n k (mdQ n k L)))
 have hAt:=Lib.hid (fun W (i:Nat) (hW:LR intC W A0 n0 L) (hi:i≤1000)=>at_any L A0 n0 c0 i W hW hi)
 have hNu:=Lib.hid (fun W (i:Nat)=>num_any (L.getD i 0) W (hv i))
 have S:=Lib.hid (St.new w);obtain⟨Q,hQ⟩:∃ Q,Q=mdQ n k L:=⟨_,rfl⟩;rw[←hQ] at hrow hgd ⊢;replace h:=Lib.hid h;have hbn:=Lib.hid hn;have hbk:=Lib.hid hk;clear hn hk hs h1 hv hQ;go_enter Tryz.func8,Tryz.ntmps8;go_wp2
 go_loopw [7,8] (fun ov iv wr=>∃ (i:Nat) (K:List Ro) (bs:List Bk) (rs:List Rdg),i≤n∧iv=.int .i64 i∧K.length=i∧Apd w wr bs rs 46 1 ov i (K.map Ro.v)∧(∀ r∈K,r.In bs rs)∧(∀ r∈K,r.n=k∧∀ x∈r.L,x.can)∧(∀ j,j<i→(qM K).getD j []=(List.range k).map fun t=>mNum (L.getD (j*k+t) 0))) (fun _ iv _=>n-(intOf iv).toNat)
 case atStart=>exact⟨0,[],[],[],Nat.zero_le _,rfl,rfl,Apd.nil_ S.out _ _,fun x hx=>(by cases hx),fun x hx=>(by cases hx),fun j hj=>absurd hj (Nat.not_lt_zero _)⟩
 case round=>
  clear S;obtain⟨i,K,bs,rs,hin,rfl,hK,AP,hIn,hcan,hq⟩:=hrel;rename World=>V0
  by_cases hlt:i<n
  ·have hih:=Lib.hid hlt
   have g1:(i:Int)<(n:Int):=by omega
   obtain⟨ob,hob,S⟩:=AP.opn;have AR0:=Lib.hid (Apd.nil_ S 33 3);have hb0:=Lib.hid (AP.st.bel);replace hob:=Lib.hid hob;replace hIn:=Lib.hid hIn;replace hcan:=Lib.hid hcan;replace hq:=Lib.hid hq;replace hK:=Lib.hid hK;clear hlt hin S AP;go_wp2
   go_loopw [9,10] (fun rv jv wr=>∃ (j:Nat) (E:List Rt) (rs':List Rdg),j≤k∧jv=.int .i64 j∧E.length=j∧Apd w wr (bs++ob) rs' 33 3 rv j (csE E)∧(∀ x∈E,x.can∧x.rdIn rs')∧E.map (·.q)=(List.range j).map (fun t=>mNum (L.getD (i*k+t) 0))∧(∀ p∈rs,p∈rs')) (fun _ jv _=>k-(intOf jv).toNat)
   case atStart=>exact⟨0,[],rs,Nat.zero_le _,rfl,rfl,AR0.out,fun x hx=>(by cases hx),rfl,fun p hp=>hp⟩
   case round=>
    clear AR0;obtain⟨j,E,rs',hjk,rfl,hE,AR,hcn,hqE,hsub⟩:=hrel;rename World=>V1
    by_cases hlj:j<k
    ·have g4:(j:Int)<(k:Int):=by omega
     have hjh:=Lib.hid hlj;have hm8:i*k≤64:=Nat.le_trans (Nat.mul_le_mul (show i≤8 by have:=hih.out;have:=hbn.out;omega) hbk.out) (by omega)
     obtain⟨m,hm⟩:∃ m:Nat,m=i*k:=⟨_,rfl⟩;have em:(i:Int)*(k:Int)=(m:Int):=by rw[hm,Int.natCast_mul]
     have ew:wrap64 (m:Int)=(m:Int):=by unfold wrap64;omega
     obtain⟨p,hp⟩:∃ p:Nat,p=m+j:=⟨_,rfl⟩;have ep:(m:Int)+(j:Int)=(p:Int):=by omega
     have ewp:wrap64 (p:Int)=(p:Int):=by have:=hbk.out;unfold wrap64;omega
     obtain⟨v,hv⟩:∃ v,v=L.getD p 0:=⟨_,rfl⟩;have hA1:=hAt.out V1 p (h.out.bel AR.st.bel) (by have:=hbk.out;omega)
     have hN1:=Lib.hid (fun W=>hNu.out W p)
     obtain⟨q1,hq1⟩:∃ q,q=mNum v:=⟨_,rfl⟩;rw[←hv] at hA1 hN1;rw[←hq1] at hN1;have hR1:Hid (Rs q1 9000000):=Lib.hid (by rw[hq1];exact mNum_rs v)
     have hnx:Hid ((List.range j).map (fun t=>mNum (L.getD (i*k+t) 0))++[q1]=(List.range (j+1)).map (fun t=>mNum (L.getD (i*k+t) 0))):=Lib.hid (by
      rw[List.range_succ,List.map_append,hq1,hv,hp,hm];rfl)
     replace hA1:=Lib.hid hA1;replace AR:=Lib.hid AR;replace hcn:=Lib.hid hcn;replace hqE:=Lib.hid hqE;replace hsub:=Lib.hid hsub;replace hE:=Lib.hid hE;clear hlj hjk hm8 hm hp hv hq1
     go_wp2_with fail
     refine hA1.out.mono ?_
     rintro e w2 ⟨rfl,bb⟩;replace AR:=Lib.hid (AR.out.call bb);clear bb hA1
     go_wp2_with fail
     refine (hN1.out _).mono ?_
     rintro e w3 ⟨A2,n2,c2,D2,m2,d2,rfl,Q2,bb⟩;have AP1:=(((AR.out.call bb).read Q2.n).read Q2.d).alloc #[.bool (ng q1.num),.slice A2 n2 c2,.slice D2 m2 d2] 33 (noL3 _ _ _ _ _ _ _);have hcb1:=AP1.st.cb 0 rfl;clear AR bb Q2 hN1 em ew ep ewp
     go_wp2_with (at_builtin;refine app_rat rfl (.tmp 21) (.tmp 30) rfl rfl AP1 _ rfl hcb1 (by have:=hjh.out;have:=hbk.out;omega) ?_)
     clear AP1 hcb1;intro v' W' AP;replace AP:=Lib.hid AP;have hlj:=hjh.out;have hbb:=hbk.out;go_wp2
     go_roundw
     case rel=>exact⟨j+1,E++[Rt.of A2 n2 c2 D2 m2 d2 q1],_,by omega,by go_num,by rw[List.length_append,hE.out];rfl,by rw[csE_app];exact AP.out.sub,fun x hx=>(by rcases List.mem_append.1 hx with hx | hx;exact⟨(hcn.out x hx).1,rd_cons_ (rd_cons_ (hcn.out x hx).2)⟩;obtain rfl:=List.mem_singleton.1 hx;exact⟨Rt.of_can _ _ _ _ _ _ hR1.out,List.mem_cons_of_mem _ List.mem_cons_self,List.mem_cons_self⟩),by rw[List.map_append,hqE.out];exact hnx.out,fun p hp=>List.mem_cons_of_mem _ (List.mem_cons_of_mem _ (hsub.out p hp))⟩
     case measure=>simp[intOf];omega
    ·obtain rfl:j=k:=by omega
     rw[←hE] at AR;obtain⟨r,bs',rfl,h1,h2,h3,h4,S3⟩:=row_done AR (fun x hx=>(hcn x hx).2)
     have APo:=Apd.close hob.out S3;have APl:=APo.alloc #[.slice r.A r.n r.c] 46 (noL1 _ _ _);have hcb1:=APl.st.cb 0 rfl;have hcn':=Lib.hid (fun x hx=>(hcn x hx).1)
     rw[hE] at h1;replace hqE:=Lib.hid hqE;replace hsub:=Lib.hid hsub;have hh:=Lib.hid (And.intro h1 (And.intro h2 (And.intro h3 h4)));clear AR hcn hjk h1 h2 h3 h4 S3 APo hob hlj hE;have hil:=hih.out;have hbb:=hbn.out
     go_wp2_with (at_builtin;refine app_row rfl (.tmp 32) (.tmp 34) rfl rfl APl _ rfl hcb1 (by omega) ?_)
     clear APl hcb1;intro v' W' AP;replace AP:=Lib.hid AP;go_wp2
     go_roundw
     case rel=>
      refine⟨i+1,K++[r],bs',_,by omega,by go_num,by rw[List.length_append,hK.out];rfl,by rw[List.map_append];exact AP.out.sub,In_app hIn.out hh.out.2.2.1 hsub.out hh.out.2.2.2,fun r' hr'=>?_,fun t ht=>?_⟩
      ·rcases List.mem_append.1 hr' with hr' | hr'
       ·exact hcan.out r' hr'
       ·obtain rfl:=List.mem_singleton.1 hr'
        exact⟨hh.out.1,by rw[hh.out.2.1];exact hcn'.out⟩
      ·have hl:(qM K).length=i:=by unfold qM;rw[List.length_map];exact hK.out
       rw[qM_app]
       by_cases hki:t<i
       ·rw[List.getD_eq_getElem?_getD,List.getElem?_append_left (by omega),←List.getD_eq_getElem?_getD]
        exact hq.out t hki
       ·obtain rfl:t=i:=by omega
        rw[List.getD_eq_getElem?_getD,List.getElem?_append_right (by omega),hl,Nat.sub_self]
        show r.L.map (·.q)=_
        rw[hh.out.2.1];exact hqE.out
     case measure=>simp[intOf];omega
  ·obtain rfl:i=n:=by omega
   have AP1:=AP;rw[←hK] at AP1;obtain⟨A3,c3,hv,M3⟩:=AP1.mat hIn;subst hv;rw[hK] at M3;have hbl:=Lib.hid AP1.st.bel;have hrl:∀ r∈K,r.L.length=k:=fun r hr=>by rw[(hIn r hr).1];exact (hcan r hr).1
   have hfin:=Lib.hid (hgd.out K hK (fun r hr=>(hcan r hr).1) hrl (fun r hr=>(hcan r hr).2) (hrow.out _ (by unfold qM;rw[List.length_map];exact hK) hq))
   replace M3:=Lib.hid M3;replace hK:=Lib.hid hK;clear AP AP1 hIn hq hlt hin hcan hrl;go_wp2;go_ret;exact⟨A3,c3,K,(show Ending.returned (Value.slice A3 K.length c3)=_ by rw[hK.out]),M3.out,hfin.out,hbl.out⟩
end Go.Proofs.YthlinhconnmbcaaGreat
namespace Go.Proofs.YthlinhconnmbcaaGreat
open Go.RowKit RQ GE
set_option linter.unusedVariables false
theorem mdQ_tw {n k:Nat} {l:List Int}:∀ r∈mdQ n k l,∀ q∈r,Tw 12 360 q:=mk_all fun _ _=>mdF_tw
theorem tw_s2 {q:Rat} (h:Tw 12 360 q):S2 1 1 q:=h.s2 (by omega) (by omega) (by omega)
theorem mdQ_s2 {n k:Nat} {l:List Int}:∀ r∈mdQ n k l,∀ q∈r,S2 1 1 q:=fun r hr q hq=>tw_s2 (mdQ_tw r hr q hq)
theorem sz11 {n k:Nat} (hn:n≤4) (hk:k≤8):∀ {Q:List (List Rat)},(∀ r∈Q,∀ q∈r,S2 1 1 q)→(∀ r∈Q,∀ q∈r,S2 2 2 q)∧SzE n k 2 2∧SzT n k 2 2:=fun h=>⟨fun r hr q hq=>(h r hr q hq).mono (by omega) (by omega),(sz22 hn hk).1,(sz22 hn hk).2⟩
end Go.Proofs.YthlinhconnmbcaaGreat
