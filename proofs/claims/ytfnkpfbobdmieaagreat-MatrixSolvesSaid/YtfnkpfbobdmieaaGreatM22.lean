/- A matrix of the call's own: the block of its rows, and each row in a block of its own. -/
import Derived.Test.YtfnkpfbobdmieaaGreatM18
import Derived.Test.YtfnkpfbobdmieaaGreatM19
set_option maxRecDepth 100000
set_option maxHeartbeats 40000000
set_option linter.unusedVariables false
namespace Go.Proofs.YtfnkpfbobdmieaaGreat
open Go.RowKit RQ GE
set_option linter.unusedVariables false
def rowv (m b:Nat):Value:=.slice (some ⟨b,0,none⟩) m m
def rowb (b:Nat) (L:List Rt):Bk:=(b,(csE L).toArray,45)
def MB (g:Nat) (V:List Value) (B:List Nat) (R:List (List Rt)):List Bk:=(g,V.toArray,23)::List.zipWith rowb B R
structure RK (B:List Nat) (m:Nat) (R:List (List Rt)) (M:List (List Rat)) (rs:List Rdg):Prop where
 len:R.length=B.length
 row:∀ L∈R,L.length=m
 el:∀ L∈R,∀ x∈L,x.can∧x.rdIn rs
 q:R.map (fun L=>L.map (·.q))=M
theorem zip_perm:∀ {B:List Nat} {R:List (List Rt)} {i b:Nat} {L:List Rt},B[i]?=some b→R[i]?=some L→(List.zipWith rowb B R).Perm (rowb b L::List.zipWith rowb (B.eraseIdx i) (R.eraseIdx i))
 | [],_,_,_,_,h,_=>by simp at h
 | _::_,[],_,_,_,_,h=>by simp at h
 | b'::B,L'::R,0,b,L,h,h'=>by
  simp only[List.getElem?_cons_zero,Option.some.injEq] at h h'
  subst h h';exact List.Perm.refl _
 | b'::B,L'::R,i+1,b,L,h,h'=>by
  simp only[List.getElem?_cons_succ] at h h'
  exact ((zip_perm h h').cons _).trans (List.Perm.swap _ _ _)
theorem erase_set {α:Type}:∀ {R:List α} {i:Nat} {x:α},(R.set i x).eraseIdx i=R.eraseIdx i
 | [],_,_=>rfl
 | _::_,0,_=>rfl
 | y::R,i+1,x=>by
  show y::(R.set i x).eraseIdx i=y::R.eraseIdx i
  rw[erase_set]
section
variable {w W W':World} {g m:Nat} {V:List Value} {B:List Nat} {R:List (List Rt)} {xs:List Bk} {rs rs':List Rdg} {M:List (List Rat)}
theorem RK.mono (h:RK B m R M rs) (hr:∀ p∈rs,p∈rs'):RK B m R M rs':=⟨h.len,h.row,fun L hL x hx=>⟨(h.el L hL x hx).1,hr _ (h.el L hL x hx).2.1,hr _ (h.el L hL x hx).2.2⟩,h.q⟩
theorem RK.mlen (h:RK B m R M rs):M.length=B.length:=by rw[←h.q,List.length_map];exact h.len
theorem RK.rct (h:RK B m R M rs):rct m M:=by
 intro r hr;rw[←h.q] at hr;obtain⟨L,hL,rfl⟩:=List.mem_map.1 hr;rw[List.length_map];exact h.row L hL
theorem RK.get (h:RK B m R M rs) {i:Nat} (hi:i<B.length):∃ L,R[i]?=some L∧L∈R∧M.getD i []=L.map (·.q)∧L.length=m∧B[i]?=some (B.getD i 0):=by
 have hl:=h.len;have e:R[i]?=some R[i]:=List.getElem?_eq_getElem (by omega)
 refine⟨R[i],e,List.getElem_mem _,?_,h.row _ (List.getElem_mem _),?_⟩
 ·rw[←h.q,List.getD_eq_getElem?_getD,List.getElem?_map,e];rfl
 ·rw[List.getD_eq_getElem?_getD,List.getElem?_eq_getElem hi];rfl
theorem MB_cell (S:St w W (MB g V B R++xs) rs) {i:Nat} {v:Value} (hv:V[i]?=some v):W.cell? ⟨g,i,none⟩=some v∧∀ j,W.frozen? ⟨g,j,none⟩=false:=by
 have hb:=(S.bk (g,V.toArray,23) (List.mem_append_left _ List.mem_cons_self)).1;exact⟨hb.cell (by rw[List.getElem?_toArray];exact hv),fun j=>hb.frozen j⟩
theorem MB_row (S:St w W (MB g (B.map (rowv m)) B R++xs) rs) {i:Nat} (hi:i<B.length):W.cell? ⟨g,i,none⟩=some (.slice (some ⟨B.getD i 0,0,none⟩) m m):=by
 refine (MB_cell S (v:=rowv m (B.getD i 0)) ?_).1
 rw[List.getElem?_map,List.getD_eq_getElem?_getD,List.getElem?_eq_getElem hi];rfl
theorem MB_perm {i b:Nat} {L:List Rt} (hb:B[i]?=some b) (hL:R[i]?=some L):(MB g V B R++xs).Perm (rowb b L::((g,V.toArray,23)::List.zipWith rowb (B.eraseIdx i) (R.eraseIdx i)++xs)):=by
 unfold MB;exact (((zip_perm hb hL).cons _).trans (List.Perm.swap _ _ _)).append_right xs
theorem MB_num (S:St w W (MB g V B R++xs) rs) (K:RK B m R M rs) {i j:Nat} (hi:i<B.length) (hj:j<m):∃ x:Rt,x.q=el M i j∧x.can∧x.raw W∧W.cell? ⟨B.getD i 0,j*3,none⟩=some (.bool x.b)∧W.cell? ⟨B.getD i 0,j*3+1,none⟩=some (.slice x.A x.n x.c)∧W.cell? ⟨B.getD i 0,j*3+2,none⟩=some (.slice x.D x.m x.d)∧∀ k,W.frozen? ⟨B.getD i 0,k,none⟩=false:=by
 obtain⟨L,hL,hm,hq,hl,hb⟩:=K.get hi;have S1:=S.prm (MB_perm hb hL);have hx:L[j]?=some L[j]:=List.getElem?_eq_getElem (by omega)
 obtain⟨⟨e0,e1,e2⟩,f⟩:=St_lcl S1 hx;obtain⟨k1,k2⟩:=K.el L hm L[j] (List.getElem_mem _);refine⟨L[j],?_,k1,⟨S.rd _ k2.1,S.rd _ k2.2⟩,e0,e1,e2,f⟩
 unfold GE.el;rw[hq,List.getD_eq_getElem?_getD,List.getElem?_map,hx];rfl
theorem MB_put (S:St w W (MB g V B R++xs) rs) (K:RK B m R M rs) {i j:Nat} (hi:i<B.length) (x:Rt) (hx:x.can∧x.rdIn rs):∃ R',St w (((W.setCell ⟨B.getD i 0,j*3,none⟩ (.bool x.b)).setCell ⟨B.getD i 0,j*3+1,none⟩ (.slice x.A x.n x.c)).setCell ⟨B.getD i 0,j*3+2,none⟩ (.slice x.D x.m x.d)) (MB g V B R'++xs) rs∧RK B m R' (M.set i ((M.getD i []).set j x.q)) rs:=by
 obtain⟨L,hL,hm,hq,hl,hb⟩:=K.get hi;have hiR:i<R.length:=by rw[K.len];exact hi
 have S1:=St_lset (S.prm (MB_perm hb hL)) j x;refine⟨R.set i (L.set j x),S1.prm ?_,?_⟩
 ·have:=(MB_perm (g:=g) (V:=V) (xs:=xs) hb (show (R.set i (L.set j x))[i]?=some (L.set j x) by rw[List.getElem?_set_self hiR])).symm
  rw[erase_set] at this;exact this
 ·refine⟨by rw[List.length_set];exact K.len,fun L' h'=>?_,fun L' h' y hy=>?_,?_⟩
  ·rcases List.mem_or_eq_of_mem_set h' with h' | rfl
   ·exact K.row L' h'
   ·rw[List.length_set];exact hl
  ·rcases List.mem_or_eq_of_mem_set h' with h' | rfl
   ·exact K.el L' h' y hy
   ·rcases List.mem_or_eq_of_mem_set hy with hy | rfl
    ·exact K.el L hm y hy
    ·exact hx
  ·rw[List.map_set,List.map_set,K.q,hq]
def KR (m:Nat) (B:List Nat) (R:List (List Rt)):List Ro:=List.zipWith (fun b L=>⟨some ⟨b,0,none⟩,m,m,L⟩) B R
theorem KR_get {i b:Nat} {L:List Rt} (hb:B[i]?=some b) (hL:R[i]?=some L):(KR m B R)[i]?=some ⟨some ⟨b,0,none⟩,m,m,L⟩:=by
 unfold KR;rw[List.getElem?_zipWith,hb,hL]
theorem KR_of {i:Nat} {r:Ro} (h:(KR m B R)[i]?=some r):∃ b L,B[i]?=some b∧R[i]?=some L∧r=⟨some ⟨b,0,none⟩,m,m,L⟩:=by
 unfold KR at h;rw[List.getElem?_zipWith] at h
 cases hb:B[i]? with
 | none=>rw[hb] at h;cases h
 | some b=>cases hL:R[i]? with
  | none=>rw[hb,hL] at h;cases h
  | some L=>rw[hb,hL] at h;exact⟨b,L,rfl,rfl,(Option.some.inj h).symm⟩
theorem KR_len (K:RK B m R M rs):(KR m B R).length=B.length:=by unfold KR;rw[List.length_zipWith,K.len,Nat.min_self]
theorem KR_v:∀ {B:List Nat} {R:List (List Rt)},R.length=B.length→(KR m B R).map Ro.v=B.map (rowv m)
 | [],[],_=>rfl
 | b::B,L::R,h=>by
  show Ro.v _::(KR m B R).map Ro.v=rowv m b::B.map (rowv m)
  rw[KR_v (by simpa using h)];rfl
theorem KR_q:∀ {B:List Nat} {R:List (List Rt)},R.length=B.length→qM (KR m B R)=R.map (fun L=>L.map (·.q))
 | [],[],_=>rfl
 | b::B,L::R,h=>by
  have ih:=KR_q (B:=B) (R:=R) (by simpa using h)
  unfold qM at *
  show _::(KR m B R).map _=_::R.map _
  rw[ih]
theorem KR_in (K:RK B m R M rs) (S:St w W (MB g V B R++xs) rs):∀ r∈KR m B R,r.In (MB g V B R++xs) rs:=by
 intro r hr;obtain⟨i,hi⟩:=List.getElem?_of_mem hr
 obtain⟨b,L,hb,hL,rfl⟩:=KR_of hi;have hm:=List.mem_of_getElem? hL;refine⟨K.row L hm,.inr ⟨b,(csE L).toArray,rfl,Nat.le_refl _,?_,?_⟩,fun x hx=>(K.el L hm x hx).2⟩
 ·exact (MB_perm hb hL).mem_iff.2 List.mem_cons_self
 ·show ((csE L).toArray.toList).take (m*3)=csE L
  rw[List.toList_toArray,List.take_of_length_le (by rw[csE_len,K.row L hm];exact Nat.le_refl _)]
theorem KR_can (K:RK B m R M rs) (hm:m≤1000):canM (KR m B R):=by
 intro r hr;obtain⟨i,hi⟩:=List.getElem?_of_mem hr
 obtain⟨b,L,hb,hL,rfl⟩:=KR_of hi;exact⟨hm,fun x hx=>(K.el L (List.mem_of_getElem? hL) x hx).1⟩
theorem MB_mat (S:St w W (MB g (B.map (rowv m)) B R++xs) rs) (K:RK B m R M rs):Mr W (some ⟨g,0,none⟩) B.length B.length (KR m B R):=by
 have hI:=KR_in K S;refine⟨KR_len K,Nat.le_refl _,.inr ⟨g,0,rfl,(S.bk (g,(B.map (rowv m)).toArray,23) (List.mem_append_left _ List.mem_cons_self)).1.lt,fun i r hi=>?_⟩,fun r hr=>(hI r hr).sr S⟩
 obtain⟨b,L,hb,hL,rfl⟩:=KR_of hi;rw[Nat.zero_add];exact (MB_cell S (v:=rowv m b) (by rw[List.getElem?_map,hb];rfl)).1
end
end Go.Proofs.YtfnkpfbobdmieaaGreat
namespace Go.Proofs.YtfnkpfbobdmieaaGreat
open Go.RowKit RQ
theorem rv_den1 {b:Bool} {xs:List Nat}:(rv b xs []).den=1:=by
 unfold rv
 split
 ·have h1:=den_divInt_le (sg b (val xs)) (d:=1) (by decide)
  have e:mkRat (sg b (val xs)) (dv [])=Rat.divInt (sg b (val xs)) 1:=(Rat.divInt_ofNat _ 1).symm;rw[e];have:=(Rat.divInt (sg b (val xs)) 1).den_pos
  omega
 ·rfl
theorem rk_den1 {b:Bool} {n:Nat} {x:List Nat} {m:Nat} {y:List Nat} {q:Rat} (k:Rk b n x m y q) (h:y.length=m) (h0:m=0):q.den=1:=by
 obtain rfl:y=[]:=List.length_eq_zero_iff.1 (h.trans h0);rw[←k.1];exact rv_den1
theorem den1_mul {x y:Rat} (hx:x.den=1) (hy:y.den=1):(x*y).den=1:=by
 have ex:x=(x.num:Rat):=by apply Rat.ext<;>simp[hx]
 have ey:y=(y.num:Rat):=by apply Rat.ext<;>simp[hy]
 rw[ex,ey,←Rat.intCast_mul];rfl
def wsc (l:List Rat):Nat→Rat
 | 0=>((1:Int):Rat)
 | i+1=>wsc l i*(((wsc l i*l.getD i 0).den:Int):Rat)
theorem wsc_den (l:List Rat):∀ i,(wsc l i).den=1
 | 0=>rfl
 | i+1=>by unfold wsc;exact den1_mul (wsc_den l i) rfl
theorem wsc_stay {l:List Rat} {i:Nat} {q:Rat} (hq:l.getD i 0=q) (h:q.den=1):wsc l (i+1)=wsc l i:=by
 show wsc l i*(((wsc l i*l.getD i 0).den:Int):Rat)=_
 rw[hq,den1_mul (wsc_den l i) h];exact Rat.mul_one _
end Go.Proofs.YtfnkpfbobdmieaaGreat
namespace Go.Proofs.YtfnkpfbobdmieaaGreat
open Go.RowKit RQ
theorem res_whole (W:World) (tmps:Array Value) (g t:Nat) {v0 v1 v2 v3:Value} (ht:tmps.getD 2 undef=.pointer (some ⟨g,0,none⟩)) (h:Cb W g #[v0,v1,v2,v3] t) :
  (results Tryz.f43 tmps).run Tryz.prog W=.ok (.agg #[v0,v1,v2,v3]) W:=by
 have c0:W.cell? ⟨g,0,none⟩=some v0:=h.cell rfl;have c1:W.cell? ⟨g,1,none⟩=some v1:=h.cell rfl;have c2:W.cell? ⟨g,2,none⟩=some v2:=h.cell rfl;have c3:W.cell? ⟨g,3,none⟩=some v3:=h.cell rfl;have ht':tmps[2]?.getD undef=.pointer (some ⟨g,0,none⟩):=by rw[←ht];simp[Array.getD_eq_getD_getElem?]
 simp[results,Tryz.results43,go_sem,ht',c0,c1,c2,c3]
theorem rs_dens {q:Rat} {p:Nat} (h:Rs q p) (hp:1≤p):Rs ((q.den:Int):Rat) p:=Rs.int (by simpa using h.d) hp
theorem mden_any (q:Rat) (A1:Option Addr) (n1 c1:Nat) (D1:Option Addr) (m1 d1:Nat) (w:World) (X:RR w A1 n1 c1 D1 m1 d1 q):Calls Tryz.prog 70 #[.agg #[.bool (ng q.num),.slice A1 n1 c1,.slice D1 m1 d1]] w (RetR ((q.den:Int):Rat) w):=by
 by_cases h0:m1=0
 ·exact mden_one q A1 n1 c1 D1 m1 d1 w X h0
 ·exact mden_more q A1 n1 c1 D1 m1 d1 w X h0
def RetLi (L:List Rt) (n:Nat) (s:Rat) (w:World) (e:Ending) (w':World):Prop:=∃ A3 n3 c3 D3 m3 d3 A c K,e=.returned (.agg #[.slice A n c,.bool (ng s.num),.slice A3 n3 c3,.slice D3 m3 d3])∧RR w' A3 n3 c3 D3 m3 d3 s∧Sr w' A n c K∧(∀ x∈K,x.can)∧K.map (·.q)=L.map (fun r=>s*r.q)∧Below w.heap.size w w'
def RetLo (L:List Rt) (n:Nat) (s:Rat) (w:World) (e:Ending) (w':World):Prop:=∃ A3 n3 c3 D3 m3 d3 g K,e=.returned (.agg #[.slice (some ⟨g,0,none⟩) n n,.bool (ng s.num),.slice A3 n3 c3,.slice D3 m3 d3])∧RR w' A3 n3 c3 D3 m3 d3 s∧(w.heap.size≤g∧Cb w' g (csE K).toArray 45)∧(∀ x∈K,x.can∧x.raw w')∧K.map (·.q)=L.map (fun r=>s*r.q)∧K.length=n∧Below w.heap.size w w'
theorem RetLo.li {L:List Rt} {n:Nat} {s:Rat} {w:World} {e:Ending} {w':World} (h:RetLo L n s w e w'):RetLi L n s w e w':=by
 obtain⟨A3,n3,c3,D3,m3,d3,g,K,h1,h2,h3,h4,h5,h6,h7⟩:=h;refine⟨A3,n3,c3,D3,m3,d3,_,_,K,h1,h2,⟨h6,Nat.le_refl _,.inr ⟨g,0,rfl,h3.2.lt,fun i x hi=>?_⟩,fun x hx=>(h4 x hx).2⟩,fun x hx=>(h4 x hx).1,h5,h7⟩
 obtain⟨e0,e1,e2⟩:=csE_arr hi;rw[Nat.zero_add];exact⟨h3.2.cell e0,h3.2.cell e1,h3.2.cell e2⟩
theorem whole_own (L:List Rt) (A:Option Addr) (n c:Nat) (w:World) (h:Sr w A n c L) (ka:∀ r∈L,Rk r.b r.n r.x r.m r.y r.q) (rs:∀ i,i≤n→Rs (wsc (L.map (·.q)) i) 9000000) (rp:∀ i,i≤n→∀ r∈L,Rs (wsc (L.map (·.q)) i*r.q) 9000000) (hn:n≤1000):Calls Tryz.prog 43 #[.slice A n c] w (RetLo L n (wsc (L.map (·.q)) n) w):=by
 obtain⟨fq,hfq⟩:∃ z,z=wsc (L.map (·.q)) n:=⟨_,rfl⟩;rw[←hfq];have s9:=Lib.hid (hfq ▸ rs n (Nat.le_refl _));have hpp:=Lib.hid (hfq ▸ rp n (Nat.le_refl _));replace hfq:=Lib.hid hfq;have hF:Hid (∀ W,Calls Tryz.prog 53 #[.int .i64 1] W (RetR (wsc (L.map (·.q)) 0) W)):=Lib.hid (fun W=>fromIntR_any 1 W (by decide) (by decide))
 have hrs:=Lib.hid rs;have hrp:=Lib.hid rp;clear rs rp;replace ka:=Lib.hid ka;have hb:=Lib.hid hn;have hlen:=Lib.hid h.len;replace h:=Lib.hid h;clear hn;have S:=(St.new w).allocAt w.heap.size #[.slice none 0 0,.bool false,.slice none 0 0,.slice none 0 0] 58 (noL4 _ _ _ _ _ _ _ _ _ _) rfl;have hz:=S.lt 0 rfl;replace S:=Lib.hid S;go_enter Tryz.func43,Tryz.ntmps43
 go_wp2_with fail
 refine (hF.out _).mono ?_
 rintro e w1 ⟨A3,n3,c3,D3,m3,d3,rfl,Q3,bb⟩;have T:=Lib.hid ((((S.out.call bb).read Q3.n).read Q3.d).allocAt w1.heap.size #[.bool (ng ((wsc (L.map (·.q)) 0)).num),.slice A3 n3 c3,.slice D3 m3 d3] 45 (noL3 _ _ _ _ _ _ _) rfl);clear bb S Q3 hF;go_wp2
 go_loopw [12] (fun iv wr=>∃ (i:Nat) (A3:Option Addr) (n3 c3:Nat) (D3:Option Addr) (m3 d3:Nat),i≤n∧iv=.int .i64 i∧St w wr [(w1.heap.size,#[.bool (ng ((wsc (L.map (·.q)) i)).num),.slice A3 n3 c3,.slice D3 m3 d3],45),(w.heap.size,#[.slice none 0 0,.bool false,.slice none 0 0,.slice none 0 0],58)] [(D3,m3,d3,dn (wsc (L.map (·.q)) i)),(A3,n3,c3,limbs (wsc (L.map (·.q)) i).num.natAbs)]) (fun iv _=>n-(intOf iv).toNat)
 case atStart=>exact⟨0,A3,n3,c3,D3,m3,d3,Nat.zero_le _,rfl,T.out⟩
 case round=>
  clear T;obtain⟨i,A3,n3,c3,D3,m3,d3,hin,rfl,S⟩:=hrel
  by_cases hlt:i<n
  ·obtain⟨b,o,r,rfl,hr,hrm,e0,e1,e2⟩:=(h.out.bel S.bel).get hlt
   have R1:=(h.out.bel S.bel).rd r hrm;have kr:=ka.out r hrm;have hlh:=Lib.hid hlt;have g1:(i:Int)<(n:Int):=by omega
   have g2:(0:Int)≤(i:Int):=by omega
   have hgx:=S.lt 0 rfl
   by_cases hm:r.m=0
   ·have hq:wsc (L.map (·.q)) (i+1)=wsc (L.map (·.q)) i:=wsc_stay (map_getD hr) (rk_den1 kr R1.2.len hm)
    have g3:((r.m:Int)==0)=true:=by simp[hm]
    have g4:¬ (0:Int)<(r.m:Int):=by omega
    have S5:=Lib.hid ((S.allocAt wr.heap.size #[.bool r.b,.slice r.A r.n r.c,.slice r.D r.m r.d] 45 (noL3 _ _ _ _ _ _ _) rfl));have xx:=S5.out.cl 0 1 rfl rfl;replace S:=Lib.hid S;clear hlt hin hrm hr R1 kr hm;have hlt:=hlh.out;have hbb:=hb.out;go_wp2
    go_roundw
    case rel=>exact⟨i+1,A3,n3,c3,D3,m3,d3,by omega,by go_num,by rw[hq];exact S5.out.pick [1,2] [0,1] rfl (by decide) rfl⟩
    case measure=>simp[intOf];omega
   ·obtain⟨s,hs⟩:∃ z,z=wsc (L.map (·.q)) i:=⟨_,rfl⟩
    obtain⟨p,hp⟩:∃ z,z=s*r.q:=⟨_,rfl⟩;obtain⟨dd,hdd⟩:∃ z,z=((p.den:Int):Rat):=⟨_,rfl⟩;obtain⟨ns,hns⟩:∃ z,z=s*dd:=⟨_,rfl⟩;have hq:ns=wsc (L.map (·.q)) (i+1):=by show _=wsc _ _*(((wsc _ _*_:Rat).den:Int):Rat);rw[map_getD hr,←hs,←hp,←hdd,hns]
    have s1:=hrs.out i hin;have s2:=hrp.out i hin r hrm;rw[←hs] at s1 s2 S;rw[←hp] at s2;have s3:Rs dd 9000000:=by rw[hdd];exact rs_dens s2 (by decide)
    have hM1:Hid (∀ W A0 n0 c0 D0 m0 d0,RR W A0 n0 c0 D0 m0 d0 s→r.raw W→Calls Tryz.prog 69 #[.agg #[.bool (ng s.num),.slice A0 n0 c0,.slice D0 m0 d0],.agg #[.bool r.b,.slice r.A r.n r.c,.slice r.D r.m r.d]] W (RetR p W)):=Lib.hid fun W A0 n0 c0 D0 m0 d0 h1 h2=>by rw[hp];exact mulW _ _ _ _ _ _ _ _ _ _ _ _ _ _ _ _ _ _ _ _ W (RR.w h1 s1) (h2.at_ kr)
    have hDn:Hid (∀ W A0 n0 c0 D0 m0 d0,RR W A0 n0 c0 D0 m0 d0 p→Calls Tryz.prog 70 #[.agg #[.bool (ng p.num),.slice A0 n0 c0,.slice D0 m0 d0]] W (RetR dd W)):=Lib.hid fun W A0 n0 c0 D0 m0 d0 h1=>by rw[hdd];exact mden_any p _ _ _ _ _ _ W h1
    have hM2:Hid (∀ W A0 n0 c0 D0 m0 d0 A1 n1 c1 D1 m1 d1,RR W A0 n0 c0 D0 m0 d0 s→RR W A1 n1 c1 D1 m1 d1 dd→Calls Tryz.prog 69 #[.agg #[.bool (ng s.num),.slice A0 n0 c0,.slice D0 m0 d0],.agg #[.bool (ng dd.num),.slice A1 n1 c1,.slice D1 m1 d1]] W (RetR ns W)):=Lib.hid fun W A0 n0 c0 D0 m0 d0 A1 n1 c1 D1 m1 d1 h1 h2=>by rw[hns];exact mulW _ _ _ _ _ _ _ _ _ _ _ _ _ _ _ _ _ _ _ _ W (RR.w h1 s1) (RR.w h2 s3)
    have g3:((r.m:Int)==0)=false:=by simp[hm]
    have g4:(0:Int)<(r.m:Int):=by omega
    have S5:=S.allocAt wr.heap.size #[.bool r.b,.slice r.A r.n r.c,.slice r.D r.m r.d] 45 (noL3 _ _ _ _ _ _ _) rfl;have xx:=S5.cl 0 1 rfl rfl;have Sd:=S5.drew;have R1d:=R1;obtain⟨x0,x1,x2,z0,z1,z2⟩:=Sd.cf3 0 rfl;obtain⟨x3,x4,x5,z3,z4,z5⟩:=Sd.cf3 1 rfl;have Rw_:r.raw (wr.alloc (.cells #[.bool r.b,.slice r.A r.n r.c,.slice r.D r.m r.d] 45)).drew:=((h.out.bel Sd.bel).rd r hrm);have hgx5:=Sd.lt 0 rfl;replace Rw_:=Lib.hid Rw_
    replace hq:=Lib.hid hq;replace S:=Lib.hid S;replace Sd:=Lib.hid Sd;replace S5:=Lib.hid S5;replace s1:=Lib.hid s1;replace s2:=Lib.hid s2;replace s3:=Lib.hid s3;clear hlt hin hrm hr R1 R1d kr hm hs hp hdd hns s1 s2 s3;go_upto_region 6 with fail
    go_region_with (first
     | (go_at_call_of 69 (Value.agg #[.bool r.b,.slice r.A r.n r.c,.slice r.D r.m r.d]);refine (hM1.out _ _ _ _ _ _ _ ⟨Sd.out.r 1 rfl,Sd.out.r 0 rfl⟩ Rw_.out).mono ?_;rintro e w1 ⟨A4,n4,c4,D4,m4,d4,rfl,Q4,bb1⟩;have S1:=((Sd.out.call bb1).read Q4.n).read Q4.d;obtain⟨y3,y4,y5,v3,v4,v5⟩:=S1.cf3 1 rfl)
     | (go_at_call 70;refine (hDn.out _ _ _ _ _ _ _ ⟨S1.r 1 rfl,S1.r 0 rfl⟩).mono ?_;rintro e w2 ⟨A5,n5,c5,D5,m5,d5,rfl,Q5,bb2⟩;have S2:=((S1.call bb2).read Q5.n).read Q5.d;obtain⟨y6,y7,y8,v6,v7,v8⟩:=S2.cf3 1 rfl)
     | (go_at_call 69;refine (hM2.out _ _ _ _ _ _ _ _ _ _ _ _ _ ⟨S2.r 5 rfl,S2.r 4 rfl⟩ ⟨S2.r 1 rfl,S2.r 0 rfl⟩).mono ?_;rintro e w3 ⟨A6,n6,c6,D6,m6,d6,rfl,Q6,bb3⟩;have S3:=((S2.call bb3).read Q6.n).read Q6.d;obtain⟨y9,ya,yb,v9,va,vb⟩:=S3.cf3 1 rfl))
    all_goals
     have S4:=Lib.hid (((S3.set 1 0 (.bool (ng ns.num)) rfl (by nofun)).set 1 1 (.slice A6 n6 c6) rfl (by nofun)).set 1 2 (.slice D6 m6 d6) rfl (by nofun))
     clear x0 x1 x2 x3 x4 x5 z0 z1 z2 z3 z4 z5 y3 y4 y5 v3 v4 v5 y6 y7 y8 v6 v7 v8 y9 ya yb v9 va vb e0 e1 e2 bb1 bb2 bb3 S1 S2 S3 S Sd S5 Rw_ Q4 Q5 Q6 xx;have hlt:=hlh.out;have hbb:=hb.out;go_wp2
     go_roundw
     case rel=>exact⟨i+1,A6,n6,c6,D6,m6,d6,by omega,by go_num,by rw[←hq.out];exact S4.out.pick [1,2] [0,1] rfl (by decide) rfl⟩
     case measure=>simp[intOf];omega
  ·obtain rfl:i=n:=by omega
   clear hlt hin;have hmk:=make_rat i (by have:=hb.out;omega)
   rw[←hfq.out] at S;obtain⟨c1_0,c1_1,c1_2,f1_0,f1_1,f1_2⟩:=S.cf3 0 rfl;have hg1:=S.lt 0 rfl;replace S:=Lib.hid S;go_upto_region 8 with fail
   refine RW.begin (Z:=[⟨5,6,#[.slice none 0 0,.bool false,.slice none 0 0,.slice none 0 0],58⟩]) (S:=(fun W=>Cb W (w1.heap.size) #[.bool (ng fq.num),.slice A3 n3 c3,.slice D3 m3 d3] 45)) (by kernel_rfl) ?_ S.out ?_
   ·exact⟨by kernel_rfl,(zis_cons at5 (fun _ _=>by kernel_rfl) zis_nil),by decide,by decide,(nol_cons (noL4 _ _ _ _ _ _ _ _ _ _) nol_nil),(fun _ _ h=>h.kb 0 rfl)⟩
   intro hzk;clear S;refine RW.t (i:=0) (v:=.slice A i c) (some 27) at0 (hy:=fun _ _=>by kernel_rfl) (h:=?_)
   refine RW.t (i:=1) (v:=.int .i64 i) (some 28) at1 (hy:=fun _ _=>by go_simp) (h:=?_)
   refine RW.t (i:=3) (v:=.agg #[.bool (ng fq.num),.slice A3 n3 c3,.slice D3 m3 d3]) (some 30) at3 (hy:=fun W hS=>by (have k0:=Cb.cell (i:=0) hS rfl;have k1:=Cb.cell (i:=1) hS rfl;have k2:=Cb.cell (i:=2) hS rfl;clear hS;go_simp)) (h:=?_)
   refine RW.blk (i:=2) (cs:=(csE (List.replicate i Zt)).toArray) (t:=45) (k:=i) (some 29) hzk.out at2 rfl (by kernel_rfl) (by kernel_rfl) (fun W=>by have hm:=hmk W;go_simp) (NoLl.csE _).arr ?_
   clear hzk;intro g_L2 hzk;refine RW.t (i:=4) (v:=.agg #[.slice (some ⟨g_L2,0,none⟩) i i,.bool (ng fq.num),.slice A3 n3 c3,.slice D3 m3 d3]) (some 31) at4 (hy:=fun _ _=>by kernel_rfl) (h:=?_)
   refine RW.tail hzk.out (by kernel_rfl) ?_
   intro gs w31 hgs hS S;obtain⟨g_l,rfl⟩:=len1' hgs;clear hS hgs hzk;simp only[mark,fill,List.map,Act.put,sZ0,sZ1,sZ2];replace S:=Lib.hid S;refine Wk.o (i:=6) at6 (by kernel_rfl) fun K' hK=>?_
   have q6_l0:=St.cl (S.out) 0 0 rfl rfl;have q6_l1:=St.cl (S.out) 0 1 rfl rfl;have q6_l2:=St.cl (S.out) 0 2 rfl rfl;have q6_l3:=St.cl (S.out) 0 3 rfl rfl;have q6z_l0:=St.f (S.out) 0 0 rfl;have q6z_l1:=St.f (S.out) 0 1 rfl;have q6z_l2:=St.f (S.out) 0 2 rfl;have q6z_l3:=St.f (S.out) 0 3 rfl
   go_simp
   have SN:=((((S.out.set 0 0 (.slice (some ⟨g_L2,0,none⟩) i i) rfl (by nofun)).set 0 1 (.bool (ng fq.num)) rfl (by nofun)).set 0 2 (.slice A3 n3 c3) rfl (by nofun)).set 0 3 (.slice D3 m3 d3) rfl (by nofun))
   clear S q6_l0 q6_l1 q6_l2 q6_l3 q6z_l0 q6z_l1 q6z_l2 q6z_l3;have S:=SN;clear SN;refine hK.out _ _ (S.cb 2 rfl) ?_
   clear hK K';replace S:=Lib.hid S
   try simp only[Act.put,sZ0,sZ1,sZ2]
   refine Wk.done (by kernel_rfl) ?_
   go_simp
   replace S:=S.out;have S:St w _ [(g_l,#[.slice (some ⟨g_L2,0,none⟩) i i,.bool (ng fq.num),.slice A3 n3 c3,.slice D3 m3 d3],58),(g_L2,(csE (List.replicate i Zt)).toArray,45),(w1.heap.size,#[.bool (ng fq.num),.slice A3 n3 c3,.slice D3 m3 d3],45),(w.heap.size,#[.slice none 0 0,.bool false,.slice none 0 0,.slice none 0 0],58)] [(D3,m3,d3,dn fq),(A3,n3,c3,limbs fq.num.natAbs)]:=S;generalize hW32:(World.setCell (World.setCell (World.setCell (World.setCell w31 ⟨g_l,0,none⟩ (.slice (some ⟨g_L2,0,none⟩) i i)) ⟨g_l,1,none⟩ (.bool (ng fq.num))) ⟨g_l,2,none⟩ (.slice A3 n3 c3)) ⟨g_l,3,none⟩ (.slice D3 m3 d3))=w32 at S ⊢
   clear hW32;replace S:=Lib.hid S;replace S:=S.out;have c_l0:=S.cl 0 0 rfl rfl;have f_l0:=S.f 0 0 rfl;have c_l1:=S.cl 0 1 rfl rfl;have f_l1:=S.f 0 1 rfl;have c_l2:=S.cl 0 2 rfl rfl;have f_l2:=S.f 0 2 rfl;have c_l3:=S.cl 0 3 rfl rfl;have f_l3:=S.f 0 3 rfl;obtain⟨c_s0,c_s1,c_s2,f_s0,f_s1,f_s2⟩:=S.cf3 2 rfl;have c_r0:=S.cl 3 0 rfl rfl;have f_r0:=S.f 3 0 rfl;have c_r1:=S.cl 3 1 rfl rfl;have f_r1:=S.f 3 1 rfl
   have c_r2:=S.cl 3 2 rfl rfl;have f_r2:=S.f 3 2 rfl;have c_r3:=S.cl 3 3 rfl rfl;have f_r3:=S.f 3 3 rfl;have hz:g_l<w32.heap.size:=S.lt 0 rfl;replace S:=Lib.hid S;replace hmk:=Lib.hid hmk;clear hmk;have S:=(St.swap (p:=(g_l,#[.slice (some ⟨g_L2,0,none⟩) i i,.bool (ng fq.num),.slice A3 n3 c3,.slice D3 m3 d3],58)) S.out).read (show Rd _ none 0 0 [] from Rd.nil_ _ _ _)
   have T:=Lib.hid S;clear S;replace hfq:=Lib.hid hfq;have hlenL:=hlen.out;go_wp2
   go_loopw [34] (fun jv wr=>∃ (j:Nat) (K:List Rt) (rs:List Rdg),j≤i∧jv=.int .i64 j∧K.length=i∧St w wr [(g_L2,(csE K).toArray,45),(g_l,#[.slice (some ⟨g_L2,0,none⟩) i i,.bool (ng fq.num),.slice A3 n3 c3,.slice D3 m3 d3],58),(w1.heap.size,#[.bool (ng fq.num),.slice A3 n3 c3,.slice D3 m3 d3],45),(w.heap.size,#[.slice none 0 0,.bool false,.slice none 0 0,.slice none 0 0],58)] rs∧(D3,m3,d3,dn fq)∈rs∧(A3,n3,c3,limbs fq.num.natAbs)∈rs∧(∀ x∈K,x.can∧x.rdIn rs)∧(∀ k,k<j→(K[k]?).map (·.q)=(L[k]?).map (fun r=>fq*r.q))) (fun jv _=>i-(intOf jv).toNat)
   case atStart=>exact⟨0,List.replicate i Zt,_,Nat.zero_le _,rfl,List.length_replicate,T.out,by simp,by simp,fun x hx=>(by obtain rfl:=(List.mem_replicate.1 hx).2;exact⟨Zt_can,List.mem_cons_self,List.mem_cons_self⟩),fun k hk=>absurd hk (Nat.not_lt_zero _)⟩
   case round=>
    clear T;obtain⟨j,K,rs,hjn,rfl,hK,S,hm1,hm2,hcn,hq⟩:=hrel
    by_cases hlj:j<i
    ·obtain⟨b,o,r,rfl,hr,hrm,e0,e1,e2⟩:=(h.out.bel S.bel).get hlj
     have R1:=Lib.hid (h.out.rd r hrm);have kr:=ka.out r hrm;have hjh:=Lib.hid hlj;have g1:(j:Int)<(i:Int):=by omega
     have g2:(0:Int)≤(j:Int):=by omega
     have hKj:K[j]?=some K[j]:=List.getElem?_eq_getElem (by omega)
     obtain⟨kj,hkj⟩:∃ z,z=K[j]:=⟨_,rfl⟩;rw[←hkj] at hKj;have s2:=Lib.hid (hpp.out r hrm);obtain⟨p,hp⟩:∃ z,z=fq*r.q:=⟨_,rfl⟩;rw[←hp] at s2;have hM:Hid (∀ W A0 n0 c0 D0 m0 d0,RR W A0 n0 c0 D0 m0 d0 fq→r.raw W→Calls Tryz.prog 69 #[.agg #[.bool (ng fq.num),.slice A0 n0 c0,.slice D0 m0 d0],.agg #[.bool r.b,.slice r.A r.n r.c,.slice r.D r.m r.d]] W (RetR p W)):=Lib.hid fun W A0 n0 c0 D0 m0 d0 h1 h2=>by rw[hp];exact mulW _ _ _ _ _ _ _ _ _ _ _ _ _ _ _ _ _ _ _ _ W (RR.w h1 s9.out) (h2.at_ kr)
     have S:=S.allocAt wr.heap.size #[.bool r.b,.slice r.A r.n r.c,.slice r.D r.m r.d] 45 (noL3 _ _ _ _ _ _ _) rfl;have hqn:=Lib.hid (show p=fq*r.q from hp)
     replace S:=Lib.hid S;replace hm1:=Lib.hid hm1;replace hm2:=Lib.hid hm2;replace hcn:=Lib.hid hcn;replace hq:=Lib.hid hq;replace hKj:=Lib.hid hKj;replace hK:=Lib.hid hK;replace hr:=Lib.hid hr;replace hlenL:=Lib.hid hlenL;clear hlj hjn hrm kr hp hkj;go_upto_region 12 with fail
     refine RW.begin (Z:=[]) (S:=(fun W=>Cb W (g_l) #[.slice (some ⟨g_L2,0,none⟩) i i,.bool (ng fq.num),.slice A3 n3 c3,.slice D3 m3 d3] 58∧Cb W (w1.heap.size) #[.bool (ng fq.num),.slice A3 n3 c3,.slice D3 m3 d3] 45∧Cb W (wr.heap.size) #[.bool r.b,.slice r.A r.n r.c,.slice r.D r.m r.d] 45)) (by kernel_rfl) ?_ S.out ?_
     ·exact⟨by kernel_rfl,zis_nil,by decide,by decide,nol_nil,(fun _ _ h=>⟨h.kb 2 rfl,h.kb 3 rfl,h.kb 0 rfl⟩)⟩
     intro hzk;clear S;refine RW.t (i:=0) (v:=.pointer (some ⟨g_l,0,none⟩)) (some 39) at0 (hy:=fun _ _=>by kernel_rfl) (h:=?_)
     refine RW.t (i:=1) (v:=.slice (some ⟨g_L2,0,none⟩) i i) (some 40) at1 (hy:=fun W hS=>by (have k0:=Cb.cell (i:=0) hS.1 rfl;clear hS;go_simp)) (h:=?_)
     refine RW.t (i:=2) (v:=.int .i64 j) (some 41) at2 (hy:=fun _ _=>by kernel_rfl) (h:=?_)
     refine RW.t (i:=3) (v:=.agg #[.bool (ng fq.num),.slice A3 n3 c3,.slice D3 m3 d3]) (some 42) at3 (hy:=fun W hS=>by (have k0:=Cb.cell (i:=0) hS.2.1 rfl;have k1:=Cb.cell (i:=1) hS.2.1 rfl;have k2:=Cb.cell (i:=2) hS.2.1 rfl;clear hS;go_simp)) (h:=?_)
     refine RW.t (i:=4) (v:=.agg #[.bool r.b,.slice r.A r.n r.c,.slice r.D r.m r.d]) (some 43) at4 (hy:=fun W hS=>by (have k0:=Cb.cell (i:=0) hS.2.2 rfl;have k1:=Cb.cell (i:=1) hS.2.2 rfl;have k2:=Cb.cell (i:=2) hS.2.2 rfl;clear hS;go_simp)) (h:=?_)
     refine RW.c (i:=5) (args:=#[.agg #[.bool (ng fq.num),.slice A3 n3 c3,.slice D3 m3 d3],.agg #[.bool r.b,.slice r.A r.n r.c,.slice r.D r.m r.d]]) (some 44) hzk.out at5 (hx:=fun _=>by kernel_rfl) (h:=fun _ S=>(hM.out _ _ _ _ _ _ _ ⟨S.rd _ hm2.out,S.rd _ hm1.out⟩ (R1.out.bel S.bel)).mono ?_)
     rintro e w21 ⟨A20,n20,c20,D20,m20,d20,rfl,Q20,bb⟩;refine⟨bb,_,[(D20,m20,d20,dn p),(A20,n20,c20,limbs p.num.natAbs)],rfl,(rd_cons Q20.d (rd_cons Q20.n rd_nil)),?_⟩
     clear bb S Q20;refine RW.t (i:=6) (v:=.pointer (some ⟨g_L2,j*3,none⟩)) (some 45) at6 (hy:=fun _ _=>by go_simp) (h:=?_)
     refine RW.tail hzk.out (by kernel_rfl) ?_
     intro gs w22 hgs hS S;obtain rfl:=len0 hgs;clear hS hgs hzk;simp only[mark,fill,Act.put,sZ0,sZ1,sZ2];replace S:=Lib.hid S;refine Wk.o (i:=7) at7 (by kernel_rfl) fun K' hK=>?_
     have Sp:=St.swap S.out;obtain⟨⟨q0,q1,q2⟩,qf⟩:=St_lcl Sp hKj.out;clear S
     go_simp
     have S:=St_lset Sp j (Rt.of A20 n20 c20 D20 m20 d20 p);refine hK.out _ _ ⟨S.cb 2 rfl,S.cb 3 rfl,S.cb 1 rfl⟩ ?_
     clear hK K' Sp q0 q1 q2 qf;replace S:=Lib.hid S
     try simp only[Act.put,sZ0,sZ1,sZ2]
     refine Wk.done (by kernel_rfl) ?_
     have hlj:=hjh.out;have hbb:=hb.out;go_wp2
     go_roundw
     case rel=>
      refine⟨j+1,K.set j (Rt.of A20 n20 c20 D20 m20 d20 p),_,by omega,by go_num,by rw[List.length_set];exact hK.out,S.out.swap.sub,List.mem_cons_of_mem _ (List.mem_cons_of_mem _ hm1.out),List.mem_cons_of_mem _ (List.mem_cons_of_mem _ hm2.out),fun x hx=>?_,fun k hk=>?_⟩
      ·rcases List.mem_or_eq_of_mem_set hx with hx | rfl
       ·exact⟨(hcn.out x hx).1,rd_cons_ (rd_cons_ (hcn.out x hx).2)⟩
       ·exact⟨Rt.of_can _ _ _ _ _ _ s2.out,List.mem_cons_of_mem _ List.mem_cons_self,List.mem_cons_self⟩
      ·by_cases e:j=k
       ·subst e
        rw[List.getElem?_set_self (by rw[hK.out];exact hlj),hr.out]
        exact congrArg some hqn.out
       ·rw[List.getElem?_set_ne e];exact hq.out k (by omega)
     case measure=>simp[intOf];omega
    ·obtain rfl:j=i:=by omega
     have hfin:K.map (·.q)=L.map (fun r=>fq*r.q):=by
      apply List.ext_getElem?
      intro k;rw[List.getElem?_map,List.getElem?_map]
      rcases Nat.lt_or_ge k j with hk | hk
      ·exact hq k hk
      ·rw[List.getElem?_eq_none (by omega),List.getElem?_eq_none (by omega)];rfl
     have k_0:=S.cl 1 0 rfl rfl;have k_1:=S.cl 1 1 rfl rfl;have k_2:=S.cl 1 2 rfl rfl;have k_3:=S.cl 1 3 rfl rfl;have f_0:=S.f 3 0 rfl;have f_1:=S.f 3 1 rfl;have f_2:=S.f 3 2 rfl;have f_3:=S.f 3 3 rfl;have r_0:=S.cl 3 0 rfl rfl;have r_1:=S.cl 3 1 rfl rfl;have r_2:=S.cl 3 2 rfl rfl;have r_3:=S.cl 3 3 rfl rfl;have S:=Lib.hid ((((S.set 3 0 (.slice (some ⟨g_L2,0,none⟩) j j) rfl (by nofun)).set 3 1 (.bool (ng fq.num)) rfl (by nofun)).set 3 2 (.slice A3 n3 c3) rfl (by nofun)).set 3 3 (.slice D3 m3 d3) rfl (by nofun))
     replace hfin:=Lib.hid hfin;replace hK:=Lib.hid hK;replace hm1:=Lib.hid hm1;replace hm2:=Lib.hid hm2;replace hcn:=Lib.hid hcn;replace hq:=Lib.hid hq;clear hlj hjn;go_wp2;refine bodyPost_ret (res_whole _ _ w.heap.size 58 rfl (S.out.bk _ (List.mem_of_getElem? (i:=3) rfl)).1) rfl ?_
     exact⟨_,_,_,_,_,_,_,K,rfl,⟨S.out.rd _ hm2.out,S.out.rd _ hm1.out⟩,⟨(S.out.bk _ List.mem_cons_self).2.2,(S.out.bk _ List.mem_cons_self).1⟩,fun x hx=>⟨(hcn.out x hx).1,S.out.rd _ (hcn.out x hx).2.1,S.out.rd _ (hcn.out x hx).2.2⟩,hfin.out,hK.out,S.out.bel⟩
end Go.Proofs.YtfnkpfbobdmieaaGreat
namespace Go.Proofs.YtfnkpfbobdmieaaGreat
open Go.RowKit RQ
def sca (L:List Rt) (n:Nat):Rat:=wsc (L.map (·.q)) n
end Go.Proofs.YtfnkpfbobdmieaaGreat
namespace Go.Proofs.YtfnkpfbobdmieaaGreat
open Go.RowKit RQ
def Ro0:Ro:=⟨none,0,0,[]⟩
theorem made1 (v:Value) (n:Nat):madeCells #[v] (n*1)=(List.replicate n v).toArray:=by
 apply Array.ext'
 apply List.ext_getElem?
 intro j
 rcases Nat.lt_or_ge j n with hj | hj
 ·have hl:(madeCells #[v] (n*1)).toList[j]?=some (#[v][j%1]!):=by
   unfold madeCells
   simp[hj]
  rw[hl,List.toList_toArray,List.getElem?_replicate,if_pos hj,Nat.mod_one]
  rfl
 ·rw[List.getElem?_eq_none (by simpa [size_madeCells] using hj),List.getElem?_eq_none (by simpa using hj)]
def csR (K:List Ro):List Value:=K.map Ro.v
theorem make_row (n:Nat) (hn:n≤1000000) (w:World) :
  (Instr.makeSlice 22 (.int .i64 (n:Int)) (.int .i64 (n:Int))).run Tryz.prog w=.ok (.slice (some ⟨w.heap.size,0,none⟩) n n) (w.alloc (.cells (csR (List.replicate n Ro0)).toArray 23)):=by
 obtain⟨i0,hi,hzz⟩:=Option.map_eq_some_iff.1 infoRow;simp only[Prod.mk.injEq] at hzz;obtain⟨hz0,hz1,hz2⟩:=hzz;have hr:=run_make (P:=Tryz.prog) w 22 23 i0 _ Tryz.underlying22 hi hz0 .i64 .i64 n n (by omega) (Int.le_refl _) (by rw[hz2];omega) (by omega)
 simp only[Int.toNat_natCast,hz1] at hr;have e:madeCells (Value.cells (.slice none 0 0)) (n*1)=(csR (List.replicate n Ro0)).toArray:=by
  unfold csR;rw[List.map_replicate];exact made1 (.slice none 0 0) n
 rw[hr,←e]
theorem NoLl.rows (K:List Ro):NoLl (csR K):=by
 intro v hv z e;obtain⟨r,_,hr⟩:=List.mem_map.1 hv;subst e
 simp[Ro.v] at hr
section
variable {w W:World} {bs:List Bk} {rs:List Rdg} {K:List Ro} {g t:Nat}
theorem St_rcl (h:St w W ((g,(csR K).toArray,t)::bs) rs) {j:Nat} {r:Ro} (hj:K[j]?=some r):W.cell? ⟨g,j,none⟩=some (.slice r.A r.n r.c)∧∀ k,W.frozen? ⟨g,k,none⟩=false:=by
 have hb:=h.cb 0 rfl;refine⟨hb.cell ?_,fun k=>hb.frozen k⟩
 unfold csR;rw[List.getElem?_toArray,List.getElem?_map,hj];rfl
theorem St_rset (h:St w W ((g,(csR K).toArray,t)::bs) rs) (j:Nat) (r:Ro):St w (W.setCell ⟨g,j,none⟩ (.slice r.A r.n r.c)) ((g,(csR (K.set j r)).toArray,t)::bs) rs:=by
 have:=h.set 0 j (.slice r.A r.n r.c) rfl (by nofun)
 unfold csR;rw[List.map_set,←List.setIfInBounds_toArray];exact this
theorem St_mat (h:St w W ((g,(csR K).toArray,t)::bs) rs) (hr:∀ r∈K,r.In bs rs) {k:Nat} (hk:K.length=k):Mr W (some ⟨g,0,none⟩) k k K:=by
 refine⟨hk,Nat.le_refl _,.inr ⟨g,0,rfl,(h.cb 0 rfl).lt,fun i r hi=>?_⟩,fun r hr'=>(hr r hr').sr h.sub⟩
 rw[Nat.zero_add];exact (St_rcl h hi).1
end
theorem Sr.get' {W:World} {A:Option Addr} {n c:Nat} {L:List Rt} (h:Sr W A n c L) {i:Nat} (hi:i<n):∃ b o r,A=some ⟨b,o,none⟩∧b<W.heap.size∧L[i]?=some r∧r∈L∧W.cell? ⟨b,o+i*3,none⟩=some (.bool r.b)∧W.cell? ⟨b,o+i*3+1,none⟩=some (.slice r.A r.n r.c)∧W.cell? ⟨b,o+i*3+2,none⟩=some (.slice r.D r.m r.d):=by
 have hl:=h.len
 rcases h.mem with h0 | ⟨b,o,hA,hb,hc⟩
 ·omega
 ·have e:L[i]?=some L[i]:=List.getElem?_eq_getElem (by omega)
  exact⟨b,o,L[i],hA,hb,e,List.getElem_mem _,hc i _ e⟩
end Go.Proofs.YtfnkpfbobdmieaaGreat
namespace Go.Proofs.YtfnkpfbobdmieaaGreat
open Go.RowKit RQ
structure Ln where
 A:Option Addr
 n:Nat
 c:Nat
 r:Rt
def Ln.cs (l:Ln):List Value:=.slice l.A l.n l.c::l.r.cs
section
variable {w W W':World} {bs:List Bk} {rs:List Rdg} {K:List Ln} {g t:Nat}
theorem St_own {cs:Array Value} (h:St w W bs rs) (hb:Below W.heap.size W W') (hg:W.heap.size≤g) (hc:Cb W' g cs t) (hn:NoL cs):St w W' ((g,cs,t)::bs) rs:=by
 have h2:=h.call hb;refine⟨h2.bel,fun p hp=>?_,List.pairwise_cons.2 ⟨fun p hp=>?_,h2.nd⟩,h2.rd⟩
 ·rcases List.mem_cons.1 hp with rfl | hp
  ·exact⟨hc,hn,Nat.le_trans h.bel.size hg⟩
  ·exact h2.bk p hp
 ·have:=(h.bk p hp).1.lt
  show g≠p.1
  omega
def rdsOf (L:List Rt):List Rdg:=L.flatMap fun x=>[(x.A,x.n,x.c,x.x),(x.D,x.m,x.d,x.y)]
theorem St_rds (h:St w W bs rs) {L:List Rt} (hr:∀ x∈L,x.raw W):St w W bs (rdsOf L++rs):=h.reads fun p hp=>by
 obtain⟨x,hx,hp⟩:=List.mem_flatMap.1 hp
 rcases List.mem_cons.1 hp with rfl | hp
 ·exact (hr x hx).1
 ·obtain rfl:=List.mem_singleton.1 hp;exact (hr x hx).2
theorem rdsOf_in {L:List Rt} {x:Rt} (hx:x∈L):x.rdIn (rdsOf L++rs):=⟨List.mem_append_left _ (List.mem_flatMap.2 ⟨x,hx,List.mem_cons_self⟩),List.mem_append_left _ (List.mem_flatMap.2 ⟨x,hx,List.mem_cons_of_mem _ List.mem_cons_self⟩)⟩
theorem St_srm (h:St w W bs rs) {L:List Rt} {n:Nat} (hm:(g,(csE L).toArray,t)∈bs) (hL:L.length=n) (hr:∀ x∈L,x.rdIn rs):Sr W (some ⟨g,0,none⟩) n n L:=by
 have hb:=(h.bk _ hm).1;refine⟨hL,Nat.le_refl _,.inr ⟨g,0,rfl,hb.lt,fun i r hi=>?_⟩,fun x hx=>⟨h.rd _ (hr x hx).1,h.rd _ (hr x hx).2⟩⟩
 obtain⟨e0,e1,e2⟩:=csE_arr hi;rw[Nat.zero_add];exact⟨hb.cell e0,hb.cell e1,hb.cell e2⟩
end
end Go.Proofs.YtfnkpfbobdmieaaGreat
namespace Go.Proofs.YtfnkpfbobdmieaaGreat
open Go.RowKit RQ
def LnIn (l:Ln) (L:List Rt) (n:Nat) (bs:List Bk) (rs:List Rdg):Prop:=∃ g K,l.A=some ⟨g,0,none⟩∧l.n=n∧l.c=n∧(g,(csE K).toArray,45)∈bs∧K.length=n∧(∀ x∈K,x.can∧x.rdIn rs)∧K.map (·.q)=L.map (fun r=>sca L n*r.q)∧l.r.b=ng (sca L n).num∧(l.r.A,l.r.n,l.r.c,limbs (sca L n).num.natAbs)∈rs∧(l.r.D,l.r.m,l.r.d,dn (sca L n))∈rs
theorem LnIn.mono {l:Ln} {L:List Rt} {n:Nat} {bs bs':List Bk} {rs rs':List Rdg} (h:LnIn l L n bs rs) (hb:∀ p∈bs,p∈bs') (hr:∀ p∈rs,p∈rs'):LnIn l L n bs' rs':=by
 obtain⟨g,K,h1,h2,h3,h4,h5,h6,h7,h8,h9,h10⟩:=h;exact⟨g,K,h1,h2,h3,hb _ h4,h5,fun x hx=>⟨(h6 x hx).1,hr _ (h6 x hx).2.1,hr _ (h6 x hx).2.2⟩,h7,h8,hr _ h9,hr _ h10⟩
end Go.Proofs.YtfnkpfbobdmieaaGreat
