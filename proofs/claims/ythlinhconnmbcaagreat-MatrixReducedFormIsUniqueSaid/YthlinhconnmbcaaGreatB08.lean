/- The contracts of integer in the form that the laws use. -/
import Derived.Test.YthlinhconnmbcaaGreatB06
import Derived.Test.YthlinhconnmbcaaGreatB07
import Derived.Test.YthlinhconnmbcaaGreatB01
import Derived.Test.YthlinhconnmbcaaGreatB03
import Derived.Test.YthlinhconnmbcaaGreatB02
import Derived.Test.YthlinhconnmbcaaGreatB04
import Derived.IntWalk
import Derived.Deep.CutBlock
import Derived.Lib.BitFns
import Derived.Shelf.Small.Bits
import Derived.Shelf.Small.Wraps
set_option maxRecDepth 100000
set_option maxHeartbeats 40000000
set_option linter.unusedVariables false
namespace Go.Proofs.YthlinhconnmbcaaGreat
open Go.RowKit
abbrev RetB (z:Int) (p:Nat) (w:World) (e:Ending) (w':World):Prop:=∃ A n c,e=.returned (.agg #[.bool (ng z),.slice A n c])∧Rd w' A n c (limbs z.natAbs)∧Below w.heap.size w w'∧n≤p
theorem RetI.b {z:Int} {p:Nat} {w:World} {e:Ending} {w':World} (h:RetI z w e w') (hl:(limbs z.natAbs).length≤p):RetB z p w e w':=by
 obtain⟨A,n,c,he,R,B⟩:=h;exact⟨A,n,c,he,R,B,by have:=R.len;omega⟩
end Go.Proofs.YthlinhconnmbcaaGreat
namespace Go.Proofs.YthlinhconnmbcaaGreat
open Go.RowKit RQ
def dn (q:Rat):List Nat:=if q.den=1 then [] else limbs q.den
def dv (ds:List Nat):Nat:=if ds.isEmpty then 1 else val ds
def is1 (ds:List Nat):Bool:=ds==[1]
def vldD (xs ds:List Nat):Bool:=ds.isEmpty||(vldB ds && !(is1 ds)&&Nat.gcd (val xs) (val ds)==1)
def vldR (b:Bool) (xs ds:List Nat):Bool:=vldI b xs&&vldD xs ds
def rv (b:Bool) (xs ds:List Nat):Rat:=if vldR b xs ds then mkRat (sg b (val xs)) (dv ds) else 0
theorem limbs_is1:limbs 1=[1]:=by rw[limbs_pos (by decide),show 1%4294967296=1 from rfl,show 1 / 4294967296=0 from rfl,limbs_zero]
theorem limbs_inj1 {a b:Nat} (h:limbs a=limbs b):a=b:=by have:=congrArg val h;rwa [val_limbs,val_limbs] at this
theorem dn_nil {q:Rat}:dn q=[]↔q.den=1:=by
 unfold dn;split
 ·simp[*]
 ·rename_i h
  constructor
  ·intro e;have:val (limbs q.den)=0:=by rw[e];rfl
   rw[val_limbs] at this;have:=q.den_nz;omega
  ·intro e;exact absurd e h
theorem dv_dn (q:Rat):dv (dn q)=q.den:=by
 unfold dv
 cases h:(dn q).isEmpty
 ·unfold dn at h ⊢
  split at h
  ·cases h
  ·rename_i h2;rw[if_neg h2,if_neg (by simp),val_limbs]
 ·rw[if_pos rfl];exact (dn_nil.1 (List.isEmpty_iff.1 h)).symm
theorem sg_val (z:Int):sg (ng z) (val (limbs z.natAbs))=z:=by rw[val_limbs,sg_ng]
theorem vldR_z (q:Rat):vldR (ng q.num) (limbs q.num.natAbs) (dn q)=true:=by
 unfold vldR vldD;rw[vldI_z,Bool.true_and]
 by_cases h:q.den=1
 ·rw[dn_nil.2 h];rfl
 ·have e:dn q=limbs q.den:=by unfold dn;rw[if_neg h]
  rw[e,vldB_limbs,val_limbs,val_limbs];have h1:is1 (limbs q.den)=false:=by
   unfold is1;rw[beq_eq_false_iff_ne,←limbs_is1];intro hh;exact h (limbs_inj1 hh)
  have h2:Nat.gcd q.num.natAbs q.den=1:=q.reduced;rw[h1,h2];simp
theorem rv_z (q:Rat):rv (ng q.num) (limbs q.num.natAbs) (dn q)=q:=by
 unfold rv;rw[vldR_z,if_pos rfl,sg_val,dv_dn,Rat.mkRat_self]
theorem rv_no {b:Bool} {xs ds:List Nat} (h:vldR b xs ds=false):rv b xs ds=0:=by unfold rv;rw[h];rfl
theorem canonR {b:Bool} {xs ds:List Nat} (hs:Sm xs) (hd:Sm ds) (h:vldR b xs ds=true):b=ng (rv b xs ds).num∧xs=limbs (rv b xs ds).num.natAbs∧ds=dn (rv b xs ds):=by
 have h0:=h;unfold vldR at h;rw[Bool.and_eq_true] at h;obtain⟨h1,h2⟩:=h;obtain⟨c1,c2⟩:=canon hs h1;rw[iv_yes h1] at c1 c2;have ea:(sg b (val xs)).natAbs=val xs:=abs_sg _ _;have key:(rv b xs ds).num=sg b (val xs)∧(rv b xs ds).den=dv ds:=by
  unfold rv;rw[h0,if_pos rfl];unfold vldD at h2
  cases he:ds.isEmpty
  ·rw[he,Bool.false_or,Bool.and_eq_true,Bool.and_eq_true,beq_iff_eq] at h2
   obtain⟨⟨h3,h4⟩,h5⟩:=h2;have hp:0<val ds:=val_pos h3 (by intro e;rw[e] at he;cases he)
   have e2:dv ds=val ds:=by unfold dv;rw[he];rfl
   rw[e2,Rat.num_mkRat,Rat.den_mkRat,if_neg (by omega),if_neg (by omega),Nat.gcd_comm,ea,h5]
   simp
  ·have e2:dv ds=1:=by unfold dv;rw[he];rfl
   rw[e2,Rat.num_mkRat,Rat.den_mkRat];simp
 refine⟨by rw[key.1];exact c1,by rw[key.1];exact c2,?_⟩
 unfold dn;rw[key.2];unfold vldD at h2
 cases he:ds.isEmpty
 ·rw[he,Bool.false_or,Bool.and_eq_true,Bool.and_eq_true] at h2
  obtain⟨⟨h3,h4⟩,_⟩:=h2;have e2:dv ds=val ds:=by unfold dv;rw[he];rfl
  rw[e2];have e3:limbs (val ds)=ds:=limbs_val hd h3;rw[if_neg,e3];intro e;rw[e,limbs_is1] at e3;rw[←e3] at h4;simp[is1] at h4
 ·have e2:dv ds=1:=by unfold dv;rw[he];rfl
  rw[e2,if_pos rfl];exact List.isEmpty_iff.1 he
structure RR (w:World) (A:Option Addr) (n c:Nat) (D:Option Addr) (m d:Nat) (q:Rat):Prop where
 n:Rd w A n c (limbs q.num.natAbs)
 d:Rd w D m d (dn q)
theorem RR.below {w w':World} {A:Option Addr} {n c:Nat} {D:Option Addr} {m d:Nat} {q:Rat} (h:RR w A n c D m d q) (hb:Below w.heap.size w w'):RR w' A n c D m d q:=⟨h.n.below hb,h.d.below hb⟩
theorem dn_len {q:Rat} {p:Nat} (h:Rs q p):(dn q).length≤p:=by
 unfold dn;split
 ·exact Nat.zero_le _
 ·exact limbs_len_le.2 h.d
theorem RR.lens {w:World} {A:Option Addr} {n c:Nat} {D:Option Addr} {m d:Nat} {q:Rat} {p:Nat} (h:RR w A n c D m d q) (hq:Rs q p):n≤p∧m≤p:=by
 have h1:=h.n.len;have h2:=h.d.len;have h3:(limbs q.num.natAbs).length≤p:=limbs_len_le.2 hq.n;have h4:=dn_len hq
 omega
def RetR (q:Rat) (w:World) (e:Ending) (w':World):Prop:=∃ A n c D m d,e=.returned (.agg #[.bool (ng q.num),.slice A n c,.slice D m d])∧RR w' A n c D m d q∧Below w.heap.size w w'
theorem zero_RR (w:World) (A D:Option Addr) (c d:Nat):RR w A 0 c D 0 d 0:=⟨by rw[show (0:Rat).num.natAbs=0 from rfl,limbs_zero];exact Rd.nil_ _ _ _,by rw[show dn 0=[] from rfl];exact Rd.nil_ _ _ _⟩
theorem RR.of {w:World} {b:Bool} {A:Option Addr} {n c:Nat} {xs:List Nat} {D:Option Addr} {m d:Nat} {ds:List Nat} (h1:Rd w A n c xs) (h2:Rd w D m d ds) (h:vldR b xs ds=true):RR w A n c D m d (rv b xs ds):=by
 obtain⟨_,e2,e3⟩:=canonR h1.sm h2.sm h;exact⟨e2 ▸ h1,e3 ▸ h2⟩
theorem Rs.of {b:Bool} {xs ds:List Nat} {p:Nat} (h1:Sm xs) (h2:Sm ds) (l1:xs.length≤p) (l2:ds.length≤p) (hp:1≤p):Rs (rv b xs ds) p:=by
 have hpow:=pow_mono hp
 cases h:vldR b xs ds
 ·rw[rv_no h];exact⟨by show 0<_;omega,by show 1<_;omega⟩
 ·obtain⟨_,e2,e3⟩:=canonR h1 h2 h
  rw[e2] at l1;rw[e3] at l2;refine⟨limbs_len_le.1 l1,?_⟩
  unfold dn at l2
  split at l2
  ·rename_i e;rw[e];omega
  ·exact limbs_len_le.1 l2
end Go.Proofs.YthlinhconnmbcaaGreat
namespace Go.Proofs.YthlinhconnmbcaaGreat
open Go.RowKit RQ
theorem dec1_neg {z:Int} (h:ng z=true):decide (z=1)=false:=by
 have:=of_decide_eq_true (show decide (z<0)=true from h)
 exact decide_eq_false (by omega)
theorem dec1_len {z:Int} {n:Nat} (h:(limbs z.natAbs).length=n) (hn:n≠1):decide (z=1)=false:=by
 refine decide_eq_false ?_
 rintro rfl;rw[show (1:Int).natAbs=1 from rfl,limbs_is1] at h
 exact hn h.symm
theorem dec1_one {z:Int} {x:Nat} (h:(limbs z.natAbs).length=1) (hx:(limbs z.natAbs).getD 0 0=x) (hg:ng z=false):decide (z=1)=decide (x=1)∧z=x:=by
 have hz:¬ z<0:=of_decide_eq_false (show decide (z<0)=false from hg)
 have e:limbs z.natAbs=[x]:=by
  match hq:limbs z.natAbs with
  | [y]=>rw[hq] at hx;simp at hx;rw[hx]
  | []=>rw[hq] at h;simp at h
  | _::_::_=>rw[hq] at h;simp at h
 have:=congrArg val e;rw[val_limbs] at this;have h2:val [x]=x:=by simp[val]
 rw[h2] at this;refine⟨?_,by omega⟩
 rw[decide_eq_decide];omega
theorem isOne_any (z:Int) (A:Option Addr) (n c:Nat) (w:World) (R:Rd w A n c (limbs z.natAbs)) :
  Calls Tryz.prog 118 #[.agg #[.bool (ng z),.slice A n c]] w fun e w'=>e=.returned (.bool (decide (z=1)))∧Below w.heap.size w w':=by
 have hl:=R.len;have R':=R.alloc (.cells #[.bool (ng z),.slice A n c] 31);have B:=Lib.hid ((Below.refl w.heap.size w).alloc (Nat.le_refl _) (.cells #[.bool (ng z),.slice A n c] 31))
 cases hg:ng z
 ·rw[hg] at R' B
  by_cases hn:n=1
  ·subst hn
   obtain⟨b,o,x,rfl,_,hx,hget,hc⟩:=R'.at_ (k:=0) (by omega)
   rw[Nat.add_zero] at hc;have hd:=(dec1_one hl hget hg).1;rw[hd]
   by_cases h1:x=1
   ·subst h1
    clear hd hget hx R' hl hg R;go_enter Tryz.func118,Tryz.ntmps118;go_wp2;go_ret;exact⟨rfl,B.out⟩
   ·have h2:((x:Int)==1)=false:=by rw[beq_eq_false_iff_ne];omega
    rw[decide_eq_false h1];clear hd hget hx R' hl hg R h1;go_enter Tryz.func118,Tryz.ntmps118;go_wp2;go_ret;exact⟨rfl,B.out⟩
  ·rw[dec1_len hl hn]
   have h2:((n:Int)==1)=false:=by rw[beq_eq_false_iff_ne];omega
   clear R' hl hg R hn;go_enter Tryz.func118,Tryz.ntmps118;go_wp2;go_ret;exact⟨rfl,B.out⟩
 ·rw[dec1_neg hg]
  rw[hg] at B;clear R' hl hg R;go_enter Tryz.func118,Tryz.ntmps118;go_wp2;go_ret;exact⟨rfl,B.out⟩
theorem res_denominator (W:World) (tmps:Array Value) (g t:Nat) {v0 v1:Value} (ht:tmps.getD 2 undef=.pointer (some ⟨g,0,none⟩)) (h:Cb W g #[v0,v1] t) :
  (results Tryz.f107 tmps).run Tryz.prog W=.ok (.agg #[v0,v1]) W:=by
 have c0:W.cell? ⟨g,0,none⟩=some v0:=h.cell rfl;have c1:W.cell? ⟨g,1,none⟩=some v1:=h.cell rfl;have ht':tmps[2]?.getD undef=.pointer (some ⟨g,0,none⟩):=by rw[←ht];simp[Array.getD_eq_getD_getElem?]
 simp[results,Tryz.results107,go_sem,ht',c0,c1]
theorem dn_len0 {q:Rat} {m:Nat} (h:(dn q).length=m):(m=0→(q.den:Int)=1)∧(m≠0→dn q=limbs q.den):=by
 constructor
 ·intro e;rw[e] at h
  have:=dn_nil.1 (List.eq_nil_of_length_eq_zero h);omega
 ·intro e
  unfold dn at h ⊢
  split
  ·rename_i h2;rw[if_pos h2] at h;exact absurd h.symm e
  ·rfl
theorem denominator_any (q:Rat) (A:Option Addr) (n c:Nat) (D:Option Addr) (m d:Nat) (w:World) (R:RR w A n c D m d q) :
  Calls Tryz.prog 107 #[.agg #[.bool (ng q.num),.slice A n c,.slice D m d]] w (RetI (q.den:Int) w):=by
 obtain⟨h0,h1⟩:=dn_len0 R.d.len;have R2:=R.d
 by_cases hm:m=0
 ·subst hm
  have e1:=Lib.hid (h0 rfl);clear h0 h1 R R2;have S:=(((St.new w).allocAt (w.heap.size) #[.bool (ng q.num),.slice A n c,.slice D 0 d] 33 (noL3 _ _ _ _ _ _ _) (by simp)).allocAt (w.heap.size+1) #[.bool false,.slice none 0 0] 31 (noL2 _ _ _ _) (by simp))
  replace S:=Lib.hid S;go_enter Tryz.func107,Tryz.ntmps107
  go_wp2_with fail
  refine (fromInt_any 1 _ (by decide) (by decide)).mono ?_
  rintro e w1 ⟨A1,n1,c1,rfl,Q,bb⟩;have T:=((S.out.call bb).read Q);clear bb S;have S:=T;clear T;obtain⟨c_r0,c_r1,f_r0,f_r1⟩:=S.cf2 0 rfl;obtain⟨c_x0,c_x1,c_x2,f_x0,f_x1,f_x2⟩:=S.cf3 1 rfl;have hz:w.heap.size+1<w1.heap.size:=S.lt 0 rfl;replace S:=Lib.hid S;clear Q;have S:St w _ [(w.heap.size+1,#[.bool (ng 1),.slice A1 n1 c1],31),(w.heap.size,#[.bool (ng q.num),.slice A n c,.slice D 0 d],33)] [(A1,n1,c1,limbs (1:Int).natAbs)]:=((S.out.set 0 0 (.bool (ng 1)) rfl (by nofun)).set 0 1 (.slice A1 n1 c1) rfl (by nofun))
  replace S:=Lib.hid S;go_wp2;refine bodyPost_ret (res_denominator _ _ (w.heap.size+1) 31 rfl (S.out.bk _ (List.mem_of_getElem? (i:=0) rfl)).1) rfl ?_
  rw[e1.out];exact ret_I rfl (S.out.r 0 rfl) S.out.bel
 ·have e1:=h1 hm
  rw[e1] at R2;have h2:((m:Int)==0)=false:=by rw[beq_eq_false_iff_ne];omega
  have hg:Hid (false=ng (q.den:Int)):=Lib.hid (decide_eq_false (by omega)).symm
  replace e1:=Lib.hid e1;clear h0 h1 R hm;have S:=((((St.new w).read R2).allocAt (w.heap.size) #[.bool (ng q.num),.slice A n c,.slice D m d] 33 (noL3 _ _ _ _ _ _ _) (by simp)).allocAt (w.heap.size+1) #[.bool false,.slice D m d] 31 (noL2 _ _ _ _) (by simp))
  replace S:=Lib.hid S;clear R2;go_enter Tryz.func107,Tryz.ntmps107;have S:=S.out;replace S:=Lib.hid S;go_wp2;refine bodyPost_ret (res_denominator _ _ (w.heap.size+1) 31 rfl (S.out.bk _ (List.mem_of_getElem? (i:=0) rfl)).1) rfl ?_
  exact ret_I hg.out (by rw[Int.natAbs_natCast];exact S.out.r 0 rfl) S.out.bel
theorem res_fraction (W:World) (tmps:Array Value) (g t:Nat) {v0 v1 v2:Value} (ht:tmps.getD 4 undef=.pointer (some ⟨g,0,none⟩)) (h:Cb W g #[v0,v1,v2] t) :
  (results Tryz.f110 tmps).run Tryz.prog W=.ok (.agg #[v0,v1,v2]) W:=by
 have c0:W.cell? ⟨g,0,none⟩=some v0:=h.cell rfl;have c1:W.cell? ⟨g,1,none⟩=some v1:=h.cell rfl;have c2:W.cell? ⟨g,2,none⟩=some v2:=h.cell rfl;have ht':tmps[4]?.getD undef=.pointer (some ⟨g,0,none⟩):=by rw[←ht];simp[Array.getD_eq_getD_getElem?]
 simp[results,Tryz.results110,go_sem,ht',c0,c1,c2]
theorem fraction_any (q:Rat) (A:Option Addr) (n c:Nat) (D:Option Addr) (m d:Nat) (w:World) (R1:Rd w A n c (limbs q.num.natAbs)) (R2:Rd w D m d (limbs q.den)) :
  Calls Tryz.prog 110 #[.agg #[.bool (ng q.num),.slice A n c],.agg #[.bool false,.slice D m d]] w (RetR q w):=by
 have S:=((((((St.new w).read R1).read R2).allocAt (w.heap.size) #[.bool (ng q.num),.slice A n c] 31 (noL2 _ _ _ _) (by simp)).allocAt (w.heap.size+1) #[.bool false,.slice D m d] 31 (noL2 _ _ _ _) (by simp)).allocAt (w.heap.size+1+1) #[.bool false,.slice none 0 0,.slice none 0 0] 33 (noL3 _ _ _ _ _ _ _) (by simp))
 have h1:=isOne_any (q.den:Int) D m d _ (by rw[Int.natAbs_natCast];exact S.r 0 rfl)
 rw[show ng (q.den:Int)=false from decide_eq_false (by omega)] at h1
 replace S:=Lib.hid S
 by_cases hd:q.den=1
 ·rw[show decide ((q.den:Int)=1)=true from decide_eq_true (by omega)] at h1
  replace h1:=Lib.hid h1;have e1:=Lib.hid (dn_nil.2 hd);clear hd R1 R2;go_enter Tryz.func110,Tryz.ntmps110
  go_wp2_with fail
  refine (h1.out).mono ?_
  rintro e w1 ⟨rfl,bb⟩;have T:=(S.out.call bb);clear bb S;have S:=T;clear T;obtain⟨c_r0,c_r1,c_r2,f_r0,f_r1,f_r2⟩:=S.cf3 0 rfl;obtain⟨c_y0,c_y1,f_y0,f_y1⟩:=S.cf2 1 rfl;obtain⟨c_x0,c_x1,f_x0,f_x1⟩:=S.cf2 2 rfl;have hz:w.heap.size+1+1<w1.heap.size:=S.lt 0 rfl;replace S:=Lib.hid S;have S:St w _ [(w.heap.size+1+1,#[.bool (ng q.num),.slice A n c,.slice none 0 0],33),(w.heap.size+1,#[.bool false,.slice D m d],31),(w.heap.size,#[.bool (ng q.num),.slice A n c],31)] [(D,m,d,limbs q.den),(A,n,c,limbs q.num.natAbs)]:=(((S.out.set 0 0 (.bool (ng q.num)) rfl (by nofun)).set 0 1 (.slice A n c) rfl (by nofun)).set 0 2 (.slice none 0 0) rfl (by nofun))
  replace S:=Lib.hid S;go_wp2;refine bodyPost_ret (res_fraction _ _ (w.heap.size+1+1) 33 rfl (S.out.bk _ (List.mem_of_getElem? (i:=0) rfl)).1) rfl ?_
  exact⟨_,_,_,_,_,_,rfl,⟨S.out.r 1 rfl,by rw[e1.out];exact Rd.nil_ _ _ _⟩,S.out.bel⟩
 ·rw[show decide ((q.den:Int)=1)=false from decide_eq_false (by omega)] at h1
  replace h1:=Lib.hid h1;have e1:Hid (dn q=limbs q.den):=Lib.hid (by unfold dn;rw[if_neg hd])
  clear hd R1 R2;go_enter Tryz.func110,Tryz.ntmps110
  go_wp2_with fail
  refine (h1.out).mono ?_
  rintro e w1 ⟨rfl,bb⟩;have T:=(S.out.call bb);clear bb S;have S:=T;clear T;obtain⟨c_r0,c_r1,c_r2,f_r0,f_r1,f_r2⟩:=S.cf3 0 rfl;obtain⟨c_y0,c_y1,f_y0,f_y1⟩:=S.cf2 1 rfl;obtain⟨c_x0,c_x1,f_x0,f_x1⟩:=S.cf2 2 rfl;have hz:w.heap.size+1+1<w1.heap.size:=S.lt 0 rfl;replace S:=Lib.hid S;have S:St w _ [(w.heap.size+1+1,#[.bool (ng q.num),.slice A n c,.slice D m d],33),(w.heap.size+1,#[.bool false,.slice D m d],31),(w.heap.size,#[.bool (ng q.num),.slice A n c],31)] [(D,m,d,limbs q.den),(A,n,c,limbs q.num.natAbs)]:=(((S.out.set 0 0 (.bool (ng q.num)) rfl (by nofun)).set 0 1 (.slice A n c) rfl (by nofun)).set 0 2 (.slice D m d) rfl (by nofun))
  replace S:=Lib.hid S;go_wp2;refine bodyPost_ret (res_fraction _ _ (w.heap.size+1+1) 33 rfl (S.out.bk _ (List.mem_of_getElem? (i:=0) rfl)).1) rfl ?_
  exact⟨_,_,_,_,_,_,rfl,⟨S.out.r 1 rfl,by rw[e1.out];exact S.out.r 0 rfl⟩,S.out.bel⟩
theorem res_divisor (W:World) (tmps:Array Value) (g t:Nat) {v0 v1:Value} (ht:tmps.getD 4 undef=.pointer (some ⟨g,0,none⟩)) (h:Cb W g #[v0,v1] t) :
  (results Tryz.f108 tmps).run Tryz.prog W=.ok (.agg #[v0,v1]) W:=by
 have c0:W.cell? ⟨g,0,none⟩=some v0:=h.cell rfl;have c1:W.cell? ⟨g,1,none⟩=some v1:=h.cell rfl;have ht':tmps[4]?.getD undef=.pointer (some ⟨g,0,none⟩):=by rw[←ht];simp[Array.getD_eq_getD_getElem?]
 simp[results,Tryz.results108,go_sem,ht',c0,c1]
theorem divisor_any (b:Bool) (A:Option Addr) (n c:Nat) (xs:List Nat) (b':Bool) (A':Option Addr) (n' c':Nat) (ys:List Nat) (w:World) (R1:Rd w A n c xs) (R2:Rd w A' n' c' ys) (hn:n≤50000000) (hn':n'≤50000000) :
  Calls Tryz.prog 108 #[.agg #[.bool b,.slice A n c],.agg #[.bool b',.slice A' n' c']] w (RetI (Int.gcd (iv b xs) (iv b' ys):Int) w):=by
 have S:=((((((St.new w).read R1).read R2).allocAt (w.heap.size) #[.bool b,.slice A n c] 31 (noL2 _ _ _ _) (by simp)).allocAt (w.heap.size+1) #[.bool b',.slice A' n' c'] 31 (noL2 _ _ _ _) (by simp)).allocAt (w.heap.size+1+1) #[.bool false,.slice none 0 0] 31 (noL2 _ _ _ _) (by simp))
 have hG:=Lib.hid (gcdI_any b A n c xs b' A' n' c' ys _ (S.r 1 rfl) (S.r 0 rfl) hn hn');replace S:=Lib.hid S;clear R1 R2;generalize Int.gcd (iv b xs) (iv b' ys)=G at hG ⊢;have hg:Hid (false=ng (G:Int)):=Lib.hid (decide_eq_false (by omega)).symm
 go_enter Tryz.func108,Tryz.ntmps108
 go_wp2_with fail
 refine (hG.out).mono ?_
 rintro e w1 ⟨A1,n1,c1,rfl,Q,bb⟩;have T:=((S.out.call bb).read Q);clear bb S;have S:=T;clear T;obtain⟨c_r0,c_r1,f_r0,f_r1⟩:=S.cf2 0 rfl;obtain⟨c_y0,c_y1,f_y0,f_y1⟩:=S.cf2 1 rfl;obtain⟨c_x0,c_x1,f_x0,f_x1⟩:=S.cf2 2 rfl;have hz:w.heap.size+1+1<w1.heap.size:=S.lt 0 rfl;replace S:=Lib.hid S;clear Q hG;have S:St w _ [(w.heap.size+1+1,#[.bool false,.slice A1 n1 c1],31),(w.heap.size+1,#[.bool b',.slice A' n' c'],31),(w.heap.size,#[.bool b,.slice A n c],31)] [(A1,n1,c1,limbs G),(A',n',c',ys),(A,n,c,xs)]:=((S.out.set 0 0 (.bool false) rfl (by nofun)).set 0 1 (.slice A1 n1 c1) rfl (by nofun))
 replace S:=Lib.hid S;go_wp2;refine bodyPost_ret (res_divisor _ _ (w.heap.size+1+1) 31 rfl (S.out.bk _ (List.mem_of_getElem? (i:=0) rfl)).1) rfl ?_
 exact ret_I hg.out (by rw[Int.natAbs_natCast];exact S.out.r 0 rfl) S.out.bel
theorem res_over (W:World) (tmps:Array Value) (g t:Nat) {v0 v1:Value} (ht:tmps.getD 4 undef=.pointer (some ⟨g,0,none⟩)) (h:Cb W g #[v0,v1] t) :
  (results Tryz.f109 tmps).run Tryz.prog W=.ok (.agg #[v0,v1]) W:=by
 have c0:W.cell? ⟨g,0,none⟩=some v0:=h.cell rfl;have c1:W.cell? ⟨g,1,none⟩=some v1:=h.cell rfl;have ht':tmps[4]?.getD undef=.pointer (some ⟨g,0,none⟩):=by rw[←ht];simp[Array.getD_eq_getD_getElem?]
 simp[results,Tryz.results109,go_sem,ht',c0,c1]
theorem over_any (z:Int) (A:Option Addr) (n c:Nat) (g:Nat) (A':Option Addr) (n' c':Nat) (w:World) (R1:Rd w A n c (limbs z.natAbs)) (R2:Rd w A' n' c' (limbs g)) (hn:n≤50000000) (hn':n'≤50000000) (hg:0<g) :
  Calls Tryz.prog 109 #[.agg #[.bool (ng z),.slice A n c],.agg #[.bool false,.slice A' n' c']] w (RetI (z / (g:Int)) w):=by
 have eg:ng (g:Int)=false:=decide_eq_false (by omega)
 have S:=((((((St.new w).read R1).read R2).allocAt (w.heap.size) #[.bool (ng z),.slice A n c] 31 (noL2 _ _ _ _) (by simp)).allocAt (w.heap.size+1) #[.bool false,.slice A' n' c'] 31 (noL2 _ _ _ _) (by simp)).allocAt (w.heap.size+1+1) #[.bool false,.slice none 0 0] 31 (noL2 _ _ _ _) (by simp))
 have h1:=isOne_any (g:Int) A' n' c' _ (by rw[Int.natAbs_natCast];exact S.r 0 rfl)
 rw[eg] at h1;replace S:=Lib.hid S
 by_cases h0:g=1
 ·rw[show decide ((g:Int)=1)=true from decide_eq_true (by omega)] at h1
  replace h1:=Lib.hid h1;have e1:Hid (z / (g:Int)=z):=Lib.hid (by rw[h0];exact Int.ediv_one z)
  clear h0 R1 R2 hg eg;go_enter Tryz.func109,Tryz.ntmps109
  go_wp2_with fail
  refine (h1.out).mono ?_
  rintro e w1 ⟨rfl,bb⟩;have T:=(S.out.call bb);clear bb S;have S:=T;clear T;obtain⟨c_r0,c_r1,f_r0,f_r1⟩:=S.cf2 0 rfl;obtain⟨c_y0,c_y1,f_y0,f_y1⟩:=S.cf2 1 rfl;obtain⟨c_x0,c_x1,f_x0,f_x1⟩:=S.cf2 2 rfl;have hz:w.heap.size+1+1<w1.heap.size:=S.lt 0 rfl;replace S:=Lib.hid S;have S:St w _ [(w.heap.size+1+1,#[.bool (ng z),.slice A n c],31),(w.heap.size+1,#[.bool false,.slice A' n' c'],31),(w.heap.size,#[.bool (ng z),.slice A n c],31)] [(A',n',c',limbs g),(A,n,c,limbs z.natAbs)]:=((S.out.set 0 0 (.bool (ng z)) rfl (by nofun)).set 0 1 (.slice A n c) rfl (by nofun))
  replace S:=Lib.hid S;go_wp2;refine bodyPost_ret (res_over _ _ (w.heap.size+1+1) 31 rfl (S.out.bk _ (List.mem_of_getElem? (i:=0) rfl)).1) rfl ?_
  rw[e1.out];exact ret_I rfl (S.out.r 1 rfl) S.out.bel
 ·rw[show decide ((g:Int)=1)=false from decide_eq_false (by omega)] at h1
  replace h1:=Lib.hid h1;have hD:Hid (∀ W,Rd W A n c (limbs z.natAbs)→Rd W A' n' c' (limbs g)→Calls Tryz.prog 124 #[.agg #[.bool (ng z),.slice A n c],.agg #[.bool false,.slice A' n' c']] W (RetD2 (z / (g:Int)) (z%(g:Int)) W)):=Lib.hid fun W Q1 Q2=>by
   have:=divI_any (ng z) A n c _ (ng (g:Int)) A' n' c' _ W Q1 (by rw[Int.natAbs_natCast];exact Q2:Rd W A' n' c' (limbs (g:Int).natAbs)) hn hn' (by rw[iv_z];omega)
   rwa [iv_z,iv_z,eg] at this
  clear h0 R1 R2 eg hg;generalize z / (g:Int)=q at hD ⊢;generalize z%(g:Int)=r at hD;go_enter Tryz.func109,Tryz.ntmps109
  go_wp2_with fail
  refine (h1.out).mono ?_
  rintro e w1 ⟨rfl,bb⟩;have T:=(S.out.call bb);clear bb S;have S:=T;clear T;obtain⟨c_r0,c_r1,f_r0,f_r1⟩:=S.cf2 0 rfl;obtain⟨c_y0,c_y1,f_y0,f_y1⟩:=S.cf2 1 rfl;obtain⟨c_x0,c_x1,f_x0,f_x1⟩:=S.cf2 2 rfl;have hz:w.heap.size+1+1<w1.heap.size:=S.lt 0 rfl;replace S:=Lib.hid S
  go_wp2_with fail
  refine (hD.out _ (S.out.r 1 rfl) (S.out.r 0 rfl)).mono ?_
  rintro e w2 ⟨A3,n3,c3,A4,n4,c4,rfl,Q3,Q4,bb⟩;have T:=(((S.out.call bb).read Q3).read Q4);clear bb S c_r0 f_r0 c_r1 f_r1 c_y0 f_y0 c_y1 f_y1 c_x0 f_x0 c_x1 f_x1 hz;have S:=T;clear T;obtain⟨c_r0,c_r1,f_r0,f_r1⟩:=S.cf2 0 rfl;obtain⟨c_y0,c_y1,f_y0,f_y1⟩:=S.cf2 1 rfl;obtain⟨c_x0,c_x1,f_x0,f_x1⟩:=S.cf2 2 rfl;have hz:w.heap.size+1+1<w2.heap.size:=S.lt 0 rfl;replace S:=Lib.hid S;clear Q3 Q4 hD h1;have S:=((S.out.allocAt (w2.heap.size) #[.bool (ng q),.slice A3 n3 c3] 31 (noL2 _ _ _ _) (by simp)).allocAt (w2.heap.size+1) #[.bool (ng r),.slice A4 n4 c4] 31 (noL2 _ _ _ _) (by simp))
  obtain⟨a_r0,a_r1,b_r0,b_r1⟩:=S.cf2 2 rfl;replace S:=Lib.hid S;have S:St w _ [(w2.heap.size+1,#[.bool (ng r),.slice A4 n4 c4],31),(w2.heap.size,#[.bool (ng q),.slice A3 n3 c3],31),(w.heap.size+1+1,#[.bool (ng q),.slice A3 n3 c3],31),(w.heap.size+1,#[.bool false,.slice A' n' c'],31),(w.heap.size,#[.bool (ng z),.slice A n c],31)] [(A4,n4,c4,limbs r.natAbs),(A3,n3,c3,limbs q.natAbs),(A',n',c',limbs g),(A,n,c,limbs z.natAbs)]:=((S.out.set 2 0 (.bool (ng q)) rfl (by nofun)).set 2 1 (.slice A3 n3 c3) rfl (by nofun))
  replace S:=Lib.hid S;go_wp2;refine bodyPost_ret (res_over _ _ (w.heap.size+1+1) 31 rfl (S.out.bk _ (List.mem_of_getElem? (i:=2) rfl)).1) rfl ?_
  exact ret_I rfl (S.out.r 1 rfl) S.out.bel
end Go.Proofs.YthlinhconnmbcaaGreat
namespace Go.Proofs.YthlinhconnmbcaaGreat
open Go.RowKit RQ
theorem divisorOfInts_any (v y:Nat) (w:World) (hv:v≤9223372036854775807) (hy:y≤9223372036854775807) :
  Calls Tryz.prog 121 #[.int .i64 (v:Int),.int .i64 (y:Int)] w fun e w'=>e=.returned (.int .i64 (Nat.gcd v y:Nat))∧Below w.heap.size w w':=by
 replace hv:=Lib.hid hv;replace hy:=Lib.hid hy;go_enter Tryz.func121,Tryz.ntmps121;go_wp2
 go_loopg [0,1] y (fun b av bv wr=>∃ a:Nat,av=.int .i64 (a:Int)∧bv=.int .i64 (b:Int)∧Nat.gcd a b=Nat.gcd v y∧a≤9223372036854775807∧b≤9223372036854775807∧Below w.heap.size w wr)
 case atStart=>exact⟨v,rfl,rfl,rfl,hv.out,hy.out,Below.refl _ _⟩
 case round=>
  obtain⟨a,rfl,rfl,hg,ha,hb,hB⟩:=hrel
  by_cases h0:gk=0
  ·subst h0
   rw[Nat.gcd_zero_right] at hg;replace hg:=Lib.hid hg;replace hB:=Lib.hid hB;go_wp2;go_ret;exact⟨congrArg (fun q:Nat=>Ending.returned (.int .i64 (q:Int))) hg.out,hB.out⟩
  ·have hne:((gk:Int) != 0)=true:=by simp;omega
   have hpos:(1:Int)≤(gk:Int):=by omega
   have ha0:(0:Int)≤(a:Int):=by omega
   have hml:=Nat.mod_lt a (show 0<gk by omega)
   have hw:IntKind.i64.wrap ((a:Int).tmod (gk:Int))=((a%gk:Nat):Int):=by
    rw[Int.tmod_eq_emod_of_nonneg ha0,←Int.natCast_emod];exact IntWalk.i64_in _ (by have:=Nat.mod_le a gk;omega)
   have hg2:=(gcd_step a gk).trans hg;replace hg2:=Lib.hid hg2;replace hml:=Lib.hid hml;replace hB:=Lib.hid hB;replace hb:=Lib.hid hb;clear hg h0 ha;go_wp2
   go_quiet (fail)
   go_wp2
   go_roundg (a%gk)
   case measure=>exact hml.out
   case rel=>exact⟨gk,rfl,rfl,hg2.out,hb.out,by have:=hml.out;have:=hb.out;omega,below_drewN hB.out _⟩
theorem iv_pos (N:Nat):iv false (limbs N)=(N:Int):=by
 have:=iv_z (N:Int)
 rwa [show ng (N:Int)=false from decide_eq_false (by omega),Int.natAbs_natCast] at this
theorem toInt_small (N:Nat) (A:Option Addr) (n c:Nat) (w:World) (h:Rd w A n c (limbs N)) (hn:n≤100000000) (hN:N≤9223372036854775807) :
  Calls Tryz.prog 128 #[.agg #[.bool false,.slice A n c]] w fun e w'=>e=.returned (.tuple #[.int .i64 (N:Int),.bool true])∧Below w.heap.size w w':=by
 have:=toInt_any false A n c _ w h hn;rw[iv_pos] at this;have e:tk (N:Int)=true:=decide_eq_true (by omega)
 have e2:ti (N:Int)=N:=by unfold ti;rw[e];rfl
 rwa [e,e2] at this
theorem toInt_big (N:Nat) (A:Option Addr) (n c:Nat) (w:World) (h:Rd w A n c (limbs N)) (hn:n≤100000000) (hN:9223372036854775807<N) :
  Calls Tryz.prog 128 #[.agg #[.bool false,.slice A n c]] w fun e w'=>e=.returned (.tuple #[.int .i64 0,.bool false])∧Below w.heap.size w w':=by
 have:=toInt_any false A n c _ w h hn;rw[iv_pos] at this;have e:tk (N:Int)=false:=decide_eq_false (by omega)
 have e2:ti (N:Int)=0:=by unfold ti;rw[e];rfl
 rwa [e,e2] at this
theorem isReduced_any (z:Int) (A:Option Addr) (n c:Nat) (M:Nat) (A':Option Addr) (n' c':Nat) (w:World) (R1:Rd w A n c (limbs z.natAbs)) (R2:Rd w A' n' c' (limbs M)) (hn:n≤50000000) (hn':n'≤50000000) :
  Calls Tryz.prog 119 #[.agg #[.bool (ng z),.slice A n c],.agg #[.bool false,.slice A' n' c']] w fun e w'=>e=.returned (.bool (Nat.gcd z.natAbs M==1))∧Below w.heap.size w w':=by
 obtain⟨N,hN⟩:∃ N,z.natAbs=N:=⟨_,rfl⟩;rw[hN] at R1;rw[hN];have S:=(((((St.new w).read R1).read R2).allocAt (w.heap.size) #[.bool (ng z),.slice A n c] 31 (noL2 _ _ _ _) (by simp)).allocAt (w.heap.size+1) #[.bool false,.slice A' n' c'] 31 (noL2 _ _ _ _) (by simp))
 replace S:=Lib.hid S;clear R1 R2
 rcases Nat.lt_or_ge 9223372036854775807 N with h1 | h1
 ·have hT:=Lib.hid (fun W h=>toInt_big N A n c W h (by omega) h1)
  rcases Nat.lt_or_ge 9223372036854775807 M with h2 | h2
  ·have hU:=Lib.hid (fun W h=>toInt_big M A' n' c' W h (by omega) h2)
   have hG:Hid (∀ W,Rd W A n c (limbs N)→Rd W A' n' c' (limbs M)→Calls Tryz.prog 108 #[.agg #[.bool (ng z),.slice A n c],.agg #[.bool false,.slice A' n' c']] W fun e W'=>∃ A n c,e=.returned (.agg #[.bool false,.slice A n c])∧Rd W' A n c (limbs (Nat.gcd N M))∧Below W.heap.size W W'):=Lib.hid fun W Q1 Q2=>by
    have:=divisor_any (ng z) A n c _ false A' n' c' _ W Q1 Q2 hn hn';rw[iv_pos,←hN,iv_z] at this;have e:Int.gcd z (M:Int)=Nat.gcd z.natAbs M:=rfl;rw[e] at this;refine this.mono fun e W' h=>?_
    obtain⟨A,n,c,he,R,B⟩:=h;rw[show ng ((Nat.gcd z.natAbs M:Nat):Int)=false from decide_eq_false (by omega)] at he
    rw[Int.natAbs_natCast,hN] at R;exact⟨A,n,c,he,R,B⟩
   have hO:Hid (∀ W A n c,Rd W A n c (limbs (Nat.gcd N M))→Calls Tryz.prog 118 #[.agg #[.bool false,.slice A n c]] W fun e W'=>e=.returned (.bool (Nat.gcd N M==1))∧Below W.heap.size W W'):=Lib.hid fun W A n c Q=>by
    have:=isOne_any ((Nat.gcd N M:Nat):Int) A n c W (by rw[Int.natAbs_natCast];exact Q)
    rw[show ng ((Nat.gcd N M:Nat):Int)=false from decide_eq_false (by omega)] at this
    have e:decide (((Nat.gcd N M:Nat):Int)=1)=(Nat.gcd N M==1):=by rw[Bool.eq_iff_iff,decide_eq_true_iff,beq_iff_eq];omega
    rwa [e] at this
   clear hN;generalize Nat.gcd N M=G at hG hO ⊢;clear h1 h2 hn hn';go_enter Tryz.func119,Tryz.ntmps119
   go_wp2_with fail
   refine (hT.out _ (S.out.r 1 rfl)).mono ?_
   rintro e w1 ⟨rfl,bb⟩;have T:=(S.out.call bb);clear bb S;have S:=T;clear T;obtain⟨c_y0,c_y1,f_y0,f_y1⟩:=S.cf2 0 rfl;obtain⟨c_x0,c_x1,f_x0,f_x1⟩:=S.cf2 1 rfl;have hz:w.heap.size+1<w1.heap.size:=S.lt 0 rfl;replace S:=Lib.hid S
   go_wp2_with fail
   refine (hU.out _ (S.out.r 0 rfl)).mono ?_
   rintro e w2 ⟨rfl,bb⟩;have T:=(S.out.call bb);clear bb S c_y0 f_y0 c_y1 f_y1 c_x0 f_x0 c_x1 f_x1 hz;have S:=T;clear T;obtain⟨c_y0,c_y1,f_y0,f_y1⟩:=S.cf2 0 rfl;obtain⟨c_x0,c_x1,f_x0,f_x1⟩:=S.cf2 1 rfl;have hz:w.heap.size+1<w2.heap.size:=S.lt 0 rfl;replace S:=Lib.hid S
   go_wp2_with fail
   refine (hG.out _ (S.out.r 1 rfl) (S.out.r 0 rfl)).mono ?_
   rintro e w3 ⟨A3,n3,c3,rfl,Q3,bb⟩;have T:=((S.out.call bb).read Q3);clear bb S c_y0 f_y0 c_y1 f_y1 c_x0 f_x0 c_x1 f_x1 hz;have S:=T;clear T;obtain⟨c_y0,c_y1,f_y0,f_y1⟩:=S.cf2 0 rfl;obtain⟨c_x0,c_x1,f_x0,f_x1⟩:=S.cf2 1 rfl;have hz:w.heap.size+1<w3.heap.size:=S.lt 0 rfl;replace S:=Lib.hid S;clear Q3
   go_wp2_with fail
   refine (hO.out _ A3 n3 c3 (S.out.r 0 rfl)).mono ?_
   rintro e w4 ⟨rfl,bb⟩;have T:=(S.out.call bb);clear bb S c_y0 f_y0 c_y1 f_y1 c_x0 f_x0 c_x1 f_x1 hz;have S:=T;clear T;obtain⟨c_y0,c_y1,f_y0,f_y1⟩:=S.cf2 0 rfl;obtain⟨c_x0,c_x1,f_x0,f_x1⟩:=S.cf2 1 rfl;have hz:w.heap.size+1<w4.heap.size:=S.lt 0 rfl;replace S:=Lib.hid S;have S:=S.out;replace S:=Lib.hid S;go_wp2;go_ret;exact⟨rfl,S.out.bel⟩
  ·have hU:=Lib.hid (fun W h=>toInt_small M A' n' c' W h (by omega) h2)
   have hG:Hid (∀ W,Rd W A n c (limbs N)→Rd W A' n' c' (limbs M)→Calls Tryz.prog 108 #[.agg #[.bool (ng z),.slice A n c],.agg #[.bool false,.slice A' n' c']] W fun e W'=>∃ A n c,e=.returned (.agg #[.bool false,.slice A n c])∧Rd W' A n c (limbs (Nat.gcd N M))∧Below W.heap.size W W'):=Lib.hid fun W Q1 Q2=>by
    have:=divisor_any (ng z) A n c _ false A' n' c' _ W Q1 Q2 hn hn';rw[iv_pos,←hN,iv_z] at this;have e:Int.gcd z (M:Int)=Nat.gcd z.natAbs M:=rfl;rw[e] at this;refine this.mono fun e W' h=>?_
    obtain⟨A,n,c,he,R,B⟩:=h;rw[show ng ((Nat.gcd z.natAbs M:Nat):Int)=false from decide_eq_false (by omega)] at he
    rw[Int.natAbs_natCast,hN] at R;exact⟨A,n,c,he,R,B⟩
   have hO:Hid (∀ W A n c,Rd W A n c (limbs (Nat.gcd N M))→Calls Tryz.prog 118 #[.agg #[.bool false,.slice A n c]] W fun e W'=>e=.returned (.bool (Nat.gcd N M==1))∧Below W.heap.size W W'):=Lib.hid fun W A n c Q=>by
    have:=isOne_any ((Nat.gcd N M:Nat):Int) A n c W (by rw[Int.natAbs_natCast];exact Q)
    rw[show ng ((Nat.gcd N M:Nat):Int)=false from decide_eq_false (by omega)] at this
    have e:decide (((Nat.gcd N M:Nat):Int)=1)=(Nat.gcd N M==1):=by rw[Bool.eq_iff_iff,decide_eq_true_iff,beq_iff_eq];omega
    rwa [e] at this
   clear hN;generalize Nat.gcd N M=G at hG hO ⊢;clear h1 h2 hn hn';go_enter Tryz.func119,Tryz.ntmps119
   go_wp2_with fail
   refine (hT.out _ (S.out.r 1 rfl)).mono ?_
   rintro e w1 ⟨rfl,bb⟩;have T:=(S.out.call bb);clear bb S;have S:=T;clear T;obtain⟨c_y0,c_y1,f_y0,f_y1⟩:=S.cf2 0 rfl;obtain⟨c_x0,c_x1,f_x0,f_x1⟩:=S.cf2 1 rfl;have hz:w.heap.size+1<w1.heap.size:=S.lt 0 rfl;replace S:=Lib.hid S
   go_wp2_with fail
   refine (hU.out _ (S.out.r 0 rfl)).mono ?_
   rintro e w2 ⟨rfl,bb⟩;have T:=(S.out.call bb);clear bb S c_y0 f_y0 c_y1 f_y1 c_x0 f_x0 c_x1 f_x1 hz;have S:=T;clear T;obtain⟨c_y0,c_y1,f_y0,f_y1⟩:=S.cf2 0 rfl;obtain⟨c_x0,c_x1,f_x0,f_x1⟩:=S.cf2 1 rfl;have hz:w.heap.size+1<w2.heap.size:=S.lt 0 rfl;replace S:=Lib.hid S
   go_wp2_with fail
   refine (hG.out _ (S.out.r 1 rfl) (S.out.r 0 rfl)).mono ?_
   rintro e w3 ⟨A3,n3,c3,rfl,Q3,bb⟩;have T:=((S.out.call bb).read Q3);clear bb S c_y0 f_y0 c_y1 f_y1 c_x0 f_x0 c_x1 f_x1 hz;have S:=T;clear T;obtain⟨c_y0,c_y1,f_y0,f_y1⟩:=S.cf2 0 rfl;obtain⟨c_x0,c_x1,f_x0,f_x1⟩:=S.cf2 1 rfl;have hz:w.heap.size+1<w3.heap.size:=S.lt 0 rfl;replace S:=Lib.hid S;clear Q3
   go_wp2_with fail
   refine (hO.out _ A3 n3 c3 (S.out.r 0 rfl)).mono ?_
   rintro e w4 ⟨rfl,bb⟩;have T:=(S.out.call bb);clear bb S c_y0 f_y0 c_y1 f_y1 c_x0 f_x0 c_x1 f_x1 hz;have S:=T;clear T;obtain⟨c_y0,c_y1,f_y0,f_y1⟩:=S.cf2 0 rfl;obtain⟨c_x0,c_x1,f_x0,f_x1⟩:=S.cf2 1 rfl;have hz:w.heap.size+1<w4.heap.size:=S.lt 0 rfl;replace S:=Lib.hid S;have S:=S.out;replace S:=Lib.hid S;go_wp2;go_ret;exact⟨rfl,S.out.bel⟩
 ·have hT:=Lib.hid (fun W h=>toInt_small N A n c W h (by omega) h1)
  rcases Nat.lt_or_ge 9223372036854775807 M with h2 | h2
  ·have hU:=Lib.hid (fun W h=>toInt_big M A' n' c' W h (by omega) h2)
   have hG:Hid (∀ W,Rd W A n c (limbs N)→Rd W A' n' c' (limbs M)→Calls Tryz.prog 108 #[.agg #[.bool (ng z),.slice A n c],.agg #[.bool false,.slice A' n' c']] W fun e W'=>∃ A n c,e=.returned (.agg #[.bool false,.slice A n c])∧Rd W' A n c (limbs (Nat.gcd N M))∧Below W.heap.size W W'):=Lib.hid fun W Q1 Q2=>by
    have:=divisor_any (ng z) A n c _ false A' n' c' _ W Q1 Q2 hn hn';rw[iv_pos,←hN,iv_z] at this;have e:Int.gcd z (M:Int)=Nat.gcd z.natAbs M:=rfl;rw[e] at this;refine this.mono fun e W' h=>?_
    obtain⟨A,n,c,he,R,B⟩:=h;rw[show ng ((Nat.gcd z.natAbs M:Nat):Int)=false from decide_eq_false (by omega)] at he
    rw[Int.natAbs_natCast,hN] at R;exact⟨A,n,c,he,R,B⟩
   have hO:Hid (∀ W A n c,Rd W A n c (limbs (Nat.gcd N M))→Calls Tryz.prog 118 #[.agg #[.bool false,.slice A n c]] W fun e W'=>e=.returned (.bool (Nat.gcd N M==1))∧Below W.heap.size W W'):=Lib.hid fun W A n c Q=>by
    have:=isOne_any ((Nat.gcd N M:Nat):Int) A n c W (by rw[Int.natAbs_natCast];exact Q)
    rw[show ng ((Nat.gcd N M:Nat):Int)=false from decide_eq_false (by omega)] at this
    have e:decide (((Nat.gcd N M:Nat):Int)=1)=(Nat.gcd N M==1):=by rw[Bool.eq_iff_iff,decide_eq_true_iff,beq_iff_eq];omega
    rwa [e] at this
   clear hN;generalize Nat.gcd N M=G at hG hO ⊢;clear h1 h2 hn hn';go_enter Tryz.func119,Tryz.ntmps119
   go_wp2_with fail
   refine (hT.out _ (S.out.r 1 rfl)).mono ?_
   rintro e w1 ⟨rfl,bb⟩;have T:=(S.out.call bb);clear bb S;have S:=T;clear T;obtain⟨c_y0,c_y1,f_y0,f_y1⟩:=S.cf2 0 rfl;obtain⟨c_x0,c_x1,f_x0,f_x1⟩:=S.cf2 1 rfl;have hz:w.heap.size+1<w1.heap.size:=S.lt 0 rfl;replace S:=Lib.hid S
   go_wp2_with fail
   refine (hU.out _ (S.out.r 0 rfl)).mono ?_
   rintro e w2 ⟨rfl,bb⟩;have T:=(S.out.call bb);clear bb S c_y0 f_y0 c_y1 f_y1 c_x0 f_x0 c_x1 f_x1 hz;have S:=T;clear T;obtain⟨c_y0,c_y1,f_y0,f_y1⟩:=S.cf2 0 rfl;obtain⟨c_x0,c_x1,f_x0,f_x1⟩:=S.cf2 1 rfl;have hz:w.heap.size+1<w2.heap.size:=S.lt 0 rfl;replace S:=Lib.hid S
   go_wp2_with fail
   refine (hG.out _ (S.out.r 1 rfl) (S.out.r 0 rfl)).mono ?_
   rintro e w3 ⟨A3,n3,c3,rfl,Q3,bb⟩;have T:=((S.out.call bb).read Q3);clear bb S c_y0 f_y0 c_y1 f_y1 c_x0 f_x0 c_x1 f_x1 hz;have S:=T;clear T;obtain⟨c_y0,c_y1,f_y0,f_y1⟩:=S.cf2 0 rfl;obtain⟨c_x0,c_x1,f_x0,f_x1⟩:=S.cf2 1 rfl;have hz:w.heap.size+1<w3.heap.size:=S.lt 0 rfl;replace S:=Lib.hid S;clear Q3
   go_wp2_with fail
   refine (hO.out _ A3 n3 c3 (S.out.r 0 rfl)).mono ?_
   rintro e w4 ⟨rfl,bb⟩;have T:=(S.out.call bb);clear bb S c_y0 f_y0 c_y1 f_y1 c_x0 f_x0 c_x1 f_x1 hz;have S:=T;clear T;obtain⟨c_y0,c_y1,f_y0,f_y1⟩:=S.cf2 0 rfl;obtain⟨c_x0,c_x1,f_x0,f_x1⟩:=S.cf2 1 rfl;have hz:w.heap.size+1<w4.heap.size:=S.lt 0 rfl;replace S:=Lib.hid S;have S:=S.out;replace S:=Lib.hid S;go_wp2;go_ret;exact⟨rfl,S.out.bel⟩
  ·have hU:=Lib.hid (fun W h=>toInt_small M A' n' c' W h (by omega) h2)
   have hV:=Lib.hid (fun W=>divisorOfInts_any N M W h1 h2)
   have hE:Hid ((((Nat.gcd N M:Nat):Int)==1)=(Nat.gcd N M==1)):=Lib.hid (by rw[Bool.eq_iff_iff,beq_iff_eq,beq_iff_eq];omega)
   clear h1 h2 hn hn' hN;go_enter Tryz.func119,Tryz.ntmps119
   go_wp2_with fail
   refine (hT.out _ (S.out.r 1 rfl)).mono ?_
   rintro e w1 ⟨rfl,bb⟩;have T:=(S.out.call bb);clear bb S;have S:=T;clear T;obtain⟨c_y0,c_y1,f_y0,f_y1⟩:=S.cf2 0 rfl;obtain⟨c_x0,c_x1,f_x0,f_x1⟩:=S.cf2 1 rfl;have hz:w.heap.size+1<w1.heap.size:=S.lt 0 rfl;replace S:=Lib.hid S
   go_wp2_with fail
   refine (hU.out _ (S.out.r 0 rfl)).mono ?_
   rintro e w2 ⟨rfl,bb⟩;have T:=(S.out.call bb);clear bb S c_y0 f_y0 c_y1 f_y1 c_x0 f_x0 c_x1 f_x1 hz;have S:=T;clear T;obtain⟨c_y0,c_y1,f_y0,f_y1⟩:=S.cf2 0 rfl;obtain⟨c_x0,c_x1,f_x0,f_x1⟩:=S.cf2 1 rfl;have hz:w.heap.size+1<w2.heap.size:=S.lt 0 rfl;replace S:=Lib.hid S
   go_wp2_with fail
   refine (hV.out _).mono ?_
   rintro e w3 ⟨rfl,bb⟩;have T:=(S.out.call bb);clear bb S c_y0 f_y0 c_y1 f_y1 c_x0 f_x0 c_x1 f_x1 hz;have S:=T;clear T;obtain⟨c_y0,c_y1,f_y0,f_y1⟩:=S.cf2 0 rfl;obtain⟨c_x0,c_x1,f_x0,f_x1⟩:=S.cf2 1 rfl;have hz:w.heap.size+1<w3.heap.size:=S.lt 0 rfl;replace S:=Lib.hid S;go_wp2;go_ret;exact⟨congrArg (fun q=>Ending.returned (.bool q)) hE.out,S.out.bel⟩
theorem vldR_nil (b:Bool) (xs:List Nat):vldR b xs []=vldI b xs:=by unfold vldR vldD;simp
theorem vldR_row {b:Bool} {xs ds:List Nat} (h:ds≠[]):vldR b xs ds=(vldI b xs&&(vldB ds && !(is1 ds)&&Nat.gcd (val xs) (val ds)==1)):=by
 unfold vldR vldD
 cases ds
 ·exact absurd rfl h
 ·simp
theorem is1_val {ds:List Nat} (hs:Sm ds) (h:vldB ds=true):is1 ds=decide ((val ds:Int)=1):=by
 unfold is1;rw[Bool.eq_iff_iff,beq_iff_eq,decide_eq_true_iff]
 constructor
 ·intro e;rw[e];simp[val]
 ·intro e
  have:val ds=1:=by omega
  have h2:=limbs_val hs h;rw[this,limbs_is1] at h2;exact h2.symm
theorem vldI_false (ds:List Nat):vldI false ds=vldB ds:=by unfold vldI;simp
theorem validR_any (b:Bool) (A:Option Addr) (n c:Nat) (xs:List Nat) (D:Option Addr) (m d:Nat) (ds:List Nat) (w:World) (R1:Rd w A n c xs) (R2:Rd w D m d ds) (hn:n≤50000000) (hm:m≤50000000) :
  Calls Tryz.prog 101 #[.agg #[.bool b,.slice A n c,.slice D m d]] w fun e w'=>e=.returned (.bool (vldR b xs ds))∧Below w.heap.size w w':=by
 have hl:=R2.len;have s1:=R1.sm;have s2:=R2.sm;have S:=((((St.new w).read R1).read R2).allocAt (w.heap.size) #[.bool b,.slice A n c,.slice D m d] 33 (noL3 _ _ _ _ _ _ _) (by simp))
 replace S:=Lib.hid S;clear R1 R2;have hV:Hid (∀ W,Rd W A n c xs→Calls Tryz.prog 117 #[.agg #[.bool b,.slice A n c]] W fun e w'=>e=.returned (.bool (vldI b xs))∧Below W.heap.size W w'):=Lib.hid fun W h=>validI_any b A n c xs W h (by omega)
 have hU:Hid (∀ W,Rd W D m d ds→Calls Tryz.prog 117 #[.agg #[.bool false,.slice D m d]] W fun e w'=>e=.returned (.bool (vldB ds))∧Below W.heap.size W w'):=Lib.hid fun W h=>by have:=validI_any false D m d ds W h (by omega);rwa [vldI_false] at this
 by_cases h0:m=0
 ·have hd0:ds=[]:=List.eq_nil_of_length_eq_zero (by omega)
  rw[show vldR b xs ds=vldI b xs by rw[hd0,vldR_nil]]
  have h2:((m:Int)==0)=true:=by rw[beq_iff_eq];omega
  clear hU s1 s2 hl hn hm hd0 h0;go_enter Tryz.func101,Tryz.ntmps101
  go_wp2_with fail
  refine (hV.out _ (S.out.r 1 rfl)).mono ?_
  rintro e w1 ⟨rfl,bb⟩;have T:=(S.out.call bb);clear bb S;have S:=T;clear T;obtain⟨c_x0,c_x1,c_x2,f_x0,f_x1,f_x2⟩:=S.cf3 0 rfl;have hz:w.heap.size<w1.heap.size:=S.lt 0 rfl;replace S:=Lib.hid S;go_wp2;go_ret;exact⟨rfl,S.out.bel⟩
 have hne:ds≠[]:=by rintro rfl;exact h0 hl.symm
 rw[vldR_row hne];have h2:((m:Int)==0)=false:=by rw[beq_eq_false_iff_ne];omega
 replace h0:=Lib.hid h0;clear hne hl
 cases hb:vldI b xs
 ·rw[hb] at hV
  clear hU s1 s2 hn hm hb;go_enter Tryz.func101,Tryz.ntmps101
  go_wp2_with fail
  refine (hV.out _ ((S.out.allocAt (w.heap.size+1) #[.bool false,.slice D m d] 31 (noL2 _ _ _ _) (by simp)).r 1 rfl)).mono ?_
  rintro e w1 ⟨rfl,bb⟩;have T:=((S.out.allocAt (w.heap.size+1) #[.bool false,.slice D m d] 31 (noL2 _ _ _ _) (by simp)).call bb)
  clear bb S;have S:=T;clear T;obtain⟨c_y0,c_y1,f_y0,f_y1⟩:=S.cf2 0 rfl;obtain⟨c_x0,c_x1,c_x2,f_x0,f_x1,f_x2⟩:=S.cf3 1 rfl;have hz:w.heap.size+1<w1.heap.size:=S.lt 0 rfl;replace S:=Lib.hid S;go_wp2;go_ret;exact⟨rfl,S.out.bel⟩
 ·rw[hb] at hV
  obtain⟨eb,ex⟩:=canon s1 hb;rw[iv_yes hb] at eb ex
  cases hd:vldB ds
  ·rw[hd] at hU
   clear s1 s2 hn hm hb hd eb ex;go_enter Tryz.func101,Tryz.ntmps101
   go_wp2_with fail
   refine (hV.out _ ((S.out.allocAt (w.heap.size+1) #[.bool false,.slice D m d] 31 (noL2 _ _ _ _) (by simp)).r 1 rfl)).mono ?_
   rintro e w1 ⟨rfl,bb⟩;have T:=((S.out.allocAt (w.heap.size+1) #[.bool false,.slice D m d] 31 (noL2 _ _ _ _) (by simp)).call bb)
   clear bb S;have S:=T;clear T;obtain⟨c_y0,c_y1,f_y0,f_y1⟩:=S.cf2 0 rfl;obtain⟨c_x0,c_x1,c_x2,f_x0,f_x1,f_x2⟩:=S.cf3 1 rfl;have hz:w.heap.size+1<w1.heap.size:=S.lt 0 rfl;replace S:=Lib.hid S
   go_wp2_with fail
   refine (hU.out _ (S.out.r 0 rfl)).mono ?_
   rintro e w2 ⟨rfl,bb⟩;have T:=(S.out.call bb);clear bb S c_y0 f_y0 c_y1 f_y1 c_x0 f_x0 c_x1 f_x1 c_x2 f_x2 hz;have S:=T;clear T;obtain⟨c_y0,c_y1,f_y0,f_y1⟩:=S.cf2 0 rfl;obtain⟨c_x0,c_x1,c_x2,f_x0,f_x1,f_x2⟩:=S.cf3 1 rfl;have hz:w.heap.size+1<w2.heap.size:=S.lt 0 rfl;replace S:=Lib.hid S;go_wp2;go_ret;exact⟨rfl,S.out.bel⟩
  ·rw[hd] at hU
   have hO:Hid (∀ W,Rd W D m d ds→Calls Tryz.prog 118 #[.agg #[.bool false,.slice D m d]] W fun e W'=>e=.returned (.bool (is1 ds))∧Below W.heap.size W W'):=Lib.hid fun W h=>by
    have:=isOne_any (val ds:Int) D m d W (by rw[Int.natAbs_natCast,limbs_val s2 hd];exact h)
    rwa [show ng (val ds:Int)=false from decide_eq_false (by omega),←is1_val s2 hd] at this
   have hR:Hid (∀ W,Rd W A n c xs→Rd W D m d ds→Calls Tryz.prog 119 #[.agg #[.bool b,.slice A n c],.agg #[.bool false,.slice D m d]] W fun e W'=>e=.returned (.bool (Nat.gcd (val xs) (val ds)==1))∧Below W.heap.size W W'):=Lib.hid fun W q1 q2=>by
    have:=isReduced_any (sg b (val xs)) A n c (val ds) D m d W (by rw[←ex];exact q1) (by rw[limbs_val s2 hd];exact q2) hn hm
    rwa [←eb,abs_sg] at this
   clear s1 s2 hn hm hb hd eb ex
   cases h1:is1 ds
   ·rw[h1] at hO
    clear h1;go_enter Tryz.func101,Tryz.ntmps101
    go_wp2_with fail
    refine (hV.out _ ((S.out.allocAt (w.heap.size+1) #[.bool false,.slice D m d] 31 (noL2 _ _ _ _) (by simp)).r 1 rfl)).mono ?_
    rintro e w1 ⟨rfl,bb⟩;have T:=((S.out.allocAt (w.heap.size+1) #[.bool false,.slice D m d] 31 (noL2 _ _ _ _) (by simp)).call bb)
    clear bb S;have S:=T;clear T;obtain⟨c_y0,c_y1,f_y0,f_y1⟩:=S.cf2 0 rfl;obtain⟨c_x0,c_x1,c_x2,f_x0,f_x1,f_x2⟩:=S.cf3 1 rfl;have hz:w.heap.size+1<w1.heap.size:=S.lt 0 rfl;replace S:=Lib.hid S
    go_wp2_with fail
    refine (hU.out _ (S.out.r 0 rfl)).mono ?_
    rintro e w2 ⟨rfl,bb⟩;have T:=(S.out.call bb);clear bb S c_y0 f_y0 c_y1 f_y1 c_x0 f_x0 c_x1 f_x1 c_x2 f_x2 hz;have S:=T;clear T;obtain⟨c_y0,c_y1,f_y0,f_y1⟩:=S.cf2 0 rfl;obtain⟨c_x0,c_x1,c_x2,f_x0,f_x1,f_x2⟩:=S.cf3 1 rfl;have hz:w.heap.size+1<w2.heap.size:=S.lt 0 rfl;replace S:=Lib.hid S
    go_wp2_with fail
    refine (hO.out _ (S.out.r 0 rfl)).mono ?_
    rintro e w3 ⟨rfl,bb⟩;have T:=(S.out.call bb);clear bb S c_y0 f_y0 c_y1 f_y1 c_x0 f_x0 c_x1 f_x1 c_x2 f_x2 hz;have S:=T;clear T;obtain⟨c_y0,c_y1,f_y0,f_y1⟩:=S.cf2 0 rfl;obtain⟨c_x0,c_x1,c_x2,f_x0,f_x1,f_x2⟩:=S.cf3 1 rfl;have hz:w.heap.size+1<w3.heap.size:=S.lt 0 rfl;replace S:=Lib.hid S
    go_wp2_with fail
    refine (hR.out _ (S.out.r 1 rfl) (S.out.r 0 rfl)).mono ?_
    rintro e w4 ⟨rfl,bb⟩;have T:=(S.out.call bb);clear bb S c_y0 f_y0 c_y1 f_y1 c_x0 f_x0 c_x1 f_x1 c_x2 f_x2 hz;have S:=T;clear T;obtain⟨c_y0,c_y1,f_y0,f_y1⟩:=S.cf2 0 rfl;obtain⟨c_x0,c_x1,c_x2,f_x0,f_x1,f_x2⟩:=S.cf3 1 rfl;have hz:w.heap.size+1<w4.heap.size:=S.lt 0 rfl;replace S:=Lib.hid S;go_wp2;go_ret;exact⟨by simp,S.out.bel⟩
   ·rw[h1] at hO
    clear h1 hR;go_enter Tryz.func101,Tryz.ntmps101
    go_wp2_with fail
    refine (hV.out _ ((S.out.allocAt (w.heap.size+1) #[.bool false,.slice D m d] 31 (noL2 _ _ _ _) (by simp)).r 1 rfl)).mono ?_
    rintro e w1 ⟨rfl,bb⟩;have T:=((S.out.allocAt (w.heap.size+1) #[.bool false,.slice D m d] 31 (noL2 _ _ _ _) (by simp)).call bb)
    clear bb S;have S:=T;clear T;obtain⟨c_y0,c_y1,f_y0,f_y1⟩:=S.cf2 0 rfl;obtain⟨c_x0,c_x1,c_x2,f_x0,f_x1,f_x2⟩:=S.cf3 1 rfl;have hz:w.heap.size+1<w1.heap.size:=S.lt 0 rfl;replace S:=Lib.hid S
    go_wp2_with fail
    refine (hU.out _ (S.out.r 0 rfl)).mono ?_
    rintro e w2 ⟨rfl,bb⟩;have T:=(S.out.call bb);clear bb S c_y0 f_y0 c_y1 f_y1 c_x0 f_x0 c_x1 f_x1 c_x2 f_x2 hz;have S:=T;clear T;obtain⟨c_y0,c_y1,f_y0,f_y1⟩:=S.cf2 0 rfl;obtain⟨c_x0,c_x1,c_x2,f_x0,f_x1,f_x2⟩:=S.cf3 1 rfl;have hz:w.heap.size+1<w2.heap.size:=S.lt 0 rfl;replace S:=Lib.hid S
    go_wp2_with fail
    refine (hO.out _ (S.out.r 0 rfl)).mono ?_
    rintro e w3 ⟨rfl,bb⟩;have T:=(S.out.call bb);clear bb S c_y0 f_y0 c_y1 f_y1 c_x0 f_x0 c_x1 f_x1 c_x2 f_x2 hz;have S:=T;clear T;obtain⟨c_y0,c_y1,f_y0,f_y1⟩:=S.cf2 0 rfl;obtain⟨c_x0,c_x1,c_x2,f_x0,f_x1,f_x2⟩:=S.cf3 1 rfl;have hz:w.heap.size+1<w3.heap.size:=S.lt 0 rfl;replace S:=Lib.hid S;go_wp2;go_ret;exact⟨by simp,S.out.bel⟩
theorem res_knownR (W:World) (tmps:Array Value) (g t:Nat) {v0 v1 v2:Value} (ht:tmps.getD 2 undef=.pointer (some ⟨g,0,none⟩)) (h:Cb W g #[v0,v1,v2] t) :
  (results Tryz.f80 tmps).run Tryz.prog W=.ok (.agg #[v0,v1,v2]) W:=by
 have c0:W.cell? ⟨g,0,none⟩=some v0:=h.cell rfl;have c1:W.cell? ⟨g,1,none⟩=some v1:=h.cell rfl;have c2:W.cell? ⟨g,2,none⟩=some v2:=h.cell rfl;have ht':tmps[2]?.getD undef=.pointer (some ⟨g,0,none⟩):=by rw[←ht];simp[Array.getD_eq_getD_getElem?]
 simp[results,Tryz.results80,go_sem,ht',c0,c1,c2]
theorem knownR_any (b:Bool) (A:Option Addr) (n c:Nat) (xs:List Nat) (D:Option Addr) (m d:Nat) (ds:List Nat) (w:World) (R1:Rd w A n c xs) (R2:Rd w D m d ds) (hn:n≤50000000) (hm:m≤50000000) :
  Calls Tryz.prog 80 #[.agg #[.bool b,.slice A n c,.slice D m d]] w (RetR (rv b xs ds) w):=by
 have S:=(((((St.new w).read R1).read R2).allocAt (w.heap.size) #[.bool b,.slice A n c,.slice D m d] 33 (noL3 _ _ _ _ _ _ _) (by simp)).allocAt (w.heap.size+1) #[.bool false,.slice none 0 0,.slice none 0 0] 33 (noL3 _ _ _ _ _ _ _) (by simp))
 replace S:=Lib.hid S;have hV:=fun W h h'=>validR_any b A n c xs D m d ds W h h' hn hm
 cases hv:vldR b xs ds
 ·rw[hv] at hV
  replace hV:=Lib.hid hV;rw[rv_no hv];clear hv R1 R2;go_enter Tryz.func80,Tryz.ntmps80
  go_wp2_with fail
  refine (hV.out _ (S.out.r 1 rfl) (S.out.r 0 rfl)).mono ?_
  rintro e w1 ⟨rfl,bb⟩;have T:=(S.out.call bb);clear bb S;have S:=T;clear T;obtain⟨c_r0,c_r1,c_r2,f_r0,f_r1,f_r2⟩:=S.cf3 0 rfl;obtain⟨c_x0,c_x1,c_x2,f_x0,f_x1,f_x2⟩:=S.cf3 1 rfl;have hz:w.heap.size+1<w1.heap.size:=S.lt 0 rfl;replace S:=Lib.hid S;have S:St w _ [(w.heap.size+1,#[.bool false,.slice none 0 0,.slice none 0 0],33),(w.heap.size,#[.bool b,.slice A n c,.slice D m d],33)] [(D,m,d,ds),(A,n,c,xs)]:=(((S.out.set 0 0 (.bool false) rfl (by nofun)).set 0 1 (.slice none 0 0) rfl (by nofun)).set 0 2 (.slice none 0 0) rfl (by nofun))
  replace S:=Lib.hid S;go_wp2;refine bodyPost_ret (res_knownR _ _ (w.heap.size+1) 33 rfl (S.out.bk _ (List.mem_of_getElem? (i:=0) rfl)).1) rfl ?_
  exact⟨_,_,_,_,_,_,rfl,zero_RR _ _ _ _ _,S.out.bel⟩
 ·rw[hv] at hV
  replace hV:=Lib.hid hV;have hc:=Lib.hid (canonR R1.sm R2.sm hv);clear hv R1 R2;go_enter Tryz.func80,Tryz.ntmps80
  go_wp2_with fail
  refine (hV.out _ (S.out.r 1 rfl) (S.out.r 0 rfl)).mono ?_
  rintro e w1 ⟨rfl,bb⟩;have T:=(S.out.call bb);clear bb S;have S:=T;clear T;obtain⟨c_r0,c_r1,c_r2,f_r0,f_r1,f_r2⟩:=S.cf3 0 rfl;obtain⟨c_x0,c_x1,c_x2,f_x0,f_x1,f_x2⟩:=S.cf3 1 rfl;have hz:w.heap.size+1<w1.heap.size:=S.lt 0 rfl;replace S:=Lib.hid S;have S:St w _ [(w.heap.size+1,#[.bool b,.slice A n c,.slice D m d],33),(w.heap.size,#[.bool b,.slice A n c,.slice D m d],33)] [(D,m,d,ds),(A,n,c,xs)]:=(((S.out.set 0 0 (.bool b) rfl (by nofun)).set 0 1 (.slice A n c) rfl (by nofun)).set 0 2 (.slice D m d) rfl (by nofun))
  replace S:=Lib.hid S;go_wp2;refine bodyPost_ret (res_knownR _ _ (w.heap.size+1) 33 rfl (S.out.bk _ (List.mem_of_getElem? (i:=0) rfl)).1) rfl ?_
  obtain⟨e1,e2,e3⟩:=hc.out;exact⟨A,n,c,D,m,d,by rw[←e1],⟨e2 ▸ S.out.r 1 rfl,e3 ▸ S.out.r 0 rfl⟩,S.out.bel⟩
end Go.Proofs.YthlinhconnmbcaaGreat
namespace Go.Proofs.YthlinhconnmbcaaGreat
open Go.RowKit RQ
theorem res_fromIntR (W:World) (tmps:Array Value) (g t:Nat) {v0 v1 v2:Value} (ht:tmps.getD 2 undef=.pointer (some ⟨g,0,none⟩)) (h:Cb W g #[v0,v1,v2] t) :
  (results Tryz.f49 tmps).run Tryz.prog W=.ok (.agg #[v0,v1,v2]) W:=by
 have c0:W.cell? ⟨g,0,none⟩=some v0:=h.cell rfl;have c1:W.cell? ⟨g,1,none⟩=some v1:=h.cell rfl;have c2:W.cell? ⟨g,2,none⟩=some v2:=h.cell rfl;have ht':tmps[2]?.getD undef=.pointer (some ⟨g,0,none⟩):=by rw[←ht];simp[Array.getD_eq_getD_getElem?]
 simp[results,Tryz.results49,go_sem,ht',c0,c1,c2]
theorem int_RR {w:World} {A:Option Addr} {n c:Nat} {D:Option Addr} {d:Nat} {z:Int} (h:Rd w A n c (limbs z.natAbs)):RR w A n c D 0 d (z:Rat):=⟨h,by rw[show dn (z:Rat)=[] from rfl];exact Rd.nil_ _ _ _⟩
theorem fromIntR_any (v:Int) (w:World) (h0 : -9223372036854775808≤v) (h1:v≤9223372036854775807) :
  Calls Tryz.prog 49 #[.int .i64 v] w (RetR (v:Rat) w):=by
 have hF:=Lib.hid (fun W=>fromInt_any v W h0 h1)
 clear h0 h1;have S:=((St.new w).allocAt (w.heap.size) #[.bool false,.slice none 0 0,.slice none 0 0] 33 (noL3 _ _ _ _ _ _ _) (by simp))
 replace S:=Lib.hid S;go_enter Tryz.func49,Tryz.ntmps49
 go_wp2_with fail
 refine (hF.out _).mono ?_
 rintro e w1 ⟨A1,n1,c1,rfl,Q,bb⟩;have T:=((S.out.call bb).read Q);clear bb S;have S:=T;clear T;obtain⟨c_r0,c_r1,c_r2,f_r0,f_r1,f_r2⟩:=S.cf3 0 rfl;have hz:w.heap.size<w1.heap.size:=S.lt 0 rfl;replace S:=Lib.hid S;clear Q;have S:St w _ [(w.heap.size,#[.bool (ng v),.slice A1 n1 c1,.slice none 0 0],33)] [(A1,n1,c1,limbs v.natAbs)]:=(((S.out.set 0 0 (.bool (ng v)) rfl (by nofun)).set 0 1 (.slice A1 n1 c1) rfl (by nofun)).set 0 2 (.slice none 0 0) rfl (by nofun))
 replace S:=Lib.hid S;go_wp2;refine bodyPost_ret (res_fromIntR _ _ (w.heap.size) 33 rfl (S.out.bk _ (List.mem_of_getElem? (i:=0) rfl)).1) rfl ?_
 exact⟨_,_,_,_,_,_,rfl,int_RR (S.out.r 0 rfl),S.out.bel⟩
theorem field_num (b:Bool) (A:Option Addr) (n c:Nat) (D:Option Addr) (m d:Nat) (w:World):(Instr.field 33 (.agg #[.bool b,.slice A n c,.slice D m d]) 0).run Tryz.prog w=.ok (.agg #[.bool b,.slice A n c]) w:=by kernel_rfl
theorem signR_any (b:Bool) (A:Option Addr) (n c:Nat) (xs:List Nat) (D:Option Addr) (m d:Nat) (ds:List Nat) (w:World) (R1:Rd w A n c xs) (R2:Rd w D m d ds) (hn:n≤50000000) (hm:m≤50000000) :
  Calls Tryz.prog 88 #[.agg #[.bool b,.slice A n c,.slice D m d]] w fun e w'=>e=.returned (.int .i64 (rv b xs ds).num.sign)∧Below w.heap.size w w':=by
 have S:=((((St.new w).read R1).read R2).allocAt (w.heap.size) #[.bool b,.slice A n c,.slice D m d] 33 (noL3 _ _ _ _ _ _ _) (by simp))
 replace S:=Lib.hid S;have hs:=Lib.hid (Rs.of (b:=b) R1.sm R2.sm (Nat.le_trans (Nat.le_of_eq R1.len) hn) (Nat.le_trans (Nat.le_of_eq R2.len) hm) (by decide))
 have hK:=fun W h h'=>knownR_any b A n c xs D m d ds W h h' hn hm
 generalize rv b xs ds=q at hK hs ⊢;replace hK:=Lib.hid hK;clear R1 R2 hn hm;go_enter Tryz.func88,Tryz.ntmps88
 go_wp2_with fail
 refine (hK.out _ (S.out.r 1 rfl) (S.out.r 0 rfl)).mono ?_
 rintro e w1 ⟨A1,n1,c1,D1,m1,d1,rfl,Q,bb⟩;have T:=(((S.out.call bb).read Q.n).read Q.d);clear bb S;have S:=T;clear T;obtain⟨c_x0,c_x1,c_x2,f_x0,f_x1,f_x2⟩:=S.cf3 0 rfl;have hz:w.heap.size<w1.heap.size:=S.lt 0 rfl;replace S:=Lib.hid S;have hl:=limbs_len_le.2 hs.out.n;have hl2:=Q.n.len;have hG:=signI_any (ng q.num) A1 n1 c1 (limbs q.num.natAbs) _ Q.n (by omega)
 rw[iv_z] at hG;replace hG:=Lib.hid hG;clear Q hK hl hl2;have hfd:=fun w=>field_num (ng q.num) A1 n1 c1 D1 m1 d1 w
 go_wp2_with fail
 refine (hG.out).mono ?_
 rintro e w2 ⟨rfl,bb⟩;have T:=(S.out.call bb);clear bb S c_x0 f_x0 c_x1 f_x1 c_x2 f_x2 hz;have S:=T;clear T;obtain⟨c_x0,c_x1,c_x2,f_x0,f_x1,f_x2⟩:=S.cf3 0 rfl;have hz:w.heap.size<w2.heap.size:=S.lt 0 rfl;replace S:=Lib.hid S;have S:=S.out;replace S:=Lib.hid S;go_wp2;go_ret;exact⟨rfl,S.out.bel⟩
theorem res_negR (W:World) (tmps:Array Value) (g t:Nat) {v0 v1 v2:Value} (ht:tmps.getD 2 undef=.pointer (some ⟨g,0,none⟩)) (h:Cb W g #[v0,v1,v2] t) :
  (results Tryz.f56 tmps).run Tryz.prog W=.ok (.agg #[v0,v1,v2]) W:=by
 have c0:W.cell? ⟨g,0,none⟩=some v0:=h.cell rfl;have c1:W.cell? ⟨g,1,none⟩=some v1:=h.cell rfl;have c2:W.cell? ⟨g,2,none⟩=some v2:=h.cell rfl;have ht':tmps[2]?.getD undef=.pointer (some ⟨g,0,none⟩):=by rw[←ht];simp[Array.getD_eq_getD_getElem?]
 simp[results,Tryz.results56,go_sem,ht',c0,c1,c2]
theorem neg_RR {w:World} {A:Option Addr} {n c:Nat} {D:Option Addr} {m d:Nat} {q:Rat} (h1:Rd w A n c (limbs (-q.num).natAbs)) (h2:Rd w D m d (dn q)):RR w A n c D m d (-q):=⟨h1,h2⟩
theorem negR_any (b:Bool) (A:Option Addr) (n c:Nat) (xs:List Nat) (D:Option Addr) (m d:Nat) (ds:List Nat) (w:World) (R1:Rd w A n c xs) (R2:Rd w D m d ds) (hn:n≤50000000) (hm:m≤50000000) :
  Calls Tryz.prog 56 #[.agg #[.bool b,.slice A n c,.slice D m d]] w (RetR (-(rv b xs ds)) w):=by
 have S:=(((((St.new w).read R1).read R2).allocAt (w.heap.size) #[.bool b,.slice A n c,.slice D m d] 33 (noL3 _ _ _ _ _ _ _) (by simp)).allocAt (w.heap.size+1) #[.bool false,.slice none 0 0,.slice none 0 0] 33 (noL3 _ _ _ _ _ _ _) (by simp))
 replace S:=Lib.hid S;have hs:=Lib.hid (Rs.of (b:=b) R1.sm R2.sm (Nat.le_trans (Nat.le_of_eq R1.len) hn) (Nat.le_trans (Nat.le_of_eq R2.len) hm) (by decide))
 have hK:=fun W h h'=>knownR_any b A n c xs D m d ds W h h' hn hm
 generalize rv b xs ds=q at hK hs ⊢;replace hK:=Lib.hid hK;clear R1 R2 hn hm;go_enter Tryz.func56,Tryz.ntmps56
 go_wp2_with fail
 refine (hK.out _ (S.out.r 1 rfl) (S.out.r 0 rfl)).mono ?_
 rintro e w1 ⟨A1,n1,c1,D1,m1,d1,rfl,Q,bb⟩;have T:=(((S.out.call bb).read Q.n).read Q.d);clear bb S;have S:=T;clear T;obtain⟨c_r0,c_r1,c_r2,f_r0,f_r1,f_r2⟩:=S.cf3 0 rfl;obtain⟨c_x0,c_x1,c_x2,f_x0,f_x1,f_x2⟩:=S.cf3 1 rfl;have hz:w.heap.size+1<w1.heap.size:=S.lt 0 rfl;replace S:=Lib.hid S;have hl:=Q.lens hs.out;have hG:Hid (∀ W,Rd W A1 n1 c1 (limbs q.num.natAbs)→Calls Tryz.prog 81 #[.agg #[.bool (ng q.num),.slice A1 n1 c1]] W (RetI (-q.num) W)):=Lib.hid fun W h=>by have:=negI_any (ng q.num) A1 n1 c1 _ W h (by omega);rwa [iv_z] at this
 have hC:Hid (∀ W,Rd W D1 m1 d1 (dn q)→Calls Tryz.prog 82 #[.slice D1 m1 d1] W (RetClone m1 (dn q) W)):=Lib.hid fun W h=>clone_any D1 m1 d1 (dn q) W h (by omega)
 clear Q hK hl
 go_wp2_with fail
 clear c_r0 f_r0 c_r1 f_r1 c_r2 f_r2 c_x0 f_x0 c_x1 f_x1 c_x2 f_x2 hz;have S:St w _ [(w.heap.size+1,#[.bool false,.slice none 0 0,.slice none 0 0],33),(w.heap.size,#[.bool (ng q.num),.slice A1 n1 c1,.slice D1 m1 d1],33)] [(D1,m1,d1,dn q),(A1,n1,c1,limbs q.num.natAbs),(D,m,d,ds),(A,n,c,xs)]:=(((S.out.set 1 0 (.bool (ng q.num)) rfl (by nofun)).set 1 1 (.slice A1 n1 c1) rfl (by nofun)).set 1 2 (.slice D1 m1 d1) rfl (by nofun))
 generalize hW2:(World.setCell (World.setCell (World.setCell w1 ⟨w.heap.size,0,none⟩ (.bool (ng q.num))) ⟨w.heap.size,1,none⟩ (.slice A1 n1 c1)) ⟨w.heap.size,2,none⟩ (.slice D1 m1 d1))=w2 at S ⊢;clear hW2;replace S:=Lib.hid S;have d_x0:=St.cl (S.out) 1 0 rfl rfl;have d_x1:=St.cl (S.out) 1 1 rfl rfl;have d_x2:=St.cl (S.out) 1 2 rfl rfl;have SD:=Lib.hid (S.out.drew)
 go_region_held3 (fun w'=>World.cell? w' ⟨w.heap.size,0,none⟩=some (.bool (ng q.num))∧World.cell? w' ⟨w.heap.size,1,none⟩=some (.slice A1 n1 c1)∧World.cell? w' ⟨w.heap.size,2,none⟩=some (.slice D1 m1 d1))
  (first | exact⟨d_x0,d_x1,d_x2⟩ | exact⟨e0_x0,e0_x1,e0_x2⟩ | exact⟨e1_x0,e1_x1,e1_x2⟩ | exact⟨g_x0,g_x1,g_x2⟩)
  (first
   | (go_at_call 81;refine (hG.out _ (SD.out.r 1 rfl)).mono ?_;rintro e w3 ⟨A2,n2,c2,rfl,Q2,bb0⟩;have S0:St w w3 [(w.heap.size+1,#[.bool false,.slice none 0 0,.slice none 0 0],33),(w.heap.size,#[.bool (ng q.num),.slice A1 n1 c1,.slice D1 m1 d1],33)] [(A2,n2,c2,limbs (-q.num).natAbs),(D1,m1,d1,dn q),(A1,n1,c1,limbs q.num.natAbs),(D,m,d,ds),(A,n,c,xs)]:=((SD.out.call bb0).read Q2);have e0_x0:=St.cl (S0) 1 0 rfl rfl;have e0_x1:=St.cl (S0) 1 1 rfl rfl;have e0_x2:=St.cl (S0) 1 2 rfl rfl)
   | (go_at_call 82;refine (hC.out _ (S0.r 1 rfl)).mono ?_;rintro e w4 ⟨D2,d2,rfl,Q3,_,bb1⟩;have S1:St w w4 [(w.heap.size+1,#[.bool false,.slice none 0 0,.slice none 0 0],33),(w.heap.size,#[.bool (ng q.num),.slice A1 n1 c1,.slice D1 m1 d1],33)] [(D2,m1,d2,dn q),(A2,n2,c2,limbs (-q.num).natAbs),(D1,m1,d1,dn q),(A1,n1,c1,limbs q.num.natAbs),(D,m,d,ds),(A,n,c,xs)]:=((S0.call bb1).read Q3);have e1_x0:=St.cl (S1) 1 0 rfl rfl;have e1_x1:=St.cl (S1) 1 1 rfl rfl;have e1_x2:=St.cl (S1) 1 2 rfl rfl;have e1r_r0:=St.cl (S1) 0 0 rfl rfl;have e1r_r1:=St.cl (S1) 0 1 rfl rfl;have e1r_r2:=St.cl (S1) 0 2 rfl rfl;have e1rz_r0:=St.f (S1) 0 0 rfl;have e1rz_r1:=St.f (S1) 0 1 rfl;have e1rz_r2:=St.f (S1) 0 2 rfl;have SE:St w _ [(w.heap.size+1,#[.bool (ng (-q.num)),.slice A2 n2 c2,.slice D2 m1 d2],33),(w.heap.size,#[.bool (ng q.num),.slice A1 n1 c1,.slice D1 m1 d1],33)] [(D2,m1,d2,dn q),(A2,n2,c2,limbs (-q.num).natAbs),(D1,m1,d1,dn q),(A1,n1,c1,limbs q.num.natAbs),(D,m,d,ds),(A,n,c,xs)]:=(((S1.set 0 0 (.bool (ng (-q.num))) rfl (by nofun)).set 0 1 (.slice A2 n2 c2) rfl (by nofun)).set 0 2 (.slice D2 m1 d2) rfl (by nofun));have g_x0:=St.cl (SE) 1 0 rfl rfl;have g_x1:=St.cl (SE) 1 1 rfl rfl;have g_x2:=St.cl (SE) 1 2 rfl rfl))
 all_goals
  have S:=SE;clear d_x0 d_x1 d_x2 e0_x0 e0_x1 e0_x2 e1_x0 e1_x1 e1_x2 e1r_r0 e1r_r1 e1r_r2 e1rz_r0 e1rz_r1 e1rz_r2 g_x0 g_x1 g_x2 SD bb0 bb1 SE S0 S1;replace S:=Lib.hid S;have S:=S.out;replace S:=Lib.hid S;go_wp2;refine bodyPost_ret (res_negR _ _ (w.heap.size+1) 33 rfl (S.out.bk _ (List.mem_of_getElem? (i:=0) rfl)).1) rfl ?_
  exact⟨_,_,_,_,_,_,rfl,neg_RR (S.out.r 1 rfl) (S.out.r 0 rfl),S.out.bel⟩
end Go.Proofs.YthlinhconnmbcaaGreat
namespace Go.Proofs.YthlinhconnmbcaaGreat
open Go.RowKit RQ
def RetRE (q:Rat) (er:Value) (w:World) (e:Ending) (w':World):Prop:=∃ A n c D m d,e=.returned (.tuple #[.agg #[.bool (ng q.num),.slice A n c,.slice D m d],er])∧RR w' A n c D m d q∧Below w.heap.size w w'
theorem gcd_len {u v:Int} {p:Nat} (hv:v≠0) (h:v.natAbs<4294967296^p):(limbs (Int.gcd u v)).length≤p:=
 limbs_len_le.2 (Nat.lt_of_le_of_lt (Nat.le_of_dvd (by omega) (Nat.gcd_dvd_right _ _)) h)
end Go.Proofs.YthlinhconnmbcaaGreat
namespace Go.Proofs.YthlinhconnmbcaaGreat
open Go.RowKit RQ
theorem ngN (N:Nat):ng (N:Int)=false:=decide_eq_false (by omega)
def RetU (N:Nat) (w:World) (e:Ending) (w':World):Prop:=∃ A n c,e=.returned (.agg #[.bool false,.slice A n c])∧Rd w' A n c (limbs N)∧Below w.heap.size w w'
theorem RetI.u {N:Nat} {w:World} {e:Ending} {w':World} (h:RetI (N:Int) w e w'):RetU N w e w':=by
 obtain⟨A,n,c,he,R,B⟩:=h;rw[ngN] at he;rw[Int.natAbs_natCast] at R;exact⟨A,n,c,he,R,B⟩
theorem RetU.i {N:Nat} {w:World} {e:Ending} {w':World} (h:RetU N w e w'):RetI (N:Int) w e w':=by
 obtain⟨A,n,c,he,R,B⟩:=h;refine⟨A,n,c,by rw[ngN];exact he,by rw[Int.natAbs_natCast];exact R,B⟩
end Go.Proofs.YthlinhconnmbcaaGreat
