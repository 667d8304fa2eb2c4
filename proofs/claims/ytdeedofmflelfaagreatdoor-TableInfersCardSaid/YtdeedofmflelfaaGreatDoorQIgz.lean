/- Contract of the reference's Mul. Contract of Add. Contract of the reference's Add. Contracts of Sub. The walk of the law NaturalWrites. The walk of the law NaturalReadsBack. Contracts of Format. Contract of Parse. -/
import Derived.Test.YtdeedofmflelfaaGreatDoorQIaz
import Derived.Test.YtdeedofmflelfaaGreatDoorQWqz
import Derived.Test.YtdeedofmflelfaaGreatDoorQWjz
import Derived.Test.YtdeedofmflelfaaGreatDoorQIjz
import Derived.Test.YtdeedofmflelfaaGreatDoorQYgz
import Derived.Test.YtdeedofmflelfaaGreatDoorSh
namespace Go.Proofs.YtdeedofmflelfaaGreatDoor
open Go.RowKit
theorem res_rmul (W:World) (tmps:Array Value) (g:Nat) {b:Bool} {A:Option Addr} {n c:Nat} (ht:tmps.getD 4 undef=.pointer (some ⟨g,0,none⟩)) (h:Bx W g b A n c) :
  (results Tryz.f70 tmps).run Tryz.prog W=.ok (.agg #[.bool b,.slice A n c]) W:=by
 obtain⟨c0,c1,_⟩:=h.at_
 have ht':tmps[4]?.getD undef=.pointer (some ⟨g,0,none⟩):=by rw[←ht];simp[Array.getD_eq_getD_getElem?]
 simp[results,Tryz.results70,go_sem,ht',c0,c1]
set_option maxHeartbeats 8000000 in
theorem rmulI_any (b:Bool) (A:Option Addr) (n c:Nat) (xs:List Nat) (b':Bool) (A':Option Addr) (n' c':Nat) (ys:List Nat) (w:World) (h1:Rd w A n c xs) (h2:Rd w A' n' c' ys) (hn:n≤500) (hn':n'≤500) :
  Calls Tryz.prog 70 #[.agg #[.bool b,.slice A n c],.agg #[.bool b',.slice A' n' c']] w (RetI ((iv b xs)*(iv b' ys)) w):=by
 have hk1:=fun W (h:Rd W A n c xs)=>takeI_any b A n c xs W h (by omega)
 have hk2:=fun W (h:Rd W A' n' c' ys)=>takeI_any b' A' n' c' ys W h (by omega)
 have l1:=iv_abs (b:=b) h1.sm (Nat.le_of_eq h1.len)
 have l2:=iv_abs (b:=b') h2.sm (Nat.le_of_eq h2.len)
 generalize iv b xs=z1 at *
 generalize iv b' ys=z2 at *
 replace hk1:=Lib.hid hk1
 replace hk2:=Lib.hid hk2
 replace l1:=Lib.hid l1
 replace l2:=Lib.hid l2
 have X:=B3.new w b A n c b' A' n' c' false none 0 0
 have R1:=h1.below X.bel
 have R2:=h2.below X.bel
 clear h1 h2
 go_enter Tryz.func70,Tryz.ntmps70
 go_upto_region 1 with fail
 generalize ((w.alloc (.cells #[.bool b,.slice A n c] 44)).alloc (.cells #[.bool b',.slice A' n' c'] 44)).alloc (.cells #[.bool false,.slice none 0 0] 44)=W0 at X R1 R2 ⊢
 obtain⟨a0,a1,a2,a3⟩:=X.x1.at_
 obtain⟨d0,d1,d2,d3⟩:=X.x2.at_
 replace X:=Lib.hid X
 replace R1:=Lib.hid R1
 replace R2:=Lib.hid R2
 go_cut [] (fun wx=>∃ A1 n1 c1 A2 n2 c2,B3 w wx (ng z1) A1 n1 c1 (ng z2) A2 n2 c2 false none 0 0∧Rd wx A1 n1 c1 (limbs z1.natAbs)∧Rd wx A2 n2 c2 (limbs z2.natAbs))
 case first=>
  have XD:=Lib.hid X.out.drew
  have RD1:=Lib.hid (Rd.drew1 R1.out)
  have RD2:=Lib.hid (Rd.drew1 R2.out)
  go_region_with (first
   | (go_at_call_of 107 (Value.agg #[.bool b,.slice A n c]);refine (hk1.out _ (by exact RD1.out)).mono ?_;rintro e w1 ⟨A1,n1,c1,rfl,Q1,B1⟩;have X1:=XD.out.on B1;have R2':=RD2.out.below B1;obtain⟨d0',d1',d2',d3'⟩:=X1.x2.at_)
   | (go_at_call_of 107 (Value.agg #[.bool b',.slice A' n' c']);refine (hk2.out _ (by exact R2')).mono ?_;rintro e w2 ⟨A2,n2,c2,rfl,Q2,B2⟩;have X2:=X1.on B2;obtain⟨f0,f1,f2,f3⟩:=X2.x1.at_;obtain⟨k0,k1,k2,k3⟩:=X2.x2.at_))
  all_goals
   have Y:=Lib.hid (X2.two_puts (ng z1) A1 n1 c1 (ng z2) A2 n2 c2)
   have P1:=Lib.hid (((Q1.below B2).put X2.x1 (.bool (ng z1)) (.slice A1 n1 c1)).put (X2.put1 (ng z1) A1 n1 c1).x2 (.bool (ng z2)) (.slice A2 n2 c2))
   have P2:=Lib.hid ((Q2.put X2.x1 (.bool (ng z1)) (.slice A1 n1 c1)).put (X2.put1 (ng z1) A1 n1 c1).x2 (.bool (ng z2)) (.slice A2 n2 c2))
   clear a0 a1 a2 a3 d0 d1 d2 d3 d0' d1' d2' d3' f0 f1 f2 f3 k0 k1 k2 k3 Q1 Q2 B1 B2 X1 X2 R2'
   go_wp2_with fail
   go_meet
   exact⟨_,_,_,_,_,_,Y.out,P1.out,P2.out⟩
 case rest=>
  obtain⟨A1,n1,c1,A2,n2,c2,Y,P1,P2⟩:=hcut
  clear X R1 R2 a0 a1 a2 a3 d0 d1 d2 d3 hk1 hk2
  have hl1:n1≤500:=by have:=l1.out;have:=P1.len;omega
  have hl2:n2≤500:=by have:=l2.out;have:=P2.len;omega
  obtain⟨a0,a1,a2,a3⟩:=Y.x1.at_
  obtain⟨d0,d1,d2,d3⟩:=Y.x2.at_
  have hs:=Lib.hid (show sg (!(ng z1==ng z2)) (z1.natAbs*z2.natAbs)=z1*z2 from sg_mul z1 z2)
  have YD:=Lib.hid Y.drew
  have P1D:=Lib.hid (Rd.drew1 P1)
  have P2D:=Lib.hid (Rd.drew1 P2)
  clear Y P1 P2
  go_wp2_with fail
  go_region_held3 (fun w'=>w'.cell? ⟨w.heap.size,0,none⟩=some (.bool (ng z1))∧w'.cell? ⟨w.heap.size,1,none⟩=some (.slice A1 n1 c1)∧w'.cell? ⟨w.heap.size+1,0,none⟩=some (.bool (ng z2))∧w'.cell? ⟨w.heap.size+1,1,none⟩=some (.slice A2 n2 c2))
   (first | exact⟨a0,a1,d0,d1⟩ | exact⟨f0,f1,k0,k1⟩ | exact⟨p0,p1,q0,q1⟩ | exact⟨r0,r1,t0,t1⟩)
   (first
    | (go_at_call 114;refine (rmul_any _ _ _ (limbs z1.natAbs) _ _ _ (limbs z2.natAbs) _ (by exact P1D.out) (by exact P2D.out) (by omega) (by omega)).mono ?_;rw[num_limbs,num_limbs];rintro e w3 ⟨A3,n3,c3,rfl,Q3,B3'⟩;have Y3:=YD.out.on B3';obtain⟨f0,f1,_⟩:=Y3.x1.at_;obtain⟨k0,k1,_⟩:=Y3.x2.at_)
    | (go_at_call 113;refine (rsignedI_any _ _ _ _ (z1.natAbs*z2.natAbs) _ (by exact Q3)).mono ?_;rw[hs.out];rintro e w4 ⟨A4,n4,c4,rfl,Q4,B4'⟩;have Y4:=Y3.on B4';obtain⟨p0,p1,_⟩:=Y4.x1.at_;obtain⟨q0,q1,_⟩:=Y4.x2.at_;obtain⟨v0,v1,v2,v3⟩:=Y4.x3.at_;have Y5:=Y4.put3 (ng (z1*z2)) A4 n4 c4;obtain⟨r0,r1,_⟩:=Y5.x1.at_;obtain⟨t0,t1,_⟩:=Y5.x2.at_))
  all_goals
   have Y5':=Lib.hid Y5
   have Q5:=Lib.hid (Q4.put Y4.x3 (.bool (ng (z1*z2))) (.slice A4 n4 c4))
   clear Y5 Y4 Y3 r0 r1 t0 t1 v0 v1 v2 v3 p0 p1 q0 q1 f0 f1 k0 k1 Q3 Q4 B3' B4'
   go_wp2
   refine bodyPost_ret (res_rmul _ _ (w.heap.size+1+1) rfl Y5'.out.x3) rfl ?_
   exact ret_I rfl Q5.out Y5'.out.bel
end Go.Proofs.YtdeedofmflelfaaGreatDoor

namespace Go.Proofs.YtdeedofmflelfaaGreatDoor
open Go.RowKit
end Go.Proofs.YtdeedofmflelfaaGreatDoor

namespace Go.Proofs.YtdeedofmflelfaaGreatDoor
open Go.RowKit
end Go.Proofs.YtdeedofmflelfaaGreatDoor

namespace Go.Proofs.YtdeedofmflelfaaGreatDoor
open Go.RowKit
end Go.Proofs.YtdeedofmflelfaaGreatDoor

namespace Go.Proofs.YtdeedofmflelfaaGreatDoor
open Go.RowKit
/-- The list that Parse gives. -/
def plist (s:ByteArray):List Nat:=if isDec s=true then limbs (dval s.data.toList) else []
theorem plist_len (s:ByteArray):(plist s).length≤445:=by
 unfold plist
 split
 ·rename_i h
  obtain⟨_,h4,ha⟩:=isDec_yes' h
  exact dec_len ha (by rw[toList_len];exact h4)
 ·simp
theorem parse_p (s:ByteArray) (w:World):Calls Tryz.prog 207 #[.string s] w fun e w'=>∃ A n c,e=.returned (.tuple #[.slice A n c,.bool (isDec s)])∧Rd w' A n c (plist s)∧Below w.heap.size w w'∧n≤445:=
 (parse_any s w).mono fun _ _ ⟨A,n,c,he,R,B⟩=>⟨A,n,c,he,R,B,by have:=plist_len s;have:=R.len;unfold plist at *;omega⟩
theorem rparse_p (s:ByteArray) (w:World):Calls Tryz.prog 135 #[.string s] w fun e w'=>∃ A n c,e=.returned (.tuple #[.slice A n c,.bool (isDec s)])∧Rd w' A n c (plist s)∧Below w.heap.size w w'∧n≤445:=
 (rparse_any s w).mono fun _ _ ⟨A,n,c,he,R,B⟩=>⟨A,n,c,he,R,B,by have:=plist_len s;have:=R.len;unfold plist at *;omega⟩
end Go.Proofs.YtdeedofmflelfaaGreatDoor

namespace Go.Proofs.YtdeedofmflelfaaGreatDoor
open Go.RowKit
theorem parse_yes (s:ByteArray) (w:World) (h:isDec s=true):Calls Tryz.prog 207 #[.string s] w fun e w'=>∃ A n c,e=.returned (.tuple #[.slice A n c,.bool true])∧Rd w' A n c (limbs (dval s.data.toList))∧Below w.heap.size w w'∧n≤445:=by
 have:=parse_p s w
 unfold plist at this
 rw[h,if_pos rfl] at this
 exact this
theorem parse_no (s:ByteArray) (w:World) (h:isDec s=false):Calls Tryz.prog 207 #[.string s] w fun e w'=>∃ A c,e=.returned (.tuple #[.slice A 0 c,.bool false])∧Below w.heap.size w w':=by
 have:=parse_p s w
 unfold plist at this
 rw[h] at this
 refine this.mono ?_
 rintro e w' ⟨A,n,c,he,R,B,_⟩
 obtain rfl:n=0:=by have:=R.len;simpa using this.symm
 exact⟨A,c,he,B⟩
end Go.Proofs.YtdeedofmflelfaaGreatDoor

namespace Go.Proofs.YtdeedofmflelfaaGreatDoor
open Go.RowKit
end Go.Proofs.YtdeedofmflelfaaGreatDoor

namespace Go.Proofs.YtdeedofmflelfaaGreatDoor
open Go.RowKit
/-- Does a text begin with a minus sign? What stands behind it. -/
def hm (s:ByteArray):Bool:=Lib.hasPrefix s.data.toList [45]
def rest (s:ByteArray):ByteArray:=⟨(Lib.trimPrefix s.data.toList [45]).toArray⟩
def pok (s:ByteArray):Bool:=isDec (rest s) && !(hm s&&dval (rest s).data.toList==0)
def pval (s:ByteArray):Int:=if pok s=true then sg (hm s) (dval (rest s).data.toList) else 0
/-- What Parse leaves. -/
def RetP2 (s:ByteArray) (w:World) (e:Ending) (w':World):Prop:=∃ A n c,e=.returned (.tuple #[.agg #[.bool (ng (pval s)),.slice A n c],.bool (pok s)])∧Rd w' A n c (limbs (pval s).natAbs)∧Below w.heap.size w w'∧n≤445
theorem retP2_no {s:ByteArray} {w w':World} {A:Option Addr} {c:Nat} (h:pok s=false) (hB:Below w.heap.size w w'):RetP2 s w (.returned (.tuple #[.agg #[.bool false,.slice A 0 c],.bool false])) w':=by
 have e:pval s=0:=by unfold pval;rw[h];rfl
 unfold RetP2
 rw[h,e]
 exact⟨A,0,c,rfl,by rw[show (0:Int).natAbs=0 from rfl,limbs_zero];exact Rd.nil_ _ _ _,hB,by omega⟩
theorem retP2_yes {s:ByteArray} {w w':World} {A:Option Addr} {n c:Nat} {z:Int} (h:pok s=true) (hz:sg (hm s) (dval (rest s).data.toList)=z) (R:Rd w' A n c (limbs z.natAbs)) (hB:Below w.heap.size w w') (hn:n≤445):RetP2 s w (.returned (.tuple #[.agg #[.bool (ng z),.slice A n c],.bool true])) w':=by
 have e:pval s=z:=by unfold pval;rw[h,if_pos rfl];exact hz
 unfold RetP2
 rw[h,e]
 exact⟨A,n,c,rfl,R,hB,hn⟩
theorem hm_no {s:ByteArray} (h:hm s=false):rest s=s:=by
 unfold rest Lib.trimPrefix
 unfold hm at h
 rw[h]
 rfl
theorem hm_size {s:ByteArray} (h:hm s=true):∃ (h0:0<s.size),s[0].toNat=45:=by
 unfold hm Lib.hasPrefix at h
 cases hl:s.data.toList with
 | nil=>rw[hl] at h;cases h
 | cons c r=>
  have h0:0<s.size:=by rw[←toList_len,hl];simp
  refine⟨h0,?_⟩
  have hg:=toList_get h0
  rw[hl] at hg h
  simp at hg
  simp[List.isPrefixOf] at h
  rw[←hg,←h];rfl
theorem hm_not {s:ByteArray} (h:hm s=false) (h0:0<s.size):s[0].toNat≠45:=by
 intro hc
 unfold hm Lib.hasPrefix at h
 cases hl:s.data.toList with
 | nil=>have:=toList_len s;rw[hl] at this;simp at this;omega
 | cons c r=>
  have hg:=toList_get h0
  rw[hl] at hg h
  simp at hg
  rw[←hg] at hc
  have:c=45:=by apply UInt8.toNat_inj.1;rw[hc];rfl
  subst this
  simp[List.isPrefixOf] at h
theorem hm_rest {s:ByteArray} (h:hm s=true):rest s=s.extract 1 s.size:=by
 apply ByteArray.ext
 apply Array.toList_inj.1
 rw[ext_drop]
 unfold rest Lib.trimPrefix
 unfold hm at h
 rw[h]
 rfl
theorem res_parse (W:World) (tmps:Array Value) (g:Nat) (q:Bool) {b:Bool} {A:Option Addr} {n c:Nat} (ht:tmps.getD 2 undef=.pointer (some ⟨g,0,none⟩)) (ht3:tmps.getD 3 undef=.bool q) (h:Bx W g b A n c) :
  (results Tryz.f185 tmps).run Tryz.prog W=.ok (.tuple #[.agg #[.bool b,.slice A n c],.bool q]) W:=by
 obtain⟨c0,c1,_⟩:=h.at_
 have e1:tmps[2]?.getD undef=.pointer (some ⟨g,0,none⟩):=by rw[←ht];simp[Array.getD_eq_getD_getElem?]
 have e3:tmps[3]?.getD undef=.bool q:=by rw[←ht3];simp[Array.getD_eq_getD_getElem?]
 simp[results,Tryz.results185,go_sem,e1,e3,c0,c1]
set_option maxHeartbeats 4000000 in
theorem parseI_any (s:ByteArray) (w:World):Calls Tryz.prog 185 #[.string s] w (RetP2 s w):=by
 have X:=Lib.hid (Bx.new w false none 0 0)
 have Bw:=Lib.hid ((Below.refl w.heap.size w).alloc (Nat.le_refl _) (.cells #[.bool false,.slice none 0 0] 44))
 have hcut:=fun W=>Tryz.strings_CutPrefix s ⟨#[45]⟩ W
 have hcut2:Hid (∀ W,Calls Tryz.prog 126 #[.string s,.string ⟨#[45]⟩] W fun e w'=>e=.returned (.tuple #[.string (rest s),.bool (hm s)])∧w'=W):=Lib.hid hcut
 clear hcut
 obtain⟨T,hT⟩:∃ T,rest s=T:=⟨_,rfl⟩
 obtain⟨q,hq⟩:∃ q,hm s=q:=⟨_,rfl⟩
 obtain⟨N,hN⟩:∃ N,dval T.data.toList=N:=⟨_,rfl⟩
 rw[hT,hq] at hcut2
 cases hd:isDec T
 ·have hno:Hid (pok s=false):=Lib.hid (by unfold pok;rw[hT,hd];rfl)
  have hp:=Lib.hid (fun W=>parse_no T W hd)
  clear hd hT hq hN
  go_enter Tryz.func185,Tryz.ntmps185
  go_wp2_with (go_at_call 126;refine (hcut2.out _).mono ?_;rintro e w' ⟨rfl,hw⟩;subst hw)
  refine (hp.out _).mono ?_
  rintro e w1 ⟨A1,c1,rfl,B1⟩
  have X1:=X.out.bel B1
  have Bz:=Lib.hid (put_below (.bool false) (.slice none 0 0) (Bw.out.trans (B1.mono Bw.out.size)) (Nat.le_refl w.heap.size))
  obtain⟨a0,a1,a2,a3⟩:=X1.at_
  have X2:=Lib.hid (X1.put false none 0 0)
  clear X1 B1
  go_wp2
  refine bodyPost_ret (res_parse _ _ w.heap.size false rfl rfl X2.out) rfl ?_
  exact retP2_no hno.out Bz.out
 ·have hp:=fun W=>parse_yes T W hd
  rw[hN] at hp
  replace hp:=Lib.hid hp
  have hlen:(limbs N).length≤445:=by
   obtain⟨_,h4,ha⟩:=isDec_yes' hd
   rw[←hN];exact dec_len ha (by rw[toList_len];exact h4)
  by_cases hbad:q=true∧N=0
  ·obtain⟨hq1,hN0⟩:=hbad
   have hno:Hid (pok s=false):=Lib.hid (by unfold pok;rw[hT,hd,hq,hN,hq1,hN0];rfl)
   rw[hN0,limbs_zero] at hp
   rw[hq1] at hcut2
   clear hd hT hq hN hN0 hq1 hlen
   go_enter Tryz.func185,Tryz.ntmps185
   go_wp2_with (go_at_call 126;refine (hcut2.out _).mono ?_;rintro e w' ⟨rfl,hw⟩;subst hw)
   refine (hp.out _).mono ?_
   rintro e w1 ⟨A1,n1,c1,rfl,R1,B1,l1⟩
   obtain rfl:n1=0:=R1.len.symm
   have X1:=X.out.bel B1
   have Bz:=Lib.hid (put_below (.bool false) (.slice none 0 0) (Bw.out.trans (B1.mono Bw.out.size)) (Nat.le_refl w.heap.size))
   obtain⟨a0,a1,a2,a3⟩:=X1.at_
   have X2:=Lib.hid (X1.put false none 0 0)
   clear X1 B1 R1
   go_wp2
   refine bodyPost_ret (res_parse _ _ w.heap.size false rfl rfl X2.out) rfl ?_
   exact retP2_no hno.out Bz.out
  ·have hyes:Hid (pok s=true):=Lib.hid (by
    unfold pok;rw[hT,hd,hq,hN]
    cases q
    ·rfl
    ·have:(N==0)=false:=by rw[beq_eq_false_iff_ne];exact fun h=>hbad ⟨rfl,h⟩
     rw[this];rfl)
   have hz:Hid (sg (hm s) (dval (rest s).data.toList)=sg q N):=Lib.hid (by rw[hT,hq,hN])
   have hcase:Hid (∀ W A n c,Rd W A n c (limbs N)→q=false∨(q=true∧((n:Int)==0)=false)):=Lib.hid (fun W A n c h=>by
    cases q
    ·exact .inl rfl
    ·refine .inr ⟨rfl,?_⟩
     rw[beq_eq_false_iff_ne]
     intro hn
     have:=h.len
     have hN0:0<N:=by rcases Nat.eq_zero_or_pos N with h | h;exact absurd ⟨rfl,h⟩ hbad;exact h
     rw[limbs_pos hN0] at this
     simp at this
     omega)
   have hl2:Hid ((limbs (sg q N).natAbs).length≤445):=Lib.hid (by rw[abs_sg];exact hlen)
   have hsg:=Lib.hid (fun W A n c (h:Rd W A n c (limbs N))=>signedI_any q A n c N W h)
   generalize sg q N=z at hz hl2 hsg
   clear hd hT hq hN hbad hlen
   go_enter Tryz.func185,Tryz.ntmps185
   go_wp2_with (go_at_call 126;refine (hcut2.out _).mono ?_;rintro e w' ⟨rfl,hw⟩;subst hw)
   refine (hp.out _).mono ?_
   rintro e w1 ⟨A1,n1,c1,rfl,R1,B1,l1⟩
   have hc:=hcase.out _ _ _ _ R1
   have X1:=Lib.hid (X.out.bel B1)
   have Bw1:=Lib.hid (Bw.out.trans (B1.mono Bw.out.size))
   replace R1:=Lib.hid R1
   clear B1 hcase
   rcases hc with rfl | ⟨rfl,hn0⟩
   all_goals
    go_wp2_with (go_at_call 131;refine (hsg.out _ _ _ _ (by exact R1.out)).mono ?_;rintro e w2 ⟨A2,n2,c2,rfl,Q2,B2'⟩;refine Hid.out ?_)
    refine Lib.hid ?_
    have hn2:n2≤445:=by have:=hl2.out;have:=Q2.len;omega
    have X2:=X1.out.bel B2'
    obtain⟨a0,a1,a2,a3⟩:=X2.at_
    have X3:=Lib.hid (X2.put (ng z) A2 n2 c2)
    have Q3:=Lib.hid (Q2.put X2 (.bool (ng z)) (.slice A2 n2 c2))
    have Bz:=Lib.hid (put_below (.bool (ng z)) (.slice A2 n2 c2) (Bw1.out.trans (B2'.mono Bw1.out.size)) (Nat.le_refl w.heap.size))
    clear X2 Q2 B2'
    go_wp2
    refine bodyPost_ret (res_parse _ _ w.heap.size true rfl rfl X3.out) rfl ?_
    exact retP2_yes hyes.out hz.out Q3.out Bz.out hn2
end Go.Proofs.YtdeedofmflelfaaGreatDoor
