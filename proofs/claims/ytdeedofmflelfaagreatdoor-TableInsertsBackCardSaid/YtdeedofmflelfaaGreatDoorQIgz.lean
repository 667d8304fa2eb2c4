/- Contract of the reference's Mul. Contract of Add. Contract of the reference's Add. Contracts of Sub. The walk of the law NaturalWrites. The walk of the law NaturalReadsBack. Contracts of Format. Contract of Parse. -/
import Derived.Test.YtdeedofmflelfaaGreatDoorQIaz
import Derived.Test.YtdeedofmflelfaaGreatDoorQWqz
import Derived.Test.YtdeedofmflelfaaGreatDoorQWjz
import Derived.Test.YtdeedofmflelfaaGreatDoorQIjz
import Derived.Test.YtdeedofmflelfaaGreatDoorQYgz
import Derived.Test.YtdeedofmflelfaaGreatDoorSh
namespace Go.Proofs.YtdeedofmflelfaaGreatDoor
open Go.RowKit
end Go.Proofs.YtdeedofmflelfaaGreatDoor

namespace Go.Proofs.YtdeedofmflelfaaGreatDoor
open Go.RowKit
end Go.Proofs.YtdeedofmflelfaaGreatDoor

namespace Go.Proofs.YtdeedofmflelfaaGreatDoor
open Go.RowKit
end Go.Proofs.YtdeedofmflelfaaGreatDoor

namespace Go.Proofs.YtdeedofmflelfaaGreatDoor
open Go.RowKit
end Go.Proofs.YtdeedofmflelfaaGreatDoor

namespace Go.Proofs.YtdeedofmflelfaaGreatDoor
open Go.RowKit
/-- The list that Parse gives. -/
def plist (s:ByteArray):List Nat:=if isDec s=true then limbs (dval s.data.toList) else []
theorem plist_len (s:ByteArray):(plist s).length≤445:=by
 unfold plist
 split
 ·rename_i h
  obtain⟨_,h4,ha⟩:=isDec_yes' h
  exact dec_len ha (by rw[toList_len];exact h4)
 ·simp
theorem parse_p (s:ByteArray) (w:World):Calls Tryz.prog 207 #[.string s] w fun e w'=>∃ A n c,e=.returned (.tuple #[.slice A n c,.bool (isDec s)])∧Rd w' A n c (plist s)∧Below w.heap.size w w'∧n≤445:=
 (parse_any s w).mono fun _ _ ⟨A,n,c,he,R,B⟩=>⟨A,n,c,he,R,B,by have:=plist_len s;have:=R.len;unfold plist at *;omega⟩
end Go.Proofs.YtdeedofmflelfaaGreatDoor

namespace Go.Proofs.YtdeedofmflelfaaGreatDoor
open Go.RowKit
theorem parse_yes (s:ByteArray) (w:World) (h:isDec s=true):Calls Tryz.prog 207 #[.string s] w fun e w'=>∃ A n c,e=.returned (.tuple #[.slice A n c,.bool true])∧Rd w' A n c (limbs (dval s.data.toList))∧Below w.heap.size w w'∧n≤445:=by
 have:=parse_p s w
 unfold plist at this
 rw[h,if_pos rfl] at this
 exact this
theorem parse_no (s:ByteArray) (w:World) (h:isDec s=false):Calls Tryz.prog 207 #[.string s] w fun e w'=>∃ A c,e=.returned (.tuple #[.slice A 0 c,.bool false])∧Below w.heap.size w w':=by
 have:=parse_p s w
 unfold plist at this
 rw[h] at this
 refine this.mono ?_
 rintro e w' ⟨A,n,c,he,R,B,_⟩
 obtain rfl:n=0:=by have:=R.len;simpa using this.symm
 exact⟨A,c,he,B⟩
end Go.Proofs.YtdeedofmflelfaaGreatDoor

namespace Go.Proofs.YtdeedofmflelfaaGreatDoor
open Go.RowKit
end Go.Proofs.YtdeedofmflelfaaGreatDoor

namespace Go.Proofs.YtdeedofmflelfaaGreatDoor
open Go.RowKit
/-- Does a text begin with a minus sign? What stands behind it. -/
def hm (s:ByteArray):Bool:=Lib.hasPrefix s.data.toList [45]
def rest (s:ByteArray):ByteArray:=⟨(Lib.trimPrefix s.data.toList [45]).toArray⟩
def pok (s:ByteArray):Bool:=isDec (rest s) && !(hm s&&dval (rest s).data.toList==0)
def pval (s:ByteArray):Int:=if pok s=true then sg (hm s) (dval (rest s).data.toList) else 0
/-- What Parse leaves. -/
def RetP2 (s:ByteArray) (w:World) (e:Ending) (w':World):Prop:=∃ A n c,e=.returned (.tuple #[.agg #[.bool (ng (pval s)),.slice A n c],.bool (pok s)])∧Rd w' A n c (limbs (pval s).natAbs)∧Below w.heap.size w w'∧n≤445
theorem retP2_no {s:ByteArray} {w w':World} {A:Option Addr} {c:Nat} (h:pok s=false) (hB:Below w.heap.size w w'):RetP2 s w (.returned (.tuple #[.agg #[.bool false,.slice A 0 c],.bool false])) w':=by
 have e:pval s=0:=by unfold pval;rw[h];rfl
 unfold RetP2
 rw[h,e]
 exact⟨A,0,c,rfl,by rw[show (0:Int).natAbs=0 from rfl,limbs_zero];exact Rd.nil_ _ _ _,hB,by omega⟩
theorem retP2_yes {s:ByteArray} {w w':World} {A:Option Addr} {n c:Nat} {z:Int} (h:pok s=true) (hz:sg (hm s) (dval (rest s).data.toList)=z) (R:Rd w' A n c (limbs z.natAbs)) (hB:Below w.heap.size w w') (hn:n≤445):RetP2 s w (.returned (.tuple #[.agg #[.bool (ng z),.slice A n c],.bool true])) w':=by
 have e:pval s=z:=by unfold pval;rw[h,if_pos rfl];exact hz
 unfold RetP2
 rw[h,e]
 exact⟨A,n,c,rfl,R,hB,hn⟩
theorem res_parse (W:World) (tmps:Array Value) (g:Nat) (q:Bool) {b:Bool} {A:Option Addr} {n c:Nat} (ht:tmps.getD 2 undef=.pointer (some ⟨g,0,none⟩)) (ht3:tmps.getD 3 undef=.bool q) (h:Bx W g b A n c) :
  (results Tryz.f185 tmps).run Tryz.prog W=.ok (.tuple #[.agg #[.bool b,.slice A n c],.bool q]) W:=by
 obtain⟨c0,c1,_⟩:=h.at_
 have e1:tmps[2]?.getD undef=.pointer (some ⟨g,0,none⟩):=by rw[←ht];simp[Array.getD_eq_getD_getElem?]
 have e3:tmps[3]?.getD undef=.bool q:=by rw[←ht3];simp[Array.getD_eq_getD_getElem?]
 simp[results,Tryz.results185,go_sem,e1,e3,c0,c1]
set_option maxHeartbeats 4000000 in
theorem parseI_any (s:ByteArray) (w:World):Calls Tryz.prog 185 #[.string s] w (RetP2 s w):=by
 have X:=Lib.hid (Bx.new w false none 0 0)
 have Bw:=Lib.hid ((Below.refl w.heap.size w).alloc (Nat.le_refl _) (.cells #[.bool false,.slice none 0 0] 44))
 have hcut:=fun W=>Tryz.strings_CutPrefix s ⟨#[45]⟩ W
 have hcut2:Hid (∀ W,Calls Tryz.prog 126 #[.string s,.string ⟨#[45]⟩] W fun e w'=>e=.returned (.tuple #[.string (rest s),.bool (hm s)])∧w'=W):=Lib.hid hcut
 clear hcut
 obtain⟨T,hT⟩:∃ T,rest s=T:=⟨_,rfl⟩
 obtain⟨q,hq⟩:∃ q,hm s=q:=⟨_,rfl⟩
 obtain⟨N,hN⟩:∃ N,dval T.data.toList=N:=⟨_,rfl⟩
 rw[hT,hq] at hcut2
 cases hd:isDec T
 ·have hno:Hid (pok s=false):=Lib.hid (by unfold pok;rw[hT,hd];rfl)
  have hp:=Lib.hid (fun W=>parse_no T W hd)
  clear hd hT hq hN
  go_enter Tryz.func185,Tryz.ntmps185
  go_wp2_with (go_at_call 126;refine (hcut2.out _).mono ?_;rintro e w' ⟨rfl,hw⟩;subst hw)
  refine (hp.out _).mono ?_
  rintro e w1 ⟨A1,c1,rfl,B1⟩
  have X1:=X.out.bel B1
  have Bz:=Lib.hid (put_below (.bool false) (.slice none 0 0) (Bw.out.trans (B1.mono Bw.out.size)) (Nat.le_refl w.heap.size))
  obtain⟨a0,a1,a2,a3⟩:=X1.at_
  have X2:=Lib.hid (X1.put false none 0 0)
  clear X1 B1
  go_wp2
  refine bodyPost_ret (res_parse _ _ w.heap.size false rfl rfl X2.out) rfl ?_
  exact retP2_no hno.out Bz.out
 ·have hp:=fun W=>parse_yes T W hd
  rw[hN] at hp
  replace hp:=Lib.hid hp
  have hlen:(limbs N).length≤445:=by
   obtain⟨_,h4,ha⟩:=isDec_yes' hd
   rw[←hN];exact dec_len ha (by rw[toList_len];exact h4)
  by_cases hbad:q=true∧N=0
  ·obtain⟨hq1,hN0⟩:=hbad
   have hno:Hid (pok s=false):=Lib.hid (by unfold pok;rw[hT,hd,hq,hN,hq1,hN0];rfl)
   rw[hN0,limbs_zero] at hp
   rw[hq1] at hcut2
   clear hd hT hq hN hN0 hq1 hlen
   go_enter Tryz.func185,Tryz.ntmps185
   go_wp2_with (go_at_call 126;refine (hcut2.out _).mono ?_;rintro e w' ⟨rfl,hw⟩;subst hw)
   refine (hp.out _).mono ?_
   rintro e w1 ⟨A1,n1,c1,rfl,R1,B1,l1⟩
   obtain rfl:n1=0:=R1.len.symm
   have X1:=X.out.bel B1
   have Bz:=Lib.hid (put_below (.bool false) (.slice none 0 0) (Bw.out.trans (B1.mono Bw.out.size)) (Nat.le_refl w.heap.size))
   obtain⟨a0,a1,a2,a3⟩:=X1.at_
   have X2:=Lib.hid (X1.put false none 0 0)
   clear X1 B1 R1
   go_wp2
   refine bodyPost_ret (res_parse _ _ w.heap.size false rfl rfl X2.out) rfl ?_
   exact retP2_no hno.out Bz.out
  ·have hyes:Hid (pok s=true):=Lib.hid (by
    unfold pok;rw[hT,hd,hq,hN]
    cases q
    ·rfl
    ·have:(N==0)=false:=by rw[beq_eq_false_iff_ne];exact fun h=>hbad ⟨rfl,h⟩
     rw[this];rfl)
   have hz:Hid (sg (hm s) (dval (rest s).data.toList)=sg q N):=Lib.hid (by rw[hT,hq,hN])
   have hcase:Hid (∀ W A n c,Rd W A n c (limbs N)→q=false∨(q=true∧((n:Int)==0)=false)):=Lib.hid (fun W A n c h=>by
    cases q
    ·exact .inl rfl
    ·refine .inr ⟨rfl,?_⟩
     rw[beq_eq_false_iff_ne]
     intro hn
     have:=h.len
     have hN0:0<N:=by rcases Nat.eq_zero_or_pos N with h | h;exact absurd ⟨rfl,h⟩ hbad;exact h
     rw[limbs_pos hN0] at this
     simp at this
     omega)
   have hl2:Hid ((limbs (sg q N).natAbs).length≤445):=Lib.hid (by rw[abs_sg];exact hlen)
   have hsg:=Lib.hid (fun W A n c (h:Rd W A n c (limbs N))=>signedI_any q A n c N W h)
   generalize sg q N=z at hz hl2 hsg
   clear hd hT hq hN hbad hlen
   go_enter Tryz.func185,Tryz.ntmps185
   go_wp2_with (go_at_call 126;refine (hcut2.out _).mono ?_;rintro e w' ⟨rfl,hw⟩;subst hw)
   refine (hp.out _).mono ?_
   rintro e w1 ⟨A1,n1,c1,rfl,R1,B1,l1⟩
   have hc:=hcase.out _ _ _ _ R1
   have X1:=Lib.hid (X.out.bel B1)
   have Bw1:=Lib.hid (Bw.out.trans (B1.mono Bw.out.size))
   replace R1:=Lib.hid R1
   clear B1 hcase
   rcases hc with rfl | ⟨rfl,hn0⟩
   all_goals
    go_wp2_with (go_at_call 131;refine (hsg.out _ _ _ _ (by exact R1.out)).mono ?_;rintro e w2 ⟨A2,n2,c2,rfl,Q2,B2'⟩;refine Hid.out ?_)
    refine Lib.hid ?_
    have hn2:n2≤445:=by have:=hl2.out;have:=Q2.len;omega
    have X2:=X1.out.bel B2'
    obtain⟨a0,a1,a2,a3⟩:=X2.at_
    have X3:=Lib.hid (X2.put (ng z) A2 n2 c2)
    have Q3:=Lib.hid (Q2.put X2 (.bool (ng z)) (.slice A2 n2 c2))
    have Bz:=Lib.hid (put_below (.bool (ng z)) (.slice A2 n2 c2) (Bw1.out.trans (B2'.mono Bw1.out.size)) (Nat.le_refl w.heap.size))
    clear X2 Q2 B2'
    go_wp2
    refine bodyPost_ret (res_parse _ _ w.heap.size true rfl rfl X3.out) rfl ?_
    exact retP2_yes hyes.out hz.out Q3.out Bz.out hn2
end Go.Proofs.YtdeedofmflelfaaGreatDoor
