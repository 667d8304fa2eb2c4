/- Under way. -/
import Derived.Test.YtdeedofmflelfaaGreatDoorQYaz
namespace Go.Proofs.YtdeedofmflelfaaGreatDoor
open Go.RowKit
theorem dval_snoc {s:ByteArray} {k:Nat} (h:k<s.size):dval (s.data.toList.take (k+1))=dval (s.data.toList.take k)*10+(s[k].toNat-48):=by
 rw[List.take_add_one,toList_get h,dval_app]
 simp[dval]
theorem ne_list {s:ByteArray} (h:0<s.size):s.toList.isEmpty=false:=by
 rw[ByteArray.toList_eq]
 cases hl:s.data.toList with
 | nil=>have:=toList_len s;rw[hl] at this;simp at this;omega
 | cons _ _=>rfl
theorem ne_list2 {s:ByteArray} (h:0<s.size):¬ s.toList=[]:=by
 intro h';have:=ne_list h;rw[h'] at this;cases this
theorem retP_no {s:ByteArray} {w w':World} (h:isDec s=false) (hB:Below w.heap.size w w'):RetP s w (.returned (.tuple #[.slice none 0 0,.bool false])) w':=by
 unfold RetP;rw[h];exact⟨none,0,0,rfl,Rd.nil_ _ _ _,hB⟩
theorem retP_yes {s:ByteArray} {w w':World} {A:Option Addr} {n c:Nat} (h:isDec s=true) (R:Rd w' A n c (limbs (dval s.data.toList))) (hB:Below w.heap.size w w'):RetP s w (.returned (.tuple #[.slice A n c,.bool true])) w':=by
 unfold RetP;rw[h];exact⟨A,n,c,rfl,R,hB⟩
theorem wrap_dig {x:Nat} (h1:48≤x) (h2:x≤57):IntKind.u64.wrap (IntKind.u8.wrap ((x:Int)-48))=((x-48:Nat):Int):=by
 have e:IntKind.u8.wrap ((x:Int)-48)=(x:Int)-48:=by rw[IntKind.wrap_u8];omega
 rw[e,IntKind.wrap_u64];omega
theorem rfromUint_i (z:Int) (v:Nat) (w:World) (hz:z=v) (hv:v<18446744073709551616):Calls Tryz.prog 123 #[.int .u64 z] w (RetN v w):=by
 subst hz;exact rfromUint_any v w hv
set_option maxHeartbeats 6000000 in
theorem rparse_yes (s:ByteArray) (w:World) (h0:0<s.size) (h1:s.size≤4000) (h2:¬ (1<s.size∧(s.get! 0).toNat=48)):Calls Tryz.prog 135 #[.string s] w (RetP s w):=by
 have hdd:=isDec_digs h0 h1 h2
 rw[getBang h0] at h2
 have g2:(s.size:Int)≤4000:=by omega
 have g0:(0:Int)<(s.size:Int):=by omega
 have hsz:(s.size:Int)≤1∨(1<(s.size:Int)∧((s[0].toNat:Int)==48)=false):=by
  by_cases h:s.size=1
  ·left;omega
  ·right;refine⟨by omega,?_⟩
   have:s[0].toNat≠48:=fun h'=>h2 ⟨by omega,h'⟩
   rw[beq_eq_false_iff_ne];omega
 have hse:=ne_list h0
 have hse2:=ne_list2 h0
 replace h2:=Lib.hid h2
 replace hdd:=Lib.hid hdd
 rcases hsz with g3 | ⟨g3,g4⟩
 all_goals
  go_enter Tryz.func135,Tryz.ntmps135
  go_wp2
  go_loopw [4,5] (fun cv iv wr=>∃ (k n c:Nat) (A:Option Addr),k≤s.size∧iv=.int .i64 ((k:Nat):Int)∧allDig (s.data.toList.take k)=true∧cv=.slice A n c∧Rd wr A n c (limbs (dval (s.data.toList.take k)))∧Below w.heap.size w wr)
   (fun _ iv _=>s.size-(intOf iv).toNat)
  case atStart=>exact⟨0,0,0,none,by omega,rfl,rfl,rfl,by simp[dval,limbs_zero];exact Rd.nil_ _ _ _,Below.refl _ _⟩
  case round=>
   obtain⟨k,n,c,A,hk,rfl,ha,rfl,R,hB⟩:=hrel
   have hn:n≤445:=by
    have:=dec_len ha (by rw[List.length_take,toList_len];omega)
    rw[R.len] at this;exact this
   replace ha:=Lib.hid ha
   replace R:=Lib.hid R
   replace hB:=Lib.hid hB
   by_cases hlt:k<s.size
   ·have b1:(k:Int)<(s.size:Int):=by omega
    have b0:(0:Int)≤(k:Int):=by omega
    have b2:(k:Int)≤4000:=by omega
    obtain⟨d,hc⟩:∃ d,s[k]=d:=⟨_,rfl⟩
    by_cases hdg:isDig d=true
    ·have hd1:(48:Int)≤(d.toNat:Int):=by unfold isDig at hdg;simp at hdg;omega
     have hd2:(d.toNat:Int)≤57:=by unfold isDig at hdg;simp at hdg;omega
     have hst:=Lib.hid (dval_snoc hlt)
     have hal:=Lib.hid (allDig_step hlt ha.out (by rw[hc];exact hdg))
     replace hdg:=Lib.hid hdg
     rw[←hc] at hd1 hd2
     replace hc:=Lib.hid hc
     have hn1:n≤10000:=by omega
     have hdv:((s[k].toNat:Int)-48)=((s[k].toNat-48:Nat):Int):=by omega
     obtain⟨N,hN⟩:∃ N,dval (s.data.toList.take k)=N:=⟨_,rfl⟩
     rw[hN] at R hst
     replace hN:=Lib.hid hN
     replace hdv:=Lib.hid hdv
     have hdl:48≤s[k].toNat:=by omega
     have hdu:s[k].toNat≤57:=by omega
     have hz2:(limbs (s[k].toNat-48)).length≤10000:=by
      have:=len_of_lt (x:=s[k].toNat-48) (n:=1) (by omega)
      omega
     have hz1:(limbs (N*10*4294967296^0)).length≤10000:=by
      have h5:=dec_len hal.out (by rw[List.length_take,toList_len];omega)
      rw[hst.out] at h5
      have:=len_le (x:=N*10+(s[k].toNat-48)) (y:=N*10*4294967296^0) (by omega)
      omega
     replace hz1:=Lib.hid hz1
     replace hz2:=Lib.hid hz2
     go_wp2_with fail
     go_region_held3 (fun _=>True) (trivial) (first
      | (go_at_call 151;refine (times_any A n c N 10 0 0 10 _ (by exact⟨R.out.len,R.out.cap,R.out.sm,R.out.mem⟩) hn1 (by omega) (by omega) rfl rfl).mono ?_;rintro e w1 ⟨A1,n1,c1,rfl,R1,B1⟩)
      | (go_at_call 123;refine (rfromUint_i _ (s[k].toNat-48) _ (wrap_dig hdl hdu) (by omega)).mono ?_;rintro e w2 ⟨A2,n2,c2,rfl,R2,B2⟩)
      | (go_at_call 122;refine (radd_any _ _ _ (limbs (N*10*4294967296^0)) _ _ _ (limbs (s[k].toNat-48)) _ (by exact R1.below B2) (by exact R2) (by have:=R1.len;have:=hz1.out;omega) (by have:=R2.len;have:=hz2.out;omega)).mono ?_;rintro e w3 ⟨A3,n3,c3,rfl,R3,B3⟩))
     all_goals
      rw[num_limbs,num_limbs,show N*10*4294967296^0=N*10 by omega,←hst.out] at R3
      have hB3:=(((hB.out.drew).trans (B1.mono hB.out.size)).trans (B2.mono (Nat.le_trans hB.out.size B1.size))).trans (B3.mono (Nat.le_trans hB.out.size (Nat.le_trans B1.size B2.size)))
      clear B1 B2 B3 R1 R2 hz1 hz2
      replace hB3:=Lib.hid hB3
      replace R3:=Lib.hid R3
      have hmes:s.size-(intOf (Value.int IntKind.i64 ((k:Int)+1))).toNat<s.size-(intOf (Value.int IntKind.i64 (k:Int))).toNat:=by simp only[intOf];omega
      first
       | exact⟨⟨k+1,n3,c3,A3,by omega,by congr 1,hal.out,rfl,R3.out,hB3.out⟩,hmes⟩
       | (clear hmes
          go_wp2
          first
           | exact⟨⟨k+1,n3,c3,A3,by omega,by congr 1,hal.out,rfl,R3.out,hB3.out⟩,by first | omega | (simp[intOf];done) | (simp[intOf];omega)⟩
           | (go_roundw
              case rel=>exact⟨k+1,n3,c3,A3,by omega,by congr 1,hal.out,rfl,R3.out,hB3.out⟩
              case measure=>first | omega | (simp[intOf];done) | (simp[intOf];omega)))
    ·have hdn:(d.toNat:Int)<48∨((48:Int)≤(d.toNat:Int)∧57<(d.toNat:Int)):=by unfold isDig at hdg;simp at hdg;omega
     have hno:isDec s=false:=by rw[hdd.out];exact allDig_no hlt (by rw[hc];simpa using hdg)
     replace hno:=Lib.hid hno
     clear hdg
     rw[←hc] at hdn
     replace hc:=Lib.hid hc
     rcases hdn with hd1 | ⟨hd1,hd2⟩
     all_goals
      go_wp2
      go_ret2
      exact retP_no hno.out hB.out
   ·have b1:(s.size:Int)≤(k:Int):=by omega
    have e:s.data.toList.take k=s.data.toList:=List.take_of_length_le (by rw[toList_len];omega)
    have hyes:=hdd.out
    have ha1:=ha.out
    have R1:=R.out
    rw[e] at ha1 R1
    rw[ha1] at hyes
    replace hyes:=Lib.hid hyes
    replace R1:=Lib.hid R1
    replace hk:=Lib.hid hk
    clear hlt e ha1
    go_wp2
    go_ret2
    exact retP_yes hyes.out R1.out hB.out
set_option maxHeartbeats 1000000 in
theorem rparse_no (s:ByteArray) (w:World) (h:s.size=0∨4000<s.size∨(1<s.size∧(s.get! 0).toNat=48)):Calls Tryz.prog 135 #[.string s] w (RetP s w):=by
 have hno:isDec s=false:=by
  rcases h with h | h | ⟨h,h'⟩
  ·exact isDec_size (.inl h)
  ·exact isDec_size (.inr h)
  ·exact isDec_zero h (by rw[←getBang (by omega)];exact h')
 replace hno:=Lib.hid hno
 by_cases h0:s.size=0
 ·have hs:s=ByteArray.empty:=ByteArray.ext (by apply Array.eq_empty_of_size_eq_zero;exact h0)
  subst hs
  go_enter Tryz.func135,Tryz.ntmps135
  go_wp2
  go_ret2
  exact retP_no hno.out (Below.refl _ _)
 have hse:=ne_list (s:=s) (by omega)
 have hse2:=ne_list2 (s:=s) (by omega)
 by_cases h1:4000<s.size
 ·have g2:4000<(s.size:Int):=by omega
  go_enter Tryz.func135,Tryz.ntmps135
  go_wp2
  all_goals (go_ret2;exact retP_no hno.out (Below.refl _ _))
 obtain⟨h2,h3⟩:1<s.size∧(s.get! 0).toNat=48:=by omega
 rw[getBang (by omega)] at h3
 have g2:(s.size:Int)≤4000:=by omega
 have g3:1<(s.size:Int):=by omega
 have g4:((s[0].toNat:Int)==48)=true:=by rw[h3];rfl
 replace h3:=Lib.hid h3
 clear h
 go_enter Tryz.func135,Tryz.ntmps135
 go_wp2
 all_goals (go_ret2;exact retP_no hno.out (Below.refl _ _))
theorem rparse_any (s:ByteArray) (w:World):Calls Tryz.prog 135 #[.string s] w (RetP s w):=by
 by_cases h:s.size=0∨4000<s.size∨(1<s.size∧(s.get! 0).toNat=48)
 ·exact rparse_no s w h
 ·exact rparse_yes s w (by omega) (by omega) (by omega)
end Go.Proofs.YtdeedofmflelfaaGreatDoor

namespace Go.Proofs.YtdeedofmflelfaaGreatDoor
open Go.RowKit
end Go.Proofs.YtdeedofmflelfaaGreatDoor

namespace Go.Proofs.YtdeedofmflelfaaGreatDoor
open Go.RowKit
end Go.Proofs.YtdeedofmflelfaaGreatDoor
