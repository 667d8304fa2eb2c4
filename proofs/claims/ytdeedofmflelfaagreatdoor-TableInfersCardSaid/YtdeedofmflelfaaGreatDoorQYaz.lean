/- Under way. -/
import Derived.Test.YtdeedofmflelfaaGreatDoorQWjz
import Derived.Test.YtdeedofmflelfaaGreatDoorQWqz
namespace Go.Proofs.YtdeedofmflelfaaGreatDoor
open Go.RowKit
/-- A byte that is a decimal digit. -/
def isDig (c:UInt8):Bool:=decide (48≤c.toNat)&&decide (c.toNat≤57)
def allDig (l:List UInt8):Bool:=l.all isDig
/-- What Parse takes. -/
def isDec (s:ByteArray):Bool:=decide (0<s.size)&&decide (s.size≤4000) && !(decide (1<s.size)&&decide ((s.get! 0).toNat=48))&&allDig s.data.toList
theorem getBang {s:ByteArray} {k:Nat} (h:k<s.size):s.get! k=s[k]:=by
 show s.data[k]! = _
 rw[getElem!_pos];rfl
theorem toList_get {s:ByteArray} {k:Nat} (h:k<s.size):s.data.toList[k]?=some s[k]:=by
 rw[Array.getElem?_toList,Array.getElem?_eq_getElem h];rfl
theorem toList_len (s:ByteArray):s.data.toList.length=s.size:=Array.length_toList
theorem allDig_step {s:ByteArray} {k:Nat} (h:k<s.size) (ha:allDig (s.data.toList.take k)=true) (hd:isDig s[k]=true):allDig (s.data.toList.take (k+1))=true:=by
 unfold allDig at *
 rw[List.take_add_one,toList_get h,List.all_append,ha]
 simpa using hd
theorem allDig_no {s:ByteArray} {k:Nat} (h:k<s.size) (hd:isDig s[k]=false):allDig s.data.toList=false:=by
 unfold allDig
 rw[List.all_eq_false]
 exact⟨s[k],List.mem_of_getElem? (toList_get h),by rw[hd];simp⟩
theorem isDec_size {s:ByteArray} (h:s.size=0∨4000<s.size):isDec s=false:=by
 unfold isDec
 rcases h with h | h
 ·have:decide (0<s.size)=false:=by rw[decide_eq_false_iff_not];omega
  rw[this];rfl
 ·have:decide (s.size≤4000)=false:=by rw[decide_eq_false_iff_not];omega
  rw[this];simp
theorem isDec_zero {s:ByteArray} (h:1<s.size) (hz:s[0].toNat=48):isDec s=false:=by
 unfold isDec
 have h1:decide (1<s.size)=true:=by rw[decide_eq_true_eq];omega
 have h2:decide ((s.get! 0).toNat=48)=true:=by rw[getBang (by omega)];simpa using hz
 rw[h1,h2];simp
theorem isDec_digs {s:ByteArray} (h0:0<s.size) (h1:s.size≤4000) (h2:¬ (1<s.size∧(s.get! 0).toNat=48)):isDec s=allDig s.data.toList:=by
 unfold isDec
 have a0:decide (0<s.size)=true:=by simpa using h0
 have a1:decide (s.size≤4000)=true:=by simpa using h1
 have a2:(decide (1<s.size)&&decide ((s.get! 0).toNat=48))=false:=by
  rw[Bool.eq_false_iff];intro h;rw[Bool.and_eq_true,decide_eq_true_eq,decide_eq_true_eq] at h;exact h2 h
 rw[a0,a1,a2];rfl
set_option maxHeartbeats 1000000 in
theorem isDec_no (s:ByteArray) (w:World) (h:s.size=0∨4000<s.size∨(1<s.size∧(s.get! 0).toNat=48)) :
  Calls Tryz.prog 223 #[.string s] w fun e w'=>e=.returned (.bool false)∧w'=w:=by
 by_cases h0:s.size=0
 ·have hs:s=ByteArray.empty:=ByteArray.ext (by apply Array.eq_empty_of_size_eq_zero;exact h0)
  subst hs
  go_enter Tryz.func223,Tryz.ntmps223
  go_wp2
  go_ret
  exact⟨rfl,rfl⟩
 by_cases h1:4000<s.size
 ·have g1:((s.size:Int)==0)=false:=by rw[beq_eq_false_iff_ne];omega
  have g2:4000<(s.size:Int):=by omega
  go_enter Tryz.func223,Tryz.ntmps223
  go_wp2
  all_goals (go_ret;exact⟨rfl,rfl⟩)
 obtain⟨h2,h3⟩:1<s.size∧(s.get! 0).toNat=48:=by omega
 rw[getBang (by omega)] at h3
 have g1:((s.size:Int)==0)=false:=by rw[beq_eq_false_iff_ne];omega
 have g2:(s.size:Int)≤4000:=by omega
 have g3:1<(s.size:Int):=by omega
 have g4:((s[0].toNat:Int)==48)=true:=by rw[h3];rfl
 replace h3:=Lib.hid h3
 go_enter Tryz.func223,Tryz.ntmps223
 go_wp2
 all_goals (go_ret;exact⟨rfl,rfl⟩)
set_option maxHeartbeats 2000000 in
theorem isDec_yes (s:ByteArray) (w:World) (h0:0<s.size) (h1:s.size≤4000) (h2:¬ (1<s.size∧(s.get! 0).toNat=48)) :
  Calls Tryz.prog 223 #[.string s] w fun e w'=>e=.returned (.bool (allDig s.data.toList))∧w'=w:=by
 obtain⟨d,hd⟩:∃ d,allDig s.data.toList=d:=⟨_,rfl⟩
 rw[hd]
 replace hd:=Lib.hid hd
 rw[getBang h0] at h2
 have g1:((s.size:Int)==0)=false:=by rw[beq_eq_false_iff_ne];omega
 have g2:(s.size:Int)≤4000:=by omega
 have g0:(0:Int)<(s.size:Int):=by omega
 have hsz:(s.size:Int)≤1∨(1<(s.size:Int)∧((s[0].toNat:Int)==48)=false):=by
  by_cases h:s.size=1
  ·left;omega
  ·right;refine⟨by omega,?_⟩
   have:s[0].toNat≠48:=fun h'=>h2 ⟨by omega,h'⟩
   rw[beq_eq_false_iff_ne];omega
 replace h2:=Lib.hid h2
 rcases hsz with g3 | ⟨g3,g4⟩
 all_goals
  go_enter Tryz.func223,Tryz.ntmps223
  go_wp2
  go_loopw [24] (fun iv wr=>∃ k,k≤s.size∧iv=.int .i64 ((k:Nat):Int)∧allDig (s.data.toList.take k)=true∧wr=w)
   (fun iv _=>s.size-(intOf iv).toNat)
  case atStart=>exact⟨0,by omega,rfl,rfl,rfl⟩
  case round=>
   obtain⟨k,hk,rfl,ha,rfl⟩:=hrel
   replace ha:=Lib.hid ha
   by_cases hlt:k<s.size
   ·have b1:(k:Int)<(s.size:Int):=by omega
    have b0:(0:Int)≤(k:Int):=by omega
    have b2:(k:Int)≤4000:=by omega
    have hget:=toList_get hlt
    obtain⟨c,hc⟩:∃ c,s[k]=c:=⟨_,rfl⟩
    by_cases hdg:isDig c=true
    ·have hd1:(48:Int)≤(c.toNat:Int):=by unfold isDig at hdg;simp at hdg;omega
     have hd2:(c.toNat:Int)≤57:=by unfold isDig at hdg;simp at hdg;omega
     replace hdg:=Lib.hid hdg
     rw[←hc] at hd1 hd2
     replace hc:=Lib.hid hc
     go_wp2
     go_roundw
     case rel=>exact⟨k+1,by omega,by congr 1,allDig_step hlt ha.out (by rw[hc.out];exact hdg.out),by first | rfl | trivial⟩
     case measure=>simp[intOf];omega
    ·have hdn:(c.toNat:Int)<48∨((48:Int)≤(c.toNat:Int)∧57<(c.toNat:Int)):=by unfold isDig at hdg;simp at hdg;omega
     have hno:d=false:=by rw[←hd.out];exact allDig_no hlt (by rw[hc];simpa using hdg)
     subst hno
     clear hdg
     rw[←hc] at hdn
     replace hc:=Lib.hid hc
     rcases hdn with hd1 | ⟨hd1,hd2⟩
     all_goals
      go_wp2
      go_ret
      exact⟨rfl,rfl⟩
   ·have b1:(s.size:Int)≤(k:Int):=by omega
    replace hk:=Lib.hid hk
    clear hlt
    go_wp2
    go_ret
    refine⟨?_,rfl⟩
    have:=ha.out
    rw[List.take_of_length_le (by rw[toList_len];omega),hd.out] at this
    rw[this]
    rfl
theorem isDec_any (s:ByteArray) (w:World) :
  Calls Tryz.prog 223 #[.string s] w fun e w'=>e=.returned (.bool (isDec s))∧w'=w:=by
 by_cases h:s.size=0∨4000<s.size∨(1<s.size∧(s.get! 0).toNat=48)
 ·have:isDec s=false:=by
   rcases h with h | h | ⟨h,h'⟩
   ·exact isDec_size (.inl h)
   ·exact isDec_size (.inr h)
   ·exact isDec_zero h (by rw[←getBang (by omega)];exact h')
  rw[this];exact isDec_no s w h
 ·rw[isDec_digs (by omega) (by omega) (by omega)]
  exact isDec_yes s w (by omega) (by omega) (by omega)
end Go.Proofs.YtdeedofmflelfaaGreatDoor

namespace Go.Proofs.YtdeedofmflelfaaGreatDoor
open Go.RowKit
def dval (l:List UInt8):Nat:=l.foldl (fun a c=>a*10+(c.toNat-48)) 0
theorem dval_app (l m:List UInt8):dval (l++m)=dval l*10^m.length+dval m:=by
 unfold dval
 rw[List.foldl_append]
 generalize List.foldl _ 0 l=a
 induction m generalizing a with
 | nil=>simp
 | cons c r ih=>
  rw[List.foldl_cons,List.foldl_cons,ih,ih (0*10+_),List.length_cons,Nat.pow_succ]
  rw[Nat.zero_mul,Nat.zero_add,Nat.add_mul,Nat.mul_assoc,Nat.mul_comm 10]
  omega
theorem dval_lt {l:List UInt8} (h:allDig l=true):dval l<10^l.length:=by
 have:∀ r:List UInt8,dval (r.reverse)<10^r.length∨allDig r.reverse=false:=by
  intro r
  induction r with
  | nil=>left;simp[dval]
  | cons c r ih=>
   rw[List.reverse_cons,dval_app]
   rcases ih with ih | ih
   ·by_cases hc:isDig c=true
    ·left
     unfold isDig at hc
     simp only[Bool.and_eq_true,decide_eq_true_eq] at hc
     have:dval [c]=c.toNat-48:=by simp[dval]
     rw[this,show (c::r).length=r.length+1 from rfl,Nat.pow_succ 10 r.length]
     rw[List.length_singleton,Nat.pow_one]
     omega
    ·right
     unfold allDig
     rw[List.all_append,List.all_cons]
     simp[hc]
   ·right
    unfold allDig at *
    rw[List.all_append,ih];rfl
 have h2:=this l.reverse
 rw[List.reverse_reverse,List.length_reverse,h] at h2
 rcases h2 with h2 | h2
 ·exact h2
 ·cases h2
theorem parseM_ok (M:Nat) (hM:M<18446744073709551616):∀ (l:List UInt8) (acc:Nat),allDig l=true→l.foldl (fun a c=>a*10+(c.toNat-48)) acc≤M →
  Lib.parseUintM M acc l=.ok (l.foldl (fun a c=>a*10+(c.toNat-48)) acc)
 | [],acc,_,_=>rfl
 | c::r,acc,ha,hb=>by
  have hge:∀ (r:List UInt8) (a:Nat),a≤r.foldl (fun a c=>a*10+(c.toNat-48)) a:=by
   intro r
   induction r with
   | nil=>intro a;exact Nat.le_refl _
   | cons c r ih=>intro a;rw[List.foldl_cons];have:=ih (a*10+(c.toNat-48));omega
  unfold allDig at ha
  rw[List.all_cons,Bool.and_eq_true] at ha
  obtain⟨hc,ha⟩:=ha
  unfold isDig at hc
  simp only[Bool.and_eq_true,decide_eq_true_eq] at hc
  rw[List.foldl_cons] at hb ⊢
  have h1:=hge r (acc*10+(c.toNat-48))
  rw[Lib.parseUintM,if_pos hc,if_neg (by omega),if_neg (by omega)]
  exact parseM_ok M hM r _ ha hb
theorem parse32 {l:List UInt8} (h0:l≠[]) (ha:allDig l=true) (hl:l.length≤9):Lib.parseUintB 32 l=.ok (dval l):=by
 unfold Lib.parseUintB
 rw[if_neg h0]
 have h1:=dval_lt ha
 have h2:10^l.length≤10^9:=Nat.pow_le_pow_right (by decide) hl
 exact parseM_ok (2^32-1) (by decide) l 0 ha (by unfold dval at h1;omega)
theorem Gr.set_ {w:World} {base g n c:Nat} {zs:List Nat} (h:Gr w base (.slice (some ⟨g,0,none⟩) n c) zs) (i x:Nat) (hx:x<4294967296) :
  Gr (w.setCell ⟨g,i,none⟩ (.int .u32 (x:Int))) base (.slice (some ⟨g,0,none⟩) n c) (zs.set i x):=by
 refine⟨?_,sm_set h.sm i x hx⟩
 obtain⟨h1,h2⟩:=h.own
 refine⟨by simp,?_⟩
 rcases h2 with ⟨h2,_⟩ | ⟨g',cap,cur,hv,hb,hh,hn,hm,hs,ht⟩
 ·cases h2
 ·right
  injection hv with e1 e2 e3
  injection e1 with e1
  injection e1 with e1
  subst e1 e3
  refine⟨g,c,cur.setIfInBounds i (u32 x),by rw[List.length_set,e2],hb,?_,by rw[List.length_set];exact hn,hm,by simpa using hs,?_⟩
  ·simp[World.setCell,Array.getElem?_modify,hh,u32]
  ·rw[Array.toList_setIfInBounds,List.length_set,List.take_set,ht,List.map_set]
theorem ac_step {zs zs0:List Nat} {k n cy d x t:Nat} (hk:k<n) (hl:zs.length=n)
  (h:val (zs.take k)+4294967296^k*cy=val (zs0.take k)*1000000000+d) (hd:zs.drop k=zs0.drop k) (hx:zs.getD k 0=x) (ht:t=cy+x*1000000000) :
  val ((zs.set k (t%4294967296)).take (k+1))+4294967296^(k+1)*(t / 4294967296)=val (zs0.take (k+1))*1000000000+d:=by
 have hx0:zs0.getD k 0=x:=by
  rw[←hx]
  have:=congrArg (fun l=>l.getD 0 0) hd
  simpa [List.getD_eq_getElem?_getD] using this.symm
 rw[val_take_succ_any zs0,hx0,val_take_succ_any,take_set_low _ _ (Nat.le_refl _)]
 have:(zs.set k (t%4294967296)).getD k 0=t%4294967296:=by simp[List.getD_eq_getElem?_getD,hl,hk]
 rw[this,Nat.pow_succ,Nat.mul_assoc,Nat.add_assoc,←Nat.mul_add,Nat.mod_add_div,ht,Nat.mul_add,←Nat.add_assoc,h,Nat.add_mul,Nat.mul_assoc]
 omega
theorem ac_drop {zs zs0:List Nat} {k v:Nat} (hd:zs.drop k=zs0.drop k):(zs.set k v).drop (k+1)=zs0.drop (k+1):=by
 rw[drop_set_succ,←List.drop_drop,←List.drop_drop,hd]
theorem vld_of {zs:List Nat} (hs:Sm zs) (h:zs.length=0∨4294967296^(zs.length-1)≤val zs):zs=limbs (val zs):=by
 rcases Nat.eq_zero_or_pos zs.length with h0 | h0
 ·have:=List.eq_nil_of_length_eq_zero h0;subst this;simp[val,limbs_zero]
 rw[trim_take hs,List.take_of_length_le]
 rcases Nat.lt_or_ge (limbs (val zs)).length zs.length with hlt | hge
 ·have h1:=limbs_len_le.1 (show (limbs (val zs)).length≤zs.length-1 by omega)
  omega
 ·exact hge
theorem ac_same {zs:List Nat} {N d n:Nat} (hs:Sm zs) (hl:zs.length=n) (hN:(limbs N).length=n) (h:val zs=N*1000000000+d):zs=limbs (N*1000000000+d):=by
 rw[←h]
 refine vld_of hs ?_
 rcases Nat.eq_zero_or_pos n with h0 | h0
 ·left;omega
 ·right
  rw[hl,h]
  have:=val_ge (vldB_limbs N) (by omega)
  rw[val_limbs,hN] at this
  omega
theorem ac_more {zs:List Nat} {N d n cy:Nat} (hs:Sm zs) (hl:zs.length=n) (hc:cy<4294967296) (h0:0<cy) (h:val zs+4294967296^n*cy=N*1000000000+d):zs++[cy]=limbs (N*1000000000+d):=by
 rw[←h,←hl,←val_snoc]
 refine vld_of ?_ (.inr ?_)
 ·intro z hz
  rcases List.mem_append.1 hz with hz | hz
  ·exact hs z hz
  ·rw[List.mem_singleton.1 hz];exact hc
 ·rw[val_snoc,List.length_append]
  show 4294967296^(zs.length+1-1)≤_
  rw[Nat.add_sub_cancel]
  have:=Nat.mul_le_mul_left (4294967296^zs.length) h0
  omega
theorem ac_end {zs zs0:List Nat} {n cy d N:Nat} (hl:zs.length=n) (h0:zs0.length=n) (hN:zs0=limbs N)
  (h:val (zs.take n)+4294967296^n*cy=val (zs0.take n)*1000000000+d):val zs+4294967296^n*cy=N*1000000000+d:=by
 rw[List.take_of_length_le (by omega),List.take_of_length_le (by omega),hN,val_limbs] at h
 exact h
theorem Gr.below {w w':World} {base:Nat} {v:Value} {zs:List Nat} (h:Gr w base v zs) (hb:Below w.heap.size w w'):Gr w' base v zs:=by
 refine⟨⟨h.own.1,?_⟩,h.sm⟩
 rcases h.own.2 with h2 | ⟨g,cap,cur,hv,hbg,hh,hr⟩
 ·exact .inl h2
 ·have hlt:g<w.heap.size:=by
   rcases Nat.lt_or_ge g w.heap.size with h | h
   ·exact h
   ·rw[Array.getElem?_eq_none h] at hh;cases hh
  exact .inr ⟨g,cap,cur,hv,hbg,by rw[hb.block g hlt];exact hh,hr⟩
set_option maxHeartbeats 2000000 in
theorem append_any (base N n c:Nat) (A:Option Addr) (s:ByteArray) (w:World) (hG:Gr w base (.slice A n c) (limbs N)) (hl:(limbs N).length=n) (hb:base≤w.heap.size)
  (hs0:0<s.size) (hs9:s.size≤9) (ha:allDig s.data.toList=true) (hn:n≤1000) :
  Calls Tryz.prog 224 #[.slice A n c,.string s] w fun e w'=>∃ v',e=.returned v'∧Gr w' base v' (limbs (N*1000000000+dval s.data.toList))∧Below base w w':=by
 have hp:=parse32 (l:=s.data.toList) (by intro h;have:=toList_len s;rw[h] at this;simp at this;omega) ha (by rw[toList_len];exact hs9)
 have hd9:=dval_lt ha
 have:10^s.data.toList.length≤10^9:=Nat.pow_le_pow_right (by decide) (by rw[toList_len];exact hs9)
 obtain⟨d,hd⟩:∃ d,dval s.data.toList=d:=⟨_,rfl⟩
 rw[hd] at hp hd9 ⊢
 have hdb:d<1000000000:=by omega
 clear this hd9
 replace hd:=Lib.hid hd
 replace hp:=Lib.hid hp
 replace ha:=Lib.hid ha
 replace hG:=Lib.hid hG
 replace hl:=Lib.hid hl
 replace hb:=Lib.hid hb
 go_enter Tryz.func224,Tryz.ntmps224
 go_wp2_with (go_at_call 235;refine (Tryz.strconv_ParseUint_10_at32_ok s (by omega) d hp.out _).mono ?_;rintro e w1 ⟨rfl,hw1⟩;refine Hid.out ?_)
 refine Lib.hid ?_
 have hB1:Below w.heap.size w w1:=by
  rcases hw1 with rfl | rfl
  ·exact Below.refl _ _
  ·exact Lib.bytesWorld_below _ _ _
 clear hw1
 have hG1:=Lib.hid (hG.out.below hB1)
 have hb1:=Lib.hid (Nat.le_trans hb.out hB1.size)
 replace hB1:=Lib.hid (hB1.mono hb.out)
 go_wp2
 go_loopw [5,16] (fun cv iv wr=>∃ (k cy:Nat) (zs:List Nat),k≤n∧iv=.int .i64 k∧cv=.int .u64 cy∧cy<4294967296∧zs.length=n∧Gr wr base (.slice A n c) zs∧Below base w wr ∧
   val (zs.take k)+4294967296^k*cy=val ((limbs N).take k)*1000000000+d∧zs.drop k=(limbs N).drop k)
  (fun _ iv _=>n-(intOf iv).toNat)
 case atStart=>exact⟨0,d,limbs N,Nat.zero_le _,rfl,rfl,by omega,hl.out,hG1.out,hB1.out,by simp[val],rfl⟩
 case round=>
  clear hG1 hB1 hb1
  obtain⟨k,cy,zs,hk,rfl,rfl,hcy,hlz,hGz,hBz,hv,hdr⟩:=hrel
  replace hdr:=Lib.hid hdr
  replace hv:=Lib.hid hv
  replace hBz:=Lib.hid hBz
  by_cases hlt:k<n
  ·obtain⟨A2,c2,hv2,R,hcase⟩:=hGz.form
   injection hv2 with e1 e2 e3
   subst e1 e3
   clear R e2
   rcases hcase with h0 | ⟨g,rfl,hbg,O⟩
   ·omega
   have hcell:=O.cell (k:=k) (by omega)
   obtain⟨x,hx⟩:∃ x,zs.getD k 0=x:=⟨_,rfl⟩
   have hxb:x<4294967296:=by rw[←hx];exact sm_get hGz.sm _
   rw[hx] at hcell
   have hfz:=O.frozen k
   clear O
   obtain⟨t,ht⟩:∃ t,t=cy+x*1000000000:=⟨_,rfl⟩
   have htc:(cy:Int)+(x:Int)*1000000000=(t:Int):=by rw[ht];simp
   have htb:(t:Int)≤18446744073709551615:=by omega
   have htd:t / 4294967296<4294967296:=by omega
   have hst:=Lib.hid (ac_step hlt hlz hv.out hdr.out hx ht)
   have hdd:=Lib.hid (ac_drop (v:=t%4294967296) hdr.out)
   have hG2:=Lib.hid (hGz.set_ k (t%4294967296) (by omega))
   replace htd:=Lib.hid htd
   replace hx:=Lib.hid hx
   replace hlz:=Lib.hid hlz
   replace hGz:=Lib.hid hGz
   clear ht
   have hx0:(0:Int)≤(x:Int)*1000000000:=by omega
   have hx1:(x:Int)*1000000000≤4294967295000000000:=by omega
   go_wp2
   go_roundw
   case rel=>
    have e:((t%4294967296:Nat):Int)=(t:Int)%4294967296:=by omega
    have hG3:=hG2.out
    rw[e] at hG3
    exact⟨k+1,t / 4294967296,_,by omega,by go_num,by go_num,htd.out,by rw[List.length_set];exact hlz.out,hG3,hBz.out.setCell hbg _,hst.out,hdd.out⟩
   case measure=>simp[intOf];omega
  ·obtain rfl:k=n:=by omega
   have hfin:=ac_end hlz hl.out rfl hv.out
   clear hv hdr
   have hwr:=Lib.hid (Nat.le_trans hb.out hBz.out.size)
   by_cases hc0:cy=0
   ·subst hc0
    have he:=ac_same hGz.sm hlz hl.out (by rw[←hfin];simp)
    rw[he] at hGz
    replace hGz:=Lib.hid hGz
    replace hlz:=Lib.hid hlz
    replace hfin:=Lib.hid hfin
    clear he hk hlt
    go_wp2
    go_ret
    exact⟨_,rfl,hGz.out,hBz.out⟩
   ·have he:=Lib.hid (ac_more hGz.sm hlz hcy (by omega) hfin)
    have hc1:(0:Int)<(cy:Int):=by omega
    have hc2:(cy:Int)≤4294967295:=by omega
    replace hGz:=Lib.hid hGz
    replace hlz:=Lib.hid hlz
    replace hfin:=Lib.hid hfin
    clear hk hlt hc0
    go_wp2_with (at_builtin;refine wpList_append_u32 _ rfl (.tmp 36) (.tmp 39) rfl base _ zs rfl (hGz.out.alloc _) ⟨wr.heap.size,0,none⟩ 1 1 [cy] rfl (lit1 _ _ _ _ rfl ?c0 ?c3) ?c1 ?c2 ?_)
    case c0=>omega
    case c3=>omega
    case c1=>rw[hlz.out];omega
    case c2=>have:=hwr.out;simp;omega
    intro v' w' hG' hg
    have hB':=Lib.hid (Below.grown (hBz.out.alloc hwr.out _) hg (by have:=hwr.out;simp;omega) (own_ge hGz.out))
    rw[he.out] at hG'
    replace hG':=Lib.hid hG'
    clear hg
    go_wp2
    go_ret
    exact⟨_,rfl,hG'.out,hB'.out⟩
end Go.Proofs.YtdeedofmflelfaaGreatDoor

namespace Go.Proofs.YtdeedofmflelfaaGreatDoor
open Go.RowKit
def RetP (s:ByteArray) (w:World) (e:Ending) (w':World):Prop:=
 ∃ A n c,e=.returned (.tuple #[.slice A n c,.bool (isDec s)])∧Rd w' A n c (if isDec s=true then limbs (dval s.data.toList) else [])∧Below w.heap.size w w'
theorem isDec_yes' {s:ByteArray} (h:isDec s=true):0<s.size∧s.size≤4000∧allDig s.data.toList=true:=by
 unfold isDec at h
 simp only[Bool.and_eq_true,decide_eq_true_eq] at h
 exact⟨h.1.1.1,h.1.1.2,h.2⟩
theorem dec_len_k {l:List UInt8} {k:Nat} (ha:allDig l=true) (hl:l.length≤9*k):(limbs (dval l)).length≤k:=by
 apply len_of_lt
 have h1:=dval_lt ha
 have h2:10^l.length≤10^(9*k):=Nat.pow_le_pow_right (by decide) hl
 have h3:(10:Nat)^(9*k)=(10^9)^k:=by rw[Nat.pow_mul]
 have h4:((10:Nat)^9)^k≤4294967296^k:=Nat.pow_le_pow_left (by decide) _
 omega
theorem dec_len {l:List UInt8} (ha:allDig l=true) (hl:l.length≤4000):(limbs (dval l)).length≤445:=dec_len_k ha (by omega)
theorem ext_take (t:ByteArray) (m:Nat):(t.extract 0 m).data.toList=t.data.toList.take m:=by
 simp[ByteArray.data_extract]
theorem ext_drop (t:ByteArray) (m:Nat):(t.extract m t.size).data.toList=t.data.toList.drop m:=by
 rw[ByteArray.data_extract,Array.toList_extract,List.extract_eq_take_drop]
 apply List.take_of_length_le
 rw[List.length_drop,toList_len];omega
theorem ext_take_size {t:ByteArray} {m:Nat} (h:m≤t.size):(t.extract 0 m).size=m:=by
 rw[←toList_len,ext_take,List.length_take,toList_len];omega
theorem ext_drop_size (t:ByteArray) (m:Nat):(t.extract m t.size).size=t.size-m:=by
 rw[←toList_len,ext_drop,List.length_drop,toList_len]
theorem allDig_take {l:List UInt8} (h:allDig l=true) (m:Nat):allDig (l.take m)=true:=by
 unfold allDig at *
 rw[List.all_eq_true] at *
 exact fun c hc=>h c (List.mem_of_mem_take hc)
set_option maxHeartbeats 2000000 in
theorem parse_any (s:ByteArray) (w:World):Calls Tryz.prog 207 #[.string s] w (RetP s w):=by
 by_cases hd:isDec s=true
 ·unfold RetP
  obtain⟨h0,h4,ha⟩:=isDec_yes' hd
  simp only[hd,if_true]
  replace hd:=Lib.hid hd
  replace ha:=Lib.hid ha
  go_enter Tryz.func207,Tryz.ntmps207
  go_wp2_with (go_at_call 223;refine (isDec_any s _).mono ?_;rintro e w1 ⟨rfl,rfl⟩;rw[hd.out])
  go_loopw [0,2] (fun sv cv wr=>∃ (p:List UInt8) (t:ByteArray),sv=.string t∧s.data.toList=p++t.data.toList∧(p=[]∨t.size%9=0)∧Gr wr w1.heap.size cv (limbs (dval p))∧Below w1.heap.size w1 wr)
   (fun sv _ _=>match sv with | .string t=>t.size | _=>0)
  case atStart=>exact⟨[],s,rfl,rfl,.inl rfl,by simp[dval,limbs_zero];exact Gr.nil_ _ _,Below.refl _ _⟩
  case round=>
   obtain⟨p,t,rfl,hs,hp,hG,hB⟩:=hrel
   have hlen:s.size=p.length+t.size:=by rw[←toList_len,←toList_len t,hs,List.length_append]
   have hdp:allDig p=true∧allDig t.data.toList=true:=by
    have:=ha.out
    rw[hs] at this
    unfold allDig at *
    rwa [List.all_append,Bool.and_eq_true] at this
   by_cases ht:t.size=0
   ·have hte:t=ByteArray.empty:=ByteArray.ext (by apply Array.eq_empty_of_size_eq_zero;exact ht)
    subst hte
    have hps:s.data.toList=p:=by rw[hs];simp
    obtain⟨A,c,rfl,R,_⟩:=hG.form
    rw[←hps] at R
    replace R:=Lib.hid R
    replace hB:=Lib.hid hB
    clear hs hp hlen hdp hG
    go_wp2
    go_ret2
    refine⟨_,_,_,rfl,?_,hB.out⟩
    have:=R.out
    rw[hps] at this ⊢
    exact this
   ·obtain⟨m,hm⟩:∃ m,m=(t.size-1)%9+1:=⟨_,rfl⟩
    have hm9:m≤9:=by omega
    have hmt:m≤t.size:=by omega
    have ht1:(1:Int)≤(t.size:Int):=by omega
    have htb:(t.size:Int)≤4000:=by omega
    obtain⟨A,c,rfl,R,_⟩:=hG.form
    have hn:(limbs (dval p)).length≤1000:=by
     have:=dec_len hdp.1 (by omega)
     omega
    have hap:=append_any w1.heap.size (dval p) (limbs (dval p)).length c A (t.extract 0 ((t.size-1)%9+1)) wr hG rfl hB.size (by rw[ext_take_size (by omega)];omega) (by rw[ext_take_size (by omega)];omega) (by rw[ext_take];exact allDig_take hdp.2 _) hn
    have he:dval p*1000000000+dval (t.extract 0 ((t.size-1)%9+1)).data.toList=dval (p++(t.extract 0 ((t.size-1)%9+1)).data.toList):=by
     rw[dval_app]
     rcases hp with hp | hp
     ·subst hp;simp[dval]
     ·rw[ext_take,List.length_take,toList_len,show min ((t.size-1)%9+1) t.size=9 by omega]
    rw[he] at hap
    have hs2:s.data.toList=(p++(t.extract 0 ((t.size-1)%9+1)).data.toList)++(t.extract ((t.size-1)%9+1) t.size).data.toList:=by
     rw[hs,ext_take,ext_drop,List.append_assoc,List.take_append_drop]
    have hz2:(t.extract ((t.size-1)%9+1) t.size).size%9=0∧(t.extract ((t.size-1)%9+1) t.size).size<t.size:=by rw[ext_drop_size];omega
    replace hs2:=Lib.hid hs2
    replace hz2:=Lib.hid hz2
    replace hap:=Lib.hid hap
    replace hp:=Lib.hid hp
    replace hs:=Lib.hid hs
    replace hG:=Lib.hid hG
    replace hB:=Lib.hid hB
    replace hlen:=Lib.hid hlen
    clear he R hm hn hdp hm9 hmt ht
    go_wp2_with (go_at_call 224;refine hap.out.mono ?_;rintro e w2 ⟨v',rfl,hG2,hB2⟩;refine Hid.out ?_)
    refine Lib.hid ?_
    replace hG2:=Lib.hid hG2
    replace hB2:=Lib.hid (hB.out.trans hB2)
    go_wp2
    go_roundw
    case rel=>exact⟨_,_,rfl,hs2.out,.inr hz2.out.1,hG2.out,hB2.out⟩
    case measure=>exact hz2.out.2
 ·have hd0:isDec s=false:=by simpa using hd
  unfold RetP
  simp only[hd0]
  replace hd0:=Lib.hid hd0
  clear hd
  go_enter Tryz.func207,Tryz.ntmps207
  go_wp2_with (go_at_call 223;refine (isDec_any s _).mono ?_;rintro e w1 ⟨rfl,rfl⟩;rw[hd0.out])
  go_ret2
  exact⟨none,0,0,rfl,Rd.nil_ _ _ _,Below.refl _ _⟩
end Go.Proofs.YtdeedofmflelfaaGreatDoor
