/- strings.Cut at one byte. parseNatural, parseExponent and scale of rational. -/
import Derived.Test.YtdeedofmflelfaaGreatDoorQRgz
import Derived.Test.YtdeedofmflelfaaGreatDoorQIgz
import Derived.Lib.IndexAny
import Derived.Test.YtdeedofmflelfaaGreatDoorQRcz
namespace Go.Proofs.YtdeedofmflelfaaGreatDoor
open Go.RowKit RQ
/-- What stands before the first c, behind it, and whether there is one. -/
def bef (c:UInt8) (l:List UInt8):List UInt8:=l.takeWhile (· != c)
def aft (c:UInt8) (l:List UInt8):List UInt8:=(l.dropWhile (· != c)).drop 1
def hasB (c:UInt8) (l:List UInt8):Bool:=l.contains c
theorem index_no {c:UInt8}:∀ {l:List UInt8},hasB c l=false→Lib.indexByte l c = -1∧bef c l=l
 | [],_=>⟨rfl,rfl⟩
 | b::l,h=>by
  unfold hasB at h
  rw[List.contains_cons,Bool.or_eq_false_iff] at h
  obtain⟨i1,i2⟩:=index_no (l:=l) h.2
  have hb:(b==c)=false:=by rw[beq_eq_false_iff_ne] at h ⊢;exact fun e=>h.1 e.symm
  have hb2:(b != c)=true:=by rw[bne,hb];rfl
  refine⟨by simp[Lib.indexByte,hb,i1],?_⟩
  unfold bef at i2 ⊢
  simp[hb2,i2]
theorem index_yes {c:UInt8}:∀ {l:List UInt8},hasB c l=true→Lib.indexByte l c=((bef c l).length:Int)∧l=bef c l++c::aft c l
 | [],h=>by simp[hasB] at h
 | b::l,h=>by
  unfold hasB at h
  rw[List.contains_cons,Bool.or_eq_true] at h
  by_cases hb:b=c
  ·subst hb
   simp[Lib.indexByte,bef,aft]
  ·obtain⟨i1,i2⟩:=index_yes (l:=l) (by rcases h with h | h;exact absurd (by simpa using h) (Ne.symm hb);exact h)
   have hb2:(b != c)=true:=by simp[hb]
   have hb3:(b==c)=false:=by simp[hb]
   have e1:bef c (b::l)=b::bef c l:=by simp[bef,hb2]
   have e2:aft c (b::l)=aft c l:=by simp[aft,hb2]
   rw[e1,e2]
   refine⟨?_,by rw[List.cons_append,←i2]⟩
   simp only[Lib.indexByte,hb3,i1]
   have:((bef c l).length:Int) ≠ -1:=by omega
   simp[this]
/-- A list of bytes as a string. -/
def bs (l:List UInt8):ByteArray:=⟨l.toArray⟩
theorem bs_list (l:List UInt8):(bs l).data.toList=l:=rfl
theorem bs_size (l:List UInt8):(bs l).size=l.length:=rfl
theorem bs_of (s:ByteArray):bs s.data.toList=s:=rfl
theorem bs_inj {a b:ByteArray} (h:a.data.toList=b.data.toList):a=b:=by
 have:bs a.data.toList=bs b.data.toList:=by rw[h]
 exact this
theorem extract_bef (l1 l2:List UInt8):(bs (l1++l2)).extract 0 l1.length=bs l1:=by
 apply bs_inj;simp[bs]
theorem extract_aft (l1 l2:List UInt8):(bs (l1++l2)).extract l1.length (bs (l1++l2)).size=bs l2:=by
 apply bs_inj;simp[bs,ByteArray.size]
theorem extract_aft1 (l1 l2:List UInt8) (c:UInt8):(bs (l1++c::l2)).extract (l1.length+1) (bs (l1++c::l2)).size=bs l2:=by
 have h:=extract_aft (l1++[c]) l2
 rw[List.append_assoc,List.singleton_append,List.length_append,List.length_singleton] at h
 exact h
set_option maxHeartbeats 1000000 in
theorem cut0_no (s:ByteArray) (c:UInt8) (w:World) (h:hasB c s.data.toList=false) :
  Calls Tryz.prog 159 #[.string s,.string ⟨#[c]⟩] w fun e w'=>e=.returned (.tuple #[.string s,.string ⟨#[]⟩,.bool false])∧Below w.heap.size w w':=by
 have hi:=fun W=>Tryz.stringslite_Index_one s c W
 rw[(index_no h).1] at hi
 replace hi:=Lib.hid hi
 have B:=Lib.hid (Below.refl w.heap.size w)
 clear h
 go_enter Tryz.func159,Tryz.ntmps159
 go_wp2_with fail
 refine (hi.out _).mono ?_
 rintro e _ ⟨rfl,rfl⟩
 go_wp2
 go_ret3
 exact⟨rfl,B.out⟩
set_option maxHeartbeats 1000000 in
theorem cut0_yes (l1 l2:List UInt8) (c:UInt8) (w:World) (h:Lib.indexByte (l1++c::l2) c=(l1.length:Int)) (hl:(l1++c::l2).length≤1000000) :
  Calls Tryz.prog 159 #[.string (bs (l1++c::l2)),.string ⟨#[c]⟩] w fun e w'=>e=.returned (.tuple #[.string (bs l1),.string (bs l2),.bool true])∧Below w.heap.size w w':=by
 have hi:=fun W=>Tryz.stringslite_Index_one (bs (l1++c::l2)) c W
 rw[bs_list,h] at hi
 replace hi:=Lib.hid hi
 have B:=Lib.hid (Below.refl w.heap.size w)
 have e1:=Lib.hid (extract_bef l1 (c::l2))
 have e2:=Lib.hid (extract_aft1 l1 l2 c)
 obtain⟨i,hil⟩:∃ i,l1.length=i:=⟨_,rfl⟩
 obtain⟨S,hS⟩:∃ S,bs (l1++c::l2)=S:=⟨_,rfl⟩
 have hsz:S.size=i+1+l2.length:=by rw[←hS,←hil,bs_size,List.length_append,List.length_cons];omega
 have hb:i+1+l2.length≤1000000:=by rw[List.length_append,List.length_cons] at hl;omega
 rw[hil,hS] at hi e1 e2
 rw[hS]
 have g1:(0:Int)≤(i:Int):=by omega
 have g2:(i:Int)≤(S.size:Int):=by omega
 have g3:(i:Int)+1≤(S.size:Int):=by omega
 have g4:(0:Int)≤(i:Int)+1:=by omega
 have g5:IntKind.i64.wrap ((i:Int)+1)=(i:Int)+1:=IntWalk.i64_in _ (by omega)
 have g6:((i:Int)+1).toNat=i+1:=by omega
 clear hl hS hil h hsz hb
 go_enter Tryz.func159,Tryz.ntmps159
 go_wp2_with fail
 refine (hi.out _).mono ?_
 rintro e _ ⟨rfl,rfl⟩
 go_wp2
 go_quiet (fail)
 go_wp2
 go_ret3
 exact⟨by rw[←e1.out,←e2.out];rfl,below_drewN B.out _⟩
set_option maxHeartbeats 1000000 in
theorem cut_no (s:ByteArray) (c:UInt8) (w:World) (h:hasB c s.data.toList=false) :
  Calls Tryz.prog 127 #[.string s,.string ⟨#[c]⟩] w fun e w'=>e=.returned (.tuple #[.string s,.string ⟨#[]⟩,.bool false])∧Below w.heap.size w w':=by
 have hi:=Lib.hid (fun W=>cut0_no s c W h)
 clear h
 go_enter Tryz.func127,Tryz.ntmps127
 go_wp2_with fail
 refine (hi.out _).mono ?_
 rintro e w1 ⟨rfl,bb⟩
 replace bb:=Lib.hid bb
 go_wp2
 go_ret3
 exact⟨rfl,bb.out⟩
set_option maxHeartbeats 1000000 in
theorem cut_yes (s:ByteArray) (c:UInt8) (w:World) (h:hasB c s.data.toList=true) (hl:s.size≤1000000) :
  Calls Tryz.prog 127 #[.string s,.string ⟨#[c]⟩] w fun e w'=>e=.returned (.tuple #[.string (bs (bef c s.data.toList)),.string (bs (aft c s.data.toList)),.bool true])∧Below w.heap.size w w':=by
 obtain⟨i1,i2⟩:=index_yes h
 have hi:=fun W=>cut0_yes (bef c s.data.toList) (aft c s.data.toList) c W (by rw[←i2];exact i1) (by rw[←i2,toList_len];exact hl)
 rw[←i2,bs_of] at hi
 generalize bs (bef c s.data.toList)=S1 at hi ⊢
 generalize bs (aft c s.data.toList)=S2 at hi ⊢
 replace hi:=Lib.hid hi
 clear h i1 i2 hl
 go_enter Tryz.func127,Tryz.ntmps127
 go_wp2_with fail
 refine (hi.out _).mono ?_
 rintro e w1 ⟨rfl,bb⟩
 replace bb:=Lib.hid bb
 go_wp2
 go_ret3
 exact⟨rfl,bb.out⟩
/-- One or more digits. -/
def digs (l:List UInt8):Bool:=allDig l && !l.isEmpty
theorem all_bad {l:List UInt8} {k:Nat} (hk:k<l.length) (h:isDig l[k]=false):allDig l=false:=by
 unfold allDig
 rw[List.all_eq_false]
 exact⟨l[k],List.getElem_mem hk,by rw[h];simp⟩
theorem all_take {l:List UInt8} {k:Nat} (hk:k<l.length) (h:allDig (l.take k)=true) (hd:isDig l[k]=true):allDig (l.take (k+1))=true:=by
 unfold allDig at *
 rw[List.take_succ_eq_append_getElem hk,List.all_append,h]
 simp[hd]
set_option maxHeartbeats 2000000 in
theorem isDigits_any (s:ByteArray) (w:World) (hs:s.size≤1000000) :
  Calls Tryz.prog 192 #[.string s] w fun e w'=>e=.returned (.bool (digs s.data.toList))∧w=w':=by
 have hm:s.data.toList.length=s.size:=toList_len s
 have hs1:(s.size:Int)≤1000000:=by omega
 go_enter Tryz.func192,Tryz.ntmps192
 go_wp2
 go_loop [3,6,8] (fun _ i _=>∃ k:Nat,k≤s.size∧i=.int .i64 (k:Int)∧allDig (s.data.toList.take k)=true) (fun _ i _=>s.size-(intOf i).toNat)
 case atStart=>exact⟨0,Nat.zero_le _,rfl,rfl⟩
 case round=>
  obtain⟨k,hk,rfl,ha⟩:=hrel
  by_cases hlt:k<s.size
  ·have hl:k<s.data.toList.length:=by omega
   have hg:s.data.toList[k]=s[k]:=rfl
   by_cases h1:(s[k]).toNat<48
   ·have hb:allDig s.data.toList=false:=all_bad hl (by rw[hg];unfold isDig;simp;omega)
    have hb2:Hid (digs s.data.toList=false):=Lib.hid (by unfold digs;rw[hb];rfl)
    clear hb ha hg
    go_wp2
    go_ret
    exact⟨congrArg (fun b=>Ending.returned (.bool b)) hb2.out.symm,rfl⟩
   ·by_cases h2:57<(s[k]).toNat
    ·have hb:allDig s.data.toList=false:=all_bad hl (by rw[hg];unfold isDig;simp;omega)
     have hb2:Hid (digs s.data.toList=false):=Lib.hid (by unfold digs;rw[hb];rfl)
     clear hb ha hg
     go_wp2
     go_ret
     exact⟨congrArg (fun b=>Ending.returned (.bool b)) hb2.out.symm,rfl⟩
    ·have ha2:=Lib.hid (all_take hl ha (by rw[hg];unfold isDig;simp;omega))
     clear ha hg
     go_wp2
     go_round
     case rel=>exact⟨k+1,by omega,by go_num,ha2.out⟩
     case measure=>simp[intOf];omega
  ·have hk2:k=s.size:=by omega
   have hb2:Hid (digs s.data.toList=decide (0<s.size)):=Lib.hid (by
    rw[hk2,←hm,List.take_length] at ha
    unfold digs;rw[ha,Bool.true_and]
    cases hq:s.data.toList
    ·rw[hq] at hm;simp at hm;simp[←hm]
    ·rw[hq] at hm;simp at hm;simp;omega)
   clear ha
   go_wp2
   go_ret
   exact⟨congrArg (fun b=>Ending.returned (.bool b)) hb2.out.symm,rfl⟩
end Go.Proofs.YtdeedofmflelfaaGreatDoor

namespace Go.Proofs.YtdeedofmflelfaaGreatDoor
open Go.RowKit RQ
/-- What a string says as a natural number; 0 if it is none. -/
def ndec (s:ByteArray):Nat:=if isDec s=true then dval s.data.toList else 0
theorem hm_dec {s:ByteArray} (h:hm s=true):isDec s=false:=by
 rcases hd:isDec s with _ | _
 ·rfl
 obtain⟨_,_,ha⟩:=isDec_yes' hd
 unfold hm Lib.hasPrefix at h
 cases hq:s.data.toList with
 | nil=>rw[hq] at h;simp at h
 | cons c r=>
  rw[hq] at h ha
  simp at h
  subst h
  simp[allDig,isDig] at ha
theorem rest_no {s:ByteArray} (h:hm s=false):rest s=s:=by
 unfold rest Lib.trimPrefix
 have:Lib.hasPrefix s.data.toList [45]=false:=h
 rw[this];rfl
theorem ndec_len (s:ByteArray):(limbs (ndec s)).length≤s.size:=by
 unfold ndec
 split
 ·rename_i h
  obtain⟨_,_,ha⟩:=isDec_yes' h
  exact dec_len_k ha (by rw[toList_len];omega)
 ·rw[limbs_zero];exact Nat.zero_le _
/-- What parseNatural leaves. -/
def RetPN (s:ByteArray) (w:World) (e:Ending) (w':World):Prop:=∃ A n c,e=.returned (.tuple #[.agg #[.bool false,.slice A n c],.bool (isDec s)])∧Rd w' A n c (limbs (ndec s))∧Below w.heap.size w w'
theorem parse_plain (s:ByteArray) (w:World) (h:hm s=false):Calls Tryz.prog 185 #[.string s] w (RetPN s w):=by
 refine (parseI_any s w).mono fun e w' hh=>?_
 obtain⟨A,n,c,he,R,B,_⟩:=hh
 have e1:pok s=isDec s:=by unfold pok;rw[rest_no h,h];simp
 have e2:pval s=(ndec s:Int):=by unfold pval ndec;rw[e1,rest_no h,h];split<;>simp[sg]
 rw[e1,e2,ngN] at he
 rw[e2,Int.natAbs_natCast] at R
 exact⟨A,n,c,he,R,B⟩
theorem res_pnat (W:World) (tmps:Array Value) (g t:Nat) {v0 v1 e0:Value} (ht:tmps.getD 2 undef=.pointer (some ⟨g,0,none⟩)) (h0:tmps.getD 3 undef=e0) (h:Cb W g #[v0,v1] t) :
  (results Tryz.f160 tmps).run Tryz.prog W=.ok (.tuple #[.agg #[v0,v1],e0]) W:=by
 have c0:W.cell? ⟨g,0,none⟩=some v0:=h.cell rfl
 have c1:W.cell? ⟨g,1,none⟩=some v1:=h.cell rfl
 have ht':tmps[2]?.getD undef=.pointer (some ⟨g,0,none⟩):=by rw[←ht];simp[Array.getD_eq_getD_getElem?]
 have k0:tmps[3]?.getD undef=e0:=by rw[←h0];simp[Array.getD_eq_getD_getElem?]
 simp[results,Tryz.results160,go_sem,ht',k0,c0,c1]
set_option maxHeartbeats 2000000 in
theorem parseNatural_any (s:ByteArray) (w:World):Calls Tryz.prog 160 #[.string s] w (RetPN s w):=by
 have hH:∀ W,Calls Tryz.prog 184 #[.string s,.string ⟨#[45]⟩] W fun e w'=>e=.returned (.bool (hm s))∧w'=W:=fun W=>Tryz.strings_HasPrefix s ⟨#[45]⟩ W
 have S:=((St.new w).allocAt (w.heap.size) #[.bool false,.slice none 0 0] 44 (noL2 _ _ _ _) (by simp))
 replace S:=Lib.hid S
 cases hh:hm s
 ·rw[hh] at hH
  have hp:=Lib.hid (fun W=>parse_plain s W hh)
  unfold RetPN at hp ⊢
  generalize isDec s=d at hp ⊢
  generalize ndec s=N at hp ⊢
  replace hH:=Lib.hid hH
  clear hh
  go_enter Tryz.func160,Tryz.ntmps160
  go_wp2_with fail
  refine (hH.out _).mono ?_
  rintro e _ ⟨rfl,rfl⟩
  go_wp2_with fail
  refine (hp.out _).mono ?_
  rintro e w1 ⟨A1,n1,c1,rfl,Q,bb⟩
  have T:=((S.out.call bb).read Q)
  clear bb S
  have S:=T
  clear T
  obtain⟨c_r0,c_r1,f_r0,f_r1⟩:=S.cf2 0 rfl
  have hz:w.heap.size<w1.heap.size:=S.lt 0 rfl
  replace S:=Lib.hid S
  clear Q hp
  have S:St w _ [(w.heap.size,#[.bool false,.slice A1 n1 c1],44)] [(A1,n1,c1,limbs N)]:=((S.out.set 0 0 (.bool false) rfl (by nofun)).set 0 1 (.slice A1 n1 c1) rfl (by nofun))
  replace S:=Lib.hid S
  go_wp2
  refine bodyPost_ret (res_pnat _ _ (w.heap.size) 44 rfl rfl (S.out.bk _ (List.mem_of_getElem? (i:=0) rfl)).1) rfl ?_
  exact⟨_,_,_,rfl,S.out.r 0 rfl,S.out.bel⟩
 ·rw[hh] at hH
  have hd:=Lib.hid (hm_dec hh)
  have hN:Hid (ndec s=0):=Lib.hid (by unfold ndec;rw[hd.out];rfl)
  replace hH:=Lib.hid hH
  clear hh
  go_enter Tryz.func160,Tryz.ntmps160
  go_wp2_with fail
  refine (hH.out _).mono ?_
  rintro e _ ⟨rfl,rfl⟩
  have S:=S.out
  replace S:=Lib.hid S
  go_wp2
  refine bodyPost_ret (res_pnat _ _ (w.heap.size) 44 rfl rfl (S.out.bk _ (List.mem_of_getElem? (i:=0) rfl)).1) rfl ?_
  exact⟨none,0,0,by rw[hd.out];rfl,by rw[hN.out,limbs_zero];exact Rd.nil_ _ _ _,S.out.bel⟩
/-- What an exponent says, and whether it is one. -/
def xok (s:ByteArray):Bool:=isDec (rest s)&&decide (ndec (rest s)≤40)
def xval (s:ByteArray):Int:=if xok s=true then (if hm s=true then -(ndec (rest s):Int) else (ndec (rest s):Int)) else 0
theorem xval_bd (s:ByteArray) : -40≤xval s∧xval s≤40:=by
 unfold xval xok
 split
 ·rename_i h;simp at h;split<;>omega
 ·omega
set_option maxHeartbeats 4000000 in
theorem parseExponent_any (s:ByteArray) (w:World) (hs:s.size≤900):Calls Tryz.prog 163 #[.string s] w fun e w'=>e=.returned (.tuple #[.int .i64 (xval s),.bool (xok s)])∧Below w.heap.size w w':=by
 have hC:∀ W,Calls Tryz.prog 126 #[.string s,.string ⟨#[45]⟩] W fun e w'=>e=.returned (.tuple #[.string (rest s),.bool (hm s)])∧w'=W:=fun W=>Tryz.strings_CutPrefix s ⟨#[45]⟩ W
 have hrs:(rest s).size≤900:=by
  have:(rest s).size≤s.size:=by
   unfold rest Lib.trimPrefix
   split
   ·show (s.data.toList.drop 1).length≤_;rw[List.length_drop,toList_len];omega
   ·show s.data.toList.length≤_;rw[toList_len];omega
  omega
 have hlen:=ndec_len (rest s)
 unfold xval xok
 obtain⟨r,hr⟩:∃ r,rest s=r:=⟨_,rfl⟩
 rw[hr] at hC hrs hlen ⊢
 have hP:=fun W=>parseNatural_any r W
 unfold RetPN at hP
 have hnd:isDec r=false→ndec r=0:=fun h=>by unfold ndec;rw[h];rfl
 generalize hm s=g at hC ⊢
 generalize ndec r=N at hP hlen hnd ⊢
 generalize isDec r=d at hP hnd ⊢
 have hl2:Hid ((limbs N).length≤900):=Lib.hid (by omega)
 replace hP:=Lib.hid hP
 clear hr hrs hlen hs
 cases d
 ·obtain rfl:N=0:=hnd rfl
  have hT:=Lib.hid (fun A n c W q h=>toInt_small 0 A n c W q h (by decide))
  replace hC:=Lib.hid hC
  clear hnd
  have S:=(St.new w)
  replace S:=Lib.hid S
  go_enter Tryz.func163,Tryz.ntmps163
  go_wp2_with fail
  refine (hC.out _).mono ?_
  rintro e w' ⟨rfl,hw⟩
  have hw:=hw.symm
  subst hw
  go_wp2_with fail
  refine (hP.out _).mono ?_
  rintro e w1 ⟨A1,n1,c1,rfl,Q,bb⟩
  have T:=((S.out.call bb).read Q)
  clear bb S
  have S:=T
  clear T
  replace S:=Lib.hid S
  clear Q hP
  have S:=(S.out.allocAt (w1.heap.size) #[.bool false,.slice A1 n1 c1] 44 (noL2 _ _ _ _) (by simp))
  have hT1:=Lib.hid (hT.out A1 n1 c1 _ (S.r 0 rfl) (by rw[←(S.r 0 rfl).len];have:=hl2.out;omega))
  replace S:=Lib.hid S
  clear hT
  go_wp2_with fail
  refine (hT1.out).mono ?_
  rintro e w2 ⟨rfl,bb⟩
  have T:=(S.out.call bb)
  clear bb S
  have S:=T
  clear T
  obtain⟨c_x0,c_x1,f_x0,f_x1⟩:=S.cf2 0 rfl
  have hz:w1.heap.size<w2.heap.size:=S.lt 0 rfl
  replace S:=Lib.hid S
  clear hT1
  go_wp2
  go_ret2
  exact⟨by first | rfl | simp,S.out.bel⟩
 ·clear hnd
  rcases Nat.lt_or_ge 9223372036854775807 N with h1 | h1
  ·have hT:=Lib.hid (fun A n c W q h=>toInt_big N A n c W q h h1)
   rw[show decide (N≤40)=false from decide_eq_false (by omega)]
   replace hC:=Lib.hid hC
   clear h1
   have S:=(St.new w)
   replace S:=Lib.hid S
   go_enter Tryz.func163,Tryz.ntmps163
   go_wp2_with fail
   refine (hC.out _).mono ?_
   rintro e w' ⟨rfl,hw⟩
   have hw:=hw.symm
   subst hw
   go_wp2_with fail
   refine (hP.out _).mono ?_
   rintro e w1 ⟨A1,n1,c1,rfl,Q,bb⟩
   have T:=((S.out.call bb).read Q)
   clear bb S
   have S:=T
   clear T
   replace S:=Lib.hid S
   clear Q hP
   have S:=(S.out.allocAt (w1.heap.size) #[.bool false,.slice A1 n1 c1] 44 (noL2 _ _ _ _) (by simp))
   have hT1:=Lib.hid (hT.out A1 n1 c1 _ (S.r 0 rfl) (by rw[←(S.r 0 rfl).len];have:=hl2.out;omega))
   replace S:=Lib.hid S
   clear hT
   go_wp2_with fail
   refine (hT1.out).mono ?_
   rintro e w2 ⟨rfl,bb⟩
   have T:=(S.out.call bb)
   clear bb S
   have S:=T
   clear T
   obtain⟨c_x0,c_x1,f_x0,f_x1⟩:=S.cf2 0 rfl
   have hz:w1.heap.size<w2.heap.size:=S.lt 0 rfl
   replace S:=Lib.hid S
   clear hT1
   go_wp2
   go_ret2
   exact⟨by first | rfl | simp,S.out.bel⟩
  ·have hT:=Lib.hid (fun A n c W q h=>toInt_small N A n c W q h h1)
   rcases Nat.lt_or_ge 40 N with h2 | h2
   ·rw[show decide (N≤40)=false from decide_eq_false (by omega)]
    have h3:(40:Int)<(N:Int):=by omega
    replace hC:=Lib.hid hC
    clear h1 h2
    have S:=(St.new w)
    replace S:=Lib.hid S
    go_enter Tryz.func163,Tryz.ntmps163
    go_wp2_with fail
    refine (hC.out _).mono ?_
    rintro e w' ⟨rfl,hw⟩
    have hw:=hw.symm
    subst hw
    go_wp2_with fail
    refine (hP.out _).mono ?_
    rintro e w1 ⟨A1,n1,c1,rfl,Q,bb⟩
    have T:=((S.out.call bb).read Q)
    clear bb S
    have S:=T
    clear T
    replace S:=Lib.hid S
    clear Q hP
    have S:=(S.out.allocAt (w1.heap.size) #[.bool false,.slice A1 n1 c1] 44 (noL2 _ _ _ _) (by simp))
    have hT1:=Lib.hid (hT.out A1 n1 c1 _ (S.r 0 rfl) (by rw[←(S.r 0 rfl).len];have:=hl2.out;omega))
    replace S:=Lib.hid S
    clear hT
    go_wp2_with fail
    refine (hT1.out).mono ?_
    rintro e w2 ⟨rfl,bb⟩
    have T:=(S.out.call bb)
    clear bb S
    have S:=T
    clear T
    obtain⟨c_x0,c_x1,f_x0,f_x1⟩:=S.cf2 0 rfl
    have hz:w1.heap.size<w2.heap.size:=S.lt 0 rfl
    replace S:=Lib.hid S
    clear hT1
    go_wp2
    go_ret2
    exact⟨by first | rfl | simp,S.out.bel⟩
   ·rw[show decide (N≤40)=true from decide_eq_true (by omega)]
    have h3:(N:Int)≤40:=by omega
    have h4:(0:Int)≤(N:Int):=by omega
    clear h1 h2
    cases g
    ·replace hC:=Lib.hid hC
     have S:=(St.new w)
     replace S:=Lib.hid S
     go_enter Tryz.func163,Tryz.ntmps163
     go_wp2_with fail
     refine (hC.out _).mono ?_
     rintro e w' ⟨rfl,hw⟩
     have hw:=hw.symm
     subst hw
     go_wp2_with fail
     refine (hP.out _).mono ?_
     rintro e w1 ⟨A1,n1,c1,rfl,Q,bb⟩
     have T:=((S.out.call bb).read Q)
     clear bb S
     have S:=T
     clear T
     replace S:=Lib.hid S
     clear Q hP
     have S:=(S.out.allocAt (w1.heap.size) #[.bool false,.slice A1 n1 c1] 44 (noL2 _ _ _ _) (by simp))
     have hT1:=Lib.hid (hT.out A1 n1 c1 _ (S.r 0 rfl) (by rw[←(S.r 0 rfl).len];have:=hl2.out;omega))
     replace S:=Lib.hid S
     clear hT
     go_wp2_with fail
     refine (hT1.out).mono ?_
     rintro e w2 ⟨rfl,bb⟩
     have T:=(S.out.call bb)
     clear bb S
     have S:=T
     clear T
     obtain⟨c_x0,c_x1,f_x0,f_x1⟩:=S.cf2 0 rfl
     have hz:w1.heap.size<w2.heap.size:=S.lt 0 rfl
     replace S:=Lib.hid S
     clear hT1
     go_wp2
     go_ret2
     exact⟨by first | rfl | simp,S.out.bel⟩
    ·replace hC:=Lib.hid hC
     have S:=(St.new w)
     replace S:=Lib.hid S
     go_enter Tryz.func163,Tryz.ntmps163
     go_wp2_with fail
     refine (hC.out _).mono ?_
     rintro e w' ⟨rfl,hw⟩
     have hw:=hw.symm
     subst hw
     go_wp2_with fail
     refine (hP.out _).mono ?_
     rintro e w1 ⟨A1,n1,c1,rfl,Q,bb⟩
     have T:=((S.out.call bb).read Q)
     clear bb S
     have S:=T
     clear T
     replace S:=Lib.hid S
     clear Q hP
     have S:=(S.out.allocAt (w1.heap.size) #[.bool false,.slice A1 n1 c1] 44 (noL2 _ _ _ _) (by simp))
     have hT1:=Lib.hid (hT.out A1 n1 c1 _ (S.r 0 rfl) (by rw[←(S.r 0 rfl).len];have:=hl2.out;omega))
     replace S:=Lib.hid S
     clear hT
     go_wp2_with fail
     refine (hT1.out).mono ?_
     rintro e w2 ⟨rfl,bb⟩
     have T:=(S.out.call bb)
     clear bb S
     have S:=T
     clear T
     obtain⟨c_x0,c_x1,f_x0,f_x1⟩:=S.cf2 0 rfl
     have hz:w1.heap.size<w2.heap.size:=S.lt 0 rfl
     replace S:=Lib.hid S
     clear hT1
     go_wp2
     go_ret2
     exact⟨by first | rfl | simp,S.out.bel⟩
theorem res_scale (W:World) (tmps:Array Value) (g t:Nat) {v0 v1 v2:Value} (ht:tmps.getD 4 undef=.pointer (some ⟨g,0,none⟩)) (h:Cb W g #[v0,v1,v2] t) :
  (results Tryz.f165 tmps).run Tryz.prog W=.ok (.agg #[v0,v1,v2]) W:=by
 have c0:W.cell? ⟨g,0,none⟩=some v0:=h.cell rfl
 have c1:W.cell? ⟨g,1,none⟩=some v1:=h.cell rfl
 have c2:W.cell? ⟨g,2,none⟩=some v2:=h.cell rfl
 have ht':tmps[4]?.getD undef=.pointer (some ⟨g,0,none⟩):=by rw[←ht];simp[Array.getD_eq_getD_getElem?]
 simp[results,Tryz.results165,go_sem,ht',c0,c1,c2]
/-- N times 10 to the power p. -/
def qscale (N:Nat) (p:Int):Rat:=if 0≤p then ((N*10^p.toNat:Nat):Int) else Rat.divInt (N:Int) ((10^(-p).toNat:Nat):Int)
set_option maxHeartbeats 8000000 in
theorem scale_any (N:Nat) (A:Option Addr) (n c:Nat) (p:Int) (w:World) (R1:Rd w A n c (limbs N)) (hn:n≤390) (hp0 : -380≤p) (hp1:p≤380) :
  Calls Tryz.prog 165 #[.agg #[.bool false,.slice A n c],.int .i64 p] w (RetR (qscale N p) w):=by
 have S:=((((St.new w).read R1).allocAt (w.heap.size) #[.bool false,.slice A n c] 44 (noL2 _ _ _ _) (by simp)).allocAt (w.heap.size+1) #[.bool false,.slice none 0 0,.slice none 0 0] 46 (noL3 _ _ _ _ _ _ _) (by simp))
 replace S:=Lib.hid S
 clear R1
 by_cases hp:0≤p
 ·have hq:Hid (qscale N p=(((N*10^p.toNat:Nat):Int):Rat)):=Lib.hid (by unfold qscale;rw[if_pos hp])
  have hP:=fun W=>powerOfTen_any p.toNat W (by omega)
  rw[Int.toNat_of_nonneg hp] at hP
  replace hP:=Lib.hid hP
  have hl:Hid ((limbs (10^p.toNat)).length≤390):=Lib.hid (by have:=pow10_len p.toNat;omega)
  generalize 10^p.toNat=T at *
  have hM:Hid (∀ W A' n' c',Rd W A n c (limbs N)→Rd W A' n' c' (limbs T)→Calls Tryz.prog 194 #[.agg #[.bool false,.slice A n c],.agg #[.bool false,.slice A' n' c']] W (RetU (N*T) W)):=Lib.hid fun W A' n' c' q1 q2=>mulU_any N T A n c A' n' c' W q1 q2 (by omega) (by rw[←q2.len];have:=hl.out;omega)
  clear hp0 hn hl
  go_enter Tryz.func165,Tryz.ntmps165
  go_wp2_with fail
  have S:=S.out
  generalize hW1:(World.alloc (World.alloc w (.cells #[.bool false,.slice A n c] 44)) (.cells #[.bool false,.slice none 0 0,.slice none 0 0] 46))=w1 at S ⊢
  clear hW1
  replace S:=Lib.hid S
  have d_x0:=St.cl (S.out) 1 0 rfl rfl
  have d_x1:=St.cl (S.out) 1 1 rfl rfl
  have SD:=Lib.hid (S.out.drew)
  go_region_held3 (fun w'=>World.cell? w' ⟨w.heap.size,0,none⟩=some (.bool false)∧World.cell? w' ⟨w.heap.size,1,none⟩=some (.slice A n c))
   (first | exact⟨d_x0,d_x1⟩ | exact⟨e0_x0,e0_x1⟩ | exact⟨e1_x0,e1_x1⟩ | exact⟨g_x0,g_x1⟩)
   (first
    | (go_at_call 195;refine (hP.out _).mono ?_;rintro e w2 ⟨A1,n1,c1,rfl,Q1,bb0⟩;have S0:St w w2 [(w.heap.size+1,#[.bool false,.slice none 0 0,.slice none 0 0],46),(w.heap.size,#[.bool false,.slice A n c],44)] [(A1,n1,c1,limbs T),(A,n,c,limbs N)]:=((SD.out.call bb0).read Q1);have e0_x0:=St.cl (S0) 1 0 rfl rfl;have e0_x1:=St.cl (S0) 1 1 rfl rfl)
    | (go_at_call 194;refine (hM.out _ _ _ _ (S0.r 1 rfl) (S0.r 0 rfl)).mono ?_;rintro e w3 ⟨A2,n2,c2,rfl,Q2,bb1⟩;have S1:St w w3 [(w.heap.size+1,#[.bool false,.slice none 0 0,.slice none 0 0],46),(w.heap.size,#[.bool false,.slice A n c],44)] [(A2,n2,c2,limbs (N*T)),(A1,n1,c1,limbs T),(A,n,c,limbs N)]:=((S0.call bb1).read Q2);have e1_x0:=St.cl (S1) 1 0 rfl rfl;have e1_x1:=St.cl (S1) 1 1 rfl rfl;have e1r_r0:=St.cl (S1) 0 0 rfl rfl;have e1r_r1:=St.cl (S1) 0 1 rfl rfl;have e1r_r2:=St.cl (S1) 0 2 rfl rfl;have e1rz_r0:=St.f (S1) 0 0 rfl;have e1rz_r1:=St.f (S1) 0 1 rfl;have e1rz_r2:=St.f (S1) 0 2 rfl;have SE:St w _ [(w.heap.size+1,#[.bool false,.slice A2 n2 c2,.slice none 0 0],46),(w.heap.size,#[.bool false,.slice A n c],44)] [(A2,n2,c2,limbs (N*T)),(A1,n1,c1,limbs T),(A,n,c,limbs N)]:=(((S1.set 0 0 (.bool false) rfl (by nofun)).set 0 1 (.slice A2 n2 c2) rfl (by nofun)).set 0 2 (.slice none 0 0) rfl (by nofun));have g_x0:=St.cl (SE) 1 0 rfl rfl;have g_x1:=St.cl (SE) 1 1 rfl rfl))
  all_goals
   have S:=SE
   clear d_x0 d_x1 e0_x0 e0_x1 e1_x0 e1_x1 e1r_r0 e1r_r1 e1r_r2 e1rz_r0 e1rz_r1 e1rz_r2 g_x0 g_x1 SD bb0 bb1 SE S0 S1
   replace S:=Lib.hid S
   have S:=S.out
   replace S:=Lib.hid S
   go_wp2
   refine bodyPost_ret (res_scale _ _ (w.heap.size+1) 46 rfl (S.out.bk _ (List.mem_of_getElem? (i:=0) rfl)).1) rfl ?_
   rw[hq.out]
   refine⟨A2,n2,c2,none,0,0,by rw[show ng (((N*T:Nat):Int):Rat).num=false from ngN _],int_RR (by rw[Int.natAbs_natCast];exact S.out.r 0 rfl),S.out.bel⟩
 ·have hq:Hid (qscale N p=Rat.divInt (N:Int) ((10^(-p).toNat:Nat):Int)):=Lib.hid (by unfold qscale;rw[if_neg hp])
  have hP:=fun W=>powerOfTen_any (-p).toNat W (by omega)
  rw[Int.toNat_of_nonneg (by omega)] at hP
  replace hP:=Lib.hid hP
  have hl:Hid ((limbs (10^(-p).toNat)).length≤390):=Lib.hid (by have:=pow10_len (-p).toNat;omega)
  have hTp:Hid (0<10^(-p).toNat):=Lib.hid (Nat.pow_pos (by decide))
  generalize 10^(-p).toNat=T at *
  have hM:Hid (∀ W A' n' c',Rd W A n c (limbs N)→Rd W A' n' c' (limbs T)→Calls Tryz.prog 161 #[.agg #[.bool false,.slice A n c],.agg #[.bool false,.slice A' n' c']] W (RetRE (Rat.divInt (N:Int) (T:Int)) (.int .i64 0) W)):=Lib.hid fun W A' n' c' q1 q2=>by
   have:=make_any false A n c _ false A' n' c' _ W q1 q2 (by omega) (by rw[←q2.len];have:=hl.out;omega)
   rw[iv_pos,iv_pos] at this
   have e:mkE (T:Int)=0:=by unfold mkE;rw[if_neg (by have:=hTp.out;omega)]
   rwa [e] at this
  generalize Rat.divInt (N:Int) (T:Int)=q at hq hM
  have hp2:p<0:=by omega
  have hw:=Lib.hid (IntWalk.i64_in (-p) (by omega))
  have hw2:IntKind.i64.wrap (-p) = -p:=hw.out
  clear hp1 hn hl hTp hp
  go_enter Tryz.func165,Tryz.ntmps165
  go_upto_region 3 with fail
  have S:=S.out
  generalize hW1:(World.alloc (World.alloc w (.cells #[.bool false,.slice A n c] 44)) (.cells #[.bool false,.slice none 0 0,.slice none 0 0] 46))=w1 at S ⊢
  clear hW1
  replace S:=Lib.hid S
  go_cut [5] (fun sv5 wx=>∃ (g_z:Nat) (A2:Option Addr) (n2:Nat) (c2:Nat) (D2:Option Addr) (m2:Nat) (d2:Nat),sv5=.pointer (some ⟨g_z,0,none⟩)∧St w wx [(g_z,#[.bool (ng q.num),.slice A2 n2 c2,.slice D2 m2 d2],46),(w.heap.size+1,#[.bool false,.slice none 0 0,.slice none 0 0],46),(w.heap.size,#[.bool false,.slice A n c],44)] [(D2,m2,d2,dn q),(A2,n2,c2,limbs q.num.natAbs),(A,n,c,limbs N)])
  case first=>
   have SD:Hid (St w (World.drew w1) _ _):=Lib.hid (S.out.drew)
   have y1_x0:=St.cl (SD.out) 1 0 rfl rfl
   have y1_x1:=St.cl (SD.out) 1 1 rfl rfl
   have y2_x0:=St.cl ((SD.out.allocAt (w1.heap.size) #[.bool false,.slice none 0 0,.slice none 0 0] 46 (noL3 _ _ _ _ _ _ _) (by simp))) 2 0 rfl rfl
   have y2_x1:=St.cl ((SD.out.allocAt (w1.heap.size) #[.bool false,.slice none 0 0,.slice none 0 0] 46 (noL3 _ _ _ _ _ _ _) (by simp))) 2 1 rfl rfl
   go_region_held3 (fun w'=>World.cell? w' ⟨w.heap.size,0,none⟩=some (.bool false)∧World.cell? w' ⟨w.heap.size,1,none⟩=some (.slice A n c))
    (first | exact⟨y1_x0,y1_x1⟩ | exact⟨y2_x0,y2_x1⟩ | exact⟨y3_x0,y3_x1⟩ | exact⟨y4_x0,y4_x1⟩ | exact⟨y5_x0,y5_x1⟩ | exact⟨y6_x0,y6_x1⟩ | exact⟨y7_x0,y7_x1⟩ | exact⟨y8_x0,y8_x1⟩ | exact⟨y9_x0,y9_x1⟩ | exact⟨y10_x0,y10_x1⟩ | exact⟨y11_x0,y11_x1⟩ | exact⟨y12_x0,y12_x1⟩ | exact⟨y13_x0,y13_x1⟩ | exact⟨y14_x0,y14_x1⟩)
    (first
     | (go_at_call 195;first
       | (refine (hP.out _).mono ?_;rintro e w2 ⟨A1,n1,c1,rfl,Q1,bb0⟩;have S_0:St w w2 [(w.heap.size+1,#[.bool false,.slice none 0 0,.slice none 0 0],46),(w.heap.size,#[.bool false,.slice A n c],44)] [(A1,n1,c1,limbs T),(A,n,c,limbs N)]:=((SD.out.call bb0).read Q1);have y3_x0:=St.cl (S_0) 1 0 rfl rfl;have y3_x1:=St.cl (S_0) 1 1 rfl rfl;have y4_x0:=St.cl ((S_0.allocAt (w2.heap.size) #[.bool false,.slice none 0 0,.slice none 0 0] 46 (noL3 _ _ _ _ _ _ _) (by simp))) 2 0 rfl rfl;have y4_x1:=St.cl ((S_0.allocAt (w2.heap.size) #[.bool false,.slice none 0 0,.slice none 0 0] 46 (noL3 _ _ _ _ _ _ _) (by simp))) 2 1 rfl rfl)
       | (refine (hP.out _).mono ?_;rintro e w2 ⟨A1,n1,c1,rfl,Q1,bb0⟩;have S_z0:St w w2 [(w1.heap.size,#[.bool false,.slice none 0 0,.slice none 0 0],46),(w.heap.size+1,#[.bool false,.slice none 0 0,.slice none 0 0],46),(w.heap.size,#[.bool false,.slice A n c],44)] [(A1,n1,c1,limbs T),(A,n,c,limbs N)]:=(((SD.out.allocAt (w1.heap.size) #[.bool false,.slice none 0 0,.slice none 0 0] 46 (noL3 _ _ _ _ _ _ _) (by simp)).call bb0).read Q1);have y6_x0:=St.cl (S_z0) 2 0 rfl rfl;have y6_x1:=St.cl (S_z0) 2 1 rfl rfl;have y6v_z0:=St.cl (S_z0) 0 0 rfl rfl;have y6v_z1:=St.cl (S_z0) 0 1 rfl rfl;have y6v_z2:=St.cl (S_z0) 0 2 rfl rfl;have y6vz_z0:=St.f (S_z0) 0 0 rfl;have y6vz_z1:=St.f (S_z0) 0 1 rfl;have y6vz_z2:=St.f (S_z0) 0 2 rfl))
     | (go_at_call 161;first
       | (refine (hM.out _ _ _ _ (S_0.r 1 rfl) (S_0.r 0 rfl)).mono ?_;rintro e w3 ⟨A2,n2,c2,D2,m2,d2,rfl,Q2,bb1⟩;have S_01:St w w3 [(w.heap.size+1,#[.bool false,.slice none 0 0,.slice none 0 0],46),(w.heap.size,#[.bool false,.slice A n c],44)] [(D2,m2,d2,dn q),(A2,n2,c2,limbs q.num.natAbs),(A1,n1,c1,limbs T),(A,n,c,limbs N)]:=(((S_0.call bb1).read Q2.n).read Q2.d);have y7_x0:=St.cl (S_01) 1 0 rfl rfl;have y7_x1:=St.cl (S_01) 1 1 rfl rfl;have y8_x0:=St.cl ((S_01.allocAt (w3.heap.size) #[.bool false,.slice none 0 0,.slice none 0 0] 46 (noL3 _ _ _ _ _ _ _) (by simp))) 2 0 rfl rfl;have y8_x1:=St.cl ((S_01.allocAt (w3.heap.size) #[.bool false,.slice none 0 0,.slice none 0 0] 46 (noL3 _ _ _ _ _ _ _) (by simp))) 2 1 rfl rfl;have y9_x0:=St.cl ((S_01.allocAt (w3.heap.size) #[.bool (ng q.num),.slice A2 n2 c2,.slice D2 m2 d2] 46 (noL3 _ _ _ _ _ _ _) (by simp))) 2 0 rfl rfl;have y9_x1:=St.cl ((S_01.allocAt (w3.heap.size) #[.bool (ng q.num),.slice A2 n2 c2,.slice D2 m2 d2] 46 (noL3 _ _ _ _ _ _ _) (by simp))) 2 1 rfl rfl)
       | (refine (hM.out _ _ _ _ ((S_0.allocAt (w2.heap.size) #[.bool false,.slice none 0 0,.slice none 0 0] 46 (noL3 _ _ _ _ _ _ _) (by simp)).r 1 rfl) ((S_0.allocAt (w2.heap.size) #[.bool false,.slice none 0 0,.slice none 0 0] 46 (noL3 _ _ _ _ _ _ _) (by simp)).r 0 rfl)).mono ?_;rintro e w3 ⟨A2,n2,c2,D2,m2,d2,rfl,Q2,bb1⟩;have S_0z1:St w w3 [(w2.heap.size,#[.bool false,.slice none 0 0,.slice none 0 0],46),(w.heap.size+1,#[.bool false,.slice none 0 0,.slice none 0 0],46),(w.heap.size,#[.bool false,.slice A n c],44)] [(D2,m2,d2,dn q),(A2,n2,c2,limbs q.num.natAbs),(A1,n1,c1,limbs T),(A,n,c,limbs N)]:=((((S_0.allocAt (w2.heap.size) #[.bool false,.slice none 0 0,.slice none 0 0] 46 (noL3 _ _ _ _ _ _ _) (by simp)).call bb1).read Q2.n).read Q2.d);have y11_x0:=St.cl (S_0z1) 2 0 rfl rfl;have y11_x1:=St.cl (S_0z1) 2 1 rfl rfl;have y11v_z0:=St.cl (S_0z1) 0 0 rfl rfl;have y11v_z1:=St.cl (S_0z1) 0 1 rfl rfl;have y11v_z2:=St.cl (S_0z1) 0 2 rfl rfl;have y11vz_z0:=St.f (S_0z1) 0 0 rfl;have y11vz_z1:=St.f (S_0z1) 0 1 rfl;have y11vz_z2:=St.f (S_0z1) 0 2 rfl;have y12_x0:=St.cl ((((S_0z1.set 0 0 (.bool (ng q.num)) rfl (by nofun)).set 0 1 (.slice A2 n2 c2) rfl (by nofun)).set 0 2 (.slice D2 m2 d2) rfl (by nofun))) 2 0 rfl rfl;have y12_x1:=St.cl ((((S_0z1.set 0 0 (.bool (ng q.num)) rfl (by nofun)).set 0 1 (.slice A2 n2 c2) rfl (by nofun)).set 0 2 (.slice D2 m2 d2) rfl (by nofun))) 2 1 rfl rfl)
       | (refine (hM.out _ _ _ _ (S_z0.r 1 rfl) (S_z0.r 0 rfl)).mono ?_;rintro e w3 ⟨A2,n2,c2,D2,m2,d2,rfl,Q2,bb1⟩;have S_z01:St w w3 [(w1.heap.size,#[.bool false,.slice none 0 0,.slice none 0 0],46),(w.heap.size+1,#[.bool false,.slice none 0 0,.slice none 0 0],46),(w.heap.size,#[.bool false,.slice A n c],44)] [(D2,m2,d2,dn q),(A2,n2,c2,limbs q.num.natAbs),(A1,n1,c1,limbs T),(A,n,c,limbs N)]:=(((S_z0.call bb1).read Q2.n).read Q2.d);have y13_x0:=St.cl (S_z01) 2 0 rfl rfl;have y13_x1:=St.cl (S_z01) 2 1 rfl rfl;have y13v_z0:=St.cl (S_z01) 0 0 rfl rfl;have y13v_z1:=St.cl (S_z01) 0 1 rfl rfl;have y13v_z2:=St.cl (S_z01) 0 2 rfl rfl;have y13vz_z0:=St.f (S_z01) 0 0 rfl;have y13vz_z1:=St.f (S_z01) 0 1 rfl;have y13vz_z2:=St.f (S_z01) 0 2 rfl;have y14_x0:=St.cl ((((S_z01.set 0 0 (.bool (ng q.num)) rfl (by nofun)).set 0 1 (.slice A2 n2 c2) rfl (by nofun)).set 0 2 (.slice D2 m2 d2) rfl (by nofun))) 2 0 rfl rfl;have y14_x1:=St.cl ((((S_z01.set 0 0 (.bool (ng q.num)) rfl (by nofun)).set 0 1 (.slice A2 n2 c2) rfl (by nofun)).set 0 2 (.slice D2 m2 d2) rfl (by nofun))) 2 1 rfl rfl)))
   all_goals
    go_wp2_with fail
    go_meet
    first
     | (have T:=(S_01.allocAt (w3.heap.size) #[.bool (ng q.num),.slice A2 n2 c2,.slice D2 m2 d2] 46 (noL3 _ _ _ _ _ _ _) (by simp));exact⟨_,_,_,_,_,_,_,rfl,T.pick [0,1,2] [0,1,3] rfl (by decide) rfl⟩)
     | (have T:=(((S_0z1.set 0 0 (.bool (ng q.num)) rfl (by nofun)).set 0 1 (.slice A2 n2 c2) rfl (by nofun)).set 0 2 (.slice D2 m2 d2) rfl (by nofun));exact⟨_,_,_,_,_,_,_,rfl,T.pick [0,1,2] [0,1,3] rfl (by decide) rfl⟩)
     | (have T:=(((S_z01.set 0 0 (.bool (ng q.num)) rfl (by nofun)).set 0 1 (.slice A2 n2 c2) rfl (by nofun)).set 0 2 (.slice D2 m2 d2) rfl (by nofun));exact⟨_,_,_,_,_,_,_,rfl,T.pick [0,1,2] [0,1,3] rfl (by decide) rfl⟩)
  case rest=>
   clear S
   obtain⟨g_z,A2,n2,c2,D2,m2,d2,rfl,S⟩:=hcut
   obtain⟨c_z0,c_z1,c_z2,f_z0,f_z1,f_z2⟩:=S.cf3 0 rfl
   obtain⟨c_r0,c_r1,c_r2,f_r0,f_r1,f_r2⟩:=S.cf3 1 rfl
   obtain⟨c_x0,c_x1,f_x0,f_x1⟩:=S.cf2 2 rfl
   have hz:g_z<wc.heap.size:=S.lt 0 rfl
   replace S:=Lib.hid S
   have S:St w _ [(g_z,#[.bool (ng q.num),.slice A2 n2 c2,.slice D2 m2 d2],46),(w.heap.size+1,#[.bool (ng q.num),.slice A2 n2 c2,.slice D2 m2 d2],46),(w.heap.size,#[.bool false,.slice A n c],44)] [(D2,m2,d2,dn q),(A2,n2,c2,limbs q.num.natAbs),(A,n,c,limbs N)]:=(((S.out.set 1 0 (.bool (ng q.num)) rfl (by nofun)).set 1 1 (.slice A2 n2 c2) rfl (by nofun)).set 1 2 (.slice D2 m2 d2) rfl (by nofun))
   replace S:=Lib.hid S
   go_wp2
   refine bodyPost_ret (res_scale _ _ (w.heap.size+1) 46 rfl (S.out.bk _ (List.mem_of_getElem? (i:=1) rfl)).1) rfl ?_
   rw[hq.out]
   exact⟨A2,n2,c2,D2,m2,d2,rfl,⟨S.out.r 1 rfl,S.out.r 0 rfl⟩,S.out.bel⟩
end Go.Proofs.YtdeedofmflelfaaGreatDoor
