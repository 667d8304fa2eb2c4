/- parseDecimal and parseFraction of rational. strings.IndexAny at whatever string, for a few ASCII bytes. parseScaled and Parse of rational, for ASCII texts. -/
import Derived.Test.YtdeedofmflelfaaGreatDoorQRjz
import Derived.Test.YtdeedofmflelfaaGreatDoorSi
import Derived.Lib.CleanWalkFns
namespace Go.Proofs.YtdeedofmflelfaaGreatDoor
open Go.RowKit RQ
theorem dval_zero (r:List UInt8):dval (48::r)=dval r:=by unfold dval;rw[List.foldl_cons];rfl
theorem trim_dval:∀ (l:List UInt8),allDig l=true→l.length≤4000→ndec (bs (Lib.trimLeftB l 48))=dval l
 | [],_,_=>by
  have:isDec (bs (Lib.trimLeftB [] 48))=false:=isDec_size (.inl rfl)
  unfold ndec;rw[this];rfl
 | c::r,ha,hl=>by
  have hc:isDig c=true∧allDig r=true:=by unfold allDig at ha ⊢;simpa using ha
  by_cases h0:c=48
  ·subst h0
   rw[dval_zero,←trim_dval r hc.2 (by simp at hl;omega)]
   congr 2
  ·have e:Lib.trimLeftB (c::r) 48=c::r:=by unfold Lib.trimLeftB;simp[h0]
   have hd:isDec (bs (c::r))=true:=by
    rw[isDec_digs (by simp[bs_size]) (by rw[bs_size];exact hl) (by
     rintro ⟨_,h2⟩
     apply h0
     have:(bs (c::r)).get! 0=c:=rfl
     rw[this] at h2
     exact UInt8.toNat_inj.1 h2)]
    exact ha
   rw[e];unfold ndec;rw[hd,if_pos rfl];rfl
/-- What stands behind the point, if there is one. -/
def pdA (s:ByteArray):ByteArray:=if hasB 46 s.data.toList=true then bs (aft 46 s.data.toList) else ⟨#[]⟩
def pdB (s:ByteArray):ByteArray:=bs (bef 46 s.data.toList)
/-- Is this an integer or a decimal, which number do all its digits make, and how many stand behind the point? -/
def pdok (s:ByteArray):Bool:=isDec (pdB s)&&(!(hasB 46 s.data.toList)||digs (pdA s).data.toList)
def pdval (s:ByteArray):Nat:=if pdok s=true then dval ((pdB s).data.toList++(pdA s).data.toList) else 0
def pdpl (s:ByteArray):Nat:=if pdok s=true then (pdA s).size else 0
theorem pd_size (s:ByteArray):(pdB s).size+(pdA s).size≤s.size:=by
 unfold pdA pdB
 cases h:hasB 46 s.data.toList
 ·have:=(index_no h).2
  rw[this,bs_of,if_neg (by simp)];show s.size+0≤s.size;omega
 ·have:=congrArg List.length (index_yes h).2
  rw[List.length_append,List.length_cons,toList_len] at this
  simp[bs_size];omega
theorem pd_all {s:ByteArray} (h:pdok s=true):allDig ((pdB s).data.toList++(pdA s).data.toList)=true:=by
 unfold pdok at h
 rw[Bool.and_eq_true,Bool.or_eq_true,Bool.not_eq_true'] at h
 obtain⟨h1,h2⟩:=h
 obtain⟨_,_,ha⟩:=isDec_yes' h1
 unfold allDig at ha ⊢
 rw[List.all_append,ha,Bool.true_and]
 rcases h2 with h2 | h2
 ·unfold pdA;rw[h2];rfl
 ·unfold digs at h2;rw[Bool.and_eq_true] at h2;exact h2.1
theorem pdval_len (s:ByteArray):(limbs (pdval s)).length≤s.size:=by
 unfold pdval
 split
 ·rename_i hk
  have:=pd_size s
  refine dec_len_k (pd_all hk) ?_
  rw[List.length_append,toList_len,toList_len];omega
 ·rw[limbs_zero];exact Nat.zero_le _
theorem pdpl_le (s:ByteArray):pdpl s≤s.size:=by
 have:=pd_size s
 unfold pdpl;split<;>omega
def RetPD (s:ByteArray) (w:World) (e:Ending) (w':World):Prop:=∃ A n c,e=.returned (.tuple #[.agg #[.bool false,.slice A n c],.int .i64 (pdpl s:Int),.bool (pdok s)])∧Rd w' A n c (limbs (pdval s))∧Below w.heap.size w w'
theorem app_list (a b:ByteArray):(a++b).data.toList=a.data.toList++b.data.toList:=by simp
theorem res_pdec (W:World) (tmps:Array Value) (g t:Nat) {v0 v1 e0 e1:Value} (ht:tmps.getD 2 undef=.pointer (some ⟨g,0,none⟩)) (h0:tmps.getD 3 undef=e0) (h1:tmps.getD 4 undef=e1) (h:Cb W g #[v0,v1] t) :
  (results Tryz.f164 tmps).run Tryz.prog W=.ok (.tuple #[.agg #[v0,v1],e0,e1]) W:=by
 have c0:W.cell? ⟨g,0,none⟩=some v0:=h.cell rfl
 have c1:W.cell? ⟨g,1,none⟩=some v1:=h.cell rfl
 have ht':tmps[2]?.getD undef=.pointer (some ⟨g,0,none⟩):=by rw[←ht];simp[Array.getD_eq_getD_getElem?]
 have k0:tmps[3]?.getD undef=e0:=by rw[←h0];simp[Array.getD_eq_getD_getElem?]
 have k1:tmps[4]?.getD undef=e1:=by rw[←h1];simp[Array.getD_eq_getD_getElem?]
 simp[results,Tryz.results164,go_sem,ht',k0,k1,c0,c1]
set_option maxHeartbeats 4000000 in
theorem parseDecimal_any (s:ByteArray) (w:World) (hs:s.size≤900):Calls Tryz.prog 164 #[.string s] w (RetPD s w):=by
 have hsz:=pd_size s
 have hC:∀ W,Calls Tryz.prog 127 #[.string s,.string ⟨#[46]⟩] W fun e w'=>e=.returned (.tuple #[.string (pdB s),.string (pdA s),.bool (hasB 46 s.data.toList)])∧Below W.heap.size W w':=by
  intro W
  unfold pdA pdB
  cases h:hasB 46 s.data.toList
  ·have:=cut_no s 46 W h
   rw[(index_no h).2,bs_of];exact this
  ·exact cut_yes s 46 W h (by omega)
 have hok:pdok s=(isDec (pdB s)&&(!(hasB 46 s.data.toList)||digs (pdA s).data.toList)):=rfl
 have hN:=fun W=>parseNatural_any (pdB s) W
 have hD:=fun W=>isDigits_any (pdA s) W (by omega)
 have hT:=fun W=>Tryz.strings_TrimLeft_one (pdB s++pdA s) 48 (by decide) W
 have hU:=fun W=>parseNatural_any (bs (Lib.trimLeftB (pdB s++pdA s).data.toList 48)) W
 have hv:pdok s=true→ndec (bs (Lib.trimLeftB (pdB s++pdA s).data.toList 48))=pdval s:=fun h=>by
  rw[app_list,trim_dval _ (pd_all h) (by rw[List.length_append,toList_len,toList_len];omega)]
  unfold pdval;rw[if_pos h]
 have hv0:pdok s=false→pdval s=0∧pdpl s=0:=fun h=>by unfold pdval pdpl;rw[h];simp
 have hv1:pdok s=true→pdpl s=(pdA s).size:=fun h=>by unfold pdpl;rw[if_pos h]
 unfold RetPN at hN hU
 unfold RetPD
 have z1:¬ 9223372036854775807<(pdB s).size+(pdA s).size:=by omega
 have z2:((pdB s).size:Int)+((pdA s).size:Int)≤4000:=by omega
 change ∀ W,Calls Tryz.prog 193 #[.string (pdB s++pdA s),.string ⟨#[48]⟩] W fun e w'=>e=.returned (.string (bs (Lib.trimLeftB (pdB s++pdA s).data.toList 48)))∧w'=W at hT
 generalize bs (Lib.trimLeftB (pdB s++pdA s).data.toList 48)=T at hT hU hv
 generalize hasB 46 s.data.toList=q at hC hok
 generalize pdB s=b at *
 generalize digs (pdA s).data.toList=g at hD hok
 generalize pdA s=a at *
 generalize pdok s=k at *
 generalize pdval s=V at *
 generalize pdpl s=P at *
 generalize isDec b=d at hN hok
 generalize ndec b=N1 at hN
 generalize ndec T=N2 at hU hv
 generalize isDec T=d2 at hU
 clear hs hsz
 replace hT:=Lib.hid hT
 replace hU:=Lib.hid hU
 have S:=((St.new w).allocAt (w.heap.size) #[.bool false,.slice none 0 0] 44 (noL2 _ _ _ _) (by simp))
 replace S:=Lib.hid S
 cases d
 ·cases q
  all_goals
   obtain rfl:k=false:=by rw[hok];rfl
   obtain⟨rfl,rfl⟩:=hv0 rfl
   clear hv hv0 hv1 hok
   replace hC:=Lib.hid hC
   replace hN:=Lib.hid hN
   replace hD:=Lib.hid hD
   go_enter Tryz.func164,Tryz.ntmps164
   go_wp2_with fail
   refine (hC.out _).mono ?_
   rintro e w1 ⟨rfl,bb⟩
   have T:=(S.out.call bb)
   clear bb S
   have S:=T
   clear T
   obtain⟨c_r0,c_r1,f_r0,f_r1⟩:=S.cf2 0 rfl
   have hz:w.heap.size<w1.heap.size:=S.lt 0 rfl
   replace S:=Lib.hid S
   go_wp2_with fail
   refine (hN.out _).mono ?_
   rintro e w2 ⟨A1,n1,c1,rfl,Q,bb⟩
   have T:=((S.out.call bb).read Q)
   clear bb S c_r0 f_r0 c_r1 f_r1 hz
   have S:=T
   clear T
   obtain⟨c_r0,c_r1,f_r0,f_r1⟩:=S.cf2 0 rfl
   have hz:w.heap.size<w2.heap.size:=S.lt 0 rfl
   replace S:=Lib.hid S
   clear Q
   have S:St w _ [(w.heap.size,#[.bool false,.slice none 0 0],44)] [(A1,n1,c1,limbs N1)]:=((S.out.set 0 0 (.bool false) rfl (by nofun)).set 0 1 (.slice none 0 0) rfl (by nofun))
   replace S:=Lib.hid S
   go_wp2
   refine bodyPost_ret (res_pdec _ _ (w.heap.size) 44 rfl rfl rfl (S.out.bk _ (List.mem_of_getElem? (i:=0) rfl)).1) rfl ?_
   exact⟨none,0,0,rfl,by rw[limbs_zero];exact Rd.nil_ _ _ _,S.out.bel⟩
 ·cases q
  ·have hx:True:=trivial
   obtain rfl:k=true:=by rw[hok];rfl
   have hv':=Lib.hid (hv rfl)
   obtain rfl:=hv1 rfl
   clear hv hv0 hv1 hok
   replace hC:=Lib.hid hC
   replace hN:=Lib.hid hN
   replace hD:=Lib.hid hD
   go_enter Tryz.func164,Tryz.ntmps164
   go_wp2_with fail
   refine (hC.out _).mono ?_
   rintro e w1 ⟨rfl,bb⟩
   have T:=(S.out.call bb)
   clear bb S
   have S:=T
   clear T
   obtain⟨c_r0,c_r1,f_r0,f_r1⟩:=S.cf2 0 rfl
   have hz:w.heap.size<w1.heap.size:=S.lt 0 rfl
   replace S:=Lib.hid S
   go_wp2_with fail
   refine (hN.out _).mono ?_
   rintro e w2 ⟨A1,n1,c1,rfl,Q,bb⟩
   have T:=((S.out.call bb).read Q)
   clear bb S c_r0 f_r0 c_r1 f_r1 hz
   have S:=T
   clear T
   obtain⟨c_r0,c_r1,f_r0,f_r1⟩:=S.cf2 0 rfl
   have hz:w.heap.size<w2.heap.size:=S.lt 0 rfl
   replace S:=Lib.hid S
   clear Q
   go_wp2_with fail
   refine (hT.out _).mono ?_
   rintro e _ ⟨rfl,rfl⟩
   go_wp2_with fail
   refine (hU.out _).mono ?_
   rintro e w3 ⟨A2,n2,c2,rfl,Q,bb⟩
   have T:=((S.out.call bb).read Q)
   clear bb S c_r0 f_r0 c_r1 f_r1 hz
   have S:=T
   clear T
   obtain⟨c_r0,c_r1,f_r0,f_r1⟩:=S.cf2 0 rfl
   have hz:w.heap.size<w3.heap.size:=S.lt 0 rfl
   replace S:=Lib.hid S
   clear Q
   have S:St w _ [(w.heap.size,#[.bool false,.slice A2 n2 c2],44)] [(A2,n2,c2,limbs N2),(A1,n1,c1,limbs N1)]:=((((S.out.set 0 0 (.bool false) rfl (by nofun)).set 0 1 (.slice A2 n2 c2) rfl (by nofun)).set 0 0 (.bool false) rfl (by nofun)).set 0 1 (.slice A2 n2 c2) rfl (by nofun))
   replace S:=Lib.hid S
   go_wp2
   refine bodyPost_ret (res_pdec _ _ (w.heap.size) 44 rfl rfl rfl (S.out.bk _ (List.mem_of_getElem? (i:=0) rfl)).1) rfl ?_
   exact⟨A2,n2,c2,rfl,by rw[←hv'.out];exact S.out.r 0 rfl,S.out.bel⟩
  ·cases g
   ·have hx:True:=trivial
    obtain rfl:k=false:=by rw[hok];rfl
    obtain⟨rfl,rfl⟩:=hv0 rfl
    clear hv hv0 hv1 hok
    replace hC:=Lib.hid hC
    replace hN:=Lib.hid hN
    replace hD:=Lib.hid hD
    go_enter Tryz.func164,Tryz.ntmps164
    go_wp2_with fail
    refine (hC.out _).mono ?_
    rintro e w1 ⟨rfl,bb⟩
    have T:=(S.out.call bb)
    clear bb S
    have S:=T
    clear T
    obtain⟨c_r0,c_r1,f_r0,f_r1⟩:=S.cf2 0 rfl
    have hz:w.heap.size<w1.heap.size:=S.lt 0 rfl
    replace S:=Lib.hid S
    go_wp2_with fail
    refine (hN.out _).mono ?_
    rintro e w2 ⟨A1,n1,c1,rfl,Q,bb⟩
    have T:=((S.out.call bb).read Q)
    clear bb S c_r0 f_r0 c_r1 f_r1 hz
    have S:=T
    clear T
    obtain⟨c_r0,c_r1,f_r0,f_r1⟩:=S.cf2 0 rfl
    have hz:w.heap.size<w2.heap.size:=S.lt 0 rfl
    replace S:=Lib.hid S
    clear Q
    go_wp2_with fail
    refine (hD.out _).mono ?_
    rintro e _ ⟨rfl,rfl⟩
    have S:St w _ [(w.heap.size,#[.bool false,.slice none 0 0],44)] [(A1,n1,c1,limbs N1)]:=((S.out.set 0 0 (.bool false) rfl (by nofun)).set 0 1 (.slice none 0 0) rfl (by nofun))
    replace S:=Lib.hid S
    go_wp2
    refine bodyPost_ret (res_pdec _ _ (w.heap.size) 44 rfl rfl rfl (S.out.bk _ (List.mem_of_getElem? (i:=0) rfl)).1) rfl ?_
    exact⟨none,0,0,rfl,by rw[limbs_zero];exact Rd.nil_ _ _ _,S.out.bel⟩
   ·have hx:True:=trivial
    obtain rfl:k=true:=by rw[hok];rfl
    have hv':=Lib.hid (hv rfl)
    obtain rfl:=hv1 rfl
    clear hv hv0 hv1 hok
    replace hC:=Lib.hid hC
    replace hN:=Lib.hid hN
    replace hD:=Lib.hid hD
    go_enter Tryz.func164,Tryz.ntmps164
    go_wp2_with fail
    refine (hC.out _).mono ?_
    rintro e w1 ⟨rfl,bb⟩
    have T:=(S.out.call bb)
    clear bb S
    have S:=T
    clear T
    obtain⟨c_r0,c_r1,f_r0,f_r1⟩:=S.cf2 0 rfl
    have hz:w.heap.size<w1.heap.size:=S.lt 0 rfl
    replace S:=Lib.hid S
    go_wp2_with fail
    refine (hN.out _).mono ?_
    rintro e w2 ⟨A1,n1,c1,rfl,Q,bb⟩
    have T:=((S.out.call bb).read Q)
    clear bb S c_r0 f_r0 c_r1 f_r1 hz
    have S:=T
    clear T
    obtain⟨c_r0,c_r1,f_r0,f_r1⟩:=S.cf2 0 rfl
    have hz:w.heap.size<w2.heap.size:=S.lt 0 rfl
    replace S:=Lib.hid S
    clear Q
    go_wp2_with fail
    refine (hD.out _).mono ?_
    rintro e _ ⟨rfl,rfl⟩
    go_wp2_with fail
    refine (hT.out _).mono ?_
    rintro e _ ⟨rfl,rfl⟩
    go_wp2_with fail
    refine (hU.out _).mono ?_
    rintro e w3 ⟨A2,n2,c2,rfl,Q,bb⟩
    have T:=((S.out.call bb).read Q)
    clear bb S c_r0 f_r0 c_r1 f_r1 hz
    have S:=T
    clear T
    obtain⟨c_r0,c_r1,f_r0,f_r1⟩:=S.cf2 0 rfl
    have hz:w.heap.size<w3.heap.size:=S.lt 0 rfl
    replace S:=Lib.hid S
    clear Q
    have S:St w _ [(w.heap.size,#[.bool false,.slice A2 n2 c2],44)] [(A2,n2,c2,limbs N2),(A1,n1,c1,limbs N1)]:=((((S.out.set 0 0 (.bool false) rfl (by nofun)).set 0 1 (.slice A2 n2 c2) rfl (by nofun)).set 0 0 (.bool false) rfl (by nofun)).set 0 1 (.slice A2 n2 c2) rfl (by nofun))
    replace S:=Lib.hid S
    go_wp2
    refine bodyPost_ret (res_pdec _ _ (w.heap.size) 44 rfl rfl rfl (S.out.bk _ (List.mem_of_getElem? (i:=0) rfl)).1) rfl ?_
    exact⟨A2,n2,c2,rfl,by rw[←hv'.out];exact S.out.r 0 rfl,S.out.bel⟩
theorem res_pfrac (W:World) (tmps:Array Value) (g t:Nat) {v0 v1 v2 e0:Value} (ht:tmps.getD 4 undef=.pointer (some ⟨g,0,none⟩)) (h0:tmps.getD 5 undef=e0) (h:Cb W g #[v0,v1,v2] t) :
  (results Tryz.f128 tmps).run Tryz.prog W=.ok (.tuple #[.agg #[v0,v1,v2],e0]) W:=by
 have c0:W.cell? ⟨g,0,none⟩=some v0:=h.cell rfl
 have c1:W.cell? ⟨g,1,none⟩=some v1:=h.cell rfl
 have c2:W.cell? ⟨g,2,none⟩=some v2:=h.cell rfl
 have ht':tmps[4]?.getD undef=.pointer (some ⟨g,0,none⟩):=by rw[←ht];simp[Array.getD_eq_getD_getElem?]
 have k0:tmps[5]?.getD undef=e0:=by rw[←h0];simp[Array.getD_eq_getD_getElem?]
 simp[results,Tryz.results128,go_sem,ht',k0,c0,c1,c2]
/-- The fraction of two strings, and whether they make one. -/
def fok (s t:ByteArray):Bool:=isDec s&&isDec t && !(ndec t==0)
def fq (s t:ByteArray):Rat:=if fok s t=true then Rat.divInt (ndec s:Int) (ndec t:Int) else 0
set_option maxHeartbeats 4000000 in
theorem parseFraction_any (s t:ByteArray) (w:World) (hs:s.size≤390) (ht:t.size≤390):Calls Tryz.prog 128 #[.string s,.string t] w (RetRE (fq s t) (.bool (fok s t)) w):=by
 have l1:Hid ((limbs (ndec s)).length≤390):=Lib.hid (by have:=ndec_len s;omega)
 have l2:Hid ((limbs (ndec t)).length≤390):=Lib.hid (by have:=ndec_len t;omega)
 have hP:=fun W=>parseNatural_any s W
 have hQ:=fun W=>parseNatural_any t W
 unfold RetPN at hP hQ
 unfold fq fok
 generalize ndec s=N at *
 generalize ndec t=M at *
 have hM:Hid (∀ W A n c A' n' c',Rd W A n c (limbs N)→Rd W A' n' c' (limbs M)→Calls Tryz.prog 161 #[.agg #[.bool false,.slice A n c],.agg #[.bool false,.slice A' n' c']] W (RetRE (Rat.divInt (N:Int) (M:Int)) (.int .i64 (mkE (M:Int))) W)):=Lib.hid fun W A n c A' n' c' q1 q2=>by
  have:=make_any false A n c _ false A' n' c' _ W q1 q2 (by rw[←q1.len];have:=l1.out;omega) (by rw[←q2.len];have:=l2.out;omega)
  rwa [iv_pos,iv_pos] at this
 clear l1 l2 hs ht
 generalize isDec s=d1 at hP ⊢
 generalize isDec t=d2 at hQ ⊢
 have S:=((St.new w).allocAt (w.heap.size) #[.bool false,.slice none 0 0,.slice none 0 0] 46 (noL3 _ _ _ _ _ _ _) (by simp))
 replace S:=Lib.hid S
 cases d1
 ·cases d2
  all_goals
   replace hP:=Lib.hid hP
   replace hQ:=Lib.hid hQ
   go_enter Tryz.func128,Tryz.ntmps128
   go_wp2_with fail
   refine (hP.out _).mono ?_
   rintro e w1 ⟨A1,n1,c1,rfl,Q,bb⟩
   have T:=((S.out.call bb).read Q)
   clear bb S
   have S:=T
   clear T
   obtain⟨c_r0,c_r1,c_r2,f_r0,f_r1,f_r2⟩:=S.cf3 0 rfl
   have hz:w.heap.size<w1.heap.size:=S.lt 0 rfl
   replace S:=Lib.hid S
   clear Q
   have S:=(S.out.allocAt (w1.heap.size) #[.bool false,.slice A1 n1 c1] 44 (noL2 _ _ _ _) (by simp))
   replace S:=Lib.hid S
   go_wp2_with fail
   refine (hQ.out _).mono ?_
   rintro e w2 ⟨A2,n2,c2,rfl,Q,bb⟩
   have T:=((S.out.call bb).read Q)
   clear bb S c_r0 f_r0 c_r1 f_r1 c_r2 f_r2 hz
   have S:=T
   clear T
   obtain⟨c_x0,c_x1,f_x0,f_x1⟩:=S.cf2 0 rfl
   obtain⟨c_r0,c_r1,c_r2,f_r0,f_r1,f_r2⟩:=S.cf3 1 rfl
   have hz:w1.heap.size<w2.heap.size:=S.lt 0 rfl
   replace S:=Lib.hid S
   clear Q
   have S:=(S.out.allocAt (w2.heap.size) #[.bool false,.slice A2 n2 c2] 44 (noL2 _ _ _ _) (by simp))
   obtain⟨a_r0,a_r1,a_r2,b_r0,b_r1,b_r2⟩:=S.cf3 2 rfl
   obtain⟨a_x0,a_x1,b_x0,b_x1⟩:=S.cf2 1 rfl
   replace S:=Lib.hid S
   have S:St w _ [(w2.heap.size,#[.bool false,.slice A2 n2 c2],44),(w1.heap.size,#[.bool false,.slice A1 n1 c1],44),(w.heap.size,#[.bool false,.slice none 0 0,.slice none 0 0],46)] [(A2,n2,c2,limbs M),(A1,n1,c1,limbs N)]:=(((S.out.set 2 0 (.bool false) rfl (by nofun)).set 2 1 (.slice none 0 0) rfl (by nofun)).set 2 2 (.slice none 0 0) rfl (by nofun))
   replace S:=Lib.hid S
   go_wp2
   refine bodyPost_ret (res_pfrac _ _ (w.heap.size) 46 rfl rfl (S.out.bk _ (List.mem_of_getElem? (i:=2) rfl)).1) rfl ?_
   exact⟨none,0,0,none,0,0,rfl,zero_RR _ _ _ _ _,S.out.bel⟩
 ·cases d2
  ·have hx:True:=trivial
   replace hP:=Lib.hid hP
   replace hQ:=Lib.hid hQ
   go_enter Tryz.func128,Tryz.ntmps128
   go_wp2_with fail
   refine (hP.out _).mono ?_
   rintro e w1 ⟨A1,n1,c1,rfl,Q,bb⟩
   have T:=((S.out.call bb).read Q)
   clear bb S
   have S:=T
   clear T
   obtain⟨c_r0,c_r1,c_r2,f_r0,f_r1,f_r2⟩:=S.cf3 0 rfl
   have hz:w.heap.size<w1.heap.size:=S.lt 0 rfl
   replace S:=Lib.hid S
   clear Q
   have S:=(S.out.allocAt (w1.heap.size) #[.bool false,.slice A1 n1 c1] 44 (noL2 _ _ _ _) (by simp))
   replace S:=Lib.hid S
   go_wp2_with fail
   refine (hQ.out _).mono ?_
   rintro e w2 ⟨A2,n2,c2,rfl,Q,bb⟩
   have T:=((S.out.call bb).read Q)
   clear bb S c_r0 f_r0 c_r1 f_r1 c_r2 f_r2 hz
   have S:=T
   clear T
   obtain⟨c_x0,c_x1,f_x0,f_x1⟩:=S.cf2 0 rfl
   obtain⟨c_r0,c_r1,c_r2,f_r0,f_r1,f_r2⟩:=S.cf3 1 rfl
   have hz:w1.heap.size<w2.heap.size:=S.lt 0 rfl
   replace S:=Lib.hid S
   clear Q
   have S:=(S.out.allocAt (w2.heap.size) #[.bool false,.slice A2 n2 c2] 44 (noL2 _ _ _ _) (by simp))
   obtain⟨a_r0,a_r1,a_r2,b_r0,b_r1,b_r2⟩:=S.cf3 2 rfl
   obtain⟨a_x0,a_x1,b_x0,b_x1⟩:=S.cf2 1 rfl
   replace S:=Lib.hid S
   have S:St w _ [(w2.heap.size,#[.bool false,.slice A2 n2 c2],44),(w1.heap.size,#[.bool false,.slice A1 n1 c1],44),(w.heap.size,#[.bool false,.slice none 0 0,.slice none 0 0],46)] [(A2,n2,c2,limbs M),(A1,n1,c1,limbs N)]:=(((S.out.set 2 0 (.bool false) rfl (by nofun)).set 2 1 (.slice none 0 0) rfl (by nofun)).set 2 2 (.slice none 0 0) rfl (by nofun))
   replace S:=Lib.hid S
   go_wp2
   refine bodyPost_ret (res_pfrac _ _ (w.heap.size) 46 rfl rfl (S.out.bk _ (List.mem_of_getElem? (i:=2) rfl)).1) rfl ?_
   exact⟨none,0,0,none,0,0,rfl,zero_RR _ _ _ _ _,S.out.bel⟩
  ·have hE:Hid ((if (true&&true && !(M==0))=true then Rat.divInt (N:Int) (M:Int) else 0)=Rat.divInt (N:Int) (M:Int)):=Lib.hid (by
    by_cases h:M=0
    ·rw[h];simp
    ·simp[h])
   have hF:Hid ((mkE (M:Int)==0)=(true&&true && !(M==0))):=Lib.hid (by
    unfold mkE
    by_cases h:M=0
    ·subst h;rfl
    ·rw[if_neg (by omega)];simp[h])
   rw[hE.out]
   generalize Rat.divInt (N:Int) (M:Int)=q at hM ⊢
   generalize mkE (M:Int)=er at hM hF
   clear hE
   replace hP:=Lib.hid hP
   replace hQ:=Lib.hid hQ
   go_enter Tryz.func128,Tryz.ntmps128
   go_wp2_with fail
   refine (hP.out _).mono ?_
   rintro e w1 ⟨A1,n1,c1,rfl,Q,bb⟩
   have T:=((S.out.call bb).read Q)
   clear bb S
   have S:=T
   clear T
   obtain⟨c_r0,c_r1,c_r2,f_r0,f_r1,f_r2⟩:=S.cf3 0 rfl
   have hz:w.heap.size<w1.heap.size:=S.lt 0 rfl
   replace S:=Lib.hid S
   clear Q
   have S:=(S.out.allocAt (w1.heap.size) #[.bool false,.slice A1 n1 c1] 44 (noL2 _ _ _ _) (by simp))
   replace S:=Lib.hid S
   go_wp2_with fail
   refine (hQ.out _).mono ?_
   rintro e w2 ⟨A2,n2,c2,rfl,Q,bb⟩
   have T:=((S.out.call bb).read Q)
   clear bb S c_r0 f_r0 c_r1 f_r1 c_r2 f_r2 hz
   have S:=T
   clear T
   obtain⟨c_x0,c_x1,f_x0,f_x1⟩:=S.cf2 0 rfl
   obtain⟨c_r0,c_r1,c_r2,f_r0,f_r1,f_r2⟩:=S.cf3 1 rfl
   have hz:w1.heap.size<w2.heap.size:=S.lt 0 rfl
   replace S:=Lib.hid S
   clear Q
   have S:=(S.out.allocAt (w2.heap.size) #[.bool false,.slice A2 n2 c2] 44 (noL2 _ _ _ _) (by simp))
   obtain⟨a_r0,a_r1,a_r2,b_r0,b_r1,b_r2⟩:=S.cf3 2 rfl
   obtain⟨a_x0,a_x1,b_x0,b_x1⟩:=S.cf2 1 rfl
   replace S:=Lib.hid S
   go_wp2_with fail
   refine (hM.out _ _ _ _ _ _ _ (S.out.r 1 rfl) (S.out.r 0 rfl)).mono ?_
   rintro e w3 ⟨A3,n3,c3,D3,m3,d3,rfl,Q,bb⟩
   have T:=(((S.out.call bb).read Q.n).read Q.d)
   clear bb S c_x0 f_x0 c_x1 f_x1 c_r0 f_r0 c_r1 f_r1 c_r2 f_r2 hz a_r0 b_r0 a_r1 b_r1 a_r2 b_r2 a_x0 b_x0 a_x1 b_x1
   have S:=T
   clear T
   obtain⟨c_y0,c_y1,f_y0,f_y1⟩:=S.cf2 0 rfl
   obtain⟨c_x0,c_x1,f_x0,f_x1⟩:=S.cf2 1 rfl
   obtain⟨c_r0,c_r1,c_r2,f_r0,f_r1,f_r2⟩:=S.cf3 2 rfl
   have hz:w2.heap.size<w3.heap.size:=S.lt 0 rfl
   replace S:=Lib.hid S
   clear Q
   have S:St w _ [(w2.heap.size,#[.bool false,.slice A2 n2 c2],44),(w1.heap.size,#[.bool false,.slice A1 n1 c1],44),(w.heap.size,#[.bool (ng q.num),.slice A3 n3 c3,.slice D3 m3 d3],46)] [(D3,m3,d3,dn q),(A3,n3,c3,limbs q.num.natAbs),(A2,n2,c2,limbs M),(A1,n1,c1,limbs N)]:=((((((S.out.set 2 0 (.bool (ng q.num)) rfl (by nofun)).set 2 1 (.slice A3 n3 c3) rfl (by nofun)).set 2 2 (.slice D3 m3 d3) rfl (by nofun)).set 2 0 (.bool (ng q.num)) rfl (by nofun)).set 2 1 (.slice A3 n3 c3) rfl (by nofun)).set 2 2 (.slice D3 m3 d3) rfl (by nofun))
   replace S:=Lib.hid S
   go_wp2
   refine bodyPost_ret (res_pfrac _ _ (w.heap.size) 46 rfl rfl (S.out.bk _ (List.mem_of_getElem? (i:=2) rfl)).1) rfl ?_
   exact⟨_,_,_,_,_,_,by rw[←hF.out];rfl,⟨S.out.r 1 rfl,S.out.r 0 rfl⟩,S.out.bel⟩
end Go.Proofs.YtdeedofmflelfaaGreatDoor

namespace Go.Proofs.YtdeedofmflelfaaGreatDoor
open Go.RowKit
set_option linter.unusedVariables false
/-- What is decoded: an ASCII byte, or a rune of bytes that are none. -/
theorem decode_cases (s:ByteArray) (i:Nat) (hi:i<s.size) :
  ((Utf8.decode s i).1<128∧(Utf8.decode s i).2=1∧∃ x:UInt8,s.data.toList[i]?=some x∧x.toNat=(Utf8.decode s i).1) ∨
  (128≤(Utf8.decode s i).1∧1≤(Utf8.decode s i).2∧i+(Utf8.decode s i).2≤s.size∧∀ j,j<(Utf8.decode s i).2→∀ x,s.data.toList[i+j]?=some x→128≤x.toNat):=by
 have hg:∀ k x,s.data.toList[k]?=some x→s.get! k=x:=by
  intro k x h
  rw[Array.getElem?_toList] at h
  show s.data[k]! = x
  rw[Array.getElem!_eq_getD,Array.getD_eq_getD_getElem?,h]
  rfl
 have h0:s.data.toList[i]?=some s[i]:=by rw[Array.getElem?_toList,Array.getElem?_eq_getElem hi];rfl
 have e0:=hg _ _ h0
 unfold Utf8.decode
 simp only[Nat.add_zero,e0]
 by_cases hb:(s[i]).toNat<128
 ·left;rw[if_pos hb];exact⟨hb,rfl,s[i],h0,rfl⟩
 ·right
  simp only[if_neg hb]
  have one:∀ j,j<1→∀ x,s.data.toList[i+j]?=some x→128≤x.toNat:=by
   intro j hj x hx
   obtain rfl:j=0:=by omega
   rw[Nat.add_zero,h0] at hx
   cases hx
   omega
  have err:128≤(Utf8.runeError,1).1∧1≤(Utf8.runeError,1).2∧i+(Utf8.runeError,1).2≤s.size∧∀ j,j<(Utf8.runeError,1).2→∀ x,s.data.toList[i+j]?=some x→128≤x.toNat:=⟨by decide,by decide,by show i+1≤s.size;omega,one⟩
  have more:∀ k,(i+k<s.size)→(s.get! (i+k)).toNat / 64=2→∀ x,s.data.toList[i+k]?=some x→128≤x.toNat:=by
   intro k hk h2 x hx
   rw[hg _ _ hx] at h2
   omega
  split
  ·rename_i h
   simp only[Bool.and_eq_true,decide_eq_true_eq,beq_iff_eq] at h
   split
   ·rename_i hc
    refine⟨hc,(by decide:1≤2),by show i+2≤s.size;omega,fun j hj x hx=>?_⟩
    have hj:j=0∨j=1:=by have:j<2:=hj;omega
    rcases hj with rfl | rfl
    ·exact one 0 (by decide) x hx
    ·exact more 1 h.2.1 h.2.2 x hx
   ·exact err
  ·split
   ·rename_i h
    simp only[Bool.and_eq_true,decide_eq_true_eq,beq_iff_eq] at h
    split
    ·rename_i hc
     simp only[Bool.and_eq_true,decide_eq_true_eq] at hc
     refine⟨Nat.le_trans (by decide) hc.1,(by decide:1≤3),by show i+3≤s.size;omega,fun j hj x hx=>?_⟩
     have hj:j=0∨j=1∨j=2:=by have:j<3:=hj;omega
     rcases hj with rfl | rfl | rfl
     ·exact one 0 (by decide) x hx
     ·exact more 1 h.1.2.1 h.1.2.2 x hx
     ·exact more 2 h.2.1 h.2.2 x hx
    ·exact err
   ·split
    ·rename_i h
     simp only[Bool.and_eq_true,decide_eq_true_eq,beq_iff_eq] at h
     split
     ·rename_i hc
      simp only[Bool.and_eq_true,decide_eq_true_eq] at hc
      refine⟨Nat.le_trans (by decide) hc.1,(by decide:1≤4),by show i+4≤s.size;omega,fun j hj x hx=>?_⟩
      have hj:j=0∨j=1∨j=2∨j=3:=by have:j<4:=hj;omega
      rcases hj with rfl | rfl | rfl | rfl
      ·exact one 0 (by decide) x hx
      ·exact more 1 h.1.1.2.1 h.1.1.2.2 x hx
      ·exact more 2 h.1.2.1 h.1.2.2 x hx
      ·exact more 3 h.2.1 h.2.2 x hx
     ·exact err
    ·exact err
theorem iterPos_of {w:World} {k i:Nat} {s:ByteArray} (h:w.heap[k]?=some (.stringIter s i)):w.iterPos k=i:=by simp[World.iterPos,h]
/-- The last byte of a rune that is no ASCII byte. -/
theorem encode_last (r:Int) (h:128≤r):∃ n,∃ hl:n<(Utf8.encode r).size,(Utf8.encode r).size=n+1∧1≤n∧n≤3∧128≤((Utf8.encode r)[n]).toNat:=by
 unfold Utf8.encode
 have hc:128≤(if Utf8.valid r=true then r.toNat else Utf8.runeError):=by
  split
  ·omega
  ·decide
 generalize (if Utf8.valid r=true then r.toNat else Utf8.runeError)=c at *
 have hb:∀ x,128≤(UInt8.ofNat (128+x%64)).toNat:=fun x=>by simp;omega
 simp only[if_neg (show ¬ c<128 by omega)]
 split
 ·exact⟨1,(by decide:1<2),rfl,by omega,by omega,hb c⟩
 ·split
  ·exact⟨2,(by decide:2<3),rfl,by omega,by omega,hb c⟩
  ·exact⟨3,(by decide:3<4),rfl,by omega,by omega,hb c⟩
/-- All bytes are ASCII. -/
def AscC (c:ByteArray):Prop:=∀ (i:Nat) (h:i<c.size),(c[i]).toNat<128
theorem AscC.list {c:ByteArray} (h:AscC c) {x:UInt8} (hx:x∈c.data.toList):x.toNat<128:=by
 obtain⟨i,hi⟩:=List.getElem?_of_mem hx
 obtain⟨hl,e⟩:=List.getElem?_eq_some_iff.1 hi
 have hs:i<c.size:=by simpa using hl
 have:=h i hs
 rw[←e]
 exact this
theorem idx_none {c:ByteArray} (h:AscC c) (k:Nat) {x:UInt8} (hx:128≤x.toNat):Lib.indexByte (c.extract k c.size).data.toList x = -1:=by
 have h1:=Lib.contains_iff_indexByte (c.extract k c.size).data.toList x
 have h2:(c.extract k c.size).data.toList.contains x=false:=by
  rw[Bool.eq_false_iff]
  intro hc
  rw[List.contains_iff_mem,Lib.extract_data] at hc
  have:=h.list (List.mem_of_mem_drop (List.mem_of_mem_take hc))
  omega
 rw[h2] at h1
 have:=of_decide_eq_false h1.symm
 have:=Lib.indexByte_ge (c.extract k c.size).data.toList x
 omega
theorem idxFar {c:ByteArray} (hc:AscC c) (k:Nat) (x:UInt8) (W:World) (hx:128≤x.toNat) :
  Calls Tryz.prog 211 #[.string (c.extract k c.size),.int .u8 x.toNat] W fun e w'=>e=.returned (.int .i64 (-1))∧w'=W:=by
 refine (Tryz.strings_IndexByte (c.extract k c.size) x.toNat W).mono fun e w' h=>⟨?_,h.2⟩
 have e1:((x.toNat:Nat):Int).toNat.toUInt8=x:=by simp
 rw[h.1,e1,idx_none hc k hx]
set_option maxRecDepth 100000 in
set_option maxHeartbeats 1000000 in
theorem runeFar (c:ByteArray) (r:Int) (w:World) (hc:AscC c) (hs:c.size≤100) (hr:128≤r) (hne:¬ r=65533) :
  Calls Tryz.prog 188 #[.string c,.int .i32 r] w fun e w'=>e=.returned (.int .i64 (-1))∧∃ q,w'=w.drewN q:=by
 have hV:=Lib.hid (fun W=>Tryz.utf8_ValidRune r W)
 have hL:=Lib.hid (encode_last r hr)
 have hI:=Lib.hid (fun k x W hx=>idxFar hc k x W hx)
 have hcc:=Lib.hid hc
 have g0:(0:Int)≤r:=by omega
 have g1:¬ (r<128):=by omega
 have g2:(r==65533)=false:=by simpa using hne
 clear hc hr hne
 go_enter Tryz.func188,Tryz.ntmps188
 go_wp2_with fail
 refine (hV.out _).mono ?_
 rintro e w' ⟨rfl,hw⟩
 subst hw
 cases hv:Lib.validRune r
 ·go_wp2
  go_ret
  exact⟨rfl,0,rfl⟩
 ·go_wp2
  obtain⟨n,hl,hsz,hn1,hn3,hx⟩:=hL.out
  have hsz':(((Utf8.encode r).size:Nat):Int)=(n:Int)+1:=by omega
  obtain⟨x,hxe⟩:∃ x,(Utf8.encode r)[n]=x:=⟨_,rfl⟩
  rw[hxe] at hx
  have hn1':(1:Int)≤(n:Int):=by omega
  have hn3':(n:Int)≤3:=by omega
  have hsz:=Lib.hid hsz
  have hcs:(c.size:Int)≤100:=by omega
  go_step3
  go_wp2
  go_loopw [9] (fun iv wr=>iv=.int .i64 n∧wr=w') (fun _ _=>0)
  case atStart=>exact⟨rfl,rfl⟩
  case round=>
   obtain⟨rfl,rfl⟩:=hrel
   by_cases hi:n<c.size
   ·have hi':(n:Int)<(c.size:Int):=by omega
    have hcn:=hcc.out n hi
    obtain⟨y,hye⟩:∃ y,c[n]=y:=⟨_,rfl⟩
    rw[hye] at hcn
    have hne:((y.toNat:Int)==(x.toNat:Int))=false:=by simp;omega
    have hne':((y.toNat:Int) != (x.toNat:Int))=true:=by simp;omega
    have hn1c:((n:Int)+1)≤(c.size:Int):=by omega
    have hn0:(0:Int)≤(n:Int)+1:=by omega
    have hnt:((n:Int)+1).toNat=n+1:=by omega
    have hnw:IntKind.i64.wrap ((n:Int)+1)=(n:Int)+1:=IntWalk.i64_in _ (by omega)
    have hIx:=Lib.hid (fun W=>hI.out (n+1) x W hx)
    have hq1:(n:Int)<(n:Int)+1:=by omega
    have hq2:n<n+1:=by omega
    have hq3:n<(Utf8.encode r).size:=hl
    have hq4:decide ((n:Int)<(n:Int)+1)=true:=by simp;omega
    go_wp2
    go_step3
    go_wp2
    go_quiet (fail)
    go_wp2
    go_quiet ((go_at_call 211;exact quiet_add_same (hIx.out _)))
    go_wp2
    rw[Exit.noGoto_ret]
    go_wp2
    rw[Exit.noGoto_ret]
    go_wp2
    go_ret
    exact⟨rfl,_,rfl⟩
   ·have hi':¬ ((n:Int)<(c.size:Int)):=by omega
    go_wp2
    go_ret
    exact⟨rfl,0,rfl⟩
set_option maxRecDepth 100000 in
set_option maxHeartbeats 1000000 in
/-- The rune that stands for what is no rune: the string is gone through. -/
theorem runeErr (c:ByteArray) (w:World) (hc:AscC c) (hs:c.size≤100) :
  Calls Tryz.prog 188 #[.string c,.int .i32 65533] w fun e w'=>e=.returned (.int .i64 (-1))∧Below w.heap.size w w':=by
 replace hc:=Lib.hid hc
 go_enter Tryz.func188,Tryz.ntmps188
 go_wp2
 go_loopw [5,6] (fun _ _ wr=>∃ i:Nat,wr=w.iter c i) (fun _ _ wr=>c.size-wr.iterPos w.heap.size)
 case atStart=>exact⟨0,rfl⟩
 case round=>
  obtain⟨i,rfl⟩:=hrel
  by_cases hi:i<c.size
  ·obtain⟨y,hye⟩:∃ y,c[i]=y:=⟨_,rfl⟩
   have hy:=hc.out i hi
   rw[hye] at hy
   have hnx:=fun ty=>run_next_ascii (P:=Tryz.prog) w c i ty hi (by rw[hye];exact hy)
   rw[hye] at hnx
   have hne:((y.toNat:Int)==65533)=false:=by simp;omega
   clear hye
   go_wp2
   go_roundw
   case rel=>exact⟨i+1,rfl⟩
   case measure=>simp;omega
  ·have hnx:=run_next_end (P:=Tryz.prog) w c i
   go_wp2
   go_ret
   exact⟨rfl,(Below.refl _ _).alloc (Nat.le_refl _) _⟩
/-- IndexRune in a string of ASCII bytes. -/
theorem rune_any (c:ByteArray) (r:Nat) (w:World) (hc:AscC c) (hs:c.size≤100) :
  Calls Tryz.prog 188 #[.string c,.int .i32 r] w fun e w'=>e=.returned (.int .i64 (if r<128 then Lib.indexByte c.data.toList r.toUInt8 else -1))∧Below w.heap.size w w':=by
 by_cases h:r<128
 ·rw[if_pos h]
  refine (Tryz.strings_IndexRune_ascii c r w (by omega) (by omega)).mono fun e w' ⟨h1,h2⟩=>⟨?_,h2 ▸ Below.refl _ _⟩
  rw[h1];simp
 ·rw[if_neg h]
  by_cases he:r=65533
  ·subst he;exact runeErr c w hc hs
  ·exact (runeFar c r w hc hs (by omega) (by omega)).mono fun e w' ⟨h1,q,h2⟩=>⟨h1,h2 ▸ below_drewN (Below.refl _ _) q⟩
set_option maxRecDepth 100000 in
set_option maxHeartbeats 1000000 in
theorem anyShort (s c:ByteArray) (w:World) (hc:AscC c) (h2:2≤c.size) (hs:c.size≤100) (h8:s.size≤8) :
  Calls Tryz.prog 162 #[.string s,.string c] w fun e w'=>e=.returned (.int .i64 (Lib.indexAny s.data.toList c.data.toList))∧Below w.heap.size w w':=by
 have hU:=Lib.hid (fun W=>Tryz.strings_shouldUseASCIISet s.size W)
 have hR:=Lib.hid (fun r W=>rune_any c r W hc hs)
 have hemp:c.toList.isEmpty=false:=by
  rw[Lib.toList_data]
  cases h:c.data.toList with
  | nil=>have:=Lib.size_eq c;rw[h,List.length_nil] at this;omega
  | cons _ _=>rfl
 have hn1:((c.size:Int)==1)=false:=beq_eq_false_iff_ne.2 (by omega)
 have h8z:decide ((8:Int)<(s.size:Int))=false:=decide_eq_false (by omega)
 replace hc:=Lib.hid hc
 have h8h:=Lib.hid h8
 have hse:s.data.toList.length=s.size:=by simp
 replace hse:=Lib.hid hse
 clear h2 hs h8
 go_enter Tryz.func162,Tryz.ntmps162
 go_wp2_with fail
 refine (hU.out _).mono ?_
 rintro e w' ⟨rfl,hw⟩
 subst hw
 rw[h8z]
 go_wp2
 go_loopw [9,10] (fun _ _ wr=>∃ i:Nat,i≤s.size∧wr.heap[w'.heap.size]?=some (.stringIter s i)∧Below w'.heap.size w' wr∧Lib.NoAny s.data.toList c.data.toList i) (fun _ _ wr=>s.size-wr.iterPos w'.heap.size)
 case atStart=>exact⟨0,Nat.zero_le _,World.iter_heap _ _ _,(Below.refl _ _).alloc (Nat.le_refl _) _,Lib.NoAny.zero _ _⟩
 case round=>
  obtain⟨i,his,hit,hB,hno⟩:=hrel
  replace hno:=Lib.hid hno
  replace hB:=Lib.hid hB
  by_cases hi:i<s.size
  ·have hnx:=fun ty=>Lib.run_next_any_at (P:=Tryz.prog) wr w'.heap.size s i ty hit hi
   have hcas:=Lib.hid (decode_cases s i hi)
   have hit2:=Lib.hid (Lib.iterAt_heap wr w'.heap.size s i (i+(Utf8.decode s i).2) hit)
   have hB2:=Lib.hid (Lib.below_iterAt hB.out (Nat.le_refl _) s (i+(Utf8.decode s i).2))
   generalize (Utf8.decode s i).1=r at *
   generalize (Utf8.decode s i).2=k at *
   generalize wr.iterAt w'.heap.size s (i+k)=w1 at *
   replace hit:=Lib.hid hit
   have hih:=Lib.hid hi
   clear his hi
   go_wp2_with fail
   refine (hR.out _ _).mono ?_
   rintro e w2 ⟨rfl,hb⟩
   have hit3:Hid (w2.heap[w'.heap.size]?=some (.stringIter s (i+k))):=Lib.hid ((hb.block _ (Array.getElem?_eq_some_iff.1 hit2.out).1).trans hit2.out)
   have hB3:=Lib.hid (hB2.out.trans (hb.mono hB2.out.size))
   clear hb
   rcases hcas.out with ⟨h1,h2,x,h3,h4⟩ | ⟨h1,h2,h3,h4⟩
   ·have hrx:r.toUInt8=x:=by rw[←h4];simp
    rw[if_pos h1,hrx]
    have hcx:=Lib.hid (Lib.contains_iff_indexByte c.data.toList x)
    subst h2
    replace h3:=Lib.hid h3
    cases hin:c.data.toList.contains x
    ·have hf:¬ ((0:Int)≤Lib.indexByte c.data.toList x):=of_decide_eq_false (by rw[←hcx.out,hin])
     have hno2:=Lib.hid (hno.out.succ h3.out hin)
     generalize Lib.indexByte c.data.toList x=z at *
     clear h4 hrx hin h1 hcas hcx
     go_wp2
     go_roundw
     case rel=>exact⟨i+1,hih.out,hit3.out,hB3.out,hno2.out⟩
     case measure=>rw[iterPos_of hit3.out,iterPos_of hit.out];have:=hih.out;omega
    ·have hf:(0:Int)≤Lib.indexByte c.data.toList x:=of_decide_eq_true (by rw[←hcx.out,hin])
     have hfin:=Lib.hid (Lib.indexAny_hit hno.out h3.out hin)
     generalize Lib.indexByte c.data.toList x=z at *
     clear h4 hrx hin h1 hcas hcx
     go_wp2
     go_ret
     exact⟨by rw[hfin.out];rfl,hB3.out⟩
   ·rw[if_neg (by omega)]
    have hno2:Hid (Lib.NoAny s.data.toList c.data.toList (i+k)):=Lib.hid fun j b hj hb=>by
     rcases Nat.lt_or_ge j i with hl | hl
     ·exact hno.out j b hl hb
     ·have h5:=h4 (j-i) (by omega) b (by rw[Nat.add_sub_cancel' hl];exact hb)
      rw[Bool.eq_false_iff]
      intro hm
      have:=hc.out.list (List.contains_iff_mem.1 hm)
      omega
    replace h3:=Lib.hid h3
    replace h2:=Lib.hid h2
    clear h4 h1 hcas
    go_wp2
    go_roundw
    case rel=>exact⟨i+k,h3.out,hit3.out,hB3.out,hno2.out⟩
    case measure=>rw[iterPos_of hit3.out,iterPos_of hit.out];have:=hih.out;have:=h2.out;omega
  ·have hnx:=fun ty=>Lib.run_next_end_at (P:=Tryz.prog) wr w'.heap.size s i ty hit hi
   obtain rfl:i=s.size:=by omega
   go_wp2
   go_ret
   exact⟨by rw[Lib.indexAny_none (by rw[hse.out];exact hno.out)];rfl,hB.out⟩
theorem indexE_any (s:ByteArray) (w:World) (hs:s.size≤900) :
  Calls Tryz.prog 162 #[.string s,.string ⟨#[101,69]⟩] w fun e w'=>e=.returned (.int .i64 (Lib.indexAny s.data.toList [101,69]))∧Below w.heap.size w w':=by
 have hA:AscC ⟨#[101,69]⟩:=by
  intro i hi
  have h2:i<2:=hi
  match i,h2 with
  | 0,_=>show (101:UInt8).toNat<128;decide
  | 1,_=>show (69:UInt8).toNat<128;decide
 by_cases h8:s.size≤8
 ·exact anyShort s ⟨#[101,69]⟩ w hA (by decide) (by decide) h8
 ·refine (Tryz.strings_IndexAny_long (zero_of_info (show (Tryz.prog.info? 187).map (fun i=>(i.zero,i.size))=some (some (.agg (Array.replicate 256 (.bool false))),256) by kernel_rfl)).1 s ⟨#[101,69]⟩ w (by decide) (by omega) (by omega) (by decide) (fun j b hb=>hA.list (List.mem_of_getElem? hb))).mono fun e w' ⟨h1,h2⟩=>⟨h1,?_⟩
  rw[h2]
  exact ((Below.refl _ _).alloc (Nat.le_refl _) _).alloc (by simp) _
end Go.Proofs.YtdeedofmflelfaaGreatDoor

namespace Go.Proofs.YtdeedofmflelfaaGreatDoor
open Go.RowKit RQ
def isE (c:UInt8):Bool:=[101,69].contains c
def befE (l:List UInt8):List UInt8:=l.takeWhile (fun c=>!isE c)
def aftE (l:List UInt8):List UInt8:=(l.dropWhile (fun c=>!isE c)).drop 1
def hasE (l:List UInt8):Bool:=l.any isE
theorem indexE_no:∀ {l:List UInt8},hasE l=false→Lib.indexAny l [101,69] = -1∧befE l=l
 | [],_=>⟨rfl,rfl⟩
 | b::l,h=>by
  unfold hasE at h
  rw[List.any_cons,Bool.or_eq_false_iff] at h
  obtain⟨i1,i2⟩:=indexE_no (l:=l) h.2
  have hb:List.contains [101,69] b=false:=h.1
  refine⟨by rw[Lib.indexAny,hb,i1];rfl,?_⟩
  unfold befE at i2 ⊢
  rw[List.takeWhile_cons,h.1];simp[i2]
theorem indexE_yes:∀ {l:List UInt8},hasE l=true→Lib.indexAny l [101,69]=((befE l).length:Int)∧∃ c,l=befE l++c::aftE l
 | [],h=>by simp[hasE] at h
 | b::l,h=>by
  unfold hasE at h
  rw[List.any_cons,Bool.or_eq_true] at h
  cases hb:isE b
  ·obtain⟨i1,c,i2⟩:=indexE_yes (l:=l) (by rcases h with h | h;rw[hb] at h;cases h;exact h)
   have hb3:List.contains [101,69] b=false:=hb
   have e1:befE (b::l)=b::befE l:=by simp[befE,hb]
   have e2:aftE (b::l)=aftE l:=by simp[aftE,hb]
   rw[e1,e2]
   refine⟨?_,c,by rw[List.cons_append,←i2]⟩
   rw[Lib.indexAny,hb3,i1]
   have:((befE l).length:Int) ≠ -1:=by omega
   simp[this]
  ·have hb3:List.contains [101,69] b=true:=hb
   refine⟨by rw[Lib.indexAny,hb3];simp[befE,hb],b,by simp[befE,aftE,hb]⟩
/-- The number without a sign and without a slash, and whether it is one. -/
def pM (s:ByteArray):ByteArray:=if hasE s.data.toList=true then bs (befE s.data.toList) else s
def pX (s:ByteArray):ByteArray:=bs (aftE s.data.toList)
def psok (s:ByteArray):Bool:=(!(hasE s.data.toList)||xok (pX s))&&pdok (pM s)
def psx (s:ByteArray):Int:=if hasE s.data.toList=true then xval (pX s) else 0
def psq (s:ByteArray):Rat:=if psok s=true then qscale (pdval (pM s)) (psx s-pdpl (pM s)) else 0
theorem pM_size (s:ByteArray):(pM s).size≤s.size:=by
 unfold pM
 cases h:hasE s.data.toList
 ·rw[if_neg (by simp)];omega
 ·obtain⟨_,c,e⟩:=indexE_yes h
  have:=congrArg List.length e
  rw[List.length_append,List.length_cons,toList_len] at this
  rw[if_pos rfl,bs_size];omega
theorem pX_size (s:ByteArray) (h:hasE s.data.toList=true):(pX s).size≤s.size:=by
 obtain⟨_,c,e⟩:=indexE_yes h
 have:=congrArg List.length e
 rw[List.length_append,List.length_cons,toList_len] at this
 unfold pX;rw[bs_size];omega
theorem res_psc (W:World) (tmps:Array Value) (g t:Nat) {v0 v1 v2 e0:Value} (ht:tmps.getD 2 undef=.pointer (some ⟨g,0,none⟩)) (h0:tmps.getD 3 undef=e0) (h:Cb W g #[v0,v1,v2] t) :
  (results Tryz.f129 tmps).run Tryz.prog W=.ok (.tuple #[.agg #[v0,v1,v2],e0]) W:=by
 have c0:W.cell? ⟨g,0,none⟩=some v0:=h.cell rfl
 have c1:W.cell? ⟨g,1,none⟩=some v1:=h.cell rfl
 have c2:W.cell? ⟨g,2,none⟩=some v2:=h.cell rfl
 have ht':tmps[2]?.getD undef=.pointer (some ⟨g,0,none⟩):=by rw[←ht];simp[Array.getD_eq_getD_getElem?]
 have k0:tmps[3]?.getD undef=e0:=by rw[←h0];simp[Array.getD_eq_getD_getElem?]
 simp[results,Tryz.results129,go_sem,ht',k0,c0,c1,c2]
set_option maxHeartbeats 4000000 in
theorem parseScaled_any (s:ByteArray) (w:World) (hs:s.size≤300):Calls Tryz.prog 129 #[.string s] w (RetRE (psq s) (.bool (psok s)) w):=by
 have hI:=fun W=>indexE_any s W (by omega)
 have hms:=pM_size s
 have hD:=fun W=>parseDecimal_any (pM s) W (by omega)
 have hxb:=xval_bd (pX s)
 have hpl:=pdpl_le (pM s)
 have hvl:=pdval_len (pM s)
 have hS:Hid (∀ p W A n c,Rd W A n c (limbs (pdval (pM s))) → -350≤p→p≤350→Calls Tryz.prog 165 #[.agg #[.bool false,.slice A n c],.int .i64 p] W (RetR (qscale (pdval (pM s)) p) W)):=Lib.hid fun p W A n c q a b=>scale_any (pdval (pM s)) A n c p W q (by rw[←q.len];omega) (by omega) (by omega)
 have hok:psok s=((!(hasE s.data.toList)||xok (pX s))&&pdok (pM s)):=rfl
 have hq:psq s=if psok s=true then qscale (pdval (pM s)) (psx s-pdpl (pM s)) else 0:=rfl
 have hpl2:pdpl (pM s)≤300:=by omega
 unfold RetPD at hD
 have S:=((St.new w).allocAt (w.heap.size) #[.bool false,.slice none 0 0,.slice none 0 0] 46 (noL3 _ _ _ _ _ _ _) (by simp))
 replace S:=Lib.hid S
 cases hE:hasE s.data.toList
 ·rw[(indexE_no hE).1] at hI
  have hM:pM s=s:=by unfold pM;rw[hE];rfl
  have hx0:psx s=0:=by unfold psx;rw[hE];rfl
  rw[hE] at hok
  rw[hx0] at hq
  rw[hM] at hD hS hok hq hpl2
  clear hM hx0 hxb hpl hvl hms hs hE
  generalize psq s=q at hq ⊢
  generalize psok s=k at hok hq ⊢
  generalize pdpl s=P at *
  generalize pdval s=V at *
  generalize pdok s=d at *
  replace hI:=Lib.hid hI
  have p0:(0:Int)≤(P:Int):=by omega
  have p1:(P:Int)≤300:=by omega
  clear hpl2
  cases d
  ·obtain rfl:k=false:=by rw[hok];rfl
   obtain rfl:q=0:=by rw[hq];rfl
   replace hD:=Lib.hid hD
   clear hok hq hS
   go_enter Tryz.func129,Tryz.ntmps129
   go_wp2_with fail
   refine (hI.out _).mono ?_
   rintro e w1 ⟨rfl,bb⟩
   have T:=(S.out.call bb)
   clear bb S
   have S:=T
   clear T
   obtain⟨c_r0,c_r1,c_r2,f_r0,f_r1,f_r2⟩:=S.cf3 0 rfl
   have hz:w.heap.size<w1.heap.size:=S.lt 0 rfl
   replace S:=Lib.hid S
   go_wp2_with fail
   refine (hD.out _).mono ?_
   rintro e w2 ⟨A1,n1,c1,rfl,Q,bb⟩
   have T:=((S.out.call bb).read Q)
   clear bb S c_r0 f_r0 c_r1 f_r1 c_r2 f_r2 hz
   have S:=T
   clear T
   obtain⟨c_r0,c_r1,c_r2,f_r0,f_r1,f_r2⟩:=S.cf3 0 rfl
   have hz:w.heap.size<w2.heap.size:=S.lt 0 rfl
   replace S:=Lib.hid S
   clear Q
   have SA:=(S.out.allocAt (w2.heap.size) #[.bool false,.slice A1 n1 c1] 44 (noL2 _ _ _ _) (by simp))
   obtain⟨a_r0,a_r1,a_r2,b_r0,b_r1,b_r2⟩:=SA.cf3 1 rfl
   clear SA
   have S:St w _ [(w2.heap.size,#[.bool false,.slice A1 n1 c1],44),(w.heap.size,#[.bool false,.slice none 0 0,.slice none 0 0],46)] [(A1,n1,c1,limbs V)]:=((((S.out.set 0 0 (.bool false) rfl (by nofun)).set 0 1 (.slice none 0 0) rfl (by nofun)).set 0 2 (.slice none 0 0) rfl (by nofun)).allocAt (w2.heap.size) #[.bool false,.slice A1 n1 c1] 44 (noL2 _ _ _ _) (by simp))
   replace S:=Lib.hid S
   go_wp2
   refine bodyPost_ret (res_psc _ _ (w.heap.size) 46 rfl rfl (S.out.bk _ (List.mem_of_getElem? (i:=1) rfl)).1) rfl ?_
   exact⟨none,0,0,none,0,0,rfl,zero_RR _ _ _ _ _,S.out.bel⟩
  ·obtain rfl:k=true:=by rw[hok];rfl
   obtain rfl:q=qscale V (0-(P:Int)):=by rw[hq];rfl
   have hS1:=Lib.hid (fun W A n c q=>hS.out (0-(P:Int)) W A n c q (by omega) (by omega))
   rw[Int.zero_sub] at hS1 ⊢
   generalize qscale V (-(P:Int))=q at hS1 ⊢
   replace hD:=Lib.hid hD
   clear hok hq hS
   go_enter Tryz.func129,Tryz.ntmps129
   go_wp2_with fail
   refine (hI.out _).mono ?_
   rintro e w1 ⟨rfl,bb⟩
   have T:=(S.out.call bb)
   clear bb S
   have S:=T
   clear T
   obtain⟨c_r0,c_r1,c_r2,f_r0,f_r1,f_r2⟩:=S.cf3 0 rfl
   have hz:w.heap.size<w1.heap.size:=S.lt 0 rfl
   replace S:=Lib.hid S
   go_wp2_with fail
   refine (hD.out _).mono ?_
   rintro e w2 ⟨A1,n1,c1,rfl,Q,bb⟩
   have T:=((S.out.call bb).read Q)
   clear bb S c_r0 f_r0 c_r1 f_r1 c_r2 f_r2 hz
   have S:=T
   clear T
   obtain⟨c_r0,c_r1,c_r2,f_r0,f_r1,f_r2⟩:=S.cf3 0 rfl
   have hz:w.heap.size<w2.heap.size:=S.lt 0 rfl
   replace S:=Lib.hid S
   clear Q
   have S:=(S.out.allocAt (w2.heap.size) #[.bool false,.slice A1 n1 c1] 44 (noL2 _ _ _ _) (by simp))
   obtain⟨a_r0,a_r1,a_r2,b_r0,b_r1,b_r2⟩:=S.cf3 1 rfl
   replace S:=Lib.hid S
   go_wp2_with fail
   refine (hS1.out _ _ _ _ (S.out.r 0 rfl)).mono ?_
   rintro e w3 ⟨A3,n3,c3,D3,m3,d3,rfl,Q,bb⟩
   have T:=(((S.out.call bb).read Q.n).read Q.d)
   clear bb S c_r0 f_r0 c_r1 f_r1 c_r2 f_r2 hz a_r0 b_r0 a_r1 b_r1 a_r2 b_r2
   have S:=T
   clear T
   obtain⟨c_x0,c_x1,f_x0,f_x1⟩:=S.cf2 0 rfl
   obtain⟨c_r0,c_r1,c_r2,f_r0,f_r1,f_r2⟩:=S.cf3 1 rfl
   have hz:w2.heap.size<w3.heap.size:=S.lt 0 rfl
   replace S:=Lib.hid S
   clear Q
   have S:St w _ [(w2.heap.size,#[.bool false,.slice A1 n1 c1],44),(w.heap.size,#[.bool (ng q.num),.slice A3 n3 c3,.slice D3 m3 d3],46)] [(D3,m3,d3,dn q),(A3,n3,c3,limbs q.num.natAbs),(A1,n1,c1,limbs V)]:=(((S.out.set 1 0 (.bool (ng q.num)) rfl (by nofun)).set 1 1 (.slice A3 n3 c3) rfl (by nofun)).set 1 2 (.slice D3 m3 d3) rfl (by nofun))
   replace S:=Lib.hid S
   go_wp2
   refine bodyPost_ret (res_psc _ _ (w.heap.size) 46 rfl rfl (S.out.bk _ (List.mem_of_getElem? (i:=1) rfl)).1) rfl ?_
   exact⟨_,_,_,_,_,_,rfl,⟨S.out.r 1 rfl,S.out.r 0 rfl⟩,S.out.bel⟩
 ·obtain⟨i1,c,i2⟩:=indexE_yes hE
  rw[i1] at hI
  have hXs:=pX_size s hE
  have hX:=fun W=>parseExponent_any (pX s) W (by omega)
  have hM:pM s=bs (befE s.data.toList):=by unfold pM;rw[hE];rfl
  have hx0:psx s=xval (pX s):=by unfold psx;rw[hE];rfl
  have e1:=extract_bef (befE s.data.toList) (c::aftE s.data.toList)
  have e2:=extract_aft1 (befE s.data.toList) (aftE s.data.toList) c
  rw[←i2,bs_of,←hM] at e1
  rw[←i2,bs_of] at e2
  change s.extract ((befE s.data.toList).length+1) s.size=pX s at e2
  have hsz:s.size=(befE s.data.toList).length+1+(aftE s.data.toList).length:=by
   have:=congrArg List.length i2
   rw[List.length_append,List.length_cons,toList_len] at this
   omega
  obtain⟨i,hil⟩:∃ i,(befE s.data.toList).length=i:=⟨_,rfl⟩
  rw[hil] at hI e1 e2 hsz
  rw[hE] at hok
  rw[hx0] at hq
  generalize psq s=q at hq ⊢
  generalize psok s=k at hok hq ⊢
  generalize pM s=m at *
  generalize pX s=X at *
  generalize xval X=x at *
  generalize xok X=y at *
  generalize pdpl m=P at *
  generalize pdval m=V at *
  generalize pdok m=d at *
  have g1:(0:Int)≤(i:Int):=by omega
  have g2:(i:Int)≤(s.size:Int):=by omega
  have g3:(i:Int)+1≤(s.size:Int):=by omega
  have g4:(0:Int)≤(i:Int)+1:=by omega
  have g7:(i:Int)≤300:=by omega
  have g6:((i:Int)+1).toNat=i+1:=by omega
  have g5:=Lib.hid (IntWalk.i64_in ((i:Int)+1) (by omega))
  have p0:(0:Int)≤(P:Int):=by omega
  have p1:(P:Int)≤300:=by omega
  obtain⟨x0,x1⟩:=hxb
  clear hM hx0 hpl hvl hms hs hE i1 i2 hXs hil hsz hpl2
  replace hI:=Lib.hid hI
  replace hD:=Lib.hid hD
  replace hX:=Lib.hid hX
  cases y
  ·obtain rfl:k=false:=by rw[hok];rfl
   obtain rfl:q=0:=by rw[hq];rfl
   clear hok hq hS hD
   go_enter Tryz.func129,Tryz.ntmps129
   go_wp2_with fail
   refine (hI.out _).mono ?_
   rintro e w1 ⟨rfl,bb⟩
   have T:=(S.out.call bb)
   clear bb S
   have S:=T
   clear T
   obtain⟨c_r0,c_r1,c_r2,f_r0,f_r1,f_r2⟩:=S.cf3 0 rfl
   have hz:w.heap.size<w1.heap.size:=S.lt 0 rfl
   replace S:=Lib.hid S
   go_wp2_with fail
   refine (hX.out _).mono ?_
   rintro e w2 ⟨rfl,bb⟩
   have T:=(S.out.call bb)
   clear bb S c_r0 f_r0 c_r1 f_r1 c_r2 f_r2 hz
   have S:=T
   clear T
   obtain⟨c_r0,c_r1,c_r2,f_r0,f_r1,f_r2⟩:=S.cf3 0 rfl
   have hz:w.heap.size<w2.heap.size:=S.lt 0 rfl
   replace S:=Lib.hid S
   have S:St w _ [(w.heap.size,#[.bool false,.slice none 0 0,.slice none 0 0],46)] []:=(((S.out.set 0 0 (.bool false) rfl (by nofun)).set 0 1 (.slice none 0 0) rfl (by nofun)).set 0 2 (.slice none 0 0) rfl (by nofun))
   replace S:=Lib.hid S
   go_wp2
   refine bodyPost_ret (res_psc _ _ (w.heap.size) 46 rfl rfl (S.out.bk _ (List.mem_of_getElem? (i:=0) rfl)).1) rfl ?_
   exact⟨none,0,0,none,0,0,rfl,zero_RR _ _ _ _ _,S.out.bel⟩
  ·cases d
   ·obtain rfl:k=false:=by rw[hok];rfl
    obtain rfl:q=0:=by rw[hq];rfl
    clear hok hq hS
    go_enter Tryz.func129,Tryz.ntmps129
    go_wp2_with fail
    refine (hI.out _).mono ?_
    rintro e w1 ⟨rfl,bb⟩
    have T:=(S.out.call bb)
    clear bb S
    have S:=T
    clear T
    obtain⟨c_r0,c_r1,c_r2,f_r0,f_r1,f_r2⟩:=S.cf3 0 rfl
    have hz:w.heap.size<w1.heap.size:=S.lt 0 rfl
    replace S:=Lib.hid S
    go_wp2_with fail
    refine (hX.out _).mono ?_
    rintro e w2 ⟨rfl,bb⟩
    have T:=(S.out.call bb)
    clear bb S c_r0 f_r0 c_r1 f_r1 c_r2 f_r2 hz
    have S:=T
    clear T
    obtain⟨c_r0,c_r1,c_r2,f_r0,f_r1,f_r2⟩:=S.cf3 0 rfl
    have hz:w.heap.size<w2.heap.size:=S.lt 0 rfl
    replace S:=Lib.hid S
    go_wp2_with fail
    refine (hD.out _).mono ?_
    rintro e w3 ⟨A1,n1,c1,rfl,Q,bb⟩
    have T:=((S.out.call bb).read Q)
    clear bb S c_r0 f_r0 c_r1 f_r1 c_r2 f_r2 hz
    have S:=T
    clear T
    obtain⟨c_r0,c_r1,c_r2,f_r0,f_r1,f_r2⟩:=S.cf3 0 rfl
    have hz:w.heap.size<w3.heap.size:=S.lt 0 rfl
    replace S:=Lib.hid S
    clear Q
    have SA:=(S.out.allocAt (w3.heap.size) #[.bool false,.slice A1 n1 c1] 44 (noL2 _ _ _ _) (by simp))
    obtain⟨a_r0,a_r1,a_r2,b_r0,b_r1,b_r2⟩:=SA.cf3 1 rfl
    clear SA
    have S:St w _ [(w3.heap.size,#[.bool false,.slice A1 n1 c1],44),(w.heap.size,#[.bool false,.slice none 0 0,.slice none 0 0],46)] [(A1,n1,c1,limbs V)]:=((((S.out.set 0 0 (.bool false) rfl (by nofun)).set 0 1 (.slice none 0 0) rfl (by nofun)).set 0 2 (.slice none 0 0) rfl (by nofun)).allocAt (w3.heap.size) #[.bool false,.slice A1 n1 c1] 44 (noL2 _ _ _ _) (by simp))
    replace S:=Lib.hid S
    go_wp2
    refine bodyPost_ret (res_psc _ _ (w.heap.size) 46 rfl rfl (S.out.bk _ (List.mem_of_getElem? (i:=1) rfl)).1) rfl ?_
    exact⟨none,0,0,none,0,0,rfl,zero_RR _ _ _ _ _,S.out.bel⟩
   ·obtain rfl:k=true:=by rw[hok];rfl
    obtain rfl:q=qscale V (x-(P:Int)):=by rw[hq];rfl
    have hS1:=Lib.hid (fun W A n c q=>hS.out (x-(P:Int)) W A n c q (by omega) (by omega))
    generalize qscale V (x-(P:Int))=q at hS1 ⊢
    clear hok hq hS
    go_enter Tryz.func129,Tryz.ntmps129
    go_wp2_with fail
    refine (hI.out _).mono ?_
    rintro e w1 ⟨rfl,bb⟩
    have T:=(S.out.call bb)
    clear bb S
    have S:=T
    clear T
    obtain⟨c_r0,c_r1,c_r2,f_r0,f_r1,f_r2⟩:=S.cf3 0 rfl
    have hz:w.heap.size<w1.heap.size:=S.lt 0 rfl
    replace S:=Lib.hid S
    go_wp2_with fail
    refine (hX.out _).mono ?_
    rintro e w2 ⟨rfl,bb⟩
    have T:=(S.out.call bb)
    clear bb S c_r0 f_r0 c_r1 f_r1 c_r2 f_r2 hz
    have S:=T
    clear T
    obtain⟨c_r0,c_r1,c_r2,f_r0,f_r1,f_r2⟩:=S.cf3 0 rfl
    have hz:w.heap.size<w2.heap.size:=S.lt 0 rfl
    replace S:=Lib.hid S
    go_wp2_with fail
    refine (hD.out _).mono ?_
    rintro e w3 ⟨A1,n1,c1,rfl,Q,bb⟩
    have T:=((S.out.call bb).read Q)
    clear bb S c_r0 f_r0 c_r1 f_r1 c_r2 f_r2 hz
    have S:=T
    clear T
    obtain⟨c_r0,c_r1,c_r2,f_r0,f_r1,f_r2⟩:=S.cf3 0 rfl
    have hz:w.heap.size<w3.heap.size:=S.lt 0 rfl
    replace S:=Lib.hid S
    clear Q
    have S:=(S.out.allocAt (w3.heap.size) #[.bool false,.slice A1 n1 c1] 44 (noL2 _ _ _ _) (by simp))
    obtain⟨a_r0,a_r1,a_r2,b_r0,b_r1,b_r2⟩:=S.cf3 1 rfl
    replace S:=Lib.hid S
    go_wp2_with fail
    refine (hS1.out _ _ _ _ (S.out.r 0 rfl)).mono ?_
    rintro e w4 ⟨A3,n3,c3,D3,m3,d3,rfl,Q,bb⟩
    have T:=(((S.out.call bb).read Q.n).read Q.d)
    clear bb S c_r0 f_r0 c_r1 f_r1 c_r2 f_r2 hz a_r0 b_r0 a_r1 b_r1 a_r2 b_r2
    have S:=T
    clear T
    obtain⟨c_x0,c_x1,f_x0,f_x1⟩:=S.cf2 0 rfl
    obtain⟨c_r0,c_r1,c_r2,f_r0,f_r1,f_r2⟩:=S.cf3 1 rfl
    have hz:w3.heap.size<w4.heap.size:=S.lt 0 rfl
    replace S:=Lib.hid S
    clear Q
    have S:St w _ [(w3.heap.size,#[.bool false,.slice A1 n1 c1],44),(w.heap.size,#[.bool (ng q.num),.slice A3 n3 c3,.slice D3 m3 d3],46)] [(D3,m3,d3,dn q),(A3,n3,c3,limbs q.num.natAbs),(A1,n1,c1,limbs V)]:=(((S.out.set 1 0 (.bool (ng q.num)) rfl (by nofun)).set 1 1 (.slice A3 n3 c3) rfl (by nofun)).set 1 2 (.slice D3 m3 d3) rfl (by nofun))
    replace S:=Lib.hid S
    go_wp2
    refine bodyPost_ret (res_psc _ _ (w.heap.size) 46 rfl rfl (S.out.bk _ (List.mem_of_getElem? (i:=1) rfl)).1) rfl ?_
    exact⟨_,_,_,_,_,_,rfl,⟨S.out.r 1 rfl,S.out.r 0 rfl⟩,S.out.bel⟩
theorem res_parseR (W:World) (tmps:Array Value) (g t:Nat) {v0 v1 v2 e0:Value} (ht:tmps.getD 2 undef=.pointer (some ⟨g,0,none⟩)) (h0:tmps.getD 3 undef=e0) (h:Cb W g #[v0,v1,v2] t) :
  (results Tryz.f89 tmps).run Tryz.prog W=.ok (.tuple #[.agg #[v0,v1,v2],e0]) W:=by
 have c0:W.cell? ⟨g,0,none⟩=some v0:=h.cell rfl
 have c1:W.cell? ⟨g,1,none⟩=some v1:=h.cell rfl
 have c2:W.cell? ⟨g,2,none⟩=some v2:=h.cell rfl
 have ht':tmps[2]?.getD undef=.pointer (some ⟨g,0,none⟩):=by rw[←ht];simp[Array.getD_eq_getD_getElem?]
 have k0:tmps[3]?.getD undef=e0:=by rw[←h0];simp[Array.getD_eq_getD_getElem?]
 simp[results,Tryz.results89,go_sem,ht',k0,c0,c1,c2]
theorem rest_size (s:ByteArray):(rest s).size≤s.size:=by
 unfold rest Lib.trimPrefix
 split
 ·show (s.data.toList.drop 1).length≤_;rw[List.length_drop,toList_len];omega
 ·show s.data.toList.length≤_;rw[toList_len];omega
/-- What Parse reads behind the minus sign. -/
def p1ok (s:ByteArray):Bool:=if hasB 47 s.data.toList=true then fok (bs (bef 47 s.data.toList)) (bs (aft 47 s.data.toList)) else psok s
def p1q (s:ByteArray):Rat:=if hasB 47 s.data.toList=true then fq (bs (bef 47 s.data.toList)) (bs (aft 47 s.data.toList)) else psq s
/-- What Parse reads. -/
def pQ (s:ByteArray):Rat:=if hm s=true then -(p1q (rest s)) else p1q (rest s)
def pOk (s:ByteArray):Bool:=p1ok (rest s)
theorem bef_size (c:UInt8) (s:ByteArray) (h:hasB c s.data.toList=true):(bs (bef c s.data.toList)).size≤s.size∧(bs (aft c s.data.toList)).size≤s.size:=by
 have:=congrArg List.length (index_yes h).2
 rw[List.length_append,List.length_cons,toList_len] at this
 rw[bs_size,bs_size];omega
theorem Neg_lens {q:Rat} {w:World} {A:Option Addr} {n c:Nat} (h:Rd w A n c (limbs q.num.natAbs)) (hq:Rs q 600):n≤600:=by rw[←h.len];exact limbs_len_le.2 hq.n
set_option maxHeartbeats 4000000 in
theorem parseR_any (s:ByteArray) (w:World) (hs:s.size≤300) (hl:Rs (p1q (rest s)) 600):Calls Tryz.prog 89 #[.string s] w (RetRE (pQ s) (.bool (pOk s)) w):=by
 have hC:∀ W,Calls Tryz.prog 126 #[.string s,.string ⟨#[45]⟩] W fun e w'=>e=.returned (.tuple #[.string (rest s),.bool (hm s)])∧w'=W:=fun W=>Tryz.strings_CutPrefix s ⟨#[45]⟩ W
 have hrs:=rest_size s
 unfold pQ pOk
 generalize rest s=T at *
 have hl2:Hid (∀ W A n c,Rd W A n c (limbs (p1q T).num.natAbs)→Calls Tryz.prog 130 #[.agg #[.bool (ng (p1q T).num),.slice A n c]] W (RetI (-(p1q T)).num W)):=Lib.hid fun W A n c q=>by
  have:=negI_any (ng (p1q T).num) A n c _ W q (by have:=Neg_lens q hl;omega)
  rwa [iv_z] at this
 generalize hm s=g at hC ⊢
 replace hC:=Lib.hid hC
 have S:=((St.new w).allocAt (w.heap.size) #[.bool false,.slice none 0 0,.slice none 0 0] 46 (noL3 _ _ _ _ _ _ _) (by simp))
 replace S:=Lib.hid S
 cases hh:hasB 47 T.data.toList
 ·have hK:=Lib.hid (fun W=>cut_no T 47 W hh)
  have e1:p1ok T=psok T:=by unfold p1ok;rw[hh];rfl
  have e2:p1q T=psq T:=by unfold p1q;rw[hh];rfl
  have hP:=Lib.hid (fun W=>parseScaled_any T W (by omega))
  rw[e2] at hl2 ⊢
  rw[e1]
  unfold RetRE at hP
  generalize psq T=q at *
  generalize psok T=d at *
  clear e1 e2 hh hs hl hrs
  cases g
  ·have hx:True:=trivial
   go_enter Tryz.func89,Tryz.ntmps89
   go_wp2_with fail
   refine (hC.out _).mono ?_
   rintro e _ ⟨rfl,rfl⟩
   go_wp2_with fail
   refine (hK.out _).mono ?_
   rintro e w1 ⟨rfl,bb⟩
   have T:=(S.out.call bb)
   clear bb S
   have S:=T
   clear T
   obtain⟨c_r0,c_r1,c_r2,f_r0,f_r1,f_r2⟩:=S.cf3 0 rfl
   have hz:w.heap.size<w1.heap.size:=S.lt 0 rfl
   replace S:=Lib.hid S
   go_wp2_with fail
   refine (hP.out _).mono ?_
   rintro e w2 ⟨A1,n1,c1,D1,m1,d1,rfl,Q,bb⟩
   have T:=(((S.out.call bb).read Q.n).read Q.d)
   clear bb S c_r0 f_r0 c_r1 f_r1 c_r2 f_r2 hz
   have S:=T
   clear T
   obtain⟨c_r0,c_r1,c_r2,f_r0,f_r1,f_r2⟩:=S.cf3 0 rfl
   have hz:w.heap.size<w2.heap.size:=S.lt 0 rfl
   replace S:=Lib.hid S
   clear Q
   have S:St w _ [(w.heap.size,#[.bool (ng q.num),.slice A1 n1 c1,.slice D1 m1 d1],46)] [(D1,m1,d1,dn q),(A1,n1,c1,limbs q.num.natAbs)]:=((((((S.out.set 0 0 (.bool (ng q.num)) rfl (by nofun)).set 0 1 (.slice A1 n1 c1) rfl (by nofun)).set 0 2 (.slice D1 m1 d1) rfl (by nofun)).set 0 0 (.bool (ng q.num)) rfl (by nofun)).set 0 1 (.slice A1 n1 c1) rfl (by nofun)).set 0 2 (.slice D1 m1 d1) rfl (by nofun))
   replace S:=Lib.hid S
   go_wp2
   refine bodyPost_ret (res_parseR _ _ (w.heap.size) 46 rfl rfl (S.out.bk _ (List.mem_of_getElem? (i:=0) rfl)).1) rfl ?_
   exact⟨_,_,_,_,_,_,rfl,⟨S.out.r 1 rfl,S.out.r 0 rfl⟩,S.out.bel⟩
  ·have hx:True:=trivial
   go_enter Tryz.func89,Tryz.ntmps89
   go_wp2_with fail
   refine (hC.out _).mono ?_
   rintro e _ ⟨rfl,rfl⟩
   go_wp2_with fail
   refine (hK.out _).mono ?_
   rintro e w1 ⟨rfl,bb⟩
   have T:=(S.out.call bb)
   clear bb S
   have S:=T
   clear T
   obtain⟨c_r0,c_r1,c_r2,f_r0,f_r1,f_r2⟩:=S.cf3 0 rfl
   have hz:w.heap.size<w1.heap.size:=S.lt 0 rfl
   replace S:=Lib.hid S
   go_wp2_with fail
   refine (hP.out _).mono ?_
   rintro e w2 ⟨A1,n1,c1,D1,m1,d1,rfl,Q,bb⟩
   have T:=(((S.out.call bb).read Q.n).read Q.d)
   clear bb S c_r0 f_r0 c_r1 f_r1 c_r2 f_r2 hz
   have S:=T
   clear T
   obtain⟨c_r0,c_r1,c_r2,f_r0,f_r1,f_r2⟩:=S.cf3 0 rfl
   have hz:w.heap.size<w2.heap.size:=S.lt 0 rfl
   replace S:=Lib.hid S
   clear Q
   have S:St w _ [(w.heap.size,#[.bool (ng q.num),.slice A1 n1 c1,.slice D1 m1 d1],46)] [(D1,m1,d1,dn q),(A1,n1,c1,limbs q.num.natAbs)]:=(((S.out.set 0 0 (.bool (ng q.num)) rfl (by nofun)).set 0 1 (.slice A1 n1 c1) rfl (by nofun)).set 0 2 (.slice D1 m1 d1) rfl (by nofun))
   obtain⟨a_r0,a_r1,a_r2,b_r0,b_r1,b_r2⟩:=S.cf3 0 rfl
   replace S:=Lib.hid S
   go_wp2_with fail
   refine (hl2.out _ _ _ _ (S.out.r 1 rfl)).mono ?_
   rintro e w3 ⟨A2,n2,c2,rfl,Q,bb⟩
   have T:=((S.out.call bb).read Q)
   clear bb S c_r0 f_r0 c_r1 f_r1 c_r2 f_r2 hz a_r0 b_r0 a_r1 b_r1 a_r2 b_r2
   have S:=T
   clear T
   obtain⟨c_r0,c_r1,c_r2,f_r0,f_r1,f_r2⟩:=S.cf3 0 rfl
   have hz:w.heap.size<w3.heap.size:=S.lt 0 rfl
   replace S:=Lib.hid S
   clear Q
   have S:St w _ [(w.heap.size,#[.bool (ng (-q).num),.slice A2 n2 c2,.slice D1 m1 d1],46)] [(A2,n2,c2,limbs (-q).num.natAbs),(D1,m1,d1,dn q),(A1,n1,c1,limbs q.num.natAbs)]:=(((((S.out.set 0 0 (.bool (ng (-q).num)) rfl (by nofun)).set 0 1 (.slice A2 n2 c2) rfl (by nofun)).set 0 0 (.bool (ng (-q).num)) rfl (by nofun)).set 0 1 (.slice A2 n2 c2) rfl (by nofun)).set 0 2 (.slice D1 m1 d1) rfl (by nofun))
   replace S:=Lib.hid S
   go_wp2
   refine bodyPost_ret (res_parseR _ _ (w.heap.size) 46 rfl rfl (S.out.bk _ (List.mem_of_getElem? (i:=0) rfl)).1) rfl ?_
   exact⟨_,_,_,_,_,_,rfl,⟨S.out.r 0 rfl,S.out.r 1 rfl⟩,S.out.bel⟩
 ·have hK:=Lib.hid (fun W=>cut_yes T 47 W hh (by omega))
  have e1:p1ok T=fok (bs (bef 47 T.data.toList)) (bs (aft 47 T.data.toList)):=by unfold p1ok;rw[hh];rfl
  have e2:p1q T=fq (bs (bef 47 T.data.toList)) (bs (aft 47 T.data.toList)):=by unfold p1q;rw[hh];rfl
  obtain⟨b1,b2⟩:=bef_size 47 T hh
  have hP:=Lib.hid (fun W=>parseFraction_any (bs (bef 47 T.data.toList)) (bs (aft 47 T.data.toList)) W (by omega) (by omega))
  rw[e2] at hl2 ⊢
  rw[e1]
  unfold RetRE at hP
  generalize bs (bef 47 T.data.toList)=s1 at *
  generalize bs (aft 47 T.data.toList)=s2 at *
  generalize fq s1 s2=q at *
  generalize fok s1 s2=d at *
  clear e1 e2 hh hs hl hrs b1 b2
  cases g
  ·have hx:True:=trivial
   go_enter Tryz.func89,Tryz.ntmps89
   go_wp2_with fail
   refine (hC.out _).mono ?_
   rintro e _ ⟨rfl,rfl⟩
   go_wp2_with fail
   refine (hK.out _).mono ?_
   rintro e w1 ⟨rfl,bb⟩
   have T:=(S.out.call bb)
   clear bb S
   have S:=T
   clear T
   obtain⟨c_r0,c_r1,c_r2,f_r0,f_r1,f_r2⟩:=S.cf3 0 rfl
   have hz:w.heap.size<w1.heap.size:=S.lt 0 rfl
   replace S:=Lib.hid S
   go_wp2_with fail
   refine (hP.out _).mono ?_
   rintro e w2 ⟨A1,n1,c1,D1,m1,d1,rfl,Q,bb⟩
   have T:=(((S.out.call bb).read Q.n).read Q.d)
   clear bb S c_r0 f_r0 c_r1 f_r1 c_r2 f_r2 hz
   have S:=T
   clear T
   obtain⟨c_r0,c_r1,c_r2,f_r0,f_r1,f_r2⟩:=S.cf3 0 rfl
   have hz:w.heap.size<w2.heap.size:=S.lt 0 rfl
   replace S:=Lib.hid S
   clear Q
   have S:St w _ [(w.heap.size,#[.bool (ng q.num),.slice A1 n1 c1,.slice D1 m1 d1],46)] [(D1,m1,d1,dn q),(A1,n1,c1,limbs q.num.natAbs)]:=((((((S.out.set 0 0 (.bool (ng q.num)) rfl (by nofun)).set 0 1 (.slice A1 n1 c1) rfl (by nofun)).set 0 2 (.slice D1 m1 d1) rfl (by nofun)).set 0 0 (.bool (ng q.num)) rfl (by nofun)).set 0 1 (.slice A1 n1 c1) rfl (by nofun)).set 0 2 (.slice D1 m1 d1) rfl (by nofun))
   replace S:=Lib.hid S
   go_wp2
   refine bodyPost_ret (res_parseR _ _ (w.heap.size) 46 rfl rfl (S.out.bk _ (List.mem_of_getElem? (i:=0) rfl)).1) rfl ?_
   exact⟨_,_,_,_,_,_,rfl,⟨S.out.r 1 rfl,S.out.r 0 rfl⟩,S.out.bel⟩
  ·have hx:True:=trivial
   go_enter Tryz.func89,Tryz.ntmps89
   go_wp2_with fail
   refine (hC.out _).mono ?_
   rintro e _ ⟨rfl,rfl⟩
   go_wp2_with fail
   refine (hK.out _).mono ?_
   rintro e w1 ⟨rfl,bb⟩
   have T:=(S.out.call bb)
   clear bb S
   have S:=T
   clear T
   obtain⟨c_r0,c_r1,c_r2,f_r0,f_r1,f_r2⟩:=S.cf3 0 rfl
   have hz:w.heap.size<w1.heap.size:=S.lt 0 rfl
   replace S:=Lib.hid S
   go_wp2_with fail
   refine (hP.out _).mono ?_
   rintro e w2 ⟨A1,n1,c1,D1,m1,d1,rfl,Q,bb⟩
   have T:=(((S.out.call bb).read Q.n).read Q.d)
   clear bb S c_r0 f_r0 c_r1 f_r1 c_r2 f_r2 hz
   have S:=T
   clear T
   obtain⟨c_r0,c_r1,c_r2,f_r0,f_r1,f_r2⟩:=S.cf3 0 rfl
   have hz:w.heap.size<w2.heap.size:=S.lt 0 rfl
   replace S:=Lib.hid S
   clear Q
   have S:St w _ [(w.heap.size,#[.bool (ng q.num),.slice A1 n1 c1,.slice D1 m1 d1],46)] [(D1,m1,d1,dn q),(A1,n1,c1,limbs q.num.natAbs)]:=(((S.out.set 0 0 (.bool (ng q.num)) rfl (by nofun)).set 0 1 (.slice A1 n1 c1) rfl (by nofun)).set 0 2 (.slice D1 m1 d1) rfl (by nofun))
   obtain⟨a_r0,a_r1,a_r2,b_r0,b_r1,b_r2⟩:=S.cf3 0 rfl
   replace S:=Lib.hid S
   go_wp2_with fail
   refine (hl2.out _ _ _ _ (S.out.r 1 rfl)).mono ?_
   rintro e w3 ⟨A2,n2,c2,rfl,Q,bb⟩
   have T:=((S.out.call bb).read Q)
   clear bb S c_r0 f_r0 c_r1 f_r1 c_r2 f_r2 hz a_r0 b_r0 a_r1 b_r1 a_r2 b_r2
   have S:=T
   clear T
   obtain⟨c_r0,c_r1,c_r2,f_r0,f_r1,f_r2⟩:=S.cf3 0 rfl
   have hz:w.heap.size<w3.heap.size:=S.lt 0 rfl
   replace S:=Lib.hid S
   clear Q
   have S:St w _ [(w.heap.size,#[.bool (ng (-q).num),.slice A2 n2 c2,.slice D1 m1 d1],46)] [(A2,n2,c2,limbs (-q).num.natAbs),(D1,m1,d1,dn q),(A1,n1,c1,limbs q.num.natAbs)]:=(((((S.out.set 0 0 (.bool (ng (-q).num)) rfl (by nofun)).set 0 1 (.slice A2 n2 c2) rfl (by nofun)).set 0 0 (.bool (ng (-q).num)) rfl (by nofun)).set 0 1 (.slice A2 n2 c2) rfl (by nofun)).set 0 2 (.slice D1 m1 d1) rfl (by nofun))
   replace S:=Lib.hid S
   go_wp2
   refine bodyPost_ret (res_parseR _ _ (w.heap.size) 46 rfl rfl (S.out.bk _ (List.mem_of_getElem? (i:=0) rfl)).1) rfl ?_
   exact⟨_,_,_,_,_,_,rfl,⟨S.out.r 0 rfl,S.out.r 1 rfl⟩,S.out.bel⟩
end Go.Proofs.YtdeedofmflelfaaGreatDoor
