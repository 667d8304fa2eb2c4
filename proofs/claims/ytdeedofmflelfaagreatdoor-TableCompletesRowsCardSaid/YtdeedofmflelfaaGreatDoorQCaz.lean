/- The reference: names. The reference: a cell fits. The reference: a column. The reference: a valid table. The reference: a column is found; what the law asks of its tables. -/
import Derived.Test.YtdeedofmflelfaaGreatDoorQBxz
import Derived.Test.YtdeedofmflelfaaGreatDoorQTkz
import Derived.Test.YtdeedofmflelfaaGreatDoorQBez
namespace Go.Proofs.YtdeedofmflelfaaGreatDoor
open Go.RowKit RQ
set_option linter.unusedVariables false
set_option maxRecDepth 100000 in
set_option maxHeartbeats 4000000 in
theorem rInner_any (c:UInt8) (w:World):Calls Tryz.prog 42 #[.int .u8 c.toNat] w fun e w'=>e=.returned (.bool (innB c))∧w'=w:=by
 have hL:=Lib.hid (fun W=>risLetter_any c W)
 rw[inn_parts]
 have u1:((c.toNat:Int)==95)=(c==95):=u8_eq c 95 (by decide)
 have u2:((c.toNat:Int)==46)=(c==46):=u8_eq c 46 (by decide)
 have p1:((c.toNat:Int)=95)=((c==95)=true):=by rw[←u1,beq_iff_eq]
 have p2:((c.toNat:Int)=46)=((c==46)=true):=by rw[←u2,beq_iff_eq]
 unfold digB
 generalize letB c=b3 at *
 generalize (c==95)=b1 at *
 generalize (c==46)=b2 at *
 generalize c.toNat=n at *
 by_cases h1:48≤n<;>by_cases h2:n≤57<;>cases b1<;>cases b2
 all_goals try (exfalso;(try simp at p1);(try simp at p2);omega)
 all_goals
  (try have g1:(48:Int)≤(n:Int):=by omega)
  (try have g1:¬ (48:Int)≤(n:Int):=by omega)
  (try have g2:(n:Int)≤(57:Int):=by omega)
  (try have g2:¬ (n:Int)≤(57:Int):=by omega)
  replace p1:=Lib.hid p1
  replace p2:=Lib.hid p2
  have hh:=Lib.hid (And.intro h1 h2)
  clear h1 h2
  go_enter Tryz.func42,Tryz.ntmps42
  go_wp2_with fail
  refine (hL.out _).mono ?_
  rintro e w1 ⟨rfl,rfl⟩
  clear hL
  cases b3
 all_goals
  go_wp2
  go_ret
  refine⟨?_,rfl⟩
  first
  | (simp[*];done)
  | (have hq:=hh.out;simp only[hq];simp[*];done)
  | (have hq:=hh.out;obtain⟨hq1,hq2⟩:=hq;simp[*,hq1,hq2];omega)
  | (have hq:=hh.out;obtain⟨hq1,hq2⟩:=hq;simp[*,hq1,hq2];done)
set_option maxRecDepth 100000 in
set_option maxHeartbeats 4000000 in
theorem rName_any (s:ByteArray) (w:World):Calls Tryz.prog 14 #[.string s] w fun e w'=>e=.returned (.bool (nameB s))∧w'=w:=by
 by_cases h0:s.size=0
 ·rw[nameB_nil h0]
  have g0:(s.size:Int)<1:=by omega
  clear h0
  go_enter Tryz.func14,Tryz.ntmps14
  go_wp2
  go_ret
  exact⟨rfl,rfl⟩
 have hz:0<s.size:=by omega
 have g0:¬ (s.size:Int)<1:=by omega
 by_cases h1:32<s.size
 ·rw[nameB_no hz (.inl h1)]
  have g1:(32:Int)<(s.size:Int):=by omega
  go_enter Tryz.func14,Tryz.ntmps14
  go_wp2
  go_ret
  exact⟨rfl,rfl⟩
 have g1:¬ (32:Int)<(s.size:Int):=by omega
 have hL:=Lib.hid (fun W=>risLetter_any s[0] W)
 have hI:=Lib.hid (fun c W=>rInner_any c W)
 have gz:(0:Int)<(s.size:Int):=by omega
 cases h3:letB s[0]
 ·rw[nameB_no hz (.inr (.inr (.inl h3)))]
  rw[h3] at hL
  clear h3 hI
  go_enter Tryz.func14,Tryz.ntmps14
  go_wp2_with fail
  refine (hL.out _).mono ?_
  rintro e w1 ⟨rfl,rfl⟩
  go_wp2
  go_ret
  exact⟨rfl,rfl⟩
 rw[h3] at hL
 cases h2:seB s powB
 rotate_left
 ·rw[nameB_no hz (.inr (.inl h2))]
  have g2:(s.toList==[112,111,119,101,114])=true:=by have hh:=h2;unfold seB at hh;rw[Lib.toList_data powB] at hh;exact hh
  replace h2:=Lib.hid h2
  clear h3 hI
  go_enter Tryz.func14,Tryz.ntmps14
  go_wp2_with fail
  refine (hL.out _).mono ?_
  rintro e w1 ⟨rfl,rfl⟩
  go_wp2
  go_ret
  exact⟨rfl,rfl⟩
 have g2:(s.toList==[112,111,119,101,114])=false:=by have hh:=h2;unfold seB at hh;rw[Lib.toList_data powB] at hh;exact hh
 have hyes:=Lib.hid (nameB_yes hz (by omega) h2 h3)
 have hno:=Lib.hid (fun hh=>nameB_no hz (.inr (.inr (.inr hh))))
 have h30:=Lib.hid (show innB s[0]=true by unfold innB;rw[h3];rfl)
 obtain⟨nv,hnv⟩:∃ z,z=nameB s:=⟨_,rfl⟩
 rw[←hnv] at hyes hno ⊢
 replace h2:=Lib.hid h2
 have hsz:=Lib.hid (And.intro h1 hz)
 clear h0 hnv h3 h1
 go_enter Tryz.func14,Tryz.ntmps14
 go_wp2_with fail
 refine (hL.out _).mono ?_
 rintro e w1 ⟨rfl,rfl⟩
 clear hL
 go_wp2
 go_loopw [3] (fun iv wr=>∃ i:Nat,1≤i∧i≤s.size∧iv=.int .i64 i∧wr=w1∧(∀ j,(hj:j<i)→∀ (h2:j<s.size),innB s[j]=true)) (fun iv _=>s.size-(intOf iv).toNat)
 case atStart=>exact⟨1,Nat.le_refl _,hsz.out.2,rfl,rfl,fun j h0 h2=>(by obtain rfl:j=0:=(by omega);exact h30.out)⟩
 case round=>
  obtain⟨i,hi1,hin,rfl,rfl,hall⟩:=hrel
  by_cases hlt:i<s.size
  ·have q1:(i:Int)<(s.size:Int):=by omega
   have q2:(0:Int)≤(i:Int):=by omega
   have hi63:=Lib.hid (And.intro hlt hi1)
   replace hall:=Lib.hid hall
   have hIi:=hI.out s[i]
   have hino:=Lib.hid (fun h=>hno.out ⟨i,hlt,h⟩)
   have hyi:=Lib.hid (fun (h:innB s[i]=true) (j:Nat) (hj:j<i+1) (h2:j<s.size)=>(by rcases Nat.lt_or_ge j i with h3 | h3;exact hall.out j h3 h2;obtain rfl:j=i:=(by omega);exact h:innB s[j]=true))
   generalize innB s[i]=v at *
   replace hIi:=Lib.hid hIi
   clear hin hi1
   go_wp2_with fail
   refine (hIi.out _).mono ?_
   rintro e w2 ⟨rfl,rfl⟩
   cases v
   ·have hfi:=hino.out rfl
    subst hfi
    go_wp2
    go_ret
    exact⟨rfl,rfl⟩
   ·have hlt:=hi63.out
    have hss:=hsz.out
    go_wp2
    go_roundw
    case rel=>exact⟨i+1,by omega,by omega,by go_num,(by first | rfl | trivial),hyi.out (by first | rfl | trivial)⟩
    case measure=>simp[intOf];omega
  ·obtain rfl:i=s.size:=by omega
   have hy:=hyes.out (fun j h2=>hall j h2 h2)
   subst hy
   clear hall hin hlt
   go_wp2
   go_ret
   exact⟨rfl,rfl⟩
set_option maxRecDepth 100000 in
set_option maxHeartbeats 4000000 in
theorem rIndex_any (L:List ByteArray) (A:Option Addr) (n c:Nat) (s:ByteArray) (w:World) (h:LR strC w A n L) (hn:n≤100000):Calls Tryz.prog 91 #[.slice A n c,.string s] w fun e w'=>(∃ z,e=.returned (.int .i64 z)∧IxF L (seB s) z)∧w'=w:=by
 have hb:=Lib.hid hn
 have hlen:=Lib.hid h.len
 replace h:=Lib.hid h
 clear hn
 go_enter Tryz.func91,Tryz.ntmps91
 go_wp2
 go_loopw [5] (fun iv wr=>∃ i:Nat,i≤n∧iv=.int .i64 i∧wr=w∧(∀ j t,j<i→L[j]?=some t→seB s t=false)) (fun iv _=>n-(intOf iv).toNat)
 case atStart=>exact⟨0,Nat.zero_le _,rfl,rfl,fun j s h0=>absurd h0 (Nat.not_lt_zero _)⟩
 case round=>
  obtain⟨i,hin,rfl,rfl,hall⟩:=hrel
  by_cases hlt:i<n
  ·obtain⟨b,o,x,rfl,hx,hxm,e0⟩:=str_get h.out hlt
   have hih:=Lib.hid hlt
   have g1:(i:Int)<(n:Int):=by omega
   have g2:(0:Int)≤(i:Int):=by omega
   replace hall:=Lib.hid hall
   replace hx:=Lib.hid hx
   clear hlt hin hxm
   cases hv:seB s x
   ·have g3:(s.toList==x.toList)=false:=hv
    have g4:(x.toList==s.toList)=false:=by rw[Bool.beq_comm];exact hv
    replace hv:=Lib.hid hv
    have hlt:=hih.out
    have hbb:=hb.out
    go_wp2
    go_roundw
    case rel=>exact⟨i+1,by omega,by go_num,(by first | rfl | trivial),fun j' t h1 h2=>(by rcases Nat.lt_or_ge j' i with h3 | h3;exact hall.out j' t h3 h2;obtain rfl:j'=i:=(by omega);rw[hx.out] at h2;injection h2 with h2;subst h2;exact hv.out)⟩
    case measure=>simp[intOf];omega
   ·have g3:(s.toList==x.toList)=true:=hv
    have g4:(x.toList==s.toList)=true:=by rw[Bool.beq_comm];exact hv
    replace hv:=Lib.hid hv
    go_wp2
    go_ret
    exact⟨⟨_,rfl,.inr ⟨i,x,rfl,hx.out,hv.out,hall.out⟩⟩,rfl⟩
  ·obtain rfl:i=n:=by omega
   have hfin:Hid (∀ r∈L,seB s r=false):=Lib.hid fun r hr=>by
    obtain⟨k,hk⟩:=List.getElem?_of_mem hr
    exact hall k r (by rw[←hlen.out];exact (List.getElem?_eq_some_iff.1 hk).1) hk
   clear hall hin hlt
   go_wp2
   go_ret
   exact⟨⟨-1,rfl,.inl ⟨rfl,hfin.out⟩⟩,rfl⟩
set_option maxRecDepth 100000 in
set_option maxHeartbeats 4000000 in
theorem rnames_any (L:List ByteArray) (A:Option Addr) (n c:Nat) (w:World) (h:LR strC w A n L) (hn:n≤100000) (hc:n≤c):Calls Tryz.prog 49 #[.slice A n c] w fun e w'=>e=.returned (.bool (namesB L))∧Below w.heap.size w w':=by
 have hb:=Lib.hid hn
 have hlen:=Lib.hid h.len
 obtain⟨nv,hnv⟩:∃ z,z=namesB L:=⟨_,rfl⟩
 have hno:Hid (∀ i x,L[i]?=some x→(nameB x=false∨inB x (L.take i)=true)→nv=false):=Lib.hid fun i x hx h2=>by
  rw[hnv]
  unfold namesB
  rcases h2 with h2 | h2
  ·rw[List.all_eq_false.2 ⟨x,List.mem_of_getElem? hx,by rw[h2];simp⟩,Bool.and_false]
  ·have e:L=L.take (i+1)++L.drop (i+1):=(List.take_append_drop _ _).symm
   have:diffB L=false:=by
    rw[e]
    refine diff_pre ?_
    rw[take_snoc hx,diff_snoc,h2];simp
   rw[this];rfl
 have hye:Hid (namesB (L.take n)=true→nv=true):=Lib.hid fun h2=>by rw[hnv,←h2,List.take_of_length_le (by rw[hlen.out];exact Nat.le_refl _)]
 rw[←hnv]
 replace hnv:=Lib.hid hnv
 replace h:=Lib.hid h
 replace hc:=Lib.hid hc
 clear hn
 go_enter Tryz.func49,Tryz.ntmps49
 go_wp2
 go_loopw [3] (fun iv wr=>∃ i:Nat,i≤n∧iv=.int .i64 i∧Below w.heap.size w wr∧namesB (L.take i)=true) (fun iv _=>n-(intOf iv).toNat)
 case atStart=>exact⟨0,Nat.zero_le _,rfl,Below.refl _ _,rfl⟩
 case round=>
  obtain⟨i,hin,rfl,B,hall⟩:=hrel
  by_cases hlt:i<n
  ·obtain⟨b,o,x,rfl,hx,hxm,e0⟩:=str_get (h.out.bel B) hlt
   have hih:=Lib.hid hlt
   have g1:(i:Int)<(n:Int):=by omega
   have g2:(0:Int)≤(i:Int):=by omega
   have g3:(i:Int)≤(c:Int):=by have:=hc.out;omega
   have hN:=Lib.hid (fun W=>rName_any x W)
   have hX:Hid (∀ W,Below wr.heap.size wr W→Calls Tryz.prog 91 #[.slice (some ⟨b,o,none⟩) i c,.string x] W fun e w'=>(∃ z,e=.returned (.int .i64 z)∧IxF (L.take i) (seB x) z)∧w'=W):=Lib.hid fun W hW=>rIndex_any _ _ _ _ _ W (((h.out.bel B).take_ hin).bel hW) (by have:=hb.out;omega)
   replace hno:=Lib.hid (hno.out i x hx)
   have hyi:Hid (nameB x=true→inB x (L.take i)=false→namesB (L.take (i+1))=true):=Lib.hid fun h1 h2=>by
    unfold namesB at hall ⊢
    rw[Bool.and_eq_true] at hall
    rw[take_snoc hx,diff_snoc,hall.1,h2,List.all_append,hall.2,List.all_cons,h1];rfl
   replace B:=Lib.hid B
   replace e0:=Lib.hid e0
   clear hlt hin hxm hx hall
   go_upto_region 4 with fail
   have hbase:=Lib.hid (St.new wr)
   refine RW.begin (Z:=[]) (S:=(fun W=>Below wr.heap.size wr W)) (by kernel_rfl) ?_ hbase.out ?_
   ·exact⟨by kernel_rfl,zis_nil,by decide,by decide,nol_nil,(fun _ _ h=>h.bel)⟩
   intro hzk
   refine RW.t (i:=0) (v:=.slice (some ⟨b,o,none⟩) n c) (some 10) at0 (hy:=fun _ _=>by kernel_rfl) (h:=?_)
   refine RW.t (i:=1) (v:=.int .i64 i) (some 11) at1 (hy:=fun _ _=>by kernel_rfl) (h:=?_)
   refine RW.t (i:=2) (v:=.pointer (some ⟨b,o+i,none⟩)) (some 12) at2 (hy:=fun _ _=>by go_simp) (h:=?_)
   refine RW.t (i:=3) (v:=.string x) (some 13) at3 (hy:=fun W hS=>by (have k0:=bel_cell hS e0.out;clear hS;go_simp)) (h:=?_)
   refine RW.c (i:=4) (args:=#[.string x]) (some 14) hzk.out at4 (hx:=fun _=>by kernel_rfl) (h:=fun _ S=>(hN.out _).mono ?_)
   rintro e w7 ⟨rfl,rfl⟩
   refine⟨Below.refl _ _,_,[],rfl,rd_nil,?_⟩
   clear S
   cases hv:nameB x
   ·rw[hv] at hno
    refine RW.t (i:=5) (v:=.bool true) (some 15) at5 (hy:=fun _ _=>by kernel_rfl) (h:=?_)
    refine RW.t (i:=6) (v:=.bool true) (some 16) at6 (hy:=fun _ _=>by kernel_rfl) (h:=?_)
    refine RW.u (i:=7) (some 17) at7 (h:=?_)
    refine RW.u (i:=8) (some 18) at8 (h:=?_)
    refine RW.u (i:=9) (some 19) at9 (h:=?_)
    refine RW.u (i:=10) (some 20) at10 (h:=?_)
    refine RW.u (i:=11) (some 21) at11 (h:=?_)
    refine RW.u (i:=12) (some 22) at12 (h:=?_)
    refine RW.u (i:=13) (some 23) at13 (h:=?_)
    refine RW.u (i:=14) (some 24) at14 (h:=?_)
    refine RW.u (i:=15) (some 25) at15 (h:=?_)
    refine RW.t (i:=16) (v:=.bool true) (some 26) at16 (hy:=fun _ _=>by kernel_rfl) (h:=?_)
    refine RW.tail hzk.out (by kernel_rfl) ?_
    intro gs' w5 hgs' hS Sb
    obtain rfl:=len0 hgs'
    simp only[mark,fill,Act.put,List.setIfInBounds_toArray,List.set_cons_zero,List.set_cons_succ]
    refine Wk.done (by kernel_rfl) ?_
    have T:=Lib.hid (B.out.trans (hS.mono B.out.size))
    clear Sb hgs' hzk hbase hS
    try go_simp
    have hfi:=hno.out (.inl rfl)
    subst hfi
    go_wp2
    go_ret
    exact⟨rfl,T.out⟩
   ·rw[hv] at hyi
    replace hyi:=Lib.hid (hyi.out rfl)
    refine RW.t (i:=5) (v:=.bool false) (some 15) at5 (hy:=fun _ _=>by kernel_rfl) (h:=?_)
    refine RW.t (i:=6) (v:=.bool false) (some 16) at6 (hy:=fun _ _=>by kernel_rfl) (h:=?_)
    refine RW.t (i:=7) (v:=.slice (some ⟨b,o,none⟩) n c) (some 17) at7 (hy:=fun _ _=>by kernel_rfl) (h:=?_)
    refine RW.t (i:=8) (v:=.int .i64 i) (some 18) at8 (hy:=fun _ _=>by kernel_rfl) (h:=?_)
    refine RW.t (i:=9) (v:=.slice (some ⟨b,o,none⟩) i c) (some 19) at9 (hy:=fun _ _=>by go_simp) (h:=?_)
    refine RW.t (i:=10) (v:=.slice (some ⟨b,o,none⟩) n c) (some 20) at10 (hy:=fun _ _=>by kernel_rfl) (h:=?_)
    refine RW.t (i:=11) (v:=.int .i64 i) (some 21) at11 (hy:=fun _ _=>by kernel_rfl) (h:=?_)
    refine RW.t (i:=12) (v:=.pointer (some ⟨b,o+i,none⟩)) (some 22) at12 (hy:=fun _ _=>by go_simp) (h:=?_)
    refine RW.t (i:=13) (v:=.string x) (some 23) at13 (hy:=fun W hS=>by (have k0:=bel_cell hS e0.out;clear hS;go_simp)) (h:=?_)
    refine RW.c (i:=14) (args:=#[.slice (some ⟨b,o,none⟩) i c,.string x]) (some 24) hzk.out at14 (hx:=fun _=>by kernel_rfl) (h:=fun W S=>(hX.out W (by have:=S.bel;exact this)).mono ?_)
    rintro e w7 ⟨⟨z,rfl,hz⟩,rfl⟩
    refine⟨Below.refl _ _,_,[],rfl,rd_nil,?_⟩
    clear S
    have hz2:=hz.any_
    clear hz
    by_cases hz0:0≤z
    ·rw[decide_eq_true hz0] at hz2
     replace hz2:=Lib.hid hz2
     refine RW.t (i:=15) (v:=.bool true) (some 25) at15 (hy:=fun _ _=>by go_simp) (h:=?_)
     refine RW.t (i:=16) (v:=.bool true) (some 26) at16 (hy:=fun _ _=>by kernel_rfl) (h:=?_)
     refine RW.tail hzk.out (by kernel_rfl) ?_
     intro gs' w5 hgs' hS Sb
     obtain rfl:=len0 hgs'
     simp only[mark,fill,Act.put,List.setIfInBounds_toArray,List.set_cons_zero,List.set_cons_succ]
     refine Wk.done (by kernel_rfl) ?_
     have T:=Lib.hid (B.out.trans (hS.mono B.out.size))
     clear Sb hgs' hzk hbase hS
     try go_simp
     have hfi:=hno.out (.inr hz2.out)
     subst hfi
     go_wp2
     go_ret
     exact⟨rfl,T.out⟩
    ·rw[decide_eq_false hz0] at hz2
     replace hz2:=Lib.hid hz2
     refine RW.t (i:=15) (v:=.bool false) (some 25) at15 (hy:=fun _ _=>by go_simp) (h:=?_)
     refine RW.t (i:=16) (v:=.bool false) (some 26) at16 (hy:=fun _ _=>by kernel_rfl) (h:=?_)
     refine RW.tail hzk.out (by kernel_rfl) ?_
     intro gs' w5 hgs' hS Sb
     obtain rfl:=len0 hgs'
     simp only[mark,fill,Act.put,List.setIfInBounds_toArray,List.set_cons_zero,List.set_cons_succ]
     refine Wk.done (by kernel_rfl) ?_
     have T:=Lib.hid (B.out.trans (hS.mono B.out.size))
     clear Sb hgs' hzk hbase hS
     try go_simp
     have hlt:=hih.out
     have hbb:=hb.out
     go_wp2
     go_roundw
     case rel=>exact⟨i+1,by omega,by go_num,T.out,hyi.out hz2.out⟩
     case measure=>simp[intOf];omega
  ·obtain rfl:n=i:=by omega
   have hfi:=hye.out hall
   subst hfi
   replace B:=Lib.hid B
   clear hlt hin hall
   go_wp2
   go_ret
   exact⟨rfl,B.out⟩
end Go.Proofs.YtdeedofmflelfaaGreatDoor

namespace Go.Proofs.YtdeedofmflelfaaGreatDoor
open Go.RowKit RQ
set_option linter.unusedVariables false
set_option maxRecDepth 100000 in
set_option maxHeartbeats 4000000 in
theorem sameR (b:Bool) (A:Option Addr) (n c:Nat) (xs:List Nat) (D:Option Addr) (m d:Nat) (ds:List Nat) (b':Bool) (A':Option Addr) (n' c':Nat) (ys:List Nat) (D':Option Addr) (m' d':Nat) (es:List Nat) (w:World) (R1:Rd w A n c xs) (R2:Rd w D m d ds) (R3:Rd w A' n' c' ys) (R4:Rd w D' m' d' es) (hn:n≤200) (hm:m≤200) (hn':n'≤200) (hm':m'≤200) :
  Calls Tryz.prog 27 #[.agg #[.bool b,.slice A n c,.slice D m d],.agg #[.bool b',.slice A' n' c',.slice D' m' d']] w fun e w'=>e=.returned (.bool ((decide (b=b')&&decide (xs=ys))&&decide (ds=es)))∧Below w.heap.size w w':=by
 have hS:=Lib.hid (fun W p1 p2=>same2_any b A n c xs b' A' n' c' ys W p1 p2 (by omega) (by omega))
 have hT:=Lib.hid (fun W p1 p2=>same1_any D m d D' m' d' ds es W p1 p2 (by omega) (by omega))
 have S:=(((((((St.new w).read R1).read R2).read R3).read R4).allocAt (w.heap.size) #[.bool b,.slice A n c,.slice D m d] 46 (noL3 _ _ _ _ _ _ _) (by simp)).allocAt (w.heap.size+1) #[.bool b',.slice A' n' c',.slice D' m' d'] 46 (noL3 _ _ _ _ _ _ _) (by simp))
 replace S:=Lib.hid S
 clear R1 R2 R3 R4 hn hm hn' hm'
 generalize decide (ds=es)=e2 at *
 generalize (decide (b=b')&&decide (xs=ys))=e1 at *
 cases e1
 ·clear hT
  go_enter Tryz.func27,Tryz.ntmps27
  go_wp2_with fail
  refine (hS.out _ (S.out.r 3 rfl) (S.out.r 1 rfl)).mono ?_
  rintro e w1 ⟨rfl,bb⟩
  have T:=(S.out.call bb)
  clear bb S
  have S:=T
  clear T
  obtain⟨c_y0,c_y1,c_y2,f_y0,f_y1,f_y2⟩:=S.cf3 0 rfl
  obtain⟨c_x0,c_x1,c_x2,f_x0,f_x1,f_x2⟩:=S.cf3 1 rfl
  have hz:w.heap.size+1<w1.heap.size:=S.lt 0 rfl
  replace S:=Lib.hid S
  clear hS
  have B:=Lib.hid S.out.bel
  go_wp2
  go_ret
  exact⟨rfl,B.out⟩
 ·rw[Bool.true_and]
  go_enter Tryz.func27,Tryz.ntmps27
  go_wp2_with fail
  refine (hS.out _ (S.out.r 3 rfl) (S.out.r 1 rfl)).mono ?_
  rintro e w1 ⟨rfl,bb⟩
  have T:=(S.out.call bb)
  clear bb S
  have S:=T
  clear T
  obtain⟨c_y0,c_y1,c_y2,f_y0,f_y1,f_y2⟩:=S.cf3 0 rfl
  obtain⟨c_x0,c_x1,c_x2,f_x0,f_x1,f_x2⟩:=S.cf3 1 rfl
  have hz:w.heap.size+1<w1.heap.size:=S.lt 0 rfl
  replace S:=Lib.hid S
  clear hS
  go_wp2_with fail
  refine (hT.out _ (S.out.r 2 rfl) (S.out.r 0 rfl)).mono ?_
  rintro e w2 ⟨rfl,bb⟩
  have T:=(S.out.call bb)
  clear bb S c_y0 f_y0 c_y1 f_y1 c_y2 f_y2 c_x0 f_x0 c_x1 f_x1 c_x2 f_x2 hz
  have S:=T
  clear T
  obtain⟨c_y0,c_y1,c_y2,f_y0,f_y1,f_y2⟩:=S.cf3 0 rfl
  obtain⟨c_x0,c_x1,c_x2,f_x0,f_x1,f_x2⟩:=S.cf3 1 rfl
  have hz:w.heap.size+1<w2.heap.size:=S.lt 0 rfl
  replace S:=Lib.hid S
  clear hT
  have B:=Lib.hid S.out.bel
  go_wp2
  go_ret
  exact⟨rfl,B.out⟩
theorem zer_dec (b:Bool) (xs ds:List Nat):((decide (b=false)&&decide (xs=[]))&&decide (ds=[]))=(!b&&xs.isEmpty&&ds.isEmpty):=by
 cases b<;>cases xs<;>cases ds<;>rfl
set_option maxRecDepth 100000 in
set_option maxHeartbeats 4000000 in
theorem rFits_any (N:ByteArray) (k:Int) (LA:Option Addr) (ln lc:Nat) (CA:Option Addr) (cn cc:Nat) (mi:Bool) (b:Bool) (A:Option Addr) (n c:Nat) (xs:List Nat) (D:Option Addr) (m d:Nat) (ds:List Nat) (l:Int) (w:World) (R1:Rd w A n c xs) (R2:Rd w D m d ds) (hn:n≤200) (hm:m≤200) :
  Calls Tryz.prog 115 #[.agg #[.string N,.int .i64 k,.slice LA ln lc,.slice CA cn cc],.agg #[.bool mi,.bool b,.slice A n c,.slice D m d,.int .i64 l]] w fun e w'=>e=.returned (.bool (fitB k ln (mi,b,xs,ds,l)))∧Below w.heap.size w w':=by
 have hV:Hid (∀ W,Below w.heap.size w W→Calls Tryz.prog 103 #[.agg #[.bool b,.slice A n c,.slice D m d]] W fun e w'=>e=.returned (.bool (vldR b xs ds))∧Below W.heap.size W w'):=Lib.hid fun W h=>rvalidR_any b A n c xs D m d ds W (R1.below h) (R2.below h) (by omega) (by omega)
 have hZ:Hid (∀ W,Below w.heap.size w W→Calls Tryz.prog 27 #[.agg #[.bool b,.slice A n c,.slice D m d],.agg #[.bool false,.slice none 0 0,.slice none 0 0]] W fun e w'=>e=.returned (.bool (!b&&xs.isEmpty&&ds.isEmpty))∧Below W.heap.size W w'):=Lib.hid fun W h=>by
  have:=sameR b A n c xs D m d ds false none 0 0 [] none 0 0 [] W (R1.below h) (R2.below h) (Rd.nil_ _ _ _) (Rd.nil_ _ _ _) hn hm (Nat.zero_le _) (Nat.zero_le _)
  rw[zer_dec] at this
  exact this
 unfold fitB zerB
 dsimp only
 generalize (!b&&xs.isEmpty&&ds.isEmpty)=z at *
 generalize vldR b xs ds=v at *
 clear R1 R2 hn hm
 cases mi
 ·cases hk:(k==1)
  ·have hk2:=hk
   clear hV
   cases z
   ·
    have S:=(((St.new w).allocAt (w.heap.size) #[.string N,.int .i64 k,.slice LA ln lc,.slice CA cn cc] 56 (noLof rfl) (by simp)).allocAt (w.heap.size+1) #[.bool false,.bool b,.slice A n c,.slice D m d,.int .i64 l] 58 (noLof rfl) (by simp))
    replace S:=Lib.hid S
    go_enter Tryz.func115,Tryz.ntmps115
    go_wp2_with fail
    refine (hZ.out _ S.out.bel).mono ?_
    rintro e w1 ⟨rfl,bb⟩
    have T:=(S.out.call bb)
    clear bb S
    have S:=T
    clear T
    have c_x0:=S.cl 0 0 rfl rfl
    have f_x0:=S.f 0 0 rfl
    have c_x1:=S.cl 0 1 rfl rfl
    have f_x1:=S.f 0 1 rfl
    have c_x2:=S.cl 0 2 rfl rfl
    have f_x2:=S.f 0 2 rfl
    have c_x3:=S.cl 0 3 rfl rfl
    have f_x3:=S.f 0 3 rfl
    have c_x4:=S.cl 0 4 rfl rfl
    have f_x4:=S.f 0 4 rfl
    have c_y0:=S.cl 1 0 rfl rfl
    have f_y0:=S.f 1 0 rfl
    have c_y1:=S.cl 1 1 rfl rfl
    have f_y1:=S.f 1 1 rfl
    have c_y2:=S.cl 1 2 rfl rfl
    have f_y2:=S.f 1 2 rfl
    have c_y3:=S.cl 1 3 rfl rfl
    have f_y3:=S.f 1 3 rfl
    have hz:w.heap.size+1<w1.heap.size:=S.lt 0 rfl
    replace S:=Lib.hid S
    go_wp2
    go_ret
    exact⟨by simp[*],S.out.bel⟩
   ·by_cases h0:0≤l
    ·
     have S:=(((St.new w).allocAt (w.heap.size) #[.string N,.int .i64 k,.slice LA ln lc,.slice CA cn cc] 56 (noLof rfl) (by simp)).allocAt (w.heap.size+1) #[.bool false,.bool b,.slice A n c,.slice D m d,.int .i64 l] 58 (noLof rfl) (by simp))
     replace S:=Lib.hid S
     go_enter Tryz.func115,Tryz.ntmps115
     go_wp2_with fail
     refine (hZ.out _ S.out.bel).mono ?_
     rintro e w1 ⟨rfl,bb⟩
     have T:=(S.out.call bb)
     clear bb S
     have S:=T
     clear T
     have c_x0:=S.cl 0 0 rfl rfl
     have f_x0:=S.f 0 0 rfl
     have c_x1:=S.cl 0 1 rfl rfl
     have f_x1:=S.f 0 1 rfl
     have c_x2:=S.cl 0 2 rfl rfl
     have f_x2:=S.f 0 2 rfl
     have c_x3:=S.cl 0 3 rfl rfl
     have f_x3:=S.f 0 3 rfl
     have c_x4:=S.cl 0 4 rfl rfl
     have f_x4:=S.f 0 4 rfl
     have c_y0:=S.cl 1 0 rfl rfl
     have f_y0:=S.f 1 0 rfl
     have c_y1:=S.cl 1 1 rfl rfl
     have f_y1:=S.f 1 1 rfl
     have c_y2:=S.cl 1 2 rfl rfl
     have f_y2:=S.f 1 2 rfl
     have c_y3:=S.cl 1 3 rfl rfl
     have f_y3:=S.f 1 3 rfl
     have hz:w.heap.size+1<w1.heap.size:=S.lt 0 rfl
     replace S:=Lib.hid S
     go_wp2
     go_ret
     exact⟨by simp[*],S.out.bel⟩
    ·have h1:decide (0≤l)=false:=decide_eq_false h0
     have S:=(((St.new w).allocAt (w.heap.size) #[.string N,.int .i64 k,.slice LA ln lc,.slice CA cn cc] 56 (noLof rfl) (by simp)).allocAt (w.heap.size+1) #[.bool false,.bool b,.slice A n c,.slice D m d,.int .i64 l] 58 (noLof rfl) (by simp))
     replace S:=Lib.hid S
     go_enter Tryz.func115,Tryz.ntmps115
     go_wp2_with fail
     refine (hZ.out _ S.out.bel).mono ?_
     rintro e w1 ⟨rfl,bb⟩
     have T:=(S.out.call bb)
     clear bb S
     have S:=T
     clear T
     have c_x0:=S.cl 0 0 rfl rfl
     have f_x0:=S.f 0 0 rfl
     have c_x1:=S.cl 0 1 rfl rfl
     have f_x1:=S.f 0 1 rfl
     have c_x2:=S.cl 0 2 rfl rfl
     have f_x2:=S.f 0 2 rfl
     have c_x3:=S.cl 0 3 rfl rfl
     have f_x3:=S.f 0 3 rfl
     have c_x4:=S.cl 0 4 rfl rfl
     have f_x4:=S.f 0 4 rfl
     have c_y0:=S.cl 1 0 rfl rfl
     have f_y0:=S.f 1 0 rfl
     have c_y1:=S.cl 1 1 rfl rfl
     have f_y1:=S.f 1 1 rfl
     have c_y2:=S.cl 1 2 rfl rfl
     have f_y2:=S.f 1 2 rfl
     have c_y3:=S.cl 1 3 rfl rfl
     have f_y3:=S.f 1 3 rfl
     have hz:w.heap.size+1<w1.heap.size:=S.lt 0 rfl
     replace S:=Lib.hid S
     go_wp2
     go_ret
     exact⟨by simp[*],S.out.bel⟩
  ·cases v
   ·
    have S:=(((St.new w).allocAt (w.heap.size) #[.string N,.int .i64 k,.slice LA ln lc,.slice CA cn cc] 56 (noLof rfl) (by simp)).allocAt (w.heap.size+1) #[.bool false,.bool b,.slice A n c,.slice D m d,.int .i64 l] 58 (noLof rfl) (by simp))
    replace S:=Lib.hid S
    go_enter Tryz.func115,Tryz.ntmps115
    go_wp2_with fail
    refine (hZ.out _ S.out.bel).mono ?_
    rintro e w1 ⟨rfl,bb⟩
    have T:=(S.out.call bb)
    clear bb S
    have S:=T
    clear T
    have c_x0:=S.cl 0 0 rfl rfl
    have f_x0:=S.f 0 0 rfl
    have c_x1:=S.cl 0 1 rfl rfl
    have f_x1:=S.f 0 1 rfl
    have c_x2:=S.cl 0 2 rfl rfl
    have f_x2:=S.f 0 2 rfl
    have c_x3:=S.cl 0 3 rfl rfl
    have f_x3:=S.f 0 3 rfl
    have c_x4:=S.cl 0 4 rfl rfl
    have f_x4:=S.f 0 4 rfl
    have c_y0:=S.cl 1 0 rfl rfl
    have f_y0:=S.f 1 0 rfl
    have c_y1:=S.cl 1 1 rfl rfl
    have f_y1:=S.f 1 1 rfl
    have c_y2:=S.cl 1 2 rfl rfl
    have f_y2:=S.f 1 2 rfl
    have c_y3:=S.cl 1 3 rfl rfl
    have f_y3:=S.f 1 3 rfl
    have hz:w.heap.size+1<w1.heap.size:=S.lt 0 rfl
    replace S:=Lib.hid S
    go_wp2_with fail
    refine (hV.out _ S.out.bel).mono ?_
    rintro e w2 ⟨rfl,bb⟩
    have T:=(S.out.call bb)
    clear bb S c_x0 f_x0 c_x1 f_x1 c_x2 f_x2 c_x3 f_x3 c_x4 f_x4 c_y0 f_y0 c_y1 f_y1 c_y2 f_y2 c_y3 f_y3 hz
    have S:=T
    clear T
    have c_x0:=S.cl 0 0 rfl rfl
    have f_x0:=S.f 0 0 rfl
    have c_x1:=S.cl 0 1 rfl rfl
    have f_x1:=S.f 0 1 rfl
    have c_x2:=S.cl 0 2 rfl rfl
    have f_x2:=S.f 0 2 rfl
    have c_x3:=S.cl 0 3 rfl rfl
    have f_x3:=S.f 0 3 rfl
    have c_x4:=S.cl 0 4 rfl rfl
    have f_x4:=S.f 0 4 rfl
    have c_y0:=S.cl 1 0 rfl rfl
    have f_y0:=S.f 1 0 rfl
    have c_y1:=S.cl 1 1 rfl rfl
    have f_y1:=S.f 1 1 rfl
    have c_y2:=S.cl 1 2 rfl rfl
    have f_y2:=S.f 1 2 rfl
    have c_y3:=S.cl 1 3 rfl rfl
    have f_y3:=S.f 1 3 rfl
    have hz:w.heap.size+1<w2.heap.size:=S.lt 0 rfl
    replace S:=Lib.hid S
    go_wp2
    go_ret
    exact⟨by simp[*],S.out.bel⟩
   ·
    have S:=(((St.new w).allocAt (w.heap.size) #[.string N,.int .i64 k,.slice LA ln lc,.slice CA cn cc] 56 (noLof rfl) (by simp)).allocAt (w.heap.size+1) #[.bool false,.bool b,.slice A n c,.slice D m d,.int .i64 l] 58 (noLof rfl) (by simp))
    replace S:=Lib.hid S
    go_enter Tryz.func115,Tryz.ntmps115
    go_wp2_with fail
    refine (hZ.out _ S.out.bel).mono ?_
    rintro e w1 ⟨rfl,bb⟩
    have T:=(S.out.call bb)
    clear bb S
    have S:=T
    clear T
    have c_x0:=S.cl 0 0 rfl rfl
    have f_x0:=S.f 0 0 rfl
    have c_x1:=S.cl 0 1 rfl rfl
    have f_x1:=S.f 0 1 rfl
    have c_x2:=S.cl 0 2 rfl rfl
    have f_x2:=S.f 0 2 rfl
    have c_x3:=S.cl 0 3 rfl rfl
    have f_x3:=S.f 0 3 rfl
    have c_x4:=S.cl 0 4 rfl rfl
    have f_x4:=S.f 0 4 rfl
    have c_y0:=S.cl 1 0 rfl rfl
    have f_y0:=S.f 1 0 rfl
    have c_y1:=S.cl 1 1 rfl rfl
    have f_y1:=S.f 1 1 rfl
    have c_y2:=S.cl 1 2 rfl rfl
    have f_y2:=S.f 1 2 rfl
    have c_y3:=S.cl 1 3 rfl rfl
    have f_y3:=S.f 1 3 rfl
    have hz:w.heap.size+1<w1.heap.size:=S.lt 0 rfl
    replace S:=Lib.hid S
    go_wp2_with fail
    refine (hV.out _ S.out.bel).mono ?_
    rintro e w2 ⟨rfl,bb⟩
    have T:=(S.out.call bb)
    clear bb S c_x0 f_x0 c_x1 f_x1 c_x2 f_x2 c_x3 f_x3 c_x4 f_x4 c_y0 f_y0 c_y1 f_y1 c_y2 f_y2 c_y3 f_y3 hz
    have S:=T
    clear T
    have c_x0:=S.cl 0 0 rfl rfl
    have f_x0:=S.f 0 0 rfl
    have c_x1:=S.cl 0 1 rfl rfl
    have f_x1:=S.f 0 1 rfl
    have c_x2:=S.cl 0 2 rfl rfl
    have f_x2:=S.f 0 2 rfl
    have c_x3:=S.cl 0 3 rfl rfl
    have f_x3:=S.f 0 3 rfl
    have c_x4:=S.cl 0 4 rfl rfl
    have f_x4:=S.f 0 4 rfl
    have c_y0:=S.cl 1 0 rfl rfl
    have f_y0:=S.f 1 0 rfl
    have c_y1:=S.cl 1 1 rfl rfl
    have f_y1:=S.f 1 1 rfl
    have c_y2:=S.cl 1 2 rfl rfl
    have f_y2:=S.f 1 2 rfl
    have c_y3:=S.cl 1 3 rfl rfl
    have f_y3:=S.f 1 3 rfl
    have hz:w.heap.size+1<w2.heap.size:=S.lt 0 rfl
    replace S:=Lib.hid S
    go_wp2
    go_ret
    exact⟨by simp[*],S.out.bel⟩
 ·clear hV
  cases z
  ·
   have S:=(((St.new w).allocAt (w.heap.size) #[.string N,.int .i64 k,.slice LA ln lc,.slice CA cn cc] 56 (noLof rfl) (by simp)).allocAt (w.heap.size+1) #[.bool true,.bool b,.slice A n c,.slice D m d,.int .i64 l] 58 (noLof rfl) (by simp))
   replace S:=Lib.hid S
   go_enter Tryz.func115,Tryz.ntmps115
   go_wp2_with fail
   refine (hZ.out _ S.out.bel).mono ?_
   rintro e w1 ⟨rfl,bb⟩
   have T:=(S.out.call bb)
   clear bb S
   have S:=T
   clear T
   have c_x0:=S.cl 0 0 rfl rfl
   have f_x0:=S.f 0 0 rfl
   have c_x1:=S.cl 0 1 rfl rfl
   have f_x1:=S.f 0 1 rfl
   have c_x2:=S.cl 0 2 rfl rfl
   have f_x2:=S.f 0 2 rfl
   have c_x3:=S.cl 0 3 rfl rfl
   have f_x3:=S.f 0 3 rfl
   have c_x4:=S.cl 0 4 rfl rfl
   have f_x4:=S.f 0 4 rfl
   have c_y0:=S.cl 1 0 rfl rfl
   have f_y0:=S.f 1 0 rfl
   have c_y1:=S.cl 1 1 rfl rfl
   have f_y1:=S.f 1 1 rfl
   have c_y2:=S.cl 1 2 rfl rfl
   have f_y2:=S.f 1 2 rfl
   have c_y3:=S.cl 1 3 rfl rfl
   have f_y3:=S.f 1 3 rfl
   have hz:w.heap.size+1<w1.heap.size:=S.lt 0 rfl
   replace S:=Lib.hid S
   go_wp2
   go_ret
   exact⟨by simp[*],S.out.bel⟩
  ·
   have S:=(((St.new w).allocAt (w.heap.size) #[.string N,.int .i64 k,.slice LA ln lc,.slice CA cn cc] 56 (noLof rfl) (by simp)).allocAt (w.heap.size+1) #[.bool true,.bool b,.slice A n c,.slice D m d,.int .i64 l] 58 (noLof rfl) (by simp))
   replace S:=Lib.hid S
   go_enter Tryz.func115,Tryz.ntmps115
   go_wp2_with fail
   refine (hZ.out _ S.out.bel).mono ?_
   rintro e w1 ⟨rfl,bb⟩
   have T:=(S.out.call bb)
   clear bb S
   have S:=T
   clear T
   have c_x0:=S.cl 0 0 rfl rfl
   have f_x0:=S.f 0 0 rfl
   have c_x1:=S.cl 0 1 rfl rfl
   have f_x1:=S.f 0 1 rfl
   have c_x2:=S.cl 0 2 rfl rfl
   have f_x2:=S.f 0 2 rfl
   have c_x3:=S.cl 0 3 rfl rfl
   have f_x3:=S.f 0 3 rfl
   have c_x4:=S.cl 0 4 rfl rfl
   have f_x4:=S.f 0 4 rfl
   have c_y0:=S.cl 1 0 rfl rfl
   have f_y0:=S.f 1 0 rfl
   have c_y1:=S.cl 1 1 rfl rfl
   have f_y1:=S.f 1 1 rfl
   have c_y2:=S.cl 1 2 rfl rfl
   have f_y2:=S.f 1 2 rfl
   have c_y3:=S.cl 1 3 rfl rfl
   have f_y3:=S.f 1 3 rfl
   have hz:w.heap.size+1<w1.heap.size:=S.lt 0 rfl
   replace S:=Lib.hid S
   go_wp2
   go_ret
   exact⟨by simp[*],S.out.bel⟩
end Go.Proofs.YtdeedofmflelfaaGreatDoor

namespace Go.Proofs.YtdeedofmflelfaaGreatDoor
open Go.RowKit RQ
set_option linter.unusedVariables false
set_option maxRecDepth 100000 in
set_option maxHeartbeats 4000000 in
theorem rcolumn_any (x:Cl) (r:Int) (w:World) (H:ClAt w x) (hx:LtL x):Calls Tryz.prog 73 #[.agg #[.string x.n,.int .i64 x.k,.slice x.lv.A x.lv.L.length x.lv.c,.slice x.ce.A x.ce.L.length x.ce.c],.int .i64 r] w fun e w'=>e=.returned (.bool (colB x.lx r))∧Below w.heap.size w w':=by
 obtain⟨N,k,⟨LA,lc,Lv⟩,⟨CA,cc,Cs⟩⟩:=x
 have hL:=Lib.hid H.1
 have hC:=Lib.hid H.2
 have hb:=Lib.hid (And.intro hx.2.1 hx.2.2.2.1)
 have hCx:=Lib.hid hx.2.2.2.2
 clear H hx
 dsimp only at hL hC hb hCx ⊢
 by_cases hr:(Cs.length:Int)=r
 rotate_left
 ·rw[show colB (Cl.lx ⟨N,k,⟨LA,lc,Lv⟩,⟨CA,cc,Cs⟩⟩) r=false by
   unfold colB Cl.lx
   dsimp only
   rw[List.length_map,decide_eq_false hr,Bool.and_false];rfl]
  have g1:((Cs.length:Int)==r)=false:=beq_eq_false_iff_ne.2 hr
  replace hr:=Lib.hid hr
  by_cases h1:k=1
  ·subst h1
   have S:=((St.new w).allocAt (w.heap.size) #[.string N,.int .i64 1,.slice LA Lv.length lc,.slice CA Cs.length cc] 56 (noLof rfl) (by simp))
   replace S:=Lib.hid S
   go_enter Tryz.func73,Tryz.ntmps73
   go_wp2
   go_ret
   exact⟨rfl,S.out.bel⟩
  ·by_cases h2:k=2
   ·subst h2
    have S:=((St.new w).allocAt (w.heap.size) #[.string N,.int .i64 2,.slice LA Lv.length lc,.slice CA Cs.length cc] 56 (noLof rfl) (by simp))
    replace S:=Lib.hid S
    go_enter Tryz.func73,Tryz.ntmps73
    go_wp2
    go_ret
    exact⟨rfl,S.out.bel⟩
   ·have g2:(k==1)=false:=beq_eq_false_iff_ne.2 h1
    have g3:(k==2)=false:=beq_eq_false_iff_ne.2 h2
    replace h1:=Lib.hid h1
    replace h2:=Lib.hid h2
    have S:=((St.new w).allocAt (w.heap.size) #[.string N,.int .i64 k,.slice LA Lv.length lc,.slice CA Cs.length cc] 56 (noLof rfl) (by simp))
    replace S:=Lib.hid S
    go_enter Tryz.func73,Tryz.ntmps73
    go_wp2
    go_ret
    exact⟨rfl,S.out.bel⟩
 subst hr
 by_cases h1:k=1
 ·subst h1
  by_cases h0:32<Lv.length
  ·rw[show colB (Cl.lx ⟨N,1,⟨LA,lc,Lv⟩,⟨CA,cc,Cs⟩⟩) Cs.length=false by
    unfold colB levK Cl.lx
    dsimp only
    cases Lv
    ·simp at h0
    ·rfl]
   have g1:(32:Int)<(Lv.length:Int):=by omega
   have S:=((St.new w).allocAt (w.heap.size) #[.string N,.int .i64 1,.slice LA Lv.length lc,.slice CA Cs.length cc] 56 (noLof rfl) (by simp))
   replace S:=Lib.hid S
   go_enter Tryz.func73,Tryz.ntmps73
   go_wp2
   go_ret
   exact⟨rfl,S.out.bel⟩
  have g1:¬ (32:Int)<(Lv.length:Int):=by omega
  by_cases h2:0<Lv.length
  ·rw[show colB (Cl.lx ⟨N,1,⟨LA,lc,Lv⟩,⟨CA,cc,Cs⟩⟩) Cs.length=false by
    unfold colB levK Cl.lx
    dsimp only
    cases Lv
    ·simp at h2
    ·rfl]
   have g2:(0:Int)<(Lv.length:Int):=by omega
   have S:=((St.new w).allocAt (w.heap.size) #[.string N,.int .i64 1,.slice LA Lv.length lc,.slice CA Cs.length cc] 56 (noLof rfl) (by simp))
   replace S:=Lib.hid S
   go_enter Tryz.func73,Tryz.ntmps73
   go_wp2
   go_ret
   exact⟨rfl,S.out.bel⟩
  obtain⟨cv,hcv⟩:∃ z,z=colB (Cl.lx ⟨N,1,⟨LA,lc,Lv⟩,⟨CA,cc,Cs⟩⟩) Cs.length:=⟨_,rfl⟩
  rw[←hcv]
  have g2:¬ (0:Int)<(Lv.length:Int):=by omega
  have hnil:=Lib.hid (show Lv=[] from List.length_eq_zero_iff.1 (by omega))
  have hno:Hid (∀ i x,Lv[i]?=some x→inB x (Lv.take i)=true→cv=false):=Lib.hid fun i x hx h2=>by
   rw[hcv]
   have:diffB Lv=false:=by
    rw[(List.take_append_drop (i+1) Lv).symm]
    refine diff_pre ?_
    rw[take_snoc hx,diff_snoc,h2];simp
   unfold colB levK Cl.lx
   dsimp only
   rw[hnil.out] at hx;cases hx
  have hno2:Hid (∀ y∈Cs,fitB 1 Lv.length y.cx=false→cv=false):=Lib.hid fun y hy h2=>by
   rw[hcv]
   unfold colB Cl.lx
   dsimp only
   rw[List.all_map,List.all_eq_false.2 ⟨y,hy,by show ¬ fitB 1 Lv.length y.cx=true;rw[h2];simp⟩,Bool.and_false]
  have hye:Hid (diffB Lv=true→Cs.all (fun y=>fitB 1 Lv.length y.cx)=true→cv=true):=Lib.hid fun h1 h2=>by
   rw[hcv]
   unfold colB levK Cl.lx
   dsimp only
   rw[List.all_map,show Cs.all (fitB 1 Lv.length ∘ Ce.cx)=true from h2]
   rw[hnil.out];simp
  replace hcv:=Lib.hid hcv
  clear h0 h2
  have S:=((St.new w).allocAt (w.heap.size) #[.string N,.int .i64 1,.slice LA Lv.length lc,.slice CA Cs.length cc] 56 (noLof rfl) (by simp))
  replace S:=Lib.hid S
  go_enter Tryz.func73,Tryz.ntmps73
  go_wp2
  replace S:=Lib.hid S.out
  go_loopw [5] (fun iv wr=>∃ i:Nat,i≤Lv.length∧iv=.int .i64 i∧St w wr [(w.heap.size,#[.string N,.int .i64 1,.slice LA Lv.length lc,.slice CA Cs.length cc],56)] []∧diffB (Lv.take i)=true) (fun iv _=>Lv.length-(intOf iv).toNat)
  case atStart=>exact⟨0,Nat.zero_le _,rfl,S.out,rfl⟩
  case round=>
   clear S
   obtain⟨i,hin,rfl,S,hall⟩:=hrel
   replace S:=Lib.hid S
   by_cases hlt:i<Lv.length
   ·exfalso
    rw[hnil.out] at hlt
    simp at hlt
   ·obtain rfl:Lv.length=i:=by omega
    have hall2:=Lib.hid (show diffB Lv=true by rw[←hall,List.take_length])
    have c_0:=S.out.cl 0 0 rfl rfl
    have f_0:=S.out.f 0 0 rfl
    have c_1:=S.out.cl 0 1 rfl rfl
    have f_1:=S.out.f 0 1 rfl
    have c_2:=S.out.cl 0 2 rfl rfl
    have f_2:=S.out.f 0 2 rfl
    have c_3:=S.out.cl 0 3 rfl rfl
    have f_3:=S.out.f 0 3 rfl
    have hz:w.heap.size<wr.heap.size:=S.out.lt 0 rfl
    clear hlt hin hall
    go_wp2
    clear c_0 c_1 c_2 c_3 f_0 f_1 f_2 f_3
    go_loopw [6] (fun iv wr=>∃ i:Nat,i≤Cs.length∧iv=.int .i64 i∧St w wr [(w.heap.size,#[.string N,.int .i64 1,.slice LA Lv.length lc,.slice CA Cs.length cc],56)] []∧(Cs.take i).all (fun y=>fitB 1 Lv.length y.cx)=true) (fun iv _=>Cs.length-(intOf iv).toNat)
    case atStart=>exact⟨0,Nat.zero_le _,rfl,S.out,rfl⟩
    case round=>
     clear S
     obtain⟨i,hin,rfl,S,hall⟩:=hrel
     replace S:=Lib.hid S
     by_cases hlt:i<Cs.length
     ·obtain⟨b,o,y,rfl,hx,hxm,hrd,e0,e1,e2,e3,e4⟩:=ce_get (hC.out.1.bel S.out.bel) hlt
      have hih:=Lib.hid hlt
      have g1:(i:Int)<(Cs.length:Int):=by omega
      have g2:(0:Int)≤(i:Int):=by omega
      have hX:Hid (∀ W,Below wr.heap.size wr W→Calls Tryz.prog 115 #[.agg #[.string N,.int .i64 1,.slice LA Lv.length lc,.slice (some ⟨b,o,none⟩) Cs.length cc],.agg #[.bool y.m,.bool y.v.b,.slice y.v.x.A y.v.x.n y.v.x.c,.slice y.v.y.A y.v.y.n y.v.y.c,.int .i64 y.l]] W fun e w'=>e=.returned (.bool (fitB 1 Lv.length y.cx))∧Below W.heap.size W w'):=Lib.hid fun W hW=>rFits_any _ _ _ _ _ _ _ _ _ _ _ _ _ _ _ _ _ _ _ W (hrd.1.below hW) (hrd.2.below hW) (hCx.out y hxm).1 (hCx.out y hxm).2
      replace hno2:=Lib.hid (hno2.out y hxm)
      have hyi:Hid (fitB 1 Lv.length y.cx=true→(Cs.take (i+1)).all (fun y=>fitB 1 Lv.length y.cx)=true):=Lib.hid fun h2=>by rw[take_snoc hx,List.all_append,hall,List.all_cons,h2];rfl
      replace e0:=Lib.hid e0
      replace e1:=Lib.hid e1
      replace e2:=Lib.hid e2
      replace e3:=Lib.hid e3
      replace e4:=Lib.hid e4
      have m0:=Lib.hid (S.out.cl 0 0 rfl rfl)
      have m1:=Lib.hid (S.out.cl 0 1 rfl rfl)
      have m2:=Lib.hid (S.out.cl 0 2 rfl rfl)
      have m3:=Lib.hid (S.out.cl 0 3 rfl rfl)
      clear hlt hin hxm hx hall hrd
      go_upto_region 11 with fail
      have hbase:=Lib.hid (St.new wr)
      refine RW.begin (Z:=[]) (S:=(fun W=>Below wr.heap.size wr W)) (by kernel_rfl) ?_ hbase.out ?_
      ·exact⟨by kernel_rfl,zis_nil,by decide,by decide,nol_nil,(fun _ _ h=>h.bel)⟩
      intro hzk
      refine RW.t (i:=0) (v:=.agg #[.string N,.int .i64 1,.slice LA Lv.length lc,.slice (some ⟨b,o,none⟩) Cs.length cc]) (some 62) at0 (hy:=fun W hS=>by (have k0:=bel_cell hS m0.out;have k1:=bel_cell hS m1.out;have k2:=bel_cell hS m2.out;have k3:=bel_cell hS m3.out;clear hS;go_simp)) (h:=?_)
      refine RW.t (i:=1) (v:=.pointer (some ⟨w.heap.size,3,none⟩)) (some 63) at1 (hy:=fun _ _=>by kernel_rfl) (h:=?_)
      refine RW.t (i:=2) (v:=.slice (some ⟨b,o,none⟩) Cs.length cc) (some 64) at2 (hy:=fun W hS=>by (have k0:=bel_cell hS m3.out;clear hS;go_simp)) (h:=?_)
      refine RW.t (i:=3) (v:=.int .i64 i) (some 65) at3 (hy:=fun _ _=>by kernel_rfl) (h:=?_)
      refine RW.t (i:=4) (v:=.pointer (some ⟨b,o+i*5,none⟩)) (some 66) at4 (hy:=fun _ _=>by go_simp) (h:=?_)
      refine RW.t (i:=5) (v:=.agg #[.bool y.m,.bool y.v.b,.slice y.v.x.A y.v.x.n y.v.x.c,.slice y.v.y.A y.v.y.n y.v.y.c,.int .i64 y.l]) (some 67) at5 (hy:=fun W hS=>by (have k0:=bel_cell hS e0.out;have k1:=bel_cell hS e1.out;have k2:=bel_cell hS e2.out;have k3:=bel_cell hS e3.out;have k4:=bel_cell hS e4.out;clear hS;go_simp)) (h:=?_)
      refine RW.c (i:=6) (args:=#[.agg #[.string N,.int .i64 1,.slice LA Lv.length lc,.slice (some ⟨b,o,none⟩) Cs.length cc],.agg #[.bool y.m,.bool y.v.b,.slice y.v.x.A y.v.x.n y.v.x.c,.slice y.v.y.A y.v.y.n y.v.y.c,.int .i64 y.l]]) (some 68) hzk.out at6 (hx:=fun _=>by kernel_rfl) (h:=fun W S=>(hX.out W (by have:=S.bel;exact this)).mono ?_)
      rintro e w7 ⟨rfl,bb⟩
      refine⟨bb,_,[],rfl,rd_nil,?_⟩
      clear S bb
      cases hv:fitB 1 Lv.length y.cx
      ·rw[hv] at hno2
       refine RW.t (i:=7) (v:=.bool true) (some 69) at7 (hy:=fun _ _=>by kernel_rfl) (h:=?_)
       refine RW.tail hzk.out (by kernel_rfl) ?_
       intro gs' w5 hgs' hS Sb
       obtain rfl:=len0 hgs'
       simp only[mark,fill,Act.put,List.setIfInBounds_toArray,List.set_cons_zero,List.set_cons_succ]
       refine Wk.done (by kernel_rfl) ?_
       have T:=Lib.hid (S.out.call hS)
       clear Sb hgs' hzk hbase hS S
       have S:=T
       clear T
       try go_simp
       have hfi:=hno2.out rfl
       subst hfi
       go_wp2
       go_ret
       exact⟨rfl,S.out.bel⟩
      ·rw[hv] at hyi
       refine RW.t (i:=7) (v:=.bool false) (some 69) at7 (hy:=fun _ _=>by kernel_rfl) (h:=?_)
       refine RW.tail hzk.out (by kernel_rfl) ?_
       intro gs' w5 hgs' hS Sb
       obtain rfl:=len0 hgs'
       simp only[mark,fill,Act.put,List.setIfInBounds_toArray,List.set_cons_zero,List.set_cons_succ]
       refine Wk.done (by kernel_rfl) ?_
       have T:=Lib.hid (S.out.call hS)
       clear Sb hgs' hzk hbase hS S
       have S:=T
       clear T
       try go_simp
       have hlt:=hih.out
       have hbb:=hb.out.2
       go_wp2
       go_roundw
       case rel=>exact⟨i+1,by omega,by go_num,S.out,hyi.out rfl⟩
       case measure=>simp[intOf];omega
     ·obtain rfl:Cs.length=i:=by omega
      have hfi:=hye.out hall2.out (by rw[←hall,List.take_length])
      subst hfi
      clear hlt hin hall
      go_wp2
      go_ret
      exact⟨rfl,S.out.bel⟩
 by_cases h2:k=2
 ·subst h2
  by_cases h0:32<Lv.length
  ·rw[show colB (Cl.lx ⟨N,2,⟨LA,lc,Lv⟩,⟨CA,cc,Cs⟩⟩) Cs.length=false by
    unfold colB levK Cl.lx
    dsimp only
    rw[decide_eq_false (by omega)];rfl]
   have g1:(32:Int)<(Lv.length:Int):=by omega
   have S:=((St.new w).allocAt (w.heap.size) #[.string N,.int .i64 2,.slice LA Lv.length lc,.slice CA Cs.length cc] 56 (noLof rfl) (by simp))
   replace S:=Lib.hid S
   go_enter Tryz.func73,Tryz.ntmps73
   go_wp2
   go_ret
   exact⟨rfl,S.out.bel⟩
  have g1:¬ (32:Int)<(Lv.length:Int):=by omega
  obtain⟨cv,hcv⟩:∃ z,z=colB (Cl.lx ⟨N,2,⟨LA,lc,Lv⟩,⟨CA,cc,Cs⟩⟩) Cs.length:=⟨_,rfl⟩
  rw[←hcv]
  have h00:=Lib.hid h0
  have hno:Hid (∀ i x,Lv[i]?=some x→inB x (Lv.take i)=true→cv=false):=Lib.hid fun i x hx h2=>by
   rw[hcv]
   have:diffB Lv=false:=by
    rw[(List.take_append_drop (i+1) Lv).symm]
    refine diff_pre ?_
    rw[take_snoc hx,diff_snoc,h2];simp
   unfold colB levK Cl.lx
   dsimp only
   rw[this];simp
  have hno2:Hid (∀ y∈Cs,fitB 2 Lv.length y.cx=false→cv=false):=Lib.hid fun y hy h2=>by
   rw[hcv]
   unfold colB Cl.lx
   dsimp only
   rw[List.all_map,List.all_eq_false.2 ⟨y,hy,by show ¬ fitB 2 Lv.length y.cx=true;rw[h2];simp⟩,Bool.and_false]
  have hye:Hid (diffB Lv=true→Cs.all (fun y=>fitB 2 Lv.length y.cx)=true→cv=true):=Lib.hid fun h1 h2=>by
   rw[hcv]
   unfold colB levK Cl.lx
   dsimp only
   rw[List.all_map,show Cs.all (fitB 2 Lv.length ∘ Ce.cx)=true from h2]
   have:=h00.out;rw[h1];simp;omega
  replace hcv:=Lib.hid hcv
  clear h0 h1
  have S:=((St.new w).allocAt (w.heap.size) #[.string N,.int .i64 2,.slice LA Lv.length lc,.slice CA Cs.length cc] 56 (noLof rfl) (by simp))
  replace S:=Lib.hid S
  go_enter Tryz.func73,Tryz.ntmps73
  go_wp2
  replace S:=Lib.hid S.out
  go_loopw [5] (fun iv wr=>∃ i:Nat,i≤Lv.length∧iv=.int .i64 i∧St w wr [(w.heap.size,#[.string N,.int .i64 2,.slice LA Lv.length lc,.slice CA Cs.length cc],56)] []∧diffB (Lv.take i)=true) (fun iv _=>Lv.length-(intOf iv).toNat)
  case atStart=>exact⟨0,Nat.zero_le _,rfl,S.out,rfl⟩
  case round=>
   clear S
   obtain⟨i,hin,rfl,S,hall⟩:=hrel
   replace S:=Lib.hid S
   by_cases hlt:i<Lv.length
   ·obtain⟨b,o,x,rfl,hx,hxm,e0⟩:=str_get (hL.out.1.bel S.out.bel) hlt
    have hih:=Lib.hid hlt
    have g1:(i:Int)<(Lv.length:Int):=by omega
    have g2:(0:Int)≤(i:Int):=by omega
    have g3:(i:Int)≤(lc:Int):=by have:=hL.out.2;omega
    have hX:Hid (∀ W,Below wr.heap.size wr W→Calls Tryz.prog 91 #[.slice (some ⟨b,o,none⟩) i lc,.string x] W fun e w'=>(∃ z,e=.returned (.int .i64 z)∧IxF (Lv.take i) (seB x) z)∧w'=W):=Lib.hid fun W hW=>rIndex_any _ _ _ _ _ W (((hL.out.1.bel S.out.bel).take_ hin).bel hW) (by have:=hb.out;omega)
    replace hno:=Lib.hid (hno.out i x hx)
    have hyi:Hid (inB x (Lv.take i)=false→diffB (Lv.take (i+1))=true):=Lib.hid fun h2=>by rw[take_snoc hx,diff_snoc,hall,h2];rfl
    replace e0:=Lib.hid e0
    have c_0:=S.out.cl 0 0 rfl rfl
    have f_0:=S.out.f 0 0 rfl
    have c_1:=S.out.cl 0 1 rfl rfl
    have f_1:=S.out.f 0 1 rfl
    have c_2:=S.out.cl 0 2 rfl rfl
    have f_2:=S.out.f 0 2 rfl
    have c_3:=S.out.cl 0 3 rfl rfl
    have f_3:=S.out.f 0 3 rfl
    have m2:=Lib.hid c_2
    have hz:w.heap.size<wr.heap.size:=S.out.lt 0 rfl
    clear hlt hin hxm hx hall
    go_upto_region 6 with fail
    clear c_0 c_1 c_2 c_3 f_0 f_1 f_2 f_3
    have hbase:=Lib.hid (St.new wr)
    refine RW.begin (Z:=[]) (S:=(fun W=>Below wr.heap.size wr W)) (by kernel_rfl) ?_ hbase.out ?_
    ·exact⟨by kernel_rfl,zis_nil,by decide,by decide,nol_nil,(fun _ _ h=>h.bel)⟩
    intro hzk
    refine RW.t (i:=0) (v:=.pointer (some ⟨w.heap.size,2,none⟩)) (some 46) at0 (hy:=fun _ _=>by kernel_rfl) (h:=?_)
    refine RW.t (i:=1) (v:=.slice (some ⟨b,o,none⟩) Lv.length lc) (some 47) at1 (hy:=fun W hS=>by (have k0:=bel_cell hS m2.out;clear hS;go_simp)) (h:=?_)
    refine RW.t (i:=2) (v:=.int .i64 i) (some 48) at2 (hy:=fun _ _=>by kernel_rfl) (h:=?_)
    refine RW.t (i:=3) (v:=.slice (some ⟨b,o,none⟩) i lc) (some 49) at3 (hy:=fun _ _=>by go_simp) (h:=?_)
    refine RW.t (i:=4) (v:=.pointer (some ⟨w.heap.size,2,none⟩)) (some 50) at4 (hy:=fun _ _=>by kernel_rfl) (h:=?_)
    refine RW.t (i:=5) (v:=.slice (some ⟨b,o,none⟩) Lv.length lc) (some 51) at5 (hy:=fun W hS=>by (have k0:=bel_cell hS m2.out;clear hS;go_simp)) (h:=?_)
    refine RW.t (i:=6) (v:=.int .i64 i) (some 52) at6 (hy:=fun _ _=>by kernel_rfl) (h:=?_)
    refine RW.t (i:=7) (v:=.pointer (some ⟨b,o+i,none⟩)) (some 53) at7 (hy:=fun _ _=>by go_simp) (h:=?_)
    refine RW.t (i:=8) (v:=.string x) (some 54) at8 (hy:=fun W hS=>by (have k0:=bel_cell hS e0.out;clear hS;go_simp)) (h:=?_)
    refine RW.c (i:=9) (args:=#[.slice (some ⟨b,o,none⟩) i lc,.string x]) (some 55) hzk.out at9 (hx:=fun _=>by kernel_rfl) (h:=fun W S=>(hX.out W (by have:=S.bel;exact this)).mono ?_)
    rintro e w7 ⟨⟨z,rfl,hz⟩,rfl⟩
    refine⟨Below.refl _ _,_,[],rfl,rd_nil,?_⟩
    clear S
    have hz2:=hz.any_
    clear hz
    by_cases hz0:0≤z
    ·rw[decide_eq_true hz0] at hz2
     replace hz2:=Lib.hid hz2
     refine RW.t (i:=10) (v:=.bool true) (some 56) at10 (hy:=fun _ _=>by go_simp) (h:=?_)
     refine RW.tail hzk.out (by kernel_rfl) ?_
     intro gs' w5 hgs' hS Sb
     obtain rfl:=len0 hgs'
     simp only[mark,fill,Act.put,List.setIfInBounds_toArray,List.set_cons_zero,List.set_cons_succ]
     refine Wk.done (by kernel_rfl) ?_
     have T:=Lib.hid (S.out.call hS)
     clear Sb hgs' hzk hbase hS S
     have S:=T
     clear T
     try go_simp
     have hfi:=hno.out hz2.out
     subst hfi
     go_wp2
     go_ret
     exact⟨rfl,S.out.bel⟩
    ·rw[decide_eq_false hz0] at hz2
     replace hz2:=Lib.hid hz2
     refine RW.t (i:=10) (v:=.bool false) (some 56) at10 (hy:=fun _ _=>by go_simp) (h:=?_)
     refine RW.tail hzk.out (by kernel_rfl) ?_
     intro gs' w5 hgs' hS Sb
     obtain rfl:=len0 hgs'
     simp only[mark,fill,Act.put,List.setIfInBounds_toArray,List.set_cons_zero,List.set_cons_succ]
     refine Wk.done (by kernel_rfl) ?_
     have T:=Lib.hid (S.out.call hS)
     clear Sb hgs' hzk hbase hS S
     have S:=T
     clear T
     try go_simp
     have hlt:=hih.out
     have hbb:=hb.out.1
     go_wp2
     go_roundw
     case rel=>exact⟨i+1,by omega,by go_num,S.out,hyi.out hz2.out⟩
     case measure=>simp[intOf];omega
   ·obtain rfl:Lv.length=i:=by omega
    have hall2:=Lib.hid (show diffB Lv=true by rw[←hall,List.take_length])
    have c_0:=S.out.cl 0 0 rfl rfl
    have f_0:=S.out.f 0 0 rfl
    have c_1:=S.out.cl 0 1 rfl rfl
    have f_1:=S.out.f 0 1 rfl
    have c_2:=S.out.cl 0 2 rfl rfl
    have f_2:=S.out.f 0 2 rfl
    have c_3:=S.out.cl 0 3 rfl rfl
    have f_3:=S.out.f 0 3 rfl
    have hz:w.heap.size<wr.heap.size:=S.out.lt 0 rfl
    clear hlt hin hall
    go_wp2
    clear c_0 c_1 c_2 c_3 f_0 f_1 f_2 f_3
    go_loopw [6] (fun iv wr=>∃ i:Nat,i≤Cs.length∧iv=.int .i64 i∧St w wr [(w.heap.size,#[.string N,.int .i64 2,.slice LA Lv.length lc,.slice CA Cs.length cc],56)] []∧(Cs.take i).all (fun y=>fitB 2 Lv.length y.cx)=true) (fun iv _=>Cs.length-(intOf iv).toNat)
    case atStart=>exact⟨0,Nat.zero_le _,rfl,S.out,rfl⟩
    case round=>
     clear S
     obtain⟨i,hin,rfl,S,hall⟩:=hrel
     replace S:=Lib.hid S
     by_cases hlt:i<Cs.length
     ·obtain⟨b,o,y,rfl,hx,hxm,hrd,e0,e1,e2,e3,e4⟩:=ce_get (hC.out.1.bel S.out.bel) hlt
      have hih:=Lib.hid hlt
      have g1:(i:Int)<(Cs.length:Int):=by omega
      have g2:(0:Int)≤(i:Int):=by omega
      have hX:Hid (∀ W,Below wr.heap.size wr W→Calls Tryz.prog 115 #[.agg #[.string N,.int .i64 2,.slice LA Lv.length lc,.slice (some ⟨b,o,none⟩) Cs.length cc],.agg #[.bool y.m,.bool y.v.b,.slice y.v.x.A y.v.x.n y.v.x.c,.slice y.v.y.A y.v.y.n y.v.y.c,.int .i64 y.l]] W fun e w'=>e=.returned (.bool (fitB 2 Lv.length y.cx))∧Below W.heap.size W w'):=Lib.hid fun W hW=>rFits_any _ _ _ _ _ _ _ _ _ _ _ _ _ _ _ _ _ _ _ W (hrd.1.below hW) (hrd.2.below hW) (hCx.out y hxm).1 (hCx.out y hxm).2
      replace hno2:=Lib.hid (hno2.out y hxm)
      have hyi:Hid (fitB 2 Lv.length y.cx=true→(Cs.take (i+1)).all (fun y=>fitB 2 Lv.length y.cx)=true):=Lib.hid fun h2=>by rw[take_snoc hx,List.all_append,hall,List.all_cons,h2];rfl
      replace e0:=Lib.hid e0
      replace e1:=Lib.hid e1
      replace e2:=Lib.hid e2
      replace e3:=Lib.hid e3
      replace e4:=Lib.hid e4
      have m0:=Lib.hid (S.out.cl 0 0 rfl rfl)
      have m1:=Lib.hid (S.out.cl 0 1 rfl rfl)
      have m2:=Lib.hid (S.out.cl 0 2 rfl rfl)
      have m3:=Lib.hid (S.out.cl 0 3 rfl rfl)
      clear hlt hin hxm hx hall hrd
      go_upto_region 11 with fail
      have hbase:=Lib.hid (St.new wr)
      refine RW.begin (Z:=[]) (S:=(fun W=>Below wr.heap.size wr W)) (by kernel_rfl) ?_ hbase.out ?_
      ·exact⟨by kernel_rfl,zis_nil,by decide,by decide,nol_nil,(fun _ _ h=>h.bel)⟩
      intro hzk
      refine RW.t (i:=0) (v:=.agg #[.string N,.int .i64 2,.slice LA Lv.length lc,.slice (some ⟨b,o,none⟩) Cs.length cc]) (some 62) at0 (hy:=fun W hS=>by (have k0:=bel_cell hS m0.out;have k1:=bel_cell hS m1.out;have k2:=bel_cell hS m2.out;have k3:=bel_cell hS m3.out;clear hS;go_simp)) (h:=?_)
      refine RW.t (i:=1) (v:=.pointer (some ⟨w.heap.size,3,none⟩)) (some 63) at1 (hy:=fun _ _=>by kernel_rfl) (h:=?_)
      refine RW.t (i:=2) (v:=.slice (some ⟨b,o,none⟩) Cs.length cc) (some 64) at2 (hy:=fun W hS=>by (have k0:=bel_cell hS m3.out;clear hS;go_simp)) (h:=?_)
      refine RW.t (i:=3) (v:=.int .i64 i) (some 65) at3 (hy:=fun _ _=>by kernel_rfl) (h:=?_)
      refine RW.t (i:=4) (v:=.pointer (some ⟨b,o+i*5,none⟩)) (some 66) at4 (hy:=fun _ _=>by go_simp) (h:=?_)
      refine RW.t (i:=5) (v:=.agg #[.bool y.m,.bool y.v.b,.slice y.v.x.A y.v.x.n y.v.x.c,.slice y.v.y.A y.v.y.n y.v.y.c,.int .i64 y.l]) (some 67) at5 (hy:=fun W hS=>by (have k0:=bel_cell hS e0.out;have k1:=bel_cell hS e1.out;have k2:=bel_cell hS e2.out;have k3:=bel_cell hS e3.out;have k4:=bel_cell hS e4.out;clear hS;go_simp)) (h:=?_)
      refine RW.c (i:=6) (args:=#[.agg #[.string N,.int .i64 2,.slice LA Lv.length lc,.slice (some ⟨b,o,none⟩) Cs.length cc],.agg #[.bool y.m,.bool y.v.b,.slice y.v.x.A y.v.x.n y.v.x.c,.slice y.v.y.A y.v.y.n y.v.y.c,.int .i64 y.l]]) (some 68) hzk.out at6 (hx:=fun _=>by kernel_rfl) (h:=fun W S=>(hX.out W (by have:=S.bel;exact this)).mono ?_)
      rintro e w7 ⟨rfl,bb⟩
      refine⟨bb,_,[],rfl,rd_nil,?_⟩
      clear S bb
      cases hv:fitB 2 Lv.length y.cx
      ·rw[hv] at hno2
       refine RW.t (i:=7) (v:=.bool true) (some 69) at7 (hy:=fun _ _=>by kernel_rfl) (h:=?_)
       refine RW.tail hzk.out (by kernel_rfl) ?_
       intro gs' w5 hgs' hS Sb
       obtain rfl:=len0 hgs'
       simp only[mark,fill,Act.put,List.setIfInBounds_toArray,List.set_cons_zero,List.set_cons_succ]
       refine Wk.done (by kernel_rfl) ?_
       have T:=Lib.hid (S.out.call hS)
       clear Sb hgs' hzk hbase hS S
       have S:=T
       clear T
       try go_simp
       have hfi:=hno2.out rfl
       subst hfi
       go_wp2
       go_ret
       exact⟨rfl,S.out.bel⟩
      ·rw[hv] at hyi
       refine RW.t (i:=7) (v:=.bool false) (some 69) at7 (hy:=fun _ _=>by kernel_rfl) (h:=?_)
       refine RW.tail hzk.out (by kernel_rfl) ?_
       intro gs' w5 hgs' hS Sb
       obtain rfl:=len0 hgs'
       simp only[mark,fill,Act.put,List.setIfInBounds_toArray,List.set_cons_zero,List.set_cons_succ]
       refine Wk.done (by kernel_rfl) ?_
       have T:=Lib.hid (S.out.call hS)
       clear Sb hgs' hzk hbase hS S
       have S:=T
       clear T
       try go_simp
       have hlt:=hih.out
       have hbb:=hb.out.2
       go_wp2
       go_roundw
       case rel=>exact⟨i+1,by omega,by go_num,S.out,hyi.out rfl⟩
       case measure=>simp[intOf];omega
     ·obtain rfl:Cs.length=i:=by omega
      have hfi:=hye.out hall2.out (by rw[←hall,List.take_length])
      subst hfi
      clear hlt hin hall
      go_wp2
      go_ret
      exact⟨rfl,S.out.bel⟩
 ·rw[show colB (Cl.lx ⟨N,k,⟨LA,lc,Lv⟩,⟨CA,cc,Cs⟩⟩) Cs.length=false by
   unfold colB levK Cl.lx
   dsimp only
   rw[if_neg (by simpa using h1),if_neg (by simpa using h2)];rfl]
  have g2:(k==1)=false:=beq_eq_false_iff_ne.2 h1
  have g3:(k==2)=false:=beq_eq_false_iff_ne.2 h2
  replace h1:=Lib.hid h1
  replace h2:=Lib.hid h2
  have S:=((St.new w).allocAt (w.heap.size) #[.string N,.int .i64 k,.slice LA Lv.length lc,.slice CA Cs.length cc] 56 (noLof rfl) (by simp))
  replace S:=Lib.hid S
  go_enter Tryz.func73,Tryz.ntmps73
  go_wp2
  go_ret
  exact⟨rfl,S.out.bel⟩
end Go.Proofs.YtdeedofmflelfaaGreatDoor

namespace Go.Proofs.YtdeedofmflelfaaGreatDoor
open Go.RowKit RQ
set_option linter.unusedVariables false
set_option maxRecDepth 100000 in
set_option maxHeartbeats 4000000 in
theorem rValid_any (r:Int) (TA:Option Addr) (tn tc:Nat) (L:List Cl) (w:World) (h:LR clC w TA tn L) (hx:∀ x∈L,LtL x):Calls Tryz.prog 30 #[.agg #[.int .i64 r,.slice TA tn tc]] w fun e w'=>e=.returned (.bool (tabB r (L.map Cl.lx)))∧Below w.heap.size w w':=by
 have hlen:=h.len
 by_cases h1:r<0
 ·rw[show tabB r (L.map Cl.lx)=false by unfold tabB;rw[decide_eq_false (by omega)];rfl]
  clear h hx hlen
  have S:=((St.new w).allocAt (w.heap.size) #[.int .i64 r,.slice TA tn tc] 37 (noLof rfl) (by simp))
  replace S:=Lib.hid S
  go_enter Tryz.func30,Tryz.ntmps30
  go_wp2
  go_ret
  exact⟨rfl,S.out.bel⟩
 by_cases h2:1024<r
 ·rw[show tabB r (L.map Cl.lx)=false by unfold tabB;rw[decide_eq_false (p:=r≤1024) (by omega),Bool.and_false];rfl]
  clear h hx hlen
  have S:=((St.new w).allocAt (w.heap.size) #[.int .i64 r,.slice TA tn tc] 37 (noLof rfl) (by simp))
  replace S:=Lib.hid S
  go_enter Tryz.func30,Tryz.ntmps30
  go_wp2
  go_ret
  exact⟨rfl,S.out.bel⟩
 by_cases h3:32<tn
 ·rw[show tabB r (L.map Cl.lx)=false by unfold tabB;rw[List.length_map,decide_eq_false (p:=L.length≤32) (by omega),Bool.and_false];rfl]
  have g3:(32:Int)<(tn:Int):=by omega
  clear h hx hlen h3
  have S:=((St.new w).allocAt (w.heap.size) #[.int .i64 r,.slice TA tn tc] 37 (noLof rfl) (by simp))
  replace S:=Lib.hid S
  go_enter Tryz.func30,Tryz.ntmps30
  go_wp2
  go_ret
  exact⟨rfl,S.out.bel⟩
 have g3:¬ (32:Int)<(tn:Int):=by omega
 obtain⟨cv,hcv⟩:∃ z,z=tabB r (L.map Cl.lx):=⟨_,rfl⟩
 rw[←hcv]
 have hno2:Hid (∀ x∈L,colB x.lx r=false→cv=false):=Lib.hid fun y hy h2=>by
  rw[hcv]
  unfold tabB
  rw[List.all_eq_false.2 ⟨y.lx,List.mem_map_of_mem hy,by rw[h2];simp⟩,Bool.and_false]
 have hye:Hid (L.all (fun x=>colB x.lx r)=true→cv=namesB (L.map (·.n))):=Lib.hid fun h0=>by
  rw[hcv]
  unfold tabB
  rw[decide_eq_true (show 0≤r by omega),decide_eq_true (show r≤1024 by omega),decide_eq_true (show (L.map Cl.lx).length≤32 by rw[List.length_map];omega),List.map_map,List.all_map,show L.all ((fun x=>colB x r) ∘ Cl.lx)=true from h0]
  simp only[Bool.true_and,Bool.and_true]
  rfl
 have hb:Hid (tn≤32):=Lib.hid (by omega)
 replace hcv:=Lib.hid hcv
 have hT:=Lib.hid h
 replace hx:=Lib.hid hx
 replace hlen:=Lib.hid hlen
 clear h h3
 have S:=((St.new w).allocAt (w.heap.size) #[.int .i64 r,.slice TA tn tc] 37 (noLof rfl) (by simp))
 replace S:=Lib.hid S
 go_enter Tryz.func30,Tryz.ntmps30
 go_wp2
 replace S:=Lib.hid S.out
 go_loopw [3,4] (fun av iv wr=>∃ i:Nat,i≤tn∧iv=.int .i64 i∧Gro strC w wr [(w.heap.size,#[.int .i64 r,.slice TA tn tc],37)] [] 9 av ((L.take i).map (·.n))∧(L.take i).all (fun x=>colB x.lx r)=true) (fun _ iv _=>tn-(intOf iv).toNat)
 case atStart=>exact⟨0,Nat.zero_le _,rfl,Gro.nil_ strC S.out _,rfl⟩
 case round=>
  clear S
  obtain⟨i,hin,rfl,G,hall⟩:=hrel
  obtain⟨c_0,c_1,f_0,f_1⟩:=G.st.cf2 0 rfl
  have hz:w.heap.size<wr.heap.size:=G.st.lt 0 rfl
  by_cases hlt:i<tn
  ·obtain⟨b,o,x,rfl,hxe,hxm,hxa,e0,e1,e2,e3⟩:=cl_get (hT.out.bel G.st.bel) hlt
   have hih:=Lib.hid hlt
   have g1:(i:Int)<(tn:Int):=by omega
   have g2:(0:Int)≤(i:Int):=by omega
   have hX:Hid (∀ w4,Below w.heap.size w w4→∀ W,Below w4.heap.size w4 W→Calls Tryz.prog 73 #[.agg #[.string x.n,.int .i64 x.k,.slice x.lv.A x.lv.L.length x.lv.c,.slice x.ce.A x.ce.L.length x.ce.c],.int .i64 r] W fun e w'=>e=.returned (.bool (colB x.lx r))∧Below W.heap.size W w'):=Lib.hid fun w4 h4 W hW=>rcolumn_any x r W (cl_at.1 (((hT.out.bel h4).bel hW).el x hxm)) (hx.out x hxm)
   replace hno2:=Lib.hid (hno2.out x hxm)
   have hyi:Hid (colB x.lx r=true→(L.take (i+1)).all (fun x=>colB x.lx r)=true):=Lib.hid fun h2=>by rw[take_snoc hxe,List.all_append,hall,List.all_cons,h2];rfl
   have hst:Hid ((L.take (i+1)).map (·.n)=(L.take i).map (·.n)++[x.n]):=Lib.hid (by rw[take_snoc hxe,List.map_append];rfl)
   have hli:Hid (((L.take i).map (·.n)).length=i):=Lib.hid (by rw[List.length_map,List.length_take,hlen.out];omega)
   have hxe:=Lib.hid hxe
   have GA:=Lib.hid (G.alloc #[.string x.n] 9 (noLof rfl))
   clear hlt hin hxm hxa hall G
   go_wp2_with (at_builtin;refine Gro.wp2 rfl (.tmp 26) (.tmp 33) 22 rfl (.string ByteArray.empty) 16 Tryz.underlying22 (by kernel_rfl) rfl (fun v hv z e=>by simp[Value.cells] at hv;subst hv;cases e) rfl GA.out wr.heap.size x.n rfl ((GA.out.st).cb 0 rfl) trivial (by have:=hli.out;have:=hb.out;have:=hih.out;omega) (by have:=hli.out;have:=hb.out;have:=hih.out;unfold maxLen;omega) ?_)
   intro av1 w4 G1 hmk
   replace G1:=Lib.hid (G1.sub (fun _ _=>trivial))
   replace hX:=Lib.hid (hX.out w4 G1.out.st.bel)
   clear GA hmk c_0 c_1 f_0 f_1 hz e0 e1 e2 e3
   have e0:Hid (w4.cell? ⟨b,o+i*4,none⟩=some (.string x.n)):=Lib.hid (lr_cell (hT.out.bel G1.out.st.bel) hxe.out (k:=0) rfl)
   have e1:Hid (w4.cell? ⟨b,o+i*4+1,none⟩=some (.int .i64 x.k)):=Lib.hid (lr_cell (hT.out.bel G1.out.st.bel) hxe.out (k:=1) rfl)
   have e2:Hid (w4.cell? ⟨b,o+i*4+2,none⟩=some (.slice x.lv.A x.lv.L.length x.lv.c)):=Lib.hid (lr_cell (hT.out.bel G1.out.st.bel) hxe.out (k:=2) rfl)
   have e3:Hid (w4.cell? ⟨b,o+i*4+3,none⟩=some (.slice x.ce.A x.ce.L.length x.ce.c)):=Lib.hid (lr_cell (hT.out.bel G1.out.st.bel) hxe.out (k:=3) rfl)
   have m0:=Lib.hid (G1.out.st.cl 0 0 rfl rfl)
   have m1:=Lib.hid (G1.out.st.cl 0 1 rfl rfl)
   go_upto_region 8 with fail
   have hbase:=Lib.hid (St.new w4)
   refine RW.begin (Z:=[]) (S:=(fun W=>Below w4.heap.size w4 W)) (by kernel_rfl) ?_ hbase.out ?_
   ·exact⟨by kernel_rfl,zis_nil,by decide,by decide,nol_nil,(fun _ _ h=>h.bel)⟩
   intro hzk
   refine RW.t (i:=0) (v:=.pointer (some ⟨w.heap.size,1,none⟩)) (some 35) at0 (hy:=fun _ _=>by kernel_rfl) (h:=?_)
   refine RW.t (i:=1) (v:=.slice (some ⟨b,o,none⟩) tn tc) (some 36) at1 (hy:=fun W hS=>by (have k0:=bel_cell hS m1.out;clear hS;go_simp)) (h:=?_)
   refine RW.t (i:=2) (v:=.int .i64 i) (some 37) at2 (hy:=fun _ _=>by kernel_rfl) (h:=?_)
   refine RW.t (i:=3) (v:=.pointer (some ⟨b,o+i*4,none⟩)) (some 38) at3 (hy:=fun _ _=>by go_simp) (h:=?_)
   refine RW.t (i:=4) (v:=.agg #[.string x.n,.int .i64 x.k,.slice x.lv.A x.lv.L.length x.lv.c,.slice x.ce.A x.ce.L.length x.ce.c]) (some 39) at4 (hy:=fun W hS=>by (have k0:=bel_cell hS e0.out;have k1:=bel_cell hS e1.out;have k2:=bel_cell hS e2.out;have k3:=bel_cell hS e3.out;clear hS;go_simp)) (h:=?_)
   refine RW.t (i:=5) (v:=.pointer (some ⟨w.heap.size,0,none⟩)) (some 40) at5 (hy:=fun _ _=>by kernel_rfl) (h:=?_)
   refine RW.t (i:=6) (v:=.int .i64 r) (some 41) at6 (hy:=fun W hS=>by (have k0:=bel_cell hS m0.out;clear hS;go_simp)) (h:=?_)
   refine RW.c (i:=7) (args:=#[.agg #[.string x.n,.int .i64 x.k,.slice x.lv.A x.lv.L.length x.lv.c,.slice x.ce.A x.ce.L.length x.ce.c],.int .i64 r]) (some 42) hzk.out at7 (hx:=fun _=>by kernel_rfl) (h:=fun W S=>(hX.out W (by have:=S.bel;exact this)).mono ?_)
   rintro e w7 ⟨rfl,bb⟩
   refine⟨bb,_,[],rfl,rd_nil,?_⟩
   clear S bb
   cases hv:colB x.lx r
   ·rw[hv] at hno2
    refine RW.t (i:=8) (v:=.bool true) (some 43) at8 (hy:=fun _ _=>by kernel_rfl) (h:=?_)
    refine RW.tail hzk.out (by kernel_rfl) ?_
    intro gs' w5 hgs' hS Sb
    obtain rfl:=len0 hgs'
    simp only[mark,fill,Act.put,List.setIfInBounds_toArray,List.set_cons_zero,List.set_cons_succ]
    refine Wk.done (by kernel_rfl) ?_
    have T:=Lib.hid (G1.out.call hS)
    clear Sb hgs' hzk hbase hS G1
    have G1:=T
    clear T
    try go_simp
    have hfi:=hno2.out rfl
    subst hfi
    go_wp2
    go_ret
    exact⟨rfl,G1.out.st.bel⟩
   ·rw[hv] at hyi
    refine RW.t (i:=8) (v:=.bool false) (some 43) at8 (hy:=fun _ _=>by kernel_rfl) (h:=?_)
    refine RW.tail hzk.out (by kernel_rfl) ?_
    intro gs' w5 hgs' hS Sb
    obtain rfl:=len0 hgs'
    simp only[mark,fill,Act.put,List.setIfInBounds_toArray,List.set_cons_zero,List.set_cons_succ]
    refine Wk.done (by kernel_rfl) ?_
    have T:=Lib.hid (G1.out.call hS)
    clear Sb hgs' hzk hbase hS G1
    have G1:=T
    clear T
    try go_simp
    have hlt:=hih.out
    have hbb:=hb.out
    go_wp2
    go_roundw
    case rel=>exact⟨i+1,by omega,by go_num,by rw[hst.out,List.map_take];exact G1.out,hyi.out rfl⟩
    case measure=>simp[intOf];omega
  ·obtain rfl:tn=i:=by omega
   rw[show L.take tn=L from List.take_of_length_le (by rw[hlen.out];exact Nat.le_refl _)] at G hall
   have hfi:=Lib.hid (hye.out hall)
   obtain⟨l,ob,hav,hl,hob,S2⟩:=G.opt
   obtain⟨l1,l2⟩:=OBt.lr hob S2
   have hll:l.L.length=tn:=by rw[hl,List.length_map,hlen.out]
   rw[hll] at l1 l2
   have hN:=rnames_any l.L l.A tn l.c wr l1 (by have:=hb.out;omega) l2
   rw[hl,←hfi.out] at hN
   replace hav:=hav.trans (show l.v=Value.slice l.A tn l.c by rw[←hll];rfl)
   subst hav
   obtain⟨lA,lc,lL⟩:=l
   dsimp only at hN ⊢
   replace hN:=Lib.hid hN
   have hbl:=Lib.hid G.st.bel
   clear hlt hin hall G hob S2 l1 l2 hl hll
   go_wp2_with fail
   refine hN.out.mono ?_
   rintro e w1 ⟨rfl,bb⟩
   replace bb:=Lib.hid (hbl.out.trans (bb.mono hbl.out.size))
   go_wp2
   go_ret
   exact⟨rfl,bb.out⟩
end Go.Proofs.YtdeedofmflelfaaGreatDoor

namespace Go.Proofs.YtdeedofmflelfaaGreatDoor
open Go.RowKit RQ
set_option linter.unusedVariables false
set_option maxRecDepth 100000 in
set_option maxHeartbeats 4000000 in
theorem rFind_yes (r:Int) (TA:Option Addr) (tn tc:Nat) (L:List Cl) (s:ByteArray) (w:World) (h:LR clC w TA tn L) (hx:∀ x∈L,LtL x) (hb:tn≤32) (hv:tabB r (L.map Cl.lx)=true):Calls Tryz.prog 37 #[.agg #[.int .i64 r,.slice TA tn tc],.string s] w fun e w'=>(∃ z,e=.returned (.int .i64 z)∧IxF L (fun x=>seB x.n s) z)∧Below w.heap.size w w':=by
 have hV:Hid (∀ W,Below w.heap.size w W→Calls Tryz.prog 30 #[.agg #[.int .i64 r,.slice TA tn tc]] W fun e w'=>e=.returned (.bool true)∧Below W.heap.size W w'):=Lib.hid fun W hW=>by
  have:=rValid_any r TA tn tc L W (h.bel hW) hx
  rwa [hv] at this
 have hlen:=Lib.hid h.len
 replace h:=Lib.hid h
 replace hb:=Lib.hid hb
 clear hx hv
 have S:=((St.new w).allocAt (w.heap.size) #[.int .i64 r,.slice TA tn tc] 37 (noLof rfl) (by simp))
 replace S:=Lib.hid S
 go_enter Tryz.func37,Tryz.ntmps37
 go_wp2_with fail
 refine (hV.out _ S.out.bel).mono ?_
 rintro e w1 ⟨rfl,bb⟩
 have T:=(S.out.call bb)
 clear bb S
 have S:=T
 clear T
 obtain⟨c_x0,c_x1,f_x0,f_x1⟩:=S.cf2 0 rfl
 have hz:w.heap.size<w1.heap.size:=S.lt 0 rfl
 replace S:=Lib.hid S
 go_wp2
 replace S:=Lib.hid S.out
 go_loopw [5] (fun iv wr=>∃ i:Nat,i≤tn∧iv=.int .i64 i∧St w wr [(w.heap.size,#[.int .i64 r,.slice TA tn tc],37)] []∧(∀ j t,j<i→L[j]?=some t→seB t.n s=false)) (fun iv _=>tn-(intOf iv).toNat)
 case atStart=>exact⟨0,Nat.zero_le _,rfl,S.out,fun j s h0=>absurd h0 (Nat.not_lt_zero _)⟩
 case round=>
  clear S
  obtain⟨i,hin,rfl,S,hall⟩:=hrel
  obtain⟨c_0,c_1,f_0,f_1⟩:=S.cf2 0 rfl
  have hz:w.heap.size<wr.heap.size:=S.lt 0 rfl
  by_cases hlt:i<tn
  ·obtain⟨b,o,x,rfl,hx,hxm,hxa,e0,e1,e2,e3⟩:=cl_get (h.out.bel S.bel) hlt
   have hih:=Lib.hid hlt
   have g1:(i:Int)<(tn:Int):=by omega
   have g2:(0:Int)≤(i:Int):=by omega
   replace hall:=Lib.hid hall
   replace hx:=Lib.hid hx
   replace S:=Lib.hid S
   clear hlt hin hxm hxa
   cases hv:seB x.n s
   ·have g3:(x.n.toList==s.toList)=false:=hv
    replace hv:=Lib.hid hv
    have hlt:=hih.out
    have hbb:=hb.out
    go_wp2
    go_roundw
    case rel=>exact⟨i+1,by omega,by go_num,S.out,fun j' t h1 h2=>(by rcases Nat.lt_or_ge j' i with h3 | h3;exact hall.out j' t h3 h2;obtain rfl:j'=i:=(by omega);rw[hx.out] at h2;injection h2 with h2;subst h2;exact hv.out)⟩
    case measure=>simp[intOf];omega
   ·have g3:(x.n.toList==s.toList)=true:=hv
    replace hv:=Lib.hid hv
    go_wp2
    go_ret
    exact⟨⟨_,rfl,.inr ⟨i,x,rfl,hx.out,hv.out,hall.out⟩⟩,S.out.bel⟩
  ·obtain rfl:tn=i:=by omega
   have hfin:Hid (∀ r∈L,seB r.n s=false):=Lib.hid fun r hr=>by
    obtain⟨k,hk⟩:=List.getElem?_of_mem hr
    exact hall k r (by rw[←hlen.out];exact (List.getElem?_eq_some_iff.1 hk).1) hk
   replace S:=Lib.hid S
   clear hall hin hlt
   go_wp2
   go_ret
   exact⟨⟨-1,rfl,.inl ⟨rfl,hfin.out⟩⟩,S.out.bel⟩
theorem mmod_eq (k n:Int) (h0:0<n):k%n=if k.tmod n<0 then k.tmod n+n else k.tmod n:=by
 have e1:=Int.tmod_add_mul_tdiv k n
 have l1:k.tmod n<n:=Int.tmod_lt_of_pos k h0
 have l2 : -n<k.tmod n:=Int.lt_tmod_of_pos k h0
 split
 ·rename_i h
  have:k=(k.tmod n+n)+n*(k.tdiv n-1):=by rw[Int.mul_sub];omega
  conv=>lhs;rw[this]
  rw[Int.add_mul_emod_self_left]
  exact Int.emod_eq_of_lt (by omega) (by omega)
 ·rename_i h
  conv=>lhs;rw[←e1]
  rw[Int.add_mul_emod_self_left]
  exact Int.emod_eq_of_lt (by omega) l1
set_option maxRecDepth 100000 in
set_option maxHeartbeats 4000000 in
theorem mmod_any (k n:Int) (w:World) (h0:0<n) (h1:n≤100000):Calls Tryz.prog 23 #[.int .i64 k,.int .i64 n] w fun e w'=>e=.returned (.int .i64 (k%n))∧w'=w:=by
 rw[mmod_eq k n h0]
 have l1:k.tmod n<n:=Int.tmod_lt_of_pos k h0
 have l2 : -n<k.tmod n:=Int.lt_tmod_of_pos k h0
 have g0:¬ n=0:=by omega
 have w1:∀ m:Int,-n<m→m<0→wrap64 (m+n)=m+n:=fun m h2 h3=>by unfold wrap64;omega
 by_cases hm:k.tmod n<0
 ·rw[if_pos hm,←w1 _ l2 hm]
  clear w1 l1 l2
  go_enter Tryz.func23,Tryz.ntmps23
  go_wp2
  go_ret
  exact⟨rfl,rfl⟩
 ·rw[if_neg hm]
  clear w1 l1 l2
  go_enter Tryz.func23,Tryz.ntmps23
  go_wp2
  go_ret
  exact⟨rfl,rfl⟩
set_option maxRecDepth 100000 in
set_option maxHeartbeats 4000000 in
theorem mLight_any (b:Bool) (A:Option Addr) (n c:Nat) (D:Option Addr) (m d:Nat) (w:World):Calls Tryz.prog 54 #[.agg #[.bool b,.slice A n c,.slice D m d]] w fun e w'=>(∃ v:Bool,e=.returned (.bool v)∧(v=true→n≤8∧m≤8))∧Below w.heap.size w w':=by
 by_cases h1:n≤8
 ·have g1:(n:Int)≤8:=by omega
  by_cases h2:m≤8
  ·have g2:(m:Int)≤8:=by omega
   have hh:=Lib.hid (And.intro h1 h2)
   clear h1 h2
   have S:=((St.new w).allocAt (w.heap.size) #[.bool b,.slice A n c,.slice D m d] 46 (noLof rfl) (by simp))
   replace S:=Lib.hid S
   go_enter Tryz.func54,Tryz.ntmps54
   go_wp2
   go_ret
   exact⟨⟨_,rfl,fun _=>hh.out⟩,S.out.bel⟩
  ·have g2:¬ (m:Int)≤8:=by omega
   clear h1 h2
   have S:=((St.new w).allocAt (w.heap.size) #[.bool b,.slice A n c,.slice D m d] 46 (noLof rfl) (by simp))
   replace S:=Lib.hid S
   go_enter Tryz.func54,Tryz.ntmps54
   go_wp2
   go_ret
   exact⟨by first | exact .inl rfl | exact .inr rfl | exact⟨_,rfl,nofun⟩,S.out.bel⟩
 ·have g1:¬ (n:Int)≤8:=by omega
  clear h1
  have S:=((St.new w).allocAt (w.heap.size) #[.bool b,.slice A n c,.slice D m d] 46 (noLof rfl) (by simp))
  replace S:=Lib.hid S
  go_enter Tryz.func54,Tryz.ntmps54
  go_wp2
  go_ret
  exact⟨by first | exact .inl rfl | exact .inr rfl | exact⟨_,rfl,nofun⟩,S.out.bel⟩
set_option maxRecDepth 100000 in
set_option maxHeartbeats 4000000 in
theorem lstrings_any (L:List ByteArray) (A:Option Addr) (n c:Nat) (w:World) (h:LR strC w A n L):Calls Tryz.prog 10 #[.slice A n c] w fun e w'=>(∃ v:Bool,e=.returned (.bool v)∧(v=true→n≤40∧∀ s∈L,s.size≤60))∧w'=w:=by
 by_cases h0:40<n
 ·have g0:(40:Int)<(n:Int):=by omega
  clear h h0
  go_enter Tryz.func10,Tryz.ntmps10
  go_wp2
  go_ret
  exact⟨⟨_,rfl,nofun⟩,rfl⟩
 have g0:¬ (40:Int)<(n:Int):=by omega
 have hb:Hid (n≤40):=Lib.hid (by omega)
 have hlen:=Lib.hid h.len
 replace h:=Lib.hid h
 clear h0
 go_enter Tryz.func10,Tryz.ntmps10
 go_wp2
 go_loopw [3] (fun iv wr=>∃ i:Nat,i≤n∧iv=.int .i64 i∧wr=w∧(∀ j t,j<i→L[j]?=some t→t.size≤60)) (fun iv _=>n-(intOf iv).toNat)
 case atStart=>exact⟨0,Nat.zero_le _,rfl,rfl,fun j s h0=>absurd h0 (Nat.not_lt_zero _)⟩
 case round=>
  obtain⟨i,hin,rfl,rfl,hall⟩:=hrel
  by_cases hlt:i<n
  ·obtain⟨b,o,x,rfl,hx,hxm,e0⟩:=str_get h.out hlt
   have hih:=Lib.hid hlt
   have g1:(i:Int)<(n:Int):=by omega
   have g2:(0:Int)≤(i:Int):=by omega
   replace hall:=Lib.hid hall
   replace hx:=Lib.hid hx
   clear hlt hin hxm
   by_cases hs:60<x.size
   ·have g3:(60:Int)<(x.size:Int):=by omega
    clear hs
    go_wp2
    go_ret
    exact⟨⟨_,rfl,nofun⟩,rfl⟩
   ·have g3:¬ (60:Int)<(x.size:Int):=by omega
    replace hs:=Lib.hid hs
    have hlt:=hih.out
    have hbb:=hb.out
    go_wp2
    go_roundw
    case rel=>exact⟨i+1,by omega,by go_num,(by first | rfl | trivial),fun j' t h1 h2=>(by rcases Nat.lt_or_ge j' i with h3 | h3;exact hall.out j' t h3 h2;obtain rfl:j'=i:=(by omega);rw[hx.out] at h2;injection h2 with h2;subst h2;have:=hs.out;omega)⟩
    case measure=>simp[intOf];omega
  ·obtain rfl:n=i:=by omega
   have hfin:Hid (∀ r∈L,r.size≤60):=Lib.hid fun r hr=>by
    obtain⟨k,hk⟩:=List.getElem?_of_mem hr
    exact hall k r (by rw[←hlen.out];exact (List.getElem?_eq_some_iff.1 hk).1) hk
   clear hall hin hlt
   go_wp2
   go_ret
   exact⟨⟨_,rfl,fun _=>⟨hb.out,hfin.out⟩⟩,rfl⟩
set_option maxRecDepth 100000 in
set_option maxHeartbeats 4000000 in
theorem lcells_any (L:List Ce) (A:Option Addr) (n c:Nat) (w:World) (h:LR ceC w A n L):Calls Tryz.prog 29 #[.slice A n c] w fun e w'=>(∃ v:Bool,e=.returned (.bool v)∧(v=true→n≤40∧∀ y∈L,y.v.x.n≤8∧y.v.y.n≤8))∧Below w.heap.size w w':=by
 by_cases h0:40<n
 ·have g0:(40:Int)<(n:Int):=by omega
  clear h h0
  go_enter Tryz.func29,Tryz.ntmps29
  go_wp2
  go_ret
  exact⟨⟨_,rfl,nofun⟩,Below.refl _ _⟩
 have g0:¬ (40:Int)<(n:Int):=by omega
 have hb:Hid (n≤40):=Lib.hid (by omega)
 have hlen:=Lib.hid h.len
 replace h:=Lib.hid h
 have hLt:=Lib.hid (fun b A n c D m d W=>mLight_any b A n c D m d W)
 clear h0
 go_enter Tryz.func29,Tryz.ntmps29
 go_wp2
 go_loopw [3] (fun iv wr=>∃ i:Nat,i≤n∧iv=.int .i64 i∧Below w.heap.size w wr∧(∀ j (t:Ce),j<i→L[j]?=some t→t.v.x.n≤8∧t.v.y.n≤8)) (fun iv _=>n-(intOf iv).toNat)
 case atStart=>exact⟨0,Nat.zero_le _,rfl,Below.refl _ _,fun j s h0=>absurd h0 (Nat.not_lt_zero _)⟩
 case round=>
  obtain⟨i,hin,rfl,B,hall⟩:=hrel
  by_cases hlt:i<n
  ·obtain⟨b,o,x,rfl,hx,hxm,hxa,e0,e1,e2,e3,e4⟩:=ce_get (h.out.bel B) hlt
   have hih:=Lib.hid hlt
   have g1:(i:Int)<(n:Int):=by omega
   have g2:(0:Int)≤(i:Int):=by omega
   replace hall:=Lib.hid hall
   replace hx:=Lib.hid hx
   replace B:=Lib.hid B
   clear hlt hin hxm hxa
   go_wp2_with fail
   refine (hLt.out _ _ _ _ _ _ _ _).mono ?_
   rintro e w1 ⟨⟨v,rfl,hv⟩,bb⟩
   have T:=Lib.hid (B.out.trans (bb.mono B.out.size))
   clear bb B e0 e1 e2 e3 e4
   cases v
   ·clear hv
    go_wp2
    go_ret
    exact⟨⟨_,rfl,nofun⟩,T.out⟩
   ·replace hv:=Lib.hid (hv rfl)
    have hlt:=hih.out
    have hbb:=hb.out
    go_wp2
    go_roundw
    case rel=>exact⟨i+1,by omega,by go_num,T.out,fun j' t h1 h2=>(by rcases Nat.lt_or_ge j' i with h3 | h3;exact hall.out j' t h3 h2;obtain rfl:j'=i:=(by omega);rw[hx.out] at h2;injection h2 with h2;subst h2;exact hv.out)⟩
    case measure=>simp[intOf];omega
  ·obtain rfl:n=i:=by omega
   have hfin:Hid (∀ r∈L,r.v.x.n≤8∧r.v.y.n≤8):=Lib.hid fun r hr=>by
    obtain⟨k,hk⟩:=List.getElem?_of_mem hr
    exact hall k r (by rw[←hlen.out];exact (List.getElem?_eq_some_iff.1 hk).1) hk
   replace B:=Lib.hid B
   clear hall hin hlt
   go_wp2
   go_ret
   exact⟨⟨_,rfl,fun _=>⟨hb.out,hfin.out⟩⟩,B.out⟩
/-- What light asks of a column. -/
def LiC (x:Cl):Prop:=x.n.size≤60∧(x.lv.L.length≤40∧∀ s∈x.lv.L,s.size≤60)∧x.ce.L.length≤40∧∀ y∈x.ce.L,y.v.x.n≤8∧y.v.y.n≤8
theorem LiC.l {x:Cl} (h:LiC x):LtL x:=⟨by have:=h.1;omega,by have:=h.2.1.1;omega,fun s hs=>by have:=h.2.1.2 s hs;omega,by have:=h.2.2.1;omega,fun y hy=>by have:=h.2.2.2 y hy;exact⟨by omega,by omega⟩⟩
set_option maxRecDepth 100000 in
set_option maxHeartbeats 4000000 in
theorem llight_any (r:Int) (TA:Option Addr) (tn tc:Nat) (L:List Cl) (w:World) (h:LR clC w TA tn L):Calls Tryz.prog 28 #[.agg #[.int .i64 r,.slice TA tn tc]] w fun e w'=>(∃ v:Bool,e=.returned (.bool v)∧(v=true→tn≤40∧∀ x∈L,LiC x))∧Below w.heap.size w w':=by
 by_cases h0:40<tn
 ·have g0:(40:Int)<(tn:Int):=by omega
  clear h h0
  have S:=((St.new w).allocAt (w.heap.size) #[.int .i64 r,.slice TA tn tc] 37 (noLof rfl) (by simp))
  replace S:=Lib.hid S
  go_enter Tryz.func28,Tryz.ntmps28
  go_wp2
  go_ret
  exact⟨⟨_,rfl,nofun⟩,S.out.bel⟩
 have g0:¬ (40:Int)<(tn:Int):=by omega
 have hb:Hid (tn≤40):=Lib.hid (by omega)
 have hlen:=Lib.hid h.len
 replace h:=Lib.hid h
 clear h0
 have S:=((St.new w).allocAt (w.heap.size) #[.int .i64 r,.slice TA tn tc] 37 (noLof rfl) (by simp))
 replace S:=Lib.hid S
 go_enter Tryz.func28,Tryz.ntmps28
 go_wp2
 replace S:=Lib.hid S.out
 go_loopw [3] (fun iv wr=>∃ i:Nat,i≤tn∧iv=.int .i64 i∧St w wr [(w.heap.size,#[.int .i64 r,.slice TA tn tc],37)] []∧(∀ j (t:Cl),j<i→L[j]?=some t→LiC t)) (fun iv _=>tn-(intOf iv).toNat)
 case atStart=>exact⟨0,Nat.zero_le _,rfl,S.out,fun j s h0=>absurd h0 (Nat.not_lt_zero _)⟩
 case round=>
  clear S
  obtain⟨i,hin,rfl,S,hall⟩:=hrel
  obtain⟨c_0,c_1,f_0,f_1⟩:=S.cf2 0 rfl
  have hz:w.heap.size<wr.heap.size:=S.lt 0 rfl
  by_cases hlt:i<tn
  ·obtain⟨b,o,x,rfl,hx,hxm,hxa,e0,e1,e2,e3⟩:=cl_get (h.out.bel S.bel) hlt
   have hih:=Lib.hid hlt
   have g1:(i:Int)<(tn:Int):=by omega
   have g2:(0:Int)≤(i:Int):=by omega
   have hSt:=Lib.hid (lstrings_any x.lv.L x.lv.A x.lv.L.length x.lv.c wr (cl_at.1 ((h.out.bel S.bel).el x hxm)).1.1)
   have hCe:=Lib.hid (lcells_any x.ce.L x.ce.A x.ce.L.length x.ce.c wr (cl_at.1 ((h.out.bel S.bel).el x hxm)).2.1)
   replace hall:=Lib.hid hall
   replace hx:=Lib.hid hx
   replace S:=Lib.hid S
   clear hlt hin hxm hxa
   by_cases hs:60<x.n.size
   ·have g3:(60:Int)<(x.n.size:Int):=by omega
    clear hs hSt hCe
    go_wp2
    go_ret
    exact⟨⟨_,rfl,nofun⟩,S.out.bel⟩
   ·have g3:¬ (60:Int)<(x.n.size:Int):=by omega
    replace hs:=Lib.hid hs
    go_wp2_with fail
    refine hSt.out.mono ?_
    rintro e w1 ⟨⟨v,rfl,hv⟩,rfl⟩
    clear hSt
    cases v
    ·clear hv hCe
     go_wp2
     go_ret
     exact⟨⟨_,rfl,nofun⟩,S.out.bel⟩
    ·replace hv:=Lib.hid (hv rfl)
     go_wp2_with fail
     refine hCe.out.mono ?_
     rintro e w2 ⟨⟨v2,rfl,hv2⟩,bb⟩
     have T:=Lib.hid (S.out.call bb)
     clear bb hCe S c_0 c_1 f_0 f_1 hz e0 e1 e2 e3
     cases v2
     ·clear hv2 hv
      go_wp2
      go_ret
      exact⟨⟨_,rfl,nofun⟩,T.out.bel⟩
     ·replace hv2:=Lib.hid (hv2 rfl)
      have hlt:=hih.out
      have hbb:=hb.out
      go_wp2
      go_roundw
      case rel=>exact⟨i+1,by omega,by go_num,T.out,fun j' t h1 h2=>(by rcases Nat.lt_or_ge j' i with h3 | h3;exact hall.out j' t h3 h2;obtain rfl:j'=i:=(by omega);rw[hx.out] at h2;injection h2 with h2;subst h2;exact⟨by have:=hs.out;omega,hv.out,hv2.out⟩)⟩
      case measure=>simp[intOf];omega
  ·obtain rfl:tn=i:=by omega
   have hfin:Hid (∀ r∈L,LiC r):=Lib.hid fun r hr=>by
    obtain⟨k,hk⟩:=List.getElem?_of_mem hr
    exact hall k r (by rw[←hlen.out];exact (List.getElem?_eq_some_iff.1 hk).1) hk
   replace S:=Lib.hid S
   clear hall hin hlt
   go_wp2
   go_ret
   exact⟨⟨_,rfl,fun _=>⟨hb.out,hfin.out⟩⟩,S.out.bel⟩
end Go.Proofs.YtdeedofmflelfaaGreatDoor
