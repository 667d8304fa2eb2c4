/- The reference: names. The reference: a cell fits. The reference: a column. The reference: a valid table. The reference: a column is found; what the law asks of its tables. -/
import Derived.Test.YtdeedofmflelfaaGreatDoorQBxz
import Derived.Test.YtdeedofmflelfaaGreatDoorQTkz
import Derived.Test.YtdeedofmflelfaaGreatDoorQBez
namespace Go.Proofs.YtdeedofmflelfaaGreatDoor
open Go.RowKit RQ
set_option linter.unusedVariables false
set_option maxRecDepth 100000 in
set_option maxHeartbeats 4000000 in
theorem rInner_any (c:UInt8) (w:World):Calls Tryz.prog 42 #[.int .u8 c.toNat] w fun e w'=>e=.returned (.bool (innB c))∧w'=w:=by
 have hL:=Lib.hid (fun W=>risLetter_any c W)
 rw[inn_parts]
 have u1:((c.toNat:Int)==95)=(c==95):=u8_eq c 95 (by decide)
 have u2:((c.toNat:Int)==46)=(c==46):=u8_eq c 46 (by decide)
 have p1:((c.toNat:Int)=95)=((c==95)=true):=by rw[←u1,beq_iff_eq]
 have p2:((c.toNat:Int)=46)=((c==46)=true):=by rw[←u2,beq_iff_eq]
 unfold digB
 generalize letB c=b3 at *
 generalize (c==95)=b1 at *
 generalize (c==46)=b2 at *
 generalize c.toNat=n at *
 by_cases h1:48≤n<;>by_cases h2:n≤57<;>cases b1<;>cases b2
 all_goals try (exfalso;(try simp at p1);(try simp at p2);omega)
 all_goals
  (try have g1:(48:Int)≤(n:Int):=by omega)
  (try have g1:¬ (48:Int)≤(n:Int):=by omega)
  (try have g2:(n:Int)≤(57:Int):=by omega)
  (try have g2:¬ (n:Int)≤(57:Int):=by omega)
  replace p1:=Lib.hid p1
  replace p2:=Lib.hid p2
  have hh:=Lib.hid (And.intro h1 h2)
  clear h1 h2
  go_enter Tryz.func42,Tryz.ntmps42
  go_wp2_with fail
  refine (hL.out _).mono ?_
  rintro e w1 ⟨rfl,rfl⟩
  clear hL
  cases b3
 all_goals
  go_wp2
  go_ret
  refine⟨?_,rfl⟩
  first
  | (simp[*];done)
  | (have hq:=hh.out;simp only[hq];simp[*];done)
  | (have hq:=hh.out;obtain⟨hq1,hq2⟩:=hq;simp[*,hq1,hq2];omega)
  | (have hq:=hh.out;obtain⟨hq1,hq2⟩:=hq;simp[*,hq1,hq2];done)
set_option maxRecDepth 100000 in
set_option maxHeartbeats 4000000 in
theorem rName_any (s:ByteArray) (w:World):Calls Tryz.prog 14 #[.string s] w fun e w'=>e=.returned (.bool (nameB s))∧w'=w:=by
 by_cases h0:s.size=0
 ·rw[nameB_nil h0]
  have g0:(s.size:Int)<1:=by omega
  clear h0
  go_enter Tryz.func14,Tryz.ntmps14
  go_wp2
  go_ret
  exact⟨rfl,rfl⟩
 have hz:0<s.size:=by omega
 have g0:¬ (s.size:Int)<1:=by omega
 by_cases h1:32<s.size
 ·rw[nameB_no hz (.inl h1)]
  have g1:(32:Int)<(s.size:Int):=by omega
  go_enter Tryz.func14,Tryz.ntmps14
  go_wp2
  go_ret
  exact⟨rfl,rfl⟩
 have g1:¬ (32:Int)<(s.size:Int):=by omega
 have hL:=Lib.hid (fun W=>risLetter_any s[0] W)
 have hI:=Lib.hid (fun c W=>rInner_any c W)
 have gz:(0:Int)<(s.size:Int):=by omega
 cases h3:letB s[0]
 ·rw[nameB_no hz (.inr (.inr (.inl h3)))]
  rw[h3] at hL
  clear h3 hI
  go_enter Tryz.func14,Tryz.ntmps14
  go_wp2_with fail
  refine (hL.out _).mono ?_
  rintro e w1 ⟨rfl,rfl⟩
  go_wp2
  go_ret
  exact⟨rfl,rfl⟩
 rw[h3] at hL
 cases h2:seB s powB
 rotate_left
 ·rw[nameB_no hz (.inr (.inl h2))]
  have g2:(s.toList==[112,111,119,101,114])=true:=by have hh:=h2;unfold seB at hh;rw[Lib.toList_data powB] at hh;exact hh
  replace h2:=Lib.hid h2
  clear h3 hI
  go_enter Tryz.func14,Tryz.ntmps14
  go_wp2_with fail
  refine (hL.out _).mono ?_
  rintro e w1 ⟨rfl,rfl⟩
  go_wp2
  go_ret
  exact⟨rfl,rfl⟩
 have g2:(s.toList==[112,111,119,101,114])=false:=by have hh:=h2;unfold seB at hh;rw[Lib.toList_data powB] at hh;exact hh
 have hyes:=Lib.hid (nameB_yes hz (by omega) h2 h3)
 have hno:=Lib.hid (fun hh=>nameB_no hz (.inr (.inr (.inr hh))))
 have h30:=Lib.hid (show innB s[0]=true by unfold innB;rw[h3];rfl)
 obtain⟨nv,hnv⟩:∃ z,z=nameB s:=⟨_,rfl⟩
 rw[←hnv] at hyes hno ⊢
 replace h2:=Lib.hid h2
 have hsz:=Lib.hid (And.intro h1 hz)
 clear h0 hnv h3 h1
 go_enter Tryz.func14,Tryz.ntmps14
 go_wp2_with fail
 refine (hL.out _).mono ?_
 rintro e w1 ⟨rfl,rfl⟩
 clear hL
 go_wp2
 go_loopw [3] (fun iv wr=>∃ i:Nat,1≤i∧i≤s.size∧iv=.int .i64 i∧wr=w1∧(∀ j,(hj:j<i)→∀ (h2:j<s.size),innB s[j]=true)) (fun iv _=>s.size-(intOf iv).toNat)
 case atStart=>exact⟨1,Nat.le_refl _,hsz.out.2,rfl,rfl,fun j h0 h2=>(by obtain rfl:j=0:=(by omega);exact h30.out)⟩
 case round=>
  obtain⟨i,hi1,hin,rfl,rfl,hall⟩:=hrel
  by_cases hlt:i<s.size
  ·have q1:(i:Int)<(s.size:Int):=by omega
   have q2:(0:Int)≤(i:Int):=by omega
   have hi63:=Lib.hid (And.intro hlt hi1)
   replace hall:=Lib.hid hall
   have hIi:=hI.out s[i]
   have hino:=Lib.hid (fun h=>hno.out ⟨i,hlt,h⟩)
   have hyi:=Lib.hid (fun (h:innB s[i]=true) (j:Nat) (hj:j<i+1) (h2:j<s.size)=>(by rcases Nat.lt_or_ge j i with h3 | h3;exact hall.out j h3 h2;obtain rfl:j=i:=(by omega);exact h:innB s[j]=true))
   generalize innB s[i]=v at *
   replace hIi:=Lib.hid hIi
   clear hin hi1
   go_wp2_with fail
   refine (hIi.out _).mono ?_
   rintro e w2 ⟨rfl,rfl⟩
   cases v
   ·have hfi:=hino.out rfl
    subst hfi
    go_wp2
    go_ret
    exact⟨rfl,rfl⟩
   ·have hlt:=hi63.out
    have hss:=hsz.out
    go_wp2
    go_roundw
    case rel=>exact⟨i+1,by omega,by omega,by go_num,(by first | rfl | trivial),hyi.out (by first | rfl | trivial)⟩
    case measure=>simp[intOf];omega
  ·obtain rfl:i=s.size:=by omega
   have hy:=hyes.out (fun j h2=>hall j h2 h2)
   subst hy
   clear hall hin hlt
   go_wp2
   go_ret
   exact⟨rfl,rfl⟩
set_option maxRecDepth 100000 in
set_option maxHeartbeats 4000000 in
theorem rIndex_any (L:List ByteArray) (A:Option Addr) (n c:Nat) (s:ByteArray) (w:World) (h:LR strC w A n L) (hn:n≤100000):Calls Tryz.prog 91 #[.slice A n c,.string s] w fun e w'=>(∃ z,e=.returned (.int .i64 z)∧IxF L (seB s) z)∧w'=w:=by
 have hb:=Lib.hid hn
 have hlen:=Lib.hid h.len
 replace h:=Lib.hid h
 clear hn
 go_enter Tryz.func91,Tryz.ntmps91
 go_wp2
 go_loopw [5] (fun iv wr=>∃ i:Nat,i≤n∧iv=.int .i64 i∧wr=w∧(∀ j t,j<i→L[j]?=some t→seB s t=false)) (fun iv _=>n-(intOf iv).toNat)
 case atStart=>exact⟨0,Nat.zero_le _,rfl,rfl,fun j s h0=>absurd h0 (Nat.not_lt_zero _)⟩
 case round=>
  obtain⟨i,hin,rfl,rfl,hall⟩:=hrel
  by_cases hlt:i<n
  ·obtain⟨b,o,x,rfl,hx,hxm,e0⟩:=str_get h.out hlt
   have hih:=Lib.hid hlt
   have g1:(i:Int)<(n:Int):=by omega
   have g2:(0:Int)≤(i:Int):=by omega
   replace hall:=Lib.hid hall
   replace hx:=Lib.hid hx
   clear hlt hin hxm
   cases hv:seB s x
   ·have g3:(s.toList==x.toList)=false:=hv
    have g4:(x.toList==s.toList)=false:=by rw[Bool.beq_comm];exact hv
    replace hv:=Lib.hid hv
    have hlt:=hih.out
    have hbb:=hb.out
    go_wp2
    go_roundw
    case rel=>exact⟨i+1,by omega,by go_num,(by first | rfl | trivial),fun j' t h1 h2=>(by rcases Nat.lt_or_ge j' i with h3 | h3;exact hall.out j' t h3 h2;obtain rfl:j'=i:=(by omega);rw[hx.out] at h2;injection h2 with h2;subst h2;exact hv.out)⟩
    case measure=>simp[intOf];omega
   ·have g3:(s.toList==x.toList)=true:=hv
    have g4:(x.toList==s.toList)=true:=by rw[Bool.beq_comm];exact hv
    replace hv:=Lib.hid hv
    go_wp2
    go_ret
    exact⟨⟨_,rfl,.inr ⟨i,x,rfl,hx.out,hv.out,hall.out⟩⟩,rfl⟩
  ·obtain rfl:i=n:=by omega
   have hfin:Hid (∀ r∈L,seB s r=false):=Lib.hid fun r hr=>by
    obtain⟨k,hk⟩:=List.getElem?_of_mem hr
    exact hall k r (by rw[←hlen.out];exact (List.getElem?_eq_some_iff.1 hk).1) hk
   clear hall hin hlt
   go_wp2
   go_ret
   exact⟨⟨-1,rfl,.inl ⟨rfl,hfin.out⟩⟩,rfl⟩
set_option maxRecDepth 100000 in
set_option maxHeartbeats 4000000 in
theorem rnames_any (L:List ByteArray) (A:Option Addr) (n c:Nat) (w:World) (h:LR strC w A n L) (hn:n≤100000) (hc:n≤c):Calls Tryz.prog 49 #[.slice A n c] w fun e w'=>e=.returned (.bool (namesB L))∧Below w.heap.size w w':=by
 have hb:=Lib.hid hn
 have hlen:=Lib.hid h.len
 obtain⟨nv,hnv⟩:∃ z,z=namesB L:=⟨_,rfl⟩
 have hno:Hid (∀ i x,L[i]?=some x→(nameB x=false∨inB x (L.take i)=true)→nv=false):=Lib.hid fun i x hx h2=>by
  rw[hnv]
  unfold namesB
  rcases h2 with h2 | h2
  ·rw[List.all_eq_false.2 ⟨x,List.mem_of_getElem? hx,by rw[h2];simp⟩,Bool.and_false]
  ·have e:L=L.take (i+1)++L.drop (i+1):=(List.take_append_drop _ _).symm
   have:diffB L=false:=by
    rw[e]
    refine diff_pre ?_
    rw[take_snoc hx,diff_snoc,h2];simp
   rw[this];rfl
 have hye:Hid (namesB (L.take n)=true→nv=true):=Lib.hid fun h2=>by rw[hnv,←h2,List.take_of_length_le (by rw[hlen.out];exact Nat.le_refl _)]
 rw[←hnv]
 replace hnv:=Lib.hid hnv
 replace h:=Lib.hid h
 replace hc:=Lib.hid hc
 clear hn
 go_enter Tryz.func49,Tryz.ntmps49
 go_wp2
 go_loopw [3] (fun iv wr=>∃ i:Nat,i≤n∧iv=.int .i64 i∧Below w.heap.size w wr∧namesB (L.take i)=true) (fun iv _=>n-(intOf iv).toNat)
 case atStart=>exact⟨0,Nat.zero_le _,rfl,Below.refl _ _,rfl⟩
 case round=>
  obtain⟨i,hin,rfl,B,hall⟩:=hrel
  by_cases hlt:i<n
  ·obtain⟨b,o,x,rfl,hx,hxm,e0⟩:=str_get (h.out.bel B) hlt
   have hih:=Lib.hid hlt
   have g1:(i:Int)<(n:Int):=by omega
   have g2:(0:Int)≤(i:Int):=by omega
   have g3:(i:Int)≤(c:Int):=by have:=hc.out;omega
   have hN:=Lib.hid (fun W=>rName_any x W)
   have hX:Hid (∀ W,Below wr.heap.size wr W→Calls Tryz.prog 91 #[.slice (some ⟨b,o,none⟩) i c,.string x] W fun e w'=>(∃ z,e=.returned (.int .i64 z)∧IxF (L.take i) (seB x) z)∧w'=W):=Lib.hid fun W hW=>rIndex_any _ _ _ _ _ W (((h.out.bel B).take_ hin).bel hW) (by have:=hb.out;omega)
   replace hno:=Lib.hid (hno.out i x hx)
   have hyi:Hid (nameB x=true→inB x (L.take i)=false→namesB (L.take (i+1))=true):=Lib.hid fun h1 h2=>by
    unfold namesB at hall ⊢
    rw[Bool.and_eq_true] at hall
    rw[take_snoc hx,diff_snoc,hall.1,h2,List.all_append,hall.2,List.all_cons,h1];rfl
   replace B:=Lib.hid B
   replace e0:=Lib.hid e0
   clear hlt hin hxm hx hall
   go_upto_region 4 with fail
   have hbase:=Lib.hid (St.new wr)
   refine RW.begin (Z:=[]) (S:=(fun W=>Below wr.heap.size wr W)) (by kernel_rfl) ?_ hbase.out ?_
   ·exact⟨by kernel_rfl,zis_nil,by decide,by decide,nol_nil,(fun _ _ h=>h.bel)⟩
   intro hzk
   refine RW.t (i:=0) (v:=.slice (some ⟨b,o,none⟩) n c) (some 10) at0 (hy:=fun _ _=>by kernel_rfl) (h:=?_)
   refine RW.t (i:=1) (v:=.int .i64 i) (some 11) at1 (hy:=fun _ _=>by kernel_rfl) (h:=?_)
   refine RW.t (i:=2) (v:=.pointer (some ⟨b,o+i,none⟩)) (some 12) at2 (hy:=fun _ _=>by go_simp) (h:=?_)
   refine RW.t (i:=3) (v:=.string x) (some 13) at3 (hy:=fun W hS=>by (have k0:=bel_cell hS e0.out;clear hS;go_simp)) (h:=?_)
   refine RW.c (i:=4) (args:=#[.string x]) (some 14) hzk.out at4 (hx:=fun _=>by kernel_rfl) (h:=fun _ S=>(hN.out _).mono ?_)
   rintro e w7 ⟨rfl,rfl⟩
   refine⟨Below.refl _ _,_,[],rfl,rd_nil,?_⟩
   clear S
   cases hv:nameB x
   ·rw[hv] at hno
    refine RW.t (i:=5) (v:=.bool true) (some 15) at5 (hy:=fun _ _=>by kernel_rfl) (h:=?_)
    refine RW.t (i:=6) (v:=.bool true) (some 16) at6 (hy:=fun _ _=>by kernel_rfl) (h:=?_)
    refine RW.u (i:=7) (some 17) at7 (h:=?_)
    refine RW.u (i:=8) (some 18) at8 (h:=?_)
    refine RW.u (i:=9) (some 19) at9 (h:=?_)
    refine RW.u (i:=10) (some 20) at10 (h:=?_)
    refine RW.u (i:=11) (some 21) at11 (h:=?_)
    refine RW.u (i:=12) (some 22) at12 (h:=?_)
    refine RW.u (i:=13) (some 23) at13 (h:=?_)
    refine RW.u (i:=14) (some 24) at14 (h:=?_)
    refine RW.u (i:=15) (some 25) at15 (h:=?_)
    refine RW.t (i:=16) (v:=.bool true) (some 26) at16 (hy:=fun _ _=>by kernel_rfl) (h:=?_)
    refine RW.tail hzk.out (by kernel_rfl) ?_
    intro gs' w5 hgs' hS Sb
    obtain rfl:=len0 hgs'
    simp only[mark,fill,Act.put,List.setIfInBounds_toArray,List.set_cons_zero,List.set_cons_succ]
    refine Wk.done (by kernel_rfl) ?_
    have T:=Lib.hid (B.out.trans (hS.mono B.out.size))
    clear Sb hgs' hzk hbase hS
    try go_simp
    have hfi:=hno.out (.inl rfl)
    subst hfi
    go_wp2
    go_ret
    exact⟨rfl,T.out⟩
   ·rw[hv] at hyi
    replace hyi:=Lib.hid (hyi.out rfl)
    refine RW.t (i:=5) (v:=.bool false) (some 15) at5 (hy:=fun _ _=>by kernel_rfl) (h:=?_)
    refine RW.t (i:=6) (v:=.bool false) (some 16) at6 (hy:=fun _ _=>by kernel_rfl) (h:=?_)
    refine RW.t (i:=7) (v:=.slice (some ⟨b,o,none⟩) n c) (some 17) at7 (hy:=fun _ _=>by kernel_rfl) (h:=?_)
    refine RW.t (i:=8) (v:=.int .i64 i) (some 18) at8 (hy:=fun _ _=>by kernel_rfl) (h:=?_)
    refine RW.t (i:=9) (v:=.slice (some ⟨b,o,none⟩) i c) (some 19) at9 (hy:=fun _ _=>by go_simp) (h:=?_)
    refine RW.t (i:=10) (v:=.slice (some ⟨b,o,none⟩) n c) (some 20) at10 (hy:=fun _ _=>by kernel_rfl) (h:=?_)
    refine RW.t (i:=11) (v:=.int .i64 i) (some 21) at11 (hy:=fun _ _=>by kernel_rfl) (h:=?_)
    refine RW.t (i:=12) (v:=.pointer (some ⟨b,o+i,none⟩)) (some 22) at12 (hy:=fun _ _=>by go_simp) (h:=?_)
    refine RW.t (i:=13) (v:=.string x) (some 23) at13 (hy:=fun W hS=>by (have k0:=bel_cell hS e0.out;clear hS;go_simp)) (h:=?_)
    refine RW.c (i:=14) (args:=#[.slice (some ⟨b,o,none⟩) i c,.string x]) (some 24) hzk.out at14 (hx:=fun _=>by kernel_rfl) (h:=fun W S=>(hX.out W (by have:=S.bel;exact this)).mono ?_)
    rintro e w7 ⟨⟨z,rfl,hz⟩,rfl⟩
    refine⟨Below.refl _ _,_,[],rfl,rd_nil,?_⟩
    clear S
    have hz2:=hz.any_
    clear hz
    by_cases hz0:0≤z
    ·rw[decide_eq_true hz0] at hz2
     replace hz2:=Lib.hid hz2
     refine RW.t (i:=15) (v:=.bool true) (some 25) at15 (hy:=fun _ _=>by go_simp) (h:=?_)
     refine RW.t (i:=16) (v:=.bool true) (some 26) at16 (hy:=fun _ _=>by kernel_rfl) (h:=?_)
     refine RW.tail hzk.out (by kernel_rfl) ?_
     intro gs' w5 hgs' hS Sb
     obtain rfl:=len0 hgs'
     simp only[mark,fill,Act.put,List.setIfInBounds_toArray,List.set_cons_zero,List.set_cons_succ]
     refine Wk.done (by kernel_rfl) ?_
     have T:=Lib.hid (B.out.trans (hS.mono B.out.size))
     clear Sb hgs' hzk hbase hS
     try go_simp
     have hfi:=hno.out (.inr hz2.out)
     subst hfi
     go_wp2
     go_ret
     exact⟨rfl,T.out⟩
    ·rw[decide_eq_false hz0] at hz2
     replace hz2:=Lib.hid hz2
     refine RW.t (i:=15) (v:=.bool false) (some 25) at15 (hy:=fun _ _=>by go_simp) (h:=?_)
     refine RW.t (i:=16) (v:=.bool false) (some 26) at16 (hy:=fun _ _=>by kernel_rfl) (h:=?_)
     refine RW.tail hzk.out (by kernel_rfl) ?_
     intro gs' w5 hgs' hS Sb
     obtain rfl:=len0 hgs'
     simp only[mark,fill,Act.put,List.setIfInBounds_toArray,List.set_cons_zero,List.set_cons_succ]
     refine Wk.done (by kernel_rfl) ?_
     have T:=Lib.hid (B.out.trans (hS.mono B.out.size))
     clear Sb hgs' hzk hbase hS
     try go_simp
     have hlt:=hih.out
     have hbb:=hb.out
     go_wp2
     go_roundw
     case rel=>exact⟨i+1,by omega,by go_num,T.out,hyi.out hz2.out⟩
     case measure=>simp[intOf];omega
  ·obtain rfl:n=i:=by omega
   have hfi:=hye.out hall
   subst hfi
   replace B:=Lib.hid B
   clear hlt hin hall
   go_wp2
   go_ret
   exact⟨rfl,B.out⟩
end Go.Proofs.YtdeedofmflelfaaGreatDoor

namespace Go.Proofs.YtdeedofmflelfaaGreatDoor
open Go.RowKit RQ
set_option linter.unusedVariables false
set_option maxRecDepth 100000 in
set_option maxHeartbeats 4000000 in
theorem sameR (b:Bool) (A:Option Addr) (n c:Nat) (xs:List Nat) (D:Option Addr) (m d:Nat) (ds:List Nat) (b':Bool) (A':Option Addr) (n' c':Nat) (ys:List Nat) (D':Option Addr) (m' d':Nat) (es:List Nat) (w:World) (R1:Rd w A n c xs) (R2:Rd w D m d ds) (R3:Rd w A' n' c' ys) (R4:Rd w D' m' d' es) (hn:n≤200) (hm:m≤200) (hn':n'≤200) (hm':m'≤200) :
  Calls Tryz.prog 27 #[.agg #[.bool b,.slice A n c,.slice D m d],.agg #[.bool b',.slice A' n' c',.slice D' m' d']] w fun e w'=>e=.returned (.bool ((decide (b=b')&&decide (xs=ys))&&decide (ds=es)))∧Below w.heap.size w w':=by
 have hS:=Lib.hid (fun W p1 p2=>same2_any b A n c xs b' A' n' c' ys W p1 p2 (by omega) (by omega))
 have hT:=Lib.hid (fun W p1 p2=>same1_any D m d D' m' d' ds es W p1 p2 (by omega) (by omega))
 have S:=(((((((St.new w).read R1).read R2).read R3).read R4).allocAt (w.heap.size) #[.bool b,.slice A n c,.slice D m d] 46 (noL3 _ _ _ _ _ _ _) (by simp)).allocAt (w.heap.size+1) #[.bool b',.slice A' n' c',.slice D' m' d'] 46 (noL3 _ _ _ _ _ _ _) (by simp))
 replace S:=Lib.hid S
 clear R1 R2 R3 R4 hn hm hn' hm'
 generalize decide (ds=es)=e2 at *
 generalize (decide (b=b')&&decide (xs=ys))=e1 at *
 cases e1
 ·clear hT
  go_enter Tryz.func27,Tryz.ntmps27
  go_wp2_with fail
  refine (hS.out _ (S.out.r 3 rfl) (S.out.r 1 rfl)).mono ?_
  rintro e w1 ⟨rfl,bb⟩
  have T:=(S.out.call bb)
  clear bb S
  have S:=T
  clear T
  obtain⟨c_y0,c_y1,c_y2,f_y0,f_y1,f_y2⟩:=S.cf3 0 rfl
  obtain⟨c_x0,c_x1,c_x2,f_x0,f_x1,f_x2⟩:=S.cf3 1 rfl
  have hz:w.heap.size+1<w1.heap.size:=S.lt 0 rfl
  replace S:=Lib.hid S
  clear hS
  have B:=Lib.hid S.out.bel
  go_wp2
  go_ret
  exact⟨rfl,B.out⟩
 ·rw[Bool.true_and]
  go_enter Tryz.func27,Tryz.ntmps27
  go_wp2_with fail
  refine (hS.out _ (S.out.r 3 rfl) (S.out.r 1 rfl)).mono ?_
  rintro e w1 ⟨rfl,bb⟩
  have T:=(S.out.call bb)
  clear bb S
  have S:=T
  clear T
  obtain⟨c_y0,c_y1,c_y2,f_y0,f_y1,f_y2⟩:=S.cf3 0 rfl
  obtain⟨c_x0,c_x1,c_x2,f_x0,f_x1,f_x2⟩:=S.cf3 1 rfl
  have hz:w.heap.size+1<w1.heap.size:=S.lt 0 rfl
  replace S:=Lib.hid S
  clear hS
  go_wp2_with fail
  refine (hT.out _ (S.out.r 2 rfl) (S.out.r 0 rfl)).mono ?_
  rintro e w2 ⟨rfl,bb⟩
  have T:=(S.out.call bb)
  clear bb S c_y0 f_y0 c_y1 f_y1 c_y2 f_y2 c_x0 f_x0 c_x1 f_x1 c_x2 f_x2 hz
  have S:=T
  clear T
  obtain⟨c_y0,c_y1,c_y2,f_y0,f_y1,f_y2⟩:=S.cf3 0 rfl
  obtain⟨c_x0,c_x1,c_x2,f_x0,f_x1,f_x2⟩:=S.cf3 1 rfl
  have hz:w.heap.size+1<w2.heap.size:=S.lt 0 rfl
  replace S:=Lib.hid S
  clear hT
  have B:=Lib.hid S.out.bel
  go_wp2
  go_ret
  exact⟨rfl,B.out⟩
end Go.Proofs.YtdeedofmflelfaaGreatDoor

namespace Go.Proofs.YtdeedofmflelfaaGreatDoor
open Go.RowKit RQ
set_option linter.unusedVariables false
end Go.Proofs.YtdeedofmflelfaaGreatDoor

namespace Go.Proofs.YtdeedofmflelfaaGreatDoor
open Go.RowKit RQ
set_option linter.unusedVariables false
end Go.Proofs.YtdeedofmflelfaaGreatDoor

namespace Go.Proofs.YtdeedofmflelfaaGreatDoor
open Go.RowKit RQ
set_option linter.unusedVariables false
set_option maxRecDepth 100000 in
set_option maxHeartbeats 4000000 in
theorem lstrings_any (L:List ByteArray) (A:Option Addr) (n c:Nat) (w:World) (h:LR strC w A n L):Calls Tryz.prog 10 #[.slice A n c] w fun e w'=>(∃ v:Bool,e=.returned (.bool v)∧(v=true→n≤40∧∀ s∈L,s.size≤60))∧w'=w:=by
 by_cases h0:40<n
 ·have g0:(40:Int)<(n:Int):=by omega
  clear h h0
  go_enter Tryz.func10,Tryz.ntmps10
  go_wp2
  go_ret
  exact⟨⟨_,rfl,nofun⟩,rfl⟩
 have g0:¬ (40:Int)<(n:Int):=by omega
 have hb:Hid (n≤40):=Lib.hid (by omega)
 have hlen:=Lib.hid h.len
 replace h:=Lib.hid h
 clear h0
 go_enter Tryz.func10,Tryz.ntmps10
 go_wp2
 go_loopw [3] (fun iv wr=>∃ i:Nat,i≤n∧iv=.int .i64 i∧wr=w∧(∀ j t,j<i→L[j]?=some t→t.size≤60)) (fun iv _=>n-(intOf iv).toNat)
 case atStart=>exact⟨0,Nat.zero_le _,rfl,rfl,fun j s h0=>absurd h0 (Nat.not_lt_zero _)⟩
 case round=>
  obtain⟨i,hin,rfl,rfl,hall⟩:=hrel
  by_cases hlt:i<n
  ·obtain⟨b,o,x,rfl,hx,hxm,e0⟩:=str_get h.out hlt
   have hih:=Lib.hid hlt
   have g1:(i:Int)<(n:Int):=by omega
   have g2:(0:Int)≤(i:Int):=by omega
   replace hall:=Lib.hid hall
   replace hx:=Lib.hid hx
   clear hlt hin hxm
   by_cases hs:60<x.size
   ·have g3:(60:Int)<(x.size:Int):=by omega
    clear hs
    go_wp2
    go_ret
    exact⟨⟨_,rfl,nofun⟩,rfl⟩
   ·have g3:¬ (60:Int)<(x.size:Int):=by omega
    replace hs:=Lib.hid hs
    have hlt:=hih.out
    have hbb:=hb.out
    go_wp2
    go_roundw
    case rel=>exact⟨i+1,by omega,by go_num,(by first | rfl | trivial),fun j' t h1 h2=>(by rcases Nat.lt_or_ge j' i with h3 | h3;exact hall.out j' t h3 h2;obtain rfl:j'=i:=(by omega);rw[hx.out] at h2;injection h2 with h2;subst h2;have:=hs.out;omega)⟩
    case measure=>simp[intOf];omega
  ·obtain rfl:n=i:=by omega
   have hfin:Hid (∀ r∈L,r.size≤60):=Lib.hid fun r hr=>by
    obtain⟨k,hk⟩:=List.getElem?_of_mem hr
    exact hall k r (by rw[←hlen.out];exact (List.getElem?_eq_some_iff.1 hk).1) hk
   clear hall hin hlt
   go_wp2
   go_ret
   exact⟨⟨_,rfl,fun _=>⟨hb.out,hfin.out⟩⟩,rfl⟩
/-- What light asks of a column. -/
def LiC (x:Cl):Prop:=x.n.size≤60∧(x.lv.L.length≤40∧∀ s∈x.lv.L,s.size≤60)∧x.ce.L.length≤40∧∀ y∈x.ce.L,y.v.x.n≤8∧y.v.y.n≤8
theorem LiC.l {x:Cl} (h:LiC x):LtL x:=⟨by have:=h.1;omega,by have:=h.2.1.1;omega,fun s hs=>by have:=h.2.1.2 s hs;omega,by have:=h.2.2.1;omega,fun y hy=>by have:=h.2.2.2 y hy;exact⟨by omega,by omega⟩⟩
end Go.Proofs.YtdeedofmflelfaaGreatDoor
