/- Rows without missing cells. Complete. Complete rows: what is counted. The law: complete rows. -/
import Derived.Test.YtdeedofmflelfaaGreatDoorQCaz
import Derived.Test.YtdeedofmflelfaaGreatDoorQBmz
namespace Go.Proofs.YtdeedofmflelfaaGreatDoor
open Go.RowKit RQ
set_option linter.unusedVariables false
theorem bool_get {W:World} {A:Option Addr} {n:Nat} {L:List Bool} (h:LR boolC W A n L) {i:Nat} (hi:i<n):∃ b o c,A=some ⟨b,o,none⟩∧L[i]?=some c∧c∈L∧W.cell? ⟨b,o+i,none⟩=some (.bool c):=by
 obtain⟨b,o,c,h1,h2,h3,_,h5⟩:=h.get hi
 have:=h5 0 _ rfl
 rw[show boolC.sz=1 from rfl,Nat.mul_one,Nat.add_zero] at this
 exact⟨b,o,c,h1,h2,h3,this⟩
def missB (x:Cl) (row:Nat):Bool:=((x.ce.L[row]?).map Ce.m).getD false
/-- A row without missing cells in the needed columns. -/
def Whole (Nd:List Bool) (L:List Cl) (row:Nat):Prop:=∀ (q:Nat) (x:Cl),Nd[q]?=some true→L[q]?=some x→missB x row=false
set_option maxRecDepth 100000 in
set_option maxHeartbeats 4000000 in
theorem isComplete_any (r:Int) (TA:Option Addr) (tn tc:Nat) (L:List Cl) (row:Nat) (g nc:Nat) (Nd:List Bool) (w:World) (h:LR clC w TA tn L) (hN:LR boolC w (some ⟨g,0,none⟩) tn Nd) (hb:tn≤32) (hr:∀ x∈L,row<x.ce.L.length) (hr2:row≤1024) (v:Bool) (hv:v=true↔Whole Nd L row):Calls Tryz.prog 82 #[.agg #[.int .i64 r,.slice TA tn tc],.int .i64 row,.slice (some ⟨g,0,none⟩) tn nc] w fun e w'=>e=.returned (.bool v)∧Below w.heap.size w w':=by
 have hlen:=Lib.hid h.len
 replace h:=Lib.hid h
 replace hN:=Lib.hid hN
 replace hb:=Lib.hid hb
 replace hr:=Lib.hid hr
 replace hr2:=Lib.hid hr2
 replace hv:=Lib.hid hv
 have S:=((St.new w).allocAt (w.heap.size) #[.int .i64 r,.slice TA tn tc] 37 (noLof rfl) (by simp))
 replace S:=Lib.hid S
 go_enter Tryz.func82,Tryz.ntmps82
 go_wp2
 replace S:=Lib.hid S.out
 go_loopw [12] (fun iv wr=>∃ i:Nat,i≤tn∧iv=.int .i64 i∧St w wr [(w.heap.size,#[.int .i64 r,.slice TA tn tc],37)] []∧(∀ q x,q<i→Nd[q]?=some true→L[q]?=some x→missB x row=false)) (fun iv _=>tn-(intOf iv).toNat)
 case atStart=>exact⟨0,Nat.zero_le _,rfl,S.out,fun j s h0=>absurd h0 (Nat.not_lt_zero _)⟩
 case round=>
  clear S
  obtain⟨i,hin,rfl,S,hall⟩:=hrel
  obtain⟨c_0,c_1,f_0,f_1⟩:=S.cf2 0 rfl
  have hz:w.heap.size<wr.heap.size:=S.lt 0 rfl
  by_cases hlt:i<tn
  ·obtain⟨b,o,x,rfl,hx,hxm,hxa,e0,e1,e2,e3⟩:=cl_get (h.out.bel S.bel) hlt
   have hS1:=S.allocAt wr.heap.size #[.string x.n,.int .i64 x.k,.slice x.lv.A x.lv.L.length x.lv.c,.slice x.ce.A x.ce.L.length x.ce.c] 56 (noLof rfl) rfl
   obtain⟨b2,o2,nd,hA2,hnd,_,n0⟩:=bool_get (hN.out.bel hS1.bel) hlt
   injection hA2 with hA2
   injection hA2 with hA2 hA3 _
   subst hA2 hA3
   rw[Nat.zero_add] at n0
   have hrow:=hr.out x hxm
   obtain⟨b3,o3,y,hA3,hy,_,_,y0,y1,y2,y3,y4⟩:=ce_get (cl_at.1 ((h.out.bel hS1.bel).el x hxm)).2.1 hrow
   rw[hA3] at hS1 e3 n0 y0
   have c8:=hS1.cl 0 3 rfl rfl
   have f8:=hS1.f 0 3 rfl
   have z8:wr.heap.size<_:=hS1.lt 0 rfl
   replace hS1:=Lib.hid hS1
   have hih:=Lib.hid hlt
   have g1:(i:Int)<(tn:Int):=by omega
   have g2:(0:Int)≤(i:Int):=by omega
   have g3:(row:Int)<(x.ce.L.length:Int):=by omega
   have g4:(0:Int)≤(row:Int):=by omega
   have hms:Hid (missB x row=y.m):=Lib.hid (by unfold missB;rw[hy];rfl)
   replace hall:=Lib.hid hall
   replace hx:=Lib.hid hx
   replace hnd:=Lib.hid hnd
   replace n0:=Lib.hid n0
   replace y0:=Lib.hid y0
   replace c8:=Lib.hid c8
   replace f8:=Lib.hid f8
   replace z8:=Lib.hid z8
   clear hlt hin hxm hxa hrow hy y1 y2 y3 y4 S
   go_upto_region 4 with fail
   generalize hW:World.alloc _ _=w4 at hS1 n0 y0 c8 f8 z8 ⊢
   clear hW c_0 c_1 f_0 f_1 hz e0 e1 e2 e3
   obtain⟨fv,hfv⟩:∃ g,g=wr.heap.size:=⟨_,rfl⟩
   rw[←hfv] at hS1 c8 f8 z8 ⊢
   clear hfv
   replace n0:=n0.out
   replace y0:=y0.out
   replace c8:=c8.out
   replace f8:=f8.out
   replace z8:=z8.out
   cases hnv:nd
   ·rw[hnv] at hnd n0
    clear hnv y0
    have hlt:=hih.out
    have hbb:=hb.out
    go_wp2
    go_roundw
    case rel=>exact⟨i+1,by omega,by go_num,hS1.out.sub2,fun j' t h1 h2 h3=>(by rcases Nat.lt_or_ge j' i with h4 | h4;exact hall.out j' t h4 h2 h3;obtain rfl:j'=i:=(by omega);rw[hnd.out] at h2;cases h2)⟩
    case measure=>simp[intOf];omega
   ·rw[hnv] at hnd n0
    clear hnv
    cases hmv:y.m
    ·rw[hmv] at hms y0
     replace hmv:=Lib.hid hmv
     have hlt:=hih.out
     have hbb:=hb.out
     go_wp2
     go_roundw
     case rel=>exact⟨i+1,by omega,by go_num,hS1.out.sub2,fun j' t h1 h2 h3=>(by rcases Nat.lt_or_ge j' i with h4 | h4;exact hall.out j' t h4 h2 h3;obtain rfl:j'=i:=(by omega);rw[hx.out] at h3;injection h3 with h3;subst h3;exact hms.out)⟩
     case measure=>simp[intOf];omega
    ·rw[hmv] at hms y0
     replace hmv:=Lib.hid hmv
     have hfi:v=false:=by
      cases hvv:v
      ·rfl
      ·have:=hv.out.1 hvv i x hnd.out hx.out
       rw[hms.out] at this;cases this
     subst hfi
     go_wp2
     go_ret
     exact⟨rfl,hS1.out.bel⟩
  ·obtain rfl:tn=i:=by omega
   have hfi:v=true:=hv.out.2 fun q x h1 h2=>hall q x (by rw[←hlen.out];exact (List.getElem?_eq_some_iff.1 h2).1) h1 h2
   subst hfi
   replace S:=Lib.hid S
   clear hall hin hlt
   go_wp2
   go_ret
   exact⟨rfl,S.out.bel⟩
end Go.Proofs.YtdeedofmflelfaaGreatDoor

namespace Go.Proofs.YtdeedofmflelfaaGreatDoor
open Go.RowKit RQ
set_option linter.unusedVariables false
/-- Is this row without missing cells in the columns of these names? -/
def wholeB (L:List Cl) (names:List ByteArray) (row:Nat):Bool:=names.all fun s=>L.all fun x=>!(seB x.n s) || !(missB x row)
def Hit (L:List Cl) (s:ByteArray) (q:Nat):Prop:=∃ x,L[q]?=some x∧seB x.n s=true∧∀ j t,j<q→L[j]?=some t→seB t.n s=false
def NdOK (L:List Cl) (ns:List ByteArray) (Nd:List Bool):Prop:=∀ q,Nd[q]?=some true↔∃ s∈ns,Hit L s q
def Found (L:List Cl) (ns:List ByteArray):Prop:=∀ s∈ns,∃ x∈L,seB x.n s=true
theorem NdOK.nil_ (L:List Cl) (n:Nat):NdOK L [] (List.replicate n false):=fun q=>by
 constructor
 ·intro h
  rw[List.getElem?_replicate] at h
  split at h
  ·cases h
  ·cases h
 ·rintro ⟨s,hs,_⟩;cases hs
theorem NdOK.snoc {L:List Cl} {ns:List ByteArray} {Nd:List Bool} {s:ByteArray} {k:Nat} (h:NdOK L ns Nd) (hk:Hit L s k) (hl:k<Nd.length) (hu:∀ q,Hit L s q→q=k):NdOK L (ns++[s]) (Nd.set k true):=fun q=>by
 by_cases e:k=q
 ·subst e
  rw[List.getElem?_set_self hl]
  exact⟨fun _=>⟨s,List.mem_append_right _ (List.mem_singleton.2 rfl),hk⟩,fun _=>rfl⟩
 ·rw[List.getElem?_set_ne e,h q]
  constructor
  ·rintro ⟨t,ht,h1⟩;exact⟨t,List.mem_append_left _ ht,h1⟩
  ·rintro ⟨t,ht,h1⟩
   rcases List.mem_append.1 ht with h2 | h2
   ·exact⟨t,h2,h1⟩
   ·rw[List.mem_singleton] at h2
    subst h2
    exact absurd (hu q h1).symm e
theorem Hit.uniq {L:List Cl} {s:ByteArray} {p q:Nat} (h1:Hit L s p) (h2:Hit L s q):q=p:=by
 obtain⟨x,a1,a2,a3⟩:=h1
 obtain⟨y,b1,b2,b3⟩:=h2
 rcases Nat.lt_trichotomy p q with h | h | h
 ·rw[b3 p x h a1] at a2;cases a2
 ·exact h.symm
 ·rw[a3 q y h b1] at b2;cases b2
theorem IxF.hit {L:List Cl} {s:ByteArray} {z:Int} (h:IxF L (fun x=>seB x.n s) z) (hf:∃ x∈L,seB x.n s=true):∃ k:Nat,z=k∧Hit L s k∧k<L.length:=by
 rcases h with ⟨_,h⟩ | ⟨i,r,rfl,hr,hp,hall⟩
 ·obtain⟨x,hx,h1⟩:=hf
  exact absurd (show seB x.n s=true from h1) (by rw[show seB x.n s=false from h x hx];simp)
 ·exact⟨i,rfl,⟨r,hr,hp,hall⟩,(List.getElem?_eq_some_iff.1 hr).1⟩
theorem whole_iff {L:List Cl} {ns:List ByteArray} {Nd:List Bool} {row:Nat} (h:NdOK L ns Nd) (hd:diffB (L.map (·.n))=true):wholeB L ns row=true↔Whole Nd L row:=by
 rw[diffB_nd] at hd
 unfold wholeB Whole
 rw[List.all_eq_true]
 constructor
 ·intro hw q x h1 h2
  obtain⟨s,hs,y,e1,e2,_⟩:=(h q).1 h1
  rw[e1] at h2
  injection h2 with h2
  subst h2
  have:=List.all_eq_true.1 (hw s hs) y (List.mem_of_getElem? e1)
  rw[e2] at this
  simpa using this
 ·intro hw s hs
  rw[List.all_eq_true]
  intro x hx
  cases hxs:seB x.n s
  ·rfl
  ·obtain⟨q,hq⟩:=List.getElem?_of_mem hx
   have hit:Hit L s q:=⟨x,hq,hxs,fun j t hj ht=>by
    cases hts:seB t.n s
    ·rfl
    ·exfalso
     rw[seB_eq] at hxs hts
     have h1:(L.map (·.n))[j]?=some s:=by rw[List.getElem?_map,ht];exact congrArg some hts
     have h2:(L.map (·.n))[q]?=some s:=by rw[List.getElem?_map,hq];exact congrArg some hxs
     have hl:=(List.getElem?_eq_some_iff.1 h1).1
     have:=(List.getElem?_inj hl hd).1 (h1.trans h2.symm)
     omega⟩
   rw[hw q x ((h q).2 ⟨s,hs,hit⟩) hq];rfl
def rowsX (L:List Cl) (ns:List ByteArray) (n:Nat):List Int:=((List.range n).filter (wholeB L ns)).map fun k:Nat=>(k:Int)
theorem rowsX_yes {L:List Cl} {ns:List ByteArray} {n:Nat} (h:wholeB L ns n=true):rowsX L ns (n+1)=rowsX L ns n++[(n:Int)]:=by
 unfold rowsX
 rw[List.range_succ,List.filter_append,List.map_append]
 congr 1
 simp[h]
theorem rowsX_no {L:List Cl} {ns:List ByteArray} {n:Nat} (h:wholeB L ns n=false):rowsX L ns (n+1)=rowsX L ns n:=by
 unfold rowsX
 rw[List.range_succ,List.filter_append,List.map_append]
 simp[h]
theorem rowsX_le (L:List Cl) (ns:List ByteArray) (n:Nat):(rowsX L ns n).length≤n:=by
 unfold rowsX
 rw[List.length_map]
 exact Nat.le_trans (List.length_filter_le ..) (by rw[List.length_range];exact Nat.le_refl _)
set_option maxRecDepth 100000 in
set_option maxHeartbeats 4000000 in
theorem complete_yes (R:Nat) (TA:Option Addr) (tn tc:Nat) (L:List Cl) (ns:List ByteArray) (NA:Option Addr) (nn nc:Nat) (w:World) (h:LR clC w TA tn L) (hx:∀ x∈L,LtL x) (hv:tabB R (L.map Cl.lx)=true) (hN:LR strC w NA nn ns) (hnn:nn≤1000) (hfd:Found L ns):Calls Tryz.prog 36 #[.agg #[.int .i64 R,.slice TA tn tc],.slice NA nn nc] w fun e w'=>∃ A c,e=.returned (.tuple #[.slice A (rowsX L ns R).length c,.int .i64 0])∧LR intC w' A (rowsX L ns R).length (rowsX L ns R)∧Below w.heap.size w w':=by
 have htp:=tab_parts hv
 have hV:Hid (∀ W,Below w.heap.size w W→Calls Tryz.prog 22 #[.agg #[.int .i64 R,.slice TA tn tc]] W fun e w'=>e=.returned (.bool true)∧Below W.heap.size W w'):=Lib.hid fun W hW=>valid_yes L R TA tn tc W (h.bel hW) hx hv
 have hR:R≤1024:=by have:=htp.2.1;omega
 have hb:Hid (tn≤32):=Lib.hid (by have:=htp.2.2.1;rw[List.length_map,h.len] at this;simpa using this)
 have hd:diffB (L.map (·.n))=true:=by
  have:=htp.2.2.2.1
  unfold namesB at this
  rw[Bool.and_eq_true,List.map_map] at this
  exact this.1
 have hce:Hid (∀ x∈L,x.ce.L.length=R):=Lib.hid fun x hxm=>by
  have:=List.all_eq_true.1 htp.2.2.2.2 x.lx (List.mem_map_of_mem hxm)
  unfold colB at this
  simp only[Bool.and_eq_true,decide_eq_true_eq] at this
  have h3:=this.1.2
  unfold Cl.lx at h3
  rw[List.length_map] at h3
  omega
 have hmk:=make_bool tn (by have:=hb.out;omega)
 have hFd:Hid (∀ s W,Below w.heap.size w W→Calls Tryz.prog 81 #[.agg #[.int .i64 R,.slice TA tn tc],.string s] W fun e w'=>(∃ z,e=.returned (.int .i64 z)∧IxF L (fun x=>seB x.n s) z)∧Below W.heap.size W w'):=Lib.hid fun s W hW=>find_any L R TA tn tc s W (h.bel hW) (by have:=hb.out;omega)
 have hlen:=Lib.hid h.len
 have hRh:=Lib.hid hR
 replace h:=Lib.hid h
 replace hN:=Lib.hid hN
 replace hd:=Lib.hid hd
 replace hfd:=Lib.hid hfd
 have hnh:=Lib.hid hnn
 clear hx hv htp hR hnn
 have S:=((St.new w).allocAt (w.heap.size) #[.int .i64 R,.slice TA tn tc] 37 (noLof rfl) (by simp))
 replace S:=Lib.hid S
 go_enter Tryz.func36,Tryz.ntmps36
 go_wp2_with fail
 refine (hV.out _ S.out.bel).mono ?_
 rintro e w1 ⟨rfl,bb⟩
 have T:=(S.out.call bb)
 clear bb S
 have S:=T
 clear T
 obtain⟨c_x0,c_x1,f_x0,f_x1⟩:=S.cf2 0 rfl
 have hz:w.heap.size<w1.heap.size:=S.lt 0 rfl
 replace S:=Lib.hid S
 have S1:=Lib.hid (S.out.allocC boolC (List.replicate tn false) w1.heap.size 4 rfl)
 clear S
 go_wp2
 replace hmk:=Lib.hid hmk
 clear hmk c_x0 f_x0 c_x1 f_x1 hz
 obtain⟨nb,hnb⟩:∃ g,g=w1.heap.size:=⟨_,rfl⟩
 generalize hW:World.alloc _ _=w4 at S1 ⊢
 clear hW
 rw[←hnb] at S1 ⊢
 clear hnb
 go_loopw [21] (fun iv wr=>∃ (i:Nat) (Nd:List Bool),i≤nn∧iv=.int .i64 i∧Nd.length=tn∧St w wr [(nb,(boolC.all Nd).toArray,4),(w.heap.size,#[.int .i64 R,.slice TA tn tc],37)] []∧NdOK L (ns.take i) Nd) (fun iv _=>nn-(intOf iv).toNat)
 case atStart=>exact⟨0,_,Nat.zero_le _,rfl,List.length_replicate,S1.out,NdOK.nil_ L tn⟩
 case round=>
  clear S1
  obtain⟨i,Nd,hin,rfl,hNl,S,hok⟩:=hrel
  by_cases hlt:i<nn
  ·obtain⟨b,o,s,rfl,hs,hsm,e0⟩:=str_get (hN.out.bel S.bel) hlt
   obtain⟨c_0,c_1,f_0,f_1⟩:=S.cf2 1 rfl
   have hz:w.heap.size<wr.heap.size:=S.lt 1 rfl
   have hih:=Lib.hid hlt
   have g1:(i:Int)<(nn:Int):=by omega
   have g2:(0:Int)≤(i:Int):=by omega
   have hFs:=Lib.hid (hFd.out s wr S.bel)
   replace S:=Lib.hid S
   replace hok:=Lib.hid hok
   replace hs:=Lib.hid hs
   replace hsm:=Lib.hid hsm
   replace hNl:=Lib.hid hNl
   clear hlt hin
   go_wp2_with fail
   refine hFs.out.mono ?_
   rintro e w5 ⟨⟨z,rfl,hz2⟩,bb⟩
   obtain⟨k,rfl,hit,hkl⟩:=hz2.hit (hfd.out s hsm.out)
   rw[hlen.out] at hkl
   have S2:=S.out.call bb
   have hKi:=List.getElem?_eq_getElem (l:=Nd) (i:=k) (by rw[hNl.out];exact hkl)
   obtain⟨hcl,hfr⟩:=St_gcl (C:=boolC) S2 hKi
   have hc0:=hcl 0 _ rfl
   rw[show boolC.sz=1 from rfl,Nat.mul_one,Nat.add_zero] at hc0
   have hf0:=hfr k
   have S3:=Lib.hid (show St w (w5.setCell ⟨nb,k,none⟩ (.bool true)) [(nb,(boolC.all (Nd.set k true)).toArray,4),(w.heap.size,#[.int .i64 R,.slice TA tn tc],37)] [] from by
    have:=St_gset S2 true (i:=k) (by rw[hNl.out];exact hkl)
    simpa [wset,boolC,cellC] using this)
   have hok2:Hid (NdOK L (ns.take (i+1)) (Nd.set k true)):=Lib.hid (by rw[take_snoc hs.out];exact hok.out.snoc hit (by rw[hNl.out];exact hkl) (fun q hq=>hit.uniq hq))
   have g3:(k:Int)<(tn:Int):=by omega
   have g4:(0:Int)≤(k:Int):=by omega
   have g5:¬ (k:Int)<0:=by omega
   clear bb S2 hcl hfr hKi e0 c_0 c_1 f_0 f_1 hz S hz2 hit hFs
   have hlt:=hih.out
   have hbb:=hnh.out
   go_wp2
   go_roundw
   case rel=>exact⟨i+1,Nd.set k true,by omega,by go_num,by rw[List.length_set];exact hNl.out,S3.out,hok2.out⟩
   case measure=>simp[intOf];omega
  ·obtain rfl:nn=i:=by omega
   rw[List.take_of_length_le (by rw[hN.out.len];exact Nat.le_refl _)] at hok
   have hwi:=Lib.hid (fun row=>whole_iff (row:=row) hok hd.out)
   obtain⟨c_0,c_1,f_0,f_1⟩:=S.cf2 1 rfl
   have hz:w.heap.size<wr.heap.size:=S.lt 1 rfl
   replace S:=Lib.hid S
   replace hNl:=Lib.hid hNl
   clear hlt hin hok
   go_wp2
   clear c_0 c_1 f_0 f_1 hz
   go_loopw [10,36] (fun av iv wr=>∃ i:Nat,i≤R∧iv=.int .i64 i∧Gro intC w wr [(nb,(boolC.all Nd).toArray,4),(w.heap.size,#[.int .i64 R,.slice TA tn tc],37)] [] 3 av (rowsX L ns i)) (fun _ iv _=>R-(intOf iv).toNat)
   case atStart=>exact⟨0,Nat.zero_le _,rfl,Gro.nil_ intC S.out _⟩
   case round=>
    clear S
    obtain⟨i,hin,rfl,G⟩:=hrel
    by_cases hlt:i<R
    ·have hCo:=Lib.hid (isComplete_any R TA tn tc L i nb tn Nd wr (h.out.bel G.st.bel) (St_glr G.st tn hNl.out (fun _ _=>trivial)) hb.out (fun x hxm=>by rw[hce.out x hxm];exact hlt) (by have:=hRh.out;omega) (wholeB L ns i) (hwi.out i))
     obtain⟨c_0,c_1,f_0,f_1⟩:=G.st.cf2 1 rfl
     have hz:w.heap.size<wr.heap.size:=G.st.lt 1 rfl
     have hih:=Lib.hid hlt
     have g1:(i:Int)<(R:Int):=by omega
     have hle:=Lib.hid (rowsX_le L ns i)
     obtain⟨v,hv⟩:∃ v,v=wholeB L ns i:=⟨_,rfl⟩
     rw[←hv] at hCo
     replace hv:=Lib.hid hv
     replace G:=Lib.hid G
     clear hlt hin
     go_wp2_with fail
     refine hCo.out.mono ?_
     rintro e w5 ⟨rfl,bb⟩
     have G1:=Lib.hid (G.out.call bb)
     clear bb G hCo c_0 c_1 f_0 f_1 hz
     cases v
     ·have hlt:=hih.out
      have hbb:=hRh.out
      go_wp2
      go_roundw
      case rel=>exact⟨i+1,by omega,by go_num,by rw[rowsX_no hv.out.symm];exact G1.out⟩
      case measure=>simp[intOf];omega
     ·have GA:=Lib.hid (G1.out.alloc #[.int .i64 i] 3 (noLof rfl))
      clear G1
      go_wp2_with (at_builtin;refine Gro.wp2 rfl (.tmp 43) (.tmp 45) 69 rfl (.int .i64 0) 8 Tryz.underlying69 (by kernel_rfl) rfl (fun v hv z e=>by simp[Value.cells] at hv;subst hv;cases e) rfl GA.out w5.heap.size (i:Int) rfl ((GA.out.st).cb 0 rfl) trivial (by have:=hle.out;have:=hRh.out;have:=hih.out;omega) (by have:=hle.out;have:=hRh.out;have:=hih.out;unfold maxLen;omega) ?_)
      intro av1 w6 G2 hmk
      replace G2:=Lib.hid (G2.sub (fun _ _=>trivial))
      clear GA hmk
      have hlt:=hih.out
      have hbb:=hRh.out
      go_wp2
      go_roundw
      case rel=>exact⟨i+1,by omega,by go_num,by rw[rowsX_yes hv.out.symm];exact G2.out⟩
      case measure=>simp[intOf];omega
    ·obtain rfl:R=i:=by omega
     obtain⟨A,c,hav,hl⟩:=G.lr
     have hbl:=Lib.hid G.st.bel
     subst hav
     replace hl:=Lib.hid hl
     clear hlt hin G
     go_wp2
     go_ret2
     exact⟨A,c,rfl,hl.out,hbl.out⟩
end Go.Proofs.YtdeedofmflelfaaGreatDoor

namespace Go.Proofs.YtdeedofmflelfaaGreatDoor
open Go.RowKit RQ
set_option linter.unusedVariables false
/-- The name of the column that a number stands for. -/
def nmOf (L:List Cl) (k:Int):ByteArray:=((L[(k%(L.length:Int)).toNat]?).map (·.n)).getD ByteArray.empty
theorem nmOf_at {L:List Cl} {k:Int} {n q:Nat} {x:Cl} (hn:L.length=n) (hq:k%(n:Int)=(q:Int)) (hx:L[q]?=some x):nmOf L k=x.n:=by
 unfold nmOf
 rw[hn,hq,Int.toNat_natCast,hx];rfl
theorem seB_self (s:ByteArray):seB s s=true:=seB_eq.2 rfl
theorem nmOf_found {L:List Cl} (h:0<L.length) (l:List Int):Found L (l.map (nmOf L)):=fun s hs=>by
 obtain⟨k,_,rfl⟩:=List.mem_map.1 hs
 have h1:0≤k%(L.length:Int):=Int.emod_nonneg _ (by omega)
 have h2:k%(L.length:Int)<L.length:=Int.emod_lt_of_pos _ (by omega)
 obtain⟨q,hq⟩:∃ q:Nat,k%(L.length:Int)=q:=⟨(k%(L.length:Int)).toNat,by omega⟩
 have hl:q<L.length:=by omega
 rw[nmOf_at rfl hq (List.getElem?_eq_getElem hl)]
 exact⟨L[q],List.getElem_mem hl,seB_self _⟩
theorem Found.app {L:List Cl} {a b:List ByteArray} (h1:Found L a) (h2:Found L b):Found L (a++b):=fun s hs=>by
 rcases List.mem_append.1 hs with h | h
 ·exact h1 s h
 ·exact h2 s h
theorem wholeB_app (L:List Cl) (a b:List ByteArray) (i:Nat):wholeB L (a++b) i=(wholeB L a i&&wholeB L b i):=List.all_append
theorem rowsX_mono (L:List Cl) (a b:List ByteArray) (n:Nat):(rowsX L (a++b) n).length≤(rowsX L a n).length:=by
 unfold rowsX
 rw[List.length_map,List.length_map,←List.countP_eq_length_filter,←List.countP_eq_length_filter]
 refine List.countP_mono_left fun i _ h=>?_
 rw[wholeB_app,Bool.and_eq_true] at h
 exact h.1
theorem rowsX_pre (L:List Cl) (ns:List ByteArray) (i:Nat):∀ d,∃ t,rowsX L ns (i+d)=rowsX L ns i++t
 | 0=>⟨[],by simp⟩
 | d+1=>by
  obtain⟨t,ht⟩:=rowsX_pre L ns i d
  cases h:wholeB L ns (i+d)
  ·exact⟨t,by rw[←Nat.add_assoc,rowsX_no h,ht]⟩
  ·exact⟨t++[((i+d:Nat):Int)],by rw[←Nat.add_assoc,rowsX_yes h,ht,List.append_assoc]⟩
theorem rowsX_at {L:List Cl} {ns:List ByteArray} {i R:Nat} (hi:i<R) (h:wholeB L ns i=true):(rowsX L ns R)[(rowsX L ns i).length]?=some (i:Int)∧(rowsX L ns i).length<(rowsX L ns R).length:=by
 obtain⟨d,rfl⟩:∃ d,R=(i+1)+d:=⟨R-(i+1),by omega⟩
 obtain⟨t,ht⟩:=rowsX_pre L ns (i+1) d
 rw[ht,rowsX_yes h,List.append_assoc]
 refine⟨?_,by simp⟩
 rw[List.getElem?_append_right (Nat.le_refl _),Nat.sub_self];rfl
theorem whole_one {L:List Cl} {s:ByteArray} {k row:Nat} {x:Cl} (hd:diffB (L.map (·.n))=true) (h:Hit L s k) (hx:L[k]?=some x):wholeB L [s] row = !(missB x row):=by
 obtain⟨y,h1,h2,_⟩:=h
 rw[h1] at hx
 injection hx with hx
 subst hx
 rw[diffB_nd] at hd
 unfold wholeB
 rw[List.all_cons,List.all_nil,Bool.and_true]
 cases hm:missB y row
 ·rw[List.all_eq_true.2];· rfl
  intro z hz
  cases hzs:seB z.n s
  ·rfl
  ·obtain⟨q,hq⟩:=List.getElem?_of_mem hz
   rw[seB_eq] at h2 hzs
   have e1:(L.map (·.n))[k]?=some s:=by rw[List.getElem?_map,h1];exact congrArg some h2
   have e2:(L.map (·.n))[q]?=some s:=by rw[List.getElem?_map,hq];exact congrArg some hzs
   have hl:=(List.getElem?_eq_some_iff.1 e1).1
   have:=(List.getElem?_inj hl hd).1 (e1.trans e2.symm)
   subst this
   rw[h1] at hq
   injection hq with hq
   subst hq
   rw[hm];rfl
 ·rw[List.all_eq_false.2 ⟨y,List.mem_of_getElem? h1,by rw[h2,hm];simp⟩];rfl
end Go.Proofs.YtdeedofmflelfaaGreatDoor

namespace Go.Proofs.YtdeedofmflelfaaGreatDoor
open Go.RowKit RQ
set_option linter.unusedVariables false
set_option maxRecDepth 100000 in
set_option maxHeartbeats 4000000 in
theorem tcr_any (R:Int) (TA:Option Addr) (tn tc:Nat) (L:List Cl) (aA:Option Addr) (an ac:Nat) (La:List Int) (bA:Option Addr) (bn bc:Nat) (Lb:List Int) (w:World) (h:LR clC w TA tn L) (ha:LR intC w aA an La) (hb:LR intC w bA bn Lb):Calls Tryz.prog 9 #[.agg #[.int .i64 R,.slice TA tn tc],.slice aA an ac,.slice bA bn bc] w fun e w'=>e=.returned (.bool true)∧Below w.heap.size w w':=by
 have hA:=Lib.hid (fun W=>awake_any W)
 have hLi:Hid (∀ W,Below w.heap.size w W→Calls Tryz.prog 28 #[.agg #[.int .i64 R,.slice TA tn tc]] W fun e w'=>(∃ v:Bool,e=.returned (.bool v)∧(v=true→tn≤40∧∀ x∈L,LiC x))∧Below W.heap.size W w'):=Lib.hid fun W hW=>llight_any R TA tn tc L W (h.bel hW)
 have hlen:=Lib.hid h.len
 have hT:=Lib.hid h
 have haL:=Lib.hid ha
 have hbL:=Lib.hid hb
 clear h ha hb
 have S:=((St.new w).allocAt (w.heap.size) #[.int .i64 R,.slice TA tn tc] 37 (noLof rfl) (by simp))
 replace S:=Lib.hid S
 go_enter Tryz.func9,Tryz.ntmps9
 go_wp2_with fail
 refine (hLi.out _ S.out.bel).mono ?_
 rintro e w1 ⟨⟨v,rfl,hli⟩,bb⟩
 have T:=(S.out.call bb)
 clear bb S
 have S:=T
 clear T
 obtain⟨c_x0,c_x1,f_x0,f_x1⟩:=S.cf2 0 rfl
 have hz:w.heap.size<w1.heap.size:=S.lt 0 rfl
 replace S:=Lib.hid S
 cases v
 ·clear hli hLi hT haL hbL
  go_wp2_with fail
  refine (hA.out _).mono ?_
  rintro e w2 ⟨rfl,bb⟩
  have T:=(S.out.call bb)
  clear bb S c_x0 f_x0 c_x1 f_x1 hz
  have S:=T
  clear T
  obtain⟨c_x0,c_x1,f_x0,f_x1⟩:=S.cf2 0 rfl
  have hz:w.heap.size<w2.heap.size:=S.lt 0 rfl
  replace S:=Lib.hid S
  go_wp2
  go_ret
  exact⟨rfl,S.out.bel⟩
 obtain⟨htn,hlc⟩:=hli rfl
 clear hli hLi
 replace htn:=Lib.hid htn
 replace hlc:=Lib.hid hlc
 by_cases h1:10<an
 ·have g1:(10:Int)<(an:Int):=by omega
  clear h1 hT haL hbL
  go_wp2_with fail
  refine (hA.out _).mono ?_
  rintro e w2 ⟨rfl,bb⟩
  have T:=(S.out.call bb)
  clear bb S c_x0 f_x0 c_x1 f_x1 hz
  have S:=T
  clear T
  obtain⟨c_x0,c_x1,f_x0,f_x1⟩:=S.cf2 0 rfl
  have hz:w.heap.size<w2.heap.size:=S.lt 0 rfl
  replace S:=Lib.hid S
  go_wp2
  go_ret
  exact⟨rfl,S.out.bel⟩
 have g1:¬ (10:Int)<(an:Int):=by omega
 by_cases h2:10<bn
 ·have g2:(10:Int)<(bn:Int):=by omega
  clear h1 h2 hT haL hbL
  go_wp2_with fail
  refine (hA.out _).mono ?_
  rintro e w2 ⟨rfl,bb⟩
  have T:=(S.out.call bb)
  clear bb S c_x0 f_x0 c_x1 f_x1 hz
  have S:=T
  clear T
  obtain⟨c_x0,c_x1,f_x0,f_x1⟩:=S.cf2 0 rfl
  have hz:w.heap.size<w2.heap.size:=S.lt 0 rfl
  replace S:=Lib.hid S
  go_wp2
  go_ret
  exact⟨rfl,S.out.bel⟩
 have g2:¬ (10:Int)<(bn:Int):=by omega
 have hsz:=Lib.hid (And.intro h1 h2)
 clear h1 h2
 have hV:Hid (∀ W,Below w.heap.size w W→Calls Tryz.prog 30 #[.agg #[.int .i64 R,.slice TA tn tc]] W fun e w'=>e=.returned (.bool (tabB R (L.map Cl.lx)))∧Below W.heap.size W w'):=Lib.hid fun W hW=>rValid_any R TA tn tc L W (hT.out.bel hW) (fun x hx=>(hlc.out x hx).l)
 cases hv:tabB R (L.map Cl.lx)
 ·rw[hv] at hV
  clear hT haL hbL hv
  go_wp2_with fail
  refine (hV.out _ S.out.bel).mono ?_
  rintro e w2 ⟨rfl,bb⟩
  have T:=(S.out.call bb)
  clear bb S c_x0 f_x0 c_x1 f_x1 hz
  have S:=T
  clear T
  obtain⟨c_x0,c_x1,f_x0,f_x1⟩:=S.cf2 0 rfl
  have hz:w.heap.size<w2.heap.size:=S.lt 0 rfl
  replace S:=Lib.hid S
  go_wp2_with fail
  refine (hA.out _).mono ?_
  rintro e w3 ⟨rfl,bb⟩
  have T:=(S.out.call bb)
  clear bb S c_x0 f_x0 c_x1 f_x1 hz
  have S:=T
  clear T
  obtain⟨c_x0,c_x1,f_x0,f_x1⟩:=S.cf2 0 rfl
  have hz:w.heap.size<w3.heap.size:=S.lt 0 rfl
  replace S:=Lib.hid S
  go_wp2
  go_ret
  exact⟨rfl,S.out.bel⟩
 rw[hv] at hV
 have htp:=tab_parts hv
 obtain⟨Rn,rfl⟩:=Int.eq_ofNat_of_zero_le htp.1
 have hd:Hid (diffB (L.map (·.n))=true):=Lib.hid (by
  have:=htp.2.2.2.1
  unfold namesB at this
  rw[Bool.and_eq_true,List.map_map] at this
  exact this.1)
 replace htp:=Lib.hid htp
 replace hv:=Lib.hid hv
 go_wp2_with fail
 refine (hV.out _ S.out.bel).mono ?_
 rintro e w2 ⟨rfl,bb⟩
 have T:=(S.out.call bb)
 clear bb S c_x0 f_x0 c_x1 f_x1 hz
 have S:=T
 clear T
 obtain⟨c_x0,c_x1,f_x0,f_x1⟩:=S.cf2 0 rfl
 have hz:w.heap.size<w2.heap.size:=S.lt 0 rfl
 replace S:=Lib.hid S
 by_cases h3:tn=0
 ·subst h3
  clear hT haL hbL hV
  go_wp2_with fail
  refine (hA.out _).mono ?_
  rintro e w3 ⟨rfl,bb⟩
  have T:=(S.out.call bb)
  clear bb S c_x0 f_x0 c_x1 f_x1 hz
  have S:=T
  clear T
  obtain⟨c_x0,c_x1,f_x0,f_x1⟩:=S.cf2 0 rfl
  have hz:w.heap.size<w3.heap.size:=S.lt 0 rfl
  replace S:=Lib.hid S
  go_wp2
  go_ret
  exact⟨rfl,S.out.bel⟩
 have g3:((tn:Int)==0)=false:=by rw[beq_eq_false_iff_ne];omega
 have hpos:=Lib.hid (show 0<tn by omega)
 have h3n:=Lib.hid h3
 clear h3
 by_cases h4:40<Rn
 ·have g4:(40:Int)<(Rn:Int):=by omega
  clear h4 hT haL hbL hV
  go_wp2_with fail
  refine (hA.out _).mono ?_
  rintro e w3 ⟨rfl,bb⟩
  have T:=(S.out.call bb)
  clear bb S c_x0 f_x0 c_x1 f_x1 hz
  have S:=T
  clear T
  obtain⟨c_x0,c_x1,f_x0,f_x1⟩:=S.cf2 0 rfl
  have hz:w.heap.size<w3.heap.size:=S.lt 0 rfl
  replace S:=Lib.hid S
  go_wp2
  go_ret
  exact⟨rfl,S.out.bel⟩
 have g4:¬ (40:Int)<(Rn:Int):=by omega
 have hRn:=Lib.hid h4
 clear h4 hV
 obtain⟨tb,tq,_,rfl,_⟩:=cl_get hT.out hpos.out
 go_wp2
 clear c_x0 f_x0 c_x1 f_x1 hz
 go_loopw [7,9] (fun av iv wr=>∃ (i:Nat) (v0:Value),i≤an∧iv=.int .i64 i∧v0=av∧Gro strC w wr [(w.heap.size,#[.int .i64 Rn,.slice (some ⟨tb,tq,none⟩) tn tc],37)] [] 9 v0 (((La.take i).map (nmOf L)))) (fun _ iv _=>an-(intOf iv).toNat)
 case atStart=>exact⟨0,_,Nat.zero_le _,rfl,rfl,Gro.nil_ strC S.out _⟩
 case round=>
  clear S
  obtain⟨i,v0,hin,rfl,rfl,G⟩:=hrel
  by_cases hlt:i<an
  ·obtain⟨ba,oa,kk,rfl,hk,hkm,ek⟩:=int_get haL.out hlt
   have hM:=Lib.hid (fun W=>mmod_any kk tn W (by have:=hpos.out;omega) (by have:=htn.out;omega))
   obtain⟨q,hq⟩:∃ q:Nat,kk%(tn:Int)=q:=⟨(kk%(tn:Int)).toNat,by have:=Int.emod_nonneg kk (show (tn:Int)≠0 by have:=hpos.out;omega);omega⟩
   have hql:q<tn:=by have:=Int.emod_lt_of_pos kk (show (0:Int)<(tn:Int) by have:=hpos.out;omega);omega
   obtain⟨x,hx⟩:∃ x,L[q]?=some x:=⟨_,List.getElem?_eq_getElem (by rw[hlen.out];exact hql)⟩
   have e0:Hid (w.cell? ⟨tb,tq+q*4,none⟩=some (.string x.n)):=Lib.hid (lr_cell hT.out hx (k:=0) rfl)
   have hnm:Hid ((La.take (i+1)).map (nmOf L)=(La.take i).map (nmOf L)++[x.n]):=Lib.hid (by rw[take_snoc hk,List.map_append,List.map_cons,List.map_nil,nmOf_at hlen.out hq hx])
   have hli:Hid ((((La.take i).map (nmOf L))).length≤20):=Lib.hid (by simp;have:=hsz.out;omega)
   rw[hq] at hM
   have hih:=Lib.hid hlt
   have g5:(i:Int)<(an:Int):=by omega
   have g6:(0:Int)≤(i:Int):=by omega
   have g7:(q:Int)<(tn:Int):=by omega
   have g8:(0:Int)≤(q:Int):=by omega
   replace ek:=Lib.hid ek
   obtain⟨c_0,c_1,f_0,f_1⟩:=G.st.cf2 0 rfl
   have hz:w.heap.size<wr.heap.size:=G.st.lt 0 rfl
   replace G:=Lib.hid G
   clear hlt hin hk hkm hq hql hx
   go_upto_region 7 with fail
   clear c_0 f_0 c_1 f_1 hz
   have hbase:=Lib.hid (St.new wr)
   refine RW.begin (Z:=[]) (S:=(fun W=>Cb W w.heap.size #[.int .i64 Rn,.slice (some ⟨tb,tq,none⟩) tn tc] 37∧Below w.heap.size w W)) (by kernel_rfl) ?_ hbase.out ?_
   ·exact⟨by kernel_rfl,zis_nil,by decide,by decide,nol_nil,(fun _ _ h=>⟨(G.out.st.cb 0 rfl).bel h.bel,G.out.st.bel.trans (h.bel.mono G.out.st.bel.size)⟩)⟩
   intro hzk
   refine RW.t (i:=0) (v:=v0) (some 55) at0 (hy:=fun _ _=>by kernel_rfl) (h:=?_)
   refine RW.t (i:=1) (v:=.pointer (some ⟨w.heap.size,1,none⟩)) (some 56) at1 (hy:=fun _ _=>by kernel_rfl) (h:=?_)
   refine RW.t (i:=2) (v:=.slice (some ⟨tb,tq,none⟩) tn tc) (some 57) at2 (hy:=fun W hS=>by (have k0:=Cb.cell (i:=1) hS.1 rfl;clear hS;go_simp)) (h:=?_)
   refine RW.t (i:=3) (v:=.slice (some ⟨ba,oa,none⟩) an ac) (some 58) at3 (hy:=fun _ _=>by kernel_rfl) (h:=?_)
   refine RW.t (i:=4) (v:=.int .i64 i) (some 59) at4 (hy:=fun _ _=>by kernel_rfl) (h:=?_)
   refine RW.t (i:=5) (v:=.pointer (some ⟨ba,oa+i,none⟩)) (some 60) at5 (hy:=fun _ _=>by go_simp) (h:=?_)
   refine RW.t (i:=6) (v:=.int .i64 kk) (some 61) at6 (hy:=fun W hS=>by (have k0:=bel_cell hS.2 ek.out;clear hS;go_simp)) (h:=?_)
   refine RW.t (i:=7) (v:=.pointer (some ⟨w.heap.size,1,none⟩)) (some 62) at7 (hy:=fun _ _=>by kernel_rfl) (h:=?_)
   refine RW.t (i:=8) (v:=.slice (some ⟨tb,tq,none⟩) tn tc) (some 63) at8 (hy:=fun W hS=>by (have k0:=Cb.cell (i:=1) hS.1 rfl;clear hS;go_simp)) (h:=?_)
   refine RW.t (i:=9) (v:=.int .i64 tn) (some 64) at9 (hy:=fun _ _=>by go_simp) (h:=?_)
   refine RW.c (i:=10) (args:=#[.int .i64 kk,.int .i64 tn]) (some 65) hzk.out at10 (hx:=fun _=>by kernel_rfl) (h:=fun W S=>(hM.out W).mono ?_)
   rintro e w7 ⟨rfl,rfl⟩
   refine⟨Below.refl _ _,_,[],rfl,rd_nil,?_⟩
   clear S
   refine RW.t (i:=11) (v:=.pointer (some ⟨tb,tq+q*4,none⟩)) (some 66) at11 (hy:=fun _ _=>by go_simp) (h:=?_)
   refine RW.t (i:=12) (v:=.pointer (some ⟨tb,tq+q*4,none⟩)) (some 67) at12 (hy:=fun _ _=>by kernel_rfl) (h:=?_)
   refine RW.t (i:=13) (v:=.string x.n) (some 68) at13 (hy:=fun W hS=>by (have k0:=bel_cell hS.2 e0.out;clear hS;go_simp)) (h:=?_)
   refine RW.tail hzk.out (by kernel_rfl) ?_
   intro gs' w5 hgs' hS Sb
   obtain rfl:=len0 hgs'
   simp only[mark,fill,Act.put,List.setIfInBounds_toArray,List.set_cons_zero,List.set_cons_succ]
   have T:=Lib.hid (G.out.call Sb.bel)
   clear G Sb hS hgs' hzk hbase
   have G:=T
   clear T
   refine Wk.o (i:=14) at14 (by kernel_rfl) fun K' hK=>?_
   go_simp
   have T:=Lib.hid (G.out.alloc #[.string x.n] 9 (noLof rfl))
   clear G
   refine hK.out _ _ ⟨T.out.st.cb 1 rfl,T.out.st.bel⟩ ?_
   clear hK K'
   try simp only[Act.put,List.setIfInBounds_toArray,List.set_cons_zero,List.set_cons_succ]
   refine Wk.o (i:=15) at15 (by kernel_rfl) fun K' hK=>?_
   refine Gro.op (.tmp 55) (.tmp 69) 22 rfl (.string ByteArray.empty) 16 Tryz.underlying22 (by kernel_rfl) rfl (fun v hv z e=>by simp[Value.cells] at hv;subst hv;cases e) rfl T.out w5.heap.size x.n rfl (T.out.st.cb 0 rfl) trivial (by have:=hli.out;have:=hih.out;have:=hsz.out;omega) (by have:=hli.out;have:=hih.out;have:=hsz.out;unfold maxLen;omega) ?_
   intro av1 w6 G2 hmk
   replace G2:=Lib.hid (G2.sub (fun _ _=>trivial))
   clear T hmk
   refine hK.out _ _ ⟨G2.out.st.cb 0 rfl,G2.out.st.bel⟩ ?_
   clear hK K'
   try simp only[Act.put,List.setIfInBounds_toArray,List.set_cons_zero,List.set_cons_succ]
   refine Wk.o (i:=16) at16 (by kernel_rfl) fun K' hK=>?_
   go_simp
   refine hK.out _ _ ⟨G2.out.st.cb 0 rfl,G2.out.st.bel⟩ ?_
   clear hK K'
   try simp only[Act.put,List.setIfInBounds_toArray,List.set_cons_zero,List.set_cons_succ]
   refine Wk.done (by kernel_rfl) ?_
   go_simp
   have hlt:=hih.out
   have hbb:=hsz.out
   go_wp2
   go_roundw
   case rel=>exact⟨i+1,av1,by omega,by go_num,rfl,by rw[hnm.out];exact G2.out⟩
   case measure=>simp[intOf];omega
  ·obtain rfl:an=i:=by omega
   rw[show La.take an=La from List.take_of_length_le (by rw[haL.out.len];exact Nat.le_refl _)] at G
   obtain⟨⟨lA,lc,lL⟩,ob,hav,hl,hob,S2⟩:=G.opt
   obtain⟨ns,hns⟩:∃ z,z=La.map (nmOf L):=⟨_,rfl⟩
   rw[←hns] at hl
   obtain rfl:lL=ns:=hl
   replace hav:=hav.trans (show Sl.v ⟨lA,lc,lL⟩=Value.slice lA lL.length lc from rfl)
   subst hav
   have hl1:=(OBt.lr hob S2).1
   have hnl:Hid (lL.length=an):=Lib.hid (by rw[hns,List.length_map];exact haL.out.len)
   have hfn:Hid (Found L lL):=Lib.hid (by rw[hns];exact nmOf_found (by rw[hlen.out];exact hpos.out) La)
   have GN:=Lib.hid (Gro.nil_ strC S2 9)
   replace hob:=Lib.hid hob
   replace hns:=Lib.hid hns
   replace hl1:=Lib.hid hl1
   clear hlt hin G S2
   go_wp2_with (at_builtin;refine Gro.wpm rfl (.tmp 71) (.tmp 72) 22 rfl (.string ByteArray.empty) 16 Tryz.underlying22 (by kernel_rfl) rfl (fun v hv z e=>by simp[Value.cells] at hv;subst hv;cases e) rfl GN.out lL lA lc rfl hl1.out (fun _ _=>trivial) (by have:=hnl.out;have:=hsz.out;simp;omega) (by have:=hnl.out;have:=hsz.out;simp;unfold maxLen;omega) ?_)
   intro av1 w6 GM
   replace GM:=Lib.hid (show Gro strC w w6 ((w.heap.size,#[.int .i64 Rn,.slice (some ⟨tb,tq,none⟩) tn tc],37)::ob) [] 9 av1 lL from GM)
   clear GN hl1
   go_wp2
   go_loopw [8,10] (fun av iv wr=>∃ (i:Nat) (v0:Value),i≤bn∧iv=.int .i64 i∧v0=av∧Gro strC w wr ((w.heap.size,#[.int .i64 Rn,.slice (some ⟨tb,tq,none⟩) tn tc],37)::ob) [] 9 v0 (lL++((Lb.take i).map (nmOf L)))) (fun _ iv _=>bn-(intOf iv).toNat)
   case atStart=>exact⟨0,_,Nat.zero_le _,rfl,rfl,by rw[List.take_zero,List.map_nil,List.append_nil];exact GM.out⟩
   case round=>
    clear GM
    obtain⟨i,v0,hin,rfl,rfl,G⟩:=hrel
    by_cases hlt:i<bn
    ·obtain⟨ba,oa,kk,rfl,hk,hkm,ek⟩:=int_get hbL.out hlt
     have hM:=Lib.hid (fun W=>mmod_any kk tn W (by have:=hpos.out;omega) (by have:=htn.out;omega))
     obtain⟨q,hq⟩:∃ q:Nat,kk%(tn:Int)=q:=⟨(kk%(tn:Int)).toNat,by have:=Int.emod_nonneg kk (show (tn:Int)≠0 by have:=hpos.out;omega);omega⟩
     have hql:q<tn:=by have:=Int.emod_lt_of_pos kk (show (0:Int)<(tn:Int) by have:=hpos.out;omega);omega
     obtain⟨x,hx⟩:∃ x,L[q]?=some x:=⟨_,List.getElem?_eq_getElem (by rw[hlen.out];exact hql)⟩
     have e0:Hid (w.cell? ⟨tb,tq+q*4,none⟩=some (.string x.n)):=Lib.hid (lr_cell hT.out hx (k:=0) rfl)
     have hnm:Hid ((Lb.take (i+1)).map (nmOf L)=(Lb.take i).map (nmOf L)++[x.n]):=Lib.hid (by rw[take_snoc hk,List.map_append,List.map_cons,List.map_nil,nmOf_at hlen.out hq hx])
     have hli:Hid ((lL++((Lb.take i).map (nmOf L))).length≤20):=Lib.hid (by simp;have:=hsz.out;have:=hnl.out;omega)
     rw[hq] at hM
     have hih:=Lib.hid hlt
     have g5:(i:Int)<(bn:Int):=by omega
     have g6:(0:Int)≤(i:Int):=by omega
     have g7:(q:Int)<(tn:Int):=by omega
     have g8:(0:Int)≤(q:Int):=by omega
     replace ek:=Lib.hid ek
     obtain⟨c_0,c_1,f_0,f_1⟩:=G.st.cf2 0 rfl
     have hz:w.heap.size<wr.heap.size:=G.st.lt 0 rfl
     replace G:=Lib.hid G
     clear hlt hin hk hkm hq hql hx
     go_upto_region 12 with fail
     clear c_0 f_0 c_1 f_1 hz
     have hbase:=Lib.hid (St.new wr)
     refine RW.begin (Z:=[]) (S:=(fun W=>Cb W w.heap.size #[.int .i64 Rn,.slice (some ⟨tb,tq,none⟩) tn tc] 37∧Below w.heap.size w W)) (by kernel_rfl) ?_ hbase.out ?_
     ·exact⟨by kernel_rfl,zis_nil,by decide,by decide,nol_nil,(fun _ _ h=>⟨(G.out.st.cb 0 rfl).bel h.bel,G.out.st.bel.trans (h.bel.mono G.out.st.bel.size)⟩)⟩
     intro hzk
     refine RW.t (i:=0) (v:=v0) (some 80) at0 (hy:=fun _ _=>by kernel_rfl) (h:=?_)
     refine RW.t (i:=1) (v:=.pointer (some ⟨w.heap.size,1,none⟩)) (some 81) at1 (hy:=fun _ _=>by kernel_rfl) (h:=?_)
     refine RW.t (i:=2) (v:=.slice (some ⟨tb,tq,none⟩) tn tc) (some 82) at2 (hy:=fun W hS=>by (have k0:=Cb.cell (i:=1) hS.1 rfl;clear hS;go_simp)) (h:=?_)
     refine RW.t (i:=3) (v:=.slice (some ⟨ba,oa,none⟩) bn bc) (some 83) at3 (hy:=fun _ _=>by kernel_rfl) (h:=?_)
     refine RW.t (i:=4) (v:=.int .i64 i) (some 84) at4 (hy:=fun _ _=>by kernel_rfl) (h:=?_)
     refine RW.t (i:=5) (v:=.pointer (some ⟨ba,oa+i,none⟩)) (some 85) at5 (hy:=fun _ _=>by go_simp) (h:=?_)
     refine RW.t (i:=6) (v:=.int .i64 kk) (some 86) at6 (hy:=fun W hS=>by (have k0:=bel_cell hS.2 ek.out;clear hS;go_simp)) (h:=?_)
     refine RW.t (i:=7) (v:=.pointer (some ⟨w.heap.size,1,none⟩)) (some 87) at7 (hy:=fun _ _=>by kernel_rfl) (h:=?_)
     refine RW.t (i:=8) (v:=.slice (some ⟨tb,tq,none⟩) tn tc) (some 88) at8 (hy:=fun W hS=>by (have k0:=Cb.cell (i:=1) hS.1 rfl;clear hS;go_simp)) (h:=?_)
     refine RW.t (i:=9) (v:=.int .i64 tn) (some 89) at9 (hy:=fun _ _=>by go_simp) (h:=?_)
     refine RW.c (i:=10) (args:=#[.int .i64 kk,.int .i64 tn]) (some 90) hzk.out at10 (hx:=fun _=>by kernel_rfl) (h:=fun W S=>(hM.out W).mono ?_)
     rintro e w7 ⟨rfl,rfl⟩
     refine⟨Below.refl _ _,_,[],rfl,rd_nil,?_⟩
     clear S
     refine RW.t (i:=11) (v:=.pointer (some ⟨tb,tq+q*4,none⟩)) (some 91) at11 (hy:=fun _ _=>by go_simp) (h:=?_)
     refine RW.t (i:=12) (v:=.pointer (some ⟨tb,tq+q*4,none⟩)) (some 92) at12 (hy:=fun _ _=>by kernel_rfl) (h:=?_)
     refine RW.t (i:=13) (v:=.string x.n) (some 93) at13 (hy:=fun W hS=>by (have k0:=bel_cell hS.2 e0.out;clear hS;go_simp)) (h:=?_)
     refine RW.tail hzk.out (by kernel_rfl) ?_
     intro gs' w5 hgs' hS Sb
     obtain rfl:=len0 hgs'
     simp only[mark,fill,Act.put,List.setIfInBounds_toArray,List.set_cons_zero,List.set_cons_succ]
     have T:=Lib.hid (G.out.call Sb.bel)
     clear G Sb hS hgs' hzk hbase
     have G:=T
     clear T
     refine Wk.o (i:=14) at14 (by kernel_rfl) fun K' hK=>?_
     go_simp
     have T:=Lib.hid (G.out.alloc #[.string x.n] 9 (noLof rfl))
     clear G
     refine hK.out _ _ ⟨T.out.st.cb 1 rfl,T.out.st.bel⟩ ?_
     clear hK K'
     try simp only[Act.put,List.setIfInBounds_toArray,List.set_cons_zero,List.set_cons_succ]
     refine Wk.o (i:=15) at15 (by kernel_rfl) fun K' hK=>?_
     refine Gro.op (.tmp 80) (.tmp 94) 22 rfl (.string ByteArray.empty) 16 Tryz.underlying22 (by kernel_rfl) rfl (fun v hv z e=>by simp[Value.cells] at hv;subst hv;cases e) rfl T.out w5.heap.size x.n rfl (T.out.st.cb 0 rfl) trivial (by have:=hli.out;have:=hih.out;have:=hsz.out;omega) (by have:=hli.out;have:=hih.out;have:=hsz.out;unfold maxLen;omega) ?_
     intro av1 w6 G2 hmk
     replace G2:=Lib.hid (G2.sub (fun _ _=>trivial))
     clear T hmk
     refine hK.out _ _ ⟨G2.out.st.cb 0 rfl,G2.out.st.bel⟩ ?_
     clear hK K'
     try simp only[Act.put,List.setIfInBounds_toArray,List.set_cons_zero,List.set_cons_succ]
     refine Wk.o (i:=16) at16 (by kernel_rfl) fun K' hK=>?_
     go_simp
     refine hK.out _ _ ⟨G2.out.st.cb 0 rfl,G2.out.st.bel⟩ ?_
     clear hK K'
     try simp only[Act.put,List.setIfInBounds_toArray,List.set_cons_zero,List.set_cons_succ]
     refine Wk.done (by kernel_rfl) ?_
     go_simp
     have hlt:=hih.out
     have hbb:=hsz.out
     go_wp2
     go_roundw
     case rel=>exact⟨i+1,av1,by omega,by go_num,rfl,by rw[hnm.out,←List.append_assoc];exact G2.out⟩
     case measure=>simp[intOf];omega
    ·obtain rfl:bn=i:=by omega
     rw[show Lb.take bn=Lb from List.take_of_length_le (by rw[hbL.out.len];exact Nat.le_refl _)] at G
     obtain⟨⟨mA,mc,mL⟩,ob2,hav,hl,hob2,S3⟩:=G.opt
     obtain⟨ms,hms⟩:∃ z,z=lL++Lb.map (nmOf L):=⟨_,rfl⟩
     rw[←hms] at hl
     obtain rfl:mL=ms:=hl
     replace hav:=hav.trans (show Sl.v ⟨mA,mc,mL⟩=Value.slice mA mL.length mc from rfl)
     subst hav
     have hm1:=(OBt.lr hob2 S3).1
     have hl1:=(OBt.lr (bs:=(w.heap.size,#[.int .i64 Rn,.slice (some ⟨tb,tq,none⟩) tn tc],37)::ob2) hob.out (S3.prm ((List.perm_append_comm).cons _))).1
     have hml:mL.length≤20:=by rw[hms,List.length_append,List.length_map,hbL.out.len];have:=hnl.out;have:=hsz.out;omega
     have hfm:Found L mL:=by rw[hms];exact hfn.out.app (nmOf_found (by rw[hlen.out];exact hpos.out) Lb)
     have hmono:(rowsX L mL Rn).length≤(rowsX L lL Rn).length:=by rw[hms];exact rowsX_mono _ _ _ _
     obtain⟨n1,hn1⟩:∃ z,z=(rowsX L lL Rn).length:=⟨_,rfl⟩
     obtain⟨n2,hn2⟩:∃ z,z=(rowsX L mL Rn).length:=⟨_,rfl⟩
     have hBw:=S3.bel
     have hbx:Cb wr w.heap.size #[.int .i64 Rn,.slice (some ⟨tb,tq,none⟩) tn tc] 37:=S3.cb 0 rfl
     have hC1:=complete_yes Rn (some ⟨tb,tq,none⟩) tn tc L lL lA lL.length lc wr (hT.out.bel hBw) (fun x hx=>(hlc.out x hx).l) hv.out hl1 (by have:=hnl.out;have:=hsz.out;omega) hfn.out
     have hC2:=fun W (hW:Below wr.heap.size wr W)=>complete_yes Rn (some ⟨tb,tq,none⟩) tn tc L mL mA mL.length mc W ((hT.out.bel hBw).bel hW) (fun x hx=>(hlc.out x hx).l) hv.out (hm1.bel hW) (by omega) hfm
     rw[←hn1] at hC1 hmono
     simp only[←hn2] at hC2 hmono
     have g9:¬ (n1:Int)<(n2:Int):=by omega
     replace hC1:=Lib.hid hC1
     replace hC2:=Lib.hid hC2
     replace hl1:=Lib.hid hl1
     replace hn1:=Lib.hid hn1
     replace hBw:=Lib.hid hBw
     replace hbx:=Lib.hid hbx
     have c_0:=hbx.out.cell (i:=0) rfl
     have c_1:=hbx.out.cell (i:=1) rfl
     clear hlt hin G S3 hob2 hm1 hml hfm hmono hms hn2 hob hns
     go_wp2_with fail
     refine hC1.out.mono ?_
     rintro e w7 ⟨A1,c1,rfl,hr1,bb1⟩
     have hbx7:=Lib.hid (hbx.out.bel bb1)
     replace hr1:=Lib.hid hr1
     replace bb1:=Lib.hid bb1
     clear c_0 c_1 hC1
     have c_0:=hbx7.out.cell (i:=0) rfl
     have c_1:=hbx7.out.cell (i:=1) rfl
     go_wp2_with fail
     refine (hC2.out w7 bb1.out).mono ?_
     rintro e w8 ⟨A2,c2,rfl,hr2,bb2⟩
     have b17:=Lib.hid (bb1.out.trans (bb2.mono bb1.out.size))
     have hbx8:=Lib.hid (hbx7.out.bel bb2)
     have hr8:=Lib.hid (hr1.out.bel bb2)
     have hl8:=Lib.hid (hl1.out.bel b17.out)
     have hT8:=Lib.hid ((hT.out.bel hBw.out).bel b17.out)
     have hB8:=Lib.hid (hBw.out.trans (b17.out.mono hBw.out.size))
     have b0:=Lib.hid (hbx8.out.cell (i:=0) rfl)
     have b1:=Lib.hid (hbx8.out.cell (i:=1) rfl)
     have hce:Hid (∀ x∈L,x.ce.L.length=Rn):=Lib.hid fun x hxm=>by
      have:=List.all_eq_true.1 htp.out.2.2.2.2 x.lx (List.mem_map_of_mem hxm)
      unfold colB at this
      simp only[Bool.and_eq_true,decide_eq_true_eq] at this
      have h3:=this.1.2
      unfold Cl.lx at h3
      rw[List.length_map] at h3
      omega
     have hFi:Hid (∀ s W,Below w8.heap.size w8 W→Calls Tryz.prog 37 #[.agg #[.int .i64 Rn,.slice (some ⟨tb,tq,none⟩) tn tc],.string s] W fun e w'=>(∃ z,e=.returned (.int .i64 z)∧IxF L (fun x=>seB x.n s) z)∧Below W.heap.size W w'):=Lib.hid fun s W hW=>rFind_yes Rn (some ⟨tb,tq,none⟩) tn tc L s W (hT8.out.bel hW) (fun x hx=>(hlc.out x hx).l) (by have:=htp.out.2.2.1;rw[List.length_map,hlen.out] at this;exact this) hv.out
     clear bb2 hr2 c_0 c_1 hbx hbx7 hr1 bb1 hC2 hl1 hBw b17
     go_wp2
     generalize decide (n1<n2)=d9
     clear g9
     go_loopw [15,16] (fun av iv wr=>∃ i:Nat,i≤Rn∧iv=.int .i64 i∧av=.int .i64 ((rowsX L lL i).length:Nat)∧Below w8.heap.size w8 wr) (fun _ iv _=>Rn-(intOf iv).toNat)
     case atStart=>exact⟨0,Nat.zero_le _,rfl,rfl,Below.refl _ _⟩
     case round=>
      obtain⟨i,hin,rfl,hav,B⟩:=hrel
      subst hav
      have hbi:=(hbx8.out.bel B)
      have c_0:=hbi.cell (i:=0) rfl
      have c_1:=hbi.cell (i:=1) rfl
      replace B:=Lib.hid B
      clear hbi
      by_cases hlt:i<Rn
      ·have g5:(i:Int)<(Rn:Int):=by omega
       have hih:=Lib.hid hlt
       obtain⟨ct,hct⟩:∃ z,z=(rowsX L lL i).length:=⟨_,rfl⟩
       rw[←hct]
       replace hct:=Lib.hid hct
       clear hlt hin
       go_wp2
       clear c_0 c_1
       go_loopw [17,18] (fun bv jv wx=>∃ j:Nat,j≤lL.length∧jv=.int .i64 j∧bv=.bool (wholeB L (lL.take j) i)∧Below w8.heap.size w8 wx) (fun _ jv _=>lL.length-(intOf jv).toNat)
       case atStart=>exact⟨0,Nat.zero_le _,rfl,rfl,B.out⟩
       case round=>
        clear B
        obtain⟨j,hjn,rfl,hbv,B⟩:=hrel
        subst hbv
        replace B:=Lib.hid B
        by_cases hlt:j<lL.length
        ·obtain⟨sb,so,s,rfl,hs,hsm,es⟩:=str_get hl8.out hlt
         have g6:(j:Int)<(lL.length:Int):=by omega
         have g7:(0:Int)≤(j:Int):=by omega
         have hjh:=Lib.hid hlt
         replace hs:=Lib.hid hs
         replace hsm:=Lib.hid hsm
         replace es:=Lib.hid es
         clear hlt hjn
         cases hw:wholeB L (lL.take j) i
         ·replace hw:=Lib.hid hw
          go_upto_region 25 with fail
          have hbase:=Lib.hid (St.new wr)
          refine RW.begin (Z:=[]) (S:=(fun W=>Below w8.heap.size w8 W)) (by kernel_rfl) ?_ hbase.out ?_
          ·exact⟨by kernel_rfl,zis_nil,by decide,by decide,nol_nil,(fun _ _ h=>B.out.trans (h.bel.mono B.out.size))⟩
          intro hzk
          refine RW.t (i:=0) (v:=.bool false) (some 133) at0 (hy:=fun _ _=>by kernel_rfl) (h:=?_)
          refine RW.t (i:=1) (v:=.bool false) (some 134) at1 (hy:=fun _ _=>by kernel_rfl) (h:=?_)
          refine RW.u (i:=2) (some 135) at2 (h:=?_)
          refine RW.u (i:=3) (some 136) at3 (h:=?_)
          refine RW.u (i:=4) (some 137) at4 (h:=?_)
          refine RW.u (i:=5) (some 138) at5 (h:=?_)
          refine RW.u (i:=6) (some 139) at6 (h:=?_)
          refine RW.u (i:=7) (some 140) at7 (h:=?_)
          refine RW.u (i:=8) (some 141) at8 (h:=?_)
          refine RW.u (i:=9) (some 142) at9 (h:=?_)
          refine RW.u (i:=10) (some 143) at10 (h:=?_)
          refine RW.u (i:=11) (some 144) at11 (h:=?_)
          refine RW.u (i:=12) (some 145) at12 (h:=?_)
          refine RW.u (i:=13) (some 146) at13 (h:=?_)
          refine RW.u (i:=14) (some 147) at14 (h:=?_)
          refine RW.u (i:=15) (some 148) at15 (h:=?_)
          refine RW.u (i:=16) (some 149) at16 (h:=?_)
          refine RW.u (i:=17) (some 150) at17 (h:=?_)
          refine RW.t (i:=18) (v:=.bool false) (some 151) at18 (hy:=fun _ _=>by kernel_rfl) (h:=?_)
          refine RW.tail hzk.out (by kernel_rfl) ?_
          intro gs' w5 hgs' hS Sb
          obtain rfl:=len0 hgs'
          simp only[mark,fill,Act.put,List.setIfInBounds_toArray,List.set_cons_zero,List.set_cons_succ]
          clear Sb hgs' hzk hbase
          refine Wk.o (i:=19) at19 (by kernel_rfl) fun K' hK=>?_
          go_simp
          refine hK.out _ _ hS ?_
          clear hK K'
          try simp only[Act.put,List.setIfInBounds_toArray,List.set_cons_zero,List.set_cons_succ]
          refine Wk.done (by kernel_rfl) ?_
          have T:=Lib.hid hS
          clear hS B
          go_simp
          have hlt:=hjh.out
          have hbb:=hnl.out
          have hbc:=hsz.out
          go_wp2
          go_roundw
          case rel=>exact⟨j+1,by omega,by go_num,by rw[take_snoc hs.out,wholeB_app,hw.out,Bool.false_and],T.out⟩
          case measure=>simp[intOf];omega
         ·replace hw:=Lib.hid hw
          go_upto_region 25 with fail
          have hbase:=Lib.hid (St.new wr)
          refine RW.begin (Z:=[]) (S:=(fun W=>Below w8.heap.size w8 W)) (by kernel_rfl) ?_ hbase.out ?_
          ·exact⟨by kernel_rfl,zis_nil,by decide,by decide,nol_nil,(fun _ _ h=>B.out.trans (h.bel.mono B.out.size))⟩
          intro hzk
          refine RW.t (i:=0) (v:=.bool true) (some 133) at0 (hy:=fun _ _=>by kernel_rfl) (h:=?_)
          refine RW.t (i:=1) (v:=.bool true) (some 134) at1 (hy:=fun _ _=>by kernel_rfl) (h:=?_)
          refine RW.t (i:=2) (v:=.pointer (some ⟨w.heap.size,1,none⟩)) (some 135) at2 (hy:=fun _ _=>by kernel_rfl) (h:=?_)
          refine RW.t (i:=3) (v:=.slice (some ⟨tb,tq,none⟩) tn tc) (some 136) at3 (hy:=fun W hS=>by (have k0:=bel_cell hS b1.out;clear hS;go_simp)) (h:=?_)
          refine RW.t (i:=4) (v:=.agg #[.int .i64 Rn,.slice (some ⟨tb,tq,none⟩) tn tc]) (some 137) at4 (hy:=fun W hS=>by (have k0:=bel_cell hS b0.out;have k1:=bel_cell hS b1.out;clear hS;go_simp)) (h:=?_)
          refine RW.t (i:=5) (v:=.slice (some ⟨sb,so,none⟩) lL.length lc) (some 138) at5 (hy:=fun _ _=>by kernel_rfl) (h:=?_)
          refine RW.t (i:=6) (v:=.int .i64 j) (some 139) at6 (hy:=fun _ _=>by kernel_rfl) (h:=?_)
          refine RW.t (i:=7) (v:=.pointer (some ⟨sb,so+j,none⟩)) (some 140) at7 (hy:=fun _ _=>by go_simp) (h:=?_)
          refine RW.t (i:=8) (v:=.string s) (some 141) at8 (hy:=fun W hS=>by (have k0:=bel_cell hS es.out;clear hS;go_simp)) (h:=?_)
          refine RW.t (i:=13) (v:=.int .i64 i) (some 146) at13 (hy:=fun _ _=>by kernel_rfl) (h:=?_)
          refine RW.c (i:=9) (args:=#[.agg #[.int .i64 Rn,.slice (some ⟨tb,tq,none⟩) tn tc],.string s]) (some 142) hzk.out at9 (hx:=fun _=>by kernel_rfl) (h:=fun W S=>(hFi.out s W (B.out.trans (S.bel.mono B.out.size))).mono ?_)
          rintro e w7 ⟨⟨z,rfl,hz⟩,bb⟩
          refine⟨bb,_,[],rfl,rd_nil,?_⟩
          clear S bb
          obtain⟨kk,rfl,hit,hkl⟩:=hz.hit (hfn.out s hsm.out)
          rw[hlen.out] at hkl
          obtain⟨x,hx⟩:∃ x,L[kk]?=some x:=⟨_,List.getElem?_eq_getElem (by rw[hlen.out];exact hkl)⟩
          have hxm:=List.mem_of_getElem? hx
          have e3:w8.cell? ⟨tb,tq+kk*4+3,none⟩=some (.slice x.ce.A x.ce.L.length x.ce.c):=lr_cell hT8.out hx (k:=3) rfl
          obtain⟨b3,o3,y,hA3,hy,_,_,y0,_⟩:=ce_get (cl_at.1 (hT8.out.el x hxm)).2.1 (by rw[hce.out x hxm];exact hih.out)
          have hone:=whole_one (row:=i) hd.out hit hx
          rw[show missB x i=y.m by unfold missB;rw[hy];rfl] at hone
          have hnx:Hid (wholeB L (lL.take (j+1)) i = !y.m):=Lib.hid (by rw[take_snoc hs.out,wholeB_app,hw.out,hone];rfl)
          rw[hA3,hce.out x hxm] at e3
          replace e3:=Lib.hid e3
          replace y0:=Lib.hid y0
          have q1:(kk:Int)<(tn:Int):=by omega
          have q2:(0:Int)≤(kk:Int):=by omega
          have q3:(i:Int)<(Rn:Int):=by have:=hih.out;omega
          have q4:(0:Int)≤(i:Int):=by omega
          generalize y.m=ym at *
          clear hz hit hkl hx hxm hone hy hA3
          refine RW.t (i:=10) (v:=.pointer (some ⟨tb,tq+kk*4,none⟩)) (some 143) at10 (hy:=fun _ _=>by go_simp) (h:=?_)
          refine RW.t (i:=11) (v:=.pointer (some ⟨tb,tq+kk*4+3,none⟩)) (some 144) at11 (hy:=fun _ _=>by go_simp) (h:=?_)
          refine RW.t (i:=12) (v:=.slice (some ⟨b3,o3,none⟩) Rn x.ce.c) (some 145) at12 (hy:=fun W hS=>by (have k0:=bel_cell hS e3.out;clear hS;go_simp)) (h:=?_)
          refine RW.t (i:=14) (v:=.pointer (some ⟨b3,o3+i*5,none⟩)) (some 147) at14 (hy:=fun _ _=>by go_simp) (h:=?_)
          refine RW.t (i:=15) (v:=.pointer (some ⟨b3,o3+i*5,none⟩)) (some 148) at15 (hy:=fun _ _=>by kernel_rfl) (h:=?_)
          refine RW.t (i:=16) (v:=.bool ym) (some 149) at16 (hy:=fun W hS=>by (have k0:=bel_cell hS y0.out;clear hS;go_simp)) (h:=?_)
          refine RW.t (i:=17) (v:=.bool (!ym)) (some 150) at17 (hy:=fun _ _=>by kernel_rfl) (h:=?_)
          refine RW.t (i:=18) (v:=.bool (!ym)) (some 151) at18 (hy:=fun _ _=>by kernel_rfl) (h:=?_)
          refine RW.tail hzk.out (by kernel_rfl) ?_
          intro gs' w5 hgs' hS Sb
          obtain rfl:=len0 hgs'
          simp only[mark,fill,Act.put,List.setIfInBounds_toArray,List.set_cons_zero,List.set_cons_succ]
          clear Sb hgs' hzk hbase
          refine Wk.o (i:=19) at19 (by kernel_rfl) fun K' hK=>?_
          go_simp
          refine hK.out _ _ hS ?_
          clear hK K'
          try simp only[Act.put,List.setIfInBounds_toArray,List.set_cons_zero,List.set_cons_succ]
          refine Wk.done (by kernel_rfl) ?_
          have T:=Lib.hid hS
          clear hS B
          go_simp
          have hlt:=hjh.out
          have hbb:=hnl.out
          have hbc:=hsz.out
          go_wp2
          go_roundw
          case rel=>exact⟨j+1,by omega,by go_num,by rw[hnx.out],T.out⟩
          case measure=>simp[intOf];omega
        ·obtain rfl:j=lL.length:=by omega
         rw[show lL.take lL.length=lL from List.take_length]
         clear hlt hjn
         cases hw:wholeB L lL i
         ·have hrx:=Lib.hid (rowsX_no hw)
          have hlt:=hih.out
          have hbb:=hRn.out
          replace hw:=Lib.hid hw
          go_wp2
          go_roundw
          case rel=>exact⟨i+1,by omega,by go_num,by rw[hrx.out,←hct.out],B.out⟩
          case measure=>simp[intOf];omega
         ·have hrx:=Lib.hid (rowsX_yes hw)
          obtain⟨x1,x2⟩:=rowsX_at hih.out hw
          rw[←hct.out] at x1 x2
          rw[←hn1.out] at x2
          obtain⟨xb,xo,_,rfl,_⟩:=hr8.out.get x2
          have ex:w8.cell? ⟨xb,xo+ct,none⟩=some (.int .i64 i):=by
           have:=lr_cell hr8.out x1 (k:=0) rfl
           rwa [show intC.sz=1 from rfl,Nat.mul_one,Nat.add_zero] at this
          have ex2:=bel_cell B.out ex
          have q1:(ct:Int)<(n1:Int):=by omega
          have q2:¬ (n1:Int)≤(ct:Int):=by omega
          have q3:(0:Int)≤(ct:Int):=by omega
          have hlt:=hih.out
          have hbb:=hRn.out
          have hx2:ct<1000:=by have:=rowsX_le L lL i;rw[←hct.out] at this;omega
          replace hw:=Lib.hid hw
          clear x1 ex
          go_wp2
          go_roundw
          case rel=>exact⟨i+1,by omega,by go_num,by rw[hrx.out,List.length_append,←hct.out];go_num,B.out⟩
          case measure=>simp[intOf];omega
      ·obtain rfl:Rn=i:=by omega
       rw[←hn1.out]
       have hbl:=Lib.hid (hB8.out.trans (B.out.mono hB8.out.size))
       clear hlt hin
       go_wp2_with fail
       refine (hA.out _).mono ?_
       rintro e w9 ⟨rfl,bb⟩
       have T:=Lib.hid (hbl.out.trans (bb.mono hbl.out.size))
       clear bb
       go_wp2
       go_ret
       exact⟨rfl,T.out⟩
end Go.Proofs.YtdeedofmflelfaaGreatDoor
