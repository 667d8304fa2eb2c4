/- What the law asks of its records and fields. Further values that came in: records, fields, cells. Rows that are taken, added and left out: the mathematics. Guessing a kind. Infer. The reference's Infer. Fields that say the same. The law: fields that are guessed. -/
import Derived.Test.YtdeedofmflelfaaGreatDoorQCaz
import Derived.Test.YtdeedofmflelfaaGreatDoorQDbz
import Derived.Test.YtdeedofmflelfaaGreatDoorQBez
import Derived.Test.YtdeedofmflelfaaGreatDoorQDdz
import Derived.Deep.CutRange
import Derived.Deep.Upon
import Derived.Test.YtdeedofmflelfaaGreatDoorQChz
namespace Go.Proofs.YtdeedofmflelfaaGreatDoor
open Go.RowKit RQ
set_option linter.unusedVariables false
set_option maxRecDepth 100000 in
set_option maxHeartbeats 4000000 in
theorem lrecords_any (L:List (Sl ByteArray)) (A:Option Addr) (n c:Nat) (w:World) (h:LR (slC strC) w A n L):Calls Tryz.prog 11 #[.slice A n c] w fun e w'=>(∃ v:Bool,e=.returned (.bool v)∧(v=true→n≤40∧∀ r∈L,r.L.length≤40∧∀ s∈r.L,s.size≤60))∧Below w.heap.size w w':=by
 by_cases h0:40<n
 ·have g0:(40:Int)<(n:Int):=by omega
  clear h h0
  go_enter Tryz.func11,Tryz.ntmps11
  go_wp2
  go_ret
  exact⟨⟨_,rfl,nofun⟩,Below.refl _ _⟩
 have g0:¬ (40:Int)<(n:Int):=by omega
 have hb:Hid (n≤40):=Lib.hid (by omega)
 have hlen:=Lib.hid h.len
 replace h:=Lib.hid h
 clear h0
 go_enter Tryz.func11,Tryz.ntmps11
 go_wp2
 go_loopw [3] (fun iv wr=>∃ i:Nat,i≤n∧iv=.int .i64 i∧Below w.heap.size w wr∧(∀ j (r:Sl ByteArray),j<i→L[j]?=some r→r.L.length≤40∧∀ s∈r.L,s.size≤60)) (fun iv _=>n-(intOf iv).toNat)
 case atStart=>exact⟨0,Nat.zero_le _,rfl,Below.refl _ _,fun j s h0=>absurd h0 (Nat.not_lt_zero _)⟩
 case round=>
  obtain⟨i,hin,rfl,B,hall⟩:=hrel
  by_cases hlt:i<n
  ·obtain⟨b,o,x,rfl,hx,hxm,hxa,e0⟩:=sl_get (h.out.bel B) hlt
   have hih:=Lib.hid hlt
   have g1:(i:Int)<(n:Int):=by omega
   have g2:(0:Int)≤(i:Int):=by omega
   have hSt:=Lib.hid (lstrings_any x.L x.A x.L.length x.c wr hxa.1)
   replace hall:=Lib.hid hall
   replace hx:=Lib.hid hx
   replace B:=Lib.hid B
   clear hlt hin hxm hxa
   go_wp2_with fail
   refine hSt.out.mono ?_
   rintro e w1 ⟨⟨v,rfl,hv⟩,rfl⟩
   clear hSt e0
   cases v
   ·clear hv
    go_wp2
    go_ret
    exact⟨⟨_,rfl,nofun⟩,B.out⟩
   ·replace hv:=Lib.hid (hv rfl)
    have hlt:=hih.out
    have hbb:=hb.out
    go_wp2
    go_roundw
    case rel=>exact⟨i+1,by omega,by go_num,B.out,fun j' t h1 h2=>(by rcases Nat.lt_or_ge j' i with h3 | h3;exact hall.out j' t h3 h2;obtain rfl:j'=i:=(by omega);rw[hx.out] at h2;injection h2 with h2;subst h2;exact hv.out)⟩
    case measure=>simp[intOf];omega
  ·obtain rfl:n=i:=by omega
   have hfin:Hid (∀ r∈L,r.L.length≤40∧∀ s∈r.L,s.size≤60):=Lib.hid fun r hr=>by
    obtain⟨k,hk⟩:=List.getElem?_of_mem hr
    exact hall k r (by rw[←hlen.out];exact (List.getElem?_eq_some_iff.1 hk).1) hk
   replace B:=Lib.hid B
   clear hall hin hlt
   go_wp2
   go_ret
   exact⟨⟨_,rfl,fun _=>⟨hb.out,hfin.out⟩⟩,B.out⟩
end Go.Proofs.YtdeedofmflelfaaGreatDoor

namespace Go.Proofs.YtdeedofmflelfaaGreatDoor
open Go.ChangeShapes Go.WideShapes Go.ChangeAt Go.RowKit Go.Joins Go.Deep RQ
set_option linter.unusedVariables false
theorem c8Recs:Program.cellsOf Tryz.prog 22=1:=c8Strs
theorem opn_recs:Opn 23 (slC (slC strC)):=opn_slice Tryz.underlying23 c8Recs opn_strs
set_option maxRecDepth 100000 in
/-- A slice that came in. -/
theorem open_sl {α:Type} {C:Cod α} {t e:TypeId} (hu:Program.underlying Tryz.prog t=some (.slice e)) (ho:Opn t (slC C)) {H:Type} {enc:TypeId×Value→H} {W:World} {b0:Nat} {r:Reach} {v:Value} {d:DataW H} {p:List MemPlace} (hv:Value.okWide Tryz.prog W r b0 t v) (h:DataW.Trod enc Tryz.prog W 0 (fun _=>true) true t v d p) :
  ∃ s:Sl α,v=.slice s.A s.L.length s.c∧LR C W s.A s.L.length s.L:=by
 obtain⟨sa,sl,sc,rfl⟩:=okWide_slice hu hv
 obtain⟨fuel,hf⟩:=h
 obtain⟨s,e,A1⟩:=ho (show DataW.trod enc Tryz.prog W 0 (fun _=>true) true fuel t [.slice sa sl sc]=some _ by simpa [Value.cells] using hf)
 have e:Value.slice sa sl sc=Value.slice s.A s.L.length s.c:=by simpa [slC,Sl.v] using e
 exact⟨s,e,A1.1⟩
end Go.Proofs.YtdeedofmflelfaaGreatDoor

namespace Go.Proofs.YtdeedofmflelfaaGreatDoor
open Go.RowKit RQ
set_option linter.unusedVariables false
end Go.Proofs.YtdeedofmflelfaaGreatDoor

namespace Go.Proofs.YtdeedofmflelfaaGreatDoor
open Go.RowKit RQ
set_option linter.unusedVariables false
/-- The texts of a column that are not missing. -/
def keptC (R:List (List ByteArray)) (p:Nat) (M:List ByteArray):List ByteArray:=(R.filterMap fun r=>r[p]?).filter fun s=>!(inB s M)
/-- Are they numbers, and is there one? -/
def numB (R:List (List ByteArray)) (p:Nat) (M:List ByteArray):Bool:=!(keptC R p M).isEmpty&&(keptC R p M).all pOk
theorem kept_app (R S:List (List ByteArray)) (p:Nat) (M:List ByteArray):keptC (R++S) p M=keptC R p M++keptC S p M:=by
 unfold keptC
 rw[List.filterMap_append,List.filter_append]
theorem kept_snoc {R:List (List ByteArray)} {p i:Nat} {M:List ByteArray} {r:List ByteArray} (h:R[i]?=some r):keptC (R.take (i+1)) p M=keptC (R.take i) p M++keptC [r] p M:=by rw[take_snoc h,kept_app]
theorem kept_short {p:Nat} {M r:List ByteArray} (h:r.length≤p):keptC [r] p M=[]:=by
 unfold keptC
 rw[List.filterMap_cons,List.getElem?_eq_none h];rfl
theorem kept_miss {p:Nat} {M r:List ByteArray} {s:ByteArray} (h:r[p]?=some s) (hm:inB s M=true):keptC [r] p M=[]:=by
 unfold keptC
 rw[List.filterMap_cons,h]
 show [s].filter _=[]
 rw[List.filter_cons,hm];rfl
theorem kept_one {p:Nat} {M r:List ByteArray} {s:ByteArray} (h:r[p]?=some s) (hm:inB s M=false):keptC [r] p M=[s]:=by
 unfold keptC
 rw[List.filterMap_cons,h]
 show [s].filter _=[s]
 rw[List.filter_cons,hm];rfl
/-- One that is no number. -/
theorem numB_no {R:List (List ByteArray)} {p i:Nat} {M r:List ByteArray} {s:ByteArray} (hr:R[i]?=some r) (hk:keptC [r] p M=[s]) (hs:pOk s=false):numB R p M=false:=by
 have e:keptC R p M=keptC (R.take (i+1)) p M++keptC (R.drop (i+1)) p M:=by rw[←kept_app,List.take_append_drop]
 unfold numB
 rw[e,kept_snoc hr,hk,List.all_append,List.all_append]
 simp[hs]
theorem numB_all {R:List (List ByteArray)} {p:Nat} {M:List ByteArray} (h:(keptC R p M).all pOk=true):numB R p M = !(keptC R p M).isEmpty:=by
 unfold numB;rw[h,Bool.and_true]
/-- The kind that is guessed. -/
def kindN (b:Bool):Int:=if b then 1 else 2
theorem IxF.inb {L:List ByteArray} {s:ByteArray} {z:Int} (h:IxF L (seB s) z):inB s L=decide (0≤z):=h.any_
set_option maxRecDepth 100000 in
set_option maxHeartbeats 4000000 in
theorem haveNumbers_any (R:List (Sl ByteArray)) (RA:Option Addr) (rn rc p g:Nat) (M:List ByteArray) (w:World) (h:LR (slC strC) w RA rn R) (hrs:∀ r∈R,∀ s∈r.L,s.size≤300) (hrn:rn≤2000) (hp:p≤2000) (hg:SetAt w g M):Calls Tryz.prog 47 #[.slice RA rn rc,.int .i64 p,.func (.func 87) #[] #[.pointer (some ⟨g,0,none⟩)]] w fun e w'=>e=.returned (.bool (numB (R.map (·.L)) p M))∧Below w.heap.size w w':=by
 have hO:=Lib.hid (fun (s:ByteArray) (hs:s.size≤300) W (hW:Below w.heap.size w W)=>oneOf1_any M s g W (hg.bel hW) (by omega))
 have hP:=Lib.hid (fun (s:ByteArray) (hs:s.size≤300) W=>parseR_any s W hs ((p1_size (s:=rest s) (by have:=rest_size s;omega)).mono (by decide)))
 have hlen:=Lib.hid h.len
 have hT:=Lib.hid h
 have hss:=Lib.hid hrs
 have hrh:=Lib.hid hrn
 have hph:=Lib.hid hp
 clear h hrs hrn hp hg
 go_enter Tryz.func47,Tryz.ntmps47
 go_wp2
 go_loopw [7,12] (fun fv iv wr=>∃ i:Nat,i≤rn∧iv=.int .i64 i∧fv=.bool (!(keptC ((R.map (·.L)).take i) p M).isEmpty)∧(keptC ((R.map (·.L)).take i) p M).all pOk=true∧Below w.heap.size w wr) (fun _ iv _=>rn-(intOf iv).toNat)
 case atStart=>exact⟨0,Nat.zero_le _,rfl,rfl,rfl,Below.refl _ _⟩
 case round=>
  obtain⟨i,hin,rfl,hfv,hall,B⟩:=hrel
  subst hfv
  by_cases hlt:i<rn
  ·obtain⟨b,o,r,rfl,hre,hrm,hra,e0⟩:=sl_get (hT.out.bel B) hlt
   have g1:(i:Int)<(rn:Int):=by omega
   have g2:(0:Int)≤(i:Int):=by omega
   have hre2:(R.map (·.L))[i]?=some r.L:=by rw[List.getElem?_map,hre];rfl
   obtain⟨fd,hfd⟩:∃ z,z = !(keptC ((R.map (·.L)).take i) p M).isEmpty:=⟨_,rfl⟩
   rw[←hfd]
   obtain⟨rl,hrl⟩:∃ z,z=r.L.length:=⟨_,rfl⟩
   rw[←hrl] at e0
   have hih:=Lib.hid hlt
   replace hre2:=Lib.hid hre2
   replace hfd:=Lib.hid hfd
   replace hall:=Lib.hid hall
   replace B:=Lib.hid B
   clear hlt hin
   by_cases hs1:rl≤p
   ·have g3:(rl:Int)≤(p:Int):=by omega
    have hk:=Lib.hid (kept_short (p:=p) (M:=M) (show r.L.length≤p by omega))
    have hlt:=hih.out
    have hbb:=hrh.out
    clear hs1 hre hrm hra hrl
    go_wp2
    go_roundw
    case rel=>exact⟨i+1,by omega,by go_num,by rw[kept_snoc hre2.out,hk.out,List.append_nil,←hfd.out],by rw[kept_snoc hre2.out,hk.out,List.append_nil];exact hall.out,B.out⟩
    case measure=>simp[intOf];omega
   ·have g3:decide ((rl:Int)≤(p:Int))=false:=decide_eq_false (by omega)
    have g4:(p:Int)<(rl:Int):=by omega
    have g5:(0:Int)≤(p:Int):=by omega
    obtain⟨rb,ro,s,hrA,hse,hsm,es⟩:=str_get hra.1 (show p<r.L.length by omega)
    rw[hrA] at e0
    have hs3:=hss.out r hrm s hsm
    have hOs:=Lib.hid (hO.out s hs3)
    have hPs:=Lib.hid (hP.out s hs3)
    replace hse:=Lib.hid hse
    clear hs1 hre hrm hra hrl hsm hrA hs3
    go_wp2_with fail
    refine (hOs.out _ B.out).mono ?_
    rintro e w1 ⟨rfl,rfl⟩
    cases hm:inB s M
    ·have hk:=Lib.hid (kept_one hse.out hm)
     clear hm
     go_wp2_with fail
     refine (hPs.out _).mono ?_
     rintro e w2 ⟨A,n,c,D,m,d,rfl,_,bb⟩
     have B2:=Lib.hid (B.out.trans (bb.mono B.out.size))
     clear B bb e0 es
     cases hok:pOk s
     ·have hno:=Lib.hid (numB_no hre2.out hk.out hok)
      clear hok
      go_wp2
      go_ret
      exact⟨by rw[hno.out];rfl,B2.out⟩
     ·have hsk:Hid ((keptC ((R.map (·.L)).take (i+1)) p M).all pOk=true∧(!(keptC ((R.map (·.L)).take (i+1)) p M).isEmpty)=true):=Lib.hid (by
       rw[kept_snoc hre2.out,hk.out,List.all_append,hall.out]
       exact⟨by simp[hok],by simp⟩)
      clear hok
      have hlt:=hih.out
      have hbb:=hrh.out
      go_wp2
      go_roundw
      case rel=>exact⟨i+1,by omega,by go_num,by rw[hsk.out.2],hsk.out.1,B2.out⟩
      case measure=>simp[intOf];omega
    ·have hk:=Lib.hid (kept_miss hse.out hm)
     clear hm
     have hlt:=hih.out
     have hbb:=hrh.out
     go_wp2
     go_roundw
     case rel=>exact⟨i+1,by omega,by go_num,by rw[kept_snoc hre2.out,hk.out,List.append_nil,←hfd.out],by rw[kept_snoc hre2.out,hk.out,List.append_nil];exact hall.out,B.out⟩
     case measure=>simp[intOf];omega
  ·obtain rfl:rn=i:=by omega
   rw[show (R.map (·.L)).take rn=(R.map (·.L)) from List.take_of_length_le (by rw[List.length_map,hlen.out];exact Nat.le_refl _)] at hall ⊢
   have hn:=numB_all hall
   rw[←hn]
   replace B:=Lib.hid B
   clear hlt hin hall hn
   go_wp2
   go_ret
   exact⟨rfl,B.out⟩
set_option maxRecDepth 100000 in
set_option maxHeartbeats 4000000 in
theorem rguess8_any (R:List (Sl ByteArray)) (RA:Option Addr) (rn rc p:Nat) (M:List ByteArray) (MA:Option Addr) (mn mc:Nat) (w:World) (h:LR (slC strC) w RA rn R) (hrs:∀ r∈R,∀ s∈r.L,s.size≤300) (hrn:rn≤2000) (hp:p≤2000) (hM:LR strC w MA mn M) (hmn:mn≤100000):Calls Tryz.prog 50 #[.slice RA rn rc,.int .i64 p,.slice MA mn mc] w fun e w'=>e=.returned (.int .i64 (kindN (numB (R.map (·.L)) p M)))∧Below w.heap.size w w':=by
 have hO:=Lib.hid (fun (s:ByteArray) W (hW:Below w.heap.size w W)=>rIndex_any M MA mn mc s W (hM.bel hW) hmn)
 have hP:=Lib.hid (fun (s:ByteArray) (hs:s.size≤300) W=>rparseR_any s W hs)
 have hlen:=Lib.hid h.len
 have hT:=Lib.hid h
 have hss:=Lib.hid hrs
 have hrh:=Lib.hid hrn
 have hph:=Lib.hid hp
 clear h hrs hrn hp hM hmn
 go_enter Tryz.func50,Tryz.ntmps50
 go_wp2
 go_loopw [7,8] (fun nv iv wr=>∃ i:Nat,i≤rn∧iv=.int .i64 i∧nv=.int .i64 ((keptC ((R.map (·.L)).take i) p M).length:Nat)∧(keptC ((R.map (·.L)).take i) p M).length≤i∧(keptC ((R.map (·.L)).take i) p M).all pOk=true∧Below w.heap.size w wr) (fun _ iv _=>rn-(intOf iv).toNat)
 case atStart=>exact⟨0,Nat.zero_le _,rfl,rfl,Nat.le_refl _,rfl,Below.refl _ _⟩
 case round=>
  obtain⟨i,hin,rfl,hnv,hle,hall,B⟩:=hrel
  subst hnv
  by_cases hlt:i<rn
  ·obtain⟨b,o,r,rfl,hre,hrm,hra,e0⟩:=sl_get (hT.out.bel B) hlt
   have g1:(i:Int)<(rn:Int):=by omega
   have g2:(0:Int)≤(i:Int):=by omega
   have hre2:(R.map (·.L))[i]?=some r.L:=by rw[List.getElem?_map,hre];rfl
   obtain⟨kn,hkn⟩:∃ z,z=(keptC ((R.map (·.L)).take i) p M).length:=⟨_,rfl⟩
   rw[←hkn] at hle ⊢
   obtain⟨rl,hrl⟩:∃ z,z=r.L.length:=⟨_,rfl⟩
   rw[←hrl] at e0
   have hih:=Lib.hid hlt
   replace hre2:=Lib.hid hre2
   replace hkn:=Lib.hid hkn
   replace hall:=Lib.hid hall
   replace hle:=Lib.hid hle
   replace B:=Lib.hid B
   clear hlt hin
   by_cases hs1:rl≤p
   ·have g3:(rl:Int)≤(p:Int):=by omega
    have hk:=Lib.hid (kept_short (p:=p) (M:=M) (show r.L.length≤p by omega))
    have hlt:=hih.out
    have hbb:=hrh.out
    clear hs1 hre hrm hra hrl
    go_wp2
    go_roundw
    case rel=>exact⟨i+1,by omega,by go_num,by rw[kept_snoc hre2.out,hk.out,List.append_nil,←hkn.out],by rw[kept_snoc hre2.out,hk.out,List.append_nil,←hkn.out];have:=hle.out;omega,by rw[kept_snoc hre2.out,hk.out,List.append_nil];exact hall.out,B.out⟩
    case measure=>simp[intOf];omega
   ·have g3:decide ((rl:Int)≤(p:Int))=false:=decide_eq_false (by omega)
    have g4:(p:Int)<(rl:Int):=by omega
    have g5:(0:Int)≤(p:Int):=by omega
    obtain⟨rb,ro,s,hrA,hse,hsm,es⟩:=str_get hra.1 (show p<r.L.length by omega)
    rw[hrA] at e0
    have hs3:=hss.out r hrm s hsm
    have hOs:=Lib.hid (hO.out s)
    have hPs:=Lib.hid (hP.out s hs3)
    replace hse:=Lib.hid hse
    clear hs1 hre hrm hra hrl hsm hrA hs3
    go_wp2_with fail
    refine (hOs.out _ B.out).mono ?_
    rintro e w1 ⟨⟨z,rfl,hz⟩,rfl⟩
    have hzi:=hz.inb
    clear hz
    by_cases hz0:0≤z
    ·have hk:=Lib.hid (kept_miss hse.out (hzi.trans (decide_eq_true hz0)))
     have hlt:=hih.out
     have hbb:=hrh.out
     clear hzi
     go_wp2
     go_roundw
     case rel=>exact⟨i+1,by omega,by go_num,by rw[kept_snoc hre2.out,hk.out,List.append_nil,←hkn.out],by rw[kept_snoc hre2.out,hk.out,List.append_nil,←hkn.out];have:=hle.out;omega,by rw[kept_snoc hre2.out,hk.out,List.append_nil];exact hall.out,B.out⟩
     case measure=>simp[intOf];omega
    ·have hk:=Lib.hid (kept_one hse.out (hzi.trans (decide_eq_false hz0)))
     clear hzi
     go_wp2_with fail
     refine (hPs.out _).mono ?_
     rintro e w2 ⟨A,n,c,D,m,d,rfl,_,bb⟩
     have B2:=Lib.hid ((B.out.trans (bb.mono B.out.size)).alloc (B.out.trans (bb.mono B.out.size)).size (.cells #[.bool (ng (pQ s).num),.slice A n c,.slice D m d] 46))
     clear B bb e0 es hz0
     cases hok:pOk s
     ·have hno:=Lib.hid (numB_no hre2.out hk.out hok)
      clear hok
      go_wp2
      go_ret
      exact⟨by rw[hno.out];rfl,B2.out⟩
     ·have hsk:Hid ((keptC ((R.map (·.L)).take (i+1)) p M).all pOk=true∧(keptC ((R.map (·.L)).take (i+1)) p M).length=kn+1):=Lib.hid (by
       rw[kept_snoc hre2.out,hk.out,List.all_append,hall.out,List.length_append,←hkn.out]
       exact⟨by simp[hok],rfl⟩)
      clear hok
      have hlt:=hih.out
      have hbb:=hrh.out
      have hlk:=hle.out
      go_wp2
      go_roundw
      case rel=>exact⟨i+1,by omega,by go_num,by rw[hsk.out.2];go_num,by rw[hsk.out.2];omega,hsk.out.1,B2.out⟩
      case measure=>simp[intOf];omega
  ·obtain rfl:rn=i:=by omega
   rw[show (R.map (·.L)).take rn=(R.map (·.L)) from List.take_of_length_le (by rw[List.length_map,hlen.out];exact Nat.le_refl _)] at hall hle ⊢
   have hn:=Lib.hid (numB_all hall)
   replace B:=Lib.hid B
   clear hall
   cases hkl:keptC (R.map (·.L)) p M with
   | nil=>
    have hn2:Hid (numB (R.map (·.L)) p M=false):=Lib.hid (by rw[hn.out,hkl];rfl)
    clear hkl hlt hin hle
    go_wp2
    go_ret
    exact⟨by rw[hn2.out];rfl,B.out⟩
   | cons a l=>
    have hn2:Hid (numB (R.map (·.L)) p M=true):=Lib.hid (by rw[hn.out,hkl];rfl)
    have hl2:(keptC (R.map (·.L)) p M).length=l.length+1:=by rw[hkl];rfl
    obtain⟨ln,hln⟩:∃ z,z=(a::l).length:=⟨_,rfl⟩
    have hl3:0<ln:=by rw[hln];exact Nat.succ_pos _
    rw[←hln]
    have g3:((ln:Int)==0)=false:=by rw[beq_eq_false_iff_ne];omega
    clear hkl hlt hin hle hl2 hln hl3
    go_wp2
    go_ret
    exact⟨by rw[hn2.out];rfl,B.out⟩
end Go.Proofs.YtdeedofmflelfaaGreatDoor

namespace Go.Proofs.YtdeedofmflelfaaGreatDoor
open Go.RowKit RQ
set_option linter.unusedVariables false
theorem perm7 {α:Type} (a b c:α) (l:List α):(a::b::c::l).Perm (a::c::b::l):=(List.Perm.swap c b l).cons a
def Fe0:Fe:=⟨ByteArray.empty,0,⟨none,0,[]⟩,⟨false,Nl0,Nl0⟩⟩
theorem fe_cs (c:Fe):feC.cs c=[.string c.n,.int .i64 c.k,.slice c.mi.A c.mi.L.length c.mi.c,.bool c.u.b,.slice c.u.x.A c.u.x.n c.u.x.c,.slice c.u.y.A c.u.y.n c.u.y.c]:=rfl
theorem make_fe (n:Nat) (hn:n≤1000000) (w:World):(Instr.makeSlice 28 (.int .i64 (n:Int)) (.int .i64 (n:Int))).run Tryz.prog w=.ok (.slice (some ⟨w.heap.size,0,none⟩) n n) (w.alloc (.cells (feC.all (List.replicate n Fe0)).toArray 48)):=
 make_of feC Fe0 28 48 (.agg #[.string ByteArray.empty,.int .i64 0,.slice none 0 0,.bool false,.slice none 0 0,.slice none 0 0]) 104 Tryz.underlying28 (by kernel_rfl) rfl (by decide) n hn w
/-- The error of Infer. -/
def ifE (H:List ByteArray) (rn:Nat):Int:=if 32<H.length∨1024<rn then 2 else if namesB H=false then 8 else 0
/-- The unit of a field that is guessed. -/
def unX (b:Bool):Bool×List Nat×List Nat:=if b then (ng (1:Rat).num,limbs (1:Rat).num.natAbs,dn 1) else (false,[],[])
/-- What a field says that is guessed. -/
def fSay (R:List (List ByteArray)) (M:List ByteArray) (q:Nat) (s:ByteArray) (x:Fe):Prop:=x.n=s∧x.k=kindN (numB R q M)∧x.mi.L=M∧(x.u.b,x.u.x.x,x.u.y.x)=unX (numB R q M)
set_option maxRecDepth 100000 in
set_option maxHeartbeats 4000000 in
theorem infer_any (H:List ByteArray) (HA:Option Addr) (hn hc:Nat) (R:List (Sl ByteArray)) (RA:Option Addr) (rn rc:Nat) (M:List ByteArray) (MA:Option Addr) (mn mc:Nat) (w:World) (h:LR strC w HA hn H) (hR:LR (slC strC) w RA rn R) (hM:LR strC w MA mn M) (hcc:hn≤hc) (hhn:hn≤2000) (hhs:∀ s∈H,s.size≤300) (hrs:∀ r∈R,∀ s∈r.L,s.size≤300) (hrn:rn≤1024) (hmn:mn≤1000) (hms:∀ s∈M,s.size≤300):Calls Tryz.prog 15 #[.slice HA hn hc,.slice RA rn rc,.slice MA mn mc] w fun e w'=>(¬ ifE H rn=0∧e=.returned (.tuple #[.slice none 0 0,.int .i64 (ifE H rn)])∧Below w.heap.size w w')∨(ifE H rn=0∧∃ A c Fs,e=.returned (.tuple #[.slice A hn c,.int .i64 0])∧LR feC w' A hn Fs∧(∀ (q:Nat) (s:ByteArray),H[q]?=some s→∃ x:Fe,Fs[q]?=some x∧fSay (R.map (·.L)) M q s x)∧Below w.heap.size w w'):=by
 have hlen:=Lib.hid h.len
 have hml:=Lib.hid hM.len
 have hN:Hid (∀ W,Below w.heap.size w W→Calls Tryz.prog 43 #[.slice HA hn hc] W fun e w'=>e=.returned (.bool (namesB H))∧Below W.heap.size W w'):=Lib.hid fun W hW=>areNames_any H HA hn hc W (h.bel hW) (by omega) hcc
 have hO:Hid (∀ W,Below w.heap.size w W→Calls Tryz.prog 44 #[.slice MA mn mc] W fun e w'=>∃ g,e=.returned (.func (.func 87) #[] #[.pointer (some ⟨g,0,none⟩)])∧W.heap.size≤g∧SetAt w' g M∧Below W.heap.size W w'):=Lib.hid fun W hW=>oneOf_any M MA mn mc W (hM.bel hW) (by omega) (fun s hs=>by have:=hms s hs;omega)
 have hCt:Hid (∀ W,Below w.heap.size w W→Calls Tryz.prog 46 #[.slice MA mn mc] W fun e w'=>∃ g,e=.returned (.slice (some ⟨g,0,none⟩) mn mn)∧W.heap.size≤g∧Cb w' g (strC.all M).toArray 9∧Below W.heap.size W w'):=Lib.hid fun W hW=>copyTexts_any M MA mn mc W (hM.bel hW) (by omega) (fun s hs=>by have:=hms s hs;omega)
 have hCl0:=Lib.hid (fun x (hxm:x∈H) W=>cloneS_any x W (by have:=hhs x hxm;omega))
 have hHv:Hid (∀ (q g:Nat) W,q≤2000→Below w.heap.size w W→SetAt W g M→Calls Tryz.prog 47 #[.slice RA rn rc,.int .i64 q,.func (.func 87) #[] #[.pointer (some ⟨g,0,none⟩)]] W fun e w'=>e=.returned (.bool (numB (R.map (·.L)) q M))∧Below W.heap.size W w'):=Lib.hid fun q g W hq hW hg=>haveNumbers_any R RA rn rc q g M W (hR.bel hW) hrs (by omega) hq hg
 have hFi:=Lib.hid (fun W=>fromIntR_any 1 W (by omega) (by omega))
 have hT:=Lib.hid h
 have hhh:=Lib.hid hhn
 have g0:¬ (1024:Int)<(rn:Int):=by omega
 have hr0:=Lib.hid hrn
 by_cases h32:32<hn
 ·have hE:ifE H rn=2:=by unfold ifE;rw[if_pos (.inl (by rw[h.len];exact h32))]
  have g1:(32:Int)<(hn:Int):=by omega
  replace hE:=Lib.hid hE
  clear h hR hM hcc hhn hhs hrs hrn hmn hms h32 g0
  go_enter Tryz.func15,Tryz.ntmps15
  go_wp2
  go_ret2
  exact .inl ⟨by rw[hE.out];decide,by rw[hE.out];rfl,Below.refl _ _⟩
 have g1:¬ (32:Int)<(hn:Int):=by omega
 have hmk:=make_fe hn (by omega)
 cases hnb:namesB H
 ·have hE:ifE H rn=8:=by unfold ifE;rw[if_neg (by rw[h.len];omega),if_pos hnb]
  rw[hnb] at hN
  replace hE:=Lib.hid hE
  replace hmk:=Lib.hid hmk
  clear h hR hM hcc hhn hhs hrs hrn hmn hms h32 hnb
  go_enter Tryz.func15,Tryz.ntmps15
  go_wp2_with fail
  refine (hN.out _ (Below.refl _ _)).mono ?_
  rintro e w1 ⟨rfl,bb⟩
  replace bb:=Lib.hid bb
  go_wp2
  go_ret2
  exact .inl ⟨by rw[hE.out];decide,by rw[hE.out];rfl,bb.out⟩
 have hE:ifE H rn=0:=by unfold ifE;rw[if_neg (by rw[h.len];omega),if_neg (by rw[hnb];simp)]
 rw[hnb] at hN
 replace hE:=Lib.hid hE
 clear h hR hM hcc hhn hhs hrs hrn hmn hms h32 hnb
 go_enter Tryz.func15,Tryz.ntmps15
 go_wp2_with fail
 refine (hN.out _ (Below.refl _ _)).mono ?_
 rintro e w1 ⟨rfl,bb1⟩
 replace bb1:=Lib.hid bb1
 go_wp2_with fail
 refine (hO.out _ bb1.out).mono ?_
 rintro e w2 ⟨gs,rfl,hgs,⟨m,hgc,hgm⟩,bb2⟩
 have S:=Lib.hid ((((St.new w).call bb1.out).adopt bb2 hgc hgs (noLof rfl)))
 replace hgm:=Lib.hid hgm
 clear bb1 hgc hgs bb2 hN hO
 obtain⟨fb,hfb⟩:∃ g,g=w2.heap.size:=⟨_,rfl⟩
 have S1:=Lib.hid (show St w _ ((fb,(feC.all (List.replicate hn Fe0)).toArray,48)::(gs,#[.map (some m)],115)::[]) [] from S.out.allocC feC (List.replicate hn Fe0) fb 48 hfb.symm)
 have M1:=Lib.hid (hgm.out.bel ((Below.refl w2.heap.size w2).alloc (Nat.le_refl _) (.cells (feC.all (List.replicate hn Fe0)).toArray 48)))
 replace hfb:=Lib.hid hfb
 clear S hgm
 go_upto_region 7 with fail
 replace hmk:=Lib.hid hmk
 clear hmk
 rw[←hfb.out]
 generalize hW:World.alloc _ _=w5 at S1 M1 ⊢
 clear hW hfb
 go_wp2
 go_loopw [30] (fun iv wr=>∃ (i:Nat) (Fs:List Fe) (F:List GBk) (rs:List GRd),i≤hn∧iv=.int .i64 i∧Fs.length=hn∧St w wr ((fb,(feC.all Fs).toArray,48)::(gs,#[.map (some m)],115)::F) rs∧MapS wr m M∧(∀ (q:Nat) (s:ByteArray),q<i→H[q]?=some s→∃ x:Fe,Fs[q]?=some x∧(∀ v,feC.In v F rs x)∧fSay (R.map (·.L)) M q s x)) (fun iv _=>hn-(intOf iv).toNat)
 case atStart=>exact⟨0,List.replicate hn Fe0,[],[],Nat.zero_le _,rfl,List.length_replicate,S1.out,M1.out,fun q s h=>absurd h (Nat.not_lt_zero _)⟩
 case round=>
  clear S1 M1
  obtain⟨i,Fs,F,rs,hin,rfl,hFl,S,hMp,hq⟩:=hrel
  by_cases hlt:i<hn
  ·obtain⟨b,o,s,rfl,hse,hsm,e0⟩:=str_get (hT.out.bel S.bel) hlt
   have g2:(i:Int)<(hn:Int):=by omega
   have g3:(0:Int)≤(i:Int):=by omega
   obtain⟨fy,hfi⟩:∃ y,Fs[i]?=some y:=⟨_,List.getElem?_eq_getElem (by omega)⟩
   have hCl:=Lib.hid (hCl0.out s hsm)
   have hih:=Lib.hid hlt
   replace hfi:=Lib.hid hfi
   replace hFl:=Lib.hid hFl
   replace hq:=Lib.hid hq
   replace hse:=Lib.hid hse
   replace hMp:=Lib.hid hMp
   replace S:=Lib.hid S
   clear hlt hin hsm
   go_wp2_with fail
   refine (hCl.out _).mono ?_
   rintro e w6 ⟨rfl,bb⟩
   have T:=Lib.hid (S.out.call bb)
   replace hMp:=Lib.hid (hMp.out.bel bb)
   clear S bb e0
   go_wp2_with fail
   refine (hCt.out _ T.out.bel).mono ?_
   rintro e w7 ⟨mb,rfl,hmb,hmc,bb⟩
   have S:=Lib.hid ((T.out.adopt bb hmc hmb (all_noL strC _).arr).swap)
   replace hMp:=Lib.hid (hMp.out.bel bb)
   clear T bb hmb hmc
   obtain⟨hcl,hfr⟩:=St_gcl (C:=feC) S.out hfi.out
   have q0:=hcl 0 _ rfl
   have q1:=hcl 1 _ rfl
   have q2:=hcl 2 _ rfl
   have q3:=hcl 3 _ rfl
   have q4:=hcl 4 _ rfl
   have q5:=hcl 5 _ rfl
   have f0:=hfr (i*6)
   have f1:=hfr (i*6+1)
   have f2:=hfr (i*6+2)
   have f3:=hfr (i*6+3)
   have f4:=hfr (i*6+4)
   have f5:=hfr (i*6+5)
   simp only[fe_sz,Nat.add_zero] at q0 q1 q2 q3 q4 q5
   have hcs:feC.cs (⟨s,2,⟨some ⟨mb,0,none⟩,mn,M⟩,⟨false,Nl0,Nl0⟩⟩:Fe)=[.string s,.int .i64 2,.slice (some ⟨mb,0,none⟩) mn mn,.bool false,.slice none 0 0,.slice none 0 0]:=by rw[fe_cs,show (⟨some ⟨mb,0,none⟩,mn,M⟩:Sl ByteArray).L.length=mn from hml.out];rfl
   have T:=St_gset (C:=feC) S.out (⟨s,2,⟨some ⟨mb,0,none⟩,mn,M⟩,⟨false,Nl0,Nl0⟩⟩:Fe) (i:=i) (by have:=hFl.out;have:=hih.out;omega)
   have MT:=(((((((MK.refl w7).set (S.out.cb 0 rfl) (i*6) (.string s)).set ((S.out.cb 0 rfl).set _ _) (i*6+1) (.int .i64 2)).set (((S.out.cb 0 rfl).set _ _).set _ _) (i*6+2) (.slice (some ⟨mb,0,none⟩) mn mn)).set ((((S.out.cb 0 rfl).set _ _).set _ _).set _ _) (i*6+3) (.bool false)).set (((((S.out.cb 0 rfl).set _ _).set _ _).set _ _).set _ _) (i*6+4) (.slice none 0 0)).set ((((((S.out.cb 0 rfl).set _ _).set _ _).set _ _).set _ _).set _ _) (i*6+5) (.slice none 0 0))
   rw[hcs] at T
   replace hcs:=Lib.hid hcs
   replace T:=Lib.hid (show St w (World.setCell (World.setCell (World.setCell (World.setCell (World.setCell (World.setCell (w7) ⟨fb,i*6,none⟩ (.string s)) ⟨fb,i*6+1,none⟩ (.int .i64 2)) ⟨fb,i*6+2,none⟩ (.slice (some ⟨mb,0,none⟩) mn mn)) ⟨fb,i*6+3,none⟩ (.bool false)) ⟨fb,i*6+4,none⟩ (.slice none 0 0)) ⟨fb,i*6+5,none⟩ (.slice none 0 0)) ((fb,(feC.all (Fs.set i ⟨s,2,⟨some ⟨mb,0,none⟩,mn,M⟩,⟨false,Nl0,Nl0⟩⟩)).toArray,48)::(mb,(strC.all M).toArray,9)::(gs,#[.map (some m)],115)::F) rs from T)
   have MT2:=Lib.hid (hMp.out.mk MT)
   clear S hcl hfr hMp MT
   go_upto_region 11 with fail
   clear q0 q1 q2 q3 q4 q5 f0 f1 f2 f3 f4 f5
   generalize hW:World.setCell _ _ _=w8 at T MT2 ⊢
   clear hW
   have hlx:Hid (i<Fs.length):=Lib.hid (by rw[hFl.out];exact hih.out)
   go_wp2_with fail
   refine (hHv.out i gs _ (by have:=hih.out;have:=hhh.out;omega) T.out.bel ⟨m,T.out.cb 2 rfl,MT2.out⟩).mono ?_
   rintro e w9 ⟨rfl,bb⟩
   have S:=Lib.hid (T.out.call bb)
   have hMp:=Lib.hid (MT2.out.bel bb)
   clear T bb MT2
   obtain⟨nb,hnb⟩:∃ z,z=numB (R.map (·.L)) i M:=⟨_,rfl⟩
   rw[←hnb]
   replace hnb:=Lib.hid hnb
   cases nb
   ·have hlt:=hih.out
    have hbb:=hhh.out
    have S2:=Lib.hid (S.out.prm (perm7 _ _ _ _))
    clear S
    go_wp2
    go_roundw
    case rel=>
     refine⟨i+1,_,_,rs,by omega,by go_num,by rw[List.length_set];exact hFl.out,S2.out,hMp.out,fun q s' hqi hs'=>?_⟩
     by_cases e:i=q
     ·subst e
      obtain rfl:s=s':=by have:=hse.out;rw[hs'] at this;exact (Option.some.inj this).symm
      refine⟨_,List.getElem?_set_self hlx.out,fun _=>⟨trivial,trivial,⟨by rw[show mn=M.length from hml.out.symm];exact LI.blk List.mem_cons_self (fun _ _=>trivial),by show M.length≤mn;rw[hml.out];exact Nat.le_refl _⟩,trivial,.inr (Rd.nil_ _ _ _),.inr (Rd.nil_ _ _ _)⟩,rfl,?_,rfl,?_⟩
      ·rw[←hnb.out];rfl
      ·rw[←hnb.out];rfl
     ·obtain⟨x,k1,k2,k3⟩:=hq.out q s' (by omega) hs'
      exact⟨x,by rw[List.getElem?_set_ne e];exact k1,fun v=>feC.mono (k2 v) (fun p hp=>List.mem_cons_of_mem _ hp) (fun _ h=>h),k3⟩
    case measure=>simp[intOf];omega
   ·go_wp2_with fail
    refine (hFi.out _).mono ?_
    rintro e w10 ⟨A,n,c,D,m',d,rfl,⟨Q1,Q2⟩,bb⟩
    have T:=Lib.hid (((S.out.call bb).read Q2).read Q1)
    replace hMp:=Lib.hid (hMp.out.bel bb)
    clear S bb Q1 Q2
    have hx0:(Fs.set i (⟨s,2,⟨some ⟨mb,0,none⟩,mn,M⟩,⟨false,Nl0,Nl0⟩⟩:Fe))[i]?=some ⟨s,2,⟨some ⟨mb,0,none⟩,mn,M⟩,⟨false,Nl0,Nl0⟩⟩:=List.getElem?_set_self hlx.out
    obtain⟨hcl,hfr⟩:=St_gcl (C:=feC) T.out hx0
    have q1:=hcl 1 _ rfl
    have q3:=hcl 3 _ rfl
    have q4:=hcl 4 _ rfl
    have q5:=hcl 5 _ rfl
    have f1:=hfr (i*6+1)
    have f3:=hfr (i*6+3)
    have f4:=hfr (i*6+4)
    have f5:=hfr (i*6+5)
    simp only[fe_sz] at q1 q3 q4 q5
    have T1:=St_gset1 (C:=feC) (x':=(⟨s,1,⟨some ⟨mb,0,none⟩,mn,M⟩,⟨false,Nl0,Nl0⟩⟩:Fe)) (k:=1) (u:=.int .i64 1) T.out hx0 (by decide) rfl (by nofun)
    rw[List.set_set] at T1
    have T2:=St_gset1 (C:=feC) (x':=(⟨s,1,⟨some ⟨mb,0,none⟩,mn,M⟩,⟨ng (1:Rat).num,Nl0,Nl0⟩⟩:Fe)) (k:=3) (u:=.bool (ng (1:Rat).num)) T1 (List.getElem?_set_self hlx.out) (by decide) rfl (by nofun)
    rw[List.set_set] at T2
    have T3:=St_gset1 (C:=feC) (x':=(⟨s,1,⟨some ⟨mb,0,none⟩,mn,M⟩,⟨ng (1:Rat).num,⟨A,n,c,limbs (1:Rat).num.natAbs⟩,Nl0⟩⟩:Fe)) (k:=4) (u:=.slice A n c) T2 (List.getElem?_set_self hlx.out) (by decide) rfl (by nofun)
    rw[List.set_set] at T3
    have T4:=St_gset1 (C:=feC) (x':=(⟨s,1,⟨some ⟨mb,0,none⟩,mn,M⟩,⟨ng (1:Rat).num,⟨A,n,c,limbs (1:Rat).num.natAbs⟩,⟨D,m',d,dn 1⟩⟩⟩:Fe)) (k:=5) (u:=.slice D m' d) T3 (List.getElem?_set_self hlx.out) (by decide) rfl (by nofun)
    rw[List.set_set] at T4
    have MT:=(((((MK.refl w10).set (T.out.cb 0 rfl) (i*6+1) (.int .i64 1)).set ((T.out.cb 0 rfl).set _ _) (i*6+3) (.bool (ng (1:Rat).num))).set (((T.out.cb 0 rfl).set _ _).set _ _) (i*6+4) (.slice A n c)).set ((((T.out.cb 0 rfl).set _ _).set _ _).set _ _) (i*6+5) (.slice D m' d))
    have S2:=Lib.hid (T4.prm (perm7 _ _ _ _))
    have MT2:=Lib.hid (hMp.out.mk MT)
    clear T T1 T2 T3 T4 MT hcl hfr hMp hx0
    have hlt:=hih.out
    have hbb:=hhh.out
    go_wp2
    go_roundw
    case rel=>
     refine⟨i+1,_,_,_,by omega,by go_num,by rw[List.length_set];exact hFl.out,S2.out,MT2.out,fun q s' hqi hs'=>?_⟩
     by_cases e:i=q
     ·subst e
      obtain rfl:s=s':=by have:=hse.out;rw[hs'] at this;exact (Option.some.inj this).symm
      refine⟨_,List.getElem?_set_self hlx.out,fun _=>⟨trivial,trivial,⟨by rw[show mn=M.length from hml.out.symm];exact LI.blk List.mem_cons_self (fun _ _=>trivial),by show M.length≤mn;rw[hml.out];exact Nat.le_refl _⟩,trivial,.inl List.mem_cons_self,.inl (List.mem_cons_of_mem _ List.mem_cons_self)⟩,rfl,?_,rfl,?_⟩
      ·rw[←hnb.out];rfl
      ·rw[←hnb.out];rfl
     ·obtain⟨x,k1,k2,k3⟩:=hq.out q s' (by omega) hs'
      exact⟨x,by rw[List.getElem?_set_ne e];exact k1,fun v=>feC.mono (k2 v) (fun p hp=>List.mem_cons_of_mem _ hp) (fun p hp=>List.mem_cons_of_mem _ (List.mem_cons_of_mem _ hp)),k3⟩
    case measure=>simp[intOf];omega
  ·obtain rfl:hn=i:=by omega
   have hat:∀ c∈Fs,feC.At wr c:=fun c hc=>by
    obtain⟨q,hq1⟩:=List.getElem?_of_mem hc
    have hql:q<hn:=by rw[←hFl];exact (List.getElem?_eq_some_iff.1 hq1).1
    obtain⟨s,hs⟩:∃ s,H[q]?=some s:=⟨_,List.getElem?_eq_getElem (by rw[hlen.out];exact hql)⟩
    obtain⟨c',k1,k2,_⟩:=hq q s hql hs
    rw[hq1] at k1
    injection k1 with k1
    subst k1
    exact feC.at_ S.sub.sub (k2 _)
   have hLR:=Lib.hid (St_glr S hn hFl hat)
   have hsay:=Lib.hid (fun q s (hs:H[q]?=some s)=>(by
    obtain⟨x,k1,_,k2⟩:=hq q s (by rw[←hlen.out];exact (List.getElem?_eq_some_iff.1 hs).1) hs
    exact⟨x,k1,k2⟩:∃ x:Fe,Fs[q]?=some x∧fSay (R.map (·.L)) M q s x))
   have hbl:=Lib.hid S.bel
   clear hlt hin hq hat S hMp hFl
   go_wp2
   go_ret2
   exact .inr ⟨hE.out,_,_,Fs,rfl,hLR.out,hsay.out,hbl.out⟩
end Go.Proofs.YtdeedofmflelfaaGreatDoor

namespace Go.Proofs.YtdeedofmflelfaaGreatDoor
open Go.RowKit RQ
set_option linter.unusedVariables false
section
variable {α:Type} {C:Cod α} {w W:World} {bs:List GBk} {rs:List GRd} {e:Nat} {v:Value} {L:List α}
/-- v = append(v, l..) in a region whose order is open. -/
theorem Gro.opm {P:Program} {o:Oper} {a:Act} {K':Act→World→Prop} {Q:Exit→Act→World→Prop} (s x:Operand) (ty:TypeId)
  (ho:o.op=.call { callee:=.builtin .append,args:=#[s,x],argTypes:=#[ty,ty] })
  (z:Value) (bytes:Nat) (ht:P.underlying ty=some (.slice e)) (hi:(P.info? e).map (fun i=>(i.zero,i.size,i.bytes))=some (some z,C.sz,bytes))
  (hzs:z.cells.size=C.sz) (hzn:NoLl z.cells.toList) (hs:a.eval s=v) (h:Gro C w W bs rs e v L)
  (M:List α) (B:Option Addr) (c':Nat) (hx:a.eval x=.slice B M.length c') (hM:LR C W B M.length M) (hMi:∀ y∈M,C.In w bs rs y)
  (hn:(L.length+M.length)*bytes≤140737488355328) (h63:L.length+M.length≤maxLen)
  (hk:∀ v' W',Gro C w W' bs rs e v' (L++M)→K' (a.put o.dst v') W'):Oper.wp P o a W K' Q:=by
 obtain⟨i0,hi0,hzz⟩:=Option.map_eq_some_iff.1 hi
 simp only[Prod.mk.injEq] at hzz
 obtain⟨hz0,hz1,hz2⟩:=hzz
 rcases Nat.eq_zero_or_pos M.length with h0 | h0
 ·have hM0:M=[]:=List.length_eq_zero_iff.1 h0
  subst hM0
  have hx:a.eval x=.slice B 0 c':=hx
  obtain⟨A,n,cp,hv,hle⟩:∃ A n cp,v=.slice A n cp∧n≤cp:=by
   obtain⟨⟨_,_,⟨hv,_,_⟩ | ⟨g,cap,cur,hv,hh,_⟩⟩,_⟩:=h
   ·exact⟨_,_,_,hv,Nat.le_refl _⟩
   ·exact⟨_,_,_,hv,hh⟩
  have hr:(Builtin.append_ #[ty,ty] o.type #[v,.slice B 0 c']).run P W=.ok v W:=by
   rw[hv]
   refine run_append_nothing W ty ty o.type e i0 ht hi0 A n cp hle _ ⟨.inl ⟨e,ht⟩,fun w'=>rfl,?_,?_,by simp,by simp⟩<;>cases B<;>simp[Builtin.firstCells,loadCells,loadCellsFrom]
  unfold Oper.wp execOp
  simp only[ho,resolve,invoke,builtin,Sem.run_bind,Sem.run_pure,Result.andThen_ok,List.map_toArray,List.map_cons,List.map_nil,hs,hx,hr]
  exact hk v W (by rw[List.append_nil];exact h)
 ·rcases hM.mem with hm | ⟨b,q,hB,hlt,hc⟩
  ·omega
  ·subst hB
   obtain⟨v',W',hr,h2,_⟩:=Apd.run2 (P:=P) ty o.type i0 z bytes ht hi0 hz0 hz1 hz2 hzs hzn h.1 ⟨b,q,none⟩ M.length c' (C.all M) (all_len C M) (by
    intro j u hu
    obtain⟨i,y,k,h1,h2,h3⟩:=all_inv C hu
    have hadd:(⟨b,q,none⟩:Addr).add j=⟨b,q+i*C.sz+k,none⟩:=by unfold Addr.add;split<;>simp_all<;>omega
    rw[hadd]
    exact hc i y h1 k u h2) (by
    intro u hu
    obtain⟨y,_,hy⟩:=List.mem_flatMap.1 hu
    exact C.one y u hy) (all_noL C M) h0 h63 hn
   unfold Oper.wp execOp
   simp only[ho,resolve,invoke,builtin,Sem.run_bind,Sem.run_pure,Result.andThen_ok,List.map_toArray,List.map_cons,List.map_nil,hs,hx,hr]
   refine hk v' W' ⟨?_,fun y hy=>?_⟩
   ·rw[all_app,List.length_append];exact h2
   ·rcases List.mem_append.1 hy with hy | hy
    ·exact h.2 y hy
    ·exact hMi y hy
end
theorem permF {α:Type} (X B C:List α):((X++B)++C).Perm ((X++C)++B):=by
 rw[List.append_assoc,List.append_assoc]
 exact List.Perm.append_left X List.perm_append_comm
/-- A list of fields that grows, and the blocks in which it lies. -/
def OBf (F:List GBk) (rs:List GRd) (ob:List GBk) (l:Sl Fe):Prop:=((feC.all l.L).length=l.L.length*6∧NoLl (feC.all l.L)∧OB ob 48 6 l.v l.L.length (feC.all l.L))∧∀ y∈l.L,∀ v,feC.In v F rs y
section
variable {w W:World} {bs F F' ob:List GBk} {rs rs':List GRd}
theorem OBf.gro {l:Sl Fe} (h:OBf F rs ob l) (S:St w W (bs++ob) rs') (hF:∀ p∈F,p∈bs) (hr:∀ p∈rs,p∈rs'):Gro feC w W bs rs' 48 l.v l.L:=⟨Apd.close h.1 S,fun x hx=>feC.mono (h.2 x hx w) hF hr⟩
theorem Gro.opf {v:Value} {L:List Fe} (G:Gro feC w W bs rs 48 v L) (hI:∀ y∈L,∀ v,feC.In v bs rs y):∃ (l:Sl Fe) (ob:List GBk),v=l.v∧l.L=L∧OBf bs rs ob l∧St w W (bs++ob) rs:=by
 obtain⟨A,c,hv,hl⟩:=G.lr
 obtain⟨ob,h1,h2⟩:=G.1.open_
 exact⟨⟨A,c,L⟩,ob,hv,rfl,⟨by subst hv;exact h1,hI⟩,h2⟩
theorem OBt.li {l:Sl ByteArray} (h:OBt ob l) (hm:∀ p∈ob,p∈bs) (v:World):LI strC v bs rs l.A l.L.length l.L∧l.L.length≤l.c:=by
 obtain⟨h1,h2,⟨hv,h3,rfl⟩ | ⟨g,cap,cur,hv,h3,h4,h5,h6,rfl⟩⟩:=h
 ·exact⟨⟨rfl,.inl h3,fun _ _=>trivial⟩,by omega⟩
 ·injection hv with hA _ hC
  refine⟨⟨rfl,.inr (.inr ⟨g,cur,_,hA,hm _ List.mem_cons_self,fun j u hu=>?_⟩),fun _ _=>trivial⟩,by omega⟩
  rw[←h6,List.getElem?_take] at hu
  split at hu
  ·simpa using hu
  ·cases hu
end
set_option maxRecDepth 100000 in
set_option maxHeartbeats 4000000 in
theorem rinfer_any (H:List ByteArray) (HA:Option Addr) (hn hc:Nat) (R:List (Sl ByteArray)) (RA:Option Addr) (rn rc:Nat) (M:List ByteArray) (MA:Option Addr) (mn mc:Nat) (w:World) (h:LR strC w HA hn H) (hR:LR (slC strC) w RA rn R) (hM:LR strC w MA mn M) (hcc:hn≤hc) (hhn:hn≤2000) (hhs:∀ s∈H,s.size≤300) (hrs:∀ r∈R,∀ s∈r.L,s.size≤300) (hrn:rn≤1024) (hmn:mn≤1000) (hms:∀ s∈M,s.size≤300):Calls Tryz.prog 16 #[.slice HA hn hc,.slice RA rn rc,.slice MA mn mc] w fun e w'=>(¬ ifE H rn=0∧e=.returned (.tuple #[.slice none 0 0,.int .i64 (ifE H rn)])∧Below w.heap.size w w')∨(ifE H rn=0∧∃ A c Fs,e=.returned (.tuple #[.slice A hn c,.int .i64 0])∧LR feC w' A hn Fs∧(∀ (q:Nat) (s:ByteArray),H[q]?=some s→∃ x:Fe,Fs[q]?=some x∧fSay (R.map (·.L)) M q s x)∧Below w.heap.size w w'):=by
 have hlen:=Lib.hid h.len
 have hml:=Lib.hid hM.len
 have hN:Hid (∀ W,Below w.heap.size w W→Calls Tryz.prog 49 #[.slice HA hn hc] W fun e w'=>e=.returned (.bool (namesB H))∧Below W.heap.size W w'):=Lib.hid fun W hW=>rnames_any H HA hn hc W (h.bel hW) (by omega) hcc
 have hGu0:Hid (∀ (q:Nat) W,q≤2000→Below w.heap.size w W→Calls Tryz.prog 50 #[.slice RA rn rc,.int .i64 q,.slice MA mn mc] W fun e w'=>e=.returned (.int .i64 (kindN (numB (R.map (·.L)) q M)))∧Below W.heap.size W w'):=Lib.hid fun q W hq hW=>rguess8_any R RA rn rc q M MA mn mc W (hR.bel hW) hrs (by omega) hq (hM.bel hW) (by omega)
 obtain⟨ub,hub⟩:∃ z,z=ng (1:Rat).num:=⟨_,rfl⟩
 obtain⟨ux,hux⟩:∃ z,z=limbs (1:Rat).num.natAbs:=⟨_,rfl⟩
 obtain⟨ud,hud⟩:∃ z,z=dn 1:=⟨_,rfl⟩
 have hFi:Hid (∀ W,Calls Tryz.prog 51 #[.int .i64 1] W fun e w'=>∃ A n c D m' d,e=.returned (.agg #[.bool ub,.slice A n c,.slice D m' d])∧(Rd w' A n c ux∧Rd w' D m' d ud)∧Below W.heap.size W w'):=Lib.hid (fun W=>(FfromInt_any 1 W (by omega) (by omega)).mono fun e w' h=>by
  obtain⟨A,n,c,D,m',d,h1,⟨h2,h3⟩,h4⟩:=h
  rw[hub,hux,hud]
  exact⟨A,n,c,D,m',d,h1,⟨h2,h3⟩,h4⟩)
 have hunx:Hid ((ub,ux,ud)=unX true):=Lib.hid (by rw[hub,hux,hud];rfl)
 clear hub hux hud
 have hT:=Lib.hid h
 have hhh:=Lib.hid hhn
 have hmnh:=Lib.hid hmn
 replace hM:=Lib.hid hM
 have g0:¬ (1024:Int)<(rn:Int):=by omega
 by_cases h32:32<hn
 ·have hE:ifE H rn=2:=by unfold ifE;rw[if_pos (.inl (by rw[h.len];exact h32))]
  have g1:(32:Int)<(hn:Int):=by omega
  replace hE:=Lib.hid hE
  clear h hR hM hcc hhn hhs hrs hrn hmn hms h32 g0
  go_enter Tryz.func16,Tryz.ntmps16
  go_wp2
  go_ret2
  exact .inl ⟨by rw[hE.out];decide,by rw[hE.out];rfl,Below.refl _ _⟩
 have g1:¬ (32:Int)<(hn:Int):=by omega
 cases hnb:namesB H
 ·have hE:ifE H rn=8:=by unfold ifE;rw[if_neg (by rw[h.len];omega),if_pos hnb]
  rw[hnb] at hN
  replace hE:=Lib.hid hE
  clear h hR hM hcc hhn hhs hrs hrn hmn hms h32 hnb
  go_enter Tryz.func16,Tryz.ntmps16
  go_wp2_with fail
  refine (hN.out _ (Below.refl _ _)).mono ?_
  rintro e w1 ⟨rfl,bb⟩
  replace bb:=Lib.hid bb
  go_wp2
  go_ret2
  exact .inl ⟨by rw[hE.out];decide,by rw[hE.out];rfl,bb.out⟩
 have hE:ifE H rn=0:=by unfold ifE;rw[if_neg (by rw[h.len];omega),if_neg (by rw[hnb];simp)]
 rw[hnb] at hN
 replace hE:=Lib.hid hE
 clear h hR hcc hhn hhs hrs hrn hmn hms h32 hnb
 go_enter Tryz.func16,Tryz.ntmps16
 go_wp2_with fail
 refine (hN.out _ (Below.refl _ _)).mono ?_
 rintro e w1 ⟨rfl,bb1⟩
 replace bb1:=Lib.hid bb1
 clear hN
 go_wp2
 go_loopw [8,9] (fun av iv wr=>∃ (i:Nat) (lo:Sl Fe) (F ob:List GBk) (rs:List GRd),i≤hn∧iv=.int .i64 i∧av=.slice lo.A i lo.c∧lo.L.length=i∧OBf F rs ob lo∧St w wr (F++ob) rs∧(∀ (q:Nat) (s:ByteArray),q<i→H[q]?=some s→∃ x:Fe,lo.L[q]?=some x∧fSay (R.map (·.L)) M q s x)) (fun _ iv _=>hn-(intOf iv).toNat)
 case atStart=>exact⟨0,⟨none,0,[]⟩,[],[],[],Nat.zero_le _,rfl,rfl,rfl,⟨⟨rfl,(fun v hv=>by cases hv),.inl ⟨rfl,rfl,rfl⟩⟩,fun y hy=>by cases hy⟩,(St.new w).call bb1.out,fun q s h=>absurd h (Nat.not_lt_zero _)⟩
 case round=>
  clear bb1
  obtain⟨i,lo,F,ob,rs,hin,rfl,hav,hll,hob,S,hq⟩:=hrel
  subst hav
  by_cases hlt:i<hn
  ·obtain⟨b,o,s,rfl,hse,hsm,e0⟩:=str_get hT.out hlt
   have g2:(i:Int)<(hn:Int):=by omega
   have g3:(0:Int)≤(i:Int):=by omega
   obtain⟨nb,hnb⟩:∃ z,z=numB (R.map (·.L)) i M:=⟨_,rfl⟩
   have hGu:=Lib.hid (fun W (hW:Below w.heap.size w W)=>hGu0.out i W (by have:=hhh.out;omega) hW)
   have hih:=Lib.hid hlt
   replace hnb:=Lib.hid hnb
   replace hq:=Lib.hid hq
   replace hse:=Lib.hid hse
   replace hob:=Lib.hid hob
   replace hll:=Lib.hid hll
   replace e0:=Lib.hid e0
   replace S:=Lib.hid S
   clear hlt hin hsm
   go_upto_region 9 with fail
   rename World=>w4
   go_cut [10] from 22 to 47 (fun v wc=>∃ (fv:Nat) (lm:Sl ByteArray) (ob2:List GBk),v=.pointer (some ⟨fv,0,none⟩)∧lm.L=M∧OBt ob2 lm∧St w wc ((fv,#[.string s,.int .i64 (kindN nb),.slice lm.A mn lm.c,.bool false,.slice none 0 0,.slice none 0 0],48)::((F++ob)++ob2)) rs)
   case first=>
    have hbase:=Lib.hid (St.new w4)
    refine RW.begin (Z:=[]) (S:=(fun W=>Below w.heap.size w W)) (by kernel_rfl) ?_ hbase.out ?_
    ·exact⟨by kernel_rfl,zis_nil,by decide,by decide,nol_nil,(fun _ _ h=>S.out.bel.trans (h.bel.mono S.out.bel.size))⟩
    intro hzk
    refine RW.t (i:=0) (v:=.slice (some ⟨b,o,none⟩) hn hc) (some 28) at0 (hy:=fun _ _=>by kernel_rfl) (h:=?_)
    refine RW.t (i:=1) (v:=.int .i64 i) (some 29) at1 (hy:=fun _ _=>by kernel_rfl) (h:=?_)
    refine RW.t (i:=2) (v:=.pointer (some ⟨b,o+i,none⟩)) (some 30) at2 (hy:=fun _ _=>by go_simp) (h:=?_)
    refine RW.t (i:=3) (v:=.string s) (some 31) at3 (hy:=fun W hS=>by (have k0:=bel_cell hS e0.out;clear hS;go_simp)) (h:=?_)
    refine RW.t (i:=4) (v:=.slice RA rn rc) (some 32) at4 (hy:=fun _ _=>by kernel_rfl) (h:=?_)
    refine RW.t (i:=5) (v:=.int .i64 i) (some 33) at5 (hy:=fun _ _=>by kernel_rfl) (h:=?_)
    refine RW.t (i:=6) (v:=.slice MA mn mc) (some 34) at6 (hy:=fun _ _=>by kernel_rfl) (h:=?_)
    refine RW.t (i:=8) (v:=.slice MA mn mc) (some 36) at8 (hy:=fun _ _=>by kernel_rfl) (h:=?_)
    refine RW.tail hzk.out (by kernel_rfl) ?_
    intro gs' w5 hgs' hS Sb
    obtain rfl:=len0 hgs'
    simp only[mark,fill,Act.put,List.setIfInBounds_toArray,List.set_cons_zero,List.set_cons_succ]
    have T:=Lib.hid (S.out.call Sb.bel)
    clear S Sb hS hgs' hzk hbase
    have S:=T
    clear T
    refine Wk.two (i:=7) (j:=11) at7 at11 (by kernel_rfl) (fun K' hK=>?_) (fun K' hK=>?_)
    ·refine oper_call (f:=50) (args:=#[.slice RA rn rc,.int .i64 i,.slice MA mn mc]) rfl (by kernel_rfl) ((hGu.out _ S.out.bel).mono ?_)
     rintro e w6 ⟨rfl,bb⟩
     rw[←hnb.out]
     have T:=Lib.hid (S.out.call bb)
     clear S bb
     have S:=T
     clear T
     refine⟨_,rfl,hK.out _ _ S.out.bel ?_⟩
     clear hK K'
     try simp only[Act.put,List.setIfInBounds_toArray,List.set_cons_zero,List.set_cons_succ]
     refine Wk.two (i:=9) (j:=11) at9 at11 (by kernel_rfl) (fun K' hK=>?_) (fun K' hK=>?_)
     ·refine Gro.opm (C:=strC) (.const (.slice none 0 0)) (.tmp 36) 22 rfl (.string ByteArray.empty) 16 Tryz.underlying22 (by kernel_rfl) rfl (fun v hv z e=>by simp[Value.cells] at hv;subst hv;cases e) rfl (Gro.nil_ strC (show St w _ (F++ob) rs from S.out) 9) M MA mc (by rw[hml.out];rfl) (by rw[hml.out];exact hM.out.bel S.out.bel) (fun _ _=>trivial) (by have:=hmnh.out;rw[hml.out];simp;omega) (by have:=hmnh.out;rw[hml.out];unfold maxLen;simp;omega) ?_
      intro v' w7 G
      rw[List.nil_append] at G
      obtain⟨lm,ob2,hv',hlm,hob2,S2⟩:=G.opt
      replace hv':=hv'.trans (show lm.v=Value.slice lm.A lm.L.length lm.c from rfl)
      rw[hlm,hml.out] at hv'
      subst hv'
      replace hlm:=Lib.hid hlm
      replace hob2:=Lib.hid hob2
      have T:=Lib.hid (show St w w7 ((F++ob)++ob2) rs from S2)
      clear S S2 G
      have S:=T
      clear T
      refine hK.out _ _ S.out.bel ?_
      clear hK K'
      try simp only[Act.put,List.setIfInBounds_toArray,List.set_cons_zero,List.set_cons_succ]
      refine Wk.two (i:=10) (j:=11) at10 at11 (by kernel_rfl) (fun K' hK=>?_) (fun K' hK=>?_)
      ·go_simp
       refine hK.out _ _ S.out.bel ?_
       clear hK K'
       try simp only[Act.put,List.setIfInBounds_toArray,List.set_cons_zero,List.set_cons_succ]
       refine Wk.o (i:=11) at11 (by kernel_rfl) fun K' hK=>?_
       go_simp
       obtain⟨fv,hfv⟩:∃ g,g=w7.heap.size:=⟨_,rfl⟩
       have T:=Lib.hid (show St w _ ((fv,#[.string ⟨#[]⟩,.int .i64 0,.slice none 0 0,.bool false,.slice none 0 0,.slice none 0 0],48)::((F++ob)++ob2)) rs from S.out.allocAt fv #[.string ⟨#[]⟩,.int .i64 0,.slice none 0 0,.bool false,.slice none 0 0,.slice none 0 0] 48 (noLof rfl) hfv.symm)
       rw[←hfv]
       clear S hfv
       have S:=T
       clear T
       generalize hW:World.alloc w7 _=w8 at S ⊢
       clear hW
       refine hK.out _ _ S.out.bel ?_
       clear hK K'
       try simp only[Act.put,List.setIfInBounds_toArray,List.set_cons_zero,List.set_cons_succ]
       have T:=Lib.hid (show St w w8 ((fv,#[.string ⟨#[]⟩,.int .i64 0,.slice none 0 0,.bool false,.slice none 0 0,.slice none 0 0],48)::((F++ob)++ob2)) rs from S.out)
       clear S
       have S:=T
       clear T
       refine Wk.o (i:=12) at12 (by kernel_rfl) fun K' hK=>?_
       obtain⟨c_0,c_1,c_2,c_3,c_4,c_5,f_0,f_1,f_2,f_3,f_4,f_5⟩:=S.out.cf6 0 rfl
       have hz:=S.out.lt 0 rfl
       go_simp
       have T:=Lib.hid ((((((S.out.set 0 0 (.string s) rfl (by nofun)).set 0 1 (.int .i64 (kindN nb)) rfl (by nofun)).set 0 2 (.slice lm.A mn lm.c) rfl (by nofun)).set 0 3 (.bool false) rfl (by nofun)).set 0 4 (.slice none 0 0) rfl (by nofun)).set 0 5 (.slice none 0 0) rfl (by nofun))
       clear S c_0 f_0 c_1 f_1 c_2 f_2 c_3 f_3 c_4 f_4 c_5 f_5 hz
       have S:=T
       clear T
       refine hK.out _ _ S.out.bel ?_
       clear hK K'
       try simp only[Act.put,List.setIfInBounds_toArray,List.set_cons_zero,List.set_cons_succ]
       refine Wk.done (by kernel_rfl) ?_
       go_simp
       go_wp2
       go_meet
       exact⟨fv,lm,ob2,rfl,hlm.out,hob2.out,S.out⟩
      ·go_simp
       obtain⟨fv,hfv⟩:∃ g,g=w7.heap.size:=⟨_,rfl⟩
       have T:=Lib.hid (show St w _ ((fv,#[.string ⟨#[]⟩,.int .i64 0,.slice none 0 0,.bool false,.slice none 0 0,.slice none 0 0],48)::((F++ob)++ob2)) rs from S.out.allocAt fv #[.string ⟨#[]⟩,.int .i64 0,.slice none 0 0,.bool false,.slice none 0 0,.slice none 0 0] 48 (noLof rfl) hfv.symm)
       rw[←hfv]
       clear S hfv
       have S:=T
       clear T
       generalize hW:World.alloc w7 _=w8 at S ⊢
       clear hW
       refine hK.out _ _ S.out.bel ?_
       clear hK K'
       try simp only[Act.put,List.setIfInBounds_toArray,List.set_cons_zero,List.set_cons_succ]
       refine Wk.o (i:=10) at10 (by kernel_rfl) fun K' hK=>?_
       go_simp
       refine hK.out _ _ S.out.bel ?_
       clear hK K'
       try simp only[Act.put,List.setIfInBounds_toArray,List.set_cons_zero,List.set_cons_succ]
       have T:=Lib.hid (show St w w8 ((fv,#[.string ⟨#[]⟩,.int .i64 0,.slice none 0 0,.bool false,.slice none 0 0,.slice none 0 0],48)::((F++ob)++ob2)) rs from S.out)
       clear S
       have S:=T
       clear T
       refine Wk.o (i:=12) at12 (by kernel_rfl) fun K' hK=>?_
       obtain⟨c_0,c_1,c_2,c_3,c_4,c_5,f_0,f_1,f_2,f_3,f_4,f_5⟩:=S.out.cf6 0 rfl
       have hz:=S.out.lt 0 rfl
       go_simp
       have T:=Lib.hid ((((((S.out.set 0 0 (.string s) rfl (by nofun)).set 0 1 (.int .i64 (kindN nb)) rfl (by nofun)).set 0 2 (.slice lm.A mn lm.c) rfl (by nofun)).set 0 3 (.bool false) rfl (by nofun)).set 0 4 (.slice none 0 0) rfl (by nofun)).set 0 5 (.slice none 0 0) rfl (by nofun))
       clear S c_0 f_0 c_1 f_1 c_2 f_2 c_3 f_3 c_4 f_4 c_5 f_5 hz
       have S:=T
       clear T
       refine hK.out _ _ S.out.bel ?_
       clear hK K'
       try simp only[Act.put,List.setIfInBounds_toArray,List.set_cons_zero,List.set_cons_succ]
       refine Wk.done (by kernel_rfl) ?_
       go_simp
       go_wp2
       go_meet
       exact⟨fv,lm,ob2,rfl,hlm.out,hob2.out,S.out⟩
     ·go_simp
      obtain⟨fv,hfv⟩:∃ g,g=w6.heap.size:=⟨_,rfl⟩
      have T:=Lib.hid (show St w _ ((fv,#[.string ⟨#[]⟩,.int .i64 0,.slice none 0 0,.bool false,.slice none 0 0,.slice none 0 0],48)::(F++ob)) rs from S.out.allocAt fv #[.string ⟨#[]⟩,.int .i64 0,.slice none 0 0,.bool false,.slice none 0 0,.slice none 0 0] 48 (noLof rfl) hfv.symm)
      rw[←hfv]
      clear S hfv
      have S:=T
      clear T
      generalize hW:World.alloc w6 _=w7 at S ⊢
      clear hW
      refine hK.out _ _ S.out.bel ?_
      clear hK K'
      try simp only[Act.put,List.setIfInBounds_toArray,List.set_cons_zero,List.set_cons_succ]
      refine Wk.o (i:=9) at9 (by kernel_rfl) fun K' hK=>?_
      refine Gro.opm (C:=strC) (.const (.slice none 0 0)) (.tmp 36) 22 rfl (.string ByteArray.empty) 16 Tryz.underlying22 (by kernel_rfl) rfl (fun v hv z e=>by simp[Value.cells] at hv;subst hv;cases e) rfl (Gro.nil_ strC (show St w _ ((fv,#[.string ⟨#[]⟩,.int .i64 0,.slice none 0 0,.bool false,.slice none 0 0,.slice none 0 0],48)::(F++ob)) rs from S.out) 9) M MA mc (by rw[hml.out];rfl) (by rw[hml.out];exact hM.out.bel S.out.bel) (fun _ _=>trivial) (by have:=hmnh.out;rw[hml.out];simp;omega) (by have:=hmnh.out;rw[hml.out];unfold maxLen;simp;omega) ?_
      intro v' w8 G
      rw[List.nil_append] at G
      obtain⟨lm,ob2,hv',hlm,hob2,S2⟩:=G.opt
      replace hv':=hv'.trans (show lm.v=Value.slice lm.A lm.L.length lm.c from rfl)
      rw[hlm,hml.out] at hv'
      subst hv'
      replace hlm:=Lib.hid hlm
      replace hob2:=Lib.hid hob2
      have T:=Lib.hid (show St w w8 (((fv,#[.string ⟨#[]⟩,.int .i64 0,.slice none 0 0,.bool false,.slice none 0 0,.slice none 0 0],48)::(F++ob))++ob2) rs from S2)
      clear S S2 G
      have S:=T
      clear T
      refine hK.out _ _ S.out.bel ?_
      clear hK K'
      try simp only[Act.put,List.setIfInBounds_toArray,List.set_cons_zero,List.set_cons_succ]
      refine Wk.o (i:=10) at10 (by kernel_rfl) fun K' hK=>?_
      go_simp
      refine hK.out _ _ S.out.bel ?_
      clear hK K'
      try simp only[Act.put,List.setIfInBounds_toArray,List.set_cons_zero,List.set_cons_succ]
      have T:=Lib.hid (show St w w8 ((fv,#[.string ⟨#[]⟩,.int .i64 0,.slice none 0 0,.bool false,.slice none 0 0,.slice none 0 0],48)::((F++ob)++ob2)) rs from S.out)
      clear S
      have S:=T
      clear T
      refine Wk.o (i:=12) at12 (by kernel_rfl) fun K' hK=>?_
      obtain⟨c_0,c_1,c_2,c_3,c_4,c_5,f_0,f_1,f_2,f_3,f_4,f_5⟩:=S.out.cf6 0 rfl
      have hz:=S.out.lt 0 rfl
      go_simp
      have T:=Lib.hid ((((((S.out.set 0 0 (.string s) rfl (by nofun)).set 0 1 (.int .i64 (kindN nb)) rfl (by nofun)).set 0 2 (.slice lm.A mn lm.c) rfl (by nofun)).set 0 3 (.bool false) rfl (by nofun)).set 0 4 (.slice none 0 0) rfl (by nofun)).set 0 5 (.slice none 0 0) rfl (by nofun))
      clear S c_0 f_0 c_1 f_1 c_2 f_2 c_3 f_3 c_4 f_4 c_5 f_5 hz
      have S:=T
      clear T
      refine hK.out _ _ S.out.bel ?_
      clear hK K'
      try simp only[Act.put,List.setIfInBounds_toArray,List.set_cons_zero,List.set_cons_succ]
      refine Wk.done (by kernel_rfl) ?_
      go_simp
      go_wp2
      go_meet
      exact⟨fv,lm,ob2,rfl,hlm.out,hob2.out,S.out⟩
    ·go_simp
     obtain⟨fv,hfv⟩:∃ g,g=w5.heap.size:=⟨_,rfl⟩
     have T:=Lib.hid (show St w _ ((fv,#[.string ⟨#[]⟩,.int .i64 0,.slice none 0 0,.bool false,.slice none 0 0,.slice none 0 0],48)::(F++ob)) rs from S.out.allocAt fv #[.string ⟨#[]⟩,.int .i64 0,.slice none 0 0,.bool false,.slice none 0 0,.slice none 0 0] 48 (noLof rfl) hfv.symm)
     rw[←hfv]
     clear S hfv
     have S:=T
     clear T
     generalize hW:World.alloc w5 _=w6 at S ⊢
     clear hW
     refine hK.out _ _ S.out.bel ?_
     clear hK K'
     try simp only[Act.put,List.setIfInBounds_toArray,List.set_cons_zero,List.set_cons_succ]
     refine Wk.o (i:=7) at7 (by kernel_rfl) fun K' hK=>?_
     refine oper_call (f:=50) (args:=#[.slice RA rn rc,.int .i64 i,.slice MA mn mc]) rfl (by kernel_rfl) ((hGu.out _ S.out.bel).mono ?_)
     rintro e w7 ⟨rfl,bb⟩
     rw[←hnb.out]
     have T:=Lib.hid (S.out.call bb)
     clear S bb
     have S:=T
     clear T
     refine⟨_,rfl,hK.out _ _ S.out.bel ?_⟩
     clear hK K'
     try simp only[Act.put,List.setIfInBounds_toArray,List.set_cons_zero,List.set_cons_succ]
     refine Wk.o (i:=9) at9 (by kernel_rfl) fun K' hK=>?_
     refine Gro.opm (C:=strC) (.const (.slice none 0 0)) (.tmp 36) 22 rfl (.string ByteArray.empty) 16 Tryz.underlying22 (by kernel_rfl) rfl (fun v hv z e=>by simp[Value.cells] at hv;subst hv;cases e) rfl (Gro.nil_ strC (show St w _ ((fv,#[.string ⟨#[]⟩,.int .i64 0,.slice none 0 0,.bool false,.slice none 0 0,.slice none 0 0],48)::(F++ob)) rs from S.out) 9) M MA mc (by rw[hml.out];rfl) (by rw[hml.out];exact hM.out.bel S.out.bel) (fun _ _=>trivial) (by have:=hmnh.out;rw[hml.out];simp;omega) (by have:=hmnh.out;rw[hml.out];unfold maxLen;simp;omega) ?_
     intro v' w8 G
     rw[List.nil_append] at G
     obtain⟨lm,ob2,hv',hlm,hob2,S2⟩:=G.opt
     replace hv':=hv'.trans (show lm.v=Value.slice lm.A lm.L.length lm.c from rfl)
     rw[hlm,hml.out] at hv'
     subst hv'
     replace hlm:=Lib.hid hlm
     replace hob2:=Lib.hid hob2
     have T:=Lib.hid (show St w w8 (((fv,#[.string ⟨#[]⟩,.int .i64 0,.slice none 0 0,.bool false,.slice none 0 0,.slice none 0 0],48)::(F++ob))++ob2) rs from S2)
     clear S S2 G
     have S:=T
     clear T
     refine hK.out _ _ S.out.bel ?_
     clear hK K'
     try simp only[Act.put,List.setIfInBounds_toArray,List.set_cons_zero,List.set_cons_succ]
     refine Wk.o (i:=10) at10 (by kernel_rfl) fun K' hK=>?_
     go_simp
     refine hK.out _ _ S.out.bel ?_
     clear hK K'
     try simp only[Act.put,List.setIfInBounds_toArray,List.set_cons_zero,List.set_cons_succ]
     have T:=Lib.hid (show St w w8 ((fv,#[.string ⟨#[]⟩,.int .i64 0,.slice none 0 0,.bool false,.slice none 0 0,.slice none 0 0],48)::((F++ob)++ob2)) rs from S.out)
     clear S
     have S:=T
     clear T
     refine Wk.o (i:=12) at12 (by kernel_rfl) fun K' hK=>?_
     obtain⟨c_0,c_1,c_2,c_3,c_4,c_5,f_0,f_1,f_2,f_3,f_4,f_5⟩:=S.out.cf6 0 rfl
     have hz:=S.out.lt 0 rfl
     go_simp
     have T:=Lib.hid ((((((S.out.set 0 0 (.string s) rfl (by nofun)).set 0 1 (.int .i64 (kindN nb)) rfl (by nofun)).set 0 2 (.slice lm.A mn lm.c) rfl (by nofun)).set 0 3 (.bool false) rfl (by nofun)).set 0 4 (.slice none 0 0) rfl (by nofun)).set 0 5 (.slice none 0 0) rfl (by nofun))
     clear S c_0 f_0 c_1 f_1 c_2 f_2 c_3 f_3 c_4 f_4 c_5 f_5 hz
     have S:=T
     clear T
     refine hK.out _ _ S.out.bel ?_
     clear hK K'
     try simp only[Act.put,List.setIfInBounds_toArray,List.set_cons_zero,List.set_cons_succ]
     refine Wk.done (by kernel_rfl) ?_
     go_simp
     go_wp2
     go_meet
     exact⟨fv,lm,ob2,rfl,hlm.out,hob2.out,S.out⟩
   case rest=>
    obtain⟨fv,lm,ob2,rfl,hlm,hob2,S0⟩:=hcut
    clear S e0
    have S:=Lib.hid S0
    clear S0
    replace hlm:=Lib.hid hlm
    replace hob2:=Lib.hid hob2
    obtain⟨c_0,c_1,c_2,c_3,c_4,c_5,f_0,f_1,f_2,f_3,f_4,f_5⟩:=S.out.cf6 0 rfl
    have hz:fv<wc.heap.size:=S.out.lt 0 rfl
    have gk:(kindN nb==1)=nb:=by cases nb<;>rfl
    cases nb
    ·have S0c:=S
     have hy:feC.cs (⟨s,kindN false,lm,⟨false,Nl0,Nl0⟩⟩:Fe)=[.string s,.int .i64 (kindN false),.slice lm.A mn lm.c,.bool false,.slice none 0 0,.slice none 0 0]:=by rw[fe_cs,hlm.out,hml.out];first | done | rfl
     have G:=Lib.hid (OBf.gro (bs:=(fv,#[.string s,.int .i64 (kindN false),.slice lm.A mn lm.c,.bool false,.slice none 0 0,.slice none 0 0],48)::(F++ob2)) hob.out (S.out.prm (by
      refine List.Perm.cons _ ?_
      exact permF F ob ob2)) (fun p hp=>List.mem_cons_of_mem _ (List.mem_append_left _ hp)) (fun _ h=>h))
     have GA:=Lib.hid (G.out.alloc #[.string s,.int .i64 (kindN false),.slice lm.A mn lm.c,.bool false,.slice none 0 0,.slice none 0 0] 48 (noLof rfl))
     have hyI:Hid (∀ v,feC.In v ((wc.heap.size,#[.string s,.int .i64 (kindN false),.slice lm.A mn lm.c,.bool false,.slice none 0 0,.slice none 0 0],48)::(fv,#[.string s,.int .i64 (kindN false),.slice lm.A mn lm.c,.bool false,.slice none 0 0,.slice none 0 0],48)::(F++ob2)) rs (⟨s,kindN false,lm,⟨false,Nl0,Nl0⟩⟩:Fe)):=Lib.hid (fun v=>⟨trivial,trivial,OBt.li hob2.out (fun p hp=>List.mem_cons_of_mem _ (List.mem_cons_of_mem _ (List.mem_append_right _ hp))) v,trivial,.inr (Rd.nil_ _ _ _),.inr (Rd.nil_ _ _ _)⟩)
     clear S G
     replace hy:=Lib.hid hy
     go_wp2_with (at_builtin;refine Gro.wp2 (C:=feC) rfl (.tmp 44) (.tmp 46) 28 rfl (.agg #[.string ⟨#[]⟩,.int .i64 0,.slice none 0 0,.bool false,.slice none 0 0,.slice none 0 0]) 104 Tryz.underlying28 (by kernel_rfl) rfl (fun v hv z e=>by simp[Value.cells] at hv;subst e;simp at hv) (by rw[←hll.out];rfl) GA.out wc.heap.size (⟨s,kindN false,lm,⟨false,Nl0,Nl0⟩⟩:Fe) rfl (by rw[hy.out];exact GA.out.st.cb 0 rfl) (hyI.out _) (by have:=hll.out;have:=hih.out;have:=hhh.out;omega) (by have:=hll.out;have:=hih.out;have:=hhh.out;unfold maxLen;omega) ?_)
     intro av1 w11 G2 hmk
     obtain⟨lo2,ob9,hav,hlo2,hob9,S9⟩:=G2.opf (fun x hx=>by
      rcases List.mem_append.1 hx with hx | hx
      ·exact fun v=>feC.mono (hob.out.2 x hx v) (fun p hp=>List.mem_cons_of_mem _ (List.mem_cons_of_mem _ (List.mem_append_left _ hp))) (fun _ h=>h)
      ·rw[List.mem_singleton.1 hx];exact hyI.out)
     have hl2:lo2.L.length=i+1:=by rw[hlo2,List.length_append,hll.out];rfl
     replace hav:=hav.trans (show lo2.v=Value.slice lo2.A lo2.L.length lo2.c from rfl)
     rw[hl2] at hav
     subst hav
     have H9:=Lib.hid (And.intro hob9 (And.intro S9 (And.intro hl2 hlo2)))
     clear GA G2 hmk hob9 S9 hl2 hlo2 c_0 f_0 c_1 f_1 c_2 f_2 c_3 f_3 c_4 f_4 c_5 f_5 hz
     have hlt:=hih.out
     have hbb:=hhh.out
     go_wp2
     go_roundw
     case rel=>
      refine⟨i+1,lo2,_,ob9,_,by omega,by go_num,rfl,H9.out.2.2.1,H9.out.1,H9.out.2.1,fun q s' hqi hs'=>?_⟩
      rw[H9.out.2.2.2]
      by_cases e:i=q
      ·subst e
       obtain rfl:s=s':=by have:=hse.out;rw[hs'] at this;exact (Option.some.inj this).symm
       refine⟨_,by rw[List.getElem?_append_right (by rw[hll.out];exact Nat.le_refl _),hll.out,Nat.sub_self];rfl,rfl,by rw[←hnb.out],hlm.out,by rw[←hnb.out];rfl⟩
      ·obtain⟨x,k1,k2⟩:=hq.out q s' (by omega) hs'
       exact⟨x,by rw[List.getElem?_append_left (by rw[hll.out];omega)];exact k1,k2⟩
     case measure=>simp[intOf];omega
    ·go_wp2_with fail
     refine (hFi.out _).mono ?_
     rintro e w10 ⟨A,n,c,D,m',d,rfl,⟨Q1,Q2⟩,bb⟩
     have T:=Lib.hid (((S.out.call bb).read Q2).read Q1)
     clear S bb Q1 Q2 c_0 f_0 c_1 f_1 c_2 f_2 c_3 f_3 c_4 f_4 c_5 f_5 hz
     have S:=T
     clear T
     obtain⟨c_0,c_1,c_2,c_3,c_4,c_5,f_0,f_1,f_2,f_3,f_4,f_5⟩:=S.out.cf6 0 rfl
     have hz:fv<w10.heap.size:=S.out.lt 0 rfl
     have T:=Lib.hid (((S.out.set 0 3 (.bool (ub)) rfl (by nofun)).set 0 4 (.slice A n c) rfl (by nofun)).set 0 5 (.slice D m' d) rfl (by nofun))
     clear S
     go_upto_region 12 with fail
     clear c_0 f_0 c_1 f_1 c_2 f_2 c_3 f_3 c_4 f_4 c_5 f_5 hz
     generalize hW:World.setCell _ _ _=w12 at T ⊢
     clear hW
     have S:=Lib.hid (show St w w12 ((fv,#[.string s,.int .i64 (kindN true),.slice lm.A mn lm.c,.bool (ub),.slice A n c,.slice D m' d],48)::((F++ob)++ob2)) ((A,n,c,ux)::(D,m',d,ud)::rs) from T.out)
     clear T
     obtain⟨c_0,c_1,c_2,c_3,c_4,c_5,f_0,f_1,f_2,f_3,f_4,f_5⟩:=S.out.cf6 0 rfl
     have hz:fv<w12.heap.size:=S.out.lt 0 rfl
     have hy:feC.cs (⟨s,kindN true,lm,⟨ub,⟨A,n,c,ux⟩,⟨D,m',d,ud⟩⟩⟩:Fe)=[.string s,.int .i64 (kindN true),.slice lm.A mn lm.c,.bool (ub),.slice A n c,.slice D m' d]:=by rw[fe_cs,hlm.out,hml.out];first | done | rfl
     have G:=Lib.hid (OBf.gro (bs:=(fv,#[.string s,.int .i64 (kindN true),.slice lm.A mn lm.c,.bool (ub),.slice A n c,.slice D m' d],48)::(F++ob2)) hob.out (S.out.prm (by
      refine List.Perm.cons _ ?_
      exact permF F ob ob2)) (fun p hp=>List.mem_cons_of_mem _ (List.mem_append_left _ hp)) (fun p hp=>List.mem_cons_of_mem _ (List.mem_cons_of_mem _ hp)))
     have GA:=Lib.hid (G.out.alloc #[.string s,.int .i64 (kindN true),.slice lm.A mn lm.c,.bool (ub),.slice A n c,.slice D m' d] 48 (noLof rfl))
     have hyI:Hid (∀ v,feC.In v ((w12.heap.size,#[.string s,.int .i64 (kindN true),.slice lm.A mn lm.c,.bool (ub),.slice A n c,.slice D m' d],48)::(fv,#[.string s,.int .i64 (kindN true),.slice lm.A mn lm.c,.bool (ub),.slice A n c,.slice D m' d],48)::(F++ob2)) ((A,n,c,ux)::(D,m',d,ud)::rs) (⟨s,kindN true,lm,⟨ub,⟨A,n,c,ux⟩,⟨D,m',d,ud⟩⟩⟩:Fe)):=Lib.hid (fun v=>⟨trivial,trivial,OBt.li hob2.out (fun p hp=>List.mem_cons_of_mem _ (List.mem_cons_of_mem _ (List.mem_append_right _ hp))) v,trivial,.inl List.mem_cons_self,.inl (List.mem_cons_of_mem _ List.mem_cons_self)⟩)
     clear S G
     replace hy:=Lib.hid hy
     go_wp2_with (at_builtin;refine Gro.wp2 (C:=feC) rfl (.tmp 44) (.tmp 46) 28 rfl (.agg #[.string ⟨#[]⟩,.int .i64 0,.slice none 0 0,.bool false,.slice none 0 0,.slice none 0 0]) 104 Tryz.underlying28 (by kernel_rfl) rfl (fun v hv z e=>by simp[Value.cells] at hv;subst e;simp at hv) (by rw[←hll.out];rfl) GA.out w12.heap.size (⟨s,kindN true,lm,⟨ub,⟨A,n,c,ux⟩,⟨D,m',d,ud⟩⟩⟩:Fe) rfl (by rw[hy.out];exact GA.out.st.cb 0 rfl) (hyI.out _) (by have:=hll.out;have:=hih.out;have:=hhh.out;omega) (by have:=hll.out;have:=hih.out;have:=hhh.out;unfold maxLen;omega) ?_)
     intro av1 w11 G2 hmk
     obtain⟨lo2,ob9,hav,hlo2,hob9,S9⟩:=G2.opf (fun x hx=>by
      rcases List.mem_append.1 hx with hx | hx
      ·exact fun v=>feC.mono (hob.out.2 x hx v) (fun p hp=>List.mem_cons_of_mem _ (List.mem_cons_of_mem _ (List.mem_append_left _ hp))) (fun p hp=>List.mem_cons_of_mem _ (List.mem_cons_of_mem _ hp))
      ·rw[List.mem_singleton.1 hx];exact hyI.out)
     have hl2:lo2.L.length=i+1:=by rw[hlo2,List.length_append,hll.out];rfl
     replace hav:=hav.trans (show lo2.v=Value.slice lo2.A lo2.L.length lo2.c from rfl)
     rw[hl2] at hav
     subst hav
     have H9:=Lib.hid (And.intro hob9 (And.intro S9 (And.intro hl2 hlo2)))
     clear GA G2 hmk hob9 S9 hl2 hlo2 c_0 f_0 c_1 f_1 c_2 f_2 c_3 f_3 c_4 f_4 c_5 f_5 hz
     have hlt:=hih.out
     have hbb:=hhh.out
     go_wp2
     go_roundw
     case rel=>
      refine⟨i+1,lo2,_,ob9,_,by omega,by go_num,rfl,H9.out.2.2.1,H9.out.1,H9.out.2.1,fun q s' hqi hs'=>?_⟩
      rw[H9.out.2.2.2]
      by_cases e:i=q
      ·subst e
       obtain rfl:s=s':=by have:=hse.out;rw[hs'] at this;exact (Option.some.inj this).symm
       refine⟨_,by rw[List.getElem?_append_right (by rw[hll.out];exact Nat.le_refl _),hll.out,Nat.sub_self];rfl,rfl,by rw[←hnb.out],hlm.out,by rw[←hnb.out];exact hunx.out⟩
      ·obtain⟨x,k1,k2⟩:=hq.out q s' (by omega) hs'
       exact⟨x,by rw[List.getElem?_append_left (by rw[hll.out];omega)];exact k1,k2⟩
     case measure=>simp[intOf];omega
  ·obtain rfl:hn=i:=by omega
   have hI:=hob.2
   have G:=OBf.gro (bs:=F) hob S (fun _ h=>h) (fun _ h=>h)
   obtain⟨A9,c9,hv9,hl9⟩:=G.lr
   have e9:lo.v=Value.slice lo.A lo.L.length lo.c:=rfl
   rw[e9,hll] at hv9
   injection hv9 with h1 h2 h3
   rw[←h1,hll] at hl9
   have hLR:=Lib.hid hl9
   have hsay:=Lib.hid (fun q s (hs:H[q]?=some s)=>hq q s (by rw[←hlen.out];exact (List.getElem?_eq_some_iff.1 hs).1) hs)
   have hbl:=Lib.hid S.bel
   clear hlt hin hq hI G S hob hll h1 h2 h3 hl9 e9
   go_wp2
   go_ret2
   exact .inr ⟨hE.out,_,_,lo.L,rfl,hLR.out,hsay.out,hbl.out⟩
end Go.Proofs.YtdeedofmflelfaaGreatDoor

namespace Go.Proofs.YtdeedofmflelfaaGreatDoor
open Go.RowKit RQ
set_option linter.unusedVariables false
def LtV (x:Fe):Prop:=x.mi.L.length≤1000∧x.u.x.n≤200∧x.u.y.n≤200
def fSame (x y:Fe):Prop:=x.n=y.n∧x.k=y.k∧x.mi.L=y.mi.L∧(x.u.b,x.u.x.x,x.u.y.x)=(y.u.b,y.u.x.x,y.u.y.x)
set_option maxRecDepth 100000 in
set_option maxHeartbeats 4000000 in
/-- Fields that say the same are the same. -/
theorem sameFields_yes (A A':Option Addr) (n c c':Nat) (L L':List Fe) (w:World) (h:LR feC w A n L) (h':LR feC w A' n L') (he:∀ (q:Nat) (x y:Fe),L[q]?=some x→L'[q]?=some y→fSame x y) (hn:n≤2000) (hl:∀ x∈L,LtV x) (hl':∀ x∈L',LtV x):Calls Tryz.prog 17 #[.slice A n c,.slice A' n c'] w fun e w'=>e=.returned (.bool (true))∧Below w.heap.size w w':=by
 have hb:=Lib.hid hn
 have hT:=Lib.hid h
 have hU:=Lib.hid h'
 replace he:=Lib.hid he
 replace hl:=Lib.hid hl
 replace hl':=Lib.hid hl'
 clear hn h h'
 go_enter Tryz.func17,Tryz.ntmps17
 go_wp2
 go_loopw [5] (fun iv wr=>∃ i:Nat,i≤n∧iv=.int .i64 i∧Below w.heap.size w wr) (fun iv _=>n-(intOf iv).toNat)
 case atStart=>exact⟨0,Nat.zero_le _,rfl,Below.refl _ _⟩
 case round=>
  obtain⟨i,hin,rfl,B⟩:=hrel
  replace B:=Lib.hid B
  by_cases hlt:i<n
  ·obtain⟨tb,tq,x,rfl,hx,hxm,_,e0,e1,e2,e3,e4,e5⟩:=fe_get hT.out hlt
   obtain⟨ub,uq,y,rfl,hy,hym,_,y0,y1,y2,y3,y4,y5⟩:=fe_get hU.out hlt
   obtain⟨p1,p2,p3,p4⟩:=he.out i x y hx hy
   obtain⟨p5,p6,p7⟩:x.u.b=y.u.b∧x.u.x.x=y.u.x.x∧x.u.y.x=y.u.y.x:=by
    injection p4 with q1 q2
    injection q2 with q2 q3
    exact⟨q1,q2,q3⟩
   rw[←p1] at y0
   rw[←p2] at y1
   rw[←p3] at y2
   rw[←p5] at y3
   have hSL:Hid (∀ W,Below w.heap.size w W→Calls Tryz.prog 52 #[.slice x.mi.A x.mi.L.length x.mi.c,.slice y.mi.A x.mi.L.length y.mi.c] W fun e w'=>e=.returned (.bool true)∧Below W.heap.size W w'):=Lib.hid fun W hW=>sameList_yes x.mi.L _ _ _ _ _ W (fe_at.1 ((hT.out.bel hW).el x hxm)).1.1 (by rw[p3];exact (fe_at.1 ((hU.out.bel hW).el y hym)).1.1) (by have:=(hl.out x hxm).1;omega)
   have hSR:Hid (∀ W,Below w.heap.size w W→Calls Tryz.prog 27 #[.agg #[.bool x.u.b,.slice x.u.x.A x.u.x.n x.u.x.c,.slice x.u.y.A x.u.y.n x.u.y.c],.agg #[.bool x.u.b,.slice y.u.x.A y.u.x.n y.u.x.c,.slice y.u.y.A y.u.y.n y.u.y.c]] W fun e w'=>e=.returned (.bool true)∧Below W.heap.size W w'):=Lib.hid fun W hW=>by
    have hxa:=(fe_at.1 ((hT.out.bel hW).el x hxm)).2
    have hya:=(fe_at.1 ((hU.out.bel hW).el y hym)).2
    have h1:=hl.out x hxm
    have h2:=hl'.out y hym
    have:=sameR x.u.b x.u.x.A x.u.x.n x.u.x.c x.u.x.x x.u.y.A x.u.y.n x.u.y.c x.u.y.x x.u.b y.u.x.A y.u.x.n y.u.x.c y.u.x.x y.u.y.A y.u.y.n y.u.y.c y.u.y.x W hxa.1 hxa.2 hya.1 hya.2 h1.2.1 h1.2.2 h2.2.1 h2.2.2
    rw[show ((decide (x.u.b=x.u.b)&&decide (x.u.x.x=y.u.x.x))&&decide (x.u.y.x=y.u.y.x))=true by simp[p6,p7]] at this
    exact this
   have hSD:Hid (∀ W,Below w.heap.size w W→Calls Tryz.prog 53 #[.slice x.u.y.A x.u.y.n x.u.y.c,.slice y.u.y.A y.u.y.n y.u.y.c] W fun e w'=>e=.returned (.bool true)∧Below W.heap.size W w'):=Lib.hid fun W hW=>by
    have hxa:=(fe_at.1 ((hT.out.bel hW).el x hxm)).2
    have hya:=(fe_at.1 ((hU.out.bel hW).el y hym)).2
    have h1:=hl.out x hxm
    have h2:=hl'.out y hym
    have:=same1_any x.u.y.A x.u.y.n x.u.y.c y.u.y.A y.u.y.n y.u.y.c x.u.y.x y.u.y.x W hxa.2 hya.2 (by have:=h1.2.2;omega) (by have:=h2.2.2;omega)
    rw[show decide (x.u.y.x=y.u.y.x)=true by simp[p7]] at this
    exact this
   have hih:=Lib.hid hlt
   have g1:(i:Int)<(n:Int):=by omega
   have g2:(0:Int)≤(i:Int):=by omega
   replace e0:=Lib.hid e0
   replace y0:=Lib.hid y0
   replace e1:=Lib.hid e1
   replace y1:=Lib.hid y1
   replace e2:=Lib.hid e2
   replace y2:=Lib.hid y2
   replace e3:=Lib.hid e3
   replace y3:=Lib.hid y3
   replace e4:=Lib.hid e4
   replace y4:=Lib.hid y4
   replace e5:=Lib.hid e5
   replace y5:=Lib.hid y5
   clear hlt hin hx hy hxm hym p1 p2 p3 p4 p5 p6 p7
   go_upto_region 6 with fail
   simp only[List.append_eq,List.cons_append,List.nil_append]
   have hbase:=Lib.hid (St.new wr)
   refine RW.begin (Z:=[]) (S:=(fun W=>Below w.heap.size w W)) (by kernel_rfl) ?_ hbase.out ?_
   ·exact⟨by kernel_rfl,zis_nil,by decide,by decide,nol_nil,(fun _ _ h=>B.out.trans (h.bel.mono B.out.size))⟩
   intro hzk
   refine RW.t (i:=0) (v:=.slice (some ⟨tb,tq,none⟩) n c) (some 17) at0 (hy:=fun _ _=>by kernel_rfl) (h:=?_)
   refine RW.t (i:=1) (v:=.int .i64 i) (some 18) at1 (hy:=fun _ _=>by kernel_rfl) (h:=?_)
   refine RW.t (i:=2) (v:=.pointer (some ⟨tb,tq+i*6,none⟩)) (some 19) at2 (hy:=fun _ _=>by go_simp) (h:=?_)
   refine RW.t (i:=3) (v:=.pointer (some ⟨tb,tq+i*6,none⟩)) (some 20) at3 (hy:=fun _ _=>by go_simp) (h:=?_)
   refine RW.t (i:=4) (v:=.string x.n) (some 21) at4 (hy:=fun W hS=>by (have k0:=bel_cell hS e0.out;clear hS;go_simp)) (h:=?_)
   refine RW.t (i:=5) (v:=.slice (some ⟨ub,uq,none⟩) n c') (some 22) at5 (hy:=fun _ _=>by kernel_rfl) (h:=?_)
   refine RW.t (i:=6) (v:=.int .i64 i) (some 23) at6 (hy:=fun _ _=>by kernel_rfl) (h:=?_)
   refine RW.t (i:=7) (v:=.pointer (some ⟨ub,uq+i*6,none⟩)) (some 24) at7 (hy:=fun _ _=>by go_simp) (h:=?_)
   refine RW.t (i:=8) (v:=.pointer (some ⟨ub,uq+i*6,none⟩)) (some 25) at8 (hy:=fun _ _=>by go_simp) (h:=?_)
   refine RW.t (i:=9) (v:=.string x.n) (some 26) at9 (hy:=fun W hS=>by (have k0:=bel_cell hS y0.out;clear hS;go_simp)) (h:=?_)
   refine RW.t (i:=10) (v:=.bool false) (some 27) at10 (hy:=fun _ _=>by go_simp) (h:=?_)
   refine RW.t (i:=11) (v:=.bool false) (some 28) at11 (hy:=fun _ _=>by kernel_rfl) (h:=?_)
   refine RW.t (i:=12) (v:=.slice (some ⟨tb,tq,none⟩) n c) (some 29) at12 (hy:=fun _ _=>by kernel_rfl) (h:=?_)
   refine RW.t (i:=13) (v:=.int .i64 i) (some 30) at13 (hy:=fun _ _=>by kernel_rfl) (h:=?_)
   refine RW.t (i:=14) (v:=.pointer (some ⟨tb,tq+i*6,none⟩)) (some 31) at14 (hy:=fun _ _=>by go_simp) (h:=?_)
   refine RW.t (i:=15) (v:=.pointer (some ⟨tb,tq+i*6+1,none⟩)) (some 32) at15 (hy:=fun _ _=>by go_simp) (h:=?_)
   refine RW.t (i:=16) (v:=.int .i64 x.k) (some 33) at16 (hy:=fun W hS=>by (have k0:=bel_cell hS e1.out;clear hS;go_simp)) (h:=?_)
   refine RW.t (i:=17) (v:=.slice (some ⟨ub,uq,none⟩) n c') (some 34) at17 (hy:=fun _ _=>by kernel_rfl) (h:=?_)
   refine RW.t (i:=18) (v:=.int .i64 i) (some 35) at18 (hy:=fun _ _=>by kernel_rfl) (h:=?_)
   refine RW.t (i:=19) (v:=.pointer (some ⟨ub,uq+i*6,none⟩)) (some 36) at19 (hy:=fun _ _=>by go_simp) (h:=?_)
   refine RW.t (i:=20) (v:=.pointer (some ⟨ub,uq+i*6+1,none⟩)) (some 37) at20 (hy:=fun _ _=>by go_simp) (h:=?_)
   refine RW.t (i:=21) (v:=.int .i64 x.k) (some 38) at21 (hy:=fun W hS=>by (have k0:=bel_cell hS y1.out;clear hS;go_simp)) (h:=?_)
   refine RW.t (i:=22) (v:=.bool false) (some 39) at22 (hy:=fun _ _=>by go_simp) (h:=?_)
   refine RW.t (i:=23) (v:=.bool false) (some 40) at23 (hy:=fun _ _=>by kernel_rfl) (h:=?_)
   refine RW.t (i:=24) (v:=.bool false) (some 41) at24 (hy:=fun _ _=>by kernel_rfl) (h:=?_)
   refine RW.t (i:=25) (v:=.slice (some ⟨tb,tq,none⟩) n c) (some 42) at25 (hy:=fun _ _=>by kernel_rfl) (h:=?_)
   refine RW.t (i:=26) (v:=.int .i64 i) (some 43) at26 (hy:=fun _ _=>by kernel_rfl) (h:=?_)
   refine RW.t (i:=27) (v:=.pointer (some ⟨tb,tq+i*6,none⟩)) (some 44) at27 (hy:=fun _ _=>by go_simp) (h:=?_)
   refine RW.t (i:=28) (v:=.pointer (some ⟨tb,tq+i*6+2,none⟩)) (some 45) at28 (hy:=fun _ _=>by go_simp) (h:=?_)
   refine RW.t (i:=29) (v:=.slice x.mi.A x.mi.L.length x.mi.c) (some 46) at29 (hy:=fun W hS=>by (have k0:=bel_cell hS e2.out;clear hS;go_simp)) (h:=?_)
   refine RW.t (i:=30) (v:=.slice (some ⟨ub,uq,none⟩) n c') (some 47) at30 (hy:=fun _ _=>by kernel_rfl) (h:=?_)
   refine RW.t (i:=31) (v:=.int .i64 i) (some 48) at31 (hy:=fun _ _=>by kernel_rfl) (h:=?_)
   refine RW.t (i:=32) (v:=.pointer (some ⟨ub,uq+i*6,none⟩)) (some 49) at32 (hy:=fun _ _=>by go_simp) (h:=?_)
   refine RW.t (i:=33) (v:=.pointer (some ⟨ub,uq+i*6+2,none⟩)) (some 50) at33 (hy:=fun _ _=>by go_simp) (h:=?_)
   refine RW.t (i:=34) (v:=.slice y.mi.A x.mi.L.length y.mi.c) (some 51) at34 (hy:=fun W hS=>by (have k0:=bel_cell hS y2.out;clear hS;go_simp)) (h:=?_)
   refine RW.c (i:=35) (args:=#[.slice x.mi.A x.mi.L.length x.mi.c,.slice y.mi.A x.mi.L.length y.mi.c]) (some 52) hzk.out at35 (hx:=fun _=>by kernel_rfl) (h:=fun W S=>(hSL.out W (B.out.trans (S.bel.mono B.out.size))).mono ?_)
   rintro e w7 ⟨rfl,bb⟩
   refine⟨bb,_,[],rfl,rd_nil,?_⟩
   clear S bb
   refine RW.t (i:=36) (v:=.bool false) (some 53) at36 (hy:=fun _ _=>by kernel_rfl) (h:=?_)
   refine RW.t (i:=37) (v:=.bool false) (some 54) at37 (hy:=fun _ _=>by kernel_rfl) (h:=?_)
   refine RW.t (i:=38) (v:=.bool false) (some 55) at38 (hy:=fun _ _=>by kernel_rfl) (h:=?_)
   refine RW.t (i:=39) (v:=.slice (some ⟨tb,tq,none⟩) n c) (some 56) at39 (hy:=fun _ _=>by kernel_rfl) (h:=?_)
   refine RW.t (i:=40) (v:=.int .i64 i) (some 57) at40 (hy:=fun _ _=>by kernel_rfl) (h:=?_)
   refine RW.t (i:=41) (v:=.pointer (some ⟨tb,tq+i*6,none⟩)) (some 58) at41 (hy:=fun _ _=>by go_simp) (h:=?_)
   refine RW.t (i:=42) (v:=.pointer (some ⟨tb,tq+i*6+3,none⟩)) (some 59) at42 (hy:=fun _ _=>by go_simp) (h:=?_)
   refine RW.t (i:=43) (v:=.agg #[.bool x.u.b,.slice x.u.x.A x.u.x.n x.u.x.c,.slice x.u.y.A x.u.y.n x.u.y.c]) (some 60) at43 (hy:=fun W hS=>by (have k0:=bel_cell hS e3.out;have k1:=bel_cell hS e4.out;have k2:=bel_cell hS e5.out;clear hS;go_simp)) (h:=?_)
   refine RW.t (i:=44) (v:=.slice (some ⟨ub,uq,none⟩) n c') (some 61) at44 (hy:=fun _ _=>by kernel_rfl) (h:=?_)
   refine RW.t (i:=45) (v:=.int .i64 i) (some 62) at45 (hy:=fun _ _=>by kernel_rfl) (h:=?_)
   refine RW.t (i:=46) (v:=.pointer (some ⟨ub,uq+i*6,none⟩)) (some 63) (at_succ at45) (hy:=fun _ _=>by go_simp) (h:=?_)
   refine RW.t (i:=47) (v:=.pointer (some ⟨ub,uq+i*6+3,none⟩)) (some 64) (at_succ (at_succ at45)) (hy:=fun _ _=>by go_simp) (h:=?_)
   refine RW.t (i:=48) (v:=.agg #[.bool x.u.b,.slice y.u.x.A y.u.x.n y.u.x.c,.slice y.u.y.A y.u.y.n y.u.y.c]) (some 65) (at_succ (at_succ (at_succ at45))) (hy:=fun W hS=>by (have k0:=bel_cell hS y3.out;have k1:=bel_cell hS y4.out;have k2:=bel_cell hS y5.out;clear hS;go_simp)) (h:=?_)
   refine RW.c (i:=49) (args:=#[.agg #[.bool x.u.b,.slice x.u.x.A x.u.x.n x.u.x.c,.slice x.u.y.A x.u.y.n x.u.y.c],.agg #[.bool x.u.b,.slice y.u.x.A y.u.x.n y.u.x.c,.slice y.u.y.A y.u.y.n y.u.y.c]]) (some 66) hzk.out (at_succ (at_succ (at_succ (at_succ at45)))) (hx:=fun _=>by kernel_rfl) (h:=fun W S=>(hSR.out W (B.out.trans (S.bel.mono B.out.size))).mono ?_)
   rintro e w7 ⟨rfl,bb⟩
   refine⟨bb,_,[],rfl,rd_nil,?_⟩
   clear S bb
   refine RW.t (i:=50) (v:=.bool false) (some 67) (at_succ (at_succ (at_succ (at_succ (at_succ at45))))) (hy:=fun _ _=>by kernel_rfl) (h:=?_)
   refine RW.t (i:=51) (v:=.bool false) (some 68) (at_succ (at_succ (at_succ (at_succ (at_succ (at_succ at45)))))) (hy:=fun _ _=>by kernel_rfl) (h:=?_)
   refine RW.t (i:=52) (v:=.bool false) (some 69) (at_succ (at_succ (at_succ (at_succ (at_succ (at_succ (at_succ at45))))))) (hy:=fun _ _=>by kernel_rfl) (h:=?_)
   refine RW.t (i:=53) (v:=.slice (some ⟨tb,tq,none⟩) n c) (some 70) (at_succ (at_succ (at_succ (at_succ (at_succ (at_succ (at_succ (at_succ at45)))))))) (hy:=fun _ _=>by kernel_rfl) (h:=?_)
   refine RW.t (i:=54) (v:=.int .i64 i) (some 71) (at_succ (at_succ (at_succ (at_succ (at_succ (at_succ (at_succ (at_succ (at_succ at45))))))))) (hy:=fun _ _=>by kernel_rfl) (h:=?_)
   refine RW.t (i:=55) (v:=.pointer (some ⟨tb,tq+i*6,none⟩)) (some 72) (at_succ (at_succ (at_succ (at_succ (at_succ (at_succ (at_succ (at_succ (at_succ (at_succ at45)))))))))) (hy:=fun _ _=>by go_simp) (h:=?_)
   refine RW.t (i:=56) (v:=.pointer (some ⟨tb,tq+i*6+3,none⟩)) (some 73) (at_succ (at_succ (at_succ (at_succ (at_succ (at_succ (at_succ (at_succ (at_succ (at_succ (at_succ at45))))))))))) (hy:=fun _ _=>by go_simp) (h:=?_)
   refine RW.t (i:=57) (v:=.pointer (some ⟨tb,tq+i*6+5,none⟩)) (some 74) (at_succ (at_succ (at_succ (at_succ (at_succ (at_succ (at_succ (at_succ (at_succ (at_succ (at_succ (at_succ at45)))))))))))) (hy:=fun _ _=>by go_simp) (h:=?_)
   refine RW.t (i:=58) (v:=.slice x.u.y.A x.u.y.n x.u.y.c) (some 75) (at_succ (at_succ (at_succ (at_succ (at_succ (at_succ (at_succ (at_succ (at_succ (at_succ (at_succ (at_succ (at_succ at45))))))))))))) (hy:=fun W hS=>by (have k0:=bel_cell hS e5.out;clear hS;go_simp)) (h:=?_)
   refine RW.t (i:=59) (v:=.slice (some ⟨ub,uq,none⟩) n c') (some 76) (at_succ (at_succ (at_succ (at_succ (at_succ (at_succ (at_succ (at_succ (at_succ (at_succ (at_succ (at_succ (at_succ (at_succ at45)))))))))))))) (hy:=fun _ _=>by kernel_rfl) (h:=?_)
   refine RW.t (i:=60) (v:=.int .i64 i) (some 77) (at_succ (at_succ (at_succ (at_succ (at_succ (at_succ (at_succ (at_succ (at_succ (at_succ (at_succ (at_succ (at_succ (at_succ (at_succ at45))))))))))))))) (hy:=fun _ _=>by kernel_rfl) (h:=?_)
   refine RW.t (i:=61) (v:=.pointer (some ⟨ub,uq+i*6,none⟩)) (some 78) (at_succ (at_succ (at_succ (at_succ (at_succ (at_succ (at_succ (at_succ (at_succ (at_succ (at_succ (at_succ (at_succ (at_succ (at_succ (at_succ at45)))))))))))))))) (hy:=fun _ _=>by go_simp) (h:=?_)
   refine RW.t (i:=62) (v:=.pointer (some ⟨ub,uq+i*6+3,none⟩)) (some 79) (at_succ (at_succ (at_succ (at_succ (at_succ (at_succ (at_succ (at_succ (at_succ (at_succ (at_succ (at_succ (at_succ (at_succ (at_succ (at_succ (at_succ at45))))))))))))))))) (hy:=fun _ _=>by go_simp) (h:=?_)
   refine RW.t (i:=63) (v:=.pointer (some ⟨ub,uq+i*6+5,none⟩)) (some 80) (at_succ (at_succ (at_succ (at_succ (at_succ (at_succ (at_succ (at_succ (at_succ (at_succ (at_succ (at_succ (at_succ (at_succ (at_succ (at_succ (at_succ (at_succ at45)))))))))))))))))) (hy:=fun _ _=>by go_simp) (h:=?_)
   refine RW.t (i:=64) (v:=.slice y.u.y.A y.u.y.n y.u.y.c) (some 81) (at_succ (at_succ (at_succ (at_succ (at_succ (at_succ (at_succ (at_succ (at_succ (at_succ (at_succ (at_succ (at_succ (at_succ (at_succ (at_succ (at_succ (at_succ (at_succ at45))))))))))))))))))) (hy:=fun W hS=>by (have k0:=bel_cell hS y5.out;clear hS;go_simp)) (h:=?_)
   refine RW.c (i:=65) (args:=#[.slice x.u.y.A x.u.y.n x.u.y.c,.slice y.u.y.A y.u.y.n y.u.y.c]) (some 82) hzk.out (at_succ (at_succ (at_succ (at_succ (at_succ (at_succ (at_succ (at_succ (at_succ (at_succ (at_succ (at_succ (at_succ (at_succ (at_succ (at_succ (at_succ (at_succ (at_succ (at_succ at45)))))))))))))))))))) (hx:=fun _=>by kernel_rfl) (h:=fun W S=>(hSD.out W (B.out.trans (S.bel.mono B.out.size))).mono ?_)
   rintro e w7 ⟨rfl,bb⟩
   refine⟨bb,_,[],rfl,rd_nil,?_⟩
   clear S bb
   refine RW.t (i:=66) (v:=.bool false) (some 83) (at_succ (at_succ (at_succ (at_succ (at_succ (at_succ (at_succ (at_succ (at_succ (at_succ (at_succ (at_succ (at_succ (at_succ (at_succ (at_succ (at_succ (at_succ (at_succ (at_succ (at_succ at45))))))))))))))))))))) (hy:=fun _ _=>by kernel_rfl) (h:=?_)
   refine RW.t (i:=67) (v:=.bool false) (some 84) (at_succ (at_succ (at_succ (at_succ (at_succ (at_succ (at_succ (at_succ (at_succ (at_succ (at_succ (at_succ (at_succ (at_succ (at_succ (at_succ (at_succ (at_succ (at_succ (at_succ (at_succ (at_succ at45)))))))))))))))))))))) (hy:=fun _ _=>by kernel_rfl) (h:=?_)
   refine RW.tail hzk.out (by kernel_rfl) ?_
   intro gs' w5 hgs' hS Sb
   obtain rfl:=len0 hgs'
   simp only[mark,fill,Act.put,List.setIfInBounds_toArray,List.set_cons_zero,List.set_cons_succ]
   clear Sb hgs' hzk hbase B
   have B:=Lib.hid hS
   clear hS
   refine Wk.done (by kernel_rfl) ?_
   go_simp
   have hlt:=hih.out
   have hbb:=hb.out
   go_wp2
   go_roundw
   case rel=>exact⟨i+1,by omega,by go_num,B.out⟩
   case measure=>simp[intOf];omega
  ·obtain rfl:n=i:=by omega
   clear hin hlt
   go_wp2
   go_ret
   exact⟨rfl,B.out⟩
end Go.Proofs.YtdeedofmflelfaaGreatDoor

namespace Go.Proofs.YtdeedofmflelfaaGreatDoor
open Go.RowKit RQ
set_option linter.unusedVariables false
theorem ltV_of {R:List (List ByteArray)} {M:List ByteArray} {q:Nat} {s:ByteArray} {x:Fe} {W:World} (h:fSay R M q s x) (hM:M.length≤1000) (ha:feC.At W x):LtV x:=by
 obtain⟨_,_,h3,h4⟩:=h
 obtain⟨_,h5,h6⟩:=fe_at.1 ha
 have l1:=h5.len
 have l2:=h6.len
 have hk:∀ b:Bool,(unX b).2.1.length≤200∧(unX b).2.2.length≤200:=by
  intro b
  cases b
  ·exact⟨Nat.zero_le _,Nat.zero_le _⟩
  ·refine⟨?_,Nat.zero_le _⟩
   show (limbs (1:Rat).num.natAbs).length≤200
   exact Nat.le_trans ((limbs_len_le (k:=1)).2 (by decide)) (by decide)
 obtain⟨k1,k2⟩:=hk (numB R q M)
 rw[←h4] at k1 k2
 exact⟨by rw[h3];exact hM,by rw[←l1];exact k1,by rw[←l2];exact k2⟩
theorem fSame_of {R:List (List ByteArray)} {M:List ByteArray} {q:Nat} {s:ByteArray} {x y:Fe} (h:fSay R M q s x) (h':fSay R M q s y):fSame x y:=
 ⟨h.1.trans h'.1.symm,h.2.1.trans h'.2.1.symm,h.2.2.1.trans h'.2.2.1.symm,h.2.2.2.trans h'.2.2.2.symm⟩
open Go.ChangeShapes Go.WideShapes Go.ChangeAt Go.Joins Go.Deep in
set_option maxRecDepth 100000 in
/-- A slice that came in, with its room. -/
theorem open_slc {α:Type} {C:Cod α} {t e:TypeId} (hu:Program.underlying Tryz.prog t=some (.slice e)) (ho:Opn t (slC C)) {H:Type} {enc:TypeId×Value→H} {W:World} {b0:Nat} {r:Reach} {v:Value} {d:DataW H} {p:List MemPlace} (hv:Value.okWide Tryz.prog W r b0 t v) (h:DataW.Trod enc Tryz.prog W 0 (fun _=>true) true t v d p) :
  ∃ s:Sl α,v=.slice s.A s.L.length s.c∧(LR C W s.A s.L.length s.L∧s.L.length≤s.c):=by
 obtain⟨sa,sl,sc,rfl⟩:=okWide_slice hu hv
 obtain⟨fuel,hf⟩:=h
 obtain⟨s,e,A1⟩:=ho (show DataW.trod enc Tryz.prog W 0 (fun _=>true) true fuel t [.slice sa sl sc]=some _ by simpa [Value.cells] using hf)
 have e:Value.slice sa sl sc=Value.slice s.A s.L.length s.c:=by simpa [slC,Sl.v] using e
 exact⟨s,e,A1⟩
set_option maxRecDepth 100000 in
set_option maxHeartbeats 4000000 in
theorem tin_any (HA:Option Addr) (hn hc:Nat) (H:List ByteArray) (RA:Option Addr) (rn rc:Nat) (R:List (Sl ByteArray)) (MA:Option Addr) (mn mc:Nat) (M:List ByteArray) (w:World) (h0:LR strC w HA hn H∧hn≤hc) (hR:LR (slC strC) w RA rn R) (hM0:LR strC w MA mn M∧mn≤mc):Calls Tryz.prog 3 #[.slice HA hn hc,.slice RA rn rc,.slice MA mn mc] w fun e w'=>e=.returned (.bool true)∧Below w.heap.size w w':=by
 obtain⟨h,hcc⟩:=h0
 have hM:=hM0.1
 clear hM0
 have hA:=Lib.hid (fun W=>awake_any W)
 have hS1:Hid (∀ W,Below w.heap.size w W→Calls Tryz.prog 10 #[.slice HA hn hc] W fun e w'=>(∃ v:Bool,e=.returned (.bool v)∧(v=true→hn≤40∧∀ s∈H,s.size≤60))∧w'=W):=Lib.hid fun W hW=>lstrings_any H HA hn hc W (h.bel hW)
 have hS2:Hid (∀ W,Below w.heap.size w W→Calls Tryz.prog 11 #[.slice RA rn rc] W fun e w'=>(∃ v:Bool,e=.returned (.bool v)∧(v=true→rn≤40∧∀ r∈R,r.L.length≤40∧∀ s∈r.L,s.size≤60))∧Below W.heap.size W w'):=Lib.hid fun W hW=>lrecords_any R RA rn rc W (hR.bel hW)
 have hS3:Hid (∀ W,Below w.heap.size w W→Calls Tryz.prog 10 #[.slice MA mn mc] W fun e w'=>(∃ v:Bool,e=.returned (.bool v)∧(v=true→mn≤40∧∀ s∈M,s.size≤60))∧w'=W):=Lib.hid fun W hW=>lstrings_any M MA mn mc W (hM.bel hW)
 have hT:=Lib.hid h
 have hRl:=Lib.hid hR
 have hMl:=Lib.hid hM
 have hch:=Lib.hid hcc
 clear h hR hM hcc
 go_enter Tryz.func3,Tryz.ntmps3
 go_wp2_with fail
 refine (hS1.out _ (Below.refl _ _)).mono ?_
 rintro e w1 ⟨⟨v,rfl,hv1⟩,rfl⟩
 rename World=>w
 cases v
 ·clear hv1 hT hRl hMl hS1 hS2 hS3
  go_wp2_with fail
  refine (hA.out _).mono ?_
  rintro e w2 ⟨rfl,bb⟩
  replace bb:=Lib.hid bb
  go_wp2
  go_ret
  exact⟨rfl,bb.out⟩
 obtain⟨hn40,hH60⟩:=hv1 rfl
 clear hv1
 replace hn40:=Lib.hid hn40
 replace hH60:=Lib.hid hH60
 go_wp2_with fail
 refine (hS2.out _ (Below.refl _ _)).mono ?_
 rintro e w2 ⟨⟨v,rfl,hv2⟩,bb⟩
 replace bb:=Lib.hid bb
 cases v
 ·clear hv2 hT hRl hMl hS1 hS2 hS3
  go_wp2_with fail
  refine (hA.out _).mono ?_
  rintro e w3 ⟨rfl,b3⟩
  replace bb:=Lib.hid (bb.out.trans (b3.mono bb.out.size))
  clear b3
  go_wp2
  go_ret
  exact⟨rfl,bb.out⟩
 obtain⟨rn40,hR60⟩:=hv2 rfl
 clear hv2
 replace rn40:=Lib.hid rn40
 replace hR60:=Lib.hid hR60
 go_wp2_with fail
 refine (hS3.out _ bb.out).mono ?_
 rintro e w3 ⟨⟨v,rfl,hv3⟩,rfl⟩
 rename World=>w2
 cases v
 ·clear hv3 hT hRl hMl hS1 hS2 hS3
  go_wp2_with fail
  refine (hA.out _).mono ?_
  rintro e w4 ⟨rfl,b3⟩
  replace bb:=Lib.hid (bb.out.trans (b3.mono bb.out.size))
  clear b3
  go_wp2
  go_ret
  exact⟨rfl,bb.out⟩
 obtain⟨mn40,hM60⟩:=hv3 rfl
 clear hv3 hS1 hS2 hS3
 replace mn40:=Lib.hid mn40
 replace hM60:=Lib.hid hM60
 have hlen:=Lib.hid hT.out.len
 go_wp2
 go_loopw [7] (fun iv wr=>∃ i:Nat,i≤hn∧iv=.int .i64 i∧Below w.heap.size w wr) (fun iv _=>hn-(intOf iv).toNat)
 case atStart=>exact⟨0,Nat.zero_le _,rfl,bb.out⟩
 case round=>
  clear bb
  obtain⟨i,hin,rfl,B⟩:=hrel
  replace B:=Lib.hid B
  by_cases hlt:i<hn
  ·obtain⟨b,o,s,rfl,hse,hsm,e0⟩:=str_get hT.out hlt
   have hih:=Lib.hid hlt
   have g1:(i:Int)<(hn:Int):=by omega
   have g2:(0:Int)≤(i:Int):=by omega
   have hN1:=Lib.hid (fun W=>name_any s W)
   have hN2:=Lib.hid (fun W=>rName_any s W)
   replace e0:=Lib.hid e0
   obtain⟨nb,hnb⟩:∃ z,z=nameB s:=⟨_,rfl⟩
   rw[←hnb] at hN1 hN2
   clear hlt hin hse hsm hnb
   go_upto_region 6 with fail
   have hbase:=Lib.hid (St.new wr)
   refine RW.begin (Z:=[]) (S:=(fun W=>Below w.heap.size w W)) (by kernel_rfl) ?_ hbase.out ?_
   ·exact⟨by kernel_rfl,zis_nil,by decide,by decide,nol_nil,(fun _ _ h=>B.out.trans (h.bel.mono B.out.size))⟩
   intro hzk
   refine RW.t (i:=0) (v:=.slice (some ⟨b,o,none⟩) hn hc) (some 32) at0 (hy:=fun _ _=>by kernel_rfl) (h:=?_)
   refine RW.t (i:=1) (v:=.int .i64 i) (some 33) at1 (hy:=fun _ _=>by kernel_rfl) (h:=?_)
   refine RW.t (i:=2) (v:=.pointer (some ⟨b,o+i,none⟩)) (some 34) at2 (hy:=fun _ _=>by go_simp) (h:=?_)
   refine RW.t (i:=3) (v:=.string s) (some 35) at3 (hy:=fun W hS=>by (have k0:=bel_cell hS e0.out;clear hS;go_simp)) (h:=?_)
   refine RW.t (i:=5) (v:=.slice (some ⟨b,o,none⟩) hn hc) (some 37) at5 (hy:=fun _ _=>by kernel_rfl) (h:=?_)
   refine RW.t (i:=6) (v:=.int .i64 i) (some 38) at6 (hy:=fun _ _=>by kernel_rfl) (h:=?_)
   refine RW.t (i:=7) (v:=.pointer (some ⟨b,o+i,none⟩)) (some 39) at7 (hy:=fun _ _=>by go_simp) (h:=?_)
   refine RW.t (i:=8) (v:=.string s) (some 40) at8 (hy:=fun W hS=>by (have k0:=bel_cell hS e0.out;clear hS;go_simp)) (h:=?_)
   refine RW.c (i:=4) (args:=#[.string s]) (some 36) hzk.out at4 (hx:=fun _=>by kernel_rfl) (h:=fun W S=>(hN1.out W).mono ?_)
   rintro e w7 ⟨rfl,rfl⟩
   refine⟨Below.refl _ _,_,[],rfl,rd_nil,?_⟩
   clear S
   refine RW.c (i:=9) (args:=#[.string s]) (some 41) hzk.out at9 (hx:=fun _=>by kernel_rfl) (h:=fun W S=>(hN2.out W).mono ?_)
   rintro e w7 ⟨rfl,rfl⟩
   refine⟨Below.refl _ _,_,[],rfl,rd_nil,?_⟩
   clear S
   refine RW.t (i:=10) (v:=.bool false) (some 42) at10 (hy:=fun _ _=>by go_simp) (h:=?_)
   refine RW.tail hzk.out (by kernel_rfl) ?_
   intro gs' w5 hgs' hS Sb
   obtain rfl:=len0 hgs'
   simp only[mark,fill,Act.put,List.setIfInBounds_toArray,List.set_cons_zero,List.set_cons_succ]
   clear Sb hgs' hzk hbase B
   have B:=Lib.hid hS
   clear hS
   refine Wk.done (by kernel_rfl) ?_
   go_simp
   have hlt:=hih.out
   have hbb:=hn40.out
   go_wp2
   go_roundw
   case rel=>exact⟨i+1,by omega,by go_num,B.out⟩
   case measure=>simp[intOf];omega
  ·obtain rfl:hn=i:=by omega
   clear hlt hin
   by_cases hE:ifE H rn=0
   ·have hI:Hid (∀ W,Below w.heap.size w W→Calls Tryz.prog 15 #[.slice HA hn hc,.slice RA rn rc,.slice MA mn mc] W fun e w'=>∃ A c Fs,e=.returned (.tuple #[.slice A hn c,.int .i64 0])∧LR feC w' A hn Fs∧(∀ (q:Nat) (s:ByteArray),H[q]?=some s→∃ x:Fe,Fs[q]?=some x∧fSay (R.map (·.L)) M q s x)∧Below W.heap.size W w'):=Lib.hid fun W hW=>(infer_any H HA hn hc R RA rn rc M MA mn mc W (hT.out.bel hW) (hRl.out.bel hW) (hMl.out.bel hW) hch.out (by have:=hn40.out;omega) (fun s hs=>by have:=hH60.out s hs;omega) (fun r hr s hs=>by have:=(hR60.out r hr).2 s hs;omega) (by have:=rn40.out;omega) (by have:=mn40.out;omega) (fun s hs=>by have:=hM60.out s hs;omega)).mono fun e w' h=>h.elim (fun h=>absurd hE h.1) (fun h=>h.2)
    have hJ:Hid (∀ W,Below w.heap.size w W→Calls Tryz.prog 16 #[.slice HA hn hc,.slice RA rn rc,.slice MA mn mc] W fun e w'=>∃ A c Fs,e=.returned (.tuple #[.slice A hn c,.int .i64 0])∧LR feC w' A hn Fs∧(∀ (q:Nat) (s:ByteArray),H[q]?=some s→∃ x:Fe,Fs[q]?=some x∧fSay (R.map (·.L)) M q s x)∧Below W.heap.size W w'):=Lib.hid fun W hW=>(rinfer_any H HA hn hc R RA rn rc M MA mn mc W (hT.out.bel hW) (hRl.out.bel hW) (hMl.out.bel hW) hch.out (by have:=hn40.out;omega) (fun s hs=>by have:=hH60.out s hs;omega) (fun r hr s hs=>by have:=(hR60.out r hr).2 s hs;omega) (by have:=rn40.out;omega) (by have:=mn40.out;omega) (fun s hs=>by have:=hM60.out s hs;omega)).mono fun e w' h=>h.elim (fun h=>absurd hE h.1) (fun h=>h.2)
    clear hE
    go_wp2_with fail
    refine (hI.out _ B.out).mono ?_
    rintro e w6 ⟨A1,c1,Fs,rfl,hF,hFs,bb⟩
    replace B:=Lib.hid (B.out.trans (bb.mono B.out.size))
    replace hF:=Lib.hid hF
    replace hFs:=Lib.hid hFs
    clear bb
    go_wp2_with fail
    refine (hJ.out _ B.out).mono ?_
    rintro e w7 ⟨A2,c2,Gs,rfl,hG,hGs,bb⟩
    replace B:=Lib.hid (B.out.trans (bb.mono B.out.size))
    replace hF:=Lib.hid (hF.out.bel bb)
    replace hG:=Lib.hid hG
    replace hGs:=Lib.hid hGs
    clear bb
    go_wp2_with fail
    refine (hA.out _).mono ?_
    rintro e w8 ⟨rfl,bb⟩
    replace B:=Lib.hid (B.out.trans (bb.mono B.out.size))
    replace hF:=Lib.hid (hF.out.bel bb)
    replace hG:=Lib.hid (hG.out.bel bb)
    clear bb
    have hsd:∀ q,q<hn→∃ s,H[q]?=some s:=fun q hq=>⟨_,List.getElem?_eq_getElem (by rw[hlen.out];exact hq)⟩
    have hml:M.length≤1000:=by rw[hMl.out.len];have:=mn40.out;omega
    have hV1:Hid (∀ x∈Fs,LtV x):=Lib.hid fun x hx=>by
     obtain⟨q,hq⟩:=List.getElem?_of_mem hx
     obtain⟨s,hs⟩:=hsd q (by rw[←hF.out.len];exact (List.getElem?_eq_some_iff.1 hq).1)
     obtain⟨x',h1,h2⟩:=hFs.out q s hs
     rw[hq] at h1
     injection h1 with h1
     subst h1
     exact ltV_of h2 hml (hF.out.el x hx)
    have hV2:Hid (∀ x∈Gs,LtV x):=Lib.hid fun x hx=>by
     obtain⟨q,hq⟩:=List.getElem?_of_mem hx
     obtain⟨s,hs⟩:=hsd q (by rw[←hG.out.len];exact (List.getElem?_eq_some_iff.1 hq).1)
     obtain⟨x',h1,h2⟩:=hGs.out q s hs
     rw[hq] at h1
     injection h1 with h1
     subst h1
     exact ltV_of h2 hml (hG.out.el x hx)
    have hsm:Hid (∀ (q:Nat) (x y:Fe),Fs[q]?=some x→Gs[q]?=some y→fSame x y):=Lib.hid fun q x y hx hy=>by
     obtain⟨s,hs⟩:=hsd q (by rw[←hF.out.len];exact (List.getElem?_eq_some_iff.1 hx).1)
     obtain⟨x',h1,h2⟩:=hFs.out q s hs
     obtain⟨y',h3,h4⟩:=hGs.out q s hs
     rw[hx] at h1
     rw[hy] at h3
     injection h1 with h1
     injection h3 with h3
     subst h1
     subst h3
     exact fSame_of h2 h4
    clear hsd hml
    go_wp2_with fail
    refine (sameFields_yes A1 A2 hn c1 c2 Fs Gs _ hF.out hG.out hsm.out (by have:=hn40.out;omega) hV1.out hV2.out).mono ?_
    rintro e w9 ⟨rfl,bb⟩
    replace B:=Lib.hid (B.out.trans (bb.mono B.out.size))
    clear bb
    go_wp2
    go_ret
    exact⟨rfl,B.out⟩
   ·have hI:Hid (∀ W,Below w.heap.size w W→Calls Tryz.prog 15 #[.slice HA hn hc,.slice RA rn rc,.slice MA mn mc] W fun e w'=>e=.returned (.tuple #[.slice none 0 0,.int .i64 (ifE H rn)])∧Below W.heap.size W w'):=Lib.hid fun W hW=>(infer_any H HA hn hc R RA rn rc M MA mn mc W (hT.out.bel hW) (hRl.out.bel hW) (hMl.out.bel hW) hch.out (by have:=hn40.out;omega) (fun s hs=>by have:=hH60.out s hs;omega) (fun r hr s hs=>by have:=(hR60.out r hr).2 s hs;omega) (by have:=rn40.out;omega) (by have:=mn40.out;omega) (fun s hs=>by have:=hM60.out s hs;omega)).mono fun e w' h=>h.elim (fun h=>h.2) (fun h=>absurd h.1 hE)
    have hJ:Hid (∀ W,Below w.heap.size w W→Calls Tryz.prog 16 #[.slice HA hn hc,.slice RA rn rc,.slice MA mn mc] W fun e w'=>e=.returned (.tuple #[.slice none 0 0,.int .i64 (ifE H rn)])∧Below W.heap.size W w'):=Lib.hid fun W hW=>(rinfer_any H HA hn hc R RA rn rc M MA mn mc W (hT.out.bel hW) (hRl.out.bel hW) (hMl.out.bel hW) hch.out (by have:=hn40.out;omega) (fun s hs=>by have:=hH60.out s hs;omega) (fun r hr s hs=>by have:=(hR60.out r hr).2 s hs;omega) (by have:=rn40.out;omega) (by have:=mn40.out;omega) (fun s hs=>by have:=hM60.out s hs;omega)).mono fun e w' h=>h.elim (fun h=>h.2) (fun h=>absurd h.1 hE)
    clear hE
    generalize ifE H rn=ze at *
    go_wp2_with fail
    refine (hI.out _ B.out).mono ?_
    rintro e w6 ⟨rfl,bb⟩
    replace B:=Lib.hid (B.out.trans (bb.mono B.out.size))
    clear bb
    go_wp2_with fail
    refine (hJ.out _ B.out).mono ?_
    rintro e w7 ⟨rfl,bb⟩
    replace B:=Lib.hid (B.out.trans (bb.mono B.out.size))
    clear bb
    go_wp2_with fail
    refine (hA.out _).mono ?_
    rintro e w8 ⟨rfl,bb⟩
    replace B:=Lib.hid (B.out.trans (bb.mono B.out.size))
    clear bb
    go_wp2_with fail
    refine (sameFields_yes none none 0 0 0 [] [] _ (LR.nil_ _ _ _) (LR.nil_ _ _ _) (fun q x y h=>by cases h) (by omega) (fun x hx=>by cases hx) (fun x hx=>by cases hx)).mono ?_
    rintro e w9 ⟨rfl,bb⟩
    replace B:=Lib.hid (B.out.trans (bb.mono B.out.size))
    clear bb
    go_wp2
    go_ret
    exact⟨rfl,B.out⟩
end Go.Proofs.YtdeedofmflelfaaGreatDoor
