/- withPoint and Decimal of rational. Decimal of rational. awake of the laws of rational. Floor of rational. Are two lists equal? slices.Equal and the reference's Same, both ways. Compare of rational. -/
import Derived.Test.YtdeedofmflelfaaGreatDoorQRjz
import Derived.Test.YtdeedofmflelfaaGreatDoorQRlz
import Derived.Test.YtdeedofmflelfaaGreatDoorDr
import Derived.Test.YtdeedofmflelfaaGreatDoorQRcz
import Derived.Test.YtdeedofmflelfaaGreatDoorQRgz
import Derived.Test.YtdeedofmflelfaaGreatDoorIp
import Derived.Test.YtdeedofmflelfaaGreatDoorQWez
import Derived.Test.YtdeedofmflelfaaGreatDoorTh
import Derived.Test.YtdeedofmflelfaaGreatDoorQIlz
import Derived.Test.YtdeedofmflelfaaGreatDoorSi
namespace Go.Proofs.YtdeedofmflelfaaGreatDoor
open Go.RowKit RQ
/-- Zeros ahead, so that p digits and one more are there. -/
def pad0 (l:List UInt8) (p:Nat):List UInt8:=List.replicate (p+1-l.length) 48++l
/-- The point p digits from the end. -/
def wp (l:List UInt8) (p:Nat):List UInt8:=if p=0 then l else (pad0 l p).take ((pad0 l p).length-p)++46::(pad0 l p).drop ((pad0 l p).length-p)
theorem ex_take (l:List UInt8) (k:Nat) (h:k≤l.length):(bs l).extract 0 k=bs (l.take k):=by
 have:=extract_bef (l.take k) (l.drop k)
 rwa [List.take_append_drop,List.length_take,Nat.min_eq_left h] at this
theorem ex_drop (l:List UInt8) (k:Nat) (h:k≤l.length):(bs l).extract k (bs l).size=bs (l.drop k):=by
 have:=extract_aft (l.take k) (l.drop k)
 rwa [List.take_append_drop,List.length_take,Nat.min_eq_left h] at this
end Go.Proofs.YtdeedofmflelfaaGreatDoor

namespace Go.Proofs.YtdeedofmflelfaaGreatDoor
open Go.RowKit RQ
end Go.Proofs.YtdeedofmflelfaaGreatDoor

namespace Go.Proofs.YtdeedofmflelfaaGreatDoor
open Go.RowKit RQ
end Go.Proofs.YtdeedofmflelfaaGreatDoor

namespace Go.Proofs.YtdeedofmflelfaaGreatDoor
open Go.RowKit RQ
end Go.Proofs.YtdeedofmflelfaaGreatDoor

namespace Go.Proofs.YtdeedofmflelfaaGreatDoor
open Go.RowKit
theorem ne_len {xs ys:List Nat} {n n':Nat} (h:xs.length=n) (h':ys.length=n') (hn:n≠n'):decide (xs=ys)=false:=decide_eq_false (by rintro rfl;omega)
theorem ne_at {xs ys:List Nat} {k:Nat} (h:xs.getD k 0≠ys.getD k 0):decide (xs=ys)=false:=decide_eq_false (by rintro rfl;exact h rfl)
theorem take_eq {xs ys:List Nat} {k:Nat} (h:xs.take k=ys.take k) (hk:k<xs.length) (hk':k<ys.length) (he:xs.getD k 0=ys.getD k 0):xs.take (k+1)=ys.take (k+1):=by
 rw[List.take_succ_eq_append_getElem hk,List.take_succ_eq_append_getElem hk',h]
 simp[List.getD_eq_getElem?_getD,List.getElem?_eq_getElem hk,List.getElem?_eq_getElem hk'] at he
 rw[he]
theorem all_eq {xs ys:List Nat} {n:Nat} (h:xs.take n=ys.take n) (h1:xs.length=n) (h2:ys.length=n):decide (xs=ys)=true:=decide_eq_true (by
 rw[←h1,List.take_length,h1,←h2,List.take_length] at h;exact h)
set_option maxHeartbeats 1000000 in
theorem same1_any (A:Option Addr) (n c:Nat) (A':Option Addr) (n' c':Nat) (xs ys:List Nat) (w:World)
  (h1:Rd w A n c xs) (h2:Rd w A' n' c' ys) (hn:n≤100000) (hn':n'≤100000) :
  Calls Tryz.prog 53 #[.slice A n c,.slice A' n' c'] w fun e w'=>e=.returned (.bool (decide (xs=ys)))∧Below w.heap.size w w':=by
 by_cases hnn:n=n'
 ·subst hnn
  replace h1:=Lib.hid h1
  replace h2:=Lib.hid h2
  go_enter Tryz.func53,Tryz.ntmps53
  go_wp2
  go_loopw [5] (fun iv wr=>∃ (k m:Nat),k≤n∧iv=.int .i64 k∧wr=w.drewN m∧xs.take k=ys.take k) (fun iv _=>n-(intOf iv).toNat)
  case atStart=>exact⟨0,0,Nat.zero_le _,rfl,rfl,by simp⟩
  case round=>
   obtain⟨k,m,hk,rfl,rfl,ht⟩:=hrel
   replace ht:=Lib.hid ht
   by_cases hlt:k<n
   ·obtain⟨b1,o1,x1,rfl,hb1,hx1,hxe,hcx⟩:=h1.out.at_ hlt
    obtain⟨b2,o2,y1,rfl,hb2,hy1,hye,hcy⟩:=h2.out.at_ hlt
    have g1:(0:Int)≤(k:Int):=by omega
    have g2:(k:Int)<(n:Int):=by omega
    by_cases hxy:x1=y1
    ·have ht':Hid (xs.take (k+1)=ys.take (k+1)):=Lib.hid (take_eq ht.out (by rw[h1.out.len];exact hlt) (by rw[h2.out.len];exact hlt) (by rw[hxe,hye,hxy]))
     clear hxe hye
     subst hxy
     have hq:((x1:Int) != (x1:Int))=false:=by simp
     go_wp2
     go_quiet (fail)
     go_wp2
     go_roundw
     case rel=>exact⟨k+1,_,by omega,by go_num,rfl,ht'.out⟩
     case measure=>simp[intOf];omega
    ·have hf:Hid (decide (xs=ys)=false):=Lib.hid (ne_at (k:=k) (by rw[hxe,hye];exact hxy))
     have hq:((x1:Int) != (y1:Int))=true:=by simp;omega
     clear hxe hye ht
     go_wp2
     go_quiet (fail)
     go_wp2
     go_ret
     rw[hf.out]
     exact⟨rfl,below_drewN (below_drewN (Below.refl _ _) _) _⟩
   ·have ek:k=n:=by omega
    have hf:Hid (decide (xs=ys)=true):=Lib.hid (all_eq (n:=n) (ek ▸ ht.out) h1.out.len h2.out.len)
    clear ek
    clear ht
    go_wp2
    go_ret
    rw[hf.out]
    exact⟨rfl,below_drewN (Below.refl _ _) _⟩
 ·have hf:Hid (decide (xs=ys)=false):=Lib.hid (ne_len h1.len h2.len hnn)
  have B:=Lib.hid (Below.refl w.heap.size w)
  clear h1 h2
  go_enter Tryz.func53,Tryz.ntmps53
  go_wp2
  go_ret
  rw[hf.out]
  exact⟨rfl,B.out⟩
end Go.Proofs.YtdeedofmflelfaaGreatDoor

namespace Go.Proofs.YtdeedofmflelfaaGreatDoor
open Go.RowKit RQ
end Go.Proofs.YtdeedofmflelfaaGreatDoor
