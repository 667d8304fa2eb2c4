/- Cells of a block, several at a time. -/
import Derived.Test.YtfnkpfbobdmieaaGreatB04
import Derived.WalkKit
import Derived.ProofKit
import Derived.OpenShut
import Derived.ShutString
import Derived.ChangeOld
import Derived.Below
import Derived.Lib.SmallJoins
import Derived.Test.YtfnkpfbobdmieaaGreatRows
import Derived.Test.YtfnkpfbobdmieaaGreatB02
set_option maxRecDepth 100000
set_option maxHeartbeats 40000000
namespace Go.Proofs.YtfnkpfbobdmieaaGreat
open Go.RowKit
section
variable {w W:World} {bs:List (Nat×Array Value×Nat)} {rs:List (Option Addr×Nat×Nat×List Nat)}
section
variable {w W:World} {bs:List (Nat×Array Value×Nat)} {rs:List (Option Addr×Nat×Nat×List Nat)}
theorem St.c2 (h:St w W bs rs) (k:Nat) {g t:Nat} {v0 v1:Value} (hk:bs[k]?=some (g,#[v0,v1],t)):W.cell? ⟨g,0,none⟩=some v0∧W.cell? ⟨g,1,none⟩=some v1:=⟨h.cl k 0 hk rfl,h.cl k 1 hk rfl⟩
theorem St.cf2 (h:St w W bs rs) (k:Nat) {g t:Nat} {v0 v1:Value} (hk:bs[k]?=some (g,#[v0,v1],t)):W.cell? ⟨g,0,none⟩=some v0∧W.cell? ⟨g,1,none⟩=some v1∧W.frozen? ⟨g,0,none⟩=false∧W.frozen? ⟨g,1,none⟩=false:=⟨h.cl k 0 hk rfl,h.cl k 1 hk rfl,h.f k 0 hk,h.f k 1 hk⟩
theorem St.c3 (h:St w W bs rs) (k:Nat) {g t:Nat} {v0 v1 v2:Value} (hk:bs[k]?=some (g,#[v0,v1,v2],t)):W.cell? ⟨g,0,none⟩=some v0∧W.cell? ⟨g,1,none⟩=some v1∧W.cell? ⟨g,2,none⟩=some v2:=⟨h.cl k 0 hk rfl,h.cl k 1 hk rfl,h.cl k 2 hk rfl⟩
theorem St.cf3 (h:St w W bs rs) (k:Nat) {g t:Nat} {v0 v1 v2:Value} (hk:bs[k]?=some (g,#[v0,v1,v2],t)):W.cell? ⟨g,0,none⟩=some v0∧W.cell? ⟨g,1,none⟩=some v1∧W.cell? ⟨g,2,none⟩=some v2∧W.frozen? ⟨g,0,none⟩=false∧W.frozen? ⟨g,1,none⟩=false∧W.frozen? ⟨g,2,none⟩=false:=⟨h.cl k 0 hk rfl,h.cl k 1 hk rfl,h.cl k 2 hk rfl,h.f k 0 hk,h.f k 1 hk,h.f k 2 hk⟩
theorem St.c6 (h:St w W bs rs) (k:Nat) {g t:Nat} {v0 v1 v2 v3 v4 v5:Value} (hk:bs[k]?=some (g,#[v0,v1,v2,v3,v4,v5],t)):W.cell? ⟨g,0,none⟩=some v0∧W.cell? ⟨g,1,none⟩=some v1∧W.cell? ⟨g,2,none⟩=some v2∧W.cell? ⟨g,3,none⟩=some v3∧W.cell? ⟨g,4,none⟩=some v4∧W.cell? ⟨g,5,none⟩=some v5:=⟨h.cl k 0 hk rfl,h.cl k 1 hk rfl,h.cl k 2 hk rfl,h.cl k 3 hk rfl,h.cl k 4 hk rfl,h.cl k 5 hk rfl⟩
theorem St.c9 (h:St w W bs rs) (k:Nat) {g t:Nat} {v0 v1 v2 v3 v4 v5 v6 v7 v8:Value} (hk:bs[k]?=some (g,#[v0,v1,v2,v3,v4,v5,v6,v7,v8],t)):W.cell? ⟨g,0,none⟩=some v0∧W.cell? ⟨g,1,none⟩=some v1∧W.cell? ⟨g,2,none⟩=some v2∧W.cell? ⟨g,3,none⟩=some v3∧W.cell? ⟨g,4,none⟩=some v4∧W.cell? ⟨g,5,none⟩=some v5∧W.cell? ⟨g,6,none⟩=some v6∧W.cell? ⟨g,7,none⟩=some v7∧W.cell? ⟨g,8,none⟩=some v8:=⟨h.cl k 0 hk rfl,h.cl k 1 hk rfl,h.cl k 2 hk rfl,h.cl k 3 hk rfl,h.cl k 4 hk rfl,h.cl k 5 hk rfl,h.cl k 6 hk rfl,h.cl k 7 hk rfl,h.cl k 8 hk rfl⟩
theorem St.c12 (h:St w W bs rs) (k:Nat) {g t:Nat} {v0 v1 v2 v3 v4 v5 v6 v7 v8 v9 v10 v11:Value} (hk:bs[k]?=some (g,#[v0,v1,v2,v3,v4,v5,v6,v7,v8,v9,v10,v11],t)):W.cell? ⟨g,0,none⟩=some v0∧W.cell? ⟨g,1,none⟩=some v1∧W.cell? ⟨g,2,none⟩=some v2∧W.cell? ⟨g,3,none⟩=some v3∧W.cell? ⟨g,4,none⟩=some v4∧W.cell? ⟨g,5,none⟩=some v5∧W.cell? ⟨g,6,none⟩=some v6∧W.cell? ⟨g,7,none⟩=some v7∧W.cell? ⟨g,8,none⟩=some v8∧W.cell? ⟨g,9,none⟩=some v9∧W.cell? ⟨g,10,none⟩=some v10∧W.cell? ⟨g,11,none⟩=some v11:=⟨h.cl k 0 hk rfl,h.cl k 1 hk rfl,h.cl k 2 hk rfl,h.cl k 3 hk rfl,h.cl k 4 hk rfl,h.cl k 5 hk rfl,h.cl k 6 hk rfl,h.cl k 7 hk rfl,h.cl k 8 hk rfl,h.cl k 9 hk rfl,h.cl k 10 hk rfl,h.cl k 11 hk rfl⟩
end
theorem Cb.c6 {W:World} {g t:Nat} {v0 v1 v2 v3 v4 v5:Value} (h:Cb W g #[v0,v1,v2,v3,v4,v5] t):W.cell? ⟨g,0,none⟩=some v0∧W.cell? ⟨g,1,none⟩=some v1∧W.cell? ⟨g,2,none⟩=some v2∧W.cell? ⟨g,3,none⟩=some v3∧W.cell? ⟨g,4,none⟩=some v4∧W.cell? ⟨g,5,none⟩=some v5:=⟨h.cell rfl,h.cell rfl,h.cell rfl,h.cell rfl,h.cell rfl,h.cell rfl⟩
end
end Go.Proofs.YtfnkpfbobdmieaaGreat
namespace Go.Proofs.YtfnkpfbobdmieaaGreat
open Go.ChangeShapes Go.WideShapes Go.ChangeAt Go.RowKit Go.Joins Go.Deep
theorem own:ownKnob Tryz.prog.godebug=none:=by kernel_rfl
theorem laidOut:laidOutB Tryz.prog=true:=by kernel_rfl
theorem cApi:Tryz.prog.cellsOf 43=2:=by kernel_rfl
theorem cRat:Tryz.prog.cellsOf 45=3:=by kernel_rfl
theorem cRow:Tryz.prog.cellsOf 41=1:=by kernel_rfl
theorem cBool:Tryz.prog.cellsOf 4=1:=by kernel_rfl
theorem open_limbs {H:Type} {enc:TypeId×Value→H} {W:World} {n:Nat} {v:Value} {x:DataW H×List MemPlace} (h:DataW.trod enc Tryz.prog W 0 (fun _=>true) true n 41 [v]=some x) :
  ∃ (a:Option Addr) (len cap:Nat) (xs:List Nat),v=.slice a len cap∧Rd W a len cap xs∧len≤9223372036854775807:=by
 rcases open_ints Tryz.underlying41 Tryz.underlying91 (by kernel_rfl) h with ⟨hcs,_⟩ | ⟨x,l,c,zs,hcs,_,hl,hm,hz,_,hcell,hwz⟩
 ·obtain rfl:v=.slice none 0 0:=by simpa using hcs
  exact⟨none,0,0,[],rfl,Rd.nil_ _ _ _,by omega⟩
 ·obtain rfl:v=.slice (some x) l c:=by simpa using hcs
  obtain⟨xs,R,m⟩:=rd_of_row (w:=W) (a:=some x) (len:=l) (cap:=c) (zs:=zs) (.inr ⟨x,rfl,hl,hm,by simpa using hz,hcell,hwz⟩)
  exact⟨some x,l,c,xs,rfl,R,m⟩
theorem open_rat_cells {H:Type} {enc:TypeId×Value→H} {W:World} {n:Nat} {c0 c1 c2:Value} {x:DataW H×List MemPlace} (h:DataW.trod enc Tryz.prog W 0 (fun _=>true) true n 45 [c0,c1,c2]=some x) :
  ∃ (b:Bool) (a:Option Addr) (len cap:Nat) (xs:List Nat) (a':Option Addr) (len' cap':Nat) (ds:List Nat),c0=.bool b∧c1=.slice a len cap∧c2=.slice a' len' cap'∧Rd W a len cap xs∧len≤9223372036854775807∧Rd W a' len' cap' ds∧len'≤9223372036854775807:=by
 obtain⟨y0,y1,n,hx,_,h0,h1⟩:=trod_struct2 Tryz.underlying45 h;have h0':DataW.trod enc Tryz.prog W 0 (fun _=>true) true n 43 [c0,c1]=some y0:=by simpa [Value.cells,cApi,cRow] using h0
 have h1':DataW.trod enc Tryz.prog W 0 (fun _=>true) true n 41 [c2]=some y1:=by simpa [Value.cells,cApi,cRow] using h1
 obtain⟨z0,z1,m,hz,_,k0,k1⟩:=trod_struct2 Tryz.underlying43 h0';have k0':DataW.trod enc Tryz.prog W 0 (fun _=>true) true m 4 [c0]=some z0:=by simpa [cBool,cRow] using k0
 have k1':DataW.trod enc Tryz.prog W 0 (fun _=>true) true m 41 [c1]=some z1:=by simpa [cBool,cRow] using k1
 obtain⟨b,e1,_⟩:=DataW.trod_bool Tryz.underlying4 k0';obtain rfl:c0=.bool b:=by simpa using e1
 obtain⟨a,len,cap,xs,rfl,R1,m1⟩:=open_limbs k1';obtain⟨a',len',cap',ds,rfl,R2,m2⟩:=open_limbs h1';exact⟨b,a,len,cap,xs,a',len',cap',ds,rfl,rfl,rfl,R1,m1,R2,m2⟩
end Go.Proofs.YtfnkpfbobdmieaaGreat
