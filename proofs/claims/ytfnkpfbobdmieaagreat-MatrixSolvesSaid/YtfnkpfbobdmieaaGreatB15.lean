/- Rational numbers and intervals that came in. -/
import Derived.WalkKit
import Derived.ProofKit
import Derived.OpenShut
import Derived.ShutString
import Derived.ChangeOld
import Derived.Below
import Derived.Lib.SmallJoins
import Derived.Test.YtfnkpfbobdmieaaGreatRows
import Derived.Test.YtfnkpfbobdmieaaGreatB02
set_option maxRecDepth 100000
set_option maxHeartbeats 40000000
set_option linter.unusedVariables false
namespace Go.Proofs.YtfnkpfbobdmieaaGreat
open Go.ChangeShapes Go.WideShapes Go.ChangeAt Go.RowKit Go.Joins Go.Deep
theorem own:ownKnob Tryz.prog.godebug=none:=by kernel_rfl
theorem laidOut:laidOutB Tryz.prog=true:=by kernel_rfl
theorem cApi:Tryz.prog.cellsOf 43=2:=by kernel_rfl
theorem cRat:Tryz.prog.cellsOf 45=3:=by kernel_rfl
theorem cRow:Tryz.prog.cellsOf 41=1:=by kernel_rfl
theorem cBool:Tryz.prog.cellsOf 4=1:=by kernel_rfl
theorem open_limbs {H:Type} {enc:TypeId×Value→H} {W:World} {n:Nat} {v:Value} {x:DataW H×List MemPlace} (h:DataW.trod enc Tryz.prog W 0 (fun _=>true) true n 41 [v]=some x) :
  ∃ (a:Option Addr) (len cap:Nat) (xs:List Nat),v=.slice a len cap∧Rd W a len cap xs∧len≤9223372036854775807:=by
 rcases open_ints Tryz.underlying41 Tryz.underlying91 (by kernel_rfl) h with ⟨hcs,_⟩ | ⟨x,l,c,zs,hcs,_,hl,hm,hz,_,hcell,hwz⟩
 ·obtain rfl:v=.slice none 0 0:=by simpa using hcs
  exact⟨none,0,0,[],rfl,Rd.nil_ _ _ _,by omega⟩
 ·obtain rfl:v=.slice (some x) l c:=by simpa using hcs
  obtain⟨xs,R,m⟩:=rd_of_row (w:=W) (a:=some x) (len:=l) (cap:=c) (zs:=zs) (.inr ⟨x,rfl,hl,hm,by simpa using hz,hcell,hwz⟩)
  exact⟨some x,l,c,xs,rfl,R,m⟩
theorem open_rat_cells {H:Type} {enc:TypeId×Value→H} {W:World} {n:Nat} {c0 c1 c2:Value} {x:DataW H×List MemPlace} (h:DataW.trod enc Tryz.prog W 0 (fun _=>true) true n 45 [c0,c1,c2]=some x) :
  ∃ (b:Bool) (a:Option Addr) (len cap:Nat) (xs:List Nat) (a':Option Addr) (len' cap':Nat) (ds:List Nat),c0=.bool b∧c1=.slice a len cap∧c2=.slice a' len' cap'∧Rd W a len cap xs∧len≤9223372036854775807∧Rd W a' len' cap' ds∧len'≤9223372036854775807:=by
 obtain⟨y0,y1,n,hx,_,h0,h1⟩:=trod_struct2 Tryz.underlying45 h;have h0':DataW.trod enc Tryz.prog W 0 (fun _=>true) true n 43 [c0,c1]=some y0:=by simpa [Value.cells,cApi,cRow] using h0
 have h1':DataW.trod enc Tryz.prog W 0 (fun _=>true) true n 41 [c2]=some y1:=by simpa [Value.cells,cApi,cRow] using h1
 obtain⟨z0,z1,m,hz,_,k0,k1⟩:=trod_struct2 Tryz.underlying43 h0';have k0':DataW.trod enc Tryz.prog W 0 (fun _=>true) true m 4 [c0]=some z0:=by simpa [cBool,cRow] using k0
 have k1':DataW.trod enc Tryz.prog W 0 (fun _=>true) true m 41 [c1]=some z1:=by simpa [cBool,cRow] using k1
 obtain⟨b,e1,_⟩:=DataW.trod_bool Tryz.underlying4 k0';obtain rfl:c0=.bool b:=by simpa using e1
 obtain⟨a,len,cap,xs,rfl,R1,m1⟩:=open_limbs k1';obtain⟨a',len',cap',ds,rfl,R2,m2⟩:=open_limbs h1';exact⟨b,a,len,cap,xs,a',len',cap',ds,rfl,rfl,rfl,R1,m1,R2,m2⟩
end Go.Proofs.YtfnkpfbobdmieaaGreat
