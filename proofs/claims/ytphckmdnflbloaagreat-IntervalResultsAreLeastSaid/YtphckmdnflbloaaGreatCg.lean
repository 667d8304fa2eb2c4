/- Rational numbers and intervals that came in. -/
import Derived.Test.YtphckmdnflbloaaGreatRows
import Derived.Test.YtphckmdnflbloaaGreatQWjz
import Derived.WalkKit
import Derived.ProofKit
import Derived.OpenShut
import Derived.ShutString
import Derived.ChangeOld
import Derived.Below
import Derived.Lib.SmallJoins
namespace Go.Proofs.YtphckmdnflbloaaGreat
open Go.ChangeShapes Go.WideShapes Go.ChangeAt Go.RowKit Go.Joins Go.Deep
theorem own:ownKnob Tryz.prog.godebug=none:=by kernel_rfl
theorem laidOut:laidOutB Tryz.prog=true:=by kernel_rfl
theorem cApi:Tryz.prog.cellsOf 24=2:=by kernel_rfl
theorem cRat:Tryz.prog.cellsOf 26=3:=by kernel_rfl
theorem cRow:Tryz.prog.cellsOf 22=1:=by kernel_rfl
theorem cBool:Tryz.prog.cellsOf 4=1:=by kernel_rfl
theorem open_limbs {H:Type} {enc:TypeId×Value→H} {W:World} {n:Nat} {v:Value} {x:DataW H×List MemPlace} (h:DataW.trod enc Tryz.prog W 0 (fun _=>true) true n 22 [v]=some x) :
  ∃ (a:Option Addr) (len cap:Nat) (xs:List Nat),v=.slice a len cap∧Rd W a len cap xs∧len≤9223372036854775807:=by
 rcases open_ints Tryz.underlying22 Tryz.underlying119 (by kernel_rfl) h with ⟨hcs,_⟩ | ⟨x,l,c,zs,hcs,_,hl,hm,hz,_,hcell,hwz⟩
 ·obtain rfl:v=.slice none 0 0:=by simpa using hcs
  exact⟨none,0,0,[],rfl,Rd.nil_ _ _ _,by omega⟩
 ·obtain rfl:v=.slice (some x) l c:=by simpa using hcs
  obtain⟨xs,R,m⟩:=rd_of_row (w:=W) (a:=some x) (len:=l) (cap:=c) (zs:=zs) (.inr ⟨x,rfl,hl,hm,by simpa using hz,hcell,hwz⟩)
  exact⟨some x,l,c,xs,rfl,R,m⟩
set_option maxRecDepth 100000 in
theorem open_rat {H:Type} {enc:TypeId×Value→H} {W:World} {b0:Nat} {r:Reach} {v:Value} {d:DataW H} {p:List MemPlace}
  (hv:Value.okWide Tryz.prog W r b0 26 v) (h:DataW.Trod enc Tryz.prog W 0 (fun _=>true) true 26 v d p) :
  ∃ (b:Bool) (a:Option Addr) (len cap:Nat) (xs:List Nat) (a':Option Addr) (len' cap':Nat) (ds:List Nat),v=.agg #[.bool b,.slice a len cap,.slice a' len' cap']∧Rd W a len cap xs∧len≤9223372036854775807∧Rd W a' len' cap' ds∧len'≤9223372036854775807:=by
 obtain⟨cs,rfl,hsz⟩:=okWide_struct Tryz.underlying26 hv
 obtain⟨c0,c1,c2,rfl⟩:=array3 (hsz.trans cRat)
 obtain⟨fuel,hf⟩:=h
 obtain⟨y0,y1,n,hx,_,h0,h1⟩:=trod_struct2 Tryz.underlying26 hf
 have h0':DataW.trod enc Tryz.prog W 0 (fun _=>true) true n 24 [c0,c1]=some y0:=by simpa [Value.cells,cApi,cRow] using h0
 have h1':DataW.trod enc Tryz.prog W 0 (fun _=>true) true n 22 [c2]=some y1:=by simpa [Value.cells,cApi,cRow] using h1
 obtain⟨z0,z1,m,hz,_,k0,k1⟩:=trod_struct2 Tryz.underlying24 h0'
 have k0':DataW.trod enc Tryz.prog W 0 (fun _=>true) true m 4 [c0]=some z0:=by simpa [cBool,cRow] using k0
 have k1':DataW.trod enc Tryz.prog W 0 (fun _=>true) true m 22 [c1]=some z1:=by simpa [cBool,cRow] using k1
 obtain⟨b,e1,_⟩:=DataW.trod_bool Tryz.underlying4 k0'
 obtain rfl:c0=.bool b:=by simpa using e1
 obtain⟨a,len,cap,xs,rfl,R1,m1⟩:=open_limbs k1'
 obtain⟨a',len',cap',ds,rfl,R2,m2⟩:=open_limbs h1'
 exact⟨b,a,len,cap,xs,a',len',cap',ds,rfl,R1,m1,R2,m2⟩
theorem array6 {cs:Array Value} (h:cs.size=6):∃ c0 c1 c2 c3 c4 c5,cs=#[c0,c1,c2,c3,c4,c5]:=by
 obtain⟨l⟩:=cs
 match l,h with
 | [c0,c1,c2,c3,c4,c5],_=>exact⟨c0,c1,c2,c3,c4,c5,rfl⟩
theorem cItv:Tryz.prog.cellsOf 28=6:=by kernel_rfl
set_option maxRecDepth 100000 in
theorem open_rat_cells {H:Type} {enc:TypeId×Value→H} {W:World} {n:Nat} {c0 c1 c2:Value} {x:DataW H×List MemPlace} (h:DataW.trod enc Tryz.prog W 0 (fun _=>true) true n 26 [c0,c1,c2]=some x) :
  ∃ (b:Bool) (a:Option Addr) (len cap:Nat) (xs:List Nat) (a':Option Addr) (len' cap':Nat) (ds:List Nat),c0=.bool b∧c1=.slice a len cap∧c2=.slice a' len' cap'∧Rd W a len cap xs∧len≤9223372036854775807∧Rd W a' len' cap' ds∧len'≤9223372036854775807:=by
 obtain⟨y0,y1,n,hx,_,h0,h1⟩:=trod_struct2 Tryz.underlying26 h
 have h0':DataW.trod enc Tryz.prog W 0 (fun _=>true) true n 24 [c0,c1]=some y0:=by simpa [Value.cells,cApi,cRow] using h0
 have h1':DataW.trod enc Tryz.prog W 0 (fun _=>true) true n 22 [c2]=some y1:=by simpa [Value.cells,cApi,cRow] using h1
 obtain⟨z0,z1,m,hz,_,k0,k1⟩:=trod_struct2 Tryz.underlying24 h0'
 have k0':DataW.trod enc Tryz.prog W 0 (fun _=>true) true m 4 [c0]=some z0:=by simpa [cBool,cRow] using k0
 have k1':DataW.trod enc Tryz.prog W 0 (fun _=>true) true m 22 [c1]=some z1:=by simpa [cBool,cRow] using k1
 obtain⟨b,e1,_⟩:=DataW.trod_bool Tryz.underlying4 k0'
 obtain rfl:c0=.bool b:=by simpa using e1
 obtain⟨a,len,cap,xs,rfl,R1,m1⟩:=open_limbs k1'
 obtain⟨a',len',cap',ds,rfl,R2,m2⟩:=open_limbs h1'
 exact⟨b,a,len,cap,xs,a',len',cap',ds,rfl,rfl,rfl,R1,m1,R2,m2⟩
set_option maxRecDepth 100000 in
theorem open_itv {H:Type} {enc:TypeId×Value→H} {W:World} {b0:Nat} {r:Reach} {v:Value} {d:DataW H} {p:List MemPlace}
  (hv:Value.okWide Tryz.prog W r b0 28 v) (h:DataW.Trod enc Tryz.prog W 0 (fun _=>true) true 28 v d p) :
  ∃ (b:Bool) (a:Option Addr) (len cap:Nat) (xs:List Nat) (a':Option Addr) (len' cap':Nat) (ds:List Nat) (bb:Bool) (aa:Option Addr) (ll cc:Nat) (ys:List Nat) (aa':Option Addr) (ll' cc':Nat) (es:List Nat),v=.agg #[.bool b,.slice a len cap,.slice a' len' cap',.bool bb,.slice aa ll cc,.slice aa' ll' cc'] ∧
   Rd W a len cap xs∧len≤9223372036854775807∧Rd W a' len' cap' ds∧len'≤9223372036854775807∧Rd W aa ll cc ys∧ll≤9223372036854775807∧Rd W aa' ll' cc' es∧ll'≤9223372036854775807:=by
 obtain⟨cs,rfl,hsz⟩:=okWide_struct Tryz.underlying28 hv
 obtain⟨c0,c1,c2,c3,c4,c5,rfl⟩:=array6 (hsz.trans cItv)
 obtain⟨fuel,hf⟩:=h
 obtain⟨y0,y1,n,hx,_,h0,h1⟩:=trod_struct2 Tryz.underlying28 hf
 have h0':DataW.trod enc Tryz.prog W 0 (fun _=>true) true n 26 [c0,c1,c2]=some y0:=by simpa [Value.cells,cRat] using h0
 have h1':DataW.trod enc Tryz.prog W 0 (fun _=>true) true n 26 [c3,c4,c5]=some y1:=by simpa [Value.cells,cRat] using h1
 obtain⟨b,a,len,cap,xs,a',len',cap',ds,rfl,rfl,rfl,R1,m1,R2,m2⟩:=open_rat_cells h0'
 obtain⟨bb,aa,ll,cc,ys,aa',ll',cc',es,rfl,rfl,rfl,R3,m3,R4,m4⟩:=open_rat_cells h1'
 exact⟨b,a,len,cap,xs,a',len',cap',ds,bb,aa,ll,cc,ys,aa',ll',cc',es,rfl,R1,m1,R2,m2,R3,m3,R4,m4⟩
end Go.Proofs.YtphckmdnflbloaaGreat
