/- Readers of numbers and of levels. The reader of levels. Cells that are added to a column of numbers. -/
import Derived.Test.YtdeedofmflelfaaGreatDoorQBmz
import Derived.Test.YtdeedofmflelfaaGreatDoorQKdz
import Derived.Test.YtdeedofmflelfaaGreatDoorQTkz
import Derived.Test.YtdeedofmflelfaaGreatDoorDr
namespace Go.Proofs.YtdeedofmflelfaaGreatDoor
open Go.RowKit RQ
set_option linter.unusedVariables false
theorem res_nr1 (W:World) (tmps:Array Value) (g t:Nat) {v0 v1 v2 v3 v4 e0:Value} (ht:tmps.getD 3 undef=.pointer (some ⟨g,0,none⟩)) (h0:tmps.getD 4 undef=e0) (h:Cb W g #[v0,v1,v2,v3,v4] t) :
  (results Tryz.f141 tmps).run Tryz.prog W=.ok (.tuple #[.agg #[v0,v1,v2,v3,v4],e0]) W:=by
 have c0:W.cell? ⟨g,0,none⟩=some v0:=h.cell rfl
 have c1:W.cell? ⟨g,1,none⟩=some v1:=h.cell rfl
 have c2:W.cell? ⟨g,2,none⟩=some v2:=h.cell rfl
 have c3:W.cell? ⟨g,3,none⟩=some v3:=h.cell rfl
 have c4:W.cell? ⟨g,4,none⟩=some v4:=h.cell rfl
 have ht':tmps[3]?.getD undef=.pointer (some ⟨g,0,none⟩):=by rw[←ht];simp[Array.getD_eq_getD_getElem?]
 have k0:tmps[4]?.getD undef=e0:=by rw[←h0];simp[Array.getD_eq_getD_getElem?]
 simp[results,Tryz.results141,go_sem,ht',k0,c0,c1,c2,c3,c4]
theorem res_lr1 (W:World) (tmps:Array Value) (g t:Nat) {v0 v1 v2 v3 v4 e0:Value} (ht:tmps.getD 3 undef=.pointer (some ⟨g,0,none⟩)) (h0:tmps.getD 4 undef=e0) (h:Cb W g #[v0,v1,v2,v3,v4] t) :
  (results Tryz.f143 tmps).run Tryz.prog W=.ok (.tuple #[.agg #[v0,v1,v2,v3,v4],e0]) W:=by
 have c0:W.cell? ⟨g,0,none⟩=some v0:=h.cell rfl
 have c1:W.cell? ⟨g,1,none⟩=some v1:=h.cell rfl
 have c2:W.cell? ⟨g,2,none⟩=some v2:=h.cell rfl
 have c3:W.cell? ⟨g,3,none⟩=some v3:=h.cell rfl
 have c4:W.cell? ⟨g,4,none⟩=some v4:=h.cell rfl
 have ht':tmps[3]?.getD undef=.pointer (some ⟨g,0,none⟩):=by rw[←ht];simp[Array.getD_eq_getD_getElem?]
 have k0:tmps[4]?.getD undef=e0:=by rw[←h0];simp[Array.getD_eq_getD_getElem?]
 simp[results,Tryz.results143,go_sem,ht',k0,c0,c1,c2,c3,c4]
theorem RQ.Rs.neg_ {q:Rat} {p:Nat} (h:Rs q p):Rs (-q) p:=⟨by show (-q.num).natAbs<_;rw[Int.natAbs_neg];exact h.n,h.d⟩
theorem pQ_size {s:ByteArray} (hs:s.size≤300):Rs (pQ s) 60:=by
 have h:=p1_size (s:=rest s) (by have:=rest_size s;omega)
 unfold pQ
 split
 ·exact h.neg_
 ·exact h
/-- The number of a field's unit. -/
def Fe.uq (x:Fe):Rat:=rv x.u.b x.u.x.x x.u.y.x
set_option maxRecDepth 100000 in
set_option maxHeartbeats 4000000 in
theorem nr1_no (x:Fe) (s:ByteArray) (u:Nat) (w:World) (hu:Cb w u #[.bool x.u.b,.slice x.u.x.A x.u.x.n x.u.x.c,.slice x.u.y.A x.u.y.n x.u.y.c] 46) (R1:Rd w x.u.x.A x.u.x.n x.u.x.c x.u.x.x) (R2:Rd w x.u.y.A x.u.y.n x.u.y.c x.u.y.x) (hx:LtF x) (hs:s.size≤300) (hp:pOk s=false):Calls Tryz.prog 141 #[.string s,.pointer (some ⟨u,0,none⟩)] w fun e w'=>e=.returned (.tuple #[.agg #[.bool false,.bool false,.slice none 0 0,.slice none 0 0,.int .i64 0],.int .i64 4])∧Below w.heap.size w w':=by
 have hP:Hid (∀ W,Calls Tryz.prog 89 #[.string s] W (RetRE (pQ s) (.bool (pOk s)) W)):=Lib.hid fun W=>parseR_any s W hs ((p1_size (s:=rest s) (by have:=rest_size s;omega)).mono (by decide))
 have ho:Hid (∀ W,Below w.heap.size w W→Cb W u #[.bool x.u.b,.slice x.u.x.A x.u.x.n x.u.x.c,.slice x.u.y.A x.u.y.n x.u.y.c] 46):=Lib.hid fun W h=>hu.bel h
 rw[hp] at hP
 clear R1 R2 hx hs hu hp
 have S:=((St.new w).allocAt (w.heap.size) #[.bool false,.bool false,.slice none 0 0,.slice none 0 0,.int .i64 0] 58 (noLof rfl) (by simp))
 replace S:=Lib.hid S
 have o_u0:=(ho.out _ S.out.bel).cell (i:=0) rfl
 have o_u1:=(ho.out _ S.out.bel).cell (i:=1) rfl
 have o_u2:=(ho.out _ S.out.bel).cell (i:=2) rfl
 go_enter Tryz.func141,Tryz.ntmps141
 go_wp2_with fail
 refine (hP.out _).mono ?_
 rintro e w1 ⟨A1,n1,c1,D1,m1,d1,rfl,Q1,bb⟩
 have T:=(((S.out.call bb).read Q1.n).read Q1.d)
 clear bb S o_u0 o_u1 o_u2
 have S:=T
 clear T
 have c_r0:=S.cl 0 0 rfl rfl
 have f_r0:=S.f 0 0 rfl
 have c_r1:=S.cl 0 1 rfl rfl
 have f_r1:=S.f 0 1 rfl
 have c_r2:=S.cl 0 2 rfl rfl
 have f_r2:=S.f 0 2 rfl
 have c_r3:=S.cl 0 3 rfl rfl
 have f_r3:=S.f 0 3 rfl
 have c_r4:=S.cl 0 4 rfl rfl
 have f_r4:=S.f 0 4 rfl
 have hz:w.heap.size<w1.heap.size:=S.lt 0 rfl
 replace S:=Lib.hid S
 have o_u0:=(ho.out _ S.out.bel).cell (i:=0) rfl
 have o_u1:=(ho.out _ S.out.bel).cell (i:=1) rfl
 have o_u2:=(ho.out _ S.out.bel).cell (i:=2) rfl
 clear Q1
 have S:St w _ [(w1.heap.size,#[.bool (ng (pQ s).num),.slice A1 n1 c1,.slice D1 m1 d1],46),(w.heap.size,#[.bool false,.bool false,.slice none 0 0,.slice none 0 0,.int .i64 0],58)] [(D1,m1,d1,dn (pQ s)),(A1,n1,c1,limbs (pQ s).num.natAbs)]:=((((((S.out.set 0 0 (.bool false) rfl (by nofun)).set 0 1 (.bool false) rfl (by nofun)).set 0 2 (.slice none 0 0) rfl (by nofun)).set 0 3 (.slice none 0 0) rfl (by nofun)).set 0 4 (.int .i64 0) rfl (by nofun)).allocAt (w1.heap.size) #[.bool (ng (pQ s).num),.slice A1 n1 c1,.slice D1 m1 d1] 46 (noLof rfl) (by simp))
 replace S:=Lib.hid S
 go_wp2
 refine bodyPost_ret (res_nr1 _ _ w.heap.size 58 rfl rfl (S.out.cb 1 rfl)) rfl ?_
 exact⟨rfl,S.out.bel⟩
set_option maxRecDepth 100000 in
set_option maxHeartbeats 4000000 in
theorem nr1_yes (x:Fe) (s:ByteArray) (u:Nat) (w:World) (hu:Cb w u #[.bool x.u.b,.slice x.u.x.A x.u.x.n x.u.x.c,.slice x.u.y.A x.u.y.n x.u.y.c] 46) (R1:Rd w x.u.x.A x.u.x.n x.u.x.c x.u.x.x) (R2:Rd w x.u.y.A x.u.y.n x.u.y.c x.u.y.x) (hx:LtF x) (hs:s.size≤300) (hp:pOk s=true):Calls Tryz.prog 141 #[.string s,.pointer (some ⟨u,0,none⟩)] w fun e w'=>∃ A n c D m d,e=.returned (.tuple #[.agg #[.bool false,.bool (ng (pQ s*x.uq).num),.slice A n c,.slice D m d,.int .i64 0],.int .i64 0])∧RR w' A n c D m d (pQ s*x.uq)∧Below w.heap.size w w':=by
 have hP:Hid (∀ W,Calls Tryz.prog 89 #[.string s] W (RetRE (pQ s) (.bool (pOk s)) W)):=Lib.hid fun W=>parseR_any s W hs ((p1_size (s:=rest s) (by have:=rest_size s;omega)).mono (by decide))
 have ho:Hid (∀ W,Below w.heap.size w W→Cb W u #[.bool x.u.b,.slice x.u.x.A x.u.x.n x.u.x.c,.slice x.u.y.A x.u.y.n x.u.y.c] 46):=Lib.hid fun W h=>hu.bel h
 rw[hp] at hP
 have hM:Hid (∀ W A n c D m d,Below w.heap.size w W→Rd W A n c (limbs (pQ s).num.natAbs)→Rd W D m d (dn (pQ s))→Calls Tryz.prog 142 #[.agg #[.bool (ng (pQ s).num),.slice A n c,.slice D m d],.agg #[.bool x.u.b,.slice x.u.x.A x.u.x.n x.u.x.c,.slice x.u.y.A x.u.y.n x.u.y.c]] W (RetR (pQ s*x.uq) W)):=Lib.hid fun W A n c D m d hb q1 q2=>by
  have l:=RR.lens ⟨q1,q2⟩ (pQ_size hs)
  have:=Rmul_any (ng (pQ s).num) A n c _ D m d _ x.u.b x.u.x.A x.u.x.n x.u.x.c x.u.x.x x.u.y.A x.u.y.n x.u.y.c x.u.y.x W q1 q2 (R1.below hb) (R2.below hb) (by omega) (by omega) (by have:=hx.2.2.2.1;omega) (by have:=hx.2.2.2.2;omega)
  rwa [rv_z] at this
 generalize pQ s*x.uq=q at *
 clear R1 R2 hx hs hu hp
 have S:=((St.new w).allocAt (w.heap.size) #[.bool false,.bool false,.slice none 0 0,.slice none 0 0,.int .i64 0] 58 (noLof rfl) (by simp))
 replace S:=Lib.hid S
 have o_u0:=(ho.out _ S.out.bel).cell (i:=0) rfl
 have o_u1:=(ho.out _ S.out.bel).cell (i:=1) rfl
 have o_u2:=(ho.out _ S.out.bel).cell (i:=2) rfl
 go_enter Tryz.func141,Tryz.ntmps141
 go_wp2_with fail
 refine (hP.out _).mono ?_
 rintro e w1 ⟨A1,n1,c1,D1,m1,d1,rfl,Q1,bb⟩
 have T:=(((S.out.call bb).read Q1.n).read Q1.d)
 clear bb S o_u0 o_u1 o_u2
 have S:=T
 clear T
 have c_r0:=S.cl 0 0 rfl rfl
 have f_r0:=S.f 0 0 rfl
 have c_r1:=S.cl 0 1 rfl rfl
 have f_r1:=S.f 0 1 rfl
 have c_r2:=S.cl 0 2 rfl rfl
 have f_r2:=S.f 0 2 rfl
 have c_r3:=S.cl 0 3 rfl rfl
 have f_r3:=S.f 0 3 rfl
 have c_r4:=S.cl 0 4 rfl rfl
 have f_r4:=S.f 0 4 rfl
 have hz:w.heap.size<w1.heap.size:=S.lt 0 rfl
 replace S:=Lib.hid S
 have o_u0:=(ho.out _ S.out.bel).cell (i:=0) rfl
 have o_u1:=(ho.out _ S.out.bel).cell (i:=1) rfl
 have o_u2:=(ho.out _ S.out.bel).cell (i:=2) rfl
 clear Q1
 have S:=(S.out.allocAt (w1.heap.size) #[.bool (ng (pQ s).num),.slice A1 n1 c1,.slice D1 m1 d1] 46 (noLof rfl) (by simp))
 replace S:=Lib.hid S
 clear o_u0 o_u1 o_u2
 have o_u0:=(ho.out _ S.out.bel).cell (i:=0) rfl
 have o_u1:=(ho.out _ S.out.bel).cell (i:=1) rfl
 have o_u2:=(ho.out _ S.out.bel).cell (i:=2) rfl
 go_wp2_with fail
 refine (hM.out _ A1 n1 c1 D1 m1 d1 S.out.bel (S.out.r 1 rfl) (S.out.r 0 rfl)).mono ?_
 rintro e w2 ⟨A2,n2,c2,D2,m2,d2,rfl,Q2,bb⟩
 have T:=(((S.out.call bb).read Q2.n).read Q2.d)
 clear bb S c_r0 f_r0 c_r1 f_r1 c_r2 f_r2 c_r3 f_r3 c_r4 f_r4 hz o_u0 o_u1 o_u2
 have S:=T
 clear T
 obtain⟨c_y0,c_y1,c_y2,f_y0,f_y1,f_y2⟩:=S.cf3 0 rfl
 have c_r0:=S.cl 1 0 rfl rfl
 have f_r0:=S.f 1 0 rfl
 have c_r1:=S.cl 1 1 rfl rfl
 have f_r1:=S.f 1 1 rfl
 have c_r2:=S.cl 1 2 rfl rfl
 have f_r2:=S.f 1 2 rfl
 have c_r3:=S.cl 1 3 rfl rfl
 have f_r3:=S.f 1 3 rfl
 have c_r4:=S.cl 1 4 rfl rfl
 have f_r4:=S.f 1 4 rfl
 have hz:w1.heap.size<w2.heap.size:=S.lt 0 rfl
 replace S:=Lib.hid S
 have o_u0:=(ho.out _ S.out.bel).cell (i:=0) rfl
 have o_u1:=(ho.out _ S.out.bel).cell (i:=1) rfl
 have o_u2:=(ho.out _ S.out.bel).cell (i:=2) rfl
 clear Q2
 have S:St w _ [(w1.heap.size,#[.bool (ng (pQ s).num),.slice A1 n1 c1,.slice D1 m1 d1],46),(w.heap.size,#[.bool false,.bool (ng q.num),.slice A2 n2 c2,.slice D2 m2 d2,.int .i64 0],58)] [(D2,m2,d2,dn q),(A2,n2,c2,limbs q.num.natAbs),(D1,m1,d1,dn (pQ s)),(A1,n1,c1,limbs (pQ s).num.natAbs)]:=(((((S.out.set 1 0 (.bool false) rfl (by nofun)).set 1 1 (.bool (ng q.num)) rfl (by nofun)).set 1 2 (.slice A2 n2 c2) rfl (by nofun)).set 1 3 (.slice D2 m2 d2) rfl (by nofun)).set 1 4 (.int .i64 0) rfl (by nofun))
 replace S:=Lib.hid S
 go_wp2
 refine bodyPost_ret (res_nr1 _ _ w.heap.size 58 rfl rfl (S.out.cb 1 rfl)) rfl ?_
 exact⟨_,_,_,_,_,_,rfl,⟨S.out.r 1 rfl,S.out.r 0 rfl⟩,S.out.bel⟩
end Go.Proofs.YtdeedofmflelfaaGreatDoor

namespace Go.Proofs.YtdeedofmflelfaaGreatDoor
open Go.RowKit RQ
set_option linter.unusedVariables false
section
variable {P:Program} {ops:Array Oper} {Q:Exit→Act→World→Prop} {S:World→Prop}
theorem Wk.two {i j:Nat} {oi oj:Oper} {L:Array Bool} {a:Act} {w:World} (hi:ops[i]?=some oi) (hj:ops[j]?=some oj) (hr:(((Region.ready .any ops L==[i,j])&&oi.guard.isNone)&&oj.guard.isNone)=true)
  (h1:∀ K':Act→World→Prop,Shut (∀ a w,S w→Wk P ops Q S (L.setIfInBounds i true) a w→K' a w)→Oper.wp P oi a w K' Q)
  (h2:∀ K':Act→World→Prop,Shut (∀ a w,S w→Wk P ops Q S (L.setIfInBounds j true) a w→K' a w)→Oper.wp P oj a w K' Q):Wk P ops Q S L a w:=by
 simp only[Bool.and_eq_true,beq_iff_eq] at hr
 obtain⟨⟨r,gi⟩,gj⟩:=hr
 refine Wk.all ⟨i,by rw[r];simp⟩ fun k hk=>?_
 rw[r] at hk
 rcases List.mem_cons.1 hk with rfl | hk
 ·exact wpOp_step hi (fun K' hK=>by rw[if_pos (wanted_none gi)];exact h1 K' (fun a w hS hW=>hK a w ⟨hS,hW⟩))
 ·have:=List.mem_singleton.1 hk
  subst this
  exact wpOp_step hj (fun K' hK=>by rw[if_pos (wanted_none gj)];exact h2 K' (fun a w hS hW=>hK a w ⟨hS,hW⟩))
end
theorem oper_call {P:Program} {o:Oper} {f:FuncId} {args:Array Value} {dst:Option Nat} {a:Act} {w:World} {K':Act→World→Prop} {Q:Exit→Act→World→Prop} (hd:o.dst=dst) (hx:(execOp a.eval o).run P w=.ok (.enter f args) w) (h:Calls P f args w fun e w'=>∃ v,e=.returned v∧K' (a.put dst v) w'):Oper.wp P o a w K' Q:=by
 subst hd
 unfold Oper.wp
 rw[hx]
 show Calls P f args w _
 refine h.mono ?_
 rintro e w' ⟨v,rfl,hk⟩
 exact hk
/-- A list of texts that grows, and the blocks in which it lies. -/
def OBt (ob:List GBk) (l:Sl ByteArray):Prop:=(strC.all l.L).length=l.L.length*1∧NoLl (strC.all l.L)∧OB ob 9 1 l.v l.L.length (strC.all l.L)
def OBc (w:World) (rs:List GRd) (ob:List GBk) (l:Sl Ce):Prop:=((ceC.all l.L).length=l.L.length*5∧NoLl (ceC.all l.L)∧OB ob 58 5 l.v l.L.length (ceC.all l.L))∧∀ y∈l.L,ceC.In w [] rs y
section
variable {w W:World} {bs ob:List GBk} {rs rs':List GRd}
theorem OBt.gro {l:Sl ByteArray} (h:OBt ob l) (S:St w W (bs++ob) rs):Gro strC w W bs rs 9 l.v l.L:=⟨Apd.close h S,fun x _=>trivial⟩
theorem OBt.lr {l:Sl ByteArray} (h:OBt ob l) (S:St w W (bs++ob) rs):LR strC W l.A l.L.length l.L∧l.L.length≤l.c:=by
 have G:=h.gro S
 obtain⟨A,c,hv,hl⟩:=G.lr
 injection hv with h1 h2 h3
 refine⟨by rw[h1];exact hl,?_⟩
 obtain⟨_,_,⟨hv,h0,_⟩ | ⟨g,cap,cur,hv,hle,_⟩⟩:=h
 ·omega
 ·injection hv with _ _ h5;omega
theorem Gro.opt {v:Value} {L:List ByteArray} (G:Gro strC w W bs rs 9 v L):∃ (l:Sl ByteArray) (ob:List GBk),v=l.v∧l.L=L∧OBt ob l∧St w W (bs++ob) rs:=by
 obtain⟨A,c,hv,hl⟩:=G.lr
 obtain⟨ob,h1,h2⟩:=G.1.open_
 exact⟨⟨A,c,L⟩,ob,hv,rfl,by subst hv;exact h1,h2⟩
theorem OBc.gro {l:Sl Ce} (h:OBc w rs ob l) (S:St w W (bs++ob) rs):Gro ceC w W bs rs 58 l.v l.L:=⟨Apd.close h.1 S,fun x hx=>ceC.mono (h.2 x hx) (fun p hp=>by cases hp) (fun p hp=>hp)⟩
theorem OBc.lr {l:Sl Ce} (h:OBc w rs ob l) (S:St w W (bs++ob) rs):LR ceC W l.A l.L.length l.L∧l.L.length≤l.c:=by
 have G:=h.gro S
 obtain⟨A,c,hv,hl⟩:=G.lr
 injection hv with h1 h2 h3
 refine⟨by rw[h1];exact hl,?_⟩
 obtain⟨⟨_,_,⟨hv,h0,_⟩ | ⟨g,cap,cur,hv,hle,_⟩⟩,_⟩:=h
 ·omega
 ·injection hv with _ _ h5;omega
theorem ce_in {bs:List GBk} {y:Ce}:ceC.In w bs rs y↔(((y.v.x.A,y.v.x.n,y.v.x.c,y.v.x.x)∈rs∨Rd w y.v.x.A y.v.x.n y.v.x.c y.v.x.x)∧((y.v.y.A,y.v.y.n,y.v.y.c,y.v.y.x)∈rs∨Rd w y.v.y.A y.v.y.n y.v.y.c y.v.y.x)):=
 ⟨fun h=>⟨h.2.1.2.1,h.2.1.2.2⟩,fun h=>⟨trivial,⟨trivial,h.1,h.2⟩,trivial⟩⟩
theorem Gro.opc {v:Value} {L:List Ce} (G:Gro ceC w W bs rs 58 v L):∃ (l:Sl Ce) (ob:List GBk),v=l.v∧l.L=L∧OBc w rs ob l∧St w W (bs++ob) rs:=by
 obtain⟨A,c,hv,hl⟩:=G.lr
 obtain⟨ob,h1,h2⟩:=G.1.open_
 exact⟨⟨A,c,L⟩,ob,hv,rfl,⟨by subst hv;exact h1,fun y hy=>ce_in.2 (ce_in.1 (G.2 y hy))⟩,h2⟩
theorem OBc.mono {l:Sl Ce} (h:OBc w rs ob l) (hr:∀ p∈rs,p∈rs'):OBc w rs' ob l:=⟨h.1,fun y hy=>ceC.mono (h.2 y hy) (fun _ h=>h) hr⟩
theorem St_elm {α:Type} {C:Cod α} {L:List α} {g t i:Nat} {x:α} (h:St w W bs rs) (k:Nat) (hk:bs[k]?=some (g,(C.all L).toArray,t)) (hi:L[i]?=some x) (m:Nat) {v:Value} (hv:(C.cs x)[m]?=some v):W.cell? ⟨g,i*C.sz+m,none⟩=some v:=
 (h.cb k hk).cell (by rw[List.getElem?_toArray];exact all_get (i:=i) C hi m v hv)
end
/-- What a level is read as: the error, the levels, the index. -/
def levX (L:List ByteArray) (s:ByteArray):Int×List ByteArray×Int:=if inB s L then (0,L,(L.findIdx (seB s):Nat)) else if L.length=32 then (2,L,0) else (0,L++[s],(L.length:Nat))
theorem ixf_idx {L:List ByteArray} {s:ByteArray} {z:Int} (h:IxF L (seB s) z) (hz:0≤z):inB s L=true∧z=(L.findIdx (seB s):Nat):=by
 rcases h with ⟨rfl,_⟩ | ⟨i,r,rfl,hr,hp,hall⟩
 ·omega
 ·obtain⟨hi,hri⟩:=List.getElem?_eq_some_iff.1 hr
  refine⟨List.any_eq_true.2 ⟨r,List.mem_of_getElem? hr,hp⟩,?_⟩
  have:L.findIdx (seB s)=i:=by
   rw[List.findIdx_eq hi]
   refine⟨by rw[hri];exact hp,fun j hj=>?_⟩
   have:=hall j L[j] hj (List.getElem?_eq_getElem (by omega))
   simpa using this
  rw[this]
theorem ixf_no {L:List ByteArray} {s:ByteArray} {z:Int} (h:IxF L (seB s) z) (hz:¬ 0≤z):inB s L=false∧z = -1:=by
 rcases h with ⟨rfl,h⟩ | ⟨i,r,rfl,_⟩
 ·exact⟨List.any_eq_false.2 fun x hx=>by rw[h x hx];simp,rfl⟩
 ·omega
theorem set_same {α:Type} {L:List α} {i:Nat} {x:α} (h:L[i]?=some x):L.set i x=L:=by
 apply List.ext_getElem?
 intro k
 by_cases e:i=k
 ·subst e;rw[List.getElem?_set_self (List.getElem?_eq_some_iff.1 h).1,h]
 ·rw[List.getElem?_set_ne e]
/-- New levels of a column. -/
theorem St_set2 {w W:World} {p q:GBk} {cb j:Nat} {Ls:List Cl} {c:Cl} {bs:List GBk} {rs:List GRd} (S:St w W (p::q::(cb,(clC.all Ls).toArray,56)::bs) rs) (hj:Ls[j]?=some c) (l:Sl ByteArray) :
  St w (W.setCell ⟨cb,j*4+2,none⟩ (.slice l.A l.L.length l.c)) (p::q::(cb,(clC.all (Ls.set j ⟨c.n,c.k,l,c.ce⟩)).toArray,56)::bs) rs:=by
 have:=S.set 2 (j*4+2) (.slice l.A l.L.length l.c) rfl (by intro z e;cases e)
 have e:(clC.all Ls).toArray.setIfInBounds (j*4+2) (.slice l.A l.L.length l.c)=(clC.all (Ls.set j ⟨c.n,c.k,l,c.ce⟩)).toArray:=by
  rw[←all_set1 clC hj (k:=2) (by decide) (x':=⟨c.n,c.k,l,c.ce⟩) (u:=.slice l.A l.L.length l.c) rfl];simp[cl_sz]
 rw[←e];exact this
set_option maxRecDepth 100000 in
set_option maxHeartbeats 4000000 in
theorem lr1_any (cb j u:Nat) (Ls:List Cl) (c:Cl) (s:ByteArray) (w0 w:World) (B ob:List GBk) (rs:List GRd) (S0:St w0 w (((cb,(clC.all Ls).toArray,56)::B)++ob) rs) (hj:Ls[j]?=some c) (hu:(u,#[.pointer (some ⟨cb,j*4,none⟩)],89)∈B) (hob:OBt ob c.lv) (hs:s.size≤1000) (hl:c.lv.L.length≤32):Calls Tryz.prog 143 #[.string s,.pointer (some ⟨u,0,none⟩)] w fun e w'=>e=.returned (.tuple #[.agg #[.bool false,.bool false,.slice none 0 0,.slice none 0 0,.int .i64 (levX c.lv.L s).2.2],.int .i64 (levX c.lv.L s).1])∧∃ (l:Sl ByteArray) (ob':List GBk),St w0 w' (((cb,(clC.all (Ls.set j ⟨c.n,c.k,l,c.ce⟩)).toArray,56)::B)++ob') rs∧OBt ob' l∧l.L=(levX c.lv.L s).2.1∧MK w w':=by
 have hI:Hid (∀ W,LR strC W c.lv.A c.lv.L.length c.lv.L→Calls Tryz.prog 144 #[.slice c.lv.A c.lv.L.length c.lv.c,.string s] W fun e w'=>(∃ z,e=.returned (.int .i64 z)∧IxF c.lv.L (seB s) z)∧w'=W):=Lib.hid fun W h=>indexS_any c.lv.L c.lv.A c.lv.L.length c.lv.c s W h (by omega)
 have hCl:=Lib.hid (fun W=>cloneS_any s W (by omega))
 have S1:St w0 _ ((w.heap.size,#[.bool false,.bool false,.slice none 0 0,.slice none 0 0,.int .i64 0],58)::(cb,(clC.all Ls).toArray,56)::(B++ob)) rs:=St.allocAt (bs:=(cb,(clC.all Ls).toArray,56)::(B++ob)) S0 w.heap.size #[.bool false,.bool false,.slice none 0 0,.slice none 0 0,.int .i64 0] 58 (noLof rfl) rfl
 have hm1:=Lib.hid ((MK.refl w).alloc (.cells #[.bool false,.bool false,.slice none 0 0,.slice none 0 0,.int .i64 0] 58))
 have S0r:St w0 w ((cb,(clC.all Ls).toArray,56)::(B++ob)) rs:=S0
 have hlr:=Lib.hid (OBt.lr (bs:=(w.heap.size,#[.bool false,.bool false,.slice none 0 0,.slice none 0 0,.int .i64 0],58)::(cb,(clC.all Ls).toArray,56)::B) hob S1).1
 replace hob:=Lib.hid hob
 replace hj:=Lib.hid hj
 replace hu:=Lib.hid hu
 have hll:=Lib.hid hl
 have eu:World.cell? _ ⟨u,0,none⟩=some (.pointer (some ⟨cb,j*4,none⟩)):=(S1.bk _ (List.mem_cons_of_mem _ (List.mem_cons_of_mem _ (List.mem_append_left _ hu.out)))).1.cell (i:=0) rfl
 have ev:World.cell? _ ⟨cb,j*4+2,none⟩=some (.slice c.lv.A c.lv.L.length c.lv.c):=St_elm S1 (C:=clC) 1 rfl hj.out 2 rfl
 replace S1:=Lib.hid S1
 replace S0r:=Lib.hid S0r
 clear S0 hl hs
 obtain⟨lx,hlx⟩:∃ y,y=levX c.lv.L s:=⟨_,rfl⟩
 rw[←hlx]
 replace hlx:=Lib.hid hlx
 go_enter Tryz.func143,Tryz.ntmps143
 go_wp2_with fail
 refine (hI.out _ hlr.out).mono ?_
 rintro e w1 ⟨⟨z,rfl,hz⟩,rfl⟩
 clear hI hlr
 by_cases hz0:0≤z
 ·
  have hx:=ixf_idx hz hz0
  have hlev:levX c.lv.L s=(0,c.lv.L,z):=by unfold levX;rw[hx.1,if_pos rfl,←hx.2]
  have hlx2:=hlx.out.trans hlev
  clear hlx hlev
  subst hlx2
  have S2:=Lib.hid (St.allocAt (bs:=(cb,(clC.all Ls).toArray,56)::(B++ob)) S0r.out w.heap.size #[.bool false,.bool false,.slice none 0 0,.slice none 0 0,.int .i64 z] 58 (noLof rfl) rfl)
  have hm2:=Lib.hid ((MK.refl w).alloc (.cells #[.bool false,.bool false,.slice none 0 0,.slice none 0 0,.int .i64 z] 58))
  clear S1 hm1 hx hz S0r eu ev
  go_wp2
  refine bodyPost_ret (res_lr1 _ _ w.heap.size 58 rfl rfl (S2.out.cb 0 rfl)) rfl ?_
  refine⟨rfl,c.lv,ob,?_,hob.out,rfl,hm2.out⟩
  rw[show (⟨c.n,c.k,c.lv,c.ce⟩:Cl)=c from rfl,set_same hj.out]
  exact S2.out.sub2
 ·have hx:=ixf_no hz hz0
  obtain rfl:=hx.2
  clear hz hz0
  by_cases h32:c.lv.L.length=32
  ·
   have hlev:levX c.lv.L s=(2,c.lv.L,0):=by unfold levX;rw[hx.1,if_neg (by simp),if_pos h32]
   have hlx2:=hlx.out.trans hlev
   clear hlx hlev
   subst hlx2
   have g32:((c.lv.L.length:Int)==32)=true:=by rw[h32];rfl
   have S2:=Lib.hid (St.allocAt (bs:=(cb,(clC.all Ls).toArray,56)::(B++ob)) S0r.out w.heap.size #[.bool false,.bool false,.slice none 0 0,.slice none 0 0,.int .i64 0] 58 (noLof rfl) rfl)
   replace h32:=Lib.hid h32
   clear S1 hx S0r
   go_wp2
   refine bodyPost_ret (res_lr1 _ _ w.heap.size 58 rfl rfl (S2.out.cb 0 rfl)) rfl ?_
   refine⟨rfl,c.lv,ob,?_,hob.out,rfl,hm1.out⟩
   rw[show (⟨c.n,c.k,c.lv,c.ce⟩:Cl)=c from rfl,set_same hj.out]
   exact S2.out.sub2
  ·
   have hlev:levX c.lv.L s=(0,c.lv.L++[s],((c.lv.L.length:Nat):Int)):=by unfold levX;rw[hx.1,if_neg (by simp),if_neg h32]
   have hlx2:=hlx.out.trans hlev
   clear hlx hlev
   subst hlx2
   have g32:((c.lv.L.length:Int)==32)=false:=by simp;omega
   replace h32:=Lib.hid h32
   clear hx S0r
   go_upto_region 7 with fail
   clear eu ev
   generalize hW:World.alloc w _=w4 at S1 hm1 ⊢
   clear hW
   have hbase:=Lib.hid (St.new w4)
   refine RW.begin (Z:=[]) (S:=(fun W=>Cb W u #[.pointer (some ⟨cb,j*4,none⟩)] 89)) (by kernel_rfl) ?_ hbase.out ?_
   ·exact⟨by kernel_rfl,zis_nil,by decide,by decide,nol_nil,(fun _ _ h=>((S1.out.bk _ (List.mem_cons_of_mem _ (List.mem_cons_of_mem _ (List.mem_append_left _ hu.out)))).1).bel h.bel)⟩
   intro hzk
   refine RW.t (i:=0) (v:=.pointer (some ⟨cb,j*4,none⟩)) (some 24) at0 (hy:=fun W hS=>by (have k0:=Cb.cell (i:=0) hS rfl;clear hS;go_simp)) (h:=?_)
   refine RW.t (i:=1) (v:=.pointer (some ⟨cb,j*4,none⟩)) (some 25) at1 (hy:=fun W hS=>by (have k0:=Cb.cell (i:=0) hS rfl;clear hS;go_simp)) (h:=?_)
   refine RW.t (i:=2) (v:=.pointer (some ⟨cb,j*4,none⟩)) (some 26) at2 (hy:=fun _ _=>by kernel_rfl) (h:=?_)
   refine RW.t (i:=3) (v:=.pointer (some ⟨cb,j*4+2,none⟩)) (some 27) at3 (hy:=fun _ _=>by kernel_rfl) (h:=?_)
   refine RW.t (i:=5) (v:=.string s) (some 29) at5 (hy:=fun _ _=>by kernel_rfl) (h:=?_)
   refine RW.tail hzk.out (by kernel_rfl) ?_
   intro gs w5 hgs hS Sb
   obtain rfl:=len0 hgs
   simp only[mark,fill,Act.put,List.setIfInBounds_toArray,List.set_cons_zero,List.set_cons_succ]
   have S:=Lib.hid (S1.out.call Sb.bel)
   have hm:=Lib.hid (hm1.out.bel Sb.bel)
   clear S1 hm1 Sb hS hgs hzk hbase
   refine Wk.two (i:=4) (j:=6) at4 at6 (by kernel_rfl) (fun K' hK=>?_) (fun K' hK=>?_)
   ·
    have qv:World.cell? _ ⟨cb,j*4+2,none⟩=some (.slice c.lv.A c.lv.L.length c.lv.c):=St_elm S.out (C:=clC) 1 rfl hj.out 2 rfl
    go_simp
    refine hK.out _ _ ((S.out.bk _ (List.mem_cons_of_mem _ (List.mem_cons_of_mem _ (List.mem_append_left _ hu.out)))).1) ?_
    clear hK K' qv
    try simp only[Act.put,List.setIfInBounds_toArray,List.set_cons_zero,List.set_cons_succ]
    refine Wk.o (i:=6) at6 (by kernel_rfl) fun K' hK=>?_
    refine oper_call (f:=45) (args:=#[.string s]) rfl (by kernel_rfl) ((hCl.out _).mono ?_)
    rintro e w5 ⟨rfl,bb⟩
    have T:=Lib.hid (S.out.call bb)
    have hmT:=Lib.hid (hm.out.bel bb)
    clear S hm bb
    have S:=T
    have hm:=hmT
    clear T hmT
    refine⟨_,rfl,hK.out _ _ ((S.out.bk _ (List.mem_cons_of_mem _ (List.mem_cons_of_mem _ (List.mem_append_left _ hu.out)))).1) ?_⟩
    clear hK K'
    try simp only[Act.put,List.setIfInBounds_toArray,List.set_cons_zero,List.set_cons_succ]
    refine Wk.o (i:=7) at7 (by kernel_rfl) fun K' hK=>?_
    go_simp
    have T:=Lib.hid (S.out.alloc #[.string s] 9 (noLof rfl))
    have hmT:=Lib.hid (hm.out.alloc (.cells #[.string s] 9))
    clear S hm
    have S:=T
    have hm:=hmT
    clear T hmT
    refine hK.out _ _ ((S.out.bk _ (List.mem_cons_of_mem _ (List.mem_cons_of_mem _ (List.mem_cons_of_mem _ (List.mem_append_left _ hu.out))))).1) ?_
    clear hK K'
    try simp only[Act.put,List.setIfInBounds_toArray,List.set_cons_zero,List.set_cons_succ]
    refine Wk.o (i:=8) at8 (by kernel_rfl) fun K' hK=>?_
    have GR:=OBt.gro (bs:=(_,#[.string s],9)::(w.heap.size,#[.bool false,.bool false,.slice none 0 0,.slice none 0 0,.int .i64 0],58)::(cb,(clC.all Ls).toArray,56)::B) hob.out S.out
    have hcl:=GR.st.cb 0 rfl
    refine Gro.op (.tmp 28) (.tmp 31) 22 rfl (.string ByteArray.empty) 16 Tryz.underlying22 (by kernel_rfl) rfl (fun v hv z e=>by simp[Value.cells] at hv;subst hv;cases e) rfl GR _ s rfl hcl trivial (by have:=hll.out;omega) (by have:=hll.out;unfold maxLen;omega) ?_
    intro v' w6 GR' hm'
    clear GR hcl
    obtain⟨l',ob',rfl,hlL,hob',S'⟩:=GR'.opt
    have hmT:=Lib.hid (hm.out.trans hm')
    clear S hm hm' GR'
    have S:=Lib.hid S'
    have hm:=hmT
    clear S' hmT
    replace hlL:=Lib.hid hlL
    replace hob':=Lib.hid hob'
    refine hK.out _ _ ((S.out.bk _ (List.mem_cons_of_mem _ (List.mem_cons_of_mem _ (List.mem_cons_of_mem _ (List.mem_append_left _ hu.out))))).1) ?_
    clear hK K'
    try simp only[Act.put,List.setIfInBounds_toArray,List.set_cons_zero,List.set_cons_succ]
    refine Wk.o (i:=9) at9 (by kernel_rfl) fun K' hK=>?_
    go_simp
    refine hK.out _ _ ((S.out.bk _ (List.mem_cons_of_mem _ (List.mem_cons_of_mem _ (List.mem_cons_of_mem _ (List.mem_append_left _ hu.out))))).1) ?_
    clear hK K'
    try simp only[Act.put,List.setIfInBounds_toArray,List.set_cons_zero,List.set_cons_succ]
    refine Wk.o (i:=10) at10 (by kernel_rfl) fun K' hK=>?_
    go_simp
    refine hK.out _ _ ((S.out.bk _ (List.mem_cons_of_mem _ (List.mem_cons_of_mem _ (List.mem_cons_of_mem _ (List.mem_append_left _ hu.out))))).1) ?_
    clear hK K'
    try simp only[Act.put,List.setIfInBounds_toArray,List.set_cons_zero,List.set_cons_succ]
    refine Wk.o (i:=11) at11 (by kernel_rfl) fun K' hK=>?_
    have hS2:=S.out.sub2.sub2
    have qv:World.cell? _ ⟨cb,j*4+2,none⟩=some (.slice c.lv.A c.lv.L.length c.lv.c):=St_elm S.out (C:=clC) 2 rfl hj.out 2 rfl
    have qf:World.frozen? _ ⟨cb,j*4+2,none⟩=false:=S.out.f 2 _ rfl
    unfold Sl.v
    go_simp
    have T:=Lib.hid (St_set2 S.out hj.out l')
    have hmT:=Lib.hid (hm.out.set (S.out.cb 2 rfl) (j*4+2) (.slice l'.A l'.L.length l'.c))
    clear S hm hS2 qv qf
    have S:=T
    have hm:=hmT
    clear T hmT
    refine hK.out _ _ ((S.out.bk _ (List.mem_cons_of_mem _ (List.mem_cons_of_mem _ (List.mem_cons_of_mem _ (List.mem_append_left _ hu.out))))).1) ?_
    clear hK K'
    try simp only[Act.put,List.setIfInBounds_toArray,List.set_cons_zero,List.set_cons_succ]
    refine Wk.done (by kernel_rfl) ?_
    go_simp
    have qr0:=S.out.cl 1 0 rfl rfl
    have qr1:=S.out.cl 1 1 rfl rfl
    have qr2:=S.out.cl 1 2 rfl rfl
    have qr3:=S.out.cl 1 3 rfl rfl
    have qr4:=S.out.cl 1 4 rfl rfl
    have qf0:=S.out.f 1 0 rfl
    have qf1:=S.out.f 1 1 rfl
    have qf2:=S.out.f 1 2 rfl
    have qf3:=S.out.f 1 3 rfl
    have qf4:=S.out.f 1 4 rfl
    have S9:=Lib.hid (((((S.out.set 1 0 (.bool false) rfl (by nofun)).set 1 1 (.bool false) rfl (by nofun)).set 1 2 (.slice none 0 0) rfl (by nofun)).set 1 3 (.slice none 0 0) rfl (by nofun)).set 1 4 (.int .i64 (c.lv.L.length:Nat)) rfl (by nofun))
    have hm9:=Lib.hid (((((hm.out.set (S.out.cb 1 rfl) 0 (.bool false)).set ((S.out.cb 1 rfl).set 0 (.bool false)) 1 (.bool false)).set (((S.out.cb 1 rfl).set 0 (.bool false)).set 1 (.bool false)) 2 (.slice none 0 0)).set ((((S.out.cb 1 rfl).set 0 (.bool false)).set 1 (.bool false)).set 2 (.slice none 0 0)) 3 (.slice none 0 0)).set (((((S.out.cb 1 rfl).set 0 (.bool false)).set 1 (.bool false)).set 2 (.slice none 0 0)).set 3 (.slice none 0 0)) 4 (.int .i64 (c.lv.L.length:Nat)))
    clear S hm
    go_wp2
    refine bodyPost_ret (res_lr1 _ _ w.heap.size 58 rfl rfl (S9.out.cb 1 rfl)) rfl ?_
    exact⟨rfl,l',ob',S9.out.sub2.sub2,hob'.out,hlL.out,hm9.out⟩
   ·
    refine oper_call (f:=45) (args:=#[.string s]) rfl (by kernel_rfl) ((hCl.out _).mono ?_)
    rintro e w5 ⟨rfl,bb⟩
    have T:=Lib.hid (S.out.call bb)
    have hmT:=Lib.hid (hm.out.bel bb)
    clear S hm bb
    have S:=T
    have hm:=hmT
    clear T hmT
    refine⟨_,rfl,hK.out _ _ ((S.out.bk _ (List.mem_cons_of_mem _ (List.mem_cons_of_mem _ (List.mem_append_left _ hu.out)))).1) ?_⟩
    clear hK K'
    try simp only[Act.put,List.setIfInBounds_toArray,List.set_cons_zero,List.set_cons_succ]
    refine Wk.two (i:=4) (j:=7) at4 at7 (by kernel_rfl) (fun K' hK=>?_) (fun K' hK=>?_)
    ·
     have qv:World.cell? _ ⟨cb,j*4+2,none⟩=some (.slice c.lv.A c.lv.L.length c.lv.c):=St_elm S.out (C:=clC) 1 rfl hj.out 2 rfl
     go_simp
     refine hK.out _ _ ((S.out.bk _ (List.mem_cons_of_mem _ (List.mem_cons_of_mem _ (List.mem_append_left _ hu.out)))).1) ?_
     clear hK K' qv
     try simp only[Act.put,List.setIfInBounds_toArray,List.set_cons_zero,List.set_cons_succ]
     refine Wk.o (i:=7) at7 (by kernel_rfl) fun K' hK=>?_
     go_simp
     have T:=Lib.hid (S.out.alloc #[.string s] 9 (noLof rfl))
     have hmT:=Lib.hid (hm.out.alloc (.cells #[.string s] 9))
     clear S hm
     have S:=T
     have hm:=hmT
     clear T hmT
     refine hK.out _ _ ((S.out.bk _ (List.mem_cons_of_mem _ (List.mem_cons_of_mem _ (List.mem_cons_of_mem _ (List.mem_append_left _ hu.out))))).1) ?_
     clear hK K'
     try simp only[Act.put,List.setIfInBounds_toArray,List.set_cons_zero,List.set_cons_succ]
     refine Wk.o (i:=8) at8 (by kernel_rfl) fun K' hK=>?_
     have GR:=OBt.gro (bs:=(_,#[.string s],9)::(w.heap.size,#[.bool false,.bool false,.slice none 0 0,.slice none 0 0,.int .i64 0],58)::(cb,(clC.all Ls).toArray,56)::B) hob.out S.out
     have hcl:=GR.st.cb 0 rfl
     refine Gro.op (.tmp 28) (.tmp 31) 22 rfl (.string ByteArray.empty) 16 Tryz.underlying22 (by kernel_rfl) rfl (fun v hv z e=>by simp[Value.cells] at hv;subst hv;cases e) rfl GR _ s rfl hcl trivial (by have:=hll.out;omega) (by have:=hll.out;unfold maxLen;omega) ?_
     intro v' w6 GR' hm'
     clear GR hcl
     obtain⟨l',ob',rfl,hlL,hob',S'⟩:=GR'.opt
     have hmT:=Lib.hid (hm.out.trans hm')
     clear S hm hm' GR'
     have S:=Lib.hid S'
     have hm:=hmT
     clear S' hmT
     replace hlL:=Lib.hid hlL
     replace hob':=Lib.hid hob'
     refine hK.out _ _ ((S.out.bk _ (List.mem_cons_of_mem _ (List.mem_cons_of_mem _ (List.mem_cons_of_mem _ (List.mem_append_left _ hu.out))))).1) ?_
     clear hK K'
     try simp only[Act.put,List.setIfInBounds_toArray,List.set_cons_zero,List.set_cons_succ]
     refine Wk.o (i:=9) at9 (by kernel_rfl) fun K' hK=>?_
     go_simp
     refine hK.out _ _ ((S.out.bk _ (List.mem_cons_of_mem _ (List.mem_cons_of_mem _ (List.mem_cons_of_mem _ (List.mem_append_left _ hu.out))))).1) ?_
     clear hK K'
     try simp only[Act.put,List.setIfInBounds_toArray,List.set_cons_zero,List.set_cons_succ]
     refine Wk.o (i:=10) at10 (by kernel_rfl) fun K' hK=>?_
     go_simp
     refine hK.out _ _ ((S.out.bk _ (List.mem_cons_of_mem _ (List.mem_cons_of_mem _ (List.mem_cons_of_mem _ (List.mem_append_left _ hu.out))))).1) ?_
     clear hK K'
     try simp only[Act.put,List.setIfInBounds_toArray,List.set_cons_zero,List.set_cons_succ]
     refine Wk.o (i:=11) at11 (by kernel_rfl) fun K' hK=>?_
     have hS2:=S.out.sub2.sub2
     have qv:World.cell? _ ⟨cb,j*4+2,none⟩=some (.slice c.lv.A c.lv.L.length c.lv.c):=St_elm S.out (C:=clC) 2 rfl hj.out 2 rfl
     have qf:World.frozen? _ ⟨cb,j*4+2,none⟩=false:=S.out.f 2 _ rfl
     unfold Sl.v
     go_simp
     have T:=Lib.hid (St_set2 S.out hj.out l')
     have hmT:=Lib.hid (hm.out.set (S.out.cb 2 rfl) (j*4+2) (.slice l'.A l'.L.length l'.c))
     clear S hm hS2 qv qf
     have S:=T
     have hm:=hmT
     clear T hmT
     refine hK.out _ _ ((S.out.bk _ (List.mem_cons_of_mem _ (List.mem_cons_of_mem _ (List.mem_cons_of_mem _ (List.mem_append_left _ hu.out))))).1) ?_
     clear hK K'
     try simp only[Act.put,List.setIfInBounds_toArray,List.set_cons_zero,List.set_cons_succ]
     refine Wk.done (by kernel_rfl) ?_
     go_simp
     have qr0:=S.out.cl 1 0 rfl rfl
     have qr1:=S.out.cl 1 1 rfl rfl
     have qr2:=S.out.cl 1 2 rfl rfl
     have qr3:=S.out.cl 1 3 rfl rfl
     have qr4:=S.out.cl 1 4 rfl rfl
     have qf0:=S.out.f 1 0 rfl
     have qf1:=S.out.f 1 1 rfl
     have qf2:=S.out.f 1 2 rfl
     have qf3:=S.out.f 1 3 rfl
     have qf4:=S.out.f 1 4 rfl
     have S9:=Lib.hid (((((S.out.set 1 0 (.bool false) rfl (by nofun)).set 1 1 (.bool false) rfl (by nofun)).set 1 2 (.slice none 0 0) rfl (by nofun)).set 1 3 (.slice none 0 0) rfl (by nofun)).set 1 4 (.int .i64 (c.lv.L.length:Nat)) rfl (by nofun))
     have hm9:=Lib.hid (((((hm.out.set (S.out.cb 1 rfl) 0 (.bool false)).set ((S.out.cb 1 rfl).set 0 (.bool false)) 1 (.bool false)).set (((S.out.cb 1 rfl).set 0 (.bool false)).set 1 (.bool false)) 2 (.slice none 0 0)).set ((((S.out.cb 1 rfl).set 0 (.bool false)).set 1 (.bool false)).set 2 (.slice none 0 0)) 3 (.slice none 0 0)).set (((((S.out.cb 1 rfl).set 0 (.bool false)).set 1 (.bool false)).set 2 (.slice none 0 0)).set 3 (.slice none 0 0)) 4 (.int .i64 (c.lv.L.length:Nat)))
     clear S hm
     go_wp2
     refine bodyPost_ret (res_lr1 _ _ w.heap.size 58 rfl rfl (S9.out.cb 1 rfl)) rfl ?_
     exact⟨rfl,l',ob',S9.out.sub2.sub2,hob'.out,hlL.out,hm9.out⟩
    ·
     go_simp
     have T:=Lib.hid (S.out.alloc #[.string s] 9 (noLof rfl))
     have hmT:=Lib.hid (hm.out.alloc (.cells #[.string s] 9))
     clear S hm
     have S:=T
     have hm:=hmT
     clear T hmT
     refine hK.out _ _ ((S.out.bk _ (List.mem_cons_of_mem _ (List.mem_cons_of_mem _ (List.mem_cons_of_mem _ (List.mem_append_left _ hu.out))))).1) ?_
     clear hK K'
     try simp only[Act.put,List.setIfInBounds_toArray,List.set_cons_zero,List.set_cons_succ]
     refine Wk.o (i:=4) at4 (by kernel_rfl) fun K' hK=>?_
     have qv:World.cell? _ ⟨cb,j*4+2,none⟩=some (.slice c.lv.A c.lv.L.length c.lv.c):=St_elm S.out (C:=clC) 2 rfl hj.out 2 rfl
     go_simp
     refine hK.out _ _ ((S.out.bk _ (List.mem_cons_of_mem _ (List.mem_cons_of_mem _ (List.mem_cons_of_mem _ (List.mem_append_left _ hu.out))))).1) ?_
     clear hK K' qv
     try simp only[Act.put,List.setIfInBounds_toArray,List.set_cons_zero,List.set_cons_succ]
     refine Wk.o (i:=8) at8 (by kernel_rfl) fun K' hK=>?_
     have GR:=OBt.gro (bs:=(_,#[.string s],9)::(w.heap.size,#[.bool false,.bool false,.slice none 0 0,.slice none 0 0,.int .i64 0],58)::(cb,(clC.all Ls).toArray,56)::B) hob.out S.out
     have hcl:=GR.st.cb 0 rfl
     refine Gro.op (.tmp 28) (.tmp 31) 22 rfl (.string ByteArray.empty) 16 Tryz.underlying22 (by kernel_rfl) rfl (fun v hv z e=>by simp[Value.cells] at hv;subst hv;cases e) rfl GR _ s rfl hcl trivial (by have:=hll.out;omega) (by have:=hll.out;unfold maxLen;omega) ?_
     intro v' w6 GR' hm'
     clear GR hcl
     obtain⟨l',ob',rfl,hlL,hob',S'⟩:=GR'.opt
     have hmT:=Lib.hid (hm.out.trans hm')
     clear S hm hm' GR'
     have S:=Lib.hid S'
     have hm:=hmT
     clear S' hmT
     replace hlL:=Lib.hid hlL
     replace hob':=Lib.hid hob'
     refine hK.out _ _ ((S.out.bk _ (List.mem_cons_of_mem _ (List.mem_cons_of_mem _ (List.mem_cons_of_mem _ (List.mem_append_left _ hu.out))))).1) ?_
     clear hK K'
     try simp only[Act.put,List.setIfInBounds_toArray,List.set_cons_zero,List.set_cons_succ]
     refine Wk.o (i:=9) at9 (by kernel_rfl) fun K' hK=>?_
     go_simp
     refine hK.out _ _ ((S.out.bk _ (List.mem_cons_of_mem _ (List.mem_cons_of_mem _ (List.mem_cons_of_mem _ (List.mem_append_left _ hu.out))))).1) ?_
     clear hK K'
     try simp only[Act.put,List.setIfInBounds_toArray,List.set_cons_zero,List.set_cons_succ]
     refine Wk.o (i:=10) at10 (by kernel_rfl) fun K' hK=>?_
     go_simp
     refine hK.out _ _ ((S.out.bk _ (List.mem_cons_of_mem _ (List.mem_cons_of_mem _ (List.mem_cons_of_mem _ (List.mem_append_left _ hu.out))))).1) ?_
     clear hK K'
     try simp only[Act.put,List.setIfInBounds_toArray,List.set_cons_zero,List.set_cons_succ]
     refine Wk.o (i:=11) at11 (by kernel_rfl) fun K' hK=>?_
     have hS2:=S.out.sub2.sub2
     have qv:World.cell? _ ⟨cb,j*4+2,none⟩=some (.slice c.lv.A c.lv.L.length c.lv.c):=St_elm S.out (C:=clC) 2 rfl hj.out 2 rfl
     have qf:World.frozen? _ ⟨cb,j*4+2,none⟩=false:=S.out.f 2 _ rfl
     unfold Sl.v
     go_simp
     have T:=Lib.hid (St_set2 S.out hj.out l')
     have hmT:=Lib.hid (hm.out.set (S.out.cb 2 rfl) (j*4+2) (.slice l'.A l'.L.length l'.c))
     clear S hm hS2 qv qf
     have S:=T
     have hm:=hmT
     clear T hmT
     refine hK.out _ _ ((S.out.bk _ (List.mem_cons_of_mem _ (List.mem_cons_of_mem _ (List.mem_cons_of_mem _ (List.mem_append_left _ hu.out))))).1) ?_
     clear hK K'
     try simp only[Act.put,List.setIfInBounds_toArray,List.set_cons_zero,List.set_cons_succ]
     refine Wk.done (by kernel_rfl) ?_
     go_simp
     have qr0:=S.out.cl 1 0 rfl rfl
     have qr1:=S.out.cl 1 1 rfl rfl
     have qr2:=S.out.cl 1 2 rfl rfl
     have qr3:=S.out.cl 1 3 rfl rfl
     have qr4:=S.out.cl 1 4 rfl rfl
     have qf0:=S.out.f 1 0 rfl
     have qf1:=S.out.f 1 1 rfl
     have qf2:=S.out.f 1 2 rfl
     have qf3:=S.out.f 1 3 rfl
     have qf4:=S.out.f 1 4 rfl
     have S9:=Lib.hid (((((S.out.set 1 0 (.bool false) rfl (by nofun)).set 1 1 (.bool false) rfl (by nofun)).set 1 2 (.slice none 0 0) rfl (by nofun)).set 1 3 (.slice none 0 0) rfl (by nofun)).set 1 4 (.int .i64 (c.lv.L.length:Nat)) rfl (by nofun))
     have hm9:=Lib.hid (((((hm.out.set (S.out.cb 1 rfl) 0 (.bool false)).set ((S.out.cb 1 rfl).set 0 (.bool false)) 1 (.bool false)).set (((S.out.cb 1 rfl).set 0 (.bool false)).set 1 (.bool false)) 2 (.slice none 0 0)).set ((((S.out.cb 1 rfl).set 0 (.bool false)).set 1 (.bool false)).set 2 (.slice none 0 0)) 3 (.slice none 0 0)).set (((((S.out.cb 1 rfl).set 0 (.bool false)).set 1 (.bool false)).set 2 (.slice none 0 0)).set 3 (.slice none 0 0)) 4 (.int .i64 (c.lv.L.length:Nat)))
     clear S hm
     go_wp2
     refine bodyPost_ret (res_lr1 _ _ w.heap.size 58 rfl rfl (S9.out.cb 1 rfl)) rfl ?_
     exact⟨rfl,l',ob',S9.out.sub2.sub2,hob'.out,hlL.out,hm9.out⟩
end Go.Proofs.YtdeedofmflelfaaGreatDoor

namespace Go.Proofs.YtdeedofmflelfaaGreatDoor
open Go.RowKit RQ
set_option linter.unusedVariables false
def SubR (rs rs':List GRd):Prop:=∀ p∈rs,p∈rs'
/-- What a text adds to a column: the error, the levels, the cell. -/
def addX (x:Fe) (L:List ByteArray) (s:ByteArray):Int×List ByteArray×Cx:=
 if inB s x.mi.L then (0,L,true,false,[],[],0)
 else if x.k==1 then (if pOk s then (0,L,false,ng (pQ s*x.uq).num,limbs (pQ s*x.uq).num.natAbs,dn (pQ s*x.uq),0) else (4,L,false,false,[],[],0))
 else ((levX L s).1,(levX L s).2.1,false,false,[],[],(levX L s).2.2)
/-- New cells of a column. -/
theorem St_set3 {w W:World} {p q:GBk} {cb j:Nat} {Ls:List Cl} {c:Cl} {bs:List GBk} {rs:List GRd} (S:St w W (p::q::(cb,(clC.all Ls).toArray,56)::bs) rs) (hj:Ls[j]?=some c) (l:Sl Ce) :
  St w (W.setCell ⟨cb,j*4+3,none⟩ (.slice l.A l.L.length l.c)) (p::q::(cb,(clC.all (Ls.set j ⟨c.n,c.k,c.lv,l⟩)).toArray,56)::bs) rs:=by
 have:=S.set 2 (j*4+3) (.slice l.A l.L.length l.c) rfl (by intro z e;cases e)
 have e:(clC.all Ls).toArray.setIfInBounds (j*4+3) (.slice l.A l.L.length l.c)=(clC.all (Ls.set j ⟨c.n,c.k,c.lv,l⟩)).toArray:=by
  rw[←all_set1 clC hj (k:=3) (by decide) (x':=⟨c.n,c.k,c.lv,l⟩) (u:=.slice l.A l.L.length l.c) rfl];simp[cl_sz]
 rw[←e];exact this
theorem St.cast {w W:World} {bs bs':List GBk} {rs:List GRd} (h:St w W bs rs) (e:bs=bs'):St w W bs' rs:=e ▸ h
theorem perm1 (p q:GBk) (B X Y:List GBk):(p::q::(B++(X++Y))).Perm ((q::(p::(B++Y)))++X):=by
 refine (List.Perm.swap q p _).trans ?_
 show (q::p::(B++(X++Y))).Perm (q::p::((B++Y)++X))
 rw[List.append_assoc]
 exact ((List.perm_append_comm.append_left B).cons p).cons q
theorem perm2 (p q:GBk) (B X Y:List GBk):((q::(p::(B++Y)))++X).Perm (p::q::(B++(X++Y))):=(perm1 p q B X Y).symm
set_option maxRecDepth 100000 in
set_option maxHeartbeats 4000000 in
theorem ad2_miss (x:Fe) (cb j b6 b5 b3 u gs m:Nat) (Ls:List Cl) (c:Cl) (s:ByteArray) (w0 w:World) (B oL oE:List GBk) (rs:List GRd) (S0:St w0 w (((cb,(clC.all Ls).toArray,56)::B)++(oL++oE)) rs) (hj:Ls[j]?=some c) (h6:(b6,#[.func (.func 87) #[] #[.pointer (some ⟨gs,0,none⟩)]],27)∈B) (h3:(b3,#[.pointer (some ⟨cb,j*4,none⟩)],89)∈B) (hgs:(gs,#[.map (some m)],115)∈B) (hM:MapS w m x.mi.L) (hoL:OBt oL c.lv) (hoE:OBc w0 rs oE c.ce) (hs:s.size≤300) (hx:LtF x) (hl:c.lv.L.length≤32) (he:c.ce.L.length≤2000) (hin:inB s x.mi.L=true):Calls Tryz.prog 101 #[.string s,.pointer (some ⟨b6,0,none⟩),.pointer (some ⟨b5,0,none⟩),.pointer (some ⟨b3,0,none⟩)] w fun e w'=>e=.returned (.int .i64 (addX x c.lv.L s).1)∧∃ (c':Cl) (oL' oE':List GBk) (rs':List GRd),St w0 w' (((cb,(clC.all (Ls.set j c')).toArray,56)::B)++(oL'++oE')) rs'∧SubR rs rs'∧OBt oL' c'.lv∧OBc w0 rs' oE' c'.ce∧c'.n=c.n∧c'.k=c.k∧c'.lv.L=(addX x c.lv.L s).2.1∧c'.ce.L.map Ce.cx=c.ce.L.map Ce.cx++[(addX x c.lv.L s).2.2]∧MK w w':=by
 have hMi:Hid (∀ W,SetAt W gs x.mi.L→Calls Tryz.prog 87 #[.string s,.pointer (some ⟨gs,0,none⟩)] W fun e w'=>e=.returned (.bool (inB s x.mi.L))∧w'=W):=Lib.hid fun W h=>oneOf1_any x.mi.L s gs W h (by omega)
 have S1:St w0 _ ((w.heap.size,#[.bool true,.bool false,.slice none 0 0,.slice none 0 0,.int .i64 0],58)::(cb,(clC.all Ls).toArray,56)::(B++(oL++oE))) rs:=St.allocAt (bs:=(cb,(clC.all Ls).toArray,56)::(B++(oL++oE))) S0 w.heap.size #[.bool true,.bool false,.slice none 0 0,.slice none 0 0,.int .i64 0] 58 (noLof rfl) rfl
 have hm:=Lib.hid ((MK.refl w).alloc (.cells #[.bool true,.bool false,.slice none 0 0,.slice none 0 0,.int .i64 0] 58))
 replace h6:=Lib.hid h6
 replace h3:=Lib.hid h3
 replace hgs:=Lib.hid hgs
 replace hj:=Lib.hid hj
 replace hoL:=Lib.hid hoL
 replace hoE:=Lib.hid hoE
 have hee:=Lib.hid he
 have hset:=Lib.hid (show SetAt _ gs x.mi.L from ⟨m,(S1.bk _ (List.mem_cons_of_mem _ (List.mem_cons_of_mem _ (List.mem_append_left _ hgs.out)))).1,hM.mk hm.out⟩)
 have e6:=(S1.bk _ (List.mem_cons_of_mem _ (List.mem_cons_of_mem _ (List.mem_append_left _ h6.out)))).1.cell (i:=0) rfl
 obtain⟨ax,hax0⟩:∃ z,z=addX x c.lv.L s:=⟨_,rfl⟩
 rw[←hax0]
 replace hax0:=Lib.hid hax0
 rw[hin] at hMi
 replace S1:=Lib.hid S1
 clear S0 hM hs hx he hl
 go_enter Tryz.func101,Tryz.ntmps101
 have hax:addX x c.lv.L s=(0,c.lv.L,true,false,[],[],0):=by unfold addX;rw[hin,if_pos rfl]
 have hax2:=hax0.out.trans hax
 clear hax hax0 hin
 subst hax2
 go_wp2_with fail
 refine (hMi.out _ hset.out).mono ?_
 rintro e w1 ⟨rfl,rfl⟩
 clear hMi hset e6
 go_upto_region 4 with fail
 obtain⟨y,hy⟩:∃ y:Ce,y=⟨true,⟨false,Nl0,Nl0⟩,0⟩:=⟨_,rfl⟩
 obtain⟨gv,hgv⟩:∃ g,g=w.heap.size:=⟨_,rfl⟩
 have S2:=St.cast (bs':=(gv,#[.bool y.m,.bool y.v.b,.slice y.v.x.A y.v.x.n y.v.x.c,.slice y.v.y.A y.v.y.n y.v.y.c,.int .i64 y.l],58)::(cb,(clC.all Ls).toArray,56)::(B++(oL++oE))) S1.out (by subst hy;subst hgv;rfl)
 rw[←hgv]
 have hyc:=Lib.hid (show y.cx=(true,false,[],[],0) by rw[hy];rfl)
 have hin:=Lib.hid (show ceC.In w0 [] rs y from by rw[hy];exact ce_in.2 ⟨.inr (Rd.nil_ _ _ _),.inr (Rd.nil_ _ _ _)⟩)
 clear S1 hy
 generalize hW:World.alloc _ _=w4 at S2 hm ⊢
 clear hW hgv
 have S:=Lib.hid S2
 clear S2
 have hbase:=Lib.hid (St.new w4)
 refine RW.begin (Z:=[]) (S:=(fun W=>Cb W b3 #[.pointer (some ⟨cb,j*4,none⟩)] 89∧Cb W gv #[.bool y.m,.bool y.v.b,.slice y.v.x.A y.v.x.n y.v.x.c,.slice y.v.y.A y.v.y.n y.v.y.c,.int .i64 y.l] 58)) (by kernel_rfl) ?_ hbase.out ?_
 ·exact⟨by kernel_rfl,zis_nil,by decide,by decide,nol_nil,(fun _ _ h=>⟨((S.out.bk _ (List.mem_cons_of_mem _ (List.mem_cons_of_mem _ (List.mem_append_left _ h3.out)))).1).bel h.bel,(S.out.cb 0 rfl).bel h.bel⟩)⟩
 intro hzk
 refine RW.t (i:=0) (v:=.pointer (some ⟨cb,j*4,none⟩)) (some 19) at0 (hy:=fun W hS=>by (have k0:=Cb.cell (i:=0) hS.1 rfl;clear hS;go_simp)) (h:=?_)
 refine RW.t (i:=1) (v:=.pointer (some ⟨cb,j*4,none⟩)) (some 20) at1 (hy:=fun W hS=>by (have k0:=Cb.cell (i:=0) hS.1 rfl;clear hS;go_simp)) (h:=?_)
 refine RW.t (i:=2) (v:=.pointer (some ⟨cb,j*4,none⟩)) (some 21) at2 (hy:=fun _ _=>by kernel_rfl) (h:=?_)
 refine RW.t (i:=3) (v:=.pointer (some ⟨cb,j*4+3,none⟩)) (some 22) at3 (hy:=fun _ _=>by kernel_rfl) (h:=?_)
 refine RW.t (i:=5) (v:=.agg #[.bool y.m,.bool y.v.b,.slice y.v.x.A y.v.x.n y.v.x.c,.slice y.v.y.A y.v.y.n y.v.y.c,.int .i64 y.l]) (some 24) at5 (hy:=fun W hS=>by (have k0:=Cb.cell (i:=0) hS.2 rfl;have k1:=Cb.cell (i:=1) hS.2 rfl;have k2:=Cb.cell (i:=2) hS.2 rfl;have k3:=Cb.cell (i:=3) hS.2 rfl;have k4:=Cb.cell (i:=4) hS.2 rfl;clear hS;go_simp)) (h:=?_)
 refine RW.tail hzk.out (by kernel_rfl) ?_
 intro gs' w5 hgs' hS Sb
 obtain rfl:=len0 hgs'
 simp only[mark,fill,Act.put,List.setIfInBounds_toArray,List.set_cons_zero,List.set_cons_succ]
 have T:=Lib.hid (S.out.call Sb.bel)
 have hmT:=Lib.hid (hm.out.bel Sb.bel)
 clear S hm Sb hS hgs' hzk hbase
 have S:=T
 have hm:=hmT
 clear T hmT
 refine Wk.two (i:=4) (j:=6) at4 at6 (by kernel_rfl) (fun K' hK=>?_) (fun K' hK=>?_)
 ·
  have qv:World.cell? _ ⟨cb,j*4+3,none⟩=some (.slice c.ce.A c.ce.L.length c.ce.c):=St_elm S.out (C:=clC) 1 rfl hj.out 3 rfl
  go_simp
  refine hK.out _ _ ⟨(S.out.bk _ (List.mem_cons_of_mem _ (List.mem_cons_of_mem _ (List.mem_append_left _ h3.out)))).1,S.out.cb 0 rfl⟩ ?_
  clear qv
  clear hK K'
  try simp only[Act.put,List.setIfInBounds_toArray,List.set_cons_zero,List.set_cons_succ]
  refine Wk.o (i:=6) at6 (by kernel_rfl) fun K' hK=>?_
  go_simp
  have T:=Lib.hid (S.out.alloc #[.bool y.m,.bool y.v.b,.slice y.v.x.A y.v.x.n y.v.x.c,.slice y.v.y.A y.v.y.n y.v.y.c,.int .i64 y.l] 58 (noLof rfl))
  have hmT:=Lib.hid (hm.out.alloc (.cells #[.bool y.m,.bool y.v.b,.slice y.v.x.A y.v.x.n y.v.x.c,.slice y.v.y.A y.v.y.n y.v.y.c,.int .i64 y.l] 58))
  clear S hm
  have S:=T
  have hm:=hmT
  clear T hmT
  refine hK.out _ _ ⟨(S.out.bk _ (List.mem_cons_of_mem _ (List.mem_cons_of_mem _ (List.mem_cons_of_mem _ (List.mem_append_left _ h3.out))))).1,S.out.cb 1 rfl⟩ ?_
  clear hK K'
  try simp only[Act.put,List.setIfInBounds_toArray,List.set_cons_zero,List.set_cons_succ]
  refine Wk.o (i:=7) at7 (by kernel_rfl) fun K' hK=>?_
  have GR:=OBc.gro (bs:=(_,#[.bool y.m,.bool y.v.b,.slice y.v.x.A y.v.x.n y.v.x.c,.slice y.v.y.A y.v.y.n y.v.y.c,.int .i64 y.l],58)::(gv,#[.bool y.m,.bool y.v.b,.slice y.v.x.A y.v.x.n y.v.x.c,.slice y.v.y.A y.v.y.n y.v.y.c,.int .i64 y.l],58)::(cb,(clC.all Ls).toArray,56)::(B++oL)) hoE.out (S.out.prm (by show List.Perm (_::_::_::(B++(oL++oE))) (_::_::_::((B++oL)++oE));rw[List.append_assoc]))
  have hcl:=GR.st.cb 0 rfl
  refine Gro.op (.tmp 23) (.tmp 25) 54 rfl (.agg Ce0.vs) 72 Tryz.underlying54 (by kernel_rfl) rfl (fun v hv z e=>by simp[Value.cells,Ce0,Nl0] at hv;subst e;simp at hv) rfl GR _ y rfl hcl (ce_in.2 (ce_in.1 hin.out)) (by have:=hee.out;omega) (by have:=hee.out;unfold maxLen;omega) ?_
  intro v' w6 GR' hm'
  clear GR hcl
  obtain⟨l',oE',rfl,hlL,hoE',S'⟩:=GR'.opc
  have hmT:=Lib.hid (hm.out.trans hm')
  clear S hm hm' GR'
  have S:=Lib.hid (show St w0 w6 ((_,#[.bool y.m,.bool y.v.b,.slice y.v.x.A y.v.x.n y.v.x.c,.slice y.v.y.A y.v.y.n y.v.y.c,.int .i64 y.l],58)::(gv,#[.bool y.m,.bool y.v.b,.slice y.v.x.A y.v.x.n y.v.x.c,.slice y.v.y.A y.v.y.n y.v.y.c,.int .i64 y.l],58)::(cb,(clC.all Ls).toArray,56)::(B++(oL++oE'))) rs from S'.prm (by show List.Perm (_::_::_::((B++oL)++oE')) (_::_::_::(B++(oL++oE')));rw[List.append_assoc]))
  have hm:=hmT
  clear S' hmT
  replace hlL:=Lib.hid hlL
  replace hoE':=Lib.hid hoE'
  refine hK.out _ _ ⟨(S.out.bk _ (List.mem_cons_of_mem _ (List.mem_cons_of_mem _ (List.mem_cons_of_mem _ (List.mem_append_left _ h3.out))))).1,S.out.cb 1 rfl⟩ ?_
  clear hK K'
  try simp only[Act.put,List.setIfInBounds_toArray,List.set_cons_zero,List.set_cons_succ]
  refine Wk.o (i:=8) at8 (by kernel_rfl) fun K' hK=>?_
  go_simp
  refine hK.out _ _ ⟨(S.out.bk _ (List.mem_cons_of_mem _ (List.mem_cons_of_mem _ (List.mem_cons_of_mem _ (List.mem_append_left _ h3.out))))).1,S.out.cb 1 rfl⟩ ?_
  clear hK K'
  try simp only[Act.put,List.setIfInBounds_toArray,List.set_cons_zero,List.set_cons_succ]
  refine Wk.o (i:=9) at9 (by kernel_rfl) fun K' hK=>?_
  go_simp
  refine hK.out _ _ ⟨(S.out.bk _ (List.mem_cons_of_mem _ (List.mem_cons_of_mem _ (List.mem_cons_of_mem _ (List.mem_append_left _ h3.out))))).1,S.out.cb 1 rfl⟩ ?_
  clear hK K'
  try simp only[Act.put,List.setIfInBounds_toArray,List.set_cons_zero,List.set_cons_succ]
  refine Wk.o (i:=10) at10 (by kernel_rfl) fun K' hK=>?_
  have qv:World.cell? _ ⟨cb,j*4+3,none⟩=some (.slice c.ce.A c.ce.L.length c.ce.c):=St_elm S.out (C:=clC) 2 rfl hj.out 3 rfl
  have qf:World.frozen? _ ⟨cb,j*4+3,none⟩=false:=S.out.f 2 _ rfl
  unfold Sl.v
  go_simp
  have T:=Lib.hid (St_set3 S.out hj.out l')
  have hmT:=Lib.hid (hm.out.set (S.out.cb 2 rfl) (j*4+3) (.slice l'.A l'.L.length l'.c))
  clear S hm qv qf
  have S:=T
  have hm:=hmT
  clear T hmT
  refine hK.out _ _ ⟨(S.out.bk _ (List.mem_cons_of_mem _ (List.mem_cons_of_mem _ (List.mem_cons_of_mem _ (List.mem_append_left _ h3.out))))).1,S.out.cb 1 rfl⟩ ?_
  clear hK K'
  try simp only[Act.put,List.setIfInBounds_toArray,List.set_cons_zero,List.set_cons_succ]
  refine Wk.done (by kernel_rfl) ?_
  go_simp
  clear hj h6 hgs
  go_wp2
  go_ret
  refine⟨rfl,⟨c.n,c.k,c.lv,l'⟩,oL,oE',rs,?_,fun _ h=>h,hoL.out,hoE'.out,rfl,rfl,rfl,?_,hm.out⟩
  ·have:=S.out.sub2.sub2
   exact this
  ·show l'.L.map Ce.cx=_
   rw[hlL.out,List.map_append]
   rw[List.map_cons,List.map_nil,hyc.out]
 ·
  go_simp
  have T:=Lib.hid (S.out.alloc #[.bool y.m,.bool y.v.b,.slice y.v.x.A y.v.x.n y.v.x.c,.slice y.v.y.A y.v.y.n y.v.y.c,.int .i64 y.l] 58 (noLof rfl))
  have hmT:=Lib.hid (hm.out.alloc (.cells #[.bool y.m,.bool y.v.b,.slice y.v.x.A y.v.x.n y.v.x.c,.slice y.v.y.A y.v.y.n y.v.y.c,.int .i64 y.l] 58))
  clear S hm
  have S:=T
  have hm:=hmT
  clear T hmT
  refine hK.out _ _ ⟨(S.out.bk _ (List.mem_cons_of_mem _ (List.mem_cons_of_mem _ (List.mem_cons_of_mem _ (List.mem_append_left _ h3.out))))).1,S.out.cb 1 rfl⟩ ?_
  clear hK K'
  try simp only[Act.put,List.setIfInBounds_toArray,List.set_cons_zero,List.set_cons_succ]
  refine Wk.o (i:=4) at4 (by kernel_rfl) fun K' hK=>?_
  have qv:World.cell? _ ⟨cb,j*4+3,none⟩=some (.slice c.ce.A c.ce.L.length c.ce.c):=St_elm S.out (C:=clC) 2 rfl hj.out 3 rfl
  go_simp
  refine hK.out _ _ ⟨(S.out.bk _ (List.mem_cons_of_mem _ (List.mem_cons_of_mem _ (List.mem_cons_of_mem _ (List.mem_append_left _ h3.out))))).1,S.out.cb 1 rfl⟩ ?_
  clear qv
  clear hK K'
  try simp only[Act.put,List.setIfInBounds_toArray,List.set_cons_zero,List.set_cons_succ]
  refine Wk.o (i:=7) at7 (by kernel_rfl) fun K' hK=>?_
  have GR:=OBc.gro (bs:=(_,#[.bool y.m,.bool y.v.b,.slice y.v.x.A y.v.x.n y.v.x.c,.slice y.v.y.A y.v.y.n y.v.y.c,.int .i64 y.l],58)::(gv,#[.bool y.m,.bool y.v.b,.slice y.v.x.A y.v.x.n y.v.x.c,.slice y.v.y.A y.v.y.n y.v.y.c,.int .i64 y.l],58)::(cb,(clC.all Ls).toArray,56)::(B++oL)) hoE.out (S.out.prm (by show List.Perm (_::_::_::(B++(oL++oE))) (_::_::_::((B++oL)++oE));rw[List.append_assoc]))
  have hcl:=GR.st.cb 0 rfl
  refine Gro.op (.tmp 23) (.tmp 25) 54 rfl (.agg Ce0.vs) 72 Tryz.underlying54 (by kernel_rfl) rfl (fun v hv z e=>by simp[Value.cells,Ce0,Nl0] at hv;subst e;simp at hv) rfl GR _ y rfl hcl (ce_in.2 (ce_in.1 hin.out)) (by have:=hee.out;omega) (by have:=hee.out;unfold maxLen;omega) ?_
  intro v' w6 GR' hm'
  clear GR hcl
  obtain⟨l',oE',rfl,hlL,hoE',S'⟩:=GR'.opc
  have hmT:=Lib.hid (hm.out.trans hm')
  clear S hm hm' GR'
  have S:=Lib.hid (show St w0 w6 ((_,#[.bool y.m,.bool y.v.b,.slice y.v.x.A y.v.x.n y.v.x.c,.slice y.v.y.A y.v.y.n y.v.y.c,.int .i64 y.l],58)::(gv,#[.bool y.m,.bool y.v.b,.slice y.v.x.A y.v.x.n y.v.x.c,.slice y.v.y.A y.v.y.n y.v.y.c,.int .i64 y.l],58)::(cb,(clC.all Ls).toArray,56)::(B++(oL++oE'))) rs from S'.prm (by show List.Perm (_::_::_::((B++oL)++oE')) (_::_::_::(B++(oL++oE')));rw[List.append_assoc]))
  have hm:=hmT
  clear S' hmT
  replace hlL:=Lib.hid hlL
  replace hoE':=Lib.hid hoE'
  refine hK.out _ _ ⟨(S.out.bk _ (List.mem_cons_of_mem _ (List.mem_cons_of_mem _ (List.mem_cons_of_mem _ (List.mem_append_left _ h3.out))))).1,S.out.cb 1 rfl⟩ ?_
  clear hK K'
  try simp only[Act.put,List.setIfInBounds_toArray,List.set_cons_zero,List.set_cons_succ]
  refine Wk.o (i:=8) at8 (by kernel_rfl) fun K' hK=>?_
  go_simp
  refine hK.out _ _ ⟨(S.out.bk _ (List.mem_cons_of_mem _ (List.mem_cons_of_mem _ (List.mem_cons_of_mem _ (List.mem_append_left _ h3.out))))).1,S.out.cb 1 rfl⟩ ?_
  clear hK K'
  try simp only[Act.put,List.setIfInBounds_toArray,List.set_cons_zero,List.set_cons_succ]
  refine Wk.o (i:=9) at9 (by kernel_rfl) fun K' hK=>?_
  go_simp
  refine hK.out _ _ ⟨(S.out.bk _ (List.mem_cons_of_mem _ (List.mem_cons_of_mem _ (List.mem_cons_of_mem _ (List.mem_append_left _ h3.out))))).1,S.out.cb 1 rfl⟩ ?_
  clear hK K'
  try simp only[Act.put,List.setIfInBounds_toArray,List.set_cons_zero,List.set_cons_succ]
  refine Wk.o (i:=10) at10 (by kernel_rfl) fun K' hK=>?_
  have qv:World.cell? _ ⟨cb,j*4+3,none⟩=some (.slice c.ce.A c.ce.L.length c.ce.c):=St_elm S.out (C:=clC) 2 rfl hj.out 3 rfl
  have qf:World.frozen? _ ⟨cb,j*4+3,none⟩=false:=S.out.f 2 _ rfl
  unfold Sl.v
  go_simp
  have T:=Lib.hid (St_set3 S.out hj.out l')
  have hmT:=Lib.hid (hm.out.set (S.out.cb 2 rfl) (j*4+3) (.slice l'.A l'.L.length l'.c))
  clear S hm qv qf
  have S:=T
  have hm:=hmT
  clear T hmT
  refine hK.out _ _ ⟨(S.out.bk _ (List.mem_cons_of_mem _ (List.mem_cons_of_mem _ (List.mem_cons_of_mem _ (List.mem_append_left _ h3.out))))).1,S.out.cb 1 rfl⟩ ?_
  clear hK K'
  try simp only[Act.put,List.setIfInBounds_toArray,List.set_cons_zero,List.set_cons_succ]
  refine Wk.done (by kernel_rfl) ?_
  go_simp
  clear hj h6 hgs
  go_wp2
  go_ret
  refine⟨rfl,⟨c.n,c.k,c.lv,l'⟩,oL,oE',rs,?_,fun _ h=>h,hoL.out,hoE'.out,rfl,rfl,rfl,?_,hm.out⟩
  ·have:=S.out.sub2.sub2
   exact this
  ·show l'.L.map Ce.cx=_
   rw[hlL.out,List.map_append]
   rw[List.map_cons,List.map_nil,hyc.out]
set_option maxRecDepth 100000 in
set_option maxHeartbeats 4000000 in
theorem ad2_yes (x:Fe) (cb j b6 b5 b3 u gs m:Nat) (Ls:List Cl) (c:Cl) (s:ByteArray) (w0 w:World) (B oL oE:List GBk) (rs:List GRd) (S0:St w0 w (((cb,(clC.all Ls).toArray,56)::B)++(oL++oE)) rs) (hj:Ls[j]?=some c) (h6:(b6,#[.func (.func 87) #[] #[.pointer (some ⟨gs,0,none⟩)]],27)∈B) (h3:(b3,#[.pointer (some ⟨cb,j*4,none⟩)],89)∈B) (hgs:(gs,#[.map (some m)],115)∈B) (hM:MapS w m x.mi.L) (hoL:OBt oL c.lv) (hoE:OBc w0 rs oE c.ce) (hs:s.size≤300) (hx:LtF x) (hl:c.lv.L.length≤32) (he:c.ce.L.length≤2000) (hk:(x.k==1)=true) (h5:(b5,#[.func (.func 141) #[] #[.pointer (some ⟨u,0,none⟩)]],124)∈B) (hu:(u,#[.bool x.u.b,.slice x.u.x.A x.u.x.n x.u.x.c,.slice x.u.y.A x.u.y.n x.u.y.c],46)∈B) (R1:Rd w0 x.u.x.A x.u.x.n x.u.x.c x.u.x.x) (R2:Rd w0 x.u.y.A x.u.y.n x.u.y.c x.u.y.x) (hin:inB s x.mi.L=false) (hp:pOk s=true):Calls Tryz.prog 101 #[.string s,.pointer (some ⟨b6,0,none⟩),.pointer (some ⟨b5,0,none⟩),.pointer (some ⟨b3,0,none⟩)] w fun e w'=>e=.returned (.int .i64 (addX x c.lv.L s).1)∧∃ (c':Cl) (oL' oE':List GBk) (rs':List GRd),St w0 w' (((cb,(clC.all (Ls.set j c')).toArray,56)::B)++(oL'++oE')) rs'∧SubR rs rs'∧OBt oL' c'.lv∧OBc w0 rs' oE' c'.ce∧c'.n=c.n∧c'.k=c.k∧c'.lv.L=(addX x c.lv.L s).2.1∧c'.ce.L.map Ce.cx=c.ce.L.map Ce.cx++[(addX x c.lv.L s).2.2]∧MK w w':=by
 have hMi:Hid (∀ W,SetAt W gs x.mi.L→Calls Tryz.prog 87 #[.string s,.pointer (some ⟨gs,0,none⟩)] W fun e w'=>e=.returned (.bool (inB s x.mi.L))∧w'=W):=Lib.hid fun W h=>oneOf1_any x.mi.L s gs W h (by omega)
 have S1:St w0 _ ((w.heap.size,#[.bool true,.bool false,.slice none 0 0,.slice none 0 0,.int .i64 0],58)::(cb,(clC.all Ls).toArray,56)::(B++(oL++oE))) rs:=St.allocAt (bs:=(cb,(clC.all Ls).toArray,56)::(B++(oL++oE))) S0 w.heap.size #[.bool true,.bool false,.slice none 0 0,.slice none 0 0,.int .i64 0] 58 (noLof rfl) rfl
 have hm:=Lib.hid ((MK.refl w).alloc (.cells #[.bool true,.bool false,.slice none 0 0,.slice none 0 0,.int .i64 0] 58))
 replace h6:=Lib.hid h6
 replace h3:=Lib.hid h3
 replace hgs:=Lib.hid hgs
 replace hj:=Lib.hid hj
 replace hoL:=Lib.hid hoL
 replace hoE:=Lib.hid hoE
 have hee:=Lib.hid he
 have hset:=Lib.hid (show SetAt _ gs x.mi.L from ⟨m,(S1.bk _ (List.mem_cons_of_mem _ (List.mem_cons_of_mem _ (List.mem_append_left _ hgs.out)))).1,hM.mk hm.out⟩)
 have e6:=(S1.bk _ (List.mem_cons_of_mem _ (List.mem_cons_of_mem _ (List.mem_append_left _ h6.out)))).1.cell (i:=0) rfl
 obtain⟨ax,hax0⟩:∃ z,z=addX x c.lv.L s:=⟨_,rfl⟩
 rw[←hax0]
 replace hax0:=Lib.hid hax0
 rw[hin] at hMi
 obtain⟨q,hq⟩:∃ q,pQ s*x.uq=q:=⟨_,rfl⟩
 have hN:Hid (∀ W,Cb W u #[.bool x.u.b,.slice x.u.x.A x.u.x.n x.u.x.c,.slice x.u.y.A x.u.y.n x.u.y.c] 46→Below w0.heap.size w0 W→Calls Tryz.prog 141 #[.string s,.pointer (some ⟨u,0,none⟩)] W fun e w'=>∃ A n c D m d,e=.returned (.tuple #[.agg #[.bool false,.bool (ng q.num),.slice A n c,.slice D m d,.int .i64 0],.int .i64 0])∧RR w' A n c D m d q∧Below W.heap.size W w'):=Lib.hid fun W hc hb=>by rw[←hq];exact nr1_yes x s u W hc (R1.below hb) (R2.below hb) hx hs hp
 replace h5:=Lib.hid h5
 replace hu:=Lib.hid hu
 clear R1 R2
 replace S1:=Lib.hid S1
 clear S0 hM hs hx he hl
 go_enter Tryz.func101,Tryz.ntmps101
 have hax:addX x c.lv.L s=(0,c.lv.L,false,ng q.num,limbs q.num.natAbs,dn q,0):=by unfold addX;rw[hin,if_neg (by simp),if_pos hk,if_pos hp];rw[hq]
 have hax2:=hax0.out.trans hax
 clear hax hax0 hin hp hk hq
 subst hax2
 go_wp2_with fail
 refine (hMi.out _ hset.out).mono ?_
 rintro e w1 ⟨rfl,rfl⟩
 clear hMi hset e6
 have e5:=(S1.out.bk _ (List.mem_cons_of_mem _ (List.mem_cons_of_mem _ (List.mem_append_left _ h5.out)))).1.cell (i:=0) rfl
 go_wp2_with fail
 refine (hN.out _ (S1.out.bk _ (List.mem_cons_of_mem _ (List.mem_cons_of_mem _ (List.mem_append_left _ hu.out)))).1 S1.out.bel).mono ?_
 rintro e w2 ⟨A2,n2,c2,D2,m2,d2,rfl,Q2,bb⟩
 have T:=Lib.hid ((S1.out.call bb).read Q2.n |>.read Q2.d)
 have hm1:=Lib.hid (hm.out.bel bb)
 clear S1 hm bb e5 hN Q2
 have S1:=T
 clear T
 have qc0:=S1.out.cl 0 0 rfl rfl
 have qf0:=S1.out.f 0 0 rfl
 have qc1:=S1.out.cl 0 1 rfl rfl
 have qf1:=S1.out.f 0 1 rfl
 have qc2:=S1.out.cl 0 2 rfl rfl
 have qf2:=S1.out.f 0 2 rfl
 have qc3:=S1.out.cl 0 3 rfl rfl
 have qf3:=S1.out.f 0 3 rfl
 have qc4:=S1.out.cl 0 4 rfl rfl
 have qf4:=S1.out.f 0 4 rfl
 have S2:=(((((S1.out.set 0 0 (.bool false) rfl (by nofun)).set 0 1 (.bool (ng q.num)) rfl (by nofun)).set 0 2 (.slice A2 n2 c2) rfl (by nofun)).set 0 3 (.slice D2 m2 d2) rfl (by nofun)).set 0 4 (.int .i64 0) rfl (by nofun))
 have hm2:=Lib.hid (((((hm1.out.set (S1.out.cb 0 rfl) 0 (.bool false)).set ((S1.out.cb 0 rfl).set 0 (.bool false)) 1 (.bool (ng q.num))).set (((S1.out.cb 0 rfl).set 0 (.bool false)).set 1 (.bool (ng q.num))) 2 (.slice A2 n2 c2)).set ((((S1.out.cb 0 rfl).set 0 (.bool false)).set 1 (.bool (ng q.num))).set 2 (.slice A2 n2 c2)) 3 (.slice D2 m2 d2)).set (((((S1.out.cb 0 rfl).set 0 (.bool false)).set 1 (.bool (ng q.num))).set 2 (.slice A2 n2 c2)).set 3 (.slice D2 m2 d2)) 4 (.int .i64 0))
 go_upto_region 4 with fail
 clear S1 hm1 qc0 qf0 qc1 qf1 qc2 qf2 qc3 qf3 qc4 qf4
 obtain⟨y,hy⟩:∃ y:Ce,y=⟨false,⟨ng q.num,⟨A2,n2,c2,limbs q.num.natAbs⟩,⟨D2,m2,d2,dn q⟩⟩,0⟩:=⟨_,rfl⟩
 obtain⟨gv,hgv⟩:∃ g,g=w.heap.size:=⟨_,rfl⟩
 generalize hW:(World.setCell _ _ _)=w4 at S2 hm2 ⊢
 clear hW
 have S3:=St.cast (bs':=(gv,#[.bool y.m,.bool y.v.b,.slice y.v.x.A y.v.x.n y.v.x.c,.slice y.v.y.A y.v.y.n y.v.y.c,.int .i64 y.l],58)::(cb,(clC.all Ls).toArray,56)::(B++(oL++oE))) S2 (by subst hy;subst hgv;rfl)
 rw[←hgv]
 have hyc:=Lib.hid (show y.cx=(false,ng q.num,limbs q.num.natAbs,dn q,0) by rw[hy];rfl)
 have hin:=Lib.hid (show ceC.In w0 [] ((D2,m2,d2,dn q)::(A2,n2,c2,limbs q.num.natAbs)::rs) y from by rw[hy];exact ce_in.2 ⟨.inl (List.mem_cons_of_mem _ List.mem_cons_self),.inl List.mem_cons_self⟩)
 clear S2 hy hgv
 have S:=Lib.hid S3
 have hm:=hm2
 clear S3 hm2
 have hoE2:=Lib.hid (hoE.out.mono (rs':=((D2,m2,d2,dn q)::(A2,n2,c2,limbs q.num.natAbs)::rs)) (fun p hp=>List.mem_cons_of_mem _ (List.mem_cons_of_mem _ hp)))
 have hbase:=Lib.hid (St.new w4)
 refine RW.begin (Z:=[]) (S:=(fun W=>Cb W b3 #[.pointer (some ⟨cb,j*4,none⟩)] 89∧Cb W gv #[.bool y.m,.bool y.v.b,.slice y.v.x.A y.v.x.n y.v.x.c,.slice y.v.y.A y.v.y.n y.v.y.c,.int .i64 y.l] 58)) (by kernel_rfl) ?_ hbase.out ?_
 ·exact⟨by kernel_rfl,zis_nil,by decide,by decide,nol_nil,(fun _ _ h=>⟨((S.out.bk _ (List.mem_cons_of_mem _ (List.mem_cons_of_mem _ (List.mem_append_left _ h3.out)))).1).bel h.bel,(S.out.cb 0 rfl).bel h.bel⟩)⟩
 intro hzk
 refine RW.t (i:=0) (v:=.pointer (some ⟨cb,j*4,none⟩)) (some 19) at0 (hy:=fun W hS=>by (have k0:=Cb.cell (i:=0) hS.1 rfl;clear hS;go_simp)) (h:=?_)
 refine RW.t (i:=1) (v:=.pointer (some ⟨cb,j*4,none⟩)) (some 20) at1 (hy:=fun W hS=>by (have k0:=Cb.cell (i:=0) hS.1 rfl;clear hS;go_simp)) (h:=?_)
 refine RW.t (i:=2) (v:=.pointer (some ⟨cb,j*4,none⟩)) (some 21) at2 (hy:=fun _ _=>by kernel_rfl) (h:=?_)
 refine RW.t (i:=3) (v:=.pointer (some ⟨cb,j*4+3,none⟩)) (some 22) at3 (hy:=fun _ _=>by kernel_rfl) (h:=?_)
 refine RW.t (i:=5) (v:=.agg #[.bool y.m,.bool y.v.b,.slice y.v.x.A y.v.x.n y.v.x.c,.slice y.v.y.A y.v.y.n y.v.y.c,.int .i64 y.l]) (some 24) at5 (hy:=fun W hS=>by (have k0:=Cb.cell (i:=0) hS.2 rfl;have k1:=Cb.cell (i:=1) hS.2 rfl;have k2:=Cb.cell (i:=2) hS.2 rfl;have k3:=Cb.cell (i:=3) hS.2 rfl;have k4:=Cb.cell (i:=4) hS.2 rfl;clear hS;go_simp)) (h:=?_)
 refine RW.tail hzk.out (by kernel_rfl) ?_
 intro gs' w5 hgs' hS Sb
 obtain rfl:=len0 hgs'
 simp only[mark,fill,Act.put,List.setIfInBounds_toArray,List.set_cons_zero,List.set_cons_succ]
 have T:=Lib.hid (S.out.call Sb.bel)
 have hmT:=Lib.hid (hm.out.bel Sb.bel)
 clear S hm Sb hS hgs' hzk hbase
 have S:=T
 have hm:=hmT
 clear T hmT
 refine Wk.two (i:=4) (j:=6) at4 at6 (by kernel_rfl) (fun K' hK=>?_) (fun K' hK=>?_)
 ·
  have qv:World.cell? _ ⟨cb,j*4+3,none⟩=some (.slice c.ce.A c.ce.L.length c.ce.c):=St_elm S.out (C:=clC) 1 rfl hj.out 3 rfl
  go_simp
  refine hK.out _ _ ⟨(S.out.bk _ (List.mem_cons_of_mem _ (List.mem_cons_of_mem _ (List.mem_append_left _ h3.out)))).1,S.out.cb 0 rfl⟩ ?_
  clear qv
  clear hK K'
  try simp only[Act.put,List.setIfInBounds_toArray,List.set_cons_zero,List.set_cons_succ]
  refine Wk.o (i:=6) at6 (by kernel_rfl) fun K' hK=>?_
  go_simp
  have T:=Lib.hid (S.out.alloc #[.bool y.m,.bool y.v.b,.slice y.v.x.A y.v.x.n y.v.x.c,.slice y.v.y.A y.v.y.n y.v.y.c,.int .i64 y.l] 58 (noLof rfl))
  have hmT:=Lib.hid (hm.out.alloc (.cells #[.bool y.m,.bool y.v.b,.slice y.v.x.A y.v.x.n y.v.x.c,.slice y.v.y.A y.v.y.n y.v.y.c,.int .i64 y.l] 58))
  clear S hm
  have S:=T
  have hm:=hmT
  clear T hmT
  refine hK.out _ _ ⟨(S.out.bk _ (List.mem_cons_of_mem _ (List.mem_cons_of_mem _ (List.mem_cons_of_mem _ (List.mem_append_left _ h3.out))))).1,S.out.cb 1 rfl⟩ ?_
  clear hK K'
  try simp only[Act.put,List.setIfInBounds_toArray,List.set_cons_zero,List.set_cons_succ]
  refine Wk.o (i:=7) at7 (by kernel_rfl) fun K' hK=>?_
  have GR:=OBc.gro (bs:=(_,#[.bool y.m,.bool y.v.b,.slice y.v.x.A y.v.x.n y.v.x.c,.slice y.v.y.A y.v.y.n y.v.y.c,.int .i64 y.l],58)::(gv,#[.bool y.m,.bool y.v.b,.slice y.v.x.A y.v.x.n y.v.x.c,.slice y.v.y.A y.v.y.n y.v.y.c,.int .i64 y.l],58)::(cb,(clC.all Ls).toArray,56)::(B++oL)) hoE2.out (S.out.prm (by show List.Perm (_::_::_::(B++(oL++oE))) (_::_::_::((B++oL)++oE));rw[List.append_assoc]))
  have hcl:=GR.st.cb 0 rfl
  refine Gro.op (.tmp 23) (.tmp 25) 54 rfl (.agg Ce0.vs) 72 Tryz.underlying54 (by kernel_rfl) rfl (fun v hv z e=>by simp[Value.cells,Ce0,Nl0] at hv;subst e;simp at hv) rfl GR _ y rfl hcl (ce_in.2 (ce_in.1 hin.out)) (by have:=hee.out;omega) (by have:=hee.out;unfold maxLen;omega) ?_
  intro v' w6 GR' hm'
  clear GR hcl
  obtain⟨l',oE',rfl,hlL,hoE',S'⟩:=GR'.opc
  have hmT:=Lib.hid (hm.out.trans hm')
  clear S hm hm' GR'
  have S:=Lib.hid (show St w0 w6 ((_,#[.bool y.m,.bool y.v.b,.slice y.v.x.A y.v.x.n y.v.x.c,.slice y.v.y.A y.v.y.n y.v.y.c,.int .i64 y.l],58)::(gv,#[.bool y.m,.bool y.v.b,.slice y.v.x.A y.v.x.n y.v.x.c,.slice y.v.y.A y.v.y.n y.v.y.c,.int .i64 y.l],58)::(cb,(clC.all Ls).toArray,56)::(B++(oL++oE'))) ((D2,m2,d2,dn q)::(A2,n2,c2,limbs q.num.natAbs)::rs) from S'.prm (by show List.Perm (_::_::_::((B++oL)++oE')) (_::_::_::(B++(oL++oE')));rw[List.append_assoc]))
  have hm:=hmT
  clear S' hmT
  replace hlL:=Lib.hid hlL
  replace hoE':=Lib.hid hoE'
  refine hK.out _ _ ⟨(S.out.bk _ (List.mem_cons_of_mem _ (List.mem_cons_of_mem _ (List.mem_cons_of_mem _ (List.mem_append_left _ h3.out))))).1,S.out.cb 1 rfl⟩ ?_
  clear hK K'
  try simp only[Act.put,List.setIfInBounds_toArray,List.set_cons_zero,List.set_cons_succ]
  refine Wk.o (i:=8) at8 (by kernel_rfl) fun K' hK=>?_
  go_simp
  refine hK.out _ _ ⟨(S.out.bk _ (List.mem_cons_of_mem _ (List.mem_cons_of_mem _ (List.mem_cons_of_mem _ (List.mem_append_left _ h3.out))))).1,S.out.cb 1 rfl⟩ ?_
  clear hK K'
  try simp only[Act.put,List.setIfInBounds_toArray,List.set_cons_zero,List.set_cons_succ]
  refine Wk.o (i:=9) at9 (by kernel_rfl) fun K' hK=>?_
  go_simp
  refine hK.out _ _ ⟨(S.out.bk _ (List.mem_cons_of_mem _ (List.mem_cons_of_mem _ (List.mem_cons_of_mem _ (List.mem_append_left _ h3.out))))).1,S.out.cb 1 rfl⟩ ?_
  clear hK K'
  try simp only[Act.put,List.setIfInBounds_toArray,List.set_cons_zero,List.set_cons_succ]
  refine Wk.o (i:=10) at10 (by kernel_rfl) fun K' hK=>?_
  have qv:World.cell? _ ⟨cb,j*4+3,none⟩=some (.slice c.ce.A c.ce.L.length c.ce.c):=St_elm S.out (C:=clC) 2 rfl hj.out 3 rfl
  have qf:World.frozen? _ ⟨cb,j*4+3,none⟩=false:=S.out.f 2 _ rfl
  unfold Sl.v
  go_simp
  have T:=Lib.hid (St_set3 S.out hj.out l')
  have hmT:=Lib.hid (hm.out.set (S.out.cb 2 rfl) (j*4+3) (.slice l'.A l'.L.length l'.c))
  clear S hm qv qf
  have S:=T
  have hm:=hmT
  clear T hmT
  refine hK.out _ _ ⟨(S.out.bk _ (List.mem_cons_of_mem _ (List.mem_cons_of_mem _ (List.mem_cons_of_mem _ (List.mem_append_left _ h3.out))))).1,S.out.cb 1 rfl⟩ ?_
  clear hK K'
  try simp only[Act.put,List.setIfInBounds_toArray,List.set_cons_zero,List.set_cons_succ]
  refine Wk.done (by kernel_rfl) ?_
  go_simp
  clear hj h6 hgs
  go_wp2
  go_ret
  refine⟨rfl,⟨c.n,c.k,c.lv,l'⟩,oL,oE',((D2,m2,d2,dn q)::(A2,n2,c2,limbs q.num.natAbs)::rs),?_,fun _ h=>List.mem_cons_of_mem _ (List.mem_cons_of_mem _ h),hoL.out,hoE'.out,rfl,rfl,rfl,?_,hm.out⟩
  ·have:=S.out.sub2.sub2
   exact this
  ·show l'.L.map Ce.cx=_
   rw[hlL.out,List.map_append]
   rw[List.map_cons,List.map_nil,hyc.out]
 ·
  go_simp
  have T:=Lib.hid (S.out.alloc #[.bool y.m,.bool y.v.b,.slice y.v.x.A y.v.x.n y.v.x.c,.slice y.v.y.A y.v.y.n y.v.y.c,.int .i64 y.l] 58 (noLof rfl))
  have hmT:=Lib.hid (hm.out.alloc (.cells #[.bool y.m,.bool y.v.b,.slice y.v.x.A y.v.x.n y.v.x.c,.slice y.v.y.A y.v.y.n y.v.y.c,.int .i64 y.l] 58))
  clear S hm
  have S:=T
  have hm:=hmT
  clear T hmT
  refine hK.out _ _ ⟨(S.out.bk _ (List.mem_cons_of_mem _ (List.mem_cons_of_mem _ (List.mem_cons_of_mem _ (List.mem_append_left _ h3.out))))).1,S.out.cb 1 rfl⟩ ?_
  clear hK K'
  try simp only[Act.put,List.setIfInBounds_toArray,List.set_cons_zero,List.set_cons_succ]
  refine Wk.o (i:=4) at4 (by kernel_rfl) fun K' hK=>?_
  have qv:World.cell? _ ⟨cb,j*4+3,none⟩=some (.slice c.ce.A c.ce.L.length c.ce.c):=St_elm S.out (C:=clC) 2 rfl hj.out 3 rfl
  go_simp
  refine hK.out _ _ ⟨(S.out.bk _ (List.mem_cons_of_mem _ (List.mem_cons_of_mem _ (List.mem_cons_of_mem _ (List.mem_append_left _ h3.out))))).1,S.out.cb 1 rfl⟩ ?_
  clear qv
  clear hK K'
  try simp only[Act.put,List.setIfInBounds_toArray,List.set_cons_zero,List.set_cons_succ]
  refine Wk.o (i:=7) at7 (by kernel_rfl) fun K' hK=>?_
  have GR:=OBc.gro (bs:=(_,#[.bool y.m,.bool y.v.b,.slice y.v.x.A y.v.x.n y.v.x.c,.slice y.v.y.A y.v.y.n y.v.y.c,.int .i64 y.l],58)::(gv,#[.bool y.m,.bool y.v.b,.slice y.v.x.A y.v.x.n y.v.x.c,.slice y.v.y.A y.v.y.n y.v.y.c,.int .i64 y.l],58)::(cb,(clC.all Ls).toArray,56)::(B++oL)) hoE2.out (S.out.prm (by show List.Perm (_::_::_::(B++(oL++oE))) (_::_::_::((B++oL)++oE));rw[List.append_assoc]))
  have hcl:=GR.st.cb 0 rfl
  refine Gro.op (.tmp 23) (.tmp 25) 54 rfl (.agg Ce0.vs) 72 Tryz.underlying54 (by kernel_rfl) rfl (fun v hv z e=>by simp[Value.cells,Ce0,Nl0] at hv;subst e;simp at hv) rfl GR _ y rfl hcl (ce_in.2 (ce_in.1 hin.out)) (by have:=hee.out;omega) (by have:=hee.out;unfold maxLen;omega) ?_
  intro v' w6 GR' hm'
  clear GR hcl
  obtain⟨l',oE',rfl,hlL,hoE',S'⟩:=GR'.opc
  have hmT:=Lib.hid (hm.out.trans hm')
  clear S hm hm' GR'
  have S:=Lib.hid (show St w0 w6 ((_,#[.bool y.m,.bool y.v.b,.slice y.v.x.A y.v.x.n y.v.x.c,.slice y.v.y.A y.v.y.n y.v.y.c,.int .i64 y.l],58)::(gv,#[.bool y.m,.bool y.v.b,.slice y.v.x.A y.v.x.n y.v.x.c,.slice y.v.y.A y.v.y.n y.v.y.c,.int .i64 y.l],58)::(cb,(clC.all Ls).toArray,56)::(B++(oL++oE'))) ((D2,m2,d2,dn q)::(A2,n2,c2,limbs q.num.natAbs)::rs) from S'.prm (by show List.Perm (_::_::_::((B++oL)++oE')) (_::_::_::(B++(oL++oE')));rw[List.append_assoc]))
  have hm:=hmT
  clear S' hmT
  replace hlL:=Lib.hid hlL
  replace hoE':=Lib.hid hoE'
  refine hK.out _ _ ⟨(S.out.bk _ (List.mem_cons_of_mem _ (List.mem_cons_of_mem _ (List.mem_cons_of_mem _ (List.mem_append_left _ h3.out))))).1,S.out.cb 1 rfl⟩ ?_
  clear hK K'
  try simp only[Act.put,List.setIfInBounds_toArray,List.set_cons_zero,List.set_cons_succ]
  refine Wk.o (i:=8) at8 (by kernel_rfl) fun K' hK=>?_
  go_simp
  refine hK.out _ _ ⟨(S.out.bk _ (List.mem_cons_of_mem _ (List.mem_cons_of_mem _ (List.mem_cons_of_mem _ (List.mem_append_left _ h3.out))))).1,S.out.cb 1 rfl⟩ ?_
  clear hK K'
  try simp only[Act.put,List.setIfInBounds_toArray,List.set_cons_zero,List.set_cons_succ]
  refine Wk.o (i:=9) at9 (by kernel_rfl) fun K' hK=>?_
  go_simp
  refine hK.out _ _ ⟨(S.out.bk _ (List.mem_cons_of_mem _ (List.mem_cons_of_mem _ (List.mem_cons_of_mem _ (List.mem_append_left _ h3.out))))).1,S.out.cb 1 rfl⟩ ?_
  clear hK K'
  try simp only[Act.put,List.setIfInBounds_toArray,List.set_cons_zero,List.set_cons_succ]
  refine Wk.o (i:=10) at10 (by kernel_rfl) fun K' hK=>?_
  have qv:World.cell? _ ⟨cb,j*4+3,none⟩=some (.slice c.ce.A c.ce.L.length c.ce.c):=St_elm S.out (C:=clC) 2 rfl hj.out 3 rfl
  have qf:World.frozen? _ ⟨cb,j*4+3,none⟩=false:=S.out.f 2 _ rfl
  unfold Sl.v
  go_simp
  have T:=Lib.hid (St_set3 S.out hj.out l')
  have hmT:=Lib.hid (hm.out.set (S.out.cb 2 rfl) (j*4+3) (.slice l'.A l'.L.length l'.c))
  clear S hm qv qf
  have S:=T
  have hm:=hmT
  clear T hmT
  refine hK.out _ _ ⟨(S.out.bk _ (List.mem_cons_of_mem _ (List.mem_cons_of_mem _ (List.mem_cons_of_mem _ (List.mem_append_left _ h3.out))))).1,S.out.cb 1 rfl⟩ ?_
  clear hK K'
  try simp only[Act.put,List.setIfInBounds_toArray,List.set_cons_zero,List.set_cons_succ]
  refine Wk.done (by kernel_rfl) ?_
  go_simp
  clear hj h6 hgs
  go_wp2
  go_ret
  refine⟨rfl,⟨c.n,c.k,c.lv,l'⟩,oL,oE',((D2,m2,d2,dn q)::(A2,n2,c2,limbs q.num.natAbs)::rs),?_,fun _ h=>List.mem_cons_of_mem _ (List.mem_cons_of_mem _ h),hoL.out,hoE'.out,rfl,rfl,rfl,?_,hm.out⟩
  ·have:=S.out.sub2.sub2
   exact this
  ·show l'.L.map Ce.cx=_
   rw[hlL.out,List.map_append]
   rw[List.map_cons,List.map_nil,hyc.out]
set_option maxRecDepth 100000 in
set_option maxHeartbeats 4000000 in
theorem ad2_no (x:Fe) (cb j b6 b5 b3 u gs m:Nat) (Ls:List Cl) (c:Cl) (s:ByteArray) (w0 w:World) (B oL oE:List GBk) (rs:List GRd) (S0:St w0 w (((cb,(clC.all Ls).toArray,56)::B)++(oL++oE)) rs) (hj:Ls[j]?=some c) (h6:(b6,#[.func (.func 87) #[] #[.pointer (some ⟨gs,0,none⟩)]],27)∈B) (h3:(b3,#[.pointer (some ⟨cb,j*4,none⟩)],89)∈B) (hgs:(gs,#[.map (some m)],115)∈B) (hM:MapS w m x.mi.L) (hoL:OBt oL c.lv) (hoE:OBc w0 rs oE c.ce) (hs:s.size≤300) (hx:LtF x) (hl:c.lv.L.length≤32) (he:c.ce.L.length≤2000) (hk:(x.k==1)=true) (h5:(b5,#[.func (.func 141) #[] #[.pointer (some ⟨u,0,none⟩)]],124)∈B) (hu:(u,#[.bool x.u.b,.slice x.u.x.A x.u.x.n x.u.x.c,.slice x.u.y.A x.u.y.n x.u.y.c],46)∈B) (R1:Rd w0 x.u.x.A x.u.x.n x.u.x.c x.u.x.x) (R2:Rd w0 x.u.y.A x.u.y.n x.u.y.c x.u.y.x) (hin:inB s x.mi.L=false) (hp:pOk s=false):Calls Tryz.prog 101 #[.string s,.pointer (some ⟨b6,0,none⟩),.pointer (some ⟨b5,0,none⟩),.pointer (some ⟨b3,0,none⟩)] w fun e w'=>e=.returned (.int .i64 (addX x c.lv.L s).1)∧∃ (c':Cl) (oL' oE':List GBk) (rs':List GRd),St w0 w' (((cb,(clC.all (Ls.set j c')).toArray,56)::B)++(oL'++oE')) rs'∧SubR rs rs'∧OBt oL' c'.lv∧OBc w0 rs' oE' c'.ce∧c'.n=c.n∧c'.k=c.k∧c'.lv.L=(addX x c.lv.L s).2.1∧c'.ce.L.map Ce.cx=c.ce.L.map Ce.cx++[(addX x c.lv.L s).2.2]∧MK w w':=by
 have hMi:Hid (∀ W,SetAt W gs x.mi.L→Calls Tryz.prog 87 #[.string s,.pointer (some ⟨gs,0,none⟩)] W fun e w'=>e=.returned (.bool (inB s x.mi.L))∧w'=W):=Lib.hid fun W h=>oneOf1_any x.mi.L s gs W h (by omega)
 have S1:St w0 _ ((w.heap.size,#[.bool true,.bool false,.slice none 0 0,.slice none 0 0,.int .i64 0],58)::(cb,(clC.all Ls).toArray,56)::(B++(oL++oE))) rs:=St.allocAt (bs:=(cb,(clC.all Ls).toArray,56)::(B++(oL++oE))) S0 w.heap.size #[.bool true,.bool false,.slice none 0 0,.slice none 0 0,.int .i64 0] 58 (noLof rfl) rfl
 have hm:=Lib.hid ((MK.refl w).alloc (.cells #[.bool true,.bool false,.slice none 0 0,.slice none 0 0,.int .i64 0] 58))
 replace h6:=Lib.hid h6
 replace h3:=Lib.hid h3
 replace hgs:=Lib.hid hgs
 replace hj:=Lib.hid hj
 replace hoL:=Lib.hid hoL
 replace hoE:=Lib.hid hoE
 have hee:=Lib.hid he
 have hset:=Lib.hid (show SetAt _ gs x.mi.L from ⟨m,(S1.bk _ (List.mem_cons_of_mem _ (List.mem_cons_of_mem _ (List.mem_append_left _ hgs.out)))).1,hM.mk hm.out⟩)
 have e6:=(S1.bk _ (List.mem_cons_of_mem _ (List.mem_cons_of_mem _ (List.mem_append_left _ h6.out)))).1.cell (i:=0) rfl
 obtain⟨ax,hax0⟩:∃ z,z=addX x c.lv.L s:=⟨_,rfl⟩
 rw[←hax0]
 replace hax0:=Lib.hid hax0
 rw[hin] at hMi
 have hN:Hid (∀ W,Cb W u #[.bool x.u.b,.slice x.u.x.A x.u.x.n x.u.x.c,.slice x.u.y.A x.u.y.n x.u.y.c] 46→Below w0.heap.size w0 W→Calls Tryz.prog 141 #[.string s,.pointer (some ⟨u,0,none⟩)] W fun e w'=>e=.returned (.tuple #[.agg #[.bool false,.bool false,.slice none 0 0,.slice none 0 0,.int .i64 0],.int .i64 4])∧Below W.heap.size W w'):=Lib.hid fun W hc hb=>nr1_no x s u W hc (R1.below hb) (R2.below hb) hx hs hp
 replace h5:=Lib.hid h5
 replace hu:=Lib.hid hu
 clear R1 R2
 replace S1:=Lib.hid S1
 clear S0 hM hs hx he hl
 go_enter Tryz.func101,Tryz.ntmps101
 have hax:addX x c.lv.L s=(4,c.lv.L,false,false,[],[],0):=by unfold addX;rw[hin,if_neg (by simp),if_pos hk,if_neg (by rw[hp];simp)]
 have hax2:=hax0.out.trans hax
 clear hax hax0 hin hp hk
 subst hax2
 go_wp2_with fail
 refine (hMi.out _ hset.out).mono ?_
 rintro e w1 ⟨rfl,rfl⟩
 clear hMi hset e6
 have e5:=(S1.out.bk _ (List.mem_cons_of_mem _ (List.mem_cons_of_mem _ (List.mem_append_left _ h5.out)))).1.cell (i:=0) rfl
 go_wp2_with fail
 refine (hN.out _ (S1.out.bk _ (List.mem_cons_of_mem _ (List.mem_cons_of_mem _ (List.mem_append_left _ hu.out)))).1 S1.out.bel).mono ?_
 rintro e w2 ⟨rfl,bb⟩
 have T:=Lib.hid ((S1.out.call bb))
 have hm1:=Lib.hid (hm.out.bel bb)
 clear S1 hm bb e5 hN
 have S1:=T
 clear T
 have qc0:=S1.out.cl 0 0 rfl rfl
 have qf0:=S1.out.f 0 0 rfl
 have qc1:=S1.out.cl 0 1 rfl rfl
 have qf1:=S1.out.f 0 1 rfl
 have qc2:=S1.out.cl 0 2 rfl rfl
 have qf2:=S1.out.f 0 2 rfl
 have qc3:=S1.out.cl 0 3 rfl rfl
 have qf3:=S1.out.f 0 3 rfl
 have qc4:=S1.out.cl 0 4 rfl rfl
 have qf4:=S1.out.f 0 4 rfl
 have S2:=(((((S1.out.set 0 0 (.bool false) rfl (by nofun)).set 0 1 (.bool false) rfl (by nofun)).set 0 2 (.slice none 0 0) rfl (by nofun)).set 0 3 (.slice none 0 0) rfl (by nofun)).set 0 4 (.int .i64 0) rfl (by nofun))
 have hm2:=Lib.hid (((((hm1.out.set (S1.out.cb 0 rfl) 0 (.bool false)).set ((S1.out.cb 0 rfl).set 0 (.bool false)) 1 (.bool false)).set (((S1.out.cb 0 rfl).set 0 (.bool false)).set 1 (.bool false)) 2 (.slice none 0 0)).set ((((S1.out.cb 0 rfl).set 0 (.bool false)).set 1 (.bool false)).set 2 (.slice none 0 0)) 3 (.slice none 0 0)).set (((((S1.out.cb 0 rfl).set 0 (.bool false)).set 1 (.bool false)).set 2 (.slice none 0 0)).set 3 (.slice none 0 0)) 4 (.int .i64 0))
 go_upto_region 4 with fail
 clear S1 hm1 qc0 qf0 qc1 qf1 qc2 qf2 qc3 qf3 qc4 qf4
 obtain⟨y,hy⟩:∃ y:Ce,y=⟨false,⟨false,Nl0,Nl0⟩,0⟩:=⟨_,rfl⟩
 obtain⟨gv,hgv⟩:∃ g,g=w.heap.size:=⟨_,rfl⟩
 generalize hW:(World.setCell _ _ _)=w4 at S2 hm2 ⊢
 clear hW
 have S3:=St.cast (bs':=(gv,#[.bool y.m,.bool y.v.b,.slice y.v.x.A y.v.x.n y.v.x.c,.slice y.v.y.A y.v.y.n y.v.y.c,.int .i64 y.l],58)::(cb,(clC.all Ls).toArray,56)::(B++(oL++oE))) S2 (by subst hy;subst hgv;rfl)
 rw[←hgv]
 have hyc:=Lib.hid (show y.cx=(false,false,[],[],0) by rw[hy];rfl)
 have hin:=Lib.hid (show ceC.In w0 [] rs y from by rw[hy];exact ce_in.2 ⟨.inr (Rd.nil_ _ _ _),.inr (Rd.nil_ _ _ _)⟩)
 clear S2 hy hgv
 have S:=Lib.hid S3
 have hm:=hm2
 clear S3 hm2
 have hoE2:=Lib.hid (hoE.out.mono (rs':=rs) (fun p hp=>hp))
 have hbase:=Lib.hid (St.new w4)
 refine RW.begin (Z:=[]) (S:=(fun W=>Cb W b3 #[.pointer (some ⟨cb,j*4,none⟩)] 89∧Cb W gv #[.bool y.m,.bool y.v.b,.slice y.v.x.A y.v.x.n y.v.x.c,.slice y.v.y.A y.v.y.n y.v.y.c,.int .i64 y.l] 58)) (by kernel_rfl) ?_ hbase.out ?_
 ·exact⟨by kernel_rfl,zis_nil,by decide,by decide,nol_nil,(fun _ _ h=>⟨((S.out.bk _ (List.mem_cons_of_mem _ (List.mem_cons_of_mem _ (List.mem_append_left _ h3.out)))).1).bel h.bel,(S.out.cb 0 rfl).bel h.bel⟩)⟩
 intro hzk
 refine RW.t (i:=0) (v:=.pointer (some ⟨cb,j*4,none⟩)) (some 19) at0 (hy:=fun W hS=>by (have k0:=Cb.cell (i:=0) hS.1 rfl;clear hS;go_simp)) (h:=?_)
 refine RW.t (i:=1) (v:=.pointer (some ⟨cb,j*4,none⟩)) (some 20) at1 (hy:=fun W hS=>by (have k0:=Cb.cell (i:=0) hS.1 rfl;clear hS;go_simp)) (h:=?_)
 refine RW.t (i:=2) (v:=.pointer (some ⟨cb,j*4,none⟩)) (some 21) at2 (hy:=fun _ _=>by kernel_rfl) (h:=?_)
 refine RW.t (i:=3) (v:=.pointer (some ⟨cb,j*4+3,none⟩)) (some 22) at3 (hy:=fun _ _=>by kernel_rfl) (h:=?_)
 refine RW.t (i:=5) (v:=.agg #[.bool y.m,.bool y.v.b,.slice y.v.x.A y.v.x.n y.v.x.c,.slice y.v.y.A y.v.y.n y.v.y.c,.int .i64 y.l]) (some 24) at5 (hy:=fun W hS=>by (have k0:=Cb.cell (i:=0) hS.2 rfl;have k1:=Cb.cell (i:=1) hS.2 rfl;have k2:=Cb.cell (i:=2) hS.2 rfl;have k3:=Cb.cell (i:=3) hS.2 rfl;have k4:=Cb.cell (i:=4) hS.2 rfl;clear hS;go_simp)) (h:=?_)
 refine RW.tail hzk.out (by kernel_rfl) ?_
 intro gs' w5 hgs' hS Sb
 obtain rfl:=len0 hgs'
 simp only[mark,fill,Act.put,List.setIfInBounds_toArray,List.set_cons_zero,List.set_cons_succ]
 have T:=Lib.hid (S.out.call Sb.bel)
 have hmT:=Lib.hid (hm.out.bel Sb.bel)
 clear S hm Sb hS hgs' hzk hbase
 have S:=T
 have hm:=hmT
 clear T hmT
 refine Wk.two (i:=4) (j:=6) at4 at6 (by kernel_rfl) (fun K' hK=>?_) (fun K' hK=>?_)
 ·
  have qv:World.cell? _ ⟨cb,j*4+3,none⟩=some (.slice c.ce.A c.ce.L.length c.ce.c):=St_elm S.out (C:=clC) 1 rfl hj.out 3 rfl
  go_simp
  refine hK.out _ _ ⟨(S.out.bk _ (List.mem_cons_of_mem _ (List.mem_cons_of_mem _ (List.mem_append_left _ h3.out)))).1,S.out.cb 0 rfl⟩ ?_
  clear qv
  clear hK K'
  try simp only[Act.put,List.setIfInBounds_toArray,List.set_cons_zero,List.set_cons_succ]
  refine Wk.o (i:=6) at6 (by kernel_rfl) fun K' hK=>?_
  go_simp
  have T:=Lib.hid (S.out.alloc #[.bool y.m,.bool y.v.b,.slice y.v.x.A y.v.x.n y.v.x.c,.slice y.v.y.A y.v.y.n y.v.y.c,.int .i64 y.l] 58 (noLof rfl))
  have hmT:=Lib.hid (hm.out.alloc (.cells #[.bool y.m,.bool y.v.b,.slice y.v.x.A y.v.x.n y.v.x.c,.slice y.v.y.A y.v.y.n y.v.y.c,.int .i64 y.l] 58))
  clear S hm
  have S:=T
  have hm:=hmT
  clear T hmT
  refine hK.out _ _ ⟨(S.out.bk _ (List.mem_cons_of_mem _ (List.mem_cons_of_mem _ (List.mem_cons_of_mem _ (List.mem_append_left _ h3.out))))).1,S.out.cb 1 rfl⟩ ?_
  clear hK K'
  try simp only[Act.put,List.setIfInBounds_toArray,List.set_cons_zero,List.set_cons_succ]
  refine Wk.o (i:=7) at7 (by kernel_rfl) fun K' hK=>?_
  have GR:=OBc.gro (bs:=(_,#[.bool y.m,.bool y.v.b,.slice y.v.x.A y.v.x.n y.v.x.c,.slice y.v.y.A y.v.y.n y.v.y.c,.int .i64 y.l],58)::(gv,#[.bool y.m,.bool y.v.b,.slice y.v.x.A y.v.x.n y.v.x.c,.slice y.v.y.A y.v.y.n y.v.y.c,.int .i64 y.l],58)::(cb,(clC.all Ls).toArray,56)::(B++oL)) hoE2.out (S.out.prm (by show List.Perm (_::_::_::(B++(oL++oE))) (_::_::_::((B++oL)++oE));rw[List.append_assoc]))
  have hcl:=GR.st.cb 0 rfl
  refine Gro.op (.tmp 23) (.tmp 25) 54 rfl (.agg Ce0.vs) 72 Tryz.underlying54 (by kernel_rfl) rfl (fun v hv z e=>by simp[Value.cells,Ce0,Nl0] at hv;subst e;simp at hv) rfl GR _ y rfl hcl (ce_in.2 (ce_in.1 hin.out)) (by have:=hee.out;omega) (by have:=hee.out;unfold maxLen;omega) ?_
  intro v' w6 GR' hm'
  clear GR hcl
  obtain⟨l',oE',rfl,hlL,hoE',S'⟩:=GR'.opc
  have hmT:=Lib.hid (hm.out.trans hm')
  clear S hm hm' GR'
  have S:=Lib.hid (show St w0 w6 ((_,#[.bool y.m,.bool y.v.b,.slice y.v.x.A y.v.x.n y.v.x.c,.slice y.v.y.A y.v.y.n y.v.y.c,.int .i64 y.l],58)::(gv,#[.bool y.m,.bool y.v.b,.slice y.v.x.A y.v.x.n y.v.x.c,.slice y.v.y.A y.v.y.n y.v.y.c,.int .i64 y.l],58)::(cb,(clC.all Ls).toArray,56)::(B++(oL++oE'))) rs from S'.prm (by show List.Perm (_::_::_::((B++oL)++oE')) (_::_::_::(B++(oL++oE')));rw[List.append_assoc]))
  have hm:=hmT
  clear S' hmT
  replace hlL:=Lib.hid hlL
  replace hoE':=Lib.hid hoE'
  refine hK.out _ _ ⟨(S.out.bk _ (List.mem_cons_of_mem _ (List.mem_cons_of_mem _ (List.mem_cons_of_mem _ (List.mem_append_left _ h3.out))))).1,S.out.cb 1 rfl⟩ ?_
  clear hK K'
  try simp only[Act.put,List.setIfInBounds_toArray,List.set_cons_zero,List.set_cons_succ]
  refine Wk.o (i:=8) at8 (by kernel_rfl) fun K' hK=>?_
  go_simp
  refine hK.out _ _ ⟨(S.out.bk _ (List.mem_cons_of_mem _ (List.mem_cons_of_mem _ (List.mem_cons_of_mem _ (List.mem_append_left _ h3.out))))).1,S.out.cb 1 rfl⟩ ?_
  clear hK K'
  try simp only[Act.put,List.setIfInBounds_toArray,List.set_cons_zero,List.set_cons_succ]
  refine Wk.o (i:=9) at9 (by kernel_rfl) fun K' hK=>?_
  go_simp
  refine hK.out _ _ ⟨(S.out.bk _ (List.mem_cons_of_mem _ (List.mem_cons_of_mem _ (List.mem_cons_of_mem _ (List.mem_append_left _ h3.out))))).1,S.out.cb 1 rfl⟩ ?_
  clear hK K'
  try simp only[Act.put,List.setIfInBounds_toArray,List.set_cons_zero,List.set_cons_succ]
  refine Wk.o (i:=10) at10 (by kernel_rfl) fun K' hK=>?_
  have qv:World.cell? _ ⟨cb,j*4+3,none⟩=some (.slice c.ce.A c.ce.L.length c.ce.c):=St_elm S.out (C:=clC) 2 rfl hj.out 3 rfl
  have qf:World.frozen? _ ⟨cb,j*4+3,none⟩=false:=S.out.f 2 _ rfl
  unfold Sl.v
  go_simp
  have T:=Lib.hid (St_set3 S.out hj.out l')
  have hmT:=Lib.hid (hm.out.set (S.out.cb 2 rfl) (j*4+3) (.slice l'.A l'.L.length l'.c))
  clear S hm qv qf
  have S:=T
  have hm:=hmT
  clear T hmT
  refine hK.out _ _ ⟨(S.out.bk _ (List.mem_cons_of_mem _ (List.mem_cons_of_mem _ (List.mem_cons_of_mem _ (List.mem_append_left _ h3.out))))).1,S.out.cb 1 rfl⟩ ?_
  clear hK K'
  try simp only[Act.put,List.setIfInBounds_toArray,List.set_cons_zero,List.set_cons_succ]
  refine Wk.done (by kernel_rfl) ?_
  go_simp
  clear hj h6 hgs
  go_wp2
  go_ret
  refine⟨rfl,⟨c.n,c.k,c.lv,l'⟩,oL,oE',rs,?_,fun _ h=>h,hoL.out,hoE'.out,rfl,rfl,rfl,?_,hm.out⟩
  ·have:=S.out.sub2.sub2
   exact this
  ·show l'.L.map Ce.cx=_
   rw[hlL.out,List.map_append]
   rw[List.map_cons,List.map_nil,hyc.out]
 ·
  go_simp
  have T:=Lib.hid (S.out.alloc #[.bool y.m,.bool y.v.b,.slice y.v.x.A y.v.x.n y.v.x.c,.slice y.v.y.A y.v.y.n y.v.y.c,.int .i64 y.l] 58 (noLof rfl))
  have hmT:=Lib.hid (hm.out.alloc (.cells #[.bool y.m,.bool y.v.b,.slice y.v.x.A y.v.x.n y.v.x.c,.slice y.v.y.A y.v.y.n y.v.y.c,.int .i64 y.l] 58))
  clear S hm
  have S:=T
  have hm:=hmT
  clear T hmT
  refine hK.out _ _ ⟨(S.out.bk _ (List.mem_cons_of_mem _ (List.mem_cons_of_mem _ (List.mem_cons_of_mem _ (List.mem_append_left _ h3.out))))).1,S.out.cb 1 rfl⟩ ?_
  clear hK K'
  try simp only[Act.put,List.setIfInBounds_toArray,List.set_cons_zero,List.set_cons_succ]
  refine Wk.o (i:=4) at4 (by kernel_rfl) fun K' hK=>?_
  have qv:World.cell? _ ⟨cb,j*4+3,none⟩=some (.slice c.ce.A c.ce.L.length c.ce.c):=St_elm S.out (C:=clC) 2 rfl hj.out 3 rfl
  go_simp
  refine hK.out _ _ ⟨(S.out.bk _ (List.mem_cons_of_mem _ (List.mem_cons_of_mem _ (List.mem_cons_of_mem _ (List.mem_append_left _ h3.out))))).1,S.out.cb 1 rfl⟩ ?_
  clear qv
  clear hK K'
  try simp only[Act.put,List.setIfInBounds_toArray,List.set_cons_zero,List.set_cons_succ]
  refine Wk.o (i:=7) at7 (by kernel_rfl) fun K' hK=>?_
  have GR:=OBc.gro (bs:=(_,#[.bool y.m,.bool y.v.b,.slice y.v.x.A y.v.x.n y.v.x.c,.slice y.v.y.A y.v.y.n y.v.y.c,.int .i64 y.l],58)::(gv,#[.bool y.m,.bool y.v.b,.slice y.v.x.A y.v.x.n y.v.x.c,.slice y.v.y.A y.v.y.n y.v.y.c,.int .i64 y.l],58)::(cb,(clC.all Ls).toArray,56)::(B++oL)) hoE2.out (S.out.prm (by show List.Perm (_::_::_::(B++(oL++oE))) (_::_::_::((B++oL)++oE));rw[List.append_assoc]))
  have hcl:=GR.st.cb 0 rfl
  refine Gro.op (.tmp 23) (.tmp 25) 54 rfl (.agg Ce0.vs) 72 Tryz.underlying54 (by kernel_rfl) rfl (fun v hv z e=>by simp[Value.cells,Ce0,Nl0] at hv;subst e;simp at hv) rfl GR _ y rfl hcl (ce_in.2 (ce_in.1 hin.out)) (by have:=hee.out;omega) (by have:=hee.out;unfold maxLen;omega) ?_
  intro v' w6 GR' hm'
  clear GR hcl
  obtain⟨l',oE',rfl,hlL,hoE',S'⟩:=GR'.opc
  have hmT:=Lib.hid (hm.out.trans hm')
  clear S hm hm' GR'
  have S:=Lib.hid (show St w0 w6 ((_,#[.bool y.m,.bool y.v.b,.slice y.v.x.A y.v.x.n y.v.x.c,.slice y.v.y.A y.v.y.n y.v.y.c,.int .i64 y.l],58)::(gv,#[.bool y.m,.bool y.v.b,.slice y.v.x.A y.v.x.n y.v.x.c,.slice y.v.y.A y.v.y.n y.v.y.c,.int .i64 y.l],58)::(cb,(clC.all Ls).toArray,56)::(B++(oL++oE'))) rs from S'.prm (by show List.Perm (_::_::_::((B++oL)++oE')) (_::_::_::(B++(oL++oE')));rw[List.append_assoc]))
  have hm:=hmT
  clear S' hmT
  replace hlL:=Lib.hid hlL
  replace hoE':=Lib.hid hoE'
  refine hK.out _ _ ⟨(S.out.bk _ (List.mem_cons_of_mem _ (List.mem_cons_of_mem _ (List.mem_cons_of_mem _ (List.mem_append_left _ h3.out))))).1,S.out.cb 1 rfl⟩ ?_
  clear hK K'
  try simp only[Act.put,List.setIfInBounds_toArray,List.set_cons_zero,List.set_cons_succ]
  refine Wk.o (i:=8) at8 (by kernel_rfl) fun K' hK=>?_
  go_simp
  refine hK.out _ _ ⟨(S.out.bk _ (List.mem_cons_of_mem _ (List.mem_cons_of_mem _ (List.mem_cons_of_mem _ (List.mem_append_left _ h3.out))))).1,S.out.cb 1 rfl⟩ ?_
  clear hK K'
  try simp only[Act.put,List.setIfInBounds_toArray,List.set_cons_zero,List.set_cons_succ]
  refine Wk.o (i:=9) at9 (by kernel_rfl) fun K' hK=>?_
  go_simp
  refine hK.out _ _ ⟨(S.out.bk _ (List.mem_cons_of_mem _ (List.mem_cons_of_mem _ (List.mem_cons_of_mem _ (List.mem_append_left _ h3.out))))).1,S.out.cb 1 rfl⟩ ?_
  clear hK K'
  try simp only[Act.put,List.setIfInBounds_toArray,List.set_cons_zero,List.set_cons_succ]
  refine Wk.o (i:=10) at10 (by kernel_rfl) fun K' hK=>?_
  have qv:World.cell? _ ⟨cb,j*4+3,none⟩=some (.slice c.ce.A c.ce.L.length c.ce.c):=St_elm S.out (C:=clC) 2 rfl hj.out 3 rfl
  have qf:World.frozen? _ ⟨cb,j*4+3,none⟩=false:=S.out.f 2 _ rfl
  unfold Sl.v
  go_simp
  have T:=Lib.hid (St_set3 S.out hj.out l')
  have hmT:=Lib.hid (hm.out.set (S.out.cb 2 rfl) (j*4+3) (.slice l'.A l'.L.length l'.c))
  clear S hm qv qf
  have S:=T
  have hm:=hmT
  clear T hmT
  refine hK.out _ _ ⟨(S.out.bk _ (List.mem_cons_of_mem _ (List.mem_cons_of_mem _ (List.mem_cons_of_mem _ (List.mem_append_left _ h3.out))))).1,S.out.cb 1 rfl⟩ ?_
  clear hK K'
  try simp only[Act.put,List.setIfInBounds_toArray,List.set_cons_zero,List.set_cons_succ]
  refine Wk.done (by kernel_rfl) ?_
  go_simp
  clear hj h6 hgs
  go_wp2
  go_ret
  refine⟨rfl,⟨c.n,c.k,c.lv,l'⟩,oL,oE',rs,?_,fun _ h=>h,hoL.out,hoE'.out,rfl,rfl,rfl,?_,hm.out⟩
  ·have:=S.out.sub2.sub2
   exact this
  ·show l'.L.map Ce.cx=_
   rw[hlL.out,List.map_append]
   rw[List.map_cons,List.map_nil,hyc.out]
end Go.Proofs.YtdeedofmflelfaaGreatDoor
