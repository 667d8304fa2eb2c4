/- Two operations that may come next in either order. Meet of interval. -/
import Derived.Test.YtphckmdnflbloaaGreatQVdz
import Derived.Test.YtphckmdnflbloaaGreatQVpz
namespace Go.Proofs.YtphckmdnflbloaaGreat
open Go.RowKit RQ
section
variable {P:Program} {ops:Array Oper} {Q:Exit→Act→World→Prop} {S:World→Prop} {w0:World} {Z:List Zv} {L:Array Bool} {a:Act} {bs:List (Nat×Array Value×Nat)} {rs:List (Option Addr×Nat×Nat×List Nat)}
/-- One of the operations that may come next. -/
def One (P:Program) (ops:Array Oper) (Q:Exit→Act→World→Prop) (S:World→Prop) (w0:World) (Z:List Zv) (L:Array Bool) (a:Act) (bs:List (Nat×Array Value×Nat)) (rs:List (Option Addr×Nat×Nat×List Nat)) (j:Nat):Prop:=
 ∀ (σ:List (Option Nat)) (w:World),σ.length=Z.length→S w→St w0 w (blks Z σ++bs) rs→wpOp P ops Q j (fun a' w'=>S w'∧Wk P ops Q S ((mark Z σ L).setIfInBounds j true) a' w') (fill Z σ a) w
/-- What the choice of an operation wants. -/
def oneOk (ops:Array Oper) (Z:List Zv) (i:Nat) (oi:Oper):Bool:=apartZ ops Z oi&&Region.noSelect ops
def twoOk (ops:Array Oper) (Z:List Zv) (L:Array Bool) (i j:Nat):Bool:=(Region.ready .any ops (full Z L)==[i,j]&&(Region.ready .any ops L).contains i) && !((Z.map (·.op)).contains i)
theorem RW.branch {i j:Nat} (hz:ZOk P ops S w0 Z bs) (hc:twoOk ops Z L i j=true) (h1:One P ops Q S w0 Z L a bs rs i) (h2:One P ops Q S w0 Z L a bs rs j):RW P ops Q S w0 Z L a bs rs:=by
 simp only[twoOk,Bool.and_eq_true,Bool.not_eq_true',beq_iff_eq] at hc
 obtain⟨⟨c1,c2⟩,c3⟩:=hc
 have hcz:i∉Z.map (·.op):=by simpa using c3
 intro σ w hl hS hst
 generalize hn':σ.count none=n
 induction n using Nat.strongRecOn generalizing σ w with
 | ind n ih=>
  have hcr:i∈Region.ready .any ops (mark Z σ L):=ready_mark (by simpa using c2) hcz
  refine Wk.all ⟨i,hcr⟩ fun k hk=>?_
  by_cases hkz:k∈Z.map (·.op)
  ·refine RW.alloc hz hl hst (mem_ready.1 hk).1 hkz fun σ' w' hl' hc' hS' hst'=>?_
   exact ih _ (by omega) σ' w' hl' hS' hst' rfl
  ·have:=ready_full hk hkz
   rw[c1] at this
   rcases List.mem_cons.1 this with rfl | this
   ·exact h1 σ w hl hS hst
   ·have:=List.mem_singleton.1 this
    subst this
    exact h2 σ w hl hS hst
theorem One.blk {i:Nat} {oi:Oper} {cs:Array Value} {t k:Nat} (dst:Option Nat) (hz:ZOk P ops S w0 Z bs) (hi:ops[i]?=some oi) (hd:oi.dst=dst) (hc:oneOk ops Z i oi=true) (hw:Region.wanted oi (yielded ops a.tmps)=true)
  (hx:∀ w,(execOp a.eval oi).run P w=.ok (.value (.slice (some ⟨w.heap.size,0,none⟩) k k)) (w.alloc (.cells cs t))) (hn:NoL cs)
  (h:∀ g:Nat,Hid (ZOk P ops S w0 Z ((g,cs,t)::bs))→RW P ops Q S w0 Z (L.setIfInBounds i true) (a.put dst (.slice (some ⟨g,0,none⟩) k k)) ((g,cs,t)::bs) rs):One P ops Q S w0 Z L a bs rs i:=by
 have hzk:∀ g,ZOk P ops S w0 Z ((g,cs,t)::bs):=fun g=>⟨hz.ok,hz.is,hz.nd,hz.ndo,hz.nol,fun w B hB=>hz.keep w (B++[(g,cs,t)]) (by rw[List.append_assoc];exact hB)⟩
 simp only[oneOk,Bool.and_eq_true] at hc
 obtain⟨c4,c5⟩:=hc
 subst hd
 intro σ w hl hS hst
 unfold wpOp
 rw[hi]
 simp only[wanted_fill (ops:=ops) oi Z σ a c4,hw,if_true]
 refine .inl ?_
 unfold Oper.wp
 rw[exec_fill (ops:=ops) oi (fun cs b=>Region.noSelect_spec c5 i oi cs b hi) Z σ a c4,hx]
 show S _∧Wk P ops Q S _ (Act.put _ oi.dst _) _
 have hst':St w0 (w.alloc (.cells cs t)) (blks Z σ++(w.heap.size,cs,t)::bs) rs:=(hst.alloc cs t hn).perm (List.perm_middle.symm)
 have hS':S (w.alloc (.cells cs t)):=(hzk w.heap.size).keep _ _ hst'.none
 refine⟨hS',?_⟩
 rw[←mark_set,←fill_put Z σ a oi.dst _ (fun z hzm e=>by
  have:=List.all_eq_true.1 c4 z hzm
  simp only[Bool.and_eq_true,bne_iff_ne] at this
  exact this.2 e)]
 exact h _ (Lib.hid (hzk _)) σ _ hl hS' hst'
theorem One.call {c:Nat} {oc:Oper} {f:FuncId} {args:Array Value} (dst:Option Nat) (hz:ZOk P ops S w0 Z bs) (hi:ops[c]?=some oc) (hd:oc.dst=dst) (hc:oneOk ops Z c oc=true) (hw:Region.wanted oc (yielded ops a.tmps)=true)
  (hx:∀ w,(execOp a.eval oc).run P w=.ok (.enter f args) w)
  (h:∀ w,St w0 w bs rs→Calls P f args w fun e w'=>Below w.heap.size w w'∧∃ v rs',e=.returned v∧(∀ r∈rs',Rd w' r.1 r.2.1 r.2.2.1 r.2.2.2)∧RW P ops Q S w0 Z (L.setIfInBounds c true) (a.put dst v) bs (rs'++rs)):One P ops Q S w0 Z L a bs rs c:=by
 simp only[oneOk,Bool.and_eq_true] at hc
 obtain⟨hap,c5⟩:=hc
 subst hd
 intro σ w hl hS hst
 unfold wpOp
 rw[hi]
 simp only[wanted_fill (ops:=ops) oc Z σ a hap,hw,if_true]
 refine .inl ?_
 unfold Oper.wp
 rw[exec_fill (ops:=ops) oc (fun cs b=>Region.noSelect_spec c5 c oc cs b hi) Z σ a hap,hx]
 show Calls P f args w _
 refine (h w hst.drop).mono ?_
 rintro e w' ⟨bb,v,rs',rfl,hrd,hrw⟩
 show S w'∧Wk P ops Q S _ (Act.put _ oc.dst v) w'
 have hst':St w0 w' (blks Z σ++bs) (rs'++rs):=(hst.call bb).reads hrd
 have hS':S w':=hz.keep _ _ hst'.none
 refine⟨hS',?_⟩
 rw[←mark_set,←fill_put Z σ a oc.dst v (fun z hzm e=>by
  have:=List.all_eq_true.1 hap z hzm
  simp only[Bool.and_eq_true,bne_iff_ne] at this
  exact this.2 e)]
 exact hrw σ w' hl hS' hst'
end
end Go.Proofs.YtphckmdnflbloaaGreat

namespace Go.Proofs.YtphckmdnflbloaaGreat
open Go.RowKit RQ
theorem res_meet (W:World) (tmps:Array Value) (g t:Nat) {v0 v1 v2 v3 v4 v5 e0:Value} (ht:tmps.getD 4 undef=.pointer (some ⟨g,0,none⟩)) (h0:tmps.getD 5 undef=e0) (h:Cb W g #[v0,v1,v2,v3,v4,v5] t) :
  (results Tryz.f28 tmps).run Tryz.prog W=.ok (.tuple #[.agg #[v0,v1,v2,v3,v4,v5],e0]) W:=by
 have c0:W.cell? ⟨g,0,none⟩=some v0:=h.cell rfl
 have c1:W.cell? ⟨g,1,none⟩=some v1:=h.cell rfl
 have c2:W.cell? ⟨g,2,none⟩=some v2:=h.cell rfl
 have c3:W.cell? ⟨g,3,none⟩=some v3:=h.cell rfl
 have c4:W.cell? ⟨g,4,none⟩=some v4:=h.cell rfl
 have c5:W.cell? ⟨g,5,none⟩=some v5:=h.cell rfl
 have ht':tmps[4]?.getD undef=.pointer (some ⟨g,0,none⟩):=by rw[←ht];simp[Array.getD_eq_getD_getElem?]
 have k0:tmps[5]?.getD undef=e0:=by rw[←h0];simp[Array.getD_eq_getD_getElem?]
 simp[results,Tryz.results28,go_sem,ht',k0,c0,c1,c2,c3,c4,c5]
set_option maxRecDepth 100000 in
set_option maxHeartbeats 8000000 in
theorem meet_no (b1:Bool) (A1:Option Addr) (n1 c1:Nat) (x1:List Nat) (D1:Option Addr) (m1 d1:Nat) (y1:List Nat) (q1:Rat) (b2:Bool) (A2:Option Addr) (n2 c2:Nat) (x2:List Nat) (D2:Option Addr) (m2 d2:Nat) (y2:List Nat) (q2:Rat) (b3:Bool) (A3:Option Addr) (n3 c3:Nat) (x3:List Nat) (D3:Option Addr) (m3 d3:Nat) (y3:List Nat) (q3:Rat) (b4:Bool) (A4:Option Addr) (n4 c4:Nat) (x4:List Nat) (D4:Option Addr) (m4 d4:Nat) (y4:List Nat) (q4:Rat) (h:minL [khi q1 q2,khi q3 q4]<maxL [klo q1 q2,klo q3 q4]) (w:World) (X1:Rw w b1 A1 n1 c1 x1 D1 m1 d1 y1 q1) (X2:Rw w b2 A2 n2 c2 x2 D2 m2 d2 y2 q2) (X3:Rw w b3 A3 n3 c3 x3 D3 m3 d3 y3 q3) (X4:Rw w b4 A4 n4 c4 x4 D4 m4 d4 y4 q4):Calls Tryz.prog 28 #[.agg #[.bool b1,.slice A1 n1 c1,.slice D1 m1 d1,.bool b2,.slice A2 n2 c2,.slice D2 m2 d2],.agg #[.bool b3,.slice A3 n3 c3,.slice D3 m3 d3,.bool b4,.slice A4 n4 c4,.slice D4 m4 d4]] w (RetVE 0 0 (.bool false) w):=by
 obtain⟨sa,sb⟩:=k_rs X1.rs X2.rs
 obtain⟨sc,sd⟩:=k_rs X3.rs X4.rs
 obtain⟨b5,A5,n5,c5,x5,D5,m5,d5,y5,b6,A6,n6,c6,x6,D6,m6,d6,y6,X5,X6,hK1⟩:=known_rows b1 A1 n1 c1 x1 D1 m1 d1 y1 q1 b2 A2 n2 c2 x2 D2 m2 d2 y2 q2 w X1 X2
 obtain⟨b7,A7,n7,c7,x7,D7,m7,d7,y7,b8,A8,n8,c8,x8,D8,m8,d8,y8,X7,X8,hK2⟩:=known_rows b3 A3 n3 c3 x3 D3 m3 d3 y3 q3 b4 A4 n4 c4 x4 D4 m4 d4 y4 q4 w X3 X4
 generalize klo q1 q2=q5 at *
 generalize khi q1 q2=q6 at *
 generalize klo q3 q4=q7 at *
 generalize khi q3 q4=q8 at *
 have slo:Rs (maxL [q5,q7]) 40:=(minL_rs (by simp) (fun y hy=>by simp at hy;rcases hy with rfl | rfl;exact sa;exact sc)).2
 have shi:Rs (minL [q6,q8]) 40:=(minL_rs (by simp) (fun y hy=>by simp at hy;rcases hy with rfl | rfl;exact sb;exact sd)).1
 have hG:=Lib.hid (fun W g h h1 h2=>greatest2 b5 A5 n5 c5 x5 D5 m5 d5 y5 q5 b7 A7 n7 c7 x7 D7 m7 d7 y7 q7 W g 26 h h1 h2)
 have hL:=Lib.hid (fun W g h h1 h2=>least2 b6 A6 n6 c6 x6 D6 m6 d6 y6 q6 b8 A8 n8 c8 x8 D8 m8 d8 y8 q8 W g 26 h h1 h2)
 have k1:=Lib.hid X1.k
 have k2:=Lib.hid X2.k
 have k3:=Lib.hid X3.k
 have k4:=Lib.hid X4.k
 have k5:=Lib.hid X5.k
 have k6:=Lib.hid X6.k
 have k7:=Lib.hid X7.k
 have k8:=Lib.hid X8.k
 generalize maxL [q5,q7]=lo at *
 generalize minL [q6,q8]=hi at *
 have hO:Hid (∀ W A n c D m d A' n' c' D' m' d',RR W A n c D m d lo→RR W A' n' c' D' m' d' hi→Calls Tryz.prog 94 #[.agg #[.bool (ng lo.num),.slice A n c,.slice D m d,.bool (ng hi.num),.slice A' n' c',.slice D' m' d']] W fun e w'=>e=.returned (.bool false)∧Below W.heap.size W w'):=Lib.hid fun W A n c D m d A' n' c' D' m' d' h1 h2=>by
  have:=isOrdered_any _ _ _ _ _ _ _ _ _ _ _ _ _ _ _ _ _ _ _ _ W (RR.w h1 slo) (RR.w h2 shi)
  rwa [decide_eq_false (Rat.not_le.2 h)] at this
 clear h sa sb sc sd slo shi
 have S:=((((((((((((((((((((St.new w).read X1.rn).read X1.rd).read X2.rn).read X2.rd).read X3.rn).read X3.rd).read X4.rn).read X4.rd).read X5.rn).read X5.rd).read X6.rn).read X6.rd).read X7.rn).read X7.rd).read X8.rn).read X8.rd).allocAt (w.heap.size) #[.bool b1,.slice A1 n1 c1,.slice D1 m1 d1,.bool b2,.slice A2 n2 c2,.slice D2 m2 d2] 28 (noL6 _ _ _ _ _ _ _ _ _ _ _ _ _ _) (by simp)).allocAt (w.heap.size+1) #[.bool b3,.slice A3 n3 c3,.slice D3 m3 d3,.bool b4,.slice A4 n4 c4,.slice D4 m4 d4] 28 (noL6 _ _ _ _ _ _ _ _ _ _ _ _ _ _) (by simp)).allocAt (w.heap.size+1+1) #[.bool false,.slice none 0 0,.slice none 0 0,.bool false,.slice none 0 0,.slice none 0 0] 28 (noL6 _ _ _ _ _ _ _ _ _ _ _ _ _ _) (by simp))
 replace S:=Lib.hid S
 clear X1 X2 X3 X4 X5 X6 X7 X8
 go_enter Tryz.func28,Tryz.ntmps28
 go_upto_region 1 with fail
 have S:=S.out
 generalize hW1:(World.alloc (World.alloc (World.alloc w (.cells #[.bool b1,.slice A1 n1 c1,.slice D1 m1 d1,.bool b2,.slice A2 n2 c2,.slice D2 m2 d2] 28)) (.cells #[.bool b3,.slice A3 n3 c3,.slice D3 m3 d3,.bool b4,.slice A4 n4 c4,.slice D4 m4 d4] 28)) (.cells #[.bool false,.slice none 0 0,.slice none 0 0,.bool false,.slice none 0 0,.slice none 0 0] 28))=w1 at S ⊢
 clear hW1
 replace S:=Lib.hid S
 have d_a0:=St.cl (S.out) 2 0 rfl rfl
 have d_a1:=St.cl (S.out) 2 1 rfl rfl
 have d_a2:=St.cl (S.out) 2 2 rfl rfl
 have d_a3:=St.cl (S.out) 2 3 rfl rfl
 have d_a4:=St.cl (S.out) 2 4 rfl rfl
 have d_a5:=St.cl (S.out) 2 5 rfl rfl
 have d_b0:=St.cl (S.out) 1 0 rfl rfl
 have d_b1:=St.cl (S.out) 1 1 rfl rfl
 have d_b2:=St.cl (S.out) 1 2 rfl rfl
 have d_b3:=St.cl (S.out) 1 3 rfl rfl
 have d_b4:=St.cl (S.out) 1 4 rfl rfl
 have d_b5:=St.cl (S.out) 1 5 rfl rfl
 have dz_a0:=St.f (S.out) 2 0 rfl
 have dz_a1:=St.f (S.out) 2 1 rfl
 have dz_a2:=St.f (S.out) 2 2 rfl
 have dz_a3:=St.f (S.out) 2 3 rfl
 have dz_a4:=St.f (S.out) 2 4 rfl
 have dz_a5:=St.f (S.out) 2 5 rfl
 have dz_b0:=St.f (S.out) 1 0 rfl
 have dz_b1:=St.f (S.out) 1 1 rfl
 have dz_b2:=St.f (S.out) 1 2 rfl
 have dz_b3:=St.f (S.out) 1 3 rfl
 have dz_b4:=St.f (S.out) 1 4 rfl
 have dz_b5:=St.f (S.out) 1 5 rfl
 go_cut [] (fun wx=>St w wx [(w.heap.size+1+1,#[.bool false,.slice none 0 0,.slice none 0 0,.bool false,.slice none 0 0,.slice none 0 0],28),(w.heap.size+1,#[.bool b7,.slice A7 n7 c7,.slice D7 m7 d7,.bool b8,.slice A8 n8 c8,.slice D8 m8 d8],28),(w.heap.size,#[.bool b5,.slice A5 n5 c5,.slice D5 m5 d5,.bool b6,.slice A6 n6 c6,.slice D6 m6 d6],28)] [(D8,m8,d8,y8),(A8,n8,c8,x8),(D7,m7,d7,y7),(A7,n7,c7,x7),(D6,m6,d6,y6),(A6,n6,c6,x6),(D5,m5,d5,y5),(A5,n5,c5,x5),(D4,m4,d4,y4),(A4,n4,c4,x4),(D3,m3,d3,y3),(A3,n3,c3,x3),(D2,m2,d2,y2),(A2,n2,c2,x2),(D1,m1,d1,y1),(A1,n1,c1,x1)])
 case first=>
  have SD:=Lib.hid (S.out.drew)
  go_region_with (first
   | (go_at_call_of 85 (Value.agg #[.bool b1,.slice A1 n1 c1,.slice D1 m1 d1,.bool b2,.slice A2 n2 c2,.slice D2 m2 d2]);refine (hK1.out _ (Rw.of (SD.out.r 15 rfl) (SD.out.r 14 rfl) k1.out) (Rw.of (SD.out.r 13 rfl) (SD.out.r 12 rfl) k2.out)).mono ?_;rintro e w2 ⟨rfl,bb0⟩;have S0:St w w2 [(w.heap.size+1+1,#[.bool false,.slice none 0 0,.slice none 0 0,.bool false,.slice none 0 0,.slice none 0 0],28),(w.heap.size+1,#[.bool b3,.slice A3 n3 c3,.slice D3 m3 d3,.bool b4,.slice A4 n4 c4,.slice D4 m4 d4],28),(w.heap.size,#[.bool b1,.slice A1 n1 c1,.slice D1 m1 d1,.bool b2,.slice A2 n2 c2,.slice D2 m2 d2],28)] [(D8,m8,d8,y8),(A8,n8,c8,x8),(D7,m7,d7,y7),(A7,n7,c7,x7),(D6,m6,d6,y6),(A6,n6,c6,x6),(D5,m5,d5,y5),(A5,n5,c5,x5),(D4,m4,d4,y4),(A4,n4,c4,x4),(D3,m3,d3,y3),(A3,n3,c3,x3),(D2,m2,d2,y2),(A2,n2,c2,x2),(D1,m1,d1,y1),(A1,n1,c1,x1)]:=(SD.out.call bb0);have e0_b0:=St.cl (S0) 1 0 rfl rfl;have e0_b1:=St.cl (S0) 1 1 rfl rfl;have e0_b2:=St.cl (S0) 1 2 rfl rfl;have e0_b3:=St.cl (S0) 1 3 rfl rfl;have e0_b4:=St.cl (S0) 1 4 rfl rfl;have e0_b5:=St.cl (S0) 1 5 rfl rfl)
   | (go_at_call_of 85 (Value.agg #[.bool b3,.slice A3 n3 c3,.slice D3 m3 d3,.bool b4,.slice A4 n4 c4,.slice D4 m4 d4]);refine (hK2.out _ (Rw.of (S0.r 11 rfl) (S0.r 10 rfl) k3.out) (Rw.of (S0.r 9 rfl) (S0.r 8 rfl) k4.out)).mono ?_;rintro e w3 ⟨rfl,bb1⟩;have S1:St w w3 [(w.heap.size+1+1,#[.bool false,.slice none 0 0,.slice none 0 0,.bool false,.slice none 0 0,.slice none 0 0],28),(w.heap.size+1,#[.bool b3,.slice A3 n3 c3,.slice D3 m3 d3,.bool b4,.slice A4 n4 c4,.slice D4 m4 d4],28),(w.heap.size,#[.bool b1,.slice A1 n1 c1,.slice D1 m1 d1,.bool b2,.slice A2 n2 c2,.slice D2 m2 d2],28)] [(D8,m8,d8,y8),(A8,n8,c8,x8),(D7,m7,d7,y7),(A7,n7,c7,x7),(D6,m6,d6,y6),(A6,n6,c6,x6),(D5,m5,d5,y5),(A5,n5,c5,x5),(D4,m4,d4,y4),(A4,n4,c4,x4),(D3,m3,d3,y3),(A3,n3,c3,x3),(D2,m2,d2,y2),(A2,n2,c2,x2),(D1,m1,d1,y1),(A1,n1,c1,x1)]:=(S0.call bb1);have e1_a0:=St.cl (S1) 2 0 rfl rfl;have e1_a1:=St.cl (S1) 2 1 rfl rfl;have e1_a2:=St.cl (S1) 2 2 rfl rfl;have e1_a3:=St.cl (S1) 2 3 rfl rfl;have e1_a4:=St.cl (S1) 2 4 rfl rfl;have e1_a5:=St.cl (S1) 2 5 rfl rfl;have e1_b0:=St.cl (S1) 1 0 rfl rfl;have e1_b1:=St.cl (S1) 1 1 rfl rfl;have e1_b2:=St.cl (S1) 1 2 rfl rfl;have e1_b3:=St.cl (S1) 1 3 rfl rfl;have e1_b4:=St.cl (S1) 1 4 rfl rfl;have e1_b5:=St.cl (S1) 1 5 rfl rfl;have e1z_a0:=St.f (S1) 2 0 rfl;have e1z_a1:=St.f (S1) 2 1 rfl;have e1z_a2:=St.f (S1) 2 2 rfl;have e1z_a3:=St.f (S1) 2 3 rfl;have e1z_a4:=St.f (S1) 2 4 rfl;have e1z_a5:=St.f (S1) 2 5 rfl;have e1z_b0:=St.f (S1) 1 0 rfl;have e1z_b1:=St.f (S1) 1 1 rfl;have e1z_b2:=St.f (S1) 1 2 rfl;have e1z_b3:=St.f (S1) 1 3 rfl;have e1z_b4:=St.f (S1) 1 4 rfl;have e1z_b5:=St.f (S1) 1 5 rfl))
  all_goals
   have SE:=Lib.hid (((((((((((((S1.set 2 0 (.bool b5) rfl (by nofun)).set 2 1 (.slice A5 n5 c5) rfl (by nofun)).set 2 2 (.slice D5 m5 d5) rfl (by nofun)).set 2 3 (.bool b6) rfl (by nofun)).set 2 4 (.slice A6 n6 c6) rfl (by nofun)).set 2 5 (.slice D6 m6 d6) rfl (by nofun)).set 1 0 (.bool b7) rfl (by nofun)).set 1 1 (.slice A7 n7 c7) rfl (by nofun)).set 1 2 (.slice D7 m7 d7) rfl (by nofun)).set 1 3 (.bool b8) rfl (by nofun)).set 1 4 (.slice A8 n8 c8) rfl (by nofun)).set 1 5 (.slice D8 m8 d8) rfl (by nofun)))
   clear d_a0 d_a1 d_a2 d_a3 d_a4 d_a5 d_b0 d_b1 d_b2 d_b3 d_b4 d_b5 dz_a0 dz_a1 dz_a2 dz_a3 dz_a4 dz_a5 dz_b0 dz_b1 dz_b2 dz_b3 dz_b4 dz_b5 e0_b0 e0_b1 e0_b2 e0_b3 e0_b4 e0_b5 e1_a0 e1_a1 e1_a2 e1_a3 e1_a4 e1_a5 e1_b0 e1_b1 e1_b2 e1_b3 e1_b4 e1_b5 e1z_a0 e1z_a1 e1z_a2 e1z_a3 e1z_a4 e1z_a5 e1z_b0 e1z_b1 e1z_b2 e1z_b3 e1z_b4 e1z_b5
   go_wp2_with fail
   go_meet
   exact SE.out
 case rest=>
  clear d_a0 d_a1 d_a2 d_a3 d_a4 d_a5 d_b0 d_b1 d_b2 d_b3 d_b4 d_b5 dz_a0 dz_a1 dz_a2 dz_a3 dz_a4 dz_a5 dz_b0 dz_b1 dz_b2 dz_b3 dz_b4 dz_b5
  clear S
  have S:=hcut
  obtain⟨c_r0,c_r1,c_r2,c_r3,c_r4,c_r5,f_r0,f_r1,f_r2,f_r3,f_r4,f_r5⟩:=S.cf6 0 rfl
  obtain⟨c_b0,c_b1,c_b2,c_b3,c_b4,c_b5,f_b0,f_b1,f_b2,f_b3,f_b4,f_b5⟩:=S.cf6 1 rfl
  obtain⟨c_a0,c_a1,c_a2,c_a3,c_a4,c_a5,f_a0,f_a1,f_a2,f_a3,f_a4,f_a5⟩:=S.cf6 2 rfl
  have hz:w.heap.size+1+1<wc.heap.size:=S.lt 0 rfl
  replace S:=Lib.hid S
  clear hK1 hK2
  go_upto_region 2 with fail
  clear c_r0 f_r0 c_r1 f_r1 c_r2 f_r2 c_r3 f_r3 c_r4 f_r4 c_r5 f_r5 c_b0 f_b0 c_b1 f_b1 c_b2 f_b2 c_b3 f_b3 c_b4 f_b4 c_b5 f_b5 c_a0 f_a0 c_a1 f_a1 c_a2 f_a2 c_a3 f_a3 c_a4 f_a4 c_a5 f_a5 hz
  go_cut [6] (fun sv wx=>∃ (g:Nat) (A31:Option Addr) (n31 c31:Nat) (D31:Option Addr) (m31 d31:Nat) (A32:Option Addr) (n32 c32:Nat) (D32:Option Addr) (m32 d32:Nat),sv=.pointer (some ⟨g,0,none⟩)∧St w wx [(g,#[.bool (ng lo.num),.slice A31 n31 c31,.slice D31 m31 d31,.bool (ng hi.num),.slice A32 n32 c32,.slice D32 m32 d32],28),(w.heap.size+1+1,#[.bool false,.slice none 0 0,.slice none 0 0,.bool false,.slice none 0 0,.slice none 0 0],28),(w.heap.size+1,#[.bool b7,.slice A7 n7 c7,.slice D7 m7 d7,.bool b8,.slice A8 n8 c8,.slice D8 m8 d8],28),(w.heap.size,#[.bool b5,.slice A5 n5 c5,.slice D5 m5 d5,.bool b6,.slice A6 n6 c6,.slice D6 m6 d6],28)] [(D32,m32,d32,dn hi),(A32,n32,c32,limbs hi.num.natAbs),(D31,m31,d31,dn lo),(A31,n31,c31,limbs lo.num.natAbs)])
  case first=>
   refine RW.begin (Z:=[⟨13,6,#[.bool false,.slice none 0 0,.slice none 0 0,.bool false,.slice none 0 0,.slice none 0 0],28⟩]) (S:=(fun W=>Cb W (w.heap.size) #[.bool b5,.slice A5 n5 c5,.slice D5 m5 d5,.bool b6,.slice A6 n6 c6,.slice D6 m6 d6] 28∧Cb W (w.heap.size+1) #[.bool b7,.slice A7 n7 c7,.slice D7 m7 d7,.bool b8,.slice A8 n8 c8,.slice D8 m8 d8] 28)) (by kernel_rfl) ?_ S.out ?_
   ·exact⟨by kernel_rfl,(zis_cons at13 (fun _ _=>by kernel_rfl) zis_nil),by decide,by decide,(nol_cons (noL6 _ _ _ _ _ _ _ _ _ _ _ _ _ _) nol_nil),(fun _ _ h=>⟨h.kb 2 rfl,h.kb 1 rfl⟩)⟩
   intro hzk
   clear S
   refine RW.t (i:=0) (v:=.pointer (some ⟨w.heap.size,0,none⟩)) (some 11) at0 (hy:=fun _ _=>by kernel_rfl) (h:=?_)
   refine RW.t (i:=1) (v:=.agg #[.bool b5,.slice A5 n5 c5,.slice D5 m5 d5]) (some 12) at1 (hy:=fun W hS=>by (have k0:=Cb.cell (i:=0) hS.1 rfl;have k1:=Cb.cell (i:=1) hS.1 rfl;have k2:=Cb.cell (i:=2) hS.1 rfl;clear hS;go_simp)) (h:=?_)
   refine RW.t (i:=2) (v:=.pointer (some ⟨w.heap.size+1,0,none⟩)) (some 13) at2 (hy:=fun _ _=>by kernel_rfl) (h:=?_)
   refine RW.t (i:=3) (v:=.agg #[.bool b7,.slice A7 n7 c7,.slice D7 m7 d7]) (some 14) at3 (hy:=fun W hS=>by (have k0:=Cb.cell (i:=0) hS.2 rfl;have k1:=Cb.cell (i:=1) hS.2 rfl;have k2:=Cb.cell (i:=2) hS.2 rfl;clear hS;go_simp)) (h:=?_)
   refine RW.t (i:=6) (v:=.pointer (some ⟨w.heap.size,3,none⟩)) (some 17) at6 (hy:=fun _ _=>by kernel_rfl) (h:=?_)
   refine RW.t (i:=7) (v:=.agg #[.bool b6,.slice A6 n6 c6,.slice D6 m6 d6]) (some 18) at7 (hy:=fun W hS=>by (have k3:=Cb.cell (i:=3) hS.1 rfl;have k4:=Cb.cell (i:=4) hS.1 rfl;have k5:=Cb.cell (i:=5) hS.1 rfl;clear hS;go_simp)) (h:=?_)
   refine RW.t (i:=8) (v:=.pointer (some ⟨w.heap.size+1,3,none⟩)) (some 19) at8 (hy:=fun _ _=>by kernel_rfl) (h:=?_)
   refine RW.t (i:=9) (v:=.agg #[.bool b8,.slice A8 n8 c8,.slice D8 m8 d8]) (some 20) at9 (hy:=fun W hS=>by (have k3:=Cb.cell (i:=3) hS.2 rfl;have k4:=Cb.cell (i:=4) hS.2 rfl;have k5:=Cb.cell (i:=5) hS.2 rfl;clear hS;go_simp)) (h:=?_)
   refine RW.branch (i:=4) (j:=10) hzk.out (by kernel_rfl) ?_ ?_
   ·refine One.blk (i:=4) (cs:=#[.bool b5,.slice A5 n5 c5,.slice D5 m5 d5,.bool b7,.slice A7 n7 c7,.slice D7 m7 d7]) (t:=26) (k:=2) (some 15) hzk.out at4 rfl (by kernel_rfl) (by kernel_rfl) (fun _=>by kernel_rfl) (noL6 _ _ _ _ _ _ _ _ _ _ _ _ _ _) ?_
    clear hzk
    intro g_L4 hzk
    refine RW.branch (i:=5) (j:=10) hzk.out (by kernel_rfl) ?_ ?_
    ·refine One.call (c:=5) (args:=#[.slice (some ⟨g_L4,0,none⟩) 2 2]) (some 16) hzk.out at5 rfl (by kernel_rfl) (by kernel_rfl) (hx:=fun _=>by kernel_rfl) (h:=fun _ S=>(hG.out _ _ (S.cb 0 rfl) (Rw.of (S.r 7 rfl) (S.r 6 rfl) k5.out) (Rw.of (S.r 3 rfl) (S.r 2 rfl) k7.out)).mono ?_)
     rintro e w5 ⟨A31,n31,c31,D31,m31,d31,rfl,Q31,bb⟩
     refine⟨bb,_,[(D31,m31,d31,dn lo),(A31,n31,c31,limbs lo.num.natAbs)],rfl,(rd_cons Q31.d (rd_cons Q31.n rd_nil)),?_⟩
     clear bb S Q31
     refine RW.blk (i:=10) (cs:=#[.bool b6,.slice A6 n6 c6,.slice D6 m6 d6,.bool b8,.slice A8 n8 c8,.slice D8 m8 d8]) (t:=26) (k:=2) (some 21) hzk.out at10 rfl (by kernel_rfl) (by kernel_rfl) (fun _=>by kernel_rfl) (noL6 _ _ _ _ _ _ _ _ _ _ _ _ _ _) ?_
     clear hzk
     intro g_L10 hzk
     refine RW.c (i:=11) (args:=#[.slice (some ⟨g_L10,0,none⟩) 2 2]) (some 22) hzk.out at11 (hx:=fun _=>by kernel_rfl) (h:=fun _ S=>(hL.out _ _ (S.cb 0 rfl) (Rw.of (S.r 7 rfl) (S.r 6 rfl) k6.out) (Rw.of (S.r 3 rfl) (S.r 2 rfl) k8.out)).mono ?_)
     rintro e w6 ⟨A32,n32,c32,D32,m32,d32,rfl,Q32,bb⟩
     refine⟨bb,_,[(D32,m32,d32,dn hi),(A32,n32,c32,limbs hi.num.natAbs)],rfl,(rd_cons Q32.d (rd_cons Q32.n rd_nil)),?_⟩
     clear bb S Q32
     refine RW.t (i:=12) (v:=.agg #[.bool (ng lo.num),.slice A31 n31 c31,.slice D31 m31 d31,.bool (ng hi.num),.slice A32 n32 c32,.slice D32 m32 d32]) (some 23) at12 (hy:=fun _ _=>by kernel_rfl) (h:=?_)
     refine RW.tail hzk.out (by kernel_rfl) ?_
     intro gs w7 hgs hS S
     obtain⟨g_m,rfl⟩:=len1' hgs
     clear hS hgs hzk
     simp only[mark,fill,List.map,Act.put,List.setIfInBounds_toArray,List.set_cons_zero,List.set_cons_succ]
     replace S:=Lib.hid S
     refine Wk.o (i:=14) at14 (by kernel_rfl) fun K' hK=>?_
     have q14_m0:=St.cl (S.out) 0 0 rfl rfl
     have q14_m1:=St.cl (S.out) 0 1 rfl rfl
     have q14_m2:=St.cl (S.out) 0 2 rfl rfl
     have q14_m3:=St.cl (S.out) 0 3 rfl rfl
     have q14_m4:=St.cl (S.out) 0 4 rfl rfl
     have q14_m5:=St.cl (S.out) 0 5 rfl rfl
     have q14z_m0:=St.f (S.out) 0 0 rfl
     have q14z_m1:=St.f (S.out) 0 1 rfl
     have q14z_m2:=St.f (S.out) 0 2 rfl
     have q14z_m3:=St.f (S.out) 0 3 rfl
     have q14z_m4:=St.f (S.out) 0 4 rfl
     have q14z_m5:=St.f (S.out) 0 5 rfl
     go_simp
     have SN:=((((((S.out.set 0 0 (.bool (ng lo.num)) rfl (by nofun)).set 0 1 (.slice A31 n31 c31) rfl (by nofun)).set 0 2 (.slice D31 m31 d31) rfl (by nofun)).set 0 3 (.bool (ng hi.num)) rfl (by nofun)).set 0 4 (.slice A32 n32 c32) rfl (by nofun)).set 0 5 (.slice D32 m32 d32) rfl (by nofun))
     clear S q14_m0 q14_m1 q14_m2 q14_m3 q14_m4 q14_m5 q14z_m0 q14z_m1 q14z_m2 q14z_m3 q14z_m4 q14z_m5
     have S:=SN
     clear SN
     refine hK.out _ _ ⟨(S.cb 5 rfl),(S.cb 4 rfl)⟩ ?_
     clear hK K'
     replace S:=Lib.hid S
     try simp only[Act.put,List.setIfInBounds_toArray,List.set_cons_zero,List.set_cons_succ]
     refine Wk.done (by kernel_rfl) ?_
     go_simp
     have SE:=S
     clear S
     go_wp2_with fail
     go_meet
     exact⟨_,_,_,_,_,_,_,_,_,_,_,_,_,rfl,SE.out.pick [0,3,4,5] [0,1,2,3] rfl (by decide) rfl⟩
    ·refine One.blk (i:=10) (cs:=#[.bool b6,.slice A6 n6 c6,.slice D6 m6 d6,.bool b8,.slice A8 n8 c8,.slice D8 m8 d8]) (t:=26) (k:=2) (some 21) hzk.out at10 rfl (by kernel_rfl) (by kernel_rfl) (fun _=>by kernel_rfl) (noL6 _ _ _ _ _ _ _ _ _ _ _ _ _ _) ?_
     clear hzk
     intro g_L10 hzk
     refine RW.c (i:=5) (args:=#[.slice (some ⟨g_L4,0,none⟩) 2 2]) (some 16) hzk.out at5 (hx:=fun _=>by kernel_rfl) (h:=fun _ S=>(hG.out _ _ (S.cb 1 rfl) (Rw.of (S.r 7 rfl) (S.r 6 rfl) k5.out) (Rw.of (S.r 3 rfl) (S.r 2 rfl) k7.out)).mono ?_)
     rintro e w5 ⟨A31,n31,c31,D31,m31,d31,rfl,Q31,bb⟩
     refine⟨bb,_,[(D31,m31,d31,dn lo),(A31,n31,c31,limbs lo.num.natAbs)],rfl,(rd_cons Q31.d (rd_cons Q31.n rd_nil)),?_⟩
     clear bb S Q31
     refine RW.c (i:=11) (args:=#[.slice (some ⟨g_L10,0,none⟩) 2 2]) (some 22) hzk.out at11 (hx:=fun _=>by kernel_rfl) (h:=fun _ S=>(hL.out _ _ (S.cb 0 rfl) (Rw.of (S.r 7 rfl) (S.r 6 rfl) k6.out) (Rw.of (S.r 3 rfl) (S.r 2 rfl) k8.out)).mono ?_)
     rintro e w6 ⟨A32,n32,c32,D32,m32,d32,rfl,Q32,bb⟩
     refine⟨bb,_,[(D32,m32,d32,dn hi),(A32,n32,c32,limbs hi.num.natAbs)],rfl,(rd_cons Q32.d (rd_cons Q32.n rd_nil)),?_⟩
     clear bb S Q32
     refine RW.t (i:=12) (v:=.agg #[.bool (ng lo.num),.slice A31 n31 c31,.slice D31 m31 d31,.bool (ng hi.num),.slice A32 n32 c32,.slice D32 m32 d32]) (some 23) at12 (hy:=fun _ _=>by kernel_rfl) (h:=?_)
     refine RW.tail hzk.out (by kernel_rfl) ?_
     intro gs w7 hgs hS S
     obtain⟨g_m,rfl⟩:=len1' hgs
     clear hS hgs hzk
     simp only[mark,fill,List.map,Act.put,List.setIfInBounds_toArray,List.set_cons_zero,List.set_cons_succ]
     replace S:=Lib.hid S
     refine Wk.o (i:=14) at14 (by kernel_rfl) fun K' hK=>?_
     have q14_m0:=St.cl (S.out) 0 0 rfl rfl
     have q14_m1:=St.cl (S.out) 0 1 rfl rfl
     have q14_m2:=St.cl (S.out) 0 2 rfl rfl
     have q14_m3:=St.cl (S.out) 0 3 rfl rfl
     have q14_m4:=St.cl (S.out) 0 4 rfl rfl
     have q14_m5:=St.cl (S.out) 0 5 rfl rfl
     have q14z_m0:=St.f (S.out) 0 0 rfl
     have q14z_m1:=St.f (S.out) 0 1 rfl
     have q14z_m2:=St.f (S.out) 0 2 rfl
     have q14z_m3:=St.f (S.out) 0 3 rfl
     have q14z_m4:=St.f (S.out) 0 4 rfl
     have q14z_m5:=St.f (S.out) 0 5 rfl
     go_simp
     have SN:=((((((S.out.set 0 0 (.bool (ng lo.num)) rfl (by nofun)).set 0 1 (.slice A31 n31 c31) rfl (by nofun)).set 0 2 (.slice D31 m31 d31) rfl (by nofun)).set 0 3 (.bool (ng hi.num)) rfl (by nofun)).set 0 4 (.slice A32 n32 c32) rfl (by nofun)).set 0 5 (.slice D32 m32 d32) rfl (by nofun))
     clear S q14_m0 q14_m1 q14_m2 q14_m3 q14_m4 q14_m5 q14z_m0 q14z_m1 q14z_m2 q14z_m3 q14z_m4 q14z_m5
     have S:=SN
     clear SN
     refine hK.out _ _ ⟨(S.cb 5 rfl),(S.cb 4 rfl)⟩ ?_
     clear hK K'
     replace S:=Lib.hid S
     try simp only[Act.put,List.setIfInBounds_toArray,List.set_cons_zero,List.set_cons_succ]
     refine Wk.done (by kernel_rfl) ?_
     go_simp
     have SE:=S
     clear S
     go_wp2_with fail
     go_meet
     exact⟨_,_,_,_,_,_,_,_,_,_,_,_,_,rfl,SE.out.pick [0,3,4,5] [0,1,2,3] rfl (by decide) rfl⟩
   ·refine One.blk (i:=10) (cs:=#[.bool b6,.slice A6 n6 c6,.slice D6 m6 d6,.bool b8,.slice A8 n8 c8,.slice D8 m8 d8]) (t:=26) (k:=2) (some 21) hzk.out at10 rfl (by kernel_rfl) (by kernel_rfl) (fun _=>by kernel_rfl) (noL6 _ _ _ _ _ _ _ _ _ _ _ _ _ _) ?_
    clear hzk
    intro g_L10 hzk
    refine RW.blk (i:=4) (cs:=#[.bool b5,.slice A5 n5 c5,.slice D5 m5 d5,.bool b7,.slice A7 n7 c7,.slice D7 m7 d7]) (t:=26) (k:=2) (some 15) hzk.out at4 rfl (by kernel_rfl) (by kernel_rfl) (fun _=>by kernel_rfl) (noL6 _ _ _ _ _ _ _ _ _ _ _ _ _ _) ?_
    clear hzk
    intro g_L4 hzk
    refine RW.c (i:=5) (args:=#[.slice (some ⟨g_L4,0,none⟩) 2 2]) (some 16) hzk.out at5 (hx:=fun _=>by kernel_rfl) (h:=fun _ S=>(hG.out _ _ (S.cb 0 rfl) (Rw.of (S.r 7 rfl) (S.r 6 rfl) k5.out) (Rw.of (S.r 3 rfl) (S.r 2 rfl) k7.out)).mono ?_)
    rintro e w5 ⟨A31,n31,c31,D31,m31,d31,rfl,Q31,bb⟩
    refine⟨bb,_,[(D31,m31,d31,dn lo),(A31,n31,c31,limbs lo.num.natAbs)],rfl,(rd_cons Q31.d (rd_cons Q31.n rd_nil)),?_⟩
    clear bb S Q31
    refine RW.c (i:=11) (args:=#[.slice (some ⟨g_L10,0,none⟩) 2 2]) (some 22) hzk.out at11 (hx:=fun _=>by kernel_rfl) (h:=fun _ S=>(hL.out _ _ (S.cb 1 rfl) (Rw.of (S.r 7 rfl) (S.r 6 rfl) k6.out) (Rw.of (S.r 3 rfl) (S.r 2 rfl) k8.out)).mono ?_)
    rintro e w6 ⟨A32,n32,c32,D32,m32,d32,rfl,Q32,bb⟩
    refine⟨bb,_,[(D32,m32,d32,dn hi),(A32,n32,c32,limbs hi.num.natAbs)],rfl,(rd_cons Q32.d (rd_cons Q32.n rd_nil)),?_⟩
    clear bb S Q32
    refine RW.t (i:=12) (v:=.agg #[.bool (ng lo.num),.slice A31 n31 c31,.slice D31 m31 d31,.bool (ng hi.num),.slice A32 n32 c32,.slice D32 m32 d32]) (some 23) at12 (hy:=fun _ _=>by kernel_rfl) (h:=?_)
    refine RW.tail hzk.out (by kernel_rfl) ?_
    intro gs w7 hgs hS S
    obtain⟨g_m,rfl⟩:=len1' hgs
    clear hS hgs hzk
    simp only[mark,fill,List.map,Act.put,List.setIfInBounds_toArray,List.set_cons_zero,List.set_cons_succ]
    replace S:=Lib.hid S
    refine Wk.o (i:=14) at14 (by kernel_rfl) fun K' hK=>?_
    have q14_m0:=St.cl (S.out) 0 0 rfl rfl
    have q14_m1:=St.cl (S.out) 0 1 rfl rfl
    have q14_m2:=St.cl (S.out) 0 2 rfl rfl
    have q14_m3:=St.cl (S.out) 0 3 rfl rfl
    have q14_m4:=St.cl (S.out) 0 4 rfl rfl
    have q14_m5:=St.cl (S.out) 0 5 rfl rfl
    have q14z_m0:=St.f (S.out) 0 0 rfl
    have q14z_m1:=St.f (S.out) 0 1 rfl
    have q14z_m2:=St.f (S.out) 0 2 rfl
    have q14z_m3:=St.f (S.out) 0 3 rfl
    have q14z_m4:=St.f (S.out) 0 4 rfl
    have q14z_m5:=St.f (S.out) 0 5 rfl
    go_simp
    have SN:=((((((S.out.set 0 0 (.bool (ng lo.num)) rfl (by nofun)).set 0 1 (.slice A31 n31 c31) rfl (by nofun)).set 0 2 (.slice D31 m31 d31) rfl (by nofun)).set 0 3 (.bool (ng hi.num)) rfl (by nofun)).set 0 4 (.slice A32 n32 c32) rfl (by nofun)).set 0 5 (.slice D32 m32 d32) rfl (by nofun))
    clear S q14_m0 q14_m1 q14_m2 q14_m3 q14_m4 q14_m5 q14z_m0 q14z_m1 q14z_m2 q14z_m3 q14z_m4 q14z_m5
    have S:=SN
    clear SN
    refine hK.out _ _ ⟨(S.cb 5 rfl),(S.cb 4 rfl)⟩ ?_
    clear hK K'
    replace S:=Lib.hid S
    try simp only[Act.put,List.setIfInBounds_toArray,List.set_cons_zero,List.set_cons_succ]
    refine Wk.done (by kernel_rfl) ?_
    go_simp
    have SE:=S
    clear S
    go_wp2_with fail
    go_meet
    exact⟨_,_,_,_,_,_,_,_,_,_,_,_,_,rfl,SE.out.pick [0,3,4,5] [0,1,2,3] rfl (by decide) rfl⟩
  case rest=>
   clear S hG hL
   obtain⟨g,A31,n31,c31,D31,m31,d31,A32,n32,c32,D32,m32,d32,rfl,S⟩:=hcut
   obtain⟨c_m0,c_m1,c_m2,c_m3,c_m4,c_m5,f_m0,f_m1,f_m2,f_m3,f_m4,f_m5⟩:=S.cf6 0 rfl
   obtain⟨c_r0,c_r1,c_r2,c_r3,c_r4,c_r5,f_r0,f_r1,f_r2,f_r3,f_r4,f_r5⟩:=S.cf6 1 rfl
   obtain⟨c_b0,c_b1,c_b2,c_b3,c_b4,c_b5,f_b0,f_b1,f_b2,f_b3,f_b4,f_b5⟩:=S.cf6 2 rfl
   obtain⟨c_a0,c_a1,c_a2,c_a3,c_a4,c_a5,f_a0,f_a1,f_a2,f_a3,f_a4,f_a5⟩:=S.cf6 3 rfl
   have hz:g<wc.heap.size:=S.lt 0 rfl
   replace S:=Lib.hid S
   go_wp2_with fail
   refine (hO.out _ _ _ _ _ _ _ _ _ _ _ _ _ ⟨S.out.r 3 rfl,S.out.r 2 rfl⟩ ⟨S.out.r 1 rfl,S.out.r 0 rfl⟩).mono ?_
   rintro e w25 ⟨rfl,bb⟩
   have T:=(S.out.call bb)
   clear bb S c_m0 f_m0 c_m1 f_m1 c_m2 f_m2 c_m3 f_m3 c_m4 f_m4 c_m5 f_m5 c_r0 f_r0 c_r1 f_r1 c_r2 f_r2 c_r3 f_r3 c_r4 f_r4 c_r5 f_r5 c_b0 f_b0 c_b1 f_b1 c_b2 f_b2 c_b3 f_b3 c_b4 f_b4 c_b5 f_b5 c_a0 f_a0 c_a1 f_a1 c_a2 f_a2 c_a3 f_a3 c_a4 f_a4 c_a5 f_a5 hz
   have S:=T
   clear T
   obtain⟨c_m0,c_m1,c_m2,c_m3,c_m4,c_m5,f_m0,f_m1,f_m2,f_m3,f_m4,f_m5⟩:=S.cf6 0 rfl
   obtain⟨c_r0,c_r1,c_r2,c_r3,c_r4,c_r5,f_r0,f_r1,f_r2,f_r3,f_r4,f_r5⟩:=S.cf6 1 rfl
   obtain⟨c_b0,c_b1,c_b2,c_b3,c_b4,c_b5,f_b0,f_b1,f_b2,f_b3,f_b4,f_b5⟩:=S.cf6 2 rfl
   obtain⟨c_a0,c_a1,c_a2,c_a3,c_a4,c_a5,f_a0,f_a1,f_a2,f_a3,f_a4,f_a5⟩:=S.cf6 3 rfl
   have hz:g<w25.heap.size:=S.lt 0 rfl
   replace S:=Lib.hid S
   clear hO
   have S:St w _ [(g,#[.bool (ng lo.num),.slice A31 n31 c31,.slice D31 m31 d31,.bool (ng hi.num),.slice A32 n32 c32,.slice D32 m32 d32],28),(w.heap.size+1+1,#[.bool false,.slice none 0 0,.slice none 0 0,.bool false,.slice none 0 0,.slice none 0 0],28),(w.heap.size+1,#[.bool b7,.slice A7 n7 c7,.slice D7 m7 d7,.bool b8,.slice A8 n8 c8,.slice D8 m8 d8],28),(w.heap.size,#[.bool b5,.slice A5 n5 c5,.slice D5 m5 d5,.bool b6,.slice A6 n6 c6,.slice D6 m6 d6],28)] [(D32,m32,d32,dn hi),(A32,n32,c32,limbs hi.num.natAbs),(D31,m31,d31,dn lo),(A31,n31,c31,limbs lo.num.natAbs)]:=((((((S.out.set 1 0 (.bool false) rfl (by nofun)).set 1 1 (.slice none 0 0) rfl (by nofun)).set 1 2 (.slice none 0 0) rfl (by nofun)).set 1 3 (.bool false) rfl (by nofun)).set 1 4 (.slice none 0 0) rfl (by nofun)).set 1 5 (.slice none 0 0) rfl (by nofun))
   replace S:=Lib.hid S
   go_wp2
   refine bodyPost_ret (res_meet _ _ (w.heap.size+1+1) 28 rfl rfl (S.out.bk _ (List.mem_of_getElem? (i:=1) rfl)).1) rfl ?_
   exact⟨_,_,_,_,_,_,_,_,_,_,_,_,rfl,zero_RR _ _ _ _ _,zero_RR _ _ _ _ _,S.out.bel⟩
set_option maxRecDepth 100000 in
set_option maxHeartbeats 8000000 in
theorem meet_yes (b1:Bool) (A1:Option Addr) (n1 c1:Nat) (x1:List Nat) (D1:Option Addr) (m1 d1:Nat) (y1:List Nat) (q1:Rat) (b2:Bool) (A2:Option Addr) (n2 c2:Nat) (x2:List Nat) (D2:Option Addr) (m2 d2:Nat) (y2:List Nat) (q2:Rat) (b3:Bool) (A3:Option Addr) (n3 c3:Nat) (x3:List Nat) (D3:Option Addr) (m3 d3:Nat) (y3:List Nat) (q3:Rat) (b4:Bool) (A4:Option Addr) (n4 c4:Nat) (x4:List Nat) (D4:Option Addr) (m4 d4:Nat) (y4:List Nat) (q4:Rat) (h:¬ minL [khi q1 q2,khi q3 q4]<maxL [klo q1 q2,klo q3 q4]) (w:World) (X1:Rw w b1 A1 n1 c1 x1 D1 m1 d1 y1 q1) (X2:Rw w b2 A2 n2 c2 x2 D2 m2 d2 y2 q2) (X3:Rw w b3 A3 n3 c3 x3 D3 m3 d3 y3 q3) (X4:Rw w b4 A4 n4 c4 x4 D4 m4 d4 y4 q4):Calls Tryz.prog 28 #[.agg #[.bool b1,.slice A1 n1 c1,.slice D1 m1 d1,.bool b2,.slice A2 n2 c2,.slice D2 m2 d2],.agg #[.bool b3,.slice A3 n3 c3,.slice D3 m3 d3,.bool b4,.slice A4 n4 c4,.slice D4 m4 d4]] w (RetVE (maxL [klo q1 q2,klo q3 q4]) (minL [khi q1 q2,khi q3 q4]) (.bool true) w):=by
 obtain⟨sa,sb⟩:=k_rs X1.rs X2.rs
 obtain⟨sc,sd⟩:=k_rs X3.rs X4.rs
 obtain⟨b5,A5,n5,c5,x5,D5,m5,d5,y5,b6,A6,n6,c6,x6,D6,m6,d6,y6,X5,X6,hK1⟩:=known_rows b1 A1 n1 c1 x1 D1 m1 d1 y1 q1 b2 A2 n2 c2 x2 D2 m2 d2 y2 q2 w X1 X2
 obtain⟨b7,A7,n7,c7,x7,D7,m7,d7,y7,b8,A8,n8,c8,x8,D8,m8,d8,y8,X7,X8,hK2⟩:=known_rows b3 A3 n3 c3 x3 D3 m3 d3 y3 q3 b4 A4 n4 c4 x4 D4 m4 d4 y4 q4 w X3 X4
 generalize klo q1 q2=q5 at *
 generalize khi q1 q2=q6 at *
 generalize klo q3 q4=q7 at *
 generalize khi q3 q4=q8 at *
 have slo:Rs (maxL [q5,q7]) 40:=(minL_rs (by simp) (fun y hy=>by simp at hy;rcases hy with rfl | rfl;exact sa;exact sc)).2
 have shi:Rs (minL [q6,q8]) 40:=(minL_rs (by simp) (fun y hy=>by simp at hy;rcases hy with rfl | rfl;exact sb;exact sd)).1
 have hG:=Lib.hid (fun W g h h1 h2=>greatest2 b5 A5 n5 c5 x5 D5 m5 d5 y5 q5 b7 A7 n7 c7 x7 D7 m7 d7 y7 q7 W g 26 h h1 h2)
 have hL:=Lib.hid (fun W g h h1 h2=>least2 b6 A6 n6 c6 x6 D6 m6 d6 y6 q6 b8 A8 n8 c8 x8 D8 m8 d8 y8 q8 W g 26 h h1 h2)
 have k1:=Lib.hid X1.k
 have k2:=Lib.hid X2.k
 have k3:=Lib.hid X3.k
 have k4:=Lib.hid X4.k
 have k5:=Lib.hid X5.k
 have k6:=Lib.hid X6.k
 have k7:=Lib.hid X7.k
 have k8:=Lib.hid X8.k
 generalize maxL [q5,q7]=lo at *
 generalize minL [q6,q8]=hi at *
 have hO:Hid (∀ W A n c D m d A' n' c' D' m' d',RR W A n c D m d lo→RR W A' n' c' D' m' d' hi→Calls Tryz.prog 94 #[.agg #[.bool (ng lo.num),.slice A n c,.slice D m d,.bool (ng hi.num),.slice A' n' c',.slice D' m' d']] W fun e w'=>e=.returned (.bool true)∧Below W.heap.size W w'):=Lib.hid fun W A n c D m d A' n' c' D' m' d' h1 h2=>by
  have:=isOrdered_any _ _ _ _ _ _ _ _ _ _ _ _ _ _ _ _ _ _ _ _ W (RR.w h1 slo) (RR.w h2 shi)
  rwa [decide_eq_true (Rat.not_lt.1 h)] at this
 clear h sa sb sc sd slo shi
 have S:=((((((((((((((((((((St.new w).read X1.rn).read X1.rd).read X2.rn).read X2.rd).read X3.rn).read X3.rd).read X4.rn).read X4.rd).read X5.rn).read X5.rd).read X6.rn).read X6.rd).read X7.rn).read X7.rd).read X8.rn).read X8.rd).allocAt (w.heap.size) #[.bool b1,.slice A1 n1 c1,.slice D1 m1 d1,.bool b2,.slice A2 n2 c2,.slice D2 m2 d2] 28 (noL6 _ _ _ _ _ _ _ _ _ _ _ _ _ _) (by simp)).allocAt (w.heap.size+1) #[.bool b3,.slice A3 n3 c3,.slice D3 m3 d3,.bool b4,.slice A4 n4 c4,.slice D4 m4 d4] 28 (noL6 _ _ _ _ _ _ _ _ _ _ _ _ _ _) (by simp)).allocAt (w.heap.size+1+1) #[.bool false,.slice none 0 0,.slice none 0 0,.bool false,.slice none 0 0,.slice none 0 0] 28 (noL6 _ _ _ _ _ _ _ _ _ _ _ _ _ _) (by simp))
 replace S:=Lib.hid S
 clear X1 X2 X3 X4 X5 X6 X7 X8
 go_enter Tryz.func28,Tryz.ntmps28
 go_upto_region 1 with fail
 have S:=S.out
 generalize hW1:(World.alloc (World.alloc (World.alloc w (.cells #[.bool b1,.slice A1 n1 c1,.slice D1 m1 d1,.bool b2,.slice A2 n2 c2,.slice D2 m2 d2] 28)) (.cells #[.bool b3,.slice A3 n3 c3,.slice D3 m3 d3,.bool b4,.slice A4 n4 c4,.slice D4 m4 d4] 28)) (.cells #[.bool false,.slice none 0 0,.slice none 0 0,.bool false,.slice none 0 0,.slice none 0 0] 28))=w1 at S ⊢
 clear hW1
 replace S:=Lib.hid S
 have d_a0:=St.cl (S.out) 2 0 rfl rfl
 have d_a1:=St.cl (S.out) 2 1 rfl rfl
 have d_a2:=St.cl (S.out) 2 2 rfl rfl
 have d_a3:=St.cl (S.out) 2 3 rfl rfl
 have d_a4:=St.cl (S.out) 2 4 rfl rfl
 have d_a5:=St.cl (S.out) 2 5 rfl rfl
 have d_b0:=St.cl (S.out) 1 0 rfl rfl
 have d_b1:=St.cl (S.out) 1 1 rfl rfl
 have d_b2:=St.cl (S.out) 1 2 rfl rfl
 have d_b3:=St.cl (S.out) 1 3 rfl rfl
 have d_b4:=St.cl (S.out) 1 4 rfl rfl
 have d_b5:=St.cl (S.out) 1 5 rfl rfl
 have dz_a0:=St.f (S.out) 2 0 rfl
 have dz_a1:=St.f (S.out) 2 1 rfl
 have dz_a2:=St.f (S.out) 2 2 rfl
 have dz_a3:=St.f (S.out) 2 3 rfl
 have dz_a4:=St.f (S.out) 2 4 rfl
 have dz_a5:=St.f (S.out) 2 5 rfl
 have dz_b0:=St.f (S.out) 1 0 rfl
 have dz_b1:=St.f (S.out) 1 1 rfl
 have dz_b2:=St.f (S.out) 1 2 rfl
 have dz_b3:=St.f (S.out) 1 3 rfl
 have dz_b4:=St.f (S.out) 1 4 rfl
 have dz_b5:=St.f (S.out) 1 5 rfl
 go_cut [] (fun wx=>St w wx [(w.heap.size+1+1,#[.bool false,.slice none 0 0,.slice none 0 0,.bool false,.slice none 0 0,.slice none 0 0],28),(w.heap.size+1,#[.bool b7,.slice A7 n7 c7,.slice D7 m7 d7,.bool b8,.slice A8 n8 c8,.slice D8 m8 d8],28),(w.heap.size,#[.bool b5,.slice A5 n5 c5,.slice D5 m5 d5,.bool b6,.slice A6 n6 c6,.slice D6 m6 d6],28)] [(D8,m8,d8,y8),(A8,n8,c8,x8),(D7,m7,d7,y7),(A7,n7,c7,x7),(D6,m6,d6,y6),(A6,n6,c6,x6),(D5,m5,d5,y5),(A5,n5,c5,x5),(D4,m4,d4,y4),(A4,n4,c4,x4),(D3,m3,d3,y3),(A3,n3,c3,x3),(D2,m2,d2,y2),(A2,n2,c2,x2),(D1,m1,d1,y1),(A1,n1,c1,x1)])
 case first=>
  have SD:=Lib.hid (S.out.drew)
  go_region_with (first
   | (go_at_call_of 85 (Value.agg #[.bool b1,.slice A1 n1 c1,.slice D1 m1 d1,.bool b2,.slice A2 n2 c2,.slice D2 m2 d2]);refine (hK1.out _ (Rw.of (SD.out.r 15 rfl) (SD.out.r 14 rfl) k1.out) (Rw.of (SD.out.r 13 rfl) (SD.out.r 12 rfl) k2.out)).mono ?_;rintro e w2 ⟨rfl,bb0⟩;have S0:St w w2 [(w.heap.size+1+1,#[.bool false,.slice none 0 0,.slice none 0 0,.bool false,.slice none 0 0,.slice none 0 0],28),(w.heap.size+1,#[.bool b3,.slice A3 n3 c3,.slice D3 m3 d3,.bool b4,.slice A4 n4 c4,.slice D4 m4 d4],28),(w.heap.size,#[.bool b1,.slice A1 n1 c1,.slice D1 m1 d1,.bool b2,.slice A2 n2 c2,.slice D2 m2 d2],28)] [(D8,m8,d8,y8),(A8,n8,c8,x8),(D7,m7,d7,y7),(A7,n7,c7,x7),(D6,m6,d6,y6),(A6,n6,c6,x6),(D5,m5,d5,y5),(A5,n5,c5,x5),(D4,m4,d4,y4),(A4,n4,c4,x4),(D3,m3,d3,y3),(A3,n3,c3,x3),(D2,m2,d2,y2),(A2,n2,c2,x2),(D1,m1,d1,y1),(A1,n1,c1,x1)]:=(SD.out.call bb0);have e0_b0:=St.cl (S0) 1 0 rfl rfl;have e0_b1:=St.cl (S0) 1 1 rfl rfl;have e0_b2:=St.cl (S0) 1 2 rfl rfl;have e0_b3:=St.cl (S0) 1 3 rfl rfl;have e0_b4:=St.cl (S0) 1 4 rfl rfl;have e0_b5:=St.cl (S0) 1 5 rfl rfl)
   | (go_at_call_of 85 (Value.agg #[.bool b3,.slice A3 n3 c3,.slice D3 m3 d3,.bool b4,.slice A4 n4 c4,.slice D4 m4 d4]);refine (hK2.out _ (Rw.of (S0.r 11 rfl) (S0.r 10 rfl) k3.out) (Rw.of (S0.r 9 rfl) (S0.r 8 rfl) k4.out)).mono ?_;rintro e w3 ⟨rfl,bb1⟩;have S1:St w w3 [(w.heap.size+1+1,#[.bool false,.slice none 0 0,.slice none 0 0,.bool false,.slice none 0 0,.slice none 0 0],28),(w.heap.size+1,#[.bool b3,.slice A3 n3 c3,.slice D3 m3 d3,.bool b4,.slice A4 n4 c4,.slice D4 m4 d4],28),(w.heap.size,#[.bool b1,.slice A1 n1 c1,.slice D1 m1 d1,.bool b2,.slice A2 n2 c2,.slice D2 m2 d2],28)] [(D8,m8,d8,y8),(A8,n8,c8,x8),(D7,m7,d7,y7),(A7,n7,c7,x7),(D6,m6,d6,y6),(A6,n6,c6,x6),(D5,m5,d5,y5),(A5,n5,c5,x5),(D4,m4,d4,y4),(A4,n4,c4,x4),(D3,m3,d3,y3),(A3,n3,c3,x3),(D2,m2,d2,y2),(A2,n2,c2,x2),(D1,m1,d1,y1),(A1,n1,c1,x1)]:=(S0.call bb1);have e1_a0:=St.cl (S1) 2 0 rfl rfl;have e1_a1:=St.cl (S1) 2 1 rfl rfl;have e1_a2:=St.cl (S1) 2 2 rfl rfl;have e1_a3:=St.cl (S1) 2 3 rfl rfl;have e1_a4:=St.cl (S1) 2 4 rfl rfl;have e1_a5:=St.cl (S1) 2 5 rfl rfl;have e1_b0:=St.cl (S1) 1 0 rfl rfl;have e1_b1:=St.cl (S1) 1 1 rfl rfl;have e1_b2:=St.cl (S1) 1 2 rfl rfl;have e1_b3:=St.cl (S1) 1 3 rfl rfl;have e1_b4:=St.cl (S1) 1 4 rfl rfl;have e1_b5:=St.cl (S1) 1 5 rfl rfl;have e1z_a0:=St.f (S1) 2 0 rfl;have e1z_a1:=St.f (S1) 2 1 rfl;have e1z_a2:=St.f (S1) 2 2 rfl;have e1z_a3:=St.f (S1) 2 3 rfl;have e1z_a4:=St.f (S1) 2 4 rfl;have e1z_a5:=St.f (S1) 2 5 rfl;have e1z_b0:=St.f (S1) 1 0 rfl;have e1z_b1:=St.f (S1) 1 1 rfl;have e1z_b2:=St.f (S1) 1 2 rfl;have e1z_b3:=St.f (S1) 1 3 rfl;have e1z_b4:=St.f (S1) 1 4 rfl;have e1z_b5:=St.f (S1) 1 5 rfl))
  all_goals
   have SE:=Lib.hid (((((((((((((S1.set 2 0 (.bool b5) rfl (by nofun)).set 2 1 (.slice A5 n5 c5) rfl (by nofun)).set 2 2 (.slice D5 m5 d5) rfl (by nofun)).set 2 3 (.bool b6) rfl (by nofun)).set 2 4 (.slice A6 n6 c6) rfl (by nofun)).set 2 5 (.slice D6 m6 d6) rfl (by nofun)).set 1 0 (.bool b7) rfl (by nofun)).set 1 1 (.slice A7 n7 c7) rfl (by nofun)).set 1 2 (.slice D7 m7 d7) rfl (by nofun)).set 1 3 (.bool b8) rfl (by nofun)).set 1 4 (.slice A8 n8 c8) rfl (by nofun)).set 1 5 (.slice D8 m8 d8) rfl (by nofun)))
   clear d_a0 d_a1 d_a2 d_a3 d_a4 d_a5 d_b0 d_b1 d_b2 d_b3 d_b4 d_b5 dz_a0 dz_a1 dz_a2 dz_a3 dz_a4 dz_a5 dz_b0 dz_b1 dz_b2 dz_b3 dz_b4 dz_b5 e0_b0 e0_b1 e0_b2 e0_b3 e0_b4 e0_b5 e1_a0 e1_a1 e1_a2 e1_a3 e1_a4 e1_a5 e1_b0 e1_b1 e1_b2 e1_b3 e1_b4 e1_b5 e1z_a0 e1z_a1 e1z_a2 e1z_a3 e1z_a4 e1z_a5 e1z_b0 e1z_b1 e1z_b2 e1z_b3 e1z_b4 e1z_b5
   go_wp2_with fail
   go_meet
   exact SE.out
 case rest=>
  clear d_a0 d_a1 d_a2 d_a3 d_a4 d_a5 d_b0 d_b1 d_b2 d_b3 d_b4 d_b5 dz_a0 dz_a1 dz_a2 dz_a3 dz_a4 dz_a5 dz_b0 dz_b1 dz_b2 dz_b3 dz_b4 dz_b5
  clear S
  have S:=hcut
  obtain⟨c_r0,c_r1,c_r2,c_r3,c_r4,c_r5,f_r0,f_r1,f_r2,f_r3,f_r4,f_r5⟩:=S.cf6 0 rfl
  obtain⟨c_b0,c_b1,c_b2,c_b3,c_b4,c_b5,f_b0,f_b1,f_b2,f_b3,f_b4,f_b5⟩:=S.cf6 1 rfl
  obtain⟨c_a0,c_a1,c_a2,c_a3,c_a4,c_a5,f_a0,f_a1,f_a2,f_a3,f_a4,f_a5⟩:=S.cf6 2 rfl
  have hz:w.heap.size+1+1<wc.heap.size:=S.lt 0 rfl
  replace S:=Lib.hid S
  clear hK1 hK2
  go_upto_region 2 with fail
  clear c_r0 f_r0 c_r1 f_r1 c_r2 f_r2 c_r3 f_r3 c_r4 f_r4 c_r5 f_r5 c_b0 f_b0 c_b1 f_b1 c_b2 f_b2 c_b3 f_b3 c_b4 f_b4 c_b5 f_b5 c_a0 f_a0 c_a1 f_a1 c_a2 f_a2 c_a3 f_a3 c_a4 f_a4 c_a5 f_a5 hz
  go_cut [6] (fun sv wx=>∃ (g:Nat) (A31:Option Addr) (n31 c31:Nat) (D31:Option Addr) (m31 d31:Nat) (A32:Option Addr) (n32 c32:Nat) (D32:Option Addr) (m32 d32:Nat),sv=.pointer (some ⟨g,0,none⟩)∧St w wx [(g,#[.bool (ng lo.num),.slice A31 n31 c31,.slice D31 m31 d31,.bool (ng hi.num),.slice A32 n32 c32,.slice D32 m32 d32],28),(w.heap.size+1+1,#[.bool false,.slice none 0 0,.slice none 0 0,.bool false,.slice none 0 0,.slice none 0 0],28),(w.heap.size+1,#[.bool b7,.slice A7 n7 c7,.slice D7 m7 d7,.bool b8,.slice A8 n8 c8,.slice D8 m8 d8],28),(w.heap.size,#[.bool b5,.slice A5 n5 c5,.slice D5 m5 d5,.bool b6,.slice A6 n6 c6,.slice D6 m6 d6],28)] [(D32,m32,d32,dn hi),(A32,n32,c32,limbs hi.num.natAbs),(D31,m31,d31,dn lo),(A31,n31,c31,limbs lo.num.natAbs)])
  case first=>
   refine RW.begin (Z:=[⟨13,6,#[.bool false,.slice none 0 0,.slice none 0 0,.bool false,.slice none 0 0,.slice none 0 0],28⟩]) (S:=(fun W=>Cb W (w.heap.size) #[.bool b5,.slice A5 n5 c5,.slice D5 m5 d5,.bool b6,.slice A6 n6 c6,.slice D6 m6 d6] 28∧Cb W (w.heap.size+1) #[.bool b7,.slice A7 n7 c7,.slice D7 m7 d7,.bool b8,.slice A8 n8 c8,.slice D8 m8 d8] 28)) (by kernel_rfl) ?_ S.out ?_
   ·exact⟨by kernel_rfl,(zis_cons at13 (fun _ _=>by kernel_rfl) zis_nil),by decide,by decide,(nol_cons (noL6 _ _ _ _ _ _ _ _ _ _ _ _ _ _) nol_nil),(fun _ _ h=>⟨h.kb 2 rfl,h.kb 1 rfl⟩)⟩
   intro hzk
   clear S
   refine RW.t (i:=0) (v:=.pointer (some ⟨w.heap.size,0,none⟩)) (some 11) at0 (hy:=fun _ _=>by kernel_rfl) (h:=?_)
   refine RW.t (i:=1) (v:=.agg #[.bool b5,.slice A5 n5 c5,.slice D5 m5 d5]) (some 12) at1 (hy:=fun W hS=>by (have k0:=Cb.cell (i:=0) hS.1 rfl;have k1:=Cb.cell (i:=1) hS.1 rfl;have k2:=Cb.cell (i:=2) hS.1 rfl;clear hS;go_simp)) (h:=?_)
   refine RW.t (i:=2) (v:=.pointer (some ⟨w.heap.size+1,0,none⟩)) (some 13) at2 (hy:=fun _ _=>by kernel_rfl) (h:=?_)
   refine RW.t (i:=3) (v:=.agg #[.bool b7,.slice A7 n7 c7,.slice D7 m7 d7]) (some 14) at3 (hy:=fun W hS=>by (have k0:=Cb.cell (i:=0) hS.2 rfl;have k1:=Cb.cell (i:=1) hS.2 rfl;have k2:=Cb.cell (i:=2) hS.2 rfl;clear hS;go_simp)) (h:=?_)
   refine RW.t (i:=6) (v:=.pointer (some ⟨w.heap.size,3,none⟩)) (some 17) at6 (hy:=fun _ _=>by kernel_rfl) (h:=?_)
   refine RW.t (i:=7) (v:=.agg #[.bool b6,.slice A6 n6 c6,.slice D6 m6 d6]) (some 18) at7 (hy:=fun W hS=>by (have k3:=Cb.cell (i:=3) hS.1 rfl;have k4:=Cb.cell (i:=4) hS.1 rfl;have k5:=Cb.cell (i:=5) hS.1 rfl;clear hS;go_simp)) (h:=?_)
   refine RW.t (i:=8) (v:=.pointer (some ⟨w.heap.size+1,3,none⟩)) (some 19) at8 (hy:=fun _ _=>by kernel_rfl) (h:=?_)
   refine RW.t (i:=9) (v:=.agg #[.bool b8,.slice A8 n8 c8,.slice D8 m8 d8]) (some 20) at9 (hy:=fun W hS=>by (have k3:=Cb.cell (i:=3) hS.2 rfl;have k4:=Cb.cell (i:=4) hS.2 rfl;have k5:=Cb.cell (i:=5) hS.2 rfl;clear hS;go_simp)) (h:=?_)
   refine RW.branch (i:=4) (j:=10) hzk.out (by kernel_rfl) ?_ ?_
   ·refine One.blk (i:=4) (cs:=#[.bool b5,.slice A5 n5 c5,.slice D5 m5 d5,.bool b7,.slice A7 n7 c7,.slice D7 m7 d7]) (t:=26) (k:=2) (some 15) hzk.out at4 rfl (by kernel_rfl) (by kernel_rfl) (fun _=>by kernel_rfl) (noL6 _ _ _ _ _ _ _ _ _ _ _ _ _ _) ?_
    clear hzk
    intro g_L4 hzk
    refine RW.branch (i:=5) (j:=10) hzk.out (by kernel_rfl) ?_ ?_
    ·refine One.call (c:=5) (args:=#[.slice (some ⟨g_L4,0,none⟩) 2 2]) (some 16) hzk.out at5 rfl (by kernel_rfl) (by kernel_rfl) (hx:=fun _=>by kernel_rfl) (h:=fun _ S=>(hG.out _ _ (S.cb 0 rfl) (Rw.of (S.r 7 rfl) (S.r 6 rfl) k5.out) (Rw.of (S.r 3 rfl) (S.r 2 rfl) k7.out)).mono ?_)
     rintro e w5 ⟨A31,n31,c31,D31,m31,d31,rfl,Q31,bb⟩
     refine⟨bb,_,[(D31,m31,d31,dn lo),(A31,n31,c31,limbs lo.num.natAbs)],rfl,(rd_cons Q31.d (rd_cons Q31.n rd_nil)),?_⟩
     clear bb S Q31
     refine RW.blk (i:=10) (cs:=#[.bool b6,.slice A6 n6 c6,.slice D6 m6 d6,.bool b8,.slice A8 n8 c8,.slice D8 m8 d8]) (t:=26) (k:=2) (some 21) hzk.out at10 rfl (by kernel_rfl) (by kernel_rfl) (fun _=>by kernel_rfl) (noL6 _ _ _ _ _ _ _ _ _ _ _ _ _ _) ?_
     clear hzk
     intro g_L10 hzk
     refine RW.c (i:=11) (args:=#[.slice (some ⟨g_L10,0,none⟩) 2 2]) (some 22) hzk.out at11 (hx:=fun _=>by kernel_rfl) (h:=fun _ S=>(hL.out _ _ (S.cb 0 rfl) (Rw.of (S.r 7 rfl) (S.r 6 rfl) k6.out) (Rw.of (S.r 3 rfl) (S.r 2 rfl) k8.out)).mono ?_)
     rintro e w6 ⟨A32,n32,c32,D32,m32,d32,rfl,Q32,bb⟩
     refine⟨bb,_,[(D32,m32,d32,dn hi),(A32,n32,c32,limbs hi.num.natAbs)],rfl,(rd_cons Q32.d (rd_cons Q32.n rd_nil)),?_⟩
     clear bb S Q32
     refine RW.t (i:=12) (v:=.agg #[.bool (ng lo.num),.slice A31 n31 c31,.slice D31 m31 d31,.bool (ng hi.num),.slice A32 n32 c32,.slice D32 m32 d32]) (some 23) at12 (hy:=fun _ _=>by kernel_rfl) (h:=?_)
     refine RW.tail hzk.out (by kernel_rfl) ?_
     intro gs w7 hgs hS S
     obtain⟨g_m,rfl⟩:=len1' hgs
     clear hS hgs hzk
     simp only[mark,fill,List.map,Act.put,List.setIfInBounds_toArray,List.set_cons_zero,List.set_cons_succ]
     replace S:=Lib.hid S
     refine Wk.o (i:=14) at14 (by kernel_rfl) fun K' hK=>?_
     have q14_m0:=St.cl (S.out) 0 0 rfl rfl
     have q14_m1:=St.cl (S.out) 0 1 rfl rfl
     have q14_m2:=St.cl (S.out) 0 2 rfl rfl
     have q14_m3:=St.cl (S.out) 0 3 rfl rfl
     have q14_m4:=St.cl (S.out) 0 4 rfl rfl
     have q14_m5:=St.cl (S.out) 0 5 rfl rfl
     have q14z_m0:=St.f (S.out) 0 0 rfl
     have q14z_m1:=St.f (S.out) 0 1 rfl
     have q14z_m2:=St.f (S.out) 0 2 rfl
     have q14z_m3:=St.f (S.out) 0 3 rfl
     have q14z_m4:=St.f (S.out) 0 4 rfl
     have q14z_m5:=St.f (S.out) 0 5 rfl
     go_simp
     have SN:=((((((S.out.set 0 0 (.bool (ng lo.num)) rfl (by nofun)).set 0 1 (.slice A31 n31 c31) rfl (by nofun)).set 0 2 (.slice D31 m31 d31) rfl (by nofun)).set 0 3 (.bool (ng hi.num)) rfl (by nofun)).set 0 4 (.slice A32 n32 c32) rfl (by nofun)).set 0 5 (.slice D32 m32 d32) rfl (by nofun))
     clear S q14_m0 q14_m1 q14_m2 q14_m3 q14_m4 q14_m5 q14z_m0 q14z_m1 q14z_m2 q14z_m3 q14z_m4 q14z_m5
     have S:=SN
     clear SN
     refine hK.out _ _ ⟨(S.cb 5 rfl),(S.cb 4 rfl)⟩ ?_
     clear hK K'
     replace S:=Lib.hid S
     try simp only[Act.put,List.setIfInBounds_toArray,List.set_cons_zero,List.set_cons_succ]
     refine Wk.done (by kernel_rfl) ?_
     go_simp
     have SE:=S
     clear S
     go_wp2_with fail
     go_meet
     exact⟨_,_,_,_,_,_,_,_,_,_,_,_,_,rfl,SE.out.pick [0,3,4,5] [0,1,2,3] rfl (by decide) rfl⟩
    ·refine One.blk (i:=10) (cs:=#[.bool b6,.slice A6 n6 c6,.slice D6 m6 d6,.bool b8,.slice A8 n8 c8,.slice D8 m8 d8]) (t:=26) (k:=2) (some 21) hzk.out at10 rfl (by kernel_rfl) (by kernel_rfl) (fun _=>by kernel_rfl) (noL6 _ _ _ _ _ _ _ _ _ _ _ _ _ _) ?_
     clear hzk
     intro g_L10 hzk
     refine RW.c (i:=5) (args:=#[.slice (some ⟨g_L4,0,none⟩) 2 2]) (some 16) hzk.out at5 (hx:=fun _=>by kernel_rfl) (h:=fun _ S=>(hG.out _ _ (S.cb 1 rfl) (Rw.of (S.r 7 rfl) (S.r 6 rfl) k5.out) (Rw.of (S.r 3 rfl) (S.r 2 rfl) k7.out)).mono ?_)
     rintro e w5 ⟨A31,n31,c31,D31,m31,d31,rfl,Q31,bb⟩
     refine⟨bb,_,[(D31,m31,d31,dn lo),(A31,n31,c31,limbs lo.num.natAbs)],rfl,(rd_cons Q31.d (rd_cons Q31.n rd_nil)),?_⟩
     clear bb S Q31
     refine RW.c (i:=11) (args:=#[.slice (some ⟨g_L10,0,none⟩) 2 2]) (some 22) hzk.out at11 (hx:=fun _=>by kernel_rfl) (h:=fun _ S=>(hL.out _ _ (S.cb 0 rfl) (Rw.of (S.r 7 rfl) (S.r 6 rfl) k6.out) (Rw.of (S.r 3 rfl) (S.r 2 rfl) k8.out)).mono ?_)
     rintro e w6 ⟨A32,n32,c32,D32,m32,d32,rfl,Q32,bb⟩
     refine⟨bb,_,[(D32,m32,d32,dn hi),(A32,n32,c32,limbs hi.num.natAbs)],rfl,(rd_cons Q32.d (rd_cons Q32.n rd_nil)),?_⟩
     clear bb S Q32
     refine RW.t (i:=12) (v:=.agg #[.bool (ng lo.num),.slice A31 n31 c31,.slice D31 m31 d31,.bool (ng hi.num),.slice A32 n32 c32,.slice D32 m32 d32]) (some 23) at12 (hy:=fun _ _=>by kernel_rfl) (h:=?_)
     refine RW.tail hzk.out (by kernel_rfl) ?_
     intro gs w7 hgs hS S
     obtain⟨g_m,rfl⟩:=len1' hgs
     clear hS hgs hzk
     simp only[mark,fill,List.map,Act.put,List.setIfInBounds_toArray,List.set_cons_zero,List.set_cons_succ]
     replace S:=Lib.hid S
     refine Wk.o (i:=14) at14 (by kernel_rfl) fun K' hK=>?_
     have q14_m0:=St.cl (S.out) 0 0 rfl rfl
     have q14_m1:=St.cl (S.out) 0 1 rfl rfl
     have q14_m2:=St.cl (S.out) 0 2 rfl rfl
     have q14_m3:=St.cl (S.out) 0 3 rfl rfl
     have q14_m4:=St.cl (S.out) 0 4 rfl rfl
     have q14_m5:=St.cl (S.out) 0 5 rfl rfl
     have q14z_m0:=St.f (S.out) 0 0 rfl
     have q14z_m1:=St.f (S.out) 0 1 rfl
     have q14z_m2:=St.f (S.out) 0 2 rfl
     have q14z_m3:=St.f (S.out) 0 3 rfl
     have q14z_m4:=St.f (S.out) 0 4 rfl
     have q14z_m5:=St.f (S.out) 0 5 rfl
     go_simp
     have SN:=((((((S.out.set 0 0 (.bool (ng lo.num)) rfl (by nofun)).set 0 1 (.slice A31 n31 c31) rfl (by nofun)).set 0 2 (.slice D31 m31 d31) rfl (by nofun)).set 0 3 (.bool (ng hi.num)) rfl (by nofun)).set 0 4 (.slice A32 n32 c32) rfl (by nofun)).set 0 5 (.slice D32 m32 d32) rfl (by nofun))
     clear S q14_m0 q14_m1 q14_m2 q14_m3 q14_m4 q14_m5 q14z_m0 q14z_m1 q14z_m2 q14z_m3 q14z_m4 q14z_m5
     have S:=SN
     clear SN
     refine hK.out _ _ ⟨(S.cb 5 rfl),(S.cb 4 rfl)⟩ ?_
     clear hK K'
     replace S:=Lib.hid S
     try simp only[Act.put,List.setIfInBounds_toArray,List.set_cons_zero,List.set_cons_succ]
     refine Wk.done (by kernel_rfl) ?_
     go_simp
     have SE:=S
     clear S
     go_wp2_with fail
     go_meet
     exact⟨_,_,_,_,_,_,_,_,_,_,_,_,_,rfl,SE.out.pick [0,3,4,5] [0,1,2,3] rfl (by decide) rfl⟩
   ·refine One.blk (i:=10) (cs:=#[.bool b6,.slice A6 n6 c6,.slice D6 m6 d6,.bool b8,.slice A8 n8 c8,.slice D8 m8 d8]) (t:=26) (k:=2) (some 21) hzk.out at10 rfl (by kernel_rfl) (by kernel_rfl) (fun _=>by kernel_rfl) (noL6 _ _ _ _ _ _ _ _ _ _ _ _ _ _) ?_
    clear hzk
    intro g_L10 hzk
    refine RW.blk (i:=4) (cs:=#[.bool b5,.slice A5 n5 c5,.slice D5 m5 d5,.bool b7,.slice A7 n7 c7,.slice D7 m7 d7]) (t:=26) (k:=2) (some 15) hzk.out at4 rfl (by kernel_rfl) (by kernel_rfl) (fun _=>by kernel_rfl) (noL6 _ _ _ _ _ _ _ _ _ _ _ _ _ _) ?_
    clear hzk
    intro g_L4 hzk
    refine RW.c (i:=5) (args:=#[.slice (some ⟨g_L4,0,none⟩) 2 2]) (some 16) hzk.out at5 (hx:=fun _=>by kernel_rfl) (h:=fun _ S=>(hG.out _ _ (S.cb 0 rfl) (Rw.of (S.r 7 rfl) (S.r 6 rfl) k5.out) (Rw.of (S.r 3 rfl) (S.r 2 rfl) k7.out)).mono ?_)
    rintro e w5 ⟨A31,n31,c31,D31,m31,d31,rfl,Q31,bb⟩
    refine⟨bb,_,[(D31,m31,d31,dn lo),(A31,n31,c31,limbs lo.num.natAbs)],rfl,(rd_cons Q31.d (rd_cons Q31.n rd_nil)),?_⟩
    clear bb S Q31
    refine RW.c (i:=11) (args:=#[.slice (some ⟨g_L10,0,none⟩) 2 2]) (some 22) hzk.out at11 (hx:=fun _=>by kernel_rfl) (h:=fun _ S=>(hL.out _ _ (S.cb 1 rfl) (Rw.of (S.r 7 rfl) (S.r 6 rfl) k6.out) (Rw.of (S.r 3 rfl) (S.r 2 rfl) k8.out)).mono ?_)
    rintro e w6 ⟨A32,n32,c32,D32,m32,d32,rfl,Q32,bb⟩
    refine⟨bb,_,[(D32,m32,d32,dn hi),(A32,n32,c32,limbs hi.num.natAbs)],rfl,(rd_cons Q32.d (rd_cons Q32.n rd_nil)),?_⟩
    clear bb S Q32
    refine RW.t (i:=12) (v:=.agg #[.bool (ng lo.num),.slice A31 n31 c31,.slice D31 m31 d31,.bool (ng hi.num),.slice A32 n32 c32,.slice D32 m32 d32]) (some 23) at12 (hy:=fun _ _=>by kernel_rfl) (h:=?_)
    refine RW.tail hzk.out (by kernel_rfl) ?_
    intro gs w7 hgs hS S
    obtain⟨g_m,rfl⟩:=len1' hgs
    clear hS hgs hzk
    simp only[mark,fill,List.map,Act.put,List.setIfInBounds_toArray,List.set_cons_zero,List.set_cons_succ]
    replace S:=Lib.hid S
    refine Wk.o (i:=14) at14 (by kernel_rfl) fun K' hK=>?_
    have q14_m0:=St.cl (S.out) 0 0 rfl rfl
    have q14_m1:=St.cl (S.out) 0 1 rfl rfl
    have q14_m2:=St.cl (S.out) 0 2 rfl rfl
    have q14_m3:=St.cl (S.out) 0 3 rfl rfl
    have q14_m4:=St.cl (S.out) 0 4 rfl rfl
    have q14_m5:=St.cl (S.out) 0 5 rfl rfl
    have q14z_m0:=St.f (S.out) 0 0 rfl
    have q14z_m1:=St.f (S.out) 0 1 rfl
    have q14z_m2:=St.f (S.out) 0 2 rfl
    have q14z_m3:=St.f (S.out) 0 3 rfl
    have q14z_m4:=St.f (S.out) 0 4 rfl
    have q14z_m5:=St.f (S.out) 0 5 rfl
    go_simp
    have SN:=((((((S.out.set 0 0 (.bool (ng lo.num)) rfl (by nofun)).set 0 1 (.slice A31 n31 c31) rfl (by nofun)).set 0 2 (.slice D31 m31 d31) rfl (by nofun)).set 0 3 (.bool (ng hi.num)) rfl (by nofun)).set 0 4 (.slice A32 n32 c32) rfl (by nofun)).set 0 5 (.slice D32 m32 d32) rfl (by nofun))
    clear S q14_m0 q14_m1 q14_m2 q14_m3 q14_m4 q14_m5 q14z_m0 q14z_m1 q14z_m2 q14z_m3 q14z_m4 q14z_m5
    have S:=SN
    clear SN
    refine hK.out _ _ ⟨(S.cb 5 rfl),(S.cb 4 rfl)⟩ ?_
    clear hK K'
    replace S:=Lib.hid S
    try simp only[Act.put,List.setIfInBounds_toArray,List.set_cons_zero,List.set_cons_succ]
    refine Wk.done (by kernel_rfl) ?_
    go_simp
    have SE:=S
    clear S
    go_wp2_with fail
    go_meet
    exact⟨_,_,_,_,_,_,_,_,_,_,_,_,_,rfl,SE.out.pick [0,3,4,5] [0,1,2,3] rfl (by decide) rfl⟩
  case rest=>
   clear S hG hL
   obtain⟨g,A31,n31,c31,D31,m31,d31,A32,n32,c32,D32,m32,d32,rfl,S⟩:=hcut
   obtain⟨c_m0,c_m1,c_m2,c_m3,c_m4,c_m5,f_m0,f_m1,f_m2,f_m3,f_m4,f_m5⟩:=S.cf6 0 rfl
   obtain⟨c_r0,c_r1,c_r2,c_r3,c_r4,c_r5,f_r0,f_r1,f_r2,f_r3,f_r4,f_r5⟩:=S.cf6 1 rfl
   obtain⟨c_b0,c_b1,c_b2,c_b3,c_b4,c_b5,f_b0,f_b1,f_b2,f_b3,f_b4,f_b5⟩:=S.cf6 2 rfl
   obtain⟨c_a0,c_a1,c_a2,c_a3,c_a4,c_a5,f_a0,f_a1,f_a2,f_a3,f_a4,f_a5⟩:=S.cf6 3 rfl
   have hz:g<wc.heap.size:=S.lt 0 rfl
   replace S:=Lib.hid S
   go_wp2_with fail
   refine (hO.out _ _ _ _ _ _ _ _ _ _ _ _ _ ⟨S.out.r 3 rfl,S.out.r 2 rfl⟩ ⟨S.out.r 1 rfl,S.out.r 0 rfl⟩).mono ?_
   rintro e w25 ⟨rfl,bb⟩
   have T:=(S.out.call bb)
   clear bb S c_m0 f_m0 c_m1 f_m1 c_m2 f_m2 c_m3 f_m3 c_m4 f_m4 c_m5 f_m5 c_r0 f_r0 c_r1 f_r1 c_r2 f_r2 c_r3 f_r3 c_r4 f_r4 c_r5 f_r5 c_b0 f_b0 c_b1 f_b1 c_b2 f_b2 c_b3 f_b3 c_b4 f_b4 c_b5 f_b5 c_a0 f_a0 c_a1 f_a1 c_a2 f_a2 c_a3 f_a3 c_a4 f_a4 c_a5 f_a5 hz
   have S:=T
   clear T
   obtain⟨c_m0,c_m1,c_m2,c_m3,c_m4,c_m5,f_m0,f_m1,f_m2,f_m3,f_m4,f_m5⟩:=S.cf6 0 rfl
   obtain⟨c_r0,c_r1,c_r2,c_r3,c_r4,c_r5,f_r0,f_r1,f_r2,f_r3,f_r4,f_r5⟩:=S.cf6 1 rfl
   obtain⟨c_b0,c_b1,c_b2,c_b3,c_b4,c_b5,f_b0,f_b1,f_b2,f_b3,f_b4,f_b5⟩:=S.cf6 2 rfl
   obtain⟨c_a0,c_a1,c_a2,c_a3,c_a4,c_a5,f_a0,f_a1,f_a2,f_a3,f_a4,f_a5⟩:=S.cf6 3 rfl
   have hz:g<w25.heap.size:=S.lt 0 rfl
   replace S:=Lib.hid S
   clear hO
   have S:St w _ [(g,#[.bool (ng lo.num),.slice A31 n31 c31,.slice D31 m31 d31,.bool (ng hi.num),.slice A32 n32 c32,.slice D32 m32 d32],28),(w.heap.size+1+1,#[.bool (ng lo.num),.slice A31 n31 c31,.slice D31 m31 d31,.bool (ng hi.num),.slice A32 n32 c32,.slice D32 m32 d32],28),(w.heap.size+1,#[.bool b7,.slice A7 n7 c7,.slice D7 m7 d7,.bool b8,.slice A8 n8 c8,.slice D8 m8 d8],28),(w.heap.size,#[.bool b5,.slice A5 n5 c5,.slice D5 m5 d5,.bool b6,.slice A6 n6 c6,.slice D6 m6 d6],28)] [(D32,m32,d32,dn hi),(A32,n32,c32,limbs hi.num.natAbs),(D31,m31,d31,dn lo),(A31,n31,c31,limbs lo.num.natAbs)]:=((((((S.out.set 1 0 (.bool (ng lo.num)) rfl (by nofun)).set 1 1 (.slice A31 n31 c31) rfl (by nofun)).set 1 2 (.slice D31 m31 d31) rfl (by nofun)).set 1 3 (.bool (ng hi.num)) rfl (by nofun)).set 1 4 (.slice A32 n32 c32) rfl (by nofun)).set 1 5 (.slice D32 m32 d32) rfl (by nofun))
   replace S:=Lib.hid S
   go_wp2
   refine bodyPost_ret (res_meet _ _ (w.heap.size+1+1) 28 rfl rfl (S.out.bk _ (List.mem_of_getElem? (i:=1) rfl)).1) rfl ?_
   exact⟨_,_,_,_,_,_,_,_,_,_,_,_,rfl,⟨S.out.r 3 rfl,S.out.r 2 rfl⟩,⟨S.out.r 1 rfl,S.out.r 0 rfl⟩,S.out.bel⟩
end Go.Proofs.YtphckmdnflbloaaGreat
