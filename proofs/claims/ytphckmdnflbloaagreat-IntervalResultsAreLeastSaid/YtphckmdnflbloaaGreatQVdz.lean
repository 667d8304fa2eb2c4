/- A drawn region that lays out a block of rows; rows of rows made of literal cells; copyOf, least, greatest, around. copyOf, least, greatest, around of interval. -/
import Derived.Test.YtphckmdnflbloaaGreatQVaz
import Derived.Test.YtphckmdnflbloaaGreatQMaz
namespace Go.Proofs.YtphckmdnflbloaaGreat
open Go.RowKit RQ
section
variable {P:Program} {ops:Array Oper} {Q:Exit→Act→World→Prop} {S:World→Prop} {w0:World} {Z:List Zv} {L:Array Bool} {a:Act} {bs:List (Nat×Array Value×Nat)} {rs:List (Option Addr×Nat×Nat×List Nat)}
/-- A block that is laid out next. -/
theorem RW.blk {i:Nat} {oi:Oper} {cs:Array Value} {t k:Nat} (dst:Option Nat) (hz:ZOk P ops S w0 Z bs) (hi:ops[i]?=some oi) (hd:oi.dst=dst) (hc:callOk ops Z L i oi=true) (hw:Region.wanted oi (yielded ops a.tmps)=true)
  (hx:∀ w,(execOp a.eval oi).run P w=.ok (.value (.slice (some ⟨w.heap.size,0,none⟩) k k)) (w.alloc (.cells cs t))) (hn:NoL cs)
  (h:∀ g:Nat,Hid (ZOk P ops S w0 Z ((g,cs,t)::bs))→RW P ops Q S w0 Z (L.setIfInBounds i true) (a.put dst (.slice (some ⟨g,0,none⟩) k k)) ((g,cs,t)::bs) rs):RW P ops Q S w0 Z L a bs rs:=by
 have hzk:∀ g,ZOk P ops S w0 Z ((g,cs,t)::bs):=fun g=>⟨hz.ok,hz.is,hz.nd,hz.ndo,hz.nol,fun w B hB=>hz.keep w (B++[(g,cs,t)]) (by rw[List.append_assoc];exact hB)⟩
 simp only[callOk,Bool.and_eq_true,Bool.not_eq_true',beq_iff_eq] at hc
 obtain⟨⟨⟨⟨c1,c2⟩,c3⟩,c4⟩,c5⟩:=hc
 have hcz:i∉Z.map (·.op):=by simpa using c3
 subst hd
 intro σ w hl hS hst
 generalize hn':σ.count none=n
 induction n using Nat.strongRecOn generalizing σ w with
 | ind n ih=>
  have hcr:i∈Region.ready .any ops (mark Z σ L):=ready_mark (by simpa using c2) hcz
  refine Wk.all ⟨i,hcr⟩ fun j hj=>?_
  by_cases hjz:j∈Z.map (·.op)
  ·refine RW.alloc hz hl hst (mem_ready.1 hj).1 hjz fun σ' w' hl' hc' hS' hst'=>?_
   exact ih _ (by omega) σ' w' hl' hS' hst' rfl
  ·have:=ready_full hj hjz
   rw[c1] at this
   have:=List.mem_singleton.1 this
   subst this
   unfold wpOp
   rw[hi]
   simp only[wanted_fill (ops:=ops) oi Z σ a c4,hw,if_true]
   refine .inl ?_
   unfold Oper.wp
   rw[exec_fill (ops:=ops) oi (fun cs b=>Region.noSelect_spec c5 j oi cs b hi) Z σ a c4,hx]
   show S _∧Wk P ops Q S _ (Act.put _ oi.dst _) _
   have hst':St w0 (w.alloc (.cells cs t)) (blks Z σ++(w.heap.size,cs,t)::bs) rs:=(hst.alloc cs t hn).perm (List.perm_middle.symm)
   have hS':S (w.alloc (.cells cs t)):=(hzk w.heap.size).keep _ _ hst'.none
   refine⟨hS',?_⟩
   rw[←mark_set,←fill_put Z σ a oi.dst _ (fun z hzm e=>by
    have:=List.all_eq_true.1 c4 z hzm
    simp only[Bool.and_eq_true,bne_iff_ne] at this
    exact this.2 e)]
   exact h _ (Lib.hid (hzk _)) σ _ hl hS' hst'
end
end Go.Proofs.YtphckmdnflbloaaGreat

namespace Go.Proofs.YtphckmdnflbloaaGreat
open Go.RowKit RQ
theorem noL9 (b:Bool) (A:Option Addr) (n c:Nat) (D:Option Addr) (m d:Nat) (b':Bool) (A':Option Addr) (n' c':Nat) (D':Option Addr) (m' d':Nat) (b'':Bool) (A'':Option Addr) (n'' c'':Nat) (D'':Option Addr) (m'' d'':Nat):NoL #[.bool b,.slice A n c,.slice D m d,.bool b',.slice A' n' c',.slice D' m' d',.bool b'',.slice A'' n'' c'',.slice D'' m'' d'']:=by
 intro i z
 rcases Nat.lt_or_ge i 9 with h | h
 ·match i,h with
  | 0,_ | 1,_ | 2,_ | 3,_ | 4,_ | 5,_ | 6,_ | 7,_ | 8,_=>simp
 ·rw[Array.getElem?_eq_none (by simpa using h)];simp
theorem noL12 (b:Bool) (A:Option Addr) (n c:Nat) (D:Option Addr) (m d:Nat) (b':Bool) (A':Option Addr) (n' c':Nat) (D':Option Addr) (m' d':Nat) (b'':Bool) (A'':Option Addr) (n'' c'':Nat) (D'':Option Addr) (m'' d'':Nat) (b3:Bool) (A3:Option Addr) (n3 c3:Nat) (D3:Option Addr) (m3 d3:Nat):NoL #[.bool b,.slice A n c,.slice D m d,.bool b',.slice A' n' c',.slice D' m' d',.bool b'',.slice A'' n'' c'',.slice D'' m'' d'',.bool b3,.slice A3 n3 c3,.slice D3 m3 d3]:=by
 intro i z
 rcases Nat.lt_or_ge i 12 with h | h
 ·match i,h with
  | 0,_ | 1,_ | 2,_ | 3,_ | 4,_ | 5,_ | 6,_ | 7,_ | 8,_ | 9,_ | 10,_ | 11,_=>simp
 ·rw[Array.getElem?_eq_none (by simpa using h)];simp
theorem k_rsp {lo hi:Rat} {p:Nat} (h1:Rs lo p) (h2:Rs hi p) (hp:1≤p):Rs (klo lo hi) p∧Rs (khi lo hi) p:=by
 have z:Rs (0:Rat) p:=(Rs.int (z:=0) (p:=1) (by decide) (by decide)).mono hp
 unfold klo khi
 split
 ·exact⟨z,z⟩
 ·exact⟨h1,h2⟩
theorem lt1 (b1:Bool) (A1:Option Addr) (n1 c1:Nat) (x1:List Nat) (D1:Option Addr) (m1 d1:Nat) (y1:List Nat) (q1:Rat) (W:World) (g t:Nat) (h:Cb W g #[.bool b1,.slice A1 n1 c1,.slice D1 m1 d1] t) (X1:Rw W b1 A1 n1 c1 x1 D1 m1 d1 y1 q1):Lt W g [⟨b1,A1,n1,c1,x1,D1,m1,d1,y1,q1⟩]:=by
 refine⟨h.lt,fun i r hi=>?_,fun r hr=>?_⟩
 ·match i,hi with
  | 0,hi=>simp at hi;subst hi;exact⟨h.cell rfl,h.cell rfl,h.cell rfl⟩
  | (j+1),hi=>simp at hi
 ·simp only[List.mem_singleton] at hr
  subst hr;exact X1
theorem lt2 (b1:Bool) (A1:Option Addr) (n1 c1:Nat) (x1:List Nat) (D1:Option Addr) (m1 d1:Nat) (y1:List Nat) (q1:Rat) (b2:Bool) (A2:Option Addr) (n2 c2:Nat) (x2:List Nat) (D2:Option Addr) (m2 d2:Nat) (y2:List Nat) (q2:Rat) (W:World) (g t:Nat) (h:Cb W g #[.bool b1,.slice A1 n1 c1,.slice D1 m1 d1,.bool b2,.slice A2 n2 c2,.slice D2 m2 d2] t) (X1:Rw W b1 A1 n1 c1 x1 D1 m1 d1 y1 q1) (X2:Rw W b2 A2 n2 c2 x2 D2 m2 d2 y2 q2):Lt W g [⟨b1,A1,n1,c1,x1,D1,m1,d1,y1,q1⟩,⟨b2,A2,n2,c2,x2,D2,m2,d2,y2,q2⟩]:=by
 refine⟨h.lt,fun i r hi=>?_,fun r hr=>?_⟩
 ·match i,hi with
  | 0,hi=>simp at hi;subst hi;exact⟨h.cell rfl,h.cell rfl,h.cell rfl⟩
  | 1,hi=>simp at hi;subst hi;exact⟨h.cell rfl,h.cell rfl,h.cell rfl⟩
  | (j+2),hi=>simp at hi
 ·simp only[List.mem_cons,List.not_mem_nil,or_false] at hr
  rcases hr with rfl | rfl
  ·exact X1
  ·exact X2
theorem lt3 (b1:Bool) (A1:Option Addr) (n1 c1:Nat) (x1:List Nat) (D1:Option Addr) (m1 d1:Nat) (y1:List Nat) (q1:Rat) (b2:Bool) (A2:Option Addr) (n2 c2:Nat) (x2:List Nat) (D2:Option Addr) (m2 d2:Nat) (y2:List Nat) (q2:Rat) (b3:Bool) (A3:Option Addr) (n3 c3:Nat) (x3:List Nat) (D3:Option Addr) (m3 d3:Nat) (y3:List Nat) (q3:Rat) (W:World) (g t:Nat) (h:Cb W g #[.bool b1,.slice A1 n1 c1,.slice D1 m1 d1,.bool b2,.slice A2 n2 c2,.slice D2 m2 d2,.bool b3,.slice A3 n3 c3,.slice D3 m3 d3] t) (X1:Rw W b1 A1 n1 c1 x1 D1 m1 d1 y1 q1) (X2:Rw W b2 A2 n2 c2 x2 D2 m2 d2 y2 q2) (X3:Rw W b3 A3 n3 c3 x3 D3 m3 d3 y3 q3):Lt W g [⟨b1,A1,n1,c1,x1,D1,m1,d1,y1,q1⟩,⟨b2,A2,n2,c2,x2,D2,m2,d2,y2,q2⟩,⟨b3,A3,n3,c3,x3,D3,m3,d3,y3,q3⟩]:=by
 refine⟨h.lt,fun i r hi=>?_,fun r hr=>?_⟩
 ·match i,hi with
  | 0,hi=>simp at hi;subst hi;exact⟨h.cell rfl,h.cell rfl,h.cell rfl⟩
  | 1,hi=>simp at hi;subst hi;exact⟨h.cell rfl,h.cell rfl,h.cell rfl⟩
  | 2,hi=>simp at hi;subst hi;exact⟨h.cell rfl,h.cell rfl,h.cell rfl⟩
  | (j+3),hi=>simp at hi
 ·simp only[List.mem_cons,List.not_mem_nil,or_false] at hr
  rcases hr with rfl | rfl | rfl
  ·exact X1
  ·exact X2
  ·exact X3
theorem lt4 (b1:Bool) (A1:Option Addr) (n1 c1:Nat) (x1:List Nat) (D1:Option Addr) (m1 d1:Nat) (y1:List Nat) (q1:Rat) (b2:Bool) (A2:Option Addr) (n2 c2:Nat) (x2:List Nat) (D2:Option Addr) (m2 d2:Nat) (y2:List Nat) (q2:Rat) (b3:Bool) (A3:Option Addr) (n3 c3:Nat) (x3:List Nat) (D3:Option Addr) (m3 d3:Nat) (y3:List Nat) (q3:Rat) (b4:Bool) (A4:Option Addr) (n4 c4:Nat) (x4:List Nat) (D4:Option Addr) (m4 d4:Nat) (y4:List Nat) (q4:Rat) (W:World) (g t:Nat) (h:Cb W g #[.bool b1,.slice A1 n1 c1,.slice D1 m1 d1,.bool b2,.slice A2 n2 c2,.slice D2 m2 d2,.bool b3,.slice A3 n3 c3,.slice D3 m3 d3,.bool b4,.slice A4 n4 c4,.slice D4 m4 d4] t) (X1:Rw W b1 A1 n1 c1 x1 D1 m1 d1 y1 q1) (X2:Rw W b2 A2 n2 c2 x2 D2 m2 d2 y2 q2) (X3:Rw W b3 A3 n3 c3 x3 D3 m3 d3 y3 q3) (X4:Rw W b4 A4 n4 c4 x4 D4 m4 d4 y4 q4):Lt W g [⟨b1,A1,n1,c1,x1,D1,m1,d1,y1,q1⟩,⟨b2,A2,n2,c2,x2,D2,m2,d2,y2,q2⟩,⟨b3,A3,n3,c3,x3,D3,m3,d3,y3,q3⟩,⟨b4,A4,n4,c4,x4,D4,m4,d4,y4,q4⟩]:=by
 refine⟨h.lt,fun i r hi=>?_,fun r hr=>?_⟩
 ·match i,hi with
  | 0,hi=>simp at hi;subst hi;exact⟨h.cell rfl,h.cell rfl,h.cell rfl⟩
  | 1,hi=>simp at hi;subst hi;exact⟨h.cell rfl,h.cell rfl,h.cell rfl⟩
  | 2,hi=>simp at hi;subst hi;exact⟨h.cell rfl,h.cell rfl,h.cell rfl⟩
  | 3,hi=>simp at hi;subst hi;exact⟨h.cell rfl,h.cell rfl,h.cell rfl⟩
  | (j+4),hi=>simp at hi
 ·simp only[List.mem_cons,List.not_mem_nil,or_false] at hr
  rcases hr with rfl | rfl | rfl | rfl
  ·exact X1
  ·exact X2
  ·exact X3
  ·exact X4
theorem res_copy (W:World) (tmps:Array Value) (g t:Nat) {v0 v1 v2:Value} (ht:tmps.getD 2 undef=.pointer (some ⟨g,0,none⟩)) (h:Cb W g #[v0,v1,v2] t) :
  (results Tryz.f149 tmps).run Tryz.prog W=.ok (.agg #[v0,v1,v2]) W:=by
 have c0:W.cell? ⟨g,0,none⟩=some v0:=h.cell rfl
 have c1:W.cell? ⟨g,1,none⟩=some v1:=h.cell rfl
 have c2:W.cell? ⟨g,2,none⟩=some v2:=h.cell rfl
 have ht':tmps[2]?.getD undef=.pointer (some ⟨g,0,none⟩):=by rw[←ht];simp[Array.getD_eq_getD_getElem?]
 simp[results,Tryz.results149,go_sem,ht',c0,c1,c2]
set_option maxRecDepth 100000 in
set_option maxHeartbeats 4000000 in
theorem copyOf_any (b1:Bool) (A1:Option Addr) (n1 c1:Nat) (x1:List Nat) (D1:Option Addr) (m1 d1:Nat) (y1:List Nat) (q1:Rat) (w:World) (X1:Rw w b1 A1 n1 c1 x1 D1 m1 d1 y1 q1):Calls Tryz.prog 149 #[.agg #[.bool b1,.slice A1 n1 c1,.slice D1 m1 d1]] w (RetR q1 w):=by
 have hA:Hid (∀ W,Rw W b1 A1 n1 c1 x1 D1 m1 d1 y1 q1→Calls Tryz.prog 86 #[.agg #[.bool b1,.slice A1 n1 c1,.slice D1 m1 d1],.agg #[.bool false,.slice none 0 0,.slice none 0 0]] W (RetR q1 W)):=Lib.hid fun W h=>by
  have:=addW b1 A1 n1 c1 x1 D1 m1 d1 y1 q1 false none 0 0 [] none 0 0 [] 0 W h (Rw.zero W)
  rwa [Rat.add_zero] at this
 have k1:=Lib.hid X1.k
 have S:=(((((St.new w).read X1.rn).read X1.rd).allocAt (w.heap.size) #[.bool b1,.slice A1 n1 c1,.slice D1 m1 d1] 26 (noL3 _ _ _ _ _ _ _) (by simp)).allocAt (w.heap.size+1) #[.bool false,.slice none 0 0,.slice none 0 0] 26 (noL3 _ _ _ _ _ _ _) (by simp))
 replace S:=Lib.hid S
 clear X1
 go_enter Tryz.func149,Tryz.ntmps149
 go_wp2_with fail
 refine (hA.out _ (Rw.of (S.out.r 1 rfl) (S.out.r 0 rfl) k1.out)).mono ?_
 rintro e w1 ⟨A9,n9,c9,D9,m9,d9,rfl,Q9,bb⟩
 have T:=(((S.out.call bb).read Q9.n).read Q9.d)
 clear bb S
 have S:=T
 clear T
 obtain⟨c_r0,c_r1,c_r2,f_r0,f_r1,f_r2⟩:=S.cf3 0 rfl
 obtain⟨c_x0,c_x1,c_x2,f_x0,f_x1,f_x2⟩:=S.cf3 1 rfl
 have hz:w.heap.size+1<w1.heap.size:=S.lt 0 rfl
 replace S:=Lib.hid S
 clear Q9 hA
 have S:St w _ [(w.heap.size+1,#[.bool (ng q1.num),.slice A9 n9 c9,.slice D9 m9 d9],26),(w.heap.size,#[.bool b1,.slice A1 n1 c1,.slice D1 m1 d1],26)] [(D9,m9,d9,dn q1),(A9,n9,c9,limbs q1.num.natAbs),(D1,m1,d1,y1),(A1,n1,c1,x1)]:=(((S.out.set 0 0 (.bool (ng q1.num)) rfl (by nofun)).set 0 1 (.slice A9 n9 c9) rfl (by nofun)).set 0 2 (.slice D9 m9 d9) rfl (by nofun))
 replace S:=Lib.hid S
 go_wp2
 refine bodyPost_ret (res_copy _ _ (w.heap.size+1) 26 rfl (S.out.bk _ (List.mem_of_getElem? (i:=0) rfl)).1) rfl ?_
 exact⟨_,_,_,_,_,_,rfl,⟨S.out.r 1 rfl,S.out.r 0 rfl⟩,S.out.bel⟩
theorem res_least (W:World) (tmps:Array Value) (g t:Nat) {v0 v1 v2:Value} (ht:tmps.getD 2 undef=.pointer (some ⟨g,0,none⟩)) (h:Cb W g #[v0,v1,v2] t) :
  (results Tryz.f93 tmps).run Tryz.prog W=.ok (.agg #[v0,v1,v2]) W:=by
 have c0:W.cell? ⟨g,0,none⟩=some v0:=h.cell rfl
 have c1:W.cell? ⟨g,1,none⟩=some v1:=h.cell rfl
 have c2:W.cell? ⟨g,2,none⟩=some v2:=h.cell rfl
 have ht':tmps[2]?.getD undef=.pointer (some ⟨g,0,none⟩):=by rw[←ht];simp[Array.getD_eq_getD_getElem?]
 simp[results,Tryz.results93,go_sem,ht',c0,c1,c2]
set_option maxRecDepth 100000 in
set_option maxHeartbeats 4000000 in
theorem least_any (L:List Rt) (g:Nat) (w:World) (h:Lt w g L) (hL:0<L.length) (hl:L.length≤1000):Calls Tryz.prog 93 #[.slice (some ⟨g,0,none⟩) L.length L.length] w (RetR (minL (L.map (·.q))) w):=by
 have hC:Hid (Hid (∀ (W:World) (r s:Rt),r.at W→s.at W→Calls Tryz.prog 102 #[.agg #[.bool r.b,.slice r.A r.n r.c,.slice r.D r.m r.d],.agg #[.bool s.b,.slice s.A s.n s.c,.slice s.D s.m s.d]] W fun e w'=>e=.returned (.int .i64 (cmpq r.q s.q))∧Below W.heap.size W w')):=Lib.hid (Lib.hid fun W r s h1 h2=>compareW _ _ _ _ _ _ _ _ _ _ _ _ _ _ _ _ _ _ _ _ W h1 h2)
 have hM:=Lib.hid (fun W h'=>minFunc_any L g W h' hL hl hC.out)
 generalize minL (L.map (·.q))=mm at *
 replace h:=Lib.hid h
 generalize L.length=kk at *
 clear hL hl hC
 have S:=((St.new w).allocAt (w.heap.size) #[.bool false,.slice none 0 0,.slice none 0 0] 26 (noL3 _ _ _ _ _ _ _) (by simp))
 replace S:=Lib.hid S
 go_enter Tryz.func93,Tryz.ntmps93
 go_wp2_with fail
 refine (hM.out _ (h.out.bel S.out.bel)).mono ?_
 rintro e w1 ⟨x,hx,hq,rfl,bb⟩
 have T:=(S.out.call bb)
 clear bb S
 have S:=T
 clear T
 obtain⟨c_r0,c_r1,c_r2,f_r0,f_r1,f_r2⟩:=S.cf3 0 rfl
 have hz:w.heap.size<w1.heap.size:=S.lt 0 rfl
 replace S:=Lib.hid S
 replace hx:=Lib.hid hx
 clear hM
 have hCp:Hid (∀ W,x.at W→Calls Tryz.prog 149 #[.agg #[.bool x.b,.slice x.A x.n x.c,.slice x.D x.m x.d]] W (RetR mm W)):=Lib.hid fun W h'=>by have:=copyOf_any x.b x.A x.n x.c x.x x.D x.m x.d x.y x.q W h';rwa [hq] at this
 clear hq
 go_wp2_with fail
 refine (hCp.out _ ((h.out.bel S.out.bel).at_ x hx.out)).mono ?_
 rintro e w2 ⟨A9,n9,c9,D9,m9,d9,rfl,Q9,bb⟩
 have T:=(((S.out.call bb).read Q9.n).read Q9.d)
 clear bb S c_r0 f_r0 c_r1 f_r1 c_r2 f_r2 hz
 have S:=T
 clear T
 obtain⟨c_r0,c_r1,c_r2,f_r0,f_r1,f_r2⟩:=S.cf3 0 rfl
 have hz:w.heap.size<w2.heap.size:=S.lt 0 rfl
 replace S:=Lib.hid S
 clear Q9 hCp
 have S:St w _ [(w.heap.size,#[.bool (ng mm.num),.slice A9 n9 c9,.slice D9 m9 d9],26)] [(D9,m9,d9,dn mm),(A9,n9,c9,limbs mm.num.natAbs)]:=(((S.out.set 0 0 (.bool (ng mm.num)) rfl (by nofun)).set 0 1 (.slice A9 n9 c9) rfl (by nofun)).set 0 2 (.slice D9 m9 d9) rfl (by nofun))
 replace S:=Lib.hid S
 go_wp2
 refine bodyPost_ret (res_least _ _ (w.heap.size) 26 rfl (S.out.bk _ (List.mem_of_getElem? (i:=0) rfl)).1) rfl ?_
 exact⟨_,_,_,_,_,_,rfl,⟨S.out.r 1 rfl,S.out.r 0 rfl⟩,S.out.bel⟩
theorem res_greatest (W:World) (tmps:Array Value) (g t:Nat) {v0 v1 v2:Value} (ht:tmps.getD 2 undef=.pointer (some ⟨g,0,none⟩)) (h:Cb W g #[v0,v1,v2] t) :
  (results Tryz.f92 tmps).run Tryz.prog W=.ok (.agg #[v0,v1,v2]) W:=by
 have c0:W.cell? ⟨g,0,none⟩=some v0:=h.cell rfl
 have c1:W.cell? ⟨g,1,none⟩=some v1:=h.cell rfl
 have c2:W.cell? ⟨g,2,none⟩=some v2:=h.cell rfl
 have ht':tmps[2]?.getD undef=.pointer (some ⟨g,0,none⟩):=by rw[←ht];simp[Array.getD_eq_getD_getElem?]
 simp[results,Tryz.results92,go_sem,ht',c0,c1,c2]
set_option maxRecDepth 100000 in
set_option maxHeartbeats 4000000 in
theorem greatest_any (L:List Rt) (g:Nat) (w:World) (h:Lt w g L) (hL:0<L.length) (hl:L.length≤1000):Calls Tryz.prog 92 #[.slice (some ⟨g,0,none⟩) L.length L.length] w (RetR (maxL (L.map (·.q))) w):=by
 have hC:Hid (Hid (∀ (W:World) (r s:Rt),r.at W→s.at W→Calls Tryz.prog 102 #[.agg #[.bool r.b,.slice r.A r.n r.c,.slice r.D r.m r.d],.agg #[.bool s.b,.slice s.A s.n s.c,.slice s.D s.m s.d]] W fun e w'=>e=.returned (.int .i64 (cmpq r.q s.q))∧Below W.heap.size W w')):=Lib.hid (Lib.hid fun W r s h1 h2=>compareW _ _ _ _ _ _ _ _ _ _ _ _ _ _ _ _ _ _ _ _ W h1 h2)
 have hM:=Lib.hid (fun W h'=>maxFunc_any L g W h' hL hl hC.out)
 generalize maxL (L.map (·.q))=mm at *
 replace h:=Lib.hid h
 generalize L.length=kk at *
 clear hL hl hC
 have S:=((St.new w).allocAt (w.heap.size) #[.bool false,.slice none 0 0,.slice none 0 0] 26 (noL3 _ _ _ _ _ _ _) (by simp))
 replace S:=Lib.hid S
 go_enter Tryz.func92,Tryz.ntmps92
 go_wp2_with fail
 refine (hM.out _ (h.out.bel S.out.bel)).mono ?_
 rintro e w1 ⟨x,hx,hq,rfl,bb⟩
 have T:=(S.out.call bb)
 clear bb S
 have S:=T
 clear T
 obtain⟨c_r0,c_r1,c_r2,f_r0,f_r1,f_r2⟩:=S.cf3 0 rfl
 have hz:w.heap.size<w1.heap.size:=S.lt 0 rfl
 replace S:=Lib.hid S
 replace hx:=Lib.hid hx
 clear hM
 have hCp:Hid (∀ W,x.at W→Calls Tryz.prog 149 #[.agg #[.bool x.b,.slice x.A x.n x.c,.slice x.D x.m x.d]] W (RetR mm W)):=Lib.hid fun W h'=>by have:=copyOf_any x.b x.A x.n x.c x.x x.D x.m x.d x.y x.q W h';rwa [hq] at this
 clear hq
 go_wp2_with fail
 refine (hCp.out _ ((h.out.bel S.out.bel).at_ x hx.out)).mono ?_
 rintro e w2 ⟨A9,n9,c9,D9,m9,d9,rfl,Q9,bb⟩
 have T:=(((S.out.call bb).read Q9.n).read Q9.d)
 clear bb S c_r0 f_r0 c_r1 f_r1 c_r2 f_r2 hz
 have S:=T
 clear T
 obtain⟨c_r0,c_r1,c_r2,f_r0,f_r1,f_r2⟩:=S.cf3 0 rfl
 have hz:w.heap.size<w2.heap.size:=S.lt 0 rfl
 replace S:=Lib.hid S
 clear Q9 hCp
 have S:St w _ [(w.heap.size,#[.bool (ng mm.num),.slice A9 n9 c9,.slice D9 m9 d9],26)] [(D9,m9,d9,dn mm),(A9,n9,c9,limbs mm.num.natAbs)]:=(((S.out.set 0 0 (.bool (ng mm.num)) rfl (by nofun)).set 0 1 (.slice A9 n9 c9) rfl (by nofun)).set 0 2 (.slice D9 m9 d9) rfl (by nofun))
 replace S:=Lib.hid S
 go_wp2
 refine bodyPost_ret (res_greatest _ _ (w.heap.size) 26 rfl (S.out.bk _ (List.mem_of_getElem? (i:=0) rfl)).1) rfl ?_
 exact⟨_,_,_,_,_,_,rfl,⟨S.out.r 1 rfl,S.out.r 0 rfl⟩,S.out.bel⟩
theorem res_around (W:World) (tmps:Array Value) (g t:Nat) {v0 v1 v2 v3 v4 v5:Value} (ht:tmps.getD 2 undef=.pointer (some ⟨g,0,none⟩)) (h:Cb W g #[v0,v1,v2,v3,v4,v5] t) :
  (results Tryz.f90 tmps).run Tryz.prog W=.ok (.agg #[v0,v1,v2,v3,v4,v5]) W:=by
 have c0:W.cell? ⟨g,0,none⟩=some v0:=h.cell rfl
 have c1:W.cell? ⟨g,1,none⟩=some v1:=h.cell rfl
 have c2:W.cell? ⟨g,2,none⟩=some v2:=h.cell rfl
 have c3:W.cell? ⟨g,3,none⟩=some v3:=h.cell rfl
 have c4:W.cell? ⟨g,4,none⟩=some v4:=h.cell rfl
 have c5:W.cell? ⟨g,5,none⟩=some v5:=h.cell rfl
 have ht':tmps[2]?.getD undef=.pointer (some ⟨g,0,none⟩):=by rw[←ht];simp[Array.getD_eq_getD_getElem?]
 simp[results,Tryz.results90,go_sem,ht',c0,c1,c2,c3,c4,c5]
set_option maxRecDepth 100000 in
set_option maxHeartbeats 4000000 in
theorem around_any (L:List Rt) (g:Nat) (w:World) (h:Lt w g L) (hL:0<L.length) (hl:L.length≤1000):Calls Tryz.prog 90 #[.slice (some ⟨g,0,none⟩) L.length L.length] w (RetV (minL (L.map (·.q))) (maxL (L.map (·.q))) w):=by
 have hA:=Lib.hid (fun W h'=>least_any L g W h' hL hl)
 have hB:=Lib.hid (fun W h'=>greatest_any L g W h' hL hl)
 generalize minL (L.map (·.q))=lo at *
 generalize maxL (L.map (·.q))=hi at *
 replace h:=Lib.hid h
 generalize L.length=kk at *
 clear hL hl
 have S:=((St.new w).allocAt (w.heap.size) #[.bool false,.slice none 0 0,.slice none 0 0,.bool false,.slice none 0 0,.slice none 0 0] 28 (noL6 _ _ _ _ _ _ _ _ _ _ _ _ _ _) (by simp))
 replace S:=Lib.hid S
 go_enter Tryz.func90,Tryz.ntmps90
 go_wp2_with fail
 refine (hA.out _ (h.out.bel S.out.bel)).mono ?_
 rintro e w1 ⟨A11,n11,c11,D11,m11,d11,rfl,Q11,bb⟩
 have T:=(((S.out.call bb).read Q11.n).read Q11.d)
 clear bb S
 have S:=T
 clear T
 obtain⟨c_r0,c_r1,c_r2,c_r3,c_r4,c_r5,f_r0,f_r1,f_r2,f_r3,f_r4,f_r5⟩:=S.cf6 0 rfl
 have hz:w.heap.size<w1.heap.size:=S.lt 0 rfl
 replace S:=Lib.hid S
 clear Q11 hA
 go_wp2_with fail
 refine (hB.out _ (h.out.bel S.out.bel)).mono ?_
 rintro e w2 ⟨A12,n12,c12,D12,m12,d12,rfl,Q12,bb⟩
 have T:=(((S.out.call bb).read Q12.n).read Q12.d)
 clear bb S c_r0 f_r0 c_r1 f_r1 c_r2 f_r2 c_r3 f_r3 c_r4 f_r4 c_r5 f_r5 hz
 have S:=T
 clear T
 obtain⟨c_r0,c_r1,c_r2,c_r3,c_r4,c_r5,f_r0,f_r1,f_r2,f_r3,f_r4,f_r5⟩:=S.cf6 0 rfl
 have hz:w.heap.size<w2.heap.size:=S.lt 0 rfl
 replace S:=Lib.hid S
 clear Q12 hB
 have S:St w _ [(w.heap.size,#[.bool (ng lo.num),.slice A11 n11 c11,.slice D11 m11 d11,.bool (ng hi.num),.slice A12 n12 c12,.slice D12 m12 d12],28)] [(D12,m12,d12,dn hi),(A12,n12,c12,limbs hi.num.natAbs),(D11,m11,d11,dn lo),(A11,n11,c11,limbs lo.num.natAbs)]:=((((((S.out.set 0 0 (.bool (ng lo.num)) rfl (by nofun)).set 0 1 (.slice A11 n11 c11) rfl (by nofun)).set 0 2 (.slice D11 m11 d11) rfl (by nofun)).set 0 3 (.bool (ng hi.num)) rfl (by nofun)).set 0 4 (.slice A12 n12 c12) rfl (by nofun)).set 0 5 (.slice D12 m12 d12) rfl (by nofun))
 replace S:=Lib.hid S
 go_wp2
 refine bodyPost_ret (res_around _ _ (w.heap.size) 28 rfl (S.out.bk _ (List.mem_of_getElem? (i:=0) rfl)).1) rfl ?_
 exact⟨_,_,_,_,_,_,_,_,_,_,_,_,rfl,⟨S.out.r 3 rfl,S.out.r 2 rfl⟩,⟨S.out.r 1 rfl,S.out.r 0 rfl⟩,S.out.bel⟩
theorem around2 (b1:Bool) (A1:Option Addr) (n1 c1:Nat) (x1:List Nat) (D1:Option Addr) (m1 d1:Nat) (y1:List Nat) (q1:Rat) (b2:Bool) (A2:Option Addr) (n2 c2:Nat) (x2:List Nat) (D2:Option Addr) (m2 d2:Nat) (y2:List Nat) (q2:Rat) (W:World) (g t:Nat) (h:Cb W g #[.bool b1,.slice A1 n1 c1,.slice D1 m1 d1,.bool b2,.slice A2 n2 c2,.slice D2 m2 d2] t) (X1:Rw W b1 A1 n1 c1 x1 D1 m1 d1 y1 q1) (X2:Rw W b2 A2 n2 c2 x2 D2 m2 d2 y2 q2):Calls Tryz.prog 90 #[.slice (some ⟨g,0,none⟩) 2 2] W (RetV (minL [q1,q2]) (maxL [q1,q2]) W):=
 around_any [⟨b1,A1,n1,c1,x1,D1,m1,d1,y1,q1⟩,⟨b2,A2,n2,c2,x2,D2,m2,d2,y2,q2⟩] g W (lt2 b1 A1 n1 c1 x1 D1 m1 d1 y1 q1 b2 A2 n2 c2 x2 D2 m2 d2 y2 q2 W g t h X1 X2) (by simp) (by simp)
theorem around3 (b1:Bool) (A1:Option Addr) (n1 c1:Nat) (x1:List Nat) (D1:Option Addr) (m1 d1:Nat) (y1:List Nat) (q1:Rat) (b2:Bool) (A2:Option Addr) (n2 c2:Nat) (x2:List Nat) (D2:Option Addr) (m2 d2:Nat) (y2:List Nat) (q2:Rat) (b3:Bool) (A3:Option Addr) (n3 c3:Nat) (x3:List Nat) (D3:Option Addr) (m3 d3:Nat) (y3:List Nat) (q3:Rat) (W:World) (g t:Nat) (h:Cb W g #[.bool b1,.slice A1 n1 c1,.slice D1 m1 d1,.bool b2,.slice A2 n2 c2,.slice D2 m2 d2,.bool b3,.slice A3 n3 c3,.slice D3 m3 d3] t) (X1:Rw W b1 A1 n1 c1 x1 D1 m1 d1 y1 q1) (X2:Rw W b2 A2 n2 c2 x2 D2 m2 d2 y2 q2) (X3:Rw W b3 A3 n3 c3 x3 D3 m3 d3 y3 q3):Calls Tryz.prog 90 #[.slice (some ⟨g,0,none⟩) 3 3] W (RetV (minL [q1,q2,q3]) (maxL [q1,q2,q3]) W):=
 around_any [⟨b1,A1,n1,c1,x1,D1,m1,d1,y1,q1⟩,⟨b2,A2,n2,c2,x2,D2,m2,d2,y2,q2⟩,⟨b3,A3,n3,c3,x3,D3,m3,d3,y3,q3⟩] g W (lt3 b1 A1 n1 c1 x1 D1 m1 d1 y1 q1 b2 A2 n2 c2 x2 D2 m2 d2 y2 q2 b3 A3 n3 c3 x3 D3 m3 d3 y3 q3 W g t h X1 X2 X3) (by simp) (by simp)
theorem around4 (b1:Bool) (A1:Option Addr) (n1 c1:Nat) (x1:List Nat) (D1:Option Addr) (m1 d1:Nat) (y1:List Nat) (q1:Rat) (b2:Bool) (A2:Option Addr) (n2 c2:Nat) (x2:List Nat) (D2:Option Addr) (m2 d2:Nat) (y2:List Nat) (q2:Rat) (b3:Bool) (A3:Option Addr) (n3 c3:Nat) (x3:List Nat) (D3:Option Addr) (m3 d3:Nat) (y3:List Nat) (q3:Rat) (b4:Bool) (A4:Option Addr) (n4 c4:Nat) (x4:List Nat) (D4:Option Addr) (m4 d4:Nat) (y4:List Nat) (q4:Rat) (W:World) (g t:Nat) (h:Cb W g #[.bool b1,.slice A1 n1 c1,.slice D1 m1 d1,.bool b2,.slice A2 n2 c2,.slice D2 m2 d2,.bool b3,.slice A3 n3 c3,.slice D3 m3 d3,.bool b4,.slice A4 n4 c4,.slice D4 m4 d4] t) (X1:Rw W b1 A1 n1 c1 x1 D1 m1 d1 y1 q1) (X2:Rw W b2 A2 n2 c2 x2 D2 m2 d2 y2 q2) (X3:Rw W b3 A3 n3 c3 x3 D3 m3 d3 y3 q3) (X4:Rw W b4 A4 n4 c4 x4 D4 m4 d4 y4 q4):Calls Tryz.prog 90 #[.slice (some ⟨g,0,none⟩) 4 4] W (RetV (minL [q1,q2,q3,q4]) (maxL [q1,q2,q3,q4]) W):=
 around_any [⟨b1,A1,n1,c1,x1,D1,m1,d1,y1,q1⟩,⟨b2,A2,n2,c2,x2,D2,m2,d2,y2,q2⟩,⟨b3,A3,n3,c3,x3,D3,m3,d3,y3,q3⟩,⟨b4,A4,n4,c4,x4,D4,m4,d4,y4,q4⟩] g W (lt4 b1 A1 n1 c1 x1 D1 m1 d1 y1 q1 b2 A2 n2 c2 x2 D2 m2 d2 y2 q2 b3 A3 n3 c3 x3 D3 m3 d3 y3 q3 b4 A4 n4 c4 x4 D4 m4 d4 y4 q4 W g t h X1 X2 X3 X4) (by simp) (by simp)
end Go.Proofs.YtphckmdnflbloaaGreat
