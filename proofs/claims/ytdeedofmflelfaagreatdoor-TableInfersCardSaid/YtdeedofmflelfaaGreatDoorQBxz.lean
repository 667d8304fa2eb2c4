/- Build. Fractions; the law's awake. -/
import Derived.Test.YtdeedofmflelfaaGreatDoorQBtz
import Derived.Test.YtdeedofmflelfaaGreatDoorQTmz
import Derived.Test.YtdeedofmflelfaaGreatDoorQTkz
import Derived.Test.YtdeedofmflelfaaGreatDoorRf
import Derived.Test.YtdeedofmflelfaaGreatDoorQIlz
namespace Go.Proofs.YtdeedofmflelfaaGreatDoor
open Go.RowKit RQ
set_option linter.unusedVariables false
theorem res_build (W:World) (tmps:Array Value) (g t:Nat) {v0 v1 e0 e1:Value} (ht:tmps.getD 4 undef=.pointer (some ⟨g,0,none⟩)) (h0:tmps.getD 5 undef=e0) (h1:tmps.getD 6 undef=e1) (h:Cb W g #[v0,v1] t) :
  (results Tryz.f19 tmps).run Tryz.prog W=.ok (.tuple #[.agg #[v0,v1],e0,e1]) W:=by
 have c0:W.cell? ⟨g,0,none⟩=some v0:=h.cell rfl
 have c1:W.cell? ⟨g,1,none⟩=some v1:=h.cell rfl
 have ht':tmps[4]?.getD undef=.pointer (some ⟨g,0,none⟩):=by rw[←ht];simp[Array.getD_eq_getD_getElem?]
 have k0:tmps[5]?.getD undef=e0:=by rw[←h0];simp[Array.getD_eq_getD_getElem?]
 have k1:tmps[6]?.getD undef=e1:=by rw[←h1];simp[Array.getD_eq_getD_getElem?]
 simp[results,Tryz.results19,go_sem,ht',k0,k1,c0,c1]
theorem fun_set (vl:List (Option (Nat×Array Value))) (i:Nat) (y:Option (Nat×Array Value)):(funC.all vl).toArray.setIfInBounds i (Fv y)=(funC.all (vl.set i y)).toArray:=by
 rw[fun_all,fun_all,List.map_set];simp
def Fe.nk (x:Fe):ByteArray×Int:=(x.n,x.k)
def AdA (L:List Fe) (vl:List (Option (Nat×Array Value))) (W:World) (F:List GBk) (cb:Nat):Prop:=∀ q x,L[q]?=some x→∃ y,vl[q]?=some y∧AdIn W F (Fv y) x cb (q*4)
theorem lx_zip (L:List Fe):∀ (K:List Kc),K.map Kc.nk=L.map Fe.nk→(K.map Kc.c).map Cl.lx=(L.zip (K.map Kc.ct)).map (fun p=>⟨p.1.n,p.1.k,p.2.1,p.2.2⟩):=by
 induction L with
 | nil=>intro K h;cases K with
  | nil=>rfl
  | cons k K=>cases h
 | cons x L ih=>intro K h;cases K with
  | nil=>cases h
  | cons k K=>
   rw[List.map_cons,List.map_cons] at h
   injection h with h1 h2
   have e1:k.c.n=x.n:=congrArg Prod.fst h1
   have e2:k.c.k=x.k:=congrArg Prod.snd h1
   rw[List.map_cons,List.map_cons,List.map_cons,List.zip_cons_cons,List.map_cons,ih K h2,←e1,←e2]
   rfl
theorem ks_start {w W:World} (L:List Fe) (cb:Nat) (F:List GBk) (S:St w W ((cb,(clC.all (L.map Fe.c0)).toArray,56)::F) []):KS w W cb F (L.map fun x=>⟨x.c0,[],[]⟩) []:=by
 have h1:Kbk (L.map fun x=>(⟨x.c0,[],[]⟩:Kc))=[]:=by
  unfold Kbk
  rw[List.flatMap_eq_nil_iff]
  intro k hk
  obtain⟨x,_,rfl⟩:=List.mem_map.1 hk
  rfl
 have h2:(L.map fun x=>(⟨x.c0,[],[]⟩:Kc)).map Kc.c=L.map Fe.c0:=by rw[List.map_map];rfl
 refine⟨by rw[h1,h2,List.append_nil];exact S,fun k hk=>?_,fun k hk=>?_⟩
 ·obtain⟨x,_,rfl⟩:=List.mem_map.1 hk
  exact⟨rfl,fun v hv=>(by cases hv),.inl ⟨rfl,rfl,rfl⟩⟩
 ·obtain⟨x,_,rfl⟩:=List.mem_map.1 hk
  exact⟨⟨rfl,fun v hv=>(by cases hv),.inl ⟨rfl,rfl,rfl⟩⟩,fun y hy=>by cases hy⟩
set_option maxRecDepth 100000 in
set_option maxHeartbeats 4000000 in
/-- What Build comes to, for fields without errors of which none is skipped. -/
theorem build_yes (L:List Fe) (A:Option Addr) (n c:Nat) (R:List (Sl ByteArray)) (RA:Option Addr) (rn rc:Nat) (w:World) (h:LR feC w A n L) (hx:∀ x∈L,LtF x) (hR:LR (slC strC) w RA rn R) (hrs:∀ r∈R,∀ s∈r.L,s.size≤300) (hn:n≤32) (hrn:rn≤1024) (hc:cfE L rn=0) (hns:∀ x∈L,x.k≠3) (bx:Int×Int×List Ct) (hbx:bx=bldX L (R.map (·.L)) (L.map fun _=>([],[])) 0):Calls Tryz.prog 19 #[.slice A n c,.slice RA rn rc] w fun e w'=>(¬ bx.1=0∧e=.returned (.tuple #[.agg #[.int .i64 0,.slice none 0 0],.int .i64 bx.2.1,.int .i64 bx.1])∧Below w.heap.size w w')∨(bx.1=0∧∃ cb Cs,e=.returned (.tuple #[.agg #[.int .i64 rn,.slice (some ⟨cb,0,none⟩) n n],.int .i64 0,.int .i64 0])∧LR clC w' (some ⟨cb,0,none⟩) n Cs∧Cs.map Cl.lx=(L.zip bx.2.2).map (fun p=>⟨p.1.n,p.1.k,p.2.1,p.2.2⟩)∧Below w.heap.size w w'):=by
 have hC:Hid (∀ W,Below w.heap.size w W→Calls Tryz.prog 55 #[.slice A n c,.int .i64 rn] W fun e w'=>e=.returned (.int .i64 (cfE L rn))∧Below W.heap.size W w'):=Lib.hid fun W hb=>checkFields_any L A n c rn W (h.bel hb) hx (by omega)
 rw[hc] at hC
 have hmk1:=make_col n (by omega)
 have hmk2:=make_fun n (by omega)
 have hCl:Hid (∀ x∈L,∀ W,Calls Tryz.prog 45 #[.string x.n] W fun e w'=>e=.returned (.string x.n)∧Below W.heap.size W w'):=Lib.hid fun x hxm W=>cloneS_any x.n W (by have:=(hx x hxm).1;omega)
 have hAd:Hid (∀ x∈L,∀ cb o W bs rs,St w W bs rs→Calls Tryz.prog 56 #[.agg #[.string x.n,.int .i64 x.k,.slice x.mi.A x.mi.L.length x.mi.c,.bool x.u.b,.slice x.u.x.A x.u.x.n x.u.x.c,.slice x.u.y.A x.u.y.n x.u.y.c],.pointer (some ⟨cb,o,none⟩)] W fun e w'=>∃ v F,e=.returned v∧St w w' (F++bs) rs∧AdIn w' F v x cb o∧MK W w'):=Lib.hid fun x hxm cb o W bs rs S=>adder_any x cb o w W bs rs S (fe_at.1 (h.el x hxm)).1.1 (hx x hxm)
 have hlen:=Lib.hid h.len
 have hf:=Lib.hid (fun x (hxm:x∈L)=>And.intro (hx x hxm) (fe_at.1 (h.el x hxm)).2)
 replace h:=Lib.hid h
 replace hR:=Lib.hid hR
 replace hrs:=Lib.hid hrs
 replace hns:=Lib.hid hns
 replace hbx:=Lib.hid hbx
 have hnh:=Lib.hid hn
 have hrh:=Lib.hid hrn
 clear hx hn hrn hc
 go_enter Tryz.func19,Tryz.ntmps19
 go_wp2_with fail
 refine (hC.out _ (St.allocAt (St.new w) w.heap.size #[.int .i64 0,.slice none 0 0] 37 (noLof rfl) rfl).bel).mono ?_
 rintro e w1 ⟨rfl,bb⟩
 have S:=Lib.hid ((St.allocAt (St.new w) w.heap.size #[.int .i64 0,.slice none 0 0] 37 (noLof rfl) rfl).call bb)
 clear bb hC
 obtain⟨cb,hcb⟩:∃ g,g=w1.heap.size:=⟨_,rfl⟩
 obtain⟨ab,hab⟩:∃ g,g=w1.heap.size+1:=⟨_,rfl⟩
 have S1:=((S.out.allocC clC (List.replicate n Cl0) cb 56 hcb.symm).allocC funC (List.replicate n none) ab 87 (by rw[hab];simp))
 have S2:=Lib.hid (show St w _ ((cb,(clC.all (List.replicate n Cl0)).toArray,56)::(w.heap.size,#[.int .i64 0,.slice none 0 0],37)::(ab,(funC.all (List.replicate n none)).toArray,87)::[]) [] from S1.prm (by
  show List.Perm (_::_::_::[]) (_::_::_::[])
  exact (List.Perm.swap _ _ _).trans ((List.Perm.swap _ _ _).cons _)))
 clear S1 S
 go_wp2
 replace hmk1:=Lib.hid hmk1
 replace hmk2:=Lib.hid hmk2
 clear hmk1 hmk2
 generalize hW:World.alloc _ _=w4 at S2 ⊢
 clear hW
 rw[←hab,←hcb]
 clear hab hcb
 go_loopw [31] (fun iv wr=>∃ (i:Nat) (Cs:List Cl) (vl:List (Option (Nat×Array Value))) (F:List GBk),i≤n∧iv=.int .i64 i∧Cs.length=n∧vl.length=n∧St w wr ((cb,(clC.all Cs).toArray,56)::(w.heap.size,#[.int .i64 0,.slice none 0 0],37)::(ab,(funC.all vl).toArray,87)::F) []∧(∀ q x,q<i→L[q]?=some x→Cs[q]?=some x.c0∧∃ y,vl[q]?=some y∧AdIn wr F (Fv y) x cb (q*4))) (fun iv _=>n-(intOf iv).toNat)
 case atStart=>exact⟨0,List.replicate n Cl0,List.replicate n none,[],Nat.zero_le _,rfl,List.length_replicate,List.length_replicate,S2.out,fun q x h=>absurd h (Nat.not_lt_zero _)⟩
 case round=>
  clear S2
  obtain⟨i,Cs,vl,F,hin,rfl,hCl2,hvl,S,hq⟩:=hrel
  by_cases hlt:i<n
  ·obtain⟨b,o,x,rfl,hxe,hxm,hxa,e0,e1,e2,e3,e4,e5⟩:=fe_get (h.out.bel S.bel) hlt
   have g1:(i:Int)<(n:Int):=by omega
   have g2:(0:Int)≤(i:Int):=by omega
   obtain⟨cy,hci⟩:∃ y,Cs[i]?=some y:=⟨_,List.getElem?_eq_getElem (by omega)⟩
   have hih:=Lib.hid hlt
   have S1:=S.allocAt wr.heap.size #[.string x.n,.int .i64 x.k,.slice x.mi.A x.mi.L.length x.mi.c,.bool x.u.b,.slice x.u.x.A x.u.x.n x.u.x.c,.slice x.u.y.A x.u.y.n x.u.y.c] 48 (noLof rfl) rfl
   replace S1:=Lib.hid S1
   have hm:=Lib.hid ((MK.refl wr).alloc (.cells #[.string x.n,.int .i64 x.k,.slice x.mi.A x.mi.L.length x.mi.c,.bool x.u.b,.slice x.u.x.A x.u.x.n x.u.x.c,.slice x.u.y.A x.u.y.n x.u.y.c] 48))
   replace hci:=Lib.hid hci
   replace hCl2:=Lib.hid hCl2
   replace hvl:=Lib.hid hvl
   replace hq:=Lib.hid hq
   replace hxe:=Lib.hid hxe
   replace hxm:=Lib.hid hxm
   clear hlt hin hxa S
   go_upto_region 9 with fail
   clear e0 e1 e2 e3 e4 e5
   obtain⟨fv,hfv⟩:∃ g,g=wr.heap.size:=⟨_,rfl⟩
   rw[←hfv] at S1
   generalize hW:World.alloc _ _=w4 at S1 hm ⊢
   clear hW
   rw[←hfv]
   clear hfv
   have S:=S1
   clear S1
   have hbase:=Lib.hid (St.new w4)
   refine RW.begin (Z:=[]) (S:=(fun W=>Cb W fv #[.string x.n,.int .i64 x.k,.slice x.mi.A x.mi.L.length x.mi.c,.bool x.u.b,.slice x.u.x.A x.u.x.n x.u.x.c,.slice x.u.y.A x.u.y.n x.u.y.c] 48)) (by kernel_rfl) ?_ hbase.out ?_
   ·exact⟨by kernel_rfl,zis_nil,by decide,by decide,nol_nil,(fun _ _ h=>(S.out.cb 0 rfl).bel h.bel)⟩
   intro hzk
   refine RW.t (i:=0) (v:=.slice (some ⟨cb,0,none⟩) n n) (some 36) at0 (hy:=fun _ _=>by kernel_rfl) (h:=?_)
   refine RW.t (i:=1) (v:=.int .i64 i) (some 37) at1 (hy:=fun _ _=>by kernel_rfl) (h:=?_)
   refine RW.t (i:=2) (v:=.pointer (some ⟨fv,0,none⟩)) (some 38) at2 (hy:=fun _ _=>by kernel_rfl) (h:=?_)
   refine RW.t (i:=3) (v:=.string x.n) (some 39) at3 (hy:=fun W hS=>by (have k0:=Cb.cell (i:=0) hS rfl;clear hS;go_simp)) (h:=?_)
   refine RW.t (i:=5) (v:=.pointer (some ⟨fv,1,none⟩)) (some 41) at5 (hy:=fun _ _=>by kernel_rfl) (h:=?_)
   refine RW.t (i:=6) (v:=.int .i64 x.k) (some 42) at6 (hy:=fun W hS=>by (have k1:=Cb.cell (i:=1) hS rfl;clear hS;go_simp)) (h:=?_)
   refine RW.tail hzk.out (by kernel_rfl) ?_
   intro gs' w5 hgs' hS Sb
   obtain rfl:=len0 hgs'
   simp only[mark,fill,Act.put,List.setIfInBounds_toArray,List.set_cons_zero,List.set_cons_succ]
   have T:=Lib.hid (S.out.call Sb.bel)
   have hmT:=Lib.hid (hm.out.bel Sb.bel)
   clear S hm Sb hS hgs' hzk hbase
   have S:=T
   have hm:=hmT
   clear T hmT
   refine Wk.o (i:=4) at4 (by kernel_rfl) fun K' hK=>?_
   refine oper_call (f:=45) (args:=#[.string x.n]) rfl (by kernel_rfl) ((hCl.out x hxm.out _).mono ?_)
   rintro e w6 ⟨rfl,bb⟩
   have T:=Lib.hid (S.out.call bb)
   have hmT:=Lib.hid (hm.out.bel bb)
   clear S hm bb
   have S:=T
   have hm:=hmT
   clear T hmT
   refine⟨_,rfl,hK.out _ _ (S.out.cb 0 rfl) ?_⟩
   clear hK K'
   try simp only[Act.put,List.setIfInBounds_toArray,List.set_cons_zero,List.set_cons_succ]
   refine Wk.o (i:=7) at7 (by kernel_rfl) fun K' hK=>?_
   go_simp
   refine hK.out _ _ (S.out.cb 0 rfl) ?_
   clear hK K'
   try simp only[Act.put,List.setIfInBounds_toArray,List.set_cons_zero,List.set_cons_succ]
   refine Wk.o (i:=8) at8 (by kernel_rfl) fun K' hK=>?_
   go_simp
   refine hK.out _ _ (S.out.cb 0 rfl) ?_
   clear hK K'
   try simp only[Act.put,List.setIfInBounds_toArray,List.set_cons_zero,List.set_cons_succ]
   refine Wk.o (i:=9) at9 (by kernel_rfl) fun K' hK=>?_
   obtain⟨hcl,hfr⟩:=St_gcl (C:=clC) S.out.swap hci.out
   have q0:=hcl 0 _ rfl
   have q1:=hcl 1 _ rfl
   have q2:=hcl 2 _ rfl
   have q3:=hcl 3 _ rfl
   have f0:=hfr (i*4)
   have f1:=hfr (i*4+1)
   have f2:=hfr (i*4+2)
   have f3:=hfr (i*4+3)
   simp only[cl_sz,Nat.add_zero] at q0 q1 q2 q3
   go_simp
   have T:=Lib.hid (show St w (World.setCell (World.setCell (World.setCell (World.setCell w6 ⟨cb,i*4,none⟩ (.string x.n)) ⟨cb,i*4+1,none⟩ (.int .i64 x.k)) ⟨cb,i*4+2,none⟩ (.slice none 0 0)) ⟨cb,i*4+3,none⟩ (.slice none 0 0)) _ _ from (St_gset (C:=clC) S.out.swap x.c0 (by have:=hCl2.out;have:=hih.out;omega)).swap)
   have hmT:=Lib.hid ((((hm.out.set (S.out.cb 1 rfl) (i*4) (.string x.n)).set ((S.out.cb 1 rfl).set _ _) (i*4+1) (.int .i64 x.k)).set (((S.out.cb 1 rfl).set _ _).set _ _) (i*4+2) (.slice none 0 0)).set ((((S.out.cb 1 rfl).set _ _).set _ _).set _ _) (i*4+3) (.slice none 0 0))
   clear S hm hcl hfr q0 q1 q2 q3 f0 f1 f2 f3
   have S:=T
   have hm:=hmT
   clear T hmT
   refine hK.out _ _ (S.out.cb 0 rfl) ?_
   clear hK K'
   try simp only[Act.put,List.setIfInBounds_toArray,List.set_cons_zero,List.set_cons_succ]
   refine Wk.done (by kernel_rfl) ?_
   go_simp
   go_upto_region 10 with fail
   generalize hW:World.setCell _ _ _=w4 at S hm ⊢
   clear hW
   have hbase:=Lib.hid (St.new w4)
   refine RW.begin (Z:=[]) (S:=(fun W=>Cb W fv #[.string x.n,.int .i64 x.k,.slice x.mi.A x.mi.L.length x.mi.c,.bool x.u.b,.slice x.u.x.A x.u.x.n x.u.x.c,.slice x.u.y.A x.u.y.n x.u.y.c] 48)) (by kernel_rfl) ?_ hbase.out ?_
   ·exact⟨by kernel_rfl,zis_nil,by decide,by decide,nol_nil,(fun _ _ h=>(S.out.cb 0 rfl).bel h.bel)⟩
   intro hzk
   refine RW.t (i:=0) (v:=.slice (some ⟨ab,0,none⟩) n n) (some 45) at0 (hy:=fun _ _=>by kernel_rfl) (h:=?_)
   refine RW.t (i:=1) (v:=.int .i64 i) (some 46) at1 (hy:=fun _ _=>by kernel_rfl) (h:=?_)
   refine RW.t (i:=2) (v:=.agg #[.string x.n,.int .i64 x.k,.slice x.mi.A x.mi.L.length x.mi.c,.bool x.u.b,.slice x.u.x.A x.u.x.n x.u.x.c,.slice x.u.y.A x.u.y.n x.u.y.c]) (some 47) at2 (hy:=fun W hS=>by (obtain⟨k0,k1,k2,k3,k4,k5⟩:=Cb.c6 hS;clear hS;go_simp)) (h:=?_)
   refine RW.t (i:=3) (v:=.slice (some ⟨cb,0,none⟩) n n) (some 48) at3 (hy:=fun _ _=>by kernel_rfl) (h:=?_)
   refine RW.t (i:=4) (v:=.int .i64 i) (some 49) at4 (hy:=fun _ _=>by kernel_rfl) (h:=?_)
   refine RW.t (i:=5) (v:=.pointer (some ⟨cb,i*4,none⟩)) (some 50) at5 (hy:=fun _ _=>by go_simp) (h:=?_)
   refine RW.tail hzk.out (by kernel_rfl) ?_
   intro gs' w5 hgs' hS Sb
   obtain rfl:=len0 hgs'
   simp only[mark,fill,Act.put,List.setIfInBounds_toArray,List.set_cons_zero,List.set_cons_succ]
   have T:=Lib.hid (S.out.call Sb.bel)
   have hmT:=Lib.hid (hm.out.bel Sb.bel)
   clear S hm Sb hS hgs' hzk hbase
   have S:=T
   have hm:=hmT
   clear T hmT
   refine Wk.o (i:=6) at6 (by kernel_rfl) fun K' hK=>?_
   refine oper_call (f:=56) (args:=#[.agg #[.string x.n,.int .i64 x.k,.slice x.mi.A x.mi.L.length x.mi.c,.bool x.u.b,.slice x.u.x.A x.u.x.n x.u.x.c,.slice x.u.y.A x.u.y.n x.u.y.c],.pointer (some ⟨cb,i*4,none⟩)]) rfl (by kernel_rfl) ((hAd.out x hxm.out cb (i*4) _ _ _ S.out).mono ?_)
   rintro e w6 ⟨v,F1,rfl,T0,hA1,hm'⟩
   obtain⟨vf,vc,rfl⟩:=hA1.fv
   have T:=Lib.hid (T0.prm (perm3 F1 _ _ _ _ F))
   have hmT:=Lib.hid (hm.out.trans hm')
   replace hA1:=Lib.hid hA1
   clear S hm T0 hm'
   have S:=T
   have hm:=hmT
   clear T hmT
   refine⟨_,rfl,hK.out _ _ (S.out.cb 0 rfl) ?_⟩
   clear hK K'
   try simp only[Act.put,List.setIfInBounds_toArray,List.set_cons_zero,List.set_cons_succ]
   refine Wk.o (i:=7) at7 (by kernel_rfl) fun K' hK=>?_
   go_simp
   refine hK.out _ _ (S.out.cb 0 rfl) ?_
   clear hK K'
   try simp only[Act.put,List.setIfInBounds_toArray,List.set_cons_zero,List.set_cons_succ]
   refine Wk.o (i:=8) at8 (by kernel_rfl) fun K' hK=>?_
   have q0:World.cell? w6 ⟨ab,i,none⟩=some (Fv (vl[i]'(by have:=hvl.out;have:=hih.out;omega))):=(S.out.cb 3 rfl).cell (by rw[List.getElem?_toArray,fun_all,List.getElem?_map,List.getElem?_eq_getElem];rfl)
   have f0:=S.out.f 3 i rfl
   go_simp
   have S0c:=Lib.hid (S.out.cb 3 rfl)
   have T:=Lib.hid (S.out.set 3 i (.func (.func vf) #[] vc) rfl (by nofun))
   have hmT:=Lib.hid (hm.out.set (S.out.cb 3 rfl) i (.func (.func vf) #[] vc))
   clear S hm q0 f0
   have S:=T
   have hm:=hmT
   clear T hmT
   refine hK.out _ _ (S.out.cb 0 rfl) ?_
   clear hK K'
   try simp only[Act.put,List.setIfInBounds_toArray,List.set_cons_zero,List.set_cons_succ]
   refine Wk.done (by kernel_rfl) ?_
   go_simp
   have hlt:=hih.out
   have hnn:=hnh.out
   go_wp2
   go_roundw
   case rel=>
    refine⟨i+1,Cs.set i x.c0,vl.set i (some (vf,vc)),F1++F,by omega,by go_num,by rw[List.length_set];exact hCl2.out,by rw[List.length_set];exact hvl.out,(by rw[←fun_set];exact S.out.sub2),fun q x' hqi hx'=>?_⟩
    ·by_cases e:i=q
     ·subst e
      obtain rfl:x=x':=by have:=hxe.out;rw[hx'] at this;exact (Option.some.inj this).symm
      exact⟨List.getElem?_set_self (by have:=hCl2.out;omega),some (vf,vc),List.getElem?_set_self (by have:=hvl.out;omega),hA1.out.mk ((MK.refl _).set (S0c.out) i (.func (.func vf) #[] vc)) (fun p hp=>List.mem_append_left _ hp)⟩
     ·obtain⟨k1,y,k2,k3⟩:=hq.out q x' (by omega) hx'
      exact⟨by rw[List.getElem?_set_ne e];exact k1,y,by rw[List.getElem?_set_ne e];exact k2,k3.mk hm.out (fun p hp=>List.mem_append_right _ hp)⟩
   case measure=>simp[intOf];omega
  ·obtain rfl:n=i:=by omega
   have hCs:Cs=L.map Fe.c0:=by
    apply List.ext_getElem?
    intro q
    rcases Nat.lt_or_ge q n with h1 | h1
    ·obtain⟨x,hx⟩:∃ x,L[q]?=some x:=⟨_,List.getElem?_eq_getElem (by rw[hlen.out];exact h1)⟩
     rw[(hq q x h1 hx).1,List.getElem?_map,hx];rfl
    ·rw[List.getElem?_eq_none (by omega),List.getElem?_eq_none (by rw[List.length_map,hlen.out];exact h1)]
   subst hCs
   have hA:=Lib.hid (fun q x (hx:L[q]?=some x)=>(hq q x (by rw[←hlen.out];exact (List.getElem?_eq_some_iff.1 hx).1) hx).2)
   have KS0:=Lib.hid (show KS w wr cb ((w.heap.size,#[.int .i64 0,.slice none 0 0],37)::(ab,(funC.all vl).toArray,87)::F) (L.map fun x=>⟨x.c0,[],[]⟩) [] from ks_start L cb ((w.heap.size,#[.int .i64 0,.slice none 0 0],37)::(ab,(funC.all vl).toArray,87)::F) S)
   have hA:=Lib.hid (show AdA L vl wr ((w.heap.size,#[.int .i64 0,.slice none 0 0],37)::(ab,(funC.all vl).toArray,87)::F) cb from fun q x hx=>(by
    obtain⟨y,h1,h2⟩:=hA.out q x hx
    exact⟨y,h1,h2.mk (MK.refl _) (fun p hp=>List.mem_cons_of_mem _ (List.mem_cons_of_mem _ hp))⟩))
   replace hvl:=Lib.hid hvl
   clear hlt hin hq S hCl2
   go_wp2
   go_loopw [56] (fun iv wr=>∃ (i:Nat) (K:List Kc) (rs:List GRd),i≤rn∧iv=.int .i64 i∧KS w wr cb ((w.heap.size,#[.int .i64 0,.slice none 0 0],37)::(ab,(funC.all vl).toArray,87)::F) K rs∧K.length=n∧AdA L vl wr ((w.heap.size,#[.int .i64 0,.slice none 0 0],37)::(ab,(funC.all vl).toArray,87)::F) cb∧K.map Kc.nk=L.map Fe.nk∧bx=bldX L ((R.map (·.L)).drop i) (K.map Kc.ct) i∧BdK K i 0) (fun iv _=>rn-(intOf iv).toNat)
   case atStart=>
    refine⟨0,L.map fun x=>⟨x.c0,[],[]⟩,[],Nat.zero_le _,rfl,KS0.out,by rw[List.length_map];exact hlen.out,hA.out,by rw[List.map_map];rfl,?_,fun q k hk=>?_⟩
    ·rw[hbx.out,List.map_map];rfl
    ·obtain⟨x,_,rfl⟩:=List.mem_map.1 (List.mem_of_getElem? hk)
     exact⟨Nat.zero_le _,Nat.zero_le _⟩
   case round=>
    clear KS0 hA
    obtain⟨j,K,rs,hjn,rfl,S,hKl,hA,hnk,hbj,hbd⟩:=hrel
    by_cases hlt:j<rn
    ·obtain⟨b,o,r,rfl,hre,hrm,hra,e0⟩:=sl_get (hR.out.bel S.s.bel) hlt
     have hra:=(hR.out.el r hrm)
     have g1:(j:Int)<(rn:Int):=by omega
     have g2:(0:Int)≤(j:Int):=by omega
     have g4:(0:Int)≤(rn:Int):=by omega
     have hRe:(R.map (·.L))[j]?=some r.L:=by rw[List.getElem?_map,hre];rfl
     obtain⟨c_r0,c_r1,f_r0,f_r1⟩:=S.s.cf2 1 rfl
     have hz:w.heap.size<wr.heap.size:=S.s.lt 1 rfl
     by_cases hrl:r.L.length=n
     ·have hC:=addRecord_any L K (vl.map Fv) r.L ab cb n n j r.A r.L.length r.c w wr ((w.heap.size,#[.int .i64 0,.slice none 0 0],37)::(ab,(funC.all vl).toArray,87)::F) rs S hlen.out hKl (by rw[←fun_all];exact List.mem_cons_of_mem _ (List.mem_cons_self ..)) (by rw[List.length_map];exact hvl.out) (fun q x hx=>by
       obtain⟨y,h1,h2⟩:=hA q x hx
       exact⟨Fv y,by rw[List.getElem?_map,h1];rfl,h2⟩) (fun x hxm=>(hf.out x hxm)) hra.1 (fun s hs=>hrs.out r hrm s hs) (fun k hk=>by
       obtain⟨q,hq⟩:=List.getElem?_of_mem hk
       have:=hbd q k hq
       rwa [if_neg (by omega)] at this) (by have:=hrh.out;omega) (by have:=hnh.out;omega) hrl
      obtain⟨er,her⟩:∃ z,z=(rowX L r.L (K.map Kc.ct)).1:=⟨_,rfl⟩
      replace hC:=Lib.hid (hC er her)
      have hrL:=Lib.hid (show r.L.length=L.length by rw[hlen.out];exact hrl)
      have hjh:=Lib.hid hlt
      replace hRe:=Lib.hid hRe
      replace her:=Lib.hid her
      replace hA:=Lib.hid hA
      replace hnk:=Lib.hid hnk
      replace hbj:=Lib.hid hbj
      replace hKl:=Lib.hid hKl
      clear S hra hre hrm hbd hlt hrl hjn c_r0 c_r1 f_r0 f_r1 hz
      by_cases h0:er=0
      ·have g3:(er==0)=true:=by rw[h0];rfl
       replace h0:=Lib.hid h0
       go_wp2_with fail
       refine hC.out.mono ?_
       rintro e w1 ⟨rfl,hm,K',rs',S',hsub,hn',hrest⟩
       obtain⟨hrow,hbd'⟩:=hrest h0.out
       replace hm:=Lib.hid hm
       replace S':=Lib.hid S'
       replace hn':=Lib.hid hn'
       replace hrow:=Lib.hid hrow
       replace hbd':=Lib.hid hbd'
       clear hC hsub hrest e0
       have hlt:=hjh.out
       have hnn:=hnh.out
       have hrr:=hrh.out
       go_wp2
       go_roundw
       case rel=>
        refine⟨j+1,K',rs',by omega,by go_num,S'.out,?_,fun q x hx=>?_,hn'.out.trans hnk.out,?_,fun q k hk=>?_⟩
        ·have:=congrArg List.length hn'.out
         rw[List.length_map,List.length_map,hKl.out] at this
         exact this
        ·obtain⟨y,h1,h2⟩:=hA.out q x hx
         exact⟨y,h1,h2.mk hm.out (fun _ h=>h)⟩
        ·rw[hbj.out,bldX_ok hRe.out hrL.out (by rw[hrow.out]),hrow.out]
        ·have:=hbd'.out k (List.mem_of_getElem? hk)
         rwa [if_neg (by omega)]
       case measure=>simp[intOf];omega
      ·have g3:(er==0)=false:=beq_eq_false_iff_ne.2 h0
       have hbe:=Lib.hid (hbj.out.trans (bldX_er hRe.out hrL.out (by rw[←her.out];exact h0)))
       rw[←her.out] at hbe
       replace h0:=Lib.hid h0
       go_wp2_with fail
       refine hC.out.mono ?_
       rintro e w1 ⟨rfl,hm,K',rs',S',hsub,hn',hrest⟩
       have S:=S'.s
       obtain⟨c_r0,c_r1,f_r0,f_r1⟩:=S.cf2 1 rfl
       have hz:w.heap.size<w1.heap.size:=S.lt 1 rfl
       have S2:=Lib.hid ((S.set 1 0 (.int .i64 0) rfl (by nofun)).set 1 1 (.slice none 0 0) rfl (by nofun))
       clear hC hsub hrest e0 hm S S' hn'
       have hlt:=hjh.out
       have hnn:=hnh.out
       have hrr:=hrh.out
       go_wp2
       refine bodyPost_ret (res_build _ _ w.heap.size 37 rfl rfl rfl (S2.out.cb 1 rfl)) rfl (.inl ⟨?_,?_,S2.out.bel⟩)
       ·rw[hbe.out];exact h0.out
       ·rw[hbe.out];go_num
     ·have hC:=addRecord_no L K (vl.map Fv) r.L ab cb n n j r.A r.L.length r.c w wr ((w.heap.size,#[.int .i64 0,.slice none 0 0],37)::(ab,(funC.all vl).toArray,87)::F) rs S hlen.out hKl (by rw[←fun_all];exact List.mem_cons_of_mem _ (List.mem_cons_self ..)) (by rw[List.length_map];exact hvl.out) (fun q x hx=>by
       obtain⟨y,h1,h2⟩:=hA q x hx
       exact⟨Fv y,by rw[List.getElem?_map,h1];rfl,h2⟩) (fun x hxm=>(hf.out x hxm)) hra.1 (fun s hs=>hrs.out r hrm s hs) (fun k hk=>by
       obtain⟨q,hq⟩:=List.getElem?_of_mem hk
       have:=hbd q k hq
       rwa [if_neg (by omega)] at this) (by have:=hrh.out;omega) (by have:=hnh.out;omega) hrl
      have hbe:=Lib.hid (hbj.trans (bldX_no hRe (by rw[hlen.out];exact hrl)))
      replace hC:=Lib.hid hC
      have S2:=Lib.hid ((S.s.set 1 0 (.int .i64 0) rfl (by nofun)).set 1 1 (.slice none 0 0) rfl (by nofun))
      have hrr:=hrh.out
      clear S hra hre hrm hbd hrl hA hnk hbj hRe hKl
      go_wp2_with fail
      refine hC.out.mono ?_
      rintro e w1 ⟨rfl,rfl⟩
      clear hC
      go_wp2
      refine bodyPost_ret (res_build _ _ w.heap.size 37 rfl rfl rfl (S2.out.cb 1 rfl)) rfl (.inl ⟨?_,?_,S2.out.bel⟩)
      ·rw[hbe.out];show ¬ (6:Int)=0;decide
      ·rw[hbe.out];go_num
    ·obtain rfl:rn=j:=by omega
     have hb0:bx=(0,0,K.map Kc.ct):=by
      rw[hbj,List.drop_eq_nil_of_le (by rw[List.length_map,hR.out.len];exact Nat.le_refl _),bldX]
     have hD:=delete_no (K.map Kc.c) (some ⟨cb,0,none⟩) n n wr (S.lr hKl) (by have:=hnh.out;omega) (fun c hc h3=>by
      obtain⟨k,hk,rfl⟩:=List.mem_map.1 hc
      have:=List.mem_map_of_mem (f:=Kc.nk) hk
      rw[hnk] at this
      obtain⟨x,hx,he⟩:=List.mem_map.1 this
      exact hns.out x hx ((congrArg Prod.snd he).trans h3))
     have hlx:=Lib.hid (lx_zip L K hnk)
     replace hD:=Lib.hid hD
     replace hb0:=Lib.hid hb0
     replace S:=Lib.hid S
     replace hKl:=Lib.hid hKl
     clear hlt hjn hA hnk hbj hbd
     go_wp2_with fail
     refine hD.out.mono ?_
     rintro e w1 ⟨rfl,bb⟩
     have T:=Lib.hid (show KS w w1 cb ((w.heap.size,#[.int .i64 0,.slice none 0 0],37)::(ab,(funC.all vl).toArray,87)::F) K rs from ⟨S.out.s.call bb,S.out.t,S.out.e⟩)
     clear bb S hD
     obtain⟨c_r0,c_r1,f_r0,f_r1⟩:=T.out.s.cf2 1 rfl
     have hz:w.heap.size<w1.heap.size:=T.out.s.lt 1 rfl
     have T2:=Lib.hid ((T.out.s.set 1 0 (.int .i64 rn) rfl (by nofun)).set 1 1 (.slice (some ⟨cb,0,none⟩) n n) rfl (by nofun))
     have T3:=Lib.hid (show KS w _ cb ((w.heap.size,#[.int .i64 rn,.slice (some ⟨cb,0,none⟩) n n],37)::(ab,(funC.all vl).toArray,87)::F) K rs from ⟨T2.out,T.out.t,T.out.e⟩)
     clear T
     have hrr:=hrh.out
     have hnn:=hnh.out
     go_wp2
     refine bodyPost_ret (res_build _ _ w.heap.size 37 rfl rfl rfl (T2.out.cb 1 rfl)) rfl (.inr ⟨by rw[hb0.out],cb,K.map Kc.c,rfl,T3.out.lr hKl.out,?_,T2.out.bel⟩)
     rw[hb0.out];exact hlx.out
end Go.Proofs.YtdeedofmflelfaaGreatDoor

namespace Go.Proofs.YtdeedofmflelfaaGreatDoor
open Go.RowKit RQ
set_option linter.unusedVariables false
theorem res_rfrac (W:World) (tmps:Array Value) (g t:Nat) {v0 v1 v2:Value} (ht:tmps.getD 4 undef=.pointer (some ⟨g,0,none⟩)) (h:Cb W g #[v0,v1,v2] t) :
  (results Tryz.f38 tmps).run Tryz.prog W=.ok (.agg #[v0,v1,v2]) W:=by
 have c0:W.cell? ⟨g,0,none⟩=some v0:=h.cell rfl
 have c1:W.cell? ⟨g,1,none⟩=some v1:=h.cell rfl
 have c2:W.cell? ⟨g,2,none⟩=some v2:=h.cell rfl
 have ht':tmps[4]?.getD undef=.pointer (some ⟨g,0,none⟩):=by rw[←ht];simp[Array.getD_eq_getD_getElem?]
 simp[results,Tryz.results38,go_sem,ht',c0,c1,c2]
set_option maxRecDepth 100000 in
set_option maxHeartbeats 4000000 in
theorem rfrac_any (u v:Int) (w:World) (h1 : -9223372036854775808≤u∧u≤9223372036854775807) (h2 : -9223372036854775808≤v∧v≤9223372036854775807) (hv:v≠0):Calls Tryz.prog 38 #[.int .i64 u,.int .i64 v] w (RetR (Rat.divInt u v) w):=by
 have hF1:=Lib.hid (fun W=>rfromInt_any u W h1.1 h1.2)
 have hF2:=Lib.hid (fun W=>rfromInt_any v W h2.1 h2.2)
 have lu:(limbs u.natAbs).length≤2:=limbs_len_le.2 (by omega)
 have lv:(limbs v.natAbs).length≤2:=limbs_len_le.2 (by omega)
 have hO:Hid (∀ W A n c A' n' c',Rd W A n c (limbs u.natAbs)→Rd W A' n' c' (limbs v.natAbs)→Calls Tryz.prog 69 #[.agg #[.bool (ng u),.slice A n c],.agg #[.bool (ng v),.slice A' n' c']] W (RetR (Rat.divInt u v) W)):=Lib.hid fun W A n c A' n' c' q1 q2=>rover_any u v A n c A' n' c' W q1 q2 (by rw[←q1.len];omega) (by rw[←q2.len];omega) hv
 generalize Rat.divInt u v=q at *
 clear lu lv h1 h2 hv
 have S:=((St.new w).allocAt (w.heap.size) #[.bool false,.slice none 0 0,.slice none 0 0] 46 (noL3 _ _ _ _ _ _ _) (by simp))
 replace S:=Lib.hid S
 go_enter Tryz.func38,Tryz.ntmps38
 go_wp2_with fail
 refine (hF1.out _).mono ?_
 rintro e w1 ⟨A1,n1,c1,rfl,Q1,bb⟩
 have T:=((S.out.call bb).read Q1)
 clear bb S
 have S:=T
 clear T
 obtain⟨c_r0,c_r1,c_r2,f_r0,f_r1,f_r2⟩:=S.cf3 0 rfl
 have hz:w.heap.size<w1.heap.size:=S.lt 0 rfl
 replace S:=Lib.hid S
 clear Q1 hF1
 go_wp2_with fail
 refine (hF2.out _).mono ?_
 rintro e w2 ⟨A2,n2,c2,rfl,Q2,bb⟩
 have T:=((S.out.call bb).read Q2)
 clear bb S c_r0 f_r0 c_r1 f_r1 c_r2 f_r2 hz
 have S:=T
 clear T
 obtain⟨c_r0,c_r1,c_r2,f_r0,f_r1,f_r2⟩:=S.cf3 0 rfl
 have hz:w.heap.size<w2.heap.size:=S.lt 0 rfl
 replace S:=Lib.hid S
 clear Q2 hF2
 go_wp2_with fail
 refine (hO.out _ _ _ _ _ _ _ (S.out.r 1 rfl) (S.out.r 0 rfl)).mono ?_
 rintro e w3 ⟨A9,n9,c9,D9,m9,d9,rfl,Q9,bb⟩
 have T:=(((S.out.call bb).read Q9.n).read Q9.d)
 clear bb S c_r0 f_r0 c_r1 f_r1 c_r2 f_r2 hz
 have S:=T
 clear T
 obtain⟨c_r0,c_r1,c_r2,f_r0,f_r1,f_r2⟩:=S.cf3 0 rfl
 have hz:w.heap.size<w3.heap.size:=S.lt 0 rfl
 replace S:=Lib.hid S
 clear Q9 hO
 have S:St w _ [(w.heap.size,#[.bool (ng q.num),.slice A9 n9 c9,.slice D9 m9 d9],46)] [(D9,m9,d9,dn q),(A9,n9,c9,limbs q.num.natAbs),(A2,n2,c2,limbs v.natAbs),(A1,n1,c1,limbs u.natAbs)]:=(((S.out.set 0 0 (.bool (ng q.num)) rfl (by nofun)).set 0 1 (.slice A9 n9 c9) rfl (by nofun)).set 0 2 (.slice D9 m9 d9) rfl (by nofun))
 replace S:=Lib.hid S
 go_wp2
 refine bodyPost_ret (res_rfrac _ _ (w.heap.size) 46 rfl (S.out.bk _ (List.mem_of_getElem? (i:=0) rfl)).1) rfl ?_
 exact⟨_,_,_,_,_,_,rfl,⟨S.out.r 1 rfl,S.out.r 0 rfl⟩,S.out.bel⟩
theorem aw1:pOk ⟨#[50,53,48]⟩=true:=by decide +kernel
theorem aw2:pQ ⟨#[50,53,48]⟩*Rat.divInt 1 100=Rat.divInt 5 2:=by decide +kernel
theorem aw3:inB ⟨#[50,53,48]⟩ [⟨#[78,65]⟩]=false∧inB ⟨#[78,65]⟩ [⟨#[78,65]⟩]=true∧inB ⟨#[98]⟩ [⟨#[97]⟩]=false:=by decide +kernel
theorem aw4:namesB [⟨#[120]⟩,⟨#[103]⟩]=true:=by decide +kernel
def awL:List (List ByteArray):=[[⟨#[50,53,48]⟩,⟨#[97]⟩],[⟨#[78,65]⟩,⟨#[98]⟩]]
def awS (q:Rat):List Ct:=[([],[(false,ng q.num,limbs q.num.natAbs,dn q,0),(true,false,[],[],0)]),([⟨#[97]⟩,⟨#[98]⟩],[(false,false,[],[],0),(false,false,[],[],1)])]
theorem aw_bld (x y:Fe) (h1:x.k=1) (h2:x.mi.L=[⟨#[78,65]⟩]) (h3:x.uq=Rat.divInt 1 100) (h4:y.k=2) (h5:y.mi.L=[]):bldX [x,y] awL [([],[]),([],[])] 0=(0,0,awS (Rat.divInt 5 2)):=by
 have e1:addX x [] ⟨#[50,53,48]⟩=(0,[],false,ng (Rat.divInt 5 2).num,limbs (Rat.divInt 5 2).num.natAbs,dn (Rat.divInt 5 2),0):=by
  unfold addX
  rw[h2,aw3.1,h1,h3,aw1,aw2];rfl
 have e2:addX x [] ⟨#[78,65]⟩=(0,[],true,false,[],[],0):=by
  unfold addX
  rw[h2,aw3.2.1];rfl
 have e3:addX y [] ⟨#[97]⟩=(0,[⟨#[97]⟩],false,false,[],[],0):=by
  unfold addX
  rw[h5,h4];rfl
 have e4:addX y [⟨#[97]⟩] ⟨#[98]⟩=(0,[⟨#[97]⟩,⟨#[98]⟩],false,false,[],[],1):=by
  unfold addX levX
  rw[h5,h4,aw3.2.2];rfl
 have k1:skipF x=false:=by unfold skipF;rw[h1];rfl
 have k2:skipF y=false:=by unfold skipF;rw[h4];rfl
 generalize Rat.divInt 5 2=q at *
 simp[bldX,awL,rowX,k1,k2,e1,e2,e3,e4,awS]
theorem lr_cell {α:Type} {C:Cod α} {W:World} {b o n:Nat} {L:List α} (h:LR C W (some ⟨b,o,none⟩) n L) {i k:Nat} {x:α} {v:Value} (hx:L[i]?=some x) (hv:(C.cs x)[k]?=some v):W.cell? ⟨b,o+i*C.sz+k,none⟩=some v:=by
 rcases h.mem with h0 | ⟨b',o',hA,_,hc⟩
 ·have:=h.len
  have:=(List.getElem?_eq_some_iff.1 hx).1
  omega
 ·injection hA with hA
  injection hA with h1 h2 _
  subst h1 h2
  exact hc i x hx k v hv
theorem Cb_glr {α:Type} {C:Cod α} {W:World} {g t n:Nat} {L:List α} (hb:Cb W g (C.all L).toArray t) (hn:L.length=n) (hx:∀ x∈L,C.At W x):LR C W (some ⟨g,0,none⟩) n L:=by
 refine⟨hn,.inr ⟨g,0,rfl,hb.lt,fun i x hi k v hv=>?_⟩,hx⟩
 rw[Nat.zero_add]
 exact hb.cell (by rw[List.getElem?_toArray];exact all_get (i:=i) C hi k v hv)
theorem bel_cell {w W:World} (h:Below w.heap.size w W) {a:Addr} {v:Value} (hc:w.cell? a=some v):W.cell? a=some v:=by
 have hlt:a.block<w.heap.size:=by
  rcases Nat.lt_or_ge a.block w.heap.size with h1 | h1
  ·exact h1
  ·rw[World.cell?,Array.getElem?_eq_none h1] at hc
   cases hc
 rw[World.cell?_of_block (w:=w) (h.block _ hlt)];exact hc
theorem map_two {α β:Type} {f:α→β} {l:List α} {a b:β} (h:l.map f=[a,b]):∃ x y,l=[x,y]∧f x=a∧f y=b:=by
 obtain⟨x,l1,rfl,h1,h2⟩:=List.map_eq_cons_iff.1 h
 obtain⟨y,l2,rfl,h3,h4⟩:=List.map_eq_cons_iff.1 h2
 rw[List.map_eq_nil_iff] at h4
 subst h4
 exact⟨x,y,rfl,h1,h3⟩
/-- What awake builds. -/
def AwP (w:World) (q:Rat) (e:Ending) (w':World):Prop:=∃ cb c1 A2 c2 d o A n c D m f,e=.returned (.tuple #[.agg #[.int .i64 2,.slice (some ⟨cb,0,none⟩) 2 2],.int .i64 0,.int .i64 0])∧w'.cell? ⟨cb,3,none⟩=some (.slice (some ⟨d,o,none⟩) 2 c1)∧w'.cell? ⟨cb,6,none⟩=some (.slice A2 2 c2)∧w'.cell? ⟨d,o+1,none⟩=some (.bool (ng q.num))∧w'.cell? ⟨d,o+2,none⟩=some (.slice A n c)∧w'.cell? ⟨d,o+3,none⟩=some (.slice D m f)∧w'.cell? ⟨d,o+5,none⟩=some (.bool true)∧RR w' A n c D m f q∧Below w.heap.size w w'
theorem aw_build (w:World) (g0 g1 g2 g3 g4 t0 t1 t2 t3 t4:Nat) (u:Rat) (hu:u=Rat.divInt 1 100) (A1:Option Addr) (n1 c1:Nat) (D1:Option Addr) (m1 d1:Nat)
  (b0:Cb w g0 #[.string ⟨#[78,65]⟩] t0) (b1:Cb w g1 #[.string ⟨#[120]⟩,.int .i64 1,.slice (some ⟨g0,0,none⟩) 1 1,.bool (ng u.num),.slice A1 n1 c1,.slice D1 m1 d1,.string ⟨#[103]⟩,.int .i64 2,.slice none 0 0,.bool false,.slice none 0 0,.slice none 0 0] t1) (b2:Cb w g2 #[.string ⟨#[50,53,48]⟩,.string ⟨#[97]⟩] t2) (b3:Cb w g3 #[.string ⟨#[78,65]⟩,.string ⟨#[98]⟩] t3) (b4:Cb w g4 #[.slice (some ⟨g2,0,none⟩) 2 2,.slice (some ⟨g3,0,none⟩) 2 2] t4) (R:RR w A1 n1 c1 D1 m1 d1 u) :
  Calls Tryz.prog 19 #[.slice (some ⟨g1,0,none⟩) 2 2,.slice (some ⟨g4,0,none⟩) 2 2] w (AwP w (Rat.divInt 5 2)):=by
 have hs:Rs u 1:=by rw[hu];exact⟨by decide +kernel,by decide +kernel⟩
 have hn1:n1≤1:=by rw[←R.n.len];exact limbs_len_le.2 hs.n
 have hm1:m1≤1:=by rw[←R.d.len];exact dn_len hs
 have l0:LR strC w (some ⟨g0,0,none⟩) 1 [⟨#[78,65]⟩]:=Cb_glr (C:=strC) b0 rfl fun _ _=>trivial
 have l2:LR strC w (some ⟨g2,0,none⟩) 2 [⟨#[50,53,48]⟩,⟨#[97]⟩]:=Cb_glr (C:=strC) b2 rfl fun _ _=>trivial
 have l3:LR strC w (some ⟨g3,0,none⟩) 2 [⟨#[78,65]⟩,⟨#[98]⟩]:=Cb_glr (C:=strC) b3 rfl fun _ _=>trivial
 have l4:LR (slC strC) w (some ⟨g4,0,none⟩) 2 [⟨some ⟨g2,0,none⟩,2,[⟨#[50,53,48]⟩,⟨#[97]⟩]⟩,⟨some ⟨g3,0,none⟩,2,[⟨#[78,65]⟩,⟨#[98]⟩]⟩]:=Cb_glr (C:=slC strC) b4 rfl fun x hx=>by
  rcases List.mem_cons.1 hx with rfl | hx
  ·exact⟨l2,Nat.le_refl _⟩
  ·rcases List.mem_cons.1 hx with rfl | hx
   ·exact⟨l3,Nat.le_refl _⟩
   ·cases hx
 let x:Fe:=⟨⟨#[120]⟩,1,⟨some ⟨g0,0,none⟩,1,[⟨#[78,65]⟩]⟩,⟨ng u.num,⟨A1,n1,c1,limbs u.num.natAbs⟩,⟨D1,m1,d1,dn u⟩⟩⟩
 let y:Fe:=⟨⟨#[103]⟩,2,⟨none,0,[]⟩,⟨false,⟨none,0,0,[]⟩,⟨none,0,0,[]⟩⟩⟩
 have l1:LR feC w (some ⟨g1,0,none⟩) 2 [x,y]:=Cb_glr (C:=feC) b1 rfl fun z hz=>by
  rcases List.mem_cons.1 hz with rfl | hz
  ·exact fe_at.2 ⟨⟨l0,Nat.le_refl _⟩,R.n,R.d⟩
  ·rcases List.mem_cons.1 hz with rfl | hz
   ·exact fe_at.2 ⟨⟨LR.nil_ _ _ _,Nat.le_refl _⟩,Rd.nil_ _ _ _,Rd.nil_ _ _ _⟩
   ·cases hz
 have huq:x.uq=Rat.divInt 1 100:=by rw[←hu];exact rv_z u
 have hb:=aw_bld x y rfl rfl huq rfl rfl
 have hlt:∀ z∈[x,y],LtF z:=fun z hz=>by
  rcases List.mem_cons.1 hz with rfl | hz
  ·refine⟨Nat.le_of_ble_eq_true rfl,Nat.le_of_ble_eq_true rfl,fun s hs=>?_,by show n1≤20;omega,by show m1≤20;omega⟩
   rcases List.mem_cons.1 hs with rfl | hs
   ·decide
   ·cases hs
  ·rcases List.mem_cons.1 hz with rfl | hz
   ·exact⟨Nat.le_of_ble_eq_true rfl,Nat.le_of_ble_eq_true rfl,(fun s hs=>by cases hs),Nat.le_of_ble_eq_true rfl,Nat.le_of_ble_eq_true rfl⟩
   ·cases hz
 have hc:cfE [x,y] 2=0:=by
  have r1:x.rea=true:=by
   show reaB 1 (ng u.num) (limbs u.num.natAbs) (dn u)=true
   unfold reaB
   rw[vldR_z,rv_z,hu];decide +kernel
  have r2:y.rea=true:=rfl
  unfold cfE
  rw[if_neg (by simp),if_neg (by rw[show [x,y].map (·.n)=[⟨#[120]⟩,⟨#[103]⟩] from rfl,aw4];simp),if_neg (by simp[r1,r2])]
 refine (build_yes [x,y] _ 2 2 _ _ 2 2 w l1 hlt l4 (fun r hr s hs=>?_) (by decide) (by decide) hc (fun z hz=>?_) _ hb.symm).mono ?_
 ·rcases List.mem_cons.1 hr with rfl | hr
  ·rcases List.mem_cons.1 hs with rfl | hs
   ·decide
   ·rcases List.mem_cons.1 hs with rfl | hs
    ·decide
    ·cases hs
  ·rcases List.mem_cons.1 hr with rfl | hr
   ·rcases List.mem_cons.1 hs with rfl | hs
    ·decide
    ·rcases List.mem_cons.1 hs with rfl | hs
     ·decide
     ·cases hs
   ·cases hr
 ·rcases List.mem_cons.1 hz with rfl | hz
  ·show (1:Int)≠3;decide
  ·rcases List.mem_cons.1 hz with rfl | hz
   ·show (2:Int)≠3;decide
   ·cases hz
 ·rintro e w' (⟨h0,_⟩ | ⟨_,cb,Cs,rfl,hL,hx,hbl⟩)
  ·exact absurd rfl h0
  ·generalize Rat.divInt 5 2=q at *
   have hx':Cs.map Cl.lx=[⟨x.n,x.k,[],[(false,ng q.num,limbs q.num.natAbs,dn q,0),(true,false,[],[],0)]⟩,⟨y.n,y.k,[⟨#[97]⟩,⟨#[98]⟩],[(false,false,[],[],0),(false,false,[],[],1)]⟩]:=hx
   obtain⟨K1,K2,rfl,h1,h2⟩:=map_two hx'
   clear hx hx'
   have k1:K1.ce.L.map Ce.cx=[(false,ng q.num,limbs q.num.natAbs,dn q,0),(true,false,[],[],0)]:=congrArg Lx.ce h1
   have k2:K2.lv.L.length=2:=congrArg (fun z=>z.lv.length) h2
   obtain⟨z1,z2,hz,e1,e2⟩:=map_two k1
   have hK1:=(cl_at.1 (hL.el K1 (List.mem_cons_self ..))).2.1
   rw[hz] at hK1
   obtain⟨d,o,_,hA,_⟩:=hK1.get (i:=0) (show 0<2 by decide)
   have f1:=(ce_at.1 (hK1.el z1 (List.mem_cons_self ..)))
   rw[hA] at hK1
   have c3:w'.cell? ⟨cb,3,none⟩=some (.slice K1.ce.A K1.ce.L.length K1.ce.c):=lr_cell hL (i:=0) (k:=3) (x:=K1) rfl rfl
   have c6:w'.cell? ⟨cb,6,none⟩=some (.slice K2.lv.A K2.lv.L.length K2.lv.c):=lr_cell hL (i:=1) (k:=2) (x:=K2) rfl rfl
   have p1:=lr_cell hK1 (i:=0) (k:=1) (x:=z1) rfl rfl
   have p2:=lr_cell hK1 (i:=0) (k:=2) (x:=z1) rfl rfl
   have p3:=lr_cell hK1 (i:=0) (k:=3) (x:=z1) rfl rfl
   have p5:=lr_cell hK1 (i:=1) (k:=0) (x:=z2) rfl rfl
   have v1:z1.v.b=ng q.num:=congrArg (fun z=>z.2.1) e1
   have v2:z1.v.x.x=limbs q.num.natAbs:=congrArg (fun z=>z.2.2.1) e1
   have v3:z1.v.y.x=dn q:=congrArg (fun z=>z.2.2.2.1) e1
   have v4:z2.m=true:=congrArg (fun z=>z.1) e2
   rw[v2,v3] at f1
   rw[hA,hz] at c3
   rw[k2] at c6
   exact⟨cb,_,_,_,d,o,_,_,_,_,_,_,rfl,c3,c6,by rw[←v1];exact p1,p2,p3,by rw[←v4];exact p5,⟨f1.1,f1.2⟩,hbl⟩
set_option maxRecDepth 100000 in
set_option maxHeartbeats 4000000 in
/-- The law's awake. -/
theorem awake_any (w:World):Calls Tryz.prog 12 #[] w fun e w'=>e=.returned (.bool true)∧Below w.heap.size w w':=by
 obtain⟨u1,e_u1⟩:∃ x:Rat,x=Rat.divInt 1 100:=⟨_,rfl⟩
 obtain⟨q,e_q⟩:∃ x:Rat,x=Rat.divInt 5 2:=⟨_,rfl⟩
 have hF1:Hid (∀ W,Calls Tryz.prog 38 #[.int .i64 1,.int .i64 100] W (RetR u1 W)):=Lib.hid fun W=>by rw[e_u1];exact rfrac_any 1 100 W (by decide) (by decide) (by decide)
 have hF2:Hid (∀ W,Calls Tryz.prog 38 #[.int .i64 5,.int .i64 2] W (RetR q W)):=Lib.hid fun W=>by rw[e_q];exact rfrac_any 5 2 W (by decide) (by decide) (by decide)
 have hq:Rs q 1:=by rw[e_q];exact⟨by decide +kernel,by decide +kernel⟩
 have hSm:=Lib.hid (fun A n c D m d A' n' c' D' m' d' W h1 h2=>sameT q q rfl A n c D m d A' n' c' D' m' d' W h1 h2 (hq.mono (by decide)) (hq.mono (by decide)))
 have hBd:=Lib.hid (fun w g0 g1 g2 g3 g4 t0 t1 t2 t3 t4 A1 n1 c1 D1 m1 d1 b0 b1 b2 b3 b4 R=>e_q ▸ aw_build w g0 g1 g2 g3 g4 t0 t1 t2 t3 t4 u1 e_u1 A1 n1 c1 D1 m1 d1 b0 b1 b2 b3 b4 R)
 clear e_u1 e_q hq
 have S:=Lib.hid ((St.new w).allocAt w.heap.size #[.string ⟨#[78,65]⟩] 9 (noLof rfl) rfl)
 go_enter Tryz.func12,Tryz.ntmps12
 go_wp2_with fail
 refine (hF1.out _).mono ?_
 rintro e w1 ⟨A1,n1,c1,D1,m1,d1,rfl,Q1,bb⟩
 have T:=Lib.hid (((S.out.call bb).read Q1.n).read Q1.d)
 clear bb S Q1 hF1
 have S:=T
 clear T
 go_wp2_with fail
 have S1:=S.out.allocAt w1.heap.size #[.string ⟨#[120]⟩,.int .i64 1,.slice (some ⟨w.heap.size,0,none⟩) 1 1,.bool (ng u1.num),.slice A1 n1 c1,.slice D1 m1 d1,.string ⟨#[103]⟩,.int .i64 2,.slice none 0 0,.bool false,.slice none 0 0,.slice none 0 0] 48 (noLof rfl) rfl
 have S2:=S1.allocAt (w1.heap.size+1) #[.string ⟨#[50,53,48]⟩,.string ⟨#[97]⟩] 9 (noLof rfl) (by simp)
 have S3:=S2.allocAt (w1.heap.size+1+1) #[.string ⟨#[78,65]⟩,.string ⟨#[98]⟩] 9 (noLof rfl) (by simp)
 have S4:=Lib.hid (S3.allocAt (w1.heap.size+1+1+1) #[.slice (some ⟨w1.heap.size+1,0,none⟩) 2 2,.slice (some ⟨w1.heap.size+1+1,0,none⟩) 2 2] 22 (noLof rfl) (by simp))
 clear S S1 S2 S3
 have S:=S4
 clear S4
 refine (hBd.out _ w.heap.size w1.heap.size (w1.heap.size+1) (w1.heap.size+1+1) (w1.heap.size+1+1+1) _ _ _ _ _ A1 n1 c1 D1 m1 d1 (S.out.cb 4 rfl) (S.out.cb 3 rfl) (S.out.cb 2 rfl) (S.out.cb 1 rfl) (S.out.cb 0 rfl) ⟨S.out.r 1 rfl,S.out.r 0 rfl⟩).mono ?_
 rintro e w2 ⟨cb,c1',A2,c2,d,o,A,n,c,D,m,f,rfl,p3,p6,q1,q2,q3,q5,hrr,bb⟩
 have S1:=(St.new w).call (S.out.bel.trans (bb.mono S.out.bel.size))
 have B1:=((St.new w2).allocAt w2.heap.size #[.int .i64 2,.slice (some ⟨cb,0,none⟩) 2 2] 37 (noLof rfl) rfl).bel
 have S2:=S1.allocAt w2.heap.size #[.int .i64 2,.slice (some ⟨cb,0,none⟩) 2 2] 37 (noLof rfl) rfl
 replace p3:=Lib.hid (bel_cell B1 p3)
 replace p6:=Lib.hid (bel_cell B1 p6)
 replace q1:=Lib.hid (bel_cell B1 q1)
 replace q2:=Lib.hid (bel_cell B1 q2)
 replace q3:=Lib.hid (bel_cell B1 q3)
 replace q5:=Lib.hid (bel_cell B1 q5)
 replace hrr:=Lib.hid (hrr.below B1)
 have p0:=Lib.hid ((S2.cb 0 rfl).cell (i:=0) rfl)
 have p1:=Lib.hid ((S2.cb 0 rfl).cell (i:=1) rfl)
 replace S2:=Lib.hid S2
 clear S S1 B1 bb hBd
 have S:=S2
 clear S2
 go_upto_region 3 with fail
 generalize hW:World.alloc _ _=w4 at S p0 p1 p3 p6 q1 q2 q3 q5 hrr ⊢
 clear hW
 obtain⟨tb,htb⟩:∃ g,g=w2.heap.size:=⟨_,rfl⟩
 rw[←htb] at p0 p1 ⊢
 clear htb
 have hbase:=Lib.hid (St.new w4)
 refine RW.begin (Z:=[]) (S:=(fun W=>Below w4.heap.size w4 W)) (by kernel_rfl) ?_ hbase.out ?_
 ·exact⟨by kernel_rfl,zis_nil,by decide,by decide,nol_nil,(fun _ _ h=>h.bel)⟩
 intro hzk
 refine RW.t (i:=0) (v:=.int .i64 0) (some 19) at0 (hy:=fun _ _=>by kernel_rfl) (h:=?_)
 refine RW.t (i:=1) (v:=.bool true) (some 20) at1 (hy:=fun _ _=>by kernel_rfl) (h:=?_)
 refine RW.t (i:=2) (v:=.bool true) (some 21) at2 (hy:=fun _ _=>by kernel_rfl) (h:=?_)
 refine RW.t (i:=3) (v:=.pointer (some ⟨tb,0,none⟩)) (some 22) at3 (hy:=fun _ _=>by kernel_rfl) (h:=?_)
 refine RW.t (i:=4) (v:=.int .i64 2) (some 23) at4 (hy:=fun W hS=>by (have k0:=bel_cell hS p0.out;clear hS;go_simp)) (h:=?_)
 refine RW.t (i:=5) (v:=.bool true) (some 24) at5 (hy:=fun _ _=>by kernel_rfl) (h:=?_)
 refine RW.t (i:=6) (v:=.bool true) (some 25) at6 (hy:=fun _ _=>by kernel_rfl) (h:=?_)
 refine RW.t (i:=7) (v:=.bool true) (some 26) at7 (hy:=fun _ _=>by kernel_rfl) (h:=?_)
 refine RW.t (i:=8) (v:=.pointer (some ⟨tb,1,none⟩)) (some 27) at8 (hy:=fun _ _=>by kernel_rfl) (h:=?_)
 refine RW.t (i:=9) (v:=.slice (some ⟨cb,0,none⟩) 2 2) (some 28) at9 (hy:=fun W hS=>by (have k0:=bel_cell hS p1.out;clear hS;go_simp)) (h:=?_)
 refine RW.t (i:=10) (v:=.int .i64 2) (some 29) at10 (hy:=fun _ _=>by go_simp) (h:=?_)
 refine RW.t (i:=11) (v:=.bool true) (some 30) at11 (hy:=fun _ _=>by kernel_rfl) (h:=?_)
 refine RW.t (i:=12) (v:=.bool true) (some 31) at12 (hy:=fun _ _=>by kernel_rfl) (h:=?_)
 refine RW.t (i:=13) (v:=.bool true) (some 32) at13 (hy:=fun _ _=>by kernel_rfl) (h:=?_)
 refine RW.t (i:=14) (v:=.pointer (some ⟨tb,1,none⟩)) (some 33) at14 (hy:=fun _ _=>by kernel_rfl) (h:=?_)
 refine RW.t (i:=15) (v:=.slice (some ⟨cb,0,none⟩) 2 2) (some 34) at15 (hy:=fun W hS=>by (have k0:=bel_cell hS p1.out;clear hS;go_simp)) (h:=?_)
 refine RW.t (i:=16) (v:=.pointer (some ⟨cb,0,none⟩)) (some 35) at16 (hy:=fun _ _=>by go_simp) (h:=?_)
 refine RW.t (i:=17) (v:=.pointer (some ⟨cb,3,none⟩)) (some 36) at17 (hy:=fun _ _=>by go_simp) (h:=?_)
 refine RW.t (i:=18) (v:=.slice (some ⟨d,o,none⟩) 2 c1') (some 37) at18 (hy:=fun W hS=>by (have k0:=bel_cell hS p3.out;clear hS;go_simp)) (h:=?_)
 refine RW.t (i:=19) (v:=.int .i64 2) (some 38) at19 (hy:=fun _ _=>by go_simp) (h:=?_)
 refine RW.t (i:=20) (v:=.bool true) (some 39) at20 (hy:=fun _ _=>by kernel_rfl) (h:=?_)
 refine RW.t (i:=21) (v:=.bool true) (some 40) at21 (hy:=fun _ _=>by kernel_rfl) (h:=?_)
 refine RW.t (i:=22) (v:=.bool true) (some 41) at22 (hy:=fun _ _=>by kernel_rfl) (h:=?_)
 refine RW.t (i:=23) (v:=.pointer (some ⟨tb,1,none⟩)) (some 42) at23 (hy:=fun _ _=>by kernel_rfl) (h:=?_)
 refine RW.t (i:=24) (v:=.slice (some ⟨cb,0,none⟩) 2 2) (some 43) at24 (hy:=fun W hS=>by (have k0:=bel_cell hS p1.out;clear hS;go_simp)) (h:=?_)
 refine RW.t (i:=25) (v:=.pointer (some ⟨cb,0,none⟩)) (some 44) at25 (hy:=fun _ _=>by go_simp) (h:=?_)
 refine RW.t (i:=26) (v:=.pointer (some ⟨cb,3,none⟩)) (some 45) at26 (hy:=fun _ _=>by go_simp) (h:=?_)
 refine RW.t (i:=27) (v:=.slice (some ⟨d,o,none⟩) 2 c1') (some 46) at27 (hy:=fun W hS=>by (have k0:=bel_cell hS p3.out;clear hS;go_simp)) (h:=?_)
 refine RW.t (i:=28) (v:=.pointer (some ⟨d,o,none⟩)) (some 47) at28 (hy:=fun _ _=>by go_simp) (h:=?_)
 refine RW.t (i:=29) (v:=.pointer (some ⟨d,(o+1),none⟩)) (some 48) at29 (hy:=fun _ _=>by go_simp) (h:=?_)
 refine RW.t (i:=30) (v:=.agg #[.bool (ng q.num),.slice A n c,.slice D m f]) (some 49) at30 (hy:=fun W hS=>by (have k0:=bel_cell hS q1.out;have k1:=bel_cell hS q2.out;have k2:=bel_cell hS q3.out;clear hS;go_simp)) (h:=?_)
 refine RW.c (i:=31) (args:=#[.int .i64 5,.int .i64 2]) (some 50) hzk.out at31 (hx:=fun _=>by kernel_rfl) (h:=fun _ S=>(hF2.out _).mono ?_)
 rintro e w7 ⟨A9,n9,c9,D9,m9,d9,rfl,Q9,bb⟩
 refine⟨bb,_,[(D9,m9,d9,dn q),(A9,n9,c9,limbs q.num.natAbs)],rfl,(rd_cons Q9.d (rd_cons Q9.n rd_nil)),?_⟩
 clear bb S Q9
 refine RW.c (i:=32) (args:=#[.agg #[.bool (ng q.num),.slice A n c,.slice D m f],.agg #[.bool (ng q.num),.slice A9 n9 c9,.slice D9 m9 d9]]) (some 51) hzk.out at32 (hx:=fun _=>by kernel_rfl) (h:=fun _ S=>(hSm.out _ _ _ _ _ _ _ _ _ _ _ _ _ (hrr.out.below S.bel) ⟨S.r 1 rfl,S.r 0 rfl⟩).mono ?_)
 rintro e w8 ⟨rfl,bb⟩
 refine⟨bb,_,[],rfl,rd_nil,?_⟩
 clear bb S
 refine RW.t (i:=33) (v:=.bool true) (some 52) at33 (hy:=fun _ _=>by kernel_rfl) (h:=?_)
 refine RW.t (i:=34) (v:=.bool true) (some 53) at34 (hy:=fun _ _=>by kernel_rfl) (h:=?_)
 refine RW.t (i:=35) (v:=.pointer (some ⟨tb,1,none⟩)) (some 54) at35 (hy:=fun _ _=>by kernel_rfl) (h:=?_)
 refine RW.t (i:=36) (v:=.slice (some ⟨cb,0,none⟩) 2 2) (some 55) at36 (hy:=fun W hS=>by (have k0:=bel_cell hS p1.out;clear hS;go_simp)) (h:=?_)
 refine RW.t (i:=37) (v:=.pointer (some ⟨cb,0,none⟩)) (some 56) at37 (hy:=fun _ _=>by go_simp) (h:=?_)
 refine RW.t (i:=38) (v:=.pointer (some ⟨cb,3,none⟩)) (some 57) at38 (hy:=fun _ _=>by go_simp) (h:=?_)
 refine RW.t (i:=39) (v:=.slice (some ⟨d,o,none⟩) 2 c1') (some 58) at39 (hy:=fun W hS=>by (have k0:=bel_cell hS p3.out;clear hS;go_simp)) (h:=?_)
 refine RW.t (i:=40) (v:=.pointer (some ⟨d,(o+5),none⟩)) (some 59) at40 (hy:=fun _ _=>by go_simp) (h:=?_)
 refine RW.t (i:=41) (v:=.pointer (some ⟨d,(o+5),none⟩)) (some 60) at41 (hy:=fun _ _=>by go_simp) (h:=?_)
 refine RW.t (i:=42) (v:=.bool true) (some 61) at42 (hy:=fun W hS=>by (have k0:=bel_cell hS q5.out;clear hS;go_simp)) (h:=?_)
 refine RW.t (i:=43) (v:=.bool true) (some 62) at43 (hy:=fun _ _=>by kernel_rfl) (h:=?_)
 refine RW.t (i:=44) (v:=.bool true) (some 63) at44 (hy:=fun _ _=>by kernel_rfl) (h:=?_)
 refine RW.t (i:=45) (v:=.pointer (some ⟨tb,1,none⟩)) (some 64) at45 (hy:=fun _ _=>by kernel_rfl) (h:=?_)
 refine RW.t (i:=46) (v:=.slice (some ⟨cb,0,none⟩) 2 2) (some 65) (at_succ at45) (hy:=fun W hS=>by (have k0:=bel_cell hS p1.out;clear hS;go_simp)) (h:=?_)
 refine RW.t (i:=47) (v:=.pointer (some ⟨cb,4,none⟩)) (some 66) (at_succ (at_succ at45)) (hy:=fun _ _=>by go_simp) (h:=?_)
 refine RW.t (i:=48) (v:=.pointer (some ⟨cb,6,none⟩)) (some 67) (at_succ (at_succ (at_succ at45))) (hy:=fun _ _=>by go_simp) (h:=?_)
 refine RW.t (i:=49) (v:=.slice A2 2 c2) (some 68) (at_succ (at_succ (at_succ (at_succ at45)))) (hy:=fun W hS=>by (have k0:=bel_cell hS p6.out;clear hS;go_simp)) (h:=?_)
 refine RW.t (i:=50) (v:=.int .i64 2) (some 69) (at_succ (at_succ (at_succ (at_succ (at_succ at45))))) (hy:=fun _ _=>by go_simp) (h:=?_)
 refine RW.t (i:=51) (v:=.bool true) (some 70) (at_succ (at_succ (at_succ (at_succ (at_succ (at_succ at45)))))) (hy:=fun _ _=>by kernel_rfl) (h:=?_)
 refine RW.t (i:=52) (v:=.bool true) (some 71) (at_succ (at_succ (at_succ (at_succ (at_succ (at_succ (at_succ at45))))))) (hy:=fun _ _=>by kernel_rfl) (h:=?_)
 refine RW.tail hzk.out (by kernel_rfl) ?_
 intro gs' w5 hgs' hS Sb
 obtain rfl:=len0 hgs'
 simp only[mark,fill,Act.put,List.setIfInBounds_toArray,List.set_cons_zero,List.set_cons_succ]
 have T:=Lib.hid (S.out.call hS)
 clear S Sb hgs' hzk hbase
 have S:=T
 clear T
 refine Wk.o (i:=53) (at_succ (at_succ (at_succ (at_succ (at_succ (at_succ (at_succ (at_succ at45)))))))) (by kernel_rfl) fun K' hK=>?_
 go_simp
 refine hK.out _ _ hS ?_
 clear hK K'
 try simp only[Act.put,List.setIfInBounds_toArray,List.set_cons_zero,List.set_cons_succ]
 refine Wk.done (by kernel_rfl) ?_
 go_simp
 go_wp2
 go_ret
 exact⟨rfl,S.out.bel⟩
end Go.Proofs.YtdeedofmflelfaaGreatDoor
