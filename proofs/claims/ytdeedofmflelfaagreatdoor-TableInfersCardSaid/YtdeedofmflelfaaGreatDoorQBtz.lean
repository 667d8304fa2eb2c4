/- Cells that are added to a column of levels. A record: the state of all columns, what one call leaves. A record is added. All records; a function that deletes nothing. -/
import Derived.Test.YtdeedofmflelfaaGreatDoorQBqz
namespace Go.Proofs.YtdeedofmflelfaaGreatDoor
open Go.RowKit RQ
set_option linter.unusedVariables false
set_option maxRecDepth 100000 in
set_option maxHeartbeats 4000000 in
theorem ad2_cat (x:Fe) (cb j b6 b5 b3 u gs m:Nat) (Ls:List Cl) (c:Cl) (s:ByteArray) (w0 w:World) (B oL oE:List GBk) (rs:List GRd) (S0:St w0 w (((cb,(clC.all Ls).toArray,56)::B)++(oL++oE)) rs) (hj:Ls[j]?=some c) (h6:(b6,#[.func (.func 87) #[] #[.pointer (some ⟨gs,0,none⟩)]],27)∈B) (h3:(b3,#[.pointer (some ⟨cb,j*4,none⟩)],89)∈B) (hgs:(gs,#[.map (some m)],115)∈B) (hM:MapS w m x.mi.L) (hoL:OBt oL c.lv) (hoE:OBc w0 rs oE c.ce) (hs:s.size≤300) (hx:LtF x) (hl:c.lv.L.length≤32) (he:c.ce.L.length≤2000) (hk:(x.k==1)=false) (h5:(b5,#[.func (.func 143) #[] #[.pointer (some ⟨u,0,none⟩)]],124)∈B) (hu:(u,#[.pointer (some ⟨cb,j*4,none⟩)],89)∈B) (hin:inB s x.mi.L=false):Calls Tryz.prog 101 #[.string s,.pointer (some ⟨b6,0,none⟩),.pointer (some ⟨b5,0,none⟩),.pointer (some ⟨b3,0,none⟩)] w fun e w'=>e=.returned (.int .i64 (addX x c.lv.L s).1)∧∃ (c':Cl) (oL' oE':List GBk) (rs':List GRd),St w0 w' (((cb,(clC.all (Ls.set j c')).toArray,56)::B)++(oL'++oE')) rs'∧SubR rs rs'∧OBt oL' c'.lv∧OBc w0 rs' oE' c'.ce∧c'.n=c.n∧c'.k=c.k∧c'.lv.L=(addX x c.lv.L s).2.1∧c'.ce.L.map Ce.cx=c.ce.L.map Ce.cx++[(addX x c.lv.L s).2.2]∧MK w w':=by
 have hMi:Hid (∀ W,SetAt W gs x.mi.L→Calls Tryz.prog 87 #[.string s,.pointer (some ⟨gs,0,none⟩)] W fun e w'=>e=.returned (.bool (inB s x.mi.L))∧w'=W):=Lib.hid fun W h=>oneOf1_any x.mi.L s gs W h (by omega)
 have S1:St w0 _ ((w.heap.size,#[.bool true,.bool false,.slice none 0 0,.slice none 0 0,.int .i64 0],58)::(cb,(clC.all Ls).toArray,56)::(B++(oL++oE))) rs:=St.allocAt (bs:=(cb,(clC.all Ls).toArray,56)::(B++(oL++oE))) S0 w.heap.size #[.bool true,.bool false,.slice none 0 0,.slice none 0 0,.int .i64 0] 58 (noLof rfl) rfl
 have hm:=Lib.hid ((MK.refl w).alloc (.cells #[.bool true,.bool false,.slice none 0 0,.slice none 0 0,.int .i64 0] 58))
 replace h6:=Lib.hid h6
 replace h3:=Lib.hid h3
 replace hgs:=Lib.hid hgs
 replace hj:=Lib.hid hj
 replace hoL:=Lib.hid hoL
 replace hoE:=Lib.hid hoE
 have hee:=Lib.hid he
 have hset:=Lib.hid (show SetAt _ gs x.mi.L from ⟨m,(S1.bk _ (List.mem_cons_of_mem _ (List.mem_cons_of_mem _ (List.mem_append_left _ hgs.out)))).1,hM.mk hm.out⟩)
 have e6:=(S1.bk _ (List.mem_cons_of_mem _ (List.mem_cons_of_mem _ (List.mem_append_left _ h6.out)))).1.cell (i:=0) rfl
 obtain⟨ax,hax0⟩:∃ z,z=addX x c.lv.L s:=⟨_,rfl⟩
 rw[←hax0]
 replace hax0:=Lib.hid hax0
 rw[hin] at hMi
 obtain⟨lx,hlx⟩:∃ z,levX c.lv.L s=z:=⟨_,rfl⟩
 have hN:Hid (∀ W,St w0 W ((w.heap.size,#[.bool true,.bool false,.slice none 0 0,.slice none 0 0,.int .i64 0],58)::(cb,(clC.all Ls).toArray,56)::(B++(oL++oE))) rs→Calls Tryz.prog 143 #[.string s,.pointer (some ⟨u,0,none⟩)] W fun e w'=>e=.returned (.tuple #[.agg #[.bool false,.bool false,.slice none 0 0,.slice none 0 0,.int .i64 lx.2.2],.int .i64 lx.1])∧∃ (l:Sl ByteArray) (ob':List GBk),St w0 w' (((cb,(clC.all (Ls.set j ⟨c.n,c.k,l,c.ce⟩)).toArray,56)::((w.heap.size,#[.bool true,.bool false,.slice none 0 0,.slice none 0 0,.int .i64 0],58)::(B++oE)))++ob') rs∧OBt ob' l∧l.L=lx.2.1∧MK W w'):=Lib.hid fun W hS=>by
  have:=lr1_any cb j u Ls c s w0 W ((w.heap.size,#[.bool true,.bool false,.slice none 0 0,.slice none 0 0,.int .i64 0],58)::(B++oE)) oL rs (hS.prm (perm1 _ _ B oL oE)) hj.out (List.mem_cons_of_mem _ (List.mem_append_left _ hu)) hoL.out (by omega) hl
  rw[hlx] at this
  exact this
 replace h5:=Lib.hid h5
 clear hu
 replace S1:=Lib.hid S1
 clear S0 hM hs hx he hl
 go_enter Tryz.func101,Tryz.ntmps101
 have hax:addX x c.lv.L s=(lx.1,lx.2.1,false,false,[],[],lx.2.2):=by unfold addX;rw[hin,if_neg (by simp),if_neg (by rw[hk];simp),hlx]
 have hax2:=hax0.out.trans hax
 clear hax hax0 hin hk hlx
 subst hax2
 go_wp2_with fail
 refine (hMi.out _ hset.out).mono ?_
 rintro e w1 ⟨rfl,rfl⟩
 clear hMi hset e6
 have e5:=(S1.out.bk _ (List.mem_cons_of_mem _ (List.mem_cons_of_mem _ (List.mem_append_left _ h5.out)))).1.cell (i:=0) rfl
 go_wp2_with fail
 refine (hN.out _ S1.out).mono ?_
 rintro e w2 ⟨rfl,l,ob',T,hol,hll,hm'⟩
 have hm1:=Lib.hid (hm.out.trans hm')
 clear S1 hm hm' e5 hN
 obtain⟨c1,hc1⟩:∃ z:Cl,z=⟨c.n,c.k,l,c.ce⟩:=⟨_,rfl⟩
 obtain⟨Ls1,hLs1⟩:∃ z,z=Ls.set j c1:=⟨_,rfl⟩
 have S1:=Lib.hid (St.cast (bs':=(w.heap.size,#[.bool true,.bool false,.slice none 0 0,.slice none 0 0,.int .i64 0],58)::(cb,(clC.all Ls1).toArray,56)::(B++(ob'++oE))) (T.prm (perm2 _ _ B ob' oE)) (by subst hLs1;subst hc1;rfl))
 have hj1:=Lib.hid (show Ls1[j]?=some c1 from by rw[hLs1];exact List.getElem?_set_self (List.getElem?_eq_some_iff.1 hj.out).1)
 have hn1:=Lib.hid (show c1.n=c.n from by rw[hc1])
 have hk1:=Lib.hid (show c1.k=c.k from by rw[hc1])
 have hl1:=Lib.hid (show c1.lv.L=lx.2.1 from by rw[hc1];exact hll)
 have he1:=Lib.hid (show c1.ce.L=c.ce.L from by rw[hc1])
 have hol1:=Lib.hid (show OBt ob' c1.lv from by rw[hc1];exact hol)
 have hoe1:=Lib.hid (show OBc w0 rs oE c1.ce from by rw[hc1];exact hoE.out)
 have hee1:=Lib.hid (show c1.ce.L.length≤2000 from by rw[hc1];exact hee.out)
 replace hLs1:=Lib.hid hLs1
 clear T hol hll hc1
 have qc0:=S1.out.cl 0 0 rfl rfl
 have qf0:=S1.out.f 0 0 rfl
 have qc1:=S1.out.cl 0 1 rfl rfl
 have qf1:=S1.out.f 0 1 rfl
 have qc2:=S1.out.cl 0 2 rfl rfl
 have qf2:=S1.out.f 0 2 rfl
 have qc3:=S1.out.cl 0 3 rfl rfl
 have qf3:=S1.out.f 0 3 rfl
 have qc4:=S1.out.cl 0 4 rfl rfl
 have qf4:=S1.out.f 0 4 rfl
 have S2:=(((((S1.out.set 0 0 (.bool false) rfl (by nofun)).set 0 1 (.bool false) rfl (by nofun)).set 0 2 (.slice none 0 0) rfl (by nofun)).set 0 3 (.slice none 0 0) rfl (by nofun)).set 0 4 (.int .i64 lx.2.2) rfl (by nofun))
 have hm2:=Lib.hid (((((hm1.out.set (S1.out.cb 0 rfl) 0 (.bool false)).set ((S1.out.cb 0 rfl).set 0 (.bool false)) 1 (.bool false)).set (((S1.out.cb 0 rfl).set 0 (.bool false)).set 1 (.bool false)) 2 (.slice none 0 0)).set ((((S1.out.cb 0 rfl).set 0 (.bool false)).set 1 (.bool false)).set 2 (.slice none 0 0)) 3 (.slice none 0 0)).set (((((S1.out.cb 0 rfl).set 0 (.bool false)).set 1 (.bool false)).set 2 (.slice none 0 0)).set 3 (.slice none 0 0)) 4 (.int .i64 lx.2.2))
 go_upto_region 4 with fail
 clear S1 hm1 qc0 qf0 qc1 qf1 qc2 qf2 qc3 qf3 qc4 qf4
 obtain⟨y,hy⟩:∃ y:Ce,y=⟨false,⟨false,Nl0,Nl0⟩,lx.2.2⟩:=⟨_,rfl⟩
 obtain⟨gv,hgv⟩:∃ g,g=w.heap.size:=⟨_,rfl⟩
 generalize hW:(World.setCell _ _ _)=w4 at S2 hm2 ⊢
 clear hW
 have S3:=St.cast (bs':=(gv,#[.bool y.m,.bool y.v.b,.slice y.v.x.A y.v.x.n y.v.x.c,.slice y.v.y.A y.v.y.n y.v.y.c,.int .i64 y.l],58)::(cb,(clC.all Ls1).toArray,56)::(B++(ob'++oE))) S2 (by subst hy;subst hgv;rfl)
 rw[←hgv]
 have hyc:=Lib.hid (show y.cx=(false,false,[],[],lx.2.2) by rw[hy];rfl)
 have hin:=Lib.hid (show ceC.In w0 [] rs y from by rw[hy];exact ce_in.2 ⟨.inr (Rd.nil_ _ _ _),.inr (Rd.nil_ _ _ _)⟩)
 clear S2 hy hgv
 have S:=Lib.hid S3
 have hm:=hm2
 clear S3 hm2
 have hbase:=Lib.hid (St.new w4)
 refine RW.begin (Z:=[]) (S:=(fun W=>Cb W b3 #[.pointer (some ⟨cb,j*4,none⟩)] 89∧Cb W gv #[.bool y.m,.bool y.v.b,.slice y.v.x.A y.v.x.n y.v.x.c,.slice y.v.y.A y.v.y.n y.v.y.c,.int .i64 y.l] 58)) (by kernel_rfl) ?_ hbase.out ?_
 ·exact⟨by kernel_rfl,zis_nil,by decide,by decide,nol_nil,(fun _ _ h=>⟨((S.out.bk _ (List.mem_cons_of_mem _ (List.mem_cons_of_mem _ (List.mem_append_left _ h3.out)))).1).bel h.bel,(S.out.cb 0 rfl).bel h.bel⟩)⟩
 intro hzk
 refine RW.t (i:=0) (v:=.pointer (some ⟨cb,j*4,none⟩)) (some 19) at0 (hy:=fun W hS=>by (have k0:=Cb.cell (i:=0) hS.1 rfl;clear hS;go_simp)) (h:=?_)
 refine RW.t (i:=1) (v:=.pointer (some ⟨cb,j*4,none⟩)) (some 20) at1 (hy:=fun W hS=>by (have k0:=Cb.cell (i:=0) hS.1 rfl;clear hS;go_simp)) (h:=?_)
 refine RW.t (i:=2) (v:=.pointer (some ⟨cb,j*4,none⟩)) (some 21) at2 (hy:=fun _ _=>by kernel_rfl) (h:=?_)
 refine RW.t (i:=3) (v:=.pointer (some ⟨cb,j*4+3,none⟩)) (some 22) at3 (hy:=fun _ _=>by kernel_rfl) (h:=?_)
 refine RW.t (i:=5) (v:=.agg #[.bool y.m,.bool y.v.b,.slice y.v.x.A y.v.x.n y.v.x.c,.slice y.v.y.A y.v.y.n y.v.y.c,.int .i64 y.l]) (some 24) at5 (hy:=fun W hS=>by (have k0:=Cb.cell (i:=0) hS.2 rfl;have k1:=Cb.cell (i:=1) hS.2 rfl;have k2:=Cb.cell (i:=2) hS.2 rfl;have k3:=Cb.cell (i:=3) hS.2 rfl;have k4:=Cb.cell (i:=4) hS.2 rfl;clear hS;go_simp)) (h:=?_)
 refine RW.tail hzk.out (by kernel_rfl) ?_
 intro gs' w5 hgs' hS Sb
 obtain rfl:=len0 hgs'
 simp only[mark,fill,Act.put,List.setIfInBounds_toArray,List.set_cons_zero,List.set_cons_succ]
 have T:=Lib.hid (S.out.call Sb.bel)
 have hmT:=Lib.hid (hm.out.bel Sb.bel)
 clear S hm Sb hS hgs' hzk hbase
 have S:=T
 have hm:=hmT
 clear T hmT
 refine Wk.two (i:=4) (j:=6) at4 at6 (by kernel_rfl) (fun K' hK=>?_) (fun K' hK=>?_)
 ·
  have qv:World.cell? _ ⟨cb,j*4+3,none⟩=some (.slice c1.ce.A c1.ce.L.length c1.ce.c):=St_elm S.out (C:=clC) 1 rfl hj1.out 3 rfl
  go_simp
  refine hK.out _ _ ⟨(S.out.bk _ (List.mem_cons_of_mem _ (List.mem_cons_of_mem _ (List.mem_append_left _ h3.out)))).1,S.out.cb 0 rfl⟩ ?_
  clear qv
  clear hK K'
  try simp only[Act.put,List.setIfInBounds_toArray,List.set_cons_zero,List.set_cons_succ]
  refine Wk.o (i:=6) at6 (by kernel_rfl) fun K' hK=>?_
  go_simp
  have T:=Lib.hid (S.out.alloc #[.bool y.m,.bool y.v.b,.slice y.v.x.A y.v.x.n y.v.x.c,.slice y.v.y.A y.v.y.n y.v.y.c,.int .i64 y.l] 58 (noLof rfl))
  have hmT:=Lib.hid (hm.out.alloc (.cells #[.bool y.m,.bool y.v.b,.slice y.v.x.A y.v.x.n y.v.x.c,.slice y.v.y.A y.v.y.n y.v.y.c,.int .i64 y.l] 58))
  clear S hm
  have S:=T
  have hm:=hmT
  clear T hmT
  refine hK.out _ _ ⟨(S.out.bk _ (List.mem_cons_of_mem _ (List.mem_cons_of_mem _ (List.mem_cons_of_mem _ (List.mem_append_left _ h3.out))))).1,S.out.cb 1 rfl⟩ ?_
  clear hK K'
  try simp only[Act.put,List.setIfInBounds_toArray,List.set_cons_zero,List.set_cons_succ]
  refine Wk.o (i:=7) at7 (by kernel_rfl) fun K' hK=>?_
  have GR:=OBc.gro (bs:=(_,#[.bool y.m,.bool y.v.b,.slice y.v.x.A y.v.x.n y.v.x.c,.slice y.v.y.A y.v.y.n y.v.y.c,.int .i64 y.l],58)::(gv,#[.bool y.m,.bool y.v.b,.slice y.v.x.A y.v.x.n y.v.x.c,.slice y.v.y.A y.v.y.n y.v.y.c,.int .i64 y.l],58)::(cb,(clC.all Ls1).toArray,56)::(B++ob')) hoe1.out (S.out.prm (by show List.Perm (_::_::_::(B++(ob'++oE))) (_::_::_::((B++ob')++oE));rw[List.append_assoc]))
  have hcl:=GR.st.cb 0 rfl
  refine Gro.op (.tmp 23) (.tmp 25) 54 rfl (.agg Ce0.vs) 72 Tryz.underlying54 (by kernel_rfl) rfl (fun v hv z e=>by simp[Value.cells,Ce0,Nl0] at hv;subst e;simp at hv) rfl GR _ y rfl hcl (ce_in.2 (ce_in.1 hin.out)) (by have:=hee1.out;omega) (by have:=hee1.out;unfold maxLen;omega) ?_
  intro v' w6 GR' hm'
  clear GR hcl
  obtain⟨l',oE',rfl,hlL,hoE',S'⟩:=GR'.opc
  have hmT:=Lib.hid (hm.out.trans hm')
  clear S hm hm' GR'
  have S:=Lib.hid (show St w0 w6 ((_,#[.bool y.m,.bool y.v.b,.slice y.v.x.A y.v.x.n y.v.x.c,.slice y.v.y.A y.v.y.n y.v.y.c,.int .i64 y.l],58)::(gv,#[.bool y.m,.bool y.v.b,.slice y.v.x.A y.v.x.n y.v.x.c,.slice y.v.y.A y.v.y.n y.v.y.c,.int .i64 y.l],58)::(cb,(clC.all Ls1).toArray,56)::(B++(ob'++oE'))) rs from S'.prm (by show List.Perm (_::_::_::((B++ob')++oE')) (_::_::_::(B++(ob'++oE')));rw[List.append_assoc]))
  have hm:=hmT
  clear S' hmT
  replace hlL:=Lib.hid hlL
  replace hoE':=Lib.hid hoE'
  refine hK.out _ _ ⟨(S.out.bk _ (List.mem_cons_of_mem _ (List.mem_cons_of_mem _ (List.mem_cons_of_mem _ (List.mem_append_left _ h3.out))))).1,S.out.cb 1 rfl⟩ ?_
  clear hK K'
  try simp only[Act.put,List.setIfInBounds_toArray,List.set_cons_zero,List.set_cons_succ]
  refine Wk.o (i:=8) at8 (by kernel_rfl) fun K' hK=>?_
  go_simp
  refine hK.out _ _ ⟨(S.out.bk _ (List.mem_cons_of_mem _ (List.mem_cons_of_mem _ (List.mem_cons_of_mem _ (List.mem_append_left _ h3.out))))).1,S.out.cb 1 rfl⟩ ?_
  clear hK K'
  try simp only[Act.put,List.setIfInBounds_toArray,List.set_cons_zero,List.set_cons_succ]
  refine Wk.o (i:=9) at9 (by kernel_rfl) fun K' hK=>?_
  go_simp
  refine hK.out _ _ ⟨(S.out.bk _ (List.mem_cons_of_mem _ (List.mem_cons_of_mem _ (List.mem_cons_of_mem _ (List.mem_append_left _ h3.out))))).1,S.out.cb 1 rfl⟩ ?_
  clear hK K'
  try simp only[Act.put,List.setIfInBounds_toArray,List.set_cons_zero,List.set_cons_succ]
  refine Wk.o (i:=10) at10 (by kernel_rfl) fun K' hK=>?_
  have qv:World.cell? _ ⟨cb,j*4+3,none⟩=some (.slice c1.ce.A c1.ce.L.length c1.ce.c):=St_elm S.out (C:=clC) 2 rfl hj1.out 3 rfl
  have qf:World.frozen? _ ⟨cb,j*4+3,none⟩=false:=S.out.f 2 _ rfl
  unfold Sl.v
  go_simp
  have T:=Lib.hid (St_set3 S.out hj1.out l')
  have hmT:=Lib.hid (hm.out.set (S.out.cb 2 rfl) (j*4+3) (.slice l'.A l'.L.length l'.c))
  clear S hm qv qf
  have S:=T
  have hm:=hmT
  clear T hmT
  refine hK.out _ _ ⟨(S.out.bk _ (List.mem_cons_of_mem _ (List.mem_cons_of_mem _ (List.mem_cons_of_mem _ (List.mem_append_left _ h3.out))))).1,S.out.cb 1 rfl⟩ ?_
  clear hK K'
  try simp only[Act.put,List.setIfInBounds_toArray,List.set_cons_zero,List.set_cons_succ]
  refine Wk.done (by kernel_rfl) ?_
  go_simp
  clear hj h6 hgs
  go_wp2
  go_ret
  refine⟨rfl,⟨c1.n,c1.k,c1.lv,l'⟩,ob',oE',rs,?_,fun _ h=>h,hol1.out,hoE'.out,hn1.out,hk1.out,hl1.out,?_,hm.out⟩
  ·have:=S.out.sub2.sub2
   rw[hLs1.out,List.set_set] at this;exact this
  ·show l'.L.map Ce.cx=_
   rw[hlL.out,List.map_append]
   rw[he1.out,List.map_cons,List.map_nil,hyc.out]
 ·
  go_simp
  have T:=Lib.hid (S.out.alloc #[.bool y.m,.bool y.v.b,.slice y.v.x.A y.v.x.n y.v.x.c,.slice y.v.y.A y.v.y.n y.v.y.c,.int .i64 y.l] 58 (noLof rfl))
  have hmT:=Lib.hid (hm.out.alloc (.cells #[.bool y.m,.bool y.v.b,.slice y.v.x.A y.v.x.n y.v.x.c,.slice y.v.y.A y.v.y.n y.v.y.c,.int .i64 y.l] 58))
  clear S hm
  have S:=T
  have hm:=hmT
  clear T hmT
  refine hK.out _ _ ⟨(S.out.bk _ (List.mem_cons_of_mem _ (List.mem_cons_of_mem _ (List.mem_cons_of_mem _ (List.mem_append_left _ h3.out))))).1,S.out.cb 1 rfl⟩ ?_
  clear hK K'
  try simp only[Act.put,List.setIfInBounds_toArray,List.set_cons_zero,List.set_cons_succ]
  refine Wk.o (i:=4) at4 (by kernel_rfl) fun K' hK=>?_
  have qv:World.cell? _ ⟨cb,j*4+3,none⟩=some (.slice c1.ce.A c1.ce.L.length c1.ce.c):=St_elm S.out (C:=clC) 2 rfl hj1.out 3 rfl
  go_simp
  refine hK.out _ _ ⟨(S.out.bk _ (List.mem_cons_of_mem _ (List.mem_cons_of_mem _ (List.mem_cons_of_mem _ (List.mem_append_left _ h3.out))))).1,S.out.cb 1 rfl⟩ ?_
  clear qv
  clear hK K'
  try simp only[Act.put,List.setIfInBounds_toArray,List.set_cons_zero,List.set_cons_succ]
  refine Wk.o (i:=7) at7 (by kernel_rfl) fun K' hK=>?_
  have GR:=OBc.gro (bs:=(_,#[.bool y.m,.bool y.v.b,.slice y.v.x.A y.v.x.n y.v.x.c,.slice y.v.y.A y.v.y.n y.v.y.c,.int .i64 y.l],58)::(gv,#[.bool y.m,.bool y.v.b,.slice y.v.x.A y.v.x.n y.v.x.c,.slice y.v.y.A y.v.y.n y.v.y.c,.int .i64 y.l],58)::(cb,(clC.all Ls1).toArray,56)::(B++ob')) hoe1.out (S.out.prm (by show List.Perm (_::_::_::(B++(ob'++oE))) (_::_::_::((B++ob')++oE));rw[List.append_assoc]))
  have hcl:=GR.st.cb 0 rfl
  refine Gro.op (.tmp 23) (.tmp 25) 54 rfl (.agg Ce0.vs) 72 Tryz.underlying54 (by kernel_rfl) rfl (fun v hv z e=>by simp[Value.cells,Ce0,Nl0] at hv;subst e;simp at hv) rfl GR _ y rfl hcl (ce_in.2 (ce_in.1 hin.out)) (by have:=hee1.out;omega) (by have:=hee1.out;unfold maxLen;omega) ?_
  intro v' w6 GR' hm'
  clear GR hcl
  obtain⟨l',oE',rfl,hlL,hoE',S'⟩:=GR'.opc
  have hmT:=Lib.hid (hm.out.trans hm')
  clear S hm hm' GR'
  have S:=Lib.hid (show St w0 w6 ((_,#[.bool y.m,.bool y.v.b,.slice y.v.x.A y.v.x.n y.v.x.c,.slice y.v.y.A y.v.y.n y.v.y.c,.int .i64 y.l],58)::(gv,#[.bool y.m,.bool y.v.b,.slice y.v.x.A y.v.x.n y.v.x.c,.slice y.v.y.A y.v.y.n y.v.y.c,.int .i64 y.l],58)::(cb,(clC.all Ls1).toArray,56)::(B++(ob'++oE'))) rs from S'.prm (by show List.Perm (_::_::_::((B++ob')++oE')) (_::_::_::(B++(ob'++oE')));rw[List.append_assoc]))
  have hm:=hmT
  clear S' hmT
  replace hlL:=Lib.hid hlL
  replace hoE':=Lib.hid hoE'
  refine hK.out _ _ ⟨(S.out.bk _ (List.mem_cons_of_mem _ (List.mem_cons_of_mem _ (List.mem_cons_of_mem _ (List.mem_append_left _ h3.out))))).1,S.out.cb 1 rfl⟩ ?_
  clear hK K'
  try simp only[Act.put,List.setIfInBounds_toArray,List.set_cons_zero,List.set_cons_succ]
  refine Wk.o (i:=8) at8 (by kernel_rfl) fun K' hK=>?_
  go_simp
  refine hK.out _ _ ⟨(S.out.bk _ (List.mem_cons_of_mem _ (List.mem_cons_of_mem _ (List.mem_cons_of_mem _ (List.mem_append_left _ h3.out))))).1,S.out.cb 1 rfl⟩ ?_
  clear hK K'
  try simp only[Act.put,List.setIfInBounds_toArray,List.set_cons_zero,List.set_cons_succ]
  refine Wk.o (i:=9) at9 (by kernel_rfl) fun K' hK=>?_
  go_simp
  refine hK.out _ _ ⟨(S.out.bk _ (List.mem_cons_of_mem _ (List.mem_cons_of_mem _ (List.mem_cons_of_mem _ (List.mem_append_left _ h3.out))))).1,S.out.cb 1 rfl⟩ ?_
  clear hK K'
  try simp only[Act.put,List.setIfInBounds_toArray,List.set_cons_zero,List.set_cons_succ]
  refine Wk.o (i:=10) at10 (by kernel_rfl) fun K' hK=>?_
  have qv:World.cell? _ ⟨cb,j*4+3,none⟩=some (.slice c1.ce.A c1.ce.L.length c1.ce.c):=St_elm S.out (C:=clC) 2 rfl hj1.out 3 rfl
  have qf:World.frozen? _ ⟨cb,j*4+3,none⟩=false:=S.out.f 2 _ rfl
  unfold Sl.v
  go_simp
  have T:=Lib.hid (St_set3 S.out hj1.out l')
  have hmT:=Lib.hid (hm.out.set (S.out.cb 2 rfl) (j*4+3) (.slice l'.A l'.L.length l'.c))
  clear S hm qv qf
  have S:=T
  have hm:=hmT
  clear T hmT
  refine hK.out _ _ ⟨(S.out.bk _ (List.mem_cons_of_mem _ (List.mem_cons_of_mem _ (List.mem_cons_of_mem _ (List.mem_append_left _ h3.out))))).1,S.out.cb 1 rfl⟩ ?_
  clear hK K'
  try simp only[Act.put,List.setIfInBounds_toArray,List.set_cons_zero,List.set_cons_succ]
  refine Wk.done (by kernel_rfl) ?_
  go_simp
  clear hj h6 hgs
  go_wp2
  go_ret
  refine⟨rfl,⟨c1.n,c1.k,c1.lv,l'⟩,ob',oE',rs,?_,fun _ h=>h,hol1.out,hoE'.out,hn1.out,hk1.out,hl1.out,?_,hm.out⟩
  ·have:=S.out.sub2.sub2
   rw[hLs1.out,List.set_set] at this;exact this
  ·show l'.L.map Ce.cx=_
   rw[hlL.out,List.map_append]
   rw[he1.out,List.map_cons,List.map_nil,hyc.out]
end Go.Proofs.YtdeedofmflelfaaGreatDoor

namespace Go.Proofs.YtdeedofmflelfaaGreatDoor
open Go.RowKit RQ
set_option linter.unusedVariables false
/-- What a column holds while it is built: levels and cells. -/
abbrev Ct:=List ByteArray×List Cx
def skipF (x:Fe):Bool:=!(x.k==1) && !(x.k==2)
/-- What a record adds: the error, and what the columns hold then. -/
def rowX:List Fe→List ByteArray→List Ct→Int×List Ct
 | x::L,s::r,c::st=>
  if skipF x then ((rowX L r st).1,c::(rowX L r st).2)
  else if (addX x c.1 s).1=0 then ((rowX L r st).1,((addX x c.1 s).2.1,c.2++[(addX x c.1 s).2.2])::(rowX L r st).2)
  else ((addX x c.1 s).1,[])
 | _,_,st=>(0,st)
/-- A column that is being built, with the blocks of its levels and of its cells. -/
structure Kc where
 c:Cl
 oL:List GBk
 oE:List GBk
def Kc.ct (k:Kc):Ct:=(k.c.lv.L,k.c.ce.L.map Ce.cx)
def Kc.nk (k:Kc):ByteArray×Int:=(k.c.n,k.c.k)
def Kbk (K:List Kc):List GBk:=K.flatMap fun k=>k.oL++k.oE
structure KS (w0 W:World) (cb:Nat) (F:List GBk) (K:List Kc) (rs:List GRd):Prop where
 s:St w0 W ((cb,(clC.all (K.map Kc.c)).toArray,56)::(F++Kbk K)) rs
 t:∀ k∈K,OBt k.oL k.c.lv
 e:∀ k∈K,OBc w0 rs k.oE k.c.ce
theorem split_at {α:Type} {K:List α} {j:Nat} {k:α} (h:K[j]?=some k):K=K.take j++k::K.drop (j+1):=by
 have hl:=(List.getElem?_eq_some_iff.1 h).1
 have he:=(List.getElem?_eq_some_iff.1 h).2
 rw[←he,←List.drop_eq_getElem_cons hl,List.take_append_drop]
theorem set_split {α:Type} {K:List α} {j:Nat} {k:α} (h:j<K.length):K.set j k=K.take j++k::K.drop (j+1):=by
 rw[List.set_eq_take_append_cons_drop,if_pos h]
/-- One column taken out, and put back. -/
theorem KS.at_ {w0 W:World} {cb:Nat} {F:List GBk} {K:List Kc} {rs:List GRd} (h:KS w0 W cb F K rs) {j:Nat} {k:Kc} (hk:K[j]?=some k) :
  ∃ B,(∀ p∈F,p∈B)∧St w0 W (((cb,(clC.all (K.map Kc.c)).toArray,56)::B)++(k.oL++k.oE)) rs∧(K.map Kc.c)[j]?=some k.c ∧
   ∀ W' (c':Cl) (oL' oE':List GBk) rs',St w0 W' (((cb,(clC.all ((K.map Kc.c).set j c')).toArray,56)::B)++(oL'++oE')) rs'→SubR rs rs'→OBt oL' c'.lv→OBc w0 rs' oE' c'.ce→KS w0 W' cb F (K.set j ⟨c',oL',oE'⟩) rs':=by
 have hl:=(List.getElem?_eq_some_iff.1 hk).1
 have perm:∀ (X:List GBk),(F++(Kbk (K.take j)++(X++Kbk (K.drop (j+1))))).Perm ((F++(Kbk (K.take j)++Kbk (K.drop (j+1))))++X):=fun X=>by
  rw[List.append_assoc]
  refine List.Perm.append_left F ?_
  rw[List.append_assoc]
  exact List.Perm.append_left _ List.perm_append_comm
 have hb:Kbk K=Kbk (K.take j)++((k.oL++k.oE)++Kbk (K.drop (j+1))):=by
  have e:=congrArg Kbk (split_at hk)
  rw[e]
  show List.flatMap _ (_++_::_)=_
  rw[List.flatMap_append,List.flatMap_cons];rfl
 refine⟨F++(Kbk (K.take j)++Kbk (K.drop (j+1))),fun p hp=>List.mem_append_left _ hp,?_,by rw[List.getElem?_map,hk];rfl,fun W' c' oL' oE' rs' S' hs ht he=>⟨?_,?_,?_⟩⟩
 ·refine h.s.prm ?_
  rw[hb]
  exact (perm _).cons _
 ·have hb':Kbk (K.set j ⟨c',oL',oE'⟩)=Kbk (K.take j)++((oL'++oE')++Kbk (K.drop (j+1))):=by
   rw[set_split hl]
   show List.flatMap _ (_++_::_)=_
   rw[List.flatMap_append,List.flatMap_cons];rfl
  rw[hb',List.map_set]
  exact S'.prm ((perm _).cons _).symm
 ·intro y hy
  rcases List.mem_or_eq_of_mem_set hy with hy | rfl
  ·exact h.t y hy
  ·exact ht
 ·intro y hy
  rcases List.mem_or_eq_of_mem_set hy with hy | rfl
  ·exact (h.e y hy).mono hs
  ·exact he
theorem drop_at {α:Type} {K:List α} {j:Nat} {k:α} (h:K[j]?=some k):K.drop j=k::K.drop (j+1):=by
 have hl:=(List.getElem?_eq_some_iff.1 h).1
 have he:=(List.getElem?_eq_some_iff.1 h).2
 rw[←he,←List.drop_eq_getElem_cons hl]
/-- How far a record has been added. -/
def RowI (L:List Fe) (r:List ByteArray) (st0:List Ct) (j:Nat) (st:List Ct):Prop:=
 (rowX L r st0).1=(rowX (L.drop j) (r.drop j) (st.drop j)).1∧((rowX L r st0).1=0→(rowX L r st0).2=st.take j++(rowX (L.drop j) (r.drop j) (st.drop j)).2)
theorem RowI.zero (L:List Fe) (r:List ByteArray) (st:List Ct):RowI L r st 0 st:=⟨rfl,fun _=>by simp⟩
theorem RowI.skip {L:List Fe} {r:List ByteArray} {st0 st:List Ct} {j:Nat} {x:Fe} {s:ByteArray} {c:Ct} (h:RowI L r st0 j st) (hx:L[j]?=some x) (hs:r[j]?=some s) (hc:st[j]?=some c) (hk:skipF x=true):RowI L r st0 (j+1) st:=by
 obtain⟨h1,h2⟩:=h
 rw[drop_at hx,drop_at hs,drop_at hc,rowX,if_pos hk] at h1 h2
 refine⟨h1,fun h0=>?_⟩
 rw[h2 h0,take_snoc hc];simp
theorem RowI.step {L:List Fe} {r:List ByteArray} {st0 st:List Ct} {j:Nat} {x:Fe} {s:ByteArray} {c:Ct} (h:RowI L r st0 j st) (hx:L[j]?=some x) (hs:r[j]?=some s) (hc:st[j]?=some c) (hk:skipF x=false) (he:(addX x c.1 s).1=0):RowI L r st0 (j+1) (st.set j ((addX x c.1 s).2.1,c.2++[(addX x c.1 s).2.2])):=by
 obtain⟨h1,h2⟩:=h
 have hl:=(List.getElem?_eq_some_iff.1 hc).1
 rw[drop_at hx,drop_at hs,drop_at hc,rowX,if_neg (by rw[hk];simp),if_pos he] at h1 h2
 have e1:(st.set j ((addX x c.1 s).2.1,c.2++[(addX x c.1 s).2.2])).drop (j+1)=st.drop (j+1):=by rw[List.drop_set_of_lt (by omega)]
 have e2:(st.set j ((addX x c.1 s).2.1,c.2++[(addX x c.1 s).2.2])).take (j+1)=st.take j++[((addX x c.1 s).2.1,c.2++[(addX x c.1 s).2.2])]:=by
  rw[List.take_add_one,List.getElem?_set_self hl,List.take_set_of_le (Nat.le_refl _)];rfl
 refine⟨by rw[e1];exact h1,fun h0=>?_⟩
 rw[h2 h0,e1,e2];simp
theorem RowI.stop {L:List Fe} {r:List ByteArray} {st0 st:List Ct} {j:Nat} {x:Fe} {s:ByteArray} {c:Ct} (h:RowI L r st0 j st) (hx:L[j]?=some x) (hs:r[j]?=some s) (hc:st[j]?=some c) (hk:skipF x=false) (he:¬ (addX x c.1 s).1=0):(rowX L r st0).1=(addX x c.1 s).1:=by
 obtain⟨h1,h2⟩:=h
 rw[drop_at hx,drop_at hs,drop_at hc,rowX,if_neg (by rw[hk];simp),if_neg he] at h1
 exact h1
theorem RowI.fin {L:List Fe} {r:List ByteArray} {st0 st:List Ct} {j:Nat} (h:RowI L r st0 j st) (hL:L.length=j):rowX L r st0=(0,st):=by
 obtain⟨h1,h2⟩:=h
 rw[List.drop_eq_nil_of_le (by omega)] at h1 h2
 have h3:(rowX L r st0).1=0:=h1
 have h4:=h2 h3
 rw[show rowX [] (r.drop j) (st.drop j)=(0,st.drop j) by unfold rowX;rfl] at h4
 rw[show (0,st.drop j).2=st.drop j from rfl,List.take_append_drop] at h4
 rw[←h3,←h4]
/-- The levels stay few. -/
theorem levX_le {L:List ByteArray} {s:ByteArray} (h:L.length≤32):(levX L s).2.1.length≤32:=by
 unfold levX
 split
 ·exact h
 ·split
  ·exact h
  ·rw[List.length_append];show L.length+1≤32;omega
theorem addX_le {x:Fe} {L:List ByteArray} {s:ByteArray} (h:L.length≤32):(addX x L s).2.1.length≤32:=by
 unfold addX
 split
 ·exact h
 ·split
  ·split<;>exact h
  ·exact levX_le h
theorem ad1_any (s:ByteArray) (w:World):Calls Tryz.prog 100 #[.string s] w fun e w'=>e=.returned (.int .i64 0)∧w'=w:=by
 go_enter Tryz.func100,Tryz.ntmps100
 go_wp2
 go_ret
 exact⟨rfl,rfl⟩
/-- What a call of one of these functions leaves. -/
def AdP (w0 w:World) (cb:Nat) (F:List GBk) (K:List Kc) (rs:List GRd) (j:Nat) (x:Fe) (k:Kc) (s:ByteArray) (e:Ending) (w':World):Prop:=
 e=.returned (.int .i64 (addX x k.c.lv.L s).1)∧∃ k' rs',KS w0 w' cb F (K.set j k') rs'∧SubR rs rs'∧k'.nk=k.nk∧k'.ct=((addX x k.c.lv.L s).2.1,k.ct.2++[(addX x k.c.lv.L s).2.2])∧MK w w'
theorem ad_call {w0 w:World} {cb j:Nat} {F:List GBk} {K:List Kc} {rs:List GRd} {k:Kc} {x:Fe} {v:Value} (s:ByteArray) (hS:KS w0 w cb F K rs) (hk:K[j]?=some k) (hA:AdIn w F v x cb (j*4)) (hx:LtF x) (R1:Rd w0 x.u.x.A x.u.x.n x.u.x.c x.u.x.x) (R2:Rd w0 x.u.y.A x.u.y.n x.u.y.c x.u.y.x) (hs:s.size≤300) (hl:k.c.lv.L.length≤32) (he:k.c.ce.L.length≤2000) :
  (skipF x=true∧v=.func (.func 100) #[] #[])∨(skipF x=false∧∃ b6 b5 b3,v=.func (.func 101) #[] #[.pointer (some ⟨b6,0,none⟩),.pointer (some ⟨b5,0,none⟩),.pointer (some ⟨b3,0,none⟩)]∧Calls Tryz.prog 101 #[.string s,.pointer (some ⟨b6,0,none⟩),.pointer (some ⟨b5,0,none⟩),.pointer (some ⟨b3,0,none⟩)] w (AdP w0 w cb F K rs j x k s)):=by
 obtain⟨B,hB,S,hc,put⟩:=hS.at_ hk
 have fin:∀ e w',(e=.returned (.int .i64 (addX x k.c.lv.L s).1)∧∃ (c':Cl) (oL' oE':List GBk) (rs':List GRd),St w0 w' (((cb,(clC.all ((K.map Kc.c).set j c')).toArray,56)::B)++(oL'++oE')) rs'∧SubR rs rs'∧OBt oL' c'.lv∧OBc w0 rs' oE' c'.ce∧c'.n=k.c.n∧c'.k=k.c.k∧c'.lv.L=(addX x k.c.lv.L s).2.1∧c'.ce.L.map Ce.cx=k.c.ce.L.map Ce.cx++[(addX x k.c.lv.L s).2.2]∧MK w w')→AdP w0 w cb F K rs j x k s e w':=by
  rintro e w' ⟨h1,c',oL',oE',rs',h2,h3,h4,h5,h6,h7,h8,h9,h10⟩
  exact⟨h1,⟨c',oL',oE'⟩,rs',put w' c' oL' oE' rs' h2 h3 h4 h5,h3,by unfold Kc.nk;rw[h6,h7],by unfold Kc.ct;rw[h8,h9],h10⟩
 have kt:=hS.t k (List.mem_of_getElem? hk)
 have ke:=hS.e k (List.mem_of_getElem? hk)
 rcases hA with ⟨hk1,b6,b5,b3,u,gs,m,rfl,h2,h3,h4,h5,h6,h7⟩ | ⟨hk1,b6,b5,b3,u,gs,m,rfl,h2,h3,h4,h5,h6,h7⟩ | ⟨h1,h2,rfl⟩
 ·refine .inr ⟨by unfold skipF;rw[hk1];rfl,b6,b5,b3,rfl,?_⟩
  have hk':(x.k==1)=true:=by rw[hk1];rfl
  cases hin:inB s x.mi.L
  ·cases hp:pOk s
   ·exact (ad2_no x cb j b6 b5 b3 u gs m (K.map Kc.c) k.c s w0 w B k.oL k.oE rs S hc (hB _ h2) (hB _ h4) (hB _ h6) h7 kt ke hs hx hl he hk' (hB _ h3) (hB _ h5) R1 R2 hin hp).mono fin
   ·exact (ad2_yes x cb j b6 b5 b3 u gs m (K.map Kc.c) k.c s w0 w B k.oL k.oE rs S hc (hB _ h2) (hB _ h4) (hB _ h6) h7 kt ke hs hx hl he hk' (hB _ h3) (hB _ h5) R1 R2 hin hp).mono fin
  ·exact (ad2_miss x cb j b6 b5 b3 u gs m (K.map Kc.c) k.c s w0 w B k.oL k.oE rs S hc (hB _ h2) (hB _ h4) (hB _ h6) h7 kt ke hs hx hl he hin).mono fin
 ·refine .inr ⟨by unfold skipF;rw[hk1];rfl,b6,b5,b3,rfl,?_⟩
  have hk':(x.k==1)=false:=by rw[hk1];rfl
  cases hin:inB s x.mi.L
  ·exact (ad2_cat x cb j b6 b5 b3 u gs m (K.map Kc.c) k.c s w0 w B k.oL k.oE rs S hc (hB _ h2) (hB _ h4) (hB _ h6) h7 kt ke hs hx hl he hk' (hB _ h3) (hB _ h5) hin).mono fin
  ·exact (ad2_miss x cb j b6 b5 b3 u gs m (K.map Kc.c) k.c s w0 w B k.oL k.oE rs S hc (hB _ h2) (hB _ h4) (hB _ h6) h7 kt ke hs hx hl he hin).mono fin
 ·refine .inl ⟨?_,rfl⟩
  unfold skipF
  rw[beq_eq_false_iff_ne.2 h1,beq_eq_false_iff_ne.2 h2];rfl
end Go.Proofs.YtdeedofmflelfaaGreatDoor

namespace Go.Proofs.YtdeedofmflelfaaGreatDoor
open Go.RowKit RQ
set_option linter.unusedVariables false
def BdK (K:List Kc) (i j:Nat):Prop:=∀ q k,K[q]?=some k→k.c.lv.L.length≤32∧k.c.ce.L.length≤(if q<j then i+1 else i)
theorem BdK.up {K:List Kc} {i j:Nat} (h:BdK K i j):BdK K i (j+1):=fun q k hk=>by
 obtain⟨h1,h2⟩:=h q k hk
 refine⟨h1,Nat.le_trans h2 ?_⟩
 split<;>split<;>omega
theorem BdK.set {K:List Kc} {i j:Nat} {k':Kc} (h:BdK K i j) (hj:j<K.length) (h1:k'.c.lv.L.length≤32) (h2:k'.c.ce.L.length≤i+1):BdK (K.set j k') i (j+1):=fun q k hk=>by
 by_cases e:j=q
 ·subst e
  rw[List.getElem?_set_self hj] at hk
  injection hk with hk
  subst hk
  exact⟨h1,by rw[if_pos (by omega)];exact h2⟩
 ·rw[List.getElem?_set_ne e] at hk
  exact h.up q k hk
theorem nk_set {K:List Kc} {j:Nat} {k k':Kc} (hk:K[j]?=some k) (h:k'.nk=k.nk):(K.set j k').map Kc.nk=K.map Kc.nk:=by
 rw[List.map_set,h]
 exact set_same (by rw[List.getElem?_map,hk];rfl)
theorem ct_at {K:List Kc} {j:Nat} {k:Kc} (hk:K[j]?=some k):(K.map Kc.ct)[j]?=some k.ct:=by rw[List.getElem?_map,hk];rfl
set_option maxRecDepth 100000 in
set_option maxHeartbeats 4000000 in
theorem addRecord_no (L:List Fe) (K:List Kc) (vs:List Value) (rec:List ByteArray) (ab cb n c i:Nat) (RA:Option Addr) (rn rc:Nat) (w0 w:World) (F:List GBk) (rs:List GRd) (hS:KS w0 w cb F K rs) (hL:L.length=n) (hK:K.length=n) (hab:(ab,vs.toArray,87)∈F) (hvs:vs.length=n) (hA:∀ j x,L[j]?=some x→∃ v,vs[j]?=some v∧AdIn w F v x cb (j*4)) (hf:∀ x∈L,LtF x∧Rd w0 x.u.x.A x.u.x.n x.u.x.c x.u.x.x∧Rd w0 x.u.y.A x.u.y.n x.u.y.c x.u.y.x) (hr:LR strC w0 RA rn rec) (hrs:∀ s∈rec,s.size≤300) (hb:∀ k∈K,k.c.lv.L.length≤32∧k.c.ce.L.length≤i) (hi:i≤1100) (hn:n≤1000) (hne:¬ rn=n):Calls Tryz.prog 57 #[.slice (some ⟨ab,0,none⟩) n c,.slice RA rn rc] w fun e w'=>e=.returned (.int .i64 6)∧w'=w:=by
 have g1:((rn:Int)==(n:Int))=false:=by rw[beq_eq_false_iff_ne];omega
 clear hS hL hK hab hvs hA hf hr hrs hb hi hn hne
 go_enter Tryz.func57,Tryz.ntmps57
 go_wp2
 go_ret
 exact⟨rfl,rfl⟩
set_option maxRecDepth 100000 in
set_option maxHeartbeats 4000000 in
theorem addRecord_any (L:List Fe) (K:List Kc) (vs:List Value) (rec:List ByteArray) (ab cb n c i:Nat) (RA:Option Addr) (rn rc:Nat) (w0 w:World) (F:List GBk) (rs:List GRd) (hS:KS w0 w cb F K rs) (hL:L.length=n) (hK:K.length=n) (hab:(ab,vs.toArray,87)∈F) (hvs:vs.length=n) (hA:∀ j x,L[j]?=some x→∃ v,vs[j]?=some v∧AdIn w F v x cb (j*4)) (hf:∀ x∈L,LtF x∧Rd w0 x.u.x.A x.u.x.n x.u.x.c x.u.x.x∧Rd w0 x.u.y.A x.u.y.n x.u.y.c x.u.y.x) (hr:LR strC w0 RA rn rec) (hrs:∀ s∈rec,s.size≤300) (hb:∀ k∈K,k.c.lv.L.length≤32∧k.c.ce.L.length≤i) (hi:i≤1100) (hn:n≤1000) (he:rn=n) (er:Int) (her:er=(rowX L rec (K.map Kc.ct)).1):Calls Tryz.prog 57 #[.slice (some ⟨ab,0,none⟩) n c,.slice RA rn rc] w fun e w'=>e=.returned (.int .i64 er)∧MK w w'∧∃ K' rs',KS w0 w' cb F K' rs'∧SubR rs rs'∧K'.map Kc.nk=K.map Kc.nk∧(er=0→rowX L rec (K.map Kc.ct)=(0,K'.map Kc.ct)∧∀ k∈K',k.c.lv.L.length≤32∧k.c.ce.L.length≤i+1):=by
 subst he
 have hcall:=Lib.hid (fun (W:World) (K1:List Kc) (rs1:List GRd) (j:Nat) (x:Fe) (k:Kc) (v:Value) (s:ByteArray) (h1:KS w0 W cb F K1 rs1) (h2:K1[j]?=some k) (h3:AdIn W F v x cb (j*4)) (h4:x∈L) (h5:s∈rec) (h6:k.c.lv.L.length≤32) (h7:k.c.ce.L.length≤i+1)=>ad_call s h1 h2 h3 (hf x h4).1 (hf x h4).2.1 (hf x h4).2.2 (hrs s h5) h6 (by omega))
 have hlr:=hr.len
 have hbd0:BdK K i 0:=fun q k hk=>by have:=hb k (List.mem_of_getElem? hk);exact⟨this.1,by rw[if_neg (by omega)];exact this.2⟩
 replace hS:=Lib.hid hS
 replace hL:=Lib.hid hL
 replace hK:=Lib.hid hK
 replace hab:=Lib.hid hab
 replace hA:=Lib.hid hA
 replace hr:=Lib.hid hr
 replace hbd0:=Lib.hid hbd0
 replace her:=Lib.hid her
 have hnh:=Lib.hid hn
 replace hlr:=Lib.hid hlr
 clear hf hrs hb hi hn hvs
 go_enter Tryz.func57,Tryz.ntmps57
 go_wp2
 go_loopw [15] (fun iv wr=>∃ (j:Nat) (K1:List Kc) (rs1:List GRd),j≤rn∧iv=.int .i64 j∧KS w0 wr cb F K1 rs1∧K1.length=rn∧MK w wr∧SubR rs rs1∧K1.map Kc.nk=K.map Kc.nk∧RowI L rec (K.map Kc.ct) j (K1.map Kc.ct)∧BdK K1 i j) (fun iv _=>rn-(intOf iv).toNat)
 case atStart=>exact⟨0,K,rs,Nat.zero_le _,rfl,hS.out,hK.out,MK.refl _,fun _ h=>h,rfl,RowI.zero _ _ _,hbd0.out⟩
 case round=>
  obtain⟨j,K1,rs1,hjn,rfl,S,hKl,hm,hsub,hnk,hRI,hbd⟩:=hrel
  by_cases hlt:j<rn
  ·obtain⟨x,hxe⟩:∃ x,L[j]?=some x:=⟨_,List.getElem?_eq_getElem (by rw[hL.out];exact hlt)⟩
   obtain⟨k,hke⟩:∃ k,K1[j]?=some k:=⟨_,List.getElem?_eq_getElem (by omega)⟩
   obtain⟨v,hv,hAx⟩:=hA.out j x hxe
   obtain⟨rb,ro,s,rfl,hs,hsm,e0⟩:=str_get (hr.out.bel S.s.bel) hlt
   have ea:World.cell? wr ⟨ab,j,none⟩=some v:=(S.s.bk _ (List.mem_cons_of_mem _ (List.mem_append_left _ hab.out))).1.cell (by rw[List.getElem?_toArray];exact hv)
   obtain⟨hb1,hb2⟩:=hbd j k hke
   rw[if_neg (by omega)] at hb2
   have hC:=hcall.out wr K1 rs1 j x k v s S hke (hAx.mk hm (fun _ h=>h)) (List.mem_of_getElem? hxe) hsm hb1 (by omega)
   have hct:=ct_at hke
   have hjh:=Lib.hid hlt
   have g1:(j:Int)<(rn:Int):=by omega
   have g2:(0:Int)≤(j:Int):=by omega
   have hb1h:=Lib.hid hb1
   have hb2h:=Lib.hid hb2
   replace hxe:=Lib.hid hxe
   replace hke:=Lib.hid hke
   replace hs:=Lib.hid hs
   replace hct:=Lib.hid hct
   replace S:=Lib.hid S
   replace hm:=Lib.hid hm
   replace hsub:=Lib.hid hsub
   replace hnk:=Lib.hid hnk
   replace hRI:=Lib.hid hRI
   replace hbd:=Lib.hid hbd
   replace hKl:=Lib.hid hKl
   clear hlt hjn hv hAx hsm hb1 hb2
   rcases hC with ⟨hsk,rfl⟩ | ⟨hsk,b6,b5,b3,rfl,hC⟩
   ·replace hsk:=Lib.hid hsk
    go_wp2_with fail
    refine (ad1_any s _).mono ?_
    rintro e w1 ⟨rfl,rfl⟩
    have hlt:=hjh.out
    have hnn:=hnh.out
    go_wp2
    go_roundw
    case rel=>exact⟨j+1,K1,rs1,by omega,by go_num,S.out,hKl.out,hm.out,hsub.out,hnk.out,hRI.out.skip hxe.out hs.out hct.out hsk.out,hbd.out.up⟩
    case measure=>simp[intOf];omega
   ·replace hsk:=Lib.hid hsk
    replace hC:=Lib.hid hC
    obtain⟨ax,hax⟩:∃ z,addX x k.c.lv.L s=z:=⟨_,rfl⟩
    unfold AdP at hC
    have hle:=addX_le (x:=x) (s:=s) hb1h.out
    rw[hax] at hC hle
    replace hax:=Lib.hid hax
    replace hle:=Lib.hid hle
    by_cases h0:ax.1=0
    ·have g3:(ax.1==0)=true:=by rw[h0];rfl
     replace h0:=Lib.hid h0
     go_wp2_with fail
     refine hC.out.mono ?_
     rintro e w1 ⟨rfl,k',rs',hS',hs',hn',hc',hm'⟩
     have hst:=hRI.out.step hxe.out hs.out hct.out hsk.out (by show (addX x k.c.lv.L s).1=0;rw[hax.out];exact h0.out)
     rw[show addX x k.ct.1 s=ax from hax.out,←hc',←List.map_set] at hst
     replace hst:=Lib.hid hst
     replace hS':=Lib.hid hS'
     have hs2:=Lib.hid (show SubR rs rs' from fun p hp=>hs' p (hsub.out p hp))
     have hn2:=Lib.hid ((nk_set hke.out hn').trans hnk.out)
     have hm2:=Lib.hid (hm.out.trans hm')
     have hb2:=Lib.hid (hbd.out.set (k':=k') (by rw[hKl.out];exact hjh.out) (by have:=congrArg Prod.fst hc';rw[show k'.c.lv.L=ax.2.1 from this];exact hle.out) (by have:=congrArg (fun z=>(Prod.snd z).length) hc';simp only[Kc.ct,List.length_append,List.length_map,List.length_cons,List.length_nil] at this;have:=hb2h.out;omega))
     clear hs' hn' hc' hm' hC S hm hsub hnk hRI hbd ea e0
     have hlt:=hjh.out
     have hnn:=hnh.out
     go_wp2
     go_roundw
     case rel=>exact⟨j+1,K1.set j k',rs',by omega,by go_num,hS'.out,by rw[List.length_set];exact hKl.out,hm2.out,hs2.out,hn2.out,hst.out,hb2.out⟩
     case measure=>simp[intOf];omega
    ·have g3:(ax.1==0)=false:=by rw[beq_eq_false_iff_ne];exact h0
     have hsp:=hRI.out.stop hxe.out hs.out hct.out hsk.out (by show ¬ (addX x k.c.lv.L s).1=0;rw[hax.out];exact h0)
     rw[show addX x k.ct.1 s=ax from hax.out,←her.out] at hsp
     replace hsp:=Lib.hid hsp
     replace h0:=Lib.hid h0
     go_wp2_with fail
     refine hC.out.mono ?_
     rintro e w1 ⟨rfl,k',rs',hS',hs',hn',hc',hm'⟩
     replace hS':=Lib.hid hS'
     have hs2:=Lib.hid (show SubR rs rs' from fun p hp=>hs' p (hsub.out p hp))
     have hn2:=Lib.hid ((nk_set hke.out hn').trans hnk.out)
     have hm2:=Lib.hid (hm.out.trans hm')
     clear hs' hn' hc' hm' hC S hm hsub hnk hRI hbd ea e0
     go_wp2
     go_ret
     exact⟨by rw[hsp.out];rfl,hm2.out,K1.set j k',rs',hS'.out,hs2.out,hn2.out,fun h=>absurd (hsp.out ▸ h) h0.out⟩
  ·obtain rfl:j=rn:=by omega
   have hfin:=hRI.fin hL.out
   have her2:er=0:=by rw[her.out,hfin]
   replace hfin:=Lib.hid hfin
   replace her2:=Lib.hid her2
   have hbd2:=Lib.hid (fun (k:Kc) (hk:k∈K1)=>(by
    obtain⟨q,hq⟩:=List.getElem?_of_mem hk
    have h1:=hbd q k hq
    refine⟨h1.1,Nat.le_trans h1.2 ?_⟩
    split<;>omega:k.c.lv.L.length≤32∧k.c.ce.L.length≤i+1))
   replace S:=Lib.hid S
   replace hm:=Lib.hid hm
   replace hsub:=Lib.hid hsub
   replace hnk:=Lib.hid hnk
   clear hlt hjn hRI hbd hKl
   go_wp2
   go_ret
   exact⟨by rw[her2.out];rfl,hm.out,K1,rs1,S.out,hsub.out,hnk.out,fun _=>⟨hfin.out,hbd2.out⟩⟩
end Go.Proofs.YtdeedofmflelfaaGreatDoor

namespace Go.Proofs.YtdeedofmflelfaaGreatDoor
open Go.RowKit RQ
set_option linter.unusedVariables false
/-- A function value that lies in a list. -/
def Fv (y:Option (Nat×Array Value)):Value:=match y with
 | none=>.nilFunc
 | some (f,c)=>.func (.func f) #[] c
def funC:Cod (Option (Nat×Array Value)):=cellC Fv (fun a z e=>by cases a<;>cases e) (fun a=>by cases a<;>rfl)
theorem fun_all (L:List (Option (Nat×Array Value))):funC.all L=L.map Fv:=by
 show L.flatMap (fun y=>[Fv y])=L.map Fv
 induction L with
 | nil=>rfl
 | cons y l ih=>rw[List.flatMap_cons,ih];rfl
theorem make_fun (n:Nat) (hn:n≤1000000) (w:World):(Instr.makeSlice 86 (.int .i64 (n:Int)) (.int .i64 (n:Int))).run Tryz.prog w=.ok (.slice (some ⟨w.heap.size,0,none⟩) n n) (w.alloc (.cells (funC.all (List.replicate n none)).toArray 87)):=
 make_of funC none 86 87 .nilFunc 8 Tryz.underlying86 (by kernel_rfl) rfl (by decide) n hn w
theorem AdIn.fv {W:World} {F:List GBk} {v:Value} {x:Fe} {cb o:Nat} (h:AdIn W F v x cb o):∃ f c,v=.func (.func f) #[] c:=by
 rcases h with ⟨_,b6,b5,b3,u,gs,m,h1,_⟩ | ⟨_,b6,b5,b3,u,gs,m,h1,_⟩ | ⟨_,_,h1⟩
 ·exact⟨_,_,h1⟩
 ·exact⟨_,_,h1⟩
 ·exact⟨_,_,h1⟩
theorem perm3 (X:List GBk) (a b c d:GBk) (F:List GBk):(X++(a::b::c::d::F)).Perm (a::b::c::d::(X++F)):=by
 refine List.perm_middle.trans (List.Perm.cons a ?_)
 refine List.perm_middle.trans (List.Perm.cons b ?_)
 refine List.perm_middle.trans (List.Perm.cons c ?_)
 exact List.perm_middle
/-- A column at its start. -/
def Fe.c0 (x:Fe):Cl:=⟨x.n,x.k,⟨none,0,[]⟩,⟨none,0,[]⟩⟩
set_option maxRecDepth 100000 in
set_option maxHeartbeats 4000000 in
theorem adder_skip (x:Fe) (cb o:Nat) (w0 w:World) (bs:List GBk) (rs:List GRd) (S0:St w0 w bs rs) (h1:x.k≠1) (h2:x.k≠2):Calls Tryz.prog 56 #[.agg #[.string x.n,.int .i64 x.k,.slice x.mi.A x.mi.L.length x.mi.c,.bool x.u.b,.slice x.u.x.A x.u.x.n x.u.x.c,.slice x.u.y.A x.u.y.n x.u.y.c],.pointer (some ⟨cb,o,none⟩)] w fun e w'=>∃ v F,e=.returned v∧St w0 w' (F++bs) rs∧AdIn w' F v x cb o∧MK w w':=by
 have g1:(x.k==1)=false:=beq_eq_false_iff_ne.2 h1
 have g2:(x.k==2)=false:=beq_eq_false_iff_ne.2 h2
 have hk:=Lib.hid (And.intro h1 h2)
 clear h1 h2
 have S:St w0 _ ((w.heap.size+1+1,#[.nilFunc],124)::(w.heap.size+1,#[.pointer (some ⟨cb,o,none⟩)],89)::(w.heap.size,#[.string x.n,.int .i64 x.k,.slice x.mi.A x.mi.L.length x.mi.c,.bool x.u.b,.slice x.u.x.A x.u.x.n x.u.x.c,.slice x.u.y.A x.u.y.n x.u.y.c],48)::bs) (rs):=(((S0.allocAt (w.heap.size) #[.string x.n,.int .i64 x.k,.slice x.mi.A x.mi.L.length x.mi.c,.bool x.u.b,.slice x.u.x.A x.u.x.n x.u.x.c,.slice x.u.y.A x.u.y.n x.u.y.c] 48 (noLof rfl) (by simp)).allocAt (w.heap.size+1) #[.pointer (some ⟨cb,o,none⟩)] 89 (noLof rfl) (by simp)).allocAt (w.heap.size+1+1) #[.nilFunc] 124 (noLof rfl) (by simp))
 replace S:=Lib.hid S
 have hmk:=Lib.hid ((((MK.refl w).alloc (.cells #[.string x.n,.int .i64 x.k,.slice x.mi.A x.mi.L.length x.mi.c,.bool x.u.b,.slice x.u.x.A x.u.x.n x.u.x.c,.slice x.u.y.A x.u.y.n x.u.y.c] 48)).alloc (.cells #[.pointer (some ⟨cb,o,none⟩)] 89)).alloc (.cells #[.nilFunc] 124))
 go_enter Tryz.func56,Tryz.ntmps56
 go_wp2
 go_ret
 exact⟨_,[(w.heap.size+1+1,#[.nilFunc],124),(w.heap.size+1,#[.pointer (some ⟨cb,o,none⟩)],89),(w.heap.size,#[.string x.n,.int .i64 x.k,.slice x.mi.A x.mi.L.length x.mi.c,.bool x.u.b,.slice x.u.x.A x.u.x.n x.u.x.c,.slice x.u.y.A x.u.y.n x.u.y.c],48)],rfl,S.out,.inr (.inr ⟨hk.out.1,hk.out.2,rfl⟩),hmk.out⟩
theorem adder_any (x:Fe) (cb o:Nat) (w0 w:World) (bs:List GBk) (rs:List GRd) (S0:St w0 w bs rs) (hmi:LR strC w0 x.mi.A x.mi.L.length x.mi.L) (hx:LtF x):Calls Tryz.prog 56 #[.agg #[.string x.n,.int .i64 x.k,.slice x.mi.A x.mi.L.length x.mi.c,.bool x.u.b,.slice x.u.x.A x.u.x.n x.u.x.c,.slice x.u.y.A x.u.y.n x.u.y.c],.pointer (some ⟨cb,o,none⟩)] w fun e w'=>∃ v F,e=.returned v∧St w0 w' (F++bs) rs∧AdIn w' F v x cb o∧MK w w':=by
 by_cases h1:x.k=1
 ·exact adder_num x cb o w0 w bs rs S0 hmi hx h1
 ·by_cases h2:x.k=2
  ·exact adder_cat x cb o w0 w bs rs S0 hmi hx h2
  ·exact adder_skip x cb o w0 w bs rs S0 h1 h2
/-- All records, one behind the other: the error, its record, what the columns hold. -/
def bldX (L:List Fe):List (List ByteArray)→List Ct→Nat→Int×Int×List Ct
 | [],st,_=>(0,0,st)
 | r::rs,st,i=>if r.length=L.length then (if (rowX L r st).1=0 then bldX L rs (rowX L r st).2 (i+1) else ((rowX L r st).1,((i+1:Nat):Int),[])) else (6,((i+1:Nat):Int),[])
theorem bldX_ok {L:List Fe} {R:List (List ByteArray)} {st:List Ct} {i:Nat} {r:List ByteArray} (h:R[i]?=some r) (hl:r.length=L.length) (he:(rowX L r st).1=0):bldX L (R.drop i) st i=bldX L (R.drop (i+1)) (rowX L r st).2 (i+1):=by
 rw[drop_at h,bldX,if_pos hl,if_pos he]
theorem bldX_er {L:List Fe} {R:List (List ByteArray)} {st:List Ct} {i:Nat} {r:List ByteArray} (h:R[i]?=some r) (hl:r.length=L.length) (he:¬ (rowX L r st).1=0):bldX L (R.drop i) st i=((rowX L r st).1,((i+1:Nat):Int),[]):=by
 rw[drop_at h,bldX,if_pos hl,if_neg he]
theorem bldX_no {L:List Fe} {R:List (List ByteArray)} {st:List Ct} {i:Nat} {r:List ByteArray} (h:R[i]?=some r) (hl:¬ r.length=L.length):bldX L (R.drop i) st i=(6,((i+1:Nat):Int),[]):=by
 rw[drop_at h,bldX,if_neg hl]
theorem KS.lr {w0 W:World} {cb:Nat} {F:List GBk} {K:List Kc} {rs:List GRd} (h:KS w0 W cb F K rs) {n:Nat} (hn:K.length=n):LR clC W (some ⟨cb,0,none⟩) n (K.map Kc.c):=by
 refine St_glr h.s n (by rw[List.length_map];exact hn) fun c hc=>?_
 obtain⟨k,hk,rfl⟩:=List.mem_map.1 hc
 obtain⟨j,hj⟩:=List.getElem?_of_mem hk
 obtain⟨B,_,S,_,_⟩:=h.at_ hj
 refine cl_at.2 ⟨?_,?_⟩
 ·refine OBt.lr (bs:=((cb,(clC.all (K.map Kc.c)).toArray,56)::B)++k.oE) (h.t k hk) (S.prm ?_)
  rw[List.append_assoc]
  exact List.Perm.append_left _ List.perm_append_comm
 ·refine OBc.lr (bs:=((cb,(clC.all (K.map Kc.c)).toArray,56)::B)++k.oL) (h.e k hk) ?_
  rw[List.append_assoc]
  exact S
set_option maxRecDepth 100000 in
set_option maxHeartbeats 4000000 in
theorem bld1_any (x:Cl) (w:World):Calls Tryz.prog 59 #[.agg #[.string x.n,.int .i64 x.k,.slice x.lv.A x.lv.L.length x.lv.c,.slice x.ce.A x.ce.L.length x.ce.c]] w fun e w'=>e=.returned (.bool (x.k==3))∧Below w.heap.size w w':=by
 have S:=((St.new w).allocAt (w.heap.size) #[.string x.n,.int .i64 x.k,.slice x.lv.A x.lv.L.length x.lv.c,.slice x.ce.A x.ce.L.length x.ce.c] 56 (noLof rfl) (by simp))
 replace S:=Lib.hid S
 go_enter Tryz.func59,Tryz.ntmps59
 go_wp2
 go_ret
 exact⟨rfl,S.out.bel⟩
set_option maxRecDepth 100000 in
set_option maxHeartbeats 4000000 in
theorem ixSkip_any (L:List Cl) (A:Option Addr) (n c:Nat)  (w:World) (h:LR clC w A n L) (hn:n≤100000) (hP:∀ (i:Nat) (x:Cl),L[i]?=some x→∀ W,Below w.heap.size w W→Calls Tryz.prog 59 #[.agg #[.string x.n,.int .i64 x.k,.slice x.lv.A x.lv.L.length x.lv.c,.slice x.ce.A x.ce.L.length x.ce.c]] W fun e w'=>e=.returned (.bool (x.k==3))∧Below W.heap.size W w') :
  Calls Tryz.prog 102 #[.slice A n c,.func (.func 59) #[] #[]] w fun e w'=>(∃ z,e=.returned (.int .i64 z)∧IxF L (fun x:Cl=>x.k==3) z)∧Below w.heap.size w w':=by
 have hb:=Lib.hid hn
 have hlen:=Lib.hid h.len
 replace h:=Lib.hid h
 obtain⟨pp,hpp⟩:∃ f:Cl→Bool,f=(fun x:Cl=>x.k==3):=⟨_,rfl⟩
 have hPh:Hid (∀ (i:Nat) (x:Cl),L[i]?=some x→∀ W,Below w.heap.size w W→Calls Tryz.prog 59 #[.agg #[.string x.n,.int .i64 x.k,.slice x.lv.A x.lv.L.length x.lv.c,.slice x.ce.A x.ce.L.length x.ce.c]] W fun e w'=>e=.returned (.bool (pp x))∧Below W.heap.size W w'):=Lib.hid (by rw[hpp];exact hP)
 rw[←hpp]
 clear hn hP
 replace hpp:=Lib.hid hpp
 go_enter Tryz.func102,Tryz.ntmps102
 go_wp2
 go_loopw [8] (fun iv wr=>∃ i:Nat,i≤n∧iv=.int .i64 i∧Below w.heap.size w wr∧(∀ j s,j<i→L[j]?=some s→pp s=false)) (fun iv _=>n-(intOf iv).toNat)
 case atStart=>exact⟨0,Nat.zero_le _,rfl,Below.refl _ _,fun j s h0=>absurd h0 (Nat.not_lt_zero _)⟩
 case round=>
  obtain⟨i,hin,rfl,B,hall⟩:=hrel
  by_cases hlt:i<n
  ·obtain⟨b,o,x,rfl,hx,hxm,hxa,e0,e1,e2,e3⟩:=cl_get (h.out.bel B) hlt
   have hPx:=hPh.out i x hx wr B
   obtain⟨v,hv⟩:∃ v,v=pp x:=⟨_,rfl⟩
   rw[←hv] at hPx
   replace hPx:=Lib.hid hPx
   have hih:=Lib.hid hlt
   have g1:(i:Int)<(n:Int):=by omega
   have g2:(0:Int)≤(i:Int):=by omega
   replace B:=Lib.hid B
   replace hall:=Lib.hid hall
   replace hx:=Lib.hid hx
   replace hv:=Lib.hid hv
   clear hlt hin hxm
   go_wp2_with fail
   refine hPx.out.mono ?_
   rintro e w1 ⟨rfl,bb⟩
   have T:=Lib.hid (B.out.trans (bb.mono B.out.size))
   clear bb B hPx hxa e0 e1 e2 e3
   cases v
   ·have hlt:=hih.out
    have hbb:=hb.out
    go_wp2
    go_roundw
    case rel=>exact⟨i+1,by omega,by go_num,T.out,fun j' s h1 h2=>(by rcases Nat.lt_or_ge j' i with h3 | h3;exact hall.out j' s h3 h2;obtain rfl:j'=i:=(by omega);rw[hx.out] at h2;injection h2 with h2;subst h2;exact hv.out.symm)⟩
    case measure=>simp[intOf];omega
   ·go_wp2
    go_ret
    exact⟨⟨_,rfl,.inr ⟨i,x,rfl,hx.out,hv.out.symm,hall.out⟩⟩,T.out⟩
  ·obtain rfl:i=n:=by omega
   have hfin:Hid (∀ r∈L,pp r=false):=Lib.hid fun r hr=>by
    obtain⟨k,hk⟩:=List.getElem?_of_mem hr
    exact hall k r (by rw[←hlen.out];exact (List.getElem?_eq_some_iff.1 hk).1) hk
   replace B:=Lib.hid B
   clear hall hin hlt
   go_wp2
   go_ret
   exact⟨⟨-1,rfl,.inl ⟨rfl,hfin.out⟩⟩,B.out⟩
set_option maxRecDepth 100000 in
set_option maxHeartbeats 4000000 in
theorem delete_no (L:List Cl) (A:Option Addr) (n c:Nat) (w:World) (h:LR clC w A n L) (hn:n≤100000) (hno:∀ x∈L,x.k≠3):Calls Tryz.prog 58 #[.slice A n c,.func (.func 59) #[] #[]] w fun e w'=>e=.returned (.slice A n c)∧Below w.heap.size w w':=by
 have hI:=Lib.hid (ixSkip_any L A n c w h hn fun i x _ W _=>bld1_any x W)
 replace hno:=Lib.hid hno
 clear h hn
 have S:=(St.new w)
 replace S:=Lib.hid S
 go_enter Tryz.func58,Tryz.ntmps58
 go_wp2_with fail
 refine (hI.out).mono ?_
 rintro e w1 ⟨⟨z,rfl,hz⟩,bb⟩
 have T:=(S.out.call bb)
 clear bb S
 have S:=T
 clear T
 replace S:=Lib.hid S
 rcases hz with ⟨rfl,_⟩ | ⟨i,r,rfl,hr,hp,_⟩
 ·go_wp2
  go_ret
  exact⟨rfl,S.out.bel⟩
 ·have:=hno.out r (List.mem_of_getElem? hr)
  simp[this] at hp
end Go.Proofs.YtdeedofmflelfaaGreatDoor
