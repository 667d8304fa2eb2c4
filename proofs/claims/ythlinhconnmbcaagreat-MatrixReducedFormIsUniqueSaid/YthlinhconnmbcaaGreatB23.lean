/- The reference's rows: taken. -/
import Derived.Test.YthlinhconnmbcaaGreatB19
import Derived.Test.YthlinhconnmbcaaGreatB22
set_option maxRecDepth 100000
set_option maxHeartbeats 40000000
set_option linter.unusedVariables false
namespace Go.Proofs.YthlinhconnmbcaaGreat
open Go.RowKit RQ GE
set_option linter.unusedVariables false
theorem St.rebase {w w1 W:World} {bs:List GBk} {rs:List GRd} (h:Below w.heap.size w w1) (S:St w1 W bs rs):St w W bs rs:=
 ⟨h.trans (S.bel.mono h.size),fun p hp=>⟨(S.bk p hp).1,(S.bk p hp).2.1,Nat.le_trans h.size (S.bk p hp).2.2⟩,S.nd,S.rd⟩
section
variable {α:Type} {C:Cod α} {w W:World} {bs:List GBk} {rs:List GRd} {e:Nat} {v:Value} {L:List α}
theorem Gro.op {P:Program} {o:Oper} {a:Act} {K':Act→World→Prop} {Q:Exit→Act→World→Prop} (s x:Operand) (ty:TypeId)
  (ho:o.op=.call { callee:=.builtin .append,args:=#[s,x],argTypes:=#[ty,ty] })
  (z:Value) (bytes:Nat) (ht:P.underlying ty=some (.slice e)) (hi:(P.info? e).map (fun i=>(i.zero,i.size,i.bytes))=some (some z,C.sz,bytes))
  (hzs:z.cells.size=C.sz) (hzn:NoLl z.cells.toList) (hs:a.eval s=v) (h:Gro C w W bs rs e v L)
  (g:Nat) (y:α) {t:Nat} (hx:a.eval x=.slice (some ⟨g,0,none⟩) 1 1) (hc:Cb W g (C.cs y).toArray t) (hy:C.In w bs rs y) (hn:(L.length+1)*bytes≤140737488355328) (h63:L.length+1≤maxLen)
  (hk:∀ v' W',Gro C w W' bs rs e v' (L++[y])→K' (a.put o.dst v') W'):Oper.wp P o a W K' Q:=by
 obtain⟨i0,hi0,hzz⟩:=Option.map_eq_some_iff.1 hi;simp only[Prod.mk.injEq] at hzz;obtain⟨hz0,hz1,hz2⟩:=hzz;obtain⟨v',W',hr,hA⟩:=Apd.run (P:=P) ty o.type i0 z bytes ht hi0 hz0 hz1 hz2 hzs hzn h.1 ⟨g,0,none⟩ 1 1 (C.cs y) (by rw[C.len,Nat.one_mul]) (fun j u hu=>by
  have hadd:(⟨g,0,none⟩:Addr).add j=⟨g,j,none⟩:=by unfold Addr.add;split<;>simp_all
  rw[hadd];exact hc.cell (by rw[List.getElem?_toArray];exact hu)) (C.one y) (C.noL y) (by decide) h63 hn
 unfold Oper.wp execOp;simp only[ho,resolve,invoke,builtin,Sem.run_bind,Sem.run_pure,Result.andThen_ok,List.map_toArray,List.map_cons,List.map_nil,hs,hx,hr];refine hk v' W' ⟨?_,fun x hx=>?_⟩
 ·rw[all_app,all_one,List.length_append];exact hA
 ·rcases List.mem_append.1 hx with hx | hx
  ·exact h.2 x hx
  ·rw[List.mem_singleton.1 hx];exact hy
theorem Gro.unop (h:Gro C w W bs rs e v L):∃ ob,((C.all L).length=L.length*C.sz∧NoLl (C.all L)∧OB ob e C.sz v L.length (C.all L))∧St w W (bs++ob) rs:=h.1.open_
end
def RowO (M:List Rat) (w:World) (e:Ending) (w':World):Prop:=∃ A c L bs rs,e=.returned (.slice A L.length c)∧St w w' bs rs∧RowI bs rs ⟨A,c,L⟩∧L.map rwV=M.map qV
theorem RowI.lr {w W:World} {bs:List GBk} {rs:List GRd} {s:Sl Gw} (h:RowI bs rs s) (S:St w W bs rs):LR rwC W s.A s.L.length s.L:=(h.in_ w).1.lr S
theorem take_at {M:List Rat} {i:Nat} {q:Rat} (h:M[i]?=some q):M.take (i+1)=M.take i++[q]:=by
 rw[List.take_add_one,h];rfl
def RowG (M:List Rat) (w:World) (e:Ending) (w':World):Prop:=∃ v L rs,e=.returned v∧Gro rwC w w' [] rs 33 v L∧(∀ x∈L,rwI rs x)∧L.map rwV=M.map qV
theorem RowG.row {M:List Rat} {w:World} {e:Ending} {w':World} (h:RowG M w e w'):RowO M w e w':=by
 obtain⟨v,L,rs,rfl,G,hI,hV⟩:=h;obtain⟨A9,c9,bs9,hv,S9,_,hrow⟩:=G.drow hI;exact⟨A9,c9,L,bs9,rs,by rw[hv],S9,hrow,hV⟩
theorem takeG_any (M:List Rat) (L:List Rt) (A:Option Addr) (n c:Nat) (w:World) (h:Sr w A n c L) (hM:L.map (·.q)=M) (hs:∀ x∈L,Rk x.b x.n x.x x.m x.y x.q) (hn:n≤1000):Calls Tryz.prog 59 #[.slice A n c] w (RowG M w):=by
 have hML:M.length=n:=by have:=congrArg List.length hM;rw[List.length_map,h.len] at this;omega
 have hb:=Lib.hid hn;replace h:=Lib.hid h;replace hM:=Lib.hid hM;replace hs:=Lib.hid hs;have S:=Lib.hid (St.new w);replace hML:=Lib.hid hML;clear hn;go_enter Tryz.func59,Tryz.ntmps59;go_wp2
 go_loopw [3,4] (fun rv iv wr=>∃ (i:Nat) (rs:List GRd) (R:List Gw),i≤n∧iv=.int .i64 i∧Gro rwC w wr [] rs 33 rv R∧(∀ x∈R,rwI rs x)∧R.map rwV=(M.take i).map qV) (fun _ iv _=>n-(intOf iv).toNat)
 case atStart=>exact⟨0,[],[],Nat.zero_le _,rfl,Gro.nil_ rwC S.out _,fun s hs=>(by cases hs),rfl⟩
 case round=>
  clear S;obtain⟨i,rs,R,hin,rfl,GR,hR,hV⟩:=hrel
  by_cases hlt:i<n
  ·have g1:(i:Int)<(n:Int):=by omega
   have g2:(0:Int)≤(i:Int):=by omega
   have hih:=Lib.hid hlt;obtain⟨b,o,x,rfl,hx,hxm,e0,e1,e2⟩:=(h.out.bel GR.st.bel).get hlt;obtain⟨q,hqx⟩:∃ q,q=x.q:=⟨_,rfl⟩;have hq:M[i]?=some q:=by rw[←hM.out,List.getElem?_map,hx,hqx];rfl
   have X:=(h.out.bel GR.st.bel).rd x hxm;have hRl:Hid (R.length=i):=Lib.hid (by have:=congrArg List.length hV;rw[List.length_map,List.length_map,List.length_take] at this;have:=hML.out;omega)
   have hT:Hid (Calls Tryz.prog 44 #[.agg #[.bool x.b,.slice x.A x.n x.c,.slice x.D x.m x.d]] wr (RetR q wr)):=Lib.hid (by rw[hqx];exact takeF x.b x.A x.n x.c x.x x.D x.m x.d x.y x.q wr (X.at_ (hs.out x hxm)))
   have hV2:Hid (∀ y:Gw,rwV y=qV q→(R++[y]).map rwV=(M.take (i+1)).map qV):=Lib.hid fun y hy=>by
    rw[take_at hq,List.map_append,List.map_append,hV];simp only[List.map_cons,List.map_nil,hy]
   replace GR:=Lib.hid GR;replace hR:=Lib.hid hR;clear hlt hin hx hq hxm X hV hqx
   go_wp2_with fail
   refine hT.out.mono ?_
   rintro e w4 ⟨A3,m3,c3,D3,m4,c4,rfl,X,bb⟩;obtain⟨y,hy⟩:∃ y:Gw,y=⟨ng q.num,⟨A3,m3,c3,limbs q.num.natAbs⟩,⟨D3,m4,c4,dn q⟩⟩:=⟨_,rfl⟩;have hcs:rwC.cs y=[.bool (ng q.num),.slice A3 m3 c3,.slice D3 m4 c4]:=by rw[hy];rfl
   have hyI:Hid (rwI ((A3,m3,c3,limbs q.num.natAbs)::(D3,m4,c4,dn q)::rs) y):=Lib.hid (by rw[hy];exact⟨List.mem_cons_self,List.mem_cons_of_mem _ List.mem_cons_self⟩)
   have hyV:=Lib.hid (hV2.out y (by rw[hy];rfl))
   have GA:=Lib.hid ((((GR.out.call bb).read X.d).read X.n).alloc #[.bool (ng q.num),.slice A3 m3 c3,.slice D3 m4 c4] 33 (noL3 _ _ _ _ _ _ _));clear GR X bb hy hT hV2 e0 e1 e2
   go_wp2_with (at_builtin;refine Gro.wp rfl (.tmp 11) (.tmp 17) 46 rfl (.agg #[.bool false,.slice none 0 0,.slice none 0 0]) 56 Tryz.underlying46 (by kernel_rfl) rfl (fun v hv z e=>by simp[Value.cells] at hv;subst e;simp at hv) rfl GA.out w4.heap.size y rfl (by rw[hcs];exact (GA.out.st).cb 0 rfl) (hyI.out.in_ _ _) (by have:=hRl.out;have:=hih.out;have:=hb.out;omega) (by have:=hRl.out;have:=hih.out;have:=hb.out;unfold maxLen;omega) ?_)
   intro v' w5 G5;have hR6:Hid (∀ x∈R++[y],rwI ((A3,m3,c3,limbs q.num.natAbs)::(D3,m4,c4,dn q)::rs) x):=Lib.hid fun x hx=>by
    rcases List.mem_append.1 hx with hx | hx
    ·exact (hR.out x hx).mono (fun p hp=>List.mem_cons_of_mem _ (List.mem_cons_of_mem _ hp))
    ·rw[List.mem_singleton.1 hx];exact hyI.out
   have G6:=Lib.hid (Gro.sub G5 (fun x hx=>(hR6.out x hx).in_ _ _))
   clear G5 GA hR hyI hcs hRl;have hlt:=hih.out;have hbb:=hb.out;go_wp2
   go_roundw
   case rel=>exact⟨i+1,_,_,by omega,by go_num,G6.out,hR6.out,hyV.out⟩
   case measure=>simp[intOf];omega
  ·obtain rfl:n=i:=by omega
   rw[List.take_of_length_le (by rw[hML.out];exact Nat.le_refl _)] at hV
   have hres:=Lib.hid (show RowG M w (.returned _) wr from ⟨_,R,rs,rfl,GR,hR,hV⟩)
   clear GR hR hV hin hlt;go_wp2;go_ret;exact hres.out
theorem takeL_any (M:List Rat) (L:List Rt) (A:Option Addr) (n c:Nat) (w:World) (h:Sr w A n c L) (hM:L.map (·.q)=M) (hs:∀ x∈L,Rk x.b x.n x.x x.m x.y x.q) (hn:n≤1000):Calls Tryz.prog 59 #[.slice A n c] w (RowO M w):=(takeG_any M L A n c w h hM hs hn).mono fun e w' hG=>hG.row
end Go.Proofs.YthlinhconnmbcaaGreat
namespace Go.Proofs.YthlinhconnmbcaaGreat
open Go.RowKit RQ GE
set_option linter.unusedVariables false
theorem plusQ_at {a b:List Rat} {i:Nat} {p q:Rat} (ha:a[i]?=some p) (hb:b[i]?=some q):(plusQ a b)[i]?=some (p+q):=by
 unfold plusQ;rw[List.getElem?_zipWith,ha,hb]
theorem timesQ_at {a:List Rat} {c:Rat} {i:Nat} {p:Rat} (ha:a[i]?=some p):(timesQ a c)[i]?=some (p*c):=by
 unfold timesQ;rw[List.getElem?_map,ha];rfl
theorem timesR_any (M:List Rat) (c0:Rat) (L:List Gw) (A:Option Addr) (n c:Nat) (y0:Gw) (w:World) (h:LR rwC w A n L) (hM:L.map rwV=M.map qV) (hs:∀ q∈M,Rs q 9900000) (hn:n≤1000) (hy:rwV y0=qV c0) (R1:Rd w y0.x.A y0.x.n y0.x.c y0.x.x) (R2:Rd w y0.y.A y0.y.n y0.y.c y0.y.x) (hc:Rs c0 9900000):Calls Tryz.prog 30 #[.slice A n c,.agg #[.bool y0.b,.slice y0.x.A y0.x.n y0.x.c,.slice y0.y.A y0.y.n y0.y.c]] w (RowO (timesQ M c0) w):=by
 have hML:M.length=n:=by have:=congrArg List.length hM;rw[List.length_map,List.length_map,h.len] at this;omega
 have hTL:Hid ((timesQ M c0).length=n):=Lib.hid (by unfold timesQ;rw[List.length_map];exact hML)
 obtain⟨yb,Y⟩:=rw_rr hy R1 R2;have bx:Below w.heap.size w (w.alloc (.cells #[.bool y0.b,.slice y0.x.A y0.x.n y0.x.c,.slice y0.y.A y0.y.n y0.y.c] 33)):=(Below.refl _ _).alloc (Nat.le_refl _) _;have hB:=Lib.hid bx;have cb:=Cb.new w #[.bool y0.b,.slice y0.x.A y0.x.n y0.x.c,.slice y0.y.A y0.y.n y0.y.c] 33;have k0:=Lib.hid (cb.cell (i:=0) rfl);have k1:=Lib.hid (cb.cell (i:=1) rfl);have k2:=Lib.hid (cb.cell (i:=2) rfl)
 have h1:=Lib.hid (h.bel bx);have Y1:=Lib.hid (Y.below bx);have hb:=Lib.hid hn;replace hM:=Lib.hid hM;replace hs:=Lib.hid hs;replace hML:=Lib.hid hML;replace yb:=Lib.hid yb;replace hc:=Lib.hid hc;clear hn bx cb hy R1 R2 Y h;go_enter Tryz.func30,Tryz.ntmps30;go_wp2;obtain⟨w1,hw1⟩:∃ W,W=w.alloc (.cells #[.bool y0.b,.slice y0.x.A y0.x.n y0.x.c,.slice y0.y.A y0.y.n y0.y.c] 33):=⟨_,rfl⟩;obtain⟨g,hg⟩:∃ g,g=w.heap.size:=⟨_,rfl⟩
 rw[←hw1] at hB k0 k1 k2 h1 Y1 ⊢;rw[←hg] at k0 k1 k2 ⊢;clear hw1 hg;have S:=Lib.hid (St.new w1)
 go_loopw [5,6] (fun rv iv wr=>∃ (i:Nat) (rs:List GRd) (R:List Gw) (av:Value),av=rv∧i≤n∧iv=.int .i64 i∧Gro rwC w1 wr [] rs 33 av R∧(∀ x∈R,rwI rs x)∧R.map rwV=((timesQ M c0).take i).map qV) (fun _ iv _=>n-(intOf iv).toNat)
 case atStart=>exact⟨0,[],[],_,rfl,Nat.zero_le _,rfl,Gro.nil_ rwC S.out _,fun s hs=>(by cases hs),rfl⟩
 case round=>
  clear S;obtain⟨i,rs,R,av,hav,hin,rfl,GR,hR,hV⟩:=hrel;subst hav
  by_cases hlt:i<n
  ·have g1:(i:Int)<(n:Int):=by omega
   have g2:(0:Int)≤(i:Int):=by omega
   have hih:=Lib.hid hlt;obtain⟨b,o,x,rfl,hx,_,e0,e1,e2,R1,R2⟩:=row_get h1.out hlt;obtain⟨p,hp,hpm,hxq⟩:=map_at hM.out hx;obtain⟨xb,X⟩:=rw_rr hxq R1 R2;obtain⟨q,hq⟩:∃ q,q=p*c0:=⟨_,rfl⟩;have hRl:Hid (R.length=i):=Lib.hid (by have:=congrArg List.length hV;rw[List.length_map,List.length_map,List.length_take] at this;have:=hTL.out;omega)
   have hT:Hid (∀ W,Below w1.heap.size w1 W→Calls Tryz.prog 15 #[.agg #[.bool x.b,.slice x.x.A x.x.n x.x.c,.slice x.y.A x.y.n x.y.c],.agg #[.bool y0.b,.slice y0.x.A y0.x.n y0.x.c,.slice y0.y.A y0.y.n y0.y.c]] W (RetR q W)):=Lib.hid fun W hW=>by
    have:=fmulQ _ _ x.x.A x.x.n x.x.c x.y.A x.y.n x.y.c y0.x.A y0.x.n y0.x.c y0.y.A y0.y.n y0.y.c W (X.below hW) (Y1.out.below hW) (hs.out p hpm) hc.out;rw[←xb,←yb.out,←hq] at this;exact this
   have hV2:Hid (∀ y:Gw,rwV y=qV q→(R++[y]).map rwV=((timesQ M c0).take (i+1)).map qV):=Lib.hid fun y hy=>by
    rw[take_at (timesQ_at hp),←hq,List.map_append,List.map_append,hV];simp only[List.map_cons,List.map_nil,hy]
   replace GR:=Lib.hid GR;replace hR:=Lib.hid hR;replace e0:=Lib.hid e0;replace e1:=Lib.hid e1;replace e2:=Lib.hid e2;clear hlt hin hx hp hpm hxq R1 R2 xb X hV hq;go_upto_region 5 with fail
   obtain⟨ob,hOb,So⟩:=GR.out.unop;have hIn:=Lib.hid GR.out.2;replace hOb:=Lib.hid hOb;replace So:=Lib.hid So;clear GR;have hbase:=Lib.hid So.out;refine RW.begin (Z:=[]) (S:=(fun W=>Below w1.heap.size w1 W)) (by kernel_rfl) ?_ hbase.out ?_
   ·exact⟨by kernel_rfl,zis_nil,by decide,by decide,nol_nil,(fun _ _ h=>h.bel)⟩
   intro hzk;refine RW.t (i:=0) (v:=av) (some 13) at0 (hy:=fun _ _=>by kernel_rfl) (h:=?_)
   refine RW.t (i:=1) (v:=.slice (some ⟨b,o,none⟩) n c) (some 14) at1 (hy:=fun _ _=>by kernel_rfl) (h:=?_)
   refine RW.t (i:=2) (v:=.int .i64 i) (some 15) at2 (hy:=fun _ _=>by kernel_rfl) (h:=?_)
   refine RW.t (i:=3) (v:=.pointer (some ⟨b,o+i*3,none⟩)) (some 16) at3 (hy:=fun _ _=>by go_simp) (h:=?_)
   refine RW.t (i:=4) (v:=.agg #[.bool x.b,.slice x.x.A x.x.n x.x.c,.slice x.y.A x.y.n x.y.c]) (some 17) at4 (hy:=fun W hS=>by (have k0:=bel_cell hS e0.out;have k1:=bel_cell hS e1.out;have k2:=bel_cell hS e2.out;clear hS;go_simp)) (h:=?_)
   refine RW.t (i:=5) (v:=.agg #[.bool y0.b,.slice y0.x.A y0.x.n y0.x.c,.slice y0.y.A y0.y.n y0.y.c]) (some 18) at5 (hy:=fun W hS=>by (have k0:=bel_cell hS k0.out;have k1:=bel_cell hS k1.out;have k2:=bel_cell hS k2.out;clear hS;go_simp)) (h:=?_)
   refine RW.tail hzk.out (by kernel_rfl) ?_
   intro gs' w5 hgs' hS Sb;obtain rfl:=len0 hgs';simp only[mark,fill,Act.put,sZ0,sZ1,sZ2];have G5:Gro rwC w1 w5 [] rs 33 av R:=⟨Apd.close hOb.out Sb,hIn.out⟩;refine Wk.g (i:=6) at6 (by kernel_rfl) (by kernel_rfl) fun K' hK=>?_
   refine oper_call (f:=15) (args:=#[.agg #[.bool x.b,.slice x.x.A x.x.n x.x.c,.slice x.y.A x.y.n x.y.c],.agg #[.bool y0.b,.slice y0.x.A y0.x.n y0.x.c,.slice y0.y.A y0.y.n y0.y.c]]) rfl (by kernel_rfl) ((hT.out _ hS).mono ?_)
   rintro e w6 ⟨A3,m3,c3,D3,m4,c4,rfl,X,bb3⟩;obtain⟨y,hy⟩:∃ y:Gw,y=⟨ng q.num,⟨A3,m3,c3,limbs q.num.natAbs⟩,⟨D3,m4,c4,dn q⟩⟩:=⟨_,rfl⟩;have hcs:rwC.cs y=[.bool (ng q.num),.slice A3 m3 c3,.slice D3 m4 c4]:=by rw[hy];rfl
   have hyI:Hid (rwI ((A3,m3,c3,limbs q.num.natAbs)::(D3,m4,c4,dn q)::rs) y):=Lib.hid (by rw[hy];exact⟨List.mem_cons_self,List.mem_cons_of_mem _ List.mem_cons_self⟩)
   have hyV:=Lib.hid (hV2.out y (by rw[hy];rfl))
   have G6:=Lib.hid (((G5.call bb3).read X.d).read X.n);have hS6:=G6.out.st.bel;clear G5 X bb3 hy hT hV2 hOb hIn hS Sb;refine⟨_,rfl,hK.out _ _ hS6 ?_⟩
   clear hK K'
   try simp only[Act.put,sZ0,sZ1,sZ2]
   refine Wk.g (i:=7) at7 (by kernel_rfl) (by kernel_rfl) fun K' hK=>?_
   have GA:=Lib.hid (G6.out.alloc #[.bool (ng q.num),.slice A3 m3 c3,.slice D3 m4 c4] 33 (noL3 _ _ _ _ _ _ _))
   go_simp
   have hSA:=GA.out.st.bel;refine hK.out _ _ hSA ?_
   clear hK K' G6 hS6
   try simp only[Act.put,sZ0,sZ1,sZ2]
   refine Wk.g (i:=8) at8 (by kernel_rfl) (by kernel_rfl) fun K' hK=>?_
   refine Gro.op (.tmp 13) (.tmp 20) 46 rfl (.agg #[.bool false,.slice none 0 0,.slice none 0 0]) 56 Tryz.underlying46 (by kernel_rfl) rfl (fun v hv z e=>by simp[Value.cells] at hv;subst e;simp at hv) rfl GA.out w6.heap.size y rfl (by rw[hcs];exact (GA.out.st).cb 0 rfl) (hyI.out.in_ _ _) (by have:=hRl.out;have:=hih.out;have:=hb.out;omega) (by have:=hRl.out;have:=hih.out;have:=hb.out;unfold maxLen;omega) ?_
   intro v' w7 G7;have hR7:Hid (∀ x∈R++[y],rwI ((A3,m3,c3,limbs q.num.natAbs)::(D3,m4,c4,dn q)::rs) x):=Lib.hid fun x hx=>by
    rcases List.mem_append.1 hx with hx | hx
    ·exact (hR.out x hx).mono (fun p hp=>List.mem_cons_of_mem _ (List.mem_cons_of_mem _ hp))
    ·rw[List.mem_singleton.1 hx];exact hyI.out
   have G8:=Lib.hid (Gro.sub G7 (fun x hx=>(hR7.out x hx).in_ _ _))
   have hS8:=G8.out.st.bel;refine hK.out _ _ hS8 ?_
   clear hK K' G7 GA hSA hR hyI hcs hRl
   try simp only[Act.put,sZ0,sZ1,sZ2]
   refine Wk.g (i:=9) at9 (by kernel_rfl) (by kernel_rfl) fun K' hK=>?_
   go_simp
   refine hK.out _ _ hS8 ?_
   clear hK K';refine Wk.done (by kernel_rfl) ?_
   clear hS8 hzk hbase;have hlt:=hih.out;have hbb:=hb.out
   go_simp
   go_wp2
   go_roundw
   case rel=>exact⟨i+1,_,_,_,rfl,by omega,by go_num,G8.out,hR7.out,hyV.out⟩
   case measure=>simp[intOf];omega
  ·obtain rfl:n=i:=by omega
   rw[List.take_of_length_le (by rw[hTL.out];exact Nat.le_refl _)] at hV
   obtain⟨A9,c9,bs9,hv,S9,_,hrow⟩:=GR.drow hR;subst hv;have hres:=Lib.hid (show RowO _ w (.returned (.slice A9 R.length c9)) wr from ⟨A9,c9,R,bs9,rs,rfl,S9.rebase hB.out,hrow,hV⟩)
   clear GR hR hV S9 hrow hin hlt;go_wp2;go_ret;exact hres.out
theorem plusR_any (M N:List Rat) (L K:List Gw) (A:Option Addr) (n c:Nat) (A':Option Addr) (c':Nat) (w1:World) (h:LR rwC w1 A n L) (h':LR rwC w1 A' n K) (hM:L.map rwV=M.map qV) (hN:K.map rwV=N.map qV) (hs:∀ q∈M,Rs q 9900000) (hs':∀ q∈N,Rs q 9900000) (hn:n≤1000):Calls Tryz.prog 57 #[.slice A n c,.slice A' n c'] w1 (RowO (plusQ M N) w1):=by
 have hML:M.length=n:=by have:=congrArg List.length hM;rw[List.length_map,List.length_map,h.len] at this;omega
 have hNL:N.length=n:=by have:=congrArg List.length hN;rw[List.length_map,List.length_map,h'.len] at this;omega
 have hTL:Hid ((plusQ M N).length=n):=Lib.hid (by unfold plusQ;rw[List.length_zipWith,hML,hNL,Nat.min_self])
 have hb:=Lib.hid hn;have h1:=Lib.hid h;have h2:=Lib.hid h';replace hM:=Lib.hid hM;replace hN:=Lib.hid hN;replace hs:=Lib.hid hs;replace hs':=Lib.hid hs';have S:=Lib.hid (St.new w1);clear hn h h' hML hNL;go_enter Tryz.func57,Tryz.ntmps57;go_wp2
 go_loopw [5,6] (fun rv iv wr=>∃ (i:Nat) (rs:List GRd) (R:List Gw) (av:Value),av=rv∧i≤n∧iv=.int .i64 i∧Gro rwC w1 wr [] rs 33 av R∧(∀ x∈R,rwI rs x)∧R.map rwV=((plusQ M N).take i).map qV) (fun _ iv _=>n-(intOf iv).toNat)
 case atStart=>exact⟨0,[],[],_,rfl,Nat.zero_le _,rfl,Gro.nil_ rwC S.out _,fun s hs=>(by cases hs),rfl⟩
 case round=>
  clear S;obtain⟨i,rs,R,av,hav,hin,rfl,GR,hR,hV⟩:=hrel;subst hav
  by_cases hlt:i<n
  ·have g1:(i:Int)<(n:Int):=by omega
   have g2:(0:Int)≤(i:Int):=by omega
   have hih:=Lib.hid hlt;obtain⟨b,o,x,rfl,hx,_,e0,e1,e2,R1,R2⟩:=row_get h1.out hlt;obtain⟨b2,o2,z,rfl,hz,_,z0,z1,z2,R3,R4⟩:=row_get h2.out hlt;obtain⟨p,hp,hpm,hxq⟩:=map_at hM.out hx;obtain⟨p2,hp2,hpm2,hzq⟩:=map_at hN.out hz;obtain⟨xb,X⟩:=rw_rr hxq R1 R2;obtain⟨zb,Z⟩:=rw_rr hzq R3 R4;obtain⟨q,hq⟩:∃ q,q=p+p2:=⟨_,rfl⟩;have hRl:Hid (R.length=i):=Lib.hid (by have:=congrArg List.length hV;rw[List.length_map,List.length_map,List.length_take] at this;have:=hTL.out;omega)
   have hT:Hid (∀ W,Below w1.heap.size w1 W→Calls Tryz.prog 83 #[.agg #[.bool x.b,.slice x.x.A x.x.n x.x.c,.slice x.y.A x.y.n x.y.c],.agg #[.bool z.b,.slice z.x.A z.x.n z.x.c,.slice z.y.A z.y.n z.y.c]] W (RetR q W)):=Lib.hid fun W hW=>by
    have:=faddQ _ _ x.x.A x.x.n x.x.c x.y.A x.y.n x.y.c z.x.A z.x.n z.x.c z.y.A z.y.n z.y.c W (X.below hW) (Z.below hW) (hs.out p hpm) (hs'.out p2 hpm2);rw[←xb,←zb,←hq] at this;exact this
   have hV2:Hid (∀ y:Gw,rwV y=qV q→(R++[y]).map rwV=((plusQ M N).take (i+1)).map qV):=Lib.hid fun y hy=>by
    rw[take_at (plusQ_at hp hp2),←hq,List.map_append,List.map_append,hV];simp only[List.map_cons,List.map_nil,hy]
   replace GR:=Lib.hid GR;replace hR:=Lib.hid hR;replace e0:=Lib.hid e0;replace e1:=Lib.hid e1;replace e2:=Lib.hid e2;replace z0:=Lib.hid z0;replace z1:=Lib.hid z1;replace z2:=Lib.hid z2;clear hlt hin hx hp hpm hxq R1 R2 xb X hV hq hz hp2 hpm2 hzq R3 R4 zb Z;go_upto_region 5 with fail
   obtain⟨ob,hOb,So⟩:=GR.out.unop;have hIn:=Lib.hid GR.out.2;replace hOb:=Lib.hid hOb;replace So:=Lib.hid So;clear GR;have hbase:=Lib.hid So.out;refine RW.begin (Z:=[]) (S:=(fun W=>Below w1.heap.size w1 W)) (by kernel_rfl) ?_ hbase.out ?_
   ·exact⟨by kernel_rfl,zis_nil,by decide,by decide,nol_nil,(fun _ _ h=>h.bel)⟩
   intro hzk;refine RW.t (i:=0) (v:=av) (some 13) at0 (hy:=fun _ _=>by kernel_rfl) (h:=?_)
   refine RW.t (i:=1) (v:=.slice (some ⟨b,o,none⟩) n c) (some 14) at1 (hy:=fun _ _=>by kernel_rfl) (h:=?_)
   refine RW.t (i:=2) (v:=.int .i64 i) (some 15) at2 (hy:=fun _ _=>by kernel_rfl) (h:=?_)
   refine RW.t (i:=3) (v:=.pointer (some ⟨b,o+i*3,none⟩)) (some 16) at3 (hy:=fun _ _=>by go_simp) (h:=?_)
   refine RW.t (i:=4) (v:=.agg #[.bool x.b,.slice x.x.A x.x.n x.x.c,.slice x.y.A x.y.n x.y.c]) (some 17) at4 (hy:=fun W hS=>by (have k0:=bel_cell hS e0.out;have k1:=bel_cell hS e1.out;have k2:=bel_cell hS e2.out;clear hS;go_simp)) (h:=?_)
   refine RW.t (i:=5) (v:=.slice (some ⟨b2,o2,none⟩) n c') (some 18) at5 (hy:=fun _ _=>by kernel_rfl) (h:=?_)
   refine RW.t (i:=6) (v:=.int .i64 i) (some 19) at6 (hy:=fun _ _=>by kernel_rfl) (h:=?_)
   refine RW.t (i:=7) (v:=.pointer (some ⟨b2,o2+i*3,none⟩)) (some 20) at7 (hy:=fun _ _=>by go_simp) (h:=?_)
   refine RW.t (i:=8) (v:=.agg #[.bool z.b,.slice z.x.A z.x.n z.x.c,.slice z.y.A z.y.n z.y.c]) (some 21) at8 (hy:=fun W hS=>by (have k0:=bel_cell hS z0.out;have k1:=bel_cell hS z1.out;have k2:=bel_cell hS z2.out;clear hS;go_simp)) (h:=?_)
   refine RW.tail hzk.out (by kernel_rfl) ?_
   intro gs' w5 hgs' hS Sb;obtain rfl:=len0 hgs';simp only[mark,fill,Act.put,sZ0,sZ1,sZ2];have G5:Gro rwC w1 w5 [] rs 33 av R:=⟨Apd.close hOb.out Sb,hIn.out⟩;refine Wk.g (i:=9) at9 (by kernel_rfl) (by kernel_rfl) fun K' hK=>?_
   refine oper_call (f:=83) (args:=#[.agg #[.bool x.b,.slice x.x.A x.x.n x.x.c,.slice x.y.A x.y.n x.y.c],.agg #[.bool z.b,.slice z.x.A z.x.n z.x.c,.slice z.y.A z.y.n z.y.c]]) rfl (by kernel_rfl) ((hT.out _ hS).mono ?_)
   rintro e w6 ⟨A3,m3,c3,D3,m4,c4,rfl,X,bb3⟩;obtain⟨y,hy⟩:∃ y:Gw,y=⟨ng q.num,⟨A3,m3,c3,limbs q.num.natAbs⟩,⟨D3,m4,c4,dn q⟩⟩:=⟨_,rfl⟩;have hcs:rwC.cs y=[.bool (ng q.num),.slice A3 m3 c3,.slice D3 m4 c4]:=by rw[hy];rfl
   have hyI:Hid (rwI ((A3,m3,c3,limbs q.num.natAbs)::(D3,m4,c4,dn q)::rs) y):=Lib.hid (by rw[hy];exact⟨List.mem_cons_self,List.mem_cons_of_mem _ List.mem_cons_self⟩)
   have hyV:=Lib.hid (hV2.out y (by rw[hy];rfl))
   have G6:=Lib.hid (((G5.call bb3).read X.d).read X.n);have hS6:=G6.out.st.bel;clear G5 X bb3 hy hT hV2 hOb hIn hS Sb;refine⟨_,rfl,hK.out _ _ hS6 ?_⟩
   clear hK K'
   try simp only[Act.put,sZ0,sZ1,sZ2]
   refine Wk.g (i:=10) at10 (by kernel_rfl) (by kernel_rfl) fun K' hK=>?_
   have GA:=Lib.hid (G6.out.alloc #[.bool (ng q.num),.slice A3 m3 c3,.slice D3 m4 c4] 33 (noL3 _ _ _ _ _ _ _))
   go_simp
   have hSA:=GA.out.st.bel;refine hK.out _ _ hSA ?_
   clear hK K' G6 hS6
   try simp only[Act.put,sZ0,sZ1,sZ2]
   refine Wk.g (i:=11) at11 (by kernel_rfl) (by kernel_rfl) fun K' hK=>?_
   refine Gro.op (.tmp 13) (.tmp 23) 46 rfl (.agg #[.bool false,.slice none 0 0,.slice none 0 0]) 56 Tryz.underlying46 (by kernel_rfl) rfl (fun v hv z e=>by simp[Value.cells] at hv;subst e;simp at hv) rfl GA.out w6.heap.size y rfl (by rw[hcs];exact (GA.out.st).cb 0 rfl) (hyI.out.in_ _ _) (by have:=hRl.out;have:=hih.out;have:=hb.out;omega) (by have:=hRl.out;have:=hih.out;have:=hb.out;unfold maxLen;omega) ?_
   intro v' w7 G7;have hR7:Hid (∀ x∈R++[y],rwI ((A3,m3,c3,limbs q.num.natAbs)::(D3,m4,c4,dn q)::rs) x):=Lib.hid fun x hx=>by
    rcases List.mem_append.1 hx with hx | hx
    ·exact (hR.out x hx).mono (fun p hp=>List.mem_cons_of_mem _ (List.mem_cons_of_mem _ hp))
    ·rw[List.mem_singleton.1 hx];exact hyI.out
   have G8:=Lib.hid (Gro.sub G7 (fun x hx=>(hR7.out x hx).in_ _ _))
   have hS8:=G8.out.st.bel;refine hK.out _ _ hS8 ?_
   clear hK K' G7 GA hSA hR hyI hcs hRl
   try simp only[Act.put,sZ0,sZ1,sZ2]
   refine Wk.g (i:=12) at12 (by kernel_rfl) (by kernel_rfl) fun K' hK=>?_
   go_simp
   refine hK.out _ _ hS8 ?_
   clear hK K';refine Wk.done (by kernel_rfl) ?_
   clear hS8 hzk hbase;have hlt:=hih.out;have hbb:=hb.out
   go_simp
   go_wp2
   go_roundw
   case rel=>exact⟨i+1,_,_,_,rfl,by omega,by go_num,G8.out,hR7.out,hyV.out⟩
   case measure=>simp[intOf];omega
  ·obtain rfl:n=i:=by omega
   rw[List.take_of_length_le (by rw[hTL.out];exact Nat.le_refl _)] at hV
   obtain⟨A9,c9,bs9,hv,S9,_,hrow⟩:=GR.drow hR;subst hv;have hres:=Lib.hid (show RowO _ w1 (.returned (.slice A9 R.length c9)) wr from ⟨A9,c9,R,bs9,rs,rfl,S9,hrow,hV⟩)
   clear GR hR hV S9 hrow hin hlt;go_wp2;go_ret;exact hres.out
end Go.Proofs.YthlinhconnmbcaaGreat
namespace Go.Proofs.YthlinhconnmbcaaGreat
open Go.RowKit RQ GE
set_option linter.unusedVariables false
section
variable {P:Program} {ops:Array Oper} {Q:Exit→Act→World→Prop} {S:World→Prop} {K:List Nat}
def early (K:List Nat) (L:Array Bool):Bool:=K.all fun k=>!(L.getD k false)
def wpL (P:Program) (ops:Array Oper) (Q:Exit→Act→World→Prop) (S:World→Prop) (K:List Nat):Nat→Array Bool→Act→World→Prop
 | 0,L,a,w=>Region.ready .any ops L=[]∧Q .normal a w
 | n+1,L,a,w=>(Region.ready .any ops L=[]→Q .normal a w) ∧
  ∀ i∈Region.ready .any ops L,wpOp P ops Q i (fun a' w'=>(early K (L.setIfInBounds i true)=true→S w')∧wpL P ops Q S K n (L.setIfInBounds i true) a' w') a w
theorem wpAny_of_L:∀ (fuel:Nat) (L:Array Bool) (a:Act) (w:World),wpL P ops Q S K fuel L a w→wpAny P .any ops Q fuel L a w
 | 0,_,_,_,h=>h
 | n+1,_,_,_,h=>⟨h.1,fun i hi=>wpOp_mono (fun a' w' h'=>wpAny_of_L n _ a' w' h'.2) (h.2 i hi)⟩
def clos (ops:Array Oper) (L:Array Bool):Prop:=∀ j o,ops[j]?=some o→L.getD j false=true→∀ e∈o.after,Region.binds .any e=true→L.getD e.on false=true
def closB (ops:Array Oper) (L:Array Bool):Bool:=(List.range ops.size).all fun j=>!(L.getD j false)||match ops[j]? with
 | some o=>o.after.toList.all fun e=>!(Region.binds .any e)||L.getD e.on false
 | none=>true
theorem clos_of {L:Array Bool} (h:closB ops L=true):clos ops L:=by
 intro j o ho hj e he hb;have hlt:j<ops.size:=(Array.getElem?_eq_some_iff.1 ho).1
 have:=List.all_eq_true.1 h j (List.mem_range.2 hlt);rw[ho,hj] at this;simp only[Bool.not_true,Bool.false_or] at this;have:=List.all_eq_true.1 this e (by simpa using he)
 rw[hb] at this
 simpa using this
def waits (ops:Array Oper) (i:Nat):Nat→Nat→Bool
 | 0,_=>false
 | n+1,k=>match ops[k]? with
  | some o=>o.after.toList.any fun e=>Region.binds .any e&&(e.on==i||waits ops i n e.on)
  | none=>false
theorem waits_done {i:Nat} {L:Array Bool} (hc:clos ops L):∀ (n k:Nat) (o:Oper),ops[k]?=some o→(∀ e∈o.after,Region.binds .any e=true→L.getD e.on false=true)→waits ops i n k=true→L.getD i false=true:=by
 intro n
 induction n with
 | zero=>intro k o _ _ h;cases h
 | succ n ih=>
  intro k o ho hd h;unfold waits at h;rw[ho] at h;obtain⟨e,he,h⟩:=List.any_eq_true.1 h;rw[Bool.and_eq_true,Bool.or_eq_true] at h;obtain⟨hb,h⟩:=h;have hde:=hd e (by simpa using he) hb
  rcases h with h | h
  ·rw[←eq_of_beq h];exact hde
  ·cases hn:ops[e.on]? with
   | none=>cases n with
    | zero=>cases h
    | succ n=>unfold waits at h;rw[hn] at h;cases h
   | some o'=>exact ih e.on o' hn (fun e' he' hb'=>hc _ o' hn hde e' he' hb') h
theorem clos_set {j:Nat} {L:Array Bool} (hc:clos ops L) (hj:j∈Region.ready .any ops L):clos ops (L.setIfInBounds j true):=by
 intro k o ho hk e he hb;obtain⟨hju,oj,hoj,hall⟩:=mem_ready.1 hj
 by_cases hkj:j=k
 ·subst hkj
  rw[ho] at hoj;obtain rfl:=Option.some.inj hoj;exact getD_set_true (hall e he hb)
 ·have:L.getD k false=true:=by
   rwa [getD_set_ne false hkj] at hk
  exact getD_set_true (hc k o ho this e he hb)
theorem early_set {j:Nat} {L:Array Bool} (h:early K L=true) (hj:j∉K):early K (L.setIfInBounds j true)=true:=by
 refine List.all_eq_true.2 fun k hk=>?_
 have:=List.all_eq_true.1 h k hk
 rwa [getD_set_ne false (show j≠k from fun e=>hj (by rw[e];exact hk))]
theorem wpL_first {i:Nat} {oi:Oper} {v:Value} (hi:ops[i]?=some oi) (hsel:∀ (j:Nat) (o:Oper) cs b,ops[j]?=some o→o.op≠.select cs b)
  (hQ:∀ c a w,Q (.panic c) (a.put oi.dst v) w→Q (.panic c) a w) (hiK:i∉K) (hw:∀ k∈K,∃ n,waits ops i n k=true) :
  ∀ (fuel:Nat) (L:Array Bool) (a:Act) (w:World),clos ops L→early K L=true →
   (∀ j oj,ops[j]?=some oj→j≠i→L.getD j true=false→(∀ e∈oj.after,Region.binds .any e=true→e.on≠i)→oi.apart ops oj=true) →
   i∈Region.ready .any ops L→YieldsIf P ops S oi v a→S w →
   wpL P ops Q S K fuel (L.setIfInBounds i true) (a.put oi.dst v) w→wpL P ops Q S K (fuel+1) L a w:=by
 intro fuel
 induction fuel with
 | zero=>
  intro L a w _ _ _ hr hy hS H;refine⟨fun h=>(by rw[h] at hr;cases hr),fun j hj=>?_⟩
  by_cases hji:j=i
  ·subst hji;exact hy.wpOp hi hS ⟨fun _=>hS,H⟩
  ·have:=ready_mono hj hji
   rw[H.1] at this
   cases this
 | succ fuel ih=>
  intro L a w hcl hea hfree hr hy hS H;refine⟨fun h=>(by rw[h] at hr;cases hr),fun j hj=>?_⟩
  by_cases hji:j=i
  ·subst hji;exact hy.wpOp hi hS ⟨fun _=>hS,H⟩
  ·have h1:=H.2 j (ready_mono hj hji)
   obtain⟨hjun,oj,hoj,hall⟩:=mem_ready.1 hj;have hiun:¬ L.getD i false=true:=fun h1=>by
    have h0:=(mem_ready.1 hr).1
    rcases Nat.lt_or_ge i L.size with h' | h'
    ·simp[h'] at h0 h1;rw[h0] at h1;cases h1
    ·simp[Array.getElem?_eq_none h'] at h1
   have hnot:∀ e∈oj.after,Region.binds .any e=true→e.on≠i:=fun e he hb heq=>by
    have h1:=hall e he hb;rw[heq] at h1;exact hiun h1
   have hjK:j∉K:=fun hk=>by
    obtain⟨n,hn⟩:=hw j hk;exact hiun (waits_done hcl n j oj hoj hall hn)
   have h2:=wpOp_putIf hoj (hfree j oj hoj hji hjun hnot) (fun cs b=>hsel i oi cs b hi) (fun cs b=>hsel j oj cs b hoj) hQ hy h1
   have hfree':∀ k ok,ops[k]?=some ok→k≠i→(L.setIfInBounds j true).getD k true=false →
     (∀ e∈ok.after,Region.binds .any e=true→e.on≠i)→oi.apart ops ok=true:=fun k ok hk hki hun hno=>by
    refine hfree k ok hk hki ?_ hno
    by_cases hjk:j=k
    ·subst hjk;exact hjun
    ·rw[getD_set_ne true hjk] at hun;exact hun
   have hej:early K (L.setIfInBounds j true)=true:=early_set hea hjK;refine wpOp_mono (fun a' w' h3=>⟨fun _=>h3.2.1 (by rw[Array.setIfInBounds_comm _ _ (Ne.symm hji)];exact early_set hej hiK),ih (L.setIfInBounds j true) a' w' (clos_set hcl hj) hej hfree' (ready_mono hr (Ne.symm hji)) h3.1 (h3.2.1 (by rw[Array.setIfInBounds_comm _ _ (Ne.symm hji)];exact early_set hej hiK)) ?_⟩) h2
   rw[Array.setIfInBounds_comm _ _ hji];exact h3.2.2
def Wl (P:Program) (ops:Array Oper) (Q:Exit→Act→World→Prop) (S:World→Prop) (K:List Nat) (L:Array Bool) (a:Act) (w:World):Prop:=wpL P ops Q S K (lft L) L a w
theorem Wl.start {id:Nat} {a:Act} {w:World} (S:World→Prop) (K:List Nat) (hm:P.follows .mixedOrders=true) (h:Wl P ops Q S K (Array.replicate ops.size false) a w.drew):(Code.region id ops true).wp P Q a w:=by
 unfold Wl at h;rw[show lft (Array.replicate ops.size false)=ops.size by simp[lft]] at h
 exact wp_region_any hm (wpAny_of_L _ _ _ _ h)
def lateOk (ops:Array Oper) (K:List Nat) (L:Array Bool) (i:Nat):Bool:=
 Region.noSelect ops&&Region.free .any ops L i&&(Region.ready .any ops L).contains i&&closB ops L&&early K L && !(K.contains i)&&K.all (waits ops i 20)
theorem Wl.t {L:Array Bool} {a:Act} {w:World} {i:Nat} {oi:Oper} {v:Value} (dst:Option Nat) (hi:ops[i]?=some oi) (hd:oi.dst=dst:=by rfl) (hc:lateOk ops K L i=true:=by kernel_rfl) (hw:Region.wanted oi (yielded ops a.tmps)=true:=by kernel_rfl)
  (hQ:∀ c a w,Q (.panic c) (Act.put a dst v) w→Q (.panic c) a w:=by exact fun _ _ _ h=>h) (hy:∀ w,S w→(execOp a.eval oi).run P w=.ok (.value v) w) (hS:S w)
  (h:Wl P ops Q S K (L.setIfInBounds i true) (a.put dst v) w):Wl P ops Q S K L a w:=by
 simp only[lateOk,Bool.and_eq_true,Bool.not_eq_true'] at hc;obtain⟨⟨⟨⟨⟨⟨c1,c2⟩,c3⟩,c4⟩,c5⟩,c6⟩,c7⟩:=hc;subst hd;have hm:i∈Region.ready .any ops L:=by simpa using c3
 unfold Wl at *;rw[lft_set (mem_ready.1 hm).1];exact wpL_first hi (Region.noSelect_spec c1) hQ (by simpa using c6) (fun k hk=>⟨20,List.all_eq_true.1 c7 k hk⟩) _ _ _ _ (clos_of c4) c5 (Region.free_spec hi c2) hm (.inl ⟨hw,hy⟩) hS h
theorem Wl.one {i:Nat} {o:Oper} {L:Array Bool} {a:Act} {w:World} (hr:(Region.ready .any ops L==[i])=true) (ho:ops[i]?=some o) (hw:Region.wanted o (yielded ops a.tmps)=true)
  (h:∀ K':Act→World→Prop,Shut (∀ a w,(early K (L.setIfInBounds i true)=true→S w)→Wl P ops Q S K (L.setIfInBounds i true) a w→K' a w)→Oper.wp P o a w K' Q):Wl P ops Q S K L a w:=by
 have hr:Region.ready .any ops L=[i]:=by simpa using hr
 have hm:i∈Region.ready .any ops L:=by rw[hr];exact List.mem_singleton.2 rfl
 unfold Wl at *;rw[lft_set (mem_ready.1 hm).1];refine⟨fun h0=>(by rw[h0] at hr;cases hr),fun j hj=>?_⟩
 rw[hr] at hj;have:=List.mem_singleton.1 hj;subst this;exact wpOp_step ho (fun K' hK=>by rw[if_pos hw];exact h K' (fun a w hS hW=>hK a w ⟨hS,hW⟩))
theorem Wl.g {i:Nat} {o:Oper} {L:Array Bool} {a:Act} {w:World} (ho:ops[i]?=some o) (hr:(Region.ready .any ops L==[i])=true) (hw:Region.wanted o (yielded ops a.tmps)=true)
  (h:∀ K':Act→World→Prop,Shut (∀ a w,S w→Wl P ops Q S K (L.setIfInBounds i true) a w→K' a w)→Oper.wp P o a w K' Q):Wl P ops Q S K L a w:=by
 refine Wl.one hr ho hw fun K' hK=>h K' ?_
 exact fun a w hS hW=>hK.out a w (fun _=>hS) hW
theorem Wl.s {i:Nat} {o:Oper} {L:Array Bool} {a:Act} {w:World} (ho:ops[i]?=some o) (hr:(Region.ready .any ops L==[i])=true) (hw:Region.wanted o (yielded ops a.tmps)=true) (hk:early K (L.setIfInBounds i true)=false)
  (h:∀ K':Act→World→Prop,Shut (∀ a w,Wl P ops Q S K (L.setIfInBounds i true) a w→K' a w)→Oper.wp P o a w K' Q):Wl P ops Q S K L a w:=by
 refine Wl.one hr ho hw fun K' hK=>h K' ?_
 exact fun a w hW=>hK.out a w (fun h=>by rw[hk] at h;cases h) hW
theorem Wl.done {L:Array Bool} {a:Act} {w:World} (hr:Region.ready .any ops L=[]) (h:Q .normal a w):Wl P ops Q S K L a w:=by
 unfold Wl
 cases lft L with
 | zero=>exact⟨hr,h⟩
 | succ n=>exact⟨fun _=>h,by rw[hr];simp⟩
end
end Go.Proofs.YthlinhconnmbcaaGreat
namespace Go.Proofs.YthlinhconnmbcaaGreat
open Go.RowKit RQ GE
set_option linter.unusedVariables false
def pr1 (c:Nat) (l:Rat) (a b:List Rat) (j:Nat):List Rat:=
 (List.range b.length).map fun x=>if x<c then b.getD x 0 else if x=c then 0 else if x<j then (a.getD c 0*b.getD x 0-b.getD c 0*a.getD x 0) / l else b.getD x 0
theorem pr1_len {c:Nat} {l:Rat} {a b:List Rat} {j:Nat}:(pr1 c l a b j).length=b.length:=by unfold pr1;rw[List.length_map,List.length_range]
theorem pr1_at {c:Nat} {l:Rat} {a b:List Rat} {j x:Nat} (hx:x<b.length):(pr1 c l a b j)[x]?=some (if x<c then b.getD x 0 else if x=c then 0 else if x<j then (a.getD c 0*b.getD x 0-b.getD c 0*a.getD x 0) / l else b.getD x 0):=by
 unfold pr1;rw[List.getElem?_map,List.getElem?_range hx];rfl
theorem pr1_ext {p q:List Rat} (hl:p.length=q.length) (h:∀ x,x<p.length→p[x]?=q[x]?):p=q:=by
 apply List.ext_getElem?
 intro x
 rcases Nat.lt_or_ge x p.length with hx | hx
 ·exact h x hx
 ·rw[List.getElem?_eq_none hx,List.getElem?_eq_none (by omega)]
theorem getD_at {b:List Rat} {x:Nat} (hx:x<b.length):b[x]?=some (b.getD x 0):=by
 rw[List.getD_eq_getElem?_getD,List.getElem?_eq_getElem hx];rfl
theorem pr1_start {c:Nat} {l:Rat} {a b:List Rat} (hc:c<b.length):b.set c 0=pr1 c l a b (c+1):=by
 refine pr1_ext (by rw[List.length_set,pr1_len]) fun x hx=>?_
 rw[List.length_set] at hx;rw[pr1_at hx]
 by_cases e:c=x
 ·subst e
  rw[List.getElem?_set_self hx,if_neg (Nat.lt_irrefl c),if_pos rfl]
 ·rw[List.getElem?_set_ne e,getD_at hx]
  by_cases h:x<c
  ·rw[if_pos h]
  ·rw[if_neg h,if_neg (fun h'=>e h'.symm),if_neg (by omega)]
theorem pr1_step {c:Nat} {l:Rat} {a b:List Rat} {j:Nat} (hc:c<j) (hj:j<b.length):(pr1 c l a b j).set j ((a.getD c 0*b.getD j 0-b.getD c 0*a.getD j 0) / l)=pr1 c l a b (j+1):=by
 refine pr1_ext (by rw[List.length_set,pr1_len,pr1_len]) fun x hx=>?_
 rw[List.length_set,pr1_len] at hx;rw[pr1_at hx]
 by_cases e:j=x
 ·subst e
  rw[List.getElem?_set_self (by rw[pr1_len];exact hx),if_neg (by omega),if_neg (by omega),if_pos (by omega)]
 ·rw[List.getElem?_set_ne e,pr1_at hx]
  by_cases h:x<c
  ·rw[if_pos h,if_pos h]
  ·by_cases h2:x=c
   ·rw[if_neg h,if_pos h2,if_neg h,if_pos h2]
   ·rw[if_neg h,if_neg h2,if_neg h,if_neg h2]
    by_cases h3:x<j
    ·rw[if_pos h3,if_pos (by omega)]
    ·rw[if_neg h3,if_neg (by omega)]
theorem pr1_end {c:Nat} {l:Rat} {a b:List Rat}:pr1 c l a b b.length=brow c l a b:=by
 refine pr1_ext (by rw[pr1_len,brow_len]) fun x hx=>?_
 rw[pr1_len] at hx;rw[pr1_at hx];unfold brow;rw[List.getElem?_map,List.getElem?_range hx]
 show _=some (if x<c then b.getD x 0 else if x=c then 0 else (a.getD c 0*b.getD x 0-b.getD c 0*a.getD x 0) / l)
 by_cases h:x<c
 ·rw[if_pos h,if_pos h]
 ·by_cases h2:x=c
  ·rw[if_neg h,if_pos h2,if_neg h,if_pos h2]
  ·rw[if_neg h,if_neg h2,if_neg h,if_neg h2,if_pos hx]
theorem pr1_get {c:Nat} {l:Rat} {a b:List Rat} {j:Nat} (hc:c<j) (hj:j<b.length):(pr1 c l a b j).getD j 0=b.getD j 0:=by
 rw[List.getD_eq_getElem?_getD,pr1_at hj,if_neg (by omega),if_neg (by omega),if_neg (by omega)];rfl
theorem bcls_top {M:List (List Rat)} {c:Nat} {l:Rat} {t:Nat}:∀ {i:Nat},i≤t+1→bcls M c l t i=M
 | 0,_=>rfl
 | i+1,h=>by
  unfold bcls;rw[if_pos (by omega)]
  exact bcls_top (by omega)
theorem set_getD {M:List (List Rat)} {i a:Nat} {r:List Rat} (h:i≠a):(M.set i r).getD a []=M.getD a []:=by
 rw[List.getD_eq_getElem?_getD,List.getD_eq_getElem?_getD,List.getElem?_set_ne h]
theorem set_getS {M:List (List Rat)} {i:Nat} {r:List Rat} (h:i<M.length):(M.set i r).getD i []=r:=by
 rw[List.getD_eq_getElem?_getD,List.getElem?_set_self h];rfl
theorem mulT {x y:Rt} {W:World} (hx:x.can) (hx':x.raw W) (hy:y.can) (hy':y.raw W):Calls Tryz.prog 60 #[.agg #[.bool x.b,.slice x.A x.n x.c,.slice x.D x.m x.d],.agg #[.bool y.b,.slice y.A y.n y.c,.slice y.D y.m y.d]] W (RetR (x.q*y.q) W):=mulW _ _ _ _ _ _ _ _ _ _ _ _ _ _ _ _ _ _ _ _ W (hx'.at_ (can_k hx hx')) (hy'.at_ (can_k hy hy'))
theorem subT {x y:Rt} {W:World} (hx:x.can) (hx':x.raw W) (hy:y.can) (hy':y.raw W):Calls Tryz.prog 79 #[.agg #[.bool x.b,.slice x.A x.n x.c,.slice x.D x.m x.d],.agg #[.bool y.b,.slice y.A y.n y.c,.slice y.D y.m y.d]] W (RetR (x.q-y.q) W):=subW _ _ _ _ _ _ _ _ _ _ _ _ _ _ _ _ _ _ _ _ W (hx'.at_ (can_k hx hx')) (hy'.at_ (can_k hy hy'))
theorem quoT {x y:Rt} {W:World} (hx:x.can) (hx':x.raw W) (hy:y.can) (hy':y.raw W):Calls Tryz.prog 41 #[.agg #[.bool x.b,.slice x.A x.n x.c,.slice x.D x.m x.d],.agg #[.bool y.b,.slice y.A y.n y.c,.slice y.D y.m y.d]] W (RetR (x.q / y.q) W):=quot_any _ _ _ _ _ _ _ _ _ _ _ _ _ _ _ _ _ _ _ _ W (hx'.at_ (can_k hx hx')) (hy'.at_ (can_k hy hy'))
theorem RR.raw {W:World} {A:Option Addr} {n c:Nat} {D:Option Addr} {m d:Nat} {q:Rat} (X:RR W A n c D m d q):(Rt.of A n c D m d q).raw W:=⟨X.n,X.d⟩
end Go.Proofs.YthlinhconnmbcaaGreat
