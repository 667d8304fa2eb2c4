/- Solve of the reference. -/
import Derived.Test.YtfnkpfbobdmieaaGreatM30
set_option maxRecDepth 100000
set_option maxHeartbeats 40000000
set_option linter.unusedVariables false
namespace Go.Proofs.YtfnkpfbobdmieaaGreat
open Go.RowKit RQ GE
set_option linter.unusedVariables false
section
variable {w W:World} {bs:List Bk} {rs:List Rdg} {v:Value} {n:Nat} {xs:List Value} {o:Oper} {a:Act} {K':Act→World→Prop} {Q:Exit→Act→World→Prop}
theorem op_rat (s x:Operand) (ho:o.op=.call { callee:=.builtin .append,args:=#[s,x],argTypes:=#[23,23] })
  (hs:a.eval s=v) (h:Apd w W bs rs 45 3 v n xs) (g:Nat) {b:Bool} {A:Option Addr} {n' c:Nat} {D:Option Addr} {m d:Nat} (hx:a.eval x=.slice (some ⟨g,0,none⟩) 1 1) (hc:Cb W g #[.bool b,.slice A n' c,.slice D m d] 45) (hn:n≤100000)
  (hk:∀ v' W',Apd w W' bs rs 45 3 v' (n+1) (xs++[.bool b,.slice A n' c,.slice D m d])→K' (a.put o.dst v') W'):Oper.wp Tryz.prog o a W K' Q:=by
 obtain⟨i0,hi,hzz⟩:=Option.map_eq_some_iff.1 infoR;simp only[Prod.mk.injEq] at hzz;obtain⟨hz0,hz1,hz2⟩:=hzz;obtain⟨v',W',hr,hA⟩:=Apd.run (P:=Tryz.prog) 23 o.type i0 _ 56 Tryz.underlying23 hi hz0 hz1 hz2 rfl (fun v hv z e=>by subst e;simp[Value.cells] at hv) h ⟨g,0,none⟩ 1 1 [.bool b,.slice A n' c,.slice D m d] rfl (fun j u hu=>by
  have hadd:(⟨g,0,none⟩:Addr).add j=⟨g,j,none⟩:=by unfold Addr.add;split<;>simp_all
  rw[hadd];exact hc.cell (by simpa using hu)) (fun u hu=>by simp at hu;rcases hu with rfl | rfl | rfl<;>rfl) (fun v hv z e=>by subst e;simp at hv) (by decide) (by unfold maxLen;omega) (by omega)
 unfold Oper.wp execOp;simp only[ho,resolve,invoke,builtin,Sem.run_bind,Sem.run_pure,Result.andThen_ok,List.map_toArray,List.map_cons,List.map_nil,hs,hx,hr];exact hk v' W' hA
theorem op_row (s x:Operand) (ho:o.op=.call { callee:=.builtin .append,args:=#[s,x],argTypes:=#[22,22] })
  (hs:a.eval s=v) (h:Apd w W bs rs 23 1 v n xs) (g:Nat) {A:Option Addr} {n' c:Nat} (hx:a.eval x=.slice (some ⟨g,0,none⟩) 1 1) (hc:Cb W g #[.slice A n' c] 23) (hn:n≤100000)
  (hk:∀ v' W',Apd w W' bs rs 23 1 v' (n+1) (xs++[.slice A n' c])→K' (a.put o.dst v') W'):Oper.wp Tryz.prog o a W K' Q:=by
 obtain⟨i0,hi,hzz⟩:=Option.map_eq_some_iff.1 infoRow;simp only[Prod.mk.injEq] at hzz;obtain⟨hz0,hz1,hz2⟩:=hzz;obtain⟨v',W',hr,hA⟩:=Apd.run (P:=Tryz.prog) 22 o.type i0 _ 24 Tryz.underlying22 hi hz0 hz1 hz2 rfl (fun v hv z e=>by subst e;simp[Value.cells] at hv) h ⟨g,0,none⟩ 1 1 [.slice A n' c] rfl (fun j u hu=>by
  have hadd:(⟨g,0,none⟩:Addr).add j=⟨g,j,none⟩:=by unfold Addr.add;split<;>simp_all
  rw[hadd];exact hc.cell (by simpa using hu)) (fun u hu=>by simp at hu;rcases hu with rfl;rfl) (fun v hv z e=>by subst e;simp at hv) (by decide) (by unfold maxLen;omega) (by omega)
 unfold Oper.wp execOp;simp only[ho,resolve,invoke,builtin,Sem.run_bind,Sem.run_pure,Result.andThen_ok,List.map_toArray,List.map_cons,List.map_nil,hs,hx,hr];exact hk v' W' hA
end
theorem rsolve_any (M:List Ro) (A:Option Addr) (n c:Nat) (w:World) (h:Mr w A n c M) (hm:∀ r∈M,r.n≤9223372036854775807) (hn:n≤9223372036854775807) (hw:wfM M=true) (ka:∀ r∈M,∀ x∈r.L,Rk x.b x.n x.x x.m x.y x.q) (b:Nat) (hs:∀ r∈M,∀ x∈r.L,Rs x.q b) (hb:1≤b) (hB:b*5^n≤9000000) (Lb:List Rt) (Ab:Option Addr) (cb:Nat) (hbl:Sr w Ab n cb Lb) (kb:∀ x∈Lb,Rk x.b x.n x.x x.m x.y x.q) (hsb:∀ x∈Lb,Rs x.q b) (hk5:colM M≤95):Calls Tryz.prog 31 #[.slice A n c,.slice Ab n cb] w (fun e w'=>(colM M∉(red (wcol n (colM M)) (widQ (qM M) (Lb.map (·.q)))).p∧RetLX 0 (solQ n (colM M) (qM M) (Lb.map (·.q))) w e w')∨(colM M∈(red (wcol n (colM M)) (widQ (qM M) (Lb.map (·.q)))).p∧RetLX 11 [] w e w')):=by
 obtain⟨hr,hq,hk,h0,hn96,hk96⟩:=wf_rct h hw;have hb9:b≤9000000:=Nat.le_trans (Nat.le_mul_of_pos_right b (Nat.pow_pos (by decide))) hB
 have hF:=fun W h'=>rwf_any M A n c W h' hm hn
 rw[hw] at hF;have hC:=Lib.hid (fun W h'=>rcols_any M A n c W h')
 have hTk:Hid (∀ r∈M,∀ W,Mr W A n c M→Calls Tryz.prog 61 #[.slice r.A r.n r.c] W (RowA (r.L.map (·.q)) W)):=Lib.hid fun r hr W h'=>(takeG_any _ r.L r.A r.n r.c W (h'.rd r hr) rfl (ka r hr) (by rw[hk r hr];omega)).mono fun e w' hG=>hG.apd fun q hq=>by
  obtain⟨x,hx,rfl⟩:=List.mem_map.1 hq;exact (hs r hr x hx).mono hb9
 have hTy:Hid (∀ y∈Lb,∀ W,y.raw W→Calls Tryz.prog 42 #[.agg #[.bool y.b,.slice y.A y.n y.c,.slice y.D y.m y.d]] W (RetR y.q W)):=Lib.hid fun y hy W hW=>takeF y.b y.A y.n y.c y.x y.D y.m y.d y.y y.q W (hW.at_ (kb y hy))
 have hRy:Hid (∀ y∈Lb,Rs y.q 9000000):=Lib.hid fun y hy=>(hsb y hy).mono hb9
 obtain⟨k,hkk⟩:∃ k,k=colM M:=⟨_,rfl⟩;obtain⟨Q,hQ⟩:∃ Q,Q=qM M:=⟨_,rfl⟩;obtain⟨bq,hbq⟩:∃ z,z=Lb.map (·.q):=⟨_,rfl⟩;have hbql:bq.length=n:=by rw[hbq,List.length_map];exact hbl.len
 have hQ1:Hid (∀ (i:Nat) (r:Ro),M[i]?=some r→Q[i]?=some (r.L.map (·.q))):=Lib.hid fun i r hi=>by
  rw[hQ];unfold qM;rw[List.getElem?_map,hi];rfl
 have hbq1:Hid (∀ (i:Nat) (x:Rt),Lb[i]?=some x→bq[i]?=some x.q):=Lib.hid fun i x hi=>by rw[hbq,List.getElem?_map,hi];rfl
 have hQs:∀ r∈Q,∀ q∈r,Rs q b:=fun r hr q hq=>by
  rw[hQ] at hr;obtain⟨y,hy,rfl⟩:=List.mem_map.1 hr;obtain⟨z,hz,rfl⟩:=List.mem_map.1 hq;exact hs y hy z hz
 simp only[←hkk,←hQ,←hbq] at hC hr hq hk h0 hk96 hk5 ⊢;obtain⟨m,hm_⟩:∃ m,m=wcol n k:=⟨_,rfl⟩;have hm1:0<n→m=k+1:=fun h=>by rw[hm_];unfold wcol;rw[if_neg (by omega)]
 have hm2:n=0→m=0:=fun h=>by rw[hm_];unfold wcol;rw[if_pos h]
 have hb1:=wid_len hq hbql;have hb2:rct m (widQ Q bq):=by rw[hm_];exact wid_rct hq hr
 have hb3:∀ r∈widQ Q bq,∀ x∈r,Rs x b:=fun r hr' x hx=>by
  obtain⟨s,hs',y,hy,rfl⟩:=wid_of hr'
  rcases List.mem_append.1 hx with hx | hx
  ·exact hQs s hs' x hx
  ·rw[List.mem_singleton.1 hx]
   rw[hbq] at hy;obtain⟨z,hz',rfl⟩:=List.mem_map.1 hy;exact hsb z hz'
 unfold solQ;simp only[←hm_];have hRd:Hid (∀ (W:World) (K:List Ro) (A':Option Addr) (c':Nat),Mr W A' n c' K→(∀ r∈K,r.n=k+1∧∀ x∈r.L,x.can)→qM K=widQ Q bq→Calls Tryz.prog 51 #[.slice A' n c'] W (RetRr (red m (widQ Q bq)).M (red m (widQ Q bq)).p (red m (widQ Q bq)).f W)):=Lib.hid (fun W K A' c' hK hc hKq=>by
  have hkn:∀ r∈K,r.n=k+1:=fun r hr=>(hc r hr).1
  have hcan:canM K:=fun r hr=>⟨by rw[hkn r hr];omega,(hc r hr).2⟩
  have hsK:∀ r∈K,∀ x∈r.L,Rs x.q b:=qM_all (by rw[hKq];exact hb3)
  rcases Nat.eq_zero_or_pos n with h1 | h1
  ·have:K=[]:=List.length_eq_zero_iff.1 (hK.len.trans h1)
   subst this h1;have h2:=rred_all [] A' 0 c' b W hK rfl (canM_rk hK hcan) hsK hb hB;rw[show colM []=m by rw[hm2 rfl];rfl,hKq] at h2
   exact h2
  ·have hc1:colM K=m:=by rw[colM_of hkn (by rw[hK.len];exact h1),hm1 h1]
   have h2:=rred_all K A' n c' b W hK (wfM_of hkn (by omega) (by omega) (by rw[hK.len];omega)) (canM_rk hK hcan) hsK hb hB
   rw[hc1,hKq] at h2;exact h2)
 have RFx:=Lib.hid (red_rf hb1 hb2).1;obtain⟨RM,hRM⟩:∃ z,z=(red m (widQ Q bq)).M:=⟨_,rfl⟩;obtain⟨ps,hps⟩:∃ z,z=(red m (widQ Q bq)).p:=⟨_,rfl⟩;obtain⟨RF,hRF⟩:∃ z,z=(red m (widQ Q bq)).f:=⟨_,rfl⟩;simp only[←hRM,←hps,←hRF] at hRd RFx ⊢;have hk9:k≤95:=hk5;have hn9:=hn96;have hp9:ps.length≤96:=by have:=RFx.out.ple;omega
 have hmk:=make_rat k (by omega)
 have hkk2:=Lib.hid hk;have hm1h:=Lib.hid hm1;have hwl:=Lib.hid hb1;have S0:=Lib.hid (St.new w);replace h:=Lib.hid h;replace hF:=Lib.hid hF;replace hbl:=Lib.hid hbl;clear hm hn hw ka hs hb hB kb hsb hk5 hr hq hk h0 hn96 hk96 hb9 hQs hkk hQ hbq hbql hm_ hm1 hm2 hb1 hb2 hb3 hRM hps hRF;go_enter Tryz.func31,Tryz.ntmps31
 go_wp2_with fail
 refine (hF.out _ h.out).mono ?_
 rintro e w1 ⟨rfl,bb⟩;replace S0:=Lib.hid (S0.out.call bb);clear hF bb
 go_wp2_with fail
 refine (hC.out _ (h.out.bel S0.out.bel)).mono ?_
 rintro e w2 ⟨rfl,bb⟩;replace S0:=Lib.hid (S0.out.call bb);clear hC bb;go_wp2
 go_loopw [7,8] (fun ov iv wr=>∃ (i:Nat) (K:List Ro) (bs:List Bk) (rs:List Rdg) (oz:Value),oz=ov∧i≤n∧iv=.int .i64 i∧K.length=i∧Apd w wr bs rs 23 1 oz i (K.map Ro.v)∧(∀ r∈K,r.In bs rs)∧(∀ r∈K,r.n=k+1∧∀ x∈r.L,x.can)∧(∀ j,j<i→(qM K)[j]?=(widQ Q bq)[j]?)) (fun _ iv _=>n-(intOf iv).toNat)
 case atStart=>exact⟨0,[],[],[],_,rfl,Nat.zero_le _,rfl,rfl,Apd.nil_ S0.out _ _,fun x hx=>(by cases hx),fun x hx=>(by cases hx),fun j hj=>absurd hj (Nat.not_lt_zero _)⟩
 case round=>
  clear S0;obtain⟨i,K,bs,rs,oz,hoz,hin,rfl,hK,AP,hIn,hcan,hqK⟩:=hrel;subst hoz;rename World=>V0
  by_cases hlt:i<n
  ·have g1:(i:Int)<(n:Int):=by omega
   have g2:(0:Int)≤(i:Int):=by omega
   have hih:=Lib.hid hlt;have bV:=AP.st.bel;obtain⟨b,o,r,rfl,hr,hrm,e0⟩:=(h.out.bel bV).get hlt;have hrn:=hkk2.out r hrm;rw[hrn] at e0;have hTx:Hid (∀ W,Below V0.heap.size V0 W→Calls Tryz.prog 61 #[.slice r.A k r.c] W (RowA (r.L.map (·.q)) W)):=Lib.hid fun W hW=>by
    have:=hTk.out r hrm W ((h.out.bel bV).bel hW)
    rwa [hrn] at this
   have hbV:=hbl.out.bel bV;obtain⟨bB,oB,y,rfl,hy,hym,y0,y1,y2⟩:=hbV.get hlt;have hyr:=hbV.rd y hym;have hTz:Hid (∀ W,Below V0.heap.size V0 W→Calls Tryz.prog 42 #[.agg #[.bool y.b,.slice y.A y.n y.c,.slice y.D y.m y.d]] W (RetR y.q W)):=Lib.hid fun W hW=>hTy.out y hym W (hyr.bel hW)
   obtain⟨q,hqy⟩:∃ q,q=y.q:=⟨_,rfl⟩;rw[←hqy] at hTz;have hRq:Hid (Rs q 9000000):=Lib.hid (by rw[hqy];exact hRy.out y hym)
   have hwn:Hid (∀ Lr:List Rt,Lr.map (·.q)=r.L.map (·.q)++[q]→∀ j,j<i+1→(qM K++[Lr.map (·.q)])[j]?=(widQ Q bq)[j]?):=Lib.hid fun Lr hLr j hj=>by
    have hl:(qM K).length=i:=by unfold qM;rw[List.length_map];exact hK
    rcases Nat.lt_or_ge j i with g | g
    ·rw[List.getElem?_append_left (by omega)];exact hqK j g
    ·obtain rfl:j=i:=by omega
     rw[List.getElem?_append_right (by omega),hl,Nat.sub_self,wid_at (hQ1.out j r hr) (hbq1.out j y hy),hLr,hqy];rfl
   have hrl:Hid (r.L.length=k):=Lib.hid (by rw[((h.out.bel bV).rd r hrm).len];exact hrn)
   replace AP:=Lib.hid AP;replace hIn:=Lib.hid hIn;replace hcan:=Lib.hid hcan;replace hqK:=Lib.hid hqK;replace hK:=Lib.hid hK;replace e0:=Lib.hid e0;replace y0:=Lib.hid y0;replace y1:=Lib.hid y1;replace y2:=Lib.hid y2;clear hlt hin bV hr hrm hrn hbV hy hym hyr hqy;go_upto_region 8 with fail
   refine Wl.start (fun W=>Below V0.heap.size V0 W) [14] rfl ?_
   have hS:Below V0.heap.size V0 V0.drew:=(Below.refl _ _).drew;refine Wl.t (i:=0) (v:=oz) (some 32) at0 (hy:=fun _ _=>by kernel_rfl) (hS:=hS) (h:=?_)
   refine Wl.t (i:=1) (v:=.slice (some ⟨b,o,none⟩) n c) (some 33) at1 (hy:=fun _ _=>by kernel_rfl) (hS:=hS) (h:=?_)
   refine Wl.t (i:=2) (v:=.int .i64 i) (some 34) at2 (hy:=fun _ _=>by kernel_rfl) (hS:=hS) (h:=?_)
   refine Wl.t (i:=3) (v:=.pointer (some ⟨b,o+i,none⟩)) (some 35) at3 (hy:=fun _ _=>by go_simp) (hS:=hS) (h:=?_)
   refine Wl.t (i:=4) (v:=.slice r.A k r.c) (some 36) at4 (hy:=fun W hS=>by (have k0:=bel_cell hS e0.out;clear hS;go_simp)) (hS:=hS) (h:=?_)
   refine Wl.t (i:=6) (v:=.slice (some ⟨bB,oB,none⟩) n cb) (some 38) at6 (hy:=fun _ _=>by kernel_rfl) (hS:=hS) (h:=?_)
   refine Wl.t (i:=7) (v:=.int .i64 i) (some 39) at7 (hy:=fun _ _=>by kernel_rfl) (hS:=hS) (h:=?_)
   refine Wl.t (i:=8) (v:=.pointer (some ⟨bB,oB+i*3,none⟩)) (some 40) at8 (hy:=fun _ _=>by go_simp) (hS:=hS) (h:=?_)
   refine Wl.t (i:=9) (v:=.agg #[.bool y.b,.slice y.A y.n y.c,.slice y.D y.m y.d]) (some 41) at9 (hy:=fun W hS=>by (have k0:=bel_cell hS y0.out;have k1:=bel_cell hS y1.out;have k2:=bel_cell hS y2.out;clear hS;go_simp)) (hS:=hS) (h:=?_)
   try simp only[Act.put,sZ0,sZ1,sZ2]
   refine Wl.g (i:=5) at5 (by kernel_rfl) (by kernel_rfl) fun K' hK'=>?_
   refine oper_call (f:=61) (args:=#[.slice r.A k r.c]) rfl (by kernel_rfl) ((hTx.out _ hS).mono ?_)
   rintro e W1 ⟨v1,L1,rs1,rfl,AG,hL1,hLq⟩;obtain⟨ob,hob,So⟩:=(AP.out.call hS).open_;have hS0:=Lib.hid hS;have hS1:=hS.trans (AG.st.bel.mono hS.size);have hLl:Hid (L1.length=k):=Lib.hid (by have:=congrArg List.length hLq;rw[List.length_map,List.length_map] at this;exact this.trans hrl.out)
   replace hob:=Lib.hid hob;replace hL1:=Lib.hid hL1;replace hLq:=Lib.hid hLq;replace AG:=Lib.hid AG;replace So:=Lib.hid So;refine⟨_,rfl,hK'.out _ _ hS1 ?_⟩
   clear hK' K' hS AP hTx
   try simp only[Act.put,sZ0,sZ1,sZ2]
   try simp only[Act.put,sZ0,sZ1,sZ2]
   refine Wl.g (i:=10) at10 (by kernel_rfl) (by kernel_rfl) fun K' hK'=>?_
   refine oper_call (f:=42) (args:=#[.agg #[.bool y.b,.slice y.A y.n y.c,.slice y.D y.m y.d]]) rfl (by kernel_rfl) ((hTz.out _ hS1).mono ?_)
   rintro e W2 ⟨A3,m3,c3,D3,m4,c4,rfl,X,bb⟩;have hS2:=hS1.trans (bb.mono hS1.size);have AS:=Lib.hid (((AG.out.call bb).read X.n).read X.d);refine⟨_,rfl,hK'.out _ _ hS2 ?_⟩
   clear hK' K' hS1 bb X AG hTz
   try simp only[Act.put,sZ0,sZ1,sZ2]
   refine Wl.g (i:=11) at11 (by kernel_rfl) (by kernel_rfl) fun K' hK'=>?_
   go_simp
   have GA:=Lib.hid (AS.out.alloc #[.bool (ng q.num),.slice A3 m3 c3,.slice D3 m4 c4] 45 (noL3 _ _ _ _ _ _ _));have hSA:Below V0.heap.size V0 (W2.alloc (.cells #[.bool (ng q.num),.slice A3 m3 c3,.slice D3 m4 c4] 45)):=hS2.alloc hS2.size _;refine hK'.out _ _ hSA ?_
   clear hK' K' AS hS2
   try simp only[Act.put,sZ0,sZ1,sZ2]
   refine Wl.g (i:=12) at12 (by kernel_rfl) (by kernel_rfl) fun K' hK'=>?_
   have hcb1:=GA.out.st.cb 0 rfl;refine op_rat (.tmp 37) (.tmp 43) rfl rfl GA.out _ rfl hcb1 (by have:=hLl.out;omega) ?_
   intro v2 W3 A5;have A6:=Apd.onto So.out A5.sub;obtain⟨yy,hyy⟩:∃ z,z=Rt.of A3 m3 c3 D3 m4 c4 q:=⟨_,rfl⟩;have A7:Apd w W3 (bs++ob) (rs++(D3,m4,c4,dn q)::(A3,m3,c3,limbs q.num.natAbs)::rs1) 45 3 v2 (L1++[yy]).length (csE (L1++[yy])):=by
    rw[List.length_append,csE_app,hyy];exact A6
   have hcn:Hid (∀ x∈L1++[yy],x.can∧x.rdIn (rs++(D3,m4,c4,dn q)::(A3,m3,c3,limbs q.num.natAbs)::rs1)):=Lib.hid fun x hx=>by
    rcases List.mem_append.1 hx with hx | hx
    ·exact⟨(hL1.out x hx).1,List.mem_append_right _ (List.mem_cons_of_mem _ (List.mem_cons_of_mem _ (hL1.out x hx).2.1)),List.mem_append_right _ (List.mem_cons_of_mem _ (List.mem_cons_of_mem _ (hL1.out x hx).2.2))⟩
    ·rw[List.mem_singleton.1 hx,hyy]
     exact⟨Rt.of_can _ _ _ _ _ _ hRq.out,List.mem_append_right _ (List.mem_cons_of_mem _ List.mem_cons_self),List.mem_append_right _ List.mem_cons_self⟩
   have hLn:Hid ((L1++[yy]).map (·.q)=r.L.map (·.q)++[q]∧(L1++[yy]).length=k+1):=Lib.hid ⟨by rw[List.map_append,hLq.out,hyy];rfl,by rw[List.length_append,hLl.out];rfl⟩
   have hS3:=hS0.out.trans (A5.st.bel.mono hS0.out.size);obtain⟨r3,bs3,rfl,p1,p2,p3,p4,S3⟩:=row_done A7 (fun x hx=>(hcn.out x hx).2)
   have APo:=Lib.hid (Apd.close hob.out S3);have hh:=Lib.hid (And.intro p1 (And.intro p2 (And.intro p3 p4)));refine hK'.out _ _ hS3 ?_
   clear hK' K' hSA GA hcb1 A5 A6 A7 S3 hob So p1 p2 p3 p4
   try simp only[Act.put,sZ0,sZ1,sZ2]
   refine Wl.g (i:=13) at13 (by kernel_rfl) (by kernel_rfl) fun K' hK'=>?_
   go_simp
   have APl:=Lib.hid (APo.out.alloc #[.slice r3.A r3.n r3.c] 23 (noL1 _ _ _));have hS4:Below V0.heap.size V0 (W3.alloc (.cells #[.slice r3.A r3.n r3.c] 23)):=hS3.alloc hS3.size _;refine hK'.out _ _ hS4 ?_
   clear hK' K' APo hS3
   try simp only[Act.put,sZ0,sZ1,sZ2]
   refine Wl.s (i:=14) at14 (by kernel_rfl) (by kernel_rfl) (by kernel_rfl) fun K' hK'=>?_
   have hcb2:=APl.out.st.cb 0 rfl;refine op_row (.tmp 32) (.tmp 45) rfl rfl APl.out _ rfl hcb2 (by omega) ?_
   intro v4 W5 A8;replace A8:=Lib.hid A8;refine hK'.out _ _ ?_
   clear hK' K' APl hcb2 hS4 hS0
   try simp only[Act.put,sZ0,sZ1,sZ2]
   refine Wl.s (i:=15) at15 (by kernel_rfl) (by kernel_rfl) (by kernel_rfl) fun K' hK'=>?_
   go_simp
   refine hK'.out _ _ ?_
   clear hK' K';refine Wl.done (by kernel_rfl) ?_
   clear e0 y0 y1 y2;have hi1:=hih.out;go_wp2
   go_roundw
   case rel=>exact⟨i+1,K++[r3],bs3,_,_,rfl,by omega,by go_num,by rw[List.length_append,hK.out];rfl,by rw[List.map_append];exact A8.out.sub,In_app hIn.out hh.out.2.2.1 (fun z hz=>List.mem_append_left _ hz) hh.out.2.2.2,fun r' hr'=>(by
    rcases List.mem_append.1 hr' with hr' | hr'
    ·exact hcan.out r' hr'
    ·obtain rfl:=List.mem_singleton.1 hr'
     exact⟨hh.out.1.trans hLn.out.2,by rw[hh.out.2.1];exact fun x hx=>(hcn.out x hx).1⟩),by rw[qM_app,hh.out.2.1];exact hwn.out _ hLn.out.1⟩
   case measure=>simp[intOf];omega
  ·obtain rfl:n=i:=by omega
   have bV:=AP.st.bel;rw[←hK] at AP;obtain⟨A7,c7,hv,M7⟩:=AP.mat hIn;subst hv;rw[hK] at M7;have hKq:qM K=widQ Q bq:=by
    have l1:(qM K).length=n:=by unfold qM;rw[List.length_map];exact hK
    have l2:=hwl.out
    apply List.ext_getElem?
    intro j
    by_cases hj:j<n
    ·exact hqK j hj
    ·rw[List.getElem?_eq_none (by omega),List.getElem?_eq_none (by omega)]
   have hRx:=Lib.hid (hRd.out V0 K A7 c7 M7 hcan hKq);have bw:=Lib.hid bV;replace hK:=Lib.hid hK;clear AP hIn hcan hqK hKq hlt hin bV M7 hRd hTk hTy hRy hQ1 hbq1 hbl h hkk2
   go_wp2_with fail
   rw[hK.out];refine hRx.out.mono ?_
   rintro e w5 ⟨A2,n2,c2,M2,P,pc,A6,n6,c6,D6,m6,d6,rfl,m2,hc2,hq2,hn2,hi2,x6,bb⟩;have hn2n:n2=n:=by
    have h1:=RFx.out.len;rw[←hq2] at h1;unfold qM at h1;rw[List.length_map,m2.len] at h1;exact h1
   subst hn2n;have hr2:Hid (∀ r∈M2,r.n=m∧∀ x∈r.L,x.can):=Lib.hid fun r hr=>⟨by
    have h1:=RFx.out.rect (r.L.map (·.q)) (by rw[←hq2];exact List.mem_map_of_mem hr)
    rw[List.length_map,(m2.rd r hr).len] at h1;exact h1,(hc2 r hr).2⟩
   have hR2:Hid (∀ i r,M2[i]?=some r→RM.getD i []=r.L.map (·.q)):=Lib.hid fun i r hi=>by
    rw[←hq2];unfold qM;rw[List.getD_eq_getElem?_getD,List.getElem?_map,hi];rfl
   have B5:Below w5.heap.size w5 (w5.alloc (.cells #[.bool (ng RF.num),.slice A6 n6 c6,.slice D6 m6 d6] 45)):=(Below.refl _ _).alloc (Nat.le_refl _) _;obtain⟨V1,hV1⟩:∃ W,W=w5.alloc (.cells #[.bool (ng RF.num),.slice A6 n6 c6,.slice D6 m6 d6] 45):=⟨_,rfl⟩;rw[←hV1] at B5;have m2h:=Lib.hid (m2.bel B5);have hi2h:=Lib.hid (hi2.bel B5);replace bw:=Lib.hid (bw.out.trans ((bb.trans (B5.mono bb.size)).mono bw.out.size))
   have SE:=Lib.hid (((St.new V1).allocAt V1.heap.size (csE (List.replicate k Zt)).toArray 45 (NoLl.csE _).arr rfl).read (show Rd _ none 0 0 [] from Rd.nil_ _ _ _))
   go_upto_region 10 with fail
   rw[←hV1];clear hV1 B5 bb m2 hi2 hc2 hq2 hn2 x6 hRx hK;go_wp2;obtain⟨gN,hgN⟩:∃ g,g=V1.heap.size:=⟨_,rfl⟩;rw[←hgN] at SE;rw[←hgN];clear hgN
   go_loopw [13] (fun iv wr=>∃ (i:Nat) (E:List Rt) (rs':List Rdg),i≤ps.length∧iv=.int .i64 i∧St V1 wr [(gN,(csE E).toArray,45)] rs'∧E.length=k∧(∀ x∈E,x.can∧x.rdIn rs')∧E.map (·.q)=slt k (fun i=>el RM i k) ps i∧(∀ t (h:t<ps.length),t<i→ps[t]≠k)) (fun iv _=>ps.length-(intOf iv).toNat)
   case atStart=>exact⟨0,List.replicate k Zt,_,Nat.zero_le _,rfl,SE.out,List.length_replicate,fun x hx=>(by obtain rfl:=(List.mem_replicate.1 hx).2;exact⟨Zt_can,List.mem_cons_self,List.mem_cons_self⟩),by rw[List.map_replicate];rfl,fun t ht g=>absurd g (Nat.not_lt_zero _)⟩
   case round=>
    clear SE;obtain⟨i,E,rs',hip,rfl,T,hEl,hEc,hEq,hne⟩:=hrel;rename World=>V8
    by_cases hli:i<ps.length
    ·have g6:(i:Int)<(ps.length:Int):=by omega
     have g7:(0:Int)≤(i:Int):=by omega
     obtain⟨bP,oP,pk,hPA,hp1,pc0⟩:=(hi2h.out.bel T.bel).get hli;subst hPA;have hin:i<n2:=by have:=RFx.out.ple;omega
     have hmk1:m=k+1:=hm1h.out (by omega)
     have hpm:pk<m:=RFx.out.lt pk (List.mem_of_getElem? hp1)
     by_cases hpk:pk=k
     ·have hki:(pk:Int)=(k:Int):=by rw[hpk]
      have hmem:Hid (k∈ps):=Lib.hid (hpk ▸ List.mem_of_getElem? hp1);replace bw:=Lib.hid (bw.out.trans (T.bel.mono bw.out.size));clear T hEc hEq hEl hne hip hin hmk1 hpm hpk hp1 hli;go_wp2
      go_ret2
      exact .inr ⟨hmem.out,none,0,0,[],rfl,Sr.none_ _ _ _,fun r hr=>(by cases hr),rfl,by omega,bw.out⟩
     ·have hki:¬ ((pk:Int)=(k:Int)):=by omega
      have hpkk:pk<k:=by omega
      have hpg:Hid (ps.getD i 0=pk):=Lib.hid (by rw[List.getD_eq_getElem?_getD,hp1];rfl)
      have g8:(pk:Int)<(k:Int):=by omega
      have g9:(0:Int)≤(pk:Int):=by omega
      have g10:(i:Int)<(n2:Int):=by omega
      have hM:=m2h.out.bel T.bel;obtain⟨bR,oR,r,rfl,hr,hrm,e0⟩:=hM.get hin;have hrow:=hM.rd r hrm;have hrn:=(hr2.out r hrm).1;rw[hrn,hmk1] at hrow e0;obtain⟨bX,oX,x,hXA,hx,hxm,x0,x1,x2⟩:=hrow.get (i:=k) (by omega)
      rw[hXA] at e0;have xc:=Lib.hid ((hr2.out r hrm).2 x hxm);have xr:=Lib.hid (hrow.rd x hxm);have xq:Hid (x.q=el RM i k):=Lib.hid (by
       unfold GE.el;rw[hR2.out i r hr,List.getD_eq_getElem?_getD,List.getElem?_map,hx];rfl)
      obtain⟨y,hEk⟩:∃ y,E[pk]?=some y:=⟨E[pk]'(by rw[hEl];exact hpkk),List.getElem?_eq_getElem _⟩
      have hnn:Hid (∀ t (h:t<ps.length),t<i+1→ps[t]≠k):=Lib.hid fun t ht g=>by
       rcases Nat.lt_or_ge t i with g' | g'
       ·exact hne t ht g'
       ·obtain rfl:t=i:=by omega
        rw[List.getElem?_eq_getElem ht] at hp1
        rw[Option.some.inj hp1];exact hpk
      have g11:(k:Int)<(k:Int)+1:=by omega
      have hih:=Lib.hid hli;replace pc0:=Lib.hid pc0;replace e0:=Lib.hid e0;replace x0:=Lib.hid x0;replace x1:=Lib.hid x1;replace x2:=Lib.hid x2;replace T:=Lib.hid T;replace hEl:=Lib.hid hEl;replace hEc:=Lib.hid hEc;replace hEq:=Lib.hid hEq;replace hEk:=Lib.hid hEk;have pc1:=pc0.out;clear hli hip hp1 hpm hpk hpkk hin hM hr hrm hrow hrn hXA hx hxm hne hmk1;go_upto_region 16 with fail
      clear pc1;refine Wl.start (fun W=>Below V8.heap.size V8 W) [13] rfl ?_
      have hS:Below V8.heap.size V8 V8.drew:=(Below.refl _ _).drew;refine Wl.t (i:=0) (v:=.slice (some ⟨gN,0,none⟩) k k) (some 67) at0 (hy:=fun _ _=>by kernel_rfl) (hS:=hS) (h:=?_)
      refine Wl.t (i:=1) (v:=.slice (some ⟨bP,oP,none⟩) ps.length pc) (some 68) at1 (hy:=fun _ _=>by kernel_rfl) (hS:=hS) (h:=?_)
      refine Wl.t (i:=2) (v:=.int .i64 i) (some 69) at2 (hy:=fun _ _=>by kernel_rfl) (hS:=hS) (h:=?_)
      refine Wl.t (i:=3) (v:=.pointer (some ⟨bP,oP+i,none⟩)) (some 70) at3 (hy:=fun _ _=>by go_simp) (hS:=hS) (h:=?_)
      refine Wl.t (i:=4) (v:=.int .i64 pk) (some 71) at4 (hy:=fun W hS=>by (have k0:=bel_cell hS pc0.out;clear hS;go_simp)) (hS:=hS) (h:=?_)
      refine Wl.t (i:=5) (v:=.slice (some ⟨bR,oR,none⟩) n2 c2) (some 72) at5 (hy:=fun _ _=>by kernel_rfl) (hS:=hS) (h:=?_)
      refine Wl.t (i:=6) (v:=.int .i64 i) (some 73) at6 (hy:=fun _ _=>by kernel_rfl) (hS:=hS) (h:=?_)
      refine Wl.t (i:=7) (v:=.pointer (some ⟨bR,oR+i,none⟩)) (some 74) at7 (hy:=fun _ _=>by go_simp) (hS:=hS) (h:=?_)
      refine Wl.t (i:=8) (v:=.slice (some ⟨bX,oX,none⟩) (k+1) r.c) (some 75) at8 (hy:=fun W hS=>by (have k0:=bel_cell hS e0.out;clear hS;go_simp)) (hS:=hS) (h:=?_)
      refine Wl.t (i:=9) (v:=.int .i64 k) (some 76) at9 (hy:=fun _ _=>by kernel_rfl) (hS:=hS) (h:=?_)
      refine Wl.t (i:=10) (v:=.pointer (some ⟨bX,oX+k*3,none⟩)) (some 77) at10 (hy:=fun _ _=>by go_simp) (hS:=hS) (h:=?_)
      refine Wl.t (i:=11) (v:=.agg #[.bool x.b,.slice x.A x.n x.c,.slice x.D x.m x.d]) (some 78) at11 (hy:=fun W hS=>by (have k0:=bel_cell hS x0.out;have k1:=bel_cell hS x1.out;have k2:=bel_cell hS x2.out;clear hS;go_simp)) (hS:=hS) (h:=?_)
      refine Wl.t (i:=12) (v:=.pointer (some ⟨gN,pk*3,none⟩)) (some 79) at12 (hy:=fun _ _=>by go_simp) (hS:=hS) (h:=?_)
      obtain⟨Va,hVa⟩:∃ W,W=V8.drew:=⟨_,rfl⟩;rw[←hVa] at hS ⊢;clear hVa;have S3:=((T.out.call hS).read (xr.out.bel hS).1).read (xr.out.bel hS).2;obtain⟨⟨k0,k1,k2⟩,f0⟩:=St_lcl S3 hEk.out;have f2:=f0 (pk*3);have f3:=f0 (pk*3+1);have f4:=f0 (pk*3+2);obtain⟨Vb,hVb,T⟩:∃ W,W=((Va.setCell ⟨gN,pk*3,none⟩ (.bool x.b)).setCell ⟨gN,pk*3+1,none⟩ (.slice x.A x.n x.c)).setCell ⟨gN,pk*3+2,none⟩ (.slice x.D x.m x.d)∧Hid (St V1 W [(gN,(csE (E.set pk x)).toArray,45)] ((x.D,x.m,x.d,x.y)::(x.A,x.n,x.c,x.x)::rs')):=⟨_,rfl,Lib.hid (St_lset S3 pk x)⟩
      clear f0
      try simp only[Act.put,sZ0,sZ1,sZ2]
      refine Wl.s (i:=13) at13 (by kernel_rfl) (by kernel_rfl) (by kernel_rfl) fun K' hK2=>?_
      go_simp
      rw[←hVb];refine hK2.out _ _ ?_
      clear hK2 K' k0 k1 k2 f2 f3 f4 hVb S3 hS;refine Wl.done (by kernel_rfl) ?_
      clear pc0 e0 x0 x1 x2 hEk;have hp1:=hih.out;go_wp2
      go_roundw
      case rel=>exact⟨i+1,E.set pk x,_,by omega,by go_num,T.out,by rw[List.length_set];exact hEl.out,fun z hz=>(by rcases List.mem_or_eq_of_mem_set hz with hz | rfl;exact⟨(hEc.out z hz).1,List.mem_cons_of_mem _ (List.mem_cons_of_mem _ (hEc.out z hz).2.1),List.mem_cons_of_mem _ (List.mem_cons_of_mem _ (hEc.out z hz).2.2)⟩;exact⟨xc.out,List.mem_cons_of_mem _ List.mem_cons_self,List.mem_cons_self⟩),by rw[List.map_set,hEq.out];show _=(slt k (fun i=>el RM i k) ps i).set (ps.getD i 0) (el RM i k);rw[hpg.out,←xq.out],hnn.out⟩
      case measure=>simp[intOf];omega
    ·have hpi:i=ps.length:=by omega
     have hqf:Hid (E.map (·.q)=slt k (fun i=>el RM i k) ps ps.length):=Lib.hid (by rw[hEq,hpi])
     have hkn:Hid (k∉ps):=Lib.hid fun hm=>by
      obtain⟨t,ht,e⟩:=List.getElem_of_mem hm;exact hne t ht (by omega) e
     have hSr:=Lib.hid (St_srm T List.mem_cons_self hEl (fun x hx=>(hEc x hx).2))
     have hcn:=Lib.hid (fun x hx=>(hEc x hx).1)
     replace bw:=Lib.hid (bw.out.trans (T.bel.mono bw.out.size));have g6:¬ ((i:Int)<(ps.length:Int)):=by omega
     clear T hEc hEq hEl hne hip hli hpi;go_wp2
     go_ret2
     exact .inl ⟨hkn.out,_,k,k,E,rfl,hSr.out,hcn.out,hqf.out,by omega,bw.out⟩
end Go.Proofs.YtfnkpfbobdmieaaGreat
namespace Go.Proofs.YtfnkpfbobdmieaaGreat
open Go.RowKit RQ GE
set_option linter.unusedVariables false
theorem pnull_bad (M:List Ro) (A:Option Addr) (n c:Nat) (w:World) (h:Mr w A n c M) (hm:∀ r∈M,r.n≤9223372036854775807) (hn:n≤9223372036854775807) (hw:wfM M=false):Calls Tryz.prog 32 #[.slice A n c] w (RetMX 6 [] w):=by
 have hF:=fun W h'=>wf_any M A n c W h' hm hn
 rw[hw] at hF;replace hF:=Lib.hid hF;replace h:=Lib.hid h;clear hm hn hw;go_enter Tryz.func32,Tryz.ntmps32
 go_wp2_with fail
 refine (hF.out _ h.out).mono ?_
 rintro e w2 ⟨rfl,bb⟩;have bw:=Lib.hid bb;clear hF bb h;go_wp2
 go_ret2
 exact⟨none,0,0,[],rfl,⟨rfl,Nat.le_refl _,.inl rfl,fun r hr=>(by cases hr)⟩,fun r hr=>(by cases hr),rfl,by omega,bw.out⟩
theorem rnull_bad (M:List Ro) (A:Option Addr) (n c:Nat) (w:World) (h:Mr w A n c M) (hm:∀ r∈M,r.n≤9223372036854775807) (hn:n≤9223372036854775807) (hw:wfM M=false):Calls Tryz.prog 33 #[.slice A n c] w (RetMX 6 [] w):=by
 have hR:=Lib.hid (rReduce_bad M A n c w h hm hn hw);clear hm hn hw;go_enter Tryz.func33,Tryz.ntmps33
 go_wp2_with fail
 refine hR.out.mono ?_
 rintro e w2 ⟨A2,n2,c2,M2,P,pc,rfl,m2,hc2,hq2,hn2,hi2,bb⟩;have bw:=Lib.hid bb;clear bb m2 hc2 hq2 hn2 hi2 hR;go_wp2
 go_ret2
 exact⟨none,0,0,[],rfl,⟨rfl,Nat.le_refl _,.inl rfl,fun r hr=>(by cases hr)⟩,fun r hr=>(by cases hr),rfl,by omega,bw.out⟩
theorem psolve_bad (M:List Ro) (A:Option Addr) (n c:Nat) (w:World) (h:Mr w A n c M) (hm:∀ r∈M,r.n≤9223372036854775807) (hn:n≤9223372036854775807) (Ab:Option Addr) (nb cb:Nat) (hnb:nb≤9223372036854775807) (hw:wfM M=false):Calls Tryz.prog 30 #[.slice A n c,.slice Ab nb cb] w (RetLX 6 [] w):=by
 have hF:=fun W h'=>wf_any M A n c W h' hm hn
 rw[hw] at hF;replace hF:=Lib.hid hF;replace h:=Lib.hid h;clear hm hn hw;go_enter Tryz.func30,Tryz.ntmps30
 go_wp2_with fail
 refine (hF.out _ h.out).mono ?_
 rintro e w2 ⟨rfl,bb⟩;have bw:=Lib.hid bb;clear hF bb h;go_wp2
 go_ret2
 exact⟨none,0,0,[],rfl,Sr.none_ _ _ _,fun r hr=>(by cases hr),rfl,by omega,bw.out⟩
theorem psolve_shape (M:List Ro) (A:Option Addr) (n c:Nat) (w:World) (h:Mr w A n c M) (hm:∀ r∈M,r.n≤9223372036854775807) (hn:n≤9223372036854775807) (Ab:Option Addr) (nb cb:Nat) (hnb:nb≤9223372036854775807) (hw:wfM M=true) (hne:nb≠n):Calls Tryz.prog 30 #[.slice A n c,.slice Ab nb cb] w (RetLX 6 [] w):=by
 have hF:=fun W h'=>wf_any M A n c W h' hm hn
 rw[hw] at hF;replace hF:=Lib.hid hF;have hn9:n≤96:=(wf_rct h hw).2.2.2.2.1;have hki:¬ ((nb:Int)=(n:Int)):=fun e=>hne (by omega)
 replace h:=Lib.hid h;clear hm hw;go_enter Tryz.func30,Tryz.ntmps30
 go_wp2_with fail
 refine (hF.out _ h.out).mono ?_
 rintro e w2 ⟨rfl,bb⟩;have bw:=Lib.hid bb;clear hF bb h;go_wp2
 go_ret2
 exact⟨none,0,0,[],rfl,Sr.none_ _ _ _,fun r hr=>(by cases hr),rfl,by omega,bw.out⟩
theorem rsolve_bad (M:List Ro) (A:Option Addr) (n c:Nat) (w:World) (h:Mr w A n c M) (hm:∀ r∈M,r.n≤9223372036854775807) (hn:n≤9223372036854775807) (Ab:Option Addr) (nb cb:Nat) (hnb:nb≤9223372036854775807) (hw:wfM M=false):Calls Tryz.prog 31 #[.slice A n c,.slice Ab nb cb] w (RetLX 6 [] w):=by
 have hF:=fun W h'=>rwf_any M A n c W h' hm hn
 rw[hw] at hF;replace hF:=Lib.hid hF;replace h:=Lib.hid h;clear hm hn hw;go_enter Tryz.func31,Tryz.ntmps31
 go_wp2_with fail
 refine (hF.out _ h.out).mono ?_
 rintro e w2 ⟨rfl,bb⟩;have bw:=Lib.hid bb;clear hF bb h;go_wp2
 go_ret2
 exact⟨none,0,0,[],rfl,Sr.none_ _ _ _,fun r hr=>(by cases hr),rfl,by omega,bw.out⟩
theorem rsolve_shape (M:List Ro) (A:Option Addr) (n c:Nat) (w:World) (h:Mr w A n c M) (hm:∀ r∈M,r.n≤9223372036854775807) (hn:n≤9223372036854775807) (Ab:Option Addr) (nb cb:Nat) (hnb:nb≤9223372036854775807) (hw:wfM M=true) (hne:nb≠n):Calls Tryz.prog 31 #[.slice A n c,.slice Ab nb cb] w (RetLX 6 [] w):=by
 have hF:=fun W h'=>rwf_any M A n c W h' hm hn
 rw[hw] at hF;replace hF:=Lib.hid hF;have hn9:n≤96:=(wf_rct h hw).2.2.2.2.1;have hki:¬ ((nb:Int)=(n:Int)):=fun e=>hne (by omega)
 replace h:=Lib.hid h;clear hm hw;go_enter Tryz.func31,Tryz.ntmps31
 go_wp2_with fail
 refine (hF.out _ h.out).mono ?_
 rintro e w2 ⟨rfl,bb⟩;have bw:=Lib.hid bb;clear hF bb h;go_wp2
 go_ret2
 exact⟨none,0,0,[],rfl,Sr.none_ _ _ _,fun r hr=>(by cases hr),rfl,by omega,bw.out⟩
end Go.Proofs.YtfnkpfbobdmieaaGreat
namespace Go.Proofs.YtfnkpfbobdmieaaGreat
open Go.RowKit RQ GE
set_option linter.unusedVariables false
theorem sz_tab8:((List.range 5).all fun n=>(List.range 6).all fun k=>szChk n k 8 8)=true:=by kernel_rfl
theorem sz88 {n k:Nat} (hn:n≤4) (hk:k≤5):SzE n k 8 8∧SzT n k 8 8:=
 sz_of (List.all_eq_true.1 (List.all_eq_true.1 sz_tab8 n (List.mem_range.2 (by omega))) k (List.mem_range.2 (by omega)))
section
variable {M:List Ro} {A:Option Addr} {n c:Nat}
theorem null_two (s:Sml M n):∃ k Q,(∀ W,Mr W A n c M→Calls Tryz.prog 32 #[.slice A n c] W (RetMX k Q W))∧(∀ W,Mr W A n c M→Calls Tryz.prog 33 #[.slice A n c] W (RetMX k Q W)):=by
 have hn:=s.hn
 cases hw:wfM M
 ·exact⟨6,[],fun W h=>pnull_bad M A n c W h s.hm (by omega) hw,fun W h=>rnull_bad M A n c W h s.hm (by omega) hw⟩
 ·obtain⟨z1,z2⟩:=sz22 hn (k:=colM M) (by have:=s.k4 hw;omega)
  exact⟨0,_,fun W h=>pnull_any M A n c W h s.hm (by omega) hw s.ka 2 2 s.s2 z1 z2,fun W h=>rnull_any M A n c W h s.hm (by omega) hw s.ka 2 s.rs (by decide) (pow5 hn (by decide))⟩
theorem solve_two (s:Sml M n) (L:List Rt) (A':Option Addr) (n' c':Nat) (hn':n'≤5) (ll:ltL L):∃ k Q,(∀ W,Mr W A n c M→Sr W A' n' c' L→Calls Tryz.prog 30 #[.slice A n c,.slice A' n' c'] W (RetLX k Q W))∧(∀ W,Mr W A n c M→Sr W A' n' c' L→Calls Tryz.prog 31 #[.slice A n c,.slice A' n' c'] W (RetLX k Q W)):=by
 have hn:=s.hn
 cases hw:wfM M
 ·exact⟨6,[],fun W h _=>psolve_bad M A n c W h s.hm (by omega) A' n' c' (by omega) hw,fun W h _=>rsolve_bad M A n c W h s.hm (by omega) A' n' c' (by omega) hw⟩
 ·by_cases hne:n'=n
  ·subst hne
   have hk4:=s.k4 hw;have hwc:wcol n' (colM M)≤5:=by unfold wcol;split<;>omega
   obtain⟨z1,z2⟩:=sz88 hn hwc;have h8:∀ x∈L,S2 8 8 x.q:=fun x hx=>⟨Nat.le_of_lt (ll x hx).2.n,Nat.le_of_lt (ll x hx).2.d⟩
   have hM8:∀ r∈M,∀ x∈r.L,S2 8 8 x.q:=fun r hr x hx=>(s.s2 r hr x hx).mono (by omega) (by omega)
   have p:=fun W h h'=>psolve_any M A n' c W h s.hm (by omega) hw s.ka L A' c' h' (fun x hx=>(ll x hx).1) 8 8 hM8 h8 z1 z2
   have r:=fun W h h'=>rsolve_any M A n' c W h s.hm (by omega) hw s.ka 8 (fun r hr x hx=>(s.rs r hr x hx).mono (by omega)) (by decide) (pow5 hn (by decide)) L A' c' h' (fun x hx=>(ll x hx).1) (fun x hx=>(ll x hx).2) (by omega)
   by_cases hk:colM M∈(red (wcol n' (colM M)) (widQ (qM M) (L.map (·.q)))).p
   ·exact⟨11,[],fun W h h'=>(p W h h').mono fun e w' x=>x.elim (fun y=>absurd hk y.1) (fun y=>y.2),fun W h h'=>(r W h h').mono fun e w' x=>x.elim (fun y=>absurd hk y.1) (fun y=>y.2)⟩
   ·exact⟨0,_,fun W h h'=>(p W h h').mono fun e w' x=>x.elim (fun y=>y.2) (fun y=>absurd y.1 hk),fun W h h'=>(r W h h').mono fun e w' x=>x.elim (fun y=>y.2) (fun y=>absurd y.1 hk)⟩
  ·exact⟨6,[],fun W h _=>psolve_shape M A n c W h s.hm (by omega) A' n' c' (by omega) hw hne,fun W h _=>rsolve_shape M A n c W h s.hm (by omega) A' n' c' (by omega) hw hne⟩
end
theorem law_ms (M:List Ro) (A:Option Addr) (n c:Nat) (w:World) (h:Mr w A n c M) (bm:∀ r∈M,inL r.L∧r.n≤9223372036854775807∧∀ x∈r.L,x.q=rv x.b x.x x.y) (hn:n≤9223372036854775807) (L:List Rt) (A':Option Addr) (n' c':Nat) (h':Sr w A' n' c' L) (bl:inL L) (ql:∀ x∈L,x.q=rv x.b x.x x.y) (hn':n'≤9223372036854775807):Calls Tryz.prog 5 #[.slice A n c,.slice A' n' c'] w fun e w'=>e=.returned (.bool true)∧Below w.heap.size w w':=by
 have hA:=Lib.hid awake_any;have hSm:=Lib.hid (small_any M A n c w h (fun r hr=>⟨(bm r hr).1,(bm r hr).2.1⟩) hn)
 have hTo:Hid ((n≤4∧∀ r∈M,∀ x∈r.L,r.n≤4∧x.n≤2∧x.m≤2)→Sml M n):=Lib.hid (sml_of h bm);have k3:=Lib.hid (fun W (h:Sr W A' n' c' L)=>lightList_any L A' n' c' 5 W h (by decide) bl hn')
 have hLt:Hid ((decide (n'≤5)&&L.all (fun r=>lightB r.n r.m))=true→n'≤5∧ltL L):=Lib.hid fun e=>by
  rw[Bool.and_eq_true,decide_eq_true_eq] at e;exact⟨e.1,lt_of h'.rd ql e.2⟩
 generalize (decide (n'≤5)&&L.all (fun r=>lightB r.n r.m))=b3 at k3 hLt
 have S0:=Lib.hid (St.new w);replace h:=Lib.hid h;replace h':=Lib.hid h';clear bm hn bl ql hn';go_enter Tryz.func5,Tryz.ntmps5
 go_wp2_with fail
 refine hSm.out.mono ?_
 rintro e w1 ⟨b,rfl,hb,bb⟩;replace h:=Lib.hid (h.out.bel bb);replace h':=Lib.hid (h'.out.bel bb);replace S0:=Lib.hid (S0.out.call bb);replace hb:=Lib.hid hb;clear bb hSm
 cases b
 ·clear hb hTo hLt k3 h h'
  go_wp2_with fail
  refine (hA.out _).mono ?_
  rintro e w2 ⟨rfl,bb⟩;replace S0:=Lib.hid (S0.out.call bb);clear bb hA;go_wp2;go_ret;exact⟨rfl,S0.out.bel⟩
 ·go_wp2_with fail
  refine (k3.out _ h'.out).mono ?_
  rintro e w' ⟨rfl,bb⟩;replace h:=Lib.hid (h.out.bel bb);replace h':=Lib.hid (h'.out.bel bb);replace S0:=Lib.hid (S0.out.call bb);clear bb;clear k3
  cases b3
  ·clear hb hTo hLt h h'
   go_wp2_with fail
   refine (hA.out _).mono ?_
   rintro e w2 ⟨rfl,bb⟩;replace S0:=Lib.hid (S0.out.call bb);clear bb hA;go_wp2;go_ret;exact⟨rfl,S0.out.bel⟩
  ·have sm:=hTo.out (hb.out (by first | trivial | rfl))
   obtain⟨l1_,l2_⟩:=hLt.out (by first | trivial | rfl)
   obtain⟨ks,Qs,s1,s2⟩:=solve_two (A:=A) (c:=c) sm L A' n' c' l1_ l2_;obtain⟨kn,Qn,d1,d2⟩:=null_two (A:=A) (c:=c) sm;replace s1:=Lib.hid s1;replace s2:=Lib.hid s2;replace d1:=Lib.hid d1;replace d2:=Lib.hid d2;clear sm hb hTo hLt l1_ l2_
   go_wp2_with fail
   refine (s1.out _ h.out h'.out).mono ?_
   rintro e w' ⟨A1,n1,c1,L1,rfl,m1,k1,q1,l1,bb⟩;replace h:=Lib.hid (h.out.bel bb);replace h':=Lib.hid (h'.out.bel bb);replace S0:=Lib.hid (S0.out.call bb);replace m1:=Lib.hid m1;replace k1:=Lib.hid k1;replace q1:=Lib.hid q1;replace l1:=Lib.hid l1;clear bb;clear s1
   go_wp2_with fail
   refine (s2.out _ h.out h'.out).mono ?_
   rintro e w' ⟨A2,n2,c2,L2,rfl,m2,k2,q2,l2,bb⟩;replace h:=Lib.hid (h.out.bel bb);replace h':=Lib.hid (h'.out.bel bb);replace m1:=Lib.hid (m1.out.bel bb);replace S0:=Lib.hid (S0.out.call bb);replace m2:=Lib.hid m2;replace k2:=Lib.hid k2;replace q2:=Lib.hid q2;replace l2:=Lib.hid l2;clear bb;clear s2
   go_wp2_with fail
   refine (d1.out _ h.out).mono ?_
   rintro e w' ⟨A5,n5,c5,M5,rfl,m5,k5,q5,l5,bb⟩;replace h:=Lib.hid (h.out.bel bb);replace h':=Lib.hid (h'.out.bel bb);replace m1:=Lib.hid (m1.out.bel bb);replace m2:=Lib.hid (m2.out.bel bb);replace S0:=Lib.hid (S0.out.call bb);replace m5:=Lib.hid m5;replace k5:=Lib.hid k5;replace q5:=Lib.hid q5;replace l5:=Lib.hid l5;clear bb;clear d1
   go_wp2_with fail
   refine (d2.out _ h.out).mono ?_
   rintro e w' ⟨A6,n6,c6,M6,rfl,m6,k6,q6,l6,bb⟩;replace h:=Lib.hid (h.out.bel bb);replace h':=Lib.hid (h'.out.bel bb);replace m1:=Lib.hid (m1.out.bel bb);replace m2:=Lib.hid (m2.out.bel bb);replace m5:=Lib.hid (m5.out.bel bb);replace S0:=Lib.hid (S0.out.call bb);replace m6:=Lib.hid m6;replace k6:=Lib.hid k6;replace q6:=Lib.hid q6;replace l6:=Lib.hid l6;clear bb;clear d2
   go_wp2_with fail
   refine (hA.out _).mono ?_
   rintro e w' ⟨rfl,bb⟩;replace h:=Lib.hid (h.out.bel bb);replace h':=Lib.hid (h'.out.bel bb);replace m1:=Lib.hid (m1.out.bel bb);replace m2:=Lib.hid (m2.out.bel bb);replace m5:=Lib.hid (m5.out.bel bb);replace m6:=Lib.hid (m6.out.bel bb);replace S0:=Lib.hid (S0.out.call bb);clear bb;clear hA
   go_wp2_with fail
   refine (sameList_any L1 L2 A1 n1 c1 A2 n2 c2 _ m1.out m2.out k1.out k2.out (by rw[q1.out,q2.out]) l1.out).mono ?_
   rintro e w' ⟨rfl,bb⟩;replace h:=Lib.hid (h.out.bel bb);replace h':=Lib.hid (h'.out.bel bb);replace m1:=Lib.hid (m1.out.bel bb);replace m2:=Lib.hid (m2.out.bel bb);replace m5:=Lib.hid (m5.out.bel bb);replace m6:=Lib.hid (m6.out.bel bb);replace S0:=Lib.hid (S0.out.call bb);clear bb
   go_wp2_with fail
   refine (sameLists_any M5 M6 A5 n5 c5 A6 n6 c6 _ m5.out m6.out k5.out k6.out (by rw[q5.out,q6.out]) l5.out).mono ?_
   rintro e w' ⟨rfl,bb⟩;replace h:=Lib.hid (h.out.bel bb);replace h':=Lib.hid (h'.out.bel bb);replace m1:=Lib.hid (m1.out.bel bb);replace m2:=Lib.hid (m2.out.bel bb);replace m5:=Lib.hid (m5.out.bel bb);replace m6:=Lib.hid (m6.out.bel bb);replace S0:=Lib.hid (S0.out.call bb);clear bb;go_wp2;go_ret;exact⟨rfl,S0.out.bel⟩
end Go.Proofs.YtfnkpfbobdmieaaGreat
