/- Reduce, Rank and Det of the reference. -/
import Derived.Test.YtfnkpfbobdmieaaGreatM29
import Derived.Test.YtfnkpfbobdmieaaGreatM23
import Derived.Test.YtfnkpfbobdmieaaGreatB15
import Derived.Laws.CopyRow
set_option maxRecDepth 100000
set_option maxHeartbeats 40000000
set_option linter.unusedVariables false
namespace Go.Proofs.YtfnkpfbobdmieaaGreat
open Go.RowKit RQ GE
set_option linter.unusedVariables false
theorem St.drops {w W:World} {rs:List Rdg}:∀ {bs bs':List Bk},St w W (bs++bs') rs→St w W bs' rs
 | [],_,h=>h
 | _::bs,_,h=>St.drops (bs:=bs) (St.sub h)
theorem rred_nil (A:Option Addr) (c:Nat) (w:World):Calls Tryz.prog 51 #[.slice A 0 c] w (RetRr [] [] 1 w):=by
 obtain⟨u,hu⟩:∃ q:Rat,q=1:=⟨_,rfl⟩;rw[←hu];have bx:Below w.heap.size w (w.alloc (.cells Gw0.vs 45)):=(Below.refl _ _).alloc (Nat.le_refl _) _;have S1:=Lib.hid ((St.new w).alloc Gw0.vs 45 (noL3 _ _ _ _ _ _ _));have hm:∀ W A c,Mr W A 0 c []:=fun W A c=>⟨rfl,Nat.zero_le _,.inl rfl,fun r hr=>(by cases hr)⟩
 have hT:=Lib.hid (takeM_any [] [] A 0 c _ (hm (w.alloc (.cells Gw0.vs 45)) A c) rfl (fun r hr=>(by cases hr)) (by omega))
 have hF1:Hid (∀ W,Calls Tryz.prog 36 #[.int .i64 1] W (RetR u W)):=Lib.hid fun W=>by rw[hu];exact FfromInt_any 1 W (by omega) (by omega)
 have hC:=Lib.hid (fun W A c=>rcols_any [] A 0 c W (hm W A c))
 replace hm:=Lib.hid hm;replace hu:=Lib.hid hu;clear bx;obtain⟨zb,hzb⟩:∃ z,z=w.heap.size:=⟨_,rfl⟩;go_enter Tryz.func51,Tryz.ntmps51
 go_wp2_with fail
 refine hT.out.mono ?_
 rintro e w1 ⟨v,bs,rs,L1,rfl,G0,hI,hV⟩;have hl1:L1.length=0:=hV.len;obtain⟨A2,cg,bs2,rfl,S2,_,_⟩:=G0.done;rw[hl1];have S3:=Lib.hid (S1.out.join S2);clear G0 S2 S1 hT hI hV hl1
 go_wp2_with fail
 refine (hF1.out _).mono ?_
 rintro e w2 ⟨A3,m3,c3,D3,m4,c4,rfl,X,bb⟩;have T0:=(((S3.out.call bb).read X.d).read X.n).alloc #[.bool (ng u.num),.slice A3 m3 c3,.slice D3 m4 c4] 45 (noLof rfl);obtain⟨fb,hfb⟩:∃ z,z=w2.heap.size:=⟨_,rfl⟩;rw[←hfb] at T0;rw[←hzb] at T0;have RS:=Lib.hid (T0.prm (bs':=bs2++[(fb,#[.bool (ng u.num),.slice A3 m3 c3,.slice D3 m4 c4],45),(zb,Gw0.vs,45)]) (by
  simp only[List.cons_append,List.nil_append];exact List.perm_append_comm (l₁:=[_,_])))
 clear T0 S3 X bb;go_wp2;rw[←hzb,←hfb];clear hzb hfb
 go_loopw [5,7] (fun pv jv wr=>pv=.slice none 0 0∧jv=.int .i64 0∧St w wr (bs2++[(fb,#[.bool (ng u.num),.slice A3 m3 c3,.slice D3 m4 c4],45),(zb,Gw0.vs,45)]) ((A3,m3,c3,limbs u.num.natAbs)::(D3,m4,c4,dn u)::([]++rs))) (fun _ _ _=>0)
 case atStart=>exact⟨rfl,rfl,RS.out⟩
 case round=>
  clear RS;obtain⟨rfl,rfl,T⟩:=hrel;rename World=>W0
  have hCx:=Lib.hid (hC.out W0 A2 cg);replace T:=Lib.hid T;clear hC
  go_wp2_with fail
  refine hCx.out.mono ?_
  rintro e w3 ⟨rfl,bb⟩;have T1:Hid (St w w3 [(zb,Gw0.vs,45),(fb,#[.bool (ng u.num),.slice A3 m3 c3,.slice D3 m4 c4],45)] ((A3,m3,c3,limbs u.num.natAbs)::(D3,m4,c4,dn u)::([]++rs))):=Lib.hid ((T.out.call bb).drops).swap;clear hCx T bb;rename World=>W2
  obtain⟨y0,y1,y2⟩:=T1.out.c3 1 rfl;obtain⟨z0,z1,z2,k3,k4,k5⟩:=T1.out.cf3 0 rfl;replace y0:=Lib.hid y0;replace y1:=Lib.hid y1;replace y2:=Lib.hid y2;have S4:=Lib.hid (((T1.out.set 0 0 (.bool (ng u.num)) rfl (by nofun)).set 0 1 (.slice A3 m3 c3) rfl (by nofun)).set 0 2 (.slice D3 m4 c4) rfl (by nofun)).drew
  obtain⟨W3,hW3⟩:∃ W,W=(World.setCell (World.setCell (World.setCell W2 ⟨zb,0,none⟩ (.bool (ng u.num))) ⟨zb,1,none⟩ (.slice A3 m3 c3)) ⟨zb,2,none⟩ (.slice D3 m4 c4)).drew:=⟨_,rfl⟩;rw[←hW3] at S4;clear T1;go_upto_region 23 with fail
  refine Wl.start (fun W=>Below W2.heap.size W2 W) [5] rfl ?_
  have hS:Below W2.heap.size W2 W2.drew:=(Below.refl _ _).drew;refine Wl.p (i:=0) (v:=.slice A2 0 cg) (some 123) at0 (hy:=fun _=>by kernel_rfl) (hS:=fun _=>hS) (h:=?_)
  refine Wl.p (i:=1) (v:=.slice none 0 0) (some 124) at1 (hy:=fun _=>by kernel_rfl) (hS:=fun _=>hS) (h:=?_)
  refine Wl.t (i:=2) (v:=.agg #[.bool (ng u.num),.slice A3 m3 c3,.slice D3 m4 c4]) (some 125) at2 (hy:=fun W hS=>by (have k0:=bel_cell hS y0.out;have k1:=bel_cell hS y1.out;have k2:=bel_cell hS y2.out;clear hS;go_simp)) (hS:=hS) (h:=?_)
  refine Wl.p (i:=3) (v:=.slice A2 0 cg) (some 2) at3 (hy:=fun _=>by kernel_rfl) (hS:=fun _=>hS) (h:=?_)
  refine Wl.p (i:=4) (v:=.slice none 0 0) (some 3) at4 (hy:=fun _=>by kernel_rfl) (hS:=fun _=>hS) (h:=?_)
  try simp only[Act.put,sZ0,sZ1,sZ2]
  refine Wl.s (i:=5) at5 (by kernel_rfl) (by kernel_rfl) (by kernel_rfl) fun K' hK=>?_
  go_simp
  rw[←hW3];refine hK.out _ _ ?_
  clear hK K' y0 y1 y2 z0 z1 z2 k3 k4 k5 hS hW3;refine Wl.done (by kernel_rfl) ?_
  go_simp
  go_wp2;refine bodyPost_ret (res_reduce _ _ zb rfl rfl rfl (S4.out.cl 0 0 rfl rfl) (S4.out.cl 0 1 rfl rfl) (S4.out.cl 0 2 rfl rfl)) rfl ?_
  exact⟨A2,0,cg,[],none,0,A3,m3,c3,D3,m4,c4,rfl,hm.out _ _ _,fun r hr=>(by cases hr),rfl,by omega,⟨rfl,Nat.le_refl _,.inl rfl⟩,⟨S4.out.rd _ List.mem_cons_self,S4.out.rd _ (List.mem_cons_of_mem _ List.mem_cons_self)⟩,S4.out.bel⟩
theorem rred_all (M:List Ro) (A:Option Addr) (n c b:Nat) (w:World) (h:Mr w A n c M) (hw:wfM M=true) (ka:∀ r∈M,∀ x∈r.L,Rk x.b x.n x.x x.m x.y x.q) (hs:∀ r∈M,∀ x∈r.L,Rs x.q b) (hb:1≤b) (hB:b*5^n≤9000000):Calls Tryz.prog 51 #[.slice A n c] w (RetRr (red (colM M) (qM M)).M (red (colM M) (qM M)).p (red (colM M) (qM M)).f w):=by
 obtain⟨hr,hq,hk,h0,hn96,hk96⟩:=wf_rct h hw
 rcases Nat.eq_zero_or_pos n with h1 | h1
 ·have:M=[]:=List.length_eq_zero_iff.1 (h.len.trans h1)
  subst this h1;exact rred_nil A c w
 ·have hQs:∀ r∈qM M,∀ q∈r,Rs q b:=fun r hr q hq=>by
   obtain⟨y,hy,rfl⟩:=List.mem_map.1 hr;obtain⟨z,hz,rfl⟩:=List.mem_map.1 hq;exact hs y hy z hz
  obtain⟨g1,g2,g3⟩:=red_rs hq hr hQs hb hB;have hb9:b≤9000000:=Nat.le_trans (Nat.le_mul_of_pos_right b (Nat.pow_pos (by decide))) hB
  exact (rred_any (qM M) M A n c (colM M) w h rfl ka (okM_el (rs_el (by omega) fun r hr q hq=>(hQs r hr q hq).mono (by omega))) hr h1 hn96 hk96 g1).mono fun e w' hR=>hR.ret (by omega) (by omega) (rs_mem g2)
theorem rReduce_any (M:List Ro) (A:Option Addr) (n c:Nat) (w:World) (h:Mr w A n c M) (hm:∀ r∈M,r.n≤9223372036854775807) (hn:n≤9223372036854775807) (hw:wfM M=true) (ka:∀ r∈M,∀ x∈r.L,Rk x.b x.n x.x x.m x.y x.q) (b:Nat) (hs:∀ r∈M,∀ x∈r.L,Rs x.q b) (hb:1≤b) (hB:b*5^n≤9000000):Calls Tryz.prog 21 #[.slice A n c] w (RetRx 0 (red (colM M) (qM M)).M (red (colM M) (qM M)).p w):=by
 have hF:=fun W h'=>rwf_any M A n c W h' hm hn
 rw[hw] at hF;have hR:=Lib.hid (fun W h'=>rred_all M A n c b W h' hw ka hs hb hB)
 obtain⟨Q,hQ⟩:∃ q,q=(red (colM M) (qM M)).M:=⟨_,rfl⟩;obtain⟨ps,hps⟩:∃ q,q=(red (colM M) (qM M)).p:=⟨_,rfl⟩;obtain⟨f,hf⟩:∃ q,q=(red (colM M) (qM M)).f:=⟨_,rfl⟩;rw[←hQ,←hps];rw[←hQ,←hps,←hf] at hR;replace hF:=Lib.hid hF;replace h:=Lib.hid h;clear hm hn hw ka hs hb hB hQ hps hf;go_enter Tryz.func21,Tryz.ntmps21
 go_wp2_with fail
 refine (hF.out _ h.out).mono ?_
 rintro e w1 ⟨rfl,bb⟩;replace h:=Lib.hid (h.out.bel bb);have bw:=Lib.hid bb;clear bb hF
 go_wp2_with fail
 refine (hR.out _ h.out).mono ?_
 rintro e w2 ⟨A2,n2,c2,M2,P,pc,A1,n1,c1,D1,m1,d1,rfl,hm2,hc2,hq2,hn2,hi2,x1,b2⟩;have B3:Below w2.heap.size w2 (w2.alloc (.cells #[.bool (ng f.num),.slice A1 n1 c1,.slice D1 m1 d1] 45)):=(Below.refl _ _).alloc (Nat.le_refl _) _;replace hm2:=Lib.hid (hm2.bel B3);replace hi2:=Lib.hid (hi2.bel B3);replace bw:=Lib.hid (bw.out.trans ((b2.trans (B3.mono b2.size)).mono bw.out.size));replace hc2:=Lib.hid hc2
 replace hq2:=Lib.hid hq2;replace hn2:=Lib.hid hn2;clear B3 b2 x1 h hR;go_wp2
 go_ret3
 exact⟨A2,n2,c2,M2,P,pc,rfl,hm2.out,hc2.out,hq2.out,hn2.out,hi2.out,bw.out⟩
theorem rReduce_bad (M:List Ro) (A:Option Addr) (n c:Nat) (w:World) (h:Mr w A n c M) (hm:∀ r∈M,r.n≤9223372036854775807) (hn:n≤9223372036854775807) (hw:wfM M=false):Calls Tryz.prog 21 #[.slice A n c] w (RetRx 6 [] [] w):=by
 have hF:=fun W h'=>rwf_any M A n c W h' hm hn
 rw[hw] at hF;replace hF:=Lib.hid hF;replace h:=Lib.hid h;clear hm hn hw;go_enter Tryz.func21,Tryz.ntmps21
 go_wp2_with fail
 refine (hF.out _ h.out).mono ?_
 rintro e w1 ⟨rfl,bb⟩;replace bb:=Lib.hid bb;clear hF h;go_wp2
 go_ret3
 exact⟨none,0,0,[],none,0,rfl,⟨rfl,Nat.le_refl _,.inl rfl,fun r hr=>(by cases hr)⟩,fun r hr=>(by cases hr),rfl,by omega,⟨rfl,Nat.le_refl _,.inl rfl⟩,bb.out⟩
theorem rRank_bad (M:List Ro) (A:Option Addr) (n c:Nat) (w:World) (h:Mr w A n c M) (hm:∀ r∈M,r.n≤9223372036854775807) (hn:n≤9223372036854775807) (hw:wfM M=false):Calls Tryz.prog 23 #[.slice A n c] w (fun e w'=>e=.returned (.tuple #[.int .i64 0,.int .i64 6])∧Below w.heap.size w w'):=by
 have hR:=rReduce_bad M A n c w h hm hn hw;replace hR:=Lib.hid hR;clear hm hn hw;go_enter Tryz.func23,Tryz.ntmps23
 go_wp2_with fail
 refine hR.out.mono ?_
 rintro e w2 ⟨A2,n2,c2,M2,P,pc,rfl,hm2,hc2,hq2,hn2,hi2,bb⟩;replace bb:=Lib.hid bb;clear hm2 hc2 hq2 hn2 hi2 hR;go_wp2
 go_ret2
 exact⟨rfl,bb.out⟩
theorem rRank_any (M:List Ro) (A:Option Addr) (n c:Nat) (w:World) (h:Mr w A n c M) (hm:∀ r∈M,r.n≤9223372036854775807) (hn:n≤9223372036854775807) (hw:wfM M=true) (ka:∀ r∈M,∀ x∈r.L,Rk x.b x.n x.x x.m x.y x.q) (b:Nat) (hs:∀ r∈M,∀ x∈r.L,Rs x.q b) (hb:1≤b) (hB:b*5^n≤9000000):Calls Tryz.prog 23 #[.slice A n c] w (fun e w'=>e=.returned (.tuple #[.int .i64 (red (colM M) (qM M)).p.length,.int .i64 0])∧Below w.heap.size w w'):=by
 have hR:=rReduce_any M A n c w h hm hn hw ka b hs hb hB;obtain⟨ps,hps⟩:∃ q,q=(red (colM M) (qM M)).p:=⟨_,rfl⟩;rw[←hps] at hR ⊢;clear hps;replace hR:=Lib.hid hR;clear hm hn hw ka hs hb hB;go_enter Tryz.func23,Tryz.ntmps23
 go_wp2_with fail
 refine hR.out.mono ?_
 rintro e w2 ⟨A2,n2,c2,M2,P,pc,rfl,hm2,hc2,hq2,hn2,hi2,bb⟩;replace bb:=Lib.hid bb;clear hm2 hc2 hq2 hn2 hi2 hR;go_wp2
 go_ret2
 exact⟨rfl,bb.out⟩
theorem res_rdet (W:World) (tmps:Array Value) (g t:Nat) {v0 v1 v2 k:Value} (ht:tmps.getD 2 undef=.pointer (some ⟨g,0,none⟩)) (hk:tmps.getD 3 undef=k) (h:Cb W g #[v0,v1,v2] t) :
  (results Tryz.f25 tmps).run Tryz.prog W=.ok (.tuple #[.agg #[v0,v1,v2],k]) W:=by
 have c0:W.cell? ⟨g,0,none⟩=some v0:=h.cell rfl;have c1:W.cell? ⟨g,1,none⟩=some v1:=h.cell rfl;have c2:W.cell? ⟨g,2,none⟩=some v2:=h.cell rfl;have ht':tmps[2]?.getD undef=.pointer (some ⟨g,0,none⟩):=by rw[←ht];simp[Array.getD_eq_getD_getElem?]
 rw[results_cell_tmp (p:=2) (u:=3) rfl];simp only[ht,hk]
 go_simp
theorem rDet_bad (M:List Ro) (A:Option Addr) (n c:Nat) (w:World) (h:Mr w A n c M) (hm:∀ r∈M,r.n≤9223372036854775807) (hn:n≤9223372036854775807) (hw:wfM M=false):Calls Tryz.prog 25 #[.slice A n c] w (RetDx 6 0 w):=by
 have hF:=fun W h'=>rwf_any M A n c W h' hm hn
 rw[hw] at hF;replace hF:=Lib.hid hF;have S0:=Lib.hid ((St.new w).allocAt w.heap.size #[.bool false,.slice none 0 0,.slice none 0 0] 45 (noLof rfl) rfl);replace h:=Lib.hid h;clear hm hn hw;go_enter Tryz.func25,Tryz.ntmps25;go_upto_region 1 with fail
 obtain⟨gD,hgD⟩:∃ g,g=w.heap.size:=⟨_,rfl⟩;obtain⟨w1,hw1⟩:∃ W,W=w.alloc (.cells #[.bool false,.slice none 0 0,.slice none 0 0] 45):=⟨_,rfl⟩;rw[←hgD,←hw1] at S0 ⊢;replace h:=Lib.hid (h.out.bel S0.out.bel);clear hgD hw1
 go_wp2_with fail
 refine (hF.out _ h.out).mono ?_
 rintro e w2 ⟨rfl,bb⟩;replace S0:=Lib.hid (S0.out.call bb);replace h:=Lib.hid (h.out.bel bb);clear hF bb;obtain⟨z0,z1,z2,y0,y1,y2⟩:=S0.out.cf3 0 rfl;have S3:=Lib.hid (((S0.out.set 0 0 (.bool false) rfl (by nofun)).set 0 1 (.slice none 0 0) rfl (by nofun)).set 0 2 (.slice none 0 0) rfl (by nofun))
 go_wp2;refine bodyPost_ret (res_rdet _ _ gD 45 rfl rfl (S3.out.bk _ List.mem_cons_self).1) rfl ?_
 exact⟨none,0,0,none,0,0,rfl,RR_nil _,S3.out.bel⟩
theorem rDet_shape (M:List Ro) (A:Option Addr) (n c:Nat) (w:World) (h:Mr w A n c M) (hm:∀ r∈M,r.n≤9223372036854775807) (hn:n≤9223372036854775807) (hw:wfM M=true) (hne:colM M≠n):Calls Tryz.prog 25 #[.slice A n c] w (RetDx 6 0 w):=by
 have hF:=fun W h'=>rwf_any M A n c W h' hm hn
 rw[hw] at hF;replace hF:=Lib.hid hF;have hC:=Lib.hid (fun W h'=>rcols_any M A n c W h')
 obtain⟨k,hk⟩:∃ k,k=colM M:=⟨_,rfl⟩;have hk9:k≤96:=by rw[hk];exact colM_le hw
 have hn9:n≤96:=(wf_rct h hw).2.2.2.2.1;rw[←hk] at hC hne;have hki:¬ ((k:Int)=(n:Int)):=fun e=>hne (by omega)
 have S0:=Lib.hid ((St.new w).allocAt w.heap.size #[.bool false,.slice none 0 0,.slice none 0 0] 45 (noLof rfl) rfl);replace h:=Lib.hid h;clear hm hn hw;go_enter Tryz.func25,Tryz.ntmps25;go_upto_region 1 with fail
 obtain⟨gD,hgD⟩:∃ g,g=w.heap.size:=⟨_,rfl⟩;obtain⟨w1,hw1⟩:∃ W,W=w.alloc (.cells #[.bool false,.slice none 0 0,.slice none 0 0] 45):=⟨_,rfl⟩;rw[←hgD,←hw1] at S0 ⊢;replace h:=Lib.hid (h.out.bel S0.out.bel);clear hgD hw1
 go_wp2_with fail
 refine (hF.out _ h.out).mono ?_
 rintro e w2 ⟨rfl,bb⟩;replace S0:=Lib.hid (S0.out.call bb);replace h:=Lib.hid (h.out.bel bb);clear hF bb
 go_wp2_with fail
 refine (hC.out _ h.out).mono ?_
 rintro e w3 ⟨rfl,bb⟩;replace S0:=Lib.hid (S0.out.call bb);clear hC bb h;rename World=>w2
 obtain⟨z0,z1,z2,y0,y1,y2⟩:=S0.out.cf3 0 rfl;have S3:=Lib.hid (((S0.out.set 0 0 (.bool false) rfl (by nofun)).set 0 1 (.slice none 0 0) rfl (by nofun)).set 0 2 (.slice none 0 0) rfl (by nofun))
 go_wp2;refine bodyPost_ret (res_rdet _ _ gD 45 rfl rfl (S3.out.bk _ List.mem_cons_self).1) rfl ?_
 exact⟨none,0,0,none,0,0,rfl,RR_nil _,S3.out.bel⟩
theorem rDet_any (M:List Ro) (A:Option Addr) (n c:Nat) (w:World) (h:Mr w A n c M) (hm:∀ r∈M,r.n≤9223372036854775807) (hn:n≤9223372036854775807) (hw:wfM M=true) (ka:∀ r∈M,∀ x∈r.L,Rk x.b x.n x.x x.m x.y x.q) (b:Nat) (hs:∀ r∈M,∀ x∈r.L,Rs x.q b) (hb:1≤b) (hB:b*5^n≤9000000) (hsq:colM M=n):Calls Tryz.prog 25 #[.slice A n c] w (RetDx 0 (dE n (el (qM M))) w):=by
 obtain⟨hr,hq,hk,h0,hn96,hk96⟩:=wf_rct h hw;have hF:=fun W h'=>rwf_any M A n c W h' hm hn
 rw[hw] at hF;have hC:=Lib.hid (fun W h'=>rcols_any M A n c W h')
 have hR:=Lib.hid (fun W h'=>rred_all M A n c b W h' hw ka hs hb hB)
 rw[hsq] at hC hr;simp only[hsq] at hR;have hdet:dE n (el (qM M))=if (red n (qM M)).p.length<n then 0 else (red n (qM M)).f:=by
  have e1:rk n n (el (qM M))=(red n (qM M)).p.length:=by unfold rk pv;rw[mk_el hq hr]
  have hle:=rk_rows (n:=n) (k:=n) (A:=el (qM M));unfold dE;rw[mk_el hq hr]
  by_cases hlt:(red n (qM M)).p.length<n
  ·rw[if_pos hlt,if_neg (by omega)]
  ·rw[if_neg hlt,if_pos (by omega)]
 rw[hdet];obtain⟨Q,hQ⟩:∃ q,q=(red n (qM M)).M:=⟨_,rfl⟩;obtain⟨ps,hps⟩:∃ q,q=(red n (qM M)).p:=⟨_,rfl⟩;obtain⟨f,hf⟩:∃ q,q=(red n (qM M)).f:=⟨_,rfl⟩;rw[←hQ,←hps,←hf] at hR;rw[←hps,←hf];obtain⟨qd,hqd⟩:∃ q:Rat,q=if ps.length<n then 0 else f:=⟨_,rfl⟩
 rw[←hqd];replace hqd:=Lib.hid hqd;replace hF:=Lib.hid hF;have hpl:Hid (ps.length≤n):=Lib.hid (by
  rw[hps];have:=rk_rows (n:=n) (k:=n) (A:=el (qM M));unfold rk pv at this
  rwa [mk_el hq hr] at this)
 have S0:=Lib.hid ((St.new w).allocAt w.heap.size #[.bool false,.slice none 0 0,.slice none 0 0] 45 (noLof rfl) rfl);replace h:=Lib.hid h;clear hm hn hw ka hs hb hB hQ hps hf hdet hr hq hk h0 hk96 hsq;go_enter Tryz.func25,Tryz.ntmps25;go_upto_region 1 with fail
 obtain⟨gD,hgD⟩:∃ g,g=w.heap.size:=⟨_,rfl⟩;obtain⟨w1,hw1⟩:∃ W,W=w.alloc (.cells #[.bool false,.slice none 0 0,.slice none 0 0] 45):=⟨_,rfl⟩;rw[←hgD,←hw1] at S0 ⊢;replace h:=Lib.hid (h.out.bel S0.out.bel);clear hgD hw1
 go_wp2_with fail
 refine (hF.out _ h.out).mono ?_
 rintro e w2 ⟨rfl,bb⟩;replace S0:=Lib.hid (S0.out.call bb);replace h:=Lib.hid (h.out.bel bb);clear hF bb
 go_wp2_with fail
 refine (hC.out _ h.out).mono ?_
 rintro e w3 ⟨rfl,bb⟩;replace S0:=Lib.hid (S0.out.call bb);replace h:=Lib.hid (h.out.bel bb);clear hC bb;rename World=>w2
 go_wp2_with fail
 refine (hR.out _ h.out).mono ?_
 rintro e w4 ⟨A2,n2,c2,M2,P,pc,A1,n1,c1,D1,m1,d1,rfl,hm2,hc2,hq2,hn2,hi2,x1,b2⟩;have S1:=Lib.hid ((((S0.out.call b2).read x1.n).read x1.d).allocAt w4.heap.size #[.bool (ng f.num),.slice A1 n1 c1,.slice D1 m1 d1] 45 (noLof rfl) rfl);clear hm2 hc2 hq2 hn2 hi2 x1 b2 S0 hR h;go_upto_region 4 with fail
 obtain⟨gF,hgF⟩:∃ g,g=w4.heap.size:=⟨_,rfl⟩;obtain⟨V,hV⟩:∃ W,W=w4.alloc (.cells #[.bool (ng f.num),.slice A1 n1 c1,.slice D1 m1 d1] 45):=⟨_,rfl⟩;rw[←hgF,←hV] at S1 ⊢;clear hgF hV;obtain⟨x0,x1,x2,_,_,_⟩:=S1.out.cf3 0 rfl;have hn9:=hn96;have hp9:=hpl.out
 by_cases hp:ps.length<n
 ·have hpi:(ps.length:Int)<(n:Int):=by omega
  have hqe:qd=0:=by rw[hqd.out,if_pos hp]
  replace hqe:=Lib.hid hqe;clear hp hqd;obtain⟨z0,z1,z2,y0,y1,y2⟩:=S1.out.cf3 1 rfl;have S3:=Lib.hid (((S1.out.set 1 0 (.bool false) rfl (by nofun)).set 1 1 (.slice none 0 0) rfl (by nofun)).set 1 2 (.slice none 0 0) rfl (by nofun))
  go_wp2;refine bodyPost_ret (res_rdet _ _ gD 45 rfl rfl (S3.out.bk _ (List.mem_cons_of_mem _ List.mem_cons_self)).1) rfl ?_
  rw[hqe.out];exact⟨none,0,0,none,0,0,rfl,RR_nil _,S3.out.bel⟩
 ·have hpi:¬ ((ps.length:Int)<(n:Int)):=by omega
  have hqe:qd=f:=by rw[hqd.out,if_neg hp]
  replace hqe:=Lib.hid hqe;clear hp hqd;obtain⟨z0,z1,z2,y0,y1,y2⟩:=S1.out.cf3 1 rfl;have S3:=Lib.hid (((S1.out.set 1 0 (.bool (ng f.num)) rfl (by nofun)).set 1 1 (.slice A1 n1 c1) rfl (by nofun)).set 1 2 (.slice D1 m1 d1) rfl (by nofun))
  go_wp2;refine bodyPost_ret (res_rdet _ _ gD 45 rfl rfl (S3.out.bk _ (List.mem_cons_of_mem _ List.mem_cons_self)).1) rfl ?_
  rw[hqe.out];exact⟨A1,n1,c1,D1,m1,d1,rfl,⟨S3.out.rd _ (List.mem_cons_of_mem _ List.mem_cons_self),S3.out.rd _ List.mem_cons_self⟩,S3.out.bel⟩
end Go.Proofs.YtfnkpfbobdmieaaGreat
namespace Go.Proofs.YtfnkpfbobdmieaaGreat
open Go.RowKit RQ GE
set_option linter.unusedVariables false
def tzB (a z p:Nat):Bool:=(List.range (p+1)).all fun d=>decide ((tz a z d).1≤1000000)&&decide ((tz a z d).2≤1000000)&&(List.range (d+1)).all fun m=>decide ((sz2 a z (tz a z d).1 (tz a z d).2 m).1≤1000000)&&decide ((sz2 a z (tz a z d).1 (tz a z d).2 m).2≤1000000)
theorem tzO_of {a z p:Nat} (h:tzB a z p=true):tzO a z p:=fun d hd=>by
 have h1:=List.all_eq_true.1 h d (List.mem_range.2 (by omega))
 rw[Bool.and_eq_true,Bool.and_eq_true] at h1;refine⟨of_decide_eq_true h1.1.1,of_decide_eq_true h1.1.2,fun m hm=>?_⟩
 have h2:=List.all_eq_true.1 h1.2 m (List.mem_range.2 (by omega))
 rw[Bool.and_eq_true] at h2;exact⟨of_decide_eq_true h2.1,of_decide_eq_true h2.2⟩
theorem mat22 {w W:World} {g g1 g2:Nat} {a b c d:Rt} {rs:List Rdg} {xs:List Bk} (S:St w W ((g,#[rowv 2 g1,rowv 2 g2],23)::(g2,(csE [c,d]).toArray,45)::(g1,(csE [a,b]).toArray,45)::xs) rs) (ha:a.can∧a.rdIn rs) (hb:b.can∧b.rdIn rs) (hc:c.can∧c.rdIn rs) (hd:d.can∧d.rdIn rs):∃ K:List Ro,Mr W (some ⟨g,0,none⟩) 2 2 K∧canM K∧qM K=[[a.q,b.q],[c.q,d.q]]∧wfM K=true∧colM K=2∧∀ r∈K,r.n=2:=by
 have S1:St w W (MB g ([g1,g2].map (rowv 2)) [g1,g2] [[a,b],[c,d]]++xs) rs:=S.prm ((List.Perm.swap _ _ _).cons _);have K:RK [g1,g2] 2 [[a,b],[c,d]] [[a.q,b.q],[c.q,d.q]] rs:=⟨rfl,fun L hL=>(by simp at hL;rcases hL with rfl | rfl<;>rfl),fun L hL x hx=>(by
  simp at hL
  rcases hL with rfl | rfl<;>simp at hx<;>rcases hx with rfl | rfl<;>assumption),rfl⟩
 refine⟨KR 2 [g1,g2] [[a,b],[c,d]],MB_mat S1 K,KR_can K (by omega),(KR_q K.len).trans K.q,rfl,rfl,fun r hr=>?_⟩
 obtain⟨i,hi⟩:=List.getElem?_of_mem hr
 obtain⟨b,L,hb,hL,rfl⟩:=KR_of hi
 rfl
theorem canM_rk {W:World} {A:Option Addr} {n c:Nat} {K:List Ro} (h:Mr W A n c K) (hc:canM K):∀ r∈K,∀ x∈r.L,Rk x.b x.n x.x x.m x.y x.q:=fun r hr x hx=>can_k ((hc r hr).2 x hx) ((h.rd r hr).rd x hx)
theorem qM_all {K:List Ro} {P:Rat→Prop} (h:∀ r∈qM K,∀ q∈r,P q):∀ r∈K,∀ x∈r.L,P x.q:=fun r hr x hx=>h (r.L.map (·.q)) (List.mem_map_of_mem hr) x.q (List.mem_map_of_mem hx)
theorem red22:(red 2 [[0,2],[1,1]]).M=[[1,0],[0,1]]∧(red 2 [[0,2],[1,1]]).p=[0,1]:=by
 constructor<;>kernel_rfl
theorem awake_any (w:World):Calls Tryz.prog 8 #[] w (fun e w'=>e=.returned (.bool true)∧Below w.heap.size w w'):=by
 obtain⟨q0,hq0⟩:∃ q:Rat,q=0:=⟨_,rfl⟩;obtain⟨q1,hq1⟩:∃ q:Rat,q=1:=⟨_,rfl⟩;obtain⟨q2,hq2⟩:∃ q:Rat,q=2:=⟨_,rfl⟩;have hF0:Hid (∀ W,Calls Tryz.prog 36 #[.int .i64 0] W (RetR q0 W)):=Lib.hid fun W=>by rw[hq0];exact FfromInt_any 0 W (by omega) (by omega)
 have hF1:Hid (∀ W,Calls Tryz.prog 36 #[.int .i64 1] W (RetR q1 W)):=Lib.hid fun W=>by rw[hq1];exact FfromInt_any 1 W (by omega) (by omega)
 have hF2:Hid (∀ W,Calls Tryz.prog 36 #[.int .i64 2] W (RetR q2 W)):=Lib.hid fun W=>by rw[hq2];exact FfromInt_any 2 W (by omega) (by omega)
 replace hq0:=Lib.hid hq0;replace hq1:=Lib.hid hq1;replace hq2:=Lib.hid hq2;have S0:=Lib.hid (St.new w);go_enter Tryz.func8,Tryz.ntmps8
 go_wp2_with fail
 refine (hF0.out _).mono ?_
 rintro e w1 ⟨A1,n1,c1,D1,m1,d1,rfl,X1,bb⟩;replace S0:=Lib.hid (((S0.out.call bb).read X1.n).read X1.d);clear X1 bb
 go_wp2_with fail
 refine (hF2.out _).mono ?_
 rintro e w2 ⟨A2,n2,c2,D2,m2,d2,rfl,X2,bb⟩;replace S0:=Lib.hid (((S0.out.call bb).read X2.n).read X2.d);clear X2 bb
 go_wp2_with fail
 obtain⟨g1,hg1⟩:∃ g,g=w2.heap.size:=⟨_,rfl⟩;obtain⟨W2,hW2⟩:∃ W,W=w2.alloc (.cells #[.bool (ng q0.num),.slice A1 n1 c1,.slice D1 m1 d1,.bool (ng q2.num),.slice A2 n2 c2,.slice D2 m2 d2] 45):=⟨_,rfl⟩;replace S0:=Lib.hid (S0.out.allocAt g1 #[.bool (ng q0.num),.slice A1 n1 c1,.slice D1 m1 d1,.bool (ng q2.num),.slice A2 n2 c2,.slice D2 m2 d2] 45 (noLof rfl) hg1.symm);rw[←hW2] at S0 ⊢;rw[←hg1];clear hW2 hg1
 refine (hF1.out _).mono ?_
 rintro e w3 ⟨A3,n3,c3,D3,m3,d3,rfl,X3,bb⟩;replace S0:=Lib.hid (((S0.out.call bb).read X3.n).read X3.d);clear X3 bb
 go_wp2_with fail
 refine (hF1.out _).mono ?_
 rintro e w4 ⟨A4,n4,c4,D4,m4,d4,rfl,X4,bb⟩;replace S0:=Lib.hid (((S0.out.call bb).read X4.n).read X4.d);clear X4 bb
 go_wp2_with fail
 obtain⟨g2,hg2⟩:∃ g,g=w4.heap.size:=⟨_,rfl⟩;obtain⟨gM,hgM⟩:∃ g,g=w4.heap.size+1:=⟨_,rfl⟩;replace S0:=Lib.hid ((S0.out.allocAt g2 #[.bool (ng q1.num),.slice A3 n3 c3,.slice D3 m3 d3,.bool (ng q1.num),.slice A4 n4 c4,.slice D4 m4 d4] 45 (noLof rfl) hg2.symm).allocAt gM #[.slice (some ⟨g1,0,none⟩) 2 2,.slice (some ⟨g2,0,none⟩) 2 2] 23 (noLof rfl) (by rw[hgM,World.size_alloc]))
 obtain⟨W4,hW4⟩:∃ W,W=(w4.alloc (.cells #[.bool (ng q1.num),.slice A3 n3 c3,.slice D3 m3 d3,.bool (ng q1.num),.slice A4 n4 c4,.slice D4 m4 d4] 45)).alloc (.cells #[.slice (some ⟨g1,0,none⟩) 2 2,.slice (some ⟨g2,0,none⟩) 2 2] 23):=⟨_,rfl⟩;rw[←hgM,←hg2];rw[←hW4] at S0 ⊢;clear hW4 hg2 hgM;have r0:Rs q0 9000000:=by rw[hq0.out];exact S2.rs (S2.zero (a:=1) (d:=1)) (by decide) (by decide)
 have r1:Rs q1 9000000:=by rw[hq1.out];exact S2.rs (S2.one (a:=1) (d:=1)) (by decide) (by decide)
 have s2:S2 1 0 (2:Rat):=⟨by decide,by decide⟩
 have r2:Rs q2 9000000:=by rw[hq2.out];exact S2.rs s2 (by decide) (by decide)
 obtain⟨K,hK,hKc,hKq,hKw,hKk,hKn⟩:=mat22 (a:=Rt.of A1 n1 c1 D1 m1 d1 q0) (b:=Rt.of A2 n2 c2 D2 m2 d2 q2) (c:=Rt.of A3 n3 c3 D3 m3 d3 q1) (d:=Rt.of A4 n4 c4 D4 m4 d4 q1) S0.out ⟨Rt.of_can _ _ _ _ _ _ r0,by simp[Rt.of],by simp[Rt.of]⟩ ⟨Rt.of_can _ _ _ _ _ _ r2,by simp[Rt.of],by simp[Rt.of]⟩ ⟨Rt.of_can _ _ _ _ _ _ r1,by simp[Rt.of],by simp[Rt.of]⟩ ⟨Rt.of_can _ _ _ _ _ _ r1,by simp[Rt.of],by simp[Rt.of]⟩
 change qM K=[[q0,q2],[q1,q1]] at hKq
 rw[hq0.out,hq1.out,hq2.out] at hKq;have hRx:=preduce_any K (some ⟨gM,0,none⟩) 2 2 W4 hK (fun r hr=>by rw[hKn r hr];decide) (by decide) hKw (canM_rk hK hKc) 1 0 (qM_all (fun r hr q hq=>by
  rw[hKq] at hr
  simp at hr
  rcases hr with rfl | rfl<;>simp at hq
  ·rcases hq with rfl | rfl
   ·exact S2.zero
   ·exact s2
  ·subst hq;exact S2.one)) (by rw[hKk];exact⟨by decide,by decide,by decide⟩) (by rw[hKk];exact tzO_of (by kernel_rfl))
 rw[hKk,hKq,red22.1,red22.2] at hRx;clear hK hKc hKq hKw hKk hKn r0 r2 s2;have hr1:=Lib.hid r1;clear r1;refine hRx.mono ?_
 rintro e w5 ⟨A5,n5,c5,M5,P,pc,rfl,hm5,hc5,hq5,hn5,hi5,bb⟩;replace S0:=Lib.hid (S0.out.call bb);replace hm5:=Lib.hid hm5;replace hi5:=Lib.hid hi5;replace hc5:=Lib.hid hc5;replace hq5:=Lib.hid hq5;replace hn5:=Lib.hid hn5;clear bb hRx
 go_wp2_with fail
 obtain⟨gI,hgI⟩:∃ g,g=w5.heap.size:=⟨_,rfl⟩;obtain⟨W5,hW5⟩:∃ W,W=w5.alloc (.cells #[.int .i64 0,.int .i64 1] 3):=⟨_,rfl⟩;have B5:Below w5.heap.size w5 W5:=by rw[hW5];exact (Below.refl _ _).alloc (Nat.le_refl _) _
 replace S0:=Lib.hid (S0.out.allocAt gI #[.int .i64 0,.int .i64 1] 3 (noLof rfl) hgI.symm);rw[←hW5] at S0 ⊢;rw[←hgI];replace hm5:=Lib.hid (hm5.out.bel B5);have hi6:Ir W5 P 2 pc [0,1]:=hi5.out.bel B5;have hcI:=(S0.out.bk _ List.mem_cons_self).1;have hi7:Ir W5 (some ⟨gI,0,none⟩) 2 2 [0,1]:=⟨rfl,Nat.le_refl _,.inr ⟨gI,0,rfl,hcI.lt,fun i p hi=>by
  rw[Nat.zero_add]
  match i with
  | 0=>obtain rfl:=Option.some.inj hi;exact hcI.cell rfl
  | 1=>obtain rfl:=Option.some.inj hi;exact hcI.cell rfl
  | i+2=>cases hi⟩⟩
 have hSI:=sameInts_any [0,1] P 2 pc (some ⟨gI,0,none⟩) 2 W5 hi6 hi7 (by decide)
 clear hW5 hgI B5 hi5 hi6 hi7 hcI;refine hSI.mono ?_
 rintro e w6 ⟨rfl,bb⟩;replace S0:=Lib.hid (S0.out.call bb);replace hm5:=Lib.hid (hm5.out.bel bb);clear bb hSI
 go_wp2_with fail
 refine (hF1.out _).mono ?_
 rintro e w7 ⟨A6,n6,c6,D6,m6,d6,rfl,X6,bb⟩;replace S0:=Lib.hid (((S0.out.call bb).read X6.n).read X6.d);replace hm5:=Lib.hid (hm5.out.bel bb);clear bb X6
 go_wp2_with fail
 obtain⟨g7,hg7⟩:∃ g,g=w7.heap.size:=⟨_,rfl⟩;obtain⟨W7,hW7⟩:∃ W,W=w7.alloc (.cells #[.bool (ng q1.num),.slice A6 n6 c6,.slice D6 m6 d6,.bool false,.slice none 0 0,.slice none 0 0] 45):=⟨_,rfl⟩;have B7:Below w7.heap.size w7 W7:=by rw[hW7];exact (Below.refl _ _).alloc (Nat.le_refl _) _
 replace S0:=Lib.hid (S0.out.allocAt g7 #[.bool (ng q1.num),.slice A6 n6 c6,.slice D6 m6 d6,.bool false,.slice none 0 0,.slice none 0 0] 45 (noLof rfl) hg7.symm);rw[←hW7] at S0 ⊢;rw[←hg7];replace hm5:=Lib.hid (hm5.out.bel B7);clear hW7 hg7 B7;refine (hF1.out _).mono ?_
 rintro e w8 ⟨A8,n8,c8,D8,m8,d8,rfl,X8,bb⟩;replace S0:=Lib.hid (((S0.out.call bb).read X8.n).read X8.d);replace hm5:=Lib.hid (hm5.out.bel bb);clear bb X8
 go_wp2_with fail
 obtain⟨g8,hg8⟩:∃ g,g=w8.heap.size:=⟨_,rfl⟩;obtain⟨gM8,hgM8⟩:∃ g,g=w8.heap.size+1:=⟨_,rfl⟩;replace S0:=Lib.hid ((S0.out.allocAt g8 #[.bool false,.slice none 0 0,.slice none 0 0,.bool (ng q1.num),.slice A8 n8 c8,.slice D8 m8 d8] 45 (noLof rfl) hg8.symm).allocAt gM8 #[.slice (some ⟨g7,0,none⟩) 2 2,.slice (some ⟨g8,0,none⟩) 2 2] 23 (noLof rfl) (by rw[hgM8,World.size_alloc]))
 obtain⟨W8,hW8⟩:∃ W,W=(w8.alloc (.cells #[.bool false,.slice none 0 0,.slice none 0 0,.bool (ng q1.num),.slice A8 n8 c8,.slice D8 m8 d8] 45)).alloc (.cells #[.slice (some ⟨g7,0,none⟩) 2 2,.slice (some ⟨g8,0,none⟩) 2 2] 23):=⟨_,rfl⟩;have B8:Below w8.heap.size w8 W8:=by rw[hW8];exact ((Below.refl _ _).alloc (Nat.le_refl _) _).alloc (by rw[World.size_alloc];omega) _
 rw[←hgM8,←hg8];rw[←hW8] at S0 ⊢;replace hm5:=Lib.hid (hm5.out.bel B8);clear hW8 hg8 hgM8 B8;replace S0:=Lib.hid (S0.out.read (show Rd _ none 0 0 [] from Rd.nil_ _ _ _))
 obtain⟨K,hK,hKc,hKq,hKw,hKk,hKn⟩:=mat22 (a:=Rt.of A6 n6 c6 D6 m6 d6 q1) (b:=Zt) (c:=Zt) (d:=Rt.of A8 n8 c8 D8 m8 d8 q1) S0.out ⟨Rt.of_can _ _ _ _ _ _ hr1.out,by simp[Rt.of],by simp[Rt.of]⟩ ⟨Zt_can,List.mem_cons_self,List.mem_cons_self⟩ ⟨Zt_can,List.mem_cons_self,List.mem_cons_self⟩ ⟨Rt.of_can _ _ _ _ _ _ hr1.out,by simp[Rt.of],by simp[Rt.of]⟩
 have hKq2:qM K=[[1,0],[0,1]]:=by rw[hKq];show [[q1,0],[0,q1]]=_;rw[hq1.out]
 have hSL:=sameLists_any M5 K A5 n5 c5 (some ⟨gM8,0,none⟩) 2 2 W8 hm5.out hK hc5.out hKc (by rw[hq5.out,hKq2]) hn5.out
 clear hK hKc hKq hKw hKk hKn hKq2;refine hSL.mono ?_
 rintro e w9 ⟨rfl,bb⟩;replace S0:=Lib.hid (S0.out.call bb);clear bb hSL;go_wp2;go_ret;exact⟨rfl,S0.out.bel⟩
end Go.Proofs.YtfnkpfbobdmieaaGreat
namespace Go.Proofs.YtfnkpfbobdmieaaGreat
open Go.ChangeShapes Go.WideShapes Go.ChangeAt Go.RowKit Go.Joins Go.Deep RQ
theorem cells_get {w:World} {base:Nat} {a:Addr} {n:Nat} {cs:List Value} (h:w.cells? base a n=some cs):cs.length=n∧∀ i,i<n→w.cell? (a.add i)=cs[i]?:=by
 unfold World.cells? at h
 split at h
 ·exact⟨by simpa using mapM_some_length h,fun i hi=>mapM_some_get h i i (by simp[hi])⟩
 ·cases h
theorem spot_none {w:World} {a:Addr} {v:Value} (h:w.cell? a=some v):a=⟨a.block,a.off,none⟩∧a.block<w.heap.size:=by
 obtain⟨b,o,s⟩:=a;unfold World.cell? at h
 split at h
 ·rename_i hb
  cases s with
  | none=>exact⟨rfl,(Array.getElem?_eq_some_iff.1 hb).1⟩
  | some z=>simp at h
 ·cases h
theorem add_n (b o k:Nat):(⟨b,o,none⟩:Addr).add k=⟨b,o+k,none⟩:=by unfold Addr.add;split<;>simp_all
theorem cMat:Tryz.prog.cellsOf 23=1:=by kernel_rfl
theorem open_rats {H:Type} {enc:TypeId×Value→H} {W:World} {n:Nat} {v:Value} {x:DataW H×List MemPlace} (h:DataW.trod enc Tryz.prog W 0 (fun _=>true) true n 23 [v]=some x) :
  ∃ (A:Option Addr) (len cap:Nat) (L:List Rt),v=.slice A len cap∧Sr W A len cap L∧inL L∧(∀ r∈L,r.q=rv r.b r.x r.y)∧len≤9223372036854775807:=by
 rcases DataW.trod_slice Tryz.underlying23 h with ⟨h0,_⟩ | ⟨a,len,cap,elems,rest,m,_,h0,_,hb,hl,hm,hlen,hel,_,_⟩
 ·obtain rfl:v=.slice none 0 0:=by simpa using h0
  exact⟨none,0,0,[],rfl,Sr.none_ _ _ _,fun r hr=>(by cases hr),fun r hr=>(by cases hr),by omega⟩
 ·obtain rfl:v=.slice (some a) len cap:=by simpa using h0
  have hm':len≤9223372036854775807:=by unfold maxLen at hm;omega
  rw[cRat] at hel;have each:∀ i,i<len→∃ r:Rt,(W.cell? (a.add (i*3))=some (.bool r.b)∧W.cell? ((a.add (i*3)).add 1)=some (.slice r.A r.n r.c)∧W.cell? ((a.add (i*3)).add 2)=some (.slice r.D r.m r.d))∧r.raw W∧(r.n≤9223372036854775807∧r.m≤9223372036854775807)∧r.q=rv r.b r.x r.y:=by
   intro i hi;have e:=hel i hi;rw[List.getElem?_eq_getElem (by omega),Option.bind_eq_some_iff] at e
   obtain⟨cs,hcs,hy⟩:=e;obtain⟨hcl,hcg⟩:=cells_get hcs
   match cs,hcl with
   | [c0,c1,c2],_=>
    obtain⟨b,A1,n1,k1,xs,A2,n2,k2,ds,rfl,rfl,rfl,R1,m1,R2,m2⟩:=open_rat_cells hy;exact⟨⟨b,A1,n1,k1,xs,A2,n2,k2,ds,rv b xs ds⟩,⟨hcg 0 (by omega),hcg 1 (by omega),hcg 2 (by omega)⟩,⟨R1,R2⟩,⟨m1,m2⟩,rfl⟩
  rcases Nat.eq_zero_or_pos len with h0 | h0
  ·subst h0
   exact⟨some a,0,cap,[],rfl,Sr.none_ _ _ _,fun r hr=>(by cases hr),fun r hr=>(by cases hr),by omega⟩
  ·obtain⟨r0,⟨e0,_,_⟩,_⟩:=each 0 h0
   have ea:a.add (0*3)=a:=by simp[Addr.add]
   rw[ea] at e0;obtain⟨ha,hblt⟩:=spot_none e0;obtain⟨b,o,s⟩:=a;obtain rfl:s=none:=by injection ha
   refine⟨_,len,cap,(List.range len).map (fun i=>if hi:i<len then (each i hi).choose else Zt),rfl,⟨by simp,hl,.inr ⟨b,o,rfl,hblt,fun i r hi=>?_⟩,fun r hr=>?_⟩,fun r hr=>?_,fun r hr=>?_,hm'⟩
   ·have hil:i<len:=by
     have:=(List.getElem?_eq_some_iff.1 hi).1
     simpa using this
    have er:r=(each i hil).choose:=by
     rw[List.getElem?_map,List.getElem?_range hil] at hi
     simpa [hil] using hi.symm
    obtain⟨⟨k0,k1,k2⟩,_⟩:=(each i hil).choose_spec;rw[←er] at k0 k1 k2;rw[add_n] at k0 k1 k2;rw[add_n] at k1 k2;exact⟨k0,k1,k2⟩
   all_goals
    obtain⟨i,hi,rfl⟩:=List.mem_map.1 hr;have hil:i<len:=by simpa using hi
    simp only[hil,dite_true]
   ·exact (each i hil).choose_spec.2.1
   ·exact (each i hil).choose_spec.2.2.1
   ·exact (each i hil).choose_spec.2.2.2
theorem open_mat {H:Type} {enc:TypeId×Value→H} {W:World} {n:Nat} {v:Value} {x:DataW H×List MemPlace} (h:DataW.trod enc Tryz.prog W 0 (fun _=>true) true n 22 [v]=some x) :
  ∃ (A:Option Addr) (len cap:Nat) (M:List Ro),v=.slice A len cap∧Mr W A len cap M∧(∀ r∈M,inL r.L∧r.n≤9223372036854775807∧∀ x∈r.L,x.q=rv x.b x.x x.y)∧len≤9223372036854775807:=by
 rcases DataW.trod_slice Tryz.underlying22 h with ⟨h0,_⟩ | ⟨a,len,cap,elems,rest,m,_,h0,_,hb,hl,hm,hlen,hel,_,_⟩
 ·obtain rfl:v=.slice none 0 0:=by simpa using h0
  exact⟨none,0,0,[],rfl,⟨rfl,Nat.le_refl _,.inl rfl,fun r hr=>(by cases hr)⟩,fun r hr=>(by cases hr),by omega⟩
 ·obtain rfl:v=.slice (some a) len cap:=by simpa using h0
  have hm':len≤9223372036854775807:=by unfold maxLen at hm;omega
  rw[cMat] at hel;have each:∀ i,i<len→∃ r:Ro,W.cell? (a.add (i*1))=some (.slice r.A r.n r.c)∧Sr W r.A r.n r.c r.L∧(inL r.L∧r.n≤9223372036854775807∧∀ x∈r.L,x.q=rv x.b x.x x.y):=by
   intro i hi;have e:=hel i hi;rw[List.getElem?_eq_getElem (by omega),Option.bind_eq_some_iff] at e
   obtain⟨cs,hcs,hy⟩:=e;obtain⟨hcl,hcg⟩:=cells_get hcs
   match cs,hcl with
   | [c0],_=>
    obtain⟨A1,n1,k1,L,rfl,S1,h1,h2,h3⟩:=open_rats hy;exact⟨⟨A1,n1,k1,L⟩,hcg 0 (by omega),S1,h1,h3,h2⟩
  rcases Nat.eq_zero_or_pos len with h0 | h0
  ·subst h0
   exact⟨some a,0,cap,[],rfl,⟨rfl,Nat.zero_le _,.inl rfl,fun r hr=>(by cases hr)⟩,fun r hr=>(by cases hr),by omega⟩
  ·obtain⟨r0,e0,_⟩:=each 0 h0
   have ea:a.add (0*1)=a:=by simp[Addr.add]
   rw[ea] at e0;obtain⟨ha,hblt⟩:=spot_none e0;obtain⟨b,o,s⟩:=a;obtain rfl:s=none:=by injection ha
   refine⟨_,len,cap,(List.range len).map (fun i=>if hi:i<len then (each i hi).choose else Ro0),rfl,⟨by simp,hl,.inr ⟨b,o,rfl,hblt,fun i r hi=>?_⟩,fun r hr=>?_⟩,fun r hr=>?_,hm'⟩
   ·have hil:i<len:=by
     have:=(List.getElem?_eq_some_iff.1 hi).1
     simpa using this
    have er:r=(each i hil).choose:=by
     rw[List.getElem?_map,List.getElem?_range hil] at hi
     simpa [hil] using hi.symm
    have k0:=(each i hil).choose_spec.1;rw[←er] at k0;rw[add_n,Nat.mul_one] at k0;exact k0
   all_goals
    obtain⟨i,hi,rfl⟩:=List.mem_map.1 hr;have hil:i<len:=by simpa using hi
    simp only[hil,dite_true]
   ·exact (each i hil).choose_spec.2.1
   ·exact (each i hil).choose_spec.2.2
end Go.Proofs.YtfnkpfbobdmieaaGreat
namespace Go.Proofs.YtfnkpfbobdmieaaGreat
open Go.RowKit RQ GE
set_option linter.unusedVariables false
theorem sr_cells {W:World} {b o n c:Nat} {L:List Rt} (h:Sr W (some ⟨b,o,none⟩) n c L) (hn:0<n):∀ j v,(csE L)[j]?=some v→W.cell? ((⟨b,o,none⟩:Addr).add j)=some v:=by
 intro j v hv;have hadd:(⟨b,o,none⟩:Addr).add j=⟨b,o+j,none⟩:=by unfold Addr.add;split<;>simp_all
 rw[hadd]
 rcases h.mem with h0 | ⟨b',o',hA,hlt,hc⟩
 ·omega
 ·obtain⟨rfl,rfl⟩:b=b'∧o=o':=by simp only[Option.some.injEq,Addr.mk.injEq] at hA;exact⟨hA.1,hA.2.1⟩
  have hj:j<L.length*3:=by rw[←csE_len];exact (List.getElem?_eq_some_iff.1 hv).1
  have h3:=Nat.div_add_mod j 3;have hm:=Nat.mod_lt j (show 0<3 by decide)
  have hi:j / 3<L.length:=by omega
  have hx:L[j / 3]?=some L[j / 3]:=List.getElem?_eq_getElem hi
  obtain⟨e0,e1,e2⟩:=csE_get hx;obtain⟨k0,k1,k2⟩:=hc _ _ hx;have hcs:j%3=0∨j%3=1∨j%3=2:=by omega
  rcases hcs with h | h | h
  ·rw[show j=j / 3*3 by omega] at hv ⊢
   rw[e0] at hv;rw[k0];exact hv
  ·rw[show j=j / 3*3+1 by omega] at hv ⊢
   rw[e1] at hv;rw[←Nat.add_assoc,k1];exact hv
  ·rw[show j=j / 3*3+2 by omega] at hv ⊢
   rw[e2] at hv;rw[←Nat.add_assoc,k2];exact hv
theorem csE_one (L:List Rt):∀ v∈csE L,v.oneCell'=true:=by
 intro v hv;obtain⟨r,_,hr⟩:=List.mem_flatMap.1 hv
 simp[Rt.cs] at hr
 rcases hr with rfl | rfl | rfl<;>rfl
theorem run_copy_rat (w:World) (g o dLen dCap b sOff sLen sCap:Nat) (cur:Array Value) (t:Nat) (L:List Rt) (hg:w.heap[g]?=some (.cells cur t (0,0))) (hn:Nat.min sLen dLen=sLen) (h:Sr w (some ⟨b,sOff,none⟩) sLen sCap L) (h0:0<sLen) (hfit:o+sLen*3≤cur.size) :
  (Builtin.copy_ #[23,23] 3 #[.slice (some ⟨g,o,none⟩) dLen dCap,.slice (some ⟨b,sOff,none⟩) sLen sCap]).run Tryz.prog w=.ok (goInt sLen) (w.setRow g (cur.toList.take o++csE L++cur.toList.drop (o+sLen*3)).toArray):=by
 have hlen:(csE L).length=sLen*3:=by rw[csE_len,h.len]
 have hl:=run_loadCells_list (P:=Tryz.prog) w ⟨b,sOff,none⟩ (csE L) (sr_cells h h0);have hst:=run_storeCells_at Tryz.prog g o t (csE L) 0 cur w hg (by rw[hlen];simpa using hfit) (csE_one L)
 rw[hlen] at hl hst;obtain⟨i0,hi,hzz⟩:=Option.map_eq_some_iff.1 infoR;simp only[Prod.mk.injEq] at hzz;obtain⟨hz0,hz1,hz2⟩:=hzz
 simp[Builtin.copy_,run_underlying Tryz.underlying23,Builtin.lenOf,Builtin.firstCells,sizeOf,typeInfo,hi,hz1,hn,hl,hst]
theorem csE_drop:∀ (L:List Rt) (p:Nat),(csE L).drop (p*3)=csE (L.drop p)
 | _,0=>by rw[Nat.zero_mul,List.drop_zero,List.drop_zero]
 | [],p+1=>by show List.drop _ []=_;rw[List.drop_nil];rfl
 | r::L,p+1=>by
  show ([Value.bool r.b,.slice r.A r.n r.c,.slice r.D r.m r.d]++csE L).drop ((p+1)*3)=csE (L.drop p)
  rw[←csE_drop L p,show (p+1)*3=[Value.bool r.b,.slice r.A r.n r.c,.slice r.D r.m r.d].length+p*3 by show _=3+p*3;omega,←List.drop_drop,List.drop_left]
def RetJ (L:List Rt) (n:Nat) (w:World) (e:Ending) (w':World):Prop:=∃ g,e=.returned (.slice (some ⟨g,0,none⟩) n n)∧w.heap.size≤g∧Cb w' g (csE L).toArray 45∧L.length=n∧Below w.heap.size w w'
theorem join1 {La Z:List Rt} {p m:Nat} (hp:La.length=p) (hz:Z.length=m):(csE Z).toArray.toList.take 0++csE La++(csE Z).toArray.toList.drop (0+p*3)=csE (La++Z.drop p):=by
 rw[List.toList_toArray,List.take_zero,List.nil_append,Nat.zero_add,csE_app,csE_drop]
theorem join2 {La Lb R:List Rt} {p q:Nat} (hp:La.length=p) (hq:Lb.length=q) (hR:R.length=q):(csE (La++R)).toArray.toList.take (p*3)++csE Lb++(csE (La++R)).toArray.toList.drop (p*3+q*3)=csE (La++Lb):=by
 rw[List.toList_toArray,csE_app,csE_app];have l1:(csE La).length=p*3:=by rw[csE_len,hp]
 rw[List.take_append_of_le_length (by omega),List.take_of_length_le (by omega),List.drop_eq_nil_of_le (by rw[List.length_append,l1,csE_len,hR];omega),List.append_nil]
theorem joined_any (La Lb:List Rt) (A B:Option Addr) (p q c c':Nat) (w:World) (h:Sr w A p c La) (h':Sr w B q c' Lb) (p0:0<p) (q0:0<q) (p1:p≤1000) (q1:q≤1000):Calls Tryz.prog 54 #[.slice A p c,.slice B q c'] w (RetJ (La++Lb) (p+q) w):=by
 obtain⟨b,o,rfl⟩:∃ b o,A=some ⟨b,o,none⟩:=by
  obtain⟨b,o,_,hA,_⟩:=h.get p0;exact⟨b,o,hA⟩
 obtain⟨b2,o2,rfl⟩:∃ b o,B=some ⟨b,o,none⟩:=by
  obtain⟨b,o,_,hA,_⟩:=h'.get q0;exact⟨b,o,hA⟩
 have hmk:∀ w,(Instr.makeSlice 23 (.int .i64 ((p:Int)+(q:Int))) (.int .i64 ((p:Int)+(q:Int)))).run Tryz.prog w=.ok (.slice (some ⟨w.heap.size,0,none⟩) (p+q) (p+q)) (w.alloc (.cells (csE (List.replicate (p+q) Zt)).toArray 45)):=fun w=>by
  have:=make_rat (p+q) (by omega) w
  rwa [Int.natCast_add] at this
 have S0:=Lib.hid ((St.new w).allocAt w.heap.size (csE (List.replicate (p+q) Zt)).toArray 45 (NoLl.csE _).arr rfl);replace h:=Lib.hid h;replace h':=Lib.hid h';have hp0:=Lib.hid p0;have hq0:=Lib.hid q0;go_enter Tryz.func54,Tryz.ntmps54;go_upto_region 2 with fail
 obtain⟨g,hg⟩:∃ g,g=w.heap.size:=⟨_,rfl⟩;obtain⟨W1,hW1⟩:∃ W,W=w.alloc (.cells (csE (List.replicate (p+q) Zt)).toArray 45):=⟨_,rfl⟩;rw[←hg,←hW1] at S0 ⊢;clear hW1;have hb1:=S0.out.bk _ List.mem_cons_self;have c1:=run_copy_rat W1 g 0 (p+q) (p+q) b o p c _ _ La hb1.1 (Nat.min_eq_left (by omega)) (h.out.bel S0.out.bel) p0 (by rw[List.size_toArray,csE_len,List.length_replicate];omega)
 have S1:=S0.out.setRow (cs':=(csE (La++(List.replicate (p+q) Zt).drop p)).toArray) (NoLl.csE _).arr;rw[join1 h.out.len (List.length_replicate)] at c1;obtain⟨W2,hW2⟩:∃ W,W=W1.setRow g (csE (La++(List.replicate (p+q) Zt).drop p)).toArray:=⟨_,rfl⟩;rw[←hW2] at c1 S1;have hb2:=S1.bk _ List.mem_cons_self;have c2:=run_copy_rat W2 g (p*3) q q b2 o2 q c' _ _ Lb hb2.1 (Nat.min_eq_left (by omega)) (h'.out.bel S1.bel) q0 (by rw[List.size_toArray,csE_len,List.length_append,List.length_drop,List.length_replicate,h.out.len];omega)
 have S2:=S1.setRow (cs':=(csE (La++Lb)).toArray) (NoLl.csE _).arr;rw[join2 h.out.len h'.out.len (by rw[List.length_drop,List.length_replicate];omega)] at c2
 obtain⟨W3,hW3⟩:∃ W,W=W2.setRow g (csE (La++Lb)).toArray:=⟨_,rfl⟩;rw[←hW3] at c2 S2;replace S2:=Lib.hid S2;have hlen:Hid ((La++Lb).length=p+q):=Lib.hid (by rw[List.length_append,h.out.len,h'.out.len])
 clear S1 S0 hb1 hb2 hW2 hW3 hmk h h' hg;go_wp2;go_ret;exact⟨g,rfl,(S2.out.bk _ List.mem_cons_self).2.2,(S2.out.bk _ List.mem_cons_self).1,hlen.out,S2.out.bel⟩
end Go.Proofs.YtfnkpfbobdmieaaGreat
