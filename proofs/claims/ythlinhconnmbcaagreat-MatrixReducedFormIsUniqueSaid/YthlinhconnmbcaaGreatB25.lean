/- eliminate of matrix. -/
import Derived.Test.YthlinhconnmbcaaGreatB24
set_option maxRecDepth 100000
set_option maxHeartbeats 40000000
set_option linter.unusedVariables false
namespace Go.Proofs.YthlinhconnmbcaaGreat
open Go.RowKit RQ GE
set_option linter.unusedVariables false
def RetEc (n k:Nat) (S:GS) (l:Rat) (w:World) (e:Ending) (w':World):Prop:=∃ gR K P pc A1 n1 c1 D1 m1 d1 A2 n2 c2 D2 m2 d2,
 e=.returned (.agg (ecE gR n P S.p.length pc l A1 n1 c1 D1 m1 d1 S.f A2 n2 c2 D2 m2 d2))∧Mr w' (some ⟨gR,0,none⟩) n n K∧(∀ r∈K,r.n=k∧∀ x∈r.L,x.can)∧qM K=S.M∧Ir w' P S.p.length pc S.p∧RR w' A1 n1 c1 D1 m1 d1 l∧RR w' A2 n2 c2 D2 m2 d2 S.f∧Below w.heap.size w w'
theorem res_elim (W:World) (tmps:Array Value) (g t:Nat) {v0 v1 v2 v3 v4 v5 v6 v7:Value} (ht:tmps.getD 2 undef=.pointer (some ⟨g,0,none⟩)) (h:Cb W g #[v0,v1,v2,v3,v4,v5,v6,v7] t) :
  (results Tryz.f40 tmps).run Tryz.prog W=.ok (.agg #[v0,v1,v2,v3,v4,v5,v6,v7]) W:=by
 have c0:W.cell? ⟨g,0,none⟩=some v0:=h.cell rfl;have c1:W.cell? ⟨g,1,none⟩=some v1:=h.cell rfl;have c2:W.cell? ⟨g,2,none⟩=some v2:=h.cell rfl;have c3:W.cell? ⟨g,3,none⟩=some v3:=h.cell rfl;have c4:W.cell? ⟨g,4,none⟩=some v4:=h.cell rfl;have c5:W.cell? ⟨g,5,none⟩=some v5:=h.cell rfl;have c6:W.cell? ⟨g,6,none⟩=some v6:=h.cell rfl;have c7:W.cell? ⟨g,7,none⟩=some v7:=h.cell rfl;have ht':tmps[2]?.getD undef=.pointer (some ⟨g,0,none⟩):=by rw[←ht];simp[Array.getD_eq_getD_getElem?]
 simp[results,Tryz.results40,go_sem,ht',c0,c1,c2,c3,c4,c5,c6,c7]
theorem rs_neg {q:Rat} {p:Nat} (h:Rs q p):Rs (-q) p:=⟨by rw[Rat.neg_num,Int.natAbs_neg];exact h.n,h.d⟩
theorem ESt.fin {w W:World} {gE gR m pc n:Nat} {B:List Nat} {P:Option Addr} {s:GS} {l:Rat} {zs:List Bk} {qs:List Rdg} (h:ESt w W gE gR B m P pc s l zs qs) (hn:B.length=n):∃ K,Mr W (some ⟨gR,0,none⟩) n n K∧(∀ r∈K,r.n=m∧∀ x∈r.L,x.can)∧qM K=s.M∧Ir W P s.p.length pc s.p:=by
 obtain⟨R,ys,rs,A1,n1,c1,D1,m1,d1,A2,n2,c2,D2,m2,d2,G,K,h⟩:=h;have hm:=MB_mat G.st.sub K;rw[hn] at hm;obtain⟨A,c,hv,hI⟩:=Apd.ir (L:=s.p) G;injection hv with hv1 hv2 hv3
 subst hv1 hv3;refine⟨KR m B R,hm,fun r hr=>?_,(KR_q K.len).trans K.q,hI⟩
 obtain⟨i,hi⟩:=List.getElem?_of_mem hr
 obtain⟨b,L,hb,hL,rfl⟩:=KR_of hi;exact⟨rfl,fun x hx=>(K.el L (List.mem_of_getElem? hL) x hx).1⟩
theorem getD_at' {M:List (List Rat)} {i:Nat} (h:i<M.length):M[i]?=some (M.getD i []):=by
 rw[List.getD_eq_getElem?_getD,List.getElem?_eq_getElem h];rfl
theorem elim_any (M:List Ro) (A:Option Addr) (n c k:Nat) (w:World) (h:Mr w A n c M) (hk:∀ r∈M,r.n=k) (hkc:colM M=k) (ka:∀ r∈M,∀ x∈r.L,Rk x.b x.n x.x x.m x.y x.q) (a d:Nat) (hs:∀ r∈M,∀ x∈r.L,S2 a d x.q) (hn:n≤1000) (hk1:k≤1000) (hd:d*k+a+d<1000000) (hz:(zA (d*k+a) (n-1)).1≤1000000∧(zA (d*k+a) (n-1)).2.1≤1000000) (hf:n*(d*k)<1000000):Calls Tryz.prog 40 #[.slice A n c] w (RetEc n k (brun k 0 ⟨wh (qM M),[],pr (rsc (qM M)) n⟩ 1).1 (brun k 0 ⟨wh (qM M),[],pr (rsc (qM M)) n⟩ 1).2 w):=by
 obtain⟨f1,hf1⟩:∃ q:Rat,q=1:=⟨_,rfl⟩;rw[←hf1];obtain⟨Q,hQ⟩:∃ Q,Q=qM M:=⟨_,rfl⟩;rw[←hQ];have hQl:Q.length=n:=by rw[hQ];unfold qM;rw[List.length_map];exact h.len
 have hQr:rct k Q:=fun r hr=>by
  rw[hQ] at hr;obtain⟨x,hx,rfl⟩:=List.mem_map.1 hr;rw[List.length_map,(h.rd x hx).len];exact hk x hx
 have hQs:∀ r∈Q,∀ x∈r,S2 a d x:=fun r hr x hx=>by
  rw[hQ] at hr;obtain⟨y,hy,rfl⟩:=List.mem_map.1 hr;obtain⟨z,hz',rfl⟩:=List.mem_map.1 hx;exact hs y hy z hz'
 have hQ1:Hid (∀ i r,M[i]?=some r→Q.getD i []=r.L.map (·.q)):=Lib.hid fun i r hi=>by
  rw[hQ];unfold qM;rw[List.getD_eq_getElem?_getD,List.getElem?_map,hi];rfl
 have hw2:=Lib.hid (wh_s2 (k:=k) (fun r hr=>by rw[hQr r hr];exact Nat.le_refl _) hQs)
 have hr2:=Lib.hid (rsc_s2 (k:=k) (fun r hr=>by rw[hQr r hr];exact Nat.le_refl _) hQs)
 have hF:Hid (∀ W,Calls Tryz.prog 49 #[.int .i64 1] W (RetR f1 W)):=Lib.hid (fun W=>by rw[hf1];exact fromIntR_any 1 W (by decide) (by decide))
 have hmk:=Lib.hid (make_row n (by omega))
 have hWr:Hid (∀ r∈M,∀ W,Sr W r.A r.n r.c r.L→Calls Tryz.prog 36 #[.slice r.A r.n r.c] W (RetLo r.L k (GE.wsc 1 (r.L.map (·.q))) W)):=Lib.hid fun r hr W hW=>by
  have:=whole_s2 r.L r.A r.n r.c W hW (ka r hr) a d (hs r hr) (by rw[hk r hr];omega) (by rw[hk r hr];exact hk1)
  rwa [hk r hr] at this ⊢
 have hC:=Lib.hid (fun W h'=>cols_any M A n c W h')
 rw[hkc] at hC;have hkk:=Lib.hid hk;have hs1:Hid (∀ i,i<n→Rs (rsc Q i) 9000000):=Lib.hid fun i _=>S2.rs (hr2.out i) (by omega) (by omega)
 have hs2:Hid (∀ i,i≤n→Rs (pr (rsc Q) i) 9000000):=Lib.hid fun i hi=>S2.rs (pr_s2 hr2.out i) (by have:=Nat.mul_le_mul_right (d*k) hi;omega) (by omega)
 have S0:=Lib.hid ((St.new w).allocAt w.heap.size #[.slice none 0 0,.slice none 0 0,.bool false,.slice none 0 0,.slice none 0 0,.bool false,.slice none 0 0,.slice none 0 0] 73 (noLof rfl) rfl);replace h:=Lib.hid h;replace hf1:=Lib.hid hf1;replace hQ:=Lib.hid hQ;replace hQl:=Lib.hid hQl;replace hQr:=Lib.hid hQr;replace hz:=Lib.hid hz;have hnn:=Lib.hid hn;have hk11:=Lib.hid hk1;clear hk hkc ka hs hQs hn hk1 hd hf
 go_enter Tryz.func40,Tryz.ntmps40;go_upto_region 1 with fail
 obtain⟨w1,hw1⟩:∃ W,W=w.alloc (.cells #[.slice none 0 0,.slice none 0 0,.bool false,.slice none 0 0,.slice none 0 0,.bool false,.slice none 0 0,.slice none 0 0] 73):=⟨_,rfl⟩;obtain⟨gr,hgr⟩:∃ g,g=w.heap.size:=⟨_,rfl⟩;rw[←hw1,←hgr] at S0 ⊢;clear hw1 hgr;have hfin:Hid (∀ V2 gE gR A3 n3 c3 D3 m3 d3 A4 n4 c4 D4 m4 d4,St w1 V2 [(gE,#[.slice (some ⟨gR,0,none⟩) n n,.slice none 0 0,.bool (ng f1.num),.slice A3 n3 c3,.slice D3 m3 d3,.bool (ng f1.num),.slice A4 n4 c4,.slice D4 m4 d4],73),(gR,(csR (List.replicate n Ro0)).toArray,46)] [(D4,m4,d4,dn f1),(A4,n4,c4,limbs f1.num.natAbs),(D3,m3,d3,dn f1),(A3,n3,c3,limbs f1.num.natAbs)]→Fst w V2 gE gR n [] k [] f1 f1 [(gr,#[.slice none 0 0,.slice none 0 0,.bool false,.slice none 0 0,.slice none 0 0,.bool false,.slice none 0 0,.slice none 0 0],73)] []):=Lib.hid fun V2 gE gR A3 n3 c3 D3 m3 d3 A4 n4 c4 D4 m4 d4 S=>by
  refine⟨[],[],[(D4,m4,d4,dn f1),(A4,n4,c4,limbs f1.num.natAbs),(D3,m3,d3,dn f1),(A3,n3,c3,limbs f1.num.natAbs)],A3,n3,c3,D3,m3,d3,A4,n4,c4,D4,m4,d4,?_,⟨rfl,fun L hL=>(by cases hL),fun L hL=>(by cases hL),rfl⟩,⟨by simp,by simp⟩,⟨by simp,by simp⟩,fun q hq=>(by cases hq)⟩
  have J:=(S0.out.join S).prm (List.perm_append_comm (l₁:=[(gr,_,_)]));have e:csR (List.replicate n Ro0)=([]:List Nat).map (rowv k)++List.replicate (n-([]:List Nat).length) (.slice none 0 0):=by
   unfold csR;rw[List.map_replicate];rfl
  rw[e] at J;exact J
 go_cut [3] from 8 to 13 (fun v wc=>∃ gE gR,v=.pointer (some ⟨gE,0,none⟩)∧Fst w wc gE gR n [] k [] f1 f1 [(gr,#[.slice none 0 0,.slice none 0 0,.bool false,.slice none 0 0,.slice none 0 0,.bool false,.slice none 0 0,.slice none 0 0],73)] [])
 case first=>
  have hbase:=Lib.hid (St.new w1);refine RW.begin (Z:=[⟨6,3,#[.slice none 0 0,.slice none 0 0,.bool false,.slice none 0 0,.slice none 0 0,.bool false,.slice none 0 0,.slice none 0 0],73⟩]) (S:=(fun W=>Below w1.heap.size w1 W)) (by kernel_rfl) ?_ hbase.out ?_
  ·exact⟨by kernel_rfl,(zis_cons at6 (fun _ _=>by kernel_rfl) zis_nil),by decide,by decide,(nol_cons (noLof rfl) nol_nil),(fun _ _ h=>h.bel)⟩
  intro hzk;refine RW.t (i:=0) (v:=.slice A n c) (some 8) at0 (hy:=fun _ _=>by kernel_rfl) (h:=?_)
  refine RW.t (i:=1) (v:=.int .i64 n) (some 9) at1 (hy:=fun _ _=>by go_simp) (h:=?_)
  refine RW.branch (i:=2) (j:=3) hzk.out (by kernel_rfl) ?_ ?_
  ·refine One.blk (i:=2) (cs:=(csR (List.replicate n Ro0)).toArray) (t:=46) (k:=n) (some 10) hzk.out at2 rfl (by kernel_rfl) (by kernel_rfl) (fun W=>by have hm:=hmk.out W;go_simp) (NoLl.rows _).arr ?_
   clear hzk;intro gR hzk;refine RW.c (i:=3) (args:=#[.int .i64 1]) (some 11) hzk.out at3 (hx:=fun _=>by kernel_rfl) (h:=fun W S=>(hF.out W).mono ?_)
   rintro e w5 ⟨A3,n3,c3,D3,m3,d3,rfl,X3,bb⟩;refine⟨bb,_,[(D3,m3,d3,dn f1),(A3,n3,c3,limbs f1.num.natAbs)],rfl,(rd_cons X3.d (rd_cons X3.n rd_nil)),?_⟩
   clear bb S X3;refine RW.c (i:=4) (args:=#[.int .i64 1]) (some 12) hzk.out at4 (hx:=fun _=>by kernel_rfl) (h:=fun W S=>(hF.out W).mono ?_)
   rintro e w6 ⟨A4,n4,c4,D4,m4,d4,rfl,X4,bb⟩;refine⟨bb,_,[(D4,m4,d4,dn f1),(A4,n4,c4,limbs f1.num.natAbs)],rfl,(rd_cons X4.d (rd_cons X4.n rd_nil)),?_⟩
   clear bb S X4;refine RW.t (i:=5) (v:=.agg #[.slice (some ⟨gR,0,none⟩) n n,.slice none 0 0,.bool (ng f1.num),.slice A3 n3 c3,.slice D3 m3 d3,.bool (ng f1.num),.slice A4 n4 c4,.slice D4 m4 d4]) (some 13) at5 (hy:=fun _ _=>by kernel_rfl) (h:=?_)
   refine RW.tail hzk.out (by kernel_rfl) ?_
   intro gs w8 hgs hS S;obtain⟨gE,rfl⟩:=len1' hgs;clear hS hgs hzk hbase;simp only[mark,fill,List.map,Act.put,sZ0,sZ1,sZ2];replace S:=Lib.hid S;refine Wk.o (i:=7) at7 (by kernel_rfl) fun K' hK=>?_
   have z0:=St.cl S.out 0 0 rfl rfl;have z1:=St.cl S.out 0 1 rfl rfl;have z2:=St.cl S.out 0 2 rfl rfl;have z3:=St.cl S.out 0 3 rfl rfl;have z4:=St.cl S.out 0 4 rfl rfl;have z5:=St.cl S.out 0 5 rfl rfl;have z6:=St.cl S.out 0 6 rfl rfl;have z7:=St.cl S.out 0 7 rfl rfl;have y0:=St.f S.out 0 0 rfl;have y1:=St.f S.out 0 1 rfl;have y2:=St.f S.out 0 2 rfl;have y3:=St.f S.out 0 3 rfl;have y4:=St.f S.out 0 4 rfl
   have y5:=St.f S.out 0 5 rfl;have y6:=St.f S.out 0 6 rfl;have y7:=St.f S.out 0 7 rfl
   go_simp
   have SN:=((((((((S.out.set 0 0 (.slice (some ⟨gR,0,none⟩) n n) rfl (by nofun)).set 0 1 (.slice none 0 0) rfl (by nofun)).set 0 2 (.bool (ng f1.num)) rfl (by nofun)).set 0 3 (.slice A3 n3 c3) rfl (by nofun)).set 0 4 (.slice D3 m3 d3) rfl (by nofun)).set 0 5 (.bool (ng f1.num)) rfl (by nofun)).set 0 6 (.slice A4 n4 c4) rfl (by nofun)).set 0 7 (.slice D4 m4 d4) rfl (by nofun))
   clear S z0 y0 z1 y1 z2 y2 z3 y3 z4 y4 z5 y5 z6 y6 z7 y7;have S:=Lib.hid SN;clear SN;refine hK.out _ _ S.out.bel ?_
   clear hK K'
   try simp only[Act.put,sZ0,sZ1,sZ2]
   refine Wk.done (by kernel_rfl) ?_
   obtain⟨V2,hV2⟩:∃ W,W=(World.setCell (World.setCell (World.setCell (World.setCell (World.setCell (World.setCell (World.setCell (World.setCell w8 ⟨gE,0,none⟩ (.slice (some ⟨gR,0,none⟩) n n)) ⟨gE,1,none⟩ (.slice none 0 0)) ⟨gE,2,none⟩ (.bool (ng f1.num))) ⟨gE,3,none⟩ (.slice A3 n3 c3)) ⟨gE,4,none⟩ (.slice D3 m3 d3)) ⟨gE,5,none⟩ (.bool (ng f1.num))) ⟨gE,6,none⟩ (.slice A4 n4 c4)) ⟨gE,7,none⟩ (.slice D4 m4 d4)):=⟨_,rfl⟩
   rw[←hV2] at S ⊢;clear hV2;have T:=Lib.hid (hfin.out V2 gE gR A3 n3 c3 D3 m3 d3 A4 n4 c4 D4 m4 d4 S.out);clear S;go_wp2
   go_meet
   exact⟨gE,gR,rfl,T.out⟩
  ·refine One.call (c:=3) (args:=#[.int .i64 1]) (some 11) hzk.out at3 rfl (by kernel_rfl) (by kernel_rfl) (hx:=fun _=>by kernel_rfl) (h:=fun W S=>(hF.out W).mono ?_)
   rintro e w5 ⟨A3,n3,c3,D3,m3,d3,rfl,X3,bb⟩;refine⟨bb,_,[(D3,m3,d3,dn f1),(A3,n3,c3,limbs f1.num.natAbs)],rfl,(rd_cons X3.d (rd_cons X3.n rd_nil)),?_⟩
   clear bb S X3;refine RW.branch (i:=2) (j:=4) hzk.out (by kernel_rfl) ?_ ?_
   ·refine One.blk (i:=2) (cs:=(csR (List.replicate n Ro0)).toArray) (t:=46) (k:=n) (some 10) hzk.out at2 rfl (by kernel_rfl) (by kernel_rfl) (fun W=>by have hm:=hmk.out W;go_simp) (NoLl.rows _).arr ?_
    clear hzk;intro gR hzk;refine RW.c (i:=4) (args:=#[.int .i64 1]) (some 12) hzk.out at4 (hx:=fun _=>by kernel_rfl) (h:=fun W S=>(hF.out W).mono ?_)
    rintro e w6 ⟨A4,n4,c4,D4,m4,d4,rfl,X4,bb⟩;refine⟨bb,_,[(D4,m4,d4,dn f1),(A4,n4,c4,limbs f1.num.natAbs)],rfl,(rd_cons X4.d (rd_cons X4.n rd_nil)),?_⟩
    clear bb S X4;refine RW.t (i:=5) (v:=.agg #[.slice (some ⟨gR,0,none⟩) n n,.slice none 0 0,.bool (ng f1.num),.slice A3 n3 c3,.slice D3 m3 d3,.bool (ng f1.num),.slice A4 n4 c4,.slice D4 m4 d4]) (some 13) at5 (hy:=fun _ _=>by kernel_rfl) (h:=?_)
    refine RW.tail hzk.out (by kernel_rfl) ?_
    intro gs w8 hgs hS S;obtain⟨gE,rfl⟩:=len1' hgs;clear hS hgs hzk hbase;simp only[mark,fill,List.map,Act.put,sZ0,sZ1,sZ2];replace S:=Lib.hid S;refine Wk.o (i:=7) at7 (by kernel_rfl) fun K' hK=>?_
    have z0:=St.cl S.out 0 0 rfl rfl;have z1:=St.cl S.out 0 1 rfl rfl;have z2:=St.cl S.out 0 2 rfl rfl;have z3:=St.cl S.out 0 3 rfl rfl;have z4:=St.cl S.out 0 4 rfl rfl;have z5:=St.cl S.out 0 5 rfl rfl;have z6:=St.cl S.out 0 6 rfl rfl;have z7:=St.cl S.out 0 7 rfl rfl;have y0:=St.f S.out 0 0 rfl;have y1:=St.f S.out 0 1 rfl;have y2:=St.f S.out 0 2 rfl;have y3:=St.f S.out 0 3 rfl;have y4:=St.f S.out 0 4 rfl
    have y5:=St.f S.out 0 5 rfl;have y6:=St.f S.out 0 6 rfl;have y7:=St.f S.out 0 7 rfl
    go_simp
    have SN:=((((((((S.out.set 0 0 (.slice (some ⟨gR,0,none⟩) n n) rfl (by nofun)).set 0 1 (.slice none 0 0) rfl (by nofun)).set 0 2 (.bool (ng f1.num)) rfl (by nofun)).set 0 3 (.slice A3 n3 c3) rfl (by nofun)).set 0 4 (.slice D3 m3 d3) rfl (by nofun)).set 0 5 (.bool (ng f1.num)) rfl (by nofun)).set 0 6 (.slice A4 n4 c4) rfl (by nofun)).set 0 7 (.slice D4 m4 d4) rfl (by nofun))
    clear S z0 y0 z1 y1 z2 y2 z3 y3 z4 y4 z5 y5 z6 y6 z7 y7;have S:=Lib.hid SN;clear SN;refine hK.out _ _ S.out.bel ?_
    clear hK K'
    try simp only[Act.put,sZ0,sZ1,sZ2]
    refine Wk.done (by kernel_rfl) ?_
    obtain⟨V2,hV2⟩:∃ W,W=(World.setCell (World.setCell (World.setCell (World.setCell (World.setCell (World.setCell (World.setCell (World.setCell w8 ⟨gE,0,none⟩ (.slice (some ⟨gR,0,none⟩) n n)) ⟨gE,1,none⟩ (.slice none 0 0)) ⟨gE,2,none⟩ (.bool (ng f1.num))) ⟨gE,3,none⟩ (.slice A3 n3 c3)) ⟨gE,4,none⟩ (.slice D3 m3 d3)) ⟨gE,5,none⟩ (.bool (ng f1.num))) ⟨gE,6,none⟩ (.slice A4 n4 c4)) ⟨gE,7,none⟩ (.slice D4 m4 d4)):=⟨_,rfl⟩
    rw[←hV2] at S ⊢;clear hV2;have T:=Lib.hid (hfin.out V2 gE gR A3 n3 c3 D3 m3 d3 A4 n4 c4 D4 m4 d4 S.out);clear S;go_wp2
    go_meet
    exact⟨gE,gR,rfl,T.out⟩
   ·refine One.call (c:=4) (args:=#[.int .i64 1]) (some 12) hzk.out at4 rfl (by kernel_rfl) (by kernel_rfl) (hx:=fun _=>by kernel_rfl) (h:=fun W S=>(hF.out W).mono ?_)
    rintro e w6 ⟨A4,n4,c4,D4,m4,d4,rfl,X4,bb⟩;refine⟨bb,_,[(D4,m4,d4,dn f1),(A4,n4,c4,limbs f1.num.natAbs)],rfl,(rd_cons X4.d (rd_cons X4.n rd_nil)),?_⟩
    clear bb S X4;refine RW.blk (i:=2) (cs:=(csR (List.replicate n Ro0)).toArray) (t:=46) (k:=n) (some 10) hzk.out at2 rfl (by kernel_rfl) (by kernel_rfl) (fun W=>by have hm:=hmk.out W;go_simp) (NoLl.rows _).arr ?_
    clear hzk;intro gR hzk;refine RW.t (i:=5) (v:=.agg #[.slice (some ⟨gR,0,none⟩) n n,.slice none 0 0,.bool (ng f1.num),.slice A3 n3 c3,.slice D3 m3 d3,.bool (ng f1.num),.slice A4 n4 c4,.slice D4 m4 d4]) (some 13) at5 (hy:=fun _ _=>by kernel_rfl) (h:=?_)
    refine RW.tail hzk.out (by kernel_rfl) ?_
    intro gs w8 hgs hS S;obtain⟨gE,rfl⟩:=len1' hgs;clear hS hgs hzk hbase;simp only[mark,fill,List.map,Act.put,sZ0,sZ1,sZ2];replace S:=Lib.hid S;refine Wk.o (i:=7) at7 (by kernel_rfl) fun K' hK=>?_
    have z0:=St.cl S.out 0 0 rfl rfl;have z1:=St.cl S.out 0 1 rfl rfl;have z2:=St.cl S.out 0 2 rfl rfl;have z3:=St.cl S.out 0 3 rfl rfl;have z4:=St.cl S.out 0 4 rfl rfl;have z5:=St.cl S.out 0 5 rfl rfl;have z6:=St.cl S.out 0 6 rfl rfl;have z7:=St.cl S.out 0 7 rfl rfl;have y0:=St.f S.out 0 0 rfl;have y1:=St.f S.out 0 1 rfl;have y2:=St.f S.out 0 2 rfl;have y3:=St.f S.out 0 3 rfl;have y4:=St.f S.out 0 4 rfl
    have y5:=St.f S.out 0 5 rfl;have y6:=St.f S.out 0 6 rfl;have y7:=St.f S.out 0 7 rfl
    go_simp
    have SN:=((((((((S.out.set 0 0 (.slice (some ⟨gR,0,none⟩) n n) rfl (by nofun)).set 0 1 (.slice none 0 0) rfl (by nofun)).set 0 2 (.bool (ng f1.num)) rfl (by nofun)).set 0 3 (.slice A3 n3 c3) rfl (by nofun)).set 0 4 (.slice D3 m3 d3) rfl (by nofun)).set 0 5 (.bool (ng f1.num)) rfl (by nofun)).set 0 6 (.slice A4 n4 c4) rfl (by nofun)).set 0 7 (.slice D4 m4 d4) rfl (by nofun))
    clear S z0 y0 z1 y1 z2 y2 z3 y3 z4 y4 z5 y5 z6 y6 z7 y7;have S:=Lib.hid SN;clear SN;refine hK.out _ _ S.out.bel ?_
    clear hK K'
    try simp only[Act.put,sZ0,sZ1,sZ2]
    refine Wk.done (by kernel_rfl) ?_
    obtain⟨V2,hV2⟩:∃ W,W=(World.setCell (World.setCell (World.setCell (World.setCell (World.setCell (World.setCell (World.setCell (World.setCell w8 ⟨gE,0,none⟩ (.slice (some ⟨gR,0,none⟩) n n)) ⟨gE,1,none⟩ (.slice none 0 0)) ⟨gE,2,none⟩ (.bool (ng f1.num))) ⟨gE,3,none⟩ (.slice A3 n3 c3)) ⟨gE,4,none⟩ (.slice D3 m3 d3)) ⟨gE,5,none⟩ (.bool (ng f1.num))) ⟨gE,6,none⟩ (.slice A4 n4 c4)) ⟨gE,7,none⟩ (.slice D4 m4 d4)):=⟨_,rfl⟩
    rw[←hV2] at S ⊢;clear hV2;have T:=Lib.hid (hfin.out V2 gE gR A3 n3 c3 D3 m3 d3 A4 n4 c4 D4 m4 d4 S.out);clear S;go_wp2
    go_meet
    exact⟨gE,gR,rfl,T.out⟩
 case rest=>
 obtain⟨gE,gR,rfl,T⟩:=hcut;replace T:=Lib.hid T;clear S0 hF hfin hmk;have h2:Hid (Mr wc A n c M):=Lib.hid (h.out.bel T.out.bel);rename World=>W2
 go_wp2
 go_loopw [16] (fun iv wr=>∃ (i:Nat) (B:List Nat),i≤n∧iv=.int .i64 i∧B.length=i∧Fst w wr gE gR n B k ((wh Q).take i) f1 (pr (rsc Q) i) [(gr,#[.slice none 0 0,.slice none 0 0,.bool false,.slice none 0 0,.slice none 0 0,.bool false,.slice none 0 0,.slice none 0 0],73)] []) (fun iv _=>n-(intOf iv).toNat)
 case atStart=>exact⟨0,[],Nat.zero_le _,rfl,rfl,by rw[List.take_zero];show Fst w _ gE gR n [] k [] f1 1 [(gr,#[.slice none 0 0,.slice none 0 0,.bool false,.slice none 0 0,.slice none 0 0,.bool false,.slice none 0 0,.slice none 0 0],73)] [];rw[←hf1.out];exact T.out⟩
 case round=>
  clear T;obtain⟨i,B,hin,rfl,hB,T⟩:=hrel;rename World=>V0
  by_cases hlt:i<n
  ·have g4:(i:Int)<(n:Int):=by omega
   have g5:(0:Int)≤(i:Int):=by omega
   have hih:=Lib.hid hlt;have hM:=h.out.bel T.bel;obtain⟨b,o,r,rfl,hr,hrm,e0⟩:=hM.get hlt;have hrow:=Lib.hid (hM.rd r hrm);have hW:=Lib.hid (hWr.out r hrm V0 (hM.rd r hrm));have hrk:=hkk.out r hrm;have hq:=Lib.hid (hQ1.out i r hr);have hrl:Hid (r.L.length=k):=Lib.hid (by rw[(hM.rd r hrm).len];exact hrk)
   obtain⟨sc,hsc⟩:∃ q,q=GE.wsc 1 (r.L.map (·.q)):=⟨_,rfl⟩;rw[←hsc] at hW;have hsc2:Hid (sc=rsc Q i):=Lib.hid (by rw[hsc];unfold rsc;rw[hq.out])
   obtain⟨f,hff⟩:∃ q,q=pr (rsc Q) i:=⟨_,rfl⟩;rw[←hff] at T;have rsf:Hid (Rs f 9000000):=Lib.hid (by rw[hff];exact hs2.out i hin)
   have rss:Hid (Rs sc 9000000):=Lib.hid (by rw[hsc2.out];exact hs1.out i hlt)
   have hnx:Hid (f*sc=pr (rsc Q) (i+1)):=Lib.hid (by rw[hff,hsc2.out];rfl)
   have rsn:Hid (Rs (f*sc) 9000000):=Lib.hid (by rw[hnx.out];exact hs2.out (i+1) hlt)
   have hwq:Hid (((wh Q).take i)++[(r.L.map (·.q)).map fun x=>sc*x]=(wh Q).take (i+1)):=Lib.hid (by
    have:(wh Q)[i]?=some ((Q.getD i []).map fun x=>GE.wsc 1 (Q.getD i [])*x):=by
     unfold wh;rw[List.getElem?_map,getD_at' (by rw[hQl.out];exact hlt)];rfl
    rw[List.take_add_one,this,hq.out,←hsc];rfl)
   replace T:=Lib.hid T;replace hB:=Lib.hid hB;replace hsc:=Lib.hid hsc;replace hff:=Lib.hid hff;clear hlt hin hM hr hrm hrk
   go_wp2_with fail
   refine hW.out.mono ?_
   rintro e w5 ⟨A3,n3,c3,D3,m3,d3,g,K1,rfl,Q3,⟨hg,hcb⟩,hK1,hq1,hl1,bb⟩;have T1:=T.out.own bb hg hcb (NoLl.csE _).arr;have T2:=((T1.alloc #[.slice (some ⟨g,0,none⟩) k k,.bool (ng sc.num),.slice A3 n3 c3,.slice D3 m3 d3] 67 (noLof rfl)).read (Rd.below Q3.n ((Below.refl _ _).alloc (Nat.le_refl _) _))).read (Rd.below Q3.d ((Below.refl _ _).alloc (Nat.le_refl _) _));have hK2:Hid (∀ x∈K1,x.can∧x.raw (w5.alloc (.cells #[.slice (some ⟨g,0,none⟩) k k,.bool (ng sc.num),.slice A3 n3 c3,.slice D3 m3 d3] 67))):=Lib.hid fun x hx=>⟨(hK1 x hx).1,(hK1 x hx).2.bel ((Below.refl _ _).alloc (Nat.le_refl _) _)⟩
   replace T2:=Lib.hid T2;replace hq1:=Lib.hid hq1;replace hl1:=Lib.hid hl1;clear T T1 bb hg hcb hK1 Q3 hW e0 hrow;go_upto_region 6 with fail
   obtain⟨V1,hV1⟩:∃ W,W=w5.alloc (.cells #[.slice (some ⟨g,0,none⟩) k k,.bool (ng sc.num),.slice A3 n3 c3,.slice D3 m3 d3] 67):=⟨_,rfl⟩;obtain⟨gl,hgl⟩:∃ g,g=w5.heap.size:=⟨_,rfl⟩;rw[←hV1,←hgl] at T2;rw[←hV1] at hK2;rw[←hV1,←hgl];clear hV1 hgl;have hZ:=T2.out.zc (g:=gl) List.mem_cons_self;have l0:=hZ.cell (i:=0) rfl;have eE:=T2.out.ec.1;have hBn:B.length<n:=by rw[hB.out];exact hih.out
   obtain⟨nl,fn⟩:=T2.out.nil hBn;rw[hB.out] at nl;have fn:=fn i;have T3:=T2.out.row hBn (by rw[hl1.out]) hK2.out
   have e1:K1.map (·.q)=(r.L.map (·.q)).map fun x=>sc*x:=by rw[hq1.out,List.map_map];rfl
   rw[e1,hwq.out,hB.out] at T3;replace T3:=Lib.hid T3;clear T2 hZ hBn e1 hK2;go_upto_region 7 with fail
   clear l0 eE nl fn;obtain⟨V2,hV2⟩:∃ W,W=V1.setCell ⟨gR,i,none⟩ (.slice (some ⟨g,0,none⟩) k k):=⟨_,rfl⟩;rw[←hV2] at T3 ⊢;clear hV2;obtain⟨Af,nf,cf,Df,mf,df,x5,x6,x7,Xf⟩:=T3.out.scl;have hZ:=T3.out.zc (g:=gl) List.mem_cons_self;have l1:=hZ.cell (i:=1) rfl;have l2:=hZ.cell (i:=2) rfl;have l3:=hZ.cell (i:=3) rfl;have Xs:RR V2 A3 n3 c3 D3 m3 d3 sc:=⟨T3.out.rd (List.mem_cons_of_mem _ List.mem_cons_self),T3.out.rd List.mem_cons_self⟩
   have hMu:=Lib.hid (mulT (W:=V2) (Rt.of_can Af nf cf Df mf df rsf.out) Xf.raw (Rt.of_can A3 n3 c3 D3 m3 d3 rss.out) Xs.raw);obtain⟨nx,hnx2⟩:∃ q,q=f*sc:=⟨_,rfl⟩
   change Hid (Calls Tryz.prog 60 #[.agg #[.bool (ng f.num),.slice Af nf cf,.slice Df mf df],.agg #[.bool (ng sc.num),.slice A3 n3 c3,.slice D3 m3 d3]] V2 (RetR (f*sc) V2)) at hMu
   rw[←hnx2] at hMu hnx rsn;replace hnx2:=Lib.hid hnx2;clear hZ Xs Xf
   go_wp2_with fail
   refine hMu.out.mono ?_
   rintro e w6 ⟨A5,n5,c5,D5,m5,d5,rfl,X5,bb⟩;have T4:=Lib.hid (T3.out.put bb (Rt.of A5 n5 c5 D5 m5 d5 nx) ⟨Rt.of_can _ _ _ _ _ _ rsn.out,X5.raw⟩);obtain⟨_,_,_,_,_,_,x5',x6',x7',_⟩:=(T3.out.call bb).scl;have fE:=(T3.out.call bb).ec.2;have f5:=fE 5;have f6:=fE 6;have f7:=fE 7;have hi1:=hih.out;have hn1:=hnn.out;clear x5 x6 x7 l1 l2 l3 T3 bb X5 fE hMu;go_wp2
   go_roundw
   case rel=>exact⟨i+1,B++[g],by omega,by go_num,by rw[List.length_append,hB.out];rfl,by rw[←hnx.out];exact T4.out.pop⟩
   case measure=>simp[intOf];omega
  ·obtain rfl:n=i:=by omega
   have T1:Hid (ESt w V0 gE gR B k none 0 ⟨wh Q,[],pr (rsc Q) n⟩ f1 [(gr,#[.slice none 0 0,.slice none 0 0,.bool false,.slice none 0 0,.slice none 0 0,.bool false,.slice none 0 0,.slice none 0 0],73)] []):=Lib.hid (Fst.est (by
    rw[hB];rw[List.take_of_length_le (by rw[wh_len,hQl.out];exact Nat.le_refl _)] at T
    exact T))
   have hm0:=Lib.hid (h.out.bel T.bel);have hZ0:Hid (ZI (d*k+a) n ⟨wh Q,[],pr (rsc Q) n⟩ f1):=Lib.hid ⟨fun i c=>by
     show S2 (zA (d*k+a) (min 0 (n-1))).1 _ _
     rw[Nat.zero_min];exact hw2.out i c,fun _=>by rw[hf1.out];exact S2.one,fun h1 h2=>by have h1:0=n:=h1;omega⟩
   have hF0:Hid (EF n k (wh Q) [] 0):=Lib.hid (ef_start (by rw[wh_len,hQl.out]) (wh_rct hQr.out))
   have hl0:Hid (f1≠0):=Lib.hid (by rw[hf1.out];decide)
   have hs0:=Lib.hid (hs2.out n (Nat.le_refl _));have hzz:Hid (∀ t,t≤n-1→(zA (d*k+a) t).1≤1000000∧(zA (d*k+a) t).2.1≤1000000):=Lib.hid fun t ht=>⟨Nat.le_trans (zA_mono ht).1 hz.out.1,Nat.le_trans (zA_mono ht).2 hz.out.2⟩
   replace hB:=Lib.hid hB;clear T hlt hin
   go_wp2_with fail
   refine (hC.out _ hm0.out).mono ?_
   rintro e w3 ⟨rfl,bb⟩;replace T1:=Lib.hid (T1.out.call bb);clear bb hm0 hC;obtain⟨S0,hS0⟩:∃ s:GS,s=⟨wh Q,[],pr (rsc Q) n⟩:=⟨_,rfl⟩;have hF0:Hid (EF n k S0.M S0.p 0):=Lib.hid (by rw[hS0];exact hF0.out)
   have hs0:Hid (Rs S0.f 9000000):=Lib.hid (by rw[hS0];exact hs0.out)
   have hp0:S0.p.length=0:=by rw[hS0];rfl
   rw[←hS0] at T1 hZ0;replace hS0:=Lib.hid hS0;go_wp2
   go_loopw [38] (fun iv wr=>∃ (j:Nat) (B:List Nat) (P:Option Addr) (pc:Nat) (s:GS) (l:Rat),j≤k∧iv=.int .i64 j∧B.length=n∧ESt w wr gE gR B k P pc s l [(gr,#[.slice none 0 0,.slice none 0 0,.bool false,.slice none 0 0,.slice none 0 0,.bool false,.slice none 0 0,.slice none 0 0],73)] []∧EF n k s.M s.p j∧l≠0∧ZI (d*k+a) n s l∧Rs s.f 9000000∧brun (k-j) j s l=brun k 0 S0 f1) (fun iv _=>k-(intOf iv).toNat)
   case atStart=>exact⟨0,B,none,0,S0,f1,Nat.zero_le _,rfl,hB.out,T1.out,hF0.out,hl0.out,hZ0.out,hs0.out,rfl⟩
   case round=>
    clear T1 hB hF0 hl0 hZ0 hs0 hp0;obtain⟨j,B,P,pc,s,l,hjk,rfl,hB,T,F,hl,Z,hs,hbr⟩:=hrel;rename World=>V0
    by_cases hlj:j<k
    ·have g6:(j:Int)<(k:Int):=by omega
     have g7:(0:Int)≤(j:Int):=by omega
     have hjh:=Lib.hid hlj;have hML:=T.len;rw[hB] at hML;have hCh:=Lib.hid (T.choose (c:=j) (by rw[hB];exact hnn.out) (by rw[hB];exact F.ple) hlj (by have:=hk11.out;omega) hs)
     obtain⟨F1,hl1,_⟩:=bcol_ef F hl;have Z1:=bcol_size F Z;have hb1:brun (k-(j+1)) (j+1) (bcol j s l).1 (bcol j s l).2=brun k 0 S0 f1:=by
      rw[←hbr,show k-j=(k-(j+1))+1 by omega];rfl
     have hnext:Hid (∀ s' l',bcol j s l=(s',l')→EF n k s'.M s'.p (j+1)∧l'≠0∧ZI (d*k+a) n s' l'∧brun (k-(j+1)) (j+1) s' l'=brun k 0 S0 f1):=Lib.hid fun s' l' e=>by
      rw[e] at F1 hl1 Z1 hb1;exact⟨F1,hl1,Z1,hb1⟩
     have hno:Hid (gat j s=s.M.length→bcol j s l=(s,l)):=Lib.hid fun e=>by unfold bcol;rw[if_pos e]
     have hyes:Hid (gat j s<s.M.length→bcol j s l=(⟨bcls (gm1 j s) j l s.p.length n,s.p++[j],gf1 j s⟩,el (gm1 j s) s.p.length j)):=Lib.hid fun e=>by unfold bcol;rw[if_neg (by omega),hML]
     have hsz:Hid (gat j s<s.M.length→s.p.length<n∧(∀ i c,S2 1000000 1000000 (el (gm1 j s) i c))∧S2 1000000 1000000 l):=Lib.hid fun e=>by
      have hge:=gat_ge (j:=j) (s:=s);have hpn:s.p.length<n:=by omega
      have hm:min s.p.length (n-1)=s.p.length:=by omega
      have hzt:=hzz.out s.p.length (by omega)
      have hze:∀ i c,S2 1000000 1000000 (el s.M i c):=fun i c=>by
       have:=Z.e i c;rw[hm] at this;exact this.mono hzt.1 hzt.2
      refine⟨hpn,fun i c=>?_,(Z.o hpn).mono (Nat.le_trans (zA_last (a:=d*k+a) (t:=s.p.length)).1 hzt.1) (Nat.le_trans (zA_last (a:=d*k+a) (t:=s.p.length)).2 hzt.2)⟩
      rw[el_gm1 e]
      split
      ·exact hze _ _
      ·split<;>exact hze _ _
     have hsg:Hid (Rs (gf1 j s) 9000000):=Lib.hid (by
      unfold gf1
      split
      ·exact hs
      ·exact rs_neg hs)
     replace hB:=Lib.hid hB;replace hs:=Lib.hid hs;replace hl:=Lib.hid hl;clear T F Z hbr F1 hl1 Z1 hb1 hML hlj hjk
     go_wp2_with fail
     refine hCh.out.mono ?_
     rintro e w4 (⟨hg,rfl,T⟩ | ⟨hg,rfl,B2,hB2,T⟩)
     ·obtain⟨F1,hl1,Z1,hb1⟩:=hnext.out s l (hno.out hg)
      replace T:=Lib.hid T;replace F1:=Lib.hid F1;replace hl1:=Lib.hid hl1;replace Z1:=Lib.hid Z1;replace hb1:=Lib.hid hb1;clear hg hCh hnext;have hj1:=hjh.out;have hk2:=hk11.out;go_wp2
      go_roundw
      case rel=>exact⟨j+1,B,P,pc,s,l,by omega,by go_num,hB.out,T.out,F1.out,hl1.out,Z1.out,hs.out,hb1.out⟩
      case measure=>simp[intOf];omega
     ·obtain⟨F1,hl1,Z1,hb1⟩:=hnext.out _ _ (hyes.out hg)
      obtain⟨z1,z2,z3⟩:=hsz.out hg;have hB3:B2.length=n:=hB2.trans hB.out;have hCl:=clear_any T (by rw[hB3];exact hnn.out) hk11.out (by rw[hB3];exact z1) hjh.out hl.out z2 z3 (Nat.le_refl _)
      rw[hB3] at hCl;obtain⟨s2,hs2_⟩:∃ s2:GS,s2=⟨bcls (gm1 j s) j l s.p.length n,s.p++[j],gf1 j s⟩:=⟨_,rfl⟩;obtain⟨l2,hl2_⟩:∃ l2,l2=el (gm1 j s) s.p.length j:=⟨_,rfl⟩;have hsg2:Hid (Rs s2.f 9000000):=Lib.hid (by rw[hs2_];exact hsg.out)
      have hCl:Hid (Calls Tryz.prog 64 #[.pointer (some ⟨gE,0,none⟩),.int .i64 j] w4 fun e W'=>e=.returned (.tuple #[])∧∃ P' pc',ESt w W' gE gR B2 k P' pc' s2 l2 [(gr,#[.slice none 0 0,.slice none 0 0,.bool false,.slice none 0 0,.slice none 0 0,.bool false,.slice none 0 0,.slice none 0 0],73)] []):=Lib.hid (by rw[hs2_,hl2_];exact hCl)
      rw[←hs2_] at F1 Z1 hb1;rw[←hl2_] at hl1 Z1 hb1;replace F1:=Lib.hid F1;replace hl1:=Lib.hid hl1;replace Z1:=Lib.hid Z1;replace hb1:=Lib.hid hb1;replace hB3:=Lib.hid hB3;clear T hg hCh hnext z1 z2 z3 hs2_ hl2_
      go_wp2_with fail
      refine hCl.out.mono ?_
      rintro e w5 ⟨rfl,P2,pc2,T⟩;replace T:=Lib.hid T;clear hCl;have hj1:=hjh.out;have hk2:=hk11.out;go_wp2
      go_roundw
      case rel=>exact⟨j+1,B2,P2,pc2,s2,l2,by omega,by go_num,hB3.out,T.out,F1.out,hl1.out,Z1.out,hsg2.out,hb1.out⟩
      case measure=>simp[intOf];omega
    ·obtain rfl:k=j:=by omega
     rw[Nat.sub_self] at hbr;have hbr:(s,l)=brun k 0 S0 f1:=hbr;have hbr2:Hid (brun k 0 ⟨wh Q,[],pr (rsc Q) n⟩ f1=(s,l)):=Lib.hid (by rw[←hS0.out];exact hbr.symm)
     obtain⟨A1,n1,c1,D1,m1,d1,e2,e3,e4,X1⟩:=T.last;obtain⟨A2,n2,c2,D2,m2,d2,e5,e6,e7,X2⟩:=T.scl;obtain⟨_,e0,e1,_⟩:=T.ec;rw[hB] at e0;have hZ:=T.zc (g:=gr) List.mem_cons_self;have z0:=hZ.cell (i:=0) rfl;have y0:=hZ.frozen 0;have z1:=hZ.cell (i:=1) rfl;have y1:=hZ.frozen 1;have z2:=hZ.cell (i:=2) rfl;have y2:=hZ.frozen 2;have z3:=hZ.cell (i:=3) rfl;have y3:=hZ.frozen 3;have z4:=hZ.cell (i:=4) rfl;have y4:=hZ.frozen 4
     have z5:=hZ.cell (i:=5) rfl;have y5:=hZ.frozen 5;have z6:=hZ.cell (i:=6) rfl;have y6:=hZ.frozen 6;have z7:=hZ.cell (i:=7) rfl;have y7:=hZ.frozen 7;have T8:=Lib.hid ((((((((((((T.read X1.n).read X1.d).read X2.n).read X2.d).zset 0 (.slice (some ⟨gR,0,none⟩) n n) (by nofun)).zset 1 (.slice P s.p.length pc) (by nofun)).zset 2 (.bool (ng l.num)) (by nofun)).zset 3 (.slice A1 n1 c1) (by nofun)).zset 4 (.slice D1 m1 d1) (by nofun)).zset 5 (.bool (ng s.f.num)) (by nofun)).zset 6 (.slice A2 n2 c2) (by nofun)).zset 7 (.slice D2 m2 d2) (by nofun))
     replace hB:=Lib.hid hB;clear T hZ F hl Z hs hbr hlj hjk X1 X2;go_wp2;refine bodyPost_ret (res_elim _ _ gr 73 rfl (T8.out.zc List.mem_cons_self)) rfl ?_
     rw[hbr2.out];obtain⟨K,q1,q2,q3,q4⟩:=T8.out.fin hB.out;exact⟨gR,K,P,pc,A1,n1,c1,D1,m1,d1,A2,n2,c2,D2,m2,d2,rfl,q1,q2,q3,q4,⟨T8.out.rd (by simp),T8.out.rd (by simp)⟩,⟨T8.out.rd (by simp),T8.out.rd (by simp)⟩,T8.out.bel⟩
end Go.Proofs.YthlinhconnmbcaaGreat
