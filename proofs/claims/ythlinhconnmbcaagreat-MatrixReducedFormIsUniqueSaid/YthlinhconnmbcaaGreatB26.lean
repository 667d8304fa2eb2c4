/- reducedColumn of an echelon form. -/
import Derived.Test.YthlinhconnmbcaaGreatB25
set_option maxRecDepth 100000
set_option maxHeartbeats 40000000
set_option linter.unusedVariables false
namespace Go.Proofs.YthlinhconnmbcaaGreat
open Go.RowKit RQ GE
set_option linter.unusedVariables false
theorem tmf_step {R:List (List Rat)} {p:List Nat} {l:Rat} {c d i:Nat} (hi:i+(d+1)=p.length):∀ a,tmf R p l c (d+1) a=if a=i then (l*el R i c-sm (fun m=>el R i (p.getD (i+1+m) 0)*tmf R p l c d (i+1+m)) d) / el R i (p.getD i 0) else tmf R p l c d a:=fun a=>by
 show (if a+(d+1)=p.length then _ else _)=_
 by_cases h:a=i
 ·subst h;rw[if_pos hi,if_pos rfl]
 ·rw[if_neg (by omega),if_neg h]
theorem map_set_range {f g:Nat→Rat} {p i:Nat} (hf:∀ a,g a=if a=i then g i else f a):((List.range p).map f).set i (g i)=(List.range p).map g:=by
 refine pr1_ext (by rw[List.length_set,List.length_map,List.length_map]) fun a ha=>?_
 rw[List.length_set,List.length_map,List.length_range] at ha
 by_cases h:i=a
 ·subst h
  rw[List.getElem?_set_self (by rw[List.length_map,List.length_range];exact ha),List.getElem?_map,List.getElem?_range ha];rfl
 ·rw[List.getElem?_set_ne h,List.getElem?_map,List.getElem?_map,List.getElem?_range ha]
  show some (f a)=some (g a)
  rw[hf a,if_neg (fun e=>h e.symm)]
theorem sub3 {x u y:Rat}:x-u-y=x-(u+y):=by grind
def tzO (a z p:Nat):Prop:=∀ d,d≤p→(tz a z d).1≤1000000∧(tz a z d).2≤1000000∧∀ m,m≤d→(sz2 a z (tz a z d).1 (tz a z d).2 m).1≤1000000∧(sz2 a z (tz a z d).1 (tz a z d).2 m).2≤1000000
def RetCo (p:Nat) (Q:List Rat) (w:World) (e:Ending) (w':World):Prop:=∃ g L,e=.returned (.slice (some ⟨g,0,none⟩) p p)∧(w.heap.size≤g∧Cb w' g (csE L).toArray 33)∧L.length=p∧(∀ x∈L,x.can∧x.raw w')∧L.map (·.q)=Q∧Below w.heap.size w w'
theorem el_at {L:List Rt} {q:List Rat} (h:L.map (·.q)=q) {i:Nat} {x:Rt} (hx:L[i]?=some x):q.getD i 0=x.q:=by
 rw[←h,List.getD_eq_getElem?_getD,List.getElem?_map,hx];rfl
theorem redcol_any {w:World} {gE gR n k:Nat} {K:List Ro} {P:Option Addr} {pc:Nat} {ps:List Nat} {l:Rat} {A1:Option Addr} {n1 c1:Nat} {D1:Option Addr} {m1 d1 c a z:Nat} (hE:Env w gE gR n k K P pc ps l A1 n1 c1 D1 m1 d1) (hpn:ps.length≤n) (hpk:∀ x∈ps,x<k) (hc:0<ps.length→c<k) (hn:n≤1000) (hk:k≤1000) (hz:∀ i j,S2 a z (el (qM K) i j)) (hl:S2 a z l) (ha:a≤1000000∧z≤1000000) (hT:tzO a z ps.length):Calls Tryz.prog 54 #[.pointer (some ⟨gE,0,none⟩),.int .i64 c] w (RetCo ps.length ((List.range ps.length).map fun i=>tmf (qM K) ps l c ps.length i / l) w):=by
 obtain⟨p,hp⟩:∃ p,p=ps.length:=⟨_,rfl⟩;obtain⟨R,hR⟩:∃ R,R=qM K:=⟨_,rfl⟩;have e1:=hE.e1;rw[←hp] at hpn hT e1 hc ⊢;rw[←hR] at hz ⊢;have hmk:=make_rat p (by omega)
 have hp1:p≤1000:=by omega
 have hpp1:=Lib.hid hp1;have hst:Hid (∀ d i,S2 (tz a z d).1 (tz a z d).2 (tmf R ps l c d i)):=Lib.hid fun d i=>tmf_size hz hl
 have hsb:Hid (∀ d i m,S2 (sz2 a z (tz a z d).1 (tz a z d).2 m).1 (sz2 a z (tz a z d).1 (tz a z d).2 m).2 (l*el R i c-sm (fun m=>el R i (ps.getD (i+1+m) 0)*tmf R ps l c d (i+1+m)) m)):=Lib.hid fun d i m=>sub_size ((hl.mul (hz i c)).mono (by omega) (by omega)) (fun m=>hz i _) (fun m=>hst.out d _)
 have T:St w (w.alloc (.cells (csE (List.replicate p Zt)).toArray 33)) [(w.heap.size,(csE (List.replicate p Zt)).toArray,33)] [(none,0,0,[])]:=((St.new w).allocAt w.heap.size _ _ (NoLl.csE _).arr rfl).read (Rd.nil_ _ _ _);replace hE:=Lib.hid hE;replace hp:=Lib.hid hp;replace hR:=Lib.hid hR;replace hz:=Lib.hid hz;replace hl:=Lib.hid hl;replace hT:=Lib.hid hT;replace hpk:=Lib.hid hpk;replace T:=Lib.hid T
 replace hc:=Lib.hid hc;replace hk:=Lib.hid hk;replace ha:=Lib.hid ha;replace hpn:=Lib.hid hpn;replace hn:=Lib.hid hn;go_enter Tryz.func54,Tryz.ntmps54;go_wp2;replace hmk:=Lib.hid hmk;clear hmk e1;obtain⟨gT,hgT⟩:∃ g,g=w.heap.size:=⟨_,rfl⟩;rw[←hgT] at T;rw[←hgT];replace hgT:=Lib.hid hgT
 go_loopw [6] (fun iv wr=>∃ (d:Nat) (L:List Rt) (rs:List Rdg),d≤p∧iv=.int .i64 ((p:Int)-1-(d:Int))∧L.length=p∧St w wr [(gT,(csE L).toArray,33)] rs∧(∀ x∈L,x.can∧x.rdIn rs)∧L.map (·.q)=(List.range p).map (tmf R ps l c d)) (fun iv _=>(intOf iv+1).toNat)
 case atStart=>exact⟨0,List.replicate p Zt,_,Nat.zero_le _,by go_num,List.length_replicate,T.out,fun x hx=>(by obtain rfl:=(List.mem_replicate.1 hx).2;exact⟨Zt_can,List.mem_cons_self,List.mem_cons_self⟩),by
  rw[List.map_replicate]
  apply List.ext_getElem?
  intro j;rw[List.getElem?_replicate,List.getElem?_map]
  split
  ·rw[List.getElem?_range (by assumption)];rfl
  ·rw[List.getElem?_eq_none (by rw[List.length_range];omega)];rfl⟩
 case round=>
  clear T;obtain⟨d,L,rs,hdp,rfl,hL,S,hcn,hq⟩:=hrel;rename World=>V0
  by_cases hlt:d<p
  ·obtain⟨i,hi⟩:∃ i,i=p-1-d:=⟨_,rfl⟩
   have ei:(p:Int)-1-(d:Int)=(i:Int):=by omega
   rw[ei];have hdi:Hid (i+(d+1)=p):=Lib.hid (by omega)
   have g1:(0:Int)≤(i:Int):=by omega
   have hin:i<n:=by have:=hpn.out;omega
   have g2:(i:Int)<(n:Int):=by omega
   have hEV:=hE.out.bel S.bel;have e0:=hEV.e0;obtain⟨b,o,rc,Lr,r0w,SRw,cnR,qR⟩:=hE.out.row hin (by have:=hc.out (by omega);omega)
   have r0:=bel_cell S.bel r0w;have SR:=SRw.bel S.bel;rw[←hR.out] at qR;obtain⟨x,xq,xc,xr,x0,x1,x2⟩:=sr_num SR cnR qR (hc.out (by omega))
   have xq:x.q=el R i c:=xq;have l0:=Lib.hid hEV.e2;have l1:=Lib.hid hEV.e3;have l2:=Lib.hid hEV.e4;have haq:=ha.out.1;have haz:=ha.out.2;obtain⟨q0,hq0⟩:∃ q,q=l*x.q:=⟨_,rfl⟩;have rsl:Rs l 9000000:=S2.rs hl.out (by omega) (by omega)
   have rs0:Hid (Rs q0 9000000):=Lib.hid (by rw[hq0,xq];exact S2.rs (hl.out.mul (hz.out i c)) (by omega) (by omega))
   have hM1:Hid (∀ W,Below V0.heap.size V0 W→Calls Tryz.prog 60 #[.agg #[.bool (ng l.num),.slice A1 n1 c1,.slice D1 m1 d1],.agg #[.bool x.b,.slice x.A x.n x.c,.slice x.D x.m x.d]] W (RetR q0 W)):=Lib.hid fun W hW=>by rw[hq0];exact mulT (Rt.of_can A1 n1 c1 D1 m1 d1 rsl) (hEV.lr.below hW).raw xc (xr.bel hW)
   have hq0e:Hid (q0=l*el R i c-sm (fun m=>el R i (ps.getD (i+1+m) 0)*tmf R ps l c d (i+1+m)) 0):=Lib.hid (by
    rw[hq0,xq]
    show _=_-0
    rw[Rat.sub_eq_add_neg,Rat.neg_zero,Rat.add_zero])
   have hSRw:=Lib.hid SRw;have hdh:=Lib.hid hlt;have hinh:=Lib.hid hin;have hgc:(0:Int)≤(c:Int):=by omega
   have hck:(c:Int)<(k:Int):=by have:=hc.out (by omega);omega
   replace S:=Lib.hid S;replace hcn:=Lib.hid hcn;replace hq:=Lib.hid hq;replace hL:=Lib.hid hL;replace x0:=Lib.hid x0;replace x1:=Lib.hid x1;replace x2:=Lib.hid x2;replace cnR:=Lib.hid cnR;replace qR:=Lib.hid qR;clear hlt hdp ei hi hEV xq xc xr rsl SR SRw r0w hin hq0;have Sv:=S;clear S;go_upto_region 6 with fail
   have hbase:=Lib.hid (St.new V0);refine RW.begin (Z:=[⟨9,8,#[.bool false,.slice none 0 0,.slice none 0 0],33⟩]) (S:=(fun W=>Below V0.heap.size V0 W)) (by kernel_rfl) ?_ hbase.out ?_
   ·exact⟨by kernel_rfl,(zis_cons at9 (fun _ _=>by kernel_rfl) zis_nil),by decide,by decide,(nol_cons (noLof rfl) nol_nil),(fun _ _ h=>h.bel)⟩
   intro hzk;refine RW.t (i:=0) (v:=.pointer (some ⟨gE,0,none⟩)) (some 32) at0 (hy:=fun _ _=>by kernel_rfl) (h:=?_)
   refine RW.t (i:=1) (v:=.pointer (some ⟨gE,0,none⟩)) (some 33) at1 (hy:=fun _ _=>by go_simp) (h:=?_)
   refine RW.t (i:=2) (v:=.pointer (some ⟨gE,2,none⟩)) (some 34) at2 (hy:=fun _ _=>by go_simp) (h:=?_)
   refine RW.t (i:=3) (v:=.agg #[.bool (ng l.num),.slice A1 n1 c1,.slice D1 m1 d1]) (some 35) at3 (hy:=fun W hS=>by (have k0:=bel_cell hS l0.out;have k1:=bel_cell hS l1.out;have k2:=bel_cell hS l2.out;clear hS;go_simp)) (h:=?_)
   refine RW.t (i:=4) (v:=.slice (some ⟨b,o,none⟩) k rc) (some 36) at4 (hy:=fun _ _=>by kernel_rfl) (h:=?_)
   refine RW.t (i:=5) (v:=.int .i64 c) (some 37) at5 (hy:=fun _ _=>by kernel_rfl) (h:=?_)
   refine RW.t (i:=6) (v:=.pointer (some ⟨b,o+c*3,none⟩)) (some 38) at6 (hy:=fun _ _=>by go_simp) (h:=?_)
   refine RW.t (i:=7) (v:=.agg #[.bool x.b,.slice x.A x.n x.c,.slice x.D x.m x.d]) (some 39) at7 (hy:=fun W hS=>by (have k0:=bel_cell hS x0.out;have k1:=bel_cell hS x1.out;have k2:=bel_cell hS x2.out;clear hS;go_simp)) (h:=?_)
   refine RW.c (i:=8) (args:=#[.agg #[.bool (ng l.num),.slice A1 n1 c1,.slice D1 m1 d1],.agg #[.bool x.b,.slice x.A x.n x.c,.slice x.D x.m x.d]]) (some 40) hzk.out at8 (hx:=fun _=>by kernel_rfl) (h:=fun W S=>(hM1.out W S.bel).mono ?_)
   rintro e w5 ⟨A5,n5,c5,D5,m5,d5,rfl,X5,bb⟩;refine⟨bb,_,[(D5,m5,d5,dn q0),(A5,n5,c5,limbs q0.num.natAbs)],rfl,(rd_cons X5.d (rd_cons X5.n rd_nil)),?_⟩
   clear bb X5;refine RW.tail hzk.out (by kernel_rfl) ?_
   intro gs w8 hgs hS S5;obtain⟨gx,rfl⟩:=len1' hgs;clear hS hgs hzk hbase;simp only[mark,fill,List.map,Act.put,sZ0,sZ1,sZ2];replace S5:=Lib.hid S5;refine Wk.o (i:=10) at10 (by kernel_rfl) fun K' hK=>?_
   have z0:=St.cl S5.out 0 0 rfl rfl;have z1:=St.cl S5.out 0 1 rfl rfl;have z2:=St.cl S5.out 0 2 rfl rfl;have y0:=St.f S5.out 0 0 rfl;have y1:=St.f S5.out 0 1 rfl;have y2:=St.f S5.out 0 2 rfl
   go_simp
   have SN:=((S5.out.set 0 0 (.bool (ng q0.num)) rfl (by nofun)).set 0 1 (.slice A5 n5 c5) rfl (by nofun)).set 0 2 (.slice D5 m5 d5) rfl (by nofun)
   clear S5 z0 z1 z2 y0 y1 y2;have S5:=Lib.hid SN;clear SN;refine hK.out _ _ S5.out.bel ?_
   clear hK K'
   try simp only[Act.put,sZ0,sZ1,sZ2]
   refine Wk.done (by kernel_rfl) ?_
   obtain⟨V2,hV2⟩:∃ W,W=((w8.setCell ⟨gx,0,none⟩ (.bool (ng q0.num))).setCell ⟨gx,1,none⟩ (.slice A5 n5 c5)).setCell ⟨gx,2,none⟩ (.slice D5 m5 d5):=⟨_,rfl⟩;rw[←hV2] at S5 ⊢;have T:=Lib.hid ((Sv.out.join S5.out).swap);clear hV2 Sv S5 x0 x1 x2 l0 l1 l2 hM1 e0 r0;have hpp2:=hpp1.out;have hii:i<p:=by have:=hdi.out;omega
   go_wp2
   go_loopw [9] (fun kv wr=>∃ (m:Nat) (q:Rat) (A5:Option Addr) (n5 c5:Nat) (D5:Option Addr) (m5 d5:Nat) (rs':List Rdg),m≤d∧kv=.int .i64 (((i+1+m:Nat)):Int)∧q=l*el R i c-sm (fun m=>el R i (ps.getD (i+1+m) 0)*tmf R ps l c d (i+1+m)) m∧Rs q 9000000∧St w wr [(gx,#[.bool (ng q.num),.slice A5 n5 c5,.slice D5 m5 d5],33),(gT,(csE L).toArray,33)] rs'∧(A5,n5,c5,limbs q.num.natAbs)∈rs'∧(D5,m5,d5,dn q)∈rs'∧(∀ p∈rs,p∈rs')) (fun kv _=>p-(intOf kv).toNat)
   case atStart=>exact⟨0,q0,A5,n5,c5,D5,m5,d5,_,Nat.zero_le _,by go_num,hq0e.out,rs0.out,T.out,List.mem_append_right _ (List.mem_cons_of_mem _ List.mem_cons_self),List.mem_append_right _ List.mem_cons_self,fun p hp=>List.mem_append_left _ hp⟩
   case round=>
    clear T hq0e rs0;obtain⟨m,q,A5,n5,c5,D5,m5,d5,rs',hmd,rfl,hqm,hqs,S,hs1,hs2,hrs⟩:=hrel;rename World=>V1
    have SR:=hSRw.out.bel S.bel;have hEV:=hE.out.bel S.bel;have e0:=Lib.hid hEV.e0;have e1:V1.cell? ⟨gE,1,none⟩=some (.slice P p pc):=by rw[hp.out];exact hEV.e1
    have hir:=hEV.ir;have hzA:=hz.out;have hTd:=hT.out d (by have:=hdi.out;omega)
    by_cases hlm:m<d
    ·obtain⟨kk,hkk⟩:∃ kk,kk=i+1+m:=⟨_,rfl⟩
     rw[←hkk];have hkp:kk<p:=by have:=hdi.out;omega
     obtain⟨bP,oP,pk,hPA,hpk1,pc0⟩:=hir.get (i:=kk) (by rw[←hp.out];exact hkp)
     have hpkk:pk<k:=hpk.out pk (List.mem_of_getElem? hpk1);have hpg:ps.getD kk 0=pk:=by rw[List.getD_eq_getElem?_getD,hpk1];rfl
     obtain⟨z,zq,zc,zr,z0,z1,z2⟩:=sr_num SR cnR.out qR.out hpkk;have zq:z.q=el R i pk:=zq;obtain⟨y,hLk⟩:∃ y,L[kk]?=some y:=⟨L[kk]'(by rw[hL.out];exact hkp),List.getElem?_eq_getElem _⟩
     have ym:=List.mem_of_getElem? hLk;have yc:=(hcn.out y ym).1;have yr:y.raw V1:=⟨S.rd _ (hrs _ (hcn.out y ym).2.1),S.rd _ (hrs _ (hcn.out y ym).2.2)⟩;have yq:y.q=tmf R ps l c d kk:=by
      have h1:=el_at hq.out hLk;rw[←h1,List.getD_eq_getElem?_getD,List.getElem?_map,List.getElem?_range hkp];rfl
     obtain⟨⟨y0,y1,y2⟩,_⟩:=St_lcl S.swap hLk;obtain⟨s0,s1,s2,f0,f1,f2⟩:=S.cf3 0 rfl;have szz:=hzA i pk;rw[←zq] at szz;have szy:=hst.out d kk;rw[←yq] at szy;have hsn:=hsb.out d i (m+1);have hb1:=hTd.2.2 (m+1) (by omega)
     obtain⟨q1,hq1⟩:∃ q,q=z.q*y.q:=⟨_,rfl⟩;obtain⟨q2,hq2⟩:∃ y,y=q-q1:=⟨_,rfl⟩;have haq:=ha.out.1;have haz:=ha.out.2;have rs1:Rs q1 9000000:=by rw[hq1];exact S2.rs (szz.mul szy) (by omega) (by omega)
     have hqn:q2=l*el R i c-sm (fun m=>el R i (ps.getD (i+1+m) 0)*tmf R ps l c d (i+1+m)) (m+1):=by
      have e:sm (fun m=>el R i (ps.getD (i+1+m) 0)*tmf R ps l c d (i+1+m)) (m+1)=sm (fun m=>el R i (ps.getD (i+1+m) 0)*tmf R ps l c d (i+1+m)) m+q1:=by
       show sm _ m+el R i (ps.getD (i+1+m) 0)*tmf R ps l c d (i+1+m)=_
       rw[hq1,zq,yq,←hkk,hpg]
      rw[e,hq2,hqm];exact sub3
     have rs2:Rs q2 9000000:=by rw[hqn];exact S2.rs hsn (by omega) (by omega)
     have hMu:Hid (∀ W,Below V1.heap.size V1 W→Calls Tryz.prog 60 #[.agg #[.bool z.b,.slice z.A z.n z.c,.slice z.D z.m z.d],.agg #[.bool y.b,.slice y.A y.n y.c,.slice y.D y.m y.d]] W (RetR q1 W)):=Lib.hid fun W hW=>by rw[hq1];exact mulT zc (zr.bel hW) yc (yr.bel hW)
     have Xq:RR V1 A5 n5 c5 D5 m5 d5 q:=⟨S.rd _ hs1,S.rd _ hs2⟩;have hSu:Hid (∀ W A6 n6 c6 D6 m6 d6,Below V1.heap.size V1 W→RR W A6 n6 c6 D6 m6 d6 q1→Calls Tryz.prog 79 #[.agg #[.bool (ng q.num),.slice A5 n5 c5,.slice D5 m5 d5],.agg #[.bool (ng q1.num),.slice A6 n6 c6,.slice D6 m6 d6]] W (RetR q2 W)):=Lib.hid fun W A6 n6 c6 D6 m6 d6 hW Y=>by rw[hq2];exact subT (Rt.of_can A5 n5 c5 D5 m5 d5 hqs) (Xq.below hW).raw (Rt.of_can A6 n6 c6 D6 m6 d6 rs1) Y.raw
     have g6:(kk:Int)<(p:Int):=by omega
     have g7:(0:Int)≤(kk:Int):=by omega
     have g8:(0:Int)≤(pk:Int):=by omega
     have g9:(pk:Int)<(k:Int):=by omega
     have hmd':=Lib.hid hlm;replace hPA:=Lib.hid hPA;replace e1:=Lib.hid e1;replace pc0:=Lib.hid pc0;replace z0:=Lib.hid z0;replace z1:=Lib.hid z1;replace z2:=Lib.hid z2;replace y0:=Lib.hid y0;replace y1:=Lib.hid y1;replace y2:=Lib.hid y2;replace s0:=Lib.hid s0;replace s1:=Lib.hid s1;replace s2:=Lib.hid s2;replace rs2:=Lib.hid rs2;replace hqn:=Lib.hid hqn;replace hs1:=Lib.hid hs1;replace hs2:=Lib.hid hs2
     replace hrs:=Lib.hid hrs;replace S:=Lib.hid S;replace hkk:=Lib.hid hkk;clear hlm hmd hqm hEV hir hpk1 hpg zq zc zr ym yc yr yq hLk szz szy hsn hb1 rs1 hq1 hq2 Xq hzA hTd f0 f1 f2 hqs SR;go_upto_region 10 with fail
     refine Wl.start (fun W=>Below V1.heap.size V1 W) [17] rfl ?_
     have hS:Below V1.heap.size V1 V1.drew:=(Below.refl _ _).drew;refine Wl.t (i:=0) (v:=.agg #[.bool (ng q.num),.slice A5 n5 c5,.slice D5 m5 d5]) (some 49) at0 (hy:=fun W hS=>by (have k0:=bel_cell hS s0.out;have k1:=bel_cell hS s1.out;have k2:=bel_cell hS s2.out;clear hS;go_simp)) (hS:=hS) (h:=?_)
     refine Wl.t (i:=1) (v:=.slice (some ⟨b,o,none⟩) k rc) (some 50) at1 (hy:=fun _ _=>by kernel_rfl) (hS:=hS) (h:=?_)
     refine Wl.t (i:=2) (v:=.pointer (some ⟨gE,0,none⟩)) (some 51) at2 (hy:=fun _ _=>by kernel_rfl) (hS:=hS) (h:=?_)
     refine Wl.t (i:=3) (v:=.pointer (some ⟨gE,0,none⟩)) (some 52) at3 (hy:=fun _ _=>by go_simp) (hS:=hS) (h:=?_)
     refine Wl.t (i:=4) (v:=.pointer (some ⟨gE,1,none⟩)) (some 53) at4 (hy:=fun _ _=>by go_simp) (hS:=hS) (h:=?_)
     refine Wl.t (i:=5) (v:=.slice P p pc) (some 54) at5 (hy:=fun W hS=>by (have k0:=bel_cell hS e1.out;clear hS;go_simp)) (hS:=hS) (h:=?_)
     refine Wl.t (i:=6) (v:=.int .i64 kk) (some 55) at6 (hy:=fun _ _=>by kernel_rfl) (hS:=hS) (h:=?_)
     refine Wl.t (i:=7) (v:=.pointer (some ⟨bP,oP+kk,none⟩)) (some 56) at7 (hy:=fun _ _=>by (have hh:=hPA.out;clear hS;subst hh;go_simp)) (hS:=hS) (h:=?_)
     refine Wl.t (i:=8) (v:=.int .i64 pk) (some 57) at8 (hy:=fun W hS=>by (have k0:=bel_cell hS pc0.out;clear hS;go_simp)) (hS:=hS) (h:=?_)
     refine Wl.t (i:=9) (v:=.pointer (some ⟨b,o+pk*3,none⟩)) (some 58) at9 (hy:=fun _ _=>by go_simp) (hS:=hS) (h:=?_)
     refine Wl.t (i:=10) (v:=.agg #[.bool z.b,.slice z.A z.n z.c,.slice z.D z.m z.d]) (some 59) at10 (hy:=fun W hS=>by (have k0:=bel_cell hS z0.out;have k1:=bel_cell hS z1.out;have k2:=bel_cell hS z2.out;clear hS;go_simp)) (hS:=hS) (h:=?_)
     refine Wl.t (i:=11) (v:=.slice (some ⟨gT,0,none⟩) p p) (some 60) at11 (hy:=fun _ _=>by kernel_rfl) (hS:=hS) (h:=?_)
     refine Wl.t (i:=12) (v:=.int .i64 kk) (some 61) at12 (hy:=fun _ _=>by kernel_rfl) (hS:=hS) (h:=?_)
     refine Wl.t (i:=13) (v:=.pointer (some ⟨gT,kk*3,none⟩)) (some 62) at13 (hy:=fun _ _=>by go_simp) (hS:=hS) (h:=?_)
     refine Wl.t (i:=14) (v:=.agg #[.bool y.b,.slice y.A y.n y.c,.slice y.D y.m y.d]) (some 63) at14 (hy:=fun W hS=>by (have k0:=bel_cell hS y0.out;have k1:=bel_cell hS y1.out;have k2:=bel_cell hS y2.out;clear hS;go_simp)) (hS:=hS) (h:=?_)
     try simp only[Act.put,sZ0,sZ1,sZ2]
     refine Wl.g (i:=15) at15 (by kernel_rfl) (by kernel_rfl) fun K' hK=>?_
     refine oper_call (f:=60) (args:=#[.agg #[.bool z.b,.slice z.A z.n z.c,.slice z.D z.m z.d],.agg #[.bool y.b,.slice y.A y.n y.c,.slice y.D y.m y.d]]) rfl (by kernel_rfl) ((hMu.out _ hS).mono ?_)
     rintro e V2 ⟨A6,n6,c6,D6,m6,d6,rfl,X6,bb⟩;have hS2:=hS.trans (bb.mono hS.size);refine⟨_,rfl,hK.out _ _ hS2 ?_⟩
     clear hK K' hS bb
     try simp only[Act.put,sZ0,sZ1,sZ2]
     try simp only[Act.put,sZ0,sZ1,sZ2]
     refine Wl.g (i:=16) at16 (by kernel_rfl) (by kernel_rfl) fun K' hK=>?_
     refine oper_call (f:=79) (args:=#[.agg #[.bool (ng q.num),.slice A5 n5 c5,.slice D5 m5 d5],.agg #[.bool (ng q1.num),.slice A6 n6 c6,.slice D6 m6 d6]]) rfl (by kernel_rfl) ((hSu.out _ _ _ _ _ _ _ hS2 X6).mono ?_)
     rintro e V3 ⟨A9,n9,c9,D9,m9,d9,rfl,X9,bb⟩;have hS3:=hS2.trans (bb.mono hS2.size);refine⟨_,rfl,hK.out _ _ hS3 ?_⟩
     clear hK K' hS2 bb X6
     try simp only[Act.put,sZ0,sZ1,sZ2]
     have S3:=((S.out.call hS3).read X9.n).read X9.d;obtain⟨k0,k1,k2,f0,f1,f2⟩:=S3.cf3 0 rfl;obtain⟨V4,hV4,T⟩:∃ W,W=((V3.setCell ⟨gx,0,none⟩ (.bool (ng q2.num))).setCell ⟨gx,1,none⟩ (.slice A9 n9 c9)).setCell ⟨gx,2,none⟩ (.slice D9 m9 d9)∧Hid (St w W [(gx,#[.bool (ng q2.num),.slice A9 n9 c9,.slice D9 m9 d9],33),(gT,(csE L).toArray,33)] ((D9,m9,d9,dn q2)::(A9,n9,c9,limbs q2.num.natAbs)::rs')):=⟨_,rfl,Lib.hid (((S3.set 0 0 (.bool (ng q2.num)) rfl (by nofun)).set 0 1 (.slice A9 n9 c9) rfl (by nofun)).set 0 2 (.slice D9 m9 d9) rfl (by nofun))⟩
     obtain⟨rsn,hrsn⟩:∃ r,r=(D9,m9,d9,dn q2)::(A9,n9,c9,limbs q2.num.natAbs)::rs':=⟨_,rfl⟩;rw[←hrsn] at T;have hmem:Hid ((A9,n9,c9,limbs q2.num.natAbs)∈rsn∧(D9,m9,d9,dn q2)∈rsn∧∀ p∈rs,p∈rsn):=Lib.hid (by rw[hrsn];exact⟨List.mem_cons_of_mem _ List.mem_cons_self,List.mem_cons_self,fun p hp=>List.mem_cons_of_mem _ (List.mem_cons_of_mem _ (hrs.out p hp))⟩)
     clear hrsn
     try simp only[Act.put,sZ0,sZ1,sZ2]
     refine Wl.s (i:=17) at17 (by kernel_rfl) (by kernel_rfl) (by kernel_rfl) fun K' hK=>?_
     go_simp
     rw[←hV4];refine hK.out _ _ ?_
     clear hK K' k0 k1 k2 f0 f1 f2 hV4 S S3 X9 hS3 hMu hSu;refine Wl.done (by kernel_rfl) ?_
     clear e1 pc0 z0 z1 z2 y0 y1 y2 s0 s1 s2;have hp1:=hpp1.out;have hkb:kk<p:=by have:=hkk.out;have:=hdi.out;have:=hmd'.out;omega
     have hm1:=hmd'.out;have hd1:=hdi.out;go_wp2
     go_roundw
     case rel=>exact⟨m+1,q2,A9,n9,c9,D9,m9,d9,rsn,by omega,by rw[show ((i+1+(m+1):Nat):Int)=(kk:Int)+1 by have:=hkk.out;omega],hqn.out,rs2.out,T.out,hmem.out.1,hmem.out.2.1,hmem.out.2.2⟩
     case measure=>simp[intOf];have:=hkk.out;omega
    ·obtain rfl:d=m:=by omega
     have ekp:i+1+d=p:=by have:=hdi.out;omega
     rw[ekp];have hip:i<p:=by omega
     obtain⟨bP,oP,pk,hPA,hpk1,pc0⟩:=hir.get (i:=i) (by rw[←hp.out];exact hip)
     have hpkk:pk<k:=hpk.out pk (List.mem_of_getElem? hpk1);have hpg:ps.getD i 0=pk:=by rw[List.getD_eq_getElem?_getD,hpk1];rfl
     obtain⟨z,zq,zc,zr,z0,z1,z2⟩:=sr_num SR cnR.out qR.out hpkk;have zq:z.q=el R i pk:=zq;obtain⟨y,hLi⟩:∃ y,L[i]?=some y:=⟨L[i]'(by rw[hL.out];exact hip),List.getElem?_eq_getElem _⟩
     obtain⟨s0,s1,s2,_,_,_⟩:=S.cf3 0 rfl;obtain⟨q3,hq3⟩:∃ x,x=q / z.q:=⟨_,rfl⟩;have hstep:=tmf_step (R:=R) (p:=ps) (l:=l) (c:=c) (d:=d) (i:=i) (by rw[←hp.out];exact hdi.out)
     have hq3e:q3=tmf R ps l c (d+1) i:=by
      rw[hstep i,if_pos rfl,hq3,hqm,zq,hpg]
     have hT1:=hT.out (d+1) (by have:=hdi.out;omega)
     have rs3:Rs q3 9000000:=by rw[hq3e];exact S2.rs (hst.out (d+1) i) (by omega) (by omega)
     have Xq:RR V1 A5 n5 c5 D5 m5 d5 q:=⟨S.rd _ hs1,S.rd _ hs2⟩;have hQu:Hid (∀ W,Below V1.heap.size V1 W→Calls Tryz.prog 41 #[.agg #[.bool (ng q.num),.slice A5 n5 c5,.slice D5 m5 d5],.agg #[.bool z.b,.slice z.A z.n z.c,.slice z.D z.m z.d]] W (RetR q3 W)):=Lib.hid fun W hW=>by rw[hq3];exact quoT (Rt.of_can A5 n5 c5 D5 m5 d5 hqs) (Xq.below hW).raw zc (zr.bel hW)
     have hmapn:Hid ((L.map (·.q)).set i q3=(List.range p).map (tmf R ps l c (d+1))):=Lib.hid (by
      rw[hq.out,hq3e];exact map_set_range (fun a=>by
       by_cases h:a=i
       ·subst h;rw[if_pos rfl]
       ·rw[hstep a,if_neg h,if_neg h]))
     have g6:(i:Int)<(p:Int):=by omega
     have g8:(0:Int)≤(pk:Int):=by omega
     have g9:(pk:Int)<(k:Int):=by omega
     replace hPA:=Lib.hid hPA;replace e1:=Lib.hid e1;replace pc0:=Lib.hid pc0;replace z0:=Lib.hid z0;replace z1:=Lib.hid z1;replace z2:=Lib.hid z2;replace s0:=Lib.hid s0;replace s1:=Lib.hid s1;replace s2:=Lib.hid s2;replace rs3:=Lib.hid rs3;replace hrs:=Lib.hid hrs;replace S:=Lib.hid S;replace hLi:=Lib.hid hLi;clear hlm hmd hqm hEV hir hpk1 hpg zq zc zr hq3 Xq hzA hTd hqs SR hs1 hs2 hstep hq3e hT1 hip
     go_upto_region 11 with fail
     refine Wl.start (fun W=>Below V1.heap.size V1 W) [15] rfl ?_
     have hS:Below V1.heap.size V1 V1.drew:=(Below.refl _ _).drew;refine Wl.t (i:=0) (v:=.slice (some ⟨gT,0,none⟩) p p) (some 66) at0 (hy:=fun _ _=>by kernel_rfl) (hS:=hS) (h:=?_)
     refine Wl.t (i:=1) (v:=.int .i64 i) (some 67) at1 (hy:=fun _ _=>by kernel_rfl) (hS:=hS) (h:=?_)
     refine Wl.t (i:=2) (v:=.agg #[.bool (ng q.num),.slice A5 n5 c5,.slice D5 m5 d5]) (some 68) at2 (hy:=fun W hS=>by (have k0:=bel_cell hS s0.out;have k1:=bel_cell hS s1.out;have k2:=bel_cell hS s2.out;clear hS;go_simp)) (hS:=hS) (h:=?_)
     refine Wl.t (i:=3) (v:=.slice (some ⟨b,o,none⟩) k rc) (some 69) at3 (hy:=fun _ _=>by kernel_rfl) (hS:=hS) (h:=?_)
     refine Wl.t (i:=4) (v:=.pointer (some ⟨gE,0,none⟩)) (some 70) at4 (hy:=fun _ _=>by kernel_rfl) (hS:=hS) (h:=?_)
     refine Wl.t (i:=5) (v:=.pointer (some ⟨gE,0,none⟩)) (some 71) at5 (hy:=fun _ _=>by go_simp) (hS:=hS) (h:=?_)
     refine Wl.t (i:=6) (v:=.pointer (some ⟨gE,1,none⟩)) (some 72) at6 (hy:=fun _ _=>by go_simp) (hS:=hS) (h:=?_)
     refine Wl.t (i:=7) (v:=.slice P p pc) (some 73) at7 (hy:=fun W hS=>by (have k0:=bel_cell hS e1.out;clear hS;go_simp)) (hS:=hS) (h:=?_)
     refine Wl.t (i:=8) (v:=.int .i64 i) (some 74) at8 (hy:=fun _ _=>by kernel_rfl) (hS:=hS) (h:=?_)
     refine Wl.t (i:=9) (v:=.pointer (some ⟨bP,oP+i,none⟩)) (some 75) at9 (hy:=fun _ _=>by (have hh:=hPA.out;clear hS;subst hh;go_simp)) (hS:=hS) (h:=?_)
     refine Wl.t (i:=10) (v:=.int .i64 pk) (some 76) at10 (hy:=fun W hS=>by (have k0:=bel_cell hS pc0.out;clear hS;go_simp)) (hS:=hS) (h:=?_)
     refine Wl.t (i:=11) (v:=.pointer (some ⟨b,o+pk*3,none⟩)) (some 77) at11 (hy:=fun _ _=>by go_simp) (hS:=hS) (h:=?_)
     refine Wl.t (i:=12) (v:=.agg #[.bool z.b,.slice z.A z.n z.c,.slice z.D z.m z.d]) (some 78) at12 (hy:=fun W hS=>by (have k0:=bel_cell hS z0.out;have k1:=bel_cell hS z1.out;have k2:=bel_cell hS z2.out;clear hS;go_simp)) (hS:=hS) (h:=?_)
     try simp only[Act.put,sZ0,sZ1,sZ2]
     refine Wl.g (i:=13) at13 (by kernel_rfl) (by kernel_rfl) fun K' hK=>?_
     refine oper_call (f:=41) (args:=#[.agg #[.bool (ng q.num),.slice A5 n5 c5,.slice D5 m5 d5],.agg #[.bool z.b,.slice z.A z.n z.c,.slice z.D z.m z.d]]) rfl (by kernel_rfl) ((hQu.out _ hS).mono ?_)
     rintro e V3 ⟨A9,n9,c9,D9,m9,d9,rfl,X9,bb⟩;have hS3:=hS.trans (bb.mono hS.size);refine⟨_,rfl,hK.out _ _ hS3 ?_⟩
     clear hK K' hS bb
     try simp only[Act.put,sZ0,sZ1,sZ2]
     refine Wl.t (i:=14) (v:=.pointer (some ⟨gT,i*3,none⟩)) (some 80) at14 (hy:=fun _ _=>by go_simp) (hS:=hS3) (h:=?_)
     have S3:=(((S.out.call hS3).read X9.n).read X9.d).swap;obtain⟨⟨k0,k1,k2⟩,f0⟩:=St_lcl S3 hLi.out;have f1:=f0 (i*3);have f2:=f0 (i*3+1);have f3:=f0 (i*3+2);obtain⟨V4,hV4,T⟩:∃ W,W=((V3.setCell ⟨gT,i*3,none⟩ (.bool (ng q3.num))).setCell ⟨gT,i*3+1,none⟩ (.slice A9 n9 c9)).setCell ⟨gT,i*3+2,none⟩ (.slice D9 m9 d9)∧Hid (St w W [(gT,(csE (L.set i (Rt.of A9 n9 c9 D9 m9 d9 q3))).toArray,33)] ((D9,m9,d9,dn q3)::(A9,n9,c9,limbs q3.num.natAbs)::rs')):=⟨_,rfl,Lib.hid ((St_lset S3 i (Rt.of A9 n9 c9 D9 m9 d9 q3)).swap.sub)⟩
     have hrsn:Hid (∀ p∈rs,p∈(D9,m9,d9,dn q3)::(A9,n9,c9,limbs q3.num.natAbs)::rs'):=Lib.hid fun p hp=>List.mem_cons_of_mem _ (List.mem_cons_of_mem _ (hrs.out p hp))
     clear f0
     try simp only[Act.put,sZ0,sZ1,sZ2]
     refine Wl.s (i:=15) at15 (by kernel_rfl) (by kernel_rfl) (by kernel_rfl) fun K' hK=>?_
     go_simp
     rw[←hV4];refine hK.out _ _ ?_
     clear hK K' k0 k1 k2 f1 f2 f3 hV4 S S3 X9 hS3 hQu;refine Wl.done (by kernel_rfl) ?_
     clear e1 pc0 z0 z1 z2 s0 s1 s2;have hp1:=hpp1.out;have hd1:=hdi.out;go_wp2
     go_roundw
     case rel=>exact⟨d+1,L.set i (Rt.of A9 n9 c9 D9 m9 d9 q3),_,by omega,by rw[show (p:Int)-1-((d+1:Nat):Int)=(i:Int)-1 by omega],by rw[List.length_set];exact hL.out,T.out,fun x hx=>(by rcases List.mem_or_eq_of_mem_set hx with hx | rfl;exact⟨(hcn.out x hx).1,hrsn.out _ (hcn.out x hx).2.1,hrsn.out _ (hcn.out x hx).2.2⟩;exact⟨Rt.of_can _ _ _ _ _ _ rs3.out,List.mem_cons_of_mem _ List.mem_cons_self,List.mem_cons_self⟩),by rw[List.map_set];exact hmapn.out⟩
     case measure=>simp[intOf]
  ·obtain rfl:p=d:=by omega
   rw[show (p:Int)-1-(p:Int) = -1 by omega]
   replace S:=Lib.hid S;replace hcn:=Lib.hid hcn;replace hq:=Lib.hid hq;replace hL:=Lib.hid hL;clear hlt hdp;go_wp2
   go_loopw [83] (fun jv wr=>∃ (j:Nat) (L:List Rt) (rs:List Rdg),j≤p∧jv=.int .i64 j∧L.length=p∧St w wr [(gT,(csE L).toArray,33)] rs∧(∀ x∈L,x.can∧x.rdIn rs)∧L.map (·.q)=(List.range p).map (fun a=>if a<j then tmf R ps l c p a / l else tmf R ps l c p a)) (fun jv _=>p-(intOf jv).toNat)
   case atStart=>exact⟨0,L,rs,Nat.zero_le _,rfl,hL.out,S.out,hcn.out,by rw[hq.out];rfl⟩
   case round=>
    clear S hcn hq hL;obtain⟨j,L,rs,hjp,rfl,hL,S,hcn,hq⟩:=hrel;rename World=>V1
    by_cases hlj:j<p
    ·have g1:(j:Int)<(p:Int):=by omega
     have g2:(0:Int)≤(j:Int):=by omega
     obtain⟨x,hLj⟩:∃ y,L[j]?=some y:=⟨L[j]'(by rw[hL];exact hlj),List.getElem?_eq_getElem _⟩
     have xm:=List.mem_of_getElem? hLj;have xc:=(hcn x xm).1;have xr:x.raw V1:=⟨S.rd _ (hcn x xm).2.1,S.rd _ (hcn x xm).2.2⟩;have xq:x.q=tmf R ps l c p j:=by
      have h1:=el_at hq hLj;rw[←h1,List.getD_eq_getElem?_getD,List.getElem?_map,List.getElem?_range hlj]
      show (if j<j then _ else _)=_
      rw[if_neg (Nat.lt_irrefl j)]
     obtain⟨⟨x0,x1,x2⟩,_⟩:=St_lcl S hLj;have haq:=ha.out.1;have haz:=ha.out.2;have hTp:=hT.out p (Nat.le_refl _);obtain⟨q3,hq3⟩:∃ y,y=x.q / l:=⟨_,rfl⟩;have rs3:Hid (Rs q3 9000000):=Lib.hid (by rw[hq3,xq];exact S2.rs ((hst.out p j).div hl.out) (by omega) (by omega))
     have rsl:Hid (Rs l 9000000):=Lib.hid (S2.rs hl.out (by omega) (by omega))
     have hmapn:Hid ((L.map (·.q)).set j q3=(List.range p).map (fun a=>if a<j+1 then tmf R ps l c p a / l else tmf R ps l c p a)):=Lib.hid (by
      have hg:q3=(fun a=>if a<j+1 then tmf R ps l c p a / l else tmf R ps l c p a) j:=by
       show _=if j<j+1 then _ else _
       rw[if_pos (Nat.lt_succ_self j),hq3,xq]
      rw[hq,hg];exact map_set_range (f:=fun a=>if a<j then tmf R ps l c p a / l else tmf R ps l c p a) (g:=fun a=>if a<j+1 then tmf R ps l c p a / l else tmf R ps l c p a) (fun a=>by
       by_cases h:a=j
       ·subst h;simp
       ·have h3:(a<j+1)=(a<j):=by apply propext;omega
        simp only[h3,if_neg h]))
     have hjh:=Lib.hid hlj;replace hq:=Lib.hid hq;replace hL:=Lib.hid hL;replace hcn:=Lib.hid hcn;replace S:=Lib.hid S;replace hLj:=Lib.hid hLj;replace xc:=Lib.hid xc;replace xr:=Lib.hid xr;clear hlj hjp xm xq haq hTp;go_upto_region 15 with fail
     obtain⟨gX,hgX⟩:∃ g,g=V1.heap.size:=⟨_,rfl⟩;obtain⟨V2,hV2⟩:∃ W,W=V1.alloc (.cells #[.bool x.b,.slice x.A x.n x.c,.slice x.D x.m x.d] 33):=⟨_,rfl⟩;have B2:Below V1.heap.size V1 V2:=by rw[hV2];exact (Below.refl _ _).alloc (Nat.le_refl _) _
     have hCX:Cb V2 gX #[.bool x.b,.slice x.A x.n x.c,.slice x.D x.m x.d] 33:=by rw[hV2,hgX];exact Cb.new _ _ _
     rw[←hV2,←hgX];have S2_:=Lib.hid (S.out.call B2);have hEV:=hE.out.bel S2_.out.bel;have l0:=Lib.hid hEV.e2;have l1:=Lib.hid hEV.e3;have l2:=Lib.hid hEV.e4;have c0:=Lib.hid (hCX.cell (i:=0) rfl);have c1_:=Lib.hid (hCX.cell (i:=1) rfl);have c2_:=Lib.hid (hCX.cell (i:=2) rfl);have hQu:Hid (∀ W,Below V2.heap.size V2 W→Calls Tryz.prog 41 #[.agg #[.bool x.b,.slice x.A x.n x.c,.slice x.D x.m x.d],.agg #[.bool (ng l.num),.slice A1 n1 c1,.slice D1 m1 d1]] W (RetR q3 W)):=Lib.hid fun W hW=>by rw[hq3];exact quoT xc.out ((xr.out.bel B2).bel hW) (Rt.of_can A1 n1 c1 D1 m1 d1 rsl.out) (hEV.lr.below hW).raw
     clear hV2 hgX hCX S x0 x1 x2 xc xr hEV hq3 rsl B2;refine Wl.start (fun W=>Below V2.heap.size V2 W) [9] rfl ?_
     have hS:Below V2.heap.size V2 V2.drew:=(Below.refl _ _).drew;refine Wl.t (i:=0) (v:=.slice (some ⟨gT,0,none⟩) p p) (some 88) at0 (hy:=fun _ _=>by kernel_rfl) (hS:=hS) (h:=?_)
     refine Wl.t (i:=1) (v:=.int .i64 j) (some 89) at1 (hy:=fun _ _=>by kernel_rfl) (hS:=hS) (h:=?_)
     refine Wl.t (i:=2) (v:=.agg #[.bool x.b,.slice x.A x.n x.c,.slice x.D x.m x.d]) (some 90) at2 (hy:=fun W hS=>by (have k0:=bel_cell hS c0.out;have k1:=bel_cell hS c1_.out;have k2:=bel_cell hS c2_.out;clear hS;go_simp)) (hS:=hS) (h:=?_)
     refine Wl.t (i:=3) (v:=.pointer (some ⟨gE,0,none⟩)) (some 91) at3 (hy:=fun _ _=>by kernel_rfl) (hS:=hS) (h:=?_)
     refine Wl.t (i:=4) (v:=.pointer (some ⟨gE,0,none⟩)) (some 92) at4 (hy:=fun _ _=>by go_simp) (hS:=hS) (h:=?_)
     refine Wl.t (i:=5) (v:=.pointer (some ⟨gE,2,none⟩)) (some 93) at5 (hy:=fun _ _=>by go_simp) (hS:=hS) (h:=?_)
     refine Wl.t (i:=6) (v:=.agg #[.bool (ng l.num),.slice A1 n1 c1,.slice D1 m1 d1]) (some 94) at6 (hy:=fun W hS=>by (have k0:=bel_cell hS l0.out;have k1:=bel_cell hS l1.out;have k2:=bel_cell hS l2.out;clear hS;go_simp)) (hS:=hS) (h:=?_)
     try simp only[Act.put,sZ0,sZ1,sZ2]
     refine Wl.g (i:=7) at7 (by kernel_rfl) (by kernel_rfl) fun K' hK=>?_
     refine oper_call (f:=41) (args:=#[.agg #[.bool x.b,.slice x.A x.n x.c,.slice x.D x.m x.d],.agg #[.bool (ng l.num),.slice A1 n1 c1,.slice D1 m1 d1]]) rfl (by kernel_rfl) ((hQu.out _ hS).mono ?_)
     rintro e V3 ⟨A9,n9,c9,D9,m9,d9,rfl,X9,bb⟩;have hS3:=hS.trans (bb.mono hS.size);refine⟨_,rfl,hK.out _ _ hS3 ?_⟩
     clear hK K' hS bb
     try simp only[Act.put,sZ0,sZ1,sZ2]
     refine Wl.t (i:=8) (v:=.pointer (some ⟨gT,j*3,none⟩)) (some 96) at8 (hy:=fun _ _=>by go_simp) (hS:=hS3) (h:=?_)
     have S3:=(((S2_.out.call hS3).read X9.n).read X9.d);obtain⟨⟨k0,k1,k2⟩,f0⟩:=St_lcl S3 hLj.out;have f1:=f0 (j*3);have f2:=f0 (j*3+1);have f3:=f0 (j*3+2);obtain⟨V4,hV4,T⟩:∃ W,W=((V3.setCell ⟨gT,j*3,none⟩ (.bool (ng q3.num))).setCell ⟨gT,j*3+1,none⟩ (.slice A9 n9 c9)).setCell ⟨gT,j*3+2,none⟩ (.slice D9 m9 d9)∧Hid (St w W [(gT,(csE (L.set j (Rt.of A9 n9 c9 D9 m9 d9 q3))).toArray,33)] ((D9,m9,d9,dn q3)::(A9,n9,c9,limbs q3.num.natAbs)::rs)):=⟨_,rfl,Lib.hid (St_lset S3 j (Rt.of A9 n9 c9 D9 m9 d9 q3))⟩
     clear f0
     try simp only[Act.put,sZ0,sZ1,sZ2]
     refine Wl.s (i:=9) at9 (by kernel_rfl) (by kernel_rfl) (by kernel_rfl) fun K' hK=>?_
     go_simp
     rw[←hV4];refine hK.out _ _ ?_
     clear hK K' k0 k1 k2 f1 f2 f3 hV4 S2_ S3 X9 hS3 hQu;refine Wl.done (by kernel_rfl) ?_
     clear l0 l1 l2 c0 c1_ c2_;have hj1:=hjh.out;have hp1:=hpp1.out;go_wp2
     go_roundw
     case rel=>exact⟨j+1,L.set j (Rt.of A9 n9 c9 D9 m9 d9 q3),_,by omega,by go_num,by rw[List.length_set];exact hL.out,T.out,fun x hx=>(by rcases List.mem_or_eq_of_mem_set hx with hx | rfl;exact⟨(hcn.out x hx).1,List.mem_cons_of_mem _ (List.mem_cons_of_mem _ (hcn.out x hx).2.1),List.mem_cons_of_mem _ (List.mem_cons_of_mem _ (hcn.out x hx).2.2)⟩;exact⟨Rt.of_can _ _ _ _ _ _ rs3.out,List.mem_cons_of_mem _ List.mem_cons_self,List.mem_cons_self⟩),by rw[List.map_set];exact hmapn.out⟩
     case measure=>simp[intOf];omega
    ·obtain rfl:p=j:=by omega
     have hfin:L.map (·.q)=(List.range p).map fun a=>tmf R ps l c p a / l:=by
      rw[hq];exact List.map_congr_left fun a ha=>if_pos (List.mem_range.1 ha)
     have hbl:=Lib.hid S.bel;have hcb:=Lib.hid (S.bk _ List.mem_cons_self);have hcr:Hid (∀ x∈L,x.can∧x.raw V1):=Lib.hid fun x hx=>⟨(hcn x hx).1,S.rd _ (hcn x hx).2.1,S.rd _ (hcn x hx).2.2⟩
     replace hfin:=Lib.hid hfin;replace hL:=Lib.hid hL;clear S hq hcn hlj hjp;go_wp2;go_ret;exact⟨gT,L,rfl,⟨hcb.out.2.2,hcb.out.1⟩,hL.out,hcr.out,hfin.out,hbl.out⟩
end Go.Proofs.YthlinhconnmbcaaGreat
