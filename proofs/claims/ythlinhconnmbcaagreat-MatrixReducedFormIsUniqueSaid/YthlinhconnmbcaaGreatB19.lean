/- whole of matrix. -/
import Derived.Test.YthlinhconnmbcaaGreatB18
import Derived.Deep.Upon
import Derived.Test.YthlinhconnmbcaaGreatB15
import Derived.Test.YthlinhconnmbcaaGreatB16
set_option maxRecDepth 100000
set_option maxHeartbeats 40000000
set_option linter.unusedVariables false
namespace Go.Proofs.YthlinhconnmbcaaGreat
open Go.RowKit RQ
theorem res_whole (W:World) (tmps:Array Value) (g t:Nat) {v0 v1 v2 v3:Value} (ht:tmps.getD 2 undef=.pointer (some ⟨g,0,none⟩)) (h:Cb W g #[v0,v1,v2,v3] t) :
  (results Tryz.f36 tmps).run Tryz.prog W=.ok (.agg #[v0,v1,v2,v3]) W:=by
 have c0:W.cell? ⟨g,0,none⟩=some v0:=h.cell rfl;have c1:W.cell? ⟨g,1,none⟩=some v1:=h.cell rfl;have c2:W.cell? ⟨g,2,none⟩=some v2:=h.cell rfl;have c3:W.cell? ⟨g,3,none⟩=some v3:=h.cell rfl;have ht':tmps[2]?.getD undef=.pointer (some ⟨g,0,none⟩):=by rw[←ht];simp[Array.getD_eq_getD_getElem?]
 simp[results,Tryz.results36,go_sem,ht',c0,c1,c2,c3]
theorem rs_dens {q:Rat} {p:Nat} (h:Rs q p) (hp:1≤p):Rs ((q.den:Int):Rat) p:=Rs.int (by simpa using h.d) hp
theorem mden_any (q:Rat) (A1:Option Addr) (n1 c1:Nat) (D1:Option Addr) (m1 d1:Nat) (w:World) (X:RR w A1 n1 c1 D1 m1 d1 q):Calls Tryz.prog 61 #[.agg #[.bool (ng q.num),.slice A1 n1 c1,.slice D1 m1 d1]] w (RetR ((q.den:Int):Rat) w):=by
 by_cases h0:m1=0
 ·exact mden_one q A1 n1 c1 D1 m1 d1 w X h0
 ·exact mden_more q A1 n1 c1 D1 m1 d1 w X h0
def RetLi (L:List Rt) (n:Nat) (s:Rat) (w:World) (e:Ending) (w':World):Prop:=∃ A3 n3 c3 D3 m3 d3 A c K,e=.returned (.agg #[.slice A n c,.bool (ng s.num),.slice A3 n3 c3,.slice D3 m3 d3])∧RR w' A3 n3 c3 D3 m3 d3 s∧Sr w' A n c K∧(∀ x∈K,x.can)∧K.map (·.q)=L.map (fun r=>s*r.q)∧Below w.heap.size w w'
def RetLo (L:List Rt) (n:Nat) (s:Rat) (w:World) (e:Ending) (w':World):Prop:=∃ A3 n3 c3 D3 m3 d3 g K,e=.returned (.agg #[.slice (some ⟨g,0,none⟩) n n,.bool (ng s.num),.slice A3 n3 c3,.slice D3 m3 d3])∧RR w' A3 n3 c3 D3 m3 d3 s∧(w.heap.size≤g∧Cb w' g (csE K).toArray 33)∧(∀ x∈K,x.can∧x.raw w')∧K.map (·.q)=L.map (fun r=>s*r.q)∧K.length=n∧Below w.heap.size w w'
theorem RetLo.li {L:List Rt} {n:Nat} {s:Rat} {w:World} {e:Ending} {w':World} (h:RetLo L n s w e w'):RetLi L n s w e w':=by
 obtain⟨A3,n3,c3,D3,m3,d3,g,K,h1,h2,h3,h4,h5,h6,h7⟩:=h;refine⟨A3,n3,c3,D3,m3,d3,_,_,K,h1,h2,⟨h6,Nat.le_refl _,.inr ⟨g,0,rfl,h3.2.lt,fun i x hi=>?_⟩,fun x hx=>(h4 x hx).2⟩,fun x hx=>(h4 x hx).1,h5,h7⟩
 obtain⟨e0,e1,e2⟩:=csE_arr hi;rw[Nat.zero_add];exact⟨h3.2.cell e0,h3.2.cell e1,h3.2.cell e2⟩
theorem whole_own (L:List Rt) (A:Option Addr) (n c:Nat) (w:World) (h:Sr w A n c L) (ka:∀ r∈L,Rk r.b r.n r.x r.m r.y r.q) (rs:∀ i,i≤n→Rs (wsc (L.map (·.q)) i) 9000000) (rp:∀ i,i≤n→∀ r∈L,Rs (wsc (L.map (·.q)) i*r.q) 9000000) (hn:n≤1000):Calls Tryz.prog 36 #[.slice A n c] w (RetLo L n (wsc (L.map (·.q)) n) w):=by
 obtain⟨fq,hfq⟩:∃ z,z=wsc (L.map (·.q)) n:=⟨_,rfl⟩;rw[←hfq];have s9:=Lib.hid (hfq ▸ rs n (Nat.le_refl _));have hpp:=Lib.hid (hfq ▸ rp n (Nat.le_refl _));replace hfq:=Lib.hid hfq;have hF:Hid (∀ W,Calls Tryz.prog 49 #[.int .i64 1] W (RetR (wsc (L.map (·.q)) 0) W)):=Lib.hid (fun W=>fromIntR_any 1 W (by decide) (by decide))
 have hrs:=Lib.hid rs;have hrp:=Lib.hid rp;clear rs rp;replace ka:=Lib.hid ka;have hb:=Lib.hid hn;have hlen:=Lib.hid h.len;replace h:=Lib.hid h;clear hn;have S:=(St.new w).allocAt w.heap.size #[.slice none 0 0,.bool false,.slice none 0 0,.slice none 0 0] 67 (noL4 _ _ _ _ _ _ _ _ _ _) rfl;have hz:=S.lt 0 rfl;replace S:=Lib.hid S;go_enter Tryz.func36,Tryz.ntmps36
 go_wp2_with fail
 refine (hF.out _).mono ?_
 rintro e w1 ⟨A3,n3,c3,D3,m3,d3,rfl,Q3,bb⟩;have T:=Lib.hid ((((S.out.call bb).read Q3.n).read Q3.d).allocAt w1.heap.size #[.bool (ng ((wsc (L.map (·.q)) 0)).num),.slice A3 n3 c3,.slice D3 m3 d3] 33 (noL3 _ _ _ _ _ _ _) rfl);clear bb S Q3 hF;go_wp2
 go_loopw [12] (fun iv wr=>∃ (i:Nat) (A3:Option Addr) (n3 c3:Nat) (D3:Option Addr) (m3 d3:Nat),i≤n∧iv=.int .i64 i∧St w wr [(w1.heap.size,#[.bool (ng ((wsc (L.map (·.q)) i)).num),.slice A3 n3 c3,.slice D3 m3 d3],33),(w.heap.size,#[.slice none 0 0,.bool false,.slice none 0 0,.slice none 0 0],67)] [(D3,m3,d3,dn (wsc (L.map (·.q)) i)),(A3,n3,c3,limbs (wsc (L.map (·.q)) i).num.natAbs)]) (fun iv _=>n-(intOf iv).toNat)
 case atStart=>exact⟨0,A3,n3,c3,D3,m3,d3,Nat.zero_le _,rfl,T.out⟩
 case round=>
  clear T;obtain⟨i,A3,n3,c3,D3,m3,d3,hin,rfl,S⟩:=hrel
  by_cases hlt:i<n
  ·obtain⟨b,o,r,rfl,hr,hrm,e0,e1,e2⟩:=(h.out.bel S.bel).get hlt
   have R1:=(h.out.bel S.bel).rd r hrm;have kr:=ka.out r hrm;have hlh:=Lib.hid hlt;have g1:(i:Int)<(n:Int):=by omega
   have g2:(0:Int)≤(i:Int):=by omega
   have hgx:=S.lt 0 rfl
   by_cases hm:r.m=0
   ·have hq:wsc (L.map (·.q)) (i+1)=wsc (L.map (·.q)) i:=wsc_stay (map_getD hr) (rk_den1 kr R1.2.len hm)
    have g3:((r.m:Int)==0)=true:=by simp[hm]
    have g4:¬ (0:Int)<(r.m:Int):=by omega
    have S5:=Lib.hid ((S.allocAt wr.heap.size #[.bool r.b,.slice r.A r.n r.c,.slice r.D r.m r.d] 33 (noL3 _ _ _ _ _ _ _) rfl));have xx:=S5.out.cl 0 1 rfl rfl;replace S:=Lib.hid S;clear hlt hin hrm hr R1 kr hm;have hlt:=hlh.out;have hbb:=hb.out;go_wp2
    go_roundw
    case rel=>exact⟨i+1,A3,n3,c3,D3,m3,d3,by omega,by go_num,by rw[hq];exact S5.out.pick [1,2] [0,1] rfl (by decide) rfl⟩
    case measure=>simp[intOf];omega
   ·obtain⟨s,hs⟩:∃ z,z=wsc (L.map (·.q)) i:=⟨_,rfl⟩
    obtain⟨p,hp⟩:∃ z,z=s*r.q:=⟨_,rfl⟩;obtain⟨dd,hdd⟩:∃ z,z=((p.den:Int):Rat):=⟨_,rfl⟩;obtain⟨ns,hns⟩:∃ z,z=s*dd:=⟨_,rfl⟩;have hq:ns=wsc (L.map (·.q)) (i+1):=by show _=wsc _ _*(((wsc _ _*_:Rat).den:Int):Rat);rw[map_getD hr,←hs,←hp,←hdd,hns]
    have s1:=hrs.out i hin;have s2:=hrp.out i hin r hrm;rw[←hs] at s1 s2 S;rw[←hp] at s2;have s3:Rs dd 9000000:=by rw[hdd];exact rs_dens s2 (by decide)
    have hM1:Hid (∀ W A0 n0 c0 D0 m0 d0,RR W A0 n0 c0 D0 m0 d0 s→r.raw W→Calls Tryz.prog 60 #[.agg #[.bool (ng s.num),.slice A0 n0 c0,.slice D0 m0 d0],.agg #[.bool r.b,.slice r.A r.n r.c,.slice r.D r.m r.d]] W (RetR p W)):=Lib.hid fun W A0 n0 c0 D0 m0 d0 h1 h2=>by rw[hp];exact mulW _ _ _ _ _ _ _ _ _ _ _ _ _ _ _ _ _ _ _ _ W (RR.w h1 s1) (h2.at_ kr)
    have hDn:Hid (∀ W A0 n0 c0 D0 m0 d0,RR W A0 n0 c0 D0 m0 d0 p→Calls Tryz.prog 61 #[.agg #[.bool (ng p.num),.slice A0 n0 c0,.slice D0 m0 d0]] W (RetR dd W)):=Lib.hid fun W A0 n0 c0 D0 m0 d0 h1=>by rw[hdd];exact mden_any p _ _ _ _ _ _ W h1
    have hM2:Hid (∀ W A0 n0 c0 D0 m0 d0 A1 n1 c1 D1 m1 d1,RR W A0 n0 c0 D0 m0 d0 s→RR W A1 n1 c1 D1 m1 d1 dd→Calls Tryz.prog 60 #[.agg #[.bool (ng s.num),.slice A0 n0 c0,.slice D0 m0 d0],.agg #[.bool (ng dd.num),.slice A1 n1 c1,.slice D1 m1 d1]] W (RetR ns W)):=Lib.hid fun W A0 n0 c0 D0 m0 d0 A1 n1 c1 D1 m1 d1 h1 h2=>by rw[hns];exact mulW _ _ _ _ _ _ _ _ _ _ _ _ _ _ _ _ _ _ _ _ W (RR.w h1 s1) (RR.w h2 s3)
    have g3:((r.m:Int)==0)=false:=by simp[hm]
    have g4:(0:Int)<(r.m:Int):=by omega
    have S5:=S.allocAt wr.heap.size #[.bool r.b,.slice r.A r.n r.c,.slice r.D r.m r.d] 33 (noL3 _ _ _ _ _ _ _) rfl;have xx:=S5.cl 0 1 rfl rfl;have Sd:=S5.drew;have R1d:=R1;obtain⟨x0,x1,x2,z0,z1,z2⟩:=Sd.cf3 0 rfl;obtain⟨x3,x4,x5,z3,z4,z5⟩:=Sd.cf3 1 rfl;have Rw_:r.raw (wr.alloc (.cells #[.bool r.b,.slice r.A r.n r.c,.slice r.D r.m r.d] 33)).drew:=((h.out.bel Sd.bel).rd r hrm);have hgx5:=Sd.lt 0 rfl;replace Rw_:=Lib.hid Rw_
    replace hq:=Lib.hid hq;replace S:=Lib.hid S;replace Sd:=Lib.hid Sd;replace S5:=Lib.hid S5;replace s1:=Lib.hid s1;replace s2:=Lib.hid s2;replace s3:=Lib.hid s3;clear hlt hin hrm hr R1 R1d kr hm hs hp hdd hns s1 s2 s3;go_upto_region 6 with fail
    go_region_with (first
     | (go_at_call_of 60 (Value.agg #[.bool r.b,.slice r.A r.n r.c,.slice r.D r.m r.d]);refine (hM1.out _ _ _ _ _ _ _ ⟨Sd.out.r 1 rfl,Sd.out.r 0 rfl⟩ Rw_.out).mono ?_;rintro e w1 ⟨A4,n4,c4,D4,m4,d4,rfl,Q4,bb1⟩;have S1:=((Sd.out.call bb1).read Q4.n).read Q4.d;obtain⟨y3,y4,y5,v3,v4,v5⟩:=S1.cf3 1 rfl)
     | (go_at_call 61;refine (hDn.out _ _ _ _ _ _ _ ⟨S1.r 1 rfl,S1.r 0 rfl⟩).mono ?_;rintro e w2 ⟨A5,n5,c5,D5,m5,d5,rfl,Q5,bb2⟩;have S2:=((S1.call bb2).read Q5.n).read Q5.d;obtain⟨y6,y7,y8,v6,v7,v8⟩:=S2.cf3 1 rfl)
     | (go_at_call 60;refine (hM2.out _ _ _ _ _ _ _ _ _ _ _ _ _ ⟨S2.r 5 rfl,S2.r 4 rfl⟩ ⟨S2.r 1 rfl,S2.r 0 rfl⟩).mono ?_;rintro e w3 ⟨A6,n6,c6,D6,m6,d6,rfl,Q6,bb3⟩;have S3:=((S2.call bb3).read Q6.n).read Q6.d;obtain⟨y9,ya,yb,v9,va,vb⟩:=S3.cf3 1 rfl))
    all_goals
     have S4:=Lib.hid (((S3.set 1 0 (.bool (ng ns.num)) rfl (by nofun)).set 1 1 (.slice A6 n6 c6) rfl (by nofun)).set 1 2 (.slice D6 m6 d6) rfl (by nofun))
     clear x0 x1 x2 x3 x4 x5 z0 z1 z2 z3 z4 z5 y3 y4 y5 v3 v4 v5 y6 y7 y8 v6 v7 v8 y9 ya yb v9 va vb e0 e1 e2 bb1 bb2 bb3 S1 S2 S3 S Sd S5 Rw_ Q4 Q5 Q6 xx;have hlt:=hlh.out;have hbb:=hb.out;go_wp2
     go_roundw
     case rel=>exact⟨i+1,A6,n6,c6,D6,m6,d6,by omega,by go_num,by rw[←hq.out];exact S4.out.pick [1,2] [0,1] rfl (by decide) rfl⟩
     case measure=>simp[intOf];omega
  ·obtain rfl:i=n:=by omega
   clear hlt hin;have hmk:=make_rat i (by have:=hb.out;omega)
   rw[←hfq.out] at S;obtain⟨c1_0,c1_1,c1_2,f1_0,f1_1,f1_2⟩:=S.cf3 0 rfl;have hg1:=S.lt 0 rfl;replace S:=Lib.hid S;go_upto_region 8 with fail
   refine RW.begin (Z:=[⟨5,6,#[.slice none 0 0,.bool false,.slice none 0 0,.slice none 0 0],67⟩]) (S:=(fun W=>Cb W (w1.heap.size) #[.bool (ng fq.num),.slice A3 n3 c3,.slice D3 m3 d3] 33)) (by kernel_rfl) ?_ S.out ?_
   ·exact⟨by kernel_rfl,(zis_cons at5 (fun _ _=>by kernel_rfl) zis_nil),by decide,by decide,(nol_cons (noL4 _ _ _ _ _ _ _ _ _ _) nol_nil),(fun _ _ h=>h.kb 0 rfl)⟩
   intro hzk;clear S;refine RW.t (i:=0) (v:=.slice A i c) (some 27) at0 (hy:=fun _ _=>by kernel_rfl) (h:=?_)
   refine RW.t (i:=1) (v:=.int .i64 i) (some 28) at1 (hy:=fun _ _=>by go_simp) (h:=?_)
   refine RW.t (i:=3) (v:=.agg #[.bool (ng fq.num),.slice A3 n3 c3,.slice D3 m3 d3]) (some 30) at3 (hy:=fun W hS=>by (have k0:=Cb.cell (i:=0) hS rfl;have k1:=Cb.cell (i:=1) hS rfl;have k2:=Cb.cell (i:=2) hS rfl;clear hS;go_simp)) (h:=?_)
   refine RW.blk (i:=2) (cs:=(csE (List.replicate i Zt)).toArray) (t:=33) (k:=i) (some 29) hzk.out at2 rfl (by kernel_rfl) (by kernel_rfl) (fun W=>by have hm:=hmk W;go_simp) (NoLl.csE _).arr ?_
   clear hzk;intro g_L2 hzk;refine RW.t (i:=4) (v:=.agg #[.slice (some ⟨g_L2,0,none⟩) i i,.bool (ng fq.num),.slice A3 n3 c3,.slice D3 m3 d3]) (some 31) at4 (hy:=fun _ _=>by kernel_rfl) (h:=?_)
   refine RW.tail hzk.out (by kernel_rfl) ?_
   intro gs w31 hgs hS S;obtain⟨g_l,rfl⟩:=len1' hgs;clear hS hgs hzk;simp only[mark,fill,List.map,Act.put,sZ0,sZ1,sZ2];replace S:=Lib.hid S;refine Wk.o (i:=6) at6 (by kernel_rfl) fun K' hK=>?_
   have q6_l0:=St.cl (S.out) 0 0 rfl rfl;have q6_l1:=St.cl (S.out) 0 1 rfl rfl;have q6_l2:=St.cl (S.out) 0 2 rfl rfl;have q6_l3:=St.cl (S.out) 0 3 rfl rfl;have q6z_l0:=St.f (S.out) 0 0 rfl;have q6z_l1:=St.f (S.out) 0 1 rfl;have q6z_l2:=St.f (S.out) 0 2 rfl;have q6z_l3:=St.f (S.out) 0 3 rfl
   go_simp
   have SN:=((((S.out.set 0 0 (.slice (some ⟨g_L2,0,none⟩) i i) rfl (by nofun)).set 0 1 (.bool (ng fq.num)) rfl (by nofun)).set 0 2 (.slice A3 n3 c3) rfl (by nofun)).set 0 3 (.slice D3 m3 d3) rfl (by nofun))
   clear S q6_l0 q6_l1 q6_l2 q6_l3 q6z_l0 q6z_l1 q6z_l2 q6z_l3;have S:=SN;clear SN;refine hK.out _ _ (S.cb 2 rfl) ?_
   clear hK K';replace S:=Lib.hid S
   try simp only[Act.put,sZ0,sZ1,sZ2]
   refine Wk.done (by kernel_rfl) ?_
   go_simp
   replace S:=S.out;have S:St w _ [(g_l,#[.slice (some ⟨g_L2,0,none⟩) i i,.bool (ng fq.num),.slice A3 n3 c3,.slice D3 m3 d3],67),(g_L2,(csE (List.replicate i Zt)).toArray,33),(w1.heap.size,#[.bool (ng fq.num),.slice A3 n3 c3,.slice D3 m3 d3],33),(w.heap.size,#[.slice none 0 0,.bool false,.slice none 0 0,.slice none 0 0],67)] [(D3,m3,d3,dn fq),(A3,n3,c3,limbs fq.num.natAbs)]:=S;generalize hW32:(World.setCell (World.setCell (World.setCell (World.setCell w31 ⟨g_l,0,none⟩ (.slice (some ⟨g_L2,0,none⟩) i i)) ⟨g_l,1,none⟩ (.bool (ng fq.num))) ⟨g_l,2,none⟩ (.slice A3 n3 c3)) ⟨g_l,3,none⟩ (.slice D3 m3 d3))=w32 at S ⊢
   clear hW32;replace S:=Lib.hid S;replace S:=S.out;have c_l0:=S.cl 0 0 rfl rfl;have f_l0:=S.f 0 0 rfl;have c_l1:=S.cl 0 1 rfl rfl;have f_l1:=S.f 0 1 rfl;have c_l2:=S.cl 0 2 rfl rfl;have f_l2:=S.f 0 2 rfl;have c_l3:=S.cl 0 3 rfl rfl;have f_l3:=S.f 0 3 rfl;obtain⟨c_s0,c_s1,c_s2,f_s0,f_s1,f_s2⟩:=S.cf3 2 rfl;have c_r0:=S.cl 3 0 rfl rfl;have f_r0:=S.f 3 0 rfl;have c_r1:=S.cl 3 1 rfl rfl;have f_r1:=S.f 3 1 rfl
   have c_r2:=S.cl 3 2 rfl rfl;have f_r2:=S.f 3 2 rfl;have c_r3:=S.cl 3 3 rfl rfl;have f_r3:=S.f 3 3 rfl;have hz:g_l<w32.heap.size:=S.lt 0 rfl;replace S:=Lib.hid S;replace hmk:=Lib.hid hmk;clear hmk;have S:=(St.swap (p:=(g_l,#[.slice (some ⟨g_L2,0,none⟩) i i,.bool (ng fq.num),.slice A3 n3 c3,.slice D3 m3 d3],67)) S.out).read (show Rd _ none 0 0 [] from Rd.nil_ _ _ _)
   have T:=Lib.hid S;clear S;replace hfq:=Lib.hid hfq;have hlenL:=hlen.out;go_wp2
   go_loopw [34] (fun jv wr=>∃ (j:Nat) (K:List Rt) (rs:List Rdg),j≤i∧jv=.int .i64 j∧K.length=i∧St w wr [(g_L2,(csE K).toArray,33),(g_l,#[.slice (some ⟨g_L2,0,none⟩) i i,.bool (ng fq.num),.slice A3 n3 c3,.slice D3 m3 d3],67),(w1.heap.size,#[.bool (ng fq.num),.slice A3 n3 c3,.slice D3 m3 d3],33),(w.heap.size,#[.slice none 0 0,.bool false,.slice none 0 0,.slice none 0 0],67)] rs∧(D3,m3,d3,dn fq)∈rs∧(A3,n3,c3,limbs fq.num.natAbs)∈rs∧(∀ x∈K,x.can∧x.rdIn rs)∧(∀ k,k<j→(K[k]?).map (·.q)=(L[k]?).map (fun r=>fq*r.q))) (fun jv _=>i-(intOf jv).toNat)
   case atStart=>exact⟨0,List.replicate i Zt,_,Nat.zero_le _,rfl,List.length_replicate,T.out,by simp,by simp,fun x hx=>(by obtain rfl:=(List.mem_replicate.1 hx).2;exact⟨Zt_can,List.mem_cons_self,List.mem_cons_self⟩),fun k hk=>absurd hk (Nat.not_lt_zero _)⟩
   case round=>
    clear T;obtain⟨j,K,rs,hjn,rfl,hK,S,hm1,hm2,hcn,hq⟩:=hrel
    by_cases hlj:j<i
    ·obtain⟨b,o,r,rfl,hr,hrm,e0,e1,e2⟩:=(h.out.bel S.bel).get hlj
     have R1:=Lib.hid (h.out.rd r hrm);have kr:=ka.out r hrm;have hjh:=Lib.hid hlj;have g1:(j:Int)<(i:Int):=by omega
     have g2:(0:Int)≤(j:Int):=by omega
     have hKj:K[j]?=some K[j]:=List.getElem?_eq_getElem (by omega)
     obtain⟨kj,hkj⟩:∃ z,z=K[j]:=⟨_,rfl⟩;rw[←hkj] at hKj;have s2:=Lib.hid (hpp.out r hrm);obtain⟨p,hp⟩:∃ z,z=fq*r.q:=⟨_,rfl⟩;rw[←hp] at s2;have hM:Hid (∀ W A0 n0 c0 D0 m0 d0,RR W A0 n0 c0 D0 m0 d0 fq→r.raw W→Calls Tryz.prog 60 #[.agg #[.bool (ng fq.num),.slice A0 n0 c0,.slice D0 m0 d0],.agg #[.bool r.b,.slice r.A r.n r.c,.slice r.D r.m r.d]] W (RetR p W)):=Lib.hid fun W A0 n0 c0 D0 m0 d0 h1 h2=>by rw[hp];exact mulW _ _ _ _ _ _ _ _ _ _ _ _ _ _ _ _ _ _ _ _ W (RR.w h1 s9.out) (h2.at_ kr)
     have S:=S.allocAt wr.heap.size #[.bool r.b,.slice r.A r.n r.c,.slice r.D r.m r.d] 33 (noL3 _ _ _ _ _ _ _) rfl;have hqn:=Lib.hid (show p=fq*r.q from hp)
     replace S:=Lib.hid S;replace hm1:=Lib.hid hm1;replace hm2:=Lib.hid hm2;replace hcn:=Lib.hid hcn;replace hq:=Lib.hid hq;replace hKj:=Lib.hid hKj;replace hK:=Lib.hid hK;replace hr:=Lib.hid hr;replace hlenL:=Lib.hid hlenL;clear hlj hjn hrm kr hp hkj;go_upto_region 12 with fail
     refine RW.begin (Z:=[]) (S:=(fun W=>Cb W (g_l) #[.slice (some ⟨g_L2,0,none⟩) i i,.bool (ng fq.num),.slice A3 n3 c3,.slice D3 m3 d3] 67∧Cb W (w1.heap.size) #[.bool (ng fq.num),.slice A3 n3 c3,.slice D3 m3 d3] 33∧Cb W (wr.heap.size) #[.bool r.b,.slice r.A r.n r.c,.slice r.D r.m r.d] 33)) (by kernel_rfl) ?_ S.out ?_
     ·exact⟨by kernel_rfl,zis_nil,by decide,by decide,nol_nil,(fun _ _ h=>⟨h.kb 2 rfl,h.kb 3 rfl,h.kb 0 rfl⟩)⟩
     intro hzk;clear S;refine RW.t (i:=0) (v:=.pointer (some ⟨g_l,0,none⟩)) (some 39) at0 (hy:=fun _ _=>by kernel_rfl) (h:=?_)
     refine RW.t (i:=1) (v:=.slice (some ⟨g_L2,0,none⟩) i i) (some 40) at1 (hy:=fun W hS=>by (have k0:=Cb.cell (i:=0) hS.1 rfl;clear hS;go_simp)) (h:=?_)
     refine RW.t (i:=2) (v:=.int .i64 j) (some 41) at2 (hy:=fun _ _=>by kernel_rfl) (h:=?_)
     refine RW.t (i:=3) (v:=.agg #[.bool (ng fq.num),.slice A3 n3 c3,.slice D3 m3 d3]) (some 42) at3 (hy:=fun W hS=>by (have k0:=Cb.cell (i:=0) hS.2.1 rfl;have k1:=Cb.cell (i:=1) hS.2.1 rfl;have k2:=Cb.cell (i:=2) hS.2.1 rfl;clear hS;go_simp)) (h:=?_)
     refine RW.t (i:=4) (v:=.agg #[.bool r.b,.slice r.A r.n r.c,.slice r.D r.m r.d]) (some 43) at4 (hy:=fun W hS=>by (have k0:=Cb.cell (i:=0) hS.2.2 rfl;have k1:=Cb.cell (i:=1) hS.2.2 rfl;have k2:=Cb.cell (i:=2) hS.2.2 rfl;clear hS;go_simp)) (h:=?_)
     refine RW.c (i:=5) (args:=#[.agg #[.bool (ng fq.num),.slice A3 n3 c3,.slice D3 m3 d3],.agg #[.bool r.b,.slice r.A r.n r.c,.slice r.D r.m r.d]]) (some 44) hzk.out at5 (hx:=fun _=>by kernel_rfl) (h:=fun _ S=>(hM.out _ _ _ _ _ _ _ ⟨S.rd _ hm2.out,S.rd _ hm1.out⟩ (R1.out.bel S.bel)).mono ?_)
     rintro e w21 ⟨A20,n20,c20,D20,m20,d20,rfl,Q20,bb⟩;refine⟨bb,_,[(D20,m20,d20,dn p),(A20,n20,c20,limbs p.num.natAbs)],rfl,(rd_cons Q20.d (rd_cons Q20.n rd_nil)),?_⟩
     clear bb S Q20;refine RW.t (i:=6) (v:=.pointer (some ⟨g_L2,j*3,none⟩)) (some 45) at6 (hy:=fun _ _=>by go_simp) (h:=?_)
     refine RW.tail hzk.out (by kernel_rfl) ?_
     intro gs w22 hgs hS S;obtain rfl:=len0 hgs;clear hS hgs hzk;simp only[mark,fill,Act.put,sZ0,sZ1,sZ2];replace S:=Lib.hid S;refine Wk.o (i:=7) at7 (by kernel_rfl) fun K' hK=>?_
     have Sp:=St.swap S.out;obtain⟨⟨q0,q1,q2⟩,qf⟩:=St_lcl Sp hKj.out;clear S
     go_simp
     have S:=St_lset Sp j (Rt.of A20 n20 c20 D20 m20 d20 p);refine hK.out _ _ ⟨S.cb 2 rfl,S.cb 3 rfl,S.cb 1 rfl⟩ ?_
     clear hK K' Sp q0 q1 q2 qf;replace S:=Lib.hid S
     try simp only[Act.put,sZ0,sZ1,sZ2]
     refine Wk.done (by kernel_rfl) ?_
     have hlj:=hjh.out;have hbb:=hb.out;go_wp2
     go_roundw
     case rel=>
      refine⟨j+1,K.set j (Rt.of A20 n20 c20 D20 m20 d20 p),_,by omega,by go_num,by rw[List.length_set];exact hK.out,S.out.swap.sub,List.mem_cons_of_mem _ (List.mem_cons_of_mem _ hm1.out),List.mem_cons_of_mem _ (List.mem_cons_of_mem _ hm2.out),fun x hx=>?_,fun k hk=>?_⟩
      ·rcases List.mem_or_eq_of_mem_set hx with hx | rfl
       ·exact⟨(hcn.out x hx).1,rd_cons_ (rd_cons_ (hcn.out x hx).2)⟩
       ·exact⟨Rt.of_can _ _ _ _ _ _ s2.out,List.mem_cons_of_mem _ List.mem_cons_self,List.mem_cons_self⟩
      ·by_cases e:j=k
       ·subst e
        rw[List.getElem?_set_self (by rw[hK.out];exact hlj),hr.out]
        exact congrArg some hqn.out
       ·rw[List.getElem?_set_ne e];exact hq.out k (by omega)
     case measure=>simp[intOf];omega
    ·obtain rfl:j=i:=by omega
     have hfin:K.map (·.q)=L.map (fun r=>fq*r.q):=by
      apply List.ext_getElem?
      intro k;rw[List.getElem?_map,List.getElem?_map]
      rcases Nat.lt_or_ge k j with hk | hk
      ·exact hq k hk
      ·rw[List.getElem?_eq_none (by omega),List.getElem?_eq_none (by omega)];rfl
     have k_0:=S.cl 1 0 rfl rfl;have k_1:=S.cl 1 1 rfl rfl;have k_2:=S.cl 1 2 rfl rfl;have k_3:=S.cl 1 3 rfl rfl;have f_0:=S.f 3 0 rfl;have f_1:=S.f 3 1 rfl;have f_2:=S.f 3 2 rfl;have f_3:=S.f 3 3 rfl;have r_0:=S.cl 3 0 rfl rfl;have r_1:=S.cl 3 1 rfl rfl;have r_2:=S.cl 3 2 rfl rfl;have r_3:=S.cl 3 3 rfl rfl;have S:=Lib.hid ((((S.set 3 0 (.slice (some ⟨g_L2,0,none⟩) j j) rfl (by nofun)).set 3 1 (.bool (ng fq.num)) rfl (by nofun)).set 3 2 (.slice A3 n3 c3) rfl (by nofun)).set 3 3 (.slice D3 m3 d3) rfl (by nofun))
     replace hfin:=Lib.hid hfin;replace hK:=Lib.hid hK;replace hm1:=Lib.hid hm1;replace hm2:=Lib.hid hm2;replace hcn:=Lib.hid hcn;replace hq:=Lib.hid hq;clear hlj hjn;go_wp2;refine bodyPost_ret (res_whole _ _ w.heap.size 67 rfl (S.out.bk _ (List.mem_of_getElem? (i:=3) rfl)).1) rfl ?_
     exact⟨_,_,_,_,_,_,_,K,rfl,⟨S.out.rd _ hm2.out,S.out.rd _ hm1.out⟩,⟨(S.out.bk _ List.mem_cons_self).2.2,(S.out.bk _ List.mem_cons_self).1⟩,fun x hx=>⟨(hcn.out x hx).1,S.out.rd _ (hcn.out x hx).2.1,S.out.rd _ (hcn.out x hx).2.2⟩,hfin.out,hK.out,S.out.bel⟩
theorem whole_any (L:List Rt) (A:Option Addr) (n c:Nat) (w:World) (h:Sr w A n c L) (ka:∀ r∈L,Rk r.b r.n r.x r.m r.y r.q) (rs:∀ i,i≤n→Rs (wsc (L.map (·.q)) i) 9000000) (rp:∀ i,i≤n→∀ r∈L,Rs (wsc (L.map (·.q)) i*r.q) 9000000) (hn:n≤1000):Calls Tryz.prog 36 #[.slice A n c] w (RetLi L n (wsc (L.map (·.q)) n) w):=
 (whole_own L A n c w h ka rs rp hn).mono fun _ _ h=>h.li
end Go.Proofs.YthlinhconnmbcaaGreat
namespace Go.Proofs.YthlinhconnmbcaaGreat
open Go.RowKit
set_option linter.unusedVariables false
abbrev GBk:=Nat×Array Value×Nat
abbrev GRd:=Option Addr×Nat×Nat×List Nat
structure Cod (α:Type) where
 sz:Nat
 cs:α→List Value
 At:World→α→Prop
 In:World→List GBk→List GRd→α→Prop
 pos:0<sz
 len:∀ a,(cs a).length=sz
 noL:∀ a,NoLl (cs a)
 one:∀ a,∀ v∈cs a,v.oneCell'=true
 bel:∀ {W W':World} {a:α},At W a→Below W.heap.size W W'→At W' a
 mono:∀ {w:World} {bs bs':List GBk} {rs rs':List GRd} {a:α},In w bs rs a→(∀ p∈bs,p∈bs')→(∀ p∈rs,p∈rs')→In w bs' rs' a
 at_:∀ {w W:World} {bs:List GBk} {rs:List GRd} {a:α},St w W bs rs→In w bs rs a→At W a
 old:∀ {w:World} {a:α} (bs:List GBk) (rs:List GRd),At w a→In w bs rs a
def Cod.all {α:Type} (C:Cod α) (L:List α):List Value:=L.flatMap C.cs
section
variable {α β:Type} {C:Cod α} {w W W':World} {A:Option Addr} {n c e g t:Nat} {L:List α} {bs bs':List GBk} {rs rs':List GRd}
theorem all_app (C:Cod α) (L M:List α):C.all (L++M)=C.all L++C.all M:=List.flatMap_append
theorem all_one (C:Cod α) (x:α):C.all [x]=C.cs x:=by show C.cs x++[]=_;rw[List.append_nil]
theorem all_get {x:α} (C:Cod α):∀ {L:List α} {i:Nat},L[i]?=some x→∀ k v,(C.cs x)[k]?=some v→(C.all L)[i*C.sz+k]?=some v
 | [],_,h,_,_,_=>by simp at h
 | y::l,0,h,k,v,hv=>by
  have:y=x:=by simpa using h
  subst this;have hk:=(List.getElem?_eq_some_iff.1 hv).1
  show (C.cs y++C.all l)[0*C.sz+k]?=_
  rw[Nat.zero_mul,Nat.zero_add,List.getElem?_append_left hk];exact hv
 | y::l,i+1,h,k,v,hv=>by
  have h:l[i]?=some x:=by simpa using h
  show (C.cs y++C.all l)[(i+1)*C.sz+k]?=_
  rw[List.getElem?_append_right (by rw[C.len,Nat.add_mul,Nat.one_mul];omega),C.len,show (i+1)*C.sz+k-C.sz=i*C.sz+k by rw[Nat.add_mul,Nat.one_mul];omega]
  exact all_get C h k v hv
structure LR (C:Cod α) (W:World) (A:Option Addr) (n:Nat) (L:List α):Prop where
 len:L.length=n
 mem:n=0∨∃ b o,A=some ⟨b,o,none⟩∧b<W.heap.size∧∀ (i:Nat) (x:α),L[i]?=some x→∀ k v,(C.cs x)[k]?=some v→W.cell? ⟨b,o+i*C.sz+k,none⟩=some v
 el:∀ x∈L,C.At W x
theorem LR.bel (h:LR C W A n L) (hb:Below W.heap.size W W'):LR C W' A n L:=by
 refine⟨h.len,?_,fun x hx=>C.bel (h.el x hx) hb⟩
 rcases h.mem with h0 | ⟨b,o,hA,hlt,hc⟩
 ·exact .inl h0
 ·exact .inr ⟨b,o,hA,Nat.lt_of_lt_of_le hlt hb.size,fun i x hi k v hv=>(World.cell?_of_block (hb.block b hlt)).trans (hc i x hi k v hv)⟩
theorem LR.get (h:LR C W A n L) {i:Nat} (hi:i<n):∃ b o x,A=some ⟨b,o,none⟩∧L[i]?=some x∧x∈L∧C.At W x∧∀ k v,(C.cs x)[k]?=some v→W.cell? ⟨b,o+i*C.sz+k,none⟩=some v:=by
 have hl:=h.len
 rcases h.mem with h0 | ⟨b,o,hA,_,hc⟩
 ·omega
 ·have e:L[i]?=some L[i]:=List.getElem?_eq_getElem (by omega)
  have hm:L[i]∈L:=List.getElem_mem _;exact⟨b,o,L[i],hA,e,hm,h.el _ hm,hc i _ e⟩
theorem LR.nil_ (C:Cod α) (W:World) (A:Option Addr):LR C W A 0 []:=⟨rfl,.inl rfl,fun x hx=>by cases hx⟩
theorem LR.sub {b o m:Nat} (h:LR C W (some ⟨b,o,none⟩) n L) (hm:m≤n):LR C W (some ⟨b,o+m*C.sz,none⟩) (n-m) (L.drop m):=by
 refine⟨by rw[List.length_drop,h.len],?_,fun x hx=>h.el x (List.mem_of_mem_drop hx)⟩
 rcases h.mem with h0 | ⟨b',o',hA,hlt,hc⟩
 ·exact .inl (by omega)
 ·injection hA with hA;injection hA with h1 h2;subst h1;subst h2
  refine .inr ⟨b,o+m*C.sz,rfl,hlt,fun i x hi k v hv=>?_⟩
  rw[List.getElem?_drop] at hi
  have:=hc (m+i) x hi k v hv
  rwa [Nat.add_mul,←Nat.add_assoc] at this
structure LI (C:Cod α) (w:World) (bs:List GBk) (rs:List GRd) (A:Option Addr) (n:Nat) (L:List α):Prop where
 len:L.length=n
 mem:n=0∨(∃ b o,A=some ⟨b,o,none⟩∧b<w.heap.size∧∀ (i:Nat) (x:α),L[i]?=some x→∀ k v,(C.cs x)[k]?=some v→w.cell? ⟨b,o+i*C.sz+k,none⟩=some v) ∨
  ∃ (g:Nat) (cur:Array Value) (t:Nat),A=some ⟨g,0,none⟩∧(g,cur,t)∈bs∧∀ (j:Nat) v,(C.all L)[j]?=some v→cur[j]?=some v
 el:∀ x∈L,C.In w bs rs x
theorem LI.mono (h:LI C w bs rs A n L) (hb:∀ p∈bs,p∈bs') (hr:∀ p∈rs,p∈rs'):LI C w bs' rs' A n L:=by
 refine⟨h.len,?_,fun x hx=>C.mono (h.el x hx) hb hr⟩
 rcases h.mem with h0 | h1 | ⟨g,cur,t,h1,h2,h3⟩
 ·exact .inl h0
 ·exact .inr (.inl h1)
 ·exact .inr (.inr ⟨g,cur,t,h1,hb _ h2,h3⟩)
theorem LI.lr (h:LI C w bs rs A n L) (S:St w W bs rs):LR C W A n L:=by
 refine⟨h.len,?_,fun x hx=>C.at_ S (h.el x hx)⟩
 rcases h.mem with h0 | ⟨b,o,hA,hlt,hc⟩ | ⟨g,cur,t,h1,h2,h3⟩
 ·exact .inl h0
 ·exact .inr ⟨b,o,hA,Nat.lt_of_lt_of_le hlt S.bel.size,fun i x hi k v hv=>(World.cell?_of_block (S.bel.block b hlt)).trans (hc i x hi k v hv)⟩
 ·have hb:=(S.bk _ h2).1
  refine .inr ⟨g,0,h1,hb.lt,fun i x hi k v hv=>?_⟩
  rw[Nat.zero_add];exact hb.cell (h3 _ _ (all_get (i:=i) C hi k v hv))
theorem LI.old (bs:List GBk) (rs:List GRd) (h:LR C w A n L):LI C w bs rs A n L:=by
 refine⟨h.len,?_,fun x hx=>C.old bs rs (h.el x hx)⟩
 rcases h.mem with h0 | h1
 ·exact .inl h0
 ·exact .inr (.inl h1)
theorem LI.nil_ (C:Cod α) (w:World) (bs:List GBk) (rs:List GRd) (A:Option Addr):LI C w bs rs A 0 []:=⟨rfl,.inl rfl,fun x hx=>by cases hx⟩
theorem LI.blk (hb:(g,(C.all L).toArray,t)∈bs) (hr:∀ x∈L,C.In w bs rs x):LI C w bs rs (some ⟨g,0,none⟩) L.length L:=
 ⟨rfl,.inr (.inr ⟨g,_,t,rfl,hb,fun j v hv=>by rw[List.getElem?_toArray];exact hv⟩),hr⟩
structure Sl (α:Type) where
 A:Option Addr
 c:Nat
 L:List α
def Sl.v {α:Type} (s:Sl α):Value:=.slice s.A s.L.length s.c
def slC (C:Cod α):Cod (Sl α) where
 sz:=1
 cs s:=[s.v]
 At W s:=LR C W s.A s.L.length s.L∧s.L.length≤s.c
 In w bs rs s:=LI C w bs rs s.A s.L.length s.L∧s.L.length≤s.c
 pos:=by decide
 len _:=rfl
 noL s:=fun v hv z e=>by rw[List.mem_singleton.1 hv] at e;cases e
 one s:=fun v hv=>by rw[List.mem_singleton.1 hv];rfl
 bel h hb:=⟨h.1.bel hb,h.2⟩
 mono h hb hr:=⟨h.1.mono hb hr,h.2⟩
 at_ S h:=⟨h.1.lr S,h.2⟩
 old bs rs h:=⟨LI.old bs rs h.1,h.2⟩
def cellC (f:α→Value) (h1:∀ a z,f a≠.int .u32 z) (h2:∀ a,(f a).oneCell'=true):Cod α where
 sz:=1
 cs a:=[f a]
 At _ _:=True
 In _ _ _ _:=True
 pos:=by decide
 len _:=rfl
 noL a:=fun v hv z e=>by rw[List.mem_singleton.1 hv] at e;exact h1 a z e
 one a:=fun v hv=>by rw[List.mem_singleton.1 hv];exact h2 a
 bel _ _:=trivial
 mono _ _ _:=trivial
 at_ _ _:=trivial
 old _ _ _:=trivial
def boolC:Cod Bool:=cellC Value.bool (fun _ _ e=>by cases e) (fun _=>rfl)
def intC:Cod Int:=cellC (Value.int .i64) (fun _ _ e=>by cases e) (fun _=>rfl)
structure Nl where
 A:Option Addr
 n:Nat
 c:Nat
 x:List Nat
def limC:Cod Nl where
 sz:=1
 cs s:=[.slice s.A s.n s.c]
 At W s:=Rd W s.A s.n s.c s.x
 In w bs rs s:=(s.A,s.n,s.c,s.x)∈rs∨Rd w s.A s.n s.c s.x
 pos:=by decide
 len _:=rfl
 noL s:=fun v hv z e=>by rw[List.mem_singleton.1 hv] at e;cases e
 one s:=fun v hv=>by rw[List.mem_singleton.1 hv];rfl
 bel h hb:=h.below hb
 mono h _ hr:=h.imp (hr _) id
 at_ S h:=h.elim (fun h=>S.rd _ h) (fun h=>h.below S.bel)
 old _ _ h:=.inr h
def proC (C:Cod α) (D:Cod β):Cod (α×β) where
 sz:=C.sz+D.sz
 cs a:=C.cs a.1++D.cs a.2
 At W a:=C.At W a.1∧D.At W a.2
 In w bs rs a:=C.In w bs rs a.1∧D.In w bs rs a.2
 pos:=Nat.add_pos_left C.pos _
 len a:=by rw[List.length_append,C.len,D.len]
 noL a:=(C.noL a.1).app (D.noL a.2)
 one a:=fun v hv=>(List.mem_append.1 hv).elim (C.one a.1 v) (D.one a.2 v)
 bel h hb:=⟨C.bel h.1 hb,D.bel h.2 hb⟩
 mono h hb hr:=⟨C.mono h.1 hb hr,D.mono h.2 hb hr⟩
 at_ S h:=⟨C.at_ S h.1,D.at_ S h.2⟩
 old bs rs h:=⟨C.old bs rs h.1,D.old bs rs h.2⟩
def Cod.via (C:Cod β) (f:α→β):Cod α where
 sz:=C.sz
 cs a:=C.cs (f a)
 At W a:=C.At W (f a)
 In w bs rs a:=C.In w bs rs (f a)
 pos:=C.pos
 len a:=C.len (f a)
 noL a:=C.noL (f a)
 one a:=C.one (f a)
 bel h hb:=C.bel h hb
 mono h hb hr:=C.mono h hb hr
 at_ S h:=C.at_ S h
 old bs rs h:=C.old bs rs h
structure Iw where
 b:Bool
 x:Nl
structure Gw where
 b:Bool
 x:Nl
 y:Nl
def rwC:Cod Gw:=(proC boolC (proC limC limC)).via fun a=>(a.b,a.x,a.y)
def Gw.vs (r:Gw):Array Value:=#[.bool r.b,.slice r.x.A r.x.n r.x.c,.slice r.y.A r.y.n r.y.c]
theorem rw_cs (r:Gw):rwC.cs r=[.bool r.b,.slice r.x.A r.x.n r.x.c,.slice r.y.A r.y.n r.y.c]:=rfl
end
section
variable {α:Type} {C:Cod α} {w W W':World} {A:Option Addr} {n c e g t:Nat} {L:List α} {bs bs':List GBk} {rs rs':List GRd} {v:Value}
def Gro (C:Cod α) (w W:World) (bs:List GBk) (rs:List GRd) (e:Nat) (v:Value) (L:List α):Prop:=
 Apd w W bs rs e C.sz v L.length (C.all L)∧∀ x∈L,C.In w bs rs x
theorem Gro.nil_ (C:Cod α) (S:St w W bs rs) (e:Nat):Gro C w W bs rs e (.slice none 0 0) []:=⟨Apd.nil_ S e _,fun x hx=>by cases hx⟩
theorem Gro.st (h:Gro C w W bs rs e v L):St w W bs rs:=h.1.st
theorem Gro.done (h:Gro C w W bs rs e v L):∃ A c bs',v=.slice A L.length c∧St w W bs' rs∧(∀ p∈bs,p∈bs')∧LI C w bs' rs A L.length L:=by
 obtain⟨⟨h1,h2,⟨rfl,h3,S⟩ | ⟨g,cap,cur,rfl,h3,h4,h5,h6,S⟩⟩,hx⟩:=h
 ·have:L=[]:=List.length_eq_zero_iff.1 h3
  subst this;exact⟨none,0,bs,rfl,S,fun _ h=>h,LI.nil_ _ _ _ _ _⟩
 ·refine⟨_,_,_,rfl,S,fun _ h=>List.mem_cons_of_mem _ h,rfl,.inr (.inr ⟨g,cur,e,rfl,List.mem_cons_self,fun j u hu=>?_⟩),fun x hxm=>C.mono (hx x hxm) (fun _ h=>List.mem_cons_of_mem _ h) (fun _ h=>h)⟩
  rw[←h6,List.getElem?_take] at hu
  split at hu
  ·simpa using hu
  ·cases hu
theorem Gro.lr (h:Gro C w W bs rs e v L):∃ A c,v=.slice A L.length c∧LR C W A L.length L:=by
 obtain⟨A,c,bs',hv,S,_,hl⟩:=h.done;exact⟨A,c,hv,hl.lr S⟩
theorem Gro.call (h:Gro C w W bs rs e v L) (hb:Below W.heap.size W W'):Gro C w W' bs rs e v L:=⟨h.1.call hb,h.2⟩
theorem Gro.drew (h:Gro C w W bs rs e v L):Gro C w W.drew bs rs e v L:=⟨h.1.drew,h.2⟩
theorem Gro.read {A:Option Addr} {n c:Nat} {ys:List Nat} (h:Gro C w W bs rs e v L) (R:Rd W A n c ys):Gro C w W bs ((A,n,c,ys)::rs) e v L:=⟨h.1.read R,fun x hx=>C.mono (h.2 x hx) (fun _ h=>h) (fun _ h=>List.mem_cons_of_mem _ h)⟩
theorem Gro.alloc (h:Gro C w W bs rs e v L) (cs:Array Value) (t:Nat) (hn:NoL cs):Gro C w (W.alloc (.cells cs t)) ((W.heap.size,cs,t)::bs) rs e v L:=⟨h.1.alloc cs t hn,fun x hx=>C.mono (h.2 x hx) (fun _ h=>List.mem_cons_of_mem _ h) (fun _ h=>h)⟩
theorem Gro.sub {p:GBk} (h:Gro C w W (p::bs) rs e v L) (hx:∀ x∈L,C.In w bs rs x):Gro C w W bs rs e v L:=⟨h.1.sub,hx⟩
theorem Gro.wp {P:Program} {ops:Array Oper} {rest:List Oper} {o:Oper} {a:Act} {Q:Exit→Act→World→Prop} (hgd:o.guard=none) (s x:Operand) (ty:TypeId)
  (ho:o.op=.call { callee:=.builtin .append,args:=#[s,x],argTypes:=#[ty,ty] })
  (z:Value) (bytes:Nat) (ht:P.underlying ty=some (.slice e)) (hi:(P.info? e).map (fun i=>(i.zero,i.size,i.bytes))=some (some z,C.sz,bytes))
  (hzs:z.cells.size=C.sz) (hzn:NoLl z.cells.toList) (hs:a.eval s=v) (h:Gro C w W bs rs e v L)
  (g:Nat) (y:α) {t:Nat} (hx:a.eval x=.slice (some ⟨g,0,none⟩) 1 1) (hc:Cb W g (C.cs y).toArray t) (hy:C.In w bs rs y)
  (hn:(L.length+1)*bytes≤140737488355328) (h63:L.length+1≤maxLen)
  (hk:∀ v' W',Gro C w W' bs rs e v' (L++[y])→wpList P ops Q rest (a.put o.dst v') W'):wpList P ops Q (o::rest) a W:=by
 obtain⟨i0,hi0,hzz⟩:=Option.map_eq_some_iff.1 hi;simp only[Prod.mk.injEq] at hzz;obtain⟨hz0,hz1,hz2⟩:=hzz;refine Apd.wp hgd s x ty ho i0 z bytes ht hi0 hz0 hz1 hz2 hzs hzn hs h.1 ⟨g,0,none⟩ 1 1 (C.cs y) hx (by rw[C.len,Nat.one_mul]) ?_ (C.one y) (C.noL y) (by decide) h63 hn fun v' W' hA=>hk v' W' ⟨?_,fun x hx=>?_⟩
 ·intro j u hu
  have hadd:(⟨g,0,none⟩:Addr).add j=⟨g,j,none⟩:=by unfold Addr.add;split<;>simp_all
  rw[hadd];exact hc.cell (by rw[List.getElem?_toArray];exact hu)
 ·rw[all_app,all_one,List.length_append];exact hA
 ·rcases List.mem_append.1 hx with hx | hx
  ·exact h.2 x hx
  ·rw[List.mem_singleton.1 hx];exact hy
end
end Go.Proofs.YthlinhconnmbcaaGreat
namespace Go.Proofs.YthlinhconnmbcaaGreat
open Go.RowKit RQ GE
set_option linter.unusedVariables false
theorem noLof {xs:List Value} (h:xs.all (fun v=>match v with | .int .u32 _=>false | _=>true)=true):NoL xs.toArray:=by
 refine NoLl.arr fun v hv z e=>?_
 have:=List.all_eq_true.1 h v hv;rw[e] at this
 cases this
def rwV (x:Gw):Bool×List Nat×List Nat:=(x.b,x.x.x,x.y.x)
def qV (q:Rat):Bool×List Nat×List Nat:=(ng q.num,limbs q.num.natAbs,dn q)
def rwI (rs:List GRd) (x:Gw):Prop:=(x.x.A,x.x.n,x.x.c,x.x.x)∈rs∧(x.y.A,x.y.n,x.y.c,x.y.x)∈rs
theorem rwI.in_ {rs:List GRd} {x:Gw} (h:rwI rs x) (w:World) (bs:List GBk):rwC.In w bs rs x:=⟨trivial,.inl h.1,.inl h.2⟩
theorem rwI.mono {rs rs':List GRd} {x:Gw} (h:rwI rs x) (hr:∀ p∈rs,p∈rs'):rwI rs' x:=⟨hr _ h.1,hr _ h.2⟩
structure RowI (bs:List GBk) (rs:List GRd) (s:Sl Gw):Prop where
 cap:s.L.length≤s.c
 el:∀ x∈s.L,rwI rs x
 mem:s.L=[]∨∃ (g:Nat) (cur:Array Value) (t:Nat),s.A=some ⟨g,0,none⟩∧(g,cur,t)∈bs∧∀ (j:Nat) v,(rwC.all s.L)[j]?=some v→cur[j]?=some v
section
variable {bs bs':List GBk} {rs rs':List GRd} {s:Sl Gw} {w W W':World}
theorem RowI.mono (h:RowI bs rs s) (hb:∀ p∈bs,p∈bs') (hr:∀ p∈rs,p∈rs'):RowI bs' rs' s:=by
 refine⟨h.cap,fun x hx=>(h.el x hx).mono hr,?_⟩
 rcases h.mem with h0 | ⟨g,cur,t,h1,h2,h3⟩
 ·exact .inl h0
 ·exact .inr ⟨g,cur,t,h1,hb _ h2,h3⟩
theorem RowI.in_ (h:RowI bs rs s) (w:World):(slC rwC).In w bs rs s:=by
 refine⟨⟨rfl,?_,fun x hx=>(h.el x hx).in_ w bs⟩,h.cap⟩
 rcases h.mem with h0 | ⟨g,cur,t,h1,h2,h3⟩
 ·exact .inl (by rw[h0];rfl)
 ·exact .inr (.inr ⟨g,cur,t,h1,h2,h3⟩)
theorem RowI.nil_ (bs:List GBk) (rs:List GRd):RowI bs rs ⟨none,0,[]⟩:=⟨Nat.le_refl _,fun x hx=>(by cases hx),Or.inl rfl⟩
theorem St.join {w W W':World} {bs bs':List GBk} {rs rs':List GRd} (h:St w W bs rs) (h':St W W' bs' rs'):St w W' (bs++bs') (rs++rs'):=by
 refine⟨h.bel.trans (h'.bel.mono h.bel.size),fun p hp=>?_,List.pairwise_append.2 ⟨h.nd,h'.nd,fun p hp q hq=>?_⟩,fun r hr=>?_⟩
 ·rcases List.mem_append.1 hp with hp | hp
  ·obtain⟨q1,q2,q3⟩:=h.bk p hp
   exact⟨q1.bel h'.bel,q2,q3⟩
  ·obtain⟨q1,q2,q3⟩:=h'.bk p hp
   exact⟨q1,q2,Nat.le_trans h.bel.size q3⟩
 ·have a:=(h.bk p hp).1.lt
  have b:=(h'.bk q hq).2.2
  omega
 ·rcases List.mem_append.1 hr with hr | hr
  ·exact (h.rd r hr).below h'.bel
  ·exact h'.rd r hr
theorem Gro.joinr {α:Type} {C:Cod α} {e:Nat} {v:Value} {L:List α} (h:Gro C w W bs rs e v L) (S:St W W' bs' rs'):Gro C w W' (bs++bs') (rs++rs') e v L:=by
 obtain⟨ob,h1,h2⟩:=h.1.open_;refine⟨Apd.close h1 ?_,fun x hx=>C.mono (h.2 x hx) (fun p hp=>List.mem_append_left _ hp) (fun p hp=>List.mem_append_left _ hp)⟩
 have h3:=h2.join S;refine h3.prm ?_
 rw[List.append_assoc,List.append_assoc];exact List.Perm.append_left bs List.perm_append_comm
theorem Gro.drow {e:Nat} {v:Value} {L:List Gw} (h:Gro rwC w W bs rs e v L) (hx:∀ x∈L,rwI rs x):∃ A c bs',v=.slice A L.length c∧St w W bs' rs∧(∀ p∈bs,p∈bs')∧RowI bs' rs ⟨A,c,L⟩:=by
 obtain⟨⟨h1,h2,⟨rfl,h3,S⟩ | ⟨g,cap,cur,rfl,h3,h4,h5,h6,S⟩⟩,_⟩:=h
 ·have:L=[]:=List.length_eq_zero_iff.1 h3
  subst this;exact⟨none,0,bs,rfl,S,fun _ h=>h,.nil_ _ _⟩
 ·refine⟨_,_,_,rfl,S,fun _ h=>List.mem_cons_of_mem _ h,h3,hx,.inr ⟨g,cur,e,rfl,List.mem_cons_self,fun j u hu=>?_⟩⟩
  rw[←h6,List.getElem?_take] at hu
  split at hu
  ·simpa using hu
  ·cases hu
end
def MatV (L:List (Sl Gw)) (M:List (List Rat)):Prop:=L.map (fun s=>s.L.map rwV)=M.map (fun r=>r.map qV)
theorem MatV.len {L:List (Sl Gw)} {M:List (List Rat)} (h:MatV L M):L.length=M.length:=by have:=congrArg List.length h;simpa using this
theorem MatV.snoc {L:List (Sl Gw)} {M:List (List Rat)} {s:Sl Gw} {r:List Rat} (h:MatV L M) (hs:s.L.map rwV=r.map qV):MatV (L++[s]) (M++[r]):=by
 unfold MatV at *;rw[List.map_append,List.map_append,h]
 simp[hs]
section
variable {α:Type} {C:Cod α} {w W W':World} {g t:Nat} {L:List α} {bs:List GBk} {rs:List GRd}
end
theorem bel_cell {w W:World} (h:Below w.heap.size w W) {a:Addr} {v:Value} (hc:w.cell? a=some v):W.cell? a=some v:=by
 have hlt:a.block<w.heap.size:=by
  rcases Nat.lt_or_ge a.block w.heap.size with h1 | h1
  ·exact h1
  ·rw[World.cell?,Array.getElem?_eq_none h1] at hc
   cases hc
 rw[World.cell?_of_block (h.block a.block hlt)];exact hc
section
variable {w W:World} {A:Option Addr} {n:Nat}
theorem row_get {L:List Gw} (h:LR rwC W A n L) {i:Nat} (hi:i<n):∃ b o x,A=some ⟨b,o,none⟩∧L[i]?=some x∧x∈L∧W.cell? ⟨b,o+i*3,none⟩=some (.bool x.b)∧W.cell? ⟨b,o+i*3+1,none⟩=some (.slice x.x.A x.x.n x.x.c)∧W.cell? ⟨b,o+i*3+2,none⟩=some (.slice x.y.A x.y.n x.y.c)∧Rd W x.x.A x.x.n x.x.c x.x.x∧Rd W x.y.A x.y.n x.y.c x.y.x:=by
 obtain⟨b,o,x,h1,h2,h3,h4,h5⟩:=h.get hi;have q0:=h5 0 _ rfl;have q1:=h5 1 _ rfl;have q2:=h5 2 _ rfl;rw[show rwC.sz=3 from rfl] at q0 q1 q2
 rw[Nat.add_zero] at q0;exact⟨b,o,x,h1,h2,h3,q0,q1,q2,h4.2.1,h4.2.2⟩
theorem map_at {α β γ:Type} {f:α→γ} {g:β→γ} {L:List α} {M:List β} (h:L.map f=M.map g) {i:Nat} {x:α} (hx:L[i]?=some x):∃ q,M[i]?=some q∧q∈M∧f x=g q:=by
 have e:=congrArg (fun l=>l[i]?) h
 simp only[List.getElem?_map,hx,Option.map_some] at e
 cases hq:M[i]? with
 | none=>rw[hq] at e;cases e
 | some q=>rw[hq] at e;injection e with e;exact⟨q,rfl,List.mem_of_getElem? hq,e⟩
theorem rw_rr {x:Gw} {q:Rat} (h:rwV x=qV q) (R1:Rd W x.x.A x.x.n x.x.c x.x.x) (R2:Rd W x.y.A x.y.n x.y.c x.y.x):x.b=ng q.num∧RR W x.x.A x.x.n x.x.c x.y.A x.y.n x.y.c q:=by
 unfold rwV qV at h;simp only[Prod.mk.injEq] at h;obtain⟨h1,h2,h3⟩:=h;rw[h2] at R1;rw[h3] at R2;exact⟨h1,⟨R1,R2⟩⟩
end
section
variable {P:Program} {ops:Array Oper} {Q:Exit→Act→World→Prop} {S:World→Prop}
theorem Wk.t {L:Array Bool} {a:Act} {w:World} {i:Nat} {oi:Oper} {v:Value} (dst:Option Nat) (hi:ops[i]?=some oi) (hd:oi.dst=dst:=by rfl) (hc:takeOk ops [] L i oi=true:=by kernel_rfl) (hw:Region.wanted oi (yielded ops a.tmps)=true:=by kernel_rfl)
  (hQ:∀ c a w,Q (.panic c) (Act.put a dst v) w→Q (.panic c) a w:=by exact fun _ _ _ h=>h) (hy:∀ w,S w→(execOp a.eval oi).run P w=.ok (.value v) w) (hS:S w)
  (h:Wk P ops Q S (L.setIfInBounds i true) (a.put dst v) w):Wk P ops Q S L a w:=by
 simp only[takeOk,Bool.and_eq_true,Bool.not_eq_true'] at hc;obtain⟨⟨⟨⟨c1,c2⟩,c3⟩,_⟩,_⟩:=hc;subst hd;exact Wk.take hi c1 c2 (by simpa using c3) hQ (.inl ⟨hw,hy⟩) hS h
theorem Wk.g {i:Nat} {o:Oper} {L:Array Bool} {a:Act} {w:World} (ho:ops[i]?=some o) (hr:(Region.ready .any ops L==[i])=true) (hw:Region.wanted o (yielded ops a.tmps)=true)
  (h:∀ K':Act→World→Prop,Shut (∀ a w,S w→Wk P ops Q S (L.setIfInBounds i true) a w→K' a w)→Oper.wp P o a w K' Q):Wk P ops Q S L a w:=
 Wk.one (by simpa using hr) ho hw fun K' hK=>h K' (fun a w hS hW=>hK.out a w hS fun _=>hW)
theorem oper_call {P:Program} {o:Oper} {f:FuncId} {args:Array Value} {dst:Option Nat} {a:Act} {w:World} {K':Act→World→Prop} {Q:Exit→Act→World→Prop} (hd:o.dst=dst) (hx:(execOp a.eval o).run P w=.ok (.enter f args) w) (h:Calls P f args w fun e w'=>∃ v,e=.returned v∧K' (a.put dst v) w'):Oper.wp P o a w K' Q:=by
 unfold Oper.wp;rw[hx];refine Calls.mono h ?_
 rintro e w' ⟨v,rfl,hk⟩;subst hd;exact hk
end
theorem faddQ (q r:Rat) (A:Option Addr) (n c:Nat) (D:Option Addr) (m d:Nat) (A':Option Addr) (n' c':Nat) (D':Option Addr) (m' d':Nat) (W:World) (X:RR W A n c D m d q) (Y:RR W A' n' c' D' m' d' r) (hs:Rs q 9900000) (hs':Rs r 9900000):Calls Tryz.prog 83 #[.agg #[.bool (ng q.num),.slice A n c,.slice D m d],.agg #[.bool (ng r.num),.slice A' n' c',.slice D' m' d']] W (RetR (q+r) W):=by
 have l:=X.lens hs;have l':=Y.lens hs';have:=Fadd_any (ng q.num) A n c _ D m d _ (ng r.num) A' n' c' _ D' m' d' _ W X.n X.d Y.n Y.d l.1 l.2 l'.1 l'.2
 rwa [rv_z,rv_z] at this
theorem fmulQ (q r:Rat) (A:Option Addr) (n c:Nat) (D:Option Addr) (m d:Nat) (A':Option Addr) (n' c':Nat) (D':Option Addr) (m' d':Nat) (W:World) (X:RR W A n c D m d q) (Y:RR W A' n' c' D' m' d' r) (hs:Rs q 9900000) (hs':Rs r 9900000):Calls Tryz.prog 15 #[.agg #[.bool (ng q.num),.slice A n c,.slice D m d],.agg #[.bool (ng r.num),.slice A' n' c',.slice D' m' d']] W (RetR (q*r) W):=by
 have l:=X.lens hs;have l':=Y.lens hs';have:=Fmul_any (ng q.num) A n c _ D m d _ (ng r.num) A' n' c' _ D' m' d' _ W X.n X.d Y.n Y.d l.1 l.2 l'.1 l'.2
 rwa [rv_z,rv_z] at this
section
variable {P:Program} {ops:Array Oper} {Q:Exit→Act→World→Prop} {S:World→Prop}
theorem Wk.two {i j:Nat} {oi oj:Oper} {L:Array Bool} {a:Act} {w:World} (hi:ops[i]?=some oi) (hj:ops[j]?=some oj) (hr:(((Region.ready .any ops L==[i,j])&&oi.guard.isNone)&&oj.guard.isNone)=true)
  (h1:∀ K':Act→World→Prop,Shut (∀ a w,S w→Wk P ops Q S (L.setIfInBounds i true) a w→K' a w)→Oper.wp P oi a w K' Q)
  (h2:∀ K':Act→World→Prop,Shut (∀ a w,S w→Wk P ops Q S (L.setIfInBounds j true) a w→K' a w)→Oper.wp P oj a w K' Q):Wk P ops Q S L a w:=by
 simp only[Bool.and_eq_true,beq_iff_eq] at hr;obtain⟨⟨r,gi⟩,gj⟩:=hr;refine Wk.all ⟨i,by rw[r];simp⟩ fun k hk=>?_
 rw[r] at hk
 rcases List.mem_cons.1 hk with rfl | hk
 ·exact wpOp_step hi (fun K' hK=>by rw[if_pos (wanted_none gi)];exact h1 K' (fun a w hS hW=>hK a w ⟨hS,hW⟩))
 ·have:=List.mem_singleton.1 hk
  subst this;exact wpOp_step hj (fun K' hK=>by rw[if_pos (wanted_none gj)];exact h2 K' (fun a w hS hW=>hK a w ⟨hS,hW⟩))
end
theorem rwI.rr {w W:World} {bs:List GBk} {rs:List GRd} {y:Gw} {q:Rat} (h:rwI rs y) (S:St w W bs rs) (hv:rwV y=qV q):y.b=ng q.num∧RR W y.x.A y.x.n y.x.c y.y.A y.y.n y.y.c q:=rw_rr hv (S.rd _ h.1) (S.rd _ h.2)
end Go.Proofs.YthlinhconnmbcaaGreat
namespace Go.Proofs.YthlinhconnmbcaaGreat
open Go.RowKit RQ
theorem getD_mapmul (l:List Rat) (s:Rat) (i:Nat):(l.map (fun x=>s*x)).getD i 0=s*l.getD i 0:=by
 rw[List.getD_eq_getElem?_getD,List.getD_eq_getElem?_getD,List.getElem?_map]
 cases l[i]? with
 | none=>exact (Rat.mul_zero s).symm
 | some x=>rfl
theorem dq_scale (l l':List Rat) (s t:Rat):∀ i,dq (l.map (fun x=>s*x)) (l'.map (fun x=>t*x)) i=s*t*dq l l' i
 | 0=>(Rat.mul_zero _).symm
 | i+1=>by
  show dq _ _ i+_*_=s*t*(dq l l' i+_*_)
  rw[dq_scale l l' s t i,getD_mapmul,getD_mapmul]
  grind
theorem div_scale {s t x:Rat} (hs:s≠0) (ht:t≠0):s*t*x / (s*t)=x:=by
 have h:s*t≠0:=fun h=>(Rat.mul_eq_zero.1 h).elim hs ht
 rw[Rat.div_def,Rat.mul_comm (s*t) x,Rat.mul_assoc,Rat.mul_inv_cancel _ h,Rat.mul_one]
def sca (L:List Rt) (n:Nat):Rat:=wsc (L.map (·.q)) n
theorem wbn_mono {p:Nat}:∀ {i j:Nat},i≤j→wbn p i≤wbn p j:=by
 intro i j h
 induction j with
 | zero=>
  obtain rfl:i=0:=by omega
  exact Nat.le_refl _
 | succ j ih=>
  by_cases e:i=j+1
  ·subst e;exact Nat.le_refl _
  ·have:=ih (by omega)
   show _≤wbn p j+(wbn p j+p)
   omega
theorem wbn6:wbn 8000 6=504064:=by decide
theorem sca_ne (L:List Rt) (n:Nat):sca L n≠0:=wsc_ne _ _
theorem sca_rs {L:List Rt} {n:Nat} (ll:ltL L) (hn:n≤6):Rs (sca L n) 504064:=by
 refine (wsc_rs (p:=8000) (fun x hx=>?_) (by decide) n).mono ?_
 ·obtain⟨r,hr,rfl⟩:=List.mem_map.1 hx;exact (ll r hr).2
 ·rw[←wbn6];exact wbn_mono hn
theorem whole_l (L:List Rt) (A:Option Addr) (n c:Nat) (w:World) (h:Sr w A n c L) (ll:ltL L) (hn:n≤6):Calls Tryz.prog 36 #[.slice A n c] w (RetLi L n (sca L n) w):=
 whole_any L A n c w h (fun r hr=>(ll r hr).1) (fun i hi=>(sca_rs ll (by omega)).mono (by decide)) (fun i hi r hr=>((sca_rs (n:=i) ll (by omega)).mul (ll r hr).2).mono (by decide)) (by omega)
theorem dot_l (L L' K K':List Rt) (n c c':Nat) (A A' A3 A4 D3 D4:Option Addr) (n3 c3 m3 d3 n4 c4 m4 d4:Nat) (w:World) (hK:Sr w A n c K) (hK':Sr w A' n c' K') (kc:∀ x∈K,x.can) (kc':∀ x∈K',x.can) (eK:K.map (·.q)=L.map (fun r=>sca L n*r.q)) (eK':K'.map (·.q)=L'.map (fun r=>sca L' n*r.q)) (X1:RR w A3 n3 c3 D3 m3 d3 (sca L n)) (X2:RR w A4 n4 c4 D4 m4 d4 (sca L' n)) (ll:ltL L) (ll':ltL L') (hn:n≤6):Calls Tryz.prog 38 #[.agg #[.slice A n c,.bool (ng (sca L n).num),.slice A3 n3 c3,.slice D3 m3 d3],.agg #[.slice A' n c',.bool (ng (sca L' n).num),.slice A4 n4 c4,.slice D4 m4 d4]] w (RetR (dq (L.map (·.q)) (L'.map (·.q)) n) w):=by
 have s1:=sca_rs ll hn;have s2:=sca_rs ll' hn;have e1:K.map (·.q)=(L.map (·.q)).map (fun x=>sca L n*x):=by rw[eK,List.map_map];rfl
 have e2:K'.map (·.q)=(L'.map (·.q)).map (fun x=>sca L' n*x):=by rw[eK',List.map_map];rfl
 have b1:∀ x∈K.map (·.q),Rs x 512064:=fun x hx=>by
  rw[eK] at hx;obtain⟨r,hr,rfl⟩:=List.mem_map.1 hx;exact s1.mul (ll r hr).2
 have b2:∀ x∈K'.map (·.q),Rs x 512064:=fun x hx=>by
  rw[eK'] at hx;obtain⟨r,hr,rfl⟩:=List.mem_map.1 hx;exact s2.mul (ll' r hr).2
 have:=mdot_any K K' A n c A' c' (sca L n) (sca L' n) A3 n3 c3 D3 m3 d3 A4 n4 c4 D4 m4 d4 w hK hK' X1 X2 (fun r hr=>can_k (kc r hr) (hK.rd r hr)) (fun r hr=>can_k (kc' r hr) (hK'.rd r hr)) (fun i hi=>(dq_rs b1 b2 (by decide) i).mono (by omega)) (fun r hr s hs=>((b1 _ (List.mem_map_of_mem hr)).mul (b2 _ (List.mem_map_of_mem hs))).mono (by decide)) (s1.mono (by decide)) (s2.mono (by decide)) ((s1.mul s2).mono (by decide)) (by omega)
 rw[e1,e2,dq_scale,div_scale (sca_ne _ _) (sca_ne _ _)] at this;exact this
end Go.Proofs.YthlinhconnmbcaaGreat
namespace Go.Proofs.YthlinhconnmbcaaGreat
open Go.RowKit RQ
theorem mapply_yes (M:List Ro) (A:Option Addr) (n c:Nat) (L:List Rt) (A':Option Addr) (n' c':Nat) (w:World) (h:Mr w A n c M) (hm:∀ r∈M,r.n≤9223372036854775807) (hn:n≤9223372036854775807) (h':Sr w A' n' c' L) (lm:ltM M) (ll:ltL L) (hwf:wfM M=true) (hc:n'=colM M) (h6:n'≤6):Calls Tryz.prog 20 #[.slice A n c,.slice A' n' c'] w (RetLE (apQ M L) w):=by
 have hF:=fun W h'=>wf_any M A n c W h' hm hn
 rw[hwf] at hF;have hC:=fun W h'=>cols_any M A n c W h'
 rw[←hc] at hC;replace hC:=Lib.hid hC;replace hF:=Lib.hid hF;have hlen:=h.len;have hb:=Lib.hid (show n≤96 by rw[←hlen];exact wf_len hwf)
 have hrn:∀ r∈M,r.n=n':=fun r hr=>(wf_row hwf hr).2.2.trans hc.symm
 have hW:Hid (∀ W,Sr W A' n' c' L→Calls Tryz.prog 36 #[.slice A' n' c'] W (RetLi L n' (sca L n') W)):=Lib.hid fun W h=>whole_l L A' n' c' W h ll h6
 have hWr:Hid (∀ r∈M,∀ W,Sr W r.A r.n r.c r.L→Calls Tryz.prog 36 #[.slice r.A r.n r.c] W (RetLi r.L n' (sca r.L n') W)):=Lib.hid fun r hr W h=>by
  rw[hrn r hr] at h ⊢;exact whole_l r.L r.A n' r.c W h (lm r hr) h6
 have hD:Hid (∀ r∈M,∀ K K' c1 c2 A1 A2 A3 n3 c3 D3 m3 d3 A4 n4 c4 D4 m4 d4 W,Sr W A1 n' c1 K→Sr W A2 n' c2 K'→(∀ x∈K,x.can)→(∀ x∈K',x.can)→K.map (·.q)=r.L.map (fun x=>sca r.L n'*x.q)→K'.map (·.q)=L.map (fun x=>sca L n'*x.q)→RR W A3 n3 c3 D3 m3 d3 (sca r.L n')→RR W A4 n4 c4 D4 m4 d4 (sca L n')→Calls Tryz.prog 38 #[.agg #[.slice A1 n' c1,.bool (ng (sca r.L n').num),.slice A3 n3 c3,.slice D3 m3 d3],.agg #[.slice A2 n' c2,.bool (ng (sca L n').num),.slice A4 n4 c4,.slice D4 m4 d4]] W (RetR (dq (r.L.map (·.q)) (L.map (·.q)) n') W)):=Lib.hid fun r hr K K' c1 c2 A1 A2 A3 n3 c3 D3 m3 d3 A4 n4 c4 D4 m4 d4 W k1 k2 k3 k4 k5 k6 k7 k8=>dot_l r.L L K K' n' c1 c2 A1 A2 A3 A4 D3 D4 n3 c3 m3 d3 n4 c4 m4 d4 W k1 k2 k3 k4 k5 k6 k7 k8 (lm r hr) ll h6
 have hR:Hid (∀ r∈M,Rs (dq (r.L.map (·.q)) (L.map (·.q)) n') 9000000):=Lib.hid fun r hr=>
  (dq_rs (p:=8000) (fun x hx=>by obtain⟨z,hz,rfl⟩:=List.mem_map.1 hx;exact (lm r hr z hz).2) (fun x hx=>by obtain⟨z,hz,rfl⟩:=List.mem_map.1 hx;exact (ll z hz).2) (by decide) _).mono (by omega)
 unfold apQ;rw[←hc];obtain⟨sl,hsl⟩:∃ z,z=sca L n':=⟨_,rfl⟩;rw[←hsl] at hD hW;generalize hfd:(fun r:Ro=>dq (r.L.map (·.q)) (L.map (·.q)) n')=f
 have hf:∀ r,dq (r.L.map (·.q)) (L.map (·.q)) n'=f r:=fun r=>by rw[←hfd]
 simp only[hf] at hD hR;replace h:=Lib.hid h;replace h':=Lib.hid h';replace hlen:=Lib.hid hlen;clear hm hn lm ll hwf hf hfd hsl hc h6 hrn;go_enter Tryz.func20,Tryz.ntmps20
 go_wp2_with fail
 refine (hF.out _ h.out).mono ?_
 rintro e w1 ⟨rfl,bb⟩;replace bb:=Lib.hid bb
 go_wp2_with fail
 refine (hC.out _ (h.out.bel bb.out)).mono ?_
 rintro e w2 ⟨rfl,bb2⟩;replace bb2:=Lib.hid (bb.out.trans (bb2.mono bb.out.size));clear bb hF hC
 go_wp2_with fail
 refine (hW.out _ (h'.out.bel bb2.out)).mono ?_
 rintro e w3 ⟨A3,n3,c3,D3,m3,d3,A6,c6,KR,rfl,Q3,hS6,hc6,hq6,bb3⟩;replace bb3:=Lib.hid (bb2.out.trans (bb3.mono bb2.out.size));have h3:=Lib.hid (h.out.bel bb3.out);clear bb2 hW h h';have hmk:=make_rat n (by have:=hb.out;omega)
 have T:=Lib.hid ((((St.new w3).allocAt w3.heap.size #[.slice A6 n' c6,.bool (ng (sl).num),.slice A3 n3 c3,.slice D3 m3 d3] 67 (noL4 _ _ _ _ _ _ _ _ _ _) rfl).allocAt (w3.heap.size+1) (csE (List.replicate n Zt)).toArray 33 (NoLl.csE _).arr (by simp)).read (show Rd _ none 0 0 [] from Rd.nil_ _ _ _))
 replace Q3:=Lib.hid Q3;replace hS6:=Lib.hid hS6;replace hc6:=Lib.hid hc6;replace hq6:=Lib.hid hq6;go_wp2;replace hmk:=Lib.hid hmk;clear hmk
 go_loopw [27] (fun iv wr=>∃ (i:Nat) (K:List Rt) (rs:List Rdg),i≤n∧iv=.int .i64 i∧K.length=n∧St w3 wr [(w3.heap.size+1,(csE K).toArray,33),(w3.heap.size,#[.slice A6 n' c6,.bool (ng (sl).num),.slice A3 n3 c3,.slice D3 m3 d3],67)] rs∧(∀ x∈K,x.can∧x.rdIn rs)∧(∀ k,k<i→(K[k]?).map (·.q)=(M[k]?).map f)) (fun iv _=>n-(intOf iv).toNat)
 case atStart=>exact⟨0,List.replicate n Zt,_,Nat.zero_le _,rfl,List.length_replicate,T.out,fun x hx=>(by obtain rfl:=(List.mem_replicate.1 hx).2;exact⟨Zt_can,List.mem_cons_self,List.mem_cons_self⟩),fun k hk=>absurd hk (Nat.not_lt_zero _)⟩
 case round=>
  clear T;obtain⟨i,K,rs,hin,rfl,hKl,S,hcn,hq⟩:=hrel
  by_cases hlt:i<n
  ·obtain⟨b,o,r,rfl,hr,hrm,e0⟩:=(h3.out.bel S.bel).get hlt
   have R1:=Lib.hid (h3.out.rd r hrm);have hWx:=Lib.hid (hWr.out r hrm);have hDx:=Lib.hid (hD.out r hrm);have hRx:=Lib.hid (hR.out r hrm);have hih:=Lib.hid hlt;have g1:(i:Int)<(n:Int):=by omega
   have g2:(0:Int)≤(i:Int):=by omega
   have hKj:K[i]?=some K[i]:=List.getElem?_eq_getElem (by omega)
   obtain⟨kj,hkj⟩:∃ z,z=K[i]:=⟨_,rfl⟩;rw[←hkj] at hKj;obtain⟨q,hqf⟩:∃ z,z=f r:=⟨_,rfl⟩;rw[←hqf] at hDx hRx;have hqn:=Lib.hid (show some q=(M[i]?).map f by rw[hr,hqf];rfl)
   replace S:=Lib.hid S;replace hcn:=Lib.hid hcn;replace hq:=Lib.hid hq;replace hKj:=Lib.hid hKj;replace hKl:=Lib.hid hKl;clear hlt hin hr hrm hkj hqf;go_upto_region 8 with fail
   refine RW.begin (Z:=[]) (S:=(fun W=>Cb W (w3.heap.size) #[.slice A6 n' c6,.bool (ng sl.num),.slice A3 n3 c3,.slice D3 m3 d3] 67)) (by kernel_rfl) ?_ S.out ?_
   ·exact⟨by kernel_rfl,zis_nil,by decide,by decide,nol_nil,(fun _ _ h=>h.kb 1 rfl)⟩
   intro hzk;clear S;refine RW.t (i:=0) (v:=.slice (some ⟨w3.heap.size+1,0,none⟩) n n) (some 32) at0 (hy:=fun _ _=>by kernel_rfl) (h:=?_)
   refine RW.t (i:=1) (v:=.int .i64 i) (some 33) at1 (hy:=fun _ _=>by kernel_rfl) (h:=?_)
   refine RW.t (i:=2) (v:=.slice r.A r.n r.c) (some 34) at2 (hy:=fun _ _=>by kernel_rfl) (h:=?_)
   refine RW.t (i:=4) (v:=.agg #[.slice A6 n' c6,.bool (ng sl.num),.slice A3 n3 c3,.slice D3 m3 d3]) (some 36) at4 (hy:=fun W hS=>by (have k0:=Cb.cell (i:=0) hS rfl;have k1:=Cb.cell (i:=1) hS rfl;have k2:=Cb.cell (i:=2) hS rfl;have k3:=Cb.cell (i:=3) hS rfl;clear hS;go_simp)) (h:=?_)
   refine RW.tail hzk.out (by kernel_rfl) ?_
   intro gs w21 hgs hS S;obtain rfl:=len0 hgs;clear hS hgs hzk;simp only[mark,fill,Act.put,sZ0,sZ1,sZ2];replace S:=Lib.hid S;refine Wk.o (i:=3) at3 (by kernel_rfl) fun K' hK=>?_
   refine oper_call (f:=36) (args:=#[.slice r.A r.n r.c]) rfl (by kernel_rfl) ((hWx.out _ (R1.out.bel S.out.bel)).mono ?_)
   rintro e w20 ⟨A20,n20,c20,D20,m20,d20,A21,c21,K1,rfl,Q20,hS1,hc1,hq1,bb1⟩;have S1:=S.out.call bb1;clear S bb1;refine⟨_,rfl,hK.out _ _ (S1.cb 1 rfl) ?_⟩
   clear hK K';replace S1:=Lib.hid S1;replace hS1:=Lib.hid hS1;replace hc1:=Lib.hid hc1;replace hq1:=Lib.hid hq1;replace Q20:=Lib.hid Q20
   try simp only[Act.put,sZ0,sZ1,sZ2]
   refine Wk.o (i:=5) at5 (by kernel_rfl) fun K' hK=>?_
   refine oper_call (f:=38) (args:=#[.agg #[.slice A21 n' c21,.bool (ng (sca r.L n').num),.slice A20 n20 c20,.slice D20 m20 d20],.agg #[.slice A6 n' c6,.bool (ng (sl).num),.slice A3 n3 c3,.slice D3 m3 d3]]) rfl (by kernel_rfl) ((hDx.out K1 KR c21 c6 A21 A6 A20 n20 c20 D20 m20 d20 A3 n3 c3 D3 m3 d3 _ hS1.out (hS6.out.bel S1.out.bel) hc1.out hc6.out hq1.out hq6.out Q20.out (Q3.out.below S1.out.bel)).mono ?_)
   rintro e w21 ⟨A22,n22,c22,D22,m22,d22,rfl,Q22,bb2⟩;have S2:=((S1.out.call bb2).read Q22.n).read Q22.d;clear S1 bb2 Q22 hS1 hc1 hq1 Q20;refine⟨_,rfl,hK.out _ _ (S2.cb 1 rfl) ?_⟩
   clear hK K';replace S2:=Lib.hid S2
   try simp only[Act.put,sZ0,sZ1,sZ2]
   refine Wk.o (i:=6) at6 (by kernel_rfl) fun K' hK=>?_
   go_simp
   refine hK.out _ _ (S2.out.cb 1 rfl) ?_
   clear hK K'
   try simp only[Act.put,sZ0,sZ1,sZ2]
   refine Wk.o (i:=7) at7 (by kernel_rfl) fun K' hK=>?_
   obtain⟨⟨q0,q1,q2⟩,qf⟩:=St_lcl S2.out hKj.out
   go_simp
   have S:=St_lset S2.out i (Rt.of A22 n22 c22 D22 m22 d22 q);refine hK.out _ _ (S.cb 1 rfl) ?_
   clear hK K' S2 q0 q1 q2 qf;replace S:=Lib.hid S
   try simp only[Act.put,sZ0,sZ1,sZ2]
   refine Wk.done (by kernel_rfl) ?_
   have hlt:=hih.out;have hbb:=hb.out;go_wp2
   go_roundw
   case rel=>
    refine⟨i+1,K.set i (Rt.of A22 n22 c22 D22 m22 d22 q),_,by omega,by go_num,by rw[List.length_set];exact hKl.out,S.out,fun x hx=>?_,fun k hk=>?_⟩
    ·rcases List.mem_or_eq_of_mem_set hx with hx | rfl
     ·exact⟨(hcn.out x hx).1,rd_cons_ (rd_cons_ (hcn.out x hx).2)⟩
     ·exact⟨Rt.of_can _ _ _ _ _ _ hRx.out,List.mem_cons_of_mem _ List.mem_cons_self,List.mem_cons_self⟩
    ·by_cases e:i=k
     ·subst e
      rw[List.getElem?_set_self (by rw[hKl.out];exact hlt)]
      exact hqn.out
     ·rw[List.getElem?_set_ne e];exact hq.out k (by omega)
   case measure=>simp[intOf];omega
  ·obtain rfl:i=n:=by omega
   have hfin:K.map (·.q)=M.map f:=by
    apply List.ext_getElem?
    intro k
    rcases Nat.lt_or_ge k i with hk | hk
    ·rw[List.getElem?_map,List.getElem?_map];exact hq k hk
    ·rw[List.getElem?_eq_none (by rw[List.length_map];omega),List.getElem?_eq_none (by rw[List.length_map,hlen.out];omega)]
   have hsr:=St_lsr S i (by omega) (fun x hx=>⟨S.rd _ (hcn x hx).2.1,S.rd _ (hcn x hx).2.2⟩)
   rw[hKl] at hsr;have hbl:=Lib.hid (bb3.out.trans (S.bel.mono bb3.out.size));replace hsr:=Lib.hid hsr;replace hfin:=Lib.hid hfin;replace hcn:=Lib.hid hcn;clear S hq hin;go_wp2
   go_ret2
   exact⟨_,_,_,K,rfl,hsr.out,fun x hx=>(hcn.out x hx).1,hfin.out,hbl.out⟩
end Go.Proofs.YthlinhconnmbcaaGreat
namespace Go.Proofs.YthlinhconnmbcaaGreat
open Go.RowKit RQ
def colL (M:List Ro) (j:Nat):List Rt:=M.map fun r=>r.L.getD j Zt
theorem colL_q (M:List Ro) (j:Nat):(colL M j).map (·.q)=colQ M j:=by
 unfold colL colQ;rw[List.map_map];refine List.map_congr_left fun r _=>?_
 show (r.L.getD j Zt).q=_
 rw[List.getD_eq_getElem?_getD,List.getD_eq_getElem?_getD,List.getElem?_map]
 cases r.L[j]? with
 | none=>rfl
 | some x=>rfl
theorem Zt_lt:Rk Zt.b Zt.n Zt.x Zt.m Zt.y Zt.q∧Rs Zt.q 8000:=⟨⟨rfl,by decide,by decide⟩,(Rs.int (z:=0) (p:=1) (by decide) (Nat.le_refl 1)).mono (by omega)⟩
theorem colL_lt {M:List Ro} (h:ltM M) (j:Nat):ltL (colL M j):=fun x hx=>by
 obtain⟨r,hr,rfl⟩:=List.mem_map.1 hx;rw[List.getD_eq_getElem?_getD]
 cases hh:r.L[j]? with
 | none=>exact Zt_lt
 | some y=>exact h r hr y (List.mem_of_getElem? hh)
theorem column_any (M:List Ro) (A:Option Addr) (n c j:Nat) (w:World) (h:Mr w A n c M) (hj:∀ r∈M,j<r.n) (hn:n≤1000) (hj2:j≤1000):Calls Tryz.prog 37 #[.slice A n c,.int .i64 j] w fun e w'=>∃ A',e=.returned (.slice A' n n)∧Sr w' A' n n (colL M j)∧Below w.heap.size w w':=by
 have hb:=Lib.hid hn;have hmk:=make_rat n (by omega)
 have hlen:=Lib.hid h.len;have h0:=h;replace h:=Lib.hid h;replace hj:=Lib.hid hj;replace hj2:=Lib.hid hj2;have T:=Lib.hid ((St.new w).allocAt w.heap.size (csE (List.replicate n Zt)).toArray 33 (NoLl.csE _).arr rfl);clear hn h0;go_enter Tryz.func37,Tryz.ntmps37;go_wp2;replace hmk:=Lib.hid hmk;clear hmk
 go_loopw [13] (fun iv wr=>∃ (i:Nat) (K:List Rt),i≤n∧iv=.int .i64 i∧K.length=n∧St w wr [(w.heap.size,(csE K).toArray,33)] []∧(∀ k,k<i→K[k]?=(colL M j)[k]?)) (fun iv _=>n-(intOf iv).toNat)
 case atStart=>exact⟨0,List.replicate n Zt,Nat.zero_le _,rfl,List.length_replicate,T.out,fun k hk=>absurd hk (Nat.not_lt_zero _)⟩
 case round=>
  clear T;obtain⟨i,K,hin,rfl,hKl,S,hq⟩:=hrel
  by_cases hlt:i<n
  ·obtain⟨b,o,r,rfl,hr,hrm,e0⟩:=(h.out.bel S.bel).get hlt
   have hjr:=hj.out r hrm;obtain⟨b',o',x,hA,hx,hxm,e1,e2,e3⟩:=((h.out.bel S.bel).rd r hrm).get hjr;rw[hA] at e0;have hKj:K[i]?=some K[i]:=List.getElem?_eq_getElem (by omega)
   obtain⟨kj,hkj⟩:∃ z,z=K[i]:=⟨_,rfl⟩;rw[←hkj] at hKj;have hqn:=Lib.hid (show some x=(colL M j)[i]? by unfold colL;rw[List.getElem?_map,hr];show _=some (r.L.getD j Zt);rw[List.getD_eq_getElem?_getD,hx];rfl)
   have hih:=Lib.hid hlt;have g1:(i:Int)<(n:Int):=by omega
   have g2:(0:Int)≤(i:Int):=by omega
   have g3:(j:Int)<(r.n:Int):=by omega
   have g4:(0:Int)≤(j:Int):=by omega
   obtain⟨⟨q0,q1,q2⟩,qf⟩:=St_lcl S hKj;have S2:=Lib.hid (St_lset S i x);have hgl:=S.lt 0 rfl;replace hq:=Lib.hid hq;replace hKl:=Lib.hid hKl;clear hlt hin hr hrm hkj hjr hx hxm hA hKj S;have hlt:=hih.out;have hbb:=hb.out;go_wp2
   go_roundw
   case rel=>
    refine⟨i+1,K.set i x,by omega,by go_num,by rw[List.length_set];exact hKl.out,S2.out,fun k hk=>?_⟩
    by_cases e:i=k
    ·subst e
     rw[List.getElem?_set_self (by rw[hKl.out];exact hlt)]
     exact hqn.out
    ·rw[List.getElem?_set_ne e];exact hq.out k (by omega)
   case measure=>simp[intOf];omega
  ·obtain rfl:i=n:=by omega
   have hcl:(colL M j).length=i:=by unfold colL;rw[List.length_map];exact hlen.out
   have hfin:K=colL M j:=by
    apply List.ext_getElem?
    intro k
    rcases Nat.lt_or_ge k i with hk | hk
    ·exact hq k hk
    ·rw[List.getElem?_eq_none (by omega),List.getElem?_eq_none (by omega)]
   subst hfin;have hsr:=St_lsr S i (by omega) (fun x hx=>by
    obtain⟨r,hr,rfl⟩:=List.mem_map.1 hx;rw[List.getD_eq_getElem?_getD]
    cases hh:r.L[j]? with
    | none=>exact Zt_raw _
    | some y=>exact ((h.out.bel S.bel).rd r hr).rd y (List.mem_of_getElem? hh))
   rw[hKl] at hsr;have hbl:=Lib.hid S.bel;replace hsr:=Lib.hid hsr;clear S hq hin hKl hcl;go_wp2;go_ret;exact⟨_,rfl,hsr.out,hbl.out⟩
end Go.Proofs.YthlinhconnmbcaaGreat
