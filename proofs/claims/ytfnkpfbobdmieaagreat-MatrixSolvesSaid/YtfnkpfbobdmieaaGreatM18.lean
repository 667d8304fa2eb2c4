/- Mul of the reference. -/
import Derived.Test.YtfnkpfbobdmieaaGreatM17
set_option maxRecDepth 100000
set_option maxHeartbeats 40000000
set_option linter.unusedVariables false
namespace Go.Proofs.YtfnkpfbobdmieaaGreat
open Go.RowKit RQ
section
variable {P:Program} {w W:World} {bs:List Bk} {rs:List Rdg} {e size:Nat} {v:Value} {n:Nat} {xs:List Value}
theorem Apd.op {o:Oper} {a:Act} {K:Act→World→Prop} {Q:Exit→Act→World→Prop} (s x:Operand) (t:TypeId)
  (ho:o.op=.call { callee:=.builtin .append,args:=#[s,x],argTypes:=#[t,t] })
  (i:TypeInfo) (z:Value) (bytes:Nat) (ht:P.underlying t=some (.slice e)) (hi:P.info? e=some i) (hz:i.zero=some z)
  (hsize:i.size=size) (hby:i.bytes=bytes) (hzs:z.cells.size=size) (hzn:NoLl z.cells.toList)
  (hs:a.eval s=v) (h:Apd w W bs rs e size v n xs) (ad:Addr) (m c:Nat) (news:List Value) (hx:a.eval x=.slice (some ad) m c) (hl:news.length=m*size) (hnews:∀ j u,news[j]?=some u→W.cell? (ad.add j)=some u) (h1:∀ u∈news,u.oneCell'=true) (hnn:NoLl news) (hm:0<m)
  (h63:n+m≤maxLen) (hbytes:(n+m)*bytes≤140737488355328)
  (hk:∀ v' W',Apd w W' bs rs e size v' (n+m) (xs++news)→K (a.put o.dst v') W'):o.wp P a W K Q:=by
 obtain⟨v',W',hr,h2⟩:=Apd.run (P:=P) t o.type i z bytes ht hi hz hsize hby hzs hzn h ad m c news hl hnews h1 hnn hm h63 hbytes;unfold Oper.wp execOp;simp only[ho,resolve,invoke,builtin,Sem.run_bind,Sem.run_pure,Result.andThen_ok,List.map_toArray,List.map_cons,List.map_nil,hs,hx,hr];exact hk v' W' h2
end
end Go.Proofs.YtfnkpfbobdmieaaGreat
namespace Go.Proofs.YtfnkpfbobdmieaaGreat
open Go.RowKit RQ
theorem can_k {x:Rt} {W:World} (h:x.can) (hr:x.raw W):Rk x.b x.n x.x x.m x.y x.q:=by
 obtain⟨b,A,n,c,l,D,m,d,y,q⟩:=x;obtain⟨e1,e2,e3,e4⟩:=h
 dsimp only at e1 e2 e3 e4
 subst e1;subst e2;subst e3;have:=RR.lens (p:=9000000) ⟨hr.1,hr.2⟩ e4;exact⟨rv_z q,this.1,this.2⟩
end Go.Proofs.YtfnkpfbobdmieaaGreat
namespace Go.Proofs.YtfnkpfbobdmieaaGreat
open Go.RowKit RQ
theorem res_mquot (W:World) (tmps:Array Value) (g t:Nat) {v0 v1 v2:Value} (ht:tmps.getD 4 undef=.pointer (some ⟨g,0,none⟩)) (h:Cb W g #[v0,v1,v2] t) :
  (results Tryz.f52 tmps).run Tryz.prog W=.ok (.agg #[v0,v1,v2]) W:=by
 have c0:W.cell? ⟨g,0,none⟩=some v0:=h.cell rfl;have c1:W.cell? ⟨g,1,none⟩=some v1:=h.cell rfl;have c2:W.cell? ⟨g,2,none⟩=some v2:=h.cell rfl;have ht':tmps[4]?.getD undef=.pointer (some ⟨g,0,none⟩):=by rw[←ht];simp[Array.getD_eq_getD_getElem?]
 simp[results,Tryz.results52,go_sem,ht',c0,c1,c2]
theorem quot_any (b1:Bool) (A1:Option Addr) (n1 c1:Nat) (x1:List Nat) (D1:Option Addr) (m1 d1:Nat) (y1:List Nat) (q1:Rat) (b2:Bool) (A2:Option Addr) (n2 c2:Nat) (x2:List Nat) (D2:Option Addr) (m2 d2:Nat) (y2:List Nat) (q2:Rat) (w:World) (X1:Rw w b1 A1 n1 c1 x1 D1 m1 d1 y1 q1) (X2:Rw w b2 A2 n2 c2 x2 D2 m2 d2 y2 q2):Calls Tryz.prog 52 #[.agg #[.bool b1,.slice A1 n1 c1,.slice D1 m1 d1],.agg #[.bool b2,.slice A2 n2 c2,.slice D2 m2 d2]] w (RetR (q1 / q2) w):=by
 have hD:=Lib.hid (fun W h1 h2=>divW b1 A1 n1 c1 x1 D1 m1 d1 y1 q1 b2 A2 n2 c2 x2 D2 m2 d2 y2 q2 W h1 h2)
 generalize q1 / q2=q at *;generalize dvE q2=er at *;have k1:=Lib.hid X1.k;have k2:=Lib.hid X2.k;have S:=((((((((St.new w).read X1.rn).read X1.rd).read X2.rn).read X2.rd).allocAt (w.heap.size) #[.bool b1,.slice A1 n1 c1,.slice D1 m1 d1] 45 (noL3 _ _ _ _ _ _ _) (by simp)).allocAt (w.heap.size+1) #[.bool b2,.slice A2 n2 c2,.slice D2 m2 d2] 45 (noL3 _ _ _ _ _ _ _) (by simp)).allocAt (w.heap.size+1+1) #[.bool false,.slice none 0 0,.slice none 0 0] 45 (noL3 _ _ _ _ _ _ _) (by simp))
 replace S:=Lib.hid S;clear X1 X2;go_enter Tryz.func52,Tryz.ntmps52
 go_wp2_with fail
 refine (hD.out _ (Rw.of (S.out.r 3 rfl) (S.out.r 2 rfl) k1.out) (Rw.of (S.out.r 1 rfl) (S.out.r 0 rfl) k2.out)).mono ?_
 rintro e w1 ⟨A9,n9,c9,D9,m9,d9,rfl,Q9,bb⟩;have T:=(((S.out.call bb).read Q9.n).read Q9.d);clear bb S;have S:=T;clear T;obtain⟨c_r0,c_r1,c_r2,f_r0,f_r1,f_r2⟩:=S.cf3 0 rfl;obtain⟨c_y0,c_y1,c_y2,f_y0,f_y1,f_y2⟩:=S.cf3 1 rfl;obtain⟨c_x0,c_x1,c_x2,f_x0,f_x1,f_x2⟩:=S.cf3 2 rfl;have hz:w.heap.size+1+1<w1.heap.size:=S.lt 0 rfl;replace S:=Lib.hid S;clear Q9 hD;have S:St w _ [(w1.heap.size,#[.bool (ng q.num),.slice A9 n9 c9,.slice D9 m9 d9],45),(w.heap.size+1+1,#[.bool (ng q.num),.slice A9 n9 c9,.slice D9 m9 d9],45),(w.heap.size+1,#[.bool b2,.slice A2 n2 c2,.slice D2 m2 d2],45),(w.heap.size,#[.bool b1,.slice A1 n1 c1,.slice D1 m1 d1],45)] [(D9,m9,d9,dn q),(A9,n9,c9,limbs q.num.natAbs),(D2,m2,d2,y2),(A2,n2,c2,x2),(D1,m1,d1,y1),(A1,n1,c1,x1)]:=((((S.out.set 0 0 (.bool (ng q.num)) rfl (by nofun)).set 0 1 (.slice A9 n9 c9) rfl (by nofun)).set 0 2 (.slice D9 m9 d9) rfl (by nofun)).allocAt (w1.heap.size) #[.bool (ng q.num),.slice A9 n9 c9,.slice D9 m9 d9] 45 (noL3 _ _ _ _ _ _ _) (by simp))
 replace S:=Lib.hid S;go_wp2;refine bodyPost_ret (res_mquot _ _ (w.heap.size+1+1) 45 rfl (S.out.bk _ (List.mem_of_getElem? (i:=1) rfl)).1) rfl ?_
 exact⟨_,_,_,_,_,_,rfl,⟨S.out.r 1 rfl,S.out.r 0 rfl⟩,S.out.bel⟩
theorem res_mden (W:World) (tmps:Array Value) (g t:Nat) {v0 v1 v2:Value} (ht:tmps.getD 2 undef=.pointer (some ⟨g,0,none⟩)) (h:Cb W g #[v0,v1,v2] t) :
  (results Tryz.f70 tmps).run Tryz.prog W=.ok (.agg #[v0,v1,v2]) W:=by
 have c0:W.cell? ⟨g,0,none⟩=some v0:=h.cell rfl;have c1:W.cell? ⟨g,1,none⟩=some v1:=h.cell rfl;have c2:W.cell? ⟨g,2,none⟩=some v2:=h.cell rfl;have ht':tmps[2]?.getD undef=.pointer (some ⟨g,0,none⟩):=by rw[←ht];simp[Array.getD_eq_getD_getElem?]
 simp[results,Tryz.results70,go_sem,ht',c0,c1,c2]
theorem nat_abs (n:Nat):((n:Int):Rat).num.natAbs=n:=rfl
theorem nat_dn (n:Nat):dn ((n:Int):Rat)=[]:=rfl
theorem nat_ng' (n:Nat):ng ((n:Int):Rat).num=false:=by show decide ((n:Int)<0)=false;exact decide_eq_false (by omega)
theorem mden_one (q:Rat) (A1:Option Addr) (n1 c1:Nat) (D1:Option Addr) (m1 d1:Nat) (w:World) (X:RR w A1 n1 c1 D1 m1 d1 q) (h0:m1=0):Calls Tryz.prog 70 #[.agg #[.bool (ng q.num),.slice A1 n1 c1,.slice D1 m1 d1]] w (RetR ((q.den:Int):Rat) w):=by
 have hd:=dn_len0 X.d.len;have S:=(((((St.new w).read X.n).read X.d).allocAt (w.heap.size) #[.bool (ng q.num),.slice A1 n1 c1,.slice D1 m1 d1] 45 (noL3 _ _ _ _ _ _ _) (by simp)).allocAt (w.heap.size+1) #[.bool false,.slice none 0 0,.slice none 0 0] 45 (noL3 _ _ _ _ _ _ _) (by simp))
 replace S:=Lib.hid S;clear X;have hF:=Lib.hid (fun W=>fromIntR_any 1 W (by decide) (by decide))
 rw[hd.1 h0];obtain⟨z,hz1⟩:∃ z:Rat,z=((1:Int):Rat):=⟨_,rfl⟩;rw[←hz1] at hF ⊢;clear hd hz1;have g1:((m1:Int)==0)=true:=by simp[h0]
 clear h0;go_enter Tryz.func70,Tryz.ntmps70
 go_wp2_with fail
 refine (hF.out _).mono ?_
 rintro e w1 ⟨A9,n9,c9,D9,m9,d9,rfl,Q9,bb⟩;have T:=(((S.out.call bb).read Q9.n).read Q9.d);clear bb S;have S:=T;clear T;obtain⟨c_r0,c_r1,c_r2,f_r0,f_r1,f_r2⟩:=S.cf3 0 rfl;obtain⟨c_x0,c_x1,c_x2,f_x0,f_x1,f_x2⟩:=S.cf3 1 rfl;have hz:w.heap.size+1<w1.heap.size:=S.lt 0 rfl;replace S:=Lib.hid S;clear Q9 hF;have S:St w _ [(w.heap.size+1,#[.bool (ng z.num),.slice A9 n9 c9,.slice D9 m9 d9],45),(w.heap.size,#[.bool (ng q.num),.slice A1 n1 c1,.slice D1 m1 d1],45)] [(D9,m9,d9,dn z),(A9,n9,c9,limbs z.num.natAbs),(D1,m1,d1,dn q),(A1,n1,c1,limbs q.num.natAbs)]:=(((S.out.set 0 0 (.bool (ng z.num)) rfl (by nofun)).set 0 1 (.slice A9 n9 c9) rfl (by nofun)).set 0 2 (.slice D9 m9 d9) rfl (by nofun))
 replace S:=Lib.hid S;go_wp2;refine bodyPost_ret (res_mden _ _ (w.heap.size+1) 45 rfl (S.out.bk _ (List.mem_of_getElem? (i:=0) rfl)).1) rfl ?_
 exact⟨_,_,_,_,_,_,rfl,⟨S.out.r 1 rfl,S.out.r 0 rfl⟩,S.out.bel⟩
theorem mden_more (q:Rat) (A1:Option Addr) (n1 c1:Nat) (D1:Option Addr) (m1 d1:Nat) (w:World) (X:RR w A1 n1 c1 D1 m1 d1 q) (h0:¬ m1=0):Calls Tryz.prog 70 #[.agg #[.bool (ng q.num),.slice A1 n1 c1,.slice D1 m1 d1]] w (RetR ((q.den:Int):Rat) w):=by
 have hd:=dn_len0 X.d.len;have S:=(((((St.new w).read X.n).read X.d).allocAt (w.heap.size) #[.bool (ng q.num),.slice A1 n1 c1,.slice D1 m1 d1] 45 (noL3 _ _ _ _ _ _ _) (by simp)).allocAt (w.heap.size+1) #[.bool false,.slice D1 m1 d1,.slice none 0 0] 45 (noL3 _ _ _ _ _ _ _) (by simp))
 replace S:=Lib.hid S;clear X;have hl:=Lib.hid (hd.2 h0);clear hd;have g1:((m1:Int)==0)=false:=by simp[h0]
 clear h0;go_enter Tryz.func70,Tryz.ntmps70;have S:=S.out;replace S:=Lib.hid S;go_wp2;refine bodyPost_ret (res_mden _ _ (w.heap.size+1) 45 rfl (S.out.bk _ (List.mem_of_getElem? (i:=0) rfl)).1) rfl ?_
 refine⟨D1,m1,d1,none,0,0,by rw[nat_ng'],⟨?_,?_⟩,S.out.bel⟩
 ·rw[nat_abs,←hl.out];exact S.out.r 0 rfl
 ·rw[nat_dn];exact Rd.nil_ _ _ _
end Go.Proofs.YtfnkpfbobdmieaaGreat
namespace Go.Proofs.YtfnkpfbobdmieaaGreat
open Go.RowKit RQ
theorem noL4 (A:Option Addr) (n c:Nat) (b:Bool) (A':Option Addr) (n' c':Nat) (D:Option Addr) (m d:Nat):NoL #[.slice A n c,.bool b,.slice A' n' c',.slice D m d]:=by
 intro i z;match i with
 | 0=>simp
 | 1=>simp
 | 2=>simp
 | 3=>simp
 | k+4=>simp
end Go.Proofs.YtfnkpfbobdmieaaGreat
namespace Go.Proofs.YtfnkpfbobdmieaaGreat
open Go.RowKit RQ
def Zt:Rt:=⟨false,none,0,0,[],none,0,0,[],0⟩
theorem Zt_can:Zt.can:=⟨rfl,limbs_zero.symm,rfl,(Rs.int (z:=0) (p:=1) (by decide) (Nat.le_refl 1)).mono (by decide)⟩
theorem Zt_raw (W:World):Zt.raw W:=⟨Rd.nil_ _ _ _,Rd.nil_ _ _ _⟩
theorem csE_zero (n:Nat):madeCells #[.bool false,.slice none 0 0,.slice none 0 0] (n*3)=(csE (List.replicate n Zt)).toArray:=by
 apply Array.ext'
 apply List.ext_getElem?
 intro j
 rcases Nat.lt_or_ge j (n*3) with hj | hj
 ·have h3:=Nat.div_add_mod j 3
  have hm:=Nat.mod_lt j (show 0<3 by decide)
  have hi:j / 3<n:=by omega
  obtain⟨e0,e1,e2⟩:=csE_get (L:=List.replicate n Zt) (i:=j / 3) (r:=Zt) (by rw[List.getElem?_replicate,if_pos hi])
  have hl:(madeCells #[Value.bool false,.slice none 0 0,.slice none 0 0] (n*3)).toList[j]?=some (#[Value.bool false,.slice none 0 0,.slice none 0 0][j%3]!):=by
   unfold madeCells
   simp[hj]
  rw[hl];have hc:j%3=0∨j%3=1∨j%3=2:=by omega
  rcases hc with h | h | h
  ·rw[show j=j / 3*3 by omega]
   rw[e0,show (j / 3*3)%3=0 by omega];rfl
  ·rw[show j=j / 3*3+1 by omega]
   rw[e1,show (j / 3*3+1)%3=1 by omega];rfl
  ·rw[show j=j / 3*3+2 by omega]
   rw[e2,show (j / 3*3+2)%3=2 by omega];rfl
 ·rw[List.getElem?_eq_none (by simpa [size_madeCells] using hj),List.getElem?_eq_none (by rw[List.toList_toArray,csE_len,List.length_replicate];exact hj)]
theorem make_rat (n:Nat) (hn:n≤1000000) (w:World) :
  (Instr.makeSlice 23 (.int .i64 (n:Int)) (.int .i64 (n:Int))).run Tryz.prog w=.ok (.slice (some ⟨w.heap.size,0,none⟩) n n) (w.alloc (.cells (csE (List.replicate n Zt)).toArray 45)):=by
 obtain⟨i0,hi,hzz⟩:=Option.map_eq_some_iff.1 infoR;simp only[Prod.mk.injEq] at hzz;obtain⟨hz0,hz1,hz2⟩:=hzz;have hr:=run_make (P:=Tryz.prog) w 23 45 i0 _ Tryz.underlying23 hi hz0 .i64 .i64 n n (by omega) (Int.le_refl _) (by rw[hz2];omega) (by omega)
 simp only[Int.toNat_natCast,hz1] at hr;rw[hr,←csE_zero]
 rfl
theorem csE_set (L:List Rt) (i:Nat) (r:Rt):(((csE L).toArray.setIfInBounds (i*3) (.bool r.b)).setIfInBounds (i*3+1) (.slice r.A r.n r.c)).setIfInBounds (i*3+2) (.slice r.D r.m r.d)=(csE (L.set i r)).toArray:=by
 apply Array.ext'
 rw[Array.toList_setIfInBounds,Array.toList_setIfInBounds,Array.toList_setIfInBounds,List.toList_toArray,List.toList_toArray]
 induction L generalizing i with
 | nil=>rfl
 | cons s l ih=>
  have e:csE (s::l)=.bool s.b :: .slice s.A s.n s.c :: .slice s.D s.m s.d::csE l:=rfl
  cases i with
  | zero=>rw[e];rfl
  | succ i=>
   have e2:csE ((s::l).set (i+1) r)=.bool s.b :: .slice s.A s.n s.c :: .slice s.D s.m s.d::csE (l.set i r):=rfl;rw[e,e2,←ih i];rw[show (i+1)*3=i*3+1+1+1 by omega,show i*3+1+1+1+1=(i*3+1)+1+1+1 by omega,show i*3+1+1+1+2=(i*3+2)+1+1+1 by omega]
   rfl
theorem NoLl.csE (L:List Rt):NoLl (csE L):=by
 intro v hv z e;obtain⟨r,_,hr⟩:=List.mem_flatMap.1 hv;subst e
 simp[Rt.cs] at hr
theorem csE_arr {L:List Rt} {i:Nat} {r:Rt} (h:L[i]?=some r):(csE L).toArray[i*3]?=some (.bool r.b)∧(csE L).toArray[i*3+1]?=some (.slice r.A r.n r.c)∧(csE L).toArray[i*3+2]?=some (.slice r.D r.m r.d):=by
 obtain⟨e0,e1,e2⟩:=csE_get h;simp only[List.getElem?_toArray]
 exact⟨e0,e1,e2⟩
section
variable {w W:World} {bs:List Bk} {rs:List Rdg} {L:List Rt} {g t:Nat}
theorem St_lcl (h:St w W ((g,(csE L).toArray,t)::bs) rs) {i:Nat} {r:Rt} (hi:L[i]?=some r):(W.cell? ⟨g,i*3,none⟩=some (.bool r.b)∧W.cell? ⟨g,i*3+1,none⟩=some (.slice r.A r.n r.c)∧W.cell? ⟨g,i*3+2,none⟩=some (.slice r.D r.m r.d))∧∀ j,W.frozen? ⟨g,j,none⟩=false:=by
 obtain⟨e0,e1,e2⟩:=csE_arr hi;have hb:=h.cb 0 rfl;exact⟨⟨hb.cell e0,hb.cell e1,hb.cell e2⟩,fun j=>hb.frozen j⟩
theorem St_lset (h:St w W ((g,(csE L).toArray,t)::bs) rs) (i:Nat) (r:Rt):St w (((W.setCell ⟨g,i*3,none⟩ (.bool r.b)).setCell ⟨g,i*3+1,none⟩ (.slice r.A r.n r.c)).setCell ⟨g,i*3+2,none⟩ (.slice r.D r.m r.d)) ((g,(csE (L.set i r)).toArray,t)::bs) rs:=by
 have:=((h.set 0 (i*3) (.bool r.b) rfl (by nofun)).set 0 (i*3+1) (.slice r.A r.n r.c) rfl (by nofun)).set 0 (i*3+2) (.slice r.D r.m r.d) rfl (by nofun)
 rw[←csE_set];exact this
end
end Go.Proofs.YtfnkpfbobdmieaaGreat
namespace GE
def timesQ (l:List Rat) (c:Rat):List Rat:=l.map (· * c)
def plusQ (a b:List Rat):List Rat:=List.zipWith (· + ·) a b
def el (M:List (List Rat)) (i j:Nat):Rat:=(M.getD i []).getD j 0
def sr (j:Nat):List (List Rat)→Nat
 | []=>0
 | r::M=>if (r.getD j 0).num=0 then sr j M+1 else 0
def swp (M:List (List Rat)) (a t:Nat):=(M.set a (M.getD t [])).set t (M.getD a [])
def nrm (M:List (List Rat)) (j t:Nat):=M.set t (timesQ (M.getD t []) (1 / el M t j))
def rw1 (M:List (List Rat)) (j t i:Nat):=if i=t then M else M.set i (plusQ (M.getD i []) (timesQ (M.getD t []) (-(el M i j))))
def rws (M:List (List Rat)) (j t:Nat):Nat→List (List Rat)
 | 0=>M
 | i+1=>rw1 (rws M j t i) j t i
structure GS where
 M:List (List Rat)
 p:List Nat
 f:Rat
def gat (j:Nat) (s:GS):Nat:=s.p.length+sr j (s.M.drop s.p.length)
def gm1 (j:Nat) (s:GS):List (List Rat):=if gat j s=s.p.length then s.M else swp s.M (gat j s) s.p.length
def gf1 (j:Nat) (s:GS):Rat:=if gat j s=s.p.length then s.f else -s.f
def gcol (j:Nat) (s:GS):GS:=
 if gat j s=s.M.length then s else ⟨rws (nrm (gm1 j s) j s.p.length) j s.p.length s.M.length,s.p++[j],gf1 j s*el (gm1 j s) s.p.length j⟩
def grun:Nat→Nat→GS→GS
 | 0,_,s=>s
 | c+1,j,s=>grun c (j+1) (gcol j s)
def rct (k:Nat) (M:List (List Rat)):Prop:=∀ r∈M,r.length=k
/- From here on: what is proved. -/
theorem rct_getD {k:Nat} {M:List (List Rat)} (h:rct k M) {i:Nat} (hi:i<M.length):(M.getD i []).length=k:=by
 rw[List.getD_eq_getElem?_getD,List.getElem?_eq_getElem hi]
 exact h _ (List.getElem_mem hi)
theorem rct_set {k:Nat} {M:List (List Rat)} (h:rct k M) {i:Nat} {r:List Rat} (hr:r.length=k):rct k (M.set i r):=by
 intro x hx
 rcases List.mem_or_eq_of_mem_set hx with hx | rfl
 ·exact h x hx
 ·exact hr
theorem getD_set {M:List (List Rat)} {i a:Nat} {r:List Rat} (hi:i<M.length):(M.set i r).getD a []=if a=i then r else M.getD a []:=by
 rw[List.getD_eq_getElem?_getD,List.getD_eq_getElem?_getD]
 by_cases h:a=i
 ·subst h;rw[List.getElem?_set_self hi,if_pos rfl];rfl
 ·rw[List.getElem?_set_ne (fun e=>h e.symm),if_neg h]
theorem times_getD {l:List Rat} {c:Rat} {j:Nat}:(timesQ l c).getD j 0=l.getD j 0*c:=by
 unfold timesQ;rw[List.getD_eq_getElem?_getD,List.getD_eq_getElem?_getD,List.getElem?_map]
 cases l[j]? with
 | none=>exact (Rat.zero_mul c).symm
 | some x=>rfl
theorem plus_getD {a b:List Rat} (h:a.length=b.length) {j:Nat}:(plusQ a b).getD j 0=a.getD j 0+b.getD j 0:=by
 unfold plusQ;rw[List.getD_eq_getElem?_getD,List.getD_eq_getElem?_getD,List.getD_eq_getElem?_getD,List.getElem?_zipWith]
 rcases Nat.lt_or_ge j a.length with hj | hj
 ·rw[List.getElem?_eq_getElem hj,List.getElem?_eq_getElem (h ▸ hj)];rfl
 ·rw[List.getElem?_eq_none hj,List.getElem?_eq_none (h ▸ hj)];exact (Rat.add_zero 0).symm
theorem times_len {l:List Rat} {c:Rat}:(timesQ l c).length=l.length:=by unfold timesQ;exact List.length_map _
theorem plus_len {a b:List Rat} (h:a.length=b.length):(plusQ a b).length=a.length:=by unfold plusQ;rw[List.length_zipWith,h,Nat.min_self]
theorem swp_len {M:List (List Rat)} {a t:Nat}:(swp M a t).length=M.length:=by unfold swp;rw[List.length_set,List.length_set]
theorem swp_rct {k:Nat} {M:List (List Rat)} (h:rct k M) {a t:Nat} (ha:a<M.length) (ht:t<M.length):rct k (swp M a t):=
 rct_set (rct_set h (rct_getD h ht)) (rct_getD h ha)
theorem el_swp {M:List (List Rat)} {a t i j:Nat} (ha:a<M.length) (ht:t<M.length):el (swp M a t) i j=if i=t then el M a j else if i=a then el M t j else el M i j:=by
 unfold el swp;rw[getD_set (by rw[List.length_set];exact ht),getD_set ha]
 split
 ·rfl
 ·split<;>rfl
theorem nrm_len {M:List (List Rat)} {j t:Nat}:(nrm M j t).length=M.length:=by unfold nrm;rw[List.length_set]
theorem nrm_rct {k:Nat} {M:List (List Rat)} (h:rct k M) {j t:Nat} (ht:t<M.length):rct k (nrm M j t):=
 rct_set h (by rw[times_len];exact rct_getD h ht)
theorem el_nrm {M:List (List Rat)} {j t i c:Nat} (ht:t<M.length):el (nrm M j t) i c=if i=t then el M t c*(1 / el M t j) else el M i c:=by
 unfold nrm el;rw[getD_set ht]
 split
 ·exact times_getD
 ·rfl
theorem rw1_len {M:List (List Rat)} {j t i:Nat}:(rw1 M j t i).length=M.length:=by
 unfold rw1
 split
 ·rfl
 ·exact List.length_set
theorem rw1_rct {k:Nat} {M:List (List Rat)} (h:rct k M) {j t i:Nat} (ht:t<M.length) (hi:i<M.length):rct k (rw1 M j t i):=by
 unfold rw1
 split
 ·exact h
 ·exact rct_set h (by rw[plus_len (by rw[times_len,rct_getD h ht,rct_getD h hi])];exact rct_getD h hi)
theorem el_rw1 {k:Nat} {M:List (List Rat)} (h:rct k M) {j t i a c:Nat} (ht:t<M.length) (hi:i<M.length):el (rw1 M j t i) a c=if a=i∧i≠t then el M i c+el M t c * -(el M i j) else el M a c:=by
 unfold rw1
 by_cases hit:i=t
 ·rw[if_pos hit,if_neg (fun e=>e.2 hit)]
 ·rw[if_neg hit]
  show ((M.set i _).getD a []).getD c 0=_
  rw[getD_set hi]
  by_cases ha:a=i
  ·rw[if_pos ha,if_pos ⟨ha,hit⟩,plus_getD (by rw[times_len,rct_getD h ht,rct_getD h hi]),times_getD];rfl
  ·rw[if_neg ha,if_neg (fun e=>ha e.1)];rfl
theorem rws_len {M:List (List Rat)} {j t:Nat}:∀ {n:Nat},(rws M j t n).length=M.length
 | 0=>rfl
 | n+1=>(rw1_len (M:=rws M j t n) (j:=j) (t:=t) (i:=n)).trans rws_len
theorem rws_rct {M:List (List Rat)} {j t k:Nat} (h:rct k M) (ht:t<M.length):∀ {n:Nat},n≤M.length→rct k (rws M j t n)
 | 0,_=>h
 | n+1,hn=>rw1_rct (rws_rct h ht (by omega)) (by rw[rws_len];exact ht) (by rw[rws_len];omega)
theorem el_rws {M:List (List Rat)} {j t k:Nat} (h:rct k M) (ht:t<M.length) {a c:Nat}:∀ {n:Nat},n≤M.length→el (rws M j t n) a c=if a<n∧a≠t then el M a c+el M t c * -(el M a j) else el M a c
 | 0,_=>by rw[if_neg (by omega)];rfl
 | n+1,hn=>by
  have ih:=fun b d=>el_rws h ht (a:=b) (c:=d) (n:=n) (j:=j) (by omega)
  show el (rw1 (rws M j t n) j t n) a c=_
  have e1:∀ d,el (rws M j t n) n d=el M n d:=fun d=>by rw[ih n d,if_neg (by omega)]
  have e2:el (rws M j t n) t c=el M t c:=by rw[ih t c,if_neg (fun e=>e.2 rfl)]
  rw[el_rw1 (rws_rct h ht (by omega)) (by rw[rws_len];exact ht) (by rw[rws_len];omega),e1,e1,e2,ih a c]
  by_cases h1:a=n
  ·subst h1
   by_cases h2:a=t
   ·rw[if_neg (fun e=>e.2 h2),if_neg (fun e=>e.2 h2),if_neg (fun e=>e.2 h2)]
   ·rw[if_pos ⟨rfl,h2⟩,if_pos ⟨by omega,h2⟩]
  ·rw[if_neg (fun e=>h1 e.1)]
   by_cases h2:a<n∧a≠t
   ·rw[if_pos h2,if_pos ⟨by omega,h2.2⟩]
   ·rw[if_neg h2,if_neg (fun e=>h2 ⟨by omega,e.2⟩)]
def sm (f:Nat→Rat):Nat→Rat
 | 0=>0
 | k+1=>sm f k+f k
theorem sm_congr {f g:Nat→Rat}:∀ {k:Nat},(∀ i<k,f i=g i)→sm f k=sm g k
 | 0,_=>rfl
 | k+1,h=>by show sm f k+f k=sm g k+g k;rw[sm_congr fun i hi=>h i (by omega),h k (by omega)]
theorem sm_zero {f:Nat→Rat}:∀ {k:Nat},(∀ i<k,f i=0)→sm f k=0
 | 0,_=>rfl
 | k+1,h=>by show sm f k+f k=0;rw[sm_zero fun i hi=>h i (by omega),h k (by omega)];exact Rat.add_zero 0
theorem sm_add {f g:Nat→Rat}:∀ {k:Nat},sm (fun i=>f i+g i) k=sm f k+sm g k
 | 0=>(Rat.add_zero 0).symm
 | k+1=>by
  show sm _ k+(f k+g k)=(sm f k+f k)+(sm g k+g k)
  rw[sm_add];grind
theorem sm_mul {f:Nat→Rat} {c:Rat}:∀ {k:Nat},sm (fun i=>f i*c) k=sm f k*c
 | 0=>(Rat.zero_mul c).symm
 | k+1=>by
  show sm _ k+f k*c=(sm f k+f k)*c
  rw[sm_mul];grind
theorem sm_one {f:Nat→Rat} {a:Nat}:∀ {k:Nat},a<k→(∀ i<k,i≠a→f i=0)→sm f k=f a
 | 0,h,_=>by omega
 | k+1,h,h0=>by
  show sm f k+f k=f a
  by_cases e:a=k
  ·subst e;rw[sm_zero fun i hi=>h0 i (by omega) (by omega)];exact Rat.zero_add _
  ·rw[sm_one (a:=a) (by omega) fun i hi hn=>h0 i (by omega) hn,h0 k (by omega) (fun e'=>e e'.symm)];exact Rat.add_zero _
theorem sm_two {f:Nat→Rat} {a b:Nat} {k:Nat} (ha:a<k) (hb:b<k) (hab:a≠b) (h0:∀ i<k,i≠a→i≠b→f i=0):sm f k=f a+f b:=by
 have e:sm f k=sm (fun i=>(if i=a then f i else 0)+(if i=a then 0 else f i)) k:=sm_congr fun i _=>by
  split
  ·exact (Rat.add_zero _).symm
  ·exact (Rat.zero_add _).symm
 rw[e,sm_add,sm_one ha (fun i _ hi=>if_neg hi),sm_one (a:=b) hb (fun i h hi=>by
  split
  ·rfl
  ·rename_i hia;exact h0 i h hia hi),if_pos rfl,if_neg (fun e=>hab e.symm)]
def dt (k:Nat) (M:List (List Rat)) (x:Nat→Rat) (i:Nat):Rat:=sm (fun j=>el M i j*x j) k
def NS (n k:Nat) (M:List (List Rat)) (x:Nat→Rat):Prop:=∀ i<n,dt k M x i=0
theorem dt_congr {k:Nat} {M M':List (List Rat)} {x:Nat→Rat} {i i':Nat} (h:∀ j,el M i j=el M' i' j):dt k M x i=dt k M' x i':=by
 unfold dt;exact sm_congr fun j _=>by rw[h j]
theorem dt_mul {k:Nat} {M M':List (List Rat)} {x:Nat→Rat} {i i':Nat} {c:Rat} (h:∀ j,el M i j=el M' i' j*c):dt k M x i=dt k M' x i'*c:=by
 unfold dt;rw[←sm_mul];exact sm_congr fun j _=>by rw[h j];grind
theorem dt_add {k:Nat} {M M':List (List Rat)} {x:Nat→Rat} {i i' t:Nat} {c:Rat} (h:∀ j,el M i j=el M' i' j+el M' t j*c):dt k M x i=dt k M' x i'+dt k M' x t*c:=by
 unfold dt;rw[←sm_mul,←sm_add];exact sm_congr fun j _=>by rw[h j];grind
theorem ns_swp {n k:Nat} {M:List (List Rat)} {a t:Nat} {x:Nat→Rat} (hn:M.length=n) (ha:a<n) (ht:t<n):NS n k (swp M a t) x↔NS n k M x:=by
 have key:∀ i,dt k (swp M a t) x i=if i=t then dt k M x a else if i=a then dt k M x t else dt k M x i:=fun i=>by
  have e:=fun j=>el_swp (M:=M) (i:=i) (j:=j) (hn ▸ ha) (hn ▸ ht)
  by_cases h1:i=t
  ·rw[if_pos h1];exact dt_congr fun j=>by rw[e j,if_pos h1]
  ·rw[if_neg h1]
   by_cases h2:i=a
   ·rw[if_pos h2];exact dt_congr fun j=>by rw[e j,if_neg h1,if_pos h2]
   ·rw[if_neg h2];exact dt_congr fun j=>by rw[e j,if_neg h1,if_neg h2]
 constructor
 ·intro h i hi
  by_cases h1:i=t
  ·have:=h a ha
   rw[key a] at this
   by_cases h2:a=t
   ·rw[if_pos h2] at this;rw[h1,←h2];exact this
   ·rw[if_neg h2,if_pos rfl] at this;rw[h1];exact this
  ·by_cases h2:i=a
   ·have:=h t ht
    rw[key t,if_pos rfl] at this;rw[h2];exact this
   ·have:=h i hi
    rw[key i,if_neg h1,if_neg h2] at this;exact this
 ·intro h i hi
  rw[key i]
  split
  ·exact h a ha
  ·split
   ·exact h t ht
   ·exact h i hi
theorem ns_nrm {n k:Nat} {M:List (List Rat)} {j t:Nat} {x:Nat→Rat} (hn:M.length=n) (ht:t<n) (h0:el M t j≠0):NS n k (nrm M j t) x↔NS n k M x:=by
 have e:=fun i c=>el_nrm (M:=M) (j:=j) (t:=t) (i:=i) (c:=c) (hn ▸ ht)
 have e1:dt k (nrm M j t) x t=dt k M x t*(1 / el M t j):=dt_mul fun c=>by rw[e,if_pos rfl]
 have e2:∀ i,i≠t→dt k (nrm M j t) x i=dt k M x i:=fun i hi=>dt_congr fun c=>by rw[e,if_neg hi]
 constructor
 ·intro h i hi
  by_cases h1:i=t
  ·have:=h t ht
   rw[e1] at this;rw[h1];generalize dt k M x t=d at this
   grind
  ·rw[←e2 i h1];exact h i hi
 ·intro h i hi
  by_cases h1:i=t
  ·rw[h1,e1,h t ht];exact Rat.zero_mul _
  ·rw[e2 i h1];exact h i hi
theorem ns_rws {n k:Nat} {M:List (List Rat)} {j t:Nat} {x:Nat→Rat} (hr:rct k M) (hn:M.length=n) (ht:t<n):NS n k (rws M j t n) x↔NS n k M x:=by
 have e:=fun a c=>el_rws (j:=j) (a:=a) (c:=c) (n:=n) hr (hn ▸ ht) (by omega)
 have e1:dt k (rws M j t n) x t=dt k M x t:=dt_congr fun c=>by rw[e,if_neg (fun e=>e.2 rfl)]
 have e2:∀ i,i<n→i≠t→dt k (rws M j t n) x i=dt k M x i+dt k M x t * -(el M i j):=fun i hi hit=>dt_add fun c=>by rw[e,if_pos ⟨hi,hit⟩]
 constructor
 ·intro h
  have h1:dt k M x t=0:=by rw[←e1];exact h t ht
  intro i hi
  by_cases h2:i=t
  ·rw[h2];exact h1
  ·have:=h i hi
   rw[e2 i hi h2,h1,Rat.zero_mul,Rat.add_zero] at this;exact this
 ·intro h i hi
  by_cases h2:i=t
  ·rw[h2,e1];exact h t ht
  ·rw[e2 i hi h2,h t ht,h i hi,Rat.zero_mul];exact Rat.add_zero 0
structure RF (n k:Nat) (R:List (List Rat)) (p:List Nat) (j:Nat):Prop where
 len:R.length=n
 rect:rct k R
 ple:p.length≤n
 lt:∀ x∈p,x<j
 mono:p.Pairwise (· < ·)
 one:∀ t (h:t<p.length),el R t p[t]=1
 off:∀ t (h:t<p.length) s,s<n→s≠t→el R s p[t]=0
 left:∀ t (h:t<p.length) i,i<p[t]→el R t i=0
 low:∀ s,p.length≤s→s<n→∀ i<j,el R s i=0
theorem sr_le {j:Nat}:∀ {L:List (List Rat)},sr j L≤L.length
 | []=>Nat.le_refl 0
 | r::L=>by
  unfold sr
  split
  ·exact Nat.succ_le_succ sr_le
  ·exact Nat.zero_le _
theorem sr_lt {j:Nat}:∀ {L:List (List Rat)} {i:Nat},i<sr j L→(L.getD i []).getD j 0=0
 | [],i,h=>by unfold sr at h;omega
 | r::L,i,h=>by
  unfold sr at h
  split at h
  ·rename_i h0
   cases i with
   | zero=>exact Rat.num_eq_zero.1 h0
   | succ i=>exact sr_lt (L:=L) (by omega)
  ·omega
theorem sr_at {j:Nat}:∀ {L:List (List Rat)},sr j L<L.length→(L.getD (sr j L) []).getD j 0≠0
 | [],h=>by unfold sr at h;exact absurd h (Nat.lt_irrefl 0)
 | r::L,h=>by
  unfold sr at h ⊢
  by_cases h0:(r.getD j 0).num=0
  ·rw[if_pos h0] at h ⊢
   exact sr_at (L:=L) (by rw[List.length_cons] at h;omega)
  ·rw[if_neg h0]
   intro e;exact h0 (by show ((r::L).getD 0 [] |>.getD j 0).num=0;rw[e];rfl)
theorem drop_getD {M:List (List Rat)} {t i:Nat}:(M.drop t).getD i []=M.getD (t+i) []:=by
 rw[List.getD_eq_getElem?_getD,List.getD_eq_getElem?_getD,List.getElem?_drop]
theorem gat_le {j:Nat} {s:GS} (h:s.p.length≤s.M.length):gat j s≤s.M.length:=by
 unfold gat;have:=sr_le (j:=j) (L:=s.M.drop s.p.length);rw[List.length_drop] at this
 omega
theorem gat_ge {j:Nat} {s:GS}:s.p.length≤gat j s:=Nat.le_add_right _ _
theorem gat_lt {j:Nat} {s:GS} {i:Nat} (h1:s.p.length≤i) (h2:i<gat j s):el s.M i j=0:=by
 unfold gat at h2;have:=sr_lt (j:=j) (L:=s.M.drop s.p.length) (i:=i-s.p.length) (by omega)
 rw[drop_getD,Nat.add_sub_cancel' h1] at this;exact this
theorem gat_at {j:Nat} {s:GS} (h:gat j s<s.M.length):el s.M (gat j s) j≠0:=by
 have:=sr_at (j:=j) (L:=s.M.drop s.p.length) (by rw[List.length_drop];unfold gat at h;omega)
 rw[drop_getD] at this;exact this
theorem gm1_len {j:Nat} {s:GS}:(gm1 j s).length=s.M.length:=by
 unfold gm1
 split
 ·rfl
 ·exact swp_len
theorem gm1_rct {j k:Nat} {s:GS} (h:rct k s.M) (ha:gat j s<s.M.length):rct k (gm1 j s):=by
 unfold gm1
 split
 ·exact h
 ·exact swp_rct h ha (Nat.lt_of_le_of_lt gat_ge ha)
theorem el_gm1 {j:Nat} {s:GS} (ha:gat j s<s.M.length) {i c:Nat}:el (gm1 j s) i c=if i=s.p.length then el s.M (gat j s) c else if i=gat j s then el s.M s.p.length c else el s.M i c:=by
 unfold gm1
 by_cases h:gat j s=s.p.length
 ·rw[if_pos h,h]
  split
  ·rename_i e;rw[e]
  ·rfl
 ·rw[if_neg h,el_swp ha (Nat.lt_of_le_of_lt gat_ge ha)]
theorem ns_gm1 {n k j:Nat} {s:GS} {x:Nat→Rat} (hn:s.M.length=n) (ha:gat j s<n):NS n k (gm1 j s) x↔NS n k s.M x:=by
 unfold gm1
 split
 ·exact Iff.rfl
 ·exact ns_swp hn ha (Nat.lt_of_le_of_lt gat_ge ha)
theorem gcol_rf {n k j:Nat} {s:GS} (F:RF n k s.M s.p j):RF n k (gcol j s).M (gcol j s).p (j+1)∧∀ x,NS n k (gcol j s).M x↔NS n k s.M x:=by
 have hle:=gat_le (j:=j) (s:=s) (by rw[F.len];exact F.ple)
 by_cases hg:gat j s=s.M.length
 ·have e:gcol j s=s:=by unfold gcol;rw[if_pos hg]
  rw[e];refine⟨⟨F.len,F.rect,F.ple,fun x hx=>by have:=F.lt x hx;omega,F.mono,F.one,F.off,F.left,fun t h1 h2 i hi=>?_⟩,fun x=>Iff.rfl⟩
  rcases Nat.lt_or_ge i j with h3 | h3
  ·exact F.low t h1 h2 i h3
  ·obtain rfl:i=j:=by omega
   exact gat_lt h1 (by rw[hg,F.len];exact h2)
 ·have ha:gat j s<s.M.length:=by omega
  have hn:=F.len;have ht:s.p.length<n:=by have:=gat_ge (j:=j) (s:=s);omega
  have e:gcol j s=⟨rws (nrm (gm1 j s) j s.p.length) j s.p.length s.M.length,s.p++[j],gf1 j s*el (gm1 j s) s.p.length j⟩:=by unfold gcol;rw[if_neg hg]
  have r1:=gm1_rct F.rect ha;have l1:(gm1 j s).length=n:=gm1_len.trans hn;have r2:=nrm_rct r1 (j:=j) (t:=s.p.length) (by omega)
  have l2:(nrm (gm1 j s) j s.p.length).length=n:=nrm_len.trans l1;have r3:=rws_rct r2 (j:=j) (t:=s.p.length) (n:=n) (by omega) (by omega)
  have l3:(rws (nrm (gm1 j s) j s.p.length) j s.p.length n).length=n:=rws_len.trans l2;have hd:el (gm1 j s) s.p.length j≠0:=by rw[el_gm1 ha,if_pos rfl];exact gat_at ha
  have e2:=fun i c=>el_nrm (M:=gm1 j s) (j:=j) (t:=s.p.length) (i:=i) (c:=c) (by omega)
  have e3:=fun i c=>el_rws (j:=j) (t:=s.p.length) (a:=i) (c:=c) (n:=n) r2 (by omega) (by omega)
  have z1:∀ c<j,el (gm1 j s) s.p.length c=0:=fun c hc=>by
   rw[el_gm1 ha,if_pos rfl];exact F.low _ gat_ge (by omega) c hc
  have z2:∀ c<j,el (nrm (gm1 j s) j s.p.length) s.p.length c=0:=fun c hc=>by rw[e2,if_pos rfl,z1 c hc];exact Rat.zero_mul _
  have o2:el (nrm (gm1 j s) j s.p.length) s.p.length j=1:=by
   rw[e2,if_pos rfl];generalize el (gm1 j s) s.p.length j=d at hd
   grind
  have same:∀ i<n,∀ c<j,el (rws (nrm (gm1 j s) j s.p.length) j s.p.length n) i c=el s.M i c:=fun i hi c hc=>by
   have h1:el (rws (nrm (gm1 j s) j s.p.length) j s.p.length n) i c=el (nrm (gm1 j s) j s.p.length) i c:=by
    rw[e3]
    split
    ·rw[z2 c hc,Rat.zero_mul];exact Rat.add_zero _
    ·rfl
   rw[h1]
   by_cases h2:i=s.p.length
   ·rw[h2,z2 c hc];exact (F.low _ (Nat.le_refl _) ht c hc).symm
   ·rw[e2,if_neg h2,el_gm1 ha,if_neg h2]
    split
    ·rename_i h3
     rw[F.low _ (Nat.le_refl _) ht c hc,h3];exact (F.low _ gat_ge (by omega) c hc).symm
    ·rfl
  have one:el (rws (nrm (gm1 j s) j s.p.length) j s.p.length n) s.p.length j=1:=by rw[e3,if_neg (fun e=>e.2 rfl)];exact o2
  have zer:∀ i<n,i≠s.p.length→el (rws (nrm (gm1 j s) j s.p.length) j s.p.length n) i j=0:=fun i hi hit=>by
   rw[e3,if_pos ⟨hi,hit⟩,o2];generalize el (nrm (gm1 j s) j s.p.length) i j=d
   grind
  have ga:∀ t (h:t<(s.p++[j]).length),(∃ h':t<s.p.length,(s.p++[j])[t]=s.p[t])∨(t=s.p.length∧(s.p++[j])[t]=j):=fun t h=>by
   rw[List.getElem_append]
   split
   ·rename_i h';exact Or.inl ⟨h',rfl⟩
   ·rename_i h'
    rw[List.length_append,List.length_singleton] at h;exact Or.inr ⟨by omega,List.getElem_singleton _⟩
  rw[e,hn];refine⟨⟨l3,r3,by rw[List.length_append];exact ht,fun x hx=>?_,?_,fun t h=>?_,fun t h i hi hit=>?_,fun t h i hi=>?_,fun t h1 h2 i hi=>?_⟩,fun x=>?_⟩
  ·rcases List.mem_append.1 hx with hx | hx
   ·have:=F.lt x hx;omega
   ·rw[List.mem_singleton.1 hx];exact Nat.lt_succ_self j
  ·exact List.pairwise_append.2 ⟨F.mono,List.pairwise_singleton _ _,fun a ha b hb=>by rw[List.mem_singleton.1 hb];exact F.lt a ha⟩
  ·rcases ga t h with ⟨h',g⟩ | ⟨h',g⟩
   ·show el _ t _=1
    rw[g,same t (by omega) _ (F.lt _ (List.getElem_mem h'))]
    exact F.one t h'
   ·show el _ t _=1
    rw[g,h'];exact one
  ·rcases ga t h with ⟨h',g⟩ | ⟨h',g⟩
   ·show el _ i _=0
    rw[g,same i hi _ (F.lt _ (List.getElem_mem h'))];exact F.off t h' i hi hit
   ·show el _ i _=0
    rw[g];exact zer i hi (by omega)
  ·rcases ga t h with ⟨h',g⟩ | ⟨h',g⟩
   ·rw[g] at hi
    have:=F.lt _ (List.getElem_mem h');rw[same t (by omega) i (by omega)]
    exact F.left t h' i hi
   ·rw[g] at hi
    rw[same t (by omega) i hi]
    exact F.low t (by omega) (by omega) i hi
  ·rw[List.length_append,List.length_singleton] at h1
   rcases Nat.lt_or_ge i j with h3 | h3
   ·rw[same t h2 i h3];exact F.low t (by omega) h2 i h3
   ·obtain rfl:i=j:=by omega
    exact zer t h2 (by omega)
  ·rw[ns_rws r2 l2 ht,ns_nrm l1 ht hd,ns_gm1 hn (by omega)]
theorem grun_rf {n k:Nat}:∀ {c j:Nat} {s:GS},RF n k s.M s.p j→RF n k (grun c j s).M (grun c j s).p (j+c)∧∀ x,NS n k (grun c j s).M x↔NS n k s.M x
 | 0,_,_,F=>⟨F,fun _=>Iff.rfl⟩
 | c+1,j,s,F=>by
  have h1:=gcol_rf F;have h2:=grun_rf (c:=c) h1.1;refine⟨?_,fun x=>(h2.2 x).trans (h1.2 x)⟩
  have:=h2.1;rw[Nat.add_assoc,Nat.add_comm 1 c] at this;exact this
theorem rf_start {n k:Nat} {M:List (List Rat)} (hn:M.length=n) (h:rct k M):RF n k M [] 0:=
 ⟨hn,h,Nat.zero_le _,fun _ h=>absurd h List.not_mem_nil,List.Pairwise.nil,fun _ h=>absurd h (Nat.not_lt_zero _),fun _ h=>absurd h (Nat.not_lt_zero _),fun _ h=>absurd h (Nat.not_lt_zero _),fun _ _ _ _ h=>absurd h (Nat.not_lt_zero _)⟩
def red (k:Nat) (M:List (List Rat)):GS:=grun k 0 ⟨M,[],1⟩
theorem red_rf {n k:Nat} {M:List (List Rat)} (hn:M.length=n) (h:rct k M):RF n k (red k M).M (red k M).p k∧∀ x,NS n k (red k M).M x↔NS n k M x:=by
 have:=grun_rf (c:=k) (j:=0) (s:=⟨M,[],1⟩) (rf_start hn h);rw[Nat.zero_add] at this;exact this
def nv (R:List (List Rat)) (p:List Nat) (j i:Nat):Rat:=if i=j then 1 else if i<j∧i∈p then -(el R (p.idxOf i) j) else 0
theorem idx_get {p:List Nat} (h:p.Pairwise (· < ·)) {t:Nat} (ht:t<p.length):p.idxOf p[t]=t:=by
 have h1:p.idxOf p[t]<p.length:=List.idxOf_lt_length_of_mem (List.getElem_mem ht);have h2:p[p.idxOf p[t]]=p[t]:=List.getElem_idxOf h1;have h3:=List.pairwise_iff_getElem.1 h
 rcases Nat.lt_trichotomy (p.idxOf p[t]) t with g | g | g
 ·have:=h3 _ _ h1 ht g;omega
 ·exact g
 ·have:=h3 _ _ ht h1 g;omega
theorem dt_nv {n k:Nat} {R R':List (List Rat)} {p:List Nat} (F:RF n k R' p k) {j:Nat} (hj:j<k) (hp:j∉p) {s:Nat} (hs:s<p.length) :
  dt k R' (nv R p j) s=el R' s j+if p[s]<j then -(el R s j) else 0:=by
 have hne:j≠p[s]:=fun e=>hp (e ▸ List.getElem_mem hs)
 unfold dt;rw[sm_two hj (F.lt _ (List.getElem_mem hs)) hne fun i hi h1 h2=>?_]
 ·rw[F.one s hs]
  unfold nv;rw[if_pos rfl,if_neg (fun e=>hne e.symm),idx_get F.mono hs]
  by_cases h:p[s]<j
  ·rw[if_pos ⟨h,List.getElem_mem hs⟩,if_pos h,Rat.mul_one,Rat.one_mul]
  ·rw[if_neg (fun e=>h e.1),if_neg h,Rat.mul_one,Rat.one_mul]
 ·unfold nv
  rw[if_neg h1]
  split
  ·rename_i h3
   obtain⟨t,ht,rfl⟩:=List.getElem_of_mem h3.2;rw[F.off t ht s (by have:=F.ple;omega) (fun e=>h2 (by subst e;rfl))]
   exact Rat.zero_mul _
  ·exact Rat.mul_zero _
theorem ns_nv {n k:Nat} {R:List (List Rat)} {p:List Nat} (F:RF n k R p k) {j:Nat} (hj:j<k) (hp:j∉p):NS n k R (nv R p j):=by
 intro s hs
 rcases Nat.lt_or_ge s p.length with h | h
 ·rw[dt_nv F hj hp h]
  by_cases h1:p[s]<j
  ·rw[if_pos h1]
   generalize el R s j=d
   grind
  ·have hne:j≠p[s]:=fun e=>hp (e ▸ List.getElem_mem h)
   rw[if_neg h1,F.left s h j (by omega)]
   exact Rat.add_zero 0
 ·unfold dt
  exact sm_zero fun i hi=>by rw[F.low s h hs i hi];exact Rat.zero_mul _
theorem piv_iff {n k:Nat} {R:List (List Rat)} {p:List Nat} (F:RF n k R p k) {j:Nat} (hj:j<k):j∈p↔∀ x,NS n k R x→(∀ i,j<i→x i=0)→x j=0:=by
 constructor
 ·intro h x hx h0
  obtain⟨t,ht,rfl⟩:=List.getElem_of_mem h;have:=hx t (by have:=F.ple;omega)
  unfold dt at this;rw[sm_one hj (fun i hi hn=>?_),F.one t ht,Rat.one_mul] at this
  ·exact this
  ·rcases Nat.lt_or_ge i p[t] with g | g
   ·rw[F.left t ht i g];exact Rat.zero_mul _
   ·rw[h0 i (by omega)];exact Rat.mul_zero _
 ·intro h
  by_cases hp:j∈p
  ·exact hp
  ·have:=h (nv R p j) (ns_nv F hj hp) fun i hi=>by unfold nv;rw[if_neg (by omega),if_neg (by omega)]
   unfold nv at this;rw[if_pos rfl] at this;exact absurd this (by decide)
theorem sorted_ext:∀ {a b:List Nat},a.Pairwise (· < ·)→b.Pairwise (· < ·)→(∀ x,x∈a↔x∈b)→a=b
 | [],[],_,_,_=>rfl
 | [],y::b,_,_,h=>absurd ((h y).2 List.mem_cons_self) List.not_mem_nil
 | x::a,[],_,_,h=>absurd ((h x).1 List.mem_cons_self) List.not_mem_nil
 | x::a,y::b,ha,hb,h=>by
  rw[List.pairwise_cons] at ha hb;have e:x=y:=by
   rcases List.mem_cons.1 ((h x).1 List.mem_cons_self) with g | g
   ·exact g
   ·rcases List.mem_cons.1 ((h y).2 List.mem_cons_self) with g' | g'
    ·exact g'.symm
    ·have:=hb.1 x g;have:=ha.1 y g';omega
  subst e;rw[sorted_ext ha.2 hb.2 fun z=>?_]
  constructor
  ·intro hz
   rcases List.mem_cons.1 ((h z).1 (List.mem_cons_of_mem _ hz)) with g | g
   ·have:=ha.1 z hz;omega
   ·exact g
  ·intro hz
   rcases List.mem_cons.1 ((h z).2 (List.mem_cons_of_mem _ hz)) with g | g
   ·have:=hb.1 z hz;omega
   ·exact g
theorem ext_el {n k:Nat} {R R':List (List Rat)} (h1:R.length=n) (h2:R'.length=n) (r1:rct k R) (r2:rct k R') (h:∀ i<n,∀ j<k,el R i j=el R' i j):R=R':=by
 apply List.ext_getElem (h1.trans h2.symm)
 intro i hi hi';have l1:=r1 _ (List.getElem_mem hi);have l2:=r2 _ (List.getElem_mem hi')
 apply List.ext_getElem (l1.trans l2.symm)
 intro j hj hj';have:=h i (by omega) j (by omega)
 unfold el at this;simp only[List.getD_eq_getElem?_getD,List.getElem?_eq_getElem hi,List.getElem?_eq_getElem hi',Option.getD_some,List.getElem?_eq_getElem hj,List.getElem?_eq_getElem hj'] at this
 exact this
end GE
set_option linter.unusedVariables false
namespace GE
theorem sm_front {f:Nat→Rat}:∀ {k:Nat},sm f (k+1)=f 0+sm (fun i=>f (i+1)) k
 | 0=>by show (0:Rat)+f 0=f 0+0;grind
 | k+1=>by
  show sm f (k+1)+f (k+1)=f 0+(sm (fun i=>f (i+1)) k+f (k+1))
  rw[sm_front];grind
def ls (f:Nat→Rat):List Nat→Rat
 | []=>0
 | x::p=>f x+ls f p
theorem ls_congr {f g:Nat→Rat}:∀ {p:List Nat},(∀ x∈p,f x=g x)→ls f p=ls g p
 | [],_=>rfl
 | x::p,h=>by
  show f x+ls f p=g x+ls g p
  rw[h x List.mem_cons_self,ls_congr fun y hy=>h y (List.mem_cons_of_mem _ hy)]
theorem sm_ls {k:Nat}:∀ {p:List Nat} {f:Nat→Rat},p.Pairwise (· < ·)→(∀ x∈p,x<k)→(∀ i<k,i∉p→f i=0)→sm f k=ls f p
 | [],f,_,_,h=>sm_zero fun i hi=>h i hi List.not_mem_nil
 | x::p,f,hp,hk,h=>by
  rw[List.pairwise_cons] at hp;have hx:=hk x List.mem_cons_self;have e:sm f k=sm (fun i=>(if i=x then f i else 0)+(if i=x then 0 else f i)) k:=sm_congr fun i _=>by
   split
   ·exact (Rat.add_zero _).symm
   ·exact (Rat.zero_add _).symm
  rw[e,sm_add,sm_one hx (fun i _ hi=>if_neg hi),if_pos rfl]
  show _=f x+ls f p
  have hxp:x∉p:=fun h=>Nat.lt_irrefl _ (hp.1 x h)
  rw[sm_ls (p:=p) (f:=fun i=>if i=x then 0 else f i) hp.2 (fun y hy=>hk y (List.mem_cons_of_mem _ hy)) fun i hi hn=>?_]
  ·congr 1
   exact ls_congr fun y hy=>by
    show (if y=x then 0 else f y)=f y
    rw[if_neg (by rintro rfl;exact hxp hy)]
  ·split
   ·rfl
   ·rename_i hix
    exact h i hi fun h'=>(List.mem_cons.1 h').elim hix hn
theorem ls_sm {f:Nat→Rat}:∀ {p:List Nat},ls f p=sm (fun t=>f (p.getD t 0)) p.length
 | []=>rfl
 | x::p=>by
  show f x+ls f p=sm _ (p.length+1)
  rw[sm_front,ls_sm];rfl
def mk (n k:Nat) (A:Nat→Nat→Rat):List (List Rat):=(List.range n).map fun i=>(List.range k).map fun j=>A i j
theorem mk_len {n k:Nat} {A:Nat→Nat→Rat}:(mk n k A).length=n:=by unfold mk;rw[List.length_map,List.length_range]
theorem mk_rct {n k:Nat} {A:Nat→Nat→Rat}:rct k (mk n k A):=by
 intro r hr;obtain⟨i,_,rfl⟩:=List.mem_map.1 hr;rw[List.length_map,List.length_range]
theorem el_mk {n k:Nat} {A:Nat→Nat→Rat} {i j:Nat} (hi:i<n) (hj:j<k):el (mk n k A) i j=A i j:=by
 unfold el mk;simp only[List.getD_eq_getElem?_getD,List.getElem?_map,List.getElem?_range hi,Option.map_some,Option.getD_some,List.getElem?_range hj]
theorem mk_congr {n k:Nat} {A B:Nat→Nat→Rat} (h:∀ i<n,∀ j<k,A i j=B i j):mk n k A=mk n k B:=
 ext_el mk_len mk_len mk_rct mk_rct fun i hi j hj=>by rw[el_mk hi hj,el_mk hi hj,h i hi j hj]
def pv (n k:Nat) (A:Nat→Nat→Rat):List Nat:=(red k (mk n k A)).p
def rr (n k:Nat) (A:Nat→Nat→Rat):List (List Rat):=(red k (mk n k A)).M
def rk (n k:Nat) (A:Nat→Nat→Rat):Nat:=(pv n k A).length
theorem len_le:∀ {a b:List Nat},a.Pairwise (· < ·)→(∀ x∈a,x∈b)→a.length≤b.length
 | [],_,_,_=>Nat.zero_le _
 | x::a,b,ha,h=>by
  rw[List.pairwise_cons] at ha;have hx:=h x List.mem_cons_self;have:=len_le (b:=b.erase x) ha.2 fun y hy=>(List.mem_erase_of_ne (by have:=ha.1 y hy;omega)).2 (h y (List.mem_cons_of_mem _ hy))
  rw[List.length_erase_of_mem hx] at this;have:=List.length_pos_of_mem hx;rw[List.length_cons]
  omega
def mp (r:Nat) (B C:Nat→Nat→Rat) (i j:Nat):Rat:=sm (fun t=>B i t*C t j) r
end GE
set_option linter.unusedVariables false
namespace GE
structure Alt (n:Nat) (Φ:(Nat→Nat→Rat)→Rat):Prop where
 congr:∀ A B:Nat→Nat→Rat,(∀ i<n,∀ j<n,A i j=B i j)→Φ A=Φ B
 swap:∀ (A:Nat→Nat→Rat) a t,a<n→t<n→a≠t→Φ (fun i j=>if i=t then A a j else if i=a then A t j else A i j) = -Φ A
 scale:∀ (A:Nat→Nat→Rat) t c,t<n→Φ (fun i j=>if i=t then A t j*c else A i j)=Φ A*c
 add:∀ (A:Nat→Nat→Rat) a t c,a<n→t<n→a≠t→Φ (fun i j=>if i=a then A a j+A t j*c else A i j)=Φ A
def D:Nat→(Nat→Nat→Rat)→Rat
 | 0,_=>1
 | 1,A=>A 0 0
 | 2,A=>A 0 0*A 1 1-A 0 1*A 1 0
 | 3,A=>A 0 0*(A 1 1*A 2 2-A 1 2*A 2 1)-A 0 1*(A 1 0*A 2 2-A 1 2*A 2 0)+A 0 2*(A 1 0*A 2 1-A 1 1*A 2 0)
 | 4,A=>(A 0 0*A 1 1-A 0 1*A 1 0)*(A 2 2*A 3 3-A 2 3*A 3 2)-(A 0 0*A 1 2-A 0 2*A 1 0)*(A 2 1*A 3 3-A 2 3*A 3 1)
   + (A 0 0*A 1 3-A 0 3*A 1 0)*(A 2 1*A 3 2-A 2 2*A 3 1)+(A 0 1*A 1 2-A 0 2*A 1 1)*(A 2 0*A 3 3-A 2 3*A 3 0)
   - (A 0 1*A 1 3-A 0 3*A 1 1)*(A 2 0*A 3 2-A 2 2*A 3 0)+(A 0 2*A 1 3-A 0 3*A 1 2)*(A 2 0*A 3 1-A 2 1*A 3 0)
 | _,_=>0
def I1 (i j:Nat):Rat:=if i=j then 1 else 0
end GE
set_option linter.unusedVariables false
namespace GE
variable {n k:Nat} {Φ:(Nat→Nat→Rat)→Rat}
theorem sm_split {f:Nat→Rat} {a:Nat}:∀ {b:Nat},sm f (a+b)=sm f a+sm (fun i=>f (a+i)) b
 | 0=>(Rat.add_zero _).symm
 | b+1=>by
  show sm f (a+b)+f (a+b)=sm f a+(sm (fun i=>f (a+i)) b+f (a+b))
  rw[sm_split,Rat.add_assoc]
def besd (n:Nat) (A:Nat→Nat→Rat) (i j:Nat):Rat:=if j<n then A i j else I1 i (j-n)
def inv (n:Nat) (A:Nat→Nat→Rat) (i j:Nat):Rat:=el (rr n (n+n) (besd n A)) i (n+j)
end GE
set_option linter.unusedVariables false
namespace GE
structure Grw (P:Nat→Rat→Prop):Prop where
 mono:∀ {a b:Nat} {q:Rat},P a q→a≤b→P b q
 zero:∀ {a:Nat},1≤a→P a 0
 neg:∀ {a:Nat} {q:Rat},P a q→P a (-q)
 add:∀ {a b:Nat} {x y:Rat},P a x→P b y→P (a+b+1) (x+y)
 mul:∀ {a b:Nat} {x y:Rat},P a x→P b y→P (a+b) (x*y)
 inv:∀ {a:Nat} {x:Rat},P a x→1≤a→P a (1 / x)
variable {n k:Nat} {P:Nat→Rat→Prop}
def colP (P:Rat→Prop) (j:Nat) (s:GS):Prop:=gat j s=s.M.length ∨
 (P (1 / el (gm1 j s) s.p.length j)∧P (gf1 j s)∧P (gf1 j s*el (gm1 j s) s.p.length j)∧(∀ a c,P (el (gm1 j s) a c)) ∧
  (∀ i≤s.M.length,∀ a c,P (el (rws (nrm (gm1 j s) j s.p.length) j s.p.length i) a c)) ∧
  ∀ i<s.M.length,P (-(el (rws (nrm (gm1 j s) j s.p.length) j s.p.length i) i j)) ∧
   ∀ c,P (el (rws (nrm (gm1 j s) j s.p.length) j s.p.length i) s.p.length c * -(el (rws (nrm (gm1 j s) j s.p.length) j s.p.length i) i j)))
def gokP (P:Rat→Prop):Nat→Nat→GS→Prop
 | 0,_,_=>True
 | c+1,j,s=>colP P j s∧gokP P c (j+1) (gcol j s)
theorem col_grow (G:Grw P) {b j:Nat} {s:GS} (F:RF n k s.M s.p j) (hE:∀ i c,P b (el s.M i c)) (hf:P b s.f) (hb:1≤b) :
  (gat j s=s.M.length∨s.p.length<n)∧colP (P (5*b)) j s∧(∀ i c,P (5*b) (el (gcol j s).M i c))∧P (5*b) (gcol j s).f:=by
 by_cases hg:gat j s=s.M.length
 ·have e:gcol j s=s:=by unfold gcol;rw[if_pos hg]
  rw[e];exact⟨Or.inl hg,Or.inl hg,fun i c=>G.mono (hE i c) (by omega),G.mono hf (by omega)⟩
 ·have hle:=gat_le (j:=j) (s:=s) (by rw[F.len];exact F.ple)
  have ha:gat j s<s.M.length:=by omega
  have hn:=F.len;have hge:=gat_ge (j:=j) (s:=s);have e:gcol j s=⟨rws (nrm (gm1 j s) j s.p.length) j s.p.length s.M.length,s.p++[j],gf1 j s*el (gm1 j s) s.p.length j⟩:=by unfold gcol;rw[if_neg hg]
  have r1:=gm1_rct F.rect ha;have l1:(gm1 j s).length=n:=gm1_len.trans hn;have r2:=nrm_rct r1 (j:=j) (t:=s.p.length) (by omega)
  have l2:(nrm (gm1 j s) j s.p.length).length=n:=nrm_len.trans l1;have h1:∀ i c,P b (el (gm1 j s) i c):=fun i c=>by
   rw[el_gm1 ha]
   split
   ·exact hE _ _
   ·split<;>exact hE _ _
  have hf1:P b (gf1 j s):=by
   unfold gf1
   split
   ·exact hf
   ·exact G.neg hf
  have e2:=fun i c=>el_nrm (M:=gm1 j s) (j:=j) (t:=s.p.length) (i:=i) (c:=c) (by omega)
  have ht:∀ c,P (b+b) (el (nrm (gm1 j s) j s.p.length) s.p.length c):=fun c=>by
   rw[e2,if_pos rfl];exact G.mul (h1 _ _) (G.inv (h1 _ _) hb)
  have ho:∀ i c,i≠s.p.length→P b (el (nrm (gm1 j s) j s.p.length) i c):=fun i c hi=>by rw[e2,if_neg hi];exact h1 _ _
  have e3:=fun m (hm:m≤n) i c=>el_rws (j:=j) (t:=s.p.length) (a:=i) (c:=c) (n:=m) r2 (by omega) (by omega)
  have h3:∀ m≤n,∀ i c,P (5*b) (el (rws (nrm (gm1 j s) j s.p.length) j s.p.length m) i c):=fun m hm i c=>by
   rw[e3 m hm]
   split
   ·rename_i h
    exact G.mono (G.add (ho i c h.2) (G.mul (ht c) (G.neg (ho i j h.2)))) (by omega)
   ·by_cases hi:i=s.p.length
    ·rw[hi];exact G.mono (ht c) (by omega)
    ·exact G.mono (ho i c hi) (by omega)
  have h4:∀ i<n,P (b+b) (-(el (rws (nrm (gm1 j s) j s.p.length) j s.p.length i) i j)):=fun i hi=>by
   rw[e3 i (by omega),if_neg (by omega)]
   by_cases h:i=s.p.length
   ·rw[h];exact G.neg (ht j)
   ·exact G.mono (G.neg (ho i j h)) (by omega)
  have h5:∀ i<n,∀ c,P (b+b) (el (rws (nrm (gm1 j s) j s.p.length) j s.p.length i) s.p.length c):=fun i hi c=>by
   rw[e3 i (by omega),if_neg (fun h=>h.2 rfl)];exact ht c
  rw[e];refine⟨Or.inr (by omega),Or.inr ⟨G.mono (G.inv (h1 _ _) hb) (by omega),G.mono hf1 (by omega),G.mono (G.mul hf1 (h1 _ _)) (by omega),fun i c=>G.mono (h1 i c) (by omega),fun i hi a c=>h3 i (by omega) a c,fun i hi=>⟨G.mono (h4 i (by omega)) (by omega),fun c=>G.mono (G.mul (h5 i (by omega) c) (h4 i (by omega))) (by omega)⟩⟩,fun i c=>h3 _ (by omega) i c,G.mono (G.mul hf1 (h1 _ _)) (by omega)⟩
theorem col_same {j:Nat} {s:GS} (hg:gat j s=s.M.length):gcol j s=s:=by unfold gcol;rw[if_pos hg]
theorem col_more {j:Nat} {s:GS} (hg:gat j s≠s.M.length):(gcol j s).p.length=s.p.length+1:=by
 unfold gcol;rw[if_neg hg];exact List.length_append
theorem colP_mono {P Q:Rat→Prop} (h:∀ q,P q→Q q) {j:Nat} {s:GS} (hc:colP P j s):colP Q j s:=by
 rcases hc with hc | ⟨h1,h2,h3,h4,h5,h6⟩
 ·exact Or.inl hc
 ·exact Or.inr ⟨h _ h1,h _ h2,h _ h3,fun a c=>h _ (h4 a c),fun i hi a c=>h _ (h5 i hi a c),fun i hi=>⟨h _ (h6 i hi).1,fun c=>h _ ((h6 i hi).2 c)⟩⟩
theorem run_grow (G:Grw P) {B:Nat}:∀ {c j:Nat} {s:GS} {b:Nat},RF n k s.M s.p j→(∀ i c,P b (el s.M i c))→P b s.f→1≤b→b*5^(n-s.p.length)≤B →
  gokP (P B) c j s∧(∀ i c',P B (el (grun c j s).M i c'))∧P B (grun c j s).f
 | 0,j,s,b,F,hE,hf,hb,hB=>by
  have:b≤B:=Nat.le_trans (Nat.le_mul_of_pos_right b (Nat.pow_pos (by decide))) hB
  exact⟨trivial,fun i c=>G.mono (hE i c) this,G.mono hf this⟩
 | c+1,j,s,b,F,hE,hf,hb,hB=>by
  obtain⟨h0,h1,h2,h3⟩:=col_grow G F hE hf hb;have F':=(gcol_rf F).1
  by_cases hg:gat j s=s.M.length
  ·have ih:=run_grow (c:=c) G F' (b:=b) (by rw[col_same hg];exact hE) (by rw[col_same hg];exact hf) hb (by rw[col_same hg];exact hB)
   exact⟨⟨Or.inl hg,ih.1⟩,ih.2⟩
  ·have hlt:s.p.length<n:=h0.resolve_left hg
   have hp:=col_more hg;have e:b*5^(n-s.p.length)=5*b*5^(n-(s.p.length+1)):=by
    rw[show n-s.p.length=n-(s.p.length+1)+1 by omega,Nat.pow_succ]
    rw[Nat.mul_comm 5 b,Nat.mul_assoc,Nat.mul_comm 5]
   have hB':5*b*5^(n-(gcol j s).p.length)≤B:=by rw[hp,←e];exact hB
   have h5:5*b≤B:=Nat.le_trans (Nat.le_mul_of_pos_right _ (Nat.pow_pos (by decide))) hB'
   have ih:=run_grow (c:=c) G F' h2 h3 (by omega) hB'
   exact⟨⟨colP_mono (fun q hq=>G.mono hq h5) h1,ih.1⟩,ih.2⟩
end GE
set_option linter.unusedVariables false
namespace GE
variable {n k:Nat}
def brow (c:Nat) (l:Rat) (top row:List Rat):List Rat:=
 (List.range row.length).map fun j=>if j<c then row.getD j 0 else if j=c then 0 else (top.getD c 0*row.getD j 0-row.getD c 0*top.getD j 0) / l
def bcls (M:List (List Rat)) (c:Nat) (l:Rat) (t:Nat):Nat→List (List Rat)
 | 0=>M
 | i+1=>if i≤t then bcls M c l t i else (bcls M c l t i).set i (brow c l ((bcls M c l t i).getD t []) ((bcls M c l t i).getD i []))
def bcol (j:Nat) (s:GS) (l:Rat):GS×Rat:=
 if gat j s=s.M.length then (s,l) else (⟨bcls (gm1 j s) j l s.p.length s.M.length,s.p++[j],gf1 j s⟩,el (gm1 j s) s.p.length j)
def brun:Nat→Nat→GS→Rat→GS×Rat
 | 0,_,s,l=>(s,l)
 | c+1,j,s,l=>brun c (j+1) (bcol j s l).1 (bcol j s l).2
theorem brow_len {c:Nat} {l:Rat} {a b:List Rat}:(brow c l a b).length=b.length:=by unfold brow;rw[List.length_map,List.length_range]
theorem brow_get {c:Nat} {l:Rat} {a b:List Rat} (h:a.length=b.length) {j:Nat} :
  (brow c l a b).getD j 0=if j<c then b.getD j 0 else if j=c then 0 else (a.getD c 0*b.getD j 0-b.getD c 0*a.getD j 0) / l:=by
 unfold brow
 rcases Nat.lt_or_ge j b.length with hj | hj
 ·simp only[List.getD_eq_getElem?_getD,List.getElem?_map,List.getElem?_range hj,Option.map_some,Option.getD_some]
 ·have e1:b.getD j 0=0:=by rw[List.getD_eq_getElem?_getD,List.getElem?_eq_none hj];rfl
  have e2:a.getD j 0=0:=by rw[List.getD_eq_getElem?_getD,List.getElem?_eq_none (by omega)];rfl
  rw[e1,e2,List.getD_eq_getElem?_getD,List.getElem?_eq_none (by rw[List.length_map,List.length_range];exact hj)]
  show (0:Rat)=_
  split
  ·rfl
  ·split
   ·rfl
   ·rw[Rat.mul_zero,Rat.mul_zero]
    rw[Rat.div_def]
    grind
theorem bcls_len {M:List (List Rat)} {c:Nat} {l:Rat} {t:Nat}:∀ {m:Nat},(bcls M c l t m).length=M.length
 | 0=>rfl
 | m+1=>by
  unfold bcls
  split
  ·exact bcls_len
  ·rw[List.length_set];exact bcls_len
theorem bcls_rct {M:List (List Rat)} {c:Nat} {l:Rat} {t:Nat} (h:rct k M):∀ {m:Nat},m≤M.length→rct k (bcls M c l t m)
 | 0,_=>h
 | m+1,hm=>by
  have ih:=bcls_rct (c:=c) (l:=l) (t:=t) h (m:=m) (by omega)
  unfold bcls
  split
  ·exact ih
  ·exact rct_set ih (by rw[brow_len];exact rct_getD ih (by rw[bcls_len];omega))
theorem el_bcls {M:List (List Rat)} {c:Nat} {l:Rat} {t:Nat} (h:rct k M) (ht:t<M.length) {a j:Nat}:∀ {m:Nat},m≤M.length →
  el (bcls M c l t m) a j=if t<a∧a<m then (if j<c then el M a j else if j=c then 0 else (el M t c*el M a j-el M a c*el M t j) / l) else el M a j
 | 0,_=>by rw[if_neg (by omega)];rfl
 | m+1,hm=>by
  have ih:=fun b d=>el_bcls h ht (a:=b) (j:=d) (m:=m) (c:=c) (l:=l) (by omega)
  have hr:=bcls_rct (c:=c) (l:=l) (t:=t) h (m:=m) (by omega)
  have hl:(bcls M c l t m).length=M.length:=bcls_len;unfold bcls
  by_cases hmt:m≤t
  ·rw[if_pos hmt,ih,if_neg (by omega),if_neg (by omega)]
  ·rw[if_neg hmt]
   have e1:∀ d,el (bcls M c l t m) t d=el M t d:=fun d=>by rw[ih,if_neg (by omega)]
   have e2:∀ d,el (bcls M c l t m) m d=el M m d:=fun d=>by rw[ih,if_neg (by omega)]
   show ((List.set _ m _).getD a []).getD j 0=_
   rw[getD_set (by omega)]
   by_cases ham:a=m
   ·rw[if_pos ham,if_pos (by omega),brow_get (by rw[rct_getD hr (by omega),rct_getD hr (by omega)])]
    subst ham
    show (if j<c then el (bcls M c l t a) a j else if j=c then 0 else (el (bcls M c l t a) t c*el (bcls M c l t a) a j-el (bcls M c l t a) a c*el (bcls M c l t a) t j) / l)=_
    rw[e1,e1,e2,e2]
   ·rw[if_neg ham]
    show el (bcls M c l t m) a j=_
    rw[ih]
    by_cases h2:t<a∧a<m
    ·rw[if_pos h2,if_pos (show t<a∧a<m+1 from ⟨h2.1,by omega⟩)]
    ·rw[if_neg h2,if_neg (by omega)]
structure EF (n k:Nat) (R:List (List Rat)) (p:List Nat) (j:Nat):Prop where
 len:R.length=n
 rect:rct k R
 ple:p.length≤n
 lt:∀ x∈p,x<j
 mono:p.Pairwise (· < ·)
 nz:∀ t (h:t<p.length),el R t p[t]≠0
 left:∀ t (h:t<p.length) i,i<p[t]→el R t i=0
 low:∀ s,p.length≤s→s<n→∀ i<j,el R s i=0
theorem bcol_ef {j:Nat} {s:GS} {l:Rat} (F:EF n k s.M s.p j) (hl:l≠0) :
  EF n k (bcol j s l).1.M (bcol j s l).1.p (j+1)∧(bcol j s l).2≠0∧∀ x,NS n k (bcol j s l).1.M x↔NS n k s.M x:=by
 have hle:=gat_le (j:=j) (s:=s) (by rw[F.len];exact F.ple)
 by_cases hg:gat j s=s.M.length
 ·have e:bcol j s l=(s,l):=by unfold bcol;rw[if_pos hg]
  rw[e];refine⟨⟨F.len,F.rect,F.ple,fun x hx=>by have:=F.lt x hx;omega,F.mono,F.nz,F.left,fun t h1 h2 i hi=>?_⟩,hl,fun x=>Iff.rfl⟩
  rcases Nat.lt_or_ge i j with h3 | h3
  ·exact F.low t h1 h2 i h3
  ·obtain rfl:i=j:=by omega
   exact gat_lt h1 (by rw[hg,F.len];exact h2)
 ·have ha:gat j s<s.M.length:=by omega
  have hn:=F.len;have hge:=gat_ge (j:=j) (s:=s);have e:bcol j s l=(⟨bcls (gm1 j s) j l s.p.length s.M.length,s.p++[j],gf1 j s⟩,el (gm1 j s) s.p.length j):=by unfold bcol;rw[if_neg hg]
  have r1:=gm1_rct F.rect ha;have l1:(gm1 j s).length=n:=gm1_len.trans hn;have hd:el (gm1 j s) s.p.length j≠0:=by rw[el_gm1 ha,if_pos rfl];exact gat_at ha
  have e3:=fun i c=>el_bcls (c:=j) (l:=l) (t:=s.p.length) (a:=i) (j:=c) (m:=n) r1 (by omega) (by omega)
  have z1:∀ i,s.p.length≤i→i<n→∀ c<j,el (gm1 j s) i c=0:=fun i h1 h2 c hc=>by
   rw[el_gm1 ha]
   split
   ·exact F.low _ hge (by omega) c hc
   ·split
    ·exact F.low _ (Nat.le_refl _) (by omega) c hc
    ·exact F.low i h1 h2 c hc
  have o1:∀ i<s.p.length,∀ c,el (bcls (gm1 j s) j l s.p.length n) i c=el s.M i c:=fun i hi c=>by
   rw[e3,if_neg (by omega),el_gm1 ha,if_neg (by omega),if_neg (by omega)]
  have t1:∀ c,el (bcls (gm1 j s) j l s.p.length n) s.p.length c=el (gm1 j s) s.p.length c:=fun c=>by rw[e3,if_neg (by omega)]
  have b1:∀ i,s.p.length<i→i<n→∀ c,el (bcls (gm1 j s) j l s.p.length n) i c=el (gm1 j s) i c*(el (gm1 j s) s.p.length j / l)+el (gm1 j s) s.p.length c*(-(el (gm1 j s) i j) / l):=fun i h1 h2 c=>by
   rw[e3,if_pos ⟨h1,h2⟩]
   by_cases hc:c<j
   ·rw[if_pos hc,z1 i (by omega) h2 c hc,z1 s.p.length (by omega) (by omega) c hc,Rat.zero_mul,Rat.zero_mul];exact (Rat.add_zero 0).symm
   ·rw[if_neg hc]
    by_cases hcj:c=j
    ·rw[if_pos hcj,hcj]
     generalize el (gm1 j s) i j=u;generalize el (gm1 j s) s.p.length j=v
     grind
    ·rw[if_neg hcj]
     generalize el (gm1 j s) i j=u;generalize el (gm1 j s) s.p.length j=v;generalize el (gm1 j s) i c=u';generalize el (gm1 j s) s.p.length c=v'
     grind
  have ga:∀ t (h:t<(s.p++[j]).length),(∃ h':t<s.p.length,(s.p++[j])[t]=s.p[t])∨(t=s.p.length∧(s.p++[j])[t]=j):=fun t h=>by
   rw[List.getElem_append]
   split
   ·rename_i h';exact Or.inl ⟨h',rfl⟩
   ·rename_i h'
    rw[List.length_append,List.length_singleton] at h;exact Or.inr ⟨by omega,List.getElem_singleton _⟩
  rw[e,hn];refine⟨⟨bcls_len.trans l1,bcls_rct r1 (by omega),by rw[List.length_append];show s.p.length+1≤n;omega,fun x hx=>?_,?_,fun t h=>?_,fun t h i hi=>?_,fun t h1 h2 i hi=>?_⟩,hd,fun x=>?_⟩
  ·rcases List.mem_append.1 hx with hx | hx
   ·have:=F.lt x hx;omega
   ·rw[List.mem_singleton.1 hx];exact Nat.lt_succ_self j
  ·exact List.pairwise_append.2 ⟨F.mono,List.pairwise_singleton _ _,fun a ha b hb=>by rw[List.mem_singleton.1 hb];exact F.lt a ha⟩
  ·rcases ga t h with ⟨h',g⟩ | ⟨h',g⟩
   ·show el _ t _≠0
    rw[g,o1 t h'];exact F.nz t h'
   ·show el _ t _≠0
    rw[g,h',t1];exact hd
  ·rcases ga t h with ⟨h',g⟩ | ⟨h',g⟩
   ·rw[g] at hi
    show el _ t i=0
    rw[o1 t h'];exact F.left t h' i hi
   ·rw[g] at hi
    show el _ t i=0
    rw[h',t1];exact z1 _ (Nat.le_refl _) (by omega) i hi
  ·rw[List.length_append,List.length_singleton] at h1
   show el _ t i=0
   rcases Nat.lt_or_ge i j with h3 | h3
   ·rw[b1 t (by omega) h2,z1 t (by omega) h2 i h3,z1 s.p.length (by omega) (by omega) i h3,Rat.zero_mul,Rat.zero_mul];exact Rat.add_zero 0
   ·obtain rfl:i=j:=by omega
    rw[e3,if_pos ⟨by omega,h2⟩,if_neg (by omega),if_pos rfl]
  ·rw[←ns_gm1 (s:=s) (j:=j) hn (by omega)]
   have d1:dt k (bcls (gm1 j s) j l s.p.length n) x s.p.length=dt k (gm1 j s) x s.p.length:=dt_congr t1;have d0:∀ i<s.p.length,dt k (bcls (gm1 j s) j l s.p.length n) x i=dt k (gm1 j s) x i:=fun i hi=>dt_congr fun c=>by rw[o1 i hi,el_gm1 ha,if_neg (by omega),if_neg (by omega)]
   have d2:∀ i,s.p.length<i→i<n→dt k (bcls (gm1 j s) j l s.p.length n) x i=dt k (gm1 j s) x i*(el (gm1 j s) s.p.length j / l)+dt k (gm1 j s) x s.p.length*(-(el (gm1 j s) i j) / l):=fun i h1 h2=>by
    unfold dt;rw[←sm_mul,←sm_mul,←sm_add];exact sm_congr fun c _=>by rw[b1 i h1 h2];generalize el (gm1 j s) i j=u;generalize el (gm1 j s) s.p.length j=v;grind
   constructor
   ·intro h i hi
    have ht:=h s.p.length (by omega)
    have ht:dt k (bcls (gm1 j s) j l s.p.length n) x s.p.length=0:=ht;rw[d1] at ht
    rcases Nat.lt_trichotomy i s.p.length with g | g | g
    ·rw[←d0 i g];exact h i hi
    ·rw[g];exact ht
    ·have:=h i hi
     have this:dt k (bcls (gm1 j s) j l s.p.length n) x i=0:=this;rw[d2 i g hi,ht,Rat.zero_mul,Rat.add_zero] at this;generalize dt k (gm1 j s) x i=u at this ⊢;generalize el (gm1 j s) s.p.length j=v at this hd
     grind
   ·intro h i hi
    show dt k (bcls (gm1 j s) j l s.p.length n) x i=0
    rcases Nat.lt_trichotomy i s.p.length with g | g | g
    ·rw[d0 i g];exact h i hi
    ·rw[g,d1];exact h _ (by omega)
    ·rw[d2 i g hi,h i hi,h s.p.length (by omega),Rat.zero_mul,Rat.zero_mul];exact Rat.add_zero 0
theorem brun_ef:∀ {c j:Nat} {s:GS} {l:Rat},EF n k s.M s.p j→l≠0 →
  EF n k (brun c j s l).1.M (brun c j s l).1.p (j+c)∧(brun c j s l).2≠0∧∀ x,NS n k (brun c j s l).1.M x↔NS n k s.M x
 | 0,_,_,_,F,hl=>⟨F,hl,fun _=>Iff.rfl⟩
 | c+1,j,s,l,F,hl=>by
  obtain⟨h1,h2,h3⟩:=bcol_ef F hl;obtain⟨g1,g2,g3⟩:=brun_ef (c:=c) h1 h2;refine⟨?_,g2,fun x=>(g3 x).trans (h3 x)⟩
  rw[Nat.add_assoc,Nat.add_comm 1 c] at g1;exact g1
theorem ef_start {M:List (List Rat)} (hn:M.length=n) (h:rct k M):EF n k M [] 0:=
 ⟨hn,h,Nat.zero_le _,fun _ h=>absurd h List.not_mem_nil,List.Pairwise.nil,fun _ h=>absurd h (Nat.not_lt_zero _),fun _ h=>absurd h (Nat.not_lt_zero _),fun _ _ _ _ h=>absurd h (Nat.not_lt_zero _)⟩
end GE
