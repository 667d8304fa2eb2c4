/- Lists of numbers and matrices that came in. -/
import Derived.Test.YtfnkpfbobdmieaaGreatM22
import Derived.Test.YtfnkpfbobdmieaaGreatB15
import Derived.Laws.CopyRow
import Derived.Test.YtfnkpfbobdmieaaGreatM28
set_option maxRecDepth 100000
set_option maxHeartbeats 40000000
set_option linter.unusedVariables false
namespace Go.Proofs.YtfnkpfbobdmieaaGreat
open Go.ChangeShapes Go.WideShapes Go.ChangeAt Go.RowKit Go.Joins Go.Deep RQ
theorem cells_get {w:World} {base:Nat} {a:Addr} {n:Nat} {cs:List Value} (h:w.cells? base a n=some cs):cs.length=n∧∀ i,i<n→w.cell? (a.add i)=cs[i]?:=by
 unfold World.cells? at h
 split at h
 ·exact⟨by simpa using mapM_some_length h,fun i hi=>mapM_some_get h i i (by simp[hi])⟩
 ·cases h
theorem spot_none {w:World} {a:Addr} {v:Value} (h:w.cell? a=some v):a=⟨a.block,a.off,none⟩∧a.block<w.heap.size:=by
 obtain⟨b,o,s⟩:=a;unfold World.cell? at h
 split at h
 ·rename_i hb
  cases s with
  | none=>exact⟨rfl,(Array.getElem?_eq_some_iff.1 hb).1⟩
  | some z=>simp at h
 ·cases h
theorem add_n (b o k:Nat):(⟨b,o,none⟩:Addr).add k=⟨b,o+k,none⟩:=by unfold Addr.add;split<;>simp_all
theorem cMat:Tryz.prog.cellsOf 23=1:=by kernel_rfl
theorem open_rats {H:Type} {enc:TypeId×Value→H} {W:World} {n:Nat} {v:Value} {x:DataW H×List MemPlace} (h:DataW.trod enc Tryz.prog W 0 (fun _=>true) true n 23 [v]=some x) :
  ∃ (A:Option Addr) (len cap:Nat) (L:List Rt),v=.slice A len cap∧Sr W A len cap L∧inL L∧(∀ r∈L,r.q=rv r.b r.x r.y)∧len≤9223372036854775807:=by
 rcases DataW.trod_slice Tryz.underlying23 h with ⟨h0,_⟩ | ⟨a,len,cap,elems,rest,m,_,h0,_,hb,hl,hm,hlen,hel,_,_⟩
 ·obtain rfl:v=.slice none 0 0:=by simpa using h0
  exact⟨none,0,0,[],rfl,Sr.none_ _ _ _,fun r hr=>(by cases hr),fun r hr=>(by cases hr),by omega⟩
 ·obtain rfl:v=.slice (some a) len cap:=by simpa using h0
  have hm':len≤9223372036854775807:=by unfold maxLen at hm;omega
  rw[cRat] at hel;have each:∀ i,i<len→∃ r:Rt,(W.cell? (a.add (i*3))=some (.bool r.b)∧W.cell? ((a.add (i*3)).add 1)=some (.slice r.A r.n r.c)∧W.cell? ((a.add (i*3)).add 2)=some (.slice r.D r.m r.d))∧r.raw W∧(r.n≤9223372036854775807∧r.m≤9223372036854775807)∧r.q=rv r.b r.x r.y:=by
   intro i hi;have e:=hel i hi;rw[List.getElem?_eq_getElem (by omega),Option.bind_eq_some_iff] at e
   obtain⟨cs,hcs,hy⟩:=e;obtain⟨hcl,hcg⟩:=cells_get hcs
   match cs,hcl with
   | [c0,c1,c2],_=>
    obtain⟨b,A1,n1,k1,xs,A2,n2,k2,ds,rfl,rfl,rfl,R1,m1,R2,m2⟩:=open_rat_cells hy;exact⟨⟨b,A1,n1,k1,xs,A2,n2,k2,ds,rv b xs ds⟩,⟨hcg 0 (by omega),hcg 1 (by omega),hcg 2 (by omega)⟩,⟨R1,R2⟩,⟨m1,m2⟩,rfl⟩
  rcases Nat.eq_zero_or_pos len with h0 | h0
  ·subst h0
   exact⟨some a,0,cap,[],rfl,Sr.none_ _ _ _,fun r hr=>(by cases hr),fun r hr=>(by cases hr),by omega⟩
  ·obtain⟨r0,⟨e0,_,_⟩,_⟩:=each 0 h0
   have ea:a.add (0*3)=a:=by simp[Addr.add]
   rw[ea] at e0;obtain⟨ha,hblt⟩:=spot_none e0;obtain⟨b,o,s⟩:=a;obtain rfl:s=none:=by injection ha
   refine⟨_,len,cap,(List.range len).map (fun i=>if hi:i<len then (each i hi).choose else Zt),rfl,⟨by simp,hl,.inr ⟨b,o,rfl,hblt,fun i r hi=>?_⟩,fun r hr=>?_⟩,fun r hr=>?_,fun r hr=>?_,hm'⟩
   ·have hil:i<len:=by
     have:=(List.getElem?_eq_some_iff.1 hi).1
     simpa using this
    have er:r=(each i hil).choose:=by
     rw[List.getElem?_map,List.getElem?_range hil] at hi
     simpa [hil] using hi.symm
    obtain⟨⟨k0,k1,k2⟩,_⟩:=(each i hil).choose_spec;rw[←er] at k0 k1 k2;rw[add_n] at k0 k1 k2;rw[add_n] at k1 k2;exact⟨k0,k1,k2⟩
   all_goals
    obtain⟨i,hi,rfl⟩:=List.mem_map.1 hr;have hil:i<len:=by simpa using hi
    simp only[hil,dite_true]
   ·exact (each i hil).choose_spec.2.1
   ·exact (each i hil).choose_spec.2.2.1
   ·exact (each i hil).choose_spec.2.2.2
theorem open_mat {H:Type} {enc:TypeId×Value→H} {W:World} {n:Nat} {v:Value} {x:DataW H×List MemPlace} (h:DataW.trod enc Tryz.prog W 0 (fun _=>true) true n 22 [v]=some x) :
  ∃ (A:Option Addr) (len cap:Nat) (M:List Ro),v=.slice A len cap∧Mr W A len cap M∧(∀ r∈M,inL r.L∧r.n≤9223372036854775807∧∀ x∈r.L,x.q=rv x.b x.x x.y)∧len≤9223372036854775807:=by
 rcases DataW.trod_slice Tryz.underlying22 h with ⟨h0,_⟩ | ⟨a,len,cap,elems,rest,m,_,h0,_,hb,hl,hm,hlen,hel,_,_⟩
 ·obtain rfl:v=.slice none 0 0:=by simpa using h0
  exact⟨none,0,0,[],rfl,⟨rfl,Nat.le_refl _,.inl rfl,fun r hr=>(by cases hr)⟩,fun r hr=>(by cases hr),by omega⟩
 ·obtain rfl:v=.slice (some a) len cap:=by simpa using h0
  have hm':len≤9223372036854775807:=by unfold maxLen at hm;omega
  rw[cMat] at hel;have each:∀ i,i<len→∃ r:Ro,W.cell? (a.add (i*1))=some (.slice r.A r.n r.c)∧Sr W r.A r.n r.c r.L∧(inL r.L∧r.n≤9223372036854775807∧∀ x∈r.L,x.q=rv x.b x.x x.y):=by
   intro i hi;have e:=hel i hi;rw[List.getElem?_eq_getElem (by omega),Option.bind_eq_some_iff] at e
   obtain⟨cs,hcs,hy⟩:=e;obtain⟨hcl,hcg⟩:=cells_get hcs
   match cs,hcl with
   | [c0],_=>
    obtain⟨A1,n1,k1,L,rfl,S1,h1,h2,h3⟩:=open_rats hy;exact⟨⟨A1,n1,k1,L⟩,hcg 0 (by omega),S1,h1,h3,h2⟩
  rcases Nat.eq_zero_or_pos len with h0 | h0
  ·subst h0
   exact⟨some a,0,cap,[],rfl,⟨rfl,Nat.zero_le _,.inl rfl,fun r hr=>(by cases hr)⟩,fun r hr=>(by cases hr),by omega⟩
  ·obtain⟨r0,e0,_⟩:=each 0 h0
   have ea:a.add (0*1)=a:=by simp[Addr.add]
   rw[ea] at e0;obtain⟨ha,hblt⟩:=spot_none e0;obtain⟨b,o,s⟩:=a;obtain rfl:s=none:=by injection ha
   refine⟨_,len,cap,(List.range len).map (fun i=>if hi:i<len then (each i hi).choose else Ro0),rfl,⟨by simp,hl,.inr ⟨b,o,rfl,hblt,fun i r hi=>?_⟩,fun r hr=>?_⟩,fun r hr=>?_,hm'⟩
   ·have hil:i<len:=by
     have:=(List.getElem?_eq_some_iff.1 hi).1
     simpa using this
    have er:r=(each i hil).choose:=by
     rw[List.getElem?_map,List.getElem?_range hil] at hi
     simpa [hil] using hi.symm
    have k0:=(each i hil).choose_spec.1;rw[←er] at k0;rw[add_n,Nat.mul_one] at k0;exact k0
   all_goals
    obtain⟨i,hi,rfl⟩:=List.mem_map.1 hr;have hil:i<len:=by simpa using hi
    simp only[hil,dite_true]
   ·exact (each i hil).choose_spec.2.1
   ·exact (each i hil).choose_spec.2.2
end Go.Proofs.YtfnkpfbobdmieaaGreat
namespace Go.Proofs.YtfnkpfbobdmieaaGreat
open Go.RowKit RQ GE
set_option linter.unusedVariables false
theorem sr_cells {W:World} {b o n c:Nat} {L:List Rt} (h:Sr W (some ⟨b,o,none⟩) n c L) (hn:0<n):∀ j v,(csE L)[j]?=some v→W.cell? ((⟨b,o,none⟩:Addr).add j)=some v:=by
 intro j v hv;have hadd:(⟨b,o,none⟩:Addr).add j=⟨b,o+j,none⟩:=by unfold Addr.add;split<;>simp_all
 rw[hadd]
 rcases h.mem with h0 | ⟨b',o',hA,hlt,hc⟩
 ·omega
 ·obtain⟨rfl,rfl⟩:b=b'∧o=o':=by simp only[Option.some.injEq,Addr.mk.injEq] at hA;exact⟨hA.1,hA.2.1⟩
  have hj:j<L.length*3:=by rw[←csE_len];exact (List.getElem?_eq_some_iff.1 hv).1
  have h3:=Nat.div_add_mod j 3;have hm:=Nat.mod_lt j (show 0<3 by decide)
  have hi:j / 3<L.length:=by omega
  have hx:L[j / 3]?=some L[j / 3]:=List.getElem?_eq_getElem hi
  obtain⟨e0,e1,e2⟩:=csE_get hx;obtain⟨k0,k1,k2⟩:=hc _ _ hx;have hcs:j%3=0∨j%3=1∨j%3=2:=by omega
  rcases hcs with h | h | h
  ·rw[show j=j / 3*3 by omega] at hv ⊢
   rw[e0] at hv;rw[k0];exact hv
  ·rw[show j=j / 3*3+1 by omega] at hv ⊢
   rw[e1] at hv;rw[←Nat.add_assoc,k1];exact hv
  ·rw[show j=j / 3*3+2 by omega] at hv ⊢
   rw[e2] at hv;rw[←Nat.add_assoc,k2];exact hv
theorem csE_one (L:List Rt):∀ v∈csE L,v.oneCell'=true:=by
 intro v hv;obtain⟨r,_,hr⟩:=List.mem_flatMap.1 hv
 simp[Rt.cs] at hr
 rcases hr with rfl | rfl | rfl<;>rfl
theorem run_copy_rat (w:World) (g o dLen dCap b sOff sLen sCap:Nat) (cur:Array Value) (t:Nat) (L:List Rt) (hg:w.heap[g]?=some (.cells cur t (0,0))) (hn:Nat.min sLen dLen=sLen) (h:Sr w (some ⟨b,sOff,none⟩) sLen sCap L) (h0:0<sLen) (hfit:o+sLen*3≤cur.size) :
  (Builtin.copy_ #[23,23] 3 #[.slice (some ⟨g,o,none⟩) dLen dCap,.slice (some ⟨b,sOff,none⟩) sLen sCap]).run Tryz.prog w=.ok (goInt sLen) (w.setRow g (cur.toList.take o++csE L++cur.toList.drop (o+sLen*3)).toArray):=by
 have hlen:(csE L).length=sLen*3:=by rw[csE_len,h.len]
 have hl:=run_loadCells_list (P:=Tryz.prog) w ⟨b,sOff,none⟩ (csE L) (sr_cells h h0);have hst:=run_storeCells_at Tryz.prog g o t (csE L) 0 cur w hg (by rw[hlen];simpa using hfit) (csE_one L)
 rw[hlen] at hl hst;obtain⟨i0,hi,hzz⟩:=Option.map_eq_some_iff.1 infoR;simp only[Prod.mk.injEq] at hzz;obtain⟨hz0,hz1,hz2⟩:=hzz
 simp[Builtin.copy_,run_underlying Tryz.underlying23,Builtin.lenOf,Builtin.firstCells,sizeOf,typeInfo,hi,hz1,hn,hl,hst]
theorem csE_drop:∀ (L:List Rt) (p:Nat),(csE L).drop (p*3)=csE (L.drop p)
 | _,0=>by rw[Nat.zero_mul,List.drop_zero,List.drop_zero]
 | [],p+1=>by show List.drop _ []=_;rw[List.drop_nil];rfl
 | r::L,p+1=>by
  show ([Value.bool r.b,.slice r.A r.n r.c,.slice r.D r.m r.d]++csE L).drop ((p+1)*3)=csE (L.drop p)
  rw[←csE_drop L p,show (p+1)*3=[Value.bool r.b,.slice r.A r.n r.c,.slice r.D r.m r.d].length+p*3 by show _=3+p*3;omega,←List.drop_drop,List.drop_left]
def RetJ (L:List Rt) (n:Nat) (w:World) (e:Ending) (w':World):Prop:=∃ g,e=.returned (.slice (some ⟨g,0,none⟩) n n)∧w.heap.size≤g∧Cb w' g (csE L).toArray 45∧L.length=n∧Below w.heap.size w w'
theorem join1 {La Z:List Rt} {p m:Nat} (hp:La.length=p) (hz:Z.length=m):(csE Z).toArray.toList.take 0++csE La++(csE Z).toArray.toList.drop (0+p*3)=csE (La++Z.drop p):=by
 rw[List.toList_toArray,List.take_zero,List.nil_append,Nat.zero_add,csE_app,csE_drop]
theorem join2 {La Lb R:List Rt} {p q:Nat} (hp:La.length=p) (hq:Lb.length=q) (hR:R.length=q):(csE (La++R)).toArray.toList.take (p*3)++csE Lb++(csE (La++R)).toArray.toList.drop (p*3+q*3)=csE (La++Lb):=by
 rw[List.toList_toArray,csE_app,csE_app];have l1:(csE La).length=p*3:=by rw[csE_len,hp]
 rw[List.take_append_of_le_length (by omega),List.take_of_length_le (by omega),List.drop_eq_nil_of_le (by rw[List.length_append,l1,csE_len,hR];omega),List.append_nil]
theorem joined_any (La Lb:List Rt) (A B:Option Addr) (p q c c':Nat) (w:World) (h:Sr w A p c La) (h':Sr w B q c' Lb) (p0:0<p) (q0:0<q) (p1:p≤1000) (q1:q≤1000):Calls Tryz.prog 54 #[.slice A p c,.slice B q c'] w (RetJ (La++Lb) (p+q) w):=by
 obtain⟨b,o,rfl⟩:∃ b o,A=some ⟨b,o,none⟩:=by
  obtain⟨b,o,_,hA,_⟩:=h.get p0;exact⟨b,o,hA⟩
 obtain⟨b2,o2,rfl⟩:∃ b o,B=some ⟨b,o,none⟩:=by
  obtain⟨b,o,_,hA,_⟩:=h'.get q0;exact⟨b,o,hA⟩
 have hmk:∀ w,(Instr.makeSlice 23 (.int .i64 ((p:Int)+(q:Int))) (.int .i64 ((p:Int)+(q:Int)))).run Tryz.prog w=.ok (.slice (some ⟨w.heap.size,0,none⟩) (p+q) (p+q)) (w.alloc (.cells (csE (List.replicate (p+q) Zt)).toArray 45)):=fun w=>by
  have:=make_rat (p+q) (by omega) w
  rwa [Int.natCast_add] at this
 have S0:=Lib.hid ((St.new w).allocAt w.heap.size (csE (List.replicate (p+q) Zt)).toArray 45 (NoLl.csE _).arr rfl);replace h:=Lib.hid h;replace h':=Lib.hid h';have hp0:=Lib.hid p0;have hq0:=Lib.hid q0;go_enter Tryz.func54,Tryz.ntmps54;go_upto_region 2 with fail
 obtain⟨g,hg⟩:∃ g,g=w.heap.size:=⟨_,rfl⟩;obtain⟨W1,hW1⟩:∃ W,W=w.alloc (.cells (csE (List.replicate (p+q) Zt)).toArray 45):=⟨_,rfl⟩;rw[←hg,←hW1] at S0 ⊢;clear hW1;have hb1:=S0.out.bk _ List.mem_cons_self;have c1:=run_copy_rat W1 g 0 (p+q) (p+q) b o p c _ _ La hb1.1 (Nat.min_eq_left (by omega)) (h.out.bel S0.out.bel) p0 (by rw[List.size_toArray,csE_len,List.length_replicate];omega)
 have S1:=S0.out.setRow (cs':=(csE (La++(List.replicate (p+q) Zt).drop p)).toArray) (NoLl.csE _).arr;rw[join1 h.out.len (List.length_replicate)] at c1;obtain⟨W2,hW2⟩:∃ W,W=W1.setRow g (csE (La++(List.replicate (p+q) Zt).drop p)).toArray:=⟨_,rfl⟩;rw[←hW2] at c1 S1;have hb2:=S1.bk _ List.mem_cons_self;have c2:=run_copy_rat W2 g (p*3) q q b2 o2 q c' _ _ Lb hb2.1 (Nat.min_eq_left (by omega)) (h'.out.bel S1.bel) q0 (by rw[List.size_toArray,csE_len,List.length_append,List.length_drop,List.length_replicate,h.out.len];omega)
 have S2:=S1.setRow (cs':=(csE (La++Lb)).toArray) (NoLl.csE _).arr;rw[join2 h.out.len h'.out.len (by rw[List.length_drop,List.length_replicate];omega)] at c2
 obtain⟨W3,hW3⟩:∃ W,W=W2.setRow g (csE (La++Lb)).toArray:=⟨_,rfl⟩;rw[←hW3] at c2 S2;replace S2:=Lib.hid S2;have hlen:Hid ((La++Lb).length=p+q):=Lib.hid (by rw[List.length_append,h.out.len,h'.out.len])
 clear S1 S0 hb1 hb2 hW2 hW3 hmk h h' hg;go_wp2;go_ret;exact⟨g,rfl,(S2.out.bk _ List.mem_cons_self).2.2,(S2.out.bk _ List.mem_cons_self).1,hlen.out,S2.out.bel⟩
end Go.Proofs.YtfnkpfbobdmieaaGreat
namespace Go.Proofs.YtfnkpfbobdmieaaGreat
open Go.RowKit RQ GE
set_option linter.unusedVariables false
def Wm (w W:World) (g n:Nat) (B:List Nat) (m:Nat) (R:List (List Rt)) (zs:List Bk):Prop:=
 ∃ (ys:List Bk) (rs:List Rdg),St w W (MB g (B.map (rowv m)++List.replicate (n-B.length) (.slice none 0 0)) B R++(zs++ys)) rs∧R.length=B.length∧(∀ L∈R,L.length=m)∧∀ L∈R,∀ x∈L,x.rdIn rs
section
variable {w W W':World} {g n m:Nat} {B:List Nat} {R:List (List Rt)} {zs:List Bk}
theorem Wm.call (h:Wm w W g n B m R zs) (hb:Below W.heap.size W W'):Wm w W' g n B m R zs:=by
 obtain⟨ys,rs,S,h⟩:=h;exact⟨ys,rs,S.call hb,h⟩
theorem Wm.bel (h:Wm w W g n B m R zs):Below w.heap.size w W:=by
 obtain⟨ys,rs,S,h⟩:=h;exact S.bel
theorem Wm.len (h:Wm w W g n B m R zs):R.length=B.length:=by
 obtain⟨ys,rs,S,h,_⟩:=h;exact h
theorem Wm.start (S:St w W [(g,(csR (List.replicate n Ro0)).toArray,23)] []):Wm w W g n [] m [] []:=by
 refine⟨[],[],?_,rfl,fun L hL=>(by cases hL),fun L hL=>(by cases hL)⟩
 have e:csR (List.replicate n Ro0)=([]:List Nat).map (rowv m)++List.replicate (n-([]:List Nat).length) (.slice none 0 0):=by
  unfold csR;rw[List.map_replicate];rfl
 rw[e] at S;exact S
theorem Wm.own {h0:Nat} (h:Wm w W g n B m R zs) (hb:Below W.heap.size W W') {t:Nat} {cs:Array Value} (hg:W.heap.size≤h0) (hc:Cb W' h0 cs t) (hn:NoL cs):Wm w W' g n B m R ((h0,cs,t)::zs):=by
 obtain⟨ys,rs,S,h⟩:=h;exact⟨ys,rs,(St_own S hb hg hc hn).prm List.perm_middle.symm,h⟩
theorem Wm.nil (h:Wm w W g n B m R zs) (hi:B.length<n):W.cell? ⟨g,B.length,none⟩=some (.slice none 0 0)∧∀ k,W.frozen? ⟨g,k,none⟩=false:=by
 obtain⟨ys,rs,S,h⟩:=h;refine MB_cell S ?_
 rw[List.getElem?_append_right (by rw[List.length_map];exact Nat.le_refl _),List.length_map,Nat.sub_self,List.getElem?_replicate,if_pos (by omega)]
theorem Wm.row {h0:Nat} {L:List Rt} (h:Wm w W g n B m R ((h0,(csE L).toArray,45)::zs)) (hi:B.length<n) (hL:L.length=m) (hx:∀ x∈L,x.raw W):Wm w (W.setCell ⟨g,B.length,none⟩ (.slice (some ⟨h0,0,none⟩) m m)) g n (B++[h0]) m (R++[L]) zs:=by
 obtain⟨ys,rs,S,hl,hm,hr⟩:=h;have S1:=St_rds S hx;have S2:=S1.prm (bs':=(g,(B.map (rowv m)++List.replicate (n-B.length) (Value.slice none 0 0)).toArray,23)::(List.zipWith rowb (B++[h0]) (R++[L])++(zs++ys))) (by
  rw[List.zipWith_append (by rw[hl])]
  show ((g,_)::(List.zipWith rowb B R++(rowb h0 L::(zs++ys)))).Perm ((g,_)::((List.zipWith rowb B R++[rowb h0 L])++(zs++ys)))
  rw[List.append_assoc];exact List.Perm.refl _)
 have S3:=S2.set 0 B.length (.slice (some ⟨h0,0,none⟩) m m) rfl (by nofun)
 have hV:((B.map (rowv m)++List.replicate (n-B.length) (Value.slice none 0 0)).toArray.setIfInBounds B.length (.slice (some ⟨h0,0,none⟩) m m))=((B++[h0]).map (rowv m)++List.replicate (n-(B++[h0]).length) (Value.slice none 0 0)).toArray:=by
  rw[List.setIfInBounds_toArray,List.set_append_right _ _ (by rw[List.length_map];exact Nat.le_refl _),List.length_map,Nat.sub_self,List.length_append,List.length_singleton,List.map_append]
  rw[show n-B.length=(n-(B.length+1))+1 by omega,List.replicate_succ,List.set_cons_zero,List.append_assoc]
  rfl
 rw[hV] at S3;refine⟨ys,_,S3,by rw[List.length_append,List.length_append,hl];rfl,fun L' h'=>?_,fun L' h' x hx'=>?_⟩
 ·rcases List.mem_append.1 h' with h' | h'
  ·exact hm L' h'
  ·rw[List.mem_singleton.1 h'];exact hL
 ·rcases List.mem_append.1 h' with h' | h'
  ·exact⟨List.mem_append_right _ (hr L' h' x hx').1,List.mem_append_right _ (hr L' h' x hx').2⟩
  ·rw[List.mem_singleton.1 h'] at hx'
   exact rdsOf_in hx'
theorem Wm.mat (h:Wm w W g n B m R zs) (hn:B.length=n):Mr W (some ⟨g,0,none⟩) n n (KR m B R)∧(∀ r∈KR m B R,r.n=m)∧qM (KR m B R)=R.map (fun L=>L.map (·.q)):=by
 obtain⟨ys,rs,S,hl,hm,hr⟩:=h;rw[hn,Nat.sub_self,List.replicate_zero,List.append_nil] at S;refine⟨⟨?_,Nat.le_refl _,.inr ⟨g,0,rfl,(S.bk (g,(B.map (rowv m)).toArray,23) (List.mem_append_left _ List.mem_cons_self)).1.lt,fun i r hi=>?_⟩,fun r hr'=>?_⟩,fun r hr'=>?_,KR_q hl⟩
 ·unfold KR;rw[List.length_zipWith,hl,Nat.min_self,hn]
 ·obtain⟨b,L,hb,hL,rfl⟩:=KR_of hi
  rw[Nat.zero_add];exact (MB_cell S (v:=rowv m b) (by rw[List.getElem?_map,hb];rfl)).1
 ·obtain⟨i,hi⟩:=List.getElem?_of_mem hr'
  obtain⟨b,L,hb,hL,rfl⟩:=KR_of hi;have hLm:=List.mem_of_getElem? hL;exact St_srm S (g:=b) (t:=45) ((MB_perm hb hL).mem_iff.2 List.mem_cons_self) (hm L hLm) (hr L hLm)
 ·obtain⟨i,hi⟩:=List.getElem?_of_mem hr'
  obtain⟨b,L,hb,hL,rfl⟩:=KR_of hi
  rfl
end
theorem Sr.cut {W:World} {b n c:Nat} {L:List Rt} (h:Sr W (some ⟨b,0,none⟩) (n+n) c L):Sr W (some ⟨b,n*3,none⟩) n n (L.drop n):=by
 refine⟨by rw[List.length_drop,h.len];omega,Nat.le_refl _,?_,fun r hr=>h.rd r (List.mem_of_mem_drop hr)⟩
 rcases h.mem with h0 | ⟨b',o',hA,hlt,hc⟩
 ·left;omega
 ·right
  obtain⟨rfl,rfl⟩:b=b'∧0=o':=by simp only[Option.some.injEq,Addr.mk.injEq] at hA;exact⟨hA.1,hA.2.1⟩
  refine⟨b,n*3,rfl,hlt,fun i r hi=>?_⟩
  rw[List.getElem?_drop] at hi
  obtain⟨k0,k1,k2⟩:=hc _ _ hi;rw[Nat.zero_add,show (n+i)*3=n*3+i*3 by omega] at k0 k1 k2
  exact⟨k0,k1,k2⟩
end Go.Proofs.YtfnkpfbobdmieaaGreat
namespace Go.Proofs.YtfnkpfbobdmieaaGreat
open Go.RowKit RQ GE
set_option linter.unusedVariables false
theorem zip_all:∀ {L:List Gw} {r:List Rat},L.length=r.length→csE (List.zipWith rtW L r)=rwC.all L
 | [],[],_=>rfl
 | x::L,q::r,h=>by
  show [Value.bool x.b,.slice x.x.A x.x.n x.x.c,.slice x.y.A x.y.n x.y.c]++csE (List.zipWith rtW L r)=rwC.cs x++rwC.all L
  rw[zip_all (by simpa using h)];rfl
theorem Apd.onto {w V W:World} {B:List Bk} {rs rs3:List Rdg} {e size n:Nat} {v:Value} {xs:List Value} (S:St w V B rs) (h:Apd V W [] rs3 e size v n xs):Apd w W B (rs++rs3) e size v n xs:=by
 obtain⟨h1,h2,⟨rfl,h0,S'⟩ | ⟨g,cap,cur,rfl,k2,k3,k4,k5,S'⟩⟩:=h
 ·refine⟨h1,h2,.inl ⟨rfl,h0,?_⟩⟩
  have:=S.join S'
  rwa [List.append_nil] at this
 ·exact⟨h1,h2,.inr ⟨g,cap,cur,rfl,k2,k3,k4,k5,(S.join S').prm List.perm_append_comm⟩⟩
def RowA (M:List Rat) (w:World) (e:Ending) (w':World):Prop:=∃ v L rs,e=.returned v∧Apd w w' [] rs 45 3 v L.length (csE L)∧(∀ x∈L,x.can∧x.rdIn rs)∧L.map (·.q)=M
theorem RowG.apd {M:List Rat} {w:World} {e:Ending} {w':World} (h:RowG M w e w') (hs:∀ q∈M,Rs q 9000000):RowA M w e w':=by
 obtain⟨v,L,rs,rfl,G,hI,hV⟩:=h;have hl:L.length=M.length:=by have:=congrArg List.length hV;simpa using this
 refine⟨v,List.zipWith rtW L M,rs,rfl,?_,fun y hy=>?_,zip_q hl⟩
 ·rw[zip_all hl,List.length_zipWith,←hl,Nat.min_self];exact G.1
 ·obtain⟨i,hi⟩:=List.getElem?_of_mem hy
  obtain⟨x,q,hx,hq,rfl,e⟩:=zip_at hV hi;exact⟨rtW_can e (hs q (List.mem_of_getElem? hq)),hI x (List.mem_of_getElem? hx)⟩
theorem wfM_of {K:List Ro} {m:Nat} (h:∀ r∈K,r.n=m) (h1:1≤m) (h2:m≤96) (h3:K.length≤96):wfM K=true:=by
 unfold wfM;rw[Bool.and_eq_true];refine⟨decide_eq_true h3,List.all_eq_true.2 fun r hr=>?_⟩
 have hc:colM K=m:=by
  match K,hr with
  | s::_,_=>exact h s List.mem_cons_self
 unfold rowM;rw[hc,h r hr]
 simp[h1,h2]
theorem colM_of {K:List Ro} {m:Nat} (h:∀ r∈K,r.n=m) (h0:0<K.length):colM K=m:=by
 match K,h0 with
 | s::_,_=>exact h s List.mem_cons_self
end Go.Proofs.YtfnkpfbobdmieaaGreat
namespace Go.Proofs.YtfnkpfbobdmieaaGreat
open Go.RowKit RQ GE
set_option linter.unusedVariables false
def RetSm (M:List Ro) (n:Nat) (w:World) (e:Ending) (w':World):Prop:=∃ b,e=.returned (.bool b)∧(b=true→(n≤4∧∀ r∈M,∀ x∈r.L,r.n≤4∧x.n≤2∧x.m≤2))∧Below w.heap.size w w'
theorem small_any (M:List Ro) (A:Option Addr) (n c:Nat) (w:World) (h:Mr w A n c M) (hm:∀ r∈M,inL r.L∧r.n≤9223372036854775807) (hn:n≤9223372036854775807):Calls Tryz.prog 19 #[.slice A n c] w (RetSm M n w):=by
 have hmh:=Lib.hid hm
 by_cases hn4:n≤4
 ·have hi4:¬ (4<(n:Int)):=by omega
  have hn4h:=Lib.hid hn4;have S:=Lib.hid (St.new w);replace h:=Lib.hid h;clear hm hn;go_enter Tryz.func19,Tryz.ntmps19;go_wp2
  go_loopw [3] (fun iv wr=>∃ i:Nat,i≤n∧iv=.int .i64 i∧St w wr [] []∧∀ (k:Nat) (r:Ro),k<i→M[k]?=some r→∀ x∈r.L,r.n≤4∧x.n≤2∧x.m≤2) (fun iv _=>n-(intOf iv).toNat)
  case atStart=>exact⟨0,Nat.zero_le _,rfl,S.out,fun k r hk=>absurd hk (Nat.not_lt_zero _)⟩
  case round=>
   clear S;obtain⟨i,hin,rfl,S,hall⟩:=hrel;rename World=>V0
   by_cases hlt:i<n
   ·have g1:(i:Int)<(n:Int):=by omega
    have g2:(0:Int)≤(i:Int):=by omega
    have hih:=Lib.hid hlt;have hMi:∃ r,M[i]?=some r:=⟨M[i]'(by rw[h.out.len];exact hlt),List.getElem?_eq_getElem _⟩
    obtain⟨r,hr⟩:=hMi;have hrm:=List.mem_of_getElem? hr;have hrl:r.n≤9223372036854775807:=(hmh.out r hrm).2;have hinL:=Lib.hid (hmh.out r hrm).1;have hrh:=Lib.hid hr;have hrmh:=Lib.hid hrm;replace S:=Lib.hid S;replace hall:=Lib.hid hall;clear hlt hin hr hrm;go_wp2
    go_loopw [4] (fun jv wr=>∃ j:Nat,j≤r.n∧jv=.int .i64 j∧St w wr [] []∧∀ (k:Nat) (x:Rt),k<j→r.L[k]?=some x→r.n≤4∧x.n≤2∧x.m≤2) (fun jv _=>r.n-(intOf jv).toNat)
    case atStart=>exact⟨0,Nat.zero_le _,rfl,S.out,fun k x hk=>absurd hk (Nat.not_lt_zero _)⟩
    case round=>
     clear S;obtain⟨j,hjn,rfl,S,hal2⟩:=hrel;rename World=>V1
     have hM:=h.out.bel S.bel;obtain⟨b,o,r',rfl,hr',hrm',e0⟩:=hM.get hih.out;rw[hrh.out] at hr';obtain rfl:=Option.some.inj hr';have hrow:=hM.rd r hrm'
     by_cases hlj:j<r.n
     ·have g3:(j:Int)<(r.n:Int):=by omega
      have g4:(0:Int)≤(j:Int):=by omega
      have hjh:=Lib.hid hlj;obtain⟨b2,o2,x,hA2,hx,hxm,k0,k1,k2⟩:=hrow.get hlj;rw[hA2] at e0;have hxl:=hinL.out x hxm;have hx1:x.n≤9223372036854775807:=hxl.1;have hx2:x.m≤9223372036854775807:=hxl.2;have bw:=Lib.hid S.bel;have hxh:=Lib.hid hx;replace S:=Lib.hid S;replace hal2:=Lib.hid hal2;clear hlj hjn hM hr' hrm' hrow hA2 hx hxm hxl
      by_cases c1:r.n≤4
      ·have ci1:¬ (4<(r.n:Int)):=by omega
       by_cases c2:x.n≤2
       ·have ci2:¬ (2<(x.n:Int)):=by omega
        by_cases c3:x.m≤2
        ·have ci3:¬ (2<(x.m:Int)):=by omega
         have hc:=Lib.hid (And.intro c1 (And.intro c2 c3));clear c2 c3;have hj1:=hjh.out;go_wp2
         go_roundw
         case rel=>exact⟨j+1,by omega,by go_num,S.out,fun k y hk hy=>by
          by_cases e:k=j
          ·subst e
           rw[hxh.out] at hy;obtain rfl:=Option.some.inj hy;exact hc.out
          ·exact hal2.out k y (by omega) hy⟩
         case measure=>simp[intOf];omega
        ·have ci3:2<(x.m:Int):=by omega
         clear c1 c2 c3 S;go_wp2;go_ret;exact⟨false,rfl,fun h=>(by cases h),bw.out⟩
       ·have ci2:2<(x.n:Int):=by omega
        clear c1 c2 S;go_wp2;go_ret;exact⟨false,rfl,fun h=>(by cases h),bw.out⟩
      ·have ci1:4<(r.n:Int):=by omega
       clear c1 S;go_wp2;go_ret;exact⟨false,rfl,fun h=>(by cases h),bw.out⟩
     ·obtain rfl:r.n=j:=by omega
      have hnew:∀ x∈r.L,r.n≤4∧x.n≤2∧x.m≤2:=fun x hx=>by
       obtain⟨k,hk⟩:=List.getElem?_of_mem hx
       have:=(List.getElem?_eq_some_iff.1 hk).1
       exact hal2 k x (by rw[hrow.len] at this;exact this) hk
      replace S:=Lib.hid S;replace hnew:=Lib.hid hnew;clear hal2 hlj hjn hM hr' hrm' hrow;have hi1:=hih.out;have hn5:=hn4h.out;go_wp2
      go_roundw
      case rel=>exact⟨i+1,by omega,by go_num,S.out,fun k s hk hs=>by
       by_cases e:k=i
       ·subst e
        rw[hrh.out] at hs;obtain rfl:=Option.some.inj hs;exact hnew.out
       ·exact hall.out k s (by omega) hs⟩
      case measure=>simp[intOf];omega
   ·obtain rfl:n=i:=by omega
    have hfin:Hid ((n≤4∧∀ r∈M,∀ x∈r.L,r.n≤4∧x.n≤2∧x.m≤2)):=Lib.hid ⟨hn4h.out,fun r hr x hx=>by
     obtain⟨k,hk⟩:=List.getElem?_of_mem hr
     have:=(List.getElem?_eq_some_iff.1 hk).1
     exact hall k r (by rw[h.out.len] at this;exact this) hk x hx⟩
    have bw:=Lib.hid S.bel;clear S hall hlt hin;go_wp2;go_ret;exact⟨true,rfl,fun _=>hfin.out,bw.out⟩
 ·have hi4:4<(n:Int):=by omega
  have bw:=Lib.hid (Below.refl w.heap.size w);clear hm h hn4;go_enter Tryz.func19,Tryz.ntmps19;go_wp2;go_ret;exact⟨false,rfl,fun h=>(by cases h),bw.out⟩
theorem s2_of {W:World} {L:List Rt} (hr:∀ x∈L,x.raw W) (hq:∀ x∈L,x.q=rv x.b x.x x.y) (hl:∀ x∈L,x.n≤2∧x.m≤2):∀ x∈L,Rk x.b x.n x.x x.m x.y x.q∧Rs x.q 2∧S2 2 2 x.q:=fun x hx=>by
 have h:=hl x hx;have hs:Rs x.q 2:=by
  rw[hq x hx];exact Rs.of (hr x hx).1.sm (hr x hx).2.sm (by rw[(hr x hx).1.len];exact h.1) (by rw[(hr x hx).2.len];exact h.2) (by decide)
 exact⟨⟨(hq x hx).symm,by omega,by omega⟩,hs,⟨Nat.le_of_lt hs.n,Nat.le_of_lt hs.d⟩⟩
def szChk (n k a d:Nat):Bool:=decide (d*k+a+d<1000000)&&decide ((zA (d*k+a) (n-1)).1≤1000000)&&decide ((zA (d*k+a) (n-1)).2.1≤1000000)&&decide (n*(d*k)<1000000)&&tzB (zA (d*k+a) (n-1)).1 (zA (d*k+a) (n-1)).2.1 n
theorem sz_of {n k a d:Nat} (h:szChk n k a d=true):SzE n k a d∧SzT n k a d:=by
 unfold szChk at h;simp only[Bool.and_eq_true,decide_eq_true_eq] at h;exact⟨⟨h.1.1.1.1,⟨h.1.1.1.2,h.1.1.2⟩,h.1.2⟩,tzO_of h.2⟩
theorem sz_tab:((List.range 5).all fun n=>(List.range 9).all fun k=>szChk n k 2 2)=true:=by kernel_rfl
theorem sz22 {n k:Nat} (hn:n≤4) (hk:k≤8):SzE n k 2 2∧SzT n k 2 2:=
 sz_of (List.all_eq_true.1 (List.all_eq_true.1 sz_tab n (List.mem_range.2 (by omega))) k (List.mem_range.2 (by omega)))
theorem pow5 {n b:Nat} (hn:n≤4) (hb:b≤14400):b*5^n≤9000000:=Nat.le_trans (Nat.mul_le_mul hb (Nat.pow_le_pow_right (by decide) hn)) (by decide)
section
variable {M:List Ro} {A:Option Addr} {n c:Nat}
structure Sml (M:List Ro) (n:Nat):Prop where
 hm:∀ r∈M,r.n≤9223372036854775807
 hn:n≤4
 ka:∀ r∈M,∀ x∈r.L,Rk x.b x.n x.x x.m x.y x.q
 rs:∀ r∈M,∀ x∈r.L,Rs x.q 2
 s2:∀ r∈M,∀ x∈r.L,S2 2 2 x.q
 k4:wfM M=true→colM M≤4
 rl:∀ r∈M,r.L.length=r.n
 ml:M.length=n
theorem Sml.rct (s:Sml M n) (hw:wfM M=true):GE.rct (colM M) (qM M)∧(qM M).length=n:=⟨fun q hq=>by
 obtain⟨r,hr,rfl⟩:=List.mem_map.1 hq;rw[List.length_map,s.rl r hr];exact (wf_row hw hr).2.2,by unfold qM;rw[List.length_map];exact s.ml⟩
end
end Go.Proofs.YtfnkpfbobdmieaaGreat
namespace Go.Proofs.YtfnkpfbobdmieaaGreat
open Go.RowKit RQ GE
set_option linter.unusedVariables false
theorem sml_of {M:List Ro} {A:Option Addr} {n c:Nat} {w:World} (h:Mr w A n c M) (bm:∀ r∈M,inL r.L∧r.n≤9223372036854775807∧∀ x∈r.L,x.q=rv x.b x.x x.y) (hs:n≤4∧∀ r∈M,∀ x∈r.L,r.n≤4∧x.n≤2∧x.m≤2):Sml M n:=by
 have hx:=fun r (hr:r∈M)=>s2_of (h.rd r hr).rd (bm r hr).2.2 (fun x hx=>(hs.2 r hr x hx).2)
 refine⟨fun r hr=>(bm r hr).2.1,hs.1,fun r hr x hx'=>(hx r hr x hx').1,fun r hr x hx'=>(hx r hr x hx').2.1,fun r hr x hx'=>(hx r hr x hx').2.2,fun hw=>?_,fun r hr=>(h.rd r hr).len,h.len⟩
 match M,h,hs,hw with
 | [],_,_,_=>exact Nat.zero_le _
 | r::M',h,hs,hw=>
  obtain⟨k1,k2,k3⟩:=wf_row hw (List.mem_cons_self (a:=r) (l:=M'))
  show r.n≤4
  have hl:=(h.rd r List.mem_cons_self).len;have hx0:r.L[0]?=some r.L[0]:=List.getElem?_eq_getElem (by omega)
  exact (hs.2 r List.mem_cons_self _ (List.mem_of_getElem? hx0)).1
end Go.Proofs.YtfnkpfbobdmieaaGreat
namespace Go.Proofs.YtfnkpfbobdmieaaGreat
open Go.RowKit RQ GE
set_option linter.unusedVariables false
theorem negT {x:Rt} {W:World} (hx:x.can) (hx':x.raw W):Calls Tryz.prog 63 #[.agg #[.bool x.b,.slice x.A x.n x.c,.slice x.D x.m x.d]] W (RetR (-x.q) W):=negW _ _ _ _ _ _ _ _ _ _ W (hx'.at_ (can_k hx hx'))
def nst (k c:Nat) (f:Nat→Rat) (ps:List Nat):Nat→List Rat
 | 0=>(List.replicate k 0).set c 1
 | i+1=>(nst k c f ps i).set (ps.getD i 0) (-(f i))
def nullQ (k:Nat) (R:List (List Rat)) (ps:List Nat):List (List Rat):=(freeL k ps).map fun c=>nst k c (fun i=>el R i c) ps ps.length
theorem nst_congr {k c:Nat} {f g:Nat→Rat} {ps:List Nat}:∀ {i:Nat},(∀ j<i,f j=g j)→nst k c f ps i=nst k c g ps i
 | 0,_=>rfl
 | i+1,h=>by
  show (nst k c f ps i).set _ _=(nst k c g ps i).set _ _
  rw[nst_congr (fun j hj=>h j (by omega)),h i (by omega)]
theorem pnull_any (M:List Ro) (A:Option Addr) (n c:Nat) (w:World) (h:Mr w A n c M) (hm:∀ r∈M,r.n≤9223372036854775807) (hn:n≤9223372036854775807) (hw:wfM M=true) (ka:∀ r∈M,∀ x∈r.L,Rk x.b x.n x.x x.m x.y x.q) (a d:Nat) (hs:∀ r∈M,∀ x∈r.L,S2 a d x.q) (hz:SzE n (colM M) a d) (hT:SzT n (colM M) a d):Calls Tryz.prog 32 #[.slice A n c] w (RetMX 0 (nullQ (colM M) (red (colM M) (qM M)).M (red (colM M) (qM M)).p) w):=by
 obtain⟨hr,hq,hk,h0,hn96,hk96⟩:=wf_rct h hw;have hF:=fun W h'=>wf_any M A n c W h' hm hn
 rw[hw] at hF;have hC:=Lib.hid (fun W h'=>cols_any M A n c W h')
 have hE:=Lib.hid (fun W (h':Mr W A n c M)=>elim_any M A n c (colM M) W h' hk rfl ka a d hs (by omega) (by omega) hz.s1 hz.s2 hz.s3)
 obtain⟨k,hkk⟩:∃ k,k=colM M:=⟨_,rfl⟩;obtain⟨Q,hQ⟩:∃ Q,Q=qM M:=⟨_,rfl⟩;have hQs:=qM_s2 hs;simp only[←hkk,←hQ] at hE hC hr hq h0 hk96 hz hQs hT ⊢;obtain⟨S,hS⟩:∃ S,S=(brun k 0 ⟨wh Q,[],pr (rsc Q) n⟩ 1).1:=⟨_,rfl⟩;obtain⟨l,hl⟩:∃ l,l=(brun k 0 ⟨wh Q,[],pr (rsc Q) n⟩ 1).2:=⟨_,rfl⟩;have hbr:brun k 0 ⟨wh Q,[],pr (rsc Q) n⟩ 1=(S,l):=by rw[hS,hl]
 rw[←hS,←hl] at hE;obtain⟨e1,e2,e3,e4,e5,e6,e7⟩:=el_all hq hr h0 hQs hbr;have htm:=(elim_red hq hr hbr).2.2.2;have hfin:nullQ k (red k Q).M (red k Q).p=(freeL k S.p).map fun c=>nst k c (fun i=>tmf S.M S.p l c S.p.length i / l) S.p S.p.length:=by
  unfold nullQ;rw[←e6];refine List.map_congr_left fun c hc=>nst_congr fun i hi=>?_
  obtain⟨h1,h2⟩:=freeL_mem.1 hc;exact htm c h1 h2 i hi
 rw[hfin];have hR:=Lib.hid (fun W gE gR K P pc A1 n1 c1 D1 m1 d1 c (hW:Env W gE gR n k K P pc S.p l A1 n1 c1 D1 m1 d1) (hK:qM K=S.M) (hc:c<k)=>by
  have h1:=redcol_any hW e4 e3 (fun _=>hc) (by omega) (by omega) (by rw[hK];exact e1) e2 hz.s2 (hT.mono e4)
  rw[hK] at h1;exact h1)
 have hFr:=Lib.hid (fun W gE gR K P pc A1 n1 c1 D1 m1 d1 (hW:Env W gE gR n k K P pc S.p l A1 n1 c1 D1 m1 d1)=>by
  have hc1:colM K=k:=by
   match K,hW.mr.len with
   | [],h1=>exact (h0 h1.symm).symm
   | r::_,_=>exact hW.rk r List.mem_cons_self
  have h1:=free_any K gE gR n S.p.length pc P S.p W hW.lt hW.e0 hW.e1 hW.mr hW.ir (by omega) (by rw[hc1];omega)
  rw[hc1] at h1;exact h1)
 have hmk:=make_rat k (by omega)
 obtain⟨f1,hf1⟩:∃ q:Rat,q=1:=⟨_,rfl⟩;have hFI:Hid (∀ W,Calls Tryz.prog 53 #[.int .i64 1] W (RetR f1 W)):=Lib.hid (fun W=>by rw[hf1];exact fromIntR_any 1 W (by decide) (by decide))
 have rs1:Hid (Rs f1 9000000):=Lib.hid (by rw[hf1];exact S2.rs (S2.one (a:=1) (d:=1)) (by decide) (by decide))
 have hk9:k≤96:=hk96;have hn9:n≤96:=hn96;obtain⟨ff,hff⟩:∃ f:Nat→Nat→Rat,f=fun c i=>tmf S.M S.p l c S.p.length i / l:=⟨_,rfl⟩
 rw[show (fun c=>nst k c (fun i=>tmf S.M S.p l c S.p.length i / l) S.p S.p.length)=fun c=>nst k c (ff c) S.p S.p.length by rw[hff]]
 have hp9:S.p.length≤96:=by omega
 replace hff:=Lib.hid hff;replace hT:=Lib.hid hT;replace hf1:=Lib.hid hf1;clear hfin htm;replace h:=Lib.hid h;replace hF:=Lib.hid hF;replace hz:=Lib.hid hz;replace e1:=Lib.hid e1;replace e2:=Lib.hid e2;replace e3:=Lib.hid e3;replace e4:=Lib.hid e4;replace e5:=Lib.hid e5;replace e6:=Lib.hid e6;replace e7:=Lib.hid e7;replace hbr:=Lib.hid hbr;replace hr:=Lib.hid hr;replace hq:=Lib.hid hq;replace h0:=Lib.hid h0
 replace hn96:=Lib.hid hn96;replace hk96:=Lib.hid hk96;clear hm hn hw ka hs hk hkk hQ hS hl hQs;go_enter Tryz.func32,Tryz.ntmps32
 go_wp2_with fail
 refine (hF.out _ h.out).mono ?_
 rintro e w1 ⟨rfl,bb⟩;replace h:=Lib.hid (h.out.bel bb);have bw:=Lib.hid bb;clear bb;clear hF
 go_wp2_with fail
 refine (hE.out _ h.out).mono ?_
 rintro e w2 ⟨gR,K,P,pc,A1,n1,c1,D1,m1,d1,A2,n2,c2,D2,m2,d2,rfl,hm2,hk2,hq2,hi2,x1,x2,b2⟩;unfold ecE;replace bw:=Lib.hid (bw.out.trans (b2.mono bw.out.size));replace h:=Lib.hid (h.out.bel b2);go_upto_region 4 with fail
 obtain⟨gF,hgF⟩:∃ g,g=w2.heap.size:=⟨_,rfl⟩;obtain⟨V,hV⟩:∃ W,W=w2.alloc (.cells #[.slice (some ⟨gR,0,none⟩) n n,.slice P S.p.length pc,.bool (ng l.num),.slice A1 n1 c1,.slice D1 m1 d1,.bool (ng S.f.num),.slice A2 n2 c2,.slice D2 m2 d2] 64):=⟨_,rfl⟩;have B2:Below w2.heap.size w2 V:=by rw[hV];exact (Below.refl _ _).alloc (Nat.le_refl _) _
 have hcb:Cb V gF (ecE gR n P S.p.length pc l A1 n1 c1 D1 m1 d1 S.f A2 n2 c2 D2 m2 d2) 64:=by rw[hV,hgF];exact Cb.new _ _ _
 have hEV:=Lib.hid (ec_env hcb (hm2.bel B2) hk2 (hi2.bel B2) (x1.below B2));rw[←hgF,←hV];replace bw:=Lib.hid (bw.out.trans (B2.mono bw.out.size));replace h:=Lib.hid (h.out.bel B2);have hFx:=Lib.hid (hFr.out V gF gR K P pc A1 n1 c1 D1 m1 d1 hEV.out);have hq2h:=Lib.hid hq2;clear hV hgF hm2 hi2 x1 x2 b2 B2 hcb hE hFr hq2;obtain⟨q,hqq⟩:∃ q,q=(freeL k S.p).length:=⟨_,rfl⟩;have hq9:q≤96:=by have:=freeL_le k S.p;omega
 rw[←hqq] at hFx;replace hqq:=Lib.hid hqq
 go_wp2_with fail
 refine hFx.out.mono ?_
 rintro e V1 ⟨AF,cF,rfl,hI,bb⟩;replace hEV:=Lib.hid (hEV.out.bel bb);replace h:=Lib.hid (h.out.bel bb);replace bw:=Lib.hid (bw.out.trans (bb.mono bw.out.size));have hIF:=Lib.hid hI;have S0:=Lib.hid (St.new V1);clear bb hI hFx;go_wp2
 go_loopw [5,18] (fun ov uv wr=>∃ (u:Nat) (K:List Ro) (bs:List Bk) (rs:List Rdg),u≤q∧uv=.int .i64 u∧K.length=u∧Apd V1 wr bs rs 23 1 ov u (K.map Ro.v)∧(∀ r∈K,r.In bs rs)∧canM K∧qM K=((freeL k S.p).take u).map fun c=>nst k c (ff c) S.p S.p.length) (fun _ uv _=>q-(intOf uv).toNat)
 case atStart=>exact⟨0,[],[],[],Nat.zero_le _,rfl,rfl,Apd.nil_ S0.out _ _,fun x hx=>(by cases hx),fun x hx=>(by cases hx),rfl⟩
 case round=>
  clear S0;obtain⟨u,K,bs,rs,huq,rfl,hK,AP,hIn,hcan,hqK⟩:=hrel;rename World=>V2
  by_cases hlt:u<q
  ·have huh:=Lib.hid hlt
   have g1:(u:Int)<(q:Int):=by omega
   have g2:(0:Int)≤(u:Int):=by omega
   have hst:=AP.st.bel;obtain⟨bF,oF,c0,hFA,hc1,fc0⟩:=(hIF.out.bel hst).get hlt;subst hFA;have hck:c0<k:=(freeL_mem.1 (List.mem_of_getElem? hc1)).1;have g3:(c0:Int)<(k:Int):=by omega
   have g4:(0:Int)≤(c0:Int):=by omega
   have hCx:=Lib.hid (hC.out V2 (h.out.bel hst));have hqn:Hid (((freeL k S.p).take u).map (fun c=>nst k c (ff c) S.p S.p.length)++[nst k c0 (ff c0) S.p S.p.length]=((freeL k S.p).take (u+1)).map fun c=>nst k c (ff c) S.p S.p.length):=Lib.hid (by
    rw[List.take_add_one,hc1,List.map_append];rfl)
   obtain⟨ob,hob,So⟩:=AP.open_;replace hob:=Lib.hid hob;replace So:=Lib.hid So;replace hIn:=Lib.hid hIn;replace hcan:=Lib.hid hcan;replace hqK:=Lib.hid hqK;replace hK:=Lib.hid hK;have hckh:=Lib.hid hck;clear AP hst hc1 hlt huq hck
   go_wp2_with fail
   refine hCx.out.mono ?_
   rintro e V3 ⟨rfl,bb⟩;have SE:=Lib.hid (((So.out.call bb).allocAt V3.heap.size (csE (List.replicate k Zt)).toArray 45 (NoLl.csE _).arr rfl).read (show Rd _ none 0 0 [] from Rd.nil_ _ _ _))
   clear bb So hCx fc0;go_upto_region 9 with fail
   obtain⟨gN,hgN⟩:∃ g,g=V3.heap.size:=⟨_,rfl⟩;obtain⟨V4,hV4⟩:∃ W,W=V3.alloc (.cells (csE (List.replicate k Zt)).toArray 45):=⟨_,rfl⟩;rw[←hgN,←hV4] at SE ⊢;clear hgN hV4
   go_wp2_with fail
   refine (hFI.out _).mono ?_
   rintro e V5 ⟨A9,n9,c9,D9,m9,d9,rfl,X9,bb⟩;have SE1:=((SE.out.call bb).read X9.n).read X9.d;have hZi:(List.replicate k Zt)[c0]?=some Zt:=by rw[List.getElem?_replicate,if_pos hckh.out]
   obtain⟨⟨k0,k1,k2⟩,f0⟩:=St_lcl SE1 hZi;have f2:=f0 (c0*3);have f3:=f0 (c0*3+1);have f4:=f0 (c0*3+2);have SE2:=Lib.hid (St_lset SE1 c0 (Rt.of A9 n9 c9 D9 m9 d9 f1));clear SE SE1 hZi f0 bb X9;go_upto_region 10 with fail
   clear k0 k1 k2 f2 f3 f4;obtain⟨V6,hV6⟩:∃ W,W=((V5.setCell ⟨gN,c0*3,none⟩ (.bool (ng f1.num))).setCell ⟨gN,c0*3+1,none⟩ (.slice A9 n9 c9)).setCell ⟨gN,c0*3+2,none⟩ (.slice D9 m9 d9):=⟨_,rfl⟩
   change Hid (St V1 (((V5.setCell ⟨gN,c0*3,none⟩ (.bool (ng f1.num))).setCell ⟨gN,c0*3+1,none⟩ (.slice A9 n9 c9)).setCell ⟨gN,c0*3+2,none⟩ (.slice D9 m9 d9)) _ _) at SE2
   rw[←hV6] at SE2 ⊢;clear hV6;obtain⟨E0,hE0⟩:∃ U,U=(List.replicate k Zt).set c0 (Rt.of A9 n9 c9 D9 m9 d9 f1):=⟨_,rfl⟩;obtain⟨rs2,hrs2⟩:∃ r,r=(D9,m9,d9,dn f1)::(A9,n9,c9,limbs f1.num.natAbs)::(none,0,0,[])::rs:=⟨_,rfl⟩;rw[←hE0,←hrs2] at SE2;have hE1:Hid (E0.length=k∧(∀ x∈E0,x.can∧x.rdIn rs2)∧E0.map (·.q)=nst k c0 (ff c0) S.p 0):=Lib.hid ⟨by rw[hE0,List.length_set,List.length_replicate],fun x hx=>by
    rw[hE0] at hx;rw[hrs2]
    rcases List.mem_or_eq_of_mem_set hx with hx | rfl
    ·obtain rfl:=(List.mem_replicate.1 hx).2
     exact⟨Zt_can,by simp[Zt],by simp[Zt]⟩
    ·exact⟨Rt.of_can _ _ _ _ _ _ rs1.out,List.mem_cons_of_mem _ List.mem_cons_self,List.mem_cons_self⟩,by
    rw[hE0,List.map_set,List.map_replicate]
    show (List.replicate k 0).set c0 f1=(List.replicate k 0).set c0 1
    rw[hf1.out]⟩
   have hrsub:Hid (∀ z∈rs,z∈rs2):=Lib.hid fun z hz=>by rw[hrs2];exact List.mem_cons_of_mem _ (List.mem_cons_of_mem _ (List.mem_cons_of_mem _ hz))
   have hRx:=Lib.hid (hR.out V6 gF gR _ P pc A1 n1 c1 D1 m1 d1 c0 (hEV.out.bel SE2.out.bel) hq2h.out hckh.out);clear hE0 hrs2
   go_wp2_with fail
   refine hRx.out.mono ?_
   rintro e V7 ⟨gC,L,rfl,⟨hg,hcb⟩,hL,hx,hLq,bb⟩;have SL:=Lib.hid ((St_rds (St_own SE2.out bb hg hcb (NoLl.csE _).arr) (fun x h=>(hx x h).2)).swap)
   have hxc:Hid (∀ x∈L,x.can):=Lib.hid fun x h=>(hx x h).1
   replace hL:=Lib.hid hL;replace hLq:=Lib.hid hLq;clear SE2 hg hcb hx bb hRx;go_wp2
   go_loopw [32] (fun iv wr=>∃ (i:Nat) (E:List Rt) (rs':List Rdg),i≤S.p.length∧iv=.int .i64 i∧St V1 wr ((gN,(csE E).toArray,45)::(gC,(csE L).toArray,45)::(bs++ob)) rs'∧E.length=k∧(∀ x∈E,x.can∧x.rdIn rs')∧E.map (·.q)=nst k c0 (ff c0) S.p i∧∀ z∈rdsOf L++rs2,z∈rs') (fun iv _=>S.p.length-(intOf iv).toNat)
   case atStart=>exact⟨0,E0,_,Nat.zero_le _,rfl,SL.out,hE1.out.1,fun x hx=>⟨(hE1.out.2.1 x hx).1,List.mem_append_right _ (hE1.out.2.1 x hx).2.1,List.mem_append_right _ (hE1.out.2.1 x hx).2.2⟩,hE1.out.2.2,fun z hz=>hz⟩
   case round=>
    clear SL hE1;obtain⟨i,E,rs',hip,rfl,T,hEl,hEc,hEq,hrs'⟩:=hrel;rename World=>V8
    by_cases hli:i<S.p.length
    ·have g6:(i:Int)<(S.p.length:Int):=by omega
     have g7:(0:Int)≤(i:Int):=by omega
     obtain⟨bP,oP,pk,hPA,hp1,pc0⟩:=(hEV.out.bel T.bel).ir.get hli;subst hPA;have hpk:pk<k:=e3.out pk (List.mem_of_getElem? hp1);have hpg:Hid (S.p.getD i 0=pk):=Lib.hid (by rw[List.getD_eq_getElem?_getD,hp1];rfl)
     have g8:(pk:Int)<(k:Int):=by omega
     have g9:(0:Int)≤(pk:Int):=by omega
     obtain⟨x,hLi⟩:∃ y,L[i]?=some y:=⟨L[i]'(by rw[hL.out];exact hli),List.getElem?_eq_getElem _⟩
     have xm:=List.mem_of_getElem? hLi;have xq:Hid (x.q=ff c0 i):=Lib.hid (by
      have h1:=el_at hLq.out hLi;rw[←h1,List.getD_eq_getElem?_getD,List.getElem?_map,List.getElem?_range hli,hff.out];rfl)
     have xin:=rdsOf_in (rs:=rs2) xm;have xr:x.raw V8:=⟨T.rd _ (hrs' _ xin.1),T.rd _ (hrs' _ xin.2)⟩;obtain⟨⟨x0,x1,x2⟩,_⟩:=St_lcl T.swap hLi;obtain⟨y,hEk⟩:∃ y,E[pk]?=some y:=⟨E[pk]'(by rw[hEl];exact hpk),List.getElem?_eq_getElem _⟩
     have xc:=hxc.out x xm;obtain⟨q1,hq1⟩:∃ q,q = -x.q:=⟨_,rfl⟩;have rq1:Hid (Rs q1 9000000):=Lib.hid (by rw[hq1];exact xc.2.2.2.neg)
     have e1h:V8.cell? ⟨gF,1,none⟩=some (.slice (some ⟨bP,oP,none⟩) S.p.length pc):=(hEV.out.bel T.bel).e1;have hih:=Lib.hid hli;replace e1h:=Lib.hid e1h;replace pc0:=Lib.hid pc0;replace T:=Lib.hid T;replace hEl:=Lib.hid hEl;replace hEc:=Lib.hid hEc;replace hEq:=Lib.hid hEq;replace hEk:=Lib.hid hEk;replace hrs':=Lib.hid hrs';replace xr:=Lib.hid xr;replace xc:=Lib.hid xc;replace hq1:=Lib.hid hq1;clear hli hip hp1 hpk hLi xm xin
     go_upto_region 13 with fail
     obtain⟨gX,hgX⟩:∃ g,g=V8.heap.size:=⟨_,rfl⟩;obtain⟨V9,hV9⟩:∃ W,W=V8.alloc (.cells #[.bool x.b,.slice x.A x.n x.c,.slice x.D x.m x.d] 45):=⟨_,rfl⟩;have B9:Below V8.heap.size V8 V9:=by rw[hV9];exact (Below.refl _ _).alloc (Nat.le_refl _) _
     have hCX:Cb V9 gX #[.bool x.b,.slice x.A x.n x.c,.slice x.D x.m x.d] 45:=by rw[hV9,hgX];exact Cb.new _ _ _
     rw[←hV9,←hgX];have c0_:=Lib.hid (hCX.cell (i:=0) rfl);have c1_:=Lib.hid (hCX.cell (i:=1) rfl);have c2_:=Lib.hid (hCX.cell (i:=2) rfl);replace e1h:=Lib.hid (bel_cell B9 e1h.out);replace pc0:=Lib.hid (bel_cell B9 pc0.out);replace T:=Lib.hid (T.out.call B9);have hNg:Hid (∀ W,Below V9.heap.size V9 W→Calls Tryz.prog 63 #[.agg #[.bool x.b,.slice x.A x.n x.c,.slice x.D x.m x.d]] W (RetR q1 W)):=Lib.hid fun W hW=>by rw[hq1.out];exact negT xc.out ((xr.out.bel B9).bel hW)
     clear hV9 hgX hCX B9 x0 x1 x2 xr xc;refine Wl.start (fun W=>Below V9.heap.size V9 W) [9] rfl ?_
     have hS:Below V9.heap.size V9 V9.drew:=(Below.refl _ _).drew;refine Wl.t (i:=0) (v:=.slice (some ⟨gN,0,none⟩) k k) (some 37) at0 (hy:=fun _ _=>by kernel_rfl) (hS:=hS) (h:=?_)
     refine Wl.t (i:=1) (v:=.pointer (some ⟨gF,1,none⟩)) (some 38) at1 (hy:=fun _ _=>by go_simp) (hS:=hS) (h:=?_)
     refine Wl.t (i:=2) (v:=.slice (some ⟨bP,oP,none⟩) S.p.length pc) (some 39) at2 (hy:=fun W hS=>by (have k0:=bel_cell hS e1h.out;clear hS;go_simp)) (hS:=hS) (h:=?_)
     refine Wl.t (i:=3) (v:=.int .i64 i) (some 40) at3 (hy:=fun _ _=>by kernel_rfl) (hS:=hS) (h:=?_)
     refine Wl.t (i:=4) (v:=.pointer (some ⟨bP,oP+i,none⟩)) (some 41) at4 (hy:=fun _ _=>by go_simp) (hS:=hS) (h:=?_)
     refine Wl.t (i:=5) (v:=.int .i64 pk) (some 42) at5 (hy:=fun W hS=>by (have k0:=bel_cell hS pc0.out;clear hS;go_simp)) (hS:=hS) (h:=?_)
     refine Wl.t (i:=6) (v:=.agg #[.bool x.b,.slice x.A x.n x.c,.slice x.D x.m x.d]) (some 43) at6 (hy:=fun W hS=>by (have k0:=bel_cell hS c0_.out;have k1:=bel_cell hS c1_.out;have k2:=bel_cell hS c2_.out;clear hS;go_simp)) (hS:=hS) (h:=?_)
     try simp only[Act.put,sZ0,sZ1,sZ2]
     refine Wl.g (i:=7) at7 (by kernel_rfl) (by kernel_rfl) fun K' hK=>?_
     refine oper_call (f:=63) (args:=#[.agg #[.bool x.b,.slice x.A x.n x.c,.slice x.D x.m x.d]]) rfl (by kernel_rfl) ((hNg.out _ hS).mono ?_)
     rintro e Va ⟨A8,n8,c8,D8,m8,d8,rfl,X8,bb⟩;have hSa:=hS.trans (bb.mono hS.size);refine⟨_,rfl,hK.out _ _ hSa ?_⟩
     clear hK K' hS bb
     try simp only[Act.put,sZ0,sZ1,sZ2]
     refine Wl.t (i:=8) (v:=.pointer (some ⟨gN,pk*3,none⟩)) (some 45) at8 (hy:=fun _ _=>by go_simp) (hS:=hSa) (h:=?_)
     have S3:=(((T.out.call hSa).read X8.n).read X8.d);obtain⟨⟨k0,k1,k2⟩,f0⟩:=St_lcl S3 hEk.out;have f2:=f0 (pk*3);have f3:=f0 (pk*3+1);have f4:=f0 (pk*3+2);obtain⟨Vb,hVb,T⟩:∃ W,W=((Va.setCell ⟨gN,pk*3,none⟩ (.bool (ng q1.num))).setCell ⟨gN,pk*3+1,none⟩ (.slice A8 n8 c8)).setCell ⟨gN,pk*3+2,none⟩ (.slice D8 m8 d8)∧Hid (St V1 W ((gN,(csE (E.set pk (Rt.of A8 n8 c8 D8 m8 d8 q1))).toArray,45)::(gC,(csE L).toArray,45)::(bs++ob)) ((D8,m8,d8,dn q1)::(A8,n8,c8,limbs q1.num.natAbs)::rs')):=⟨_,rfl,Lib.hid (St_lset S3 pk (Rt.of A8 n8 c8 D8 m8 d8 q1))⟩
     clear f0
     try simp only[Act.put,sZ0,sZ1,sZ2]
     refine Wl.s (i:=9) at9 (by kernel_rfl) (by kernel_rfl) (by kernel_rfl) fun K' hK=>?_
     go_simp
     rw[←hVb];refine hK.out _ _ ?_
     clear hK K' k0 k1 k2 f2 f3 f4 hVb S3 X8 hSa hNg;refine Wl.done (by kernel_rfl) ?_
     clear e1h pc0 c0_ c1_ c2_ hEk;have hp1:=hih.out;go_wp2
     go_roundw
     case rel=>exact⟨i+1,E.set pk (Rt.of A8 n8 c8 D8 m8 d8 q1),_,by omega,by go_num,T.out,by rw[List.length_set];exact hEl.out,fun z hz=>(by rcases List.mem_or_eq_of_mem_set hz with hz | rfl;exact⟨(hEc.out z hz).1,List.mem_cons_of_mem _ (List.mem_cons_of_mem _ (hEc.out z hz).2.1),List.mem_cons_of_mem _ (List.mem_cons_of_mem _ (hEc.out z hz).2.2)⟩;exact⟨Rt.of_can _ _ _ _ _ _ rq1.out,List.mem_cons_of_mem _ List.mem_cons_self,List.mem_cons_self⟩),by rw[List.map_set,hEq.out];show _=(nst k c0 (ff c0) S.p i).set (S.p.getD i 0) (-(ff c0 i));rw[hpg.out,←xq.out,←hq1.out];rfl,fun z hz=>List.mem_cons_of_mem _ (List.mem_cons_of_mem _ (hrs'.out z hz))⟩
     case measure=>simp[intOf];omega
    ·have hpi:i=S.p.length:=by omega
     have hqf:E.map (·.q)=nst k c0 (ff c0) S.p S.p.length:=by rw[hEq,hpi]
     have T2:St V1 V8 (((gN,(csE E).toArray,45)::(gC,(csE L).toArray,45)::bs)++ob) rs':=T;have APo:=Apd.close hob.out T2;have APl:=APo.alloc #[.slice (some ⟨gN,0,none⟩) k k] 23 (noL1 _ _ _);have hcb1:=APl.st.cb 0 rfl;have hIr:Hid ((⟨some ⟨gN,0,none⟩,k,k,E⟩:Ro).In ((gN,(csE E).toArray,45)::(gC,(csE L).toArray,45)::bs) rs'):=Lib.hid ⟨hEl,.inr ⟨gN,(csE E).toArray,rfl,Nat.le_refl _,List.mem_cons_self,by
      show ((csE E).toArray.toList).take (k*3)=csE E
      rw[List.toList_toArray,List.take_of_length_le (by rw[csE_len,hEl];exact Nat.le_refl _)]⟩,fun x hx=>(hEc x hx).2⟩
     have hcn':=Lib.hid (fun x hx=>(hEc x hx).1)
     have hsub:Hid (∀ z∈rs,z∈rs'):=Lib.hid fun z hz=>hrs' z (List.mem_append_right _ (hrsub.out z hz))
     replace hqf:=Lib.hid hqf;clear T T2 hEc hEq hEl hrs' hip hob APo;have hul:=huh.out;have g6:¬ ((i:Int)<(S.p.length:Int)):=by omega
     clear hli hpi
     go_wp2_with (at_builtin;refine app_row rfl (.tmp 47) (.tmp 49) rfl rfl APl _ rfl hcb1 (by omega) ?_)
     clear APl hcb1;intro v' W' AP;replace AP:=Lib.hid AP;go_wp2
     go_roundw
     case rel=>exact⟨u+1,K++[⟨some ⟨gN,0,none⟩,k,k,E⟩],_,rs',by omega,by go_num,by rw[List.length_append,hK.out];rfl,by rw[List.map_append];exact AP.out.sub,In_app hIn.out (fun z hz=>List.mem_cons_of_mem _ (List.mem_cons_of_mem _ hz)) hsub.out hIr.out,canM_app hcan.out (by show k≤1000;omega) hcn'.out,by rw[qM_app,hqK.out];show _++[E.map (·.q)]=_;rw[hqf.out];exact hqn.out⟩
     case measure=>simp[intOf];omega
  ·obtain rfl:q=u:=by omega
   have hst:=AP.st.bel;rw[←hK] at AP;obtain⟨A7,c7,hv,M7⟩:=AP.mat hIn;subst hv;rw[List.take_of_length_le (by rw[hqq.out];exact Nat.le_refl _)] at hqK
   replace bw:=Lib.hid (bw.out.trans (hst.mono bw.out.size));replace M7:=Lib.hid M7;replace hqK:=Lib.hid hqK;replace hcan:=Lib.hid hcan;replace hK:=Lib.hid hK;clear AP hIn hlt huq hst;go_wp2
   go_ret2
   exact⟨A7,K.length,c7,K,rfl,M7.out,hcan.out,hqK.out,by rw[hK.out];omega,bw.out⟩
end Go.Proofs.YtfnkpfbobdmieaaGreat
