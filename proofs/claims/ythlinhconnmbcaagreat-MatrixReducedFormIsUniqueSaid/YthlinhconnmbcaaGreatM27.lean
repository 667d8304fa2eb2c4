/- The reference's matrix: taken; columns. -/
import Derived.Test.YthlinhconnmbcaaGreatB23
set_option maxRecDepth 100000
set_option maxHeartbeats 40000000
set_option linter.unusedVariables false
namespace Go.Proofs.YthlinhconnmbcaaGreat
open Go.RowKit RQ GE
set_option linter.unusedVariables false
def RowsO (M:List (List Rat)) (w:World) (e:Ending) (w':World):Prop:=∃ v bs rs L,e=.returned v∧Gro (slC rwC) w w' bs rs 46 v L∧(∀ s∈L,RowI bs rs s)∧MatV L M
theorem takeM_any (M:List (List Rat)) (L:List Ro) (A:Option Addr) (n c:Nat) (w:World) (h:Mr w A n c L) (hM:qM L=M) (hs:∀ r∈L,r.n≤1000∧∀ x∈r.L,Rk x.b x.n x.x x.m x.y x.q) (hn:n≤1000):Calls Tryz.prog 29 #[.slice A n c] w (RowsO M w):=by
 have hML:M.length=n:=by rw[←hM];unfold qM;rw[List.length_map];exact h.len
 have hb:=Lib.hid hn;replace h:=Lib.hid h;replace hM:=Lib.hid hM;replace hs:=Lib.hid hs;have S:=Lib.hid (St.new w);replace hML:=Lib.hid hML;clear hn;go_enter Tryz.func29,Tryz.ntmps29;go_wp2
 go_loopw [3,4] (fun rv iv wr=>∃ (i:Nat) (bs:List GBk) (rs:List GRd) (R:List (Sl Gw)),i≤n∧iv=.int .i64 i∧Gro (slC rwC) w wr bs rs 46 rv R∧(∀ s∈R,RowI bs rs s)∧MatV R (M.take i)) (fun _ iv _=>n-(intOf iv).toNat)
 case atStart=>exact⟨0,[],[],[],Nat.zero_le _,rfl,Gro.nil_ (slC rwC) S.out _,fun s hs=>(by cases hs),rfl⟩
 case round=>
  clear S;obtain⟨i,bs,rs,R,hin,rfl,GR,hR,hV⟩:=hrel
  by_cases hlt:i<n
  ·have g1:(i:Int)<(n:Int):=by omega
   have g2:(0:Int)≤(i:Int):=by omega
   have hih:=Lib.hid hlt;obtain⟨b,o,x,rfl,hx,hxm,e0⟩:=(h.out.bel GR.st.bel).get hlt;have hrow:=(h.out.bel GR.st.bel).rd x hxm;obtain⟨q,hqx⟩:∃ q,q=x.L.map (·.q):=⟨_,rfl⟩;have hq:M[i]?=some q:=by rw[←hM.out];unfold qM;rw[List.getElem?_map,hx,hqx];rfl
   have hRl:Hid (R.length=i):=Lib.hid (by have:=hV.len;rw[List.length_take] at this;have:=hML.out;omega)
   have hT:Hid (Calls Tryz.prog 59 #[.slice x.A x.n x.c] wr (RowO q wr)):=Lib.hid (takeL_any q x.L x.A x.n x.c wr hrow hqx.symm (hs.out x hxm).2 (hs.out x hxm).1);have hV2:Hid (∀ y:Sl Gw,y.L.map rwV=q.map qV→MatV (R++[y]) (M.take (i+1))):=Lib.hid fun y hy=>by
    rw[List.take_add_one,hq];exact hV.snoc hy
   replace GR:=Lib.hid GR;replace hR:=Lib.hid hR;replace hrow:=Lib.hid hrow;clear hlt hin hx hq hxm hV hqx
   go_wp2_with fail
   refine hT.out.mono ?_
   rintro e w4 ⟨A3,c3,Lr,bs3,rs3,rfl,S3,hI3,hL3⟩;have GJ:=GR.out.joinr S3;have hR2:Hid (∀ s∈R,RowI (bs++bs3) (rs++rs3) s):=Lib.hid fun s hs=>(hR.out s hs).mono (fun p hp=>List.mem_append_left _ hp) (fun p hp=>List.mem_append_left _ hp)
   have hI4:Hid (RowI (bs++bs3) (rs++rs3) ⟨A3,c3,Lr⟩):=Lib.hid (hI3.mono (fun p hp=>List.mem_append_right _ hp) (fun p hp=>List.mem_append_right _ hp))
   have hyV:=Lib.hid (hV2.out ⟨A3,c3,Lr⟩ hL3);have GA:=Lib.hid (GJ.alloc #[.slice A3 Lr.length c3] 46 (noLof rfl));clear GJ GR S3 hI3 hL3 hT hV2 hR e0
   go_wp2_with (at_builtin;refine Gro.wp rfl (.tmp 11) (.tmp 17) 23 rfl (.slice none 0 0) 24 Tryz.underlying23 (by kernel_rfl) rfl (fun v hv z e=>by simp[Value.cells] at hv;subst hv;cases e) rfl GA.out w4.heap.size ⟨A3,c3,Lr⟩ rfl ((GA.out.st).cb 0 rfl) ((hI4.out.mono (fun p hp=>List.mem_cons_of_mem _ hp) (fun p hp=>hp)).in_ _) (by have:=hRl.out;have:=hih.out;have:=hb.out;omega) (by have:=hRl.out;have:=hih.out;have:=hb.out;unfold maxLen;omega) ?_)
   intro v' w5 G5;have hL6:Hid (∀ s∈R++[⟨A3,c3,Lr⟩],RowI (bs++bs3) (rs++rs3) s):=Lib.hid fun s hs=>by
    rcases List.mem_append.1 hs with hs | hs
    ·exact hR2.out s hs
    ·rw[List.mem_singleton.1 hs];exact hI4.out
   have G6:=Lib.hid (Gro.sub G5 (fun x hx=>(hL6.out x hx).in_ _))
   clear G5 GA hR2 hI4 hRl;have hlt:=hih.out;have hbb:=hb.out;go_wp2
   go_roundw
   case rel=>exact⟨i+1,_,_,_,by omega,by go_num,G6.out,hL6.out,hyV.out⟩
   case measure=>simp[intOf];omega
  ·obtain rfl:n=i:=by omega
   rw[List.take_of_length_le (by rw[hML.out];exact Nat.le_refl _)] at hV
   have hres:=Lib.hid (show RowsO M w (.returned _) wr from ⟨_,bs,rs,R,rfl,GR,hR,hV⟩)
   clear GR hR hV hin hlt;go_wp2;go_ret;exact hres.out
end Go.Proofs.YthlinhconnmbcaaGreat
namespace GE
theorem rct.getD {k:Nat} {M:List (List Rat)} (h:rct k M) {i:Nat} (hi:i<M.length):(M.getD i []).length=k:=rct_getD h hi
theorem rct.set {k:Nat} {M:List (List Rat)} (h:rct k M) {i:Nat} {r:List Rat} (hr:r.length=k):rct k (M.set i r):=rct_set h hr
end GE
namespace Go.Proofs.YthlinhconnmbcaaGreat
open Go.RowKit RQ GE
set_option linter.unusedVariables false
def Mx (cur:Array Value) (L:List (Sl Gw)):Prop:=∀ (i:Nat) (s:Sl Gw),L[i]?=some s→cur[i]?=some s.v
theorem Mx.set {cur:Array Value} {L:List (Sl Gw)} (h:Mx cur L) {i:Nat} (x:Sl Gw):Mx (cur.setIfInBounds i x.v) (L.set i x):=by
 intro k s hs
 by_cases hk:i=k
 ·subst hk
  rcases Nat.lt_or_ge i L.length with hl | hl
  ·rw[List.getElem?_set_self hl] at hs
   obtain rfl:=Option.some.inj hs;have h1:=h i _ (List.getElem?_eq_getElem hl)
   have:i<cur.size:=(Array.getElem?_eq_some_iff.1 h1).1
   rw[Array.getElem?_setIfInBounds_self_of_lt this]
  ·rw[List.getElem?_eq_none (by rw[List.length_set];exact hl)] at hs
   cases hs
 ·rw[List.getElem?_set_ne hk] at hs
  rw[Array.getElem?_setIfInBounds_ne hk]
  exact h k s hs
def RSt (w wr:World) (g fb zb n k:Nat) (pv:Value) (s:GS):Prop:=∃ (cur:Array Value) (bs:List GBk) (rs:List GRd) (L:List (Sl Gw)) (y z:Gw),
 Gro intC w wr ((g,cur,46)::(fb,y.vs,33)::(zb,z.vs,33)::bs) rs 3 pv (s.p.map Int.ofNat)∧L.length=n∧Mx cur L∧(∀ x∈L,RowI bs rs x)∧MatV L s.M∧rct k s.M∧rwI rs y∧rwV y=qV s.f
section
variable {w wr W':World} {g fb zb n k:Nat} {pv:Value} {s:GS}
theorem RSt.call (h:RSt w wr g fb zb n k pv s) (hb:Below wr.heap.size wr W'):RSt w W' g fb zb n k pv s:=by
 obtain⟨cur,bs,rs,L,y,z,G,h⟩:=h;exact⟨cur,bs,rs,L,y,z,G.call hb,h⟩
theorem RSt.bel (h:RSt w wr g fb zb n k pv s):Below w.heap.size w wr:=by
 obtain⟨cur,bs,rs,L,y,z,G,h⟩:=h;exact G.st.bel
theorem RSt.len (h:RSt w wr g fb zb n k pv s):s.M.length=n:=by
 obtain⟨cur,bs,rs,L,y,z,G,h1,h2,h3,h4,h5⟩:=h;rw[←h4.len];exact h1
theorem RSt.rect (h:RSt w wr g fb zb n k pv s):rct k s.M:=by
 obtain⟨cur,bs,rs,L,y,z,G,h1,h2,h3,h4,h5,_⟩:=h;exact h5
theorem RSt.row (h:RSt w wr g fb zb n k pv s) {i:Nat} (hi:i<n):∃ A c R,wr.cell? ⟨g,i,none⟩=some (.slice A k c)∧LR rwC wr A k R∧R.map rwV=(s.M.getD i []).map qV∧(s.M.getD i []).length=k:=by
 have hr:=h.rect.getD (i:=i) (by rw[h.len];exact hi)
 obtain⟨cur,bs,rs,L,y,z,G,h1,h2,h3,h4,h5⟩:=h;have hx:L[i]?=some L[i]:=List.getElem?_eq_getElem (by omega)
 obtain⟨q,hq,hqm,hxq⟩:=map_at h4 hx;have e:s.M.getD i []=q:=by rw[List.getD_eq_getElem?_getD,hq];rfl
 have hl:L[i].L.length=k:=by have:=congrArg List.length hxq;rw[List.length_map,List.length_map,←e,hr] at this;exact this
 have hc:=(G.st.cb 0 rfl).cell (h2 i _ hx);refine⟨L[i].A,L[i].c,L[i].L,?_,?_,?_,hr⟩
 ·rw[hc];show some (Value.slice _ _ _)=_;rw[hl]
 ·have:=((h3 L[i] (List.getElem_mem _)).mono (bs':=(g,cur,46)::(fb,y.vs,33)::(zb,z.vs,33)::bs) (rs':=rs) (fun p hp=>List.mem_cons_of_mem _ (List.mem_cons_of_mem _ (List.mem_cons_of_mem _ hp))) (fun p hp=>hp)).lr G.st
  rwa [hl] at this
 ·rw[e];exact hxq
theorem RSt.fac (h:RSt w wr g fb zb n k pv s):∃ y:Gw,wr.cell? ⟨fb,0,none⟩=some (.bool y.b)∧wr.cell? ⟨fb,1,none⟩=some (.slice y.x.A y.x.n y.x.c)∧wr.cell? ⟨fb,2,none⟩=some (.slice y.y.A y.y.n y.y.c)∧rwV y=qV s.f∧Rd wr y.x.A y.x.n y.x.c y.x.x∧Rd wr y.y.A y.y.n y.y.c y.y.x:=by
 obtain⟨cur,bs,rs,L,y,z,G,h1,h2,h3,h4,h5,h6,h7⟩:=h;exact⟨y,(G.st.cb 1 rfl).cell rfl,(G.st.cb 1 rfl).cell rfl,(G.st.cb 1 rfl).cell rfl,h7,G.st.rd _ h6.1,G.st.rd _ h6.2⟩
theorem RSt.cells (h:RSt w wr g fb zb n k pv s):(∀ i,wr.frozen? ⟨g,i,none⟩=false)∧(∀ i,wr.frozen? ⟨fb,i,none⟩=false)∧(∀ i,wr.frozen? ⟨zb,i,none⟩=false):=by
 obtain⟨cur,bs,rs,L,y,z,G,h⟩:=h;exact⟨fun i=>G.st.f 0 i rfl,fun i=>G.st.f 1 i rfl,fun i=>G.st.f 2 i rfl⟩
theorem RSt.step {α:Type} {C:Cod α} {e:Nat} {bs bs':List GBk} {rs rs':List GRd} {v:Value} {L:List α} (G:Gro C w wr bs rs e v L) (hC:∀ x w bs rs,C.In w bs rs x) (h:∀ ob,St w wr (bs++ob) rs→St w W' (bs'++ob) rs'):Gro C w W' bs' rs' e v L:=by
 obtain⟨ob,h1,h2⟩:=G.1.open_;exact⟨Apd.close h1 (h ob h2),fun x _=>hC x _ _ _⟩
theorem intC_in:∀ (x:Int) w bs rs,intC.In w bs rs x:=fun _ _ _ _=>trivial
theorem RSt.put (h:RSt w wr g fb zb n k pv s) {bs':List GBk} {rs':List GRd} {A:Option Addr} {c i:Nat} {R:List Gw} {r:List Rat} (S:St wr W' bs' rs') (hI:RowI bs' rs' ⟨A,c,R⟩) (hR:R.map rwV=r.map qV) (hr:r.length=k):RSt w (W'.setCell ⟨g,i,none⟩ (.slice A k c)) g fb zb n k pv ⟨s.M.set i r,s.p,s.f⟩:=by
 obtain⟨cur,bs,rs,L,y,z,G,h1,h2,h3,h4,h5,h6,h7⟩:=h;have hl:R.length=k:=by have:=congrArg List.length hR;rw[List.length_map,List.length_map,hr] at this;exact this
 have e:(⟨A,c,R⟩:Sl Gw).v=.slice A k c:=by show Value.slice _ _ _=_;rw[hl]
 refine⟨cur.setIfInBounds i (⟨A,c,R⟩:Sl Gw).v,bs++bs',rs++rs',L.set i ⟨A,c,R⟩,y,z,RSt.step G intC_in fun ob h=>?_,by rw[List.length_set];exact h1,h2.set _,fun x hx=>?_,?_,h5.set hr,h6.mono (fun p hp=>List.mem_append_left _ hp),h7⟩
 ·have h8:=(h.join S).set 0 i (.slice A k c) rfl (fun _ e=>by cases e)
  rw[e];refine h8.prm ?_
  simp only[List.cons_append,List.set_cons_zero,List.append_assoc];refine ((List.Perm.append_left bs List.perm_append_comm).cons _ |>.cons _ |>.cons _)
 ·rcases List.mem_or_eq_of_mem_set hx with hx | rfl
  ·exact (h3 x hx).mono (fun p hp=>List.mem_append_left _ hp) (fun p hp=>List.mem_append_left _ hp)
  ·exact hI.mono (fun p hp=>List.mem_append_right _ hp) (fun p hp=>List.mem_append_right _ hp)
 ·unfold MatV at *
  rw[List.map_set,List.map_set,h4,hR]
theorem RSt.swap (h:RSt w wr g fb zb n k pv s) {a t:Nat} {va vt:Value} (ha:a<n) (ht:t<n) (ca:wr.cell? ⟨g,a,none⟩=some va) (ct:wr.cell? ⟨g,t,none⟩=some vt):RSt w ((wr.setCell ⟨g,a,none⟩ vt).setCell ⟨g,t,none⟩ va) g fb zb n k pv ⟨swp s.M a t,s.p,s.f⟩:=by
 obtain⟨cur,bs,rs,L,y,z,G,h1,h2,h3,h4,h5,h6,h7⟩:=h;have xa:L[a]?=some L[a]:=List.getElem?_eq_getElem (by omega)
 have xt:L[t]?=some L[t]:=List.getElem?_eq_getElem (by omega)
 have ka:=(G.st.cb 0 rfl).cell (h2 a _ xa);have kt:=(G.st.cb 0 rfl).cell (h2 t _ xt);rw[ca] at ka;rw[ct] at kt;obtain rfl:=Option.some.inj ka;obtain rfl:=Option.some.inj kt;obtain⟨qa,hqa,_,hxa⟩:=map_at h4 xa;obtain⟨qt,hqt,_,hxt⟩:=map_at h4 xt;have ea:s.M.getD a []=qa:=by rw[List.getD_eq_getElem?_getD,hqa];rfl
 have et:s.M.getD t []=qt:=by rw[List.getD_eq_getElem?_getD,hqt];rfl
 refine⟨(cur.setIfInBounds a L[t].v).setIfInBounds t L[a].v,bs,rs,(L.set a L[t]).set t L[a],y,z,RSt.step G intC_in fun ob h=>?_,by rw[List.length_set,List.length_set];exact h1,(h2.set _).set _,fun x hx=>?_,?_,?_,h6,h7⟩
 ·exact (h.set 0 a L[t].v rfl (fun _ e=>by cases e)).set 0 t L[a].v rfl (fun _ e=>by cases e)
 ·rcases List.mem_or_eq_of_mem_set hx with hx | rfl
  ·rcases List.mem_or_eq_of_mem_set hx with hx | rfl
   ·exact h3 x hx
   ·exact h3 _ (List.getElem_mem _)
  ·exact h3 _ (List.getElem_mem _)
 ·unfold MatV at *
  show _=((s.M.set a (s.M.getD t [])).set t (s.M.getD a [])).map _
  rw[ea,et,List.map_set,List.map_set,List.map_set,List.map_set,h4,hxa,hxt]
 ·show rct k ((s.M.set a (s.M.getD t [])).set t (s.M.getD a []))
  refine (h5.set ?_).set ?_
  ·rw[et];exact h5 _ (List.mem_of_getElem? hqt)
  ·rw[ea];exact h5 _ (List.mem_of_getElem? hqa)
end
end Go.Proofs.YthlinhconnmbcaaGreat
