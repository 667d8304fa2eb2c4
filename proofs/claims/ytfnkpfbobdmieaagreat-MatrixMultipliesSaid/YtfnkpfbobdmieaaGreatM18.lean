/- Rows that a call makes by append. -/
import Derived.Test.YtfnkpfbobdmieaaGreatM17
import Derived.Test.YtfnkpfbobdmieaaGreatM16
import Derived.Test.YtfnkpfbobdmieaaGreatB14
set_option maxRecDepth 100000
set_option maxHeartbeats 40000000
set_option linter.unusedVariables false
namespace Go.Proofs.YtfnkpfbobdmieaaGreat
open Go.RowKit RQ
abbrev Bk:=Nat×Array Value×Nat
abbrev Rdg:=Option Addr×Nat×Nat×List Nat
def Rt.cs (r:Rt):List Value:=[.bool r.b,.slice r.A r.n r.c,.slice r.D r.m r.d]
def csE (L:List Rt):List Value:=L.flatMap Rt.cs
def Rt.rdIn (r:Rt) (rs:List Rdg):Prop:=(r.A,r.n,r.c,r.x)∈rs∧(r.D,r.m,r.d,r.y)∈rs
def Rt.of (A:Option Addr) (n c:Nat) (D:Option Addr) (m d:Nat) (q:Rat):Rt:=⟨ng q.num,A,n,c,limbs q.num.natAbs,D,m,d,dn q,q⟩
theorem Rt.of_can (A:Option Addr) (n c:Nat) (D:Option Addr) (m d:Nat) {q:Rat} (h:Rs q 9000000):(Rt.of A n c D m d q).can:=⟨rfl,rfl,rfl,h⟩
def Ro.v (r:Ro):Value:=.slice r.A r.n r.c
theorem csE_len (L:List Rt):(csE L).length=L.length*3:=by
 induction L with
 | nil=>rfl
 | cons r l ih=>simp only[csE,List.flatMap_cons,List.length_append,List.length_cons] at ih ⊢;rw[ih];simp[Rt.cs];omega
theorem csE_app (L L':List Rt):csE (L++L')=csE L++csE L':=List.flatMap_append
theorem csE_get {L:List Rt} {i:Nat} {r:Rt} (h:L[i]?=some r):(csE L)[i*3]?=some (.bool r.b)∧(csE L)[i*3+1]?=some (.slice r.A r.n r.c)∧(csE L)[i*3+2]?=some (.slice r.D r.m r.d):=by
 induction L generalizing i with
 | nil=>simp at h
 | cons s l ih=>
  have e:csE (s::l)=s.cs++csE l:=rfl
  cases i with
  | zero=>
   simp at h
   subst h;rw[e];exact⟨rfl,rfl,rfl⟩
  | succ i=>
   obtain⟨h0,h1,h2⟩:=ih (i:=i) (by simpa using h)
   have k:∀ j,(s.cs++csE l)[(i+1)*3+j]?=(csE l)[i*3+j]?:=fun j=>by
    rw[List.getElem?_append_right (by simp[Rt.cs];omega)]
    congr 1
    simp[Rt.cs];omega
   rw[e];exact⟨(k 0).trans h0,(k 1).trans h1,(k 2).trans h2⟩
def Ro.In (r:Ro) (bs:List Bk) (rs:List Rdg):Prop:=
 r.L.length=r.n∧((r.A=none∧r.n=0∧r.c=0)∨∃ g cur,r.A=some ⟨g,0,none⟩∧r.n≤r.c∧(g,cur,45)∈bs∧cur.toList.take (r.n*3)=csE r.L)∧∀ x∈r.L,x.rdIn rs
section
variable {w W:World} {bs bs':List Bk} {rs rs':List Rdg} {r:Ro}
theorem Ro.In.mono (h:r.In bs rs) (hb:∀ p∈bs,p∈bs') (hr:∀ p∈rs,p∈rs'):r.In bs' rs':=by
 obtain⟨h1,h2,h3⟩:=h;refine⟨h1,?_,fun x hx=>⟨hr _ (h3 x hx).1,hr _ (h3 x hx).2⟩⟩
 rcases h2 with h2 | ⟨g,cur,k1,k2,k3,k4⟩
 ·exact .inl h2
 ·exact .inr ⟨g,cur,k1,k2,hb _ k3,k4⟩
theorem Ro.In.sr (h:r.In bs rs) (S:St w W bs rs):Sr W r.A r.n r.c r.L:=by
 obtain⟨h1,h2,h3⟩:=h;refine⟨h1,?_,?_,fun x hx=>⟨S.rd _ (h3 x hx).1,S.rd _ (h3 x hx).2⟩⟩
 ·rcases h2 with h2 | ⟨g,cur,k1,k2,k3,k4⟩
  ·omega
  ·exact k2
 ·rcases h2 with h2 | ⟨g,cur,k1,k2,k3,k4⟩
  ·exact .inl h2.2.1
  ·have hb:=(S.bk _ k3).1
   refine .inr ⟨g,0,k1,hb.lt,fun i x hi=>?_⟩
   have k:∀ j u,(csE r.L)[j]?=some u→W.cell? ⟨g,0+j,none⟩=some u:=fun j u hu=>by
    rw[Nat.zero_add];refine hb.cell ?_
    rw[←k4,List.getElem?_take] at hu
    split at hu
    ·simpa using hu
    ·cases hu
   obtain⟨e0,e1,e2⟩:=csE_get hi;exact⟨k _ _ e0,k _ _ e1,k _ _ e2⟩
theorem Apd.done {v:Value} {L:List Rt} (h:Apd w W bs rs 45 3 v L.length (csE L)) (hr:∀ x∈L,x.rdIn rs):∃ (r:Ro) (bs':List Bk),v=.slice r.A r.n r.c∧r.n=L.length∧r.L=L∧(bs'=bs∨∃ p,bs'=p::bs)∧r.In bs' rs∧St w W bs' rs:=by
 obtain⟨h1,h2,⟨rfl,h0,S⟩ | ⟨g,cap,cur,rfl,k2,k3,k4,k5,S⟩⟩:=h
 ·exact⟨⟨none,0,0,L⟩,bs,rfl,h0.symm,rfl,.inl rfl,⟨h0,.inl ⟨rfl,rfl,rfl⟩,hr⟩,S⟩
 ·exact⟨⟨some ⟨g,0,none⟩,L.length,cap,L⟩,(g,cur,45)::bs,rfl,rfl,rfl,.inr ⟨_,rfl⟩,⟨rfl,.inr ⟨g,cur,rfl,k2,List.mem_cons_self,k5⟩,hr⟩,S⟩
theorem Apd.mat {v:Value} {M:List Ro} (h:Apd w W bs rs 23 1 v M.length (M.map Ro.v)) (hr:∀ r∈M,r.In bs rs):∃ A c,v=.slice A M.length c∧Mr W A M.length c M:=by
 have S:=h.st;obtain⟨h1,h2,⟨rfl,h0,_⟩ | ⟨g,cap,cur,rfl,k2,k3,k4,k5,S'⟩⟩:=h
 ·exact⟨none,0,by rw[h0],rfl,by omega,.inl h0,fun r hr'=>(hr r hr').sr S⟩
 ·refine⟨some ⟨g,0,none⟩,cap,rfl,rfl,k2,.inr ⟨g,0,rfl,(S'.bk _ List.mem_cons_self).1.lt,fun i r hi=>?_⟩,fun r hr'=>(hr r hr').sr S⟩
  rw[Nat.zero_add];refine (S'.bk _ List.mem_cons_self).1.cell ?_
  have:(M.map Ro.v)[i]?=some (.slice r.A r.n r.c):=by rw[List.getElem?_map,hi];rfl
  rw[←k5,List.getElem?_take] at this
  split at this
  ·simpa using this
  ·cases this
end
theorem infoR:(Tryz.prog.info? 45).map (fun i=>(i.zero,i.size,i.bytes))=some (some (.agg #[.bool false,.slice none 0 0,.slice none 0 0]),3,56):=by kernel_rfl
theorem infoRow:(Tryz.prog.info? 23).map (fun i=>(i.zero,i.size,i.bytes))=some (some (.slice none 0 0),1,24):=by kernel_rfl
section
variable {w W:World} {bs:List Bk} {rs:List Rdg} {v:Value} {n:Nat} {xs:List Value} {ops:Array Oper} {rest:List Oper} {o:Oper} {a:Act} {Q:Exit→Act→World→Prop}
theorem app_rat (hgd:o.guard=none) (s x:Operand)
  (ho:o.op=.call { callee:=.builtin .append,args:=#[s,x],argTypes:=#[23,23] })
  (hs:a.eval s=v) (h:Apd w W bs rs 45 3 v n xs) (g:Nat) {b:Bool} {A:Option Addr} {n' c:Nat} {D:Option Addr} {m d:Nat} (hx:a.eval x=.slice (some ⟨g,0,none⟩) 1 1) (hc:Cb W g #[.bool b,.slice A n' c,.slice D m d] 45) (hn:n≤100000)
  (hk:∀ v' W',Apd w W' bs rs 45 3 v' (n+1) (xs++[.bool b,.slice A n' c,.slice D m d])→wpList Tryz.prog ops Q rest (a.put o.dst v') W'):wpList Tryz.prog ops Q (o::rest) a W:=by
 obtain⟨i0,hi,hzz⟩:=Option.map_eq_some_iff.1 infoR;simp only[Prod.mk.injEq] at hzz;obtain⟨hz0,hz1,hz2⟩:=hzz;refine Apd.wp hgd s x 23 ho i0 _ 56 Tryz.underlying23 hi hz0 hz1 hz2 rfl ?_ hs h ⟨g,0,none⟩ 1 1 [.bool b,.slice A n' c,.slice D m d] hx rfl ?_ ?_ ?_ (by decide) (by unfold maxLen;omega) (by omega) hk
 ·intro v hv z e;subst e;simp[Value.cells] at hv
 ·intro j u hu
  have hadd:(⟨g,0,none⟩:Addr).add j=⟨g,j,none⟩:=by unfold Addr.add;split<;>simp_all
  rw[hadd];exact hc.cell (by simpa using hu)
 ·intro u hu;simp at hu;rcases hu with rfl | rfl | rfl<;>rfl
 ·intro v hv z e;subst e;simp at hv
theorem app_row (hgd:o.guard=none) (s x:Operand)
  (ho:o.op=.call { callee:=.builtin .append,args:=#[s,x],argTypes:=#[22,22] })
  (hs:a.eval s=v) (h:Apd w W bs rs 23 1 v n xs) (g:Nat) {A:Option Addr} {n' c:Nat} (hx:a.eval x=.slice (some ⟨g,0,none⟩) 1 1) (hc:Cb W g #[.slice A n' c] 23) (hn:n≤100000)
  (hk:∀ v' W',Apd w W' bs rs 23 1 v' (n+1) (xs++[.slice A n' c])→wpList Tryz.prog ops Q rest (a.put o.dst v') W'):wpList Tryz.prog ops Q (o::rest) a W:=by
 obtain⟨i0,hi,hzz⟩:=Option.map_eq_some_iff.1 infoRow;simp only[Prod.mk.injEq] at hzz;obtain⟨hz0,hz1,hz2⟩:=hzz;refine Apd.wp hgd s x 22 ho i0 _ 24 Tryz.underlying22 hi hz0 hz1 hz2 rfl ?_ hs h ⟨g,0,none⟩ 1 1 [.slice A n' c] hx rfl ?_ ?_ ?_ (by decide) (by unfold maxLen;omega) (by omega) hk
 ·intro v hv z e;subst e;simp[Value.cells] at hv
 ·intro j u hu
  have hadd:(⟨g,0,none⟩:Addr).add j=⟨g,j,none⟩:=by unfold Addr.add;split<;>simp_all
  rw[hadd];exact hc.cell (by simpa using hu)
 ·intro u hu;simp at hu;rcases hu with rfl;rfl
 ·intro v hv z e;subst e;simp at hv
end
theorem noL1 (A:Option Addr) (n c:Nat):NoL #[.slice A n c]:=by
 intro i z;match i with
 | 0=>simp
 | k+1=>simp
end Go.Proofs.YtfnkpfbobdmieaaGreat
namespace Go.Proofs.YtfnkpfbobdmieaaGreat
open Go.RowKit RQ
def ltL (L:List Rt):Prop:=∀ x∈L,Rk x.b x.n x.x x.m x.y x.q∧Rs x.q 8
def ltM (M:List Ro):Prop:=∀ r∈M,ltL r.L
theorem wf_row {M:List Ro} {r:Ro} (h:wfM M=true) (hr:r∈M):1≤r.n∧r.n≤96∧r.n=colM M:=by
 unfold wfM at h;rw[Bool.and_eq_true] at h;have:=List.all_eq_true.1 h.2 r hr;unfold rowM at this;simp only[Bool.and_eq_true,decide_eq_true_eq] at this;exact⟨this.1.1,this.1.2,this.2⟩
theorem wf_len {M:List Ro} (h:wfM M=true):M.length≤96:=by
 unfold wfM at h;rw[Bool.and_eq_true] at h;exact of_decide_eq_true h.1
theorem Apd.sr {w W:World} {bs:List Bk} {rs:List Rdg} {v:Value} {L:List Rt} (h:Apd w W bs rs 45 3 v L.length (csE L)) (hr:∀ x∈L,x.rdIn rs):∃ A c,v=.slice A L.length c∧Sr W A L.length c L:=by
 obtain⟨r,bs',rfl,h1,h2,_,h4,S⟩:=h.done hr;have:=h4.sr S;rw[h1,h2] at this;exact⟨r.A,r.c,by rw[h1],this⟩
theorem rd_cons_ {x:Rt} {rs:List Rdg} {p:Rdg} (h:x.rdIn rs):x.rdIn (p::rs):=⟨List.mem_cons_of_mem _ h.1,List.mem_cons_of_mem _ h.2⟩
def RetLE (Q:List Rat) (w:World) (e:Ending) (w':World):Prop:=∃ A n c L,e=.returned (.tuple #[.slice A n c,.int .i64 0])∧Sr w' A n c L∧(∀ x∈L,x.can)∧L.map (·.q)=Q∧Below w.heap.size w w'
def RetME (Q:List (List Rat)) (w:World) (e:Ending) (w':World):Prop:=∃ A n c M,e=.returned (.tuple #[.slice A n c,.int .i64 0])∧Mr w' A n c M∧canM M∧qM M=Q∧Below w.heap.size w w'
def RetE (w:World) (e:Ending) (w':World):Prop:=e=.returned (.tuple #[.slice none 0 0,.int .i64 6])∧Below w.heap.size w w'
def apQ (M:List Ro) (L:List Rt):List Rat:=M.map fun r=>dq (r.L.map (·.q)) (L.map (·.q)) (colM M)
theorem rapply_no1 (M:List Ro) (A:Option Addr) (n c:Nat) (L:List Rt) (A':Option Addr) (n' c':Nat) (w:World) (h:Mr w A n c M) (hm:∀ r∈M,r.n≤9223372036854775807) (hn:n≤9223372036854775807) (h':Sr w A' n' c' L) (lm:ltM M) (ll:ltL L) (hwf:wfM M=false):Calls Tryz.prog 14 #[.slice A n c,.slice A' n' c'] w (RetE w):=by
 have hF:=fun W h'=>rwf_any M A n c W h' hm hn
 rw[hwf] at hF;replace hF:=Lib.hid hF;replace h:=Lib.hid h;clear hm hn h' lm ll hwf;go_enter Tryz.func14,Tryz.ntmps14
 go_wp2_with fail
 refine (hF.out _ h.out).mono ?_
 rintro e w1 ⟨rfl,bb⟩;replace bb:=Lib.hid bb;go_wp2
 go_ret2
 exact⟨rfl,bb.out⟩
theorem rapply_no2 (M:List Ro) (A:Option Addr) (n c:Nat) (L:List Rt) (A':Option Addr) (n' c':Nat) (w:World) (h:Mr w A n c M) (hm:∀ r∈M,r.n≤9223372036854775807) (hn:n≤9223372036854775807) (h':Sr w A' n' c' L) (lm:ltM M) (ll:ltL L) (hwf:wfM M=true) (hc:¬ n'=colM M):Calls Tryz.prog 14 #[.slice A n c,.slice A' n' c'] w (RetE w):=by
 have hF:=fun W h'=>rwf_any M A n c W h' hm hn
 rw[hwf] at hF;have hC:=Lib.hid (fun W h'=>rcols_any M A n c W h')
 replace hF:=Lib.hid hF;replace h:=Lib.hid h;clear hm hn h' lm ll hwf;go_enter Tryz.func14,Tryz.ntmps14
 go_wp2_with fail
 refine (hF.out _ h.out).mono ?_
 rintro e w1 ⟨rfl,bb⟩;replace bb:=Lib.hid bb
 go_wp2_with fail
 refine (hC.out _ (h.out.bel bb.out)).mono ?_
 rintro e w2 ⟨rfl,bb2⟩;replace bb2:=Lib.hid (bb.out.trans (bb2.mono bb.out.size));go_wp2
 go_ret2
 exact⟨rfl,bb2.out⟩
theorem rapply_yes (M:List Ro) (A:Option Addr) (n c:Nat) (L:List Rt) (A':Option Addr) (n' c':Nat) (w:World) (h:Mr w A n c M) (hm:∀ r∈M,r.n≤9223372036854775807) (hn:n≤9223372036854775807) (h':Sr w A' n' c' L) (lm:ltM M) (ll:ltL L) (hwf:wfM M=true) (hc:n'=colM M):Calls Tryz.prog 14 #[.slice A n c,.slice A' n' c'] w (RetLE (apQ M L) w):=by
 have hF:=fun W h'=>rwf_any M A n c W h' hm hn
 rw[hwf] at hF;have hC:=Lib.hid (fun W h'=>rcols_any M A n c W h')
 replace hF:=Lib.hid hF;have hlen:=h.len;have hb:=Lib.hid (show n≤96 by rw[←hlen];exact wf_len hwf)
 have hD:Hid (∀ r∈M,∀ W,Sr W r.A r.n r.c r.L→Sr W A' n' c' L→Calls Tryz.prog 46 #[.slice r.A r.n r.c,.slice A' n' c'] W (RetR (dq (r.L.map (·.q)) (L.map (·.q)) (colM M)) W)):=Lib.hid fun r hr W h1 h2=>by
  obtain⟨_,k2,k3⟩:=wf_row hwf hr;rw[hc,←k3] at h2 ⊢;exact dotr_any r.L L 8 r.A r.n r.c A' c' W h1 h2 (fun x hx=>(lm r hr x hx).1) (fun x hx=>(ll x hx).1) (fun x hx=>(lm r hr x hx).2) (fun x hx=>(ll x hx).2) (by decide) (by omega) (by omega)
 have hR:Hid (∀ r∈M,Rs (dq (r.L.map (·.q)) (L.map (·.q)) (colM M)) 9000000):=Lib.hid fun r hr=>by
  obtain⟨_,k2,k3⟩:=wf_row hwf hr;exact (dq_rs (p:=8) (fun x hx=>by obtain⟨z,hz,rfl⟩:=List.mem_map.1 hx;exact (lm r hr z hz).2) (fun x hx=>by obtain⟨z,hz,rfl⟩:=List.mem_map.1 hx;exact (ll z hz).2) (by decide) _).mono (by omega)
 replace h:=Lib.hid h;replace h':=Lib.hid h';clear hm hn lm ll hwf;subst hc;unfold apQ;generalize hfd:(fun r:Ro=>dq (r.L.map (·.q)) (L.map (·.q)) (colM M))=f
 have hf:∀ r,dq (r.L.map (·.q)) (L.map (·.q)) (colM M)=f r:=fun r=>by rw[←hfd]
 simp only[hf] at hD hR;replace hlen:=Lib.hid hlen;clear hf hfd;go_enter Tryz.func14,Tryz.ntmps14
 go_wp2_with fail
 refine (hF.out _ h.out).mono ?_
 rintro e w1 ⟨rfl,bb⟩;replace bb:=Lib.hid bb
 go_wp2_with fail
 refine (hC.out _ (h.out.bel bb.out)).mono ?_
 rintro e w2 ⟨rfl,bb2⟩;have S:=Lib.hid ((St.new w).call (bb.out.trans (bb2.mono bb.out.size)));clear bb bb2 hF hC;go_wp2
 go_loopw [6,7] (fun ov iv wr=>∃ (i:Nat) (K:List Rt) (rs:List Rdg),i≤n∧iv=.int .i64 i∧K.length=i∧Apd w wr [] rs 45 3 ov i (csE K)∧(∀ x∈K,x.can∧x.rdIn rs)∧K.map (·.q)=(M.take i).map f) (fun _ iv _=>n-(intOf iv).toNat)
 case atStart=>exact⟨0,[],[],Nat.zero_le _,rfl,rfl,Apd.nil_ S.out _ _,fun x hx=>(by cases hx),rfl⟩
 case round=>
  clear S;obtain⟨i,K,rs,hin,rfl,hK,AP,hcan,hq⟩:=hrel
  by_cases hlt:i<n
  ·have Bl:=AP.st.bel
   obtain⟨b,o,r,rfl,hr,hrm,e0⟩:=(h.out.bel Bl).get hlt;have R1:=Lib.hid ((h.out.bel Bl).rd r hrm);have R2:=Lib.hid (h'.out.bel Bl);have hDr:=Lib.hid (hD.out r hrm);have hRr:=Lib.hid (hR.out r hrm);have hqn:=Lib.hid (show (M.take i).map f++[f r]=(M.take (i+1)).map f by rw[List.take_add_one,hr];simp)
   generalize f r=q at *;have hlh:=Lib.hid hlt;have g1:(i:Int)<(n:Int):=by omega
   have g2:(0:Int)≤(i:Int):=by omega
   replace AP:=Lib.hid AP;replace hcan:=Lib.hid hcan;replace hq:=Lib.hid hq;replace hK:=Lib.hid hK;clear hlt hin hrm hr Bl
   go_wp2_with fail
   refine (hDr.out _ R1.out R2.out).mono ?_
   rintro e w3 ⟨A2,n2,c2,D2,m2,d2,rfl,Q2,bb⟩;have AP1:=(((AP.out.call bb).read Q2.n).read Q2.d).alloc #[.bool (ng q.num),.slice A2 n2 c2,.slice D2 m2 d2] 45 (noL3 _ _ _ _ _ _ _);have hcb:=AP1.st.cb 0 rfl;clear AP bb Q2 R1 R2 e0
   go_wp2_with (at_builtin;refine app_rat rfl (.tmp 24) (.tmp 31) rfl rfl AP1 _ rfl hcb (by have:=hlh.out;have:=hb.out;omega) ?_)
   clear AP1 hcb;intro v' W' AP;replace AP:=Lib.hid AP;have hlt:=hlh.out;have hbb:=hb.out;go_wp2
   go_roundw
   case rel=>exact⟨i+1,K++[Rt.of A2 n2 c2 D2 m2 d2 q],_,by omega,by go_num,by rw[List.length_append,hK.out];rfl,by rw[csE_app];exact AP.out.sub,fun x hx=>(by rcases List.mem_append.1 hx with hx | hx;exact⟨(hcan.out x hx).1,rd_cons_ (rd_cons_ (hcan.out x hx).2)⟩;obtain rfl:=List.mem_singleton.1 hx;exact⟨Rt.of_can _ _ _ _ _ _ hRr.out,List.mem_cons_of_mem _ List.mem_cons_self,List.mem_cons_self⟩),by rw[List.map_append,hq.out];exact hqn.out⟩
   case measure=>simp[intOf];omega
  ·obtain rfl:i=n:=by omega
   have hfin:K.map (·.q)=M.map f:=by rw[hq,List.take_of_length_le (by rw[hlen.out];exact Nat.le_refl _)]
   subst hK;obtain⟨A3,c3,hv,S3⟩:=AP.sr (fun x hx=>(hcan x hx).2)
   subst hv;have hbl:=Lib.hid AP.st.bel;replace hfin:=Lib.hid hfin;replace S3:=Lib.hid S3;replace hcan:=Lib.hid hcan;clear AP hq hin;go_wp2
   go_ret2
   exact⟨_,_,_,K,rfl,S3.out,fun x hx=>(hcan.out x hx).1,hfin.out,hbl.out⟩
end Go.Proofs.YtfnkpfbobdmieaaGreat
namespace Go.Proofs.YtfnkpfbobdmieaaGreat
open Go.RowKit RQ
def colQ (M:List Ro) (j:Nat):List Rat:=M.map fun r=>(r.L.map (·.q)).getD j 0
def tQ (M:List Ro):List (List Rat):=(List.range (colM M)).map (colQ M)
theorem getD_get {L:List Rt} {j:Nat} {x:Rt} (h:L[j]?=some x):(L.map (·.q)).getD j 0=x.q:=by
 rw[List.getD_eq_getElem?_getD,List.getElem?_map,h];rfl
theorem qM_app (M:List Ro) (r:Ro):qM (M++[r])=qM M++[r.L.map (·.q)]:=by unfold qM;rw[List.map_append];rfl
theorem canM_app {M:List Ro} {r:Ro} (h:canM M) (h1:r.n≤1000) (h2:∀ x∈r.L,x.can):canM (M++[r]):=fun s hs=>by
 rcases List.mem_append.1 hs with hs | hs
 ·exact h s hs
 ·obtain rfl:=List.mem_singleton.1 hs;exact⟨h1,h2⟩
theorem In_app {M:List Ro} {r:Ro} {bs bs':List Bk} {rs rs':List Rdg} (h:∀ s∈M,s.In bs rs) (hb:∀ p∈bs,p∈bs') (hr:∀ p∈rs,p∈rs') (h1:r.In bs' rs'):∀ s∈M++[r],s.In bs' rs':=fun s hs=>by
 rcases List.mem_append.1 hs with hs | hs
 ·exact (h s hs).mono hb hr
 ·obtain rfl:=List.mem_singleton.1 hs;exact h1
theorem row_done {w W:World} {bs:List Bk} {rs:List Rdg} {v:Value} {L:List Rt} {ob:List Bk} (h:Apd w W (bs++ob) rs 45 3 v L.length (csE L)) (hr:∀ x∈L,x.rdIn rs):∃ (r:Ro) (bs':List Bk),v=.slice r.A r.n r.c∧r.n=L.length∧r.L=L∧(∀ p∈bs,p∈bs')∧r.In bs' rs∧St w W (bs'++ob) rs:=by
 obtain⟨h1,h2,⟨rfl,h0,S⟩ | ⟨g,cap,cur,rfl,k2,k3,k4,k5,S⟩⟩:=h
 ·exact⟨⟨none,0,0,L⟩,bs,rfl,h0.symm,rfl,fun _ h=>h,⟨h0,.inl ⟨rfl,rfl,rfl⟩,hr⟩,S⟩
 ·exact⟨⟨some ⟨g,0,none⟩,L.length,cap,L⟩,(g,cur,45)::bs,rfl,rfl,rfl,fun _ h=>List.mem_cons_of_mem _ h,⟨rfl,.inr ⟨g,cur,rfl,k2,List.mem_cons_self,k5⟩,hr⟩,S⟩
theorem rtrans_no (M:List Ro) (A:Option Addr) (n c:Nat) (w:World) (h:Mr w A n c M) (hm:∀ r∈M,r.n≤9223372036854775807) (hn:n≤9223372036854775807) (hwf:wfM M=false):Calls Tryz.prog 10 #[.slice A n c] w (RetE w):=by
 have hF:=fun W h'=>rwf_any M A n c W h' hm hn
 rw[hwf] at hF;replace hF:=Lib.hid hF;replace h:=Lib.hid h;clear hm hn hwf;go_enter Tryz.func10,Tryz.ntmps10
 go_wp2_with fail
 refine (hF.out _ h.out).mono ?_
 rintro e w1 ⟨rfl,bb⟩;replace bb:=Lib.hid bb;go_wp2
 go_ret2
 exact⟨rfl,bb.out⟩
theorem rtrans_yes (M:List Ro) (A:Option Addr) (n c:Nat) (w:World) (h:Mr w A n c M) (hm:∀ r∈M,r.n≤9223372036854775807) (hn:n≤9223372036854775807) (lm:ltM M) (hwf:wfM M=true):Calls Tryz.prog 10 #[.slice A n c] w (RetME (tQ M) w):=by
 have hF:=fun W h'=>rwf_any M A n c W h' hm hn
 rw[hwf] at hF;have hC:=Lib.hid (fun W h'=>rcols_any M A n c W h')
 replace hF:=Lib.hid hF;have hlen:=h.len;have hb:=Lib.hid (show n≤96 by rw[←hlen];exact wf_len hwf)
 have hrw:=Lib.hid (fun r hr=>wf_row (r:=r) hwf hr)
 have hcb:Hid (colM M≤96):=Lib.hid (by
  rcases M with _ | ⟨r,M⟩
  ·exact Nat.zero_le _
  ·obtain⟨_,k2,k3⟩:=wf_row hwf (r:=r) List.mem_cons_self
   omega)
 replace h:=Lib.hid h;replace lm:=Lib.hid lm;clear hm hn hwf;unfold tQ;obtain⟨k,hk⟩:∃ k,k=colM M:=⟨_,rfl⟩;rw[←hk] at hC hcb ⊢;replace hk:=Lib.hid hk;obtain⟨f,hf⟩:∃ f,f=colQ M:=⟨_,rfl⟩;rw[←hf];replace hf:=Lib.hid hf;replace hlen:=Lib.hid hlen;go_enter Tryz.func10,Tryz.ntmps10
 go_wp2_with fail
 refine (hF.out _ h.out).mono ?_
 rintro e w1 ⟨rfl,bb⟩;have S:=Lib.hid ((St.new w).call bb);clear bb hF;go_wp2
 go_loopw [4,5] (fun ov jv wr=>∃ (j:Nat) (K:List Ro) (bs:List Bk) (rs:List Rdg),j≤k∧jv=.int .i64 j∧K.length=j∧Apd w wr bs rs 23 1 ov j (K.map Ro.v)∧(∀ r∈K,r.In bs rs)∧canM K∧qM K=(List.range j).map f) (fun _ jv _=>k-(intOf jv).toNat)
 case atStart=>exact⟨0,[],[],[],Nat.zero_le _,rfl,rfl,Apd.nil_ S.out _ _,fun x hx=>(by cases hx),fun x hx=>(by cases hx),rfl⟩
 case round=>
  clear S;obtain⟨j,K,bs,rs,hjk,rfl,hK,AP,hIn,hcan,hq⟩:=hrel;have hCj:=Lib.hid (hC.out _ (h.out.bel AP.st.bel))
  by_cases hlt:j<k
  ·have hjh:=Lib.hid hlt
   have hqn:=Lib.hid (show (List.range j).map f++[f j]=(List.range (j+1)).map f by rw[List.range_succ,List.map_append];rfl)
   have g1:(j:Int)<(k:Int):=by omega
   have g2:(0:Int)≤(j:Int):=by omega
   replace AP:=Lib.hid AP;replace hIn:=Lib.hid hIn;replace hcan:=Lib.hid hcan;replace hq:=Lib.hid hq;replace hK:=Lib.hid hK;clear hlt hjk
   go_wp2_with fail
   refine hCj.out.mono ?_
   rintro e w2 ⟨rfl,bb⟩;obtain⟨ob,hob,S⟩:=(AP.out.call bb).open_;clear bb hCj AP;replace hob:=Lib.hid hob;replace S:=Lib.hid S;go_wp2
   go_loopw [6,7] (fun rv iv wr=>∃ (i:Nat) (L:List Rt) (rs':List Rdg),i≤n∧iv=.int .i64 i∧L.length=i∧Apd w wr (bs++ob) rs' 45 3 rv i (csE L)∧(∀ x∈L,x.can∧x.rdIn rs')∧L.map (·.q)=(f j).take i∧(∀ p∈rs,p∈rs')) (fun _ iv _=>n-(intOf iv).toNat)
   case atStart=>exact⟨0,[],rs,Nat.zero_le _,rfl,rfl,Apd.nil_ S.out _ _,fun x hx=>(by cases hx),rfl,fun _ h=>h⟩
   case round=>
    clear S;obtain⟨i,L,rs',hin,rfl,hL,AP,hcn,hqL,hsub⟩:=hrel
    by_cases hli:i<n
    ·have Bl:=AP.st.bel
     obtain⟨b,o,r,rfl,hr,hrm,e0⟩:=(h.out.bel Bl).get hli;obtain⟨_,_,k3⟩:=hrw.out r hrm;obtain⟨b',o',x,hA,hx,hxm,e1,e2,e3⟩:=((h.out.bel Bl).rd r hrm).get (i:=j) (by rw[k3,←hk.out];exact hjh.out)
     rw[hA] at e0;have hX:=((h.out.bel Bl).rd r hrm).rd x hxm;have hT:=Lib.hid (fun W (h1:x.raw W)=>takeF x.b x.A x.n x.c x.x x.D x.m x.d x.y x.q W (h1.at_ (lm.out r hrm x hxm).1))
     have hqi:=Lib.hid (show (f j).take i++[x.q]=(f j).take (i+1) by
      rw[hf.out];have:(colQ M j)[i]?=some x.q:=by unfold colQ;rw[List.getElem?_map,hr];exact congrArg some (getD_get hx)
      rw[List.take_add_one,this];rfl)
     have hRx:=Lib.hid ((lm.out r hrm x hxm).2.mono (show 8≤9000000 by decide))
     have g4:(i:Int)<(n:Int):=by omega
     have g5:(0:Int)≤(i:Int):=by omega
     have g6:(j:Int)<(r.n:Int):=by have:=hjh.out;have:=hk.out;omega
     obtain⟨q,hqx⟩:∃ q,q=x.q:=⟨_,rfl⟩;rw[←hqx] at hT hqi hRx;have hli':=Lib.hid hli;replace AP:=Lib.hid AP;replace hcn:=Lib.hid hcn;replace hqL:=Lib.hid hqL;replace hsub:=Lib.hid hsub;replace hL:=Lib.hid hL;replace hX:=Lib.hid hX;clear hli hin hr hrm hx hxm Bl k3 hA hqx
     go_wp2_with fail
     refine (hT.out _ hX.out).mono ?_
     rintro e w3 ⟨A2,n2,c2,D2,m2,d2,rfl,Q2,bb⟩;have AP1:=(((AP.out.call bb).read Q2.n).read Q2.d).alloc #[.bool (ng q.num),.slice A2 n2 c2,.slice D2 m2 d2] 45 (noL3 _ _ _ _ _ _ _);have hcb1:=AP1.st.cb 0 rfl;clear AP bb Q2 hX e0 e1 e2 e3
     go_wp2_with (at_builtin;refine app_rat rfl (.tmp 23) (.tmp 32) rfl rfl AP1 _ rfl hcb1 (by have:=hli'.out;have:=hb.out;omega) ?_)
     clear AP1 hcb1;intro v' W' AP;replace AP:=Lib.hid AP;have hli:=hli'.out;have hbb:=hb.out;go_wp2
     go_roundw
     case rel=>exact⟨i+1,L++[Rt.of A2 n2 c2 D2 m2 d2 q],_,by omega,by go_num,by rw[List.length_append,hL.out];rfl,by rw[csE_app];exact AP.out.sub,fun x hx=>(by rcases List.mem_append.1 hx with hx | hx;exact⟨(hcn.out x hx).1,rd_cons_ (rd_cons_ (hcn.out x hx).2)⟩;obtain rfl:=List.mem_singleton.1 hx;exact⟨Rt.of_can _ _ _ _ _ _ hRx.out,List.mem_cons_of_mem _ List.mem_cons_self,List.mem_cons_self⟩),by rw[List.map_append,hqL.out];exact hqi.out,fun p hp=>List.mem_cons_of_mem _ (List.mem_cons_of_mem _ (hsub.out p hp))⟩
     case measure=>simp[intOf];omega
    ·obtain rfl:i=n:=by omega
     have hqf:L.map (·.q)=f j:=by rw[hqL,List.take_of_length_le (by rw[hf.out];unfold colQ;rw[List.length_map,hlen.out];exact Nat.le_refl _)]
     subst hL;obtain⟨r,bs',rfl,h1,h2,h3,h4,S3⟩:=row_done AP (fun x hx=>(hcn x hx).2)
     have APo:=Apd.close hob.out S3;have APl:=APo.alloc #[.slice r.A r.n r.c] 23 (noL1 _ _ _);have hcb1:=APl.st.cb 0 rfl;have hcn':=Lib.hid (fun x hx=>(hcn x hx).1)
     replace hqf:=Lib.hid hqf;replace hsub:=Lib.hid hsub;have hh:=Lib.hid (And.intro h1 (And.intro h2 (And.intro h3 h4)));clear AP hcn hqL hin h1 h2 h3 h4 S3 APo hob hli;have hjl:=hjh.out;have hcbb:=hcb.out
     go_wp2_with (at_builtin;refine app_row rfl (.tmp 34) (.tmp 36) rfl rfl APl _ rfl hcb1 (by omega) ?_)
     clear APl hcb1;intro v' W' AP;replace AP:=Lib.hid AP;go_wp2
     go_roundw
     case rel=>exact⟨j+1,K++[r],bs',_,by omega,by go_num,by rw[List.length_append,hK.out];rfl,by rw[List.map_append];exact AP.out.sub,In_app hIn.out hh.out.2.2.1 hsub.out hh.out.2.2.2,canM_app hcan.out (by rw[hh.out.1];have:=hb.out;omega) (by rw[hh.out.2.1];exact hcn'.out),by rw[qM_app,hq.out,hh.out.2.1,hqf.out];exact hqn.out⟩
     case measure=>simp[intOf];omega
  ·obtain rfl:j=k:=by omega
   replace AP:=Lib.hid AP;replace hIn:=Lib.hid hIn;replace hcan:=Lib.hid hcan;replace hq:=Lib.hid hq;replace hK:=Lib.hid hK;clear hlt hjk
   go_wp2_with fail
   refine hCj.out.mono ?_
   rintro e w2 ⟨rfl,bb⟩;have AP1:=AP.out.call bb;rw[←hK.out] at AP1;obtain⟨A3,c3,hv,M3⟩:=AP1.mat hIn.out;subst hv;have hbl:=Lib.hid AP1.st.bel;replace M3:=Lib.hid M3;clear AP1 AP bb hCj;go_wp2
   go_ret2
   exact⟨_,_,_,K,rfl,M3.out,hcan.out,hq.out,hbl.out⟩
end Go.Proofs.YtfnkpfbobdmieaaGreat
namespace Go.Proofs.YtfnkpfbobdmieaaGreat
open Go.RowKit RQ
section
variable {P:Program} {ops:Array Oper} {Q:Exit→Act→World→Prop} {S:World→Prop} {w0:World} {Z:List Zv} {L:Array Bool} {a:Act} {bs:List (Nat×Array Value×Nat)} {rs:List (Option Addr×Nat×Nat×List Nat)}
theorem RW.blk {i:Nat} {oi:Oper} {cs:Array Value} {t k:Nat} (dst:Option Nat) (hz:ZOk P ops S w0 Z bs) (hi:ops[i]?=some oi) (hd:oi.dst=dst) (hc:callOk ops Z L i oi=true) (hw:Region.wanted oi (yielded ops a.tmps)=true)
  (hx:∀ w,(execOp a.eval oi).run P w=.ok (.value (.slice (some ⟨w.heap.size,0,none⟩) k k)) (w.alloc (.cells cs t))) (hn:NoL cs)
  (h:∀ g:Nat,Hid (ZOk P ops S w0 Z ((g,cs,t)::bs))→RW P ops Q S w0 Z (L.setIfInBounds i true) (a.put dst (.slice (some ⟨g,0,none⟩) k k)) ((g,cs,t)::bs) rs):RW P ops Q S w0 Z L a bs rs:=by
 have hzk:∀ g,ZOk P ops S w0 Z ((g,cs,t)::bs):=fun g=>⟨hz.ok,hz.is,hz.nd,hz.ndo,hz.nol,fun w B hB=>hz.keep w (B++[(g,cs,t)]) (by rw[List.append_assoc];exact hB)⟩
 simp only[callOk,Bool.and_eq_true,Bool.not_eq_true',beq_iff_eq] at hc;obtain⟨⟨⟨⟨c1,c2⟩,c3⟩,c4⟩,c5⟩:=hc;have hcz:i∉Z.map (·.op):=by simpa using c3
 subst hd;intro σ w hl hS hst;generalize hn':σ.count none=n
 induction n using Nat.strongRecOn generalizing σ w with
 | ind n ih=>
  have hcr:i∈Region.ready .any ops (mark Z σ L):=ready_mark (by simpa using c2) hcz
  refine Wk.all ⟨i,hcr⟩ fun j hj=>?_
  by_cases hjz:j∈Z.map (·.op)
  ·refine RW.alloc hz hl hst (mem_ready.1 hj).1 hjz fun σ' w' hl' hc' hS' hst'=>?_
   exact ih _ (by omega) σ' w' hl' hS' hst' rfl
  ·have:=ready_full hj hjz
   rw[c1] at this;have:=List.mem_singleton.1 this;subst this;unfold wpOp;rw[hi];simp only[wanted_fill (ops:=ops) oi Z σ a c4,hw,if_true];refine .inl ?_
   unfold Oper.wp;rw[exec_fill (ops:=ops) oi (fun cs b=>Region.noSelect_spec c5 j oi cs b hi) Z σ a c4,hx]
   show S _∧Wk P ops Q S _ (Act.put _ oi.dst _) _
   have hst':St w0 (w.alloc (.cells cs t)) (blks Z σ++(w.heap.size,cs,t)::bs) rs:=(hst.alloc cs t hn).perm (List.perm_middle.symm);have hS':S (w.alloc (.cells cs t)):=(hzk w.heap.size).keep _ _ hst'.none;refine⟨hS',?_⟩
   rw[←mark_set,←fill_put Z σ a oi.dst _ (fun z hzm e=>by
    have:=List.all_eq_true.1 c4 z hzm;simp only[Bool.and_eq_true,bne_iff_ne] at this;exact this.2 e)]
   exact h _ (Lib.hid (hzk _)) σ _ hl hS' hst'
end
end Go.Proofs.YtfnkpfbobdmieaaGreat
namespace Go.Proofs.YtfnkpfbobdmieaaGreat
open Go.RowKit RQ
section
variable {P:Program} {w W:World} {bs:List Bk} {rs:List Rdg} {e size:Nat} {v:Value} {n:Nat} {xs:List Value}
theorem Apd.op {o:Oper} {a:Act} {K:Act→World→Prop} {Q:Exit→Act→World→Prop} (s x:Operand) (t:TypeId)
  (ho:o.op=.call { callee:=.builtin .append,args:=#[s,x],argTypes:=#[t,t] })
  (i:TypeInfo) (z:Value) (bytes:Nat) (ht:P.underlying t=some (.slice e)) (hi:P.info? e=some i) (hz:i.zero=some z)
  (hsize:i.size=size) (hby:i.bytes=bytes) (hzs:z.cells.size=size) (hzn:NoLl z.cells.toList)
  (hs:a.eval s=v) (h:Apd w W bs rs e size v n xs) (ad:Addr) (m c:Nat) (news:List Value) (hx:a.eval x=.slice (some ad) m c) (hl:news.length=m*size) (hnews:∀ j u,news[j]?=some u→W.cell? (ad.add j)=some u) (h1:∀ u∈news,u.oneCell'=true) (hnn:NoLl news) (hm:0<m)
  (h63:n+m≤maxLen) (hbytes:(n+m)*bytes≤140737488355328)
  (hk:∀ v' W',Apd w W' bs rs e size v' (n+m) (xs++news)→K (a.put o.dst v') W'):o.wp P a W K Q:=by
 obtain⟨v',W',hr,h2⟩:=Apd.run (P:=P) t o.type i z bytes ht hi hz hsize hby hzs hzn h ad m c news hl hnews h1 hnn hm h63 hbytes;unfold Oper.wp execOp;simp only[ho,resolve,invoke,builtin,Sem.run_bind,Sem.run_pure,Result.andThen_ok,List.map_toArray,List.map_cons,List.map_nil,hs,hx,hr];exact hk v' W' h2
end
theorem app_rat_op {w W:World} {bs:List Bk} {rs:List Rdg} {v:Value} {n:Nat} {xs:List Value} {o:Oper} {a:Act} {K:Act→World→Prop} {Q:Exit→Act→World→Prop} (s x:Operand)
  (ho:o.op=.call { callee:=.builtin .append,args:=#[s,x],argTypes:=#[23,23] })
  (hs:a.eval s=v) (h:Apd w W bs rs 45 3 v n xs) (g:Nat) {b:Bool} {A:Option Addr} {n' c:Nat} {D:Option Addr} {m d:Nat} (hx:a.eval x=.slice (some ⟨g,0,none⟩) 1 1) (hc:Cb W g #[.bool b,.slice A n' c,.slice D m d] 45) (hn:n≤100000)
  (hk:∀ v' W',Apd w W' bs rs 45 3 v' (n+1) (xs++[.bool b,.slice A n' c,.slice D m d])→K (a.put o.dst v') W'):o.wp Tryz.prog a W K Q:=by
 obtain⟨i0,hi,hzz⟩:=Option.map_eq_some_iff.1 infoR;simp only[Prod.mk.injEq] at hzz;obtain⟨hz0,hz1,hz2⟩:=hzz;refine Apd.op s x 23 ho i0 _ 56 Tryz.underlying23 hi hz0 hz1 hz2 rfl ?_ hs h ⟨g,0,none⟩ 1 1 [.bool b,.slice A n' c,.slice D m d] hx rfl ?_ ?_ ?_ (by decide) (by unfold maxLen;omega) (by omega) hk
 ·intro v hv z e;subst e;simp[Value.cells] at hv
 ·intro j u hu
  have hadd:(⟨g,0,none⟩:Addr).add j=⟨g,j,none⟩:=by unfold Addr.add;split<;>simp_all
  rw[hadd];exact hc.cell (by simpa using hu)
 ·intro u hu;simp at hu;rcases hu with rfl | rfl | rfl<;>rfl
 ·intro v hv z e;subst e;simp at hv
theorem rmul_no1 (M:List Ro) (A:Option Addr) (n c:Nat) (N:List Ro) (A':Option Addr) (n' c':Nat) (w:World) (h:Mr w A n c M) (hm:∀ r∈M,r.n≤9223372036854775807) (hn:n≤9223372036854775807) (h':Mr w A' n' c' N) (hm':∀ r∈N,r.n≤9223372036854775807) (hn':n'≤9223372036854775807) (hwf:wfM M=false):Calls Tryz.prog 12 #[.slice A n c,.slice A' n' c'] w (RetE w):=by
 have hF:=fun W h'=>rwf_any M A n c W h' hm hn
 have hG:=fun W h'=>rwf_any N A' n' c' W h' hm' hn'
 have hC:=Lib.hid (fun W h'=>rcols_any M A n c W h')
 rw[hwf] at hF;replace hF:=Lib.hid hF;replace hG:=Lib.hid hG;replace h:=Lib.hid h;replace h':=Lib.hid h';clear hm hn hm' hn' hwf;go_enter Tryz.func12,Tryz.ntmps12
 go_wp2_with fail
 refine (hF.out _ h.out).mono ?_
 rintro e w1 ⟨rfl,bb⟩;replace bb:=Lib.hid bb;go_wp2
 go_ret2
 exact⟨rfl,bb.out⟩
theorem rmul_no2 (M:List Ro) (A:Option Addr) (n c:Nat) (N:List Ro) (A':Option Addr) (n' c':Nat) (w:World) (h:Mr w A n c M) (hm:∀ r∈M,r.n≤9223372036854775807) (hn:n≤9223372036854775807) (h':Mr w A' n' c' N) (hm':∀ r∈N,r.n≤9223372036854775807) (hn':n'≤9223372036854775807) (hwf:wfM M=true) (hwg:wfM N=false):Calls Tryz.prog 12 #[.slice A n c,.slice A' n' c'] w (RetE w):=by
 have hF:=fun W h'=>rwf_any M A n c W h' hm hn
 have hG:=fun W h'=>rwf_any N A' n' c' W h' hm' hn'
 have hC:=Lib.hid (fun W h'=>rcols_any M A n c W h')
 rw[hwf] at hF;rw[hwg] at hG;replace hF:=Lib.hid hF;replace hG:=Lib.hid hG;replace h:=Lib.hid h;replace h':=Lib.hid h';clear hm hn hm' hn' hwf hwg;go_enter Tryz.func12,Tryz.ntmps12
 go_wp2_with fail
 refine (hF.out _ h.out).mono ?_
 rintro e w1 ⟨rfl,bb⟩;replace bb:=Lib.hid bb
 go_wp2_with fail
 refine (hG.out _ (h'.out.bel bb.out)).mono ?_
 rintro e w2 ⟨rfl,bb2⟩;replace bb2:=Lib.hid (bb.out.trans (bb2.mono bb.out.size));clear bb;have bb:=bb2;clear bb2;go_wp2
 go_ret2
 exact⟨rfl,bb.out⟩
theorem rmul_no3 (M:List Ro) (A:Option Addr) (n c:Nat) (N:List Ro) (A':Option Addr) (n' c':Nat) (w:World) (h:Mr w A n c M) (hm:∀ r∈M,r.n≤9223372036854775807) (hn:n≤9223372036854775807) (h':Mr w A' n' c' N) (hm':∀ r∈N,r.n≤9223372036854775807) (hn':n'≤9223372036854775807) (hwf:wfM M=true) (hwg:wfM N=true) (hc:¬ colM M=n'):Calls Tryz.prog 12 #[.slice A n c,.slice A' n' c'] w (RetE w):=by
 have hF:=fun W h'=>rwf_any M A n c W h' hm hn
 have hG:=fun W h'=>rwf_any N A' n' c' W h' hm' hn'
 have hC:=Lib.hid (fun W h'=>rcols_any M A n c W h')
 rw[hwf] at hF;rw[hwg] at hG;replace hF:=Lib.hid hF;replace hG:=Lib.hid hG;replace h:=Lib.hid h;replace h':=Lib.hid h';clear hm hn hm' hn' hwf hwg;go_enter Tryz.func12,Tryz.ntmps12
 go_wp2_with fail
 refine (hF.out _ h.out).mono ?_
 rintro e w1 ⟨rfl,bb⟩;replace bb:=Lib.hid bb
 go_wp2_with fail
 refine (hG.out _ (h'.out.bel bb.out)).mono ?_
 rintro e w2 ⟨rfl,bb2⟩;replace bb2:=Lib.hid (bb.out.trans (bb2.mono bb.out.size));clear bb;have bb:=bb2;clear bb2
 go_wp2_with fail
 refine (hC.out _ (h.out.bel bb.out)).mono ?_
 rintro e w3 ⟨rfl,bb3⟩;replace bb3:=Lib.hid (bb.out.trans (bb3.mono bb.out.size));clear bb;have bb:=bb3;clear bb3;go_wp2
 go_ret2
 exact⟨rfl,bb.out⟩
end Go.Proofs.YtfnkpfbobdmieaaGreat
namespace Go.Proofs.YtfnkpfbobdmieaaGreat
open Go.RowKit RQ
theorem can_k {x:Rt} {W:World} (h:x.can) (hr:x.raw W):Rk x.b x.n x.x x.m x.y x.q:=by
 obtain⟨b,A,n,c,l,D,m,d,y,q⟩:=x;obtain⟨e1,e2,e3,e4⟩:=h
 dsimp only at e1 e2 e3 e4
 subst e1;subst e2;subst e3;have:=RR.lens (p:=9000000) ⟨hr.1,hr.2⟩ e4;exact⟨rv_z q,this.1,this.2⟩
def prodQ (M N:List Ro):List (List Rat):=M.map fun r=>(tQ N).map fun l=>dq (r.L.map (·.q)) l (colM M)
theorem colQ_rs {N:List Ro} (h:ltM N) (j:Nat):∀ x∈colQ N j,Rs x 8:=fun x hx=>by
 obtain⟨r,hr,rfl⟩:=List.mem_map.1 hx;rw[List.getD_eq_getElem?_getD]
 have key:∀ o:Option Rat,(∀ q,o=some q→Rs q 8)→Rs (o.getD 0) 8:=fun o ho=>by
  cases o
  ·exact⟨by decide,by decide⟩
  ·exact ho _ rfl
 refine key _ fun q e=>?_
 obtain⟨z,hz,rfl⟩:=List.mem_map.1 (List.mem_of_getElem? e);exact (h r hr z hz).2
theorem qM_get {M:List Ro} {j:Nat} {r:Ro} (h:M[j]?=some r):(qM M)[j]?=some (r.L.map (·.q)):=by unfold qM;rw[List.getElem?_map,h];rfl
theorem tQ_get {N:List Ro} {j:Nat} (h:j<colM N):(tQ N)[j]?=some (colQ N j):=by
 unfold tQ;rw[List.getElem?_map,List.getElem?_range h];rfl
theorem tQ_len (N:List Ro):(tQ N).length=colM N:=by unfold tQ;rw[List.length_map,List.length_range]
theorem rmul_yes (M:List Ro) (A:Option Addr) (n c:Nat) (N:List Ro) (A':Option Addr) (n' c':Nat) (w:World) (h:Mr w A n c M) (hm:∀ r∈M,r.n≤9223372036854775807) (hn:n≤9223372036854775807) (h':Mr w A' n' c' N) (hm':∀ r∈N,r.n≤9223372036854775807) (hn':n'≤9223372036854775807) (lm:ltM M) (ln:ltM N) (hwf:wfM M=true) (hwg:wfM N=true) (hc:colM M=n'):Calls Tryz.prog 12 #[.slice A n c,.slice A' n' c'] w (RetME (prodQ M N) w):=by
 have hF:=fun W h'=>rwf_any M A n c W h' hm hn
 have hG:=fun W h'=>rwf_any N A' n' c' W h' hm' hn'
 have hC:=fun W h'=>rcols_any M A n c W h'
 rw[hwf] at hF;rw[hwg] at hG;rw[hc] at hC;have hT:=Lib.hid (fun W h1=>rtrans_yes N A' n' c' W h1 hm' hn' ln hwg)
 have hlen:=h.len;have hlen':=h'.len;have hb:=Lib.hid (show n≤96 by rw[←hlen];exact wf_len hwf)
 have hb':n'≤96:=by rw[←hlen'];exact wf_len hwg
 have hcb:Hid (colM N≤96):=Lib.hid (by
  rcases N with _ | ⟨r,N⟩
  ·exact Nat.zero_le _
  ·obtain⟨_,k2,k3⟩:=wf_row hwg (r:=r) List.mem_cons_self
   omega)
 have hD:Hid (∀ r∈M,∀ (t:Ro) (j:Nat) (W0 W:World),Sr W0 t.A t.n t.c t.L→(∀ x∈t.L,x.can)→t.L.map (·.q)=colQ N j→Sr W r.A r.n r.c r.L→Sr W t.A t.n t.c t.L→Calls Tryz.prog 46 #[.slice r.A r.n r.c,.slice t.A t.n t.c] W (RetR (dq (r.L.map (·.q)) (colQ N j) (colM M)) W)):=Lib.hid fun r hr t j W0 W h0 hcan hq h1 h2=>by
  obtain⟨_,k2,k3⟩:=wf_row hwf hr;have ht:t.n=r.n:=by rw[←h0.len,←List.length_map (f:=fun z:Rt=>z.q),hq];unfold colQ;rw[List.length_map,hlen',k3,hc]
  rw[ht] at h2 ⊢;rw[←k3,←hq];exact dotr_any r.L t.L 8 r.A r.n r.c t.A t.c W h1 h2 (fun x hx=>(lm r hr x hx).1) (fun x hx=>can_k (hcan x hx) (h0.rd x hx)) (fun x hx=>(lm r hr x hx).2) (fun x hx=>colQ_rs ln j _ (by rw[←hq];exact List.mem_map_of_mem (f:=fun z:Rt=>z.q) hx)) (by decide) (by omega) (by omega)
 have hR:Hid (∀ r∈M,∀ j,Rs (dq (r.L.map (·.q)) (colQ N j) (colM M)) 9000000):=Lib.hid fun r hr j=>by
  obtain⟨_,k2,k3⟩:=wf_row hwf hr;exact (dq_rs (p:=8) (fun x hx=>by obtain⟨z,hz,rfl⟩:=List.mem_map.1 hx;exact (lm r hr z hz).2) (colQ_rs ln j) (by decide) _).mono (by omega)
 have htl:=Lib.hid (tQ_len N);have htg:=Lib.hid (fun j hj=>tQ_get (N:=N) (j:=j) hj)
 replace hF:=Lib.hid hF;replace hG:=Lib.hid hG;replace hC:=Lib.hid hC;replace h:=Lib.hid h;replace h':=Lib.hid h';clear hm hn hm' hn' lm ln hwf hwg hb' hlen';unfold prodQ;generalize hfd:(fun r:Ro=>(tQ N).map fun l=>dq (r.L.map (·.q)) l (colM M))=f
 have hfl:Hid (∀ r,(f r).length=colM N):=Lib.hid fun r=>by rw[←hfd];rw[List.length_map,htl.out]
 have hfg:Hid (∀ r j,j<colM N→(f r)[j]?=some (dq (r.L.map (·.q)) (colQ N j) (colM M))):=Lib.hid fun r j hj=>by rw[←hfd,List.getElem?_map,htg.out j hj];rfl
 clear hfd;subst hc;replace hlen:=Lib.hid hlen;go_enter Tryz.func12,Tryz.ntmps12
 go_wp2_with fail
 refine (hF.out _ h.out).mono ?_
 rintro e w1 ⟨rfl,bb⟩;replace bb:=Lib.hid bb
 go_wp2_with fail
 refine (hG.out _ (h'.out.bel bb.out)).mono ?_
 rintro e w2 ⟨rfl,bb2⟩;replace bb2:=Lib.hid (bb.out.trans (bb2.mono bb.out.size));clear bb
 go_wp2_with fail
 refine (hC.out _ (h.out.bel bb2.out)).mono ?_
 rintro e w3 ⟨rfl,bb3⟩;replace bb3:=Lib.hid (bb2.out.trans (bb3.mono bb2.out.size));clear bb2
 go_wp2_with fail
 refine (hT.out _ (h'.out.bel bb3.out)).mono ?_
 rintro e w4 ⟨A3,n3,c3,T,rfl,hMT,hcanT,hqT,bb4⟩;replace bb4:=Lib.hid (bb3.out.trans (bb4.mono bb3.out.size));clear bb3 hF hG hC hT h';have h4:=Lib.hid (h.out.bel bb4.out);obtain rfl:n3=colM N:=by rw[←hMT.len,←htl.out,←hqT];unfold qM;rw[List.length_map]
 replace hMT:=Lib.hid hMT;replace hcanT:=Lib.hid hcanT;replace hqT:=Lib.hid hqT;clear h;obtain⟨k,hk⟩:∃ k,k=colM N:=⟨_,rfl⟩;rw[←hk] at hMT hcb hfl hfg ⊢;replace hk:=Lib.hid hk;go_wp2
 go_loopw [8,9] (fun ov iv wr=>∃ (i:Nat) (K:List Ro) (bs:List Bk) (rs:List Rdg),i≤n∧iv=.int .i64 i∧K.length=i∧Apd w4 wr bs rs 23 1 ov i (K.map Ro.v)∧(∀ r∈K,r.In bs rs)∧canM K∧qM K=(M.take i).map f) (fun _ iv _=>n-(intOf iv).toNat)
 case atStart=>exact⟨0,[],[],[],Nat.zero_le _,rfl,rfl,Apd.nil_ (St.new w4) _ _,fun x hx=>(by cases hx),fun x hx=>(by cases hx),rfl⟩
 case round=>
  obtain⟨i,K,bs,rs,hin,rfl,hK,AP,hIn,hcan,hq⟩:=hrel
  by_cases hlt:i<n
  ·obtain⟨b,o,r,rfl,hbk,hr,hrm,e0⟩:=h4.out.get' hlt
   have R1:=Lib.hid (h4.out.rd r hrm);have hqn:=Lib.hid (show (M.take i).map f++[f r]=(M.take (i+1)).map f by rw[List.take_add_one,hr];simp)
   have hDr:=Lib.hid (hD.out r hrm);have hRr:=Lib.hid (hR.out r hrm);have hih:=Lib.hid hlt;have g1:(i:Int)<(n:Int):=by omega
   have g2:(0:Int)≤(i:Int):=by omega
   obtain⟨ob,hob,S⟩:=AP.open_;replace hIn:=Lib.hid hIn;replace hcan:=Lib.hid hcan;replace hq:=Lib.hid hq;replace hK:=Lib.hid hK;replace hob:=Lib.hid hob;replace S:=Lib.hid S;have e0w:=Lib.hid e0;replace hbk:=Lib.hid hbk;clear hlt hin hr hrm AP e0;go_wp2
   go_loopw [10,11] (fun rv jv wr=>∃ (j:Nat) (L:List Rt) (rs':List Rdg),j≤k∧jv=.int .i64 j∧L.length=j∧Apd w4 wr (bs++ob) rs' 45 3 rv j (csE L)∧(∀ x∈L,x.can∧x.rdIn rs')∧L.map (·.q)=(f r).take j∧(∀ p∈rs,p∈rs')) (fun _ jv _=>k-(intOf jv).toNat)
   case atStart=>exact⟨0,[],rs,Nat.zero_le _,rfl,rfl,Apd.nil_ S.out _ _,fun x hx=>(by cases hx),rfl,fun _ h=>h⟩
   case round=>
    clear S;obtain⟨j,L,rs',hjk,rfl,hL,AP,hcn,hqL,hsub⟩:=hrel
    by_cases hlj:j<k
    ·obtain⟨b',o',t,rfl,hbk',ht,htm,e1⟩:=hMT.out.get' hlj
     have R2:=Lib.hid (hMT.out.rd t htm);have hqt:t.L.map (·.q)=colQ N j:=by
      have e:=qM_get ht;rw[hqT.out,tQ_get (by rw[←hk.out];exact hlj)] at e
      exact (Option.some.inj e).symm
     have hDt:=Lib.hid (fun W h1 h2=>hDr.out t j w4 W R2.out (hcanT.out t htm).2 hqt h1 h2)
     have hRt:=Lib.hid (hRr.out j);have hqj:=Lib.hid (show (f r).take j++[dq (r.L.map (·.q)) (colQ N j) (colM M)]=(f r).take (j+1) by rw[List.take_add_one,hfg.out r j hlj];rfl)
     obtain⟨q,hqx⟩:∃ q,q=dq (r.L.map (·.q)) (colQ N j) (colM M):=⟨_,rfl⟩;rw[←hqx] at hDt hRt hqj;have g3:(j:Int)<(k:Int):=by omega
     have g4:(0:Int)≤(j:Int):=by omega
     have hjh:=Lib.hid hlj;have e1w:=Lib.hid e1;replace hbk':=Lib.hid hbk';obtain⟨ob2,hob2,S⟩:=AP.open_;replace hob2:=Lib.hid hob2;replace S:=Lib.hid S;replace hcn:=Lib.hid hcn;replace hqL:=Lib.hid hqL;replace hsub:=Lib.hid hsub;replace hL:=Lib.hid hL;clear hlj hjk ht htm AP e1 hqt hqx;go_upto_region 12 with fail
     refine RW.begin (Z:=[]) (S:=(fun W=>W.cell? ⟨b,o+i,none⟩=some (.slice r.A r.n r.c)∧W.cell? ⟨b',o'+j,none⟩=some (.slice t.A t.n t.c))) (by kernel_rfl) ?_ S.out ?_
     ·exact⟨by kernel_rfl,zis_nil,by decide,by decide,nol_nil,(fun _ _ h=>⟨(World.cell?_of_block (h.bel.block b hbk.out)).trans e0w.out,(World.cell?_of_block (h.bel.block b' hbk'.out)).trans e1w.out⟩)⟩
     intro hzk;clear S;refine RW.t (i:=0) (v:=u10) (some 44) at0 (hy:=fun _ _=>by kernel_rfl) (h:=?_)
     refine RW.t (i:=1) (v:=.slice (some ⟨b,o,none⟩) n c) (some 45) at1 (hy:=fun _ _=>by kernel_rfl) (h:=?_)
     refine RW.t (i:=2) (v:=.int .i64 i) (some 46) at2 (hy:=fun _ _=>by kernel_rfl) (h:=?_)
     refine RW.t (i:=3) (v:=.pointer (some ⟨b,o+i,none⟩)) (some 47) at3 (hy:=fun _ _=>by go_simp) (h:=?_)
     refine RW.t (i:=4) (v:=.slice r.A r.n r.c) (some 48) at4 (hy:=fun W hS=>by (have k0:=hS.1;clear hS;go_simp)) (h:=?_)
     refine RW.t (i:=5) (v:=.slice (some ⟨b',o',none⟩) k c3) (some 49) at5 (hy:=fun _ _=>by kernel_rfl) (h:=?_)
     refine RW.t (i:=6) (v:=.int .i64 j) (some 50) at6 (hy:=fun _ _=>by kernel_rfl) (h:=?_)
     refine RW.t (i:=7) (v:=.pointer (some ⟨b',o'+j,none⟩)) (some 51) at7 (hy:=fun _ _=>by go_simp) (h:=?_)
     refine RW.t (i:=8) (v:=.slice t.A t.n t.c) (some 52) at8 (hy:=fun W hS=>by (have k0:=hS.2;clear hS;go_simp)) (h:=?_)
     refine RW.c (i:=9) (args:=#[.slice r.A r.n r.c,.slice t.A t.n t.c]) (some 53) hzk.out at9 (hx:=fun _=>by kernel_rfl) (h:=fun _ S=>(hDt.out _ (R1.out.bel S.bel) (R2.out.bel S.bel)).mono ?_)
     rintro e w21 ⟨A2,n2,c2,D2,m2,d2,rfl,Q2,bb⟩;refine⟨bb,_,[(D2,m2,d2,dn q),(A2,n2,c2,limbs q.num.natAbs)],rfl,(rd_cons Q2.d (rd_cons Q2.n rd_nil)),?_⟩
     clear bb S Q2;refine RW.blk (i:=10) (cs:=#[.bool (ng q.num),.slice A2 n2 c2,.slice D2 m2 d2]) (t:=45) (k:=1) (some 54) hzk.out at10 rfl (by kernel_rfl) (by kernel_rfl) (fun _=>by kernel_rfl) (noL3 _ _ _ _ _ _ _) ?_
     clear hzk;intro g_L10 hzk;refine RW.tail hzk.out (by kernel_rfl) ?_
     intro gs w22 hgs hS S;obtain rfl:=len0 hgs;clear hS hgs hzk;simp only[mark,fill,Act.put,sZ0,sZ1,sZ2];replace S:=Lib.hid S;refine Wk.o (i:=11) at11 (by kernel_rfl) fun K' hK=>?_
     have AP:Apd w4 _ ((g_L10,#[.bool (ng q.num),.slice A2 n2 c2,.slice D2 m2 d2],45)::(bs++ob)) ((D2,m2,d2,dn q)::(A2,n2,c2,limbs q.num.natAbs)::rs') 45 3 _ j (csE L):=Apd.close hob2.out S.out;have hcb1:=AP.st.cb 0 rfl;clear S;refine app_rat_op (.tmp 44) (.tmp 54) rfl rfl AP _ rfl hcb1 (by have:=hjh.out;have:=hcb.out;omega) ?_
     clear AP hcb1;intro v' W' AP;refine hK.out _ _ ⟨((World.cell?_of_block (AP.st.bel.block b hbk.out)).trans e0w.out),((World.cell?_of_block (AP.st.bel.block b' hbk'.out)).trans e1w.out)⟩ ?_
     clear hK K';replace AP:=Lib.hid AP
     try simp only[Act.put,sZ0,sZ1,sZ2]
     refine Wk.o (i:=12) at12 (by kernel_rfl) fun K' hK=>?_
     go_simp
     refine hK.out _ _ ⟨((World.cell?_of_block (AP.out.st.bel.block b hbk.out)).trans e0w.out),((World.cell?_of_block (AP.out.st.bel.block b' hbk'.out)).trans e1w.out)⟩ ?_
     clear hK K'
     try simp only[Act.put,sZ0,sZ1,sZ2]
     refine Wk.done (by kernel_rfl) ?_
     have hjl:=hjh.out;have hkb:=hcb.out;go_wp2
     go_roundw
     case rel=>exact⟨j+1,L++[Rt.of A2 n2 c2 D2 m2 d2 q],_,by omega,by go_num,by rw[List.length_append,hL.out];rfl,by rw[csE_app];exact AP.out.sub,fun x hx=>(by rcases List.mem_append.1 hx with hx | hx;exact⟨(hcn.out x hx).1,rd_cons_ (rd_cons_ (hcn.out x hx).2)⟩;obtain rfl:=List.mem_singleton.1 hx;exact⟨Rt.of_can _ _ _ _ _ _ hRt.out,List.mem_cons_of_mem _ List.mem_cons_self,List.mem_cons_self⟩),by rw[List.map_append,hqL.out];exact hqj.out,fun p hp=>List.mem_cons_of_mem _ (List.mem_cons_of_mem _ (hsub.out p hp))⟩
     case measure=>simp[intOf];omega
    ·obtain rfl:j=k:=by omega
     have hqf:L.map (·.q)=f r:=by rw[hqL,List.take_of_length_le (by rw[hfl.out];exact Nat.le_refl _)]
     subst hL;obtain⟨s,bs',rfl,h1,h2,h3,h5,S3⟩:=row_done AP (fun x hx=>(hcn x hx).2)
     have APo:=Apd.close hob.out S3;have APl:=APo.alloc #[.slice s.A s.n s.c] 23 (noL1 _ _ _);have hcb1:=APl.st.cb 0 rfl;have hcn':=Lib.hid (fun x hx=>(hcn x hx).1)
     replace hqf:=Lib.hid hqf;replace hsub:=Lib.hid hsub;have hh:=Lib.hid (And.intro h1 (And.intro h2 (And.intro h3 h5)));clear AP hcn hqL hjk h1 h2 h3 h5 S3 APo hob hlj;have hil:=hih.out;have hbb:=hb.out
     go_wp2_with (at_builtin;refine app_row rfl (.tmp 56) (.tmp 58) rfl rfl APl _ rfl hcb1 (by omega) ?_)
     clear APl hcb1;intro v' W' AP;replace AP:=Lib.hid AP;go_wp2
     go_roundw
     case rel=>exact⟨i+1,K++[s],bs',_,by omega,by go_num,by rw[List.length_append,hK.out];rfl,by rw[List.map_append];exact AP.out.sub,In_app hIn.out hh.out.2.2.1 hsub.out hh.out.2.2.2,canM_app hcan.out (by rw[hh.out.1];have:=hcb.out;omega) (by rw[hh.out.2.1];exact hcn'.out),by rw[qM_app,hq.out,hh.out.2.1,hqf.out];exact hqn.out⟩
     case measure=>simp[intOf];omega
  ·obtain rfl:i=n:=by omega
   have hfin:=Lib.hid (show qM K=M.map f by rw[hq,List.take_of_length_le (by rw[hlen.out];exact Nat.le_refl _)])
   subst hK;obtain⟨A5,c5,hv,M5⟩:=AP.mat hIn;subst hv;have hbl:=Lib.hid (bb4.out.trans (AP.st.bel.mono bb4.out.size));replace M5:=Lib.hid M5;replace hcan:=Lib.hid hcan;clear AP hIn hq hin;go_wp2
   go_ret2
   exact⟨_,_,_,K,rfl,M5.out,hcan.out,hfin.out,hbl.out⟩
end Go.Proofs.YtfnkpfbobdmieaaGreat
namespace Go.Proofs.YtfnkpfbobdmieaaGreat
open Go.RowKit RQ
theorem res_mcopy (W:World) (tmps:Array Value) (g t:Nat) {v0 v1 v2:Value} (ht:tmps.getD 2 undef=.pointer (some ⟨g,0,none⟩)) (h:Cb W g #[v0,v1,v2] t) :
  (results Tryz.f39 tmps).run Tryz.prog W=.ok (.agg #[v0,v1,v2]) W:=by
 have c0:W.cell? ⟨g,0,none⟩=some v0:=h.cell rfl;have c1:W.cell? ⟨g,1,none⟩=some v1:=h.cell rfl;have c2:W.cell? ⟨g,2,none⟩=some v2:=h.cell rfl;have ht':tmps[2]?.getD undef=.pointer (some ⟨g,0,none⟩):=by rw[←ht];simp[Array.getD_eq_getD_getElem?]
 simp[results,Tryz.results39,go_sem,ht',c0,c1,c2]
theorem mcopy_any (b1:Bool) (A1:Option Addr) (n1 c1:Nat) (x1:List Nat) (D1:Option Addr) (m1 d1:Nat) (y1:List Nat) (q1:Rat) (w:World) (X1:Rw w b1 A1 n1 c1 x1 D1 m1 d1 y1 q1):Calls Tryz.prog 39 #[.agg #[.bool b1,.slice A1 n1 c1,.slice D1 m1 d1]] w (RetR q1 w):=by
 have hA:Hid (∀ W,Rw W b1 A1 n1 c1 x1 D1 m1 d1 y1 q1→Calls Tryz.prog 66 #[.agg #[.bool b1,.slice A1 n1 c1,.slice D1 m1 d1],.agg #[.bool false,.slice none 0 0,.slice none 0 0]] W (RetR q1 W)):=Lib.hid fun W h=>by
  have:=addW b1 A1 n1 c1 x1 D1 m1 d1 y1 q1 false none 0 0 [] none 0 0 [] 0 W h (Rw.zero W)
  rwa [Rat.add_zero] at this
 have k1:=Lib.hid X1.k;have S:=(((((St.new w).read X1.rn).read X1.rd).allocAt (w.heap.size) #[.bool b1,.slice A1 n1 c1,.slice D1 m1 d1] 45 (noL3 _ _ _ _ _ _ _) (by simp)).allocAt (w.heap.size+1) #[.bool false,.slice none 0 0,.slice none 0 0] 45 (noL3 _ _ _ _ _ _ _) (by simp))
 replace S:=Lib.hid S;clear X1;go_enter Tryz.func39,Tryz.ntmps39
 go_wp2_with fail
 refine (hA.out _ (Rw.of (S.out.r 1 rfl) (S.out.r 0 rfl) k1.out)).mono ?_
 rintro e w1 ⟨A9,n9,c9,D9,m9,d9,rfl,Q9,bb⟩;have T:=(((S.out.call bb).read Q9.n).read Q9.d);clear bb S;have S:=T;clear T;obtain⟨c_r0,c_r1,c_r2,f_r0,f_r1,f_r2⟩:=S.cf3 0 rfl;obtain⟨c_x0,c_x1,c_x2,f_x0,f_x1,f_x2⟩:=S.cf3 1 rfl;have hz:w.heap.size+1<w1.heap.size:=S.lt 0 rfl;replace S:=Lib.hid S;clear Q9 hA;have S:St w _ [(w.heap.size+1,#[.bool (ng q1.num),.slice A9 n9 c9,.slice D9 m9 d9],45),(w.heap.size,#[.bool b1,.slice A1 n1 c1,.slice D1 m1 d1],45)] [(D9,m9,d9,dn q1),(A9,n9,c9,limbs q1.num.natAbs),(D1,m1,d1,y1),(A1,n1,c1,x1)]:=(((S.out.set 0 0 (.bool (ng q1.num)) rfl (by nofun)).set 0 1 (.slice A9 n9 c9) rfl (by nofun)).set 0 2 (.slice D9 m9 d9) rfl (by nofun))
 replace S:=Lib.hid S;go_wp2;refine bodyPost_ret (res_mcopy _ _ (w.heap.size+1) 45 rfl (S.out.bk _ (List.mem_of_getElem? (i:=0) rfl)).1) rfl ?_
 exact⟨_,_,_,_,_,_,rfl,⟨S.out.r 1 rfl,S.out.r 0 rfl⟩,S.out.bel⟩
theorem res_mquot (W:World) (tmps:Array Value) (g t:Nat) {v0 v1 v2:Value} (ht:tmps.getD 4 undef=.pointer (some ⟨g,0,none⟩)) (h:Cb W g #[v0,v1,v2] t) :
  (results Tryz.f52 tmps).run Tryz.prog W=.ok (.agg #[v0,v1,v2]) W:=by
 have c0:W.cell? ⟨g,0,none⟩=some v0:=h.cell rfl;have c1:W.cell? ⟨g,1,none⟩=some v1:=h.cell rfl;have c2:W.cell? ⟨g,2,none⟩=some v2:=h.cell rfl;have ht':tmps[4]?.getD undef=.pointer (some ⟨g,0,none⟩):=by rw[←ht];simp[Array.getD_eq_getD_getElem?]
 simp[results,Tryz.results52,go_sem,ht',c0,c1,c2]
theorem quot_any (b1:Bool) (A1:Option Addr) (n1 c1:Nat) (x1:List Nat) (D1:Option Addr) (m1 d1:Nat) (y1:List Nat) (q1:Rat) (b2:Bool) (A2:Option Addr) (n2 c2:Nat) (x2:List Nat) (D2:Option Addr) (m2 d2:Nat) (y2:List Nat) (q2:Rat) (w:World) (X1:Rw w b1 A1 n1 c1 x1 D1 m1 d1 y1 q1) (X2:Rw w b2 A2 n2 c2 x2 D2 m2 d2 y2 q2):Calls Tryz.prog 52 #[.agg #[.bool b1,.slice A1 n1 c1,.slice D1 m1 d1],.agg #[.bool b2,.slice A2 n2 c2,.slice D2 m2 d2]] w (RetR (q1 / q2) w):=by
 have hD:=Lib.hid (fun W h1 h2=>divW b1 A1 n1 c1 x1 D1 m1 d1 y1 q1 b2 A2 n2 c2 x2 D2 m2 d2 y2 q2 W h1 h2)
 generalize q1 / q2=q at *;generalize dvE q2=er at *;have k1:=Lib.hid X1.k;have k2:=Lib.hid X2.k;have S:=((((((((St.new w).read X1.rn).read X1.rd).read X2.rn).read X2.rd).allocAt (w.heap.size) #[.bool b1,.slice A1 n1 c1,.slice D1 m1 d1] 45 (noL3 _ _ _ _ _ _ _) (by simp)).allocAt (w.heap.size+1) #[.bool b2,.slice A2 n2 c2,.slice D2 m2 d2] 45 (noL3 _ _ _ _ _ _ _) (by simp)).allocAt (w.heap.size+1+1) #[.bool false,.slice none 0 0,.slice none 0 0] 45 (noL3 _ _ _ _ _ _ _) (by simp))
 replace S:=Lib.hid S;clear X1 X2;go_enter Tryz.func52,Tryz.ntmps52
 go_wp2_with fail
 refine (hD.out _ (Rw.of (S.out.r 3 rfl) (S.out.r 2 rfl) k1.out) (Rw.of (S.out.r 1 rfl) (S.out.r 0 rfl) k2.out)).mono ?_
 rintro e w1 ⟨A9,n9,c9,D9,m9,d9,rfl,Q9,bb⟩;have T:=(((S.out.call bb).read Q9.n).read Q9.d);clear bb S;have S:=T;clear T;obtain⟨c_r0,c_r1,c_r2,f_r0,f_r1,f_r2⟩:=S.cf3 0 rfl;obtain⟨c_y0,c_y1,c_y2,f_y0,f_y1,f_y2⟩:=S.cf3 1 rfl;obtain⟨c_x0,c_x1,c_x2,f_x0,f_x1,f_x2⟩:=S.cf3 2 rfl;have hz:w.heap.size+1+1<w1.heap.size:=S.lt 0 rfl;replace S:=Lib.hid S;clear Q9 hD;have S:St w _ [(w1.heap.size,#[.bool (ng q.num),.slice A9 n9 c9,.slice D9 m9 d9],45),(w.heap.size+1+1,#[.bool (ng q.num),.slice A9 n9 c9,.slice D9 m9 d9],45),(w.heap.size+1,#[.bool b2,.slice A2 n2 c2,.slice D2 m2 d2],45),(w.heap.size,#[.bool b1,.slice A1 n1 c1,.slice D1 m1 d1],45)] [(D9,m9,d9,dn q),(A9,n9,c9,limbs q.num.natAbs),(D2,m2,d2,y2),(A2,n2,c2,x2),(D1,m1,d1,y1),(A1,n1,c1,x1)]:=((((S.out.set 0 0 (.bool (ng q.num)) rfl (by nofun)).set 0 1 (.slice A9 n9 c9) rfl (by nofun)).set 0 2 (.slice D9 m9 d9) rfl (by nofun)).allocAt (w1.heap.size) #[.bool (ng q.num),.slice A9 n9 c9,.slice D9 m9 d9] 45 (noL3 _ _ _ _ _ _ _) (by simp))
 replace S:=Lib.hid S;go_wp2;refine bodyPost_ret (res_mquot _ _ (w.heap.size+1+1) 45 rfl (S.out.bk _ (List.mem_of_getElem? (i:=1) rfl)).1) rfl ?_
 exact⟨_,_,_,_,_,_,rfl,⟨S.out.r 1 rfl,S.out.r 0 rfl⟩,S.out.bel⟩
theorem res_mden (W:World) (tmps:Array Value) (g t:Nat) {v0 v1 v2:Value} (ht:tmps.getD 2 undef=.pointer (some ⟨g,0,none⟩)) (h:Cb W g #[v0,v1,v2] t) :
  (results Tryz.f70 tmps).run Tryz.prog W=.ok (.agg #[v0,v1,v2]) W:=by
 have c0:W.cell? ⟨g,0,none⟩=some v0:=h.cell rfl;have c1:W.cell? ⟨g,1,none⟩=some v1:=h.cell rfl;have c2:W.cell? ⟨g,2,none⟩=some v2:=h.cell rfl;have ht':tmps[2]?.getD undef=.pointer (some ⟨g,0,none⟩):=by rw[←ht];simp[Array.getD_eq_getD_getElem?]
 simp[results,Tryz.results70,go_sem,ht',c0,c1,c2]
theorem nat_abs (n:Nat):((n:Int):Rat).num.natAbs=n:=rfl
theorem nat_dn (n:Nat):dn ((n:Int):Rat)=[]:=rfl
theorem nat_ng' (n:Nat):ng ((n:Int):Rat).num=false:=by show decide ((n:Int)<0)=false;exact decide_eq_false (by omega)
theorem mden_one (q:Rat) (A1:Option Addr) (n1 c1:Nat) (D1:Option Addr) (m1 d1:Nat) (w:World) (X:RR w A1 n1 c1 D1 m1 d1 q) (h0:m1=0):Calls Tryz.prog 70 #[.agg #[.bool (ng q.num),.slice A1 n1 c1,.slice D1 m1 d1]] w (RetR ((q.den:Int):Rat) w):=by
 have hd:=dn_len0 X.d.len;have S:=(((((St.new w).read X.n).read X.d).allocAt (w.heap.size) #[.bool (ng q.num),.slice A1 n1 c1,.slice D1 m1 d1] 45 (noL3 _ _ _ _ _ _ _) (by simp)).allocAt (w.heap.size+1) #[.bool false,.slice none 0 0,.slice none 0 0] 45 (noL3 _ _ _ _ _ _ _) (by simp))
 replace S:=Lib.hid S;clear X;have hF:=Lib.hid (fun W=>fromIntR_any 1 W (by decide) (by decide))
 rw[hd.1 h0];obtain⟨z,hz1⟩:∃ z:Rat,z=((1:Int):Rat):=⟨_,rfl⟩;rw[←hz1] at hF ⊢;clear hd hz1;have g1:((m1:Int)==0)=true:=by simp[h0]
 clear h0;go_enter Tryz.func70,Tryz.ntmps70
 go_wp2_with fail
 refine (hF.out _).mono ?_
 rintro e w1 ⟨A9,n9,c9,D9,m9,d9,rfl,Q9,bb⟩;have T:=(((S.out.call bb).read Q9.n).read Q9.d);clear bb S;have S:=T;clear T;obtain⟨c_r0,c_r1,c_r2,f_r0,f_r1,f_r2⟩:=S.cf3 0 rfl;obtain⟨c_x0,c_x1,c_x2,f_x0,f_x1,f_x2⟩:=S.cf3 1 rfl;have hz:w.heap.size+1<w1.heap.size:=S.lt 0 rfl;replace S:=Lib.hid S;clear Q9 hF;have S:St w _ [(w.heap.size+1,#[.bool (ng z.num),.slice A9 n9 c9,.slice D9 m9 d9],45),(w.heap.size,#[.bool (ng q.num),.slice A1 n1 c1,.slice D1 m1 d1],45)] [(D9,m9,d9,dn z),(A9,n9,c9,limbs z.num.natAbs),(D1,m1,d1,dn q),(A1,n1,c1,limbs q.num.natAbs)]:=(((S.out.set 0 0 (.bool (ng z.num)) rfl (by nofun)).set 0 1 (.slice A9 n9 c9) rfl (by nofun)).set 0 2 (.slice D9 m9 d9) rfl (by nofun))
 replace S:=Lib.hid S;go_wp2;refine bodyPost_ret (res_mden _ _ (w.heap.size+1) 45 rfl (S.out.bk _ (List.mem_of_getElem? (i:=0) rfl)).1) rfl ?_
 exact⟨_,_,_,_,_,_,rfl,⟨S.out.r 1 rfl,S.out.r 0 rfl⟩,S.out.bel⟩
theorem mden_more (q:Rat) (A1:Option Addr) (n1 c1:Nat) (D1:Option Addr) (m1 d1:Nat) (w:World) (X:RR w A1 n1 c1 D1 m1 d1 q) (h0:¬ m1=0):Calls Tryz.prog 70 #[.agg #[.bool (ng q.num),.slice A1 n1 c1,.slice D1 m1 d1]] w (RetR ((q.den:Int):Rat) w):=by
 have hd:=dn_len0 X.d.len;have S:=(((((St.new w).read X.n).read X.d).allocAt (w.heap.size) #[.bool (ng q.num),.slice A1 n1 c1,.slice D1 m1 d1] 45 (noL3 _ _ _ _ _ _ _) (by simp)).allocAt (w.heap.size+1) #[.bool false,.slice D1 m1 d1,.slice none 0 0] 45 (noL3 _ _ _ _ _ _ _) (by simp))
 replace S:=Lib.hid S;clear X;have hl:=Lib.hid (hd.2 h0);clear hd;have g1:((m1:Int)==0)=false:=by simp[h0]
 clear h0;go_enter Tryz.func70,Tryz.ntmps70;have S:=S.out;replace S:=Lib.hid S;go_wp2;refine bodyPost_ret (res_mden _ _ (w.heap.size+1) 45 rfl (S.out.bk _ (List.mem_of_getElem? (i:=0) rfl)).1) rfl ?_
 refine⟨D1,m1,d1,none,0,0,by rw[nat_ng'],⟨?_,?_⟩,S.out.bel⟩
 ·rw[nat_abs,←hl.out];exact S.out.r 0 rfl
 ·rw[nat_dn];exact Rd.nil_ _ _ _
end Go.Proofs.YtfnkpfbobdmieaaGreat
