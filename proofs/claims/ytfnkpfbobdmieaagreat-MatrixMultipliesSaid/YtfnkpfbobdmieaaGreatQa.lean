/- For every two matrices and every list, Valid, Transpose, Mul and Apply return what the specification says, and MatrixMultiplies answers true. No condition. -/
import Derived.WalkKit
import Derived.ProofKit
import Derived.OpenShut
import Derived.ShutString
import Derived.ChangeOld
import Derived.Below
import Derived.Test.YtfnkpfbobdmieaaGreatRows
import Derived.Test.YtfnkpfbobdmieaaGreatM30
import Derived.Test.YtfnkpfbobdmieaaGreatB15
namespace Go.Proofs.YtfnkpfbobdmieaaGreat.matrixMultiplies
open Go.ChangeShapes Go.WideShapes Go.ChangeAt Go.RowKit
open Go.ChangeMaps (open_string shut_string)
set_option linter.unusedVariables false
set_option maxRecDepth 100000 in
theorem lifted (os:Os) (started:os.Started) (H:Type) (enc:TypeId×Value→H) :
  ReturnsInHanded {} Tryz.checked os 3 .any (Rows.matrixMultipliesSpec.pre6 enc Tryz.prog Tryz.f3 Rows.matrixMultipliesRow.domain false) (Rows.matrixMultipliesSpec.post enc Tryz.prog Tryz.f3 false true false false):=by
 refine returnsInHanded_of_change (C:=Tryz.checked) own started (by kernel_rfl) Tryz.func3
  (ChangeSpec.witness6 (enc:=enc) (C:=Tryz.checked) false ⟨#[],#[.slice none 0 0,.slice none 0 0,.slice none 0 0],[]⟩ 8 (by kernel_rfl) (by kernel_rfl) (by kernel_rfl) (by kernel_rfl)) ?_
 intro W base args ds gs before hval0 hW hcnd _
 have hval:∀ (j:Nat) t v,Tryz.f3.params[j]?=some t→args[j]?=some v→Value.okWide Tryz.prog W .any base t v:=hval0
 have hW':=hW
 obtain⟨p,q,hA0,hV,rfl,hfz,hnd⟩:=hW
 have hA:DataW.TrodAll enc Tryz.prog W 0 (fun _=>true) true Tryz.f3.params.toList args.toList ds p:=hA0
 rw[Tryz.params3] at hA hval
 obtain⟨v0,vs0,d0,ds0,p0,q0,hargs,rfl,rfl,h0,r0⟩:=trodAll_cons hA
 obtain⟨v1,vs1,d1,ds1,p1,q1,rfl,rfl,rfl,h1,r1⟩:=trodAll_cons r0
 obtain⟨v2,vs2,d2,ds2,p2,q2,rfl,rfl,rfl,h2,r2⟩:=trodAll_cons r1
 obtain⟨rfl,rfl,rfl⟩:=trodAll_nil r2
 obtain rfl:args=#[v0,v1,v2]:=by cases args;simp_all
 obtain⟨rfl,rfl⟩:=trodVars_none hV
 have k0:=h0
 have lt0:∀ x∈p0,x.block<W.heap.size:=by obtain⟨m,hm⟩:=k0;exact DataW.trod_lt m _ _ _ hm
 obtain⟨A0,l0,c0,rfl⟩:=okWide_slice Tryz.underlying22 (hval 0 22 v0 rfl rfl)
 obtain⟨fu0,hf0⟩:=k0
 obtain⟨A'0,l'0,c'0,M0,e0,R0,B0,N0⟩:=open_mat (show DataW.trod enc Tryz.prog W 0 (fun _=>true) true fu0 22 [.slice A0 l0 c0]=some _ by simpa [Value.cells] using hf0)
 obtain⟨rfl,rfl,rfl⟩:A0=A'0∧l0=l'0∧c0=c'0:=by injection e0 with e1 e2 e3;exact⟨e1,e2,e3⟩
 have k0:=h0
 have k1:=h1
 have lt1:∀ x∈p1,x.block<W.heap.size:=by obtain⟨m,hm⟩:=k1;exact DataW.trod_lt m _ _ _ hm
 obtain⟨A1,l1,c1,rfl⟩:=okWide_slice Tryz.underlying22 (hval 1 22 v1 rfl rfl)
 obtain⟨fu1,hf1⟩:=k1
 obtain⟨A'1,l'1,c'1,M1,e1,R1,B1,N1⟩:=open_mat (show DataW.trod enc Tryz.prog W 0 (fun _=>true) true fu1 22 [.slice A1 l1 c1]=some _ by simpa [Value.cells] using hf1)
 obtain⟨rfl,rfl,rfl⟩:A1=A'1∧l1=l'1∧c1=c'1:=by injection e1 with e1 e2 e3;exact⟨e1,e2,e3⟩
 have k1:=h1
 have k2:=h2
 have lt2:∀ x∈p2,x.block<W.heap.size:=by obtain⟨m,hm⟩:=k2;exact DataW.trod_lt m _ _ _ hm
 obtain⟨A2,l2,c2,rfl⟩:=okWide_slice Tryz.underlying23 (hval 2 23 v2 rfl rfl)
 obtain⟨fu2,hf2⟩:=k2
 obtain⟨A'2,l'2,c'2,L2,e2,R2,I2,Q2,N2⟩:=open_rats (show DataW.trod enc Tryz.prog W 0 (fun _=>true) true fu2 23 [.slice A2 l2 c2]=some _ by simpa [Value.cells] using hf2)
 obtain⟨rfl,rfl,rfl⟩:A2=A'2∧l2=l'2∧c2=c'2:=by injection e2 with e1 e2 e3;exact⟨e1,e2,e3⟩
 have k2:=h2
 clear hA0 hval0
 refine (law_mm awake_any M0 A0 l0 c0 M1 A1 l1 c1 L2 A2 l2 c2 W R0 B0 N0 R1 B1 N1 R2 I2 Q2 N2).mono fun e W' ⟨he,bel⟩=>?_
 subst he
 exact⟨_,rfl,_,_,_,[],_,[],hW',trodAll_mk1 (shut_bool Tryz.underlying4 _),(trodAll_cons_mk (Below.trod laidOut (by kernel_rfl) (of_decide_eq_true (by kernel_rfl)) k0 bel lt0) (trodAll_cons_mk (Below.trod laidOut (by kernel_rfl) (of_decide_eq_true (by kernel_rfl)) k1 bel lt1) (trodAll_cons_mk (Below.trod laidOut (by kernel_rfl) (of_decide_eq_true (by kernel_rfl)) k2 bel lt2) trodAll_mk0))),rfl,bel.frame _,fun h=>by cases h⟩
set_option maxHeartbeats 40000000 in
theorem jf:joinedFacts Tryz.pinned.checked.prog 3 Tryz.f3 Rows.matrixMultipliesSpec Rows.matrixMultipliesRow=true:=by
 simp only[joinedFacts,Bool.and_eq_true]
 repeat' apply And.intro
 all_goals (as_aux_lemma=>kernel_rfl)
theorem over:Rows.matrixMultipliesRow.holds Tryz.pinned (OpenSpec.ofChange Rows.matrixMultipliesSpec):=
 OpenClaim.holds_of_wide 3 Tryz.f3 rfl rfl rfl rfl rfl rfl rfl ⟨rfl,rfl,rfl,rfl,rfl⟩ rfl rfl rfl rfl rfl (by kernel_rfl) Tryz.func3 jf
  (of_decide_eq_true (by kernel_rfl)) (by unfold Func.isWrapper;first | (rw[if_pos (by decide +kernel)];kernel_rfl) | (rw[if_neg (by decide +kernel)];exact⟨rfl,rfl⟩))
  (fun os started H enc _=>lifted os started H enc)
theorem proved:Rows.MatrixMultipliesSaid:=over
#print axioms proved
end Go.Proofs.YtfnkpfbobdmieaaGreat.matrixMultiplies
