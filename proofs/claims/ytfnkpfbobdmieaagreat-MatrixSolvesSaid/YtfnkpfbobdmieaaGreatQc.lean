/- For every matrix and list, Solve and Null return what the specification says, and MatrixSolves answers true. No condition. -/
import Derived.WalkKit
import Derived.ProofKit
import Derived.OpenShut
import Derived.ShutString
import Derived.ChangeOld
import Derived.Below
import Derived.Test.YtfnkpfbobdmieaaGreatRows
import Derived.Test.YtfnkpfbobdmieaaGreatM31
import Derived.Test.YtfnkpfbobdmieaaGreatB15
import Derived.Test.YtfnkpfbobdmieaaGreatM29
namespace Go.Proofs.YtfnkpfbobdmieaaGreat.matrixSolves
open Go.ChangeShapes Go.WideShapes Go.ChangeAt Go.RowKit
open Go.ChangeMaps (open_string shut_string)
set_option linter.unusedVariables false
set_option maxRecDepth 100000 in
theorem lifted (os:Os) (started:os.Started) (H:Type) (enc:TypeId×Value→H) :
  ReturnsInHanded {} Tryz.checked os 5 .any (Rows.matrixSolvesSpec.pre6 enc Tryz.prog Tryz.f5 Rows.matrixSolvesRow.domain false) (Rows.matrixSolvesSpec.post enc Tryz.prog Tryz.f5 false true false false):=by
 refine returnsInHanded_of_change (C:=Tryz.checked) own started (by kernel_rfl) Tryz.func5
  (ChangeSpec.witness6 (enc:=enc) (C:=Tryz.checked) false ⟨#[],#[.slice none 0 0,.slice none 0 0],[]⟩ 8 (by kernel_rfl) (by kernel_rfl) (by kernel_rfl) (by kernel_rfl)) ?_
 intro W base args ds gs before hval0 hW hcnd _
 have hval:∀ (j:Nat) t v,Tryz.f5.params[j]?=some t→args[j]?=some v→Value.okWide Tryz.prog W .any base t v:=hval0
 have hW':=hW
 obtain⟨p,q,hA0,hV,rfl,hfz,hnd⟩:=hW
 have hA:DataW.TrodAll enc Tryz.prog W 0 (fun _=>true) true Tryz.f5.params.toList args.toList ds p:=hA0
 rw[Tryz.params5] at hA hval
 obtain⟨v0,vs0,d0,ds0,p0,q0,hargs,rfl,rfl,h0,r0⟩:=trodAll_cons hA
 obtain⟨v1,vs1,d1,ds1,p1,q1,rfl,rfl,rfl,h1,r1⟩:=trodAll_cons r0
 obtain⟨rfl,rfl,rfl⟩:=trodAll_nil r1
 obtain rfl:args=#[v0,v1]:=by cases args;simp_all
 obtain⟨rfl,rfl⟩:=trodVars_none hV
 have k0:=h0
 have lt0:∀ x∈p0,x.block<W.heap.size:=by obtain⟨m,hm⟩:=k0;exact DataW.trod_lt m _ _ _ hm
 obtain⟨A0,l0,c0,rfl⟩:=okWide_slice Tryz.underlying22 (hval 0 22 v0 rfl rfl)
 obtain⟨fu0,hf0⟩:=k0
 obtain⟨A'0,l'0,c'0,M0,e0,R0,B0,N0⟩:=open_mat (show DataW.trod enc Tryz.prog W 0 (fun _=>true) true fu0 22 [.slice A0 l0 c0]=some _ by simpa [Value.cells] using hf0)
 obtain⟨rfl,rfl,rfl⟩:A0=A'0∧l0=l'0∧c0=c'0:=by injection e0 with e1 e2 e3;exact⟨e1,e2,e3⟩
 have k0:=h0
 have k1:=h1
 have lt1:∀ x∈p1,x.block<W.heap.size:=by obtain⟨m,hm⟩:=k1;exact DataW.trod_lt m _ _ _ hm
 obtain⟨A1,l1,c1,rfl⟩:=okWide_slice Tryz.underlying23 (hval 1 23 v1 rfl rfl)
 obtain⟨fu1,hf1⟩:=k1
 obtain⟨A'1,l'1,c'1,L1,e1,R1,I1,Q1,N1⟩:=open_rats (show DataW.trod enc Tryz.prog W 0 (fun _=>true) true fu1 23 [.slice A1 l1 c1]=some _ by simpa [Value.cells] using hf1)
 obtain⟨rfl,rfl,rfl⟩:A1=A'1∧l1=l'1∧c1=c'1:=by injection e1 with e1 e2 e3;exact⟨e1,e2,e3⟩
 have k1:=h1
 clear hA0 hval0
 refine (law_ms M0 A0 l0 c0 W R0 B0 N0 L1 A1 l1 c1 R1 I1 Q1 N1).mono fun e W' ⟨he,bel⟩=>?_
 subst he
 exact⟨_,rfl,_,_,_,[],_,[],hW',trodAll_mk1 (shut_bool Tryz.underlying4 _),(trodAll_cons_mk (Below.trod laidOut (by kernel_rfl) (of_decide_eq_true (by kernel_rfl)) k0 bel lt0) (trodAll_cons_mk (Below.trod laidOut (by kernel_rfl) (of_decide_eq_true (by kernel_rfl)) k1 bel lt1) trodAll_mk0)),rfl,bel.frame _,fun h=>by cases h⟩
set_option maxHeartbeats 40000000 in
theorem jf:joinedFacts Tryz.pinned.checked.prog 5 Tryz.f5 Rows.matrixSolvesSpec Rows.matrixSolvesRow=true:=by
 simp only[joinedFacts,Bool.and_eq_true]
 repeat' apply And.intro
 all_goals (as_aux_lemma=>kernel_rfl)
theorem over:Rows.matrixSolvesRow.holds Tryz.pinned (OpenSpec.ofChange Rows.matrixSolvesSpec):=
 OpenClaim.holds_of_wide 5 Tryz.f5 rfl rfl rfl rfl rfl rfl rfl ⟨rfl,rfl,rfl,rfl,rfl⟩ rfl rfl rfl rfl rfl (by kernel_rfl) Tryz.func5 jf
  (of_decide_eq_true (by kernel_rfl)) (by unfold Func.isWrapper;first | (rw[if_pos (by decide +kernel)];kernel_rfl) | (rw[if_neg (by decide +kernel)];exact⟨rfl,rfl⟩))
  (fun os started H enc _=>lifted os started H enc)
theorem proved:Rows.MatrixSolvesSaid:=over
#print axioms proved
end Go.Proofs.YtfnkpfbobdmieaaGreat.matrixSolves
