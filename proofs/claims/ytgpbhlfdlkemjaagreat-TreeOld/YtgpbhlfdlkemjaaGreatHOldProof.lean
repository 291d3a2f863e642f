import Derived.ProofKit
import Derived.OpenShut
import Derived.ShutString
import Derived.ChangeOld
import Derived.SizedLaws
import Derived.Test.YtgpbhlfdlkemjaaGreatH55
/-
 The law TreeOld: whatever two lists and step of cuts come in, TreeOld returns true, and the lists read afterwards as before. No condition beyond the row's own.
-/
namespace Go.Proofs.YtgpbhlfdlkemjaaGreat.treeOld
open Go.ChangeShapes Go.WideShapes Go.ChangeAt Go.RowKit
open Go.ChangeMaps (open_string shut_string)
set_option linter.unusedVariables false
theorem own:ownKnob Tryz.prog.godebug=none:=by kernel_rfl
theorem laidOut:laidOutB Tryz.prog=true:=by kernel_rfl
set_option maxRecDepth 100000 in
theorem lifted (os:Os) (started:os.Started) (H:Type) (enc:TypeId × Value→H) :
  ReturnsInHanded {} Tryz.checked os 5 .any (Rows.treeOldSpec.pre6 enc Tryz.prog Tryz.f5 Rows.treeOldRow.domain false) (Rows.treeOldSpec.post enc Tryz.prog Tryz.f5 false true false false):=by
 refine returnsInHanded_of_change_sized (C:=Tryz.checked) own started (by kernel_rfl) Tryz.func5
  (ChangeSpec.witness6 (enc:=enc) (C:=Tryz.checked) false ⟨#[],#[.slice none 0 0,.slice none 0 0,.int .u8 0],[]⟩ 8 (by kernel_rfl) (by kernel_rfl) (by kernel_rfl) (by kernel_rfl)) ?_
 intro W base args ds gs before hval0 hW hcnd hsz0 _
 have hval:∀(j:Nat) t v,Tryz.f5.params[j]?=some t→args[j]?=some v→Value.okWide Tryz.prog W .any base t v:=hval0
 have hsz:(DataW.weightsEach Tryz.prog (Tryz.f5.params.toList++Rows.treeOldSpec.plain.varTypes Tryz.prog) (ds++gs)).all (·≤reachBytes)=true:=hsz0
 have hW':=hW
 obtain ⟨p,q,hA0,hV,rfl,hfz,hnd⟩:=hW
 have hA:DataW.TrodAll enc Tryz.prog W 0 (fun _=>true) true Tryz.f5.params.toList args.toList ds p:=hA0
 rw [Tryz.params5] at hA hval hsz
 obtain ⟨v0,vs0,d0,ds0,p0,q0,hargs,rfl,rfl,h0,r0⟩:=trodAll_cons hA
 obtain ⟨v1,vs1,d1,ds1,p1,q1,rfl,rfl,rfl,h1,r1⟩:=trodAll_cons r0
 obtain ⟨v2,vs2,d2,ds2,p2,q2,rfl,rfl,rfl,h2,r2⟩:=trodAll_cons r1
 obtain ⟨rfl,rfl,rfl⟩:=trodAll_nil r2
 obtain rfl:args=#[v0,v1,v2]:=by cases args;simp_all
 obtain ⟨rfl,rfl⟩:=trodVars_none hV
 obtain ⟨a2,rfl,rfl,rfl,w2⟩:=open_int Tryz.underlying5 (hval 2 5 v2 rfl rfl) h2
 have b2:=bounds_u8 w2
 obtain ⟨n2,rfl⟩:=Int.eq_ofNat_of_zero_le b2.1
 obtain ⟨a0,len0,cap0,rfl⟩:=okWide_slice Tryz.underlying40 (hval 0 40 v0 rfl rfl)
 obtain ⟨a1,len1,cap1,rfl⟩:=okWide_slice Tryz.underlying40 (hval 1 40 v1 rfl rfl)
 have k0:=h0
 have lt0:∀x∈p0,x.block<W.heap.size:=by obtain ⟨m,hm⟩:=k0;exact DataW.trod_lt m _ _ _ hm
 have k1:=h1
 have lt1:∀x∈p1,x.block<W.heap.size:=by obtain ⟨m,hm⟩:=k1;exact DataW.trod_lt m _ _ _ hm
 obtain ⟨l0,R0,V0,I0⟩:∃l,RowQ W (.slice a0 len0 cap0) l∧ValsQ W l∧InQ l:=by
  obtain ⟨fuel,hf⟩:=h0
  obtain ⟨v,l,hcs,hh⟩:=open_chs hf (fun n hn=>by have:=List.all_eq_true.1 hsz n (DataW.weights_mem_each (j:=0) (t:=40) rfl rfl n hn);simpa using this)
  simp [Value.cells] at hcs
  subst hcs
  exact ⟨l,hh⟩
 obtain ⟨l1,R1,V1,I1⟩:∃l,RowQ W (.slice a1 len1 cap1) l∧ValsQ W l∧InQ l:=by
  obtain ⟨fuel,hf⟩:=h1
  obtain ⟨v,l,hcs,hh⟩:=open_chs hf (fun n hn=>by have:=List.all_eq_true.1 hsz n (DataW.weights_mem_each (j:=1) (t:=40) rfl rfl n hn);simpa using this)
  simp [Value.cells] at hcs
  subst hcs
  exact ⟨l,hh⟩
 clear hA0 hval0
 obtain rfl:len0=l0.length:=by
  obtain ⟨_,_,e,_⟩:=R0.form
  injection e
 obtain rfl:len1=l1.length:=by
  obtain ⟨_,_,e,_⟩:=R1.form
  injection e
 refine (old_all W (n2:=n2) (by omega) R0 V0 I0 R1 V1 I1).mono fun e W' ⟨he,hk⟩=>?_
 have bel:=hk.below
 subst he
 exact ⟨_,rfl,_,_,_,[],_,[],hW',trodAll_mk1 (shut_bool Tryz.underlying4 _),(trodAll_cons_mk (Below.trod laidOut (by kernel_rfl) (of_decide_eq_true (by kernel_rfl)) k0 bel lt0) (trodAll_cons_mk (Below.trod laidOut (by kernel_rfl) (of_decide_eq_true (by kernel_rfl)) k1 bel lt1) (trodAll_cons_mk (shut_int Tryz.underlying5 w2) trodAll_mk0))),rfl,bel.frame _,fun h=>by cases h⟩
theorem over:Rows.treeOldRow.holds Tryz.pinned (OpenSpec.ofChange Rows.treeOldSpec) :=
 OpenClaim.holds_of_wide 5 Tryz.f5 rfl rfl rfl rfl rfl rfl rfl ⟨rfl,rfl,rfl,rfl,rfl⟩ rfl rfl rfl rfl rfl (by kernel_rfl) Tryz.func5 (by kernel_rfl)
  (of_decide_eq_true (by kernel_rfl)) (by unfold Func.isWrapper;first|(rw [if_pos (by decide +kernel)];kernel_rfl)|(rw [if_neg (by decide +kernel)];exact ⟨rfl,rfl⟩))
  (fun os started H enc _=>lifted os started H enc)
end Go.Proofs.YtgpbhlfdlkemjaaGreat.treeOld
namespace Go.Proofs.YtgpbhlfdlkemjaaGreat
theorem treeOld_holds:Rows.TreeOldSaid:=treeOld.over
#print axioms treeOld_holds
end Go.Proofs.YtgpbhlfdlkemjaaGreat
