/-
  LazyJoins, up to the bound.
-/
import Derived.Test.YthbopephcdohkaaJoinsWalk
import Derived.Test.YthbopephcdohkaaBulk
import Derived.ProofKit
import Derived.OpenShut
import Derived.ChangeOld
import Derived.Test.YthbopephcdohkaaFrame
namespace Go.Proofs.Ythbopephcdohkaa.lazyJoinsUpto
open Go.ChangeShapes Go.WideShapes Go.ChangeAt Go.RowKit
set_option linter.unusedVariables false

theorem own : ownKnob Try.prog.godebug = none := by kernel_rfl
theorem laidOut : laidOutB Try.prog = true := by kernel_rfl

set_option maxRecDepth 100000 in
theorem contract (H : Type) (enc : TypeId × Value → H) (W : World) (base : Nat) (args : Array Value) (ds gs : List (DataW H)) (before : List MemPlace)
    (hval : ∀ (j : Nat) t v, Try.f7.params[j]? = some t → args[j]? = some v → Value.okWide Try.prog W .any base t v)
    (hW : DataW.Whole enc Try.prog Try.f7.params.toList Rows.lazyJoinsSpec.vars false W args.toList ds gs before) (hk : Rows.uptoSmall H (ds ++ gs) = true) :
    Calls Try.prog 7 args W fun e W' => ∃ v, e = .returned v ∧ Rows.lazyJoinsSpec.post enc Try.prog Try.f7 false true false false W args v W' ∧ W'.os = W.os := by
  have hW' := hW
  obtain ⟨p, q, hA0, hV, rfl, hfz, hnd⟩ := hW
  have hA : DataW.TrodAll enc Try.prog W 0 (fun _ => true) true Try.f7.params.toList args.toList ds p := hA0
  rw [Try.params7] at hA hval
  obtain ⟨v0, vs0, d0, ds0, p0, q0, hargs, rfl, rfl, h0, r0⟩ := trodAll_cons hA
  obtain ⟨v1, vs1, d1, ds1, p1, q1, rfl, rfl, rfl, h1, r1⟩ := trodAll_cons r0
  obtain ⟨rfl, rfl, rfl⟩ := trodAll_nil r1
  obtain rfl : args = #[v0, v1] := by cases args; simp_all
  obtain ⟨rfl, rfl⟩ := trodVars_none hV
  have hb := small_of hk
  obtain ⟨a0, len0, cap0, rfl⟩ := okWide_slice Try.underlying22 (hval 0 22 v0 rfl rfl)
  have k0 := h0
  have lt0 : ∀ x ∈ p0, x.block < W.heap.size := by obtain ⟨m, hm⟩ := k0; exact DataW.trod_lt m _ _ _ hm
  obtain ⟨l0, R0, s0⟩ : ∃ l, Reads W (.slice a0 len0 cap0) l ∧ l.length ≤ Rows.uptoBulk d0 := by
    have hbi : Rows.uptoBulk d0 ≤ 1048576 := by simp only [List.cons_append, List.nil_append, Rows.uptoBulkAll] at hb; omega
    obtain ⟨fuel, hf⟩ := h0
    rcases open_ints Try.underlying22 Try.underlying5 (by kernel_rfl) hf with ⟨hcs, hx⟩ | ⟨x, l, c, zs, hcs, _, hl, hm, hz, hx, hcell, hwz⟩
    · simp [Value.cells] at hcs
      obtain ⟨rfl, rfl, rfl⟩ := hcs
      exact ⟨[], Reads.nil W, by simp⟩
    · simp [Value.cells] at hcs
      obtain ⟨rfl, rfl, rfl⟩ := hcs
      simp only [Prod.mk.injEq] at hx
      obtain ⟨hd, _⟩ := hx
      have hz2 : zs.length = cap0 := by simpa using hz
      have hbl : len0 ≤ Rows.uptoBulk d0 := by
        rw [hd]
        simp only [Rows.uptoBulk, bulk_lits, List.length_take]
        omega
      obtain ⟨l, hR, _⟩ := reads_of_row W x zs hl hm hz2 hcell hwz (by omega)
      refine ⟨l, hR, ?_⟩
      obtain ⟨_, _, he, _⟩ := hR
      injection he with e1 e2 e3
      omega
  obtain ⟨a1, len1, cap1, rfl⟩ := okWide_slice Try.underlying22 (hval 1 22 v1 rfl rfl)
  have k1 := h1
  have lt1 : ∀ x ∈ p1, x.block < W.heap.size := by obtain ⟨m, hm⟩ := k1; exact DataW.trod_lt m _ _ _ hm
  obtain ⟨l1, R1, s1⟩ : ∃ l, Reads W (.slice a1 len1 cap1) l ∧ l.length ≤ Rows.uptoBulk d1 := by
    have hbi : Rows.uptoBulk d1 ≤ 1048576 := by simp only [List.cons_append, List.nil_append, Rows.uptoBulkAll] at hb; omega
    obtain ⟨fuel, hf⟩ := h1
    rcases open_ints Try.underlying22 Try.underlying5 (by kernel_rfl) hf with ⟨hcs, hx⟩ | ⟨x, l, c, zs, hcs, _, hl, hm, hz, hx, hcell, hwz⟩
    · simp [Value.cells] at hcs
      obtain ⟨rfl, rfl, rfl⟩ := hcs
      exact ⟨[], Reads.nil W, by simp⟩
    · simp [Value.cells] at hcs
      obtain ⟨rfl, rfl, rfl⟩ := hcs
      simp only [Prod.mk.injEq] at hx
      obtain ⟨hd, _⟩ := hx
      have hz2 : zs.length = cap1 := by simpa using hz
      have hbl : len1 ≤ Rows.uptoBulk d1 := by
        rw [hd]
        simp only [Rows.uptoBulk, bulk_lits, List.length_take]
        omega
      obtain ⟨l, hR, _⟩ := reads_of_row W x zs hl hm hz2 hcell hwz (by omega)
      refine ⟨l, hR, ?_⟩
      obtain ⟨_, _, he, _⟩ := hR
      injection he with e1 e2 e3
      omega
  simp only [List.cons_append, List.nil_append, Rows.uptoBulkAll] at hb
  clear hA0
  refine (joins_walk _ _ l0 l1 W R0 R1 (by omega)).mono fun e W' ⟨he, hk⟩ => ?_
  have bel := hk.below
  subst he
  exact ⟨_, rfl, ⟨_, _, _, [], _, [], hW', trodAll_mk1 (shut_bool Try.underlying4 _), (trodAll_cons_mk (Below.trod laidOut (by kernel_rfl) (of_decide_eq_true (by kernel_rfl)) k0 bel lt0) (trodAll_cons_mk (Below.trod laidOut (by kernel_rfl) (of_decide_eq_true (by kernel_rfl)) k1 bel lt1) trodAll_mk0)), rfl, bel.frame _, fun h => by cases h⟩, hk.os⟩

set_option maxRecDepth 100000 in
theorem lifted (os : Os) (started : os.Started) (H : Type) (enc : TypeId × Value → H) (F : Stop.Interp) :
    ReturnsInLeavingWide { calm := true } Try.checked os 7 .any ((Rows.OpenSpec.upto Rows.lazyJoinsSpec).pre6 enc Try.prog Try.f7 Rows.lazyJoinsUptoRow.domain false) ((Rows.OpenSpec.upto Rows.lazyJoinsSpec).postWith enc Try.prog Try.f7 F (outsideKept [.timePasses]) false true false) := by
  refine alone_time (C := Try.checked) Rows.lazyJoinsSpec own started (by kernel_rfl) Try.func7
    (witness_calm (enc := enc) (C := Try.checked) Rows.lazyJoinsSpec ⟨#[], #[.slice none 0 0, .slice none 0 0], []⟩ 8 (by kernel_rfl) (by kernel_rfl) (by kernel_rfl)
      (x := ([.nil, .nil], [], [])) (by kernel_rfl) rfl (by kernel_rfl)) ?_
  intro W base args ds gs before hval hW hk
  exact contract H enc W base args ds gs before hval hW hk

theorem over : Rows.LazyJoinsUptoSaid :=
  holds_time 7 Try.f7 rfl rfl rfl rfl rfl rfl rfl ⟨rfl, rfl, rfl, rfl, rfl⟩ rfl rfl rfl rfl rfl (by kernel_rfl) Try.func7 (by kernel_rfl)
    (of_decide_eq_true (by kernel_rfl)) (by unfold Func.isWrapper; first | (rw [if_pos (by decide +kernel)]; kernel_rfl) | (rw [if_neg (by decide +kernel)]; exact ⟨rfl, rfl⟩))
    (fun os started H enc F => lifted os started H enc F)

end Go.Proofs.Ythbopephcdohkaa.lazyJoinsUpto

namespace Go.Proofs.Ythbopephcdohkaa
theorem lazyJoinsUpto_holds : Rows.LazyJoinsUptoSaid := lazyJoinsUpto.over
#print axioms lazyJoinsUpto_holds
end Go.Proofs.Ythbopephcdohkaa
