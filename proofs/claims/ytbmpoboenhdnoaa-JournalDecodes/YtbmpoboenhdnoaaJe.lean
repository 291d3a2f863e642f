/-
  Fold of a journal.
-/
import Derived.Test.YtbmpoboenhdnoaaJd
namespace Go.Proofs.Ytbmpoboenhdnoaa
set_option maxRecDepth 100000
open Go.RowKit
set_option linter.unusedVariables false
section
variable {w : World} {p : Nat} {j : Jn}
set_option maxHeartbeats 2000000 in
theorem fold16_nil : Calls Try.prog 16 #[.pointer none] w fun e w' => e = .returned (Iv 0) ∧ w = w' := by
  go_enter Try.func16, Try.ntmps16
  go_wp2_with fail
  go_ret
  exact ⟨rfl, rfl⟩
/-- Sixteen empty places. -/
abbrev z16 : List Ep := List.replicate 16 (0, 0)
set_option maxHeartbeats 2000000 in
theorem fold16 (h : IsJ w p j) (hr : RegJ j) : Calls Try.prog 16 #[.pointer (some ⟨p, 0, none⟩)] w fun e w' => e = .returned (Iv (j.ev.length : Int)) ∧ IsJ w' p (foldJ j) ∧ Kept [p] w w' := by
  have hc := h.isP.count
  have HS := Hid.mk (state18 h hr)
  have HJ := Hid.mk h
  have hs8 : (stJ j).length = 8 := by unfold stJ; rw [doA_length]; exact h.isP.a8
  have hpl := h.lt
  clear h hr
  go_enter Try.func16, Try.ntmps16
  go_wp2_with fail
  refine HS.out.mono ?_
  rintro e w1 ⟨rfl, k1⟩
  have h1 := (HJ.out.kept0 k1).isP
  have hst : (Instr.storeAt 29 (.pointer (some ⟨p, 0, none⟩)) (.agg (BI (stJ j)).toArray)).run Try.prog w1 = .ok () (w1.setCells p 0 (BI (stJ j)).toArray.toList) := run_storeAt_mid w1 p 0 29 (BI (stJ j)).toArray (h1.there (by rw [List.size_toArray, BI_length, hs8]; omega)) (by rw [List.size_toArray, BI_length, hs8]; exact size29) (all_oneCell_toArray (BI_one _))
  have h2 := h1.putA (B := stJ j) hs8
  have k2 : Kept [p] w (w1.setCells p 0 (BI (stJ j))) := Kept.setCells (.inl (by simp)) _ (k1.mono (by simp)) 0
  simp only at hst
  generalize w1.setCells p 0 (BI (stJ j)) = W2 at *
  have hst2 : (Instr.storeAt 35 (.pointer (some ⟨p, 8, none⟩)) (.agg (CE z16).flatten.toArray)).run Try.prog W2 = .ok () (W2.setCells p 8 (CE z16).flatten.toArray.toList) := run_storeAt_mid W2 p 8 35 (CE z16).flatten.toArray (h2.there (by rw [List.size_toArray, CE_flat]; simp)) (by rw [List.size_toArray, CE_flat]; exact size35) (all_oneCell_toArray (CE_wide _).one)
  have h3 := h2.putE (F := z16) rfl
  have k3 : Kept [p] w (W2.setCells p 8 (CE z16).flatten) := Kept.setCells (.inl (by simp)) _ k2 8
  simp only at hst2
  generalize W2.setCells p 8 (CE z16).flatten = W3 at *
  have c3 := h3.count
  have f3 := h3.free 40
  have HR : Hid (IsJ (W3.setCell ⟨p, 40, none⟩ (Iv 0)) p (foldJ j) ∧ Kept [p] w (W3.setCell ⟨p, 40, none⟩ (Iv 0))) := ⟨⟨h3.setn 0, by simp [foldJ]⟩, k3.setCell (p := ⟨p, 40, none⟩) (.inl (by simp)) _⟩
  have hst3 : (Instr.storeAt 35 (.pointer (some ⟨p, 8, none⟩)) (.agg #[Value.int IntKind.i64 0, Value.int IntKind.i64 0, Value.int IntKind.i64 0, Value.int IntKind.i64 0,
              Value.int IntKind.i64 0, Value.int IntKind.i64 0, Value.int IntKind.i64 0, Value.int IntKind.i64 0,
              Value.int IntKind.i64 0, Value.int IntKind.i64 0, Value.int IntKind.i64 0, Value.int IntKind.i64 0,
              Value.int IntKind.i64 0, Value.int IntKind.i64 0, Value.int IntKind.i64 0, Value.int IntKind.i64 0,
              Value.int IntKind.i64 0, Value.int IntKind.i64 0, Value.int IntKind.i64 0, Value.int IntKind.i64 0,
              Value.int IntKind.i64 0, Value.int IntKind.i64 0, Value.int IntKind.i64 0, Value.int IntKind.i64 0,
              Value.int IntKind.i64 0, Value.int IntKind.i64 0, Value.int IntKind.i64 0, Value.int IntKind.i64 0,
              Value.int IntKind.i64 0, Value.int IntKind.i64 0, Value.int IntKind.i64 0, Value.int IntKind.i64 0])).run Try.prog W2 = .ok () W3 := hst2
  clear h1 k1 HS hc HJ h2 k2 h3 k3 hst2
  go_wp2_with (first | (refine wpList_store_run 29 (.tmp 14) (.tmp 12) rfl rfl _ _ rfl rfl _ hst ?_) | (refine wpList_store_run 35 (.tmp 18) (.tmp 16) rfl rfl _ _ rfl rfl _ hst3 ?_))
  go_ret
  exact ⟨rfl, HR.out⟩
end
end Go.Proofs.Ytbmpoboenhdnoaa
