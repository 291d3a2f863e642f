/-
  The document's window: Clients.
-/
import Derived.Test.YtngjljgcldfekaaRf
namespace Go.Proofs.Ytngjljgcldfekaa
open Go.RowKit
set_option linter.unusedVariables false
section
variable {w0 w w' : World} {p : Nat} {v : Value} {qs : List Cq}
set_option maxRecDepth 100000 in
set_option maxHeartbeats 1000000 in
theorem rcli26 (hB : IsF w p v qs) (hl : qs.length ≤ 1000) : Calls Try.prog 26 #[.pointer (some ⟨p, 0, none⟩)] w fun e w' => NewU w (clis (mx qs)) e w' := by
  obtain ⟨av, cv, rfl, hv1, hv2⟩ := hB.row.form
  have HB := Hid.mk hB
  have hc := cell_of_one hB.box
  clear hB
  generalize hn : qs.length = n at *
  have HN := Hid.mk hn
  clear hn
  go_enter Try.func26, Try.ntmps26
  go_wp2_with fail
  go_loopw [3, 10] (fun u i wr => ∃ (j : Nat) (a : Option Addr) (ca : Nat), u = .slice a j ca ∧ i = .int .i64 (j : Int) ∧ j ≤ n ∧ Hid (OwnsU wr (.slice a j ca) (clis (mx (qs.take j))) ∧ Kept [] w wr ∧ Fresh w (.slice a j ca))) (fun _ i _ => n - (intOf i).toNat)
  case atStart => exact ⟨0, none, 0, rfl, rfl, by omega, Hid.mk ⟨OwnsU.nil w, Kept.refl [] w, fun g hg => by simp [Value.ownBlock] at hg⟩⟩
  case round =>
    obtain ⟨j, a, ca, rfl, rfl, hj, hH⟩ := hrel
    obtain ⟨hO, kk, hf⟩ := hH.out
    by_cases hlt : j < n
    · have hjI : (j : Int) < (n : Int) := by omega
      obtain ⟨y, hy⟩ : ∃ y, qs[j]? = some y := ⟨_, List.getElem?_eq_getElem (by have := HN.out; omega)⟩
      have hBr := HB.out.kept0 kk
      have hcr := cell_of_one hBr.box
      obtain ⟨b, o, rfl, d0, d1⟩ := hBr.row.at hy
      have hlj : (clis (mx (qs.take j))).length = j := by rw [clis, mx, List.length_map, List.length_map, List.length_take]; have := HN.out; omega
      obtain ⟨a2, c2, w2, hrun, hO2, k2, hN2⟩ := append_rowR rt42 hO [Uv y.x.c] rfl (by intro u hu; simp at hu; subst hu; rfl) (by rw [CU_length, hlj]; omega) 30 (0, 0) 42
      rw [CU_length, hlj] at hrun hO2 hN2
      have HR : Hid (OwnsU w2 (.slice a2 (j + 1) c2) (clis (mx (qs.take (j + 1)))) ∧ Kept [] w w2 ∧ Fresh w (.slice a2 (j + 1) c2)) := by
        refine ⟨?_, kk.trans k2 (fun x hx => by rw [Option.mem_toList] at hx; exact .inr (hf x hx)), fun g hg => ?_⟩
        · have e : clis (mx (qs.take (j + 1))) = clis (mx (qs.take j)) ++ [y.x.c] := by rw [List.take_add_one, hy]; simp [clis, mx]
          unfold OwnsU
          rw [e, CU_append]
          exact hO2
        · rcases hN2 g hg with h | h
          · exact hf g h
          · have := kk.size; omega
      clear hO kk hf hBr hy hlj hO2 k2 hN2 hH
      go_wp2_with (at_builtin; refine wpList_append_run 42 42 _ _ rfl (by rfl) _ _ rfl rfl _ _ hrun ?_)
      go_roundw
      case rel => exact ⟨j + 1, a2, c2, rfl, by go_num, by omega, HR⟩
      case measure => simp [intOf]; omega
    · obtain rfl : j = n := by omega
      go_wp2_with fail
      go_ret
      rw [List.take_of_length_le (by rw [HN.out]; exact Nat.le_refl _)] at hO
      exact ⟨_, rfl, hO, kk, hf⟩
end
end Go.Proofs.Ytngjljgcldfekaa
