/-
  New of a window, and Clients.
-/
import Derived.Test.YtngjljgcldfekaaWf
namespace Go.Proofs.Ytngjljgcldfekaa
open Go.RowKit
set_option linter.unusedVariables false
section
variable {w : World} {p : Nat} {L : List Cl}
theorem IsWd.new (w : World) : IsWd (w.alloc (.cells (cellsW []).toArray 36)) w.heap.size [] :=
  ⟨heap_alloc_new w _, ⟨by simp, by intro x hx; simp at hx⟩⟩
set_option maxRecDepth 100000 in
theorem zero36 (W : World) : (zeroValue 36).run Try.prog W = .ok (.agg (cellsW []).toArray) W := by kernel_rfl
set_option maxRecDepth 100000 in
theorem size36 : (cellsW []).length = 385 := cellsW_length ⟨by simp, by intro x hx; simp at hx⟩
set_option maxRecDepth 100000 in
set_option maxHeartbeats 4000000 in
theorem new10 : Calls Try.prog 10 #[] w fun e w' => e = .returned (.pointer (some ⟨w.heap.size, 0, none⟩)) ∧ IsWd w' w.heap.size [] ∧ Kept [] w w' ∧ w'.heap.size = w.heap.size + 1 := by
  have hz := zero36
  have hN : Hid (IsWd (w.alloc (.cells (cellsW []).toArray 36)) w.heap.size []) := IsWd.new w
  generalize (cellsW []).toArray = cs at hz hN
  go_enter Try.func10, Try.ntmps10
  go_wp2_with fail
  go_ret
  exact ⟨rfl, hN.out, (Kept.refl [] w).alloc _, by simp⟩
theorem make42 (n : Nat) (hn : n ≤ 64) (W : World) : (Instr.makeSlice 42 (.int .i64 (n : Int)) (.int .i64 (n : Int))).run Try.prog W = .ok (.slice (some ⟨W.heap.size, 0, none⟩) n n) (W.alloc (.cells (List.replicate n (Uv 0)).toArray 30)) := by
  obtain ⟨i0, hi, hz0, hz1, hz2⟩ := info_parts rt42.info
  have h := run_make (P := Try.prog) W 42 30 i0 _ Try.underlying42 hi hz0 .i64 .i64 (n : Int) (n : Int) (by omega) (by omega) (by rw [hz2]; omega) (by omega)
  rw [h]
  have e : madeCells (Value.int .u64 0).cells ((n : Int).toNat * i0.size) = (List.replicate n (Uv 0)).toArray := by
    rw [hz1]
    apply Array.toList_inj.1
    rw [show (Value.int .u64 0).cells = #[.int .u64 0] from rfl, toList_madeCells_one]
    simp
  rw [e]
  rfl
/-- The clients of a list. -/
def clis (L : List Cl) : List Nat := L.map (·.c)
/-- A row of which the first are laid. -/
def part (L : List Cl) (j : Nat) : List Value := (clis (L.take j)).map Uv ++ List.replicate (L.length - j) (Uv 0)
theorem part_set {L : List Cl} {j : Nat} {x : Cl} (h : L[j]? = some x) : (part L j).set j (Uv x.c) = part L (j + 1) := by
  have hj := (List.getElem?_eq_some_iff.1 h).1
  have hl : ((clis (L.take j)).map Uv).length = j := by simp [clis]; omega
  unfold part
  rw [List.set_append_right _ _ (by omega), hl, Nat.sub_self, show L.length - j = L.length - (j + 1) + 1 by omega, List.replicate_succ, List.set_cons_zero, List.take_add_one, h]
  simp [clis]
set_option maxRecDepth 100000 in
set_option maxHeartbeats 1000000 in
theorem clients23 (hB : IsWd w p L) : Calls Try.prog 23 #[.pointer (some ⟨p, 0, none⟩)] w fun e w' => NewU w (clis L) e w' := by
  have HB := Hid.mk hB
  have hl64 := hB.fit.len
  have hc := hB.count
  have hmk := make42 L.length hl64 w
  have HP : Hid (List.replicate L.length (Uv 0) = part L 0) := by show _ = _; simp [part, clis]
  clear hB
  generalize hn : L.length = n at *
  have HN := Hid.mk hn
  clear hn
  generalize List.replicate n (Uv 0) = R0 at hmk HP
  go_enter Try.func23, Try.ntmps23
  go_wp2_with fail
  have hg0 : (w.alloc (.cells R0.toArray 30)).heap[w.heap.size]? = some (.cells R0.toArray 30 (0, 0)) := heap_alloc_new w _
  have k0 := (Kept.refl [] w).alloc (.cells R0.toArray 30)
  generalize w.alloc (.cells R0.toArray 30) = W0 at hg0 k0 ⊢
  go_loopw [14] (fun i wr => ∃ j : Nat, i = .int .i64 (j : Int) ∧ j ≤ n ∧ Hid (wr.heap[w.heap.size]? = some (.cells (part L j).toArray 30 (0, 0)) ∧ Kept [] w wr)) (fun i _ => n - (intOf i).toNat)
  case atStart => exact ⟨0, rfl, by omega, Hid.mk ⟨by rw [← HP.out]; exact hg0, k0⟩⟩
  case round =>
    obtain ⟨j, rfl, hj, hH⟩ := hrel
    obtain ⟨hb, kk⟩ := hH.out
    by_cases hlt : j < n
    · have hjI : (j : Int) < (n : Int) := by omega
      have hj0 : (0 : Int) ≤ (j : Int) := by omega
      have hj6 : (j : Int) < 64 := by omega
      obtain ⟨q, hq⟩ : ∃ q, L[j]? = some q := ⟨_, List.getElem?_eq_getElem (by have := HN.out; omega)⟩
      have d0 := ((HB.out.kept0 kk).rc hq).client
      have hlen : (part L j).length = n := by simp [part, clis, HN.out]; omega
      obtain ⟨v, hv⟩ : ∃ v, wr.cell? ⟨w.heap.size, j, none⟩ = some v := ⟨(part L j)[j]'(by omega), by unfold World.cell?; rw [hb]; simp [hlen, hlt]⟩
      have hf : wr.frozen? ⟨w.heap.size, j, none⟩ = false := by simp [World.frozen?, hb]
      have HR : Hid ((wr.setCell ⟨w.heap.size, j, none⟩ (Uv q.c)).heap[w.heap.size]? = some (.cells (part L (j + 1)).toArray 30 (0, 0)) ∧ Kept [] w (wr.setCell ⟨w.heap.size, j, none⟩ (Uv q.c))) := ⟨by rw [← part_set hq]; exact set_list hb, kk.setCell (.inr (Nat.le_refl _)) _⟩
      clear hq hb kk hlen hH
      go_wp2_with fail
      go_roundw
      case rel => exact ⟨j + 1, by go_num, by omega, HR⟩
      case measure => simp [intOf]; omega
    · obtain rfl : j = n := by omega
      go_wp2_with fail
      go_ret
      have hp : part L j = (CU (clis L)).flatten := by
        rw [part, HN.out, Nat.sub_self, List.take_of_length_le (by rw [HN.out]; exact Nat.le_refl _), CU_flat]
        simp
      rw [hp] at hb
      exact ⟨_, rfl, ownsR_block hb (CU_wide _) (by rw [CU_length, clis, List.length_map, HN.out]) (by unfold maxLen; omega), kk, fun g hg => by simp [Value.ownBlock] at hg; omega⟩
theorem clients23_nil : Calls Try.prog 23 #[.pointer none] w fun e w' => e = .returned (.slice none 0 0) ∧ w = w' := by
  go_enter Try.func23, Try.ntmps23
  go_wp2_with fail
  go_ret
  exact ⟨rfl, rfl⟩
end
end Go.Proofs.Ytngjljgcldfekaa
