/-
  Written and New of a disk.
-/
import Derived.Test.YtilelklcfgemoaaDAsk
namespace Go.Proofs.Ytilelklcfgemoaa
open Go.RowKit
set_option linter.unusedVariables false
/-- Where the writes lie. -/
theorem IsD.row {F : List Nat} {p : Nat} {s : St} {w : World} (hD : IsD w F p s) (k : Nat) (x : Wr) (hx : s.ws[k]? = some x) :
    ∃ gd cap, w.cell? ⟨p, 0, none⟩ = some (.slice (some ⟨gd, 0, none⟩) s.ws.length cap) ∧ w.cell? ⟨gd, k * 257, none⟩ = some (.int .i64 (x.1 : Int)) ∧ Reads w (.slice (some ⟨gd, k * 257 + 1, none⟩) 256 256) x.2 ∧ s.ws.length ≤ cap ∧ cap ≤ maxLen ∧ gd ∈ F := by
  obtain ⟨vd, g, hF, hbox, hown, hlast, hpg, hap, hag, hok⟩ := hD
  have hlt : k < s.ws.length := (List.getElem?_eq_some_iff.1 hx).1
  obtain ⟨gd, cap, cur, rfl, _, hg, h1, h2, h3, h4⟩ : ∃ g cap cur, vd = .slice (some ⟨g, 0, none⟩) s.ws.length cap ∧ 0 ≤ g ∧ w.heap[g]? = some (.cells cur 77 (0, 0)) ∧ s.ws.length ≤ cap ∧ cap ≤ maxLen ∧ cur.size = cap * 257 ∧ cur.toList.take (s.ws.length * 257) = wsC s.ws := by
    rcases hown.2 with ⟨_, h0⟩ | h
    · omega
    · exact h
  have hcell : ∀ j u, (wcells (x.1 : Int) x.2)[j]? = some u → w.cell? ⟨gd, k * 257 + j, none⟩ = some u := by
    intro j u hu
    rw [cell_of_row w gd _ cur 77 (0, 0) hg]
    have h := wsC_at s.ws hok.ws k x hx j u hu
    rw [← h4, List.getElem?_take] at h
    split at h
    · simpa using h
    · cases h
  have hc0 := hcell 0 (.int .i64 (x.1 : Int)) (by simp [wcells])
  rw [Nat.add_zero] at hc0
  have hxm := hok.ws x (List.mem_of_getElem? hx)
  refine ⟨gd, cap, (cells4 hbox).1, hc0, ⟨_, 256, by rw [hxm.2], by omega, by unfold maxLen; omega, by simp, fun _ => ⟨gd, k * 257 + 1, rfl, fun j u hu => ?_⟩⟩, h1, h2, by rw [hF]; simp [Value.ownBlock]⟩
  have := hcell (j + 1) (B8 u) (by simp [wcells, C8, hu])
  rw [show k * 257 + (j + 1) = k * 257 + 1 + j by omega] at this
  exact this
theorem make_ints (W : World) (n : Nat) (h : n ≤ 65536) : (Instr.makeSlice 36 (.int .i64 (n : Int)) (.int .i64 (n : Int))).run Try.prog W = .ok (.slice (some ⟨W.heap.size, 0, none⟩) n n) (W.alloc (.cells (lastC [] n).toArray 3)) := by
  obtain ⟨i0, hi, hz0, hz1, hz2⟩ := info_parts inf3
  have h := run_make (P := Try.prog) W 36 3 i0 _ Try.underlying36 hi hz0 .i64 .i64 (n : Int) (n : Int) (by omega) (by omega) (by rw [hz2]; omega) (by omega)
  rw [h]
  have e : madeCells (Value.int .i64 0).cells (Int.toNat (n : Int) * i0.size) = (lastC [] n).toArray := by
    rw [hz1]
    apply Array.toList_inj.1
    rw [show (Value.int .i64 0).cells = #[.int .i64 0] from rfl, toList_madeCells_one]
    apply List.ext_getElem?
    intro k
    simp [lastC, lastN, lastOf, List.getElem?_replicate]
    by_cases hk : k < n <;> simp [hk]
  rw [e]
  rfl
theorem isD_new (w : World) (n : Nat) (hn : n ≤ 65536) :
    IsD ((w.alloc (.cells (lastC [] n).toArray 3)).alloc (.cells #[.slice none 0 0, .slice (some ⟨w.heap.size, 0, none⟩) n n, .int .i64 (-1), .bool false] 59)) [w.heap.size + 1, w.heap.size] (w.heap.size + 1) ⟨n, [], -1, false⟩ :=
  ⟨.slice none 0 0, w.heap.size, rfl, heap_alloc2_new w _ _, World.ownsRow_nil _ 0 77 257, heap_alloc2_old w _ _, by omega, by simp [Value.ownBlock], by simp [Value.ownBlock], ⟨hn, okW.nil _, by show (-1 : Int) ≤ -1; omega, by show (-1 : Int) < _; omega⟩⟩
set_option maxHeartbeats 400000 in
theorem new_any (b : Int) (w : World) : Calls Try.prog 10 #[.int .i64 b] w fun e w' => ∃ p, e = .returned (.pointer (some ⟨p, 0, none⟩)) ∧ ∃ F, IsD w' F p (newS b) ∧ Kept [] w w' ∧ ∀ x ∈ F, w.heap.size ≤ x := by
  have hle := newN_le b
  have hmk := fun W => make_ints W (newN b) hle
  have hfin := isD_new w (newN b) hle
  have hN : Hid (newN b = (min (max b 0) 65536).toNat) := rfl
  have hS : Hid (newS b = ⟨newN b, [], -1, false⟩) := rfl
  generalize newS b = s at hS
  generalize newN b = n at hmk hfin hN hS hle
  have fin : ∀ w', w' = ((w.alloc (.cells (lastC [] n).toArray 3)).alloc (.cells #[.slice none 0 0, .slice (some ⟨w.heap.size, 0, none⟩) n n, .int .i64 (-1), .bool false] 59)) → ∃ p, Ending.returned (.pointer (some ⟨w.heap.size + 1, 0, none⟩)) = .returned (.pointer (some ⟨p, 0, none⟩)) ∧ ∃ F, IsD w' F p s ∧ Kept [] w w' ∧ ∀ x ∈ F, w.heap.size ≤ x := by
    rintro _ rfl
    refine ⟨_, rfl, _, hS.out ▸ hfin, ((Kept.refl [] w).alloc _).alloc _, ?_⟩
    intro x hx
    simp at hx
    rcases hx with rfl | rfl <;> omega
  clear hfin hS
  generalize (lastC [] n).toArray = L at hmk fin
  by_cases h0 : b < 0
  · have hn : n = 0 := by rw [hN.out]; omega
    subst hn
    clear hN hle
    have h1 : ¬ 0 ≤ b := by omega
    have hmk0 : ∀ W : World, (Instr.makeSlice 36 (.int .i64 0) (.int .i64 0)).run Try.prog W = .ok (.slice (some ⟨W.heap.size, 0, none⟩) 0 0) (W.alloc (.cells L 3)) := hmk
    clear hmk
    go_enter Try.func10, Try.ntmps10
    go_wp2
    go_ret
    exact fin _ rfl
  · by_cases h2 : b ≤ 65536
    · have hn : b = (n : Int) := by rw [hN.out]; omega
      subst hn
      clear hN
      have h3 : (0 : Int) ≤ (n : Int) := by omega
      have h4 : ¬ (65536 : Int) < (n : Int) := by omega
      go_enter Try.func10, Try.ntmps10
      go_wp2
      go_ret
      exact fin _ rfl
    · have hn : n = 65536 := by rw [hN.out]; omega
      subst hn
      clear hN hle
      have h3 : (0 : Int) ≤ b := by omega
      have h4 : (65536 : Int) < b := by omega
      have hmk0 : ∀ W : World, (Instr.makeSlice 36 (.int .i64 65536) (.int .i64 65536)).run Try.prog W = .ok (.slice (some ⟨W.heap.size, 0, none⟩) 65536 65536) (W.alloc (.cells L 3)) := hmk
      clear hmk
      go_enter Try.func10, Try.ntmps10
      go_wp2
      go_ret
      exact fin _ rfl
end Go.Proofs.Ytilelklcfgemoaa
