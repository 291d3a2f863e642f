/-
  LogLong answers true.
-/
import Derived.Test.YtdcjaopmfccgbaaAwk
namespace Go.Proofs.Ytdcjaopmfccgbaa
open Go.RowKit
set_option linter.unusedVariables false

theorem make_long (n : Nat) (hn : n ≤ 255) (W : World) : (Instr.makeSlice 35 (.int .i64 (59900 + (n : Int))) (.int .i64 (59900 + (n : Int)))).run Try.prog W = .ok (.slice (some ⟨W.heap.size, 0, none⟩) (59900 + n) (59900 + n)) (W.alloc (.cells (C8 (zs (59900 + n))).toArray 5)) := by
  obtain ⟨i0, hi, hz0, hz1, hz2⟩ := info_parts inf5
  have h := run_make (P := Try.prog) W 35 5 i0 _ Try.underlying35 hi hz0 .i64 .i64 (59900 + (n : Int)) (59900 + (n : Int)) (by omega) (by omega) (by rw [hz2]; omega) (by omega)
  have e9 : (59900 + (n : Int)).toNat = 59900 + n := by omega
  rw [h, e9]
  have e : madeCells (Value.int .u8 0).cells ((59900 + n) * i0.size) = (C8 (zs (59900 + n))).toArray := by
    rw [hz1]
    apply Array.toList_inj.1
    rw [show (Value.int .u8 0).cells = #[.int .u8 0] from rfl, toList_madeCells_one]
    have e0 : B8 0 = .int .u8 0 := by simp [B8]
    show _ = List.map B8 (List.replicate (59900 + n) 0)
    rw [List.map_replicate, e0, Nat.mul_one]
  rw [e]
theorem reads_zs (w : World) (m : Nat) (hm : m ≤ 65536) : Reads (w.alloc (.cells (C8 (zs m)).toArray 5)) (.slice (some ⟨w.heap.size, 0, none⟩) m m) (zs m) := by
  have hR : Row (w.alloc (.cells (C8 (zs m)).toArray 5)) w.heap.size (zs m) := heap_alloc_new w _
  exact hR.reads 0 m m (zs m) (zs_length m) (Nat.le_refl _) (by unfold maxLen; omega) (fun j u hu => by rw [Nat.zero_add]; exact hu)

set_option maxRecDepth 100000 in
set_option maxHeartbeats 400000 in
theorem long_any (n : Nat) (hn : n ≤ 255) (w : World) : Calls Try.prog 7 #[.int .u8 (n : Int)] w fun e w' => e = .returned (.bool true) ∧ Kept [] w w' := by
  go_enter Try.func7, Try.ntmps7
  go_wp2_with fail
  refine (awake_any w).mono ?_
  rintro e w0 ⟨rfl, k0⟩
  have hnew : Calls Try.prog 9 #[.int .i64 300] w0 fun e w' => ∃ p, e = .returned (.pointer (some ⟨p, 0, none⟩)) ∧ ∃ F, IsD w' F p ⟨300, [], -1, false⟩ ∧ Kept [] w0 w' ∧ ∀ x ∈ F, w0.heap.size ≤ x := new_nb 300 (by omega) w0
  go_wp2_with fail
  refine hnew.mono ?_
  rintro e w1 ⟨q, rfl, F, hD, k1, nF⟩
  have hop : Calls Try.prog 10 #[.pointer (some ⟨q, 0, none⟩), .int .i64 0, .int .i64 300, .int .u64 1] w1 fun e w' => ∃ p, e = .returned (.tuple #[.pointer (some ⟨p, 0, none⟩), .int .i64 0]) ∧ ∃ H, Lg w' H q ⟨300, [], -1, false⟩ p 0 300 1 [] false ∧ Kept [] w1 w' ∧ NewF w1 F H := open_new (fr := 0) (ct := 300) (ep := 1) hD (by omega) (by omega) (by omega) (by omega)
  clear hnew hD
  go_wp2_with fail
  refine hop.mono ?_
  rintro e w2 ⟨p, rfl, H, hL, k2, nH⟩
  have kk2 : Kept [] w w2 := (k0.trans k1 (by simp)).trans k2 (by simp)
  have nH2 : ∀ x ∈ H, w.heap.size ≤ x := fun x hx => by
    have := k0.size
    have := k1.size
    rcases nH x hx with h | h
    · have := nF x h; omega
    · omega
  clear hop k1 k2 nH nF k0
  have hmk := make_long n hn w2
  have hr0 := reads_zs w2 (59900 + n) (by omega)
  have hk0 := (Kept.refl [] w2).alloc (.cells (C8 (zs (59900 + n))).toArray 5)
  have hL0 := hL.kept hk0 (by simp)
  have kk3 := kk2.trans hk0 (by simp)
  have hHlt := hL.lt
  obtain ⟨m, hm⟩ : ∃ m, Hid (59900 + n = m) := ⟨_, rfl⟩
  have hmI : Hid (59900 + (n : Int) = (m : Int)) := by show _ = _; have := hm.out; omega
  rw [hm.out] at hmk hr0 hk0 hL0 kk3
  have hmn : m ≤ 60155 := by have := hm.out; omega
  have hv : ∀ g, (Value.slice (some ⟨w2.heap.size, 0, none⟩) m m).ownBlock = some g → g ∉ H := fun g hg hm => by simp [Value.ownBlock] at hg; have := hHlt g hm; omega
  by_cases hbig : 60000 < m
  · have hap := append_long hL0 (some ⟨w2.heap.size, 0, none⟩) m m hbig
    have hgt : (60000 : Int) < 59900 + (n : Int) := by have := hm.out; omega
    clear hL0 hL hr0
    go_wp2_with fail
    refine hap.mono ?_
    rintro e w3 ⟨rfl, rfl⟩
    clear hap
    go_wp2_with fail
    go_ret
    exact ⟨rfl, kk3⟩
  · have hap := append_any hL0 (some ⟨w2.heap.size, 0, none⟩) m m (zs m) hr0 (zs_length m) hv (by have := hm.out; omega) (by omega) (by show 0 + bks m ≤ 300; unfold bks; omega) rfl (by simp)
    have hgt : ¬ (60000 : Int) < 59900 + (n : Int) := by have := hm.out; omega
    clear hL0 hL hr0
    go_wp2_with fail
    refine hap.mono ?_
    rintro e w3 (⟨rfl, -, H3, hL3, k3, n3⟩ | ⟨j, _, hj, _⟩)
    case inr => exact absurd hj (by show ¬ ((-1 : Int) = _); omega)
    have kk4 : Kept [] w w3 := kk3.trans k3 (fun x hx => .inr (nH2 x hx))
    have hro : Calls Try.prog 20 #[.pointer (some ⟨p, 0, none⟩)] w3 fun e w' => e = .returned (.int .i64 (300 - (bks m : Int))) ∧ Kept [] w3 w' := by
      have hll := hL3.len
      obtain ⟨F, G, rfl, hD, hL, h3, h4, h5, h6⟩ := hL3
      have := room_any hL (by omega) hll.2.2.1
      rw [tot_snoc, zs_length] at this
      simp only [tot, Nat.zero_add] at this
      exact this
    have hub : ∀ w4, Calls Try.prog 15 #[.int .i64 (59900 + (n : Int))] w4 fun e w' => e = .returned (.int .i64 (bks m : Int)) ∧ w4 = w' := fun w4 => by
      have := ub_any m (by omega) w4
      rw [← hmI.out] at this
      exact this
    have hbm : bks m ≤ 300 := by unfold bks; omega
    generalize bks m = B at hro hub hbm
    clear hap hL3 k3 n3 kk3 hk0
    go_wp2_with fail
    refine hro.mono ?_
    rintro e w4 ⟨rfl, k4⟩
    have kk5 := kk4.trans k4 (by simp)
    have hub4 := hub w4
    clear hro hub k4 kk4
    go_wp2_with fail
    refine hub4.mono ?_
    rintro e w5 ⟨rfl, rfl⟩
    clear hub4
    go_wp2_with fail
    go_ret
    exact ⟨rfl, kk5⟩
end Go.Proofs.Ytdcjaopmfccgbaa
