import Derived.Lib.Tables
import Derived.Test.YtibapmjgpnldgaaGreatDoorQ03
/-
  bits.Len64, as far as the codec leans on it: how many bytes its bits fill.
-/
namespace Go.Proofs.YtibapmjgpnldgaaGreatDoor
set_option maxRecDepth 100000
open Go.RowKit
abbrev tabA : List UInt8 := [0, 1, 2, 2, 3, 3, 3, 3, 4, 4, 4, 4, 4, 4, 4, 4, 5, 5, 5, 5, 5, 5, 5, 5, 5, 5, 5, 5, 5, 5, 5, 5, 6, 6, 6, 6, 6, 6, 6, 6, 6, 6, 6, 6, 6, 6, 6, 6, 6, 6, 6, 6, 6, 6, 6, 6, 6, 6, 6, 6, 6, 6, 6, 6]
abbrev tabB : List UInt8 := [7, 7, 7, 7, 7, 7, 7, 7, 7, 7, 7, 7, 7, 7, 7, 7, 7, 7, 7, 7, 7, 7, 7, 7, 7, 7, 7, 7, 7, 7, 7, 7, 7, 7, 7, 7, 7, 7, 7, 7, 7, 7, 7, 7, 7, 7, 7, 7, 7, 7, 7, 7, 7, 7, 7, 7, 7, 7, 7, 7, 7, 7, 7, 7]
abbrev tabC : List UInt8 := [8, 8, 8, 8, 8, 8, 8, 8, 8, 8, 8, 8, 8, 8, 8, 8, 8, 8, 8, 8, 8, 8, 8, 8, 8, 8, 8, 8, 8, 8, 8, 8, 8, 8, 8, 8, 8, 8, 8, 8, 8, 8, 8, 8, 8, 8, 8, 8, 8, 8, 8, 8, 8, 8, 8, 8, 8, 8, 8, 8, 8, 8, 8, 8]
theorem tab_eq : (ByteArray.mk (List.toArray (List.append (List.append tabA tabB) (List.append tabC tabC)))) = Lib.len8tab := by decide +kernel
theorem tab_index (y : Int) (w : World) (h0 : 0 ≤ y) (h1 : y ≤ 255) : (Instr.index 9 (.string Lib.len8tab) (.int .u8 y)).run Tryz.prog w = .ok (.int .u8 (Lib.len8 y)) w := Lib.run_index_len8tab w 9 .u8 y Tryz.underlying9 h0 h1
set_option maxRecDepth 100000 in
set_option maxHeartbeats 1000000 in
theorem len_7 (x : Int) (w : World) (h1 : 72057594037927936 ≤ x) (h2 : x ≤ 18446744073709551615) : Calls Tryz.prog 35 #[.int .u64 x] w fun e w' => e = .returned (.int .i64 (56 + Lib.len8 (x / 4294967296 / 65536 / 256))) ∧ w = w' := by
  have y0 : 0 ≤ x / 4294967296 / 65536 / 256 := by omega
  have y1 : x / 4294967296 / 65536 / 256 ≤ 255 := by omega
  have r := len8_range (x / 4294967296 / 65536 / 256) (by omega) y1
  obtain ⟨r1, r2⟩ := r
  have a1 : 4294967296 ≤ x := by omega
  have a2 : 65536 ≤ x / 4294967296 := by omega
  have a3 : 256 ≤ x / 4294967296 / 65536 := by omega
  have hix := fun w : World => tab_index (x / 4294967296 / 65536 / 256) w y0 y1
  go_enter Tryz.func35, Tryz.ntmps35
  rw [tab_eq]
  generalize Lib.len8tab = T at hix ⊢
  go_wp2
  go_ret
  exact ⟨rfl, rfl⟩
set_option maxRecDepth 100000 in
set_option maxHeartbeats 1000000 in
theorem len_6 (x : Int) (w : World) (h1 : 281474976710656 ≤ x) (h2 : x ≤ 72057594037927935) : Calls Tryz.prog 35 #[.int .u64 x] w fun e w' => e = .returned (.int .i64 (48 + Lib.len8 (x / 4294967296 / 65536))) ∧ w = w' := by
  have y0 : 0 ≤ x / 4294967296 / 65536 := by omega
  have y1 : x / 4294967296 / 65536 ≤ 255 := by omega
  have r := len8_range (x / 4294967296 / 65536) (by omega) y1
  obtain ⟨r1, r2⟩ := r
  have a1 : 4294967296 ≤ x := by omega
  have a2 : 65536 ≤ x / 4294967296 := by omega
  have a3 : x / 4294967296 / 65536 < 256 := by omega
  have hix := fun w : World => tab_index (x / 4294967296 / 65536) w y0 y1
  go_enter Tryz.func35, Tryz.ntmps35
  rw [tab_eq]
  generalize Lib.len8tab = T at hix ⊢
  go_wp2
  go_ret
  exact ⟨rfl, rfl⟩
set_option maxRecDepth 100000 in
set_option maxHeartbeats 1000000 in
theorem len_5 (x : Int) (w : World) (h1 : 1099511627776 ≤ x) (h2 : x ≤ 281474976710655) : Calls Tryz.prog 35 #[.int .u64 x] w fun e w' => e = .returned (.int .i64 (40 + Lib.len8 (x / 4294967296 / 256))) ∧ w = w' := by
  have y0 : 0 ≤ x / 4294967296 / 256 := by omega
  have y1 : x / 4294967296 / 256 ≤ 255 := by omega
  have r := len8_range (x / 4294967296 / 256) (by omega) y1
  obtain ⟨r1, r2⟩ := r
  have a1 : 4294967296 ≤ x := by omega
  have a2 : x / 4294967296 < 65536 := by omega
  have a3 : 256 ≤ x / 4294967296 := by omega
  have hix := fun w : World => tab_index (x / 4294967296 / 256) w y0 y1
  go_enter Tryz.func35, Tryz.ntmps35
  rw [tab_eq]
  generalize Lib.len8tab = T at hix ⊢
  go_wp2
  go_ret
  exact ⟨rfl, rfl⟩
set_option maxRecDepth 100000 in
set_option maxHeartbeats 1000000 in
theorem len_4 (x : Int) (w : World) (h1 : 4294967296 ≤ x) (h2 : x ≤ 1099511627775) : Calls Tryz.prog 35 #[.int .u64 x] w fun e w' => e = .returned (.int .i64 (32 + Lib.len8 (x / 4294967296))) ∧ w = w' := by
  have y0 : 0 ≤ x / 4294967296 := by omega
  have y1 : x / 4294967296 ≤ 255 := by omega
  have r := len8_range (x / 4294967296) (by omega) y1
  obtain ⟨r1, r2⟩ := r
  have a1 : 4294967296 ≤ x := by omega
  have a2 : x / 4294967296 < 65536 := by omega
  have a3 : x / 4294967296 < 256 := by omega
  have hix := fun w : World => tab_index (x / 4294967296) w y0 y1
  go_enter Tryz.func35, Tryz.ntmps35
  rw [tab_eq]
  generalize Lib.len8tab = T at hix ⊢
  go_wp2
  go_ret
  exact ⟨rfl, rfl⟩
set_option maxRecDepth 100000 in
set_option maxHeartbeats 1000000 in
theorem len_3 (x : Int) (w : World) (h1 : 16777216 ≤ x) (h2 : x ≤ 4294967295) : Calls Tryz.prog 35 #[.int .u64 x] w fun e w' => e = .returned (.int .i64 (24 + Lib.len8 (x / 65536 / 256))) ∧ w = w' := by
  have y0 : 0 ≤ x / 65536 / 256 := by omega
  have y1 : x / 65536 / 256 ≤ 255 := by omega
  have r := len8_range (x / 65536 / 256) (by omega) y1
  obtain ⟨r1, r2⟩ := r
  have a1 : x < 4294967296 := by omega
  have a2 : 65536 ≤ x := by omega
  have a3 : 256 ≤ x / 65536 := by omega
  have hix := fun w : World => tab_index (x / 65536 / 256) w y0 y1
  go_enter Tryz.func35, Tryz.ntmps35
  rw [tab_eq]
  generalize Lib.len8tab = T at hix ⊢
  go_wp2
  go_ret
  exact ⟨rfl, rfl⟩
set_option maxRecDepth 100000 in
set_option maxHeartbeats 1000000 in
theorem len_2 (x : Int) (w : World) (h1 : 65536 ≤ x) (h2 : x ≤ 16777215) : Calls Tryz.prog 35 #[.int .u64 x] w fun e w' => e = .returned (.int .i64 (16 + Lib.len8 (x / 65536))) ∧ w = w' := by
  have y0 : 0 ≤ x / 65536 := by omega
  have y1 : x / 65536 ≤ 255 := by omega
  have r := len8_range (x / 65536) (by omega) y1
  obtain ⟨r1, r2⟩ := r
  have a1 : x < 4294967296 := by omega
  have a2 : 65536 ≤ x := by omega
  have a3 : x / 65536 < 256 := by omega
  have hix := fun w : World => tab_index (x / 65536) w y0 y1
  go_enter Tryz.func35, Tryz.ntmps35
  rw [tab_eq]
  generalize Lib.len8tab = T at hix ⊢
  go_wp2
  go_ret
  exact ⟨rfl, rfl⟩
set_option maxRecDepth 100000 in
set_option maxHeartbeats 1000000 in
theorem len_1 (x : Int) (w : World) (h1 : 256 ≤ x) (h2 : x ≤ 65535) : Calls Tryz.prog 35 #[.int .u64 x] w fun e w' => e = .returned (.int .i64 (8 + Lib.len8 (x / 256))) ∧ w = w' := by
  have y0 : 0 ≤ x / 256 := by omega
  have y1 : x / 256 ≤ 255 := by omega
  have r := len8_range (x / 256) (by omega) y1
  obtain ⟨r1, r2⟩ := r
  have a1 : x < 4294967296 := by omega
  have a2 : x < 65536 := by omega
  have a3 : 256 ≤ x := by omega
  have hix := fun w : World => tab_index (x / 256) w y0 y1
  go_enter Tryz.func35, Tryz.ntmps35
  rw [tab_eq]
  generalize Lib.len8tab = T at hix ⊢
  go_wp2
  go_ret
  exact ⟨rfl, rfl⟩
set_option maxRecDepth 100000 in
set_option maxHeartbeats 1000000 in
theorem len_0 (x : Int) (w : World) (h1 : 1 ≤ x) (h2 : x ≤ 255) : Calls Tryz.prog 35 #[.int .u64 x] w fun e w' => e = .returned (.int .i64 (0 + Lib.len8 (x))) ∧ w = w' := by
  have y0 : 0 ≤ x := by omega
  have y1 : x ≤ 255 := by omega
  have r := len8_range (x) (by omega) y1
  obtain ⟨r1, r2⟩ := r
  have a1 : x < 4294967296 := by omega
  have a2 : x < 65536 := by omega
  have a3 : x < 256 := by omega
  have hix := fun w : World => tab_index (x) w y0 y1
  go_enter Tryz.func35, Tryz.ntmps35
  rw [tab_eq]
  generalize Lib.len8tab = T at hix ⊢
  go_wp2
  go_ret
  exact ⟨ret_int (by omega), rfl⟩
/-- Len64 of a number that is more than a byte: its bits fill 'width n' bytes. -/
theorem len_any (n : Nat) (w : World) (h1 : 248 ≤ n) (h2 : n < 18446744073709551616) : Calls Tryz.prog 35 #[.int .u64 (n : Int)] w fun e w' => ∃ m : Int, e = .returned (.int .i64 m) ∧ 0 ≤ m ∧ m ≤ 64 ∧ (m + 7) / 8 = (width n : Int) ∧ w = w' := by
  have key : ∀ (k : Nat) (y : Int), k ≤ 7 → 1 ≤ y → y ≤ 255 → width n = k + 1 → ∀ (e : Ending) (w' : World), e = .returned (.int .i64 (8 * (k : Int) + Lib.len8 y)) ∧ w = w' → ∃ m : Int, e = .returned (.int .i64 m) ∧ 0 ≤ m ∧ m ≤ 64 ∧ (m + 7) / 8 = (width n : Int) ∧ w = w' := by
    rintro k y hk y0 y1 hw e w' ⟨rfl, rfl⟩
    have r := len8_range y y0 y1
    exact ⟨_, rfl, by omega, by omega, by omega, rfl⟩
  unfold width at key
  by_cases c7 : 72057594037927936 ≤ n
  · exact (len_7 n w (by omega) (by omega)).mono fun e w' h => key 7 _ (by omega) (by omega) (by omega) (by (repeat' split) <;> omega) e w' h
  by_cases c6 : 281474976710656 ≤ n
  · exact (len_6 n w (by omega) (by omega)).mono fun e w' h => key 6 _ (by omega) (by omega) (by omega) (by (repeat' split) <;> omega) e w' h
  by_cases c5 : 1099511627776 ≤ n
  · exact (len_5 n w (by omega) (by omega)).mono fun e w' h => key 5 _ (by omega) (by omega) (by omega) (by (repeat' split) <;> omega) e w' h
  by_cases c4 : 4294967296 ≤ n
  · exact (len_4 n w (by omega) (by omega)).mono fun e w' h => key 4 _ (by omega) (by omega) (by omega) (by (repeat' split) <;> omega) e w' h
  by_cases c3 : 16777216 ≤ n
  · exact (len_3 n w (by omega) (by omega)).mono fun e w' h => key 3 _ (by omega) (by omega) (by omega) (by (repeat' split) <;> omega) e w' h
  by_cases c2 : 65536 ≤ n
  · exact (len_2 n w (by omega) (by omega)).mono fun e w' h => key 2 _ (by omega) (by omega) (by omega) (by (repeat' split) <;> omega) e w' h
  by_cases c1 : 256 ≤ n
  · exact (len_1 n w (by omega) (by omega)).mono fun e w' h => key 1 _ (by omega) (by omega) (by omega) (by (repeat' split) <;> omega) e w' h
  · exact (len_0 n w (by omega) (by omega)).mono fun e w' h => key 0 _ (by omega) (by omega) (by omega) (by (repeat' split) <;> omega) e w' h
end Go.Proofs.YtibapmjgpnldgaaGreatDoor
