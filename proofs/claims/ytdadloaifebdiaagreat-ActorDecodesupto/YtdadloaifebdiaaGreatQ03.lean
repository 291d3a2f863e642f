import Derived.Lib.Tables
import Derived.Test.YtdadloaifebdiaaGreatQ01
import Derived.Test.YtdadloaifebdiaaGreatQ02
/-
  bits.Len64, as far as the codec leans on it: how many bytes its bits fill.
-/
namespace Go.Proofs.YtdadloaifebdiaaGreat
set_option maxRecDepth 100000
open Go.RowKit
abbrev tabA : List UInt8 := [0, 1, 2, 2, 3, 3, 3, 3, 4, 4, 4, 4, 4, 4, 4, 4, 5, 5, 5, 5, 5, 5, 5, 5, 5, 5, 5, 5, 5, 5, 5, 5, 6, 6, 6, 6, 6, 6, 6, 6, 6, 6, 6, 6, 6, 6, 6, 6, 6, 6, 6, 6, 6, 6, 6, 6, 6, 6, 6, 6, 6, 6, 6, 6]
abbrev tabB : List UInt8 := [7, 7, 7, 7, 7, 7, 7, 7, 7, 7, 7, 7, 7, 7, 7, 7, 7, 7, 7, 7, 7, 7, 7, 7, 7, 7, 7, 7, 7, 7, 7, 7, 7, 7, 7, 7, 7, 7, 7, 7, 7, 7, 7, 7, 7, 7, 7, 7, 7, 7, 7, 7, 7, 7, 7, 7, 7, 7, 7, 7, 7, 7, 7, 7]
abbrev tabC : List UInt8 := [8, 8, 8, 8, 8, 8, 8, 8, 8, 8, 8, 8, 8, 8, 8, 8, 8, 8, 8, 8, 8, 8, 8, 8, 8, 8, 8, 8, 8, 8, 8, 8, 8, 8, 8, 8, 8, 8, 8, 8, 8, 8, 8, 8, 8, 8, 8, 8, 8, 8, 8, 8, 8, 8, 8, 8, 8, 8, 8, 8, 8, 8, 8, 8]
theorem tab_eq : (ByteArray.mk (List.toArray (List.append (List.append tabA tabB) (List.append tabC tabC)))) = Lib.len8tab := by decide +kernel
theorem tab_index (y : Int) (w : World) (h0 : 0 ≤ y) (h1 : y ≤ 255) : (Instr.index 9 (.string Lib.len8tab) (.int .u8 y)).run Tryz.prog w = .ok (.int .u8 (Lib.len8 y)) w := Lib.run_index_len8tab w 9 .u8 y Tryz.underlying9 h0 h1
set_option maxRecDepth 100000 in
set_option maxHeartbeats 1000000 in
theorem len_7 (x : Int) (w : World) (h1 : 72057594037927936 ≤ x) (h2 : x ≤ 18446744073709551615) : Calls Tryz.prog 87 #[.int .u64 x] w fun e w' => e = .returned (.int .i64 (56 + Lib.len8 (x / 4294967296 / 65536 / 256))) ∧ w = w' := by
  have y0 : 0 ≤ x / 4294967296 / 65536 / 256 := by omega
  have y1 : x / 4294967296 / 65536 / 256 ≤ 255 := by omega
  have r := len8_range (x / 4294967296 / 65536 / 256) (by omega) y1
  obtain ⟨r1, r2⟩ := r
  have a1 : 4294967296 ≤ x := by omega
  have a2 : 65536 ≤ x / 4294967296 := by omega
  have a3 : 256 ≤ x / 4294967296 / 65536 := by omega
  have hix := fun w : World => tab_index (x / 4294967296 / 65536 / 256) w y0 y1
  go_enter Tryz.func87, Tryz.ntmps87
  rw [tab_eq]
  generalize Lib.len8tab = T at hix ⊢
  go_wp2
  go_ret
  exact ⟨rfl, rfl⟩
set_option maxRecDepth 100000 in
set_option maxHeartbeats 1000000 in
theorem len_6 (x : Int) (w : World) (h1 : 281474976710656 ≤ x) (h2 : x ≤ 72057594037927935) : Calls Tryz.prog 87 #[.int .u64 x] w fun e w' => e = .returned (.int .i64 (48 + Lib.len8 (x / 4294967296 / 65536))) ∧ w = w' := by
  have y0 : 0 ≤ x / 4294967296 / 65536 := by omega
  have y1 : x / 4294967296 / 65536 ≤ 255 := by omega
  have r := len8_range (x / 4294967296 / 65536) (by omega) y1
  obtain ⟨r1, r2⟩ := r
  have a1 : 4294967296 ≤ x := by omega
  have a2 : 65536 ≤ x / 4294967296 := by omega
  have a3 : x / 4294967296 / 65536 < 256 := by omega
  have hix := fun w : World => tab_index (x / 4294967296 / 65536) w y0 y1
  go_enter Tryz.func87, Tryz.ntmps87
  rw [tab_eq]
  generalize Lib.len8tab = T at hix ⊢
  go_wp2
  go_ret
  exact ⟨rfl, rfl⟩
set_option maxRecDepth 100000 in
set_option maxHeartbeats 1000000 in
theorem len_5 (x : Int) (w : World) (h1 : 1099511627776 ≤ x) (h2 : x ≤ 281474976710655) : Calls Tryz.prog 87 #[.int .u64 x] w fun e w' => e = .returned (.int .i64 (40 + Lib.len8 (x / 4294967296 / 256))) ∧ w = w' := by
  have y0 : 0 ≤ x / 4294967296 / 256 := by omega
  have y1 : x / 4294967296 / 256 ≤ 255 := by omega
  have r := len8_range (x / 4294967296 / 256) (by omega) y1
  obtain ⟨r1, r2⟩ := r
  have a1 : 4294967296 ≤ x := by omega
  have a2 : x / 4294967296 < 65536 := by omega
  have a3 : 256 ≤ x / 4294967296 := by omega
  have hix := fun w : World => tab_index (x / 4294967296 / 256) w y0 y1
  go_enter Tryz.func87, Tryz.ntmps87
  rw [tab_eq]
  generalize Lib.len8tab = T at hix ⊢
  go_wp2
  go_ret
  exact ⟨rfl, rfl⟩
set_option maxRecDepth 100000 in
set_option maxHeartbeats 1000000 in
theorem len_4 (x : Int) (w : World) (h1 : 4294967296 ≤ x) (h2 : x ≤ 1099511627775) : Calls Tryz.prog 87 #[.int .u64 x] w fun e w' => e = .returned (.int .i64 (32 + Lib.len8 (x / 4294967296))) ∧ w = w' := by
  have y0 : 0 ≤ x / 4294967296 := by omega
  have y1 : x / 4294967296 ≤ 255 := by omega
  have r := len8_range (x / 4294967296) (by omega) y1
  obtain ⟨r1, r2⟩ := r
  have a1 : 4294967296 ≤ x := by omega
  have a2 : x / 4294967296 < 65536 := by omega
  have a3 : x / 4294967296 < 256 := by omega
  have hix := fun w : World => tab_index (x / 4294967296) w y0 y1
  go_enter Tryz.func87, Tryz.ntmps87
  rw [tab_eq]
  generalize Lib.len8tab = T at hix ⊢
  go_wp2
  go_ret
  exact ⟨rfl, rfl⟩
set_option maxRecDepth 100000 in
set_option maxHeartbeats 1000000 in
theorem len_3 (x : Int) (w : World) (h1 : 16777216 ≤ x) (h2 : x ≤ 4294967295) : Calls Tryz.prog 87 #[.int .u64 x] w fun e w' => e = .returned (.int .i64 (24 + Lib.len8 (x / 65536 / 256))) ∧ w = w' := by
  have y0 : 0 ≤ x / 65536 / 256 := by omega
  have y1 : x / 65536 / 256 ≤ 255 := by omega
  have r := len8_range (x / 65536 / 256) (by omega) y1
  obtain ⟨r1, r2⟩ := r
  have a1 : x < 4294967296 := by omega
  have a2 : 65536 ≤ x := by omega
  have a3 : 256 ≤ x / 65536 := by omega
  have hix := fun w : World => tab_index (x / 65536 / 256) w y0 y1
  go_enter Tryz.func87, Tryz.ntmps87
  rw [tab_eq]
  generalize Lib.len8tab = T at hix ⊢
  go_wp2
  go_ret
  exact ⟨rfl, rfl⟩
set_option maxRecDepth 100000 in
set_option maxHeartbeats 1000000 in
theorem len_2 (x : Int) (w : World) (h1 : 65536 ≤ x) (h2 : x ≤ 16777215) : Calls Tryz.prog 87 #[.int .u64 x] w fun e w' => e = .returned (.int .i64 (16 + Lib.len8 (x / 65536))) ∧ w = w' := by
  have y0 : 0 ≤ x / 65536 := by omega
  have y1 : x / 65536 ≤ 255 := by omega
  have r := len8_range (x / 65536) (by omega) y1
  obtain ⟨r1, r2⟩ := r
  have a1 : x < 4294967296 := by omega
  have a2 : 65536 ≤ x := by omega
  have a3 : x / 65536 < 256 := by omega
  have hix := fun w : World => tab_index (x / 65536) w y0 y1
  go_enter Tryz.func87, Tryz.ntmps87
  rw [tab_eq]
  generalize Lib.len8tab = T at hix ⊢
  go_wp2
  go_ret
  exact ⟨rfl, rfl⟩
set_option maxRecDepth 100000 in
set_option maxHeartbeats 1000000 in
theorem len_1 (x : Int) (w : World) (h1 : 256 ≤ x) (h2 : x ≤ 65535) : Calls Tryz.prog 87 #[.int .u64 x] w fun e w' => e = .returned (.int .i64 (8 + Lib.len8 (x / 256))) ∧ w = w' := by
  have y0 : 0 ≤ x / 256 := by omega
  have y1 : x / 256 ≤ 255 := by omega
  have r := len8_range (x / 256) (by omega) y1
  obtain ⟨r1, r2⟩ := r
  have a1 : x < 4294967296 := by omega
  have a2 : x < 65536 := by omega
  have a3 : 256 ≤ x := by omega
  have hix := fun w : World => tab_index (x / 256) w y0 y1
  go_enter Tryz.func87, Tryz.ntmps87
  rw [tab_eq]
  generalize Lib.len8tab = T at hix ⊢
  go_wp2
  go_ret
  exact ⟨rfl, rfl⟩
set_option maxRecDepth 100000 in
set_option maxHeartbeats 1000000 in
theorem len_0 (x : Int) (w : World) (h1 : 1 ≤ x) (h2 : x ≤ 255) : Calls Tryz.prog 87 #[.int .u64 x] w fun e w' => e = .returned (.int .i64 (0 + Lib.len8 (x))) ∧ w = w' := by
  have y0 : 0 ≤ x := by omega
  have y1 : x ≤ 255 := by omega
  have r := len8_range (x) (by omega) y1
  obtain ⟨r1, r2⟩ := r
  have a1 : x < 4294967296 := by omega
  have a2 : x < 65536 := by omega
  have a3 : x < 256 := by omega
  have hix := fun w : World => tab_index (x) w y0 y1
  go_enter Tryz.func87, Tryz.ntmps87
  rw [tab_eq]
  generalize Lib.len8tab = T at hix ⊢
  go_wp2
  go_ret
  exact ⟨ret_int (by omega), rfl⟩
/-- Len64 of a number that is more than a byte: its bits fill 'width n' bytes. -/
theorem len_any (n : Nat) (w : World) (h1 : 248 ≤ n) (h2 : n < 18446744073709551616) : Calls Tryz.prog 87 #[.int .u64 (n : Int)] w fun e w' => ∃ m : Int, e = .returned (.int .i64 m) ∧ 0 ≤ m ∧ m ≤ 64 ∧ (m + 7) / 8 = (width n : Int) ∧ w = w' := by
  have key : ∀ (k : Nat) (y : Int), k ≤ 7 → 1 ≤ y → y ≤ 255 → width n = k + 1 → ∀ (e : Ending) (w' : World), e = .returned (.int .i64 (8 * (k : Int) + Lib.len8 y)) ∧ w = w' → ∃ m : Int, e = .returned (.int .i64 m) ∧ 0 ≤ m ∧ m ≤ 64 ∧ (m + 7) / 8 = (width n : Int) ∧ w = w' := by
    rintro k y hk y0 y1 hw e w' ⟨rfl, rfl⟩
    have r := len8_range y y0 y1
    exact ⟨_, rfl, by omega, by omega, by omega, rfl⟩
  unfold width at key
  by_cases c7 : 72057594037927936 ≤ n
  · exact (len_7 n w (by omega) (by omega)).mono fun e w' h => key 7 _ (by omega) (by omega) (by omega) (by (repeat' split) <;> omega) e w' h
  by_cases c6 : 281474976710656 ≤ n
  · exact (len_6 n w (by omega) (by omega)).mono fun e w' h => key 6 _ (by omega) (by omega) (by omega) (by (repeat' split) <;> omega) e w' h
  by_cases c5 : 1099511627776 ≤ n
  · exact (len_5 n w (by omega) (by omega)).mono fun e w' h => key 5 _ (by omega) (by omega) (by omega) (by (repeat' split) <;> omega) e w' h
  by_cases c4 : 4294967296 ≤ n
  · exact (len_4 n w (by omega) (by omega)).mono fun e w' h => key 4 _ (by omega) (by omega) (by omega) (by (repeat' split) <;> omega) e w' h
  by_cases c3 : 16777216 ≤ n
  · exact (len_3 n w (by omega) (by omega)).mono fun e w' h => key 3 _ (by omega) (by omega) (by omega) (by (repeat' split) <;> omega) e w' h
  by_cases c2 : 65536 ≤ n
  · exact (len_2 n w (by omega) (by omega)).mono fun e w' h => key 2 _ (by omega) (by omega) (by omega) (by (repeat' split) <;> omega) e w' h
  by_cases c1 : 256 ≤ n
  · exact (len_1 n w (by omega) (by omega)).mono fun e w' h => key 1 _ (by omega) (by omega) (by omega) (by (repeat' split) <;> omega) e w' h
  · exact (len_0 n w (by omega) (by omega)).mono fun e w' h => key 0 _ (by omega) (by omega) (by omega) (by (repeat' split) <;> omega) e w' h
end Go.Proofs.YtdadloaifebdiaaGreat
/-
  The Reader's calls: Number, Int, Text, Bad, Left, End, NewReader.
-/
namespace Go.Proofs.YtdadloaifebdiaaGreat
set_option maxRecDepth 100000
open Go.RowKit
theorem size5 : ∀ w, (Go.sizeOf 5).run Tryz.prog w = .ok 1 w := fun _ => by kernel_rfl
set_option maxHeartbeats 400000 in
theorem spoil_any (p : Nat) (v : Value) (l : List UInt8) (bad : Bool) (w : World) (hR : IsR 122 w p v l bad) : Calls Tryz.prog 71 #[.pointer (some ⟨p, 0, none⟩)] w fun e w' => e = .returned (.tuple #[]) ∧ Rest 122 w p v [] true w' := by
  obtain ⟨hc0, hc1⟩ := cell_of_two hR.box
  obtain ⟨hf0, hf1⟩ := free_of_two hR.box
  go_enter Tryz.func71, Tryz.ntmps71
  go_wp2
  go_end0
  exact ⟨rfl, rest_bad hR⟩
set_option maxHeartbeats 400000 in
theorem rnum_nil (w : World) : Calls Tryz.prog 17 #[.pointer none] w fun e w' => e = .returned (.int .u64 0) ∧ w = w' := by
  go_enter Tryz.func17, Tryz.ntmps17
  go_wp2
  go_ret
  exact ⟨rfl, rfl⟩
set_option maxHeartbeats 400000 in
theorem rnum_any (p : Nat) (v : Value) (l : List UInt8) (bad : Bool) (w : World) (hR : IsR 122 w p v l bad) :
    Calls Tryz.prog 17 #[.pointer (some ⟨p, 0, none⟩)] w fun e w' => e = .returned (.int .u64 ((rnum l bad).1 : Int)) ∧ Rest 122 w p v (rnum l bad).2.1 (rnum l bad).2.2 w' := by
  obtain ⟨hc0, hc1⟩ := cell_of_two hR.box
  obtain ⟨hf0, hf1⟩ := free_of_two hR.box
  have hreads := hR.reads
  have hle := dec_le l
  by_cases hk : (dec l).2 = 0
  · have HR : Hid (rnum l bad = (0, [], true)) := by show _ = _; unfold rnum; rw [if_pos hk]
    have hk0 : (((dec l).2 : Int) == 0) = true := by simp [hk]
    have hfirst := first_any v l w hreads
    generalize (dec l).1 = N at hfirst
    generalize (dec l).2 = K at hfirst hk0
    clear hk hle
    go_enter Tryz.func17, Tryz.ntmps17
    go_wp2_with (first | (go_at_call 70; refine hfirst.mono ?_; rintro e w' ⟨rfl, rfl⟩) | (go_at_call 71; refine (spoil_any p v l bad _ hR).mono ?_; rintro e w' ⟨rfl, hL⟩))
    go_ret
    rw [HR.out]
    exact ⟨rfl, hL⟩
  · have HR : Hid (rnum l bad = ((dec l).1, l.drop (dec l).2, bad)) := by show _ = _; unfold rnum; rw [if_neg hk]
    have hk0 : (((dec l).2 : Int) == 0) = false := by simp [hk]
    have hfirst := first_any v l w hreads
    obtain ⟨a, cap, rfl, -, -, -, -⟩ := hreads
    obtain ⟨a1, c1, hsl, hr1, hin⟩ := slice_from (P := Tryz.prog) 22 5 Tryz.underlying22 size5 .i64 a cap (dec l).2 l w hR.reads hle
    have hb : bad = true → l.drop (dec l).2 = [] := fun h => by rw [hR.none h]; simp
    have hR1 := rest_on hR hr1 hin hb
    clear hR hr1 hin hb hle hk
    generalize (dec l).1 = N at hfirst HR
    generalize (dec l).2 = K at hfirst hk0 HR hsl hR1
    go_enter Tryz.func17, Tryz.ntmps17
    go_wp2_with (first | (go_at_call 70; refine hfirst.mono ?_; rintro e w' ⟨rfl, rfl⟩))
    go_ret
    rw [HR.out]
    exact ⟨rfl, hR1⟩
set_option maxHeartbeats 400000 in
theorem rint_nil (w : World) : Calls Tryz.prog 112 #[.pointer none] w fun e w' => e = .returned (.int .i64 0) ∧ w = w' := by
  go_enter Tryz.func112, Tryz.ntmps112
  go_wp2_with (first | (go_at_call 17; refine (rnum_nil _).mono ?_; rintro e w' ⟨rfl, rfl⟩) | (go_at_call 124; refine (unfold_any 0 _ (by omega)).mono ?_; rintro e w' ⟨rfl, rfl⟩))
  go_ret
  exact ⟨rfl, rfl⟩
set_option maxHeartbeats 400000 in
theorem rint_any (p : Nat) (v : Value) (l : List UInt8) (bad : Bool) (w : World) (hR : IsR 122 w p v l bad) :
    Calls Tryz.prog 112 #[.pointer (some ⟨p, 0, none⟩)] w fun e w' => e = .returned (.int .i64 (unfold (rnum l bad).1)) ∧ Rest 122 w p v (rnum l bad).2.1 (rnum l bad).2.2 w' := by
  have hlt := rnum_lt l bad
  go_enter Tryz.func112, Tryz.ntmps112
  go_wp2_with (first | (go_at_call 17; refine (rnum_any p v l bad _ hR).mono ?_; rintro e w' ⟨rfl, hL⟩) | (go_at_call 124; refine (unfold_any (rnum l bad).1 _ hlt).mono ?_; rintro e w' ⟨rfl, rfl⟩))
  go_ret
  exact ⟨rfl, hL⟩
set_option maxHeartbeats 400000 in
theorem bad_nil (w : World) : Calls Tryz.prog 127 #[.pointer none] w fun e w' => e = .returned (.bool false) ∧ w = w' := by
  go_enter Tryz.func127, Tryz.ntmps127
  go_wp2
  go_ret
  exact ⟨rfl, rfl⟩
set_option maxHeartbeats 400000 in
theorem bad_any (p : Nat) (v : Value) (l : List UInt8) (bad : Bool) (w : World) (hR : IsR 122 w p v l bad) : Calls Tryz.prog 127 #[.pointer (some ⟨p, 0, none⟩)] w fun e w' => e = .returned (.bool bad) ∧ w = w' := by
  obtain ⟨hc0, hc1⟩ := cell_of_two hR.box
  go_enter Tryz.func127, Tryz.ntmps127
  go_wp2
  go_ret
  exact ⟨rfl, rfl⟩
set_option maxHeartbeats 400000 in
theorem end_nil (w : World) : Calls Tryz.prog 19 #[.pointer none] w fun e w' => e = .returned (.bool false) ∧ w = w' := by
  go_enter Tryz.func19, Tryz.ntmps19
  go_wp2
  go_ret
  exact ⟨rfl, rfl⟩
set_option maxHeartbeats 400000 in
theorem end_any (p : Nat) (v : Value) (l : List UInt8) (bad : Bool) (w : World) (hR : IsR 122 w p v l bad) : Calls Tryz.prog 19 #[.pointer (some ⟨p, 0, none⟩)] w fun e w' => e = .returned (.bool (!bad && l.isEmpty)) ∧ w = w' := by
  obtain ⟨hc0, hc1⟩ := cell_of_two hR.box
  obtain ⟨a, cap, rfl, -, -, -, -⟩ := hR.reads
  cases bad with
  | true =>
    go_enter Tryz.func19, Tryz.ntmps19
    go_wp2
    go_ret
    exact ⟨rfl, rfl⟩
  | false =>
    have he : l.isEmpty = ((l.length : Int) == 0) := by cases l <;> simp; omega
    rw [he]
    clear he
    generalize l.length = n at *
    go_enter Tryz.func19, Tryz.ntmps19
    go_wp2
    go_ret
    exact ⟨rfl, rfl⟩
end Go.Proofs.YtdadloaifebdiaaGreat
/-
  Reader.Text and NewReader.
-/
namespace Go.Proofs.YtdadloaifebdiaaGreat
set_option maxRecDepth 100000
open Go.RowKit
set_option maxHeartbeats 400000 in
theorem rtext_nil (w : World) : Calls Tryz.prog 73 #[.pointer none] w fun e w' => e = .returned (.string ⟨#[]⟩) ∧ w = w' := by
  go_enter Tryz.func73, Tryz.ntmps73
  go_wp2
  go_ret
  exact ⟨rfl, rfl⟩
/-- The facts that the walk of Reader.Text wants of a Reader. -/
theorem isR_form {t : TypeId} {w : World} {p : Nat} {v : Value} {l : List UInt8} {bad : Bool} (hR : IsR t w p v l bad) : ∃ a cap, v = .slice a l.length cap ∧ l.length ≤ cap ∧ cap ≤ 9223372036854775807 := by
  obtain ⟨a, cap, rfl, h2, h3, -, -⟩ := hR.reads
  exact ⟨a, cap, rfl, h2, h3⟩
set_option maxHeartbeats 1000000 in
theorem rtext_any (p : Nat) (v : Value) (l : List UInt8) (bad : Bool) (w : World) (hR : IsR 122 w p v l bad) :
    Calls Tryz.prog 73 #[.pointer (some ⟨p, 0, none⟩)] w fun e w' => e = .returned (.string ⟨(rtext l bad).1.toArray⟩) ∧ Rest 122 w p v (rtext l bad).2.1 (rtext l bad).2.2 w' := by
  have hnum := rnum_any p v l bad w hR
  have hlt := rnum_lt l bad
  have HT : Hid (rtext l bad = if (rnum l bad).2.1.length < (rnum l bad).1 then ([], [], true) else ((rnum l bad).2.1.take (rnum l bad).1, (rnum l bad).2.1.drop (rnum l bad).1, (rnum l bad).2.2)) := rfl
  generalize rtext l bad = T at HT ⊢
  obtain ⟨t1, t2, t3⟩ := T
  generalize (rnum l bad).1 = N at hnum hlt HT
  generalize (rnum l bad).2.1 = l1 at hnum HT
  generalize (rnum l bad).2.2 = b1 at hnum HT
  by_cases hs : l1.length < N
  · have HT1 : Hid ((t1, t2, t3) = (([] : List UInt8), ([] : List UInt8), true)) := by have h := HT.out; rw [if_pos hs] at h; exact h
    clear HT
    go_enter Tryz.func73, Tryz.ntmps73
    go_wp2_with (first | (go_at_call 17; refine hnum.mono ?_; rintro e w1 ⟨rfl, v1, hR1, hk1, hi1⟩; obtain ⟨hc0, hc1⟩ := cell_of_two hR1.box; obtain ⟨a1, cap1, hv1, hl1, hl2⟩ := isR_form hR1; rw [hv1] at hc0) | (go_at_call 71; refine (spoil_any p v1 l1 b1 _ hR1).mono ?_; rintro e w2 ⟨rfl, hL⟩))
    go_ret
    have h := HT1.out
    simp only [Prod.mk.injEq] at h
    obtain ⟨rfl, rfl, rfl⟩ := h
    exact ⟨rfl, Rest.trans hk1 hi1 hL⟩
  · have HT1 : Hid ((t1, t2, t3) = (l1.take N, l1.drop N, b1)) := by have h := HT.out; rw [if_neg hs] at h; exact h
    clear HT
    go_enter Tryz.func73, Tryz.ntmps73
    go_wp2_with fail
    refine hnum.mono ?_
    rintro e w1 ⟨rfl, v1, hR1, hk1, hi1⟩
    obtain ⟨hc0, hc1⟩ := cell_of_two hR1.box
    obtain ⟨hf0, hf1⟩ := free_of_two hR1.box
    obtain ⟨a1, cap1, rfl, hl1, hl2⟩ := isR_form hR1
    obtain ⟨a2, c2, hto, hr2⟩ := slice_to (P := Tryz.prog) 22 5 Tryz.underlying22 size5 .u64 a1 cap1 N l1 w1 hR1.reads (by omega)
    obtain ⟨a3, c3, hfrom, hr3, hin⟩ := slice_from (P := Tryz.prog) 22 5 Tryz.underlying22 size5 .u64 a1 cap1 N l1 w1 hR1.reads (by omega)
    have hstr := string_of (P := Tryz.prog) 22 5 Tryz.underlying22 9 Tryz.underlying5 Tryz.underlying9 _ _ w1 hr2
    have hL := rest_on hR1 hr3 hin (fun h => by rw [hR1.none h]; simp)
    clear hr2 hr3 hin hnum
    go_wp2
    go_ret
    have h := HT1.out
    simp only [Prod.mk.injEq] at h
    obtain ⟨rfl, rfl, rfl⟩ := h
    exact ⟨rfl, Rest.trans hk1 hi1 hL⟩
set_option maxHeartbeats 400000 in
theorem newr_any (v : Value) (l : List UInt8) (w : World) (h : Reads w v l) (hl : l.length ≤ 140737488355328) :
    Calls Tryz.prog 16 #[v] w fun e w' => ∃ p v', e = .returned (.pointer (some ⟨p, 0, none⟩)) ∧ IsR 122 w' p v' l false ∧ Kept [] w w' ∧ Fresh w v' ∧ w.heap.size ≤ p := by
  go_enter Tryz.func16, Tryz.ntmps16
  go_wp2_with (go_at_call 69; refine (clone_any v l _ h hl).mono ?_; rintro e w1 ⟨v1, rfl, hown, hk, hf⟩; obtain ⟨a1, c1, hv1⟩ := hown.form; rw [hv1])
  go_ret
  subst hv1
  have hne : (Value.slice a1 l.length c1).ownBlock ≠ some w1.heap.size := fun h => by have := hown.lt h; omega
  exact ⟨w1.heap.size, _, rfl, ⟨heap_alloc_new w1 _, hown.reads.kept ((Kept.refl [] w1).alloc _) (by simp), hne, by simp⟩, hk.alloc _, hf, hk.size⟩
end Go.Proofs.YtdadloaifebdiaaGreat
