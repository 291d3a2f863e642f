/-
  The Reader's calls: Number, Int, Text, Bad, Left, End, NewReader.
-/
import Derived.Test.YtibapmjgpnldgaaDoorFirst
import Derived.Test.YtibapmjgpnldgaaDoorRead
import Derived.Test.YtibapmjgpnldgaaDoorWBytes
namespace Go.Proofs.YtibapmjgpnldgaaDoor
set_option maxRecDepth 100000
open Go.RowKit
theorem size5 : ∀ w, (Go.sizeOf 5).run Tryd.prog w = .ok 1 w := fun _ => by kernel_rfl
set_option maxHeartbeats 400000 in
theorem spoil_any (p : Nat) (v : Value) (l : List UInt8) (bad : Bool) (w : World) (hR : IsR 122 w p v l bad) : Calls Tryd.prog 72 #[.pointer (some ⟨p, 0, none⟩)] w fun e w' => e = .returned (.tuple #[]) ∧ Rest 122 w p v [] true w' := by
  obtain ⟨hc0, hc1⟩ := cell_of_two hR.box
  obtain ⟨hf0, hf1⟩ := free_of_two hR.box
  go_enter Tryd.func72, Tryd.ntmps72
  go_wp2
  go_end0
  exact ⟨rfl, rest_bad hR⟩
set_option maxHeartbeats 400000 in
theorem rnum_nil (w : World) : Calls Tryd.prog 49 #[.pointer none] w fun e w' => e = .returned (.int .u64 0) ∧ w = w' := by
  go_enter Tryd.func49, Tryd.ntmps49
  go_wp2
  go_ret
  exact ⟨rfl, rfl⟩
set_option maxHeartbeats 400000 in
theorem rnum_any (p : Nat) (v : Value) (l : List UInt8) (bad : Bool) (w : World) (hR : IsR 122 w p v l bad) :
    Calls Tryd.prog 49 #[.pointer (some ⟨p, 0, none⟩)] w fun e w' => e = .returned (.int .u64 ((rnum l bad).1 : Int)) ∧ Rest 122 w p v (rnum l bad).2.1 (rnum l bad).2.2 w' := by
  obtain ⟨hc0, hc1⟩ := cell_of_two hR.box
  obtain ⟨hf0, hf1⟩ := free_of_two hR.box
  have hreads := hR.reads
  have hle := dec_le l
  by_cases hk : (dec l).2 = 0
  · have HR : Hid (rnum l bad = (0, [], true)) := by show _ = _; unfold rnum; rw [if_pos hk]
    have hk0 : (((dec l).2 : Int) == 0) = true := by simp [hk]
    have hfirst := first_any v l w hreads
    generalize (dec l).1 = N at hfirst
    generalize (dec l).2 = K at hfirst hk0
    clear hk hle
    go_enter Tryd.func49, Tryd.ntmps49
    go_wp2_with (first | (go_at_call 71; refine hfirst.mono ?_; rintro e w' ⟨rfl, rfl⟩) | (go_at_call 72; refine (spoil_any p v l bad _ hR).mono ?_; rintro e w' ⟨rfl, hL⟩))
    go_ret
    rw [HR.out]
    exact ⟨rfl, hL⟩
  · have HR : Hid (rnum l bad = ((dec l).1, l.drop (dec l).2, bad)) := by show _ = _; unfold rnum; rw [if_neg hk]
    have hk0 : (((dec l).2 : Int) == 0) = false := by simp [hk]
    have hfirst := first_any v l w hreads
    obtain ⟨a, cap, rfl, -, -, -, -⟩ := hreads
    obtain ⟨a1, c1, hsl, hr1, hin⟩ := slice_from (P := Tryd.prog) 45 5 Tryd.underlying45 size5 .i64 a cap (dec l).2 l w hR.reads hle
    have hb : bad = true → l.drop (dec l).2 = [] := fun h => by rw [hR.none h]; simp
    have hR1 := rest_on hR hr1 hin hb
    clear hR hr1 hin hb hle hk
    generalize (dec l).1 = N at hfirst HR
    generalize (dec l).2 = K at hfirst hk0 HR hsl hR1
    go_enter Tryd.func49, Tryd.ntmps49
    go_wp2_with (first | (go_at_call 71; refine hfirst.mono ?_; rintro e w' ⟨rfl, rfl⟩))
    go_ret
    rw [HR.out]
    exact ⟨rfl, hR1⟩
set_option maxHeartbeats 400000 in
theorem rint_nil (w : World) : Calls Tryd.prog 51 #[.pointer none] w fun e w' => e = .returned (.int .i64 0) ∧ w = w' := by
  go_enter Tryd.func51, Tryd.ntmps51
  go_wp2_with (first | (go_at_call 49; refine (rnum_nil _).mono ?_; rintro e w' ⟨rfl, rfl⟩) | (go_at_call 73; refine (unfold_any 0 _ (by omega)).mono ?_; rintro e w' ⟨rfl, rfl⟩))
  go_ret
  exact ⟨rfl, rfl⟩
set_option maxHeartbeats 400000 in
theorem rint_any (p : Nat) (v : Value) (l : List UInt8) (bad : Bool) (w : World) (hR : IsR 122 w p v l bad) :
    Calls Tryd.prog 51 #[.pointer (some ⟨p, 0, none⟩)] w fun e w' => e = .returned (.int .i64 (unfold (rnum l bad).1)) ∧ Rest 122 w p v (rnum l bad).2.1 (rnum l bad).2.2 w' := by
  have hlt := rnum_lt l bad
  go_enter Tryd.func51, Tryd.ntmps51
  go_wp2_with (first | (go_at_call 49; refine (rnum_any p v l bad _ hR).mono ?_; rintro e w' ⟨rfl, hL⟩) | (go_at_call 73; refine (unfold_any (rnum l bad).1 _ hlt).mono ?_; rintro e w' ⟨rfl, rfl⟩))
  go_ret
  exact ⟨rfl, hL⟩
set_option maxHeartbeats 400000 in
theorem end_nil (w : World) : Calls Tryd.prog 52 #[.pointer none] w fun e w' => e = .returned (.bool false) ∧ w = w' := by
  go_enter Tryd.func52, Tryd.ntmps52
  go_wp2
  go_ret
  exact ⟨rfl, rfl⟩
set_option maxHeartbeats 400000 in
theorem end_any (p : Nat) (v : Value) (l : List UInt8) (bad : Bool) (w : World) (hR : IsR 122 w p v l bad) : Calls Tryd.prog 52 #[.pointer (some ⟨p, 0, none⟩)] w fun e w' => e = .returned (.bool (!bad && l.isEmpty)) ∧ w = w' := by
  obtain ⟨hc0, hc1⟩ := cell_of_two hR.box
  obtain ⟨a, cap, rfl, -, -, -, -⟩ := hR.reads
  cases bad with
  | true =>
    go_enter Tryd.func52, Tryd.ntmps52
    go_wp2
    go_ret
    exact ⟨rfl, rfl⟩
  | false =>
    have he : l.isEmpty = ((l.length : Int) == 0) := by cases l <;> simp; omega
    rw [he]
    clear he
    generalize l.length = n at *
    go_enter Tryd.func52, Tryd.ntmps52
    go_wp2
    go_ret
    exact ⟨rfl, rfl⟩
end Go.Proofs.YtibapmjgpnldgaaDoor
