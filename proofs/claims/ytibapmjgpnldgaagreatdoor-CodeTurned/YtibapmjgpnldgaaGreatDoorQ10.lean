import Derived.Test.YtibapmjgpnldgaaGreatDoorQ07
import Derived.Test.YtibapmjgpnldgaaGreatDoorQ09
/-
  The document's own Reader, as the statements have it.
-/
namespace Go.Proofs.YtibapmjgpnldgaaGreatDoor
set_option maxRecDepth 100000
open Go.RowKit
set_option linter.unusedVariables false
set_option maxHeartbeats 400000 in
theorem fail_any (p : Nat) (v : Value) (l : List UInt8) (bad : Bool) (w : World) (hR : IsR 105 w p v l bad) : Calls Tryz.prog 68 #[.pointer (some ⟨p, 0, none⟩)] w fun e w' => e = .returned (.tuple #[]) ∧ Rest 105 w p v [] true w' := by
  obtain ⟨hc0, hc1⟩ := cell_of_two hR.box
  obtain ⟨hf0, hf1⟩ := free_of_two hR.box
  go_enter Tryz.func68, Tryz.ntmps68
  go_wp2
  go_end0
  exact ⟨rfl, rest_bad hR⟩
theorem rnum_bad (l : List UInt8) (bad : Bool) (h : (dec l).2 = 0) : rnum l bad = (0, [], true) := by unfold rnum; rw [if_pos h]
theorem rnum_on (l : List UInt8) (bad : Bool) (n k : Nat) (h : dec l = (n, k)) (hk : k ≠ 0) : rnum l bad = (n, l.drop k, bad) := by unfold rnum; rw [h, if_neg hk]
set_option maxHeartbeats 400000 in
theorem refr_nil (p : Nat) (v : Value) (bad : Bool) (w : World) (hR : IsR 105 w p v [] bad) :
    Calls Tryz.prog 50 #[.pointer (some ⟨p, 0, none⟩)] w fun e w' => e = .returned (.int .u64 0) ∧ Rest 105 w p v [] true w' := by
  have hfail := fail_any p v [] bad w hR
  obtain ⟨hc0, hc1⟩ := cell_of_two hR.box
  obtain ⟨a, cap, rfl, h2, h3⟩ := isR_form hR
  simp only [List.length_nil] at hc0 hfail ⊢
  clear hR
  go_enter Tryz.func50, Tryz.ntmps50
  go_wp2_with (go_at_call 68; refine hfail.mono ?_; rintro e w' ⟨rfl, hL⟩)
  go_ret
  exact ⟨rfl, hL⟩
set_option maxRecDepth 100000 in
set_option maxHeartbeats 400000 in
theorem refr_small (p b o n cap x : Nat) (a1 : Option Addr) (n1 c1 : Nat) (Q : World → Prop) (w : World) (hp : w.cell? ⟨p, 0, none⟩ = some (.slice (some ⟨b, o, none⟩) (n + 1) cap)) (hf : w.frozen? ⟨p, 0, none⟩ = false) (hm : cap ≤ 9223372036854775807) (hn : n + 1 ≤ cap) (hx : x ≤ 247) (hc : w.cell? ⟨b, o, none⟩ = some (.int .u8 (x : Int)))
    (hsl : ∀ W, (Instr.slice 35 (.slice (some ⟨b, o, none⟩) (n + 1) cap) (some (.int .i64 1)) none none).run Tryz.prog W = .ok (.slice a1 n1 c1) W) (hQ : Q (w.setCell ⟨p, 0, none⟩ (.slice a1 n1 c1))) :
    Calls Tryz.prog 50 #[.pointer (some ⟨p, 0, none⟩)] w fun e w' => e = .returned (.int .u64 (x : Int)) ∧ Q w' := by
  have h0 : (((n + 1 : Nat) : Int) == 0) = false := by simp; omega
  have HQ : Hid (Q (w.setCell ⟨p, 0, none⟩ (.slice a1 n1 c1))) := hQ
  clear hQ
  go_enter Tryz.func50, Tryz.ntmps50
  go_wp2
  go_ret
  exact ⟨rfl, HQ.out⟩
set_option maxRecDepth 100000 in
set_option maxHeartbeats 400000 in
theorem refr_short (p b o n cap x : Nat) (Q : World → Prop) (w : World) (hp : w.cell? ⟨p, 0, none⟩ = some (.slice (some ⟨b, o, none⟩) (n + 1) cap)) (hm : cap ≤ 9223372036854775807) (hn : n + 1 ≤ cap) (hx : 247 < x) (hx2 : x < 256) (hs : n < x - 247) (hc : w.cell? ⟨b, o, none⟩ = some (.int .u8 (x : Int)))
    (hfail : Calls Tryz.prog 68 #[.pointer (some ⟨p, 0, none⟩)] w fun e w' => e = .returned (.tuple #[]) ∧ Q w') :
    Calls Tryz.prog 50 #[.pointer (some ⟨p, 0, none⟩)] w fun e w' => e = .returned (.int .u64 0) ∧ Q w' := by
  have h0 : (((n + 1 : Nat) : Int) == 0) = false := by simp; omega
  have h1 : ((n + 1 : Nat) : Int) < 1 + ((x : Int) - 247) := by omega
  go_enter Tryz.func50, Tryz.ntmps50
  go_wp2_with (go_at_call 68; refine hfail.mono ?_; rintro e w' ⟨rfl, hL⟩)
  go_ret
  exact ⟨rfl, hL⟩
set_option maxRecDepth 100000 in
set_option maxHeartbeats 400000 in
theorem refr_zero (p b o n cap x : Nat) (Q : World → Prop) (w : World) (hp : w.cell? ⟨p, 0, none⟩ = some (.slice (some ⟨b, o, none⟩) (n + 2) cap)) (hm : cap ≤ 9223372036854775807) (hn : n + 2 ≤ cap) (hx : 247 < x) (hx2 : x < 256) (hs : x - 247 ≤ n + 1) (hc : w.cell? ⟨b, o, none⟩ = some (.int .u8 (x : Int))) (hc1 : w.cell? ⟨b, o + 1, none⟩ = some (.int .u8 0))
    (hfail : Calls Tryz.prog 68 #[.pointer (some ⟨p, 0, none⟩)] w fun e w' => e = .returned (.tuple #[]) ∧ Q w') :
    Calls Tryz.prog 50 #[.pointer (some ⟨p, 0, none⟩)] w fun e w' => e = .returned (.int .u64 0) ∧ Q w' := by
  have h0 : (((n + 2 : Nat) : Int) == 0) = false := by simp; omega
  have h1 : ¬ ((n + 2 : Nat) : Int) < 1 + ((x : Int) - 247) := by omega
  go_enter Tryz.func50, Tryz.ntmps50
  go_wp2_with (go_at_call 68; refine hfail.mono ?_; rintro e w' ⟨rfl, hL⟩)
  go_ret
  exact ⟨rfl, hL⟩
set_option maxRecDepth 100000 in
set_option maxHeartbeats 2000000 in
theorem refr_loop (p b o n cap x y : Nat) (t : List UInt8) (a1 : Option Addr) (n1 c1 : Nat) (Q1 Q2 : World → Prop) (w : World) (hp : w.cell? ⟨p, 0, none⟩ = some (.slice (some ⟨b, o, none⟩) (n + 2) cap)) (hf : w.frozen? ⟨p, 0, none⟩ = false) (hm : cap ≤ 9223372036854775807) (hn : n + 2 ≤ cap) (hx : 247 < x) (hx2 : x < 256) (hs : x - 247 ≤ n + 1) (hc : w.cell? ⟨b, o, none⟩ = some (.int .u8 (x : Int))) (hc1 : w.cell? ⟨b, o + 1, none⟩ = some (.int .u8 (y : Int))) (hy : 1 ≤ y)
    (ht : t.length = x - 247) (hct : ∀ j u, t[j]? = some u → w.cell? ⟨b, o + (j + 1), none⟩ = some (.int .u8 (u.toNat : Int)))
    (hfail : Calls Tryz.prog 68 #[.pointer (some ⟨p, 0, none⟩)] w fun e w' => e = .returned (.tuple #[]) ∧ Q1 w')
    (hsl : ∀ W, (Instr.slice 35 (.slice (some ⟨b, o, none⟩) (n + 2) cap) (some (.int .i64 (1 + ((x : Int) - 247)))) none none).run Tryz.prog W = .ok (.slice a1 n1 c1) W) (hQ : Q2 (w.setCell ⟨p, 0, none⟩ (.slice a1 n1 c1))) :
    Calls Tryz.prog 50 #[.pointer (some ⟨p, 0, none⟩)] w fun e w' => (worth t ≤ 247 ∧ e = .returned (.int .u64 0) ∧ Q1 w') ∨ (247 < worth t ∧ e = .returned (.int .u64 ((worth t : Nat) : Int)) ∧ Q2 w') := by
  have h0 : (((n + 2 : Nat) : Int) == 0) = false := by simp; omega
  have h1 : ¬ ((n + 2 : Nat) : Int) < 1 + ((x : Int) - 247) := by omega
  have h2 : ((y : Int) == 0) = false := by simp; omega
  have HT : Hid (t.length = x - 247) := ht
  have HQ : Hid (Q2 (w.setCell ⟨p, 0, none⟩ (.slice a1 n1 c1))) := hQ
  clear ht hQ
  go_enter Tryz.func50, Tryz.ntmps50
  go_wp2_with fail
  go_loop [5, 6] (fun c i => ∃ j : Nat, j ≤ x - 247 ∧ i = .int .i64 ((j : Int) + 1) ∧ c = .int .u64 ((worth (t.take j) : Nat) : Int)) (fun _ i => 10 - (intOf i).toNat)
  case atStart => exact ⟨0, Nat.zero_le _, rfl, rfl⟩
  case round =>
    obtain ⟨j, hj, rfl, rfl⟩ := hrel
    by_cases hlt : j < x - 247
    · obtain ⟨u, hu⟩ : ∃ u, t[j]? = some u := ⟨t[j]'(by rw [HT.out]; exact hlt), by simp⟩
      have HU : Hid (worth (t.take (j + 1)) = worth (t.take j) * 256 + u.toNat) := worth_take t j (by rw [HT.out]; exact hlt) u hu
      have hN := worth_take_lt t j (by omega)
      have hcj := hct j u hu
      have hub := u.toNat_lt
      have hor := or_low (worth (t.take j)) u.toNat hN hub
      generalize worth (t.take j) = N at hN hor HU ⊢
      generalize u.toNat = U at hub hor HU hcj
      have hj1 : (j : Int) + 1 ≤ (x : Int) - 247 := by omega
      clear hct hc hc1 hu hsl
      go_wp2
      go_round
      case rel => exact ⟨j + 1, by omega, by go_num, by rw [HU.out]; rfl⟩
      case measure => simp [intOf]; omega
    · have hj1 : ¬ (j : Int) + 1 ≤ (x : Int) - 247 := by omega
      have HW : Hid (worth (t.take j) = worth t) := by show _ = _; rw [List.take_of_length_le (by rw [HT.out]; omega)]
      generalize worth (t.take j) = N at HW ⊢
      clear hct hc hc1
      by_cases h247 : N ≤ 247
      · go_wp2_with (go_at_call 68; refine hfail.mono ?_; rintro e w' ⟨rfl, hL⟩)
        go_ret
        exact .inl ⟨by rw [← HW.out]; exact h247, rfl, hL⟩
      · go_wp2_with fail
        go_ret
        exact .inr ⟨by rw [← HW.out]; omega, by rw [← HW.out]; rfl, HQ.out⟩
end Go.Proofs.YtibapmjgpnldgaaGreatDoor
