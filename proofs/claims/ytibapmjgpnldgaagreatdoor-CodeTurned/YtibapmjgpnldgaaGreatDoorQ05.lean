import Derived.Test.YtibapmjgpnldgaaGreatDoorQ03
/-
  firstNumber: the number that bytes begin with.
-/
namespace Go.Proofs.YtibapmjgpnldgaaGreatDoor
set_option maxRecDepth 100000
open Go.RowKit
set_option linter.unusedVariables false
theorem dec_nil : dec [] = (0, 0) := rfl
theorem dec_small (x : UInt8) (t : List UInt8) (h : x.toNat ≤ 247) : dec (x :: t) = (x.toNat, 1) := by simp [dec, h]
theorem dec_short (x : UInt8) (t : List UInt8) (h : ¬ x.toNat ≤ 247) (h2 : t.length < x.toNat - 247) : dec (x :: t) = (0, 0) := by simp [dec, h, h2]
theorem dec_zero (x y : UInt8) (t : List UInt8) (h : ¬ x.toNat ≤ 247) (h2 : y.toNat = 0) : dec (x :: y :: t) = (0, 0) := by simp [dec, h, h2]
theorem dec_low (x y : UInt8) (t : List UInt8) (h : ¬ x.toNat ≤ 247) (h2 : x.toNat - 247 ≤ t.length + 1) (h3 : y.toNat ≠ 0) (h4 : worth ((y :: t).take (x.toNat - 247)) ≤ 247) : dec (x :: y :: t) = (0, 0) := by
  simp only [dec]
  rw [if_neg h, if_neg (by simp; omega), if_pos h4]
theorem dec_high (x y : UInt8) (t : List UInt8) (h : ¬ x.toNat ≤ 247) (h2 : x.toNat - 247 ≤ t.length + 1) (h3 : y.toNat ≠ 0) (h4 : ¬ worth ((y :: t).take (x.toNat - 247)) ≤ 247) : dec (x :: y :: t) = (worth ((y :: t).take (x.toNat - 247)), x.toNat - 247 + 1) := by
  simp only [dec]
  rw [if_neg h, if_neg (by simp; omega), if_neg h4]
set_option maxRecDepth 100000 in
set_option maxHeartbeats 400000 in
theorem first_nil (a : Option Addr) (cap : Nat) (w : World) : Calls Tryz.prog 65 #[.slice a 0 cap] w fun e w' => e = .returned (.tuple #[.int .u64 0, .int .i64 0]) ∧ w = w' := by
  go_enter Tryz.func65, Tryz.ntmps65
  go_wp2
  go_ret2
  exact ⟨rfl, rfl⟩
set_option maxRecDepth 100000 in
set_option maxHeartbeats 400000 in
theorem first_small (b o n cap x : Nat) (w : World) (hn : n + 1 ≤ cap) (hm : cap ≤ 9223372036854775807) (hx : x ≤ 247) (hc : w.cell? ⟨b, o, none⟩ = some (.int .u8 (x : Int))) :
    Calls Tryz.prog 65 #[.slice (some ⟨b, o, none⟩) (n + 1) cap] w fun e w' => e = .returned (.tuple #[.int .u64 (x : Int), .int .i64 1]) ∧ w = w' := by
  have hp : ((n + 1 : Nat) : Int) = (n : Int) + 1 := by omega
  have h0 : (((n + 1 : Nat) : Int) == 0) = false := by simp; omega
  go_enter Tryz.func65, Tryz.ntmps65
  go_wp2
  go_ret2
  exact ⟨rfl, rfl⟩
set_option maxRecDepth 100000 in
set_option maxHeartbeats 400000 in
theorem first_short (b o n cap x : Nat) (w : World) (hn : n + 1 ≤ cap) (hm : cap ≤ 9223372036854775807) (hx : 247 < x) (hx2 : x < 256) (hs : n < x - 247) (hc : w.cell? ⟨b, o, none⟩ = some (.int .u8 (x : Int))) :
    Calls Tryz.prog 65 #[.slice (some ⟨b, o, none⟩) (n + 1) cap] w fun e w' => e = .returned (.tuple #[.int .u64 0, .int .i64 0]) ∧ w = w' := by
  have h0 : (((n + 1 : Nat) : Int) == 0) = false := by simp; omega
  have h1 : ((n + 1 : Nat) : Int) < 1 + (x : Int) - 247 := by omega
  go_enter Tryz.func65, Tryz.ntmps65
  go_wp2
  go_ret2
  exact ⟨rfl, rfl⟩
set_option maxRecDepth 100000 in
set_option maxHeartbeats 400000 in
theorem first_zero (b o n cap x : Nat) (w : World) (hn : n + 2 ≤ cap) (hm : cap ≤ 9223372036854775807) (hx : 247 < x) (hx2 : x < 256) (hs : x - 247 ≤ n + 1) (hc : w.cell? ⟨b, o, none⟩ = some (.int .u8 (x : Int))) (hc1 : w.cell? ⟨b, o + 1, none⟩ = some (.int .u8 0)) :
    Calls Tryz.prog 65 #[.slice (some ⟨b, o, none⟩) (n + 2) cap] w fun e w' => e = .returned (.tuple #[.int .u64 0, .int .i64 0]) ∧ w = w' := by
  have h0 : (((n + 2 : Nat) : Int) == 0) = false := by simp; omega
  have h1 : ¬ ((n + 2 : Nat) : Int) < 1 + (x : Int) - 247 := by omega
  go_enter Tryz.func65, Tryz.ntmps65
  go_wp2
  go_ret2
  exact ⟨rfl, rfl⟩
/-- What firstNumber answers where N was read behind a first byte x. -/
def firstOut (x N : Nat) : Value := if N ≤ 247 then .tuple #[.int .u64 0, .int .i64 0] else .tuple #[.int .u64 (N : Int), .int .i64 ((x - 247 + 1 : Nat) : Int)]
theorem or_low (N u : Nat) (hN : N < 72057594037927936) (hu : u < 256) : bits .or .u64 ((N : Int) * 256) (u : Int) = (N : Int) * 256 + (u : Int) := by
  have h := u64_or_nat (N * 256) u (by omega) (by omega)
  have e := Nat.two_pow_add_eq_or_of_lt (b := u) (i := 8) (by omega) N
  rw [show (2 : Nat) ^ 8 * N = N * 256 by omega] at e
  rw [← e] at h
  simpa using h
theorem worth_take (t : List UInt8) (j : Nat) (hj : j < t.length) (u : UInt8) (hu : t[j]? = some u) : worth (t.take (j + 1)) = worth (t.take j) * 256 + u.toNat := by
  rw [List.take_add_one, hu]
  exact worth_snoc _ _
theorem worth_take_lt (t : List UInt8) (j : Nat) (hj : j ≤ 7) : worth (t.take j) < 72057594037927936 := by
  have h1 := worth_lt (t.take j)
  have h2 : (t.take j).length ≤ 7 := by simp; omega
  have h3 := Nat.pow_le_pow_right (n := 256) (by omega) h2
  have h4 : (256 : Nat) ^ 7 = 72057594037927936 := by decide
  omega
set_option maxRecDepth 100000 in
set_option maxHeartbeats 1000000 in
theorem first_loop (b o n cap x y : Nat) (t : List UInt8) (w : World) (hn : n + 2 ≤ cap) (hm : cap ≤ 9223372036854775807) (hx : 247 < x) (hx2 : x < 256) (hs : x - 247 ≤ n + 1) (hc : w.cell? ⟨b, o, none⟩ = some (.int .u8 (x : Int))) (hc1 : w.cell? ⟨b, o + 1, none⟩ = some (.int .u8 (y : Int))) (hy : 1 ≤ y)
    (ht : t.length = x - 247) (hct : ∀ j u, t[j]? = some u → w.cell? ⟨b, o + 1 + j, none⟩ = some (.int .u8 (u.toNat : Int))) :
    Calls Tryz.prog 65 #[.slice (some ⟨b, o, none⟩) (n + 2) cap] w fun e w' => e = .returned (firstOut x (worth t)) ∧ w = w' := by
  have h0 : (((n + 2 : Nat) : Int) == 0) = false := by simp; omega
  have h1 : ¬ ((n + 2 : Nat) : Int) < 1 + (x : Int) - 247 := by omega
  have h2 : ((y : Int) == 0) = false := by simp; omega
  have HT : Hid (t.length = x - 247) := ht
  clear ht
  go_enter Tryz.func65, Tryz.ntmps65
  go_wp2
  go_loop [5, 39] (fun c i => ∃ j : Nat, j ≤ x - 247 ∧ i = .int .i64 (j : Int) ∧ c = .int .u64 ((worth (t.take j) : Nat) : Int)) (fun _ i => 9 - (intOf i).toNat)
  case atStart => exact ⟨0, Nat.zero_le _, rfl, rfl⟩
  case round =>
    obtain ⟨j, hj, rfl, rfl⟩ := hrel
    by_cases hlt : j < x - 247
    · obtain ⟨u, hu⟩ : ∃ u, t[j]? = some u := ⟨t[j]'(by rw [HT.out]; exact hlt), by simp⟩
      have HU : Hid (worth (t.take (j + 1)) = worth (t.take j) * 256 + u.toNat) := worth_take t j (by rw [HT.out]; exact hlt) u hu
      have hN := worth_take_lt t j (by omega)
      have hcj := hct j u hu
      have hub := u.toNat_lt
      have hor := or_low (worth (t.take j)) u.toNat hN hub
      generalize worth (t.take j) = N at hN hor HU ⊢
      generalize u.toNat = U at hub hor HU hcj
      clear hct hc hc1 hu
      go_wp2
      go_round
      case rel => exact ⟨j + 1, by omega, by go_num, by rw [HU.out]; rfl⟩
      case measure => simp [intOf]; omega
    · have hje : Hid (j = x - 247) := by show _ = _; omega
      have HW : Hid (worth (t.take j) = worth t) := by show _ = _; rw [List.take_of_length_le (by rw [HT.out]; omega)]
      generalize worth (t.take j) = N at HW ⊢
      clear hct hc hc1
      by_cases h247 : N ≤ 247
      · go_wp2
        go_ret2
        exact ⟨by rw [← HW.out, firstOut, if_pos h247]; rfl, rfl⟩
      · go_wp2
        go_ret2
        refine ⟨?_, rfl⟩
        rw [← HW.out, firstOut, if_neg h247]
        exact congrArg (fun z => Ending.returned (.tuple #[.int .u64 (N : Int), .int .i64 z])) (by omega)
set_option maxRecDepth 100000 in
/-- firstNumber tells 'dec', and changes nothing. -/
theorem first_any (v : Value) (l : List UInt8) (w : World) (h : Reads w v l) :
    Calls Tryz.prog 65 #[v] w fun e w' => e = .returned (.tuple #[.int .u64 ((dec l).1 : Int), .int .i64 ((dec l).2 : Int)]) ∧ w = w' := by
  obtain ⟨a, cap, rfl, h2, h3, h4, h5⟩ := h
  unfold maxLen at h3
  match l with
  | [] => exact first_nil a cap w
  | [x] =>
    obtain ⟨b, o, rfl, hc⟩ := h5 (by simp)
    have hx := x.toNat_lt
    have hc0 := hc 0 x rfl
    by_cases hs : x.toNat ≤ 247
    · rw [dec_small x [] hs]; exact first_small b o 0 cap x.toNat w (by simpa using h2) h3 hs hc0
    · rw [dec_short x [] hs (by simp; omega)]; exact first_short b o 0 cap x.toNat w (by simpa using h2) h3 (by omega) hx (by omega) hc0
  | x :: y :: t =>
    obtain ⟨b, o, rfl, hc⟩ := h5 (by simp)
    have hx := x.toNat_lt
    have hc0 := hc 0 x rfl
    have hc1 := hc 1 y rfl
    simp only [List.length_cons] at h2 ⊢
    by_cases hs : x.toNat ≤ 247
    · rw [dec_small x _ hs]; exact first_small b o (t.length + 1) cap x.toNat w h2 h3 hs hc0
    by_cases hl : t.length + 1 < x.toNat - 247
    · rw [dec_short x _ hs (by simpa using hl)]; exact first_short b o (t.length + 1) cap x.toNat w h2 h3 (by omega) hx hl hc0
    by_cases hy : y.toNat = 0
    · rw [dec_zero x y t hs hy]
      exact first_zero b o t.length cap x.toNat w h2 h3 (by omega) hx (by omega) hc0 (by rw [hc1]; simp [B8, hy])
    · have hlen : ((y :: t).take (x.toNat - 247)).length = x.toNat - 247 := by rw [List.length_take, List.length_cons]; omega
      have key := first_loop b o t.length cap x.toNat y.toNat ((y :: t).take (x.toNat - 247)) w h2 h3 (by omega) hx (by omega) hc0 hc1 (by omega) hlen (fun j u hu => by
        have hj : j < x.toNat - 247 := by
          have := (List.getElem?_eq_some_iff.1 hu).1; omega
        rw [List.getElem?_take_of_lt hj] at hu
        have := hc (j + 1) u (by simpa using hu)
        rw [show o + 1 + j = o + (j + 1) by omega]
        exact this)
      by_cases h247 : worth ((y :: t).take (x.toNat - 247)) ≤ 247
      · rw [dec_low x y t hs (by omega) hy h247]
        rw [firstOut, if_pos h247] at key
        exact key
      · rw [dec_high x y t hs (by omega) hy h247]
        rw [firstOut, if_neg h247] at key
        exact key
end Go.Proofs.YtibapmjgpnldgaaGreatDoor
