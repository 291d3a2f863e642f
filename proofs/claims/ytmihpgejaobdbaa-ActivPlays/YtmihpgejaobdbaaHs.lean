/-
  has, Same, awake.
-/
import Derived.Test.YtmihpgejaobdbaaRt
import Derived.Test.YtmihpgejaobdbaaTo
namespace Go.Proofs.Ytmihpgejaobdbaa
set_option maxRecDepth 100000
open Go.RowKit
set_option linter.unusedVariables false
section
variable {w : World}
set_option maxHeartbeats 2000000 in
theorem has15 {a : Option Addr} {n c : Nat} {L : List Ky} (h : TextsIn w (.slice a n c) L) (k : Ky) : Calls Try.prog 15 #[.slice a n c, Sv k] w fun e w' => e = .returned (.bool (decide (k ∈ L))) ∧ w = w' := by
  obtain ⟨hn, hc1, hc2⟩ := h.bound
  have HN := Hid.mk hn
  have HH := Hid.mk h
  clear h hn
  go_enter Try.func15, Try.ntmps15
  go_wp2_with fail
  go_loopw [8] (fun i wr => ∃ j : Nat, i = .int .i64 (j : Int) ∧ j ≤ n ∧ Hid (k ∉ L.take j) ∧ Hid (w = wr)) (fun i _ => n - (intOf i).toNat)
  case atStart => exact ⟨0, rfl, by omega, Hid.mk (by simp), Hid.mk rfl⟩
  case round =>
    obtain ⟨j, rfl, hj, hO, hk⟩ := hrel
    obtain rfl := hk.out
    clear hk
    by_cases hlt : j < n
    · obtain ⟨s, hs⟩ : ∃ s, L[j]? = some s := ⟨_, List.getElem?_eq_getElem (by have := HN.out; omega)⟩
      obtain ⟨b, o, rfl, e2⟩ := TextsIn.at HH.out hs
      have hjI : (j : Int) < (n : Int) := by omega
      by_cases hsk : s = k
      · have hb : (s == k) = true := by simp [hsk]
        have HK : Hid (k ∈ L) := by rw [← hsk]; exact List.mem_of_getElem? hs
        clear hs hsk
        go_wp2_with fail
        go_ret
        exact ⟨by rw [decide_eq_true HK.out]; rfl, rfl⟩
      · have hb : (s == k) = false := by simp [hsk]
        have HT : Hid (k ∉ L.take (j + 1)) := by
          show ¬ _
          rw [List.take_add_one, hs]
          simp only [Option.toList_some, List.mem_append, List.mem_singleton]
          rintro (h | h)
          · exact hO.out h
          · exact hsk h.symm
        clear hs hsk
        go_wp2_with fail
        go_roundw
        case rel => exact ⟨j + 1, by go_num, by omega, HT, Hid.mk trivial⟩
        case measure => simp [intOf]; omega
    · obtain rfl : j = n := by omega
      have hjI : ((j : Int) < (j : Int)) = False := eq_false (by omega)
      have HK : Hid (k ∉ L) := by
        have := hO.out
        rw [List.take_of_length_le (by rw [HN.out]; omega)] at this
        exact this
      go_wp2_with fail
      go_ret
      exact ⟨by rw [decide_eq_false HK.out]; rfl, by trivial⟩
set_option maxHeartbeats 2000000 in
/-- Same, of texts that are alike. -/
theorem same16 {a a' : Option Addr} {n c c' : Nat} {L : List Ky} (h : TextsIn w (.slice a n c) L) (h' : TextsIn w (.slice a' n c') L) : Calls Try.prog 16 #[.slice a n c, .slice a' n c'] w fun e w' => e = .returned (.bool true) ∧ Kept [] w w' := by
  obtain ⟨hn, hc1, hc2⟩ := h.bound
  obtain ⟨-, hc3, hc4⟩ := h'.bound
  have HN := Hid.mk hn
  have HH := Hid.mk h
  have HH' := Hid.mk h'
  clear h h' hn
  go_enter Try.func16, Try.ntmps16
  go_wp2_with fail
  go_loopw [13] (fun i wr => ∃ j : Nat, i = .int .i64 (j : Int) ∧ j ≤ n ∧ Hid (Kept [] w wr)) (fun i _ => n - (intOf i).toNat)
  case atStart => exact ⟨0, rfl, by omega, Hid.mk (Kept.refl _ _)⟩
  case round =>
    obtain ⟨j, rfl, hj, hk⟩ := hrel
    by_cases hlt : j < n
    · obtain ⟨s, hs⟩ : ∃ s, L[j]? = some s := ⟨_, List.getElem?_eq_getElem (by have := HN.out; omega)⟩
      obtain ⟨b, o, rfl, e2⟩ := TextsIn.at (HH.out.kept0 hk.out) hs
      obtain ⟨b', o', rfl, e3⟩ := TextsIn.at (HH'.out.kept0 hk.out) hs
      have hjI : (j : Int) < (n : Int) := by omega
      clear hs
      go_wp2_with fail
      go_region
      have HK1 := Hid.mk hk.out.drew
      clear hk
      go_wp2_with fail
      go_roundw
      case rel => exact ⟨j + 1, by go_num, by omega, HK1⟩
      case measure => simp [intOf]; omega
    · obtain rfl : j = n := by omega
      have hjI : ((j : Int) < (j : Int)) = False := eq_false (by omega)
      go_wp2_with fail
      go_ret
      exact ⟨rfl, hk.out⟩
set_option maxHeartbeats 4000000 in
/-- awake: the program answers. -/
theorem awake7 (w : World) : Calls Try.prog 7 #[] w fun e w' => e = .returned (.bool true) ∧ Kept [] w w' := by
  go_enter Try.func7, Try.ntmps7
  go_wp2_with fail
  refine (new8 1 _).mono ?_
  rintro e w1 ⟨T, rfl, h1, k1, hT⟩
  have HH := Hid.mk (touch10 h1 (k := [97]) (by decide) (by simp) (by decide))
  have HK := Hid.mk k1
  have HT := Hid.mk hT
  clear h1 k1 hT
  go_wp2_with fail
  refine HH.out.mono ?_
  rintro e w2 ⟨rfl, F2, h2, k2, f2⟩
  have e2 : (touchT (cp (min (max 1 1) 10000)) [] [97]) = ([[97]], none) := by decide
  rw [e2] at h2
  have HH2 := Hid.mk (touch10 h2 (k := [98]) (by decide) (by decide) (by decide))
  have HK2 : Hid (Kept [] w w2) := (HK.out).trans k2 (fun x hx => .inr (by simp at hx; subst hx; exact HT.out))
  have HF2 : Hid (∀ b ∈ F2, w.heap.size ≤ b) := fun b hb => by
    rcases f2 b hb with h | h
    · simp at h; subst h; exact HT.out
    · exact Nat.le_trans HK.out.size h
  clear h2 k2 f2 HH
  go_wp2_with fail
  refine HH2.out.mono ?_
  rintro e w3 ⟨rfl, F3, h3, k3, f3⟩
  have e3 : (touchT (cp (min (max 1 1) 10000)) [[97]] [98]) = ([[98]], some [97]) := by decide
  rw [e3] at h3 ⊢
  have HH3 := Hid.mk (has14 h3 (k := [98]) (by decide))
  rw [show decide (([98] : Ky) ∈ [([98] : Ky)]) = true by decide] at HH3
  have HK3 : Hid (Kept [] w w3) := HK2.out.trans k3 (fun x hx => .inr (HF2.out x hx))
  clear h3 k3 f3 HH2
  simp only [tin, Option.getD_some, Option.isSome_some]
  go_wp2_with (go_at_call 14; refine HH3.out.mono ?_; rintro e w4 ⟨rfl, rfl⟩)
  go_ret
  exact ⟨rfl, HK3.out⟩
end
end Go.Proofs.Ytmihpgejaobdbaa
