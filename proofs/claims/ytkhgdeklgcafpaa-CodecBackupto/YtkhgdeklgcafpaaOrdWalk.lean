/-
  CodecOrder: the walk.
-/
import Derived.Test.YtkhgdeklgcafpaaNilWalk
import Derived.Test.YtkhgdeklgcafpaaOrd
namespace Go.Proofs.Ytkhgdeklgcafpaa
open Go.RowKit
attribute [local go_sem ↓] Go.wp_at_zero Go.wp_at_succ

/-- NewWriter: a Writer in new memory. -/
theorem newW (w : World) : Calls Try.prog 23 #[] w fun e w' => ∃ p, e = .returned (.pointer (some ⟨p, 0, none⟩)) ∧ IsW 51 5 w' p (.slice none 0 0) [] ∧ Kept [] w w' ∧ w.heap.size ≤ p :=
  (new_w w).mono fun e w' ⟨he, hw⟩ => ⟨_, he, by subst hw; exact new_isW w, by subst hw; exact (Kept.refl [] w).alloc _, Nat.le_refl _⟩

/-- A new Writer's footprint is its block. -/
theorem foot_nil (p : Nat) : foot p (.slice none 0 0) = [p] := rfl

/-- The slice that a new Writer's first call has laid is new. -/
theorem new_nil {w : World} {v : Value} (h : New w (.slice none 0 0) v) : Fresh w v := fun g hg => by
  rcases h g hg with h1 | h1
  · simp [Value.ownBlock] at h1
  · exact h1

set_option maxHeartbeats 2000000 in
theorem ord_walk (a b : Nat) (ha : a < 18446744073709551616) (hb : b < 18446744073709551616) (w : World) :
    Calls Try.prog 7 #[.int .u64 (a : Int), .int .u64 (b : Int)] w fun e w' => e = .returned (.bool true) ∧ Kept [] w w' := by
  have hea := enc_length a
  have heb := enc_length b
  go_enter Try.func7, Try.ntmps7
  go_wp2_with fail
  refine (awake_any _).mono ?_
  rintro e w1 ⟨rfl, hk1⟩
  go_wp2_with fail
  refine (newW _).mono ?_
  rintro e w2 ⟨p, rfl, hp2, hk2, hpp⟩
  go_wp2_with fail
  refine (newW _).mono ?_
  rintro e w3 ⟨q, rfl, hq3, hk3, hqq⟩
  have hp3 := hp2.kept hk3 (by simp) (by simp)
  have hpl := hp2.lt
  go_wp2_with fail
  refine (wnum_any p _ [] a _ hp3 ha (by simp)).mono ?_
  rintro e w4 ⟨rfl, v4, hp4, hk4, hn4⟩
  have hf4 := new_nil hn4
  rw [foot_nil] at hk4
  have hq4 := hq3.kept hk4 (by simp; omega) (by simp [Value.ownBlock])
  go_wp2_with fail
  refine (wnum_any q _ [] b _ hq4 hb (by simp)).mono ?_
  rintro e w5 ⟨rfl, v5, hq5, hk5, hn5⟩
  rw [foot_nil] at hk5
  have hql := hq3.lt
  have hp5 := hp4.kept hk5 (by simp; omega) (fun g hg => by have := hf4 g hg; simp; omega)
  have hw5 : Kept [] w w5 := by
    have s1 := hk1.size
    have s2 := hk2.size
    have s3 := hk3.size
    exact ((((hk1.trans hk2 (by simp)).trans hk3 (by simp)).trans hk4 (by simp; omega)).trans hk5 (by simp; omega))
  rw [List.nil_append] at hp5 hq5
  have HL : Hid (Op.bytesLess (enc a) (enc b) = decide (a < b)) := enc_less a b ha hb
  have HN : Hid (a < b → (enc a).length ≤ (enc b).length) := enc_len a b
  generalize enc a = A at hp5 hea HL HN
  generalize enc b = B at hq5 heb HL HN
  have hpq : p ≠ q := by omega
  clear hp2 hq3 hp3 hp4 hq4 hk1 hk2 hk3 hk4 hk5 hf4 hn4 hn5 hpp hqq hpl hql
  go_wp2_with fail
  go_region_with (first
    | (go_at_call_of 26 (Value.pointer (some (Addr.mk p 0 none))); refine (wbytes_any p v4 A _ hp5.drew (by omega)).mono ?_; rintro e w6 ⟨v6, rfl, hown6, hk6, hf6⟩; have hs6 := string_of (P := Try.prog) 24 5 Try.underlying24 9 Try.underlying5 Try.underlying9 _ _ w6 hown6.reads; have hq6 := hq5.drew.kept hk6 (by simp) (by simp))
    | (go_at_call 26; refine (wbytes_any q v5 B _ hq6 (by omega)).mono ?_; rintro e w7 ⟨v7, rfl, hown7, hk7, hf7⟩; have hs7 := string_of (P := Try.prog) 24 5 Try.underlying24 9 Try.underlying5 Try.underlying9 _ _ w7 hown7.reads; have hs8 := string_of (P := Try.prog) 24 5 Try.underlying24 9 Try.underlying5 Try.underlying9 _ _ w7 (hown6.reads.kept hk7 (by simp))))
  all_goals
    have hfin : Kept [] w w7 := (hw5.drew.trans hk6 (by simp)).trans hk7 (by simp)
    clear hs6 hs7 hs8 hown6 hown7 hk6 hk7 hf6 hf7 hp5 hq5 hq6 hw5
    by_cases hab : a < b
    · have h1 : Op.bytesLess A B = true := by rw [HL.out]; simpa using hab
      have h2 : ((A.length : Nat) : Int) ≤ ((B.length : Nat) : Int) := by have := HN.out hab; omega
      have h3 : (a : Int) < (b : Int) := by omega
      clear HL HN
      go_wp2
      go_ret
      exact ⟨rfl, hfin⟩
    · have h1 : Op.bytesLess A B = false := by rw [HL.out]; simpa using hab
      have h3 : ¬ (a : Int) < (b : Int) := by omega
      clear HL HN
      go_wp2
      go_ret
      exact ⟨rfl, hfin⟩

end Go.Proofs.Ytkhgdeklgcafpaa
