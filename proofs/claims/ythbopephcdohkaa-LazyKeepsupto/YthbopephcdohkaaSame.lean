/-
  The document's Same and At; Made; awake.
-/
import Derived.Test.YthbopephcdohkaaAsk
import Derived.Test.YthbopephcdohkaaAwake
namespace Go.Proofs.Ythbopephcdohkaa
open Go.RowKit
set_option linter.unusedVariables false

set_option maxHeartbeats 400000 in
theorem same_len (a b : Option Addr) (n m c d : Nat) (w : World) (h : n ≠ m) (hn : n ≤ 16777216) (hm : m ≤ 16777216) : Calls Try.prog 14 #[.slice a n c, .slice b m d] w fun e w' => e = .returned (.bool false) ∧ w = w' := by
  have h0 : ((n : Int) != (m : Int)) = true := by simp; omega
  go_enter Try.func14, Try.ntmps14
  go_wp2
  go_ret
  exact ⟨rfl, rfl⟩

theorem str_ne (l m : List UInt8) (h : l ≠ m) : ((⟨l.toArray⟩ : ByteArray).toList == (⟨m.toArray⟩ : ByteArray).toList) = false := by
  rw [ByteArray.toList_mk, ByteArray.toList_mk]; simpa using h

theorem take_eq_step (x y : List (List UInt8)) (k : Nat) (t : List UInt8) (hx : x[k]? = some t) (hy : y[k]? = some t) (h : x.take k = y.take k) : x.take (k + 1) = y.take (k + 1) := by
  rw [List.take_add_one, List.take_add_one, hx, hy, h]

set_option maxRecDepth 100000 in
set_option maxHeartbeats 1000000 in
theorem same_any (v1 v2 : Value) (x y : List (List UInt8)) (w : World) (h1 : ReadsT w v1 x) (h2 : ReadsT w v2 y) (hx : x.length ≤ 16777216) (hy : y.length ≤ 16777216) :
    Calls Try.prog 14 #[v1, v2] w fun e w' => e = .returned (.bool (decide (x = y))) ∧ Kept [] w w' := by
  by_cases hlen : x.length = y.length
  · obtain ⟨a1, c1, rfl, l1, m1, -, k1⟩ := h1
    obtain ⟨a2, c2, rfl, l2, m2, -, k2⟩ := h2
    have HX : Hid (x.length = y.length) := hlen
    have h0 : ((x.length : Int) != (y.length : Int)) = false := by simp; omega
    have hcell : ∀ k t s, x[k]? = some t → y[k]? = some s → ∃ b o b' o', a1 = some ⟨b, o, none⟩ ∧ a2 = some ⟨b', o', none⟩ ∧ w.cell? ⟨b, o + k, none⟩ = some (T8 t) ∧ w.cell? ⟨b', o' + k, none⟩ = some (T8 s) := by
      intro k t s hk hs
      obtain ⟨b, o, rfl, hc⟩ := k1 (fun h => by subst h; simp at hk)
      obtain ⟨b', o', rfl, hc'⟩ := k2 (fun h => by subst h; simp at hs)
      exact ⟨b, o, b', o', rfl, rfl, hc k t hk, hc' k s hs⟩
    clear k1 k2 hlen
    go_enter Try.func14, Try.ntmps14
    go_wp2_with fail
    go_loopw [13, 5] (fun i _ wr => ∃ j : Nat, j ≤ x.length ∧ i = .int .i64 (j : Int) ∧ x.take j = y.take j ∧ Kept [] w wr) (fun i _ _ => x.length - (intOf i).toNat)
    case atStart => exact ⟨0, Nat.zero_le _, rfl, rfl, Kept.refl _ _⟩
    case round =>
      obtain ⟨j, hj, rfl, hjt, hk⟩ := hrel
      have HJ : Hid (x.take j = y.take j) := hjt
      clear hjt
      by_cases hlt : j < x.length
      · have hlt2 : (j : Int) < (x.length : Int) := by omega
        have hly : j < y.length := by have := HX.out; omega
        have hly2 : (j : Int) < (y.length : Int) := by omega
        obtain ⟨t, ht⟩ : ∃ t, x[j]? = some t := ⟨x[j], by simp⟩
        obtain ⟨s, hs⟩ : ∃ s, y[j]? = some s := ⟨y[j], by simp⟩
        obtain ⟨b, o, b', o', rfl, rfl, q1, q2⟩ := hcell j t s ht hs
        rw [← hk.cell (World.block_lt_of_cell? w _ q1) (by simp)] at q1
        rw [← hk.cell (World.block_lt_of_cell? w _ q2) (by simp)] at q2
        have HT : Hid (x[j]? = some t) := ht
        have HS : Hid (y[j]? = some s) := hs
        clear ht hs hcell
        unfold T8 at q1 q2
        by_cases hts : t = s
        · subst hts
          have hb : ((⟨t.toArray⟩ : ByteArray).toList == (⟨t.toArray⟩ : ByteArray).toList) = true := by simp
          generalize (⟨t.toArray⟩ : ByteArray) = T at q1 q2 hb
          go_wp2_with fail
          go_region
          all_goals
            go_wp2_with fail
            go_roundw
            case rel => exact ⟨j + 1, by omega, by go_num, take_eq_step x y j t HT.out HS.out HJ.out, hk.drew⟩
            case measure => simp [intOf]; omega
        · have hb := str_ne t s hts
          generalize (⟨t.toArray⟩ : ByteArray) = T at q1 hb
          generalize (⟨s.toArray⟩ : ByteArray) = S at q2 hb
          have HN : Hid (¬ x = y) := fun h => by
            have h1 := HT.out
            rw [h, HS.out] at h1
            injection h1 with h1
            exact hts h1.symm
          clear hts
          go_wp2_with fail
          go_region
          all_goals
            go_wp2_with fail
            go_ret
            exact ⟨by simp [HN.out], hk.drew⟩
      · have hlt2 : ¬ (j : Int) < (x.length : Int) := by omega
        go_wp2_with fail
        go_ret
        have e : x = y := by
          have h := HJ.out
          rw [List.take_of_length_le (by omega), List.take_of_length_le (by rw [← HX.out]; omega)] at h
          exact h
        exact ⟨by simp [e], hk⟩
  · obtain ⟨a1, c1, rfl, l1, m1, -, k1⟩ := h1
    obtain ⟨a2, c2, rfl, l2, m2, -, k2⟩ := h2
    refine (same_len a1 a2 _ _ c1 c2 w hlen hx hy).mono ?_
    rintro e w' ⟨rfl, rfl⟩
    have : ¬ x = y := fun h => hlen (by rw [h])
    exact ⟨by simp [this], Kept.refl _ _⟩

set_option maxRecDepth 100000 in
set_option maxHeartbeats 1000000 in
/-- The document's At. -/
theorem refAt_any (v : Value) (l : List UInt8) (i : Int) (w : World) (h : Reads w v l) (hin : Inside w v) (hl : l.length ≤ 16777216) (hi : -9223372036854775808 ≤ i) (hi2 : i ≤ 9223372036854775807) :
    Calls Try.prog 13 #[v, .int .i64 i] w fun e w' => e = .returned (.tuple #[T8 (atT ((parse l).getD []) i).1, .bool (atT ((parse l).getD []) i).2]) ∧ Kept [] w w' := by
  have htx := refTexts_any v l w h hin hl
  by_cases hneg : i < 0
  · rw [atT_neg _ i hneg]
    go_enter Try.func13, Try.ntmps13
    go_wp2_with (go_at_call 11; refine htx.mono ?_; rintro e w1 ⟨tv, rfl, hown, hk, hf, hlen⟩; obtain ⟨a, cap, rfl⟩ := hown.form)
    go_ret2
    exact ⟨rfl, hk⟩
  · obtain ⟨k, rfl⟩ := Int.eq_ofNat_of_zero_le (show 0 ≤ i by omega)
    have HP : Hid ((parse l).getD [] = (parse l).getD []) := rfl
    generalize hts : (parse l).getD [] = ts at HP ⊢
    cases hk : ts[k]? with
    | none =>
      have hlen : ts.length ≤ k := List.getElem?_eq_none_iff.1 hk
      rw [atT_past ts k hlen]
      have HT : Hid ((parse l).getD [] = ts) := hts
      clear hts hk
      have hge : (ts.length : Int) ≤ (k : Int) := by omega
      go_enter Try.func13, Try.ntmps13
      go_wp2_with (go_at_call 11; refine htx.mono ?_; rintro e w1 ⟨tv, rfl, hown, hk, hf, hlen⟩; rw [HT.out] at hown; obtain ⟨a, cap, rfl⟩ := hown.form; rw [HT.out] at hlen)
      go_ret2
      exact ⟨rfl, hk⟩
    | some t =>
      have hlt : k < ts.length := (List.getElem?_eq_some_iff.1 hk).1
      rw [atT_at ts k t hk]
      have HT : Hid ((parse l).getD [] = ts) := hts
      have HK : Hid (ts[k]? = some t) := hk
      clear hts hk
      have hge : ¬ (ts.length : Int) ≤ (k : Int) := by omega
      go_enter Try.func13, Try.ntmps13
      go_wp2_with (go_at_call 11; refine htx.mono ?_; rintro e w1 ⟨tv, rfl, hown, hk, hf, hlen⟩; rw [HT.out] at hown; obtain ⟨b, o, cap, rfl, hcap, hlc, hcell⟩ := hown.reads.at HK.out; rw [HT.out] at hlen)
      go_ret2
      exact ⟨rfl, hk⟩

set_option maxHeartbeats 400000 in
theorem made_nil (w : World) : Calls Try.prog 16 #[.pointer none] w fun e w' => e = .returned (.int .i64 0) ∧ w = w' := by
  go_enter Try.func16, Try.ntmps16
  go_wp2
  go_ret
  exact ⟨rfl, rfl⟩

set_option maxHeartbeats 400000 in
theorem made_any (p : Nat) (m : Int) (w : World) (h : w.cell? ⟨p, 6, none⟩ = some (.int .i64 m)) : Calls Try.prog 16 #[.pointer (some ⟨p, 0, none⟩)] w fun e w' => e = .returned (.int .i64 m) ∧ w = w' := by
  have hl := run_call_load (P := Try.prog) Try.func36 (by kernel_rfl) (by kernel_rfl) (by kernel_rfl) .i64 (by kernel_rfl) h
  go_enter Try.func16, Try.ntmps16
  go_wp2
  go_ret
  exact ⟨rfl, rfl⟩

theorem parse_two : parse [1, 97, 2, 98, 99] = some [[97], [98, 99]] := by decide +kernel

set_option maxRecDepth 100000 in
set_option maxHeartbeats 1000000 in
/-- awake: the program answers. -/
theorem awake_any (w : World) : Calls Try.prog 8 #[] w fun e w' => e = .returned (.bool true) ∧ Kept [] w w' := by
  have HP : Hid (atT ((parse [1, 97, 2, 98, 99]).getD []) 1 = ([98, 99], true)) := by show _ = _; rw [parse_two]; rfl
  have hp2 : ((parse [1, 97, 2, 98, 99]).getD []).length ≤ 16777216 := by rw [parse_two]; decide
  have hat := fun p u w (h : Unread w p [1, 97, 2, 98, 99] u) => at_first p [1, 97, 2, 98, 99] 1 u w h (by decide) hp2 (by decide) (by decide)
  rw [HP.out, show T8 ((([98, 99] : List UInt8), true)).1 = .string ⟨#[98, 99]⟩ from rfl, show ((([98, 99] : List UInt8), true)).2 = true from rfl] at hat
  clear HP hp2
  go_enter Try.func8, Try.ntmps8
  go_wp2_with fail
  refine (new_any _ [1, 97, 2, 98, 99] _ (reads_new w [1, 97, 2, 98, 99] (by simp [maxLen])) (by simp)).mono ?_
  rintro e w1 ⟨p, u, rfl, hU, hk, hp, hf, hin⟩
  have k1 := ((Kept.refl [] w).alloc _).trans hk (by simp)
  have hp1 : w.heap.size ≤ p := by have h := hp; simp only [World.size_alloc] at h; omega
  clear hk hp hf hin
  go_wp2_with fail
  refine (hat p u _ hU).mono ?_
  rintro e w2 ⟨rfl, tv, hD, hk2, hf2⟩
  have k2 := k1.trans hk2 (fun x hx => by simp at hx; subst hx; exact .inr hp1)
  clear k1 hat hk2 hf2 hD hU
  go_wp2_with fail
  go_ret
  exact ⟨rfl, k2⟩

end Go.Proofs.Ythbopephcdohkaa
