import Derived.Lib.Bytealg
import Derived.Deep.QuietTactic
import Derived.BigQuiet
import Derived.Test.YtdadloaifebdiaaGreatQ13
/-
  The calls of an outbox that only look: isKey, owned, Owner, find, Serial, hasNext.
-/
namespace Go.Proofs.YtdadloaifebdiaaGreat
set_option maxRecDepth 100000
open Go.RowKit
set_option linter.unusedVariables false
theorem cmp_lt : ∀ (a b : List UInt8), Lib.compareBytes a b < 0 ↔ a < b
  | [], [] => by simp [Lib.compareBytes]
  | [], _ :: _ => by simp [Lib.compareBytes]
  | _ :: _, [] => by simp [Lib.compareBytes]
  | x :: a, y :: b => by
    rw [List.cons_lt_cons_iff, Lib.compareBytes]
    by_cases h1 : x < y
    · simp [h1]
    · by_cases h2 : y < x
      · have : ¬ x = y := by rintro rfl; exact h1 h2
        simp [h1, h2, this]
      · have e : x = y := UInt8.toNat_inj.1 (by rw [UInt8.lt_iff_toNat_lt] at h1 h2; omega)
        subst e
        simp [h1, cmp_lt a b]
theorem cmp_eq : ∀ (a b : List UInt8), Lib.compareBytes a b = 0 ↔ a = b
  | [], [] => by simp [Lib.compareBytes]
  | [], _ :: _ => by simp [Lib.compareBytes]
  | _ :: _, [] => by simp [Lib.compareBytes]
  | x :: a, y :: b => by
    rw [Lib.compareBytes]
    by_cases h1 : x < y
    · have : ¬ x = y := by rintro rfl; rw [UInt8.lt_iff_toNat_lt] at h1; omega
      simp [h1, this]
    · by_cases h2 : y < x
      · have : ¬ x = y := by rintro rfl; exact h1 h2
        simp [h1, h2, this]
      · have e : x = y := UInt8.toNat_inj.1 (by rw [UInt8.lt_iff_toNat_lt] at h1 h2; omega)
        subst e
        simp [h1, cmp_eq a b]
theorem half_range (i j : Nat) (h : i < j) : (i + j) / 2 < j ∧ i ≤ (i + j) / 2 := by omega
/-- The place that a search finds. -/
theorem pla_is {K : List La} {to : List UInt8} {j : Nat} (h1 : j ≤ K.length) (h2 : ∀ p y, K[p]? = some y → p < j → y.k < to) (h3 : ∀ p y, K[p]? = some y → j ≤ p → ¬ y.k < to) : pla K to = j := by
  have hle := pla_le K to
  rcases Nat.lt_trichotomy (pla K to) j with h | h | h
  · obtain ⟨y, hy⟩ : ∃ y, K[pla K to]? = some y := ⟨_, List.getElem?_eq_getElem (by omega)⟩
    exact absurd (h2 _ y hy h) (pla_at hy)
  · exact h
  · obtain ⟨y, hy⟩ : ∃ y, K[j]? = some y := ⟨_, List.getElem?_eq_getElem (by omega)⟩
    exact absurd (pla_lt hy h) (h3 _ y hy (Nat.le_refl _))
theorem has_is {K : List La} {to : List UInt8} {y : La} (hy : K[pla K to]? = some y) : hasK K to = decide (y.k = to) := by
  cases hh : hasK K to with
  | true =>
    obtain ⟨s, h1, -⟩ := has_at hh
    rw [h1] at hy
    injection hy with hy
    subst hy
    simp
  | false =>
    have := (has_not hh).2 y hy
    simp [this]
theorem has_none {K : List La} {to : List UInt8} (hy : K[pla K to]? = none) : hasK K to = false := by
  cases hh : hasK K to with
  | true =>
    obtain ⟨s, h1, -⟩ := has_at hh
    rw [h1] at hy
    cases hy
  | false => rfl
section
variable {w : World} {p : Nat} {own : List UInt8} {K : List La} {qs : List Yq}
theorem isKey26 (s : List UInt8) (hs : s.length ≤ 281474976710656) : Calls Tryz.prog 99 #[Sv s] w fun e w' => e = .returned (.bool (isKey s)) ∧ w = w' := by
  have e : isKey s = (decide ((1 : Int) ≤ (s.length : Int)) && decide ((s.length : Int) ≤ 40)) := by
    unfold isKey
    rw [Bool.eq_iff_iff]
    simp
    omega
  rw [e]
  by_cases h1 : (1 : Int) ≤ (s.length : Int)
  · rw [decide_eq_true h1, Bool.true_and]
    go_enter Tryz.func99, Tryz.ntmps99
    go_wp2_with fail
    all_goals go_ret
    all_goals exact ⟨rfl, rfl⟩
  · rw [decide_eq_false h1, Bool.false_and]
    go_enter Tryz.func99, Tryz.ntmps99
    go_wp2_with fail
    go_ret
    exact ⟨rfl, rfl⟩
theorem key28 (s : List UInt8) (hs : s.length ≤ 281474976710656) : Calls Tryz.prog 79 #[Sv s] w fun e w' => e = .returned (.bool (isKey s)) ∧ w = w' := by
  have e : isKey s = (decide ((1 : Int) ≤ (s.length : Int)) && decide ((s.length : Int) ≤ 40)) := by
    unfold isKey
    rw [Bool.eq_iff_iff]
    simp
    omega
  rw [e]
  by_cases h1 : (1 : Int) ≤ (s.length : Int)
  · rw [decide_eq_true h1, Bool.true_and]
    go_enter Tryz.func79, Tryz.ntmps79
    go_wp2_with fail
    all_goals go_ret
    all_goals exact ⟨rfl, rfl⟩
  · rw [decide_eq_false h1, Bool.false_and]
    go_enter Tryz.func79, Tryz.ntmps79
    go_wp2_with fail
    go_ret
    exact ⟨rfl, rfl⟩
theorem cmp81 (a b : List UInt8) (w : World) : Calls Tryz.prog 121 #[Sv a, Sv b] w fun e w' => e = .returned (.int .i64 (Lib.compareBytes a b)) ∧ w = w' := by
  have h88 : Calls Tryz.prog 128 #[Sv a, Sv b] w fun e w' => e = .returned (.int .i64 (Lib.compareBytes a b)) ∧ w = w' := by
    go_enter Tryz.func128, Tryz.ntmps128
    go_wp2
    rw [run_callFunc_extern Tryz.func130 (by kernel_rfl) (by kernel_rfl) (by kernel_rfl) (e := Extern.BytealgCompare.compare) (by kernel_rfl), Lib.run_compareString]
    simp only [Result.andThen]
    rw [Oper.upon_value]
    go_wp2
    go_ret
    exact ⟨rfl, rfl⟩
  generalize Lib.compareBytes a b = r at h88 ⊢
  go_enter Tryz.func121, Tryz.ntmps121
  go_wp2_with fail
  refine h88.mono ?_
  rintro e w' ⟨rfl, rfl⟩
  go_wp2
  go_ret
  exact ⟨rfl, rfl⟩
theorem cmp80 (y : La) (to : List UInt8) (w : World) : Calls Tryz.prog 120 #[.agg #[Sv y.k, Uv y.s], Sv to] w fun e w' => e = .returned (.int .i64 (Lib.compareBytes y.k to)) ∧ Kept [] w w' := by
  have h := fun W => cmp81 y.k to W
  generalize Lib.compareBytes y.k to = r at h ⊢
  go_enter Tryz.func120, Tryz.ntmps120
  go_wp2_with fail
  refine (h _).mono ?_
  rintro e w' ⟨rfl, rfl⟩
  go_wp2
  go_ret
  exact ⟨rfl, (Kept.refl [] w).alloc _⟩
/-- Keys rise. -/
theorem rise_lt (h : Rise K) {i j : Nat} {x y : La} (hi : K[i]? = some x) (hj : K[j]? = some y) (hij : i < j) : x.k < y.k := by
  obtain ⟨h1, e1⟩ := List.getElem?_eq_some_iff.1 hi
  obtain ⟨h2, e2⟩ := List.getElem?_eq_some_iff.1 hj
  rw [← e1, ← e2]
  exact List.pairwise_iff_getElem.1 h i j h1 h2 hij
set_option maxHeartbeats 1000000 in
theorem search79 (hB : IsO w p own K qs) (hup : Rise K) (to : List UInt8) : Calls Tryz.prog 119 #[.slice (some ⟨p, 1, none⟩) K.length 64, Sv to, .func (.func 120) #[] #[]] w fun e w' => e = .returned (.tuple #[.int .i64 (pla K to : Int), .bool (hasK K to)]) ∧ Kept [] w w' := by
  have eg : ∀ args w, (callFunc 120 args).run Tryz.prog w = .ok (.enter 120 args) w := enters_of Tryz.func120 (by kernel_rfl) rfl
  have HU := Hid.mk hup
  have HB := Hid.mk hB
  have hn64 := hB.kn
  clear hup hB
  generalize hnn : K.length = n at *
  have HN := Hid.mk hnn
  clear hnn
  obtain ⟨P, hP⟩ : ∃ P, Hid (pla K to = P) := ⟨_, rfl⟩
  obtain ⟨A, hA⟩ : ∃ A, Hid (hasK K to = A) := ⟨_, rfl⟩
  rw [hP.out, hA.out]
  go_enter Tryz.func119, Tryz.ntmps119
  go_wp2_with fail
  go_loopw [9, 10] (fun vi vj wr => ∃ i j : Nat, Hid (Kept [] w wr) ∧ vi = .int .i64 (i : Int) ∧ vj = .int .i64 (j : Int) ∧ i ≤ j ∧ j ≤ n ∧ Hid ((∀ (p : Nat) (x : La), K[p]? = some x → p < i → x.k < to) ∧ ∀ (p : Nat) (x : La), K[p]? = some x → j ≤ p → ¬ x.k < to)) (fun vi vj _ => (intOf vj - intOf vi).toNat)
  case atStart => exact ⟨0, n, Hid.mk (Kept.refl [] w), rfl, rfl, by omega, by omega, Hid.mk ⟨by intros; omega, fun p x hp hj => by have := get_lt hp; have := HN.out; omega⟩⟩
  case round =>
    obtain ⟨i, j, kk, rfl, rfl, hij, hjn, H1⟩ := hrel
    by_cases hlt : i < j
    · have hh := half_range i j hlt
      obtain ⟨x, hx⟩ : ∃ x, K[(i + j) / 2]? = some x := ⟨_, List.getElem?_eq_getElem (by have := HN.out; omega)⟩
      obtain ⟨c0, c1⟩ := (HB.out.kept0 kk.out).key hx
      have hcc := cmp80 x to wr
      have hcl := cmp_lt x.k to
      generalize Lib.compareBytes x.k to = cv at hcc hcl
      have Hx := Hid.mk hx
      clear hx
      by_cases hneg : cv < 0
      · have hk : x.k < to := hcl.1 hneg
        clear hcl
        go_wp2_with (go_at_fn 120; refine hcc.mono ?_; rintro e w' ⟨rfl, k1⟩; have HK := Hid.mk (kk.out.trans k1 (by simp)); clear k1)
        go_roundw
        case rel =>
          exact ⟨(i + j) / 2 + 1, j, HK, by rw [show ((i : Int) + (j : Int)) / 2 + 1 = (((i + j) / 2 + 1 : Nat) : Int) by omega], rfl, by omega, hjn, Hid.mk ⟨fun p y hp hlt => by
            rcases Nat.lt_or_ge p ((i + j) / 2) with h | h
            · exact klt_trans (rise_lt HU.out hp Hx.out h) hk
            · have : p = (i + j) / 2 := by omega
              subst this
              rw [Hx.out] at hp
              injection hp with hp
              rw [← hp]
              exact hk, H1.out.2⟩⟩
        case measure => simp [intOf]; omega
      · have hk : ¬ x.k < to := fun h => hneg (hcl.2 h)
        clear hcl
        go_wp2_with (go_at_fn 120; refine hcc.mono ?_; rintro e w' ⟨rfl, k1⟩; have HK := Hid.mk (kk.out.trans k1 (by simp)); clear k1)
        go_roundw
        case rel =>
          exact ⟨i, (i + j) / 2, HK, rfl, by rw [show ((i : Int) + (j : Int)) / 2 = (((i + j) / 2 : Nat) : Int) by omega], by omega, by omega, Hid.mk ⟨H1.out.1, fun p y hp hle => by
            rcases Nat.lt_or_ge ((i + j) / 2) p with h | h
            · exact fun hy => hk (klt_trans (rise_lt HU.out Hx.out hp h) hy)
            · have : p = (i + j) / 2 := by omega
              subst this
              rw [Hx.out] at hp
              injection hp with hp
              rw [← hp]
              exact hk⟩⟩
        case measure => simp [intOf]; omega
    · obtain rfl : j = i := by omega
      have HP : Hid (P = j) := Hid.mk (by rw [← hP.out]; exact pla_is (by have := HN.out; omega) H1.out.1 H1.out.2)
      by_cases hjn2 : j < n
      · obtain ⟨x, hx⟩ : ∃ x, K[j]? = some x := ⟨_, List.getElem?_eq_getElem (by have := HN.out; omega)⟩
        obtain ⟨c0, c1⟩ := (HB.out.kept0 kk.out).key hx
        have hcc := cmp80 x to wr
        have hce := cmp_eq x.k to
        have hd : Hid (A = decide (x.k = to)) := Hid.mk (by rw [← hA.out]; exact has_is (by rw [hP.out, HP.out]; exact hx))
        generalize Lib.compareBytes x.k to = cv at hcc hce
        clear hx
        by_cases h0 : cv = 0
        · have h1 : A = true := by rw [hd.out]; simpa using hce.1 h0
          have h2 := HP.out
          subst h0 h1 h2
          clear hce
          go_wp2_with (go_at_fn 120; refine hcc.mono ?_; rintro e w' ⟨rfl, k1⟩)
          go_ret2
          exact ⟨rfl, kk.out.trans k1 (by simp)⟩
        · have hb : (cv == 0) = false := by simpa using h0
          have h1 : A = false := by rw [hd.out]; simpa using fun h => h0 (hce.2 h)
          have h2 := HP.out
          subst h1 h2
          clear hce
          go_wp2_with (go_at_fn 120; refine hcc.mono ?_; rintro e w' ⟨rfl, k1⟩)
          go_ret2
          exact ⟨rfl, kk.out.trans k1 (by simp)⟩
      · have h1 : A = false := by rw [← hA.out]; exact has_none (by rw [hP.out, HP.out]; exact List.getElem?_eq_none (by have := HN.out; omega))
        have h2 := HP.out
        subst h1 h2
        go_wp2
        go_ret2
        exact ⟨rfl, kk.out⟩
end
end Go.Proofs.YtdadloaifebdiaaGreat
