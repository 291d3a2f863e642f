/-
  New, find, all, has, Seen and Serials of a window.
-/
import Derived.Test.YtngjljgcldfekaaWd
namespace Go.Proofs.Ytngjljgcldfekaa
open Go.RowKit
set_option linter.unusedVariables false
section
variable {w : World} {p : Nat} {L : List Cl}
set_option maxRecDepth 100000 in
set_option maxHeartbeats 1000000 in
theorem find27_some (hB : IsWd w p L) {j0 : Nat} {x : Cl} (hj0 : L[j0]? = some x) {c : Nat} (hx : x.c = c) (hno : ∀ y ∈ L.take j0, y.c ≠ c) : Calls Try.prog 27 #[.pointer (some ⟨p, 0, none⟩), Uv c] w fun e w' => e = .returned (.int .i64 (j0 : Int)) ∧ w = w' := by
  have HB := Hid.mk hB
  have HJ := Hid.mk hj0
  have HX := Hid.mk hx
  have HNO := Hid.mk hno
  have hl64 := hB.fit.len
  have hc := hB.count
  have hlt0 := (List.getElem?_eq_some_iff.1 hj0).1
  clear hB hj0 hx hno
  generalize hn : L.length = n at *
  have HN := Hid.mk hn
  clear hn
  go_enter Try.func27, Try.ntmps27
  go_wp2_with fail
  go_loopw [12] (fun i wr => ∃ j : Nat, i = .int .i64 (j : Int) ∧ j ≤ j0 ∧ Hid (w = wr)) (fun i _ => n - (intOf i).toNat)
  case atStart => exact ⟨0, rfl, by omega, Hid.mk rfl⟩
  case round =>
    obtain ⟨j, rfl, hj, kk⟩ := hrel
    obtain rfl := kk.out
    clear kk
    have hjI : (j : Int) < (n : Int) := by omega
    have hjJ : (0 : Int) ≤ (j : Int) := by omega
    have hj6 : (j : Int) < 64 := by omega
    by_cases hlt : j < j0
    · obtain ⟨q, hq⟩ : ∃ q, L[j]? = some q := ⟨_, List.getElem?_eq_getElem (by have := HN.out; omega)⟩
      have d0 := (HB.out.rc hq).client
      have hqc : q.c ≠ c := HNO.out q (List.mem_of_getElem? (i := j) (by rw [List.getElem?_take_of_lt hlt]; exact hq))
      have g1 : ((q.c : Int) == (c : Int)) = false := by simp; omega
      clear hqc hq
      go_wp2_with fail
      go_roundw
      case rel => exact ⟨j + 1, by go_num, by omega, by trivial⟩
      case measure => simp [intOf]; omega
    · obtain rfl : j = j0 := by omega
      have d0 := (HB.out.rc HJ.out).client
      have g1 : ((x.c : Int) == (c : Int)) = true := by rw [HX.out]; simp
      go_wp2_with fail
      go_ret
      exact ⟨rfl, rfl⟩
set_option maxRecDepth 100000 in
set_option maxHeartbeats 1000000 in
theorem find27_none (hB : IsWd w p L) {c : Nat} (hno : ∀ y ∈ L, y.c ≠ c) : Calls Try.prog 27 #[.pointer (some ⟨p, 0, none⟩), Uv c] w fun e w' => e = .returned (.int .i64 (-1)) ∧ w = w' := by
  have HB := Hid.mk hB
  have HNO := Hid.mk hno
  have hl64 := hB.fit.len
  have hc := hB.count
  clear hB hno
  generalize hn : L.length = n at *
  have HN := Hid.mk hn
  clear hn
  go_enter Try.func27, Try.ntmps27
  go_wp2_with fail
  go_loopw [12] (fun i wr => ∃ j : Nat, i = .int .i64 (j : Int) ∧ j ≤ n ∧ Hid (w = wr)) (fun i _ => n - (intOf i).toNat)
  case atStart => exact ⟨0, rfl, by omega, Hid.mk rfl⟩
  case round =>
    obtain ⟨j, rfl, hj, kk⟩ := hrel
    obtain rfl := kk.out
    clear kk
    by_cases hlt : j < n
    · have hjI : (j : Int) < (n : Int) := by omega
      have hjJ : (0 : Int) ≤ (j : Int) := by omega
      have hj6 : (j : Int) < 64 := by omega
      obtain ⟨q, hq⟩ : ∃ q, L[j]? = some q := ⟨_, List.getElem?_eq_getElem (by have := HN.out; omega)⟩
      have d0 := (HB.out.rc hq).client
      have hqc : q.c ≠ c := HNO.out q (List.mem_of_getElem? hq)
      have g1 : ((q.c : Int) == (c : Int)) = false := by simp; omega
      clear hqc hq
      go_wp2_with fail
      go_roundw
      case rel => exact ⟨j + 1, by go_num, by omega, by trivial⟩
      case measure => simp [intOf]; omega
    · obtain rfl : j = n := by omega
      go_wp2_with fail
      go_ret
      exact ⟨rfl, rfl⟩
theorem find27_nil (c : Nat) : Calls Try.prog 27 #[.pointer none, Uv c] w fun e w' => e = .returned (.int .i64 (-1)) ∧ w = w' := by
  go_enter Try.func27, Try.ntmps27
  go_wp2_with fail
  go_ret
  exact ⟨rfl, rfl⟩
set_option maxRecDepth 100000 in
set_option maxHeartbeats 1000000 in
theorem all30 {o : Nat} {x : Cl} (h : RecAt w p o x) (hx : x.s.length ≤ 4) : Calls Try.prog 30 #[.pointer (some ⟨p, o, none⟩)] w fun e w' => e = .returned (.slice (some ⟨p, o + 1, none⟩) x.s.length 4) ∧ Kept [] w w' := by
  have hc := h.count hx
  have hc' : w.drew.cell? ⟨p, o + 5, none⟩ = some (.int .i64 (x.s.length : Int)) := hc
  have h0 : (0 : Int) ≤ (x.s.length : Int) := by omega
  have h4 : (x.s.length : Int) ≤ 4 := by omega
  generalize x.s.length = n at *
  clear h
  go_enter Try.func30, Try.ntmps30
  go_wp2_with fail
  go_quiet (fail)
  go_wp2_with fail
  go_ret
  exact ⟨rfl, (Kept.refl [] w).drewN _⟩
set_option maxRecDepth 100000 in
set_option maxHeartbeats 1000000 in
theorem has28 {o : Nat} {x : Cl} (h : RecAt w p o x) (hx : x.s.length ≤ 4) (s : Nat) : Calls Try.prog 28 #[.pointer (some ⟨p, o, none⟩), Uv s] w fun e w' => e = .returned (.bool (decide (s ∈ x.s))) ∧ Kept [] w w' := by
  have HA := Hid.mk (all30 h hx)
  have HC : Hid (∀ W, Kept [] w W → Calls Try.prog 44 #[.slice (some ⟨p, o + 1, none⟩) x.s.length 4, Uv s] W fun e w' => e = .returned (.bool (decide (s ∈ x.s))) ∧ W = w') := fun W k => contains44 ((h.kept0 k).row hx) s
  clear h
  generalize decide (s ∈ x.s) = D at HC
  go_enter Try.func28, Try.ntmps28
  go_wp2_with fail
  refine HA.out.mono ?_
  rintro e w1 ⟨rfl, k1⟩
  go_wp2_with fail
  refine (HC.out _ k1).mono ?_
  rintro e w2 ⟨rfl, rfl⟩
  go_wp2_with fail
  go_ret
  exact ⟨rfl, k1⟩
set_option maxRecDepth 100000 in
set_option maxHeartbeats 1000000 in
theorem seen14_none {p' : Option Addr} {c : Nat} (hF : Calls Try.prog 27 #[.pointer p', Uv c] w fun e w' => e = .returned (.int .i64 (-1)) ∧ w = w') (s : Nat) : Calls Try.prog 14 #[.pointer p', Uv c, Uv s] w fun e w' => e = .returned (.bool false) ∧ Kept [] w w' := by
  have HF := Hid.mk hF
  clear hF
  go_enter Try.func14, Try.ntmps14
  go_wp2_with fail
  refine HF.out.mono ?_
  rintro e w1 ⟨rfl, rfl⟩
  go_wp2_with fail
  go_ret
  exact ⟨rfl, Kept.refl [] w⟩
set_option maxRecDepth 100000 in
set_option maxHeartbeats 1000000 in
theorem seen14_some (hB : IsWd w p L) {j0 : Nat} {x : Cl} (hj0 : L[j0]? = some x) {c : Nat} (hx : x.c = c) (hno : ∀ y ∈ L.take j0, y.c ≠ c) (s : Nat) : Calls Try.prog 14 #[.pointer (some ⟨p, 0, none⟩), Uv c, Uv s] w fun e w' => e = .returned (.bool (decide (s ∈ x.s))) ∧ Kept [] w w' := by
  have HF := Hid.mk (find27_some hB hj0 hx hno)
  have HH := Hid.mk (has28 (hB.rc hj0) (hB.fit.four x (List.mem_of_getElem? hj0)) s)
  have hl64 := hB.fit.len
  have hlt0 := (List.getElem?_eq_some_iff.1 hj0).1
  have h0 : (0 : Int) ≤ (j0 : Int) := by omega
  have h6 : (j0 : Int) < 64 := by omega
  clear hB hx hno hj0
  generalize decide (s ∈ x.s) = D at HH
  go_enter Try.func14, Try.ntmps14
  go_wp2_with fail
  refine HF.out.mono ?_
  rintro e w1 ⟨rfl, rfl⟩
  go_wp2_with fail
  refine HH.out.mono ?_
  rintro e w2 ⟨rfl, k2⟩
  go_wp2_with fail
  go_ret
  exact ⟨rfl, k2⟩
/-- A row in new memory. -/
def NewU (w : World) (l : List Nat) (e : Ending) (w' : World) : Prop := ∃ v, e = .returned v ∧ OwnsU w' v l ∧ Kept [] w w' ∧ Fresh w v
set_option maxRecDepth 100000 in
set_option maxHeartbeats 1000000 in
theorem serials17_none {p' : Option Addr} {c : Nat} (hF : Calls Try.prog 27 #[.pointer p', Uv c] w fun e w' => e = .returned (.int .i64 (-1)) ∧ w = w') : Calls Try.prog 17 #[.pointer p', Uv c] w fun e w' => e = .returned (.slice none 0 0) ∧ w = w' := by
  have HF := Hid.mk hF
  clear hF
  go_enter Try.func17, Try.ntmps17
  go_wp2_with fail
  refine HF.out.mono ?_
  rintro e w1 ⟨rfl, rfl⟩
  go_wp2_with fail
  go_ret
  exact ⟨rfl, rfl⟩
set_option maxRecDepth 100000 in
set_option maxHeartbeats 1000000 in
theorem serials17_some (hB : IsWd w p L) {j0 : Nat} {x : Cl} (hj0 : L[j0]? = some x) {c : Nat} (hx : x.c = c) (hno : ∀ y ∈ L.take j0, y.c ≠ c) : Calls Try.prog 17 #[.pointer (some ⟨p, 0, none⟩), Uv c] w fun e w' => NewU w x.s e w' := by
  have h4 := hB.fit.four x (List.mem_of_getElem? hj0)
  have HF := Hid.mk (find27_some hB hj0 hx hno)
  have HA := Hid.mk (all30 (hB.rc hj0) h4)
  have HC : Hid (∀ W, Kept [] w W → Calls Try.prog 29 #[.slice (some ⟨p, j0 * 6 + 1, none⟩) x.s.length 4] W fun e w' => NewU W x.s e w') := fun W k => clone29 (((hB.rc hj0).kept0 k).row h4) (by omega) ⟨_, _, _, _, rfl⟩
  have HE : Hid (∀ W v w', Kept [] w W → NewU W x.s (.returned v) w' → NewU w x.s (.returned v) w') := fun W v w' k ⟨v', e, h1, h2, h3⟩ => by
    injection e with e
    subst e
    exact ⟨_, rfl, h1, k.trans h2 (by simp), fun g hg => by have := h3 g hg; have := k.size; omega⟩
  have hl64 := hB.fit.len
  have hlt0 := (List.getElem?_eq_some_iff.1 hj0).1
  have h0 : (0 : Int) ≤ (j0 : Int) := by omega
  have h6 : (j0 : Int) < 64 := by omega
  have hneg : ((j0 : Int) < 0) = False := eq_false (by omega)
  clear hB hx hno hj0
  go_enter Try.func17, Try.ntmps17
  go_wp2_with fail
  refine HF.out.mono ?_
  rintro e w1 ⟨rfl, rfl⟩
  go_wp2_with fail
  refine HA.out.mono ?_
  rintro e w2 ⟨rfl, k2⟩
  go_wp2_with fail
  refine (HC.out _ k2).mono ?_
  rintro e w3 ⟨v3, rfl, h3⟩
  go_wp2_with fail
  go_ret
  exact HE.out _ _ _ k2 ⟨v3, rfl, h3⟩
end
end Go.Proofs.Ytngjljgcldfekaa
