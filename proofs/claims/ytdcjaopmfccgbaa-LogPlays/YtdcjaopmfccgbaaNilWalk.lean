/-
  LogNil answers true.
-/
import Derived.Test.YtdcjaopmfccgbaaAwk
import Derived.BigQuiet
namespace Go.Proofs.Ytdcjaopmfccgbaa
open Go.RowKit
set_option linter.unusedVariables false

/-- The slice v is a row of n cells of a kind, that may be stored into. -/
def RowOf (w : World) (v : Value) (n : Nat) (K : Value → Prop) : Prop :=
  ∃ a cap, v = .slice a n cap ∧ n ≤ cap ∧ cap ≤ 9223372036854775807 ∧ (0 < n → ∃ g, a = some ⟨g, 0, none⟩ ∧ ∀ k, k < n → ∃ z, K z ∧ w.cell? ⟨g, k, none⟩ = some z ∧ w.frozen? ⟨g, k, none⟩ = false)
theorem RowOf.of_owns {w : World} {e : TypeId} {v : Value} {n : Nat} {xs : List Value} {K : Value → Prop} (h : w.ownsRow 0 e 1 v n xs) (hl : xs.length = n) (hK : ∀ z ∈ xs, K z) : RowOf w v n K := by
  have hcells := fun g hg => World.ownsRow.cells h (g := g) hg
  rcases h.2 with ⟨rfl, h0⟩ | ⟨g, cap, cur, rfl, _, hg, h1, h2, h3, h4⟩
  · subst h0
    exact ⟨none, 0, rfl, by simp, by simp, by simp⟩
  · refine ⟨some ⟨g, 0, none⟩, cap, rfl, h1, h2, fun hn => ⟨g, rfl, fun k hk => ?_⟩⟩
    have hx : xs[k]? = some (xs[k]'(by omega)) := by simp
    have := hcells g rfl k _ hx
    have hadd : (⟨g, 0, Option.none⟩ : Addr).add k = ⟨g, k, Option.none⟩ := by unfold Addr.add; split <;> simp_all
    rw [hadd] at this
    exact ⟨_, hK _ (List.getElem_mem _), this, by simp [World.frozen?, hg]⟩
theorem RowOf.set {w : World} {v : Value} {n : Nat} {K : Value → Prop} (h : RowOf w v n K) {g j : Nat} (hg : v.ownBlock = some g) (hj : j < n) {z : Value} (hz : K z) : RowOf (w.setCell ⟨g, j, none⟩ z) v n K := by
  obtain ⟨a, cap, rfl, h2, h3, h4⟩ := h
  refine ⟨a, cap, rfl, h2, h3, fun hn => ?_⟩
  obtain ⟨g', rfl, hc⟩ := h4 hn
  have e : g' = g := by simpa [Value.ownBlock] using hg
  subst e
  refine ⟨g', rfl, fun k hk => ?_⟩
  obtain ⟨x, hx, hcx, hfx⟩ := hc k hk
  have hf : (w.setCell ⟨g', j, none⟩ z).frozen? ⟨g', k, none⟩ = false := by simp [hfx]
  by_cases hjk : j = k
  · subst hjk
    exact ⟨z, hz, World.cell?_setCell_same w _ _ hcx, hf⟩
  · exact ⟨x, hx, (World.cell?_setCell_other _ ⟨g', j, none⟩ ⟨g', k, none⟩ _ (fun h => hjk (by cases h; rfl))).trans hcx, hf⟩
def isByte (z : Value) : Prop := ∃ x : Int, 0 ≤ x ∧ x ≤ 255 ∧ z = .int .u8 x
theorem RowOf.bytes {w : World} {v : Value} {l : List UInt8} (h : Owns 5 w v l) : RowOf w v l.length isByte := RowOf.of_owns h (C8_length l) (fun z hz => by
  simp only [C8, List.mem_map] at hz
  obtain ⟨u, _, rfl⟩ := hz
  exact ⟨u.toNat, by omega, by have := u.toNat_lt; omega, rfl⟩)

set_option maxRecDepth 100000 in
theorem nil_long (fr ct : Int) (a : Option Addr) (n cap : Nat) (w : World) (h : 2000 < n) : Calls Try.prog 6 #[.int .i64 fr, .int .i64 ct, .slice a n cap] w fun e w' => e = .returned (.bool true) ∧ Kept [] w w' := by
  have hn : (2000 : Int) < (n : Int) := by omega
  go_enter Try.func6, Try.ntmps6
  go_wp2_with fail
  refine (awake_any w).mono ?_
  rintro e w1 ⟨rfl, k1⟩
  go_wp2_with fail
  refine (awake_any w1).mono ?_
  rintro e w2 ⟨rfl, k2⟩
  have hK := k1.trans k2 (by simp)
  clear k1 k2
  go_wp2
  go_ret
  exact ⟨rfl, hK⟩

set_option maxRecDepth 100000 in
set_option maxHeartbeats 2000000 in
theorem nil_empty (fr ct : Int) (a : Option Addr) (cap : Nat) (w : World) (h1 : -9223372036854775808 ≤ fr) (h2 : fr < 9223372036854775808) (h3 : -9223372036854775808 ≤ ct) (h4 : ct < 9223372036854775808) : Calls Try.prog 6 #[.int .i64 fr, .int .i64 ct, .slice a 0 cap] w fun e w' => e = .returned (.bool true) ∧ Kept [] w w' := by
  go_enter Try.func6, Try.ntmps6
  go_wp2_with fail
  refine (awake_any w).mono ?_
  rintro e w0 ⟨rfl, k0⟩
  have hnew : Calls Try.prog 9 #[.int .i64 10] w0 fun e w' => ∃ p, e = .returned (.pointer (some ⟨p, 0, none⟩)) ∧ ∃ F, IsD w' F p ⟨10, [], -1, false⟩ ∧ Kept [] w0 w' ∧ ∀ x ∈ F, w0.heap.size ≤ x := new_nb 10 (by omega) w0
  go_wp2_with fail
  refine hnew.mono ?_
  rintro e w1 ⟨q, rfl, F, hD1, k1, nF⟩
  have kk1 := k0.trans k1 (by simp)
  have hNF : ∀ x ∈ F, w.heap.size ≤ x := fun x hx => Nat.le_trans k0.size (nF x hx)
  clear hnew k0 k1 nF
  have hcases : (1 ≤ ct ∧ ct ≤ 10 ∧ 0 ≤ fr ∧ fr ≤ 10 - ct) ∨ ct < 1 ∨ 10 < ct ∨ (1 ≤ ct ∧ ct ≤ 10 ∧ fr < 0) ∨ (1 ≤ ct ∧ ct ≤ 10 ∧ 0 ≤ fr ∧ 10 - ct < fr) := by omega
  have harg := fun h => open_arg hD1 fr ct 1 h2 h
  rw [show ((1 : Nat) : Int) = 1 from rfl] at harg
  rcases hcases with ⟨g1, g2, g3, g4⟩ | g1 | g1 | ⟨g1, g2, g3⟩ | ⟨g1, g2, g3, g4⟩
  case' inl =>
    obtain ⟨f, rfl⟩ := Int.eq_ofNat_of_zero_le g3
    obtain ⟨c, rfl⟩ := Int.eq_ofNat_of_zero_le (show 0 ≤ ct by omega)
    have hop : Calls Try.prog 10 #[.pointer (some ⟨q, 0, none⟩), .int .i64 (f : Int), .int .i64 (c : Int), .int .u64 1] w1 fun e w' => ∃ p, e = .returned (.tuple #[.pointer (some ⟨p, 0, none⟩), .int .i64 0]) ∧ ∃ H, Lg w' H q ⟨10, [], -1, false⟩ p f c 1 [] false ∧ Kept [] w1 w' ∧ NewF w1 F H := open_new (fr := f) (ct := c) (ep := 1) hD1 (by omega) (by omega) (by omega) (by omega)
    clear harg
    go_wp2_with fail
    refine hop.mono ?_
    rintro e W ⟨p1, rfl, H1, -, k2, -⟩
    have hD := hD1.kept k2 (by simp)
    have KK := kk1.trans k2 (by simp)
    clear hop hD1 kk1 k2
  case' inr.inl =>
    have hD := hD1
    have KK := kk1
    have hop := harg (by show fr < 0 ∨ ct < 1 ∨ ((10 : Nat) : Int) - fr < ct; omega)
    clear harg hD1 kk1
    have n1 : ¬ 1 ≤ ct := by omega
    go_wp2_with fail
    refine hop.mono ?_
    rintro e W ⟨rfl, rfl⟩
    clear hop
    obtain ⟨W, hWe⟩ : ∃ W, W = w1 := ⟨_, rfl⟩
    subst hWe
  case' inr.inr.inl =>
    have hD := hD1
    have KK := kk1
    have hop := harg (by show fr < 0 ∨ ct < 1 ∨ ((10 : Nat) : Int) - fr < ct; omega)
    clear harg hD1 kk1
    have n1 : 1 ≤ ct := by omega
    have n2 : ¬ ct ≤ 10 := by omega
    go_wp2_with fail
    refine hop.mono ?_
    rintro e W ⟨rfl, rfl⟩
    clear hop
    obtain ⟨W, hWe⟩ : ∃ W, W = w1 := ⟨_, rfl⟩
    subst hWe
  case' inr.inr.inr.inl =>
    have hD := hD1
    have KK := kk1
    have hop := harg (by show fr < 0 ∨ ct < 1 ∨ ((10 : Nat) : Int) - fr < ct; omega)
    clear harg hD1 kk1
    have n3 : ¬ 0 ≤ fr := by omega
    go_wp2_with fail
    refine hop.mono ?_
    rintro e W ⟨rfl, rfl⟩
    clear hop
    obtain ⟨W, hWe⟩ : ∃ W, W = w1 := ⟨_, rfl⟩
    subst hWe
  case' inr.inr.inr.inr =>
    have hD := hD1
    have KK := kk1
    have hop := harg (by show fr < 0 ∨ ct < 1 ∨ ((10 : Nat) : Int) - fr < ct; omega)
    clear harg hD1 kk1
    have n4 : ¬ fr ≤ 10 - ct := by omega
    go_wp2_with fail
    refine hop.mono ?_
    rintro e W ⟨rfl, rfl⟩
    clear hop
    obtain ⟨W, hWe⟩ : ∃ W, W = w1 := ⟨_, rfl⟩
    subst hWe
  all_goals
    have hon : Calls Try.prog 10 #[.pointer none, .int .i64 0, .int .i64 1, .int .u64 1] W fun e w' => e = .returned (.tuple #[.pointer none, .int .i64 1]) ∧ W = w' := open_nil 0 1 1 (by omega) (by omega) (by omega) W
    have hop2 : Calls Try.prog 10 #[.pointer (some ⟨q, 0, none⟩), .int .i64 0, .int .i64 10, .int .u64 3] W fun e w' => ∃ p, e = .returned (.tuple #[.pointer (some ⟨p, 0, none⟩), .int .i64 0]) ∧ ∃ H, Lg w' H q ⟨10, [], -1, false⟩ p 0 10 3 [] false ∧ Kept [] W w' ∧ NewF W F H := open_new (fr := 0) (ct := 10) (ep := 3) hD (by omega) (by omega) (by omega) (by omega)
    clear hD
    go_wp2_with fail
    refine hon.mono ?_
    rintro e W2 ⟨rfl, rfl⟩
    clear hon
    go_wp2_with fail
    refine (append_nil _ _).mono ?_
    rintro e W2 ⟨rfl, rfl⟩
    go_wp2_with fail
    refine (room_nil _).mono ?_
    rintro e W2 ⟨rfl, rfl⟩
    go_wp2_with fail
    refine (units_nil _).mono ?_
    rintro e W2 ⟨rfl, rfl⟩
    go_wp2_with fail
    refine (reset_nil _ _).mono ?_
    rintro e W2 ⟨rfl, rfl⟩
    go_wp2_with fail
    refine hop2.mono ?_
    rintro e w2 ⟨p, rfl, H, hL, k2, nH⟩
    have kk2 := KK.trans k2 (by simp)
    have nH2 : ∀ x ∈ H, w.heap.size ≤ x := fun x hx => by
      rcases nH x hx with h | h
      · exact hNF x h
      · exact Nat.le_trans KK.size h
    clear hop2 k2 nH KK hNF
    go_wp2_with fail
    refine (append_empty hL _ _).mono ?_
    rintro e w3 ⟨rfl, rfl⟩
    have hun : Calls Try.prog 19 #[.pointer (some ⟨p, 0, none⟩)] w2 fun e w' => ∃ g, e = .returned (.slice (some ⟨g, 0, none⟩) 0 0) ∧ Kept [] w2 w' := by
      obtain ⟨F, G, rfl, hD, hL, h3, h4, h5, h6⟩ := hL
      exact (units_any hL (by simp) (by simp)).mono fun e w' ⟨g, he, _, k, _⟩ => ⟨g, he, k⟩
    clear hL nH2
    go_wp2_with fail
    refine hun.mono ?_
    rintro e w3 ⟨g, rfl, k3⟩
    have kk3 := kk2.trans k3 (by simp)
    clear hun k3 kk2
    go_wp2_with fail
    go_loopw [113] (fun i wr => i = .int .i64 0 ∧ wr = w3) (fun _ _ => 0)
    case atStart => exact ⟨rfl, rfl⟩
    case round =>
      obtain ⟨rfl, rfl⟩ := hrel
      go_wp2_with fail
      go_quiet (fail)
      go_wp2
      go_ret
      exact ⟨rfl, kk3.drewN _⟩
end Go.Proofs.Ytdcjaopmfccgbaa
