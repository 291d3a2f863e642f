/-
  awake answers true.
-/
import Derived.Test.YtdcjaopmfccgbaaApn
import Derived.Lib.SlBytesConst
namespace Go.Proofs.Ytdcjaopmfccgbaa
open Go.RowKit
set_option linter.unusedVariables false

theorem reads_marked (w : World) (u : UInt8) (z : Int) (hz : Value.int .u8 z = B8 u) (fr : Nat × Nat) : Reads (w.alloc (.cells #[.int .u8 z] 5 fr)) (.slice (some ⟨w.heap.size, 0, none⟩) 1 1) [u] := by
  refine ⟨_, 1, rfl, by simp, by unfold maxLen; omega, by simp, fun _ => ⟨w.heap.size, 0, rfl, fun j x hx => ?_⟩⟩
  cases j with
  | zero =>
    simp at hx
    subst hx
    rw [World.cell?_alloc_mark, ← hz]
    rfl
  | succ j => simp at hx
/-- A Log that was opened. -/
theorem Lg.opened {w w' : World} {F G : List Nat} {q p fr ct ep : Nat} {us : List (List UInt8)} {s : St} (hD : IsD w F q s) (hL : IsL w' G p q fr ct ep us (tot us) false) (k : Kept [] w w') (hG : ∀ x ∈ G, w.heap.size ≤ x) (hA : Ar s.ws fr ct ep us) (ha : fr + ct ≤ s.nb) (hc : 1 ≤ ct) : Lg w' (F ++ G) q s p fr ct ep us false :=
  ⟨F, G, rfl, hD.kept k (by simp), hL, fun x hx hg => by have := hD.lt x hx; have := hG x hg; omega, hA, ha, hc⟩
/-- A new disk and its Log. -/
theorem open_new {w : World} {F : List Nat} {q fr ct ep nb : Nat} (hD : IsD w F q ⟨nb, [], -1, false⟩) (hc : 1 ≤ ct) (ha : fr + ct ≤ nb) (hnb : nb ≤ 65536) (he : ep < 18446744073709551616) :
    Calls Try.prog 10 #[.pointer (some ⟨q, 0, none⟩), .int .i64 (fr : Int), .int .i64 (ct : Int), .int .u64 (ep : Int)] w fun e w' => ∃ p, e = .returned (.tuple #[.pointer (some ⟨p, 0, none⟩), .int .i64 0]) ∧ ∃ H, Lg w' H q ⟨nb, [], -1, false⟩ p fr ct ep [] false ∧ Kept [] w w' ∧ NewF w F H := by
  have hA : Ar (⟨nb, [], -1, false⟩ : St).ws fr ct ep [] := Ar.new fr ct ep (by omega) he
  refine (open_ok hD rfl hc ha hA).mono fun e w' ⟨p, he, G, hL, k, hG⟩ => ⟨p, he, F ++ G, Lg.opened hD hL k hG hA ha hc, k, fun x hx => ?_⟩
  rcases List.mem_append.1 hx with h | h
  · exact .inl h
  · exact .inr (hG x h)

set_option maxRecDepth 100000 in
set_option maxHeartbeats 400000 in
/-- awake, anywhere. -/
theorem awake_any (w : World) : Calls Try.prog 8 #[] w fun e w' => e = .returned (.bool true) ∧ Kept [] w w' := by
  have kc := fun (w : World) (C : Array Value) (n c : Nat) => Lib.run_convert_bytes_const (P := Try.prog) w 35 5 C n c Try.underlying35 Try.underlying5
  have hnew : Calls Try.prog 9 #[.int .i64 4] w fun e w' => ∃ p, e = .returned (.pointer (some ⟨p, 0, none⟩)) ∧ ∃ F, IsD w' F p ⟨4, [], -1, false⟩ ∧ Kept [] w w' ∧ ∀ x ∈ F, w.heap.size ≤ x := new_nb 4 (by omega) w
  go_enter Try.func8, Try.ntmps8
  go_wp2_with fail
  refine hnew.mono ?_
  rintro e w1 ⟨q, rfl, F, hD, k1, nF⟩
  have hop : Calls Try.prog 10 #[.pointer (some ⟨q, 0, none⟩), .int .i64 1, .int .i64 3, .int .u64 1] w1 fun e w' => ∃ p, e = .returned (.tuple #[.pointer (some ⟨p, 0, none⟩), .int .i64 0]) ∧ ∃ H, Lg w' H q ⟨4, [], -1, false⟩ p 1 3 1 [] false ∧ Kept [] w1 w' ∧ NewF w1 F H := open_new (fr := 1) (ct := 3) (ep := 1) hD (by omega) (by omega) (by omega) (by omega)
  clear hnew hD
  go_wp2_with fail
  refine hop.mono ?_
  rintro e w2 ⟨p, rfl, H, hL, k2, nH⟩
  have kk2 : Kept [] w w2 := k1.trans k2 (by simp)
  have nH2 : ∀ x ∈ H, w.heap.size ≤ x := fun x hx => by
    rcases nH x hx with h | h
    · exact nF x h
    · exact Nat.le_trans k1.size h
  clear hop k1 k2 nH nF
  have hr0 := reads_marked w2 97 97 rfl (1, 2)
  have hk0 := (Kept.refl [] w2).alloc (.cells #[.int .u8 97] 5 (1, 2))
  have hap := append_any (hL.kept hk0 (by simp)) _ 1 1 [97] hr0 rfl (fun g hg hm => by simp [Value.ownBlock] at hg; have := hL.lt g hm; omega) (by omega) (by omega) (by decide) rfl (by simp)
  have kk3 := kk2.trans hk0 (by simp)
  clear hr0
  go_wp2_with fail
  refine hap.mono ?_
  rintro e w3 (⟨rfl, -, H3, hL3, k3, n3⟩ | ⟨j, _, hj, _⟩)
  case inr => exact absurd hj (by show ¬ ((-1 : Int) = _); omega)
  have kk4 : Kept [] w w3 := kk3.trans k3 (fun x hx => .inr (nH2 x hx))
  have hun : Calls Try.prog 19 #[.pointer (some ⟨p, 0, none⟩)] w3 fun e w' => ∃ g, e = .returned (.slice (some ⟨g, 0, none⟩) 1 1) ∧ Kept [] w3 w' := by
    obtain ⟨F, G, rfl, hD, hL, h3, h4, h5, h6⟩ := hL3
    exact (units_any hL (by simp) (by simp)).mono fun e w' ⟨g, he, _, k, _⟩ => ⟨g, he, k⟩
  have hro : ∀ w4, Kept [] w3 w4 → Calls Try.prog 20 #[.pointer (some ⟨p, 0, none⟩)] w4 fun e w' => e = .returned (.int .i64 2) ∧ Kept [] w4 w' := fun w4 k4 => by
    obtain ⟨F, G, rfl, hD, hL, h3, h4, h5, h6⟩ := hL3.kept k4 (by simp)
    have := room_any hL (by omega) (by decide)
    exact this
  clear hap hL hL3 k3 n3 kk3 hk0
  go_wp2_with fail
  refine hun.mono ?_
  rintro e w4 ⟨g, rfl, k4⟩
  have hro4 := hro w4 k4
  have kk5 := kk4.trans k4 (by simp)
  clear hun hro k4 kk4
  go_wp2_with fail
  refine hro4.mono ?_
  rintro e w5 ⟨rfl, k5⟩
  have kk6 := kk5.trans k5 (by simp)
  clear hro4 k5 kk5
  go_wp2_with fail
  go_ret
  exact ⟨rfl, kk6⟩
end Go.Proofs.Ytdcjaopmfccgbaa
