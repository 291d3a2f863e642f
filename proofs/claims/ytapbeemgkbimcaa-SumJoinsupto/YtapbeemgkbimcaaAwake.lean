/-
  awake: it is true.
-/
import Derived.Test.YtapbeemgkbimcaaTurn
import Derived.Lib.SlBytesConst
namespace Go.Proofs.Ytapbeemgkbimcaa
open Go.RowKit
set_option linter.unusedVariables false

theorem Sealed.kept {w w' : World} {v : Value} {l : List UInt8} (h : Sealed w w' v l) : Kept [] w w' := by
  obtain ⟨_, _, _, _, _, h⟩ := h; exact h

theorem reads_marked (w : World) (u : UInt8) (z : Int) (hz : Value.int .u8 z = B8 u) (fr : Nat × Nat) : Reads (w.alloc (.cells #[.int .u8 z] 5 fr)) (.slice (some ⟨w.heap.size, 0, none⟩) 1 1) [u] := by
  refine ⟨_, 1, rfl, by simp, by unfold maxLen; omega, by simp, fun _ => ⟨w.heap.size, 0, rfl, fun j x hx => ?_⟩⟩
  cases j with
  | zero =>
    simp at hx
    subst hx
    rw [World.cell?_alloc_mark, ← hz]
    rfl
  | succ j => simp at hx

set_option maxRecDepth 100000 in
set_option maxHeartbeats 1000000 in
theorem awake_walk (w : World) (B : List UInt8) (hB : Fits 1 2 B) (hpB : payloadOf B = [120])
    (hseal : ∀ v W, Reads W v [120] → Calls Try.prog 11 #[.int .u8 1, .int .u32 2, v] W fun e w' => ∃ v', e = .returned (.tuple #[v', .int .i64 0]) ∧ Sealed W w' v' B)
    (hopen : ∀ v W, Reads W v B → Calls Try.prog 13 #[.int .u8 1, .int .u32 2, v] W fun e w' => Opened 1 2 B W e w') :
    Calls Try.prog 8 #[] w fun e w' => e = .returned (.bool true) ∧ Kept [] w w' := by
  have kc := fun (w : World) (C : Array Value) (n c : Nat) => Lib.run_convert_bytes_const (P := Try.prog) w 22 5 C n c Try.underlying22 Try.underlying5
  have hr0 := reads_marked w 120 120 rfl (1, 2)
  have hk0 := (Kept.refl [] w).alloc (.cells #[.int .u8 120] 5 (1, 2))
  go_enter Try.func8, Try.ntmps8
  go_wp2_with fail
  refine (hseal _ _ hr0).mono ?_
  rintro e w1 ⟨v1, rfl, hS⟩
  have hr1 := hS.reads
  have hk1 := hk0.trans hS.kept (by simp)
  obtain ⟨g, rfl, _⟩ := hS
  clear hr0 hk0
  go_wp2_with fail
  refine (hopen _ _ hr1).mono ?_
  rintro e w2 ⟨v2, ok, p, rfl, hp, hk2, hor⟩
  rcases hor with ⟨rfl, _, rfl⟩ | ⟨rfl, hno, rfl⟩
  · rw [hpB] at hp
    have hk3 := hk1.trans hk2 (by simp)
    have s1 := string_of (P := Try.prog) 22 5 Try.underlying22 9 Try.underlying5 Try.underlying9 v2 _ w2 hp
    have hr2 := reads_marked w2 97 97 rfl (1, 2)
    have hk4 := hk3.alloc (.cells #[.int .u8 97] 5 (1, 2))
    have hsum := sum_any _ _ _ hr2
    rw [fnv_a] at hsum
    clear hp hk2 hr1 hk1 hk3 hr2 hopen hseal hB hpB
    go_wp2_with (go_at_call 9; refine hsum.mono ?_; rintro e w3 ⟨rfl, rfl⟩)
    go_ret
    exact ⟨rfl, hk4⟩
  · exact absurd hB hno

/-- awake, anywhere. -/
theorem awake_any (w : World) : Calls Try.prog 8 #[] w fun e w' => e = .returned (.bool true) ∧ Kept [] w w' := by
  have h1 : ([120] : List UInt8).length ≤ 242 := by simp
  exact awake_walk w (sealedL 1 2 [120]) (fits_sealed 1 2 [120] h1) (sealedL_payload 1 2 [120] h1) (fun v W h => seal_any 1 2 v [120] W (by omega) h1 h) (fun v W h => open_any 1 2 v _ W (by omega) h)

end Go.Proofs.Ytapbeemgkbimcaa
