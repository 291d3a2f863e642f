/-
  awake answers true.
-/
import Derived.Test.YthjdlbejfaejkaaHas
import Derived.Lib.SlBytesConst
namespace Go.Proofs.Ythjdlbejfaejkaa
open Go.RowKit
set_option linter.unusedVariables false

theorem reads_marked (w : World) (u : UInt8) (z : Int) (hz : Value.int .u8 z = B8 u) (fr : Nat × Nat) : Reads (w.alloc (.cells #[.int .u8 z] 5 fr)) (.slice (some ⟨w.heap.size, 0, none⟩) 1 1) [u] := by
  refine ⟨_, 1, rfl, by simp, by unfold maxLen; omega, by simp, fun _ => ⟨w.heap.size, 0, rfl, fun j x hx => ?_⟩⟩
  cases j with
  | zero =>
    simp at hx
    subst hx
    rw [World.cell?_alloc_mark, ← hz]
    rfl
  | succ j => simp at hx

set_option maxRecDepth 100000 in
set_option maxHeartbeats 400000 in
/-- awake, anywhere. -/
theorem awake_any (w : World) : Calls Try.prog 7 #[] w fun e w' => e = .returned (.bool true) ∧ Kept [] w w' := by
  have kc := fun (w : World) (C : Array Value) (n c : Nat) => Lib.run_convert_bytes_const (P := Try.prog) w 32 5 C n c Try.underlying32 Try.underlying5
  have hnew : Calls Try.prog 8 #[.int .i64 2] w fun e w' => ∃ q, e = .returned (.pointer (some ⟨q, 0, none⟩)) ∧ Dsk w w' q 2 [] := new_dsk 2 (by omega) (Kept.refl [] w)
  go_enter Try.func7, Try.ntmps7
  go_wp2_with fail
  refine hnew.mono ?_
  rintro e w1 ⟨q, rfl, h1⟩
  clear hnew
  go_wp2_with fail
  refine (open_dsk h1 (by omega) (by simp)).mono ?_
  rintro e w2 ⟨p, rfl, h2, -⟩
  clear h1
  have hr0 := reads_marked w2 97 97 rfl (1, 2)
  have hk0 := (Kept.refl [] w2).alloc (.cells #[.int .u8 97] 5 (1, 2))
  have hsv := save_has (h2.keep hk0) (by omega) (by simp) _ [97] hr0 (by simp)
  rw [List.nil_append] at hsv
  clear hr0 hk0
  go_wp2_with fail
  refine hsv.mono ?_
  rintro e w3 ⟨rfl, h3⟩
  have hg := gen_has h3
  have ht := text_has h3
  rw [show lastS [[97]] = [97] from rfl] at ht
  have hk := h3.k
  have e1 : (([[97]] : List (List UInt8)).length : Int) = 1 := rfl
  rw [e1] at hg
  clear hsv h2 h3 e1
  go_wp2_with fail
  refine hg.mono ?_
  rintro e w4 ⟨rfl, rfl⟩
  go_wp2_with fail
  refine ht.mono ?_
  rintro e w5 ⟨a, c, rfl, hs, k⟩
  have hs' : (convert 32 9 (.slice a 1 c)).run Try.prog w5 = .ok (.string ⟨#[97]⟩) w5 := hs
  have hfin := hk.trans k (by simp)
  clear hs ht hg k hk
  go_wp2_with fail
  go_ret
  exact ⟨rfl, hfin⟩

end Go.Proofs.Ythjdlbejfaejkaa
