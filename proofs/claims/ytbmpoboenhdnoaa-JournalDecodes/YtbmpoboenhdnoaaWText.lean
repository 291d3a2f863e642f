/-
  Writer.Int and Writer.Text: what they lay.
-/
import Derived.Test.YtbmpoboenhdnoaaWNum
import Derived.Test.YtbmpoboenhdnoaaStr
namespace Go.Proofs.Ytbmpoboenhdnoaa
set_option maxRecDepth 100000
open Go.RowKit
set_option maxHeartbeats 400000 in
theorem wint_nil (z : Int) (w : World) (h1 : -9223372036854775808 ≤ z) (h2 : z ≤ 9223372036854775807) : Calls Try.prog 34 #[.pointer none, .int .i64 z] w fun e w' => e = .returned (.tuple #[]) ∧ w = w' := by
  go_enter Try.func34, Try.ntmps34
  go_wp2_with (first | (go_at_call 48; refine (fold_any z _ h1 h2).mono ?_; rintro e w' ⟨rfl, rfl⟩) | (go_at_call 33; refine (wnum_nil _ _).mono ?_; rintro e w' ⟨rfl, rfl⟩))
  go_end0
  exact ⟨rfl, rfl⟩
set_option maxHeartbeats 400000 in
theorem wint_any (p : Nat) (v : Value) (l : List UInt8) (z : Int) (w : World) (hW : IsW 80 5 w p v l) (h1 : -9223372036854775808 ≤ z) (h2 : z ≤ 9223372036854775807) (hb : l.length + 9 ≤ 140737488355328) :
    Calls Try.prog 34 #[.pointer (some ⟨p, 0, none⟩), .int .i64 z] w fun e w' => e = .returned (.tuple #[]) ∧ Laid 80 5 w p v (l ++ enc (fold z)) w' := by
  have hf := fold_lt z h1 h2
  go_enter Try.func34, Try.ntmps34
  go_wp2_with (first | (go_at_call 48; refine (fold_any z _ h1 h2).mono ?_; rintro e w' ⟨rfl, rfl⟩) | (go_at_call 33; refine (wnum_any p v l (fold z) _ hW hf hb).mono ?_; rintro e w' ⟨rfl, hL⟩))
  go_end0
  exact ⟨rfl, hL⟩
theorem laid_str {t e : TypeId} {w w1 w2 : World} {p : Nat} {v v2 : Value} {l l2 : List UInt8} (hW : IsW t e w p v l) (hown : Owns e w1 v2 l2) (hg : w.grownBy w1 v.ownBlock) (hat : New w v v2) (h2 : w2 = w1.setCell ⟨p, 0, none⟩ v2) : Laid t e w p v l2 w2 := by
  subst h2
  exact laid_step hW (Kept.refl [] w) hown hg hat
end Go.Proofs.Ytbmpoboenhdnoaa
