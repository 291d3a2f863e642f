/-
  Writer.Int and Writer.Text: what they lay.
-/
import Derived.Test.YtibapmjgpnldgaaDoorWNum
import Derived.Test.YtibapmjgpnldgaaDoorStr
namespace Go.Proofs.YtibapmjgpnldgaaDoor
set_option maxRecDepth 100000
open Go.RowKit
set_option maxHeartbeats 400000 in
theorem wint_nil (z : Int) (w : World) (h1 : -9223372036854775808 ≤ z) (h2 : z ≤ 9223372036854775807) : Calls Tryd.prog 43 #[.pointer none, .int .i64 z] w fun e w' => e = .returned (.tuple #[]) ∧ w = w' := by
  go_enter Tryd.func43, Tryd.ntmps43
  go_wp2_with (first | (go_at_call 69; refine (fold_any z _ h1 h2).mono ?_; rintro e w' ⟨rfl, rfl⟩) | (go_at_call 41; refine (wnum_nil _ _).mono ?_; rintro e w' ⟨rfl, rfl⟩))
  go_end0
  exact ⟨rfl, rfl⟩
set_option maxHeartbeats 400000 in
theorem wint_any (p : Nat) (v : Value) (l : List UInt8) (z : Int) (w : World) (hW : IsW 117 5 w p v l) (h1 : -9223372036854775808 ≤ z) (h2 : z ≤ 9223372036854775807) (hb : l.length + 9 ≤ 140737488355328) :
    Calls Tryd.prog 43 #[.pointer (some ⟨p, 0, none⟩), .int .i64 z] w fun e w' => e = .returned (.tuple #[]) ∧ Laid 117 5 w p v (l ++ enc (fold z)) w' := by
  have hf := fold_lt z h1 h2
  go_enter Tryd.func43, Tryd.ntmps43
  go_wp2_with (first | (go_at_call 69; refine (fold_any z _ h1 h2).mono ?_; rintro e w' ⟨rfl, rfl⟩) | (go_at_call 41; refine (wnum_any p v l (fold z) _ hW hf hb).mono ?_; rintro e w' ⟨rfl, hL⟩))
  go_end0
  exact ⟨rfl, hL⟩
set_option maxHeartbeats 400000 in
theorem wtext_nil (s : ByteArray) (w : World) : Calls Tryd.prog 42 #[.pointer none, .string s] w fun e w' => e = .returned (.tuple #[]) ∧ w = w' := by
  go_enter Tryd.func42, Tryd.ntmps42
  go_wp2
  refine bodyPost_ret (results_none rfl _ _ _) rfl ?_
  exact ⟨rfl, rfl⟩
theorem laid_str {t e : TypeId} {w w1 w2 : World} {p : Nat} {v v2 : Value} {l l2 : List UInt8} (hW : IsW t e w p v l) (hown : Owns e w1 v2 l2) (hg : w.grownBy w1 v.ownBlock) (hat : New w v v2) (h2 : w2 = w1.setCell ⟨p, 0, none⟩ v2) : Laid t e w p v l2 w2 := by
  subst h2
  exact laid_step hW (Kept.refl [] w) hown hg hat
set_option maxHeartbeats 1000000 in
theorem wtext_any (p : Nat) (v : Value) (l : List UInt8) (s : ByteArray) (w : World) (hW : IsW 117 5 w p v l) (hb : l.length + 9 + s.size ≤ 140737488355328) :
    Calls Tryd.prog 42 #[.pointer (some ⟨p, 0, none⟩), .string s] w fun e w' => e = .returned (.tuple #[]) ∧ Laid 117 5 w p v (l ++ enc s.size ++ s.data.toList) w' := by
  obtain ⟨i0, hi, hz0, hz1, hz2⟩ := info_parts info5
  have hlt := hW.lt
  have hel := enc_length s.size
  obtain ⟨hel1, hel2⟩ := hel
  go_enter Tryd.func42, Tryd.ntmps42
  go_wp2_with (first | (go_at_call 41; refine (wnum_any p v l s.size _ hW (by omega) (by omega)).mono ?_; rintro e w1 ⟨rfl, v1, hW1, hk1, hn1⟩; have hcell := cell_of_one hW1.box; have hfree := free_of_one hW1.box) | (at_builtin; refine wpList_append_str_lies _ rfl _ _ _ _ rfl 5 i0 Tryd.underlying45 Tryd.underlying9 hi hz0 hz1 hz2 v1 (l ++ enc s.size) rfl hW1.own s rfl (by rw [List.length_append]; omega) ?_; intro a2 n2 c2 w2 hown hgrow hat; obtain ⟨hc2, hf2⟩ := ready_store hW1 (Kept.refl [] w1) hgrow))
  go_end0
  exact ⟨rfl, Laid.trans hk1 hn1 (laid_step hW1 (Kept.refl [] w1) hown hgrow hat)⟩
end Go.Proofs.YtibapmjgpnldgaaDoor
