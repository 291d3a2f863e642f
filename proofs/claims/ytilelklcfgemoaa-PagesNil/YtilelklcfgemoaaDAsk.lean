/-
  The disk's short calls: New, Blocks, Down, Writes, Written, has, SetFuse, Restart; and all calls of a nil disk.
-/
import Derived.Test.YtilelklcfgemoaaDLayW
namespace Go.Proofs.Ytilelklcfgemoaa
open Go.RowKit
set_option linter.unusedVariables false
theorem blocks_nil (w : World) : Calls Try.prog 26 #[.pointer none] w fun e w' => e = .returned (.int .i64 0) ∧ w = w' := by
  go_enter Try.func26, Try.ntmps26
  go_wp2
  go_ret
  exact ⟨rfl, rfl⟩
theorem writes_nil (w : World) : Calls Try.prog 15 #[.pointer none] w fun e w' => e = .returned (.int .i64 0) ∧ w = w' := by
  go_enter Try.func15, Try.ntmps15
  go_wp2
  go_ret
  exact ⟨rfl, rfl⟩
theorem down_nil (w : World) : Calls Try.prog 27 #[.pointer none] w fun e w' => e = .returned (.bool true) ∧ w = w' := by
  go_enter Try.func27, Try.ntmps27
  go_wp2
  go_ret
  exact ⟨rfl, rfl⟩
theorem setfuse_nil (n : Int) (w : World) : Calls Try.prog 19 #[.pointer none, .int .i64 n] w fun e w' => e = .returned (.tuple #[]) ∧ w = w' := by
  go_enter Try.func19, Try.ntmps19
  go_wp2
  first | go_end0 | refine bodyPost_ret (results_none rfl _ _ _) rfl ?_
  exact ⟨rfl, rfl⟩
theorem restart_nil (w : World) : Calls Try.prog 20 #[.pointer none] w fun e w' => e = .returned (.tuple #[]) ∧ w = w' := by
  go_enter Try.func20, Try.ntmps20
  go_wp2
  first | go_end0 | refine bodyPost_ret (results_none rfl _ _ _) rfl ?_
  exact ⟨rfl, rfl⟩
theorem cut_nil (n : Int) (w : World) : Calls Try.prog 23 #[.pointer none, .int .i64 n] w fun e w' => e = .returned (.pointer none) ∧ w = w' := by
  go_enter Try.func23, Try.ntmps23
  go_wp2
  go_ret
  exact ⟨rfl, rfl⟩
theorem read_nil (i : Int) (w : World) : Calls Try.prog 49 #[.pointer none, .int .i64 i] w fun e w' => e = .returned (.tuple #[.slice none 0 0, .int .i64 9]) ∧ w = w' := by
  go_enter Try.func49, Try.ntmps49
  go_wp2_with (go_at_call 27; refine (down_nil _).mono ?_; rintro e w' ⟨rfl, rfl⟩)
  go_ret2
  exact ⟨rfl, rfl⟩
theorem write_nil (i : Int) (v : Value) (w : World) : Calls Try.prog 47 #[.pointer none, .int .i64 i, v] w fun e w' => e = .returned (.int .i64 9) ∧ w = w' := by
  go_enter Try.func47, Try.ntmps47
  go_wp2_with (go_at_call 27; refine (down_nil _).mono ?_; rintro e w' ⟨rfl, rfl⟩)
  go_ret
  exact ⟨rfl, rfl⟩
theorem down_any {F : List Nat} {p : Nat} {s : St} {w : World} (hD : IsD w F p s) : Calls Try.prog 27 #[.pointer (some ⟨p, 0, none⟩)] w fun e w' => e = .returned (.bool s.down) ∧ w = w' := by
  obtain ⟨vd, g, hF, hbox, _⟩ := hD
  obtain ⟨c0, c1, c2, c3⟩ := cells4 hbox
  generalize s.down = b at c3
  clear hbox c0 c1 c2
  go_enter Try.func27, Try.ntmps27
  go_wp2
  go_ret
  exact ⟨rfl, rfl⟩
theorem blocks_any {F : List Nat} {p : Nat} {s : St} {w : World} (hD : IsD w F p s) : Calls Try.prog 26 #[.pointer (some ⟨p, 0, none⟩)] w fun e w' => e = .returned (.int .i64 (s.nb : Int)) ∧ w = w' := by
  obtain ⟨vd, g, hF, hbox, _⟩ := hD
  obtain ⟨c0, c1, c2, c3⟩ := cells4 hbox
  generalize s.nb = b at c1
  clear hbox c0 c3 c2
  go_enter Try.func26, Try.ntmps26
  go_wp2
  go_ret
  exact ⟨rfl, rfl⟩
theorem own_form {w : World} {e : TypeId} {size n : Nat} {v : Value} {xs : List Value} (h : w.ownsRow 0 e size v n xs) : ∃ a cap, v = .slice a n cap := by
  rcases h.2 with ⟨rfl, h0⟩ | ⟨g, cap, cur, rfl, _⟩
  · exact ⟨none, 0, by rw [h0]⟩
  · exact ⟨_, cap, rfl⟩
theorem writes_any {F : List Nat} {p : Nat} {s : St} {w : World} (hD : IsD w F p s) : Calls Try.prog 15 #[.pointer (some ⟨p, 0, none⟩)] w fun e w' => e = .returned (.int .i64 (s.ws.length : Int)) ∧ w = w' := by
  obtain ⟨vd, g, hF, hbox, hown, _⟩ := hD
  obtain ⟨a, cap, rfl⟩ := own_form hown
  obtain ⟨c0, c1, c2, c3⟩ := cells4 hbox
  clear hown
  generalize s.ws.length = b at c0
  clear hbox c1 c3 c2
  go_enter Try.func15, Try.ntmps15
  go_wp2
  go_ret
  exact ⟨rfl, rfl⟩
theorem has_no {F : List Nat} {p : Nat} {s : St} {w : World} (hD : IsD w F p s) (i : Int) (h : i < 0 ∨ (s.nb : Int) ≤ i) : Calls Try.prog 58 #[.pointer (some ⟨p, 0, none⟩), .int .i64 i] w fun e w' => e = .returned (.bool false) ∧ w = w' := by
  have hb := blocks_any hD
  generalize s.nb = b at hb h
  clear hD
  by_cases h0 : 0 ≤ i
  · have h1 : decide (i < (b : Int)) = false := by simp; omega
    go_enter Try.func58, Try.ntmps58
    go_wp2_with (go_at_call 26; refine hb.mono ?_; rintro e w' ⟨rfl, rfl⟩)
    go_ret
    exact ⟨rfl, rfl⟩
  · go_enter Try.func58, Try.ntmps58
    go_wp2
    go_ret
    exact ⟨rfl, rfl⟩
theorem has_yes {F : List Nat} {p : Nat} {s : St} {w : World} (hD : IsD w F p s) (i : Nat) (h : i < s.nb) : Calls Try.prog 58 #[.pointer (some ⟨p, 0, none⟩), .int .i64 (i : Int)] w fun e w' => e = .returned (.bool true) ∧ w = w' := by
  have hb := blocks_any hD
  generalize s.nb = b at hb h
  clear hD
  have h0 : (0 : Int) ≤ (i : Int) := by omega
  have h1 : (i : Int) < (b : Int) := by omega
  go_enter Try.func58, Try.ntmps58
  go_wp2_with (go_at_call 26; refine hb.mono ?_; rintro e w' ⟨rfl, rfl⟩)
  go_ret
  exact ⟨rfl, rfl⟩
/-- A cell of the box is stored into. -/
theorem IsD.fuse {F : List Nat} {p : Nat} {s : St} {w : World} (hD : IsD w F p s) (f : Int) (h1 : -1 ≤ f) (h2 : f < 9223372036854775808) : IsD (w.setCell ⟨p, 2, none⟩ (.int .i64 f)) F p { s with fuse := f } ∧ Kept F w (w.setCell ⟨p, 2, none⟩ (.int .i64 f)) := by
  obtain ⟨vd, g, hF, hbox, hown, hlast, hpg, hap, hag, hok⟩ := hD
  refine ⟨⟨vd, g, hF, ?_, ownsRow_setCell_other hown hap _, ?_, hpg, hap, hag, ⟨hok.nb, hok.ws, h1, h2⟩⟩, (Kept.refl F w).setCell (.inl (by rw [hF]; simp)) _⟩
  · rw [heap_setCell_same w p 2 _ 59 _ hbox]; rfl
  · rw [heap_setCell_other _ _ _ _ (fun e => hpg e.symm)]; exact hlast
theorem IsD.setDown {F : List Nat} {p : Nat} {s : St} {w : World} (hD : IsD w F p s) (b : Bool) : IsD (w.setCell ⟨p, 3, none⟩ (.bool b)) F p { s with down := b } ∧ Kept F w (w.setCell ⟨p, 3, none⟩ (.bool b)) := by
  obtain ⟨vd, g, hF, hbox, hown, hlast, hpg, hap, hag, hok⟩ := hD
  refine ⟨⟨vd, g, hF, ?_, ownsRow_setCell_other hown hap _, ?_, hpg, hap, hag, ⟨hok.nb, hok.ws, hok.fuse, hok.top⟩⟩, (Kept.refl F w).setCell (.inl (by rw [hF]; simp)) _⟩
  · rw [heap_setCell_same w p 3 _ 59 _ hbox]; rfl
  · rw [heap_setCell_other _ _ _ _ (fun e => hpg e.symm)]; exact hlast
theorem IsD.cells {F : List Nat} {p : Nat} {s : St} {w : World} (hD : IsD w F p s) : (w.cell? ⟨p, 2, none⟩ = some (.int .i64 s.fuse) ∧ w.frozen? ⟨p, 2, none⟩ = false) ∧ (w.cell? ⟨p, 3, none⟩ = some (.bool s.down) ∧ w.frozen? ⟨p, 3, none⟩ = false) := by
  obtain ⟨vd, g, hF, hbox, _⟩ := hD
  obtain ⟨c0, c1, c2, c3⟩ := cells4 hbox
  exact ⟨⟨c2, free4 hbox 2⟩, ⟨c3, free4 hbox 3⟩⟩
theorem setfuse_any {F : List Nat} {p : Nat} {s : St} {w : World} (hD : IsD w F p s) (n : Int) (h1 : -9223372036854775808 ≤ n) (h2 : n < 9223372036854775808) :
    Calls Try.prog 19 #[.pointer (some ⟨p, 0, none⟩), .int .i64 n] w fun e w' => e = .returned (.tuple #[]) ∧ IsD w' F p (fuseS s n) ∧ Kept F w w' := by
  have hfin := hD.fuse (max n (-1)) (by omega) (by omega)
  obtain ⟨⟨c2, f2⟩, _⟩ := hD.cells
  generalize s.fuse = y at c2
  clear hD
  by_cases hm : n < -1
  · have hm2 : ¬ -1 ≤ n := by omega
    rw [show max n (-1) = -1 by omega] at hfin
    have e : fuseS s n = { s with fuse := -1 } := by unfold fuseS; rw [show max n (-1) = -1 by omega]
    rw [e]
    clear e
    go_enter Try.func19, Try.ntmps19
    go_wp2
    first | go_end0 | refine bodyPost_ret (results_none rfl _ _ _) rfl ?_
    exact ⟨rfl, hfin⟩
  · rw [show max n (-1) = n by omega] at hfin
    have e : fuseS s n = { s with fuse := n } := by unfold fuseS; rw [show max n (-1) = n by omega]
    rw [e]
    clear e
    have hm2 : -1 ≤ n := by omega
    go_enter Try.func19, Try.ntmps19
    go_wp2
    first | go_end0 | refine bodyPost_ret (results_none rfl _ _ _) rfl ?_
    exact ⟨rfl, hfin⟩
theorem restart_any {F : List Nat} {p : Nat} {s : St} {w : World} (hD : IsD w F p s) :
    Calls Try.prog 20 #[.pointer (some ⟨p, 0, none⟩)] w fun e w' => e = .returned (.tuple #[]) ∧ IsD w' F p (restS s) ∧ Kept F w w' := by
  obtain ⟨hD1, hk1⟩ := hD.setDown false
  obtain ⟨hD2, hk2⟩ := hD1.fuse (-1) (by omega) (by omega)
  obtain ⟨⟨c2, f2⟩, _⟩ := hD1.cells
  obtain ⟨_, c3, f3⟩ := hD.cells
  have hk := hk1.trans hk2 (fun x hx => .inl hx)
  generalize { s with down := false }.fuse = y at c2
  generalize s.down = z at c3
  clear hD hD1 hk1 hk2
  go_enter Try.func20, Try.ntmps20
  go_wp2
  first | go_end0 | refine bodyPost_ret (results_none rfl _ _ _) rfl ?_
  exact ⟨rfl, hD2, hk⟩
end Go.Proofs.Ytilelklcfgemoaa
