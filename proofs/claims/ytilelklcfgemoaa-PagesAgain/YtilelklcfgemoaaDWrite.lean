/-
  Write of a disk.
-/
import Derived.Test.YtilelklcfgemoaaDAsk2
namespace Go.Proofs.Ytilelklcfgemoaa
open Go.RowKit
set_option linter.unusedVariables false
theorem write_down {F : List Nat} {p : Nat} {s : St} {w : World} (hD : IsD w F p s) (i : Int) (v : Value) (hd : s.down = true) : Calls Try.prog 47 #[.pointer (some ⟨p, 0, none⟩), .int .i64 i, v] w fun e w' => e = .returned (.int .i64 9) ∧ w = w' := by
  have h1 := down_any hD
  rw [hd] at h1
  clear hD hd
  go_enter Try.func47, Try.ntmps47
  go_wp2_with (go_at_call 27; refine h1.mono ?_; rintro e w' ⟨rfl, rfl⟩)
  go_ret
  exact ⟨rfl, rfl⟩
theorem write_arg {F : List Nat} {p : Nat} {s : St} {w : World} (hD : IsD w F p s) (i : Int) (a : Option Addr) (n cap : Nat) (hd : s.down = false) (h : i < 0 ∨ (s.nb : Int) ≤ i ∨ n ≠ 256) : Calls Try.prog 47 #[.pointer (some ⟨p, 0, none⟩), .int .i64 i, .slice a n cap] w fun e w' => e = .returned (.int .i64 1) ∧ w = w' := by
  have h1 := down_any hD
  rw [hd] at h1
  by_cases hb : i < 0 ∨ (s.nb : Int) ≤ i
  · have h2 := has_no hD i hb
    clear hD hd h hb
    go_enter Try.func47, Try.ntmps47
    go_wp2_with (first | (go_at_call 27; refine h1.mono ?_; rintro e w' ⟨rfl, rfl⟩) | (go_at_call 58; refine h2.mono ?_; rintro e w' ⟨rfl, rfl⟩))
    go_ret
    exact ⟨rfl, rfl⟩
  · obtain ⟨k, rfl⟩ := Int.eq_ofNat_of_zero_le (show 0 ≤ i by omega)
    have h2 := has_yes hD k (by omega)
    have hne : ((n : Int) != 256) = true := by simp; omega
    clear hD hd h hb
    go_enter Try.func47, Try.ntmps47
    go_wp2_with (first | (go_at_call 27; refine h1.mono ?_; rintro e w' ⟨rfl, rfl⟩) | (go_at_call 58; refine h2.mono ?_; rintro e w' ⟨rfl, rfl⟩))
    go_ret
    exact ⟨rfl, rfl⟩
theorem write_fuse {F : List Nat} {p : Nat} {s : St} {w : World} (hD : IsD w F p s) (k : Nat) (a : Option Addr) (cap : Nat) (hd : s.down = false) (hk : k < s.nb) (hf : s.fuse = 0) : Calls Try.prog 47 #[.pointer (some ⟨p, 0, none⟩), .int .i64 (k : Int), .slice a 256 cap] w fun e w' => e = .returned (.int .i64 9) ∧ IsD w' F p { s with down := true } ∧ Kept F w w' := by
  have h1 := down_any hD
  rw [hd] at h1
  have h2 := has_yes hD k hk
  have hfin := hD.setDown true
  obtain ⟨⟨c2, f2⟩, ⟨c3, f3⟩⟩ := hD.cells
  rw [hf] at c2
  generalize s.down = y at c3
  clear hD hd hf
  go_enter Try.func47, Try.ntmps47
  go_wp2_with (first | (go_at_call 27; refine h1.mono ?_; rintro e w' ⟨rfl, rfl⟩) | (go_at_call 58; refine h2.mono ?_; rintro e w' ⟨rfl, rfl⟩))
  go_ret
  exact ⟨rfl, hfin⟩
theorem write_free {F : List Nat} {p : Nat} {s : St} {w : World} (hD : IsD w F p s) (k : Nat) (a : Option Addr) (cap : Nat) (l : List UInt8) (hd : s.down = false) (hk : k < s.nb) (hf : s.fuse < 0) (hl : l.length = 256) (hr : Reads w (.slice a 256 cap) l) (hb : s.ws.length ≤ 100000) : Calls Try.prog 47 #[.pointer (some ⟨p, 0, none⟩), .int .i64 (k : Int), .slice a 256 cap] w fun e w' => e = .returned (.int .i64 0) ∧ ∃ F', IsD w' F' p { s with ws := s.ws ++ [(k, l)] } ∧ Kept F w w' ∧ NewF w F F' := by
  have h1 := down_any hD
  rw [hd] at h1
  have h2 := has_yes hD k hk
  have h3 := lay_any F p k s _ l w hD hk hl hr hb
  obtain ⟨⟨c2, f2⟩, ⟨c3, f3⟩⟩ := hD.cells
  generalize hfu : s.fuse = f at c2 hf h3
  clear hD hd hfu hl hr hb c3 f3 f2
  have hf0 : (f == 0) = false := by simp; omega
  have hf1 : ¬ 0 < f := by omega
  go_enter Try.func47, Try.ntmps47
  go_wp2_with (first | (go_at_call 27; refine h1.mono ?_; rintro e w' ⟨rfl, rfl⟩) | (go_at_call 58; refine h2.mono ?_; rintro e w' ⟨rfl, rfl⟩) | (go_at_call 38; refine h3.mono ?_; rintro e w' ⟨rfl, h4⟩))
  go_ret
  exact ⟨rfl, h4⟩
theorem write_burn {F : List Nat} {p : Nat} {s : St} {w : World} (hD : IsD w F p s) (k : Nat) (a : Option Addr) (cap : Nat) (l : List UInt8) (hd : s.down = false) (hk : k < s.nb) (hf : 0 < s.fuse) (hl : l.length = 256) (hr : Reads w (.slice a 256 cap) l) (hv : ∀ g, (Value.slice a 256 cap).ownBlock = some g → g ∉ F) (hb : s.ws.length ≤ 100000) : Calls Try.prog 47 #[.pointer (some ⟨p, 0, none⟩), .int .i64 (k : Int), .slice a 256 cap] w fun e w' => e = .returned (.int .i64 0) ∧ ∃ F', IsD w' F' p { s with fuse := s.fuse - 1, ws := s.ws ++ [(k, l)] } ∧ Kept F w w' ∧ NewF w F F' := by
  have h1 := down_any hD
  rw [hd] at h1
  have h2 := has_yes hD k hk
  have ht := hD.ok.top
  obtain ⟨hD1, hk1⟩ := hD.fuse (s.fuse - 1) (by omega) (by omega)
  have h3 : Calls Try.prog 38 #[.pointer (some ⟨p, 0, none⟩), .int .i64 (k : Int), .slice a 256 cap] (w.setCell ⟨p, 2, none⟩ (.int .i64 (s.fuse - 1))) fun e w' => e = .returned (.tuple #[]) ∧ ∃ F', IsD w' F' p { s with fuse := s.fuse - 1, ws := s.ws ++ [(k, l)] } ∧ Kept F w w' ∧ NewF w F F' :=
    (lay_any F p k _ _ l _ hD1 hk hl (hr.kept hk1 hv) hb).mono fun e w' ⟨he, F', a1, a2, a3⟩ => ⟨he, F', a1, hk1.trans a2 (fun x hx => .inl hx), fun x hx => by rcases a3 x hx with h | h; exact .inl h; exact .inr (by simpa using h)⟩
  obtain ⟨⟨c2, f2⟩, ⟨c3, f3⟩⟩ := hD.cells
  clear hD1 hk1
  generalize hfu : s.fuse = f at c2 hf h3 ht
  clear hD hd hfu hl hr hb c3 f3 hv
  have hf0 : (f == 0) = false := by simp; omega
  go_enter Try.func47, Try.ntmps47
  go_wp2_with (first | (go_at_call 27; refine h1.mono ?_; rintro e w' ⟨rfl, rfl⟩) | (go_at_call 58; refine h2.mono ?_; rintro e w' ⟨rfl, rfl⟩) | (go_at_call 38; refine h3.mono ?_; rintro e w' ⟨rfl, h4⟩))
  go_ret
  exact ⟨rfl, h4⟩
/-- Write, as the document has it. -/
theorem write_any {F : List Nat} {p : Nat} {s : St} {w : World} (hD : IsD w F p s) (i : Int) (v : Value) (l : List UInt8) (hr : Reads w v l) (hv : ∀ g, v.ownBlock = some g → g ∉ F) (hb : s.ws.length ≤ 100000) :
    Calls Try.prog 47 #[.pointer (some ⟨p, 0, none⟩), .int .i64 i, v] w fun e w' => e = .returned (.int .i64 (wrE s i l.length)) ∧ ∃ F', IsD w' F' p (wrS s i l) ∧ Kept F w w' ∧ NewF w F F' := by
  have hr' := hr
  obtain ⟨a, cap, rfl, _, _, _, _⟩ := hr
  unfold wrE wrS
  by_cases hd : s.down = true
  · rw [if_pos hd, if_pos hd]
    exact (write_down hD i _ hd).mono fun e w' ⟨he, hw⟩ => ⟨he, F, hw ▸ hD, hw ▸ Kept.refl F w, NewF.refl w F⟩
  have hd' : s.down = false := by simpa using hd
  rw [if_neg hd, if_neg hd]
  by_cases h : i < 0 ∨ (s.nb : Int) ≤ i ∨ l.length ≠ 256
  · rw [if_pos h, if_pos h]
    exact (write_arg hD i a _ cap hd' h).mono fun e w' ⟨he, hw⟩ => ⟨he, F, hw ▸ hD, hw ▸ Kept.refl F w, NewF.refl w F⟩
  rw [if_neg h, if_neg h]
  obtain ⟨k, rfl⟩ := Int.eq_ofNat_of_zero_le (show 0 ≤ i by omega)
  have hl : l.length = 256 := by omega
  have hk : k < s.nb := by omega
  rw [hl] at hr' ⊢
  rw [hl] at hv
  by_cases hf : s.fuse = 0
  · rw [if_pos hf, if_pos hf]
    exact (write_fuse hD k a cap hd' hk hf).mono fun e w' ⟨he, h1, h2⟩ => ⟨he, F, h1, h2, NewF.refl w F⟩
  rw [if_neg hf, if_neg hf]
  by_cases hp : 0 < s.fuse
  · rw [if_pos hp]
    exact write_burn hD k a cap l hd' hk hp hl hr' hv hb
  · rw [if_neg hp]
    exact write_free hD k a cap l hd' hk (by omega) hl hr' hb
end Go.Proofs.Ytilelklcfgemoaa
