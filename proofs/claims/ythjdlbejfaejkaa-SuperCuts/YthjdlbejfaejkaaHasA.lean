/-
  A disk and a Super of it, apart from other memory of the caller's.
-/
import Derived.Test.YthjdlbejfaejkaaTxt
namespace Go.Proofs.Ythjdlbejfaejkaa
open Go.RowKit
set_option linter.unusedVariables false

/-- As Has, and the blocks of A are none of theirs. -/
def HasA (w0 w : World) (q p nb : Nat) (saves : List (List UInt8)) (A : List Nat) : Prop :=
  ∃ F s v, Sys w F q s p v (saves.length, lastS saves) false ∧ Hist s.ws saves ∧ s.down = false ∧ s.fuse = -1 ∧ s.nb = nb ∧ Kept [] w0 w ∧ (∀ x ∈ F, w0.heap.size ≤ x) ∧ w0.heap.size ≤ p ∧ (∀ x ∈ A, x < w.heap.size ∧ x ≠ p ∧ x ∉ F ∧ v.ownBlock ≠ some x)
theorem HasA.has {w0 w : World} {q p nb : Nat} {saves : List (List UInt8)} {A : List Nat} (h : HasA w0 w q p nb saves A) : Has w0 w q p nb saves := by
  obtain ⟨F, s, v, h1, h2, h3, h4, h5, h6, h7, h8, _⟩ := h
  exact ⟨F, s, v, h1, h2, h3, h4, h5, h6, h7, h8⟩
theorem HasA.k {w0 w : World} {q p nb : Nat} {saves : List (List UInt8)} {A : List Nat} (h : HasA w0 w q p nb saves A) : Kept [] w0 w := h.has.k
/-- The caller's memory has turned, and grown. -/
theorem HasA.grow {w0 w w' : World} {q p nb : Nat} {saves : List (List UInt8)} {A A' : List Nat} (h : HasA w0 w q p nb saves A) (k : Kept A w w') (hA : ∀ x ∈ A, w0.heap.size ≤ x) (hA' : ∀ x ∈ A', x < w'.heap.size ∧ (x ∈ A ∨ w.heap.size ≤ x)) : HasA w0 w' q p nb saves A' := by
  obtain ⟨F, s, v, h1, h2, h3, h4, h5, h6, h7, h8, h9⟩ := h
  refine ⟨F, s, v, ⟨h1.dsk.kept k (fun x hx hm => (h9 x hm).2.2.1 hx), h1.sup.kept k (fun hm => (h9 p hm).2.1 rfl) (fun g hg hm => (h9 g hm).2.2.2 hg), h1.pF, h1.vF⟩, h2, h3, h4, h5, h6.trans k (fun x hx => .inr (hA x hx)), h7, h8, fun x hx => ⟨(hA' x hx).1, ?_⟩⟩
  rcases (hA' x hx).2 with hm | hm
  · exact (h9 x hm).2
  · exact ⟨fun e => by have := h1.sup.lt; omega, fun e => by have := h1.dsk.lt x e; omega, fun e => by have := h1.sup.vlt x e; omega⟩
theorem Has.apart {w0 w : World} {q p nb : Nat} {saves : List (List UInt8)} (h : Has w0 w q p nb saves) : HasA w0 w q p nb saves [] := by
  obtain ⟨F, s, v, h1, h2, h3, h4, h5, h6, h7, h8⟩ := h
  exact ⟨F, s, v, h1, h2, h3, h4, h5, h6, h7, h8, by simp⟩

/-- Save, of what is not too long. -/
theorem save_hasA {w0 w : World} {q p nb : Nat} {saves : List (List UInt8)} {A : List Nat} (h : HasA w0 w q p nb saves A) (hn : 2 ≤ nb) (hs : saves.length ≤ 500) (v : Value) (l : List UInt8) (hr : Reads w v l) (hl : l.length ≤ 200) :
    Calls Try.prog 12 #[.pointer (some ⟨p, 0, none⟩), v] w fun e w' => e = .returned (.int .i64 0) ∧ HasA w0 w' q p nb (saves ++ [l]) A ∧ ∃ S, Kept S w w' ∧ ∀ x ∈ A, x ∉ S := by
  obtain ⟨F, s, vp, h1, h2, h3, h4, h5, h6, h7, h8, h9⟩ := h
  have hp := plc_succ saves.length (by omega)
  have hlt : plc (saves.length + 1) < s.nb := by have := plc_lt (saves.length + 1); omega
  have hr' := hr
  obtain ⟨a, cap, rfl, _⟩ := hr
  have hws : s.ws.length = saves.length := h2.1
  refine (save_ok h1 a l.length cap l hr' rfl hl (show saves.length ≤ 1000 by omega) (by omega) (wrE_ok h3 h4 hlt)).mono fun e w' ⟨he, F', v', hY, hk, hN, hf⟩ => ⟨he, ?_, _, hk, fun x hx hm => ?_⟩
  · have hY' : Sys w' F' q (wrS s (plc (saves.length + 1) : Int) (blkOf (saves.length + 1) l)) p v' (saves.length + 1, l) false := hY
    rw [wrS_ok' h3 h4 hlt (blkOf_length _ l hl)] at hY'
    refine ⟨F', { s with ws := s.ws ++ [(plc (saves.length + 1), blkOf (saves.length + 1) l)] }, v', ?_, ?_, h3, h4, h5, h6.trans hk (fun x hx => ?_), fun x hx => ?_, h8, fun x hx => ⟨Nat.lt_of_lt_of_le (h9 x hx).1 hk.size, (h9 x hx).2.1, fun hm => ?_, fun hm => ?_⟩⟩
    · rw [show ((saves ++ [l]).length, lastS (saves ++ [l])) = (saves.length + 1, l) by rw [lastS_snoc]; simp]
      exact hY'
    · show Hist (s.ws ++ [(plc (saves.length + 1), blkOf (saves.length + 1) l)]) _
      have := h2.snoc l hl
      rw [hp]
      exact this
    · rcases List.mem_cons.1 hx with rfl | hx
      · exact .inr h8
      · exact .inr (h7 x hx)
    · rcases hN x hx with h | h
      · exact h7 x h
      · exact Nat.le_trans h6.size h
    · rcases hN x hm with h | h
      · exact (h9 x hx).2.2.1 h
      · have := (h9 x hx).1; omega
    · have := hf x hm; have := (h9 x hx).1; omega
  · rcases List.mem_cons.1 hm with h | h
    · exact (h9 x hx).2.1 h
    · exact (h9 x hx).2.2.1 h

/-- What was kept, one behind the other, is what was saved last behind so many writes. -/
theorem kept_at (saves : List (List UInt8)) (n : Nat) (h : n ≤ saves.length) : ([] :: saves)[n]? = some (lastS (saves.take n)) := by
  cases n with
  | zero => simp [lastS]
  | succ n =>
    have hl : (saves.take (n + 1)).length = n + 1 := by rw [List.length_take]; omega
    unfold lastS
    rw [hl, Nat.add_sub_cancel, List.getElem?_take_of_lt (by omega), List.getElem?_cons_succ, List.getElem?_eq_getElem (by omega)]
    rfl

/-- 'append(v, text)'. -/
theorem append_text (w : World) (ty : TypeId) (v : Value) (ts : List (List UInt8)) (t : List UInt8) (hO : OwnsT w v ts) (hb : ts.length ≤ 1000) :
    ∃ ad cap w', (Builtin.append_ #[38, 38] ty #[v, .slice (some ⟨w.heap.size, 0, none⟩) 1 1]).run Try.prog (w.alloc (.cells #[T8 t] 9)) = .ok (.slice ad (ts.length + 1) cap) w' ∧ OwnsT w' (.slice ad (ts.length + 1) cap) (ts ++ [t]) ∧ Kept v.ownBlock.toList w w' ∧ New w v (.slice ad (ts.length + 1) cap) := by
  have k0 := (Kept.refl [] w).alloc (.cells #[T8 t] 9)
  have hR : ReadsT (w.alloc (.cells #[T8 t] 9)) (.slice (some ⟨w.heap.size, 0, none⟩) 1 1) [t] := by
    refine ⟨_, 1, rfl, by simp, by unfold maxLen; omega, by simp, fun _ => ⟨w.heap.size, 0, rfl, fun j u hu => ?_⟩⟩
    cases j with
    | zero =>
      simp at hu
      subst hu
      rw [cell_of_row _ w.heap.size _ _ 9 (0, 0) (heap_alloc_new w _)]
      rfl
    | succ j => simp at hu
  obtain ⟨ad, n, cap, w', h1, h2, h3, h4⟩ := run_appendT (w.alloc (.cells #[T8 t] 9)) ty v ts (hO.kept k0 (by simp)) _ [t] hR (by simp; omega)
  have hn : n = ts.length + 1 := by
    obtain ⟨_, _, he⟩ := h2.form
    injection he with _ he _
    simpa using he
  subst hn
  refine ⟨ad, cap, w', h1, h2, (k0.mono (by simp)).grown h3 (fun k hk => .inl (by rw [Option.mem_toList]; exact hk)), fun g hg => ?_⟩
  rcases h4 g hg with h | h
  · exact .inl h
  · exact .inr (Nat.le_trans k0.size h)

end Go.Proofs.Ythjdlbejfaejkaa
