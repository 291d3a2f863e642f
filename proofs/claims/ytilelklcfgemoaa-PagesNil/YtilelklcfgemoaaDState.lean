/-
  What a disk is, as the document has it: its writes, its fuse, whether it is down. Nothing here speaks of the program.
-/
import Derived.Test.YtilelklcfgemoaaDMem
namespace Go.Proofs.Ytilelklcfgemoaa
set_option linter.unusedVariables false
/-- A write: which block, and what. -/
abbrev Wr := Nat × List UInt8
structure St where
  nb : Nat
  ws : List Wr
  fuse : Int
  down : Bool
/-- How many writes were done when block i was written last. -/
def lastOf : List Wr → Nat → Nat → Nat → Nat
  | [], _, r, _ => r
  | x :: t, n, r, i => lastOf t (n + 1) (if x.1 = i then n + 1 else r) i
def lastN (ws : List Wr) (i : Nat) : Nat := lastOf ws 0 0 i
theorem lastOf_snoc (x : Wr) (i : Nat) : ∀ (ws : List Wr) (n r : Nat), lastOf (ws ++ [x]) n r i = if x.1 = i then n + ws.length + 1 else lastOf ws n r i
  | [], n, r => by simp [lastOf]
  | y :: t, n, r => by
    simp only [List.cons_append, lastOf, List.length_cons]
    rw [lastOf_snoc x i t (n + 1)]
    by_cases h : x.1 = i
    · rw [if_pos h, if_pos h]; omega
    · rw [if_neg h, if_neg h]
theorem lastN_snoc (ws : List Wr) (x : Wr) (i : Nat) : lastN (ws ++ [x]) i = if x.1 = i then ws.length + 1 else lastN ws i := by
  unfold lastN
  rw [lastOf_snoc, Nat.zero_add]
theorem lastOf_le (i : Nat) : ∀ (ws : List Wr) (n r : Nat), r ≤ n → lastOf ws n r i ≤ n + ws.length
  | [], n, r, h => by simpa [lastOf] using h
  | y :: t, n, r, h => by
    simp only [lastOf, List.length_cons]
    have := lastOf_le i t (n + 1) (if y.1 = i then n + 1 else r) (by split <;> omega)
    omega
theorem lastN_le (ws : List Wr) (i : Nat) : lastN ws i ≤ ws.length := by
  have := lastOf_le i ws 0 0 (Nat.le_refl _)
  unfold lastN; omega
/-- What lies in block i. -/
def blk (ws : List Wr) (i : Nat) : List UInt8 := if lastN ws i = 0 then zs 256 else (ws.getD (lastN ws i - 1) (0, [])).2
/-- Behind k writes, none of the later ones into i. -/
def free (ws : List Wr) (i k : Nat) : Prop := ∀ j x, k ≤ j → ws[j]? = some x → x.1 ≠ i
theorem lastN_free (ws : List Wr) (i : Nat) : ∀ k, k ≤ ws.length → free ws i k → lastN ws i = lastN (ws.take k) i := by
  intro k hk hf
  induction h : ws.length - k generalizing k with
  | zero => rw [List.take_of_length_le (by omega)]
  | succ n ih =>
    have hlt : k < ws.length := by omega
    rw [ih (k + 1) (by omega) (fun j x hj hx => hf j x (by omega) hx) (by omega), List.take_succ_eq_append_getElem hlt, lastN_snoc, if_neg (hf k ws[k] (Nat.le_refl _) (by simp))]
theorem lastN_at (ws : List Wr) (i k : Nat) (x : Wr) (hx : ws[k]? = some x) (hi : x.1 = i) (hf : free ws i (k + 1)) : lastN ws i = k + 1 := by
  obtain ⟨hlt, hxx⟩ := List.getElem?_eq_some_iff.1 hx
  rw [lastN_free ws i (k + 1) (by omega) hf, List.take_succ_eq_append_getElem hlt, lastN_snoc, hxx, if_pos hi, List.length_take]
  omega
theorem lastN_none (ws : List Wr) (i : Nat) (hf : free ws i 0) : lastN ws i = 0 := by
  rw [lastN_free ws i 0 (by omega) hf]
  rfl
theorem blk_at (ws : List Wr) (i k : Nat) (x : Wr) (hx : ws[k]? = some x) (hi : x.1 = i) (hf : free ws i (k + 1)) : blk ws i = x.2 := by
  unfold blk
  rw [lastN_at ws i k x hx hi hf, if_neg (by omega), Nat.add_sub_cancel, List.getD_eq_getElem?_getD, hx]
  rfl
theorem blk_none (ws : List Wr) (i : Nat) (hf : free ws i 0) : blk ws i = zs 256 := by
  unfold blk
  rw [lastN_none ws i hf, if_pos rfl]
/-- Each write is of a block that is there, and of 256 bytes. -/
def okW (nb : Nat) (ws : List Wr) : Prop := ∀ x ∈ ws, x.1 < nb ∧ x.2.length = 256
theorem okW.snoc {nb : Nat} {ws : List Wr} (h : okW nb ws) {i : Nat} {l : List UInt8} (hi : i < nb) (hl : l.length = 256) : okW nb (ws ++ [(i, l)]) := by
  intro x hx
  rcases List.mem_append.1 hx with hx | hx
  · exact h x hx
  · simp at hx; subst hx; exact ⟨hi, hl⟩
theorem okW.take {nb : Nat} {ws : List Wr} (h : okW nb ws) (k : Nat) : okW nb (ws.take k) := fun x hx => h x (List.mem_of_mem_take hx)
theorem okW.nil (nb : Nat) : okW nb [] := fun _ h => by cases h
theorem blk_len (nb : Nat) (ws : List Wr) (h : okW nb ws) (i : Nat) : (blk ws i).length = 256 := by
  unfold blk
  split
  · exact zs_length 256
  · rename_i hne
    have hle := lastN_le ws i
    rw [List.getD_eq_getElem?_getD, List.getElem?_eq_getElem (by omega)]
    exact (h _ (List.getElem_mem _)).2
/-- What Write answers, and what it leaves. -/
def wrE (s : St) (i : Int) (n : Nat) : Int := if s.down = true then 9 else if i < 0 ∨ (s.nb : Int) ≤ i ∨ n ≠ 256 then 1 else if s.fuse = 0 then 9 else 0
def wrS (s : St) (i : Int) (l : List UInt8) : St :=
  if s.down = true then s else if i < 0 ∨ (s.nb : Int) ≤ i ∨ l.length ≠ 256 then s else if s.fuse = 0 then { s with down := true }
  else { s with ws := s.ws ++ [(i.toNat, l)], fuse := if 0 < s.fuse then s.fuse - 1 else s.fuse }
/-- What Read answers. -/
def rdE (s : St) (i : Int) : Int := if s.down = true then 9 else if i < 0 ∨ (s.nb : Int) ≤ i then 1 else 0
def rdL (s : St) (i : Int) : List UInt8 := if rdE s i = 0 then blk s.ws i.toNat else []
/-- What Written answers. -/
def wnA (s : St) (n : Int) : Int := if n < 0 ∨ (s.ws.length : Int) ≤ n then -1 else ((s.ws.getD n.toNat (0, [])).1 : Int)
/-- What is always so of a disk. -/
structure St.ok (s : St) : Prop where
  nb : s.nb ≤ 65536
  ws : okW s.nb s.ws
  fuse : -1 ≤ s.fuse
  top : s.fuse < 9223372036854775808
theorem wrS_ok {s : St} (h : s.ok) (i : Int) (l : List UInt8) : (wrS s i l).ok := by
  unfold wrS
  split
  · exact h
  split
  · exact h
  split
  · exact ⟨h.nb, h.ws, h.fuse, h.top⟩
  · rename_i h1 h2 h3
    have h2' := not_or.1 h2
    have h2'' := not_or.1 h2'.2
    refine ⟨h.nb, h.ws.snoc (by show i.toNat < s.nb; omega) (Decidable.byContradiction h2''.2), ?_, ?_⟩
    · show -1 ≤ (if 0 < s.fuse then s.fuse - 1 else s.fuse)
      have := h.fuse; split <;> omega
    · show (if 0 < s.fuse then s.fuse - 1 else s.fuse) < _
      have := h.top; split <;> omega
theorem wrS_len (s : St) (i : Int) (l : List UInt8) : (wrS s i l).ws.length ≤ s.ws.length + 1 := by
  unfold wrS
  split
  · omega
  split
  · omega
  split
  · exact Nat.le_succ _
  · simp
theorem wrS_nb (s : St) (i : Int) (l : List UInt8) : (wrS s i l).nb = s.nb := by
  unfold wrS; split; rfl; split; rfl; split <;> rfl
def fuseS (s : St) (n : Int) : St := { s with fuse := max n (-1) }
def restS (s : St) : St := { s with down := false, fuse := -1 }
theorem fuseS_ok {s : St} (h : s.ok) (n : Int) (hn : n < 9223372036854775808) : (fuseS s n).ok := ⟨h.nb, h.ws, by show -1 ≤ max n (-1); omega, by show max n (-1) < _; omega⟩
theorem restS_ok {s : St} (h : s.ok) : (restS s).ok := ⟨h.nb, h.ws, by show (-1 : Int) ≤ -1; omega, by show (-1 : Int) < _; omega⟩
/-- A new disk. -/
def newN (b : Int) : Nat := (min (max b 0) 65536).toNat
def newS (b : Int) : St := ⟨newN b, [], -1, false⟩
theorem newN_le (b : Int) : newN b ≤ 65536 := by unfold newN; omega
theorem newS_ok (b : Int) : (newS b).ok := ⟨newN_le b, okW.nil _, by show (-1 : Int) ≤ -1; omega, by show (-1 : Int) < _; omega⟩
/-- How many writes a cut has. -/
def cutN (s : St) (n : Int) : Nat := (min (max n 0) (s.ws.length : Int)).toNat
def cutS (s : St) (n : Int) : St := ⟨s.nb, s.ws.take (cutN s n), -1, false⟩
theorem cutN_le (s : St) (n : Int) : cutN s n ≤ s.ws.length := by unfold cutN; omega
theorem cutS_ok {s : St} (h : s.ok) (n : Int) : (cutS s n).ok := ⟨h.nb, h.ws.take _, by show (-1 : Int) ≤ -1; omega, by show (-1 : Int) < _; omega⟩
end Go.Proofs.Ytilelklcfgemoaa
