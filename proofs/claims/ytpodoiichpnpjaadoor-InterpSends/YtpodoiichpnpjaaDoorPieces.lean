/-
  Lists of pieces: their bytes, and how they lie in memory. Nothing here speaks of the program.
-/
import Derived.Test.YtpodoiichpnpjaaDoorRead
import Derived.IntWalk
namespace Go.Proofs.YtpodoiichpnpjaaDoor
set_option maxRecDepth 100000
open Go.RowKit
/-- A piece: its kind, its number, its text. -/
structure PieceD where
  kind : Int
  n : Nat
  s : ByteArray
/-- A piece's bytes. -/
def encP (x : PieceD) : List UInt8 :=
  if x.kind = 1 then enc x.n else if x.kind = 2 then enc (fold (wrap64 (x.n : Int))) else enc x.s.size ++ x.s.data.toList
/-- A list's bytes. -/
def encAll (l : List PieceD) : List UInt8 := l.flatMap encP
/-- How much room a list asks for, at most. -/
def heavy : List PieceD → Nat
  | [] => 0
  | x :: r => x.s.size + 9 + heavy r
theorem encP_le (x : PieceD) : (encP x).length ≤ x.s.size + 9 := by
  unfold encP
  have h1 := enc_length x.n
  have h2 := enc_length (fold (wrap64 (x.n : Int)))
  have h3 := enc_length x.s.size
  have h4 : x.s.data.toList.length = x.s.size := by simp
  split
  · omega
  · split
    · omega
    · rw [List.length_append]; omega
theorem encAll_le (l : List PieceD) : (encAll l).length ≤ heavy l := by
  induction l with
  | nil => simp [encAll]
  | cons x r ih =>
    have := encP_le x
    simp only [encAll, List.flatMap_cons, List.length_append, heavy] at ih ⊢
    omega
theorem heavy_take (l : List PieceD) (k : Nat) (x : PieceD) (h : l[k]? = some x) : heavy (l.take k) + x.s.size + 9 ≤ heavy l := by
  induction l generalizing k with
  | nil => simp at h
  | cons y r ih =>
    cases k with
    | zero => simp at h; subst h; simp [heavy]
    | succ k =>
      have := ih k (by simpa using h)
      simp only [List.take_succ_cons, heavy]
      omega
theorem encAll_take (l : List PieceD) (k : Nat) (x : PieceD) (h : l[k]? = some x) : encAll (l.take (k + 1)) = encAll (l.take k) ++ encP x := by
  rw [List.take_add_one, h]
  simp [encAll]
theorem encAll_drop (l : List PieceD) (k : Nat) (x : PieceD) (h : l[k]? = some x) : encAll (l.drop k) = encP x ++ encAll (l.drop (k + 1)) := by
  obtain ⟨hlt, hx⟩ := List.getElem?_eq_some_iff.1 h
  rw [List.drop_eq_getElem_cons hlt, hx]
  simp [encAll]
/-- The slice v (three cells an element) reads as the pieces l. -/
def Holds (w : World) (v : Value) (l : List PieceD) : Prop :=
  ∃ a cap, v = .slice a l.length cap ∧ l.length ≤ cap ∧ cap ≤ maxLen ∧ (∀ x ∈ l, x.n < 18446744073709551616 ∧ -9223372036854775808 ≤ x.kind ∧ x.kind ≤ 9223372036854775807) ∧
    (l ≠ [] → ∃ b o, a = some ⟨b, o, none⟩ ∧ ∀ j x, l[j]? = some x → w.cell? ⟨b, o + j * 3, none⟩ = some (.int .i64 x.kind) ∧ w.cell? ⟨b, o + j * 3 + 1, none⟩ = some (.int .u64 (x.n : Int)) ∧ w.cell? ⟨b, o + j * 3 + 2, none⟩ = some (.string x.s))
theorem Holds.kept {w w' : World} {v : Value} {l : List PieceD} (h : Holds w v l) (k : Kept [] w w') : Holds w' v l := by
  obtain ⟨a, cap, rfl, h2, h3, h4, h5⟩ := h
  refine ⟨a, cap, rfl, h2, h3, h4, fun hl => ?_⟩
  obtain ⟨b, o, rfl, hc⟩ := h5 hl
  refine ⟨b, o, rfl, fun j x hx => ?_⟩
  obtain ⟨c0, c1, c2⟩ := hc j x hx
  rw [k.cell (World.block_lt_of_cell? w _ c0) (by simp), k.cell (World.block_lt_of_cell? w _ c1) (by simp), k.cell (World.block_lt_of_cell? w _ c2) (by simp)]
  exact ⟨c0, c1, c2⟩
theorem rnum_back (n : Nat) (h : n < 18446744073709551616) (rest : List UInt8) : rnum (enc n ++ rest) false = (n, rest, false) := by
  have hl := enc_length n
  unfold rnum
  rw [dec_enc n h rest, if_neg (by omega)]
  simp
theorem rtext_back (s : List UInt8) (h : s.length < 18446744073709551616) (rest : List UInt8) : rtext (enc s.length ++ (s ++ rest)) false = (s, rest, false) := by
  unfold rtext
  rw [rnum_back s.length h]
  simp
end Go.Proofs.YtpodoiichpnpjaaDoor
