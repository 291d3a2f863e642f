/-
  Programs in memory: rows of names and rows of instructions.
-/
import Derived.Test.YtpodoiichpnpjaaDoorGl
namespace Go.Proofs.YtpodoiichpnpjaaDoor
open Go.RowKit
set_option maxRecDepth 100000
abbrev Sv (s : List UInt8) : Value := .string ⟨s.toArray⟩
def rowN (N : List (List UInt8)) : List (List Value) := N.map fun s => [.string ⟨s.toArray⟩]
def rowI (C : List In) : List (List Value) := C.map fun x => [.int .i64 x.op, .int .i64 x.arg]
theorem rowN_length (N : List (List UInt8)) : (rowN N).length = N.length := by simp [rowN]
theorem rowI_length (C : List In) : (rowI C).length = C.length := by simp [rowI]
theorem wideN (N : List (List UInt8)) : Wide 1 (rowN N) := fun r hr => by
  obtain ⟨s, -, rfl⟩ := List.mem_map.1 hr
  exact ⟨rfl, fun u hu => by simp at hu; subst hu; rfl⟩
theorem wideI (C : List In) : Wide 2 (rowI C) := fun r hr => by
  obtain ⟨s, -, rfl⟩ := List.mem_map.1 hr
  exact ⟨rfl, fun u hu => by simp at hu; rcases hu with rfl | rfl <;> rfl⟩
/-- A program in memory: its names' row and its instructions'. -/
structure IsP (w : World) (v u : Value) (p : Pg) : Prop where
  names : ReadsR 1 w v (rowN p.names)
  code : ReadsR 2 w u (rowI p.code)
theorem ReadsR.keep {k : Nat} {w w' : World} {v : Value} {rs : List (List Value)} (h : ReadsR k w v rs) (kk : Kept [] w w') : ReadsR k w' v rs := h.kept kk (by simp)
theorem IsP.keep {w w' : World} {v u : Value} {p : Pg} (h : IsP w v u p) (k : Kept [] w w') : IsP w' v u p := ⟨h.names.keep k, h.code.keep k⟩
theorem IsP.form {w : World} {v u : Value} {p : Pg} (h : IsP w v u p) : ∃ a c b d, v = .slice a p.names.length c ∧ u = .slice b p.code.length d ∧ p.names.length ≤ 9223372036854775807 ∧ p.code.length ≤ 9223372036854775807 := by
  obtain ⟨a, c, e, h1, h2⟩ := h.names.form
  obtain ⟨b, d, e', h1', h2'⟩ := h.code.form
  rw [rowN_length] at e h1
  rw [rowI_length] at e' h1'
  exact ⟨a, c, b, d, e, e', by omega, by omega⟩
/-- The cell of a name. -/
theorem names_at {w : World} {a : Option Addr} {n c : Nat} {N : List (List UInt8)} (h : ReadsR 1 w (.slice a n c) (rowN N)) {j : Nat} (hj : j < N.length) : ∃ b o, a = some ⟨b, o, none⟩ ∧ w.cell? ⟨b, o + j, none⟩ = some (.string ⟨N[j].toArray⟩) := by
  obtain ⟨b, o, c', e, hc⟩ := h.at j [.string ⟨N[j].toArray⟩] (by simp [rowN, hj])
  simp only [Value.slice.injEq] at e
  refine ⟨b, o, e.1, ?_⟩
  have := hc 0 _ rfl
  simpa using this
/-- The cells of an instruction. -/
theorem code_at {w : World} {a : Option Addr} {n c : Nat} {C : List In} (h : ReadsR 2 w (.slice a n c) (rowI C)) {j : Nat} (hj : j < C.length) : ∃ b o, a = some ⟨b, o, none⟩ ∧ w.cell? ⟨b, o + j * 2, none⟩ = some (.int .i64 C[j].op) ∧ w.cell? ⟨b, o + j * 2 + 1, none⟩ = some (.int .i64 C[j].arg) := by
  obtain ⟨b, o, c', e, hc⟩ := h.at j [.int .i64 C[j].op, .int .i64 C[j].arg] (by simp [rowI, hj])
  simp only [Value.slice.injEq] at e
  exact ⟨b, o, e.1, hc 0 _ rfl, hc 1 _ rfl⟩
/-- Where an operation's row lies. -/
theorem op_at {w : World} (h : Glob w) {i : Nat} (hi : i < 24) : ∃ s k, words[i]? = some (s, k) ∧ k ≤ 5 ∧ w.cell? ⟨0, 2 * i, none⟩ = some (.string ⟨s.toArray⟩) ∧ w.cell? ⟨0, 2 * i + 1, none⟩ = some (.int .i64 (k : Int)) := by
  have hl : i < words.length := hi
  have e : words[i]? = some (words[i].1, words[i].2) := by rw [List.getElem?_eq_getElem hl]
  have hk : ∀ x ∈ words, x.2 ≤ 5 := by decide
  exact ⟨_, _, e, hk _ (List.getElem_mem hl), h.ops i _ _ e⟩
/-- How many integers may stand there. -/
def choiceN (nn nc k : Nat) : Int := if k = 2 then 8 else if k = 3 then 4 else if k = 4 then (nc : Int) + 1 else if k = 5 then (nn : Int) else 1
theorem choice_most {nn nc k : Nat} (hk : k ≤ 5) (h1 : k ≠ 1) : choiceN nn nc k = mostI nn nc k + 1 := by
  unfold choiceN mostI
  match k, hk, h1 with
  | 0, _, _ => rfl
  | 2, _, _ => rfl
  | 3, _, _ => rfl
  | 4, _, _ => rfl
  | 5, _, _ => simp
theorem okI_at {nn nc i k : Nat} {s : List UInt8} {x : In} (ho : x.op = (i : Int)) (h : words[i]? = some (s, k)) (hk : k ≤ 5) : okI nn nc x = (decide (k = 1) || (decide (0 ≤ x.arg) && decide (x.arg < choiceN nn nc k))) := by
  unfold okI
  rw [ho, Int.toNat_natCast, h]
  dsimp only
  rw [show decide (0 ≤ (i : Int)) = true by simp, Bool.true_and]
  by_cases h1 : k = 1
  · subst h1; rfl
  · rw [choice_most hk h1]
    congr 2
    simp
    omega
theorem okI_out {nn nc : Nat} {x : In} (h : x.op < 0 ∨ 24 ≤ x.op) : okI nn nc x = false := by
  unfold okI
  rcases h with h | h
  · split
    · simp; omega
    · rfl
  · rw [List.getElem?_eq_none (by rw [words_length]; omega)]
end Go.Proofs.YtpodoiichpnpjaaDoor
