/-
  Texts one behind the other: what bytes are read as; rows of texts in memory. Nothing here speaks of the program.
-/
import Derived.Test.YthbopephcdohkaaRead
import Derived.Test.YthbopephcdohkaaWBytes
namespace Go.Proofs.Ythbopephcdohkaa
open Go.RowKit

theorem rtext_short (l : List UInt8) (hl : l ≠ []) (hb : (rtext l false).2.2 = false) : (rtext l false).2.1.length < l.length := by
  have hpos : 0 < l.length := List.length_pos_iff.2 hl
  unfold rtext at hb ⊢
  by_cases h1 : (rnum l false).2.1.length < (rnum l false).1
  · rw [if_pos h1] at hb; simp at hb
  · rw [if_neg h1] at hb ⊢
    simp only [List.length_drop]
    by_cases h2 : (dec l).2 = 0
    · have h3 : rnum l false = (0, [], true) := by unfold rnum; rw [if_pos h2]
      rw [h3] at hb; simp at hb
    · have h3 : rnum l false = ((dec l).1, l.drop (dec l).2, false) := by unfold rnum; rw [if_neg h2]
      rw [h3]
      simp only [List.length_drop]
      omega

/-- The texts that bytes are, if they are just texts (the first number bounds how many are tried). -/
def parseN : Nat → List UInt8 → Option (List (List UInt8))
  | _, [] => some []
  | 0, _ :: _ => none
  | n + 1, x :: r => bif (rtext (x :: r) false).2.2 then none else (parseN n (rtext (x :: r) false).2.1).map ((rtext (x :: r) false).1 :: ·)

def parse (l : List UInt8) : Option (List (List UInt8)) := parseN l.length l

theorem parseN_more : ∀ (n : Nat) (l : List UInt8), l.length ≤ n → ∀ m, n ≤ m → parseN m l = parseN n l
  | n, [], _, m, _ => by cases n <;> cases m <;> rfl
  | 0, x :: r, h, _, _ => by simp at h
  | n + 1, x :: r, h, 0, hm => by omega
  | n + 1, x :: r, h, m + 1, hm => by
    unfold parseN
    cases hb : (rtext (x :: r) false).2.2 with
    | true => rfl
    | false =>
      have hs := rtext_short (x :: r) (by simp) hb
      rw [parseN_more n (rtext (x :: r) false).2.1 (by omega) m (by omega)]

theorem parse_nil : parse [] = some [] := rfl
theorem parse_step (l : List UInt8) (hl : l ≠ []) : parse l = bif (rtext l false).2.2 then none else (parse (rtext l false).2.1).map ((rtext l false).1 :: ·) := by
  match l, hl with
  | x :: r, _ =>
    show parseN (r.length + 1) (x :: r) = _
    unfold parseN
    cases hb : (rtext (x :: r) false).2.2 with
    | true => rfl
    | false =>
      have hs := rtext_short (x :: r) (by simp) hb
      rw [cond_false, cond_false, parseN_more (rtext (x :: r) false).2.1.length _ (Nat.le_refl _) r.length (by simp at hs; omega)]
      rfl

/-- What is read in the end, where acc was read and rest is left. -/
def cont (acc : List (List UInt8)) (rest : List UInt8) (bad : Bool) : Option (List (List UInt8)) := bif bad then none else (parse rest).map (acc ++ ·)

theorem cont_step (acc : List (List UInt8)) (rest : List UInt8) (hl : rest ≠ []) : cont (acc ++ [(rtext rest false).1]) (rtext rest false).2.1 (rtext rest false).2.2 = cont acc rest false := by
  unfold cont
  rw [cond_false, parse_step rest hl]
  cases (rtext rest false).2.2 with
  | true => rfl
  | false =>
    rw [cond_false, cond_false]
    cases parse (rtext rest false).2.1 with
    | none => rfl
    | some x => simp

theorem cont_begin (l : List UInt8) : cont [] l false = parse l := by
  unfold cont
  rw [cond_false]
  cases parse l <;> simp

theorem cont_end (acc : List (List UInt8)) : cont acc [] false = some acc := by
  unfold cont
  rw [cond_false, parse_nil]
  simp

/-- A text as a cell. -/
def T8 (t : List UInt8) : Value := .string ⟨t.toArray⟩
/-- Texts as cells. -/
def CT (l : List (List UInt8)) : List Value := l.map T8
theorem CT_length (l : List (List UInt8)) : (CT l).length = l.length := by simp [CT]
theorem CT_append (a b : List (List UInt8)) : CT (a ++ b) = CT a ++ CT b := by simp [CT]
theorem CT_one (l : List (List UInt8)) : ∀ u ∈ CT l, u.oneCell' = true := by
  intro u hu
  simp only [CT, List.mem_map] at hu
  obtain ⟨b, _, rfl⟩ := hu
  rfl

/-- The slice v reads as the texts l. -/
def ReadsT (w : World) (v : Value) (l : List (List UInt8)) : Prop :=
  ∃ a cap, v = .slice a l.length cap ∧ l.length ≤ cap ∧ cap ≤ maxLen ∧ (a = none → cap = 0) ∧ (l ≠ [] → ∃ b o, a = some ⟨b, o, none⟩ ∧ ∀ j u, l[j]? = some u → w.cell? ⟨b, o + j, none⟩ = some (T8 u))

theorem ReadsT.nil (w : World) : ReadsT w (.slice none 0 0) [] := ⟨none, 0, rfl, by simp, by simp, by simp, by simp⟩

theorem ReadsT.kept {S : List Nat} {w w' : World} {v : Value} {l : List (List UInt8)} (h : ReadsT w v l) (k : Kept S w w') (hn : ∀ g, v.ownBlock = some g → g ∉ S) : ReadsT w' v l := by
  obtain ⟨a, cap, rfl, h2, h3, h4, h5⟩ := h
  refine ⟨a, cap, rfl, h2, h3, h4, fun hl => ?_⟩
  obtain ⟨b, o, rfl, hc⟩ := h5 hl
  refine ⟨b, o, rfl, fun j u hu => ?_⟩
  have := hc j u hu
  rw [k.cell (World.block_lt_of_cell? w _ this) (hn b rfl)]
  exact this

/-- The slice v owns the texts l, in a row of its own. -/
def OwnsT (w : World) (v : Value) (l : List (List UInt8)) : Prop := w.ownsRow 0 9 1 v l.length (CT l)

theorem OwnsT.nil (w : World) : OwnsT w (.slice none 0 0) [] := World.ownsRow_nil w 0 9 1

theorem OwnsT.reads {w : World} {v : Value} {l : List (List UInt8)} (h : OwnsT w v l) : ReadsT w v l := by
  have hcells := fun g hg => World.ownsRow.cells h (g := g) hg
  rcases h.2 with ⟨rfl, h0⟩ | ⟨g, cap, cur, rfl, _, hg, h1, h2, h3, h4⟩
  · have : l = [] := List.eq_nil_of_length_eq_zero h0
    subst this
    exact ReadsT.nil w
  · refine ⟨some ⟨g, 0, none⟩, cap, rfl, h1, h2, by simp, fun hl => ⟨g, 0, rfl, fun j u hu => ?_⟩⟩
    have := hcells g rfl j (T8 u) (by simp [CT, hu])
    have hadd : (⟨g, 0, Option.none⟩ : Addr).add j = ⟨g, 0 + j, Option.none⟩ := by unfold Addr.add; split <;> simp_all
    rw [hadd] at this
    exact this

theorem OwnsT.kept {S : List Nat} {w w' : World} {v : Value} {l : List (List UInt8)} (h : OwnsT w v l) (k : Kept S w w') (hn : ∀ g, v.ownBlock = some g → g ∉ S) : OwnsT w' v l := by
  refine ⟨h.1, ?_⟩
  rcases h.2 with h0 | ⟨g, cap, cur, rfl, hb, hg, r⟩
  · exact .inl h0
  · exact .inr ⟨g, cap, cur, rfl, hb, k.keeps hg (hn g rfl), r⟩

theorem OwnsT.lt {w : World} {v : Value} {l : List (List UInt8)} (h : OwnsT w v l) {k : Nat} (hk : v.ownBlock = some k) : k < w.heap.size := (World.ownsRow.lt h k hk).2

theorem OwnsT.form {w : World} {v : Value} {l : List (List UInt8)} (h : OwnsT w v l) : ∃ a cap, v = .slice a l.length cap := by
  rcases h.2 with ⟨rfl, h0⟩ | ⟨g, cap, cur, rfl, _⟩
  · exact ⟨none, 0, by rw [h0]⟩
  · exact ⟨_, cap, rfl⟩

/-- How many bytes a Reader has left, by its cell. -/
def leftAt (w : World) (p : Nat) : Nat := match w.cell? ⟨p, 0, none⟩ with
  | some (.slice _ n _) => n
  | _ => 0

theorem leftAt_of {t : TypeId} {w : World} {p : Nat} {v : Value} {l : List UInt8} {bad : Bool} (hR : IsR t w p v l bad) : leftAt w p = l.length := by
  obtain ⟨hc0, -⟩ := cell_of_two hR.box
  obtain ⟨a, cap, rfl, -⟩ := hR.reads
  unfold leftAt
  rw [hc0]

end Go.Proofs.Ythbopephcdohkaa
