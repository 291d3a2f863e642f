/-
  Programs, without memory: their bytes, there and back.
-/
import Derived.Test.YtibapmjgpnldgaaDoorZd
namespace Go.Proofs.YtibapmjgpnldgaaDoor
set_option linter.unusedVariables false
def encN (ns : List (List UInt8)) : List UInt8 := ns.flatMap encTx
def encX (xs : List In) : List UInt8 := xs.flatMap fun x => enc x.op.toNat ++ enc (fold x.arg)
/-- A program's bytes. -/
def encPg (p : Pg) : List UInt8 := enc p.names.length ++ (encN p.names ++ (enc p.code.length ++ encX p.code))
/-- n texts more. -/
def rnm : Nat → List (List UInt8) → List UInt8 → Option (List (List UInt8) × List UInt8)
  | 0, N, l => some (N, l)
  | n + 1, N, l => (txt l).bind fun a => rnm n (N ++ [a.1]) a.2
/-- n instructions more. -/
def rin : Nat → List In → List UInt8 → Option (List In × List UInt8)
  | 0, C, l => some (C, l)
  | n + 1, C, l => (num l).bind fun a => if 23 < a.1 then none else (int a.2).bind fun b => rin n (C ++ [⟨(a.1 : Int), b.1⟩]) b.2
/-- The program that bytes are. -/
def decPg (l : List UInt8) : Option Pg := (num l).bind fun a => if 8 < a.1 then none else (rnm a.1 [] a.2).bind fun b => (num b.2).bind fun c => if 200 < c.1 then none else
  (rin c.1 [] c.2).bind fun d => if d.2 = [] ∧ formedP ⟨b.1, d.1⟩ = true then some ⟨b.1, d.1⟩ else none
theorem rnm_back (X : List (List UInt8)) : ∀ P r, (∀ k ∈ X, k.length < 18446744073709551616) → rnm X.length P (encN X ++ r) = some (P ++ X, r) := by
  induction X with
  | nil => intro P r _; simp [rnm, encN]
  | cons x X ih =>
    intro P r h
    have e : encN (x :: X) ++ r = encTx x ++ (encN X ++ r) := by simp [encN]
    rw [List.length_cons, rnm, e, txt_back x (h x (by simp))]
    dsimp only [Option.bind_some]
    rw [ih (P ++ [x]) r (fun y hy => h y (by simp [hy]))]
    simp
theorem rnm_fwd (n : Nat) : ∀ P l N r, rnm n P l = some (N, r) → ∃ X, X.length = n ∧ N = P ++ X ∧ l = encN X ++ r := by
  induction n with
  | zero =>
    intro P l N r h
    simp only [rnm, Option.some.injEq, Prod.mk.injEq] at h
    obtain ⟨rfl, rfl⟩ := h
    exact ⟨[], rfl, by simp, by simp [encN]⟩
  | succ n ih =>
    intro P l N r h
    rw [rnm] at h
    cases h1 : txt l with
    | none => rw [h1] at h; cases h
    | some a =>
      obtain ⟨k, l1⟩ := a
      rw [h1] at h
      dsimp only [Option.bind_some] at h
      obtain ⟨X, h4, h5, h6⟩ := ih (P ++ [k]) l1 N r h
      exact ⟨k :: X, by simp [h4], by rw [h5]; simp, by rw [txt_fwd h1, h6]; simp [encN]⟩
theorem rin_back (X : List In) : ∀ P r, (∀ x ∈ X, (∃ i : Nat, x.op = (i : Int) ∧ i ≤ 23) ∧ I64 x.arg) → rin X.length P (encX X ++ r) = some (P ++ X, r) := by
  induction X with
  | nil => intro P r _; simp [rin, encX]
  | cons x X ih =>
    intro P r h
    obtain ⟨⟨i, hi, hl⟩, ha⟩ := h x (by simp)
    have e : encX (x :: X) ++ r = enc i ++ (enc (fold x.arg) ++ (encX X ++ r)) := by simp [encX, hi]
    rw [List.length_cons, rin, e, num_back i (by unfold U64; omega)]
    dsimp only [Option.bind_some]
    rw [if_neg (by omega), int_back x.arg ha]
    dsimp only [Option.bind_some]
    rw [← hi, show (⟨x.op, x.arg⟩ : In) = x from rfl, ih (P ++ [x]) r (fun y hy => h y (by simp [hy]))]
    simp
theorem rin_fwd (n : Nat) : ∀ P l C r, rin n P l = some (C, r) → ∃ X, X.length = n ∧ C = P ++ X ∧ l = encX X ++ r ∧ ∀ x ∈ X, I64 x.arg := by
  induction n with
  | zero =>
    intro P l C r h
    simp only [rin, Option.some.injEq, Prod.mk.injEq] at h
    obtain ⟨rfl, rfl⟩ := h
    exact ⟨[], rfl, by simp, by simp [encX], by simp⟩
  | succ n ih =>
    intro P l C r h
    rw [rin] at h
    cases h1 : num l with
    | none => rw [h1] at h; cases h
    | some a =>
      obtain ⟨i, l1⟩ := a
      rw [h1] at h
      dsimp only [Option.bind_some] at h
      split at h
      · cases h
      · cases h2 : int l1 with
        | none => rw [h2] at h; cases h
        | some b =>
          obtain ⟨z, l2⟩ := b
          rw [h2] at h
          dsimp only [Option.bind_some] at h
          obtain ⟨X, h4, h5, h6, h7⟩ := ih (P ++ [⟨(i : Int), z⟩]) l2 C r h
          refine ⟨⟨(i : Int), z⟩ :: X, by simp [h4], by rw [h5]; simp, ?_, fun y hy => ?_⟩
          · rw [num_fwd h1, int_fwd h2, h6]; simp [encX]
          · rcases List.mem_cons.1 hy with rfl | hy
            · exact (int_some h2).2.2
            · exact h7 y hy
theorem decPg_back {p : Pg} (h : formedP p = true) (ho : OkP p) : decPg (encPg p) = some p := by
  obtain ⟨N, C⟩ := p
  obtain ⟨h1, h2, h3, h4⟩ := formed_parts h
  dsimp only at h1 h2 h3 h4
  have hr1 := rnm_back N [] (enc C.length ++ encX C) (fun k hk => by have := (isKey_iff _).1 (h3 k hk); omega)
  have hr2 := rin_back C [] [] (fun x hx => by
    obtain ⟨i, w, k, e1, e2, -⟩ := okI_some (h4 x hx)
    refine ⟨⟨i, e1, ?_⟩, ho x hx⟩
    have := (List.getElem?_eq_some_iff.1 e2).1
    rw [words_length] at this
    omega)
  rw [List.append_nil, List.nil_append] at hr2
  rw [List.nil_append] at hr1
  unfold decPg encPg
  dsimp only
  rw [num_back N.length (by unfold U64; omega)]
  dsimp only [Option.bind_some]
  rw [if_neg (by omega), hr1]
  dsimp only [Option.bind_some]
  rw [num_back C.length (by unfold U64; omega)]
  dsimp only [Option.bind_some]
  rw [if_neg (by omega), hr2]
  dsimp only [Option.bind_some]
  rw [if_pos ⟨rfl, h⟩]
theorem decPg_fwd {l : List UInt8} {p : Pg} (h : decPg l = some p) : encPg p = l ∧ formedP p = true ∧ OkP p := by
  unfold decPg at h
  cases h1 : num l with
  | none => rw [h1] at h; cases h
  | some a =>
    obtain ⟨n, l1⟩ := a
    rw [h1] at h
    dsimp only [Option.bind_some] at h
    split at h
    · cases h
    · cases h2 : rnm n [] l1 with
      | none => rw [h2] at h; cases h
      | some b =>
        obtain ⟨N, l2⟩ := b
        rw [h2] at h
        dsimp only [Option.bind_some] at h
        cases h3 : num l2 with
        | none => rw [h3] at h; cases h
        | some c =>
          obtain ⟨m, l3⟩ := c
          rw [h3] at h
          dsimp only [Option.bind_some] at h
          split at h
          · cases h
          · cases h4 : rin m [] l3 with
            | none => rw [h4] at h; cases h
            | some d =>
              obtain ⟨C, l4⟩ := d
              rw [h4] at h
              dsimp only [Option.bind_some] at h
              split at h
              · rename_i hend
                simp only [Option.some.injEq] at h
                subst h
                obtain ⟨X, x1, x2, x3⟩ := rnm_fwd n [] l1 N l2 h2
                obtain ⟨Y, y1, y2, y3, y4⟩ := rin_fwd m [] l3 C l4 h4
                rw [List.nil_append] at x2 y2
                subst x2 y2
                rw [hend.1, List.append_nil] at y3
                refine ⟨?_, hend.2, y4⟩
                unfold encPg
                dsimp only
                rw [num_fwd h1, x3, num_fwd h3, y3, x1, y1]
              · cases h
end Go.Proofs.YtibapmjgpnldgaaDoor
