/-
  A strings.Builder that is written.
-/
import Derived.Test.YtibapmjgpnldgaaDoorFn
namespace Go.Proofs.YtibapmjgpnldgaaDoor
open Go.RowKit
set_option maxRecDepth 100000
set_option linter.unusedVariables false
/-- A Builder at block b, made behind W, holds l; nothing elder was turned. -/
structure Bd (W : World) (b : Nat) (l : List UInt8) (wr : World) : Prop where
  isB : Lib.IsBuilderF 60 5 b b (Lib.byteCells l) wr
  hb : W.heap.size = b
  kept : Kept [] W wr
section
variable {W wr w2 : World} {b : Nat} {l : List UInt8}
theorem builderAt_keep {p : Value} {bs : List Value} {B : Nat} (h : Lib.BuilderAtF 60 5 B b p bs wr) (k : Kept [] wr w2) : Lib.BuilderAtF 60 5 B b p bs w2 := by
  obtain ⟨hB, v, hbk, hown, hne⟩ := h
  refine ⟨hB, v, k.keeps hbk (by simp), ?_, hne⟩
  obtain ⟨h1, h2⟩ := hown
  refine ⟨h1, ?_⟩
  rcases h2 with h2 | ⟨g, cap, cur, fz, e1, e2, e3, e4⟩
  · exact .inl h2
  · exact .inr ⟨g, cap, cur, fz, e1, e2, k.keeps e3 (by simp), e4⟩
theorem Bd.keep (h : Bd W b l wr) (k : Kept [] wr w2) : Bd W b l w2 :=
  ⟨h.isB.elim (fun x => .inl (builderAt_keep x k)) (fun x => .inr (builderAt_keep x k)), h.hb, h.kept.then k⟩
theorem Bd.below (h : Bd W b l wr) (B : Below b wr w2) : Kept [] W w2 :=
  ⟨B.os.trans h.kept.os, B.tape.trans h.kept.tape, B.output.trans h.kept.output, Nat.le_trans h.kept.size B.size, fun k hk _ => by
    rw [B.block k (by rw [← h.hb]; exact hk)]
    exact h.kept.block k hk (by simp)⟩
theorem Bd.le (h : Bd W b l wr) : b ≤ wr.heap.size := by rw [← h.hb]; exact h.kept.size
theorem Bd.start (W : World) : Bd W W.heap.size [] (W.alloc (.cells #[.pointer none, .slice none 0 0] 60)) :=
  ⟨Lib.IsBuilderF.of (Lib.fresh_isBuilder 60 5 W), rfl, (Kept.refl [] W).alloc _⟩
/-- What is neither the Builder nor bytes is as it was. -/
def Oth (b : Nat) (w w' : World) : Prop := ∀ k c t, w.heap[k]? = some (.cells c t (0, 0)) → k ≠ b → t ≠ 5 → w'.heap[k]? = some (.cells c t (0, 0))
theorem oth_of {w w' : World} (h : Lib.OthersKept 5 (some b) w w') : Oth b w w' := fun k c t hk hb ht => h k _ hk (fun e => hb (by simpa using e)) (fun _ _ e => by cases e; exact ht rfl)
theorem Bd.lt (h : Bd W b l wr) : b < wr.heap.size := by
  rcases h.isB with ⟨-, v, hb, -⟩ | ⟨-, v, hb, -⟩
  · exact lt_of_block hb
  · exact lt_of_block hb
theorem bd_string (h : Bd W b l wr) (s : List UInt8) (hl : l.length + s.length ≤ 1000000) : Calls Tryd.prog 58 #[.pointer (some ⟨b, 0, none⟩), .string ⟨s.toArray⟩] wr fun e w' => e = .returned (.tuple #[.int .i64 s.length, .nilIface]) ∧ Bd W b (l ++ s) w' ∧ Oth b wr w' := by
  have hz : (⟨s.toArray⟩ : ByteArray).size = s.length := by simp [ByteArray.size]
  refine (Builder_WriteString_k b b _ ⟨s.toArray⟩ wr h.isB (by rw [Lib.byteCells_length, hz]; omega) h.le).mono ?_
  rintro e w' ⟨rfl, hb, hB, hO⟩
  rw [hz]
  refine ⟨rfl, ⟨.inr ?_, h.hb, h.below hB⟩, oth_of hO⟩
  have e : Lib.byteCells (l ++ s) = Lib.byteCells l ++ Lib.strCells ⟨s.toArray⟩ := by simp [Lib.byteCells, Lib.strCells]
  rw [e]
  exact hb
theorem bd_byte (h : Bd W b l wr) (c : UInt8) (hl : l.length ≤ 1000000) : Calls Tryd.prog 59 #[.pointer (some ⟨b, 0, none⟩), .int .u8 (c.toNat : Int)] wr fun e w' => e = .returned .nilIface ∧ Bd W b (l ++ [c]) w' ∧ Oth b wr w' := by
  refine (Builder_WriteByte_k b b _ _ wr h.isB (by rw [Lib.byteCells_length]; omega) h.le).mono ?_
  rintro e w' ⟨rfl, hb, hB, hO⟩
  refine ⟨rfl, ⟨.inr ?_, h.hb, h.below hB⟩, oth_of hO⟩
  have e : Lib.byteCells (l ++ [c]) = Lib.byteCells l ++ [.int .u8 (c.toNat : Int)] := by simp [Lib.byteCells]
  rw [e]
  exact hb
theorem bd_text (h : Bd W b l wr) : Calls Tryd.prog 26 #[.pointer (some ⟨b, 0, none⟩)] wr fun e w' => e = .returned (.string ⟨l.toArray⟩) ∧ Kept [] W w' := by
  refine (Builder_String_any_k b b l wr h.isB h.le).mono ?_
  rintro e w' ⟨rfl, -, hB, -⟩
  exact ⟨rfl, h.below hB⟩
end
end Go.Proofs.YtibapmjgpnldgaaDoor
