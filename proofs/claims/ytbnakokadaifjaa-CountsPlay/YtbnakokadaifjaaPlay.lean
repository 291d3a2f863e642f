/-
  CountsPlay: what holds while it plays; and the last look.
-/
import Derived.Test.YtbnakokadaifjaaSame
import Derived.Laws.Rows
namespace Go.Proofs.Ytbnakokadaifjaa
open Go.RowKit
set_option linter.unusedVariables false

/-- The counters at p are l, the document's at q are m; nothing that was there in w0 has turned. -/
structure PS (w0 : World) (p q : Nat) (l m : List Nat) (w : World) : Prop where
  c : IsC w p l
  row : Row64 35 w q m
  k : Kept [] w0 w
  newp : w0.heap.size ≤ p
  newq : w0.heap.size ≤ q
  apart : p ≠ q

theorem PS.kept {w0 : World} {p q : Nat} {l m : List Nat} {w w' : World} (h : PS w0 p q l m w) (k : Kept [] w w') : PS w0 p q l m w' := ⟨h.c.kept k (by simp), h.row.kept k (by simp), h.k.trans k (by simp), h.newp, h.newq, h.apart⟩
theorem PS.drewN {w0 : World} {p q : Nat} {l m : List Nat} {w : World} (h : PS w0 p q l m w) (n : Nat) : PS w0 p q l m (w.drewN n) := h.kept ((Kept.refl [] w).drewN n)
theorem PS.drew {w0 : World} {p q : Nat} {l m : List Nat} {w : World} (h : PS w0 p q l m w) : PS w0 p q l m w.drew := h.kept ((Kept.refl [] w).drew)
theorem PS.alloc {w0 : World} {p q : Nat} {l m : List Nat} {w : World} (h : PS w0 p q l m w) (o : Obj) : PS w0 p q l m (w.alloc o) := h.kept ((Kept.refl [] w).alloc o)
theorem PS.turn {w0 : World} {p q : Nat} {l l' m : List Nat} {w w' : World} (h : PS w0 p q l m w) (hc : IsC w' p l') (k : Kept [p] w w') : PS w0 p q l' m w' :=
  ⟨hc, h.row.kept k (by simp; exact fun e => h.apart e.symm), h.k.trans k (by simp; exact h.newp), h.newp, h.newq, h.apart⟩
theorem PS.put {w0 : World} {p q : Nat} {l m : List Nat} {w : World} (h : PS w0 p q l m w) (i n : Nat) : PS w0 p q l (m.set i n) (w.setCell ⟨q, i, none⟩ (.int .u64 (n : Int))) :=
  have k : Kept [q] w (w.setCell ⟨q, i, none⟩ (.int .u64 (n : Int))) := (Kept.refl [q] w).setCell (.inl (by simp)) _
  ⟨h.c.kept k (by simp; exact h.apart), h.row.set i n, h.k.trans k (by simp; exact h.newq), h.newp, h.newq, h.apart⟩

/-- The whole of eight numbers, loaded. -/
theorem load8 {w : World} {q : Nat} {l : List Nat} (h : Row64 35 w q l) (hl : l.length = 8) : (loadVar 35 ⟨q, 0, none⟩).run Try.prog w = .ok (.agg (C64 l).toArray) w :=
  run_loadVar_row w q 35 35 _ (0, 0) _ h Try.underlying35 rfl (by rw [List.size_toArray, C64_length, hl]; kernel_rfl)

/-- The whole of eight numbers, loaded, as one step of a region that draws. -/
theorem step_load8 {ops : Array Oper} {o : Oper} {a : Act} {w : World} {K : Act → World → Prop} {Q : Exit → Act → World → Prop} {E : Prop} (hg : o.guard = none) (x : Operand) (ho : o.op = .load 35 x)
    (q : Nat) (hx : a.eval x = .pointer (some ⟨q, 0, none⟩)) (l : List Nat) (h : Row64 35 w q l) (hl : l.length = 8) (hK : K (a.put o.dst (.agg (C64 l).toArray)) w) :
    if Region.wanted o (yielded ops a.tmps) = true then Oper.wp Try.prog o a w K Q else E := by
  have hw : Region.wanted o (yielded ops a.tmps) = true := by simp [Region.wanted, hg]
  rw [if_pos hw]
  exact wp_load_row 35 x ho q hx 35 _ (0, 0) _ h Try.underlying35 rfl (by rw [List.size_toArray, C64_length, hl]; kernel_rfl) hK

end Go.Proofs.Ytbnakokadaifjaa
