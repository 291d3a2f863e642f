/-
  A run of a program that came in: its result, written out.
-/
import Derived.Test.YtpodoiichpnpjaaDoorFl
import Derived.Test.YtpodoiichpnpjaaDoorMw
import Derived.Test.YtpodoiichpnpjaaDoorOo
namespace Go.Proofs.YtpodoiichpnpjaaDoor
open Go.RowKit
set_option maxRecDepth 100000
set_option linter.unusedVariables false
/-- A result, written out. -/
structure Told8 (n : Nat) (w : World) (R : Rsl) (b0 b1 b2 b3 b4 b5 b6 b7 : Int) (ea : Option Addr) (ec : Nat) (sa : Option Addr) (sc : Nat) (ta : Option Addr) (tc : Nat) : Prop where
  reg : R.reg = [b0, b1, b2, b3, b4, b5, b6, b7]
  ev : ReadsR 2 w (.slice ea R.ev.length ec) (rowE R.ev)
  sn : ReadsR 3 w (.slice sa R.sent.length sc) (rowS R.sent)
  tm : ReadsR 5 w (.slice ta R.tm.length tc) (rowT R.tm)
  n1 : ∀ g, (Value.slice ea R.ev.length ec).ownBlock = some g → n ≤ g
  n2 : ∀ g, (Value.slice sa R.sent.length sc).ownBlock = some g → n ≤ g
  n3 : ∀ g, (Value.slice ta R.tm.length tc).ownBlock = some g → n ≤ g
abbrev Rval (R : Rsl) (b0 b1 b2 b3 b4 b5 b6 b7 : Int) (ea : Option Addr) (ec : Nat) (sa : Option Addr) (sc : Nat) (ta : Option Addr) (tc : Nat) : Value := .agg #[.int .i64 b0, .int .i64 b1, .int .i64 b2, .int .i64 b3, .int .i64 b4, .int .i64 b5, .int .i64 b6, .int .i64 b7, .slice ea R.ev.length ec, .slice sa R.sent.length sc, .slice ta R.tm.length tc, .int .i64 (R.k : Int)]
theorem told8_of {n : Nat} {w : World} {v : Value} {R : Rsl} (h : IsRs n w v R) : ∃ b0 b1 b2 b3 b4 b5 b6 b7 ea ec sa sc ta tc, v = Rval R b0 b1 b2 b3 b4 b5 b6 b7 ea ec sa sc ta tc ∧ Told8 n w R b0 b1 b2 b3 b4 b5 b6 b7 ea ec sa sc ta tc := by
  obtain ⟨⟨ev, sn, tm, rfl, h1, h2, h3, g1, g2, g3⟩, h8⟩ := h
  obtain ⟨b0, b1, b2, b3, b4, b5, b6, b7, hr⟩ := eight_of h8
  obtain ⟨ea, ec, rfl, -⟩ := h1.form
  obtain ⟨sa, sc, rfl, -⟩ := h2.form
  obtain ⟨ta, tc, rfl, -⟩ := h3.form
  rw [rowE_length] at *
  rw [rowS_length] at *
  rw [rowT_length] at *
  refine ⟨b0, b1, b2, b3, b4, b5, b6, b7, ea, ec, sa, sc, ta, tc, ?_, hr, h1, h2, h3, g1, g2, g3⟩
  rw [hr]
  rfl
/-- What a run tells, written out. -/
def RunT (w w' : World) (R : Rsl × Int) (e : Ending) : Prop := ∃ b0 b1 b2 b3 b4 b5 b6 b7 ea ec sa sc ta tc, e = .returned (.tuple #[Rval R.1 b0 b1 b2 b3 b4 b5 b6 b7 ea ec sa sc ta tc, .int .i64 R.2]) ∧ Told8 w.heap.size w' R.1 b0 b1 b2 b3 b4 b5 b6 b7 ea ec sa sc ta tc ∧ Kept [] w w'
theorem run11_told {w : World} {nv cv av : Value} {p : Pg} {reg : List Int} {l : Lt} {now : Int} (hG : Glob w) (hI : Ins w nv cv av p reg l now) : Calls Tryd.prog 11 #[.agg #[nv, cv], .agg (BI reg).toArray, Lval l av, .int .i64 now] w fun e w' => RunT w w' (resI p reg l now) e :=
  (run11 hG hI).mono fun e w' h => by
    obtain ⟨v, rfl, hR, k⟩ := h
    obtain ⟨b0, b1, b2, b3, b4, b5, b6, b7, ea, ec, sa, sc, ta, tc, rfl, ht⟩ := told8_of hR
    exact ⟨b0, b1, b2, b3, b4, b5, b6, b7, ea, ec, sa, sc, ta, tc, rfl, ht, k⟩
/-- Twelve cells. -/
theorem cells12 {w : World} {b : Nat} {v0 v1 v2 v3 v4 v5 v6 v7 v8 v9 v10 v11 : Value} {t : TypeId} (h : w.heap[b]? = some (.cells #[v0, v1, v2, v3, v4, v5, v6, v7, v8, v9, v10, v11] t (0, 0))) : w.cell? ⟨b, 0, none⟩ = some v0 ∧ w.cell? ⟨b, 1, none⟩ = some v1 ∧ w.cell? ⟨b, 2, none⟩ = some v2 ∧ w.cell? ⟨b, 3, none⟩ = some v3 ∧ w.cell? ⟨b, 4, none⟩ = some v4 ∧ w.cell? ⟨b, 5, none⟩ = some v5 ∧ w.cell? ⟨b, 6, none⟩ = some v6 ∧ w.cell? ⟨b, 7, none⟩ = some v7 ∧ w.cell? ⟨b, 8, none⟩ = some v8 ∧ w.cell? ⟨b, 9, none⟩ = some v9 ∧ w.cell? ⟨b, 10, none⟩ = some v10 ∧ w.cell? ⟨b, 11, none⟩ = some v11 := by simp [World.cell?, h]
theorem free12 {w : World} {b : Nat} {cs : Array Value} {t : TypeId} (h : w.heap[b]? = some (.cells cs t (0, 0))) : w.frozen? ⟨b, 0, none⟩ = false ∧ w.frozen? ⟨b, 1, none⟩ = false ∧ w.frozen? ⟨b, 2, none⟩ = false ∧ w.frozen? ⟨b, 3, none⟩ = false ∧ w.frozen? ⟨b, 4, none⟩ = false ∧ w.frozen? ⟨b, 5, none⟩ = false ∧ w.frozen? ⟨b, 6, none⟩ = false ∧ w.frozen? ⟨b, 7, none⟩ = false ∧ w.frozen? ⟨b, 8, none⟩ = false ∧ w.frozen? ⟨b, 9, none⟩ = false ∧ w.frozen? ⟨b, 10, none⟩ = false ∧ w.frozen? ⟨b, 11, none⟩ = false := by simp [World.frozen?, h]
end Go.Proofs.YtpodoiichpnpjaaDoor
