import Derived.Test.YtpodoiichpnpjaaDoorQ12
import Derived.Test.YtpodoiichpnpjaaDoorQ13
import Derived.Test.YtpodoiichpnpjaaDoorQ16
import Derived.Test.YtpodoiichpnpjaaDoorQ17
/-
  The document's machine: value in the words of the pure machine; where an instruction lies.
-/
namespace Go.Proofs.YtpodoiichpnpjaaDoor
open Go.RowKit
set_option maxRecDepth 100000
set_option linter.unusedVariables false
/-- The operations that push one integer, and do nothing else. -/
def OneV (i : Nat) : Prop := (effI i).2 = 1
theorem effI_le2 {i : Nat} : (effI i).1 ≤ 2 ∧ (effI i).2 ≤ 2 := by
  unfold effI
  repeat' (split)
  all_goals (constructor <;> decide)
theorem i64_zero : I64 0 := by unfold I64; omega
section
variable {B : Bs} {w w' : World} {p : Nat} {m : Mc} {k : Nat} {sv ev sn tm : Value}
theorem FS.c_ins (hB : B.Ok) (h : FS B w p m k sv ev sn tm) {x : In} (hx : B.pg.code[m.at_]? = some x) : ∃ b o d, w.cell? ⟨p, 1, none⟩ = some (.slice (some ⟨b, o, none⟩) B.pg.code.length d) ∧ w.cell? ⟨b, o + m.at_ * 2, none⟩ = some (.int .i64 x.op) ∧ w.cell? ⟨b, o + m.at_ * 2 + 1, none⟩ = some (.int .i64 x.arg) := by
  obtain ⟨a, c, b', d, h1, h2, -⟩ := hB.prog.form
  have hN := (hB.prog.keep h.rs.kept).code
  rw [h2] at hN
  obtain ⟨hl, he⟩ := List.getElem?_eq_some_iff.1 hx
  obtain ⟨b, o, rfl, hc⟩ := code_at hN hl
  rw [he] at hc
  exact ⟨b, o, d, by rw [← h2]; exact h.fix rfl, hc⟩
theorem FS.c_reg (h : FS B w p m k sv ev sn tm) {i : Nat} {x : Int} (hi : m.reg[i]? = some x) : w.cell? ⟨p, 9 + i, none⟩ = some (Iv x) := h.rs.cell_res (by rw [h.len]) (cellsR_reg hi)
theorem value39_any {i : Nat} {arg : Int} (hG : B.Good) (h : FSt B w p m k) (hF : Fit B.pg i arg) (x y : Int) (hg : OneV i) : Calls Tryd.prog 39 #[.pointer (some ⟨p, 0, none⟩), .agg #[.int .i64 (i : Int), .int .i64 arg], .int .i64 x, .int .i64 y] w fun e w' => e = .returned (.int .i64 (valI B.l B.now m.reg i arg x y)) ∧ Kept [] w w' := by
  have hlt := hF.op
  unfold OneV at hg
  match i, hlt with
  | 0, _ => exact absurd hg (by decide)
  | 1, _ => exact value39_1 h arg x y
  | 2, _ => exact value39_2 h arg x y (hF.reg (.inl rfl))
  | 3, _ => exact absurd hg (by decide)
  | 4, _ => exact value39_4 h arg x y hG.ok (hF.arg rfl)
  | 5, _ => exact value39_5 h arg x y
  | 6, _ => exact value39_6 h arg x y
  | 7, _ => exact value39_7 h arg x y
  | 8, _ => exact value39_8 h arg x y
  | 9, _ => exact value39_9 h arg x y
  | 10, _ => exact value39_10 h arg x y
  | 11, _ => exact value39_11 h arg x y
  | 12, _ => exact absurd hg (by decide)
  | 13, _ => exact absurd hg (by decide)
  | 14, _ => exact absurd hg (by decide)
  | 15, _ => exact absurd hg (by decide)
  | 16, _ => exact absurd hg (by decide)
  | 17, _ => exact absurd hg (by decide)
  | 18, _ => exact absurd hg (by decide)
  | 19, _ => exact absurd hg (by decide)
  | 20, _ => exact absurd hg (by decide)
  | 21, _ => exact absurd hg (by decide)
  | 22, _ => exact value39_22 h arg x y
  | 23, _ => exact value39_23 h arg x y
  | n + 24, h => exact absurd h (by omega)
theorem oneV_ne {i : Nat} (hg : OneV i) : i ≠ 0 ∧ i ≠ 21 ∧ i ≠ 3 ∧ i ≠ 12 ∧ i ≠ 14 ∧ i ≠ 15 ∧ i ≠ 16 ∧ i ≠ 17 ∧ i ≠ 18 ∧ i ≠ 19 ∧ i ≠ 20 := by
  unfold OneV at hg
  refine ⟨?_, ?_, ?_, ?_, ?_, ?_, ?_, ?_, ?_, ?_, ?_⟩ <;> (rintro rfl; exact absurd hg (by decide))
theorem oneV_act {i : Nat} (hg : OneV i) (P : Pg) (l : Lt) (now : Int) (m : Mc) (arg x y : Int) : actI P l now m i (effI i).2 arg x y = .go { m with st := m.st ++ [valI l now m.reg i arg x y] } := by
  obtain ⟨h0, h1, h2, h3, h4, h5, h6, h7, h8, h9, h10⟩ := oneV_ne hg
  unfold OneV at hg
  unfold actI
  rw [hg, if_neg h0, if_neg h1, if_neg h2, if_neg h3, if_neg h4, if_neg h5, if_neg h6, if_neg (by omega), if_neg h9, if_neg h10, if_pos rfl]
end
end Go.Proofs.YtpodoiichpnpjaaDoor
