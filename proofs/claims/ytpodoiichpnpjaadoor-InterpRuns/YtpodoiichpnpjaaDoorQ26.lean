import Derived.Test.YtpodoiichpnpjaaDoorQ19
import Derived.Test.YtpodoiichpnpjaaDoorQ20
import Derived.Test.YtpodoiichpnpjaaDoorQ21
import Derived.Test.YtpodoiichpnpjaaDoorQ25
/-
  The document's machine: one, whole.
-/
namespace Go.Proofs.YtpodoiichpnpjaaDoor
open Go.RowKit
set_option maxRecDepth 100000
set_option linter.unusedVariables false
section
variable {B : Bs} {w w' : World} {p : Nat} {m : Mc} {k : Nat}
theorem lastD_i64 {l : List Int} (h : ∀ z ∈ l, I64 z) : I64 (l.getLastD 0) := by
  rw [List.getLastD_eq_getLast?]
  cases hl : l.getLast? with
  | none => exact i64_zero
  | some v => exact h v (List.mem_of_getLast? hl)
theorem one22_any {i : Nat} {arg : Int} (hG : B.Good) (h : FSt B w p m k) (hx : B.pg.code[m.at_]? = some ⟨(i : Int), arg⟩) (hF : Fit B.pg i arg) (hL : Lite m) (hst : m.st.length ≤ 16) (hs : ∀ z ∈ m.st, I64 z) : Calls Tryd.prog 22 #[.pointer (some ⟨p, 0, none⟩)] w fun e w' => Ret2 (OuF B p k (oneI B.pg B.l B.now m ⟨(i : Int), arg⟩)) e w' := by
  have h9 : I64 (m.st.dropLast.getLastD 0) := lastD_i64 (fun z hz => hs z (by rw [List.dropLast_eq_take] at hz; exact List.mem_of_mem_take hz))
  have hlt := hF.op
  match i, hlt with
  | 0, _ => exact one22_0 hG h hx hF hL hst
  | 1, _ => exact one22_D hG h hx hF hL hst rfl
  | 2, _ => exact one22_D hG h hx hF hL hst rfl
  | 3, _ => exact one22_3 hG h hx hF hL hst
  | 4, _ => exact one22_D hG h hx hF hL hst rfl
  | 5, _ => exact one22_D hG h hx hF hL hst rfl
  | 6, _ => exact one22_D hG h hx hF hL hst rfl
  | 7, _ => exact one22_D hG h hx hF hL hst rfl
  | 8, _ => exact one22_D hG h hx hF hL hst rfl
  | 9, _ => exact one22_D hG h hx hF hL hst rfl
  | 10, _ => exact one22_D hG h hx hF hL hst rfl
  | 11, _ => exact one22_D hG h hx hF hL hst rfl
  | 12, _ => exact one22_12 hG h hx hF hL hst
  | 13, _ => exact one22_13 hG h hx hF hL hst
  | 14, _ => exact one22_14 hG h hx hF hL hst
  | 15, _ => exact one22_15 hG h hx hF hL hst
  | 16, _ => exact one22_16 hG h hx hF hL hst
  | 17, _ => exact one22_17 hG h hx hF hL hst h9
  | 18, _ => exact one22_18 hG h hx hF hL hst h9
  | 19, _ => exact one22_19 hG h hx hF hL hst h9
  | 20, _ => exact one22_20 hG h hx hF hL hst
  | 21, _ => exact one22_21 hG h hx hF hL hst
  | 22, _ => exact one22_D hG h hx hF hL hst rfl
  | 23, _ => exact one22_D hG h hx hF hL hst rfl
  | n + 24, h => exact absurd h (by omega)
end
end Go.Proofs.YtpodoiichpnpjaaDoor
