import Derived.Test.YtpodoiichpnpjaaDoorQ18
import Derived.Test.YtpodoiichpnpjaaDoorQ22
import Derived.Test.YtpodoiichpnpjaaDoorQ23
/-
  The document's machine: out in the words of the pure machine.
-/
namespace Go.Proofs.YtpodoiichpnpjaaDoor
open Go.RowKit
set_option maxRecDepth 100000
set_option linter.unusedVariables false
section
variable {B : Bs} {w w' : World} {p : Nat} {m : Mc} {k : Nat} {sv ev sn tm : Value}
theorem sendF_act {op : Nat} {to : List UInt8} {arg x y c : Int} {b : Bool} (hto : (if op = 17 then B.pg.names.getD arg.toNat [] else B.l.fr) = to) (h17 : op = 17 ∨ op = 18) (hne : to ≠ []) (h : SendF B p m k to x y b c w) : OuF B p k (actI B.pg B.l B.now m op 0 arg x y) b c w := by
  unfold actI
  rw [if_neg (by omega), if_neg (by omega), if_neg (by omega), if_neg (by omega), if_neg (by omega), if_neg (by omega), if_neg (by omega), if_pos h17, hto, if_neg hne]
  rcases h with ⟨h1, rfl, rfl, h3⟩ | ⟨h1, rfl, rfl, h3⟩
  · rw [if_pos (by omega)]; exact ⟨rfl, rfl, m, h3⟩
  · rw [if_neg (by omega)]; exact ⟨rfl, rfl, h3⟩
theorem out38_17a {arg : Int} (hG : B.Good) (h : FSt B w p m k) (hF : Fit B.pg 17 arg) (x y : Int) (hL : Lite m) (hx : I64 x) : Calls Tryd.prog 38 #[.pointer (some ⟨p, 0, none⟩), .agg #[.int .i64 17, .int .i64 arg], .int .i64 x, .int .i64 y] w fun e w' => Ret2 (OuF B p k (actI B.pg B.l B.now m 17 (effI 17).2 arg x y)) e w' := by
  obtain ⟨a0, a1⟩ := hF.nam (.inl rfl)
  obtain ⟨n, rfl⟩ : ∃ n : Nat, arg = (n : Int) := ⟨arg.toNat, by omega⟩
  obtain ⟨s, h1, h2, h3, h4⟩ := name_of hG (n := n) (by omega)
  refine (out38_17 hG.ok h n s h1 h3 x y hL.2.2).mono fun e w' hh => ?_
  obtain ⟨b, c, rfl, hs⟩ := hh
  exact ⟨b, c, rfl, sendF_act (by rw [if_pos rfl]; exact h2) (.inl rfl) h3 hs⟩
theorem out38_18a {arg : Int} (hG : B.Good) (h : FSt B w p m k) (hF : Fit B.pg 18 arg) (x y : Int) (hL : Lite m) (hx : I64 x) : Calls Tryd.prog 38 #[.pointer (some ⟨p, 0, none⟩), .agg #[.int .i64 18, .int .i64 arg], .int .i64 x, .int .i64 y] w fun e w' => Ret2 (OuF B p k (actI B.pg B.l B.now m 18 (effI 18).2 arg x y)) e w' := by
  refine (out38_18 h arg x y).mono fun e w' hh => ?_
  obtain ⟨b, c, rfl, hs⟩ := hh
  rcases hs with ⟨h1, rfl, rfl, h3⟩ | ⟨h1, h3⟩
  · refine ⟨_, _, rfl, ?_⟩
    show OuF B p k (actI B.pg B.l B.now m 18 0 arg x y) true 0 w'
    unfold actI
    rw [if_neg (by omega), if_neg (by omega), if_neg (by omega), if_neg (by omega), if_neg (by omega), if_neg (by omega), if_neg (by omega), if_pos (by omega), if_pos (by rw [if_neg (by omega)]; exact h1)]
    exact ⟨rfl, rfl, h3⟩
  · exact ⟨b, c, rfl, sendF_act (by rw [if_neg (by omega)]) (.inr rfl) h1 h3⟩
theorem out38_19a {arg : Int} (hG : B.Good) (h : FSt B w p m k) (hF : Fit B.pg 19 arg) (x y : Int) (hL : Lite m) (hx : I64 x) : Calls Tryd.prog 38 #[.pointer (some ⟨p, 0, none⟩), .agg #[.int .i64 19, .int .i64 arg], .int .i64 x, .int .i64 y] w fun e w' => Ret2 (OuF B p k (actI B.pg B.l B.now m 19 (effI 19).2 arg x y)) e w' := by
  obtain ⟨a0, a1⟩ := hF.nam (.inr (.inl rfl))
  obtain ⟨n, rfl⟩ : ∃ n : Nat, arg = (n : Int) := ⟨arg.toNat, by omega⟩
  obtain ⟨s, h1, h2, h3, h4⟩ := name_of hG (n := n) (by omega)
  have hA : actI B.pg B.l B.now m 19 (effI 19).2 (n : Int) x y = (if x < 0 ∨ 9223372036854775807 < B.now + x ∨ y < 1 then .err 12 else .go { m with tm := m.tm ++ [⟨s, false, B.now + x, y, B.l.kind⟩] }) := by
    unfold actI
    rw [if_neg (by omega), if_neg (by omega), if_neg (by omega), if_neg (by omega), if_neg (by omega), if_neg (by omega), if_neg (by omega), if_neg (by omega), if_pos rfl, Int.toNat_natCast, h2]
  by_cases hb : BadT B.now x y
  · refine (out38_19_bad h n x y hx hG.now hb).mono fun e w' hh => ?_
    obtain ⟨rfl, h5⟩ := hh
    refine ⟨_, _, rfl, ?_⟩
    unfold BadT at hb
    rw [hA, if_pos hb]
    exact ⟨rfl, rfl, m, h5⟩
  · refine (out38_19 hG.ok h n s h1 x y hL.2.1 hx hG.now hb).mono fun e w' hh => ?_
    obtain ⟨rfl, h5⟩ := hh
    refine ⟨_, _, rfl, ?_⟩
    unfold BadT at hb
    rw [hA, if_neg hb]
    exact ⟨rfl, rfl, h5⟩
theorem out38_20a {arg : Int} (hG : B.Good) (h : FSt B w p m k) (hF : Fit B.pg 20 arg) (x y : Int) (hL : Lite m) (hx : I64 x) : Calls Tryd.prog 38 #[.pointer (some ⟨p, 0, none⟩), .agg #[.int .i64 20, .int .i64 arg], .int .i64 x, .int .i64 y] w fun e w' => Ret2 (OuF B p k (actI B.pg B.l B.now m 20 (effI 20).2 arg x y)) e w' := by
  obtain ⟨a0, a1⟩ := hF.nam (.inr (.inr rfl))
  obtain ⟨n, rfl⟩ : ∃ n : Nat, arg = (n : Int) := ⟨arg.toNat, by omega⟩
  obtain ⟨s, h1, h2, h3, h4⟩ := name_of hG (n := n) (by omega)
  refine (out38_20 hG.ok h n s h1 x y hL.2.1).mono fun e w' hh => ?_
  obtain ⟨rfl, h5⟩ := hh
  refine ⟨_, _, rfl, ?_⟩
  have hA : actI B.pg B.l B.now m 20 (effI 20).2 (n : Int) x y = .go { m with tm := m.tm ++ [⟨s, true, 0, 0, 0⟩] } := by
    unfold actI
    rw [if_neg (by omega), if_neg (by omega), if_neg (by omega), if_neg (by omega), if_neg (by omega), if_neg (by omega), if_neg (by omega), if_neg (by omega), if_neg (by omega), if_pos rfl, Int.toNat_natCast, h2]
  rw [hA]
  exact ⟨rfl, rfl, h5⟩
end
end Go.Proofs.YtpodoiichpnpjaaDoor
