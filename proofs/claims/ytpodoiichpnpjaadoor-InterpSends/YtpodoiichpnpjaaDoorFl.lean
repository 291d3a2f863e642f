/-
  few: what is looked at.
-/
import Derived.Test.YtpodoiichpnpjaaDoorAw
import Derived.Test.YtpodoiichpnpjaaDoorLf
namespace Go.Proofs.YtpodoiichpnpjaaDoor
open Go.RowKit
set_option maxRecDepth 100000
set_option linter.unusedVariables false
/-- What few answers. -/
def FewL (p : Pg) (l : Lt) (e : Ending) : Prop := (e = .returned (.bool true) ∧ (∀ s ∈ p.names, s.length ≤ 1000) ∧ p.names.length ≤ 51 ∧ p.code.length ≤ 1000 ∧ l.args.length ≤ 1000 ∧ l.fr.length ≤ 1000) ∨ e = .returned (.bool false)
section
variable {w : World}
set_option maxHeartbeats 4000000 in
theorem few10 {v u : Value} {p : Pg} (hP : IsP w v u p) (hK : ∀ s ∈ p.names, s.length ≤ 9223372036854775807) (l : Lt) (a : Option Addr) (c : Nat) (hf : l.fr.length ≤ 9223372036854775807) (hl : l.args.length ≤ 9223372036854775807) : Calls Tryd.prog 10 #[.agg #[v, u], .agg #[.string ⟨l.fr.toArray⟩, .int .u64 (l.ser : Int), .int .i64 l.kind, .slice a l.args.length c]] w fun e w' => FewL p l e ∧ Kept [] w w' := by
  obtain ⟨W0, e0, k0, hz0, hb0, hb1⟩ := box2 w (.cells #[v, u] 25) (.cells #[.string ⟨l.fr.toArray⟩, .int .u64 (l.ser : Int), .int .i64 l.kind, .slice a l.args.length c] 30)
  obtain ⟨y0, y1⟩ := cells2 hb0
  have HC := Hid.mk (few9 (hP.keep k0) hK)
  have HK := Hid.mk k0
  have HB := Hid.mk hb1
  clear hb0 hb1 hP hK k0 hz0
  go_enter Tryd.func10, Tryd.ntmps10
  go_wp2_with fail
  refine HC.out.mono ?_
  rintro e w1 ⟨hf1, k1⟩
  have K1 := Hid.mk (HK.out.then k1)
  obtain ⟨x0, x1, x2, x3⟩ := cells4 (k1.keeps HB.out (by simp))
  clear k1
  rcases hf1 with ⟨rfl, r1, r2, r3⟩ | rfl
  · by_cases h1 : (l.args.length : Int) ≤ 1000
    · by_cases h2 : (l.fr.length : Int) ≤ 1000
      · have H3 : Hid (FewL p l (.returned (.bool true))) := .inl ⟨rfl, r1, r2, r3, by omega, by omega⟩
        clear r1
        go_wp2_with fail
        all_goals go_ret
        all_goals exact ⟨H3.out, K1.out⟩
      · have H3 : Hid (FewL p l (.returned (.bool (decide ((l.fr.length : Int) ≤ 1000))))) := by rw [decide_eq_false h2]; exact .inr rfl
        clear r1
        go_wp2_with fail
        all_goals go_ret
        all_goals exact ⟨H3.out, K1.out⟩
    · have H3 : Hid (FewL p l (.returned (.bool false))) := .inr rfl
      clear r1
      go_wp2_with fail
      all_goals go_ret
      all_goals exact ⟨H3.out, K1.out⟩
  · have H3 : Hid (FewL p l (.returned (.bool false))) := .inr rfl
    go_wp2_with fail
    all_goals go_ret
    all_goals exact ⟨H3.out, K1.out⟩
end
end Go.Proofs.YtpodoiichpnpjaaDoor
