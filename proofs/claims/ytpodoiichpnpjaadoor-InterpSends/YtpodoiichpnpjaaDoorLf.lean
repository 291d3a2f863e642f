/-
  Letters that are formed: the program's test and the document's.
-/
import Derived.Test.YtpodoiichpnpjaaDoorMj
namespace Go.Proofs.YtpodoiichpnpjaaDoor
open Go.RowKit
set_option maxRecDepth 100000
set_option linter.unusedVariables false
section
variable {w : World}
set_option maxHeartbeats 1000000 in
theorem lformed18 (l : Lt) (a : Option Addr) (c : Nat) (h1 : l.fr.length ≤ 9223372036854775807) (h2 : l.args.length ≤ 9223372036854775807) : Calls Tryd.prog 18 #[.agg #[.string ⟨l.fr.toArray⟩, .int .u64 (l.ser : Int), .int .i64 l.kind, .slice a l.args.length c]] w fun e w' => e = .returned (.bool l.formed) ∧ Kept [] w w' := by
  obtain ⟨W0, e0, k0, -, hb⟩ := box1 w (.cells #[.string ⟨l.fr.toArray⟩, .int .u64 (l.ser : Int), .int .i64 l.kind, .slice a l.args.length c] 30)
  obtain ⟨y0, y1, y2, y3⟩ := cells4 hb
  have HK := Hid.mk k0
  have e : l.formed = (decide ((l.fr.length : Int) ≤ 40) && decide ((l.args.length : Int) ≤ 4)) := by
    unfold Lt.formed
    rw [Bool.eq_iff_iff]
    simp
    omega
  rw [e]
  clear e hb k0
  by_cases h3 : (l.fr.length : Int) ≤ 40
  · rw [decide_eq_true h3, Bool.true_and]
    go_enter Tryd.func18, Tryd.ntmps18
    go_wp2_with fail
    all_goals go_ret
    all_goals exact ⟨rfl, HK.out⟩
  · rw [decide_eq_false h3, Bool.false_and]
    go_enter Tryd.func18, Tryd.ntmps18
    go_wp2_with fail
    all_goals go_ret
    all_goals exact ⟨rfl, HK.out⟩
set_option maxHeartbeats 1000000 in
theorem lformed21 (l : Lt) (a : Option Addr) (c : Nat) (h1 : l.fr.length ≤ 9223372036854775807) (h2 : l.args.length ≤ 9223372036854775807) : Calls Tryd.prog 21 #[.agg #[.string ⟨l.fr.toArray⟩, .int .u64 (l.ser : Int), .int .i64 l.kind, .slice a l.args.length c]] w fun e w' => e = .returned (.bool l.formed) ∧ Kept [] w w' := by
  obtain ⟨W0, e0, k0, -, hb⟩ := box1 w (.cells #[.string ⟨l.fr.toArray⟩, .int .u64 (l.ser : Int), .int .i64 l.kind, .slice a l.args.length c] 30)
  obtain ⟨y0, y1, y2, y3⟩ := cells4 hb
  have HK := Hid.mk k0
  have e : l.formed = (decide ((l.fr.length : Int) ≤ 40) && decide ((l.args.length : Int) ≤ 4)) := by
    unfold Lt.formed
    rw [Bool.eq_iff_iff]
    simp
    omega
  rw [e]
  clear e hb k0
  by_cases h3 : (l.fr.length : Int) ≤ 40
  · rw [decide_eq_true h3, Bool.true_and]
    go_enter Tryd.func21, Tryd.ntmps21
    go_wp2_with fail
    all_goals go_ret
    all_goals exact ⟨rfl, HK.out⟩
  · rw [decide_eq_false h3, Bool.false_and]
    go_enter Tryd.func21, Tryd.ntmps21
    go_wp2_with fail
    all_goals go_ret
    all_goals exact ⟨rfl, HK.out⟩
end
end Go.Proofs.YtpodoiichpnpjaaDoor
