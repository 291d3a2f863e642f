/-
  WindowNil: the walk.
-/
import Derived.Test.YtngjljgcldfekaaWl
namespace Go.Proofs.Ytngjljgcldfekaa
open Go.RowKit
set_option linter.unusedVariables false
section
variable {w : World}
theorem encode19_nil : Calls Try.prog 19 #[.pointer none] w fun e w' => e = .returned (.slice none 0 0) ∧ w = w' := by
  go_enter Try.func19, Try.ntmps19
  go_wp2_with fail
  go_ret
  exact ⟨rfl, rfl⟩
/-- A row of one number may be stored into. -/
theorem one_row {v : Value} {n : Nat} (h : OwnsU w v [n]) : ∃ b c, v = .slice (some ⟨b, 0, none⟩) 1 c ∧ 1 ≤ c ∧ c ≤ 9223372036854775807 ∧ w.cell? ⟨b, 0, none⟩ = some (Uv n) ∧ w.frozen? ⟨b, 0, none⟩ = false ∧ ∃ cs, w.heap[b]? = some (.cells cs 30 (0, 0)) := by
  have hr := h.reads
  rcases h.2 with ⟨h0, h1⟩ | ⟨g, cap, cur, rfl, _, hg, h1, h2, _⟩
  · simp [CU] at h1
  · obtain ⟨b, o, e, hc⟩ := hr.at (j := 0) (z := n) rfl
    injection e with e
    injection e with e1 e2 _
    subst e1 e2
    exact ⟨g, cap, rfl, h1, h2, hc, by simp [World.frozen?, hg], _, hg⟩
set_option maxRecDepth 100000 in
set_option maxHeartbeats 1000000 in
theorem nil_walk (c s : Nat) (hc : U64 c) (hs : U64 s) : Calls Try.prog 7 #[Uv c, Uv s] w fun e w' => e = .returned (.bool true) ∧ Kept [] w w' := by
  have HC := Hid.mk hc
  have HS := Hid.mk hs
  clear hc hs
  go_enter Try.func7, Try.ntmps7
  go_wp2_with fail
  refine awake9.mono ?_
  rintro e w1 ⟨rfl, k1⟩
  go_wp2_with fail
  refine (win_new k1).mono ?_
  rintro e w2 ⟨rfl, h2, -⟩
  generalize w1.heap.size = p at h2 ⊢
  go_wp2_with fail
  refine (win_add h2 HC.out HS.out).mono ?_
  rintro e w3 ⟨rfl, h3, -⟩
  have e1 : nxt [] c s = [⟨c, [s]⟩] := rfl
  rw [e1] at h3
  generalize (!seenL [] c s) = D
  go_wp2_with fail
  refine (win_serials h3 c).mono ?_
  rintro e w4 ⟨v4, rfl, hO4, hf4, h4, -⟩
  rw [show srl [⟨c, [s]⟩] c = [s] by rw [srl_cons, if_pos rfl]] at hO4
  go_wp2_with fail
  refine (win_clients h4).mono ?_
  rintro e w5 ⟨v5, rfl, hO5, hf5, h5, k5⟩
  have hO5 : OwnsU w5 v5 [c] := hO5
  have hO4' := hO4.kept0 k5
  obtain ⟨b4, c4, rfl, hc41, hc42, d4, f4, cs4, g4⟩ := one_row hO4'
  obtain ⟨b5, c5, rfl, hc51, hc52, d5, f5, cs5, g5⟩ := one_row hO5
  have hlt4 : b4 < w4.heap.size := hO4.lt rfl
  have hge5 : w4.heap.size ≤ b5 := hf5 b5 rfl
  have hge4 : w3.heap.size ≤ b4 := hf4 b4 rfl
  have hne : b4 ≠ b5 := by omega
  have hp4 : p ≠ b4 := box_ne h5.is.box g4 (by decide)
  have hp5 : p ≠ b5 := box_ne h5.is.box g5 (by decide)
  have hw3 := h3.kept.size
  have HB : Hid (∀ z z' : Int, Win w ((w5.setCell ⟨b4, 0, none⟩ (.int .u64 z)).setCell ⟨b5, 0, none⟩ (.int .u64 z')) p [⟨c, [s]⟩]) := fun z z' => by
    have k := ((Kept.refl [b4, b5] w5).setCell (p := ⟨b4, 0, none⟩) (.inl (by simp)) (.int .u64 z)).setCell (p := ⟨b5, 0, none⟩) (.inl (by simp)) (.int .u64 z')
    exact ⟨h5.is.kept k (by simp; omega), h5.good, h5.kept.trans k (by simp; omega), h5.new⟩
  have d5' : ∀ z, (w5.setCell ⟨b4, 0, none⟩ z).cell? ⟨b5, 0, none⟩ = some (Uv c) := fun z => by
    rw [World.cell?_setCell_other _ _ _ _ (by intro e; injection e; omega)]; exact d5
  have f5' : ∀ z, (w5.setCell ⟨b4, 0, none⟩ z).frozen? ⟨b5, 0, none⟩ = false := fun z => by rw [World.frozen?_setCell]; exact f5
  have g0 : (0 : Int) ≤ 0 := by omega
  clear hO4 hO5 hO4' h5 h4 h3 h2 g4 g5 hf4 hf5 k5 hlt4 hge5 hge4 hp4 hp5 hw3 e1
  go_wp2_with fail
  have h6 := HB.out (IntKind.u64.wrap ((s : Int) + 1)) (IntKind.u64.wrap ((c : Int) + 1))
  clear d4 f4 d5 f5 d5' f5' HB
  generalize (w5.setCell ⟨b4, 0, none⟩ (.int .u64 (IntKind.u64.wrap ((s : Int) + 1)))).setCell ⟨b5, 0, none⟩ (.int .u64 (IntKind.u64.wrap ((c : Int) + 1))) = w6 at h6 ⊢
  refine (seen14_none (find27_nil c) s).mono ?_
  rintro e w7 ⟨rfl, k7⟩
  have h7 := h6.kept0 k7
  go_wp2_with fail
  refine add11_nil.mono ?_
  rintro e w8 ⟨rfl, rfl⟩
  go_wp2_with fail
  refine (serials17_none (find27_nil c)).mono ?_
  rintro e w8 ⟨rfl, rfl⟩
  go_wp2_with fail
  refine clients23_nil.mono ?_
  rintro e w8 ⟨rfl, rfl⟩
  go_wp2_with fail
  refine encode19_nil.mono ?_
  rintro e w8 ⟨rfl, rfl⟩
  have e8 : seenL [⟨c, [s]⟩] c s = true := by unfold seenL; rw [srl_cons, if_pos rfl]; simp
  have hS := win_seen h7 c s
  rw [e8] at hS
  have HSS := Hid.mk hS
  clear hS h6 h7 k7
  go_wp2_with fail
  refine HSS.out.mono ?_
  rintro e w8 ⟨rfl, h8, -⟩
  go_wp2_with fail
  refine (win_clients h8).mono ?_
  rintro e w9 ⟨v9, rfl, hO9, -, h9, -⟩
  have hO9 : OwnsU w9 v9 [c] := hO9
  obtain ⟨b9, c9, rfl, hc91, hc92, d9, f9, cs9, g9⟩ := one_row hO9
  have hcc : ((c : Int) == (c : Int)) = true := by simp
  have HK := Hid.mk h9.kept
  clear h8 h9 hO9 g9 f9
  go_wp2_with fail
  go_ret
  exact ⟨rfl, HK.out⟩
end
end Go.Proofs.Ytngjljgcldfekaa
