/-
  A script of calls, as it lies in memory.
-/
import Derived.Test.YtmbfojjmnjagiaaStep2
namespace Go.Proofs.Ytmbfojjmnjagiaa
open Go.RowKit
set_option linter.unusedVariables false

/-- The slice v (four cells an element) reads as the calls l. -/
def HoldsO (w : World) (v : Value) (l : List OpD) : Prop :=
  ∃ a cap, v = .slice a l.length cap ∧ l.length ≤ cap ∧ cap ≤ maxLen ∧ (∀ x ∈ l, x.ok) ∧
    (l ≠ [] → ∃ b o, a = some ⟨b, o, none⟩ ∧ ∀ j x, l[j]? = some x → w.cell? ⟨b, o + j * 4, none⟩ = some (.int .i64 x.kind) ∧ w.cell? ⟨b, o + j * 4 + 1, none⟩ = some (.int .i64 x.i) ∧ w.cell? ⟨b, o + j * 4 + 2, none⟩ = some (.int .u8 (x.b.toNat : Int)) ∧ w.cell? ⟨b, o + j * 4 + 3, none⟩ = some (.bool x.odd))

theorem HoldsO.kept {w w' : World} {v : Value} {l : List OpD} (h : HoldsO w v l) (k : Kept [] w w') : HoldsO w' v l := by
  obtain ⟨a, cap, rfl, h2, h3, h4, h5⟩ := h
  refine ⟨a, cap, rfl, h2, h3, h4, fun hl => ?_⟩
  obtain ⟨b, o, rfl, hc⟩ := h5 hl
  refine ⟨b, o, rfl, fun j x hx => ?_⟩
  obtain ⟨c0, c1, c2, c3⟩ := hc j x hx
  rw [k.cell (World.block_lt_of_cell? w _ c0) (by simp), k.cell (World.block_lt_of_cell? w _ c1) (by simp), k.cell (World.block_lt_of_cell? w _ c2) (by simp), k.cell (World.block_lt_of_cell? w _ c3) (by simp)]
  exact ⟨c0, c1, c2, c3⟩

/-- Two new disks, side by side. -/
theorem new_both (b : Int) (w : World) : Calls Try.prog 9 #[.int .i64 b] w fun e wa => ∃ p, e = .returned (.pointer (some ⟨p, 0, none⟩)) ∧ Calls Try.prog 10 #[.int .i64 b] wa fun e wb => ∃ q, e = .returned (.pointer (some ⟨q, 0, none⟩)) ∧ ∃ H, Two wb H p q (newS b) ∧ Kept [] w wb ∧ ∀ x ∈ H, w.heap.size ≤ x := by
  refine (new_any b w).mono fun e wa ⟨p, he, F, hD, ka, nF⟩ => ⟨p, he, ?_⟩
  refine (fnew_any b wa).mono fun e wb ⟨q, he, G, hF, kb, nG⟩ => ⟨q, he, F ++ G, ⟨F, G, rfl, hD.kept kb (by simp), hF, fun x hx hm => ?_⟩, ka.trans kb (by simp), fun x hx => ?_⟩
  · have := hD.lt x hx; have := nG x hm; omega
  · rcases List.mem_append.1 hx with h | h
    · exact nF x h
    · have := nG x h; have := ka.size; omega

set_option maxRecDepth 100000 in
set_option maxHeartbeats 1000000 in
theorem plays_long (nb : Int) (a : Option Addr) (n cap : Nat) (w : World) (h : 100 < n) : Calls Try.prog 3 #[.int .i64 nb, .slice a n cap] w fun e w' => e = .returned (.bool true) ∧ Kept [] w w' := by
  have hn : (100 : Int) < (n : Int) := by omega
  go_enter Try.func3, Try.ntmps3
  go_wp2_with fail
  refine (awake_any w).mono ?_
  rintro e w1 ⟨rfl, k1⟩
  go_wp2_with fail
  refine (awake_any w1).mono ?_
  rintro e w2 ⟨rfl, k2⟩
  have hK := k1.trans k2 (by simp)
  clear k1 k2
  go_wp2
  go_ret
  exact ⟨rfl, hK⟩

set_option maxRecDepth 100000 in
set_option maxHeartbeats 1000000 in
theorem plays_walk (nb : Int) (v : Value) (ops : List OpD) (w : World) (hv : HoldsO w v ops) (hn : ops.length ≤ 100) : Calls Try.prog 3 #[.int .i64 nb, v] w fun e w' => e = .returned (.bool true) ∧ Kept [] w w' := by
  obtain ⟨a, cap, rfl, h2, h3, h4, h5⟩ := id hv
  have hcap : cap ≤ 9223372036854775807 := h3
  have HO : Hid (∀ x ∈ ops, x.ok) := h4
  clear h5 h4 h3
  have hn1 : ¬ (100 : Int) < (ops.length : Int) := by omega
  go_enter Try.func3, Try.ntmps3
  go_wp2_with fail
  refine (awake_any w).mono ?_
  rintro e w1 ⟨rfl, k1⟩
  go_wp2_with fail
  refine (new_both nb w1).mono ?_
  rintro e w2 ⟨p, rfl, hN⟩
  go_wp2_with fail
  refine hN.mono ?_
  rintro e w3 ⟨q, rfl, H0, hT0, k3, n3⟩
  have K3 : Kept [] w w3 := k1.trans k3 (by simp)
  have N3 : ∀ x ∈ H0, w.heap.size ≤ x := fun x hx => by have := n3 x hx; have := k1.size; omega
  have hlen0 : (newS nb).ws.length ≤ 0 := Nat.le_refl _
  clear hN k1 k3 n3
  go_wp2_with fail
  go_loopw [7, 22] (fun _ i wr => ∃ j : Nat, i = .int .i64 (j : Int) ∧ ∃ s H, j ≤ ops.length ∧ Two wr H p q s ∧ s.ws.length ≤ j ∧ Kept [] w wr ∧ (∀ x ∈ H, w.heap.size ≤ x)) (fun _ i _ => ops.length - (intOf i).toNat)
  case atStart => exact ⟨0, rfl, newS nb, H0, by omega, hT0, hlen0, K3, N3⟩
  case round =>
    clear hT0 hlen0 K3 N3
    obtain ⟨j, rfl, s, H, hj, hT, hl, hK, hN⟩ := hrel
    by_cases hlt : j < ops.length
    · have hlt2 : (j : Int) < (ops.length : Int) := by omega
      obtain ⟨x, hx⟩ : ∃ x, ops[j]? = some x := ⟨ops[j], by simp⟩
      obtain ⟨a', cap', hveq, -, -, -, h5⟩ := hv.kept hK
      injection hveq with e1 e2 e3
      subst e1 e3
      obtain ⟨b, o, rfl, hcc⟩ := h5 (fun h => by subst h; simp at hx)
      obtain ⟨c0, c1, c2, c3⟩ := hcc j x hx
      have hst := step_any x (HO.out x (List.mem_of_getElem? hx)) hT (by omega)
      unfold OpD.val at hst
      have hl2 : (stepS s x).ws.length ≤ j + 1 := by have := stepS_len s x; omega
      generalize stepS s x = s' at hst hl2
      clear hcc h5 hx
      go_wp2_with fail
      refine hst.mono ?_
      rintro e wa ⟨rfl, H', hTa, ka, na⟩
      have hKa : Kept [] w wa := hK.trans ka (fun y hy => .inr (hN y hy))
      have hNa : ∀ y ∈ H', w.heap.size ≤ y := fun y hy => by
        rcases na y hy with h | h
        · exact hN y h
        · have := hK.size; omega
      clear hst c0 c1 c2 c3 hT ka na hK hN
      go_wp2_with fail
      refine (alike_any p q H' s' wa hTa (by omega)).mono ?_
      rintro e wb ⟨rfl, kb⟩
      have hTb := hTa.kept kb (by simp)
      have hKb := hKa.trans kb (by simp)
      clear hTa hKa kb
      go_wp2
      go_roundw
      case rel => exact ⟨j + 1, by go_num, s', H', by omega, hTb, hl2, hKb, hNa⟩
      case measure => simp [intOf]; omega
    · have hlt2 : ¬ (j : Int) < (ops.length : Int) := by omega
      go_wp2_with fail
      refine (alike_any p q H s wr hT (by omega)).mono ?_
      rintro e wb ⟨rfl, kb⟩
      have hKb := hK.trans kb (by simp)
      go_wp2
      go_ret
      exact ⟨rfl, hKb⟩

end Go.Proofs.Ytmbfojjmnjagiaa
