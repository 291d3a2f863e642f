/-
  DiskCuts: the walk.
-/
import Derived.Test.YtmbfojjmnjagiaaOpenO
import Derived.Test.YtmbfojjmnjagiaaCut
import Derived.Test.YtmbfojjmnjagiaaRefCO
import Derived.Test.YtmbfojjmnjagiaaRefCZ
namespace Go.Proofs.Ytmbfojjmnjagiaa
open Go.RowKit
set_option linter.unusedVariables false

/-- The document's Cut. -/
theorem fcut_any {F : List Nat} {p : Nat} {s : St} {w : World} (hD : IsF w F p s) (n : Int) (hn : n < 9223372036854775808) (hb : s.ws.length ≤ 1000) :
    Calls Try.prog 14 #[.pointer (some ⟨p, 0, none⟩), .int .i64 n] w fun e w' => ∃ q, e = .returned (.pointer (some ⟨q, 0, none⟩)) ∧ ∃ G, IsF w' G q (cutS s n) ∧ Kept [] w w' ∧ ∀ x ∈ G, w.heap.size ≤ x := by
  unfold cutS cutN
  by_cases h0 : n < 0
  · rw [show (min (max n 0) (s.ws.length : Int)).toNat = 0 by omega]
    exact fcut_neg hD n h0
  · obtain ⟨c, rfl⟩ := Int.eq_ofNat_of_zero_le (show 0 ≤ n by omega)
    by_cases hc : c ≤ s.ws.length
    · rw [show (min (max (c : Int) 0) (s.ws.length : Int)).toNat = c by omega]
      by_cases hz : c = 0
      · subst hz
        exact fcut_nil hD
      · exact fcut_some hD c (by omega) hc hb
    · rw [show (min (max (c : Int) 0) (s.ws.length : Int)).toNat = s.ws.length by omega]
      by_cases hz : s.ws.length = 0
      · rw [hz]
        exact fcut_none hD (c : Int) (by omega) hz
      · exact fcut_over hD s.ws.length (by omega) (Nat.le_refl _) rfl (c : Int) (by omega) hn hb

/-- Cut of both. -/
theorem cut_both {w : World} {H : List Nat} {p q : Nat} {s : St} (hT : Two w H p q s) (n : Int) (hn : n < 9223372036854775808) (hb : s.ws.length ≤ 1000) :
    Calls Try.prog 13 #[.pointer (some ⟨p, 0, none⟩), .int .i64 n] w fun e wa => ∃ p2, e = .returned (.pointer (some ⟨p2, 0, none⟩)) ∧ Calls Try.prog 14 #[.pointer (some ⟨q, 0, none⟩), .int .i64 n] wa fun e wb => ∃ q2, e = .returned (.pointer (some ⟨q2, 0, none⟩)) ∧ ∃ H2, Two wb H2 p2 q2 (cutS s n) ∧ Kept [] w wb ∧ ∀ x ∈ H2, w.heap.size ≤ x := by
  obtain ⟨F, G, rfl, h1, h2, h3⟩ := hT
  refine (cut_any h1 n hb).mono fun e wa ⟨p2, he, F2, hD, ka, nF⟩ => ⟨p2, he, ?_⟩
  refine (fcut_any (h2.kept ka (by simp)) n hn hb).mono fun e wb ⟨q2, he, G2, hF, kb, nG⟩ => ⟨q2, he, F2 ++ G2, ⟨F2, G2, rfl, hD.kept kb (by simp), hF, fun x hx hm => ?_⟩, ka.trans kb (by simp), fun x hx => ?_⟩
  · have := hD.lt x hx; have := nG x hm; omega
  · rcases List.mem_append.1 hx with h | h
    · exact nF x h
    · have := nG x h; have := ka.size; omega

set_option maxRecDepth 100000 in
set_option maxHeartbeats 1000000 in
theorem cuts_long (n : Int) (a : Option Addr) (m cap : Nat) (a2 : Option Addr) (m2 cap2 : Nat) (w : World) (h : 60 < m ∨ 30 < m2) : Calls Try.prog 4 #[.slice a m cap, .int .i64 n, .slice a2 m2 cap2] w fun e w' => e = .returned (.bool true) ∧ Kept [] w w' := by
  by_cases h1 : 60 < m
  · have hn : (60 : Int) < (m : Int) := by omega
    go_enter Try.func4, Try.ntmps4
    go_wp2_with fail
    refine (awake_any w).mono ?_
    rintro e w1 ⟨rfl, k1⟩
    go_wp2_with fail
    refine (awake_any w1).mono ?_
    rintro e w2 ⟨rfl, k2⟩
    have hK := k1.trans k2 (by simp)
    clear k1 k2
    go_wp2
    go_ret
    exact ⟨rfl, hK⟩
  · have hn : ¬ (60 : Int) < (m : Int) := by omega
    have hn2 : (30 : Int) < (m2 : Int) := by omega
    go_enter Try.func4, Try.ntmps4
    go_wp2_with fail
    refine (awake_any w).mono ?_
    rintro e w1 ⟨rfl, k1⟩
    go_wp2_with fail
    refine (awake_any w1).mono ?_
    rintro e w2 ⟨rfl, k2⟩
    have hK := k1.trans k2 (by simp)
    clear k1 k2
    go_wp2
    go_ret
    exact ⟨rfl, hK⟩

set_option maxRecDepth 100000 in
set_option maxHeartbeats 2000000 in
theorem cuts_walk (n : Int) (hnn : n < 9223372036854775808) (v v2 : Value) (ops more : List OpD) (w : World) (hv : HoldsO w v ops) (hv2 : HoldsO w v2 more) (hl : ops.length ≤ 60) (hl2 : more.length ≤ 30) : Calls Try.prog 4 #[v, .int .i64 n, v2] w fun e w' => e = .returned (.bool true) ∧ Kept [] w w' := by
  obtain ⟨a, cap, rfl, h2, h3, h4, h5⟩ := id hv
  have hcap : cap ≤ 9223372036854775807 := h3
  have HO : Hid (∀ x ∈ ops, x.ok) := h4
  clear h5 h4 h3
  obtain ⟨a2, cap2, rfl, g2, g3, g4, g5⟩ := id hv2
  have hcap2 : cap2 ≤ 9223372036854775807 := g3
  have HO2 : Hid (∀ x ∈ more, x.ok) := g4
  clear g5 g4 g3
  have t1 : ¬ (60 : Int) < (ops.length : Int) := by omega
  have t2 : ¬ (30 : Int) < (more.length : Int) := by omega
  go_enter Try.func4, Try.ntmps4
  go_wp2_with fail
  refine (awake_any w).mono ?_
  rintro e w1 ⟨rfl, k1⟩
  go_wp2_with fail
  refine (new_both 6 w1).mono ?_
  rintro e w2 ⟨p, rfl, hN⟩
  go_wp2_with fail
  refine hN.mono ?_
  rintro e w3 ⟨q, rfl, H0, hT0, k3, n3⟩
  have K3 : Kept [] w w3 := k1.trans k3 (by simp)
  have N3 : ∀ x ∈ H0, w.heap.size ≤ x := fun x hx => by have := n3 x hx; have := k1.size; omega
  have hlen0 : (newS 6).ws.length ≤ 0 := Nat.le_refl _
  generalize newS 6 = s0 at hT0 hlen0
  clear hN k1 k3 n3
  go_wp2_with fail
  go_loopw [9, 30] (fun _ i wr => ∃ j : Nat, i = .int .i64 (j : Int) ∧ ∃ s H, j ≤ ops.length ∧ Two wr H p q s ∧ s.ws.length ≤ j ∧ Kept [] w wr ∧ (∀ x ∈ H, w.heap.size ≤ x)) (fun _ i _ => ops.length - (intOf i).toNat)
  case atStart => exact ⟨0, rfl, s0, H0, by omega, hT0, hlen0, K3, N3⟩
  case round =>
    clear hT0 hlen0 K3 N3
    obtain ⟨j, rfl, s, H, hj, hT, hsl, hK, hN⟩ := hrel
    by_cases hlt : j < ops.length
    · have hlt2 : (j : Int) < (ops.length : Int) := by omega
      obtain ⟨x, hx⟩ : ∃ x, ops[j]? = some x := ⟨ops[j], by simp⟩
      obtain ⟨a', cap', hveq, -, -, -, h5⟩ := hv.kept hK
      injection hveq with e1 e2 e3
      subst e1 e3
      obtain ⟨b, o, rfl, hcc⟩ := h5 (fun h => by subst h; simp at hx)
      obtain ⟨c0, c1, c2, c3⟩ := hcc j x hx
      have hst := step_any x (HO.out x (List.mem_of_getElem? hx)) hT (by omega)
      unfold OpD.val at hst
      have hl3 : (stepS s x).ws.length ≤ j + 1 := by have := stepS_len s x; omega
      generalize stepS s x = s' at hst hl3
      clear hcc h5 hx
      go_wp2_with fail
      refine hst.mono ?_
      rintro e wa ⟨rfl, H', hTa, ka, na⟩
      have hKa : Kept [] w wa := hK.trans ka (fun y hy => .inr (hN y hy))
      have hNa : ∀ y ∈ H', w.heap.size ≤ y := fun y hy => by
        rcases na y hy with h | h
        · exact hN y h
        · have := hK.size; omega
      clear hst c0 c1 c2 c3 hT ka na hK hN
      go_wp2
      go_roundw
      case rel => exact ⟨j + 1, by go_num, s', H', by omega, hTa, hl3, hKa, hNa⟩
      case measure => simp [intOf]; omega
    · have hlt2 : ¬ (j : Int) < (ops.length : Int) := by omega
      have hct := cut_both hT n hnn (by omega)
      have hcl : (cutS s n).ws.length ≤ 60 := by show (s.ws.take _).length ≤ 60; rw [List.length_take]; omega
      generalize cutS s n = sc at hct hcl
      go_wp2_with fail
      refine hct.mono ?_
      rintro e wa ⟨p2, rfl, hct2⟩
      go_wp2_with fail
      refine hct2.mono ?_
      rintro e wb ⟨q2, rfl, H2, hTb, kb, nb⟩
      clear hct hct2
      go_wp2_with fail
      refine (alike_any p2 q2 H2 sc wb hTb (by omega)).mono ?_
      rintro e wc ⟨rfl, kc⟩
      have hTc := hTb.kept kc (by simp)
      have hKc := kb.trans kc (by simp)
      clear hTb kb kc
      generalize wr = w5 at hT hK hKc nb
      go_wp2_with fail
      go_loopw [12, 54] (fun _ i w4 => ∃ m : Nat, i = .int .i64 (m : Int) ∧ ∃ s2 H', m ≤ more.length ∧ Two w4 H' p2 q2 s2 ∧ s2.ws.length ≤ 60 + m ∧ Kept [] w5 w4 ∧ (∀ x ∈ H', w5.heap.size ≤ x)) (fun _ i _ => more.length - (intOf i).toNat)
      case atStart => exact ⟨0, rfl, sc, H2, by omega, hTc, by omega, hKc, nb⟩
      case round =>
        clear hTc hKc nb hcl
        obtain ⟨m, rfl, s2, H', hm, hT4, hs4, hK4, hN4⟩ := hrel
        by_cases hmt : m < more.length
        · have hmt2 : (m : Int) < (more.length : Int) := by omega
          obtain ⟨x, hx⟩ : ∃ x, more[m]? = some x := ⟨more[m], by simp⟩
          obtain ⟨a', cap', hveq, -, -, -, h5⟩ := hv2.kept (hK.trans hK4 (by simp))
          injection hveq with e1 e2 e3
          subst e1 e3
          obtain ⟨b, o, rfl, hcc⟩ := h5 (fun h => by subst h; simp at hx)
          obtain ⟨c0, c1, c2, c3⟩ := hcc m x hx
          have hst := step_any x (HO2.out x (List.mem_of_getElem? hx)) hT4 (by omega)
          unfold OpD.val at hst
          have hl3 : (stepS s2 x).ws.length ≤ 60 + (m + 1) := by have := stepS_len s2 x; omega
          generalize stepS s2 x = s' at hst hl3
          clear hcc h5 hx
          go_wp2_with fail
          refine hst.mono ?_
          rintro e wa ⟨rfl, H3, hTa, ka, na⟩
          have hKa : Kept [] w5 wa := hK4.trans ka (fun y hy => .inr (hN4 y hy))
          have hNa : ∀ y ∈ H3, w5.heap.size ≤ y := fun y hy => by
            rcases na y hy with h | h
            · exact hN4 y h
            · have := hK4.size; omega
          clear hst c0 c1 c2 c3 hT4 ka na hK4 hN4
          go_wp2_with fail
          refine (alike_any p2 q2 H3 s' wa hTa (by omega)).mono ?_
          rintro e wb ⟨rfl, kb⟩
          have hTb := hTa.kept kb (by simp)
          have hKb := hKa.trans kb (by simp)
          clear hTa hKa kb
          go_wp2
          go_roundw
          case rel => exact ⟨m + 1, by go_num, s', H3, by omega, hTb, hl3, hKb, hNa⟩
          case measure => simp [intOf]; omega
        · have hmt2 : ¬ (m : Int) < (more.length : Int) := by omega
          have hTe := hT.kept hK4 (by simp)
          have hKe := hK.trans hK4 (by simp)
          clear hT4 hN4
          go_wp2_with fail
          refine (alike_any p q H s _ hTe (by omega)).mono ?_
          rintro e wb ⟨rfl, kb⟩
          have hKb := hKe.trans kb (by simp)
          go_wp2
          go_ret
          exact ⟨rfl, hKb⟩

theorem cuts_any (n : Int) (hnn : n < 9223372036854775808) (v v2 : Value) (ops more : List OpD) (w : World) (hv : HoldsO w v ops) (hv2 : HoldsO w v2 more) : Calls Try.prog 4 #[v, .int .i64 n, v2] w fun e w' => e = .returned (.bool true) ∧ Kept [] w w' := by
  by_cases h : ops.length ≤ 60 ∧ more.length ≤ 30
  · exact cuts_walk n hnn v v2 ops more w hv hv2 h.1 h.2
  · obtain ⟨a, cap, rfl, _⟩ := hv
    obtain ⟨a2, cap2, rfl, _⟩ := hv2
    exact cuts_long n a ops.length cap a2 more.length cap2 w (by omega)

end Go.Proofs.Ytmbfojjmnjagiaa
