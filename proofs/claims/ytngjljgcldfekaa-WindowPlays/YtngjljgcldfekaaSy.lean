/-
  The program's window and the document's, side by side; same.
-/
import Derived.Test.YtngjljgcldfekaaRb
namespace Go.Proofs.Ytngjljgcldfekaa
open Go.RowKit
set_option linter.unusedVariables false
/-- The program's window at p remembers L, the document's at pf remembers A; both were made since w0. -/
structure Pair (w0 w : World) (p pf : Nat) (L A : List Cl) : Prop where
  win : Win w0 w p L
  ref : ∃ v qs, IsF w pf v qs ∧ mx qs = A
  good : Good A
  new : w0.heap.size ≤ pf
section
variable {w0 w w' : World} {p pf : Nat} {L A : List Cl}
theorem Pair.kept0 (h : Pair w0 w p pf L A) (k : Kept [] w w') : Pair w0 w' p pf L A := by
  obtain ⟨v, qs, hF, hm⟩ := h.ref
  exact ⟨h.win.kept0 k, ⟨v, qs, hF.kept0 k, hm⟩, h.good, h.new⟩
theorem radd12 {v : Value} {qs : List Cq} (hB : IsF w pf v qs) (hl : qs.length ≤ 64) (h4 : Four (mx qs)) (c s : Nat) : Calls Try.prog 12 #[.pointer (some ⟨pf, 0, none⟩), Uv c, Uv s] w fun e w' => RAddAt w pf qs c s e w' := by
  cases hs : seenL (mx qs) c s with
  | false => exact radd12_no hB hl h4 c s hs
  | true =>
    have hS := rseen15 hB h4 c s
    rw [hs] at hS
    refine (radd12_seen hS).mono ?_
    rintro e w' ⟨rfl, k⟩
    exact ⟨by rw [hs]; rfl, v, qs, hB.kept0 k, by unfold nxt; rw [if_pos hs], k.mono (by simp)⟩
theorem pair_add (h : Pair w0 w p pf L A) {c s : Nat} (hc : U64 c) (hs : U64 s) : Calls Try.prog 11 #[.pointer (some ⟨p, 0, none⟩), Uv c, Uv s] w fun e w' => e = .returned (.bool (!seenL L c s)) ∧ Pair w0 w' p pf (nxt L c s) A := by
  refine (win_add h.win hc hs).mono ?_
  rintro e w1 ⟨rfl, h1, k1⟩
  obtain ⟨v, qs, hF, hm⟩ := h.ref
  exact ⟨rfl, h1, ⟨v, qs, hF.besides h.win.is.box (by decide) (by decide) (by decide) k1, hm⟩, h.good, h.new⟩
theorem pair_radd (h : Pair w0 w p pf L A) {c s : Nat} (hc : U64 c) (hs : U64 s) : Calls Try.prog 12 #[.pointer (some ⟨pf, 0, none⟩), Uv c, Uv s] w fun e w' => e = .returned (.bool (!seenL A c s)) ∧ Pair w0 w' p pf L (nxt A c s) := by
  obtain ⟨v, qs, hF, rfl⟩ := h.ref
  refine (radd12 hF (by have := h.good.len; rw [mx, List.length_map] at this; exact this) h.good.four c s).mono ?_
  rintro e w1 ⟨rfl, v', qs', h1, h2, k1⟩
  exact ⟨rfl, ⟨h.win.is.kept k1 (by simp; exact box_ne h.win.is.box hF.box (by decide)), h.win.good, h.win.kept.trans k1 (fun x hx => by simp at hx; subst hx; exact .inr h.new), h.win.new⟩, ⟨v', qs', h1, h2⟩, h.good.nxt hc hs, h.new⟩
theorem pair_seen (h : Pair w0 w p pf L A) (c s : Nat) : Calls Try.prog 14 #[.pointer (some ⟨p, 0, none⟩), Uv c, Uv s] w fun e w' => e = .returned (.bool (seenL L c s)) ∧ Pair w0 w' p pf L A ∧ Kept [] w w' := by
  refine (win_seen h.win c s).mono ?_
  rintro e w1 ⟨rfl, h1, k1⟩
  exact ⟨rfl, h.kept0 k1, k1⟩
theorem pair_rseen (h : Pair w0 w p pf L A) (c s : Nat) : Calls Try.prog 15 #[.pointer (some ⟨pf, 0, none⟩), Uv c, Uv s] w fun e w' => e = .returned (.bool (seenL A c s)) ∧ Pair w0 w' p pf L A ∧ Kept [] w w' := by
  obtain ⟨v, qs, hF, hm⟩ := h.ref
  have h4 := h.good.four
  rw [← hm] at h4
  refine (rseen15 hF h4 c s).mono ?_
  rintro e w1 ⟨rfl, k1⟩
  exact ⟨by rw [hm], h.kept0 k1, k1⟩
theorem pair_serials (h : Pair w0 w p pf L A) (c : Nat) : Calls Try.prog 17 #[.pointer (some ⟨p, 0, none⟩), Uv c] w fun e w' => ∃ a n ca, e = .returned (.slice a n ca) ∧ ReadsU w' (.slice a n ca) (srl L c) ∧ Pair w0 w' p pf L A ∧ Kept [] w w' := by
  refine (win_serials h.win c).mono ?_
  rintro e w1 ⟨v, rfl, hO, -, h1, k1⟩
  obtain ⟨a, ca, rfl, -, -⟩ := hO.form
  exact ⟨a, _, ca, rfl, hO.reads, h.kept0 k1, k1⟩
theorem pair_rserials (h : Pair w0 w p pf L A) (c : Nat) : Calls Try.prog 18 #[.pointer (some ⟨pf, 0, none⟩), Uv c] w fun e w' => ∃ a n ca, e = .returned (.slice a n ca) ∧ ReadsU w' (.slice a n ca) (srl A c) ∧ Pair w0 w' p pf L A ∧ Kept [] w w' := by
  obtain ⟨v, qs, hF, hm⟩ := h.ref
  have h4 := h.good.four
  rw [← hm] at h4
  refine (rser18 hF h4 c).mono ?_
  rintro e w1 ⟨v, rfl, hO, k1, -⟩
  obtain ⟨a, ca, rfl, -, -⟩ := hO.form
  exact ⟨a, _, ca, rfl, by rw [← hm]; exact hO.reads, h.kept0 k1, k1⟩
set_option maxRecDepth 100000 in
set_option maxHeartbeats 1000000 in
theorem same13 (h : Pair w0 w p pf L L) : Calls Try.prog 13 #[.pointer (some ⟨p, 0, none⟩), .pointer (some ⟨pf, 0, none⟩)] w fun e w' => e = .returned (.bool true) ∧ Pair w0 w' p pf L L ∧ Kept [] w w' := by
  have HP := Hid.mk h
  have hl64 := h.good.len
  clear h
  go_enter Try.func13, Try.ntmps13
  go_wp2_with fail
  refine (win_clients HP.out.win).mono ?_
  rintro e w1 ⟨v1, rfl, hO1, -, -, k1⟩
  obtain ⟨a1, c1, rfl, hb11, hb12⟩ := hO1.form
  have hlc : (clis L).length ≤ 64 := by rw [clis, List.length_map]; exact hl64
  have HR1 := Hid.mk hO1.reads
  clear hO1
  generalize hn : (clis L).length = n at *
  have HN := Hid.mk hn
  clear hn
  obtain ⟨v, qs, hF, hm⟩ := (HP.out.kept0 k1).ref
  have hC := rcli26 hF (by have : qs.length = L.length := by rw [← hm, mx, List.length_map]
                           omega)
  rw [hm] at hC
  have HC := Hid.mk hC
  clear hC hF hm
  go_wp2_with fail
  refine HC.out.mono ?_
  rintro e w2 ⟨v2, rfl, hO2, k2, -⟩
  obtain ⟨a2, c2, rfl, hb21, hb22⟩ := hO2.form
  have HE := Hid.mk (same16 (HR1.out.kept0 k2) hO2.reads rfl)
  clear hO2
  go_wp2_with fail
  refine HE.out.mono ?_
  rintro e w3 ⟨rfl, k3⟩
  have k03 := (k1.trans k2 (by simp)).trans k3 (by simp)
  have HK : Hid (Kept [] w1 w3) := k2.trans k3 (by simp)
  go_wp2_with fail
  go_loopw [16] (fun i wr => ∃ j : Nat, i = .int .i64 (j : Int) ∧ j ≤ n ∧ Hid (Kept [] w wr ∧ Kept [] w1 wr)) (fun i _ => n - (intOf i).toNat)
  case atStart => exact ⟨0, rfl, by omega, Hid.mk ⟨k03, HK.out⟩⟩
  case round =>
    obtain ⟨j, rfl, hj, hH⟩ := hrel
    by_cases hlt : j < n
    · have hjI : (j : Int) < (n : Int) := by omega
      have hj0 : (0 : Int) ≤ (j : Int) := by omega
      obtain ⟨x, hx⟩ : ∃ x, (clis L)[j]? = some x := ⟨_, List.getElem?_eq_getElem (by have := HN.out; omega)⟩
      obtain ⟨b, o, rfl, -⟩ := HR1.out.at hx
      have HS : Hid (∀ W, Kept [] w1 W → W.cell? ⟨b, o + j, none⟩ = some (Uv x)) := fun W k => by
        obtain ⟨b', o', e, d0⟩ := (HR1.out.kept0 k).at hx
        injection e with e
        injection e with e1 e2 _
        subst e1 e2
        exact d0
      have kd := hH.out.2.drew
      have S0 := HS.out _ kd
      have HKD : Hid (Kept [] w wr.drew ∧ Kept [] w1 wr.drew) := ⟨hH.out.1.drew, kd⟩
      have H17 := Hid.mk (pair_serials (HP.out.kept0 HKD.out.1) x)
      clear kd hx k03 hH
      go_wp2_with fail
      go_region_held3 (fun W => W.cell? ⟨b, o + j, none⟩ = some (Uv x)) (first | exact S0 | exact S1 | exact S2 | exact S3) (first | (go_at_call 16; refine (same16 (h5.kept0 k6) h6 rfl).mono ?_; rintro e w7 ⟨rfl, k7⟩; have S3 := HS.out _ (((HKD.out.2.trans k5 (by simp)).trans k6 (by simp)).trans k7 (by simp))) | (go_at_call 18; refine (pair_rserials hP5 x).mono ?_; rintro e w6 ⟨a6, n6, c6, rfl, h6, -, k6⟩; have S2 := HS.out _ ((HKD.out.2.trans k5 (by simp)).trans k6 (by simp))) | (go_at_call 17; refine H17.out.mono ?_; rintro e w5 ⟨a5, n5, c5, rfl, h5, hP5, k5⟩; have S1 := HS.out _ (HKD.out.2.trans k5 (by simp))))
      have HR : Hid (Kept [] w w7 ∧ Kept [] w1 w7) := ⟨((HKD.out.1.trans k5 (by simp)).trans k6 (by simp)).trans k7 (by simp), ((HKD.out.2.trans k5 (by simp)).trans k6 (by simp)).trans k7 (by simp)⟩
      clear S0 S1 S2 S3 h5 h6 hP5 k5 k6 k7
      go_wp2_with fail
      go_roundw
      case rel => exact ⟨j + 1, by go_num, by omega, HR⟩
      case measure => simp [intOf]; omega
    · obtain rfl : j = n := by omega
      go_wp2_with fail
      go_ret
      exact ⟨rfl, HP.out.kept0 hH.out.1, hH.out.1⟩
end
end Go.Proofs.Ytngjljgcldfekaa
