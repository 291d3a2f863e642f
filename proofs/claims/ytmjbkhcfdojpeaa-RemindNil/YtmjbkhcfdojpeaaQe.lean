/-
  find: the place of the reminder of an actor and a name.
-/
import Derived.Test.YtmjbkhcfdojpeaaQa
namespace Go.Proofs.Ytmjbkhcfdojpeaa
set_option maxRecDepth 100000
open Go.RowKit Go.Shelf
set_option linter.unusedVariables false
/-- How many come ahead of the one of that actor and name. -/
def idxR : List Rm → List UInt8 → List UInt8 → Nat
  | [], _, _ => 0
  | x :: Q, ac, nm => if sameR x ac nm = true then 0 else idxR Q ac nm + 1
theorem idxR_le (Q : List Rm) (ac nm : List UInt8) : idxR Q ac nm ≤ Q.length := by
  induction Q with
  | nil => simp [idxR]
  | cons x Q ih => rw [idxR]; split <;> simp; omega
theorem idxR_lt : ∀ {Q : List Rm} {ac nm : List UInt8} {j : Nat} {y : Rm}, Q[j]? = some y → j < idxR Q ac nm → sameR y ac nm = false
  | [], ac, nm, j, y, hj, h => by simp at hj
  | x :: K, ac, nm, 0, y, hj, h => by
    simp at hj
    subst hj
    rw [idxR] at h
    split at h
    · omega
    · rename_i hx; simpa using hx
  | x :: K, ac, nm, j + 1, y, hj, h => by
    rw [idxR] at h
    split at h
    · omega
    · exact idxR_lt (Q := K) (by simpa using hj) (by omega)
theorem idxR_at : ∀ {Q : List Rm} {ac nm : List UInt8} {y : Rm}, Q[idxR Q ac nm]? = some y → sameR y ac nm = true
  | [], ac, nm, y, h => by simp at h
  | x :: K, ac, nm, y, h => by
    rw [idxR] at h
    split at h
    · rename_i hx
      simp at h
      subst h
      exact hx
    · exact idxR_at (Q := K) (by simpa using h)
theorem hasR_idx (Q : List Rm) (ac nm : List UInt8) : hasR Q ac nm = decide (idxR Q ac nm < Q.length) := by
  induction Q with
  | nil => simp [hasR, idxR]
  | cons x Q ih =>
    have e : hasR (x :: Q) ac nm = (sameR x ac nm || hasR Q ac nm) := by simp [hasR]
    rw [e, idxR, ih]
    cases hs : sameR x ac nm with
    | true => simp
    | false => simp
/-- What find answers. -/
def fI (Q : List Rm) (ac nm : List UInt8) : Int := if idxR Q ac nm < Q.length then (idxR Q ac nm : Int) else -1
theorem can_idx : ∀ {Q : List Rm} {ac nm : List UInt8}, (Q.Pairwise fun a b => ¬ (a.ac = b.ac ∧ a.nm = b.nm)) → canR Q ac nm = Q.take (idxR Q ac nm) ++ Q.drop (idxR Q ac nm + 1)
  | [], ac, nm, _ => by simp [canR]
  | x :: Q, ac, nm, hp => by
    obtain ⟨h1, h2⟩ := List.pairwise_cons.1 hp
    rw [idxR]
    by_cases hx : sameR x ac nm = true
    · rw [if_pos hx]
      have hq : hasR Q ac nm = false := by
        cases hh : hasR Q ac nm with
        | false => rfl
        | true =>
          obtain ⟨y, hy, e⟩ := hasR_iff.1 hh
          have e' := sameR_iff.1 hx
          exact absurd ⟨e'.1.trans e.1.symm, e'.2.trans e.2.symm⟩ (h1 y hy)
      have := canR_none hq
      unfold canR at this ⊢
      rw [List.filter_cons, if_neg (by simp [hx]), this]
      simp
    · rw [if_neg hx]
      have ih := can_idx (ac := ac) (nm := nm) h2
      unfold canR at ih ⊢
      rw [List.filter_cons, if_pos (by simpa using hx), ih]
      simp
section
variable {w : World} {p : Nat} {Q : List Rm}
set_option maxHeartbeats 1000000 in
theorem is65 (x : Rm) (ac nm : List UInt8) {b1 b2 : Nat} (c1 : w.cell? ⟨b1, 0, none⟩ = some (Sv ac)) (c2 : w.cell? ⟨b2, 0, none⟩ = some (Sv nm)) : Calls Try.prog 65 #[Rv x, .pointer (some ⟨b1, 0, none⟩), .pointer (some ⟨b2, 0, none⟩)] w fun e w' => e = .returned (.bool (sameR x ac nm)) ∧ Kept [] w w' := by
  obtain ⟨ac', nm', due, per, kind⟩ := x
  have k0 : Kept [] w (w.alloc (.cells #[Sv ac', Sv nm', Iv due, Iv per, Iv kind] 27)) := (Kept.refl [] w).alloc _
  have d1 := k0.cell_eq c1
  have d2 := k0.cell_eq c2
  have e1 : sameR ⟨ac', nm', due, per, kind⟩ ac nm = ((ac' == ac) && (nm' == nm)) := by
    rw [Bool.eq_iff_iff, sameR_iff]
    simp
  rw [e1]
  clear c1 c2 e1
  by_cases h1 : ac' = ac
  · subst h1
    rw [beq_self_eq_true, Bool.true_and]
    by_cases h2 : nm' = nm
    · subst h2
      rw [beq_self_eq_true]
      go_enter Try.func65, Try.ntmps65
      go_wp2_with fail
      go_ret
      exact ⟨rfl, k0⟩
    · have hq : (nm' == nm) = false := by simpa using h2
      rw [hq]
      go_enter Try.func65, Try.ntmps65
      go_wp2_with fail
      go_ret
      exact ⟨rfl, k0⟩
  · have hq : (ac' == ac) = false := by simpa using h1
    rw [hq, Bool.false_and]
    go_enter Try.func65, Try.ntmps65
    go_wp2_with fail
    go_ret
    exact ⟨rfl, k0⟩
set_option maxHeartbeats 1000000 in
theorem index64 (hB : IsQ w p Q) (ac nm : List UInt8) {b1 b2 : Nat} (c1 : w.cell? ⟨b1, 0, none⟩ = some (Sv ac)) (c2 : w.cell? ⟨b2, 0, none⟩ = some (Sv nm)) : Calls Try.prog 64 #[.slice (some ⟨p, 0, none⟩) Q.length 64, .func (.func 65) #[] #[.pointer (some ⟨b1, 0, none⟩), .pointer (some ⟨b2, 0, none⟩)]] w fun e w' => e = .returned (Iv (fI Q ac nm)) ∧ Kept [] w w' := by
  have eg : ∀ args w, (callFunc 65 args).run Try.prog w = .ok (.enter 65 args) w := enters_of Try.func65 (by kernel_rfl) rfl
  have hn64 := hB.len
  obtain ⟨R, hR⟩ : ∃ R, Hid (fI Q ac nm = R) := ⟨_, rfl⟩
  rw [hR.out]
  have hle := idxR_le Q ac nm
  obtain ⟨P, hP⟩ : ∃ P, Hid (idxR Q ac nm = P) := ⟨_, rfl⟩
  rw [hP.out] at hle
  have HB := Hid.mk hB
  have HC1 := Hid.mk c1
  have HC2 := Hid.mk c2
  clear hB c1 c2
  generalize hnn : Q.length = n at *
  have HN := Hid.mk hnn
  clear hnn
  go_enter Try.func64, Try.ntmps64
  go_wp2_with fail
  go_loopw [8] (fun i wr => ∃ j : Nat, Hid (Kept [] w wr) ∧ i = .int .i64 (j : Int) ∧ j ≤ P) (fun i _ => n - (intOf i).toNat)
  case atStart => exact ⟨0, Hid.mk (Kept.refl [] w), rfl, by omega⟩
  case round =>
    obtain ⟨j, kk, rfl, hj⟩ := hrel
    by_cases hlt : j < n
    · obtain ⟨x, hx⟩ : ∃ x, Q[j]? = some x := ⟨_, List.getElem?_eq_getElem (by have := HN.out; omega)⟩
      obtain ⟨d0, d1, d2, d3, d4⟩ := (HB.out.kept0 kk.out).at hx
      have hcc := is65 (w := wr) x ac nm (kk.out.cell_eq HC1.out) (kk.out.cell_eq HC2.out)
      have hjI : (j : Int) < (n : Int) := by omega
      by_cases hk : j < P
      · have hs : sameR x ac nm = false := idxR_lt hx (by rw [hP.out]; exact hk)
        rw [hs] at hcc
        have HC := Hid.mk hcc
        clear hcc hx hs
        go_wp2_with (go_at_fn 65; refine HC.out.mono ?_; rintro e w' ⟨rfl, k1⟩; have HK := Hid.mk (kk.out.trans k1 (by simp)); clear k1)
        go_roundw
        case rel => exact ⟨j + 1, HK, by go_num, by omega⟩
        case measure => simp [intOf]; omega
      · obtain rfl : j = P := by omega
        have hs : sameR x ac nm = true := idxR_at (by rw [hP.out]; exact hx)
        rw [hs] at hcc
        have HC := Hid.mk hcc
        have e : R = (j : Int) := by
          rw [← hR.out, fI, if_pos (by rw [hP.out, HN.out]; exact hlt), hP.out]
        subst e
        clear hcc hx hs
        go_wp2_with (go_at_fn 65; refine HC.out.mono ?_; rintro e w' ⟨rfl, k1⟩; have HK := Hid.mk (kk.out.trans k1 (by simp)); clear k1)
        go_ret
        exact ⟨rfl, HK.out⟩
    · have e : R = -1 := by
        rw [← hR.out, fI, if_neg (by rw [hP.out, HN.out]; omega)]
      subst e
      go_wp2_with fail
      go_ret
      exact ⟨rfl, kk.out⟩
theorem find49_nil (ac nm : List UInt8) : Calls Try.prog 49 #[.pointer none, Sv ac, Sv nm] w fun e w' => e = .returned (Iv (-1)) ∧ Kept [] w w' := by
  go_enter Try.func49, Try.ntmps49
  go_wp2_with fail
  go_ret
  exact ⟨rfl, ((Kept.refl [] w).alloc _).alloc _⟩
set_option maxHeartbeats 1000000 in
theorem find49 (hB : IsQ w p Q) (ac nm : List UInt8) : Calls Try.prog 49 #[.pointer (some ⟨p, 0, none⟩), Sv ac, Sv nm] w fun e w' => e = .returned (Iv (fI Q ac nm)) ∧ Kept [] w w' := by
  have hn64 := hB.len
  obtain ⟨R, hR⟩ : ∃ R, Hid (fI Q ac nm = R) := ⟨_, rfl⟩
  rw [hR.out]
  obtain ⟨W0, e0, k0, hz0, hb0, hb1⟩ := box2 w (.cells #[Sv ac] 9) (.cells #[Sv nm] 9)
  have HI : Hid (∀ W, Kept [] W0 W → Calls Try.prog 64 #[.slice (some ⟨p, 0, none⟩) Q.length 64, .func (.func 65) #[] #[.pointer (some ⟨w.heap.size, 0, none⟩), .pointer (some ⟨w.heap.size + 1, 0, none⟩)]] W fun e w' => e = .returned (Iv R) ∧ Kept [] W w') := fun W k => by
    rw [← hR.out]
    refine index64 (hB.kept0 (k0.trans k (by simp))) ac nm ?_ ?_
    · have := k.keeps hb0 (by simp); simp [World.cell?, this]
    · have := k.keeps hb1 (by simp); simp [World.cell?, this]
  have HS : Hid (∀ W, Kept [] W0 W → W.cell? ⟨p, 320, none⟩ = some (Iv (Q.length : Int))) := fun W k => (hB.kept0 (k0.trans k (by simp))).count
  have HK0 := Hid.mk k0
  clear hB hb0 hb1 k0
  have g0 : (0 : Int) ≤ (Q.length : Int) := by omega
  have g1 : (Q.length : Int) ≤ 64 := by omega
  generalize Q.length = n at *
  go_enter Try.func49, Try.ntmps49
  go_wp2_with fail
  have S0 := HS.out _ (Kept.refl [] W0).drew
  go_region_held3 (fun W => W.cell? ⟨p, 320, none⟩ = some (.int .i64 (n : Int))) (first | exact S0 | exact S1) (first | (go_at_call 64; refine (HI.out _ (Kept.refl [] W0).drew).mono ?_; rintro e w1 ⟨rfl, k1⟩; have S1 := HS.out _ ((Kept.refl [] W0).drew.trans k1 (by simp))))
  go_wp2_with fail
  go_ret
  exact ⟨rfl, HK0.out.trans ((Kept.refl [] W0).drew.trans k1 (by simp)) (by simp)⟩
end
end Go.Proofs.Ytmjbkhcfdojpeaa
