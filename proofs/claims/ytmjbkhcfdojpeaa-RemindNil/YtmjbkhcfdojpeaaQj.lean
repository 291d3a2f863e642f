/-
  Set of a queue.
-/
import Derived.Test.YtmjbkhcfdojpeaaQh
namespace Go.Proofs.Ytmjbkhcfdojpeaa
set_option maxRecDepth 100000
open Go.RowKit Go.Shelf
set_option linter.unusedVariables false
/-- The error of a reminder by itself. -/
def errR (r : Rm) : Int := if isKey r.ac = false ∨ 40 < r.nm.length then 1 else if r.due < 0 ∨ r.per < 1 then 3 else 0
/-- What Set answers. -/
def setA (Q : List Rm) (r : Rm) : Int := if errR r ≠ 0 then errR r else if hasR Q r.ac r.nm = false ∧ Q.length = 64 then 6 else 0
/-- What Set leaves. -/
def setQ (Q : List Rm) (r : Rm) : List Rm := if setA Q r = 0 then setR Q r else Q
theorem errR_ok {r : Rm} (h : errR r = 0) : isKey r.ac = true ∧ r.nm.length ≤ 40 ∧ 0 ≤ r.due ∧ 1 ≤ r.per := by
  unfold errR at h
  split at h
  · cases h
  · split at h
    · cases h
    · rename_i h1 h2
      refine ⟨?_, ?_, ?_, ?_⟩
      · cases hk : isKey r.ac with
        | true => rfl
        | false => exact absurd (.inl hk) h1
      · exact Nat.le_of_not_lt fun e => h1 (.inr e)
      · exact Int.not_lt.1 fun e => h2 (.inl e)
      · exact Int.not_lt.1 fun e => h2 (.inr e)
/-- Its integers are of 64 bits. -/
structure R64 (r : Rm) : Prop where
  due : I64 r.due
  per : I64 r.per
  kind : I64 r.kind
theorem okR_of {r : Rm} (h : errR r = 0) (h6 : R64 r) : OkR r := by
  obtain ⟨h1, h2, h3, h4⟩ := errR_ok h
  exact ⟨h1, h2, h3, h4, h6.due.2, h6.per.2, h6.kind⟩
theorem GoodQ.setQ {Q : List Rm} (h : GoodQ Q) {r : Rm} (h6 : R64 r) : GoodQ (setQ Q r) := by
  unfold Ytmjbkhcfdojpeaa.setQ
  split
  · rename_i hs
    unfold setA at hs
    split at hs
    · rename_i hne; exact absurd hs hne
    · rename_i he
      split at hs
      · cases hs
      · rename_i hno
        have he0 : errR r = 0 := Classical.not_not.1 he
        refine h.set (okR_of he0 h6) ?_
        cases hh : hasR Q r.ac r.nm with
        | true => exact .inl rfl
        | false =>
          have := h.len
          exact .inr (Nat.lt_of_le_of_ne this fun e => hno ⟨hh, e⟩)
  · exact h
section
variable {w : World} {p : Nat} {Q : List Rm}
set_option maxHeartbeats 1000000 in
theorem set17_nil (r : Rm) (ha : r.ac.length ≤ 281474976710656) : Calls Try.prog 17 #[.pointer none, Rv r] w fun e w' => e = .returned (Iv 1) ∧ Kept [] w w' := by
  obtain ⟨ac, nm, due, per, kind⟩ := r
  go_enter Try.func17, Try.ntmps17
  go_wp2_with fail
  go_ret
  exact ⟨rfl, (Kept.refl [] w).alloc _⟩
set_option maxHeartbeats 1000000 in
theorem set17_err (r : Rm) (ha : r.ac.length ≤ 281474976710656) (hn : r.nm.length ≤ 281474976710656) (he : errR r ≠ 0) : Calls Try.prog 17 #[.pointer (some ⟨p, 0, none⟩), Rv r] w fun e w' => e = .returned (Iv (errR r)) ∧ Kept [] w w' := by
  obtain ⟨W0, e0, k0, hz0, hb0⟩ := box1 w (.cells #[Sv r.ac, Sv r.nm, Iv r.due, Iv r.per, Iv r.kind] 27)
  have HK : Hid (∀ W, Calls Try.prog 48 #[Sv r.ac] W fun e w' => e = .returned (.bool (isKey r.ac)) ∧ w' = W) := fun W => (isKey48 r.ac (by omega)).mono fun e w' h => ⟨h.1, h.2.symm⟩
  obtain ⟨c0, c1, c2, c3, c4⟩ := cells5 hb0
  obtain ⟨ac, nm, due, per, kind⟩ := r
  dsimp only at *
  have HK0 := Hid.mk k0
  clear hb0 k0 hz0
  unfold errR at he ⊢
  dsimp only at he ⊢
  by_cases h1 : isKey ac = false ∨ 40 < nm.length
  · rw [if_pos h1]
    clear he
    by_cases h2 : isKey ac = false
    · rw [h2] at HK
      clear h1 h2
      go_enter Try.func17, Try.ntmps17
      go_wp2_with fail
      refine (HK.out _).mono ?_
      rintro e w' ⟨rfl, rfl⟩
      go_wp2_with fail
      go_ret
      exact ⟨rfl, HK0.out⟩
    · have h3 : 40 < nm.length := by rcases h1 with h | h; exact absurd h h2; exact h
      have h4 : isKey ac = true := by simpa using h2
      have h5 : (40 : Int) < (nm.length : Int) := by omega
      rw [h4] at HK
      clear h1 h2 h4
      go_enter Try.func17, Try.ntmps17
      go_wp2_with fail
      refine (HK.out _).mono ?_
      rintro e w' ⟨rfl, rfl⟩
      go_wp2_with fail
      go_ret
      exact ⟨rfl, HK0.out⟩
  · rw [if_neg h1] at he ⊢
    have h4 : isKey ac = true := by
      cases h : isKey ac with
      | true => rfl
      | false => exact absurd (.inl h) h1
    have h3 : nm.length ≤ 40 := Nat.le_of_not_lt fun e => h1 (.inr e)
    have h5 : ¬ (40 : Int) < (nm.length : Int) := by omega
    rw [h4] at HK
    have h2 : due < 0 ∨ per < 1 := Classical.byContradiction fun e => he (if_neg e)
    rw [if_pos h2]
    clear he h1 h4
    by_cases h6 : due < 0
    · clear h2
      go_enter Try.func17, Try.ntmps17
      go_wp2_with fail
      refine (HK.out _).mono ?_
      rintro e w' ⟨rfl, rfl⟩
      go_wp2_with fail
      go_ret
      exact ⟨rfl, HK0.out⟩
    · have h7 : per < 1 := by rcases h2 with h | h; exact absurd h h6; exact h
      clear h2
      go_enter Try.func17, Try.ntmps17
      go_wp2_with fail
      refine (HK.out _).mono ?_
      rintro e w' ⟨rfl, rfl⟩
      go_wp2_with fail
      go_ret
      exact ⟨rfl, HK0.out⟩
set_option maxHeartbeats 1000000 in
theorem set17_full (hB : IsQ w p Q) (r : Rm) (he : errR r = 0) (hh : hasR Q r.ac r.nm = false) (hf : Q.length = 64) : Calls Try.prog 17 #[.pointer (some ⟨p, 0, none⟩), Rv r] w fun e w' => e = .returned (Iv 6) ∧ Kept [] w w' := by
  obtain ⟨W0, e0, k0, hz0, hb0⟩ := box1 w (.cells #[Sv r.ac, Sv r.nm, Iv r.due, Iv r.per, Iv r.kind] 27)
  obtain ⟨h1, h2, h3, h4⟩ := errR_ok he
  have hk := (isKey_iff _).1 h1
  have HK : Hid (∀ W, Calls Try.prog 48 #[Sv r.ac] W fun e w' => e = .returned (.bool true) ∧ w' = W) := fun W => by
    rw [← h1]
    exact (isKey48 r.ac (by omega)).mono fun e w' h => ⟨h.1, h.2.symm⟩
  have HF : Hid (∀ W, Kept [] w W → Calls Try.prog 49 #[.pointer (some ⟨p, 0, none⟩), Sv r.ac, Sv r.nm] W fun e w' => e = .returned (Iv (-1)) ∧ Kept [] W w' ∧ w'.cell? ⟨p, 320, none⟩ = some (Iv 64)) := fun W k => by
    have := find49 (hB.kept0 k) r.ac r.nm
    rw [idx_not hh] at this
    refine this.mono fun e w' h => ⟨h.1, h.2, ?_⟩
    have := (hB.kept0 (k.trans h.2 (by simp))).count
    rw [hf] at this
    exact this
  obtain ⟨c0, c1, c2, c3, c4⟩ := cells5 hb0
  obtain ⟨ac, nm, due, per, kind⟩ := r
  dsimp only at *
  have HK0 := Hid.mk k0
  have h5 : ¬ (40 : Int) < (nm.length : Int) := by omega
  have h6 : ¬ due < 0 := by omega
  have h7 : ¬ per < 1 := by omega
  clear hb0 k0 hz0 he hh hf hB h1 hk
  go_enter Try.func17, Try.ntmps17
  go_wp2_with fail
  refine (HK.out _).mono ?_
  rintro e w' ⟨rfl, rfl⟩
  go_wp2_with fail
  refine (HF.out _ HK0.out).mono ?_
  rintro e w1 ⟨rfl, k1, s1⟩
  go_wp2_with fail
  go_ret
  exact ⟨rfl, HK0.out.trans k1 (by simp)⟩
set_option maxHeartbeats 1000000 in
theorem set17_new (hB : IsQ w p Q) (hQ : GoodQ Q) (r : Rm) (he : errR r = 0) (hh : hasR Q r.ac r.nm = false) (hf : Q.length < 64) : Calls Try.prog 17 #[.pointer (some ⟨p, 0, none⟩), Rv r] w fun e w' => e = .returned (Iv 0) ∧ IsQ w' p (setR Q r) ∧ Kept [p] w w' := by
  obtain ⟨W0, e0, k0, hz0, hb0⟩ := box1 w (.cells #[Sv r.ac, Sv r.nm, Iv r.due, Iv r.per, Iv r.kind] 27)
  obtain ⟨h1, h2, h3, h4⟩ := errR_ok he
  have hk := (isKey_iff _).1 h1
  have HK : Hid (∀ W, Calls Try.prog 48 #[Sv r.ac] W fun e w' => e = .returned (.bool true) ∧ w' = W) := fun W => by
    rw [← h1]
    exact (isKey48 r.ac (by omega)).mono fun e w' h => ⟨h.1, h.2.symm⟩
  have HF : Hid (∀ W, Kept [] w W → Calls Try.prog 49 #[.pointer (some ⟨p, 0, none⟩), Sv r.ac, Sv r.nm] W fun e w' => e = .returned (Iv (-1)) ∧ Kept [] W w' ∧ w'.cell? ⟨p, 320, none⟩ = some (Iv (Q.length : Int))) := fun W k => by
    have := find49 (hB.kept0 k) r.ac r.nm
    rw [idx_not hh] at this
    exact this.mono fun e w' h => ⟨h.1, h.2, (hB.kept0 (k.trans h.2 (by simp))).count⟩
  have HC : Hid (∀ W, Calls Try.prog 52 #[Rv r] W fun e w' => e = .returned (Rv r) ∧ Kept [] W w') := fun W => copyOf52 r (by omega) (by omega)
  have HI : Hid (∀ W, Kept [] w W → Calls Try.prog 51 #[.pointer (some ⟨p, 0, none⟩), Rv r] W fun e w' => e = .returned (.tuple #[]) ∧ IsQ w' p (setR Q r) ∧ Kept [p] W w') := fun W k => by
    rw [setR, canR_none hh]
    exact insert51 (hB.kept0 k) hQ.ris r hf
  have hne : ((Q.length : Int) == 64) = false := by simp; omega
  have HBX : Hid (∀ W, Kept [] W0 W → W.cell? ⟨w.heap.size, 0, none⟩ = some (Sv r.ac) ∧ W.cell? ⟨w.heap.size, 1, none⟩ = some (Sv r.nm) ∧ W.cell? ⟨w.heap.size, 2, none⟩ = some (Iv r.due) ∧ W.cell? ⟨w.heap.size, 3, none⟩ = some (Iv r.per) ∧ W.cell? ⟨w.heap.size, 4, none⟩ = some (Iv r.kind)) := fun W k => cells5 (k.keeps hb0 (by simp))
  generalize setR Q r = Q' at *
  generalize (Q.length : Int) = n at *
  obtain ⟨c0, c1, c2, c3, c4⟩ := cells5 hb0
  obtain ⟨ac, nm, due, per, kind⟩ := r
  dsimp only at *
  have HK0 := Hid.mk k0
  have h5 : ¬ (40 : Int) < (nm.length : Int) := by omega
  have h6 : ¬ due < 0 := by omega
  have h7 : ¬ per < 1 := by omega
  clear hb0 k0 hz0 he hh hf hB h1 hk hQ
  go_enter Try.func17, Try.ntmps17
  go_wp2_with fail
  refine (HK.out _).mono ?_
  rintro e w' ⟨rfl, rfl⟩
  go_wp2_with fail
  refine (HF.out _ HK0.out).mono ?_
  rintro e w1 ⟨rfl, k1, s1⟩
  clear c0 c1 c2 c3 c4
  obtain ⟨c0, c1, c2, c3, c4⟩ := HBX.out _ k1
  go_wp2_with fail
  refine (HC.out _).mono ?_
  rintro e w2 ⟨rfl, k2⟩
  go_wp2_with fail
  refine (HI.out _ ((HK0.out.trans k1 (by simp)).trans k2 (by simp))).mono ?_
  rintro e w3 ⟨rfl, h3, k3⟩
  go_wp2_with fail
  go_ret
  exact ⟨rfl, h3, (((HK0.out.trans k1 (by simp)).trans k2 (by simp)).mono (by simp)).trans k3 (by simp)⟩
set_option maxHeartbeats 1000000 in
theorem set17_has (hB : IsQ w p Q) (hQ : GoodQ Q) (r : Rm) (he : errR r = 0) (hh : hasR Q r.ac r.nm = true) : Calls Try.prog 17 #[.pointer (some ⟨p, 0, none⟩), Rv r] w fun e w' => e = .returned (Iv 0) ∧ IsQ w' p (setR Q r) ∧ Kept [p] w w' := by
  obtain ⟨W0, e0, k0, hz0, hb0⟩ := box1 w (.cells #[Sv r.ac, Sv r.nm, Iv r.due, Iv r.per, Iv r.kind] 27)
  obtain ⟨h1, h2, h3, h4⟩ := errR_ok he
  have hk := (isKey_iff _).1 h1
  have hpl := hB.lt
  have HK : Hid (∀ W, Calls Try.prog 48 #[Sv r.ac] W fun e w' => e = .returned (.bool true) ∧ W = w') := fun W => by
    rw [← h1]
    exact isKey48 r.ac (by omega)
  obtain ⟨j, i1, i2, i3⟩ := idx_has hQ hh
  have HF : Hid (∀ W, Kept [] w W → Calls Try.prog 49 #[.pointer (some ⟨p, 0, none⟩), Sv r.ac, Sv r.nm] W fun e w' => e = .returned (Iv (j : Int)) ∧ Kept [] W w') := fun W k => by
    have := find49 (hB.kept0 k) r.ac r.nm
    rw [i1] at this
    exact this
  have HR : Hid (∀ W, Kept [] w W → Calls Try.prog 50 #[.pointer (some ⟨p, 0, none⟩), Iv (j : Int)] W fun e w' => e = .returned (.tuple #[]) ∧ IsQ w' p (canR Q r.ac r.nm) ∧ Kept [p] W w') := fun W k => by
    rw [← i3]
    exact remove50 (hB.kept0 k) i2
  have HC : Hid (∀ W, Calls Try.prog 52 #[Rv r] W fun e w' => e = .returned (Rv r) ∧ Kept [] W w') := fun W => copyOf52 r (by omega) (by omega)
  have HI : Hid (∀ W, IsQ W p (canR Q r.ac r.nm) → Calls Try.prog 51 #[.pointer (some ⟨p, 0, none⟩), Rv r] W fun e w' => e = .returned (.tuple #[]) ∧ IsQ w' p (setR Q r) ∧ Kept [p] W w') := fun W h => insert51 h (hQ.can _ _).ris r (by have := canR_length hQ.one hh; have := hQ.len; omega)
  have hj0 : ¬ ((j : Int) < 0) := by omega
  have hj1 : (0 : Int) ≤ (j : Int) := by omega
  have HBX : Hid (∀ W, Kept [p] W0 W → W.cell? ⟨w.heap.size, 0, none⟩ = some (Sv r.ac) ∧ W.cell? ⟨w.heap.size, 1, none⟩ = some (Sv r.nm) ∧ W.cell? ⟨w.heap.size, 2, none⟩ = some (Iv r.due) ∧ W.cell? ⟨w.heap.size, 3, none⟩ = some (Iv r.per) ∧ W.cell? ⟨w.heap.size, 4, none⟩ = some (Iv r.kind)) := fun W k => cells5 (k.keeps hb0 (by simp; omega))
  generalize setR Q r = Q' at *
  generalize canR Q r.ac r.nm = Q1 at *
  obtain ⟨c0, c1, c2, c3, c4⟩ := cells5 hb0
  obtain ⟨ac, nm, due, per, kind⟩ := r
  dsimp only at *
  have HK0 := Hid.mk k0
  have h5 : ¬ (40 : Int) < (nm.length : Int) := by omega
  have h6 : ¬ due < 0 := by omega
  have h7 : ¬ per < 1 := by omega
  clear hb0 k0 hz0 he hh hB h1 hk hQ i1 i2 i3
  go_enter Try.func17, Try.ntmps17
  go_wp2_with fail
  refine (HK.out _).mono ?_
  rintro e w' ⟨rfl, rfl⟩
  go_wp2_with fail
  refine (HF.out _ HK0.out).mono ?_
  rintro e w1 ⟨rfl, k1⟩
  clear c0 c1 c2 c3 c4
  go_wp2_with fail
  refine (HR.out _ (HK0.out.trans k1 (by simp))).mono ?_
  rintro e w2 ⟨rfl, h2, k2⟩
  have k12 : Kept [p] W0 w2 := (k1.mono (by simp)).trans k2 (by simp)
  obtain ⟨c0, c1, c2, c3, c4⟩ := HBX.out _ k12
  go_wp2_with fail
  refine (HC.out _).mono ?_
  rintro e w3 ⟨rfl, k3⟩
  go_wp2_with fail
  refine (HI.out _ (h2.kept0 k3)).mono ?_
  rintro e w4 ⟨rfl, h4, k4⟩
  go_wp2_with fail
  go_ret
  exact ⟨rfl, h4, (((HK0.out.mono (by simp)).trans k12 (by simp)).trans (k3.mono (T := [p]) (by simp)) (by simp)).trans k4 (by simp)⟩
theorem set17 (hB : IsQ w p Q) (hQ : GoodQ Q) (r : Rm) (ha : r.ac.length ≤ 281474976710656) (hn : r.nm.length ≤ 281474976710656) : Calls Try.prog 17 #[.pointer (some ⟨p, 0, none⟩), Rv r] w fun e w' => e = .returned (Iv (setA Q r)) ∧ IsQ w' p (setQ Q r) ∧ Kept [p] w w' := by
  by_cases he : errR r = 0
  · cases hh : hasR Q r.ac r.nm with
    | true =>
      have e1 : setA Q r = 0 := by rw [setA, if_neg (by simp [he]), if_neg (by simp [hh])]
      rw [setQ, if_pos e1, e1]
      exact set17_has hB hQ r he hh
    | false =>
      by_cases hf : Q.length = 64
      · have e1 : setA Q r = 6 := by rw [setA, if_neg (by simp [he]), if_pos ⟨hh, hf⟩]
        rw [setQ, if_neg (by rw [e1]; decide), e1]
        exact (set17_full hB r he hh hf).mono fun e w' h => ⟨h.1, hB.kept0 h.2, h.2.mono (by simp)⟩
      · have e1 : setA Q r = 0 := by rw [setA, if_neg (by simp [he]), if_neg (fun e => hf e.2)]
        rw [setQ, if_pos e1, e1]
        exact set17_new hB hQ r he hh (by have := hQ.len; omega)
  · have e1 : setA Q r = errR r := by rw [setA, if_pos he]
    rw [setQ, if_neg (by rw [e1]; exact he), e1]
    exact (set17_err r ha hn he).mono fun e w' h => ⟨h.1, hB.kept0 h.2, h.2.mono (by simp)⟩
end
end Go.Proofs.Ytmjbkhcfdojpeaa
