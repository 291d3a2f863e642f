/-
  The document's queue: Wrong, less, has, Cancel.
-/
import Derived.Test.YtelmppfacgdfbaaOp
import Derived.Test.YtelmppfacgdfbaaQe
import Derived.Deep.QuietTactic
import Derived.BigQuiet
namespace Go.Proofs.Ytelmppfacgdfbaa
set_option maxRecDepth 100000
open Go.RowKit Go.Shelf
set_option linter.unusedVariables false
theorem bytesLess_dec (a b : List UInt8) : Op.bytesLess a b = decide (a < b) := by
  induction a generalizing b with
  | nil => cases b <;> simp [Op.bytesLess]
  | cons x a ih =>
    cases b with
    | nil => simp [Op.bytesLess]
    | cons y b =>
      rw [Op.bytesLess, Bool.eq_iff_iff]
      simp [List.cons_lt_cons_iff, ih]
theorem rt33 : RowT 33 52 5 56 (.agg #[.string ⟨#[]⟩, .string ⟨#[]⟩, .int .i64 0, .int .i64 0, .int .i64 0]) := ⟨Try.underlying33, by kernel_rfl, rfl, by omega, by omega⟩
/-- The document's queue at block f: its reminders lie in the row v. -/
structure IsF (w : World) (f : Nat) (v : Value) (Q : List Rm) : Prop where
  box : w.heap[f]? = some (.cells #[v] 35 (0, 0))
  own : OwnsR 52 5 w v (CR Q)
section
variable {w w' : World} {f : Nat} {v : Value} {Q : List Rm}
theorem IsF.lt (h : IsF w f v Q) : f < w.heap.size := lt_of_block h.box
theorem IsF.kept {S : List Nat} (h : IsF w f v Q) (k : Kept S w w') (hf : f ∉ S) (hv : ∀ g, v.ownBlock = some g → g ∉ S) : IsF w' f v Q := ⟨k.keeps h.box hf, h.own.kept k hv⟩
theorem IsF.kept0 (h : IsF w f v Q) (k : Kept [] w w') : IsF w' f v Q := h.kept k (by simp) (by simp)
theorem IsF.cell (h : IsF w f v Q) : w.cell? ⟨f, 0, none⟩ = some v := by simp [World.cell?, h.box]
theorem IsF.free (h : IsF w f v Q) : w.frozen? ⟨f, 0, none⟩ = false := by simp [World.frozen?, h.box]
theorem IsF.row (h : IsF w f v Q) : ReadsR 5 w v (CR Q) := h.own.reads (CR_wide Q)
/-- Its row is another's block. -/
theorem IsF.apart (h : IsF w f v Q) : v.ownBlock ≠ some f := ownsR_ne h.own h.box (by decide)
/-- A new row is laid in. -/
theorem IsF.put (h : IsF w f v Q) {u : Value} {Q' : List Rm} (hu : OwnsR 52 5 w u (CR Q')) : IsF (w.setCell ⟨f, 0, none⟩ u) f u Q' ∧ Kept [f] w (w.setCell ⟨f, 0, none⟩ u) := by
  have k := (Kept.refl [f] w).setCell (p := ⟨f, 0, none⟩) (.inl (by simp)) u
  refine ⟨⟨set_at h.box, hu.kept k (fun g hg hm => ?_)⟩, k⟩
  simp at hm
  subst hm
  exact ownsR_ne hu h.box (by decide) hg
/-- What turns the program's queue leaves the document's. -/
theorem IsF.besides (h : IsF w f v Q) {p : Nat} {Q' : List Rm} (hB : IsQ w p Q') (k : Kept [p] w w') : IsF w' f v Q := by
  refine h.kept k (by simp; exact box_ne h.box hB.box (by decide)) (fun g hg hm => ?_)
  simp at hm
  subst hm
  exact ownsR_ne h.own hB.box (by decide) hg
/-- What turns the document's leaves the program's. -/
theorem IsQ.besides {p : Nat} {Q' : List Rm} (hB : IsQ w p Q') (h : IsF w f v Q) (k : Kept [f] w w') : IsQ w' p Q' :=
  hB.kept k (by simp; exact box_ne hB.box h.box (by decide))
set_option maxHeartbeats 1000000 in
theorem wrong42 (r : Rm) (ha : r.ac.length ≤ 281474976710656) : Calls Try.prog 42 #[Rv r] w fun e w' => e = .returned (Iv (errR r)) ∧ Kept [] w w' := by
  obtain ⟨W0, e0, k0, hz0, hb0⟩ := box1 w (.cells #[Sv r.ac, Sv r.nm, Iv r.due, Iv r.per, Iv r.kind] 52)
  have HK : Hid (∀ W, Calls Try.prog 63 #[Sv r.ac] W fun e w' => e = .returned (.bool (isKey r.ac)) ∧ W = w') := fun W => key63 r.ac (by omega)
  obtain ⟨c0, c1, c2, c3, c4⟩ := cells5 hb0
  obtain ⟨ac, nm, due, per, kind⟩ := r
  dsimp only at *
  have HK0 := Hid.mk k0
  clear hb0 k0 hz0
  unfold errR
  dsimp only
  by_cases h1 : isKey ac = false ∨ 40 < nm.length
  · rw [if_pos h1]
    by_cases h2 : isKey ac = false
    · rw [h2] at HK
      clear h1 h2
      go_enter Try.func42, Try.ntmps42
      go_wp2_with fail
      refine (HK.out _).mono ?_
      rintro e w' ⟨rfl, rfl⟩
      go_wp2_with fail
      go_ret
      exact ⟨rfl, HK0.out⟩
    · have h3 : 40 < nm.length := by rcases h1 with h | h; exact absurd h h2; exact h
      have h4 : isKey ac = true := by simpa using h2
      have h5 : (40 : Int) < (nm.length : Int) := by omega
      rw [h4] at HK
      clear h1 h2 h4
      go_enter Try.func42, Try.ntmps42
      go_wp2_with fail
      refine (HK.out _).mono ?_
      rintro e w' ⟨rfl, rfl⟩
      go_wp2_with fail
      go_ret
      exact ⟨rfl, HK0.out⟩
  · rw [if_neg h1]
    have h4 : isKey ac = true := by
      cases h : isKey ac with
      | true => rfl
      | false => exact absurd (.inl h) h1
    have h3 : nm.length ≤ 40 := Nat.le_of_not_lt fun e => h1 (.inr e)
    have h5 : ¬ (40 : Int) < (nm.length : Int) := by omega
    rw [h4] at HK
    clear h1 h4
    by_cases h2 : due < 0 ∨ per < 1
    · rw [if_pos h2]
      by_cases h6 : due < 0
      · clear h2
        go_enter Try.func42, Try.ntmps42
        go_wp2_with fail
        refine (HK.out _).mono ?_
        rintro e w' ⟨rfl, rfl⟩
        go_wp2_with fail
        go_ret
        exact ⟨rfl, HK0.out⟩
      · have h7 : per < 1 := by rcases h2 with h | h; exact absurd h h6; exact h
        clear h2
        go_enter Try.func42, Try.ntmps42
        go_wp2_with fail
        refine (HK.out _).mono ?_
        rintro e w' ⟨rfl, rfl⟩
        go_wp2_with fail
        go_ret
        exact ⟨rfl, HK0.out⟩
    · rw [if_neg h2]
      have h6 : ¬ due < 0 := fun e => h2 (.inl e)
      have h7 : ¬ per < 1 := fun e => h2 (.inr e)
      clear h2
      go_enter Try.func42, Try.ntmps42
      go_wp2_with fail
      refine (HK.out _).mono ?_
      rintro e w' ⟨rfl, rfl⟩
      go_wp2_with fail
      go_ret
      exact ⟨rfl, HK0.out⟩
set_option maxHeartbeats 1000000 in
theorem less44 (a b : Rm) (w : World) : Calls Try.prog 44 #[Rv a, Rv b] w fun e w' => e = .returned (.bool (decide (LR a b))) ∧ Kept [] w w' := by
  obtain ⟨W0, e0, k0, hz0, hb0, hb1⟩ := box2 w (.cells #[Sv a.ac, Sv a.nm, Iv a.due, Iv a.per, Iv a.kind] 52) (.cells #[Sv b.ac, Sv b.nm, Iv b.due, Iv b.per, Iv b.kind] 52)
  obtain ⟨c0, c1, c2, c3, c4⟩ := cells5 hb0
  obtain ⟨d0, d1, d2, d3, d4⟩ := cells5 hb1
  have HK0 := Hid.mk k0
  clear hb0 hb1 k0 hz0
  obtain ⟨ac, nm, due, per, kind⟩ := a
  obtain ⟨ac', nm', due', per', kind'⟩ := b
  dsimp only at *
  by_cases h1 : due = due'
  · subst h1
    by_cases h2 : ac = ac'
    · subst h2
      have hR : decide (LR ⟨ac, nm, due, per, kind⟩ ⟨ac, nm', due, per', kind'⟩) = Op.bytesLess nm nm' := by
        rw [bytesLess_dec, Bool.eq_iff_iff]
        simp [LR, klt_irrefl]
      rw [hR]
      go_enter Try.func44, Try.ntmps44
      go_wp2_with fail
      go_ret
      exact ⟨rfl, HK0.out⟩
    · have hR : decide (LR ⟨ac, nm, due, per, kind⟩ ⟨ac', nm', due, per', kind'⟩) = Op.bytesLess ac ac' := by
        rw [bytesLess_dec, Bool.eq_iff_iff]
        simp [LR, h2]
      have hq : (ac == ac') = false := by simpa using h2
      rw [hR]
      go_enter Try.func44, Try.ntmps44
      go_wp2_with fail
      go_ret
      exact ⟨rfl, HK0.out⟩
  · have hR : decide (LR ⟨ac, nm, due, per, kind⟩ ⟨ac', nm', due', per', kind'⟩) = decide (due < due') := by
      rw [Bool.eq_iff_iff]
      simp [LR, h1]
    have hq : (due == due') = false := by simpa using h1
    rw [hR]
    go_enter Try.func44, Try.ntmps44
    go_wp2_with fail
    go_ret
    exact ⟨rfl, HK0.out⟩
set_option maxHeartbeats 1000000 in
theorem has43 (hF : IsF w f v Q) (hl : Q.length ≤ 1000000) (ac nm : List UInt8) : Calls Try.prog 43 #[.pointer (some ⟨f, 0, none⟩), Sv ac, Sv nm] w fun e w' => e = .returned (.bool (hasR Q ac nm)) ∧ w = w' := by
  obtain ⟨a, c, rfl, hc1, hc2⟩ := rowR_form hF.row
  have x0 := hF.cell
  have HR := Hid.mk hF.row
  obtain ⟨R, hR⟩ : ∃ R, Hid (hasR Q ac nm = R) := ⟨_, rfl⟩
  rw [hR.out]
  have hle := idxR_le Q ac nm
  obtain ⟨P, hP⟩ : ∃ P, Hid (idxR Q ac nm = P) := ⟨_, rfl⟩
  rw [hP.out] at hle
  have HRI : Hid (R = decide (P < Q.length)) := Hid.mk (by rw [← hR.out, hasR_idx, hP.out])
  clear hF
  generalize hn : Q.length = n at *
  have HN := Hid.mk hn
  clear hn
  go_enter Try.func43, Try.ntmps43
  go_wp2_with fail
  go_loopw [13] (fun i wr => ∃ j : Nat, Hid (w = wr) ∧ i = .int .i64 (j : Int) ∧ j ≤ P) (fun i _ => n - (intOf i).toNat)
  case atStart => exact ⟨0, Hid.mk rfl, rfl, by omega⟩
  case round =>
    obtain ⟨j, hw, rfl, hj⟩ := hrel
    obtain rfl := hw.out
    clear hw
    by_cases hlt : j < n
    · obtain ⟨y, hy⟩ : ∃ y, Q[j]? = some y := ⟨_, List.getElem?_eq_getElem (by have := HN.out; omega)⟩
      obtain ⟨b, o, rfl, d0, d1, -⟩ := rowR_at HR.out hy
      have hjI : (j : Int) < (n : Int) := by omega
      by_cases hk : j < P
      · have hs : sameR y ac nm = false := idxR_lt hy (by rw [hP.out]; exact hk)
        clear hy
        by_cases h1 : y.ac = ac
        · have h2 : ¬ y.nm = nm := fun e => by rw [sameR_iff.2 ⟨h1, e⟩] at hs; cases hs
          have g1 : (y.ac == ac) = true := by simpa using h1
          have g2 : (y.nm == nm) = false := by simpa using h2
          clear h1 h2 hs
          go_wp2_with fail
          go_roundw
          case rel => exact ⟨j + 1, by trivial, by go_num, by omega⟩
          case measure => simp [intOf]; omega
        · have g1 : (y.ac == ac) = false := by simpa using h1
          clear h1 hs
          go_wp2_with fail
          go_roundw
          case rel => exact ⟨j + 1, by trivial, by go_num, by omega⟩
          case measure => simp [intOf]; omega
      · obtain rfl : j = P := by omega
        have hs : sameR y ac nm = true := idxR_at (by rw [hP.out]; exact hy)
        have e : R = true := by rw [HRI.out]; simpa using hlt
        subst e
        obtain ⟨h1, h2⟩ := sameR_iff.1 hs
        have g1 : (y.ac == ac) = true := by simpa using h1
        have g2 : (y.nm == nm) = true := by simpa using h2
        clear hy hs h1 h2
        go_wp2_with fail
        go_ret
        exact ⟨rfl, rfl⟩
    · have e : R = false := by rw [HRI.out]; simp; omega
      subst e
      go_wp2_with fail
      go_ret
      exact ⟨rfl, rfl⟩
end
end Go.Proofs.Ytelmppfacgdfbaa
