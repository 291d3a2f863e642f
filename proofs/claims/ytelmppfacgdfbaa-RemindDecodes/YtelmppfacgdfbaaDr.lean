/-
  A queue and a Reader, side by side: read, Decode.
-/
import Derived.Test.YtelmppfacgdfbaaOn
import Derived.Test.YtelmppfacgdfbaaDp
import Derived.Test.YtelmppfacgdfbaaRText
import Derived.Test.YtelmppfacgdfbaaRefR2
namespace Go.Proofs.Ytelmppfacgdfbaa
set_option maxRecDepth 100000
open Go.RowKit Go.Shelf
set_option linter.unusedVariables false
/-- A queue at p and a Reader at q. -/
structure St (w0 w : World) (p q : Nat) (Q : List Rm) (l : List UInt8) (bad : Bool) : Prop where
  isQ : IsQ w p Q
  good : GoodQ Q
  rd : ∃ v, IsR 97 w q v l bad ∧ v.ownBlock ≠ some p
  new : w0.heap.size ≤ q
  newp : w0.heap.size ≤ p
  k : Kept [] w0 w
section
variable {w0 w w' : World} {p q : Nat} {Q : List Rm} {l : List UInt8} {bad : Bool}
theorem St.ne (h : St w0 w p q Q l bad) : p ≠ q := fun e => by
  obtain ⟨v, h1, -⟩ := h.rd
  exact box_ne h.isQ.box h1.box (by decide) e
theorem St.kept0 (h : St w0 w p q Q l bad) (k : Kept [] w w') : St w0 w' p q Q l bad := by
  obtain ⟨v, h1, h2⟩ := h.rd
  exact ⟨h.isQ.kept0 k, h.good, ⟨v, h1.kept k (by simp) (by simp), h2⟩, h.new, h.newp, h.k.trans k (by simp)⟩
theorem St.read (h : St w0 w p q Q l bad) {l' : List UInt8} {bad' : Bool} {v v' : Value} (h1 : IsR 97 w q v l bad) (h2 : v.ownBlock ≠ some p) (i1 : IsR 97 w' q v' l' bad') (i2 : Kept [q] w w') (i3 : ∀ g, v'.ownBlock = some g → v.ownBlock = some g) : St w0 w' p q Q l' bad' :=
  ⟨h.isQ.kept i2 (by simp; exact h.ne), h.good, ⟨v', i1, fun e => h2 (i3 p e)⟩, h.new, h.newp, h.k.trans i2 (fun x hx => by simp at hx; subst hx; exact .inr h.new)⟩
theorem st_num (h : St w0 w p q Q l bad) : Calls Try.prog 35 #[.pointer (some ⟨q, 0, none⟩)] w fun e w' => e = .returned (.int .u64 ((rnum l bad).1 : Int)) ∧ St w0 w' p q Q (rnum l bad).2.1 (rnum l bad).2.2 := by
  obtain ⟨v, h1, h2⟩ := h.rd
  refine (rnum_any q v l bad w h1).mono ?_
  rintro e w' ⟨rfl, v', i1, i2, i3⟩
  exact ⟨rfl, h.read h1 h2 i1 i2 i3⟩
theorem st_text (h : St w0 w p q Q l bad) : Calls Try.prog 59 #[.pointer (some ⟨q, 0, none⟩)] w fun e w' => e = .returned (Sv (rtext l bad).1) ∧ St w0 w' p q Q (rtext l bad).2.1 (rtext l bad).2.2 := by
  obtain ⟨v, h1, h2⟩ := h.rd
  refine (rtext_any q v l bad w h1).mono ?_
  rintro e w' ⟨rfl, v', i1, i2, i3⟩
  exact ⟨rfl, h.read h1 h2 i1 i2 i3⟩
theorem st_int (h : St w0 w p q Q l bad) : Calls Try.prog 60 #[.pointer (some ⟨q, 0, none⟩)] w fun e w' => e = .returned (Iv (unfold (rnum l bad).1)) ∧ St w0 w' p q Q (rnum l bad).2.1 (rnum l bad).2.2 := by
  obtain ⟨v, h1, h2⟩ := h.rd
  refine (rint_any q v l bad w h1).mono ?_
  rintro e w' ⟨rfl, v', i1, i2, i3⟩
  exact ⟨rfl, h.read h1 h2 i1 i2 i3⟩
theorem st_end (h : St w0 w p q Q l bad) : Calls Try.prog 37 #[.pointer (some ⟨q, 0, none⟩)] w fun e w' => e = .returned (.bool (!bad && l.isEmpty)) ∧ St w0 w' p q Q l bad := by
  obtain ⟨v, h1, h2⟩ := h.rd
  refine (end_any q v l bad w h1).mono ?_
  rintro e w' ⟨rfl, rfl⟩
  exact ⟨rfl, h⟩
theorem St.stored {Q' : List Rm} (h : St w0 w p q Q l bad) (hB : IsQ w' p Q') (g : GoodQ Q') (k : Kept [p] w w') : St w0 w' p q Q' l bad := by
  obtain ⟨v, h1, h2⟩ := h.rd
  exact ⟨hB, g, ⟨v, h1.kept k (by simp; exact fun e => h.ne e.symm) (fun g hg hm => by simp at hm; subst hm; exact h2 hg), h2⟩, h.new, h.newp, h.k.trans k (fun x hx => by simp at hx; subst hx; exact .inr h.newp)⟩
/-- What read answers and leaves. -/
def RdAt (w0 : World) (p q : Nat) (Q : List Rm) (r : Rm) (l : List UInt8) (bad : Bool) (e : Ending) (w' : World) : Prop :=
  (e = .returned (.bool true) ∧ ¬ badC Q r ∧ Q.length < 64 ∧ St w0 w' p q (Q ++ [r]) l bad) ∨ (e = .returned (.bool false) ∧ (badC Q r ∨ Q.length = 64) ∧ Kept [] w0 w')
set_option maxHeartbeats 4000000 in
theorem read36 (h : St w0 w p q Q l bad) (hl : l.length ≤ 140737488355328) : Calls Try.prog 36 #[.pointer (some ⟨p, 0, none⟩), .pointer (some ⟨q, 0, none⟩)] w fun e w' => RdAt w0 p q Q (rd5 l bad).1 (rd5 l bad).2.1 (rd5 l bad).2.2 e w' := by
  have hlen := rd5_len l bad
  have h64 := rd5_64 l bad
  obtain ⟨⟨ac, l1, b1⟩, h1⟩ : ∃ x, rtext l bad = x := ⟨_, rfl⟩
  obtain ⟨⟨nm, l2, b2⟩, h2⟩ : ∃ x, rtext l1 b1 = x := ⟨_, rfl⟩
  obtain ⟨⟨c3, l3, b3⟩, h3⟩ : ∃ x, rnum l2 b2 = x := ⟨_, rfl⟩
  obtain ⟨⟨c4, l4, b4⟩, h4⟩ : ∃ x, rnum l3 b3 = x := ⟨_, rfl⟩
  obtain ⟨⟨c5, l5, b5⟩, h5⟩ : ∃ x, rnum l4 b4 = x := ⟨_, rfl⟩
  have hrd : rd5 l bad = (⟨ac, nm, unfold c3, unfold c4, unfold c5⟩, l5, b5) := by
    unfold rd5
    simp only [h1, h2, h3, h4, h5]
  have HT1 : Hid (Calls Try.prog 59 #[.pointer (some ⟨q, 0, none⟩)] w fun e w' => e = .returned (Sv ac) ∧ St w0 w' p q Q l1 b1) := by
    have := st_text h
    rw [h1] at this
    exact this
  have HT2 : Hid (∀ W, St w0 W p q Q l1 b1 → Calls Try.prog 59 #[.pointer (some ⟨q, 0, none⟩)] W fun e w' => e = .returned (Sv nm) ∧ St w0 w' p q Q l2 b2) := fun W h => by
    have := st_text h
    rw [h2] at this
    exact this
  have HT3 : Hid (∀ W, St w0 W p q Q l2 b2 → Calls Try.prog 60 #[.pointer (some ⟨q, 0, none⟩)] W fun e w' => e = .returned (Iv (unfold c3)) ∧ St w0 w' p q Q l3 b3) := fun W h => by
    have := st_int h
    rw [h3] at this
    exact this
  have HT4 : Hid (∀ W, St w0 W p q Q l3 b3 → Calls Try.prog 60 #[.pointer (some ⟨q, 0, none⟩)] W fun e w' => e = .returned (Iv (unfold c4)) ∧ St w0 w' p q Q l4 b4) := fun W h => by
    have := st_int h
    rw [h4] at this
    exact this
  have HT5 : Hid (∀ W, St w0 W p q Q l4 b4 → Calls Try.prog 60 #[.pointer (some ⟨q, 0, none⟩)] W fun e w' => e = .returned (Iv (unfold c5)) ∧ St w0 w' p q Q l5 b5) := fun W h => by
    have := st_int h
    rw [h5] at this
    exact this
  rw [hrd] at hlen h64 ⊢
  dsimp only at hlen h64 ⊢
  clear h1 h2 h3 h4 h5 hrd h
  generalize unfold c3 = due at *
  generalize unfold c4 = per at *
  generalize unfold c5 = kind at *
  obtain ⟨hal, hnl, -⟩ := hlen
  have HNO : Hid (∀ W, (badC Q ⟨ac, nm, due, per, kind⟩ ∨ Q.length = 64) → Kept [] w0 W → RdAt w0 p q Q ⟨ac, nm, due, per, kind⟩ l5 b5 (.returned (.bool false)) W) := fun W a b => .inr ⟨rfl, a, b⟩
  have HYES : Hid (∀ W, ¬ badC Q ⟨ac, nm, due, per, kind⟩ → Q.length < 64 → St w0 W p q (Q ++ [⟨ac, nm, due, per, kind⟩]) l5 b5 → RdAt w0 p q Q ⟨ac, nm, due, per, kind⟩ l5 b5 (.returned (.bool true)) W) := fun W a b c => .inl ⟨rfl, a, b, c⟩
  generalize RdAt w0 p q Q ⟨ac, nm, due, per, kind⟩ l5 b5 = R at HNO HYES ⊢
  have H64 := Hid.mk h64
  clear h64
  go_enter Try.func36, Try.ntmps36
  go_wp2_with fail
  refine HT1.out.mono ?_
  rintro e w1 ⟨rfl, t1⟩
  have K1 := Hid.mk (HT2.out _ t1)
  clear t1 HT1 HT2
  go_wp2_with fail
  refine K1.out.mono ?_
  rintro e w2 ⟨rfl, t2⟩
  have K2 := Hid.mk (HT3.out _ t2)
  clear t2 K1 HT3
  go_wp2_with fail
  refine K2.out.mono ?_
  rintro e w3 ⟨rfl, t3⟩
  have K3 := Hid.mk (HT4.out _ t3)
  clear t3 K2 HT4
  go_wp2_with fail
  refine K3.out.mono ?_
  rintro e w4 ⟨rfl, t4⟩
  have K4 := Hid.mk (HT5.out _ t4)
  clear t4 K3 HT5
  go_wp2_with fail
  refine K4.out.mono ?_
  rintro e w5 ⟨rfl, t5⟩
  obtain ⟨W6, e6, k6, hz6, hb6⟩ := box1 w5 (.cells #[Sv ac, Sv nm, Iv due, Iv per, Iv kind] 27)
  have T6 := Hid.mk (t5.kept0 k6)
  have hpl := t5.isQ.lt
  obtain ⟨B, hB⟩ : ∃ B, w5.heap.size = B := ⟨_, rfl⟩
  rw [hB] at hb6 hpl
  have HBX : Hid (∀ W, Kept [] W6 W → W.cell? ⟨B, 0, none⟩ = some (Sv ac) ∧ W.cell? ⟨B, 1, none⟩ = some (Sv nm) ∧ W.cell? ⟨B, 2, none⟩ = some (Iv due) ∧ W.cell? ⟨B, 3, none⟩ = some (Iv per) ∧ W.cell? ⟨B, 4, none⟩ = some (Iv kind)) := fun W k => cells5 (k.keeps hb6 (by simp))
  have EB := Hid.mk hB
  have E6 := Hid.mk e6
  have hgd := Hid.mk t5.good
  have hq64 := t5.isQ.len
  have g0 : (0 : Int) ≤ (Q.length : Int) := by omega
  have g1 : (Q.length : Int) ≤ 64 := by omega
  clear t5 K4 e6 k6 hz6 hb6 hB
  -- what comes behind the order
  have HEND : Hid (∀ W, Kept [] W6 W → (∀ y ∈ Q.getLast?, LR y ⟨ac, nm, due, per, kind⟩) → hasR Q ac nm = false → Calls Try.prog 17 #[.pointer (some ⟨p, 0, none⟩), Rv ⟨ac, nm, due, per, kind⟩] W fun e w' => (e = .returned (Iv 0) ∧ R (.returned (.bool true)) w') ∨ (∃ sa, e = .returned (Iv sa) ∧ (sa == 0) = false ∧ R (.returned (.bool false)) w')) := fun W k hla hno => by
    have hS := T6.out.kept0 k
    refine (set17 hS.isQ hS.good ⟨ac, nm, due, per, kind⟩ (by dsimp only; omega) (by dsimp only; omega)).mono ?_
    rintro e w' ⟨rfl, hB', k'⟩
    have hS' := hS.stored hB' (hS.good.setQ H64.out) k'
    by_cases he : errR ⟨ac, nm, due, per, kind⟩ = 0
    · by_cases hl64 : Q.length = 64
      · right
        refine ⟨_, rfl, ?_, HNO.out _ (.inr hl64) hS'.k⟩
        rw [setA, if_neg (by simp [he]), if_pos ⟨hno, hl64⟩]
        rfl
      · have hbc : ¬ badC Q ⟨ac, nm, due, per, kind⟩ := by
          obtain ⟨e1, e2, e3, e4⟩ := errR_ok he
          rintro (h | h | h | h | h | ⟨y, hy, h⟩)
          · rw [e1] at h; cases h
          · omega
          · omega
          · omega
          · rw [hno] at h; cases h
          · exact h (hla y hy)
        obtain ⟨a1, a2⟩ := setQ_last hS.good hbc (by omega)
        rw [a1]
        rw [a2] at hS'
        exact .inl ⟨rfl, HYES.out _ hbc (by omega) hS'⟩
    · right
      refine ⟨_, rfl, ?_, HNO.out _ (.inl (err_bad he)) hS'.k⟩
      rw [setA, if_pos he]
      simpa using he
  have HFI : Hid (∀ W, Kept [] W6 W → Calls Try.prog 49 #[.pointer (some ⟨p, 0, none⟩), Sv ac, Sv nm] W fun e w' => e = .returned (Iv (fI Q ac nm)) ∧ Kept [] W w') := fun W k => find49 (T6.out.kept0 k).isQ ac nm
  have HKK : Hid (∀ W, Kept [] W6 W → Kept [] w0 W) := fun W k => T6.out.k.trans k (by simp)
  have HIQ : Hid (∀ W, Kept [] W6 W → IsQ W p Q) := fun W k => (T6.out.kept0 k).isQ
  clear T6
  by_cases hQ : Q = []
  · subst hQ
    have c0 := (HIQ.out _ (Kept.refl [] W6).drew).count
    rw [List.length_nil] at c0
    have c1 := (HIQ.out _ (Kept.refl [] W6)).count
    rw [List.length_nil] at c1
    have hfi : fI [] ac nm = -1 := rfl
    rw [hfi] at HFI
    go_wp2_with fail
    rw [E6.out, EB.out]
    obtain ⟨x0, x1, x2, x3, x4⟩ := HBX.out _ (Kept.refl [] W6).drew
    go_quiet (fail)
    clear c0 c1 x0 x1 x2 x3 x4
    obtain ⟨x0, x1, x2, x3, x4⟩ := HBX.out _ ((Kept.refl [] W6).drewN nq)
    have HF1 := Hid.mk (HFI.out _ ((Kept.refl [] W6).drewN nq))
    have HK1 := Hid.mk ((Kept.refl [] W6).drewN nq)
    generalize W6.drewN nq = W7 at HF1 HK1 x0 x1 x2 x3 x4 ⊢
    go_wp2_with fail
    refine HF1.out.mono ?_
    rintro e w8 ⟨rfl, k8⟩
    have HK8 := Hid.mk (HK1.out.trans k8 (by simp))
    clear x0 x1 x2 x3 x4 k8 HF1
    obtain ⟨x0, x1, x2, x3, x4⟩ := HBX.out _ HK8.out
    have HE := Hid.mk (HEND.out _ HK8.out (by simp) (by simp [hasR]))
    go_wp2_with fail
    refine HE.out.mono ?_
    rintro e w9 (⟨rfl, hR⟩ | ⟨sa, rfl, hsa, hR⟩)
    · go_wp2_with fail
      exact hR
    · go_wp2_with fail
      exact hR
  · obtain ⟨x, hx⟩ : ∃ x, Q.getLast? = some x := by
      cases h : Q.getLast? with
      | none => exact absurd (List.getLast?_eq_none_iff.1 h) hQ
      | some x => exact ⟨x, rfl⟩
    have hxm := last_is hx
    have hne : 0 < Q.length := by
      rcases Nat.eq_zero_or_pos Q.length with h | h
      · exact absurd (List.eq_nil_of_length_eq_zero h) hQ
      · exact h
    have HLX : Hid (∀ y ∈ Q.getLast?, y = x) := fun y hy => by rw [hx] at hy; injection hy with hy; exact hy.symm
    have HXL := Hid.mk hx
    obtain ⟨n, hn⟩ : ∃ n, Q.length = n := ⟨_, rfl⟩
    obtain ⟨m, hm⟩ : ∃ m, Q.length - 1 = m := ⟨_, rfl⟩
    rw [hm] at hxm
    have hmI : (n : Int) - 1 = (m : Int) := by omega
    have hm0 : (0 : Int) ≤ (m : Int) := by omega
    have hm1 : (m : Int) < 64 := by omega
    have hn0 : (0 : Int) < (n : Int) := by omega
    have hnN : 0 < n := by omega
    have hwn : IntKind.i64.wrap (m : Int) = (m : Int) := by rw [IntKind.wrap_i64]; omega
    have hwm : IntKind.i64.wrap ((n : Int) - 1) = (m : Int) := by rw [IntKind.wrap_i64]; omega
    have hnd : decide ((0 : Int) < (n : Int)) = true := decide_eq_true hn0
    have HS : Hid (∀ W, Kept [] W6 W → (W.cell? ⟨p, 320, none⟩ = some (Iv (n : Int)) ∧ W.cell? ⟨p, m * 5, none⟩ = some (Sv x.ac) ∧ W.cell? ⟨p, m * 5 + 1, none⟩ = some (Sv x.nm) ∧ W.cell? ⟨p, m * 5 + 2, none⟩ = some (Iv x.due) ∧ W.cell? ⟨p, m * 5 + 3, none⟩ = some (Iv x.per) ∧ W.cell? ⟨p, m * 5 + 4, none⟩ = some (Iv x.kind)) ∧ W.cell? ⟨B, 0, none⟩ = some (Sv ac) ∧ W.cell? ⟨B, 1, none⟩ = some (Sv nm) ∧ W.cell? ⟨B, 2, none⟩ = some (Iv due) ∧ W.cell? ⟨B, 3, none⟩ = some (Iv per) ∧ W.cell? ⟨B, 4, none⟩ = some (Iv kind)) := fun W k => ⟨⟨by have := (HIQ.out _ k).count; rw [hn] at this; exact this, (HIQ.out _ k).at hxm⟩, HBX.out _ k⟩
    have HNN := Hid.mk hn
    clear hx hxm hQ hm hne g0 g1 hn
    have S0 := HS.out _ (Kept.refl [] W6).drew
    have hcc := inOrder61 x ⟨ac, nm, due, per, kind⟩ W6.drew
    have hcl := ordI_lt x ⟨ac, nm, due, per, kind⟩
    generalize ordI x ⟨ac, nm, due, per, kind⟩ = cv at hcc hcl
    have HC := Hid.mk hcc
    clear hcc
    by_cases hneg : cv < 0
    · have hk : LR x ⟨ac, nm, due, per, kind⟩ := hcl.1 hneg
      have HLA : Hid (∀ y ∈ Q.getLast?, LR y ⟨ac, nm, due, per, kind⟩) := fun y hy => by rw [HLX.out y hy]; exact hk
      have hng : ((0 : Int) ≤ cv) = False := eq_false (by omega)
      clear hcl hk
      go_wp2_with fail
      rw [E6.out, EB.out]
      go_region_held3 (fun W => (W.cell? ⟨p, 320, none⟩ = some (Iv (n : Int)) ∧ W.cell? ⟨p, m * 5, none⟩ = some (Sv x.ac) ∧ W.cell? ⟨p, m * 5 + 1, none⟩ = some (Sv x.nm) ∧ W.cell? ⟨p, m * 5 + 2, none⟩ = some (Iv x.due) ∧ W.cell? ⟨p, m * 5 + 3, none⟩ = some (Iv x.per) ∧ W.cell? ⟨p, m * 5 + 4, none⟩ = some (Iv x.kind)) ∧ W.cell? ⟨B, 0, none⟩ = some (Sv ac) ∧ W.cell? ⟨B, 1, none⟩ = some (Sv nm) ∧ W.cell? ⟨B, 2, none⟩ = some (Iv due) ∧ W.cell? ⟨B, 3, none⟩ = some (Iv per) ∧ W.cell? ⟨B, 4, none⟩ = some (Iv kind)) (first | with_reducible exact S0 | with_reducible exact S1) (first | (go_at_call 61; refine HC.out.mono ?_; rintro e w7 ⟨rfl, k7⟩; have HK7 := Hid.mk ((Kept.refl [] W6).drew.trans k7 (by simp)); clear k7; have S1 := HS.out _ HK7.out))
      clear S0 HS HC
      obtain ⟨-, x0, x1, x2, x3, x4⟩ := S1
      cases hh : hasR Q ac nm with
      | true =>
        obtain ⟨j, hj, -, -⟩ := idx_has hgd.out hh
        rw [hj] at HFI
        have HF1 := Hid.mk (HFI.out _ HK7.out)
        have HRR := Hid.mk (fun W (k : Kept [] W6 W) => HNO.out W (.inl (.inr (.inr (.inr (.inr (.inl hh)))))) (HKK.out W k))
        have hj0 : ((j : Int) < 0) = False := eq_false (by omega)
        clear hh hj
        go_wp2_with fail
        refine HF1.out.mono ?_
        rintro e w8 ⟨rfl, k8⟩
        have HF := Hid.mk (HRR.out _ (HK7.out.trans k8 (by simp)))
        clear x0 x1 x2 x3 x4 k8 HF1
        go_wp2_with fail
        exact HF.out
      | false =>
        rw [idx_not hh] at HFI
        have HF1 := Hid.mk (HFI.out _ HK7.out)
        go_wp2_with fail
        refine HF1.out.mono ?_
        rintro e w8 ⟨rfl, k8⟩
        have HK8 := Hid.mk (HK7.out.trans k8 (by simp))
        clear x0 x1 x2 x3 x4 k8 HF1
        obtain ⟨x0, x1, x2, x3, x4⟩ := HBX.out _ HK8.out
        have HE := Hid.mk (HEND.out _ HK8.out HLA.out hh)
        clear hh
        go_wp2_with fail
        refine HE.out.mono ?_
        rintro e w9 (⟨rfl, hR⟩ | ⟨sa, rfl, hsa, hR⟩)
        · go_wp2_with fail
          exact hR
        · go_wp2_with fail
          exact hR
    · have hk : ¬ LR x ⟨ac, nm, due, per, kind⟩ := fun h => hneg (hcl.2 h)
      have hps : (0 : Int) ≤ cv := by omega
      have HRR := Hid.mk (fun W (k : Kept [] W6 W) => HNO.out W (.inl (.inr (.inr (.inr (.inr (.inr ⟨x, HXL.out, hk⟩)))))) (HKK.out W k))
      clear hcl hk hneg
      go_wp2_with fail
      rw [E6.out, EB.out]
      go_region_held3 (fun W => (W.cell? ⟨p, 320, none⟩ = some (Iv (n : Int)) ∧ W.cell? ⟨p, m * 5, none⟩ = some (Sv x.ac) ∧ W.cell? ⟨p, m * 5 + 1, none⟩ = some (Sv x.nm) ∧ W.cell? ⟨p, m * 5 + 2, none⟩ = some (Iv x.due) ∧ W.cell? ⟨p, m * 5 + 3, none⟩ = some (Iv x.per) ∧ W.cell? ⟨p, m * 5 + 4, none⟩ = some (Iv x.kind)) ∧ W.cell? ⟨B, 0, none⟩ = some (Sv ac) ∧ W.cell? ⟨B, 1, none⟩ = some (Sv nm) ∧ W.cell? ⟨B, 2, none⟩ = some (Iv due) ∧ W.cell? ⟨B, 3, none⟩ = some (Iv per) ∧ W.cell? ⟨B, 4, none⟩ = some (Iv kind)) (first | with_reducible exact S0 | with_reducible exact S1) (first | (go_at_call 61; refine HC.out.mono ?_; rintro e w7 ⟨rfl, k7⟩; have HK7 := Hid.mk ((Kept.refl [] W6).drew.trans k7 (by simp)); clear k7; have S1 := HS.out _ HK7.out))
      have HF := Hid.mk (HRR.out _ HK7.out)
      clear S0 S1 HS HC
      go_wp2_with fail
      exact HF.out
end
end Go.Proofs.Ytelmppfacgdfbaa
