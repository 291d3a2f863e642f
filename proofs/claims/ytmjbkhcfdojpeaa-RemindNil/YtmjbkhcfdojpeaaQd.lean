/-
  BinarySearchFunc over a queue's reminders: where one belongs.
-/
import Derived.Test.YtmjbkhcfdojpeaaQb
import Derived.Test.YtmjbkhcfdojpeaaQc
namespace Go.Proofs.Ytmjbkhcfdojpeaa
set_option maxRecDepth 100000
open Go.RowKit Go.Shelf
set_option linter.unusedVariables false
theorem cmp_lt : ∀ (a b : List UInt8), Lib.compareBytes a b < 0 ↔ a < b
  | [], [] => by simp [Lib.compareBytes]
  | [], _ :: _ => by simp [Lib.compareBytes]
  | _ :: _, [] => by simp [Lib.compareBytes]
  | x :: a, y :: b => by
    rw [List.cons_lt_cons_iff, Lib.compareBytes]
    by_cases h1 : x < y
    · simp [h1]
    · by_cases h2 : y < x
      · have : ¬ x = y := by rintro rfl; exact h1 h2
        simp [h1, h2, this]
      · have e : x = y := UInt8.toNat_inj.1 (by rw [UInt8.lt_iff_toNat_lt] at h1 h2; omega)
        subst e
        simp [h1, cmp_lt a b]
theorem cmp_eq : ∀ (a b : List UInt8), Lib.compareBytes a b = 0 ↔ a = b
  | [], [] => by simp [Lib.compareBytes]
  | [], _ :: _ => by simp [Lib.compareBytes]
  | _ :: _, [] => by simp [Lib.compareBytes]
  | x :: a, y :: b => by
    rw [Lib.compareBytes]
    by_cases h1 : x < y
    · have : ¬ x = y := by rintro rfl; rw [UInt8.lt_iff_toNat_lt] at h1; omega
      simp [h1, this]
    · by_cases h2 : y < x
      · have : ¬ x = y := by rintro rfl; exact h1 h2
        simp [h1, h2, this]
      · have e : x = y := UInt8.toNat_inj.1 (by rw [UInt8.lt_iff_toNat_lt] at h1 h2; omega)
        subst e
        simp [h1, cmp_eq a b]
theorem ordI_lt (a b : Rm) : ordI a b < 0 ↔ LR a b := by
  unfold ordI or3 LR cmpI
  have h1 := cmp_lt a.ac b.ac
  have h2 := cmp_eq a.ac b.ac
  have h3 := cmp_lt a.nm b.nm
  generalize Lib.compareBytes a.ac b.ac = x at *
  generalize Lib.compareBytes a.nm b.nm = y at *
  by_cases hd : a.due < b.due
  · simp [hd]
  · by_cases hd2 : b.due < a.due
    · have : ¬ a.due = b.due := by omega
      simp [hd, hd2, this]
    · have hde : a.due = b.due := by omega
      by_cases hx : x = 0
      · have hac := h2.1 hx
        have hn : ¬ a.ac < b.ac := by rw [hac]; exact klt_irrefl _
        rw [if_neg (by simp [hd, hd2]), if_neg (by simp [hx]), h3]
        simp [hde, hac, klt_irrefl]
      · have hac : ¬ a.ac = b.ac := fun e => hx (h2.2 e)
        rw [if_neg (by simp [hd, hd2]), if_pos hx, h1]
        simp [hde, hac]
theorem half_range (i j : Nat) (h : i < j) : (i + j) / 2 < j ∧ i ≤ (i + j) / 2 := by omega
theorem ris_lt {Q : List Rm} (h : Ris Q) {i j : Nat} {x y : Rm} (hi : Q[i]? = some x) (hj : Q[j]? = some y) (hij : i < j) : LR x y := by
  obtain ⟨h1, e1⟩ := List.getElem?_eq_some_iff.1 hi
  obtain ⟨h2, e2⟩ := List.getElem?_eq_some_iff.1 hj
  rw [← e1, ← e2]
  exact List.pairwise_iff_getElem.1 h i j h1 h2 hij
/-- The place that a search finds. -/
theorem plR_is {Q : List Rm} {r : Rm} {j : Nat} (h1 : j ≤ Q.length) (h2 : ∀ p y, Q[p]? = some y → p < j → LR y r) (h3 : ∀ p y, Q[p]? = some y → j ≤ p → ¬ LR y r) : plR Q r = j := by
  have hle := plR_le Q r
  rcases Nat.lt_trichotomy (plR Q r) j with h | h | h
  · obtain ⟨y, hy⟩ : ∃ y, Q[plR Q r]? = some y := ⟨_, List.getElem?_eq_getElem (by omega)⟩
    exact absurd (h2 _ y hy h) (plR_at hy)
  · exact h
  · obtain ⟨y, hy⟩ : ∃ y, Q[j]? = some y := ⟨_, List.getElem?_eq_getElem (by omega)⟩
    exact absurd (plR_lt hy h) (h3 _ y hy (Nat.le_refl _))
section
variable {w : World} {p : Nat} {Q : List Rm}
set_option maxHeartbeats 2000000 in
theorem search66 (hB : IsQ w p Q) (hup : Ris Q) (r : Rm) : Calls Try.prog 66 #[.slice (some ⟨p, 0, none⟩) Q.length 64, Rv r, .func (.func 61) #[] #[]] w fun e w' => ∃ f, e = .returned (.tuple #[Iv (plR Q r : Int), .bool f]) ∧ Kept [] w w' := by
  have eg : ∀ args w, (callFunc 61 args).run Try.prog w = .ok (.enter 61 args) w := enters_of Try.func61 (by kernel_rfl) rfl
  have HU := Hid.mk hup
  have hn64 := hB.len
  obtain ⟨P, hP⟩ : ∃ P, Hid (plR Q r = P) := ⟨_, rfl⟩
  rw [hP.out]
  have HI : Hid (∀ x W, Calls Try.prog 61 #[Rv x, Rv r] W fun e w' => e = .returned (Iv (ordI x r)) ∧ Kept [] W w') := fun x W => inOrder61 x r W
  have HL : Hid (∀ x, ordI x r < 0 ↔ LR x r) := fun x => ordI_lt x r
  have hpl := hB.lt
  have HB := Hid.mk hB
  clear hup hB
  generalize hnn : Q.length = n at *
  have HN := Hid.mk hnn
  clear hnn
  have hr : r = ⟨r.ac, r.nm, r.due, r.per, r.kind⟩ := rfl
  generalize r.ac = ac, r.nm = nm, r.due = due, r.per = per, r.kind = kind at hr
  subst hr
  go_enter Try.func66, Try.ntmps66
  go_wp2_with fail
  obtain ⟨W0, e0, k0, hz0, hb0⟩ := box1 w (.cells #[Sv ac, Sv nm, Iv due, Iv per, Iv kind] 27)
  rw [e0]
  clear e0
  have HBX : Hid (∀ W, Kept [] W0 W → W.cell? ⟨w.heap.size, 0, none⟩ = some (Sv ac) ∧ W.cell? ⟨w.heap.size, 1, none⟩ = some (Sv nm) ∧ W.cell? ⟨w.heap.size, 2, none⟩ = some (Iv due) ∧ W.cell? ⟨w.heap.size, 3, none⟩ = some (Iv per) ∧ W.cell? ⟨w.heap.size, 4, none⟩ = some (Iv kind)) := fun W k => cells5 (k.keeps hb0 (by simp))
  have HBQ : Hid (∀ W, Kept [] W0 W → IsQ W p Q) := fun W k => HB.out.kept0 (k0.trans k (by simp))
  have HK0 := Hid.mk k0
  clear hb0 k0 hz0
  go_loopw [9, 10] (fun vi vj wr => ∃ i j : Nat, Hid (Kept [] W0 wr) ∧ vi = .int .i64 (i : Int) ∧ vj = .int .i64 (j : Int) ∧ i ≤ j ∧ j ≤ n ∧ Hid ((∀ (p : Nat) (x : Rm), Q[p]? = some x → p < i → LR x ⟨ac, nm, due, per, kind⟩) ∧ ∀ (p : Nat) (x : Rm), Q[p]? = some x → j ≤ p → ¬ LR x ⟨ac, nm, due, per, kind⟩)) (fun vi vj _ => (intOf vj - intOf vi).toNat)
  case atStart => exact ⟨0, n, Hid.mk (Kept.refl [] W0), rfl, rfl, by omega, by omega, Hid.mk ⟨by intros; omega, fun p x hp hj => by have := get_lt hp; have := HN.out; omega⟩⟩
  case round =>
    obtain ⟨i, j, kk, rfl, rfl, hij, hjn, H1⟩ := hrel
    by_cases hlt : i < j
    · have hh := half_range i j hlt
      obtain ⟨m, hm⟩ : ∃ m, (i + j) / 2 = m := ⟨_, rfl⟩
      rw [hm] at hh
      have hmI : ((i : Int) + (j : Int)) / 2 = (m : Int) := by omega
      clear hm
      have hm0 : (0 : Int) ≤ (m : Int) := by omega
      have hm1 : (m : Int) < (n : Int) := by omega
      obtain ⟨x, hx⟩ : ∃ x, Q[m]? = some x := ⟨_, List.getElem?_eq_getElem (by have := HN.out; omega)⟩
      have HS : Hid (∀ W, Kept [] wr W → (W.cell? ⟨p, m * 5, none⟩ = some (Sv x.ac) ∧ W.cell? ⟨p, m * 5 + 1, none⟩ = some (Sv x.nm) ∧ W.cell? ⟨p, m * 5 + 2, none⟩ = some (Iv x.due) ∧ W.cell? ⟨p, m * 5 + 3, none⟩ = some (Iv x.per) ∧ W.cell? ⟨p, m * 5 + 4, none⟩ = some (Iv x.kind)) ∧ W.cell? ⟨w.heap.size, 0, none⟩ = some (Sv ac) ∧ W.cell? ⟨w.heap.size, 1, none⟩ = some (Sv nm) ∧ W.cell? ⟨w.heap.size, 2, none⟩ = some (Iv due) ∧ W.cell? ⟨w.heap.size, 3, none⟩ = some (Iv per) ∧ W.cell? ⟨w.heap.size, 4, none⟩ = some (Iv kind)) := fun W k => ⟨(HBQ.out _ (kk.out.trans k (by simp))).at hx, HBX.out _ (kk.out.trans k (by simp))⟩
      have S0 := HS.out _ (Kept.refl [] wr).drew
      have hcc := HI.out x wr.drew
      have hcl := HL.out x
      generalize ordI x ⟨ac, nm, due, per, kind⟩ = cv at hcc hcl
      have HC := Hid.mk hcc
      have Hx := Hid.mk hx
      clear hx hcc
      by_cases hneg : cv < 0
      · have hk : LR x ⟨ac, nm, due, per, kind⟩ := hcl.1 hneg
        have HLk := Hid.mk hk
        clear hcl hk
        go_wp2_with fail
        go_region_held3 (fun W => (W.cell? ⟨p, m * 5, none⟩ = some (Sv x.ac) ∧ W.cell? ⟨p, m * 5 + 1, none⟩ = some (Sv x.nm) ∧ W.cell? ⟨p, m * 5 + 2, none⟩ = some (Iv x.due) ∧ W.cell? ⟨p, m * 5 + 3, none⟩ = some (Iv x.per) ∧ W.cell? ⟨p, m * 5 + 4, none⟩ = some (Iv x.kind)) ∧ W.cell? ⟨w.heap.size, 0, none⟩ = some (Sv ac) ∧ W.cell? ⟨w.heap.size, 1, none⟩ = some (Sv nm) ∧ W.cell? ⟨w.heap.size, 2, none⟩ = some (Iv due) ∧ W.cell? ⟨w.heap.size, 3, none⟩ = some (Iv per) ∧ W.cell? ⟨w.heap.size, 4, none⟩ = some (Iv kind)) (first | with_reducible exact S0 | with_reducible exact S1) (first | (go_at_fn 61; refine HC.out.mono ?_; rintro e w' ⟨rfl, k1⟩; have S1 := HS.out _ ((Kept.refl [] wr).drew.trans k1 (by simp)); have HK := Hid.mk (kk.out.trans ((Kept.refl [] wr).drew.trans k1 (by simp)) (by simp)); clear k1))
        go_wp2_with fail
        go_roundw
        case rel =>
          exact ⟨m + 1, j, HK, by go_num, rfl, by omega, hjn, Hid.mk ⟨fun p y hp hlt => by
            rcases Nat.lt_or_ge p m with h | h
            · exact (ris_lt HU.out hp Hx.out h).trans HLk.out
            · have : p = m := by omega
              subst this
              rw [Hx.out] at hp
              injection hp with hp
              rw [← hp]
              exact HLk.out, H1.out.2⟩⟩
        case measure => simp [intOf]; omega
      · have hk : ¬ LR x ⟨ac, nm, due, per, kind⟩ := fun h => hneg (hcl.2 h)
        have HLk := Hid.mk hk
        clear hcl hk
        go_wp2_with fail
        go_region_held3 (fun W => (W.cell? ⟨p, m * 5, none⟩ = some (Sv x.ac) ∧ W.cell? ⟨p, m * 5 + 1, none⟩ = some (Sv x.nm) ∧ W.cell? ⟨p, m * 5 + 2, none⟩ = some (Iv x.due) ∧ W.cell? ⟨p, m * 5 + 3, none⟩ = some (Iv x.per) ∧ W.cell? ⟨p, m * 5 + 4, none⟩ = some (Iv x.kind)) ∧ W.cell? ⟨w.heap.size, 0, none⟩ = some (Sv ac) ∧ W.cell? ⟨w.heap.size, 1, none⟩ = some (Sv nm) ∧ W.cell? ⟨w.heap.size, 2, none⟩ = some (Iv due) ∧ W.cell? ⟨w.heap.size, 3, none⟩ = some (Iv per) ∧ W.cell? ⟨w.heap.size, 4, none⟩ = some (Iv kind)) (first | with_reducible exact S0 | with_reducible exact S1) (first | (go_at_fn 61; refine HC.out.mono ?_; rintro e w' ⟨rfl, k1⟩; have S1 := HS.out _ ((Kept.refl [] wr).drew.trans k1 (by simp)); have HK := Hid.mk (kk.out.trans ((Kept.refl [] wr).drew.trans k1 (by simp)) (by simp)); clear k1))
        go_wp2_with fail
        go_roundw
        case rel =>
          exact ⟨i, m, HK, rfl, rfl, by omega, by omega, Hid.mk ⟨H1.out.1, fun p y hp hle => by
            rcases Nat.lt_or_ge m p with h | h
            · exact fun hy => HLk.out ((ris_lt HU.out Hx.out hp h).trans hy)
            · have : p = m := by omega
              subst this
              rw [Hx.out] at hp
              injection hp with hp
              rw [← hp]
              exact HLk.out⟩⟩
        case measure => simp [intOf]; omega
    · obtain rfl : j = i := by omega
      have HP : Hid (P = j) := Hid.mk (by rw [← hP.out]; exact plR_is (by have := HN.out; omega) H1.out.1 H1.out.2)
      have h2 := HP.out
      subst h2
      by_cases hjn2 : P < n
      · obtain ⟨m, hm⟩ : ∃ m, P = m := ⟨_, rfl⟩
        obtain ⟨x, hx⟩ : ∃ x, Q[m]? = some x := ⟨_, List.getElem?_eq_getElem (by have := HN.out; omega)⟩
        have HS : Hid (∀ W, Kept [] wr W → (W.cell? ⟨p, m * 5, none⟩ = some (Sv x.ac) ∧ W.cell? ⟨p, m * 5 + 1, none⟩ = some (Sv x.nm) ∧ W.cell? ⟨p, m * 5 + 2, none⟩ = some (Iv x.due) ∧ W.cell? ⟨p, m * 5 + 3, none⟩ = some (Iv x.per) ∧ W.cell? ⟨p, m * 5 + 4, none⟩ = some (Iv x.kind)) ∧ W.cell? ⟨w.heap.size, 0, none⟩ = some (Sv ac) ∧ W.cell? ⟨w.heap.size, 1, none⟩ = some (Sv nm) ∧ W.cell? ⟨w.heap.size, 2, none⟩ = some (Iv due) ∧ W.cell? ⟨w.heap.size, 3, none⟩ = some (Iv per) ∧ W.cell? ⟨w.heap.size, 4, none⟩ = some (Iv kind)) := fun W k => ⟨(HBQ.out _ (kk.out.trans k (by simp))).at hx, HBX.out _ (kk.out.trans k (by simp))⟩
        have S0 := HS.out _ (Kept.refl [] wr).drew
        subst hm
        have hcc := HI.out x wr.drew
        generalize ordI x ⟨ac, nm, due, per, kind⟩ = cv at hcc
        have HC := Hid.mk hcc
        have hm0 : (0 : Int) ≤ (P : Int) := by omega
        have hm1 : (P : Int) < (n : Int) := by omega
        clear hx hcc
        go_wp2_with fail
        go_region_held3 (fun W => (W.cell? ⟨p, P * 5, none⟩ = some (Sv x.ac) ∧ W.cell? ⟨p, P * 5 + 1, none⟩ = some (Sv x.nm) ∧ W.cell? ⟨p, P * 5 + 2, none⟩ = some (Iv x.due) ∧ W.cell? ⟨p, P * 5 + 3, none⟩ = some (Iv x.per) ∧ W.cell? ⟨p, P * 5 + 4, none⟩ = some (Iv x.kind)) ∧ W.cell? ⟨w.heap.size, 0, none⟩ = some (Sv ac) ∧ W.cell? ⟨w.heap.size, 1, none⟩ = some (Sv nm) ∧ W.cell? ⟨w.heap.size, 2, none⟩ = some (Iv due) ∧ W.cell? ⟨w.heap.size, 3, none⟩ = some (Iv per) ∧ W.cell? ⟨w.heap.size, 4, none⟩ = some (Iv kind)) (first | with_reducible exact S0 | with_reducible exact S1) (first | (go_at_fn 61; refine HC.out.mono ?_; rintro e w' ⟨rfl, k1⟩; have S1 := HS.out _ ((Kept.refl [] wr).drew.trans k1 (by simp)); have HK := Hid.mk (kk.out.trans ((Kept.refl [] wr).drew.trans k1 (by simp)) (by simp)); clear k1))
        go_wp2_with fail
        go_ret2
        exact ⟨_, rfl, HK0.out.trans HK.out (by simp)⟩
      · have hm1 : ((P : Int) < (n : Int)) = False := eq_false (by omega)
        go_wp2_with fail
        try go_region
        go_wp2_with fail
        go_ret2
        exact ⟨_, rfl, HK0.out.trans (kk.out.drew) (by simp)⟩
end
end Go.Proofs.Ytmjbkhcfdojpeaa
