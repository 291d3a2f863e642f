import Derived.Test.YtdadloaifebdiaaGreatQ07
/-
  The document's own Reader: Number, Int, Text, End, Of.
-/
namespace Go.Proofs.YtdadloaifebdiaaGreat
set_option maxRecDepth 100000
open Go.RowKit
set_option linter.unusedVariables false
set_option maxRecDepth 100000 in
theorem refr_any (p : Nat) (v : Value) (l : List UInt8) (bad : Bool) (w : World) (hR : IsR 132 w p v l bad) :
    Calls Tryz.prog 22 #[.pointer (some ⟨p, 0, none⟩)] w fun e w' => e = .returned (.int .u64 ((rnum l bad).1 : Int)) ∧ Rest 132 w p v (rnum l bad).2.1 (rnum l bad).2.2 w' := by
  have hfail := fail_any p v l bad w hR
  obtain ⟨hp, -⟩ := cell_of_two hR.box
  obtain ⟨hf, -⟩ := free_of_two hR.box
  obtain ⟨a, cap, rfl, h2, h3⟩ := isR_form hR
  obtain ⟨a', cap', hv, -, -, -, h5⟩ := hR.reads
  injection hv with e1 e2 e3
  subst e1 e3
  match l with
  | [] => exact refr_nil p _ bad w hR
  | [x] =>
    obtain ⟨b, o, rfl, hc⟩ := h5 (by simp)
    have hx := x.toNat_lt
    have hc0 := hc 0 x rfl
    by_cases hs : x.toNat ≤ 247
    · obtain ⟨a1, c1, hsl, hr1, hin⟩ := slice_from (P := Tryz.prog) 22 5 Tryz.underlying22 size5 .i64 _ cap 1 [x] w hR.reads (by simp)
      rw [rnum_on [x] bad _ _ (dec_small x [] hs) (by omega)]
      exact refr_small p b o 0 cap x.toNat a1 _ c1 _ w hp hf h3 h2 hs hc0 hsl (rest_on hR hr1 hin (by simp))
    · rw [rnum_bad [x] bad (by rw [dec_short x [] hs (by simp; omega)])]
      exact refr_short p b o 0 cap x.toNat _ w hp h3 h2 (by omega) hx (by omega) hc0 hfail
  | x :: y :: t =>
    obtain ⟨b, o, rfl, hc⟩ := h5 (by simp)
    have hx := x.toNat_lt
    have hc0 := hc 0 x rfl
    have hc1 := hc 1 y rfl
    simp only [List.length_cons] at h2 hp
    by_cases hs : x.toNat ≤ 247
    · obtain ⟨a1, c1, hsl, hr1, hin⟩ := slice_from (P := Tryz.prog) 22 5 Tryz.underlying22 size5 .i64 _ cap 1 (x :: y :: t) w hR.reads (by simp)
      rw [rnum_on _ bad _ _ (dec_small x _ hs) (by omega)]
      exact refr_small p b o (t.length + 1) cap x.toNat a1 _ c1 _ w hp hf h3 h2 hs hc0 hsl (rest_on hR hr1 hin (fun h => by have := hR.none h; simp at this))
    by_cases hl : t.length + 1 < x.toNat - 247
    · rw [rnum_bad _ bad (by rw [dec_short x _ hs (by simpa using hl)])]
      exact refr_short p b o (t.length + 1) cap x.toNat _ w hp h3 h2 (by omega) hx hl hc0 hfail
    by_cases hy : y.toNat = 0
    · rw [rnum_bad _ bad (by rw [dec_zero x y t hs hy])]
      exact refr_zero p b o t.length cap x.toNat _ w hp h3 h2 (by omega) hx (by omega) hc0 (by rw [hc1]; simp [B8, hy]) hfail
    · have hlen : ((y :: t).take (x.toNat - 247)).length = x.toNat - 247 := by rw [List.length_take, List.length_cons]; omega
      obtain ⟨a1, c1, hsl, hr1, hin⟩ := slice_from (P := Tryz.prog) 22 5 Tryz.underlying22 size5 .i64 _ cap (x.toNat - 247 + 1) (x :: y :: t) w hR.reads (by simp; omega)
      have ei : ((x.toNat - 247 + 1 : Nat) : Int) = 1 + ((x.toNat : Int) - 247) := by omega
      rw [ei] at hsl
      have key := refr_loop p b o t.length cap x.toNat y.toNat ((y :: t).take (x.toNat - 247)) a1 _ c1 _ _ w hp hf h3 h2 (by omega) hx (by omega) hc0 hc1 (by omega) hlen (fun j u hu => by
        have hj : j < x.toNat - 247 := by
          have := (List.getElem?_eq_some_iff.1 hu).1; omega
        rw [List.getElem?_take_of_lt hj] at hu
        exact hc (j + 1) u (by simpa using hu)) hfail hsl (rest_on hR hr1 hin (fun h => by have := hR.none h; simp at this))
      refine key.mono fun e w' h => ?_
      rcases h with ⟨h, he, hq⟩ | ⟨h, he, hq⟩
      · rw [rnum_bad _ bad (by rw [dec_low x y t hs (by omega) hy h])]
        exact ⟨he, hq⟩
      · rw [rnum_on _ bad _ _ (dec_high x y t hs (by omega) hy (by omega)) (by omega)]
        exact ⟨he, hq⟩
set_option maxHeartbeats 400000 in
theorem refr_int (p : Nat) (v : Value) (l : List UInt8) (bad : Bool) (w : World) (hR : IsR 132 w p v l bad) :
    Calls Tryz.prog 78 #[.pointer (some ⟨p, 0, none⟩)] w fun e w' => e = .returned (.int .i64 (unfold (rnum l bad).1)) ∧ Rest 132 w p v (rnum l bad).2.1 (rnum l bad).2.2 w' := by
  have hlt := rnum_lt l bad
  have hnum := refr_any p v l bad w hR
  have HU : Hid (∀ n, unfold n = if n % 2 = 1 then -((n / 2 : Nat) : Int) - 1 else ((n / 2 : Nat) : Int)) := fun n => rfl
  generalize (rnum l bad).1 = N at hlt hnum ⊢
  by_cases h : N % 2 = 1
  · have hb : ((N : Int) % 2 == 1) = true := by simp; omega
    go_enter Tryz.func78, Tryz.ntmps78
    go_wp2_with (go_at_call 22; refine hnum.mono ?_; rintro e w' ⟨rfl, hL⟩)
    go_ret
    exact ⟨ret_int (by rw [HU.out, if_pos h]; omega), hL⟩
  · have hb : ((N : Int) % 2 == 1) = false := by simp; omega
    go_enter Tryz.func78, Tryz.ntmps78
    go_wp2_with (go_at_call 22; refine hnum.mono ?_; rintro e w' ⟨rfl, hL⟩)
    go_ret
    exact ⟨ret_int (by rw [HU.out, if_neg h]; omega), hL⟩
set_option maxHeartbeats 400000 in
theorem refr_end (p : Nat) (v : Value) (l : List UInt8) (bad : Bool) (w : World) (hR : IsR 132 w p v l bad) : Calls Tryz.prog 28 #[.pointer (some ⟨p, 0, none⟩)] w fun e w' => e = .returned (.bool (!bad && l.isEmpty)) ∧ w = w' := by
  obtain ⟨hc0, hc1⟩ := cell_of_two hR.box
  obtain ⟨a, cap, rfl, -, -, -, -⟩ := hR.reads
  cases bad with
  | true =>
    go_enter Tryz.func28, Tryz.ntmps28
    go_wp2
    go_ret
    exact ⟨rfl, rfl⟩
  | false =>
    have he : l.isEmpty = ((l.length : Int) == 0) := by cases l <;> simp; omega
    rw [he]
    clear he
    generalize l.length = n at *
    go_enter Tryz.func28, Tryz.ntmps28
    go_wp2
    go_ret
    exact ⟨rfl, rfl⟩
set_option maxHeartbeats 1000000 in
theorem refr_text (p : Nat) (v : Value) (l : List UInt8) (bad : Bool) (w : World) (hR : IsR 132 w p v l bad) :
    Calls Tryz.prog 24 #[.pointer (some ⟨p, 0, none⟩)] w fun e w' => e = .returned (.string ⟨(rtext l bad).1.toArray⟩) ∧ Rest 132 w p v (rtext l bad).2.1 (rtext l bad).2.2 w' := by
  have hnum := refr_any p v l bad w hR
  have hlt := rnum_lt l bad
  have HT : Hid (rtext l bad = if (rnum l bad).2.1.length < (rnum l bad).1 then ([], [], true) else ((rnum l bad).2.1.take (rnum l bad).1, (rnum l bad).2.1.drop (rnum l bad).1, (rnum l bad).2.2)) := rfl
  generalize rtext l bad = T at HT ⊢
  obtain ⟨t1, t2, t3⟩ := T
  generalize (rnum l bad).1 = N at hnum hlt HT
  generalize (rnum l bad).2.1 = l1 at hnum HT
  generalize (rnum l bad).2.2 = b1 at hnum HT
  by_cases hs : l1.length < N
  · have HT1 : Hid ((t1, t2, t3) = (([] : List UInt8), ([] : List UInt8), true)) := by have h := HT.out; rw [if_pos hs] at h; exact h
    clear HT
    go_enter Tryz.func24, Tryz.ntmps24
    go_wp2_with (first | (go_at_call 22; refine hnum.mono ?_; rintro e w1 ⟨rfl, v1, hR1, hk1, hi1⟩; obtain ⟨hc0, hc1⟩ := cell_of_two hR1.box; obtain ⟨a1, cap1, hv1, hl1, hl2⟩ := isR_form hR1; rw [hv1] at hc0) | (go_at_call 77; refine (fail_any p v1 l1 b1 _ hR1).mono ?_; rintro e w2 ⟨rfl, hL⟩))
    go_ret
    have h := HT1.out
    simp only [Prod.mk.injEq] at h
    obtain ⟨rfl, rfl, rfl⟩ := h
    exact ⟨rfl, Rest.trans hk1 hi1 hL⟩
  · have HT1 : Hid ((t1, t2, t3) = (l1.take N, l1.drop N, b1)) := by have h := HT.out; rw [if_neg hs] at h; exact h
    clear HT
    go_enter Tryz.func24, Tryz.ntmps24
    go_wp2_with fail
    refine hnum.mono ?_
    rintro e w1 ⟨rfl, v1, hR1, hk1, hi1⟩
    obtain ⟨hc0, hc1⟩ := cell_of_two hR1.box
    obtain ⟨hf0, hf1⟩ := free_of_two hR1.box
    obtain ⟨a1, cap1, rfl, hl1, hl2⟩ := isR_form hR1
    obtain ⟨a2, c2, hto, hr2⟩ := slice_to (P := Tryz.prog) 22 5 Tryz.underlying22 size5 .u64 a1 cap1 N l1 w1 hR1.reads (by omega)
    obtain ⟨a3, c3, hfrom, hr3, hin⟩ := slice_from (P := Tryz.prog) 22 5 Tryz.underlying22 size5 .u64 a1 cap1 N l1 w1 hR1.reads (by omega)
    have hstr := string_of (P := Tryz.prog) 22 5 Tryz.underlying22 9 Tryz.underlying5 Tryz.underlying9 _ _ w1 hr2
    have hL := rest_on hR1 hr3 hin (fun h => by rw [hR1.none h]; simp)
    clear hr2 hr3 hin hnum
    go_wp2
    go_ret
    have h := HT1.out
    simp only [Prod.mk.injEq] at h
    obtain ⟨rfl, rfl, rfl⟩ := h
    exact ⟨rfl, Rest.trans hk1 hi1 hL⟩
/-- The slice v lies in memory that is there. -/
def Inside (w : World) (v : Value) : Prop := ∀ g, v.ownBlock = some g → g < w.heap.size
set_option maxHeartbeats 400000 in
theorem newr_in (v : Value) (l : List UInt8) (w : World) (h : Reads w v l) (hl : l.length ≤ 140737488355328) :
    Calls Tryz.prog 16 #[v] w fun e w' => ∃ p v', e = .returned (.pointer (some ⟨p, 0, none⟩)) ∧ IsR 122 w' p v' l false ∧ Kept [] w w' ∧ Fresh w v' ∧ w.heap.size ≤ p ∧ Inside w' v' := by
  go_enter Tryz.func16, Tryz.ntmps16
  go_wp2_with (go_at_call 69; refine (clone_any v l _ h hl).mono ?_; rintro e w1 ⟨v1, rfl, hown, hk, hf⟩; obtain ⟨a1, c1, hv1⟩ := hown.form; rw [hv1])
  go_ret
  subst hv1
  have hne : (Value.slice a1 l.length c1).ownBlock ≠ some w1.heap.size := fun h => by have := hown.lt h; omega
  exact ⟨w1.heap.size, _, rfl, ⟨heap_alloc_new w1 _, hown.reads.kept ((Kept.refl [] w1).alloc _) (by simp), hne, by simp⟩, hk.alloc _, hf, hk.size, fun g hg => by have := hown.lt hg; simp; omega⟩
set_option maxHeartbeats 400000 in
theorem of_any (v : Value) (l : List UInt8) (w : World) (h : Reads w v l) (hin : Inside w v) :
    Calls Tryz.prog 21 #[v] w fun e w' => ∃ p, e = .returned (.pointer (some ⟨p, 0, none⟩)) ∧ IsR 132 w' p v l false ∧ Kept [] w w' ∧ w.heap.size ≤ p := by
  obtain ⟨a, cap, rfl, h2, h3, h4, h5⟩ := h
  have hr : Reads w (.slice a l.length cap) l := ⟨a, cap, rfl, h2, h3, h4, h5⟩
  go_enter Tryz.func21, Tryz.ntmps21
  go_wp2
  go_ret
  exact ⟨w.heap.size, rfl, ⟨heap_alloc_new w _, hr.kept ((Kept.refl [] w).alloc _) (by simp), fun h => by have := hin _ h; omega, by simp⟩, (Kept.refl [] w).alloc _, Nat.le_refl _⟩
theorem inside_of_ok {P : Program} {W : World} {base : Nat} {t e : TypeId} {v : Value} (hu : P.underlying t = some (.slice e)) (h : Value.okWide P W .any base t v) : Inside W v := by
  intro g hg
  unfold Value.okWide at h
  rw [hu] at h
  unfold Cell.okWide at h
  rw [hu] at h
  unfold Cell.ok at h
  rw [hu] at h
  match v, hg with
  | .slice (some a) len cap, hg =>
    obtain ⟨-, -, -, -, row, cells, hs, -⟩ := h
    simp only [Value.ownBlock, Option.some.injEq] at hg
    subst hg
    unfold World.shape? at hs
    cases hb : W.heap[a.block]? with
    | none => rw [hb] at hs; simp at hs
    | some o => exact lt_of_block hb
end Go.Proofs.YtdadloaifebdiaaGreat
