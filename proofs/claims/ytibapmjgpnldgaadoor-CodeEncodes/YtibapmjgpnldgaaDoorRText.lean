/-
  Reader.Text and NewReader.
-/
import Derived.Test.YtibapmjgpnldgaaDoorRNum
namespace Go.Proofs.YtibapmjgpnldgaaDoor
set_option maxRecDepth 100000
open Go.RowKit
set_option maxHeartbeats 400000 in
theorem rtext_nil (w : World) : Calls Tryd.prog 50 #[.pointer none] w fun e w' => e = .returned (.string ⟨#[]⟩) ∧ w = w' := by
  go_enter Tryd.func50, Tryd.ntmps50
  go_wp2
  go_ret
  exact ⟨rfl, rfl⟩
/-- The facts that the walk of Reader.Text wants of a Reader. -/
theorem isR_form {t : TypeId} {w : World} {p : Nat} {v : Value} {l : List UInt8} {bad : Bool} (hR : IsR t w p v l bad) : ∃ a cap, v = .slice a l.length cap ∧ l.length ≤ cap ∧ cap ≤ 9223372036854775807 := by
  obtain ⟨a, cap, rfl, h2, h3, -, -⟩ := hR.reads
  exact ⟨a, cap, rfl, h2, h3⟩
set_option maxHeartbeats 1000000 in
theorem rtext_any (p : Nat) (v : Value) (l : List UInt8) (bad : Bool) (w : World) (hR : IsR 122 w p v l bad) :
    Calls Tryd.prog 50 #[.pointer (some ⟨p, 0, none⟩)] w fun e w' => e = .returned (.string ⟨(rtext l bad).1.toArray⟩) ∧ Rest 122 w p v (rtext l bad).2.1 (rtext l bad).2.2 w' := by
  have hnum := rnum_any p v l bad w hR
  have hlt := rnum_lt l bad
  have HT : Hid (rtext l bad = if (rnum l bad).2.1.length < (rnum l bad).1 then ([], [], true) else ((rnum l bad).2.1.take (rnum l bad).1, (rnum l bad).2.1.drop (rnum l bad).1, (rnum l bad).2.2)) := rfl
  generalize rtext l bad = T at HT ⊢
  obtain ⟨t1, t2, t3⟩ := T
  generalize (rnum l bad).1 = N at hnum hlt HT
  generalize (rnum l bad).2.1 = l1 at hnum HT
  generalize (rnum l bad).2.2 = b1 at hnum HT
  by_cases hs : l1.length < N
  · have HT1 : Hid ((t1, t2, t3) = (([] : List UInt8), ([] : List UInt8), true)) := by have h := HT.out; rw [if_pos hs] at h; exact h
    clear HT
    go_enter Tryd.func50, Tryd.ntmps50
    go_wp2_with (first | (go_at_call 49; refine hnum.mono ?_; rintro e w1 ⟨rfl, v1, hR1, hk1, hi1⟩; obtain ⟨hc0, hc1⟩ := cell_of_two hR1.box; obtain ⟨a1, cap1, hv1, hl1, hl2⟩ := isR_form hR1; rw [hv1] at hc0) | (go_at_call 72; refine (spoil_any p v1 l1 b1 _ hR1).mono ?_; rintro e w2 ⟨rfl, hL⟩))
    go_ret
    have h := HT1.out
    simp only [Prod.mk.injEq] at h
    obtain ⟨rfl, rfl, rfl⟩ := h
    exact ⟨rfl, Rest.trans hk1 hi1 hL⟩
  · have HT1 : Hid ((t1, t2, t3) = (l1.take N, l1.drop N, b1)) := by have h := HT.out; rw [if_neg hs] at h; exact h
    clear HT
    go_enter Tryd.func50, Tryd.ntmps50
    go_wp2_with fail
    refine hnum.mono ?_
    rintro e w1 ⟨rfl, v1, hR1, hk1, hi1⟩
    obtain ⟨hc0, hc1⟩ := cell_of_two hR1.box
    obtain ⟨hf0, hf1⟩ := free_of_two hR1.box
    obtain ⟨a1, cap1, rfl, hl1, hl2⟩ := isR_form hR1
    obtain ⟨a2, c2, hto, hr2⟩ := slice_to (P := Tryd.prog) 45 5 Tryd.underlying45 size5 .u64 a1 cap1 N l1 w1 hR1.reads (by omega)
    obtain ⟨a3, c3, hfrom, hr3, hin⟩ := slice_from (P := Tryd.prog) 45 5 Tryd.underlying45 size5 .u64 a1 cap1 N l1 w1 hR1.reads (by omega)
    have hstr := string_of (P := Tryd.prog) 45 5 Tryd.underlying45 9 Tryd.underlying5 Tryd.underlying9 _ _ w1 hr2
    have hL := rest_on hR1 hr3 hin (fun h => by rw [hR1.none h]; simp)
    clear hr2 hr3 hin hnum
    go_wp2
    go_ret
    have h := HT1.out
    simp only [Prod.mk.injEq] at h
    obtain ⟨rfl, rfl, rfl⟩ := h
    exact ⟨rfl, Rest.trans hk1 hi1 hL⟩
set_option maxHeartbeats 400000 in
theorem newr_any (v : Value) (l : List UInt8) (w : World) (h : Reads w v l) (hl : l.length ≤ 140737488355328) :
    Calls Tryd.prog 48 #[v] w fun e w' => ∃ p v', e = .returned (.pointer (some ⟨p, 0, none⟩)) ∧ IsR 122 w' p v' l false ∧ Kept [] w w' ∧ Fresh w v' ∧ w.heap.size ≤ p := by
  go_enter Tryd.func48, Tryd.ntmps48
  go_wp2_with (go_at_call 70; refine (clone_any v l _ h hl).mono ?_; rintro e w1 ⟨v1, rfl, hown, hk, hf⟩; obtain ⟨a1, c1, hv1⟩ := hown.form; rw [hv1])
  go_ret
  subst hv1
  have hne : (Value.slice a1 l.length c1).ownBlock ≠ some w1.heap.size := fun h => by have := hown.lt h; omega
  exact ⟨w1.heap.size, _, rfl, ⟨heap_alloc_new w1 _, hown.reads.kept ((Kept.refl [] w1).alloc _) (by simp), hne, by simp⟩, hk.alloc _, hf, hk.size⟩
end Go.Proofs.YtibapmjgpnldgaaDoor
