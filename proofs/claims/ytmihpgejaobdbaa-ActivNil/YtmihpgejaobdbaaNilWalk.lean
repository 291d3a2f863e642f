/-
  ActivNil: the walk.
-/
import Derived.Test.YtmihpgejaobdbaaHs
import Derived.Test.YtmihpgejaobdbaaLi
namespace Go.Proofs.Ytmihpgejaobdbaa
set_option maxRecDepth 100000
open Go.RowKit
set_option linter.unusedVariables false
section
variable {w : World}
theorem row_at {w : World} {v : Value} {L : List Ky} (h : OwnsR 9 1 w v (CT L)) {s : Ky} (hs : L[0]? = some s) : ∃ b c, v = .slice (some ⟨b, 0, none⟩) L.length c ∧ 1 ≤ c ∧ L.length ≤ c ∧ c ≤ 9223372036854775807 ∧ w.cell? ⟨b, 0, none⟩ = some (Sv s) ∧ w.frozen? ⟨b, 0, none⟩ = false := by
  have hl : (CT L).length = L.length := CT_length L
  have h1 : 0 < L.length := by cases L <;> simp at hs ⊢
  have hc := h
  obtain ⟨a, c, rfl, e1, e2⟩ := OwnsR.form h
  rw [hl] at hc e1 ⊢
  obtain ⟨b, o, rfl, hcell⟩ := texts_at hc hs
  rcases h.2 with ⟨e, h0⟩ | ⟨g, cap, cur, e3, _, hg, h4⟩
  · cases e
  · injection e3 with e3 e4 e5
    injection e3 with e3
    injection e3 with e6 e7 e8
    subst e6 e7
    exact ⟨b, c, rfl, by omega, by omega, e2, hcell, by simp [World.frozen?, hg]⟩
set_option maxHeartbeats 4000000 in
theorem nil_walk (key : Ky) (hk : key.length ≤ 140737488355328) : Calls Try.prog 5 #[Sv key] w fun e w' => e = .returned (.bool true) ∧ Kept [] w w' := by
  have HKl := Hid.mk hk
  clear hk
  go_enter Try.func5, Try.ntmps5
  go_wp2_with fail
  refine (awake7 _).mono ?_
  rintro e w1 ⟨rfl, k1⟩
  have K1 := Hid.mk k1
  clear k1
  go_wp2_with fail
  refine (touch10_nil key _).mono ?_
  rintro e w2 ⟨rfl, rfl⟩
  simp only [tin, Option.getD_none, Option.isSome_none]
  go_wp2_with fail
  refine (new8 3 _).mono ?_
  rintro e w2 ⟨T, rfl, h2, k2, hT⟩
  have K2 : Hid (Kept [] w w2) := K1.out.trans k2 (by simp)
  have HT2 : Hid (w.heap.size ≤ T) := Nat.le_trans K1.out.size hT
  have H2 := Hid.mk h2
  have HH := Hid.mk (touch10 h2 HKl.out (by simp) (by decide))
  clear h2 k2 hT K1
  go_wp2_with fail
  refine HH.out.mono ?_
  rintro e w3 ⟨rfl, F3, h3, k3, f3⟩
  have e3 : (touchT (cp (min (max 3 1) 10000)) [] key).1 = [key] := by
    rw [show cp (min (max 3 1) 10000) = 3 by decide]
    unfold touchT addT noT
    simp
  rw [e3] at h3
  have K3 : Hid (Kept [] w w3) := K2.out.trans k3 (fun b hb => .inr (by simp at hb; subst hb; exact HT2.out))
  have F3' : Hid (∀ b ∈ F3, w.heap.size ≤ b) := fun b hb => by
    rcases f3 b hb with h | h
    · simp at h; subst h; exact HT2.out
    · exact Nat.le_trans K2.out.size h
  have H3 := Hid.mk h3
  have HL := Hid.mk (list17 h3 (by simp))
  clear h3 k3 f3 e3 HH H2
  go_wp2_with fail
  refine HL.out.mono ?_
  rintro e w4 ⟨v, rfl, hO, k4, hf4⟩
  obtain ⟨b, c, rfl, hc1, hc3, hc2, hcell, hfree⟩ := row_at hO (s := key) rfl
  have hb := hf4 b rfl
  have h4 := H3.out.kept k4 (by simp)
  have hF := H3.out.lt
  have k5 : Kept [b] w4 (w4.setCell ⟨b, 0, none⟩ (Sv (key ++ [63]))) := (Kept.refl [b] w4).setCell (p := ⟨b, 0, none⟩) (.inl (by simp)) _
  have h5 := h4.kept k5 (fun x hx hm => by
    have := hF x hx
    simp at hm
    omega)
  have K5 : Hid (Kept [] w (w4.setCell ⟨b, 0, none⟩ (Sv (key ++ [63])))) := (K3.out.trans k4 (by simp)).trans k5 (fun x hx => .inr (by simp at hx; subst hx; have := K3.out.size; omega))
  have HL5 := Hid.mk (list17 h5 (by simp))
  clear hO k4 hf4 hb h4 hF k5 h5 HL
  have hk := HKl.out
  have hap : (⟨key.toArray⟩ : ByteArray) ++ (⟨#[63]⟩ : ByteArray) = ⟨(key ++ [63]).toArray⟩ := by
    apply ByteArray.ext
    simp
  have e5 : w4.setCell ⟨b, 0, none⟩ (.string ((⟨key.toArray⟩ : ByteArray) ++ (⟨#[63]⟩ : ByteArray))) = w4.setCell ⟨b, 0, none⟩ (Sv (key ++ [63])) := by rw [hap]
  clear hap
  have E5 := Hid.mk e5
  clear e5
  go_wp2_with fail
  rw [E5.out]
  clear hk hcell hfree E5
  generalize World.setCell w4 _ _ = w5 at K5 HL5 ⊢
  refine (has14_nil key _).mono ?_
  rintro e w6 ⟨rfl, rfl⟩
  go_wp2_with fail
  refine (drop12_nil key _).mono ?_
  rintro e w6 ⟨rfl, rfl⟩
  go_wp2_with fail
  refine (list17_nil _).mono ?_
  rintro e w6 ⟨rfl, rfl⟩
  go_wp2_with fail
  refine (most18_nil _).mono ?_
  rintro e w6 ⟨rfl, rfl⟩
  go_wp2_with fail
  refine HL5.out.mono ?_
  rintro e w6 ⟨v, rfl, hO, k6, -⟩
  obtain ⟨b', c', rfl, hc1', hc3', hc2', hcell, -⟩ := row_at hO (s := key) rfl
  have K6 : Hid (Kept [] w w6) := K5.out.trans k6 (by simp)
  clear hO k6 K5 HL5
  go_wp2_with fail
  go_ret
  exact ⟨rfl, K6.out⟩
theorem nil_str (a : ByteArray) (h : a.size ≤ 140737488351232) : Calls Try.prog 5 #[.string a] w fun e w' => e = .returned (.bool true) ∧ Kept [] w w' := by
  obtain ⟨d⟩ := a
  have := nil_walk (w := w) d.toList (by simp [ByteArray.size] at h ⊢; omega)
  simpa using this
end
end Go.Proofs.Ytmihpgejaobdbaa
