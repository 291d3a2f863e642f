/-
  Add of a journal.
-/
import Derived.Test.YtbmpoboenhdnoaaJc
namespace Go.Proofs.Ytbmpoboenhdnoaa
set_option maxRecDepth 100000
open Go.RowKit
set_option linter.unusedVariables false
section
variable {w : World} {p : Nat} {j : Jn}
set_option maxHeartbeats 2000000 in
theorem add12 {v : Value} {l : List Ep} (h : IsJ w p j) (hr : RegJ j) (hR : ∀ W, Kept [p] w W → ReadsR 2 W v (CE l)) (hl : l.length ≤ 1000000) (hv : j.ver + l.length < 18446744073709551616) : Calls Try.prog 12 #[.pointer (some ⟨p, 0, none⟩), v] w fun e w' => e = .returned (Iv (addC l)) ∧ IsJ w' p (addR j l) ∧ Kept [p] w w' := by
  have HC := Hid.mk (contains26 (hR w (Kept.refl _ _)) hl)
  obtain ⟨a, c, rfl, hc1, hc2⟩ := rowE_form (hR w (Kept.refl _ _))
  have HJ := Hid.mk h
  have HR := Hid.mk hR
  have hpl := h.lt
  unfold addC addR
  clear h hR
  cases ha : l.any badE with
  | true =>
    rw [ha] at HC
    rw [if_pos rfl, if_pos rfl]
    go_enter Try.func12, Try.ntmps12
    go_wp2_with fail
    refine HC.out.mono ?_
    rintro e w1 ⟨rfl, k1⟩
    go_wp2_with fail
    go_ret
    exact ⟨rfl, HJ.out.kept0 k1, k1.mono (by simp)⟩
  | false =>
    rw [ha] at HC
    rw [if_neg (by simp), if_neg (by simp)]
    have HG : Hid (∀ (k : Nat) (y : Ep), l[k]? = some y → 0 ≤ y.1 ∧ y.1 < 8) := fun k y hy => badE_no (by
      rw [List.any_eq_false] at ha
      simpa using ha y (List.mem_of_getElem? hy))
    clear ha
    generalize hn : l.length = n at *
    have HN := Hid.mk hn
    clear hn
    go_enter Try.func12, Try.ntmps12
    go_wp2_with fail
    refine HC.out.mono ?_
    rintro e w1 ⟨rfl, k1⟩
    have HK1 := Hid.mk k1
    clear k1
    go_wp2_with fail
    go_loopw [15] (fun i wr => ∃ k : Nat, i = .int .i64 (k : Int) ∧ k ≤ n ∧ Hid (IsJ wr p (pushA j ((l.take k).map toE)) ∧ RegJ (pushA j ((l.take k).map toE)) ∧ Kept [p] w wr)) (fun i _ => n - (intOf i).toNat)
    case atStart => exact ⟨0, rfl, by omega, Hid.mk ⟨HJ.out.kept0 HK1.out, hr, HK1.out.mono (by simp)⟩⟩
    case round =>
      obtain ⟨k, rfl, hk, H⟩ := hrel
      by_cases hlt : k < n
      · obtain ⟨y, hy⟩ : ∃ y, l[k]? = some y := ⟨_, List.getElem?_eq_getElem (by have := HN.out; omega)⟩
        obtain ⟨b, o, rfl, d0, d1⟩ := rowE_at (HR.out wr H.out.2.2) hy
        obtain ⟨y0, y8⟩ := HG.out k y hy
        have hjI : (k : Int) < (n : Int) := by omega
        obtain ⟨W1, e1, k1, hz1, hb1⟩ := box1 wr (.cells #[Iv y.1, Iv y.2] 34)
        have HP := Hid.mk (push28 (H.out.1.kept0 k1) H.out.2.1 (toE y))
        rw [ofE_toE y0] at HP
        have he : pushA j ((l.take (k + 1)).map toE) = pushJ (pushA j ((l.take k).map toE)) (toE y) := by
          rw [List.take_add_one, hy, List.map_append, pushA, List.foldl_append]
          rfl
        have HT : Hid (∀ w', IsJ w' p (pushJ (pushA j ((l.take k).map toE)) (toE y)) → Kept [p] W1 w' → IsJ w' p (pushA j ((l.take (k + 1)).map toE)) ∧ RegJ (pushA j ((l.take (k + 1)).map toE)) ∧ Kept [p] w w') := fun w' h1 h2 => by
          rw [he]
          exact ⟨h1, H.out.2.1.push (by show y.1.toNat ≤ 7; omega), (H.out.2.2.trans k1 (by simp)).trans h2 (by simp)⟩
        obtain ⟨c0, c1⟩ := cells2 hb1
        clear hy he H hb1 k1 hz1
        go_wp2_with fail
        refine HP.out.mono ?_
        rintro e w' ⟨rfl, h1, k1⟩
        have HT1 := Hid.mk (HT.out w' h1 k1)
        clear h1 k1 c0 c1 d0 d1 HT HP e1
        go_wp2_with fail
        go_roundw
        case rel => exact ⟨k + 1, by go_num, by omega, HT1⟩
        case measure => simp [intOf]; omega
      · obtain rfl : k = n := by omega
        have hP := H.out.1
        have hE := addA_eq j (l.map toE)
        rw [List.take_of_length_le (by rw [HN.out]; exact Nat.le_refl _)] at hP
        rw [List.length_map, HN.out] at hE
        have hpv : (pushA j (l.map toE)).ver = j.ver := by rw [pushA_eq]
        have hver := hP.isP.ver
        rw [hpv] at hver
        have S0 : wr.drew.cell? ⟨p, 41, none⟩ = some (Uv j.ver) := hver
        have fz := hP.isP.free 41
        have fz' : wr.drew.frozen? ⟨p, 41, none⟩ = false := fz
        have HF : Hid (IsJ (wr.setCell ⟨p, 41, none⟩ (.int .u64 ((j.ver : Int) + (k : Int)))).drew p (addA j (l.map toE)) ∧ Kept [p] w (wr.setCell ⟨p, 41, none⟩ (.int .u64 ((j.ver : Int) + (k : Int)))).drew) := by
          rw [hE]
          have h2 := hP.isP.setv (j.ver + k)
          have ev : Uv (j.ver + k) = .int .u64 ((j.ver : Int) + (k : Int)) := by rw [← Int.natCast_add]
          rw [ev] at h2
          exact ⟨IsJ.kept0 ⟨h2, hP.len⟩ (Kept.refl [] _).drew, (H.out.2.2.setCell (p := ⟨p, 41, none⟩) (.inl (by simp)) _).drew⟩
        have q1 : IntKind.u64.wrap (k : Int) = (k : Int) := by rw [IntKind.wrap_u64]; omega
        have q2 : IntKind.u64.wrap (18446744073709551615 - (j.ver : Int)) = 18446744073709551615 - (j.ver : Int) := by rw [IntKind.wrap_u64]; omega
        have q3 : min (k : Int) (18446744073709551615 - (j.ver : Int)) = (k : Int) := by omega
        have q4 : IntKind.u64.wrap ((j.ver : Int) + (k : Int)) = (j.ver : Int) + (k : Int) := by rw [IntKind.wrap_u64]; omega
        clear H hP hE hpv
        generalize j.ver = v at *
        go_wp2_with fail
        go_region
        go_wp2_with fail
        go_ret
        exact ⟨rfl, HF.out⟩
end
end Go.Proofs.Ytbmpoboenhdnoaa
