import Derived.Deep.RegionHeld3
import Derived.Test.YtibapmjgpnldgaaGreatDoorQ08
import Derived.Test.YtibapmjgpnldgaaGreatDoorQ31
import Derived.Test.YtibapmjgpnldgaaGreatDoorQ33
/-
  The document's Encode of a program.
-/
namespace Go.Proofs.YtibapmjgpnldgaaGreatDoor
set_option maxRecDepth 100000
open Go.RowKit
set_option linter.unusedVariables false
/-- Bytes that were laid since w0. -/
def Bst (w0 w : World) (v : Value) (l : List UInt8) : Prop := Owns 5 w v l ∧ Fresh w0 v ∧ Kept [] w0 w
section
variable {w0 w w' : World} {v : Value} {l : List UInt8}
theorem Bst.kept0 (h : Bst w0 w v l) (k : Kept [] w w') : Bst w0 w' v l := ⟨h.1.kept k (by simp), h.2.1, h.2.2.trans k (by simp)⟩
theorem Bst.grew {l' : List UInt8} {v' : Value} (h : Bst w0 w v l) (G : Grew 5 w v l' v' w') : Bst w0 w' v' l' := by
  obtain ⟨h1, h2, h3⟩ := h
  obtain ⟨i1, i2, i3⟩ := G
  refine ⟨i1, fun g hg => ?_, h3.trans i2 (fun x hx => by rw [Option.mem_toList] at hx; exact .inr (h2 x hx))⟩
  rcases i3 g hg with h | h
  · exact h2 g h
  · have := h3.size; omega
theorem bst_num (h : Bst w0 w v l) {n : Nat} (hn : U64 n) (hb : l.length ≤ 1000000) : Calls Tryz.prog 41 #[v, .int .u64 (n : Int)] w fun e w' => ∃ v', e = .returned v' ∧ Bst w0 w' v' (l ++ enc n) := by
  refine (refnum_any v l n w h.1 hn (by omega)).mono ?_
  rintro e w' ⟨v', rfl, G⟩
  exact ⟨v', rfl, h.grew G⟩
theorem bst_int (h : Bst w0 w v l) {z : Int} (hz : I64 z) (hb : l.length ≤ 1000000) : Calls Tryz.prog 43 #[v, .int .i64 z] w fun e w' => ∃ v', e = .returned v' ∧ Bst w0 w' v' (l ++ enc (fold z)) := by
  refine (refint_any v l z w h.1 hz.1 hz.2 (by omega)).mono ?_
  rintro e w' ⟨v', rfl, G⟩
  exact ⟨v', rfl, h.grew G⟩
theorem bst_text (h : Bst w0 w v l) (s : List UInt8) (hs : s.length ≤ 1000000) (hb : l.length ≤ 1000000) : Calls Tryz.prog 42 #[v, .string ⟨s.toArray⟩] w fun e w' => ∃ v', e = .returned v' ∧ Bst w0 w' v' (l ++ encTx s) := by
  have hz : (⟨s.toArray⟩ : ByteArray).size = s.length := by simp [ByteArray.size]
  refine (reftext_any v l ⟨s.toArray⟩ w h.1 (by omega)).mono ?_
  rintro e w' ⟨v', rfl, G⟩
  rw [hz] at G
  have e1 : l ++ enc s.length ++ (⟨s.toArray⟩ : ByteArray).data.toList = l ++ encTx s := by simp [encTx]
  rw [e1] at G
  exact ⟨v', rfl, h.grew G⟩
end
section
variable {w : World}
set_option maxHeartbeats 4000000 in
theorem encode21 {v u : Value} {p : Pg} (hP : IsP w v u p) (hK : ∀ s ∈ p.names, s.length ≤ 9223372036854775807) (hO : OkP p) : Calls Tryz.prog 24 #[.agg #[v, u]] w fun e w' => EncAt w p e w' := by
  obtain ⟨a, c, b, d, rfl, rfl, hl1, hl2⟩ := hP.form
  obtain ⟨W0, e0, k0, hz0, hb0⟩ := box1 w (.cells #[.slice a p.names.length c, .slice b p.code.length d] 25)
  have HF := Hid.mk (formed14 (hP.keep k0) hK)
  obtain ⟨y0, y1⟩ := cells2 hb0
  have HK0 := Hid.mk k0
  have HB0 := Hid.mk hb0
  have HP := Hid.mk (hP.keep k0)
  clear k0 hb0 hz0 hP
  cases hf : formedP p with
  | false =>
    rw [hf] at HF
    have HR : Hid (∀ W, Kept [] w W → EncAt w p (.returned (.tuple #[.slice none 0 0, .int .i64 1])) W) := fun W k => .inl ⟨hf, rfl, k⟩
    generalize EncAt w p = R at HR ⊢
    clear hf
    go_enter Tryz.func24, Tryz.ntmps24
    go_wp2_with fail
    refine HF.out.mono ?_
    rintro e w1 ⟨rfl, k1⟩
    go_wp2_with fail
    exact HR.out _ (HK0.out.then k1)
  | true =>
    rw [hf] at HF
    obtain ⟨n1, n2, n3, n4⟩ := formed_parts hf
    have HR : Hid (∀ W v', Owns 5 W v' (encPg p) → Kept [] w W → Fresh w v' → EncAt w p (.returned (.tuple #[v', .int .i64 0])) W) := fun W v' h1 h2 h3 => .inr ⟨hf, v', rfl, h1, h2, h3⟩
    generalize EncAt w p = R at HR ⊢
    have HN3 := Hid.mk n3
    have HN4 : Hid (∀ x ∈ p.code, okI p.names.length p.code.length x = true ∧ I64 x.arg) := fun x hx => ⟨n4 x hx, hO x hx⟩
    have hlN := encN_length n3
    have e1 := enc_length p.names.length
    have e2 := enc_length p.code.length
    clear hf n3 n4 hK hO
    go_enter Tryz.func24, Tryz.ntmps24
    go_wp2_with fail
    refine HF.out.mono ?_
    rintro e w1 ⟨rfl, k1⟩
    have HKa := Hid.mk (HK0.out.then k1)
    have HPa := Hid.mk (HP.out.keep k1)
    have HB1 := Hid.mk (k1.keeps HB0.out (by simp))
    obtain ⟨y0, y1⟩ := cells2 HB1.out
    have H3 := Hid.mk (bst_num (w0 := w1) (w := w1) (v := .slice none 0 0) (l := []) ⟨Owns.nil 5 w1, fresh_nil _ _, Kept.refl [] w1⟩ (n := p.names.length) (by unfold U64; omega) (by simp))
    have g0 : IntKind.u64.wrap (p.names.length : Int) = (p.names.length : Int) := by rw [IntKind.wrap_u64]; omega
    have g1 : (0 : Int) ≤ (p.names.length : Int) := by omega
    clear k1 HF HP HB0 HK0
    go_wp2_with fail
    refine H3.out.mono ?_
    rintro e w4 ⟨v4, rfl, W4⟩
    clear y0 y1
    obtain ⟨y0, y1⟩ := cells2 (W4.2.2.keeps HB1.out (by simp))
    rw [List.nil_append] at W4
    have HW4 := Hid.mk W4
    clear W4 H3
    generalize hB : enc p.names.length = B1 at *
    have HBx := Hid.mk hB
    clear hB
    go_wp2_with fail
    generalize hg : w.heap.size = g at *
    have HGg := Hid.mk hg
    clear hg
    go_loopw [4, 18] (fun x i wr => ∃ j : Nat, i = .int .i64 (j : Int) ∧ j ≤ p.names.length ∧ Hid (Bst w1 wr x (B1 ++ encN (p.names.take j)))) (fun _ i _ => p.names.length - (intOf i).toNat)
    case atStart => exact ⟨0, rfl, by omega, Hid.mk (by simpa [encN] using HW4.out)⟩
    case round =>
      obtain ⟨j, rfl, hj, hH⟩ := hrel
      have W6 := hH.out
      have hlK := encN_length (l := p.names.take j) (fun k hk => HN3.out k (List.mem_of_mem_take hk))
      rw [List.length_take] at hlK
      obtain ⟨z0, z1⟩ := cells2 (W6.2.2.keeps HB1.out (by simp))
      by_cases hlt : j < p.names.length
      · obtain ⟨b1, o1, rfl, hc1⟩ := names_at (HPa.out.names.keep W6.2.2) hlt
        have hjI : (j : Int) < (p.names.length : Int) := by omega
        have hj0 : (0 : Int) ≤ (j : Int) := by omega
        have hk := (isKey_iff _).1 (HN3.out p.names[j] (List.getElem_mem hlt))
        have H8 := Hid.mk (bst_text W6 p.names[j] (by omega) (by rw [List.length_append]; omega))
        have HE := Hid.mk (encN_take hlt)
        clear hH W6 hk hlK
        generalize p.names[j] = nm at *
        go_wp2_with fail
        refine H8.out.mono ?_
        rintro e w8 ⟨v8, rfl, W8⟩
        have HW8 : Hid (Bst w1 w8 v8 (B1 ++ encN (p.names.take (j + 1)))) := Hid.mk (by rw [HE.out, ← List.append_assoc]; exact W8)
        clear H8 W8
        go_wp2_with fail
        go_roundw
        case rel => exact ⟨j + 1, by go_num, by omega, HW8⟩
        case measure => simp [intOf]; omega
      · have hje : ¬ (j : Int) < (p.names.length : Int) := by omega
        obtain rfl : j = p.names.length := by omega
        rw [List.take_length] at W6 hlK
        have g2 : IntKind.u64.wrap (p.code.length : Int) = (p.code.length : Int) := by rw [IntKind.wrap_u64]; omega
        have g3 : (0 : Int) ≤ (p.code.length : Int) := by omega
        have H8 := Hid.mk (bst_num W6 (n := p.code.length) (by unfold U64; omega) (by rw [List.length_append]; omega))
        clear hH W6
        go_wp2_with fail
        refine H8.out.mono ?_
        rintro e w8 ⟨v8, rfl, W8⟩
        clear z0 z1
        obtain ⟨z2, z3⟩ := cells2 (W8.2.2.keeps HB1.out (by simp))
        have HW8 := Hid.mk W8
        have hX1 : (B1 ++ encN p.names ++ enc p.code.length).length ≤ 1000 := by rw [List.length_append, List.length_append]; omega
        generalize hX : B1 ++ encN p.names ++ enc p.code.length = X at *
        have HX := Hid.mk hX
        clear hX W8 H8
        go_wp2_with fail
        clear z2 z3
        go_loopw [4, 38] (fun x i wr => ∃ j : Nat, i = .int .i64 (j : Int) ∧ j ≤ p.code.length ∧ Hid (Bst w1 wr x (X ++ encX (p.code.take j)))) (fun _ i _ => p.code.length - (intOf i).toNat)
        case atStart => exact ⟨0, rfl, by omega, Hid.mk (by simpa [encX] using HW8.out)⟩
        case round =>
          obtain ⟨k, rfl, hk2, H⟩ := hrel
          have hlK2 := encX_length (p.code.take k)
          rw [List.length_take] at hlK2
          by_cases hlt2 : k < p.code.length
          · obtain ⟨b1, o1, rfl, hc1, hc2⟩ := code_at HPa.out.code hlt2
            have hkI2 : (k : Int) < (p.code.length : Int) := by omega
            have hk0 : (0 : Int) ≤ (k : Int) := by omega
            obtain ⟨q1, q2⟩ := HN4.out p.code[k] (List.getElem_mem hlt2)
            obtain ⟨i, s, kk, o3, o4, -⟩ := okI_some q1
            have hi24 : i < 24 := (List.getElem?_eq_some_iff.1 o4).1
            have hnat : p.code[k].op.toNat = i := by rw [o3]; simp
            have HE := Hid.mk (encX_take hlt2)
            rw [hnat] at HE
            rw [o3] at hc1
            generalize p.code[k].arg = r2 at *
            have HS : Hid (∀ W, Kept [] w1 W → W.cell? ⟨g, 1, none⟩ = some (.slice (some ⟨b1, o1, none⟩) p.code.length d) ∧ W.cell? ⟨b1, o1 + k * 2, none⟩ = some (.int .i64 (i : Int)) ∧ W.cell? ⟨b1, o1 + k * 2 + 1, none⟩ = some (.int .i64 r2)) := fun W kk => ⟨(cells2 (kk.keeps HB1.out (by simp))).2, kk.cell_eq hc1, kk.cell_eq hc2⟩
            have S0 := HS.out _ H.out.2.2.drew
            have u1 := enc_length i
            have hXl : (X ++ encX (p.code.take k)).length ≤ 5000 := by rw [List.length_append]; omega
            have H12 := Hid.mk (bst_num (H.out.kept0 (Kept.refl [] wr).drew) (n := i) (by unfold U64; omega) (by omega))
            have H13 : Hid (∀ W u, Bst w1 W u (X ++ encX (p.code.take k) ++ enc i) → Calls Tryz.prog 43 #[u, .int .i64 r2] W fun e w' => ∃ v', e = .returned v' ∧ Bst w1 w' v' (X ++ encX (p.code.take k) ++ enc i ++ enc (fold r2))) := fun W u h => bst_int h q2 (by rw [List.length_append]; omega)
            have g4 : IntKind.u64.wrap (i : Int) = (i : Int) := by rw [IntKind.wrap_u64]; omega
            have g5 : (0 : Int) ≤ (i : Int) := by omega
            clear H o3 o4 q1 hnat q2 hc1 hc2
            go_wp2_with fail
            go_region_held3 (fun V => V.cell? ⟨g, 1, none⟩ = some (.slice (some ⟨b1, o1, none⟩) p.code.length d) ∧ V.cell? ⟨b1, o1 + k * 2, none⟩ = some (.int .i64 (i : Int)) ∧ V.cell? ⟨b1, o1 + k * 2 + 1, none⟩ = some (.int .i64 r2)) (first | with_reducible exact S0 | with_reducible exact S1 | with_reducible exact S2) (first | (go_at_call 43; refine (H13.out _ _ T1.out).mono ?_; rintro e w12 ⟨v12, rfl, t⟩; have T2 := Hid.mk t; have S2 := HS.out _ t.2.2; clear t) | (go_at_call 41; refine H12.out.mono ?_; rintro e w11 ⟨v11, rfl, t⟩; have T1 := Hid.mk t; have S1 := HS.out _ t.2.2; clear t))
            have HW13 : Hid (Bst w1 w12 v12 (X ++ encX (p.code.take (k + 1)))) := Hid.mk (by rw [HE.out]; simpa [List.append_assoc] using T2.out)
            clear S0 S1 S2 HS H12 H13 T1 T2
            go_wp2_with fail
            go_roundw
            case rel => exact ⟨k + 1, by go_num, by omega, HW13⟩
            case measure => simp [intOf]; omega
          · have hke : ¬ (k : Int) < (p.code.length : Int) := by omega
            obtain rfl : k = p.code.length := by omega
            have W10 := H.out
            rw [List.take_length] at W10 hlK2
            have HEq : X ++ encX p.code = encPg p := by
              rw [← HX.out, ← HBx.out]
              unfold encPg
              simp [List.append_assoc]
            rw [HEq] at W10
            have HH := Hid.mk (HR.out wr _ W10.1 (HKa.out.then W10.2.2) (fun g hg => by
              have := W10.2.1 g hg
              have := HKa.out.size
              omega))
            clear W10 H HEq
            go_wp2_with fail
            exact HH.out
end
end Go.Proofs.YtibapmjgpnldgaaGreatDoor
