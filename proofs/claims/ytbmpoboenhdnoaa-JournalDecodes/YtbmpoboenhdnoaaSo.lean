/-
  same: a journal of the program's held against the document's.
-/
import Derived.Test.YtbmpoboenhdnoaaRs2
import Derived.Test.YtbmpoboenhdnoaaEi
import Derived.Deep.QuietTactic
import Derived.BigQuiet
namespace Go.Proofs.Ytbmpoboenhdnoaa
set_option maxRecDepth 100000
open Go.RowKit
set_option linter.unusedVariables false
/-- A world that kept all of another. -/
structure KW (a : World) where
  w : World
  k : Kept [] a w
instance (a : World) : Nonempty (KW a) := ⟨⟨a, Kept.refl [] a⟩⟩
theorem calls_kw {P : Program} {f : FuncId} {args : Array Value} {v : Value} {a : World} {z : KW a} (h : Calls P f args z.w fun e w' => e = .returned v ∧ Kept [] z.w w') : Calls P f args z.w fun e w'' => e = .returned v ∧ ∃ z' : KW a, w'' = z'.w :=
  h.mono fun e w'' h => ⟨h.1, ⟨w'', z.k.trans h.2 (by simp)⟩, rfl⟩
theorem wp_region_kw {P : Program} {C : World → Prop} {id : Nat} {Q : Exit → Act → World → Prop} {a : Act} {w : World} {l : List Oper} (hm : P.follows .mixedOrders = true) (hB : Region.lexB .any l.toArray = true) (hC : C w.drew)
    (h : wpQuiet P l.toArray C (fun a' => ∀ w', C w' → Q .normal a' w') l a) : (Code.region id l.toArray true).wp P Q a w :=
  wp_region_quiet (C := C) hm hB hC (by simpa using h)
section
variable {w : World} {p f : Nat} {v : Value} {j : Jn}
set_option maxHeartbeats 4000000 in
theorem same15 (hJ : IsJ w p j) (hF : IsF w f v j) (hr : RegJ j) : Calls Try.prog 15 #[.pointer (some ⟨p, 0, none⟩), .pointer (some ⟨f, 0, none⟩)] w fun e w' => e = .returned (.bool true) ∧ Kept [] w w' := by
  obtain ⟨a, c, rfl, hc1, hc2⟩ := hF.form
  have hln := hJ.len
  have HJ := Hid.mk hJ
  have HF := Hid.mk hF
  have HV := Hid.mk (events20 hJ)
  have hs8 : (stJ j).length = 8 := by unfold stJ; rw [doA_length]; exact hF.b8
  obtain ⟨a0, a1, a2, a3, a4, a5, a6, a7, hA⟩ := eight hs8
  obtain ⟨b0, b1, b2, b3, b4, b5, b6, b7, hB⟩ := eight hF.b8
  have H18 : Hid (∀ W, Kept [] w W → Calls Try.prog 18 #[.pointer (some ⟨p, 0, none⟩)] W fun e w' => e = .returned (.agg #[Iv a0, Iv a1, Iv a2, Iv a3, Iv a4, Iv a5, Iv a6, Iv a7]) ∧ Kept [] W w') := fun W k => (state18 (HJ.out.kept0 k) hr).mono fun e w' h => ⟨by rw [h.1, hA]; rfl, h.2⟩
  have H30 : Hid (∀ W, Kept [] w W → Calls Try.prog 30 #[.pointer (some ⟨f, 0, none⟩)] W fun e w' => e = .returned (.agg #[Iv a0, Iv a1, Iv a2, Iv a3, Iv a4, Iv a5, Iv a6, Iv a7]) ∧ Kept [] W w') := fun W k => (rstate30 (HF.out.kept0 k) hr (by omega)).mono fun e w' h => ⟨by rw [h.1, hA]; rfl, h.2⟩
  have H25 : Hid (∀ W, Kept [] w W → Calls Try.prog 25 #[.pointer (some ⟨p, 0, none⟩)] W fun e w' => e = .returned (.agg #[Iv b0, Iv b1, Iv b2, Iv b3, Iv b4, Iv b5, Iv b6, Iv b7]) ∧ Kept [] W w') := fun W k => (base25 (HJ.out.kept0 k).isP).mono fun e w' h => ⟨by rw [h.1, hB]; rfl, h.2⟩
  have H19 : Hid (∀ W, Kept [] w W → Calls Try.prog 19 #[.pointer (some ⟨p, 0, none⟩)] W fun e w' => e = .returned (Uv j.ver) ∧ Kept [] W w') := fun W k => (version19 (HJ.out.kept0 k).isP).mono fun e w' h => ⟨h.1, by rw [← h.2]; exact Kept.refl [] _⟩
  have HX : Hid (∀ W, Kept [] w W → Cells8 W f b0 b1 b2 b3 b4 b5 b6 b7) := fun W k => cells8 hB fun i x hx => (HF.out.kept0 k).cellA hx
  have heq := equal29 a0 a1 a2 a3 a4 a5 a6 a7
  have heq2 := equal29 b0 b1 b2 b3 b4 b5 b6 b7
  have HE8 : Hid (∀ W, Kept [] w W → W.cell? ⟨f, 8, none⟩ = some (.slice a j.ev.length c) ∧ W.cell? ⟨f, 9, none⟩ = some (Uv j.ver)) := fun W k => ⟨(HF.out.kept0 k).ev, (HF.out.kept0 k).ver⟩
  clear hJ hF hs8 hA hB hr
  generalize hvv : j.ver = ver at *
  generalize hn : j.ev.length = n at *
  have HN := Hid.mk hn
  clear hvv hn
  go_enter Try.func15, Try.ntmps15
  go_wp2_with fail
  refine HV.out.mono ?_
  rintro e w1 ⟨v1, rfl, ho1, -, k1⟩
  obtain ⟨a', c', rfl, q1, q2⟩ := rowE_form (ho1.reads (CE_wide _))
  rw [List.length_map, HN.out] at ho1 q1 ⊢
  have HO1 := Hid.mk ho1
  have HK1 := Hid.mk k1
  have z0 : ∀ z : KW w1, z.w.cell? ⟨f, 0, none⟩ = some (Iv b0) := fun z => (HX.out _ (HK1.out.trans z.k (by simp))).1
  have z1 : ∀ z : KW w1, z.w.cell? ⟨f, 1, none⟩ = some (Iv b1) := fun z => (HX.out _ (HK1.out.trans z.k (by simp))).2.1
  have z2 : ∀ z : KW w1, z.w.cell? ⟨f, 2, none⟩ = some (Iv b2) := fun z => (HX.out _ (HK1.out.trans z.k (by simp))).2.2.1
  have z3 : ∀ z : KW w1, z.w.cell? ⟨f, 3, none⟩ = some (Iv b3) := fun z => (HX.out _ (HK1.out.trans z.k (by simp))).2.2.2.1
  have z4 : ∀ z : KW w1, z.w.cell? ⟨f, 4, none⟩ = some (Iv b4) := fun z => (HX.out _ (HK1.out.trans z.k (by simp))).2.2.2.2.1
  have z5 : ∀ z : KW w1, z.w.cell? ⟨f, 5, none⟩ = some (Iv b5) := fun z => (HX.out _ (HK1.out.trans z.k (by simp))).2.2.2.2.2.1
  have z6 : ∀ z : KW w1, z.w.cell? ⟨f, 6, none⟩ = some (Iv b6) := fun z => (HX.out _ (HK1.out.trans z.k (by simp))).2.2.2.2.2.2.1
  have z7 : ∀ z : KW w1, z.w.cell? ⟨f, 7, none⟩ = some (Iv b7) := fun z => (HX.out _ (HK1.out.trans z.k (by simp))).2.2.2.2.2.2.2
  have z8' : ∀ z : KW w1, z.w.cell? ⟨f, 8, none⟩ = some (.slice a n c) := fun z => (HE8.out _ (HK1.out.trans z.k (by simp))).1
  have z9 : ∀ z : KW w1, z.w.cell? ⟨f, 9, none⟩ = some (Uv ver) := fun z => (HE8.out _ (HK1.out.trans z.k (by simp))).2
  clear ho1 k1 HV
  go_wp2_with fail
  refine wp_region_kw (C := fun W => ∃ z : KW w1, W = z.w) (by kernel_rfl) (by kernel_rfl) ⟨⟨w1.drew, (Kept.refl [] w1).drew⟩, rfl⟩ ?_
  repeat (go_big_quiet_step (first | (go_at_call 18; exact calls_kw (H18.out _ (HK1.out.trans (KW.k _) (by simp)))) | (go_at_call 30; exact calls_kw (H30.out _ (HK1.out.trans (KW.k _) (by simp)))) | (go_at_call 25; exact calls_kw (H25.out _ (HK1.out.trans (KW.k _) (by simp)))) | (go_at_call 19; exact calls_kw (H19.out _ (HK1.out.trans (KW.k _) (by simp))))))
  refine wpQuiet_nil ?_
  intro _ hw'
  obtain ⟨z, hw''⟩ := hw'
  subst hw''
  have HKz := Hid.mk (HK1.out.trans z.k (by simp))
  have HOz := Hid.mk (HO1.out.kept z.k (by simp))
  clear z0 z1 z2 z3 z4 z5 z6 z7 z8' z9 HO1 H18 H30 H25 H19 HX heq heq2
  generalize z.w = w2 at *
  go_wp2_with fail
  go_loopw [44] (fun i wr => ∃ k : Nat, i = .int .i64 (k : Int) ∧ k ≤ n ∧ Hid (Kept [] w2 wr)) (fun i _ => n - (intOf i).toNat)
  case atStart => exact ⟨0, rfl, by omega, Hid.mk (Kept.refl [] w2)⟩
  case round =>
    obtain ⟨k, rfl, hk, kk⟩ := hrel
    by_cases hlt : k < n
    · obtain ⟨y, hy⟩ : ∃ y, j.ev[k]? = some y := ⟨_, List.getElem?_eq_getElem (by have := HN.out; omega)⟩
      have hFr := HF.out.kept0 (HKz.out.trans kk.out.drew (by simp))
      obtain ⟨b, o, rfl, d0, d1⟩ := rowE_at (OwnsR.reads (HOz.out.kept kk.out.drew (by simp)) (CE_wide _)) (j := k) (y := ofE y) (by simp [hy])
      obtain ⟨b', o', rfl, g0, g1⟩ := rowE_at hFr.row (j := k) (y := ofE y) (by simp [hy])
      have hjI : (k : Int) < (n : Int) := by omega
      have hj0 : (0 : Int) ≤ (k : Int) := by omega
      have e8 := (HE8.out _ (HKz.out.trans kk.out.drew (by simp))).1
      clear hy hFr
      go_wp2_with fail
      go_region
      have HK := Hid.mk kk.out.drew
      clear d0 d1 g0 g1 e8
      go_wp2_with fail
      go_roundw
      case rel => exact ⟨k + 1, by go_num, by omega, HK⟩
      case measure => simp [intOf]; omega
    · obtain rfl : k = n := by omega
      go_wp2_with fail
      go_ret
      exact ⟨rfl, HKz.out.trans kk.out (by simp)⟩
end
end Go.Proofs.Ytbmpoboenhdnoaa
