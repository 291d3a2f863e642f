import Derived.Deep.RegionHeld3
import Derived.Deep.RegionLaw
import Derived.Test.YtngnenbidpojeaaGreatDoorQ03
import Derived.Test.YtngnenbidpojeaaGreatDoorQ05
import Derived.Test.YtngnenbidpojeaaGreatDoorQ06
import Derived.Test.YtngnenbidpojeaaGreatDoorQ19
import Derived.Test.YtngnenbidpojeaaGreatDoorQ21
import Derived.Test.YtngnenbidpojeaaGreatDoorQ22
import Derived.Test.YtngnenbidpojeaaGreatDoorQ24
import Derived.Test.YtngnenbidpojeaaGreatDoorQ31
import Derived.Test.YtngnenbidpojeaaGreatDoorQ32
import Derived.Test.YtngnenbidpojeaaGreatDoorQ33
import Derived.Test.YtngnenbidpojeaaGreatDoorQ34
import Derived.Test.YtngnenbidpojeaaGreatDoorQ35
import Derived.Test.YtngnenbidpojeaaGreatDoorQ38
import Derived.Test.YtngnenbidpojeaaGreatDoorQ39
/-
  InterpRuns' walk.
-/
namespace Go.Proofs.YtngnenbidpojeaaGreatDoor
open Go.RowKit
set_option maxRecDepth 100000
set_option linter.unusedVariables false
theorem run_sound {reg : List Int} {p : Pg} {l : Lt} {now : Int} (hb : Base p l now) (hN : ∀ i ∈ p.code, Named i) (hT : ∀ i ∈ p.code, Told p i) : ∀ (f k : Nat) (m : Mc), Sound reg now k m → ∀ m' k', runI p l now f k m = .ok m' k' → Sound reg now k' m' ∧ k' ≤ k + f
  | 0, k, m, h, m', k', e => by
    unfold runI at e
    cases hc : p.code[m.at_]? with
    | none => rw [hc] at e; simp at e; obtain ⟨rfl, rfl⟩ := e; exact ⟨h, by omega⟩
    | some i => rw [hc] at e; cases e
  | f + 1, k, m, h, m', k', e => by
    unfold runI at e
    cases hc : p.code[m.at_]? with
    | none => rw [hc] at e; simp at e; obtain ⟨rfl, rfl⟩ := e; exact ⟨h, by omega⟩
    | some i =>
      rw [hc] at e
      dsimp only at e
      have hmem := List.mem_of_getElem? hc
      have hs := h.step hb (hN i hmem) (hT i hmem)
      cases ho : oneI p l now m i with
      | err x => rw [ho] at e; cases e
      | halt m2 =>
        rw [ho] at e hs
        simp at e
        obtain ⟨rfl, rfl⟩ := e
        exact ⟨hs, by omega⟩
      | go m2 =>
        rw [ho] at e hs
        obtain ⟨h1, h2⟩ := run_sound hb hN hT f (k + 1) m2 hs m' k' e
        exact ⟨h1, by omega⟩
theorem run_small {reg : List Int} {p : Pg} {l : Lt} {now : Int} (hO : OkP p) (hlo : l.ok) (hn : I64 now) (hr : ∀ z ∈ reg, I64 z) : (resI p reg l now).1.ev.length ≤ 900 ∧ (resI p reg l now).1.tm.length ≤ 900 := by
  unfold resI
  by_cases hm : mayI p l now = true
  · rw [if_pos hm]
    obtain ⟨h1, h2, h3⟩ := may_parts hm
    obtain ⟨f1, f2, f3, f4⟩ := formed_parts h1
    obtain ⟨g1, g2⟩ := formed_named h1 hO
    cases hc : runI p l now 500 0 (Mc.start reg) with
    | ok m k =>
      obtain ⟨hs, hk⟩ := run_sound ⟨f3, hlo, h2, h3, hn⟩ g1 g2 500 0 _ (Sound.start (now := now) hr) m k hc
      have e1 := hs.wide.few
      have e2 := hs.few
      exact ⟨by show m.ev.length ≤ 900; omega, by show m.tm.length ≤ 900; omega⟩
    | err e k => exact ⟨by show 0 ≤ 900; omega, by show 0 ≤ 900; omega⟩
  · rw [if_neg hm]
    exact ⟨by show 0 ≤ 900; omega, by show 0 ≤ 900; omega⟩
section
variable {w : World}
end
end Go.Proofs.YtngnenbidpojeaaGreatDoor
/-
  What any run comes to; an actor behind a turn may be.
-/
namespace Go.Proofs.YtngnenbidpojeaaGreatDoor
set_option maxRecDepth 100000
set_option linter.unusedVariables false
theorem resI_fit {reg : List Int} {p : Pg} {l : Lt} {now : Int} (hO : OkP p) (hlo : l.ok) (hn : I64 now) (hr : ∀ z ∈ reg, I64 z) : FitR (resI p reg l now).1 := by
  have hF := run_facts (p := p) (l := l) (now := now) (reg := reg) hO
  have hs := run_small hO hlo hn hr
  refine ⟨hs.1, hs.2, hF.sent, hF.k, ?_, ?_⟩ <;> (unfold resI; by_cases hm : mayI p l now = true)
  · rw [if_pos hm]
    obtain ⟨h1, h2, h3⟩ := may_parts hm
    obtain ⟨f1, f2, f3, f4⟩ := formed_parts h1
    obtain ⟨g1, g2⟩ := formed_named h1 hO
    cases hc : runI p l now 500 0 (Mc.start reg) with
    | ok m k =>
      obtain ⟨hs, hk⟩ := run_sound ⟨f3, hlo, h2, h3, hn⟩ g1 g2 500 0 _ (Sound.start (now := now) hr) m k hc
      exact fun e he => ⟨hs.fine.ev e he, hs.wide.ev e he⟩
    | err e k => exact (fit_none 0 (by omega)).evs
  · rw [if_neg hm]
    exact (fit_none 0 (by omega)).evs
  · rw [if_pos hm]
    obtain ⟨h1, h2, h3⟩ := may_parts hm
    obtain ⟨f1, f2, f3, f4⟩ := formed_parts h1
    obtain ⟨g1, g2⟩ := formed_named h1 hO
    cases hc : runI p l now 500 0 (Mc.start reg) with
    | ok m k =>
      obtain ⟨hs, hk⟩ := run_sound ⟨f3, hlo, h2, h3, hn⟩ g1 g2 500 0 _ (Sound.start (now := now) hr) m k hc
      exact fun e he => ⟨((isKey_iff _).1 (hs.wide.sent e he).1).2, (hs.wide.sent e he).2⟩
    | err e k => exact (fit_none 0 (by omega)).snd
  · rw [if_neg hm]
    exact (fit_none 0 (by omega)).snd
theorem doA_64 (l : List Ev) : ∀ (b : List Int), (∀ z ∈ b, I64 z) → (∀ e ∈ l, I64 e.v) → ∀ z ∈ doA b l, I64 z := by
  induction l with
  | nil => intro b h _; exact h
  | cons e l ih => intro b h he; exact ih _ (doE_I64 h (he e (by simp))) (fun y hy => he y (by simp [hy]))
theorem GoodJ.st64 {j : Jn} (h : GoodJ j) : ∀ z ∈ stJ j, I64 z := doA_64 _ _ h.b64 fun e he => (h.ev e he).2
theorem GoodJ.st8 {j : Jn} (h : GoodJ j) : (stJ j).length = 8 := (doA_len _ _).trans h.b8
end Go.Proofs.YtngnenbidpojeaaGreatDoor
/-
  Encode of a journal.
-/
namespace Go.Proofs.YtngnenbidpojeaaGreatDoor
set_option maxRecDepth 100000
open Go.RowKit
set_option linter.unusedVariables false
section
variable {w0 w w' : World} {p q : Nat} {v : Value} {l : List UInt8}
theorem wq_int (h : Wq w0 w q v l) {z : Int} (hz : I64 z) (hb : l.length ≤ 1000000) : Calls Tryz.prog 110 #[.pointer (some ⟨q, 0, none⟩), Iv z] w fun e w' => e = .returned (.tuple #[]) ∧ ∃ v', Wq w0 w' q v' (l ++ enc (fold z)) ∧ Kept (foot q v) w w' := by
  refine (wint_any q v l z w h.1 hz.1 hz.2 (by omega)).mono ?_
  rintro e w' ⟨rfl, L⟩
  exact ⟨rfl, h.laid L⟩
end
theorem encI_length : ∀ (l : List Int), (encI l).length ≤ l.length * 9
  | [] => by simp [encI]
  | z :: l => by
    have h1 := encI_length l
    have h2 := enc_length (fold z)
    unfold encI at *
    simp only [List.flatMap_cons, List.length_append, List.length_cons]
    omega
theorem encV_length : ∀ (l : List Ev), (encV l).length ≤ l.length * 18
  | [] => by simp [encV]
  | e :: l => by
    have h1 := encV_length l
    have h2 := enc_length (fold e.v)
    have h3 := enc_length e.r
    unfold encV at *
    simp only [List.flatMap_cons, List.length_append, List.length_cons]
    omega
theorem encI_take {l : List Int} {j : Nat} {y : Int} (h : l[j]? = some y) : encI (l.take (j + 1)) = encI (l.take j) ++ enc (fold y) := by
  rw [List.take_add_one, h]
  simp [encI]
theorem encV_take {l : List Ev} {j : Nat} {y : Ev} (h : l[j]? = some y) : encV (l.take (j + 1)) = encV (l.take j) ++ (enc y.r ++ enc (fold y.v)) := by
  rw [List.take_add_one, h]
  simp [encV]
section
variable {w : World} {p : Nat} {j : Jn}
set_option maxHeartbeats 2000000 in
theorem encode21 (hJ : IsJ w p j) (hG : GoodJ j) : Calls Tryz.prog 65 #[.pointer (some ⟨p, 0, none⟩)] w fun e w' => NewB w (encJn j) e w' := by
  have HJ := Hid.mk hJ
  have HG := Hid.mk hG
  have hln := hJ.len
  have e1 := enc_length j.ver
  have e2 := enc_length j.ev.length
  have hb8 := hG.b8
  have hlI := encI_length j.base
  have ha : (List.map (fun n => Iv n) j.base) = BI j.base := rfl
  clear hJ hG ha
  go_enter Tryz.func65, Tryz.ntmps65
  go_wp2_with fail
  refine (newW _).mono ?_
  rintro e w2 ⟨q, rfl, hW2, k2, hq2⟩
  have W2 : Wq w w2 q (.slice none 0 0) [] := ⟨hW2, hq2, fresh_nil _ _, k2⟩
  have c2 := (HJ.out.kept0 k2).isP.ver
  have H3 := Hid.mk (wq_num W2 (n := j.ver) HG.out.v64 (by simp))
  clear W2 hW2 k2 hq2
  go_wp2_with fail
  refine H3.out.mono ?_
  rintro e w4 ⟨rfl, v4, W4, -⟩
  clear c2 H3
  rw [List.nil_append] at W4
  have h4 := (HJ.out.kept0 W4.2.2.2).isP
  have hld : (Instr.loadAt 84 (.pointer (some ⟨p, 0, none⟩))).run Tryz.prog w4 = .ok (.agg (BI j.base).toArray) w4 := run_loadAt_mid w4 p 0 84 _ _ h4.rangeA Tryz.underlying84 rfl (by rw [BI_length, hb8]; exact size29)
  have HW4 := Hid.mk W4
  clear W4 h4
  generalize hB : enc j.ver = B1 at *
  have HB1 := Hid.mk hB
  clear hB
  go_wp2_with (first | (refine wpList_load_run 84 (.tmp 19) rfl rfl _ rfl _ hld ?_))
  clear hld
  go_loopw [21] (fun i wr => ∃ k : Nat, i = .int .i64 (k : Int) ∧ k ≤ 8 ∧ Hid (∃ v, Wq w wr q v (B1 ++ encI (j.base.take k)))) (fun i _ => 8 - (intOf i).toNat)
  case atStart => exact ⟨0, rfl, by omega, Hid.mk ⟨v4, by simpa [encI] using HW4.out⟩⟩
  case round =>
    obtain ⟨k, rfl, hk, hH⟩ := hrel
    obtain ⟨v6, W6⟩ := hH.out
    have hlK := encI_length (j.base.take k)
    rw [List.length_take] at hlK
    by_cases hlt : k < 8
    · have hkI : (k : Int) < 8 := by omega
      obtain ⟨y, hy⟩ : ∃ y, j.base[k]? = some y := ⟨_, List.getElem?_eq_getElem (by omega)⟩
      have hix : ∀ W : World, (Instr.index 84 (.agg (BI j.base).toArray) (.int .i64 (k : Int))).run Tryz.prog W = .ok (Iv y) W := fun W => index29 hb8 hy W
      have H8 := Hid.mk (wq_int W6 (z := y) (HG.out.b64 y (List.mem_of_getElem? hy)) (by rw [List.length_append]; omega))
      have HE := Hid.mk (encI_take hy)
      clear hH W6 hy
      go_wp2_with fail
      refine H8.out.mono ?_
      rintro e w8 ⟨rfl, v8, W8, -⟩
      have HW8 : Hid (∃ v, Wq w w8 q v (B1 ++ encI (j.base.take (k + 1)))) := ⟨v8, by rw [HE.out, ← List.append_assoc]; exact W8⟩
      clear H8 W8 hix
      go_wp2_with fail
      go_roundw
      case rel => exact ⟨k + 1, by go_num, by omega, HW8⟩
      case measure => simp [intOf]; omega
    · obtain rfl : k = 8 := by omega
      have hJ6 := HJ.out.kept0 W6.2.2.2
      have c6 := hJ6.isP.count
      rw [List.take_of_length_le (by omega)] at W6 hlK
      have H8 := Hid.mk (wq_num W6 (n := j.ev.length) (by unfold U64; omega) (by rw [List.length_append]; omega))
      have g0 : IntKind.u64.wrap (j.ev.length : Int) = (j.ev.length : Int) := by rw [IntKind.wrap_u64]; omega
      have g1 : (0 : Int) ≤ (j.ev.length : Int) := by omega
      clear hH W6 hJ6
      generalize hn : j.ev.length = n at *
      have HN := Hid.mk hn
      clear hn
      go_wp2_with fail
      refine H8.out.mono ?_
      rintro e w8 ⟨rfl, v8, W8, -⟩
      have HC := Hid.mk (behind31 (HJ.out.kept0 W8.2.2.2))
      rw [HN.out] at HC
      have HW8 := Hid.mk W8
      clear H8 W8 c6
      go_wp2_with fail
      refine HC.out.mono ?_
      rintro e w9 ⟨rfl, k9⟩
      have HW9 := Hid.mk (HW8.out.kept0 k9)
      have hX1 : (B1 ++ encI j.base ++ enc n).length ≤ 90 := by rw [List.length_append, List.length_append]; omega
      generalize hX : B1 ++ encI j.base ++ enc n = X at *
      have HX := Hid.mk hX
      clear HC HW8 k9 hX
      go_wp2_with fail
      go_loopw [38] (fun i wr => ∃ k : Nat, i = .int .i64 (k : Int) ∧ k ≤ n ∧ Hid (∃ v, Wq w wr q v (X ++ encV (j.ev.take k)))) (fun i _ => n - (intOf i).toNat)
      case atStart => exact ⟨0, rfl, by omega, Hid.mk ⟨v8, by simpa [encV] using HW9.out⟩⟩
      case round =>
        obtain ⟨k, rfl, hk2, hH⟩ := hrel
        obtain ⟨v10, W10⟩ := hH.out
        have hlK2 := encV_length (j.ev.take k)
        rw [List.length_take] at hlK2
        by_cases hlt2 : k < n
        · have hkI2 : (k : Int) < (n : Int) := by omega
          have hnI : (n : Int) ≤ 16 := by omega
          obtain ⟨y, hy⟩ : ∃ y, j.ev[k]? = some y := ⟨_, List.getElem?_eq_getElem (by have := HN.out; omega)⟩
          obtain ⟨d0, d1⟩ := (HJ.out.kept0 W10.2.2.2).at hy
          obtain ⟨y7, yv⟩ := HG.out.ev y (List.mem_of_getElem? hy)
          obtain ⟨W11, e11, k11, hz11, hb11⟩ := box1 wr (.cells #[Iv (y.r : Int), Iv y.v] 92)
          have H12 := Hid.mk (wq_num (W10.kept0 k11) (n := y.r) (by unfold U64; omega) (by rw [List.length_append]; omega))
          have HB11 : Hid (wr.heap.size ∉ foot q v10) := (W10.kept0 k11).notin hb11 (by decide)
          have HBX := Hid.mk hb11
          have HE := Hid.mk (encV_take hy)
          have t1 := enc_length y.r
          have hXl : (X ++ encV (j.ev.take k)).length ≤ 378 := by rw [List.length_append]; omega
          have g2 : IntKind.u64.wrap (y.r : Int) = (y.r : Int) := by rw [IntKind.wrap_u64]; omega
          have g3 : (0 : Int) ≤ (y.r : Int) := by omega
          have E11 := Hid.mk e11
          clear hH W10 hy k11 hz11 e11 hb11
          go_wp2_with fail
          rw [E11.out]
          refine H12.out.mono ?_
          rintro e w12 ⟨rfl, v12, W12, k12⟩
          have hb12 := k12.keeps HBX.out HB11.out
          obtain ⟨-, c12⟩ := cells2 hb12
          have H13 := Hid.mk (wq_int W12 yv (by rw [List.length_append]; omega))
          clear W12 k12 hb12 H12 HBX HB11 d0 d1
          go_wp2_with fail
          refine H13.out.mono ?_
          rintro e w13 ⟨rfl, v13, W13, -⟩
          have HW13 : Hid (∃ v, Wq w w13 q v (X ++ encV (j.ev.take (k + 1)))) := ⟨v13, by rw [HE.out]; simpa [List.append_assoc] using W13⟩
          clear W13 H13 c12
          go_wp2_with fail
          go_roundw
          case rel => exact ⟨k + 1, by go_num, by omega, HW13⟩
          case measure => simp [intOf]; omega
        · obtain rfl : k = n := by omega
          have HBt := Hid.mk (wbytes_any q v10 _ wr W10.1 (by rw [List.length_append]; omega))
          have HKr := Hid.mk W10.2.2.2
          clear W10 hH
          go_wp2_with fail
          refine HBt.out.mono ?_
          rintro e w13 ⟨v13, rfl, hO13, k13, hf13⟩
          go_wp2_with fail
          go_ret
          refine ⟨v13, rfl, ?_, HKr.out.trans k13 (by simp), fun g hg => ?_⟩
          · rw [List.take_of_length_le (by have := HN.out; omega), ← HX.out, ← HB1.out] at hO13
            unfold encJn
            rw [HN.out]
            simpa [List.append_assoc] using hO13
          · have := hf13 g hg
            have := HKr.out.size
            omega
end
end Go.Proofs.YtngnenbidpojeaaGreatDoor
