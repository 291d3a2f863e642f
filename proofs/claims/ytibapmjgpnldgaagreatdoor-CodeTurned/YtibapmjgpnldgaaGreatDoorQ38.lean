import Derived.Test.YtibapmjgpnldgaaGreatDoorQ24
import Derived.Test.YtibapmjgpnldgaaGreatDoorQ29
import Derived.Test.YtibapmjgpnldgaaGreatDoorQ36
import Derived.Test.YtibapmjgpnldgaaGreatDoorQ37
/-
  The document's line.
-/
namespace Go.Proofs.YtibapmjgpnldgaaGreatDoor
open Go.RowKit
set_option maxRecDepth 100000
set_option linter.unusedVariables false
/-- What line answers. -/
inductive LineR (s : List UInt8) (e : Ending) : Prop where
  | nm (k : List UInt8) (h : line1 s = some (.nm k)) (he : e = .returned (.tuple #[.agg #[.int .i64 (-1), .int .i64 0], .string ⟨k.toArray⟩, .bool true]))
  | ins (op : Nat) (arg : Int) (h : line1 s = some (.ins op arg)) (he : e = .returned (.tuple #[.agg #[.int .i64 (op : Int), .int .i64 arg], .string ⟨#[]⟩, .bool true]))
  | bad (h : line1 s = none) (x y : Int) (t : List UInt8) (he : e = .returned (.tuple #[.agg #[.int .i64 x, .int .i64 y], .string ⟨t.toArray⟩, .bool false]))
theorem size_lit2 (a : List UInt8) : (⟨a.toArray⟩ : ByteArray).size = a.length := by simp [ByteArray.size]
theorem line1_unhex {s : List UInt8} (h : s.take 5 = nameB) : line1 s = (unhexK (s.drop 5)).map .nm := by
  unfold line1 unhexK
  rw [if_pos h]
  cases unhexS (s.drop 5) with
  | none => rfl
  | some k =>
    dsimp only [Option.bind_some]
    split <;> rfl
theorem line1_words {s : List UInt8} (h : s.take 5 ≠ nameB) : line1 s = lineG words 0 s := by
  unfold line1
  rw [if_neg h]
theorem lineG_at {s wd : List UInt8} {o k : Nat} (h : words[o]? = some (wd, k)) : lineG (words.drop o) o s = if k = 0 ∧ s = wd then some (.ins o 0) else if 0 < k ∧ s.take (wd.length + 1) = wd ++ [32] then (intD (s.drop (wd.length + 1))).map (.ins o) else lineG (words.drop (o + 1)) (o + 1) s := by
  obtain ⟨h1, h2⟩ := List.getElem?_eq_some_iff.1 h
  rw [List.drop_eq_getElem_cons h1, h2, lineG]
section
variable {w : World}
set_option maxHeartbeats 8000000 in
theorem line39 (s : List UInt8) (hs : s.length ≤ 100000) : Calls Tryz.prog 39 #[.string ⟨s.toArray⟩] w fun e w' => LineR s e ∧ Kept [] w w' := by
  have hz : (⟨s.toArray⟩ : ByteArray).size = s.length := by simp [ByteArray.size]
  obtain ⟨R, HR⟩ : ∃ R, Hid (line1 s = R) := ⟨_, rfl⟩
  have HNm : Hid (∀ k : List UInt8, R = some (.nm k) → LineR s (.returned (.tuple #[.agg #[.int .i64 (-1), .int .i64 0], .string ⟨k.toArray⟩, .bool true]))) := fun k h => .nm k (by rw [HR.out, h]) rfl
  have HIn : Hid (∀ (op : Nat) (arg : Int), R = some (.ins op arg) → LineR s (.returned (.tuple #[.agg #[.int .i64 (op : Int), .int .i64 arg], .string ⟨#[]⟩, .bool true]))) := fun op arg h => .ins op arg (by rw [HR.out, h]) rfl
  have HBd : Hid (∀ (x y : Int) (t : List UInt8), R = none → LineR s (.returned (.tuple #[.agg #[.int .i64 x, .int .i64 y], .string ⟨t.toArray⟩, .bool false]))) := fun x y t h => .bad (by rw [HR.out, h]) x y t rfl
  generalize LineR s = L at *
  obtain ⟨W1, e1, k1, hz1, hb1⟩ := box1 w (.cells #[.int .i64 0, .int .i64 0] 53)
  obtain ⟨d0, d1⟩ := cells2 hb1
  obtain ⟨f0, f1⟩ := free2 hb1
  have HB1 := Hid.mk hb1
  have HK1 := Hid.mk k1
  have HG2 : Hid (∀ W W5, Kept [] W1 W → Kept [w.heap.size] W W5 → Kept [] w W5) := fun W W5 k k5 => (HK1.out.then k).trans k5 (fun y hy => by simp at hy; subst hy; exact .inr (Nat.le_refl _))
  clear hb1 k1 hz1
  have hcut5 : (⟨s.toArray⟩ : ByteArray).extract 0 5 = ⟨(s.take 5).toArray⟩ := by rw [cut_mid]; simp
  by_cases h5 : 5 ≤ s.length ∧ s.take 5 = nameB
  · have h5I : (5 : Int) ≤ (s.length : Int) := by omega
    have h5N : 5 ≤ s.length := h5.1
    have HU := Hid.mk (unhex66 (w := W1) (s.drop 5) (by rw [List.length_drop]; omega))
    have HR2 : Hid (R = (unhexK (s.drop 5)).map .nm) := by show _ = _; rw [← HR.out]; exact line1_unhex h5.2
    have hcut2 : (⟨s.toArray⟩ : ByteArray).extract 5 s.length = ⟨(s.drop 5).toArray⟩ := by rw [cut_mid, List.take_length]
    rw [h5.2] at hcut5
    have hcut5' : (⟨s.toArray⟩ : ByteArray).extract 0 5 = ⟨#[110, 97, 109, 101, 32]⟩ := hcut5
    clear hcut5 h5 HR
    generalize s.drop 5 = q at *
    go_enter Tryz.func39, Tryz.ntmps39
    go_wp2_with fail
    refine HU.out.mono ?_
    rintro e w2 ⟨hu, k2⟩
    have HK2 := Hid.mk k2
    obtain ⟨d0, d1⟩ := cells2 (k2.keeps HB1.out (by simp))
    obtain ⟨f0, f1⟩ := free2 (k2.keeps HB1.out (by simp))
    have HB2 := Hid.mk (k2.keeps HB1.out (by simp))
    clear k2
    rcases hu with ⟨k, hk, rfl⟩ | ⟨hk, k, rfl⟩
    · have HRk : Hid (R = some (.nm k)) := by show _ = _; rw [HR2.out, hk]; rfl
      clear HR2 hk
      go_wp2_with fail
      obtain ⟨W5, e5, k5, hb5⟩ := put2 HB2.out (.int .i64 (-1)) (.int .i64 0)
      rw [e5]
      clear e5
      refine bodyPost_ret (results_cell_row3 (p := 2) (u := 3) (u' := 4) (ty := 53) rfl _ _ w.heap.size 53 _ (0, 0) _ rfl hb5 Tryz.underlying53 rfl (by kernel_rfl) _ rfl _ rfl) rfl ?_
      exact ⟨HNm.out k HRk.out, HG2.out _ _ HK2.out k5⟩
    · have HRk : Hid (R = none) := by show _ = _; rw [HR2.out, hk]; rfl
      clear HR2 hk
      go_wp2_with fail
      obtain ⟨W5, e5, k5, hb5⟩ := put2 HB2.out (.int .i64 (-1)) (.int .i64 0)
      rw [e5]
      clear e5
      refine bodyPost_ret (results_cell_row3 (p := 2) (u := 3) (u' := 4) (ty := 53) rfl _ _ w.heap.size 53 _ (0, 0) _ rfl hb5 Tryz.underlying53 rfl (by kernel_rfl) _ rfl _ rfl) rfl ?_
      exact ⟨HBd.out _ _ k HRk.out, HG2.out _ _ HK2.out k5⟩
  have HR2 : Hid (R = lineG words 0 s) := by
    show _ = _
    rw [← HR.out]
    refine line1_words (fun e => h5 ⟨?_, e⟩)
    have := congrArg List.length e
    rw [List.length_take] at this
    have h9 : nameB.length = 5 := rfl
    omega
  clear HR
  by_cases h6 : 5 ≤ s.length
  case' pos =>
    have h6I : (5 : Int) ≤ (s.length : Int) := by omega
    have ts : (s.take 5 == [110, 97, 109, 101, 32]) = false := by
      simp only [beq_eq_false_iff_ne, ne_eq]
      exact fun e => h5 ⟨h6, e⟩
    clear h5
    generalize s.take 5 = q5 at *
    go_enter Tryz.func39, Tryz.ntmps39
    go_wp2_with fail
    clear ts hcut5
  case' neg =>
    have h6I : ¬ (5 : Int) ≤ (s.length : Int) := by omega
    clear h5 hcut5
    go_enter Tryz.func39, Tryz.ntmps39
    go_wp2_with fail
  all_goals
    clear h6 h6I
    generalize hgg : w.heap.size = g at *
    clear hgg
    go_loopw [29] (fun i wr => ∃ o : Nat, i = .int .i64 (o : Int) ∧ o ≤ 24 ∧ Hid (W1 = wr) ∧ Hid (R = lineG (words.drop o) o s)) (fun i _ => 24 - (intOf i).toNat)
    case atStart => exact ⟨0, rfl, by omega, Hid.mk rfl, Hid.mk HR2.out⟩
    case round =>
      obtain ⟨o, rfl, ho, HW, HL⟩ := hrel
      obtain rfl := HW.out
      clear HW HR2
      by_cases hlt : o < 24
      · have hoI : (o : Int) < 24 := by omega
        have hl : o < words.length := by rw [words_length]; omega
        obtain ⟨wd, k, hw⟩ : ∃ s k, words[o]? = some (s, k) := ⟨words[o].1, words[o].2, by rw [List.getElem?_eq_getElem hl]⟩
        have hwl := words_len _ (List.mem_of_getElem? hw)
        dsimp only at hwl
        have HC := Hid.mk (word28 (w := W1) hw)
        have hE := lineG_at (s := s) hw
        have HE := Hid.mk hE
        clear hE hw hl
        by_cases hk0 : k = 0
        · subst hk0
          by_cases hsw : s = wd
          · have HR3 : Hid (R = some (.ins o 0)) := by show _ = _; rw [HL.out, HE.out, if_pos ⟨rfl, hsw⟩]
            subst hsw
            clear HE HL
            go_wp2_with fail
            refine HC.out.mono ?_
            rintro e w2 ⟨rfl, rfl⟩
            go_wp2_with fail
            obtain ⟨W5, e5, k5, hb5⟩ := put2 HB1.out (.int .i64 (o : Int)) (.int .i64 0)
            rw [e5]
            clear e5
            refine bodyPost_ret (results_cell_row3 (p := 2) (u := 3) (u' := 4) (ty := 53) rfl _ _ g 53 _ (0, 0) _ rfl hb5 Tryz.underlying53 rfl (by kernel_rfl) _ rfl _ rfl) rfl ?_
            exact ⟨HIn.out o 0 HR3.out, HG2.out _ _ (Kept.refl [] _) k5⟩
          · have HR3 : Hid (R = lineG (words.drop (o + 1)) (o + 1) s) := by show _ = _; rw [HL.out, HE.out, if_neg (fun h => hsw h.2), if_neg (by omega)]
            have ts : (s == wd) = false := by simpa using hsw
            clear HE HL hsw
            go_wp2_with fail
            refine HC.out.mono ?_
            rintro e w2 ⟨rfl, rfl⟩
            go_wp2_with fail
            go_roundw
            case rel => exact ⟨o + 1, by go_num, by omega, by trivial, HR3⟩
            case measure => simp [intOf]; omega
        · have tk : ((k : Int) == 0) = false := by simpa using hk0
          have tp : (0 : Int) < (k : Int) := by omega
          have tp' : 0 < k := by omega
          by_cases hll : wd.length < s.length
          · have hllI : (wd.length : Int) < (s.length : Int) := by omega
            have szw := size_lit2 wd
            have szw2 := size_lit2 (wd ++ [32])
            have hcat : (⟨wd.toArray⟩ : ByteArray) ++ ⟨#[32]⟩ = ⟨(wd ++ [32]).toArray⟩ := by apply ByteArray.ext; simp
            have hc1 : (⟨s.toArray⟩ : ByteArray).extract 0 (wd.length + 1) = ⟨(s.take (wd.length + 1)).toArray⟩ := by rw [cut_mid]; simp
            have hc2 : (⟨s.toArray⟩ : ByteArray).extract (wd.length + 1) s.length = ⟨(s.drop (wd.length + 1)).toArray⟩ := by rw [cut_mid, List.take_length]
            have hlw : (wd ++ [32]).length ≤ 11 := by simp; omega
            have hi1 : (wd.length : Int) + 1 ≤ (s.length : Int) := by omega
            have hi2 : (0 : Int) ≤ (wd.length : Int) + 1 := by omega
            have hi3 : ((wd.length : Int) + 1).toNat = wd.length + 1 := by omega
            have hi4 : wd.length + 1 ≤ s.length := by omega
            have HI := Hid.mk (int67 (w := W1) (s.drop (wd.length + 1)) (by rw [List.length_drop]; omega))
            generalize s.drop (wd.length + 1) = dr at *
            generalize s.take (wd.length + 1) = tk1 at *
            generalize wd ++ [32] = wb at *
            by_cases htk : tk1 = wb
            · have HR3 : Hid (R = (intD dr).map (.ins o)) := by show _ = _; rw [HL.out, HE.out, if_neg (fun h => hk0 h.1), if_pos ⟨tp', htk⟩]
              subst htk
              clear HE HL
              go_wp2_with fail
              refine HC.out.mono ?_
              rintro e w2 ⟨rfl, rfl⟩
              go_wp2_with fail
              refine HI.out.mono ?_
              rintro e w2 ⟨hi, rfl⟩
              rcases hi with ⟨z, hi, rfl⟩ | ⟨hi, rfl⟩
              · have HR4 : Hid (R = some (.ins o z)) := by show _ = _; rw [HR3.out, hi]; rfl
                clear HR3 hi
                go_wp2_with fail
                obtain ⟨W5, e5, k5, hb5⟩ := put2 HB1.out (.int .i64 (o : Int)) (.int .i64 z)
                rw [e5]
                clear e5
                refine bodyPost_ret (results_cell_row3 (p := 2) (u := 3) (u' := 4) (ty := 53) rfl _ _ g 53 _ (0, 0) _ rfl hb5 Tryz.underlying53 rfl (by kernel_rfl) _ rfl _ rfl) rfl ?_
                exact ⟨HIn.out o z HR4.out, HG2.out _ _ (Kept.refl [] _) k5⟩
              · have HR4 : Hid (R = none) := by show _ = _; rw [HR3.out, hi]; rfl
                clear HR3 hi
                go_wp2_with fail
                obtain ⟨W5, e5, k5, hb5⟩ := put2 HB1.out (.int .i64 (o : Int)) (.int .i64 0)
                rw [e5]
                clear e5
                refine bodyPost_ret (results_cell_row3 (p := 2) (u := 3) (u' := 4) (ty := 53) rfl _ _ g 53 _ (0, 0) _ rfl hb5 Tryz.underlying53 rfl (by kernel_rfl) _ rfl _ rfl) rfl ?_
                exact ⟨HBd.out _ _ [] HR4.out, HG2.out _ _ (Kept.refl [] _) k5⟩
            · have HR3 : Hid (R = lineG (words.drop (o + 1)) (o + 1) s) := by show _ = _; rw [HL.out, HE.out, if_neg (fun h => hk0 h.1), if_neg (fun h => htk h.2)]
              have ts : (tk1 == wb) = false := by simpa using htk
              clear HE HL htk
              go_wp2_with fail
              refine HC.out.mono ?_
              rintro e w2 ⟨rfl, rfl⟩
              go_wp2_with fail
              go_roundw
              case rel => exact ⟨o + 1, by go_num, by omega, by trivial, HR3⟩
              case measure => simp [intOf]; omega
          · have hllI : ¬ (wd.length : Int) < (s.length : Int) := by omega
            have szw := size_lit2 wd
            have HR3 : Hid (R = lineG (words.drop (o + 1)) (o + 1) s) := by
              show _ = _
              rw [HL.out, HE.out, if_neg (fun h => hk0 h.1), if_neg]
              rintro ⟨-, h⟩
              have := congrArg List.length h
              rw [List.length_take, List.length_append] at this
              simp only [List.length_singleton] at this
              omega
            clear HE HL
            go_wp2_with fail
            refine HC.out.mono ?_
            rintro e w2 ⟨rfl, rfl⟩
            go_wp2_with fail
            go_roundw
            case rel => exact ⟨o + 1, by go_num, by omega, by trivial, HR3⟩
            case measure => simp [intOf]; omega
      · have hoI : ¬ (o : Int) < 24 := by omega
        have HR3 : Hid (R = none) := by show _ = _; rw [HL.out, List.drop_eq_nil_of_le (by rw [words_length]; omega)]; rfl
        clear HL
        go_wp2_with fail
        obtain ⟨W5, e5, k5, hb5⟩ := put2 HB1.out (.int .i64 0) (.int .i64 0)
        rw [e5]
        clear e5
        refine bodyPost_ret (results_cell_row3 (p := 2) (u := 3) (u' := 4) (ty := 53) rfl _ _ g 53 _ (0, 0) _ rfl hb5 Tryz.underlying53 rfl (by kernel_rfl) _ rfl _ rfl) rfl ?_
        exact ⟨HBd.out _ _ [] HR3.out, HG2.out _ _ (Kept.refl [] _) k5⟩
end
end Go.Proofs.YtibapmjgpnldgaaGreatDoor
