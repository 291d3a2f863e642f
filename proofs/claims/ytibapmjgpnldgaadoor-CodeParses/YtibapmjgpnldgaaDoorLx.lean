/-
  The document's Lines.
-/
import Derived.Test.YtibapmjgpnldgaaDoorNt
import Derived.Test.YtibapmjgpnldgaaDoorRo
namespace Go.Proofs.YtibapmjgpnldgaaDoor
open Go.RowKit
set_option maxRecDepth 100000
set_option linter.unusedVariables false
theorem split_count : ∀ (s cur : List UInt8), (splitG s cur).length ≤ s.length + (if cur = [] then 0 else 1)
  | [], cur => by
    unfold splitG
    by_cases h : cur = []
    · simp [h]
    · simp [h]
  | c :: s, cur => by
    unfold splitG
    by_cases h : c = 10
    · rw [if_pos h, List.length_cons, List.length_cons]
      have := split_count s []
      rw [if_pos rfl] at this
      omega
    · rw [if_neg h, List.length_cons]
      have := split_count s (cur ++ [c])
      rw [if_neg (by simp)] at this
      omega
theorem split_short : ∀ (s cur : List UInt8), ∀ l ∈ splitG s cur, l.length ≤ cur.length + s.length
  | [], cur => fun l hl => by
    unfold splitG at hl
    by_cases h : cur = []
    · simp [h] at hl
    · simp [h] at hl; subst hl; simp
  | c :: s, cur => fun l hl => by
    unfold splitG at hl
    by_cases h : c = 10
    · rw [if_pos h] at hl
      rcases List.mem_cons.1 hl with rfl | hl
      · simp
      · have := split_short s [] l hl
        simp at this ⊢
        omega
    · rw [if_neg h] at hl
      have := split_short s (cur ++ [c]) l hl
      simp at this ⊢
      omega
theorem lines_count (s : List UInt8) : (linesOf s).length ≤ s.length := by
  have := split_count s []
  rw [if_pos rfl] at this
  exact this
theorem lines_short (s : List UInt8) : ∀ l ∈ linesOf s, l.length ≤ s.length := fun l hl => by
  have := split_short s [] l hl
  simpa using this
section
variable {w : World}
set_option maxHeartbeats 4000000 in
theorem lines38 (s : List UInt8) (hs : s.length ≤ 100000) : Calls Tryd.prog 38 #[.string ⟨s.toArray⟩] w fun e w' => ∃ v, e = .returned v ∧ Out 9 1 w w' v (rowN (linesOf s)) := by
  have hz : (⟨s.toArray⟩ : ByteArray).size = s.length := by simp [ByteArray.size]
  obtain ⟨L, HL⟩ : ∃ L, Hid (linesOf s = L) := ⟨_, rfl⟩
  rw [HL.out]
  generalize hPP : (fun (e : Ending) (w' : World) => ∃ v, e = .returned v ∧ Out 9 1 w w' v (rowN L)) = PP
  have HP2 : Hid (∀ (W : World) (v : Value), Out 9 1 w W v (rowN L) → PP (.returned v) W) := fun W v h => by rw [← hPP]; exact ⟨v, rfl, h⟩
  clear hPP
  go_enter Tryd.func38, Tryd.ntmps38
  go_wp2_with fail
  go_loopw [3, 4, 5] (fun v f i wr => ∃ (j m : Nat) (X : List (List UInt8)) (cur : List UInt8), Hid (Out 9 1 w wr v (rowN X)) ∧ f = .int .i64 (m : Int) ∧ i = .int .i64 (j : Int) ∧ m ≤ j ∧ j ≤ s.length ∧ Hid (cur = (s.take j).drop m) ∧ Hid (L = X ++ splitG (s.drop j) cur) ∧ Hid (X.length ≤ j)) (fun _ _ i _ => s.length - (intOf i).toNat)
  case atStart => exact ⟨0, 0, [], [], Hid.mk (Out.nil (Kept.refl [] w)), rfl, rfl, by omega, by omega, Hid.mk (by simp), Hid.mk (by rw [← HL.out]; rfl), Hid.mk (by simp)⟩
  case round =>
    obtain ⟨j, m, X, cur, HO, rfl, rfl, hm, hj, HCu, HX, HXl⟩ := hrel
    by_cases hlt : j < s.length
    · have hjI : (j : Int) < (s.length : Int) := by omega
      have hj0 : (0 : Int) ≤ (j : Int) := by omega
      obtain ⟨c, hc⟩ : ∃ c, s[j]? = some c := ⟨s[j], by simp⟩
      have hA : ∀ h, (⟨s.toArray⟩ : ByteArray)[j]'h = c := fun h => byte_at hc h
      have hd : s.drop j = c :: s.drop (j + 1) := by
        obtain ⟨h1, h2⟩ := List.getElem?_eq_some_iff.1 hc
        rw [List.drop_eq_getElem_cons h1, h2]
      have htk : s.take (j + 1) = s.take j ++ [c] := by rw [List.take_add_one, hc]; rfl
      by_cases h10 : c = 10
      · subst h10
        have HX2 : Hid (L = (X ++ [cur]) ++ splitG (s.drop (j + 1)) []) := by
          show _ = _
          rw [HX.out, hd, splitG, if_pos rfl]
          simp
        have hcut : (⟨s.toArray⟩ : ByteArray).extract m j = ⟨cur.toArray⟩ := by rw [cut_mid, HCu.out]
        obtain ⟨ad, cc, w3, hrun, hO3⟩ := HO.out.more rt22 [.string ⟨cur.toArray⟩] rfl (by simp [Value.oneCell']) (by rw [rowN_length]; have := HXl.out; omega) 9 (0, 0) 22
        have e3 : rowN (X ++ [cur]) = rowN X ++ [[.string ⟨cur.toArray⟩]] := by simp [rowN]
        rw [← e3] at hO3
        have HO3 := Hid.mk hO3
        have HL3 : Hid ((X ++ [cur]).length ≤ j + 1) := by show _ ≤ _; rw [List.length_append]; have := HXl.out; simp; omega
        have HCu3 : Hid (([] : List UInt8) = (s.take (j + 1)).drop (j + 1)) := by show _ = _; simp
        generalize (rowN X).length + 1 = n3 at *
        have hmI : (m : Int) ≤ (j : Int) := by omega
        have hm0 : (0 : Int) ≤ (m : Int) := by omega
        have hjl : (j : Int) ≤ (s.length : Int) := by omega
        clear hc hd htk hO3 e3 HX HO HXl
        go_wp2_with (at_builtin; refine wpList_append_run 22 22 (.tmp 16) (.tmp 21) rfl (by rfl) _ _ rfl rfl _ _ hrun ?_)
        go_roundw
        case rel => exact ⟨j + 1, j + 1, X ++ [cur], [], HO3, by go_num, by go_num, by omega, by omega, HCu3, HX2, HL3⟩
        case measure => simp [intOf]; omega
      · have t1 : ((c.toNat : Int) == 10) = false := by
          simp only [beq_eq_false_iff_ne, ne_eq]
          intro e
          exact h10 (UInt8.toNat_inj.1 (show c.toNat = (10 : UInt8).toNat from by simpa using (by omega : c.toNat = 10)))
        have HX2 : Hid (L = X ++ splitG (s.drop (j + 1)) (cur ++ [c])) := by
          show _ = _
          rw [HX.out, hd, splitG, if_neg h10]
        have HCu3 : Hid (cur ++ [c] = (s.take (j + 1)).drop m) := by
          show _ = _
          rw [htk, HCu.out, List.drop_append_of_le_length (by rw [List.length_take]; omega)]
        have HL3 : Hid (X.length ≤ j + 1) := by show _ ≤ _; have := HXl.out; omega
        clear hc hd htk HX HXl h10
        go_wp2_with fail
        go_roundw
        case rel => exact ⟨j + 1, m, X, cur ++ [c], HO, rfl, by go_num, by omega, by omega, HCu3, HX2, HL3⟩
        case measure => simp [intOf]; omega
    · have hjI : ¬ (j : Int) < (s.length : Int) := by omega
      obtain rfl : j = s.length := by omega
      rw [List.take_length] at HCu
      by_cases hms : m < s.length
      · have hmI : (m : Int) < (s.length : Int) := by omega
        have hm0 : (0 : Int) ≤ (m : Int) := by omega
        have hne : cur ≠ [] := fun e => by
          have := congrArg List.length (HCu.out.symm.trans e)
          rw [List.length_drop] at this
          simp at this
          omega
        have HX2 : Hid (L = X ++ [cur]) := by
          show _ = _
          rw [HX.out, List.drop_length, splitG, if_neg hne]
        have hcut : (⟨s.toArray⟩ : ByteArray).extract m s.length = ⟨cur.toArray⟩ := by rw [cut_mid, HCu.out, List.take_length]
        obtain ⟨ad, cc, w3, hrun, hO3⟩ := HO.out.more rt22 [.string ⟨cur.toArray⟩] rfl (by simp [Value.oneCell']) (by rw [rowN_length]; have := HXl.out; omega) 9 (0, 0) 22
        have e3 : rowN (X ++ [cur]) = rowN X ++ [[.string ⟨cur.toArray⟩]] := by simp [rowN]
        rw [← e3, ← HX2.out] at hO3
        have HH := Hid.mk (HP2.out _ _ hO3)
        generalize (rowN X).length + 1 = n3 at *
        clear hO3 e3 HX HX2 HO HXl hne
        go_wp2_with (at_builtin; refine wpList_append_run 22 22 (.tmp 29) (.tmp 33) rfl (by rfl) _ _ rfl rfl _ _ hrun ?_)
        exact HH.out
      · have hmI : ¬ (m : Int) < (s.length : Int) := by omega
        have HX2 : Hid (L = X) := by
          show _ = _
          have e : cur = [] := by rw [HCu.out]; exact List.drop_eq_nil_of_le (by omega)
          rw [HX.out, List.drop_length, splitG, if_pos e, List.append_nil]
        have hO := HO.out
        rw [← HX2.out] at hO
        have HH := Hid.mk (HP2.out _ _ hO)
        clear hO HX HX2
        go_wp2_with fail
        exact HH.out
end
end Go.Proofs.YtibapmjgpnldgaaDoor
