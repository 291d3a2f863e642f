/-
  The document's Print.
-/
import Derived.Test.YtibapmjgpnldgaaDoorHx
import Derived.Test.YtibapmjgpnldgaaDoorFr
namespace Go.Proofs.YtibapmjgpnldgaaDoor
open Go.RowKit
set_option maxRecDepth 100000
set_option linter.unusedVariables false
theorem cat_lit (a : List UInt8) (b : List UInt8) : (⟨a.toArray⟩ : ByteArray) ++ ⟨b.toArray⟩ = ⟨(a ++ b).toArray⟩ := by apply ByteArray.ext; simp
theorem size_lit (a : List UInt8) : (⟨a.toArray⟩ : ByteArray).size = a.length := by simp [ByteArray.size]
section
variable {w : World}
set_option maxHeartbeats 4000000 in
theorem print12 {v u : Value} {p : Pg} (hP : IsP w v u p) (hG : Glob w) (hK : ∀ s ∈ p.names, s.length ≤ 9223372036854775807) (hO : OkP p) : Calls Tryd.prog 12 #[.agg #[v, u]] w fun e w' => e = printE p ∧ Kept [] w w' := by
  obtain ⟨a, c, b, d, rfl, rfl, hl1, hl2⟩ := hP.form
  obtain ⟨W0, e0, k0, hz0, hb0⟩ := box1 w (.cells #[.slice a p.names.length c, .slice b p.code.length d] 25)
  have HF := Hid.mk (formed14 (hP.keep k0) hK)
  obtain ⟨y0, y1⟩ := cells2 hb0
  have HK0 := Hid.mk k0
  have HB0 := Hid.mk hb0
  have HP := Hid.mk (hP.keep k0)
  have HG := Hid.mk (hG.kept k0)
  clear k0 hb0 hz0 hP hG
  unfold printE
  cases hf : formedP p with
  | false =>
    rw [hf] at HF
    rw [if_neg (by simp)]
    clear hf
    go_enter Tryd.func12, Tryd.ntmps12
    go_wp2_with fail
    refine HF.out.mono ?_
    rintro e w1 ⟨rfl, k1⟩
    go_wp2_with fail
    go_ret2
    exact ⟨rfl, HK0.out.then k1⟩
  | true =>
    rw [hf] at HF
    rw [if_pos rfl]
    obtain ⟨n1, n2, n3, n4⟩ := formed_parts hf
    have HN3 := Hid.mk n3
    have HN4 : Hid (∀ x ∈ p.code, okI p.names.length p.code.length x = true ∧ I64 x.arg) := fun x hx => ⟨n4 x hx, hO x hx⟩
    clear hf n3 n4 hK hO
    go_enter Tryd.func12, Tryd.ntmps12
    go_wp2_with fail
    refine HF.out.mono ?_
    rintro e w1 ⟨rfl, k1⟩
    have HKa := Hid.mk (HK0.out.then k1)
    have HPa := Hid.mk (HP.out.keep k1)
    have HGa := Hid.mk (HG.out.kept k1)
    have HB1 := Hid.mk (k1.keeps HB0.out (by simp))
    obtain ⟨z0, z1⟩ := cells2 HB1.out
    clear k1 y0 y1 HF HP HG HB0 HK0
    go_wp2_with fail
    generalize w.heap.size = g at *
    go_loopw [4, 15] (fun x i wr => ∃ (j : Nat) (tx : List UInt8), i = .int .i64 (j : Int) ∧ x = .string ⟨tx.toArray⟩ ∧ j ≤ p.names.length ∧ Hid (tx = joinL ((p.names.take j).map fun k => nameB ++ hexS k)) ∧ Hid (Kept [] w1 wr)) (fun _ i _ => p.names.length - (intOf i).toNat)
    case atStart => exact ⟨0, [], rfl, rfl, by omega, Hid.mk (by simp [joinL]), Hid.mk (Kept.refl [] w1)⟩
    case round =>
      obtain ⟨j, tx, rfl, rfl, hj, HT, HKr⟩ := hrel
      clear z0 z1
      obtain ⟨z0, z1⟩ := cells2 (HKr.out.keeps HB1.out (by simp))
      have hlen : tx.length ≤ 1000 := by
        rw [HT.out]
        have := join_len (nlines_len (ns := p.names.take j) (fun k hk => HN3.out k (List.mem_of_mem_take hk)))
        simp only [List.length_map, List.length_take] at this
        omega
      by_cases hlt : j < p.names.length
      · obtain ⟨b1, o1, rfl, hc1⟩ := names_at (HPa.out.names.keep HKr.out) hlt
        have hjI : (j : Int) < (p.names.length : Int) := by omega
        have hj0 : (0 : Int) ≤ (j : Int) := by omega
        have hk := (isKey_iff _).1 (HN3.out p.names[j] (List.getElem_mem hlt))
        have HC := Hid.mk (hex27 (w := wr) p.names[j] (by omega))
        have hhx : (hexS p.names[j]).length ≤ 80 := by rw [hexS_length]; omega
        have HE : Hid (tx ++ nameB ++ hexS p.names[j] ++ [10] = joinL ((p.names.take (j + 1)).map fun k => nameB ++ hexS k)) := by
          show _ = _
          rw [List.take_add_one, List.map_append, joinL_append, HT.out]
          simp [joinL, hlt]
        generalize hexS p.names[j] = hx at *
        generalize p.names[j] = nm at *
        have c1 : (⟨tx.toArray⟩ : ByteArray) ++ ⟨#[110, 97, 109, 101, 32]⟩ = ⟨(tx ++ nameB).toArray⟩ := cat_lit tx nameB
        have c2 := cat_lit (tx ++ nameB) hx
        have c3 : (⟨(tx ++ nameB ++ hx).toArray⟩ : ByteArray) ++ ⟨#[10]⟩ = ⟨(tx ++ nameB ++ hx ++ [10]).toArray⟩ := cat_lit _ [10]
        have s0 := size_lit tx
        have s1 := size_lit (tx ++ nameB)
        have s2 := size_lit (tx ++ nameB ++ hx)
        have s3 := size_lit hx
        have l1 : (tx ++ nameB).length ≤ 2000 := by simp [nameB]; omega
        have l2 : (tx ++ nameB ++ hx).length ≤ 2000 := by rw [List.length_append]; simp [nameB]; omega
        clear hk
        generalize tx ++ nameB ++ hx ++ [10] = t3 at *
        generalize tx ++ nameB ++ hx = t2 at *
        generalize tx ++ nameB = t1 at *
        go_wp2_with fail
        refine HC.out.mono ?_
        rintro e w2 ⟨rfl, k2⟩
        have HK2 := Hid.mk (HKr.out.then k2)
        clear k2
        go_wp2_with fail
        go_roundw
        case rel => exact ⟨j + 1, t3, by go_num, rfl, by omega, HE, HK2⟩
        case measure => simp [intOf]; omega
      · have hje : ¬ (j : Int) < (p.names.length : Int) := by omega
        obtain rfl : j = p.names.length := by omega
        rw [List.take_length] at HT
        have HL := Hid.mk hlen
        clear hlen
        go_wp2_with fail
        go_loopw [4, 32] (fun x i wr => ∃ (j : Nat) (ty : List UInt8), i = .int .i64 (j : Int) ∧ x = .string ⟨ty.toArray⟩ ∧ j ≤ p.code.length ∧ Hid (ty = tx ++ joinL ((p.code.take j).map iline)) ∧ Hid (Kept [] w1 wr)) (fun _ i _ => p.code.length - (intOf i).toNat)
        case atStart => exact ⟨0, tx, rfl, rfl, by omega, Hid.mk (by simp [joinL]), HKr⟩
        case round =>
          clear z0 z1 HKr
          obtain ⟨j, ty, rfl, rfl, hj2, HY, HKr⟩ := hrel
          obtain ⟨z0, z1⟩ := cells2 (HKr.out.keeps HB1.out (by simp))
          by_cases hlt : j < p.code.length
          · obtain ⟨b1, o1, rfl, hc1, hc2⟩ := code_at (HPa.out.code.keep HKr.out) hlt
            have hjI : (j : Int) < (p.code.length : Int) := by omega
            have hj0 : (0 : Int) ≤ (j : Int) := by omega
            have hlen : ty.length ≤ 60000 := by
              rw [HY.out, List.length_append]
              have := join_len (ilines_len (xs := p.code.take j) (nn := p.names.length) (nc := p.code.length) (fun x hx => HN4.out x (List.mem_of_mem_take hx)))
              simp only [List.length_map, List.length_take] at this
              have := HL.out
              omega
            obtain ⟨q1, q2⟩ := HN4.out p.code[j] (List.getElem_mem hlt)
            obtain ⟨i, s, k, o3, o4, -⟩ := okI_some q1
            have hwl := words_len _ (List.mem_of_getElem? o4)
            dsimp only at hwl
            have HC := Hid.mk (word28 (w := wr) o4)
            have HFi : Hid (∀ V, Kept [] w1 V → Calls Tryd.prog 29 #[.int .i64 p.code[j].arg, .int .i64 10] V fun e w' => e = .returned (.string ⟨(Go.Lib.itoa p.code[j].arg).toArray⟩) ∧ Kept [] V w') := fun V k => (strconv_FormatInt_10 p.code[j].arg q2.1 q2.2 V (HGa.out.kept k).tab).mono fun e w' h => ⟨h.1, grown_kept h.2⟩
            have hit : (Go.Lib.itoa p.code[j].arg).length ≤ 100 := itoa_len q2
            have HE : Hid (ty ++ (wline s k p.code[j].arg ++ [10]) = tx ++ joinL ((p.code.take (j + 1)).map iline)) := by
              show _ = _
              rw [List.take_add_one, List.map_append, joinL_append, HY.out]
              simp [joinL, hlt, iline_at o3 o4]
            rw [o3] at hc1
            have c1 := cat_lit ty s
            have s0 := size_lit ty
            have s1 := size_lit s
            have s2 := size_lit (ty ++ s)
            have l2 : (ty ++ s).length ≤ 61000 := by rw [List.length_append]; omega
            clear o3 o4 q1 q2
            by_cases hk0 : k = 0
            · have t0 : ¬ (0 : Int) < (k : Int) := by omega
              have t0' : ¬ 0 < k := by omega
              have e9 : wline s k p.code[j].arg = s := by unfold wline; rw [if_pos hk0]
              rw [e9, ← List.append_assoc] at HE
              have c3 : (⟨(ty ++ s).toArray⟩ : ByteArray) ++ ⟨#[10]⟩ = ⟨(ty ++ s ++ [10]).toArray⟩ := cat_lit _ [10]
              clear e9 hk0 HFi hit
              generalize p.code[j].arg = q2 at *
              generalize ty ++ s ++ [10] = t3 at *
              generalize ty ++ s = t2 at *
              go_wp2_with fail
              refine HC.out.mono ?_
              rintro e w2 ⟨rfl, rfl⟩
              go_wp2_with fail
              go_roundw
              case rel => exact ⟨j + 1, t3, by go_num, rfl, by omega, HE, HKr⟩
              case measure => simp [intOf]; omega
            · have t0 : (0 : Int) < (k : Int) := by omega
              have t0' : 0 < k := by omega
              have e9 : wline s k p.code[j].arg = s ++ 32 :: Go.Lib.itoa p.code[j].arg := by unfold wline; rw [if_neg hk0]
              have e8 : ty ++ (wline s k p.code[j].arg ++ [10]) = ty ++ s ++ [32] ++ Go.Lib.itoa p.code[j].arg ++ [10] := by rw [e9]; simp
              rw [e8] at HE
              generalize p.code[j].arg = q2 at *
              generalize Go.Lib.itoa q2 = it at *
              have c2 : (⟨(ty ++ s).toArray⟩ : ByteArray) ++ ⟨#[32]⟩ = ⟨(ty ++ s ++ [32]).toArray⟩ := cat_lit _ [32]
              have c3 := cat_lit (ty ++ s ++ [32]) it
              have c4 : (⟨(ty ++ s ++ [32] ++ it).toArray⟩ : ByteArray) ++ ⟨#[10]⟩ = ⟨(ty ++ s ++ [32] ++ it ++ [10]).toArray⟩ := cat_lit _ [10]
              have s3 := size_lit (ty ++ s ++ [32])
              have s4 := size_lit it
              have s5 := size_lit (ty ++ s ++ [32] ++ it)
              have l3 : (ty ++ s ++ [32]).length ≤ 61001 := by rw [List.length_append]; simp only [List.length_singleton]; omega
              have l4 : (ty ++ s ++ [32] ++ it).length ≤ 61200 := by rw [List.length_append]; omega
              clear e9 e8 hk0
              generalize ty ++ s ++ [32] ++ it ++ [10] = t5 at *
              generalize ty ++ s ++ [32] ++ it = t4 at *
              generalize ty ++ s ++ [32] = t3 at *
              generalize ty ++ s = t2 at *
              go_wp2_with fail
              refine HC.out.mono ?_
              rintro e w2 ⟨rfl, rfl⟩
              go_wp2_with fail
              refine (HFi.out wr HKr.out).mono ?_
              rintro e w3 ⟨rfl, k3⟩
              have HK3 := Hid.mk (HKr.out.then k3)
              clear k3
              go_wp2_with fail
              go_roundw
              case rel => exact ⟨j + 1, t5, by go_num, rfl, by omega, HE, HK3⟩
              case measure => simp [intOf]; omega
          · have hje2 : ¬ (j : Int) < (p.code.length : Int) := by omega
            obtain rfl : j = p.code.length := by omega
            have HPr : Hid (ty = printP p) := by
              show _ = _
              rw [HY.out, HT.out, List.take_length]
              unfold printP plines
              rw [joinL_append]
            clear HY HT
            obtain rfl := HPr.out
            clear HPr
            go_wp2_with fail
            go_ret2
            exact ⟨rfl, HKa.out.then HKr.out⟩
end
end Go.Proofs.YtibapmjgpnldgaaDoor
