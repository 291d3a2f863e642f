import Derived.Test.YtibapmjgpnldgaaGreatDoorQ18
import Derived.Test.YtibapmjgpnldgaaGreatDoorQ23
/-
  Print.
-/
namespace Go.Proofs.YtibapmjgpnldgaaGreatDoor
open Go.RowKit
set_option maxRecDepth 100000
set_option linter.unusedVariables false
/-- What Print answers. -/
def printE (p : Pg) : Ending := if formedP p = true then .returned (.tuple #[.string ⟨(printP p).toArray⟩, .int .i64 0]) else .returned (.tuple #[.string ⟨#[]⟩, .int .i64 1])
theorem joinL_append (a b : List (List UInt8)) : joinL (a ++ b) = joinL a ++ joinL b := by simp [joinL]
theorem wline_len {s : List UInt8} {k : Nat} {arg : Int} (hs : s.length ≤ 10) (h : I64 arg) : (wline s k arg).length ≤ 111 := by
  unfold wline
  split
  · omega
  · have := itoa_len h; simp; omega
theorem words_len : ∀ x ∈ words, x.1.length ≤ 10 ∧ x.2 ≤ 5 := by decide
theorem iline_at {x : In} {i k : Nat} {s : List UInt8} (hx : x.op = (i : Int)) (hw : words[i]? = some (s, k)) : iline x = wline s k x.arg := by
  unfold iline; rw [hx, Int.toNat_natCast, hw]
theorem join_len {ls : List (List UInt8)} {m : Nat} (h : ∀ l ∈ ls, l.length ≤ m) : (joinL ls).length ≤ ls.length * (m + 1) := by
  induction ls with
  | nil => simp [joinL]
  | cons l ls ih =>
    have e : joinL (l :: ls) = l ++ [10] ++ joinL ls := by simp [joinL]
    have h1 := h l (by simp)
    have h2 := ih (fun x hx => h x (by simp [hx]))
    rw [e, List.length_cons, Nat.add_mul]
    simp
    omega
theorem nlines_len {ns : List (List UInt8)} (h : ∀ k ∈ ns, isKey k = true) : ∀ l ∈ ns.map (fun k => nameB ++ hexS k), l.length ≤ 111 := fun l hl => by
  obtain ⟨k, hk, rfl⟩ := List.mem_map.1 hl
  have := (isKey_iff _).1 (h k hk)
  simp [nameB, hexS_length]
  omega
theorem ilines_len {xs : List In} {nn nc : Nat} (h : ∀ x ∈ xs, okI nn nc x = true ∧ I64 x.arg) : ∀ l ∈ xs.map iline, l.length ≤ 111 := fun l hl => by
  obtain ⟨x, hx, rfl⟩ := List.mem_map.1 hl
  obtain ⟨i, s, k, e1, e2, -⟩ := okI_some (h x hx).1
  rw [iline_at e1 e2]
  exact wline_len (words_len _ (List.mem_of_getElem? e2)).1 (h x hx).2
section
variable {w : World}
set_option maxHeartbeats 1000000 in
theorem print10 {v u : Value} {p : Pg} (hP : IsP w v u p) (hG : Glob w) (hK : ∀ s ∈ p.names, s.length ≤ 9223372036854775807) (hO : OkP p) : Calls Tryz.prog 6 #[.agg #[v, u]] w fun e w' => e = printE p ∧ Kept [] w w' := by
  obtain ⟨a, c, b, d, rfl, rfl, hl1, hl2⟩ := hP.form
  obtain ⟨W0, e0, k0, hz0, hb0⟩ := box1 w (.cells #[.slice a p.names.length c, .slice b p.code.length d] 33)
  have HF := Hid.mk (formed13 (hP.keep k0) hK (hG.kept k0))
  obtain ⟨y0, y1⟩ := cells2 hb0
  have HK0 := Hid.mk k0
  have HB0 := Hid.mk hb0
  have HP := Hid.mk (hP.keep k0)
  have HG := Hid.mk (hG.kept k0)
  clear k0 hb0 hz0 hP hG
  unfold printE
  cases hf : formedP p with
  | false =>
    rw [hf] at HF
    rw [if_neg (by simp)]
    clear hf
    go_enter Tryz.func6, Tryz.ntmps6
    go_wp2_with fail
    refine HF.out.mono ?_
    rintro e w1 ⟨rfl, k1⟩
    go_wp2_with fail
    go_ret2
    exact ⟨rfl, HK0.out.then k1⟩
  | true =>
    rw [hf] at HF
    rw [if_pos rfl]
    obtain ⟨n1, n2, n3, n4⟩ := formed_parts hf
    have HN3 := Hid.mk n3
    have HN4 : Hid (∀ x ∈ p.code, okI p.names.length p.code.length x = true ∧ I64 x.arg) := fun x hx => ⟨n4 x hx, hO x hx⟩
    clear hf n3 n4 hK hO
    go_enter Tryz.func6, Tryz.ntmps6
    go_wp2_with fail
    refine HF.out.mono ?_
    rintro e w1 ⟨rfl, k1⟩
    have HKa := Hid.mk (HK0.out.then k1)
    have HPa := Hid.mk (HP.out.keep k1)
    have HGa := Hid.mk (HG.out.kept k1)
    obtain ⟨z0, z1⟩ := cells2 (k1.keeps HB0.out (by simp))
    have HB1 := Hid.mk (k1.keeps HB0.out (by simp))
    clear k1 y0 y1 HF HP HG HB0 HK0
    have HBd := Hid.mk (Bd.start w1)
    obtain ⟨W2, e2, k2, hz2, hb2⟩ := box1 w1 (.cells #[.pointer none, .slice none 0 0] 49)
    rw [e2] at HBd
    obtain ⟨x0, x1⟩ := cells2 (k2.keeps HB1.out (by simp))
    clear z0 z1 k2 hz2 hb2
    go_wp2_with fail
    generalize hgb : w1.heap.size = gb at *
    clear hgb
    generalize w.heap.size = g at *
    go_loopw [15] (fun i wr => ∃ j : Nat, i = .int .i64 (j : Int) ∧ j ≤ p.names.length ∧ Hid (Bd w1 gb (joinL ((p.names.take j).map fun k => nameB ++ hexS k)) wr)) (fun i _ => p.names.length - (intOf i).toNat)
    case atStart => exact ⟨0, rfl, by omega, by simpa [joinL] using HBd⟩
    case round =>
      obtain ⟨j, rfl, hj, HB⟩ := hrel
      have HKr := Hid.mk HB.out.kept
      obtain ⟨x2, x3⟩ := cells2 (HKr.out.keeps HB1.out (by simp))
      have hlen : (joinL ((p.names.take j).map fun k => nameB ++ hexS k)).length ≤ 1000 := by
        have := join_len (nlines_len (ns := p.names.take j) (fun k hk => HN3.out k (List.mem_of_mem_take hk)))
        simp only [List.length_map, List.length_take] at this
        omega
      by_cases hlt : j < p.names.length
      · obtain ⟨b1, o1, rfl, hc1⟩ := names_at (HPa.out.names.keep HKr.out) hlt
        have hjI : (j : Int) < (p.names.length : Int) := by omega
        have hj0 : (0 : Int) ≤ (j : Int) := by omega
        have hc1' : wr.cell? ⟨b1, o1 + j * 1, none⟩ = some (.string ⟨p.names[j].toArray⟩) := by rw [Nat.mul_one]; exact hc1
        have hk := (isKey_iff _).1 (HN3.out p.names[j] (List.getElem_mem hlt))
        have HC := Hid.mk (printName24 HB.out p.names[j] (by omega) (by omega))
        have HE : Hid (joinL ((p.names.take (j + 1)).map fun k => nameB ++ hexS k) = joinL ((p.names.take j).map fun k => nameB ++ hexS k) ++ (nameB ++ hexS p.names[j] ++ [10])) := by
          show _ = _
          rw [List.take_add_one, List.map_append, joinL_append]
          simp [joinL, hlt]
        clear hlen hk HN4
        generalize p.names[j] = nm at *
        go_wp2_with fail
        refine HC.out.mono ?_
        rintro e w2 ⟨rfl, h2⟩
        have HB2 := Hid.mk h2
        clear h2
        go_wp2_with fail
        go_roundw
        case rel => exact ⟨j + 1, by go_num, by omega, by rw [HE.out]; exact HB2⟩
        case measure => simp [intOf]; omega
      · have hje : ¬ (j : Int) < (p.names.length : Int) := by omega
        obtain rfl : j = p.names.length := by omega
        rw [List.take_length] at HB hlen
        have HL := Hid.mk hlen
        clear hlen
        go_wp2_with fail
        have e00 : joinL (p.names.map fun k => nameB ++ hexS k) = joinL (p.names.map fun k => nameB ++ hexS k) ++ joinL ((p.code.take 0).map iline) := by simp [joinL]
        go_loopw [25] (fun i wr => ∃ j : Nat, i = .int .i64 (j : Int) ∧ j ≤ p.code.length ∧ Hid (Bd w1 gb (joinL (p.names.map fun k => nameB ++ hexS k) ++ joinL ((p.code.take j).map iline)) wr)) (fun i _ => p.code.length - (intOf i).toNat)
        case atStart => exact ⟨0, rfl, by omega, by rw [← e00]; exact HB⟩
        case round =>
          obtain ⟨j, rfl, hj2, HBc⟩ := hrel
          have HKc := Hid.mk HBc.out.kept
          have hlen : (joinL ((p.code.take j).map iline)).length ≤ 50000 := by
            have := join_len (ilines_len (xs := p.code.take j) (nn := p.names.length) (nc := p.code.length) (fun x hx => HN4.out x (List.mem_of_mem_take hx)))
            simp only [List.length_map, List.length_take] at this
            omega
          by_cases hlt : j < p.code.length
          · obtain ⟨b1, o1, rfl, hc1, hc2⟩ := code_at (HPa.out.code.keep HKc.out) hlt
            have hjI : (j : Int) < (p.code.length : Int) := by omega
            have hj0 : (0 : Int) ≤ (j : Int) := by omega
            obtain ⟨q1, q2⟩ := HN4.out p.code[j] (List.getElem_mem hlt)
            obtain ⟨i, s, k, z1, z2, -⟩ := okI_some q1
            have hwl := words_len _ (List.mem_of_getElem? z2)
            obtain ⟨W3, e3, k3, hz3, hb3⟩ := box1 wr (.cells #[.int .i64 p.code[j].op, .int .i64 p.code[j].arg] 45)
            obtain ⟨t0, t1⟩ := cells2 hb3
            have HC := Hid.mk (printInstr25 (HBc.out.keep k3) HGa.out p.code[j] z1 z2 hwl.2 hwl.1 q2 (by rw [List.length_append]; have := HL.out; omega))
            have HE : Hid (joinL ((p.code.take (j + 1)).map iline) = joinL ((p.code.take j).map iline) ++ (wline s k p.code[j].arg ++ [10])) := by
              show _ = _
              rw [List.take_add_one, List.map_append, joinL_append]
              simp [joinL, hlt, iline_at z1 z2]
            clear hlen z1 z2 q1 q2 hwl k3 hz3 hb3
            generalize wline s k p.code[j].arg = ln at *
            generalize p.code[j].op = r1 at *
            generalize p.code[j].arg = r2 at *
            go_wp2_with fail
            refine HC.out.mono ?_
            rintro e w2 ⟨rfl, h2⟩
            have HB2 := Hid.mk h2
            clear h2
            go_wp2_with fail
            go_roundw
            case rel => exact ⟨j + 1, by go_num, by omega, by rw [HE.out]; simpa using HB2⟩
            case measure => simp [intOf]; omega
          · have hje2 : ¬ (j : Int) < (p.code.length : Int) := by omega
            obtain rfl : j = p.code.length := by omega
            rw [List.take_length] at HBc hlen
            have HX := Hid.mk (bd_text HBc.out)
            have HPr : Hid (joinL (p.names.map fun k => nameB ++ hexS k) ++ joinL (p.code.map iline) = printP p) := by
              show _ = _
              unfold printP plines
              rw [joinL_append]
            rw [HPr.out] at HX
            clear hlen HPr HBc HB HL HBd e00
            go_wp2_with fail
            refine HX.out.mono ?_
            rintro e w2 ⟨rfl, k2⟩
            go_wp2_with fail
            go_ret2
            exact ⟨rfl, HKa.out.then k2⟩
end
end Go.Proofs.YtibapmjgpnldgaaGreatDoor
