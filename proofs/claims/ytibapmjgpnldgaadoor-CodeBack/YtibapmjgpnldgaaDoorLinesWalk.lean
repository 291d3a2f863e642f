/-
  CodeLines: the walk.
-/
import Derived.Test.YtibapmjgpnldgaaDoorAw
import Derived.Test.YtibapmjgpnldgaaDoorTh
import Derived.Test.YtibapmjgpnldgaaDoorPt
import Derived.Test.YtibapmjgpnldgaaDoorOp
namespace Go.Proofs.YtibapmjgpnldgaaDoor
open Go.RowKit
set_option maxRecDepth 100000
set_option linter.unusedVariables false
theorem itoa_len21 {z : Int} (h : I64 z) : (Go.Lib.itoa z).length ≤ 21 := by
  unfold I64 at h
  unfold Go.Lib.itoa
  split
  · have := dec_len z.natAbs 20 (by omega) (by omega)
    simp
    omega
  · have := dec_len z.toNat 20 (by omega) (by omega)
    omega
theorem ilines_len32 {xs : List In} {nn nc : Nat} (h : ∀ x ∈ xs, okI nn nc x = true ∧ I64 x.arg) : ∀ l ∈ xs.map iline, l.length ≤ 32 := fun l hl => by
  obtain ⟨x, hx, rfl⟩ := List.mem_map.1 hl
  obtain ⟨i, s, k, e1, e2, -⟩ := okI_some (h x hx).1
  rw [iline_at e1 e2]
  have h1 := (words_len _ (List.mem_of_getElem? e2)).1
  have h2 := itoa_len21 (h x hx).2
  dsimp only at h1
  unfold wline
  split
  · omega
  · simp; omega
theorem printP_len {p : Pg} (h : formedP p = true) (ho : OkP p) : (printP p).length ≤ 10000 := by
  obtain ⟨h1, h2, h3, h4⟩ := formed_parts h
  unfold printP plines
  rw [joinL_append, List.length_append]
  have a := join_len (nlines_len h3)
  have b := join_len (ilines_len32 (xs := p.code) (nn := p.names.length) (nc := p.code.length) (fun x hx => ⟨h4 x hx, ho x hx⟩))
  simp only [List.length_map] at a b
  omega
/-- A line feed behind a line that is none. -/
theorem line_alone {line : List UInt8} (hl : 10 ∉ line) (n : Nat) (h : parseP (line ++ [10]) = .inl n) (h1 : n = 1) : line1 line = none := by
  subst h1
  have e : linesOf (line ++ [10]) = [line] := by
    unfold linesOf
    rw [split_line [] [] hl]
    rfl
  unfold parseP at h
  rw [e, parseF] at h
  cases e1 : line1 line with
  | none => rfl
  | some x =>
    rw [e1] at h
    simp only [parseF] at h
    split at h <;> simp at h
section
variable {w : World}
set_option maxHeartbeats 4000000 in
theorem lines_walk {v : Value} {p : Pg} (hP : PgIn w v p) (hG : Glob w) (l b : List UInt8) (hl : l.length ≤ 9223372036854775807) (hb : b.length ≤ 9223372036854775807) : Calls Tryd.prog 7 #[v, .string ⟨l.toArray⟩, .string ⟨b.toArray⟩] w fun e w' => e = .returned (.bool true) ∧ Kept [] w w' := by
  have hzl : (⟨l.toArray⟩ : ByteArray).size = l.length := by simp [ByteArray.size]
  have hzb : (⟨b.toArray⟩ : ByteArray).size = b.length := by simp [ByteArray.size]
  obtain ⟨⟨v1, u1, rfl, hI⟩, hK, hC⟩ := hP
  have hO : OkP p := fun x hx => (hC x hx).2
  obtain ⟨av, cv, bv, dv, rfl, rfl, -, -⟩ := hI.form
  obtain ⟨W0, e0, k0, hz0, hb0⟩ := box1 w (.cells #[.slice av p.names.length cv, .slice bv p.code.length dv] 25)
  have HAw : Hid (∀ W, Kept [] W0 W → Calls Tryd.prog 8 #[] W fun e w' => e = .returned (.bool true) ∧ Kept [] W w') := fun W k => awake8 (hG.kept (k0.then k))
  have HFw : Hid (∀ W, Kept [] W0 W → Calls Tryd.prog 9 #[.agg #[.slice av p.names.length cv, .slice bv p.code.length dv]] W fun e w' => FewAt p e ∧ Kept [] W w') := fun W k => few9 (hI.keep (k0.then k)) hK
  have HTh : Hid (∀ W, Kept [] W0 W → p.names.length ≤ 1000 → p.code.length ≤ 1000 → Calls Tryd.prog 11 #[.agg #[.slice av p.names.length cv, .slice bv p.code.length dv]] W fun e w' => ∃ v' u', e = .returned (.agg #[v', u']) ∧ IsP w' v' u' p ∧ Kept [] W w') := fun W k h1 h2 => theirs11 (hI.keep (k0.then k)) h1 h2
  have HPr : Hid (∀ (v' u' : Value) W, Kept [] W0 W → IsP W v' u' p → Calls Tryd.prog 10 #[.agg #[v', u']] W fun e w' => e = printE p ∧ Kept [] W w') := fun v' u' W k h => print10 h (hG.kept (k0.then k)) hK hO
  have HPa : Hid (∀ (s : List UInt8) W, Kept [] W0 W → s.length ≤ 100000 → Calls Tryd.prog 17 #[.string ⟨s.toArray⟩] W fun e w' => ParseR s w' e ∧ Kept [] W w') := fun s W k h => parse17 (hG.kept (k0.then k)) s (by omega)
  obtain ⟨y0, y1⟩ := cells2 hb0
  have HB0 := Hid.mk hb0
  have HK0 := Hid.mk k0
  have HO := Hid.mk hO
  clear k0 hb0 hz0 hI hK hC hG hO
  go_enter Tryd.func7, Tryd.ntmps7
  go_wp2_with fail
  refine (HAw.out W0 (Kept.refl [] W0)).mono ?_
  rintro e w1 ⟨rfl, k1⟩
  have HK1 := Hid.mk k1
  obtain ⟨y2, y3⟩ := cells2 (k1.keeps HB0.out (by simp))
  clear k1 y0 y1
  go_wp2_with fail
  refine (HFw.out w1 HK1.out).mono ?_
  rintro e w2 ⟨hf, k2⟩
  have HK2 := Hid.mk (HK1.out.then k2)
  obtain ⟨y0, y1⟩ := cells2 (k2.keeps (HK1.out.keeps HB0.out (by simp)) (by simp))
  clear k2 y2 y3
  rcases hf with ⟨rfl, q1, q2, q3⟩ | rfl
  · by_cases h1 : 1000 < l.length
    · have h1I : (1000 : Int) < (l.length : Int) := by omega
      go_wp2_with fail
      refine (HAw.out w2 HK2.out).mono ?_
      rintro e w3 ⟨rfl, k3⟩
      go_wp2_with fail
      go_ret
      exact ⟨rfl, (HK0.out.then HK2.out).then k3⟩
    have h1I : ¬ (1000 : Int) < (l.length : Int) := by omega
    by_cases h2 : 5000 < b.length
    · have h2I : (5000 : Int) < (b.length : Int) := by omega
      go_wp2_with fail
      refine (HAw.out w2 HK2.out).mono ?_
      rintro e w3 ⟨rfl, k3⟩
      go_wp2_with fail
      go_ret
      exact ⟨rfl, (HK0.out.then HK2.out).then k3⟩
    have h2I : ¬ (5000 : Int) < (b.length : Int) := by omega
    go_wp2_with fail
    refine (HTh.out w2 HK2.out (by omega) (by omega)).mono ?_
    rintro e w3 ⟨v', u', rfl, hI', k3⟩
    have HK3 := Hid.mk (HK2.out.then k3)
    have HI' := Hid.mk hI'
    have HB3 := Hid.mk (HK3.out.keeps HB0.out (by simp))
    clear k3 hI' y0 y1
    go_wp2_with fail
    refine (HPr.out v' u' w3 HK3.out HI'.out).mono ?_
    rintro e w4 ⟨he, k4⟩
    have HK4 := Hid.mk (HK3.out.then k4)
    have HB4 := Hid.mk (k4.keeps HB3.out (by simp))
    clear k4 HI' HB3
    obtain ⟨st, er, rfl, HE⟩ : ∃ (st : List UInt8) (er : Int), e = .returned (.tuple #[.string ⟨st.toArray⟩, .int .i64 er]) ∧ Hid (er = 0 → formedP p = true ∧ st = printP p) ∧ st.length ≤ 10000 := by
      unfold printE at he
      cases hf : formedP p with
      | true =>
        rw [hf, if_pos rfl] at he
        exact ⟨_, _, he, Hid.mk (fun _ => ⟨rfl, rfl⟩), printP_len hf HO.out⟩
      | false =>
        rw [hf, if_neg (by simp)] at he
        exact ⟨[], 1, he, Hid.mk (fun h => by cases h), by simp⟩
    clear he
    have hcat : (⟨l.toArray⟩ : ByteArray) ++ ⟨#[10]⟩ = ⟨(l ++ [10]).toArray⟩ := by
      apply ByteArray.ext
      simp
    go_wp2_with fail
    go_loopw [42] (fun i wr => ∃ j : Nat, i = .int .i64 (j : Int) ∧ j ≤ l.length ∧ Hid (w4 = wr) ∧ Hid (∀ i, i < j → l[i]? ≠ some 10)) (fun i _ => l.length - (intOf i).toNat)
    case atStart => exact ⟨0, rfl, by omega, Hid.mk rfl, Hid.mk (fun _ h => by omega)⟩
    case round =>
      obtain ⟨j, rfl, hj, HW, HJ⟩ := hrel
      obtain rfl := HW.out
      clear HW
      by_cases hlt : j < l.length
      · have hjI : (j : Int) < (l.length : Int) := by omega
        have hj0 : (0 : Int) ≤ (j : Int) := by omega
        obtain ⟨c, hc⟩ : ∃ c, l[j]? = some c := ⟨l[j], by simp⟩
        have hA : ∀ h, (⟨l.toArray⟩ : ByteArray)[j]'h = c := fun h => byte_at hc h
        have HC := Hid.mk hc
        clear hc
        by_cases h10 : c = 10
        · subst h10
          go_wp2_with fail
          go_ret
          exact ⟨rfl, HK0.out.then HK4.out⟩
        · have t1 : ((c.toNat : Int) == 10) = false := by
            simp only [beq_eq_false_iff_ne, ne_eq]
            intro e
            exact h10 (UInt8.toNat_inj.1 (show c.toNat = (10 : UInt8).toNat from by simpa using (by omega : c.toNat = 10)))
          go_wp2_with fail
          go_roundw
          case rel => exact ⟨j + 1, by go_num, by omega, by trivial, Hid.mk (fun i hi he => by
            by_cases e : i = j
            · subst e; rw [HC.out] at he; simp at he; exact h10 he
            · exact HJ.out i (by omega) he)⟩
          case measure => simp [intOf]; omega
      · have hje : ¬ (j : Int) < (l.length : Int) := by omega
        have HNo : Hid (10 ∉ l) := fun hm => by
          obtain ⟨i, hi, e⟩ := List.getElem_of_mem hm
          exact HJ.out i (by omega) (by rw [List.getElem?_eq_getElem hi, e])
        clear HJ
        go_wp2_with fail
        refine (HPa.out (l ++ [10]) w4 HK4.out (by simp; omega)).mono ?_
        rintro e w5 ⟨hp, k5⟩
        have HK5 := Hid.mk (HK4.out.then k5)
        have HB5 := Hid.mk (k5.keeps HB4.out (by simp))
        clear k5
        obtain ⟨a1, x1, c1, b1, x2, c2, n1, f1, rfl, HP1⟩ : ∃ (a1 : Option Addr) (x1 c1 : Nat) (b1 : Option Addr) (x2 c2 : Nat) (n1 : Nat) (f1 : Int), e = .returned (.tuple #[.agg #[.slice a1 x1 c1, .slice b1 x2 c2], .int .i64 n1, .int .i64 f1]) ∧ Hid (f1 = 2 → n1 = 1 → line1 l = none) := by
          rcases hp with ⟨h, he⟩ | ⟨h, n, hn, he⟩ | ⟨h, p, v, u, hp, hi, he⟩
          · exact ⟨_, _, _, _, _, _, 0, _, he, Hid.mk (fun h => by cases h)⟩
          · exact ⟨_, _, _, _, _, _, n, _, he, Hid.mk (fun _ h => line_alone HNo.out n hn h)⟩
          · obtain ⟨a1, c1, b1, d1, rfl, rfl, -, -⟩ := hi.form
            exact ⟨_, _, _, _, _, _, 0, _, he, Hid.mk (fun h => by cases h)⟩
        clear hp
        obtain ⟨W6, e6, k6, hz6, hb6⟩ := box1 w5 (.cells #[.slice a1 x1 c1, .slice b1 x2 c2] 33)
        have HK6 := Hid.mk (HK5.out.then k6)
        have HB6 := Hid.mk (k6.keeps HB5.out (by simp))
        clear hz6 hb6 k6
        by_cases her : er = 0
        case neg =>
          have t1 : (er != 0) = true := by simpa using her
          go_wp2_with fail
          go_ret
          exact ⟨rfl, HK0.out.then HK6.out⟩
        subst her
        by_cases hf1 : f1 = 2
        case neg =>
          have t1 : (f1 != 2) = true := by simpa using hf1
          go_wp2_with fail
          go_ret
          exact ⟨rfl, HK0.out.then HK6.out⟩
        subst hf1
        by_cases hn1 : n1 = 1
        case neg =>
          have t1 : ((n1 : Int) != 1) = true := by simp; omega
          go_wp2_with fail
          go_ret
          exact ⟨rfl, HK0.out.then HK6.out⟩
        subst hn1
        obtain ⟨hfm, hst⟩ := HE.1.out rfl
        have hln := HP1.out rfl rfl
        have HBe : Hid (parseP (st ++ l ++ [10] ++ b) = .inl (p.names.length + p.code.length + 1)) := by
          show _ = _
          have := parse_behind hfm HO.out (behind := b) HNo.out hln
          rw [← hst] at this
          simpa using this
        have hs3 := HE.2
        have hcat2 : ((⟨st.toArray⟩ : ByteArray) ++ ⟨l.toArray⟩) = ⟨(st ++ l).toArray⟩ := by apply ByteArray.ext; simp
        have hcat3 : ((⟨(st ++ l).toArray⟩ : ByteArray) ++ ⟨#[10]⟩) = ⟨(st ++ l ++ [10]).toArray⟩ := by apply ByteArray.ext; simp
        have hcat4 : ((⟨(st ++ l ++ [10]).toArray⟩ : ByteArray) ++ ⟨b.toArray⟩) = ⟨(st ++ l ++ [10] ++ b).toArray⟩ := by apply ByteArray.ext; simp
        clear hfm hst hln HE HP1 HNo hcat
        have HPb := Hid.mk (HPa.out (st ++ l ++ [10] ++ b) W6 HK6.out (by simp only [List.length_append, List.length_singleton]; omega))
        have htx : (st ++ l ++ [10] ++ b).length ≤ 20000 := by simp only [List.length_append, List.length_singleton]; omega
        have hx3 : (st ++ l ++ [10]).length ≤ 20000 := by simp only [List.length_append, List.length_singleton]; omega
        have hx2 : (st ++ l).length ≤ 20000 := by simp only [List.length_append]; omega
        have hzt3 : (⟨(st ++ l ++ [10]).toArray⟩ : ByteArray).size = (st ++ l ++ [10]).length := by simp [ByteArray.size]
        have hzt2 : (⟨(st ++ l).toArray⟩ : ByteArray).size = (st ++ l).length := by simp [ByteArray.size]
        generalize (st ++ l ++ [10] ++ b) = tx at *
        generalize (st ++ l ++ [10]) = tx3 at *
        generalize (st ++ l) = tx2 at *
        go_wp2_with fail
        refine HPb.out.mono ?_
        rintro e w7 ⟨hp, k7⟩
        obtain rfl : e = .returned (.tuple #[.agg #[.slice none 0 0, .slice none 0 0], .int .i64 ((p.names.length + p.code.length + 1 : Nat) : Int), .int .i64 2]) := by
          rcases hp with ⟨h, he⟩ | ⟨h, n, hn, he⟩ | ⟨h, p, v, u, hp, hi, he⟩
          · omega
          · rw [HBe.out] at hn
            simp only [Sum.inl.injEq] at hn
            rw [he, hn]
          · rw [HBe.out] at hp
            cases hp
        clear hp
        have HK7 := Hid.mk (HK6.out.then k7)
        have hb7 := k7.keeps HB6.out (by simp)
        obtain ⟨z0, z1⟩ := cells2 hb7
        have hlt7 : w.heap.size < w7.heap.size := lt_of_block hb7
        have tt : ((p.names.length : Int) + (p.code.length : Int) + 1 == (p.names.length : Int) + (p.code.length : Int) + 1) = true := by simp
        clear k7 hb7
        go_wp2_with fail
        go_ret
        exact ⟨rfl, (HK0.out.then HK7.out).alloc _⟩
  · go_wp2_with fail
    refine (HAw.out w2 HK2.out).mono ?_
    rintro e w3 ⟨rfl, k3⟩
    go_wp2_with fail
    go_ret
    exact ⟨rfl, (HK0.out.then HK2.out).then k3⟩
end
end Go.Proofs.YtibapmjgpnldgaaDoor
