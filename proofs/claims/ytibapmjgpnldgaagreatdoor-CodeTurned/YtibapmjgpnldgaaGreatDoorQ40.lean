import Derived.Test.YtibapmjgpnldgaaGreatDoorQ22
import Derived.Test.YtibapmjgpnldgaaGreatDoorQ33
import Derived.Test.YtibapmjgpnldgaaGreatDoorQ38
import Derived.Test.YtibapmjgpnldgaaGreatDoorQ39
/-
  The document's Parse.
-/
namespace Go.Proofs.YtibapmjgpnldgaaGreatDoor
open Go.RowKit
set_option maxRecDepth 100000
set_option linter.unusedVariables false
/-- What the document keeps while it parses. -/
structure PX (s : List UInt8) (i : Nat) (st : Ps) : Prop where
  eq : parseF (linesOf s) 0 ⟨[], [], false⟩ = parseF ((linesOf s).drop i) i st
  nn : st.names.length ≤ i
  nc : st.code.length ≤ i
theorem PX.start (s : List UInt8) : PX s 0 ⟨[], [], false⟩ := ⟨by rw [List.drop_zero], by simp, by simp⟩
theorem PX.at {s : List UInt8} {i : Nat} {st : Ps} (h : PX s i st) (hi : i < (linesOf s).length) : parseF (linesOf s) 0 ⟨[], [], false⟩ = match line1 (linesOf s)[i] with
    | none => .inl (i + 1)
    | some x => parseF ((linesOf s).drop (i + 1)) (i + 1) (st.add x) := by
  rw [h.eq, List.drop_eq_getElem_cons hi]
  rfl
theorem PX.bad {s : List UInt8} {i : Nat} {st : Ps} (h : PX s i st) (hi : i < (linesOf s).length) (hn : line1 (linesOf s)[i] = none) : parseP s = .inl (i + 1) := by
  unfold parseP
  rw [h.at hi, hn]
theorem PX.name {s k : List UInt8} {i : Nat} {st : Ps} (h : PX s i st) (hi : i < (linesOf s).length) (hn : line1 (linesOf s)[i] = some (.nm k)) : PX s (i + 1) ⟨st.names ++ [k], st.code, st.late || decide (0 < st.code.length)⟩ := by
  refine ⟨?_, by have := h.nn; simp; omega, by have := h.nc; simp; omega⟩
  rw [h.at hi, hn]
  dsimp only
  have e : st.add (.nm k) = ⟨st.names ++ [k], st.code, st.late || decide (0 < st.code.length)⟩ := by
    unfold Ps.add
    congr 2
    cases st.code <;> simp
  rw [e]
theorem PX.ins {s : List UInt8} {i op : Nat} {arg : Int} {st : Ps} (h : PX s i st) (hi : i < (linesOf s).length) (hn : line1 (linesOf s)[i] = some (.ins op arg)) : PX s (i + 1) ⟨st.names, st.code ++ [⟨(op : Int), arg⟩], st.late⟩ := by
  refine ⟨?_, by have := h.nn; simp; omega, by have := h.nc; simp; omega⟩
  rw [h.at hi, hn]
  rfl
theorem PX.fin {s : List UInt8} {i : Nat} {st : Ps} (h : PX s i st) (hi : (linesOf s).length ≤ i) : parseP s = if st.late = true ∨ formedP ⟨st.names, st.code⟩ = false then .inl 0 else .inr ⟨st.names, st.code⟩ := by
  unfold parseP
  rw [h.eq, List.drop_eq_nil_of_le hi]
  rfl
section
variable {w : World}
set_option maxHeartbeats 8000000 in
theorem parse18 (s : List UInt8) (hs : s.length ≤ 9223372036854775807) : Calls Tryz.prog 21 #[.string ⟨s.toArray⟩] w fun e w' => ParseR s w' e ∧ Kept [] w w' := by
  have hz : (⟨s.toArray⟩ : ByteArray).size = s.length := by simp [ByteArray.size]
  obtain ⟨W1, e1, k1, hz1, hb1⟩ := box1 w (.cells #[.slice none 0 0, .slice none 0 0] 25)
  by_cases hlong : 20000 < s.length
  · have hlI : (20000 : Int) < (s.length : Int) := by omega
    obtain ⟨d0, d1⟩ := cells2 hb1
    obtain ⟨g0, g1⟩ := free2 hb1
    have HB1 := Hid.mk hb1
    have HK1 := Hid.mk k1
    clear hb1 k1
    go_enter Tryz.func21, Tryz.ntmps21
    go_wp2_with fail
    obtain ⟨W5, e5, k5, hb5⟩ := put2 HB1.out (.slice none 0 0) (.slice none 0 0)
    rw [e5]
    clear e5
    refine bodyPost_ret (results_cell_row3 (p := 2) (u := 3) (u' := 4) (ty := 25) rfl _ _ w.heap.size 25 _ (0, 0) _ rfl hb5 Tryz.underlying25 rfl (by kernel_rfl) _ rfl _ rfl) rfl ?_
    exact ⟨.long hlong rfl, HK1.out.trans k5 (fun y hy => by simp at hy; subst hy; exact .inr (Nat.le_refl _))⟩
  have hlI : ¬ (20000 : Int) < (s.length : Int) := by omega
  obtain ⟨W0, e0, k0, hz0, hb0⟩ := box1 W1 (.cells #[.slice none 0 0, .slice none 0 0] 25)
  have HB0 := Hid.mk hb0
  have HK0 := Hid.mk k0
  have HB1 := Hid.mk hb1
  have HK1 := Hid.mk k1
  have HPI := Hid.mk (PX.start s)
  have hg2 : w.heap.size < W1.heap.size := by omega
  have HLn := Hid.mk (lines38 (w := W0) s (by omega))
  have hcnt := lines_count s
  have HSh := Hid.mk (lines_short s)
  have HZ0 := Hid.mk hz0
  have HF : Hid (∀ (p : Pg) (v u : Value) W, IsP W v u p → (∀ s ∈ p.names, s.length ≤ 9223372036854775807) → Calls Tryz.prog 40 #[.agg #[v, u]] W fun e w' => e = .returned (.bool (formedP p)) ∧ Kept [] W w') := fun p v u W hP hK => formed14 hP hK
  clear hb1 k1 hb0 hz0 k0 hz1
  go_enter Tryz.func21, Tryz.ntmps21
  go_wp2_with fail
  have HG2 : Hid (∀ W W5, Kept [] W1 W → Kept [w.heap.size] W W5 → Kept [] w W5) := fun W W5 k k5 => (HK1.out.then k).trans k5 (fun y hy => by simp at hy; subst hy; exact .inr (Nat.le_refl _))
  have HB2 : Hid (∀ W, Kept [] W1 W → W.heap[w.heap.size]? = some (.cells #[.slice none 0 0, .slice none 0 0] 25 (0, 0))) := fun W k => k.keeps HB1.out (by simp)
  refine HLn.out.mono ?_
  rintro e w1 ⟨vl, rfl, hOl⟩
  obtain ⟨al, cl, rfl, hl1, hl2⟩ := hOl.form
  have HPL : Hid (PL w1.heap.size W1 w1 W1.heap.size (.slice none 0 0) (.slice none 0 0) ⟨[], []⟩ (.slice al (rowN (linesOf s)).length cl) (linesOf s)) := ⟨hOl.kept.keeps HB0.out (by simp), OwnsR.nil _ _ _, fun g hg => by simp [Value.ownBlock] at hg, OwnsR.nil _ _ _, fun g hg => by simp [Value.ownBlock] at hg, hOl.own.reads (wideN _), fun g hg => ⟨hOl.own.lt hg, by have := hOl.new g hg; have := HZ0.out; omega⟩, Nat.le_trans HK0.out.size hOl.kept.size, Nat.le_refl _, Nat.le_refl _, HK0.out.then hOl.kept⟩
  have hB1 : w.heap.size < w1.heap.size := by have := HK0.out.size; have := hOl.kept.size; omega
  rw [rowN_length] at hl1 HPL ⊢
  clear hOl HLn HB0 HZ0
  obtain ⟨n, HN⟩ : ∃ n, Hid ((linesOf s).length = n) := ⟨_, rfl⟩
  rw [HN.out] at hl1 hcnt HPL ⊢
  generalize w1.heap.size = B at *
  generalize W1.heap.size = g at *
  generalize w.heap.size = g2 at *
  go_wp2_with fail
  go_loopw [6, 20] (fun lt i wr => ∃ (j : Nat) (st : Ps) (v u : Value), Hid (PL B W1 wr g v u ⟨st.names, st.code⟩ (.slice al n cl) (linesOf s)) ∧ lt = .bool st.late ∧ i = .int .i64 (j : Int) ∧ j ≤ n ∧ Hid (PX s j st) ∧ Hid (∀ x ∈ st.names, x.length ≤ 40)) (fun _ i _ => n - (intOf i).toNat)
  case atStart => exact ⟨0, ⟨[], [], false⟩, _, _, HPL, rfl, rfl, by omega, HPI, Hid.mk (by simp)⟩
  case round =>
    obtain ⟨j, st, v, u, HP, rfl, rfl, hj, HQ, HS⟩ := hrel
    obtain ⟨names, code, late⟩ := st
    dsimp only at HP HQ HS ⊢
    obtain ⟨va, vc, ua, uc, rfl, rfl⟩ := HP.out.forms
    dsimp only at HP ⊢
    have hnn := HQ.out.nn
    have hnc := HQ.out.nc
    dsimp only at hnn hnc
    by_cases hlt : j < n
    · have hja : j < (linesOf s).length := by have := HN.out; omega
      have hjI : (j : Int) < (n : Int) := by omega
      have hj0 : (0 : Int) ≤ (j : Int) := by omega
      obtain ⟨b1, o1, rfl, hc1⟩ := names_at HP.out.rd hja
      have HLi := Hid.mk (line39 (w := wr) (linesOf s)[j] (by have := HSh.out _ (List.getElem_mem hja); omega))
      have HBad := Hid.mk (HQ.out.bad hja)
      have HNm : Hid (∀ k, line1 (linesOf s)[j] = some (.nm k) → PX s (j + 1) ⟨names ++ [k], code, late || decide (0 < code.length)⟩) := fun k => HQ.out.name hja (k := k)
      have HIn : Hid (∀ op arg, line1 (linesOf s)[j] = some (.ins op arg) → PX s (j + 1) ⟨names, code ++ [⟨(op : Int), arg⟩], late⟩) := fun op arg => HQ.out.ins hja (op := op) (arg := arg)
      clear HQ HPI HPL
      generalize (linesOf s)[j] = ln at *
      clear hja
      go_wp2_with fail
      refine HLi.out.mono ?_
      rintro e w2 ⟨hli, k2⟩
      have HP2 := Hid.mk (HP.out.kept0 k2)
      clear k2 HP hc1 HLi
      rcases hli with ⟨k, hk, he⟩ | ⟨op, arg, hk, rfl⟩ | ⟨hk, x, y, t, rfl⟩
      · obtain ⟨mm, zz, hmm, rfl⟩ : ∃ mm zz : Int, mm < 0 ∧ e = .returned (.tuple #[.agg #[.int .i64 mm, .int .i64 zz], .string ⟨k.toArray⟩, .bool true]) := ⟨-1, 0, by omega, he⟩
        clear he
        have HPn := Hid.mk (HNm.out k hk)
        have hk40 : k.length ≤ 40 := by
          rcases line1_own hk with ⟨k', e, hk', -⟩ | ⟨i, wd, kk, arg, -, e, -⟩
          · cases e
            have := (isKey_iff _).1 hk'
            omega
          · cases e
        have HS2 : Hid (∀ x ∈ names ++ [k], x.length ≤ 40) := fun x hx => by
          rcases List.mem_append.1 hx with h | h
          · exact HS.out x h
          · simp at h; subst h; omega
        obtain ⟨W4, e4, k4, hz4, hb4⟩ := box1 w2 (.cells #[.int .i64 mm, .int .i64 zz] 53)
        obtain ⟨x0, x1⟩ := cells2 hb4
        have HP4 := Hid.mk (HP2.out.kept0 k4)
        obtain ⟨ad, cc, w5, hrun, hc0, hf0, hPB⟩ := HP4.out.addName (by dsimp only; omega) k 9 (0, 0) 22
        have y0 := HP4.out.c0
        have y1 := HP4.out.c1
        have HPB' := Hid.mk hPB
        dsimp only at hrun HPB' hc0
        clear hk HBad HNm HIn hPB hk40 HS k4 hz4 hb4
        cases late with
        | true =>
          rw [Bool.true_or] at HPn
          go_wp2_with (at_builtin; refine wpList_append_run 22 22 (.tmp 48) (.tmp 50) rfl (by rfl) _ _ rfl rfl _ _ hrun ?_)
          go_roundw
          case rel => exact ⟨j + 1, ⟨names ++ [k], code, true⟩, _, _, HPB', rfl, by go_num, by omega, HPn, HS2⟩
          case measure => simp [intOf]; omega
        | false =>
          rw [Bool.false_or] at HPn
          have hcI : decide ((0 : Int) < (code.length : Int)) = decide (0 < code.length) := by simp
          go_wp2_with (at_builtin; refine wpList_append_run 22 22 (.tmp 48) (.tmp 50) rfl (by rfl) _ _ rfl rfl _ _ hrun ?_)
          go_roundw
          case rel => exact ⟨j + 1, ⟨names ++ [k], code, decide (0 < code.length)⟩, _, _, HPB', by first | rfl | simp, by go_num, by omega, HPn, HS2⟩
          case measure => simp [intOf]; omega
      · have HPn := Hid.mk (HIn.out op arg hk)
        obtain ⟨W4, e4, k4, hz4, hb4⟩ := box1 w2 (.cells #[.int .i64 (op : Int), .int .i64 arg] 53)
        obtain ⟨x0, x1⟩ := cells2 hb4
        have HP4 := Hid.mk (HP2.out.kept0 k4)
        obtain ⟨ad, cc, w5, hrun, hc0, hf0, hPB⟩ := HP4.out.addCode (by dsimp only; omega) ⟨(op : Int), arg⟩ 53 (0, 0) 23
        have y0 := HP4.out.c0
        have y1 := HP4.out.c1
        have HPB' := Hid.mk hPB
        dsimp only at hrun HPB' hc0
        have hop : ¬ (op : Int) < 0 := by omega
        clear hk HBad HNm HIn hPB k4 hz4 hb4
        go_wp2_with (at_builtin; refine wpList_append_run 23 23 (.tmp 54) (.tmp 56) rfl (by rfl) _ _ rfl rfl _ _ hrun ?_)
        go_roundw
        case rel => exact ⟨j + 1, ⟨names, code ++ [⟨(op : Int), arg⟩], late⟩, _, _, HPB', rfl, by go_num, by omega, HPn, HS⟩
        case measure => simp [intOf]; omega
      · have HB : Hid (parseP s = .inl (j + 1)) := HBad.out hk
        obtain ⟨W4, e4, k4, hz4, hb4⟩ := box1 w2 (.cells #[.int .i64 x, .int .i64 y] 53)
        have HK4 := Hid.mk (HP2.out.k.then k4)
        obtain ⟨d0, d1⟩ := cells2 (HB2.out W4 HK4.out)
        obtain ⟨f0, f1⟩ := free2 (HB2.out W4 HK4.out)
        clear hk HBad HNm HIn k4 hz4 hb4
        go_wp2_with fail
        obtain ⟨W5, e5, k5, hb5⟩ := put2 (HB2.out W4 HK4.out) (.slice none 0 0) (.slice none 0 0)
        rw [e5]
        clear e5
        refine bodyPost_ret (results_cell_row3 (p := 2) (u := 3) (u' := 4) (ty := 25) rfl _ _ g2 25 _ (0, 0) _ rfl hb5 Tryz.underlying25 rfl (by kernel_rfl) _ rfl _ rfl) rfl ?_
        exact ⟨.bad (by omega) (j + 1) HB.out (by simp), HG2.out _ _ HK4.out k5⟩
    · have hjI : ¬ (j : Int) < (n : Int) := by omega
      have hfin := HQ.out.fin (by have := HN.out; omega)
      dsimp only at hfin
      have HFin := Hid.mk hfin
      have y0 := HP.out.c0
      have y1 := HP.out.c1
      have HFm := Hid.mk (HF.out ⟨names, code⟩ _ _ wr HP.out.isP (fun x hx => by have := HS.out x hx; omega))
      obtain ⟨d0, d1⟩ := cells2 (HB2.out wr HP.out.k)
      obtain ⟨f0, f1⟩ := free2 (HB2.out wr HP.out.k)
      clear hfin HF HQ HS HPI HPL
      cases late with
      | true =>
        rw [if_pos (.inl rfl)] at HFin
        go_wp2_with fail
        obtain ⟨W5, e5, k5, hb5⟩ := put2 (HB2.out wr HP.out.k) (.slice none 0 0) (.slice none 0 0)
        rw [e5]
        clear e5
        refine bodyPost_ret (results_cell_row3 (p := 2) (u := 3) (u' := 4) (ty := 25) rfl _ _ g2 25 _ (0, 0) _ rfl hb5 Tryz.underlying25 rfl (by kernel_rfl) _ rfl _ rfl) rfl ?_
        exact ⟨.bad (by omega) 0 HFin.out rfl, HG2.out _ _ HP.out.k k5⟩
      | false =>
        cases hf : formedP ⟨names, code⟩ with
        | false =>
          rw [hf] at HFm
          rw [if_pos (.inr hf)] at HFin
          clear hf
          go_wp2_with fail
          refine HFm.out.mono ?_
          rintro e w2 ⟨rfl, k2⟩
          have HK2 := Hid.mk (HP.out.k.then k2)
          clear d0 d1 f0 f1 y0 y1 k2
          obtain ⟨d0, d1⟩ := cells2 (HB2.out w2 HK2.out)
          obtain ⟨f0, f1⟩ := free2 (HB2.out w2 HK2.out)
          go_wp2_with fail
          obtain ⟨W5, e5, k5, hb5⟩ := put2 (HB2.out w2 HK2.out) (.slice none 0 0) (.slice none 0 0)
          rw [e5]
          clear e5
          refine bodyPost_ret (results_cell_row3 (p := 2) (u := 3) (u' := 4) (ty := 25) rfl _ _ g2 25 _ (0, 0) _ rfl hb5 Tryz.underlying25 rfl (by kernel_rfl) _ rfl _ rfl) rfl ?_
          exact ⟨.bad (by omega) 0 HFin.out rfl, HG2.out _ _ HK2.out k5⟩
        | true =>
          rw [hf] at HFm
          rw [if_neg (by rw [hf]; simp)] at HFin
          clear hf
          go_wp2_with fail
          refine HFm.out.mono ?_
          rintro e w2 ⟨rfl, k2⟩
          have HP2 := Hid.mk (HP.out.kept0 k2)
          clear d0 d1 f0 f1 y0 y1 k2
          have z0 := HP2.out.c0
          have z1 := HP2.out.c1
          obtain ⟨d0, d1⟩ := cells2 (HB2.out w2 HP2.out.k)
          obtain ⟨f0, f1⟩ := free2 (HB2.out w2 HP2.out.k)
          go_wp2_with fail
          obtain ⟨W5, e5, k5, hb5⟩ := put2 (HB2.out w2 HP2.out.k) (.slice va names.length vc) (.slice ua code.length uc)
          rw [e5]
          clear e5
          refine bodyPost_ret (results_cell_row3 (p := 2) (u := 3) (u' := 4) (ty := 25) rfl _ _ g2 25 _ (0, 0) _ rfl hb5 Tryz.underlying25 rfl (by kernel_rfl) _ rfl _ rfl) rfl ?_
          refine ⟨.ok (by omega) ⟨names, code⟩ _ _ HFin.out ⟨HP2.out.isP.names.kept k5 (fun g' h hm => ?_), HP2.out.isP.code.kept k5 (fun g' h hm => ?_)⟩ rfl, HG2.out _ _ HP2.out.k k5⟩
          · have := HP2.out.nN g' h; simp at hm; omega
          · have := HP2.out.nC g' h; simp at hm; omega
end
end Go.Proofs.YtibapmjgpnldgaaGreatDoor
