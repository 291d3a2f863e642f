import Derived.Test.YtibapmjgpnldgaaGreatDoorQ18
import Derived.Test.YtibapmjgpnldgaaGreatDoorQ21
/-
  Parse.
-/
namespace Go.Proofs.YtibapmjgpnldgaaGreatDoor
open Go.RowKit
set_option maxRecDepth 100000
set_option linter.unusedVariables false
abbrev NP : Value := .agg #[.slice none 0 0, .slice none 0 0]
/-- What Parse answers. -/
inductive ParseR (s : List UInt8) (w' : World) (e : Ending) : Prop where
  | long (h : 20000 < s.length) (he : e = .returned (.tuple #[.agg #[.slice none 0 0, .slice none 0 0], .int .i64 0, .int .i64 4]))
  | bad (h : s.length ≤ 20000) (n : Nat) (hn : parseP s = .inl n) (he : e = .returned (.tuple #[.agg #[.slice none 0 0, .slice none 0 0], .int .i64 n, .int .i64 2]))
  | ok (h : s.length ≤ 20000) (p : Pg) (v u : Value) (hp : parseP s = .inr p) (hi : IsP w' v u p) (he : e = .returned (.tuple #[.agg #[v, u], .int .i64 0, .int .i64 0]))
theorem parseF_cut {s : List UInt8} (h : s ≠ []) (i : Nat) (st : Ps) : parseF (linesOf s) i st = match line1 (cutC 10 s).1 with
    | none => .inl (i + 1)
    | some x => parseF (linesOf (cutC 10 s).2.1) (i + 1) (st.add x) := by
  rw [lines_cut h]; rfl
/-- What the program keeps while it parses. -/
structure PI (s : List UInt8) (i : Nat) (r : List UInt8) (st : Ps) : Prop where
  eq : parseF (linesOf s) 0 ⟨[], [], false⟩ = parseF (linesOf r) i st
  late : st.late = true → st.code ≠ []
  len : i + r.length ≤ s.length
  nn : st.names.length ≤ i
  nc : st.code.length ≤ i
theorem PI.start (s : List UInt8) : PI s 0 s ⟨[], [], false⟩ := ⟨rfl, fun h => by simp at h, by omega, by simp, by simp⟩
theorem PI.bad {s r : List UInt8} {i : Nat} {st : Ps} (h : PI s i r st) (hr : r ≠ []) (hn : line1 (cutC 10 r).1 = none) : parseP s = .inl (i + 1) := by
  unfold parseP
  rw [h.eq, parseF_cut hr, hn]
theorem PI.name {s r k : List UInt8} {i : Nat} {st : Ps} (h : PI s i r st) (hr : r ≠ []) (hn : line1 (cutC 10 r).1 = some (.nm k)) : PI s (i + 1) (cutC 10 r).2.1 ⟨st.names ++ [k], st.code, decide (0 < st.code.length)⟩ := by
  obtain ⟨-, -, h3⟩ := cutC_length 10 r
  have := h3 hr
  have e : st.add (.nm k) = ⟨st.names ++ [k], st.code, decide (0 < st.code.length)⟩ := by
    unfold Ps.add
    congr 1
    cases hl : st.late with
    | false => cases hc : st.code <;> simp
    | true =>
      have := h.late hl
      cases hc : st.code with
      | nil => exact absurd hc this
      | cons a b => simp
  refine ⟨?_, fun hh => ?_, by have := h.len; omega, by have := h.nn; simp; omega, by have := h.nc; simp; omega⟩
  · rw [h.eq, parseF_cut hr, hn]
    dsimp only
    rw [e]
  · simp at hh
    intro hc
    have : st.code = [] := hc
    rw [this] at hh
    simp at hh
theorem PI.ins {s r : List UInt8} {i op : Nat} {arg : Int} {st : Ps} (h : PI s i r st) (hr : r ≠ []) (hn : line1 (cutC 10 r).1 = some (.ins op arg)) : PI s (i + 1) (cutC 10 r).2.1 ⟨st.names, st.code ++ [⟨(op : Int), arg⟩], st.late⟩ := by
  obtain ⟨-, -, h3⟩ := cutC_length 10 r
  have := h3 hr
  refine ⟨?_, fun hh => by simp, by have := h.len; omega, by have := h.nn; simp; omega, by have := h.nc; simp; omega⟩
  rw [h.eq, parseF_cut hr, hn]
  rfl
theorem PI.fin {s : List UInt8} {i : Nat} {st : Ps} (h : PI s i [] st) : parseP s = if st.late = true ∨ formedP ⟨st.names, st.code⟩ = false then .inl 0 else .inr ⟨st.names, st.code⟩ := by
  unfold parseP
  rw [h.eq]
  rfl
def sizeV : Value → Nat
  | .string b => b.size
  | _ => 0
theorem sizeV_at (r : List UInt8) : sizeV (.string ⟨r.toArray⟩) = r.length := by simp [sizeV, ByteArray.size]
section
variable {w : World}
set_option maxHeartbeats 4000000 in
theorem parse17 (hG : Glob w) (s : List UInt8) (hs : s.length ≤ 9223372036854775807) : Calls Tryz.prog 11 #[.string ⟨s.toArray⟩] w fun e w' => ParseR s w' e ∧ Kept [] w w' := by
  have hz : (⟨s.toArray⟩ : ByteArray).size = s.length := by simp [ByteArray.size]
  obtain ⟨W1, e1, k1, hz1, hb1⟩ := box1 w (.cells #[.slice none 0 0, .slice none 0 0] 33)
  by_cases hlong : 20000 < s.length
  · have hlI : (20000 : Int) < (s.length : Int) := by omega
    obtain ⟨d0, d1⟩ := cells2 hb1
    obtain ⟨g0, g1⟩ := free2 hb1
    have HB1 := Hid.mk hb1
    have HK1 := Hid.mk k1
    clear hb1 k1 hG
    go_enter Tryz.func11, Tryz.ntmps11
    go_wp2_with fail
    obtain ⟨W5, e5, k5, hb5⟩ := put2 HB1.out (.slice none 0 0) (.slice none 0 0)
    rw [e5]
    clear e5
    refine bodyPost_ret (results_cell_row3 (p := 2) (u := 3) (u' := 4) (ty := 33) rfl _ _ w.heap.size 33 _ (0, 0) _ rfl hb5 Tryz.underlying33 rfl (by kernel_rfl) _ rfl _ rfl) rfl ?_
    exact ⟨.long hlong rfl, HK1.out.trans k5 (fun y hy => by simp at hy; subst hy; exact .inr (Nat.le_refl _))⟩
  have hlI : ¬ (20000 : Int) < (s.length : Int) := by omega
  obtain ⟨W0, e0, k0, hz0, hb0⟩ := box1 W1 (.cells #[.slice none 0 0, .slice none 0 0] 33)
  have HPB : Hid (PB 33 45 W1 W0 W1.heap.size (.slice none 0 0) (.slice none 0 0) ⟨[], []⟩) := PB.start k0 hb0 (Nat.le_refl _)
  have HB1 := Hid.mk hb1
  have HK1 := Hid.mk k1
  have HPI := Hid.mk (PI.start s)
  have hg2 : w.heap.size < W1.heap.size := by omega
  have HC : Hid (∀ (r : List UInt8), r.length ≤ 20000 → ∀ W, Kept [] W1 W → Calls Tryz.prog 27 #[.string ⟨r.toArray⟩, .string ⟨#[10]⟩] W fun e w' => e = .returned (.tuple #[.string ⟨(cutC 10 r).1.toArray⟩, .string ⟨(cutC 10 r).2.1.toArray⟩, .bool (cutC 10 r).2.2]) ∧ Kept [] W w') := fun r hr W k => cut35 (hG.kept (k1.then k)) 10 r (by omega)
  have HN : Hid (∀ (r : List UInt8), r.length ≤ 20000 → ∀ W, Kept [] W1 W → Calls Tryz.prog 28 #[.string ⟨r.toArray⟩] W fun e w' => NameAt r e ∧ Kept [] W w') := fun r hr W k => parseName36 (hG.kept (k1.then k)) r (by omega)
  have HI : Hid (∀ (r : List UInt8), r.length ≤ 20000 → ∀ W, Kept [] W1 W → Calls Tryz.prog 29 #[.string ⟨r.toArray⟩] W fun e w' => InsAt r e ∧ Kept [] W w') := fun r hr W k => parseInstr37 (hG.kept (k1.then k)) r (by omega)
  have HF : Hid (∀ (p : Pg) (v u : Value) W, Kept [] W1 W → IsP W v u p → (∀ s ∈ p.names, s.length ≤ 9223372036854775807) → Calls Tryz.prog 12 #[.agg #[v, u]] W fun e w' => e = .returned (.bool (formedP p)) ∧ Kept [] W w') := fun p v u W k hP hK => formed13 hP hK (hG.kept (k1.then k))
  clear hb1 k1 hb0 hz0 k0 hG hz1
  go_enter Tryz.func11, Tryz.ntmps11
  go_wp2_with fail
  have HG2 : Hid (∀ W W5, Kept [] W1 W → Kept [w.heap.size] W W5 → Kept [] w W5) := fun W W5 k k5 => (HK1.out.then k).trans k5 (fun y hy => by simp at hy; subst hy; exact .inr (Nat.le_refl _))
  generalize hgg : W1.heap.size = g at *
  have HGG := Hid.mk hgg
  clear hgg
  generalize w.heap.size = g2 at *
  go_loopw [7, 8, 9] (fun lt nu rs wr => ∃ (i : Nat) (r : List UInt8) (st : Ps) (v u : Value), Hid (PB 33 45 W1 wr g v u ⟨st.names, st.code⟩) ∧ lt = .bool st.late ∧ nu = .int .i64 ((i : Int) + 1) ∧ rs = .string ⟨r.toArray⟩ ∧ Hid (PI s i r st) ∧ i + r.length ≤ s.length ∧ Hid (∀ x ∈ st.names, x.length ≤ 40)) (fun _ _ rs _ => sizeV rs)
  case atStart => exact ⟨0, s, ⟨[], [], false⟩, _, _, HPB, rfl, rfl, rfl, HPI, by omega, Hid.mk (by simp)⟩
  case round =>
    obtain ⟨i, r, st, v, u, HP, rfl, rfl, rfl, HQ, hlr, HS⟩ := hrel
    obtain ⟨names, code, late⟩ := st
    dsimp only at HP HQ HS ⊢
    obtain ⟨va, vc, ua, uc, rfl, rfl⟩ := HP.out.forms
    have HB2 : Hid (∀ W, Kept [] W1 W → W.heap[g2]? = some (.cells #[.slice none 0 0, .slice none 0 0] 33 (0, 0))) := fun W k => k.keeps HB1.out (by simp)
    have HKg : Hid (∀ W, Kept [] W1 W → Kept [] w W) := fun W k => HK1.out.then k
    have HKr := Hid.mk HP.out.kept
    by_cases hr : r = []
    · subst hr
      have hfin := HQ.out.fin
      dsimp only at hfin
      have HFin := Hid.mk hfin
      have y0 := HP.out.c0
      have y1 := HP.out.c1
      have HIP := Hid.mk HP.out.isP
      obtain ⟨d0, d1⟩ := cells2 (HB2.out wr HKr.out)
      obtain ⟨f0, f1⟩ := free2 (HB2.out wr HKr.out)
      have HFm := Hid.mk (HF.out ⟨names, code⟩ _ _ wr HKr.out HIP.out (fun x hx => by have := HS.out x hx; omega))
      clear hfin HC HN HI HF HQ HS HPI HPB
      cases late with
      | true =>
        rw [if_pos (.inl rfl)] at HFin
        go_wp2_with fail
        obtain ⟨W5, e5, k5, hb5⟩ := put2 (HB2.out wr HKr.out) (.slice none 0 0) (.slice none 0 0)
        rw [e5]
        clear e5
        refine bodyPost_ret (results_cell_row3 (p := 2) (u := 3) (u' := 4) (ty := 33) rfl _ _ g2 33 _ (0, 0) _ rfl hb5 Tryz.underlying33 rfl (by kernel_rfl) _ rfl _ rfl) rfl ?_
        exact ⟨.bad (by omega) 0 HFin.out rfl, HG2.out _ _ HKr.out k5⟩
      | false =>
        cases hf : formedP ⟨names, code⟩ with
        | false =>
          rw [hf] at HFm
          rw [if_pos (.inr hf)] at HFin
          clear hf
          go_wp2_with fail
          refine HFm.out.mono ?_
          rintro e w2 ⟨rfl, k2⟩
          have HK2 := Hid.mk (HKr.out.then k2)
          clear d0 d1 f0 f1 y0 y1 k2
          obtain ⟨d0, d1⟩ := cells2 (HB2.out w2 HK2.out)
          obtain ⟨f0, f1⟩ := free2 (HB2.out w2 HK2.out)
          go_wp2_with fail
          obtain ⟨W5, e5, k5, hb5⟩ := put2 (HB2.out w2 HK2.out) (.slice none 0 0) (.slice none 0 0)
          rw [e5]
          clear e5
          refine bodyPost_ret (results_cell_row3 (p := 2) (u := 3) (u' := 4) (ty := 33) rfl _ _ g2 33 _ (0, 0) _ rfl hb5 Tryz.underlying33 rfl (by kernel_rfl) _ rfl _ rfl) rfl ?_
          exact ⟨.bad (by omega) 0 HFin.out rfl, HG2.out _ _ HK2.out k5⟩
        | true =>
          rw [hf] at HFm
          rw [if_neg (by rw [hf]; simp)] at HFin
          clear hf
          go_wp2_with fail
          refine HFm.out.mono ?_
          rintro e w2 ⟨rfl, k2⟩
          have HK2 := Hid.mk (HKr.out.then k2)
          have HIP2 := Hid.mk (HIP.out.keep k2)
          have y0' := k2.cell_eq y0
          have y1' := k2.cell_eq y1
          clear d0 d1 f0 f1 y0 y1 k2
          obtain ⟨d0, d1⟩ := cells2 (HB2.out w2 HK2.out)
          obtain ⟨f0, f1⟩ := free2 (HB2.out w2 HK2.out)
          go_wp2_with fail
          obtain ⟨W5, e5, k5, hb5⟩ := put2 (HB2.out w2 HK2.out) (.slice va names.length vc) (.slice ua code.length uc)
          rw [e5]
          clear e5
          refine bodyPost_ret (results_cell_row3 (p := 2) (u := 3) (u' := 4) (ty := 33) rfl _ _ g2 33 _ (0, 0) _ rfl hb5 Tryz.underlying33 rfl (by kernel_rfl) _ rfl _ rfl) rfl ?_
          have hng : ∀ g', g ≤ g' → g' ∉ [g2] := fun g' h1 h2 => by simp at h2; omega
          refine ⟨.ok (by omega) ⟨names, code⟩ _ _ HFin.out ⟨HIP2.out.names.kept k5 (fun g' h => hng g' (by rw [← HGG.out]; exact HP.out.names.new g' h)), HIP2.out.code.kept k5 (fun g' h => hng g' (by rw [← HGG.out]; exact HP.out.code.new g' h))⟩ rfl, HG2.out _ _ HK2.out k5⟩
    · have t1 : (r != []) = true := by simpa using hr
      have t2 : (r == []) = false := by simpa using hr
      have t3 : r.isEmpty = false := by simpa using hr
      have hll := cutC_length 10 r
      have HLL := Hid.mk hll
      have HCr := Hid.mk (HC.out r (by omega) wr HKr.out)
      have HNr := Hid.mk (HN.out (cutC 10 r).1 (by have := hll.1; omega))
      have HIr := Hid.mk (HI.out (cutC 10 r).1 (by have := hll.1; omega))
      have HBad := Hid.mk (HQ.out.bad hr)
      have HNm : Hid (∀ k, line1 (cutC 10 r).1 = some (.nm k) → _) := fun k => HQ.out.name hr (k := k)
      have HIn : Hid (∀ op arg, line1 (cutC 10 r).1 = some (.ins op arg) → _) := fun op arg => HQ.out.ins hr (op := op) (arg := arg)
      have hnn := HQ.out.nn
      have hnc := HQ.out.nc
      dsimp only at hnn hnc
      clear hll HC HN HI HF HQ HPI HPB
      generalize (cutC 10 r).1 = ln at *
      generalize (cutC 10 r).2.1 = re at *
      generalize (cutC 10 r).2.2 = bb at *
      go_wp2_with fail
      refine HCr.out.mono ?_
      rintro e w1 ⟨rfl, k1⟩
      have HK1' := Hid.mk (HKr.out.then k1)
      have HP1 := Hid.mk (HP.out.keep k1)
      clear k1 HP HCr
      go_wp2_with fail
      refine (HNr.out w1 HK1'.out).mono ?_
      rintro e w2 ⟨hna, k2⟩
      have HK2 := Hid.mk (HK1'.out.then k2)
      have HP2 := Hid.mk (HP1.out.keep k2)
      clear k2 HP1 HNr
      rcases hna with ⟨k, hk, rfl⟩ | ⟨hk, k, rfl⟩
      · have HPn := Hid.mk (HNm.out k (line1_nm hk))
        have hk40 := (isKey_iff _).1 (nameP_own hk).1
        have HS2 : Hid (∀ x ∈ names ++ [k], x.length ≤ 40) := fun x hx => by
          rcases List.mem_append.1 hx with h | h
          · exact HS.out x h
          · simp at h; subst h; omega
        obtain ⟨ad, cc, w3, hrun, hc0, hf0, hPB⟩ := HP2.out.addName (by decide) (by decide) (by decide) (by dsimp only; omega) k 9 (0, 0) 22
        have y0 := HP2.out.c0
        have y1 := HP2.out.c1
        have HPB' := Hid.mk hPB
        dsimp only at hrun HPB' hc0
        have hre := HLL.out.2.2 hr
        have hcI : decide ((0 : Int) < (code.length : Int)) = decide (0 < code.length) := by simp
        clear hk HBad HNm HIn HIr hPB hk40 HS
        go_wp2_with (at_builtin; refine wpList_append_run 22 22 (.tmp 40) (.tmp 42) rfl (by rfl) _ _ rfl rfl _ _ hrun ?_)
        go_roundw
        case rel => exact ⟨i + 1, re, ⟨names ++ [k], code, decide (0 < code.length)⟩, _, _, HPB', by first | rfl | simp, by go_num, rfl, HPn, by omega, HS2⟩
        case measure => rw [sizeV_at, sizeV_at]; exact hre
      · have HNo := Hid.mk hk
        clear hk HNm
        go_wp2_with fail
        refine (HIr.out w2 HK2.out).mono ?_
        rintro e w3 ⟨hin, k3⟩
        have HK3 := Hid.mk (HK2.out.then k3)
        have HP3 := Hid.mk (HP2.out.keep k3)
        clear k3 HP2 HIr
        rcases hin with ⟨op, kk, arg, hw, hi, rfl⟩ | ⟨hno, a1, a2, rfl⟩
        · have HPn := Hid.mk (HIn.out op arg (by rw [line1_word hw, hi]; rfl))
          clear hw hi HBad HIn
          obtain ⟨W4, e4, k4, hz4, hb4⟩ := box1 w3 (.cells #[.int .i64 (op : Int), .int .i64 arg] 45)
          obtain ⟨x0, x1⟩ := cells2 hb4
          have HP4 := Hid.mk (HP3.out.keep k4)
          obtain ⟨ad, cc, w5, hrun, hc0, hf0, hPB⟩ := HP4.out.addCode rt31 (by decide) (by decide) (by decide) (by dsimp only; omega) ⟨(op : Int), arg⟩ 45 (0, 0) 31
          have y0 := HP4.out.c0
          have y1 := HP4.out.c1
          have HPB' := Hid.mk hPB
          dsimp only at hrun HPB' hc0
          have hre := HLL.out.2.2 hr
          clear hPB k4 hz4 hb4
          go_wp2_with (at_builtin; refine wpList_append_run 31 31 (.tmp 52) (.tmp 54) rfl (by rfl) _ _ rfl rfl _ _ hrun ?_)
          go_roundw
          case rel => exact ⟨i + 1, re, ⟨names, code ++ [⟨(op : Int), arg⟩], late⟩, _, _, HPB', rfl, by go_num, rfl, HPn, by omega, HS⟩
          case measure => rw [sizeV_at, sizeV_at]; exact hre
        · have HB : Hid (parseP s = .inl (i + 1)) := HBad.out (by
            rcases hno with h | ⟨j, kk, h1, h2⟩
            · exact line1_no h HNo.out
            · rw [line1_word h1, h2]; rfl)
          clear hno HBad HIn
          obtain ⟨W4, e4, k4, hz4, hb4⟩ := box1 w3 (.cells #[.int .i64 a1, .int .i64 a2] 45)
          obtain ⟨x0, x1⟩ := cells2 hb4
          have HK4 := Hid.mk (HK3.out.then k4)
          obtain ⟨d0, d1⟩ := cells2 (HB2.out W4 HK4.out)
          obtain ⟨f0, f1⟩ := free2 (HB2.out W4 HK4.out)
          clear k4 hz4 hb4
          go_wp2_with fail
          obtain ⟨W5, e5, k5, hb5⟩ := put2 (HB2.out W4 HK4.out) (.slice none 0 0) (.slice none 0 0)
          rw [e5]
          clear e5
          refine bodyPost_ret (results_cell_row3 (p := 2) (u := 3) (u' := 4) (ty := 33) rfl _ _ g2 33 _ (0, 0) _ rfl hb5 Tryz.underlying33 rfl (by kernel_rfl) _ rfl _ rfl) rfl ?_
          exact ⟨.bad (by omega) (i + 1) HB.out (by simp), HG2.out _ _ HK4.out k5⟩
end
end Go.Proofs.YtibapmjgpnldgaaGreatDoor
