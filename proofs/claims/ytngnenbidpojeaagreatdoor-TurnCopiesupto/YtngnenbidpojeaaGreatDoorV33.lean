import Derived.Test.YtngnenbidpojeaaGreatDoorV23
import Derived.Test.YtngnenbidpojeaaGreatDoorV25
import Derived.Test.YtngnenbidpojeaaGreatDoorV29
import Derived.Test.YtngnenbidpojeaaGreatDoorV32
/-
  Formed.
-/
namespace Go.Proofs.YtngnenbidpojeaaGreatDoor
open Go.RowKit
set_option maxRecDepth 100000
set_option linter.unusedVariables false
theorem formed_wrong {p : Pg} (h : 8 < p.names.length ∨ 200 < p.code.length) : formedP p = false := by
  cases e : formedP p with
  | false => rfl
  | true => have := formed_parts e; omega
theorem all_false {α : Type} {f : α → Bool} {l : List α} {j : Nat} (hj : j < l.length) (h : f l[j] = false) : l.all f = false := by
  cases e : l.all f with
  | false => rfl
  | true => rw [List.all_eq_true.1 e _ (List.getElem_mem hj)] at h; cases h
theorem formed_name {p : Pg} {j : Nat} (hj : j < p.names.length) (h : isKey p.names[j] = false) : formedP p = false := by
  unfold formedP
  rw [all_false hj h]
  simp
theorem formed_code {p : Pg} {j : Nat} (hj : j < p.code.length) (h : okI p.names.length p.code.length p.code[j] = false) : formedP p = false := by
  unfold formedP
  rw [all_false hj h]
  simp
theorem all_true {α : Type} {f : α → Bool} {l : List α} (h : ∀ i (hi : i < l.length), f l[i] = true) : l.all f = true := by
  rw [List.all_eq_true]
  intro x hx
  obtain ⟨i, hi, rfl⟩ := List.getElem_of_mem hx
  exact h i hi
theorem formed_yes {p : Pg} (h1 : p.names.length ≤ 8) (h2 : p.code.length ≤ 200) (h3 : ∀ i (hi : i < p.names.length), isKey p.names[i] = true) (h4 : ∀ i (hi : i < p.code.length), okI p.names.length p.code.length p.code[i] = true) : formedP p = true := by
  unfold formedP
  rw [all_true h3, all_true h4]
  simp [h1, h2]
section
variable {w : World}
set_option maxHeartbeats 1000000 in
theorem formed13_N {v u : Value} {p : Pg} (hP : IsP_N w v u p) (hK : ∀ s ∈ p.names, s.length ≤ 9223372036854775807) (hG : Glob w) :
    Calls Tryz.prog 32 #[.agg #[v, u]] w fun e w' => e = .returned (.bool (formedP p)) ∧ Kept [] w w' := by
  obtain ⟨a, c, b, d, rfl, rfl, hl1, hl2⟩ := hP.form
  have HF : Hid (∀ (W : World) (x : In) (a b : Option Addr) (c d : Nat), Kept [] w W → p.names.length ≤ 1000 → p.code.length ≤ 1000 → Calls Tryz.prog 93 #[.agg #[.slice a p.names.length c, .slice b p.code.length d], .agg #[.int .i64 x.op, .int .i64 x.arg]] W fun e w' => e = .returned (.bool (okI p.names.length p.code.length x)) ∧ Kept [] W w') := fun W x a b c d k h1 h2 => fits31 (hG.kept k) x h1 h2
  clear hG
  have HP := Hid.mk hP
  obtain ⟨W0, e0, k0, hz0, hb0⟩ := box1 w (.cells #[.slice a p.names.length c, .slice b p.code.length d] 44)
  have y0 : W0.cell? ⟨w.heap.size, 0, none⟩ = some (.slice a p.names.length c) := by simp [World.cell?, hb0]
  have y1 : W0.cell? ⟨w.heap.size, 1, none⟩ = some (.slice b p.code.length d) := by simp [World.cell?, hb0]
  have HK0 := Hid.mk k0
  clear k0 hb0 hz0 hP
  obtain ⟨R, HR⟩ : ∃ R, Hid (formedP p = R) := ⟨_, rfl⟩
  rw [HR.out]
  by_cases hA : 8 < p.names.length
  · obtain rfl : R = false := by rw [← HR.out]; exact formed_wrong (.inl hA)
    have hA' : (8 : Int) < (p.names.length : Int) := by omega
    clear HR
    go_enter Tryz.func32, Tryz.ntmps32
    go_wp2_with fail
    go_ret
    exact ⟨rfl, HK0.out⟩
  have hA' : ¬ (8 : Int) < (p.names.length : Int) := by omega
  by_cases hB : 200 < p.code.length
  · obtain rfl : R = false := by rw [← HR.out]; exact formed_wrong (.inr hB)
    have hB' : (200 : Int) < (p.code.length : Int) := by omega
    clear HR
    go_enter Tryz.func32, Tryz.ntmps32
    go_wp2_with fail
    go_ret
    exact ⟨rfl, HK0.out⟩
  have hB' : ¬ (200 : Int) < (p.code.length : Int) := by omega
  go_enter Tryz.func32, Tryz.ntmps32
  go_wp2_with fail
  generalize hg : w.heap.size = g at *
  clear hg
  go_loopw [20] (fun i wr => ∃ j : Nat, Hid (Kept [] W0 wr) ∧ i = .int .i64 (j : Int) ∧ j ≤ p.names.length ∧ Hid (∀ i (hi : i < p.names.length), i < j → isKey p.names[i] = true)) (fun i _ => p.names.length - (intOf i).toNat)
  case atStart => exact ⟨0, Hid.mk (Kept.refl [] W0), rfl, by omega, Hid.mk (fun _ _ h => by omega)⟩
  case round =>
    obtain ⟨j, HW, rfl, hj, HJ⟩ := hrel
    have HKW := Hid.mk (HK0.out.then HW.out)
    have y1' : wr.cell? ⟨g, 1, none⟩ = some (.slice b p.code.length d) := HW.out.cell_eq y1
    by_cases hlt : j < p.names.length
    · obtain ⟨b1, o1, rfl, hc1⟩ := names_at (HP.out.names.keep HKW.out) hlt
      have hjI : (j : Int) < (p.names.length : Int) := by omega
      have hj0 : (0 : Int) ≤ (j : Int) := by omega
      have HC := Hid.mk (isKey30 (w := wr) p.names[j] (hK _ (List.getElem_mem hlt)))
      have hc1' : wr.cell? ⟨b1, o1 + j * 1, none⟩ = some (.string ⟨p.names[j].toArray⟩) := by rw [Nat.mul_one]; exact hc1
      have HY := Hid.mk (fun h => formed_name (p := p) hlt h)
      have HT : Hid (isKey p.names[j] = true → ∀ i (hi : i < p.names.length), i < j + 1 → isKey p.names[i] = true) := fun h i hi hij => by
        by_cases e : i = j
        · subst e; exact h
        · exact HJ.out i hi (by omega)
      cases hk : isKey p.names[j] with
      | false =>
        rw [hk] at HC
        obtain rfl : R = false := by rw [← HR.out]; exact HY.out hk
        clear HR HJ HT hk
        generalize (⟨p.names[j].toArray⟩ : ByteArray) = q at *
        go_wp2_with fail
        refine HC.out.mono ?_
        rintro e w1 ⟨rfl, rfl⟩
        go_wp2_with fail
        go_ret
        exact ⟨rfl, HKW.out⟩
      | true =>
        rw [hk] at HC
        have HT' := Hid.mk (HT.out hk)
        clear HJ HT hk
        generalize (⟨p.names[j].toArray⟩ : ByteArray) = q at *
        go_wp2_with fail
        refine HC.out.mono ?_
        rintro e w1 ⟨rfl, rfl⟩
        go_wp2_with fail
        go_roundw
        case rel => exact ⟨j + 1, HW, by go_num, by omega, HT'⟩
        case measure => simp [intOf]; omega
    · have hje : ¬ (j : Int) < (p.names.length : Int) := by omega
      have HJ' : Hid (∀ i (hi : i < p.names.length), isKey p.names[i] = true) := fun i hi => HJ.out i hi (by omega)
      clear HJ
      go_wp2_with fail
      generalize wr = W1 at *
      go_loopw [31] (fun i wr => ∃ j : Nat, Hid (Kept [] W1 wr) ∧ i = .int .i64 (j : Int) ∧ j ≤ p.code.length ∧ Hid (∀ i (hi : i < p.code.length), i < j → okI p.names.length p.code.length p.code[i] = true)) (fun i _ => p.code.length - (intOf i).toNat)
      case atStart => exact ⟨0, Hid.mk (Kept.refl [] W1), rfl, by omega, Hid.mk (fun _ _ h => by omega)⟩
      case round =>
        obtain ⟨l, HW2, rfl, hl, HL⟩ := hrel
        have HKV := Hid.mk (HKW.out.then HW2.out)
        have y3 : wr.cell? ⟨g, 0, none⟩ = some (.slice a p.names.length c) := (HW.out.then HW2.out).cell_eq y0
        have y4 : wr.cell? ⟨g, 1, none⟩ = some (.slice b p.code.length d) := HW2.out.cell_eq y1'
        by_cases hlt2 : l < p.code.length
        · obtain ⟨b1, o1, rfl, hc1, hc2⟩ := code_at (HP.out.code.keep HKV.out) hlt2
          have hjI : (l : Int) < (p.code.length : Int) := by omega
          have hj0 : (0 : Int) ≤ (l : Int) := by omega
          have HC := Hid.mk (fun (W : World) (k : Kept [] w W) => HF.out W p.code[l] a (some ⟨b1, o1, none⟩) c d k (by omega) (by omega))
          have HY := Hid.mk (fun h => formed_code (p := p) hlt2 h)
          have HT : Hid (okI p.names.length p.code.length p.code[l] = true → ∀ i (hi : i < p.code.length), i < l + 1 → okI p.names.length p.code.length p.code[i] = true) := fun h i hi hij => by
            by_cases e : i = l
            · subst e; exact h
            · exact HL.out i hi (by omega)
          obtain ⟨W3, e3, k3, hz3, hb3⟩ := box1 wr (.cells #[.int .i64 p.code[l].op, .int .i64 p.code[l].arg] 83)
          have HK3 := Hid.mk k3
          have x0 : W3.cell? ⟨wr.heap.size, 0, none⟩ = some (.int .i64 p.code[l].op) := by simp [World.cell?, hb3]
          have x1 : W3.cell? ⟨wr.heap.size, 1, none⟩ = some (.int .i64 p.code[l].arg) := by simp [World.cell?, hb3]
          have x2 : W3.cell? ⟨g, 0, none⟩ = some (.slice a p.names.length c) := k3.cell_eq y3
          have x3 : W3.cell? ⟨g, 1, none⟩ = some (.slice (some ⟨b1, o1, none⟩) p.code.length d) := k3.cell_eq y4
          clear k3 hz3 hb3
          cases hk : okI p.names.length p.code.length p.code[l] with
          | false =>
            rw [hk] at HC
            obtain rfl : R = false := by rw [← HR.out]; exact HY.out hk
            clear HR HL HT hk HF HJ'
            generalize p.code[l].op = q1 at *
            generalize p.code[l].arg = q2 at *
            go_wp2_with fail
            refine (HC.out W3 (HKV.out.then HK3.out)).mono ?_
            rintro e w4 ⟨rfl, k4⟩
            go_wp2_with fail
            go_ret
            exact ⟨rfl, (HKV.out.then HK3.out).then k4⟩
          | true =>
            rw [hk] at HC
            have HT' := Hid.mk (HT.out hk)
            clear HL HT hk
            generalize p.code[l].op = q1 at *
            generalize p.code[l].arg = q2 at *
            go_wp2_with fail
            refine (HC.out W3 (HKV.out.then HK3.out)).mono ?_
            rintro e w4 ⟨rfl, k4⟩
            go_wp2_with fail
            go_roundw
            case rel => exact ⟨l + 1, Hid.mk ((HW2.out.then HK3.out).then k4), by go_num, by omega, HT'⟩
            case measure => simp [intOf]; omega
        · have hje2 : ¬ (l : Int) < (p.code.length : Int) := by omega
          have HL' : Hid (∀ i (hi : i < p.code.length), okI p.names.length p.code.length p.code[i] = true) := fun i hi => HL.out i hi (by omega)
          obtain rfl : R = true := by rw [← HR.out]; exact formed_yes (by omega) (by omega) HJ'.out HL'.out
          clear HL HR HL' HJ'
          go_wp2_with fail
          go_ret
          exact ⟨rfl, HKV.out⟩
end
end Go.Proofs.YtngnenbidpojeaaGreatDoor
/-
  The program's Run.
-/
namespace Go.Proofs.YtngnenbidpojeaaGreatDoor
open Go.RowKit
set_option maxRecDepth 100000
set_option linter.unusedVariables false
/-- A result in memory; its rows lie in blocks from n on. -/
structure IsRs (n : Nat) (w : World) (v : Value) (R : Rsl) : Prop where
  form : ∃ ev sn tm, v = .agg (cellsR R.reg ev sn tm R.k).toArray ∧ ReadsR 2 w ev (rowE R.ev) ∧ ReadsR 3 w sn (rowS R.sent) ∧ ReadsR 5 w tm (rowT R.tm) ∧ (∀ g, ev.ownBlock = some g → n ≤ g) ∧ (∀ g, sn.ownBlock = some g → n ≤ g) ∧ (∀ g, tm.ownBlock = some g → n ≤ g)
  r8 : R.reg.length = 8
theorem IsRs.keep {n : Nat} {w w' : World} {v : Value} {R : Rsl} (h : IsRs n w v R) (k : Kept [] w w') : IsRs n w' v R := by
  obtain ⟨⟨ev, sn, tm, h1, h2, h3, h4, h6⟩, h5⟩ := h
  exact ⟨⟨ev, sn, tm, h1, h2.keep k, h3.keep k, h4.keep k, h6⟩, h5⟩
/-- The arguments of Run. -/
structure Ins (w : World) (nv cv av : Value) (p : Pg) (reg : List Int) (l : Lt) (now : Int) : Prop where
  prog : IsP_N w nv cv p
  names : ∀ s ∈ p.names, s.length ≤ 9223372036854775807
  okp : OkP p
  args : ReadsR 1 w av (rowJ l.args)
  ok : l.ok
  fr : l.fr.length ≤ 9223372036854775807
  r8 : reg.length = 8
  regs : ∀ z ∈ reg, I64 z
  now : I64 now
theorem Ins.keep {w w' : World} {nv cv av : Value} {p : Pg} {reg : List Int} {l : Lt} {now : Int} (h : Ins w nv cv av p reg l now) (k : Kept [] w w') : Ins w' nv cv av p reg l now :=
  ⟨h.prog.keep k, h.names, h.okp, h.args.keep k, h.ok, h.fr, h.r8, h.regs, h.now⟩
theorem eight_of {reg : List Int} (h : reg.length = 8) : ∃ a0 a1 a2 a3 a4 a5 a6 a7, reg = [a0, a1, a2, a3, a4, a5, a6, a7] := by
  match reg, h with
  | [a0, a1, a2, a3, a4, a5, a6, a7], _ => exact ⟨a0, a1, a2, a3, a4, a5, a6, a7, rfl⟩
/-- A result of which only the steps are told. -/
theorem isRs_none {n : Nat} (w : World) (k : Nat) : IsRs n w (.agg (cellsR z8_N (.slice none 0 0) (.slice none 0 0) (.slice none 0 0) k).toArray) (Rsl.none k) := ⟨⟨_, _, _, rfl, ReadsR.nil 2 w, ReadsR.nil 3 w, ReadsR.nil 5 w, fun g h => by simp [Value.ownBlock] at h, fun g h => by simp [Value.ownBlock] at h, fun g h => by simp [Value.ownBlock] at h⟩, rfl⟩
theorem size37 : (Tryz.prog.info? 103).map (·.size) = some 12 := by kernel_rfl
section
variable {w : World} {nv cv av : Value} {p : Pg} {reg : List Int} {l : Lt} {now : Int}
set_option maxHeartbeats 4000000 in
theorem run11_no (hG : Glob w) (hI : Ins w nv cv av p reg l now) (hm : mayI p l now = false) : Calls Tryz.prog 34 #[.agg #[nv, cv], .agg (BI_N reg).toArray, .agg #[.string ⟨l.fr.toArray⟩, .int .u64 (l.ser : Int), .int .i64 l.kind, av], .int .i64 now] w fun e w' => ∃ v, e = .returned (.tuple #[v, .int .i64 1]) ∧ IsRs w.heap.size w' v (Rsl.none 0) ∧ Kept [] w w' := by
  obtain ⟨a0, a1, a2, a3, a4, a5, a6, a7, rfl⟩ := eight_of hI.r8
  obtain ⟨a, c, b, d, rfl, rfl, hl1, hl2⟩ := hI.prog.form
  obtain ⟨aa, ac, rfl, ha1, ha2⟩ := hI.args.form
  rw [rowJ_length] at *
  show Calls Tryz.prog 34 #[_, .agg #[.int .i64 a0, .int .i64 a1, .int .i64 a2, .int .i64 a3, .int .i64 a4, .int .i64 a5, .int .i64 a6, .int .i64 a7], _, _] w _
  obtain ⟨W0, e0, k0, hz0, hb0, hb1, hb2, hb3⟩ := box4 w (.cells #[.slice a p.names.length c, .slice b p.code.length d] 44) (.cells #[.int .i64 a0, .int .i64 a1, .int .i64 a2, .int .i64 a3, .int .i64 a4, .int .i64 a5, .int .i64 a6, .int .i64 a7] 84) (.cells #[.string ⟨l.fr.toArray⟩, .int .u64 (l.ser : Int), .int .i64 l.kind, .slice aa l.args.length ac] 81) (.cells #[.int .i64 0, .int .i64 0, .int .i64 0, .int .i64 0, .int .i64 0, .int .i64 0, .int .i64 0, .int .i64 0, .slice none 0 0, .slice none 0 0, .slice none 0 0, .int .i64 0] 103)
  have hb3 : W0.heap[w.heap.size + 1 + 1 + 1]? = some (.cells (cellsR z8_N (.slice none 0 0) (.slice none 0 0) (.slice none 0 0) 0).toArray 103 (0, 0)) := hb3
  obtain ⟨y0, y1⟩ := cells2_N hb0
  obtain ⟨x0, x1, x2, x3⟩ := cells4 hb2
  have HF := Hid.mk (formed13_N (hI.prog.keep k0) hI.names (hG.kept k0))
  have HL := Hid.mk (fun W => lformed18 (w := W) l aa ac hI.fr (by omega))
  have HB2 := Hid.mk hb2
  have HB3 := Hid.mk hb3
  have HK := Hid.mk k0
  have HE : Hid (∀ W, Kept [] W0 W → ∃ W', (Instr.storeAt 103 (.pointer (some ⟨w.heap.size + 1 + 1 + 1, 0, none⟩)) (.agg (cellsR z8_N (.slice none 0 0) (.slice none 0 0) (.slice none 0 0) 0).toArray)).run Tryz.prog W = .ok () W' ∧ W'.heap[w.heap.size + 1 + 1 + 1]? = some (.cells (cellsR z8_N (.slice none 0 0) (.slice none 0 0) (.slice none 0 0) 0).toArray 103 (0, 0)) ∧ Kept [] w W') := fun W kW => by
    obtain ⟨W', h1, h2, h3⟩ := store_whole (P := Tryz.prog) (kW.keeps hb3 (by simp)) rfl size37 (cellsR_one rfl rfl rfl)
    exact ⟨W', h1, h2, (k0.then kW).trans h3 (fun x hx => .inr (by simp at hx; omega))⟩
  clear hb0 hb1 hb2 hb3 hG hI k0 hz0
  unfold mayI at hm
  cases hf : formedP p with
  | false =>
    rw [hf] at HF
    clear hm HL
    go_enter Tryz.func34, Tryz.ntmps34
    go_wp2_with (first | (go_at_call 32; refine HF.out.mono ?_; rintro e w1 ⟨rfl, k1⟩; obtain ⟨W2, hst, hb, kk⟩ := HE.out w1 k1) | (refine wpList_store_run_N 103 (.tmp 8) (.tmp 24) rfl rfl _ _ rfl rfl _ hst ?_))
    exact bodyPost_ret (results_cell_row2 (p := 8) (u := 9) (ty := 103) rfl _ _ (w.heap.size + 1 + 1 + 1) 103 _ (0, 0) _ rfl hb Tryz.underlying103 rfl (by kernel_rfl) _ rfl) rfl ⟨_, rfl, isRs_none _ 0, kk⟩
  | true =>
    rw [hf] at HF hm
    cases hlf : l.formed with
    | false =>
      rw [hlf] at HL
      clear hm
      go_enter Tryz.func34, Tryz.ntmps34
      go_wp2_with (first | (go_at_call 32; refine HF.out.mono ?_; rintro e w1 ⟨rfl, k1⟩; obtain ⟨v0, v1, v2, v3⟩ := cells4 (k1.keeps HB2.out (by simp))) | (go_at_call 74; refine (HL.out _).mono ?_; rintro e w2 ⟨rfl, k2⟩; obtain ⟨W2, hst, hb, kk⟩ := HE.out w2 (k1.then k2)) | (refine wpList_store_run_N 103 (.tmp 8) (.tmp 24) rfl rfl _ _ rfl rfl _ hst ?_))
      exact bodyPost_ret (results_cell_row2 (p := 8) (u := 9) (ty := 103) rfl _ _ (w.heap.size + 1 + 1 + 1) 103 _ (0, 0) _ rfl hb Tryz.underlying103 rfl (by kernel_rfl) _ rfl) rfl ⟨_, rfl, isRs_none _ 0, kk⟩
    | true =>
      rw [hlf] at HL hm
      have hneg : now < 0 := by simpa using hm
      clear hm
      go_enter Tryz.func34, Tryz.ntmps34
      go_wp2_with (first | (go_at_call 32; refine HF.out.mono ?_; rintro e w1 ⟨rfl, k1⟩; obtain ⟨v0, v1, v2, v3⟩ := cells4 (k1.keeps HB2.out (by simp))) | (go_at_call 74; refine (HL.out _).mono ?_; rintro e w2 ⟨rfl, k2⟩; obtain ⟨W2, hst, hb, kk⟩ := HE.out w2 (k1.then k2)) | (refine wpList_store_run_N 103 (.tmp 8) (.tmp 24) rfl rfl _ _ rfl rfl _ hst ?_))
      exact bodyPost_ret (results_cell_row2 (p := 8) (u := 9) (ty := 103) rfl _ _ (w.heap.size + 1 + 1 + 1) 103 _ (0, 0) _ rfl hb Tryz.underlying103 rfl (by kernel_rfl) _ rfl) rfl ⟨_, rfl, isRs_none _ 0, kk⟩
end
end Go.Proofs.YtngnenbidpojeaaGreatDoor
