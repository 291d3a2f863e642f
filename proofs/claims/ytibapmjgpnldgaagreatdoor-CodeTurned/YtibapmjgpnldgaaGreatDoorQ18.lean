import Derived.Deep.MidRow
import Derived.Test.YtibapmjgpnldgaaGreatDoorQ14
import Derived.Test.YtibapmjgpnldgaaGreatDoorQ16
import Derived.Test.YtibapmjgpnldgaaGreatDoorQ17
/-
  Formed.
-/
namespace Go.Proofs.YtibapmjgpnldgaaGreatDoor
open Go.RowKit
set_option maxRecDepth 100000
set_option linter.unusedVariables false
theorem formed_wrong {p : Pg} (h : 8 < p.names.length ∨ 200 < p.code.length) : formedP p = false := by
  cases e : formedP p with
  | false => rfl
  | true => have := formed_parts e; omega
theorem all_false {α : Type} {f : α → Bool} {l : List α} {j : Nat} (hj : j < l.length) (h : f l[j] = false) : l.all f = false := by
  cases e : l.all f with
  | false => rfl
  | true => rw [List.all_eq_true.1 e _ (List.getElem_mem hj)] at h; cases h
theorem formed_name {p : Pg} {j : Nat} (hj : j < p.names.length) (h : isKey p.names[j] = false) : formedP p = false := by
  unfold formedP
  rw [all_false hj h]
  simp
theorem formed_code {p : Pg} {j : Nat} (hj : j < p.code.length) (h : okI p.names.length p.code.length p.code[j] = false) : formedP p = false := by
  unfold formedP
  rw [all_false hj h]
  simp
theorem all_true {α : Type} {f : α → Bool} {l : List α} (h : ∀ i (hi : i < l.length), f l[i] = true) : l.all f = true := by
  rw [List.all_eq_true]
  intro x hx
  obtain ⟨i, hi, rfl⟩ := List.getElem_of_mem hx
  exact h i hi
theorem formed_yes {p : Pg} (h1 : p.names.length ≤ 8) (h2 : p.code.length ≤ 200) (h3 : ∀ i (hi : i < p.names.length), isKey p.names[i] = true) (h4 : ∀ i (hi : i < p.code.length), okI p.names.length p.code.length p.code[i] = true) : formedP p = true := by
  unfold formedP
  rw [all_true h3, all_true h4]
  simp [h1, h2]
section
variable {w : World}
set_option maxHeartbeats 1000000 in
theorem formed13 {v u : Value} {p : Pg} (hP : IsP w v u p) (hK : ∀ s ∈ p.names, s.length ≤ 9223372036854775807) (hG : Glob w) :
    Calls Tryz.prog 12 #[.agg #[v, u]] w fun e w' => e = .returned (.bool (formedP p)) ∧ Kept [] w w' := by
  obtain ⟨a, c, b, d, rfl, rfl, hl1, hl2⟩ := hP.form
  have HF : Hid (∀ (W : World) (x : In) (a b : Option Addr) (c d : Nat), Kept [] w W → p.names.length ≤ 1000 → p.code.length ≤ 1000 → Calls Tryz.prog 31 #[.agg #[.slice a p.names.length c, .slice b p.code.length d], .agg #[.int .i64 x.op, .int .i64 x.arg]] W fun e w' => e = .returned (.bool (okI p.names.length p.code.length x)) ∧ Kept [] W w') := fun W x a b c d k h1 h2 => fits31 (hG.kept k) x h1 h2
  clear hG
  have HP := Hid.mk hP
  obtain ⟨W0, e0, k0, hz0, hb0⟩ := box1 w (.cells #[.slice a p.names.length c, .slice b p.code.length d] 33)
  have y0 : W0.cell? ⟨w.heap.size, 0, none⟩ = some (.slice a p.names.length c) := by simp [World.cell?, hb0]
  have y1 : W0.cell? ⟨w.heap.size, 1, none⟩ = some (.slice b p.code.length d) := by simp [World.cell?, hb0]
  have HK0 := Hid.mk k0
  clear k0 hb0 hz0 hP
  obtain ⟨R, HR⟩ : ∃ R, Hid (formedP p = R) := ⟨_, rfl⟩
  rw [HR.out]
  by_cases hA : 8 < p.names.length
  · obtain rfl : R = false := by rw [← HR.out]; exact formed_wrong (.inl hA)
    have hA' : (8 : Int) < (p.names.length : Int) := by omega
    clear HR
    go_enter Tryz.func12, Tryz.ntmps12
    go_wp2_with fail
    go_ret
    exact ⟨rfl, HK0.out⟩
  have hA' : ¬ (8 : Int) < (p.names.length : Int) := by omega
  by_cases hB : 200 < p.code.length
  · obtain rfl : R = false := by rw [← HR.out]; exact formed_wrong (.inr hB)
    have hB' : (200 : Int) < (p.code.length : Int) := by omega
    clear HR
    go_enter Tryz.func12, Tryz.ntmps12
    go_wp2_with fail
    go_ret
    exact ⟨rfl, HK0.out⟩
  have hB' : ¬ (200 : Int) < (p.code.length : Int) := by omega
  go_enter Tryz.func12, Tryz.ntmps12
  go_wp2_with fail
  generalize hg : w.heap.size = g at *
  clear hg
  go_loopw [20] (fun i wr => ∃ j : Nat, Hid (Kept [] W0 wr) ∧ i = .int .i64 (j : Int) ∧ j ≤ p.names.length ∧ Hid (∀ i (hi : i < p.names.length), i < j → isKey p.names[i] = true)) (fun i _ => p.names.length - (intOf i).toNat)
  case atStart => exact ⟨0, Hid.mk (Kept.refl [] W0), rfl, by omega, Hid.mk (fun _ _ h => by omega)⟩
  case round =>
    obtain ⟨j, HW, rfl, hj, HJ⟩ := hrel
    have HKW := Hid.mk (HK0.out.then HW.out)
    have y1' : wr.cell? ⟨g, 1, none⟩ = some (.slice b p.code.length d) := HW.out.cell_eq y1
    by_cases hlt : j < p.names.length
    · obtain ⟨b1, o1, rfl, hc1⟩ := names_at (HP.out.names.keep HKW.out) hlt
      have hjI : (j : Int) < (p.names.length : Int) := by omega
      have hj0 : (0 : Int) ≤ (j : Int) := by omega
      have HC := Hid.mk (isKey30 (w := wr) p.names[j] (hK _ (List.getElem_mem hlt)))
      have hc1' : wr.cell? ⟨b1, o1 + j * 1, none⟩ = some (.string ⟨p.names[j].toArray⟩) := by rw [Nat.mul_one]; exact hc1
      have HY := Hid.mk (fun h => formed_name (p := p) hlt h)
      have HT : Hid (isKey p.names[j] = true → ∀ i (hi : i < p.names.length), i < j + 1 → isKey p.names[i] = true) := fun h i hi hij => by
        by_cases e : i = j
        · subst e; exact h
        · exact HJ.out i hi (by omega)
      cases hk : isKey p.names[j] with
      | false =>
        rw [hk] at HC
        obtain rfl : R = false := by rw [← HR.out]; exact HY.out hk
        clear HR HJ HT hk
        generalize (⟨p.names[j].toArray⟩ : ByteArray) = q at *
        go_wp2_with fail
        refine HC.out.mono ?_
        rintro e w1 ⟨rfl, rfl⟩
        go_wp2_with fail
        go_ret
        exact ⟨rfl, HKW.out⟩
      | true =>
        rw [hk] at HC
        have HT' := Hid.mk (HT.out hk)
        clear HJ HT hk
        generalize (⟨p.names[j].toArray⟩ : ByteArray) = q at *
        go_wp2_with fail
        refine HC.out.mono ?_
        rintro e w1 ⟨rfl, rfl⟩
        go_wp2_with fail
        go_roundw
        case rel => exact ⟨j + 1, HW, by go_num, by omega, HT'⟩
        case measure => simp [intOf]; omega
    · have hje : ¬ (j : Int) < (p.names.length : Int) := by omega
      have HJ' : Hid (∀ i (hi : i < p.names.length), isKey p.names[i] = true) := fun i hi => HJ.out i hi (by omega)
      clear HJ
      go_wp2_with fail
      generalize wr = W1 at *
      go_loopw [31] (fun i wr => ∃ j : Nat, Hid (Kept [] W1 wr) ∧ i = .int .i64 (j : Int) ∧ j ≤ p.code.length ∧ Hid (∀ i (hi : i < p.code.length), i < j → okI p.names.length p.code.length p.code[i] = true)) (fun i _ => p.code.length - (intOf i).toNat)
      case atStart => exact ⟨0, Hid.mk (Kept.refl [] W1), rfl, by omega, Hid.mk (fun _ _ h => by omega)⟩
      case round =>
        obtain ⟨l, HW2, rfl, hl, HL⟩ := hrel
        have HKV := Hid.mk (HKW.out.then HW2.out)
        have y3 : wr.cell? ⟨g, 0, none⟩ = some (.slice a p.names.length c) := (HW.out.then HW2.out).cell_eq y0
        have y4 : wr.cell? ⟨g, 1, none⟩ = some (.slice b p.code.length d) := HW2.out.cell_eq y1'
        by_cases hlt2 : l < p.code.length
        · obtain ⟨b1, o1, rfl, hc1, hc2⟩ := code_at (HP.out.code.keep HKV.out) hlt2
          have hjI : (l : Int) < (p.code.length : Int) := by omega
          have hj0 : (0 : Int) ≤ (l : Int) := by omega
          have HC := Hid.mk (fun (W : World) (k : Kept [] w W) => HF.out W p.code[l] a (some ⟨b1, o1, none⟩) c d k (by omega) (by omega))
          have HY := Hid.mk (fun h => formed_code (p := p) hlt2 h)
          have HT : Hid (okI p.names.length p.code.length p.code[l] = true → ∀ i (hi : i < p.code.length), i < l + 1 → okI p.names.length p.code.length p.code[i] = true) := fun h i hi hij => by
            by_cases e : i = l
            · subst e; exact h
            · exact HL.out i hi (by omega)
          obtain ⟨W3, e3, k3, hz3, hb3⟩ := box1 wr (.cells #[.int .i64 p.code[l].op, .int .i64 p.code[l].arg] 45)
          have HK3 := Hid.mk k3
          have x0 : W3.cell? ⟨wr.heap.size, 0, none⟩ = some (.int .i64 p.code[l].op) := by simp [World.cell?, hb3]
          have x1 : W3.cell? ⟨wr.heap.size, 1, none⟩ = some (.int .i64 p.code[l].arg) := by simp [World.cell?, hb3]
          have x2 : W3.cell? ⟨g, 0, none⟩ = some (.slice a p.names.length c) := k3.cell_eq y3
          have x3 : W3.cell? ⟨g, 1, none⟩ = some (.slice (some ⟨b1, o1, none⟩) p.code.length d) := k3.cell_eq y4
          clear k3 hz3 hb3
          cases hk : okI p.names.length p.code.length p.code[l] with
          | false =>
            rw [hk] at HC
            obtain rfl : R = false := by rw [← HR.out]; exact HY.out hk
            clear HR HL HT hk HF HJ'
            generalize p.code[l].op = q1 at *
            generalize p.code[l].arg = q2 at *
            go_wp2_with fail
            refine (HC.out W3 (HKV.out.then HK3.out)).mono ?_
            rintro e w4 ⟨rfl, k4⟩
            go_wp2_with fail
            go_ret
            exact ⟨rfl, (HKV.out.then HK3.out).then k4⟩
          | true =>
            rw [hk] at HC
            have HT' := Hid.mk (HT.out hk)
            clear HL HT hk
            generalize p.code[l].op = q1 at *
            generalize p.code[l].arg = q2 at *
            go_wp2_with fail
            refine (HC.out W3 (HKV.out.then HK3.out)).mono ?_
            rintro e w4 ⟨rfl, k4⟩
            go_wp2_with fail
            go_roundw
            case rel => exact ⟨l + 1, Hid.mk ((HW2.out.then HK3.out).then k4), by go_num, by omega, HT'⟩
            case measure => simp [intOf]; omega
        · have hje2 : ¬ (l : Int) < (p.code.length : Int) := by omega
          have HL' : Hid (∀ i (hi : i < p.code.length), okI p.names.length p.code.length p.code[i] = true) := fun i hi => HL.out i hi (by omega)
          obtain rfl : R = true := by rw [← HR.out]; exact formed_yes (by omega) (by omega) HJ'.out HL'.out
          clear HL HR HL' HJ'
          go_wp2_with fail
          go_ret
          exact ⟨rfl, HKV.out⟩
end
end Go.Proofs.YtibapmjgpnldgaaGreatDoor
/-
  find, parseInt.
-/
namespace Go.Proofs.YtibapmjgpnldgaaGreatDoor
open Go.RowKit
set_option maxRecDepth 100000
set_option linter.unusedVariables false
open Go.Lib (itoa)
theorem str_eq (s t : List UInt8) : ((⟨s.toArray⟩ : ByteArray) = ⟨t.toArray⟩) ↔ s = t := by
  constructor
  · intro h
    have := congrArg (fun b => b.data.toList) h
    simpa using this
  · rintro rfl; rfl
theorem grown_kept {w w' : World} (h : ∃ k os, w' = Sort.grow (w.drewN k) os) : Kept [] w w' := by
  obtain ⟨k, os, rfl⟩ := h
  refine ⟨rfl, rfl, rfl, ?_, fun i hi _ => ?_⟩
  · simp [Sort.grow]
  · simp only [Sort.grow, World.heap_drewN]
    rw [Array.getElem?_append_left hi]
theorem bytes_kept {w w' : World} {t : TypeId} (h : w' = w ∨ ∃ x, w' = Lib.bytesWorld w t x) : Kept [] w w' := by
  rcases h with rfl | ⟨x, rfl⟩
  · exact Kept.refl [] _
  · have B := Lib.bytesWorld_below w t x
    exact ⟨B.os, B.tape, B.output, B.size, fun k hk _ => B.block k hk⟩
theorem below_kept {w w' : World} (B : Below w.heap.size w w') : Kept [] w w' := ⟨B.os, B.tape, B.output, B.size, fun k hk _ => B.block k hk⟩
section
variable {w : World}
/-- What parseInt answers: what it says of a text. -/
def IntAt (s : List UInt8) (e : Ending) : Prop := (∃ z, intD s = some z ∧ e = .returned (.tuple #[.int .i64 z, .bool true])) ∨ (intD s = none ∧ ∃ z, e = .returned (.tuple #[.int .i64 z, .bool false]))
set_option maxHeartbeats 1000000 in
theorem parseInt65 (hG : Glob w) (s : List UInt8) (hs : s.length ≤ 100000) : Calls Tryz.prog 57 #[.string ⟨s.toArray⟩] w fun e w' => IntAt s e ∧ Kept [] w w' := by
  have hz : (⟨s.toArray⟩ : ByteArray).size = s.length := by simp [ByteArray.size]
  cases hp : Lib.parseIntB 64 s with
  | ok v =>
    obtain ⟨b1, b2, y1, y2⟩ := parse_yes hp
    have HC := Hid.mk (strconv_ParseInt_10_at64_ok ⟨s.toArray⟩ (by omega) v (by simpa using hp) w)
    have HF : Hid (∀ W, Kept [] w W → Calls Tryz.prog 34 #[.int .i64 v, .int .i64 10] W fun e w' => e = .returned (.string ⟨(itoa v).toArray⟩) ∧ Kept [] W w') := fun W k => (strconv_FormatInt_10 v b1 b2 W (hG.kept k).tab).mono fun e w' h => ⟨h.1, grown_kept h.2⟩
    clear hG hp
    have HY1 := Hid.mk y1
    have HY2 := Hid.mk y2
    clear y1 y2
    by_cases he : itoa v = s
    · rw [he] at HF
      have Y := Hid.mk (HY1.out he)
      clear he HY1 HY2
      go_enter Tryz.func57, Tryz.ntmps57
      go_wp2_with fail
      refine HC.out.mono ?_
      rintro e w1 ⟨rfl, hw1⟩
      have k1 := bytes_kept hw1
      clear hw1
      go_wp2_with fail
      refine (HF.out w1 k1).mono ?_
      rintro e w2 ⟨rfl, k2⟩
      go_wp2_with fail
      go_ret2
      exact ⟨.inl ⟨_, Y.out, rfl⟩, k1.then k2⟩
    · have Y := Hid.mk (HY2.out he)
      have t1 : ((itoa v) == s) = false := by simpa using he
      clear HY1 HY2
      generalize itoa v = q at *
      go_enter Tryz.func57, Tryz.ntmps57
      go_wp2_with fail
      refine HC.out.mono ?_
      rintro e w1 ⟨rfl, hw1⟩
      have k1 := bytes_kept hw1
      clear hw1
      go_wp2_with fail
      refine (HF.out w1 k1).mono ?_
      rintro e w2 ⟨rfl, k2⟩
      go_wp2_with fail
      go_ret2
      exact ⟨.inr ⟨Y.out, _, rfl⟩, k1.then k2⟩
  | «syntax» =>
    obtain ⟨tp, pp, hv⟩ := hG.syn
    have HC := Hid.mk (strconv_ParseInt_10_at64_syntax ⟨s.toArray⟩ (by omega) (by simpa using hp) _ w hv (.inr ⟨_, _, rfl⟩))
    have HN : Hid (intD s = none) := parse_not (by rw [hp]; simp)
    clear hG hp hv
    go_enter Tryz.func57, Tryz.ntmps57
    go_wp2_with fail
    refine HC.out.mono ?_
    rintro e w1 ⟨M, rfl, -, -, B⟩
    have k1 := below_kept B
    clear B
    go_wp2_with fail
    go_ret2
    exact ⟨.inr ⟨HN.out, _, rfl⟩, k1⟩
  | range =>
    obtain ⟨tp, pp, hv⟩ := hG.rng
    have HC := Hid.mk (strconv_ParseInt_10_at64_range ⟨s.toArray⟩ (by omega) (by simpa using hp) _ w hv (.inr ⟨_, _, rfl⟩))
    have HN : Hid (intD s = none) := parse_not (by rw [hp]; simp)
    clear hG hp hv
    generalize Lib.intSat 64 _ = q at HC
    go_enter Tryz.func57, Tryz.ntmps57
    go_wp2_with fail
    refine HC.out.mono ?_
    rintro e w1 ⟨M, rfl, -, -, B⟩
    have k1 := below_kept B
    clear B
    go_wp2_with fail
    go_ret2
    exact ⟨.inr ⟨HN.out, _, rfl⟩, k1⟩
end
end Go.Proofs.YtibapmjgpnldgaaGreatDoor
/-
  find.
-/
namespace Go.Proofs.YtibapmjgpnldgaaGreatDoor
open Go.RowKit
set_option maxRecDepth 100000
set_option linter.unusedVariables false
theorem wpList_load_run {w : World} {ops : Array Oper} {rest : List Oper} {o : Oper} {a : Act} {Q : Exit → Act → World → Prop} (t : TypeId) (x : Operand)
    (hop : o.op = .load t x) (hg : o.guard = none) (vx : Value) (hx : a.eval x = vx) (v : Value) (hrun : (Instr.loadAt t vx).run Tryz.prog w = .ok v w)
    (h : wpList Tryz.prog ops Q rest (a.put o.dst v) w) : wpList Tryz.prog ops Q (o :: rest) a w := by
  refine wpList_plain hg fun K hK' => ?_
  unfold Oper.wp execOp
  simp only [hop, hx, Sem.run_bind, Sem.run_pure, Result.andThen_ok, hrun]
  exact hK' _ _ h
def rowW : List (List Value) := words.map fun x => [.string ⟨x.1.toArray⟩, .int .i64 (x.2 : Int)]
theorem rowW_wide : Wide 2 rowW := fun r hr => by
  obtain ⟨s, -, rfl⟩ := List.mem_map.1 hr
  exact ⟨rfl, fun u hu => by simp at hu; rcases hu with rfl | rfl <;> rfl⟩
theorem rowW_at {w : World} (h : Glob w) : w.rangeAt 0 0 rowW.flatten := fun m x hx => by
  obtain ⟨j, r, i, h1, h2, rfl⟩ := rowW_wide.inv m x hx
  have : ∃ s k, words[j]? = some (s, k) ∧ r = [.string ⟨s.toArray⟩, .int .i64 (k : Int)] := by
    unfold rowW at h1
    rw [List.getElem?_map] at h1
    obtain ⟨y, e, e'⟩ := Option.map_eq_some_iff.1 h1
    exact ⟨y.1, y.2, e, e'.symm⟩
  obtain ⟨s, k, e, rfl⟩ := this
  obtain ⟨c1, c2⟩ := h.ops j s k e
  match i, h2 with
  | 0, h2 => simp at h2; subst h2; rw [Nat.zero_add, Nat.mul_comm]; exact c1
  | 1, h2 => simp at h2; subst h2; rw [Nat.zero_add, Nat.mul_comm]; exact c2
theorem size108 : (Tryz.prog.info? 84).map (·.size) = some rowW.flatten.length := by kernel_rfl
theorem load108 {w : World} (h : Glob w) : (Instr.loadAt 84 (.pointer (some ⟨0, 0, none⟩))).run Tryz.prog w = .ok (.agg rowW.flatten.toArray) w :=
  run_loadAt_mid w 0 0 84 _ _ (rowW_at h) Tryz.underlying84 rfl size108
theorem take_two {L : List Value} {m : Nat} {a b : Value} (h0 : L[m]? = some a) (h1 : L[m + 1]? = some b) : List.take 2 (List.drop m L) = [a, b] := by
  apply List.ext_getElem?
  intro n
  match n with
  | 0 => simp [h0]
  | 1 => simp [h1]
  | n + 2 => simp; omega
theorem index108 {i : Nat} {s : List UInt8} {k : Nat} (h : words[i]? = some (s, k)) (W : World) : (Instr.index 84 (.agg rowW.flatten.toArray) (.int .i64 (i : Int))).run Tryz.prog W = .ok (.agg #[.string ⟨s.toArray⟩, .int .i64 (k : Int)]) W := by
  have hi : i < 24 := (List.getElem?_eq_some_iff.1 h).1
  have hs : (sizeOf 83).run Tryz.prog W = .ok 2 W := by kernel_rfl
  have hr : rowW[i]? = some [.string ⟨s.toArray⟩, .int .i64 (k : Int)] := by unfold rowW; rw [List.getElem?_map, h]; rfl
  have hc0 := rowW_wide.at i _ hr 0 _ rfl
  have hc1 := rowW_wide.at i _ hr 1 _ rfl
  simp [Instr.index, run_underlying Tryz.underlying84, asIntOf, hs, part, go_sem, hi]
  exact take_two hc0 hc1
section
variable {w : World}
/-- What find answers. -/
def FindAt (s : List UInt8) (e : Ending) : Prop := (∃ i k, words[i]? = some (s, k) ∧ e = .returned (.tuple #[.int .i64 (i : Nat), .bool true])) ∨ ((∀ x ∈ words, x.1 ≠ s) ∧ e = .returned (.tuple #[.int .i64 0, .bool false]))
set_option maxHeartbeats 1000000 in
theorem find64 (hG : Glob w) (s : List UInt8) : Calls Tryz.prog 56 #[.string ⟨s.toArray⟩] w fun e w' => FindAt s e ∧ Kept [] w w' := by
  have HL := Hid.mk (load108 hG)
  have HX : Hid (∀ (i : Nat) (s : List UInt8) (k : Nat), words[i]? = some (s, k) → ∀ W : World, (Instr.index 84 (.agg rowW.flatten.toArray) (.int .i64 (i : Int))).run Tryz.prog W = .ok (.agg #[.string ⟨s.toArray⟩, .int .i64 (k : Int)]) W) := fun i s k h W => index108 h W
  clear hG
  generalize rowW.flatten.toArray = T at *
  go_enter Tryz.func56, Tryz.ntmps56
  go_wp2_with (first | (refine wpList_load_run 84 (.global 0) rfl rfl _ rfl (.agg T) HL.out ?_) | fail)
  go_loopw [7] (fun i wr => ∃ j : Nat, Hid (Kept [] w wr) ∧ i = .int .i64 (j : Int) ∧ j ≤ 24 ∧ Hid (∀ i x, i < j → words[i]? = some x → x.1 ≠ s)) (fun i _ => 24 - (intOf i).toNat)
  case atStart => exact ⟨0, Hid.mk (Kept.refl [] w), rfl, by omega, Hid.mk (fun _ _ h => by omega)⟩
  case round =>
    obtain ⟨j, HW, rfl, hj, HJ⟩ := hrel
    by_cases hlt : j < 24
    · have hjI : (j : Int) < 24 := by omega
      have hj0 : (0 : Int) ≤ (j : Int) := by omega
      have hl : j < words.length := hlt
      obtain ⟨q, k, hq⟩ : ∃ q k, words[j]? = some (q, k) := ⟨words[j].1, words[j].2, by rw [List.getElem?_eq_getElem hl]⟩
      have hx := HX.out j q k hq
      have HQ := Hid.mk hq
      clear hq HL HX
      obtain ⟨W3, e3, k3, hz3, hb3⟩ := box1 wr (.cells #[.string ⟨q.toArray⟩, .int .i64 (k : Int)] 83)
      have x0 : W3.cell? ⟨wr.heap.size, 0, none⟩ = some (.string ⟨q.toArray⟩) := by simp [World.cell?, hb3]
      have HK3 := Hid.mk (HW.out.then k3)
      clear k3 hz3 hb3
      by_cases he : q = s
      · subst he
        go_wp2_with fail
        go_ret2
        exact ⟨.inl ⟨j, k, HQ.out, rfl⟩, HK3.out⟩
      · have t1 : (q == s) = false := by simpa using he
        go_wp2_with fail
        go_roundw
        case rel => exact ⟨j + 1, HK3, by go_num, by omega, Hid.mk (fun i x hi hy => by
          by_cases e : i = j
          · subst e; rw [HQ.out] at hy; simp only [Option.some.injEq] at hy; rw [← hy]; exact he
          · exact HJ.out i x (by omega) hy)⟩
        case measure => simp [intOf]; omega
    · obtain rfl : j = 24 := by omega
      go_wp2_with fail
      go_ret2
      refine ⟨.inr ⟨fun x hx => ?_, rfl⟩, HW.out⟩
      obtain ⟨i, hi, rfl⟩ := List.getElem_of_mem hx
      exact HJ.out i _ hi (List.getElem?_eq_getElem hi)
end
end Go.Proofs.YtibapmjgpnldgaaGreatDoor
