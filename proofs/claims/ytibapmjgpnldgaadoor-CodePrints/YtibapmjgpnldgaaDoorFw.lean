/-
  find.
-/
import Derived.Test.YtibapmjgpnldgaaDoorFn
import Derived.Deep.MidRow
namespace Go.Proofs.YtibapmjgpnldgaaDoor
open Go.RowKit
set_option maxRecDepth 100000
set_option linter.unusedVariables false
theorem wpList_load_run {w : World} {ops : Array Oper} {rest : List Oper} {o : Oper} {a : Act} {Q : Exit → Act → World → Prop} (t : TypeId) (x : Operand)
    (hop : o.op = .load t x) (hg : o.guard = none) (vx : Value) (hx : a.eval x = vx) (v : Value) (hrun : (Instr.loadAt t vx).run Tryd.prog w = .ok v w)
    (h : wpList Tryd.prog ops Q rest (a.put o.dst v) w) : wpList Tryd.prog ops Q (o :: rest) a w := by
  refine wpList_plain hg fun K hK' => ?_
  unfold Oper.wp execOp
  simp only [hop, hx, Sem.run_bind, Sem.run_pure, Result.andThen_ok, hrun]
  exact hK' _ _ h
def rowW : List (List Value) := words.map fun x => [.string ⟨x.1.toArray⟩, .int .i64 (x.2 : Int)]
theorem rowW_wide : Wide 2 rowW := fun r hr => by
  obtain ⟨s, -, rfl⟩ := List.mem_map.1 hr
  exact ⟨rfl, fun u hu => by simp at hu; rcases hu with rfl | rfl <;> rfl⟩
theorem rowW_at {w : World} (h : Glob w) : w.rangeAt 0 0 rowW.flatten := fun m x hx => by
  obtain ⟨j, r, i, h1, h2, rfl⟩ := rowW_wide.inv m x hx
  have : ∃ s k, words[j]? = some (s, k) ∧ r = [.string ⟨s.toArray⟩, .int .i64 (k : Int)] := by
    unfold rowW at h1
    rw [List.getElem?_map] at h1
    obtain ⟨y, e, e'⟩ := Option.map_eq_some_iff.1 h1
    exact ⟨y.1, y.2, e, e'.symm⟩
  obtain ⟨s, k, e, rfl⟩ := this
  obtain ⟨c1, c2⟩ := h.ops j s k e
  match i, h2 with
  | 0, h2 => simp at h2; subst h2; rw [Nat.zero_add, Nat.mul_comm]; exact c1
  | 1, h2 => simp at h2; subst h2; rw [Nat.zero_add, Nat.mul_comm]; exact c2
theorem size108 : (Tryd.prog.info? 108).map (·.size) = some rowW.flatten.length := by kernel_rfl
theorem load108 {w : World} (h : Glob w) : (Instr.loadAt 108 (.pointer (some ⟨0, 0, none⟩))).run Tryd.prog w = .ok (.agg rowW.flatten.toArray) w :=
  run_loadAt_mid w 0 0 108 _ _ (rowW_at h) Tryd.underlying108 rfl size108
theorem take_two {L : List Value} {m : Nat} {a b : Value} (h0 : L[m]? = some a) (h1 : L[m + 1]? = some b) : List.take 2 (List.drop m L) = [a, b] := by
  apply List.ext_getElem?
  intro n
  match n with
  | 0 => simp [h0]
  | 1 => simp [h1]
  | n + 2 => simp; omega
theorem index108 {i : Nat} {s : List UInt8} {k : Nat} (h : words[i]? = some (s, k)) (W : World) : (Instr.index 108 (.agg rowW.flatten.toArray) (.int .i64 (i : Int))).run Tryd.prog W = .ok (.agg #[.string ⟨s.toArray⟩, .int .i64 (k : Int)]) W := by
  have hi : i < 24 := (List.getElem?_eq_some_iff.1 h).1
  have hs : (sizeOf 107).run Tryd.prog W = .ok 2 W := by kernel_rfl
  have hr : rowW[i]? = some [.string ⟨s.toArray⟩, .int .i64 (k : Int)] := by unfold rowW; rw [List.getElem?_map, h]; rfl
  have hc0 := rowW_wide.at i _ hr 0 _ rfl
  have hc1 := rowW_wide.at i _ hr 1 _ rfl
  simp [Instr.index, run_underlying Tryd.underlying108, asIntOf, hs, part, go_sem, hi]
  exact take_two hc0 hc1
section
variable {w : World}
/-- What find answers. -/
def FindAt (s : List UInt8) (e : Ending) : Prop := (∃ i k, words[i]? = some (s, k) ∧ e = .returned (.tuple #[.int .i64 (i : Nat), .bool true])) ∨ ((∀ x ∈ words, x.1 ≠ s) ∧ e = .returned (.tuple #[.int .i64 0, .bool false]))
set_option maxHeartbeats 1000000 in
theorem find64 (hG : Glob w) (s : List UInt8) : Calls Tryd.prog 64 #[.string ⟨s.toArray⟩] w fun e w' => FindAt s e ∧ Kept [] w w' := by
  have HL := Hid.mk (load108 hG)
  have HX : Hid (∀ (i : Nat) (s : List UInt8) (k : Nat), words[i]? = some (s, k) → ∀ W : World, (Instr.index 108 (.agg rowW.flatten.toArray) (.int .i64 (i : Int))).run Tryd.prog W = .ok (.agg #[.string ⟨s.toArray⟩, .int .i64 (k : Int)]) W) := fun i s k h W => index108 h W
  clear hG
  generalize rowW.flatten.toArray = T at *
  go_enter Tryd.func64, Tryd.ntmps64
  go_wp2_with (first | (refine wpList_load_run 108 (.global 0) rfl rfl _ rfl (.agg T) HL.out ?_) | fail)
  go_loopw [7] (fun i wr => ∃ j : Nat, Hid (Kept [] w wr) ∧ i = .int .i64 (j : Int) ∧ j ≤ 24 ∧ Hid (∀ i x, i < j → words[i]? = some x → x.1 ≠ s)) (fun i _ => 24 - (intOf i).toNat)
  case atStart => exact ⟨0, Hid.mk (Kept.refl [] w), rfl, by omega, Hid.mk (fun _ _ h => by omega)⟩
  case round =>
    obtain ⟨j, HW, rfl, hj, HJ⟩ := hrel
    by_cases hlt : j < 24
    · have hjI : (j : Int) < 24 := by omega
      have hj0 : (0 : Int) ≤ (j : Int) := by omega
      have hl : j < words.length := hlt
      obtain ⟨q, k, hq⟩ : ∃ q k, words[j]? = some (q, k) := ⟨words[j].1, words[j].2, by rw [List.getElem?_eq_getElem hl]⟩
      have hx := HX.out j q k hq
      have HQ := Hid.mk hq
      clear hq HL HX
      obtain ⟨W3, e3, k3, hz3, hb3⟩ := box1 wr (.cells #[.string ⟨q.toArray⟩, .int .i64 (k : Int)] 107)
      have x0 : W3.cell? ⟨wr.heap.size, 0, none⟩ = some (.string ⟨q.toArray⟩) := by simp [World.cell?, hb3]
      have HK3 := Hid.mk (HW.out.then k3)
      clear k3 hz3 hb3
      by_cases he : q = s
      · subst he
        go_wp2_with fail
        go_ret2
        exact ⟨.inl ⟨j, k, HQ.out, rfl⟩, HK3.out⟩
      · have t1 : (q == s) = false := by simpa using he
        go_wp2_with fail
        go_roundw
        case rel => exact ⟨j + 1, HK3, by go_num, by omega, Hid.mk (fun i x hi hy => by
          by_cases e : i = j
          · subst e; rw [HQ.out] at hy; simp only [Option.some.injEq] at hy; rw [← hy]; exact he
          · exact HJ.out i x (by omega) hy)⟩
        case measure => simp [intOf]; omega
    · obtain rfl : j = 24 := by omega
      go_wp2_with fail
      go_ret2
      refine ⟨.inr ⟨fun x hx => ?_, rfl⟩, HW.out⟩
      obtain ⟨i, hi, rfl⟩ := List.getElem_of_mem hx
      exact HJ.out i _ hi (List.getElem?_eq_getElem hi)
end
end Go.Proofs.YtibapmjgpnldgaaDoor
