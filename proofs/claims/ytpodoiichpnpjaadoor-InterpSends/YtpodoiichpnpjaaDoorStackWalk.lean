/-
  InterpStack's walk.
-/
import Derived.Test.YtpodoiichpnpjaaDoorLoopsWalk
namespace Go.Proofs.YtpodoiichpnpjaaDoor
open Go.RowKit
set_option maxRecDepth 100000
set_option linter.unusedVariables false
theorem stack_mem {a b : Nat} {x : In} (h : x ∈ (stackP a b).code) : (∃ i : Nat, i < a ∧ x = ⟨1, (i : Int)⟩) ∨ x = ⟨13, 0⟩ := by
  rcases List.mem_append.1 h with h | h
  · obtain ⟨i, hi, rfl⟩ := List.mem_map.1 h
    exact .inl ⟨i, by simpa using hi, rfl⟩
  · exact .inr (List.eq_of_mem_replicate h)
theorem may_stack {a b : Nat} (ha : a < 20) (hb : b < 20) : mayI (stackP a b) lt0 0 = true := by
  have hf : formedP (stackP a b) = true := formed_yes (by simp [stackP]) (by simp [stackP]; omega) (fun i hi => by simp [stackP] at hi) (fun i hi => by
    rcases stack_mem (List.getElem_mem hi) with ⟨j, -, e⟩ | e
    · rw [e]; rfl
    · rw [e]; rfl)
  unfold mayI
  rw [hf]
  rfl
theorem okp_stack {a b : Nat} (ha : a < 20) : OkP (stackP a b) := fun x hx => by
  rcases stack_mem hx with ⟨i, hi, rfl⟩ | rfl
  · exact i64_lit (by dsimp only; omega)
  · exact i64_lit (by decide)
theorem stack_len (a b : Nat) : (stackP a b).code.length = a + b := by simp [stackP]
def pushesL (j : Nat) : List In := (List.range j).map fun i : Nat => (⟨1, (i : Int)⟩ : In)
theorem pushesL_succ (j : Nat) : pushesL (j + 1) = pushesL j ++ [⟨1, (j : Int)⟩] := by simp [pushesL, List.range_succ]
theorem pushesL_length (j : Nat) : (pushesL j).length = j := by simp [pushesL]
def dropsL (j : Nat) : List In := List.replicate j ⟨13, 0⟩
theorem dropsL_succ (j : Nat) : dropsL (j + 1) = dropsL j ++ [⟨13, 0⟩] := by simp [dropsL, List.replicate_succ']
theorem dropsL_length (j : Nat) : (dropsL j).length = j := by simp [dropsL]
/-- What the statement asks of the answer. -/
def StackA (a b : Nat) (R : Rsl × Int) : Prop := (16 < a ∧ R = (Rsl.none 17, 10)) ∨ (a ≤ 16 ∧ a < b ∧ R = (Rsl.none (2 * a + 1), 10)) ∨ (a ≤ 16 ∧ b ≤ a ∧ R.2 = 0 ∧ R.1.k = a + b)
theorem stack_res {a b : Nat} (ha : a < 20) (hb : b < 20) : StackA a b (resI (stackP a b) z8 lt0 0) := by
  obtain ⟨h1, h2, h3⟩ := stack_whole (l := lt0) (now := 0) ha hb z8
  unfold resI
  rw [if_pos (may_stack ha hb)]
  by_cases c1 : 16 < a
  · rw [h1 c1]; exact .inl ⟨c1, rfl⟩
  · by_cases c2 : a < b
    · rw [h2 (by omega) c2]; exact .inr (.inl ⟨by omega, c2, rfl⟩)
    · obtain ⟨m, hm⟩ := h3 (by omega) (by omega)
      rw [hm]; exact .inr (.inr ⟨by omega, by omega, rfl, rfl⟩)
section
variable {w : World}
set_option maxHeartbeats 8000000 in
theorem stack6 (hG : Glob w) (v : Nat) (hv : v < 256) (u : Nat) (hu : u < 256) : Calls Tryd.prog 6 #[.int .u8 (v : Int), .int .u8 (u : Int)] w fun e w' => e = .returned (.bool true) ∧ Kept [] w w' := by
  have HA := Hid.mk (awake9 hG)
  have ha : (v : Int) % 20 = ((v % 20 : Nat) : Int) := by omega
  have hb : (u : Int) % 20 = ((u % 20 : Nat) : Int) := by omega
  have ha2 : v % 20 < 20 := Nat.mod_lt _ (by decide)
  have hb2 : u % 20 < 20 := Nat.mod_lt _ (by decide)
  generalize v % 20 = a at *
  generalize u % 20 = b at *
  have HC : Hid (∀ (W : World) (g : Nat) (x : Value), Kept [] w W → PB 43 60 w W g (.slice none 0 0) x (stackP a b) → Calls Tryd.prog 11 #[.agg #[.slice none 0 0, x], .agg #[.int .i64 0, .int .i64 0, .int .i64 0, .int .i64 0, .int .i64 0, .int .i64 0, .int .i64 0, .int .i64 0], .agg #[.string ⟨#[]⟩, .int .u64 0, .int .i64 0, .slice none 0 0], .int .i64 0] W fun e w' => ∃ x, e = .returned (.tuple #[x, .int .i64 (resI (stackP a b) z8 lt0 0).2]) ∧ IsRs W.heap.size w' x (resI (stackP a b) z8 lt0 0).1 ∧ Kept [] W w') := fun W g x kW hP =>
    run11 (hG.kept kW) ⟨hP.isP, by simp [stackP], okp_stack ha2, ReadsR.nil 1 W, lt0_ok, by decide, rfl, z8_i64, i64_lit (by decide)⟩
  have HS := Hid.mk (stack_res ha2 hb2)
  generalize resI (stackP a b) z8 lt0 0 = R at *
  clear hG
  go_enter Tryd.func6, Tryd.ntmps6
  go_wp2_with (go_at_call 9; refine HA.out.mono ?_; rintro e w1 ⟨rfl, k1⟩; have K1 := Hid.mk k1; clear k1)
  simp only [ha]
  have HA2 := Hid.mk ha
  clear ha
  obtain ⟨W0, e0, k0, hz0, hb0⟩ := box1 w1 (.cells #[.slice none 0 0, .slice none 0 0] 43)
  rw [e0]
  have HPB : Hid (PB 43 60 w W0 w1.heap.size (.slice none 0 0) (.slice none 0 0) ⟨[], pushesL 0⟩) := PB.start (K1.out.then k0) hb0 K1.out.size
  clear e0 k0 hz0 hb0
  generalize w1.heap.size = g at *
  go_loopw [16] (fun i wr => ∃ (j : Nat) (x : Value), i = .int .i64 (j : Int) ∧ j ≤ a ∧ Hid (PB 43 60 w wr g (.slice none 0 0) x ⟨[], pushesL j⟩)) (fun i _ => a - (intOf i).toNat)
  case atStart => exact ⟨0, _, rfl, by omega, HPB⟩
  case round =>
    obtain ⟨j, x, rfl, hj, HB⟩ := hrel
    obtain ⟨-, -, xa, xc, -, hx⟩ := HB.out.forms
    dsimp only at hx
    rw [pushesL_length] at hx
    subst hx
    by_cases hlt : j < a
    · have hltI : (j : Int) < (a : Int) := by omega
      obtain ⟨ad2, c2, w2, hrun, r0, r1, hPB⟩ := HB.out.addCode rt31 (by decide) (by decide) (by decide) (by dsimp only; rw [pushesL_length]; omega) ⟨1, (j : Int)⟩ 60 (0, 0) 41
      dsimp only at hrun r0 r1 hPB
      rw [pushesL_length] at hrun hPB
      rw [← pushesL_succ] at hPB
      have HN := Hid.mk hPB
      have z1 := HB.out.c1
      clear hPB
      go_wp2_with (at_builtin; refine wpList_append_run 41 41 (.tmp 20) (.tmp 23) rfl (by rfl) _ _ rfl rfl _ _ hrun ?_)
      go_roundw
      case rel => first | exact ⟨j + 1, _, by go_num, by omega, HN⟩ | exact ⟨_, j + 1, by go_num, by omega, HN⟩ | exact ⟨_, by omega, HN⟩
      case measure => simp [intOf]; omega
    · have hltI : ¬ (j : Int) < (a : Int) := by omega
      obtain rfl : j = a := by omega
      go_wp2_with fail
      have HB2 : Hid (PB 43 60 w wr g (.slice none 0 0) (.slice xa j xc) ⟨[], pushesL j ++ dropsL 0⟩) := by show PB 43 60 w wr g (.slice none 0 0) (.slice xa j xc) ⟨[], pushesL j ++ dropsL 0⟩; rw [show dropsL 0 = [] from rfl, List.append_nil]; exact HB.out
      clear HB HPB
      go_loopw [29] (fun i wr => ∃ (k : Nat) (x : Value), i = .int .u8 (k : Int) ∧ k ≤ b ∧ Hid (PB 43 60 w wr g (.slice none 0 0) x ⟨[], pushesL j ++ dropsL k⟩)) (fun i _ => b - (intOf i).toNat)
      case atStart => exact ⟨0, _, rfl, by omega, HB2⟩
      case round =>
        obtain ⟨k, x, rfl, hk, HB⟩ := hrel
        obtain ⟨-, -, ya, yc, -, hx⟩ := HB.out.forms
        dsimp only at hx
        rw [List.length_append, pushesL_length, dropsL_length] at hx
        subst hx
        by_cases hlt : k < b
        · have hltI : (k : Int) < (b : Int) := by omega
          obtain ⟨ad2, c2, w2, hrun, r0, r1, hPB⟩ := HB.out.addCode rt31 (by decide) (by decide) (by decide) (by dsimp only; rw [List.length_append, pushesL_length, dropsL_length]; omega) ⟨13, 0⟩ 60 (0, 0) 41
          dsimp only at hrun r0 r1 hPB
          rw [List.length_append, pushesL_length, dropsL_length] at hrun hPB
          rw [List.append_assoc, ← dropsL_succ] at hPB
          have HN := Hid.mk hPB
          have z1 := HB.out.c1
          clear hPB
          go_wp2_with (at_builtin; refine wpList_append_run 41 41 (.tmp 32) (.tmp 34) rfl (by rfl) _ _ rfl rfl _ _ hrun ?_)
          go_roundw
          case rel => first | exact ⟨k + 1, _, by go_num, by omega, HN⟩ | exact ⟨_, k + 1, by go_num, by omega, HN⟩ | exact ⟨_, by omega, HN⟩
          case measure => simp [intOf]; omega
        · have hltI : ¬ (k : Int) < (b : Int) := by omega
          obtain rfl : k = b := by omega
          have HB3 : Hid (PB 43 60 w wr g (.slice none 0 0) (.slice ya (j + k) yc) (stackP j k)) := HB.out
          have z0 := HB.out.c0
          have z1 := HB.out.c1
          clear HB HB2
          have ha := HA2.out
          rcases HS.out with ⟨s1, rfl⟩ | ⟨s1, s2, rfl⟩ | ⟨s1, s2, s3, s4⟩
          · have sI : (16 : Int) < (j : Int) := by omega
            go_wp2_with (first | (go_at_call 11; refine (HC.out _ g _ HB3.out.kept HB3.out).mono ?_; rintro e w2 ⟨x, rfl, hR, k2⟩; obtain ⟨W2, ev, sn, tm, hst, hB, k3⟩ := res_box hR; have K3 := Hid.mk (HB3.out.kept.then (k2.then k3)); have c11 : W2.cell? ⟨w2.heap.size, 11, none⟩ = some (.int .i64 17) := hB.c_k; clear hB hR k2 k3) | (refine wpList_alloc_run 37 rfl rfl _ _ (alloc37 w2) ?_) | (refine wpList_store_run 37 (.tmp 7) (.tmp 43) rfl rfl _ _ rfl rfl _ hst ?_))
            go_ret
            exact ⟨rfl, K3.out⟩
          · have sI : ¬ (16 : Int) < (j : Int) := by omega
            have sI2 : (j : Int) < (k : Int) := by omega
            go_wp2_with (first | (go_at_call 11; refine (HC.out _ g _ HB3.out.kept HB3.out).mono ?_; rintro e w2 ⟨x, rfl, hR, k2⟩; obtain ⟨W2, ev, sn, tm, hst, hB, k3⟩ := res_box hR; have K3 := Hid.mk (HB3.out.kept.then (k2.then k3)); have c11 : W2.cell? ⟨w2.heap.size, 11, none⟩ = some (.int .i64 (2 * (j : Int) + 1)) := hB.c_k; clear hB hR k2 k3) | (refine wpList_alloc_run 37 rfl rfl _ _ (alloc37 w2) ?_) | (refine wpList_store_run 37 (.tmp 7) (.tmp 43) rfl rfl _ _ rfl rfl _ hst ?_))
            go_ret
            exact ⟨rfl, K3.out⟩
          · have sI : ¬ (16 : Int) < (j : Int) := by omega
            have sI2 : ¬ (j : Int) < (k : Int) := by omega
            obtain ⟨R1, R2⟩ := R
            dsimp only at s3 s4 HC
            subst s3
            have S4 := Hid.mk s4
            clear s4
            go_wp2_with (first | (go_at_call 11; refine (HC.out _ g _ HB3.out.kept HB3.out).mono ?_; rintro e w2 ⟨x, rfl, hR, k2⟩; obtain ⟨W2, ev, sn, tm, hst, hB, k3⟩ := res_box hR; have K3 := Hid.mk (HB3.out.kept.then (k2.then k3)); have c11 : W2.cell? ⟨w2.heap.size, 11, none⟩ = some (.int .i64 ((j : Int) + (k : Int))) := (by have := hB.c_k; rw [S4.out] at this; exact this); clear hB hR k2 k3) | (refine wpList_alloc_run 37 rfl rfl _ _ (alloc37 w2) ?_) | (refine wpList_store_run 37 (.tmp 7) (.tmp 43) rfl rfl _ _ rfl rfl _ hst ?_))
            go_ret
            exact ⟨rfl, K3.out⟩
end
end Go.Proofs.YtpodoiichpnpjaaDoor
