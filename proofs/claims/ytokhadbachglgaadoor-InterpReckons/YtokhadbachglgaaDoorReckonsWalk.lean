/-
  InterpReckons' walk.
-/
import Derived.Test.YtokhadbachglgaaDoorMw
import Derived.Deep.QuietTactic
import Derived.BigQuiet
import Derived.Deep.DeepCutAuto
namespace Go.Proofs.YtokhadbachglgaaDoor
open Go.RowKit
set_option maxRecDepth 100000
set_option linter.unusedVariables false
def lt0 : Lt := ⟨[], 0, 0, []⟩
theorem lt0_ok : lt0.ok := lok_of (by decide) (i64_lit (by decide)) (fun z hz => by simp [lt0] at hz)
theorem z8_i64 : ∀ z ∈ z8, I64 z := fun z hz => by simp [z8] at hz; subst hz; exact i64_lit (by decide)
def wantR (x y : Int) : List Int := [w64 (x + y), w64 (x - y), w64 (x * y), if x < y then 1 else 0, if x = y then 1 else 0]
theorem reck_res (x y : Int) (j : Nat) (hj : j < 5) : resI (reckP x y (6 + j)) z8 lt0 0 = (⟨z8.set 7 ((wantR x y).getD j 0), [⟨7, (wantR x y).getD j 0⟩], [], [], 4⟩, 0) := by
  have hm : mayI (reckP x y (6 + j)) lt0 0 = true := by
    match j, hj with
    | 0, _ => rfl
    | 1, _ => rfl
    | 2, _ => rfl
    | 3, _ => rfl
    | 4, _ => rfl
    | n + 5, h => exact absurd h (by omega)
  have hv : valI lt0 0 z8 (6 + j) 0 x y = (wantR x y).getD j 0 := by
    match j, hj with
    | 0, _ => rfl
    | 1, _ => rfl
    | 2, _ => rfl
    | 3, _ => rfl
    | 4, _ => rfl
    | n + 5, h => exact absurd h (by omega)
  unfold resI
  rw [if_pos hm, show (500 : Nat) = 496 + 4 from rfl, reck_run x y (6 + j) (by omega), hv]
  rfl
theorem not_res (x : Int) : resI (notP x) z8 lt0 0 = (⟨(z8.set 0 x).set 1 (if x = 0 then 1 else 0), [⟨0, x⟩, ⟨1, if x = 0 then 1 else 0⟩], [], [], 6⟩, 0) := by
  unfold resI
  rw [if_pos (show mayI (notP x) lt0 0 = true from rfl), show (500 : Nat) = 494 + 6 from rfl, not_run]
  rfl
theorem okp_reck {x y : Int} (j : Nat) (hx : I64 x) (hy : I64 y) : OkP (reckP x y (6 + j)) := fun z hz => by
  simp [reckP] at hz
  rcases hz with rfl | rfl | rfl | rfl
  all_goals first | exact hx | exact hy | exact i64_lit (by dsimp only; omega)
theorem okp_not {x : Int} (hx : I64 x) : OkP (notP x) := fun z hz => by
  simp [notP] at hz
  rcases hz with rfl | rfl | rfl | rfl | rfl | rfl
  all_goals first | exact hx | exact i64_lit (by decide)
section
variable {w : World}
set_option maxHeartbeats 8000000 in
theorem reckons5 (hG : Glob w) (x : Int) (hx : I64 x) (y : Int) (hy : I64 y) : Calls Tryd.prog 5 #[.int .i64 x, .int .i64 y] w fun e w' => e = .returned (.bool true) ∧ Kept [] w w' := by
  have HA := Hid.mk (awake9 hG)
  have HC : Hid (∀ (j : Nat) (W : World), j < 5 → Kept [] w W → ∀ W1, Kept [] (W.alloc (.cells #[.int .i64 1, .int .i64 x, .int .i64 1, .int .i64 y, .int .i64 (6 + (j : Int)), .int .i64 0, .int .i64 3, .int .i64 7] 60)) W1 → Calls Tryd.prog 11 #[.agg #[.slice none 0 0, .slice (some ⟨W.heap.size, 0, none⟩) 4 4], .agg #[.int .i64 0, .int .i64 0, .int .i64 0, .int .i64 0, .int .i64 0, .int .i64 0, .int .i64 0, .int .i64 0], .agg #[.string ⟨#[]⟩, .int .u64 0, .int .i64 0, .slice none 0 0], .int .i64 0] W1 fun e w' => ∃ v, e = .returned (.tuple #[v, .int .i64 0]) ∧ IsRs W1.heap.size w' v ⟨z8.set 7 ((wantR x y).getD j 0), [⟨7, (wantR x y).getD j 0⟩], [], [], 4⟩ ∧ Kept [] W1 w') := fun j W hj kW W1 k1 => by
    have k0 := (Kept.refl [] W).alloc (.cells #[.int .i64 1, .int .i64 x, .int .i64 1, .int .i64 y, .int .i64 (6 + (j : Int)), .int .i64 0, .int .i64 3, .int .i64 7] 60)
    have hb := k1.keeps (heap_alloc_new W (.cells #[.int .i64 1, .int .i64 x, .int .i64 1, .int .i64 y, .int .i64 (6 + (j : Int)), .int .i64 0, .int .i64 3, .int .i64 7] 60)) (by simp)
    have e6 : ((6 + j : Nat) : Int) = 6 + (j : Int) := by omega
    have := run11 (p := reckP x y (6 + j)) (reg := z8) (l := lt0) (now := 0) (hG.kept (kW.then (k0.then k1))) ⟨⟨ReadsR.nil 1 W1, prog_fresh (C := (reckP x y (6 + j)).code) (by show W1.heap[W.heap.size]? = some (.cells #[.int .i64 1, .int .i64 x, .int .i64 1, .int .i64 y, .int .i64 ((6 + j : Nat) : Int), .int .i64 0, .int .i64 3, .int .i64 7] 60 (0, 0)); rw [e6]; exact hb) (by show 4 ≤ 1000; decide)⟩, by simp [reckP], okp_reck j hx hy, ReadsR.nil 1 W1, lt0_ok, by decide, rfl, z8_i64, i64_lit (by decide)⟩
    rw [reck_res x y j hj] at this
    exact this
  have HD : Hid (∀ (W : World), Kept [] w W → ∀ W1, Kept [] (W.alloc (.cells #[.int .i64 1, .int .i64 x, .int .i64 12, .int .i64 0, .int .i64 11, .int .i64 0, .int .i64 14, .int .i64 0, .int .i64 3, .int .i64 0, .int .i64 3, .int .i64 1] 60)) W1 → Calls Tryd.prog 11 #[.agg #[.slice none 0 0, .slice (some ⟨W.heap.size, 0, none⟩) 6 6], .agg #[.int .i64 0, .int .i64 0, .int .i64 0, .int .i64 0, .int .i64 0, .int .i64 0, .int .i64 0, .int .i64 0], .agg #[.string ⟨#[]⟩, .int .u64 0, .int .i64 0, .slice none 0 0], .int .i64 0] W1 fun e w' => ∃ v, e = .returned (.tuple #[v, .int .i64 0]) ∧ IsRs W1.heap.size w' v ⟨(z8.set 0 x).set 1 (if x = 0 then 1 else 0), [⟨0, x⟩, ⟨1, if x = 0 then 1 else 0⟩], [], [], 6⟩ ∧ Kept [] W1 w') := fun W kW W1 k1 => by
    have k0 := (Kept.refl [] W).alloc (.cells #[.int .i64 1, .int .i64 x, .int .i64 12, .int .i64 0, .int .i64 11, .int .i64 0, .int .i64 14, .int .i64 0, .int .i64 3, .int .i64 0, .int .i64 3, .int .i64 1] 60)
    have hb := k1.keeps (heap_alloc_new W (.cells #[.int .i64 1, .int .i64 x, .int .i64 12, .int .i64 0, .int .i64 11, .int .i64 0, .int .i64 14, .int .i64 0, .int .i64 3, .int .i64 0, .int .i64 3, .int .i64 1] 60)) (by simp)
    have := run11 (p := notP x) (reg := z8) (l := lt0) (now := 0) (hG.kept (kW.then (k0.then k1))) ⟨⟨ReadsR.nil 1 W1, prog_fresh (C := (notP x).code) hb (by show 6 ≤ 1000; decide)⟩, by simp [notP], okp_not hx, ReadsR.nil 1 W1, lt0_ok, by decide, rfl, z8_i64, i64_lit (by decide)⟩
    rw [not_res x] at this
    exact this
  have e1 : wantR x y = [w64 (x + y), w64 (x - y), w64 (x * y), if x < y then 1 else 0, if x = y then 1 else 0] := rfl
  have HV : Hid (∀ j, j < 5 → ∃ v, (wantR x y).getD j 0 = v ∧ [w64 (x + y), w64 (x - y), w64 (x * y), if x < y then 1 else 0, if x = y then 1 else 0][j]? = some v) := fun j hj => ⟨_, rfl, by rw [← e1]; have hl : j < (wantR x y).length := hj; simp [List.getElem?_eq_getElem hl]⟩
  clear hG e1 hx hy
  go_enter Tryd.func5, Tryd.ntmps5
  go_upto_if 20 with (go_at_call 9; refine HA.out.mono ?_; rintro e w1 ⟨rfl, k1⟩; have K1 := Hid.mk k1; clear k1)
  go_cut [5, 20] (fun a b wc => a = .int .i64 (if x < y then 1 else 0) ∧ wc = w1)
  case first =>
    cases hb : (decide (x < y)) with
    | true =>
      go_wp2_with fail
      go_meet
      exact ⟨by rw [if_pos (by simpa using hb)], rfl⟩
    | false =>
      go_wp2_with fail
      go_meet
      exact ⟨by rw [if_neg (by simpa using hb)], rfl⟩
  case rest =>
  obtain ⟨ra, rb⟩ := hcut
  subst ra
  rw [rb]
  clear rb
  generalize (if x < y then (1 : Int) else 0) = vl at *
  go_upto_if 23 with fail
  go_cut [6, 23] (fun a b wc => a = .int .i64 (if x = y then 1 else 0) ∧ wc = w1)
  case first =>
    cases hb : (x == y) with
    | true =>
      go_wp2_with fail
      go_meet
      exact ⟨by rw [if_pos (by simpa using hb)], rfl⟩
    | false =>
      go_wp2_with fail
      go_meet
      exact ⟨by rw [if_neg (by simpa using hb)], rfl⟩
  case rest =>
  obtain ⟨ra, rb⟩ := hcut
  subst ra
  rw [rb]
  clear rb
  generalize (if x = y then (1 : Int) else 0) = ve at *
  go_upto_if 25 with fail
  go_cut [7, 25] (fun a b wc => a = .int .i64 (if x = 0 then 1 else 0) ∧ wc = w1)
  case first =>
    cases hb : (x == 0) with
    | true =>
      go_wp2_with fail
      go_meet
      exact ⟨by rw [if_pos (by simpa using hb)], rfl⟩
    | false =>
      go_wp2_with fail
      go_meet
      exact ⟨by rw [if_neg (by simpa using hb)], rfl⟩
  case rest =>
  obtain ⟨ra, rb⟩ := hcut
  subst ra
  rw [rb]
  clear rb
  generalize (if x = 0 then (1 : Int) else 0) = vn at *
  go_wp2_with fail
  simp only [w64_wrap]
  obtain ⟨W1, e1, k1, hz1, hb1⟩ := box1 w1 (.cells #[.int .i64 (w64 (x + y)), .int .i64 (w64 (x - y)), .int .i64 (w64 (x * y)), .int .i64 vl, .int .i64 ve] 2)
  rw [e1]
  have HB1 := Hid.mk hb1
  have K2 := Hid.mk (K1.out.then k1)
  clear e1 k1 hz1 hb1
  generalize w1.heap.size = gw at *
  have HI : Hid (Kept [] W1 W1) := Kept.refl [] W1
  go_loopw [40] (fun i wr => ∃ j : Nat, i = .int .i64 (j : Int) ∧ j ≤ 5 ∧ Hid (Kept [] W1 wr)) (fun i _ => 5 - (intOf i).toNat)
  case atStart => exact ⟨0, rfl, by omega, HI⟩
  case round =>
    obtain ⟨j, rfl, hj, HR⟩ := hrel
    by_cases hlt : j < 5
    · have hltI : (j : Int) < 5 := by omega
      have hj0 : (0 : Int) ≤ (j : Int) := by omega
      obtain ⟨v, hv1, hv2⟩ := HV.out j hlt
      have HCj := Hid.mk (HC.out j)
      rw [hv1] at HCj
      have HCW : Hid (∀ W, Kept [] W1 W → W.cell? ⟨gw, j, none⟩ = some (.int .i64 v)) := fun W k => cell_list (L := BI [w64 (x + y), w64 (x - y), w64 (x * y), vl, ve]) (k.keeps HB1.out (by simp)) (BI_get hv2)
      clear hv1 hv2
      go_wp2_with (first | (go_at_call 11; refine (HCj.out _ hlt (K2.out.then HR.out) _ ((Kept.refl [] _).alloc _)).mono ?_; rintro e w2 ⟨xv, rfl, hR, k2⟩; obtain ⟨W2, ev, sn, tm, hst, hB, k3⟩ := res_box hR; have K3 := Hid.mk (HR.out.then ((((Kept.refl [] wr).alloc _).alloc _).then (k2.then k3))); have c7 : W2.cell? ⟨w2.heap.size, 7, none⟩ = some (.int .i64 v) := hB.c_reg rfl; have c11 : W2.cell? ⟨w2.heap.size, 11, none⟩ = some (.int .i64 4) := hB.c_k; have cw := HCW.out W2 K3.out; clear hB hR k2 k3) | (refine wpList_alloc_run 37 rfl rfl _ _ (alloc37 w2) ?_) | (refine wpList_store_run 37 (.tmp 11) (.tmp 58) rfl rfl _ _ rfl rfl _ hst ?_))
      go_quiet (fail)
      have K4 : Hid (Kept [] W1 (W2.drewN nq)) := K3.out.drewN nq
      generalize W2.drewN nq = W3 at *
      go_wp2_with fail
      go_roundw
      case rel => exact ⟨j + 1, by go_num, by omega, K4⟩
      case measure => simp [intOf]; omega
    · have hltI : ¬ (j : Int) < 5 := by omega
      go_wp2_with (first | (go_at_call 11; refine (HD.out _ (K2.out.then HR.out) _ ((Kept.refl [] _).alloc _)).mono ?_; rintro e w2 ⟨xv, rfl, hR, k2⟩; obtain ⟨W2, ev, sn, tm, hst, hB, k3⟩ := res_box hR; have K3 := Hid.mk ((K2.out.then HR.out).then ((((Kept.refl [] wr).alloc _).alloc _).then (k2.then k3))); have c0 : W2.cell? ⟨w2.heap.size, 0, none⟩ = some (.int .i64 x) := hB.c_reg rfl; have c1 : W2.cell? ⟨w2.heap.size, 1, none⟩ = some (.int .i64 vn) := hB.c_reg rfl; clear hB hR k2 k3) | (refine wpList_alloc_run 37 rfl rfl _ _ (alloc37 w2) ?_) | (refine wpList_store_run 37 (.tmp 14) (.tmp 92) rfl rfl _ _ rfl rfl _ hst ?_))
      go_ret
      exact ⟨rfl, K3.out⟩
end
end Go.Proofs.YtokhadbachglgaaDoor
