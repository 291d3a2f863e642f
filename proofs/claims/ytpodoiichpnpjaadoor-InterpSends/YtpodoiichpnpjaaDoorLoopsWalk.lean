/-
  InterpLoops' walk.
-/
import Derived.Test.YtpodoiichpnpjaaDoorMw
namespace Go.Proofs.YtpodoiichpnpjaaDoor
open Go.RowKit
set_option maxRecDepth 100000
set_option linter.unusedVariables false
def lt0 : Lt := ⟨[], 0, 0, []⟩
theorem lt0_ok : lt0.ok := lok_of (by decide) (i64_lit (by decide)) (fun z hz => by simp [lt0] at hz)
theorem z8_i64 : ∀ z ∈ z8, I64 z := fun z hz => by simp [z8] at hz; subst hz; exact i64_lit (by decide)
theorem may_loop (v : Int) : mayI (loopP v) lt0 0 = true := by rfl
theorem okp_loop {v : Int} (hv : I64 v) : OkP (loopP v) := fun x hx => by
  simp [loopP] at hx
  rcases hx with rfl | rfl | rfl | rfl | rfl | rfl | rfl | rfl | rfl
  all_goals first | exact hv | exact i64_lit (by decide)
section
variable {w : World}
set_option maxHeartbeats 8000000 in
theorem loops5 (hG : Glob w) (v : Nat) (hv : v < 256) : Calls Tryd.prog 5 #[.int .u8 (v : Int)] w fun e w' => e = .returned (.bool true) ∧ Kept [] w w' := by
  have HA := Hid.mk (awake9 hG)
  have HC : Hid (∀ W W0 : World, Kept [] w W → W.alloc (.cells #[.int .i64 1, .int .i64 (v : Int), .int .i64 3, .int .i64 0, .int .i64 2, .int .i64 0, .int .i64 16, .int .i64 9, .int .i64 2, .int .i64 0, .int .i64 1, .int .i64 1, .int .i64 7, .int .i64 0, .int .i64 3, .int .i64 0, .int .i64 15, .int .i64 2] 60) = W0 → ∀ W1, Kept [] W0 W1 → Calls Tryd.prog 11 #[.agg #[.slice none 0 0, .slice (some ⟨W.heap.size, 0, none⟩) 9 9], .agg #[.int .i64 0, .int .i64 0, .int .i64 0, .int .i64 0, .int .i64 0, .int .i64 0, .int .i64 0, .int .i64 0], .agg #[.string ⟨#[]⟩, .int .u64 0, .int .i64 0, .slice none 0 0], .int .i64 0] W1 fun e w' => ∃ x, e = .returned (.tuple #[x, .int .i64 (resI (loopP (v : Int)) z8 lt0 0).2]) ∧ IsRs W1.heap.size w' x (resI (loopP (v : Int)) z8 lt0 0).1 ∧ Kept [] W1 w') := fun W W0 kW e0 W1 k1 => by
    subst e0
    have k0 := (Kept.refl [] W).alloc (.cells #[.int .i64 1, .int .i64 (v : Int), .int .i64 3, .int .i64 0, .int .i64 2, .int .i64 0, .int .i64 16, .int .i64 9, .int .i64 2, .int .i64 0, .int .i64 1, .int .i64 1, .int .i64 7, .int .i64 0, .int .i64 3, .int .i64 0, .int .i64 15, .int .i64 2] 60)
    have hb := k1.keeps (heap_alloc_new W (.cells #[.int .i64 1, .int .i64 (v : Int), .int .i64 3, .int .i64 0, .int .i64 2, .int .i64 0, .int .i64 16, .int .i64 9, .int .i64 2, .int .i64 0, .int .i64 1, .int .i64 1, .int .i64 7, .int .i64 0, .int .i64 3, .int .i64 0, .int .i64 15, .int .i64 2] 60)) (by simp)
    exact run11 (hG.kept (kW.then (k0.then k1))) ⟨⟨ReadsR.nil 1 W1, prog_fresh (C := (loopP (v : Int)).code) hb (by show 9 ≤ 1000; decide)⟩, by simp [loopP], okp_loop (i64_lit (by omega)), ReadsR.nil 1 W1, lt0_ok, by decide, rfl, z8_i64, i64_lit (by decide)⟩
  have hres : (4 + 7 * v ≤ 500 ∧ ∃ E', E'.length = v + 1 ∧ resI (loopP (v : Int)) z8 lt0 0 = (⟨z8, E', [], [], 4 + 7 * v⟩, 0)) ∨ (500 < 4 + 7 * v ∧ resI (loopP (v : Int)) z8 lt0 0 = (Rsl.none 500, 11)) := by
    have h1 := loop_whole v hv lt0 0
    unfold resI
    rw [if_pos (may_loop _)]
    rcases Nat.lt_or_ge 500 (4 + 7 * v) with h | h
    · right
      rw [h1.2 h]
      exact ⟨h, rfl⟩
    · left
      obtain ⟨E', h2, h3⟩ := h1.1 h
      rw [h2]
      exact ⟨h, E', h3, rfl⟩
  clear hG
  rcases hres with ⟨hle, E', hE, hr⟩ | ⟨hgt, hr⟩
  · rw [hr] at HC
    clear hr
    have q1 : ¬ (500 : Int) < 2 + 7 * (v : Int) + 2 := by omega
    have q2 : ((4 + 7 * v : Nat) : Int) = 2 + 7 * (v : Int) + 2 := by omega
    have HQ2 := Hid.mk q2
    have HE := Hid.mk hE
    clear q2 hE
    go_enter Tryd.func5, Tryd.ntmps5
    go_wp2_with (first | (go_at_call 9; refine HA.out.mono ?_; rintro e w1 ⟨rfl, k1⟩; have K1 := Hid.mk k1; clear k1) | (go_at_call 11; refine (HC.out w1 _ K1.out rfl _ ((Kept.refl [] _).alloc _)).mono ?_; rintro e w2 ⟨x, rfl, hR, k2⟩; obtain ⟨W2, ev, sn, tm, hst, hB, k3⟩ := res_box hR; have K3 := Hid.mk (K1.out.then ((((Kept.refl [] w1).alloc _).alloc _).then (k2.then k3))); have c11 : W2.cell? ⟨w2.heap.size, 11, none⟩ = some (.int .i64 (2 + 7 * (v : Int) + 2)) := (by rw [← HQ2.out]; exact hB.c_k); have c0 : W2.cell? ⟨w2.heap.size, 0, none⟩ = some (.int .i64 0) := hB.c_reg rfl; obtain ⟨ea, ec, hev, -, -⟩ := hB.ev.form; rw [rowE_length, HE.out] at hev; have c8 : W2.cell? ⟨w2.heap.size, 8, none⟩ = some (.slice ea (v + 1) ec) := (by rw [← hev]; exact hB.c_ev); clear hev hB hR k2 k3) | (refine wpList_alloc_run 37 rfl rfl _ _ (alloc37 w2) ?_) | (refine wpList_store_run 37 (.tmp 4) (.tmp 27) rfl rfl _ _ rfl rfl _ hst ?_))
    go_ret
    exact ⟨rfl, K3.out⟩
  · rw [hr] at HC
    clear hr
    have q1 : (500 : Int) < 2 + 7 * (v : Int) + 2 := by omega
    go_enter Tryd.func5, Tryd.ntmps5
    go_wp2_with (first | (go_at_call 9; refine HA.out.mono ?_; rintro e w1 ⟨rfl, k1⟩; have K1 := Hid.mk k1; clear k1) | (go_at_call 11; refine (HC.out w1 _ K1.out rfl _ ((Kept.refl [] _).alloc _)).mono ?_; rintro e w2 ⟨x, rfl, hR, k2⟩; obtain ⟨W2, ev, sn, tm, hst, hB, k3⟩ := res_box hR; have K3 := Hid.mk (K1.out.then ((((Kept.refl [] w1).alloc _).alloc _).then (k2.then k3))); have c11 : W2.cell? ⟨w2.heap.size, 11, none⟩ = some (.int .i64 500) := hB.c_k; clear hB hR k2 k3) | (refine wpList_alloc_run 37 rfl rfl _ _ (alloc37 w2) ?_) | (refine wpList_store_run 37 (.tmp 4) (.tmp 27) rfl rfl _ _ rfl rfl _ hst ?_))
    go_ret
    exact ⟨rfl, K3.out⟩
end
end Go.Proofs.YtpodoiichpnpjaaDoor
