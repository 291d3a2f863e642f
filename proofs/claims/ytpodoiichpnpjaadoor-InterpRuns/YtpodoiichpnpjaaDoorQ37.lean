import Derived.Test.YtpodoiichpnpjaaDoorQ36
/-
  InterpTimers' walk.
-/
namespace Go.Proofs.YtpodoiichpnpjaaDoor
open Go.RowKit
set_option maxRecDepth 100000
set_option linter.unusedVariables false
def ltK (kd : Int) : Lt := ⟨[], 0, kd, []⟩
theorem ltK_ok {kd : Int} (h : I64 kd) : (ltK kd).ok := lok_of (by show 0 < 18446744073709551616; decide) h (fun z hz => by simp [ltK] at hz)
theorem may_time (d q kd now : Int) : mayI (timeP d q) (ltK kd) now = decide (0 ≤ now) := by
  unfold mayI
  rw [show formedP (timeP d q) = true from rfl, show (ltK kd).formed = true from rfl]
  rfl
theorem okp_time {d q : Int} (h1 : I64 d) (h2 : I64 q) : OkP (timeP d q) := fun x hx => by
  simp [timeP] at hx
  rcases hx with rfl | rfl | rfl | rfl
  all_goals first | exact h1 | exact h2 | exact i64_lit (by decide)
theorem names_fresh {w : World} {g : Nat} {C : List (List UInt8)} (h : w.heap[g]? = some (.cells (rowN C).flatten.toArray 9 (0, 0))) (hl : C.length ≤ 1000) : ReadsR 1 w (.slice (some ⟨g, 0, none⟩) C.length C.length) (rowN C) :=
  (ownsR_block h (wideN C) (by rw [rowN_length]) (by unfold maxLen; omega)).reads (wideN C)
/-- The cells of a reminder. -/
theorem rowT_at {w : World} {v : Value} {C : List Tm} (h : ReadsR 5 w v (rowT C)) {j : Nat} {x : Tm} (hj : C[j]? = some x) : ∃ b o c, v = .slice (some ⟨b, o, none⟩) C.length c ∧ w.cell? ⟨b, o + j * 5, none⟩ = some (.string ⟨x.nm.toArray⟩) ∧ w.cell? ⟨b, o + j * 5 + 1, none⟩ = some (.bool x.can) ∧ w.cell? ⟨b, o + j * 5 + 2, none⟩ = some (.int .i64 x.due) ∧ w.cell? ⟨b, o + j * 5 + 3, none⟩ = some (.int .i64 x.per) ∧ w.cell? ⟨b, o + j * 5 + 4, none⟩ = some (.int .i64 x.kind) := by
  obtain ⟨b, o, c, e, hc⟩ := h.at j [.string ⟨x.nm.toArray⟩, .bool x.can, .int .i64 x.due, .int .i64 x.per, .int .i64 x.kind] (by simp [rowT, hj])
  rw [rowT_length] at e
  exact ⟨b, o, c, e, hc 0 _ rfl, hc 1 _ rfl, hc 2 _ rfl, hc 3 _ rfl, hc 4 _ rfl⟩
section
variable {w : World}
set_option maxHeartbeats 8000000 in
theorem timers8 (hG : Glob w) (d : Int) (hd : I64 d) (q : Int) (hq : I64 q) (kd : Int) (hkd : I64 kd) (now : Int) (hnow : I64 now) : Calls Tryd.prog 8 #[.int .i64 d, .int .i64 q, .int .i64 kd, .int .i64 now] w fun e w' => e = .returned (.bool true) ∧ Kept [] w w' := by
  have HA := Hid.mk (awake9 hG)
  have HC : Hid (∀ W : World, Kept [] w W → ∀ W1, Kept [] ((W.alloc (.cells #[.string ⟨#[120]⟩] 9)).alloc (.cells #[.int .i64 1, .int .i64 d, .int .i64 1, .int .i64 q, .int .i64 19, .int .i64 0, .int .i64 20, .int .i64 0] 60)) W1 → Calls Tryd.prog 11 #[.agg #[.slice (some ⟨W.heap.size, 0, none⟩) 1 1, .slice (some ⟨W.heap.size + 1, 0, none⟩) 4 4], .agg #[.int .i64 0, .int .i64 0, .int .i64 0, .int .i64 0, .int .i64 0, .int .i64 0, .int .i64 0, .int .i64 0], .agg #[.string ⟨#[]⟩, .int .u64 0, .int .i64 kd, .slice none 0 0], .int .i64 now] W1 fun e w' => ∃ x, e = .returned (.tuple #[x, .int .i64 (resI (timeP d q) z8 (ltK kd) now).2]) ∧ IsRs W1.heap.size w' x (resI (timeP d q) z8 (ltK kd) now).1 ∧ Kept [] W1 w') := fun W kW W1 k1 => by
    obtain ⟨W0, e0, k0, hz0, hb0, hb1⟩ := box2 W (.cells #[.string ⟨#[120]⟩] 9) (.cells #[.int .i64 1, .int .i64 d, .int .i64 1, .int .i64 q, .int .i64 19, .int .i64 0, .int .i64 20, .int .i64 0] 60)
    rw [e0] at k1
    exact run11 (hG.kept (kW.then (k0.then k1))) ⟨⟨names_fresh (C := (timeP d q).names) (k1.keeps hb0 (by simp)) (by show 1 ≤ 1000; decide), prog_fresh (C := (timeP d q).code) (k1.keeps hb1 (by simp)) (by show 4 ≤ 1000; decide)⟩, fun s hs => by simp [timeP] at hs; subst hs; decide, okp_time hd hq, ReadsR.nil 1 W1, ltK_ok hkd, by show 0 ≤ _; decide, rfl, z8_i64, hnow⟩
  have hr := time_run d q (ltK kd) now z8 496
  have hm := may_time d q kd now
  clear hG
  by_cases hn : now < 0
  · have e1 : resI (timeP d q) z8 (ltK kd) now = (Rsl.none 0, 1) := by
      unfold resI
      rw [hm, if_neg (by simp; omega)]
    rw [e1] at HC
    clear hr hm e1 hd hq hkd hnow
    go_enter Tryd.func8, Tryd.ntmps8
    go_wp2_with (first | (go_at_call 9; refine HA.out.mono ?_; rintro e w1 ⟨rfl, k1⟩; have K1 := Hid.mk k1; clear k1) | (go_at_call 11; refine (HC.out w1 K1.out _ ((Kept.refl [] _).alloc _)).mono ?_; rintro e w2 ⟨x, rfl, hR, k2⟩; obtain ⟨W2, ev, sn, tm, hst, hB, k3⟩ := res_box hR; have K3 := Hid.mk (K1.out.then (((((Kept.refl [] w1).alloc _).alloc _).alloc _).then (k2.then k3))); clear hB hR k2 k3) | (refine wpList_alloc_run 37 rfl rfl _ _ (alloc37 w2) ?_) | (refine wpList_store_run 37 (.tmp 10) (.tmp 30) rfl rfl _ _ rfl rfl _ hst ?_))
    go_ret
    exact ⟨rfl, K3.out⟩
  · have hm' : mayI (timeP d q) (ltK kd) now = true := by rw [hm]; simp; omega
    unfold I64 at hnow
    have e0 : IntKind.i64.wrap (9223372036854775807 - now) = 9223372036854775807 - now := w64_small _ (by omega)
    by_cases hb : d < 0 ∨ 9223372036854775807 < now + d ∨ q < 1
    · have e1 : resI (timeP d q) z8 (ltK kd) now = (Rsl.none 3, 12) := by
        unfold resI
        rw [if_pos hm', hr.1 hb]
        rfl
      rw [e1] at HC
      clear hr hm e1 hd hq hkd hm'
      by_cases h1 : d < 0
      · clear hb
        go_enter Tryd.func8, Tryd.ntmps8
        go_wp2_with (first | (go_at_call 9; refine HA.out.mono ?_; rintro e w1 ⟨rfl, k1⟩; have K1 := Hid.mk k1; clear k1) | (go_at_call 11; refine (HC.out w1 K1.out _ ((Kept.refl [] _).alloc _)).mono ?_; rintro e w2 ⟨x, rfl, hR, k2⟩; obtain ⟨W2, ev, sn, tm, hst, hB, k3⟩ := res_box hR; have K3 := Hid.mk (K1.out.then (((((Kept.refl [] w1).alloc _).alloc _).alloc _).then (k2.then k3))); have c11 : W2.cell? ⟨w2.heap.size, 11, none⟩ = some (.int .i64 3) := hB.c_k; obtain ⟨ea, ec, hev, -, -⟩ := hB.tm.form; have c10 : W2.cell? ⟨w2.heap.size, 10, none⟩ = some (.slice ea 0 ec) := (by rw [hB.c_tm, hev]; rfl); clear hev hB hR k2 k3) | (refine wpList_alloc_run 37 rfl rfl _ _ (alloc37 w2) ?_) | (refine wpList_store_run 37 (.tmp 10) (.tmp 30) rfl rfl _ _ rfl rfl _ hst ?_))
        go_ret
        exact ⟨rfl, K3.out⟩
      · by_cases h2 : q < 1
        · clear hb
          go_enter Tryd.func8, Tryd.ntmps8
          go_wp2_with (first | (go_at_call 9; refine HA.out.mono ?_; rintro e w1 ⟨rfl, k1⟩; have K1 := Hid.mk k1; clear k1) | (go_at_call 11; refine (HC.out w1 K1.out _ ((Kept.refl [] _).alloc _)).mono ?_; rintro e w2 ⟨x, rfl, hR, k2⟩; obtain ⟨W2, ev, sn, tm, hst, hB, k3⟩ := res_box hR; have K3 := Hid.mk (K1.out.then (((((Kept.refl [] w1).alloc _).alloc _).alloc _).then (k2.then k3))); have c11 : W2.cell? ⟨w2.heap.size, 11, none⟩ = some (.int .i64 3) := hB.c_k; obtain ⟨ea, ec, hev, -, -⟩ := hB.tm.form; have c10 : W2.cell? ⟨w2.heap.size, 10, none⟩ = some (.slice ea 0 ec) := (by rw [hB.c_tm, hev]; rfl); clear hev hB hR k2 k3) | (refine wpList_alloc_run 37 rfl rfl _ _ (alloc37 w2) ?_) | (refine wpList_store_run 37 (.tmp 10) (.tmp 30) rfl rfl _ _ rfl rfl _ hst ?_))
          go_ret
          exact ⟨rfl, K3.out⟩
        · have h3 : 9223372036854775807 - now < d := by omega
          clear hb
          go_enter Tryd.func8, Tryd.ntmps8
          go_wp2_with (first | (go_at_call 9; refine HA.out.mono ?_; rintro e w1 ⟨rfl, k1⟩; have K1 := Hid.mk k1; clear k1) | (go_at_call 11; refine (HC.out w1 K1.out _ ((Kept.refl [] _).alloc _)).mono ?_; rintro e w2 ⟨x, rfl, hR, k2⟩; obtain ⟨W2, ev, sn, tm, hst, hB, k3⟩ := res_box hR; have K3 := Hid.mk (K1.out.then (((((Kept.refl [] w1).alloc _).alloc _).alloc _).then (k2.then k3))); have c11 : W2.cell? ⟨w2.heap.size, 11, none⟩ = some (.int .i64 3) := hB.c_k; obtain ⟨ea, ec, hev, -, -⟩ := hB.tm.form; have c10 : W2.cell? ⟨w2.heap.size, 10, none⟩ = some (.slice ea 0 ec) := (by rw [hB.c_tm, hev]; rfl); clear hev hB hR k2 k3) | (refine wpList_alloc_run 37 rfl rfl _ _ (alloc37 w2) ?_) | (refine wpList_store_run 37 (.tmp 10) (.tmp 30) rfl rfl _ _ rfl rfl _ hst ?_))
          go_ret
          exact ⟨rfl, K3.out⟩
    · have e1 : resI (timeP d q) z8 (ltK kd) now = (⟨z8, [], [], [⟨[120], false, now + d, q, kd⟩, ⟨[120], true, 0, 0, 0⟩], 4⟩, 0) := by
        unfold resI
        rw [if_pos hm', hr.2 hb]
        rfl
      rw [e1] at HC
      have h1 : ¬ d < 0 := by omega
      have h2 : ¬ q < 1 := by omega
      have h3 : ¬ 9223372036854775807 - now < d := by omega
      have h4 : IntKind.i64.wrap (now + d) = now + d := w64_small _ (by omega)
      clear hr hm e1 hd hq hkd hb hm'
      go_enter Tryd.func8, Tryd.ntmps8
      go_wp2_with (first | (go_at_call 9; refine HA.out.mono ?_; rintro e w1 ⟨rfl, k1⟩; have K1 := Hid.mk k1; clear k1) | (go_at_call 11; refine (HC.out w1 K1.out _ ((Kept.refl [] _).alloc _)).mono ?_; rintro e w2 ⟨x, rfl, hR, k2⟩; obtain ⟨W2, ev, sn, tm, hst, hB, k3⟩ := res_box hR; have K3 := Hid.mk (K1.out.then (((((Kept.refl [] w1).alloc _).alloc _).alloc _).then (k2.then k3))); obtain ⟨eb, eo, ec, hev, u0, u1, u2, u3, u4⟩ := rowT_at (j := 0) hB.tm rfl; obtain ⟨eb2, eo2, ec2, hev2, u5, u6, u7, u8, u9⟩ := rowT_at (j := 1) hB.tm rfl; have c10 : W2.cell? ⟨w2.heap.size, 10, none⟩ = some (.slice (some ⟨eb, eo, none⟩) 2 ec) := (by rw [hB.c_tm, hev]; rfl); rw [hev] at hev2; simp only [Value.slice.injEq, Option.some.injEq, Addr.mk.injEq] at hev2; obtain ⟨⟨rfl, rfl, -⟩, -, rfl⟩ := hev2; dsimp only at u0 u1 u2 u3 u4 u5 u6 u7 u8 u9; simp only [Nat.zero_mul, Nat.add_zero, Nat.one_mul] at u0 u1 u2 u3 u4 u5 u6 u7 u8 u9; clear hev hB hR k2 k3) | (refine wpList_alloc_run 37 rfl rfl _ _ (alloc37 w2) ?_) | (refine wpList_store_run 37 (.tmp 10) (.tmp 30) rfl rfl _ _ rfl rfl _ hst ?_))
      go_ret
      exact ⟨rfl, K3.out⟩
end
end Go.Proofs.YtpodoiichpnpjaaDoor
