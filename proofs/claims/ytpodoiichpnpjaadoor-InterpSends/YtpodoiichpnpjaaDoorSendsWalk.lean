/-
  InterpSends' walk.
-/
import Derived.Test.YtpodoiichpnpjaaDoorSd
import Derived.Test.YtpodoiichpnpjaaDoorEx
import Derived.Deep.DeepCutAuto
import Derived.Test.YtpodoiichpnpjaaDoorStackWalk
import Derived.Test.YtpodoiichpnpjaaDoorSy
namespace Go.Proofs.YtpodoiichpnpjaaDoor
open Go.RowKit
set_option maxRecDepth 100000
set_option linter.unusedVariables false
section
variable {w : World}
set_option maxHeartbeats 8000000 in
theorem sends7 (hG : Glob w) (v : Nat) (hv : v < 256) (kind : Int) (hk : I64 kind) (A : List Int) (h4 : A.length = 4) (hA : ∀ z ∈ A, I64 z) (rep : Bool) : Calls Tryd.prog 7 #[.int .u8 (v : Int), .int .i64 kind, .agg (BI A).toArray, .bool rep] w fun e w' => e = .returned (.bool true) ∧ Kept [] w w' := by
  have ha : (v : Int) % 7 = ((v % 7 : Nat) : Int) := by omega
  have hn : v % 7 ≤ 6 := by omega
  generalize v % 7 = n at *
  obtain ⟨a0, a1, a2, a3, rfl⟩ : ∃ a0 a1 a2 a3, A = [a0, a1, a2, a3] := by
    match A, h4 with
    | [a0, a1, a2, a3], _ => exact ⟨a0, a1, a2, a3, rfl⟩
  obtain ⟨W0, e0, k0, hz0, hb0⟩ := box1 w (.cells #[.int .i64 a0, .int .i64 a1, .int .i64 a2, .int .i64 a3] 63)
  have HAw : Hid (∀ W, Kept [] W0 W → Calls Tryd.prog 9 #[] W fun e w' => e = .returned (.bool true) ∧ Kept [] W w') := Hid.mk (fun W k => awake9 (hG.kept (k0.then k)))
  have HAr : Hid (∀ W, Kept [] W0 W → W.heap[w.heap.size]? = some (.cells #[.int .i64 a0, .int .i64 a1, .int .i64 a2, .int .i64 a3] 63 (0, 0))) := Hid.mk (fun W k => k.keeps hb0 (by simp))
  have HRun : Hid (∀ (W : World) (g : Nat) (x y : Value), PB 43 60 W0 W g x y (sendsP (kdS kind) rep n) → ∀ W1, Kept [] W W1 → Calls Tryd.prog 11 #[.agg #[x, y], .agg #[.int .i64 0, .int .i64 0, .int .i64 0, .int .i64 0, .int .i64 0, .int .i64 0, .int .i64 0, .int .i64 0], .agg #[.string ⟨#[109, 101]⟩, .int .u64 0, .int .i64 0, .slice (some ⟨w.heap.size, 0, none⟩) 4 4], .int .i64 0] W1 fun e w' => ∃ x, e = .returned (.tuple #[x, .int .i64 (resI (sendsP (kdS kind) rep n) z8 (ltS [a0, a1, a2, a3]) 0).2]) ∧ IsRs W1.heap.size w' x (resI (sendsP (kdS kind) rep n) z8 (ltS [a0, a1, a2, a3]) 0).1 ∧ Kept [] W1 w') := Hid.mk (fun W g x y hP W1 k1 => by
    have hb1 := (hP.kept.then k1).keeps hb0 (by simp)
    have hr : ReadsR 1 W1 (.slice (some ⟨w.heap.size, 0, none⟩) 4 4) (rowJ [a0, a1, a2, a3]) := ⟨_, 4, rfl, by simp [rowJ], by unfold maxLen; omega, by simp, fun _ => ⟨_, 0, rfl, fun j r hj i x hx => cell_list hb1 (by
      have := (wideJ [a0, a1, a2, a3]).at j r hj i x hx
      rw [Nat.zero_add]
      simpa [rowJ] using this)⟩⟩
    exact run11 (hG.kept (k0.then (hP.kept.then k1))) ⟨hP.isP.keep k1, by simp [sendsP], okp_sends (kdS_i64 kind), hr, ltS_ok hA, (by show 2 ≤ 9223372036854775807; omega), rfl, z8_i64, i64_lit (by decide)⟩)
  have HK0 := Hid.mk k0
  have HR1 : Hid (n ≤ 4 → resI (sendsP (kdS kind) rep n) z8 (ltS [a0, a1, a2, a3]) 0 = (⟨z8, [], sSent (kdS kind) rep [a0, a1, a2, a3] n, [], 3 * n⟩, 0)) := Hid.mk (fun h => sends_few h rfl)
  have HR2 : Hid (4 < n → resI (sendsP (kdS kind) rep n) z8 (ltS [a0, a1, a2, a3]) 0 = (Rsl.none 15, 12)) := Hid.mk (fun h => sends_many hn h rfl)
  generalize resI (sendsP (kdS kind) rep n) z8 (ltS [a0, a1, a2, a3]) 0 = R at *
  have HA2 := Hid.mk ha
  show Calls Tryd.prog 7 #[.int .u8 (v : Int), .int .i64 kind, .agg #[.int .i64 a0, .int .i64 a1, .int .i64 a2, .int .i64 a3], .bool rep] w _
  clear hG k0 hz0 hb0 hA h4
  go_enter Tryd.func7, Tryd.ntmps7
  go_wp2_with (go_at_call 9; refine (HAw.out W0 (Kept.refl [] W0)).mono ?_; rintro e w1 ⟨rfl, k1⟩; have K1 := Hid.mk k1; clear k1)
  clear ha
  obtain ⟨W1, e1, k1, hz1, hb1, hb2⟩ := box2 w1 (.cells #[.string ⟨#[98]⟩] 9) (.cells #[.slice (some ⟨w1.heap.size, 0, none⟩) 1 1, .slice none 0 0] 43)
  rw [e1]
  have HPB : Hid (PB 43 60 W0 W1 (w1.heap.size + 1) (.slice (some ⟨w1.heap.size, 0, none⟩) 1 1) (.slice none 0 0) ⟨[[98]], sCode (kdS kind) rep 0⟩) := Hid.mk ⟨hb2, ⟨ownsR_block (rs := rowN [[98]]) hb1 (wideN _) rfl (by unfold maxLen; omega), fun g hg => by simp [Value.ownBlock] at hg; have := K1.out.size; omega, K1.out.then k1⟩, Out.nil (K1.out.then k1), by have := K1.out.size; omega⟩
  clear e1 k1 hz1 hb1 hb2
  generalize (Value.slice (some ⟨w1.heap.size, 0, none⟩) 1 1) = vN at *
  generalize w1.heap.size + 1 = g at *
  simp only [HA2.out]
  go_loopw [23] (fun i wr => ∃ (j : Nat) (x : Value), i = .int .i64 (j : Int) ∧ j ≤ n ∧ Hid (PB 43 60 W0 wr g vN x ⟨[[98]], sCode (kdS kind) rep j⟩)) (fun i _ => n - (intOf i).toNat)
  case atStart => exact ⟨0, _, rfl, by omega, HPB⟩
  case round =>
    obtain ⟨j, x, rfl, hj, HB⟩ := hrel
    obtain ⟨-, -, xa, xc, -, hx⟩ := HB.out.forms
    dsimp only at hx
    rw [sCode_length] at hx
    subst hx
    by_cases hlt : j < n
    · have hltI : (j : Int) < (n : Int) := by omega
      have hj0 : (0 : Int) ≤ (j : Int) := by omega
      obtain ⟨ad2, c2, w2, hrun, r0, r1, hPB⟩ := HB.out.addCodes rt31 (by decide) (by decide) (by decide) [⟨1, kdS kind j⟩, ⟨4, ((j % 4 : Nat) : Int)⟩, ⟨sOp rep j, 0⟩] (by show 3 ≤ 1000; omega) (by dsimp only; rw [sCode_length]; omega) 41
      dsimp only at hrun r0 r1 hPB
      rw [sCode_length] at hrun hPB
      rw [← sCode_succ] at hPB
      have e4 : ((j % 4 : Nat) : Int) = (j : Int) % 4 := by omega
      have hrun : (Builtin.append_ #[41, 41] 41 #[.slice xa (3 * j) xc, .slice (some ⟨wr.heap.size, 0, none⟩) 3 3]).run Tryd.prog (wr.alloc (.cells #[.int .i64 1, .int .i64 (kdS kind j), .int .i64 4, .int .i64 ((j % 4 : Nat) : Int), .int .i64 (sOp rep j), .int .i64 0] 60)) = .ok (.slice ad2 (3 * j + 3) c2) w2 := hrun
      rw [e4] at hrun
      have hPB : PB 43 60 W0 (w2.setCell ⟨g, 1, none⟩ (.slice ad2 (3 * j + 3) c2)) g vN (.slice ad2 (3 * j + 3) c2) ⟨[[98]], sCode (kdS kind) rep (j + 1)⟩ := hPB
      have HN := Hid.mk hPB
      have z1 := HB.out.c1
      have eK : kdS kind j = wrap64 (kind + (j : Int)) := (w64_wrap _).symm
      rw [eK] at hrun
      clear hPB eK e4
      cases rep with
      | false =>
        have eO : sOp false j = 17 := rfl
        rw [eO] at hrun
        clear eO
        go_wp2_with (at_builtin; refine wpList_append_run 41 41 (.tmp 33) (.tmp 43) rfl (by rfl) _ _ rfl rfl _ _ hrun ?_)
        go_roundw
        case rel => first | exact ⟨j + 1, _, by go_num, by omega, HN⟩ | exact ⟨_, j + 1, by go_num, by omega, HN⟩ | exact ⟨_, by omega, HN⟩
        case measure => simp [intOf]; omega
      | true =>
        by_cases hm : j % 2 = 1
        · have eO : sOp true j = 18 := by unfold sOp; rw [if_pos ⟨rfl, hm⟩]
          have hmI : (((j : Int) % 2) == 1) = true := by simp; omega
          rw [eO] at hrun
          clear eO hm
          go_wp2_with (at_builtin; refine wpList_append_run 41 41 (.tmp 33) (.tmp 43) rfl (by rfl) _ _ rfl rfl _ _ hrun ?_)
          go_roundw
          case rel => first | exact ⟨j + 1, _, by go_num, by omega, HN⟩ | exact ⟨_, j + 1, by go_num, by omega, HN⟩ | exact ⟨_, by omega, HN⟩
          case measure => simp [intOf]; omega
        · have eO : sOp true j = 17 := by unfold sOp; rw [if_neg (fun h => hm h.2)]
          have hmI : (((j : Int) % 2) == 1) = false := by simp only [beq_eq_false_iff_ne, ne_eq]; omega
          rw [eO] at hrun
          clear eO hm
          go_wp2_with (at_builtin; refine wpList_append_run 41 41 (.tmp 33) (.tmp 43) rfl (by rfl) _ _ rfl rfl _ _ hrun ?_)
          go_roundw
          case rel => first | exact ⟨j + 1, _, by go_num, by omega, HN⟩ | exact ⟨_, j + 1, by go_num, by omega, HN⟩ | exact ⟨_, by omega, HN⟩
          case measure => simp [intOf]; omega
    · have hltI : ¬ (j : Int) < (n : Int) := by omega
      obtain rfl : j = n := by omega
      have HB2 : Hid (PB 43 60 W0 wr g vN (.slice xa (3 * j) xc) (sendsP (kdS kind) rep j)) := HB
      have HRun := Hid.mk (HRun.out wr g _ _ HB2.out)
      have KD : Hid (Kept [] wr wr.drew) := Hid.mk (Kept.refl [] wr).drew
      have KA : Hid (Kept [] wr (wr.alloc (.cells #[.int .i64 0, .int .i64 0, .int .i64 0, .int .i64 0, .int .i64 0, .int .i64 0, .int .i64 0, .int .i64 0, .slice none 0 0, .slice none 0 0, .slice none 0 0, .int .i64 0] 37)).drew) := Hid.mk ((Kept.refl [] wr).alloc _).drew
      have HS : Hid (∀ V, Kept [] wr V → (V.cell? ⟨g, 0, none⟩ = some vN ∧ V.cell? ⟨g, 1, none⟩ = some (.slice xa (3 * j) xc))) := Hid.mk (fun V k => ⟨k.cell_eq HB2.out.c0, k.cell_eq HB2.out.c1⟩)
      have S0 := HS.out _ KD.out
      have S1 := HS.out _ KA.out
      clear HB HPB
      go_wp2_with fail
      go_cut [12, 13] (fun a b wc => ∃ g : Nat, a = .pointer (some ⟨g, 0, none⟩) ∧ b = .int .i64 R.2 ∧ Hid (ResX wr wc g R.1))
      case first =>
        go_region_held3 (fun V => (V.cell? ⟨g, 0, none⟩ = some vN ∧ V.cell? ⟨g, 1, none⟩ = some (.slice xa (3 * j) xc))) (first | with_reducible exact S0 | with_reducible exact S1 | with_reducible exact S4 | with_reducible exact HS.out _ K5.out | with_reducible exact HS.out _ (K4.out.alloc _)) (first | (go_at_call 11; first | ((with_reducible refine (HRun.out _ KD.out).mono ?_); rintro e w4 ⟨xv, rfl, hR, k4⟩; have K4 := Hid.mk (KD.out.then k4); obtain ⟨X, rfl, hXl, hS5⟩ := resX_cells (g := 0) hR K4.out KD.out.size; obtain ⟨W5, hst0, hX⟩ := hS5 w4.heap.size _ (heap_alloc_new w4 _) K4.out.size (.inr ⟨rfl, rfl⟩) (.inr rfl); have hst : (storeCells ⟨w4.heap.size, 0, none⟩ X).run Tryd.prog (w4.alloc (.cells #[.int .i64 0, .int .i64 0, .int .i64 0, .int .i64 0, .int .i64 0, .int .i64 0, .int .i64 0, .int .i64 0, .slice none 0 0, .slice none 0 0, .slice none 0 0, .int .i64 0] 37)) = .ok () W5 := hst0; have HX := Hid.mk hX; have K5 : Hid (Kept [] wr W5) := hX.2.1; have S4 := HS.out w4 K4.out; clear hR k4 hX hS5) | ((with_reducible refine (HRun.out _ KA.out).mono ?_); rintro e w4 ⟨xv, rfl, hR, k4⟩; have K4 := Hid.mk (KA.out.then k4); obtain ⟨X, rfl, hXl, hS5⟩ := resX_cells (g := 0) hR K4.out KA.out.size; obtain ⟨W5, hst, hX⟩ := hS5 wr.heap.size w4 (k4.keeps (show (wr.alloc (.cells #[.int .i64 0, .int .i64 0, .int .i64 0, .int .i64 0, .int .i64 0, .int .i64 0, .int .i64 0, .int .i64 0, .slice none 0 0, .slice none 0 0, .slice none 0 0, .int .i64 0] 37)).drew.heap[wr.heap.size]? = _ from heap_alloc_new wr (.cells #[.int .i64 0, .int .i64 0, .int .i64 0, .int .i64 0, .int .i64 0, .int .i64 0, .int .i64 0, .int .i64 0, .slice none 0 0, .slice none 0 0, .slice none 0 0, .int .i64 0] 37)) (by simp)) (Nat.le_refl _) (.inl (by simp)) (.inl rfl); have HX := Hid.mk hX; have K5 : Hid (Kept [] wr W5) := hX.2.1; have S4 := HS.out w4 K4.out; clear hR k4 hX hS5)))
        all_goals (go_wp2_with fail; go_meet; exact ⟨_, rfl, rfl, HX⟩)
      case rest =>
      obtain ⟨g', ra, rb, HX⟩ := hcut
      subst ra
      subst rb
      obtain ⟨⟨ev, sn, tm, hB, -, -, -⟩, KX, -⟩ := HX.out
      have HKX : Hid (Kept [] W0 wc) := HB2.out.kept.then KX
      obtain ⟨sa, sc, rfl, -⟩ := hB.sn.form
      have c9 := hB.c_sn
      have c11 := hB.c_k
      rw [rowS_length] at c9
      have HSN := Hid.mk hB.sn
      have ha := HA2.out
      clear hB KX S0 S1 HS KD KA HRun HX HB2 HAw
      by_cases c4 : 4 < j
      · obtain rfl := HR2.out c4
        have c4I : (4 : Int) < (j : Int) := by omega
        have c9 : wc.cell? ⟨g', 9, none⟩ = some (.slice sa 0 sc) := c9
        have c11 : wc.cell? ⟨g', 11, none⟩ = some (.int .i64 15) := c11
        go_wp2_with fail
        go_ret
        exact ⟨rfl, HK0.out.then HKX.out⟩
      · obtain rfl := HR1.out (by omega)
        have c4I : ¬ (4 : Int) < (j : Int) := by omega
        dsimp only at c9 c11 HSN
        rw [sSent_length] at c9
        rw [rowS_length, sSent_length] at HSN
        go_wp2_with fail
        go_loopw [85] (fun i wr2 => ∃ k : Nat, i = .int .i64 (k : Int) ∧ k ≤ j ∧ Hid (Kept [] wc wr2)) (fun i _ => j - (intOf i).toNat)
        case atStart => exact ⟨0, rfl, by omega, Hid.mk (Kept.refl [] wc)⟩
        case round =>
          obtain ⟨i, rfl, hi, HK2⟩ := hrel
          generalize wr = wr2 at *
          have d9 := HK2.out.cell_eq c9
          by_cases hlt : i < j
          · have hltI : (i : Int) < (j : Int) := by omega
            have hi0 : (0 : Int) ≤ (i : Int) := by omega
            obtain ⟨b, o, hev, t0, t1, t2⟩ := rowS_at (HSN.out.keep HK2.out) (sSent_at (kind := kdS kind) (reply := rep) (A := [a0, a1, a2, a3]) hlt)
            subst hev
            dsimp only at t0 t1 t2
            have hax : wr2.cell? ⟨w.heap.size, i % 4, none⟩ = some (.int .i64 ([a0, a1, a2, a3].getD (i % 4) 0)) := cell_list (HAr.out wr2 (HKX.out.then HK2.out)) (by
              have h4 : i % 4 = 0 ∨ i % 4 = 1 ∨ i % 4 = 2 ∨ i % 4 = 3 := by omega
              rcases h4 with h | h | h | h <;> rw [h] <;> rfl)
            generalize [a0, a1, a2, a3].getD (i % 4) 0 = av at *
            have e4 : ((i : Int) % 4).toNat = i % 4 := by omega
            have t1 : wr2.cell? ⟨b, o + i * 3 + 1, none⟩ = some (.int .i64 (IntKind.i64.wrap (kind + (i : Int)))) := t1
            have HN : Hid (Kept [] wc wr2.drew) := HK2.out.drew
            have s9 : wr2.drew.cell? ⟨g', 9, none⟩ = some (.slice (some ⟨b, o, none⟩) j sc) := d9
            have s1 : wr2.drew.cell? ⟨b, o + i * 3 + 1, none⟩ = some (.int .i64 (IntKind.i64.wrap (kind + (i : Int)))) := t1
            have s2 : wr2.drew.cell? ⟨b, o + i * 3 + 2, none⟩ = some (.int .i64 av) := t2
            have s3 : wr2.drew.cell? ⟨w.heap.size, i % 4, none⟩ = some (.int .i64 av) := hax
            cases rep with
            | false =>
              have s0 : wr2.drew.cell? ⟨b, o + i * 3, none⟩ = some (.string ⟨#[98]⟩) := t0
              clear t0 t1 t2 hax
              go_wp2_with fail
              go_region
              go_wp2_with fail
              go_roundw
              case rel => exact ⟨i + 1, by go_num, by omega, HN⟩
              case measure => simp [intOf]; omega
            | true =>
              by_cases hm : i % 2 = 1
              · have hmI : (((i : Int) % 2) == 1) = true := by simp; omega
                have s0 : wr2.drew.cell? ⟨b, o + i * 3, none⟩ = some (.string ⟨#[109, 101]⟩) := by
                  have : sTo true i = [109, 101] := by unfold sTo; rw [if_pos ⟨rfl, hm⟩]
                  rw [this] at t0
                  exact t0
                clear hm
                clear t0 t1 t2 hax
                go_wp2_with fail
                go_region
                go_wp2_with fail
                go_roundw
                case rel => exact ⟨i + 1, by go_num, by omega, HN⟩
                case measure => simp [intOf]; omega
              · have hmI : (((i : Int) % 2) == 1) = false := by simp only [beq_eq_false_iff_ne, ne_eq]; omega
                have s0 : wr2.drew.cell? ⟨b, o + i * 3, none⟩ = some (.string ⟨#[98]⟩) := by
                  have : sTo true i = [98] := by unfold sTo; rw [if_neg (fun h => hm h.2)]
                  rw [this] at t0
                  exact t0
                clear hm
                clear t0 t1 t2 hax
                go_wp2_with fail
                go_region
                go_wp2_with fail
                go_roundw
                case rel => exact ⟨i + 1, by go_num, by omega, HN⟩
                case measure => simp [intOf]; omega
          · have hltI : ¬ (i : Int) < (j : Int) := by omega
            go_wp2_with fail
            go_ret
            exact ⟨rfl, HK0.out.then (HKX.out.then HK2.out)⟩
end
end Go.Proofs.YtpodoiichpnpjaaDoor
