/-
  LetterBack: the walk.
-/
import Derived.Test.YtkcgknbnoegpdaaUn
import Derived.Test.YtkcgknbnoegpdaaSa
namespace Go.Proofs.Ytkcgknbnoegpdaa
open Go.RowKit
set_option linter.unusedVariables false
section
variable {w : World}
set_option maxRecDepth 100000 in
set_option maxHeartbeats 2000000 in
theorem back_walk {a : Option Addr} {n c : Nat} {l : List Lq} (hr : RowQ w (.slice a n c) l) (hv : ValsQ w l) (hok : ∀ q ∈ l, q.x.ok) (vb : Value) (B : List UInt8) (hB : Reads w vb B) (hBl : B.length ≤ 140737488351232) :
    Calls Try.prog 6 #[.slice a n c, vb] w fun e w' => e = .returned (.bool true) ∧ Kept [] w w' := by
  obtain ⟨hn, hc1, hc2⟩ := hr.bound
  have HR := Hid.mk hr
  have HV := Hid.mk hv
  have HB := Hid.mk hB
  have HK := Hid.mk hok
  have HN := Hid.mk hn
  clear hr hv hB hok hn
  go_enter Try.func6, Try.ntmps6
  go_wp2_with fail
  refine awake9.mono ?_
  rintro e w1 ⟨rfl, k1⟩
  go_wp2_with fail
  refine (few10 (HR.out.kept k1 (by simp))).mono ?_
  rintro e w2 ⟨fb, rfl, hfew, k2⟩
  have k02 := k1.trans k2 (by simp)
  cases fb with
  | false =>
    go_wp2_with fail
    refine awake9.mono ?_
    rintro e w3 ⟨rfl, k3⟩
    go_wp2_with fail
    go_ret
    exact ⟨rfl, k02.trans k3 (by simp)⟩
  | true =>
    have hfq := hfew rfl
    have hnl : n ≤ 301 := by have := hfq.1; have := HN.out; omega
    have HFQ := Hid.mk hfq
    clear hfew hfq
    go_wp2_with fail
    refine (pack20 (HR.out.kept k02 (by simp)) (HV.out.kept0 k02) HK.out (by omega)).mono ?_
    rintro e w3 ⟨v3, rfl, hO3, k3, hf3⟩
    have k03 := k02.trans k3 (by simp)
    cases hall : allF l with
    | false =>
      have hE : packE l = 1 := by simp [packE, hall]
      rw [hE]
      clear hE hO3
      have KW := k03
      go_wp2_with fail
      go_loopw [48] (fun i wr => ∃ j : Nat, i = .int .i64 (j : Int) ∧ j ≤ n ∧ Hid (Kept [] w wr)) (fun i _ => n - (intOf i).toNat)
      case atStart => exact ⟨0, rfl, by omega, Hid.mk KW⟩
      case round =>
        obtain ⟨j, rfl, hj, kk⟩ := hrel
        by_cases hlt : j < n
        · obtain ⟨q, hq⟩ : ∃ q, l[j]? = some q := ⟨_, List.getElem?_eq_getElem (by have := HN.out; omega)⟩
          have hmem := List.mem_of_getElem? hq
          have hjI : (j : Int) < (n : Int) := by omega
          obtain ⟨b, o, rfl, d0, d1, d2, d3⟩ := (HR.out.kept kk.out (by simp)).at hq
          have HM := Hid.mk hmem
          clear hq hmem
          go_wp2_with fail
          refine (encode11 q.x q.ad q.cap ((HV.out q HM.out).kept kk.out (by simp)) (HK.out q HM.out)).mono ?_
          rintro e w5 ⟨v5, rfl, hO5, k5, hf5⟩
          have k05 := kk.out.trans k5 (by simp)
          cases hfm : q.x.formed with
          | false =>
            have hq : encE q.x = 1 := by simp [encE, hfm]
            rw [hq]
            clear hq hO5
            go_wp2_with fail
            go_roundw
            case rel => exact ⟨j + 1, by go_num, by omega, Hid.mk k05⟩
            case measure => simp [intOf]; omega
          | true =>
            have hq : encE q.x = 0 ∧ encB q.x = encL q.x := by simp [encE, encB, hfm]
            rw [hq.1]
            rw [hq.2] at hO5
            clear hq
            have hfl := formed_le hfm
            have hel := encL_length q.x
            have hdl := decL_enc (HK.out q HM.out) hfm
            have d0' := k5.cell_eq d0
            have d1' := k5.cell_eq d1
            have d2' := k5.cell_eq d2
            have d3' := k5.cell_eq d3
            clear d0 d1 d2 d3
            go_wp2_with fail
            refine (decode18 v5 _ hO5.reads (by omega)).mono ?_
            intro e w6 h6
            unfold DecAt at h6
            rw [hdl] at h6
            obtain ⟨a6, c6, rfl, hO6, k6, hf6⟩ := h6
            dsimp only [Option.isSome, Option.getD] at hO6 hf6 ⊢
            rw [if_pos rfl]
            have k06 := k05.trans k6 (by simp)
            have kW := (Kept.refl [] w6).alloc (.cells #[Sv q.x.fr, .int .u64 (q.x.ser : Int), .int .i64 q.x.kind, .slice a6 q.x.args.length c6] 25)
            have e0 := kW.cell_eq (k6.cell_eq d0')
            have e1 := kW.cell_eq (k6.cell_eq d1')
            have e2 := kW.cell_eq (k6.cell_eq d2')
            have e3 := kW.cell_eq (k6.cell_eq d3')
            clear d0' d1' d2' d3' hdl hel hO5
            go_wp2_with fail
            obtain ⟨W7, e7, -, hz7, hb7⟩ := box1 w6 (.cells #[Sv q.x.fr, .int .u64 (q.x.ser : Int), .int .i64 q.x.kind, .slice a6 q.x.args.length c6] 25)
            rw [e7] at kW e0 e1 e2 e3
            rw [e7]
            clear e7
            obtain ⟨c0, c1, c2, c3⟩ := cells4 hb7
            have k07 := k06.trans kW (by simp)
            have kd := k07.drew
            have hO7 := (hO6.kept kW (by simp)).kept ((Kept.refl [] W7).drew) (by simp)
            generalize w6.heap.size = mb at *
            have S0 : W7.drew.cell? ⟨mb, 0, none⟩ = some (Sv q.x.fr) ∧ W7.drew.cell? ⟨mb, 1, none⟩ = some (.int .u64 (q.x.ser : Int)) ∧ W7.drew.cell? ⟨mb, 2, none⟩ = some (.int .i64 q.x.kind) ∧ W7.drew.cell? ⟨mb, 3, none⟩ = some (.slice a6 q.x.args.length c6) ∧ W7.drew.cell? ⟨b, o + j * 4, none⟩ = some (Sv q.x.fr) ∧ W7.drew.cell? ⟨b, o + j * 4 + 1, none⟩ = some (.int .u64 (q.x.ser : Int)) ∧ W7.drew.cell? ⟨b, o + j * 4 + 2, none⟩ = some (.int .i64 q.x.kind) ∧ W7.drew.cell? ⟨b, o + j * 4 + 3, none⟩ = some (.slice q.ad q.x.args.length q.cap) := ⟨c0, c1, c2, c3, e0, e1, e2, e3⟩
            have HC : Hid (Calls Try.prog 16 #[Lv q.x a6 c6, Lv q.x q.ad q.cap] W7.drew fun e w' => e = .returned (.bool true) ∧ Kept [] W7.drew w') := by
              have := same16 (w := W7.drew) q.x q.x a6 q.ad c6 q.cap hO7.reads ((HV.out q HM.out).kept kd (by simp)) (by omega)
              rwa [sameL_refl] at this
            have KD := Hid.mk kd
            clear c0 c1 c2 c3 e0 e1 e2 e3 kd hO7 hO6 hb7 hz7 kW
            go_wp2_with fail
            go_region_held3 (fun w' => w'.cell? ⟨mb, 0, none⟩ = some (Sv q.x.fr) ∧ w'.cell? ⟨mb, 1, none⟩ = some (.int .u64 (q.x.ser : Int)) ∧ w'.cell? ⟨mb, 2, none⟩ = some (.int .i64 q.x.kind) ∧ w'.cell? ⟨mb, 3, none⟩ = some (.slice a6 q.x.args.length c6) ∧ w'.cell? ⟨b, o + j * 4, none⟩ = some (Sv q.x.fr) ∧ w'.cell? ⟨b, o + j * 4 + 1, none⟩ = some (.int .u64 (q.x.ser : Int)) ∧ w'.cell? ⟨b, o + j * 4 + 2, none⟩ = some (.int .i64 q.x.kind) ∧ w'.cell? ⟨b, o + j * 4 + 3, none⟩ = some (.slice q.ad q.x.args.length q.cap)) (first | exact S0 | exact S1) ((go_at_call 16; refine HC.out.mono ?_; rintro e w8 ⟨rfl, k8⟩; have S1 := (fun (k : Kept [] W7.drew w8) => (⟨k.cell_eq S0.1, k.cell_eq S0.2.1, k.cell_eq S0.2.2.1, k.cell_eq S0.2.2.2.1, k.cell_eq S0.2.2.2.2.1, k.cell_eq S0.2.2.2.2.2.1, k.cell_eq S0.2.2.2.2.2.2.1, k.cell_eq S0.2.2.2.2.2.2.2⟩ : w8.cell? ⟨mb, 0, none⟩ = some (Sv q.x.fr) ∧ w8.cell? ⟨mb, 1, none⟩ = some (.int .u64 (q.x.ser : Int)) ∧ w8.cell? ⟨mb, 2, none⟩ = some (.int .i64 q.x.kind) ∧ w8.cell? ⟨mb, 3, none⟩ = some (.slice a6 q.x.args.length c6) ∧ w8.cell? ⟨b, o + j * 4, none⟩ = some (Sv q.x.fr) ∧ w8.cell? ⟨b, o + j * 4 + 1, none⟩ = some (.int .u64 (q.x.ser : Int)) ∧ w8.cell? ⟨b, o + j * 4 + 2, none⟩ = some (.int .i64 q.x.kind) ∧ w8.cell? ⟨b, o + j * 4 + 3, none⟩ = some (.slice q.ad q.x.args.length q.cap))) k8))
            clear S0 S1
            go_wp2_with fail
            go_roundw
            case rel => exact ⟨j + 1, by go_num, by omega, Hid.mk (KD.out.trans k8 (by simp))⟩
            case measure => simp [intOf]; omega
        · obtain rfl : j = n := by omega
          go_wp2_with fail
          refine (decode18 vb B (HB.out.kept kk.out (by simp)) (by omega)).mono ?_
          intro e w5 h5
          cases hdl : decL B with
          | none =>
            obtain ⟨a5, c5, rfl, k5⟩ : ∃ a c, e = .returned (.tuple #[Lv ⟨[], 0, 0, []⟩ a c, .int .i64 2]) ∧ Kept [] wr w5 := by
              unfold DecAt at h5
              rw [hdl] at h5
              obtain ⟨a, c, he, _, k, _⟩ := h5
              exact ⟨a, c, he, k⟩
            have k05 := kk.out.trans k5 (by simp)
            clear h5
            go_wp2_with fail
            go_ret
            exact ⟨rfl, k05.alloc _⟩
          | some y =>
            unfold DecAt at h5
            rw [hdl] at h5
            obtain ⟨a5, c5, rfl, hO5, k5, hf5⟩ := h5
            dsimp only [Option.isSome, Option.getD] at hO5 hf5 ⊢
            rw [if_pos rfl]
            obtain ⟨hyk, hyf⟩ := decL_ok hdl
            have hyo := decL_own hdl
            have hq : encE y = 0 ∧ encB y = B := by simp [encE, encB, hyf, hyo]
            have HQ := Hid.mk hq
            have k05 := kk.out.trans k5 (by simp)
            clear hdl hyf hyo hq
            go_wp2_with fail
            obtain ⟨W5, e5, kW5, hz5, hb5⟩ := box1 w5 (.cells #[Sv y.fr, .int .u64 (y.ser : Int), .int .i64 y.kind, .slice a5 y.args.length c5] 25)
            rw [e5]
            clear e5
            refine (encode11 y a5 c5 (hO5.kept kW5 (by simp)).reads hyk).mono ?_
            rintro e w6 ⟨v6, rfl, hO6, k6, hf6⟩
            rw [HQ.out.2] at hO6
            rw [HQ.out.1]
            have k06 := (k05.trans kW5 (by simp)).trans k6 (by simp)
            have hs6 := string_of (P := Try.prog) 29 5 Try.underlying29 9 Try.underlying5 Try.underlying9 v6 B w6 hO6.reads
            have hsb := string_of (P := Try.prog) 29 5 Try.underlying29 9 Try.underlying5 Try.underlying9 vb B w6 (HB.out.kept k06 (by simp))
            go_wp2_with fail
            go_ret
            exact ⟨rfl, k06⟩
    | true =>
      have hE : packE l = 0 ∧ packB l = enc l.length ++ encA l := by simp [packE, packB, hall]
      rw [hE.1]
      rw [hE.2] at hO3
      clear hE
      have hall' : ∀ q ∈ l, q.x.formed = true := by unfold allF at hall; rw [List.all_eq_true] at hall; exact hall
      have hdp := decP_pack l HK.out hall' (by have := HN.out; omega)
      have hln := encA_len l hall'
      have hel := enc_length l.length
      go_wp2_with fail
      refine (unpack22 v3 _ hO3.reads (by have := HN.out; simp only [List.length_append]; omega)).mono ?_
      rintro e w4 ⟨v4, qs, rfl, hq4, hO4, k4⟩
      rw [hdp] at hq4 ⊢
      have k04 := k03.trans k4 (by simp)
      obtain ⟨a4, c4, rfl, -, -⟩ := hO4.row.form
      have hqq : qs.map (·.x) = l.map (·.x) := hq4
      have hql : qs.length = l.length := by have := congrArg List.length hqq; simpa using this
      have HC : Hid (Calls Try.prog 24 #[.slice a4 qs.length c4, .slice a n c] w4 fun e w' => e = .returned (.bool true) ∧ Kept [] w4 w') := by
        have := sameAll24 hO4.row hO4.vals (HR.out.kept k04 (by simp)) (HV.out.kept0 k04) (by have := HN.out; omega) (fun q hq => by
          have hm : q.x ∈ l.map (·.x) := by rw [← hqq]; exact List.mem_map.2 ⟨q, hq, rfl⟩
          obtain ⟨q', hq', e⟩ := List.mem_map.1 hm
          have := formed_le (hall' q' hq')
          rw [e] at this
          omega)
        rwa [decide_eq_true hqq] at this
      dsimp only [Option.isSome]
      clear hdp hO4 hqq hq4 hln hel hO3 hall hall' hql
      go_wp2_with fail
      refine HC.out.mono ?_
      rintro e w4' ⟨rfl, k4'⟩
      have KW := k04.trans k4' (by simp)
      go_wp2_with fail
      go_loopw [48] (fun i wr => ∃ j : Nat, i = .int .i64 (j : Int) ∧ j ≤ n ∧ Hid (Kept [] w wr)) (fun i _ => n - (intOf i).toNat)
      case atStart => exact ⟨0, rfl, by omega, Hid.mk KW⟩
      case round =>
        obtain ⟨j, rfl, hj, kk⟩ := hrel
        by_cases hlt : j < n
        · obtain ⟨q, hq⟩ : ∃ q, l[j]? = some q := ⟨_, List.getElem?_eq_getElem (by have := HN.out; omega)⟩
          have hmem := List.mem_of_getElem? hq
          have hjI : (j : Int) < (n : Int) := by omega
          obtain ⟨b, o, rfl, d0, d1, d2, d3⟩ := (HR.out.kept kk.out (by simp)).at hq
          have HM := Hid.mk hmem
          clear hq hmem
          go_wp2_with fail
          refine (encode11 q.x q.ad q.cap ((HV.out q HM.out).kept kk.out (by simp)) (HK.out q HM.out)).mono ?_
          rintro e w5 ⟨v5, rfl, hO5, k5, hf5⟩
          have k05 := kk.out.trans k5 (by simp)
          cases hfm : q.x.formed with
          | false =>
            have hq : encE q.x = 1 := by simp [encE, hfm]
            rw [hq]
            clear hq hO5
            go_wp2_with fail
            go_roundw
            case rel => exact ⟨j + 1, by go_num, by omega, Hid.mk k05⟩
            case measure => simp [intOf]; omega
          | true =>
            have hq : encE q.x = 0 ∧ encB q.x = encL q.x := by simp [encE, encB, hfm]
            rw [hq.1]
            rw [hq.2] at hO5
            clear hq
            have hfl := formed_le hfm
            have hel := encL_length q.x
            have hdl := decL_enc (HK.out q HM.out) hfm
            have d0' := k5.cell_eq d0
            have d1' := k5.cell_eq d1
            have d2' := k5.cell_eq d2
            have d3' := k5.cell_eq d3
            clear d0 d1 d2 d3
            go_wp2_with fail
            refine (decode18 v5 _ hO5.reads (by omega)).mono ?_
            intro e w6 h6
            unfold DecAt at h6
            rw [hdl] at h6
            obtain ⟨a6, c6, rfl, hO6, k6, hf6⟩ := h6
            dsimp only [Option.isSome, Option.getD] at hO6 hf6 ⊢
            rw [if_pos rfl]
            have k06 := k05.trans k6 (by simp)
            have kW := (Kept.refl [] w6).alloc (.cells #[Sv q.x.fr, .int .u64 (q.x.ser : Int), .int .i64 q.x.kind, .slice a6 q.x.args.length c6] 25)
            have e0 := kW.cell_eq (k6.cell_eq d0')
            have e1 := kW.cell_eq (k6.cell_eq d1')
            have e2 := kW.cell_eq (k6.cell_eq d2')
            have e3 := kW.cell_eq (k6.cell_eq d3')
            clear d0' d1' d2' d3' hdl hel hO5
            go_wp2_with fail
            obtain ⟨W7, e7, -, hz7, hb7⟩ := box1 w6 (.cells #[Sv q.x.fr, .int .u64 (q.x.ser : Int), .int .i64 q.x.kind, .slice a6 q.x.args.length c6] 25)
            rw [e7] at kW e0 e1 e2 e3
            rw [e7]
            clear e7
            obtain ⟨c0, c1, c2, c3⟩ := cells4 hb7
            have k07 := k06.trans kW (by simp)
            have kd := k07.drew
            have hO7 := (hO6.kept kW (by simp)).kept ((Kept.refl [] W7).drew) (by simp)
            generalize w6.heap.size = mb at *
            have S0 : W7.drew.cell? ⟨mb, 0, none⟩ = some (Sv q.x.fr) ∧ W7.drew.cell? ⟨mb, 1, none⟩ = some (.int .u64 (q.x.ser : Int)) ∧ W7.drew.cell? ⟨mb, 2, none⟩ = some (.int .i64 q.x.kind) ∧ W7.drew.cell? ⟨mb, 3, none⟩ = some (.slice a6 q.x.args.length c6) ∧ W7.drew.cell? ⟨b, o + j * 4, none⟩ = some (Sv q.x.fr) ∧ W7.drew.cell? ⟨b, o + j * 4 + 1, none⟩ = some (.int .u64 (q.x.ser : Int)) ∧ W7.drew.cell? ⟨b, o + j * 4 + 2, none⟩ = some (.int .i64 q.x.kind) ∧ W7.drew.cell? ⟨b, o + j * 4 + 3, none⟩ = some (.slice q.ad q.x.args.length q.cap) := ⟨c0, c1, c2, c3, e0, e1, e2, e3⟩
            have HC : Hid (Calls Try.prog 16 #[Lv q.x a6 c6, Lv q.x q.ad q.cap] W7.drew fun e w' => e = .returned (.bool true) ∧ Kept [] W7.drew w') := by
              have := same16 (w := W7.drew) q.x q.x a6 q.ad c6 q.cap hO7.reads ((HV.out q HM.out).kept kd (by simp)) (by omega)
              rwa [sameL_refl] at this
            have KD := Hid.mk kd
            clear c0 c1 c2 c3 e0 e1 e2 e3 kd hO7 hO6 hb7 hz7 kW
            go_wp2_with fail
            go_region_held3 (fun w' => w'.cell? ⟨mb, 0, none⟩ = some (Sv q.x.fr) ∧ w'.cell? ⟨mb, 1, none⟩ = some (.int .u64 (q.x.ser : Int)) ∧ w'.cell? ⟨mb, 2, none⟩ = some (.int .i64 q.x.kind) ∧ w'.cell? ⟨mb, 3, none⟩ = some (.slice a6 q.x.args.length c6) ∧ w'.cell? ⟨b, o + j * 4, none⟩ = some (Sv q.x.fr) ∧ w'.cell? ⟨b, o + j * 4 + 1, none⟩ = some (.int .u64 (q.x.ser : Int)) ∧ w'.cell? ⟨b, o + j * 4 + 2, none⟩ = some (.int .i64 q.x.kind) ∧ w'.cell? ⟨b, o + j * 4 + 3, none⟩ = some (.slice q.ad q.x.args.length q.cap)) (first | exact S0 | exact S1) ((go_at_call 16; refine HC.out.mono ?_; rintro e w8 ⟨rfl, k8⟩; have S1 := (fun (k : Kept [] W7.drew w8) => (⟨k.cell_eq S0.1, k.cell_eq S0.2.1, k.cell_eq S0.2.2.1, k.cell_eq S0.2.2.2.1, k.cell_eq S0.2.2.2.2.1, k.cell_eq S0.2.2.2.2.2.1, k.cell_eq S0.2.2.2.2.2.2.1, k.cell_eq S0.2.2.2.2.2.2.2⟩ : w8.cell? ⟨mb, 0, none⟩ = some (Sv q.x.fr) ∧ w8.cell? ⟨mb, 1, none⟩ = some (.int .u64 (q.x.ser : Int)) ∧ w8.cell? ⟨mb, 2, none⟩ = some (.int .i64 q.x.kind) ∧ w8.cell? ⟨mb, 3, none⟩ = some (.slice a6 q.x.args.length c6) ∧ w8.cell? ⟨b, o + j * 4, none⟩ = some (Sv q.x.fr) ∧ w8.cell? ⟨b, o + j * 4 + 1, none⟩ = some (.int .u64 (q.x.ser : Int)) ∧ w8.cell? ⟨b, o + j * 4 + 2, none⟩ = some (.int .i64 q.x.kind) ∧ w8.cell? ⟨b, o + j * 4 + 3, none⟩ = some (.slice q.ad q.x.args.length q.cap))) k8))
            clear S0 S1
            go_wp2_with fail
            go_roundw
            case rel => exact ⟨j + 1, by go_num, by omega, Hid.mk (KD.out.trans k8 (by simp))⟩
            case measure => simp [intOf]; omega
        · obtain rfl : j = n := by omega
          go_wp2_with fail
          refine (decode18 vb B (HB.out.kept kk.out (by simp)) (by omega)).mono ?_
          intro e w5 h5
          cases hdl : decL B with
          | none =>
            obtain ⟨a5, c5, rfl, k5⟩ : ∃ a c, e = .returned (.tuple #[Lv ⟨[], 0, 0, []⟩ a c, .int .i64 2]) ∧ Kept [] wr w5 := by
              unfold DecAt at h5
              rw [hdl] at h5
              obtain ⟨a, c, he, _, k, _⟩ := h5
              exact ⟨a, c, he, k⟩
            have k05 := kk.out.trans k5 (by simp)
            clear h5
            go_wp2_with fail
            go_ret
            exact ⟨rfl, k05.alloc _⟩
          | some y =>
            unfold DecAt at h5
            rw [hdl] at h5
            obtain ⟨a5, c5, rfl, hO5, k5, hf5⟩ := h5
            dsimp only [Option.isSome, Option.getD] at hO5 hf5 ⊢
            rw [if_pos rfl]
            obtain ⟨hyk, hyf⟩ := decL_ok hdl
            have hyo := decL_own hdl
            have hq : encE y = 0 ∧ encB y = B := by simp [encE, encB, hyf, hyo]
            have HQ := Hid.mk hq
            have k05 := kk.out.trans k5 (by simp)
            clear hdl hyf hyo hq
            go_wp2_with fail
            obtain ⟨W5, e5, kW5, hz5, hb5⟩ := box1 w5 (.cells #[Sv y.fr, .int .u64 (y.ser : Int), .int .i64 y.kind, .slice a5 y.args.length c5] 25)
            rw [e5]
            clear e5
            refine (encode11 y a5 c5 (hO5.kept kW5 (by simp)).reads hyk).mono ?_
            rintro e w6 ⟨v6, rfl, hO6, k6, hf6⟩
            rw [HQ.out.2] at hO6
            rw [HQ.out.1]
            have k06 := (k05.trans kW5 (by simp)).trans k6 (by simp)
            have hs6 := string_of (P := Try.prog) 29 5 Try.underlying29 9 Try.underlying5 Try.underlying9 v6 B w6 hO6.reads
            have hsb := string_of (P := Try.prog) 29 5 Try.underlying29 9 Try.underlying5 Try.underlying9 vb B w6 (HB.out.kept k06 (by simp))
            go_wp2_with fail
            go_ret
            exact ⟨rfl, k06⟩
end
end Go.Proofs.Ytkcgknbnoegpdaa
