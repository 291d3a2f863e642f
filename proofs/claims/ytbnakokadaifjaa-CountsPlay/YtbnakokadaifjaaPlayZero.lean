/-
  CountsPlay: the walk, with the zero Counts.
-/
import Derived.Test.YtbnakokadaifjaaOps
import Derived.Deep.RegionHeld3
import Derived.BigRegion
namespace Go.Proofs.Ytbnakokadaifjaa
open Go.RowKit
set_option linter.unusedVariables false

set_option maxRecDepth 100000 in
set_option maxHeartbeats 8000000 in
theorem play_zero (w : World) (v : Value) (ops : List OpD) (hv : HoldsO w v ops) : Calls Try.prog 3 #[v, .bool true] w fun e w' => e = .returned (.bool true) ∧ Kept [] w w' := by
  obtain ⟨a, cap, rfl, h2, h3, h4, h5⟩ := id hv
  have hcap : cap ≤ 9223372036854775807 := h3
  clear h5
  go_enter Try.func3, Try.ntmps3
  go_wp2_with fail
  refine (awake_any w).mono ?_
  rintro e w1 ⟨rfl, k1⟩
  go_wp2_with fail
  refine (new_any _).mono ?_
  rintro e w2 ⟨rfl, hC, k2⟩
  go_wp2_with fail
  have hP : PS w w2.heap.size (w2.heap.size + 1) zeros zeros ((w2.alloc (.cells (C64 zeros).toArray 34)).alloc (.cells (C64 zeros).toArray 35)) := ⟨(new_isC w2 _ rfl).kept (((Kept.refl [] _).alloc _)) (by simp), by have := heap_alloc_new (w2.alloc (.cells (C64 zeros).toArray 34)) (.cells (C64 zeros).toArray 35); simpa [Row64] using this, ((k1.trans k2 (by simp)).alloc _).alloc _, by have := k1.size; have := k2.size; omega, by have := k1.size; have := k2.size; omega, by omega⟩
  generalize hp : w2.heap.size = p at hP
  generalize hq : p + 1 = q at hP
  have HO : Hid (w2.heap.size = p ∧ p + 1 = q) := ⟨hp, hq⟩
  clear hp hq hC k1 k2
  go_loopw [7, 8, 17] (fun _ _ i wr => ∃ (j : Nat) (l : List Nat), j ≤ ops.length ∧ i = .int .i64 (j : Int) ∧ PS w p q l l wr) (fun _ _ i _ => ops.length - (intOf i).toNat)
  case atStart => exact ⟨0, zeros, by omega, rfl, hP⟩
  case round =>
    clear hP
    obtain ⟨j, l, hj, rfl, hP⟩ := hrel
    have HL : Hid (l.length = 8) := hP.c.eight
    by_cases hlt : j < ops.length
    · have hlt2 : (j : Int) < (ops.length : Int) := by omega
      obtain ⟨x, hx⟩ : ∃ x, ops[j]? = some x := ⟨ops[j], by simp⟩
      obtain ⟨a', cap', hveq, -, -, -, h5⟩ := hv.kept hP.k
      injection hveq with e1 e2 e3
      subst e1 e3
      obtain ⟨b, o, rfl, hcc⟩ := h5 (fun h => by subst h; simp at hx)
      obtain ⟨c0, c1, c2⟩ := hcc j x hx
      have hn : x.n < 18446744073709551616 := h4 x (List.mem_of_getElem? hx)
      have hrq : wr.heap.size ≠ q := by have := hP.row.lt; omega
      have hrp : wr.heap.size ≠ p := by have := hP.c.row.lt; omega
      clear hcc h5 hx
      by_cases hin : 0 ≤ x.i ∧ x.i ≤ 7
      · obtain ⟨i, hi⟩ := Int.eq_ofNat_of_zero_le hin.1
        have hi8 : i < 8 := by omega
        have t0 : ¬ (i : Int) < 0 := by omega
        have t1 : ¬ (7 : Int) < (i : Int) := by omega
        rw [hi] at c1
        have hP1 := hP.alloc (.cells #[.int .i64 x.kind, .int .i64 (i : Int), .int .u64 (x.n : Int)] 37)
        have hcq := hP1.row.cell (hP1.c.get hi8)
        have hfq := hP1.row.free i
        have hi8' : (i : Int) < 8 := by omega
        have hsum : IntKind.u64.wrap (((l.getD i 0 : Nat) : Int) + (x.n : Int)) = ((sum64 (l.getD i 0) x.n : Nat) : Int) := by simp [sum64, IntKind.wrap_u64]
        generalize x.kind = kd at c0 hP1 hcq hfq
        generalize x.n = n at c2 hP1 hcq hfq hn hsum
        have hO1 : OpAt (wr.alloc (.cells #[.int .i64 kd, .int .i64 (i : Int), .int .u64 (n : Int)] 37)) wr.heap.size kd (i : Int) n := heap_alloc_new wr _
        generalize hy : l.getD i 0 = y at hcq hsum
        have HY : Hid (l.getD i 0 = y) := hy
        clear hy hi hin
        by_cases k1 : kd = 1
        · subst k1
          go_wp2_with fail
          go_region
          go_wp2_with fail
          have hP2 := (hP1.put i (sum64 y n)).drew
          have hO2 := hO1.kept (w' := (World.setCell (wr.alloc (.cells #[.int .i64 1, .int .i64 (i : Int), .int .u64 (n : Int)] 37)) ⟨q, i, none⟩ (.int .u64 ((sum64 y n : Nat) : Int))).drew) (S := [q]) (((Kept.refl [q] _).setCell (.inl (by simp)) _).drew) (by simpa using hrq)
          generalize (World.setCell (wr.alloc (.cells #[.int .i64 1, .int .i64 (i : Int), .int .u64 (n : Int)] 37)) ⟨q, i, none⟩ (.int .u64 ((sum64 y n : Nat) : Int))).drew = W2 at hP2 hO2
          clear hO1 hP1 hcq hfq hP c0 c1 c2
          have hm : (l.set i (sum64 y n))[i]? = some (sum64 y n) := by rw [List.getElem?_set_self (by rw [HL.out]; exact hi8)]
          have S0 : Held q wr.heap.size i (sum64 y n) n W2.drew := held_of hP2.drew hO2 hm
          have hadd := add_yes p l i hi8 n W2.drew hP2.drew.c
          rw [HY.out] at hadd
          have hS3 : ∀ w3, IsC w3 p (l.set i (sum64 y n)) → Kept [p] W2.drew w3 → Held q wr.heap.size i (sum64 y n) n w3 := fun w3 hc k => held_of (hP2.drew.turn hc k) (hO2.kept ((Kept.refl [p] W2).drew.trans k (by simp)) (by simpa using hrp)) hm
          have hP3 : ∀ w3, IsC w3 p (l.set i (sum64 y n)) → Kept [p] W2.drew w3 → PS w p q (l.set i (sum64 y n)) (l.set i (sum64 y n)) w3 := fun w3 hc k => hP2.drew.turn hc k
          go_region_held3 (fun w' => w'.cell? ⟨wr.heap.size, 1, none⟩ = some (.int .i64 (i : Int)) ∧ w'.cell? ⟨wr.heap.size, 2, none⟩ = some (.int .u64 (n : Int)) ∧ w'.cell? ⟨q, i, none⟩ = some (.int .u64 ((sum64 y n : Nat) : Int))) (first | exact S0 | exact S3) (first | (go_at_call 8; refine hadd.mono ?_; rintro e w3 ⟨rfl, hc3, k3⟩; have S3 := hS3 w3 hc3 k3))
          have hPX := hP3 _ hc3 k3
          clear hadd hS3 hP3 S0 hP2 hO2 hc3 k3
          go_wp2_with fail
          have HLl : Hid ((l.set i (sum64 y n)).length = 8) := (hPX).c.eight
          have hPd := (hPX).drew
          have hal := all_any _ _ _ hPd.c
          have hsm : ∀ (w3 : World) (g : Nat), Row64 29 w3 g (l.set i (sum64 y n)) → Calls Try.prog 11 #[.slice (some ⟨g, 0, none⟩) 8 8, .agg (C64 (l.set i (sum64 y n))).toArray] w3 fun e w' => e = .returned (.bool true) ∧ Kept [] w3 w' := fun w3 g h => same_yes g _ HLl.out w3 h
          generalize hCC : (C64 (l.set i (sum64 y n))).toArray = C at hsm
          refine wp_region_any (by kernel_rfl) ?_
          change wpAny _ _ _ _ _ _ _ (World.drew _)
          refine wpAny_take (i := 0) (v := .pointer (some ⟨p, 0, none⟩)) rfl (by kernel_rfl) (by kernel_rfl) (by kernel_rfl) (fun _ _ _ h => h) (Or.inl ⟨by rfl, fun w => by go_simp⟩) ?_
          refine wpAny_ready (rs := [1, 2]) (by kernel_rfl) (by simp) ?_
          refine AllReady.cons rfl (fun K hK => ?_) (AllReady.cons rfl (fun K hK => ?_) AllReady.nil)
          · go_simp
            go_wp2_with (go_at_call 12; refine hal.mono ?_; rintro e wa ⟨rfl, hRa, ka⟩)
            try clear hK K
            have hPa := hPd.kept ka
            refine wpAny_ready (rs := [2]) (by kernel_rfl) (by simp) (AllReady.cons rfl (fun K hK => ?_) AllReady.nil)
            refine step_load8 rfl _ rfl q rfl _ hPa.row HLl.out (hK _ _ ?_)
            rw [hCC]
            try clear hK K
            refine wpAny_ready (rs := [3]) (by kernel_rfl) (by simp) (AllReady.cons rfl (fun K hK => ?_) AllReady.nil)
            go_simp
            go_wp2_with (go_at_call 11; refine (hsm _ _ hRa).mono ?_; rintro e wb ⟨rfl, kb⟩)
            try clear hK K
            have hPb := hPa.kept kb
            refine wpAny_ready (rs := [4]) (by kernel_rfl) (by simp) (AllReady.cons rfl (fun K hK => ?_) AllReady.nil)
            go_simp
            refine hK _ _ ?_
            try clear hK K
            clear hPa hPd hal hsm ka kb hRa
            refine wpAny_done (by kernel_rfl) ?_ _
            go_wp2_with fail
            go_roundw
            case rel => exact ⟨j + 1, l.set i (sum64 y n), by omega, by go_num, hPb⟩
            case measure => simp [intOf]; omega
          · refine step_load8 rfl _ rfl q rfl _ hPd.row HLl.out (hK _ _ ?_)
            rw [hCC]
            try clear hK K
            refine wpAny_ready (rs := [1]) (by kernel_rfl) (by simp) (AllReady.cons rfl (fun K hK => ?_) AllReady.nil)
            go_simp
            go_wp2_with (go_at_call 12; refine hal.mono ?_; rintro e wa ⟨rfl, hRa, ka⟩)
            try clear hK K
            refine wpAny_ready (rs := [3]) (by kernel_rfl) (by simp) (AllReady.cons rfl (fun K hK => ?_) AllReady.nil)
            go_simp
            go_wp2_with (go_at_call 11; refine (hsm _ _ hRa).mono ?_; rintro e wb ⟨rfl, kb⟩)
            try clear hK K
            have hPb := (hPd.kept ka).kept kb
            refine wpAny_ready (rs := [4]) (by kernel_rfl) (by simp) (AllReady.cons rfl (fun K hK => ?_) AllReady.nil)
            go_simp
            refine hK _ _ ?_
            try clear hK K
            clear hPd hal hsm ka kb hRa
            refine wpAny_done (by kernel_rfl) ?_ _
            go_wp2_with fail
            go_roundw
            case rel => exact ⟨j + 1, l.set i (sum64 y n), by omega, by go_num, hPb⟩
            case measure => simp [intOf]; omega
        · by_cases k2 : kd = 2
          · subst k2
            go_wp2_with fail
            have hP2 := hP1
            have hO2 := hO1
            generalize (wr.alloc (.cells #[.int .i64 2, .int .i64 (i : Int), .int .u64 (n : Int)] 37)) = W2 at hP2 hO2
            clear hO1 hP1 hcq hfq hP c0 c1 c2
            have hm : l[i]? = some y := by rw [hP2.c.get hi8, HY.out]
            have S0 : Held q wr.heap.size i y n W2.drew := held_of hP2.drew hO2 hm
            have htk := take_yes p l i hi8 W2.drew hP2.drew.c
            rw [HY.out] at htk
            have hS3 : ∀ w3, IsC w3 p (l.set i 0) → Kept [p] W2.drew w3 → Held q wr.heap.size i y n w3 := fun w3 hc k => held_of (hP2.drew.turn hc k) (hO2.kept ((Kept.refl [p] W2).drew.trans k (by simp)) (by simpa using hrp)) hm
            have hP3 : ∀ w3, IsC w3 p (l.set i 0) → Kept [p] W2.drew w3 → PS w p q (l.set i 0) l w3 := fun w3 hc k => hP2.drew.turn hc k
            go_region_held3 (fun w' => w'.cell? ⟨wr.heap.size, 1, none⟩ = some (.int .i64 (i : Int)) ∧ w'.cell? ⟨wr.heap.size, 2, none⟩ = some (.int .u64 (n : Int)) ∧ w'.cell? ⟨q, i, none⟩ = some (.int .u64 (y : Int))) (first | exact S0 | exact S3) (first | (go_at_call 10; refine htk.mono ?_; rintro e w3 ⟨rfl, hc3, k3⟩; have S3 := hS3 w3 hc3 k3))
            have hPY := hP3 _ hc3 k3
            obtain ⟨s1, s2, s3⟩ := S3
            have hfy := hPY.row.free i
            have hPX : PS w p q (l.set i 0) (l.set i 0) (w3.setCell ⟨q, i, none⟩ (.int .u64 0)) := hPY.put i 0
            clear htk hS3 hP3 S0 hP2 hO2 hc3 k3 hPY
            go_wp2_with fail
            generalize w3.setCell ⟨q, i, none⟩ (.int .u64 0) = W3 at hPX
            clear s1 s2 s3 hfy
            have HLl : Hid ((l.set i 0).length = 8) := (hPX).c.eight
            have hPd := (hPX).drew
            have hal := all_any _ _ _ hPd.c
            have hsm : ∀ (w3 : World) (g : Nat), Row64 29 w3 g (l.set i 0) → Calls Try.prog 11 #[.slice (some ⟨g, 0, none⟩) 8 8, .agg (C64 (l.set i 0)).toArray] w3 fun e w' => e = .returned (.bool true) ∧ Kept [] w3 w' := fun w3 g h => same_yes g _ HLl.out w3 h
            generalize hCC : (C64 (l.set i 0)).toArray = C at hsm
            refine wp_region_any (by kernel_rfl) ?_
            change wpAny _ _ _ _ _ _ _ (World.drew _)
            refine wpAny_take (i := 0) (v := .pointer (some ⟨p, 0, none⟩)) rfl (by kernel_rfl) (by kernel_rfl) (by kernel_rfl) (fun _ _ _ h => h) (Or.inl ⟨by rfl, fun w => by go_simp⟩) ?_
            refine wpAny_ready (rs := [1, 2]) (by kernel_rfl) (by simp) ?_
            refine AllReady.cons rfl (fun K hK => ?_) (AllReady.cons rfl (fun K hK => ?_) AllReady.nil)
            · go_simp
              go_wp2_with (go_at_call 12; refine hal.mono ?_; rintro e wa ⟨rfl, hRa, ka⟩)
              try clear hK K
              have hPa := hPd.kept ka
              refine wpAny_ready (rs := [2]) (by kernel_rfl) (by simp) (AllReady.cons rfl (fun K hK => ?_) AllReady.nil)
              refine step_load8 rfl _ rfl q rfl _ hPa.row HLl.out (hK _ _ ?_)
              rw [hCC]
              try clear hK K
              refine wpAny_ready (rs := [3]) (by kernel_rfl) (by simp) (AllReady.cons rfl (fun K hK => ?_) AllReady.nil)
              go_simp
              go_wp2_with (go_at_call 11; refine (hsm _ _ hRa).mono ?_; rintro e wb ⟨rfl, kb⟩)
              try clear hK K
              have hPb := hPa.kept kb
              refine wpAny_ready (rs := [4]) (by kernel_rfl) (by simp) (AllReady.cons rfl (fun K hK => ?_) AllReady.nil)
              go_simp
              refine hK _ _ ?_
              try clear hK K
              clear hPa hPd hal hsm ka kb hRa
              refine wpAny_done (by kernel_rfl) ?_ _
              go_wp2_with fail
              go_roundw
              case rel => exact ⟨j + 1, l.set i 0, by omega, by go_num, hPb⟩
              case measure => simp [intOf]; omega
            · refine step_load8 rfl _ rfl q rfl _ hPd.row HLl.out (hK _ _ ?_)
              rw [hCC]
              try clear hK K
              refine wpAny_ready (rs := [1]) (by kernel_rfl) (by simp) (AllReady.cons rfl (fun K hK => ?_) AllReady.nil)
              go_simp
              go_wp2_with (go_at_call 12; refine hal.mono ?_; rintro e wa ⟨rfl, hRa, ka⟩)
              try clear hK K
              refine wpAny_ready (rs := [3]) (by kernel_rfl) (by simp) (AllReady.cons rfl (fun K hK => ?_) AllReady.nil)
              go_simp
              go_wp2_with (go_at_call 11; refine (hsm _ _ hRa).mono ?_; rintro e wb ⟨rfl, kb⟩)
              try clear hK K
              have hPb := (hPd.kept ka).kept kb
              refine wpAny_ready (rs := [4]) (by kernel_rfl) (by simp) (AllReady.cons rfl (fun K hK => ?_) AllReady.nil)
              go_simp
              refine hK _ _ ?_
              try clear hK K
              clear hPd hal hsm ka kb hRa
              refine wpAny_done (by kernel_rfl) ?_ _
              go_wp2_with fail
              go_roundw
              case rel => exact ⟨j + 1, l.set i 0, by omega, by go_num, hPb⟩
              case measure => simp [intOf]; omega
          · by_cases k3 : kd = 3
            · subst k3
              go_wp2_with fail
              have hP2 := hP1
              have hO2 := hO1
              generalize (wr.alloc (.cells #[.int .i64 3, .int .i64 (i : Int), .int .u64 (n : Int)] 37)) = W2 at hP2 hO2
              clear hO1 hP1 hcq hfq hP c0 c1 c2
              have hm : l[i]? = some y := by rw [hP2.c.get hi8, HY.out]
              have S0 : Held q wr.heap.size i y n W2.drew := held_of hP2.drew hO2 hm
              have htk := get_yes p l i hi8 W2.drew hP2.drew.c
              rw [HY.out] at htk
              go_region_held3 (fun w' => w'.cell? ⟨wr.heap.size, 1, none⟩ = some (.int .i64 (i : Int)) ∧ w'.cell? ⟨wr.heap.size, 2, none⟩ = some (.int .u64 (n : Int)) ∧ w'.cell? ⟨q, i, none⟩ = some (.int .u64 (y : Int))) (first | exact S0) (first | (go_at_call 9; refine htk.mono ?_; rintro e w3 ⟨rfl, rfl⟩))
              have hPX := hP2.drew
              clear htk S0 hP2 hO2
              go_wp2_with fail
              have HLl : Hid ((l).length = 8) := (hPX).c.eight
              have hPd := (hPX).drew
              have hal := all_any _ _ _ hPd.c
              have hsm : ∀ (w3 : World) (g : Nat), Row64 29 w3 g (l) → Calls Try.prog 11 #[.slice (some ⟨g, 0, none⟩) 8 8, .agg (C64 (l)).toArray] w3 fun e w' => e = .returned (.bool true) ∧ Kept [] w3 w' := fun w3 g h => same_yes g _ HLl.out w3 h
              generalize hCC : (C64 (l)).toArray = C at hsm
              refine wp_region_any (by kernel_rfl) ?_
              change wpAny _ _ _ _ _ _ _ (World.drew _)
              refine wpAny_take (i := 0) (v := .pointer (some ⟨p, 0, none⟩)) rfl (by kernel_rfl) (by kernel_rfl) (by kernel_rfl) (fun _ _ _ h => h) (Or.inl ⟨by rfl, fun w => by go_simp⟩) ?_
              refine wpAny_ready (rs := [1, 2]) (by kernel_rfl) (by simp) ?_
              refine AllReady.cons rfl (fun K hK => ?_) (AllReady.cons rfl (fun K hK => ?_) AllReady.nil)
              · go_simp
                go_wp2_with (go_at_call 12; refine hal.mono ?_; rintro e wa ⟨rfl, hRa, ka⟩)
                try clear hK K
                have hPa := hPd.kept ka
                refine wpAny_ready (rs := [2]) (by kernel_rfl) (by simp) (AllReady.cons rfl (fun K hK => ?_) AllReady.nil)
                refine step_load8 rfl _ rfl q rfl _ hPa.row HLl.out (hK _ _ ?_)
                rw [hCC]
                try clear hK K
                refine wpAny_ready (rs := [3]) (by kernel_rfl) (by simp) (AllReady.cons rfl (fun K hK => ?_) AllReady.nil)
                go_simp
                go_wp2_with (go_at_call 11; refine (hsm _ _ hRa).mono ?_; rintro e wb ⟨rfl, kb⟩)
                try clear hK K
                have hPb := hPa.kept kb
                refine wpAny_ready (rs := [4]) (by kernel_rfl) (by simp) (AllReady.cons rfl (fun K hK => ?_) AllReady.nil)
                go_simp
                refine hK _ _ ?_
                try clear hK K
                clear hPa hPd hal hsm ka kb hRa
                refine wpAny_done (by kernel_rfl) ?_ _
                go_wp2_with fail
                go_roundw
                case rel => exact ⟨j + 1, l, by omega, by go_num, hPb⟩
                case measure => simp [intOf]; omega
              · refine step_load8 rfl _ rfl q rfl _ hPd.row HLl.out (hK _ _ ?_)
                rw [hCC]
                try clear hK K
                refine wpAny_ready (rs := [1]) (by kernel_rfl) (by simp) (AllReady.cons rfl (fun K hK => ?_) AllReady.nil)
                go_simp
                go_wp2_with (go_at_call 12; refine hal.mono ?_; rintro e wa ⟨rfl, hRa, ka⟩)
                try clear hK K
                refine wpAny_ready (rs := [3]) (by kernel_rfl) (by simp) (AllReady.cons rfl (fun K hK => ?_) AllReady.nil)
                go_simp
                go_wp2_with (go_at_call 11; refine (hsm _ _ hRa).mono ?_; rintro e wb ⟨rfl, kb⟩)
                try clear hK K
                have hPb := (hPd.kept ka).kept kb
                refine wpAny_ready (rs := [4]) (by kernel_rfl) (by simp) (AllReady.cons rfl (fun K hK => ?_) AllReady.nil)
                go_simp
                refine hK _ _ ?_
                try clear hK K
                clear hPd hal hsm ka kb hRa
                refine wpAny_done (by kernel_rfl) ?_ _
                go_wp2_with fail
                go_roundw
                case rel => exact ⟨j + 1, l, by omega, by go_num, hPb⟩
                case measure => simp [intOf]; omega
            · have b1 : (kd == 1) = false := by simpa using k1
              have b2 : (kd == 2) = false := by simpa using k2
              have b3 : (kd == 3) = false := by simpa using k3
              have hPX := hP1
              clear hO1 hcq hfq hP
              go_wp2_with fail
              generalize (wr.alloc (.cells #[.int .i64 kd, .int .i64 (i : Int), .int .u64 (n : Int)] 37)) = W2 at hPX
              have HLl : Hid ((l).length = 8) := (hPX).c.eight
              have hPd := (hPX).drew
              have hal := all_any _ _ _ hPd.c
              have hsm : ∀ (w3 : World) (g : Nat), Row64 29 w3 g (l) → Calls Try.prog 11 #[.slice (some ⟨g, 0, none⟩) 8 8, .agg (C64 (l)).toArray] w3 fun e w' => e = .returned (.bool true) ∧ Kept [] w3 w' := fun w3 g h => same_yes g _ HLl.out w3 h
              generalize hCC : (C64 (l)).toArray = C at hsm
              refine wp_region_any (by kernel_rfl) ?_
              change wpAny _ _ _ _ _ _ _ (World.drew _)
              refine wpAny_take (i := 0) (v := .pointer (some ⟨p, 0, none⟩)) rfl (by kernel_rfl) (by kernel_rfl) (by kernel_rfl) (fun _ _ _ h => h) (Or.inl ⟨by rfl, fun w => by go_simp⟩) ?_
              refine wpAny_ready (rs := [1, 2]) (by kernel_rfl) (by simp) ?_
              refine AllReady.cons rfl (fun K hK => ?_) (AllReady.cons rfl (fun K hK => ?_) AllReady.nil)
              · go_simp
                go_wp2_with (go_at_call 12; refine hal.mono ?_; rintro e wa ⟨rfl, hRa, ka⟩)
                try clear hK K
                have hPa := hPd.kept ka
                refine wpAny_ready (rs := [2]) (by kernel_rfl) (by simp) (AllReady.cons rfl (fun K hK => ?_) AllReady.nil)
                refine step_load8 rfl _ rfl q rfl _ hPa.row HLl.out (hK _ _ ?_)
                rw [hCC]
                try clear hK K
                refine wpAny_ready (rs := [3]) (by kernel_rfl) (by simp) (AllReady.cons rfl (fun K hK => ?_) AllReady.nil)
                go_simp
                go_wp2_with (go_at_call 11; refine (hsm _ _ hRa).mono ?_; rintro e wb ⟨rfl, kb⟩)
                try clear hK K
                have hPb := hPa.kept kb
                refine wpAny_ready (rs := [4]) (by kernel_rfl) (by simp) (AllReady.cons rfl (fun K hK => ?_) AllReady.nil)
                go_simp
                refine hK _ _ ?_
                try clear hK K
                clear hPa hPd hal hsm ka kb hRa
                refine wpAny_done (by kernel_rfl) ?_ _
                go_wp2_with fail
                go_roundw
                case rel => exact ⟨j + 1, l, by omega, by go_num, hPb⟩
                case measure => simp [intOf]; omega
              · refine step_load8 rfl _ rfl q rfl _ hPd.row HLl.out (hK _ _ ?_)
                rw [hCC]
                try clear hK K
                refine wpAny_ready (rs := [1]) (by kernel_rfl) (by simp) (AllReady.cons rfl (fun K hK => ?_) AllReady.nil)
                go_simp
                go_wp2_with (go_at_call 12; refine hal.mono ?_; rintro e wa ⟨rfl, hRa, ka⟩)
                try clear hK K
                refine wpAny_ready (rs := [3]) (by kernel_rfl) (by simp) (AllReady.cons rfl (fun K hK => ?_) AllReady.nil)
                go_simp
                go_wp2_with (go_at_call 11; refine (hsm _ _ hRa).mono ?_; rintro e wb ⟨rfl, kb⟩)
                try clear hK K
                have hPb := (hPd.kept ka).kept kb
                refine wpAny_ready (rs := [4]) (by kernel_rfl) (by simp) (AllReady.cons rfl (fun K hK => ?_) AllReady.nil)
                go_simp
                refine hK _ _ ?_
                try clear hK K
                clear hPd hal hsm ka kb hRa
                refine wpAny_done (by kernel_rfl) ?_ _
                go_wp2_with fail
                go_roundw
                case rel => exact ⟨j + 1, l, by omega, by go_num, hPb⟩
                case measure => simp [intOf]; omega
      · have hno : x.i < 0 ∨ 8 ≤ x.i := by omega
        have hPX := hP.alloc (.cells #[.int .i64 x.kind, .int .i64 x.i, .int .u64 (x.n : Int)] 37)
        generalize x.kind = kd at c0 hPX
        generalize x.n = n at c2 hPX hn
        generalize x.i = xi at c1 hPX hno hin
        by_cases hneg : xi < 0
        · go_wp2_with (first | (go_at_call 8; refine (add_no _ _ hno _ _).mono ?_; rintro e w' ⟨rfl, rfl⟩) | (go_at_call 9; refine (get_no _ _ hno _).mono ?_; rintro e w' ⟨rfl, rfl⟩) | (go_at_call 10; refine (take_no _ _ hno _).mono ?_; rintro e w' ⟨rfl, rfl⟩))
          go_roundw
          case rel => exact ⟨j + 1, l, by omega, by go_num, hPX⟩
          case measure => simp [intOf]; omega
        · have h7 : 7 < xi := by omega
          go_wp2_with (first | (go_at_call 8; refine (add_no _ _ hno _ _).mono ?_; rintro e w' ⟨rfl, rfl⟩) | (go_at_call 9; refine (get_no _ _ hno _).mono ?_; rintro e w' ⟨rfl, rfl⟩) | (go_at_call 10; refine (take_no _ _ hno _).mono ?_; rintro e w' ⟨rfl, rfl⟩))
          go_roundw
          case rel => exact ⟨j + 1, l, by omega, by go_num, hPX⟩
          case measure => simp [intOf]; omega
    · have hlt2 : ¬ (j : Int) < (ops.length : Int) := by omega
      go_wp2_with fail
      have HLl : Hid ((l).length = 8) := (hP).c.eight
      have hPd := (hP).drew
      have hal := all_any _ _ _ hPd.c
      have hsm : ∀ (w3 : World) (g : Nat), Row64 29 w3 g (l) → Calls Try.prog 11 #[.slice (some ⟨g, 0, none⟩) 8 8, .agg (C64 (l)).toArray] w3 fun e w' => e = .returned (.bool true) ∧ Kept [] w3 w' := fun w3 g h => same_yes g _ HLl.out w3 h
      generalize hCC : (C64 (l)).toArray = C at hsm
      refine wp_region_any (by kernel_rfl) ?_
      change wpAny _ _ _ _ _ _ _ (World.drew _)
      refine wpAny_take (i := 0) (v := .pointer (some ⟨p, 0, none⟩)) rfl (by kernel_rfl) (by kernel_rfl) (by kernel_rfl) (fun _ _ _ h => h) (Or.inl ⟨by rfl, fun w => by go_simp⟩) ?_
      refine wpAny_ready (rs := [1, 2]) (by kernel_rfl) (by simp) ?_
      refine AllReady.cons rfl (fun K hK => ?_) (AllReady.cons rfl (fun K hK => ?_) AllReady.nil)
      · go_simp
        go_wp2_with (go_at_call 12; refine hal.mono ?_; rintro e wa ⟨rfl, hRa, ka⟩)
        try clear hK K
        have hPa := hPd.kept ka
        refine wpAny_ready (rs := [2]) (by kernel_rfl) (by simp) (AllReady.cons rfl (fun K hK => ?_) AllReady.nil)
        refine step_load8 rfl _ rfl q rfl _ hPa.row HLl.out (hK _ _ ?_)
        rw [hCC]
        try clear hK K
        refine wpAny_ready (rs := [3]) (by kernel_rfl) (by simp) (AllReady.cons rfl (fun K hK => ?_) AllReady.nil)
        go_simp
        go_wp2_with (go_at_call 11; refine (hsm _ _ hRa).mono ?_; rintro e wb ⟨rfl, kb⟩)
        try clear hK K
        have hPb := hPa.kept kb
        refine wpAny_ready (rs := [4]) (by kernel_rfl) (by simp) (AllReady.cons rfl (fun K hK => ?_) AllReady.nil)
        go_simp
        refine hK _ _ ?_
        try clear hK K
        clear hPa hPd hal hsm ka kb hRa
        refine wpAny_done (by kernel_rfl) ?_ _
        go_wp2
        go_ret
        exact ⟨rfl, hPb.k⟩
      · refine step_load8 rfl _ rfl q rfl _ hPd.row HLl.out (hK _ _ ?_)
        rw [hCC]
        try clear hK K
        refine wpAny_ready (rs := [1]) (by kernel_rfl) (by simp) (AllReady.cons rfl (fun K hK => ?_) AllReady.nil)
        go_simp
        go_wp2_with (go_at_call 12; refine hal.mono ?_; rintro e wa ⟨rfl, hRa, ka⟩)
        try clear hK K
        refine wpAny_ready (rs := [3]) (by kernel_rfl) (by simp) (AllReady.cons rfl (fun K hK => ?_) AllReady.nil)
        go_simp
        go_wp2_with (go_at_call 11; refine (hsm _ _ hRa).mono ?_; rintro e wb ⟨rfl, kb⟩)
        try clear hK K
        have hPb := (hPd.kept ka).kept kb
        refine wpAny_ready (rs := [4]) (by kernel_rfl) (by simp) (AllReady.cons rfl (fun K hK => ?_) AllReady.nil)
        go_simp
        refine hK _ _ ?_
        try clear hK K
        clear hPd hal hsm ka kb hRa
        refine wpAny_done (by kernel_rfl) ?_ _
        go_wp2
        go_ret
        exact ⟨rfl, hPb.k⟩

end Go.Proofs.Ytbnakokadaifjaa
