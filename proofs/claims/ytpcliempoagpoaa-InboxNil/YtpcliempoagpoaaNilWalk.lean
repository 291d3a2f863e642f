/-
  InboxNil: the walk.
-/
import Derived.Test.YtpcliempoagpoaaNb
namespace Go.Proofs.Ytpcliempoagpoaa
open Go.RowKit
set_option linter.unusedVariables false
section
variable {w : World}
set_option maxRecDepth 100000 in
set_option maxHeartbeats 1000000 in
theorem nil_walk (x : Lt) (a : Option Addr) (c : Nat) (hx : ReadsJ w (.slice a x.args.length c) x.args) (hxk : x.ok) :
    Calls Try.prog 6 #[Lv x a c] w fun e w' => e = .returned (.bool true) ∧ Kept [] w w' := by
  have HX := Hid.mk hx
  have HXK := Hid.mk hxk
  clear hx hxk
  go_enter Try.func6, Try.ntmps6
  go_wp2_with fail
  obtain ⟨W0, e0, k0, hz0, hb0⟩ := box1 w (.cells #[Sv x.fr, .int .u64 (x.ser : Int), .int .i64 x.kind, .slice a x.args.length c] 34)
  rw [e0]
  clear e0
  refine awake8.mono ?_
  rintro e w1 ⟨rfl, k1⟩
  have k01 := k0.trans k1 (by simp)
  have hb1 := k1.keeps hb0 (by simp)
  obtain ⟨c0, c1, c2, c3⟩ := cells4 hb1
  by_cases h4 : 4 < x.args.length
  · have g4 : (4 : Int) < (x.args.length : Int) := by omega
    go_wp2_with fail
    refine awake8.mono ?_
    rintro e w2 ⟨rfl, k2⟩
    go_wp2_with fail
    go_ret
    exact ⟨rfl, k01.trans k2 (by simp)⟩
  · have g4 : ((4 : Int) < (x.args.length : Int)) = False := eq_false (by omega)
    by_cases h40 : 40 < x.fr.length
    · have g40 : (40 : Int) < (x.fr.length : Int) := by omega
      go_wp2_with fail
      refine awake8.mono ?_
      rintro e w2 ⟨rfl, k2⟩
      go_wp2_with fail
      go_ret
      exact ⟨rfl, k01.trans k2 (by simp)⟩
    · have g40 : ((40 : Int) < (x.fr.length : Int)) = False := eq_false (by omega)
      have hfm : x.formed = true := by
        have h1 : x.fr.length ≤ 40 := by omega
        have h2 : x.args.length ≤ 4 := by omega
        simp [Lt.formed, h1, h2]
      have HFM := Hid.mk hfm
      clear hfm
      go_wp2_with fail
      refine first22_nil.mono ?_
      rintro e w2 ⟨a2, cc2, rfl, -, k2, -⟩
      go_wp2_with fail
      obtain ⟨W2, e2, k2', -, -⟩ := box1 w2 (.cells #[.string { data := #[] }, .int .u64 0, .int .i64 0, .slice a2 0 cc2] 34)
      rw [e2]
      refine pop13_nil.mono ?_
      rintro e w3 ⟨a3, cc3, rfl, -, k3, -⟩
      go_wp2_with fail
      obtain ⟨W3, e3, k3', -, -⟩ := box1 w3 (.cells #[.string { data := #[] }, .int .u64 0, .int .i64 0, .slice a3 0 cc3] 34)
      rw [e3]
      refine new10.mono ?_
      rintro e w4 ⟨rfl, hB4, k4, -⟩
      have k03 := (((k01.trans k2 (by simp)).trans k2' (by simp)).trans k3 (by simp)).trans k3' (by simp)
      have k04 := k03.trans k4 (by simp)
      have hb4 := k4.keeps (k3'.keeps (k3.keeps (k2'.keeps (k2.keeps hb1 (by simp)) (by simp)) (by simp)) (by simp)) (by simp)
      have hpl : w.heap.size ≤ W3.heap.size := k03.size
      clear c0 c1 c2 c3 hb1 hb0 k0 k1 hz0 k2 k3 k4 k01 k2' k3' k03 e2 e3
      generalize W3.heap.size = p at hB4 hpl ⊢
      obtain ⟨c0, c1, c2, c3⟩ := cells4 hb4
      go_wp2_with fail
      refine (copy25 x a c (HX.out.kept k04 (by simp)) (by omega)).mono ?_
      rintro e w5 ⟨a5, cc5, rfl, hO5, k5, hf5⟩
      have hb5 := k5.keeps hb4 (by simp)
      have hlt5 : w.heap.size < w5.heap.size := lt_of_block hb5
      clear c0 c1 c2 c3
      obtain ⟨c0, c1, c2, c3⟩ := cells4 hb5
      go_wp2_with fail
      obtain ⟨W5, e5, k5', hz5, hb5'⟩ := box1 w5 (.cells #[Sv x.fr, .int .u64 (x.ser : Int), .int .i64 x.kind, .slice a5 x.args.length cc5] 34)
      rw [e5]
      have k05 := (k04.trans k5 (by simp)).trans k5' (by simp)
      refine (copy25 x a c (HX.out.kept k05 (by simp)) (by omega)).mono ?_
      rintro e w6 ⟨a6, cc6, rfl, hO6, k6, hf6⟩
      have hO6' := hO6
      have hb6 := k6.keeps (k5'.keeps hb5 (by simp)) (by simp)
      have hbw6 := k6.keeps hb5' (by simp)
      have hB6 := ((hB4.kept0 k5).kept0 k5').kept0 k6
      have hw6 := ((hO5.kept k5' (by simp)).kept k6 (by simp))
      have hlw : ∀ g, (Value.slice a5 x.args.length cc5).ownBlock = some g → g < W5.heap.size := fun g hg => by have := hO5.lt hg; omega
      go_wp2_with fail
      obtain ⟨W6, e6, k6', hz6, hb6'⟩ := box1 w6 (.cells #[Sv x.fr, .int .u64 (x.ser : Int), .int .i64 x.kind, .slice a6 x.args.length cc6] 34)
      rw [e6]
      refine (push11 x a6 cc6 (hB6.kept0 k6') (hO6.reads.kept k6' (by simp)) HXK.out).mono ?_
      rintro e w7 ⟨qs7, rfl, hB7, hm7, k7, hf7⟩
      obtain ⟨q, rfl, hqx⟩ : ∃ q, qs7 = [q] ∧ q.x = x := by
        have : qs7.map (·.x) = [x] := by rw [hm7]; unfold pushL; rw [if_pos ⟨HFM.out, by simp⟩]; rfl
        match qs7, this with
        | [q], h => exact ⟨q, rfl, by simpa using h⟩
        | [], h => simp at h
        | _ :: _ :: _, h => simp at h
      have hfq : Fresh W6 q.sl := by
        rcases hf7 q (by simp) with h | h
        · simp at h
        · exact h
      have hBp := hB6.kept0 k6'
      have k07 : Kept [] w w7 := ((k05.trans k6 (by simp)).trans k6' (by simp)).trans k7 (by simp; omega)
      have hw7 := (hw6.kept k6' (by simp)).kept k7 (fun g hg hm => by simp at hm; subst hm; exact ownsJ_ne (hw6.kept k6' (by simp)) hBp.box (by decide) hg)
      have hi7 := (hO6.kept k6' (by simp)).kept k7 (fun g hg hm => by simp at hm; subst hm; exact ownsJ_ne (hO6.kept k6' (by simp)) hBp.box (by decide) hg)
      have hbl7 : BoxL w7 w.heap.size x a c := k7.keeps (k6'.keeps hb6 (by simp)) (by simp; exact box_ne (k6'.keeps hb6 (by simp)) hBp.box (by decide))
      have hbw7 : BoxL w7 w5.heap.size x a5 cc5 := k7.keeps (k6'.keeps hbw6 (by simp)) (by simp; exact box_ne (k6'.keeps hbw6 (by simp)) hBp.box (by decide))
      have hbi7 : BoxL w7 w6.heap.size x a6 cc6 := k7.keeps hb6' (by simp; exact box_ne hb6' hBp.box (by decide))
      have bag7 : Bag w w7 x a c w5.heap.size a5 cc5 p q := ⟨hbl7, hbw7, hw7, hB7, hqx, k07⟩
      have hl6 : ∀ g, (Value.slice a6 x.args.length cc6).ownBlock = some g → g < w6.heap.size := fun g hg => hO6.lt hg
      have hlq : ∀ g, (Value.slice a5 x.args.length cc5).ownBlock = some g → g < w7.heap.size := fun g hg => hw7.lt hg
      have HB1 : Hid (∀ W, Kept (Value.slice a6 x.args.length cc6).ownBlock.toList w7 W → Bag w W x a c w5.heap.size a5 cc5 p q ∧ BoxL W w6.heap.size x a6 cc6) := fun W k =>
        ⟨bag7.stored hi7 k (fun g hg hg' => by have := hlw g hg'; have := hf6 g hg; omega) (fun g hg hg' => by have := hfq g hg'; have := hl6 g hg; have := k6'.size; omega) (fun g hg => by have := hf6 g hg; have := k05.size; omega), hbi7.kept k (hbi7.ne hi7)⟩
      have HR1 : Hid (IntRow w7 a6 x.args.length) := hi7.row
      obtain ⟨-, hac6, hcc6⟩ := hi7.reads.bound
      obtain ⟨c0, c1, c2, c3⟩ := cells4 hbi7
      clear hb6 hbw6 hB6 hw6 hlw hB4 k04 hb4 hO5 k5 hf5 hb5 hlt5 k5' hz5 hb5' k05 hO6 k6 hf6 hO6' k6' hz6 hb6' hB7 hm7 k7 hf7 hfq hBp k07 hw7 hi7 hbl7 hbw7 hbi7 hl6 hlq bag7 e5 e6
      go_wp2_with fail
      clear c0 c1 c2 c3
      go_loopw [55] (fun i wr => ∃ j : Nat, i = .int .i64 (j : Int) ∧ j ≤ x.args.length ∧ Hid (IntRow wr a6 x.args.length) ∧ Hid (Kept (Value.slice a6 x.args.length cc6).ownBlock.toList w7 wr)) (fun i _ => x.args.length - (intOf i).toNat)
      case atStart => exact ⟨0, rfl, by omega, HR1, Hid.mk (Kept.refl _ _)⟩
      case round =>
        obtain ⟨j, rfl, hj, hI, kk⟩ := hrel
        by_cases hlt : j < x.args.length
        · obtain ⟨b, z, rfl, hc, hfz⟩ := hI.out j hlt
          obtain ⟨c0, c1, c2, c3⟩ := cells4 (HB1.out _ kk.out).2
          have hjI : (j : Int) < (x.args.length : Int) := by omega
          go_wp2_with fail
          go_roundw
          case rel => exact ⟨j + 1, by go_num, by omega, Hid.mk (hI.out.store j _), Hid.mk (kk.out.setCell (.inl (by simp [Value.ownBlock])) _)⟩
          case measure => simp [intOf]; omega
        · obtain rfl : j = x.args.length := by omega
          have bag8 := (HB1.out _ kk.out).1
          have hF8 := first22_some bag8.inb
          rw [bag8.qx] at hF8
          have HF8 := Hid.mk hF8
          have HB8 := Hid.mk bag8
          clear bag8 hF8 HB1 HR1 hI kk
          go_wp2_with fail
          refine HF8.out.mono ?_
          rintro e w8 ⟨a8, c8, rfl, hO8, k8, hf8⟩
          obtain ⟨W8, e8, k8', hz8, hb8⟩ := box1 w8 (.cells #[Sv x.fr, .int .u64 (x.ser : Int), .int .i64 x.kind, .slice a8 x.args.length c8] 34)
          have bag9 := (HB8.out.kept0 k8).kept0 k8'
          have hO9 := hO8.kept k8' (by simp)
          have hb9 : BoxL W8 w8.heap.size x a8 c8 := hb8
          have HB9 : Hid (∀ W, Kept (Value.slice a8 x.args.length c8).ownBlock.toList W8 W → Bag w W x a c w5.heap.size a5 cc5 p q ∧ BoxL W w8.heap.size x a8 c8) := fun W k =>
            ⟨bag9.stored hO9 k (fun g hg hg' => by have := HB8.out.want.lt hg'; have := hf8 g hg; omega) (fun g hg hg' => by have := (HB8.out.inb.args q (by simp)).lt hg'; have := hf8 g hg; omega) (fun g hg => by have := hf8 g hg; have := HB8.out.kept.size; omega), hb9.kept k (hb9.ne hO9)⟩
          have HR9 : Hid (IntRow W8 a8 x.args.length) := hO9.row
          obtain ⟨-, hac8, hcc8⟩ := hO9.reads.bound
          obtain ⟨c0, c1, c2, c3⟩ := cells4 hb9
          have HE8 := Hid.mk e8
          rw [← e8] at c0 c1 c2 c3
          clear hO8 k8 hf8 k8' hz8 hb8 bag9 hO9 hb9 e8
          go_wp2_with fail
          rw [HE8.out]
          clear c0 c1 c2 c3
          go_loopw [74] (fun i wr => ∃ j : Nat, i = .int .i64 (j : Int) ∧ j ≤ x.args.length ∧ Hid (IntRow wr a8 x.args.length) ∧ Hid (Kept (Value.slice a8 x.args.length c8).ownBlock.toList W8 wr)) (fun i _ => x.args.length - (intOf i).toNat)
          case atStart => exact ⟨0, rfl, by omega, HR9, Hid.mk (Kept.refl _ _)⟩
          case round =>
            clear hlt
            obtain ⟨j, rfl, hj, hI, kk⟩ := hrel
            by_cases hlt : j < x.args.length
            · obtain ⟨b, z, rfl, hc, hfz⟩ := hI.out j hlt
              obtain ⟨c0, c1, c2, c3⟩ := cells4 (HB9.out _ kk.out).2
              have hjI : (j : Int) < (x.args.length : Int) := by omega
              go_wp2_with fail
              go_roundw
              case rel => exact ⟨j + 1, by go_num, by omega, Hid.mk (hI.out.store j _), Hid.mk (kk.out.setCell (.inl (by simp [Value.ownBlock])) _)⟩
              case measure => simp [intOf]; omega
            · obtain rfl : j = x.args.length := by omega
              have bag10 := (HB9.out _ kk.out).1
              have HA10 := Hid.mk (all24 bag10.inb)
              have HB10 := Hid.mk bag10
              clear bag10 HB9 HR9 hI kk HB8 HF8 HE8
              go_wp2_with fail
              refine HA10.out.mono ?_
              rintro e w11 ⟨v11, rfl, qs11, hm11, hO11, k11⟩
              obtain ⟨q2, rfl, hq2x⟩ : ∃ q, qs11 = [q] ∧ q.x = x := by
                rw [List.map_cons, List.map_nil, HB10.out.qx] at hm11
                match qs11, hm11 with
                | [q], h => exact ⟨q, rfl, by simpa using h⟩
                | [], h => simp at h
                | _ :: _ :: _, h => simp at h
              obtain ⟨a11, c11, rfl, hac11, hcc11⟩ := hO11.row.form
              obtain ⟨b11, o11, rfl, r0, r1, r2, r3⟩ := hO11.row.at (j := 0) (q := q2) rfl
              rw [List.length_singleton] at *
              rw [Nat.zero_mul, Nat.add_zero] at *
              obtain ⟨x2, a12, c12⟩ := q2
              dsimp only at hq2x r0 r1 r2 r3
              subst hq2x
              have bag11 := HB10.out.kept0 k11
              have hO12 : OwnsJ w11 (.slice a12 x2.args.length c12) x2.args := hO11.args ⟨x2, a12, c12⟩ (by simp)
              have hf12 : Fresh wr (.slice a12 x2.args.length c12) := hO11.fra ⟨x2, a12, c12⟩ (by simp)
              have HB11 : Hid (∀ W, Kept (Value.slice a12 x2.args.length c12).ownBlock.toList w11 W → Bag w W x2 a c w5.heap.size a5 cc5 p q ∧ W.cell? ⟨b11, o11 + 3, none⟩ = some (.slice a12 x2.args.length c12)) := fun W k =>
                ⟨bag11.stored hO12 k (fun g hg hg' => by have := HB10.out.want.lt hg'; have := hf12 g hg; omega) (fun g hg hg' => by have := (HB10.out.inb.args q (by simp)).lt hg'; have := hf12 g hg; omega) (fun g hg => by have := hf12 g hg; have := HB10.out.kept.size; omega), by
                  rw [k.cell (World.block_lt_of_cell? _ _ r3) (fun hm => by rw [Option.mem_toList] at hm; exact own_apart hO12 hO11.own (by decide) hm rfl)]
                  exact r3⟩
              have HR11 : Hid (IntRow w11 a12 x2.args.length) := hO12.row
              obtain ⟨-, hac12, hcc12⟩ := hO12.reads.bound
              clear hO11 bag11 hO12 hf12 k11 hm11 HA10 r0 r1 r2
              go_wp2_with fail
              clear r3
              go_loopw [92] (fun i wr => ∃ j : Nat, i = .int .i64 (j : Int) ∧ j ≤ x2.args.length ∧ Hid (IntRow wr a12 x2.args.length) ∧ Hid (Kept (Value.slice a12 x2.args.length c12).ownBlock.toList w11 wr)) (fun i _ => x2.args.length - (intOf i).toNat)
              case atStart => exact ⟨0, rfl, by omega, HR11, Hid.mk (Kept.refl _ _)⟩
              case round =>
                clear hlt HB10
                obtain ⟨j, rfl, hj, hI, kk⟩ := hrel
                by_cases hlt : j < x2.args.length
                · obtain ⟨b, z, rfl, hc, hfz⟩ := hI.out j hlt
                  have r3 := (HB11.out _ kk.out).2
                  have hjI : (j : Int) < (x2.args.length : Int) := by omega
                  go_wp2_with fail
                  go_roundw
                  case rel => exact ⟨j + 1, by go_num, by omega, Hid.mk (hI.out.store j _), Hid.mk (kk.out.setCell (.inl (by simp [Value.ownBlock])) _)⟩
                  case measure => simp [intOf]; omega
                · obtain rfl : j = x2.args.length := by omega
                  have bag12 := (HB11.out _ kk.out).1
                  have hF12 := first22_some bag12.inb
                  rw [bag12.qx] at hF12
                  have HF12 := Hid.mk hF12
                  have HB12 := Hid.mk bag12
                  clear bag12 hF12 HB11 HR11 hI kk
                  go_wp2_with fail
                  refine HF12.out.mono ?_
                  rintro e w13 ⟨a13, c13, rfl, hO13, k13, hf13⟩
                  obtain ⟨W13, e13, k13', hz13, hb13⟩ := box1 w13 (.cells #[Sv x2.fr, .int .u64 (x2.ser : Int), .int .i64 x2.kind, .slice a13 x2.args.length c13] 34)
                  have bag13 := (HB12.out.kept0 k13).kept0 k13'
                  have hO14 := hO13.kept k13' (by simp)
                  obtain ⟨c0, c1, c2, c3⟩ := cells4 bag13.lbox
                  rw [← e13] at c0 c1 c2 c3
                  have HE13 := Hid.mk e13
                  have HB13 := Hid.mk bag13
                  have HO14 := Hid.mk hO14
                  clear hO13 k13 hf13 k13' hz13 bag13 hO14 e13 HB12
                  go_wp2_with fail
                  rw [HE13.out]
                  refine (push11_nil x2 a c).mono ?_
                  rintro e w14 ⟨rfl, k14⟩
                  clear c0 c1 c2 c3
                  go_wp2_with fail
                  refine len21_nil.mono ?_
                  rintro e w15 ⟨rfl, rfl⟩
                  go_wp2_with fail
                  refine all24_nil.mono ?_
                  rintro e w15 ⟨rfl, rfl⟩
                  go_wp2_with fail
                  refine encode18_nil.mono ?_
                  rintro e w15 ⟨rfl, rfl⟩
                  have bag14 := HB13.out.kept0 k14
                  have hy := k14.keeps hb13 (by simp)
                  obtain ⟨c0, c1, c2, c3⟩ := cells4 bag14.wbox
                  obtain ⟨d0, d1, d2, d3⟩ := cells4 hy
                  have hS := same16 x2 x2 a13 a5 c13 cc5 (HO14.out.reads.kept k14 (by simp)) bag14.want.reads (by omega)
                  rw [sameL_refl] at hS
                  have HS := Hid.mk hS
                  have HK := Hid.mk bag14.kept
                  clear bag14 hS hy
                  go_wp2_with fail
                  refine HS.out.mono ?_
                  rintro e w16 ⟨rfl, k16⟩
                  go_wp2_with fail
                  go_ret
                  exact ⟨rfl, HK.out.trans k16 (by simp)⟩
end
end Go.Proofs.Ytpcliempoagpoaa
