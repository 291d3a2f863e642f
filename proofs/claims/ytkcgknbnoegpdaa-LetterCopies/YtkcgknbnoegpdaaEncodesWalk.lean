/-
  LetterEncodes: the walk.
-/
import Derived.Test.YtkcgknbnoegpdaaFw
namespace Go.Proofs.Ytkcgknbnoegpdaa
open Go.RowKit
set_option linter.unusedVariables false
section
variable {w : World}
set_option maxRecDepth 100000 in
set_option maxHeartbeats 1000000 in
theorem encodes_walk (x y : Lt) (a b : Option Addr) (c d : Nat) (hx : ReadsJ w (.slice a x.args.length c) x.args) (hy : ReadsJ w (.slice b y.args.length d) y.args) (hxk : x.ok) (hyk : y.ok) :
    Calls Try.prog 3 #[Lv x a c, Lv y b d] w fun e w' => e = .returned (.bool true) ∧ Kept [] w w' := by
  go_enter Try.func3, Try.ntmps3
  go_wp2_with fail
  obtain ⟨W0, e0, k0, hz0, hb0, hb1⟩ := box2 w (.cells #[Sv x.fr, .int .u64 (x.ser : Int), .int .i64 x.kind, .slice a x.args.length c] 25) (.cells #[Sv y.fr, .int .u64 (y.ser : Int), .int .i64 y.kind, .slice b y.args.length d] 25)
  rw [e0]
  clear e0
  refine awake9.mono ?_
  rintro e w1 ⟨rfl, k1⟩
  have k01 := k0.trans k1 (by simp)
  have hb2 := k1.keeps hb0 (by simp)
  have hb3 := k1.keeps hb1 (by simp)
  obtain ⟨c0, c1, c2, c3⟩ := cells4 hb2
  obtain ⟨d0, d1, d2, d3⟩ := cells4 hb3
  go_wp2_with fail
  have hrow := rowQ_new w1 [⟨x, a, c⟩, ⟨y, b, d⟩] (by simp) 25 (0, 0)
  refine (few10 hrow).mono ?_
  rintro e w2 ⟨fb, rfl, hfew, k2⟩
  have k02 := k01.trans (((Kept.refl [] w1).alloc _).trans k2 (by simp)) (by simp)
  have k12 : Kept [] w1 w2 := ((Kept.refl [] w1).alloc _).trans k2 (by simp)
  clear hrow k2
  cases fb with
  | false =>
    go_wp2_with fail
    refine awake9.mono ?_
    rintro e w3 ⟨rfl, k3⟩
    go_wp2_with fail
    go_ret
    exact ⟨rfl, k02.trans k3 (by simp)⟩
  | true =>
    have hfq := hfew rfl
    have hfx := hfq.2 ⟨x, a, c⟩ (by simp)
    have hfy := hfq.2 ⟨y, b, d⟩ (by simp)
    obtain ⟨hfx1, hfx2⟩ := hfx
    dsimp only at hfx1 hfx2 hfy
    clear hfq hfew
    have hb4 := k12.keeps hb2 (by simp)
    have hb5 := k12.keeps hb3 (by simp)
    clear c0 c1 c2 c3 d0 d1 d2 d3 hb2 hb3 hb0 hb1 k1
    obtain ⟨c0, c1, c2, c3⟩ := cells4 hb4
    obtain ⟨d0, d1, d2, d3⟩ := cells4 hb5
    go_wp2_with fail
    refine (encode11 x a c (hx.kept k02 (by simp)) hxk).mono ?_
    rintro e w3 ⟨v3, rfl, hO3, k3, hf3⟩
    have k03 := k02.trans k3 (by simp)
    have hb6 := k3.keeps hb4 (by simp)
    have hb7 := k3.keeps hb5 (by simp)
    clear c0 c1 c2 c3 d0 d1 d2 d3 hb4 hb5
    obtain ⟨c0, c1, c2, c3⟩ := cells4 hb6
    obtain ⟨d0, d1, d2, d3⟩ := cells4 hb7
    go_wp2_with fail
    refine (encode12 x a c (hx.kept k03 (by simp)) hxk).mono ?_
    rintro e w4 ⟨v4, rfl, hO4, k4, hf4⟩
    have k04 := k03.trans k4 (by simp)
    have hb8 := k4.keeps hb6 (by simp)
    have hb9 := k4.keeps hb7 (by simp)
    clear c0 c1 c2 c3 d0 d1 d2 d3 hb6 hb7
    obtain ⟨c0, c1, c2, c3⟩ := cells4 hb8
    obtain ⟨d0, d1, d2, d3⟩ := cells4 hb9
    have kd : Kept [] w4 w4.drew := (Kept.refl [] w4).drew
    have r3 := hO3.reads.kept k4 (by simp)
    have r4 := hO4.reads
    generalize encB x = B at r3 r4
    generalize encE x = E
    have H13 : Hid (∀ W, Calls Try.prog 13 #[Lv x a c] W fun e w' => e = .returned (.bool x.formed) ∧ Kept [] W w') := fun W => formed13 x a c
    have H14 : Hid (∀ W, Calls Try.prog 14 #[Lv x a c] W fun e w' => e = .returned (.bool x.formed) ∧ Kept [] W w') := fun W => formed14 x a c
    have HX : Hid (∀ W, Kept [] w4 W → ReadsJ W (.slice a x.args.length c) x.args) := fun W k => hx.kept (k04.trans k (by simp)) (by simp)
    have HY : Hid (∀ W, Kept [] w4 W → ReadsJ W (.slice b y.args.length d) y.args) := fun W k => hy.kept (k04.trans k (by simp)) (by simp)
    have H15 : Hid (∀ W, Kept [] w4 W → Calls Try.prog 15 #[Lv x a c, Lv y b d] W fun e w' => e = .returned (.bool (sameL x y)) ∧ Kept [] W w') := fun W k => same15 x y a b c d (HX.out W k) (HY.out W k) (by omega)
    have H16 : Hid (∀ W, Kept [] w4 W → Calls Try.prog 16 #[Lv x a c, Lv y b d] W fun e w' => e = .returned (.bool (sameL x y)) ∧ Kept [] W w') := fun W k => same16 x y a b c d (HX.out W k) (HY.out W k) (by omega)
    have H17 : Hid (∀ W, Kept [] w4 W → Calls Try.prog 17 #[Lv x a c] W fun e w' => ∃ a' c', e = .returned (Lv x a' c') ∧ OwnsJ w' (.slice a' x.args.length c') x.args ∧ Kept [] W w' ∧ Fresh W (.slice a' x.args.length c')) := fun W k => copy17 x a c (HX.out W k) (by omega) (by omega)
    have H26 : Hid (∀ W a' c', Kept [] w4 W → ReadsJ W (.slice a' x.args.length c') x.args → Calls Try.prog 16 #[Lv x a' c', Lv x a c] W fun e w' => e = .returned (.bool true) ∧ Kept [] W w') := fun W a' c' k h => by
      have := same16 x x a' a c' c h (HX.out W k) (by omega)
      rwa [sameL_refl] at this
    have HS : Hid (∀ W, Kept [] w4 W → (W.cell? ⟨w.heap.size, 0, none⟩ = some (Sv x.fr) ∧ W.cell? ⟨w.heap.size, 1, none⟩ = some (.int .u64 (x.ser : Int)) ∧ W.cell? ⟨w.heap.size, 2, none⟩ = some (.int .i64 x.kind) ∧ W.cell? ⟨w.heap.size, 3, none⟩ = some (.slice a x.args.length c) ∧ W.cell? ⟨w.heap.size + 1, 0, none⟩ = some (Sv y.fr) ∧ W.cell? ⟨w.heap.size + 1, 1, none⟩ = some (.int .u64 (y.ser : Int)) ∧ W.cell? ⟨w.heap.size + 1, 2, none⟩ = some (.int .i64 y.kind) ∧ W.cell? ⟨w.heap.size + 1, 3, none⟩ = some (.slice b y.args.length d) ∧ (convert 29 9 v3).run Try.prog W = .ok (Sv B) W ∧ (convert 29 9 v4).run Try.prog W = .ok (Sv B) W)) := fun W k =>
      ⟨k.cell_eq c0, k.cell_eq c1, k.cell_eq c2, k.cell_eq c3, k.cell_eq d0, k.cell_eq d1, k.cell_eq d2, k.cell_eq d3, string_of (P := Try.prog) 29 5 Try.underlying29 9 Try.underlying5 Try.underlying9 v3 B W (r3.kept k (by simp)), string_of (P := Try.prog) 29 5 Try.underlying29 9 Try.underlying5 Try.underlying9 v4 B W (r4.kept k (by simp))⟩
    have S0 := HS.out _ kd
    generalize x.formed = fx at H13 H14
    generalize sameL x y = sx at H15 H16
    clear c0 c1 c2 c3 d0 d1 d2 d3 hb8 hb9 hO3 hO4 k4 k3 k12 k01 hx hy hxk hyk hf3 hf4 k0 k02 k03 r3 r4 HX HY
    go_wp2_with fail
    go_region_held3 (fun w' => w'.cell? ⟨w.heap.size, 0, none⟩ = some (Sv x.fr) ∧ w'.cell? ⟨w.heap.size, 1, none⟩ = some (.int .u64 (x.ser : Int)) ∧ w'.cell? ⟨w.heap.size, 2, none⟩ = some (.int .i64 x.kind) ∧ w'.cell? ⟨w.heap.size, 3, none⟩ = some (.slice a x.args.length c) ∧ w'.cell? ⟨w.heap.size + 1, 0, none⟩ = some (Sv y.fr) ∧ w'.cell? ⟨w.heap.size + 1, 1, none⟩ = some (.int .u64 (y.ser : Int)) ∧ w'.cell? ⟨w.heap.size + 1, 2, none⟩ = some (.int .i64 y.kind) ∧ w'.cell? ⟨w.heap.size + 1, 3, none⟩ = some (.slice b y.args.length d) ∧ (convert 29 9 v3).run Try.prog w' = .ok (Sv B) w' ∧ (convert 29 9 v4).run Try.prog w' = .ok (Sv B) w') (first | exact S0 | exact SA | exact SB | exact SC | exact SD | exact SE | exact SF) (first | (go_at_call 16; refine (H26.out _ _ _ kE oE.reads).mono ?_; rintro e wF ⟨rfl, kF'⟩; have kF := kE.trans kF' (by simp); have SF := HS.out _ kF) | (go_at_call 17; refine (H17.out _ kD).mono ?_; rintro e wE ⟨a', c', rfl, oE, kE', fE⟩; have kE := kD.trans kE' (by simp); have SE := HS.out _ kE) | (go_at_call 16; refine (H16.out _ kC).mono ?_; rintro e wD ⟨rfl, kD'⟩; have kD := kC.trans kD' (by simp); have SD := HS.out _ kD) | (go_at_call 15; refine (H15.out _ kB).mono ?_; rintro e wC ⟨rfl, kC'⟩; have kC := kB.trans kC' (by simp); have SC := HS.out _ kC) | (go_at_call 14; refine (H14.out _).mono ?_; rintro e wB ⟨rfl, kB'⟩; have kB := kA.trans kB' (by simp); have SB := HS.out _ kB) | (go_at_call 13; refine (H13.out _).mono ?_; rintro e wA ⟨rfl, kA'⟩; have kA := kd.trans kA' (by simp); have SA := HS.out _ kA))
    go_wp2_with fail
    go_ret
    exact ⟨rfl, k04.trans kF (by simp)⟩
end
end Go.Proofs.Ytkcgknbnoegpdaa
