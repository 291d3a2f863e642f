/-
  LetterCopies: the walk.
-/
import Derived.Test.YtkcgknbnoegpdaaEncodesWalk
namespace Go.Proofs.Ytkcgknbnoegpdaa
open Go.RowKit
set_option linter.unusedVariables false
/-- The first n cells of the row are integers, and may be stored into. -/
def IntRow (w : World) (a : Option Addr) (n : Nat) : Prop := ∀ k, k < n → ∃ b z, a = some ⟨b, 0, none⟩ ∧ w.cell? ⟨b, k, none⟩ = some (.int .i64 z) ∧ w.frozen? ⟨b, k, none⟩ = false
theorem OwnsJ.row {w : World} {a : Option Addr} {c : Nat} {l : List Int} (h : OwnsJ w (.slice a l.length c) l) : IntRow w a l.length := by
  intro k hk
  have hr := h.reads
  obtain ⟨z, hz⟩ : ∃ z, l[k]? = some z := ⟨_, List.getElem?_eq_getElem hk⟩
  obtain ⟨b, o, rfl, hc⟩ := hr.at hz
  rcases h.2 with ⟨h0, _⟩ | ⟨g, cap, cur, h0, _, hg, h1, h2, h3, h4⟩
  · cases h0
  · injection h0 with h0 _ _
    injection h0 with h0
    injection h0 with hb ho _
    subst hb ho
    rw [Nat.zero_add] at hc
    exact ⟨b, z, rfl, hc, by simp [World.frozen?, hg]⟩
theorem IntRow.store {w : World} {b n : Nat} (h : IntRow w (some ⟨b, 0, none⟩) n) (j : Nat) (y : Int) : IntRow (w.setCell ⟨b, j, none⟩ (.int .i64 y)) (some ⟨b, 0, none⟩) n := by
  intro k hk
  obtain ⟨b', z, e, h1, h2⟩ := h k hk
  injection e with e
  injection e with e _ _
  subst e
  by_cases hkj : j = k
  · subst hkj
    exact ⟨b, y, rfl, World.cell?_setCell_same _ _ _ h1, by rw [World.frozen?_setCell]; exact h2⟩
  · exact ⟨b, z, rfl, by rw [World.cell?_setCell_other _ _ _ _ (by intro e; injection e; omega)]; exact h1, by rw [World.frozen?_setCell]; exact h2⟩
section
variable {w : World}
set_option maxRecDepth 100000 in
set_option maxHeartbeats 1000000 in
theorem copies_walk (x : Lt) (a : Option Addr) (c : Nat) (hx : ReadsJ w (.slice a x.args.length c) x.args) (hxk : x.ok) :
    Calls Try.prog 8 #[Lv x a c] w fun e w' => e = .returned (.bool true) ∧ Kept [] w w' := by
  go_enter Try.func8, Try.ntmps8
  go_wp2_with fail
  obtain ⟨W0, e0, k0, hz0, hb0⟩ := box1 w (.cells #[Sv x.fr, .int .u64 (x.ser : Int), .int .i64 x.kind, .slice a x.args.length c] 25)
  rw [e0]
  clear e0
  refine awake9.mono ?_
  rintro e w1 ⟨rfl, k1⟩
  have k01 := k0.trans k1 (by simp)
  have hb2 := k1.keeps hb0 (by simp)
  obtain ⟨c0, c1, c2, c3⟩ := cells4 hb2
  go_wp2_with fail
  have hrow := rowQ_new w1 [⟨x, a, c⟩] (by simp) 25 (0, 0)
  refine (few10 hrow).mono ?_
  rintro e w2 ⟨fb, rfl, hfew, k2⟩
  have k12 : Kept [] w1 w2 := ((Kept.refl [] w1).alloc _).trans k2 (by simp)
  have k02 := k01.trans k12 (by simp)
  clear hrow k2
  cases fb with
  | false =>
    go_wp2_with fail
    refine awake9.mono ?_
    rintro e w3 ⟨rfl, k3⟩
    go_wp2_with fail
    go_ret
    exact ⟨rfl, k02.trans k3 (by simp)⟩
  | true =>
    have hfq := hfew rfl
    have hfx := hfq.2 ⟨x, a, c⟩ (by simp)
    obtain ⟨hfx1, hfx2⟩ := hfx
    dsimp only at hfx1 hfx2
    clear hfq hfew
    have hb4 := k12.keeps hb2 (by simp)
    clear c0 c1 c2 c3 hb2 hb0 k1
    obtain ⟨c0, c1, c2, c3⟩ := cells4 hb4
    go_wp2_with fail
    refine (copy25 x a c (hx.kept k02 (by simp)) (by omega)).mono ?_
    rintro e w3 ⟨a3, cc3, rfl, hO3, k3, hf3⟩
    have k03 := k02.trans k3 (by simp)
    have hb6 := k3.keeps hb4 (by simp)
    clear c0 c1 c2 c3 hb4
    have kw := (Kept.refl [] w3).alloc (.cells #[Sv x.fr, .int .u64 (x.ser : Int), .int .i64 x.kind, .slice a3 x.args.length cc3] 25)
    have hb7 := kw.keeps hb6 (by simp)
    obtain ⟨c0, c1, c2, c3⟩ := cells4 hb7
    go_wp2_with fail
    obtain ⟨W3, e0, -, hz3, hb8⟩ := box1 w3 (.cells #[Sv x.fr, .int .u64 (x.ser : Int), .int .i64 x.kind, .slice a3 x.args.length cc3] 25)
    rw [e0] at kw hb7
    rw [e0]
    clear e0 c0 c1 c2 c3
    have k04 := k03.trans kw (by simp)
    refine (copy17 x a c (hx.kept k04 (by simp)) (by omega) (by omega)).mono ?_
    rintro e w4 ⟨a4, cc4, rfl, hO4, k4, hf4⟩
    have k05 := k04.trans k4 (by simp)
    have hb9 := k4.keeps hb7 (by simp)
    have hb10 := k4.keeps hb8 (by simp)
    have hO3' := (hO3.kept kw (by simp)).kept k4 (by simp)
    have kw4 := (Kept.refl [] w4).alloc (.cells #[Sv x.fr, .int .u64 (x.ser : Int), .int .i64 x.kind, .slice a4 x.args.length cc4] 25)
    go_wp2_with fail
    obtain ⟨W4, e0, -, hz4, hb11⟩ := box1 w4 (.cells #[Sv x.fr, .int .u64 (x.ser : Int), .int .i64 x.kind, .slice a4 x.args.length cc4] 25)
    rw [e0] at kw4
    rw [e0]
    clear e0
    have HI : Hid (IntRow W4 a4 x.args.length) := (hO4.kept kw4 (by simp)).row
    obtain ⟨-, hac, hcc⟩ := hO4.reads.bound
    have hl4 : ∀ g, (Value.slice a4 x.args.length cc4).ownBlock = some g → g < w4.heap.size := fun g hg => hO4.lt hg
    have hl3 : ∀ g, (Value.slice a3 x.args.length cc3).ownBlock = some g → g < w3.heap.size := fun g hg => hO3.lt hg
    have hsz0 := k03.size
    have hsz1 := k4.size
    have hlt0 : w.heap.size < w3.heap.size := lt_of_block hb6
    have HB : Hid (∀ W, Kept (Value.slice a4 x.args.length cc4).ownBlock.toList W4 W → W.heap[w4.heap.size]? = some (.cells #[Sv x.fr, .int .u64 (x.ser : Int), .int .i64 x.kind, .slice a4 x.args.length cc4] 25 (0, 0))) := fun W k => k.keeps hb11 (fun hm => by
      rw [Option.mem_toList] at hm
      have := hl4 _ hm; omega)
    have HC : Hid (∀ W, Kept (Value.slice a4 x.args.length cc4).ownBlock.toList W4 W → W.heap[w3.heap.size]? = some (.cells #[Sv x.fr, .int .u64 (x.ser : Int), .int .i64 x.kind, .slice a3 x.args.length cc3] 25 (0, 0))) := fun W k => k.keeps (kw4.keeps hb10 (by simp)) (fun hm => by
      rw [Option.mem_toList] at hm
      have := hf4 _ hm; omega)
    have HD : Hid (∀ W, Kept (Value.slice a4 x.args.length cc4).ownBlock.toList W4 W → W.heap[w.heap.size]? = some (.cells #[Sv x.fr, .int .u64 (x.ser : Int), .int .i64 x.kind, .slice a x.args.length c] 25 (0, 0))) := fun W k => k.keeps (kw4.keeps hb9 (by simp)) (fun hm => by
      rw [Option.mem_toList] at hm
      have := hf4 _ hm; omega)
    have HE : Hid (∀ W, Kept (Value.slice a4 x.args.length cc4).ownBlock.toList W4 W → Kept [] w W ∧ ReadsJ W (.slice a3 x.args.length cc3) x.args) := fun W k => ⟨(k05.trans kw4 (by simp)).trans k (fun g hg => by
      rw [Option.mem_toList] at hg
      have := hf4 _ hg
      exact .inr (by omega)), (hO3'.kept kw4 (by simp)).reads.kept k (fun g hg hm => by
      rw [Option.mem_toList] at hm
      have := hf4 _ hm
      have := hl3 _ hg
      omega)⟩
    have HX := Hid.mk hx
    clear hb9 hb10 hb11 hb6 hb7 hb8 hO3 hO4 hO3' hl3 hl4 hsz0 hsz1 hlt0 hz3 hz4 hf3 hf4 kw kw4 k4 k3 k12 k01 hx k05 k04 k03 k02 k0 hz0
    go_loopw [22] (fun i wr => ∃ j : Nat, i = .int .i64 (j : Int) ∧ j ≤ x.args.length ∧ Hid (IntRow wr a4 x.args.length) ∧ Hid (Kept (Value.slice a4 x.args.length cc4).ownBlock.toList W4 wr)) (fun i _ => x.args.length - (intOf i).toNat)
    case atStart => exact ⟨0, rfl, by omega, HI, Hid.mk (Kept.refl _ _)⟩
    case round =>
      obtain ⟨j, rfl, hj, hI, kk⟩ := hrel
      by_cases hlt : j < x.args.length
      · obtain ⟨b, z, rfl, hc, hfz⟩ := hI.out j hlt
        obtain ⟨c0, c1, c2, c3⟩ := cells4 (HB.out _ kk.out)
        have hjI : (j : Int) < (x.args.length : Int) := by omega
        go_wp2_with fail
        go_roundw
        case rel => exact ⟨j + 1, by go_num, by omega, Hid.mk (hI.out.store j _), Hid.mk (kk.out.setCell (.inl (by simp [Value.ownBlock])) _)⟩
        case measure => simp [intOf]; omega
      · obtain rfl : j = x.args.length := by omega
        obtain ⟨c0, c1, c2, c3⟩ := cells4 (HC.out _ kk.out)
        obtain ⟨d0, d1, d2, d3⟩ := cells4 (HD.out _ kk.out)
        obtain ⟨kW, hW3⟩ := HE.out _ kk.out
        have H16 := same16 x x a a3 c cc3 (HX.out.kept kW (by simp)) hW3 (by omega)
        rw [sameL_refl] at H16
        go_wp2_with fail
        refine Calls.mono H16 ?_
        rintro e w9 ⟨rfl, k9⟩
        go_wp2_with fail
        go_ret
        exact ⟨rfl, kW.trans k9 (by simp)⟩
end
end Go.Proofs.Ytkcgknbnoegpdaa
