/-
  slices.Equal of integers, and Same of two letters.
-/
import Derived.Test.YtkcgknbnoegpdaaFm
import Derived.Deep.RegionHeld3
namespace Go.Proofs.Ytkcgknbnoegpdaa
open Go.RowKit
set_option linter.unusedVariables false
section
variable {w : World}
set_option maxRecDepth 100000 in
set_option maxHeartbeats 1000000 in
theorem equal30 {a a' : Option Addr} {c c' n n' : Nat} {l m : List Int} (hr : ReadsJ w (.slice a n c) l) (hr' : ReadsJ w (.slice a' n' c') m) (hn : Hid (n = l.length)) (hn' : Hid (n' = m.length)) (hl : n ≤ 9223372036854775806) : Calls Try.prog 30 #[.slice a n c, .slice a' n' c'] w fun e w' => e = .returned (.bool (decide (l = m))) ∧ Kept [] w w' := by
  by_cases hlen : n = n'
  · subst hlen
    obtain ⟨-, hc1, hc2⟩ := hr.bound
    obtain ⟨-, hc3, hc4⟩ := hr'.bound
    have HR := Hid.mk hr
    have HR' := Hid.mk hr'
    clear hr hr'
    have HL : Hid (l.length = m.length) := hn.out.symm.trans hn'.out
    generalize hD : decide (l = m) = D
    have HD := Hid.mk hD
    clear hD
    go_enter Try.func30, Try.ntmps30
    go_wp2_with fail
    go_loopw [13] (fun i wr => ∃ j : Nat, i = .int .i64 (j : Int) ∧ j ≤ n ∧ Hid (l.take j = m.take j) ∧ Kept [] w wr) (fun i _ => n - (intOf i).toNat)
    case atStart => exact ⟨0, rfl, by omega, Hid.mk rfl, Kept.refl [] w⟩
    case round =>
      obtain ⟨j, rfl, hj, ht, kk⟩ := hrel
      by_cases hlt : j < n
      · obtain ⟨x, hx⟩ : ∃ x, l[j]? = some x := ⟨_, List.getElem?_eq_getElem (by have := hn.out; omega)⟩
        obtain ⟨y, hy⟩ : ∃ y, m[j]? = some y := ⟨_, List.getElem?_eq_getElem (by have := hn'.out; omega)⟩
        obtain ⟨b, o, rfl, hcell⟩ := (HR.out.kept kk (by simp)).at hx
        obtain ⟨b', o', rfl, hcell'⟩ := (HR'.out.kept kk (by simp)).at hy
        have HK := Hid.mk kk
        have HX := Hid.mk hx
        have HY := Hid.mk hy
        clear hx hy kk
        have hjI : (j : Int) < (n : Int) := by omega
        by_cases hxy : x = y
        · subst hxy
          have hne : (x != x) = false := by simp
          go_wp2_with fail
          go_quiet (fail)
          go_wp2
          go_roundw
          case rel => exact ⟨j + 1, by go_num, by omega, by show _ = _; rw [List.take_add_one, List.take_add_one, ht.out, HX.out, HY.out], HK.out.drewN _⟩
          case measure => simp [intOf]; omega
        · have hne : (x != y) = true := by simp [hxy]
          go_wp2_with fail
          go_quiet (fail)
          go_wp2
          go_ret
          refine ⟨?_, HK.out.drewN _⟩
          have : D = false := by
            rw [← HD.out]
            simp only [decide_eq_false_iff_not]
            intro e
            have := HX.out.symm.trans ((congrArg (fun q : List Int => q[j]?) e).trans HY.out)
            simp at this
            exact hxy this
          rw [this]
          rfl
      · obtain rfl : j = n := by omega
        go_wp2
        go_ret
        refine ⟨?_, kk⟩
        have : D = true := by
          rw [← HD.out]
          simp only [decide_eq_true_eq]
          have := ht.out
          rwa [List.take_of_length_le (by rw [← hn.out]; exact Nat.le_refl _), List.take_of_length_le (by rw [← hn'.out]; exact Nat.le_refl _)] at this
        rw [this]
        rfl
  · generalize hD : decide (l = m) = D
    have : D = false := by rw [← hD]; simp; intro e; subst e; exact hlen (hn.out.trans hn'.out.symm)
    subst this
    have h1 : ((n : Int) != (n' : Int)) = true := by simp; omega
    clear hD hr hr'
    go_enter Try.func30, Try.ntmps30
    go_wp2_with fail
    go_ret
    exact ⟨rfl, Kept.refl [] w⟩

/-- All of two letters is alike. -/
def sameL (x y : Lt) : Bool := decide (x.fr = y.fr ∧ x.ser = y.ser ∧ x.kind = y.kind ∧ x.args = y.args)
theorem sameL_iff (x y : Lt) : sameL x y = true ↔ x = y := by
  cases x; cases y; simp [sameL]
theorem sameL_refl (x : Lt) : sameL x x = true := (sameL_iff x x).2 rfl
set_option maxRecDepth 100000 in
set_option maxHeartbeats 1000000 in
theorem same15 (x y : Lt) (a b : Option Addr) (c d : Nat) (hx : ReadsJ w (.slice a x.args.length c) x.args) (hy : ReadsJ w (.slice b y.args.length d) y.args) (hl : x.args.length ≤ 9223372036854775806) :
    Calls Try.prog 15 #[Lv x a c, Lv y b d] w fun e w' => e = .returned (.bool (sameL x y)) ∧ Kept [] w w' := by
  generalize hD : sameL x y = D
  have HD := Hid.mk hD
  clear hD
  have k2 : Kept [] w ((w.alloc (Obj.cells #[Sv x.fr, Value.int IntKind.u64 ↑x.ser, Value.int IntKind.i64 x.kind, Value.slice a x.args.length c] 25)).alloc (Obj.cells #[Sv y.fr, Value.int IntKind.u64 ↑y.ser, Value.int IntKind.i64 y.kind, Value.slice b y.args.length d] 25)) := ((Kept.refl [] w).alloc _).alloc _
  by_cases h1 : x.fr = y.fr
  · have g1 : (x.fr == y.fr) = true := by simp [h1]
    by_cases h2 : x.ser = y.ser
    · have g2 : ((x.ser : Int) == (y.ser : Int)) = true := by simp [h2]
      by_cases h3 : x.kind = y.kind
      · have g3 : (x.kind == y.kind) = true := by simp [h3]
        have HE := Hid.mk (fun W (k : Kept [] w W) => equal30 (hx.kept k (by simp)) (hy.kept k (by simp)) rfl rfl hl)
        have H1 := Hid.mk h1
        have H2 := Hid.mk h2
        have H3 := Hid.mk h3
        clear k2 h1 h2 h3 hx hy
        go_enter Try.func15, Try.ntmps15
        go_wp2_with (go_at_call 30; refine (HE.out _ (((Kept.refl [] w).alloc _).alloc _)).mono ?_; rintro e w3 ⟨rfl, hk3⟩)
        go_ret
        refine ⟨?_, (((Kept.refl [] w).alloc _).alloc _).trans hk3 (by simp)⟩
        rw [← HD.out]
        unfold sameL
        simp only [H1.out, H2.out, H3.out, true_and]
        rfl
      · have g3 : (x.kind == y.kind) = false := by simp [h3]
        have HK := Hid.mk k2
        have HH := Hid.mk h3
        clear k2 hx hy h3 h1 h2
        go_enter Try.func15, Try.ntmps15
        go_wp2_with fail
        go_ret
        refine ⟨?_, HK.out⟩
        rw [← HD.out]
        unfold sameL
        simp only [HH.out, false_and, and_false, decide_false]
        rfl
    · have g2 : ((x.ser : Int) == (y.ser : Int)) = false := by simp; omega
      have HK := Hid.mk k2
      have HH := Hid.mk h2
      clear k2 hx hy h2 h1
      go_enter Try.func15, Try.ntmps15
      go_wp2_with fail
      go_ret
      refine ⟨?_, HK.out⟩
      rw [← HD.out]
      unfold sameL
      simp only [HH.out, false_and, and_false, decide_false]
      rfl
  · have g1 : (x.fr == y.fr) = false := by simp [h1]
    have HK := Hid.mk k2
    have HH := Hid.mk h1
    clear k2 hx hy h1
    go_enter Try.func15, Try.ntmps15
    go_wp2_with fail
    go_ret
    refine ⟨?_, HK.out⟩
    rw [← HD.out]
    unfold sameL
    simp only [HH.out, false_and, decide_false]
    rfl
set_option maxRecDepth 100000 in
set_option maxHeartbeats 1000000 in
theorem same16 (x y : Lt) (a b : Option Addr) (c d : Nat) (hx : ReadsJ w (.slice a x.args.length c) x.args) (hy : ReadsJ w (.slice b y.args.length d) y.args) (hl : x.args.length ≤ 9223372036854775806) :
    Calls Try.prog 16 #[Lv x a c, Lv y b d] w fun e w' => e = .returned (.bool (sameL x y)) ∧ Kept [] w w' := by
  generalize hD : sameL x y = D
  have HD := Hid.mk hD
  clear hD
  have k2 : Kept [] w ((w.alloc (Obj.cells #[Sv x.fr, Value.int IntKind.u64 ↑x.ser, Value.int IntKind.i64 x.kind, Value.slice a x.args.length c] 25)).alloc (Obj.cells #[Sv y.fr, Value.int IntKind.u64 ↑y.ser, Value.int IntKind.i64 y.kind, Value.slice b y.args.length d] 25)) := ((Kept.refl [] w).alloc _).alloc _
  by_cases h1 : x.fr = y.fr
  · have g1 : (x.fr == y.fr) = true := by simp [h1]
    by_cases h2 : x.ser = y.ser
    · have g2 : ((x.ser : Int) == (y.ser : Int)) = true := by simp [h2]
      by_cases h3 : x.kind = y.kind
      · have g3 : (x.kind == y.kind) = true := by simp [h3]
        have HE := Hid.mk (fun W (k : Kept [] w W) => sameInts31 (hx.kept k (by simp)) (hy.kept k (by simp)) rfl rfl hl)
        have H1 := Hid.mk h1
        have H2 := Hid.mk h2
        have H3 := Hid.mk h3
        clear k2 h1 h2 h3 hx hy
        go_enter Try.func16, Try.ntmps16
        go_wp2_with (go_at_call 31; refine (HE.out _ (((Kept.refl [] w).alloc _).alloc _)).mono ?_; rintro e w3 ⟨rfl, hk3⟩)
        go_ret
        refine ⟨?_, (((Kept.refl [] w).alloc _).alloc _).trans hk3 (by simp)⟩
        rw [← HD.out]
        unfold sameL
        simp only [H1.out, H2.out, H3.out, true_and]
        rfl
      · have g3 : (x.kind == y.kind) = false := by simp [h3]
        have HK := Hid.mk k2
        have HH := Hid.mk h3
        clear k2 hx hy h3 h1 h2
        go_enter Try.func16, Try.ntmps16
        go_wp2_with fail
        go_ret
        refine ⟨?_, HK.out⟩
        rw [← HD.out]
        unfold sameL
        simp only [HH.out, false_and, and_false, decide_false]
        rfl
    · have g2 : ((x.ser : Int) == (y.ser : Int)) = false := by simp; omega
      have HK := Hid.mk k2
      have HH := Hid.mk h2
      clear k2 hx hy h2 h1
      go_enter Try.func16, Try.ntmps16
      go_wp2_with fail
      go_ret
      refine ⟨?_, HK.out⟩
      rw [← HD.out]
      unfold sameL
      simp only [HH.out, false_and, and_false, decide_false]
      rfl
  · have g1 : (x.fr == y.fr) = false := by simp [h1]
    have HK := Hid.mk k2
    have HH := Hid.mk h1
    clear k2 hx hy h1
    go_enter Try.func16, Try.ntmps16
    go_wp2_with fail
    go_ret
    refine ⟨?_, HK.out⟩
    rw [← HD.out]
    unfold sameL
    simp only [HH.out, false_and, decide_false]
    rfl
end
end Go.Proofs.Ytkcgknbnoegpdaa
