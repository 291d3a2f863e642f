/-
  Decode, and the document's.
-/
import Derived.Test.YtkcgknbnoegpdaaRe
import Derived.Test.YtkcgknbnoegpdaaTa
namespace Go.Proofs.Ytkcgknbnoegpdaa
open Go.RowKit
set_option linter.unusedVariables false
/-- The letter that bytes are, wholly. -/
def decL (l : List UInt8) : Option Lt := if (!(rlet l false).2.2 && (rlet l false).2.1.isEmpty) = true then (rlet l false).1 else none
theorem decL_ok {l : List UInt8} {x : Lt} (h : decL l = some x) : x.ok ∧ x.formed = true := by
  unfold decL at h
  split at h
  · exact rlet_ok h
  · cases h
theorem formed_le {x : Lt} (h : x.formed = true) : x.fr.length ≤ 40 ∧ x.args.length ≤ 4 := by simpa [Lt.formed] using h
theorem decL_le (l : List UInt8) : ((decL l).getD default).fr.length ≤ 40 ∧ ((decL l).getD default).args.length ≤ 4 := by
  cases h : decL l with
  | none => exact ⟨Nat.zero_le _, Nat.zero_le _⟩
  | some x => exact formed_le (decL_ok h).2
/-- What is encoded is decoded as it was. -/
theorem decL_enc {x : Lt} (hx : x.ok) (hf : x.formed = true) : decL (encL x) = some x := by
  have h := rlet_back x hx hf []
  rw [List.append_nil] at h
  unfold decL
  rw [h]
  rfl
/-- What is decoded has just its own bytes. -/
theorem decL_own {l : List UInt8} {x : Lt} (h : decL l = some x) : encL x = l := by
  unfold decL at h
  split at h
  · rename_i hq
    generalize hr : rlet l false = r at h hq
    obtain ⟨r1, r2, r3⟩ := r
    dsimp only at h hq
    subst h
    simp at hq
    obtain ⟨rfl, rfl⟩ := hq
    have := (rlet_fwd hr).2
    rw [this, List.append_nil]
  · cases h
/-- What Decode answers. -/
def DecAt (w : World) (l : List UInt8) (e : Ending) (w' : World) : Prop :=
  ∃ (a : Option Addr) (c : Nat), e = .returned (.tuple #[Lv ((decL l).getD default) a c, .int .i64 (if (decL l).isSome = true then 0 else 2)]) ∧ OwnsJ w' (.slice a ((decL l).getD default).args.length c) ((decL l).getD default).args ∧ Kept [] w w' ∧ Fresh w (.slice a ((decL l).getD default).args.length c)
theorem decAt_none {w w' : World} {l : List UInt8} (h : decL l = none) (k : Kept [] w w') : DecAt w l (.returned (.tuple #[Lv ⟨[], 0, 0, []⟩ none 0, .int .i64 2])) w' := by
  unfold DecAt
  rw [h]
  exact ⟨none, 0, rfl, OwnsJ.nil w', k, fresh_nil w 0⟩
theorem decAt_some {w w' : World} {l : List UInt8} {x : Lt} {a : Option Addr} {c : Nat} (h : decL l = some x) (ho : OwnsJ w' (.slice a x.args.length c) x.args) (k : Kept [] w w') (hf : Fresh w (.slice a x.args.length c)) : DecAt w l (.returned (.tuple #[Lv x a c, .int .i64 0])) w' := by
  unfold DecAt
  rw [h]
  exact ⟨a, c, rfl, ho, k, hf⟩
section
variable {w : World}
set_option maxRecDepth 100000 in
set_option maxHeartbeats 1000000 in
theorem decode18 (v : Value) (l : List UInt8) (hr : Reads w v l) (hl : l.length ≤ 140737488355328) : Calls Try.prog 18 #[v] w fun e w' => DecAt w l e w' := by
  go_enter Try.func18, Try.ntmps18
  go_wp2_with fail
  obtain ⟨W0, e0, k0, hz0, hb0⟩ := box1 w (.cells #[.string ⟨#[]⟩, .int .u64 0, .int .i64 0, .slice none 0 0] 25)
  rw [e0]
  clear e0
  refine (newr_in v l W0 (hr.kept k0 (by simp)) hl).mono ?_
  rintro e w1 ⟨p, v1, rfl, hR1, k1, hf1, hp1, hin⟩
  go_wp2_with fail
  refine (read34 p v1 l false hR1 hin).mono ?_
  rintro e w2 ⟨x, a, c, rfl, hx, hO, hF, v2, hR2, k2, hV2⟩
  have k12 : Kept [] W0 w2 := k1.trans k2 (fun y hy => by simp at hy; subst hy; exact .inr hp1)
  have hb2 := k12.keeps hb0 (by simp)
  have HX := Hid.mk hx
  clear hx
  have HD : Hid (decL l = if (!(rlet l false).2.2 && (rlet l false).2.1.isEmpty) = true then (rlet l false).1 else none) := rfl
  generalize rlet l false = r at HX HD hR2
  have k02 := k0.trans k12 (by simp)
  have hF2 : Fresh w (.slice a x.args.length c) := fun g hg => by have := hF g hg; have := k1.size; have := k0.size; omega
  have hF2' : ∀ g, (Value.slice a x.args.length c).ownBlock = some g → w.heap.size < g := fun g hg => by have := hF g hg; have := k1.size; omega
  have kW := (Kept.refl [] w2).alloc (.cells #[Sv x.fr, .int .u64 (x.ser : Int), .int .i64 x.kind, .slice a x.args.length c] 25)
  have hb3 := kW.keeps hb2 (by simp)
  have hlt := lt_of_block hb2
  obtain ⟨d0, d1, d2, d3⟩ := cells4 hb2
  obtain ⟨g0, g1, g2, g3⟩ := free4 hb2
  clear hF k12 hb0 k1 k2 hz0 hr
  obtain ⟨r1, r2, r3⟩ := r
  dsimp only at HX HD hR2
  cases r1 with
  | none =>
    dsimp only [Option.isSome]
    go_wp2_with fail
    obtain ⟨W5, e5, k5, hb5, -⟩ := put4 hb2 (.string ⟨#[]⟩) (.int .u64 0) (.int .i64 0) (.slice none 0 0)
    rw [e5]
    clear e5
    have kV := (Kept.refl [] W5).alloc (.cells #[Sv x.fr, .int .u64 (x.ser : Int), .int .i64 x.kind, .slice a x.args.length c] 25)
    refine bodyPost_ret (results_cell_row2 (p := 2) (u := 3) (ty := 25) rfl _ _ w.heap.size 25 _ (0, 0) _ rfl (kV.keeps hb5 (by simp)) Try.underlying25 rfl (by kernel_rfl) _ rfl) rfl ?_
    refine decAt_none (by rw [HD.out]; simp) ((k02.trans k5 (fun y hy => by simp at hy; subst hy; exact .inr (Nat.le_refl _))).trans kV (by simp))
  | some y =>
    obtain rfl := HX.out y rfl
    dsimp only [Option.isSome]
    go_wp2_with fail
    obtain ⟨W3, e3, -, hz3, hb4⟩ := box1 w2 (.cells #[Sv x.fr, .int .u64 (x.ser : Int), .int .i64 x.kind, .slice a x.args.length c] 25)
    rw [e3] at hb3 kW
    rw [e3]
    clear e3 d0 d1 d2 d3 g0 g1 g2 g3 hb2
    have hR3 := hR2.kept kW (by simp) (by simp)
    refine (end_any p v2 _ _ _ hR3).mono ?_
    rintro e w4 ⟨rfl, rfl⟩
    obtain ⟨d0, d1, d2, d3⟩ := cells4 hb3
    obtain ⟨g0, g1, g2, g3⟩ := free4 hb3
    obtain ⟨c0, c1, c2, c3⟩ := cells4 hb4
    cases hq : (!r3 && r2.isEmpty) with
    | false =>
      rw [hq] at HD
      clear hq
      go_wp2_with fail
      obtain ⟨W5, e5, k5, hb5, -⟩ := put4 hb3 (.string ⟨#[]⟩) (.int .u64 0) (.int .i64 0) (.slice none 0 0)
      rw [e5]
      clear e5
      refine bodyPost_ret (results_cell_row2 (p := 2) (u := 3) (ty := 25) rfl _ _ w.heap.size 25 _ (0, 0) _ rfl hb5 Try.underlying25 rfl (by kernel_rfl) _ rfl) rfl ?_
      refine decAt_none (by rw [HD.out]; simp) ((k02.trans kW (by simp)).trans k5 (fun y hy => by simp at hy; subst hy; exact .inr (Nat.le_refl _)))
    | true =>
      rw [hq] at HD
      clear hq
      go_wp2_with fail
      obtain ⟨W5, e5, k5, hb5, -⟩ := put4 hb3 (Sv x.fr) (.int .u64 (x.ser : Int)) (.int .i64 x.kind) (.slice a x.args.length c)
      rw [e5]
      clear e5
      refine bodyPost_ret (results_cell_row2 (p := 2) (u := 3) (ty := 25) rfl _ _ w.heap.size 25 _ (0, 0) _ rfl hb5 Try.underlying25 rfl (by kernel_rfl) _ rfl) rfl ?_
      refine decAt_some (by rw [HD.out]; simp) ((hO.kept kW (by simp)).kept k5 (fun g hg hm => ?_)) ((k02.trans kW (by simp)).trans k5 (fun y hy => by simp at hy; subst hy; exact .inr (Nat.le_refl _))) hF2
      have := hF2' g hg
      simp at hm
      omega
set_option maxRecDepth 100000 in
set_option maxHeartbeats 1000000 in
theorem decode19 (v : Value) (l : List UInt8) (hr : Reads w v l) (hin : Inside w v) : Calls Try.prog 19 #[v] w fun e w' => DecAt w l e w' := by
  go_enter Try.func19, Try.ntmps19
  go_wp2_with fail
  obtain ⟨W0, e0, k0, hz0, hb0⟩ := box1 w (.cells #[.string ⟨#[]⟩, .int .u64 0, .int .i64 0, .slice none 0 0] 25)
  rw [e0]
  clear e0
  refine (of_any v l W0 (hr.kept k0 (by simp)) (fun g hg => by have := hin g hg; omega)).mono ?_
  rintro e w1 ⟨p, rfl, hR1, k1, hp1⟩
  go_wp2_with fail
  refine (take37 p v l false hR1 (fun g hg => by have := hin g hg; have := k1.size; omega)).mono ?_
  rintro e w2 ⟨x, a, c, rfl, hx, hO, hF, v2, hR2, k2, hV2⟩
  have k12 : Kept [] W0 w2 := k1.trans k2 (fun y hy => by simp at hy; subst hy; exact .inr hp1)
  have hb2 := k12.keeps hb0 (by simp)
  have HX := Hid.mk hx
  clear hx
  have HD : Hid (decL l = if (!(rlet l false).2.2 && (rlet l false).2.1.isEmpty) = true then (rlet l false).1 else none) := rfl
  generalize rlet l false = r at HX HD hR2
  have k02 := k0.trans k12 (by simp)
  have hF2 : Fresh w (.slice a x.args.length c) := fun g hg => by have := hF g hg; have := k1.size; have := k0.size; omega
  have hF2' : ∀ g, (Value.slice a x.args.length c).ownBlock = some g → w.heap.size < g := fun g hg => by have := hF g hg; have := k1.size; omega
  have kW := (Kept.refl [] w2).alloc (.cells #[Sv x.fr, .int .u64 (x.ser : Int), .int .i64 x.kind, .slice a x.args.length c] 25)
  have hb3 := kW.keeps hb2 (by simp)
  have hlt := lt_of_block hb2
  obtain ⟨d0, d1, d2, d3⟩ := cells4 hb2
  obtain ⟨g0, g1, g2, g3⟩ := free4 hb2
  clear hF k12 hb0 k1 k2 hz0 hr
  obtain ⟨r1, r2, r3⟩ := r
  dsimp only at HX HD hR2
  cases r1 with
  | none =>
    dsimp only [Option.isSome]
    go_wp2_with fail
    obtain ⟨W5, e5, k5, hb5, -⟩ := put4 hb2 (.string ⟨#[]⟩) (.int .u64 0) (.int .i64 0) (.slice none 0 0)
    rw [e5]
    clear e5
    have kV := (Kept.refl [] W5).alloc (.cells #[Sv x.fr, .int .u64 (x.ser : Int), .int .i64 x.kind, .slice a x.args.length c] 25)
    refine bodyPost_ret (results_cell_row2 (p := 2) (u := 3) (ty := 25) rfl _ _ w.heap.size 25 _ (0, 0) _ rfl (kV.keeps hb5 (by simp)) Try.underlying25 rfl (by kernel_rfl) _ rfl) rfl ?_
    refine decAt_none (by rw [HD.out]; simp) ((k02.trans k5 (fun y hy => by simp at hy; subst hy; exact .inr (Nat.le_refl _))).trans kV (by simp))
  | some y =>
    obtain rfl := HX.out y rfl
    dsimp only [Option.isSome]
    go_wp2_with fail
    obtain ⟨W3, e3, -, hz3, hb4⟩ := box1 w2 (.cells #[Sv x.fr, .int .u64 (x.ser : Int), .int .i64 x.kind, .slice a x.args.length c] 25)
    rw [e3] at hb3 kW
    rw [e3]
    clear e3 d0 d1 d2 d3 g0 g1 g2 g3 hb2
    have hR3 := hR2.kept kW (by simp) (by simp)
    refine (refr_end p v2 _ _ _ hR3).mono ?_
    rintro e w4 ⟨rfl, rfl⟩
    obtain ⟨d0, d1, d2, d3⟩ := cells4 hb3
    obtain ⟨g0, g1, g2, g3⟩ := free4 hb3
    obtain ⟨c0, c1, c2, c3⟩ := cells4 hb4
    cases hq : (!r3 && r2.isEmpty) with
    | false =>
      rw [hq] at HD
      clear hq
      go_wp2_with fail
      obtain ⟨W5, e5, k5, hb5, -⟩ := put4 hb3 (.string ⟨#[]⟩) (.int .u64 0) (.int .i64 0) (.slice none 0 0)
      rw [e5]
      clear e5
      refine bodyPost_ret (results_cell_row2 (p := 2) (u := 3) (ty := 25) rfl _ _ w.heap.size 25 _ (0, 0) _ rfl hb5 Try.underlying25 rfl (by kernel_rfl) _ rfl) rfl ?_
      refine decAt_none (by rw [HD.out]; simp) ((k02.trans kW (by simp)).trans k5 (fun y hy => by simp at hy; subst hy; exact .inr (Nat.le_refl _)))
    | true =>
      rw [hq] at HD
      clear hq
      go_wp2_with fail
      obtain ⟨W5, e5, k5, hb5, -⟩ := put4 hb3 (Sv x.fr) (.int .u64 (x.ser : Int)) (.int .i64 x.kind) (.slice a x.args.length c)
      rw [e5]
      clear e5
      refine bodyPost_ret (results_cell_row2 (p := 2) (u := 3) (ty := 25) rfl _ _ w.heap.size 25 _ (0, 0) _ rfl hb5 Try.underlying25 rfl (by kernel_rfl) _ rfl) rfl ?_
      refine decAt_some (by rw [HD.out]; simp) ((hO.kept kW (by simp)).kept k5 (fun g hg hm => ?_)) ((k02.trans kW (by simp)).trans k5 (fun y hy => by simp at hy; subst hy; exact .inr (Nat.le_refl _))) hF2
      have := hF2' g hg
      simp at hm
      omega
end
end Go.Proofs.Ytkcgknbnoegpdaa
