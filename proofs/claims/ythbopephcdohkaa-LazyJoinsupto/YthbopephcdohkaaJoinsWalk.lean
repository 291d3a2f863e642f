/-
  LazyJoins: the walk.
-/
import Derived.Test.YthbopephcdohkaaApp
import Derived.Test.YthbopephcdohkaaTextsWalk
namespace Go.Proofs.Ythbopephcdohkaa
open Go.RowKit
set_option linter.unusedVariables false


set_option maxRecDepth 100000 in
set_option maxHeartbeats 4000000 in
theorem joins_walk (v u : Value) (a b : List UInt8) (w : World) (hA : Reads w v a) (hB : Reads w u b) (hl : a.length + b.length ≤ 16777216) :
    Calls Try.prog 7 #[v, u] w fun e w' => e = .returned (.bool true) ∧ Kept [] w w' := by
  have la := parse_le a
  have lb := parse_le b
  have lab := parse_le (a ++ b)
  rw [List.length_append] at lab
  have hnot : ∀ (x : Bool) (w : World), (Op.unary .not (.bool x)).run Try.prog w = .ok (.bool (!x)) w := fun _ _ => rfl
  go_enter Try.func7, Try.ntmps7
  go_wp2_with fail
  refine (awake_any _).mono ?_
  rintro e w1 ⟨rfl, k1⟩
  go_wp2_with fail
  refine (new_any v a _ (hA.kept k1 (by simp)) (by omega)).mono ?_
  rintro e w2 ⟨p2, u2, rfl, hU2, k2, hp2, hf2, hin2⟩
  have j2 := k1.trans k2 (by simp)
  have q2 : w.heap.size ≤ p2 := by have := k1.size; omega
  clear k2 hp2 hf2 hin2
  go_wp2_with fail
  refine (texts_first p2 a u2 _ hU2 (by omega) (by omega)).mono ?_
  rintro e w3 ⟨tv3, xv, rfl, hox, hD3, k3, hfx, hft, hxt, hxp⟩
  have j3 := j2.trans k3 (fun x hx => by simp at hx; subst hx; exact .inr q2)
  clear k3 hft hxt hxp hD3 hU2
  go_wp2_with fail
  refine (new_any u b _ (hB.kept j3 (by simp)) (by omega)).mono ?_
  rintro e w4 ⟨p4, u4, rfl, hU4, k4, hp4, hf4, hin4⟩
  have j4 := j3.trans k4 (by simp)
  have q4 : w.heap.size ≤ p4 := by have := j3.size; omega
  have r4 : p4 ≥ w3.heap.size := hp4
  have x4 := hox.kept k4 (by simp)
  have y4 : xv.ownBlock ≠ some p4 := fun h => by have := hox.lt h; omega
  clear k4 hp4 hf4 hin4 hox
  go_wp2_with fail
  refine (texts_first p4 b u4 _ hU4 (by omega) (by omega)).mono ?_
  rintro e w5 ⟨tv5, yv, rfl, hoy, hD5, k5, hfy, hft5, hyt, hyp⟩
  have j5 := j4.trans k5 (fun x hx => by simp at hx; subst hx; exact .inr q4)
  have x5 := x4.kept k5 (fun g hg hm => by simp at hm; subst hm; exact y4 hg)
  clear k5 hft5 hyt hyp hD5 hU4 x4 hfx hfy
  have m0 : Owns 5 (w5.alloc (.cells #[] 5)) (.slice (some ⟨w5.heap.size, 0, none⟩) 0 0) [] := own_new w5 [] #[] rfl 0 rfl (by simp)
  have j6 := j5.alloc (.cells #[] 5)
  have f0 := fresh_new w5 0 0
  obtain ⟨ad1, n1, c1, w6, hr1, ho1, g1, N1⟩ := run_append_reads _ 22 _ [] m0 v a (hA.kept j6 (by simp)) (by simp; omega)
  have k6 : Kept [] w w6 := j6.grown g1 (fun k hk => .inr (by have := f0 k hk; have := j5.size; omega))
  have k56 : Kept [] w5 w6 := ((Kept.refl [] w5).alloc (.cells #[] 5)).grown g1 (fun k hk => .inr (f0 k hk))
  have f1 : Fresh w5 (.slice ad1 n1 c1) := fun g hg => by
    rcases N1 g hg with h | h
    · exact f0 g h
    · simp at h; omega
  obtain ⟨ad2, n2, c2, w7, hr2, ho2, g2, N2⟩ := run_append_reads _ 22 _ _ ho1 u b (hB.kept k6 (by simp)) (by simp; omega)
  have k7 : Kept [] w w7 := k6.grown g2 (fun k hk => .inr (by have := f1 k hk; have := j5.size; omega))
  have k57 : Kept [] w5 w7 := k56.grown g2 (fun k hk => .inr (f1 k hk))
  rw [List.nil_append] at ho2
  have x7 := x5.kept k57 (by simp)
  have y7 := hoy.kept k57 (by simp)
  clear m0 f0 ho1 g1 N1 k6 k56 f1 g2 N2 k57 x5 hoy j5 j6
  go_wp2_with (at_builtin; first | (refine wpList_append_run 22 _ _ rfl rfl _ _ rfl rfl _ _ hr1 ?_) | (refine wpList_append_run 22 _ _ rfl rfl _ _ rfl rfl _ _ hr2 ?_))
  refine (new_any _ (a ++ b) _ ho2.reads (by rw [List.length_append]; omega)).mono ?_
  rintro e w8 ⟨p8, u8, rfl, hU8, k8, hp8, hf8, hin8⟩
  have j8 := k7.trans k8 (by simp)
  have q8 : w.heap.size ≤ p8 := by have := k7.size; omega
  have x8 := x7.kept k8 (by simp)
  have y8 := y7.kept k8 (by simp)
  have xp8 : xv.ownBlock ≠ some p8 := fun h => by have := x7.lt h; omega
  have yp8 : yv.ownBlock ≠ some p8 := fun h => by have := y7.lt h; omega
  clear ho2 hr1 hr2 k7 k8 hp8 hf8 hin8 x7 y7
  go_wp2_with fail
  refine (texts_first p8 (a ++ b) u8 _ hU8 (by rw [List.length_append]; omega) (by omega)).mono ?_
  rintro e w9 ⟨tv9, zv, rfl, hoz, hD9, k9, hfz, hft9, hzt, hzp⟩
  have j9 := j8.trans k9 (fun x hx => by simp at hx; subst hx; exact .inr q8)
  have x9 := x8.kept k9 (fun g hg hm => by simp at hm; subst hm; exact xp8 hg)
  have y9 := y8.kept k9 (fun g hg hm => by simp at hm; subst hm; exact yp8 hg)
  clear x8 y8 xp8 yp8 k9 hft9 hzt hzp hD9 hU8 hfz j8 hA hB
  cases hpa : parse a with
  | none =>
    clear x9 y9 hoz
    generalize (parse b).isSome = B
    generalize (parse (a ++ b)).isSome = G
    go_wp2_with fail
    go_ret
    exact ⟨rfl, j9⟩
  | some X =>
    have hj := parse_append a b X hpa
    rw [hj] at hoz lab ⊢
    rw [hpa] at x9 la
    cases hpb : parse b with
    | none =>
      clear x9 y9 hoz
      go_wp2_with fail
      go_ret
      exact ⟨rfl, j9⟩
    | some Y =>
      rw [hpb] at hoz y9 lb lab
      simp only [Option.map_some, Option.getD_some] at hoz x9 y9 la lb lab
      have m0 : OwnsT (w9.alloc (.cells #[] 9)) (.slice (some ⟨w9.heap.size, 0, none⟩) 0 0) [] := World.ownsRow_made (base := 0) (e := 9) (size := 1) w9 #[] 0 (Nat.zero_le _) (by simp) (by simp)
      have f0 := fresh_new w9 0 0
      have ka := (Kept.refl [] w9).alloc (.cells #[] 9)
      obtain ⟨ad1, n1, c1, w10, hr1, ho1, g1, N1⟩ := run_appendT _ 26 _ [] m0 xv X (x9.kept ka (by simp)).reads (by simp; omega)
      have k10 : Kept [] w9 w10 := ka.grown g1 (fun k hk => .inr (f0 k hk))
      have f1 : Fresh w9 (.slice ad1 n1 c1) := fun g hg => by
        rcases N1 g hg with h | h
        · exact f0 g h
        · simp at h; omega
      obtain ⟨ad2, n2, c2, w11, hr2, ho2, g2, N2⟩ := run_appendT _ 26 _ _ ho1 yv Y (y9.kept k10 (by simp)).reads (by simp; omega)
      have k11 : Kept [] w9 w11 := k10.grown g2 (fun k hk => .inr (f1 k hk))
      rw [List.nil_append] at ho2
      have hs := same_any zv _ _ _ w11 (hoz.kept k11 (by simp)).reads ho2.reads (by rw [List.length_append]; omega) (by rw [List.length_append]; omega)
      rw [show decide (X ++ Y = X ++ Y) = true by simp] at hs
      have j11 := j9.trans k11 (by simp)
      clear m0 f0 ka ho1 g1 N1 k10 f1 ho2 g2 N2 k11 x9 y9 hoz j9
      go_wp2_with (first | (at_builtin; first | (refine wpList_append_run 26 _ _ rfl rfl _ _ rfl rfl _ _ hr1 ?_) | (refine wpList_append_run 26 _ _ rfl rfl _ _ rfl rfl _ _ hr2 ?_)) | (go_at_call 14; refine hs.mono ?_; rintro e w12 ⟨rfl, k12⟩))
      go_ret
      exact ⟨rfl, j11.trans k12 (by simp)⟩

end Go.Proofs.Ythbopephcdohkaa
