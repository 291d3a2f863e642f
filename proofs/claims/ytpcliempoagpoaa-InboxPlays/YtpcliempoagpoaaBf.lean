/-
  First of an inbox.
-/
import Derived.Test.YtpcliempoagpoaaBp
namespace Go.Proofs.Ytpcliempoagpoaa
open Go.RowKit
set_option linter.unusedVariables false
/-- The first one, or none. -/
def hdL (l : List Lt) : Lt := l.headD ⟨[], 0, 0, []⟩
/-- A letter in new memory, and whether there is one. -/
def LetB (w : World) (x : Lt) (b : Bool) (e : Ending) (w' : World) : Prop :=
  ∃ a c, e = .returned (.tuple #[Lv x a c, .bool b]) ∧ OwnsJ w' (.slice a x.args.length c) x.args ∧ Kept [] w w' ∧ Fresh w (.slice a x.args.length c)
section
variable {w : World} {p : Nat} {qs : List Lq}
set_option maxRecDepth 100000 in
set_option maxHeartbeats 1000000 in
theorem first22_none {p' : Option Addr} (hL : ∀ W, Kept [] w W → Calls Try.prog 21 #[.pointer p'] W fun e w' => e = .returned (.int .i64 0) ∧ W = w') : Calls Try.prog 22 #[.pointer p'] w fun e w' => LetB w ⟨[], 0, 0, []⟩ false e w' := by
  have HL := Hid.mk hL
  clear hL
  go_enter Try.func22, Try.ntmps22
  go_wp2_with fail
  obtain ⟨W0, e0, k0, hz0, hb0⟩ := box1 w (.cells #[.string { data := #[] }, .int .u64 0, .int .i64 0, .slice none 0 0] 34)
  rw [e0]
  clear e0
  refine (HL.out _ k0).mono ?_
  rintro e w1 ⟨rfl, rfl⟩
  obtain ⟨c0, c1, c2, c3⟩ := cells4 hb0
  obtain ⟨f0, f1, f2, f3⟩ := free4 hb0
  go_wp2_with fail
  obtain ⟨W8, e8, k8, h8, -⟩ := put4 hb0 (.string { data := #[] }) (.int .u64 0) (.int .i64 0) (.slice none 0 0)
  rw [e8]
  refine bodyPost_ret (results_cell_row2 (p := 2) (u := 3) (ty := 34) rfl _ _ w.heap.size 34 _ (0, 0) _ rfl h8 Try.underlying34 rfl (by kernel_rfl) _ rfl) rfl ?_
  exact ⟨none, 0, rfl, OwnsJ.nil _, k0.trans k8 (by simp), fresh_nil w 0⟩
set_option maxRecDepth 100000 in
set_option maxHeartbeats 1000000 in
theorem first22_some {q : Lq} {t : List Lq} (hB : IsB w p (q :: t)) : Calls Try.prog 22 #[.pointer (some ⟨p, 0, none⟩)] w fun e w' => LetB w q.x true e w' := by
  have HB := Hid.mk hB
  clear hB
  go_enter Try.func22, Try.ntmps22
  go_wp2_with fail
  obtain ⟨W0, e0, k0, hz0, hb0⟩ := box1 w (.cells #[.string { data := #[] }, .int .u64 0, .int .i64 0, .slice none 0 0] 34)
  rw [e0]
  clear e0
  have hB0 := HB.out.kept0 k0
  refine (len21 hB0).mono ?_
  rintro e w1 ⟨rfl, rfl⟩
  have hn : (((q :: t).length : Int) == 0) = false := by simp; omega
  generalize ((q :: t).length : Int) = N at hn
  obtain ⟨d0, d1, d2, d3⟩ := hB0.at (j := 0) rfl
  rw [Nat.zero_mul] at *
  have hfm := formed_le (hB0.good q (by simp)).2
  have HC := Hid.mk (copy17 q.x q.ad q.cap (hB0.args q (by simp)).reads (by omega) (by omega))
  clear hB0
  go_wp2_with fail
  refine HC.out.mono ?_
  rintro e w2 ⟨a2, c2, rfl, hO2, k2, hf2⟩
  have hb2 := k2.keeps hb0 (by simp)
  obtain ⟨c0, c1, c2', c3⟩ := cells4 hb2
  obtain ⟨f0, f1, f2, f3⟩ := free4 hb2
  clear d0 d1 d2 d3
  go_wp2_with fail
  obtain ⟨W8, e8, k8, h8, -⟩ := put4 hb2 (Sv q.x.fr) (.int .u64 (q.x.ser : Int)) (.int .i64 q.x.kind) (.slice a2 q.x.args.length c2)
  rw [e8]
  refine bodyPost_ret (results_cell_row2 (p := 2) (u := 3) (ty := 34) rfl _ _ w.heap.size 34 _ (0, 0) _ rfl h8 Try.underlying34 rfl (by kernel_rfl) _ rfl) rfl ?_
  exact ⟨a2, c2, rfl, hO2.kept k8 (fun g hg hm => by simp at hm; subst hm; exact ownsJ_ne hO2 hb2 (by decide) hg), (k0.trans k2 (by simp)).trans k8 (by simp), fun g hg => by have := hf2 g hg; have := k0.size; omega⟩
theorem first22 (hB : IsB w p qs) : Calls Try.prog 22 #[.pointer (some ⟨p, 0, none⟩)] w fun e w' => LetB w (hdL (qs.map (·.x))) (!qs.isEmpty) e w' := by
  cases qs with
  | nil => exact first22_none (fun W k => len21 (hB.kept0 k))
  | cons q t => exact first22_some hB
theorem first22_nil : Calls Try.prog 22 #[.pointer none] w fun e w' => LetB w ⟨[], 0, 0, []⟩ false e w' := first22_none (fun W k => len21_nil)
end
end Go.Proofs.Ytpcliempoagpoaa
