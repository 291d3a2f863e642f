/-
  lost: an Append with a fuse, and the Log opened anew.
-/
import Derived.Test.YtdcjaopmfccgbaaPSt
import Derived.BigQuiet
namespace Go.Proofs.Ytdcjaopmfccgbaa
open Go.RowKit
set_option linter.unusedVariables false

/-- What lost answers, and leaves. -/
def Lost (w : World) (q r fr ct ep m : Nat) (e : Ending) (w' : World) : Prop := ∃ p2, e = .returned (.pointer (some ⟨p2, 0, none⟩)) ∧ ∃ s2 us2 M2, Pl w w' q p2 r s2 fr ct ep us2 false M2 [] ∧ Calm s2 (m + 18)
set_option maxRecDepth 100000 in
set_option maxHeartbeats 2000000 in
theorem lost_no {w wr : World} {q p r : Nat} {s : St} {fr ct ep m : Nat} {us : List (List UInt8)} {M Y : List Nat} (hP : Pl w wr q p r s fr ct ep us false M Y) (hC : Calm s m) (hm : m ≤ 20000) (kd n : Int) (vb : Value) (hvb : ∃ a k c, vb = .slice a k c) (f : Nat) (hf : f < 7) (hfn : (IntKind.u64.wrap n).tmod 7 = (f : Int)) (a1 : Option Addr) (nb c1 : Nat) (l : List UInt8) (hr : Reads wr (.slice a1 nb c1) l) (hl : l.length = nb) (hX : ∀ g, (Value.slice a1 nb c1).ownBlock = some g → g ∈ Y) (hnb : nb ≤ 4000) (hep : ep < 18446744073709551615) (hE : wrongE us ct nb ≠ 0) :
    Calls Try.prog 17 #[.pointer (some ⟨q, 0, none⟩), .pointer (some ⟨p, 0, none⟩), .pointer (some ⟨r, 0, none⟩), .agg #[.int .i64 kd, .int .i64 n, vb], .slice a1 nb c1, .int .i64 (wrongE us ct nb), .int .i64 (fr : Int)] wr fun e w' => Lost w q r fr ct ep m e w' := by
  have fin : ∀ p2 w' s2 us2 M2, Pl w w' q p2 r s2 fr ct ep us2 false M2 [] → Calm s2 (m + 18) → Lost w q r fr ct ep m (.returned (.pointer (some ⟨p2, 0, none⟩))) w' := fun p2 w' s2 us2 M2 h1 h2 => ⟨p2, rfl, s2, us2, M2, h1, h2⟩
  generalize Lost w q r fr ct ep m = R at fin
  have hlen := hP.sy.len
  obtain ⟨vba, vbk, vbc, rfl⟩ := hvb
  have k0 := (Kept.refl [] wr).alloc (.cells #[.int .i64 kd, .int .i64 n, .slice vba vbk vbc] 37)
  have hP0 := hP.kept k0
  have hr0 := hr.kept k0 (by simp)
  have hb0 : Boxed3 (wr.alloc (.cells #[.int .i64 kd, .int .i64 n, .slice vba vbk vbc] 37)) wr.heap.size (.int .i64 kd) (.int .i64 n) (.slice vba vbk vbc) := heap_alloc_new wr _
  obtain ⟨d0, d1, d2⟩ := hb0.cells
  have hub := fun W => ub_any nb (by omega) W
  have hE1 : (wrongE us ct nb == 0) = false := by simpa using hE
  have hE2 : (wrongE us ct nb == 9) = false := by
    unfold wrongE
    split
    · rfl
    · split <;> rfl
  go_enter Try.func17, Try.ntmps17
  go_wp2_with fail
  generalize wr.alloc (.cells #[.int .i64 kd, .int .i64 n, .slice vba vbk vbc] 37) = w1 at k0 hP0 hr0 hb0 d0 d1 d2
  generalize wr.heap.size = bo at hb0 d0 d1 d2
  refine (sy_fuse hP0.sy f (by omega)).mono ?_
  rintro e w2 ⟨rfl, hS2, k2⟩
  have hP2 := hP0.keptX hS2 k2
  have hr2 := hr0.keptX k2 (fun g hg => by simp [hX g hg])
  clear hS2 hP0 hr0 d0 d1 d2 hb0 k0 k2 hP hr
  have hap := sy_append_no hP2.sy a1 nb c1 (by omega) hE
  generalize wrongE us ct nb = E at hap hE1 hE2
  clear hE
  go_wp2_with fail
  refine hap.mono ?_
  rintro e w3 ⟨rfl, k3⟩
  have hP3 := hP2.kept k3
  clear hap hP2 hr2 k3
  go_wp2_with fail
  go_quiet (fail)
  have hP4 := hP3.kept ((Kept.refl [] w3).drewN nq)
  generalize w3.drewN nq = w4 at hP4
  clear hP3
  go_wp2_with fail
  refine (sy_restart hP4.sy).mono ?_
  rintro e w5 ⟨rfl, hS5, k5⟩
  have hP5 := hP4.keptX hS5 k5
  clear hP4 hS5 k5
  have hop := sy_open (hP5.sy.kept (Kept.refl [] w5).drew) ep us hP5.sy.ar rfl (fun y hy => hP5.lt y hy)
  obtain ⟨ma, mc, m0, -, m1, m2⟩ := hP5.m.cells
  have SS : w5.drew.cell? ⟨r, 1, none⟩ = some (.int .i64 (ct : Int)) ∧ w5.drew.cell? ⟨r, 2, none⟩ = some (.int .u64 (ep : Int)) := ⟨m1, m2⟩
  have hrlt : r < w5.heap.size := World.block_lt_of_cell? _ _ m1
  clear m0
  go_wp2_with fail
  go_region_held3 (fun w' => w'.cell? ⟨r, 1, none⟩ = some (.int .i64 (ct : Int)) ∧ w'.cell? ⟨r, 2, none⟩ = some (.int .u64 (ep : Int))) (first | exact SS | exact S1) (first | (go_at_call 10; refine hop.mono ?_; rintro e w6 ⟨p6, rfl, hS6, k6⟩; have S1 : w6.cell? ⟨r, 1, none⟩ = some (.int .i64 (ct : Int)) ∧ w6.cell? ⟨r, 2, none⟩ = some (.int .u64 (ep : Int)) := ⟨by rw [k6.cell hrlt (by simp)]; exact SS.1, by rw [k6.cell hrlt (by simp)]; exact SS.2⟩))
  have k56 : Kept [] w5 w6 := ((Kept.refl [] w5).drew).trans k6 (by simp)
  have hP6 : Pl w w6 q p6 r ({ { s with fuse := (f : Int) } with down := false, fuse := -1 }) fr ct ep us false M Y := hP5.keptX hS6 (KX.of k56)
  clear SS S1 hop k6 hS6 m1 m2 hP5
  have hfin := Hid.mk (fun N => fin p6 (w6.drewN N) _ us M (hP6.kept ((Kept.refl [] w6).drewN N)).drop ⟨rfl, rfl, Nat.le_trans hC.2.2 (by omega)⟩)
  clear hP6 k56 fin
  go_wp2_with fail
  go_quiet (fail)
  go_wp2
  exact hfin.out nq
end Go.Proofs.Ytdcjaopmfccgbaa
