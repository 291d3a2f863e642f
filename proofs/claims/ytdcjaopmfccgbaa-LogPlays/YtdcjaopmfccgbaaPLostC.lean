/-
  lost: an Append with a fuse that ends in it, and the Log opened anew.
-/
import Derived.Test.YtdcjaopmfccgbaaPLost
import Derived.BigQuiet
namespace Go.Proofs.Ytdcjaopmfccgbaa
open Go.RowKit
set_option linter.unusedVariables false

/-- Units, and same. -/
theorem units_same2 {w0 w : World} {q p : Nat} {s : St} {fr ct ep : Nat} {us : List (List UInt8)} {over : Bool} {X : List Nat} (h : Sy w0 w q p s fr ct ep us over X) (vb : Value) (hT : ReadsT w vb us) :
    Calls Try.prog 19 #[.pointer (some ⟨p, 0, none⟩)] w fun e wa => ∃ g, e = .returned (.slice (some ⟨g, 0, none⟩) us.length us.length) ∧ Kept [] w wa ∧
      Calls Try.prog 18 #[.slice (some ⟨g, 0, none⟩) us.length us.length, vb] wa fun e wb => e = .returned (.bool true) ∧ Kept [] w wb := by
  refine (sy_units h).mono fun e wa ⟨g, he, hU, ka⟩ => ⟨g, he, ka, ?_⟩
  exact (same_yes hU (hT.kept ka (by simp)) h.len.1).mono fun e wb ⟨he, kb⟩ => ⟨he, ka.trans kb (by simp)⟩

set_option maxRecDepth 100000 in
set_option maxHeartbeats 2000000 in
theorem lost_lost {w wr : World} {q p r : Nat} {s : St} {fr ct ep m : Nat} {us : List (List UInt8)} {M Y : List Nat} (hP : Pl w wr q p r s fr ct ep us false M Y) (hC : Calm s m) (hm : m ≤ 20000) (kd n : Int) (vb : Value) (hvb : ∃ a k c, vb = .slice a k c) (f : Nat) (hf : f < 7) (hfn : (IntKind.u64.wrap n).tmod 7 = (f : Int)) (a1 : Option Addr) (nb c1 : Nat) (l : List UInt8) (hr : Reads wr (.slice a1 nb c1) l) (hl : l.length = nb) (hX : ∀ g, (Value.slice a1 nb c1).ownBlock = some g → g ∈ Y) (hnb : nb ≤ 4000) (hep : ep < 18446744073709551615) (hE : wrongE us ct nb = 0) (hfb : f < bks nb) :
    Calls Try.prog 17 #[.pointer (some ⟨q, 0, none⟩), .pointer (some ⟨p, 0, none⟩), .pointer (some ⟨r, 0, none⟩), .agg #[.int .i64 kd, .int .i64 n, vb], .slice a1 nb c1, .int .i64 (wrongE us ct nb), .int .i64 (fr : Int)] wr fun e w' => Lost w q r fr ct ep m e w' := by
  have fin : ∀ p2 w' s2 us2 M2, Pl w w' q p2 r s2 fr ct ep us2 false M2 [] → Calm s2 (m + 18) → Lost w q r fr ct ep m (.returned (.pointer (some ⟨p2, 0, none⟩))) w' := fun p2 w' s2 us2 M2 h1 h2 => ⟨p2, rfl, s2, us2, M2, h1, h2⟩
  generalize Lost w q r fr ct ep m = R at fin
  have hlen := hP.sy.len
  obtain ⟨vba, vbk, vbc, rfl⟩ := hvb
  have k0 := (Kept.refl [] wr).alloc (.cells #[.int .i64 kd, .int .i64 n, .slice vba vbk vbc] 37)
  have hP0 := hP.kept k0
  have hr0 := hr.kept k0 (by simp)
  have hb0 : Boxed3 (wr.alloc (.cells #[.int .i64 kd, .int .i64 n, .slice vba vbk vbc] 37)) wr.heap.size (.int .i64 kd) (.int .i64 n) (.slice vba vbk vbc) := heap_alloc_new wr _
  obtain ⟨d0, d1, d2⟩ := hb0.cells
  have hub := fun W => ub_any nb (by omega) W
  have hE3 : (f : Int) < (bks nb : Int) := by omega
  go_enter Try.func17, Try.ntmps17
  go_wp2_with fail
  generalize wr.alloc (.cells #[.int .i64 kd, .int .i64 n, .slice vba vbk vbc] 37) = w1 at k0 hP0 hr0 hb0 d0 d1 d2
  generalize wr.heap.size = bo at hb0 d0 d1 d2
  refine (sy_fuse hP0.sy f (by omega)).mono ?_
  rintro e w2 ⟨rfl, hS2, k2⟩
  have hP2 := hP0.keptX hS2 k2
  have hr2 := hr0.keptX k2 (fun g hg => by simp [hX g hg])
  clear hS2 hP0 hr0 d0 d1 d2 hb0 k0 k2 hP hr
  have hap := sy_append_fuse hP2.sy a1 nb c1 l hr2 hl (fun g hg => by simp [hX g hg]) (fun y hy => hP2.lt y hy) (by omega) hE hC.1 f rfl (Nat.le_trans hC.2.2 (by omega))
  go_wp2_with fail
  refine hap.mono ?_
  rintro e w3 (⟨hfl, -⟩ | ⟨-, rfl, hS3, k3⟩)
  case inl => omega
  have hP3 := hP2.keptX hS3 k3
  have hub3 := hub w3
  clear hap hP2 hr2 k3 hub hS3
  go_wp2_with fail
  refine hub3.mono ?_
  rintro e w3' ⟨rfl, rfl⟩
  clear hub3
  obtain ⟨ma, mc, m0, hmT, m1, m2⟩ := hP3.m.cells
  have hrlt : r < w3.drew.heap.size := World.block_lt_of_cell? _ _ m1
  have S0 : w3.drew.cell? ⟨r, 0, none⟩ = some (.slice ma us.length mc) ∧ w3.drew.cell? ⟨r, 2, none⟩ = some (.int .u64 (ep : Int)) := ⟨m0, m2⟩
  have hSd := hP3.sy.kept (Kept.refl [] w3).drew
  have hU2 := units_same2 hSd (.slice ma us.length mc) (hmT.kept (Kept.refl [] w3).drew (by simp))
  have hPd := hP3.kept (Kept.refl [] w3).drew
  have hwe : IntKind.u64.wrap ((ep : Int) + 1) = (ep : Int) + 1 := by rw [IntKind.wrap_u64]; omega
  clear m0 m1 m2 hmT hP3
  go_wp2_with fail
  refine wp_region_held_drew (S := fun w' => w'.cell? ⟨r, 0, none⟩ = some (.slice ma us.length mc) ∧ w'.cell? ⟨r, 2, none⟩ = some (.int .u64 (ep : Int))) (by kernel_rfl) S0 (fun _ => ?_)
  refine wpAnyH_take (i := 0) (v := .int .i64 9) rfl (by kernel_rfl) (by kernel_rfl) (by kernel_rfl) (fun _ _ _ h => h) (Or.inl ⟨by rfl, fun w hS => by have hS' : w.cell? ⟨r, 0, none⟩ = some (.slice ma us.length mc) ∧ w.cell? ⟨r, 2, none⟩ = some (.int .u64 (ep : Int)) := hS; go_simp⟩) S0 ?_
  go_simp
  refine wpAnyH_take (i := 1) (v := .bool true) rfl (by kernel_rfl) (by kernel_rfl) (by kernel_rfl) (fun _ _ _ h => h) (Or.inl ⟨by rfl, fun w hS => by have hS' : w.cell? ⟨r, 0, none⟩ = some (.slice ma us.length mc) ∧ w.cell? ⟨r, 2, none⟩ = some (.int .u64 (ep : Int)) := hS; go_simp⟩) S0 ?_
  go_simp
  refine wpAnyH_take (i := 2) (v := .bool true) rfl (by kernel_rfl) (by kernel_rfl) (by kernel_rfl) (fun _ _ _ h => h) (Or.inl ⟨by rfl, fun w hS => by have hS' : w.cell? ⟨r, 0, none⟩ = some (.slice ma us.length mc) ∧ w.cell? ⟨r, 2, none⟩ = some (.int .u64 (ep : Int)) := hS; go_simp⟩) S0 ?_
  go_simp
  refine wpAnyH_take (i := 3) (v := .pointer (some ⟨p, 0, none⟩)) rfl (by kernel_rfl) (by kernel_rfl) (by kernel_rfl) (fun _ _ _ h => h) (Or.inl ⟨by rfl, fun w hS => by have hS' : w.cell? ⟨r, 0, none⟩ = some (.slice ma us.length mc) ∧ w.cell? ⟨r, 2, none⟩ = some (.int .u64 (ep : Int)) := hS; go_simp⟩) S0 ?_
  go_simp
  refine wpAnyH_take (i := 5) (v := .pointer (some ⟨r, 0, none⟩)) rfl (by kernel_rfl) (by kernel_rfl) (by kernel_rfl) (fun _ _ _ h => h) (Or.inl ⟨by rfl, fun w hS => by have hS' : w.cell? ⟨r, 0, none⟩ = some (.slice ma us.length mc) ∧ w.cell? ⟨r, 2, none⟩ = some (.int .u64 (ep : Int)) := hS; go_simp⟩) S0 ?_
  go_simp
  refine wpAnyH_take (i := 6) (v := .pointer (some ⟨r, 0, none⟩)) rfl (by kernel_rfl) (by kernel_rfl) (by kernel_rfl) (fun _ _ _ h => h) (Or.inl ⟨by rfl, fun w hS => by have hS' : w.cell? ⟨r, 0, none⟩ = some (.slice ma us.length mc) ∧ w.cell? ⟨r, 2, none⟩ = some (.int .u64 (ep : Int)) := hS; go_simp⟩) S0 ?_
  go_simp
  refine wpAnyH_take (i := 7) (v := .pointer (some ⟨r, 0, none⟩)) rfl (by kernel_rfl) (by kernel_rfl) (by kernel_rfl) (fun _ _ _ h => h) (Or.inl ⟨by rfl, fun w hS => by have hS' : w.cell? ⟨r, 0, none⟩ = some (.slice ma us.length mc) ∧ w.cell? ⟨r, 2, none⟩ = some (.int .u64 (ep : Int)) := hS; go_simp⟩) S0 ?_
  go_simp
  refine wpAnyH_take (i := 8) (v := .slice ma us.length mc) rfl (by kernel_rfl) (by kernel_rfl) (by kernel_rfl) (fun _ _ _ h => h) (Or.inl ⟨by rfl, fun w hS => by have hS' : w.cell? ⟨r, 0, none⟩ = some (.slice ma us.length mc) ∧ w.cell? ⟨r, 2, none⟩ = some (.int .u64 (ep : Int)) := hS; obtain ⟨hS1', hS2'⟩ := hS'; go_simp⟩) S0 ?_
  go_simp
  refine wpAnyH_ready (rs := [4]) (by kernel_rfl) (by simp) (AllReadyH.cons rfl (fun K hK => ?_) AllReadyH.nil)
  go_simp
  refine (hU2).mono ?_
  rintro e wa ⟨ga, rfl, ka, hsm⟩
  have Sa : wa.cell? ⟨r, 0, none⟩ = some (.slice ma us.length mc) ∧ wa.cell? ⟨r, 2, none⟩ = some (.int .u64 (ep : Int)) := ⟨by rw [ka.cell hrlt (by simp)]; exact S0.1, by rw [ka.cell hrlt (by simp)]; exact S0.2⟩
  refine hK.out _ _ Sa (fun _ => ?_)
  clear hK K
  go_simp
  refine wpAnyH_ready (rs := [9]) (by kernel_rfl) (by simp) (AllReadyH.cons rfl (fun K hK => ?_) AllReadyH.nil)
  go_simp
  refine (hsm).mono ?_
  rintro e wb ⟨rfl, kb⟩
  have Sb : wb.cell? ⟨r, 0, none⟩ = some (.slice ma us.length mc) ∧ wb.cell? ⟨r, 2, none⟩ = some (.int .u64 (ep : Int)) := ⟨by rw [kb.cell hrlt (by simp)]; exact S0.1, by rw [kb.cell hrlt (by simp)]; exact S0.2⟩
  have hSb := hSd.kept kb
  refine hK.out _ _ Sb (fun _ => ?_)
  clear hK K
  go_simp
  refine wpAnyH_take (i := 10) (v := .bool false) rfl (by kernel_rfl) (by kernel_rfl) (by kernel_rfl) (fun _ _ _ h => h) (Or.inl ⟨by rfl, fun w hS => by have hS' : w.cell? ⟨r, 0, none⟩ = some (.slice ma us.length mc) ∧ w.cell? ⟨r, 2, none⟩ = some (.int .u64 (ep : Int)) := hS; go_simp⟩) Sb ?_
  go_simp
  refine wpAnyH_take (i := 11) (v := .bool false) rfl (by kernel_rfl) (by kernel_rfl) (by kernel_rfl) (fun _ _ _ h => h) (Or.inl ⟨by rfl, fun w hS => by have hS' : w.cell? ⟨r, 0, none⟩ = some (.slice ma us.length mc) ∧ w.cell? ⟨r, 2, none⟩ = some (.int .u64 (ep : Int)) := hS; go_simp⟩) Sb ?_
  go_simp
  refine wpAnyH_take (i := 12) (v := .pointer (some ⟨p, 0, none⟩)) rfl (by kernel_rfl) (by kernel_rfl) (by kernel_rfl) (fun _ _ _ h => h) (Or.inl ⟨by rfl, fun w hS => by have hS' : w.cell? ⟨r, 0, none⟩ = some (.slice ma us.length mc) ∧ w.cell? ⟨r, 2, none⟩ = some (.int .u64 (ep : Int)) := hS; go_simp⟩) Sb ?_
  go_simp
  refine wpAnyH_take (i := 13) (v := .slice a1 nb c1) rfl (by kernel_rfl) (by kernel_rfl) (by kernel_rfl) (fun _ _ _ h => h) (Or.inl ⟨by rfl, fun w hS => by have hS' : w.cell? ⟨r, 0, none⟩ = some (.slice ma us.length mc) ∧ w.cell? ⟨r, 2, none⟩ = some (.int .u64 (ep : Int)) := hS; go_simp⟩) Sb ?_
  go_simp
  refine wpAnyH_ready (rs := [14]) (by kernel_rfl) (by simp) (AllReadyH.cons rfl (fun K hK => ?_) AllReadyH.nil)
  go_simp
  refine (sy_append_over hSb _).mono ?_
  rintro e wc ⟨rfl, rfl⟩
  refine hK.out _ _ Sb (fun _ => ?_)
  clear hK K
  go_simp
  refine wpAnyH_take (i := 15) (v := .bool false) rfl (by kernel_rfl) (by kernel_rfl) (by kernel_rfl) (fun _ _ _ h => h) (Or.inl ⟨by rfl, fun w hS => by have hS' : w.cell? ⟨r, 0, none⟩ = some (.slice ma us.length mc) ∧ w.cell? ⟨r, 2, none⟩ = some (.int .u64 (ep : Int)) := hS; go_simp⟩) Sb ?_
  go_simp
  refine wpAnyH_take (i := 16) (v := .bool false) rfl (by kernel_rfl) (by kernel_rfl) (by kernel_rfl) (fun _ _ _ h => h) (Or.inl ⟨by rfl, fun w hS => by have hS' : w.cell? ⟨r, 0, none⟩ = some (.slice ma us.length mc) ∧ w.cell? ⟨r, 2, none⟩ = some (.int .u64 (ep : Int)) := hS; go_simp⟩) Sb ?_
  go_simp
  refine wpAnyH_take (i := 17) (v := .bool false) rfl (by kernel_rfl) (by kernel_rfl) (by kernel_rfl) (fun _ _ _ h => h) (Or.inl ⟨by rfl, fun w hS => by have hS' : w.cell? ⟨r, 0, none⟩ = some (.slice ma us.length mc) ∧ w.cell? ⟨r, 2, none⟩ = some (.int .u64 (ep : Int)) := hS; go_simp⟩) Sb ?_
  go_simp
  refine wpAnyH_take (i := 18) (v := .pointer (some ⟨p, 0, none⟩)) rfl (by kernel_rfl) (by kernel_rfl) (by kernel_rfl) (fun _ _ _ h => h) (Or.inl ⟨by rfl, fun w hS => by have hS' : w.cell? ⟨r, 0, none⟩ = some (.slice ma us.length mc) ∧ w.cell? ⟨r, 2, none⟩ = some (.int .u64 (ep : Int)) := hS; go_simp⟩) Sb ?_
  go_simp
  refine wpAnyH_take (i := 19) (v := .pointer (some ⟨r, 0, none⟩)) rfl (by kernel_rfl) (by kernel_rfl) (by kernel_rfl) (fun _ _ _ h => h) (Or.inl ⟨by rfl, fun w hS => by have hS' : w.cell? ⟨r, 0, none⟩ = some (.slice ma us.length mc) ∧ w.cell? ⟨r, 2, none⟩ = some (.int .u64 (ep : Int)) := hS; go_simp⟩) Sb ?_
  go_simp
  refine wpAnyH_take (i := 20) (v := .pointer (some ⟨r, 0, none⟩)) rfl (by kernel_rfl) (by kernel_rfl) (by kernel_rfl) (fun _ _ _ h => h) (Or.inl ⟨by rfl, fun w hS => by have hS' : w.cell? ⟨r, 0, none⟩ = some (.slice ma us.length mc) ∧ w.cell? ⟨r, 2, none⟩ = some (.int .u64 (ep : Int)) := hS; go_simp⟩) Sb ?_
  go_simp
  refine wpAnyH_take (i := 21) (v := .pointer (some ⟨r, 2, none⟩)) rfl (by kernel_rfl) (by kernel_rfl) (by kernel_rfl) (fun _ _ _ h => h) (Or.inl ⟨by rfl, fun w hS => by have hS' : w.cell? ⟨r, 0, none⟩ = some (.slice ma us.length mc) ∧ w.cell? ⟨r, 2, none⟩ = some (.int .u64 (ep : Int)) := hS; go_simp⟩) Sb ?_
  go_simp
  refine wpAnyH_take (i := 22) (v := .int .u64 (ep : Int)) rfl (by kernel_rfl) (by kernel_rfl) (by kernel_rfl) (fun _ _ _ h => h) (Or.inl ⟨by rfl, fun w hS => by have hS' : w.cell? ⟨r, 0, none⟩ = some (.slice ma us.length mc) ∧ w.cell? ⟨r, 2, none⟩ = some (.int .u64 (ep : Int)) := hS; obtain ⟨hS1', hS2'⟩ := hS'; go_simp⟩) Sb ?_
  go_simp
  refine wpAnyH_take (i := 23) (v := .int .u64 ((ep : Int) + 1)) rfl (by kernel_rfl) (by kernel_rfl) (by kernel_rfl) (fun _ _ _ h => h) (Or.inl ⟨by rfl, fun w hS => by have hS' : w.cell? ⟨r, 0, none⟩ = some (.slice ma us.length mc) ∧ w.cell? ⟨r, 2, none⟩ = some (.int .u64 (ep : Int)) := hS; go_simp⟩) Sb ?_
  go_simp
  refine wpAnyH_ready (rs := [24]) (by kernel_rfl) (by simp) (AllReadyH.cons rfl (fun K hK => ?_) AllReadyH.nil)
  go_simp
  refine (sy_reset_over hSb _).mono ?_
  rintro e wd ⟨rfl, rfl⟩
  refine hK.out _ _ Sb (fun _ => ?_)
  clear hK K
  go_simp
  refine wpAnyH_take (i := 25) (v := .bool false) rfl (by kernel_rfl) (by kernel_rfl) (by kernel_rfl) (fun _ _ _ h => h) (Or.inl ⟨by rfl, fun w hS => by have hS' : w.cell? ⟨r, 0, none⟩ = some (.slice ma us.length mc) ∧ w.cell? ⟨r, 2, none⟩ = some (.int .u64 (ep : Int)) := hS; go_simp⟩) Sb ?_
  go_simp
  refine wpAnyH_take (i := 26) (v := .bool false) rfl (by kernel_rfl) (by kernel_rfl) (by kernel_rfl) (fun _ _ _ h => h) (Or.inl ⟨by rfl, fun w hS => by have hS' : w.cell? ⟨r, 0, none⟩ = some (.slice ma us.length mc) ∧ w.cell? ⟨r, 2, none⟩ = some (.int .u64 (ep : Int)) := hS; go_simp⟩) Sb ?_
  go_simp
  refine wpAnyH_take (i := 27) (v := .bool false) rfl (by kernel_rfl) (by kernel_rfl) (by kernel_rfl) (fun _ _ _ h => h) (Or.inl ⟨by rfl, fun w hS => by have hS' : w.cell? ⟨r, 0, none⟩ = some (.slice ma us.length mc) ∧ w.cell? ⟨r, 2, none⟩ = some (.int .u64 (ep : Int)) := hS; go_simp⟩) Sb ?_
  go_simp
  refine wpAnyH_done (by kernel_rfl) ?_ _
  have hP4 := hPd.kept kb
  clear hPd hSd hSb S0 Sa Sb hU2 hsm ka kb hrlt hwe
  go_wp2_with fail
  refine (sy_restart hP4.sy).mono ?_
  rintro e w5 ⟨rfl, hS5, k5⟩
  have hP5 := hP4.keptX hS5 k5
  clear hP4 hS5 k5
  have hop := sy_open (hP5.sy.kept (Kept.refl [] w5).drew) ep us hP5.sy.ar rfl (fun y hy => hP5.lt y hy)
  obtain ⟨ma, mc, m0, -, m1, m2⟩ := hP5.m.cells
  have SS : w5.drew.cell? ⟨r, 1, none⟩ = some (.int .i64 (ct : Int)) ∧ w5.drew.cell? ⟨r, 2, none⟩ = some (.int .u64 (ep : Int)) := ⟨m1, m2⟩
  have hrlt : r < w5.heap.size := World.block_lt_of_cell? _ _ m1
  clear m0
  go_wp2_with fail
  go_region_held3 (fun w' => w'.cell? ⟨r, 1, none⟩ = some (.int .i64 (ct : Int)) ∧ w'.cell? ⟨r, 2, none⟩ = some (.int .u64 (ep : Int))) (first | exact SS | exact S1) (first | (go_at_call 10; refine hop.mono ?_; rintro e w6 ⟨p6, rfl, hS6, k6⟩; have S1 : w6.cell? ⟨r, 1, none⟩ = some (.int .i64 (ct : Int)) ∧ w6.cell? ⟨r, 2, none⟩ = some (.int .u64 (ep : Int)) := ⟨by rw [k6.cell hrlt (by simp)]; exact SS.1, by rw [k6.cell hrlt (by simp)]; exact SS.2⟩))
  have k56 : Kept [] w5 w6 := ((Kept.refl [] w5).drew).trans k6 (by simp)
  have hP6 : Pl w w6 q p6 r ({ { sj { s with fuse := (f : Int) } fr ep (tot us) l f with down := true } with down := false, fuse := -1 }) fr ct ep us false M Y := hP5.keptX hS6 (KX.of k56)
  clear SS S1 hop k6 hS6 m1 m2 hP5
  obtain ⟨mb, md, m0, -, m1, m2⟩ := hP6.m.cells
  have hrlt6 : r < w6.drew.heap.size := World.block_lt_of_cell? _ _ m1
  have Q0 : w6.drew.cell? ⟨r, 0, none⟩ = some (.slice mb us.length md) := m0
  have hP6d := hP6.kept (Kept.refl [] w6).drew
  have hun6 := sy_units hP6d.sy
  have hlw : IntKind.i64.wrap ((us.length : Int) + 1) = (us.length : Int) + 1 := by rw [IntKind.wrap_i64]; have := hlen.1; omega
  have hln : ((us.length : Int) == (us.length : Int) + 1) = false := by simp; omega
  have hCf : Calm ({ { sj { s with fuse := (f : Int) } fr ep (tot us) l f with down := true } with down := false, fuse := -1 }) (m + 18) := ⟨rfl, rfl, by
    show (s.ws ++ uws fr ep (tot us) l f).length ≤ m + 18
    rw [List.length_append, uws_length]
    have := hC.2.2
    omega⟩
  clear hP6 k56 m0 m1 m2
  go_wp2_with fail
  refine wp_region_held_drew (S := fun w' => w'.cell? ⟨r, 0, none⟩ = some (.slice mb us.length md)) (by kernel_rfl) Q0 (fun _ => ?_)
  refine wpAnyH_take (i := 0) (v := .int .i64 9) rfl (by kernel_rfl) (by kernel_rfl) (by kernel_rfl) (fun _ _ _ h => h) (Or.inl ⟨by rfl, fun w hS => by have hS' : w.cell? ⟨r, 0, none⟩ = some (.slice mb us.length md) := hS; go_simp⟩) Q0 ?_
  go_simp
  refine wpAnyH_take (i := 1) (v := .bool false) rfl (by kernel_rfl) (by kernel_rfl) (by kernel_rfl) (fun _ _ _ h => h) (Or.inl ⟨by rfl, fun w hS => by have hS' : w.cell? ⟨r, 0, none⟩ = some (.slice mb us.length md) := hS; go_simp⟩) Q0 ?_
  go_simp
  refine wpAnyH_take (i := 2) (v := .bool false) rfl (by kernel_rfl) (by kernel_rfl) (by kernel_rfl) (fun _ _ _ h => h) (Or.inl ⟨by rfl, fun w hS => by have hS' : w.cell? ⟨r, 0, none⟩ = some (.slice mb us.length md) := hS; go_simp⟩) Q0 ?_
  go_simp
  refine wpAnyH_take (i := 3) (v := .int .i64 9) rfl (by kernel_rfl) (by kernel_rfl) (by kernel_rfl) (fun _ _ _ h => h) (Or.inl ⟨by rfl, fun w hS => by have hS' : w.cell? ⟨r, 0, none⟩ = some (.slice mb us.length md) := hS; go_simp⟩) Q0 ?_
  go_simp
  refine wpAnyH_take (i := 4) (v := .bool true) rfl (by kernel_rfl) (by kernel_rfl) (by kernel_rfl) (fun _ _ _ h => h) (Or.inl ⟨by rfl, fun w hS => by have hS' : w.cell? ⟨r, 0, none⟩ = some (.slice mb us.length md) := hS; go_simp⟩) Q0 ?_
  go_simp
  refine wpAnyH_take (i := 5) (v := .bool true) rfl (by kernel_rfl) (by kernel_rfl) (by kernel_rfl) (fun _ _ _ h => h) (Or.inl ⟨by rfl, fun w hS => by have hS' : w.cell? ⟨r, 0, none⟩ = some (.slice mb us.length md) := hS; go_simp⟩) Q0 ?_
  go_simp
  refine wpAnyH_take (i := 6) (v := .pointer (some ⟨p6, 0, none⟩)) rfl (by kernel_rfl) (by kernel_rfl) (by kernel_rfl) (fun _ _ _ h => h) (Or.inl ⟨by rfl, fun w hS => by have hS' : w.cell? ⟨r, 0, none⟩ = some (.slice mb us.length md) := hS; go_simp⟩) Q0 ?_
  go_simp
  refine wpAnyH_take (i := 9) (v := .pointer (some ⟨r, 0, none⟩)) rfl (by kernel_rfl) (by kernel_rfl) (by kernel_rfl) (fun _ _ _ h => h) (Or.inl ⟨by rfl, fun w hS => by have hS' : w.cell? ⟨r, 0, none⟩ = some (.slice mb us.length md) := hS; go_simp⟩) Q0 ?_
  go_simp
  refine wpAnyH_take (i := 10) (v := .pointer (some ⟨r, 0, none⟩)) rfl (by kernel_rfl) (by kernel_rfl) (by kernel_rfl) (fun _ _ _ h => h) (Or.inl ⟨by rfl, fun w hS => by have hS' : w.cell? ⟨r, 0, none⟩ = some (.slice mb us.length md) := hS; go_simp⟩) Q0 ?_
  go_simp
  refine wpAnyH_take (i := 11) (v := .pointer (some ⟨r, 0, none⟩)) rfl (by kernel_rfl) (by kernel_rfl) (by kernel_rfl) (fun _ _ _ h => h) (Or.inl ⟨by rfl, fun w hS => by have hS' : w.cell? ⟨r, 0, none⟩ = some (.slice mb us.length md) := hS; go_simp⟩) Q0 ?_
  go_simp
  refine wpAnyH_take (i := 12) (v := .slice mb us.length md) rfl (by kernel_rfl) (by kernel_rfl) (by kernel_rfl) (fun _ _ _ h => h) (Or.inl ⟨by rfl, fun w hS => by have hS' : w.cell? ⟨r, 0, none⟩ = some (.slice mb us.length md) := hS; go_simp⟩) Q0 ?_
  go_simp
  refine wpAnyH_take (i := 13) (v := .int .i64 (us.length : Int)) rfl (by kernel_rfl) (by kernel_rfl) (by kernel_rfl) (fun _ _ _ h => h) (Or.inl ⟨by rfl, fun w hS => by have hS' : w.cell? ⟨r, 0, none⟩ = some (.slice mb us.length md) := hS; go_simp⟩) Q0 ?_
  go_simp
  refine wpAnyH_take (i := 14) (v := .int .i64 ((us.length : Int) + 1)) rfl (by kernel_rfl) (by kernel_rfl) (by kernel_rfl) (fun _ _ _ h => h) (Or.inl ⟨by rfl, fun w hS => by have hS' : w.cell? ⟨r, 0, none⟩ = some (.slice mb us.length md) := hS; go_simp⟩) Q0 ?_
  go_simp
  refine wpAnyH_ready (rs := [7]) (by kernel_rfl) (by simp) (AllReadyH.cons rfl (fun K hK => ?_) AllReadyH.nil)
  go_simp
  refine (hun6).mono ?_
  rintro e w7 ⟨g7, rfl, -, k7⟩
  have Q1 : w7.cell? ⟨r, 0, none⟩ = some (.slice mb us.length md) := by rw [k7.cell hrlt6 (by simp)]; exact Q0
  refine hK.out _ _ Q1 (fun _ => ?_)
  clear hK K
  go_simp
  refine wpAnyH_take (i := 8) (v := .int .i64 (us.length : Int)) rfl (by kernel_rfl) (by kernel_rfl) (by kernel_rfl) (fun _ _ _ h => h) (Or.inl ⟨by rfl, fun w hS => by have hS' : w.cell? ⟨r, 0, none⟩ = some (.slice mb us.length md) := hS; go_simp⟩) Q1 ?_
  go_simp
  refine wpAnyH_take (i := 15) (v := .bool false) rfl (by kernel_rfl) (by kernel_rfl) (by kernel_rfl) (fun _ _ _ h => h) (Or.inl ⟨by rfl, fun w hS => by have hS' : w.cell? ⟨r, 0, none⟩ = some (.slice mb us.length md) := hS; go_simp⟩) Q1 ?_
  go_simp
  refine wpAnyH_take (i := 16) (v := .bool false) rfl (by kernel_rfl) (by kernel_rfl) (by kernel_rfl) (fun _ _ _ h => h) (Or.inl ⟨by rfl, fun w hS => by have hS' : w.cell? ⟨r, 0, none⟩ = some (.slice mb us.length md) := hS; go_simp⟩) Q1 ?_
  go_simp
  refine wpAnyH_take (i := 17) (v := .bool false) rfl (by kernel_rfl) (by kernel_rfl) (by kernel_rfl) (fun _ _ _ h => h) (Or.inl ⟨by rfl, fun w hS => by have hS' : w.cell? ⟨r, 0, none⟩ = some (.slice mb us.length md) := hS; go_simp⟩) Q1 ?_
  go_simp
  refine wpAnyH_done (by kernel_rfl) ?_ _
  have hfin := Hid.mk (fin p6 _ _ us M (hP6d.kept k7).drop hCf)
  clear hP6d k7 Q0 Q1 hun6 fin
  go_wp2
  exact hfin.out
end Go.Proofs.Ytdcjaopmfccgbaa
