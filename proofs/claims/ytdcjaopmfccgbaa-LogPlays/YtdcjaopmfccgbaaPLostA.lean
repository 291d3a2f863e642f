/-
  lost: an Append with a fuse that does not end in it, and the Log opened anew.
-/
import Derived.Test.YtdcjaopmfccgbaaPLost
import Derived.BigQuiet
namespace Go.Proofs.Ytdcjaopmfccgbaa
open Go.RowKit
set_option linter.unusedVariables false

set_option maxRecDepth 100000 in
set_option maxHeartbeats 2000000 in
theorem lost_ok {w wr : World} {q p r : Nat} {s : St} {fr ct ep m : Nat} {us : List (List UInt8)} {M Y : List Nat} (hP : Pl w wr q p r s fr ct ep us false M Y) (hC : Calm s m) (hm : m ≤ 20000) (kd n : Int) (vb : Value) (hvb : ∃ a k c, vb = .slice a k c) (f : Nat) (hf : f < 7) (hfn : (IntKind.u64.wrap n).tmod 7 = (f : Int)) (a1 : Option Addr) (nb c1 : Nat) (l : List UInt8) (hr : Reads wr (.slice a1 nb c1) l) (hl : l.length = nb) (hX : ∀ g, (Value.slice a1 nb c1).ownBlock = some g → g ∈ Y) (hnb : nb ≤ 4000) (hep : ep < 18446744073709551615) (hE : wrongE us ct nb = 0) (hfb : bks nb ≤ f) :
    Calls Try.prog 17 #[.pointer (some ⟨q, 0, none⟩), .pointer (some ⟨p, 0, none⟩), .pointer (some ⟨r, 0, none⟩), .agg #[.int .i64 kd, .int .i64 n, vb], .slice a1 nb c1, .int .i64 (wrongE us ct nb), .int .i64 (fr : Int)] wr fun e w' => Lost w q r fr ct ep m e w' := by
  have fin : ∀ p2 w' s2 us2 M2, Pl w w' q p2 r s2 fr ct ep us2 false M2 [] → Calm s2 (m + 18) → Lost w q r fr ct ep m (.returned (.pointer (some ⟨p2, 0, none⟩))) w' := fun p2 w' s2 us2 M2 h1 h2 => ⟨p2, rfl, s2, us2, M2, h1, h2⟩
  generalize Lost w q r fr ct ep m = R at fin
  have hlen := hP.sy.len
  obtain ⟨vba, vbk, vbc, rfl⟩ := hvb
  have k0 := (Kept.refl [] wr).alloc (.cells #[.int .i64 kd, .int .i64 n, .slice vba vbk vbc] 37)
  have hP0 := hP.kept k0
  have hr0 := hr.kept k0 (by simp)
  have hb0 : Boxed3 (wr.alloc (.cells #[.int .i64 kd, .int .i64 n, .slice vba vbk vbc] 37)) wr.heap.size (.int .i64 kd) (.int .i64 n) (.slice vba vbk vbc) := heap_alloc_new wr _
  obtain ⟨d0, d1, d2⟩ := hb0.cells
  have hub := fun W => ub_any nb (by omega) W
  have hE3 : ¬ (f : Int) < (bks nb : Int) := by omega
  have hct18 : bks nb ≤ 18 := by unfold bks; omega
  go_enter Try.func17, Try.ntmps17
  go_wp2_with fail
  generalize wr.alloc (.cells #[.int .i64 kd, .int .i64 n, .slice vba vbk vbc] 37) = w1 at k0 hP0 hr0 hb0 d0 d1 d2
  generalize wr.heap.size = bo at hb0 d0 d1 d2
  refine (sy_fuse hP0.sy f (by omega)).mono ?_
  rintro e w2 ⟨rfl, hS2, k2⟩
  have hP2 := hP0.keptX hS2 k2
  have hr2 := hr0.keptX k2 (fun g hg => by simp [hX g hg])
  clear hS2 hP0 hr0 d0 d1 d2 hb0 k0 k2 hP hr
  have hap := sy_append_fuse hP2.sy a1 nb c1 l hr2 hl (fun g hg => by simp [hX g hg]) (fun y hy => hP2.lt y hy) (by omega) hE hC.1 f rfl (Nat.le_trans hC.2.2 (by omega))
  go_wp2_with fail
  refine hap.mono ?_
  rintro e w3 (⟨-, rfl, hS3, k3⟩ | ⟨hfl, -⟩)
  case inr => omega
  have hm3 : IsM w3 M r us ct ep := by
    obtain ⟨S, k, hSx⟩ := k3
    exact hP2.m.kept k (fun x hx => hSx x (by simp [hx]))
  have hr3 := hr2.keptX k3 (fun g hg => by simp [hX g hg])
  have hsz3 := k3.size
  have hM0 := hP2.m0
  have hY3 : ∀ x ∈ Y, x < w3.heap.size ∧ x ∉ M := fun x hx => ⟨Nat.lt_of_lt_of_le (hP2.y x hx).1 hsz3, (hP2.y x hx).2⟩
  have hub3 := hub w3
  clear hap hP2 hr2 k3 hub
  go_wp2_with fail
  refine hub3.mono ?_
  rintro e w3' ⟨rfl, rfl⟩
  clear hub3
  go_wp2_with fail
  go_quiet (fail)
  have k34 : Kept [] w3 (w3.drewN nq) := (Kept.refl [] w3).drewN nq
  have hS4 := hS3.kept k34
  have hm4 := hm3.kept k34 (by simp)
  have hr4 := hr3.kept k34 (by simp)
  have hs4 := k34.size
  generalize w3.drewN nq = w4 at hS4 hm4 hr4 hs4
  clear hS3 hm3 hr3 k34
  go_wp2_with fail
  refine (sy_restart hS4).mono ?_
  rintro e w5 ⟨rfl, hS5, k5⟩
  have hm5 : IsM w5 M r us ct ep := by
    obtain ⟨S, k, hSx⟩ := k5
    exact hm4.kept k (fun x hx => hSx x (by simp [hx]))
  have hr5 := hr4.keptX k5 (fun g hg => by simp [hX g hg])
  have hlt5 : ∀ y ∈ Y ++ M, y < w5.heap.size := fun y hy => by
    rcases List.mem_append.1 hy with h | h
    · have := (hY3 y h).1; have := k5.size; omega
    · exact hm5.lt y h
  clear hS4 hm4 hr4 k5
  have hop := sy_open (hS5.kept (Kept.refl [] w5).drew) ep (us ++ [l]) hS5.ar rfl (fun y hy => hlt5 y hy)
  obtain ⟨ma, mc, m0, -, m1, m2⟩ := hm5.cells
  have SS : w5.drew.cell? ⟨r, 1, none⟩ = some (.int .i64 (ct : Int)) ∧ w5.drew.cell? ⟨r, 2, none⟩ = some (.int .u64 (ep : Int)) := ⟨m1, m2⟩
  have hrlt : r < w5.heap.size := World.block_lt_of_cell? _ _ m1
  clear m0
  go_wp2_with fail
  go_region_held3 (fun w' => w'.cell? ⟨r, 1, none⟩ = some (.int .i64 (ct : Int)) ∧ w'.cell? ⟨r, 2, none⟩ = some (.int .u64 (ep : Int))) (first | exact SS | exact S1) (first | (go_at_call 10; refine hop.mono ?_; rintro e w6 ⟨p6, rfl, hS6, k6⟩; have S1 : w6.cell? ⟨r, 1, none⟩ = some (.int .i64 (ct : Int)) ∧ w6.cell? ⟨r, 2, none⟩ = some (.int .u64 (ep : Int)) := ⟨by rw [k6.cell hrlt (by simp)]; exact SS.1, by rw [k6.cell hrlt (by simp)]; exact SS.2⟩))
  have k56 : Kept [] w5 w6 := ((Kept.refl [] w5).drew).trans k6 (by simp)
  have hm6 := hm5.kept k56 (by simp)
  have hr6 := hr5.kept k56 (by simp)
  have hs6 := k56.size
  clear SS S1 hop k6 m1 m2 hS5 hm5 hr5 k56
  have hbn : ∀ g, (Value.slice a1 nb c1).ownBlock = some g → g ∉ M := fun g hg => (hY3 g (hX g hg)).2
  go_wp2_with fail
  go_quiet (fail)
  have k67 : Kept [] w6 (w6.drewN nq) := (Kept.refl [] w6).drewN nq
  have hS7 := hS6.kept k67
  have hm7 := hm6.kept k67 (by simp)
  have hr7 := hr6.kept k67 (by simp)
  generalize w6.drewN nq = w7 at hS7 hm7 hr7
  clear hS6 hm6 hr6 k67
  have k78 : Kept [] w7 w7.drew := (Kept.refl [] w7).drew
  have hS8 := hS7.kept k78
  have hr8 := hr7.kept k78 (by simp)
  obtain ⟨am, cm, ad, cd, w9, hc0, hc1, hrun, k9, hc2, hf2, M', hm9, k9', hM'⟩ := (hm7.kept k78 (by simp)).text l hlen.1
  have T0 := str35 _ _ w7.drew hr8
  have T1 := str35 _ _ (w7.drew.alloc (.cells #[.string ⟨l.toArray⟩] 9)) (hr8.kept ((Kept.refl [] w7.drew).alloc _) (by simp))
  have T2 := str35 _ _ w9 (hr8.kept k9 hbn)
  have T3 := str35 _ _ _ (hr8.kept k9' hbn)
  have hPf : Hid (Pl w (w9.setCell ⟨r, 0, none⟩ (.slice ad (us.length + 1) cd)) q p6 r { sj { s with fuse := (f : Int) } fr ep (tot us) l (bks nb) with down := false, fuse := -1 } fr ct ep (us ++ [l]) false M' []) := by
    refine ⟨hS8.turn2 k9' (fun x hx => by simp [hx]) hM0 (fun y hy => ?_), hm9, fun x hx => ?_, by simp⟩
    · rcases hM' y (by simpa using hy) with h | h
      · exact .inl (by simp [h])
      · exact .inr h
    · rcases hM' x hx with h | h
      · exact hM0 x h
      · exact Nat.le_trans hS8.k.size h
  have hCf : Calm { sj { s with fuse := (f : Int) } fr ep (tot us) l (bks nb) with down := false, fuse := -1 } (m + 18) := ⟨rfl, rfl, by
    show (s.ws ++ uws fr ep (tot us) l (bks nb)).length ≤ m + 18
    rw [List.length_append, uws_length]
    have := hC.2.2
    omega⟩
  have hfin := Hid.mk (fin p6 _ _ _ _ hPf.out hCf)
  generalize (⟨l.toArray⟩ : ByteArray) = T at hrun T0 T1 T2 T3 hc1
  clear hPf hCf fin hS7 hS8 hm7 hr7 hr8 hm9 k9 k9' hM' k78 hX hY3 hM0
  go_wp2_with fail
  refine wp_region_held_drew (S := fun w' => (convert 35 9 (.slice a1 nb c1)).run Try.prog w' = .ok (.string T) w') (by kernel_rfl) T0 (fun _ => ?_)
  refine wpAnyH_take (i := 0) (v := .pointer (some ⟨r, 0, none⟩)) rfl (by kernel_rfl) (by kernel_rfl) (by kernel_rfl) (fun _ _ _ h => h) (Or.inl ⟨by rfl, fun w hS => by have hS' : (convert 35 9 (.slice a1 nb c1)).run Try.prog w = .ok (.string T) w := hS; go_simp⟩) T0 ?_
  go_simp
  refine wpAnyH_take (i := 1) (v := .pointer (some ⟨r, 0, none⟩)) rfl (by kernel_rfl) (by kernel_rfl) (by kernel_rfl) (fun _ _ _ h => h) (Or.inl ⟨by rfl, fun w hS => by have hS' : (convert 35 9 (.slice a1 nb c1)).run Try.prog w = .ok (.string T) w := hS; go_simp⟩) T0 ?_
  go_simp
  refine wpAnyH_take (i := 2) (v := .pointer (some ⟨r, 0, none⟩)) rfl (by kernel_rfl) (by kernel_rfl) (by kernel_rfl) (fun _ _ _ h => h) (Or.inl ⟨by rfl, fun w hS => by have hS' : (convert 35 9 (.slice a1 nb c1)).run Try.prog w = .ok (.string T) w := hS; go_simp⟩) T0 ?_
  go_simp
  refine wpAnyH_take (i := 3) (v := .pointer (some ⟨r, 0, none⟩)) rfl (by kernel_rfl) (by kernel_rfl) (by kernel_rfl) (fun _ _ _ h => h) (Or.inl ⟨by rfl, fun w hS => by have hS' : (convert 35 9 (.slice a1 nb c1)).run Try.prog w = .ok (.string T) w := hS; go_simp⟩) T0 ?_
  go_simp
  refine wpAnyH_take (i := 5) (v := .slice a1 nb c1) rfl (by kernel_rfl) (by kernel_rfl) (by kernel_rfl) (fun _ _ _ h => h) (Or.inl ⟨by rfl, fun w hS => by have hS' : (convert 35 9 (.slice a1 nb c1)).run Try.prog w = .ok (.string T) w := hS; go_simp⟩) T0 ?_
  go_simp
  refine wpAnyH_take (i := 6) (v := .string T) rfl (by kernel_rfl) (by kernel_rfl) (by kernel_rfl) (fun _ _ _ h => h) (Or.inl ⟨by rfl, fun w hS => by have hS' : (convert 35 9 (.slice a1 nb c1)).run Try.prog w = .ok (.string T) w := hS; go_simp⟩) T0 ?_
  go_simp
  refine wpAnyH_ready (rs := [4, 7]) (by kernel_rfl) (by simp) (AllReadyH.cons rfl (fun K hK => ?a1) (AllReadyH.cons rfl (fun K hK => ?a2) AllReadyH.nil))
  case' a1 =>
    refine step_load (by kernel_rfl) 28 (.tmp 109) (by kernel_rfl) (.pointer (some ⟨r, 0, none⟩)) (by kernel_rfl) (load28 _ _ _ hc0) (hK.out _ _ T0 (fun _ => ?_))
    clear hK K
    go_simp
    refine wpAnyH_ready (rs := [7]) (by kernel_rfl) (by simp) (AllReadyH.cons rfl (fun K hK => ?_) AllReadyH.nil)
    refine step_buildSlice (by kernel_rfl) 28 1 0 (.tmp 112) (by kernel_rfl) (.string T) (by kernel_rfl) (build28 _ _) (hK.out _ _ T1 (fun _ => ?_))
    clear hK K
    go_simp
  case' a2 =>
    refine step_buildSlice (by kernel_rfl) 28 1 0 (.tmp 112) (by kernel_rfl) (.string T) (by kernel_rfl) (build28 _ _) (hK.out _ _ T1 (fun _ => ?_))
    clear hK K
    go_simp
    refine wpAnyH_ready (rs := [4]) (by kernel_rfl) (by simp) (AllReadyH.cons rfl (fun K hK => ?_) AllReadyH.nil)
    refine step_load (by kernel_rfl) 28 (.tmp 109) (by kernel_rfl) (.pointer (some ⟨r, 0, none⟩)) (by kernel_rfl) (load28 _ _ _ hc1) (hK.out _ _ T1 (fun _ => ?_))
    clear hK K
    go_simp
  all_goals
    refine wpAnyH_ready (rs := [8]) (by kernel_rfl) (by simp) (AllReadyH.cons rfl (fun K hK => ?_) AllReadyH.nil)
    refine step_append_run 28 (.tmp 110) (.tmp 113) (by rfl) (by rfl) _ _ (by rfl) (by rfl) hrun (hK.out _ _ T2 (fun _ => ?_))
    clear hK K
    go_simp
    refine wpAnyH_take (i := 9) (v := .pointer (some ⟨r, 0, none⟩)) rfl (by kernel_rfl) (by kernel_rfl) (by kernel_rfl) (fun _ _ _ h => h) (Or.inl ⟨by rfl, fun w hS => by have hS' : (convert 35 9 (.slice a1 nb c1)).run Try.prog w = .ok (.string T) w := hS; go_simp⟩) T2 ?_
    go_simp
    refine wpAnyH_take (i := 10) (v := .pointer (some ⟨r, 0, none⟩)) rfl (by kernel_rfl) (by kernel_rfl) (by kernel_rfl) (fun _ _ _ h => h) (Or.inl ⟨by rfl, fun w hS => by have hS' : (convert 35 9 (.slice a1 nb c1)).run Try.prog w = .ok (.string T) w := hS; go_simp⟩) T2 ?_
    go_simp
    refine wpAnyH_ready (rs := [11]) (by kernel_rfl) (by simp) (AllReadyH.cons rfl (fun K hK => ?_) AllReadyH.nil)
    refine step_store (by kernel_rfl) 28 (.tmp 116) (.tmp 114) (by kernel_rfl) (.pointer (some ⟨r, 0, none⟩)) (.slice ad (us.length + 1) cd) (by kernel_rfl) (by kernel_rfl) (store28 _ _ _ _ _ _ hc2 hf2) (hK.out _ _ T3 (fun _ => ?_))
    clear hK K
    go_simp
    refine wpAnyH_done (by kernel_rfl) ?_ _
    go_wp2
    exact hfin.out
end Go.Proofs.Ytdcjaopmfccgbaa
