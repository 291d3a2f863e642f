/-
  The document's Cut, of more writes than there are.
-/
import Derived.Test.YtmbfojjmnjagiaaRefC
namespace Go.Proofs.Ytmbfojjmnjagiaa
open Go.RowKit
set_option linter.unusedVariables false

set_option maxRecDepth 100000 in
set_option maxHeartbeats 1000000 in
theorem fcut_over {F : List Nat} {p : Nat} {s : St} {w : World} (hD : IsF w F p s) (c : Nat) (hcp : 0 < c) (hc : c ≤ s.ws.length) (hcc : c = s.ws.length) (n : Int) (hn : (c : Int) < n) (hn2 : n < 9223372036854775808) (hb : s.ws.length ≤ 1000) :
    Calls Try.prog 14 #[.pointer (some ⟨p, 0, none⟩), .int .i64 n] w fun e w' => ∃ q, e = .returned (.pointer (some ⟨q, 0, none⟩)) ∧ ∃ G, IsF w' G q ⟨s.nb, s.ws.take c, -1, false⟩ ∧ Kept [] w w' ∧ ∀ x ∈ G, w.heap.size ≤ x := by
  have hnb := hD.ok.nb
  have hok := hD.ok
  have k1 : Kept [] w (w.alloc (.cells #[.int .i64 (s.nb : Int), .slice none 0 0, .int .i64 (-1), .bool false] 52)) := (Kept.refl [] w).alloc _
  have hD1 := hD.kept k1 (by simp)
  obtain ⟨a, cap, cd, hcap, hm, hrow⟩ := hD1.own
  obtain ⟨gd, rfl, hcells⟩ := hrow (by omega)
  have hm' : cap ≤ 9223372036854775807 := hm
  have hsl := slice50 ⟨gd, 0, none⟩ s.ws.length cap c (by omega) (by omega) rfl
  obtain ⟨i0, hi0, hz0, hz1, hz2⟩ := info_parts inf59
  have hnews : ∀ j u, (refC (s.ws.take c))[j]? = some u → (w.alloc (.cells #[.int .i64 (s.nb : Int), .slice none 0 0, .int .i64 (-1), .bool false] 52)).drew.cell? ((⟨gd, 0, none⟩ : Addr).add j) = some u := by
    intro j u hu
    rw [← refC_take, List.getElem?_take] at hu
    split at hu
    · rw [add_at, Nat.zero_add]; exact hcells j u hu
    · cases hu
  have hlen : (refC (s.ws.take c)).length = c * 2 := by rw [refC_length, List.length_take]; omega
  have hone := refC_one (s.ws.take c)
  have HFin : Hid (∀ w3 g2 cap2, _ → _ → _ → _) := fun w3 g2 cap2 h1 h2 h3 => fin_c (w := w) (w3 := w3) (g2 := g2) (cap2 := cap2) hok h1 hc h2 h3
  have hc0 : w.cell? ⟨p, 0, none⟩ = some (.int .i64 (s.nb : Int)) := by
    obtain ⟨vd, hF, hbox, _⟩ := hD
    exact (cells4 hbox).1
  have hcr : (w.alloc (.cells #[.int .i64 (s.nb : Int), .slice none 0 0, .int .i64 (-1), .bool false] 52)).cell? ⟨w.heap.size, 1, none⟩ = some (.slice none 0 0) := (cells4 (heap_alloc_new w _)).2.1
  have hnew := fnew_raw s.nb hnb w
  have hpl := World.block_lt_of_cell? w _ hc0
  generalize refC (s.ws.take c) = R at hnews hlen hone HFin
  generalize s.ws.take c = T at HFin
  generalize hLL : s.ws.length = L at *
  subst hcc
  clear hD hD1 hcells hrow hLL
  go_enter Try.func14, Try.ntmps14
  go_wp2_with (go_at_call 10; refine hnew.mono ?_; rintro e w' ⟨rfl, rfl⟩)
  have n1 : (n < 0) = False := eq_false (by omega)
  have n2 : ((c : Int) < n) = True := eq_true hn
  have S0 : (w.alloc (.cells #[.int .i64 (s.nb : Int), .slice none 0 0, .int .i64 (-1), .bool false] 52)).drew.cell? ⟨p, 1, none⟩ = some (.slice (some ⟨gd, 0, none⟩) c cap) := cd
  refine wp_region_held_drew (S := fun w' => w'.cell? ⟨p, 1, none⟩ = some (.slice (some ⟨gd, 0, none⟩) c cap)) (by kernel_rfl) S0 (fun _ => ?_)
  refine wpAnyH_take (i := 0) (v := .pointer (some ⟨w.heap.size, 0, none⟩)) rfl (by kernel_rfl) (by kernel_rfl) (by kernel_rfl) (fun _ _ _ h => h) (Or.inl ⟨by rfl, fun w hS => by have hS' : w.cell? ⟨p, 1, none⟩ = some (.slice (some ⟨gd, 0, none⟩) c cap) := hS; go_simp⟩) S0 ?_
  refine wpAnyH_take (i := 1) (v := .pointer (some ⟨w.heap.size, 0, none⟩)) rfl (by kernel_rfl) (by kernel_rfl) (by kernel_rfl) (fun _ _ _ h => h) (Or.inl ⟨by rfl, fun w hS => by have hS' : w.cell? ⟨p, 1, none⟩ = some (.slice (some ⟨gd, 0, none⟩) c cap) := hS; go_simp⟩) S0 ?_
  refine wpAnyH_take (i := 2) (v := .pointer (some ⟨w.heap.size, 0, none⟩)) rfl (by kernel_rfl) (by kernel_rfl) (by kernel_rfl) (fun _ _ _ h => h) (Or.inl ⟨by rfl, fun w hS => by have hS' : w.cell? ⟨p, 1, none⟩ = some (.slice (some ⟨gd, 0, none⟩) c cap) := hS; go_simp⟩) S0 ?_
  refine wpAnyH_take (i := 3) (v := .pointer (some ⟨w.heap.size, 1, none⟩)) rfl (by kernel_rfl) (by kernel_rfl) (by kernel_rfl) (fun _ _ _ h => h) (Or.inl ⟨by rfl, fun w hS => by have hS' : w.cell? ⟨p, 1, none⟩ = some (.slice (some ⟨gd, 0, none⟩) c cap) := hS; go_simp⟩) S0 ?_
  refine wpAnyH_take (i := 5) (v := .pointer (some ⟨p, 0, none⟩)) rfl (by kernel_rfl) (by kernel_rfl) (by kernel_rfl) (fun _ _ _ h => h) (Or.inl ⟨by rfl, fun w hS => by have hS' : w.cell? ⟨p, 1, none⟩ = some (.slice (some ⟨gd, 0, none⟩) c cap) := hS; go_simp⟩) S0 ?_
  refine wpAnyH_take (i := 6) (v := .pointer (some ⟨p, 0, none⟩)) rfl (by kernel_rfl) (by kernel_rfl) (by kernel_rfl) (fun _ _ _ h => h) (Or.inl ⟨by rfl, fun w hS => by have hS' : w.cell? ⟨p, 1, none⟩ = some (.slice (some ⟨gd, 0, none⟩) c cap) := hS; go_simp⟩) S0 ?_
  refine wpAnyH_take (i := 7) (v := .pointer (some ⟨p, 1, none⟩)) rfl (by kernel_rfl) (by kernel_rfl) (by kernel_rfl) (fun _ _ _ h => h) (Or.inl ⟨by rfl, fun w hS => by have hS' : w.cell? ⟨p, 1, none⟩ = some (.slice (some ⟨gd, 0, none⟩) c cap) := hS; go_simp⟩) S0 ?_
  go_simp
  refine wpAnyH_take (i := 8) (v := .slice (some ⟨gd, 0, none⟩) c cap) rfl (by kernel_rfl) (by kernel_rfl) (by kernel_rfl) (fun _ _ _ h => h) (Or.inl ⟨by rfl, fun w hS => by have hS' : w.cell? ⟨p, 1, none⟩ = some (.slice (some ⟨gd, 0, none⟩) c cap) := hS; go_simp⟩) S0 ?_
  refine wpAnyH_take (i := 9) (v := .int .i64 n) rfl (by kernel_rfl) (by kernel_rfl) (by kernel_rfl) (fun _ _ _ h => h) (Or.inl ⟨by rfl, fun w hS => by have hS' : w.cell? ⟨p, 1, none⟩ = some (.slice (some ⟨gd, 0, none⟩) c cap) := hS; go_simp⟩) S0 ?_
  refine wpAnyH_take (i := 10) (v := .int .i64 n) rfl (by kernel_rfl) (by kernel_rfl) (by kernel_rfl) (fun _ _ _ h => h) (Or.inl ⟨by rfl, fun w hS => by have hS' : w.cell? ⟨p, 1, none⟩ = some (.slice (some ⟨gd, 0, none⟩) c cap) := hS; go_simp⟩) S0 ?_
  refine wpAnyH_take (i := 11) (v := .pointer (some ⟨p, 0, none⟩)) rfl (by kernel_rfl) (by kernel_rfl) (by kernel_rfl) (fun _ _ _ h => h) (Or.inl ⟨by rfl, fun w hS => by have hS' : w.cell? ⟨p, 1, none⟩ = some (.slice (some ⟨gd, 0, none⟩) c cap) := hS; go_simp⟩) S0 ?_
  refine wpAnyH_take (i := 12) (v := .pointer (some ⟨p, 0, none⟩)) rfl (by kernel_rfl) (by kernel_rfl) (by kernel_rfl) (fun _ _ _ h => h) (Or.inl ⟨by rfl, fun w hS => by have hS' : w.cell? ⟨p, 1, none⟩ = some (.slice (some ⟨gd, 0, none⟩) c cap) := hS; go_simp⟩) S0 ?_
  refine wpAnyH_take (i := 13) (v := .pointer (some ⟨p, 1, none⟩)) rfl (by kernel_rfl) (by kernel_rfl) (by kernel_rfl) (fun _ _ _ h => h) (Or.inl ⟨by rfl, fun w hS => by have hS' : w.cell? ⟨p, 1, none⟩ = some (.slice (some ⟨gd, 0, none⟩) c cap) := hS; go_simp⟩) S0 ?_
  refine wpAnyH_take (i := 14) (v := .slice (some ⟨gd, 0, none⟩) c cap) rfl (by kernel_rfl) (by kernel_rfl) (by kernel_rfl) (fun _ _ _ h => h) (Or.inl ⟨by rfl, fun w hS => by have hS' : w.cell? ⟨p, 1, none⟩ = some (.slice (some ⟨gd, 0, none⟩) c cap) := hS; go_simp⟩) S0 ?_
  go_simp
  refine wpAnyH_take (i := 15) (v := .int .i64 (c : Int)) rfl (by kernel_rfl) (by kernel_rfl) (by kernel_rfl) (fun _ _ _ h => h) (Or.inl ⟨by rfl, fun w hS => by have hS' : w.cell? ⟨p, 1, none⟩ = some (.slice (some ⟨gd, 0, none⟩) c cap) := hS; go_simp⟩) S0 ?_
  refine wpAnyH_take (i := 16) (v := .int .i64 (c : Int)) rfl (by kernel_rfl) (by kernel_rfl) (by kernel_rfl) (fun _ _ _ h => h) (Or.inl ⟨by rfl, fun w hS => by have hS' : w.cell? ⟨p, 1, none⟩ = some (.slice (some ⟨gd, 0, none⟩) c cap) := hS; go_simp⟩) S0 ?_
  refine wpAnyH_take (i := 17) (v := .slice (some ⟨gd, 0, none⟩) c cap) rfl (by kernel_rfl) (by kernel_rfl) (by kernel_rfl) (fun _ _ _ h => h) (Or.inl ⟨by rfl, fun w hS => by have hS' : w.cell? ⟨p, 1, none⟩ = some (.slice (some ⟨gd, 0, none⟩) c cap) := hS; go_simp⟩) S0 ?_
  go_simp
  refine wpAnyH_ready (rs := [4]) (by kernel_rfl) (by simp) (AllReadyH.cons rfl (fun K hK => ?_) AllReadyH.nil)
  refine step_load (by kernel_rfl) 50 (.tmp 14) (by kernel_rfl) (.pointer (some ⟨w.heap.size, 1, none⟩)) (by kernel_rfl) (load50 _ _ _ hcr) (hK.out _ _ S0 (fun _ => ?_))
  clear hK K
  go_simp
  refine wpAnyH_ready (rs := [18]) (by kernel_rfl) (by simp) (AllReadyH.cons rfl (fun K hK => ?_) AllReadyH.nil)
  refine step_append_lies _ (by rfl) (.tmp 15) (.tmp 28) 50 (by rfl) 0 59 i0 _ 2 24 Try.underlying50 hi0 hz0 hz1 hz2 rfl (by omega) (.slice none 0 0) 0 [] (by rfl) (World.ownsRow_nil _ 0 59 2) ⟨gd, 0, none⟩ c cap R (by rfl) hlen hnews hone (by omega) (by unfold maxLen; omega) (by omega) (by omega) (w.heap.size + 1) (by simp) ?_
  intro g2 cap2 w3 hown3 hgrow3 hat3 hlt3
  obtain ⟨⟨hc3, hf3⟩, hfin⟩ := HFin.out w3 g2 cap2 hown3 hgrow3 hat3
  simp only [Nat.zero_add] at hfin
  have S3 : w3.cell? ⟨p, 1, none⟩ = some (.slice (some ⟨gd, 0, none⟩) c cap) := hgrow3.cell S0 (by simp [Value.ownBlock])
  have S4 : ∀ u, (w3.setCell ⟨w.heap.size, 1, none⟩ u).cell? ⟨p, 1, none⟩ = some (.slice (some ⟨gd, 0, none⟩) c cap) := fun u => (World.cell?_setCell_far w3 ⟨w.heap.size, 1, none⟩ ⟨p, 1, none⟩ u (by show w.heap.size ≠ p; omega)).trans S3
  refine hK.out _ _ S3 (fun _ => ?_)
  clear hK K hown3 hgrow3 hat3 hlt3 HFin hnews
  go_simp
  refine wpAnyH_take (i := 19) (v := .pointer (some ⟨w.heap.size, 0, none⟩)) rfl (by kernel_rfl) (by kernel_rfl) (by kernel_rfl) (fun _ _ _ h => h) (Or.inl ⟨by rfl, fun w hS => by go_simp⟩) S3 ?_
  refine wpAnyH_take (i := 20) (v := .pointer (some ⟨w.heap.size, 1, none⟩)) rfl (by kernel_rfl) (by kernel_rfl) (by kernel_rfl) (fun _ _ _ h => h) (Or.inl ⟨by rfl, fun w hS => by go_simp⟩) S3 ?_
  go_simp
  refine wpAnyH_ready (rs := [21]) (by kernel_rfl) (by simp) (AllReadyH.cons rfl (fun K hK => ?_) AllReadyH.nil)
  refine step_store (by kernel_rfl) 50 (.tmp 31) (.tmp 29) (by kernel_rfl) (.pointer (some ⟨w.heap.size, 1, none⟩)) (.slice (some ⟨g2, 0, none⟩) c cap2) (by kernel_rfl) (by kernel_rfl) (store50 _ _ _ _ _ _ hc3 hf3) (hK.out _ _ (S4 _) (fun _ => ?_))
  clear hK K
  go_simp
  refine wpAnyH_done (by kernel_rfl) ?_ _
  go_wp2
  go_ret
  exact ⟨_, rfl, hfin⟩


end Go.Proofs.Ytmbfojjmnjagiaa
