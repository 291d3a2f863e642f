/-
  The document's Cut.
-/
import Derived.Test.YtmbfojjmnjagiaaRefW
namespace Go.Proofs.Ytmbfojjmnjagiaa
open Go.RowKit
set_option linter.unusedVariables false

theorem refC_take : ∀ (ws : List Wr) (c : Nat), (refC ws).take (c * 2) = refC (ws.take c)
  | ws, 0 => by simp [refC]
  | [], c + 1 => by simp [refC]
  | x :: t, c + 1 => by
    have e : refC (x :: t) = rcells x ++ refC t := by simp [refC]
    have e2 : refC ((x :: t).take (c + 1)) = rcells x ++ refC (t.take c) := by simp [refC]
    rw [e, e2, show (c + 1) * 2 = (c * 2 + 1) + 1 by omega]
    show rcells x ++ (refC t).take (c * 2) = _
    rw [refC_take t c]

theorem refC_one (ws : List Wr) : ∀ u ∈ refC ws, u.oneCell' = true := by
  intro u hu
  simp only [refC, List.mem_flatMap] at hu
  obtain ⟨x, _, hx⟩ := hu
  simp [rcells] at hx
  rcases hx with rfl | rfl <;> rfl

/-- Nothing appended to nothing. -/
theorem append_none (w : World) (ty : TypeId) (a : Option Addr) (cap : Nat) : (Builtin.append_ #[50, 50] ty #[.slice none 0 0, .slice a 0 cap]).run Try.prog w = .ok (.slice none 0 0) w := by
  obtain ⟨i0, hi, hz0, hz1, hz2⟩ := info_parts inf59
  cases a <;> simp [Builtin.append_, run_underlying Try.underlying50, sizeOf, typeInfo, hi, Builtin.lenOf, Builtin.firstCells, loadCells, loadCellsFrom]

/-- The row of the document's writes. -/
theorem IsF.own {F : List Nat} {p : Nat} {s : St} {w : World} (hD : IsF w F p s) : ∃ a cap, w.cell? ⟨p, 1, none⟩ = some (.slice a s.ws.length cap) ∧ s.ws.length ≤ cap ∧ cap ≤ maxLen ∧ (0 < s.ws.length → ∃ gd, a = some ⟨gd, 0, none⟩ ∧ ∀ j u, (refC s.ws)[j]? = some u → w.cell? ⟨gd, j, none⟩ = some u) := by
  obtain ⟨vd, hF, hbox, hown, hap, hok⟩ := hD
  have hc := (cells4 hbox).2.1
  rcases hown.2 with ⟨rfl, h0⟩ | ⟨gd, cap, cur, rfl, _, hg, h1, h2, h3, h4⟩
  · exact ⟨none, 0, by rw [h0]; exact hc, by omega, by unfold maxLen; omega, fun h => by omega⟩
  · refine ⟨_, cap, hc, h1, h2, fun _ => ⟨gd, rfl, fun j u hu => ?_⟩⟩
    rw [cell_of_row w gd _ cur 59 (0, 0) hg]
    rw [← h4, List.getElem?_take] at hu
    split at hu
    · simpa using hu
    · cases hu

theorem load50 (w : World) (a : Addr) (v : Value) (hc : w.cell? a = some v) : (Instr.loadAt 50 (.pointer (some a))).run Try.prog w = .ok v w := by go_simp
theorem store50 (w : World) (a : Addr) (u : Value) (ad : Option Addr) (n cap : Nat) (hc : w.cell? a = some u) (hz : w.frozen? a = false) : (Instr.storeAt 50 (.pointer (some a)) (.slice ad n cap)).run Try.prog w = .ok () (w.setCell a (.slice ad n cap)) := by go_simp

/-- New, of a number that fits. -/
theorem fnew_raw (n : Nat) (h : n ≤ 65536) (w : World) : Calls Try.prog 10 #[.int .i64 (n : Int)] w fun e w' => e = .returned (.pointer (some ⟨w.heap.size, 0, none⟩)) ∧ w.alloc (.cells #[.int .i64 (n : Int), .slice none 0 0, .int .i64 (-1), .bool false] 52) = w' := by
  have h3 : (0 : Int) ≤ (n : Int) := by omega
  have h4 : ¬ (65536 : Int) < (n : Int) := by omega
  go_enter Try.func10, Try.ntmps10
  go_wp2
  go_ret
  exact ⟨rfl, rfl⟩

/-- What the append and its store leave of a cut. -/
theorem fin_c {s : St} {w w3 : World} {g2 cap2 c : Nat} (hok : s.ok) (hown3 : w3.ownsRow 0 59 2 (.slice (some ⟨g2, 0, none⟩) (0 + c) cap2) (0 + c) ([] ++ refC (s.ws.take c))) (hc : c ≤ s.ws.length)
    (hgrow3 : (w.alloc (.cells #[.int .i64 (s.nb : Int), .slice none 0 0, .int .i64 (-1), .bool false] 52)).drew.grownBy w3 (Value.slice none 0 0).ownBlock) (hat3 : (Value.slice none 0 0).ownBlock = some g2 ∨ g2 = w.heap.size + 1) :
    (w3.cell? ⟨w.heap.size, 1, none⟩ = some (.slice none 0 0) ∧ w3.frozen? ⟨w.heap.size, 1, none⟩ = false) ∧ ∃ G, IsF (w3.setCell ⟨w.heap.size, 1, none⟩ (.slice (some ⟨g2, 0, none⟩) (0 + c) cap2)) G w.heap.size ⟨s.nb, s.ws.take c, -1, false⟩ ∧ Kept [] w (w3.setCell ⟨w.heap.size, 1, none⟩ (.slice (some ⟨g2, 0, none⟩) (0 + c) cap2)) ∧ ∀ x ∈ G, w.heap.size ≤ x := by
  have hg2 : g2 = w.heap.size + 1 := by
    rcases hat3 with h | h
    · simp [Value.ownBlock] at h
    · exact h
  have hbox : w3.heap[w.heap.size]? = some (.cells #[.int .i64 (s.nb : Int), .slice none 0 0, .int .i64 (-1), .bool false] 52 (0, 0)) := by
    rw [hgrow3.block w.heap.size (by simp) (by simp [Value.ownBlock])]
    exact heap_alloc_new w _
  have k3 : Kept [] w w3 := (((Kept.refl [] w).alloc _).drew).grown hgrow3 (fun k hk => by simp [Value.ownBlock] at hk)
  refine ⟨⟨(cells4 hbox).2.1, free4 hbox 1⟩, _, ⟨.slice (some ⟨g2, 0, none⟩) (0 + c) cap2, rfl, ?_, ?_, ?_, ⟨hok.nb, hok.ws.take c, by show (-1 : Int) ≤ -1; omega, by show (-1 : Int) < _; omega⟩⟩, k3.setCell (.inr (Nat.le_refl _)) _, ?_⟩
  · rw [heap_setCell_same w3 w.heap.size 1 _ 52 _ hbox]; rfl
  · show World.ownsRow _ 0 59 2 _ (s.ws.take c).length (refC (s.ws.take c))
    rw [List.length_take, show min c s.ws.length = 0 + c by omega]
    exact ownsRow_setCell_other hown3 (by simp [Value.ownBlock]; omega) _
  · simp [Value.ownBlock]; omega
  · intro x hx
    simp only [Value.ownBlock, Option.toList_some, List.mem_cons, List.not_mem_nil, or_false] at hx
    rcases hx with rfl | rfl <;> omega

theorem slice50 (a : Addr) (len cap c : Nat) (h : c ≤ cap) (hc : 0 < cap) (hs : a.spot = none) (W : World) : (Instr.slice 50 (.slice (some a) len cap) none (some (.int .i64 (c : Int))) none).run Try.prog W = .ok (.slice (some a) c cap) W := by
  obtain ⟨i0, hi, hz0, hz1, hz2⟩ := info_parts inf59
  have ht' : Try.prog.underlying 50 = some (.slice (Try.prog.elem 50)) := by simp [Program.elem, Try.underlying50]
  have he : Try.prog.elem 50 = 59 := by simp [Program.elem, Try.underlying50]
  have hz : ∀ w, (Go.sizeOf 59).run Try.prog w = .ok 2 w := fun w => by simp [Go.sizeOf, typeInfo, hi, hz1]
  rw [run_slice_h W 50 _ _ _ ht' .i64 _ (by omega) (by omega), he, hz]
  obtain ⟨b, o, sp⟩ := a
  simp at hs
  subst hs
  simp [Result.andThen, sliced, Addr.add]

set_option maxRecDepth 100000 in
set_option maxHeartbeats 1000000 in
theorem fcut_some {F : List Nat} {p : Nat} {s : St} {w : World} (hD : IsF w F p s) (c : Nat) (hc0 : 0 < c) (hc : c ≤ s.ws.length) (hb : s.ws.length ≤ 1000) :
    Calls Try.prog 14 #[.pointer (some ⟨p, 0, none⟩), .int .i64 (c : Int)] w fun e w' => ∃ q, e = .returned (.pointer (some ⟨q, 0, none⟩)) ∧ ∃ G, IsF w' G q ⟨s.nb, s.ws.take c, -1, false⟩ ∧ Kept [] w w' ∧ ∀ x ∈ G, w.heap.size ≤ x := by
  have hnb := hD.ok.nb
  have hok := hD.ok
  have k1 : Kept [] w (w.alloc (.cells #[.int .i64 (s.nb : Int), .slice none 0 0, .int .i64 (-1), .bool false] 52)) := (Kept.refl [] w).alloc _
  have hD1 := hD.kept k1 (by simp)
  obtain ⟨a, cap, cd, hcap, hm, hrow⟩ := hD1.own
  obtain ⟨gd, rfl, hcells⟩ := hrow (by omega)
  have hm' : cap ≤ 9223372036854775807 := hm
  have hsl := slice50 ⟨gd, 0, none⟩ s.ws.length cap c (by omega) (by omega) rfl
  obtain ⟨i0, hi0, hz0, hz1, hz2⟩ := info_parts inf59
  have hnews : ∀ j u, (refC (s.ws.take c))[j]? = some u → (w.alloc (.cells #[.int .i64 (s.nb : Int), .slice none 0 0, .int .i64 (-1), .bool false] 52)).drew.cell? ((⟨gd, 0, none⟩ : Addr).add j) = some u := by
    intro j u hu
    rw [← refC_take, List.getElem?_take] at hu
    split at hu
    · rw [add_at, Nat.zero_add]; exact hcells j u hu
    · cases hu
  have hlen : (refC (s.ws.take c)).length = c * 2 := by rw [refC_length, List.length_take]; omega
  have hone := refC_one (s.ws.take c)
  have HFin : Hid (∀ w3 g2 cap2, _ → _ → _ → _) := fun w3 g2 cap2 h1 h2 h3 => fin_c (w := w) (w3 := w3) (g2 := g2) (cap2 := cap2) hok h1 hc h2 h3
  have hc0 : w.cell? ⟨p, 0, none⟩ = some (.int .i64 (s.nb : Int)) := by
    obtain ⟨vd, hF, hbox, _⟩ := hD
    exact (cells4 hbox).1
  have hcr : (w.alloc (.cells #[.int .i64 (s.nb : Int), .slice none 0 0, .int .i64 (-1), .bool false] 52)).cell? ⟨w.heap.size, 1, none⟩ = some (.slice none 0 0) := (cells4 (heap_alloc_new w _)).2.1
  have hnew := fnew_raw s.nb hnb w
  have hpl := World.block_lt_of_cell? w _ hc0
  generalize refC (s.ws.take c) = R at hnews hlen hone HFin
  generalize s.ws.take c = T at HFin
  generalize hLL : s.ws.length = L at *
  clear hD hD1 hcells hrow hLL
  go_enter Try.func14, Try.ntmps14
  go_wp2_with (go_at_call 10; refine hnew.mono ?_; rintro e w' ⟨rfl, rfl⟩)
  have n1 : ((c : Int) < 0) = False := eq_false (by omega)
  have n2 : ((L : Int) < (c : Int)) = False := eq_false (by omega)
  have S0 : (w.alloc (.cells #[.int .i64 (s.nb : Int), .slice none 0 0, .int .i64 (-1), .bool false] 52)).drew.cell? ⟨p, 1, none⟩ = some (.slice (some ⟨gd, 0, none⟩) L cap) := cd
  refine wp_region_held_drew (S := fun w' => w'.cell? ⟨p, 1, none⟩ = some (.slice (some ⟨gd, 0, none⟩) L cap)) (by kernel_rfl) S0 (fun _ => ?_)
  refine wpAnyH_take (i := 0) (v := .pointer (some ⟨w.heap.size, 0, none⟩)) rfl (by kernel_rfl) (by kernel_rfl) (by kernel_rfl) (fun _ _ _ h => h) (Or.inl ⟨by rfl, fun w hS => by have hS' : w.cell? ⟨p, 1, none⟩ = some (.slice (some ⟨gd, 0, none⟩) L cap) := hS; go_simp⟩) S0 ?_
  refine wpAnyH_take (i := 1) (v := .pointer (some ⟨w.heap.size, 0, none⟩)) rfl (by kernel_rfl) (by kernel_rfl) (by kernel_rfl) (fun _ _ _ h => h) (Or.inl ⟨by rfl, fun w hS => by have hS' : w.cell? ⟨p, 1, none⟩ = some (.slice (some ⟨gd, 0, none⟩) L cap) := hS; go_simp⟩) S0 ?_
  refine wpAnyH_take (i := 2) (v := .pointer (some ⟨w.heap.size, 0, none⟩)) rfl (by kernel_rfl) (by kernel_rfl) (by kernel_rfl) (fun _ _ _ h => h) (Or.inl ⟨by rfl, fun w hS => by have hS' : w.cell? ⟨p, 1, none⟩ = some (.slice (some ⟨gd, 0, none⟩) L cap) := hS; go_simp⟩) S0 ?_
  refine wpAnyH_take (i := 3) (v := .pointer (some ⟨w.heap.size, 1, none⟩)) rfl (by kernel_rfl) (by kernel_rfl) (by kernel_rfl) (fun _ _ _ h => h) (Or.inl ⟨by rfl, fun w hS => by have hS' : w.cell? ⟨p, 1, none⟩ = some (.slice (some ⟨gd, 0, none⟩) L cap) := hS; go_simp⟩) S0 ?_
  refine wpAnyH_take (i := 5) (v := .pointer (some ⟨p, 0, none⟩)) rfl (by kernel_rfl) (by kernel_rfl) (by kernel_rfl) (fun _ _ _ h => h) (Or.inl ⟨by rfl, fun w hS => by have hS' : w.cell? ⟨p, 1, none⟩ = some (.slice (some ⟨gd, 0, none⟩) L cap) := hS; go_simp⟩) S0 ?_
  refine wpAnyH_take (i := 6) (v := .pointer (some ⟨p, 0, none⟩)) rfl (by kernel_rfl) (by kernel_rfl) (by kernel_rfl) (fun _ _ _ h => h) (Or.inl ⟨by rfl, fun w hS => by have hS' : w.cell? ⟨p, 1, none⟩ = some (.slice (some ⟨gd, 0, none⟩) L cap) := hS; go_simp⟩) S0 ?_
  refine wpAnyH_take (i := 7) (v := .pointer (some ⟨p, 1, none⟩)) rfl (by kernel_rfl) (by kernel_rfl) (by kernel_rfl) (fun _ _ _ h => h) (Or.inl ⟨by rfl, fun w hS => by have hS' : w.cell? ⟨p, 1, none⟩ = some (.slice (some ⟨gd, 0, none⟩) L cap) := hS; go_simp⟩) S0 ?_
  go_simp
  refine wpAnyH_take (i := 8) (v := .slice (some ⟨gd, 0, none⟩) L cap) rfl (by kernel_rfl) (by kernel_rfl) (by kernel_rfl) (fun _ _ _ h => h) (Or.inl ⟨by rfl, fun w hS => by have hS' : w.cell? ⟨p, 1, none⟩ = some (.slice (some ⟨gd, 0, none⟩) L cap) := hS; go_simp⟩) S0 ?_
  refine wpAnyH_take (i := 9) (v := .int .i64 (c : Int)) rfl (by kernel_rfl) (by kernel_rfl) (by kernel_rfl) (fun _ _ _ h => h) (Or.inl ⟨by rfl, fun w hS => by have hS' : w.cell? ⟨p, 1, none⟩ = some (.slice (some ⟨gd, 0, none⟩) L cap) := hS; go_simp⟩) S0 ?_
  refine wpAnyH_take (i := 10) (v := .int .i64 (c : Int)) rfl (by kernel_rfl) (by kernel_rfl) (by kernel_rfl) (fun _ _ _ h => h) (Or.inl ⟨by rfl, fun w hS => by have hS' : w.cell? ⟨p, 1, none⟩ = some (.slice (some ⟨gd, 0, none⟩) L cap) := hS; go_simp⟩) S0 ?_
  refine wpAnyH_take (i := 11) (v := .pointer (some ⟨p, 0, none⟩)) rfl (by kernel_rfl) (by kernel_rfl) (by kernel_rfl) (fun _ _ _ h => h) (Or.inl ⟨by rfl, fun w hS => by have hS' : w.cell? ⟨p, 1, none⟩ = some (.slice (some ⟨gd, 0, none⟩) L cap) := hS; go_simp⟩) S0 ?_
  refine wpAnyH_take (i := 12) (v := .pointer (some ⟨p, 0, none⟩)) rfl (by kernel_rfl) (by kernel_rfl) (by kernel_rfl) (fun _ _ _ h => h) (Or.inl ⟨by rfl, fun w hS => by have hS' : w.cell? ⟨p, 1, none⟩ = some (.slice (some ⟨gd, 0, none⟩) L cap) := hS; go_simp⟩) S0 ?_
  refine wpAnyH_take (i := 13) (v := .pointer (some ⟨p, 1, none⟩)) rfl (by kernel_rfl) (by kernel_rfl) (by kernel_rfl) (fun _ _ _ h => h) (Or.inl ⟨by rfl, fun w hS => by have hS' : w.cell? ⟨p, 1, none⟩ = some (.slice (some ⟨gd, 0, none⟩) L cap) := hS; go_simp⟩) S0 ?_
  refine wpAnyH_take (i := 14) (v := .slice (some ⟨gd, 0, none⟩) L cap) rfl (by kernel_rfl) (by kernel_rfl) (by kernel_rfl) (fun _ _ _ h => h) (Or.inl ⟨by rfl, fun w hS => by have hS' : w.cell? ⟨p, 1, none⟩ = some (.slice (some ⟨gd, 0, none⟩) L cap) := hS; go_simp⟩) S0 ?_
  go_simp
  refine wpAnyH_take (i := 15) (v := .int .i64 (L : Int)) rfl (by kernel_rfl) (by kernel_rfl) (by kernel_rfl) (fun _ _ _ h => h) (Or.inl ⟨by rfl, fun w hS => by have hS' : w.cell? ⟨p, 1, none⟩ = some (.slice (some ⟨gd, 0, none⟩) L cap) := hS; go_simp⟩) S0 ?_
  refine wpAnyH_take (i := 16) (v := .int .i64 (c : Int)) rfl (by kernel_rfl) (by kernel_rfl) (by kernel_rfl) (fun _ _ _ h => h) (Or.inl ⟨by rfl, fun w hS => by have hS' : w.cell? ⟨p, 1, none⟩ = some (.slice (some ⟨gd, 0, none⟩) L cap) := hS; go_simp⟩) S0 ?_
  refine wpAnyH_take (i := 17) (v := .slice (some ⟨gd, 0, none⟩) c cap) rfl (by kernel_rfl) (by kernel_rfl) (by kernel_rfl) (fun _ _ _ h => h) (Or.inl ⟨by rfl, fun w hS => by have hS' : w.cell? ⟨p, 1, none⟩ = some (.slice (some ⟨gd, 0, none⟩) L cap) := hS; go_simp⟩) S0 ?_
  go_simp
  refine wpAnyH_ready (rs := [4]) (by kernel_rfl) (by simp) (AllReadyH.cons rfl (fun K hK => ?_) AllReadyH.nil)
  refine step_load (by kernel_rfl) 50 (.tmp 14) (by kernel_rfl) (.pointer (some ⟨w.heap.size, 1, none⟩)) (by kernel_rfl) (load50 _ _ _ hcr) (hK.out _ _ S0 (fun _ => ?_))
  clear hK K
  go_simp
  refine wpAnyH_ready (rs := [18]) (by kernel_rfl) (by simp) (AllReadyH.cons rfl (fun K hK => ?_) AllReadyH.nil)
  refine step_append_lies _ (by rfl) (.tmp 15) (.tmp 28) 50 (by rfl) 0 59 i0 _ 2 24 Try.underlying50 hi0 hz0 hz1 hz2 rfl (by omega) (.slice none 0 0) 0 [] (by rfl) (World.ownsRow_nil _ 0 59 2) ⟨gd, 0, none⟩ c cap R (by rfl) hlen hnews hone (by omega) (by unfold maxLen; omega) (by omega) (by omega) (w.heap.size + 1) (by simp) ?_
  intro g2 cap2 w3 hown3 hgrow3 hat3 hlt3
  obtain ⟨⟨hc3, hf3⟩, hfin⟩ := HFin.out w3 g2 cap2 hown3 hgrow3 hat3
  simp only [Nat.zero_add] at hfin
  have S3 : w3.cell? ⟨p, 1, none⟩ = some (.slice (some ⟨gd, 0, none⟩) L cap) := hgrow3.cell S0 (by simp [Value.ownBlock])
  have S4 : ∀ u, (w3.setCell ⟨w.heap.size, 1, none⟩ u).cell? ⟨p, 1, none⟩ = some (.slice (some ⟨gd, 0, none⟩) L cap) := fun u => (World.cell?_setCell_far w3 ⟨w.heap.size, 1, none⟩ ⟨p, 1, none⟩ u (by show w.heap.size ≠ p; omega)).trans S3
  refine hK.out _ _ S3 (fun _ => ?_)
  clear hK K hown3 hgrow3 hat3 hlt3 HFin hnews
  go_simp
  refine wpAnyH_take (i := 19) (v := .pointer (some ⟨w.heap.size, 0, none⟩)) rfl (by kernel_rfl) (by kernel_rfl) (by kernel_rfl) (fun _ _ _ h => h) (Or.inl ⟨by rfl, fun w hS => by go_simp⟩) S3 ?_
  refine wpAnyH_take (i := 20) (v := .pointer (some ⟨w.heap.size, 1, none⟩)) rfl (by kernel_rfl) (by kernel_rfl) (by kernel_rfl) (fun _ _ _ h => h) (Or.inl ⟨by rfl, fun w hS => by go_simp⟩) S3 ?_
  go_simp
  refine wpAnyH_ready (rs := [21]) (by kernel_rfl) (by simp) (AllReadyH.cons rfl (fun K hK => ?_) AllReadyH.nil)
  refine step_store (by kernel_rfl) 50 (.tmp 31) (.tmp 29) (by kernel_rfl) (.pointer (some ⟨w.heap.size, 1, none⟩)) (.slice (some ⟨g2, 0, none⟩) c cap2) (by kernel_rfl) (by kernel_rfl) (store50 _ _ _ _ _ _ hc3 hf3) (hK.out _ _ (S4 _) (fun _ => ?_))
  clear hK K
  go_simp
  refine wpAnyH_done (by kernel_rfl) ?_ _
  go_wp2
  go_ret
  exact ⟨_, rfl, hfin⟩


end Go.Proofs.Ytmbfojjmnjagiaa
