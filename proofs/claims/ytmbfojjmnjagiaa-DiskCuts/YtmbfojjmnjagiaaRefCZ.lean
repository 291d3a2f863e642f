/-
  The document's Cut, of no writes.
-/
import Derived.Test.YtmbfojjmnjagiaaRefC
namespace Go.Proofs.Ytmbfojjmnjagiaa
open Go.RowKit
set_option linter.unusedVariables false

section
variable {P : Program} {ops : Array Oper} {o : Oper} {a : Act} {w : World} {Q : Exit → Act → World → Prop}
/-- An append, by its run, as one step of a region that draws. -/
theorem step_append_run (hg : o.guard = none) (s x : Operand) (t : TypeId) (ho : o.op = .call { callee := .builtin .append, args := #[s, x], argTypes := #[t, t] }) (vs vx : Value) (hs : a.eval s = vs) (hx : a.eval x = vx) {K : Act → World → Prop} {E : Prop} {v : Value} {w' : World} {ty : TypeId} (hty : o.type = ty) (h : (Builtin.append_ #[t, t] ty #[vs, vx]).run P w = .ok v w') (hK : K (a.put o.dst v) w') :
    if Region.wanted o (yielded ops a.tmps) = true then Oper.wp P o a w K Q else E := by
  have hw : Region.wanted o (yielded ops a.tmps) = true := by simp [Region.wanted, hg]
  rw [if_pos hw]
  subst hty
  unfold Oper.wp execOp
  simp only [ho, resolve, invoke, builtin, Sem.run_bind, Sem.run_pure, Result.andThen_ok, List.map_toArray, List.map_cons, List.map_nil, hs, hx, h]
  exact hK
end

theorem slice50z (a : Option Addr) (len cap : Nat) : ∃ a', ∀ W, (Instr.slice 50 (.slice a len cap) none (some (.int .i64 0)) none).run Try.prog W = .ok (.slice a' 0 cap) W := by
  obtain ⟨i0, hi, hz0, hz1, hz2⟩ := info_parts inf59
  have ht' : Try.prog.underlying 50 = some (.slice (Try.prog.elem 50)) := by simp [Program.elem, Try.underlying50]
  have he : Try.prog.elem 50 = 59 := by simp [Program.elem, Try.underlying50]
  have hz : ∀ w, (Go.sizeOf 59).run Try.prog w = .ok 2 w := fun w => by simp [Go.sizeOf, typeInfo, hi, hz1]
  refine ⟨if cap = 0 then a else a.map (·.add 0), fun W => ?_⟩
  rw [run_slice_h W 50 _ _ _ ht' .i64 _ (by omega) (by omega), he, hz]
  simp [Result.andThen, sliced]

theorem fin_z (w : World) (s : St) (hnb : s.nb ≤ 65536) : ∃ G, IsF ((w.alloc (.cells #[.int .i64 (s.nb : Int), .slice none 0 0, .int .i64 (-1), .bool false] 52)).drew.setCell ⟨w.heap.size, 1, none⟩ (.slice none 0 0)) G w.heap.size ⟨s.nb, [], -1, false⟩ ∧ Kept [] w ((w.alloc (.cells #[.int .i64 (s.nb : Int), .slice none 0 0, .int .i64 (-1), .bool false] 52)).drew.setCell ⟨w.heap.size, 1, none⟩ (.slice none 0 0)) ∧ ∀ x ∈ G, w.heap.size ≤ x := by
  have hbox : (w.alloc (.cells #[.int .i64 (s.nb : Int), .slice none 0 0, .int .i64 (-1), .bool false] 52)).drew.heap[w.heap.size]? = some (.cells #[.int .i64 (s.nb : Int), .slice none 0 0, .int .i64 (-1), .bool false] 52 (0, 0)) := heap_alloc_new w _
  refine ⟨[w.heap.size], ⟨.slice none 0 0, rfl, ?_, World.ownsRow_nil _ 0 59 2, by simp [Value.ownBlock], ⟨hnb, okW.nil _, by show (-1 : Int) ≤ -1; omega, by show (-1 : Int) < _; omega⟩⟩, ((Kept.refl [] w).alloc _).drew.setCell (.inr (Nat.le_refl _)) _, fun x hx => by simp at hx; omega⟩
  rw [heap_setCell_same _ w.heap.size 1 _ 52 _ hbox]
  rfl

set_option maxRecDepth 100000 in
set_option maxHeartbeats 1000000 in
theorem fcut_neg {F : List Nat} {p : Nat} {s : St} {w : World} (hD : IsF w F p s) (n : Int) (hn : n < 0) :
    Calls Try.prog 14 #[.pointer (some ⟨p, 0, none⟩), .int .i64 n] w fun e w' => ∃ q, e = .returned (.pointer (some ⟨q, 0, none⟩)) ∧ ∃ G, IsF w' G q ⟨s.nb, [], -1, false⟩ ∧ Kept [] w w' ∧ ∀ x ∈ G, w.heap.size ≤ x := by
  have hnb := hD.ok.nb
  have k1 : Kept [] w (w.alloc (.cells #[.int .i64 (s.nb : Int), .slice none 0 0, .int .i64 (-1), .bool false] 52)) := (Kept.refl [] w).alloc _
  have hD1 := hD.kept k1 (by simp)
  obtain ⟨a, cap, cd, hcap, hm, _⟩ := hD1.own
  have hm' : cap ≤ 9223372036854775807 := hm
  obtain ⟨a', hsl⟩ := slice50z a s.ws.length cap
  have hap := append_none (w.alloc (.cells #[.int .i64 (s.nb : Int), .slice none 0 0, .int .i64 (-1), .bool false] 52)).drew 50 a' cap
  have hfin := fin_z w s hnb
  have hc0 : w.cell? ⟨p, 0, none⟩ = some (.int .i64 (s.nb : Int)) := by
    obtain ⟨vd, hF, hbox, _⟩ := hD
    exact (cells4 hbox).1
  have hcr : (w.alloc (.cells #[.int .i64 (s.nb : Int), .slice none 0 0, .int .i64 (-1), .bool false] 52)).cell? ⟨w.heap.size, 1, none⟩ = some (.slice none 0 0) := (cells4 (heap_alloc_new w _)).2.1
  have hfr : (w.alloc (.cells #[.int .i64 (s.nb : Int), .slice none 0 0, .int .i64 (-1), .bool false] 52)).drew.frozen? ⟨w.heap.size, 1, none⟩ = false := free4 (heap_alloc_new w _) 1
  have hnew := fnew_raw s.nb hnb w
  have hpl := World.block_lt_of_cell? w _ hc0
  generalize hLL : s.ws.length = L at *
  clear hD hD1
  go_enter Try.func14, Try.ntmps14
  go_wp2_with (go_at_call 10; refine hnew.mono ?_; rintro e w' ⟨rfl, rfl⟩)
  have n1 : (n < 0) = True := eq_true hn
  have n2 : ((L : Int) < 0) = False := eq_false (by omega)
  have S0 : (w.alloc (.cells #[.int .i64 (s.nb : Int), .slice none 0 0, .int .i64 (-1), .bool false] 52)).drew.cell? ⟨p, 1, none⟩ = some (.slice a L cap) := cd
  refine wp_region_held_drew (S := fun w' => w'.cell? ⟨p, 1, none⟩ = some (.slice a L cap)) (by kernel_rfl) S0 (fun _ => ?_)
  refine wpAnyH_take (i := 0) (v := .pointer (some ⟨w.heap.size, 0, none⟩)) rfl (by kernel_rfl) (by kernel_rfl) (by kernel_rfl) (fun _ _ _ h => h) (Or.inl ⟨by rfl, fun w hS => by have hS' : w.cell? ⟨p, 1, none⟩ = some (.slice a L cap) := hS; go_simp⟩) S0 ?_
  refine wpAnyH_take (i := 1) (v := .pointer (some ⟨w.heap.size, 0, none⟩)) rfl (by kernel_rfl) (by kernel_rfl) (by kernel_rfl) (fun _ _ _ h => h) (Or.inl ⟨by rfl, fun w hS => by have hS' : w.cell? ⟨p, 1, none⟩ = some (.slice a L cap) := hS; go_simp⟩) S0 ?_
  refine wpAnyH_take (i := 2) (v := .pointer (some ⟨w.heap.size, 0, none⟩)) rfl (by kernel_rfl) (by kernel_rfl) (by kernel_rfl) (fun _ _ _ h => h) (Or.inl ⟨by rfl, fun w hS => by have hS' : w.cell? ⟨p, 1, none⟩ = some (.slice a L cap) := hS; go_simp⟩) S0 ?_
  refine wpAnyH_take (i := 3) (v := .pointer (some ⟨w.heap.size, 1, none⟩)) rfl (by kernel_rfl) (by kernel_rfl) (by kernel_rfl) (fun _ _ _ h => h) (Or.inl ⟨by rfl, fun w hS => by have hS' : w.cell? ⟨p, 1, none⟩ = some (.slice a L cap) := hS; go_simp⟩) S0 ?_
  refine wpAnyH_take (i := 5) (v := .pointer (some ⟨p, 0, none⟩)) rfl (by kernel_rfl) (by kernel_rfl) (by kernel_rfl) (fun _ _ _ h => h) (Or.inl ⟨by rfl, fun w hS => by have hS' : w.cell? ⟨p, 1, none⟩ = some (.slice a L cap) := hS; go_simp⟩) S0 ?_
  refine wpAnyH_take (i := 6) (v := .pointer (some ⟨p, 0, none⟩)) rfl (by kernel_rfl) (by kernel_rfl) (by kernel_rfl) (fun _ _ _ h => h) (Or.inl ⟨by rfl, fun w hS => by have hS' : w.cell? ⟨p, 1, none⟩ = some (.slice a L cap) := hS; go_simp⟩) S0 ?_
  refine wpAnyH_take (i := 7) (v := .pointer (some ⟨p, 1, none⟩)) rfl (by kernel_rfl) (by kernel_rfl) (by kernel_rfl) (fun _ _ _ h => h) (Or.inl ⟨by rfl, fun w hS => by have hS' : w.cell? ⟨p, 1, none⟩ = some (.slice a L cap) := hS; go_simp⟩) S0 ?_
  go_simp
  refine wpAnyH_take (i := 8) (v := .slice a L cap) rfl (by kernel_rfl) (by kernel_rfl) (by kernel_rfl) (fun _ _ _ h => h) (Or.inl ⟨by rfl, fun w hS => by have hS' : w.cell? ⟨p, 1, none⟩ = some (.slice a L cap) := hS; go_simp⟩) S0 ?_
  refine wpAnyH_take (i := 9) (v := .int .i64 n) rfl (by kernel_rfl) (by kernel_rfl) (by kernel_rfl) (fun _ _ _ h => h) (Or.inl ⟨by rfl, fun w hS => by have hS' : w.cell? ⟨p, 1, none⟩ = some (.slice a L cap) := hS; go_simp⟩) S0 ?_
  refine wpAnyH_take (i := 10) (v := .int .i64 0) rfl (by kernel_rfl) (by kernel_rfl) (by kernel_rfl) (fun _ _ _ h => h) (Or.inl ⟨by rfl, fun w hS => by have hS' : w.cell? ⟨p, 1, none⟩ = some (.slice a L cap) := hS; go_simp⟩) S0 ?_
  refine wpAnyH_take (i := 11) (v := .pointer (some ⟨p, 0, none⟩)) rfl (by kernel_rfl) (by kernel_rfl) (by kernel_rfl) (fun _ _ _ h => h) (Or.inl ⟨by rfl, fun w hS => by have hS' : w.cell? ⟨p, 1, none⟩ = some (.slice a L cap) := hS; go_simp⟩) S0 ?_
  refine wpAnyH_take (i := 12) (v := .pointer (some ⟨p, 0, none⟩)) rfl (by kernel_rfl) (by kernel_rfl) (by kernel_rfl) (fun _ _ _ h => h) (Or.inl ⟨by rfl, fun w hS => by have hS' : w.cell? ⟨p, 1, none⟩ = some (.slice a L cap) := hS; go_simp⟩) S0 ?_
  refine wpAnyH_take (i := 13) (v := .pointer (some ⟨p, 1, none⟩)) rfl (by kernel_rfl) (by kernel_rfl) (by kernel_rfl) (fun _ _ _ h => h) (Or.inl ⟨by rfl, fun w hS => by have hS' : w.cell? ⟨p, 1, none⟩ = some (.slice a L cap) := hS; go_simp⟩) S0 ?_
  refine wpAnyH_take (i := 14) (v := .slice a L cap) rfl (by kernel_rfl) (by kernel_rfl) (by kernel_rfl) (fun _ _ _ h => h) (Or.inl ⟨by rfl, fun w hS => by have hS' : w.cell? ⟨p, 1, none⟩ = some (.slice a L cap) := hS; go_simp⟩) S0 ?_
  go_simp
  refine wpAnyH_take (i := 15) (v := .int .i64 (L : Int)) rfl (by kernel_rfl) (by kernel_rfl) (by kernel_rfl) (fun _ _ _ h => h) (Or.inl ⟨by rfl, fun w hS => by have hS' : w.cell? ⟨p, 1, none⟩ = some (.slice a L cap) := hS; go_simp⟩) S0 ?_
  refine wpAnyH_take (i := 16) (v := .int .i64 0) rfl (by kernel_rfl) (by kernel_rfl) (by kernel_rfl) (fun _ _ _ h => h) (Or.inl ⟨by rfl, fun w hS => by have hS' : w.cell? ⟨p, 1, none⟩ = some (.slice a L cap) := hS; go_simp⟩) S0 ?_
  refine wpAnyH_take (i := 17) (v := .slice a' 0 cap) rfl (by kernel_rfl) (by kernel_rfl) (by kernel_rfl) (fun _ _ _ h => h) (Or.inl ⟨by rfl, fun w hS => by have hS' : w.cell? ⟨p, 1, none⟩ = some (.slice a L cap) := hS; go_simp⟩) S0 ?_
  go_simp
  refine wpAnyH_ready (rs := [4]) (by kernel_rfl) (by simp) (AllReadyH.cons rfl (fun K hK => ?_) AllReadyH.nil)
  refine step_load (by kernel_rfl) 50 (.tmp 14) (by kernel_rfl) (.pointer (some ⟨w.heap.size, 1, none⟩)) (by kernel_rfl) (load50 _ _ _ hcr) (hK.out _ _ S0 (fun _ => ?_))
  clear hK K
  go_simp
  refine wpAnyH_ready (rs := [18]) (by kernel_rfl) (by simp) (AllReadyH.cons rfl (fun K hK => ?_) AllReadyH.nil)
  refine step_append_run (by kernel_rfl) (.tmp 15) (.tmp 28) 50 (by kernel_rfl) (.slice none 0 0) (.slice a' 0 cap) (by kernel_rfl) (by kernel_rfl) (by kernel_rfl) hap (hK.out _ _ S0 (fun _ => ?_))
  have S4 : ∀ u, ((w.alloc (.cells #[.int .i64 (s.nb : Int), .slice none 0 0, .int .i64 (-1), .bool false] 52)).drew.setCell ⟨w.heap.size, 1, none⟩ u).cell? ⟨p, 1, none⟩ = some (.slice a L cap) := fun u => (World.cell?_setCell_far _ ⟨w.heap.size, 1, none⟩ ⟨p, 1, none⟩ u (by show w.heap.size ≠ p; omega)).trans S0
  clear hK K
  go_simp
  refine wpAnyH_take (i := 19) (v := .pointer (some ⟨w.heap.size, 0, none⟩)) rfl (by kernel_rfl) (by kernel_rfl) (by kernel_rfl) (fun _ _ _ h => h) (Or.inl ⟨by rfl, fun w hS => by have hS' : w.cell? ⟨p, 1, none⟩ = some (.slice a L cap) := hS; go_simp⟩) S0 ?_
  refine wpAnyH_take (i := 20) (v := .pointer (some ⟨w.heap.size, 1, none⟩)) rfl (by kernel_rfl) (by kernel_rfl) (by kernel_rfl) (fun _ _ _ h => h) (Or.inl ⟨by rfl, fun w hS => by have hS' : w.cell? ⟨p, 1, none⟩ = some (.slice a L cap) := hS; go_simp⟩) S0 ?_
  go_simp
  refine wpAnyH_ready (rs := [21]) (by kernel_rfl) (by simp) (AllReadyH.cons rfl (fun K hK => ?_) AllReadyH.nil)
  refine step_store (by kernel_rfl) 50 (.tmp 31) (.tmp 29) (by kernel_rfl) (.pointer (some ⟨w.heap.size, 1, none⟩)) (.slice none 0 0) (by kernel_rfl) (by kernel_rfl) (store50 _ _ _ _ _ _ hcr hfr) (hK.out _ _ (S4 _) (fun _ => ?_))
  clear hK K
  generalize (w.alloc (.cells #[.int .i64 (s.nb : Int), .slice none 0 0, .int .i64 (-1), .bool false] 52)).drew.setCell ⟨w.heap.size, 1, none⟩ (.slice none 0 0) = w4 at hfin
  clear S0 S4 hcr hfr hap
  go_simp
  refine wpAnyH_done (by kernel_rfl) ?_ _
  go_wp2
  go_ret
  exact ⟨_, rfl, hfin⟩

set_option maxRecDepth 100000 in
set_option maxHeartbeats 1000000 in
theorem fcut_nil {F : List Nat} {p : Nat} {s : St} {w : World} (hD : IsF w F p s)  :
    Calls Try.prog 14 #[.pointer (some ⟨p, 0, none⟩), .int .i64 0] w fun e w' => ∃ q, e = .returned (.pointer (some ⟨q, 0, none⟩)) ∧ ∃ G, IsF w' G q ⟨s.nb, [], -1, false⟩ ∧ Kept [] w w' ∧ ∀ x ∈ G, w.heap.size ≤ x := by
  have hnb := hD.ok.nb
  have k1 : Kept [] w (w.alloc (.cells #[.int .i64 (s.nb : Int), .slice none 0 0, .int .i64 (-1), .bool false] 52)) := (Kept.refl [] w).alloc _
  have hD1 := hD.kept k1 (by simp)
  obtain ⟨a, cap, cd, hcap, hm, _⟩ := hD1.own
  have hm' : cap ≤ 9223372036854775807 := hm
  obtain ⟨a', hsl⟩ := slice50z a s.ws.length cap
  have hap := append_none (w.alloc (.cells #[.int .i64 (s.nb : Int), .slice none 0 0, .int .i64 (-1), .bool false] 52)).drew 50 a' cap
  have hfin := fin_z w s hnb
  have hc0 : w.cell? ⟨p, 0, none⟩ = some (.int .i64 (s.nb : Int)) := by
    obtain ⟨vd, hF, hbox, _⟩ := hD
    exact (cells4 hbox).1
  have hcr : (w.alloc (.cells #[.int .i64 (s.nb : Int), .slice none 0 0, .int .i64 (-1), .bool false] 52)).cell? ⟨w.heap.size, 1, none⟩ = some (.slice none 0 0) := (cells4 (heap_alloc_new w _)).2.1
  have hfr : (w.alloc (.cells #[.int .i64 (s.nb : Int), .slice none 0 0, .int .i64 (-1), .bool false] 52)).drew.frozen? ⟨w.heap.size, 1, none⟩ = false := free4 (heap_alloc_new w _) 1
  have hnew := fnew_raw s.nb hnb w
  have hpl := World.block_lt_of_cell? w _ hc0
  generalize hLL : s.ws.length = L at *
  clear hD hD1
  go_enter Try.func14, Try.ntmps14
  go_wp2_with (go_at_call 10; refine hnew.mono ?_; rintro e w' ⟨rfl, rfl⟩)
  have n2 : ((L : Int) < 0) = False := eq_false (by omega)
  have S0 : (w.alloc (.cells #[.int .i64 (s.nb : Int), .slice none 0 0, .int .i64 (-1), .bool false] 52)).drew.cell? ⟨p, 1, none⟩ = some (.slice a L cap) := cd
  refine wp_region_held_drew (S := fun w' => w'.cell? ⟨p, 1, none⟩ = some (.slice a L cap)) (by kernel_rfl) S0 (fun _ => ?_)
  refine wpAnyH_take (i := 0) (v := .pointer (some ⟨w.heap.size, 0, none⟩)) rfl (by kernel_rfl) (by kernel_rfl) (by kernel_rfl) (fun _ _ _ h => h) (Or.inl ⟨by rfl, fun w hS => by have hS' : w.cell? ⟨p, 1, none⟩ = some (.slice a L cap) := hS; go_simp⟩) S0 ?_
  refine wpAnyH_take (i := 1) (v := .pointer (some ⟨w.heap.size, 0, none⟩)) rfl (by kernel_rfl) (by kernel_rfl) (by kernel_rfl) (fun _ _ _ h => h) (Or.inl ⟨by rfl, fun w hS => by have hS' : w.cell? ⟨p, 1, none⟩ = some (.slice a L cap) := hS; go_simp⟩) S0 ?_
  refine wpAnyH_take (i := 2) (v := .pointer (some ⟨w.heap.size, 0, none⟩)) rfl (by kernel_rfl) (by kernel_rfl) (by kernel_rfl) (fun _ _ _ h => h) (Or.inl ⟨by rfl, fun w hS => by have hS' : w.cell? ⟨p, 1, none⟩ = some (.slice a L cap) := hS; go_simp⟩) S0 ?_
  refine wpAnyH_take (i := 3) (v := .pointer (some ⟨w.heap.size, 1, none⟩)) rfl (by kernel_rfl) (by kernel_rfl) (by kernel_rfl) (fun _ _ _ h => h) (Or.inl ⟨by rfl, fun w hS => by have hS' : w.cell? ⟨p, 1, none⟩ = some (.slice a L cap) := hS; go_simp⟩) S0 ?_
  refine wpAnyH_take (i := 5) (v := .pointer (some ⟨p, 0, none⟩)) rfl (by kernel_rfl) (by kernel_rfl) (by kernel_rfl) (fun _ _ _ h => h) (Or.inl ⟨by rfl, fun w hS => by have hS' : w.cell? ⟨p, 1, none⟩ = some (.slice a L cap) := hS; go_simp⟩) S0 ?_
  refine wpAnyH_take (i := 6) (v := .pointer (some ⟨p, 0, none⟩)) rfl (by kernel_rfl) (by kernel_rfl) (by kernel_rfl) (fun _ _ _ h => h) (Or.inl ⟨by rfl, fun w hS => by have hS' : w.cell? ⟨p, 1, none⟩ = some (.slice a L cap) := hS; go_simp⟩) S0 ?_
  refine wpAnyH_take (i := 7) (v := .pointer (some ⟨p, 1, none⟩)) rfl (by kernel_rfl) (by kernel_rfl) (by kernel_rfl) (fun _ _ _ h => h) (Or.inl ⟨by rfl, fun w hS => by have hS' : w.cell? ⟨p, 1, none⟩ = some (.slice a L cap) := hS; go_simp⟩) S0 ?_
  go_simp
  refine wpAnyH_take (i := 8) (v := .slice a L cap) rfl (by kernel_rfl) (by kernel_rfl) (by kernel_rfl) (fun _ _ _ h => h) (Or.inl ⟨by rfl, fun w hS => by have hS' : w.cell? ⟨p, 1, none⟩ = some (.slice a L cap) := hS; go_simp⟩) S0 ?_
  refine wpAnyH_take (i := 9) (v := .int .i64 0) rfl (by kernel_rfl) (by kernel_rfl) (by kernel_rfl) (fun _ _ _ h => h) (Or.inl ⟨by rfl, fun w hS => by have hS' : w.cell? ⟨p, 1, none⟩ = some (.slice a L cap) := hS; go_simp⟩) S0 ?_
  refine wpAnyH_take (i := 10) (v := .int .i64 0) rfl (by kernel_rfl) (by kernel_rfl) (by kernel_rfl) (fun _ _ _ h => h) (Or.inl ⟨by rfl, fun w hS => by have hS' : w.cell? ⟨p, 1, none⟩ = some (.slice a L cap) := hS; go_simp⟩) S0 ?_
  refine wpAnyH_take (i := 11) (v := .pointer (some ⟨p, 0, none⟩)) rfl (by kernel_rfl) (by kernel_rfl) (by kernel_rfl) (fun _ _ _ h => h) (Or.inl ⟨by rfl, fun w hS => by have hS' : w.cell? ⟨p, 1, none⟩ = some (.slice a L cap) := hS; go_simp⟩) S0 ?_
  refine wpAnyH_take (i := 12) (v := .pointer (some ⟨p, 0, none⟩)) rfl (by kernel_rfl) (by kernel_rfl) (by kernel_rfl) (fun _ _ _ h => h) (Or.inl ⟨by rfl, fun w hS => by have hS' : w.cell? ⟨p, 1, none⟩ = some (.slice a L cap) := hS; go_simp⟩) S0 ?_
  refine wpAnyH_take (i := 13) (v := .pointer (some ⟨p, 1, none⟩)) rfl (by kernel_rfl) (by kernel_rfl) (by kernel_rfl) (fun _ _ _ h => h) (Or.inl ⟨by rfl, fun w hS => by have hS' : w.cell? ⟨p, 1, none⟩ = some (.slice a L cap) := hS; go_simp⟩) S0 ?_
  refine wpAnyH_take (i := 14) (v := .slice a L cap) rfl (by kernel_rfl) (by kernel_rfl) (by kernel_rfl) (fun _ _ _ h => h) (Or.inl ⟨by rfl, fun w hS => by have hS' : w.cell? ⟨p, 1, none⟩ = some (.slice a L cap) := hS; go_simp⟩) S0 ?_
  go_simp
  refine wpAnyH_take (i := 15) (v := .int .i64 (L : Int)) rfl (by kernel_rfl) (by kernel_rfl) (by kernel_rfl) (fun _ _ _ h => h) (Or.inl ⟨by rfl, fun w hS => by have hS' : w.cell? ⟨p, 1, none⟩ = some (.slice a L cap) := hS; go_simp⟩) S0 ?_
  refine wpAnyH_take (i := 16) (v := .int .i64 0) rfl (by kernel_rfl) (by kernel_rfl) (by kernel_rfl) (fun _ _ _ h => h) (Or.inl ⟨by rfl, fun w hS => by have hS' : w.cell? ⟨p, 1, none⟩ = some (.slice a L cap) := hS; go_simp⟩) S0 ?_
  refine wpAnyH_take (i := 17) (v := .slice a' 0 cap) rfl (by kernel_rfl) (by kernel_rfl) (by kernel_rfl) (fun _ _ _ h => h) (Or.inl ⟨by rfl, fun w hS => by have hS' : w.cell? ⟨p, 1, none⟩ = some (.slice a L cap) := hS; go_simp⟩) S0 ?_
  go_simp
  refine wpAnyH_ready (rs := [4]) (by kernel_rfl) (by simp) (AllReadyH.cons rfl (fun K hK => ?_) AllReadyH.nil)
  refine step_load (by kernel_rfl) 50 (.tmp 14) (by kernel_rfl) (.pointer (some ⟨w.heap.size, 1, none⟩)) (by kernel_rfl) (load50 _ _ _ hcr) (hK.out _ _ S0 (fun _ => ?_))
  clear hK K
  go_simp
  refine wpAnyH_ready (rs := [18]) (by kernel_rfl) (by simp) (AllReadyH.cons rfl (fun K hK => ?_) AllReadyH.nil)
  refine step_append_run (by kernel_rfl) (.tmp 15) (.tmp 28) 50 (by kernel_rfl) (.slice none 0 0) (.slice a' 0 cap) (by kernel_rfl) (by kernel_rfl) (by kernel_rfl) hap (hK.out _ _ S0 (fun _ => ?_))
  have S4 : ∀ u, ((w.alloc (.cells #[.int .i64 (s.nb : Int), .slice none 0 0, .int .i64 (-1), .bool false] 52)).drew.setCell ⟨w.heap.size, 1, none⟩ u).cell? ⟨p, 1, none⟩ = some (.slice a L cap) := fun u => (World.cell?_setCell_far _ ⟨w.heap.size, 1, none⟩ ⟨p, 1, none⟩ u (by show w.heap.size ≠ p; omega)).trans S0
  clear hK K
  go_simp
  refine wpAnyH_take (i := 19) (v := .pointer (some ⟨w.heap.size, 0, none⟩)) rfl (by kernel_rfl) (by kernel_rfl) (by kernel_rfl) (fun _ _ _ h => h) (Or.inl ⟨by rfl, fun w hS => by have hS' : w.cell? ⟨p, 1, none⟩ = some (.slice a L cap) := hS; go_simp⟩) S0 ?_
  refine wpAnyH_take (i := 20) (v := .pointer (some ⟨w.heap.size, 1, none⟩)) rfl (by kernel_rfl) (by kernel_rfl) (by kernel_rfl) (fun _ _ _ h => h) (Or.inl ⟨by rfl, fun w hS => by have hS' : w.cell? ⟨p, 1, none⟩ = some (.slice a L cap) := hS; go_simp⟩) S0 ?_
  go_simp
  refine wpAnyH_ready (rs := [21]) (by kernel_rfl) (by simp) (AllReadyH.cons rfl (fun K hK => ?_) AllReadyH.nil)
  refine step_store (by kernel_rfl) 50 (.tmp 31) (.tmp 29) (by kernel_rfl) (.pointer (some ⟨w.heap.size, 1, none⟩)) (.slice none 0 0) (by kernel_rfl) (by kernel_rfl) (store50 _ _ _ _ _ _ hcr hfr) (hK.out _ _ (S4 _) (fun _ => ?_))
  clear hK K
  generalize (w.alloc (.cells #[.int .i64 (s.nb : Int), .slice none 0 0, .int .i64 (-1), .bool false] 52)).drew.setCell ⟨w.heap.size, 1, none⟩ (.slice none 0 0) = w4 at hfin
  clear S0 S4 hcr hfr hap
  go_simp
  refine wpAnyH_done (by kernel_rfl) ?_ _
  go_wp2
  go_ret
  exact ⟨_, rfl, hfin⟩

set_option maxRecDepth 100000 in
set_option maxHeartbeats 1000000 in
theorem fcut_none {F : List Nat} {p : Nat} {s : St} {w : World} (hD : IsF w F p s) (n : Int) (hn : 0 < n) (hl : s.ws.length = 0) :
    Calls Try.prog 14 #[.pointer (some ⟨p, 0, none⟩), .int .i64 n] w fun e w' => ∃ q, e = .returned (.pointer (some ⟨q, 0, none⟩)) ∧ ∃ G, IsF w' G q ⟨s.nb, [], -1, false⟩ ∧ Kept [] w w' ∧ ∀ x ∈ G, w.heap.size ≤ x := by
  have hnb := hD.ok.nb
  have k1 : Kept [] w (w.alloc (.cells #[.int .i64 (s.nb : Int), .slice none 0 0, .int .i64 (-1), .bool false] 52)) := (Kept.refl [] w).alloc _
  have hD1 := hD.kept k1 (by simp)
  obtain ⟨a, cap, cd, hcap, hm, _⟩ := hD1.own
  have hm' : cap ≤ 9223372036854775807 := hm
  obtain ⟨a', hsl⟩ := slice50z a s.ws.length cap
  have hap := append_none (w.alloc (.cells #[.int .i64 (s.nb : Int), .slice none 0 0, .int .i64 (-1), .bool false] 52)).drew 50 a' cap
  have hfin := fin_z w s hnb
  have hc0 : w.cell? ⟨p, 0, none⟩ = some (.int .i64 (s.nb : Int)) := by
    obtain ⟨vd, hF, hbox, _⟩ := hD
    exact (cells4 hbox).1
  have hcr : (w.alloc (.cells #[.int .i64 (s.nb : Int), .slice none 0 0, .int .i64 (-1), .bool false] 52)).cell? ⟨w.heap.size, 1, none⟩ = some (.slice none 0 0) := (cells4 (heap_alloc_new w _)).2.1
  have hfr : (w.alloc (.cells #[.int .i64 (s.nb : Int), .slice none 0 0, .int .i64 (-1), .bool false] 52)).drew.frozen? ⟨w.heap.size, 1, none⟩ = false := free4 (heap_alloc_new w _) 1
  have hnew := fnew_raw s.nb hnb w
  have hpl := World.block_lt_of_cell? w _ hc0
  generalize hLL : s.ws.length = L at *
  subst hl
  clear hD hD1
  go_enter Try.func14, Try.ntmps14
  go_wp2_with (go_at_call 10; refine hnew.mono ?_; rintro e w' ⟨rfl, rfl⟩)
  have n1 : (n < 0) = False := eq_false (by omega)
  have n2 : ((0 : Int) < n) = True := eq_true hn
  have S0 : (w.alloc (.cells #[.int .i64 (s.nb : Int), .slice none 0 0, .int .i64 (-1), .bool false] 52)).drew.cell? ⟨p, 1, none⟩ = some (.slice a 0 cap) := cd
  refine wp_region_held_drew (S := fun w' => w'.cell? ⟨p, 1, none⟩ = some (.slice a 0 cap)) (by kernel_rfl) S0 (fun _ => ?_)
  refine wpAnyH_take (i := 0) (v := .pointer (some ⟨w.heap.size, 0, none⟩)) rfl (by kernel_rfl) (by kernel_rfl) (by kernel_rfl) (fun _ _ _ h => h) (Or.inl ⟨by rfl, fun w hS => by have hS' : w.cell? ⟨p, 1, none⟩ = some (.slice a 0 cap) := hS; go_simp⟩) S0 ?_
  refine wpAnyH_take (i := 1) (v := .pointer (some ⟨w.heap.size, 0, none⟩)) rfl (by kernel_rfl) (by kernel_rfl) (by kernel_rfl) (fun _ _ _ h => h) (Or.inl ⟨by rfl, fun w hS => by have hS' : w.cell? ⟨p, 1, none⟩ = some (.slice a 0 cap) := hS; go_simp⟩) S0 ?_
  refine wpAnyH_take (i := 2) (v := .pointer (some ⟨w.heap.size, 0, none⟩)) rfl (by kernel_rfl) (by kernel_rfl) (by kernel_rfl) (fun _ _ _ h => h) (Or.inl ⟨by rfl, fun w hS => by have hS' : w.cell? ⟨p, 1, none⟩ = some (.slice a 0 cap) := hS; go_simp⟩) S0 ?_
  refine wpAnyH_take (i := 3) (v := .pointer (some ⟨w.heap.size, 1, none⟩)) rfl (by kernel_rfl) (by kernel_rfl) (by kernel_rfl) (fun _ _ _ h => h) (Or.inl ⟨by rfl, fun w hS => by have hS' : w.cell? ⟨p, 1, none⟩ = some (.slice a 0 cap) := hS; go_simp⟩) S0 ?_
  refine wpAnyH_take (i := 5) (v := .pointer (some ⟨p, 0, none⟩)) rfl (by kernel_rfl) (by kernel_rfl) (by kernel_rfl) (fun _ _ _ h => h) (Or.inl ⟨by rfl, fun w hS => by have hS' : w.cell? ⟨p, 1, none⟩ = some (.slice a 0 cap) := hS; go_simp⟩) S0 ?_
  refine wpAnyH_take (i := 6) (v := .pointer (some ⟨p, 0, none⟩)) rfl (by kernel_rfl) (by kernel_rfl) (by kernel_rfl) (fun _ _ _ h => h) (Or.inl ⟨by rfl, fun w hS => by have hS' : w.cell? ⟨p, 1, none⟩ = some (.slice a 0 cap) := hS; go_simp⟩) S0 ?_
  refine wpAnyH_take (i := 7) (v := .pointer (some ⟨p, 1, none⟩)) rfl (by kernel_rfl) (by kernel_rfl) (by kernel_rfl) (fun _ _ _ h => h) (Or.inl ⟨by rfl, fun w hS => by have hS' : w.cell? ⟨p, 1, none⟩ = some (.slice a 0 cap) := hS; go_simp⟩) S0 ?_
  go_simp
  refine wpAnyH_take (i := 8) (v := .slice a 0 cap) rfl (by kernel_rfl) (by kernel_rfl) (by kernel_rfl) (fun _ _ _ h => h) (Or.inl ⟨by rfl, fun w hS => by have hS' : w.cell? ⟨p, 1, none⟩ = some (.slice a 0 cap) := hS; go_simp⟩) S0 ?_
  refine wpAnyH_take (i := 9) (v := .int .i64 n) rfl (by kernel_rfl) (by kernel_rfl) (by kernel_rfl) (fun _ _ _ h => h) (Or.inl ⟨by rfl, fun w hS => by have hS' : w.cell? ⟨p, 1, none⟩ = some (.slice a 0 cap) := hS; go_simp⟩) S0 ?_
  refine wpAnyH_take (i := 10) (v := .int .i64 n) rfl (by kernel_rfl) (by kernel_rfl) (by kernel_rfl) (fun _ _ _ h => h) (Or.inl ⟨by rfl, fun w hS => by have hS' : w.cell? ⟨p, 1, none⟩ = some (.slice a 0 cap) := hS; go_simp⟩) S0 ?_
  refine wpAnyH_take (i := 11) (v := .pointer (some ⟨p, 0, none⟩)) rfl (by kernel_rfl) (by kernel_rfl) (by kernel_rfl) (fun _ _ _ h => h) (Or.inl ⟨by rfl, fun w hS => by have hS' : w.cell? ⟨p, 1, none⟩ = some (.slice a 0 cap) := hS; go_simp⟩) S0 ?_
  refine wpAnyH_take (i := 12) (v := .pointer (some ⟨p, 0, none⟩)) rfl (by kernel_rfl) (by kernel_rfl) (by kernel_rfl) (fun _ _ _ h => h) (Or.inl ⟨by rfl, fun w hS => by have hS' : w.cell? ⟨p, 1, none⟩ = some (.slice a 0 cap) := hS; go_simp⟩) S0 ?_
  refine wpAnyH_take (i := 13) (v := .pointer (some ⟨p, 1, none⟩)) rfl (by kernel_rfl) (by kernel_rfl) (by kernel_rfl) (fun _ _ _ h => h) (Or.inl ⟨by rfl, fun w hS => by have hS' : w.cell? ⟨p, 1, none⟩ = some (.slice a 0 cap) := hS; go_simp⟩) S0 ?_
  refine wpAnyH_take (i := 14) (v := .slice a 0 cap) rfl (by kernel_rfl) (by kernel_rfl) (by kernel_rfl) (fun _ _ _ h => h) (Or.inl ⟨by rfl, fun w hS => by have hS' : w.cell? ⟨p, 1, none⟩ = some (.slice a 0 cap) := hS; go_simp⟩) S0 ?_
  go_simp
  refine wpAnyH_take (i := 15) (v := .int .i64 0) rfl (by kernel_rfl) (by kernel_rfl) (by kernel_rfl) (fun _ _ _ h => h) (Or.inl ⟨by rfl, fun w hS => by have hS' : w.cell? ⟨p, 1, none⟩ = some (.slice a 0 cap) := hS; go_simp⟩) S0 ?_
  refine wpAnyH_take (i := 16) (v := .int .i64 0) rfl (by kernel_rfl) (by kernel_rfl) (by kernel_rfl) (fun _ _ _ h => h) (Or.inl ⟨by rfl, fun w hS => by have hS' : w.cell? ⟨p, 1, none⟩ = some (.slice a 0 cap) := hS; go_simp⟩) S0 ?_
  refine wpAnyH_take (i := 17) (v := .slice a' 0 cap) rfl (by kernel_rfl) (by kernel_rfl) (by kernel_rfl) (fun _ _ _ h => h) (Or.inl ⟨by rfl, fun w hS => by have hS' : w.cell? ⟨p, 1, none⟩ = some (.slice a 0 cap) := hS; go_simp⟩) S0 ?_
  go_simp
  refine wpAnyH_ready (rs := [4]) (by kernel_rfl) (by simp) (AllReadyH.cons rfl (fun K hK => ?_) AllReadyH.nil)
  refine step_load (by kernel_rfl) 50 (.tmp 14) (by kernel_rfl) (.pointer (some ⟨w.heap.size, 1, none⟩)) (by kernel_rfl) (load50 _ _ _ hcr) (hK.out _ _ S0 (fun _ => ?_))
  clear hK K
  go_simp
  refine wpAnyH_ready (rs := [18]) (by kernel_rfl) (by simp) (AllReadyH.cons rfl (fun K hK => ?_) AllReadyH.nil)
  refine step_append_run (by kernel_rfl) (.tmp 15) (.tmp 28) 50 (by kernel_rfl) (.slice none 0 0) (.slice a' 0 cap) (by kernel_rfl) (by kernel_rfl) (by kernel_rfl) hap (hK.out _ _ S0 (fun _ => ?_))
  have S4 : ∀ u, ((w.alloc (.cells #[.int .i64 (s.nb : Int), .slice none 0 0, .int .i64 (-1), .bool false] 52)).drew.setCell ⟨w.heap.size, 1, none⟩ u).cell? ⟨p, 1, none⟩ = some (.slice a 0 cap) := fun u => (World.cell?_setCell_far _ ⟨w.heap.size, 1, none⟩ ⟨p, 1, none⟩ u (by show w.heap.size ≠ p; omega)).trans S0
  clear hK K
  go_simp
  refine wpAnyH_take (i := 19) (v := .pointer (some ⟨w.heap.size, 0, none⟩)) rfl (by kernel_rfl) (by kernel_rfl) (by kernel_rfl) (fun _ _ _ h => h) (Or.inl ⟨by rfl, fun w hS => by have hS' : w.cell? ⟨p, 1, none⟩ = some (.slice a 0 cap) := hS; go_simp⟩) S0 ?_
  refine wpAnyH_take (i := 20) (v := .pointer (some ⟨w.heap.size, 1, none⟩)) rfl (by kernel_rfl) (by kernel_rfl) (by kernel_rfl) (fun _ _ _ h => h) (Or.inl ⟨by rfl, fun w hS => by have hS' : w.cell? ⟨p, 1, none⟩ = some (.slice a 0 cap) := hS; go_simp⟩) S0 ?_
  go_simp
  refine wpAnyH_ready (rs := [21]) (by kernel_rfl) (by simp) (AllReadyH.cons rfl (fun K hK => ?_) AllReadyH.nil)
  refine step_store (by kernel_rfl) 50 (.tmp 31) (.tmp 29) (by kernel_rfl) (.pointer (some ⟨w.heap.size, 1, none⟩)) (.slice none 0 0) (by kernel_rfl) (by kernel_rfl) (store50 _ _ _ _ _ _ hcr hfr) (hK.out _ _ (S4 _) (fun _ => ?_))
  clear hK K
  generalize (w.alloc (.cells #[.int .i64 (s.nb : Int), .slice none 0 0, .int .i64 (-1), .bool false] 52)).drew.setCell ⟨w.heap.size, 1, none⟩ (.slice none 0 0) = w4 at hfin
  clear S0 S4 hcr hfr hap
  go_simp
  refine wpAnyH_done (by kernel_rfl) ?_ _
  go_wp2
  go_ret
  exact ⟨_, rfl, hfin⟩

end Go.Proofs.Ytmbfojjmnjagiaa
