/-
  Pages in memory; has.
-/
import Derived.Test.YtilelklcfgemoaaPIn
import Derived.BigQuiet
namespace Go.Proofs.Ytilelklcfgemoaa
open Go.RowKit
set_option linter.unusedVariables false

/-- The blocks that slices lie in. -/
def obs (vs : List Value) : List Nat := vs.flatMap fun v => v.ownBlock.toList
theorem mem_obs {vs : List Value} {x : Nat} : x ∈ obs vs ↔ ∃ v ∈ vs, v.ownBlock = some x := by simp [obs, List.mem_flatMap, Option.mem_toList]
/-- A text in memory: its name, its blocks, the slice that has them. -/
abbrev Tx := Nat × List Nat × Value
def entry (x : Tx) : Int × Value := ((x.1 : Int), x.2.2)
/-- Pages at block p, of the disk at q; the blocks that are their own are G. -/
def IsP (w : World) (G : List Nat) (p q fr ct : Nat) (T : List (Nat × List Nat)) (fl : List Nat) : Prop :=
  ∃ (mb : Nat) (vf : Value) (M : List Tx), G = p :: mb :: (vf.ownBlock.toList ++ obs (M.map (·.2.2))) ∧
    w.heap[p]? = some (.cells #[.pointer (some ⟨q, 0, none⟩), .int .i64 (fr : Int), .int .i64 (ct : Int), .map (some mb), vf] 62 (0, 0)) ∧
    Mp w mb (M.map entry) ∧ T = M.map (fun x => (x.1, x.2.1)) ∧ (∀ x ∈ M, ReadsI w x.2.2 x.2.1 ∧ ∀ g, x.2.2.ownBlock = some g → g < w.heap.size ∧ g ≠ p ∧ g ≠ mb ∧ vf.ownBlock ≠ some g) ∧
    FrS w vf fl ∧ p ≠ mb ∧ vf.ownBlock ≠ some p ∧ vf.ownBlock ≠ some mb
section
variable {w w' : World} {G S : List Nat} {p q fr ct : Nat} {T : List (Nat × List Nat)} {fl : List Nat}
theorem IsP.kept (h : IsP w G p q fr ct T fl) (k : Kept S w w') (hn : ∀ x ∈ G, x ∉ S) : IsP w' G p q fr ct T fl := by
  obtain ⟨mb, vf, M, rfl, h1, h2, h3, h4, h5, h6⟩ := h
  refine ⟨mb, vf, M, rfl, k.keeps h1 (hn p (by simp)), h2.kept k (hn mb (by simp)), h3, fun x hx => ⟨(h4 x hx).1.kept k fun g hg => hn g ?_, fun g hg => ⟨Nat.lt_of_lt_of_le ((h4 x hx).2 g hg).1 k.size, ((h4 x hx).2 g hg).2⟩⟩, h5.kept k fun g hg => hn g (by simp [hg]), h6⟩
  simp only [List.mem_cons, List.mem_append, mem_obs, List.mem_map]
  exact .inr (.inr (.inr ⟨x.2.2, ⟨x, hx, rfl⟩, hg⟩))
theorem IsP.lt (h : IsP w G p q fr ct T fl) : ∀ x ∈ G, x < w.heap.size := by
  obtain ⟨mb, vf, M, rfl, h1, h2, h3, h4, h5, h6⟩ := h
  intro x hx
  simp only [List.mem_cons, List.mem_append, Option.mem_toList, mem_obs, List.mem_map] at hx
  rcases hx with rfl | rfl | hx | ⟨v, ⟨y, hy, rfl⟩, hx⟩
  · exact lt_of_block h1
  · exact h2.lt
  · exact h5.lt hx
  · exact ((h4 y hy).2 x hx).1
theorem IsP.pG (h : IsP w G p q fr ct T fl) : p ∈ G := by
  obtain ⟨mb, vf, M, rfl, _⟩ := h
  simp
theorem IsP.cells (h : IsP w G p q fr ct T fl) : w.cell? ⟨p, 0, none⟩ = some (.pointer (some ⟨q, 0, none⟩)) ∧ w.cell? ⟨p, 1, none⟩ = some (.int .i64 (fr : Int)) ∧ w.cell? ⟨p, 2, none⟩ = some (.int .i64 (ct : Int)) := by
  obtain ⟨mb, vf, M, rfl, h1, _⟩ := h
  simp [World.cell?, h1]
theorem IsP.free (h : IsP w G p q fr ct T fl) (j : Nat) : w.frozen? ⟨p, j, none⟩ = false := by
  obtain ⟨mb, vf, M, rfl, h1, _⟩ := h
  simp [World.frozen?, h1]
/-- The map, and what it has. -/
theorem IsP.map (h : IsP w G p q fr ct T fl) : ∃ (mb : Nat) (M : List Tx), w.cell? ⟨p, 3, none⟩ = some (.map (some mb)) ∧ Mp w mb (M.map entry) ∧ T = M.map (fun x => (x.1, x.2.1)) ∧ (∀ x ∈ M, ReadsI w x.2.2 x.2.1) ∧ mb ∈ G := by
  obtain ⟨mb, vf, M, rfl, h1, h2, h3, h4, h5⟩ := h
  exact ⟨mb, M, by simp [World.cell?, h1], h2, h3, fun x hx => (h4 x hx).1, by simp⟩
theorem IsP.frs (h : IsP w G p q fr ct T fl) : ∃ vf, w.cell? ⟨p, 4, none⟩ = some vf ∧ FrS w vf fl := by
  obtain ⟨mb, vf, M, rfl, h1, h2, h3, h4, h5, _⟩ := h
  exact ⟨vf, by simp [World.cell?, h1], h5⟩
end
theorem IsP.new (w : World) (q fr ct : Nat) : IsP ((w.alloc (.map #[] 0)).alloc (.cells #[.pointer (some ⟨q, 0, none⟩), .int .i64 (fr : Int), .int .i64 (ct : Int), .map (some w.heap.size), .slice none 0 0] 62)) [w.heap.size + 1, w.heap.size] (w.heap.size + 1) q fr ct [] [] := by
  have hb := heap_alloc_new (w.alloc (.map #[] 0)) (.cells #[.pointer (some ⟨q, 0, none⟩), .int .i64 (fr : Int), .int .i64 (ct : Int), .map (some w.heap.size), .slice none 0 0] 62)
  rw [World.size_alloc] at hb
  exact ⟨w.heap.size, .slice none 0 0, [], rfl, hb, (Mp.made w).kept (kept_alloc _ _) (by simp), rfl, by simp, FrS.nil _, by omega, by simp [Value.ownBlock], by simp [Value.ownBlock]⟩
set_option maxRecDepth 100000 in
theorem has_in (p fr ct i : Nat) (w : World) (c1 : w.cell? ⟨p, 1, none⟩ = some (.int .i64 (fr : Int))) (c2 : w.cell? ⟨p, 2, none⟩ = some (.int .i64 (ct : Int))) (h1 : fr ≤ i) (h2 : i < fr + ct) (hb : fr + ct ≤ 65536) :
    Calls Try.prog 29 #[.pointer (some ⟨p, 0, none⟩), .int .i64 (i : Int)] w fun e w' => e = .returned (.bool true) ∧ Kept [] w w' := by
  have d1 : decide ((fr : Int) ≤ (i : Int)) = true := by simp; omega
  have hw : IntKind.i64.wrap ((i : Int) - (fr : Int)) = (i : Int) - (fr : Int) := by rw [IntKind.wrap_i64]; omega
  have d2 : decide ((i : Int) - (fr : Int) < (ct : Int)) = true := by simp; omega
  have kd : ∀ N, Kept [] w (w.drewN N) := fun N => (Kept.refl [] w).drewN N
  go_enter Try.func29, Try.ntmps29
  go_wp2_with fail
  go_quiet (fail)
  go_wp2
  go_ret
  exact ⟨by first | rfl | (simp; omega) | simp, kd _⟩
set_option maxRecDepth 100000 in
theorem has_out (p fr ct i : Nat) (w : World) (c1 : w.cell? ⟨p, 1, none⟩ = some (.int .i64 (fr : Int))) (c2 : w.cell? ⟨p, 2, none⟩ = some (.int .i64 (ct : Int))) (h : i < fr ∨ fr + ct ≤ i) (hb : fr + ct ≤ 65536) (hi : i < 4611686018427387904) :
    Calls Try.prog 29 #[.pointer (some ⟨p, 0, none⟩), .int .i64 (i : Int)] w fun e w' => e = .returned (.bool false) ∧ Kept [] w w' := by
  have hw : IntKind.i64.wrap ((i : Int) - (fr : Int)) = (i : Int) - (fr : Int) := by rw [IntKind.wrap_i64]; omega
  have kd : ∀ N, Kept [] w (w.drewN N) := fun N => (Kept.refl [] w).drewN N
  by_cases h1 : fr ≤ i
  · have d1 : decide ((fr : Int) ≤ (i : Int)) = true := by simp; omega
    have d2 : decide ((i : Int) - (fr : Int) < (ct : Int)) = false := by simp; omega
    go_enter Try.func29, Try.ntmps29
    go_wp2_with fail
    go_quiet (fail)
    go_wp2
    go_ret
    exact ⟨by first | rfl | (simp; omega) | simp, kd _⟩
  · have d1 : decide ((fr : Int) ≤ (i : Int)) = false := by simp; omega
    go_enter Try.func29, Try.ntmps29
    go_wp2_with fail
    go_quiet (fail)
    go_wp2
    go_ret
    exact ⟨by first | rfl | (simp; omega) | simp, kd _⟩
end Go.Proofs.Ytilelklcfgemoaa
