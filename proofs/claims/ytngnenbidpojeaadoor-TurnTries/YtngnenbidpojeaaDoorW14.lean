import Derived.Deep.RegionHeld3
import Derived.Test.YtngnenbidpojeaaDoorW04
import Derived.Test.YtngnenbidpojeaaDoorW13
/-
  All of an outbox.
-/
namespace Go.Proofs.YtngnenbidpojeaaDoor
set_option maxRecDepth 100000
open Go.RowKit
set_option linter.unusedVariables false
/-- Nothing on its way. -/
def zy : Yq := ⟨[], ⟨⟨[], 0, 0, []⟩, none, 0⟩⟩
/-- A row of letters on their way, in memory of its own since w0, with their Args. -/
structure OwnY (t : TypeId) (w0 w : World) (v : Value) (qs : List Yq) : Prop where
  own : OwnsR t 5 w v (CY qs)
  args : ∀ y ∈ qs, OwnsJ w y.q.sl y.q.x.args
  fr : Fresh w0 v
  fra : ∀ y ∈ qs, Fresh w0 y.q.sl
theorem OwnY.nil (t : TypeId) (w0 w : World) : OwnY t w0 w (.slice none 0 0) [] := ⟨OwnsR.nil t 5 w, by simp, fresh_nil w0 0, by simp⟩
theorem OwnY.kept {t : TypeId} {w0 w w' : World} {v : Value} {qs : List Yq} {S : List Nat} (h : OwnY t w0 w v qs) (k : Kept S w w') (hS : ∀ g ∈ S, v.ownBlock ≠ some g ∧ ∀ y ∈ qs, y.q.sl.ownBlock ≠ some g) : OwnY t w0 w' v qs :=
  ⟨h.own.kept k (fun g hg hm => (hS g hm).1 hg), fun y hy => (h.args y hy).kept k (fun g hg hm => (hS g hm).2 y hy hg), h.fr, h.fra⟩
theorem OwnY.kept0 {t : TypeId} {w0 w w' : World} {v : Value} {qs : List Yq} (h : OwnY t w0 w v qs) (k : Kept [] w w') : OwnY t w0 w' v qs := h.kept k (by simp)
theorem OwnY.row {t : TypeId} {w0 w : World} {v : Value} {qs : List Yq} (h : OwnY t w0 w v qs) : ReadsR 5 w v (CY qs) := h.own.reads (CY_wide qs)
theorem rowY_at {w : World} {a : Option Addr} {n c : Nat} {l : List Yq} (h : ReadsR 5 w (.slice a n c) (CY l)) {j : Nat} {y : Yq} (hy : l[j]? = some y) : ∃ b o, a = some ⟨b, o, none⟩ ∧ w.cell? ⟨b, o + j * 5, none⟩ = some (Sv y.to) ∧ w.cell? ⟨b, o + j * 5 + 1, none⟩ = some (Sv y.q.x.fr) ∧ w.cell? ⟨b, o + j * 5 + 2, none⟩ = some (.int .u64 (y.q.x.ser : Int)) ∧ w.cell? ⟨b, o + j * 5 + 3, none⟩ = some (.int .i64 y.q.x.kind) ∧ w.cell? ⟨b, o + j * 5 + 4, none⟩ = some y.q.sl := by
  obtain ⟨b, o, c', e, hc⟩ := ReadsR.at h j (cellsY y) (by simp [CY, hy])
  injection e with e _ _
  have h0 := hc 0 _ rfl
  have h1 := hc 1 _ rfl
  have h2 := hc 2 _ rfl
  have h3 := hc 3 _ rfl
  have h4 := hc 4 _ rfl
  rw [Nat.add_zero] at h0
  exact ⟨b, o, e, h0, h1, h2, h3, h4⟩
/-- A row of letters that is stored into. -/
theorem flat_set5 (ds zs : List Yq) (z y : Yq) : (((((CY (ds ++ z :: zs)).flatten.set (ds.length * 5) (Sv y.to)).set (ds.length * 5 + 1) (Sv y.q.x.fr)).set (ds.length * 5 + 2) (.int .u64 (y.q.x.ser : Int))).set (ds.length * 5 + 3) (.int .i64 y.q.x.kind)).set (ds.length * 5 + 4) y.q.sl = (CY (ds ++ y :: zs)).flatten := by
  have h : (CY ds).flatten.length = ds.length * 5 := by rw [(CY_wide ds).flat_length, CY_length]
  rw [CY_append, CY_append, List.flatten_append, List.flatten_append, ← h]
  rw [List.set_append_right _ _ (Nat.le_refl _), List.set_append_right _ _ (by omega), List.set_append_right _ _ (by omega), List.set_append_right _ _ (by omega), List.set_append_right _ _ (by omega)]
  rw [Nat.sub_self, Nat.add_sub_cancel_left, Nat.add_sub_cancel_left, Nat.add_sub_cancel_left, Nat.add_sub_cancel_left]
  rfl
theorem make_outs0 (W : World) : (Instr.makeSlice 54 (.int .i64 0) (.int .i64 0)).run Tryd.prog W = .ok (.slice (some ⟨W.heap.size, 0, none⟩) 0 0) (W.alloc (.cells (CY (List.replicate 0 zy)).flatten.toArray 91)) := by kernel_rfl
theorem make_outs1 (W : World) : (Instr.makeSlice 54 (.int .i64 1) (.int .i64 1)).run Tryd.prog W = .ok (.slice (some ⟨W.heap.size, 0, none⟩) 1 1) (W.alloc (.cells (CY (List.replicate 1 zy)).flatten.toArray 91)) := by kernel_rfl
theorem make_outs2 (W : World) : (Instr.makeSlice 54 (.int .i64 2) (.int .i64 2)).run Tryd.prog W = .ok (.slice (some ⟨W.heap.size, 0, none⟩) 2 2) (W.alloc (.cells (CY (List.replicate 2 zy)).flatten.toArray 91)) := by kernel_rfl
theorem make_outs3 (W : World) : (Instr.makeSlice 54 (.int .i64 3) (.int .i64 3)).run Tryd.prog W = .ok (.slice (some ⟨W.heap.size, 0, none⟩) 3 3) (W.alloc (.cells (CY (List.replicate 3 zy)).flatten.toArray 91)) := by kernel_rfl
theorem make_outs4 (W : World) : (Instr.makeSlice 54 (.int .i64 4) (.int .i64 4)).run Tryd.prog W = .ok (.slice (some ⟨W.heap.size, 0, none⟩) 4 4) (W.alloc (.cells (CY (List.replicate 4 zy)).flatten.toArray 91)) := by kernel_rfl
theorem make_outs5 (W : World) : (Instr.makeSlice 54 (.int .i64 5) (.int .i64 5)).run Tryd.prog W = .ok (.slice (some ⟨W.heap.size, 0, none⟩) 5 5) (W.alloc (.cells (CY (List.replicate 5 zy)).flatten.toArray 91)) := by kernel_rfl
theorem make_outs6 (W : World) : (Instr.makeSlice 54 (.int .i64 6) (.int .i64 6)).run Tryd.prog W = .ok (.slice (some ⟨W.heap.size, 0, none⟩) 6 6) (W.alloc (.cells (CY (List.replicate 6 zy)).flatten.toArray 91)) := by kernel_rfl
theorem make_outs7 (W : World) : (Instr.makeSlice 54 (.int .i64 7) (.int .i64 7)).run Tryd.prog W = .ok (.slice (some ⟨W.heap.size, 0, none⟩) 7 7) (W.alloc (.cells (CY (List.replicate 7 zy)).flatten.toArray 91)) := by kernel_rfl
theorem make_outs8 (W : World) : (Instr.makeSlice 54 (.int .i64 8) (.int .i64 8)).run Tryd.prog W = .ok (.slice (some ⟨W.heap.size, 0, none⟩) 8 8) (W.alloc (.cells (CY (List.replicate 8 zy)).flatten.toArray 91)) := by kernel_rfl
theorem make_outs9 (W : World) : (Instr.makeSlice 54 (.int .i64 9) (.int .i64 9)).run Tryd.prog W = .ok (.slice (some ⟨W.heap.size, 0, none⟩) 9 9) (W.alloc (.cells (CY (List.replicate 9 zy)).flatten.toArray 91)) := by kernel_rfl
theorem make_outs10 (W : World) : (Instr.makeSlice 54 (.int .i64 10) (.int .i64 10)).run Tryd.prog W = .ok (.slice (some ⟨W.heap.size, 0, none⟩) 10 10) (W.alloc (.cells (CY (List.replicate 10 zy)).flatten.toArray 91)) := by kernel_rfl
theorem make_outs11 (W : World) : (Instr.makeSlice 54 (.int .i64 11) (.int .i64 11)).run Tryd.prog W = .ok (.slice (some ⟨W.heap.size, 0, none⟩) 11 11) (W.alloc (.cells (CY (List.replicate 11 zy)).flatten.toArray 91)) := by kernel_rfl
theorem make_outs12 (W : World) : (Instr.makeSlice 54 (.int .i64 12) (.int .i64 12)).run Tryd.prog W = .ok (.slice (some ⟨W.heap.size, 0, none⟩) 12 12) (W.alloc (.cells (CY (List.replicate 12 zy)).flatten.toArray 91)) := by kernel_rfl
theorem make_outs13 (W : World) : (Instr.makeSlice 54 (.int .i64 13) (.int .i64 13)).run Tryd.prog W = .ok (.slice (some ⟨W.heap.size, 0, none⟩) 13 13) (W.alloc (.cells (CY (List.replicate 13 zy)).flatten.toArray 91)) := by kernel_rfl
theorem make_outs14 (W : World) : (Instr.makeSlice 54 (.int .i64 14) (.int .i64 14)).run Tryd.prog W = .ok (.slice (some ⟨W.heap.size, 0, none⟩) 14 14) (W.alloc (.cells (CY (List.replicate 14 zy)).flatten.toArray 91)) := by kernel_rfl
theorem make_outs15 (W : World) : (Instr.makeSlice 54 (.int .i64 15) (.int .i64 15)).run Tryd.prog W = .ok (.slice (some ⟨W.heap.size, 0, none⟩) 15 15) (W.alloc (.cells (CY (List.replicate 15 zy)).flatten.toArray 91)) := by kernel_rfl
theorem make_outs16 (W : World) : (Instr.makeSlice 54 (.int .i64 16) (.int .i64 16)).run Tryd.prog W = .ok (.slice (some ⟨W.heap.size, 0, none⟩) 16 16) (W.alloc (.cells (CY (List.replicate 16 zy)).flatten.toArray 91)) := by kernel_rfl
theorem make_outs17 (W : World) : (Instr.makeSlice 54 (.int .i64 17) (.int .i64 17)).run Tryd.prog W = .ok (.slice (some ⟨W.heap.size, 0, none⟩) 17 17) (W.alloc (.cells (CY (List.replicate 17 zy)).flatten.toArray 91)) := by kernel_rfl
theorem make_outs18 (W : World) : (Instr.makeSlice 54 (.int .i64 18) (.int .i64 18)).run Tryd.prog W = .ok (.slice (some ⟨W.heap.size, 0, none⟩) 18 18) (W.alloc (.cells (CY (List.replicate 18 zy)).flatten.toArray 91)) := by kernel_rfl
theorem make_outs19 (W : World) : (Instr.makeSlice 54 (.int .i64 19) (.int .i64 19)).run Tryd.prog W = .ok (.slice (some ⟨W.heap.size, 0, none⟩) 19 19) (W.alloc (.cells (CY (List.replicate 19 zy)).flatten.toArray 91)) := by kernel_rfl
theorem make_outs20 (W : World) : (Instr.makeSlice 54 (.int .i64 20) (.int .i64 20)).run Tryd.prog W = .ok (.slice (some ⟨W.heap.size, 0, none⟩) 20 20) (W.alloc (.cells (CY (List.replicate 20 zy)).flatten.toArray 91)) := by kernel_rfl
theorem make_outs21 (W : World) : (Instr.makeSlice 54 (.int .i64 21) (.int .i64 21)).run Tryd.prog W = .ok (.slice (some ⟨W.heap.size, 0, none⟩) 21 21) (W.alloc (.cells (CY (List.replicate 21 zy)).flatten.toArray 91)) := by kernel_rfl
theorem make_outs22 (W : World) : (Instr.makeSlice 54 (.int .i64 22) (.int .i64 22)).run Tryd.prog W = .ok (.slice (some ⟨W.heap.size, 0, none⟩) 22 22) (W.alloc (.cells (CY (List.replicate 22 zy)).flatten.toArray 91)) := by kernel_rfl
theorem make_outs23 (W : World) : (Instr.makeSlice 54 (.int .i64 23) (.int .i64 23)).run Tryd.prog W = .ok (.slice (some ⟨W.heap.size, 0, none⟩) 23 23) (W.alloc (.cells (CY (List.replicate 23 zy)).flatten.toArray 91)) := by kernel_rfl
theorem make_outs24 (W : World) : (Instr.makeSlice 54 (.int .i64 24) (.int .i64 24)).run Tryd.prog W = .ok (.slice (some ⟨W.heap.size, 0, none⟩) 24 24) (W.alloc (.cells (CY (List.replicate 24 zy)).flatten.toArray 91)) := by kernel_rfl
theorem make_outs25 (W : World) : (Instr.makeSlice 54 (.int .i64 25) (.int .i64 25)).run Tryd.prog W = .ok (.slice (some ⟨W.heap.size, 0, none⟩) 25 25) (W.alloc (.cells (CY (List.replicate 25 zy)).flatten.toArray 91)) := by kernel_rfl
theorem make_outs26 (W : World) : (Instr.makeSlice 54 (.int .i64 26) (.int .i64 26)).run Tryd.prog W = .ok (.slice (some ⟨W.heap.size, 0, none⟩) 26 26) (W.alloc (.cells (CY (List.replicate 26 zy)).flatten.toArray 91)) := by kernel_rfl
theorem make_outs27 (W : World) : (Instr.makeSlice 54 (.int .i64 27) (.int .i64 27)).run Tryd.prog W = .ok (.slice (some ⟨W.heap.size, 0, none⟩) 27 27) (W.alloc (.cells (CY (List.replicate 27 zy)).flatten.toArray 91)) := by kernel_rfl
theorem make_outs28 (W : World) : (Instr.makeSlice 54 (.int .i64 28) (.int .i64 28)).run Tryd.prog W = .ok (.slice (some ⟨W.heap.size, 0, none⟩) 28 28) (W.alloc (.cells (CY (List.replicate 28 zy)).flatten.toArray 91)) := by kernel_rfl
theorem make_outs29 (W : World) : (Instr.makeSlice 54 (.int .i64 29) (.int .i64 29)).run Tryd.prog W = .ok (.slice (some ⟨W.heap.size, 0, none⟩) 29 29) (W.alloc (.cells (CY (List.replicate 29 zy)).flatten.toArray 91)) := by kernel_rfl
theorem make_outs30 (W : World) : (Instr.makeSlice 54 (.int .i64 30) (.int .i64 30)).run Tryd.prog W = .ok (.slice (some ⟨W.heap.size, 0, none⟩) 30 30) (W.alloc (.cells (CY (List.replicate 30 zy)).flatten.toArray 91)) := by kernel_rfl
theorem make_outs31 (W : World) : (Instr.makeSlice 54 (.int .i64 31) (.int .i64 31)).run Tryd.prog W = .ok (.slice (some ⟨W.heap.size, 0, none⟩) 31 31) (W.alloc (.cells (CY (List.replicate 31 zy)).flatten.toArray 91)) := by kernel_rfl
theorem make_outs32 (W : World) : (Instr.makeSlice 54 (.int .i64 32) (.int .i64 32)).run Tryd.prog W = .ok (.slice (some ⟨W.heap.size, 0, none⟩) 32 32) (W.alloc (.cells (CY (List.replicate 32 zy)).flatten.toArray 91)) := by kernel_rfl
theorem make_outs (n : Nat) (h : n ≤ 32) (W : World) : (Instr.makeSlice 54 (.int .i64 (n : Int)) (.int .i64 (n : Int))).run Tryd.prog W = .ok (.slice (some ⟨W.heap.size, 0, none⟩) n n) (W.alloc (.cells (CY (List.replicate n zy)).flatten.toArray 91)) := by
  match n, h with
  | 0, _ => exact make_outs0 W
  | 1, _ => exact make_outs1 W
  | 2, _ => exact make_outs2 W
  | 3, _ => exact make_outs3 W
  | 4, _ => exact make_outs4 W
  | 5, _ => exact make_outs5 W
  | 6, _ => exact make_outs6 W
  | 7, _ => exact make_outs7 W
  | 8, _ => exact make_outs8 W
  | 9, _ => exact make_outs9 W
  | 10, _ => exact make_outs10 W
  | 11, _ => exact make_outs11 W
  | 12, _ => exact make_outs12 W
  | 13, _ => exact make_outs13 W
  | 14, _ => exact make_outs14 W
  | 15, _ => exact make_outs15 W
  | 16, _ => exact make_outs16 W
  | 17, _ => exact make_outs17 W
  | 18, _ => exact make_outs18 W
  | 19, _ => exact make_outs19 W
  | 20, _ => exact make_outs20 W
  | 21, _ => exact make_outs21 W
  | 22, _ => exact make_outs22 W
  | 23, _ => exact make_outs23 W
  | 24, _ => exact make_outs24 W
  | 25, _ => exact make_outs25 W
  | 26, _ => exact make_outs26 W
  | 27, _ => exact make_outs27 W
  | 28, _ => exact make_outs28 W
  | 29, _ => exact make_outs29 W
  | 30, _ => exact make_outs30 W
  | 31, _ => exact make_outs31 W
  | 32, _ => exact make_outs32 W
  | k + 33, h => exact absurd h (by omega)
section
variable {w : World} {p : Nat} {own : List UInt8} {K : List La} {qs : List Yq}
set_option maxHeartbeats 1000000 in
theorem all21 (hB : IsO w p own K qs) (hft : Fitq qs) : Calls Tryd.prog 12 #[.pointer (some ⟨p, 0, none⟩)] w fun e w' => ∃ v, e = .returned v ∧ ∃ qs', qs'.map ot = qs.map ot ∧ OwnY 91 w w' v qs' ∧ Kept [] w w' := by
  have HB := Hid.mk hB
  have HFT := Hid.mk hft
  have hc := hB.count
  have hl := hB.ln
  have hpl := hB.lt
  clear hB hft
  have hi0 : (0 : Int) ≤ (qs.length : Int) := by omega
  have hi1 : (qs.length : Int) ≤ 32 := by omega
  obtain ⟨L, hL⟩ : ∃ L, L = (CY (List.replicate qs.length zy)).flatten := ⟨_, rfl⟩
  have hmk := make_outs qs.length hl w
  rw [← hL] at hmk
  have HL := Hid.mk hL
  clear hL
  generalize hn : qs.length = n at *
  have HN := Hid.mk hn
  clear hn
  go_enter Tryd.func12, Tryd.ntmps12
  go_wp2_with fail
  have hg0 : (w.alloc (.cells L.toArray 91)).heap[w.heap.size]? = some (.cells L.toArray 91 (0, 0)) := heap_alloc_new w _
  have k0 := (Kept.refl [] w).alloc (.cells L.toArray 91)
  have hz0 : w.heap.size < (w.alloc (.cells L.toArray 91)).heap.size := by simp
  generalize w.alloc (.cells L.toArray 91) = W0 at hg0 k0 hz0 ⊢
  go_loopw [14] (fun i wr => ∃ (j : Nat) (ds : List Yq), i = .int .i64 (j : Int) ∧ j ≤ n ∧ Hid (ds.length = j ∧ ds.map ot = (qs.take j).map ot ∧ (∀ y ∈ ds, OwnsJ wr y.q.sl y.q.x.args ∧ Fresh w y.q.sl) ∧ wr.heap[w.heap.size]? = some (.cells (CY (ds ++ List.replicate (n - j) zy)).flatten.toArray 91 (0, 0)) ∧ Kept [] w wr)) (fun i _ => n - (intOf i).toNat)
  case atStart =>
    refine ⟨0, [], rfl, by omega, Hid.mk ⟨rfl, rfl, by simp, ?_, k0⟩⟩
    rw [HL.out] at hg0
    exact hg0
  case round =>
    obtain ⟨j, ds, rfl, hj, hH⟩ := hrel
    by_cases hlt : j < n
    · have hjI : (j : Int) < (n : Int) := by omega
      have hj0 : (0 : Int) ≤ (j : Int) := by omega
      have hj8 : (j : Int) < 32 := by omega
      obtain ⟨hdl, hdm, hda, hdb, kk⟩ := hH.out
      obtain ⟨y, hy⟩ : ∃ q, qs[j]? = some q := ⟨_, List.getElem?_eq_getElem (by have := HN.out; omega)⟩
      have hBr := HB.out.kept0 kk
      obtain ⟨d0, d1, d2, d3, d4⟩ := hBr.at hy
      have hqm := List.mem_of_getElem? hy
      obtain ⟨l1, l2, l3⟩ := HFT.out y hqm
      have HC := Hid.mk (copyOut62 y.to y.q.x y.q.ad y.q.cap (hBr.args y hqm).reads (by omega) (by omega) (by omega))
      have HQ := Hid.mk hy
      clear hdl hdm hda hdb kk hy hBr hqm l1 l2 l3
      go_wp2_with fail
      refine HC.out.mono ?_
      rintro e w2 ⟨a2, c2, rfl, hO2, k2, hf2⟩
      obtain ⟨hdl, hdm, hda, hdb, kk⟩ := hH.out
      have hb2 := k2.keeps hdb (by simp)
      have hrep : List.replicate (n - j) zy = zy :: List.replicate (n - (j + 1)) zy := by rw [show n - j = n - (j + 1) + 1 by omega, List.replicate_succ]
      rw [hrep] at hb2
      obtain ⟨W3, e3, k3, h3, hz3⟩ := putY (o := j * 5) hb2 (Sv y.to) (Sv y.q.x.fr) (.int .u64 (y.q.x.ser : Int)) (.int .i64 y.q.x.kind) (.slice a2 y.q.x.args.length c2)
      have hfs := flat_set5 ds (List.replicate (n - (j + 1)) zy) zy ⟨y.to, y.q.x, a2, c2⟩
      rw [hdl] at hfs
      rw [hfs] at h3
      have hcell : ∀ i, i < 5 → ∃ v, w2.cell? ⟨w.heap.size, j * 5 + i, none⟩ = some v := fun i hi => by
        have hlen : (CY (ds ++ zy :: List.replicate (n - (j + 1)) zy)).flatten.length = n * 5 := by
          rw [(CY_wide _).flat_length, CY_length]; simp; omega
        exact ⟨_, IsO.cell hb2 (List.getElem?_eq_getElem (by rw [hlen]; omega))⟩
      obtain ⟨x0, hx0⟩ := hcell 0 (by omega)
      obtain ⟨x1, hx1⟩ := hcell 1 (by omega)
      obtain ⟨x2, hx2⟩ := hcell 2 (by omega)
      obtain ⟨x3, hx3⟩ := hcell 3 (by omega)
      obtain ⟨x4, hx4⟩ := hcell 4 (by omega)
      rw [Nat.add_zero] at hx0
      have hfz : ∀ i, w2.frozen? ⟨w.heap.size, i, none⟩ = false := fun i => by simp [World.frozen?, hb2]
      have f0 := hfz (j * 5)
      have f1 := hfz (j * 5 + 1)
      have f2 := hfz (j * 5 + 2)
      have f3 := hfz (j * 5 + 3)
      have f4 := hfz (j * 5 + 4)
      have k03 : Kept [] w W3 := (kk.trans k2 (by simp)).trans k3 (by simp)
      have HR : Hid ((ds ++ [(⟨y.to, y.q.x, a2, c2⟩ : Yq)]).length = j + 1 ∧ (ds ++ [(⟨y.to, y.q.x, a2, c2⟩ : Yq)]).map ot = (qs.take (j + 1)).map ot ∧ (∀ z ∈ ds ++ [(⟨y.to, y.q.x, a2, c2⟩ : Yq)], OwnsJ W3 z.q.sl z.q.x.args ∧ Fresh w z.q.sl) ∧ W3.heap[w.heap.size]? = some (.cells (CY ((ds ++ [⟨y.to, y.q.x, a2, c2⟩]) ++ List.replicate (n - (j + 1)) zy)).flatten.toArray 91 (0, 0)) ∧ Kept [] w W3) := by
        refine ⟨by simp [hdl], ?_, fun z hz => ?_, ?_, k03⟩
        · rw [List.take_add_one, HQ.out, List.map_append, List.map_append, hdm]
          rfl
        · have hz' : OwnsJ w2 z.q.sl z.q.x.args ∧ Fresh w z.q.sl := by
            rcases List.mem_append.1 hz with h | h
            · exact ⟨(hda z h).1.kept k2 (by simp), (hda z h).2⟩
            · simp at h; subst h; exact ⟨hO2, fun g hg => by have := hf2 g hg; have := kk.size; omega⟩
          exact ⟨hz'.1.kept k3 (fun g hg hm => by simp at hm; subst hm; exact ownsJ_ne hz'.1 hb2 (by decide) hg), hz'.2⟩
        · rw [List.append_assoc]; exact h3
      clear d0 d1 d2 d3 d4 hcell hfz h3 hfs hrep hdl hdm hda hdb kk hb2 k03
      go_wp2_with fail
      go_roundw
      case rel => exact ⟨j + 1, _, by go_num, by omega, HR⟩
      case measure => simp [intOf]; omega
    · obtain rfl : j = n := by omega
      obtain ⟨hdl, hdm, hda, hdb, kk⟩ := hH.out
      go_wp2_with fail
      go_ret
      rw [Nat.sub_self, List.replicate_zero, List.append_nil] at hdb
      rw [List.take_of_length_le (by have := HN.out; omega)] at hdm
      exact ⟨_, rfl, ds, hdm, ⟨ownsR_block hdb (CY_wide ds) (by rw [CY_length, hdl]) (by unfold maxLen; omega), fun q hq => (hda q hq).1, fun g hg => by simp [Value.ownBlock] at hg; omega, fun q hq => (hda q hq).2⟩, kk⟩
end
end Go.Proofs.YtngnenbidpojeaaDoor
/-
  The document's outbox: New, place, there, Serial.
-/
namespace Go.Proofs.YtngnenbidpojeaaDoor
set_option maxRecDepth 100000
open Go.RowKit
set_option linter.unusedVariables false
section
variable {w0 w w' : World} {p pf : Nat} {v u : Value} {own : List UInt8} {K : List La} {qs ms : List Yq}
theorem IsO.bx (h : IsO w p own K qs) : ∃ cs, w.heap[p]? = some (.cells cs 94 (0, 0)) := by obtain ⟨cs, hb, -⟩ := h.box; exact ⟨_, hb⟩
/-- As IsF of the keys alone. -/
theorem bytesLess_eq (a b : List UInt8) : Op.bytesLess a b = decide (a < b) := by
  induction a generalizing b with
  | nil => cases b <;> simp [Op.bytesLess]
  | cons x a ih =>
    cases b with
    | nil => simp [Op.bytesLess]
    | cons y b =>
      rw [Op.bytesLess, Bool.eq_iff_iff]
      simp [List.cons_lt_cons_iff, ih]
end
end Go.Proofs.YtngnenbidpojeaaDoor
/-
  The document's outbox: set.
-/
namespace Go.Proofs.YtngnenbidpojeaaDoor
set_option maxRecDepth 100000
open Go.RowKit
set_option linter.unusedVariables false
theorem flat_set {k : Nat} : ∀ {rs : List (List Value)} (h : Wide k rs) {j : Nat} {r : List Value}, rs[j]? = some r → ∀ (i : Nat) (x : Value), i < k → (rs.set j (r.set i x)).flatten = rs.flatten.set (j * k + i) x
  | [], h, j, r, hj, i, x, hi => by simp at hj
  | s :: rs, h, 0, r, hj, i, x, hi => by
    simp at hj
    subst hj
    have hl := (h s (by simp)).1
    rw [List.set_cons_zero, List.flatten_cons, List.flatten_cons, Nat.zero_mul, Nat.zero_add, List.set_append_left _ _ (by omega)]
  | s :: rs, h, j + 1, r, hj, i, x, hi => by
    have hl := (h s (by simp)).1
    have ih := flat_set (rs := rs) (fun q hq => h q (by simp [hq])) (j := j) (by simpa using hj) i x hi
    rw [List.set_cons_succ, List.flatten_cons, List.flatten_cons, ih, List.set_append_right _ _ (by rw [hl, Nat.add_mul]; omega), hl]
    congr 2
    rw [Nat.add_mul]
    omega
/-- A cell of a row of its own is stored into. -/
theorem OwnsR.set {e : TypeId} {k : Nat} {w : World} {b o n c : Nat} {rs : List (List Value)} (h : OwnsR e k w (.slice (some ⟨b, o, none⟩) n c) rs) (hw : Wide k rs) {j : Nat} {r : List Value} (hj : rs[j]? = some r) {i : Nat} (hi : i < k) (x : Value) :
    o = 0 ∧ w.frozen? ⟨b, j * k + i, none⟩ = false ∧ OwnsR e k (w.setCell ⟨b, j * k + i, none⟩ x) (.slice (some ⟨b, o, none⟩) n c) (rs.set j (r.set i x)) ∧ Kept [b] w (w.setCell ⟨b, j * k + i, none⟩ x) := by
  have hlt := get_lt hj
  rcases h.2 with ⟨h0, -⟩ | ⟨g, cap, cur, e1, hb, hg, h1, h2, h3, h4⟩
  · cases h0
  · injection e1 with e1 e2 e3
    injection e1 with e1
    injection e1 with e1 e4 _
    subst e1 e2 e3 e4
    refine ⟨rfl, by simp [World.frozen?, hg], ⟨?_, .inr ⟨b, c, cur.setIfInBounds (j * k + i) x, by rw [List.length_set], hb, set_at hg, by rw [List.length_set]; exact h1, h2, by rw [Array.size_setIfInBounds]; exact h3, ?_⟩⟩, (Kept.refl [b] w).setCell (p := ⟨b, j * k + i, none⟩) (.inl (by simp)) x⟩
    · rw [flat_set hw hj i x hi, List.length_set, List.length_set]; exact h.1
    · rw [flat_set hw hj i x hi, Array.toList_setIfInBounds, List.length_set, ← h4]
      have hlt2 : j * k + i < rs.length * k := by
        have : (j + 1) * k ≤ rs.length * k := Nat.mul_le_mul_right k hlt
        rw [Nat.add_mul] at this
        omega
      rw [List.take_set]
section
variable {w0 w w' : World} {p pf : Nat} {v u : Value} {own : List UInt8} {K : List La} {qs ms : List Yq}
theorem run_cutH {T e : TypeId} {k b : Nat} {z : Value} (R : RowT T e k b z) (W : World) (a : Option Addr) (n c j : Nat) (hj : j ≤ c) : (Instr.slice T (.slice a n c) none (some (.int .i64 (j : Int))) none).run Tryd.prog W = .ok (.slice (cutA a c 0 k) j c) W := by
  rw [run_slice_h W T a n c (by rw [R.elem]; exact R.under) .i64 j (by omega) (by omega), R.elem, R.size]
  simp [Result.andThen, sliced, cutA]
end
end Go.Proofs.YtngnenbidpojeaaDoor
/-
  The document's outbox: Send.
-/
namespace Go.Proofs.YtngnenbidpojeaaDoor
set_option maxRecDepth 100000
open Go.RowKit
set_option linter.unusedVariables false
theorem ownR_form {e : TypeId} {k : Nat} {w : World} {v : Value} {rs : List (List Value)} (h : OwnsR e k w v rs) : (v = .slice none 0 0 ∧ rs.length = 0) ∨ ∃ g cap cur, v = .slice (some ⟨g, 0, none⟩) rs.length cap ∧ w.heap[g]? = some (.cells cur e (0, 0)) := by
  rcases h.2 with ⟨rfl, h0⟩ | ⟨g1, cap, cur, rfl, _, hb, _⟩
  · exact .inl ⟨rfl, h0⟩
  · exact .inr ⟨g1, cap, cur, rfl, hb⟩
section
variable {w0 w w' : World} {p pf : Nat} {v u : Value} {own : List UInt8} {K : List La} {qs ms : List Yq}
end
end Go.Proofs.YtngnenbidpojeaaDoor
/-
  The document's outbox: Pop, Keys.
-/
namespace Go.Proofs.YtngnenbidpojeaaDoor
set_option maxRecDepth 100000
open Go.RowKit
set_option linter.unusedVariables false
section
variable {w0 w w' : World} {p pf : Nat} {v u : Value} {own : List UInt8} {K : List La} {qs ms : List Yq}
/-- Texts in rows of one cell each. -/
def CT (l : List (List UInt8)) : List (List Value) := l.map fun s => [Sv s]
end
end Go.Proofs.YtngnenbidpojeaaDoor
/-
  same: the program's outbox and the document's, held against each other.
-/
namespace Go.Proofs.YtngnenbidpojeaaDoor
set_option maxRecDepth 100000
open Go.RowKit
set_option linter.unusedVariables false
section
variable {w0 w w' : World} {p pf : Nat} {v u : Value} {own : List UInt8} {K : List La} {qs ms : List Yq}
theorem ot_eq {a b : Yq} (h : ot a = ot b) : a.to = b.to ∧ a.q.x = b.q.x := by simpa [ot] using h
theorem ot_at {l1 l2 : List Yq} (h : l1.map ot = l2.map ot) {j : Nat} {a : Yq} (ha : l1[j]? = some a) : ∃ b, l2[j]? = some b ∧ a.to = b.to ∧ a.q.x = b.q.x := by
  have := congrArg (·[j]?) h
  simp only [List.getElem?_map, ha, Option.map_some] at this
  obtain ⟨b, hb, e⟩ := Option.map_eq_some_iff.1 this.symm
  exact ⟨b, hb, ot_eq e.symm⟩
theorem Fitq.of {l1 l2 : List Yq} (h : l1.map ot = l2.map ot) (hf : Fitq l1) : Fitq l2 := fun b hb => by
  obtain ⟨j, hj⟩ := List.getElem?_of_mem hb
  obtain ⟨a, ha, e1, e2⟩ := ot_at h.symm hj
  have := hf a (List.mem_of_getElem? ha)
  rw [e1, e2]
  exact this
end
end Go.Proofs.YtngnenbidpojeaaDoor
