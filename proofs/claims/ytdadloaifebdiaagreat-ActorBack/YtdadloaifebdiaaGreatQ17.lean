import Derived.Test.YtdadloaifebdiaaGreatQ16
/-
  All of an outbox.
-/
namespace Go.Proofs.YtdadloaifebdiaaGreat
set_option maxRecDepth 100000
open Go.RowKit
set_option linter.unusedVariables false
/-- Nothing on its way. -/
def zy : Yq := ⟨[], ⟨⟨[], 0, 0, []⟩, none, 0⟩⟩
/-- A row of letters on their way, in memory of its own since w0, with their Args. -/
structure OwnY (t : TypeId) (w0 w : World) (v : Value) (qs : List Yq) : Prop where
  own : OwnsR t 5 w v (CY qs)
  args : ∀ y ∈ qs, OwnsJ w y.q.sl y.q.x.args
  fr : Fresh w0 v
  fra : ∀ y ∈ qs, Fresh w0 y.q.sl
theorem OwnY.nil (t : TypeId) (w0 w : World) : OwnY t w0 w (.slice none 0 0) [] := ⟨OwnsR.nil t 5 w, by simp, fresh_nil w0 0, by simp⟩
theorem OwnY.kept {t : TypeId} {w0 w w' : World} {v : Value} {qs : List Yq} {S : List Nat} (h : OwnY t w0 w v qs) (k : Kept S w w') (hS : ∀ g ∈ S, v.ownBlock ≠ some g ∧ ∀ y ∈ qs, y.q.sl.ownBlock ≠ some g) : OwnY t w0 w' v qs :=
  ⟨h.own.kept k (fun g hg hm => (hS g hm).1 hg), fun y hy => (h.args y hy).kept k (fun g hg hm => (hS g hm).2 y hy hg), h.fr, h.fra⟩
theorem OwnY.kept0 {t : TypeId} {w0 w w' : World} {v : Value} {qs : List Yq} (h : OwnY t w0 w v qs) (k : Kept [] w w') : OwnY t w0 w' v qs := h.kept k (by simp)
theorem OwnY.row {t : TypeId} {w0 w : World} {v : Value} {qs : List Yq} (h : OwnY t w0 w v qs) : ReadsR 5 w v (CY qs) := h.own.reads (CY_wide qs)
theorem rowY_form {w : World} {v : Value} {l : List Yq} (h : ReadsR 5 w v (CY l)) : ∃ a c, v = .slice a l.length c ∧ l.length ≤ c ∧ c ≤ 9223372036854775807 := by
  have := ReadsR.form h
  rwa [CY_length] at this
theorem rowY_at {w : World} {a : Option Addr} {n c : Nat} {l : List Yq} (h : ReadsR 5 w (.slice a n c) (CY l)) {j : Nat} {y : Yq} (hy : l[j]? = some y) : ∃ b o, a = some ⟨b, o, none⟩ ∧ w.cell? ⟨b, o + j * 5, none⟩ = some (Sv y.to) ∧ w.cell? ⟨b, o + j * 5 + 1, none⟩ = some (Sv y.q.x.fr) ∧ w.cell? ⟨b, o + j * 5 + 2, none⟩ = some (.int .u64 (y.q.x.ser : Int)) ∧ w.cell? ⟨b, o + j * 5 + 3, none⟩ = some (.int .i64 y.q.x.kind) ∧ w.cell? ⟨b, o + j * 5 + 4, none⟩ = some y.q.sl := by
  obtain ⟨b, o, c', e, hc⟩ := ReadsR.at h j (cellsY y) (by simp [CY, hy])
  injection e with e _ _
  have h0 := hc 0 _ rfl
  have h1 := hc 1 _ rfl
  have h2 := hc 2 _ rfl
  have h3 := hc 3 _ rfl
  have h4 := hc 4 _ rfl
  rw [Nat.add_zero] at h0
  exact ⟨b, o, e, h0, h1, h2, h3, h4⟩
/-- A row of letters that is stored into. -/
theorem flat_set5 (ds zs : List Yq) (z y : Yq) : (((((CY (ds ++ z :: zs)).flatten.set (ds.length * 5) (Sv y.to)).set (ds.length * 5 + 1) (Sv y.q.x.fr)).set (ds.length * 5 + 2) (.int .u64 (y.q.x.ser : Int))).set (ds.length * 5 + 3) (.int .i64 y.q.x.kind)).set (ds.length * 5 + 4) y.q.sl = (CY (ds ++ y :: zs)).flatten := by
  have h : (CY ds).flatten.length = ds.length * 5 := by rw [(CY_wide ds).flat_length, CY_length]
  rw [CY_append, CY_append, List.flatten_append, List.flatten_append, ← h]
  rw [List.set_append_right _ _ (Nat.le_refl _), List.set_append_right _ _ (by omega), List.set_append_right _ _ (by omega), List.set_append_right _ _ (by omega), List.set_append_right _ _ (by omega)]
  rw [Nat.sub_self, Nat.add_sub_cancel_left, Nat.add_sub_cancel_left, Nat.add_sub_cancel_left, Nat.add_sub_cancel_left]
  rfl
theorem make_outs0 (W : World) : (Instr.makeSlice 86 (.int .i64 0) (.int .i64 0)).run Tryz.prog W = .ok (.slice (some ⟨W.heap.size, 0, none⟩) 0 0) (W.alloc (.cells (CY (List.replicate 0 zy)).flatten.toArray 92)) := by kernel_rfl
theorem make_outs1 (W : World) : (Instr.makeSlice 86 (.int .i64 1) (.int .i64 1)).run Tryz.prog W = .ok (.slice (some ⟨W.heap.size, 0, none⟩) 1 1) (W.alloc (.cells (CY (List.replicate 1 zy)).flatten.toArray 92)) := by kernel_rfl
theorem make_outs2 (W : World) : (Instr.makeSlice 86 (.int .i64 2) (.int .i64 2)).run Tryz.prog W = .ok (.slice (some ⟨W.heap.size, 0, none⟩) 2 2) (W.alloc (.cells (CY (List.replicate 2 zy)).flatten.toArray 92)) := by kernel_rfl
theorem make_outs3 (W : World) : (Instr.makeSlice 86 (.int .i64 3) (.int .i64 3)).run Tryz.prog W = .ok (.slice (some ⟨W.heap.size, 0, none⟩) 3 3) (W.alloc (.cells (CY (List.replicate 3 zy)).flatten.toArray 92)) := by kernel_rfl
theorem make_outs4 (W : World) : (Instr.makeSlice 86 (.int .i64 4) (.int .i64 4)).run Tryz.prog W = .ok (.slice (some ⟨W.heap.size, 0, none⟩) 4 4) (W.alloc (.cells (CY (List.replicate 4 zy)).flatten.toArray 92)) := by kernel_rfl
theorem make_outs5 (W : World) : (Instr.makeSlice 86 (.int .i64 5) (.int .i64 5)).run Tryz.prog W = .ok (.slice (some ⟨W.heap.size, 0, none⟩) 5 5) (W.alloc (.cells (CY (List.replicate 5 zy)).flatten.toArray 92)) := by kernel_rfl
theorem make_outs6 (W : World) : (Instr.makeSlice 86 (.int .i64 6) (.int .i64 6)).run Tryz.prog W = .ok (.slice (some ⟨W.heap.size, 0, none⟩) 6 6) (W.alloc (.cells (CY (List.replicate 6 zy)).flatten.toArray 92)) := by kernel_rfl
theorem make_outs7 (W : World) : (Instr.makeSlice 86 (.int .i64 7) (.int .i64 7)).run Tryz.prog W = .ok (.slice (some ⟨W.heap.size, 0, none⟩) 7 7) (W.alloc (.cells (CY (List.replicate 7 zy)).flatten.toArray 92)) := by kernel_rfl
theorem make_outs8 (W : World) : (Instr.makeSlice 86 (.int .i64 8) (.int .i64 8)).run Tryz.prog W = .ok (.slice (some ⟨W.heap.size, 0, none⟩) 8 8) (W.alloc (.cells (CY (List.replicate 8 zy)).flatten.toArray 92)) := by kernel_rfl
theorem make_outs9 (W : World) : (Instr.makeSlice 86 (.int .i64 9) (.int .i64 9)).run Tryz.prog W = .ok (.slice (some ⟨W.heap.size, 0, none⟩) 9 9) (W.alloc (.cells (CY (List.replicate 9 zy)).flatten.toArray 92)) := by kernel_rfl
theorem make_outs10 (W : World) : (Instr.makeSlice 86 (.int .i64 10) (.int .i64 10)).run Tryz.prog W = .ok (.slice (some ⟨W.heap.size, 0, none⟩) 10 10) (W.alloc (.cells (CY (List.replicate 10 zy)).flatten.toArray 92)) := by kernel_rfl
theorem make_outs11 (W : World) : (Instr.makeSlice 86 (.int .i64 11) (.int .i64 11)).run Tryz.prog W = .ok (.slice (some ⟨W.heap.size, 0, none⟩) 11 11) (W.alloc (.cells (CY (List.replicate 11 zy)).flatten.toArray 92)) := by kernel_rfl
theorem make_outs12 (W : World) : (Instr.makeSlice 86 (.int .i64 12) (.int .i64 12)).run Tryz.prog W = .ok (.slice (some ⟨W.heap.size, 0, none⟩) 12 12) (W.alloc (.cells (CY (List.replicate 12 zy)).flatten.toArray 92)) := by kernel_rfl
theorem make_outs13 (W : World) : (Instr.makeSlice 86 (.int .i64 13) (.int .i64 13)).run Tryz.prog W = .ok (.slice (some ⟨W.heap.size, 0, none⟩) 13 13) (W.alloc (.cells (CY (List.replicate 13 zy)).flatten.toArray 92)) := by kernel_rfl
theorem make_outs14 (W : World) : (Instr.makeSlice 86 (.int .i64 14) (.int .i64 14)).run Tryz.prog W = .ok (.slice (some ⟨W.heap.size, 0, none⟩) 14 14) (W.alloc (.cells (CY (List.replicate 14 zy)).flatten.toArray 92)) := by kernel_rfl
theorem make_outs15 (W : World) : (Instr.makeSlice 86 (.int .i64 15) (.int .i64 15)).run Tryz.prog W = .ok (.slice (some ⟨W.heap.size, 0, none⟩) 15 15) (W.alloc (.cells (CY (List.replicate 15 zy)).flatten.toArray 92)) := by kernel_rfl
theorem make_outs16 (W : World) : (Instr.makeSlice 86 (.int .i64 16) (.int .i64 16)).run Tryz.prog W = .ok (.slice (some ⟨W.heap.size, 0, none⟩) 16 16) (W.alloc (.cells (CY (List.replicate 16 zy)).flatten.toArray 92)) := by kernel_rfl
theorem make_outs17 (W : World) : (Instr.makeSlice 86 (.int .i64 17) (.int .i64 17)).run Tryz.prog W = .ok (.slice (some ⟨W.heap.size, 0, none⟩) 17 17) (W.alloc (.cells (CY (List.replicate 17 zy)).flatten.toArray 92)) := by kernel_rfl
theorem make_outs18 (W : World) : (Instr.makeSlice 86 (.int .i64 18) (.int .i64 18)).run Tryz.prog W = .ok (.slice (some ⟨W.heap.size, 0, none⟩) 18 18) (W.alloc (.cells (CY (List.replicate 18 zy)).flatten.toArray 92)) := by kernel_rfl
theorem make_outs19 (W : World) : (Instr.makeSlice 86 (.int .i64 19) (.int .i64 19)).run Tryz.prog W = .ok (.slice (some ⟨W.heap.size, 0, none⟩) 19 19) (W.alloc (.cells (CY (List.replicate 19 zy)).flatten.toArray 92)) := by kernel_rfl
theorem make_outs20 (W : World) : (Instr.makeSlice 86 (.int .i64 20) (.int .i64 20)).run Tryz.prog W = .ok (.slice (some ⟨W.heap.size, 0, none⟩) 20 20) (W.alloc (.cells (CY (List.replicate 20 zy)).flatten.toArray 92)) := by kernel_rfl
theorem make_outs21 (W : World) : (Instr.makeSlice 86 (.int .i64 21) (.int .i64 21)).run Tryz.prog W = .ok (.slice (some ⟨W.heap.size, 0, none⟩) 21 21) (W.alloc (.cells (CY (List.replicate 21 zy)).flatten.toArray 92)) := by kernel_rfl
theorem make_outs22 (W : World) : (Instr.makeSlice 86 (.int .i64 22) (.int .i64 22)).run Tryz.prog W = .ok (.slice (some ⟨W.heap.size, 0, none⟩) 22 22) (W.alloc (.cells (CY (List.replicate 22 zy)).flatten.toArray 92)) := by kernel_rfl
theorem make_outs23 (W : World) : (Instr.makeSlice 86 (.int .i64 23) (.int .i64 23)).run Tryz.prog W = .ok (.slice (some ⟨W.heap.size, 0, none⟩) 23 23) (W.alloc (.cells (CY (List.replicate 23 zy)).flatten.toArray 92)) := by kernel_rfl
theorem make_outs24 (W : World) : (Instr.makeSlice 86 (.int .i64 24) (.int .i64 24)).run Tryz.prog W = .ok (.slice (some ⟨W.heap.size, 0, none⟩) 24 24) (W.alloc (.cells (CY (List.replicate 24 zy)).flatten.toArray 92)) := by kernel_rfl
theorem make_outs25 (W : World) : (Instr.makeSlice 86 (.int .i64 25) (.int .i64 25)).run Tryz.prog W = .ok (.slice (some ⟨W.heap.size, 0, none⟩) 25 25) (W.alloc (.cells (CY (List.replicate 25 zy)).flatten.toArray 92)) := by kernel_rfl
theorem make_outs26 (W : World) : (Instr.makeSlice 86 (.int .i64 26) (.int .i64 26)).run Tryz.prog W = .ok (.slice (some ⟨W.heap.size, 0, none⟩) 26 26) (W.alloc (.cells (CY (List.replicate 26 zy)).flatten.toArray 92)) := by kernel_rfl
theorem make_outs27 (W : World) : (Instr.makeSlice 86 (.int .i64 27) (.int .i64 27)).run Tryz.prog W = .ok (.slice (some ⟨W.heap.size, 0, none⟩) 27 27) (W.alloc (.cells (CY (List.replicate 27 zy)).flatten.toArray 92)) := by kernel_rfl
theorem make_outs28 (W : World) : (Instr.makeSlice 86 (.int .i64 28) (.int .i64 28)).run Tryz.prog W = .ok (.slice (some ⟨W.heap.size, 0, none⟩) 28 28) (W.alloc (.cells (CY (List.replicate 28 zy)).flatten.toArray 92)) := by kernel_rfl
theorem make_outs29 (W : World) : (Instr.makeSlice 86 (.int .i64 29) (.int .i64 29)).run Tryz.prog W = .ok (.slice (some ⟨W.heap.size, 0, none⟩) 29 29) (W.alloc (.cells (CY (List.replicate 29 zy)).flatten.toArray 92)) := by kernel_rfl
theorem make_outs30 (W : World) : (Instr.makeSlice 86 (.int .i64 30) (.int .i64 30)).run Tryz.prog W = .ok (.slice (some ⟨W.heap.size, 0, none⟩) 30 30) (W.alloc (.cells (CY (List.replicate 30 zy)).flatten.toArray 92)) := by kernel_rfl
theorem make_outs31 (W : World) : (Instr.makeSlice 86 (.int .i64 31) (.int .i64 31)).run Tryz.prog W = .ok (.slice (some ⟨W.heap.size, 0, none⟩) 31 31) (W.alloc (.cells (CY (List.replicate 31 zy)).flatten.toArray 92)) := by kernel_rfl
theorem make_outs32 (W : World) : (Instr.makeSlice 86 (.int .i64 32) (.int .i64 32)).run Tryz.prog W = .ok (.slice (some ⟨W.heap.size, 0, none⟩) 32 32) (W.alloc (.cells (CY (List.replicate 32 zy)).flatten.toArray 92)) := by kernel_rfl
theorem make_outs (n : Nat) (h : n ≤ 32) (W : World) : (Instr.makeSlice 86 (.int .i64 (n : Int)) (.int .i64 (n : Int))).run Tryz.prog W = .ok (.slice (some ⟨W.heap.size, 0, none⟩) n n) (W.alloc (.cells (CY (List.replicate n zy)).flatten.toArray 92)) := by
  match n, h with
  | 0, _ => exact make_outs0 W
  | 1, _ => exact make_outs1 W
  | 2, _ => exact make_outs2 W
  | 3, _ => exact make_outs3 W
  | 4, _ => exact make_outs4 W
  | 5, _ => exact make_outs5 W
  | 6, _ => exact make_outs6 W
  | 7, _ => exact make_outs7 W
  | 8, _ => exact make_outs8 W
  | 9, _ => exact make_outs9 W
  | 10, _ => exact make_outs10 W
  | 11, _ => exact make_outs11 W
  | 12, _ => exact make_outs12 W
  | 13, _ => exact make_outs13 W
  | 14, _ => exact make_outs14 W
  | 15, _ => exact make_outs15 W
  | 16, _ => exact make_outs16 W
  | 17, _ => exact make_outs17 W
  | 18, _ => exact make_outs18 W
  | 19, _ => exact make_outs19 W
  | 20, _ => exact make_outs20 W
  | 21, _ => exact make_outs21 W
  | 22, _ => exact make_outs22 W
  | 23, _ => exact make_outs23 W
  | 24, _ => exact make_outs24 W
  | 25, _ => exact make_outs25 W
  | 26, _ => exact make_outs26 W
  | 27, _ => exact make_outs27 W
  | 28, _ => exact make_outs28 W
  | 29, _ => exact make_outs29 W
  | 30, _ => exact make_outs30 W
  | 31, _ => exact make_outs31 W
  | 32, _ => exact make_outs32 W
  | k + 33, h => exact absurd h (by omega)
section
variable {w : World} {p : Nat} {own : List UInt8} {K : List La} {qs : List Yq}
theorem all21_nil : Calls Tryz.prog 40 #[.pointer none] w fun e w' => e = .returned (.slice none 0 0) ∧ w = w' := by
  go_enter Tryz.func40, Tryz.ntmps40
  go_wp2_with fail
  go_ret
  exact ⟨rfl, rfl⟩
set_option maxHeartbeats 1000000 in
theorem all21 (hB : IsO w p own K qs) (hft : Fitq qs) : Calls Tryz.prog 40 #[.pointer (some ⟨p, 0, none⟩)] w fun e w' => ∃ v, e = .returned v ∧ ∃ qs', qs'.map ot = qs.map ot ∧ OwnY 92 w w' v qs' ∧ Kept [] w w' := by
  have HB := Hid.mk hB
  have HFT := Hid.mk hft
  have hc := hB.count
  have hl := hB.ln
  have hpl := hB.lt
  clear hB hft
  have hi0 : (0 : Int) ≤ (qs.length : Int) := by omega
  have hi1 : (qs.length : Int) ≤ 32 := by omega
  obtain ⟨L, hL⟩ : ∃ L, L = (CY (List.replicate qs.length zy)).flatten := ⟨_, rfl⟩
  have hmk := make_outs qs.length hl w
  rw [← hL] at hmk
  have HL := Hid.mk hL
  clear hL
  generalize hn : qs.length = n at *
  have HN := Hid.mk hn
  clear hn
  go_enter Tryz.func40, Tryz.ntmps40
  go_wp2_with fail
  have hg0 : (w.alloc (.cells L.toArray 92)).heap[w.heap.size]? = some (.cells L.toArray 92 (0, 0)) := heap_alloc_new w _
  have k0 := (Kept.refl [] w).alloc (.cells L.toArray 92)
  have hz0 : w.heap.size < (w.alloc (.cells L.toArray 92)).heap.size := by simp
  generalize w.alloc (.cells L.toArray 92) = W0 at hg0 k0 hz0 ⊢
  go_loopw [14] (fun i wr => ∃ (j : Nat) (ds : List Yq), i = .int .i64 (j : Int) ∧ j ≤ n ∧ Hid (ds.length = j ∧ ds.map ot = (qs.take j).map ot ∧ (∀ y ∈ ds, OwnsJ wr y.q.sl y.q.x.args ∧ Fresh w y.q.sl) ∧ wr.heap[w.heap.size]? = some (.cells (CY (ds ++ List.replicate (n - j) zy)).flatten.toArray 92 (0, 0)) ∧ Kept [] w wr)) (fun i _ => n - (intOf i).toNat)
  case atStart =>
    refine ⟨0, [], rfl, by omega, Hid.mk ⟨rfl, rfl, by simp, ?_, k0⟩⟩
    rw [HL.out] at hg0
    exact hg0
  case round =>
    obtain ⟨j, ds, rfl, hj, hH⟩ := hrel
    by_cases hlt : j < n
    · have hjI : (j : Int) < (n : Int) := by omega
      have hj0 : (0 : Int) ≤ (j : Int) := by omega
      have hj8 : (j : Int) < 32 := by omega
      obtain ⟨hdl, hdm, hda, hdb, kk⟩ := hH.out
      obtain ⟨y, hy⟩ : ∃ q, qs[j]? = some q := ⟨_, List.getElem?_eq_getElem (by have := HN.out; omega)⟩
      have hBr := HB.out.kept0 kk
      obtain ⟨d0, d1, d2, d3, d4⟩ := hBr.at hy
      have hqm := List.mem_of_getElem? hy
      obtain ⟨l1, l2, l3⟩ := HFT.out y hqm
      have HC := Hid.mk (copyOut62 y.to y.q.x y.q.ad y.q.cap (hBr.args y hqm).reads (by omega) (by omega) (by omega))
      have HQ := Hid.mk hy
      clear hdl hdm hda hdb kk hy hBr hqm l1 l2 l3
      go_wp2_with fail
      refine HC.out.mono ?_
      rintro e w2 ⟨a2, c2, rfl, hO2, k2, hf2⟩
      obtain ⟨hdl, hdm, hda, hdb, kk⟩ := hH.out
      have hb2 := k2.keeps hdb (by simp)
      have hrep : List.replicate (n - j) zy = zy :: List.replicate (n - (j + 1)) zy := by rw [show n - j = n - (j + 1) + 1 by omega, List.replicate_succ]
      rw [hrep] at hb2
      obtain ⟨W3, e3, k3, h3, hz3⟩ := putY (o := j * 5) hb2 (Sv y.to) (Sv y.q.x.fr) (.int .u64 (y.q.x.ser : Int)) (.int .i64 y.q.x.kind) (.slice a2 y.q.x.args.length c2)
      have hfs := flat_set5 ds (List.replicate (n - (j + 1)) zy) zy ⟨y.to, y.q.x, a2, c2⟩
      rw [hdl] at hfs
      rw [hfs] at h3
      have hcell : ∀ i, i < 5 → ∃ v, w2.cell? ⟨w.heap.size, j * 5 + i, none⟩ = some v := fun i hi => by
        have hlen : (CY (ds ++ zy :: List.replicate (n - (j + 1)) zy)).flatten.length = n * 5 := by
          rw [(CY_wide _).flat_length, CY_length]; simp; omega
        exact ⟨_, IsO.cell hb2 (List.getElem?_eq_getElem (by rw [hlen]; omega))⟩
      obtain ⟨x0, hx0⟩ := hcell 0 (by omega)
      obtain ⟨x1, hx1⟩ := hcell 1 (by omega)
      obtain ⟨x2, hx2⟩ := hcell 2 (by omega)
      obtain ⟨x3, hx3⟩ := hcell 3 (by omega)
      obtain ⟨x4, hx4⟩ := hcell 4 (by omega)
      rw [Nat.add_zero] at hx0
      have hfz : ∀ i, w2.frozen? ⟨w.heap.size, i, none⟩ = false := fun i => by simp [World.frozen?, hb2]
      have f0 := hfz (j * 5)
      have f1 := hfz (j * 5 + 1)
      have f2 := hfz (j * 5 + 2)
      have f3 := hfz (j * 5 + 3)
      have f4 := hfz (j * 5 + 4)
      have k03 : Kept [] w W3 := (kk.trans k2 (by simp)).trans k3 (by simp)
      have HR : Hid ((ds ++ [(⟨y.to, y.q.x, a2, c2⟩ : Yq)]).length = j + 1 ∧ (ds ++ [(⟨y.to, y.q.x, a2, c2⟩ : Yq)]).map ot = (qs.take (j + 1)).map ot ∧ (∀ z ∈ ds ++ [(⟨y.to, y.q.x, a2, c2⟩ : Yq)], OwnsJ W3 z.q.sl z.q.x.args ∧ Fresh w z.q.sl) ∧ W3.heap[w.heap.size]? = some (.cells (CY ((ds ++ [⟨y.to, y.q.x, a2, c2⟩]) ++ List.replicate (n - (j + 1)) zy)).flatten.toArray 92 (0, 0)) ∧ Kept [] w W3) := by
        refine ⟨by simp [hdl], ?_, fun z hz => ?_, ?_, k03⟩
        · rw [List.take_add_one, HQ.out, List.map_append, List.map_append, hdm]
          rfl
        · have hz' : OwnsJ w2 z.q.sl z.q.x.args ∧ Fresh w z.q.sl := by
            rcases List.mem_append.1 hz with h | h
            · exact ⟨(hda z h).1.kept k2 (by simp), (hda z h).2⟩
            · simp at h; subst h; exact ⟨hO2, fun g hg => by have := hf2 g hg; have := kk.size; omega⟩
          exact ⟨hz'.1.kept k3 (fun g hg hm => by simp at hm; subst hm; exact ownsJ_ne hz'.1 hb2 (by decide) hg), hz'.2⟩
        · rw [List.append_assoc]; exact h3
      clear d0 d1 d2 d3 d4 hcell hfz h3 hfs hrep hdl hdm hda hdb kk hb2 k03
      go_wp2_with fail
      go_roundw
      case rel => exact ⟨j + 1, _, by go_num, by omega, HR⟩
      case measure => simp [intOf]; omega
    · obtain rfl : j = n := by omega
      obtain ⟨hdl, hdm, hda, hdb, kk⟩ := hH.out
      go_wp2_with fail
      go_ret
      rw [Nat.sub_self, List.replicate_zero, List.append_nil] at hdb
      rw [List.take_of_length_le (by have := HN.out; omega)] at hdm
      exact ⟨_, rfl, ds, hdm, ⟨ownsR_block hdb (CY_wide ds) (by rw [CY_length, hdl]) (by unfold maxLen; omega), fun q hq => (hda q hq).1, fun g hg => by simp [Value.ownBlock] at hg; omega, fun q hq => (hda q hq).2⟩, kk⟩
end
end Go.Proofs.YtdadloaifebdiaaGreat
/-
  The document's outbox: New, place, there, Serial.
-/
namespace Go.Proofs.YtdadloaifebdiaaGreat
set_option maxRecDepth 100000
open Go.RowKit
set_option linter.unusedVariables false
theorem rt72 : RowT 81 136 2 24 (.agg #[.string ⟨#[]⟩, .int .u64 0]) := ⟨Tryz.underlying81, by kernel_rfl, rfl, by omega, by omega⟩
/-- What the document's outbox may turn. -/
def footF (p : Nat) (v u : Value) : List Nat := p :: (v.ownBlock.toList ++ u.ownBlock.toList)
theorem mem_footF {p k : Nat} {v u : Value} : k ∈ footF p v u ↔ k = p ∨ v.ownBlock = some k ∨ u.ownBlock = some k := by simp [footF, Option.mem_toList]
/-- The document's outbox at block p: its letters are in the row v, its keys in the row u; all of it is new since w0. -/
structure IsF (w0 w : World) (p : Nat) (v u : Value) (own : List UInt8) (K : List La) (ms : List Yq) : Prop where
  box : w.heap[p]? = some (.cells #[Sv own, v, u] 83 (0, 0))
  ys : OwnY 93 w0 w v ms
  ks : OwnsR 136 2 w u (CK K)
  fru : Fresh w0 u
  fr : w0.heap.size ≤ p
section
variable {w0 w w' : World} {p pf : Nat} {v u : Value} {own : List UInt8} {K : List La} {qs ms : List Yq}
theorem cells3 {b : Nat} {t : TypeId} {v0 v1 v2 : Value} (h : w.heap[b]? = some (.cells #[v0, v1, v2] t (0, 0))) : w.cell? ⟨b, 0, none⟩ = some v0 ∧ w.cell? ⟨b, 1, none⟩ = some v1 ∧ w.cell? ⟨b, 2, none⟩ = some v2 := by simp [World.cell?, h]
theorem free3 {b : Nat} {t : TypeId} {v0 v1 v2 : Value} (h : w.heap[b]? = some (.cells #[v0, v1, v2] t (0, 0))) : w.frozen? ⟨b, 0, none⟩ = false ∧ w.frozen? ⟨b, 1, none⟩ = false ∧ w.frozen? ⟨b, 2, none⟩ = false := by simp [World.frozen?, h]
theorem set3_1 {b : Nat} {t : TypeId} {v0 v1 v2 x : Value} (h : w.heap[b]? = some (.cells #[v0, v1, v2] t (0, 0))) : (w.setCell ⟨b, 1, none⟩ x).heap[b]? = some (.cells #[v0, x, v2] t (0, 0)) := set_at h
theorem set3_2 {b : Nat} {t : TypeId} {v0 v1 v2 x : Value} (h : w.heap[b]? = some (.cells #[v0, v1, v2] t (0, 0))) : (w.setCell ⟨b, 2, none⟩ x).heap[b]? = some (.cells #[v0, v1, x] t (0, 0)) := set_at h
theorem IsF.lt (h : IsF w0 w p v u own K ms) : p < w.heap.size := lt_of_block h.box
theorem IsF.kept0 (hF : IsF w0 w pf v u own K ms) (k : Kept [] w w') : IsF w0 w' pf v u own K ms := ⟨k.keeps hF.box (by simp), hF.ys.kept0 k, hF.ks.kept k (by simp), hF.fru, hF.fr⟩
theorem IsO.bx (h : IsO w p own K qs) : ∃ cs, w.heap[p]? = some (.cells cs 159 (0, 0)) := by obtain ⟨cs, hb, -⟩ := h.box; exact ⟨_, hb⟩
/-- What turns the document's outbox leaves the program's. -/
theorem IsO.besides {own' : List UInt8} {K' : List La} (hB : IsO w p own K qs) (hF : IsF w0 w pf v u own' K' ms) (k : Kept (footF pf v u) w w') : IsO w' p own K qs := by
  obtain ⟨cs, hb⟩ := hB.bx
  refine hB.kept k (fun hm => ?_) (fun y hy g hg hm => ?_)
  · rcases mem_footF.1 hm with h | h | h
    · exact box_ne hb hF.box (by decide) h
    · exact ownsR_ne hF.ys.own hb (by decide) h
    · exact ownsR_ne hF.ks hb (by decide) h
  · rcases mem_footF.1 hm with h | h | h
    · subst h; exact ownsJ_ne (hB.args y hy) hF.box (by decide) hg
    · exact own_apart (hB.args y hy) hF.ys.own (by decide) hg h
    · exact own_apart (hB.args y hy) hF.ks (by decide) hg h
/-- What turns the program's outbox leaves the document's. -/
theorem IsF.besides {own' : List UInt8} {K' : List La} (hF : IsF w0 w pf v u own K ms) (hB : IsO w p own' K' qs) (k : Kept [p] w w') : IsF w0 w' pf v u own K ms := by
  obtain ⟨cs, hb⟩ := hB.bx
  refine ⟨k.keeps hF.box (by simp; exact box_ne hF.box hb (by decide)), hF.ys.kept k (fun g hg => ?_), hF.ks.kept k (fun g hg hm => ?_), hF.fru, hF.fr⟩
  · simp at hg
    subst hg
    exact ⟨ownsR_ne hF.ys.own hb (by decide), fun y hy => ownsJ_ne (hF.ys.args y hy) hb (by decide)⟩
  · simp at hm
    subst hm
    exact ownsR_ne hF.ks hb (by decide) hg
theorem rowK_form {l : List La} (h : ReadsR 2 w v (CK l)) : ∃ a c, v = .slice a l.length c ∧ l.length ≤ c ∧ c ≤ 9223372036854775807 := by
  have := ReadsR.form h
  rwa [CK_length] at this
theorem rowK_at {a : Option Addr} {n c : Nat} {l : List La} (h : ReadsR 2 w (.slice a n c) (CK l)) {j : Nat} {y : La} (hy : l[j]? = some y) : ∃ b o, a = some ⟨b, o, none⟩ ∧ w.cell? ⟨b, o + j * 2, none⟩ = some (Sv y.k) ∧ w.cell? ⟨b, o + j * 2 + 1, none⟩ = some (Uv y.s) := by
  obtain ⟨b, o, c', e, hc⟩ := ReadsR.at h j (cellsK y) (by simp [CK, hy])
  injection e with e _ _
  have h0 := hc 0 _ rfl
  have h1 := hc 1 _ rfl
  rw [Nat.add_zero] at h0
  exact ⟨b, o, e, h0, h1⟩
theorem IsF.krow (h : IsF w0 w p v u own K ms) : ReadsR 2 w u (CK K) := h.ks.reads (CK_wide K)
theorem new12_no (own : List UInt8) (h : isKey own = false) (hl : own.length ≤ 281474976710656) : Calls Tryz.prog 97 #[Sv own] w fun e w' => e = .returned (.tuple #[.pointer none, .int .i64 1]) ∧ w = w' := by
  have HK := Hid.mk (key28 (w := w) own hl)
  rw [h] at HK
  go_enter Tryz.func97, Tryz.ntmps97
  go_wp2_with fail
  refine HK.out.mono ?_
  rintro e w1 ⟨rfl, rfl⟩
  go_wp2_with fail
  go_ret2
  exact ⟨rfl, rfl⟩
set_option maxHeartbeats 1000000 in
theorem new12 (own : List UInt8) (h : isKey own = true) (hs : w0.heap.size ≤ w.heap.size) : Calls Tryz.prog 97 #[Sv own] w fun e w' => ∃ p, e = .returned (.tuple #[.pointer (some ⟨p, 0, none⟩), .int .i64 0]) ∧ IsF w0 w' p (.slice none 0 0) (.slice none 0 0) own [] [] ∧ Kept [] w w' := by
  have hl := (isKey_iff own).1 h
  have HK := Hid.mk (key28 (w := w) own (by omega))
  rw [h] at HK
  clear h hl
  go_enter Tryz.func97, Tryz.ntmps97
  go_wp2_with fail
  refine HK.out.mono ?_
  rintro e w1 ⟨rfl, rfl⟩
  go_wp2_with fail
  go_ret2
  exact ⟨_, rfl, ⟨heap_alloc_new _ _, OwnY.nil _ _ _, OwnsR.nil _ _ _, fresh_nil _ _, hs⟩, (Kept.refl [] _).alloc _⟩
/-- As IsF of the keys alone. -/
theorem bytesLess_eq (a b : List UInt8) : Op.bytesLess a b = decide (a < b) := by
  induction a generalizing b with
  | nil => cases b <;> simp [Op.bytesLess]
  | cons x a ih =>
    cases b with
    | nil => simp [Op.bytesLess]
    | cons y b =>
      rw [Op.bytesLess, Bool.eq_iff_iff]
      simp [List.cons_lt_cons_iff, ih]
set_option maxHeartbeats 1000000 in
theorem place67 {a : Option Addr} {n c : Nat} (hb : w.cell? ⟨p, 2, none⟩ = some (.slice a n c)) (hr : ReadsR 2 w (.slice a n c) (CK K)) (to : List UInt8) (hn : n ≤ 1000000) : Calls Tryz.prog 96 #[.pointer (some ⟨p, 0, none⟩), Sv to] w fun e w' => e = .returned (.int .i64 (pla K to : Int)) ∧ w = w' := by
  obtain ⟨a', c', e, h1, h2⟩ := rowK_form hr
  injection e with e1 e2 e3
  subst e1 e3
  have HN := Hid.mk e2
  have HR := Hid.mk hr
  have hPle := pla_le K to
  rw [← e2] at hPle
  clear hr e2 h1
  have HL : Hid (∀ j y, K[j]? = some y → j < pla K to → y.k < to) := fun j y h h' => pla_lt h h'
  have HA : Hid (∀ y, K[pla K to]? = some y → ¬ y.k < to) := fun y h => pla_at h
  generalize pla K to = P at *
  go_enter Tryz.func96, Tryz.ntmps96
  go_wp2_with fail
  go_loopw [5] (fun i wr => ∃ j : Nat, Hid (w = wr) ∧ i = .int .i64 (j : Int) ∧ j ≤ P) (fun i _ => n - (intOf i).toNat)
  case atStart => exact ⟨0, Hid.mk rfl, rfl, by omega⟩
  case round =>
    obtain ⟨j, hw, rfl, hj⟩ := hrel
    obtain rfl := hw.out
    clear hw
    by_cases hlt : j < n
    · obtain ⟨y, hy⟩ : ∃ y, K[j]? = some y := ⟨_, List.getElem?_eq_getElem (by have := HN.out; omega)⟩
      obtain ⟨b, o, rfl, d0, d1⟩ := rowK_at HR.out hy
      have hjI : (j : Int) < (n : Int) := by omega
      by_cases hk : j < P
      · have hless : Op.bytesLess y.k to = true := by rw [bytesLess_eq]; simpa using HL.out j y hy hk
        clear hy
        go_wp2_with fail
        go_roundw
        case rel => exact ⟨j + 1, by trivial, by go_num, by omega⟩
        case measure => simp [intOf]; omega
      · obtain rfl : j = P := by omega
        have hless : Op.bytesLess y.k to = false := by rw [bytesLess_eq]; simpa using HA.out y hy
        clear hy
        go_wp2_with fail
        go_ret
        exact ⟨rfl, rfl⟩
    · obtain rfl : j = P := by omega
      go_wp2_with fail
      go_ret
      exact ⟨rfl, rfl⟩
set_option maxHeartbeats 1000000 in
theorem there53 {a : Option Addr} {n c : Nat} (hb : w.cell? ⟨p, 2, none⟩ = some (.slice a n c)) (hr : ReadsR 2 w (.slice a n c) (CK K)) (to : List UInt8) (hn : n ≤ 1000000) : Calls Tryz.prog 81 #[.pointer (some ⟨p, 0, none⟩), Sv to] w fun e w' => e = .returned (.bool (hasK K to)) ∧ w = w' := by
  have HP := Hid.mk (place67 hb hr to hn)
  obtain ⟨a', c', e, h1, h2⟩ := rowK_form hr
  injection e with e1 e2 e3
  subst e1 e3
  have hPle := pla_le K to
  rw [← e2] at hPle
  by_cases hlt : pla K to < n
  · obtain ⟨y, hy⟩ : ∃ y, K[pla K to]? = some y := ⟨_, List.getElem?_eq_getElem (by omega)⟩
    obtain ⟨b, o, rfl, d0, d1⟩ := rowK_at hr hy
    have hA : hasK K to = (y.k == to) := by rw [has_is hy, Bool.eq_iff_iff]; simp
    rw [hA]
    have hI : (pla K to : Int) < (n : Int) := by omega
    clear hy e2 h1 hr hA
    generalize pla K to = P at *
    by_cases hk : y.k = to
    · subst hk
      rw [beq_self_eq_true]
      go_enter Tryz.func81, Tryz.ntmps81
      go_wp2_with fail
      refine HP.out.mono ?_
      rintro e w1 ⟨rfl, rfl⟩
      go_wp2_with fail
      go_ret
      exact ⟨rfl, rfl⟩
    · have hq : (y.k == to) = false := by simpa using hk
      rw [hq]
      go_enter Tryz.func81, Tryz.ntmps81
      go_wp2_with fail
      refine HP.out.mono ?_
      rintro e w1 ⟨rfl, rfl⟩
      go_wp2_with fail
      go_ret
      exact ⟨rfl, rfl⟩
  · rw [has_none (List.getElem?_eq_none (by omega))]
    have hI : ((pla K to : Int) < (n : Int)) = False := eq_false (by omega)
    clear e2 h1 hr
    generalize pla K to = P at *
    go_enter Tryz.func81, Tryz.ntmps81
    go_wp2_with fail
    refine HP.out.mono ?_
    rintro e w1 ⟨rfl, rfl⟩
    go_wp2_with fail
    go_ret
    exact ⟨rfl, rfl⟩
set_option maxHeartbeats 1000000 in
theorem serial33 {a : Option Addr} {n c : Nat} (hb : w.cell? ⟨p, 2, none⟩ = some (.slice a n c)) (hr : ReadsR 2 w (.slice a n c) (CK K)) (to : List UInt8) (hn : n ≤ 1000000) : Calls Tryz.prog 43 #[.pointer (some ⟨p, 0, none⟩), Sv to] w fun e w' => e = .returned (Uv (ser K to)) ∧ Kept [] w w' := by
  have HT := Hid.mk (there53 hb hr to hn)
  have HP : Hid (∀ W, Kept [] w W → Calls Tryz.prog 96 #[.pointer (some ⟨p, 0, none⟩), Sv to] W fun e w' => e = .returned (.int .i64 (pla K to : Int)) ∧ w' = W) := fun W k => (place67 (k.cell_eq hb) (hr.kept k (by simp)) to hn).mono fun e w' h => ⟨h.1, h.2.symm⟩
  obtain ⟨a', c', e, h1, h2⟩ := rowK_form hr
  injection e with e1 e2 e3
  subst e1 e3
  cases hh : hasK K to with
  | false =>
    rw [(has_not hh).1]
    rw [hh] at HT
    clear hr hh HP
    go_enter Tryz.func43, Tryz.ntmps43
    go_wp2_with fail
    refine HT.out.mono ?_
    rintro e w1 ⟨rfl, rfl⟩
    go_wp2_with fail
    go_ret
    exact ⟨rfl, Kept.refl [] _⟩
  | true =>
    obtain ⟨s, g1, g2⟩ := has_at hh
    rw [g2]
    rw [hh] at HT
    obtain ⟨b, o, rfl, d0, d1⟩ := rowK_at hr g1
    have hlt := get_lt g1
    rw [← e2] at hlt
    have hI : (pla K to : Int) < (n : Int) := by omega
    have hI0 : (0 : Int) ≤ (pla K to : Int) := by omega
    clear hr hh g1 g2 e2 h1
    generalize pla K to = P at *
    dsimp only at d0 d1
    go_enter Tryz.func43, Tryz.ntmps43
    go_wp2_with fail
    refine HT.out.mono ?_
    rintro e w1 ⟨rfl, rfl⟩
    go_wp2_with fail
    go_quiet ((go_at_call 96; exact Calls.quiet_of_same (HP.out _ ((Kept.refl [] _).drewN _))))
    go_wp2_with fail
    go_ret
    exact ⟨rfl, (Kept.refl [] _).drewN _⟩
end
end Go.Proofs.YtdadloaifebdiaaGreat
