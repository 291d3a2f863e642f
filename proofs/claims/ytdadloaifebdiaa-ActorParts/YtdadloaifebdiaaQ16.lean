import Derived.Test.YtdadloaifebdiaaQ14
import Derived.Test.YtdadloaifebdiaaQ15
/-
  First and Pop of an outbox.
-/
namespace Go.Proofs.Ytdadloaifebdiaa
set_option maxRecDepth 100000
open Go.RowKit
set_option linter.unusedVariables false
/-- A letter on its way in memory of its own, and a truth value. -/
def OutB (w : World) (to : List UInt8) (x : Lt) (b : Bool) (e : Ending) (w' : World) : Prop :=
  ∃ a c, e = .returned (.tuple #[Yv to x a c, .bool b]) ∧ OwnsJ w' (.slice a x.args.length c) x.args ∧ Kept [] w w' ∧ Fresh w (.slice a x.args.length c)
/-- No letter. -/
abbrev zx : Lt := ⟨[], 0, 0, []⟩
section
variable {w : World} {p : Nat} {own : List UInt8} {K : List La} {qs : List Yq}
/-- What the letters of an outbox weigh. -/
def Fitq (qs : List Yq) : Prop := ∀ y ∈ qs, y.to.length ≤ 1000 ∧ y.q.x.fr.length ≤ 1000 ∧ y.q.x.args.length ≤ 1000
end
/-- The letters are moved down by one. -/
abbrev dnY (cs : List Value) (t : List Yq) : List Value := cs.take 130 ++ (CY t).flatten ++ cs.drop (130 + (CY t).flatten.length)
theorem CellsO.pop {cs : List Value} {own : List UInt8} {K : List La} {y : Yq} {t : List Yq} (h : CellsO cs own K (y :: t)) (hK : K.length ≤ 64) (hq : t.length < 32) (x0 x1 x2 x3 x4 : Value) (hx : x0.oneCell' = true ∧ x1.oneCell' = true ∧ x2.oneCell' = true ∧ x3.oneCell' = true ∧ x4.oneCell' = true) :
    CellsO (((((((dnY cs t).set 290 (.int .i64 (t.length : Int))).set (130 + t.length * 5) x0).set (130 + t.length * 5 + 1) x1).set (130 + t.length * 5 + 2) x2).set (130 + t.length * 5 + 3) x3).set (130 + t.length * 5 + 4) x4) own K t := by
  have hl := h.len
  have hf : (CY t).flatten.length = t.length * 5 := by rw [(CY_wide _).flat_length, CY_length]
  have hu : 130 + (CY t).flatten.length ≤ cs.length := by omega
  have hL := over_length cs (CY t).flatten 130 hu
  have hg := fun i => over_get cs (CY t).flatten 130 i hu
  refine ⟨by simp only [List.length_set]; rw [hL]; exact hl, ?_, fun i z hz m v hv => ?_, ?_, fun i z hz m v hv => ?_, ?_, set_one (set_one (set_one (set_one (set_one (set_one (over_one h.one (wide_one (CY_wide _))) rfl) hx.1) hx.2.1) hx.2.2.1) hx.2.2.2.1) hx.2.2.2.2⟩
  · rw [set5_ne _ _ _ _ _ _ _ _ (by omega), List.getElem?_set_ne (by omega), hg, if_pos (by omega)]; exact h.own
  · have := get_lt hz
    have := cellsK_lt hv
    rw [set5_ne _ _ _ _ _ _ _ _ (by omega), List.getElem?_set_ne (by omega), hg, if_pos (by omega)]; exact h.ks i z hz m v hv
  · rw [set5_ne _ _ _ _ _ _ _ _ (by omega), List.getElem?_set_ne (by omega), hg, if_pos (by omega)]; exact h.kn
  · have hi := get_lt hz
    have hm := cellsY_lt hv
    rw [set5_ne _ _ _ _ _ _ _ _ (by omega), List.getElem?_set_ne (by omega), hg, if_neg (by omega), if_pos (by omega), show 130 + i * 5 + m - 130 = i * 5 + m by omega]
    exact (CY_wide _).at i (cellsY z) (by rw [CY, List.getElem?_map, hz]; rfl) m v hv
  · rw [set5_ne _ _ _ _ _ _ _ _ (by omega), List.getElem?_set_self (by rw [hL]; omega)]
section
variable {w : World} {p : Nat} {own : List UInt8} {K : List La} {qs : List Yq}
/-- What copy leaves. -/
theorem copy53 {y : Yq} {t : List Yq} (hB : IsO w p own K (y :: t)) : ∃ r W', (Builtin.copy_ #[127, 127] 3 #[.slice (some ⟨p, 130, none⟩) 32 32, .slice (some ⟨p, 135, none⟩) t.length 31]).run Try.prog w = .ok r W' ∧ Kept [p] w W' ∧
    ∃ cs, W'.heap[p]? = some (.cells (dnY cs t).toArray 108 (0, 0)) ∧ CellsO cs own K (y :: t) := by
  obtain ⟨cs, hb, hc⟩ := hB.box
  have hf : (CY t).flatten.length = t.length * 5 := by rw [(CY_wide _).flat_length, CY_length]
  have hl := hc.len
  have h32 := hB.ln
  rw [List.length_cons] at h32
  have hsrc : ∀ i v, (CY t).flatten[i]? = some v → w.cell? ((⟨p, 135, none⟩ : Addr).add i) = some v := fun i v hv => by
    obtain ⟨m, r, k, hm, hk, rfl⟩ := (CY_wide _).inv i v hv
    rw [CY, List.getElem?_map, Option.map_eq_some_iff] at hm
    obtain ⟨z, hz, rfl⟩ := hm
    rw [add_at, show 135 + (m * 5 + k) = 130 + (m + 1) * 5 + k by omega]
    exact IsO.cell hb (hc.ys (m + 1) z (by simpa using hz) k v hk)
  have hrun := run_copy_rowK (P := Try.prog) w 127 127 3 105 5 p 130 32 32 ⟨p, 135, none⟩ t.length 31 _ 108 (CY t).flatten Try.underlying127 (by kernel_rfl) hb (by rw [hf]; congr 1; exact (Nat.min_eq_left (by omega)).symm) hsrc (by rw [hf, List.size_toArray, hl]; omega) (CY_wide _).one
  refine ⟨_, _, hrun, (Kept.refl [p] w).setRow (.inl (by simp)) _, cs, ?_, hc⟩
  exact setRow_heap w p cs.toArray (cs.toArray.toList.take 130 ++ (CY t).flatten ++ cs.toArray.toList.drop (130 + (CY t).flatten.length)).toArray 108 (0, 0) hb
end
end Go.Proofs.Ytdadloaifebdiaa
/-
  All of an outbox.
-/
namespace Go.Proofs.Ytdadloaifebdiaa
set_option maxRecDepth 100000
open Go.RowKit
set_option linter.unusedVariables false
/-- Nothing on its way. -/
def zy : Yq := ⟨[], ⟨⟨[], 0, 0, []⟩, none, 0⟩⟩
/-- A row of letters on their way, in memory of its own since w0, with their Args. -/
structure OwnY (t : TypeId) (w0 w : World) (v : Value) (qs : List Yq) : Prop where
  own : OwnsR t 5 w v (CY qs)
  args : ∀ y ∈ qs, OwnsJ w y.q.sl y.q.x.args
  fr : Fresh w0 v
  fra : ∀ y ∈ qs, Fresh w0 y.q.sl
theorem OwnY.nil (t : TypeId) (w0 w : World) : OwnY t w0 w (.slice none 0 0) [] := ⟨OwnsR.nil t 5 w, by simp, fresh_nil w0 0, by simp⟩
theorem OwnY.kept {t : TypeId} {w0 w w' : World} {v : Value} {qs : List Yq} {S : List Nat} (h : OwnY t w0 w v qs) (k : Kept S w w') (hS : ∀ g ∈ S, v.ownBlock ≠ some g ∧ ∀ y ∈ qs, y.q.sl.ownBlock ≠ some g) : OwnY t w0 w' v qs :=
  ⟨h.own.kept k (fun g hg hm => (hS g hm).1 hg), fun y hy => (h.args y hy).kept k (fun g hg hm => (hS g hm).2 y hy hg), h.fr, h.fra⟩
theorem OwnY.kept0 {t : TypeId} {w0 w w' : World} {v : Value} {qs : List Yq} (h : OwnY t w0 w v qs) (k : Kept [] w w') : OwnY t w0 w' v qs := h.kept k (by simp)
theorem OwnY.row {t : TypeId} {w0 w : World} {v : Value} {qs : List Yq} (h : OwnY t w0 w v qs) : ReadsR 5 w v (CY qs) := h.own.reads (CY_wide qs)
theorem rowY_form {w : World} {v : Value} {l : List Yq} (h : ReadsR 5 w v (CY l)) : ∃ a c, v = .slice a l.length c ∧ l.length ≤ c ∧ c ≤ 9223372036854775807 := by
  have := ReadsR.form h
  rwa [CY_length] at this
theorem rowY_at {w : World} {a : Option Addr} {n c : Nat} {l : List Yq} (h : ReadsR 5 w (.slice a n c) (CY l)) {j : Nat} {y : Yq} (hy : l[j]? = some y) : ∃ b o, a = some ⟨b, o, none⟩ ∧ w.cell? ⟨b, o + j * 5, none⟩ = some (Sv y.to) ∧ w.cell? ⟨b, o + j * 5 + 1, none⟩ = some (Sv y.q.x.fr) ∧ w.cell? ⟨b, o + j * 5 + 2, none⟩ = some (.int .u64 (y.q.x.ser : Int)) ∧ w.cell? ⟨b, o + j * 5 + 3, none⟩ = some (.int .i64 y.q.x.kind) ∧ w.cell? ⟨b, o + j * 5 + 4, none⟩ = some y.q.sl := by
  obtain ⟨b, o, c', e, hc⟩ := ReadsR.at h j (cellsY y) (by simp [CY, hy])
  injection e with e _ _
  have h0 := hc 0 _ rfl
  have h1 := hc 1 _ rfl
  have h2 := hc 2 _ rfl
  have h3 := hc 3 _ rfl
  have h4 := hc 4 _ rfl
  rw [Nat.add_zero] at h0
  exact ⟨b, o, e, h0, h1, h2, h3, h4⟩
/-- A row of letters that is stored into. -/
theorem flat_set5 (ds zs : List Yq) (z y : Yq) : (((((CY (ds ++ z :: zs)).flatten.set (ds.length * 5) (Sv y.to)).set (ds.length * 5 + 1) (Sv y.q.x.fr)).set (ds.length * 5 + 2) (.int .u64 (y.q.x.ser : Int))).set (ds.length * 5 + 3) (.int .i64 y.q.x.kind)).set (ds.length * 5 + 4) y.q.sl = (CY (ds ++ y :: zs)).flatten := by
  have h : (CY ds).flatten.length = ds.length * 5 := by rw [(CY_wide ds).flat_length, CY_length]
  rw [CY_append, CY_append, List.flatten_append, List.flatten_append, ← h]
  rw [List.set_append_right _ _ (Nat.le_refl _), List.set_append_right _ _ (by omega), List.set_append_right _ _ (by omega), List.set_append_right _ _ (by omega), List.set_append_right _ _ (by omega)]
  rw [Nat.sub_self, Nat.add_sub_cancel_left, Nat.add_sub_cancel_left, Nat.add_sub_cancel_left, Nat.add_sub_cancel_left]
  rfl
theorem make_outs0 (W : World) : (Instr.makeSlice 127 (.int .i64 0) (.int .i64 0)).run Try.prog W = .ok (.slice (some ⟨W.heap.size, 0, none⟩) 0 0) (W.alloc (.cells (CY (List.replicate 0 zy)).flatten.toArray 105)) := by kernel_rfl
theorem make_outs1 (W : World) : (Instr.makeSlice 127 (.int .i64 1) (.int .i64 1)).run Try.prog W = .ok (.slice (some ⟨W.heap.size, 0, none⟩) 1 1) (W.alloc (.cells (CY (List.replicate 1 zy)).flatten.toArray 105)) := by kernel_rfl
theorem make_outs2 (W : World) : (Instr.makeSlice 127 (.int .i64 2) (.int .i64 2)).run Try.prog W = .ok (.slice (some ⟨W.heap.size, 0, none⟩) 2 2) (W.alloc (.cells (CY (List.replicate 2 zy)).flatten.toArray 105)) := by kernel_rfl
theorem make_outs3 (W : World) : (Instr.makeSlice 127 (.int .i64 3) (.int .i64 3)).run Try.prog W = .ok (.slice (some ⟨W.heap.size, 0, none⟩) 3 3) (W.alloc (.cells (CY (List.replicate 3 zy)).flatten.toArray 105)) := by kernel_rfl
theorem make_outs4 (W : World) : (Instr.makeSlice 127 (.int .i64 4) (.int .i64 4)).run Try.prog W = .ok (.slice (some ⟨W.heap.size, 0, none⟩) 4 4) (W.alloc (.cells (CY (List.replicate 4 zy)).flatten.toArray 105)) := by kernel_rfl
theorem make_outs5 (W : World) : (Instr.makeSlice 127 (.int .i64 5) (.int .i64 5)).run Try.prog W = .ok (.slice (some ⟨W.heap.size, 0, none⟩) 5 5) (W.alloc (.cells (CY (List.replicate 5 zy)).flatten.toArray 105)) := by kernel_rfl
theorem make_outs6 (W : World) : (Instr.makeSlice 127 (.int .i64 6) (.int .i64 6)).run Try.prog W = .ok (.slice (some ⟨W.heap.size, 0, none⟩) 6 6) (W.alloc (.cells (CY (List.replicate 6 zy)).flatten.toArray 105)) := by kernel_rfl
theorem make_outs7 (W : World) : (Instr.makeSlice 127 (.int .i64 7) (.int .i64 7)).run Try.prog W = .ok (.slice (some ⟨W.heap.size, 0, none⟩) 7 7) (W.alloc (.cells (CY (List.replicate 7 zy)).flatten.toArray 105)) := by kernel_rfl
theorem make_outs8 (W : World) : (Instr.makeSlice 127 (.int .i64 8) (.int .i64 8)).run Try.prog W = .ok (.slice (some ⟨W.heap.size, 0, none⟩) 8 8) (W.alloc (.cells (CY (List.replicate 8 zy)).flatten.toArray 105)) := by kernel_rfl
theorem make_outs9 (W : World) : (Instr.makeSlice 127 (.int .i64 9) (.int .i64 9)).run Try.prog W = .ok (.slice (some ⟨W.heap.size, 0, none⟩) 9 9) (W.alloc (.cells (CY (List.replicate 9 zy)).flatten.toArray 105)) := by kernel_rfl
theorem make_outs10 (W : World) : (Instr.makeSlice 127 (.int .i64 10) (.int .i64 10)).run Try.prog W = .ok (.slice (some ⟨W.heap.size, 0, none⟩) 10 10) (W.alloc (.cells (CY (List.replicate 10 zy)).flatten.toArray 105)) := by kernel_rfl
theorem make_outs11 (W : World) : (Instr.makeSlice 127 (.int .i64 11) (.int .i64 11)).run Try.prog W = .ok (.slice (some ⟨W.heap.size, 0, none⟩) 11 11) (W.alloc (.cells (CY (List.replicate 11 zy)).flatten.toArray 105)) := by kernel_rfl
theorem make_outs12 (W : World) : (Instr.makeSlice 127 (.int .i64 12) (.int .i64 12)).run Try.prog W = .ok (.slice (some ⟨W.heap.size, 0, none⟩) 12 12) (W.alloc (.cells (CY (List.replicate 12 zy)).flatten.toArray 105)) := by kernel_rfl
theorem make_outs13 (W : World) : (Instr.makeSlice 127 (.int .i64 13) (.int .i64 13)).run Try.prog W = .ok (.slice (some ⟨W.heap.size, 0, none⟩) 13 13) (W.alloc (.cells (CY (List.replicate 13 zy)).flatten.toArray 105)) := by kernel_rfl
theorem make_outs14 (W : World) : (Instr.makeSlice 127 (.int .i64 14) (.int .i64 14)).run Try.prog W = .ok (.slice (some ⟨W.heap.size, 0, none⟩) 14 14) (W.alloc (.cells (CY (List.replicate 14 zy)).flatten.toArray 105)) := by kernel_rfl
theorem make_outs15 (W : World) : (Instr.makeSlice 127 (.int .i64 15) (.int .i64 15)).run Try.prog W = .ok (.slice (some ⟨W.heap.size, 0, none⟩) 15 15) (W.alloc (.cells (CY (List.replicate 15 zy)).flatten.toArray 105)) := by kernel_rfl
theorem make_outs16 (W : World) : (Instr.makeSlice 127 (.int .i64 16) (.int .i64 16)).run Try.prog W = .ok (.slice (some ⟨W.heap.size, 0, none⟩) 16 16) (W.alloc (.cells (CY (List.replicate 16 zy)).flatten.toArray 105)) := by kernel_rfl
theorem make_outs17 (W : World) : (Instr.makeSlice 127 (.int .i64 17) (.int .i64 17)).run Try.prog W = .ok (.slice (some ⟨W.heap.size, 0, none⟩) 17 17) (W.alloc (.cells (CY (List.replicate 17 zy)).flatten.toArray 105)) := by kernel_rfl
theorem make_outs18 (W : World) : (Instr.makeSlice 127 (.int .i64 18) (.int .i64 18)).run Try.prog W = .ok (.slice (some ⟨W.heap.size, 0, none⟩) 18 18) (W.alloc (.cells (CY (List.replicate 18 zy)).flatten.toArray 105)) := by kernel_rfl
theorem make_outs19 (W : World) : (Instr.makeSlice 127 (.int .i64 19) (.int .i64 19)).run Try.prog W = .ok (.slice (some ⟨W.heap.size, 0, none⟩) 19 19) (W.alloc (.cells (CY (List.replicate 19 zy)).flatten.toArray 105)) := by kernel_rfl
theorem make_outs20 (W : World) : (Instr.makeSlice 127 (.int .i64 20) (.int .i64 20)).run Try.prog W = .ok (.slice (some ⟨W.heap.size, 0, none⟩) 20 20) (W.alloc (.cells (CY (List.replicate 20 zy)).flatten.toArray 105)) := by kernel_rfl
theorem make_outs21 (W : World) : (Instr.makeSlice 127 (.int .i64 21) (.int .i64 21)).run Try.prog W = .ok (.slice (some ⟨W.heap.size, 0, none⟩) 21 21) (W.alloc (.cells (CY (List.replicate 21 zy)).flatten.toArray 105)) := by kernel_rfl
theorem make_outs22 (W : World) : (Instr.makeSlice 127 (.int .i64 22) (.int .i64 22)).run Try.prog W = .ok (.slice (some ⟨W.heap.size, 0, none⟩) 22 22) (W.alloc (.cells (CY (List.replicate 22 zy)).flatten.toArray 105)) := by kernel_rfl
theorem make_outs23 (W : World) : (Instr.makeSlice 127 (.int .i64 23) (.int .i64 23)).run Try.prog W = .ok (.slice (some ⟨W.heap.size, 0, none⟩) 23 23) (W.alloc (.cells (CY (List.replicate 23 zy)).flatten.toArray 105)) := by kernel_rfl
theorem make_outs24 (W : World) : (Instr.makeSlice 127 (.int .i64 24) (.int .i64 24)).run Try.prog W = .ok (.slice (some ⟨W.heap.size, 0, none⟩) 24 24) (W.alloc (.cells (CY (List.replicate 24 zy)).flatten.toArray 105)) := by kernel_rfl
theorem make_outs25 (W : World) : (Instr.makeSlice 127 (.int .i64 25) (.int .i64 25)).run Try.prog W = .ok (.slice (some ⟨W.heap.size, 0, none⟩) 25 25) (W.alloc (.cells (CY (List.replicate 25 zy)).flatten.toArray 105)) := by kernel_rfl
theorem make_outs26 (W : World) : (Instr.makeSlice 127 (.int .i64 26) (.int .i64 26)).run Try.prog W = .ok (.slice (some ⟨W.heap.size, 0, none⟩) 26 26) (W.alloc (.cells (CY (List.replicate 26 zy)).flatten.toArray 105)) := by kernel_rfl
theorem make_outs27 (W : World) : (Instr.makeSlice 127 (.int .i64 27) (.int .i64 27)).run Try.prog W = .ok (.slice (some ⟨W.heap.size, 0, none⟩) 27 27) (W.alloc (.cells (CY (List.replicate 27 zy)).flatten.toArray 105)) := by kernel_rfl
theorem make_outs28 (W : World) : (Instr.makeSlice 127 (.int .i64 28) (.int .i64 28)).run Try.prog W = .ok (.slice (some ⟨W.heap.size, 0, none⟩) 28 28) (W.alloc (.cells (CY (List.replicate 28 zy)).flatten.toArray 105)) := by kernel_rfl
theorem make_outs29 (W : World) : (Instr.makeSlice 127 (.int .i64 29) (.int .i64 29)).run Try.prog W = .ok (.slice (some ⟨W.heap.size, 0, none⟩) 29 29) (W.alloc (.cells (CY (List.replicate 29 zy)).flatten.toArray 105)) := by kernel_rfl
theorem make_outs30 (W : World) : (Instr.makeSlice 127 (.int .i64 30) (.int .i64 30)).run Try.prog W = .ok (.slice (some ⟨W.heap.size, 0, none⟩) 30 30) (W.alloc (.cells (CY (List.replicate 30 zy)).flatten.toArray 105)) := by kernel_rfl
theorem make_outs31 (W : World) : (Instr.makeSlice 127 (.int .i64 31) (.int .i64 31)).run Try.prog W = .ok (.slice (some ⟨W.heap.size, 0, none⟩) 31 31) (W.alloc (.cells (CY (List.replicate 31 zy)).flatten.toArray 105)) := by kernel_rfl
theorem make_outs32 (W : World) : (Instr.makeSlice 127 (.int .i64 32) (.int .i64 32)).run Try.prog W = .ok (.slice (some ⟨W.heap.size, 0, none⟩) 32 32) (W.alloc (.cells (CY (List.replicate 32 zy)).flatten.toArray 105)) := by kernel_rfl
theorem make_outs (n : Nat) (h : n ≤ 32) (W : World) : (Instr.makeSlice 127 (.int .i64 (n : Int)) (.int .i64 (n : Int))).run Try.prog W = .ok (.slice (some ⟨W.heap.size, 0, none⟩) n n) (W.alloc (.cells (CY (List.replicate n zy)).flatten.toArray 105)) := by
  match n, h with
  | 0, _ => exact make_outs0 W
  | 1, _ => exact make_outs1 W
  | 2, _ => exact make_outs2 W
  | 3, _ => exact make_outs3 W
  | 4, _ => exact make_outs4 W
  | 5, _ => exact make_outs5 W
  | 6, _ => exact make_outs6 W
  | 7, _ => exact make_outs7 W
  | 8, _ => exact make_outs8 W
  | 9, _ => exact make_outs9 W
  | 10, _ => exact make_outs10 W
  | 11, _ => exact make_outs11 W
  | 12, _ => exact make_outs12 W
  | 13, _ => exact make_outs13 W
  | 14, _ => exact make_outs14 W
  | 15, _ => exact make_outs15 W
  | 16, _ => exact make_outs16 W
  | 17, _ => exact make_outs17 W
  | 18, _ => exact make_outs18 W
  | 19, _ => exact make_outs19 W
  | 20, _ => exact make_outs20 W
  | 21, _ => exact make_outs21 W
  | 22, _ => exact make_outs22 W
  | 23, _ => exact make_outs23 W
  | 24, _ => exact make_outs24 W
  | 25, _ => exact make_outs25 W
  | 26, _ => exact make_outs26 W
  | 27, _ => exact make_outs27 W
  | 28, _ => exact make_outs28 W
  | 29, _ => exact make_outs29 W
  | 30, _ => exact make_outs30 W
  | 31, _ => exact make_outs31 W
  | 32, _ => exact make_outs32 W
  | k + 33, h => exact absurd h (by omega)
section
variable {w : World} {p : Nat} {own : List UInt8} {K : List La} {qs : List Yq}
end
end Go.Proofs.Ytdadloaifebdiaa
