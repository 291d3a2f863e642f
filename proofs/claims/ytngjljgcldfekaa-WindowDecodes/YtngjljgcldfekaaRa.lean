/-
  The document's window: Add.
-/
import Derived.Test.YtngjljgcldfekaaRc
namespace Go.Proofs.Ytngjljgcldfekaa
open Go.RowKit
set_option linter.unusedVariables false
theorem rt27 : RowT 27 59 2 32 (.agg #[.int .u64 0, .slice none 0 0]) := ⟨Try.underlying27, by kernel_rfl, rfl, by omega, by omega⟩
/-- 'v[1:]'. -/
theorem run_cut1 {T e : TypeId} {k b : Nat} {z : Value} (R : RowT T e k b z) {w : World} {a : Option Addr} {n c : Nat} {rs : List (List Value)} (h : ReadsR k w (.slice a n c) rs) (hl : rs.length = n) (hn : 1 ≤ n) : (∀ W, (Instr.slice T (.slice a n c) (some (.int .i64 1)) none none).run Try.prog W = .ok (.slice (cutA a c 1 k) (n - 1) (c - 1)) W) ∧ ReadsR k w (.slice (cutA a c 1 k) (n - 1) (c - 1)) (rs.drop 1) := by
  have hb : n ≤ c := by
    obtain ⟨a', c', e, h1, -⟩ := h.form
    injection e with _ e2 e3
    omega
  refine ⟨fun W => ?_, ?_⟩
  · have ht' : Try.prog.underlying T = some (.slice (Try.prog.elem T)) := by rw [R.elem]; exact R.under
    rw [run_slice_l W T _ _ _ ht' .i64 1 (by omega) (by omega), R.elem, R.size]
    simp [Result.andThen, sliced, cutA]
  · have := ReadsR.cut (k := k) (i := 1) (j := n) (m := c) hl.symm h hn (Nat.le_refl _) hb (Nat.le_refl _)
    rwa [List.take_of_length_le (by omega)] at this
theorem cut_typ {w : World} {a : Option Addr} {n c n' c' k t : Nat} (h : Typ w (.slice a n c) t) : Typ w (.slice (cutA a c 1 k) n' c') t := fun g hg => h g (cutA_own a c 1 k n' c' hg n c)
def othQ (qs : List Cq) (c : Nat) : List Cq := qs.filter fun q => q.x.c != c
theorem mx_othQ (qs : List Cq) (c : Nat) : mx (othQ qs c) = oth (mx qs) c := by
  unfold mx othQ oth
  rw [List.filter_map]
  rfl
theorem othQ_take {qs : List Cq} {j : Nat} {y : Cq} {c : Nat} (h : qs[j]? = some y) : othQ (qs.take (j + 1)) c = othQ (qs.take j) c ++ (if y.x.c = c then [] else [y]) := by
  unfold othQ
  rw [List.take_add_one, h, List.filter_append]
  congr 1
  by_cases hy : y.x.c = c
  · simp [hy]
  · simp [hy]
theorem othQ_le (qs : List Cq) (c : Nat) : (othQ qs c).length ≤ qs.length := List.length_filter_le _ _
section
variable {w0 w w' : World} {p : Nat} {v : Value} {qs : List Cq}
/-- What Add answers and leaves. -/
def RAddAt (w : World) (p : Nat) (qs : List Cq) (c s : Nat) (e : Ending) (w' : World) : Prop := e = .returned (.bool (!seenL (mx qs) c s)) ∧ ∃ v' qs', IsF w' p v' qs' ∧ mx qs' = nxt (mx qs) c s ∧ Kept [p] w w'
/-- A row that is stored into the window's box. -/
theorem isF_store {W : World} {u : Value} {qs' : List Cq} (hb : w.heap[p]? = some (.cells #[u] 29 (0, 0))) (k : Kept [] w W) (hr : RowQ W v qs') (hv : ValsQ W qs') (ht : Typ W v 59) (hs : ∀ q ∈ qs', Typ W q.sl 30) : IsF (W.setCell ⟨p, 0, none⟩ v) p v qs' ∧ Kept [p] w (W.setCell ⟨p, 0, none⟩ v) := by
  have hb' := k.keeps hb (by simp)
  have k' := (Kept.refl [p] W).setCell (p := ⟨p, 0, none⟩) (.inl (by simp)) v
  exact ⟨⟨one_setCell hb', hr.kept k' (ht.ne hb' (by decide)), fun q hq => (hv q hq).kept k' ((hs q hq).ne hb' (by decide)), ht.kept k' (ht.ne hb' (by decide)), fun q hq => (hs q hq).kept k' ((hs q hq).ne hb' (by decide))⟩, (k.mono (by simp)).trans k' (by simp)⟩
set_option maxRecDepth 100000 in
set_option maxHeartbeats 1000000 in
theorem radd12_seen {c s : Nat} (hS : Calls Try.prog 15 #[.pointer (some ⟨p, 0, none⟩), Uv c, Uv s] w fun e w' => e = .returned (.bool true) ∧ Kept [] w w') : Calls Try.prog 12 #[.pointer (some ⟨p, 0, none⟩), Uv c, Uv s] w fun e w' => e = .returned (.bool false) ∧ Kept [] w w' := by
  have HS := Hid.mk hS
  clear hS
  go_enter Try.func12, Try.ntmps12
  go_wp2_with fail
  refine HS.out.mono ?_
  rintro e w1 ⟨rfl, k1⟩
  go_wp2_with fail
  go_ret
  exact ⟨rfl, k1⟩
/-- What the loop has laid. -/
structure Lay (w wr : World) (a : Option Addr) (k ca : Nat) (out : List Cq) : Prop where
  own : OwnsR 59 2 wr (.slice a k ca) (CQ out)
  len : out.length = k
  kept : Kept [] w wr
  fr : Fresh w (.slice a k ca)
theorem Lay.app {wr : World} {a : Option Addr} {k ca : Nat} {out : List Cq} (h : Lay w wr a k ca out) (hk : k ≤ 1000) (y : Cq) : ∃ a2 c2 w2, (Builtin.append_ #[27, 27] 27 #[.slice a k ca, .slice (some ⟨wr.heap.size, 0, none⟩) 1 1]).run Try.prog (wr.alloc (.cells #[Uv y.x.c, y.sl] 59)) = .ok (.slice a2 (k + 1) c2) w2 ∧ Lay w w2 a2 (k + 1) c2 (out ++ [y]) := by
  obtain ⟨a2, c2, w2, hrun, hO2, k2, hN2⟩ := append_rowR rt27 h.own (cellsQ y) rfl (CQ_wide [y] (cellsQ y) (by simp [CQ])).2 (by rw [CQ_length, h.len]; omega) 59 (0, 0) 27
  rw [CQ_length, h.len] at hrun hO2 hN2
  refine ⟨a2, c2, w2, hrun, ?_, by simp [h.len], h.kept.trans k2 (fun x hx => by rw [Option.mem_toList] at hx; exact .inr (h.fr x hx)), fun g hg => ?_⟩
  · rw [CQ_append]; exact hO2
  · rcases hN2 g hg with h1 | h1
    · exact h.fr g h1
    · have := h.kept.size; omega
theorem Lay.out {wr : World} {a : Option Addr} {k ca : Nat} {out : List Cq} (h : Lay w wr a k ca out) : RowQ wr (.slice a k ca) out ∧ Typ wr (.slice a k ca) 59 ∧ k ≤ ca ∧ ca ≤ 9223372036854775807 := by
  obtain ⟨a', c', e, h1, h2⟩ := h.own.form
  injection e with _ e2 e3
  subst e3
  exact ⟨h.own.reads (CQ_wide out), ownsR_typ h.own, by rw [CQ_length, h.len] at h1; exact h1, h2⟩
end
end Go.Proofs.Ytngjljgcldfekaa
