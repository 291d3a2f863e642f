import Derived.Test.YtpodoiichpnpjaaDoorQ13
import Derived.Test.YtpodoiichpnpjaaDoorQ31
import Derived.Test.YtpodoiichpnpjaaDoorQ32
/-
  The document's Run: what it stands on.
-/
namespace Go.Proofs.YtpodoiichpnpjaaDoor
open Go.RowKit
set_option maxRecDepth 100000
set_option linter.unusedVariables false
section
variable {P : Program} {w : World} {g : Nat} {t : TypeId} {L X : List Value}
/-- A part of a block is stored. -/
theorem store_mid (o : Nat) (ty : TypeId) (hb : w.heap[g]? = some (.cells L.toArray t (0, 0))) (hl : o + X.length ≤ L.length) (hi : (P.info? ty).map (·.size) = some X.length) (h1 : ∀ v ∈ X, v.oneCell' = true) : ∃ W, (Instr.storeAt ty (.pointer (some ⟨g, o, none⟩)) (.agg X.toArray)).run P w = .ok () W ∧ W.heap[g]? = some (.cells (L.take o ++ X ++ L.drop (o + X.length)).toArray t (0, 0)) ∧ Kept [g] w W := by
  refine ⟨_, run_storeAt_mid w g o ty X.toArray (fun j hj => ?_) (by rw [List.size_toArray]; exact hi) (all_oneCell_toArray h1), ?_, Kept.setCells (.inl (by simp)) _ (Kept.refl [g] w) o⟩
  · rw [List.size_toArray] at hj
    refine ⟨?_, by simp [World.frozen?, hb]⟩
    have : o + j < L.length := by omega
    simp [World.cell?, hb, this]
  · rw [List.toList_toArray]
    have := setCells_list X (o := o) hb
    rw [sets_eq X L o hl] at this
    exact this
end
theorem size49 : (Tryd.prog.info? 49).map (·.size) = some 12 := by kernel_rfl
theorem size26 : (Tryd.prog.info? 26).map (·.size) = some 8 := by kernel_rfl
/-- What stands in the machine at the end, behind a store into an elder block. -/
theorem FSt.told {B : Bs} {w : World} {p : Nat} {m : Mc} {k : Nat} (h : FSt B w p m k) : ∃ ev sn tm, (∃ pre, pre.length = 9 ∧ w.heap[p]? = some (.cells (pre ++ cellsR m.reg ev sn tm k).toArray 78 (0, 0))) ∧ ev.oneCell' = true ∧ sn.oneCell' = true ∧ tm.oneCell' = true ∧ ∀ W g, g < B.w0.heap.size → Kept [g] w W → ∀ n, n ≤ B.w0.heap.size → IsRs n W (.agg (cellsR m.reg ev sn tm k).toArray) ⟨m.reg, m.ev, m.sent, m.tm, k⟩ := by
  obtain ⟨sv, ev, sn, tm, h⟩ := h
  refine ⟨ev, sn, tm, ⟨_, h.len, h.rs.box⟩, ?_, ?_, ?_, fun W g hg kk n hn => ⟨⟨ev, sn, tm, rfl, (h.rs.ev.own.reads (wideE _)).kept kk ?_, (h.rs.sn.own.reads (wideS _)).kept kk ?_, (h.rs.tm.own.reads (wideT _)).kept kk ?_, fun g' h' => Nat.le_trans hn (h.rs.ev.new g' h'), fun g' h' => Nat.le_trans hn (h.rs.sn.new g' h'), fun g' h' => Nat.le_trans hn (h.rs.tm.new g' h')⟩, h.rs.r8⟩⟩
  · obtain ⟨a, c, rfl, -⟩ := h.rs.ev.form; rfl
  · obtain ⟨a, c, rfl, -⟩ := h.rs.sn.form; rfl
  · obtain ⟨a, c, rfl, -⟩ := h.rs.tm.form; rfl
  · intro g' h1 h2; have := h.rs.ev.new g' h1; simp at h2; omega
  · intro g' h1 h2; have := h.rs.sn.new g' h1; simp at h2; omega
  · intro g' h1 h2; have := h.rs.tm.new g' h1; simp at h2; omega
theorem FSt.c_k {B : Bs} {w : World} {p : Nat} {m : Mc} {k : Nat} (h : FSt B w p m k) : w.cell? ⟨p, 20, none⟩ = some (.int .i64 (k : Int)) := by
  obtain ⟨sv, ev, sn, tm, h⟩ := h
  exact h.c_k
theorem FSt.c_at {B : Bs} {w : World} {p : Nat} {m : Mc} {k : Nat} (h : FSt B w p m k) : w.cell? ⟨p, 7, none⟩ = some (.int .i64 (m.at_ : Int)) := by
  obtain ⟨sv, ev, sn, tm, h⟩ := h
  exact h.c_at
theorem FSt.put_k {B : Bs} {w : World} {p : Nat} {m : Mc} {k : Nat} (h : FSt B w p m k) : w.frozen? ⟨p, 20, none⟩ = false ∧ FSt B (w.setCell ⟨p, 20, none⟩ (.int .i64 ((k + 1 : Nat) : Int))) p m (k + 1) := by
  obtain ⟨sv, ev, sn, tm, h⟩ := h
  exact ⟨h.rs.free 20, _, _, _, _, h.put_k (k + 1)⟩
/-- The machine is new: the registers are laid into it. -/
theorem start_F (B : Bs) (reg : List Int) (h8 : reg.length = 8) : ∃ W, (Instr.storeAt 26 (.pointer (some ⟨B.w0.heap.size, 9, none⟩)) (.agg (BI reg).toArray)).run Tryd.prog (B.w0.alloc (.cells (preF B 0 (.slice none 0 0) ++ cellsR z8 (.slice none 0 0) (.slice none 0 0) (.slice none 0 0) 0).toArray 78)) = .ok () W ∧ FSt B W B.w0.heap.size (Mc.start reg) 0 := by
  have k1 := (Kept.refl [] B.w0).alloc (.cells (preF B 0 (.slice none 0 0) ++ cellsR z8 (.slice none 0 0) (.slice none 0 0) (.slice none 0 0) 0).toArray 78)
  obtain ⟨W, h1, h2, h3⟩ := store_mid (P := Tryd.prog) (X := BI reg) 9 26 (heap_alloc_new B.w0 (.cells (preF B 0 (.slice none 0 0) ++ cellsR z8 (.slice none 0 0) (.slice none 0 0) (.slice none 0 0) 0).toArray 78)) (by rw [BI_length, h8]; show 9 + 8 ≤ 21; omega) (by rw [BI_length, h8]; exact size26) (BI_one reg)
  have kk : Kept [] B.w0 W := k1.trans h3 (fun x hx => .inr (by simp at hx; omega))
  have e : (preF B 0 (.slice none 0 0) ++ cellsR z8 (.slice none 0 0) (.slice none 0 0) (.slice none 0 0) 0).take 9 ++ BI reg ++ (preF B 0 (.slice none 0 0) ++ cellsR z8 (.slice none 0 0) (.slice none 0 0) (.slice none 0 0) 0).drop (9 + (BI reg).length) = preF B 0 (.slice none 0 0) ++ cellsR reg (.slice none 0 0) (.slice none 0 0) (.slice none 0 0) 0 := by
    rw [BI_length, h8]
    show preF B 0 (.slice none 0 0) ++ BI reg ++ _ = _
    rw [List.append_assoc]
    rfl
  rw [e] at h2
  exact ⟨W, h1, .slice none 0 0, _, _, _, Out.nil kk, ⟨h2, h8, Out.nil kk, Out.nil kk, Out.nil kk, Nat.le_refl _⟩⟩
end Go.Proofs.YtpodoiichpnpjaaDoor
