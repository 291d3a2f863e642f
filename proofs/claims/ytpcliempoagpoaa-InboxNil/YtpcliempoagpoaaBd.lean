/-
  Decode of an inbox.
-/
import Derived.Test.YtpcliempoagpoaaBa
namespace Go.Proofs.Ytpcliempoagpoaa
open Go.RowKit
set_option linter.unusedVariables false
section
variable {P : Program}
theorem run_copy_noneK (w : World) (dT sT ty elem : TypeId) (k : Nat) (d a : Option Addr) (dLen dCap sLen sCap : Nat) (hu : P.underlying dT = some (.slice elem)) (hs : (P.info? elem).map (·.size) = some k) (hn : Nat.min sLen dLen = 0) :
    (Builtin.copy_ #[dT, sT] ty #[.slice d dLen dCap, .slice a sLen sCap]).run P w = .ok (goInt 0) w := by
  cases hq : P.info? elem with
  | none => simp [hq] at hs
  | some i =>
    have hl : ∀ (x : Addr), (loadCells x 0).run P w = .ok #[] w := fun x => by simpa using run_loadCells_list (P := P) w x [] (by simp)
    cases d <;> cases a <;> simp [Builtin.copy_, run_underlying hu, Builtin.lenOf, Builtin.firstCells, sizeOf, typeInfo, hq, hn, storeCells, hl]
end
/-- The letters of an inbox that bytes are. -/
def decB (l : List UInt8) : Option (List Lt) := (decP l).bind fun m => if m.length ≤ 8 then some m else none
/-- What Decode answers. -/
def BoxAt (w : World) (l : List UInt8) (e : Ending) (w' : World) : Prop :=
  (decB l = none ∧ e = .returned (.tuple #[.pointer none, .int .i64 2]) ∧ Kept [] w w') ∨
  (∃ p qs, decB l = some (qs.map (·.x)) ∧ e = .returned (.tuple #[.pointer (some ⟨p, 0, none⟩), .int .i64 0]) ∧ IsB w' p qs ∧ w.heap.size ≤ p ∧ (∀ q ∈ qs, Fresh w q.sl) ∧ Kept [] w w')
theorem box_none {w w' : World} {l : List UInt8} (h : decB l = none) (k : Kept [] w w') : BoxAt w l (.returned (.tuple #[.pointer none, .int .i64 2])) w' := .inl ⟨h, rfl, k⟩
theorem box_some {w w' : World} {l : List UInt8} {p : Nat} {qs : List Lq} (h : decB l = some (qs.map (·.x))) (hB : IsB w' p qs) (hp : w.heap.size ≤ p) (hf : ∀ q ∈ qs, Fresh w q.sl) (k : Kept [] w w') : BoxAt w l (.returned (.tuple #[.pointer (some ⟨p, 0, none⟩), .int .i64 0])) w' := .inr ⟨p, qs, h, rfl, hB, hp, hf, k⟩
section
variable {w : World}
/-- Letters are copied into a new inbox. -/
theorem fillB {w0 w1 : World} {a1 : Option Addr} {c1 : Nat} {qs : List Lq} (hO : OwnL w0 w1 (.slice a1 qs.length c1) qs) (h8 : qs.length ≤ 8) :
    ∃ r W', (Builtin.copy_ #[28, 28] 3 #[.slice (some ⟨w1.heap.size, 0, none⟩) 8 8, .slice a1 qs.length c1]).run Try.prog (w1.alloc (.cells ((cellsB []).set 32 (.int .i64 (qs.length : Int))).toArray 37)) = .ok r W' ∧ W'.heap[w1.heap.size]? = some (.cells (cellsB qs).toArray 37 (0, 0)) ∧ Kept [] w1 W' := by
  have hnew : (w1.alloc (.cells ((cellsB []).set 32 (.int .i64 (qs.length : Int))).toArray 37)).heap[w1.heap.size]? = some (.cells ((cellsB []).set 32 (.int .i64 (qs.length : Int))).toArray 37 (0, 0)) := heap_alloc_new w1 _
  have k0 := (Kept.refl [] w1).alloc (.cells ((cellsB []).set 32 (.int .i64 (qs.length : Int))).toArray 37)
  have hrow := hO.row.kept k0 (by simp)
  have hfill := cellsB_fill qs h8
  have hlen : ((cellsB []).set 32 (.int .i64 (qs.length : Int))).length = 33 := by rw [List.length_set, cellsB_length (by simp)]
  have hcl : (CQ qs).flatten.length = qs.length * 4 := by rw [(CQ_wide qs).flat_length, CQ_length]
  generalize hA : w1.alloc (.cells ((cellsB []).set 32 (.int .i64 (qs.length : Int))).toArray 37) = A at hnew k0 hrow ⊢
  clear hA
  cases qs with
  | nil =>
    exact ⟨_, _, run_copy_noneK (P := Try.prog) A 28 28 3 34 4 _ a1 8 8 0 c1 Try.underlying28 (by kernel_rfl) rfl, hnew, k0⟩
  | cons q t =>
    obtain ⟨b, o, rfl, -⟩ := hrow.at (j := 0) (q := q) rfl
    have hsrc : ∀ j v, (CQ (q :: t)).flatten[j]? = some v → A.cell? ((⟨b, o, none⟩ : Addr).add j) = some v := fun j v hv => by
      obtain ⟨m, r, i, hm, hi, rfl⟩ := (CQ_wide (q :: t)).inv j v hv
      obtain ⟨b', o', c', hbo, hcell⟩ := ReadsR.at hrow m r hm
      injection hbo with hbo _ _
      injection hbo with hbo
      injection hbo with hb ho _
      subst hb ho
      have := hcell i v hi
      rw [add_at, ← Nat.add_assoc]
      exact this
    have hrun := run_copy_rowK (P := Try.prog) A 28 28 3 34 4 w1.heap.size 0 8 8 ⟨b, o, none⟩ (q :: t).length c1 _ 37 (CQ (q :: t)).flatten Try.underlying28 (by kernel_rfl) hnew (by rw [hcl]; congr 1; exact (Nat.min_eq_left h8).symm) hsrc (by rw [hcl, List.size_toArray, hlen]; omega) (CQ_wide (q :: t)).one
    refine ⟨_, _, hrun, ?_, k0.setRow (.inr (Nat.le_refl _)) _⟩
    have := setRow_heap A w1.heap.size _ (((cellsB []).set 32 (.int .i64 ((q :: t).length : Int))).toArray.toList.take 0 ++ (CQ (q :: t)).flatten ++ ((cellsB []).set 32 (.int .i64 ((q :: t).length : Int))).toArray.toList.drop (0 + (CQ (q :: t)).flatten.length)).toArray 37 (0, 0) hnew
    rw [this]
    congr 3
    rw [← hfill]
    simp
set_option maxRecDepth 100000 in
set_option maxHeartbeats 1000000 in
theorem decode19 (v : Value) (l : List UInt8) (hr : Reads w v l) (hl : l.length ≤ 3000000) : Calls Try.prog 19 #[v] w fun e w' => BoxAt w l e w' := by
  have H0 : Hid (∀ W, decB l = none → Kept [] w W → BoxAt w l (.returned (.tuple #[.pointer none, .int .i64 2])) W) := fun W => box_none
  have H1 : Hid (∀ W p qs, decB l = some (qs.map (·.x)) → IsB W p qs → w.heap.size ≤ p → (∀ q ∈ qs, Fresh w q.sl) → Kept [] w W → BoxAt w l (.returned (.tuple #[.pointer (some ⟨p, 0, none⟩), .int .i64 0])) W) := fun W p qs => box_some
  generalize BoxAt w l = R at H0 H1
  go_enter Try.func19, Try.ntmps19
  go_wp2_with fail
  refine (unpack22 v l hr hl).mono ?_
  rintro e w1 ⟨v1, qs, rfl, hq1, hO1, k1⟩
  cases hd : decP l with
  | none =>
    have hN : Hid (decB l = none) := by show _ = _; unfold decB; rw [hd]; rfl
    clear hd hq1
    simp only [Option.isSome_none, Bool.false_eq_true, if_false]
    go_wp2_with fail
    exact H0.out _ hN.out k1
  | some m =>
    have hok := decP_ok hd
    rw [hd] at hq1
    have hqm : qs.map (·.x) = m := hq1
    have HD : Hid (decB l = if qs.length ≤ 8 then some (qs.map (·.x)) else none) := by
      show _ = _
      unfold decB
      rw [hd, hqm]
      have : qs.length = m.length := by rw [← hqm, List.length_map]
      rw [this]
      rfl
    have HG : Hid (∀ q ∈ qs, q.x.ok ∧ q.x.formed = true) := fun q hq => hok q.x (by rw [← hqm]; exact List.mem_map.2 ⟨q, hq, rfl⟩)
    obtain ⟨a1, c1, rfl, hc1, hc2⟩ := hO1.row.form
    clear hd hq1 hqm hok
    simp only [Option.isSome_some, if_true]
    by_cases h8 : qs.length ≤ 8
    · have h8I : ((8 : Int) < (qs.length : Int)) = False := eq_false (by omega)
      have hD := HD.out
      rw [if_pos h8] at hD
      have HD' := Hid.mk hD
      clear HD hD
      obtain ⟨r2, W2, hrun, hb2, k2⟩ := fillB hO1 h8
      have HH : Hid (R (.returned (.tuple #[.pointer (some ⟨w1.heap.size, 0, none⟩), .int .i64 0])) W2) := H1.out _ _ qs HD'.out ⟨hb2, h8, HG.out, fun q hq => (hO1.args q hq).kept k2 (by simp)⟩ k1.size hO1.fra (k1.trans k2 (by simp))
      clear hO1 hb2 k2
      have hrun' : (Builtin.copy_ #[28, 28] 3 #[.slice (some ⟨w1.heap.size, 0, none⟩) 8 8, .slice a1 qs.length c1]).run Try.prog (w1.alloc (.cells #[.string { data := #[] }, .int .u64 0, .int .i64 0, .slice none 0 0, .string { data := #[] }, .int .u64 0, .int .i64 0, .slice none 0 0, .string { data := #[] }, .int .u64 0, .int .i64 0, .slice none 0 0, .string { data := #[] }, .int .u64 0, .int .i64 0, .slice none 0 0, .string { data := #[] }, .int .u64 0, .int .i64 0, .slice none 0 0, .string { data := #[] }, .int .u64 0, .int .i64 0, .slice none 0 0, .string { data := #[] }, .int .u64 0, .int .i64 0, .slice none 0 0, .string { data := #[] }, .int .u64 0, .int .i64 0, .slice none 0 0, .int .i64 (qs.length : Int)] 37)) = .ok r2 W2 := hrun
      clear hrun
      go_wp2_with fail
      exact HH.out
    · have h8I : (8 : Int) < (qs.length : Int) := by omega
      have hD := HD.out
      rw [if_neg h8] at hD
      have HD' := Hid.mk hD
      clear HD hD hO1
      go_wp2_with fail
      exact H0.out _ HD'.out k1
end
end Go.Proofs.Ytpcliempoagpoaa
