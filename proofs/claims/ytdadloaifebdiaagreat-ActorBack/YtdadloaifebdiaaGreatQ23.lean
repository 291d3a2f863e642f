import Derived.Test.YtdadloaifebdiaaGreatQ12
import Derived.Test.YtdadloaifebdiaaGreatQ22
/-
  First of an inbox.
-/
namespace Go.Proofs.YtdadloaifebdiaaGreat
open Go.RowKit
set_option linter.unusedVariables false
/-- The first one, or none. -/
def hdL (l : List Lt) : Lt := l.headD ⟨[], 0, 0, []⟩
/-- A letter in new memory, and whether there is one. -/
def LetB (w : World) (x : Lt) (b : Bool) (e : Ending) (w' : World) : Prop :=
  ∃ a c, e = .returned (.tuple #[Lv x a c, .bool b]) ∧ OwnsJ w' (.slice a x.args.length c) x.args ∧ Kept [] w w' ∧ Fresh w (.slice a x.args.length c)
section
variable {w : World} {p : Nat} {qs : List Lq}
end
end Go.Proofs.YtdadloaifebdiaaGreat
/-
  Pop of an inbox.
-/
namespace Go.Proofs.YtdadloaifebdiaaGreat
open Go.RowKit
set_option linter.unusedVariables false
section
variable {w : World} {p : Nat} {qs : List Lq}
end
end Go.Proofs.YtdadloaifebdiaaGreat
/-
  Encode of an inbox, and All.
-/
namespace Go.Proofs.YtdadloaifebdiaaGreat
open Go.RowKit
set_option linter.unusedVariables false
/-- A row of letters that is stored into. -/
theorem flat_set4 (ds zs : List Lq) (z q : Lq) : ((((CQ (ds ++ z :: zs)).flatten.set (ds.length * 4) (Sv q.x.fr)).set (ds.length * 4 + 1) (.int .u64 (q.x.ser : Int))).set (ds.length * 4 + 2) (.int .i64 q.x.kind)).set (ds.length * 4 + 3) q.sl = (CQ (ds ++ q :: zs)).flatten := by
  have h : (CQ ds).flatten.length = ds.length * 4 := by rw [(CQ_wide ds).flat_length, CQ_length]
  rw [CQ_append, CQ_append, List.flatten_append, List.flatten_append, ← h]
  rw [List.set_append_right _ _ (Nat.le_refl _), List.set_append_right _ _ (by omega), List.set_append_right _ _ (by omega), List.set_append_right _ _ (by omega)]
  rw [Nat.sub_self, Nat.add_sub_cancel_left, Nat.add_sub_cancel_left, Nat.add_sub_cancel_left]
  rfl
theorem make_lets0 (W : World) : (Instr.makeSlice 35 (.int .i64 0) (.int .i64 0)).run Tryz.prog W = .ok (.slice (some ⟨W.heap.size, 0, none⟩) 0 0) (W.alloc (.cells (CQ (List.replicate 0 zq)).flatten.toArray 90)) := by kernel_rfl
theorem make_lets1 (W : World) : (Instr.makeSlice 35 (.int .i64 1) (.int .i64 1)).run Tryz.prog W = .ok (.slice (some ⟨W.heap.size, 0, none⟩) 1 1) (W.alloc (.cells (CQ (List.replicate 1 zq)).flatten.toArray 90)) := by kernel_rfl
theorem make_lets2 (W : World) : (Instr.makeSlice 35 (.int .i64 2) (.int .i64 2)).run Tryz.prog W = .ok (.slice (some ⟨W.heap.size, 0, none⟩) 2 2) (W.alloc (.cells (CQ (List.replicate 2 zq)).flatten.toArray 90)) := by kernel_rfl
theorem make_lets3 (W : World) : (Instr.makeSlice 35 (.int .i64 3) (.int .i64 3)).run Tryz.prog W = .ok (.slice (some ⟨W.heap.size, 0, none⟩) 3 3) (W.alloc (.cells (CQ (List.replicate 3 zq)).flatten.toArray 90)) := by kernel_rfl
theorem make_lets4 (W : World) : (Instr.makeSlice 35 (.int .i64 4) (.int .i64 4)).run Tryz.prog W = .ok (.slice (some ⟨W.heap.size, 0, none⟩) 4 4) (W.alloc (.cells (CQ (List.replicate 4 zq)).flatten.toArray 90)) := by kernel_rfl
theorem make_lets5 (W : World) : (Instr.makeSlice 35 (.int .i64 5) (.int .i64 5)).run Tryz.prog W = .ok (.slice (some ⟨W.heap.size, 0, none⟩) 5 5) (W.alloc (.cells (CQ (List.replicate 5 zq)).flatten.toArray 90)) := by kernel_rfl
theorem make_lets6 (W : World) : (Instr.makeSlice 35 (.int .i64 6) (.int .i64 6)).run Tryz.prog W = .ok (.slice (some ⟨W.heap.size, 0, none⟩) 6 6) (W.alloc (.cells (CQ (List.replicate 6 zq)).flatten.toArray 90)) := by kernel_rfl
theorem make_lets7 (W : World) : (Instr.makeSlice 35 (.int .i64 7) (.int .i64 7)).run Tryz.prog W = .ok (.slice (some ⟨W.heap.size, 0, none⟩) 7 7) (W.alloc (.cells (CQ (List.replicate 7 zq)).flatten.toArray 90)) := by kernel_rfl
theorem make_lets8 (W : World) : (Instr.makeSlice 35 (.int .i64 8) (.int .i64 8)).run Tryz.prog W = .ok (.slice (some ⟨W.heap.size, 0, none⟩) 8 8) (W.alloc (.cells (CQ (List.replicate 8 zq)).flatten.toArray 90)) := by kernel_rfl
theorem make_lets (n : Nat) (h : n ≤ 8) (W : World) : (Instr.makeSlice 35 (.int .i64 (n : Int)) (.int .i64 (n : Int))).run Tryz.prog W = .ok (.slice (some ⟨W.heap.size, 0, none⟩) n n) (W.alloc (.cells (CQ (List.replicate n zq)).flatten.toArray 90)) := by
  have h' : n = 0 ∨ n = 1 ∨ n = 2 ∨ n = 3 ∨ n = 4 ∨ n = 5 ∨ n = 6 ∨ n = 7 ∨ n = 8 := by omega
  rcases h' with rfl | rfl | rfl | rfl | rfl | rfl | rfl | rfl | rfl
  · exact make_lets0 W
  · exact make_lets1 W
  · exact make_lets2 W
  · exact make_lets3 W
  · exact make_lets4 W
  · exact make_lets5 W
  · exact make_lets6 W
  · exact make_lets7 W
  · exact make_lets8 W
section
variable {w : World} {p : Nat} {qs : List Lq}
set_option maxRecDepth 100000 in
set_option maxHeartbeats 1000000 in
theorem encode18 (hB : IsB w p qs) : Calls Tryz.prog 34 #[.pointer (some ⟨p, 0, none⟩)] w fun e w' => ∃ v, e = .returned v ∧ Owns 5 w' v (packB qs) ∧ Kept [] w w' ∧ Fresh w v := by
  have hB' := hB.kept0 (Kept.refl [] w).drew
  have hP := Hid.mk (pack20 hB'.row hB'.vals (fun q hq => (hB.good q hq).1) (by have := hB.len; omega))
  have S0 := hB'.count
  have hc := hB.count
  have hl := hB.len
  clear hB hB'
  have hi0 : (0 : Int) ≤ (qs.length : Int) := by omega
  have hi1 : (qs.length : Int) ≤ 8 := by omega
  go_enter Tryz.func34, Tryz.ntmps34
  go_wp2_with fail
  go_region_held3 (fun W => W.cell? ⟨p, 32, none⟩ = some (.int .i64 (qs.length : Int))) (first | exact S0 | exact S1) (first | (go_at_call 30; refine hP.out.mono ?_; rintro e w2 ⟨v2, rfl, hO2, k2, hf2⟩; have S1 := k2.cell_eq S0))
  clear S0 S1
  go_wp2_with fail
  go_ret
  exact ⟨v2, rfl, hO2, (Kept.refl [] w).drew.trans k2 (by simp), hf2⟩
theorem encode18_nil : Calls Tryz.prog 34 #[.pointer none] w fun e w' => e = .returned (.slice none 0 0) ∧ w = w' := by
  go_enter Tryz.func34, Tryz.ntmps34
  go_wp2_with fail
  go_ret
  exact ⟨rfl, rfl⟩
theorem all24_nil : Calls Tryz.prog 39 #[.pointer none] w fun e w' => e = .returned (.slice none 0 0) ∧ w = w' := by
  go_enter Tryz.func39, Tryz.ntmps39
  go_wp2_with fail
  go_ret
  exact ⟨rfl, rfl⟩
set_option maxRecDepth 100000 in
set_option maxHeartbeats 1000000 in
theorem all24 (hB : IsB w p qs) : Calls Tryz.prog 39 #[.pointer (some ⟨p, 0, none⟩)] w fun e w' => ∃ v, e = .returned v ∧ ∃ qs', qs'.map (·.x) = qs.map (·.x) ∧ OwnL w w' v qs' ∧ Kept [] w w' := by
  have HB := Hid.mk hB
  have hc := hB.count
  have hl := hB.len
  have hpl := hB.lt
  clear hB
  have hi0 : (0 : Int) ≤ (qs.length : Int) := by omega
  have hi1 : (qs.length : Int) ≤ 8 := by omega
  obtain ⟨L, hL⟩ : ∃ L, L = (CQ (List.replicate qs.length zq)).flatten := ⟨_, rfl⟩
  have hmk := make_lets qs.length hl w
  rw [← hL] at hmk
  have HL := Hid.mk hL
  clear hL
  generalize hn : qs.length = n at *
  have HN := Hid.mk hn
  clear hn
  go_enter Tryz.func39, Tryz.ntmps39
  go_wp2_with fail
  have hg0 : (w.alloc (.cells L.toArray 90)).heap[w.heap.size]? = some (.cells L.toArray 90 (0, 0)) := heap_alloc_new w _
  have k0 := (Kept.refl [] w).alloc (.cells L.toArray 90)
  have hz0 : w.heap.size < (w.alloc (.cells L.toArray 90)).heap.size := by simp
  generalize w.alloc (.cells L.toArray 90) = W0 at hg0 k0 hz0 ⊢
  go_loopw [14] (fun i wr => ∃ (j : Nat) (ds : List Lq), i = .int .i64 (j : Int) ∧ j ≤ n ∧ Hid (ds.length = j ∧ ds.map (·.x) = (qs.take j).map (·.x) ∧ (∀ q ∈ ds, OwnsJ wr q.sl q.x.args ∧ Fresh w q.sl) ∧ wr.heap[w.heap.size]? = some (.cells (CQ (ds ++ List.replicate (n - j) zq)).flatten.toArray 90 (0, 0)) ∧ Kept [] w wr)) (fun i _ => n - (intOf i).toNat)
  case atStart =>
    refine ⟨0, [], rfl, by omega, Hid.mk ⟨rfl, rfl, by simp, ?_, k0⟩⟩
    rw [HL.out] at hg0
    exact hg0
  case round =>
    obtain ⟨j, ds, rfl, hj, hH⟩ := hrel
    by_cases hlt : j < n
    · have hjI : (j : Int) < (n : Int) := by omega
      have hj0 : (0 : Int) ≤ (j : Int) := by omega
      have hj8 : (j : Int) < 8 := by omega
      obtain ⟨hdl, hdm, hda, hdb, kk⟩ := hH.out
      obtain ⟨q, hq⟩ : ∃ q, qs[j]? = some q := ⟨_, List.getElem?_eq_getElem (by have := HN.out; omega)⟩
      have hBr := HB.out.kept0 kk
      obtain ⟨d0, d1, d2, d3⟩ := hBr.at hq
      have hqm := List.mem_of_getElem? hq
      have hfm := formed_le (hBr.good q hqm).2
      have HC := Hid.mk (copy17 q.x q.ad q.cap (hBr.args q hqm).reads (by omega) (by omega))
      have HQ := Hid.mk hq
      clear hdl hdm hda hdb kk hq hBr hqm
      go_wp2_with fail
      refine HC.out.mono ?_
      rintro e w2 ⟨a2, c2, rfl, hO2, k2, hf2⟩
      obtain ⟨hdl, hdm, hda, hdb, kk⟩ := hH.out
      have hb2 := k2.keeps hdb (by simp)
      have hrep : List.replicate (n - j) zq = zq :: List.replicate (n - (j + 1)) zq := by rw [show n - j = n - (j + 1) + 1 by omega, List.replicate_succ]
      rw [hrep] at hb2
      obtain ⟨W3, e3, k3, h3, hz3⟩ := putL (o := j * 4) hb2 (Sv q.x.fr) (.int .u64 (q.x.ser : Int)) (.int .i64 q.x.kind) (.slice a2 q.x.args.length c2)
      have hfs := flat_set4 ds (List.replicate (n - (j + 1)) zq) zq ⟨q.x, a2, c2⟩
      rw [hdl] at hfs
      rw [hfs] at h3
      have hcell : ∀ i, i < 4 → ∃ v, w2.cell? ⟨w.heap.size, j * 4 + i, none⟩ = some v := fun i hi => by
        have hlen : (CQ (ds ++ zq :: List.replicate (n - (j + 1)) zq)).flatten.length = n * 4 := by
          rw [(CQ_wide _).flat_length, CQ_length]; simp; omega
        refine ⟨(CQ (ds ++ zq :: List.replicate (n - (j + 1)) zq)).flatten[j * 4 + i]'(by rw [hlen]; omega), ?_⟩
        unfold World.cell?
        rw [hb2]
        have : j * 4 + i < n * 4 := by omega
        simp [hlen, this]
      obtain ⟨x0, hx0⟩ := hcell 0 (by omega)
      obtain ⟨x1, hx1⟩ := hcell 1 (by omega)
      obtain ⟨x2, hx2⟩ := hcell 2 (by omega)
      obtain ⟨x3, hx3⟩ := hcell 3 (by omega)
      rw [Nat.add_zero] at hx0
      have hfz : ∀ i, w2.frozen? ⟨w.heap.size, i, none⟩ = false := fun i => by simp [World.frozen?, hb2]
      have f0 := hfz (j * 4)
      have f1 := hfz (j * 4 + 1)
      have f2 := hfz (j * 4 + 2)
      have f3 := hfz (j * 4 + 3)
      have k03 : Kept [] w W3 := (kk.trans k2 (by simp)).trans k3 (by simp)
      have HR : Hid ((ds ++ [(⟨q.x, a2, c2⟩ : Lq)]).length = j + 1 ∧ (ds ++ [(⟨q.x, a2, c2⟩ : Lq)]).map (·.x) = (qs.take (j + 1)).map (·.x) ∧ (∀ y ∈ ds ++ [(⟨q.x, a2, c2⟩ : Lq)], OwnsJ W3 y.sl y.x.args ∧ Fresh w y.sl) ∧ W3.heap[w.heap.size]? = some (.cells (CQ ((ds ++ [⟨q.x, a2, c2⟩]) ++ List.replicate (n - (j + 1)) zq)).flatten.toArray 90 (0, 0)) ∧ Kept [] w W3) := by
        refine ⟨by simp [hdl], ?_, fun y hy => ?_, ?_, k03⟩
        · rw [List.take_add_one, HQ.out, List.map_append, List.map_append, hdm]
          rfl
        · have hy' : OwnsJ w2 y.sl y.x.args ∧ Fresh w y.sl := by
            rcases List.mem_append.1 hy with h | h
            · exact ⟨(hda y h).1.kept k2 (by simp), (hda y h).2⟩
            · simp at h; subst h; exact ⟨hO2, fun g hg => by have := hf2 g hg; have := kk.size; omega⟩
          exact ⟨hy'.1.kept k3 (fun g hg hm => by simp at hm; subst hm; exact ownsJ_ne hy'.1 hb2 (by decide) hg), hy'.2⟩
        · rw [List.append_assoc]; exact h3
      clear d0 d1 d2 d3 hcell hfz h3 hfs hrep hdl hdm hda hdb kk hb2 k03
      go_wp2_with fail
      go_roundw
      case rel => exact ⟨j + 1, _, by go_num, by omega, HR⟩
      case measure => simp [intOf]; omega
    · obtain rfl : j = n := by omega
      obtain ⟨hdl, hdm, hda, hdb, kk⟩ := hH.out
      go_wp2_with fail
      go_ret
      rw [Nat.sub_self, List.replicate_zero, List.append_nil] at hdb
      rw [List.take_of_length_le (by have := HN.out; omega)] at hdm
      exact ⟨_, rfl, ds, hdm, ⟨ownsR_block hdb (CQ_wide ds) (by rw [CQ_length, hdl]) (by unfold maxLen; omega), fun q hq => (hda q hq).1, fun g hg => by simp [Value.ownBlock] at hg; omega, fun q hq => (hda q hq).2⟩, kk⟩
end
end Go.Proofs.YtdadloaifebdiaaGreat
/-
  Decode of an inbox.
-/
namespace Go.Proofs.YtdadloaifebdiaaGreat
set_option maxRecDepth 100000
open Go.RowKit
set_option linter.unusedVariables false
section
variable {P : Program}
end
/-- The letters of an inbox that bytes are. -/
def decB (l : List UInt8) : Option (List Lt) := (decP l).bind fun m => if m.length ≤ 8 then some m else none
/-- What Decode answers. -/
def BoxAt (w : World) (l : List UInt8) (e : Ending) (w' : World) : Prop :=
  (decB l = none ∧ e = .returned (.tuple #[.pointer none, .int .i64 2]) ∧ Kept [] w w') ∨
  (∃ p qs, decB l = some (qs.map (·.x)) ∧ e = .returned (.tuple #[.pointer (some ⟨p, 0, none⟩), .int .i64 0]) ∧ IsB w' p qs ∧ w.heap.size ≤ p ∧ (∀ q ∈ qs, Fresh w q.sl) ∧ Kept [] w w')
theorem box_none {w w' : World} {l : List UInt8} (h : decB l = none) (k : Kept [] w w') : BoxAt w l (.returned (.tuple #[.pointer none, .int .i64 2])) w' := .inl ⟨h, rfl, k⟩
theorem box_some {w w' : World} {l : List UInt8} {p : Nat} {qs : List Lq} (h : decB l = some (qs.map (·.x))) (hB : IsB w' p qs) (hp : w.heap.size ≤ p) (hf : ∀ q ∈ qs, Fresh w q.sl) (k : Kept [] w w') : BoxAt w l (.returned (.tuple #[.pointer (some ⟨p, 0, none⟩), .int .i64 0])) w' := .inr ⟨p, qs, h, rfl, hB, hp, hf, k⟩
section
variable {w : World}
/-- Letters are copied into a new inbox. -/
theorem fillB {w0 w1 : World} {a1 : Option Addr} {c1 : Nat} {qs : List Lq} (hO : OwnL w0 w1 (.slice a1 qs.length c1) qs) (h8 : qs.length ≤ 8) :
    ∃ r W', (Builtin.copy_ #[35, 35] 3 #[.slice (some ⟨w1.heap.size, 0, none⟩) 8 8, .slice a1 qs.length c1]).run Tryz.prog (w1.alloc (.cells ((cellsB []).set 32 (.int .i64 (qs.length : Int))).toArray 153)) = .ok r W' ∧ W'.heap[w1.heap.size]? = some (.cells (cellsB qs).toArray 153 (0, 0)) ∧ Kept [] w1 W' := by
  have hnew : (w1.alloc (.cells ((cellsB []).set 32 (.int .i64 (qs.length : Int))).toArray 153)).heap[w1.heap.size]? = some (.cells ((cellsB []).set 32 (.int .i64 (qs.length : Int))).toArray 153 (0, 0)) := heap_alloc_new w1 _
  have k0 := (Kept.refl [] w1).alloc (.cells ((cellsB []).set 32 (.int .i64 (qs.length : Int))).toArray 153)
  have hrow := hO.row.kept k0 (by simp)
  have hfill := cellsB_fill qs h8
  have hlen : ((cellsB []).set 32 (.int .i64 (qs.length : Int))).length = 33 := by rw [List.length_set, cellsB_length (by simp)]
  have hcl : (CQ qs).flatten.length = qs.length * 4 := by rw [(CQ_wide qs).flat_length, CQ_length]
  generalize hA : w1.alloc (.cells ((cellsB []).set 32 (.int .i64 (qs.length : Int))).toArray 153) = A at hnew k0 hrow ⊢
  clear hA
  cases qs with
  | nil =>
    exact ⟨_, _, run_copy_noneK (P := Tryz.prog) A 35 35 3 90 4 _ a1 8 8 0 c1 Tryz.underlying35 (by kernel_rfl) rfl, hnew, k0⟩
  | cons q t =>
    obtain ⟨b, o, rfl, -⟩ := hrow.at (j := 0) (q := q) rfl
    have hsrc : ∀ j v, (CQ (q :: t)).flatten[j]? = some v → A.cell? ((⟨b, o, none⟩ : Addr).add j) = some v := fun j v hv => by
      obtain ⟨m, r, i, hm, hi, rfl⟩ := (CQ_wide (q :: t)).inv j v hv
      obtain ⟨b', o', c', hbo, hcell⟩ := ReadsR.at hrow m r hm
      injection hbo with hbo _ _
      injection hbo with hbo
      injection hbo with hb ho _
      subst hb ho
      have := hcell i v hi
      rw [add_at, ← Nat.add_assoc]
      exact this
    have hrun := run_copy_rowK (P := Tryz.prog) A 35 35 3 90 4 w1.heap.size 0 8 8 ⟨b, o, none⟩ (q :: t).length c1 _ 153 (CQ (q :: t)).flatten Tryz.underlying35 (by kernel_rfl) hnew (by rw [hcl]; congr 1; exact (Nat.min_eq_left h8).symm) hsrc (by rw [hcl, List.size_toArray, hlen]; omega) (CQ_wide (q :: t)).one
    refine ⟨_, _, hrun, ?_, k0.setRow (.inr (Nat.le_refl _)) _⟩
    have := setRow_heap A w1.heap.size _ (((cellsB []).set 32 (.int .i64 ((q :: t).length : Int))).toArray.toList.take 0 ++ (CQ (q :: t)).flatten ++ ((cellsB []).set 32 (.int .i64 ((q :: t).length : Int))).toArray.toList.drop (0 + (CQ (q :: t)).flatten.length)).toArray 153 (0, 0) hnew
    rw [this]
    congr 3
    rw [← hfill]
    simp
set_option maxRecDepth 100000 in
set_option maxHeartbeats 1000000 in
theorem decode19_I (v : Value) (l : List UInt8) (hr : Reads w v l) (hl : l.length ≤ 3000000) : Calls Tryz.prog 74 #[v] w fun e w' => BoxAt w l e w' := by
  have H0 : Hid (∀ W, decB l = none → Kept [] w W → BoxAt w l (.returned (.tuple #[.pointer none, .int .i64 2])) W) := fun W => box_none
  have H1 : Hid (∀ W p qs, decB l = some (qs.map (·.x)) → IsB W p qs → w.heap.size ≤ p → (∀ q ∈ qs, Fresh w q.sl) → Kept [] w W → BoxAt w l (.returned (.tuple #[.pointer (some ⟨p, 0, none⟩), .int .i64 0])) W) := fun W p qs => box_some
  generalize BoxAt w l = R at H0 H1
  go_enter Tryz.func74, Tryz.ntmps74
  go_wp2_with fail
  refine (unpack22 v l hr hl).mono ?_
  rintro e w1 ⟨v1, qs, rfl, hq1, hO1, k1⟩
  cases hd : decP l with
  | none =>
    have hN : Hid (decB l = none) := by show _ = _; unfold decB; rw [hd]; rfl
    clear hd hq1
    simp only [Option.isSome_none, Bool.false_eq_true, if_false]
    go_wp2_with fail
    exact H0.out _ hN.out k1
  | some m =>
    have hok := decP_ok hd
    rw [hd] at hq1
    have hqm : qs.map (·.x) = m := hq1
    have HD : Hid (decB l = if qs.length ≤ 8 then some (qs.map (·.x)) else none) := by
      show _ = _
      unfold decB
      rw [hd, hqm]
      have : qs.length = m.length := by rw [← hqm, List.length_map]
      rw [this]
      rfl
    have HG : Hid (∀ q ∈ qs, q.x.ok ∧ q.x.formed = true) := fun q hq => hok q.x (by rw [← hqm]; exact List.mem_map.2 ⟨q, hq, rfl⟩)
    obtain ⟨a1, c1, rfl, hc1, hc2⟩ := hO1.row.form
    clear hd hq1 hqm hok
    simp only [Option.isSome_some, if_true]
    by_cases h8 : qs.length ≤ 8
    · have h8I : ((8 : Int) < (qs.length : Int)) = False := eq_false (by omega)
      have hD := HD.out
      rw [if_pos h8] at hD
      have HD' := Hid.mk hD
      clear HD hD
      obtain ⟨r2, W2, hrun, hb2, k2⟩ := fillB hO1 h8
      have HH : Hid (R (.returned (.tuple #[.pointer (some ⟨w1.heap.size, 0, none⟩), .int .i64 0])) W2) := H1.out _ _ qs HD'.out ⟨hb2, h8, HG.out, fun q hq => (hO1.args q hq).kept k2 (by simp)⟩ k1.size hO1.fra (k1.trans k2 (by simp))
      clear hO1 hb2 k2
      have hrun' : (Builtin.copy_ #[35, 35] 3 #[.slice (some ⟨w1.heap.size, 0, none⟩) 8 8, .slice a1 qs.length c1]).run Tryz.prog (w1.alloc (.cells #[.string { data := #[] }, .int .u64 0, .int .i64 0, .slice none 0 0, .string { data := #[] }, .int .u64 0, .int .i64 0, .slice none 0 0, .string { data := #[] }, .int .u64 0, .int .i64 0, .slice none 0 0, .string { data := #[] }, .int .u64 0, .int .i64 0, .slice none 0 0, .string { data := #[] }, .int .u64 0, .int .i64 0, .slice none 0 0, .string { data := #[] }, .int .u64 0, .int .i64 0, .slice none 0 0, .string { data := #[] }, .int .u64 0, .int .i64 0, .slice none 0 0, .string { data := #[] }, .int .u64 0, .int .i64 0, .slice none 0 0, .int .i64 (qs.length : Int)] 153)) = .ok r2 W2 := hrun
      clear hrun
      go_wp2_with fail
      exact HH.out
    · have h8I : (8 : Int) < (qs.length : Int) := by omega
      have hD := HD.out
      rw [if_neg h8] at hD
      have HD' := Hid.mk hD
      clear HD hD hO1
      go_wp2_with fail
      exact H0.out _ HD'.out k1
end
end Go.Proofs.YtdadloaifebdiaaGreat
/-
  The document's inbox: Push, Pop, Box.
-/
namespace Go.Proofs.YtdadloaifebdiaaGreat
open Go.RowKit
set_option linter.unusedVariables false
/-- The document's inbox at block p: its row is v, its letters are qs; all of it is new since w0. -/
structure IsF_I (w0 w : World) (p : Nat) (v : Value) (qs : List Lq) : Prop where
  box : w.heap[p]? = some (.cells #[v] 70 (0, 0))
  own : OwnL w0 w v qs
  fr : w0.heap.size ≤ p
section
variable {w0 w w' : World} {p pf : Nat} {v : Value} {qs ms : List Lq}
theorem IsF_I.lt (h : IsF_I w0 w p v qs) : p < w.heap.size := lt_of_block h.box
/-- What turns the document's inbox leaves the program's. -/
theorem IsB.besides (hB : IsB w p qs) (hF : IsF_I w0 w pf v ms) (k : Kept (foot pf v) w w') : IsB w' p qs := by
  refine hB.kept k (fun hm => ?_) (fun q hq g hg hm => ?_)
  · rcases mem_foot.1 hm with h | h
    · exact box_ne hB.box hF.box (by decide) h
    · exact ownsR_ne hF.own.own hB.box (by decide) h
  · rcases mem_foot.1 hm with h | h
    · subst h; exact ownsJ_ne (hB.args q hq) hF.box (by decide) hg
    · exact own_apart (hB.args q hq) hF.own.own (by decide) hg h
/-- What turns the program's inbox leaves the document's. -/
theorem IsF_I.besides (hF : IsF_I w0 w pf v ms) (hB : IsB w p qs) (k : Kept [p] w w') : IsF_I w0 w' pf v ms := by
  refine ⟨k.keeps hF.box (by simp; exact box_ne hF.box hB.box (by decide)), hF.own.kept k (fun y hy => ?_), hF.fr⟩
  simp at hy
  subst hy
  exact ⟨ownsR_ne hF.own.own hB.box (by decide), fun q hq => ownsJ_ne (hF.own.args q hq) hB.box (by decide)⟩
theorem IsF_I.kept0 (hF : IsF_I w0 w pf v ms) (k : Kept [] w w') : IsF_I w0 w' pf v ms := ⟨k.keeps hF.box (by simp), hF.own.kept0 k, hF.fr⟩
set_option maxRecDepth 100000 in
set_option maxHeartbeats 1000000 in
theorem rpush12 (x : Lt) (a : Option Addr) (c : Nat) (hF : IsF_I w0 w p v qs) (h8 : qs.length ≤ 8) (hx : ReadsJ w (.slice a x.args.length c) x.args) (hs : w0.heap.size ≤ w.heap.size) :
    Calls Tryz.prog 52 #[.pointer (some ⟨p, 0, none⟩), Lv x a c] w fun e w' => e = .returned (.int .i64 (pushE qs.length x)) ∧ ∃ v' qs', IsF_I w0 w' p v' qs' ∧ qs'.map (·.x) = pushL (qs.map (·.x)) x ∧ Kept (foot p v) w w' := by
  have HF := Hid.mk hF
  have HX := Hid.mk hx
  obtain ⟨av, cv, rfl, hv1, hv2⟩ := hF.own.row.form
  have H1 : Hid (x.formed = false → pushE qs.length x = 1 ∧ pushL (qs.map (·.x)) x = qs.map (·.x)) := fun h => by
    unfold pushE pushL; rw [if_pos h, if_neg (by simp [h])]; exact ⟨rfl, rfl⟩
  have H2 : Hid (x.formed = true → qs.length = 8 → pushE qs.length x = 7 ∧ pushL (qs.map (·.x)) x = qs.map (·.x)) := fun h h' => by
    unfold pushE pushL; rw [if_neg (by simp [h]), if_pos h', if_neg (by simp [h'])]; exact ⟨rfl, rfl⟩
  have H3 : Hid (x.formed = true → qs.length ≠ 8 → pushE qs.length x = 0 ∧ pushL (qs.map (·.x)) x = qs.map (·.x) ++ [x]) := fun h h' => by
    unfold pushE pushL; rw [if_neg (by simp [h]), if_neg h', if_pos ⟨h, by simpa using h'⟩]; exact ⟨rfl, rfl⟩
  generalize pushE qs.length x = E at H1 H2 H3
  generalize pushL (qs.map (·.x)) x = PL at H1 H2 H3
  clear hF hx
  go_enter Tryz.func52, Tryz.ntmps52
  go_wp2_with fail
  obtain ⟨W0, e0, k0, hz0, hb0⟩ := box1 w (.cells #[Sv x.fr, .int .u64 (x.ser : Int), .int .i64 x.kind, .slice a x.args.length c] 90)
  rw [e0]
  clear e0
  refine (formed14 x a c).mono ?_
  rintro e w1 ⟨rfl, k1⟩
  have hb1 := k1.keeps hb0 (by simp)
  have k01 := k0.trans k1 (by simp)
  have hF1 := HF.out.kept0 k01
  have hc1 := cell_of_one hF1.box
  cases hfm : x.formed with
  | false =>
    obtain ⟨rfl, rfl⟩ := H1.out hfm
    go_wp2_with fail
    go_ret
    exact ⟨rfl, _, qs, hF1, rfl, k01.mono (by simp)⟩
  | true =>
    have hfl := formed_le hfm
    have HFM := Hid.mk hfm
    clear hfm
    by_cases hn8 : qs.length = 8
    · obtain ⟨rfl, rfl⟩ := H2.out HFM.out hn8
      have g8 : ((8 : Int) ≤ (qs.length : Int)) := by omega
      clear hn8
      go_wp2_with fail
      go_ret
      exact ⟨rfl, _, qs, hF1, rfl, k01.mono (by simp)⟩
    · obtain ⟨rfl, rfl⟩ := H3.out HFM.out hn8
      have g8 : ((8 : Int) ≤ (qs.length : Int)) = False := eq_false (by omega)
      go_wp2_with fail
      have kd := k01.drew
      have hFd := HF.out.kept0 kd
      have hbd : w1.drew.heap[w.heap.size]? = some (.cells #[Sv x.fr, .int .u64 (x.ser : Int), .int .i64 x.kind, .slice a x.args.length c] 90 (0, 0)) := hb1
      obtain ⟨c0, c1, c2, c3⟩ := cells4 hbd
      have hcd := cell_of_one hFd.box
      have HC := Hid.mk (copy25 x a c (HX.out.kept kd (by simp)) (by omega))
      have HFD := Hid.mk hFd
      have HKD := Hid.mk kd
      clear hFd hbd hb1 hb0 hc1 k0 k1 k01 hz0 hF1 kd
      go_region_law (first | (refine step_append_run 35 (.tmp 18) (.tmp 21) (by rfl) (by rfl) _ _ (by rfl) (by rfl) hrun ?_) | (go_simp; go_at_call 98; refine HC.out.mono ?_; rintro e w5 ⟨a5, c5, rfl, hO5, k5, hf5⟩; obtain ⟨a6, c6, w6, hrun, hO6, k6⟩ := (HFD.out.own.kept0 k5).app ⟨x, a5, c5⟩ hO5 (fun g hg => by have := hf5 g hg; have := HKD.out.size; omega) (by have := k5.size; have := HKD.out.size; omega) (by omega); have hF5 := HFD.out.kept0 k5; have h6 := k6.keeps hF5.box (by rw [Option.mem_toList]; exact ownsR_ne hF5.own.own hF5.box (by decide)); have q3 := cell_of_one h6; have qf := free_of_one h6; have q5 := cell_of_one hF5.box; have q6 := ((Kept.refl [] w5).alloc (.cells #[Sv x.fr, .int .u64 (x.ser : Int), .int .i64 x.kind, .slice a5 x.args.length c5] 90)).cell_eq q5; clear hF5))
      all_goals
        have hR : IsF_I w0 (w6.setCell ⟨p, 0, none⟩ (.slice a6 (qs.length + 1) c6)) p (.slice a6 (qs.length + 1) c6) (qs ++ [⟨x, a5, c5⟩]) ∧ (qs ++ [(⟨x, a5, c5⟩ : Lq)]).map (·.x) = qs.map (·.x) ++ [x] ∧ Kept (foot p (.slice av qs.length cv)) w (w6.setCell ⟨p, 0, none⟩ (.slice a6 (qs.length + 1) c6)) := by
          refine ⟨⟨one_setCell h6, hO6.kept ((Kept.refl [p] w6).setCell (p := ⟨p, 0, none⟩) (.inl (by simp)) _) (fun y hy => ?_), HF.out.fr⟩, by simp, ?_⟩
          · simp at hy
            subst hy
            exact ⟨ownsR_ne hO6.own h6 (by decide), fun q hq => ownsJ_ne (hO6.args q hq) h6 (by decide)⟩
          · refine ((((HKD.out.trans k5 (by simp)).mono (by simp)).trans k6 (fun y hy => .inl (mem_foot.2 (.inr (by rw [Option.mem_toList] at hy; exact hy))))).setCell (p := ⟨p, 0, none⟩) (.inl (mem_foot.2 (.inl rfl))) _)
        have HR := Hid.mk hR
        clear hR hO6 k6 h6 hO5 k5 hf5 q3 qf q5 q6 hrun
        go_wp2_with fail
        go_ret
        exact ⟨rfl, _, _, HR.out⟩
theorem cutQ {b o cv : Nat} {q : Lq} {t : List Lq} (h : RowQ w (.slice (some ⟨b, o, none⟩) (t.length + 1) cv) (q :: t)) : RowQ w (.slice (if cv = 1 then some ⟨b, o, none⟩ else some ⟨b, o + 4, none⟩) t.length (cv - 1)) t := by
  obtain ⟨-, hb1, hb2⟩ := h.bound
  have := ReadsR.cut (k := 4) (i := 1) (j := t.length + 1) (m := cv) (by rw [CQ_length]; rfl) h (by omega) (Nat.le_refl _) hb1 (Nat.le_refl _)
  have e : ((CQ (q :: t)).take (t.length + 1)).drop 1 = CQ t := by
    rw [List.take_of_length_le (by rw [CQ_length]; simp)]
    rfl
  rw [e] at this
  unfold cutA at this
  rw [Option.map_some, add_at] at this
  exact this
/-- What Box answers. -/
def RBoxAt (w : World) (l : List UInt8) (e : Ending) (w' : World) : Prop :=
  (decB l = none ∧ e = .returned (.tuple #[.pointer none, .int .i64 2]) ∧ Kept [] w w') ∨
  (∃ p v qs, decB l = some (qs.map (·.x)) ∧ e = .returned (.tuple #[.pointer (some ⟨p, 0, none⟩), .int .i64 0]) ∧ IsF_I w w' p v qs ∧ Kept [] w w')
theorem rbox_none {w w' : World} {l : List UInt8} (h : decB l = none) (k : Kept [] w w') : RBoxAt w l (.returned (.tuple #[.pointer none, .int .i64 2])) w' := .inl ⟨h, rfl, k⟩
theorem rbox_some {w w' : World} {l : List UInt8} {p : Nat} {v : Value} {qs : List Lq} (h : decB l = some (qs.map (·.x))) (hB : IsF_I w w' p v qs) (k : Kept [] w w') : RBoxAt w l (.returned (.tuple #[.pointer (some ⟨p, 0, none⟩), .int .i64 0])) w' := .inr ⟨p, v, qs, h, rfl, hB, k⟩
set_option maxRecDepth 100000 in
set_option maxHeartbeats 1000000 in
theorem rbox20 (v : Value) (l : List UInt8) (hr : Reads w v l) (hin : Inside w v) (hl : l.length ≤ 3000000) : Calls Tryz.prog 25 #[v] w fun e w' => RBoxAt w l e w' := by
  have H0 : Hid (∀ W, decB l = none → Kept [] w W → RBoxAt w l (.returned (.tuple #[.pointer none, .int .i64 2])) W) := fun W => rbox_none
  have H1 : Hid (∀ W p v qs, decB l = some (qs.map (·.x)) → IsF_I w W p v qs → Kept [] w W → RBoxAt w l (.returned (.tuple #[.pointer (some ⟨p, 0, none⟩), .int .i64 0])) W) := fun W p v qs => rbox_some
  generalize RBoxAt w l = R at H0 H1
  go_enter Tryz.func25, Tryz.ntmps25
  go_wp2_with fail
  refine (unpack23 v l hr hin hl).mono ?_
  rintro e w1 ⟨v1, qs, rfl, hq1, hO1, k1⟩
  cases hd : decP l with
  | none =>
    have hN : Hid (decB l = none) := by show _ = _; unfold decB; rw [hd]; rfl
    clear hd hq1
    simp only [Option.isSome_none, Bool.false_eq_true, if_false]
    go_wp2_with fail
    exact H0.out _ hN.out k1
  | some m =>
    rw [hd] at hq1
    have hqm : qs.map (·.x) = m := hq1
    have HD : Hid (decB l = if qs.length ≤ 8 then some (qs.map (·.x)) else none) := by
      show _ = _
      unfold decB
      rw [hd, hqm]
      have : qs.length = m.length := by rw [← hqm, List.length_map]
      rw [this]
      rfl
    obtain ⟨a1, c1, rfl, hc1, hc2⟩ := hO1.row.form
    clear hd hq1 hqm
    simp only [Option.isSome_some, if_true]
    by_cases h8 : qs.length ≤ 8
    · have h8I : ((8 : Int) < (qs.length : Int)) = False := eq_false (by omega)
      have hD := HD.out
      rw [if_pos h8] at hD
      have k2 := (Kept.refl [] w1).alloc (.cells #[.slice a1 qs.length c1] 70)
      have HH : Hid (R (.returned (.tuple #[.pointer (some ⟨w1.heap.size, 0, none⟩), .int .i64 0])) (w1.alloc (.cells #[.slice a1 qs.length c1] 70))) := H1.out _ _ _ qs hD ⟨heap_alloc_new w1 _, hO1.kept0 k2, k1.size⟩ (k1.trans k2 (by simp))
      clear HD hD hO1 k2
      go_wp2_with fail
      exact HH.out
    · have h8I : (8 : Int) < (qs.length : Int) := by omega
      have hD := HD.out
      rw [if_neg h8] at hD
      have HD' := Hid.mk hD
      clear HD hD hO1
      go_wp2_with fail
      exact H0.out _ HD'.out k1
end
end Go.Proofs.YtdadloaifebdiaaGreat
