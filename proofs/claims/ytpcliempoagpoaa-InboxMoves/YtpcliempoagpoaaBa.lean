/-
  Encode of an inbox, and All.
-/
import Derived.Test.YtpcliempoagpoaaBo
namespace Go.Proofs.Ytpcliempoagpoaa
open Go.RowKit
set_option linter.unusedVariables false
/-- A row of letters that is stored into. -/
theorem flat_set4 (ds zs : List Lq) (z q : Lq) : ((((CQ (ds ++ z :: zs)).flatten.set (ds.length * 4) (Sv q.x.fr)).set (ds.length * 4 + 1) (.int .u64 (q.x.ser : Int))).set (ds.length * 4 + 2) (.int .i64 q.x.kind)).set (ds.length * 4 + 3) q.sl = (CQ (ds ++ q :: zs)).flatten := by
  have h : (CQ ds).flatten.length = ds.length * 4 := by rw [(CQ_wide ds).flat_length, CQ_length]
  rw [CQ_append, CQ_append, List.flatten_append, List.flatten_append, ← h]
  rw [List.set_append_right _ _ (Nat.le_refl _), List.set_append_right _ _ (by omega), List.set_append_right _ _ (by omega), List.set_append_right _ _ (by omega)]
  rw [Nat.sub_self, Nat.add_sub_cancel_left, Nat.add_sub_cancel_left, Nat.add_sub_cancel_left]
  rfl
theorem make_lets0 (W : World) : (Instr.makeSlice 28 (.int .i64 0) (.int .i64 0)).run Try.prog W = .ok (.slice (some ⟨W.heap.size, 0, none⟩) 0 0) (W.alloc (.cells (CQ (List.replicate 0 zq)).flatten.toArray 34)) := by kernel_rfl
theorem make_lets1 (W : World) : (Instr.makeSlice 28 (.int .i64 1) (.int .i64 1)).run Try.prog W = .ok (.slice (some ⟨W.heap.size, 0, none⟩) 1 1) (W.alloc (.cells (CQ (List.replicate 1 zq)).flatten.toArray 34)) := by kernel_rfl
theorem make_lets2 (W : World) : (Instr.makeSlice 28 (.int .i64 2) (.int .i64 2)).run Try.prog W = .ok (.slice (some ⟨W.heap.size, 0, none⟩) 2 2) (W.alloc (.cells (CQ (List.replicate 2 zq)).flatten.toArray 34)) := by kernel_rfl
theorem make_lets3 (W : World) : (Instr.makeSlice 28 (.int .i64 3) (.int .i64 3)).run Try.prog W = .ok (.slice (some ⟨W.heap.size, 0, none⟩) 3 3) (W.alloc (.cells (CQ (List.replicate 3 zq)).flatten.toArray 34)) := by kernel_rfl
theorem make_lets4 (W : World) : (Instr.makeSlice 28 (.int .i64 4) (.int .i64 4)).run Try.prog W = .ok (.slice (some ⟨W.heap.size, 0, none⟩) 4 4) (W.alloc (.cells (CQ (List.replicate 4 zq)).flatten.toArray 34)) := by kernel_rfl
theorem make_lets5 (W : World) : (Instr.makeSlice 28 (.int .i64 5) (.int .i64 5)).run Try.prog W = .ok (.slice (some ⟨W.heap.size, 0, none⟩) 5 5) (W.alloc (.cells (CQ (List.replicate 5 zq)).flatten.toArray 34)) := by kernel_rfl
theorem make_lets6 (W : World) : (Instr.makeSlice 28 (.int .i64 6) (.int .i64 6)).run Try.prog W = .ok (.slice (some ⟨W.heap.size, 0, none⟩) 6 6) (W.alloc (.cells (CQ (List.replicate 6 zq)).flatten.toArray 34)) := by kernel_rfl
theorem make_lets7 (W : World) : (Instr.makeSlice 28 (.int .i64 7) (.int .i64 7)).run Try.prog W = .ok (.slice (some ⟨W.heap.size, 0, none⟩) 7 7) (W.alloc (.cells (CQ (List.replicate 7 zq)).flatten.toArray 34)) := by kernel_rfl
theorem make_lets8 (W : World) : (Instr.makeSlice 28 (.int .i64 8) (.int .i64 8)).run Try.prog W = .ok (.slice (some ⟨W.heap.size, 0, none⟩) 8 8) (W.alloc (.cells (CQ (List.replicate 8 zq)).flatten.toArray 34)) := by kernel_rfl
theorem make_lets (n : Nat) (h : n ≤ 8) (W : World) : (Instr.makeSlice 28 (.int .i64 (n : Int)) (.int .i64 (n : Int))).run Try.prog W = .ok (.slice (some ⟨W.heap.size, 0, none⟩) n n) (W.alloc (.cells (CQ (List.replicate n zq)).flatten.toArray 34)) := by
  have h' : n = 0 ∨ n = 1 ∨ n = 2 ∨ n = 3 ∨ n = 4 ∨ n = 5 ∨ n = 6 ∨ n = 7 ∨ n = 8 := by omega
  rcases h' with rfl | rfl | rfl | rfl | rfl | rfl | rfl | rfl | rfl
  · exact make_lets0 W
  · exact make_lets1 W
  · exact make_lets2 W
  · exact make_lets3 W
  · exact make_lets4 W
  · exact make_lets5 W
  · exact make_lets6 W
  · exact make_lets7 W
  · exact make_lets8 W
theorem ownsR_block {w : World} {g n : Nat} {e : TypeId} {k : Nat} {rs : List (List Value)} (h : w.heap[g]? = some (.cells rs.flatten.toArray e (0, 0))) (hw : Wide k rs) (hn : rs.length = n) (hl : n ≤ maxLen) : OwnsR e k w (.slice (some ⟨g, 0, none⟩) n n) rs := by
  subst hn
  refine ⟨hw.flat_length, .inr ⟨g, _, _, rfl, Nat.zero_le _, h, Nat.le_refl _, hl, ?_, ?_⟩⟩
  · rw [List.size_toArray, hw.flat_length]
  · exact List.take_of_length_le (by rw [List.toList_toArray, hw.flat_length]; exact Nat.le_refl _)
section
variable {w : World} {p : Nat} {qs : List Lq}
set_option maxRecDepth 100000 in
set_option maxHeartbeats 1000000 in
theorem encode18 (hB : IsB w p qs) : Calls Try.prog 18 #[.pointer (some ⟨p, 0, none⟩)] w fun e w' => ∃ v, e = .returned v ∧ Owns 5 w' v (packB qs) ∧ Kept [] w w' ∧ Fresh w v := by
  have hB' := hB.kept0 (Kept.refl [] w).drew
  have hP := Hid.mk (pack20 hB'.row hB'.vals (fun q hq => (hB.good q hq).1) (by have := hB.len; omega))
  have S0 := hB'.count
  have hc := hB.count
  have hl := hB.len
  clear hB hB'
  have hi0 : (0 : Int) ≤ (qs.length : Int) := by omega
  have hi1 : (qs.length : Int) ≤ 8 := by omega
  go_enter Try.func18, Try.ntmps18
  go_wp2_with fail
  go_region_held3 (fun W => W.cell? ⟨p, 32, none⟩ = some (.int .i64 (qs.length : Int))) (first | exact S0 | exact S1) (first | (go_at_call 32; refine hP.out.mono ?_; rintro e w2 ⟨v2, rfl, hO2, k2, hf2⟩; have S1 := k2.cell_eq S0))
  clear S0 S1
  go_wp2_with fail
  go_ret
  exact ⟨v2, rfl, hO2, (Kept.refl [] w).drew.trans k2 (by simp), hf2⟩
theorem encode18_nil : Calls Try.prog 18 #[.pointer none] w fun e w' => e = .returned (.slice none 0 0) ∧ w = w' := by
  go_enter Try.func18, Try.ntmps18
  go_wp2_with fail
  go_ret
  exact ⟨rfl, rfl⟩
theorem all24_nil : Calls Try.prog 24 #[.pointer none] w fun e w' => e = .returned (.slice none 0 0) ∧ w = w' := by
  go_enter Try.func24, Try.ntmps24
  go_wp2_with fail
  go_ret
  exact ⟨rfl, rfl⟩
set_option maxRecDepth 100000 in
set_option maxHeartbeats 1000000 in
theorem all24 (hB : IsB w p qs) : Calls Try.prog 24 #[.pointer (some ⟨p, 0, none⟩)] w fun e w' => ∃ v, e = .returned v ∧ ∃ qs', qs'.map (·.x) = qs.map (·.x) ∧ OwnL w w' v qs' ∧ Kept [] w w' := by
  have HB := Hid.mk hB
  have hc := hB.count
  have hl := hB.len
  have hpl := hB.lt
  clear hB
  have hi0 : (0 : Int) ≤ (qs.length : Int) := by omega
  have hi1 : (qs.length : Int) ≤ 8 := by omega
  obtain ⟨L, hL⟩ : ∃ L, L = (CQ (List.replicate qs.length zq)).flatten := ⟨_, rfl⟩
  have hmk := make_lets qs.length hl w
  rw [← hL] at hmk
  have HL := Hid.mk hL
  clear hL
  generalize hn : qs.length = n at *
  have HN := Hid.mk hn
  clear hn
  go_enter Try.func24, Try.ntmps24
  go_wp2_with fail
  have hg0 : (w.alloc (.cells L.toArray 34)).heap[w.heap.size]? = some (.cells L.toArray 34 (0, 0)) := heap_alloc_new w _
  have k0 := (Kept.refl [] w).alloc (.cells L.toArray 34)
  have hz0 : w.heap.size < (w.alloc (.cells L.toArray 34)).heap.size := by simp
  generalize w.alloc (.cells L.toArray 34) = W0 at hg0 k0 hz0 ⊢
  go_loopw [14] (fun i wr => ∃ (j : Nat) (ds : List Lq), i = .int .i64 (j : Int) ∧ j ≤ n ∧ Hid (ds.length = j ∧ ds.map (·.x) = (qs.take j).map (·.x) ∧ (∀ q ∈ ds, OwnsJ wr q.sl q.x.args ∧ Fresh w q.sl) ∧ wr.heap[w.heap.size]? = some (.cells (CQ (ds ++ List.replicate (n - j) zq)).flatten.toArray 34 (0, 0)) ∧ Kept [] w wr)) (fun i _ => n - (intOf i).toNat)
  case atStart =>
    refine ⟨0, [], rfl, by omega, Hid.mk ⟨rfl, rfl, by simp, ?_, k0⟩⟩
    rw [HL.out] at hg0
    exact hg0
  case round =>
    obtain ⟨j, ds, rfl, hj, hH⟩ := hrel
    by_cases hlt : j < n
    · have hjI : (j : Int) < (n : Int) := by omega
      have hj0 : (0 : Int) ≤ (j : Int) := by omega
      have hj8 : (j : Int) < 8 := by omega
      obtain ⟨hdl, hdm, hda, hdb, kk⟩ := hH.out
      obtain ⟨q, hq⟩ : ∃ q, qs[j]? = some q := ⟨_, List.getElem?_eq_getElem (by have := HN.out; omega)⟩
      have hBr := HB.out.kept0 kk
      obtain ⟨d0, d1, d2, d3⟩ := hBr.at hq
      have hqm := List.mem_of_getElem? hq
      have hfm := formed_le (hBr.good q hqm).2
      have HC := Hid.mk (copy17 q.x q.ad q.cap (hBr.args q hqm).reads (by omega) (by omega))
      have HQ := Hid.mk hq
      clear hdl hdm hda hdb kk hq hBr hqm
      go_wp2_with fail
      refine HC.out.mono ?_
      rintro e w2 ⟨a2, c2, rfl, hO2, k2, hf2⟩
      obtain ⟨hdl, hdm, hda, hdb, kk⟩ := hH.out
      have hb2 := k2.keeps hdb (by simp)
      have hrep : List.replicate (n - j) zq = zq :: List.replicate (n - (j + 1)) zq := by rw [show n - j = n - (j + 1) + 1 by omega, List.replicate_succ]
      rw [hrep] at hb2
      obtain ⟨W3, e3, k3, h3, hz3⟩ := putL (o := j * 4) hb2 (Sv q.x.fr) (.int .u64 (q.x.ser : Int)) (.int .i64 q.x.kind) (.slice a2 q.x.args.length c2)
      have hfs := flat_set4 ds (List.replicate (n - (j + 1)) zq) zq ⟨q.x, a2, c2⟩
      rw [hdl] at hfs
      rw [hfs] at h3
      have hcell : ∀ i, i < 4 → ∃ v, w2.cell? ⟨w.heap.size, j * 4 + i, none⟩ = some v := fun i hi => by
        have hlen : (CQ (ds ++ zq :: List.replicate (n - (j + 1)) zq)).flatten.length = n * 4 := by
          rw [(CQ_wide _).flat_length, CQ_length]; simp; omega
        refine ⟨(CQ (ds ++ zq :: List.replicate (n - (j + 1)) zq)).flatten[j * 4 + i]'(by rw [hlen]; omega), ?_⟩
        unfold World.cell?
        rw [hb2]
        have : j * 4 + i < n * 4 := by omega
        simp [hlen, this]
      obtain ⟨x0, hx0⟩ := hcell 0 (by omega)
      obtain ⟨x1, hx1⟩ := hcell 1 (by omega)
      obtain ⟨x2, hx2⟩ := hcell 2 (by omega)
      obtain ⟨x3, hx3⟩ := hcell 3 (by omega)
      rw [Nat.add_zero] at hx0
      have hfz : ∀ i, w2.frozen? ⟨w.heap.size, i, none⟩ = false := fun i => by simp [World.frozen?, hb2]
      have f0 := hfz (j * 4)
      have f1 := hfz (j * 4 + 1)
      have f2 := hfz (j * 4 + 2)
      have f3 := hfz (j * 4 + 3)
      have k03 : Kept [] w W3 := (kk.trans k2 (by simp)).trans k3 (by simp)
      have HR : Hid ((ds ++ [(⟨q.x, a2, c2⟩ : Lq)]).length = j + 1 ∧ (ds ++ [(⟨q.x, a2, c2⟩ : Lq)]).map (·.x) = (qs.take (j + 1)).map (·.x) ∧ (∀ y ∈ ds ++ [(⟨q.x, a2, c2⟩ : Lq)], OwnsJ W3 y.sl y.x.args ∧ Fresh w y.sl) ∧ W3.heap[w.heap.size]? = some (.cells (CQ ((ds ++ [⟨q.x, a2, c2⟩]) ++ List.replicate (n - (j + 1)) zq)).flatten.toArray 34 (0, 0)) ∧ Kept [] w W3) := by
        refine ⟨by simp [hdl], ?_, fun y hy => ?_, ?_, k03⟩
        · rw [List.take_add_one, HQ.out, List.map_append, List.map_append, hdm]
          rfl
        · have hy' : OwnsJ w2 y.sl y.x.args ∧ Fresh w y.sl := by
            rcases List.mem_append.1 hy with h | h
            · exact ⟨(hda y h).1.kept k2 (by simp), (hda y h).2⟩
            · simp at h; subst h; exact ⟨hO2, fun g hg => by have := hf2 g hg; have := kk.size; omega⟩
          exact ⟨hy'.1.kept k3 (fun g hg hm => by simp at hm; subst hm; exact ownsJ_ne hy'.1 hb2 (by decide) hg), hy'.2⟩
        · rw [List.append_assoc]; exact h3
      clear d0 d1 d2 d3 hcell hfz h3 hfs hrep hdl hdm hda hdb kk hb2 k03
      go_wp2_with fail
      go_roundw
      case rel => exact ⟨j + 1, _, by go_num, by omega, HR⟩
      case measure => simp [intOf]; omega
    · obtain rfl : j = n := by omega
      obtain ⟨hdl, hdm, hda, hdb, kk⟩ := hH.out
      go_wp2_with fail
      go_ret
      rw [Nat.sub_self, List.replicate_zero, List.append_nil] at hdb
      rw [List.take_of_length_le (by have := HN.out; omega)] at hdm
      exact ⟨_, rfl, ds, hdm, ⟨ownsR_block hdb (CQ_wide ds) (by rw [CQ_length, hdl]) (by unfold maxLen; omega), fun q hq => (hda q hq).1, fun g hg => by simp [Value.ownBlock] at hg; omega, fun q hq => (hda q hq).2⟩, kk⟩
end
end Go.Proofs.Ytpcliempoagpoaa
