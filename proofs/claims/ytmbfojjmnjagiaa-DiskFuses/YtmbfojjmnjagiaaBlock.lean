/-
  block: a block of one byte's; awake.
-/
import Derived.Test.YtmbfojjmnjagiaaRead
import Derived.Test.YtmbfojjmnjagiaaWrite
namespace Go.Proofs.Ytmbfojjmnjagiaa
open Go.RowKit
set_option linter.unusedVariables false

/-- The first j bytes are b. -/
def partB (b : UInt8) (j : Nat) : List UInt8 := List.replicate j b ++ zs (256 - j)
theorem partB_length (b : UInt8) (j : Nat) (h : j ≤ 256) : (partB b j).length = 256 := by unfold partB; rw [List.length_append, List.length_replicate, zs_length]; omega
theorem set_at {A B : List UInt8} {x y : UInt8} {n : Nat} (h : A.length = n) : (A ++ x :: B).set n y = A ++ y :: B := by subst h; simp
theorem partB_set (b : UInt8) (j : Nat) (h : j < 256) : (partB b j).set j b = partB b (j + 1) := by
  unfold partB
  rw [show 256 - j = (256 - (j + 1)) + 1 by omega, zs_succ, set_at (List.length_replicate ..), List.replicate_succ', List.append_assoc]
  rfl
def blockL (b : UInt8) : List UInt8 := List.replicate 256 b
theorem blockL_length (b : UInt8) : (blockL b).length = 256 := List.length_replicate ..
theorem partB_all (b : UInt8) : partB b 256 = blockL b := by
  unfold partB
  rw [Nat.sub_self, show zs 0 = [] from rfl, List.append_nil]
  rfl
/-- What block answers. -/
def blockV (b : UInt8) (odd : Bool) : List UInt8 := if odd = true then (blockL b).take 255 else blockL b
theorem blockV_yes (b : UInt8) : blockV b true = (blockL b).take 255 := by unfold blockV; rw [if_pos rfl]
theorem blockV_no (b : UInt8) : blockV b false = blockL b := by unfold blockV; rw [if_neg (by simp)]

set_option maxRecDepth 100000 in
set_option maxHeartbeats 400000 in
theorem block_walk (kd i : Int) (b : UInt8) (odd : Bool) (w : World) : Calls Try.prog 18 #[.agg #[.int .i64 kd, .int .i64 i, .int .u8 (b.toNat : Int), .bool odd]] w fun e w' => e = .returned (.slice (some ⟨w.heap.size + 1, 0, none⟩) (if odd = true then 255 else 256) 256) ∧ Row w' (w.heap.size + 1) (blockL b) ∧ Kept [] w w' := by
  have hmk := make_bytes
  have hR0 : Row ((w.alloc (.cells #[.int .i64 kd, .int .i64 i, .int .u8 (b.toNat : Int), .bool odd] 30)).alloc (.cells (C8 (zs 256)).toArray 5)) (w.heap.size + 1) (partB b 0) := heap_alloc2_new w _ _
  have hB0 := heap_alloc2_old w (.cells #[.int .i64 kd, .int .i64 i, .int .u8 (b.toNat : Int), .bool odd] 30) (.cells (C8 (zs 256)).toArray 5)
  have hK0 : Kept [] w ((w.alloc (.cells #[.int .i64 kd, .int .i64 i, .int .u8 (b.toNat : Int), .bool odd] 30)).alloc (.cells (C8 (zs 256)).toArray 5)) := ((Kept.refl [] w).alloc _).alloc _
  generalize (Obj.cells (C8 (zs 256)).toArray 5) = O at hmk hR0 hB0 hK0
  go_enter Try.func18, Try.ntmps18
  go_wp2_with fail
  go_loopw [4, 8] (fun _ i' wr => ∃ j : Nat, j ≤ 256 ∧ i' = .int .i64 (j : Int) ∧ Row wr (w.heap.size + 1) (partB b j) ∧ wr.heap[w.heap.size]? = some (.cells #[.int .i64 kd, .int .i64 i, .int .u8 (b.toNat : Int), .bool odd] 30 (0, 0)) ∧ Kept [] w wr) (fun _ i' _ => 256 - (intOf i').toNat)
  case atStart => exact ⟨0, by omega, rfl, hR0, hB0, hK0⟩
  case round =>
    clear hR0 hK0 hmk hB0
    obtain ⟨j, hj, rfl, hR, hB, hK⟩ := hrel
    obtain ⟨c0, c1, c2, c3⟩ := cells4 hB
    by_cases hlt : j < 256
    · have hlt2 : (j : Int) < 256 := by omega
      obtain ⟨u, hu⟩ : ∃ u, (partB b j)[j]? = some u := ⟨(partB b j)[j]'(by rw [partB_length b j hj]; exact hlt), by simp⟩
      have hc := hR.cell j u hu
      have hz := hR.free j
      have hR2 := hR.set j b
      rw [partB_set b j hlt] at hR2
      have hK2 := hK.setCell (p := ⟨w.heap.size + 1, j, none⟩) (.inr (by show w.heap.size ≤ w.heap.size + 1; omega)) (B8 b)
      have hB2 : (wr.setCell ⟨w.heap.size + 1, j, none⟩ (B8 b)).heap[w.heap.size]? = _ := (heap_setCell_other _ _ _ _ (by show w.heap.size ≠ w.heap.size + 1; omega)).trans hB
      clear hR hK hu hB c0 c1 c3
      go_wp2_with fail
      go_roundw
      case rel => exact ⟨j + 1, by omega, by go_num, hR2, hB2, hK2⟩
      case measure => simp [intOf]; omega
    · have hlt2 : ¬ (j : Int) < 256 := by omega
      have hj8 : j = 256 := by omega
      subst hj8
      rw [partB_all b] at hR
      cases odd
      · go_wp2
        go_ret
        exact ⟨rfl, hR, hK⟩
      · go_wp2
        go_ret
        exact ⟨rfl, hR, hK⟩

/-- block, as the laws use it. -/
theorem block_any (kd i : Int) (b : UInt8) (odd : Bool) (w : World) : Calls Try.prog 18 #[.agg #[.int .i64 kd, .int .i64 i, .int .u8 (b.toNat : Int), .bool odd]] w fun e w' => ∃ v, e = .returned v ∧ Reads w' v (blockV b odd) ∧ Kept [] w w' ∧ Fresh w v := by
  refine (block_walk kd i b odd w).mono fun e w' ⟨he, hR, hK⟩ => ⟨_, he, ?_, hK, ?_⟩
  · cases odd
    · rw [blockV_no]
      exact hR.reads_all (blockL_length b)
    · rw [blockV_yes]
      refine hR.reads 0 255 256 _ (by rw [List.length_take, blockL_length]; omega) (by omega) (by unfold maxLen; omega) (fun j u hu => ?_)
      rw [List.getElem?_take] at hu
      rw [Nat.zero_add]
      split at hu
      · exact hu
      · cases hu
  · intro g hg
    cases odd <;> simp [Value.ownBlock] at hg <;> omega

theorem str34 (v : Value) (l : List UInt8) (w : World) (h : Reads w v l) : (convert 34 9 v).run Try.prog w = .ok (.string ⟨l.toArray⟩) w := string_of (P := Try.prog) 34 5 Try.underlying34 9 Try.underlying5 Try.underlying9 v l w h

theorem blk_one (i : Nat) (l : List UInt8) : blk [(i, l)] i = l := blk_at [(i, l)] i 0 (i, l) rfl rfl (fun j x hj hx => by have := (List.getElem?_eq_some_iff.1 hx).1; simp at this; omega)

set_option maxRecDepth 100000 in
set_option maxHeartbeats 400000 in
theorem awake_any (w : World) : Calls Try.prog 8 #[] w fun e w' => e = .returned (.bool true) ∧ Kept [] w w' := by
  have hmk := make_bytes
  go_enter Try.func8, Try.ntmps8
  go_wp2_with fail
  refine (new_any 2 w).mono ?_
  rintro e w1 ⟨p, rfl, F, hD1, k1, hF1⟩
  have hR0 := new_zs w1
  have hK0 : Kept [] w1 (w1.alloc (.cells (C8 (zs 256)).toArray 5)) := (Kept.refl [] w1).alloc _
  obtain ⟨u, hu⟩ : ∃ u, (zs 256)[5]? = some u := ⟨0, by simp [zs]⟩
  have hc := hR0.cell 5 u hu
  have hz := hR0.free 5
  have hR1 := hR0.set 5 7
  have hK1 : Kept [] w1 ((w1.alloc (.cells (C8 (zs 256)).toArray 5)).setCell ⟨w1.heap.size, 5, none⟩ (B8 7)) := hK0.setCell (.inr (Nat.le_refl _)) _
  have hL : Hid (((zs 256).set 5 7).length = 256) := by show _ = _; rw [List.length_set, zs_length]
  generalize (zs 256).set 5 7 = L at hR1 hL
  have hFL : ∀ x ∈ F, x ≠ w1.heap.size := fun x hx => by have := hD1.lt x hx; omega
  have e7 : (B8 7) = .int .u8 7 := rfl
  rw [e7] at hR1 hK1
  generalize (Obj.cells (C8 (zs 256)).toArray 5) = O at hmk hR0 hK0 hc hz hR1 hK1
  clear hR0 hK0 hu e7
  go_wp2_with fail
  have hD2 := hD1.kept hK1 (by simp)
  have hK2 : Kept [] w ((w1.alloc O).setCell ⟨w1.heap.size, 5, none⟩ (.int .u8 7)) := k1.trans hK1 (by simp)
  generalize (w1.alloc O).setCell ⟨w1.heap.size, 5, none⟩ (.int .u8 7) = w2 at hR1 hK1 hD2 hK2
  have hrd := hR1.reads_all hL.out
  refine (write_free hD2 1 _ 256 L rfl (by decide) (by decide) hL.out hrd (by decide)).mono ?_
  rintro e w3 ⟨rfl, F3, hD3, k3, n3⟩
  have hK3 : Kept [] w w3 := hK2.trans k3 (fun x hx => .inr (hF1 x hx))
  have hrd3 := hrd.kept k3 (fun g hg hm => by simp [Value.ownBlock] at hg; exact hFL g hm hg.symm)
  clear hD1 k1 hD2 hK2 hR1 hK1 hrd k3 n3 hF1 hmk hc hz
  go_wp2_with fail
  refine (read_ok hD3 1 rfl (show 1 < newN 2 by decide)).mono ?_
  rintro e w4 ⟨rfl, hR4, k4⟩
  have hK4 : Kept [] w w4 := hK3.trans k4 (by simp)
  have hbl : blk ({ newS 2 with ws := (newS 2).ws ++ [(1, L)] }).ws 1 = L := blk_one 1 L
  rw [hbl] at hR4
  have s1 := str34 _ _ _ (hR4.reads_all hL.out)
  have s2 := str34 _ _ _ (hrd3.kept k4 (by simp))
  generalize (⟨L.toArray⟩ : ByteArray) = S at s1 s2
  clear hD3 hbl hR4 hrd3 hK3 k4
  go_wp2
  go_ret
  exact ⟨rfl, hK4⟩

end Go.Proofs.Ytmbfojjmnjagiaa
