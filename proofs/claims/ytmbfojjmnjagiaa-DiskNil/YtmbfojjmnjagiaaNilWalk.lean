/-
  DiskNil: the walk.
-/
import Derived.Test.YtmbfojjmnjagiaaBlock
namespace Go.Proofs.Ytmbfojjmnjagiaa
open Go.RowKit
set_option linter.unusedVariables false

set_option maxRecDepth 100000 in
set_option maxHeartbeats 8000000 in
theorem nil_walk (i : Int) (b : UInt8) (w : World) : Calls Try.prog 6 #[.int .i64 i, .int .u8 (b.toNat : Int)] w fun e w' => e = .returned (.bool true) ∧ Kept [] w w' := by
  go_enter Try.func6, Try.ntmps6
  go_wp2_with fail
  refine (awake_any w).mono ?_
  rintro e w1 ⟨rfl, k1⟩
  go_wp2_with (first | (go_at_call 16; refine (read_nil _ _).mono ?_; rintro e w' ⟨rfl, rfl⟩) | (go_at_call 15; refine (setfuse_nil _ _).mono ?_; rintro e w' ⟨rfl, rfl⟩) | (go_at_call 21; refine (restart_nil _).mono ?_; rintro e w' ⟨rfl, rfl⟩))
  refine (new_any 1 _).mono ?_
  rintro e w2 ⟨p, rfl, F, hD2, k2, hF2⟩
  have K2 : Kept [] w w2 := k1.trans k2 (by simp)
  have N2 : ∀ x ∈ F, w.heap.size ≤ x := fun x hx => by have := hF2 x hx; have := k1.size; omega
  clear k1 k2 hF2
  go_wp2_with fail
  refine (block_walk 0 0 b false _).mono ?_
  rintro e w3 ⟨rfl, hR3, k3⟩
  have K3 : Kept [] w w3 := K2.trans k3 (by simp)
  have hD3 := hD2.kept k3 (by simp)
  have hFx : ∀ x ∈ F, x ≠ w2.heap.size + 1 := fun x hx => by have := hD2.lt x hx; omega
  have hx2 := K2.size
  generalize hxx : w2.heap.size + 1 = x at hR3 hFx
  have HX : Hid (w.heap.size ≤ x) := by show _ ≤ _; omega
  clear hxx hx2 hD2 K2 k3
  go_wp2_with fail
  refine (write_free hD3 0 _ 256 (blockL b) rfl (by decide) (by decide) (blockL_length b) (hR3.reads_all (blockL_length b)) (by decide)).mono ?_
  rintro e w4 ⟨rfl, F4, hD4, k4, n4⟩
  have K4 : Kept [] w w4 := K3.trans k4 (fun x hx => .inr (N2 x hx))
  have hR4 := hR3.kept k4 (fun hm => hFx _ hm rfl)
  have hF4x : ∀ y ∈ F4, y ≠ x := fun y hy e => by
    rcases n4 y hy with h | h
    · exact hFx y h e
    · have := hR3.lt; omega
  clear hD3 hR3 K3 N2 hFx k4 n4
  have hget : ∀ j, j < 256 → (blockL b)[j]? = some b := fun j hj => by rw [blockL, List.getElem?_replicate, if_pos hj]
  have hc3 : w4.cell? ⟨x, 3, none⟩ = some (.int .u8 (b.toNat : Int)) := hR4.cell 3 b (hget 3 (by omega))
  have hz3 := hR4.free 3
  have hx4 := hR4.lt
  have gD : ∀ v, IsD (w4.setCell ⟨x, 3, none⟩ v) F4 p { newS 1 with ws := (newS 1).ws ++ [(0, blockL b)] } := fun v => hD4.kept ((Kept.refl [x] w4).setCell (.inl (by simp)) v) (fun y hy => by simpa using hF4x y hy)
  have gK : ∀ v, Kept [] w (w4.setCell ⟨x, 3, none⟩ v) := fun v => K4.setCell (.inr HX.out) v
  clear hR4 hD4 K4 hF4x hx4 HX
  go_wp2_with fail
  refine (read_ok (gD _) 0 rfl (show 0 < newN 1 by decide)).mono ?_
  rintro e w6 ⟨rfl, hR6, k6⟩
  have hbl : blk ({ newS 1 with ws := (newS 1).ws ++ [(0, blockL b)] }).ws 0 = blockL b := blk_one 0 (blockL b)
  rw [hbl] at hR6
  have K6 : Kept [] w w6 := (gK _).trans k6 (by simp)
  have hD6 := (gD _).kept k6 (by simp)
  have hs6 := (gK (.int .u8 0)).size
  have hF6 : ∀ y ∈ F4, y < w4.heap.size := fun y hy => by have := (gD (.int .u8 0)).lt y hy; simpa using this
  clear gD gK k6 hc3 hz3
  simp at hR6
  simp at hs6
  have HX : Hid (w.heap.size ≤ w4.heap.size) := hs6
  clear hs6
  have hc4 : w6.cell? ⟨w4.heap.size, 4, none⟩ = some (.int .u8 (b.toNat : Int)) := hR6.cell 4 b (hget 4 (by omega))
  have hz4 := hR6.free 4
  have gD : ∀ v, IsD (w6.setCell ⟨w4.heap.size, 4, none⟩ v) F4 p { newS 1 with ws := (newS 1).ws ++ [(0, blockL b)] } := fun v => hD6.kept ((Kept.refl [w4.heap.size] w6).setCell (.inl (by simp)) v) (fun z hz => by have := hF6 z hz; simp; omega)
  have gK : ∀ v, Kept [] w (w6.setCell ⟨w4.heap.size, 4, none⟩ v) := fun v => K6.setCell (.inr HX.out) v
  clear hR6 hD6 K6 hF6 HX
  go_wp2_with fail
  refine (read_ok (gD _) 0 rfl (show 0 < newN 1 by decide)).mono ?_
  rintro e w7 ⟨rfl, hR7, k7⟩
  rw [hbl] at hR7
  have K7 : Kept [] w w7 := (gK _).trans k7 (by simp)
  clear gD gK k7 hc4 hz4 hget
  simp at hR7
  have hr7 : Reads w7.drew (.slice (some ⟨w6.heap.size, 0, none⟩) 256 256) (blockL b) := Row.reads_all hR7 (blockL_length b)
  have hz1 := str34 _ _ _ hr7
  have hblk : Calls Try.prog 18 #[.agg #[.int .i64 0, .int .i64 0, .int .u8 (b.toNat : Int), .bool false]] w7.drew fun e w' => ∃ v, e = .returned v ∧ (convert 34 9 v).run Try.prog w' = .ok (.string ⟨(blockL b).toArray⟩) w' ∧ (convert 34 9 (.slice (some ⟨w6.heap.size, 0, none⟩) 256 256)).run Try.prog w' = .ok (.string ⟨(blockL b).toArray⟩) w' ∧ Kept [] w w' :=
    (block_any 0 0 b false _).mono fun e w' ⟨v, he, hr, hk, _⟩ => ⟨v, he, str34 _ _ _ (blockV_no b ▸ hr), str34 _ _ _ (hr7.kept hk (by simp)), K7.trans ((Kept.refl [] w7).drew.trans hk (by simp)) (by simp)⟩
  generalize (⟨(blockL b).toArray⟩ : ByteArray) = S at hz1 hblk
  clear hR7 hr7 hbl
  go_wp2_with fail
  go_region_held (fun w' => (convert 34 9 (.slice (some ⟨w6.heap.size, 0, none⟩) 256 256)).run Try.prog w' = .ok (.string S) w') (assumption) (first | (go_at_call 22; refine (blocks_nil _).mono ?_; rintro e w' ⟨rfl, rfl⟩) | (go_at_call 17; refine (write_nil _ _ _).mono ?_; rintro e w' ⟨rfl, rfl⟩) | (go_at_call 20; refine (writes_nil _).mono ?_; rintro e w' ⟨rfl, rfl⟩) | (go_at_call 23; refine (written_nil _ _).mono ?_; rintro e w' ⟨rfl, rfl⟩) | (go_at_call 19; refine (down_nil _).mono ?_; rintro e w' ⟨rfl, rfl⟩) | (go_at_call 13; refine (cut_nil _ _).mono ?_; rintro e w' ⟨rfl, rfl⟩) | (go_at_call 18; refine hblk.mono ?_; rintro e w8 ⟨v8, rfl, hz2, hz3, K8⟩))
  all_goals
    go_wp2
    go_ret
    exact ⟨rfl, K8⟩

theorem nil_any (i : Int) (n : Nat) (hn : n < 256) (w : World) : Calls Try.prog 6 #[.int .i64 i, .int .u8 (n : Int)] w fun e w' => e = .returned (.bool true) ∧ Kept [] w w' := by
  have h := nil_walk i (UInt8.ofNat n) w
  have e : (((UInt8.ofNat n).toNat : Nat) : Int) = (n : Int) := by simp; omega
  rw [e] at h
  exact h

end Go.Proofs.Ytmbfojjmnjagiaa
