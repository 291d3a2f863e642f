/-
  PagesLong answers true.
-/
import Derived.Test.YtilelklcfgemoaaAwk
namespace Go.Proofs.Ytilelklcfgemoaa
open Go.RowKit
set_option linter.unusedVariables false

theorem make_long (n : Nat) (hn : n ≤ 255) (W : World) : (Instr.makeSlice 31 (.int .i64 (19872 + (n : Int))) (.int .i64 (19872 + (n : Int)))).run Try.prog W = .ok (.slice (some ⟨W.heap.size, 0, none⟩) (19872 + n) (19872 + n)) (W.alloc (.cells (C8 (zs (19872 + n))).toArray 5)) := by
  obtain ⟨i0, hi, hz0, hz1, hz2⟩ := info_parts inf5
  have h := run_make (P := Try.prog) W 31 5 i0 _ Try.underlying31 hi hz0 .i64 .i64 (19872 + (n : Int)) (19872 + (n : Int)) (by omega) (by omega) (by rw [hz2]; omega) (by omega)
  have e9 : (19872 + (n : Int)).toNat = 19872 + n := by omega
  rw [h, e9]
  have e : madeCells (Value.int .u8 0).cells ((19872 + n) * i0.size) = (C8 (zs (19872 + n))).toArray := by
    rw [hz1]
    apply Array.toList_inj.1
    rw [show (Value.int .u8 0).cells = #[.int .u8 0] from rfl, toList_madeCells_one]
    have e0 : B8 0 = .int .u8 0 := by simp [B8]
    show _ = List.map B8 (List.replicate (19872 + n) 0)
    rw [List.map_replicate, e0, Nat.mul_one]
  rw [e]
theorem reads_zs (w : World) (m : Nat) (hm : m ≤ 65536) : Reads (w.alloc (.cells (C8 (zs m)).toArray 5)) (.slice (some ⟨w.heap.size, 0, none⟩) m m) (zs m) := by
  have hR : Row (w.alloc (.cells (C8 (zs m)).toArray 5)) w.heap.size (zs m) := heap_alloc_new w _
  exact hR.reads 0 m m (zs m) (zs_length m) (Nat.le_refl _) (by unfold maxLen; omega) (fun j u hu => by rw [Nat.zero_add]; exact hu)

set_option maxRecDepth 100000 in
set_option maxHeartbeats 400000 in
theorem long_any (n r : Nat) (hn : n ≤ 255) (hr : r ≤ 255) (w : World) : Calls Try.prog 6 #[.int .u8 (n : Int), .int .u8 (r : Int)] w fun e w' => e = .returned (.bool true) ∧ Kept [] w w' := by
  go_enter Try.func6, Try.ntmps6
  go_wp2_with fail
  refine (awake_any w).mono ?_
  rintro e w0 ⟨rfl, k0⟩
  have hnew := sy_new k0 100 0 (84 + r % 16) (by omega) (by omega) (by omega)
  change Calls Try.prog 10 #[.int .i64 100] w0 _ at hnew
  go_wp2_with fail
  refine hnew.mono ?_
  rintro e w1 ⟨q, rfl, k1, hop'⟩
  have hop := hop' w1 (Kept.refl _ _)
  obtain ⟨C, hC⟩ : ∃ C, Hid (84 + r % 16 = C) := ⟨_, rfl⟩
  have hCI : Hid (((C : Nat) : Int) = 84 + (r : Int) % 16) := by show _ = _; have := hC.out; omega
  have hC1 : 84 ≤ C ∧ C ≤ 99 := by have := hC.out; omega
  rw [hC.out, hCI.out] at hop
  clear hnew hop' k1
  go_wp2_with fail
  refine hop.mono ?_
  rintro e w2 ⟨p, fl, rfl, hfl, hS, -⟩
  clear hop
  have hmk := make_long n hn w2
  have hr0 := reads_zs w2 (19872 + n) (by omega)
  have hk0 := (Kept.refl [] w2).alloc (.cells (C8 (zs (19872 + n))).toArray 5)
  have hS2 := hS.more (Y := [w2.heap.size]) hk0 (by simp)
  have hkk := hS2.k
  obtain ⟨m, hm⟩ : ∃ m, Hid (19872 + n = m) := ⟨_, rfl⟩
  have hmI : Hid (19872 + (n : Int) = (m : Int)) := by show _ = _; have := hm.out; omega
  rw [hm.out] at hmk hr0 hk0 hS2 hkk
  have hmn : m ≤ 20127 := by have := hm.out; omega
  have hub : ∀ w4, Calls Try.prog 13 #[.int .i64 (19872 + (n : Int))] w4 fun e w' => e = .returned (.int .i64 (bks m : Int)) ∧ w4 = w' := fun w4 => by
    have := tb_any m (by omega) w4
    rw [← hmI.out] at this
    exact this
  have hfree : ∀ w4 fl' L' s', Sy w w4 q p s' 0 C L' fl' ([w2.heap.size] ++ []) → Hid (fl'.length = C) → Calls Try.prog 14 #[.pointer (some ⟨p, 0, none⟩)] w4 fun e w' => ∃ a c, e = .returned (.slice a C c) ∧ Kept [] w w' := fun w4 fl' L' s' h hl => by
    have hK := h.k
    refine (sy_free h).mono ?_
    rintro e w5 ⟨v5, ns, rfl, hO5, ⟨hp5, -⟩, k5, -⟩
    obtain ⟨a5, c5, rfl, -, -⟩ := hO5.form
    have hlen5 := hp5.length_eq
    rw [hl.out] at hlen5
    rw [hlen5]
    exact ⟨a5, c5, rfl, hK.trans k5 (by simp)⟩
  have hfl' := Hid.mk hfl
  have hceq : ((C : Int) == 84 + (r : Int) % 16) = true := beq_iff_eq.2 hCI.out
  clear hfl
  by_cases hbig : 20000 < m
  · have hput := put_long p (some ⟨w2.heap.size, 0, none⟩) m m (w2.alloc (.cells (C8 (zs m)).toArray 5)) (by omega) hbig
    have hget := sy_get_none hS2 0 (by decide) (by simp)
    have hgt : (20000 : Int) < 19872 + (n : Int) := by have := hm.out; omega
    have hfr := hfree _ _ _ _ hS2 hfl'
    generalize (w2.alloc (.cells (C8 (zs m)).toArray 5)) = W at *
    clear hS2 hS hr0 hfree
    go_wp2_with fail
    refine hput.mono ?_
    rintro e w3 ⟨rfl, rfl⟩
    have hub3 := hub W
    clear hput hub
    go_wp2_with fail
    refine hub3.mono ?_
    rintro e w3 ⟨rfl, rfl⟩
    clear hub3
    have hB : 84 + (r : Int) % 16 < (bks m : Int) ∨ ¬ 84 + (r : Int) % 16 < (bks m : Int) := by omega
    rcases hB with hB | hB
    all_goals
      go_wp2_with fail
      refine hget.mono ?_
      rintro e w3 ⟨rfl, rfl⟩
      go_wp2_with fail
      refine hfr.mono ?_
      rintro e w3 ⟨a3, c3, rfl, k3⟩
      go_wp2
      go_ret
      exact ⟨rfl, k3⟩
  · have hgt : ¬ (20000 : Int) < 19872 + (n : Int) := by have := hm.out; omega
    by_cases hfu : C < bks m
    · have hput := sy_put_full hS2 (some ⟨w2.heap.size, 0, none⟩) m m (by omega) (by rw [hfl'.out]; exact hfu)
      have hget := sy_get_none hS2 0 (by decide) (by simp)
      have hfr := hfree _ _ _ _ hS2 hfl'
      have hB : 84 + (r : Int) % 16 < (bks m : Int) := by have := hCI.out; omega
      generalize (w2.alloc (.cells (C8 (zs m)).toArray 5)) = W at *
      clear hS2 hS hr0 hfree
      go_wp2_with fail
      refine hput.mono ?_
      rintro e w3 ⟨rfl, rfl⟩
      have hub3 := hub W
      clear hput hub
      go_wp2_with fail
      refine hub3.mono ?_
      rintro e w3 ⟨rfl, rfl⟩
      clear hub3
      go_wp2_with fail
      refine hget.mono ?_
      rintro e w3 ⟨rfl, rfl⟩
      go_wp2_with fail
      refine hfr.mono ?_
      rintro e w3 ⟨a3, c3, rfl, k3⟩
      go_wp2
      go_ret
      exact ⟨rfl, k3⟩
    · have hput := sy_put hS2 (some ⟨w2.heap.size, 0, none⟩) m m (zs m) (zs_length m).symm hr0 (fun g hg => by simp [Value.ownBlock] at hg; simp [hg]) (by simp) (by omega) (by rw [hfl'.out]; omega) rfl (.inl (by show (-1 : Int) < 0; omega)) (by simp)
      have hB : ¬ 84 + (r : Int) % 16 < (bks m : Int) := by have := hCI.out; omega
      clear hS2 hS hr0 hfree hkk
      go_wp2_with fail
      refine hput.mono ?_
      rintro e w3 ⟨nm, vs, fu, rfl, -, -, -, -, hS3, -⟩
      have hget := sy_get hS3 rfl (nm, fl.take (bks m), zs m) (by simp)
      change Calls Try.prog 24 #[.pointer (some ⟨p, 0, none⟩), .int .i64 (nm : Int)] w3 _ at hget
      have hk3 := hS3.k
      have hub3 := hub w3
      clear hput hub hS3
      go_wp2_with fail
      refine hub3.mono ?_
      rintro e w4 ⟨rfl, rfl⟩
      clear hub3
      go_wp2_with fail
      refine hget.mono ?_
      rintro e w4 ⟨v, rfl, hO, k4, -⟩
      obtain ⟨a4, c4, rfl⟩ := hO.form
      have hk4 := hk3.trans k4 (by simp)
      have hlz : (zs m).length = m := zs_length m
      have hmeq : ((m : Int) == 19872 + (n : Int)) = true := beq_iff_eq.2 hmI.out.symm
      clear hget hO
      go_wp2
      go_ret
      exact ⟨rfl, hk4⟩
end Go.Proofs.Ytilelklcfgemoaa
