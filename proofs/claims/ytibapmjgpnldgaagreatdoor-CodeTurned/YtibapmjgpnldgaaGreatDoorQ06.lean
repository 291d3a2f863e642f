import Derived.Deep.RegionLaw
import Derived.Deep.DrawnRows
import Derived.Test.YtibapmjgpnldgaaGreatDoorQ04
/-
  Writer.Number: what it lays.
-/
namespace Go.Proofs.YtibapmjgpnldgaaGreatDoor
set_option maxRecDepth 100000
open Go.RowKit
attribute [local go_sem ↓] Go.wp_at_zero Go.wp_at_succ
theorem info5 : (Tryz.prog.info? 5).map (fun i => (i.zero, i.size, i.bytes)) = some (some (.int .u8 0), 1, 1) := by kernel_rfl
set_option maxHeartbeats 400000 in
theorem wnum_nil (n : Int) (w : World) : Calls Tryz.prog 17 #[.pointer none, .int .u64 n] w fun e w' => e = .returned (.tuple #[]) ∧ w = w' := by
  go_enter Tryz.func17, Tryz.ntmps17
  go_wp2
  refine bodyPost_ret (results_none rfl _ _ _) rfl ?_
  exact ⟨rfl, rfl⟩
set_option maxHeartbeats 1000000 in
theorem wnum_small (p : Nat) (v : Value) (l : List UInt8) (n : Nat) (w : World) (hW : IsW 88 5 w p v l) (hn : n ≤ 247) (hb : l.length + 1 ≤ 140737488355328) :
    Calls Tryz.prog 17 #[.pointer (some ⟨p, 0, none⟩), .int .u64 (n : Int)] w fun e w' => e = .returned (.tuple #[]) ∧ Laid 88 5 w p v (l ++ [UInt8.ofNat n]) w' := by
  obtain ⟨i0, hi, hz0, hz1, hz2⟩ := info_parts info5
  have hcell := cell_of_one hW.box
  have hfree := free_of_one hW.box
  have hlt := hW.lt
  have hown : w.ownsRow 0 5 1 v l.length (C8 l) := hW.own
  go_enter Tryz.func17, Tryz.ntmps17
  go_wp2_with (at_builtin; refine wpList_append_lies _ rfl _ _ _ rfl 0 5 i0 _ 1 1 Tryz.underlying35 hi hz0 hz1 hz2 rfl (by omega) v l.length (C8 l) rfl (hown.alloc _) ⟨w.heap.size, 0, none⟩ 1 1 [.int .u8 (n : Int)] rfl rfl (World.news_of_block (cs := #[.int .u8 (n : Int)]) (t := 5) (fr := (0, 0)) (heap_alloc_new w _)) (by simp [Value.oneCell']) (by omega) (by unfold maxLen; omega) (by omega) (by omega) (w.heap.size + 1) (by simp) ?_; intro g cap w1 hown1 hgrow hat hgl; obtain ⟨hc1, hf1⟩ := ready_store hW ((Kept.refl [] w).alloc _) hgrow)
  refine bodyPost_ret (results_none rfl _ _ _) rfl ?_
  exact ⟨rfl, laid_step hW ((Kept.refl [] w).alloc _) (own_of (by omega) hown1) hgrow (new_of hat)⟩
set_option maxRecDepth 100000 in
set_option maxHeartbeats 1000000 in
theorem wnum_great (p : Nat) (v : Value) (l : List UInt8) (n : Nat) (w : World) (hd : UInt8) (hhd : Hid (hd = UInt8.ofNat (247 + width n))) (hW : IsW 88 5 w p v l) (hn : 248 ≤ n) (hn2 : n < 18446744073709551616) (hb : l.length + 9 ≤ 140737488355328) :
    Calls Tryz.prog 17 #[.pointer (some ⟨p, 0, none⟩), .int .u64 (n : Int)] w fun e w' => e = .returned (.tuple #[]) ∧ Laid 88 5 w p v (l ++ (hd :: digits (width n) n)) w' := by
  obtain ⟨i0, hi, hz0, hz1, hz2⟩ := info_parts info5
  have hcell := cell_of_one hW.box
  have hfree := free_of_one hW.box
  have hlt := hW.lt
  have hown : w.ownsRow 0 5 1 v l.length (C8 l) := hW.own
  have hwp := width_pos n
  obtain ⟨hw1, hw8⟩ := hwp
  go_enter Tryz.func17, Tryz.ntmps17
  go_wp2_with (first | (go_at_call 35; refine (len_any n _ hn hn2).mono ?_; rintro e w' ⟨m, rfl, hm0, hm1, hm2, rfl⟩; have HM : Hid ((m + 7) / 8 = (width n : Int)) := hm2; clear hm2) | (at_builtin; refine wpList_append_lies _ rfl _ _ _ rfl 0 5 i0 _ 1 1 Tryz.underlying35 hi hz0 hz1 hz2 rfl (by omega) v l.length (C8 l) rfl (hown.alloc _) ⟨w.heap.size, 0, none⟩ 1 1 [.int .u8 (247 + (m + 7) / 8)] rfl rfl (World.news_of_block (cs := #[.int .u8 (247 + (m + 7) / 8)]) (t := 5) (fr := (0, 0)) (heap_alloc_new w _)) (by simp [Value.oneCell']) (by omega) (by unfold maxLen; omega) (by omega) (by omega) (w.heap.size + 1) (by simp) ?_; intro g cap w1 hown1 hgrow hat hgl; obtain ⟨hc1, hf1⟩ := ready_store hW ((Kept.refl [] w).alloc _) hgrow))
  rw [HM.out]
  have L1 := laid_step hW ((Kept.refl [] w).alloc _) (own_of (n := 247 + width n) (by have := HM.out; omega) hown1) hgrow (new_of hat)
  rw [← hhd.out] at L1
  clear hown1 hgrow hat hgl hc1 hf1 hcell hfree hown hm0 hm1 HM
  go_loopw [5] (fun i wr => ∃ j : Nat, j ≤ width n ∧ i = .int .i64 ((j : Int) - 1) ∧ Laid 88 5 w p v (l ++ [hd] ++ (digits (width n) n).take (width n - j)) wr) (fun i _ => (intOf i + 1).toNat)
  case atStart => exact ⟨width n, Nat.le_refl _, rfl, by simpa using L1⟩
  case round =>
    obtain ⟨j, hj, rfl, v1, hW1, hk1, hn1⟩ := hrel
    clear L1
    have hll : (l ++ [hd] ++ (digits (width n) n).take (width n - j)).length ≤ l.length + 8 + 1 - j := by
      simp only [List.length_append, List.length_take, digits_length, List.length_cons, List.length_nil]; omega
    have HD : 1 ≤ j → Hid (l ++ [hd] ++ (digits (width n) n).take (width n - (j - 1)) = l ++ [hd] ++ (digits (width n) n).take (width n - j) ++ [UInt8.ofNat (n / 256 ^ (j - 1))]) := fun h1 => by
      show _ = _
      rw [digits_take (width n) n j h1 hj, List.append_assoc _ (List.take _ _)]
    have HE : j = 0 → Hid (l ++ [hd] ++ (digits (width n) n).take (width n - j) = l ++ (hd :: digits (width n) n)) := by
      rintro rfl
      show _ = _
      rw [Nat.sub_zero, List.take_of_length_le (by rw [digits_length]; exact Nat.le_refl _)]; simp
    generalize (l ++ [hd] ++ (digits (width n) n).take (width n - j)) = l1 at hW1 hll HD HE
    have hown : wr.ownsRow 0 5 1 v1 l1.length (C8 l1) := hW1.own
    have hcell := cell_of_one hW1.box
    have hfree := free_of_one hW1.box
    by_cases hj0 : j = 0
    · have HE0 := HE hj0
      clear HD HE
      subst hj0
      go_wp2
      go_end0
      exact ⟨rfl, v1, by rw [← HE0.out]; exact hW1, hk1, hn1⟩
    · obtain ⟨i, rfl⟩ : ∃ i, j = i + 1 := ⟨j - 1, by omega⟩
      have ei : ((i + 1 : Nat) : Int) - 1 = (i : Int) := by omega
      rw [ei]
      clear ei
      have hi7 : (i : Int) ≤ 7 := by omega
      have HD1 := HD (by omega)
      have hwr : IntKind.i64.wrap (8 * (i : Int)) = 8 * (i : Int) := by rw [IntKind.wrap_i64]; omega
      have hltr := hW1.lt
      clear HD HE
      go_wp2_with fail
      go_region_law ((refine step_append_lies _ (by rfl) _ _ _ (by rfl) 0 5 i0 _ 1 1 Tryz.underlying35 hi hz0 hz1 hz2 rfl (by omega) v1 l1.length (C8 l1) (by rfl) ((hown.alloc _).drew) ⟨wr.heap.size, 0, none⟩ 1 1 [_] (by rfl) (by rfl) (World.news_of_block (cs := #[_]) (t := 5) (fr := (0, 0)) (heap_alloc_new wr _)) (by simp [Value.oneCell']) (by omega) (by unfold maxLen; omega) (by omega) (by omega) (wr.heap.size + 1) (by simp) ?_; intro g2 cap2 w2 hown2 hgrow2 hat2 hgl2; obtain ⟨hc2, hf2⟩ := ready_store hW1 ((Kept.refl [] wr).alloc _).drew hgrow2))
      all_goals
        have L2 := laid_step hW1 ((Kept.refl [] wr).alloc _).drew (own_of (byte_shr n i) hown2) hgrow2 (new_of hat2)
        have L3 := Laid.trans hk1 hn1 L2
        clear hown2 hgrow2 hat2 hgl2 hc2 hf2 hown hcell hfree hll
        go_wp2
        go_roundw
        case rel => exact ⟨i, by omega, rfl, by have := HD1.out; rw [Nat.add_sub_cancel] at this; rw [this]; exact L3⟩
        case measure => simp [intOf]
/-- Writer.Number lays a number's bytes. -/
theorem wnum_any (p : Nat) (v : Value) (l : List UInt8) (n : Nat) (w : World) (hW : IsW 88 5 w p v l) (hn : n < 18446744073709551616) (hb : l.length + 9 ≤ 140737488355328) :
    Calls Tryz.prog 17 #[.pointer (some ⟨p, 0, none⟩), .int .u64 (n : Int)] w fun e w' => e = .returned (.tuple #[]) ∧ Laid 88 5 w p v (l ++ enc n) w' := by
  by_cases h : n ≤ 247
  · rw [show enc n = [UInt8.ofNat n] by unfold enc; rw [if_pos h]]
    exact wnum_small p v l n w hW h (by omega)
  · rw [show enc n = UInt8.ofNat (247 + width n) :: digits (width n) n by unfold enc; rw [if_neg h]]
    exact wnum_great p v l n w _ rfl hW (by omega) hn hb
end Go.Proofs.YtibapmjgpnldgaaGreatDoor
