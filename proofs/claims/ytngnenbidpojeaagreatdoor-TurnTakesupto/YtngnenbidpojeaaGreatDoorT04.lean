import Derived.Lib.Tables
import Derived.Deep.RegionLaw
import Derived.Deep.DrawnRows
import Derived.OpenShut
import Derived.Deep.QuietTactic
import Derived.BigQuiet
import Derived.Test.YtngnenbidpojeaaGreatDoorT01
import Derived.Test.YtngnenbidpojeaaGreatDoorT02
import Derived.Test.YtngnenbidpojeaaGreatDoorT03
/-
 bits.Len64, as far as the codec leans on it: how many bytes its bits fill.
-/
namespace Go.Proofs.YtngnenbidpojeaaGreatDoor
set_option maxRecDepth 100000
open Go.RowKit
abbrev tabA : List UInt8 := [0, 1, 2, 2, 3, 3, 3, 3, 4, 4, 4, 4, 4, 4, 4, 4, 5, 5, 5, 5, 5, 5, 5, 5, 5, 5, 5, 5, 5, 5, 5, 5, 6, 6, 6, 6, 6, 6, 6, 6, 6, 6, 6, 6, 6, 6, 6, 6, 6, 6, 6, 6, 6, 6, 6, 6, 6, 6, 6, 6, 6, 6, 6, 6]
abbrev tabB : List UInt8 := [7, 7, 7, 7, 7, 7, 7, 7, 7, 7, 7, 7, 7, 7, 7, 7, 7, 7, 7, 7, 7, 7, 7, 7, 7, 7, 7, 7, 7, 7, 7, 7, 7, 7, 7, 7, 7, 7, 7, 7, 7, 7, 7, 7, 7, 7, 7, 7, 7, 7, 7, 7, 7, 7, 7, 7, 7, 7, 7, 7, 7, 7, 7, 7]
abbrev tabC : List UInt8 := [8, 8, 8, 8, 8, 8, 8, 8, 8, 8, 8, 8, 8, 8, 8, 8, 8, 8, 8, 8, 8, 8, 8, 8, 8, 8, 8, 8, 8, 8, 8, 8, 8, 8, 8, 8, 8, 8, 8, 8, 8, 8, 8, 8, 8, 8, 8, 8, 8, 8, 8, 8, 8, 8, 8, 8, 8, 8, 8, 8, 8, 8, 8, 8]
theorem tab_eq : (ByteArray.mk (List.toArray (List.append (List.append tabA tabB) (List.append tabC tabC)))) = Lib.len8tab := by decide +kernel
theorem tab_index (y : Int) (w : World) (h0 : 0 ≤ y) (h1 : y ≤ 255) : (Instr.index 9 (.string Lib.len8tab) (.int .u8 y)).run Tryz.prog w = .ok (.int .u8 (Lib.len8 y)) w := Lib.run_index_len8tab w 9 .u8 y Tryz.underlying9 h0 h1
set_option maxRecDepth 100000 in
set_option maxHeartbeats 1000000 in
theorem len_7 (x : Int) (w : World) (h1 : 72057594037927936 ≤ x) (h2 : x ≤ 18446744073709551615) : Calls Tryz.prog 109 #[.int .u64 x] w fun e w' => e = .returned (.int .i64 (56 + Lib.len8 (x / 4294967296 / 65536 / 256))) ∧ w = w' := by
 have y0 : 0 ≤ x / 4294967296 / 65536 / 256 := by omega
 have y1 : x / 4294967296 / 65536 / 256 ≤ 255 := by omega
 have r := len8_range (x / 4294967296 / 65536 / 256) (by omega) y1
 obtain ⟨r1, r2⟩ := r
 have a1 : 4294967296 ≤ x := by omega
 have a2 : 65536 ≤ x / 4294967296 := by omega
 have a3 : 256 ≤ x / 4294967296 / 65536 := by omega
 have hix := fun w : World => tab_index (x / 4294967296 / 65536 / 256) w y0 y1
 go_enter Tryz.func109, Tryz.ntmps109
 rw [tab_eq]
 generalize Lib.len8tab = T at hix ⊢
 go_wp2
 go_ret
 exact ⟨rfl, rfl⟩
set_option maxRecDepth 100000 in
set_option maxHeartbeats 1000000 in
theorem len_6 (x : Int) (w : World) (h1 : 281474976710656 ≤ x) (h2 : x ≤ 72057594037927935) : Calls Tryz.prog 109 #[.int .u64 x] w fun e w' => e = .returned (.int .i64 (48 + Lib.len8 (x / 4294967296 / 65536))) ∧ w = w' := by
 have y0 : 0 ≤ x / 4294967296 / 65536 := by omega
 have y1 : x / 4294967296 / 65536 ≤ 255 := by omega
 have r := len8_range (x / 4294967296 / 65536) (by omega) y1
 obtain ⟨r1, r2⟩ := r
 have a1 : 4294967296 ≤ x := by omega
 have a2 : 65536 ≤ x / 4294967296 := by omega
 have a3 : x / 4294967296 / 65536 < 256 := by omega
 have hix := fun w : World => tab_index (x / 4294967296 / 65536) w y0 y1
 go_enter Tryz.func109, Tryz.ntmps109
 rw [tab_eq]
 generalize Lib.len8tab = T at hix ⊢
 go_wp2
 go_ret
 exact ⟨rfl, rfl⟩
set_option maxRecDepth 100000 in
set_option maxHeartbeats 1000000 in
theorem len_5 (x : Int) (w : World) (h1 : 1099511627776 ≤ x) (h2 : x ≤ 281474976710655) : Calls Tryz.prog 109 #[.int .u64 x] w fun e w' => e = .returned (.int .i64 (40 + Lib.len8 (x / 4294967296 / 256))) ∧ w = w' := by
 have y0 : 0 ≤ x / 4294967296 / 256 := by omega
 have y1 : x / 4294967296 / 256 ≤ 255 := by omega
 have r := len8_range (x / 4294967296 / 256) (by omega) y1
 obtain ⟨r1, r2⟩ := r
 have a1 : 4294967296 ≤ x := by omega
 have a2 : x / 4294967296 < 65536 := by omega
 have a3 : 256 ≤ x / 4294967296 := by omega
 have hix := fun w : World => tab_index (x / 4294967296 / 256) w y0 y1
 go_enter Tryz.func109, Tryz.ntmps109
 rw [tab_eq]
 generalize Lib.len8tab = T at hix ⊢
 go_wp2
 go_ret
 exact ⟨rfl, rfl⟩
set_option maxRecDepth 100000 in
set_option maxHeartbeats 1000000 in
theorem len_4 (x : Int) (w : World) (h1 : 4294967296 ≤ x) (h2 : x ≤ 1099511627775) : Calls Tryz.prog 109 #[.int .u64 x] w fun e w' => e = .returned (.int .i64 (32 + Lib.len8 (x / 4294967296))) ∧ w = w' := by
 have y0 : 0 ≤ x / 4294967296 := by omega
 have y1 : x / 4294967296 ≤ 255 := by omega
 have r := len8_range (x / 4294967296) (by omega) y1
 obtain ⟨r1, r2⟩ := r
 have a1 : 4294967296 ≤ x := by omega
 have a2 : x / 4294967296 < 65536 := by omega
 have a3 : x / 4294967296 < 256 := by omega
 have hix := fun w : World => tab_index (x / 4294967296) w y0 y1
 go_enter Tryz.func109, Tryz.ntmps109
 rw [tab_eq]
 generalize Lib.len8tab = T at hix ⊢
 go_wp2
 go_ret
 exact ⟨rfl, rfl⟩
set_option maxRecDepth 100000 in
set_option maxHeartbeats 1000000 in
theorem len_3 (x : Int) (w : World) (h1 : 16777216 ≤ x) (h2 : x ≤ 4294967295) : Calls Tryz.prog 109 #[.int .u64 x] w fun e w' => e = .returned (.int .i64 (24 + Lib.len8 (x / 65536 / 256))) ∧ w = w' := by
 have y0 : 0 ≤ x / 65536 / 256 := by omega
 have y1 : x / 65536 / 256 ≤ 255 := by omega
 have r := len8_range (x / 65536 / 256) (by omega) y1
 obtain ⟨r1, r2⟩ := r
 have a1 : x < 4294967296 := by omega
 have a2 : 65536 ≤ x := by omega
 have a3 : 256 ≤ x / 65536 := by omega
 have hix := fun w : World => tab_index (x / 65536 / 256) w y0 y1
 go_enter Tryz.func109, Tryz.ntmps109
 rw [tab_eq]
 generalize Lib.len8tab = T at hix ⊢
 go_wp2
 go_ret
 exact ⟨rfl, rfl⟩
set_option maxRecDepth 100000 in
set_option maxHeartbeats 1000000 in
theorem len_2 (x : Int) (w : World) (h1 : 65536 ≤ x) (h2 : x ≤ 16777215) : Calls Tryz.prog 109 #[.int .u64 x] w fun e w' => e = .returned (.int .i64 (16 + Lib.len8 (x / 65536))) ∧ w = w' := by
 have y0 : 0 ≤ x / 65536 := by omega
 have y1 : x / 65536 ≤ 255 := by omega
 have r := len8_range (x / 65536) (by omega) y1
 obtain ⟨r1, r2⟩ := r
 have a1 : x < 4294967296 := by omega
 have a2 : 65536 ≤ x := by omega
 have a3 : x / 65536 < 256 := by omega
 have hix := fun w : World => tab_index (x / 65536) w y0 y1
 go_enter Tryz.func109, Tryz.ntmps109
 rw [tab_eq]
 generalize Lib.len8tab = T at hix ⊢
 go_wp2
 go_ret
 exact ⟨rfl, rfl⟩
set_option maxRecDepth 100000 in
set_option maxHeartbeats 1000000 in
theorem len_1 (x : Int) (w : World) (h1 : 256 ≤ x) (h2 : x ≤ 65535) : Calls Tryz.prog 109 #[.int .u64 x] w fun e w' => e = .returned (.int .i64 (8 + Lib.len8 (x / 256))) ∧ w = w' := by
 have y0 : 0 ≤ x / 256 := by omega
 have y1 : x / 256 ≤ 255 := by omega
 have r := len8_range (x / 256) (by omega) y1
 obtain ⟨r1, r2⟩ := r
 have a1 : x < 4294967296 := by omega
 have a2 : x < 65536 := by omega
 have a3 : 256 ≤ x := by omega
 have hix := fun w : World => tab_index (x / 256) w y0 y1
 go_enter Tryz.func109, Tryz.ntmps109
 rw [tab_eq]
 generalize Lib.len8tab = T at hix ⊢
 go_wp2
 go_ret
 exact ⟨rfl, rfl⟩
set_option maxRecDepth 100000 in
set_option maxHeartbeats 1000000 in
theorem len_0 (x : Int) (w : World) (h1 : 1 ≤ x) (h2 : x ≤ 255) : Calls Tryz.prog 109 #[.int .u64 x] w fun e w' => e = .returned (.int .i64 (0 + Lib.len8 (x))) ∧ w = w' := by
 have y0 : 0 ≤ x := by omega
 have y1 : x ≤ 255 := by omega
 have r := len8_range (x) (by omega) y1
 obtain ⟨r1, r2⟩ := r
 have a1 : x < 4294967296 := by omega
 have a2 : x < 65536 := by omega
 have a3 : x < 256 := by omega
 have hix := fun w : World => tab_index (x) w y0 y1
 go_enter Tryz.func109, Tryz.ntmps109
 rw [tab_eq]
 generalize Lib.len8tab = T at hix ⊢
 go_wp2
 go_ret
 exact ⟨ret_int (by omega), rfl⟩
theorem len_any (n : Nat) (w : World) (h1 : 248 ≤ n) (h2 : n < 18446744073709551616) : Calls Tryz.prog 109 #[.int .u64 (n : Int)] w fun e w' => ∃ m : Int, e = .returned (.int .i64 m) ∧ 0 ≤ m ∧ m ≤ 64 ∧ (m + 7) / 8 = (width n : Int) ∧ w = w' := by
 have key : ∀ (k : Nat) (y : Int), k ≤ 7 → 1 ≤ y → y ≤ 255 → width n = k + 1 → ∀ (e : Ending) (w' : World), e = .returned (.int .i64 (8 * (k : Int) + Lib.len8 y)) ∧ w = w' → ∃ m : Int, e = .returned (.int .i64 m) ∧ 0 ≤ m ∧ m ≤ 64 ∧ (m + 7) / 8 = (width n : Int) ∧ w = w' := by
  rintro k y hk y0 y1 hw e w' ⟨rfl, rfl⟩
  have r := len8_range y y0 y1
  exact ⟨_, rfl, by omega, by omega, by omega, rfl⟩
 unfold width at key
 by_cases c7 : 72057594037927936 ≤ n
 ·exact (len_7 n w (by omega) (by omega)).mono fun e w' h => key 7 _ (by omega) (by omega) (by omega) (by (repeat' split) <;> omega) e w' h
 by_cases c6 : 281474976710656 ≤ n
 ·exact (len_6 n w (by omega) (by omega)).mono fun e w' h => key 6 _ (by omega) (by omega) (by omega) (by (repeat' split) <;> omega) e w' h
 by_cases c5 : 1099511627776 ≤ n
 ·exact (len_5 n w (by omega) (by omega)).mono fun e w' h => key 5 _ (by omega) (by omega) (by omega) (by (repeat' split) <;> omega) e w' h
 by_cases c4 : 4294967296 ≤ n
 ·exact (len_4 n w (by omega) (by omega)).mono fun e w' h => key 4 _ (by omega) (by omega) (by omega) (by (repeat' split) <;> omega) e w' h
 by_cases c3 : 16777216 ≤ n
 ·exact (len_3 n w (by omega) (by omega)).mono fun e w' h => key 3 _ (by omega) (by omega) (by omega) (by (repeat' split) <;> omega) e w' h
 by_cases c2 : 65536 ≤ n
 ·exact (len_2 n w (by omega) (by omega)).mono fun e w' h => key 2 _ (by omega) (by omega) (by omega) (by (repeat' split) <;> omega) e w' h
 by_cases c1 : 256 ≤ n
 ·exact (len_1 n w (by omega) (by omega)).mono fun e w' h => key 1 _ (by omega) (by omega) (by omega) (by (repeat' split) <;> omega) e w' h
 ·exact (len_0 n w (by omega) (by omega)).mono fun e w' h => key 0 _ (by omega) (by omega) (by omega) (by (repeat' split) <;> omega) e w' h
end Go.Proofs.YtngnenbidpojeaaGreatDoor
namespace Go.Proofs.YtngnenbidpojeaaGreatDoor
set_option maxRecDepth 100000
open Go.RowKit
attribute [local go_sem ↓] Go.wp_at_zero Go.wp_at_succ
theorem info5 : (Tryz.prog.info? 5).map (fun i => (i.zero, i.size, i.bytes)) = some (some (.int .u8 0), 1, 1) := by kernel_rfl
set_option maxHeartbeats 1000000 in
theorem wnum_small (p : Nat) (v : Value) (l : List UInt8) (n : Nat) (w : World) (hW : IsW 205 5 w p v l) (hn : n ≤ 247) (hb : l.length + 1 ≤ 140737488355328) :
  Calls Tryz.prog 64 #[.pointer (some ⟨p, 0, none⟩), .int .u64 (n : Int)] w fun e w' => e = .returned (.tuple #[]) ∧ Laid 205 5 w p v (l ++ [UInt8.ofNat n]) w' := by
 obtain ⟨i0, hi, hz0, hz1, hz2⟩ := info_parts info5
 have hcell := cell_of_one hW.box
 have hfree := free_of_one hW.box
 have hlt := hW.lt
 have hown : w.ownsRow 0 5 1 v l.length (C8 l) := hW.own
 go_enter Tryz.func64, Tryz.ntmps64
 go_wp2_with (at_builtin; refine wpList_append_lies _ rfl _ _ _ rfl 0 5 i0 _ 1 1 Tryz.underlying73 hi hz0 hz1 hz2 rfl (by omega) v l.length (C8 l) rfl (hown.alloc _) ⟨w.heap.size, 0, none⟩ 1 1 [.int .u8 (n : Int)] rfl rfl (World.news_of_block (cs := #[.int .u8 (n : Int)]) (t := 5) (fr := (0, 0)) (heap_alloc_new w _)) (by simp [Value.oneCell']) (by omega) (by unfold maxLen; omega) (by omega) (by omega) (w.heap.size + 1) (by simp) ?_; intro g cap w1 hown1 hgrow hat hgl; obtain ⟨hc1, hf1⟩ := ready_store hW ((Kept.refl [] w).alloc _) hgrow)
 refine bodyPost_ret (results_none rfl _ _ _) rfl ?_
 exact ⟨rfl, laid_step hW ((Kept.refl [] w).alloc _) (own_of (by omega) hown1) hgrow (new_of hat)⟩
set_option maxRecDepth 100000 in
set_option maxHeartbeats 1000000 in
theorem wnum_great (p : Nat) (v : Value) (l : List UInt8) (n : Nat) (w : World) (hd : UInt8) (hhd : Hid (hd = UInt8.ofNat (247 + width n))) (hW : IsW 205 5 w p v l) (hn : 248 ≤ n) (hn2 : n < 18446744073709551616) (hb : l.length + 9 ≤ 140737488355328) :
  Calls Tryz.prog 64 #[.pointer (some ⟨p, 0, none⟩), .int .u64 (n : Int)] w fun e w' => e = .returned (.tuple #[]) ∧ Laid 205 5 w p v (l ++ (hd :: digits (width n) n)) w' := by
 obtain ⟨i0, hi, hz0, hz1, hz2⟩ := info_parts info5
 have hcell := cell_of_one hW.box
 have hfree := free_of_one hW.box
 have hlt := hW.lt
 have hown : w.ownsRow 0 5 1 v l.length (C8 l) := hW.own
 have hwp := width_pos n
 obtain ⟨hw1, hw8⟩ := hwp
 go_enter Tryz.func64, Tryz.ntmps64
 go_wp2_with (first | (go_at_call 109; refine (len_any n _ hn hn2).mono ?_; rintro e w' ⟨m, rfl, hm0, hm1, hm2, rfl⟩; have HM : Hid ((m + 7) / 8 = (width n : Int)) := hm2; clear hm2) | (at_builtin; refine wpList_append_lies _ rfl _ _ _ rfl 0 5 i0 _ 1 1 Tryz.underlying73 hi hz0 hz1 hz2 rfl (by omega) v l.length (C8 l) rfl (hown.alloc _) ⟨w.heap.size, 0, none⟩ 1 1 [.int .u8 (247 + (m + 7) / 8)] rfl rfl (World.news_of_block (cs := #[.int .u8 (247 + (m + 7) / 8)]) (t := 5) (fr := (0, 0)) (heap_alloc_new w _)) (by simp [Value.oneCell']) (by omega) (by unfold maxLen; omega) (by omega) (by omega) (w.heap.size + 1) (by simp) ?_; intro g cap w1 hown1 hgrow hat hgl; obtain ⟨hc1, hf1⟩ := ready_store hW ((Kept.refl [] w).alloc _) hgrow))
 rw [HM.out]
 have L1 := laid_step hW ((Kept.refl [] w).alloc _) (own_of (n := 247 + width n) (by have := HM.out; omega) hown1) hgrow (new_of hat)
 rw [← hhd.out] at L1
 clear hown1 hgrow hat hgl hc1 hf1 hcell hfree hown hm0 hm1 HM
 go_loopw [5] (fun i wr => ∃ j : Nat, j ≤ width n ∧ i = .int .i64 ((j : Int) - 1) ∧ Laid 205 5 w p v (l ++ [hd] ++ (digits (width n) n).take (width n - j)) wr) (fun i _ => (intOf i + 1).toNat)
 case atStart => exact ⟨width n, Nat.le_refl _, rfl, by simpa using L1⟩
 case round =>
  obtain ⟨j, hj, rfl, v1, hW1, hk1, hn1⟩ := hrel
  clear L1
  have hll : (l ++ [hd] ++ (digits (width n) n).take (width n - j)).length ≤ l.length + 8 + 1 - j := by
   simp only [List.length_append, List.length_take, digits_length, List.length_cons, List.length_nil]; omega
  have HD : 1 ≤ j → Hid (l ++ [hd] ++ (digits (width n) n).take (width n - (j - 1)) = l ++ [hd] ++ (digits (width n) n).take (width n - j) ++ [UInt8.ofNat (n / 256 ^ (j - 1))]) := fun h1 => by
   show _ = _
   rw [digits_take (width n) n j h1 hj, List.append_assoc _ (List.take _ _)]
  have HE : j = 0 → Hid (l ++ [hd] ++ (digits (width n) n).take (width n - j) = l ++ (hd :: digits (width n) n)) := by
   rintro rfl
   show _ = _
   rw [Nat.sub_zero, List.take_of_length_le (by rw [digits_length]; exact Nat.le_refl _)]; simp
  generalize (l ++ [hd] ++ (digits (width n) n).take (width n - j)) = l1 at hW1 hll HD HE
  have hown : wr.ownsRow 0 5 1 v1 l1.length (C8 l1) := hW1.own
  have hcell := cell_of_one hW1.box
  have hfree := free_of_one hW1.box
  by_cases hj0 : j = 0
  ·have HE0 := HE hj0
   clear HD HE
   subst hj0
   go_wp2
   go_end0
   exact ⟨rfl, v1, by rw [← HE0.out]; exact hW1, hk1, hn1⟩
  ·obtain ⟨i, rfl⟩ : ∃ i, j = i + 1 := ⟨j - 1, by omega⟩
   have ei : ((i + 1 : Nat) : Int) - 1 = (i : Int) := by omega
   rw [ei]
   clear ei
   have hi7 : (i : Int) ≤ 7 := by omega
   have HD1 := HD (by omega)
   have hwr : IntKind.i64.wrap (8 * (i : Int)) = 8 * (i : Int) := by rw [IntKind.wrap_i64]; omega
   have hltr := hW1.lt
   clear HD HE
   go_wp2_with fail
   go_region_law ((refine step_append_lies _ (by rfl) _ _ _ (by rfl) 0 5 i0 _ 1 1 Tryz.underlying73 hi hz0 hz1 hz2 rfl (by omega) v1 l1.length (C8 l1) (by rfl) ((hown.alloc _).drew) ⟨wr.heap.size, 0, none⟩ 1 1 [_] (by rfl) (by rfl) (World.news_of_block (cs := #[_]) (t := 5) (fr := (0, 0)) (heap_alloc_new wr _)) (by simp [Value.oneCell']) (by omega) (by unfold maxLen; omega) (by omega) (by omega) (wr.heap.size + 1) (by simp) ?_; intro g2 cap2 w2 hown2 hgrow2 hat2 hgl2; obtain ⟨hc2, hf2⟩ := ready_store hW1 ((Kept.refl [] wr).alloc _).drew hgrow2))
   all_goals
    have L2 := laid_step hW1 ((Kept.refl [] wr).alloc _).drew (own_of (byte_shr n i) hown2) hgrow2 (new_of hat2)
    have L3 := Laid.trans hk1 hn1 L2
    clear hown2 hgrow2 hat2 hgl2 hc2 hf2 hown hcell hfree hll
    go_wp2
    go_roundw
    case rel => exact ⟨i, by omega, rfl, by have := HD1.out; rw [Nat.add_sub_cancel] at this; rw [this]; exact L3⟩
    case measure => simp [intOf]
theorem wnum_any (p : Nat) (v : Value) (l : List UInt8) (n : Nat) (w : World) (hW : IsW 205 5 w p v l) (hn : n < 18446744073709551616) (hb : l.length + 9 ≤ 140737488355328) :
  Calls Tryz.prog 64 #[.pointer (some ⟨p, 0, none⟩), .int .u64 (n : Int)] w fun e w' => e = .returned (.tuple #[]) ∧ Laid 205 5 w p v (l ++ enc n) w' := by
 by_cases h : n ≤ 247
 ·rw [show enc n = [UInt8.ofNat n] by unfold enc; rw [if_pos h]]
  exact wnum_small p v l n w hW h (by omega)
 ·rw [show enc n = UInt8.ofNat (247 + width n) :: digits (width n) n by unfold enc; rw [if_neg h]]
  exact wnum_great p v l n w _ rfl hW (by omega) hn hb
end Go.Proofs.YtngnenbidpojeaaGreatDoor
namespace Go.Proofs.YtngnenbidpojeaaGreatDoor
set_option maxRecDepth 100000
open Go.RowKit
set_option maxHeartbeats 400000 in
theorem wint_any (p : Nat) (v : Value) (l : List UInt8) (z : Int) (w : World) (hW : IsW 205 5 w p v l) (h1 : -9223372036854775808 ≤ z) (h2 : z ≤ 9223372036854775807) (hb : l.length + 9 ≤ 140737488355328) :
  Calls Tryz.prog 110 #[.pointer (some ⟨p, 0, none⟩), .int .i64 z] w fun e w' => e = .returned (.tuple #[]) ∧ Laid 205 5 w p v (l ++ enc (fold z)) w' := by
 have hf := fold_lt z h1 h2
 go_enter Tryz.func110, Tryz.ntmps110
 go_wp2_with (first | (go_at_call 139; refine (fold_any z _ h1 h2).mono ?_; rintro e w' ⟨rfl, rfl⟩) | (go_at_call 64; refine (wnum_any p v l (fold z) _ hW hf hb).mono ?_; rintro e w' ⟨rfl, hL⟩))
 go_end0
 exact ⟨rfl, hL⟩
set_option maxHeartbeats 1000000 in
theorem wtext_any (p : Nat) (v : Value) (l : List UInt8) (s : ByteArray) (w : World) (hW : IsW 205 5 w p v l) (hb : l.length + 9 + s.size ≤ 140737488355328) :
  Calls Tryz.prog 68 #[.pointer (some ⟨p, 0, none⟩), .string s] w fun e w' => e = .returned (.tuple #[]) ∧ Laid 205 5 w p v (l ++ enc s.size ++ s.data.toList) w' := by
 obtain ⟨i0, hi, hz0, hz1, hz2⟩ := info_parts info5
 have hlt := hW.lt
 have hel := enc_length s.size
 obtain ⟨hel1, hel2⟩ := hel
 go_enter Tryz.func68, Tryz.ntmps68
 go_wp2_with (first | (go_at_call 64; refine (wnum_any p v l s.size _ hW (by omega) (by omega)).mono ?_; rintro e w1 ⟨rfl, v1, hW1, hk1, hn1⟩; have hcell := cell_of_one hW1.box; have hfree := free_of_one hW1.box) | (at_builtin; refine wpList_append_str_lies _ rfl _ _ _ _ rfl 5 i0 Tryz.underlying73 Tryz.underlying9 hi hz0 hz1 hz2 v1 (l ++ enc s.size) rfl hW1.own s rfl (by rw [List.length_append]; omega) ?_; intro a2 n2 c2 w2 hown hgrow hat; obtain ⟨hc2, hf2⟩ := ready_store hW1 (Kept.refl [] w1) hgrow))
 go_end0
 exact ⟨rfl, Laid.trans hk1 hn1 (laid_step hW1 (Kept.refl [] w1) hown hgrow hat)⟩
theorem new_isW (w : World) : IsW 205 5 (w.alloc (.cells #[.slice none 0 0] 205)) w.heap.size (.slice none 0 0) [] :=
 ⟨heap_alloc_new w _, Owns.nil 5 _, by simp [Value.ownBlock]⟩
set_option linter.unusedVariables false
section
variable {w : World}
theorem ReadsJ.kept3 {S : List Nat} {w w' : World} {v : Value} {l : List Int} (h : ReadsJ w v l) (k : Kept S w w') (hn : l ≠ [] → ∀ g, v.ownBlock = some g → g ∉ S) : ReadsJ w' v l := by
 by_cases hl : l = []
 ·subst hl
  obtain ⟨a, cap, h1, h2, h3, h4, h5⟩ := h
  exact ⟨a, cap, h1, h2, h3, h4, fun h => absurd rfl h⟩
 ·exact h.kept k (hn hl)
theorem ReadsJ.ltg {w : World} {v : Value} {l : List Int} (h : ReadsJ w v l) (hl : l ≠ []) {g : Nat} (hg : v.ownBlock = some g) : g < w.heap.size := by
 obtain ⟨g', h1, h2⟩ := h.lt hl
 rw [hg] at h1
 cases h1
 exact h2
theorem encJ_take (l : List Int) (j : Nat) (z : Int) (h : l[j]? = some z) : encJ (l.take (j + 1)) = encJ (l.take j) ++ enc (fold z) := by
 rw [List.take_add_one, h, encJ_append]
 simp [encJ]
set_option maxRecDepth 100000 in
set_option maxHeartbeats 1000000 in
theorem lay27 (p : Nat) (v : Value) (l : List UInt8) (x : Lt) (a : Option Addr) (c : Nat) (hW : IsW 205 5 w p v l) (hx : ReadsJ w (.slice a x.args.length c) x.args) (ha : x.args ≠ [] → ∀ g, (Value.slice a x.args.length c).ownBlock = some g → g ∉ foot p v) (hok : x.ok)
  (hb : l.length + x.fr.length + 9 * x.args.length + 45 ≤ 140737488355328) :
  Calls Tryz.prog 108 #[.pointer (some ⟨p, 0, none⟩), Lv x a c] w fun e w' => e = .returned (.tuple #[]) ∧ Laid 205 5 w p v (l ++ encL x) w' := by
 have e1 := enc_length x.fr.length
 have e2 := enc_length x.ser
 have e3 := enc_length (fold x.kind)
 have e4 := enc_length x.args.length
 have hs : Hid ((⟨x.fr.toArray⟩ : ByteArray).size = x.fr.length) := Hid.mk (by simp [ByteArray.size])
 obtain ⟨-, hac, hcc⟩ := hx.bound
 have HX := Hid.mk hx
 clear hx
 have hfl := fold_lt x.kind hok.kind.1 hok.kind.2
 have hplt := hW.lt
 have hser := hok.ser
 go_enter Tryz.func108, Tryz.ntmps108
 go_wp2_with fail
 obtain ⟨W0, e0, k0, hz0, hb0⟩ := box1 w (.cells #[Sv x.fr, .int .u64 (x.ser : Int), .int .i64 x.kind, .slice a x.args.length c] 81)
 rw [e0]
 clear e0
 have hW0 := hW.kept k0 (by simp) (by simp)
 have HB : Hid (∀ W, Kept (foot p v) W0 W → W.heap[w.heap.size]? = some (.cells #[Sv x.fr, .int .u64 (x.ser : Int), .int .i64 x.kind, .slice a x.args.length c] 81 (0, 0))) := fun W k => k.keeps hb0 (fun hm => by
  rcases mem_foot.1 hm with h | h
  ·omega
  ·have := hW.own.lt h; omega)
 have HA : Hid (∀ W, Kept (foot p v) W0 W → ReadsJ W (.slice a x.args.length c) x.args) := fun W k => HX.out.kept3 ((k0.mono (by simp)).trans k (fun x hx => .inl hx)) ha
 have HE : Hid (∀ W, Laid 205 5 W0 p v (l ++ encL x) W → Laid 205 5 w p v (l ++ encL x) W) := fun W h => Laid.trans (k0.mono (by simp)) (New.refl w v) h
 clear hb0 hz0 hplt k0 hW HX
 refine (wtext_any p v l ⟨x.fr.toArray⟩ W0 hW0 (by rw [hs.out]; omega)).mono ?_
 rintro e w1 ⟨rfl, v1, hW1, k1, n1⟩
 rw [hs.out] at hW1
 change IsW 205 5 w1 p v1 (l ++ enc x.fr.length ++ x.fr) at hW1
 obtain ⟨c0, c1, c2, c3⟩ := cells4 (HB.out _ k1)
 go_wp2_with fail
 refine (wnum_any p v1 _ x.ser w1 hW1 hser (by simp only [List.length_append]; omega)).mono ?_
 rintro e w2 ⟨rfl, L2⟩
 obtain ⟨v2, hW2, k2, n2⟩ := Laid.trans k1 n1 L2
 clear L2 hW1 k1 n1 c0 c1 c2 c3
 obtain ⟨c0, c1, c2, c3⟩ := cells4 (HB.out _ k2)
 go_wp2_with fail
 refine (wint_any p v2 _ x.kind w2 hW2 hok.kind.1 hok.kind.2 (by simp only [List.length_append]; omega)).mono ?_
 rintro e w3 ⟨rfl, L3⟩
 obtain ⟨v3, hW3, k3, n3⟩ := Laid.trans k2 n2 L3
 clear L3 hW2 k2 n2 c0 c1 c2 c3
 obtain ⟨c0, c1, c2, c3⟩ := cells4 (HB.out _ k3)
 go_wp2_with fail
 refine (wnum_any p v3 _ x.args.length w3 hW3 (by omega) (by simp only [List.length_append]; omega)).mono ?_
 rintro e w4 ⟨rfl, L4⟩
 have L4 := Laid.trans k3 n3 L4
 obtain ⟨v4, hW4, k4, n4⟩ := id L4
 clear hW3 k3 n3 c0 c1 c2 c3
 obtain ⟨c0, c1, c2, c3⟩ := cells4 (HB.out _ k4)
 go_wp2_with fail
 clear c0 c1 c2 c3 hW4 k4 n4
 go_loopw [27] (fun i wr => ∃ j : Nat, i = .int .i64 (j : Int) ∧ j ≤ x.args.length ∧ Laid 205 5 W0 p v (l ++ enc x.fr.length ++ x.fr ++ enc x.ser ++ enc (fold x.kind) ++ enc x.args.length ++ encJ (x.args.take j)) wr) (fun i _ => x.args.length - (intOf i).toNat)
 case atStart => exact ⟨0, rfl, by omega, by simpa [encJ] using L4⟩
 case round =>
  obtain ⟨j, rfl, hj, v5, hW5, k5, n5⟩ := hrel
  by_cases hlt : j < x.args.length
  ·obtain ⟨z, hz⟩ : ∃ z, x.args[j]? = some z := ⟨_, List.getElem?_eq_getElem hlt⟩
   obtain ⟨b, o, rfl, hcell⟩ := (HA.out _ k5).at hz
   have hzk := hok.args z (List.mem_of_getElem? hz)
   have HZ := Hid.mk hz
   have hjI : (j : Int) < (x.args.length : Int) := by omega
   have hlj := encJ_length (x.args.take j)
   rw [List.length_take] at hlj
   clear hz
   go_wp2_with fail
   refine (wint_any p v5 _ z _ hW5 hzk.1 hzk.2 (by simp only [List.length_append]; omega)).mono ?_
   rintro e w6 ⟨rfl, L6⟩
   have L6 := Laid.trans k5 n5 L6
   go_wp2_with fail
   go_roundw
   case rel =>
    refine ⟨j + 1, by go_num, by omega, ?_⟩
    rw [encJ_take _ _ _ HZ.out, ← List.append_assoc]
    exact L6
   case measure => simp [intOf]; omega
  ·obtain rfl : j = x.args.length := by omega
   go_wp2
   go_end0
   refine ⟨rfl, HE.out _ ?_⟩
   refine ⟨v5, ?_, k5, n5⟩
   rw [List.take_length] at hW5
   simpa only [encL, List.append_assoc] using hW5
end
section
variable {w : World}
def TwoB (w : World) (B : List UInt8) (E : Int) (e : Ending) (w' : World) : Prop := ∃ v, e = .returned (.tuple #[v, .int .i64 E]) ∧ Owns 5 w' v B ∧ Kept [] w w' ∧ Fresh w v
def encE (x : Lt) : Int := if x.formed = true then 0 else 1
def encB (x : Lt) : List UInt8 := if x.formed = true then encL x else []
theorem fresh_nil (w : World) (c : Nat) : Fresh w (.slice none c 0) := fun g hg => by simp [Value.ownBlock] at hg
theorem newW (w : World) : Calls Tryz.prog 63 #[] w fun e w' => ∃ p, e = .returned (.pointer (some ⟨p, 0, none⟩)) ∧ IsW 205 5 w' p (.slice none 0 0) [] ∧ Kept [] w w' ∧ w.heap.size ≤ p :=
 (new_w w).mono fun e w' ⟨he, hw⟩ => ⟨_, he, by subst hw; exact new_isW w, by subst hw; exact (Kept.refl [] w).alloc _, Nat.le_refl _⟩
theorem foot_nil (p : Nat) : foot p (.slice none 0 0) = [p] := rfl
theorem new_nil {w : World} {v : Value} (h : New w (.slice none 0 0) v) : Fresh w v := fun g hg => by
 rcases h g hg with h1 | h1
 ·simp [Value.ownBlock] at h1
 ·exact h1
end
def LetAt (t : TypeId) (w : World) (p : Nat) (v : Value) (l : List UInt8) (bad : Bool) (e : Ending) (w' : World) : Prop :=
 ∃ (x : Lt) (a : Option Addr) (c : Nat), e = .returned (.tuple #[Lv x a c, .bool (rlet l bad).1.isSome]) ∧ (∀ y, (rlet l bad).1 = some y → x = y) ∧ OwnsJ w' (.slice a x.args.length c) x.args ∧ Fresh w (.slice a x.args.length c) ∧ Rest t w p v (rlet l bad).2.1 (rlet l bad).2.2 w'
structure LS (t : TypeId) (w : World) (p : Nat) (v : Value) (rb lb : Nat) (wi : World) (l : List UInt8) (bad : Bool) (x : Lt) (a : Option Addr) (c : Nat) : Prop where
 rd : ∃ vi, IsR t wi p vi l bad ∧ Within v vi
 lbox : wi.heap[lb]? = some (.cells #[Sv x.fr, .int .u64 (x.ser : Int), .int .i64 x.kind, .slice a x.args.length c] 81 (0, 0))
 rbox : wi.heap[rb]? = some (.cells #[Sv [], .int .u64 0, .int .i64 0, .slice none 0 0] 81 (0, 0))
 own : OwnsJ wi (.slice a x.args.length c) x.args
 fr : ∀ g, (Value.slice a x.args.length c).ownBlock = some g → w.heap.size ≤ g ∧ g ≠ lb ∧ g ≠ rb
 kp : Kept [p] w wi
 hp : p < w.heap.size
 hv : ∀ g, v.ownBlock = some g → g < w.heap.size
 hl : w.heap.size ≤ lb
 hr : w.heap.size ≤ rb
 hlr : lb ≠ rb
section
variable {t : TypeId} {w : World} {p : Nat} {v : Value} {rb lb : Nat} {wi wj : World} {l l' : List UInt8} {bad bad' : Bool} {x : Lt} {a : Option Addr} {c : Nat}
theorem LS.next (s : LS t w p v rb lb wi l bad x a c) {vi : Value} (hV : Within v vi) (h : Rest t wi p vi l' bad' wj) : LS t w p v rb lb wj l' bad' x a c := by
 obtain ⟨vj, hR, k, hW⟩ := h
 have hp := s.hp
 have h1 := s.hl
 have h2 := s.hr
 refine ⟨⟨vj, hR, hV.trans hW⟩, k.keeps s.lbox (by simp; omega), k.keeps s.rbox (by simp; omega), s.own.kept k (fun g hg hm => ?_), s.fr, s.kp.trans k (fun y hy => .inl hy), s.hp, s.hv, s.hl, s.hr, s.hlr⟩
 have := s.fr g hg
 simp at hm
 omega
theorem LS.drew (s : LS t w p v rb lb wi l bad x a c) : LS t w p v rb lb wi.drew l bad x a c := by
 obtain ⟨vi, hR, hV⟩ := s.rd
 exact ⟨⟨vi, ⟨hR.box, hR.reads, hR.apart, hR.none⟩, hV⟩, s.lbox, s.rbox, OwnsJ.kept s.own (Kept.refl [] wi).drew (by simp), s.fr, s.kp.drew, s.hp, s.hv, s.hl, s.hr, s.hlr⟩
theorem LS.turn {S : List Nat} {x' : Lt} {a' : Option Addr} {c' : Nat} (s : LS t w p v rb lb wi l bad x a c) (k : Kept S wi wj) (hS : ∀ y ∈ S, w.heap.size ≤ y ∧ y ≠ rb) (hl : wj.heap[lb]? = some (.cells #[Sv x'.fr, .int .u64 (x'.ser : Int), .int .i64 x'.kind, .slice a' x'.args.length c'] 81 (0, 0)))
  (ho : OwnsJ wj (.slice a' x'.args.length c') x'.args) (hf : ∀ g, (Value.slice a' x'.args.length c').ownBlock = some g → w.heap.size ≤ g ∧ g ≠ lb ∧ g ≠ rb) : LS t w p v rb lb wj l bad x' a' c' := by
 obtain ⟨vi, hR, hV⟩ := s.rd
 have hp := s.hp
 refine ⟨⟨vi, hR.kept k (fun hm => ?_) (fun g hg hm => ?_), hV⟩, hl, k.keeps s.rbox (fun hm => (hS _ hm).2 rfl), ho, hf, s.kp.trans k (fun y hy => .inr (hS y hy).1), s.hp, s.hv, s.hl, s.hr, s.hlr⟩
 ·have := hS _ hm; omega
 ·have := s.hv g (hV g hg)
  have := hS _ hm
  omega
theorem LS.kept0 (s : LS t w p v rb lb wi l bad x a c) (k : Kept [] wi wj) : LS t w p v rb lb wj l bad x a c := s.turn k (by simp) (k.keeps s.lbox (by simp)) (s.own.kept k (by simp)) s.fr
theorem LS.set (s : LS t w p v rb lb wi l bad x a c) {x' : Lt} (u : Value) (k : Nat) (ha : x'.args = x.args) (hl : (wi.setCell ⟨lb, k, none⟩ u).heap[lb]? = some (.cells #[Sv x'.fr, .int .u64 (x'.ser : Int), .int .i64 x'.kind, .slice a x'.args.length c] 81 (0, 0))) : LS t w p v rb lb (wi.setCell ⟨lb, k, none⟩ u) l bad x' a c := by
 have kk := (Kept.refl [lb] wi).setCell (p := ⟨lb, k, none⟩) (.inl (by simp)) u
 refine s.turn kk (fun y hy => by simp at hy; subst hy; exact ⟨s.hl, s.hlr⟩) hl ?_ (by rw [ha]; exact s.fr)
 rw [ha]
 exact s.own.kept kk (fun g hg hm => by have := s.fr g hg; simp at hm; omega)
theorem LS.set0 (s : LS t w p v rb lb wi l bad x a c) (fr : List UInt8) : LS t w p v rb lb (wi.setCell ⟨lb, 0, none⟩ (Sv fr)) l bad ⟨fr, x.ser, x.kind, x.args⟩ a c := s.set _ 0 rfl (set4_0 s.lbox)
theorem LS.set1 (s : LS t w p v rb lb wi l bad x a c) (n : Nat) : LS t w p v rb lb (wi.setCell ⟨lb, 1, none⟩ (.int .u64 (n : Int))) l bad ⟨x.fr, n, x.kind, x.args⟩ a c := s.set _ 1 rfl (set4_1 s.lbox)
theorem LS.set2 (s : LS t w p v rb lb wi l bad x a c) (z : Int) : LS t w p v rb lb (wi.setCell ⟨lb, 2, none⟩ (.int .i64 z)) l bad ⟨x.fr, x.ser, z, x.args⟩ a c := s.set _ 2 rfl (set4_2 s.lbox)
theorem LS.app (s : LS t w p v rb lb wi l bad x a c) (z : Int) (hn : x.args.length ≤ 100000) : ∃ a' c' w2, (Builtin.append_ #[79, 79] 79 #[.slice a x.args.length c, .slice (some ⟨wi.heap.size, 0, none⟩) 1 1]).run Tryz.prog (wi.alloc (.cells #[.int .i64 z] 2)) = .ok (.slice a' (x.args.length + 1) c') w2
  ∧ w2.cell? ⟨lb, 3, none⟩ = some (.slice a x.args.length c) ∧ w2.frozen? ⟨lb, 3, none⟩ = false ∧ LS t w p v rb lb (w2.setCell ⟨lb, 3, none⟩ (.slice a' (x.args.length + 1) c')) l bad ⟨x.fr, x.ser, x.kind, x.args ++ [z]⟩ a' c' := by
 obtain ⟨a', c', w2, hrun, ho, k, hN⟩ := append_rowR rt23 s.own [.int .i64 z] rfl (fun u hu => by simp at hu; subst hu; rfl) (by rw [CJ_length]; omega) 2 (0, 0) 79
 rw [CJ_length] at *
 have hlb := lt_of_block s.lbox
 have hrb := lt_of_block s.rbox
 have hb := k.keeps s.lbox (fun hm => by rw [Option.mem_toList] at hm; have := s.fr _ hm; omega)
 have hz := k.size
 have hf : ∀ g, (Value.slice a' (x.args.length + 1) c').ownBlock = some g → w.heap.size ≤ g ∧ g ≠ lb ∧ g ≠ rb := fun g hg => by
  rcases hN g hg with h | h
  ·exact s.fr g h
  ·have := s.kp.size; exact ⟨by omega, by omega, by omega⟩
 refine ⟨a', c', w2, hrun, (cells4 hb).2.2.2, (free4 hb).2.2.2, ?_⟩
 have e : x.args.length + 1 = (x.args ++ [z]).length := by simp
 have k2 := (Kept.refl [lb] w2).setCell (p := ⟨lb, 3, none⟩) (.inl (by simp)) (.slice a' (x.args.length + 1) c')
 have kk : Kept (lb :: (Value.slice a x.args.length c).ownBlock.toList) wi (w2.setCell ⟨lb, 3, none⟩ (.slice a' (x.args.length + 1) c')) := (k.mono (fun y hy => .inl (by simp [hy]))).trans k2 (fun y hy => .inl (by simp at hy; simp [hy]))
 have ho2 : OwnsR 2 1 (w2.setCell ⟨lb, 3, none⟩ (.slice a' (x.args.length + 1) c')) (.slice a' (x.args.length + 1) c') (CJ x.args ++ [[.int .i64 z]]) := OwnsR.kept ho k2 (fun g hg hm => by have := hf g hg; simp at hm; omega)
 refine s.turn kk (fun y hy => ?_) ?_ ?_ ?_
 ·simp at hy
  rcases hy with rfl | hy
  ·exact ⟨s.hl, s.hlr⟩
  ·have := s.fr y hy; exact ⟨this.1, this.2.2⟩
 ·have := set4_3 (x := .slice a' (x.args.length + 1) c') hb
  simpa using this
 ·have : CJ (x.args ++ [z]) = CJ x.args ++ [[.int .i64 z]] := by simp [CJ]
  unfold OwnsJ
  rw [this, ← e]
  exact ho2
 ·rw [← e]
  exact hf
theorem LS.rest (s : LS t w p v rb lb wi l' bad' x a c) (k : Kept [rb] wi wj) : Rest t w p v l' bad' wj ∧ OwnsJ wj (.slice a x.args.length c) x.args ∧ Fresh w (.slice a x.args.length c) := by
 obtain ⟨vi, hR, hV⟩ := s.rd
 have hp := s.hp
 have hr := s.hr
 refine ⟨⟨vi, hR.kept k (by simp; omega) (fun g hg hm => ?_), s.kp.trans k (fun y hy => by simp at hy; subst hy; exact .inr hr), hV⟩, s.own.kept k (fun g hg hm => ?_), fun g hg => (s.fr g hg).1⟩
 ·have := s.hv g (hV g hg)
  simp at hm
  omega
 ·have := (s.fr g hg).2.2
  simp at hm
  exact this hm
theorem LS.done (s : LS t w p v rb lb wi l' bad' x a c) (k : Kept [rb] wi wj) (h : rlet l bad = (some x, l', bad')) : LetAt t w p v l bad (.returned (.tuple #[Lv x a c, .bool true])) wj := by
 obtain ⟨h1, h2, h3⟩ := s.rest k
 unfold LetAt
 rw [h]
 exact ⟨x, a, c, rfl, fun y hy => by simpa using hy, h2, h3, h1⟩
theorem LS.fail (s : LS t w p v rb lb wi l' bad' x a c) (k : Kept [rb] wi wj) (h : rlet l bad = (none, l', bad')) : LetAt t w p v l bad (.returned (.tuple #[Lv ⟨[], 0, 0, []⟩ none 0, .bool false])) wj := by
 obtain ⟨h1, h2, h3⟩ := s.rest k
 unfold LetAt
 rw [h]
 exact ⟨_, none, 0, rfl, fun y hy => by simp at hy, OwnsJ.nil wj, fun g hg => by simp [Value.ownBlock] at hg, h1⟩
end
end Go.Proofs.YtngnenbidpojeaaGreatDoor
