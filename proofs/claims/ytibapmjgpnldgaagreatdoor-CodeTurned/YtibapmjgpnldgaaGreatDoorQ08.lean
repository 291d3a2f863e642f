import Derived.Test.YtibapmjgpnldgaaGreatDoorQ07
/-
  The document's own Number, Int and Text, as the statements have them: what they lay behind a slice of their own.
-/
namespace Go.Proofs.YtibapmjgpnldgaaGreatDoor
set_option maxRecDepth 100000
open Go.RowKit
/-- What 'append' to v leaves: a slice that owns l, in v's row or in new memory; no other old block has turned. -/
def Grew (e : TypeId) (w : World) (v : Value) (l : List UInt8) (v' : Value) (w' : World) : Prop :=
  Owns e w' v' l ∧ Kept v.ownBlock.toList w w' ∧ New w v v'
theorem Grew.trans {e : TypeId} {w w1 w2 : World} {v v1 v2 : Value} {l2 : List UInt8} (k : Kept v.ownBlock.toList w w1) (hn : New w v v1) (h2 : Grew e w1 v1 l2 v2 w2) : Grew e w v l2 v2 w2 := by
  obtain ⟨h1, k2, n2⟩ := h2
  refine ⟨h1, k.trans k2 ?_, hn.trans n2 k.size⟩
  intro x hx
  rw [Option.mem_toList] at hx
  rcases hn x hx with h | h
  · exact .inl (by rw [Option.mem_toList]; exact h)
  · exact .inr h
theorem grew_step {e : TypeId} {w w0 w1 : World} {v v1 : Value} {l1 : List UInt8} (k0 : Kept [] w w0) (hown : Owns e w1 v1 l1) (hg : w0.grownBy w1 v.ownBlock) (hat : New w v v1) : Grew e w v l1 v1 w1 :=
  ⟨hown, (k0.mono (by simp)).grown hg (fun k hk => .inl (by rw [Option.mem_toList]; exact hk)), hat⟩
set_option maxRecDepth 100000 in
set_option maxHeartbeats 1000000 in
theorem refnum_small (v : Value) (l : List UInt8) (n : Nat) (w : World) (hW : Owns 5 w v l) (hn : n ≤ 247) (hb : l.length + 1 ≤ 140737488355328) :
    Calls Tryz.prog 41 #[v, .int .u64 (n : Int)] w fun e w' => ∃ v', e = .returned v' ∧ Grew 5 w v (l ++ [UInt8.ofNat n]) v' w' := by
  obtain ⟨i0, hi, hz0, hz1, hz2⟩ := info_parts info5
  have hown : w.ownsRow 0 5 1 v l.length (C8 l) := hW
  go_enter Tryz.func41, Tryz.ntmps41
  go_wp2_with (at_builtin; refine wpList_append_lies _ rfl _ _ _ rfl 0 5 i0 _ 1 1 Tryz.underlying35 hi hz0 hz1 hz2 rfl (by omega) v l.length (C8 l) rfl (hown.alloc _) ⟨w.heap.size, 0, none⟩ 1 1 [.int .u8 (n : Int)] rfl rfl (World.news_of_block (cs := #[.int .u8 (n : Int)]) (t := 5) (fr := (0, 0)) (heap_alloc_new w _)) (by simp [Value.oneCell']) (by omega) (by unfold maxLen; omega) (by omega) (by omega) (w.heap.size + 1) (by simp) ?_; intro g cap w1 hown1 hgrow hat hgl)
  go_ret
  exact ⟨_, rfl, grew_step ((Kept.refl [] w).alloc _) (own_of (by omega) hown1) hgrow (new_of hat)⟩
theorem shr_pos (n j : Nat) (h : 256 ^ j ≤ n) : (0 : Int) < (n : Int) / 2 ^ (8 * j) := by
  have e3 : (256 : Nat) ^ j = 2 ^ (8 * j) := by rw [show (256 : Nat) = 2 ^ 8 from rfl, ← Nat.pow_mul]
  have e5 : ((n : Int) / 2 ^ (8 * j)) = ((n / 2 ^ (8 * j) : Nat) : Int) := by simp
  rw [e5]
  have := Nat.div_pos (by rw [← e3]; exact h) (Nat.two_pow_pos (8 * j))
  omega
theorem shr_zero (n j : Nat) (h : n < 256 ^ j) : ¬ (0 : Int) < (n : Int) / 2 ^ (8 * j) := by
  have e3 : (256 : Nat) ^ j = 2 ^ (8 * j) := by rw [show (256 : Nat) = 2 ^ 8 from rfl, ← Nat.pow_mul]
  have e5 : ((n : Int) / 2 ^ (8 * j)) = ((n / 2 ^ (8 * j) : Nat) : Int) := by simp
  rw [e5]
  have := Nat.div_eq_of_lt (by rw [← e3]; exact h : n < 2 ^ (8 * j))
  omega
theorem byte_shr' (n i : Nat) : (n : Int) / 2 ^ (8 * i) % 256 = ((n / 256 ^ i % 256 : Nat) : Int) := by
  have e3 : (256 : Nat) ^ i = 2 ^ (8 * i) := by rw [show (256 : Nat) = 2 ^ 8 from rfl, ← Nat.pow_mul]
  have e5 : ((n : Int) / 2 ^ (8 * i)) = ((n / 2 ^ (8 * i) : Nat) : Int) := by simp
  rw [e5, e3]
  omega
theorem width_at (n j : Nat) (hn : n < 18446744073709551616) (hj : j < width n) (h1 : 1 ≤ j) : 256 ^ j ≤ n := by
  by_cases h : 256 ≤ n
  · exact Nat.le_trans (Nat.pow_le_pow_right (by omega) (by omega)) (width_ge n h)
  · have : width n = 1 := by simp [width]; omega
    omega
set_option maxRecDepth 100000 in
set_option maxHeartbeats 2000000 in
theorem refnum_great (v : Value) (l : List UInt8) (n : Nat) (w : World) (hd : UInt8) (hhd : Hid (hd = UInt8.ofNat (247 + width n))) (hW : Owns 5 w v l) (hn : 248 ≤ n) (hn2 : n < 18446744073709551616) (hb : l.length + 9 ≤ 140737488355328) :
    Calls Tryz.prog 41 #[v, .int .u64 (n : Int)] w fun e w' => ∃ v', e = .returned v' ∧ Grew 5 w v (l ++ (hd :: digits (width n) n)) v' w' := by
  obtain ⟨i0, hi, hz0, hz1, hz2⟩ := info_parts info5
  have hown : w.ownsRow 0 5 1 v l.length (C8 l) := hW
  have hwp := width_pos n
  obtain ⟨hw1, hw8⟩ := hwp
  go_enter Tryz.func41, Tryz.ntmps41
  go_wp2
  go_loop [5] (fun i => ∃ j : Nat, 1 ≤ j ∧ j ≤ width n ∧ i = .int .i64 (j : Int)) (fun i => 9 - (intOf i).toNat)
  case atStart => exact ⟨1, Nat.le_refl _, hw1, rfl⟩
  case round =>
    obtain ⟨j, hj1, hj2, rfl⟩ := hrel
    by_cases hjw : j < width n
    · have a1 : (j : Int) < 8 := by omega
      have a2 := shr_pos n j (width_at n j hn2 hjw hj1)
      go_wp2
      go_round
      case rel => exact ⟨j + 1, by omega, by omega, by go_num⟩
      case measure => simp [intOf]; omega
    · have hje : j = width n := by omega
      subst hje
      clear hjw hj1 hj2
      have a2 := shr_zero n (width n) (width_lt n hn2)
      by_cases h8 : (width n : Int) < 8
      all_goals
        go_wp2_with (at_builtin; refine wpList_append_lies _ rfl _ _ _ rfl 0 5 i0 _ 1 1 Tryz.underlying35 hi hz0 hz1 hz2 rfl (by omega) v l.length (C8 l) rfl (hown.alloc _) ⟨w.heap.size, 0, none⟩ 1 1 [.int .u8 (247 + (width n : Int))] rfl rfl (World.news_of_block (cs := #[.int .u8 (247 + (width n : Int))]) (t := 5) (fr := (0, 0)) (heap_alloc_new w _)) (by simp [Value.oneCell']) (by omega) (by unfold maxLen; omega) (by omega) (by omega) (w.heap.size + 1) (by simp) ?_; intro g cap w1 hown1 hgrow hat hgl)
        have L1 := grew_step (w := w) ((Kept.refl [] w).alloc _) (own_of (n := 247 + width n) (by omega) hown1) hgrow (new_of hat)
        rw [← hhd.out] at L1
        clear hown1 hgrow hat hgl a2 h8
        go_loopw [0, 6] (fun bv i wr => ∃ j : Nat, j ≤ width n ∧ i = .int .i64 ((j : Int) - 1) ∧ Grew 5 w v (l ++ [hd] ++ (digits (width n) n).take (width n - j)) bv wr) (fun _ i _ => (intOf i + 1).toNat)
        case atStart => exact ⟨width n, Nat.le_refl _, rfl, by simpa using L1⟩
        case round =>
          obtain ⟨j, hj, rfl, hW1, hk1, hn1⟩ := hrel
          clear L1
          have hll : (l ++ [hd] ++ (digits (width n) n).take (width n - j)).length ≤ l.length + 8 + 1 - j := by
            simp only [List.length_append, List.length_take, digits_length, List.length_cons, List.length_nil]; omega
          have HD : 1 ≤ j → Hid (l ++ [hd] ++ (digits (width n) n).take (width n - (j - 1)) = l ++ [hd] ++ (digits (width n) n).take (width n - j) ++ [UInt8.ofNat (n / 256 ^ (j - 1))]) := fun h1 => by
            show _ = _
            rw [digits_take (width n) n j h1 hj, List.append_assoc _ (List.take _ _)]
          have HE : j = 0 → Hid (l ++ [hd] ++ (digits (width n) n).take (width n - j) = l ++ (hd :: digits (width n) n)) := by
            rintro rfl
            show _ = _
            rw [Nat.sub_zero, List.take_of_length_le (by rw [digits_length]; exact Nat.le_refl _)]; simp
          generalize (l ++ [hd] ++ (digits (width n) n).take (width n - j)) = l1 at hW1 hll HD HE
          have hown1 : wr.ownsRow 0 5 1 u0 l1.length (C8 l1) := hW1
          by_cases hj0 : j = 0
          · have HE0 := HE hj0
            clear HD HE
            subst hj0
            go_wp2
            go_ret
            exact ⟨u0, rfl, by rw [← HE0.out]; exact hW1, hk1, hn1⟩
          · obtain ⟨i, rfl⟩ : ∃ i, j = i + 1 := ⟨j - 1, by omega⟩
            have ei : ((i + 1 : Nat) : Int) - 1 = (i : Int) := by omega
            rw [ei]
            clear ei
            have hi7 : (i : Int) ≤ 7 := by omega
            have HD1 := HD (by omega)
            clear HD HE
            go_wp2_with (at_builtin; refine wpList_append_lies _ rfl _ _ _ rfl 0 5 i0 _ 1 1 Tryz.underlying35 hi hz0 hz1 hz2 rfl (by omega) u0 l1.length (C8 l1) rfl (hown1.alloc _) ⟨wr.heap.size, 0, none⟩ 1 1 [_] rfl rfl (World.news_of_block (cs := #[_]) (t := 5) (fr := (0, 0)) (heap_alloc_new wr _)) (by simp [Value.oneCell']) (by omega) (by unfold maxLen; omega) (by omega) (by omega) (wr.heap.size + 1) (by simp) ?_; intro g2 cap2 w2 hown2 hgrow2 hat2 hgl2)
            have L2 := grew_step (w := wr) ((Kept.refl [] wr).alloc _) (own_of (byte_shr' n i) hown2) hgrow2 (new_of hat2)
            have L3 := Grew.trans hk1 hn1 L2
            refine ⟨⟨i, by omega, rfl, ?_⟩, by simp [intOf]⟩
            have h := HD1.out
            rw [Nat.add_sub_cancel] at h
            rw [h]
            exact L3
/-- The document's Number: a number's bytes behind others. -/
theorem refnum_any (v : Value) (l : List UInt8) (n : Nat) (w : World) (hW : Owns 5 w v l) (hn : n < 18446744073709551616) (hb : l.length + 9 ≤ 140737488355328) :
    Calls Tryz.prog 41 #[v, .int .u64 (n : Int)] w fun e w' => ∃ v', e = .returned v' ∧ Grew 5 w v (l ++ enc n) v' w' := by
  by_cases h : n ≤ 247
  · rw [show enc n = [UInt8.ofNat n] by unfold enc; rw [if_pos h]]
    exact refnum_small v l n w hW h (by omega)
  · rw [show enc n = UInt8.ofNat (247 + width n) :: digits (width n) n by unfold enc; rw [if_neg h]]
    exact refnum_great v l n w _ rfl hW (by omega) hn hb
set_option maxHeartbeats 1000000 in
/-- The document's Text. -/
theorem reftext_any (v : Value) (l : List UInt8) (s : ByteArray) (w : World) (hW : Owns 5 w v l) (hb : l.length + 9 + s.size ≤ 140737488355328) :
    Calls Tryz.prog 42 #[v, .string s] w fun e w' => ∃ v', e = .returned v' ∧ Grew 5 w v (l ++ enc s.size ++ s.data.toList) v' w' := by
  obtain ⟨i0, hi, hz0, hz1, hz2⟩ := info_parts info5
  have hel := enc_length s.size
  obtain ⟨hel1, hel2⟩ := hel
  go_enter Tryz.func42, Tryz.ntmps42
  go_wp2_with (first | (go_at_call 41; refine (refnum_any v l s.size _ hW (by omega) (by omega)).mono ?_; rintro e w1 ⟨v1, rfl, hW1, hk1, hn1⟩) | (at_builtin; refine wpList_append_str_lies _ rfl _ _ _ _ rfl 5 i0 Tryz.underlying35 Tryz.underlying9 hi hz0 hz1 hz2 v1 (l ++ enc s.size) rfl hW1 s rfl (by rw [List.length_append]; omega) ?_; intro a2 n2 c2 w2 hown hgrow hat))
  go_ret
  exact ⟨_, rfl, Grew.trans hk1 hn1 (grew_step (Kept.refl [] w1) hown hgrow hat)⟩
set_option maxHeartbeats 1000000 in
/-- The document's Int. -/
theorem refint_any (v : Value) (l : List UInt8) (z : Int) (w : World) (hW : Owns 5 w v l) (h1 : -9223372036854775808 ≤ z) (h2 : z ≤ 9223372036854775807) (hb : l.length + 9 ≤ 140737488355328) :
    Calls Tryz.prog 43 #[v, .int .i64 z] w fun e w' => ∃ v', e = .returned v' ∧ Grew 5 w v (l ++ enc (fold z)) v' w' := by
  by_cases h : 0 ≤ z
  · have HF : Hid (z * 2 = ((fold z : Nat) : Int)) := by show _ = _; unfold fold; split <;> omega
    go_enter Tryz.func43, Tryz.ntmps43
    go_wp2_with fail
    rw [HF.out]
    refine (refnum_any v l (fold z) _ hW (fold_lt z h1 h2) hb).mono ?_
    rintro e w1 ⟨v1, rfl, hG⟩
    go_wp2_with fail
    go_ret
    exact ⟨v1, rfl, hG⟩
  · have HF : Hid (bits .or .u64 ((-(z + 1)) * 2) 1 = ((fold z : Nat) : Int)) := by
      show _ = _
      obtain ⟨m, hm⟩ := Int.eq_ofNat_of_zero_le (show (0 : Int) ≤ -(z + 1) by omega)
      have h3 := u64_or_nat (m * 2) 1 (by omega) (by omega)
      have e := Nat.two_pow_add_eq_or_of_lt (b := 1) (i := 1) (by omega) m
      rw [show (2 : Nat) ^ 1 * m = m * 2 by omega] at e
      rw [← e] at h3
      rw [hm]
      have h4 : ((m * 2 : Nat) : Int) = (m : Int) * 2 := by omega
      rw [h4] at h3
      have h5 : (((1 : Nat) : Int)) = 1 := rfl
      rw [h5] at h3
      rw [h3]
      unfold fold; split <;> omega
    go_enter Tryz.func43, Tryz.ntmps43
    go_wp2_with fail
    rw [HF.out]
    refine (refnum_any v l (fold z) _ hW (fold_lt z h1 h2) hb).mono ?_
    rintro e w1 ⟨v1, rfl, hG⟩
    go_wp2_with fail
    go_ret
    exact ⟨v1, rfl, hG⟩
end Go.Proofs.YtibapmjgpnldgaaGreatDoor
