import Derived.OpenShut
import Derived.Deep.QuietTactic
import Derived.BigQuiet
import Derived.IntWalk
import Derived.Test.YthlemapneangeaaV02
/-
  The document's own Number, Int and Text, as the statements have them: what they lay behind a slice of their own.
-/
namespace Go.Proofs.Ythlemapneangeaa
set_option maxRecDepth 100000
open Go.RowKit
/-- What 'append' to v leaves: a slice that owns l, in v's row or in new memory; no other old block has turned. -/
def Grew (e : TypeId) (w : World) (v : Value) (l : List UInt8) (v' : Value) (w' : World) : Prop :=
  Owns e w' v' l ∧ Kept v.ownBlock.toList w w' ∧ New w v v'
theorem Grew.trans {e : TypeId} {w w1 w2 : World} {v v1 v2 : Value} {l2 : List UInt8} (k : Kept v.ownBlock.toList w w1) (hn : New w v v1) (h2 : Grew e w1 v1 l2 v2 w2) : Grew e w v l2 v2 w2 := by
  obtain ⟨h1, k2, n2⟩ := h2
  refine ⟨h1, k.trans k2 ?_, hn.trans n2 k.size⟩
  intro x hx
  rw [Option.mem_toList] at hx
  rcases hn x hx with h | h
  · exact .inl (by rw [Option.mem_toList]; exact h)
  · exact .inr h
theorem grew_step {e : TypeId} {w w0 w1 : World} {v v1 : Value} {l1 : List UInt8} (k0 : Kept [] w w0) (hown : Owns e w1 v1 l1) (hg : w0.grownBy w1 v.ownBlock) (hat : New w v v1) : Grew e w v l1 v1 w1 :=
  ⟨hown, (k0.mono (by simp)).grown hg (fun k hk => .inl (by rw [Option.mem_toList]; exact hk)), hat⟩
set_option maxRecDepth 100000 in
set_option maxHeartbeats 1000000 in
theorem refnum_small (v : Value) (l : List UInt8) (n : Nat) (w : World) (hW : Owns 5 w v l) (hn : n ≤ 247) (hb : l.length + 1 ≤ 140737488355328) :
    Calls Try.prog 41 #[v, .int .u64 (n : Int)] w fun e w' => ∃ v', e = .returned v' ∧ Grew 5 w v (l ++ [UInt8.ofNat n]) v' w' := by
  obtain ⟨i0, hi, hz0, hz1, hz2⟩ := info_parts info5
  have hown : w.ownsRow 0 5 1 v l.length (C8 l) := hW
  go_enter Try.func41, Try.ntmps41
  go_wp2_with (at_builtin; refine wpList_append_lies _ rfl _ _ _ rfl 0 5 i0 _ 1 1 Try.underlying34 hi hz0 hz1 hz2 rfl (by omega) v l.length (C8 l) rfl (hown.alloc _) ⟨w.heap.size, 0, none⟩ 1 1 [.int .u8 (n : Int)] rfl rfl (World.news_of_block (cs := #[.int .u8 (n : Int)]) (t := 5) (fr := (0, 0)) (heap_alloc_new w _)) (by simp [Value.oneCell']) (by omega) (by unfold maxLen; omega) (by omega) (by omega) (w.heap.size + 1) (by simp) ?_; intro g cap w1 hown1 hgrow hat hgl)
  go_ret
  exact ⟨_, rfl, grew_step ((Kept.refl [] w).alloc _) (own_of (by omega) hown1) hgrow (new_of hat)⟩
theorem shr_pos (n j : Nat) (h : 256 ^ j ≤ n) : (0 : Int) < (n : Int) / 2 ^ (8 * j) := by
  have e3 : (256 : Nat) ^ j = 2 ^ (8 * j) := by rw [show (256 : Nat) = 2 ^ 8 from rfl, ← Nat.pow_mul]
  have e5 : ((n : Int) / 2 ^ (8 * j)) = ((n / 2 ^ (8 * j) : Nat) : Int) := by simp
  rw [e5]
  have := Nat.div_pos (by rw [← e3]; exact h) (Nat.two_pow_pos (8 * j))
  omega
theorem shr_zero (n j : Nat) (h : n < 256 ^ j) : ¬ (0 : Int) < (n : Int) / 2 ^ (8 * j) := by
  have e3 : (256 : Nat) ^ j = 2 ^ (8 * j) := by rw [show (256 : Nat) = 2 ^ 8 from rfl, ← Nat.pow_mul]
  have e5 : ((n : Int) / 2 ^ (8 * j)) = ((n / 2 ^ (8 * j) : Nat) : Int) := by simp
  rw [e5]
  have := Nat.div_eq_of_lt (by rw [← e3]; exact h : n < 2 ^ (8 * j))
  omega
theorem byte_shr' (n i : Nat) : (n : Int) / 2 ^ (8 * i) % 256 = ((n / 256 ^ i % 256 : Nat) : Int) := by
  have e3 : (256 : Nat) ^ i = 2 ^ (8 * i) := by rw [show (256 : Nat) = 2 ^ 8 from rfl, ← Nat.pow_mul]
  have e5 : ((n : Int) / 2 ^ (8 * i)) = ((n / 2 ^ (8 * i) : Nat) : Int) := by simp
  rw [e5, e3]
  omega
theorem width_at (n j : Nat) (hn : n < 18446744073709551616) (hj : j < width n) (h1 : 1 ≤ j) : 256 ^ j ≤ n := by
  by_cases h : 256 ≤ n
  · exact Nat.le_trans (Nat.pow_le_pow_right (by omega) (by omega)) (width_ge n h)
  · have : width n = 1 := by simp [width]; omega
    omega
set_option maxRecDepth 100000 in
set_option maxHeartbeats 2000000 in
theorem refnum_great (v : Value) (l : List UInt8) (n : Nat) (w : World) (hd : UInt8) (hhd : Hid (hd = UInt8.ofNat (247 + width n))) (hW : Owns 5 w v l) (hn : 248 ≤ n) (hn2 : n < 18446744073709551616) (hb : l.length + 9 ≤ 140737488355328) :
    Calls Try.prog 41 #[v, .int .u64 (n : Int)] w fun e w' => ∃ v', e = .returned v' ∧ Grew 5 w v (l ++ (hd :: digits (width n) n)) v' w' := by
  obtain ⟨i0, hi, hz0, hz1, hz2⟩ := info_parts info5
  have hown : w.ownsRow 0 5 1 v l.length (C8 l) := hW
  have hwp := width_pos n
  obtain ⟨hw1, hw8⟩ := hwp
  go_enter Try.func41, Try.ntmps41
  go_wp2
  go_loop [5] (fun i => ∃ j : Nat, 1 ≤ j ∧ j ≤ width n ∧ i = .int .i64 (j : Int)) (fun i => 9 - (intOf i).toNat)
  case atStart => exact ⟨1, Nat.le_refl _, hw1, rfl⟩
  case round =>
    obtain ⟨j, hj1, hj2, rfl⟩ := hrel
    by_cases hjw : j < width n
    · have a1 : (j : Int) < 8 := by omega
      have a2 := shr_pos n j (width_at n j hn2 hjw hj1)
      go_wp2
      go_round
      case rel => exact ⟨j + 1, by omega, by omega, by go_num⟩
      case measure => simp [intOf]; omega
    · have hje : j = width n := by omega
      subst hje
      clear hjw hj1 hj2
      have a2 := shr_zero n (width n) (width_lt n hn2)
      by_cases h8 : (width n : Int) < 8
      all_goals
        go_wp2_with (at_builtin; refine wpList_append_lies _ rfl _ _ _ rfl 0 5 i0 _ 1 1 Try.underlying34 hi hz0 hz1 hz2 rfl (by omega) v l.length (C8 l) rfl (hown.alloc _) ⟨w.heap.size, 0, none⟩ 1 1 [.int .u8 (247 + (width n : Int))] rfl rfl (World.news_of_block (cs := #[.int .u8 (247 + (width n : Int))]) (t := 5) (fr := (0, 0)) (heap_alloc_new w _)) (by simp [Value.oneCell']) (by omega) (by unfold maxLen; omega) (by omega) (by omega) (w.heap.size + 1) (by simp) ?_; intro g cap w1 hown1 hgrow hat hgl)
        have L1 := grew_step (w := w) ((Kept.refl [] w).alloc _) (own_of (n := 247 + width n) (by omega) hown1) hgrow (new_of hat)
        rw [← hhd.out] at L1
        clear hown1 hgrow hat hgl a2 h8
        go_loopw [0, 6] (fun bv i wr => ∃ j : Nat, j ≤ width n ∧ i = .int .i64 ((j : Int) - 1) ∧ Grew 5 w v (l ++ [hd] ++ (digits (width n) n).take (width n - j)) bv wr) (fun _ i _ => (intOf i + 1).toNat)
        case atStart => exact ⟨width n, Nat.le_refl _, rfl, by simpa using L1⟩
        case round =>
          obtain ⟨j, hj, rfl, hW1, hk1, hn1⟩ := hrel
          clear L1
          have hll : (l ++ [hd] ++ (digits (width n) n).take (width n - j)).length ≤ l.length + 8 + 1 - j := by
            simp only [List.length_append, List.length_take, digits_length, List.length_cons, List.length_nil]; omega
          have HD : 1 ≤ j → Hid (l ++ [hd] ++ (digits (width n) n).take (width n - (j - 1)) = l ++ [hd] ++ (digits (width n) n).take (width n - j) ++ [UInt8.ofNat (n / 256 ^ (j - 1))]) := fun h1 => by
            show _ = _
            rw [digits_take (width n) n j h1 hj, List.append_assoc _ (List.take _ _)]
          have HE : j = 0 → Hid (l ++ [hd] ++ (digits (width n) n).take (width n - j) = l ++ (hd :: digits (width n) n)) := by
            rintro rfl
            show _ = _
            rw [Nat.sub_zero, List.take_of_length_le (by rw [digits_length]; exact Nat.le_refl _)]; simp
          generalize (l ++ [hd] ++ (digits (width n) n).take (width n - j)) = l1 at hW1 hll HD HE
          have hown1 : wr.ownsRow 0 5 1 u0 l1.length (C8 l1) := hW1
          by_cases hj0 : j = 0
          · have HE0 := HE hj0
            clear HD HE
            subst hj0
            go_wp2
            go_ret
            exact ⟨u0, rfl, by rw [← HE0.out]; exact hW1, hk1, hn1⟩
          · obtain ⟨i, rfl⟩ : ∃ i, j = i + 1 := ⟨j - 1, by omega⟩
            have ei : ((i + 1 : Nat) : Int) - 1 = (i : Int) := by omega
            rw [ei]
            clear ei
            have hi7 : (i : Int) ≤ 7 := by omega
            have HD1 := HD (by omega)
            clear HD HE
            go_wp2_with (at_builtin; refine wpList_append_lies _ rfl _ _ _ rfl 0 5 i0 _ 1 1 Try.underlying34 hi hz0 hz1 hz2 rfl (by omega) u0 l1.length (C8 l1) rfl (hown1.alloc _) ⟨wr.heap.size, 0, none⟩ 1 1 [_] rfl rfl (World.news_of_block (cs := #[_]) (t := 5) (fr := (0, 0)) (heap_alloc_new wr _)) (by simp [Value.oneCell']) (by omega) (by unfold maxLen; omega) (by omega) (by omega) (wr.heap.size + 1) (by simp) ?_; intro g2 cap2 w2 hown2 hgrow2 hat2 hgl2)
            have L2 := grew_step (w := wr) ((Kept.refl [] wr).alloc _) (own_of (byte_shr' n i) hown2) hgrow2 (new_of hat2)
            have L3 := Grew.trans hk1 hn1 L2
            refine ⟨⟨i, by omega, rfl, ?_⟩, by simp [intOf]⟩
            have h := HD1.out
            rw [Nat.add_sub_cancel] at h
            rw [h]
            exact L3
/-- The document's Number: a number's bytes behind others. -/
theorem refnum_any (v : Value) (l : List UInt8) (n : Nat) (w : World) (hW : Owns 5 w v l) (hn : n < 18446744073709551616) (hb : l.length + 9 ≤ 140737488355328) :
    Calls Try.prog 41 #[v, .int .u64 (n : Int)] w fun e w' => ∃ v', e = .returned v' ∧ Grew 5 w v (l ++ enc n) v' w' := by
  by_cases h : n ≤ 247
  · rw [show enc n = [UInt8.ofNat n] by unfold enc; rw [if_pos h]]
    exact refnum_small v l n w hW h (by omega)
  · rw [show enc n = UInt8.ofNat (247 + width n) :: digits (width n) n by unfold enc; rw [if_neg h]]
    exact refnum_great v l n w _ rfl hW (by omega) hn hb
set_option maxHeartbeats 1000000 in
/-- The document's Text. -/
theorem reftext_any (v : Value) (l : List UInt8) (s : ByteArray) (w : World) (hW : Owns 5 w v l) (hb : l.length + 9 + s.size ≤ 140737488355328) :
    Calls Try.prog 40 #[v, .string s] w fun e w' => ∃ v', e = .returned v' ∧ Grew 5 w v (l ++ enc s.size ++ s.data.toList) v' w' := by
  obtain ⟨i0, hi, hz0, hz1, hz2⟩ := info_parts info5
  have hel := enc_length s.size
  obtain ⟨hel1, hel2⟩ := hel
  go_enter Try.func40, Try.ntmps40
  go_wp2_with (first | (go_at_call 41; refine (refnum_any v l s.size _ hW (by omega) (by omega)).mono ?_; rintro e w1 ⟨v1, rfl, hW1, hk1, hn1⟩) | (at_builtin; refine wpList_append_str_lies _ rfl _ _ _ _ rfl 5 i0 Try.underlying34 Try.underlying9 hi hz0 hz1 hz2 v1 (l ++ enc s.size) rfl hW1 s rfl (by rw [List.length_append]; omega) ?_; intro a2 n2 c2 w2 hown hgrow hat))
  go_ret
  exact ⟨_, rfl, Grew.trans hk1 hn1 (grew_step (Kept.refl [] w1) hown hgrow hat)⟩
set_option maxHeartbeats 1000000 in
/-- The document's Int. -/
theorem refint_any (v : Value) (l : List UInt8) (z : Int) (w : World) (hW : Owns 5 w v l) (h1 : -9223372036854775808 ≤ z) (h2 : z ≤ 9223372036854775807) (hb : l.length + 9 ≤ 140737488355328) :
    Calls Try.prog 72 #[v, .int .i64 z] w fun e w' => ∃ v', e = .returned v' ∧ Grew 5 w v (l ++ enc (fold z)) v' w' := by
  by_cases h : 0 ≤ z
  · have HF : Hid (z * 2 = ((fold z : Nat) : Int)) := by show _ = _; unfold fold; split <;> omega
    go_enter Try.func72, Try.ntmps72
    go_wp2_with fail
    rw [HF.out]
    refine (refnum_any v l (fold z) _ hW (fold_lt z h1 h2) hb).mono ?_
    rintro e w1 ⟨v1, rfl, hG⟩
    go_wp2_with fail
    go_ret
    exact ⟨v1, rfl, hG⟩
  · have HF : Hid (bits .or .u64 ((-(z + 1)) * 2) 1 = ((fold z : Nat) : Int)) := by
      show _ = _
      obtain ⟨m, hm⟩ := Int.eq_ofNat_of_zero_le (show (0 : Int) ≤ -(z + 1) by omega)
      have h3 := u64_or_nat (m * 2) 1 (by omega) (by omega)
      have e := Nat.two_pow_add_eq_or_of_lt (b := 1) (i := 1) (by omega) m
      rw [show (2 : Nat) ^ 1 * m = m * 2 by omega] at e
      rw [← e] at h3
      rw [hm]
      have h4 : ((m * 2 : Nat) : Int) = (m : Int) * 2 := by omega
      rw [h4] at h3
      have h5 : (((1 : Nat) : Int)) = 1 := rfl
      rw [h5] at h3
      rw [h3]
      unfold fold; split <;> omega
    go_enter Try.func72, Try.ntmps72
    go_wp2_with fail
    rw [HF.out]
    refine (refnum_any v l (fold z) _ hW (fold_lt z h1 h2) hb).mono ?_
    rintro e w1 ⟨v1, rfl, hG⟩
    go_wp2_with fail
    go_ret
    exact ⟨v1, rfl, hG⟩
end Go.Proofs.Ythlemapneangeaa
/-
  CodecOne: the walk.
-/
namespace Go.Proofs.Ythlemapneangeaa
set_option maxRecDepth 100000
open Go.RowKit
attribute [local go_sem ↓] Go.wp_at_zero Go.wp_at_succ
/-- Bytes that are read stay where no old block of theirs turns. -/
theorem Reads.kept2 {S : List Nat} {w w' : World} {v : Value} {l : List UInt8} (h : Reads w v l) (k : Kept S w w') (hn : ∀ g, v.ownBlock = some g → g < w.heap.size → g ∉ S) : Reads w' v l := by
  by_cases hl : l = []
  · obtain ⟨a, cap, rfl, h2, h3, h4, h5⟩ := h
    exact ⟨a, cap, rfl, h2, h3, h4, fun h => absurd hl h⟩
  · obtain ⟨g, hg, hlt⟩ := h.lt hl
    exact h.kept k fun g' hg' => hn g' hg' (by rw [hg] at hg'; injection hg' with e; omega)
theorem IsR.kept2 {t : TypeId} {S : List Nat} {w w' : World} {p : Nat} {v : Value} {l : List UInt8} {bad : Bool} (h : IsR t w p v l bad) (k : Kept S w w') (hS : ∀ g ∈ S, w.heap.size ≤ g) : IsR t w' p v l bad :=
  ⟨k.keeps h.box (fun hm => by have := hS p hm; have := h.lt; omega), h.reads.kept2 k (fun g _ hlt hm => by have := hS g hm; omega), h.apart, h.none⟩
theorem IsW.kept2 {t e : TypeId} {S : List Nat} {w w' : World} {p : Nat} {v : Value} {l : List UInt8} (h : IsW t e w p v l) (k : Kept S w w') (hS : ∀ g ∈ S, w.heap.size ≤ g) : IsW t e w' p v l :=
  h.kept k (fun hm => by have := hS p hm; have := h.lt; omega) (fun g hg hm => by have := hS g hm; have := h.own.lt hg; omega)
theorem Reads.drew {w : World} {v : Value} {l : List UInt8} (h : Reads w v l) : Reads w.drew v l := h
theorem IsR.drewN {t : TypeId} {w : World} {p : Nat} {v : Value} {l : List UInt8} {bad : Bool} (h : IsR t w p v l bad) (k : Nat) : IsR t (w.drewN k) p v l bad := ⟨h.box, h.reads, h.apart, h.none⟩
theorem IsR.drew {t : TypeId} {w : World} {p : Nat} {v : Value} {l : List UInt8} {bad : Bool} (h : IsR t w p v l bad) : IsR t w.drew p v l bad := ⟨h.box, h.reads, h.apart, h.none⟩
/-- A row of numbers that fit a byte reads as bytes. -/
theorem reads_of_row (W : World) (x : Addr) (zs : List Int) {len cap : Nat} (hl : len ≤ cap) (hm : cap ≤ maxLen) (hz : zs.length = cap) (hcell : ∀ i, i < zs.length → W.cell? (x.add i) = some (.int .u8 (zs.getD i 0))) (hwz : ∀ n ∈ zs, (Lit.int .u8 n).wf = true) (hb : len ≤ 140737488351232) :
    ∃ l, Reads W (.slice (some x) len cap) l ∧ l.length ≤ 140737488351232 := by
  have hlen : ((zs.take len).map fun z => UInt8.ofNat z.toNat).length = len := by rw [List.length_map, List.length_take]; omega
  refine ⟨(zs.take len).map fun z => UInt8.ofNat z.toNat, ⟨some x, cap, by rw [hlen], by omega, hm, by simp, fun hne => ?_⟩, by omega⟩
  have hpos : 0 < len := by
    rcases Nat.eq_zero_or_pos len with h | h
    · subst h; simp at hne
    · exact h
  obtain ⟨b, o, spot⟩ := x
  have hc := hcell 0 (by omega)
  have hspot : spot = none := by simpa [Addr.add] using World.cell?_spot hc
  subst hspot
  refine ⟨b, o, rfl, fun j u hu => ?_⟩
  rw [List.getElem?_map, Option.map_eq_some_iff] at hu
  obtain ⟨z, hz1, rfl⟩ := hu
  have hj : j < len := by
    have := (List.getElem?_eq_some_iff.1 hz1).1
    rw [List.length_take] at this; omega
  rw [List.getElem?_take_of_lt hj] at hz1
  have h := hcell j (by omega)
  have hadd : (⟨b, o, Option.none⟩ : Addr).add j = ⟨b, o + j, Option.none⟩ := by unfold Addr.add; split <;> simp_all
  rw [hadd] at h
  rw [h]
  have hzz : zs.getD j 0 = z := by simp [List.getD, hz1]
  rw [hzz]
  have hw := bounds_u8 (hwz z (List.mem_of_getElem? hz1))
  congr 1
  exact (B8_of z.toNat z (by omega))
/-- Bytes that are read as a number, wholly, are its own. -/
theorem one_plain (l : List UInt8) (h : (!(rnum l false).2.2 && (rnum l false).2.1.isEmpty) = true) : enc (rnum l false).1 = l := by
  unfold rnum at h ⊢
  by_cases hk : (dec l).2 = 0
  · rw [if_pos hk] at h; simp at h
  · rw [if_neg hk] at h ⊢
    have h2 : (l.drop (dec l).2).isEmpty = true := by simpa using h
    have h3 : l.length ≤ (dec l).2 := by
      rw [List.isEmpty_iff] at h2
      exact List.drop_eq_nil_iff.1 h2
    rw [enc_dec l hk, List.take_of_length_le h3]
end Go.Proofs.Ythlemapneangeaa
/-
  The document's own Reader, as the statements have it.
-/
namespace Go.Proofs.Ythlemapneangeaa
set_option maxRecDepth 100000
open Go.RowKit
set_option linter.unusedVariables false
set_option maxHeartbeats 400000 in
theorem fail_any (p : Nat) (v : Value) (l : List UInt8) (bad : Bool) (w : World) (hR : IsR 99 w p v l bad) : Calls Try.prog 77 #[.pointer (some ⟨p, 0, none⟩)] w fun e w' => e = .returned (.tuple #[]) ∧ Rest 99 w p v [] true w' := by
  obtain ⟨hc0, hc1⟩ := cell_of_two hR.box
  obtain ⟨hf0, hf1⟩ := free_of_two hR.box
  go_enter Try.func77, Try.ntmps77
  go_wp2
  go_end0
  exact ⟨rfl, rest_bad hR⟩
theorem rnum_bad (l : List UInt8) (bad : Bool) (h : (dec l).2 = 0) : rnum l bad = (0, [], true) := by unfold rnum; rw [if_pos h]
theorem rnum_on (l : List UInt8) (bad : Bool) (n k : Nat) (h : dec l = (n, k)) (hk : k ≠ 0) : rnum l bad = (n, l.drop k, bad) := by unfold rnum; rw [h, if_neg hk]
set_option maxHeartbeats 400000 in
theorem refr_nil (p : Nat) (v : Value) (bad : Bool) (w : World) (hR : IsR 99 w p v [] bad) :
    Calls Try.prog 51 #[.pointer (some ⟨p, 0, none⟩)] w fun e w' => e = .returned (.int .u64 0) ∧ Rest 99 w p v [] true w' := by
  have hfail := fail_any p v [] bad w hR
  obtain ⟨hc0, hc1⟩ := cell_of_two hR.box
  obtain ⟨a, cap, rfl, h2, h3⟩ := isR_form hR
  simp only [List.length_nil] at hc0 hfail ⊢
  clear hR
  go_enter Try.func51, Try.ntmps51
  go_wp2_with (go_at_call 77; refine hfail.mono ?_; rintro e w' ⟨rfl, hL⟩)
  go_ret
  exact ⟨rfl, hL⟩
set_option maxRecDepth 100000 in
set_option maxHeartbeats 400000 in
theorem refr_small (p b o n cap x : Nat) (a1 : Option Addr) (n1 c1 : Nat) (Q : World → Prop) (w : World) (hp : w.cell? ⟨p, 0, none⟩ = some (.slice (some ⟨b, o, none⟩) (n + 1) cap)) (hf : w.frozen? ⟨p, 0, none⟩ = false) (hm : cap ≤ 9223372036854775807) (hn : n + 1 ≤ cap) (hx : x ≤ 247) (hc : w.cell? ⟨b, o, none⟩ = some (.int .u8 (x : Int)))
    (hsl : ∀ W, (Instr.slice 34 (.slice (some ⟨b, o, none⟩) (n + 1) cap) (some (.int .i64 1)) none none).run Try.prog W = .ok (.slice a1 n1 c1) W) (hQ : Q (w.setCell ⟨p, 0, none⟩ (.slice a1 n1 c1))) :
    Calls Try.prog 51 #[.pointer (some ⟨p, 0, none⟩)] w fun e w' => e = .returned (.int .u64 (x : Int)) ∧ Q w' := by
  have h0 : (((n + 1 : Nat) : Int) == 0) = false := by simp; omega
  have HQ : Hid (Q (w.setCell ⟨p, 0, none⟩ (.slice a1 n1 c1))) := hQ
  clear hQ
  go_enter Try.func51, Try.ntmps51
  go_wp2
  go_ret
  exact ⟨rfl, HQ.out⟩
set_option maxRecDepth 100000 in
set_option maxHeartbeats 400000 in
theorem refr_short (p b o n cap x : Nat) (Q : World → Prop) (w : World) (hp : w.cell? ⟨p, 0, none⟩ = some (.slice (some ⟨b, o, none⟩) (n + 1) cap)) (hm : cap ≤ 9223372036854775807) (hn : n + 1 ≤ cap) (hx : 247 < x) (hx2 : x < 256) (hs : n < x - 247) (hc : w.cell? ⟨b, o, none⟩ = some (.int .u8 (x : Int)))
    (hfail : Calls Try.prog 77 #[.pointer (some ⟨p, 0, none⟩)] w fun e w' => e = .returned (.tuple #[]) ∧ Q w') :
    Calls Try.prog 51 #[.pointer (some ⟨p, 0, none⟩)] w fun e w' => e = .returned (.int .u64 0) ∧ Q w' := by
  have h0 : (((n + 1 : Nat) : Int) == 0) = false := by simp; omega
  have h1 : ((n + 1 : Nat) : Int) < 1 + ((x : Int) - 247) := by omega
  go_enter Try.func51, Try.ntmps51
  go_wp2_with (go_at_call 77; refine hfail.mono ?_; rintro e w' ⟨rfl, hL⟩)
  go_ret
  exact ⟨rfl, hL⟩
set_option maxRecDepth 100000 in
set_option maxHeartbeats 400000 in
theorem refr_zero (p b o n cap x : Nat) (Q : World → Prop) (w : World) (hp : w.cell? ⟨p, 0, none⟩ = some (.slice (some ⟨b, o, none⟩) (n + 2) cap)) (hm : cap ≤ 9223372036854775807) (hn : n + 2 ≤ cap) (hx : 247 < x) (hx2 : x < 256) (hs : x - 247 ≤ n + 1) (hc : w.cell? ⟨b, o, none⟩ = some (.int .u8 (x : Int))) (hc1 : w.cell? ⟨b, o + 1, none⟩ = some (.int .u8 0))
    (hfail : Calls Try.prog 77 #[.pointer (some ⟨p, 0, none⟩)] w fun e w' => e = .returned (.tuple #[]) ∧ Q w') :
    Calls Try.prog 51 #[.pointer (some ⟨p, 0, none⟩)] w fun e w' => e = .returned (.int .u64 0) ∧ Q w' := by
  have h0 : (((n + 2 : Nat) : Int) == 0) = false := by simp; omega
  have h1 : ¬ ((n + 2 : Nat) : Int) < 1 + ((x : Int) - 247) := by omega
  go_enter Try.func51, Try.ntmps51
  go_wp2_with (go_at_call 77; refine hfail.mono ?_; rintro e w' ⟨rfl, hL⟩)
  go_ret
  exact ⟨rfl, hL⟩
set_option maxRecDepth 100000 in
set_option maxHeartbeats 2000000 in
theorem refr_loop (p b o n cap x y : Nat) (t : List UInt8) (a1 : Option Addr) (n1 c1 : Nat) (Q1 Q2 : World → Prop) (w : World) (hp : w.cell? ⟨p, 0, none⟩ = some (.slice (some ⟨b, o, none⟩) (n + 2) cap)) (hf : w.frozen? ⟨p, 0, none⟩ = false) (hm : cap ≤ 9223372036854775807) (hn : n + 2 ≤ cap) (hx : 247 < x) (hx2 : x < 256) (hs : x - 247 ≤ n + 1) (hc : w.cell? ⟨b, o, none⟩ = some (.int .u8 (x : Int))) (hc1 : w.cell? ⟨b, o + 1, none⟩ = some (.int .u8 (y : Int))) (hy : 1 ≤ y)
    (ht : t.length = x - 247) (hct : ∀ j u, t[j]? = some u → w.cell? ⟨b, o + (j + 1), none⟩ = some (.int .u8 (u.toNat : Int)))
    (hfail : Calls Try.prog 77 #[.pointer (some ⟨p, 0, none⟩)] w fun e w' => e = .returned (.tuple #[]) ∧ Q1 w')
    (hsl : ∀ W, (Instr.slice 34 (.slice (some ⟨b, o, none⟩) (n + 2) cap) (some (.int .i64 (1 + ((x : Int) - 247)))) none none).run Try.prog W = .ok (.slice a1 n1 c1) W) (hQ : Q2 (w.setCell ⟨p, 0, none⟩ (.slice a1 n1 c1))) :
    Calls Try.prog 51 #[.pointer (some ⟨p, 0, none⟩)] w fun e w' => (worth t ≤ 247 ∧ e = .returned (.int .u64 0) ∧ Q1 w') ∨ (247 < worth t ∧ e = .returned (.int .u64 ((worth t : Nat) : Int)) ∧ Q2 w') := by
  have h0 : (((n + 2 : Nat) : Int) == 0) = false := by simp; omega
  have h1 : ¬ ((n + 2 : Nat) : Int) < 1 + ((x : Int) - 247) := by omega
  have h2 : ((y : Int) == 0) = false := by simp; omega
  have HT : Hid (t.length = x - 247) := ht
  have HQ : Hid (Q2 (w.setCell ⟨p, 0, none⟩ (.slice a1 n1 c1))) := hQ
  clear ht hQ
  go_enter Try.func51, Try.ntmps51
  go_wp2_with fail
  go_loop [5, 6] (fun c i => ∃ j : Nat, j ≤ x - 247 ∧ i = .int .i64 ((j : Int) + 1) ∧ c = .int .u64 ((worth (t.take j) : Nat) : Int)) (fun _ i => 10 - (intOf i).toNat)
  case atStart => exact ⟨0, Nat.zero_le _, rfl, rfl⟩
  case round =>
    obtain ⟨j, hj, rfl, rfl⟩ := hrel
    by_cases hlt : j < x - 247
    · obtain ⟨u, hu⟩ : ∃ u, t[j]? = some u := ⟨t[j]'(by rw [HT.out]; exact hlt), by simp⟩
      have HU : Hid (worth (t.take (j + 1)) = worth (t.take j) * 256 + u.toNat) := worth_take t j (by rw [HT.out]; exact hlt) u hu
      have hN := worth_take_lt t j (by omega)
      have hcj := hct j u hu
      have hub := u.toNat_lt
      have hor := or_low (worth (t.take j)) u.toNat hN hub
      generalize worth (t.take j) = N at hN hor HU ⊢
      generalize u.toNat = U at hub hor HU hcj
      have hj1 : (j : Int) + 1 ≤ (x : Int) - 247 := by omega
      clear hct hc hc1 hu hsl
      go_wp2
      go_round
      case rel => exact ⟨j + 1, by omega, by go_num, by rw [HU.out]; rfl⟩
      case measure => simp [intOf]; omega
    · have hj1 : ¬ (j : Int) + 1 ≤ (x : Int) - 247 := by omega
      have HW : Hid (worth (t.take j) = worth t) := by show _ = _; rw [List.take_of_length_le (by rw [HT.out]; omega)]
      generalize worth (t.take j) = N at HW ⊢
      clear hct hc hc1
      by_cases h247 : N ≤ 247
      · go_wp2_with (go_at_call 77; refine hfail.mono ?_; rintro e w' ⟨rfl, hL⟩)
        go_ret
        exact .inl ⟨by rw [← HW.out]; exact h247, rfl, hL⟩
      · go_wp2_with fail
        go_ret
        exact .inr ⟨by rw [← HW.out]; omega, by rw [← HW.out]; rfl, HQ.out⟩
end Go.Proofs.Ythlemapneangeaa
/-
  The document's own Reader: Number, Int, Text, End, Of.
-/
namespace Go.Proofs.Ythlemapneangeaa
set_option maxRecDepth 100000
open Go.RowKit
set_option linter.unusedVariables false
set_option maxRecDepth 100000 in
theorem refr_any (p : Nat) (v : Value) (l : List UInt8) (bad : Bool) (w : World) (hR : IsR 99 w p v l bad) :
    Calls Try.prog 51 #[.pointer (some ⟨p, 0, none⟩)] w fun e w' => e = .returned (.int .u64 ((rnum l bad).1 : Int)) ∧ Rest 99 w p v (rnum l bad).2.1 (rnum l bad).2.2 w' := by
  have hfail := fail_any p v l bad w hR
  obtain ⟨hp, -⟩ := cell_of_two hR.box
  obtain ⟨hf, -⟩ := free_of_two hR.box
  obtain ⟨a, cap, rfl, h2, h3⟩ := isR_form hR
  obtain ⟨a', cap', hv, -, -, -, h5⟩ := hR.reads
  injection hv with e1 e2 e3
  subst e1 e3
  match l with
  | [] => exact refr_nil p _ bad w hR
  | [x] =>
    obtain ⟨b, o, rfl, hc⟩ := h5 (by simp)
    have hx := x.toNat_lt
    have hc0 := hc 0 x rfl
    by_cases hs : x.toNat ≤ 247
    · obtain ⟨a1, c1, hsl, hr1, hin⟩ := slice_from (P := Try.prog) 34 5 Try.underlying34 size5 .i64 _ cap 1 [x] w hR.reads (by simp)
      rw [rnum_on [x] bad _ _ (dec_small x [] hs) (by omega)]
      exact refr_small p b o 0 cap x.toNat a1 _ c1 _ w hp hf h3 h2 hs hc0 hsl (rest_on hR hr1 hin (by simp))
    · rw [rnum_bad [x] bad (by rw [dec_short x [] hs (by simp; omega)])]
      exact refr_short p b o 0 cap x.toNat _ w hp h3 h2 (by omega) hx (by omega) hc0 hfail
  | x :: y :: t =>
    obtain ⟨b, o, rfl, hc⟩ := h5 (by simp)
    have hx := x.toNat_lt
    have hc0 := hc 0 x rfl
    have hc1 := hc 1 y rfl
    simp only [List.length_cons] at h2 hp
    by_cases hs : x.toNat ≤ 247
    · obtain ⟨a1, c1, hsl, hr1, hin⟩ := slice_from (P := Try.prog) 34 5 Try.underlying34 size5 .i64 _ cap 1 (x :: y :: t) w hR.reads (by simp)
      rw [rnum_on _ bad _ _ (dec_small x _ hs) (by omega)]
      exact refr_small p b o (t.length + 1) cap x.toNat a1 _ c1 _ w hp hf h3 h2 hs hc0 hsl (rest_on hR hr1 hin (fun h => by have := hR.none h; simp at this))
    by_cases hl : t.length + 1 < x.toNat - 247
    · rw [rnum_bad _ bad (by rw [dec_short x _ hs (by simpa using hl)])]
      exact refr_short p b o (t.length + 1) cap x.toNat _ w hp h3 h2 (by omega) hx hl hc0 hfail
    by_cases hy : y.toNat = 0
    · rw [rnum_bad _ bad (by rw [dec_zero x y t hs hy])]
      exact refr_zero p b o t.length cap x.toNat _ w hp h3 h2 (by omega) hx (by omega) hc0 (by rw [hc1]; simp [B8, hy]) hfail
    · have hlen : ((y :: t).take (x.toNat - 247)).length = x.toNat - 247 := by rw [List.length_take, List.length_cons]; omega
      obtain ⟨a1, c1, hsl, hr1, hin⟩ := slice_from (P := Try.prog) 34 5 Try.underlying34 size5 .i64 _ cap (x.toNat - 247 + 1) (x :: y :: t) w hR.reads (by simp; omega)
      have ei : ((x.toNat - 247 + 1 : Nat) : Int) = 1 + ((x.toNat : Int) - 247) := by omega
      rw [ei] at hsl
      have key := refr_loop p b o t.length cap x.toNat y.toNat ((y :: t).take (x.toNat - 247)) a1 _ c1 _ _ w hp hf h3 h2 (by omega) hx (by omega) hc0 hc1 (by omega) hlen (fun j u hu => by
        have hj : j < x.toNat - 247 := by
          have := (List.getElem?_eq_some_iff.1 hu).1; omega
        rw [List.getElem?_take_of_lt hj] at hu
        exact hc (j + 1) u (by simpa using hu)) hfail hsl (rest_on hR hr1 hin (fun h => by have := hR.none h; simp at this))
      refine key.mono fun e w' h => ?_
      rcases h with ⟨h, he, hq⟩ | ⟨h, he, hq⟩
      · rw [rnum_bad _ bad (by rw [dec_low x y t hs (by omega) hy h])]
        exact ⟨he, hq⟩
      · rw [rnum_on _ bad _ _ (dec_high x y t hs (by omega) hy (by omega)) (by omega)]
        exact ⟨he, hq⟩
set_option maxHeartbeats 400000 in
theorem refr_int (p : Nat) (v : Value) (l : List UInt8) (bad : Bool) (w : World) (hR : IsR 99 w p v l bad) :
    Calls Try.prog 86 #[.pointer (some ⟨p, 0, none⟩)] w fun e w' => e = .returned (.int .i64 (unfold (rnum l bad).1)) ∧ Rest 99 w p v (rnum l bad).2.1 (rnum l bad).2.2 w' := by
  have hlt := rnum_lt l bad
  have hnum := refr_any p v l bad w hR
  have HU : Hid (∀ n, unfold n = if n % 2 = 1 then -((n / 2 : Nat) : Int) - 1 else ((n / 2 : Nat) : Int)) := fun n => rfl
  generalize (rnum l bad).1 = N at hlt hnum ⊢
  by_cases h : N % 2 = 1
  · have hb : ((N : Int) % 2 == 1) = true := by simp; omega
    go_enter Try.func86, Try.ntmps86
    go_wp2_with (go_at_call 51; refine hnum.mono ?_; rintro e w' ⟨rfl, hL⟩)
    go_ret
    exact ⟨ret_int (by rw [HU.out, if_pos h]; omega), hL⟩
  · have hb : ((N : Int) % 2 == 1) = false := by simp; omega
    go_enter Try.func86, Try.ntmps86
    go_wp2_with (go_at_call 51; refine hnum.mono ?_; rintro e w' ⟨rfl, hL⟩)
    go_ret
    exact ⟨ret_int (by rw [HU.out, if_neg h]; omega), hL⟩
set_option maxHeartbeats 400000 in
theorem refr_end (p : Nat) (v : Value) (l : List UInt8) (bad : Bool) (w : World) (hR : IsR 99 w p v l bad) : Calls Try.prog 54 #[.pointer (some ⟨p, 0, none⟩)] w fun e w' => e = .returned (.bool (!bad && l.isEmpty)) ∧ w = w' := by
  obtain ⟨hc0, hc1⟩ := cell_of_two hR.box
  obtain ⟨a, cap, rfl, -, -, -, -⟩ := hR.reads
  cases bad with
  | true =>
    go_enter Try.func54, Try.ntmps54
    go_wp2
    go_ret
    exact ⟨rfl, rfl⟩
  | false =>
    have he : l.isEmpty = ((l.length : Int) == 0) := by cases l <;> simp; omega
    rw [he]
    clear he
    generalize l.length = n at *
    go_enter Try.func54, Try.ntmps54
    go_wp2
    go_ret
    exact ⟨rfl, rfl⟩
set_option maxHeartbeats 1000000 in
theorem refr_text (p : Nat) (v : Value) (l : List UInt8) (bad : Bool) (w : World) (hR : IsR 99 w p v l bad) :
    Calls Try.prog 50 #[.pointer (some ⟨p, 0, none⟩)] w fun e w' => e = .returned (.string ⟨(rtext l bad).1.toArray⟩) ∧ Rest 99 w p v (rtext l bad).2.1 (rtext l bad).2.2 w' := by
  have hnum := refr_any p v l bad w hR
  have hlt := rnum_lt l bad
  have HT : Hid (rtext l bad = if (rnum l bad).2.1.length < (rnum l bad).1 then ([], [], true) else ((rnum l bad).2.1.take (rnum l bad).1, (rnum l bad).2.1.drop (rnum l bad).1, (rnum l bad).2.2)) := rfl
  generalize rtext l bad = T at HT ⊢
  obtain ⟨t1, t2, t3⟩ := T
  generalize (rnum l bad).1 = N at hnum hlt HT
  generalize (rnum l bad).2.1 = l1 at hnum HT
  generalize (rnum l bad).2.2 = b1 at hnum HT
  by_cases hs : l1.length < N
  · have HT1 : Hid ((t1, t2, t3) = (([] : List UInt8), ([] : List UInt8), true)) := by have h := HT.out; rw [if_pos hs] at h; exact h
    clear HT
    go_enter Try.func50, Try.ntmps50
    go_wp2_with (first | (go_at_call 51; refine hnum.mono ?_; rintro e w1 ⟨rfl, v1, hR1, hk1, hi1⟩; obtain ⟨hc0, hc1⟩ := cell_of_two hR1.box; obtain ⟨a1, cap1, hv1, hl1, hl2⟩ := isR_form hR1; rw [hv1] at hc0) | (go_at_call 77; refine (fail_any p v1 l1 b1 _ hR1).mono ?_; rintro e w2 ⟨rfl, hL⟩))
    go_ret
    have h := HT1.out
    simp only [Prod.mk.injEq] at h
    obtain ⟨rfl, rfl, rfl⟩ := h
    exact ⟨rfl, Rest.trans hk1 hi1 hL⟩
  · have HT1 : Hid ((t1, t2, t3) = (l1.take N, l1.drop N, b1)) := by have h := HT.out; rw [if_neg hs] at h; exact h
    clear HT
    go_enter Try.func50, Try.ntmps50
    go_wp2_with fail
    refine hnum.mono ?_
    rintro e w1 ⟨rfl, v1, hR1, hk1, hi1⟩
    obtain ⟨hc0, hc1⟩ := cell_of_two hR1.box
    obtain ⟨hf0, hf1⟩ := free_of_two hR1.box
    obtain ⟨a1, cap1, rfl, hl1, hl2⟩ := isR_form hR1
    obtain ⟨a2, c2, hto, hr2⟩ := slice_to (P := Try.prog) 34 5 Try.underlying34 size5 .u64 a1 cap1 N l1 w1 hR1.reads (by omega)
    obtain ⟨a3, c3, hfrom, hr3, hin⟩ := slice_from (P := Try.prog) 34 5 Try.underlying34 size5 .u64 a1 cap1 N l1 w1 hR1.reads (by omega)
    have hstr := string_of (P := Try.prog) 34 5 Try.underlying34 9 Try.underlying5 Try.underlying9 _ _ w1 hr2
    have hL := rest_on hR1 hr3 hin (fun h => by rw [hR1.none h]; simp)
    clear hr2 hr3 hin hnum
    go_wp2
    go_ret
    have h := HT1.out
    simp only [Prod.mk.injEq] at h
    obtain ⟨rfl, rfl, rfl⟩ := h
    exact ⟨rfl, Rest.trans hk1 hi1 hL⟩
/-- The slice v lies in memory that is there. -/
def Inside (w : World) (v : Value) : Prop := ∀ g, v.ownBlock = some g → g < w.heap.size
set_option maxHeartbeats 400000 in
theorem newr_in (v : Value) (l : List UInt8) (w : World) (h : Reads w v l) (hl : l.length ≤ 140737488355328) :
    Calls Try.prog 43 #[v] w fun e w' => ∃ p v', e = .returned (.pointer (some ⟨p, 0, none⟩)) ∧ IsR 120 w' p v' l false ∧ Kept [] w w' ∧ Fresh w v' ∧ w.heap.size ≤ p ∧ Inside w' v' := by
  go_enter Try.func43, Try.ntmps43
  go_wp2_with (go_at_call 71; refine (clone_any v l _ h hl).mono ?_; rintro e w1 ⟨v1, rfl, hown, hk, hf⟩; obtain ⟨a1, c1, hv1⟩ := hown.form; rw [hv1])
  go_ret
  subst hv1
  have hne : (Value.slice a1 l.length c1).ownBlock ≠ some w1.heap.size := fun h => by have := hown.lt h; omega
  exact ⟨w1.heap.size, _, rfl, ⟨heap_alloc_new w1 _, hown.reads.kept ((Kept.refl [] w1).alloc _) (by simp), hne, by simp⟩, hk.alloc _, hf, hk.size, fun g hg => by have := hown.lt hg; simp; omega⟩
set_option maxHeartbeats 400000 in
theorem of_any (v : Value) (l : List UInt8) (w : World) (h : Reads w v l) (hin : Inside w v) :
    Calls Try.prog 49 #[v] w fun e w' => ∃ p, e = .returned (.pointer (some ⟨p, 0, none⟩)) ∧ IsR 99 w' p v l false ∧ Kept [] w w' ∧ w.heap.size ≤ p := by
  obtain ⟨a, cap, rfl, h2, h3, h4, h5⟩ := h
  have hr : Reads w (.slice a l.length cap) l := ⟨a, cap, rfl, h2, h3, h4, h5⟩
  go_enter Try.func49, Try.ntmps49
  go_wp2
  go_ret
  exact ⟨w.heap.size, rfl, ⟨heap_alloc_new w _, hr.kept ((Kept.refl [] w).alloc _) (by simp), fun h => by have := hin _ h; omega, by simp⟩, (Kept.refl [] w).alloc _, Nat.le_refl _⟩
theorem inside_of_ok {P : Program} {W : World} {base : Nat} {t e : TypeId} {v : Value} (hu : P.underlying t = some (.slice e)) (h : Value.okWide P W .any base t v) : Inside W v := by
  intro g hg
  unfold Value.okWide at h
  rw [hu] at h
  unfold Cell.okWide at h
  rw [hu] at h
  unfold Cell.ok at h
  rw [hu] at h
  match v, hg with
  | .slice (some a) len cap, hg =>
    obtain ⟨-, -, -, -, row, cells, hs, -⟩ := h
    simp only [Value.ownBlock, Option.some.injEq] at hg
    subst hg
    unfold World.shape? at hs
    cases hb : W.heap[a.block]? with
    | none => rw [hb] at hs; simp at hs
    | some o => exact lt_of_block hb
end Go.Proofs.Ythlemapneangeaa
/-
  Lists of pieces: their bytes, and how they lie in memory. Nothing here speaks of the program.
-/
namespace Go.Proofs.Ythlemapneangeaa
set_option maxRecDepth 100000
open Go.RowKit
/-- A piece: its kind, its number, its text. -/
structure PieceD where
  kind : Int
  n : Nat
  s : ByteArray
/-- A piece's bytes. -/
def encP (x : PieceD) : List UInt8 :=
  if x.kind = 1 then enc x.n else if x.kind = 2 then enc (fold (wrap64 (x.n : Int))) else enc x.s.size ++ x.s.data.toList
/-- A list's bytes. -/
def encAll (l : List PieceD) : List UInt8 := l.flatMap encP
/-- How much room a list asks for, at most. -/
def heavy : List PieceD → Nat
  | [] => 0
  | x :: r => x.s.size + 9 + heavy r
theorem encP_le (x : PieceD) : (encP x).length ≤ x.s.size + 9 := by
  unfold encP
  have h1 := enc_length x.n
  have h2 := enc_length (fold (wrap64 (x.n : Int)))
  have h3 := enc_length x.s.size
  have h4 : x.s.data.toList.length = x.s.size := by simp
  split
  · omega
  · split
    · omega
    · rw [List.length_append]; omega
theorem encAll_le (l : List PieceD) : (encAll l).length ≤ heavy l := by
  induction l with
  | nil => simp [encAll]
  | cons x r ih =>
    have := encP_le x
    simp only [encAll, List.flatMap_cons, List.length_append, heavy] at ih ⊢
    omega
theorem heavy_take (l : List PieceD) (k : Nat) (x : PieceD) (h : l[k]? = some x) : heavy (l.take k) + x.s.size + 9 ≤ heavy l := by
  induction l generalizing k with
  | nil => simp at h
  | cons y r ih =>
    cases k with
    | zero => simp at h; subst h; simp [heavy]
    | succ k =>
      have := ih k (by simpa using h)
      simp only [List.take_succ_cons, heavy]
      omega
theorem encAll_take (l : List PieceD) (k : Nat) (x : PieceD) (h : l[k]? = some x) : encAll (l.take (k + 1)) = encAll (l.take k) ++ encP x := by
  rw [List.take_add_one, h]
  simp [encAll]
theorem encAll_drop (l : List PieceD) (k : Nat) (x : PieceD) (h : l[k]? = some x) : encAll (l.drop k) = encP x ++ encAll (l.drop (k + 1)) := by
  obtain ⟨hlt, hx⟩ := List.getElem?_eq_some_iff.1 h
  rw [List.drop_eq_getElem_cons hlt, hx]
  simp [encAll]
/-- The slice v (three cells an element) reads as the pieces l. -/
def Holds (w : World) (v : Value) (l : List PieceD) : Prop :=
  ∃ a cap, v = .slice a l.length cap ∧ l.length ≤ cap ∧ cap ≤ maxLen ∧ (∀ x ∈ l, x.n < 18446744073709551616 ∧ -9223372036854775808 ≤ x.kind ∧ x.kind ≤ 9223372036854775807) ∧
    (l ≠ [] → ∃ b o, a = some ⟨b, o, none⟩ ∧ ∀ j x, l[j]? = some x → w.cell? ⟨b, o + j * 3, none⟩ = some (.int .i64 x.kind) ∧ w.cell? ⟨b, o + j * 3 + 1, none⟩ = some (.int .u64 (x.n : Int)) ∧ w.cell? ⟨b, o + j * 3 + 2, none⟩ = some (.string x.s))
theorem Holds.kept {w w' : World} {v : Value} {l : List PieceD} (h : Holds w v l) (k : Kept [] w w') : Holds w' v l := by
  obtain ⟨a, cap, rfl, h2, h3, h4, h5⟩ := h
  refine ⟨a, cap, rfl, h2, h3, h4, fun hl => ?_⟩
  obtain ⟨b, o, rfl, hc⟩ := h5 hl
  refine ⟨b, o, rfl, fun j x hx => ?_⟩
  obtain ⟨c0, c1, c2⟩ := hc j x hx
  rw [k.cell (World.block_lt_of_cell? w _ c0) (by simp), k.cell (World.block_lt_of_cell? w _ c1) (by simp), k.cell (World.block_lt_of_cell? w _ c2) (by simp)]
  exact ⟨c0, c1, c2⟩
theorem rnum_back (n : Nat) (h : n < 18446744073709551616) (rest : List UInt8) : rnum (enc n ++ rest) false = (n, rest, false) := by
  have hl := enc_length n
  unfold rnum
  rw [dec_enc n h rest, if_neg (by omega)]
  simp
theorem rtext_back (s : List UInt8) (h : s.length < 18446744073709551616) (rest : List UInt8) : rtext (enc s.length ++ (s ++ rest)) false = (s, rest, false) := by
  unfold rtext
  rw [rnum_back s.length h]
  simp
end Go.Proofs.Ythlemapneangeaa
