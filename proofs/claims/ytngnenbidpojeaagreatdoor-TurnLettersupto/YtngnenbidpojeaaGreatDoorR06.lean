import Derived.Deep.RegionLaw
import Derived.Deep.DrawnRows
import Derived.OpenShut
import Derived.Deep.QuietTactic
import Derived.BigQuiet
import Derived.Test.YtngnenbidpojeaaGreatDoorR02
import Derived.Test.YtngnenbidpojeaaGreatDoorR03
import Derived.Test.YtngnenbidpojeaaGreatDoorR05
/-
  Writer.Number: what it lays.
-/
namespace Go.Proofs.YtngnenbidpojeaaGreatDoor
set_option maxRecDepth 100000
open Go.RowKit
attribute [local go_sem ↓] Go.wp_at_zero Go.wp_at_succ
theorem info5 : (Tryz.prog.info? 5).map (fun i => (i.zero, i.size, i.bytes)) = some (some (.int .u8 0), 1, 1) := by kernel_rfl
set_option maxHeartbeats 1000000 in
theorem wnum_small (p : Nat) (v : Value) (l : List UInt8) (n : Nat) (w : World) (hW : IsW 205 5 w p v l) (hn : n ≤ 247) (hb : l.length + 1 ≤ 140737488355328) :
    Calls Tryz.prog 64 #[.pointer (some ⟨p, 0, none⟩), .int .u64 (n : Int)] w fun e w' => e = .returned (.tuple #[]) ∧ Laid 205 5 w p v (l ++ [UInt8.ofNat n]) w' := by
  obtain ⟨i0, hi, hz0, hz1, hz2⟩ := info_parts info5
  have hcell := cell_of_one hW.box
  have hfree := free_of_one hW.box
  have hlt := hW.lt
  have hown : w.ownsRow 0 5 1 v l.length (C8 l) := hW.own
  go_enter Tryz.func64, Tryz.ntmps64
  go_wp2_with (at_builtin; refine wpList_append_lies _ rfl _ _ _ rfl 0 5 i0 _ 1 1 Tryz.underlying73 hi hz0 hz1 hz2 rfl (by omega) v l.length (C8 l) rfl (hown.alloc _) ⟨w.heap.size, 0, none⟩ 1 1 [.int .u8 (n : Int)] rfl rfl (World.news_of_block (cs := #[.int .u8 (n : Int)]) (t := 5) (fr := (0, 0)) (heap_alloc_new w _)) (by simp [Value.oneCell']) (by omega) (by unfold maxLen; omega) (by omega) (by omega) (w.heap.size + 1) (by simp) ?_; intro g cap w1 hown1 hgrow hat hgl; obtain ⟨hc1, hf1⟩ := ready_store hW ((Kept.refl [] w).alloc _) hgrow)
  refine bodyPost_ret (results_none rfl _ _ _) rfl ?_
  exact ⟨rfl, laid_step hW ((Kept.refl [] w).alloc _) (own_of (by omega) hown1) hgrow (new_of hat)⟩
set_option maxRecDepth 100000 in
set_option maxHeartbeats 1000000 in
theorem wnum_great (p : Nat) (v : Value) (l : List UInt8) (n : Nat) (w : World) (hd : UInt8) (hhd : Hid (hd = UInt8.ofNat (247 + width n))) (hW : IsW 205 5 w p v l) (hn : 248 ≤ n) (hn2 : n < 18446744073709551616) (hb : l.length + 9 ≤ 140737488355328) :
    Calls Tryz.prog 64 #[.pointer (some ⟨p, 0, none⟩), .int .u64 (n : Int)] w fun e w' => e = .returned (.tuple #[]) ∧ Laid 205 5 w p v (l ++ (hd :: digits (width n) n)) w' := by
  obtain ⟨i0, hi, hz0, hz1, hz2⟩ := info_parts info5
  have hcell := cell_of_one hW.box
  have hfree := free_of_one hW.box
  have hlt := hW.lt
  have hown : w.ownsRow 0 5 1 v l.length (C8 l) := hW.own
  have hwp := width_pos n
  obtain ⟨hw1, hw8⟩ := hwp
  go_enter Tryz.func64, Tryz.ntmps64
  go_wp2_with (first | (go_at_call 109; refine (len_any n _ hn hn2).mono ?_; rintro e w' ⟨m, rfl, hm0, hm1, hm2, rfl⟩; have HM : Hid ((m + 7) / 8 = (width n : Int)) := hm2; clear hm2) | (at_builtin; refine wpList_append_lies _ rfl _ _ _ rfl 0 5 i0 _ 1 1 Tryz.underlying73 hi hz0 hz1 hz2 rfl (by omega) v l.length (C8 l) rfl (hown.alloc _) ⟨w.heap.size, 0, none⟩ 1 1 [.int .u8 (247 + (m + 7) / 8)] rfl rfl (World.news_of_block (cs := #[.int .u8 (247 + (m + 7) / 8)]) (t := 5) (fr := (0, 0)) (heap_alloc_new w _)) (by simp [Value.oneCell']) (by omega) (by unfold maxLen; omega) (by omega) (by omega) (w.heap.size + 1) (by simp) ?_; intro g cap w1 hown1 hgrow hat hgl; obtain ⟨hc1, hf1⟩ := ready_store hW ((Kept.refl [] w).alloc _) hgrow))
  rw [HM.out]
  have L1 := laid_step hW ((Kept.refl [] w).alloc _) (own_of (n := 247 + width n) (by have := HM.out; omega) hown1) hgrow (new_of hat)
  rw [← hhd.out] at L1
  clear hown1 hgrow hat hgl hc1 hf1 hcell hfree hown hm0 hm1 HM
  go_loopw [5] (fun i wr => ∃ j : Nat, j ≤ width n ∧ i = .int .i64 ((j : Int) - 1) ∧ Laid 205 5 w p v (l ++ [hd] ++ (digits (width n) n).take (width n - j)) wr) (fun i _ => (intOf i + 1).toNat)
  case atStart => exact ⟨width n, Nat.le_refl _, rfl, by simpa using L1⟩
  case round =>
    obtain ⟨j, hj, rfl, v1, hW1, hk1, hn1⟩ := hrel
    clear L1
    have hll : (l ++ [hd] ++ (digits (width n) n).take (width n - j)).length ≤ l.length + 8 + 1 - j := by
      simp only [List.length_append, List.length_take, digits_length, List.length_cons, List.length_nil]; omega
    have HD : 1 ≤ j → Hid (l ++ [hd] ++ (digits (width n) n).take (width n - (j - 1)) = l ++ [hd] ++ (digits (width n) n).take (width n - j) ++ [UInt8.ofNat (n / 256 ^ (j - 1))]) := fun h1 => by
      show _ = _
      rw [digits_take (width n) n j h1 hj, List.append_assoc _ (List.take _ _)]
    have HE : j = 0 → Hid (l ++ [hd] ++ (digits (width n) n).take (width n - j) = l ++ (hd :: digits (width n) n)) := by
      rintro rfl
      show _ = _
      rw [Nat.sub_zero, List.take_of_length_le (by rw [digits_length]; exact Nat.le_refl _)]; simp
    generalize (l ++ [hd] ++ (digits (width n) n).take (width n - j)) = l1 at hW1 hll HD HE
    have hown : wr.ownsRow 0 5 1 v1 l1.length (C8 l1) := hW1.own
    have hcell := cell_of_one hW1.box
    have hfree := free_of_one hW1.box
    by_cases hj0 : j = 0
    · have HE0 := HE hj0
      clear HD HE
      subst hj0
      go_wp2
      go_end0
      exact ⟨rfl, v1, by rw [← HE0.out]; exact hW1, hk1, hn1⟩
    · obtain ⟨i, rfl⟩ : ∃ i, j = i + 1 := ⟨j - 1, by omega⟩
      have ei : ((i + 1 : Nat) : Int) - 1 = (i : Int) := by omega
      rw [ei]
      clear ei
      have hi7 : (i : Int) ≤ 7 := by omega
      have HD1 := HD (by omega)
      have hwr : IntKind.i64.wrap (8 * (i : Int)) = 8 * (i : Int) := by rw [IntKind.wrap_i64]; omega
      have hltr := hW1.lt
      clear HD HE
      go_wp2_with fail
      go_region_law ((refine step_append_lies _ (by rfl) _ _ _ (by rfl) 0 5 i0 _ 1 1 Tryz.underlying73 hi hz0 hz1 hz2 rfl (by omega) v1 l1.length (C8 l1) (by rfl) ((hown.alloc _).drew) ⟨wr.heap.size, 0, none⟩ 1 1 [_] (by rfl) (by rfl) (World.news_of_block (cs := #[_]) (t := 5) (fr := (0, 0)) (heap_alloc_new wr _)) (by simp [Value.oneCell']) (by omega) (by unfold maxLen; omega) (by omega) (by omega) (wr.heap.size + 1) (by simp) ?_; intro g2 cap2 w2 hown2 hgrow2 hat2 hgl2; obtain ⟨hc2, hf2⟩ := ready_store hW1 ((Kept.refl [] wr).alloc _).drew hgrow2))
      all_goals
        have L2 := laid_step hW1 ((Kept.refl [] wr).alloc _).drew (own_of (byte_shr n i) hown2) hgrow2 (new_of hat2)
        have L3 := Laid.trans hk1 hn1 L2
        clear hown2 hgrow2 hat2 hgl2 hc2 hf2 hown hcell hfree hll
        go_wp2
        go_roundw
        case rel => exact ⟨i, by omega, rfl, by have := HD1.out; rw [Nat.add_sub_cancel] at this; rw [this]; exact L3⟩
        case measure => simp [intOf]
/-- Writer.Number lays a number's bytes. -/
theorem wnum_any (p : Nat) (v : Value) (l : List UInt8) (n : Nat) (w : World) (hW : IsW 205 5 w p v l) (hn : n < 18446744073709551616) (hb : l.length + 9 ≤ 140737488355328) :
    Calls Tryz.prog 64 #[.pointer (some ⟨p, 0, none⟩), .int .u64 (n : Int)] w fun e w' => e = .returned (.tuple #[]) ∧ Laid 205 5 w p v (l ++ enc n) w' := by
  by_cases h : n ≤ 247
  · rw [show enc n = [UInt8.ofNat n] by unfold enc; rw [if_pos h]]
    exact wnum_small p v l n w hW h (by omega)
  · rw [show enc n = UInt8.ofNat (247 + width n) :: digits (width n) n by unfold enc; rw [if_neg h]]
    exact wnum_great p v l n w _ rfl hW (by omega) hn hb
end Go.Proofs.YtngnenbidpojeaaGreatDoor
/-
  Writer.Int and Writer.Text: what they lay.
-/
namespace Go.Proofs.YtngnenbidpojeaaGreatDoor
set_option maxRecDepth 100000
open Go.RowKit
set_option maxHeartbeats 400000 in
theorem wint_any (p : Nat) (v : Value) (l : List UInt8) (z : Int) (w : World) (hW : IsW 205 5 w p v l) (h1 : -9223372036854775808 ≤ z) (h2 : z ≤ 9223372036854775807) (hb : l.length + 9 ≤ 140737488355328) :
    Calls Tryz.prog 110 #[.pointer (some ⟨p, 0, none⟩), .int .i64 z] w fun e w' => e = .returned (.tuple #[]) ∧ Laid 205 5 w p v (l ++ enc (fold z)) w' := by
  have hf := fold_lt z h1 h2
  go_enter Tryz.func110, Tryz.ntmps110
  go_wp2_with (first | (go_at_call 139; refine (fold_any z _ h1 h2).mono ?_; rintro e w' ⟨rfl, rfl⟩) | (go_at_call 64; refine (wnum_any p v l (fold z) _ hW hf hb).mono ?_; rintro e w' ⟨rfl, hL⟩))
  go_end0
  exact ⟨rfl, hL⟩
set_option maxHeartbeats 1000000 in
theorem wtext_any (p : Nat) (v : Value) (l : List UInt8) (s : ByteArray) (w : World) (hW : IsW 205 5 w p v l) (hb : l.length + 9 + s.size ≤ 140737488355328) :
    Calls Tryz.prog 68 #[.pointer (some ⟨p, 0, none⟩), .string s] w fun e w' => e = .returned (.tuple #[]) ∧ Laid 205 5 w p v (l ++ enc s.size ++ s.data.toList) w' := by
  obtain ⟨i0, hi, hz0, hz1, hz2⟩ := info_parts info5
  have hlt := hW.lt
  have hel := enc_length s.size
  obtain ⟨hel1, hel2⟩ := hel
  go_enter Tryz.func68, Tryz.ntmps68
  go_wp2_with (first | (go_at_call 64; refine (wnum_any p v l s.size _ hW (by omega) (by omega)).mono ?_; rintro e w1 ⟨rfl, v1, hW1, hk1, hn1⟩; have hcell := cell_of_one hW1.box; have hfree := free_of_one hW1.box) | (at_builtin; refine wpList_append_str_lies _ rfl _ _ _ _ rfl 5 i0 Tryz.underlying73 Tryz.underlying9 hi hz0 hz1 hz2 v1 (l ++ enc s.size) rfl hW1.own s rfl (by rw [List.length_append]; omega) ?_; intro a2 n2 c2 w2 hown hgrow hat; obtain ⟨hc2, hf2⟩ := ready_store hW1 (Kept.refl [] w1) hgrow))
  go_end0
  exact ⟨rfl, Laid.trans hk1 hn1 (laid_step hW1 (Kept.refl [] w1) hown hgrow hat)⟩
end Go.Proofs.YtngnenbidpojeaaGreatDoor
/-
  awake: the program answers.
-/
namespace Go.Proofs.YtngnenbidpojeaaGreatDoor
set_option maxRecDepth 100000
open Go.RowKit
/-- A new Writer. -/
theorem new_isW (w : World) : IsW 205 5 (w.alloc (.cells #[.slice none 0 0] 205)) w.heap.size (.slice none 0 0) [] :=
  ⟨heap_alloc_new w _, Owns.nil 5 _, by simp [Value.ownBlock]⟩
end Go.Proofs.YtngnenbidpojeaaGreatDoor
/-
  lay: a letter's bytes behind those that a Writer has.
-/
namespace Go.Proofs.YtngnenbidpojeaaGreatDoor
set_option maxRecDepth 100000
open Go.RowKit
set_option linter.unusedVariables false
section
variable {w : World}
theorem Laid.next {w w1 w2 : World} {p : Nat} {v v1 : Value} {l1 l2 : List UInt8} (h : IsW 205 5 w1 p v1 l1 ∧ Kept (foot p v) w w1 ∧ New w v v1) (h2 : Laid 205 5 w1 p v1 l2 w2) : Laid 205 5 w p v l2 w2 := Laid.trans h.2.1 h.2.2 h2
theorem ReadsJ.kept3 {S : List Nat} {w w' : World} {v : Value} {l : List Int} (h : ReadsJ w v l) (k : Kept S w w') (hn : l ≠ [] → ∀ g, v.ownBlock = some g → g ∉ S) : ReadsJ w' v l := by
  by_cases hl : l = []
  · subst hl
    obtain ⟨a, cap, h1, h2, h3, h4, h5⟩ := h
    exact ⟨a, cap, h1, h2, h3, h4, fun h => absurd rfl h⟩
  · exact h.kept k (hn hl)
theorem ReadsJ.ltg {w : World} {v : Value} {l : List Int} (h : ReadsJ w v l) (hl : l ≠ []) {g : Nat} (hg : v.ownBlock = some g) : g < w.heap.size := by
  obtain ⟨g', h1, h2⟩ := h.lt hl
  rw [hg] at h1
  cases h1
  exact h2
theorem encJ_take (l : List Int) (j : Nat) (z : Int) (h : l[j]? = some z) : encJ (l.take (j + 1)) = encJ (l.take j) ++ enc (fold z) := by
  rw [List.take_add_one, h, encJ_append]
  simp [encJ]
set_option maxRecDepth 100000 in
set_option maxHeartbeats 1000000 in
theorem lay27 (p : Nat) (v : Value) (l : List UInt8) (x : Lt) (a : Option Addr) (c : Nat) (hW : IsW 205 5 w p v l) (hx : ReadsJ w (.slice a x.args.length c) x.args) (ha : x.args ≠ [] → ∀ g, (Value.slice a x.args.length c).ownBlock = some g → g ∉ foot p v) (hok : x.ok)
    (hb : l.length + x.fr.length + 9 * x.args.length + 45 ≤ 140737488355328) :
    Calls Tryz.prog 108 #[.pointer (some ⟨p, 0, none⟩), Lv x a c] w fun e w' => e = .returned (.tuple #[]) ∧ Laid 205 5 w p v (l ++ encL x) w' := by
  have e1 := enc_length x.fr.length
  have e2 := enc_length x.ser
  have e3 := enc_length (fold x.kind)
  have e4 := enc_length x.args.length
  have hs : Hid ((⟨x.fr.toArray⟩ : ByteArray).size = x.fr.length) := Hid.mk (by simp [ByteArray.size])
  obtain ⟨-, hac, hcc⟩ := hx.bound
  have HX := Hid.mk hx
  clear hx
  have hfl := fold_lt x.kind hok.kind.1 hok.kind.2
  have hplt := hW.lt
  have hser := hok.ser
  go_enter Tryz.func108, Tryz.ntmps108
  go_wp2_with fail
  obtain ⟨W0, e0, k0, hz0, hb0⟩ := box1 w (.cells #[Sv x.fr, .int .u64 (x.ser : Int), .int .i64 x.kind, .slice a x.args.length c] 81)
  rw [e0]
  clear e0
  have hW0 := hW.kept k0 (by simp) (by simp)
  have HB : Hid (∀ W, Kept (foot p v) W0 W → W.heap[w.heap.size]? = some (.cells #[Sv x.fr, .int .u64 (x.ser : Int), .int .i64 x.kind, .slice a x.args.length c] 81 (0, 0))) := fun W k => k.keeps hb0 (fun hm => by
    rcases mem_foot.1 hm with h | h
    · omega
    · have := hW.own.lt h; omega)
  have HA : Hid (∀ W, Kept (foot p v) W0 W → ReadsJ W (.slice a x.args.length c) x.args) := fun W k => HX.out.kept3 ((k0.mono (by simp)).trans k (fun x hx => .inl hx)) ha
  have HE : Hid (∀ W, Laid 205 5 W0 p v (l ++ encL x) W → Laid 205 5 w p v (l ++ encL x) W) := fun W h => Laid.trans (k0.mono (by simp)) (New.refl w v) h
  clear hb0 hz0 hplt k0 hW HX
  refine (wtext_any p v l ⟨x.fr.toArray⟩ W0 hW0 (by rw [hs.out]; omega)).mono ?_
  rintro e w1 ⟨rfl, v1, hW1, k1, n1⟩
  rw [hs.out] at hW1
  change IsW 205 5 w1 p v1 (l ++ enc x.fr.length ++ x.fr) at hW1
  obtain ⟨c0, c1, c2, c3⟩ := cells4 (HB.out _ k1)
  go_wp2_with fail
  refine (wnum_any p v1 _ x.ser w1 hW1 hser (by simp only [List.length_append]; omega)).mono ?_
  rintro e w2 ⟨rfl, L2⟩
  obtain ⟨v2, hW2, k2, n2⟩ := Laid.trans k1 n1 L2
  clear L2 hW1 k1 n1 c0 c1 c2 c3
  obtain ⟨c0, c1, c2, c3⟩ := cells4 (HB.out _ k2)
  go_wp2_with fail
  refine (wint_any p v2 _ x.kind w2 hW2 hok.kind.1 hok.kind.2 (by simp only [List.length_append]; omega)).mono ?_
  rintro e w3 ⟨rfl, L3⟩
  obtain ⟨v3, hW3, k3, n3⟩ := Laid.trans k2 n2 L3
  clear L3 hW2 k2 n2 c0 c1 c2 c3
  obtain ⟨c0, c1, c2, c3⟩ := cells4 (HB.out _ k3)
  go_wp2_with fail
  refine (wnum_any p v3 _ x.args.length w3 hW3 (by omega) (by simp only [List.length_append]; omega)).mono ?_
  rintro e w4 ⟨rfl, L4⟩
  have L4 := Laid.trans k3 n3 L4
  obtain ⟨v4, hW4, k4, n4⟩ := id L4
  clear hW3 k3 n3 c0 c1 c2 c3
  obtain ⟨c0, c1, c2, c3⟩ := cells4 (HB.out _ k4)
  go_wp2_with fail
  clear c0 c1 c2 c3 hW4 k4 n4
  go_loopw [27] (fun i wr => ∃ j : Nat, i = .int .i64 (j : Int) ∧ j ≤ x.args.length ∧ Laid 205 5 W0 p v (l ++ enc x.fr.length ++ x.fr ++ enc x.ser ++ enc (fold x.kind) ++ enc x.args.length ++ encJ (x.args.take j)) wr) (fun i _ => x.args.length - (intOf i).toNat)
  case atStart => exact ⟨0, rfl, by omega, by simpa [encJ] using L4⟩
  case round =>
    obtain ⟨j, rfl, hj, v5, hW5, k5, n5⟩ := hrel
    by_cases hlt : j < x.args.length
    · obtain ⟨z, hz⟩ : ∃ z, x.args[j]? = some z := ⟨_, List.getElem?_eq_getElem hlt⟩
      obtain ⟨b, o, rfl, hcell⟩ := (HA.out _ k5).at hz
      have hzk := hok.args z (List.mem_of_getElem? hz)
      have HZ := Hid.mk hz
      have hjI : (j : Int) < (x.args.length : Int) := by omega
      have hlj := encJ_length (x.args.take j)
      rw [List.length_take] at hlj
      clear hz
      go_wp2_with fail
      refine (wint_any p v5 _ z _ hW5 hzk.1 hzk.2 (by simp only [List.length_append]; omega)).mono ?_
      rintro e w6 ⟨rfl, L6⟩
      have L6 := Laid.trans k5 n5 L6
      go_wp2_with fail
      go_roundw
      case rel =>
        refine ⟨j + 1, by go_num, by omega, ?_⟩
        rw [encJ_take _ _ _ HZ.out, ← List.append_assoc]
        exact L6
      case measure => simp [intOf]; omega
    · obtain rfl : j = x.args.length := by omega
      go_wp2
      go_end0
      refine ⟨rfl, HE.out _ ?_⟩
      refine ⟨v5, ?_, k5, n5⟩
      rw [List.take_length] at hW5
      simpa only [encL, List.append_assoc] using hW5
end
end Go.Proofs.YtngnenbidpojeaaGreatDoor
/-
  CodecOne: the walk.
-/
namespace Go.Proofs.YtngnenbidpojeaaGreatDoor
set_option maxRecDepth 100000
open Go.RowKit
attribute [local go_sem ↓] Go.wp_at_zero Go.wp_at_succ
theorem Reads.drew {w : World} {v : Value} {l : List UInt8} (h : Reads w v l) : Reads w.drew v l := h
theorem IsR.drewN {t : TypeId} {w : World} {p : Nat} {v : Value} {l : List UInt8} {bad : Bool} (h : IsR t w p v l bad) (k : Nat) : IsR t (w.drewN k) p v l bad := ⟨h.box, h.reads, h.apart, h.none⟩
theorem IsR.drew {t : TypeId} {w : World} {p : Nat} {v : Value} {l : List UInt8} {bad : Bool} (h : IsR t w p v l bad) : IsR t w.drew p v l bad := ⟨h.box, h.reads, h.apart, h.none⟩
end Go.Proofs.YtngnenbidpojeaaGreatDoor
/-
  Encode, and the document's Lay and Encode.
-/
namespace Go.Proofs.YtngnenbidpojeaaGreatDoor
set_option maxRecDepth 100000
open Go.RowKit
set_option linter.unusedVariables false
section
variable {w : World}
/-- Bytes in new memory, and an error's number. -/
def TwoB (w : World) (B : List UInt8) (E : Int) (e : Ending) (w' : World) : Prop := ∃ v, e = .returned (.tuple #[v, .int .i64 E]) ∧ Owns 5 w' v B ∧ Kept [] w w' ∧ Fresh w v
def encE (x : Lt) : Int := if x.formed = true then 0 else 1
def encB (x : Lt) : List UInt8 := if x.formed = true then encL x else []
theorem fresh_nil (w : World) (c : Nat) : Fresh w (.slice none c 0) := fun g hg => by simp [Value.ownBlock] at hg
theorem newW (w : World) : Calls Tryz.prog 63 #[] w fun e w' => ∃ p, e = .returned (.pointer (some ⟨p, 0, none⟩)) ∧ IsW 205 5 w' p (.slice none 0 0) [] ∧ Kept [] w w' ∧ w.heap.size ≤ p :=
  (new_w w).mono fun e w' ⟨he, hw⟩ => ⟨_, he, by subst hw; exact new_isW w, by subst hw; exact (Kept.refl [] w).alloc _, Nat.le_refl _⟩
theorem foot_nil (p : Nat) : foot p (.slice none 0 0) = [p] := rfl
theorem new_nil {w : World} {v : Value} (h : New w (.slice none 0 0) v) : Fresh w v := fun g hg => by
  rcases h g hg with h1 | h1
  · simp [Value.ownBlock] at h1
  · exact h1
end
end Go.Proofs.YtngnenbidpojeaaGreatDoor
