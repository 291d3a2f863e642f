import Derived.OpenShut
import Derived.Deep.QuietTactic
import Derived.BigQuiet
import Derived.Test.YtdadloaifebdiaaGreatQ01
import Derived.Test.YtdadloaifebdiaaGreatQ03
import Derived.Test.YtdadloaifebdiaaGreatQ05
/-
  Writer.Int and Writer.Text: what they lay.
-/
namespace Go.Proofs.YtdadloaifebdiaaGreat
set_option maxRecDepth 100000
open Go.RowKit
set_option maxHeartbeats 400000 in
theorem wint_nil (z : Int) (w : World) (h1 : -9223372036854775808 ≤ z) (h2 : z ≤ 9223372036854775807) : Calls Tryz.prog 88 #[.pointer none, .int .i64 z] w fun e w' => e = .returned (.tuple #[]) ∧ w = w' := by
  go_enter Tryz.func88, Tryz.ntmps88
  go_wp2_with (first | (go_at_call 117; refine (fold_any z _ h1 h2).mono ?_; rintro e w' ⟨rfl, rfl⟩) | (go_at_call 32; refine (wnum_nil _ _).mono ?_; rintro e w' ⟨rfl, rfl⟩))
  go_end0
  exact ⟨rfl, rfl⟩
set_option maxHeartbeats 400000 in
theorem wint_any (p : Nat) (v : Value) (l : List UInt8) (z : Int) (w : World) (hW : IsW 144 5 w p v l) (h1 : -9223372036854775808 ≤ z) (h2 : z ≤ 9223372036854775807) (hb : l.length + 9 ≤ 140737488355328) :
    Calls Tryz.prog 88 #[.pointer (some ⟨p, 0, none⟩), .int .i64 z] w fun e w' => e = .returned (.tuple #[]) ∧ Laid 144 5 w p v (l ++ enc (fold z)) w' := by
  have hf := fold_lt z h1 h2
  go_enter Tryz.func88, Tryz.ntmps88
  go_wp2_with (first | (go_at_call 117; refine (fold_any z _ h1 h2).mono ?_; rintro e w' ⟨rfl, rfl⟩) | (go_at_call 32; refine (wnum_any p v l (fold z) _ hW hf hb).mono ?_; rintro e w' ⟨rfl, hL⟩))
  go_end0
  exact ⟨rfl, hL⟩
set_option maxHeartbeats 400000 in
theorem wtext_nil (s : ByteArray) (w : World) : Calls Tryz.prog 36 #[.pointer none, .string s] w fun e w' => e = .returned (.tuple #[]) ∧ w = w' := by
  go_enter Tryz.func36, Tryz.ntmps36
  go_wp2
  refine bodyPost_ret (results_none rfl _ _ _) rfl ?_
  exact ⟨rfl, rfl⟩
theorem laid_str {t e : TypeId} {w w1 w2 : World} {p : Nat} {v v2 : Value} {l l2 : List UInt8} (hW : IsW t e w p v l) (hown : Owns e w1 v2 l2) (hg : w.grownBy w1 v.ownBlock) (hat : New w v v2) (h2 : w2 = w1.setCell ⟨p, 0, none⟩ v2) : Laid t e w p v l2 w2 := by
  subst h2
  exact laid_step hW (Kept.refl [] w) hown hg hat
set_option maxHeartbeats 1000000 in
theorem wtext_any (p : Nat) (v : Value) (l : List UInt8) (s : ByteArray) (w : World) (hW : IsW 144 5 w p v l) (hb : l.length + 9 + s.size ≤ 140737488355328) :
    Calls Tryz.prog 36 #[.pointer (some ⟨p, 0, none⟩), .string s] w fun e w' => e = .returned (.tuple #[]) ∧ Laid 144 5 w p v (l ++ enc s.size ++ s.data.toList) w' := by
  obtain ⟨i0, hi, hz0, hz1, hz2⟩ := info_parts info5
  have hlt := hW.lt
  have hel := enc_length s.size
  obtain ⟨hel1, hel2⟩ := hel
  go_enter Tryz.func36, Tryz.ntmps36
  go_wp2_with (first | (go_at_call 32; refine (wnum_any p v l s.size _ hW (by omega) (by omega)).mono ?_; rintro e w1 ⟨rfl, v1, hW1, hk1, hn1⟩; have hcell := cell_of_one hW1.box; have hfree := free_of_one hW1.box) | (at_builtin; refine wpList_append_str_lies _ rfl _ _ _ _ rfl 5 i0 Tryz.underlying22 Tryz.underlying9 hi hz0 hz1 hz2 v1 (l ++ enc s.size) rfl hW1.own s rfl (by rw [List.length_append]; omega) ?_; intro a2 n2 c2 w2 hown hgrow hat; obtain ⟨hc2, hf2⟩ := ready_store hW1 (Kept.refl [] w1) hgrow))
  go_end0
  exact ⟨rfl, Laid.trans hk1 hn1 (laid_step hW1 (Kept.refl [] w1) hown hgrow hat)⟩
end Go.Proofs.YtdadloaifebdiaaGreat
/-
  awake: the program answers.
-/
namespace Go.Proofs.YtdadloaifebdiaaGreat
set_option maxRecDepth 100000
open Go.RowKit
/-- A new Writer. -/
theorem new_isW (w : World) : IsW 144 5 (w.alloc (.cells #[.slice none 0 0] 144)) w.heap.size (.slice none 0 0) [] :=
  ⟨heap_alloc_new w _, Owns.nil 5 _, by simp [Value.ownBlock]⟩
/-- A row of bytes that was just laid reads as it was laid. -/
theorem reads_new (w : World) (l : List UInt8) (hl : l.length ≤ maxLen) : Reads (w.alloc (.cells (C8 l).toArray 5)) (.slice (some ⟨w.heap.size, 0, none⟩) l.length l.length) l := by
  refine ⟨_, l.length, rfl, Nat.le_refl _, hl, by simp, fun _ => ⟨w.heap.size, 0, rfl, fun j u hu => ?_⟩⟩
  have h := World.news_of_block (w := w.alloc (.cells (C8 l).toArray 5)) (heap_alloc_new w _) j (B8 u) (by simp [C8, hu])
  have hadd : (⟨w.heap.size, 0, Option.none⟩ : Addr).add j = ⟨w.heap.size, 0 + j, Option.none⟩ := by unfold Addr.add; split <;> simp_all
  rw [hadd] at h
  exact h
theorem enc300 : enc 300 = [249, 1, 44] := by decide
theorem rnum300 : rnum [249, 1, 44] false = (300, [], false) := by decide
end Go.Proofs.YtdadloaifebdiaaGreat
/-
  lay: a letter's bytes behind those that a Writer has.
-/
namespace Go.Proofs.YtdadloaifebdiaaGreat
set_option maxRecDepth 100000
open Go.RowKit
set_option linter.unusedVariables false
section
variable {w : World}
theorem Laid.next {w w1 w2 : World} {p : Nat} {v v1 : Value} {l1 l2 : List UInt8} (h : IsW 144 5 w1 p v1 l1 ∧ Kept (foot p v) w w1 ∧ New w v v1) (h2 : Laid 144 5 w1 p v1 l2 w2) : Laid 144 5 w p v l2 w2 := Laid.trans h.2.1 h.2.2 h2
theorem ReadsJ.kept3 {S : List Nat} {w w' : World} {v : Value} {l : List Int} (h : ReadsJ w v l) (k : Kept S w w') (hn : l ≠ [] → ∀ g, v.ownBlock = some g → g ∉ S) : ReadsJ w' v l := by
  by_cases hl : l = []
  · subst hl
    obtain ⟨a, cap, h1, h2, h3, h4, h5⟩ := h
    exact ⟨a, cap, h1, h2, h3, h4, fun h => absurd rfl h⟩
  · exact h.kept k (hn hl)
theorem ReadsJ.ltg {w : World} {v : Value} {l : List Int} (h : ReadsJ w v l) (hl : l ≠ []) {g : Nat} (hg : v.ownBlock = some g) : g < w.heap.size := by
  obtain ⟨g', h1, h2⟩ := h.lt hl
  rw [hg] at h1
  cases h1
  exact h2
theorem encJ_take (l : List Int) (j : Nat) (z : Int) (h : l[j]? = some z) : encJ (l.take (j + 1)) = encJ (l.take j) ++ enc (fold z) := by
  rw [List.take_add_one, h, encJ_append]
  simp [encJ]
set_option maxRecDepth 100000 in
set_option maxHeartbeats 1000000 in
theorem lay27 (p : Nat) (v : Value) (l : List UInt8) (x : Lt) (a : Option Addr) (c : Nat) (hW : IsW 144 5 w p v l) (hx : ReadsJ w (.slice a x.args.length c) x.args) (ha : x.args ≠ [] → ∀ g, (Value.slice a x.args.length c).ownBlock = some g → g ∉ foot p v) (hok : x.ok)
    (hb : l.length + x.fr.length + 9 * x.args.length + 45 ≤ 140737488355328) :
    Calls Tryz.prog 86 #[.pointer (some ⟨p, 0, none⟩), Lv x a c] w fun e w' => e = .returned (.tuple #[]) ∧ Laid 144 5 w p v (l ++ encL x) w' := by
  have e1 := enc_length x.fr.length
  have e2 := enc_length x.ser
  have e3 := enc_length (fold x.kind)
  have e4 := enc_length x.args.length
  have hs : Hid ((⟨x.fr.toArray⟩ : ByteArray).size = x.fr.length) := Hid.mk (by simp [ByteArray.size])
  obtain ⟨-, hac, hcc⟩ := hx.bound
  have HX := Hid.mk hx
  clear hx
  have hfl := fold_lt x.kind hok.kind.1 hok.kind.2
  have hplt := hW.lt
  have hser := hok.ser
  go_enter Tryz.func86, Tryz.ntmps86
  go_wp2_with fail
  obtain ⟨W0, e0, k0, hz0, hb0⟩ := box1 w (.cells #[Sv x.fr, .int .u64 (x.ser : Int), .int .i64 x.kind, .slice a x.args.length c] 90)
  rw [e0]
  clear e0
  have hW0 := hW.kept k0 (by simp) (by simp)
  have HB : Hid (∀ W, Kept (foot p v) W0 W → W.heap[w.heap.size]? = some (.cells #[Sv x.fr, .int .u64 (x.ser : Int), .int .i64 x.kind, .slice a x.args.length c] 90 (0, 0))) := fun W k => k.keeps hb0 (fun hm => by
    rcases mem_foot.1 hm with h | h
    · omega
    · have := hW.own.lt h; omega)
  have HA : Hid (∀ W, Kept (foot p v) W0 W → ReadsJ W (.slice a x.args.length c) x.args) := fun W k => HX.out.kept3 ((k0.mono (by simp)).trans k (fun x hx => .inl hx)) ha
  have HE : Hid (∀ W, Laid 144 5 W0 p v (l ++ encL x) W → Laid 144 5 w p v (l ++ encL x) W) := fun W h => Laid.trans (k0.mono (by simp)) (New.refl w v) h
  clear hb0 hz0 hplt k0 hW HX
  refine (wtext_any p v l ⟨x.fr.toArray⟩ W0 hW0 (by rw [hs.out]; omega)).mono ?_
  rintro e w1 ⟨rfl, v1, hW1, k1, n1⟩
  rw [hs.out] at hW1
  change IsW 144 5 w1 p v1 (l ++ enc x.fr.length ++ x.fr) at hW1
  obtain ⟨c0, c1, c2, c3⟩ := cells4 (HB.out _ k1)
  go_wp2_with fail
  refine (wnum_any p v1 _ x.ser w1 hW1 hser (by simp only [List.length_append]; omega)).mono ?_
  rintro e w2 ⟨rfl, L2⟩
  obtain ⟨v2, hW2, k2, n2⟩ := Laid.trans k1 n1 L2
  clear L2 hW1 k1 n1 c0 c1 c2 c3
  obtain ⟨c0, c1, c2, c3⟩ := cells4 (HB.out _ k2)
  go_wp2_with fail
  refine (wint_any p v2 _ x.kind w2 hW2 hok.kind.1 hok.kind.2 (by simp only [List.length_append]; omega)).mono ?_
  rintro e w3 ⟨rfl, L3⟩
  obtain ⟨v3, hW3, k3, n3⟩ := Laid.trans k2 n2 L3
  clear L3 hW2 k2 n2 c0 c1 c2 c3
  obtain ⟨c0, c1, c2, c3⟩ := cells4 (HB.out _ k3)
  go_wp2_with fail
  refine (wnum_any p v3 _ x.args.length w3 hW3 (by omega) (by simp only [List.length_append]; omega)).mono ?_
  rintro e w4 ⟨rfl, L4⟩
  have L4 := Laid.trans k3 n3 L4
  obtain ⟨v4, hW4, k4, n4⟩ := id L4
  clear hW3 k3 n3 c0 c1 c2 c3
  obtain ⟨c0, c1, c2, c3⟩ := cells4 (HB.out _ k4)
  go_wp2_with fail
  clear c0 c1 c2 c3 hW4 k4 n4
  go_loopw [27] (fun i wr => ∃ j : Nat, i = .int .i64 (j : Int) ∧ j ≤ x.args.length ∧ Laid 144 5 W0 p v (l ++ enc x.fr.length ++ x.fr ++ enc x.ser ++ enc (fold x.kind) ++ enc x.args.length ++ encJ (x.args.take j)) wr) (fun i _ => x.args.length - (intOf i).toNat)
  case atStart => exact ⟨0, rfl, by omega, by simpa [encJ] using L4⟩
  case round =>
    obtain ⟨j, rfl, hj, v5, hW5, k5, n5⟩ := hrel
    by_cases hlt : j < x.args.length
    · obtain ⟨z, hz⟩ : ∃ z, x.args[j]? = some z := ⟨_, List.getElem?_eq_getElem hlt⟩
      obtain ⟨b, o, rfl, hcell⟩ := (HA.out _ k5).at hz
      have hzk := hok.args z (List.mem_of_getElem? hz)
      have HZ := Hid.mk hz
      have hjI : (j : Int) < (x.args.length : Int) := by omega
      have hlj := encJ_length (x.args.take j)
      rw [List.length_take] at hlj
      clear hz
      go_wp2_with fail
      refine (wint_any p v5 _ z _ hW5 hzk.1 hzk.2 (by simp only [List.length_append]; omega)).mono ?_
      rintro e w6 ⟨rfl, L6⟩
      have L6 := Laid.trans k5 n5 L6
      go_wp2_with fail
      go_roundw
      case rel =>
        refine ⟨j + 1, by go_num, by omega, ?_⟩
        rw [encJ_take _ _ _ HZ.out, ← List.append_assoc]
        exact L6
      case measure => simp [intOf]; omega
    · obtain rfl : j = x.args.length := by omega
      go_wp2
      go_end0
      refine ⟨rfl, HE.out _ ?_⟩
      refine ⟨v5, ?_, k5, n5⟩
      rw [List.take_length] at hW5
      simpa only [encL, List.append_assoc] using hW5
end
end Go.Proofs.YtdadloaifebdiaaGreat
/-
  The document's own Number, Int and Text, as the statements have them: what they lay behind a slice of their own.
-/
namespace Go.Proofs.YtdadloaifebdiaaGreat
set_option maxRecDepth 100000
open Go.RowKit
/-- What 'append' to v leaves: a slice that owns l, in v's row or in new memory; no other old block has turned. -/
def Grew (e : TypeId) (w : World) (v : Value) (l : List UInt8) (v' : Value) (w' : World) : Prop :=
  Owns e w' v' l ∧ Kept v.ownBlock.toList w w' ∧ New w v v'
theorem Grew.trans {e : TypeId} {w w1 w2 : World} {v v1 v2 : Value} {l2 : List UInt8} (k : Kept v.ownBlock.toList w w1) (hn : New w v v1) (h2 : Grew e w1 v1 l2 v2 w2) : Grew e w v l2 v2 w2 := by
  obtain ⟨h1, k2, n2⟩ := h2
  refine ⟨h1, k.trans k2 ?_, hn.trans n2 k.size⟩
  intro x hx
  rw [Option.mem_toList] at hx
  rcases hn x hx with h | h
  · exact .inl (by rw [Option.mem_toList]; exact h)
  · exact .inr h
theorem grew_step {e : TypeId} {w w0 w1 : World} {v v1 : Value} {l1 : List UInt8} (k0 : Kept [] w w0) (hown : Owns e w1 v1 l1) (hg : w0.grownBy w1 v.ownBlock) (hat : New w v v1) : Grew e w v l1 v1 w1 :=
  ⟨hown, (k0.mono (by simp)).grown hg (fun k hk => .inl (by rw [Option.mem_toList]; exact hk)), hat⟩
set_option maxRecDepth 100000 in
set_option maxHeartbeats 1000000 in
theorem refnum_small (v : Value) (l : List UInt8) (n : Nat) (w : World) (hW : Owns 5 w v l) (hn : n ≤ 247) (hb : l.length + 1 ≤ 140737488355328) :
    Calls Tryz.prog 59 #[v, .int .u64 (n : Int)] w fun e w' => ∃ v', e = .returned v' ∧ Grew 5 w v (l ++ [UInt8.ofNat n]) v' w' := by
  obtain ⟨i0, hi, hz0, hz1, hz2⟩ := info_parts info5
  have hown : w.ownsRow 0 5 1 v l.length (C8 l) := hW
  go_enter Tryz.func59, Tryz.ntmps59
  go_wp2_with (at_builtin; refine wpList_append_lies _ rfl _ _ _ rfl 0 5 i0 _ 1 1 Tryz.underlying22 hi hz0 hz1 hz2 rfl (by omega) v l.length (C8 l) rfl (hown.alloc _) ⟨w.heap.size, 0, none⟩ 1 1 [.int .u8 (n : Int)] rfl rfl (World.news_of_block (cs := #[.int .u8 (n : Int)]) (t := 5) (fr := (0, 0)) (heap_alloc_new w _)) (by simp [Value.oneCell']) (by omega) (by unfold maxLen; omega) (by omega) (by omega) (w.heap.size + 1) (by simp) ?_; intro g cap w1 hown1 hgrow hat hgl)
  go_ret
  exact ⟨_, rfl, grew_step ((Kept.refl [] w).alloc _) (own_of (by omega) hown1) hgrow (new_of hat)⟩
theorem shr_pos (n j : Nat) (h : 256 ^ j ≤ n) : (0 : Int) < (n : Int) / 2 ^ (8 * j) := by
  have e3 : (256 : Nat) ^ j = 2 ^ (8 * j) := by rw [show (256 : Nat) = 2 ^ 8 from rfl, ← Nat.pow_mul]
  have e5 : ((n : Int) / 2 ^ (8 * j)) = ((n / 2 ^ (8 * j) : Nat) : Int) := by simp
  rw [e5]
  have := Nat.div_pos (by rw [← e3]; exact h) (Nat.two_pow_pos (8 * j))
  omega
theorem shr_zero (n j : Nat) (h : n < 256 ^ j) : ¬ (0 : Int) < (n : Int) / 2 ^ (8 * j) := by
  have e3 : (256 : Nat) ^ j = 2 ^ (8 * j) := by rw [show (256 : Nat) = 2 ^ 8 from rfl, ← Nat.pow_mul]
  have e5 : ((n : Int) / 2 ^ (8 * j)) = ((n / 2 ^ (8 * j) : Nat) : Int) := by simp
  rw [e5]
  have := Nat.div_eq_of_lt (by rw [← e3]; exact h : n < 2 ^ (8 * j))
  omega
theorem byte_shr' (n i : Nat) : (n : Int) / 2 ^ (8 * i) % 256 = ((n / 256 ^ i % 256 : Nat) : Int) := by
  have e3 : (256 : Nat) ^ i = 2 ^ (8 * i) := by rw [show (256 : Nat) = 2 ^ 8 from rfl, ← Nat.pow_mul]
  have e5 : ((n : Int) / 2 ^ (8 * i)) = ((n / 2 ^ (8 * i) : Nat) : Int) := by simp
  rw [e5, e3]
  omega
theorem width_at (n j : Nat) (hn : n < 18446744073709551616) (hj : j < width n) (h1 : 1 ≤ j) : 256 ^ j ≤ n := by
  by_cases h : 256 ≤ n
  · exact Nat.le_trans (Nat.pow_le_pow_right (by omega) (by omega)) (width_ge n h)
  · have : width n = 1 := by simp [width]; omega
    omega
set_option maxRecDepth 100000 in
set_option maxHeartbeats 2000000 in
theorem refnum_great (v : Value) (l : List UInt8) (n : Nat) (w : World) (hd : UInt8) (hhd : Hid (hd = UInt8.ofNat (247 + width n))) (hW : Owns 5 w v l) (hn : 248 ≤ n) (hn2 : n < 18446744073709551616) (hb : l.length + 9 ≤ 140737488355328) :
    Calls Tryz.prog 59 #[v, .int .u64 (n : Int)] w fun e w' => ∃ v', e = .returned v' ∧ Grew 5 w v (l ++ (hd :: digits (width n) n)) v' w' := by
  obtain ⟨i0, hi, hz0, hz1, hz2⟩ := info_parts info5
  have hown : w.ownsRow 0 5 1 v l.length (C8 l) := hW
  have hwp := width_pos n
  obtain ⟨hw1, hw8⟩ := hwp
  go_enter Tryz.func59, Tryz.ntmps59
  go_wp2
  go_loop [5] (fun i => ∃ j : Nat, 1 ≤ j ∧ j ≤ width n ∧ i = .int .i64 (j : Int)) (fun i => 9 - (intOf i).toNat)
  case atStart => exact ⟨1, Nat.le_refl _, hw1, rfl⟩
  case round =>
    obtain ⟨j, hj1, hj2, rfl⟩ := hrel
    by_cases hjw : j < width n
    · have a1 : (j : Int) < 8 := by omega
      have a2 := shr_pos n j (width_at n j hn2 hjw hj1)
      go_wp2
      go_round
      case rel => exact ⟨j + 1, by omega, by omega, by go_num⟩
      case measure => simp [intOf]; omega
    · have hje : j = width n := by omega
      subst hje
      clear hjw hj1 hj2
      have a2 := shr_zero n (width n) (width_lt n hn2)
      by_cases h8 : (width n : Int) < 8
      all_goals
        go_wp2_with (at_builtin; refine wpList_append_lies _ rfl _ _ _ rfl 0 5 i0 _ 1 1 Tryz.underlying22 hi hz0 hz1 hz2 rfl (by omega) v l.length (C8 l) rfl (hown.alloc _) ⟨w.heap.size, 0, none⟩ 1 1 [.int .u8 (247 + (width n : Int))] rfl rfl (World.news_of_block (cs := #[.int .u8 (247 + (width n : Int))]) (t := 5) (fr := (0, 0)) (heap_alloc_new w _)) (by simp [Value.oneCell']) (by omega) (by unfold maxLen; omega) (by omega) (by omega) (w.heap.size + 1) (by simp) ?_; intro g cap w1 hown1 hgrow hat hgl)
        have L1 := grew_step (w := w) ((Kept.refl [] w).alloc _) (own_of (n := 247 + width n) (by omega) hown1) hgrow (new_of hat)
        rw [← hhd.out] at L1
        clear hown1 hgrow hat hgl a2 h8
        go_loopw [0, 6] (fun bv i wr => ∃ j : Nat, j ≤ width n ∧ i = .int .i64 ((j : Int) - 1) ∧ Grew 5 w v (l ++ [hd] ++ (digits (width n) n).take (width n - j)) bv wr) (fun _ i _ => (intOf i + 1).toNat)
        case atStart => exact ⟨width n, Nat.le_refl _, rfl, by simpa using L1⟩
        case round =>
          obtain ⟨j, hj, rfl, hW1, hk1, hn1⟩ := hrel
          clear L1
          have hll : (l ++ [hd] ++ (digits (width n) n).take (width n - j)).length ≤ l.length + 8 + 1 - j := by
            simp only [List.length_append, List.length_take, digits_length, List.length_cons, List.length_nil]; omega
          have HD : 1 ≤ j → Hid (l ++ [hd] ++ (digits (width n) n).take (width n - (j - 1)) = l ++ [hd] ++ (digits (width n) n).take (width n - j) ++ [UInt8.ofNat (n / 256 ^ (j - 1))]) := fun h1 => by
            show _ = _
            rw [digits_take (width n) n j h1 hj, List.append_assoc _ (List.take _ _)]
          have HE : j = 0 → Hid (l ++ [hd] ++ (digits (width n) n).take (width n - j) = l ++ (hd :: digits (width n) n)) := by
            rintro rfl
            show _ = _
            rw [Nat.sub_zero, List.take_of_length_le (by rw [digits_length]; exact Nat.le_refl _)]; simp
          generalize (l ++ [hd] ++ (digits (width n) n).take (width n - j)) = l1 at hW1 hll HD HE
          have hown1 : wr.ownsRow 0 5 1 u0 l1.length (C8 l1) := hW1
          by_cases hj0 : j = 0
          · have HE0 := HE hj0
            clear HD HE
            subst hj0
            go_wp2
            go_ret
            exact ⟨u0, rfl, by rw [← HE0.out]; exact hW1, hk1, hn1⟩
          · obtain ⟨i, rfl⟩ : ∃ i, j = i + 1 := ⟨j - 1, by omega⟩
            have ei : ((i + 1 : Nat) : Int) - 1 = (i : Int) := by omega
            rw [ei]
            clear ei
            have hi7 : (i : Int) ≤ 7 := by omega
            have HD1 := HD (by omega)
            clear HD HE
            go_wp2_with (at_builtin; refine wpList_append_lies _ rfl _ _ _ rfl 0 5 i0 _ 1 1 Tryz.underlying22 hi hz0 hz1 hz2 rfl (by omega) u0 l1.length (C8 l1) rfl (hown1.alloc _) ⟨wr.heap.size, 0, none⟩ 1 1 [_] rfl rfl (World.news_of_block (cs := #[_]) (t := 5) (fr := (0, 0)) (heap_alloc_new wr _)) (by simp [Value.oneCell']) (by omega) (by unfold maxLen; omega) (by omega) (by omega) (wr.heap.size + 1) (by simp) ?_; intro g2 cap2 w2 hown2 hgrow2 hat2 hgl2)
            have L2 := grew_step (w := wr) ((Kept.refl [] wr).alloc _) (own_of (byte_shr' n i) hown2) hgrow2 (new_of hat2)
            have L3 := Grew.trans hk1 hn1 L2
            refine ⟨⟨i, by omega, rfl, ?_⟩, by simp [intOf]⟩
            have h := HD1.out
            rw [Nat.add_sub_cancel] at h
            rw [h]
            exact L3
/-- The document's Number: a number's bytes behind others. -/
theorem refnum_any (v : Value) (l : List UInt8) (n : Nat) (w : World) (hW : Owns 5 w v l) (hn : n < 18446744073709551616) (hb : l.length + 9 ≤ 140737488355328) :
    Calls Tryz.prog 59 #[v, .int .u64 (n : Int)] w fun e w' => ∃ v', e = .returned v' ∧ Grew 5 w v (l ++ enc n) v' w' := by
  by_cases h : n ≤ 247
  · rw [show enc n = [UInt8.ofNat n] by unfold enc; rw [if_pos h]]
    exact refnum_small v l n w hW h (by omega)
  · rw [show enc n = UInt8.ofNat (247 + width n) :: digits (width n) n by unfold enc; rw [if_neg h]]
    exact refnum_great v l n w _ rfl hW (by omega) hn hb
set_option maxHeartbeats 1000000 in
/-- The document's Text. -/
theorem reftext_any (v : Value) (l : List UInt8) (s : ByteArray) (w : World) (hW : Owns 5 w v l) (hb : l.length + 9 + s.size ≤ 140737488355328) :
    Calls Tryz.prog 60 #[v, .string s] w fun e w' => ∃ v', e = .returned v' ∧ Grew 5 w v (l ++ enc s.size ++ s.data.toList) v' w' := by
  obtain ⟨i0, hi, hz0, hz1, hz2⟩ := info_parts info5
  have hel := enc_length s.size
  obtain ⟨hel1, hel2⟩ := hel
  go_enter Tryz.func60, Tryz.ntmps60
  go_wp2_with (first | (go_at_call 59; refine (refnum_any v l s.size _ hW (by omega) (by omega)).mono ?_; rintro e w1 ⟨v1, rfl, hW1, hk1, hn1⟩) | (at_builtin; refine wpList_append_str_lies _ rfl _ _ _ _ rfl 5 i0 Tryz.underlying22 Tryz.underlying9 hi hz0 hz1 hz2 v1 (l ++ enc s.size) rfl hW1 s rfl (by rw [List.length_append]; omega) ?_; intro a2 n2 c2 w2 hown hgrow hat))
  go_ret
  exact ⟨_, rfl, Grew.trans hk1 hn1 (grew_step (Kept.refl [] w1) hown hgrow hat)⟩
set_option maxHeartbeats 1000000 in
/-- The document's Int. -/
theorem refint_any (v : Value) (l : List UInt8) (z : Int) (w : World) (hW : Owns 5 w v l) (h1 : -9223372036854775808 ≤ z) (h2 : z ≤ 9223372036854775807) (hb : l.length + 9 ≤ 140737488355328) :
    Calls Tryz.prog 110 #[v, .int .i64 z] w fun e w' => ∃ v', e = .returned v' ∧ Grew 5 w v (l ++ enc (fold z)) v' w' := by
  by_cases h : 0 ≤ z
  · have HF : Hid (z * 2 = ((fold z : Nat) : Int)) := by show _ = _; unfold fold; split <;> omega
    go_enter Tryz.func110, Tryz.ntmps110
    go_wp2_with fail
    rw [HF.out]
    refine (refnum_any v l (fold z) _ hW (fold_lt z h1 h2) hb).mono ?_
    rintro e w1 ⟨v1, rfl, hG⟩
    go_wp2_with fail
    go_ret
    exact ⟨v1, rfl, hG⟩
  · have HF : Hid (bits .or .u64 ((-(z + 1)) * 2) 1 = ((fold z : Nat) : Int)) := by
      show _ = _
      obtain ⟨m, hm⟩ := Int.eq_ofNat_of_zero_le (show (0 : Int) ≤ -(z + 1) by omega)
      have h3 := u64_or_nat (m * 2) 1 (by omega) (by omega)
      have e := Nat.two_pow_add_eq_or_of_lt (b := 1) (i := 1) (by omega) m
      rw [show (2 : Nat) ^ 1 * m = m * 2 by omega] at e
      rw [← e] at h3
      rw [hm]
      have h4 : ((m * 2 : Nat) : Int) = (m : Int) * 2 := by omega
      rw [h4] at h3
      have h5 : (((1 : Nat) : Int)) = 1 := rfl
      rw [h5] at h3
      rw [h3]
      unfold fold; split <;> omega
    go_enter Tryz.func110, Tryz.ntmps110
    go_wp2_with fail
    rw [HF.out]
    refine (refnum_any v l (fold z) _ hW (fold_lt z h1 h2) hb).mono ?_
    rintro e w1 ⟨v1, rfl, hG⟩
    go_wp2_with fail
    go_ret
    exact ⟨v1, rfl, hG⟩
end Go.Proofs.YtdadloaifebdiaaGreat
/-
  CodecOne: the walk.
-/
namespace Go.Proofs.YtdadloaifebdiaaGreat
set_option maxRecDepth 100000
open Go.RowKit
attribute [local go_sem ↓] Go.wp_at_zero Go.wp_at_succ
/-- Bytes that are read stay where no old block of theirs turns. -/
theorem Reads.kept2 {S : List Nat} {w w' : World} {v : Value} {l : List UInt8} (h : Reads w v l) (k : Kept S w w') (hn : ∀ g, v.ownBlock = some g → g < w.heap.size → g ∉ S) : Reads w' v l := by
  by_cases hl : l = []
  · obtain ⟨a, cap, rfl, h2, h3, h4, h5⟩ := h
    exact ⟨a, cap, rfl, h2, h3, h4, fun h => absurd hl h⟩
  · obtain ⟨g, hg, hlt⟩ := h.lt hl
    exact h.kept k fun g' hg' => hn g' hg' (by rw [hg] at hg'; injection hg' with e; omega)
theorem IsR.kept2 {t : TypeId} {S : List Nat} {w w' : World} {p : Nat} {v : Value} {l : List UInt8} {bad : Bool} (h : IsR t w p v l bad) (k : Kept S w w') (hS : ∀ g ∈ S, w.heap.size ≤ g) : IsR t w' p v l bad :=
  ⟨k.keeps h.box (fun hm => by have := hS p hm; have := h.lt; omega), h.reads.kept2 k (fun g _ hlt hm => by have := hS g hm; omega), h.apart, h.none⟩
theorem IsW.kept2 {t e : TypeId} {S : List Nat} {w w' : World} {p : Nat} {v : Value} {l : List UInt8} (h : IsW t e w p v l) (k : Kept S w w') (hS : ∀ g ∈ S, w.heap.size ≤ g) : IsW t e w' p v l :=
  h.kept k (fun hm => by have := hS p hm; have := h.lt; omega) (fun g hg hm => by have := hS g hm; have := h.own.lt hg; omega)
theorem Reads.drew {w : World} {v : Value} {l : List UInt8} (h : Reads w v l) : Reads w.drew v l := h
theorem IsR.drewN {t : TypeId} {w : World} {p : Nat} {v : Value} {l : List UInt8} {bad : Bool} (h : IsR t w p v l bad) (k : Nat) : IsR t (w.drewN k) p v l bad := ⟨h.box, h.reads, h.apart, h.none⟩
theorem IsR.drew {t : TypeId} {w : World} {p : Nat} {v : Value} {l : List UInt8} {bad : Bool} (h : IsR t w p v l bad) : IsR t w.drew p v l bad := ⟨h.box, h.reads, h.apart, h.none⟩
/-- A row of numbers that fit a byte reads as bytes. -/
theorem reads_of_row (W : World) (x : Addr) (zs : List Int) {len cap : Nat} (hl : len ≤ cap) (hm : cap ≤ maxLen) (hz : zs.length = cap) (hcell : ∀ i, i < zs.length → W.cell? (x.add i) = some (.int .u8 (zs.getD i 0))) (hwz : ∀ n ∈ zs, (Lit.int .u8 n).wf = true) (hb : len ≤ 140737488351232) :
    ∃ l, Reads W (.slice (some x) len cap) l ∧ l.length ≤ 140737488351232 := by
  have hlen : ((zs.take len).map fun z => UInt8.ofNat z.toNat).length = len := by rw [List.length_map, List.length_take]; omega
  refine ⟨(zs.take len).map fun z => UInt8.ofNat z.toNat, ⟨some x, cap, by rw [hlen], by omega, hm, by simp, fun hne => ?_⟩, by omega⟩
  have hpos : 0 < len := by
    rcases Nat.eq_zero_or_pos len with h | h
    · subst h; simp at hne
    · exact h
  obtain ⟨b, o, spot⟩ := x
  have hc := hcell 0 (by omega)
  have hspot : spot = none := by simpa [Addr.add] using World.cell?_spot hc
  subst hspot
  refine ⟨b, o, rfl, fun j u hu => ?_⟩
  rw [List.getElem?_map, Option.map_eq_some_iff] at hu
  obtain ⟨z, hz1, rfl⟩ := hu
  have hj : j < len := by
    have := (List.getElem?_eq_some_iff.1 hz1).1
    rw [List.length_take] at this; omega
  rw [List.getElem?_take_of_lt hj] at hz1
  have h := hcell j (by omega)
  have hadd : (⟨b, o, Option.none⟩ : Addr).add j = ⟨b, o + j, Option.none⟩ := by unfold Addr.add; split <;> simp_all
  rw [hadd] at h
  rw [h]
  have hzz : zs.getD j 0 = z := by simp [List.getD, hz1]
  rw [hzz]
  have hw := bounds_u8 (hwz z (List.mem_of_getElem? hz1))
  congr 1
  exact (B8_of z.toNat z (by omega))
/-- Bytes that are read as a number, wholly, are its own. -/
theorem one_plain (l : List UInt8) (h : (!(rnum l false).2.2 && (rnum l false).2.1.isEmpty) = true) : enc (rnum l false).1 = l := by
  unfold rnum at h ⊢
  by_cases hk : (dec l).2 = 0
  · rw [if_pos hk] at h; simp at h
  · rw [if_neg hk] at h ⊢
    have h2 : (l.drop (dec l).2).isEmpty = true := by simpa using h
    have h3 : l.length ≤ (dec l).2 := by
      rw [List.isEmpty_iff] at h2
      exact List.drop_eq_nil_iff.1 h2
    rw [enc_dec l hk, List.take_of_length_le h3]
end Go.Proofs.YtdadloaifebdiaaGreat
/-
  Encode, and the document's Lay and Encode.
-/
namespace Go.Proofs.YtdadloaifebdiaaGreat
set_option maxRecDepth 100000
open Go.RowKit
set_option linter.unusedVariables false
section
variable {w : World}
/-- Bytes in new memory, and an error's number. -/
def TwoB (w : World) (B : List UInt8) (E : Int) (e : Ending) (w' : World) : Prop := ∃ v, e = .returned (.tuple #[v, .int .i64 E]) ∧ Owns 5 w' v B ∧ Kept [] w w' ∧ Fresh w v
def encE (x : Lt) : Int := if x.formed = true then 0 else 1
def encB (x : Lt) : List UInt8 := if x.formed = true then encL x else []
theorem fresh_nil (w : World) (c : Nat) : Fresh w (.slice none c 0) := fun g hg => by simp [Value.ownBlock] at hg
theorem newW (w : World) : Calls Tryz.prog 31 #[] w fun e w' => ∃ p, e = .returned (.pointer (some ⟨p, 0, none⟩)) ∧ IsW 144 5 w' p (.slice none 0 0) [] ∧ Kept [] w w' ∧ w.heap.size ≤ p :=
  (new_w w).mono fun e w' ⟨he, hw⟩ => ⟨_, he, by subst hw; exact new_isW w, by subst hw; exact (Kept.refl [] w).alloc _, Nat.le_refl _⟩
theorem foot_nil (p : Nat) : foot p (.slice none 0 0) = [p] := rfl
theorem new_nil {w : World} {v : Value} (h : New w (.slice none 0 0) v) : Fresh w v := fun g hg => by
  rcases h g hg with h1 | h1
  · simp [Value.ownBlock] at h1
  · exact h1
set_option maxRecDepth 100000 in
set_option maxHeartbeats 1000000 in
/-- The document's Lay. -/
theorem lay29 (v : Value) (l : List UInt8) (x : Lt) (a : Option Addr) (c : Nat) (hW : Owns 5 w v l) (hx : ReadsJ w (.slice a x.args.length c) x.args) (ha : x.args ≠ [] → ∀ g, (Value.slice a x.args.length c).ownBlock = some g → v.ownBlock ≠ some g) (hok : x.ok)
    (hb : l.length + x.fr.length + 9 * x.args.length + 45 ≤ 140737488355328) :
    Calls Tryz.prog 109 #[v, Lv x a c] w fun e w' => ∃ v', e = .returned v' ∧ Grew 5 w v (l ++ encL x) v' w' := by
  have e1 := enc_length x.fr.length
  have e2 := enc_length x.ser
  have e3 := enc_length (fold x.kind)
  have e4 := enc_length x.args.length
  have hs : Hid ((⟨x.fr.toArray⟩ : ByteArray).size = x.fr.length) := Hid.mk (by simp [ByteArray.size])
  obtain ⟨-, hac, hcc⟩ := hx.bound
  have HX := Hid.mk hx
  clear hx
  have hser := hok.ser
  go_enter Tryz.func109, Tryz.ntmps109
  go_wp2_with fail
  obtain ⟨W0, e0, k0, hz0, hb0⟩ := box1 w (.cells #[Sv x.fr, .int .u64 (x.ser : Int), .int .i64 x.kind, .slice a x.args.length c] 90)
  rw [e0]
  clear e0
  have hW0 := hW.kept k0 (by simp)
  have HB : Hid (∀ W, Kept v.ownBlock.toList W0 W → W.heap[w.heap.size]? = some (.cells #[Sv x.fr, .int .u64 (x.ser : Int), .int .i64 x.kind, .slice a x.args.length c] 90 (0, 0))) := fun W k => k.keeps hb0 (fun hm => by
    rw [Option.mem_toList] at hm
    have := hW.lt hm; omega)
  have HA : Hid (∀ W, Kept v.ownBlock.toList W0 W → ReadsJ W (.slice a x.args.length c) x.args) := fun W k => HX.out.kept3 ((k0.mono (by simp)).trans k (fun x hx => .inl hx)) (fun hne g hg hm => by
    rw [Option.mem_toList] at hm
    exact ha hne g hg hm)
  have HE : Hid (∀ v' W, Grew 5 W0 v (l ++ encL x) v' W → Grew 5 w v (l ++ encL x) v' W) := fun v' W h => Grew.trans (k0.mono (by simp)) (New.refl w v) h
  clear hb0 hz0 k0 hW HX
  refine (reftext_any v l ⟨x.fr.toArray⟩ W0 hW0 (by rw [hs.out]; omega)).mono ?_
  rintro e w1 ⟨v1, rfl, hW1, k1, n1⟩
  rw [hs.out] at hW1
  change Owns 5 w1 v1 (l ++ enc x.fr.length ++ x.fr) at hW1
  obtain ⟨c0, c1, c2, c3⟩ := cells4 (HB.out _ k1)
  go_wp2_with fail
  refine (refnum_any v1 _ x.ser w1 hW1 hser (by simp only [List.length_append]; omega)).mono ?_
  rintro e w2 ⟨v2, rfl, L2⟩
  obtain ⟨hW2, k2, n2⟩ := Grew.trans k1 n1 L2
  clear L2 hW1 k1 n1 c0 c1 c2 c3
  obtain ⟨c0, c1, c2, c3⟩ := cells4 (HB.out _ k2)
  go_wp2_with fail
  refine (refint_any v2 _ x.kind w2 hW2 hok.kind.1 hok.kind.2 (by simp only [List.length_append]; omega)).mono ?_
  rintro e w3 ⟨v3, rfl, L3⟩
  obtain ⟨hW3, k3, n3⟩ := Grew.trans k2 n2 L3
  clear L3 hW2 k2 n2 c0 c1 c2 c3
  obtain ⟨c0, c1, c2, c3⟩ := cells4 (HB.out _ k3)
  go_wp2_with fail
  refine (refnum_any v3 _ x.args.length w3 hW3 (by omega) (by simp only [List.length_append]; omega)).mono ?_
  rintro e w4 ⟨v4, rfl, L4⟩
  have L4 := Grew.trans k3 n3 L4
  obtain ⟨hW4, k4, n4⟩ := id L4
  clear hW3 k3 n3 c0 c1 c2 c3
  obtain ⟨c0, c1, c2, c3⟩ := cells4 (HB.out _ k4)
  go_wp2_with fail
  clear c0 c1 c2 c3 hW4 k4 n4
  go_loopw [0, 27] (fun q i wr => ∃ j : Nat, i = .int .i64 (j : Int) ∧ j ≤ x.args.length ∧ Grew 5 W0 v (l ++ enc x.fr.length ++ x.fr ++ enc x.ser ++ enc (fold x.kind) ++ enc x.args.length ++ encJ (x.args.take j)) q wr) (fun _ i _ => x.args.length - (intOf i).toNat)
  case atStart => exact ⟨0, rfl, by omega, by simpa [encJ] using L4⟩
  case round =>
    obtain ⟨j, rfl, hj, hW5, k5, n5⟩ := hrel
    by_cases hlt : j < x.args.length
    · obtain ⟨z, hz⟩ : ∃ z, x.args[j]? = some z := ⟨_, List.getElem?_eq_getElem hlt⟩
      obtain ⟨b, o, rfl, hcell⟩ := (HA.out _ k5).at hz
      obtain ⟨c0, c1, c2, c3⟩ := cells4 (HB.out _ k5)
      have hzk := hok.args z (List.mem_of_getElem? hz)
      have HZ := Hid.mk hz
      have hjI : (j : Int) < (x.args.length : Int) := by omega
      have hlj := encJ_length (x.args.take j)
      rw [List.length_take] at hlj
      clear hz
      go_wp2_with fail
      refine (refint_any _ _ z _ hW5 hzk.1 hzk.2 (by simp only [List.length_append]; omega)).mono ?_
      rintro e w6 ⟨v6, rfl, L6⟩
      have L6 := Grew.trans k5 n5 L6
      go_wp2_with fail
      go_roundw
      case rel =>
        refine ⟨j + 1, by go_num, by omega, ?_⟩
        rw [encJ_take _ _ _ HZ.out, ← List.append_assoc]
        exact L6
      case measure => simp [intOf]; omega
    · obtain rfl : j = x.args.length := by omega
      go_wp2
      go_ret
      rw [List.take_length] at hW5
      have e9 : l ++ enc x.fr.length ++ x.fr ++ enc x.ser ++ enc (fold x.kind) ++ enc x.args.length ++ encJ x.args = l ++ encL x := by simp only [encL, List.append_assoc]
      rw [e9] at hW5
      exact ⟨_, rfl, HE.out _ _ ⟨hW5, k5, n5⟩⟩
end
end Go.Proofs.YtdadloaifebdiaaGreat
