/-
  Texts that are written one behind the other; LazyBack: the walk.
-/
import Derived.Test.YthbopephcdohkaaTextsWalk
import Derived.Test.YthbopephcdohkaaRef
namespace Go.Proofs.Ythbopephcdohkaa
open Go.RowKit
set_option linter.unusedVariables false

/-- Texts, one behind the other. -/
def encT (ts : List (List UInt8)) : List UInt8 := ts.flatMap fun t => enc t.length ++ t
/-- How much room they ask for, at most. -/
def heavyT : List (List UInt8) → Nat
  | [] => 0
  | t :: r => t.length + 9 + heavyT r

theorem encT_le (ts : List (List UInt8)) : (encT ts).length ≤ heavyT ts := by
  induction ts with
  | nil => simp [encT]
  | cons t r ih =>
    have := enc_length t.length
    simp only [encT, List.flatMap_cons, List.length_append, heavyT] at ih ⊢
    omega

theorem len_le_heavy (ts : List (List UInt8)) : ts.length ≤ heavyT ts := by
  induction ts with
  | nil => simp
  | cons t r ih => simp only [List.length_cons, heavyT]; omega

theorem heavyT_take (ts : List (List UInt8)) (k : Nat) (t : List UInt8) (h : ts[k]? = some t) : heavyT (ts.take k) + t.length + 9 ≤ heavyT ts := by
  induction ts generalizing k with
  | nil => simp at h
  | cons y r ih =>
    cases k with
    | zero => simp at h; subst h; simp [heavyT]
    | succ k =>
      have := ih k (by simpa using h)
      simp only [List.take_succ_cons, heavyT]
      omega

theorem encT_take (ts : List (List UInt8)) (k : Nat) (t : List UInt8) (h : ts[k]? = some t) : encT (ts.take (k + 1)) = encT (ts.take k) ++ enc t.length ++ t := by
  rw [List.take_add_one, h]
  simp [encT]

theorem rnum_back (n : Nat) (h : n < 18446744073709551616) (rest : List UInt8) : rnum (enc n ++ rest) false = (n, rest, false) := by
  have hl := enc_length n
  unfold rnum
  rw [dec_enc n h rest, if_neg (by omega)]
  simp

theorem rtext_back (s : List UInt8) (h : s.length < 18446744073709551616) (rest : List UInt8) : rtext (enc s.length ++ (s ++ rest)) false = (s, rest, false) := by
  unfold rtext
  rw [rnum_back s.length h]
  simp

theorem parse_encT (ts : List (List UInt8)) (h : heavyT ts ≤ 16777216) : parse (encT ts) = some ts := by
  induction ts with
  | nil => rfl
  | cons t r ih =>
    simp only [heavyT] at h
    have hl := enc_length t.length
    have e : encT (t :: r) = enc t.length ++ (t ++ encT r) := by simp [encT]
    have hne : encT (t :: r) ≠ [] := fun h0 => by
      have h1 := congrArg List.length h0
      rw [e, List.length_append, List.length_nil] at h1
      omega
    rw [parse_step _ hne, e, rtext_back t (by omega)]
    simp only [cond_false]
    rw [ih (by omega)]
    rfl

/-- Bytes that are being written, in memory that is new since w. -/
structure Built (w : World) (bv : Value) (l : List UInt8) (wr : World) : Prop where
  own : Owns 5 wr bv l
  kept : Kept [] w wr
  fresh : Fresh w bv

theorem Built.begin (w : World) : Built w (.slice none 0 0) [] w := ⟨Owns.nil 5 w, Kept.refl [] w, fun g hg => by simp [Value.ownBlock] at hg⟩

theorem Built.step {w : World} {bv v' : Value} {l l' : List UInt8} {wr w' : World} (h : Built w bv l wr) (g : Grew 5 wr bv l' v' w') : Built w v' l' w' := by
  obtain ⟨h1, h2, h3⟩ := g
  refine ⟨h1, h.kept.trans h2 (fun x hx => by rw [Option.mem_toList] at hx; exact .inr (h.fresh x hx)), fun g hg => ?_⟩
  rcases h3 g hg with h4 | h4
  · exact h.fresh g h4
  · have := h.kept.size; omega

theorem T8_size (t : List UInt8) : (⟨t.toArray⟩ : ByteArray).size = t.length := by simp [ByteArray.size]

/-- reeveref01.Text at a text of a list. -/
theorem reftext_at (bv : Value) (ts : List (List UInt8)) (j : Nat) (t : List UInt8) (w wr : World) (hB : Built w bv (encT (ts.take j)) wr) (ht : ts[j]? = some t) (hb : heavyT ts ≤ 16777216) :
    Calls Try.prog 15 #[bv, T8 t] wr fun e w' => ∃ v', e = .returned v' ∧ Built w v' (encT (ts.take (j + 1))) w' := by
  have h1 := heavyT_take ts j t ht
  have h2 := encT_le (ts.take j)
  refine (reftext_any bv _ ⟨t.toArray⟩ wr hB.own (by rw [T8_size]; omega)).mono ?_
  rintro e w' ⟨v', rfl, hG⟩
  refine ⟨v', rfl, ?_⟩
  rw [encT_take ts j t ht]
  rw [T8_size] at hG
  exact hB.step hG

set_option maxRecDepth 100000 in
set_option maxHeartbeats 2000000 in
theorem back_walk (v : Value) (ts : List (List UInt8)) (w : World) (hT : ReadsT w v ts) (hb : heavyT ts ≤ 16777216) :
    Calls Try.prog 4 #[v] w fun e w' => e = .returned (.bool true) ∧ Kept [] w w' := by
  have hlen := len_le_heavy ts
  have hnot : ∀ (x : Bool) (w : World), (Op.unary .not (.bool x)).run Try.prog w = .ok (.bool (!x)) w := fun _ _ => rfl
  obtain ⟨a, cap, rfl, h2, h3, -, h5⟩ := id hT
  go_enter Try.func4, Try.ntmps4
  go_wp2_with fail
  refine (awake_any _).mono ?_
  rintro e w1 ⟨rfl, k1⟩
  have B0 := Built.begin w1
  have hcell : ∀ k t, ts[k]? = some t → ∃ b o, a = some ⟨b, o, none⟩ ∧ w1.cell? ⟨b, o + k, none⟩ = some (T8 t) := by
    intro k t hk
    obtain ⟨b, o, rfl, hc⟩ := h5 (fun h => by subst h; simp at hk)
    have h6 := hc k t hk
    rw [← k1.cell (World.block_lt_of_cell? w _ h6) (by simp)] at h6
    exact ⟨b, o, rfl, h6⟩
  clear h5
  go_wp2_with fail
  go_loopw [3, 4, 11] (fun bv _ i wr => ∃ j : Nat, j ≤ ts.length ∧ i = .int .i64 (j : Int) ∧ Built w1 bv (encT (ts.take j)) wr) (fun _ _ i _ => ts.length - (intOf i).toNat)
  case atStart => exact ⟨0, Nat.zero_le _, rfl, B0⟩
  case round =>
    clear B0
    obtain ⟨j, hj, rfl, hB⟩ := hrel
    by_cases hlt : j < ts.length
    · have hlt2 : (j : Int) < (ts.length : Int) := by omega
      obtain ⟨t, ht⟩ : ∃ t, ts[j]? = some t := ⟨ts[j], by simp⟩
      obtain ⟨b, o, rfl, hc⟩ := hcell j t ht
      rw [← hB.kept.cell (World.block_lt_of_cell? w1 _ hc) (by simp)] at hc
      have htx := reftext_at _ ts j t w1 wr hB ht hb
      clear ht hcell
      go_wp2_with (go_at_call 15; refine htx.mono ?_; rintro e w3 ⟨v3, rfl, hB3⟩)
      go_roundw
      case rel => exact ⟨j + 1, by omega, by go_num, hB3⟩
      case measure => simp [intOf]; omega
    · have hlt2 : ¬ (j : Int) < (ts.length : Int) := by omega
      have hj2 : j = ts.length := by omega
      subst hj2
      rw [List.take_length] at hB
      have he := encT_le ts
      have hp := parse_encT ts hb
      go_wp2_with fail
      refine (new_any _ (encT ts) _ hB.own.reads (by omega)).mono ?_
      rintro e w3 ⟨p, u, rfl, hU, k3, hp3, hf3, hin3⟩
      have j3 := (k1.trans hB.kept (by simp)).trans k3 (by simp)
      have q3 : w.heap.size ≤ p := by have := (k1.trans hB.kept (by simp)).size; omega
      go_wp2_with fail
      refine (texts_first p (encT ts) u _ hU (by omega) (by rw [hp]; simp; omega)).mono ?_
      rintro e w4 ⟨tv, xv, rfl, hox, hD, k4, hfx, hft, hxt, hxp⟩
      have j4 := j3.trans k4 (fun x hx => by simp at hx; subst hx; exact .inr q3)
      rw [hp] at hox ⊢
      have hs := same_any xv _ ts ts w4 hox.reads (hT.kept j4 (by simp)) (by omega) (by omega)
      rw [show decide (ts = ts) = true by simp] at hs
      simp only [Option.isSome_some]
      clear hox hD hU hB hT
      go_wp2_with (go_at_call 14; refine hs.mono ?_; rintro e w5 ⟨rfl, k5⟩)
      go_ret
      exact ⟨rfl, j4.trans k5 (by simp)⟩

end Go.Proofs.Ythbopephcdohkaa
