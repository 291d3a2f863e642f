/-
  Encode, and the document's Lay and Encode.
-/
import Derived.Test.YtpcliempoagpoaaLy
import Derived.Test.YtpcliempoagpoaaOneWalk
import Derived.Test.YtpcliempoagpoaaRef
namespace Go.Proofs.Ytpcliempoagpoaa
open Go.RowKit
set_option linter.unusedVariables false
section
variable {w : World}
/-- Bytes in new memory, and an error's number. -/
def TwoB (w : World) (B : List UInt8) (E : Int) (e : Ending) (w' : World) : Prop := ∃ v, e = .returned (.tuple #[v, .int .i64 E]) ∧ Owns 5 w' v B ∧ Kept [] w w' ∧ Fresh w v
def encE (x : Lt) : Int := if x.formed = true then 0 else 1
def encB (x : Lt) : List UInt8 := if x.formed = true then encL x else []
theorem fresh_nil (w : World) (c : Nat) : Fresh w (.slice none c 0) := fun g hg => by simp [Value.ownBlock] at hg
theorem newW (w : World) : Calls Try.prog 38 #[] w fun e w' => ∃ p, e = .returned (.pointer (some ⟨p, 0, none⟩)) ∧ IsW 86 5 w' p (.slice none 0 0) [] ∧ Kept [] w w' ∧ w.heap.size ≤ p :=
  (new_w w).mono fun e w' ⟨he, hw⟩ => ⟨_, he, by subst hw; exact new_isW w, by subst hw; exact (Kept.refl [] w).alloc _, Nat.le_refl _⟩
theorem foot_nil (p : Nat) : foot p (.slice none 0 0) = [p] := rfl
theorem new_nil {w : World} {v : Value} (h : New w (.slice none 0 0) v) : Fresh w v := fun g hg => by
  rcases h g hg with h1 | h1
  · simp [Value.ownBlock] at h1
  · exact h1
set_option maxRecDepth 100000 in
set_option maxHeartbeats 1000000 in
/-- The document's Lay. -/
theorem lay29 (v : Value) (l : List UInt8) (x : Lt) (a : Option Addr) (c : Nat) (hW : Owns 5 w v l) (hx : ReadsJ w (.slice a x.args.length c) x.args) (ha : x.args ≠ [] → ∀ g, (Value.slice a x.args.length c).ownBlock = some g → v.ownBlock ≠ some g) (hok : x.ok)
    (hb : l.length + x.fr.length + 9 * x.args.length + 45 ≤ 140737488355328) :
    Calls Try.prog 31 #[v, Lv x a c] w fun e w' => ∃ v', e = .returned v' ∧ Grew 5 w v (l ++ encL x) v' w' := by
  have e1 := enc_length x.fr.length
  have e2 := enc_length x.ser
  have e3 := enc_length (fold x.kind)
  have e4 := enc_length x.args.length
  have hs : Hid ((⟨x.fr.toArray⟩ : ByteArray).size = x.fr.length) := Hid.mk (by simp [ByteArray.size])
  obtain ⟨-, hac, hcc⟩ := hx.bound
  have HX := Hid.mk hx
  clear hx
  have hser := hok.ser
  go_enter Try.func31, Try.ntmps31
  go_wp2_with fail
  obtain ⟨W0, e0, k0, hz0, hb0⟩ := box1 w (.cells #[Sv x.fr, .int .u64 (x.ser : Int), .int .i64 x.kind, .slice a x.args.length c] 34)
  rw [e0]
  clear e0
  have hW0 := hW.kept k0 (by simp)
  have HB : Hid (∀ W, Kept v.ownBlock.toList W0 W → W.heap[w.heap.size]? = some (.cells #[Sv x.fr, .int .u64 (x.ser : Int), .int .i64 x.kind, .slice a x.args.length c] 34 (0, 0))) := fun W k => k.keeps hb0 (fun hm => by
    rw [Option.mem_toList] at hm
    have := hW.lt hm; omega)
  have HA : Hid (∀ W, Kept v.ownBlock.toList W0 W → ReadsJ W (.slice a x.args.length c) x.args) := fun W k => HX.out.kept3 ((k0.mono (by simp)).trans k (fun x hx => .inl hx)) (fun hne g hg hm => by
    rw [Option.mem_toList] at hm
    exact ha hne g hg hm)
  have HE : Hid (∀ v' W, Grew 5 W0 v (l ++ encL x) v' W → Grew 5 w v (l ++ encL x) v' W) := fun v' W h => Grew.trans (k0.mono (by simp)) (New.refl w v) h
  clear hb0 hz0 k0 hW HX
  refine (reftext_any v l ⟨x.fr.toArray⟩ W0 hW0 (by rw [hs.out]; omega)).mono ?_
  rintro e w1 ⟨v1, rfl, hW1, k1, n1⟩
  rw [hs.out] at hW1
  change Owns 5 w1 v1 (l ++ enc x.fr.length ++ x.fr) at hW1
  obtain ⟨c0, c1, c2, c3⟩ := cells4 (HB.out _ k1)
  go_wp2_with fail
  refine (refnum_any v1 _ x.ser w1 hW1 hser (by simp only [List.length_append]; omega)).mono ?_
  rintro e w2 ⟨v2, rfl, L2⟩
  obtain ⟨hW2, k2, n2⟩ := Grew.trans k1 n1 L2
  clear L2 hW1 k1 n1 c0 c1 c2 c3
  obtain ⟨c0, c1, c2, c3⟩ := cells4 (HB.out _ k2)
  go_wp2_with fail
  refine (refint_any v2 _ x.kind w2 hW2 hok.kind.1 hok.kind.2 (by simp only [List.length_append]; omega)).mono ?_
  rintro e w3 ⟨v3, rfl, L3⟩
  obtain ⟨hW3, k3, n3⟩ := Grew.trans k2 n2 L3
  clear L3 hW2 k2 n2 c0 c1 c2 c3
  obtain ⟨c0, c1, c2, c3⟩ := cells4 (HB.out _ k3)
  go_wp2_with fail
  refine (refnum_any v3 _ x.args.length w3 hW3 (by omega) (by simp only [List.length_append]; omega)).mono ?_
  rintro e w4 ⟨v4, rfl, L4⟩
  have L4 := Grew.trans k3 n3 L4
  obtain ⟨hW4, k4, n4⟩ := id L4
  clear hW3 k3 n3 c0 c1 c2 c3
  obtain ⟨c0, c1, c2, c3⟩ := cells4 (HB.out _ k4)
  go_wp2_with fail
  clear c0 c1 c2 c3 hW4 k4 n4
  go_loopw [0, 27] (fun q i wr => ∃ j : Nat, i = .int .i64 (j : Int) ∧ j ≤ x.args.length ∧ Grew 5 W0 v (l ++ enc x.fr.length ++ x.fr ++ enc x.ser ++ enc (fold x.kind) ++ enc x.args.length ++ encJ (x.args.take j)) q wr) (fun _ i _ => x.args.length - (intOf i).toNat)
  case atStart => exact ⟨0, rfl, by omega, by simpa [encJ] using L4⟩
  case round =>
    obtain ⟨j, rfl, hj, hW5, k5, n5⟩ := hrel
    by_cases hlt : j < x.args.length
    · obtain ⟨z, hz⟩ : ∃ z, x.args[j]? = some z := ⟨_, List.getElem?_eq_getElem hlt⟩
      obtain ⟨b, o, rfl, hcell⟩ := (HA.out _ k5).at hz
      obtain ⟨c0, c1, c2, c3⟩ := cells4 (HB.out _ k5)
      have hzk := hok.args z (List.mem_of_getElem? hz)
      have HZ := Hid.mk hz
      have hjI : (j : Int) < (x.args.length : Int) := by omega
      have hlj := encJ_length (x.args.take j)
      rw [List.length_take] at hlj
      clear hz
      go_wp2_with fail
      refine (refint_any _ _ z _ hW5 hzk.1 hzk.2 (by simp only [List.length_append]; omega)).mono ?_
      rintro e w6 ⟨v6, rfl, L6⟩
      have L6 := Grew.trans k5 n5 L6
      go_wp2_with fail
      go_roundw
      case rel =>
        refine ⟨j + 1, by go_num, by omega, ?_⟩
        rw [encJ_take _ _ _ HZ.out, ← List.append_assoc]
        exact L6
      case measure => simp [intOf]; omega
    · obtain rfl : j = x.args.length := by omega
      go_wp2
      go_ret
      rw [List.take_length] at hW5
      have e9 : l ++ enc x.fr.length ++ x.fr ++ enc x.ser ++ enc (fold x.kind) ++ enc x.args.length ++ encJ x.args = l ++ encL x := by simp only [encL, List.append_assoc]
      rw [e9] at hW5
      exact ⟨_, rfl, HE.out _ _ ⟨hW5, k5, n5⟩⟩
end
end Go.Proofs.Ytpcliempoagpoaa
