/-
  Encode, and the document's Lay and Encode.
-/
import Derived.Test.YtkcgknbnoegpdaaLy
import Derived.Test.YtkcgknbnoegpdaaOneWalk
import Derived.Test.YtkcgknbnoegpdaaRef
namespace Go.Proofs.Ytkcgknbnoegpdaa
open Go.RowKit
set_option linter.unusedVariables false
section
variable {w : World}
/-- Bytes in new memory, and an error's number. -/
def TwoB (w : World) (B : List UInt8) (E : Int) (e : Ending) (w' : World) : Prop := ∃ v, e = .returned (.tuple #[v, .int .i64 E]) ∧ Owns 5 w' v B ∧ Kept [] w w' ∧ Fresh w v
def encE (x : Lt) : Int := if x.formed = true then 0 else 1
def encB (x : Lt) : List UInt8 := if x.formed = true then encL x else []
theorem fresh_nil (w : World) (c : Nat) : Fresh w (.slice none c 0) := fun g hg => by simp [Value.ownBlock] at hg
theorem newW (w : World) : Calls Try.prog 26 #[] w fun e w' => ∃ p, e = .returned (.pointer (some ⟨p, 0, none⟩)) ∧ IsW 66 5 w' p (.slice none 0 0) [] ∧ Kept [] w w' ∧ w.heap.size ≤ p :=
  (new_w w).mono fun e w' ⟨he, hw⟩ => ⟨_, he, by subst hw; exact new_isW w, by subst hw; exact (Kept.refl [] w).alloc _, Nat.le_refl _⟩
theorem foot_nil (p : Nat) : foot p (.slice none 0 0) = [p] := rfl
theorem new_nil {w : World} {v : Value} (h : New w (.slice none 0 0) v) : Fresh w v := fun g hg => by
  rcases h g hg with h1 | h1
  · simp [Value.ownBlock] at h1
  · exact h1
set_option maxRecDepth 100000 in
set_option maxHeartbeats 1000000 in
theorem encode11 (x : Lt) (a : Option Addr) (c : Nat) (hx : ReadsJ w (.slice a x.args.length c) x.args) (hok : x.ok) :
    Calls Try.prog 11 #[Lv x a c] w fun e w' => TwoB w (encB x) (encE x) e w' := by
  have HX := Hid.mk hx
  clear hx
  have k0 := (Kept.refl [] w).alloc (.cells #[Sv x.fr, .int .u64 (x.ser : Int), .int .i64 x.kind, .slice a x.args.length c] 25)
  have HF : Hid (∀ W, Calls Try.prog 13 #[Lv x a c] W fun e w' => e = .returned (.bool x.formed) ∧ Kept [] W w') := fun W => formed13 x a c
  cases hf : x.formed with
  | false =>
    have hq : encB x = [] ∧ encE x = 1 := by simp [encB, encE, hf]
    rw [hq.1, hq.2]
    clear hq
    rw [hf] at HF
    clear hf
    go_enter Try.func11, Try.ntmps11
    go_wp2_with fail
    refine (HF.out _).mono ?_
    rintro e w1 ⟨rfl, k1⟩
    go_wp2_with fail
    go_ret2
    exact ⟨_, rfl, Owns.nil 5 _, k0.trans k1 (by simp), fresh_nil w 0⟩
  | true =>
    have hq : encB x = encL x ∧ encE x = 0 := by simp [encB, encE, hf]
    rw [hq.1, hq.2]
    clear hq
    have hf2 : x.fr.length ≤ 40 ∧ x.args.length ≤ 4 := by simpa [Lt.formed] using hf
    obtain ⟨hf3, hf4⟩ := hf2
    have hel := encL_length x
    rw [hf] at HF
    clear hf
    go_enter Try.func11, Try.ntmps11
    go_wp2_with fail
    obtain ⟨W0, e0, -, hz0, hb0⟩ := box1 w (.cells #[Sv x.fr, .int .u64 (x.ser : Int), .int .i64 x.kind, .slice a x.args.length c] 25)
    rw [e0] at k0
    rw [e0]
    clear e0
    refine (HF.out _).mono ?_
    rintro e w1 ⟨rfl, k1⟩
    go_wp2_with fail
    refine (newW _).mono ?_
    rintro e w2 ⟨p, rfl, hW2, k2, hp2⟩
    have hb2 := k2.keeps (k1.keeps hb0 (by simp)) (by simp)
    have k02 := (k0.trans k1 (by simp)).trans k2 (by simp)
    obtain ⟨c0, c1, c2, c3⟩ := cells4 hb2
    have hsz := k1.size
    go_wp2_with fail
    refine (lay27 p _ [] x a c hW2 (HX.out.kept k02 (by simp)) (fun hne g hg hm => ?_) hok (by simp; omega)).mono ?_
    · have := HX.out.ltg hne hg
      have := k0.size
      rw [foot_nil] at hm
      simp at hm
      omega
    rintro e w3 ⟨rfl, v3, hW3, k3, n3⟩
    rw [List.nil_append] at hW3
    rw [foot_nil] at k3
    go_wp2_with fail
    refine (wbytes_any p _ _ _ hW3 (by omega)).mono ?_
    rintro e w4 ⟨v4, rfl, hO4, k4, hF4⟩
    go_wp2_with fail
    go_ret2
    have k23 : Kept [] w w3 := k02.trans k3 (by simp; omega)
    refine ⟨v4, rfl, hO4, k23.trans k4 (by simp), fun g hg => ?_⟩
    have := hF4 g hg
    have := k23.size
    omega
set_option maxRecDepth 100000 in
set_option maxHeartbeats 1000000 in
/-- The document's Lay. -/
theorem lay29 (v : Value) (l : List UInt8) (x : Lt) (a : Option Addr) (c : Nat) (hW : Owns 5 w v l) (hx : ReadsJ w (.slice a x.args.length c) x.args) (ha : x.args ≠ [] → ∀ g, (Value.slice a x.args.length c).ownBlock = some g → v.ownBlock ≠ some g) (hok : x.ok)
    (hb : l.length + x.fr.length + 9 * x.args.length + 45 ≤ 140737488355328) :
    Calls Try.prog 29 #[v, Lv x a c] w fun e w' => ∃ v', e = .returned v' ∧ Grew 5 w v (l ++ encL x) v' w' := by
  have e1 := enc_length x.fr.length
  have e2 := enc_length x.ser
  have e3 := enc_length (fold x.kind)
  have e4 := enc_length x.args.length
  have hs : Hid ((⟨x.fr.toArray⟩ : ByteArray).size = x.fr.length) := Hid.mk (by simp [ByteArray.size])
  obtain ⟨-, hac, hcc⟩ := hx.bound
  have HX := Hid.mk hx
  clear hx
  have hser := hok.ser
  go_enter Try.func29, Try.ntmps29
  go_wp2_with fail
  obtain ⟨W0, e0, k0, hz0, hb0⟩ := box1 w (.cells #[Sv x.fr, .int .u64 (x.ser : Int), .int .i64 x.kind, .slice a x.args.length c] 25)
  rw [e0]
  clear e0
  have hW0 := hW.kept k0 (by simp)
  have HB : Hid (∀ W, Kept v.ownBlock.toList W0 W → W.heap[w.heap.size]? = some (.cells #[Sv x.fr, .int .u64 (x.ser : Int), .int .i64 x.kind, .slice a x.args.length c] 25 (0, 0))) := fun W k => k.keeps hb0 (fun hm => by
    rw [Option.mem_toList] at hm
    have := hW.lt hm; omega)
  have HA : Hid (∀ W, Kept v.ownBlock.toList W0 W → ReadsJ W (.slice a x.args.length c) x.args) := fun W k => HX.out.kept3 ((k0.mono (by simp)).trans k (fun x hx => .inl hx)) (fun hne g hg hm => by
    rw [Option.mem_toList] at hm
    exact ha hne g hg hm)
  have HE : Hid (∀ v' W, Grew 5 W0 v (l ++ encL x) v' W → Grew 5 w v (l ++ encL x) v' W) := fun v' W h => Grew.trans (k0.mono (by simp)) (New.refl w v) h
  clear hb0 hz0 k0 hW HX
  refine (reftext_any v l ⟨x.fr.toArray⟩ W0 hW0 (by rw [hs.out]; omega)).mono ?_
  rintro e w1 ⟨v1, rfl, hW1, k1, n1⟩
  rw [hs.out] at hW1
  change Owns 5 w1 v1 (l ++ enc x.fr.length ++ x.fr) at hW1
  obtain ⟨c0, c1, c2, c3⟩ := cells4 (HB.out _ k1)
  go_wp2_with fail
  refine (refnum_any v1 _ x.ser w1 hW1 hser (by simp only [List.length_append]; omega)).mono ?_
  rintro e w2 ⟨v2, rfl, L2⟩
  obtain ⟨hW2, k2, n2⟩ := Grew.trans k1 n1 L2
  clear L2 hW1 k1 n1 c0 c1 c2 c3
  obtain ⟨c0, c1, c2, c3⟩ := cells4 (HB.out _ k2)
  go_wp2_with fail
  refine (refint_any v2 _ x.kind w2 hW2 hok.kind.1 hok.kind.2 (by simp only [List.length_append]; omega)).mono ?_
  rintro e w3 ⟨v3, rfl, L3⟩
  obtain ⟨hW3, k3, n3⟩ := Grew.trans k2 n2 L3
  clear L3 hW2 k2 n2 c0 c1 c2 c3
  obtain ⟨c0, c1, c2, c3⟩ := cells4 (HB.out _ k3)
  go_wp2_with fail
  refine (refnum_any v3 _ x.args.length w3 hW3 (by omega) (by simp only [List.length_append]; omega)).mono ?_
  rintro e w4 ⟨v4, rfl, L4⟩
  have L4 := Grew.trans k3 n3 L4
  obtain ⟨hW4, k4, n4⟩ := id L4
  clear hW3 k3 n3 c0 c1 c2 c3
  obtain ⟨c0, c1, c2, c3⟩ := cells4 (HB.out _ k4)
  go_wp2_with fail
  clear c0 c1 c2 c3 hW4 k4 n4
  go_loopw [0, 27] (fun q i wr => ∃ j : Nat, i = .int .i64 (j : Int) ∧ j ≤ x.args.length ∧ Grew 5 W0 v (l ++ enc x.fr.length ++ x.fr ++ enc x.ser ++ enc (fold x.kind) ++ enc x.args.length ++ encJ (x.args.take j)) q wr) (fun _ i _ => x.args.length - (intOf i).toNat)
  case atStart => exact ⟨0, rfl, by omega, by simpa [encJ] using L4⟩
  case round =>
    obtain ⟨j, rfl, hj, hW5, k5, n5⟩ := hrel
    by_cases hlt : j < x.args.length
    · obtain ⟨z, hz⟩ : ∃ z, x.args[j]? = some z := ⟨_, List.getElem?_eq_getElem hlt⟩
      obtain ⟨b, o, rfl, hcell⟩ := (HA.out _ k5).at hz
      obtain ⟨c0, c1, c2, c3⟩ := cells4 (HB.out _ k5)
      have hzk := hok.args z (List.mem_of_getElem? hz)
      have HZ := Hid.mk hz
      have hjI : (j : Int) < (x.args.length : Int) := by omega
      have hlj := encJ_length (x.args.take j)
      rw [List.length_take] at hlj
      clear hz
      go_wp2_with fail
      refine (refint_any _ _ z _ hW5 hzk.1 hzk.2 (by simp only [List.length_append]; omega)).mono ?_
      rintro e w6 ⟨v6, rfl, L6⟩
      have L6 := Grew.trans k5 n5 L6
      go_wp2_with fail
      go_roundw
      case rel =>
        refine ⟨j + 1, by go_num, by omega, ?_⟩
        rw [encJ_take _ _ _ HZ.out, ← List.append_assoc]
        exact L6
      case measure => simp [intOf]; omega
    · obtain rfl : j = x.args.length := by omega
      go_wp2
      go_ret
      rw [List.take_length] at hW5
      have e9 : l ++ enc x.fr.length ++ x.fr ++ enc x.ser ++ enc (fold x.kind) ++ enc x.args.length ++ encJ x.args = l ++ encL x := by simp only [encL, List.append_assoc]
      rw [e9] at hW5
      exact ⟨_, rfl, HE.out _ _ ⟨hW5, k5, n5⟩⟩
set_option maxRecDepth 100000 in
set_option maxHeartbeats 1000000 in
theorem encode12 (x : Lt) (a : Option Addr) (c : Nat) (hx : ReadsJ w (.slice a x.args.length c) x.args) (hok : x.ok) :
    Calls Try.prog 12 #[Lv x a c] w fun e w' => TwoB w (encB x) (encE x) e w' := by
  have HX := Hid.mk hx
  clear hx
  have k0 := (Kept.refl [] w).alloc (.cells #[Sv x.fr, .int .u64 (x.ser : Int), .int .i64 x.kind, .slice a x.args.length c] 25)
  have HF : Hid (∀ W, Calls Try.prog 14 #[Lv x a c] W fun e w' => e = .returned (.bool x.formed) ∧ Kept [] W w') := fun W => formed14 x a c
  cases hf : x.formed with
  | false =>
    have hq : encB x = [] ∧ encE x = 1 := by simp [encB, encE, hf]
    rw [hq.1, hq.2]
    clear hq
    rw [hf] at HF
    clear hf
    go_enter Try.func12, Try.ntmps12
    go_wp2_with fail
    refine (HF.out _).mono ?_
    rintro e w1 ⟨rfl, k1⟩
    go_wp2_with fail
    go_ret2
    exact ⟨_, rfl, Owns.nil 5 _, k0.trans k1 (by simp), fresh_nil w 0⟩
  | true =>
    have hq : encB x = encL x ∧ encE x = 0 := by simp [encB, encE, hf]
    rw [hq.1, hq.2]
    clear hq
    have hf2 : x.fr.length ≤ 40 ∧ x.args.length ≤ 4 := by simpa [Lt.formed] using hf
    obtain ⟨hf3, hf4⟩ := hf2
    rw [hf] at HF
    clear hf
    go_enter Try.func12, Try.ntmps12
    go_wp2_with fail
    obtain ⟨W0, e0, -, hz0, hb0⟩ := box1 w (.cells #[Sv x.fr, .int .u64 (x.ser : Int), .int .i64 x.kind, .slice a x.args.length c] 25)
    rw [e0] at k0
    rw [e0]
    clear e0
    refine (HF.out _).mono ?_
    rintro e w1 ⟨rfl, k1⟩
    have hb1 := k1.keeps hb0 (by simp)
    have k01 := k0.trans k1 (by simp)
    obtain ⟨c0, c1, c2, c3⟩ := cells4 hb1
    go_wp2_with fail
    refine (lay29 (.slice none 0 0) [] x a c (Owns.nil 5 w1) (HX.out.kept k01 (by simp)) (fun hne g hg hm => by simp [Value.ownBlock] at hm) hok (by simp; omega)).mono ?_
    rintro e w3 ⟨v3, rfl, hO3, k3, n3⟩
    rw [List.nil_append] at hO3
    go_wp2_with fail
    go_ret2
    refine ⟨v3, rfl, hO3, k01.trans k3 (by simp [Value.ownBlock]), fun g hg => ?_⟩
    have := new_nil n3 g hg
    have := k01.size
    omega
end
end Go.Proofs.Ytkcgknbnoegpdaa
