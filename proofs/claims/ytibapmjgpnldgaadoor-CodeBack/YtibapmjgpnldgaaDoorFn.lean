/-
  find, parseInt.
-/
import Derived.Test.YtibapmjgpnldgaaDoorKw
import Derived.Test.YtibapmjgpnldgaaDoorZz
namespace Go.Proofs.YtibapmjgpnldgaaDoor
open Go.RowKit
set_option maxRecDepth 100000
set_option linter.unusedVariables false
open Go.Lib (itoa)
theorem str_eq (s t : List UInt8) : ((⟨s.toArray⟩ : ByteArray) = ⟨t.toArray⟩) ↔ s = t := by
  constructor
  · intro h
    have := congrArg (fun b => b.data.toList) h
    simpa using this
  · rintro rfl; rfl
theorem grown_kept {w w' : World} (h : ∃ k os, w' = Sort.grow (w.drewN k) os) : Kept [] w w' := by
  obtain ⟨k, os, rfl⟩ := h
  refine ⟨rfl, rfl, rfl, ?_, fun i hi _ => ?_⟩
  · simp [Sort.grow]
  · simp only [Sort.grow, World.heap_drewN]
    rw [Array.getElem?_append_left hi]
theorem bytes_kept {w w' : World} {t : TypeId} (h : w' = w ∨ ∃ x, w' = Lib.bytesWorld w t x) : Kept [] w w' := by
  rcases h with rfl | ⟨x, rfl⟩
  · exact Kept.refl [] _
  · have B := Lib.bytesWorld_below w t x
    exact ⟨B.os, B.tape, B.output, B.size, fun k hk _ => B.block k hk⟩
theorem below_kept {w w' : World} (B : Below w.heap.size w w') : Kept [] w w' := ⟨B.os, B.tape, B.output, B.size, fun k hk _ => B.block k hk⟩
section
variable {w : World}
/-- What parseInt answers: what it says of a text. -/
def IntAt (s : List UInt8) (e : Ending) : Prop := (∃ z, intD s = some z ∧ e = .returned (.tuple #[.int .i64 z, .bool true])) ∨ (intD s = none ∧ ∃ z, e = .returned (.tuple #[.int .i64 z, .bool false]))
set_option maxHeartbeats 1000000 in
theorem parseInt65 (hG : Glob w) (s : List UInt8) (hs : s.length ≤ 100000) : Calls Tryd.prog 65 #[.string ⟨s.toArray⟩] w fun e w' => IntAt s e ∧ Kept [] w w' := by
  have hz : (⟨s.toArray⟩ : ByteArray).size = s.length := by simp [ByteArray.size]
  cases hp : Lib.parseIntB 64 s with
  | ok v =>
    obtain ⟨b1, b2, y1, y2⟩ := parse_yes hp
    have HC := Hid.mk (strconv_ParseInt_10_at64_ok ⟨s.toArray⟩ (by omega) v (by simpa using hp) w)
    have HF : Hid (∀ W, Kept [] w W → Calls Tryd.prog 29 #[.int .i64 v, .int .i64 10] W fun e w' => e = .returned (.string ⟨(itoa v).toArray⟩) ∧ Kept [] W w') := fun W k => (strconv_FormatInt_10 v b1 b2 W (hG.kept k).tab).mono fun e w' h => ⟨h.1, grown_kept h.2⟩
    clear hG hp
    have HY1 := Hid.mk y1
    have HY2 := Hid.mk y2
    clear y1 y2
    by_cases he : itoa v = s
    · rw [he] at HF
      have Y := Hid.mk (HY1.out he)
      clear he HY1 HY2
      go_enter Tryd.func65, Tryd.ntmps65
      go_wp2_with fail
      refine HC.out.mono ?_
      rintro e w1 ⟨rfl, hw1⟩
      have k1 := bytes_kept hw1
      clear hw1
      go_wp2_with fail
      refine (HF.out w1 k1).mono ?_
      rintro e w2 ⟨rfl, k2⟩
      go_wp2_with fail
      go_ret2
      exact ⟨.inl ⟨_, Y.out, rfl⟩, k1.then k2⟩
    · have Y := Hid.mk (HY2.out he)
      have t1 : ((itoa v) == s) = false := by simpa using he
      clear HY1 HY2
      generalize itoa v = q at *
      go_enter Tryd.func65, Tryd.ntmps65
      go_wp2_with fail
      refine HC.out.mono ?_
      rintro e w1 ⟨rfl, hw1⟩
      have k1 := bytes_kept hw1
      clear hw1
      go_wp2_with fail
      refine (HF.out w1 k1).mono ?_
      rintro e w2 ⟨rfl, k2⟩
      go_wp2_with fail
      go_ret2
      exact ⟨.inr ⟨Y.out, _, rfl⟩, k1.then k2⟩
  | «syntax» =>
    obtain ⟨tp, pp, hv⟩ := hG.syn
    have HC := Hid.mk (strconv_ParseInt_10_at64_syntax ⟨s.toArray⟩ (by omega) (by simpa using hp) _ w hv (.inr ⟨_, _, rfl⟩))
    have HN : Hid (intD s = none) := parse_not (by rw [hp]; simp)
    clear hG hp hv
    go_enter Tryd.func65, Tryd.ntmps65
    go_wp2_with fail
    refine HC.out.mono ?_
    rintro e w1 ⟨M, rfl, -, -, B⟩
    have k1 := below_kept B
    clear B
    go_wp2_with fail
    go_ret2
    exact ⟨.inr ⟨HN.out, _, rfl⟩, k1⟩
  | range =>
    obtain ⟨tp, pp, hv⟩ := hG.rng
    have HC := Hid.mk (strconv_ParseInt_10_at64_range ⟨s.toArray⟩ (by omega) (by simpa using hp) _ w hv (.inr ⟨_, _, rfl⟩))
    have HN : Hid (intD s = none) := parse_not (by rw [hp]; simp)
    clear hG hp hv
    generalize Lib.intSat 64 _ = q at HC
    go_enter Tryd.func65, Tryd.ntmps65
    go_wp2_with fail
    refine HC.out.mono ?_
    rintro e w1 ⟨M, rfl, -, -, B⟩
    have k1 := below_kept B
    clear B
    go_wp2_with fail
    go_ret2
    exact ⟨.inr ⟨HN.out, _, rfl⟩, k1⟩
end
end Go.Proofs.YtibapmjgpnldgaaDoor
