/-
  One queue of the program's since a world; awake.
-/
import Derived.Test.YtmjbkhcfdojpeaaQi
import Derived.Test.YtmjbkhcfdojpeaaQj
import Derived.Test.YtmjbkhcfdojpeaaQk
namespace Go.Proofs.Ytmjbkhcfdojpeaa
set_option maxRecDepth 100000
open Go.RowKit Go.Shelf
set_option linter.unusedVariables false
/-- The program's queue at p, new since w0, has the reminders Q; nothing elder was turned. -/
structure One (w0 w : World) (p : Nat) (Q : List Rm) : Prop where
  isQ : IsQ w p Q
  hp : w0.heap.size ≤ p
  good : GoodQ Q
  kept : Kept [] w0 w
section
variable {w0 w w' : World} {p : Nat} {Q : List Rm}
theorem One.kept0 (T : One w0 w p Q) (k : Kept [] w w') : One w0 w' p Q := ⟨T.isQ.kept0 k, T.hp, T.good, T.kept.trans k (by simp)⟩
theorem One.go (T : One w0 w p Q) {Q' : List Rm} (h : IsQ w' p Q') (g : GoodQ Q') (k : Kept [p] w w') : One w0 w' p Q' := ⟨h, T.hp, g, T.kept.trans k (fun x hx => by simp at hx; subst hx; exact .inr T.hp)⟩
theorem one_new (k : Kept [] w0 w) : Calls Try.prog 10 #[] w fun e w' => ∃ p, e = .returned (.pointer (some ⟨p, 0, none⟩)) ∧ One w0 w' p [] := by
  refine new10.mono ?_
  rintro e w1 ⟨p, rfl, h, k1, hp⟩
  exact ⟨p, rfl, h, Nat.le_trans k.size hp, GoodQ.nil, k.trans k1 (by simp)⟩
theorem one_set (T : One w0 w p Q) (r : Rm) (h6 : R64 r) (ha : r.ac.length ≤ 1000000) (hn : r.nm.length ≤ 1000000) : Calls Try.prog 17 #[.pointer (some ⟨p, 0, none⟩), Rv r] w fun e w' => e = .returned (Iv (setA Q r)) ∧ One w0 w' p (setQ Q r) := by
  refine (set17 T.isQ T.good r (by omega) (by omega)).mono ?_
  rintro e w1 ⟨rfl, h, k⟩
  exact ⟨rfl, T.go h (T.good.setQ h6) k⟩
theorem one_serve (T : One w0 w p Q) (now : Int) : Calls Try.prog 19 #[.pointer (some ⟨p, 0, none⟩), Iv now] w fun e w' => e = .returned (.tuple #[Rv (dueA Q now).1, .bool (dueA Q now).2]) ∧ One w0 w' p (serQ Q now) := by
  refine (serve19 T.isQ T.good now).mono ?_
  rintro e w1 ⟨rfl, h, k⟩
  exact ⟨rfl, T.go h (T.good.ser now) k⟩
theorem one_cancel (T : One w0 w p Q) (ac nm : List UInt8) : Calls Try.prog 20 #[.pointer (some ⟨p, 0, none⟩), Sv ac, Sv nm] w fun e w' => e = .returned (.bool (hasR Q ac nm)) ∧ One w0 w' p (canR Q ac nm) := by
  refine (cancel20 T.isQ T.good ac nm).mono ?_
  rintro e w1 ⟨rfl, h, k⟩
  exact ⟨rfl, T.go h (T.good.can _ _) k⟩
theorem one_all (T : One w0 w p Q) : Calls Try.prog 18 #[.pointer (some ⟨p, 0, none⟩)] w fun e w' => ∃ b, e = .returned (.slice (some ⟨b, 0, none⟩) Q.length Q.length) ∧ One w0 w' p Q := by
  refine (all18 T.isQ T.good).mono ?_
  rintro e w1 ⟨b, rfl, -, k, -⟩
  exact ⟨b, rfl, T.kept0 k⟩
set_option maxHeartbeats 1000000 in
theorem awake9 : Calls Try.prog 9 #[] w fun e w' => e = .returned (.bool true) ∧ Kept [] w w' := by
  go_enter Try.func9, Try.ntmps9
  go_wp2_with fail
  refine (one_new (w0 := w) (Kept.refl [] w)).mono ?_
  rintro e w1 ⟨p, rfl, T1⟩
  have HS := Hid.mk (one_set T1 ⟨[97], [], 5, 10, 0⟩ ⟨by unfold I64; decide, by unfold I64; decide, by unfold I64; decide⟩ (by simp) (by simp))
  have e1 : setA [] ⟨[97], [], 5, 10, 0⟩ = 0 := by decide
  have e2 : setQ [] ⟨[97], [], 5, 10, 0⟩ = [⟨[97], [], 5, 10, 0⟩] := by rw [setQ, if_pos e1]; rfl
  rw [e1, e2] at HS
  clear e1 e2 T1
  go_wp2_with fail
  refine HS.out.mono ?_
  rintro e w2 ⟨rfl, T2⟩
  have HV := Hid.mk (one_serve T2 5)
  have e1 : dueA [⟨[97], [], 5, 10, 0⟩] 5 = (⟨[97], [], 5, 10, 0⟩, true) := by rw [dueA, if_neg (by decide)]
  rw [e1] at HV
  clear e1 T2 HS
  go_wp2_with fail
  refine HV.out.mono ?_
  rintro e w3 ⟨rfl, T3⟩
  have k := T3.kept
  clear T3
  go_wp2_with fail
  go_ret
  exact ⟨rfl, k.trans ((Kept.refl [] w3).alloc _) (by simp)⟩
/-- A text of one byte that was just made. -/
theorem str1 (W : World) (b : UInt8) : (convert 37 9 (.slice (some ⟨W.heap.size, 0, none⟩) 1 1)).run Try.prog (W.alloc (.cells #[.int .u8 (b.toNat : Int)] 5)) = .ok (Sv [b]) (W.alloc (.cells #[.int .u8 (b.toNat : Int)] 5)) := by
  refine string_of 37 5 Try.underlying37 9 Try.underlying5 Try.underlying9 _ [b] _ ⟨_, 1, rfl, by simp, by simp [maxLen], by simp, fun _ => ⟨_, _, rfl, fun j u hu => ?_⟩⟩
  have hj := get_lt hu
  obtain rfl : j = 0 := by simp at hj; omega
  simp at hu
  subst hu
  exact cell_list (cs := [.int .u8 (b.toNat : Int)]) (i := 0) (heap_alloc_new W _) rfl
end
end Go.Proofs.Ytmjbkhcfdojpeaa
