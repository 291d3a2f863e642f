/-
  Add of a window, and what it answers.
-/
import Derived.Test.YtngjljgcldfekaaWo
import Derived.Test.YtngjljgcldfekaaWq
import Derived.Test.YtngjljgcldfekaaWp
namespace Go.Proofs.Ytngjljgcldfekaa
open Go.RowKit
set_option linter.unusedVariables false
section
variable {w : World} {p : Nat} {L : List Cl}
theorem add25 (hB : IsWd w p L) {j : Nat} {x : Cl} (hj : L[j]? = some x) (s : Nat) : Calls Try.prog 25 #[.pointer (some ⟨p, j * 6, none⟩), Uv s] w fun e w' => e = .returned (.tuple #[]) ∧ IsWd w' p (L.set j (updC x s)) ∧ Kept [p] w w' := by
  have h4 := hB.fit.four x (List.mem_of_getElem? hj)
  by_cases h : x.s.length < 4
  · exact add25_room hB hj h s
  · have : ∃ a b c d, x.s = [a, b, c, d] := by
      have hl : x.s.length = 4 := by omega
      match x.s, hl with
      | [a, b, c, d], _ => exact ⟨a, b, c, d, rfl⟩
    obtain ⟨a, b, c, d, hs⟩ := this
    exact add25_full hB hj hs s
set_option maxRecDepth 100000 in
set_option maxHeartbeats 1000000 in
theorem add11_seen {c s : Nat} (hS : Calls Try.prog 14 #[.pointer (some ⟨p, 0, none⟩), Uv c, Uv s] w fun e w' => e = .returned (.bool true) ∧ Kept [] w w') : Calls Try.prog 11 #[.pointer (some ⟨p, 0, none⟩), Uv c, Uv s] w fun e w' => e = .returned (.bool false) ∧ Kept [] w w' := by
  have HS := Hid.mk hS
  clear hS
  go_enter Try.func11, Try.ntmps11
  go_wp2_with fail
  refine HS.out.mono ?_
  rintro e w1 ⟨rfl, k1⟩
  go_wp2_with fail
  go_ret
  exact ⟨rfl, k1⟩
theorem add11_nil {c s : Nat} : Calls Try.prog 11 #[.pointer none, Uv c, Uv s] w fun e w' => e = .returned (.bool false) ∧ w = w' := by
  go_enter Try.func11, Try.ntmps11
  go_wp2_with fail
  go_ret
  exact ⟨rfl, rfl⟩
set_option maxRecDepth 100000 in
set_option maxHeartbeats 1000000 in
theorem add11_no {c s : Nat} {M : List Cl} {y : Cl} (hS : Calls Try.prog 14 #[.pointer (some ⟨p, 0, none⟩), Uv c, Uv s] w fun e w' => e = .returned (.bool false) ∧ Kept [] w w')
    (hM : ∀ W, Kept [] w W → Calls Try.prog 24 #[.pointer (some ⟨p, 0, none⟩), Uv c] W fun e w' => e = .returned (.tuple #[]) ∧ IsWd w' p (M ++ [y]) ∧ Kept [p] W w') : Calls Try.prog 11 #[.pointer (some ⟨p, 0, none⟩), Uv c, Uv s] w fun e w' => e = .returned (.bool true) ∧ IsWd w' p (M ++ [updC y s]) ∧ Kept [p] w w' := by
  have HS := Hid.mk hS
  have HM := Hid.mk hM
  clear hS hM
  go_enter Try.func11, Try.ntmps11
  go_wp2_with fail
  refine HS.out.mono ?_
  rintro e w1 ⟨rfl, k1⟩
  go_wp2_with fail
  refine (HM.out _ k1).mono ?_
  rintro e w2 ⟨rfl, hB2, k2⟩
  go_wp2_with fail
  have hl64 := hB2.fit.len
  have hB2d : IsWd w2.drew p (M ++ [y]) := hB2.kept0 (Kept.refl [] w2).drew
  have S0 := hB2d.count
  have hset : (M ++ [y]).set M.length (updC y s) = M ++ [updC y s] := by rw [List.set_append_right _ _ (Nat.le_refl _), Nat.sub_self]; rfl
  have hA := add25 hB2d (j := M.length) (x := y) (by simp) s
  rw [hset] at hA
  have hpos : (M ++ [y]).length = M.length + 1 := by simp
  rw [hpos] at S0 hl64
  have HA : Hid (Calls Try.prog 25 #[.pointer (some ⟨p, M.length * 6, none⟩), Uv s] w2.drew fun e w' => e = .returned (.tuple #[]) ∧ (∃ v, w'.cell? ⟨p, 384, none⟩ = some v) ∧ IsWd w' p (M ++ [updC y s]) ∧ Kept [p] w2.drew w') := hA.mono fun e w' h => ⟨h.1, ⟨_, h.2.1.count⟩, h.2.1, h.2.2⟩
  have hcnt : Hid (∀ W, IsWd W p (M ++ [updC y s]) → W.cell? ⟨p, 384, none⟩ = some (.int .i64 ((M.length + 1 : Nat) : Int))) := fun W h => by have := h.count; rw [List.length_append] at this; exact this
  clear hB2 hB2d hA hset hpos
  generalize M.length = m at *
  have hw : IntKind.i64.wrap (((m + 1 : Nat) : Int) - 1) = (m : Int) := by rw [IntKind.wrap_i64]; omega
  have g0 : (0 : Int) ≤ (m : Int) := by omega
  have g6 : (m : Int) < 64 := by omega
  generalize hN : ((m + 1 : Nat) : Int) = N at *
  clear hN hl64
  go_region_held3 (fun W => W.cell? ⟨p, 384, none⟩ = some (.int .i64 N)) (first | exact S0 | exact S1) (first | (go_at_call 25; refine HA.out.mono ?_; rintro e w3 ⟨rfl, -, hB3, k3⟩; have S1 := hcnt.out _ hB3))
  clear S0 S1
  go_wp2_with fail
  go_ret
  exact ⟨rfl, hB3, ((k1.mono (by simp)).trans k2 (by simp)).trans ((Kept.refl [p] w2).drew.trans k3 (by simp)) (by simp)⟩
theorem seen14 (hB : IsWd w p L) (c s : Nat) : Calls Try.prog 14 #[.pointer (some ⟨p, 0, none⟩), Uv c, Uv s] w fun e w' => e = .returned (.bool (seenL L c s)) ∧ Kept [] w w' := by
  rcases where_is L c with ⟨j, x, h1, h2, h3, h4⟩ | ⟨h1, h2⟩
  · unfold seenL; rw [h4]; exact seen14_some hB h1 h2 h3 s
  · unfold seenL; rw [h2]; simpa using seen14_none (find27_none hB h1) s
theorem serials17 (hB : IsWd w p L) (c : Nat) : Calls Try.prog 17 #[.pointer (some ⟨p, 0, none⟩), Uv c] w fun e w' => NewU w (srl L c) e w' := by
  rcases where_is L c with ⟨j, x, h1, h2, h3, h4⟩ | ⟨h1, h2⟩
  · rw [h4]; exact serials17_some hB h1 h2 h3
  · rw [h2]
    refine (serials17_none (find27_none hB h1)).mono ?_
    rintro e w' ⟨rfl, rfl⟩
    exact ⟨_, rfl, OwnsU.nil w, Kept.refl [] w, fun g hg => by simp [Value.ownBlock] at hg⟩
/-- What Add answers and leaves. -/
def AddAt (w : World) (p : Nat) (L : List Cl) (c s : Nat) (e : Ending) (w' : World) : Prop := e = .returned (.bool (!seenL L c s)) ∧ IsWd w' p (nxt L c s) ∧ Kept [p] w w'
theorem add11 (hB : IsWd w p L) (hg : Good L) (c s : Nat) : Calls Try.prog 11 #[.pointer (some ⟨p, 0, none⟩), Uv c, Uv s] w fun e w' => AddAt w p L c s e w' := by
  have hs := seen14 hB c s
  cases hsn : seenL L c s with
  | true =>
    rw [hsn] at hs
    refine (add11_seen hs).mono ?_
    rintro e w' ⟨rfl, k⟩
    exact ⟨by rw [hsn]; rfl, by unfold nxt; rw [if_pos hsn]; exact hB.kept0 k, k.mono (by simp)⟩
  | false =>
    rw [hsn] at hs
    have fin : ∀ (M : List Cl) (y : Cl), addL L c s = M ++ [updC y s] → (∀ W, Kept [] w W → Calls Try.prog 24 #[.pointer (some ⟨p, 0, none⟩), Uv c] W fun e w' => e = .returned (.tuple #[]) ∧ IsWd w' p (M ++ [y]) ∧ Kept [p] W w') → Calls Try.prog 11 #[.pointer (some ⟨p, 0, none⟩), Uv c, Uv s] w fun e w' => AddAt w p L c s e w' := fun M y ha hm => by
      refine (add11_no hs hm).mono ?_
      rintro e w' ⟨rfl, h1, h2⟩
      refine ⟨by rw [hsn]; rfl, ?_, h2⟩
      unfold nxt
      rw [if_neg (by simp [hsn]), ha]
      exact h1
    rcases where_is L c with ⟨j, x, h1, h2, h3, h4⟩ | ⟨h1, h2⟩
    · exact fin (L.take j ++ L.drop (j + 1)) x (addL_some hg h1 h2 h4 s) (fun W k => ml24_some (hB.kept0 k) h1 h2 h3)
    · have hl := hg.len
      by_cases h64 : L.length = 64
      · refine fin (L.drop 1) ⟨c, []⟩ (addL_full h1 h2 h64 s) (fun W k => ?_)
        have := ml24_full (hB.kept0 k) h64 h1
        rwa [show mv L 0 ⟨c, []⟩ = L.drop 1 ++ [⟨c, []⟩] by simp [mv]] at this
      · refine fin L ⟨c, []⟩ (addL_new h1 h2 (by omega) s) (fun W k => ?_)
        have := ml24_new (hB.kept0 k) (by omega) h1
        rwa [show mv (L ++ [zc]) L.length ⟨c, []⟩ = L ++ [⟨c, []⟩] by simp [mv]] at this
end
end Go.Proofs.Ytngjljgcldfekaa
