/-
  Decode of a window.
-/
import Derived.Test.YtngjljgcldfekaaDr
namespace Go.Proofs.Ytngjljgcldfekaa
open Go.RowKit
set_option linter.unusedVariables false
/-- What Decode answers. -/
def DecAt (w : World) (o : Option (List Cl)) (e : Ending) (w' : World) : Prop :=
  (o = none ∧ e = .returned (.tuple #[.pointer none, .int .i64 2]) ∧ Kept [] w w') ∨
  (∃ p L, o = some L ∧ e = .returned (.tuple #[.pointer (some ⟨p, 0, none⟩), .int .i64 0]) ∧ Win w w' p L)
/-- What is still to be read of k clients. -/
def DecGo (o : Option (List Cl)) (k : Nat) (L : List Cl) (l : List UInt8) (b : Bool) : Prop := (b = false ∧ o = (rwin k L l).bind fun y => if y.2 = [] then some y.1 else none) ∨ (b = true ∧ o = none)
section
variable {w : World}
theorem dec_no {o : Option (List Cl)} {w' : World} (h : o = none) (k : Kept [] w w') : DecAt w o (.returned (.tuple #[.pointer none, .int .i64 2])) w' := .inl ⟨h, rfl, k⟩
theorem dec_yes {o : Option (List Cl)} {w' : World} {p : Nat} {L : List Cl} (h : o = some L) (hW : Win w w' p L) : DecAt w o (.returned (.tuple #[.pointer (some ⟨p, 0, none⟩), .int .i64 0])) w' := .inr ⟨p, L, h, rfl, hW⟩
set_option maxRecDepth 100000 in
set_option maxHeartbeats 1000000 in
theorem decode21 (v : Value) (l : List UInt8) (hr : Reads w v l) (hl : l.length ≤ 140737488355328) : Calls Try.prog 21 #[v] w fun e w' => DecAt w (decW l) e w' := by
  have HN : Hid (∀ W, decW l = none → Kept [] w W → DecAt w (decW l) (.returned (.tuple #[.pointer none, .int .i64 2])) W) := fun W => dec_no
  have HY : Hid (∀ W p L, decW l = some L → Win w W p L → DecAt w (decW l) (.returned (.tuple #[.pointer (some ⟨p, 0, none⟩), .int .i64 0])) W) := fun W p L => dec_yes
  have HT : Hid (((rnum l false).2.2 = true → decW l = none ∧ (rnum l false).1 = 0) ∧ ((rnum l false).2.2 = false → decW l = if 64 < (rnum l false).1 then none else (rwin (rnum l false).1 [] (rnum l false).2.1).bind fun y => if y.2 = [] then some y.1 else none)) := by
    cases hn : num l with
    | none => rw [num_none hn]; exact ⟨fun _ => ⟨by unfold decW; rw [hn]; rfl, rfl⟩, (fun h => by cases h)⟩
    | some x => obtain ⟨n, r⟩ := x; rw [num_some hn]; exact ⟨(fun h => by cases h), fun _ => by unfold decW; rw [hn]; rfl⟩
  have hlt := rnum_lt l false
  have HR := Hid.mk (newr_in v l w hr hl)
  generalize DecAt w (decW l) = R at HN HY
  clear hr
  go_enter Try.func21, Try.ntmps21
  go_wp2_with fail
  refine HR.out.mono ?_
  rintro e w1 ⟨q, v1, rfl, h1, k1, hf1, hq1, hin1⟩
  have HX := Hid.mk (rnum_any q v1 l false w1 h1)
  have HQ : Hid (w.heap.size ≤ q ∧ q < w1.heap.size) := ⟨hq1, h1.lt⟩
  have HIN := Hid.mk hin1
  have HK1 := Hid.mk k1
  clear h1 k1 hf1 hq1 hin1
  generalize rnum l false = N at HX HT hlt
  obtain ⟨n, r, b⟩ := N
  go_wp2_with fail
  refine HX.out.mono ?_
  rintro e w2 ⟨rfl, v2, h2, k2, hw2⟩
  have k02 : Kept [] w w2 := HK1.out.trans k2 (fun x hx => by simp at hx; subst hx; exact .inr HQ.out.1)
  have HIN2 : Hid (∀ g, v2.ownBlock = some g → g < w2.heap.size) := fun g hg => by have := HIN.out g (hw2 g hg); have := k2.size; omega
  have H2 : Hid (IsR 83 w2 q v2 r b ∧ Kept [] w w2) := ⟨h2, k02⟩
  try dsimp only
  try dsimp only at hlt
  try dsimp only at HT
  clear h2 k2 hw2 k02
  by_cases h64 : 64 < n
  · have g64 : (64 : Int) < (n : Int) := by omega
    have hno : decW l = none := by
      cases b with
      | true => exact (HT.out.1 rfl).1
      | false => have := HT.out.2 rfl; rwa [if_pos h64] at this
    have HS := Hid.mk (HN.out _ hno H2.out.2)
    clear hno
    go_wp2_with fail
    exact HS.out
  · have g64 : ((64 : Int) < (n : Int)) = False := eq_false (by omega)
    go_wp2_with fail
    refine (win_new H2.out.2).mono ?_
    rintro e w3 ⟨rfl, h3, k3⟩
    have hS3 : St w w3 w2.heap.size q [] r b := ⟨h3, ⟨v2, H2.out.1.kept k3 (by simp) (by simp), fun e => by have := HIN2.out _ e; omega⟩, by have := H2.out.1.lt; omega, HQ.out.1⟩
    have hD : DecGo (decW l) n [] r b := by
      cases b with
      | true => exact .inr ⟨rfl, (HT.out.1 rfl).1⟩
      | false => have := HT.out.2 rfl; rw [if_neg h64] at this; exact .inl ⟨rfl, this⟩
    have HS3 := Hid.mk hS3
    have HD := Hid.mk hD
    clear h3 k3 hS3 hD HT
    generalize w2.heap.size = p at HS3 ⊢
    go_wp2_with fail
    go_loopw [15] (fun i wr => ∃ (j : Nat) (L' : List Cl) (l' : List UInt8) (b' : Bool), i = .int .u64 (j : Int) ∧ j ≤ n ∧ Hid (St w wr p q L' l' b' ∧ DecGo (decW l) (n - j) L' l' b')) (fun i _ => n - (intOf i).toNat)
    case atStart => exact ⟨0, [], r, b, rfl, by omega, Hid.mk ⟨HS3.out, HD.out⟩⟩
    case round =>
      obtain ⟨j, L', l', b', rfl, hj, hH⟩ := hrel
      obtain ⟨hS, hD⟩ := hH.out
      by_cases hlt' : j < n
      · have hjI : (j : Int) < (n : Int) := by omega
        have hrd : ∃ o, Calls Try.prog 39 #[.pointer (some ⟨p, 0, none⟩), .pointer (some ⟨q, 0, none⟩)] wr (fun e w' => ReadAt w p q o e w') ∧ ((∃ L2 l2, o = some (L2, l2) ∧ decW l = (rwin (n - (j + 1)) L2 l2).bind fun y => if y.2 = [] then some y.1 else none) ∨ (o = none ∧ decW l = none)) := by
          rcases hD with ⟨e1, e2⟩ | ⟨e1, e2⟩
          · subst e1
            refine ⟨_, read39 hS, ?_⟩
            rw [show n - j = (n - (j + 1)) + 1 by omega, rwin] at e2
            cases hc : rcl L' l' with
            | none => rw [hc] at e2; exact .inr ⟨rfl, e2⟩
            | some x => obtain ⟨L2, l2⟩ := x; rw [hc] at e2; exact .inl ⟨L2, l2, rfl, e2⟩
          · subst e1
            exact ⟨none, read39_spoilt hS, .inr ⟨rfl, e2⟩⟩
        obtain ⟨o, hC, ho⟩ := hrd
        have HC := Hid.mk hC
        have HO := Hid.mk ho
        clear hS hD hH hC ho
        go_wp2_with fail
        refine HC.out.mono ?_
        rintro e w4 hR
        rcases hR with ⟨L2, l2, e1, rfl, h4⟩ | ⟨e1, bb, L2, l2, bad2, rfl, h4, hbb⟩
        · have HR4 : Hid (St w w4 p q L2 l2 false ∧ DecGo (decW l) (n - (j + 1)) L2 l2 false) := by
            refine ⟨h4, .inl ⟨rfl, ?_⟩⟩
            rcases HO.out with ⟨L3, l3, e3, e4⟩ | ⟨e3, -⟩
            · rw [e1] at e3
              simp only [Option.some.injEq, Prod.mk.injEq] at e3
              rw [← e3.1, ← e3.2] at e4
              exact e4
            · rw [e1] at e3; cases e3
          clear h4 e1
          go_wp2_with fail
          go_roundw
          case rel => exact ⟨j + 1, L2, l2, false, by go_num, by omega, HR4⟩
          case measure => simp [intOf]; omega
        · have hno : decW l = none := by
            rcases HO.out with ⟨L3, l3, e3, -⟩ | ⟨-, e4⟩
            · rw [e1] at e3; cases e3
            · exact e4
          have HNO := Hid.mk hno
          clear hno e1
          cases bb with
          | false =>
            have HS := Hid.mk (HN.out _ HNO.out h4.win.kept)
            clear h4 hbb
            go_wp2_with fail
            exact HS.out
          | true =>
            have hb2 := hbb rfl
            subst hb2
            have HR4 : Hid (St w w4 p q L2 l2 true ∧ DecGo (decW l) (n - (j + 1)) L2 l2 true) := ⟨h4, .inr ⟨rfl, HNO.out⟩⟩
            clear h4 hbb
            go_wp2_with fail
            go_roundw
            case rel => exact ⟨j + 1, L2, l2, true, by go_num, by omega, HR4⟩
            case measure => simp [intOf]; omega
      · obtain rfl : j = n := by omega
        obtain ⟨v5, i1, i2⟩ := hS.rd
        have HE := Hid.mk (end_any q v5 l' b' wr i1)
        have HW := Hid.mk hS.win
        have HDD := Hid.mk hD
        clear i1 hS hD hH
        cases hE : (!b' && l'.isEmpty) with
        | true =>
          rw [hE] at HE
          have hs : decW l = some L' := by
            rw [Bool.and_eq_true] at hE
            rcases HDD.out with ⟨e1, e2⟩ | ⟨e1, e2⟩
            · rw [Nat.sub_self, rwin] at e2
              rw [e2]
              dsimp only [Option.bind_some]
              rw [if_pos (by simpa using hE.2)]
            · rw [e1] at hE; simp at hE
          have HS := Hid.mk (HY.out _ _ _ hs HW.out)
          clear hs hE
          go_wp2_with fail
          refine HE.out.mono ?_
          rintro e w6 ⟨rfl, rfl⟩
          go_wp2_with fail
          exact HS.out
        | false =>
          rw [hE] at HE
          have hs : decW l = none := by
            rcases HDD.out with ⟨e1, e2⟩ | ⟨e1, e2⟩
            · rw [Nat.sub_self, rwin] at e2
              rw [e2]
              dsimp only [Option.bind_some]
              rw [if_neg (by intro e; rw [e1, e] at hE; simp at hE)]
            · exact e2
          have HS := Hid.mk (HN.out _ hs HW.out.kept)
          clear hs hE
          go_wp2_with fail
          refine HE.out.mono ?_
          rintro e w6 ⟨rfl, rfl⟩
          go_wp2_with fail
          exact HS.out
end
end Go.Proofs.Ytngjljgcldfekaa
