/-
  The document's Decode: the walk.
-/
import Derived.Test.YtngjljgcldfekaaDe
namespace Go.Proofs.Ytngjljgcldfekaa
open Go.RowKit
set_option linter.unusedVariables false
section
variable {w : World}
set_option maxRecDepth 100000 in
set_option maxHeartbeats 2000000 in
theorem rdecode22 (v : Value) (l : List UInt8) (hr : Reads w v l) (hin : Inside w v) : Calls Try.prog 22 #[v] w fun e w' => RDecAt w (decW l) e w' := by
  have HN : Hid (∀ W, decW l = none → Kept [] w W → RDecAt w (decW l) (.returned (.tuple #[.pointer none, .int .i64 2])) W) := fun W => rdec_no
  have HY : Hid (∀ W p q A r bad, decW l = some A → SF w W p q A r bad → RDecAt w (decW l) (.returned (.tuple #[.pointer (some ⟨p, 0, none⟩), .int .i64 0])) W) := fun W p q A r bad => rdec_yes
  have HT : Hid (((rnum l false).2.2 = true → decW l = none) ∧ ((rnum l false).2.2 = false → (64 < (rnum l false).1 → decW l = none) ∧ (¬ 64 < (rnum l false).1 → Go1 (decW l) (rnum l false).1 [] (rnum l false).2.1))) := by
    cases hn : num l with
    | none => rw [num_none hn]; exact ⟨fun _ => by unfold decW; rw [hn]; rfl, (fun h => by cases h)⟩
    | some x =>
      obtain ⟨n, r⟩ := x
      rw [num_some hn]
      refine ⟨(fun h => by cases h), fun _ => ⟨fun h => ?_, fun h => ?_⟩⟩
      · unfold decW; rw [hn]; dsimp only [Option.bind_some]; rw [if_pos h]
      · unfold Go1 decW; rw [hn]; dsimp only [Option.bind_some]; rw [if_neg h]
  have hlt := rnum_lt l false
  have HR := Hid.mk (of_any v l w hr hin)
  have HIN := Hid.mk hin
  generalize RDecAt w (decW l) = R at HN HY
  clear hr hin
  go_enter Try.func22, Try.ntmps22
  go_wp2_with fail
  refine HR.out.mono ?_
  rintro e w1 ⟨q, rfl, h1, k1, hq1⟩
  have HX := Hid.mk (refr_any q v l false w1 h1)
  have HQ : Hid (w.heap.size ≤ q) := hq1
  have HK1 := Hid.mk k1
  clear h1 k1 hq1
  generalize rnum l false = N at HX HT hlt
  obtain ⟨n, r, b⟩ := N
  go_wp2_with fail
  refine HX.out.mono ?_
  rintro e w2 ⟨rfl, v2, h2, k2, hw2⟩
  have k02 : Kept [] w w2 := HK1.out.trans k2 (fun x hx => by simp at hx; subst hx; exact .inr HQ.out)
  have H2 : Hid (IsR 74 w2 q v2 r b ∧ Kept [] w w2) := ⟨h2, k02⟩
  have HIN2 : Hid (∀ g, v2.ownBlock = some g → g < w.heap.size) := fun g hg => HIN.out g (hw2 g hg)
  have hcb := (cell_of_two h2.box).2
  try dsimp only
  try dsimp only at hlt
  try dsimp only at hcb
  clear h2 k2 hw2 k02
  cases b with
  | true =>
    have HS := Hid.mk (HN.out _ (HT.out.1 rfl) H2.out.2)
    go_wp2_with fail
    exact HS.out
  | false =>
    obtain ⟨t1, t2⟩ := HT.out.2 rfl
    by_cases h64 : 64 < n
    · have g64 : (64 : Int) < (n : Int) := by omega
      have HS := Hid.mk (HN.out _ (t1 h64) H2.out.2)
      clear t1 t2
      go_wp2_with fail
      exact HS.out
    · have g64 : ((64 : Int) < (n : Int)) = False := eq_false (by omega)
      have k3 := (Kept.refl [] w2).alloc (.cells #[.slice none 0 0] 29)
      have hS3 : SF w (w2.alloc (.cells #[.slice none 0 0] 29)) w2.heap.size q [] r false := ⟨⟨_, [], ⟨heap_alloc_new w2 _, ReadsR.nil 2 _, (fun q hq => by simp at hq), Typ.nil _ _ _ _, by simp⟩, rfl⟩, Good.nil, ⟨v2, H2.out.1.kept k3 (by simp) (by simp), fun e => by have := HIN2.out _ e; have := H2.out.2.size; omega⟩, HQ.out, H2.out.2.size, H2.out.2.trans k3 (by simp)⟩
      have HS3 := Hid.mk hS3
      have HD := Hid.mk (t2 h64)
      clear hS3 k3 t1 t2 HT
      go_wp2_with fail
      generalize w2.heap.size = p at HS3 ⊢
      generalize w2.alloc (.cells #[.slice none 0 0] 29) = W3 at HS3 ⊢
      clear hcb
      go_loopw [24] (fun i wr => ∃ (j : Nat) (A : List Cl) (l' : List UInt8), i = .int .u64 (j : Int) ∧ j ≤ n ∧ Hid (SF w wr p q A l' false ∧ Go1 (decW l) (n - j) A l')) (fun i _ => n - (intOf i).toNat)
      case atStart => exact ⟨0, [], r, rfl, by omega, Hid.mk ⟨HS3.out, HD.out⟩⟩
      case round =>
        obtain ⟨j, A, l', rfl, hj, hH⟩ := hrel
        obtain ⟨hS, hG⟩ := hH.out
        by_cases hlt' : j < n
        · have hjI : (j : Int) < (n : Int) := by omega
          rw [show n - j = (n - (j + 1)) + 1 by omega] at hG
          have hstep := go1_step hG
          have hX := sf_num hS
          -- the two numbers, as the Reader tells them
          obtain ⟨c, k, l1, l2, b1, b2, e1, e2, hc, hcase⟩ : ∃ c k l1 l2 b1 b2, rnum l' false = (c, l1, b1) ∧ rnum l1 b1 = (k, l2, b2) ∧ U64 c ∧ ((b2 = true ∧ decW l = none) ∨ (b2 = false ∧ (k = 0 ∨ 4 < k ∨ ∃ z ∈ A, z.c = c) ∧ decW l = none) ∨ (b2 = false ∧ 1 ≤ k ∧ k ≤ 4 ∧ (∀ z ∈ A, z.c ≠ c) ∧ Go2 (decW l) (n - (j + 1)) k c A l2)) := by
            cases h1 : num l' with
            | none => exact ⟨0, 0, [], [], true, true, num_none h1, rnum_bad2, by unfold U64; omega, .inl ⟨rfl, hstep.1 h1⟩⟩
            | some x =>
              obtain ⟨c, l1⟩ := x
              cases h2 : num l1 with
              | none => exact ⟨c, 0, l1, [], false, true, num_some h1, num_none h2, num_lt h1, .inl ⟨rfl, (hstep.2 c l1 h1).1 h2⟩⟩
              | some y =>
                obtain ⟨k, l2⟩ := y
                have hs3 := (hstep.2 c l1 h1).2 k l2 h2
                by_cases h3 : k = 0 ∨ 4 < k ∨ ∃ z ∈ A, z.c = c
                · exact ⟨c, k, l1, l2, false, false, num_some h1, num_some h2, num_lt h1, .inr (.inl ⟨rfl, h3, hs3.1 h3⟩)⟩
                · refine ⟨c, k, l1, l2, false, false, num_some h1, num_some h2, num_lt h1, .inr (.inr ⟨rfl, by omega, by omega, fun z hz e => h3 (.inr (.inr ⟨z, hz, e⟩)), hs3.2 h3⟩)⟩
          rw [e1] at hX
          have HX1 := Hid.mk hX
          have HE2 := Hid.mk e2
          have HC := Hid.mk hc
          have HCC := Hid.mk hcase
          have hklt := rnum_lt l1 b1
          rw [e2] at hklt
          clear hstep hX hS hG hH e1 e2 hc hcase
          go_wp2_with fail
          refine HX1.out.mono ?_
          rintro e w4 ⟨rfl, h4⟩
          have hX2 := sf_num h4
          rw [HE2.out] at hX2
          have HX2 := Hid.mk hX2
          clear hX2 h4
          try dsimp only
          go_wp2_with fail
          refine HX2.out.mono ?_
          rintro e w5 ⟨rfl, h5⟩
          try dsimp only at h5
          try dsimp only
          try dsimp only at hklt
          have hcb := h5.cell
          have H5 := Hid.mk h5
          clear h5
          rcases HCC.out with ⟨rfl, hno⟩ | ⟨rfl, hbad, hno⟩ | ⟨rfl, hk1, hk4, hz, hG2⟩
          · have HS := Hid.mk (HN.out _ hno H5.out.kept)
            clear hno
            go_wp2_with fail
            exact HS.out
          · have HS := Hid.mk (HN.out _ hno H5.out.kept)
            have HBD := Hid.mk hbad
            clear hno hbad HCC
            by_cases q1 : k < 1
            · have z1 : (k : Int) < 1 := by omega
              go_wp2_with fail
              exact HS.out
            · have z1 : ((k : Int) < 1) = False := eq_false (by omega)
              by_cases q2 : 4 < k
              · have z2 : (4 : Int) < (k : Int) := by omega
                go_wp2_with fail
                exact HS.out
              · have z2 : ((4 : Int) < (k : Int)) = False := eq_false (by omega)
                have hz : ∃ z ∈ A, z.c = c := by
                  rcases HBD.out with h | h | h
                  · omega
                  · omega
                  · exact h
                have HP := Hid.mk (sf_place_some H5.out hz)
                clear hz
                go_wp2_with fail
                refine HP.out.mono ?_
                rintro e w6 ⟨⟨j6, rfl⟩, rfl⟩
                have hj6 : (0 : Int) ≤ (j6 : Int) := by omega
                go_wp2_with fail
                exact HS.out
          · have z1 : ((k : Int) < 1) = False := eq_false (by omega)
            have z2 : ((4 : Int) < (k : Int)) = False := eq_false (by omega)
            have HP := Hid.mk (sf_place_none H5.out hz)
            have HG2 := Hid.mk hG2
            clear hz hG2 HCC
            go_wp2_with fail
            refine HP.out.mono ?_
            rintro e w6 ⟨rfl, rfl⟩
            go_wp2_with fail
            clear hcb
            go_loopw [49] (fun i wr => ∃ (m : Nat) (A' : List Cl) (l3 : List UInt8), i = .int .u64 (m : Int) ∧ m ≤ k ∧ Hid (SF w wr p q A' l3 false ∧ Go2 (decW l) (n - (j + 1)) (k - m) c A' l3)) (fun i _ => k - (intOf i).toNat)
            case atStart => exact ⟨0, A, l2, rfl, by omega, Hid.mk ⟨H5.out, HG2.out⟩⟩
            case round =>
              obtain ⟨m, A', l3, rfl, hm, hH⟩ := hrel
              obtain ⟨hS, hG⟩ := hH.out
              by_cases hlk : m < k
              · have hmI : (m : Int) < (k : Int) := by omega
                rw [show k - m = (k - (m + 1)) + 1 by omega] at hG
                have hstep := go2_step hG
                have hX := sf_num hS
                obtain ⟨s, r3, b3, e1, hs64, hcase⟩ : ∃ s r3 b3, rnum l3 false = (s, r3, b3) ∧ U64 s ∧ ((b3 = true ∧ decW l = none) ∨ (b3 = false ∧ seenL A' c s = true ∧ decW l = none) ∨ (b3 = false ∧ seenL A' c s = false ∧ Go2 (decW l) (n - (j + 1)) (k - (m + 1)) c (addL A' c s) r3)) := by
                  cases h1 : num l3 with
                  | none => exact ⟨0, [], true, num_none h1, by unfold U64; omega, .inl ⟨rfl, hstep.1 h1⟩⟩
                  | some x =>
                    obtain ⟨s, r3⟩ := x
                    have hs3 := hstep.2 s r3 h1
                    cases h2 : seenL A' c s with
                    | true => exact ⟨s, r3, false, num_some h1, num_lt h1, .inr (.inl ⟨rfl, h2, hs3.1 h2⟩)⟩
                    | false => exact ⟨s, r3, false, num_some h1, num_lt h1, .inr (.inr ⟨rfl, h2, hs3.2 h2⟩)⟩
                rw [e1] at hX
                have HX1 := Hid.mk hX
                have HS64 := Hid.mk hs64
                have HCC := Hid.mk hcase
                clear hstep hX hS hG hH e1 hs64 hcase
                go_wp2_with fail
                refine HX1.out.mono ?_
                rintro e w7 ⟨rfl, h7⟩
                try dsimp only at h7
                try dsimp only
                have hA := sf_add h7 HC.out HS64.out
                cases hsn : seenL A' c s with
                | true =>
                  rw [hsn] at hA
                  have HA := Hid.mk hA
                  have hno : decW l = none := by
                    rcases HCC.out with ⟨-, h⟩ | ⟨-, -, h⟩ | ⟨-, h, -⟩
                    · exact h
                    · exact h
                    · rw [hsn] at h; cases h
                  have HNO := Hid.mk hno
                  clear hA h7 hno hsn HCC
                  go_wp2_with fail
                  refine HA.out.mono ?_
                  rintro e w8 ⟨rfl, h8⟩
                  have HS := Hid.mk (HN.out _ HNO.out h8.kept)
                  clear h8
                  go_wp2_with fail
                  exact HS.out
                | false =>
                  rw [hsn] at hA
                  have HA := Hid.mk hA
                  have HNX : Hid (nxt A' c s = addL A' c s) := by show _ = _; unfold nxt; rw [if_neg (by simp [hsn])]
                  have HSN := Hid.mk hsn
                  clear hA h7 hsn
                  go_wp2_with fail
                  refine HA.out.mono ?_
                  rintro e w8 ⟨rfl, h8⟩
                  rw [HNX.out] at h8
                  have hcb := h8.cell
                  rcases HCC.out with ⟨rfl, hno⟩ | ⟨rfl, h, hno⟩ | ⟨rfl, h, hG3⟩
                  · have HS := Hid.mk (HN.out _ hno h8.kept)
                    clear h8 hno HCC
                    go_wp2_with fail
                    exact HS.out
                  · rw [HSN.out] at h; cases h
                  · have HR8 : Hid (SF w w8 p q (addL A' c s) r3 false ∧ Go2 (decW l) (n - (j + 1)) (k - (m + 1)) c (addL A' c s) r3) := ⟨h8, hG3⟩
                    clear h8 hG3 HCC h
                    go_wp2_with fail
                    clear hcb
                    go_roundw
                    case rel => exact ⟨m + 1, _, _, by go_num, by omega, HR8⟩
                    case measure => simp [intOf]; omega
              · obtain rfl : m = k := by omega
                rw [Nat.sub_self] at hG
                have HR9 : Hid (SF w wr p q A' l3 false ∧ Go1 (decW l) (n - (j + 1)) A' l3) := ⟨hS, go2_zero hG⟩
                clear hS hG hH
                go_wp2_with fail
                go_roundw
                case rel => exact ⟨j + 1, _, _, by go_num, by omega, HR9⟩
                case measure => simp [intOf]; omega
        · obtain rfl : j = n := by omega
          rw [Nat.sub_self] at hG
          have hE := sf_end hS
          have hG : decW l = if l' = [] then some A else none := hG
          cases l' with
          | nil =>
            have HE : Hid (Calls Try.prog 43 #[.pointer (some ⟨q, 0, none⟩)] wr fun e w' => e = .returned (.bool true) ∧ wr = w') := hE
            rw [if_pos rfl] at hG
            have HS := Hid.mk (HY.out _ _ _ _ _ _ hG hS)
            clear hE hG hS hH
            go_wp2_with fail
            refine HE.out.mono ?_
            rintro e w6 ⟨rfl, rfl⟩
            go_wp2_with fail
            exact HS.out
          | cons x t =>
            have HE : Hid (Calls Try.prog 43 #[.pointer (some ⟨q, 0, none⟩)] wr fun e w' => e = .returned (.bool false) ∧ wr = w') := hE
            rw [if_neg (by simp)] at hG
            have HS := Hid.mk (HN.out _ hG hS.kept)
            clear hE hG hS hH
            go_wp2_with fail
            refine HE.out.mono ?_
            rintro e w6 ⟨rfl, rfl⟩
            go_wp2_with fail
            exact HS.out
end
end Go.Proofs.Ytngjljgcldfekaa
