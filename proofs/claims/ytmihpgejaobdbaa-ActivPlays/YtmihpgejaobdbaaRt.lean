/-
  The document's table: NewTable, Drop, Touch.
-/
import Derived.Test.YtmihpgejaobdbaaTb
namespace Go.Proofs.Ytmihpgejaobdbaa
set_option maxRecDepth 100000
open Go.RowKit
set_option linter.unusedVariables false
/-- The document's table at U: how many there may be, its keys L in the row v. -/
structure IsU (w : World) (U : Nat) (m : Int) (L : List Ky) (v : Value) : Prop where
  box : w.heap[U]? = some (.cells #[.int .i64 m, v] 39 (0, 0))
  own : OwnsR 9 1 w v (CT L)
  apart : v.ownBlock ≠ some U
def footU (U : Nat) (v : Value) : List Nat := U :: v.ownBlock.toList
theorem mem_footU {U b : Nat} {v : Value} : b ∈ footU U v ↔ b = U ∨ v.ownBlock = some b := by simp [footU, Option.mem_toList]
theorem IsU.lt {w : World} {U : Nat} {m : Int} {L : List Ky} {v : Value} (h : IsU w U m L v) : ∀ b ∈ footU U v, b < w.heap.size := by
  intro b hb
  rcases mem_footU.1 hb with rfl | hb
  · exact lt_of_block h.box
  · exact OwnsR.lt h.own hb
theorem IsU.kept {S : List Nat} {w w' : World} {U : Nat} {m : Int} {L : List Ky} {v : Value} (h : IsU w U m L v) (k : Kept S w w') (hn : ∀ b ∈ footU U v, b ∉ S) : IsU w' U m L v :=
  ⟨k.keeps h.box (hn U (mem_footU.2 (.inl rfl))), h.own.kept k (fun g hg => hn g (mem_footU.2 (.inr hg))), h.apart⟩
theorem texts_at {w : World} {a : Option Addr} {n c : Nat} {L : List Ky} (h : OwnsR 9 1 w (.slice a n c) (CT L)) {j : Nat} {s : Ky} (hj : L[j]? = some s) : ∃ b o, a = some ⟨b, o, none⟩ ∧ w.cell? ⟨b, o + j, none⟩ = some (Sv s) := TextsIn.at (h.reads (CT_wide L)) hj
section
variable {w : World} {U : Nat} {m : Int} {L : List Ky} {v : Value}
set_option maxHeartbeats 1000000 in
theorem new9 (n : Int) (w : World) : Calls Try.prog 9 #[.int .i64 n] w fun e w' => ∃ U, e = .returned (Pp U) ∧ IsU w' U (min (max n 1) 10000) [] (.slice none 0 0) ∧ Kept [] w w' ∧ w.heap.size ≤ U := by
  go_enter Try.func9, Try.ntmps9
  go_wp2_with fail
  go_ret
  refine ⟨_, rfl, ⟨heap_alloc_new w _, OwnsR.nil 9 1 _, by simp [Value.ownBlock]⟩, (Kept.refl [] w).alloc _, Nat.le_refl _⟩
set_option maxHeartbeats 4000000 in
/-- Drop. -/
theorem drop13 (h : IsU w U m L v) (hl : L.length ≤ 20000) (k : Ky) : Calls Try.prog 13 #[Pp U, Sv k] w fun e w' => e = .returned (.bool (decide (k ∈ L))) ∧ ∃ v', IsU w' U m (noT L k) v' ∧ Kept [U] w w' ∧ Fresh w v' := by
  obtain ⟨a, c, rfl, hc1, hc2⟩ := OwnsR.form h.own
  have hcl : (CT L).length = L.length := CT_length L
  rw [hcl] at h hc1
  have c0 : w.cell? ⟨U, 1, none⟩ = some (.slice a L.length c) := (cell_of_two h.box).2
  have HH := Hid.mk h
  have HL := Hid.mk hl
  have HC := Hid.mk c0
  obtain ⟨n, hn⟩ : ∃ n, L.length = n := ⟨_, rfl⟩
  rw [hn] at c0 hc1 HC HH
  have HN := Hid.mk hn
  clear h hl hn hcl
  go_enter Try.func13, Try.ntmps13
  go_wp2_with fail
  go_loopw [5, 13] (fun x i wr => ∃ j : Nat, i = .int .i64 (j : Int) ∧ j ≤ n ∧ Hid (OwnsR 9 1 wr x (CT (noT (L.take j) k)) ∧ Fresh w x) ∧ Hid (Kept [] w wr)) (fun _ i _ => n - (intOf i).toNat)
  case atStart => exact ⟨0, rfl, by omega, Hid.mk ⟨OwnsR.nil 9 1 _, fresh_nil _ _⟩, Hid.mk (Kept.refl [] _)⟩
  case round =>
    obtain ⟨j, rfl, hj, hO, hk⟩ := hrel
    obtain ⟨hO1, hf1⟩ := hO.out
    have k1 := hk.out
    have e1 := k1.cell_eq HC.out
    by_cases hlt : j < n
    · obtain ⟨s, hs⟩ : ∃ s, L[j]? = some s := ⟨_, List.getElem?_eq_getElem (by have := HN.out; omega)⟩
      obtain ⟨b, o, rfl, e2⟩ := texts_at (HH.out.own.kept k1 (by simp)) hs
      have hjI : (j : Int) < (n : Int) := by omega
      have ht : L.take (j + 1) = L.take j ++ [s] := by rw [List.take_add_one, hs]; rfl
      have HT := Hid.mk ht
      by_cases hsk : s = k
      · have hb : (s == k) = true := by simp [hsk]
        have HK := Hid.mk hsk
        have HO2 : Hid (OwnsR 9 1 wr u5 (CT (noT (L.take (j + 1)) k)) ∧ Fresh w u5) := by
          rw [ht, hsk, noT_append, noT_eq]
          exact Hid.mk (by simpa [noT] using hO.out)
        clear hO hO1 hf1 k1 hs hsk ht
        go_wp2_with fail
        go_roundw
        case rel => exact ⟨j + 1, by go_num, by omega, HO2, hk⟩
        case measure => simp [intOf]; omega
      · have hb : (s == k) = false := by simp [hsk]
        have hlen : (CT (noT (L.take j) k)).length ≤ 20000 := by
          rw [CT_length]
          have h1 := noT_len (L.take j) k
          have h2 := HL.out
          rw [List.length_take] at h1
          omega
        obtain ⟨a2, c2, w2, hrun, hO2, k2, hN2⟩ := append_rowR rtT hO1 [Sv s] rfl (fun x hx => by simp at hx; subst hx; rfl) (by omega) 9 (0, 0) 37
        obtain ⟨ax, nx, rfl⟩ : ∃ ax cx, u5 = .slice ax (CT (noT (L.take j) k)).length cx := by
          obtain ⟨a', c', h, -⟩ := OwnsR.form hO1
          exact ⟨a', c', h⟩
        generalize hq : (CT (noT (L.take j) k)).length = q at *
        have HO2 : Hid (OwnsR 9 1 w2 (.slice a2 (q + 1) c2) (CT (noT (L.take (j + 1)) k)) ∧ Fresh w (.slice a2 (q + 1) c2)) := by
          refine ⟨?_, fun g hg => ?_⟩
          · have e : CT (noT (L.take (j + 1)) k) = CT (noT (L.take j) k) ++ [[Sv s]] := by
              rw [ht, noT_append, noT_ne _ hsk, CT_append]
              rfl
            rw [e]
            exact hO2
          · rcases hN2 g hg with h | h
            · exact hf1 g h
            · have := k1.size; omega
        have HK2 : Hid (Kept [] w w2) := k1.trans k2 (fun x hx => .inr (hf1 x (by rw [Option.mem_toList] at hx; exact hx)))
        clear hO hk hO1 hf1 k1 hs hsk ht hO2 k2 hN2 hq hlen
        go_wp2_with (at_builtin; refine wpList_append_run 37 37 _ _ rfl (by rfl) _ _ rfl rfl _ _ hrun ?_)
        go_roundw
        case rel => exact ⟨j + 1, by go_num, by omega, HO2, HK2⟩
        case measure => simp [intOf]; omega
    · obtain rfl : j = n := by omega
      have hjI : ((j : Int) < (j : Int)) = False := eq_false (by omega)
      have hO3 : OwnsR 9 1 wr u5 (CT (noT L k)) := by
        have := hO1
        rw [List.take_of_length_le (by rw [HN.out]; omega)] at this
        exact this
      obtain ⟨ax, cx, rfl⟩ : ∃ ax cx, u5 = .slice ax (noT L k).length cx := by
        obtain ⟨a', c', h, -⟩ := OwnsR.form hO3
        rw [CT_length] at h
        exact ⟨a', c', h⟩
      have hbox := k1.keeps HH.out.box (by simp)
      have f1 := (free_of_two hbox).2
      have hlt' := noT_lt L k
      rw [HN.out] at hlt'
      have HLT := Hid.mk hlt'
      have HO3 := Hid.mk hO3
      have HB := Hid.mk hbox
      have HF := Hid.mk hf1
      have HK1 := Hid.mk k1
      clear hO hO1 hf1 k1 hk hbox hlt' hO3
      have fin : ∀ bb : Bool, Hid (bb = decide (k ∈ L)) → ∃ v', IsU (wr.setCell ⟨U, 1, none⟩ (.slice ax (noT L k).length cx)) U m (noT L k) v' ∧ Kept [U] w (wr.setCell ⟨U, 1, none⟩ (.slice ax (noT L k).length cx)) ∧ Fresh w v' := fun bb _ => by
        have hne : (Value.slice ax (noT L k).length cx).ownBlock ≠ some U := fun e => by
          have h1 := HF.out U e
          have h2 := lt_of_block HH.out.box
          omega
        refine ⟨_, ⟨set_at HB.out, ownsRow_setCell_other HO3.out hne _, hne⟩, (HK1.out.mono (by simp)).setCell (p := ⟨U, 1, none⟩) (.inl (by simp)) _, HF.out⟩
      by_cases hkL : k ∈ L
      · have hI : ((noT L k).length : Int) < (j : Int) := by have := HLT.out.2 hkL; omega
        have HKL := Hid.mk hkL
        clear hkL
        go_wp2_with fail
        go_ret
        exact ⟨by rw [decide_eq_true HKL.out]; rfl, fin _ (Hid.mk rfl)⟩
      · have hI : (((noT L k).length : Int) < (j : Int)) = False := eq_false (fun h => hkL (HLT.out.1 (by omega)))
        have HKL := Hid.mk hkL
        clear hkL
        go_wp2_with fail
        go_ret
        exact ⟨by rw [decide_eq_false HKL.out]; rfl, fin _ (Hid.mk rfl)⟩
set_option maxHeartbeats 4000000 in
/-- Touch. -/
theorem touch11 (h : IsU w U m L v) (hl : L.length ≤ 10000) (hm : 1 ≤ m) (k : Ky) : Calls Try.prog 11 #[Pp U, Sv k] w fun e w' => e = .returned (.tuple #[Sv ((touchT m.toNat L k).2.getD []), .bool (touchT m.toNat L k).2.isSome]) ∧ ∃ v', IsU w' U m (touchT m.toNat L k).1 v' ∧ Kept (footU U v) w w' ∧ ∀ b ∈ footU U v', b ∈ footU U v ∨ w.heap.size ≤ b := by
  have HH := Hid.mk h
  have HD := Hid.mk (drop13 h (by omega) k)
  have HL := Hid.mk hl
  have HM := Hid.mk hm
  clear h hl hm
  go_enter Try.func11, Try.ntmps11
  go_wp2_with fail
  refine HD.out.mono ?_
  rintro e w1 ⟨rfl, v1, h1, k1, f1⟩
  have hlen : (CT (noT L k)).length ≤ 10000 := by
    rw [CT_length]
    have := noT_len L k
    have := HL.out
    omega
  obtain ⟨a1, n1, rfl⟩ : ∃ a c, v1 = .slice a (CT (noT L k)).length c := by
    obtain ⟨a', c', h, -⟩ := OwnsR.form h1.own
    exact ⟨a', c', h⟩
  obtain ⟨a2, c2, w2, hrun, hO2, k2, hN2⟩ := append_rowR rtT h1.own [Sv k] rfl (fun x hx => by simp at hx; subst hx; rfl) (by omega) 9 (0, 0) 37
  have hU2 := k2.keeps h1.box (by rw [Option.mem_toList]; exact h1.apart)
  have c1 : w1.cell? ⟨U, 1, none⟩ = some (.slice a1 (CT (noT L k)).length n1) := (cell_of_two h1.box).2
  have d1 := (cell_of_two hU2).2
  have g1 := (free_of_two hU2).2
  have e2 : CT (noT L k) ++ [[Sv k]] = CT (addT L k) := by rw [addT, CT_append]; rfl
  rw [e2] at hO2
  generalize hq : (CT (noT L k)).length = q at *
  have hq2 : (addT L k).length = q + 1 := by rw [addT, List.length_append, ← hq, CT_length]; rfl
  have f2 : Fresh w (.slice a2 (q + 1) c2) := fun g hg => by
    rcases hN2 g hg with h | h
    · exact f1 g h
    · have := k1.size; omega
  have hne : (Value.slice a2 (q + 1) c2).ownBlock ≠ some U := fun e => by
    have h1 := f2 U e
    have h2 := lt_of_block HH.out.box
    omega
  have h3 : IsU (w2.setCell ⟨U, 1, none⟩ (.slice a2 (q + 1) c2)) U m (addT L k) (.slice a2 (q + 1) c2) := ⟨set_at hU2, ownsRow_setCell_other hO2 hne _, hne⟩
  have k3 : Kept [U] w (w2.setCell ⟨U, 1, none⟩ (.slice a2 (q + 1) c2)) := (k1.trans k2 (fun x hx => .inr (f1 x (by rw [Option.mem_toList] at hx; exact hx)))).setCell (p := ⟨U, 1, none⟩) (.inl (by simp)) _
  have H3 := Hid.mk h3
  have K3 := Hid.mk k3
  have F2 := Hid.mk f2
  have HQ := Hid.mk hq2
  clear h1 k1 f1 hlen hO2 k2 hN2 hU2 e2 hq hq2 f2 hne h3 k3 HD
  go_wp2_with (at_builtin; refine wpList_append_run 37 37 _ _ rfl (by rfl) _ _ rfl rfl _ _ hrun ?_)
  have h3 := H3.out
  have k3 := K3.out
  clear H3 K3
  generalize w2.setCell ⟨U, 1, none⟩ (.slice a2 (q + 1) c2) = w3 at h3 k3 ⊢
  have s0 := (cell_of_two h3.box).1
  have s1 := (cell_of_two h3.box).2
  have H3 := Hid.mk h3
  have K3 := Hid.mk k3
  have hz : w.heap.size ≤ w3.heap.size := k3.size
  clear h3 k3 hrun c1 d1 g1
  obtain ⟨N, rfl⟩ := Int.eq_ofNat_of_zero_le (show 0 ≤ m by have := HM.out; omega)
  have hN1 : 1 ≤ N := by have := HM.out; omega
  by_cases hle : q + 1 ≤ N
  · have hI : (((q + 1 : Nat) : Int) ≤ (N : Int)) := by omega
    have HLE := Hid.mk hle
    clear hle
    go_region
    go_wp2_with fail
    go_ret2
    have e : touchT (N : Int).toNat L k = (addT L k, none) := by
      unfold touchT
      rw [if_pos (by rw [HQ.out]; simpa using HLE.out)]
    rw [e]
    refine ⟨rfl, _, H3.out.kept ((Kept.refl [] w3).drew) (by simp), (K3.out.mono (fun x hx => .inl (mem_footU.2 (.inl (by simpa using hx))))).drew, fun b hb => ?_⟩
    rcases mem_footU.1 hb with rfl | hb
    · exact .inl (mem_footU.2 (.inl rfl))
    · exact .inr (F2.out b hb)
  · have hI : ¬ (((q + 1 : Nat) : Int) ≤ (N : Int)) := by omega
    have HLE := Hid.mk hle
    clear hle
    obtain ⟨y, R, hy⟩ : ∃ y R, addT L k = y :: R := by
      cases h : addT L k with
      | nil => have := HQ.out; rw [h] at this; simp at this
      | cons y R => exact ⟨y, R, rfl⟩
    have hRl : R.length = q := by have := HQ.out; rw [hy] at this; simpa using this
    obtain ⟨b, o, rfl, s2⟩ := texts_at H3.out.own (j := 0) (s := y) (by rw [hy]; rfl)
    go_region
    have h4 : IsU w3.drew U (N : Int) (addT L k) (.slice (some ⟨b, o, none⟩) (q + 1) c2) := H3.out.kept ((Kept.refl [] w3).drew) (by simp)
    have k4 : Kept [U] w w3.drew := K3.out.drew
    have s2 : w3.drew.cell? ⟨b, o, none⟩ = some (Sv y) := s2
    generalize w3.drew = w4 at h4 k4 s2 ⊢
    have hb1 := (cell_of_two h4.box).2
    have hz4 := k4.size
    have kA : Kept [] w4 (w4.alloc (.cells #[] 9)) := (Kept.refl [] w4).alloc _
    have hA := h4.kept kA (by simp)
    have hb2 := kA.cell_eq hb1
    have hOA : OwnsR 9 1 (w4.alloc (.cells #[] 9)) (.slice (some ⟨w4.heap.size, 0, none⟩) 0 0) [] := World.ownsRow_made (base := 0) (e := 9) (size := 1) w4 #[] 0 (Nat.zero_le _) (by simp) (by simp)
    have hrd := hA.own.reads (CT_wide _)
    obtain ⟨a7, c7, e3, hcc, -⟩ := OwnsR.form hA.own
    have e7 : c2 = c7 := by injection e3
    rw [← e7] at hcc
    clear e3 e7
    have hlC : (CT (addT L k)).length = q + 1 := by rw [CT_length, HQ.out]
    rw [hlC] at hcc
    have hcutR := ReadsR.cut (k := 1) (i := 1) (j := q + 1) (m := c2) hlC.symm hrd (by omega) (Nat.le_refl _) hcc (Nat.le_refl _)
    have eR : ((CT (addT L k)).take (q + 1)).drop 1 = CT R := by
      rw [List.take_of_length_le (by omega), hy]; rfl
    have hcA : cutA (some ⟨b, o, none⟩) c2 1 1 = some ⟨b, o + 1, none⟩ := by
      have := HLE.out
      unfold cutA
      rw [if_neg (by omega), Option.map_some, add_at]
    rw [eR, Nat.add_sub_cancel, hcA] at hcutR
    have hRC : (CT R).length = q := by rw [CT_length]; exact hRl
    have hqb : q ≤ 10000 := by
      have h1 := HQ.out
      have h2 := HL.out
      have h3 := addT_len L k
      omega
    obtain ⟨a5, c5, w5, hrun5, hO5, g5, hN5⟩ := run_appendR rtT (w4.alloc (.cells #[] 9)) 37 _ [] hOA _ (CT R) (CT_wide R) hcutR (by rw [hRC]; simp; omega)
    rw [List.nil_append, List.length_nil, Nat.zero_add, hRC] at *
    have hU5 := (g5.block U (by have := lt_of_block h4.box; simp; omega) (fun e => by
      have := lt_of_block h4.box
      simp [Value.ownBlock] at e
      omega)).trans hA.box
    have d5 := (cell_of_two hU5).2
    have f5 := (free_of_two hU5).2
    have k5 : Kept [] w4 w5 := kA.grown g5 (fun x hx => by simp [Value.ownBlock] at hx; exact .inr (by omega))
    have hF5 : Fresh w4 (.slice a5 q c5) := fun g hg => by
      rcases hN5 g hg with h | h
      · simp [Value.ownBlock] at h; omega
      · simp at h; omega
    have hne : (Value.slice a5 q c5).ownBlock ≠ some U := fun e => by
      have h1 := hF5 U e
      have h2 := lt_of_block h4.box
      omega
    have h6 : IsU (w5.setCell ⟨U, 1, none⟩ (.slice a5 q c5)) U (N : Int) R (.slice a5 q c5) := ⟨set_at hU5, ownsRow_setCell_other hO5 hne _, hne⟩
    have k6 : Kept [U] w (w5.setCell ⟨U, 1, none⟩ (.slice a5 q c5)) := (k4.trans k5 (by simp)).setCell (p := ⟨U, 1, none⟩) (.inl (by simp)) _
    have H6 := Hid.mk h6
    have K6 := Hid.mk k6
    have F6 : Hid (Fresh w (.slice a5 q c5)) := fun g hg => Nat.le_trans hz4 (hF5 g hg)
    clear hcA h4 k4 hA hOA hrd hcutR eR hO5 g5 hN5 hU5 k5 hF5 hne h6 k6 kA hz hz4
    go_wp2_with (at_builtin; refine wpList_append_run 37 37 _ _ rfl (by rfl) _ _ rfl rfl _ _ hrun5 ?_)
    go_ret2
    have e : touchT N L k = (R, some y) := by
      unfold touchT
      rw [if_neg (by rw [HQ.out]; exact HLE.out), hy]
      rfl
    rw [e]
    refine ⟨rfl, _, H6.out, K6.out.mono (fun x hx => .inl (mem_footU.2 (.inl (by simpa using hx)))), fun b hb => ?_⟩
    rcases mem_footU.1 hb with rfl | hb
    · exact .inl (mem_footU.2 (.inl rfl))
    · exact .inr (F6.out b hb)
end
end Go.Proofs.Ytmihpgejaobdbaa
