/-
  InboxFull: the walk.
-/
import Derived.Test.YtpcliempoagpoaaIl
import Derived.Lib.MinMax
namespace Go.Proofs.Ytpcliempoagpoaa
open Go.RowKit
set_option linter.unusedVariables false
/-- A letter of a kind alone. -/
def kL (z : Int) : Lt := ⟨[], 0, z, []⟩
section
variable {w : World}
set_option maxRecDepth 100000 in
set_option maxHeartbeats 1000000 in
theorem full_walk {a : Option Addr} {n c : Nat} {l : List Int} (hr : ReadsJ w (.slice a n c) l) (hi : ∀ z ∈ l, I64 z) : Calls Try.prog 5 #[.slice a n c] w fun e w' => e = .returned (.bool true) ∧ Kept [] w w' := by
  obtain ⟨hn, hc1, hc2⟩ := hr.bound
  have HR := Hid.mk hr
  have HI := Hid.mk hi
  have HN := Hid.mk hn
  clear hr hi hn
  go_enter Try.func5, Try.ntmps5
  go_wp2_with fail
  refine awake8.mono ?_
  rintro e w1 ⟨rfl, k1⟩
  by_cases h100 : 100 < n
  · have g100 : (100 : Int) < (n : Int) := by omega
    go_wp2_with fail
    refine awake8.mono ?_
    rintro e w2 ⟨rfl, k2⟩
    go_wp2_with fail
    go_ret
    exact ⟨rfl, k1.trans k2 (by simp)⟩
  · have g100 : ((100 : Int) < (n : Int)) = False := eq_false (by omega)
    go_wp2_with fail
    refine new10.mono ?_
    rintro e w2 ⟨rfl, hB2, k2, -⟩
    have k02 := k1.trans k2 (by simp)
    have hpl := k1.size
    generalize w1.heap.size = p at hB2 hpl ⊢
    go_wp2_with fail
    go_loopw [22] (fun i wr => ∃ (j : Nat) (qs : List Lq), i = .int .i64 (j : Int) ∧ j ≤ n ∧ Hid (IsB wr p qs ∧ qs.map (·.x) = (l.take (min j 8)).map kL ∧ Kept [] w wr)) (fun i _ => n - (intOf i).toNat)
    case atStart => exact ⟨0, [], rfl, by omega, Hid.mk ⟨hB2, by simp, k02⟩⟩
    case round =>
      obtain ⟨j, qs, rfl, hj, hH⟩ := hrel
      by_cases hlt : j < n
      · have hjI : (j : Int) < (n : Int) := by omega
        obtain ⟨hB, hm, kk⟩ := hH.out
        obtain ⟨z, hz⟩ : ∃ z, l[j]? = some z := ⟨_, List.getElem?_eq_getElem (by have := HN.out; omega)⟩
        obtain ⟨b, o, rfl, d0⟩ := (HR.out.kept kk (by simp)).at hz
        have hql : qs.length = min j 8 := by
          have := congrArg List.length hm
          rw [List.length_map, List.length_map, List.length_take] at this
          have := HN.out
          omega
        have HP := Hid.mk (push11 (kL z) none 0 hB (ReadsJ.nil wr) ⟨by simp [kL], HI.out z (List.mem_of_getElem? hz), by simp [kL]⟩)
        have HZ := Hid.mk hz
        have HQL := Hid.mk hql
        have HM := Hid.mk hm
        have HK := Hid.mk kk
        clear hB hm kk hz hql
        go_wp2_with fail
        refine HP.out.mono ?_
        rintro e w3 ⟨qs3, rfl, hB3, hm3, k3, -⟩
        have k03 : Kept [] w w3 := HK.out.trans k3 (by simp; omega)
        by_cases h8 : j < 8
        · have hE : pushE qs.length (kL z) = 0 := by
            have := HQL.out
            unfold pushE
            rw [if_neg (by simp [kL, Lt.formed]), if_neg (by omega)]
          have hL : qs3.map (·.x) = (l.take (min (j + 1) 8)).map kL := by
            rw [hm3, HM.out]
            unfold pushL
            have := HQL.out
            rw [if_pos ⟨by simp [kL, Lt.formed], by rw [List.length_map, List.length_take]; omega⟩, Nat.min_eq_left (by omega : j ≤ 8), Nat.min_eq_left (by omega : j + 1 ≤ 8), List.take_add_one, HZ.out]
            simp
          rw [hE]
          have H3 : Hid (IsB w3 p qs3 ∧ qs3.map (·.x) = (l.take (min (j + 1) 8)).map kL ∧ Kept [] w w3) := ⟨hB3, hL, k03⟩
          have h8I : (j : Int) < 8 := by omega
          clear hE hL hB3 hm3 k3 k03
          go_wp2_with fail
          go_roundw
          case rel => exact ⟨j + 1, qs3, by go_num, by omega, H3⟩
          case measure => simp [intOf]; omega
        · have hE : pushE qs.length (kL z) = 7 := by
            have := HQL.out
            unfold pushE
            rw [if_neg (by simp [kL, Lt.formed]), if_pos (by omega)]
          have hL : qs3.map (·.x) = (l.take (min (j + 1) 8)).map kL := by
            rw [hm3, HM.out]
            unfold pushL
            have h1 := HQL.out
            have h2 := HN.out
            rw [if_neg (by rw [List.length_map, List.length_take]; omega), Nat.min_eq_right (by omega : 8 ≤ j), Nat.min_eq_right (by omega : 8 ≤ j + 1)]
          rw [hE]
          have H3 : Hid (IsB w3 p qs3 ∧ qs3.map (·.x) = (l.take (min (j + 1) 8)).map kL ∧ Kept [] w w3) := ⟨hB3, hL, k03⟩
          have h8I : ((j : Int) < 8) = False := eq_false (by omega)
          clear hE hL hB3 hm3 k3 k03
          go_wp2_with fail
          go_roundw
          case rel => exact ⟨j + 1, qs3, by go_num, by omega, H3⟩
          case measure => simp [intOf]; omega
      · obtain rfl : j = n := by omega
        obtain ⟨M, hM⟩ : ∃ M : Nat, M = min j 8 := ⟨_, rfl⟩
        have hmin : min (j : Int) 8 = (M : Int) := by rw [hM]; omega
        have HM := Hid.mk hM
        have hM8 : M ≤ 8 := by omega
        have hMj : M ≤ j := by omega
        clear hM
        obtain ⟨hBx, hmx, kkx⟩ := hH.out
        go_wp2_with fail
        go_loopw [49] (fun i wr => ∃ (k : Nat) (qs : List Lq), i = .int .i64 (k : Int) ∧ k ≤ M ∧ Hid (IsB wr p qs ∧ qs.map (·.x) = ((l.take M).drop k).map kL ∧ Kept [] w wr)) (fun i _ => M - (intOf i).toNat)
        case atStart => exact ⟨0, qs, rfl, by omega, Hid.mk ⟨hBx, by rw [hmx, HM.out]; rfl, kkx⟩⟩
        case round =>
          clear hH hBx hmx kkx hlt
          obtain ⟨k, qs, rfl, hk, hH⟩ := hrel
          by_cases hlt : k < M
          · have hkI : (k : Int) < (M : Int) := by omega
            have hkj : (k : Int) < (j : Int) := by omega
            have hk0 : (0 : Int) ≤ (k : Int) := by omega
            obtain ⟨hB, hm, kk⟩ := hH.out
            obtain ⟨z, hz⟩ : ∃ z, l[k]? = some z := ⟨_, List.getElem?_eq_getElem (by have := HN.out; omega)⟩
            have hdr : (l.take M).drop k = z :: (l.take M).drop (k + 1) := by
              have hz' : (l.take M)[k]? = some z := by rw [List.getElem?_take_of_lt hlt]; exact hz
              rw [List.drop_eq_getElem_cons (List.getElem?_eq_some_iff.1 hz').1, (List.getElem?_eq_some_iff.1 hz').2]
            rw [hdr, List.map_cons] at hm
            cases qs with
            | nil => simp at hm
            | cons q t =>
              rw [List.map_cons] at hm
              injection hm with hq hm
              have htl : t.length = M - (k + 1) := by
                have := congrArg List.length hm
                rw [List.length_map, List.length_map, List.length_drop, List.length_take] at this
                have := HN.out
                omega
              have HP := Hid.mk (pop13_some hB)
              have HK := Hid.mk kk
              have HZ := Hid.mk hz
              have HQ := Hid.mk hq
              have HMM := Hid.mk hm
              have HT := Hid.mk htl
              clear hB hm kk hdr hz hq htl
              go_wp2_with fail
              refine HP.out.mono ?_
              rintro e w3 ⟨a3, c3, rfl, hO3, k3, hf3, hB3⟩
              have k03 : Kept [] w w3 := HK.out.trans k3 (by simp; omega)
              have hqk : q.x.kind = z := by rw [HQ.out]; rfl
              go_wp2_with fail
              obtain ⟨W4, e4, k4, hz4, hb4⟩ := box1 w3 (.cells #[Sv q.x.fr, .int .u64 (q.x.ser : Int), .int .i64 z, .slice a3 q.x.args.length c3] 34)
              rw [e4]
              have kd := (k03.trans k4 (by simp)).drew
              have hB4 := (hB3.kept0 k4).kept0 (Kept.refl [] W4).drew
              have hbd : W4.drew.heap[w3.heap.size]? = some (.cells #[Sv q.x.fr, .int .u64 (q.x.ser : Int), .int .i64 z, .slice a3 q.x.args.length c3] 34 (0, 0)) := hb4
              obtain ⟨b, o, rfl, d0⟩ := (HR.out.kept kd (by simp)).at HZ.out
              have S0 : W4.drew.cell? ⟨b, o + k, none⟩ = some (.int .i64 z) ∧ W4.drew.cell? ⟨w3.heap.size, 2, none⟩ = some (.int .i64 z) := ⟨d0, (cells4 hbd).2.2.1⟩
              have hw1 : IntKind.i64.wrap ((M : Int) - (k : Int)) = (M : Int) - (k : Int) := by rw [IntKind.wrap_i64]; omega
              have hw2 : IntKind.i64.wrap ((M : Int) - (k : Int) - 1) = (t.length : Int) := by rw [IntKind.wrap_i64]; have := HT.out; omega
              have H21 := Hid.mk (len21 hB4)
              have hzz : (z != z) = false := by simp
              have htt : ((t.length : Int) != (t.length : Int)) = false := by simp
              have H4 : Hid (IsB W4.drew p t ∧ t.map (·.x) = ((l.take M).drop (k + 1)).map kL ∧ Kept [] w W4.drew) := ⟨hB4, HMM.out, kd⟩
              clear d0 hbd hb4 hB4 kd k4 e4 k03 hO3 k3 hf3 hB3 hqk hz4
              go_region_held3 (fun W => W.cell? ⟨b, o + k, none⟩ = some (.int .i64 z) ∧ W.cell? ⟨w3.heap.size, 2, none⟩ = some (.int .i64 z)) (first | exact S0) (first | (go_at_call 21; refine H21.out.mono ?_; rintro e w5 ⟨rfl, rfl⟩))
              all_goals go_wp2_with fail
              all_goals exact ⟨⟨k + 1, t, by go_num, by omega, H4⟩, by simp [intOf]; omega⟩
          · obtain rfl : k = M := by omega
            obtain ⟨hB, hm, kk⟩ := hH.out
            have hq0 : qs = [] := by
              rw [List.drop_of_length_le (by rw [List.length_take]; omega), List.map_nil] at hm
              simpa using hm
            subst hq0
            have HP := Hid.mk (pop13_none (w := wr) (p' := some ⟨p, 0, none⟩) (fun W k => first22 (hB.kept0 k)))
            have HK := Hid.mk kk
            clear hB hm kk
            go_wp2_with fail
            refine HP.out.mono ?_
            rintro e w3 ⟨a3, c3, rfl, hO3, k3, hf3⟩
            go_wp2_with fail
            go_ret
            exact ⟨rfl, (HK.out.trans k3 (by simp)).alloc _⟩
end
end Go.Proofs.Ytpcliempoagpoaa
