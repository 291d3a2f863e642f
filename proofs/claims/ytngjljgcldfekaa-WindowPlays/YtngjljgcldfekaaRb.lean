/-
  The document's window: Add of a serial that is not remembered.
-/
import Derived.Test.YtngjljgcldfekaaRa
namespace Go.Proofs.Ytngjljgcldfekaa
open Go.RowKit
set_option linter.unusedVariables false
section
variable {w0 w w' : World} {p : Nat} {v : Value} {qs : List Cq}
set_option maxRecDepth 100000 in
set_option maxHeartbeats 2000000 in
theorem radd12_no (hB : IsF w p v qs) (hl : qs.length ≤ 64) (h4 : Four (mx qs)) (c s : Nat) (hns : seenL (mx qs) c s = false) : Calls Try.prog 12 #[.pointer (some ⟨p, 0, none⟩), Uv c, Uv s] w fun e w' => RAddAt w p qs c s e w' := by
  have hS := rseen15 hB h4 c s
  rw [hns] at hS
  have HS := Hid.mk hS
  have HB := Hid.mk hB
  have H4 := Hid.mk h4
  have HNS := Hid.mk hns
  have hsl : (srl (mx qs) c).length ≤ 4 := by
    rcases srl_or (mx qs) c with h | ⟨x, hx, -, h⟩
    · rw [h]; simp
    · rw [h]; exact h4 x hx
  obtain ⟨av, cv, rfl, hv1, hv2⟩ := hB.row.form
  clear hB h4 hns hS
  generalize hn : qs.length = n at *
  have HN := Hid.mk hn
  clear hn
  go_enter Try.func12, Try.ntmps12
  go_wp2_with fail
  refine HS.out.mono ?_
  rintro e w1 ⟨rfl, k1⟩
  go_wp2_with fail
  refine (rser18 (HB.out.kept0 k1) H4.out c).mono ?_
  rintro e w2 ⟨v2, rfl, hO2, k2, hf2⟩
  obtain ⟨a2, c2, rfl, hb21, hb22⟩ := hO2.form
  obtain ⟨a3, c3, w3, hrun, hO3, k3, hN3⟩ := append_rowR rt42 hO2 [Uv s] rfl (by intro u hu; simp at hu; subst hu; rfl) (by rw [CU_length]; omega) 30 (0, 0) 42
  rw [CU_length] at hrun hO3 hN3
  have hO3 : OwnsU w3 (.slice a3 ((srl (mx qs) c).length + 1) c3) (srl (mx qs) c ++ [s]) := by unfold OwnsU; rw [CU_append]; exact hO3
  have k03 : Kept [] w w3 := (k1.trans k2 (by simp)).trans k3 (fun x hx => by rw [Option.mem_toList] at hx; exact .inr (by have := hf2 x hx; have := k1.size; omega))
  have hO3r := hO3.reads
  have hO3t : Typ w3 (.slice a3 ((srl (mx qs) c).length + 1) c3) 30 := ownsR_typ hO3
  obtain ⟨-, hb3a, hb3b⟩ := hO3r.bound
  have hcutd : (srl (mx qs) c ++ [s]).length = (srl (mx qs) c).length + 1 := by simp
  clear hO2 k2 hf2 k3 hN3 hO3
  generalize hn1 : (srl (mx qs) c).length = n1 at *
  by_cases h5 : 4 < n1 + 1
  · have g5 : (4 : Int) < (n1 : Int) + 1 := by omega
    obtain ⟨hcut, hrcut⟩ := run_cut1 rt42 hO3r (by rw [CU_length, hcutd]) (by omega)
    have hl1 : ReadsU w3 (.slice (cutA a3 c3 1 1) (n1 + 1 - 1) (c3 - 1)) (cut4 (srl (mx qs) c ++ [s])) := by
      unfold cut4 ReadsU CU; rw [if_pos (by omega), List.map_drop]; exact hrcut
    have hl2 : Typ w3 (.slice (cutA a3 c3 1 1) (n1 + 1 - 1) (c3 - 1)) 30 := cut_typ hO3t
    have hl3 : (cut4 (srl (mx qs) c ++ [s])).length = n1 + 1 - 1 := by unfold cut4; rw [if_pos (by omega), List.length_drop, hcutd]
    have hl4 := k03
    clear hO3r hO3t hrcut k03 hcutd hn1
    generalize cutA a3 c3 1 1 = al at *
    generalize n1 + 1 - 1 = nl at *
    generalize c3 - 1 = cl at *
    have HLR : Hid (ReadsU w3 (.slice al nl cl) (cut4 (srl (mx qs) c ++ [s])) ∧ Typ w3 (.slice al nl cl) 30 ∧ (cut4 (srl (mx qs) c ++ [s])).length = nl ∧ Kept [] w w3) := ⟨hl1, hl2, hl3, hl4⟩
    clear hl1 hl2 hl3 hl4
    have hB3 := HB.out.kept0 HLR.out.2.2.2
    have hc3 := cell_of_one hB3.box
    clear hB3
    go_wp2_with (at_builtin; refine wpList_append_run 42 42 _ _ rfl (by rfl) _ _ rfl rfl _ _ hrun ?_)
    go_loopw [8, 30] (fun u i wr => ∃ (j : Nat) (a : Option Addr) (k ca : Nat), u = .slice a k ca ∧ i = .int .i64 (j : Int) ∧ j ≤ n ∧ Hid (Lay w3 wr a k ca (othQ (qs.take j) c))) (fun _ i _ => n - (intOf i).toNat)
    case atStart => exact ⟨0, none, 0, 0, rfl, rfl, by omega, Hid.mk ⟨OwnsR.nil 59 2 w3, rfl, Kept.refl [] w3, fun g hg => by simp [Value.ownBlock] at hg⟩⟩
    case round =>
      clear hc3
      obtain ⟨j, a, k, ca, rfl, rfl, hj, hH⟩ := hrel
      have hL := hH.out
      have kw := HLR.out.2.2.2.trans hL.kept (by simp)
      have hB4 := HB.out.kept0 kw
      have hc4 := cell_of_one hB4.box
      have hkl : k ≤ 64 := by rw [← hL.len]; have := othQ_le (qs.take j) c; rw [List.length_take] at this; have := HN.out; omega
      by_cases hlt : j < n
      · have hjI : (j : Int) < (n : Int) := by omega
        obtain ⟨y, hy⟩ : ∃ y, qs[j]? = some y := ⟨_, List.getElem?_eq_getElem (by have := HN.out; omega)⟩
        obtain ⟨b, o, rfl, d0, d1⟩ := hB4.row.at hy
        by_cases hyc : y.x.c = c
        · have g1 : ((y.x.c : Int) != (c : Int)) = false := by simp [hyc]
          have HR : Hid (Lay w3 wr a k ca (othQ (qs.take (j + 1)) c)) := by rw [othQ_take hy, if_pos hyc, List.append_nil]; exact hL
          clear hL kw hB4 hy hyc hH
          go_wp2_with fail
          go_roundw
          case rel => exact ⟨j + 1, a, k, ca, rfl, by go_num, by omega, HR⟩
          case measure => simp [intOf]; omega
        · have g1 : ((y.x.c : Int) != (c : Int)) = true := by simp; omega
          obtain ⟨a5, c5, w5, hrun5, hL5⟩ := hL.app (by omega) y
          have HR : Hid (Lay w3 w5 a5 (k + 1) c5 (othQ (qs.take (j + 1)) c)) := by rw [othQ_take hy, if_neg hyc]; exact hL5
          clear hL kw hB4 hy hyc hH hL5
          go_wp2_with (at_builtin; refine wpList_append_run 27 27 _ _ rfl (by rfl) _ _ rfl rfl _ _ hrun5 ?_)
          go_roundw
          case rel => exact ⟨j + 1, a5, k + 1, c5, rfl, by go_num, by omega, HR⟩
          case measure => simp [intOf]; omega
      · obtain rfl : j = n := by omega
        have hfull : qs.take j = qs := List.take_of_length_le (by rw [HN.out]; exact Nat.le_refl _)
        rw [hfull] at hL
        obtain ⟨a5, c5, w5, hrun5, hL5⟩ := hL.app (by omega) ⟨⟨c, cut4 (srl (mx qs) c ++ [s])⟩, al, cl⟩
        have hrun5 : (Builtin.append_ #[27, 27] 27 #[.slice a k ca, .slice (some ⟨wr.heap.size, 0, none⟩) 1 1]).run Try.prog (wr.alloc (.cells #[Uv c, .slice al nl cl] 59)) = .ok (.slice a5 (k + 1) c5) w5 := by
          have e := HLR.out.2.2.1
          rw [← e]; exact hrun5
        have k35 := hL5.kept
        have kw5 : Kept [] w w5 := HLR.out.2.2.2.trans k35 (by simp)
        have hvals : ValsQ w5 (othQ qs c ++ [⟨⟨c, cut4 (srl (mx qs) c ++ [s])⟩, al, cl⟩]) := fun q hq => by
          rcases List.mem_append.1 hq with h | h
          · exact (HB.out.vals q (List.mem_filter.1 h).1).kept0 kw5
          · simp at h; subst h
            have := HLR.out.1.kept0 k35
            rw [← HLR.out.2.2.1] at this
            exact this
        have htyps : ∀ q ∈ othQ qs c ++ [(⟨⟨c, cut4 (srl (mx qs) c ++ [s])⟩, al, cl⟩ : Cq)], Typ w5 q.sl 30 := fun q hq => by
          rcases List.mem_append.1 hq with h | h
          · exact (HB.out.ts q (List.mem_filter.1 h).1).kept kw5 (by simp)
          · simp at h; subst h
            have := HLR.out.2.1.kept k35 (by simp)
            rw [← HLR.out.2.2.1] at this
            exact this
        obtain ⟨hrow5, htyp5, hb51, hb52⟩ := hL5.out
        have hlen5 := hL5.len
        have hmx : mx (othQ qs c ++ [⟨⟨c, cut4 (srl (mx qs) c ++ [s])⟩, al, cl⟩]) = oth (mx qs) c ++ [⟨c, cut4 (srl (mx qs) c ++ [s])⟩] := by
          rw [← mx_othQ]; simp [mx]
        have hB5 := HB.out.kept0 kw5
        have hc5 := cell_of_one hB5.box
        have hf5 := free_of_one hB5.box
        by_cases h64 : 64 < k + 1
        · have g64 : (64 : Int) < (k : Int) + 1 := by omega
          obtain ⟨hcut, hrcut⟩ := run_cut1 rt27 hrow5 (by rw [CQ_length]; exact hlen5) (by omega)
          have hst := isF_store (qs' := (othQ qs c ++ [(⟨⟨c, cut4 (srl (mx qs) c ++ [s])⟩, al, cl⟩ : Cq)]).drop 1) HB.out.box kw5 (by unfold RowQ CQ; rw [List.map_drop]; exact hrcut) (fun q hq => hvals q (List.mem_of_mem_drop hq)) (cut_typ htyp5) (fun q hq => htyps q (List.mem_of_mem_drop hq))
          have hl65 : 64 < (oth (mx qs) c ++ [(⟨c, cut4 (srl (mx qs) c ++ [s])⟩ : Cl)]).length := by rw [← hmx, mx, List.length_map, hlen5]; exact h64
          have HF : Hid (RAddAt w p qs c s (.returned (.bool true)) (w5.setCell ⟨p, 0, none⟩ (.slice (cutA a5 c5 1 2) (k + 1 - 1) (c5 - 1)))) := ⟨by rw [HNS.out]; rfl, _, _, hst.1, by
            unfold nxt addL cutW
            rw [if_neg (by simp [HNS.out]), if_pos hl65, ← hmx]
            simp [mx], hst.2⟩
          clear hst hL hL5 hrow5 htyp5 hvals htyps hB5 hB4 hlen5 hmx hl65 hrcut k35 kw5 kw hH hfull
          generalize cutA a5 c5 1 2 = a6 at *
          generalize k + 1 - 1 = k6 at *
          generalize c5 - 1 = c6 at *
          go_wp2_with (at_builtin; refine wpList_append_run 27 27 _ _ rfl (by rfl) _ _ rfl rfl _ _ hrun5 ?_)
          go_ret
          exact HF.out
        · have g64 : ((64 : Int) < (k : Int) + 1) = False := eq_false (by omega)
          have hst := isF_store (qs' := othQ qs c ++ [⟨⟨c, cut4 (srl (mx qs) c ++ [s])⟩, al, cl⟩]) HB.out.box kw5 hrow5 hvals htyp5 htyps
          have hl65 : ¬ 64 < (oth (mx qs) c ++ [(⟨c, cut4 (srl (mx qs) c ++ [s])⟩ : Cl)]).length := by rw [← hmx, mx, List.length_map, hlen5]; exact h64
          have HF : Hid (RAddAt w p qs c s (.returned (.bool true)) (w5.setCell ⟨p, 0, none⟩ (.slice a5 (k + 1) c5))) := ⟨by rw [HNS.out]; rfl, _, _, hst.1, by
            unfold nxt addL cutW
            rw [if_neg (by simp [HNS.out]), if_neg hl65, ← hmx], hst.2⟩
          clear hst hL hL5 hrow5 htyp5 hvals htyps hB5 hB4 hlen5 hmx hl65 k35 kw5 kw hH hfull
          go_wp2_with (at_builtin; refine wpList_append_run 27 27 _ _ rfl (by rfl) _ _ rfl rfl _ _ hrun5 ?_)
          go_ret
          exact HF.out
  · have g5 : ((4 : Int) < (n1 : Int) + 1) = False := eq_false (by omega)
    have hl1 : ReadsU w3 (.slice a3 (n1 + 1) c3) (cut4 (srl (mx qs) c ++ [s])) := by
      unfold cut4; rw [if_neg (by omega)]; exact hO3r
    have hl2 := hO3t
    have hl3 : (cut4 (srl (mx qs) c ++ [s])).length = n1 + 1 := by unfold cut4; rw [if_neg (by omega)]; exact hcutd
    have hl4 := k03
    clear hO3r hO3t k03 hcutd hn1
    have HLR : Hid (ReadsU w3 (.slice a3 (n1 + 1) c3) (cut4 (srl (mx qs) c ++ [s])) ∧ Typ w3 (.slice a3 (n1 + 1) c3) 30 ∧ (cut4 (srl (mx qs) c ++ [s])).length = n1 + 1 ∧ Kept [] w w3) := ⟨hl1, hl2, hl3, hl4⟩
    clear hl1 hl2 hl3 hl4
    have hB3 := HB.out.kept0 HLR.out.2.2.2
    have hc3 := cell_of_one hB3.box
    clear hB3
    go_wp2_with (at_builtin; refine wpList_append_run 42 42 _ _ rfl (by rfl) _ _ rfl rfl _ _ hrun ?_)
    go_loopw [8, 30] (fun u i wr => ∃ (j : Nat) (a : Option Addr) (k ca : Nat), u = .slice a k ca ∧ i = .int .i64 (j : Int) ∧ j ≤ n ∧ Hid (Lay w3 wr a k ca (othQ (qs.take j) c))) (fun _ i _ => n - (intOf i).toNat)
    case atStart => exact ⟨0, none, 0, 0, rfl, rfl, by omega, Hid.mk ⟨OwnsR.nil 59 2 w3, rfl, Kept.refl [] w3, fun g hg => by simp [Value.ownBlock] at hg⟩⟩
    case round =>
      clear hc3
      obtain ⟨j, a, k, ca, rfl, rfl, hj, hH⟩ := hrel
      have hL := hH.out
      have kw := HLR.out.2.2.2.trans hL.kept (by simp)
      have hB4 := HB.out.kept0 kw
      have hc4 := cell_of_one hB4.box
      have hkl : k ≤ 64 := by rw [← hL.len]; have := othQ_le (qs.take j) c; rw [List.length_take] at this; have := HN.out; omega
      by_cases hlt : j < n
      · have hjI : (j : Int) < (n : Int) := by omega
        obtain ⟨y, hy⟩ : ∃ y, qs[j]? = some y := ⟨_, List.getElem?_eq_getElem (by have := HN.out; omega)⟩
        obtain ⟨b, o, rfl, d0, d1⟩ := hB4.row.at hy
        by_cases hyc : y.x.c = c
        · have g1 : ((y.x.c : Int) != (c : Int)) = false := by simp [hyc]
          have HR : Hid (Lay w3 wr a k ca (othQ (qs.take (j + 1)) c)) := by rw [othQ_take hy, if_pos hyc, List.append_nil]; exact hL
          clear hL kw hB4 hy hyc hH
          go_wp2_with fail
          go_roundw
          case rel => exact ⟨j + 1, a, k, ca, rfl, by go_num, by omega, HR⟩
          case measure => simp [intOf]; omega
        · have g1 : ((y.x.c : Int) != (c : Int)) = true := by simp; omega
          obtain ⟨a5, c5, w5, hrun5, hL5⟩ := hL.app (by omega) y
          have HR : Hid (Lay w3 w5 a5 (k + 1) c5 (othQ (qs.take (j + 1)) c)) := by rw [othQ_take hy, if_neg hyc]; exact hL5
          clear hL kw hB4 hy hyc hH hL5
          go_wp2_with (at_builtin; refine wpList_append_run 27 27 _ _ rfl (by rfl) _ _ rfl rfl _ _ hrun5 ?_)
          go_roundw
          case rel => exact ⟨j + 1, a5, k + 1, c5, rfl, by go_num, by omega, HR⟩
          case measure => simp [intOf]; omega
      · obtain rfl : j = n := by omega
        have hfull : qs.take j = qs := List.take_of_length_le (by rw [HN.out]; exact Nat.le_refl _)
        rw [hfull] at hL
        obtain ⟨a5, c5, w5, hrun5, hL5⟩ := hL.app (by omega) ⟨⟨c, cut4 (srl (mx qs) c ++ [s])⟩, a3, c3⟩
        have hrun5 : (Builtin.append_ #[27, 27] 27 #[.slice a k ca, .slice (some ⟨wr.heap.size, 0, none⟩) 1 1]).run Try.prog (wr.alloc (.cells #[Uv c, .slice a3 (n1 + 1) c3] 59)) = .ok (.slice a5 (k + 1) c5) w5 := by
          have e := HLR.out.2.2.1
          rw [← e]; exact hrun5
        have k35 := hL5.kept
        have kw5 : Kept [] w w5 := HLR.out.2.2.2.trans k35 (by simp)
        have hvals : ValsQ w5 (othQ qs c ++ [⟨⟨c, cut4 (srl (mx qs) c ++ [s])⟩, a3, c3⟩]) := fun q hq => by
          rcases List.mem_append.1 hq with h | h
          · exact (HB.out.vals q (List.mem_filter.1 h).1).kept0 kw5
          · simp at h; subst h
            have := HLR.out.1.kept0 k35
            rw [← HLR.out.2.2.1] at this
            exact this
        have htyps : ∀ q ∈ othQ qs c ++ [(⟨⟨c, cut4 (srl (mx qs) c ++ [s])⟩, a3, c3⟩ : Cq)], Typ w5 q.sl 30 := fun q hq => by
          rcases List.mem_append.1 hq with h | h
          · exact (HB.out.ts q (List.mem_filter.1 h).1).kept kw5 (by simp)
          · simp at h; subst h
            have := HLR.out.2.1.kept k35 (by simp)
            rw [← HLR.out.2.2.1] at this
            exact this
        obtain ⟨hrow5, htyp5, hb51, hb52⟩ := hL5.out
        have hlen5 := hL5.len
        have hmx : mx (othQ qs c ++ [⟨⟨c, cut4 (srl (mx qs) c ++ [s])⟩, a3, c3⟩]) = oth (mx qs) c ++ [⟨c, cut4 (srl (mx qs) c ++ [s])⟩] := by
          rw [← mx_othQ]; simp [mx]
        have hB5 := HB.out.kept0 kw5
        have hc5 := cell_of_one hB5.box
        have hf5 := free_of_one hB5.box
        by_cases h64 : 64 < k + 1
        · have g64 : (64 : Int) < (k : Int) + 1 := by omega
          obtain ⟨hcut, hrcut⟩ := run_cut1 rt27 hrow5 (by rw [CQ_length]; exact hlen5) (by omega)
          have hst := isF_store (qs' := (othQ qs c ++ [(⟨⟨c, cut4 (srl (mx qs) c ++ [s])⟩, a3, c3⟩ : Cq)]).drop 1) HB.out.box kw5 (by unfold RowQ CQ; rw [List.map_drop]; exact hrcut) (fun q hq => hvals q (List.mem_of_mem_drop hq)) (cut_typ htyp5) (fun q hq => htyps q (List.mem_of_mem_drop hq))
          have hl65 : 64 < (oth (mx qs) c ++ [(⟨c, cut4 (srl (mx qs) c ++ [s])⟩ : Cl)]).length := by rw [← hmx, mx, List.length_map, hlen5]; exact h64
          have HF : Hid (RAddAt w p qs c s (.returned (.bool true)) (w5.setCell ⟨p, 0, none⟩ (.slice (cutA a5 c5 1 2) (k + 1 - 1) (c5 - 1)))) := ⟨by rw [HNS.out]; rfl, _, _, hst.1, by
            unfold nxt addL cutW
            rw [if_neg (by simp [HNS.out]), if_pos hl65, ← hmx]
            simp [mx], hst.2⟩
          clear hst hL hL5 hrow5 htyp5 hvals htyps hB5 hB4 hlen5 hmx hl65 hrcut k35 kw5 kw hH hfull
          generalize cutA a5 c5 1 2 = a6 at *
          generalize k + 1 - 1 = k6 at *
          generalize c5 - 1 = c6 at *
          go_wp2_with (at_builtin; refine wpList_append_run 27 27 _ _ rfl (by rfl) _ _ rfl rfl _ _ hrun5 ?_)
          go_ret
          exact HF.out
        · have g64 : ((64 : Int) < (k : Int) + 1) = False := eq_false (by omega)
          have hst := isF_store (qs' := othQ qs c ++ [⟨⟨c, cut4 (srl (mx qs) c ++ [s])⟩, a3, c3⟩]) HB.out.box kw5 hrow5 hvals htyp5 htyps
          have hl65 : ¬ 64 < (oth (mx qs) c ++ [(⟨c, cut4 (srl (mx qs) c ++ [s])⟩ : Cl)]).length := by rw [← hmx, mx, List.length_map, hlen5]; exact h64
          have HF : Hid (RAddAt w p qs c s (.returned (.bool true)) (w5.setCell ⟨p, 0, none⟩ (.slice a5 (k + 1) c5))) := ⟨by rw [HNS.out]; rfl, _, _, hst.1, by
            unfold nxt addL cutW
            rw [if_neg (by simp [HNS.out]), if_neg hl65, ← hmx], hst.2⟩
          clear hst hL hL5 hrow5 htyp5 hvals htyps hB5 hB4 hlen5 hmx hl65 k35 kw5 kw hH hfull
          go_wp2_with (at_builtin; refine wpList_append_run 27 27 _ _ rfl (by rfl) _ _ rfl rfl _ _ hrun5 ?_)
          go_ret
          exact HF.out
end
end Go.Proofs.Ytngjljgcldfekaa
