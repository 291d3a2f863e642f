/-
  Cut of the program's disk.
-/
import Derived.Test.YtilelklcfgemoaaDBlock
namespace Go.Proofs.Ytilelklcfgemoaa
open Go.RowKit
set_option linter.unusedVariables false
theorem make_writes (c : Nat) (h : c ≤ 100000) : ∃ M : Array Value, M.size = c * 257 ∧ ∀ W, (Instr.makeSlice 57 (.int .i64 0) (.int .i64 (c : Int))).run Try.prog W = .ok (.slice (some ⟨W.heap.size, 0, none⟩) 0 c) (W.alloc (.cells M 77)) := by
  obtain ⟨i0, hi, hz0, hz1, hz2⟩ := info_parts inf56
  refine ⟨madeCells (Value.agg (wcells 0 (zs 256)).toArray).cells (Int.toNat (c : Int) * i0.size), ?_, fun W => ?_⟩
  · rw [hz1]
    simp [madeCells]
  · have h := run_make (P := Try.prog) W 57 77 i0 _ Try.underlying57 hi hz0 .i64 .i64 0 (c : Int) (by omega) (by omega) (by rw [hz2]; omega) (by omega)
    rw [h]
    rfl
/-- A new disk's writes get their row. -/
theorem cut_start {F : List Nat} {p : Nat} {s : St} {w : World} (hD : IsD w F p s) (h0 : s.ws = []) (M : Array Value) (c : Nat) (hM : M.size = c * 257) (hc : c ≤ 100000) :
    ((w.alloc (.cells M 77)).frozen? ⟨p, 0, none⟩ = false ∧ ∃ vd, (w.alloc (.cells M 77)).cell? ⟨p, 0, none⟩ = some vd) ∧ ∃ F', IsD ((w.alloc (.cells M 77)).setCell ⟨p, 0, none⟩ (.slice (some ⟨w.heap.size, 0, none⟩) 0 c)) F' p s ∧ Kept F w ((w.alloc (.cells M 77)).setCell ⟨p, 0, none⟩ (.slice (some ⟨w.heap.size, 0, none⟩) 0 c)) ∧ NewF w F F' := by
  have hlt := hD.lt
  obtain ⟨vd, g, hF, hbox, hown, hlast, hpg, hap, hag, hok⟩ := hD
  have hp : p < w.heap.size := hlt p (by rw [hF]; simp)
  have hg : g < w.heap.size := hlt g (by rw [hF]; simp)
  have hbox1 := ((Kept.refl [] w).alloc (.cells M 77)).keeps hbox (by simp)
  have hlast1 := ((Kept.refl [] w).alloc (.cells M 77)).keeps hlast (by simp)
  have hmade := World.ownsRow_made (base := 0) (e := 77) (size := 257) w M c (Nat.zero_le _) (by unfold maxLen; omega) hM
  refine ⟨⟨free4 hbox1 0, vd, (cells4 hbox1).1⟩, _, ⟨.slice (some ⟨w.heap.size, 0, none⟩) 0 c, g, rfl, ?_, ?_, ?_, hpg, ?_, ?_, hok⟩, ?_, ?_⟩
  · rw [heap_setCell_same _ p 0 _ 59 _ hbox1]; rfl
  · rw [h0]
    exact ownsRow_setCell_other hmade (by simp [Value.ownBlock]; omega) _
  · rw [heap_setCell_other _ _ _ _ (fun e => hpg e.symm)]; exact hlast1
  · simp [Value.ownBlock]; omega
  · simp [Value.ownBlock]; omega
  · exact ((Kept.refl F w).alloc _).setCell (.inl (by rw [hF]; simp)) _
  · intro x hx
    simp only [Value.ownBlock, Option.toList_some, List.mem_cons, List.not_mem_nil, or_false] at hx
    rcases hx with rfl | rfl | rfl
    · exact .inl (by rw [hF]; simp)
    · exact .inl (by rw [hF]; simp)
    · exact .inr (Nat.le_refl _)
/-- New, of as many blocks as there are. -/
theorem new_nb (n : Nat) (h : n ≤ 65536) (w : World) : Calls Try.prog 10 #[.int .i64 (n : Int)] w fun e w' => ∃ p, e = .returned (.pointer (some ⟨p, 0, none⟩)) ∧ ∃ F, IsD w' F p ⟨n, [], -1, false⟩ ∧ Kept [] w w' ∧ ∀ x ∈ F, w.heap.size ≤ x := by
  have h1 := new_any (n : Int) w
  have e : newS (n : Int) = ⟨n, [], -1, false⟩ := by
    unfold newS newN
    congr 1
    omega
  rw [e] at h1
  exact h1
theorem take_snoc (ws : List Wr) (j : Nat) (x : Wr) (hx : ws[j]? = some x) : ws.take (j + 1) = ws.take j ++ [(x.1, x.2)] := by
  obtain ⟨h, rfl⟩ := List.getElem?_eq_some_iff.1 hx
  rw [List.take_succ_eq_append_getElem h]
set_option maxRecDepth 100000 in
set_option maxHeartbeats 1000000 in
theorem cut_some {F : List Nat} {p : Nat} {s : St} {w : World} (hD : IsD w F p s) (c : Nat) (hc : c ≤ s.ws.length) (hb : s.ws.length ≤ 100000) :
    Calls Try.prog 23 #[.pointer (some ⟨p, 0, none⟩), .int .i64 (c : Int)] w fun e w' => ∃ q, e = .returned (.pointer (some ⟨q, 0, none⟩)) ∧ ∃ G, IsD w' G q ⟨s.nb, s.ws.take c, -1, false⟩ ∧ Kept [] w w' ∧ ∀ x ∈ G, w.heap.size ≤ x := by
  have hok := hD.ok
  have hw1 := writes_any hD
  have hb1 := blocks_any hD
  have hn1 := new_nb s.nb hok.nb w
  obtain ⟨M, hM, hmk⟩ := make_writes c (by omega)
  have HD : Hid (∀ W, Kept [] w W → IsD W F p s) := fun W k => hD.kept k (by simp)
  have hlt := hD.lt
  clear hD
  have t1 : ¬ (c : Int) < 0 := by omega
  have t2 : ¬ (s.ws.length : Int) < (c : Int) := by omega
  go_enter Try.func23, Try.ntmps23
  go_wp2_with (first | (go_at_call 15; refine hw1.mono ?_; rintro e w' ⟨rfl, rfl⟩) | (go_at_call 26; refine hb1.mono ?_; rintro e w' ⟨rfl, rfl⟩))
  refine hn1.mono ?_
  rintro e wa ⟨q, rfl, F1, hDa, ka, n1⟩
  obtain ⟨⟨hfz, vd, hcv⟩, F2, hDb, kb, n2⟩ := cut_start hDa rfl M c hM (by omega)
  have hKb : Kept [] w ((wa.alloc (.cells M 77)).setCell ⟨q, 0, none⟩ (.slice (some ⟨wa.heap.size, 0, none⟩) 0 c)) := ka.trans kb (fun x hx => .inr (n1 x hx))
  have hNb : ∀ x ∈ F2, w.heap.size ≤ x := fun x hx => by
    rcases n2 x hx with h | h
    · exact n1 x h
    · have := ka.size; omega
  have hTk : (s.ws.take 0) = [] := rfl
  clear hn1 hw1 hb1 hDa ka n1 kb n2 hM
  go_wp2_with fail
  generalize (wa.alloc (.cells M 77)).setCell ⟨q, 0, none⟩ (.slice (some ⟨wa.heap.size, 0, none⟩) 0 c) = wb at hDb hKb
  clear hfz hcv hmk
  go_loopw [6, 23] (fun _ i wr => ∃ j : Nat, i = .int .i64 (j : Int) ∧ ∃ F', j ≤ c ∧ IsD wr F' q ⟨s.nb, s.ws.take j, -1, false⟩ ∧ Kept [] w wr ∧ (∀ x ∈ F', w.heap.size ≤ x)) (fun _ i _ => c - (intOf i).toNat)
  case atStart => exact ⟨0, rfl, F2, by omega, by rw [hTk]; exact hDb, hKb, hNb⟩
  case round =>
    clear hDb hKb hNb hTk
    obtain ⟨j, rfl, F', hj, hDc, hK, hN⟩ := hrel
    by_cases hjc : j < c
    · have hlt2 : (j : Int) < (c : Int) := by omega
      have hjl : j < s.ws.length := by omega
      obtain ⟨x, hx⟩ : ∃ x, s.ws[j]? = some x := ⟨s.ws[j], by simp⟩
      have hD := HD.out wr hK
      obtain ⟨gd, cap, c0, c1, hrd, hcap, hm, hgd⟩ := hD.row j x hx
      have hm' : cap ≤ 9223372036854775807 := hm
      have hxo := hok.ws x (List.mem_of_getElem? hx)
      have hpF : p ∈ F := by obtain ⟨vd, g, hF, _⟩ := hD; rw [hF]; simp
      have hns : ∀ y ∈ F, y ∉ F' := fun y hy hm => by have := hlt y hy; have := hN y hm; omega
      have S0 : wr.drew.cell? ⟨p, 0, none⟩ = some (.slice (some ⟨gd, 0, none⟩) s.ws.length cap) ∧ wr.drew.cell? ⟨gd, j * 257, none⟩ = some (.int .i64 (x.1 : Int)) := ⟨c0, c1⟩
      have hly : Calls Try.prog 38 #[.pointer (some ⟨q, 0, none⟩), .int .i64 (x.1 : Int), .slice (some ⟨gd, j * 257 + 1, none⟩) 256 256] wr.drew fun e wc => e = .returned (.tuple #[]) ∧ (wc.cell? ⟨p, 0, none⟩ = some (.slice (some ⟨gd, 0, none⟩) s.ws.length cap) ∧ wc.cell? ⟨gd, j * 257, none⟩ = some (.int .i64 (x.1 : Int))) ∧ ∃ F'', IsD wc F'' q ⟨s.nb, s.ws.take (j + 1), -1, false⟩ ∧ Kept [] w wc ∧ ∀ y ∈ F'', w.heap.size ≤ y := by
        refine (lay_any F' q x.1 _ _ x.2 _ (hDc.kept ((Kept.refl [] wr).drew) (by simp)) hxo.1 hxo.2 (hrd.kept ((Kept.refl [] wr).drew) (by simp)) (by show (s.ws.take j).length ≤ 100000; rw [List.length_take]; omega)).mono fun e wc ⟨he, F'', d1, d2, d3⟩ => ⟨he, ⟨?_, ?_⟩, F'', ?_, hK.drew.trans d2 (fun y hy => .inr (hN y hy)), fun y hy => ?_⟩
        · rw [d2.cell (World.block_lt_of_cell? _ _ S0.1) (hns p hpF)]; exact S0.1
        · rw [d2.cell (World.block_lt_of_cell? _ _ S0.2) (hns gd hgd)]; exact S0.2
        · rw [take_snoc s.ws j x hx]; exact d1
        · rcases d3 y hy with h | h
          · exact hN y h
          · have h' : wr.heap.size ≤ y := h
            have := hK.size; omega
      generalize hTT : s.ws.take (j + 1) = T at hly
      have HT : Hid (s.ws.take (j + 1) = T) := hTT
      clear hTT
      generalize s.ws.length = L at S0 hly hcap hjl
      generalize x.1 = y at S0 hly
      have hjL : (j : Int) < (L : Int) := by omega
      clear hD c0 c1 hrd hm hgd hxo hpF hns hx hDc hK hN
      go_wp2_with fail
      go_region_held3 (fun w' => w'.cell? ⟨p, 0, none⟩ = some (.slice (some ⟨gd, 0, none⟩) L cap) ∧ w'.cell? ⟨gd, j * 257, none⟩ = some (.int .i64 (y : Int))) (first | exact S0 | exact S1) (first | (go_at_call 38; refine hly.mono ?_; rintro e wc ⟨rfl, S1, hE⟩))
      all_goals
        obtain ⟨F'', d1, d2, d3⟩ := hE
        clear S0 S1 hly
        go_wp2_with fail
        go_roundw
        case rel => exact ⟨j + 1, by go_num, F'', by omega, by rw [HT.out]; exact d1, d2, d3⟩
        case measure => simp [intOf]; omega
    · have hlt2 : ¬ (j : Int) < (c : Int) := by omega
      have hjc : j = c := by omega
      subst hjc
      go_wp2
      go_ret
      exact ⟨q, rfl, F', hDc, hK, hN⟩
set_option maxRecDepth 100000 in
set_option maxHeartbeats 1000000 in
theorem cut_over {F : List Nat} {p : Nat} {s : St} {w : World} (hD : IsD w F p s) (c : Nat) (hc : c ≤ s.ws.length) (hcc : s.ws.length = c) (n : Int) (hn : (c : Int) < n) (hb : s.ws.length ≤ 100000) :
    Calls Try.prog 23 #[.pointer (some ⟨p, 0, none⟩), .int .i64 n] w fun e w' => ∃ q, e = .returned (.pointer (some ⟨q, 0, none⟩)) ∧ ∃ G, IsD w' G q ⟨s.nb, s.ws.take c, -1, false⟩ ∧ Kept [] w w' ∧ ∀ x ∈ G, w.heap.size ≤ x := by
  have hok := hD.ok
  have hw1 := writes_any hD
  have hb1 := blocks_any hD
  have hn1 := new_nb s.nb hok.nb w
  obtain ⟨M, hM, hmk⟩ := make_writes c (by omega)
  have HD : Hid (∀ W, Kept [] w W → IsD W F p s) := fun W k => hD.kept k (by simp)
  have hlt := hD.lt
  clear hD
  rw [hcc] at hw1
  have HCC : Hid (s.ws.length = c) := hcc
  clear hcc
  have t1 : ¬ n < 0 := by omega
  have t2 : (c : Int) < n := by omega
  go_enter Try.func23, Try.ntmps23
  go_wp2_with (first | (go_at_call 15; refine hw1.mono ?_; rintro e w' ⟨rfl, rfl⟩) | (go_at_call 26; refine hb1.mono ?_; rintro e w' ⟨rfl, rfl⟩))
  refine hn1.mono ?_
  rintro e wa ⟨q, rfl, F1, hDa, ka, n1⟩
  obtain ⟨⟨hfz, vd, hcv⟩, F2, hDb, kb, n2⟩ := cut_start hDa rfl M c hM (by omega)
  have hKb : Kept [] w ((wa.alloc (.cells M 77)).setCell ⟨q, 0, none⟩ (.slice (some ⟨wa.heap.size, 0, none⟩) 0 c)) := ka.trans kb (fun x hx => .inr (n1 x hx))
  have hNb : ∀ x ∈ F2, w.heap.size ≤ x := fun x hx => by
    rcases n2 x hx with h | h
    · exact n1 x h
    · have := ka.size; omega
  have hTk : (s.ws.take 0) = [] := rfl
  clear hn1 hw1 hb1 hDa ka n1 kb n2 hM
  go_wp2_with fail
  generalize (wa.alloc (.cells M 77)).setCell ⟨q, 0, none⟩ (.slice (some ⟨wa.heap.size, 0, none⟩) 0 c) = wb at hDb hKb
  clear hfz hcv hmk
  go_loopw [6, 23] (fun _ i wr => ∃ j : Nat, i = .int .i64 (j : Int) ∧ ∃ F', j ≤ c ∧ IsD wr F' q ⟨s.nb, s.ws.take j, -1, false⟩ ∧ Kept [] w wr ∧ (∀ x ∈ F', w.heap.size ≤ x)) (fun _ i _ => c - (intOf i).toNat)
  case atStart => exact ⟨0, rfl, F2, by omega, by rw [hTk]; exact hDb, hKb, hNb⟩
  case round =>
    clear hDb hKb hNb hTk
    obtain ⟨j, rfl, F', hj, hDc, hK, hN⟩ := hrel
    by_cases hjc : j < c
    · have hlt2 : (j : Int) < (c : Int) := by omega
      have hjl : j < s.ws.length := by rw [HCC.out]; exact hjc
      obtain ⟨x, hx⟩ : ∃ x, s.ws[j]? = some x := ⟨s.ws[j], by simp⟩
      have hD := HD.out wr hK
      obtain ⟨gd, cap, c0, c1, hrd, hcap, hm, hgd⟩ := hD.row j x hx
      have hm' : cap ≤ 9223372036854775807 := hm
      have hxo := hok.ws x (List.mem_of_getElem? hx)
      have hpF : p ∈ F := by obtain ⟨vd, g, hF, _⟩ := hD; rw [hF]; simp
      have hns : ∀ y ∈ F, y ∉ F' := fun y hy hm => by have := hlt y hy; have := hN y hm; omega
      have S0 : wr.drew.cell? ⟨p, 0, none⟩ = some (.slice (some ⟨gd, 0, none⟩) s.ws.length cap) ∧ wr.drew.cell? ⟨gd, j * 257, none⟩ = some (.int .i64 (x.1 : Int)) := ⟨c0, c1⟩
      have hly : Calls Try.prog 38 #[.pointer (some ⟨q, 0, none⟩), .int .i64 (x.1 : Int), .slice (some ⟨gd, j * 257 + 1, none⟩) 256 256] wr.drew fun e wc => e = .returned (.tuple #[]) ∧ (wc.cell? ⟨p, 0, none⟩ = some (.slice (some ⟨gd, 0, none⟩) s.ws.length cap) ∧ wc.cell? ⟨gd, j * 257, none⟩ = some (.int .i64 (x.1 : Int))) ∧ ∃ F'', IsD wc F'' q ⟨s.nb, s.ws.take (j + 1), -1, false⟩ ∧ Kept [] w wc ∧ ∀ y ∈ F'', w.heap.size ≤ y := by
        refine (lay_any F' q x.1 _ _ x.2 _ (hDc.kept ((Kept.refl [] wr).drew) (by simp)) hxo.1 hxo.2 (hrd.kept ((Kept.refl [] wr).drew) (by simp)) (by show (s.ws.take j).length ≤ 100000; rw [List.length_take]; omega)).mono fun e wc ⟨he, F'', d1, d2, d3⟩ => ⟨he, ⟨?_, ?_⟩, F'', ?_, hK.drew.trans d2 (fun y hy => .inr (hN y hy)), fun y hy => ?_⟩
        · rw [d2.cell (World.block_lt_of_cell? _ _ S0.1) (hns p hpF)]; exact S0.1
        · rw [d2.cell (World.block_lt_of_cell? _ _ S0.2) (hns gd hgd)]; exact S0.2
        · rw [take_snoc s.ws j x hx]; exact d1
        · rcases d3 y hy with h | h
          · exact hN y h
          · have h' : wr.heap.size ≤ y := h
            have := hK.size; omega
      generalize hTT : s.ws.take (j + 1) = T at hly
      have HT : Hid (s.ws.take (j + 1) = T) := hTT
      clear hTT
      generalize s.ws.length = L at S0 hly hcap hjl
      generalize x.1 = y at S0 hly
      have hjL : (j : Int) < (L : Int) := by omega
      clear hD c0 c1 hrd hm hgd hxo hpF hns hx hDc hK hN
      go_wp2_with fail
      go_region_held3 (fun w' => w'.cell? ⟨p, 0, none⟩ = some (.slice (some ⟨gd, 0, none⟩) L cap) ∧ w'.cell? ⟨gd, j * 257, none⟩ = some (.int .i64 (y : Int))) (first | exact S0 | exact S1) (first | (go_at_call 38; refine hly.mono ?_; rintro e wc ⟨rfl, S1, hE⟩))
      all_goals
        obtain ⟨F'', d1, d2, d3⟩ := hE
        clear S0 S1 hly
        go_wp2_with fail
        go_roundw
        case rel => exact ⟨j + 1, by go_num, F'', by omega, by rw [HT.out]; exact d1, d2, d3⟩
        case measure => simp [intOf]; omega
    · have hlt2 : ¬ (j : Int) < (c : Int) := by omega
      have hjc : j = c := by omega
      subst hjc
      go_wp2
      go_ret
      exact ⟨q, rfl, F', hDc, hK, hN⟩
set_option maxRecDepth 100000 in
set_option maxHeartbeats 1000000 in
theorem cut_neg {F : List Nat} {p : Nat} {s : St} {w : World} (hD : IsD w F p s) (n : Int) (hn : n < 0) (hb : s.ws.length ≤ 100000) :
    Calls Try.prog 23 #[.pointer (some ⟨p, 0, none⟩), .int .i64 n] w fun e w' => ∃ q, e = .returned (.pointer (some ⟨q, 0, none⟩)) ∧ ∃ G, IsD w' G q ⟨s.nb, [], -1, false⟩ ∧ Kept [] w w' ∧ ∀ x ∈ G, w.heap.size ≤ x := by
  have hok := hD.ok
  have hw1 := writes_any hD
  have hb1 := blocks_any hD
  have hn1 := new_nb s.nb hok.nb w
  obtain ⟨M, hM, hmk0⟩ := make_writes 0 (by omega)
  have hmk : ∀ W : World, (Instr.makeSlice 57 (.int .i64 0) (.int .i64 0)).run Try.prog W = .ok (.slice (some ⟨W.heap.size, 0, none⟩) 0 0) (W.alloc (.cells M 77)) := hmk0
  clear hmk0
  have HD : Hid (∀ W, Kept [] w W → IsD W F p s) := fun W k => hD.kept k (by simp)
  have hlt := hD.lt
  clear hD
  have t2 : ¬ (s.ws.length : Int) < 0 := by omega
  go_enter Try.func23, Try.ntmps23
  go_wp2_with (first | (go_at_call 15; refine hw1.mono ?_; rintro e w' ⟨rfl, rfl⟩) | (go_at_call 26; refine hb1.mono ?_; rintro e w' ⟨rfl, rfl⟩))
  refine hn1.mono ?_
  rintro e wa ⟨q, rfl, F1, hDa, ka, n1⟩
  obtain ⟨⟨hfz, vd, hcv⟩, F2, hDb, kb, n2⟩ := cut_start hDa rfl M 0 hM (by omega)
  have hKb : Kept [] w ((wa.alloc (.cells M 77)).setCell ⟨q, 0, none⟩ (.slice (some ⟨wa.heap.size, 0, none⟩) 0 0)) := ka.trans kb (fun x hx => .inr (n1 x hx))
  have hNb : ∀ x ∈ F2, w.heap.size ≤ x := fun x hx => by
    rcases n2 x hx with h | h
    · exact n1 x h
    · have := ka.size; omega
  have hTk : (s.ws.take 0) = [] := rfl
  clear hn1 hw1 hb1 hDa ka n1 kb n2 hM
  go_wp2_with fail
  generalize (wa.alloc (.cells M 77)).setCell ⟨q, 0, none⟩ (.slice (some ⟨wa.heap.size, 0, none⟩) 0 0) = wb at hDb hKb
  clear hfz hcv hmk
  go_loopw [6, 23] (fun _ i wr => i = .int .i64 0 ∧ wr = wb) (fun _ i _ => 0)
  case atStart => exact ⟨rfl, rfl⟩
  case round =>
    obtain ⟨rfl, rfl⟩ := hrel
    go_wp2
    go_ret
    exact ⟨q, rfl, F2, hDb, hKb, hNb⟩
/-- Cut, as the document has it. -/
theorem cut_any {F : List Nat} {p : Nat} {s : St} {w : World} (hD : IsD w F p s) (n : Int) (hb : s.ws.length ≤ 100000) :
    Calls Try.prog 23 #[.pointer (some ⟨p, 0, none⟩), .int .i64 n] w fun e w' => ∃ q, e = .returned (.pointer (some ⟨q, 0, none⟩)) ∧ ∃ G, IsD w' G q (cutS s n) ∧ Kept [] w w' ∧ ∀ x ∈ G, w.heap.size ≤ x := by
  unfold cutS cutN
  by_cases h0 : n < 0
  · rw [show (min (max n 0) (s.ws.length : Int)).toNat = 0 by omega]
    exact cut_neg hD n h0 hb
  · obtain ⟨c, rfl⟩ := Int.eq_ofNat_of_zero_le (show 0 ≤ n by omega)
    by_cases hc : c ≤ s.ws.length
    · rw [show (min (max (c : Int) 0) (s.ws.length : Int)).toNat = c by omega]
      exact cut_some hD c hc hb
    · rw [show (min (max (c : Int) 0) (s.ws.length : Int)).toNat = s.ws.length by omega]
      exact cut_over hD s.ws.length (Nat.le_refl _) rfl (c : Int) (by omega) hb
end Go.Proofs.Ytilelklcfgemoaa
