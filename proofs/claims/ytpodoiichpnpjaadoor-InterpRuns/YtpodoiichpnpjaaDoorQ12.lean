import Derived.Deep.RegionHeld3
import Derived.Test.YtpodoiichpnpjaaDoorQ11
/-
  The program's machine: reckon, operation by operation.
-/
namespace Go.Proofs.YtpodoiichpnpjaaDoor
open Go.RowKit
set_option maxRecDepth 100000
set_option linter.unusedVariables false
theorem w64_wrap (z : Int) : wrap64 z = w64 z := by unfold w64; rw [IntKind.wrap_i64]; unfold wrap64; rfl
section
variable {B : Bs} {w w' : World} {p : Nat} {m : Mc} {k : Nat} {stk : List Int} {ev sn tm : Value}
set_option maxHeartbeats 2000000 in
theorem reckon31_1 (h : MSt B w p m k) (arg x y : Int) (hl : m.st.length + 1 ≤ 16) : Calls Tryd.prog 31 #[.pointer (some ⟨p, 0, none⟩), .agg #[.int .i64 1, .int .i64 arg], .int .i64 x, .int .i64 y] w fun e w' => e = .returned (.tuple #[]) ∧ MSt B w' p { m with st := m.st ++ [arg] } k := by
  obtain ⟨W0, e0, k0, -, hb⟩ := box1 w (.cells #[.int .i64 1, .int .i64 arg] 60)
  obtain ⟨y0, y1⟩ := cells2 hb
  have HM := Hid.mk (h.keep k0)
  clear h
  go_enter Tryd.func31, Tryd.ntmps31
  go_wp2_with (go_at_call 41; refine (push41 HM.out _ (by omega)).mono ?_; rintro e w1 ⟨rfl, h1⟩)
  go_end0
  exact ⟨rfl, h1⟩
set_option maxHeartbeats 2000000 in
theorem reckon31_5 (h : MSt B w p m k) (arg x y : Int) (hl : m.st.length + 1 ≤ 16) : Calls Tryd.prog 31 #[.pointer (some ⟨p, 0, none⟩), .agg #[.int .i64 5, .int .i64 arg], .int .i64 x, .int .i64 y] w fun e w' => e = .returned (.tuple #[]) ∧ MSt B w' p { m with st := m.st ++ [B.l.kind] } k := by
  obtain ⟨W0, e0, k0, -, hb⟩ := box1 w (.cells #[.int .i64 5, .int .i64 arg] 60)
  obtain ⟨y0, y1⟩ := cells2 hb
  have HM := Hid.mk (h.keep k0)
  obtain ⟨stk, ev, sn, tm, h'⟩ := HM.out
  have c0 : W0.cell? ⟨p, 4, none⟩ = some (.int .i64 B.l.kind) := h'.fix rfl
  clear h'
  clear h
  go_enter Tryd.func31, Tryd.ntmps31
  go_wp2_with (go_at_call 41; refine (push41 HM.out _ (by omega)).mono ?_; rintro e w1 ⟨rfl, h1⟩)
  go_end0
  exact ⟨rfl, h1⟩
set_option maxHeartbeats 2000000 in
theorem reckon31_22 (h : MSt B w p m k) (arg x y : Int) (hl : m.st.length + 1 ≤ 16) : Calls Tryd.prog 31 #[.pointer (some ⟨p, 0, none⟩), .agg #[.int .i64 22, .int .i64 arg], .int .i64 x, .int .i64 y] w fun e w' => e = .returned (.tuple #[]) ∧ MSt B w' p { m with st := m.st ++ [B.now] } k := by
  obtain ⟨W0, e0, k0, -, hb⟩ := box1 w (.cells #[.int .i64 22, .int .i64 arg] 60)
  obtain ⟨y0, y1⟩ := cells2 hb
  have HM := Hid.mk (h.keep k0)
  obtain ⟨stk, ev, sn, tm, h'⟩ := HM.out
  have c0 : W0.cell? ⟨p, 6, none⟩ = some (.int .i64 B.now) := h'.fix rfl
  clear h'
  clear h
  go_enter Tryd.func31, Tryd.ntmps31
  go_wp2_with (go_at_call 41; refine (push41 HM.out _ (by omega)).mono ?_; rintro e w1 ⟨rfl, h1⟩)
  go_end0
  exact ⟨rfl, h1⟩
set_option maxHeartbeats 2000000 in
theorem reckon31_23 (h : MSt B w p m k) (arg x y : Int) (hl : m.st.length + 1 ≤ 16) : Calls Tryd.prog 31 #[.pointer (some ⟨p, 0, none⟩), .agg #[.int .i64 23, .int .i64 arg], .int .i64 x, .int .i64 y] w fun e w' => e = .returned (.tuple #[]) ∧ MSt B w' p { m with st := m.st ++ [w64 (B.l.ser : Int)] } k := by
  obtain ⟨W0, e0, k0, -, hb⟩ := box1 w (.cells #[.int .i64 23, .int .i64 arg] 60)
  obtain ⟨y0, y1⟩ := cells2 hb
  have HM := Hid.mk (h.keep k0)
  obtain ⟨stk, ev, sn, tm, h'⟩ := HM.out
  have c0 : W0.cell? ⟨p, 3, none⟩ = some (.int .u64 (B.l.ser : Int)) := h'.fix rfl
  clear h'
  clear h
  go_enter Tryd.func31, Tryd.ntmps31
  go_wp2_with (go_at_call 41; refine (push41 HM.out _ (by omega)).mono ?_; rintro e w1 ⟨rfl, h1⟩)
  go_end0
  rw [w64_wrap] at h1
  exact ⟨rfl, h1⟩
set_option maxHeartbeats 2000000 in
theorem reckon31_6 (h : MSt B w p m k) (arg x y : Int) (hl : m.st.length + 1 ≤ 16) : Calls Tryd.prog 31 #[.pointer (some ⟨p, 0, none⟩), .agg #[.int .i64 6, .int .i64 arg], .int .i64 x, .int .i64 y] w fun e w' => e = .returned (.tuple #[]) ∧ MSt B w' p { m with st := m.st ++ [w64 (x + y)] } k := by
  obtain ⟨W0, e0, k0, -, hb⟩ := box1 w (.cells #[.int .i64 6, .int .i64 arg] 60)
  obtain ⟨y0, y1⟩ := cells2 hb
  have HM := Hid.mk (h.keep k0)
  clear h
  go_enter Tryd.func31, Tryd.ntmps31
  go_wp2_with (go_at_call 41; refine (push41 HM.out _ (by omega)).mono ?_; rintro e w1 ⟨rfl, h1⟩)
  go_end0
  rw [w64_wrap] at h1
  exact ⟨rfl, h1⟩
set_option maxHeartbeats 2000000 in
theorem reckon31_7 (h : MSt B w p m k) (arg x y : Int) (hl : m.st.length + 1 ≤ 16) : Calls Tryd.prog 31 #[.pointer (some ⟨p, 0, none⟩), .agg #[.int .i64 7, .int .i64 arg], .int .i64 x, .int .i64 y] w fun e w' => e = .returned (.tuple #[]) ∧ MSt B w' p { m with st := m.st ++ [w64 (x - y)] } k := by
  obtain ⟨W0, e0, k0, -, hb⟩ := box1 w (.cells #[.int .i64 7, .int .i64 arg] 60)
  obtain ⟨y0, y1⟩ := cells2 hb
  have HM := Hid.mk (h.keep k0)
  clear h
  go_enter Tryd.func31, Tryd.ntmps31
  go_wp2_with (go_at_call 41; refine (push41 HM.out _ (by omega)).mono ?_; rintro e w1 ⟨rfl, h1⟩)
  go_end0
  rw [w64_wrap] at h1
  exact ⟨rfl, h1⟩
set_option maxHeartbeats 2000000 in
theorem reckon31_8 (h : MSt B w p m k) (arg x y : Int) (hl : m.st.length + 1 ≤ 16) : Calls Tryd.prog 31 #[.pointer (some ⟨p, 0, none⟩), .agg #[.int .i64 8, .int .i64 arg], .int .i64 x, .int .i64 y] w fun e w' => e = .returned (.tuple #[]) ∧ MSt B w' p { m with st := m.st ++ [w64 (x * y)] } k := by
  obtain ⟨W0, e0, k0, -, hb⟩ := box1 w (.cells #[.int .i64 8, .int .i64 arg] 60)
  obtain ⟨y0, y1⟩ := cells2 hb
  have HM := Hid.mk (h.keep k0)
  clear h
  go_enter Tryd.func31, Tryd.ntmps31
  go_wp2_with (go_at_call 41; refine (push41 HM.out _ (by omega)).mono ?_; rintro e w1 ⟨rfl, h1⟩)
  go_end0
  rw [w64_wrap] at h1
  exact ⟨rfl, h1⟩
set_option maxHeartbeats 2000000 in
theorem reckon31_9 (h : MSt B w p m k) (arg x y : Int) (hl : m.st.length + 1 ≤ 16) : Calls Tryd.prog 31 #[.pointer (some ⟨p, 0, none⟩), .agg #[.int .i64 9, .int .i64 arg], .int .i64 x, .int .i64 y] w fun e w' => e = .returned (.tuple #[]) ∧ MSt B w' p { m with st := m.st ++ [if x < y then 1 else 0] } k := by
  obtain ⟨W0, e0, k0, -, hb⟩ := box1 w (.cells #[.int .i64 9, .int .i64 arg] 60)
  obtain ⟨y0, y1⟩ := cells2 hb
  have HM := Hid.mk (h.keep k0)
  clear h
  go_enter Tryd.func31, Tryd.ntmps31
  go_wp2_with (first | (go_at_call 43; refine (truth43 _).mono ?_; rintro e w9 ⟨rfl, rfl⟩) | (go_at_call 41; refine (push41 HM.out _ (by omega)).mono ?_; rintro e w1 ⟨rfl, h1⟩))
  all_goals go_end0
  all_goals exact ⟨rfl, by first | (simpa [show x < y by omega] using h1) | (simpa [show ¬ x < y by omega] using h1)⟩
set_option maxHeartbeats 2000000 in
theorem reckon31_10 (h : MSt B w p m k) (arg x y : Int) (hl : m.st.length + 1 ≤ 16) : Calls Tryd.prog 31 #[.pointer (some ⟨p, 0, none⟩), .agg #[.int .i64 10, .int .i64 arg], .int .i64 x, .int .i64 y] w fun e w' => e = .returned (.tuple #[]) ∧ MSt B w' p { m with st := m.st ++ [if x = y then 1 else 0] } k := by
  obtain ⟨W0, e0, k0, -, hb⟩ := box1 w (.cells #[.int .i64 10, .int .i64 arg] 60)
  obtain ⟨y0, y1⟩ := cells2 hb
  have HM := Hid.mk (h.keep k0)
  clear h
  go_enter Tryd.func31, Tryd.ntmps31
  go_wp2_with (first | (go_at_call 43; refine (truth43 _).mono ?_; rintro e w9 ⟨rfl, rfl⟩) | (go_at_call 41; refine (push41 HM.out _ (by omega)).mono ?_; rintro e w1 ⟨rfl, h1⟩))
  all_goals go_end0
  all_goals exact ⟨rfl, by first | (simpa [show x = y by omega] using h1) | (simpa [show ¬ x = y by omega] using h1)⟩
set_option maxHeartbeats 2000000 in
theorem reckon31_11 (h : MSt B w p m k) (arg x y : Int) (hl : m.st.length + 1 ≤ 16) : Calls Tryd.prog 31 #[.pointer (some ⟨p, 0, none⟩), .agg #[.int .i64 11, .int .i64 arg], .int .i64 x, .int .i64 y] w fun e w' => e = .returned (.tuple #[]) ∧ MSt B w' p { m with st := m.st ++ [if x = 0 then 1 else 0] } k := by
  obtain ⟨W0, e0, k0, -, hb⟩ := box1 w (.cells #[.int .i64 11, .int .i64 arg] 60)
  obtain ⟨y0, y1⟩ := cells2 hb
  have HM := Hid.mk (h.keep k0)
  clear h
  go_enter Tryd.func31, Tryd.ntmps31
  go_wp2_with (first | (go_at_call 43; refine (truth43 _).mono ?_; rintro e w9 ⟨rfl, rfl⟩) | (go_at_call 41; refine (push41 HM.out _ (by omega)).mono ?_; rintro e w1 ⟨rfl, h1⟩))
  all_goals go_end0
  all_goals exact ⟨rfl, by first | (simpa [show x = 0 by omega] using h1) | (simpa [show ¬ x = 0 by omega] using h1)⟩
set_option maxHeartbeats 2000000 in
theorem reckon31_4 (h : MSt B w p m k) (arg x y : Int) (hB : B.Ok) (h0 : 0 ≤ arg ∧ arg ≤ 7) (hl : m.st.length + 1 ≤ 16) : Calls Tryd.prog 31 #[.pointer (some ⟨p, 0, none⟩), .agg #[.int .i64 4, .int .i64 arg], .int .i64 x, .int .i64 y] w fun e w' => e = .returned (.tuple #[]) ∧ MSt B w' p { m with st := m.st ++ [B.l.args.getD arg.toNat 0] } k := by
  obtain ⟨W0, e0, k0, -, hb⟩ := box1 w (.cells #[.int .i64 4, .int .i64 arg] 60)
  obtain ⟨y0, y1⟩ := cells2 hb
  have HM := Hid.mk (h.keep k0)
  obtain ⟨n, rfl⟩ : ∃ n : Nat, arg = (n : Int) := ⟨arg.toNat, by omega⟩
  rw [Int.toNat_natCast]
  clear h
  go_enter Tryd.func31, Tryd.ntmps31
  go_wp2_with (first | (go_at_call 42; refine (argument42 hB HM.out n (by omega)).mono ?_; rintro e w9 ⟨rfl, rfl⟩) | (go_at_call 41; refine (push41 HM.out _ (by omega)).mono ?_; rintro e w1 ⟨rfl, h1⟩))
  go_end0
  exact ⟨rfl, h1⟩
set_option maxHeartbeats 2000000 in
theorem reckon31_2 (h : MSt B w p m k) (arg x y : Int) (h0 : 0 ≤ arg ∧ arg ≤ 7) (hl : m.st.length + 1 ≤ 16) : Calls Tryd.prog 31 #[.pointer (some ⟨p, 0, none⟩), .agg #[.int .i64 2, .int .i64 arg], .int .i64 x, .int .i64 y] w fun e w' => e = .returned (.tuple #[]) ∧ MSt B w' p { m with st := m.st ++ [m.reg.getD arg.toNat 0] } k := by
  obtain ⟨W0, e0, k0, -, hb⟩ := box1 w (.cells #[.int .i64 2, .int .i64 arg] 60)
  obtain ⟨y0, y1⟩ := cells2 hb
  have HM := Hid.mk (h.keep k0)
  obtain ⟨n, rfl⟩ : ∃ n : Nat, arg = (n : Int) := ⟨arg.toNat, by omega⟩
  rw [Int.toNat_natCast]
  obtain ⟨stk, ev, sn, tm, h'⟩ := HM.out
  have hg : m.reg[n]? = some (m.reg.getD n 0) := by rw [List.getElem?_eq_getElem (by rw [h'.rs.r8]; omega)]; simp [List.getElem?_eq_getElem (show n < m.reg.length by rw [h'.rs.r8]; omega)]
  have c0 : W0.drew.cell? ⟨p, 25 + n, none⟩ = some (Iv (m.reg.getD n 0)) := h'.rs.cell_res (by rw [h'.len]) (cellsR_reg hg)
  have S1 : W0.drew.cell? ⟨w.heap.size, 1, none⟩ = some (.int .i64 (n : Int)) := y1
  have q0 : (0 : Int) ≤ (n : Int) := by omega
  have q1 : (n : Int) < 8 := by omega
  have HD := Hid.mk (HM.out.keep (Kept.refl [] W0).drew)
  clear h' hg h0
  generalize m.reg.getD n 0 = v at *
  clear h
  go_enter Tryd.func31, Tryd.ntmps31
  go_wp2_with fail
  go_region_law (go_simp; go_at_call 41; refine (push41 HD.out v (by omega)).mono ?_; rintro e w1 ⟨rfl, h1⟩)
  go_wp2_with fail
  go_end0
  exact ⟨rfl, h1⟩
set_option maxHeartbeats 2000000 in
theorem reckon31_12 (h : MSt B w p m k) (arg x y : Int) (hl : m.st.length + 2 ≤ 16) : Calls Tryd.prog 31 #[.pointer (some ⟨p, 0, none⟩), .agg #[.int .i64 12, .int .i64 arg], .int .i64 x, .int .i64 y] w fun e w' => e = .returned (.tuple #[]) ∧ MSt B w' p { m with st := m.st ++ [x, x] } k := by
  obtain ⟨W0, e0, k0, -, hb⟩ := box1 w (.cells #[.int .i64 12, .int .i64 arg] 60)
  obtain ⟨y0, y1⟩ := cells2 hb
  have HM := Hid.mk (h.keep k0)
  clear h
  go_enter Tryd.func31, Tryd.ntmps31
  go_wp2_with (first | (go_at_call 41; with_reducible refine (push41 HM.out _ (by omega)).mono ?_; rintro e w1 ⟨rfl, h1⟩) | (go_at_call 41; refine (push41 h1 _ (by simp; omega)).mono ?_; rintro e w2 ⟨rfl, h2⟩))
  simp only [List.append_assoc, List.singleton_append] at h2
  go_end0
  exact ⟨rfl, h2⟩
set_option maxHeartbeats 2000000 in
theorem reckon31_14 (h : MSt B w p m k) (arg x y : Int) (hl : m.st.length + 2 ≤ 16) : Calls Tryd.prog 31 #[.pointer (some ⟨p, 0, none⟩), .agg #[.int .i64 14, .int .i64 arg], .int .i64 x, .int .i64 y] w fun e w' => e = .returned (.tuple #[]) ∧ MSt B w' p { m with st := m.st ++ [y, x] } k := by
  obtain ⟨W0, e0, k0, -, hb⟩ := box1 w (.cells #[.int .i64 14, .int .i64 arg] 60)
  obtain ⟨y0, y1⟩ := cells2 hb
  have HM := Hid.mk (h.keep k0)
  clear h
  go_enter Tryd.func31, Tryd.ntmps31
  go_wp2_with (first | (go_at_call 41; with_reducible refine (push41 HM.out _ (by omega)).mono ?_; rintro e w1 ⟨rfl, h1⟩) | (go_at_call 41; refine (push41 h1 _ (by simp; omega)).mono ?_; rintro e w2 ⟨rfl, h2⟩))
  simp only [List.append_assoc, List.singleton_append] at h2
  go_end0
  exact ⟨rfl, h2⟩
end
end Go.Proofs.YtpodoiichpnpjaaDoor
/-
  The document's machine: yes and value, operation by operation.
-/
namespace Go.Proofs.YtpodoiichpnpjaaDoor
open Go.RowKit
set_option maxRecDepth 100000
set_option linter.unusedVariables false
section
variable {B : Bs} {w w' : World} {p : Nat} {m : Mc} {k : Nat} {sv ev sn tm : Value}
theorem yes48 (b : Bool) : Calls Tryd.prog 48 #[.bool b] w fun e w' => e = .returned (.int .i64 (if b = true then 1 else 0)) ∧ w = w' := by
  cases b
  · go_enter Tryd.func48, Tryd.ntmps48
    go_wp2_with fail
    go_ret
    exact ⟨rfl, rfl⟩
  · go_enter Tryd.func48, Tryd.ntmps48
    go_wp2_with fail
    go_ret
    exact ⟨rfl, rfl⟩
set_option maxHeartbeats 2000000 in
theorem value39_1 (h : FSt B w p m k) (arg x y : Int) : Calls Tryd.prog 39 #[.pointer (some ⟨p, 0, none⟩), .agg #[.int .i64 1, .int .i64 arg], .int .i64 x, .int .i64 y] w fun e w' => e = .returned (.int .i64 (arg)) ∧ Kept [] w w' := by
  obtain ⟨W0, e0, k0, -, hb⟩ := box1 w (.cells #[.int .i64 1, .int .i64 arg] 75)
  obtain ⟨y0, y1⟩ := cells2 hb
  have HM := Hid.mk (h.keep k0)
  have HK := Hid.mk k0
  clear h
  go_enter Tryd.func39, Tryd.ntmps39
  go_wp2_with fail
  go_ret
  exact ⟨rfl, HK.out⟩
set_option maxHeartbeats 2000000 in
theorem value39_5 (h : FSt B w p m k) (arg x y : Int) : Calls Tryd.prog 39 #[.pointer (some ⟨p, 0, none⟩), .agg #[.int .i64 5, .int .i64 arg], .int .i64 x, .int .i64 y] w fun e w' => e = .returned (.int .i64 (B.l.kind)) ∧ Kept [] w w' := by
  obtain ⟨W0, e0, k0, -, hb⟩ := box1 w (.cells #[.int .i64 5, .int .i64 arg] 75)
  obtain ⟨y0, y1⟩ := cells2 hb
  have HM := Hid.mk (h.keep k0)
  have HK := Hid.mk k0
  obtain ⟨sv, ev, sn, tm, h'⟩ := HM.out
  have c0 : W0.cell? ⟨p, 4, none⟩ = some (.int .i64 B.l.kind) := h'.fix rfl
  clear h'
  clear h
  go_enter Tryd.func39, Tryd.ntmps39
  go_wp2_with fail
  go_ret
  exact ⟨rfl, HK.out⟩
set_option maxHeartbeats 2000000 in
theorem value39_22 (h : FSt B w p m k) (arg x y : Int) : Calls Tryd.prog 39 #[.pointer (some ⟨p, 0, none⟩), .agg #[.int .i64 22, .int .i64 arg], .int .i64 x, .int .i64 y] w fun e w' => e = .returned (.int .i64 (B.now)) ∧ Kept [] w w' := by
  obtain ⟨W0, e0, k0, -, hb⟩ := box1 w (.cells #[.int .i64 22, .int .i64 arg] 75)
  obtain ⟨y0, y1⟩ := cells2 hb
  have HM := Hid.mk (h.keep k0)
  have HK := Hid.mk k0
  obtain ⟨sv, ev, sn, tm, h'⟩ := HM.out
  have c0 : W0.cell? ⟨p, 6, none⟩ = some (.int .i64 B.now) := h'.fix rfl
  clear h'
  clear h
  go_enter Tryd.func39, Tryd.ntmps39
  go_wp2_with fail
  go_ret
  exact ⟨rfl, HK.out⟩
set_option maxHeartbeats 2000000 in
theorem value39_23 (h : FSt B w p m k) (arg x y : Int) : Calls Tryd.prog 39 #[.pointer (some ⟨p, 0, none⟩), .agg #[.int .i64 23, .int .i64 arg], .int .i64 x, .int .i64 y] w fun e w' => e = .returned (.int .i64 (w64 (B.l.ser : Int))) ∧ Kept [] w w' := by
  obtain ⟨W0, e0, k0, -, hb⟩ := box1 w (.cells #[.int .i64 23, .int .i64 arg] 75)
  obtain ⟨y0, y1⟩ := cells2 hb
  have HM := Hid.mk (h.keep k0)
  have HK := Hid.mk k0
  obtain ⟨sv, ev, sn, tm, h'⟩ := HM.out
  have c0 : W0.cell? ⟨p, 3, none⟩ = some (.int .u64 (B.l.ser : Int)) := h'.fix rfl
  clear h'
  rw [← w64_wrap]
  clear h
  go_enter Tryd.func39, Tryd.ntmps39
  go_wp2_with fail
  go_ret
  exact ⟨rfl, HK.out⟩
set_option maxHeartbeats 2000000 in
theorem value39_6 (h : FSt B w p m k) (arg x y : Int) : Calls Tryd.prog 39 #[.pointer (some ⟨p, 0, none⟩), .agg #[.int .i64 6, .int .i64 arg], .int .i64 x, .int .i64 y] w fun e w' => e = .returned (.int .i64 (w64 (x + y))) ∧ Kept [] w w' := by
  obtain ⟨W0, e0, k0, -, hb⟩ := box1 w (.cells #[.int .i64 6, .int .i64 arg] 75)
  obtain ⟨y0, y1⟩ := cells2 hb
  have HM := Hid.mk (h.keep k0)
  have HK := Hid.mk k0
  rw [← w64_wrap]
  clear h
  go_enter Tryd.func39, Tryd.ntmps39
  go_wp2_with fail
  go_ret
  exact ⟨rfl, HK.out⟩
set_option maxHeartbeats 2000000 in
theorem value39_7 (h : FSt B w p m k) (arg x y : Int) : Calls Tryd.prog 39 #[.pointer (some ⟨p, 0, none⟩), .agg #[.int .i64 7, .int .i64 arg], .int .i64 x, .int .i64 y] w fun e w' => e = .returned (.int .i64 (w64 (x - y))) ∧ Kept [] w w' := by
  obtain ⟨W0, e0, k0, -, hb⟩ := box1 w (.cells #[.int .i64 7, .int .i64 arg] 75)
  obtain ⟨y0, y1⟩ := cells2 hb
  have HM := Hid.mk (h.keep k0)
  have HK := Hid.mk k0
  rw [← w64_wrap]
  clear h
  go_enter Tryd.func39, Tryd.ntmps39
  go_wp2_with fail
  go_ret
  exact ⟨rfl, HK.out⟩
set_option maxHeartbeats 2000000 in
theorem value39_8 (h : FSt B w p m k) (arg x y : Int) : Calls Tryd.prog 39 #[.pointer (some ⟨p, 0, none⟩), .agg #[.int .i64 8, .int .i64 arg], .int .i64 x, .int .i64 y] w fun e w' => e = .returned (.int .i64 (w64 (x * y))) ∧ Kept [] w w' := by
  obtain ⟨W0, e0, k0, -, hb⟩ := box1 w (.cells #[.int .i64 8, .int .i64 arg] 75)
  obtain ⟨y0, y1⟩ := cells2 hb
  have HM := Hid.mk (h.keep k0)
  have HK := Hid.mk k0
  rw [← w64_wrap]
  clear h
  go_enter Tryd.func39, Tryd.ntmps39
  go_wp2_with fail
  go_ret
  exact ⟨rfl, HK.out⟩
set_option maxHeartbeats 2000000 in
theorem value39_9 (h : FSt B w p m k) (arg x y : Int) : Calls Tryd.prog 39 #[.pointer (some ⟨p, 0, none⟩), .agg #[.int .i64 9, .int .i64 arg], .int .i64 x, .int .i64 y] w fun e w' => e = .returned (.int .i64 (if x < y then 1 else 0)) ∧ Kept [] w w' := by
  obtain ⟨W0, e0, k0, -, hb⟩ := box1 w (.cells #[.int .i64 9, .int .i64 arg] 75)
  obtain ⟨y0, y1⟩ := cells2 hb
  have HM := Hid.mk (h.keep k0)
  have HK := Hid.mk k0
  clear h
  go_enter Tryd.func39, Tryd.ntmps39
  go_wp2_with (go_at_call 48; refine (yes48 _).mono ?_; rintro e w9 ⟨rfl, rfl⟩)
  all_goals go_ret
  all_goals exact ⟨by simp, HK.out⟩
set_option maxHeartbeats 2000000 in
theorem value39_10 (h : FSt B w p m k) (arg x y : Int) : Calls Tryd.prog 39 #[.pointer (some ⟨p, 0, none⟩), .agg #[.int .i64 10, .int .i64 arg], .int .i64 x, .int .i64 y] w fun e w' => e = .returned (.int .i64 (if x = y then 1 else 0)) ∧ Kept [] w w' := by
  obtain ⟨W0, e0, k0, -, hb⟩ := box1 w (.cells #[.int .i64 10, .int .i64 arg] 75)
  obtain ⟨y0, y1⟩ := cells2 hb
  have HM := Hid.mk (h.keep k0)
  have HK := Hid.mk k0
  clear h
  go_enter Tryd.func39, Tryd.ntmps39
  go_wp2_with (go_at_call 48; refine (yes48 _).mono ?_; rintro e w9 ⟨rfl, rfl⟩)
  all_goals go_ret
  all_goals exact ⟨by simp, HK.out⟩
set_option maxHeartbeats 2000000 in
theorem value39_11 (h : FSt B w p m k) (arg x y : Int) : Calls Tryd.prog 39 #[.pointer (some ⟨p, 0, none⟩), .agg #[.int .i64 11, .int .i64 arg], .int .i64 x, .int .i64 y] w fun e w' => e = .returned (.int .i64 (if x = 0 then 1 else 0)) ∧ Kept [] w w' := by
  obtain ⟨W0, e0, k0, -, hb⟩ := box1 w (.cells #[.int .i64 11, .int .i64 arg] 75)
  obtain ⟨y0, y1⟩ := cells2 hb
  have HM := Hid.mk (h.keep k0)
  have HK := Hid.mk k0
  clear h
  go_enter Tryd.func39, Tryd.ntmps39
  go_wp2_with (go_at_call 48; refine (yes48 _).mono ?_; rintro e w9 ⟨rfl, rfl⟩)
  all_goals go_ret
  all_goals exact ⟨by simp, HK.out⟩
set_option maxHeartbeats 2000000 in
theorem value39_2 (h : FSt B w p m k) (arg x y : Int) (h0 : 0 ≤ arg ∧ arg ≤ 7) : Calls Tryd.prog 39 #[.pointer (some ⟨p, 0, none⟩), .agg #[.int .i64 2, .int .i64 arg], .int .i64 x, .int .i64 y] w fun e w' => e = .returned (.int .i64 (m.reg.getD arg.toNat 0)) ∧ Kept [] w w' := by
  obtain ⟨W0, e0, k0, -, hb⟩ := box1 w (.cells #[.int .i64 2, .int .i64 arg] 75)
  obtain ⟨y0, y1⟩ := cells2 hb
  have HM := Hid.mk (h.keep k0)
  have HK := Hid.mk k0
  obtain ⟨n, rfl⟩ : ∃ n : Nat, arg = (n : Int) := ⟨arg.toNat, by omega⟩
  rw [Int.toNat_natCast]
  obtain ⟨sv, ev, sn, tm, h'⟩ := HM.out
  have hg : m.reg[n]? = some (m.reg.getD n 0) := by rw [List.getElem?_eq_getElem (by rw [h'.rs.r8]; omega)]; simp [List.getElem?_eq_getElem (show n < m.reg.length by rw [h'.rs.r8]; omega)]
  have c0 : W0.drew.cell? ⟨p, 9 + n, none⟩ = some (Iv (m.reg.getD n 0)) := h'.rs.cell_res (by rw [h'.len]) (cellsR_reg hg)
  have S1 : W0.drew.cell? ⟨w.heap.size, 1, none⟩ = some (.int .i64 (n : Int)) := y1
  have q0 : (0 : Int) ≤ (n : Int) := by omega
  have q1 : (n : Int) < 8 := by omega
  clear h' hg h0
  generalize m.reg.getD n 0 = v at *
  clear h
  go_enter Tryd.func39, Tryd.ntmps39
  go_wp2_with fail
  go_region
  go_wp2_with fail
  go_ret
  exact ⟨rfl, HK.out.drew⟩
set_option maxHeartbeats 2000000 in
theorem value39_4 (h : FSt B w p m k) (arg x y : Int) (hB : B.Ok) (h0 : 0 ≤ arg ∧ arg ≤ 7) : Calls Tryd.prog 39 #[.pointer (some ⟨p, 0, none⟩), .agg #[.int .i64 4, .int .i64 arg], .int .i64 x, .int .i64 y] w fun e w' => e = .returned (.int .i64 (B.l.args.getD arg.toNat 0)) ∧ Kept [] w w' := by
  obtain ⟨W0, e0, k0, -, hb⟩ := box1 w (.cells #[.int .i64 4, .int .i64 arg] 75)
  obtain ⟨y0, y1⟩ := cells2 hb
  have HM := Hid.mk (h.keep k0)
  have HK := Hid.mk k0
  obtain ⟨n, rfl⟩ : ∃ n : Nat, arg = (n : Int) := ⟨arg.toNat, by omega⟩
  rw [Int.toNat_natCast]
  obtain ⟨sv, ev, sn, tm, h'⟩ := HM.out
  have hA := hB.args.keep h'.rs.kept
  obtain ⟨a, c, hav, h1, h2⟩ := hA.form
  rw [rowJ_length] at hav h1
  have c5 : W0.drew.cell? ⟨p, 5, none⟩ = some (.slice a B.l.args.length c) := by rw [← hav]; exact h'.fix rfl
  have S1 : W0.drew.cell? ⟨w.heap.size, 1, none⟩ = some (.int .i64 (n : Int)) := y1
  have c6 : W0.drew.drew.cell? ⟨p, 5, none⟩ = some (.slice a B.l.args.length c) := c5
  have S2 : W0.drew.drew.cell? ⟨w.heap.size, 1, none⟩ = some (.int .i64 (n : Int)) := y1
  rw [hav] at hA
  clear hav h' h0
  clear h
  by_cases hlt : n < B.l.args.length
  · have hg : B.l.args[n]? = some (B.l.args.getD n 0) := by simp [List.getElem?_eq_getElem hlt]
    obtain ⟨b, o, rfl, hc⟩ := rowJ_at hA hg
    have hc2 : W0.drew.drew.cell? ⟨b, o + n, none⟩ = some (.int .i64 (B.l.args.getD n 0)) := hc
    have q0 : (0 : Int) ≤ (n : Int) := by omega
    have q1 : (n : Int) < (B.l.args.length : Int) := by omega
    clear hA hg
    generalize B.l.args.getD n 0 = x at *
    generalize B.l.args.length = nn at *
    go_enter Tryd.func39, Tryd.ntmps39
    go_wp2_with fail
    go_region
    go_wp2_with fail
    go_region
    go_wp2_with fail
    go_ret
    exact ⟨rfl, HK.out.drew.drew⟩
  · have q : ¬ (n : Int) < (B.l.args.length : Int) := by omega
    have e0 : B.l.args.getD n 0 = 0 := by simp [List.getElem?_eq_none (Nat.le_of_not_lt hlt)]
    rw [e0]
    clear hA e0
    generalize B.l.args.length = nn at *
    go_enter Tryd.func39, Tryd.ntmps39
    go_wp2_with fail
    go_region
    go_wp2_with fail
    go_ret
    exact ⟨rfl, HK.out.drew⟩
end
end Go.Proofs.YtpodoiichpnpjaaDoor
