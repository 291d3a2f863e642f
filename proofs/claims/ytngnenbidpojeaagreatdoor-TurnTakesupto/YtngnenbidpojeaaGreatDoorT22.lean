import Derived.Deep.RegionHeld3
import Derived.Test.YtngnenbidpojeaaGreatDoorT16
import Derived.Test.YtngnenbidpojeaaGreatDoorT18
import Derived.Test.YtngnenbidpojeaaGreatDoorT21
/-
 The program's machine: reckon, operation by operation.
-/
namespace Go.Proofs.YtngnenbidpojeaaGreatDoor
open Go.RowKit
set_option maxRecDepth 100000
set_option linter.unusedVariables false
theorem w64_wrap (z : Int) : wrap64 z = w64 z := by unfold w64; rw [IntKind.wrap_i64]; unfold wrap64; rfl
section
variable {B : Bs} {w w' : World} {p : Nat} {m : Mc} {k : Nat} {stk : List Int} {ev sn tm : Value}
set_option maxHeartbeats 2000000 in
theorem reckon31_1 (h : MSt B w p m k) (arg x y : Int) (hl : m.st.length + 1 ≤ 16) : Calls Tryz.prog 126 #[.pointer (some ⟨p, 0, none⟩), .agg #[.int .i64 1, .int .i64 arg], .int .i64 x, .int .i64 y] w fun e w' => e = .returned (.tuple #[]) ∧ MSt B w' p { m with st := m.st ++ [arg] } k := by
 obtain ⟨W0, e0, k0, -, hb⟩ := box1 w (.cells #[.int .i64 1, .int .i64 arg] 83)
 obtain ⟨y0, y1⟩ := cells2_N hb
 have HM := Hid.mk (h.keep k0)
 clear h
 go_enter Tryz.func126, Tryz.ntmps126
 go_wp2_with (go_at_call 145; refine (push41 HM.out _ (by omega)).mono ?_; rintro e w1 ⟨rfl, h1⟩)
 go_end0
 exact ⟨rfl, h1⟩
set_option maxHeartbeats 2000000 in
theorem reckon31_5 (h : MSt B w p m k) (arg x y : Int) (hl : m.st.length + 1 ≤ 16) : Calls Tryz.prog 126 #[.pointer (some ⟨p, 0, none⟩), .agg #[.int .i64 5, .int .i64 arg], .int .i64 x, .int .i64 y] w fun e w' => e = .returned (.tuple #[]) ∧ MSt B w' p { m with st := m.st ++ [B.l.kind] } k := by
 obtain ⟨W0, e0, k0, -, hb⟩ := box1 w (.cells #[.int .i64 5, .int .i64 arg] 83)
 obtain ⟨y0, y1⟩ := cells2_N hb
 have HM := Hid.mk (h.keep k0)
 obtain ⟨stk, ev, sn, tm, h'⟩ := HM.out
 have c0 : W0.cell? ⟨p, 4, none⟩ = some (.int .i64 B.l.kind) := h'.fix rfl
 clear h'
 clear h
 go_enter Tryz.func126, Tryz.ntmps126
 go_wp2_with (go_at_call 145; refine (push41 HM.out _ (by omega)).mono ?_; rintro e w1 ⟨rfl, h1⟩)
 go_end0
 exact ⟨rfl, h1⟩
set_option maxHeartbeats 2000000 in
theorem reckon31_22 (h : MSt B w p m k) (arg x y : Int) (hl : m.st.length + 1 ≤ 16) : Calls Tryz.prog 126 #[.pointer (some ⟨p, 0, none⟩), .agg #[.int .i64 22, .int .i64 arg], .int .i64 x, .int .i64 y] w fun e w' => e = .returned (.tuple #[]) ∧ MSt B w' p { m with st := m.st ++ [B.now] } k := by
 obtain ⟨W0, e0, k0, -, hb⟩ := box1 w (.cells #[.int .i64 22, .int .i64 arg] 83)
 obtain ⟨y0, y1⟩ := cells2_N hb
 have HM := Hid.mk (h.keep k0)
 obtain ⟨stk, ev, sn, tm, h'⟩ := HM.out
 have c0 : W0.cell? ⟨p, 6, none⟩ = some (.int .i64 B.now) := h'.fix rfl
 clear h'
 clear h
 go_enter Tryz.func126, Tryz.ntmps126
 go_wp2_with (go_at_call 145; refine (push41 HM.out _ (by omega)).mono ?_; rintro e w1 ⟨rfl, h1⟩)
 go_end0
 exact ⟨rfl, h1⟩
set_option maxHeartbeats 2000000 in
theorem reckon31_23 (h : MSt B w p m k) (arg x y : Int) (hl : m.st.length + 1 ≤ 16) : Calls Tryz.prog 126 #[.pointer (some ⟨p, 0, none⟩), .agg #[.int .i64 23, .int .i64 arg], .int .i64 x, .int .i64 y] w fun e w' => e = .returned (.tuple #[]) ∧ MSt B w' p { m with st := m.st ++ [w64 (B.l.ser : Int)] } k := by
 obtain ⟨W0, e0, k0, -, hb⟩ := box1 w (.cells #[.int .i64 23, .int .i64 arg] 83)
 obtain ⟨y0, y1⟩ := cells2_N hb
 have HM := Hid.mk (h.keep k0)
 obtain ⟨stk, ev, sn, tm, h'⟩ := HM.out
 have c0 : W0.cell? ⟨p, 3, none⟩ = some (.int .u64 (B.l.ser : Int)) := h'.fix rfl
 clear h'
 clear h
 go_enter Tryz.func126, Tryz.ntmps126
 go_wp2_with (go_at_call 145; refine (push41 HM.out _ (by omega)).mono ?_; rintro e w1 ⟨rfl, h1⟩)
 go_end0
 rw [w64_wrap] at h1
 exact ⟨rfl, h1⟩
set_option maxHeartbeats 2000000 in
theorem reckon31_6 (h : MSt B w p m k) (arg x y : Int) (hl : m.st.length + 1 ≤ 16) : Calls Tryz.prog 126 #[.pointer (some ⟨p, 0, none⟩), .agg #[.int .i64 6, .int .i64 arg], .int .i64 x, .int .i64 y] w fun e w' => e = .returned (.tuple #[]) ∧ MSt B w' p { m with st := m.st ++ [w64 (x + y)] } k := by
 obtain ⟨W0, e0, k0, -, hb⟩ := box1 w (.cells #[.int .i64 6, .int .i64 arg] 83)
 obtain ⟨y0, y1⟩ := cells2_N hb
 have HM := Hid.mk (h.keep k0)
 clear h
 go_enter Tryz.func126, Tryz.ntmps126
 go_wp2_with (go_at_call 145; refine (push41 HM.out _ (by omega)).mono ?_; rintro e w1 ⟨rfl, h1⟩)
 go_end0
 rw [w64_wrap] at h1
 exact ⟨rfl, h1⟩
set_option maxHeartbeats 2000000 in
theorem reckon31_7 (h : MSt B w p m k) (arg x y : Int) (hl : m.st.length + 1 ≤ 16) : Calls Tryz.prog 126 #[.pointer (some ⟨p, 0, none⟩), .agg #[.int .i64 7, .int .i64 arg], .int .i64 x, .int .i64 y] w fun e w' => e = .returned (.tuple #[]) ∧ MSt B w' p { m with st := m.st ++ [w64 (x - y)] } k := by
 obtain ⟨W0, e0, k0, -, hb⟩ := box1 w (.cells #[.int .i64 7, .int .i64 arg] 83)
 obtain ⟨y0, y1⟩ := cells2_N hb
 have HM := Hid.mk (h.keep k0)
 clear h
 go_enter Tryz.func126, Tryz.ntmps126
 go_wp2_with (go_at_call 145; refine (push41 HM.out _ (by omega)).mono ?_; rintro e w1 ⟨rfl, h1⟩)
 go_end0
 rw [w64_wrap] at h1
 exact ⟨rfl, h1⟩
set_option maxHeartbeats 2000000 in
theorem reckon31_8 (h : MSt B w p m k) (arg x y : Int) (hl : m.st.length + 1 ≤ 16) : Calls Tryz.prog 126 #[.pointer (some ⟨p, 0, none⟩), .agg #[.int .i64 8, .int .i64 arg], .int .i64 x, .int .i64 y] w fun e w' => e = .returned (.tuple #[]) ∧ MSt B w' p { m with st := m.st ++ [w64 (x * y)] } k := by
 obtain ⟨W0, e0, k0, -, hb⟩ := box1 w (.cells #[.int .i64 8, .int .i64 arg] 83)
 obtain ⟨y0, y1⟩ := cells2_N hb
 have HM := Hid.mk (h.keep k0)
 clear h
 go_enter Tryz.func126, Tryz.ntmps126
 go_wp2_with (go_at_call 145; refine (push41 HM.out _ (by omega)).mono ?_; rintro e w1 ⟨rfl, h1⟩)
 go_end0
 rw [w64_wrap] at h1
 exact ⟨rfl, h1⟩
set_option maxHeartbeats 2000000 in
theorem reckon31_9 (h : MSt B w p m k) (arg x y : Int) (hl : m.st.length + 1 ≤ 16) : Calls Tryz.prog 126 #[.pointer (some ⟨p, 0, none⟩), .agg #[.int .i64 9, .int .i64 arg], .int .i64 x, .int .i64 y] w fun e w' => e = .returned (.tuple #[]) ∧ MSt B w' p { m with st := m.st ++ [if x < y then 1 else 0] } k := by
 obtain ⟨W0, e0, k0, -, hb⟩ := box1 w (.cells #[.int .i64 9, .int .i64 arg] 83)
 obtain ⟨y0, y1⟩ := cells2_N hb
 have HM := Hid.mk (h.keep k0)
 clear h
 go_enter Tryz.func126, Tryz.ntmps126
 go_wp2_with (first | (go_at_call 147; refine (truth43 _).mono ?_; rintro e w9 ⟨rfl, rfl⟩) | (go_at_call 145; refine (push41 HM.out _ (by omega)).mono ?_; rintro e w1 ⟨rfl, h1⟩))
 all_goals go_end0
 all_goals exact ⟨rfl, by first | (simpa [show x < y by omega] using h1) | (simpa [show ¬ x < y by omega] using h1)⟩
set_option maxHeartbeats 2000000 in
theorem reckon31_10 (h : MSt B w p m k) (arg x y : Int) (hl : m.st.length + 1 ≤ 16) : Calls Tryz.prog 126 #[.pointer (some ⟨p, 0, none⟩), .agg #[.int .i64 10, .int .i64 arg], .int .i64 x, .int .i64 y] w fun e w' => e = .returned (.tuple #[]) ∧ MSt B w' p { m with st := m.st ++ [if x = y then 1 else 0] } k := by
 obtain ⟨W0, e0, k0, -, hb⟩ := box1 w (.cells #[.int .i64 10, .int .i64 arg] 83)
 obtain ⟨y0, y1⟩ := cells2_N hb
 have HM := Hid.mk (h.keep k0)
 clear h
 go_enter Tryz.func126, Tryz.ntmps126
 go_wp2_with (first | (go_at_call 147; refine (truth43 _).mono ?_; rintro e w9 ⟨rfl, rfl⟩) | (go_at_call 145; refine (push41 HM.out _ (by omega)).mono ?_; rintro e w1 ⟨rfl, h1⟩))
 all_goals go_end0
 all_goals exact ⟨rfl, by first | (simpa [show x = y by omega] using h1) | (simpa [show ¬ x = y by omega] using h1)⟩
set_option maxHeartbeats 2000000 in
theorem reckon31_11 (h : MSt B w p m k) (arg x y : Int) (hl : m.st.length + 1 ≤ 16) : Calls Tryz.prog 126 #[.pointer (some ⟨p, 0, none⟩), .agg #[.int .i64 11, .int .i64 arg], .int .i64 x, .int .i64 y] w fun e w' => e = .returned (.tuple #[]) ∧ MSt B w' p { m with st := m.st ++ [if x = 0 then 1 else 0] } k := by
 obtain ⟨W0, e0, k0, -, hb⟩ := box1 w (.cells #[.int .i64 11, .int .i64 arg] 83)
 obtain ⟨y0, y1⟩ := cells2_N hb
 have HM := Hid.mk (h.keep k0)
 clear h
 go_enter Tryz.func126, Tryz.ntmps126
 go_wp2_with (first | (go_at_call 147; refine (truth43 _).mono ?_; rintro e w9 ⟨rfl, rfl⟩) | (go_at_call 145; refine (push41 HM.out _ (by omega)).mono ?_; rintro e w1 ⟨rfl, h1⟩))
 all_goals go_end0
 all_goals exact ⟨rfl, by first | (simpa [show x = 0 by omega] using h1) | (simpa [show ¬ x = 0 by omega] using h1)⟩
set_option maxHeartbeats 2000000 in
theorem reckon31_4 (h : MSt B w p m k) (arg x y : Int) (hB : B.Ok) (h0 : 0 ≤ arg ∧ arg ≤ 7) (hl : m.st.length + 1 ≤ 16) : Calls Tryz.prog 126 #[.pointer (some ⟨p, 0, none⟩), .agg #[.int .i64 4, .int .i64 arg], .int .i64 x, .int .i64 y] w fun e w' => e = .returned (.tuple #[]) ∧ MSt B w' p { m with st := m.st ++ [B.l.args.getD arg.toNat 0] } k := by
 obtain ⟨W0, e0, k0, -, hb⟩ := box1 w (.cells #[.int .i64 4, .int .i64 arg] 83)
 obtain ⟨y0, y1⟩ := cells2_N hb
 have HM := Hid.mk (h.keep k0)
 obtain ⟨n, rfl⟩ : ∃ n : Nat, arg = (n : Int) := ⟨arg.toNat, by omega⟩
 rw [Int.toNat_natCast]
 clear h
 go_enter Tryz.func126, Tryz.ntmps126
 go_wp2_with (first | (go_at_call 146; refine (argument42 hB HM.out n (by omega)).mono ?_; rintro e w9 ⟨rfl, rfl⟩) | (go_at_call 145; refine (push41 HM.out _ (by omega)).mono ?_; rintro e w1 ⟨rfl, h1⟩))
 go_end0
 exact ⟨rfl, h1⟩
set_option maxHeartbeats 2000000 in
theorem reckon31_2 (h : MSt B w p m k) (arg x y : Int) (h0 : 0 ≤ arg ∧ arg ≤ 7) (hl : m.st.length + 1 ≤ 16) : Calls Tryz.prog 126 #[.pointer (some ⟨p, 0, none⟩), .agg #[.int .i64 2, .int .i64 arg], .int .i64 x, .int .i64 y] w fun e w' => e = .returned (.tuple #[]) ∧ MSt B w' p { m with st := m.st ++ [m.reg.getD arg.toNat 0] } k := by
 obtain ⟨W0, e0, k0, -, hb⟩ := box1 w (.cells #[.int .i64 2, .int .i64 arg] 83)
 obtain ⟨y0, y1⟩ := cells2_N hb
 have HM := Hid.mk (h.keep k0)
 obtain ⟨n, rfl⟩ : ∃ n : Nat, arg = (n : Int) := ⟨arg.toNat, by omega⟩
 rw [Int.toNat_natCast]
 obtain ⟨stk, ev, sn, tm, h'⟩ := HM.out
 have hg : m.reg[n]? = some (m.reg.getD n 0) := by rw [List.getElem?_eq_getElem (by rw [h'.rs.r8]; omega)]; simp [List.getElem?_eq_getElem (show n < m.reg.length by rw [h'.rs.r8]; omega)]
 have c0 : W0.drew.cell? ⟨p, 25 + n, none⟩ = some (Iv_N (m.reg.getD n 0)) := h'.rs.cell_res (by rw [h'.len]) (cellsR_reg hg)
 have S1 : W0.drew.cell? ⟨w.heap.size, 1, none⟩ = some (.int .i64 (n : Int)) := y1
 have q0 : (0 : Int) ≤ (n : Int) := by omega
 have q1 : (n : Int) < 8 := by omega
 have HD := Hid.mk (HM.out.keep (Kept.refl [] W0).drew)
 clear h' hg h0
 generalize m.reg.getD n 0 = v at *
 clear h
 go_enter Tryz.func126, Tryz.ntmps126
 go_wp2_with fail
 go_region_law (go_simp; go_at_call 145; refine (push41 HD.out v (by omega)).mono ?_; rintro e w1 ⟨rfl, h1⟩)
 go_wp2_with fail
 go_end0
 exact ⟨rfl, h1⟩
set_option maxHeartbeats 2000000 in
theorem reckon31_12 (h : MSt B w p m k) (arg x y : Int) (hl : m.st.length + 2 ≤ 16) : Calls Tryz.prog 126 #[.pointer (some ⟨p, 0, none⟩), .agg #[.int .i64 12, .int .i64 arg], .int .i64 x, .int .i64 y] w fun e w' => e = .returned (.tuple #[]) ∧ MSt B w' p { m with st := m.st ++ [x, x] } k := by
 obtain ⟨W0, e0, k0, -, hb⟩ := box1 w (.cells #[.int .i64 12, .int .i64 arg] 83)
 obtain ⟨y0, y1⟩ := cells2_N hb
 have HM := Hid.mk (h.keep k0)
 clear h
 go_enter Tryz.func126, Tryz.ntmps126
 go_wp2_with (first | (go_at_call 145; with_reducible refine (push41 HM.out _ (by omega)).mono ?_; rintro e w1 ⟨rfl, h1⟩) | (go_at_call 145; refine (push41 h1 _ (by simp; omega)).mono ?_; rintro e w2 ⟨rfl, h2⟩))
 simp only [List.append_assoc, List.singleton_append] at h2
 go_end0
 exact ⟨rfl, h2⟩
set_option maxHeartbeats 2000000 in
theorem reckon31_14 (h : MSt B w p m k) (arg x y : Int) (hl : m.st.length + 2 ≤ 16) : Calls Tryz.prog 126 #[.pointer (some ⟨p, 0, none⟩), .agg #[.int .i64 14, .int .i64 arg], .int .i64 x, .int .i64 y] w fun e w' => e = .returned (.tuple #[]) ∧ MSt B w' p { m with st := m.st ++ [y, x] } k := by
 obtain ⟨W0, e0, k0, -, hb⟩ := box1 w (.cells #[.int .i64 14, .int .i64 arg] 83)
 obtain ⟨y0, y1⟩ := cells2_N hb
 have HM := Hid.mk (h.keep k0)
 clear h
 go_enter Tryz.func126, Tryz.ntmps126
 go_wp2_with (first | (go_at_call 145; with_reducible refine (push41 HM.out _ (by omega)).mono ?_; rintro e w1 ⟨rfl, h1⟩) | (go_at_call 145; refine (push41 h1 _ (by simp; omega)).mono ?_; rintro e w2 ⟨rfl, h2⟩))
 simp only [List.append_assoc, List.singleton_append] at h2
 go_end0
 exact ⟨rfl, h2⟩
end
structure Fit (p : Pg) (o : Nat) (a : Int) : Prop where
 op : o < 24
 reg : o = 2 ∨ o = 3 → 0 ≤ a ∧ a ≤ 7
 arg : o = 4 → 0 ≤ a ∧ a ≤ 7
 plc : o = 15 ∨ o = 16 → 0 ≤ a ∧ a ≤ (p.code.length : Int)
 nam : o = 17 ∨ o = 19 ∨ o = 20 → 0 ≤ a ∧ a < (p.names.length : Int)
theorem fit_of {p : Pg} {x : In} (h : okI p.names.length p.code.length x = true) : ∃ o : Nat, x.op = (o : Int) ∧ Fit p o x.arg := by
 unfold okI at h
 obtain ⟨xo, a⟩ := x
 dsimp only at h ⊢
 have h0 : 0 ≤ xo ∧ xo.toNat < 24 := by
  cases hw : words[xo.toNat]? with
  | none => rw [hw] at h; cases h
  | some z =>
   rw [hw] at h
   simp at h
   have := (List.getElem?_eq_some_iff.1 hw).1
   rw [words_length] at this
   exact ⟨h.1, this⟩
 refine ⟨xo.toNat, by omega, h0.2, fun e => ?_, fun e => ?_, fun e => ?_, fun e => ?_⟩
 ·rcases e with e | e <;> (rw [e] at h; simp [words, mostI] at h; omega)
 ·rw [e] at h; simp [words, mostI] at h; omega
 ·rcases e with e | e <;> (rw [e] at h; simp [words, mostI] at h; omega)
 ·rcases e with e | e | e <;> (rw [e] at h; simp [words, mostI] at h; omega)
def OuC (B : Bs) (p : Nat) (k : Nat) : Ou → Int → World → Prop
 | .go m, c, w => c = 0 ∧ MSt B w p m k
 | .halt m, c, w => c = 0 ∧ MSt B w p { m with at_ := B.pg.code.length } k
 | .err d, c, w => c = d ∧ ∃ m, MSt B w p m k
structure Bs.Good (B : Bs) : Prop where
 ok : B.Ok
 names : ∀ s ∈ B.pg.names, isKey s = true
 few : B.pg.code.length ≤ 200
 fr : B.l.fr.length ≤ 40
 now : 0 ≤ B.now ∧ B.now ≤ 9223372036854775807
def Lite (m : Mc) : Prop := m.ev.length ≤ 900 ∧ m.tm.length ≤ 900 ∧ m.sent.length ≤ 4
section
variable {B : Bs} {w w' : World} {p : Nat} {m : Mc} {k : Nat} {stk : List Int} {ev sn tm : Value}
theorem name_of (hG : B.Good) {n : Nat} (hn : n < B.pg.names.length) : ∃ s, B.pg.names[n]? = some s ∧ B.pg.names.getD n [] = s ∧ s ≠ [] ∧ s.length ≤ 281474976710656 := by
 have h1 : B.pg.names[n]? = some B.pg.names[n] := List.getElem?_eq_getElem hn
 have h2 := (isKey_iff _).1 (hG.names _ (List.getElem_mem hn))
 exact ⟨_, h1, by rw [List.getD_eq_getElem?_getD, h1]; rfl, fun e => by rw [e] at h2; simp at h2, by omega⟩
theorem reckon31_any {i : Nat} {arg : Int} (hG : B.Good) (h : MSt B w p m k) (hF : Fit B.pg i arg) (x y : Int) (hg : 0 < (effI i).2) (hl : m.st.length + (effI i).2 ≤ 16) : Calls Tryz.prog 126 #[.pointer (some ⟨p, 0, none⟩), .agg #[.int .i64 (i : Int), .int .i64 arg], .int .i64 x, .int .i64 y] w fun e w' => e = .returned (.tuple #[]) ∧ ∃ m', actI B.pg B.l B.now m i (effI i).2 arg x y = .go m' ∧ MSt B w' p m' k := by
 have hlt := hF.op
 match i, hlt with
 | 0, _ => exact absurd hg (by decide)
 | 1, _ => exact (reckon31_1 h arg x y hl).mono fun e w' h => ⟨h.1, _, rfl, h.2⟩
 | 2, _ => exact (reckon31_2 h arg x y (hF.reg (.inl rfl)) hl).mono fun e w' h => ⟨h.1, _, rfl, h.2⟩
 | 3, _ => exact absurd hg (by decide)
 | 4, _ => exact (reckon31_4 h arg x y hG.ok (hF.arg rfl) hl).mono fun e w' h => ⟨h.1, _, rfl, h.2⟩
 | 5, _ => exact (reckon31_5 h arg x y hl).mono fun e w' h => ⟨h.1, _, rfl, h.2⟩
 | 6, _ => exact (reckon31_6 h arg x y hl).mono fun e w' h => ⟨h.1, _, rfl, h.2⟩
 | 7, _ => exact (reckon31_7 h arg x y hl).mono fun e w' h => ⟨h.1, _, rfl, h.2⟩
 | 8, _ => exact (reckon31_8 h arg x y hl).mono fun e w' h => ⟨h.1, _, rfl, h.2⟩
 | 9, _ => exact (reckon31_9 h arg x y hl).mono fun e w' h => ⟨h.1, _, rfl, h.2⟩
 | 10, _ => exact (reckon31_10 h arg x y hl).mono fun e w' h => ⟨h.1, _, rfl, h.2⟩
 | 11, _ => exact (reckon31_11 h arg x y hl).mono fun e w' h => ⟨h.1, _, rfl, h.2⟩
 | 12, _ => exact (reckon31_12 h arg x y hl).mono fun e w' h => ⟨h.1, _, rfl, h.2⟩
 | 13, _ => exact absurd hg (by decide)
 | 14, _ => exact (reckon31_14 h arg x y hl).mono fun e w' h => ⟨h.1, _, rfl, h.2⟩
 | 15, _ => exact absurd hg (by decide)
 | 16, _ => exact absurd hg (by decide)
 | 17, _ => exact absurd hg (by decide)
 | 18, _ => exact absurd hg (by decide)
 | 19, _ => exact absurd hg (by decide)
 | 20, _ => exact absurd hg (by decide)
 | 21, _ => exact absurd hg (by decide)
 | 22, _ => exact (reckon31_22 h arg x y hl).mono fun e w' h => ⟨h.1, _, rfl, h.2⟩
 | 23, _ => exact (reckon31_23 h arg x y hl).mono fun e w' h => ⟨h.1, _, rfl, h.2⟩
 | n + 24, h => exact absurd h (by omega)
theorem send_act {op : Nat} {to : List UInt8} {arg x y c : Int} (hto : (if op = 17 then B.pg.names.getD arg.toNat [] else B.l.fr) = to) (h17 : op = 17 ∨ op = 18) (hne : to ≠ []) (h : SendP B p m k to x y c w) : OuC B p k (actI B.pg B.l B.now m op 0 arg x y) c w := by
 unfold actI
 rw [if_neg (by omega), if_neg (by omega), if_neg (by omega), if_neg (by omega), if_neg (by omega), if_neg (by omega), if_neg (by omega), if_pos h17, hto, if_neg hne]
 rcases h with ⟨h1, rfl, h3⟩ | ⟨h1, rfl, h3⟩
 ·rw [if_pos (by omega)]; exact ⟨rfl, m, h3⟩
 ·rw [if_neg (by omega)]; exact ⟨rfl, h3⟩
theorem act32_any {i : Nat} {arg : Int} (hG : B.Good) (h : MSt B w p m k) (hF : Fit B.pg i arg) (x y : Int) (hg : (effI i).2 = 0) (hL : Lite m) : Calls Tryz.prog 127 #[.pointer (some ⟨p, 0, none⟩), .agg #[.int .i64 (i : Int), .int .i64 arg], .int .i64 x, .int .i64 y] w fun e w' => ∃ c, e = .returned (.int .i64 c) ∧ OuC B p k (actI B.pg B.l B.now m i (effI i).2 arg x y) c w' := by
 have hlt := hF.op
 obtain ⟨l1, l2, l3⟩ := hL
 match i, hlt with
 | 0, _ => exact (act32_0 hG.ok h arg x y).mono fun e w' h => ⟨0, h.1, rfl, h.2⟩
 | 1, _ => exact absurd hg (by decide)
 | 2, _ => exact absurd hg (by decide)
 | 3, _ =>
  obtain ⟨a0, a1⟩ := hF.reg (.inr rfl)
  obtain ⟨n, rfl⟩ : ∃ n : Nat, arg = (n : Int) := ⟨arg.toNat, by omega⟩
  exact (act32_3 h n (by omega) x y l1).mono fun e w' h => ⟨0, h.1, rfl, h.2⟩
 | 4, _ => exact absurd hg (by decide)
 | 5, _ => exact absurd hg (by decide)
 | 6, _ => exact absurd hg (by decide)
 | 7, _ => exact absurd hg (by decide)
 | 8, _ => exact absurd hg (by decide)
 | 9, _ => exact absurd hg (by decide)
 | 10, _ => exact absurd hg (by decide)
 | 11, _ => exact absurd hg (by decide)
 | 12, _ => exact absurd hg (by decide)
 | 13, _ => exact (act32_13 h arg x y).mono fun e w' h => ⟨0, h.1, rfl, h.2⟩
 | 14, _ => exact absurd hg (by decide)
 | 15, _ =>
  obtain ⟨a0, a1⟩ := hF.plc (.inl rfl)
  obtain ⟨n, rfl⟩ : ∃ n : Nat, arg = (n : Int) := ⟨arg.toNat, by omega⟩
  exact (act32_15 h n x y).mono fun e w' h => ⟨0, h.1, rfl, h.2⟩
 | 16, _ =>
  obtain ⟨a0, a1⟩ := hF.plc (.inr rfl)
  obtain ⟨n, rfl⟩ : ∃ n : Nat, arg = (n : Int) := ⟨arg.toNat, by omega⟩
  exact (act32_16 h n x y).mono fun e w' h => ⟨0, h.1, rfl, h.2⟩
 | 17, _ =>
  obtain ⟨a0, a1⟩ := hF.nam (.inl rfl)
  obtain ⟨n, rfl⟩ : ∃ n : Nat, arg = (n : Int) := ⟨arg.toNat, by omega⟩
  obtain ⟨s, h1, h2, h3, h4⟩ := name_of hG (n := n) (by omega)
  exact (act32_17 hG.ok h n s h1 h4 x y l3).mono fun e w' h => by
   obtain ⟨c, hc, hs⟩ := h
   exact ⟨c, hc, send_act (by rw [if_pos rfl]; exact h2) (.inl rfl) h3 hs⟩
 | 18, _ =>
  exact (act32_18 h arg x y (by have := hG.fr; omega) l3).mono fun e w' h => by
   obtain ⟨c, hc, hs⟩ := h
   rcases hs with ⟨h1, rfl, h3⟩ | ⟨h1, h3⟩
   ·refine ⟨0, hc, ?_⟩
    show OuC B p k (actI B.pg B.l B.now m 18 0 arg x y) 0 w'
    unfold actI
    rw [if_neg (by omega), if_neg (by omega), if_neg (by omega), if_neg (by omega), if_neg (by omega), if_neg (by omega), if_neg (by omega), if_pos (by omega), if_pos (by rw [if_neg (by omega)]; exact h1)]
    exact ⟨rfl, h3⟩
   ·exact ⟨c, hc, send_act (by rw [if_neg (by omega)]) (.inr rfl) h1 h3⟩
 | 19, _ =>
  obtain ⟨a0, a1⟩ := hF.nam (.inr (.inl rfl))
  obtain ⟨n, rfl⟩ : ∃ n : Nat, arg = (n : Int) := ⟨arg.toNat, by omega⟩
  obtain ⟨s, h1, h2, h3, h4⟩ := name_of hG (n := n) (by omega)
  exact (act32_19 hG.ok h n s h1 h4 x y l2 hG.now).mono fun e w' h => by
   obtain ⟨c, hc, hs⟩ := h
   refine ⟨c, hc, ?_⟩
   show OuC B p k (actI B.pg B.l B.now m 19 0 (n : Int) x y) c w'
   unfold actI
   rw [if_neg (by omega), if_neg (by omega), if_neg (by omega), if_neg (by omega), if_neg (by omega), if_neg (by omega), if_neg (by omega), if_neg (by omega), if_pos rfl, Int.toNat_natCast, h2]
   unfold TimeP BadT at hs
   rcases hs with ⟨q1, rfl, q3⟩ | ⟨q1, rfl, q3⟩
   ·rw [if_pos q1]; exact ⟨rfl, m, q3⟩
   ·rw [if_neg q1]; exact ⟨rfl, q3⟩
 | 20, _ =>
  obtain ⟨a0, a1⟩ := hF.nam (.inr (.inr rfl))
  obtain ⟨n, rfl⟩ : ∃ n : Nat, arg = (n : Int) := ⟨arg.toNat, by omega⟩
  obtain ⟨s, h1, h2, h3, h4⟩ := name_of hG (n := n) (by omega)
  exact (act32_20 hG.ok h n s h1 h4 x y l2).mono fun e w' h => by
   refine ⟨0, h.1, ?_⟩
   show OuC B p k (actI B.pg B.l B.now m 20 0 (n : Int) x y) 0 w'
   unfold actI
   rw [if_neg (by omega), if_neg (by omega), if_neg (by omega), if_neg (by omega), if_neg (by omega), if_neg (by omega), if_neg (by omega), if_neg (by omega), if_neg (by omega), if_pos rfl, Int.toNat_natCast, h2]
   exact ⟨rfl, h.2⟩
 | 21, _ => exact (act32_21 h arg x y).mono fun e w' h => ⟨12, h.1, rfl, m, h.2⟩
 | 22, _ => exact absurd hg (by decide)
 | 23, _ => exact absurd hg (by decide)
 | n + 24, h => exact absurd h (by omega)
end
section
variable {w : World}
theorem word28_0 : Calls Tryz.prog 60 #[.int .i64 0] w fun e w' => e = .returned (.tuple #[.string ⟨(words.getD 0 default).1.toArray⟩, .int .i64 ((words.getD 0 default).2 : Int)]) ∧ w = w' := by
 go_enter Tryz.func60, Tryz.ntmps60
 go_wp2_with fail
 go_ret2
 exact ⟨rfl, rfl⟩
theorem word28_1 : Calls Tryz.prog 60 #[.int .i64 1] w fun e w' => e = .returned (.tuple #[.string ⟨(words.getD 1 default).1.toArray⟩, .int .i64 ((words.getD 1 default).2 : Int)]) ∧ w = w' := by
 go_enter Tryz.func60, Tryz.ntmps60
 go_wp2_with fail
 go_ret2
 exact ⟨rfl, rfl⟩
theorem word28_2 : Calls Tryz.prog 60 #[.int .i64 2] w fun e w' => e = .returned (.tuple #[.string ⟨(words.getD 2 default).1.toArray⟩, .int .i64 ((words.getD 2 default).2 : Int)]) ∧ w = w' := by
 go_enter Tryz.func60, Tryz.ntmps60
 go_wp2_with fail
 go_ret2
 exact ⟨rfl, rfl⟩
theorem word28_3 : Calls Tryz.prog 60 #[.int .i64 3] w fun e w' => e = .returned (.tuple #[.string ⟨(words.getD 3 default).1.toArray⟩, .int .i64 ((words.getD 3 default).2 : Int)]) ∧ w = w' := by
 go_enter Tryz.func60, Tryz.ntmps60
 go_wp2_with fail
 go_ret2
 exact ⟨rfl, rfl⟩
theorem word28_4 : Calls Tryz.prog 60 #[.int .i64 4] w fun e w' => e = .returned (.tuple #[.string ⟨(words.getD 4 default).1.toArray⟩, .int .i64 ((words.getD 4 default).2 : Int)]) ∧ w = w' := by
 go_enter Tryz.func60, Tryz.ntmps60
 go_wp2_with fail
 go_ret2
 exact ⟨rfl, rfl⟩
theorem word28_5 : Calls Tryz.prog 60 #[.int .i64 5] w fun e w' => e = .returned (.tuple #[.string ⟨(words.getD 5 default).1.toArray⟩, .int .i64 ((words.getD 5 default).2 : Int)]) ∧ w = w' := by
 go_enter Tryz.func60, Tryz.ntmps60
 go_wp2_with fail
 go_ret2
 exact ⟨rfl, rfl⟩
theorem word28_6 : Calls Tryz.prog 60 #[.int .i64 6] w fun e w' => e = .returned (.tuple #[.string ⟨(words.getD 6 default).1.toArray⟩, .int .i64 ((words.getD 6 default).2 : Int)]) ∧ w = w' := by
 go_enter Tryz.func60, Tryz.ntmps60
 go_wp2_with fail
 go_ret2
 exact ⟨rfl, rfl⟩
theorem word28_7 : Calls Tryz.prog 60 #[.int .i64 7] w fun e w' => e = .returned (.tuple #[.string ⟨(words.getD 7 default).1.toArray⟩, .int .i64 ((words.getD 7 default).2 : Int)]) ∧ w = w' := by
 go_enter Tryz.func60, Tryz.ntmps60
 go_wp2_with fail
 go_ret2
 exact ⟨rfl, rfl⟩
theorem word28_8 : Calls Tryz.prog 60 #[.int .i64 8] w fun e w' => e = .returned (.tuple #[.string ⟨(words.getD 8 default).1.toArray⟩, .int .i64 ((words.getD 8 default).2 : Int)]) ∧ w = w' := by
 go_enter Tryz.func60, Tryz.ntmps60
 go_wp2_with fail
 go_ret2
 exact ⟨rfl, rfl⟩
theorem word28_9 : Calls Tryz.prog 60 #[.int .i64 9] w fun e w' => e = .returned (.tuple #[.string ⟨(words.getD 9 default).1.toArray⟩, .int .i64 ((words.getD 9 default).2 : Int)]) ∧ w = w' := by
 go_enter Tryz.func60, Tryz.ntmps60
 go_wp2_with fail
 go_ret2
 exact ⟨rfl, rfl⟩
theorem word28_10 : Calls Tryz.prog 60 #[.int .i64 10] w fun e w' => e = .returned (.tuple #[.string ⟨(words.getD 10 default).1.toArray⟩, .int .i64 ((words.getD 10 default).2 : Int)]) ∧ w = w' := by
 go_enter Tryz.func60, Tryz.ntmps60
 go_wp2_with fail
 go_ret2
 exact ⟨rfl, rfl⟩
theorem word28_11 : Calls Tryz.prog 60 #[.int .i64 11] w fun e w' => e = .returned (.tuple #[.string ⟨(words.getD 11 default).1.toArray⟩, .int .i64 ((words.getD 11 default).2 : Int)]) ∧ w = w' := by
 go_enter Tryz.func60, Tryz.ntmps60
 go_wp2_with fail
 go_ret2
 exact ⟨rfl, rfl⟩
theorem word28_12 : Calls Tryz.prog 60 #[.int .i64 12] w fun e w' => e = .returned (.tuple #[.string ⟨(words.getD 12 default).1.toArray⟩, .int .i64 ((words.getD 12 default).2 : Int)]) ∧ w = w' := by
 go_enter Tryz.func60, Tryz.ntmps60
 go_wp2_with fail
 go_ret2
 exact ⟨rfl, rfl⟩
theorem word28_13 : Calls Tryz.prog 60 #[.int .i64 13] w fun e w' => e = .returned (.tuple #[.string ⟨(words.getD 13 default).1.toArray⟩, .int .i64 ((words.getD 13 default).2 : Int)]) ∧ w = w' := by
 go_enter Tryz.func60, Tryz.ntmps60
 go_wp2_with fail
 go_ret2
 exact ⟨rfl, rfl⟩
theorem word28_14 : Calls Tryz.prog 60 #[.int .i64 14] w fun e w' => e = .returned (.tuple #[.string ⟨(words.getD 14 default).1.toArray⟩, .int .i64 ((words.getD 14 default).2 : Int)]) ∧ w = w' := by
 go_enter Tryz.func60, Tryz.ntmps60
 go_wp2_with fail
 go_ret2
 exact ⟨rfl, rfl⟩
theorem word28_15 : Calls Tryz.prog 60 #[.int .i64 15] w fun e w' => e = .returned (.tuple #[.string ⟨(words.getD 15 default).1.toArray⟩, .int .i64 ((words.getD 15 default).2 : Int)]) ∧ w = w' := by
 go_enter Tryz.func60, Tryz.ntmps60
 go_wp2_with fail
 go_ret2
 exact ⟨rfl, rfl⟩
theorem word28_16 : Calls Tryz.prog 60 #[.int .i64 16] w fun e w' => e = .returned (.tuple #[.string ⟨(words.getD 16 default).1.toArray⟩, .int .i64 ((words.getD 16 default).2 : Int)]) ∧ w = w' := by
 go_enter Tryz.func60, Tryz.ntmps60
 go_wp2_with fail
 go_ret2
 exact ⟨rfl, rfl⟩
theorem word28_17 : Calls Tryz.prog 60 #[.int .i64 17] w fun e w' => e = .returned (.tuple #[.string ⟨(words.getD 17 default).1.toArray⟩, .int .i64 ((words.getD 17 default).2 : Int)]) ∧ w = w' := by
 go_enter Tryz.func60, Tryz.ntmps60
 go_wp2_with fail
 go_ret2
 exact ⟨rfl, rfl⟩
theorem word28_18 : Calls Tryz.prog 60 #[.int .i64 18] w fun e w' => e = .returned (.tuple #[.string ⟨(words.getD 18 default).1.toArray⟩, .int .i64 ((words.getD 18 default).2 : Int)]) ∧ w = w' := by
 go_enter Tryz.func60, Tryz.ntmps60
 go_wp2_with fail
 go_ret2
 exact ⟨rfl, rfl⟩
theorem word28_19 : Calls Tryz.prog 60 #[.int .i64 19] w fun e w' => e = .returned (.tuple #[.string ⟨(words.getD 19 default).1.toArray⟩, .int .i64 ((words.getD 19 default).2 : Int)]) ∧ w = w' := by
 go_enter Tryz.func60, Tryz.ntmps60
 go_wp2_with fail
 go_ret2
 exact ⟨rfl, rfl⟩
theorem word28_20 : Calls Tryz.prog 60 #[.int .i64 20] w fun e w' => e = .returned (.tuple #[.string ⟨(words.getD 20 default).1.toArray⟩, .int .i64 ((words.getD 20 default).2 : Int)]) ∧ w = w' := by
 go_enter Tryz.func60, Tryz.ntmps60
 go_wp2_with fail
 go_ret2
 exact ⟨rfl, rfl⟩
theorem word28_21 : Calls Tryz.prog 60 #[.int .i64 21] w fun e w' => e = .returned (.tuple #[.string ⟨(words.getD 21 default).1.toArray⟩, .int .i64 ((words.getD 21 default).2 : Int)]) ∧ w = w' := by
 go_enter Tryz.func60, Tryz.ntmps60
 go_wp2_with fail
 go_ret2
 exact ⟨rfl, rfl⟩
theorem word28_22 : Calls Tryz.prog 60 #[.int .i64 22] w fun e w' => e = .returned (.tuple #[.string ⟨(words.getD 22 default).1.toArray⟩, .int .i64 ((words.getD 22 default).2 : Int)]) ∧ w = w' := by
 go_enter Tryz.func60, Tryz.ntmps60
 go_wp2_with fail
 go_ret2
 exact ⟨rfl, rfl⟩
theorem word28_23 : Calls Tryz.prog 60 #[.int .i64 23] w fun e w' => e = .returned (.tuple #[.string ⟨(words.getD 23 default).1.toArray⟩, .int .i64 ((words.getD 23 default).2 : Int)]) ∧ w = w' := by
 go_enter Tryz.func60, Tryz.ntmps60
 go_wp2_with fail
 go_ret2
 exact ⟨rfl, rfl⟩
theorem word28 {i k : Nat} {s : List UInt8} (h : words[i]? = some (s, k)) : Calls Tryz.prog 60 #[.int .i64 (i : Int)] w fun e w' => e = .returned (.tuple #[.string ⟨s.toArray⟩, .int .i64 (k : Int)]) ∧ w = w' := by
 have hi : i < 24 := (List.getElem?_eq_some_iff.1 h).1
 have e : words.getD i default = (s, k) := by rw [List.getD_eq_getElem?_getD, h]; rfl
 have key : Calls Tryz.prog 60 #[.int .i64 (i : Int)] w fun e w' => e = .returned (.tuple #[.string ⟨(words.getD i default).1.toArray⟩, .int .i64 ((words.getD i default).2 : Int)]) ∧ w = w' := by
  clear e h
  match i, hi with
  | 0, _ => exact word28_0
  | 1, _ => exact word28_1
  | 2, _ => exact word28_2
  | 3, _ => exact word28_3
  | 4, _ => exact word28_4
  | 5, _ => exact word28_5
  | 6, _ => exact word28_6
  | 7, _ => exact word28_7
  | 8, _ => exact word28_8
  | 9, _ => exact word28_9
  | 10, _ => exact word28_10
  | 11, _ => exact word28_11
  | 12, _ => exact word28_12
  | 13, _ => exact word28_13
  | 14, _ => exact word28_14
  | 15, _ => exact word28_15
  | 16, _ => exact word28_16
  | 17, _ => exact word28_17
  | 18, _ => exact word28_18
  | 19, _ => exact word28_19
  | 20, _ => exact word28_20
  | 21, _ => exact word28_21
  | 22, _ => exact word28_22
  | 23, _ => exact word28_23
  | n + 24, h => exact absurd h (by omega)
 rw [e] at key
 exact key
theorem word28_out {x : Int} (h : x < 0 ∨ 24 ≤ x) : Calls Tryz.prog 60 #[.int .i64 x] w fun e w' => e = .returned (.tuple #[.string ⟨#[]⟩, .int .i64 0]) ∧ w = w' := by
 have t0 : (x == 0) = false := by simp; omega
 have t1 : (x == 1) = false := by simp; omega
 have t2 : (x == 2) = false := by simp; omega
 have t3 : (x == 3) = false := by simp; omega
 have t4 : (x == 4) = false := by simp; omega
 have t5 : (x == 5) = false := by simp; omega
 have t6 : (x == 6) = false := by simp; omega
 have t7 : (x == 7) = false := by simp; omega
 have t8 : (x == 8) = false := by simp; omega
 have t9 : (x == 9) = false := by simp; omega
 have t10 : (x == 10) = false := by simp; omega
 have t11 : (x == 11) = false := by simp; omega
 have t12 : (x == 12) = false := by simp; omega
 have t13 : (x == 13) = false := by simp; omega
 have t14 : (x == 14) = false := by simp; omega
 have t15 : (x == 15) = false := by simp; omega
 have t16 : (x == 16) = false := by simp; omega
 have t17 : (x == 17) = false := by simp; omega
 have t18 : (x == 18) = false := by simp; omega
 have t19 : (x == 19) = false := by simp; omega
 have t20 : (x == 20) = false := by simp; omega
 have t21 : (x == 21) = false := by simp; omega
 have t22 : (x == 22) = false := by simp; omega
 have t23 : (x == 23) = false := by simp; omega
 clear h
 go_enter Tryz.func60, Tryz.ntmps60
 go_wp2_with fail
 go_ret2
 exact ⟨rfl, rfl⟩
end
end Go.Proofs.YtngnenbidpojeaaGreatDoor
