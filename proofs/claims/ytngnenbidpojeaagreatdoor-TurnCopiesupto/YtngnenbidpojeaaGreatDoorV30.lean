import Derived.Deep.RegionHeld3
import Derived.Test.YtngnenbidpojeaaGreatDoorV29
/-
  The program's machine: act, operation by operation: where nothing goes out.
-/
namespace Go.Proofs.YtngnenbidpojeaaGreatDoor
open Go.RowKit
set_option maxRecDepth 100000
set_option linter.unusedVariables false
section
variable {B : Bs} {w w' : World} {p : Nat} {m : Mc} {k : Nat} {stk : List Int} {ev sn tm : Value}
theorem MS.c_at (h : MS B w p m k stk ev sn tm) : w.cell? ⟨p, 7, none⟩ = some (Iv_N (m.at_ : Int)) := h.rs.cell_pre rfl
/-- The place is set. -/
theorem MS.put_at (h : MS B w p m k stk ev sn tm) (n : Nat) : MSt B (w.setCell ⟨p, 7, none⟩ (Iv_N (n : Int))) p { m with at_ := n } k :=
  ⟨stk, ev, sn, tm, h.s16, h.top, h.rs.put_pre tyM_ok (Iv_N (n : Int)) (by rw [h.len]; omega) rfl⟩
theorem MS.c_code (hB : B.Ok) (h : MS B w p m k stk ev sn tm) : ∃ b d, w.cell? ⟨p, 1, none⟩ = some (.slice b B.pg.code.length d) ∧ B.cv = .slice b B.pg.code.length d := by
  obtain ⟨a, c, b, d, h1, h2, -⟩ := hB.prog.form
  exact ⟨b, d, by rw [← h2]; exact h.fix rfl, h2⟩
set_option maxHeartbeats 2000000 in
theorem act32_0 (hB : B.Ok) (h : MSt B w p m k) (arg x y : Int) : Calls Tryz.prog 127 #[.pointer (some ⟨p, 0, none⟩), .agg #[.int .i64 0, .int .i64 arg], .int .i64 x, .int .i64 y] w fun e w' => e = .returned (.int .i64 0) ∧ MSt B w' p { m with at_ := B.pg.code.length } k := by
  obtain ⟨W0, e0, k0, -, hb⟩ := box1 w (.cells #[.int .i64 0, .int .i64 arg] 83)
  obtain ⟨y0, y1⟩ := cells2_N hb
  obtain ⟨stk, ev, sn, tm, h⟩ := h.keep k0
  obtain ⟨b, d, c0, -⟩ := h.c_code hB
  have c1 := h.c_at
  have f1 := h.rs.free 7
  have HM := Hid.mk (h.put_at B.pg.code.length)
  clear h
  go_enter Tryz.func127, Tryz.ntmps127
  go_wp2_with fail
  go_ret
  exact ⟨rfl, HM.out⟩
set_option maxHeartbeats 2000000 in
theorem act32_13 (h : MSt B w p m k) (arg x y : Int) : Calls Tryz.prog 127 #[.pointer (some ⟨p, 0, none⟩), .agg #[.int .i64 13, .int .i64 arg], .int .i64 x, .int .i64 y] w fun e w' => e = .returned (.int .i64 0) ∧ MSt B w' p m k := by
  obtain ⟨W0, e0, k0, -, hb⟩ := box1 w (.cells #[.int .i64 13, .int .i64 arg] 83)
  obtain ⟨y0, y1⟩ := cells2_N hb
  have HM := Hid.mk (h.keep k0)
  clear h
  go_enter Tryz.func127, Tryz.ntmps127
  go_wp2_with fail
  go_ret
  exact ⟨rfl, HM.out⟩
set_option maxHeartbeats 2000000 in
theorem act32_21 (h : MSt B w p m k) (arg x y : Int) : Calls Tryz.prog 127 #[.pointer (some ⟨p, 0, none⟩), .agg #[.int .i64 21, .int .i64 arg], .int .i64 x, .int .i64 y] w fun e w' => e = .returned (.int .i64 12) ∧ MSt B w' p m k := by
  obtain ⟨W0, e0, k0, -, hb⟩ := box1 w (.cells #[.int .i64 21, .int .i64 arg] 83)
  obtain ⟨y0, y1⟩ := cells2_N hb
  have HM := Hid.mk (h.keep k0)
  clear h
  go_enter Tryz.func127, Tryz.ntmps127
  go_wp2_with fail
  go_ret
  exact ⟨rfl, HM.out⟩
set_option maxHeartbeats 2000000 in
theorem act32_3 (h : MSt B w p m k) (n : Nat) (hn : n ≤ 7) (x y : Int) (hl : m.ev.length ≤ 900) : Calls Tryz.prog 127 #[.pointer (some ⟨p, 0, none⟩), .agg #[.int .i64 3, .int .i64 (n : Int)], .int .i64 x, .int .i64 y] w fun e w' => e = .returned (.int .i64 0) ∧ MSt B w' p { m with reg := m.reg.set n x, ev := m.ev ++ [⟨n, x⟩] } k := by
  obtain ⟨W0, e0, k0, -, hb⟩ := box1 w (.cells #[.int .i64 3, .int .i64 (n : Int)] 83)
  obtain ⟨y0, y1⟩ := cells2_N hb
  have HC := Hid.mk (store44 (h.keep k0) n hn x hl)
  clear h
  go_enter Tryz.func127, Tryz.ntmps127
  go_wp2_with (go_at_call 148; refine HC.out.mono ?_; rintro e w1 ⟨rfl, h1⟩)
  go_ret
  exact ⟨rfl, h1⟩
set_option maxHeartbeats 2000000 in
theorem act32_15 (h : MSt B w p m k) (n : Nat) (x y : Int) : Calls Tryz.prog 127 #[.pointer (some ⟨p, 0, none⟩), .agg #[.int .i64 15, .int .i64 (n : Int)], .int .i64 x, .int .i64 y] w fun e w' => e = .returned (.int .i64 0) ∧ MSt B w' p { m with at_ := n } k := by
  obtain ⟨W0, e0, k0, -, hb⟩ := box1 w (.cells #[.int .i64 15, .int .i64 (n : Int)] 83)
  obtain ⟨y0, y1⟩ := cells2_N hb
  obtain ⟨stk, ev, sn, tm, h⟩ := h.keep k0
  have c1 := h.c_at
  have f1 := h.rs.free 7
  have HM := Hid.mk (h.put_at n)
  clear h
  go_enter Tryz.func127, Tryz.ntmps127
  go_wp2_with fail
  go_ret
  exact ⟨rfl, HM.out⟩
set_option maxHeartbeats 2000000 in
theorem act32_16 (h : MSt B w p m k) (n : Nat) (x y : Int) : Calls Tryz.prog 127 #[.pointer (some ⟨p, 0, none⟩), .agg #[.int .i64 16, .int .i64 (n : Int)], .int .i64 x, .int .i64 y] w fun e w' => e = .returned (.int .i64 0) ∧ MSt B w' p { m with at_ := if x = 0 then n else m.at_ } k := by
  obtain ⟨W0, e0, k0, -, hb⟩ := box1 w (.cells #[.int .i64 16, .int .i64 (n : Int)] 83)
  obtain ⟨y0, y1⟩ := cells2_N hb
  obtain ⟨stk, ev, sn, tm, h⟩ := h.keep k0
  have c1 := h.c_at
  have f1 := h.rs.free 7
  by_cases hx : x = 0
  · subst hx
    rw [if_pos rfl]
    have HM := Hid.mk (h.put_at n)
    clear h
    go_enter Tryz.func127, Tryz.ntmps127
    go_wp2_with fail
    go_ret
    exact ⟨rfl, HM.out⟩
  · rw [if_neg hx]
    have HM : Hid (MSt B W0 p m k) := ⟨_, _, _, _, h⟩
    have hx' : (x == 0) = false := by simpa using hx
    clear h
    go_enter Tryz.func127, Tryz.ntmps127
    go_wp2_with fail
    go_ret
    exact ⟨rfl, HM.out⟩
end
end Go.Proofs.YtngnenbidpojeaaGreatDoor
/-
  The program's machine: act, operation by operation: what goes out.
-/
namespace Go.Proofs.YtngnenbidpojeaaGreatDoor
open Go.RowKit
set_option maxRecDepth 100000
set_option linter.unusedVariables false
/-- What comes of sending: an error, or a letter more. -/
def SendP (B : Bs) (p : Nat) (m : Mc) (k : Nat) (to : List UInt8) (x y c : Int) (w' : World) : Prop := (m.sent.length = 4 ∧ c = 12 ∧ MSt B w' p m k) ∨ (m.sent.length < 4 ∧ c = 0 ∧ MSt B w' p { m with sent := m.sent ++ [⟨to, x, y⟩] } k)
/-- What comes of a reminder: an error, or one more. -/
def TimeP (B : Bs) (p : Nat) (m : Mc) (k : Nat) (s : List UInt8) (x y c : Int) (w' : World) : Prop := (BadT B.now x y ∧ c = 12 ∧ MSt B w' p m k) ∨ (¬ BadT B.now x y ∧ c = 0 ∧ MSt B w' p { m with tm := m.tm ++ [⟨s, false, B.now + x, y, B.l.kind⟩] } k)
section
variable {B : Bs} {w w' : World} {p : Nat} {m : Mc} {k : Nat} {stk : List Int} {ev sn tm : Value}
theorem send45_any (h : MSt B w p m k) (to : List UInt8) (kd x : Int) (hs : to.length ≤ 281474976710656) (h4 : m.sent.length ≤ 4) : Calls Tryz.prog 149 #[.pointer (some ⟨p, 0, none⟩), .string ⟨to.toArray⟩, .int .i64 kd, .int .i64 x] w fun e w' => ∃ c, e = .returned (.int .i64 c) ∧ SendP B p m k to kd x c w' :=
  (send45 h to kd x hs h4).mono fun e w' h => by
    rcases h with ⟨h1, h2, h3⟩ | ⟨h1, h2, h3⟩
    · exact ⟨12, h2, .inl ⟨h1, rfl, h3⟩⟩
    · exact ⟨0, h2, .inr ⟨h1, rfl, h3⟩⟩
/-- Where a name lies. -/
theorem MS.c_name (hB : B.Ok) (h : MS B w p m k stk ev sn tm) {n : Nat} {s : List UInt8} (hn : B.pg.names[n]? = some s) : ∃ b o c, w.cell? ⟨p, 0, none⟩ = some (.slice (some ⟨b, o, none⟩) B.pg.names.length c) ∧ w.cell? ⟨b, o + n, none⟩ = some (.string ⟨s.toArray⟩) := by
  obtain ⟨a, c, b, d, h1, h2, -⟩ := hB.prog.form
  have hN := (hB.prog.keep h.rs.kept).names
  rw [h1] at hN
  obtain ⟨hl, he⟩ := List.getElem?_eq_some_iff.1 hn
  obtain ⟨b, o, rfl, hc⟩ := names_at hN hl
  rw [he] at hc
  exact ⟨b, o, c, by rw [← h1]; exact h.fix rfl, hc⟩
set_option maxHeartbeats 4000000 in
theorem act32_17 (hB : B.Ok) (h : MSt B w p m k) (n : Nat) (s : List UInt8) (hn : B.pg.names[n]? = some s) (hs : s.length ≤ 281474976710656) (x y : Int) (h4 : m.sent.length ≤ 4) : Calls Tryz.prog 127 #[.pointer (some ⟨p, 0, none⟩), .agg #[.int .i64 17, .int .i64 (n : Int)], .int .i64 x, .int .i64 y] w fun e w' => ∃ c, e = .returned (.int .i64 c) ∧ SendP B p m k s x y c w' := by
  obtain ⟨W0, e0, k0, -, hb⟩ := box1 w (.cells #[.int .i64 17, .int .i64 (n : Int)] 83)
  obtain ⟨y0, y1⟩ := cells2_N hb
  have h0 := h.keep (k0.then (Kept.refl [] W0).drew)
  have HC := Hid.mk (send45_any h0 s x y hs h4)
  obtain ⟨stk, ev, sn, tm, h0⟩ := h0
  obtain ⟨b, o, c, c0, c1⟩ := h0.c_name hB hn
  have S1 : W0.drew.cell? ⟨w.heap.size, 1, none⟩ = some (.int .i64 (n : Int)) := y1
  have q0 : (0 : Int) ≤ (n : Int) := by omega
  have q1 : (n : Int) < (B.pg.names.length : Int) := by have := (List.getElem?_eq_some_iff.1 hn).1; omega
  clear h h0 hn h4 hs hB
  go_enter Tryz.func127, Tryz.ntmps127
  go_wp2_with fail
  go_region_law (go_simp; go_at_call 149; refine HC.out.mono ?_; rintro e w1 ⟨cc, rfl, r3⟩)
  all_goals
    go_wp2_with fail
    go_ret
    exact ⟨cc, rfl, r3⟩
set_option maxHeartbeats 4000000 in
theorem act32_18 (h : MSt B w p m k) (arg x y : Int) (hs : B.l.fr.length ≤ 281474976710656) (h4 : m.sent.length ≤ 4) : Calls Tryz.prog 127 #[.pointer (some ⟨p, 0, none⟩), .agg #[.int .i64 18, .int .i64 arg], .int .i64 x, .int .i64 y] w fun e w' => ∃ c, e = .returned (.int .i64 c) ∧ ((B.l.fr = [] ∧ c = 0 ∧ MSt B w' p m k) ∨ (B.l.fr ≠ [] ∧ SendP B p m k B.l.fr x y c w')) := by
  obtain ⟨W0, e0, k0, -, hb⟩ := box1 w (.cells #[.int .i64 18, .int .i64 arg] 83)
  obtain ⟨y0, y1⟩ := cells2_N hb
  have h0 := h.keep k0
  have HM := Hid.mk h0
  have HC := Hid.mk (send45_any h0 B.l.fr x y hs h4)
  obtain ⟨stk, ev, sn, tm, h0⟩ := h0
  have c0 : W0.cell? ⟨p, 2, none⟩ = some (.string ⟨B.l.fr.toArray⟩) := h0.fix rfl
  clear h h0 h4 hs
  by_cases hf : B.l.fr = []
  · have HF := Hid.mk hf
    rw [hf] at c0
    clear hf
    go_enter Tryz.func127, Tryz.ntmps127
    go_wp2_with fail
    go_ret
    exact ⟨0, rfl, .inl ⟨HF.out, rfl, HM.out⟩⟩
  · have HF := Hid.mk hf
    have hne : B.l.fr.isEmpty = false := by simpa using hf
    clear hf
    generalize B.l.fr = fr at *
    go_enter Tryz.func127, Tryz.ntmps127
    go_wp2_with (go_at_call 149; refine HC.out.mono ?_; rintro e w1 ⟨cc, rfl, r3⟩)
    go_ret
    exact ⟨cc, rfl, .inr ⟨HF.out, r3⟩⟩
set_option maxHeartbeats 4000000 in
theorem act32_19 (hB : B.Ok) (h : MSt B w p m k) (n : Nat) (s : List UInt8) (hn : B.pg.names[n]? = some s) (hs : s.length ≤ 281474976710656) (x y : Int) (hl : m.tm.length ≤ 900) (hnow : 0 ≤ B.now ∧ B.now ≤ 9223372036854775807) : Calls Tryz.prog 127 #[.pointer (some ⟨p, 0, none⟩), .agg #[.int .i64 19, .int .i64 (n : Int)], .int .i64 x, .int .i64 y] w fun e w' => ∃ c, e = .returned (.int .i64 c) ∧ TimeP B p m k s x y c w' := by
  obtain ⟨W0, e0, k0, -, hb⟩ := box1 w (.cells #[.int .i64 19, .int .i64 (n : Int)] 83)
  obtain ⟨y0, y1⟩ := cells2_N hb
  have h0 := h.keep (k0.then (Kept.refl [] W0).drew)
  have HC : Hid (Calls Tryz.prog 150 #[.pointer (some ⟨p, 0, none⟩), .string ⟨s.toArray⟩, .int .i64 x, .int .i64 y] W0.drew fun e w' => ∃ c, e = .returned (.int .i64 c) ∧ TimeP B p m k s x y c w') := by
    by_cases hb : BadT B.now x y
    · exact (remind46_bad h0 s x y hnow hb).mono fun e w' h => ⟨12, h.1, .inl ⟨hb, rfl, h.2⟩⟩
    · exact (remind46 h0 s x y hs hl hnow hb).mono fun e w' h => ⟨0, h.1, .inr ⟨hb, rfl, h.2⟩⟩
  obtain ⟨stk, ev, sn, tm, h0⟩ := h0
  obtain ⟨b, o, c, c0, c1⟩ := h0.c_name hB hn
  have S1 : W0.drew.cell? ⟨w.heap.size, 1, none⟩ = some (.int .i64 (n : Int)) := y1
  have q0 : (0 : Int) ≤ (n : Int) := by omega
  have q1 : (n : Int) < (B.pg.names.length : Int) := by have := (List.getElem?_eq_some_iff.1 hn).1; omega
  clear h h0 hn hs hB hl hnow
  go_enter Tryz.func127, Tryz.ntmps127
  go_wp2_with fail
  go_region_law (go_simp; go_at_call 150; refine HC.out.mono ?_; rintro e w1 ⟨cc, rfl, r3⟩)
  all_goals
    go_wp2_with fail
    go_ret
    exact ⟨cc, rfl, r3⟩
set_option maxHeartbeats 4000000 in
theorem act32_20 (hB : B.Ok) (h : MSt B w p m k) (n : Nat) (s : List UInt8) (hn : B.pg.names[n]? = some s) (hs : s.length ≤ 281474976710656) (x y : Int) (hl : m.tm.length ≤ 900) : Calls Tryz.prog 127 #[.pointer (some ⟨p, 0, none⟩), .agg #[.int .i64 20, .int .i64 (n : Int)], .int .i64 x, .int .i64 y] w fun e w' => e = .returned (.int .i64 0) ∧ MSt B w' p { m with tm := m.tm ++ [⟨s, true, 0, 0, 0⟩] } k := by
  obtain ⟨W0, e0, k0, -, hb⟩ := box1 w (.cells #[.int .i64 20, .int .i64 (n : Int)] 83)
  obtain ⟨y0, y1⟩ := cells2_N hb
  have h0 := h.keep (k0.then (Kept.refl [] W0).drew)
  have HC := Hid.mk (cancel47 h0 s hs hl)
  obtain ⟨stk, ev, sn, tm, h0⟩ := h0
  obtain ⟨b, o, c, c0, c1⟩ := h0.c_name hB hn
  have S1 : W0.drew.cell? ⟨w.heap.size, 1, none⟩ = some (.int .i64 (n : Int)) := y1
  have q0 : (0 : Int) ≤ (n : Int) := by omega
  have q1 : (n : Int) < (B.pg.names.length : Int) := by have := (List.getElem?_eq_some_iff.1 hn).1; omega
  clear h h0 hn hs hB hl
  go_enter Tryz.func127, Tryz.ntmps127
  go_wp2_with fail
  go_region_law (go_simp; go_at_call 151; refine HC.out.mono ?_; rintro e w1 ⟨rfl, r3⟩)
  all_goals
    go_wp2_with fail
    go_ret
    exact ⟨rfl, r3⟩
end
end Go.Proofs.YtngnenbidpojeaaGreatDoor
/-
  The program's machine: reckon, operation by operation.
-/
namespace Go.Proofs.YtngnenbidpojeaaGreatDoor
open Go.RowKit
set_option maxRecDepth 100000
set_option linter.unusedVariables false
theorem w64_wrap (z : Int) : wrap64 z = w64 z := by unfold w64; rw [IntKind.wrap_i64]; unfold wrap64; rfl
section
variable {B : Bs} {w w' : World} {p : Nat} {m : Mc} {k : Nat} {stk : List Int} {ev sn tm : Value}
set_option maxHeartbeats 2000000 in
theorem reckon31_1 (h : MSt B w p m k) (arg x y : Int) (hl : m.st.length + 1 ≤ 16) : Calls Tryz.prog 126 #[.pointer (some ⟨p, 0, none⟩), .agg #[.int .i64 1, .int .i64 arg], .int .i64 x, .int .i64 y] w fun e w' => e = .returned (.tuple #[]) ∧ MSt B w' p { m with st := m.st ++ [arg] } k := by
  obtain ⟨W0, e0, k0, -, hb⟩ := box1 w (.cells #[.int .i64 1, .int .i64 arg] 83)
  obtain ⟨y0, y1⟩ := cells2_N hb
  have HM := Hid.mk (h.keep k0)
  clear h
  go_enter Tryz.func126, Tryz.ntmps126
  go_wp2_with (go_at_call 145; refine (push41 HM.out _ (by omega)).mono ?_; rintro e w1 ⟨rfl, h1⟩)
  go_end0
  exact ⟨rfl, h1⟩
set_option maxHeartbeats 2000000 in
theorem reckon31_5 (h : MSt B w p m k) (arg x y : Int) (hl : m.st.length + 1 ≤ 16) : Calls Tryz.prog 126 #[.pointer (some ⟨p, 0, none⟩), .agg #[.int .i64 5, .int .i64 arg], .int .i64 x, .int .i64 y] w fun e w' => e = .returned (.tuple #[]) ∧ MSt B w' p { m with st := m.st ++ [B.l.kind] } k := by
  obtain ⟨W0, e0, k0, -, hb⟩ := box1 w (.cells #[.int .i64 5, .int .i64 arg] 83)
  obtain ⟨y0, y1⟩ := cells2_N hb
  have HM := Hid.mk (h.keep k0)
  obtain ⟨stk, ev, sn, tm, h'⟩ := HM.out
  have c0 : W0.cell? ⟨p, 4, none⟩ = some (.int .i64 B.l.kind) := h'.fix rfl
  clear h'
  clear h
  go_enter Tryz.func126, Tryz.ntmps126
  go_wp2_with (go_at_call 145; refine (push41 HM.out _ (by omega)).mono ?_; rintro e w1 ⟨rfl, h1⟩)
  go_end0
  exact ⟨rfl, h1⟩
set_option maxHeartbeats 2000000 in
theorem reckon31_22 (h : MSt B w p m k) (arg x y : Int) (hl : m.st.length + 1 ≤ 16) : Calls Tryz.prog 126 #[.pointer (some ⟨p, 0, none⟩), .agg #[.int .i64 22, .int .i64 arg], .int .i64 x, .int .i64 y] w fun e w' => e = .returned (.tuple #[]) ∧ MSt B w' p { m with st := m.st ++ [B.now] } k := by
  obtain ⟨W0, e0, k0, -, hb⟩ := box1 w (.cells #[.int .i64 22, .int .i64 arg] 83)
  obtain ⟨y0, y1⟩ := cells2_N hb
  have HM := Hid.mk (h.keep k0)
  obtain ⟨stk, ev, sn, tm, h'⟩ := HM.out
  have c0 : W0.cell? ⟨p, 6, none⟩ = some (.int .i64 B.now) := h'.fix rfl
  clear h'
  clear h
  go_enter Tryz.func126, Tryz.ntmps126
  go_wp2_with (go_at_call 145; refine (push41 HM.out _ (by omega)).mono ?_; rintro e w1 ⟨rfl, h1⟩)
  go_end0
  exact ⟨rfl, h1⟩
set_option maxHeartbeats 2000000 in
theorem reckon31_23 (h : MSt B w p m k) (arg x y : Int) (hl : m.st.length + 1 ≤ 16) : Calls Tryz.prog 126 #[.pointer (some ⟨p, 0, none⟩), .agg #[.int .i64 23, .int .i64 arg], .int .i64 x, .int .i64 y] w fun e w' => e = .returned (.tuple #[]) ∧ MSt B w' p { m with st := m.st ++ [w64 (B.l.ser : Int)] } k := by
  obtain ⟨W0, e0, k0, -, hb⟩ := box1 w (.cells #[.int .i64 23, .int .i64 arg] 83)
  obtain ⟨y0, y1⟩ := cells2_N hb
  have HM := Hid.mk (h.keep k0)
  obtain ⟨stk, ev, sn, tm, h'⟩ := HM.out
  have c0 : W0.cell? ⟨p, 3, none⟩ = some (.int .u64 (B.l.ser : Int)) := h'.fix rfl
  clear h'
  clear h
  go_enter Tryz.func126, Tryz.ntmps126
  go_wp2_with (go_at_call 145; refine (push41 HM.out _ (by omega)).mono ?_; rintro e w1 ⟨rfl, h1⟩)
  go_end0
  rw [w64_wrap] at h1
  exact ⟨rfl, h1⟩
set_option maxHeartbeats 2000000 in
theorem reckon31_6 (h : MSt B w p m k) (arg x y : Int) (hl : m.st.length + 1 ≤ 16) : Calls Tryz.prog 126 #[.pointer (some ⟨p, 0, none⟩), .agg #[.int .i64 6, .int .i64 arg], .int .i64 x, .int .i64 y] w fun e w' => e = .returned (.tuple #[]) ∧ MSt B w' p { m with st := m.st ++ [w64 (x + y)] } k := by
  obtain ⟨W0, e0, k0, -, hb⟩ := box1 w (.cells #[.int .i64 6, .int .i64 arg] 83)
  obtain ⟨y0, y1⟩ := cells2_N hb
  have HM := Hid.mk (h.keep k0)
  clear h
  go_enter Tryz.func126, Tryz.ntmps126
  go_wp2_with (go_at_call 145; refine (push41 HM.out _ (by omega)).mono ?_; rintro e w1 ⟨rfl, h1⟩)
  go_end0
  rw [w64_wrap] at h1
  exact ⟨rfl, h1⟩
set_option maxHeartbeats 2000000 in
theorem reckon31_7 (h : MSt B w p m k) (arg x y : Int) (hl : m.st.length + 1 ≤ 16) : Calls Tryz.prog 126 #[.pointer (some ⟨p, 0, none⟩), .agg #[.int .i64 7, .int .i64 arg], .int .i64 x, .int .i64 y] w fun e w' => e = .returned (.tuple #[]) ∧ MSt B w' p { m with st := m.st ++ [w64 (x - y)] } k := by
  obtain ⟨W0, e0, k0, -, hb⟩ := box1 w (.cells #[.int .i64 7, .int .i64 arg] 83)
  obtain ⟨y0, y1⟩ := cells2_N hb
  have HM := Hid.mk (h.keep k0)
  clear h
  go_enter Tryz.func126, Tryz.ntmps126
  go_wp2_with (go_at_call 145; refine (push41 HM.out _ (by omega)).mono ?_; rintro e w1 ⟨rfl, h1⟩)
  go_end0
  rw [w64_wrap] at h1
  exact ⟨rfl, h1⟩
set_option maxHeartbeats 2000000 in
theorem reckon31_8 (h : MSt B w p m k) (arg x y : Int) (hl : m.st.length + 1 ≤ 16) : Calls Tryz.prog 126 #[.pointer (some ⟨p, 0, none⟩), .agg #[.int .i64 8, .int .i64 arg], .int .i64 x, .int .i64 y] w fun e w' => e = .returned (.tuple #[]) ∧ MSt B w' p { m with st := m.st ++ [w64 (x * y)] } k := by
  obtain ⟨W0, e0, k0, -, hb⟩ := box1 w (.cells #[.int .i64 8, .int .i64 arg] 83)
  obtain ⟨y0, y1⟩ := cells2_N hb
  have HM := Hid.mk (h.keep k0)
  clear h
  go_enter Tryz.func126, Tryz.ntmps126
  go_wp2_with (go_at_call 145; refine (push41 HM.out _ (by omega)).mono ?_; rintro e w1 ⟨rfl, h1⟩)
  go_end0
  rw [w64_wrap] at h1
  exact ⟨rfl, h1⟩
set_option maxHeartbeats 2000000 in
theorem reckon31_9 (h : MSt B w p m k) (arg x y : Int) (hl : m.st.length + 1 ≤ 16) : Calls Tryz.prog 126 #[.pointer (some ⟨p, 0, none⟩), .agg #[.int .i64 9, .int .i64 arg], .int .i64 x, .int .i64 y] w fun e w' => e = .returned (.tuple #[]) ∧ MSt B w' p { m with st := m.st ++ [if x < y then 1 else 0] } k := by
  obtain ⟨W0, e0, k0, -, hb⟩ := box1 w (.cells #[.int .i64 9, .int .i64 arg] 83)
  obtain ⟨y0, y1⟩ := cells2_N hb
  have HM := Hid.mk (h.keep k0)
  clear h
  go_enter Tryz.func126, Tryz.ntmps126
  go_wp2_with (first | (go_at_call 147; refine (truth43 _).mono ?_; rintro e w9 ⟨rfl, rfl⟩) | (go_at_call 145; refine (push41 HM.out _ (by omega)).mono ?_; rintro e w1 ⟨rfl, h1⟩))
  all_goals go_end0
  all_goals exact ⟨rfl, by first | (simpa [show x < y by omega] using h1) | (simpa [show ¬ x < y by omega] using h1)⟩
set_option maxHeartbeats 2000000 in
theorem reckon31_10 (h : MSt B w p m k) (arg x y : Int) (hl : m.st.length + 1 ≤ 16) : Calls Tryz.prog 126 #[.pointer (some ⟨p, 0, none⟩), .agg #[.int .i64 10, .int .i64 arg], .int .i64 x, .int .i64 y] w fun e w' => e = .returned (.tuple #[]) ∧ MSt B w' p { m with st := m.st ++ [if x = y then 1 else 0] } k := by
  obtain ⟨W0, e0, k0, -, hb⟩ := box1 w (.cells #[.int .i64 10, .int .i64 arg] 83)
  obtain ⟨y0, y1⟩ := cells2_N hb
  have HM := Hid.mk (h.keep k0)
  clear h
  go_enter Tryz.func126, Tryz.ntmps126
  go_wp2_with (first | (go_at_call 147; refine (truth43 _).mono ?_; rintro e w9 ⟨rfl, rfl⟩) | (go_at_call 145; refine (push41 HM.out _ (by omega)).mono ?_; rintro e w1 ⟨rfl, h1⟩))
  all_goals go_end0
  all_goals exact ⟨rfl, by first | (simpa [show x = y by omega] using h1) | (simpa [show ¬ x = y by omega] using h1)⟩
set_option maxHeartbeats 2000000 in
theorem reckon31_11 (h : MSt B w p m k) (arg x y : Int) (hl : m.st.length + 1 ≤ 16) : Calls Tryz.prog 126 #[.pointer (some ⟨p, 0, none⟩), .agg #[.int .i64 11, .int .i64 arg], .int .i64 x, .int .i64 y] w fun e w' => e = .returned (.tuple #[]) ∧ MSt B w' p { m with st := m.st ++ [if x = 0 then 1 else 0] } k := by
  obtain ⟨W0, e0, k0, -, hb⟩ := box1 w (.cells #[.int .i64 11, .int .i64 arg] 83)
  obtain ⟨y0, y1⟩ := cells2_N hb
  have HM := Hid.mk (h.keep k0)
  clear h
  go_enter Tryz.func126, Tryz.ntmps126
  go_wp2_with (first | (go_at_call 147; refine (truth43 _).mono ?_; rintro e w9 ⟨rfl, rfl⟩) | (go_at_call 145; refine (push41 HM.out _ (by omega)).mono ?_; rintro e w1 ⟨rfl, h1⟩))
  all_goals go_end0
  all_goals exact ⟨rfl, by first | (simpa [show x = 0 by omega] using h1) | (simpa [show ¬ x = 0 by omega] using h1)⟩
set_option maxHeartbeats 2000000 in
theorem reckon31_4 (h : MSt B w p m k) (arg x y : Int) (hB : B.Ok) (h0 : 0 ≤ arg ∧ arg ≤ 7) (hl : m.st.length + 1 ≤ 16) : Calls Tryz.prog 126 #[.pointer (some ⟨p, 0, none⟩), .agg #[.int .i64 4, .int .i64 arg], .int .i64 x, .int .i64 y] w fun e w' => e = .returned (.tuple #[]) ∧ MSt B w' p { m with st := m.st ++ [B.l.args.getD arg.toNat 0] } k := by
  obtain ⟨W0, e0, k0, -, hb⟩ := box1 w (.cells #[.int .i64 4, .int .i64 arg] 83)
  obtain ⟨y0, y1⟩ := cells2_N hb
  have HM := Hid.mk (h.keep k0)
  obtain ⟨n, rfl⟩ : ∃ n : Nat, arg = (n : Int) := ⟨arg.toNat, by omega⟩
  rw [Int.toNat_natCast]
  clear h
  go_enter Tryz.func126, Tryz.ntmps126
  go_wp2_with (first | (go_at_call 146; refine (argument42 hB HM.out n (by omega)).mono ?_; rintro e w9 ⟨rfl, rfl⟩) | (go_at_call 145; refine (push41 HM.out _ (by omega)).mono ?_; rintro e w1 ⟨rfl, h1⟩))
  go_end0
  exact ⟨rfl, h1⟩
set_option maxHeartbeats 2000000 in
theorem reckon31_2 (h : MSt B w p m k) (arg x y : Int) (h0 : 0 ≤ arg ∧ arg ≤ 7) (hl : m.st.length + 1 ≤ 16) : Calls Tryz.prog 126 #[.pointer (some ⟨p, 0, none⟩), .agg #[.int .i64 2, .int .i64 arg], .int .i64 x, .int .i64 y] w fun e w' => e = .returned (.tuple #[]) ∧ MSt B w' p { m with st := m.st ++ [m.reg.getD arg.toNat 0] } k := by
  obtain ⟨W0, e0, k0, -, hb⟩ := box1 w (.cells #[.int .i64 2, .int .i64 arg] 83)
  obtain ⟨y0, y1⟩ := cells2_N hb
  have HM := Hid.mk (h.keep k0)
  obtain ⟨n, rfl⟩ : ∃ n : Nat, arg = (n : Int) := ⟨arg.toNat, by omega⟩
  rw [Int.toNat_natCast]
  obtain ⟨stk, ev, sn, tm, h'⟩ := HM.out
  have hg : m.reg[n]? = some (m.reg.getD n 0) := by rw [List.getElem?_eq_getElem (by rw [h'.rs.r8]; omega)]; simp [List.getElem?_eq_getElem (show n < m.reg.length by rw [h'.rs.r8]; omega)]
  have c0 : W0.drew.cell? ⟨p, 25 + n, none⟩ = some (Iv_N (m.reg.getD n 0)) := h'.rs.cell_res (by rw [h'.len]) (cellsR_reg hg)
  have S1 : W0.drew.cell? ⟨w.heap.size, 1, none⟩ = some (.int .i64 (n : Int)) := y1
  have q0 : (0 : Int) ≤ (n : Int) := by omega
  have q1 : (n : Int) < 8 := by omega
  have HD := Hid.mk (HM.out.keep (Kept.refl [] W0).drew)
  clear h' hg h0
  generalize m.reg.getD n 0 = v at *
  clear h
  go_enter Tryz.func126, Tryz.ntmps126
  go_wp2_with fail
  go_region_law (go_simp; go_at_call 145; refine (push41 HD.out v (by omega)).mono ?_; rintro e w1 ⟨rfl, h1⟩)
  go_wp2_with fail
  go_end0
  exact ⟨rfl, h1⟩
set_option maxHeartbeats 2000000 in
theorem reckon31_12 (h : MSt B w p m k) (arg x y : Int) (hl : m.st.length + 2 ≤ 16) : Calls Tryz.prog 126 #[.pointer (some ⟨p, 0, none⟩), .agg #[.int .i64 12, .int .i64 arg], .int .i64 x, .int .i64 y] w fun e w' => e = .returned (.tuple #[]) ∧ MSt B w' p { m with st := m.st ++ [x, x] } k := by
  obtain ⟨W0, e0, k0, -, hb⟩ := box1 w (.cells #[.int .i64 12, .int .i64 arg] 83)
  obtain ⟨y0, y1⟩ := cells2_N hb
  have HM := Hid.mk (h.keep k0)
  clear h
  go_enter Tryz.func126, Tryz.ntmps126
  go_wp2_with (first | (go_at_call 145; with_reducible refine (push41 HM.out _ (by omega)).mono ?_; rintro e w1 ⟨rfl, h1⟩) | (go_at_call 145; refine (push41 h1 _ (by simp; omega)).mono ?_; rintro e w2 ⟨rfl, h2⟩))
  simp only [List.append_assoc, List.singleton_append] at h2
  go_end0
  exact ⟨rfl, h2⟩
set_option maxHeartbeats 2000000 in
theorem reckon31_14 (h : MSt B w p m k) (arg x y : Int) (hl : m.st.length + 2 ≤ 16) : Calls Tryz.prog 126 #[.pointer (some ⟨p, 0, none⟩), .agg #[.int .i64 14, .int .i64 arg], .int .i64 x, .int .i64 y] w fun e w' => e = .returned (.tuple #[]) ∧ MSt B w' p { m with st := m.st ++ [y, x] } k := by
  obtain ⟨W0, e0, k0, -, hb⟩ := box1 w (.cells #[.int .i64 14, .int .i64 arg] 83)
  obtain ⟨y0, y1⟩ := cells2_N hb
  have HM := Hid.mk (h.keep k0)
  clear h
  go_enter Tryz.func126, Tryz.ntmps126
  go_wp2_with (first | (go_at_call 145; with_reducible refine (push41 HM.out _ (by omega)).mono ?_; rintro e w1 ⟨rfl, h1⟩) | (go_at_call 145; refine (push41 h1 _ (by simp; omega)).mono ?_; rintro e w2 ⟨rfl, h2⟩))
  simp only [List.append_assoc, List.singleton_append] at h2
  go_end0
  exact ⟨rfl, h2⟩
end
end Go.Proofs.YtngnenbidpojeaaGreatDoor
