/-
  The program's machine: act, operation by operation: what goes out.
-/
import Derived.Test.YtpodoiichpnpjaaDoorMl
import Derived.Test.YtpodoiichpnpjaaDoorMa
namespace Go.Proofs.YtpodoiichpnpjaaDoor
open Go.RowKit
set_option maxRecDepth 100000
set_option linter.unusedVariables false
/-- What comes of sending: an error, or a letter more. -/
def SendP (B : Bs) (p : Nat) (m : Mc) (k : Nat) (to : List UInt8) (x y c : Int) (w' : World) : Prop := (m.sent.length = 4 ∧ c = 12 ∧ MSt B w' p m k) ∨ (m.sent.length < 4 ∧ c = 0 ∧ MSt B w' p { m with sent := m.sent ++ [⟨to, x, y⟩] } k)
/-- What comes of a reminder: an error, or one more. -/
def TimeP (B : Bs) (p : Nat) (m : Mc) (k : Nat) (s : List UInt8) (x y c : Int) (w' : World) : Prop := (BadT B.now x y ∧ c = 12 ∧ MSt B w' p m k) ∨ (¬ BadT B.now x y ∧ c = 0 ∧ MSt B w' p { m with tm := m.tm ++ [⟨s, false, B.now + x, y, B.l.kind⟩] } k)
section
variable {B : Bs} {w w' : World} {p : Nat} {m : Mc} {k : Nat} {stk : List Int} {ev sn tm : Value}
theorem send45_any (h : MSt B w p m k) (to : List UInt8) (kd x : Int) (hs : to.length ≤ 281474976710656) (h4 : m.sent.length ≤ 4) : Calls Tryd.prog 45 #[.pointer (some ⟨p, 0, none⟩), .string ⟨to.toArray⟩, .int .i64 kd, .int .i64 x] w fun e w' => ∃ c, e = .returned (.int .i64 c) ∧ SendP B p m k to kd x c w' :=
  (send45 h to kd x hs h4).mono fun e w' h => by
    rcases h with ⟨h1, h2, h3⟩ | ⟨h1, h2, h3⟩
    · exact ⟨12, h2, .inl ⟨h1, rfl, h3⟩⟩
    · exact ⟨0, h2, .inr ⟨h1, rfl, h3⟩⟩
/-- Where a name lies. -/
theorem MS.c_name (hB : B.Ok) (h : MS B w p m k stk ev sn tm) {n : Nat} {s : List UInt8} (hn : B.pg.names[n]? = some s) : ∃ b o c, w.cell? ⟨p, 0, none⟩ = some (.slice (some ⟨b, o, none⟩) B.pg.names.length c) ∧ w.cell? ⟨b, o + n, none⟩ = some (.string ⟨s.toArray⟩) := by
  obtain ⟨a, c, b, d, h1, h2, -⟩ := hB.prog.form
  have hN := (hB.prog.keep h.rs.kept).names
  rw [h1] at hN
  obtain ⟨hl, he⟩ := List.getElem?_eq_some_iff.1 hn
  obtain ⟨b, o, rfl, hc⟩ := names_at hN hl
  rw [he] at hc
  exact ⟨b, o, c, by rw [← h1]; exact h.fix rfl, hc⟩
set_option maxHeartbeats 4000000 in
theorem act32_17 (hB : B.Ok) (h : MSt B w p m k) (n : Nat) (s : List UInt8) (hn : B.pg.names[n]? = some s) (hs : s.length ≤ 281474976710656) (x y : Int) (h4 : m.sent.length ≤ 4) : Calls Tryd.prog 32 #[.pointer (some ⟨p, 0, none⟩), .agg #[.int .i64 17, .int .i64 (n : Int)], .int .i64 x, .int .i64 y] w fun e w' => ∃ c, e = .returned (.int .i64 c) ∧ SendP B p m k s x y c w' := by
  obtain ⟨W0, e0, k0, -, hb⟩ := box1 w (.cells #[.int .i64 17, .int .i64 (n : Int)] 60)
  obtain ⟨y0, y1⟩ := cells2 hb
  have h0 := h.keep (k0.then (Kept.refl [] W0).drew)
  have HC := Hid.mk (send45_any h0 s x y hs h4)
  obtain ⟨stk, ev, sn, tm, h0⟩ := h0
  obtain ⟨b, o, c, c0, c1⟩ := h0.c_name hB hn
  have S1 : W0.drew.cell? ⟨w.heap.size, 1, none⟩ = some (.int .i64 (n : Int)) := y1
  have q0 : (0 : Int) ≤ (n : Int) := by omega
  have q1 : (n : Int) < (B.pg.names.length : Int) := by have := (List.getElem?_eq_some_iff.1 hn).1; omega
  clear h h0 hn h4 hs hB
  go_enter Tryd.func32, Tryd.ntmps32
  go_wp2_with fail
  go_region_law (go_simp; go_at_call 45; refine HC.out.mono ?_; rintro e w1 ⟨cc, rfl, r3⟩)
  all_goals
    go_wp2_with fail
    go_ret
    exact ⟨cc, rfl, r3⟩
set_option maxHeartbeats 4000000 in
theorem act32_18 (h : MSt B w p m k) (arg x y : Int) (hs : B.l.fr.length ≤ 281474976710656) (h4 : m.sent.length ≤ 4) : Calls Tryd.prog 32 #[.pointer (some ⟨p, 0, none⟩), .agg #[.int .i64 18, .int .i64 arg], .int .i64 x, .int .i64 y] w fun e w' => ∃ c, e = .returned (.int .i64 c) ∧ ((B.l.fr = [] ∧ c = 0 ∧ MSt B w' p m k) ∨ (B.l.fr ≠ [] ∧ SendP B p m k B.l.fr x y c w')) := by
  obtain ⟨W0, e0, k0, -, hb⟩ := box1 w (.cells #[.int .i64 18, .int .i64 arg] 60)
  obtain ⟨y0, y1⟩ := cells2 hb
  have h0 := h.keep k0
  have HM := Hid.mk h0
  have HC := Hid.mk (send45_any h0 B.l.fr x y hs h4)
  obtain ⟨stk, ev, sn, tm, h0⟩ := h0
  have c0 : W0.cell? ⟨p, 2, none⟩ = some (.string ⟨B.l.fr.toArray⟩) := h0.fix rfl
  clear h h0 h4 hs
  by_cases hf : B.l.fr = []
  · have HF := Hid.mk hf
    rw [hf] at c0
    clear hf
    go_enter Tryd.func32, Tryd.ntmps32
    go_wp2_with fail
    go_ret
    exact ⟨0, rfl, .inl ⟨HF.out, rfl, HM.out⟩⟩
  · have HF := Hid.mk hf
    have hne : B.l.fr.isEmpty = false := by simpa using hf
    clear hf
    generalize B.l.fr = fr at *
    go_enter Tryd.func32, Tryd.ntmps32
    go_wp2_with (go_at_call 45; refine HC.out.mono ?_; rintro e w1 ⟨cc, rfl, r3⟩)
    go_ret
    exact ⟨cc, rfl, .inr ⟨HF.out, r3⟩⟩
set_option maxHeartbeats 4000000 in
theorem act32_19 (hB : B.Ok) (h : MSt B w p m k) (n : Nat) (s : List UInt8) (hn : B.pg.names[n]? = some s) (hs : s.length ≤ 281474976710656) (x y : Int) (hl : m.tm.length ≤ 900) (hnow : 0 ≤ B.now ∧ B.now ≤ 9223372036854775807) : Calls Tryd.prog 32 #[.pointer (some ⟨p, 0, none⟩), .agg #[.int .i64 19, .int .i64 (n : Int)], .int .i64 x, .int .i64 y] w fun e w' => ∃ c, e = .returned (.int .i64 c) ∧ TimeP B p m k s x y c w' := by
  obtain ⟨W0, e0, k0, -, hb⟩ := box1 w (.cells #[.int .i64 19, .int .i64 (n : Int)] 60)
  obtain ⟨y0, y1⟩ := cells2 hb
  have h0 := h.keep (k0.then (Kept.refl [] W0).drew)
  have HC : Hid (Calls Tryd.prog 46 #[.pointer (some ⟨p, 0, none⟩), .string ⟨s.toArray⟩, .int .i64 x, .int .i64 y] W0.drew fun e w' => ∃ c, e = .returned (.int .i64 c) ∧ TimeP B p m k s x y c w') := by
    by_cases hb : BadT B.now x y
    · exact (remind46_bad h0 s x y hnow hb).mono fun e w' h => ⟨12, h.1, .inl ⟨hb, rfl, h.2⟩⟩
    · exact (remind46 h0 s x y hs hl hnow hb).mono fun e w' h => ⟨0, h.1, .inr ⟨hb, rfl, h.2⟩⟩
  obtain ⟨stk, ev, sn, tm, h0⟩ := h0
  obtain ⟨b, o, c, c0, c1⟩ := h0.c_name hB hn
  have S1 : W0.drew.cell? ⟨w.heap.size, 1, none⟩ = some (.int .i64 (n : Int)) := y1
  have q0 : (0 : Int) ≤ (n : Int) := by omega
  have q1 : (n : Int) < (B.pg.names.length : Int) := by have := (List.getElem?_eq_some_iff.1 hn).1; omega
  clear h h0 hn hs hB hl hnow
  go_enter Tryd.func32, Tryd.ntmps32
  go_wp2_with fail
  go_region_law (go_simp; go_at_call 46; refine HC.out.mono ?_; rintro e w1 ⟨cc, rfl, r3⟩)
  all_goals
    go_wp2_with fail
    go_ret
    exact ⟨cc, rfl, r3⟩
set_option maxHeartbeats 4000000 in
theorem act32_20 (hB : B.Ok) (h : MSt B w p m k) (n : Nat) (s : List UInt8) (hn : B.pg.names[n]? = some s) (hs : s.length ≤ 281474976710656) (x y : Int) (hl : m.tm.length ≤ 900) : Calls Tryd.prog 32 #[.pointer (some ⟨p, 0, none⟩), .agg #[.int .i64 20, .int .i64 (n : Int)], .int .i64 x, .int .i64 y] w fun e w' => e = .returned (.int .i64 0) ∧ MSt B w' p { m with tm := m.tm ++ [⟨s, true, 0, 0, 0⟩] } k := by
  obtain ⟨W0, e0, k0, -, hb⟩ := box1 w (.cells #[.int .i64 20, .int .i64 (n : Int)] 60)
  obtain ⟨y0, y1⟩ := cells2 hb
  have h0 := h.keep (k0.then (Kept.refl [] W0).drew)
  have HC := Hid.mk (cancel47 h0 s hs hl)
  obtain ⟨stk, ev, sn, tm, h0⟩ := h0
  obtain ⟨b, o, c, c0, c1⟩ := h0.c_name hB hn
  have S1 : W0.drew.cell? ⟨w.heap.size, 1, none⟩ = some (.int .i64 (n : Int)) := y1
  have q0 : (0 : Int) ≤ (n : Int) := by omega
  have q1 : (n : Int) < (B.pg.names.length : Int) := by have := (List.getElem?_eq_some_iff.1 hn).1; omega
  clear h h0 hn hs hB hl
  go_enter Tryd.func32, Tryd.ntmps32
  go_wp2_with fail
  go_region_law (go_simp; go_at_call 47; refine HC.out.mono ?_; rintro e w1 ⟨rfl, r3⟩)
  all_goals
    go_wp2_with fail
    go_ret
    exact ⟨rfl, r3⟩
end
end Go.Proofs.YtpodoiichpnpjaaDoor
