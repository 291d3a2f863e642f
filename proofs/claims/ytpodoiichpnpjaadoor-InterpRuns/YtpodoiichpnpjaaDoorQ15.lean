import Derived.Deep.RegionHeld3
import Derived.Test.YtpodoiichpnpjaaDoorQ10
import Derived.Test.YtpodoiichpnpjaaDoorQ11
import Derived.Test.YtpodoiichpnpjaaDoorQ14
/-
  The program's machine: act, operation by operation: where nothing goes out.
-/
namespace Go.Proofs.YtpodoiichpnpjaaDoor
open Go.RowKit
set_option maxRecDepth 100000
set_option linter.unusedVariables false
section
variable {B : Bs} {w w' : World} {p : Nat} {m : Mc} {k : Nat} {stk : List Int} {ev sn tm : Value}
theorem MS.c_at (h : MS B w p m k stk ev sn tm) : w.cell? ⟨p, 7, none⟩ = some (Iv (m.at_ : Int)) := h.rs.cell_pre rfl
/-- The place is set. -/
theorem MS.put_at (h : MS B w p m k stk ev sn tm) (n : Nat) : MSt B (w.setCell ⟨p, 7, none⟩ (Iv (n : Int))) p { m with at_ := n } k :=
  ⟨stk, ev, sn, tm, h.s16, h.top, h.rs.put_pre tyM_ok (Iv (n : Int)) (by rw [h.len]; omega) rfl⟩
theorem MS.c_code (hB : B.Ok) (h : MS B w p m k stk ev sn tm) : ∃ b d, w.cell? ⟨p, 1, none⟩ = some (.slice b B.pg.code.length d) ∧ B.cv = .slice b B.pg.code.length d := by
  obtain ⟨a, c, b, d, h1, h2, -⟩ := hB.prog.form
  exact ⟨b, d, by rw [← h2]; exact h.fix rfl, h2⟩
set_option maxHeartbeats 2000000 in
theorem act32_0 (hB : B.Ok) (h : MSt B w p m k) (arg x y : Int) : Calls Tryd.prog 32 #[.pointer (some ⟨p, 0, none⟩), .agg #[.int .i64 0, .int .i64 arg], .int .i64 x, .int .i64 y] w fun e w' => e = .returned (.int .i64 0) ∧ MSt B w' p { m with at_ := B.pg.code.length } k := by
  obtain ⟨W0, e0, k0, -, hb⟩ := box1 w (.cells #[.int .i64 0, .int .i64 arg] 60)
  obtain ⟨y0, y1⟩ := cells2 hb
  obtain ⟨stk, ev, sn, tm, h⟩ := h.keep k0
  obtain ⟨b, d, c0, -⟩ := h.c_code hB
  have c1 := h.c_at
  have f1 := h.rs.free 7
  have HM := Hid.mk (h.put_at B.pg.code.length)
  clear h
  go_enter Tryd.func32, Tryd.ntmps32
  go_wp2_with fail
  go_ret
  exact ⟨rfl, HM.out⟩
set_option maxHeartbeats 2000000 in
theorem act32_13 (h : MSt B w p m k) (arg x y : Int) : Calls Tryd.prog 32 #[.pointer (some ⟨p, 0, none⟩), .agg #[.int .i64 13, .int .i64 arg], .int .i64 x, .int .i64 y] w fun e w' => e = .returned (.int .i64 0) ∧ MSt B w' p m k := by
  obtain ⟨W0, e0, k0, -, hb⟩ := box1 w (.cells #[.int .i64 13, .int .i64 arg] 60)
  obtain ⟨y0, y1⟩ := cells2 hb
  have HM := Hid.mk (h.keep k0)
  clear h
  go_enter Tryd.func32, Tryd.ntmps32
  go_wp2_with fail
  go_ret
  exact ⟨rfl, HM.out⟩
set_option maxHeartbeats 2000000 in
theorem act32_21 (h : MSt B w p m k) (arg x y : Int) : Calls Tryd.prog 32 #[.pointer (some ⟨p, 0, none⟩), .agg #[.int .i64 21, .int .i64 arg], .int .i64 x, .int .i64 y] w fun e w' => e = .returned (.int .i64 12) ∧ MSt B w' p m k := by
  obtain ⟨W0, e0, k0, -, hb⟩ := box1 w (.cells #[.int .i64 21, .int .i64 arg] 60)
  obtain ⟨y0, y1⟩ := cells2 hb
  have HM := Hid.mk (h.keep k0)
  clear h
  go_enter Tryd.func32, Tryd.ntmps32
  go_wp2_with fail
  go_ret
  exact ⟨rfl, HM.out⟩
set_option maxHeartbeats 2000000 in
theorem act32_3 (h : MSt B w p m k) (n : Nat) (hn : n ≤ 7) (x y : Int) (hl : m.ev.length ≤ 900) : Calls Tryd.prog 32 #[.pointer (some ⟨p, 0, none⟩), .agg #[.int .i64 3, .int .i64 (n : Int)], .int .i64 x, .int .i64 y] w fun e w' => e = .returned (.int .i64 0) ∧ MSt B w' p { m with reg := m.reg.set n x, ev := m.ev ++ [⟨n, x⟩] } k := by
  obtain ⟨W0, e0, k0, -, hb⟩ := box1 w (.cells #[.int .i64 3, .int .i64 (n : Int)] 60)
  obtain ⟨y0, y1⟩ := cells2 hb
  have HC := Hid.mk (store44 (h.keep k0) n hn x hl)
  clear h
  go_enter Tryd.func32, Tryd.ntmps32
  go_wp2_with (go_at_call 44; refine HC.out.mono ?_; rintro e w1 ⟨rfl, h1⟩)
  go_ret
  exact ⟨rfl, h1⟩
set_option maxHeartbeats 2000000 in
theorem act32_15 (h : MSt B w p m k) (n : Nat) (x y : Int) : Calls Tryd.prog 32 #[.pointer (some ⟨p, 0, none⟩), .agg #[.int .i64 15, .int .i64 (n : Int)], .int .i64 x, .int .i64 y] w fun e w' => e = .returned (.int .i64 0) ∧ MSt B w' p { m with at_ := n } k := by
  obtain ⟨W0, e0, k0, -, hb⟩ := box1 w (.cells #[.int .i64 15, .int .i64 (n : Int)] 60)
  obtain ⟨y0, y1⟩ := cells2 hb
  obtain ⟨stk, ev, sn, tm, h⟩ := h.keep k0
  have c1 := h.c_at
  have f1 := h.rs.free 7
  have HM := Hid.mk (h.put_at n)
  clear h
  go_enter Tryd.func32, Tryd.ntmps32
  go_wp2_with fail
  go_ret
  exact ⟨rfl, HM.out⟩
set_option maxHeartbeats 2000000 in
theorem act32_16 (h : MSt B w p m k) (n : Nat) (x y : Int) : Calls Tryd.prog 32 #[.pointer (some ⟨p, 0, none⟩), .agg #[.int .i64 16, .int .i64 (n : Int)], .int .i64 x, .int .i64 y] w fun e w' => e = .returned (.int .i64 0) ∧ MSt B w' p { m with at_ := if x = 0 then n else m.at_ } k := by
  obtain ⟨W0, e0, k0, -, hb⟩ := box1 w (.cells #[.int .i64 16, .int .i64 (n : Int)] 60)
  obtain ⟨y0, y1⟩ := cells2 hb
  obtain ⟨stk, ev, sn, tm, h⟩ := h.keep k0
  have c1 := h.c_at
  have f1 := h.rs.free 7
  by_cases hx : x = 0
  · subst hx
    rw [if_pos rfl]
    have HM := Hid.mk (h.put_at n)
    clear h
    go_enter Tryd.func32, Tryd.ntmps32
    go_wp2_with fail
    go_ret
    exact ⟨rfl, HM.out⟩
  · rw [if_neg hx]
    have HM : Hid (MSt B W0 p m k) := ⟨_, _, _, _, h⟩
    have hx' : (x == 0) = false := by simpa using hx
    clear h
    go_enter Tryd.func32, Tryd.ntmps32
    go_wp2_with fail
    go_ret
    exact ⟨rfl, HM.out⟩
end
end Go.Proofs.YtpodoiichpnpjaaDoor
/-
  The program's machine: act, operation by operation: what goes out.
-/
namespace Go.Proofs.YtpodoiichpnpjaaDoor
open Go.RowKit
set_option maxRecDepth 100000
set_option linter.unusedVariables false
/-- What comes of sending: an error, or a letter more. -/
def SendP (B : Bs) (p : Nat) (m : Mc) (k : Nat) (to : List UInt8) (x y c : Int) (w' : World) : Prop := (m.sent.length = 4 ∧ c = 12 ∧ MSt B w' p m k) ∨ (m.sent.length < 4 ∧ c = 0 ∧ MSt B w' p { m with sent := m.sent ++ [⟨to, x, y⟩] } k)
/-- What comes of a reminder: an error, or one more. -/
def TimeP (B : Bs) (p : Nat) (m : Mc) (k : Nat) (s : List UInt8) (x y c : Int) (w' : World) : Prop := (BadT B.now x y ∧ c = 12 ∧ MSt B w' p m k) ∨ (¬ BadT B.now x y ∧ c = 0 ∧ MSt B w' p { m with tm := m.tm ++ [⟨s, false, B.now + x, y, B.l.kind⟩] } k)
section
variable {B : Bs} {w w' : World} {p : Nat} {m : Mc} {k : Nat} {stk : List Int} {ev sn tm : Value}
theorem send45_any (h : MSt B w p m k) (to : List UInt8) (kd x : Int) (hs : to.length ≤ 281474976710656) (h4 : m.sent.length ≤ 4) : Calls Tryd.prog 45 #[.pointer (some ⟨p, 0, none⟩), .string ⟨to.toArray⟩, .int .i64 kd, .int .i64 x] w fun e w' => ∃ c, e = .returned (.int .i64 c) ∧ SendP B p m k to kd x c w' :=
  (send45 h to kd x hs h4).mono fun e w' h => by
    rcases h with ⟨h1, h2, h3⟩ | ⟨h1, h2, h3⟩
    · exact ⟨12, h2, .inl ⟨h1, rfl, h3⟩⟩
    · exact ⟨0, h2, .inr ⟨h1, rfl, h3⟩⟩
/-- Where a name lies. -/
theorem MS.c_name (hB : B.Ok) (h : MS B w p m k stk ev sn tm) {n : Nat} {s : List UInt8} (hn : B.pg.names[n]? = some s) : ∃ b o c, w.cell? ⟨p, 0, none⟩ = some (.slice (some ⟨b, o, none⟩) B.pg.names.length c) ∧ w.cell? ⟨b, o + n, none⟩ = some (.string ⟨s.toArray⟩) := by
  obtain ⟨a, c, b, d, h1, h2, -⟩ := hB.prog.form
  have hN := (hB.prog.keep h.rs.kept).names
  rw [h1] at hN
  obtain ⟨hl, he⟩ := List.getElem?_eq_some_iff.1 hn
  obtain ⟨b, o, rfl, hc⟩ := names_at hN hl
  rw [he] at hc
  exact ⟨b, o, c, by rw [← h1]; exact h.fix rfl, hc⟩
set_option maxHeartbeats 4000000 in
theorem act32_17 (hB : B.Ok) (h : MSt B w p m k) (n : Nat) (s : List UInt8) (hn : B.pg.names[n]? = some s) (hs : s.length ≤ 281474976710656) (x y : Int) (h4 : m.sent.length ≤ 4) : Calls Tryd.prog 32 #[.pointer (some ⟨p, 0, none⟩), .agg #[.int .i64 17, .int .i64 (n : Int)], .int .i64 x, .int .i64 y] w fun e w' => ∃ c, e = .returned (.int .i64 c) ∧ SendP B p m k s x y c w' := by
  obtain ⟨W0, e0, k0, -, hb⟩ := box1 w (.cells #[.int .i64 17, .int .i64 (n : Int)] 60)
  obtain ⟨y0, y1⟩ := cells2 hb
  have h0 := h.keep (k0.then (Kept.refl [] W0).drew)
  have HC := Hid.mk (send45_any h0 s x y hs h4)
  obtain ⟨stk, ev, sn, tm, h0⟩ := h0
  obtain ⟨b, o, c, c0, c1⟩ := h0.c_name hB hn
  have S1 : W0.drew.cell? ⟨w.heap.size, 1, none⟩ = some (.int .i64 (n : Int)) := y1
  have q0 : (0 : Int) ≤ (n : Int) := by omega
  have q1 : (n : Int) < (B.pg.names.length : Int) := by have := (List.getElem?_eq_some_iff.1 hn).1; omega
  clear h h0 hn h4 hs hB
  go_enter Tryd.func32, Tryd.ntmps32
  go_wp2_with fail
  go_region_law (go_simp; go_at_call 45; refine HC.out.mono ?_; rintro e w1 ⟨cc, rfl, r3⟩)
  all_goals
    go_wp2_with fail
    go_ret
    exact ⟨cc, rfl, r3⟩
set_option maxHeartbeats 4000000 in
theorem act32_18 (h : MSt B w p m k) (arg x y : Int) (hs : B.l.fr.length ≤ 281474976710656) (h4 : m.sent.length ≤ 4) : Calls Tryd.prog 32 #[.pointer (some ⟨p, 0, none⟩), .agg #[.int .i64 18, .int .i64 arg], .int .i64 x, .int .i64 y] w fun e w' => ∃ c, e = .returned (.int .i64 c) ∧ ((B.l.fr = [] ∧ c = 0 ∧ MSt B w' p m k) ∨ (B.l.fr ≠ [] ∧ SendP B p m k B.l.fr x y c w')) := by
  obtain ⟨W0, e0, k0, -, hb⟩ := box1 w (.cells #[.int .i64 18, .int .i64 arg] 60)
  obtain ⟨y0, y1⟩ := cells2 hb
  have h0 := h.keep k0
  have HM := Hid.mk h0
  have HC := Hid.mk (send45_any h0 B.l.fr x y hs h4)
  obtain ⟨stk, ev, sn, tm, h0⟩ := h0
  have c0 : W0.cell? ⟨p, 2, none⟩ = some (.string ⟨B.l.fr.toArray⟩) := h0.fix rfl
  clear h h0 h4 hs
  by_cases hf : B.l.fr = []
  · have HF := Hid.mk hf
    rw [hf] at c0
    clear hf
    go_enter Tryd.func32, Tryd.ntmps32
    go_wp2_with fail
    go_ret
    exact ⟨0, rfl, .inl ⟨HF.out, rfl, HM.out⟩⟩
  · have HF := Hid.mk hf
    have hne : B.l.fr.isEmpty = false := by simpa using hf
    clear hf
    generalize B.l.fr = fr at *
    go_enter Tryd.func32, Tryd.ntmps32
    go_wp2_with (go_at_call 45; refine HC.out.mono ?_; rintro e w1 ⟨cc, rfl, r3⟩)
    go_ret
    exact ⟨cc, rfl, .inr ⟨HF.out, r3⟩⟩
set_option maxHeartbeats 4000000 in
theorem act32_19 (hB : B.Ok) (h : MSt B w p m k) (n : Nat) (s : List UInt8) (hn : B.pg.names[n]? = some s) (hs : s.length ≤ 281474976710656) (x y : Int) (hl : m.tm.length ≤ 900) (hnow : 0 ≤ B.now ∧ B.now ≤ 9223372036854775807) : Calls Tryd.prog 32 #[.pointer (some ⟨p, 0, none⟩), .agg #[.int .i64 19, .int .i64 (n : Int)], .int .i64 x, .int .i64 y] w fun e w' => ∃ c, e = .returned (.int .i64 c) ∧ TimeP B p m k s x y c w' := by
  obtain ⟨W0, e0, k0, -, hb⟩ := box1 w (.cells #[.int .i64 19, .int .i64 (n : Int)] 60)
  obtain ⟨y0, y1⟩ := cells2 hb
  have h0 := h.keep (k0.then (Kept.refl [] W0).drew)
  have HC : Hid (Calls Tryd.prog 46 #[.pointer (some ⟨p, 0, none⟩), .string ⟨s.toArray⟩, .int .i64 x, .int .i64 y] W0.drew fun e w' => ∃ c, e = .returned (.int .i64 c) ∧ TimeP B p m k s x y c w') := by
    by_cases hb : BadT B.now x y
    · exact (remind46_bad h0 s x y hnow hb).mono fun e w' h => ⟨12, h.1, .inl ⟨hb, rfl, h.2⟩⟩
    · exact (remind46 h0 s x y hs hl hnow hb).mono fun e w' h => ⟨0, h.1, .inr ⟨hb, rfl, h.2⟩⟩
  obtain ⟨stk, ev, sn, tm, h0⟩ := h0
  obtain ⟨b, o, c, c0, c1⟩ := h0.c_name hB hn
  have S1 : W0.drew.cell? ⟨w.heap.size, 1, none⟩ = some (.int .i64 (n : Int)) := y1
  have q0 : (0 : Int) ≤ (n : Int) := by omega
  have q1 : (n : Int) < (B.pg.names.length : Int) := by have := (List.getElem?_eq_some_iff.1 hn).1; omega
  clear h h0 hn hs hB hl hnow
  go_enter Tryd.func32, Tryd.ntmps32
  go_wp2_with fail
  go_region_law (go_simp; go_at_call 46; refine HC.out.mono ?_; rintro e w1 ⟨cc, rfl, r3⟩)
  all_goals
    go_wp2_with fail
    go_ret
    exact ⟨cc, rfl, r3⟩
set_option maxHeartbeats 4000000 in
theorem act32_20 (hB : B.Ok) (h : MSt B w p m k) (n : Nat) (s : List UInt8) (hn : B.pg.names[n]? = some s) (hs : s.length ≤ 281474976710656) (x y : Int) (hl : m.tm.length ≤ 900) : Calls Tryd.prog 32 #[.pointer (some ⟨p, 0, none⟩), .agg #[.int .i64 20, .int .i64 (n : Int)], .int .i64 x, .int .i64 y] w fun e w' => e = .returned (.int .i64 0) ∧ MSt B w' p { m with tm := m.tm ++ [⟨s, true, 0, 0, 0⟩] } k := by
  obtain ⟨W0, e0, k0, -, hb⟩ := box1 w (.cells #[.int .i64 20, .int .i64 (n : Int)] 60)
  obtain ⟨y0, y1⟩ := cells2 hb
  have h0 := h.keep (k0.then (Kept.refl [] W0).drew)
  have HC := Hid.mk (cancel47 h0 s hs hl)
  obtain ⟨stk, ev, sn, tm, h0⟩ := h0
  obtain ⟨b, o, c, c0, c1⟩ := h0.c_name hB hn
  have S1 : W0.drew.cell? ⟨w.heap.size, 1, none⟩ = some (.int .i64 (n : Int)) := y1
  have q0 : (0 : Int) ≤ (n : Int) := by omega
  have q1 : (n : Int) < (B.pg.names.length : Int) := by have := (List.getElem?_eq_some_iff.1 hn).1; omega
  clear h h0 hn hs hB hl
  go_enter Tryd.func32, Tryd.ntmps32
  go_wp2_with fail
  go_region_law (go_simp; go_at_call 47; refine HC.out.mono ?_; rintro e w1 ⟨rfl, r3⟩)
  all_goals
    go_wp2_with fail
    go_ret
    exact ⟨rfl, r3⟩
end
end Go.Proofs.YtpodoiichpnpjaaDoor
/-
  Runs, without memory: what is written down is of 64 bits, keys are keys; and what the program of sends comes to.
-/
namespace Go.Proofs.YtpodoiichpnpjaaDoor
set_option linter.unusedVariables false
theorem w64_I64 (z : Int) : I64 (w64 z) := by
  unfold w64 I64
  rw [IntKind.wrap_i64]
  omega
theorem I64_0 : I64 0 := by unfold I64; omega
theorem I64_1 : I64 1 := by unfold I64; omega
theorem getD_I64 {l : List Int} (h : ∀ z ∈ l, I64 z) (i : Nat) : I64 (l.getD i 0) := by
  rw [List.getD_eq_getElem?_getD]
  cases hh : l[i]? with
  | none => exact I64_0
  | some z => exact h z (List.mem_of_getElem? hh)
theorem getLastD_I64 {l : List Int} (h : ∀ z ∈ l, I64 z) : I64 (l.getLastD 0) := by
  rcases List.eq_nil_or_concat l with rfl | ⟨a, z, rfl⟩
  · exact I64_0
  · simp at h ⊢
    exact h z (.inr rfl)
theorem dropLast_I64 {l : List Int} (h : ∀ z ∈ l, I64 z) : ∀ z ∈ l.dropLast, I64 z := fun z hz => h z (List.dropLast_subset l hz)
/-- What is written down is of 64 bits. -/
structure WideM (k : Nat) (m : Mc) : Prop where
  st : ∀ z ∈ m.st, I64 z
  reg : ∀ z ∈ m.reg, I64 z
  ev : ∀ e ∈ m.ev, I64 e.v
  sent : ∀ s ∈ m.sent, isKey s.to = true ∧ I64 s.kind ∧ I64 s.arg
  tm : ∀ t ∈ m.tm, isKey t.nm = true ∧ I64 t.due ∧ I64 t.per ∧ I64 t.kind
  few : m.ev.length ≤ k
/-- What a run stands on. -/
structure Base (p : Pg) (l : Lt) (now : Int) : Prop where
  names : ∀ k ∈ p.names, isKey k = true
  ok : l.ok
  formed : l.formed = true
  now : 0 ≤ now ∧ I64 now
def WideO (k : Nat) : Ou → Prop
  | .go m => WideM k m
  | .halt m => WideM k m
  | .err e => True
theorem name_key {p : Pg} (h : ∀ k ∈ p.names, isKey k = true) (i : Nat) (hi : p.names.getD i [] ≠ []) : isKey (p.names.getD i []) = true := by
  rw [List.getD_eq_getElem?_getD] at hi ⊢
  cases hh : p.names[i]? with
  | none => rw [hh] at hi; exact absurd rfl hi
  | some z => exact h z (List.mem_of_getElem? hh)
theorem name_in {p : Pg} (h : ∀ k ∈ p.names, isKey k = true) {i : Nat} (hi : i < p.names.length) : isKey (p.names.getD i []) = true := by
  rw [List.getD_eq_getElem?_getD, List.getElem?_eq_getElem hi]
  exact h _ (List.getElem_mem hi)
theorem WideM.more {k : Nat} {m : Mc} (h : WideM k m) : WideM (k + 1) m := ⟨h.st, h.reg, h.ev, h.sent, h.tm, by have := h.few; omega⟩
theorem val_I64 {p : Pg} {l : Lt} {now : Int} (hb : Base p l now) {reg : List Int} (hr : ∀ z ∈ reg, I64 z) {op : Nat} {arg x y : Int} (ha : I64 arg) : I64 (valI l now reg op arg x y) := by
  unfold valI
  by_cases c1 : op = 1
  · rw [if_pos c1]; exact ha
  rw [if_neg c1]
  by_cases c2 : op = 2
  · rw [if_pos c2]; exact getD_I64 hr _
  rw [if_neg c2]
  by_cases c4 : op = 4
  · rw [if_pos c4]; exact getD_I64 hb.ok.args _
  rw [if_neg c4]
  by_cases c5 : op = 5
  · rw [if_pos c5]; exact hb.ok.kind
  rw [if_neg c5]
  by_cases c6 : op = 6
  · rw [if_pos c6]; exact w64_I64 _
  rw [if_neg c6]
  by_cases c7 : op = 7
  · rw [if_pos c7]; exact w64_I64 _
  rw [if_neg c7]
  by_cases c8 : op = 8
  · rw [if_pos c8]; exact w64_I64 _
  rw [if_neg c8]
  by_cases c9 : op = 9
  · rw [if_pos c9]; split; exact I64_1; exact I64_0
  rw [if_neg c9]
  by_cases c10 : op = 10
  · rw [if_pos c10]; split; exact I64_1; exact I64_0
  rw [if_neg c10]
  by_cases c11 : op = 11
  · rw [if_pos c11]; split; exact I64_1; exact I64_0
  rw [if_neg c11]
  by_cases c22 : op = 22
  · rw [if_pos c22]; exact hb.now.2
  rw [if_neg c22]
  by_cases c23 : op = 23
  · rw [if_pos c23]; exact w64_I64 _
  rw [if_neg c23]
  exact I64_0
theorem mem_two {l : List Int} (h : ∀ z ∈ l, I64 z) {x y : Int} (hx : I64 x) (hy : I64 y) : ∀ z ∈ l ++ [x, y], I64 z := fun z hz => by
  rcases List.mem_append.1 hz with hz | hz
  · exact h z hz
  · simp at hz
    rcases hz with rfl | rfl
    · exact hx
    · exact hy
theorem act_wide {p : Pg} {l : Lt} {now : Int} {m : Mc} {k op g : Nat} {arg x y : Int} (hb : Base p l now) (h : WideM k m) (ha : I64 arg) (hx : I64 x) (hy : I64 y) (hn : op = 19 ∨ op = 20 → arg.toNat < p.names.length) : WideO (k + 1) (actI p l now m op g arg x y) := by
  unfold actI
  by_cases c0 : op = 0
  · rw [if_pos c0]; exact h.more
  rw [if_neg c0]
  by_cases c1 : op = 21
  · rw [if_pos c1]; trivial
  rw [if_neg c1]
  by_cases c2 : op = 3
  · rw [if_pos c2]
    refine ⟨h.st, fun z hz => ?_, fun e he => ?_, h.sent, h.tm, by have := h.few; simp; omega⟩
    · rcases List.mem_or_eq_of_mem_set hz with hz | rfl
      · exact h.reg z hz
      · exact hx
    · rcases List.mem_append.1 he with he | he
      · exact h.ev e he
      · simp at he; subst he; exact hx
  rw [if_neg c2]
  by_cases c3 : op = 12
  · rw [if_pos c3]
    exact { h.more with st := mem_two h.st hx hx }
  rw [if_neg c3]
  by_cases c4 : op = 14
  · rw [if_pos c4]
    exact { h.more with st := mem_two h.st hy hx }
  rw [if_neg c4]
  by_cases c5 : op = 15
  · rw [if_pos c5]; exact { h.more with }
  rw [if_neg c5]
  by_cases c6 : op = 16
  · rw [if_pos c6]; exact { h.more with }
  rw [if_neg c6]
  by_cases c7 : op = 17 ∨ op = 18
  · rw [if_pos c7]
    by_cases d : (if op = 17 then p.names.getD arg.toNat [] else l.fr) = []
    · rw [if_pos d]; exact h.more
    rw [if_neg d]
    by_cases d4 : 4 ≤ m.sent.length
    · rw [if_pos d4]; trivial
    rw [if_neg d4]
    refine { h.more with sent := fun s hs => ?_ }
    rcases List.mem_append.1 hs with hs | hs
    · exact h.sent s hs
    · simp at hs; subst hs
      refine ⟨?_, hx, hy⟩
      by_cases e17 : op = 17
      · rw [if_pos e17] at d
        show isKey (if op = 17 then _ else _) = true
        rw [if_pos e17]
        exact name_key hb.names _ d
      · rw [if_neg e17] at d
        show isKey (if op = 17 then _ else _) = true
        rw [if_neg e17]
        have := (formed_le hb.formed).1
        exact (isKey_iff _).2 ⟨by have := List.length_pos_iff.2 d; omega, this⟩
  rw [if_neg c7]
  by_cases c8 : op = 19
  · rw [if_pos c8]
    by_cases d : x < 0 ∨ 9223372036854775807 < now + x ∨ y < 1
    · rw [if_pos d]; trivial
    rw [if_neg d]
    refine { h.more with tm := fun t ht => ?_ }
    rcases List.mem_append.1 ht with ht | ht
    · exact h.tm t ht
    · simp at ht; subst ht
      exact ⟨name_in hb.names (hn (.inl c8)), by have := hb.now; unfold I64 at this ⊢; show _ ≤ now + x ∧ now + x ≤ _; omega, hy, hb.ok.kind⟩
  rw [if_neg c8]
  by_cases c9 : op = 20
  · rw [if_pos c9]
    refine { h.more with tm := fun t ht => ?_ }
    rcases List.mem_append.1 ht with ht | ht
    · exact h.tm t ht
    · simp at ht; subst ht
      exact ⟨name_in hb.names (hn (.inr c9)), I64_0, I64_0, I64_0⟩
  rw [if_neg c9]
  refine { h.more with st := ?_ }
  show ∀ z ∈ (if g = 1 then m.st ++ [_] else m.st), I64 z
  by_cases d : g = 1
  · rw [if_pos d]
    intro z hz
    rcases List.mem_append.1 hz with hz | hz
    · exact h.st z hz
    · simp at hz; subst hz; exact val_I64 hb h.reg ha
  · rw [if_neg d]; exact h.st
/-- An instruction of a formed program: its integer is of 64 bits, its name is there. -/
def Told (p : Pg) (i : In) : Prop := I64 i.arg ∧ (i.op.toNat = 19 ∨ i.op.toNat = 20 → i.arg.toNat < p.names.length)
theorem one_wide {p : Pg} {l : Lt} {now : Int} {m : Mc} {k : Nat} {i : In} (hb : Base p l now) (h : WideM k m) (hi : Told p i) : WideO (k + 1) (oneI p l now m i) := by
  unfold oneI
  split
  · trivial
  split
  · exact act_wide hb { h with st := dropLast_I64 (dropLast_I64 h.st) } hi.1 (getLastD_I64 (dropLast_I64 h.st)) (getLastD_I64 h.st) hi.2
  split
  · exact act_wide hb { h with st := dropLast_I64 h.st } hi.1 (getLastD_I64 h.st) I64_0 hi.2
  · exact act_wide hb { h with } hi.1 I64_0 I64_0 hi.2
theorem run_wide {p : Pg} {l : Lt} {now : Int} (hb : Base p l now) (hp : ∀ i ∈ p.code, Told p i) : ∀ (f k j : Nat) (m m' : Mc) (k' : Nat), WideM j m → runI p l now f k m = .ok m' k' → WideM (j + f) m'
  | 0, k, j, m, m', k', h, e => by
    rw [runI] at e
    cases hc : p.code[m.at_]? with
    | none => rw [hc] at e; cases e; exact h
    | some i => rw [hc] at e; cases e
  | f + 1, k, j, m, m', k', h, e => by
    rw [runI] at e
    cases hc : p.code[m.at_]? with
    | none => rw [hc] at e; cases e; exact { h with few := by have := h.few; omega }
    | some i =>
      rw [hc] at e
      dsimp only at e
      have ho := one_wide hb h (hp i (List.mem_of_getElem? hc))
      cases hq : oneI p l now m i with
      | err e' => rw [hq] at e; cases e
      | halt m1 =>
        rw [hq] at e ho
        cases e
        have ho : WideM (j + 1) m' := ho
        exact { ho with few := by have := ho.few; omega }
      | go m1 =>
        rw [hq] at e ho
        have := run_wide hb hp f (k + 1) (j + 1) m1 m' k' ho e
        exact { this with few := by have := this.few; omega }
theorem WideM.start {reg : List Int} (h : ∀ z ∈ reg, I64 z) : WideM 0 (Mc.start reg) := ⟨by simp [Mc.start], h, by simp [Mc.start], by simp [Mc.start], by simp [Mc.start], by simp [Mc.start]⟩
/-- A formed program's instructions. -/
theorem formed_named {p : Pg} (h : formedP p = true) (ho : OkP p) : (∀ i ∈ p.code, Named i) ∧ ∀ i ∈ p.code, Told p i := by
  obtain ⟨h1, h2, h3, h4⟩ := formed_parts h
  have key : ∀ i ∈ p.code, (i.op.toNat = 3 → i.arg ≤ 7) ∧ (i.op.toNat = 19 ∨ i.op.toNat = 20 → 0 ≤ i.arg ∧ i.arg ≤ (p.names.length : Int) - 1) := fun i hi => by
    have hk := h4 i hi
    unfold okI at hk
    refine ⟨fun e => ?_, fun e => ?_⟩
    · rw [e] at hk
      simp [words, mostI] at hk
      exact hk.2.2
    · rcases e with e | e
      · rw [e] at hk
        simp [words, mostI] at hk
        exact hk.2
      · rw [e] at hk
        simp [words, mostI] at hk
        exact hk.2
  refine ⟨fun i hi e => ?_, fun i hi => ⟨ho i hi, fun e => ?_⟩⟩
  · have := (key i hi).1 e; omega
  · have := (key i hi).2 e; omega
end Go.Proofs.YtpodoiichpnpjaaDoor
