import Derived.Deep.RegionHeld3
import Derived.Test.YtpodoiichpnpjaaDoorQ11
/-
  The document's machine: out, operation by operation.
-/
namespace Go.Proofs.YtpodoiichpnpjaaDoor
open Go.RowKit
set_option maxRecDepth 100000
set_option linter.unusedVariables false
/-- What a step's outcome is in memory. -/
def OuF (B : Bs) (p : Nat) (k : Nat) : Ou → Bool → Int → World → Prop
  | .go m, b, c, w => b = true ∧ c = 0 ∧ FSt B w p m k
  | .halt m, b, c, w => b = false ∧ c = 0 ∧ FSt B w p m k
  | .err d, b, c, w => b = false ∧ c = d ∧ ∃ m, FSt B w p m k
/-- Two results, of which so much is told. -/
def Ret2 (R : Bool → Int → World → Prop) (e : Ending) (w : World) : Prop := ∃ b c, e = .returned (.tuple #[.bool b, .int .i64 c]) ∧ R b c w
section
variable {B : Bs} {w w' : World} {p : Nat} {m : Mc} {k : Nat} {sv ev sn tm : Value}
theorem FS.c_ev (h : FS B w p m k sv ev sn tm) : w.cell? ⟨p, 17, none⟩ = some ev := h.rs.cell_res (by rw [h.len]) (cellsR_ev h.rs.r8)
theorem FS.c_sn (h : FS B w p m k sv ev sn tm) : w.cell? ⟨p, 18, none⟩ = some sn := h.rs.cell_res (by rw [h.len]) (cellsR_sn h.rs.r8)
theorem FS.c_tm (h : FS B w p m k sv ev sn tm) : w.cell? ⟨p, 19, none⟩ = some tm := h.rs.cell_res (by rw [h.len]) (cellsR_tm h.rs.r8)
theorem FS.c_k (h : FS B w p m k sv ev sn tm) : w.cell? ⟨p, 20, none⟩ = some (Iv (k : Int)) := h.rs.cell_res (by rw [h.len]) (cellsR_k h.rs.r8)
theorem FS.addSn (h : FS B w p m k sv ev sn tm) (hl : m.sent.length ≤ 900) (x : Sn) : ∃ ad c w2, (Builtin.append_ #[46, 46] 46 #[sn, .slice (some ⟨w.heap.size, 0, none⟩) 1 1]).run Tryd.prog (w.alloc (.cells #[.string ⟨x.to.toArray⟩, .int .i64 x.kind, .int .i64 x.arg] 82)) = .ok (.slice ad (m.sent.length + 1) c) w2 ∧ w2.cell? ⟨p, 18, none⟩ = some sn ∧ w2.frozen? ⟨p, 18, none⟩ = false ∧ FSt B (w2.setCell ⟨p, 18, none⟩ (.slice ad (m.sent.length + 1) c)) p { m with sent := m.sent ++ [x] } k := by
  obtain ⟨ad, c', w2, hrun, c2, f2, H2, -, H3⟩ := h.rs.addSn2 rt46F tyF_ok (by omega) x 18 (by rw [h.len]) 82 (0, 0) 46
  exact ⟨ad, c', w2, hrun, c2, f2, sv, _, _, _, H3 2 1 sv _ (by decide) (by decide) h.st, H2⟩
theorem FS.addTm (h : FS B w p m k sv ev sn tm) (hl : m.tm.length ≤ 900) (x : Tm) : ∃ ad c w2, (Builtin.append_ #[47, 47] 47 #[tm, .slice (some ⟨w.heap.size, 0, none⟩) 1 1]).run Tryd.prog (w.alloc (.cells #[.string ⟨x.nm.toArray⟩, .bool x.can, .int .i64 x.due, .int .i64 x.per, .int .i64 x.kind] 100)) = .ok (.slice ad (m.tm.length + 1) c) w2 ∧ w2.cell? ⟨p, 19, none⟩ = some tm ∧ w2.frozen? ⟨p, 19, none⟩ = false ∧ FSt B (w2.setCell ⟨p, 19, none⟩ (.slice ad (m.tm.length + 1) c)) p { m with tm := m.tm ++ [x] } k := by
  obtain ⟨ad, c', w2, hrun, c2, f2, H2, -, H3⟩ := h.rs.addTm2 rt47F tyF_ok (by omega) x 19 (by rw [h.len]) 100 (0, 0) 47
  exact ⟨ad, c', w2, hrun, c2, f2, sv, _, _, _, H3 2 1 sv _ (by decide) (by decide) h.st, H2⟩
theorem FS.addEv (h : FS B w p m k sv ev sn tm) (hl : m.ev.length ≤ 900) (x : Ev) : ∃ ad c w2, (Builtin.append_ #[45, 45] 45 #[ev, .slice (some ⟨w.heap.size, 0, none⟩) 1 1]).run Tryd.prog (w.alloc (.cells #[.int .i64 (x.r : Int), .int .i64 x.v] 85)) = .ok (.slice ad (m.ev.length + 1) c) w2 ∧ w2.cell? ⟨p, 17, none⟩ = some ev ∧ w2.frozen? ⟨p, 17, none⟩ = false ∧ FSt B (w2.setCell ⟨p, 17, none⟩ (.slice ad (m.ev.length + 1) c)) p { m with ev := m.ev ++ [x] } k := by
  obtain ⟨ad, c', w2, hrun, c2, f2, H2, -, H3⟩ := h.rs.addEv2 rt45F tyF_ok (by omega) x 17 (by rw [h.len]) 85 (0, 0) 45
  exact ⟨ad, c', w2, hrun, c2, f2, sv, _, _, _, H3 2 1 sv _ (by decide) (by decide) h.st, H2⟩
theorem FS.put_reg (h : FS B w p m k sv ev sn tm) (r : Nat) (hr : r ≤ 7) (x : Int) : FS B (w.setCell ⟨p, 9 + r, none⟩ (Iv x)) p { m with reg := m.reg.set r x } k sv ev sn tm :=
  ⟨h.st.boxed h.rs.box (by decide) h.rs.hp ((Kept.refl [p] w).setCell (.inl (by simp)) _), h.rs.put_reg tyF_ok x (by rw [h.len]) (by omega)⟩
theorem FS.put_k (h : FS B w p m k sv ev sn tm) (q : Nat) : FS B (w.setCell ⟨p, 20, none⟩ (Iv (q : Int))) p m q sv ev sn tm :=
  ⟨h.st.boxed h.rs.box (by decide) h.rs.hp ((Kept.refl [p] w).setCell (.inl (by simp)) _), h.rs.put_k tyF_ok (by rw [h.len]) rfl⟩
/-- Where a name lies. -/
theorem FS.c_name (hB : B.Ok) (h : FS B w p m k sv ev sn tm) {n : Nat} {s : List UInt8} (hn : B.pg.names[n]? = some s) : ∃ b o c, w.cell? ⟨p, 0, none⟩ = some (.slice (some ⟨b, o, none⟩) B.pg.names.length c) ∧ w.cell? ⟨b, o + n, none⟩ = some (.string ⟨s.toArray⟩) := by
  obtain ⟨a, c, b, d, h1, h2, -⟩ := hB.prog.form
  have hN := (hB.prog.keep h.rs.kept).names
  rw [h1] at hN
  obtain ⟨hl, he⟩ := List.getElem?_eq_some_iff.1 hn
  obtain ⟨b, o, rfl, hc⟩ := names_at hN hl
  rw [he] at hc
  exact ⟨b, o, c, by rw [← h1]; exact h.fix rfl, hc⟩
/-- What comes of sending: an error, or a letter more. -/
def SendF (B : Bs) (p : Nat) (m : Mc) (k : Nat) (to : List UInt8) (x y : Int) (b : Bool) (c : Int) (w' : World) : Prop := (4 ≤ m.sent.length ∧ b = false ∧ c = 12 ∧ FSt B w' p m k) ∨ (m.sent.length < 4 ∧ b = true ∧ c = 0 ∧ FSt B w' p { m with sent := m.sent ++ [⟨to, x, y⟩] } k)
set_option maxHeartbeats 4000000 in
theorem out38_17 (hB : B.Ok) (h : FSt B w p m k) (n : Nat) (s : List UInt8) (hn : B.pg.names[n]? = some s) (hne : s ≠ []) (x y : Int) (h4 : m.sent.length ≤ 4) : Calls Tryd.prog 38 #[.pointer (some ⟨p, 0, none⟩), .agg #[.int .i64 17, .int .i64 (n : Int)], .int .i64 x, .int .i64 y] w fun e w' => Ret2 (SendF B p m k s x y) e w' := by
  obtain ⟨W0, e0, k0, -, hb⟩ := box1 w (.cells #[.int .i64 17, .int .i64 (n : Int)] 75)
  obtain ⟨y0, y1⟩ := cells2 hb
  obtain ⟨sv, ev, sn, tm, h0⟩ := h.keep k0
  obtain ⟨b, o, c, c0, c1⟩ := h0.c_name hB hn
  have c0 : W0.drew.cell? ⟨p, 0, none⟩ = some (.slice (some ⟨b, o, none⟩) B.pg.names.length c) := c0
  have c1 : W0.drew.cell? ⟨b, o + n, none⟩ = some (.string ⟨s.toArray⟩) := c1
  have c2 : W0.cell? ⟨p, 2, none⟩ = some (.string ⟨B.l.fr.toArray⟩) := h0.fix rfl
  have S1 : W0.drew.cell? ⟨w.heap.size, 1, none⟩ = some (.int .i64 (n : Int)) := y1
  have q0 : (0 : Int) ≤ (n : Int) := by omega
  have q1 : (n : Int) < (B.pg.names.length : Int) := by have := (List.getElem?_eq_some_iff.1 hn).1; omega
  have hne' : s.isEmpty = false := by simpa using hne
  have h1 := h0.keep (Kept.refl [] W0).drew
  obtain ⟨sa, sc, rfl, -, -⟩ := h1.rs.sn.form
  rw [rowS_length] at *
  have c3 : W0.drew.cell? ⟨p, 18, none⟩ = some (.slice sa m.sent.length sc) := h1.c_sn
  by_cases hq : 4 ≤ m.sent.length
  · have HM : Hid (FSt B W0.drew p m k) := ⟨_, _, _, _, h1⟩
    have HQ := Hid.mk hq
    have hqI : (4 : Int) ≤ (m.sent.length : Int) := by omega
    clear h h0 h1 hq h4 hB hn hne
    go_enter Tryd.func38, Tryd.ntmps38
    go_wp2_with fail
    go_region
    go_wp2_with fail
    go_ret2
    exact ⟨_, _, rfl, .inl ⟨HQ.out, rfl, rfl, HM.out⟩⟩
  · obtain ⟨ad, c', w2, hrun, r0, r1, H2⟩ := h1.addSn (by omega) ⟨s, x, y⟩
    have HM := Hid.mk H2
    have HQ : Hid (m.sent.length < 4) := by have := hq; show m.sent.length < 4; omega
    have hqI : ¬ (4 : Int) ≤ (m.sent.length : Int) := by omega
    dsimp only at hrun
    clear h h0 h1 hq h4 hB hn hne H2
    go_enter Tryd.func38, Tryd.ntmps38
    go_wp2_with fail
    go_region
    go_wp2_with (at_builtin; refine wpList_append_run 46 46 (.tmp 48) (.tmp 53) rfl (by rfl) _ _ rfl rfl _ _ hrun ?_)
    go_ret2
    exact ⟨_, _, rfl, .inr ⟨HQ.out, rfl, rfl, HM.out⟩⟩
/-- What comes of a reply. -/
def ReplyF (B : Bs) (p : Nat) (m : Mc) (k : Nat) (x y : Int) (b : Bool) (c : Int) (w' : World) : Prop := (B.l.fr = [] ∧ b = true ∧ c = 0 ∧ FSt B w' p m k) ∨ (B.l.fr ≠ [] ∧ SendF B p m k B.l.fr x y b c w')
set_option maxHeartbeats 4000000 in
theorem out38_18 (h : FSt B w p m k) (arg x y : Int) : Calls Tryd.prog 38 #[.pointer (some ⟨p, 0, none⟩), .agg #[.int .i64 18, .int .i64 arg], .int .i64 x, .int .i64 y] w fun e w' => Ret2 (ReplyF B p m k x y) e w' := by
  obtain ⟨W0, e0, k0, -, hb⟩ := box1 w (.cells #[.int .i64 18, .int .i64 arg] 75)
  obtain ⟨y0, y1⟩ := cells2 hb
  obtain ⟨sv, ev, sn, tm, h0⟩ := h.keep k0
  have c2 : W0.cell? ⟨p, 2, none⟩ = some (.string ⟨B.l.fr.toArray⟩) := h0.fix rfl
  obtain ⟨sa, sc, rfl, -, -⟩ := h0.rs.sn.form
  rw [rowS_length] at *
  have c3 : W0.cell? ⟨p, 18, none⟩ = some (.slice sa m.sent.length sc) := h0.c_sn
  have HM : Hid (FSt B W0 p m k) := ⟨_, _, _, _, h0⟩
  have HW : Hid (∀ b c W, (B.l.fr = [] ∧ b = true ∧ c = 0 ∧ FSt B W p m k) ∨ (B.l.fr ≠ [] ∧ SendF B p m k B.l.fr x y b c W) → ReplyF B p m k x y b c W) := fun b c W h => h
  generalize ReplyF B p m k x y = RF at *
  by_cases hf : B.l.fr = []
  · have HF := Hid.mk hf
    rw [hf] at c2
    clear h h0 hf
    go_enter Tryd.func38, Tryd.ntmps38
    go_wp2_with fail
    go_ret2
    exact ⟨_, _, rfl, HW.out _ _ _ (.inl ⟨HF.out, rfl, rfl, HM.out⟩)⟩
  · have HF := Hid.mk hf
    have hne' : B.l.fr.isEmpty = false := by simpa using hf
    by_cases hq : 4 ≤ m.sent.length
    · have HQ := Hid.mk hq
      have hqI : (4 : Int) ≤ (m.sent.length : Int) := by omega
      clear h h0 hq hf
      generalize B.l.fr = fr at *
      go_enter Tryd.func38, Tryd.ntmps38
      go_wp2_with fail
      go_ret2
      exact ⟨_, _, rfl, HW.out _ _ _ (.inr ⟨HF.out, .inl ⟨HQ.out, rfl, rfl, HM.out⟩⟩)⟩
    · obtain ⟨ad, c', w2, hrun, r0, r1, H2⟩ := h0.addSn (by omega) ⟨B.l.fr, x, y⟩
      have HM2 := Hid.mk H2
      have HQ : Hid (m.sent.length < 4) := by have := hq; show m.sent.length < 4; omega
      have hqI : ¬ (4 : Int) ≤ (m.sent.length : Int) := by omega
      dsimp only at hrun
      clear h h0 hq H2 hf
      generalize B.l.fr = fr at *
      go_enter Tryd.func38, Tryd.ntmps38
      go_wp2_with (at_builtin; refine wpList_append_run 46 46 (.tmp 48) (.tmp 53) rfl (by rfl) _ _ rfl rfl _ _ hrun ?_)
      go_ret2
      exact ⟨_, _, rfl, HW.out _ _ _ (.inr ⟨HF.out, .inr ⟨HQ.out, rfl, rfl, HM2.out⟩⟩)⟩
end
end Go.Proofs.YtpodoiichpnpjaaDoor
/-
  The program's machine: send, remind, cancel.
-/
namespace Go.Proofs.YtpodoiichpnpjaaDoor
open Go.RowKit
set_option maxRecDepth 100000
set_option linter.unusedVariables false
section
variable {B : Bs} {w w' : World} {p : Nat} {m : Mc} {k : Nat} {stk : List Int} {ev sn tm : Value}
theorem MS.c_sn (h : MS B w p m k stk ev sn tm) : w.cell? ⟨p, 34, none⟩ = some sn := h.rs.cell_res (by rw [h.len]) (cellsR_sn h.rs.r8)
theorem MS.c_tm (h : MS B w p m k stk ev sn tm) : w.cell? ⟨p, 35, none⟩ = some tm := h.rs.cell_res (by rw [h.len]) (cellsR_tm h.rs.r8)
/-- A letter more. -/
theorem MS.addSn (h : MS B w p m k stk ev sn tm) (hl : m.sent.length ≤ 900) (x : Sn) : ∃ ad c w2, (Builtin.append_ #[34, 34] 34 #[sn, .slice (some ⟨w.heap.size, 0, none⟩) 1 1]).run Tryd.prog (w.alloc (.cells #[.string ⟨x.to.toArray⟩, .int .i64 x.kind, .int .i64 x.arg] 65)) = .ok (.slice ad (m.sent.length + 1) c) w2 ∧ w2.cell? ⟨p, 34, none⟩ = some sn ∧ w2.frozen? ⟨p, 34, none⟩ = false ∧ MSt B (w2.setCell ⟨p, 34, none⟩ (.slice ad (m.sent.length + 1) c)) p { m with sent := m.sent ++ [x] } k := by
  obtain ⟨ad, c', w2, hrun, c2, f2, H2⟩ := h.rs.addSn rt34 tyM_ok (by omega) x 34 (by rw [h.len]) 65 (0, 0) 34
  exact ⟨ad, c', w2, hrun, c2, f2, stk, _, _, _, h.s16, h.top, H2⟩
/-- A reminder more. -/
theorem MS.addTm (h : MS B w p m k stk ev sn tm) (hl : m.tm.length ≤ 900) (x : Tm) : ∃ ad c w2, (Builtin.append_ #[35, 35] 35 #[tm, .slice (some ⟨w.heap.size, 0, none⟩) 1 1]).run Tryd.prog (w.alloc (.cells #[.string ⟨x.nm.toArray⟩, .bool x.can, .int .i64 x.due, .int .i64 x.per, .int .i64 x.kind] 58)) = .ok (.slice ad (m.tm.length + 1) c) w2 ∧ w2.cell? ⟨p, 35, none⟩ = some tm ∧ w2.frozen? ⟨p, 35, none⟩ = false ∧ MSt B (w2.setCell ⟨p, 35, none⟩ (.slice ad (m.tm.length + 1) c)) p { m with tm := m.tm ++ [x] } k := by
  obtain ⟨ad, c', w2, hrun, c2, f2, H2⟩ := h.rs.addTm rt35 tyM_ok (by omega) x 35 (by rw [h.len]) 58 (0, 0) 35
  exact ⟨ad, c', w2, hrun, c2, f2, stk, _, _, _, h.s16, h.top, H2⟩
set_option maxHeartbeats 4000000 in
theorem send45 (h : MSt B w p m k) (to : List UInt8) (kd x : Int) (hs : to.length ≤ 281474976710656) (h4 : m.sent.length ≤ 4) : Calls Tryd.prog 45 #[.pointer (some ⟨p, 0, none⟩), .string ⟨to.toArray⟩, .int .i64 kd, .int .i64 x] w fun e w' => (m.sent.length = 4 ∧ e = .returned (.int .i64 12) ∧ MSt B w' p m k) ∨ (m.sent.length < 4 ∧ e = .returned (.int .i64 0) ∧ MSt B w' p { m with sent := m.sent ++ [⟨to, kd, x⟩] } k) := by
  obtain ⟨stk, ev, sn, tm, h⟩ := h
  obtain ⟨a, c, rfl, -, -⟩ := h.rs.sn.form
  rw [rowS_length] at *
  have c0 := h.c_sn
  by_cases hq : m.sent.length = 4
  · have HM : Hid (MSt B w p m k) := ⟨_, _, _, _, h⟩
    have HQ := Hid.mk hq
    rw [hq] at c0
    clear h hq h4
    go_enter Tryd.func45, Tryd.ntmps45
    go_wp2_with fail
    go_ret
    exact .inl ⟨HQ.out, rfl, HM.out⟩
  · have HM := Hid.mk h
    have HQ : Hid (m.sent.length < 4) := by have := hq; show m.sent.length < 4; omega
    have hq' : ((m.sent.length : Int) == 4) = false := by simp only [beq_eq_false_iff_ne, ne_eq]; omega
    have hq2 : ¬ (m.sent.length : Int) = 4 := by omega
    have S0 : w.drew.cell? ⟨p, 34, none⟩ = some (.slice a m.sent.length c) := c0
    have HC : Hid (Calls Tryd.prog 49 #[.string ⟨to.toArray⟩] w.drew fun e w' => e = .returned (.string ⟨to.toArray⟩) ∧ Kept [] w.drew w') := clone49 to hs
    clear h hq h4
    go_enter Tryd.func45, Tryd.ntmps45
    go_wp2_with fail
    go_region_law (first | (refine step_append_run 34 (.tmp 21) (.tmp 27) (by rfl) (by rfl) _ _ (by rfl) (by rfl) hrun ?_) | (go_simp; go_at_call 49; refine Calls.mono HC.out ?_; rintro e w5 ⟨rfl, k5⟩; have h5 := HM.out.keep ((Kept.refl [] w).drew.then k5); obtain ⟨a6, c6, w6, hrun, q3, qf, s6⟩ := h5.addSn (by have := HQ.out; omega) ⟨to, kd, x⟩; have S6 := Hid.mk s6; clear s6; have q5 := h5.c_sn; have q6 := ((Kept.refl [] w5).alloc (.cells #[.string ⟨to.toArray⟩, .int .i64 kd, .int .i64 x] 65)).cell_eq q5; clear h5))
    all_goals
      clear q3 qf q5 q6 hrun
      go_wp2_with fail
      go_ret
      exact .inr ⟨HQ.out, rfl, S6.out⟩
end
end Go.Proofs.YtpodoiichpnpjaaDoor
