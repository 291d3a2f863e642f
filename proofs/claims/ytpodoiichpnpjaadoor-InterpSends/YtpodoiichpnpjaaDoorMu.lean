/-
  The program's Run.
-/
import Derived.Test.YtpodoiichpnpjaaDoorMs
import Derived.Test.YtpodoiichpnpjaaDoorLf
import Derived.Test.YtpodoiichpnpjaaDoorSx
import Derived.Test.YtpodoiichpnpjaaDoorZq
import Derived.Test.YtpodoiichpnpjaaDoorFd
namespace Go.Proofs.YtpodoiichpnpjaaDoor
open Go.RowKit
set_option maxRecDepth 100000
set_option linter.unusedVariables false
/-- A result in memory; its rows lie in blocks from n on. -/
structure IsRs (n : Nat) (w : World) (v : Value) (R : Rsl) : Prop where
  form : ∃ ev sn tm, v = .agg (cellsR R.reg ev sn tm R.k).toArray ∧ ReadsR 2 w ev (rowE R.ev) ∧ ReadsR 3 w sn (rowS R.sent) ∧ ReadsR 5 w tm (rowT R.tm) ∧ (∀ g, ev.ownBlock = some g → n ≤ g) ∧ (∀ g, sn.ownBlock = some g → n ≤ g) ∧ (∀ g, tm.ownBlock = some g → n ≤ g)
  r8 : R.reg.length = 8
theorem IsRs.keep {n : Nat} {w w' : World} {v : Value} {R : Rsl} (h : IsRs n w v R) (k : Kept [] w w') : IsRs n w' v R := by
  obtain ⟨⟨ev, sn, tm, h1, h2, h3, h4, h6⟩, h5⟩ := h
  exact ⟨⟨ev, sn, tm, h1, h2.keep k, h3.keep k, h4.keep k, h6⟩, h5⟩
/-- The arguments of Run. -/
structure Ins (w : World) (nv cv av : Value) (p : Pg) (reg : List Int) (l : Lt) (now : Int) : Prop where
  prog : IsP w nv cv p
  names : ∀ s ∈ p.names, s.length ≤ 9223372036854775807
  okp : OkP p
  args : ReadsR 1 w av (rowJ l.args)
  ok : l.ok
  fr : l.fr.length ≤ 9223372036854775807
  r8 : reg.length = 8
  regs : ∀ z ∈ reg, I64 z
  now : I64 now
theorem Ins.keep {w w' : World} {nv cv av : Value} {p : Pg} {reg : List Int} {l : Lt} {now : Int} (h : Ins w nv cv av p reg l now) (k : Kept [] w w') : Ins w' nv cv av p reg l now :=
  ⟨h.prog.keep k, h.names, h.okp, h.args.keep k, h.ok, h.fr, h.r8, h.regs, h.now⟩
theorem eight_of {reg : List Int} (h : reg.length = 8) : ∃ a0 a1 a2 a3 a4 a5 a6 a7, reg = [a0, a1, a2, a3, a4, a5, a6, a7] := by
  match reg, h with
  | [a0, a1, a2, a3, a4, a5, a6, a7], _ => exact ⟨a0, a1, a2, a3, a4, a5, a6, a7, rfl⟩
/-- A result of which only the steps are told. -/
theorem isRs_none {n : Nat} (w : World) (k : Nat) : IsRs n w (.agg (cellsR z8 (.slice none 0 0) (.slice none 0 0) (.slice none 0 0) k).toArray) (Rsl.none k) := ⟨⟨_, _, _, rfl, ReadsR.nil 2 w, ReadsR.nil 3 w, ReadsR.nil 5 w, fun g h => by simp [Value.ownBlock] at h, fun g h => by simp [Value.ownBlock] at h, fun g h => by simp [Value.ownBlock] at h⟩, rfl⟩
theorem size37 : (Tryd.prog.info? 37).map (·.size) = some 12 := by kernel_rfl
section
variable {w : World} {nv cv av : Value} {p : Pg} {reg : List Int} {l : Lt} {now : Int}
set_option maxHeartbeats 4000000 in
theorem run11_no (hG : Glob w) (hI : Ins w nv cv av p reg l now) (hm : mayI p l now = false) : Calls Tryd.prog 11 #[.agg #[nv, cv], .agg (BI reg).toArray, .agg #[.string ⟨l.fr.toArray⟩, .int .u64 (l.ser : Int), .int .i64 l.kind, av], .int .i64 now] w fun e w' => ∃ v, e = .returned (.tuple #[v, .int .i64 1]) ∧ IsRs w.heap.size w' v (Rsl.none 0) ∧ Kept [] w w' := by
  obtain ⟨a0, a1, a2, a3, a4, a5, a6, a7, rfl⟩ := eight_of hI.r8
  obtain ⟨a, c, b, d, rfl, rfl, hl1, hl2⟩ := hI.prog.form
  obtain ⟨aa, ac, rfl, ha1, ha2⟩ := hI.args.form
  rw [rowJ_length] at *
  show Calls Tryd.prog 11 #[_, .agg #[.int .i64 a0, .int .i64 a1, .int .i64 a2, .int .i64 a3, .int .i64 a4, .int .i64 a5, .int .i64 a6, .int .i64 a7], _, _] w _
  obtain ⟨W0, e0, k0, hz0, hb0, hb1, hb2, hb3⟩ := box4 w (.cells #[.slice a p.names.length c, .slice b p.code.length d] 43) (.cells #[.int .i64 a0, .int .i64 a1, .int .i64 a2, .int .i64 a3, .int .i64 a4, .int .i64 a5, .int .i64 a6, .int .i64 a7] 26) (.cells #[.string ⟨l.fr.toArray⟩, .int .u64 (l.ser : Int), .int .i64 l.kind, .slice aa l.args.length ac] 30) (.cells #[.int .i64 0, .int .i64 0, .int .i64 0, .int .i64 0, .int .i64 0, .int .i64 0, .int .i64 0, .int .i64 0, .slice none 0 0, .slice none 0 0, .slice none 0 0, .int .i64 0] 37)
  have hb3 : W0.heap[w.heap.size + 1 + 1 + 1]? = some (.cells (cellsR z8 (.slice none 0 0) (.slice none 0 0) (.slice none 0 0) 0).toArray 37 (0, 0)) := hb3
  obtain ⟨y0, y1⟩ := cells2 hb0
  obtain ⟨x0, x1, x2, x3⟩ := cells4 hb2
  have HF := Hid.mk (formed13 (hI.prog.keep k0) hI.names (hG.kept k0))
  have HL := Hid.mk (fun W => lformed18 (w := W) l aa ac hI.fr (by omega))
  have HB2 := Hid.mk hb2
  have HB3 := Hid.mk hb3
  have HK := Hid.mk k0
  have HE : Hid (∀ W, Kept [] W0 W → ∃ W', (Instr.storeAt 37 (.pointer (some ⟨w.heap.size + 1 + 1 + 1, 0, none⟩)) (.agg (cellsR z8 (.slice none 0 0) (.slice none 0 0) (.slice none 0 0) 0).toArray)).run Tryd.prog W = .ok () W' ∧ W'.heap[w.heap.size + 1 + 1 + 1]? = some (.cells (cellsR z8 (.slice none 0 0) (.slice none 0 0) (.slice none 0 0) 0).toArray 37 (0, 0)) ∧ Kept [] w W') := fun W kW => by
    obtain ⟨W', h1, h2, h3⟩ := store_whole (P := Tryd.prog) (kW.keeps hb3 (by simp)) rfl size37 (cellsR_one rfl rfl rfl)
    exact ⟨W', h1, h2, (k0.then kW).trans h3 (fun x hx => .inr (by simp at hx; omega))⟩
  clear hb0 hb1 hb2 hb3 hG hI k0 hz0
  unfold mayI at hm
  cases hf : formedP p with
  | false =>
    rw [hf] at HF
    clear hm HL
    go_enter Tryd.func11, Tryd.ntmps11
    go_wp2_with (first | (go_at_call 17; refine HF.out.mono ?_; rintro e w1 ⟨rfl, k1⟩; obtain ⟨W2, hst, hb, kk⟩ := HE.out w1 k1) | (refine wpList_store_run 37 (.tmp 8) (.tmp 24) rfl rfl _ _ rfl rfl _ hst ?_))
    exact bodyPost_ret (results_cell_row2 (p := 8) (u := 9) (ty := 37) rfl _ _ (w.heap.size + 1 + 1 + 1) 37 _ (0, 0) _ rfl hb Tryd.underlying37 rfl (by kernel_rfl) _ rfl) rfl ⟨_, rfl, isRs_none _ 0, kk⟩
  | true =>
    rw [hf] at HF hm
    cases hlf : l.formed with
    | false =>
      rw [hlf] at HL
      clear hm
      go_enter Tryd.func11, Tryd.ntmps11
      go_wp2_with (first | (go_at_call 17; refine HF.out.mono ?_; rintro e w1 ⟨rfl, k1⟩; obtain ⟨v0, v1, v2, v3⟩ := cells4 (k1.keeps HB2.out (by simp))) | (go_at_call 18; refine (HL.out _).mono ?_; rintro e w2 ⟨rfl, k2⟩; obtain ⟨W2, hst, hb, kk⟩ := HE.out w2 (k1.then k2)) | (refine wpList_store_run 37 (.tmp 8) (.tmp 24) rfl rfl _ _ rfl rfl _ hst ?_))
      exact bodyPost_ret (results_cell_row2 (p := 8) (u := 9) (ty := 37) rfl _ _ (w.heap.size + 1 + 1 + 1) 37 _ (0, 0) _ rfl hb Tryd.underlying37 rfl (by kernel_rfl) _ rfl) rfl ⟨_, rfl, isRs_none _ 0, kk⟩
    | true =>
      rw [hlf] at HL hm
      have hneg : now < 0 := by simpa using hm
      clear hm
      go_enter Tryd.func11, Tryd.ntmps11
      go_wp2_with (first | (go_at_call 17; refine HF.out.mono ?_; rintro e w1 ⟨rfl, k1⟩; obtain ⟨v0, v1, v2, v3⟩ := cells4 (k1.keeps HB2.out (by simp))) | (go_at_call 18; refine (HL.out _).mono ?_; rintro e w2 ⟨rfl, k2⟩; obtain ⟨W2, hst, hb, kk⟩ := HE.out w2 (k1.then k2)) | (refine wpList_store_run 37 (.tmp 8) (.tmp 24) rfl rfl _ _ rfl rfl _ hst ?_))
      exact bodyPost_ret (results_cell_row2 (p := 8) (u := 9) (ty := 37) rfl _ _ (w.heap.size + 1 + 1 + 1) 37 _ (0, 0) _ rfl hb Tryd.underlying37 rfl (by kernel_rfl) _ rfl) rfl ⟨_, rfl, isRs_none _ 0, kk⟩
end
end Go.Proofs.YtpodoiichpnpjaaDoor
