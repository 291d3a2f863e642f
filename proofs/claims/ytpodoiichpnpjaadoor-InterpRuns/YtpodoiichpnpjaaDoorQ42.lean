import Derived.Test.YtpodoiichpnpjaaDoorQ34
import Derived.Test.YtpodoiichpnpjaaDoorQ41
/-
  InterpRuns' walk.
-/
namespace Go.Proofs.YtpodoiichpnpjaaDoor
open Go.RowKit
set_option maxRecDepth 100000
set_option linter.unusedVariables false
theorem run_sound {reg : List Int} {p : Pg} {l : Lt} {now : Int} (hb : Base p l now) (hN : ∀ i ∈ p.code, Named i) (hT : ∀ i ∈ p.code, Told p i) : ∀ (f k : Nat) (m : Mc), Sound reg now k m → ∀ m' k', runI p l now f k m = .ok m' k' → Sound reg now k' m' ∧ k' ≤ k + f
  | 0, k, m, h, m', k', e => by
    unfold runI at e
    cases hc : p.code[m.at_]? with
    | none => rw [hc] at e; simp at e; obtain ⟨rfl, rfl⟩ := e; exact ⟨h, by omega⟩
    | some i => rw [hc] at e; cases e
  | f + 1, k, m, h, m', k', e => by
    unfold runI at e
    cases hc : p.code[m.at_]? with
    | none => rw [hc] at e; simp at e; obtain ⟨rfl, rfl⟩ := e; exact ⟨h, by omega⟩
    | some i =>
      rw [hc] at e
      dsimp only at e
      have hmem := List.mem_of_getElem? hc
      have hs := h.step hb (hN i hmem) (hT i hmem)
      cases ho : oneI p l now m i with
      | err x => rw [ho] at e; cases e
      | halt m2 =>
        rw [ho] at e hs
        simp at e
        obtain ⟨rfl, rfl⟩ := e
        exact ⟨hs, by omega⟩
      | go m2 =>
        rw [ho] at e hs
        obtain ⟨h1, h2⟩ := run_sound hb hN hT f (k + 1) m2 hs m' k' e
        exact ⟨h1, by omega⟩
theorem run_small {reg : List Int} {p : Pg} {l : Lt} {now : Int} (hO : OkP p) (hlo : l.ok) (hn : I64 now) (hr : ∀ z ∈ reg, I64 z) : (resI p reg l now).1.ev.length ≤ 900 ∧ (resI p reg l now).1.tm.length ≤ 900 := by
  unfold resI
  by_cases hm : mayI p l now = true
  · rw [if_pos hm]
    obtain ⟨h1, h2, h3⟩ := may_parts hm
    obtain ⟨f1, f2, f3, f4⟩ := formed_parts h1
    obtain ⟨g1, g2⟩ := formed_named h1 hO
    cases hc : runI p l now 500 0 (Mc.start reg) with
    | ok m k =>
      obtain ⟨hs, hk⟩ := run_sound ⟨f3, hlo, h2, h3, hn⟩ g1 g2 500 0 _ (Sound.start (now := now) hr) m k hc
      have e1 := hs.wide.few
      have e2 := hs.few
      exact ⟨by show m.ev.length ≤ 900; omega, by show m.tm.length ≤ 900; omega⟩
    | err e k => exact ⟨by show 0 ≤ 900; omega, by show 0 ≤ 900; omega⟩
  · rw [if_neg hm]
    exact ⟨by show 0 ≤ 900; omega, by show 0 ≤ 900; omega⟩
theorem Told8.keep {n : Nat} {w w' : World} {R : Rsl} {b0 b1 b2 b3 b4 b5 b6 b7 : Int} {ea sa ta : Option Addr} {ec sc tc : Nat} (h : Told8 n w R b0 b1 b2 b3 b4 b5 b6 b7 ea ec sa sc ta tc) (k : Kept [] w w') : Told8 n w' R b0 b1 b2 b3 b4 b5 b6 b7 ea ec sa sc ta tc := ⟨h.reg, h.ev.keep k, h.sn.keep k, h.tm.keep k, h.n1, h.n2, h.n3⟩
theorem told8_as {n : Nat} {w : World} {v : Value} {R : Rsl} {b0 b1 b2 b3 b4 b5 b6 b7 : Int} (h : IsRs n w v R) (hreg : R.reg = [b0, b1, b2, b3, b4, b5, b6, b7]) : ∃ ea ec sa sc ta tc, v = Rval R b0 b1 b2 b3 b4 b5 b6 b7 ea ec sa sc ta tc ∧ Told8 n w R b0 b1 b2 b3 b4 b5 b6 b7 ea ec sa sc ta tc := by
  obtain ⟨c0, c1, c2, c3, c4, c5, c6, c7, ea, ec, sa, sc, ta, tc, hv, hT⟩ := told8_of h
  have e := hreg.symm.trans hT.reg
  simp only [List.cons.injEq, and_true] at e
  obtain ⟨rfl, rfl, rfl, rfl, rfl, rfl, rfl, rfl⟩ := e
  exact ⟨ea, ec, sa, sc, ta, tc, hv, hT⟩
theorem res_box49 {n : Nat} {w : World} {v : Value} {R : Rsl} {b0 b1 b2 b3 b4 b5 b6 b7 : Int} (h : IsRs n w v R) (hreg : R.reg = [b0, b1, b2, b3, b4, b5, b6, b7]) : ∃ W ea ec sa sc ta tc, (Instr.storeAt 49 (.pointer (some ⟨w.heap.size, 0, none⟩)) v).run Tryd.prog (w.alloc (.cells z12.toArray 49)) = .ok () W ∧ W.heap[w.heap.size]? = some (.cells #[.int .i64 b0, .int .i64 b1, .int .i64 b2, .int .i64 b3, .int .i64 b4, .int .i64 b5, .int .i64 b6, .int .i64 b7, .slice ea R.ev.length ec, .slice sa R.sent.length sc, .slice ta R.tm.length tc, .int .i64 (R.k : Int)] 49 (0, 0)) ∧ Told8 n W R b0 b1 b2 b3 b4 b5 b6 b7 ea ec sa sc ta tc ∧ Kept [] w W := by
  obtain ⟨ea, ec, sa, sc, ta, tc, rfl, hT⟩ := told8_as h hreg
  have k1 := (Kept.refl [] w).alloc (.cells z12.toArray 49)
  obtain ⟨W, s1, s2, s3⟩ := store_whole (P := Tryd.prog) (X := cellsR [b0, b1, b2, b3, b4, b5, b6, b7] (.slice ea R.ev.length ec) (.slice sa R.sent.length sc) (.slice ta R.tm.length tc) R.k) (heap_alloc_new w (.cells z12.toArray 49)) rfl size49 (cellsR_one rfl rfl rfl)
  have kk : Kept [] w W := k1.trans s3 (fun x hx => .inr (by simp at hx; omega))
  exact ⟨W, ea, ec, sa, sc, ta, tc, s1, s2, hT.keep kk, kk⟩
section
variable {w : World}
set_option maxHeartbeats 16000000 in
theorem runs3 {v : Value} {p : Pg} (hP : PgIn w v p) (hG : Glob w) (reg : List Int) (h8 : reg.length = 8) (hr : ∀ z ∈ reg, I64 z) {lv : Value} {l : Lt} (hL : LtIn w lv l) (now : Int) (hn : I64 now) : Calls Tryd.prog 3 #[v, .agg (BI reg).toArray, lv, .int .i64 now] w fun e w' => e = .returned (.bool true) ∧ Kept [] w w' := by
  obtain ⟨⟨v1, u1, rfl, hI⟩, hK, hC⟩ := hP
  have hO : OkP p := fun x hx => (hC x hx).2
  obtain ⟨av, cv, bv, dv, rfl, rfl, -, -⟩ := hI.form
  obtain ⟨⟨lav, rfl, hA⟩, hlo, hlf⟩ := hL
  obtain ⟨aa, ac, rfl, ha1, ha2⟩ := hA.form
  rw [rowJ_length] at *
  obtain ⟨a0, a1, a2, a3, a4, a5, a6, a7, hreg⟩ := eight_of h8
  have hBI : (BI reg).toArray = #[.int .i64 a0, .int .i64 a1, .int .i64 a2, .int .i64 a3, .int .i64 a4, .int .i64 a5, .int .i64 a6, .int .i64 a7] := by rw [hreg]; rfl
  obtain ⟨W0, e0, k0, hz0, hb0, hb1, hb2⟩ := box3 w (.cells #[.slice av p.names.length cv, .slice bv p.code.length dv] 25) (.cells #[.int .i64 a0, .int .i64 a1, .int .i64 a2, .int .i64 a3, .int .i64 a4, .int .i64 a5, .int .i64 a6, .int .i64 a7] 26) (.cells #[.string ⟨l.fr.toArray⟩, .int .u64 (l.ser : Int), .int .i64 l.kind, .slice aa l.args.length ac] 30)
  have HAw : Hid (∀ W, Kept [] W0 W → Calls Tryd.prog 9 #[] W fun e w' => e = .returned (.bool true) ∧ Kept [] W w') := fun W k => awake9 (hG.kept (k0.then k))
  have HFw : Hid (∀ W, Kept [] W0 W → Calls Tryd.prog 10 #[.agg #[.slice av p.names.length cv, .slice bv p.code.length dv], .agg #[.string ⟨l.fr.toArray⟩, .int .u64 (l.ser : Int), .int .i64 l.kind, .slice aa l.args.length ac]] W fun e w' => FewL p l e ∧ Kept [] W w') := fun W k => few10 (hI.keep (k0.then k)) hK l aa ac hlf (by omega)
  have HTh : Hid (∀ W, Kept [] W0 W → p.names.length ≤ 1000 → p.code.length ≤ 1000 → Calls Tryd.prog 12 #[.agg #[.slice av p.names.length cv, .slice bv p.code.length dv]] W fun e w' => ∃ v' u', e = .returned (.agg #[v', u']) ∧ IsP w' v' u' p ∧ Kept [] W w') := fun W k h1 h2 => theirs11 (hI.keep (k0.then k)) h1 h2
  have HRun : Hid (∀ (v' u' : Value) W, Kept [] W0 W → IsP W v' u' p → Calls Tryd.prog 11 #[.agg #[v', u'], .agg #[.int .i64 a0, .int .i64 a1, .int .i64 a2, .int .i64 a3, .int .i64 a4, .int .i64 a5, .int .i64 a6, .int .i64 a7], .agg #[.string ⟨l.fr.toArray⟩, .int .u64 (l.ser : Int), .int .i64 l.kind, .slice aa l.args.length ac], .int .i64 now] W fun e w' => ∃ x, e = .returned (.tuple #[x, .int .i64 (resI p reg l now).2]) ∧ IsRs W.heap.size w' x (resI p reg l now).1 ∧ Kept [] W w') := fun v' u' W k h => by rw [← hBI]; exact run11 (hG.kept (k0.then k)) ⟨h, hK, hO, hA.keep (k0.then k), hlo, hlf, h8, hr, hn⟩
  have HS : Hid (∀ W, Kept [] W0 W → (W.cell? ⟨w.heap.size, 0, none⟩ = some (.slice av p.names.length cv) ∧ W.cell? ⟨w.heap.size, 1, none⟩ = some (.slice bv p.code.length dv)) ∧ (W.cell? ⟨w.heap.size + 1, 0, none⟩ = some (.int .i64 a0) ∧ W.cell? ⟨w.heap.size + 1, 1, none⟩ = some (.int .i64 a1) ∧ W.cell? ⟨w.heap.size + 1, 2, none⟩ = some (.int .i64 a2) ∧ W.cell? ⟨w.heap.size + 1, 3, none⟩ = some (.int .i64 a3) ∧ W.cell? ⟨w.heap.size + 1, 4, none⟩ = some (.int .i64 a4) ∧ W.cell? ⟨w.heap.size + 1, 5, none⟩ = some (.int .i64 a5) ∧ W.cell? ⟨w.heap.size + 1, 6, none⟩ = some (.int .i64 a6) ∧ W.cell? ⟨w.heap.size + 1, 7, none⟩ = some (.int .i64 a7)) ∧ (W.cell? ⟨w.heap.size + 1 + 1, 0, none⟩ = some (.string ⟨l.fr.toArray⟩) ∧ W.cell? ⟨w.heap.size + 1 + 1, 1, none⟩ = some (.int .u64 (l.ser : Int)) ∧ W.cell? ⟨w.heap.size + 1 + 1, 2, none⟩ = some (.int .i64 l.kind) ∧ W.cell? ⟨w.heap.size + 1 + 1, 3, none⟩ = some (.slice aa l.args.length ac))) := fun W k => ⟨cells2 (k.keeps hb0 (by simp)), cells8 (k.keeps hb1 (by simp)), cells4 (k.keeps hb2 (by simp))⟩
  have HR13 : Hid (∀ W, Kept [] W0 W → Calls Tryd.prog 13 #[.agg #[.slice av p.names.length cv, .slice bv p.code.length dv], .agg #[.int .i64 a0, .int .i64 a1, .int .i64 a2, .int .i64 a3, .int .i64 a4, .int .i64 a5, .int .i64 a6, .int .i64 a7], .agg #[.string ⟨l.fr.toArray⟩, .int .u64 (l.ser : Int), .int .i64 l.kind, .slice aa l.args.length ac], .int .i64 now] W fun e w' => ∃ x, e = .returned (.tuple #[x, .int .i64 (resI p reg l now).2]) ∧ IsRs W.heap.size w' x (resI p reg l now).1 ∧ Kept [] W w') := fun W k => by rw [← hBI]; exact run13 ⟨hI.keep (k0.then k), hK, hO, hA.keep (k0.then k), hlo, hlf, h8, hr, hn⟩
  have HRF := Hid.mk (run_facts (l := l) (now := now) (reg := reg) hO)
  have HSM := Hid.mk (run_small hO hlo hn hr)
  have HB1 := Hid.mk hb1
  have HK0 := Hid.mk k0
  obtain ⟨y0, y1⟩ := cells2 hb0
  obtain ⟨y2, y3, y4, y5⟩ := cells4 hb2
  rw [hBI]
  clear k0 hb0 hb1 hb2 hz0 hI hK hC hG hO hA hlo hlf hBI
  go_enter Tryd.func3, Tryd.ntmps3
  go_wp2_with fail
  refine (HAw.out W0 (Kept.refl [] W0)).mono ?_
  rintro e w1 ⟨rfl, k1⟩
  have K1 := Hid.mk k1
  clear k1 y0 y1 y2 y3 y4 y5
  obtain ⟨⟨y0, y1⟩, -, y2, y3, y4, y5⟩ := HS.out w1 K1.out
  go_wp2_with fail
  refine (HFw.out w1 K1.out).mono ?_
  rintro e w2 ⟨hf, k2⟩
  have K2 := Hid.mk (K1.out.then k2)
  clear k2 y0 y1 y2 y3 y4 y5
  rcases hf with ⟨rfl, q1, q2, q3, q4, q5⟩ | rfl
  · have KD := Hid.mk K2.out.drew
    have KA := Hid.mk (K2.out.alloc (.cells #[.int .i64 0, .int .i64 0, .int .i64 0, .int .i64 0, .int .i64 0, .int .i64 0, .int .i64 0, .int .i64 0, .slice none 0 0, .slice none 0 0, .slice none 0 0, .int .i64 0] 37)).drew
    have HTh := Hid.mk (fun W k => HTh.out W k (by omega) (by omega))
    have S0 := HS.out _ KD.out
    have S1 := HS.out _ KA.out
    generalize resI p reg l now = R at *
    go_wp2_with fail
    go_cut [9, 10] (fun a b wc => ∃ g : Nat, a = .pointer (some ⟨g, 0, none⟩) ∧ b = .int .i64 R.2 ∧ Hid (ResX W0 wc g R.1))
    case first =>
      go_region_held3 (fun V => (V.cell? ⟨w.heap.size, 0, none⟩ = some (.slice av p.names.length cv) ∧ V.cell? ⟨w.heap.size, 1, none⟩ = some (.slice bv p.code.length dv)) ∧ (V.cell? ⟨w.heap.size + 1, 0, none⟩ = some (.int .i64 a0) ∧ V.cell? ⟨w.heap.size + 1, 1, none⟩ = some (.int .i64 a1) ∧ V.cell? ⟨w.heap.size + 1, 2, none⟩ = some (.int .i64 a2) ∧ V.cell? ⟨w.heap.size + 1, 3, none⟩ = some (.int .i64 a3) ∧ V.cell? ⟨w.heap.size + 1, 4, none⟩ = some (.int .i64 a4) ∧ V.cell? ⟨w.heap.size + 1, 5, none⟩ = some (.int .i64 a5) ∧ V.cell? ⟨w.heap.size + 1, 6, none⟩ = some (.int .i64 a6) ∧ V.cell? ⟨w.heap.size + 1, 7, none⟩ = some (.int .i64 a7)) ∧ (V.cell? ⟨w.heap.size + 1 + 1, 0, none⟩ = some (.string ⟨l.fr.toArray⟩) ∧ V.cell? ⟨w.heap.size + 1 + 1, 1, none⟩ = some (.int .u64 (l.ser : Int)) ∧ V.cell? ⟨w.heap.size + 1 + 1, 2, none⟩ = some (.int .i64 l.kind) ∧ V.cell? ⟨w.heap.size + 1 + 1, 3, none⟩ = some (.slice aa l.args.length ac))) (first | with_reducible exact S0 | with_reducible exact S1 | with_reducible exact S4 | with_reducible exact S3 | with_reducible exact HS.out _ K5.out | with_reducible exact HS.out _ (K4.out.alloc _) | with_reducible exact HS.out _ (K3.out.alloc _)) (first | (go_at_call 11; first | ((revert hbA; intro hbA); (with_reducible refine (HRun.out _ _ _ K3.out I3.out).mono ?_); rintro e w4 ⟨xv, rfl, hR, k4⟩; have K4 := Hid.mk (K3.out.then k4); obtain ⟨X, rfl, hXl, hS5⟩ := resX_cells (g := 0) hR K4.out K3.out.size; obtain ⟨W5, hst, hX⟩ := hS5 w2.heap.size w4 (k4.keeps hbA (by simp)) K2.out.size (.inl HLT.out) (.inl rfl); have HX := Hid.mk hX; have K5 : Hid (Kept [] W0 W5) := hX.2.1; have S4 := HS.out w4 K4.out; clear hR k4 hX hS5) | ((with_reducible refine (HRun.out _ _ _ K3.out I3.out).mono ?_); rintro e w4 ⟨xv, rfl, hR, k4⟩; have K4 := Hid.mk (K3.out.then k4); obtain ⟨X, rfl, hXl, hS5⟩ := resX_cells (g := 0) hR K4.out K3.out.size; obtain ⟨W5, hst0, hX⟩ := hS5 w4.heap.size _ (heap_alloc_new w4 _) K4.out.size (.inr ⟨rfl, rfl⟩) (.inr rfl); have hst : (storeCells ⟨w4.heap.size, 0, none⟩ X).run Tryd.prog (w4.alloc (.cells #[.int .i64 0, .int .i64 0, .int .i64 0, .int .i64 0, .int .i64 0, .int .i64 0, .int .i64 0, .int .i64 0, .slice none 0 0, .slice none 0 0, .slice none 0 0, .int .i64 0] 37)) = .ok () W5 := hst0; have HX := Hid.mk hX; have K5 : Hid (Kept [] W0 W5) := hX.2.1; have S4 := HS.out w4 K4.out; clear hR k4 hX hS5) | ((with_reducible refine (HRun.out _ _ _ (K3.out.alloc _) (I3.out.keep ((Kept.refl [] w3).alloc _))).mono ?_); rintro e w4 ⟨xv, rfl, hR, k4⟩; have K4 := Hid.mk ((K3.out.alloc _).then k4); obtain ⟨X, rfl, hXl, hS5⟩ := resX_cells (g := 0) hR K4.out (K3.out.alloc _).size; obtain ⟨W5, hst, hX⟩ := hS5 w3.heap.size w4 (k4.keeps (heap_alloc_new w3 (.cells #[.int .i64 0, .int .i64 0, .int .i64 0, .int .i64 0, .int .i64 0, .int .i64 0, .int .i64 0, .int .i64 0, .slice none 0 0, .slice none 0 0, .slice none 0 0, .int .i64 0] 37)) (by simp)) K3.out.size (.inl (by simp)) (.inl rfl); have HX := Hid.mk hX; have K5 : Hid (Kept [] W0 W5) := hX.2.1; have S4 := HS.out w4 K4.out; clear hR k4 hX hS5)) | (go_at_call 12; first | ((with_reducible refine (HTh.out _ KD.out).mono ?_); rintro e w3 ⟨v', u', rfl, i3, k3⟩; have I3 := Hid.mk i3; have K3 := Hid.mk (KD.out.then k3); have S3 := HS.out w3 K3.out; clear i3 k3) | ((with_reducible refine (HTh.out _ KA.out).mono ?_); rintro e w3 ⟨v', u', rfl, i3, k3⟩; have I3 := Hid.mk i3; have K3 := Hid.mk (KA.out.then k3); have S3 := HS.out w3 K3.out; have hbA := k3.keeps (heap_alloc_new w2 (.cells #[.int .i64 0, .int .i64 0, .int .i64 0, .int .i64 0, .int .i64 0, .int .i64 0, .int .i64 0, .int .i64 0, .slice none 0 0, .slice none 0 0, .slice none 0 0, .int .i64 0] 37)) (by simp); have HLT : Hid (w2.heap.size < w3.heap.size) := lt_of_block hbA; clear i3 k3)))
      all_goals (go_wp2_with fail; go_meet; exact ⟨_, rfl, rfl, HX⟩)
    case rest =>
    obtain ⟨g, ra, rb, HX⟩ := hcut
    subst ra
    subst rb
    obtain ⟨⟨ev, sn, tm, hB, -, -, -⟩, KX, hg⟩ := HX.out
    obtain ⟨b0, b1, b2, b3, b4, b5, b6, b7, hreg9⟩ := eight_of hB.r8
    obtain ⟨ea, ec, rfl, -⟩ := hB.ev.form
    obtain ⟨sa, sc, rfl, -⟩ := hB.sn.form
    obtain ⟨ta, tc, rfl, -⟩ := hB.tm.form
    rw [rowE_length, rowS_length, rowT_length] at hB
    have HTO : Hid (Told8 0 wc R.1 b0 b1 b2 b3 b4 b5 b6 b7 ea ec sa sc ta tc) := Hid.mk ⟨hreg9, hB.ev, hB.sn, hB.tm, fun _ _ => Nat.zero_le _, fun _ _ => Nat.zero_le _, fun _ _ => Nat.zero_le _⟩
    have hbg : wc.heap[g]? = some (.cells #[.int .i64 b0, .int .i64 b1, .int .i64 b2, .int .i64 b3, .int .i64 b4, .int .i64 b5, .int .i64 b6, .int .i64 b7, .slice ea R.1.ev.length ec, .slice sa R.1.sent.length sc, .slice ta R.1.tm.length tc, .int .i64 (R.1.k : Int)] 37 (0, 0)) := by
      have := hB.box
      rw [hreg9] at this
      exact this
    have HBG := Hid.mk hbg
    have HKX := Hid.mk KX
    have HREG := Hid.mk hreg9
    obtain ⟨⟨y0, y1⟩, ⟨z0, z1, z2, z3, z4, z5, z6, z7⟩, y2, y3, y4, y5⟩ := HS.out wc KX
    clear hB KX hg HX hbg hreg9 HTh HRun HFw HAw S0 S1 HB1
    go_wp2_with (first | (go_at_call 13; refine (HR13.out wc HKX.out).mono ?_; rintro e w4 ⟨x, rfl, hR, k4⟩; obtain ⟨W5, ea2, ec2, sa2, sc2, ta2, tc2, hst, hbx, hT2, k5⟩ := res_box49 hR HREG.out; have K5 := Hid.mk (k4.then k5); have HT2 := Hid.mk hT2; have HBX := Hid.mk hbx; clear hR k4 k5 hT2 hbx) | (refine wpList_alloc_run 49 rfl rfl _ _ (alloc49 w4) ?_) | (refine wpList_store_run 49 (.tmp 11) (.tmp 37) rfl rfl _ _ rfl rfl _ hst ?_))
    generalize w4.heap.size = g2 at *
    have HS5 : Hid (∀ V, Kept [] W5 V → (V.cell? ⟨g, 0, none⟩ = some (.int .i64 b0) ∧ V.cell? ⟨g, 1, none⟩ = some (.int .i64 b1) ∧ V.cell? ⟨g, 2, none⟩ = some (.int .i64 b2) ∧ V.cell? ⟨g, 3, none⟩ = some (.int .i64 b3) ∧ V.cell? ⟨g, 4, none⟩ = some (.int .i64 b4) ∧ V.cell? ⟨g, 5, none⟩ = some (.int .i64 b5) ∧ V.cell? ⟨g, 6, none⟩ = some (.int .i64 b6) ∧ V.cell? ⟨g, 7, none⟩ = some (.int .i64 b7) ∧ V.cell? ⟨g, 8, none⟩ = some (.slice ea R.1.ev.length ec) ∧ V.cell? ⟨g, 9, none⟩ = some (.slice sa R.1.sent.length sc) ∧ V.cell? ⟨g, 10, none⟩ = some (.slice ta R.1.tm.length tc) ∧ V.cell? ⟨g, 11, none⟩ = some (.int .i64 (R.1.k : Int))) ∧ (V.cell? ⟨g2, 0, none⟩ = some (.int .i64 b0) ∧ V.cell? ⟨g2, 1, none⟩ = some (.int .i64 b1) ∧ V.cell? ⟨g2, 2, none⟩ = some (.int .i64 b2) ∧ V.cell? ⟨g2, 3, none⟩ = some (.int .i64 b3) ∧ V.cell? ⟨g2, 4, none⟩ = some (.int .i64 b4) ∧ V.cell? ⟨g2, 5, none⟩ = some (.int .i64 b5) ∧ V.cell? ⟨g2, 6, none⟩ = some (.int .i64 b6) ∧ V.cell? ⟨g2, 7, none⟩ = some (.int .i64 b7) ∧ V.cell? ⟨g2, 8, none⟩ = some (.slice ea2 R.1.ev.length ec2) ∧ V.cell? ⟨g2, 9, none⟩ = some (.slice sa2 R.1.sent.length sc2) ∧ V.cell? ⟨g2, 10, none⟩ = some (.slice ta2 R.1.tm.length tc2) ∧ V.cell? ⟨g2, 11, none⟩ = some (.int .i64 (R.1.k : Int)))) := Hid.mk (fun V k => ⟨cells12 ((K5.out.then k).keeps HBG.out (by simp)), cells12 (k.keeps HBX.out (by simp))⟩)
    obtain ⟨l1, l3⟩ := HSM.out
    have l2 := HRF.out.sent
    have HO : Hid (∀ V, Kept [] W5 V → Calls Tryd.prog 15 #[.agg #[.int .i64 b0, .int .i64 b1, .int .i64 b2, .int .i64 b3, .int .i64 b4, .int .i64 b5, .int .i64 b6, .int .i64 b7, .slice ea R.1.ev.length ec, .slice sa R.1.sent.length sc, .slice ta R.1.tm.length tc, .int .i64 (R.1.k : Int)]] V fun e w' => ∃ x, e = .returned x ∧ IsRs V.heap.size w' x R.1 ∧ Kept [] V w') := Hid.mk (fun V k => ours15 (HTO.out.keep (K5.out.then k)) (by omega) (by omega) (by omega))
    have HQ : Hid (∀ V (x : Value) (n : Nat), Kept [] W5 V → IsRs n V x R.1 → Calls Tryd.prog 14 #[x, .agg #[.int .i64 b0, .int .i64 b1, .int .i64 b2, .int .i64 b3, .int .i64 b4, .int .i64 b5, .int .i64 b6, .int .i64 b7, .slice ea2 R.1.ev.length ec2, .slice sa2 R.1.sent.length sc2, .slice ta2 R.1.tm.length tc2, .int .i64 (R.1.k : Int)]] V fun e w' => e = .returned (.bool true) ∧ Kept [] V w') := Hid.mk (fun V x n k hx => by
      obtain ⟨ea3, ec3, sa3, sc3, ta3, tc3, rfl, hT3⟩ := told8_as hx HREG.out
      exact same14 hT3 (HT2.out.keep k))
    have KD : Hid (Kept [] W5 W5.drew) := Hid.mk (Kept.refl [] W5).drew
    have S5 := HS5.out _ KD.out
    have HEND : Hid (∀ V, Kept [] W5 V → Kept [] w V) := Hid.mk (fun V k => HK0.out.then (HKX.out.then (K5.out.then k)))
    clear y0 y1 y2 y3 y4 y5 z0 z1 z2 z3 z4 z5 z6 z7 hst l1 l2 l3 HSM HRF HR13
    generalize R.2 = rc at *
    go_region_held3 (fun V => (V.cell? ⟨g, 0, none⟩ = some (.int .i64 b0) ∧ V.cell? ⟨g, 1, none⟩ = some (.int .i64 b1) ∧ V.cell? ⟨g, 2, none⟩ = some (.int .i64 b2) ∧ V.cell? ⟨g, 3, none⟩ = some (.int .i64 b3) ∧ V.cell? ⟨g, 4, none⟩ = some (.int .i64 b4) ∧ V.cell? ⟨g, 5, none⟩ = some (.int .i64 b5) ∧ V.cell? ⟨g, 6, none⟩ = some (.int .i64 b6) ∧ V.cell? ⟨g, 7, none⟩ = some (.int .i64 b7) ∧ V.cell? ⟨g, 8, none⟩ = some (.slice ea R.1.ev.length ec) ∧ V.cell? ⟨g, 9, none⟩ = some (.slice sa R.1.sent.length sc) ∧ V.cell? ⟨g, 10, none⟩ = some (.slice ta R.1.tm.length tc) ∧ V.cell? ⟨g, 11, none⟩ = some (.int .i64 (R.1.k : Int))) ∧ (V.cell? ⟨g2, 0, none⟩ = some (.int .i64 b0) ∧ V.cell? ⟨g2, 1, none⟩ = some (.int .i64 b1) ∧ V.cell? ⟨g2, 2, none⟩ = some (.int .i64 b2) ∧ V.cell? ⟨g2, 3, none⟩ = some (.int .i64 b3) ∧ V.cell? ⟨g2, 4, none⟩ = some (.int .i64 b4) ∧ V.cell? ⟨g2, 5, none⟩ = some (.int .i64 b5) ∧ V.cell? ⟨g2, 6, none⟩ = some (.int .i64 b6) ∧ V.cell? ⟨g2, 7, none⟩ = some (.int .i64 b7) ∧ V.cell? ⟨g2, 8, none⟩ = some (.slice ea2 R.1.ev.length ec2) ∧ V.cell? ⟨g2, 9, none⟩ = some (.slice sa2 R.1.sent.length sc2) ∧ V.cell? ⟨g2, 10, none⟩ = some (.slice ta2 R.1.tm.length tc2) ∧ V.cell? ⟨g2, 11, none⟩ = some (.int .i64 (R.1.k : Int)))) (first | with_reducible exact S5 | with_reducible exact S6 | with_reducible exact S7) (first | (go_at_call 14; refine (HQ.out _ _ _ K6.out hx6).mono ?_; rintro e w7 ⟨rfl, k7⟩; have K7 := Hid.mk (K6.out.then k7); have S7 := HS5.out w7 K7.out; clear k7) | (go_at_call 15; refine (HO.out _ KD.out).mono ?_; rintro e w6 ⟨x6, rfl, hx6, k6⟩; have K6 := Hid.mk (KD.out.then k6); have S6 := HS5.out w6 K6.out; clear k6))
    all_goals
      go_wp2_with fail
      go_ret
      exact ⟨rfl, HEND.out _ K7.out⟩
  · have S0 := K2.out
    go_wp2_with (go_at_call 9; refine (HAw.out w2 K2.out).mono ?_; rintro e w3 ⟨rfl, k3⟩)
    go_ret
    exact ⟨rfl, HK0.out.then (S0.then k3)⟩
end
end Go.Proofs.YtpodoiichpnpjaaDoor
