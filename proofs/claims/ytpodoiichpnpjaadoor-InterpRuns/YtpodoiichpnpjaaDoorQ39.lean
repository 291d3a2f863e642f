import Derived.Deep.DeepCutAuto
import Derived.ChangeKeysEq
import Derived.Test.YtpodoiichpnpjaaDoorQ36
import Derived.Test.YtpodoiichpnpjaaDoorQ37
import Derived.Test.YtpodoiichpnpjaaDoorQ38
/-
  InterpEvents' walk.
-/
namespace Go.Proofs.YtpodoiichpnpjaaDoor
open Go.RowKit
set_option maxRecDepth 100000
set_option linter.unusedVariables false
theorem box3 (w : World) (o0 o1 o2 : Obj) : ∃ W, ((w.alloc o0).alloc o1).alloc o2 = W ∧ Kept [] w W ∧ W.heap.size = w.heap.size + 3 ∧ W.heap[w.heap.size]? = some o0 ∧ W.heap[w.heap.size + 1]? = some o1 ∧ W.heap[w.heap.size + 1 + 1]? = some o2 := by
  refine ⟨_, rfl, (((Kept.refl [] w).alloc _).alloc _).alloc _, by simp, ?_, ?_, ?_⟩
  · rw [Below.heap_alloc _ _ _ (by simp <;> omega), Below.heap_alloc _ _ _ (by simp)]; exact heap_alloc_new w _
  · rw [Below.heap_alloc _ _ _ (by simp)]
    have := heap_alloc_new (w.alloc o0) o1
    simpa using this
  · have := heap_alloc_new ((w.alloc o0).alloc o1) o2
    simpa using this
theorem equal26 (a0 a1 a2 a3 a4 a5 a6 a7 : Int) (W : World) : (Op.equalIn 10000 26 (.agg #[.int .i64 a0, .int .i64 a1, .int .i64 a2, .int .i64 a3, .int .i64 a4, .int .i64 a5, .int .i64 a6, .int .i64 a7]) (.agg #[.int .i64 a0, .int .i64 a1, .int .i64 a2, .int .i64 a3, .int .i64 a4, .int .i64 a5, .int .i64 a6, .int .i64 a7])).run Tryd.prog W = .ok true W := by
  have hi : ∃ i, Tryd.prog.info? 2 = some i := Option.isSome_iff_exists.1 (by kernel_rfl)
  obtain ⟨i, hi⟩ := hi
  have hg : ∀ W : World, (isAgg 2).run Tryd.prog W = .ok false W := fun W => by kernel_rfl
  have he : ∀ (x : Int) (W : World), (Op.equalIn 9999 2 (.int .i64 x) (.int .i64 x)).run Tryd.prog W = .ok true W := fun x W => by
    rw [run_equalIn_int W 9998 2 .i64 _ x x Tryd.underlying2]; simp
  have hc : Tryd.prog.cellsOf 2 = 1 := by kernel_rfl
  have hr : List.range 8 = [0, 1, 2, 3, 4, 5, 6, 7] := by decide
  rw [run_equalIn_array W 9999 _ _ Tryd.underlying26 hi, hc, hr]
  simp [Op.eqItems, part, hg, he, go_sem]
theorem doA_take {b : List Int} {l : List Ev} {k : Nat} {y : Ev} (hy : l[k]? = some y) : doA b (l.take (k + 1)) = (doA b (l.take k)).set y.r y.v := by
  rw [List.take_add_one, hy, doA_append]
  rfl
theorem doA_len (b : List Int) : ∀ (l : List Ev), (doA b l).length = b.length := fun l => by
  induction l generalizing b with
  | nil => rfl
  | cons e l ih => show (doA (b.set e.r e.v) l).length = _; rw [ih, List.length_set]
/-- What is known of any answer. -/
structure RunF (reg : List Int) (now : Int) (R : Rsl × Int) : Prop where
  k : R.1.k ≤ 500
  sent : R.1.sent.length ≤ 4
  err : R.2 ≠ 0 → R.1 = Rsl.none R.1.k ∧ (R.1.k = 500 ∨ R.2 ≠ 11)
  ok : R.2 = 0 → R.1.reg = doA reg R.1.ev ∧ (∀ e ∈ R.1.ev, e.r ≤ 7) ∧ (∀ t ∈ R.1.tm, t.can = false → now ≤ t.due ∧ 1 ≤ t.per)
theorem run_facts {p : Pg} {l : Lt} {now : Int} {reg : List Int} (hO : OkP p) : RunF reg now (resI p reg l now) := by
  unfold resI
  by_cases hm : mayI p l now = true
  · rw [if_pos hm]
    have hf := run_fine (l := l) (formed_named (may_parts hm).1 hO).1 500 0 _ (Fine.start (reg0 := reg) (now := now))
    cases hr : runI p l now 500 0 (Mc.start reg) with
    | ok m k =>
      rw [hr] at hf
      obtain ⟨h1, h2⟩ := hf
      exact ⟨by show k ≤ 500; omega, h1.sent, fun h => absurd rfl h, fun _ => ⟨h1.reg, h1.ev, h1.tm⟩⟩
    | err e k =>
      rw [hr] at hf
      obtain ⟨h1, h2, h3⟩ := hf
      refine ⟨by show k ≤ 500; omega, by show 0 ≤ 4; omega, fun _ => ⟨rfl, ?_⟩, fun h => ?_⟩
      · show k = 500 ∨ e ≠ 11
        by_cases h11 : e = 11
        · exact .inl (by have := h2 h11; omega)
        · exact .inr h11
      · have h : e = 0 := h
        omega
  · rw [if_neg hm]
    exact ⟨by show 0 ≤ 500; omega, by show 0 ≤ 4; omega, fun _ => ⟨rfl, .inr (by decide)⟩, fun h => absurd h (by decide)⟩
/-- The cells of an event. -/
theorem rowE_at {w : World} {a : Option Addr} {n c : Nat} {C : List Ev} (h : ReadsR 2 w (.slice a n c) (rowE C)) {j : Nat} {x : Ev} (hj : C[j]? = some x) : ∃ b o, a = some ⟨b, o, none⟩ ∧ w.cell? ⟨b, o + j * 2, none⟩ = some (.int .i64 (x.r : Int)) ∧ w.cell? ⟨b, o + j * 2 + 1, none⟩ = some (.int .i64 x.v) := by
  obtain ⟨b, o, c', e, hc⟩ := h.at j [.int .i64 (x.r : Int), .int .i64 x.v] (by simp [rowE, hj])
  simp only [Value.slice.injEq] at e
  exact ⟨b, o, e.1, hc 0 _ rfl, hc 1 _ rfl⟩
section
variable {w : World}
set_option maxHeartbeats 8000000 in
theorem events4 {v : Value} {p : Pg} (hP : PgIn w v p) (hG : Glob w) (reg : List Int) (h8 : reg.length = 8) (hr : ∀ z ∈ reg, I64 z) {lv : Value} {l : Lt} (hL : LtIn w lv l) (now : Int) (hn : I64 now) : Calls Tryd.prog 4 #[v, .agg (BI reg).toArray, lv, .int .i64 now] w fun e w' => e = .returned (.bool true) ∧ Kept [] w w' := by
  obtain ⟨⟨v1, u1, rfl, hI⟩, hK, hC⟩ := hP
  have hO : OkP p := fun x hx => (hC x hx).2
  obtain ⟨av, cv, bv, dv, rfl, rfl, -, -⟩ := hI.form
  obtain ⟨⟨lav, rfl, hA⟩, hlo, hlf⟩ := hL
  obtain ⟨aa, ac, rfl, ha1, ha2⟩ := hA.form
  rw [rowJ_length] at *
  obtain ⟨a0, a1, a2, a3, a4, a5, a6, a7, hreg⟩ := eight_of h8
  have hBI : (BI reg).toArray = #[.int .i64 a0, .int .i64 a1, .int .i64 a2, .int .i64 a3, .int .i64 a4, .int .i64 a5, .int .i64 a6, .int .i64 a7] := by rw [hreg]; rfl
  obtain ⟨W0, e0, k0, hz0, hb0, hb1, hb2⟩ := box3 w (.cells #[.slice av p.names.length cv, .slice bv p.code.length dv] 25) (.cells #[.int .i64 a0, .int .i64 a1, .int .i64 a2, .int .i64 a3, .int .i64 a4, .int .i64 a5, .int .i64 a6, .int .i64 a7] 26) (.cells #[.string ⟨l.fr.toArray⟩, .int .u64 (l.ser : Int), .int .i64 l.kind, .slice aa l.args.length ac] 30)
  have HAw : Hid (∀ W, Kept [] W0 W → Calls Tryd.prog 9 #[] W fun e w' => e = .returned (.bool true) ∧ Kept [] W w') := fun W k => awake9 (hG.kept (k0.then k))
  have HFw : Hid (∀ W, Kept [] W0 W → Calls Tryd.prog 10 #[.agg #[.slice av p.names.length cv, .slice bv p.code.length dv], .agg #[.string ⟨l.fr.toArray⟩, .int .u64 (l.ser : Int), .int .i64 l.kind, .slice aa l.args.length ac]] W fun e w' => FewL p l e ∧ Kept [] W w') := fun W k => few10 (hI.keep (k0.then k)) hK l aa ac hlf (by omega)
  have HTh : Hid (∀ W, Kept [] W0 W → p.names.length ≤ 1000 → p.code.length ≤ 1000 → Calls Tryd.prog 12 #[.agg #[.slice av p.names.length cv, .slice bv p.code.length dv]] W fun e w' => ∃ v' u', e = .returned (.agg #[v', u']) ∧ IsP w' v' u' p ∧ Kept [] W w') := fun W k h1 h2 => theirs11 (hI.keep (k0.then k)) h1 h2
  have HRun : Hid (∀ (v' u' : Value) W, Kept [] W0 W → IsP W v' u' p → Calls Tryd.prog 11 #[.agg #[v', u'], .agg #[.int .i64 a0, .int .i64 a1, .int .i64 a2, .int .i64 a3, .int .i64 a4, .int .i64 a5, .int .i64 a6, .int .i64 a7], .agg #[.string ⟨l.fr.toArray⟩, .int .u64 (l.ser : Int), .int .i64 l.kind, .slice aa l.args.length ac], .int .i64 now] W fun e w' => ∃ x, e = .returned (.tuple #[x, .int .i64 (resI p reg l now).2]) ∧ IsRs W.heap.size w' x (resI p reg l now).1 ∧ Kept [] W w') := fun v' u' W k h => by rw [← hBI]; exact run11 (hG.kept (k0.then k)) ⟨h, hK, hO, hA.keep (k0.then k), hlo, hlf, h8, hr, hn⟩
  have HS : Hid (∀ W, Kept [] W0 W → (W.cell? ⟨w.heap.size, 0, none⟩ = some (.slice av p.names.length cv) ∧ W.cell? ⟨w.heap.size, 1, none⟩ = some (.slice bv p.code.length dv)) ∧ (W.cell? ⟨w.heap.size + 1, 0, none⟩ = some (.int .i64 a0) ∧ W.cell? ⟨w.heap.size + 1, 1, none⟩ = some (.int .i64 a1) ∧ W.cell? ⟨w.heap.size + 1, 2, none⟩ = some (.int .i64 a2) ∧ W.cell? ⟨w.heap.size + 1, 3, none⟩ = some (.int .i64 a3) ∧ W.cell? ⟨w.heap.size + 1, 4, none⟩ = some (.int .i64 a4) ∧ W.cell? ⟨w.heap.size + 1, 5, none⟩ = some (.int .i64 a5) ∧ W.cell? ⟨w.heap.size + 1, 6, none⟩ = some (.int .i64 a6) ∧ W.cell? ⟨w.heap.size + 1, 7, none⟩ = some (.int .i64 a7)) ∧ (W.cell? ⟨w.heap.size + 1 + 1, 0, none⟩ = some (.string ⟨l.fr.toArray⟩) ∧ W.cell? ⟨w.heap.size + 1 + 1, 1, none⟩ = some (.int .u64 (l.ser : Int)) ∧ W.cell? ⟨w.heap.size + 1 + 1, 2, none⟩ = some (.int .i64 l.kind) ∧ W.cell? ⟨w.heap.size + 1 + 1, 3, none⟩ = some (.slice aa l.args.length ac))) := fun W k => ⟨cells2 (k.keeps hb0 (by simp)), cells8 (k.keeps hb1 (by simp)), cells4 (k.keeps hb2 (by simp))⟩
  have HRF := Hid.mk (run_facts (l := l) (now := now) (reg := reg) hO)
  have HB1 := Hid.mk hb1
  have HK0 := Hid.mk k0
  obtain ⟨y0, y1⟩ := cells2 hb0
  obtain ⟨y2, y3, y4, y5⟩ := cells4 hb2
  rw [hBI]
  clear k0 hb0 hb1 hb2 hz0 hI hK hC hG hO hA hlo hlf hBI
  go_enter Tryd.func4, Tryd.ntmps4
  go_wp2_with fail
  refine (HAw.out W0 (Kept.refl [] W0)).mono ?_
  rintro e w1 ⟨rfl, k1⟩
  have K1 := Hid.mk k1
  clear k1 y0 y1 y2 y3 y4 y5
  obtain ⟨⟨y0, y1⟩, -, y2, y3, y4, y5⟩ := HS.out w1 K1.out
  go_wp2_with fail
  refine (HFw.out w1 K1.out).mono ?_
  rintro e w2 ⟨hf, k2⟩
  have K2 := Hid.mk (K1.out.then k2)
  clear k2 y0 y1 y2 y3 y4 y5
  rcases hf with ⟨rfl, q1, q2, q3, q4, q5⟩ | rfl
  · have KD := Hid.mk K2.out.drew
    have KA := Hid.mk (K2.out.alloc (.cells #[.int .i64 0, .int .i64 0, .int .i64 0, .int .i64 0, .int .i64 0, .int .i64 0, .int .i64 0, .int .i64 0, .slice none 0 0, .slice none 0 0, .slice none 0 0, .int .i64 0] 37)).drew
    have HTh := Hid.mk (fun W k => HTh.out W k (by omega) (by omega))
    have S0 := HS.out _ KD.out
    have S1 := HS.out _ KA.out
    generalize resI p reg l now = R at *
    go_wp2_with fail
    go_cut [9, 10] (fun a b wc => ∃ g : Nat, a = .pointer (some ⟨g, 0, none⟩) ∧ b = .int .i64 R.2 ∧ Hid (ResX W0 wc g R.1))
    case first =>
      go_region_held3 (fun V => (V.cell? ⟨w.heap.size, 0, none⟩ = some (.slice av p.names.length cv) ∧ V.cell? ⟨w.heap.size, 1, none⟩ = some (.slice bv p.code.length dv)) ∧ (V.cell? ⟨w.heap.size + 1, 0, none⟩ = some (.int .i64 a0) ∧ V.cell? ⟨w.heap.size + 1, 1, none⟩ = some (.int .i64 a1) ∧ V.cell? ⟨w.heap.size + 1, 2, none⟩ = some (.int .i64 a2) ∧ V.cell? ⟨w.heap.size + 1, 3, none⟩ = some (.int .i64 a3) ∧ V.cell? ⟨w.heap.size + 1, 4, none⟩ = some (.int .i64 a4) ∧ V.cell? ⟨w.heap.size + 1, 5, none⟩ = some (.int .i64 a5) ∧ V.cell? ⟨w.heap.size + 1, 6, none⟩ = some (.int .i64 a6) ∧ V.cell? ⟨w.heap.size + 1, 7, none⟩ = some (.int .i64 a7)) ∧ (V.cell? ⟨w.heap.size + 1 + 1, 0, none⟩ = some (.string ⟨l.fr.toArray⟩) ∧ V.cell? ⟨w.heap.size + 1 + 1, 1, none⟩ = some (.int .u64 (l.ser : Int)) ∧ V.cell? ⟨w.heap.size + 1 + 1, 2, none⟩ = some (.int .i64 l.kind) ∧ V.cell? ⟨w.heap.size + 1 + 1, 3, none⟩ = some (.slice aa l.args.length ac))) (first | with_reducible exact S0 | with_reducible exact S1 | with_reducible exact S4 | with_reducible exact S3 | with_reducible exact HS.out _ K5.out | with_reducible exact HS.out _ (K4.out.alloc _) | with_reducible exact HS.out _ (K3.out.alloc _)) (first | (go_at_call 11; first | ((revert hbA; intro hbA); (with_reducible refine (HRun.out _ _ _ K3.out I3.out).mono ?_); rintro e w4 ⟨xv, rfl, hR, k4⟩; have K4 := Hid.mk (K3.out.then k4); obtain ⟨X, rfl, hXl, hS5⟩ := resX_cells (g := 0) hR K4.out K3.out.size; obtain ⟨W5, hst, hX⟩ := hS5 w2.heap.size w4 (k4.keeps hbA (by simp)) K2.out.size (.inl HLT.out) (.inl rfl); have HX := Hid.mk hX; have K5 : Hid (Kept [] W0 W5) := hX.2.1; have S4 := HS.out w4 K4.out; clear hR k4 hX hS5) | ((with_reducible refine (HRun.out _ _ _ K3.out I3.out).mono ?_); rintro e w4 ⟨xv, rfl, hR, k4⟩; have K4 := Hid.mk (K3.out.then k4); obtain ⟨X, rfl, hXl, hS5⟩ := resX_cells (g := 0) hR K4.out K3.out.size; obtain ⟨W5, hst0, hX⟩ := hS5 w4.heap.size _ (heap_alloc_new w4 _) K4.out.size (.inr ⟨rfl, rfl⟩) (.inr rfl); have hst : (storeCells ⟨w4.heap.size, 0, none⟩ X).run Tryd.prog (w4.alloc (.cells #[.int .i64 0, .int .i64 0, .int .i64 0, .int .i64 0, .int .i64 0, .int .i64 0, .int .i64 0, .int .i64 0, .slice none 0 0, .slice none 0 0, .slice none 0 0, .int .i64 0] 37)) = .ok () W5 := hst0; have HX := Hid.mk hX; have K5 : Hid (Kept [] W0 W5) := hX.2.1; have S4 := HS.out w4 K4.out; clear hR k4 hX hS5) | ((with_reducible refine (HRun.out _ _ _ (K3.out.alloc _) (I3.out.keep ((Kept.refl [] w3).alloc _))).mono ?_); rintro e w4 ⟨xv, rfl, hR, k4⟩; have K4 := Hid.mk ((K3.out.alloc _).then k4); obtain ⟨X, rfl, hXl, hS5⟩ := resX_cells (g := 0) hR K4.out (K3.out.alloc _).size; obtain ⟨W5, hst, hX⟩ := hS5 w3.heap.size w4 (k4.keeps (heap_alloc_new w3 (.cells #[.int .i64 0, .int .i64 0, .int .i64 0, .int .i64 0, .int .i64 0, .int .i64 0, .int .i64 0, .int .i64 0, .slice none 0 0, .slice none 0 0, .slice none 0 0, .int .i64 0] 37)) (by simp)) K3.out.size (.inl (by simp)) (.inl rfl); have HX := Hid.mk hX; have K5 : Hid (Kept [] W0 W5) := hX.2.1; have S4 := HS.out w4 K4.out; clear hR k4 hX hS5)) | (go_at_call 12; first | ((with_reducible refine (HTh.out _ KD.out).mono ?_); rintro e w3 ⟨v', u', rfl, i3, k3⟩; have I3 := Hid.mk i3; have K3 := Hid.mk (KD.out.then k3); have S3 := HS.out w3 K3.out; clear i3 k3) | ((with_reducible refine (HTh.out _ KA.out).mono ?_); rintro e w3 ⟨v', u', rfl, i3, k3⟩; have I3 := Hid.mk i3; have K3 := Hid.mk (KA.out.then k3); have S3 := HS.out w3 K3.out; have hbA := k3.keeps (heap_alloc_new w2 (.cells #[.int .i64 0, .int .i64 0, .int .i64 0, .int .i64 0, .int .i64 0, .int .i64 0, .int .i64 0, .int .i64 0, .slice none 0 0, .slice none 0 0, .slice none 0 0, .int .i64 0] 37)) (by simp); have HLT : Hid (w2.heap.size < w3.heap.size) := lt_of_block hbA; clear i3 k3)))
      all_goals (go_wp2_with fail; go_meet; exact ⟨_, rfl, rfl, HX⟩)
    case rest =>
    obtain ⟨g, ra, rb, HX⟩ := hcut
    subst ra
    subst rb
    obtain ⟨⟨ev, sn, tm, hB, n1, n2, n3⟩, KX, hg⟩ := HX.out
    have HB := Hid.mk hB
    have KX := Hid.mk KX
    obtain ⟨ea, ec, rfl, x1, x2⟩ := hB.ev.form
    obtain ⟨sa, sc, rfl, -⟩ := hB.sn.form
    obtain ⟨ta, tc, rfl, x3, x4⟩ := hB.tm.form
    have l1 : R.1.ev.length ≤ 9223372036854775807 := by rw [rowE_length] at x1; omega
    have l2 : R.1.tm.length ≤ 9223372036854775807 := by rw [rowT_length] at x3; omega
    clear x1 x2 x3 x4
    have c8 := hB.c_ev
    have c9 := hB.c_sn
    have c10 := hB.c_tm
    have c11 := hB.c_k
    rw [rowE_length] at c8
    rw [rowS_length] at c9
    rw [rowT_length] at c10
    have p1 := HRF.out.k
    have p2 := HRF.out.sent
    have p3 : ¬ (500 : Int) < (R.1.k : Int) := by omega
    have p4 : ¬ (4 : Int) < (R.1.sent.length : Int) := by omega
    have p5 : ¬ (R.1.k : Int) < 0 := by omega
    clear KD KA S0 S1 HTh HRun HFw HAw K2 hB
    by_cases he : R.2 = 0
    · obtain ⟨hreg2, hevs, htms⟩ := HRF.out.ok he
      have hg1 : w.heap.size + 1 < W0.heap.size := lt_of_block HB1.out
      have HRB : Hid (∀ W, Kept [w.heap.size + 1] wc W → ResB W g R.1 (.slice ea (rowE R.1.ev).length ec) (.slice sa (rowS R.1.sent).length sc) (.slice ta (rowT R.1.tm).length tc)) := fun W k => ⟨k.keeps HB.out.box (by simp; omega), HB.out.ev.kept k (fun g' h1 h2 => by have := n1 g' h1; simp at h2; omega), HB.out.sn.kept k (fun g' h1 h2 => by have := n2 g' h1; simp at h2; omega), HB.out.tm.kept k (fun g' h1 h2 => by have := n3 g' h1; simp at h2; omega), HB.out.r8⟩
      have HST : Hid (wc.heap[w.heap.size + 1]? = some (.cells (BI reg).toArray 26 (0, 0))) := by
        show wc.heap[w.heap.size + 1]? = some (.cells (BI reg).toArray 26 (0, 0))
        rw [hreg]
        exact KX.out.keeps HB1.out (by simp)
      have HKW : Hid (∀ W, Kept [w.heap.size + 1] wc W → Kept [] w W) := fun W k => (HK0.out.then KX.out).trans k (fun x hx => .inr (by simp at hx; omega))
      have HEV := Hid.mk hevs
      have HTM := Hid.mk htms
      have HRG := Hid.mk hreg2
      have H8 := Hid.mk h8
      rw [he]
      clear he hevs htms hreg2 hg1 HX HRF n1 n2 n3 hg h8 hr hreg HB HB1
      generalize w.heap.size + 1 = g1 at *
      go_wp2_with fail
      go_loopw [82] (fun i wr => ∃ j : Nat, i = .int .i64 (j : Int) ∧ j ≤ R.1.ev.length ∧ Hid (wr.heap[g1]? = some (.cells (BI (doA reg (R.1.ev.take j))).toArray 26 (0, 0)) ∧ Kept [g1] wc wr)) (fun i _ => R.1.ev.length - (intOf i).toNat)
      case atStart => exact ⟨0, rfl, by omega, Hid.mk ⟨HST.out, Kept.refl _ _⟩⟩
      case round =>
        obtain ⟨j, rfl, hj, H⟩ := hrel
        have hRB := HRB.out wr H.out.2
        by_cases hlt : j < R.1.ev.length
        · have hltI : (j : Int) < (R.1.ev.length : Int) := by omega
          have hj0 : (0 : Int) ≤ (j : Int) := by omega
          have hy : R.1.ev[j]? = some R.1.ev[j] := List.getElem?_eq_getElem hlt
          have hy7 : R.1.ev[j].r ≤ 7 := HEV.out _ (List.getElem_mem hlt)
          obtain ⟨b, o, rfl, e1, e2⟩ := rowE_at hRB.ev hy
          have c8 := hRB.c_ev
          rw [rowE_length] at c8
          have hlen : (doA reg (R.1.ev.take j)).length = 8 := by rw [doA_len]; exact H8.out
          obtain ⟨old, hold⟩ : ∃ z, (doA reg (R.1.ev.take j))[R.1.ev[j].r]? = some z := ⟨_, List.getElem?_eq_getElem (by rw [hlen]; exact Nat.lt_succ_of_le hy7)⟩
          have s0 : wr.drew.cell? ⟨g1, R.1.ev[j].r, none⟩ = some (.int .i64 old) := cell_list H.out.1 (BI_get hold)
          have s1 : wr.drew.frozen? ⟨g1, R.1.ev[j].r, none⟩ = false := by
            show wr.frozen? ⟨g1, R.1.ev[j].r, none⟩ = false
            have := H.out.1
            simp [World.frozen?, this]
          have s2 : wr.drew.cell? ⟨g, 8, none⟩ = some (.slice (some ⟨b, o, none⟩) R.1.ev.length ec) := c8
          have s3 : wr.drew.cell? ⟨b, o + j * 2, none⟩ = some (.int .i64 (R.1.ev[j].r : Int)) := e1
          have s4 : wr.drew.cell? ⟨b, o + j * 2 + 1, none⟩ = some (.int .i64 R.1.ev[j].v) := e2
          have HN : Hid ((wr.setCell ⟨g1, R.1.ev[j].r, none⟩ (.int .i64 R.1.ev[j].v)).drew.heap[g1]? = some (.cells (BI (doA reg (R.1.ev.take (j + 1)))).toArray 26 (0, 0)) ∧ Kept [g1] wc (wr.setCell ⟨g1, R.1.ev[j].r, none⟩ (.int .i64 R.1.ev[j].v)).drew) := ⟨by rw [doA_take hy, ← BI_set]; exact set_list H.out.1, (H.out.2.setCell (.inl (by simp)) _).drew⟩
          clear H hRB hy hold hlen
          generalize R.1.ev[j].r = yr at *
          generalize R.1.ev[j].v = yv at *
          have q1 : ¬ (yr : Int) < 0 := by omega
          have q2 : ¬ (7 : Int) < (yr : Int) := by omega
          have q3 : (0 : Int) ≤ (yr : Int) := by omega
          have q4 : (yr : Int) < 8 := by omega
          go_wp2_with fail
          go_region
          generalize (wr.setCell ⟨g1, yr, none⟩ (.int .i64 yv)).drew = W7 at *
          go_wp2_with fail
          go_roundw
          case rel => exact ⟨j + 1, by go_num, by omega, HN⟩
          case measure => simp [intOf]; omega
        · have hltI : ¬ (j : Int) < (R.1.ev.length : Int) := by omega
          have hje : j = R.1.ev.length := by omega
          have HE1 : Hid (wr.heap[g1]? = some (.cells (BI R.1.reg).toArray 26 (0, 0))) := by
            have := H.out.1
            rw [hje, List.take_length, ← HRG.out] at this
            exact this
          have HKR := Hid.mk H.out.2
          have HRB1 := Hid.mk hRB
          have c10 := hRB.c_tm
          rw [rowT_length] at c10
          clear H hRB hje HST HRB
          generalize wr = wo at *
          go_wp2_with fail
          go_loopw [118] (fun i wr2 => ∃ m : Nat, i = .int .i64 (m : Int) ∧ m ≤ R.1.tm.length ∧ Hid (Kept [] wo wr2)) (fun i _ => R.1.tm.length - (intOf i).toNat)
          case atStart => exact ⟨0, rfl, by omega, Hid.mk (Kept.refl [] wo)⟩
          case round =>
            obtain ⟨m, rfl, hm, HK2⟩ := hrel
            have hRB2 := HRB1.out.keep HK2.out
            by_cases hlt2 : m < R.1.tm.length
            · have hltI2 : (m : Int) < (R.1.tm.length : Int) := by omega
              have hm0 : (0 : Int) ≤ (m : Int) := by omega
              have hy : R.1.tm[m]? = some R.1.tm[m] := List.getElem?_eq_getElem hlt2
              have hy7 : R.1.tm[m].can = false → now ≤ R.1.tm[m].due ∧ 1 ≤ R.1.tm[m].per := HTM.out _ (List.getElem_mem hlt2)
              obtain ⟨b, o, c', hev, u0, u1, u2, u3, u4⟩ := rowT_at hRB2.tm hy
              have c10 : wr.cell? ⟨g, 10, none⟩ = some (.slice (some ⟨b, o, none⟩) R.1.tm.length c') := by rw [← hev]; exact hRB2.c_tm
              clear hRB2 hev hy
              generalize R.1.tm[m].nm = tn at *
              generalize R.1.tm[m].due = td at *
              generalize R.1.tm[m].per = tp at *
              generalize R.1.tm[m].kind = tk at *
              generalize R.1.tm[m].can = tcn at *
              have HN : Hid (Kept [] wo (wr.alloc (.cells #[.string ⟨tn.toArray⟩, .bool tcn, .int .i64 td, .int .i64 tp, .int .i64 tk] 58))) := HK2.out.alloc _
              cases tcn with
              | true =>
                clear hy7
                go_wp2_with fail
                go_roundw
                case rel => exact ⟨m + 1, by go_num, by omega, HN⟩
                case measure => simp [intOf]; omega
              | false =>
                obtain ⟨t1, t2⟩ := hy7 rfl
                have t1' : ¬ td < now := by omega
                have t2' : ¬ tp < 1 := by omega
                go_wp2_with fail
                go_roundw
                case rel => exact ⟨m + 1, by go_num, by omega, HN⟩
                case measure => simp [intOf]; omega
            · have hltI2 : ¬ (m : Int) < (R.1.tm.length : Int) := by omega
              obtain ⟨b0, b1, b2, b3, b4, b5, b6, b7, hb8⟩ := eight_of hRB2.r8
              have d0 : wr.cell? ⟨g, 0, none⟩ = some (.int .i64 b0) := hRB2.c_reg (by rw [hb8]; rfl)
              have d1 : wr.cell? ⟨g, 1, none⟩ = some (.int .i64 b1) := hRB2.c_reg (by rw [hb8]; rfl)
              have d2 : wr.cell? ⟨g, 2, none⟩ = some (.int .i64 b2) := hRB2.c_reg (by rw [hb8]; rfl)
              have d3 : wr.cell? ⟨g, 3, none⟩ = some (.int .i64 b3) := hRB2.c_reg (by rw [hb8]; rfl)
              have d4 : wr.cell? ⟨g, 4, none⟩ = some (.int .i64 b4) := hRB2.c_reg (by rw [hb8]; rfl)
              have d5 : wr.cell? ⟨g, 5, none⟩ = some (.int .i64 b5) := hRB2.c_reg (by rw [hb8]; rfl)
              have d6 : wr.cell? ⟨g, 6, none⟩ = some (.int .i64 b6) := hRB2.c_reg (by rw [hb8]; rfl)
              have d7 : wr.cell? ⟨g, 7, none⟩ = some (.int .i64 b7) := hRB2.c_reg (by rw [hb8]; rfl)
              have hst2 : wr.heap[g1]? = some (.cells #[.int .i64 b0, .int .i64 b1, .int .i64 b2, .int .i64 b3, .int .i64 b4, .int .i64 b5, .int .i64 b6, .int .i64 b7] 26 (0, 0)) := by
                have := HK2.out.keeps HE1.out (by simp)
                rw [hb8] at this
                exact this
              obtain ⟨f0, f1, f2, f3, f4, f5, f6, f7⟩ := cells8 hst2
              have hEq := equal26 b0 b1 b2 b3 b4 b5 b6 b7 wr
              have HFIN := Hid.mk (HKW.out wr (HKR.out.trans HK2.out (by simp)))
              clear hRB2 hb8 hst2 hm
              go_wp2_with fail
              go_ret
              exact ⟨rfl, HFIN.out⟩
    · obtain ⟨hnone, hk5⟩ := HRF.out.err he
      have hne : (R.2 == 0) = false := by simpa using he
      have z1 : R.1.reg = z8 := by rw [hnone]; rfl
      have z2 : R.1.ev.length = 0 := by rw [hnone]; rfl
      have z3 : R.1.sent.length = 0 := by rw [hnone]; rfl
      have z4 : R.1.tm.length = 0 := by rw [hnone]; rfl
      have d0 : wc.cell? ⟨g, 0, none⟩ = some (.int .i64 0) := HB.out.c_reg (by rw [z1]; rfl)
      have d1 : wc.cell? ⟨g, 1, none⟩ = some (.int .i64 0) := HB.out.c_reg (by rw [z1]; rfl)
      have d2 : wc.cell? ⟨g, 2, none⟩ = some (.int .i64 0) := HB.out.c_reg (by rw [z1]; rfl)
      have d3 : wc.cell? ⟨g, 3, none⟩ = some (.int .i64 0) := HB.out.c_reg (by rw [z1]; rfl)
      have d4 : wc.cell? ⟨g, 4, none⟩ = some (.int .i64 0) := HB.out.c_reg (by rw [z1]; rfl)
      have d5 : wc.cell? ⟨g, 5, none⟩ = some (.int .i64 0) := HB.out.c_reg (by rw [z1]; rfl)
      have d6 : wc.cell? ⟨g, 6, none⟩ = some (.int .i64 0) := HB.out.c_reg (by rw [z1]; rfl)
      have d7 : wc.cell? ⟨g, 7, none⟩ = some (.int .i64 0) := HB.out.c_reg (by rw [z1]; rfl)
      rw [z2] at c8
      rw [z3] at c9 p4
      rw [z4] at c10
      have hEq := equal26 0 0 0 0 0 0 0 0 wc
      clear z1 z2 z3 z4 hnone
      by_cases h5 : R.1.k = 500
      · rw [h5] at c11
        clear p1 p2 p3 p5 hk5
        go_wp2_with fail
        all_goals go_ret
        all_goals exact ⟨rfl, HK0.out.then KX.out⟩
      · have h11 : R.2 ≠ 11 := by
          rcases hk5 with h | h
          · exact absurd h h5
          · exact h
        have h11' : (R.2 == 11) = false := by simpa using h11
        have h11'' : (R.2 != 11) = true := by simpa using h11
        have h5' : ((R.1.k : Int) == 500) = false := by simp only [beq_eq_false_iff_ne, ne_eq]; omega
        clear hk5
        go_wp2_with fail
        all_goals go_ret
        all_goals exact ⟨rfl, HK0.out.then KX.out⟩
  · have S0 := K2.out
    go_wp2_with (go_at_call 9; refine (HAw.out w2 K2.out).mono ?_; rintro e w3 ⟨rfl, k3⟩)
    go_ret
    exact ⟨rfl, HK0.out.then (S0.then k3)⟩
end
end Go.Proofs.YtpodoiichpnpjaaDoor
