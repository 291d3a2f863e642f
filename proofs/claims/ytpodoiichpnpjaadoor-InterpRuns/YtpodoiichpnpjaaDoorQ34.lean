import Derived.Test.YtpodoiichpnpjaaDoorQ26
import Derived.Test.YtpodoiichpnpjaaDoorQ33
/-
  The document's Run.
-/
namespace Go.Proofs.YtpodoiichpnpjaaDoor
open Go.RowKit
set_option maxRecDepth 100000
set_option linter.unusedVariables false
section
variable {w : World} {nv cv av : Value} {p : Pg} {reg : List Int} {l : Lt} {now : Int}
set_option maxHeartbeats 4000000 in
theorem run13_no (hI : Ins w nv cv av p reg l now) (hm : mayI p l now = false) : Calls Tryd.prog 13 #[.agg #[nv, cv], .agg (BI reg).toArray, .agg #[.string ⟨l.fr.toArray⟩, .int .u64 (l.ser : Int), .int .i64 l.kind, av], .int .i64 now] w fun e w' => ∃ v, e = .returned (.tuple #[v, .int .i64 1]) ∧ IsRs w.heap.size w' v (Rsl.none 0) ∧ Kept [] w w' := by
  obtain ⟨a0, a1, a2, a3, a4, a5, a6, a7, rfl⟩ := eight_of hI.r8
  obtain ⟨a, c, b, d, rfl, rfl, hl1, hl2⟩ := hI.prog.form
  obtain ⟨aa, ac, rfl, ha1, ha2⟩ := hI.args.form
  rw [rowJ_length] at *
  show Calls Tryd.prog 13 #[_, .agg #[.int .i64 a0, .int .i64 a1, .int .i64 a2, .int .i64 a3, .int .i64 a4, .int .i64 a5, .int .i64 a6, .int .i64 a7], _, _] w _
  obtain ⟨W0, e0, k0, hz0, hb0, hb1, hb2, hb3⟩ := box4 w (.cells #[.slice a p.names.length c, .slice b p.code.length d] 25) (.cells #[.int .i64 a0, .int .i64 a1, .int .i64 a2, .int .i64 a3, .int .i64 a4, .int .i64 a5, .int .i64 a6, .int .i64 a7] 26) (.cells #[.string ⟨l.fr.toArray⟩, .int .u64 (l.ser : Int), .int .i64 l.kind, .slice aa l.args.length ac] 30) (.cells #[.int .i64 0, .int .i64 0, .int .i64 0, .int .i64 0, .int .i64 0, .int .i64 0, .int .i64 0, .int .i64 0, .slice none 0 0, .slice none 0 0, .slice none 0 0, .int .i64 0] 49)
  have hb3 : W0.heap[w.heap.size + 1 + 1 + 1]? = some (.cells (cellsR z8 (.slice none 0 0) (.slice none 0 0) (.slice none 0 0) 0).toArray 49 (0, 0)) := hb3
  obtain ⟨y0, y1⟩ := cells2 hb0
  obtain ⟨x0, x1, x2, x3⟩ := cells4 hb2
  have HF := Hid.mk (formed14 (hI.prog.keep k0) hI.names)
  have HL := Hid.mk (fun W => lformed21 (w := W) l aa ac hI.fr (by omega))
  have HB2 := Hid.mk hb2
  have HE : Hid (∀ W, Kept [] W0 W → ∃ W', (Instr.storeAt 49 (.pointer (some ⟨w.heap.size + 1 + 1 + 1, 0, none⟩)) (.agg (cellsR z8 (.slice none 0 0) (.slice none 0 0) (.slice none 0 0) 0).toArray)).run Tryd.prog W = .ok () W' ∧ W'.heap[w.heap.size + 1 + 1 + 1]? = some (.cells (cellsR z8 (.slice none 0 0) (.slice none 0 0) (.slice none 0 0) 0).toArray 49 (0, 0)) ∧ Kept [] w W') := fun W kW => by
    obtain ⟨W', h1, h2, h3⟩ := store_whole (P := Tryd.prog) (kW.keeps hb3 (by simp)) rfl size49 (cellsR_one rfl rfl rfl)
    exact ⟨W', h1, h2, (k0.then kW).trans h3 (fun x hx => .inr (by simp at hx; omega))⟩
  clear hb0 hb1 hb2 hb3 hI k0 hz0
  unfold mayI at hm
  cases hf : formedP p with
  | false =>
    rw [hf] at HF
    clear hm HL
    go_enter Tryd.func13, Tryd.ntmps13
    go_wp2_with (first | (go_at_call 20; refine HF.out.mono ?_; rintro e w1 ⟨rfl, k1⟩; obtain ⟨W2, hst, hb, kk⟩ := HE.out w1 k1) | (refine wpList_store_run 49 (.tmp 8) (.tmp 25) rfl rfl _ _ rfl rfl _ hst ?_))
    exact bodyPost_ret (results_cell_row2 (p := 8) (u := 9) (ty := 49) rfl _ _ (w.heap.size + 1 + 1 + 1) 49 _ (0, 0) _ rfl hb Tryd.underlying49 rfl (by kernel_rfl) _ rfl) rfl ⟨_, rfl, isRs_none _ 0, kk⟩
  | true =>
    rw [hf] at HF hm
    cases hlf : l.formed with
    | false =>
      rw [hlf] at HL
      clear hm
      go_enter Tryd.func13, Tryd.ntmps13
      go_wp2_with (first | (go_at_call 20; refine HF.out.mono ?_; rintro e w1 ⟨rfl, k1⟩; obtain ⟨v0, v1, v2, v3⟩ := cells4 (k1.keeps HB2.out (by simp))) | (go_at_call 21; refine (HL.out _).mono ?_; rintro e w2 ⟨rfl, k2⟩; obtain ⟨W2, hst, hb, kk⟩ := HE.out w2 (k1.then k2)) | (refine wpList_store_run 49 (.tmp 8) (.tmp 25) rfl rfl _ _ rfl rfl _ hst ?_))
      exact bodyPost_ret (results_cell_row2 (p := 8) (u := 9) (ty := 49) rfl _ _ (w.heap.size + 1 + 1 + 1) 49 _ (0, 0) _ rfl hb Tryd.underlying49 rfl (by kernel_rfl) _ rfl) rfl ⟨_, rfl, isRs_none _ 0, kk⟩
    | true =>
      rw [hlf] at HL hm
      have hneg : now < 0 := by simpa using hm
      clear hm
      go_enter Tryd.func13, Tryd.ntmps13
      go_wp2_with (first | (go_at_call 20; refine HF.out.mono ?_; rintro e w1 ⟨rfl, k1⟩; obtain ⟨v0, v1, v2, v3⟩ := cells4 (k1.keeps HB2.out (by simp))) | (go_at_call 21; refine (HL.out _).mono ?_; rintro e w2 ⟨rfl, k2⟩; obtain ⟨W2, hst, hb, kk⟩ := HE.out w2 (k1.then k2)) | (refine wpList_store_run 49 (.tmp 8) (.tmp 25) rfl rfl _ _ rfl rfl _ hst ?_))
      exact bodyPost_ret (results_cell_row2 (p := 8) (u := 9) (ty := 49) rfl _ _ (w.heap.size + 1 + 1 + 1) 49 _ (0, 0) _ rfl hb Tryd.underlying49 rfl (by kernel_rfl) _ rfl) rfl ⟨_, rfl, isRs_none _ 0, kk⟩
set_option maxHeartbeats 8000000 in
theorem run13_yes (hI : Ins w nv cv av p reg l now) (hm : mayI p l now = true) (R : Rsl × Int) (hR : R = endI (runI p l now 500 0 (Mc.start reg))) : Calls Tryd.prog 13 #[.agg #[nv, cv], .agg (BI reg).toArray, .agg #[.string ⟨l.fr.toArray⟩, .int .u64 (l.ser : Int), .int .i64 l.kind, av], .int .i64 now] w fun e w' => ∃ v, e = .returned (.tuple #[v, .int .i64 R.2]) ∧ IsRs w.heap.size w' v R.1 ∧ Kept [] w w' := by
  have HG := Hid.mk (fun W k => good_of (W := W) hI k hm)
  have HS := Hid.mk (Sound.start (now := now) hI.regs)
  obtain ⟨hf, hlf, hnow⟩ := may_parts hm
  have hr8 := hI.r8
  obtain ⟨a0, a1, a2, a3, a4, a5, a6, a7, hreg⟩ := eight_of hI.r8
  obtain ⟨a, c, b, d, rfl, rfl, hl1, hl2⟩ := hI.prog.form
  obtain ⟨aa, ac, rfl, ha1, ha2⟩ := hI.args.form
  rw [rowJ_length] at *
  rw [show (BI reg).toArray = #[.int .i64 a0, .int .i64 a1, .int .i64 a2, .int .i64 a3, .int .i64 a4, .int .i64 a5, .int .i64 a6, .int .i64 a7] by rw [hreg]; rfl]
  obtain ⟨W0, e0, k0, hz0, hb0, hb1, hb2, hb3⟩ := box4 w (.cells #[.slice a p.names.length c, .slice b p.code.length d] 25) (.cells #[.int .i64 a0, .int .i64 a1, .int .i64 a2, .int .i64 a3, .int .i64 a4, .int .i64 a5, .int .i64 a6, .int .i64 a7] 26) (.cells #[.string ⟨l.fr.toArray⟩, .int .u64 (l.ser : Int), .int .i64 l.kind, .slice aa l.args.length ac] 30) (.cells #[.int .i64 0, .int .i64 0, .int .i64 0, .int .i64 0, .int .i64 0, .int .i64 0, .int .i64 0, .int .i64 0, .slice none 0 0, .slice none 0 0, .slice none 0 0, .int .i64 0] 49)
  have hb3 : W0.heap[w.heap.size + 1 + 1 + 1]? = some (.cells (cellsR z8 (.slice none 0 0) (.slice none 0 0) (.slice none 0 0) 0).toArray 49 (0, 0)) := hb3
  obtain ⟨y0, y1⟩ := cells2 hb0
  have HF := Hid.mk (formed14 (hI.prog.keep k0) hI.names)
  have HL := Hid.mk (fun W => lformed21 (w := W) l aa ac hI.fr (by omega))
  rw [hf] at HF
  rw [hlf] at HL
  have HB0 := Hid.mk hb0
  have HB1 := Hid.mk hb1
  have HB2 := Hid.mk hb2
  have HK := Hid.mk k0
  have HZ := Hid.mk hz0
  have HE : Hid (∀ (W : World) (X : List Value), Kept [] W0 W → X.length = 12 → (∀ v ∈ X, v.oneCell' = true) → ∃ W', (Instr.storeAt 49 (.pointer (some ⟨w.heap.size + 1 + 1 + 1, 0, none⟩)) (.agg X.toArray)).run Tryd.prog W = .ok () W' ∧ W'.heap[w.heap.size + 1 + 1 + 1]? = some (.cells X.toArray 49 (0, 0)) ∧ Kept [w.heap.size + 1 + 1 + 1] W W' ∧ Kept [] w W') := fun W X kW hX h1 => by
    obtain ⟨W', h1, h2, h3⟩ := store_whole (P := Tryd.prog) (X := X) (kW.keeps hb3 (by simp)) (by rw [hX]; rfl) (by rw [hX]; exact size49) h1
    exact ⟨W', h1, h2, h3, (k0.then kW).trans h3 (fun x hx => .inr (by simp at hx; omega))⟩
  have HST : Hid (∀ W W4, W.alloc (.cells #[.slice a p.names.length c, .slice b p.code.length d, .string ⟨l.fr.toArray⟩, .int .u64 (l.ser : Int), .int .i64 l.kind, .slice aa l.args.length ac, .int .i64 now, .int .i64 0, .slice none 0 0, .int .i64 0, .int .i64 0, .int .i64 0, .int .i64 0, .int .i64 0, .int .i64 0, .int .i64 0, .int .i64 0, .slice none 0 0, .slice none 0 0, .slice none 0 0, .int .i64 0] 78) = W4 → ∃ W3, (Instr.storeAt 26 (.pointer (some ⟨W.heap.size, 9, none⟩)) (.agg #[.int .i64 a0, .int .i64 a1, .int .i64 a2, .int .i64 a3, .int .i64 a4, .int .i64 a5, .int .i64 a6, .int .i64 a7])).run Tryd.prog W4 = .ok () W3 ∧ FSt ⟨W, .slice a p.names.length c, .slice b p.code.length d, .slice aa l.args.length ac, p, l, now⟩ W3 W.heap.size (Mc.start reg) 0) := fun W W4 e4 => by
    rw [hreg, ← e4]
    exact start_F ⟨W, .slice a p.names.length c, .slice b p.code.length d, .slice aa l.args.length ac, p, l, now⟩ [a0, a1, a2, a3, a4, a5, a6, a7] rfl
  have HR := Hid.mk hR
  have hnow2 : ¬ now < 0 := by omega
  clear hb0 hb1 hb2 hb3 hI k0 hz0 hR hm hf hlf hreg hnow
  go_enter Tryd.func13, Tryd.ntmps13
  go_wp2_with (first | (go_at_call 20; refine HF.out.mono ?_; rintro e w1 ⟨rfl, k1⟩; obtain ⟨v0, v1, v2, v3⟩ := cells4 (k1.keeps HB2.out (by simp))) | (go_at_call 21; refine (HL.out _).mono ?_; rintro e w2 ⟨rfl, k2⟩; have K2 := Hid.mk (k1.then k2); clear k1 k2; obtain ⟨t0, t1⟩ := cells2 (K2.out.keeps HB0.out (by simp)); obtain ⟨u0, u1, u2, u3⟩ := cells4 (K2.out.keeps HB2.out (by simp)); obtain ⟨W4, e4, k4, -, -⟩ := box1 w2 (.cells #[.slice a p.names.length c, .slice b p.code.length d, .string ⟨l.fr.toArray⟩, .int .u64 (l.ser : Int), .int .i64 l.kind, .slice aa l.args.length ac, .int .i64 now, .int .i64 0, .slice none 0 0, .int .i64 0, .int .i64 0, .int .i64 0, .int .i64 0, .int .i64 0, .int .i64 0, .int .i64 0, .int .i64 0, .slice none 0 0, .slice none 0 0, .slice none 0 0, .int .i64 0] 78); obtain ⟨s0, s1, s2, s3, s4, s5, s6, s7⟩ := cells8 ((K2.out.then k4).keeps HB1.out (by simp)); obtain ⟨W3, hst, HM0⟩ := HST.out w2 W4 e4; have HM0 := Hid.mk HM0) | (refine wpList_store_run 26 (.tmp 35) (.tmp 32) rfl rfl _ _ rfl rfl _ hst ?_))
  clear hst u0 u1 u2 u3 s0 s1 s2 s3 s4 s5 s6 s7 HST HF HL e4 k4
  have HGD := Hid.mk (HG.out w2 (HK.out.then K2.out))
  have HW2 : Hid (w.heap.size + 1 + 1 + 1 < w2.heap.size) := by have := K2.out.size; have := HZ.out; show w.heap.size + 1 + 1 + 1 < w2.heap.size; omega
  clear HG
  obtain ⟨B, hB⟩ : ∃ B : Bs, (⟨w2, .slice a p.names.length c, .slice b p.code.length d, .slice aa l.args.length ac, p, l, now⟩ : Bs) = B := ⟨_, rfl⟩
  have HBw : Hid (B.w0 = w2) := by show B.w0 = w2; rw [← hB]
  have HBp : Hid (B.pg = p) := by show B.pg = p; rw [← hB]
  have HBl : Hid (B.l = l) := by show B.l = l; rw [← hB]
  have HBn : Hid (B.now = now) := by show B.now = now; rw [← hB]
  rw [hB] at HM0 HGD
  have HRA : Hid (RunAt B reg R (Mc.start reg) 0) := ⟨by omega, by rw [HBn.out]; exact HS.out, by rw [HBp.out, HBl.out, HBn.out]; exact HR.out⟩
  have HGP : Hid (p.code.length ≤ 200) := by have := HGD.out.1.few; rw [HBp.out] at this; exact this
  have hlen := HGP.out
  have HFI : Hid (∀ (m : Mc), m.at_ < p.code.length → ∃ (i : Nat) (arg : Int), B.pg.code[m.at_]? = some ⟨(i : Int), arg⟩ ∧ Fit B.pg i arg ∧ Named ⟨(i : Int), arg⟩ ∧ Told B.pg ⟨(i : Int), arg⟩) := fun m hm => by
    rw [← HBp.out] at hm
    have e1 : B.pg.code[m.at_]? = some B.pg.code[m.at_] := List.getElem?_eq_getElem hm
    have hmem := List.getElem_mem hm
    rw [← HBp.out] at HGD
    obtain ⟨o, ho, hf⟩ := fit_of (HGD.out.2.2.2.2 _ hmem)
    have e2 : B.pg.code[m.at_] = ⟨(o : Int), B.pg.code[m.at_].arg⟩ := by rw [← ho]
    rw [e2] at e1
    exact ⟨o, _, e1, hf, by rw [← e2]; exact HGD.out.2.2.1 _ hmem, by rw [← e2]; exact HGD.out.2.2.2.1 _ hmem⟩
  clear hB HS HR HZ
  generalize hq : w2.heap.size = q at *
  have HQ := Hid.mk hq
  clear hq
  have HI0 : Hid (FSt B W3 q (Mc.start reg) 0 ∧ RunAt B reg R (Mc.start reg) 0) := ⟨HM0.out, HRA.out⟩
  clear HM0 HRA t0 t1 y0 y1
  go_frame
  go_loopw [] (fun wr => ∃ (m : Mc) (k : Nat), k ≤ 500 ∧ Hid (FSt B wr q m k ∧ RunAt B reg R m k)) (fun wr => 501 - natAt wr q 20)
  case atStart => exact ⟨_, 0, by omega, HI0⟩
  case round =>
    obtain ⟨m, k, hk, H⟩ := hrel
    have kr : Kept [] w2 wr := by rw [← HBw.out]; exact H.out.1.kept
    obtain ⟨t0, t1⟩ := cells2 ((K2.out.then kr.drew).keeps HB0.out (by simp))
    have H := Hid.mk (⟨H.out.1.keep (Kept.refl [] wr).drew, H.out.2⟩ : FSt B wr.drew q m k ∧ RunAt B reg R m k)
    have HMEA := Hid.mk (natAt_eq (show wr.cell? ⟨q, 20, none⟩ = some (.int .i64 (k : Int)) from H.out.1.c_k))
    have c7 := H.out.1.c_at
    have HKR := Hid.mk (K2.out.then kr.drew)
    clear kr
    generalize natAt wr q 20 = mea at *
    go_wp2_with fail
    go_region
    generalize wr.drew = wo at *
    have c36 := H.out.1.c_k
    by_cases hlt : m.at_ < p.code.length
    · have hltI : (m.at_ : Int) < (p.code.length : Int) := by omega
      obtain ⟨i, arg, hi, hF, hN, hT⟩ := HFI.out m hlt
      by_cases h5 : k = 500
      · subst h5
        have HO := Hid.mk (H.out.2.out (by rw [HBp.out]; exact hlt))
        obtain ⟨W6, hst, hb6, k6, k7⟩ := HE.out wo (cellsR z8 (.slice none 0 0) (.slice none 0 0) (.slice none 0 0) 500) HKR.out rfl (cellsR_one rfl rfl rfl)
        clear hF hN hT hi
        go_wp2_with ((refine wpList_store_run 49 (.tmp 8) (.tmp 50) rfl rfl _ _ rfl rfl _ hst ?_))
        exact bodyPost_ret (results_cell_row2 (p := 8) (u := 9) (ty := 49) rfl _ _ (w.heap.size + 1 + 1 + 1) 49 _ (0, 0) _ rfl hb6 Tryd.underlying49 rfl (by kernel_rfl) _ rfl) rfl ⟨_, by rw [HO.out]; rfl, by rw [HO.out]; exact isRs_none _ 500, k7⟩
      · have hk5 : k < 500 := by omega
        have hkI : ((k : Int) == 500) = false := by simp only [beq_eq_false_iff_ne, ne_eq]; omega
        obtain ⟨f20, hP⟩ := H.out.1.put_k
        have q9 : ((k + 1 : Nat) : Int) = (k : Int) + 1 := by omega
        rw [q9] at hP
        obtain ⟨w4, e4⟩ : ∃ w4, wo.setCell ⟨q, 20, none⟩ (.int .i64 ((k : Int) + 1)) = w4 := ⟨_, rfl⟩
        rw [e4] at hP
        have HC := Hid.mk (one22_any HGD.out.1 hP hi hF H.out.2.lite H.out.2.sound.fine.st H.out.2.sound.wide.st)
        obtain ⟨R1, R2, R3⟩ := H.out.2.step (by rw [HBp.out, HBl.out, HBn.out]; exact HGD.out.2.1) hi hN hT hk5
        clear hP q9
        cases ho : oneI B.pg B.l B.now m ⟨(i : Int), arg⟩ with
        | go m' =>
          have HX := Hid.mk (R1 m' ho)
          rw [ho] at HC
          clear R1 R2 R3 ho hF hN hT hi
          go_wp2_with (go_at_call 22; refine HC.out.mono ?_; rintro e w5 ⟨bb, cc, rfl, rfl, rfl, h5⟩; have HN5 := Hid.mk (natAt_eq h5.c_k); have H5 := Hid.mk h5; clear h5)
          go_roundw
          case rel => exact ⟨m', k + 1, by omega, Hid.mk ⟨H5.out, HX.out⟩⟩
          case measure => rw [HN5.out, HMEA.out]; omega
        | halt m' =>
          have HX := Hid.mk (R2 m' B.pg.code.length ho (Nat.le_refl _)).2
          rw [ho] at HC
          clear R1 R2 R3 ho hF hN hT hi
          go_wp2_with (first | (go_at_call 22; refine HC.out.mono ?_; rintro e w5 ⟨bb, cc, rfl, rfl, rfl, h5⟩; have H5 := Hid.mk h5; clear h5; have kr5 : Kept [] w2 w5 := (by rw [← HBw.out]; exact H5.out.kept); obtain ⟨ev, sn, tm, ⟨pre, hp9, hbm⟩, o1, o2, o3, HT⟩ := H5.out.told; have hR8 := H5.out.r8; have hld : (Instr.loadAt 49 (.pointer (some ⟨q, 9, none⟩))).run Tryd.prog w5 = .ok (.agg (cellsR m'.reg ev sn tm (k + 1)).toArray) w5 := load_mid 9 hbm hp9 49 _ rfl Tryd.underlying49 (by rw [cellsR_length, hR8]; exact size49); obtain ⟨W6, hst, hb6, k6, k7⟩ := HE.out w5 (cellsR m'.reg ev sn tm (k + 1)) (K2.out.then kr5) (by rw [cellsR_length, hR8]) (cellsR_one o1 o2 o3); have HRES := Hid.mk (HT W6 (w.heap.size + 1 + 1 + 1) (by rw [HBw.out, HQ.out]; exact HW2.out) k6 w.heap.size (by rw [HBw.out, HQ.out]; exact Nat.le_of_lt (Nat.lt_of_le_of_lt (by omega) HW2.out))); have HSZ : Hid ((cellsR m'.reg ev sn tm (k + 1)).length = 12) := (by show (cellsR m'.reg ev sn tm (k + 1)).length = 12; rw [cellsR_length, hR8]); clear HT hbm hp9 hR8 o1 o2 o3 k6 kr5; generalize cellsR m'.reg ev sn tm (k + 1) = X at *) | (refine wpList_load_run 49 (.tmp 78) rfl rfl _ rfl _ hld ?_) | (refine wpList_store_run 49 (.tmp 8) (.tmp 79) rfl rfl _ _ rfl rfl _ hst ?_))
          exact bodyPost_ret (results_cell_row2 (p := 8) (u := 9) (ty := 49) rfl _ _ (w.heap.size + 1 + 1 + 1) 49 _ (0, 0) _ rfl hb6 Tryd.underlying49 rfl (by rw [List.size_toArray, HSZ.out]; exact size49) _ rfl) rfl ⟨_, by rw [HX.out]; rfl, by rw [HX.out]; exact HRES.out, k7⟩
        | err ee =>
          obtain ⟨hne, hRR⟩ := R3 ee ho
          have HO := Hid.mk hRR
          rw [ho] at HC
          have hne' : (ee != 0) = true := by simpa using hne
          clear R1 R2 R3 ho hF hN hT hi hRR
          go_wp2_with (first | (go_at_call 22; refine HC.out.mono ?_; rintro e w5 ⟨bb, cc, rfl, rfl, rfl, m5, h5⟩; have c9 := h5.c_k; have kr5 : Kept [] w2 w5 := (by rw [← HBw.out]; exact h5.kept); obtain ⟨W6, hst, hb6, k6, k7⟩ := HE.out w5 (cellsR z8 (.slice none 0 0) (.slice none 0 0) (.slice none 0 0) (k + 1)) (K2.out.then kr5) rfl (cellsR_one rfl rfl rfl); clear h5 kr5) | (refine wpList_store_run 49 (.tmp 8) (.tmp 72) rfl rfl _ _ rfl rfl _ hst ?_))
          exact bodyPost_ret (results_cell_row2 (p := 8) (u := 9) (ty := 49) rfl _ _ (w.heap.size + 1 + 1 + 1) 49 _ (0, 0) _ rfl hb6 Tryd.underlying49 rfl (by kernel_rfl) _ rfl) rfl ⟨_, by rw [HO.out]; rfl, by rw [HO.out]; exact isRs_none _ (k + 1), k7⟩
    · have hltI : ¬ (m.at_ : Int) < (p.code.length : Int) := by omega
      have HO := Hid.mk (H.out.2.ended (by rw [HBp.out]; omega))
      obtain ⟨ev, sn, tm, ⟨pre, hp9, hbm⟩, o1, o2, o3, HT⟩ := H.out.1.told
      have hR8 := H.out.1.r8
      have hld : (Instr.loadAt 49 (.pointer (some ⟨q, 9, none⟩))).run Tryd.prog wo = .ok (.agg (cellsR m.reg ev sn tm k).toArray) wo := load_mid 9 hbm hp9 49 _ rfl Tryd.underlying49 (by rw [cellsR_length, hR8]; exact size49)
      obtain ⟨W6, hst, hb6, k6, k7⟩ := HE.out wo (cellsR m.reg ev sn tm k) HKR.out (by rw [cellsR_length, hR8]) (cellsR_one o1 o2 o3)
      have HRES := Hid.mk (HT W6 (w.heap.size + 1 + 1 + 1) (by rw [HBw.out, HQ.out]; exact HW2.out) k6 w.heap.size (by rw [HBw.out, HQ.out]; exact Nat.le_of_lt (Nat.lt_of_le_of_lt (by omega) HW2.out)))
      have HSZ : Hid ((cellsR m.reg ev sn tm k).length = 12) := by show (cellsR m.reg ev sn tm k).length = 12; rw [cellsR_length, hR8]
      clear HT hbm hp9 hR8 o1 o2 o3 k6
      generalize cellsR m.reg ev sn tm k = X at *
      go_wp2_with (first | (refine wpList_load_run 49 (.tmp 78) rfl rfl _ rfl _ hld ?_) | (refine wpList_store_run 49 (.tmp 8) (.tmp 79) rfl rfl _ _ rfl rfl _ hst ?_))
      exact bodyPost_ret (results_cell_row2 (p := 8) (u := 9) (ty := 49) rfl _ _ (w.heap.size + 1 + 1 + 1) 49 _ (0, 0) _ rfl hb6 Tryd.underlying49 rfl (by rw [List.size_toArray, HSZ.out]; exact size49) _ rfl) rfl ⟨_, by rw [HO.out]; rfl, by rw [HO.out]; exact HRES.out, k7⟩
theorem run13 (hI : Ins w nv cv av p reg l now) : Calls Tryd.prog 13 #[.agg #[nv, cv], .agg (BI reg).toArray, Lval l av, .int .i64 now] w fun e w' => ∃ v, e = .returned (.tuple #[v, .int .i64 (resI p reg l now).2]) ∧ IsRs w.heap.size w' v (resI p reg l now).1 ∧ Kept [] w w' := by
  unfold resI
  cases hm : mayI p l now with
  | false => rw [if_neg (by simp)]; exact run13_no hI hm
  | true => rw [if_pos rfl]; exact run13_yes hI hm _ rfl
end
end Go.Proofs.YtpodoiichpnpjaaDoor
