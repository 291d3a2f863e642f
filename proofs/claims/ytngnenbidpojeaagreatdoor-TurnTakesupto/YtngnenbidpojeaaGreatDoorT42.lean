import Derived.Test.YtngnenbidpojeaaGreatDoorT13
import Derived.Test.YtngnenbidpojeaaGreatDoorT14
import Derived.Test.YtngnenbidpojeaaGreatDoorT15
import Derived.Test.YtngnenbidpojeaaGreatDoorT18
import Derived.Test.YtngnenbidpojeaaGreatDoorT20
import Derived.Test.YtngnenbidpojeaaGreatDoorT25
import Derived.Test.YtngnenbidpojeaaGreatDoorT31
import Derived.Test.YtngnenbidpojeaaGreatDoorT32
import Derived.Test.YtngnenbidpojeaaGreatDoorT36
import Derived.Test.YtngnenbidpojeaaGreatDoorT37
import Derived.Test.YtngnenbidpojeaaGreatDoorT38
import Derived.Test.YtngnenbidpojeaaGreatDoorT39
import Derived.Test.YtngnenbidpojeaaGreatDoorT40
import Derived.Test.YtngnenbidpojeaaGreatDoorT41
/-
 The program's turn: Take.
-/
namespace Go.Proofs.YtngnenbidpojeaaGreatDoor
set_option maxRecDepth 100000
open Go.RowKit
set_option linter.unusedVariables false
section
variable {w0 w w' : World} {p pj pi po : Nat} {a : Ac}
theorem whole31 (h : AP w0 w p pj pi po a) : Calls Tryz.prog 31 #[Ptr p] w fun e w' => e = .returned (.bool (soundA a.tries a.inb.length a.poi)) ∧ Kept [] w w' := by
 have HC := Hid.mk (encode8 h.act)
 have HE : Hid (encAE a = if soundA a.tries a.inb.length a.poi = true then 0 else 1) := Hid.mk rfl
 generalize soundA a.tries a.inb.length a.poi = s at *
 generalize encAE a = er at *
 generalize encAB a = B0 at *
 clear h
 go_enter Tryz.func31, Tryz.ntmps31
 go_wp2_with fail
 refine HC.out.mono ?_
 rintro e w1 ⟨v, rfl, -, k1, -⟩
 cases s with
 | false =>
  have h1 : er = 1 := HE.out
  subst h1
  go_wp2_with fail
  go_ret
  exact ⟨rfl, k1⟩
 | true =>
  have h1 : er = 0 := HE.out
  subst h1
  go_wp2_with fail
  go_ret
  exact ⟨rfl, k1⟩
end
set_option maxHeartbeats 8000000 in
theorem take10 {w0 w : World} {p pj pi po B V : Nat} {a : Ac} {nv cv : Value} {pg : Pg} {now : Int} (hG : Glob w) (h : AP w0 w p pj pi po a) (hL : Lim a B V) (hB : B ≤ 1000000) (hV : V ≤ 1000000)
  (hP : IsP_N w nv cv pg) (hnm : ∀ s ∈ pg.names, s.length ≤ 9223372036854775807) (hO : OkP pg) (hn : I64 now) :
  Calls Tryz.prog 10 #[.agg #[nv, cv], Ptr p, .int .i64 now] w (TkP w.heap.size w0 w p pj pi po (takeA pg a now)) := by
 obtain ⟨na, nc, ca, cc, rfl, rfl, -, -⟩ := hP.form
 obtain ⟨W0, e0, k0, hz0, hb0, hb1⟩ := box2 w (.cells #[.slice na pg.names.length nc, .slice ca pg.code.length cc] 44) (.cells #[.bool false, .bool false, .int .i64 0, .int .i64 0, .slice none 0 0] 39)
 have HK := Hid.mk k0
 have HA := Hid.mk (h.kept0 k0)
 have HGl := Hid.mk (hG.kept k0)
 have HPg := Hid.mk (hP.keep k0)
 have HX := Hid.mk (And.intro hnm (And.intro hO hn))
 have HL := Hid.mk (And.intro hL (And.intro hB hV))
 have hlt : p < w.heap.size ∧ pj < w.heap.size ∧ pi < w.heap.size ∧ po < w.heap.size ∧ w0.heap.size ≤ w.heap.size := by
  obtain ⟨v, hpa, -, -⟩ := h
  have h1 := lt_of_block hpa.box
  have := hpa.hp
  exact ⟨h1, lt_of_block hpa.j.isP.box, lt_of_block hpa.i.choose_spec.1.box, hpa.ox.lt, by omega⟩
 have HLT := Hid.mk hlt
 have HS : Hid (∀ W, Kept [] W0 W → Calls Tryz.prog 31 #[Ptr p] W fun e w' => e = .returned (.bool (soundA a.tries a.inb.length a.poi)) ∧ Kept [] W w') := Hid.mk fun W k => whole31 (HA.out.kept0 k)
 have HF : Hid (∀ W, Kept [] W0 W → Calls Tryz.prog 32 #[.agg #[.slice na pg.names.length nc, .slice ca pg.code.length cc]] W fun e w' => e = .returned (.bool (formedP pg)) ∧ Kept [] W w') := Hid.mk fun W k => formed13_N (HPg.out.keep k) hnm (HGl.out.kept k)
 have HB0 : Hid (∀ W, Kept [] W0 W → W.cell? ⟨w.heap.size, 0, none⟩ = some (.slice na pg.names.length nc) ∧ W.cell? ⟨w.heap.size, 1, none⟩ = some (.slice ca pg.code.length cc)) := Hid.mk fun W k => cells2_N (k.keeps hb0 (by simp))
 have HB1 : Hid (∀ W, Kept [] W0 W → W.heap[w.heap.size + 1]? = some (.cells #[.bool false, .bool false, .int .i64 0, .int .i64 0, .slice none 0 0] 39 (0, 0))) := Hid.mk fun W k => k.keeps hb1 (by simp)
 have HEND : Hid (∀ (Wx : World) (c : Int), Kept [] W0 Wx → ∃ W8, ((((Wx.setCell ⟨w.heap.size + 1, 0, none⟩ (.bool false)).setCell ⟨w.heap.size + 1, 1, none⟩ (.bool false)).setCell ⟨w.heap.size + 1, 2, none⟩ (.int .i64 0)).setCell ⟨w.heap.size + 1, 3, none⟩ (.int .i64 0)).setCell ⟨w.heap.size + 1, 4, none⟩ (.slice none 0 0) = W8 ∧ W8.heap[w.heap.size + 1]? = some (.cells #[.bool false, .bool false, .int .i64 0, .int .i64 0, .slice none 0 0] 39 (0, 0)) ∧
   TkP w.heap.size w0 w p pj pi po (a, ocN, c) (.returned (.tuple #[.agg #[.bool false, .bool false, .int .i64 0, .int .i64 0, .slice none 0 0], .int .i64 c])) W8) := Hid.mk fun Wx c k => by
  obtain ⟨W8, e8, k8, h8, -⟩ := put5 (HB1.out Wx k) (.bool false) (.bool false) (.int .i64 0) (.int .i64 0) (.slice none 0 0)
  refine ⟨W8, e8, h8, _, rfl, isOc_nil _ _ _ _ 0, ?_, ((HK.out.trans k (by simp)).mono (by simp)).trans k8 (fun x hx => .inr (by simp at hx; omega))⟩
  obtain ⟨v, q1, q2, q3⟩ := HA.out.kept0 k
  have T2 := TT.one (HB1.out Wx k) (w0 := w0) (by have := HLT.out.2.2.2.2; omega) k8
  exact ⟨v, q1.turn T2 (by decide), q2.turn T2 (by decide) (by decide), q3⟩
 clear hG h hP hnm hO hn hL hB hV k0 hb0 hb1 hz0 hlt
 by_cases hs : soundA a.tries a.inb.length a.poi = true
 ·by_cases hf : formedP pg = true
  ·by_cases hw : 0 ≤ now
   ·rw [hs] at HS
    rw [hf] at HF
    have hT : takeA pg a now = match a.inb with
     | [] => (a, ocN, 5)
     | x :: t => takeR a x t (resI pg (stJ a.j) x now).1 (resI pg (stJ a.j) x now).2 := by
     unfold takeA
     rw [if_pos ⟨hs, hf, hw⟩]
     cases a.inb <;> rfl
    have HT := Hid.mk hT
    have hwI : (now < 0) = False := eq_false (by omega)
    have HSO := Hid.mk hs
    clear hT hs hf
    go_enter Tryz.func10, Tryz.ntmps10
    go_wp2_with fail
    refine (HS.out _ (Kept.refl _ _)).mono ?_
    rintro e w1 ⟨rfl, k1⟩
    have K1 := Hid.mk k1
    clear k1
    obtain ⟨y0, y1⟩ := HB0.out w1 K1.out
    go_wp2_with fail
    refine (HF.out w1 K1.out).mono ?_
    rintro e w2 ⟨rfl, k2⟩
    have K2 := Hid.mk (K1.out.then k2)
    clear k2 y0 y1
    obtain ⟨v, q1, q2, q3⟩ := HA.out.kept0 K2.out
    obtain ⟨d0, d1, d2, d3, d4⟩ := q1.cells
    have HFi : Hid (Calls Tryz.prog 33 #[Ptr pi] w2 fun e w' => LetB w2 (hdL a.inb) (!a.inb.isEmpty) e w') := by
     obtain ⟨qs, h1, h2⟩ := q1.i
     have := first22 h1
     rw [h2] at this
     rw [← h2] at *
     simpa using Hid.mk this
    clear q1 q2 q3 HS HF d0 d2 d3 d4
    cases hin : a.inb with
    | nil =>
     rw [hin] at HFi HT
     go_wp2_with fail
     refine HFi.out.mono ?_
     clear HFi
     rintro e w3 ⟨a3, c3, rfl, -, k3, -⟩
     have K3 : Hid (Kept [] W0 (w3.alloc (.cells #[Sv [], .int .u64 0, .int .i64 0, .slice a3 0 c3] 81))) := Hid.mk ((K2.out.then k3).alloc _)
     clear k3 d1
     have hX : (hdL ([] : List Lt)) = ⟨[], 0, 0, []⟩ := rfl
     rw [hX]
     have hbx := HB1.out _ K3.out
     obtain ⟨g0, g1, g2, g3, g4⟩ := free5 hbx
     obtain ⟨x0, x1, x2, x3, x4⟩ := cells5 hbx
     clear hbx
     go_wp2_with fail
     obtain ⟨W8, e8, h8, hE⟩ := HEND.out _ 5 K3.out
     rw [e8]
     refine bodyPost_ret (results_cell_row2 (p := 6) (u := 7) (ty := 39) rfl _ _ (w.heap.size + 1) 39 _ (0, 0) _ rfl h8 Tryz.underlying39 rfl (by kernel_rfl) _ rfl) rfl ?_
     rw [HT.out]
     exact hE
    | cons x t =>
     rw [hin] at HFi HT
     have HIN := Hid.mk hin
     clear hin
     go_wp2_with fail
     refine HFi.out.mono ?_
     clear HFi
     rintro e w3 ⟨a3, c3, rfl, hJ3, k3, -⟩
     have hX : (hdL (x :: t)) = x := rfl
     rw [hX] at hJ3 ⊢
     clear hX
     obtain ⟨W3, e3, k3', hz3, hb3⟩ := box1 w3 (.cells #[Sv x.fr, .int .u64 (x.ser : Int), .int .i64 x.kind, .slice a3 x.args.length c3] 81)
     have K3 : Hid (Kept [] W0 W3) := Hid.mk ((K2.out.then k3).then k3')
     have HJ3 := Hid.mk (hJ3.kept k3' (by simp)).reads
     obtain ⟨s0, s1, s2, s3, s4, s5, s6, s7, hst⟩ := eight_of HA.out.choose_spec.2.2.j.st8
     have HBI : Hid ((BI (stJ a.j)).toArray = #[.int .i64 s0, .int .i64 s1, .int .i64 s2, .int .i64 s3, .int .i64 s4, .int .i64 s5, .int .i64 s6, .int .i64 s7]) := Hid.mk (by rw [hst]; rfl)
     have HSt : Hid (∀ W, Kept [] W3 W → Calls Tryz.prog 23 #[Ptr pj] W fun e w' => e = .returned (.agg #[.int .i64 s0, .int .i64 s1, .int .i64 s2, .int .i64 s3, .int .i64 s4, .int .i64 s5, .int .i64 s6, .int .i64 s7]) ∧ Kept [] W w') := Hid.mk fun W k => by
      obtain ⟨v', q1, q2, q3⟩ := HA.out.kept0 (K3.out.then k)
      have := state18 q1.j q3.j.reg
      rwa [HBI.out] at this
     have HRun : Hid (∀ W, Kept [] W3 W → Calls Tryz.prog 34 #[.agg #[.slice na pg.names.length nc, .slice ca pg.code.length cc], .agg #[.int .i64 s0, .int .i64 s1, .int .i64 s2, .int .i64 s3, .int .i64 s4, .int .i64 s5, .int .i64 s6, .int .i64 s7], .agg #[Sv x.fr, .int .u64 (x.ser : Int), .int .i64 x.kind, .slice a3 x.args.length c3], .int .i64 now] W fun e w' => ∃ xv, e = .returned (.tuple #[xv, .int .i64 (resI pg (stJ a.j) x now).2]) ∧ IsRs W.heap.size w' xv (resI pg (stJ a.j) x now).1 ∧ Kept [] W w') := Hid.mk fun W k => by
      obtain ⟨v', q1, q2, q3⟩ := HA.out.kept0 (K3.out.then k)
      have hx := q3.inb x (by rw [HIN.out]; simp)
      have := run11 (HGl.out.kept (K3.out.then k)) (av := .slice a3 x.args.length c3) (l := x) (reg := stJ a.j) (now := now) ⟨HPg.out.keep (K3.out.then k), HX.out.1, HX.out.2.1, HJ3.out.kept k (by simp), hx.1, by have := formed_le hx.2; omega, q3.j.st8, q3.j.st64, HX.out.2.2⟩
      have e : (BI_N (stJ a.j)).toArray = #[.int .i64 s0, .int .i64 s1, .int .i64 s2, .int .i64 s3, .int .i64 s4, .int .i64 s5, .int .i64 s6, .int .i64 s7] := by rw [hst]; rfl
      rwa [e] at this
     have HFit : Hid (FitR (resI pg (stJ a.j) x now).1) := by
      have q3 := HA.out.choose_spec.2.2
      exact Hid.mk (resI_fit HX.out.2.1 (q3.inb x (by rw [HIN.out]; simp)).1 HX.out.2.2 q3.j.st64)
     have HS : Hid (∀ V, Kept [] W3 V → (V.cell? ⟨w.heap.size, 0, none⟩ = some (.slice na pg.names.length nc) ∧ V.cell? ⟨w.heap.size, 1, none⟩ = some (.slice ca pg.code.length cc)) ∧ V.cell? ⟨p, 0, none⟩ = some (Ptr pj) ∧ (V.cell? ⟨w3.heap.size, 0, none⟩ = some (Sv x.fr) ∧ V.cell? ⟨w3.heap.size, 1, none⟩ = some (.int .u64 (x.ser : Int)) ∧ V.cell? ⟨w3.heap.size, 2, none⟩ = some (.int .i64 x.kind) ∧ V.cell? ⟨w3.heap.size, 3, none⟩ = some (.slice a3 x.args.length c3))) := Hid.mk fun V k => by
      obtain ⟨v', q1, q2, q3⟩ := HA.out.kept0 (K3.out.then k)
      exact ⟨HB0.out V (K3.out.then k), q1.cells.1, cells4 (k.keeps hb3 (by simp))⟩
     have KD : Hid (Kept [] W3 W3.drew) := Hid.mk (Kept.refl [] W3).drew
     have KA := Hid.mk ((Kept.refl [] W3).alloc (.cells #[.int .i64 0, .int .i64 0, .int .i64 0, .int .i64 0, .int .i64 0, .int .i64 0, .int .i64 0, .int .i64 0, .slice none 0 0, .slice none 0 0, .slice none 0 0, .int .i64 0] 103)).drew
     have S0 := HS.out _ KD.out
     have S1 := HS.out _ KA.out
     clear k3 k3' hJ3 hz3 hb3 d1 hst HBI
     generalize resI pg (stJ a.j) x now = R at *
     go_wp2_with fail
     go_cut [10, 11] (fun a b wc => ∃ g : Nat, a = .pointer (some ⟨g, 0, none⟩) ∧ b = .int .i64 R.2 ∧ Hid (ResX W3 wc g R.1))
     case first =>
      go_region_held3 (fun V => (V.cell? ⟨w.heap.size, 0, none⟩ = some (.slice na pg.names.length nc) ∧ V.cell? ⟨w.heap.size, 1, none⟩ = some (.slice ca pg.code.length cc)) ∧ V.cell? ⟨p, 0, none⟩ = some (Ptr pj) ∧ (V.cell? ⟨w3.heap.size, 0, none⟩ = some (Sv x.fr) ∧ V.cell? ⟨w3.heap.size, 1, none⟩ = some (.int .u64 (x.ser : Int)) ∧ V.cell? ⟨w3.heap.size, 2, none⟩ = some (.int .i64 x.kind) ∧ V.cell? ⟨w3.heap.size, 3, none⟩ = some (.slice a3 x.args.length c3))) (first | with_reducible exact S0 | with_reducible exact S1 | with_reducible exact S5 | with_reducible exact S4 | with_reducible exact HS.out _ K6.out | with_reducible exact HS.out _ (K5.out.alloc _) | with_reducible exact HS.out _ (K4.out.alloc _)) (first | (go_at_call 34; first | ((revert hbA; intro hbA); (with_reducible refine (HRun.out _ K4.out).mono ?_); rintro e w5 ⟨xv, rfl, hR, k5⟩; have K5 := Hid.mk (K4.out.then k5); obtain ⟨X, rfl, hXl, hS5⟩ := resX_cells (g := 0) hR K5.out K4.out.size; obtain ⟨W5, hst, hX⟩ := hS5 W3.heap.size w5 (k5.keeps hbA (by simp)) (Nat.le_refl _) (.inl HLA.out) (.inl rfl); have HXr := Hid.mk hX; have K6 : Hid (Kept [] W3 W5) := hX.2.1; have S5 := HS.out w5 K5.out; clear hR k5 hX hS5) | ((with_reducible refine (HRun.out _ K4.out).mono ?_); rintro e w5 ⟨xv, rfl, hR, k5⟩; have K5 := Hid.mk (K4.out.then k5); obtain ⟨X, rfl, hXl, hS5⟩ := resX_cells (g := 0) hR K5.out K4.out.size; obtain ⟨W5, hst0, hX⟩ := hS5 w5.heap.size _ (heap_alloc_new w5 _) K5.out.size (.inr ⟨rfl, rfl⟩) (.inr rfl); have hst : (storeCells ⟨w5.heap.size, 0, none⟩ X).run Tryz.prog (w5.alloc (.cells #[.int .i64 0, .int .i64 0, .int .i64 0, .int .i64 0, .int .i64 0, .int .i64 0, .int .i64 0, .int .i64 0, .slice none 0 0, .slice none 0 0, .slice none 0 0, .int .i64 0] 103)) = .ok () W5 := hst0; have HXr := Hid.mk hX; have K6 : Hid (Kept [] W3 W5) := hX.2.1; have S5 := HS.out w5 K5.out; clear hR k5 hX hS5) | ((with_reducible refine (HRun.out _ (K4.out.alloc _)).mono ?_); rintro e w5 ⟨xv, rfl, hR, k5⟩; have K5 := Hid.mk ((K4.out.alloc _).then k5); obtain ⟨X, rfl, hXl, hS5⟩ := resX_cells (g := 0) hR K5.out (K4.out.alloc _).size; obtain ⟨W5, hst, hX⟩ := hS5 w4.heap.size w5 (k5.keeps (heap_alloc_new w4 (.cells #[.int .i64 0, .int .i64 0, .int .i64 0, .int .i64 0, .int .i64 0, .int .i64 0, .int .i64 0, .int .i64 0, .slice none 0 0, .slice none 0 0, .slice none 0 0, .int .i64 0] 103)) (by simp)) K4.out.size (.inl (by simp)) (.inl rfl); have HXr := Hid.mk hX; have K6 : Hid (Kept [] W3 W5) := hX.2.1; have S5 := HS.out w5 K5.out; clear hR k5 hX hS5)) | (go_at_call 23; first | ((with_reducible refine (HSt.out _ KD.out).mono ?_); rintro e w4 ⟨rfl, k4⟩; have K4 := Hid.mk (KD.out.then k4); have S4 := HS.out w4 K4.out; clear k4) | ((with_reducible refine (HSt.out _ KA.out).mono ?_); rintro e w4 ⟨rfl, k4⟩; have K4 := Hid.mk (KA.out.then k4); have S4 := HS.out w4 K4.out; have hbA := k4.keeps (heap_alloc_new W3 (.cells #[.int .i64 0, .int .i64 0, .int .i64 0, .int .i64 0, .int .i64 0, .int .i64 0, .int .i64 0, .int .i64 0, .slice none 0 0, .slice none 0 0, .slice none 0 0, .int .i64 0] 103)) (by simp); have HLA : Hid (W3.heap.size < w4.heap.size) := lt_of_block hbA; clear k4)))
      all_goals (go_wp2_with fail; go_meet; exact ⟨_, rfl, rfl, HXr⟩)
     case rest =>
     obtain ⟨g, ra, rb, HXr⟩ := hcut
     subst ra
     subst rb
     obtain ⟨⟨ev, sn, tm, hB, m1, m2, m3⟩, KX, hg⟩ := HXr.out
     have HIsR : Hid (IsRs W3.heap.size wc (.agg (cellsR R.1.reg ev sn tm R.1.k).toArray) R.1) := Hid.mk ⟨⟨ev, sn, tm, rfl, hB.ev, hB.sn, hB.tm, m1, m2, m3⟩, hB.r8⟩
     obtain ⟨b0, b1, b2, b3, b4, b5, b6, b7, hreg⟩ := eight_of hB.r8
     obtain ⟨ea, ec, rfl, -, -⟩ := hB.ev.form
     obtain ⟨sa, sc, rfl, -, -⟩ := hB.sn.form
     obtain ⟨ta, tc, rfl, -, -⟩ := hB.tm.form
     rw [rowE_length, rowS_length, rowT_length] at *
     have HBX : Hid (wc.heap[g]? = some (.cells #[.int .i64 b0, .int .i64 b1, .int .i64 b2, .int .i64 b3, .int .i64 b4, .int .i64 b5, .int .i64 b6, .int .i64 b7, .slice ea R.1.ev.length ec, .slice sa R.1.sent.length sc, .slice ta R.1.tm.length tc, .int .i64 (R.1.k : Int)] 103 (0, 0))) := by
      have := hB.box
      rw [hreg] at this
      exact Hid.mk this
     have HV : Hid (Value.agg (cellsR R.1.reg (.slice ea R.1.ev.length ec) (.slice sa R.1.sent.length sc) (.slice ta R.1.tm.length tc) R.1.k).toArray = .agg #[.int .i64 b0, .int .i64 b1, .int .i64 b2, .int .i64 b3, .int .i64 b4, .int .i64 b5, .int .i64 b6, .int .i64 b7, .slice ea R.1.ev.length ec, .slice sa R.1.sent.length sc, .slice ta R.1.tm.length tc, .int .i64 (R.1.k : Int)]) := Hid.mk (by rw [hreg]; rfl)
     have KC : Hid (Kept [] W0 wc) := Hid.mk (K3.out.then KX)
     have HAc := Hid.mk (HA.out.kept0 KC.out)
     have HFIN : Hid (∀ (Wx : World) (tr : Ac × Oc × Int) (tv : Value), Kept [p, pj, pi, po] wc Wx → IsOc W3.heap.size Wx (Oval tr.2.1 tv) tr.2.1 → AP w0 Wx p pj pi po tr.1 → ∃ W8, ((((Wx.setCell ⟨w.heap.size + 1, 0, none⟩ (.bool tr.2.1.done)).setCell ⟨w.heap.size + 1, 1, none⟩ (.bool tr.2.1.poi)).setCell ⟨w.heap.size + 1, 2, none⟩ (.int .i64 tr.2.1.failed)).setCell ⟨w.heap.size + 1, 3, none⟩ (.int .i64 (tr.2.1.steps : Int))).setCell ⟨w.heap.size + 1, 4, none⟩ tv = W8 ∧ W8.heap[w.heap.size + 1]? = some (.cells #[.bool tr.2.1.done, .bool tr.2.1.poi, .int .i64 tr.2.1.failed, .int .i64 (tr.2.1.steps : Int), tv] 39 (0, 0)) ∧
       TkP w.heap.size w0 w p pj pi po tr (.returned (.tuple #[Oval tr.2.1 tv, .int .i64 tr.2.2])) W8) := Hid.mk fun Wx tr tv k hoc hap => by
      have hlw : w.heap.size + 1 < W3.heap.size := by have := lt_of_block (HB1.out W3 K3.out); exact this
      have hbx := k.keeps (HB1.out wc KC.out) (by have := HLT.out; simp; omega)
      obtain ⟨W8, e8, k8, h8, -⟩ := put5 hbx (.bool tr.2.1.done) (.bool tr.2.1.poi) (.int .i64 tr.2.1.failed) (.int .i64 (tr.2.1.steps : Int)) tv
      obtain ⟨tv', q1, q2, q3⟩ := hoc
      simp only [Oval, Value.agg.injEq] at q1
      have q1 : tv = tv' := by simpa using q1
      subst q1
      obtain ⟨v', r1, r2, r3⟩ := hap
      have T2 := TT.one hbx (w0 := w0) (by have := HLT.out.2.2.2.2; omega) k8
      refine ⟨W8, e8, h8, _, rfl, ⟨_, rfl, q2.kept k8 (fun y hy hm => by have := q3 y hy; simp at hm; omega), fun y hy => by have := q3 y hy; omega⟩, ⟨v', r1.turn T2 (by decide), r2.turn T2 (by decide) (by decide), r3⟩, ?_⟩
      exact (((HK.out.trans KC.out (by simp)).mono (by simp)).trans k (fun x hx => .inl hx)).trans k8 (fun x hx => .inr (by simp at hx; omega))
     have HBw : Hid (∀ Wx, Kept [p, pj, pi, po] wc Wx → Wx.heap[w.heap.size + 1]? = some (.cells #[.bool false, .bool false, .int .i64 0, .int .i64 0, .slice none 0 0] 39 (0, 0))) := Hid.mk fun Wx k => k.keeps (HB1.out wc KC.out) (by have := HLT.out; simp; omega)
     have hsd := (soundA_iff _ _ _).1 HSO.out
     clear hB m1 m2 m3 KX hg hreg HXr HB0 HRun HSt HS S0 S1 KD KA
     by_cases hr : R.2 = 0
     ·rw [hr] at HT
      have HC : Hid (Calls Tryz.prog 36 #[Ptr p, .agg #[.int .i64 b0, .int .i64 b1, .int .i64 b2, .int .i64 b3, .int .i64 b4, .int .i64 b5, .int .i64 b6, .int .i64 b7, .slice ea R.1.ev.length ec, .slice sa R.1.sent.length sc, .slice ta R.1.tm.length tc, .int .i64 (R.1.k : Int)]] wc (TkP W3.heap.size w0 wc p pj pi po (takeR a x t R.1 0))) := by
       have := layDown36 HAc.out HL.out.1 HL.out.2.1 HL.out.2.2 HIN.out HIsR.out HFit.out (by have := K3.out.size; have := HLT.out; have := HK.out.size; omega)
       rw [HV.out] at this
       exact Hid.mk this
      generalize takeR a x t R.1 0 = TR at HC HT
      obtain ⟨c0, c1, c2, c3, c4, c5, c6, c7, c8, c9, c10, c11⟩ := cells12 HBX.out
      rw [hr]
      go_wp2_with fail
      refine HC.out.mono ?_
      rintro e w6 ⟨v6, rfl, hoc, hap, k6⟩
      obtain ⟨tv, rfl, q2, q3⟩ := hoc
      obtain ⟨at', ct', rfl, -, -⟩ := q2.form
      have hF := HFIN.out w6 TR _ k6 ⟨_, rfl, q2, q3⟩ hap
      have hbx := HBw.out w6 k6
      obtain ⟨g0, g1, g2, g3, g4⟩ := free5 hbx
      obtain ⟨y0, y1, y2, y3, y4⟩ := cells5 hbx
      obtain ⟨W8, e8, h8, hE⟩ := hF
      have HE := Hid.mk (And.intro h8 hE)
      clear h8 hE q2 q3 hap k6 hbx c0 c1 c2 c3 c4 c5 c6 c7 c8 c9 c10 c11
      dsimp only [Oval]
      go_wp2_with fail
      refine bodyPost_ret (results_cell_row2 (p := 6) (u := 7) (ty := 39) rfl _ _ (w.heap.size + 1) 39 _ (0, 0) _ rfl HE.out.1 Tryz.underlying39 rfl (by kernel_rfl) _ rfl) rfl ?_
      rw [HT.out]
      exact HE.out.2
     ·have HC : Hid (Calls Tryz.prog 35 #[Ptr p, .int .i64 R.2, .int .i64 (R.1.k : Int)] wc (TkP W3.heap.size w0 wc p pj pi po (takeR a x t R.1 R.2))) := Hid.mk (giveUp35 HAc.out hsd.1 hsd.2.1 hsd.2.2.2.1 HIN.out hr)
      have hrI : (R.2 == 0) = false := by simpa using hr
      generalize takeR a x t R.1 R.2 = TR at HC HT
      obtain ⟨-, -, -, -, -, -, -, -, -, -, -, c11⟩ := cells12 HBX.out
      go_wp2_with fail
      refine HC.out.mono ?_
      rintro e w6 ⟨v6, rfl, hoc, hap, k6⟩
      obtain ⟨tv, rfl, q2, q3⟩ := hoc
      obtain ⟨at', ct', rfl, -, -⟩ := q2.form
      have hF := HFIN.out w6 TR _ k6 ⟨_, rfl, q2, q3⟩ hap
      have hbx := HBw.out w6 k6
      obtain ⟨g0, g1, g2, g3, g4⟩ := free5 hbx
      obtain ⟨y0, y1, y2, y3, y4⟩ := cells5 hbx
      obtain ⟨W8, e8, h8, hE⟩ := hF
      have HE := Hid.mk (And.intro h8 hE)
      clear h8 hE q2 q3 hap k6 hbx c11
      dsimp only [Oval]
      go_wp2_with fail
      refine bodyPost_ret (results_cell_row2 (p := 6) (u := 7) (ty := 39) rfl _ _ (w.heap.size + 1) 39 _ (0, 0) _ rfl HE.out.1 Tryz.underlying39 rfl (by kernel_rfl) _ rfl) rfl ?_
      rw [HT.out]
      exact HE.out.2
   ·have hT : takeA pg a now = (a, ocN, 1) := by unfold takeA; rw [if_neg (fun h => hw h.2.2)]
    rw [hs] at HS
    rw [hf] at HF
    have HT := Hid.mk hT
    have hwI : now < 0 := by omega
    clear hT hs hf hw
    go_enter Tryz.func10, Tryz.ntmps10
    go_wp2_with fail
    refine (HS.out _ (Kept.refl _ _)).mono ?_
    rintro e w1 ⟨rfl, k1⟩
    have K1 := Hid.mk k1
    clear k1
    obtain ⟨y0, y1⟩ := HB0.out w1 K1.out
    go_wp2_with fail
    refine (HF.out w1 K1.out).mono ?_
    rintro e w2 ⟨rfl, k2⟩
    have K2 := Hid.mk (K1.out.then k2)
    clear k2 y0 y1
    have hbx := HB1.out w2 K2.out
    obtain ⟨g0, g1, g2, g3, g4⟩ := free5 hbx
    obtain ⟨x0, x1, x2, x3, x4⟩ := cells5 hbx
    clear hbx
    go_wp2_with fail
    obtain ⟨W8, e8, h8, hE⟩ := HEND.out w2 1 K2.out
    rw [e8]
    refine bodyPost_ret (results_cell_row2 (p := 6) (u := 7) (ty := 39) rfl _ _ (w.heap.size + 1) 39 _ (0, 0) _ rfl h8 Tryz.underlying39 rfl (by kernel_rfl) _ rfl) rfl ?_
    rw [HT.out]
    exact hE
  ·have hT : takeA pg a now = (a, ocN, 1) := by unfold takeA; rw [if_neg (fun h => hf h.2.1)]
   rw [hs] at HS
   rw [show formedP pg = false by simpa using hf] at HF
   have HT := Hid.mk hT
   clear hT hs hf
   go_enter Tryz.func10, Tryz.ntmps10
   go_wp2_with fail
   refine (HS.out _ (Kept.refl _ _)).mono ?_
   rintro e w1 ⟨rfl, k1⟩
   have K1 := Hid.mk k1
   clear k1
   obtain ⟨y0, y1⟩ := HB0.out w1 K1.out
   go_wp2_with fail
   refine (HF.out w1 K1.out).mono ?_
   rintro e w2 ⟨rfl, k2⟩
   have K2 := Hid.mk (K1.out.then k2)
   clear k2 y0 y1
   have hbx := HB1.out w2 K2.out
   obtain ⟨g0, g1, g2, g3, g4⟩ := free5 hbx
   obtain ⟨x0, x1, x2, x3, x4⟩ := cells5 hbx
   clear hbx
   go_wp2_with fail
   obtain ⟨W8, e8, h8, hE⟩ := HEND.out w2 1 K2.out
   rw [e8]
   refine bodyPost_ret (results_cell_row2 (p := 6) (u := 7) (ty := 39) rfl _ _ (w.heap.size + 1) 39 _ (0, 0) _ rfl h8 Tryz.underlying39 rfl (by kernel_rfl) _ rfl) rfl ?_
   rw [HT.out]
   exact hE
 ·have hT : takeA pg a now = (a, ocN, 1) := by unfold takeA; rw [if_neg (fun h => hs h.1)]
  rw [show soundA a.tries a.inb.length a.poi = false by simpa using hs] at HS
  have HT := Hid.mk hT
  clear hT hs
  go_enter Tryz.func10, Tryz.ntmps10
  go_wp2_with fail
  refine (HS.out _ (Kept.refl _ _)).mono ?_
  rintro e w1 ⟨rfl, k1⟩
  have K1 := Hid.mk k1
  clear k1
  have hbx := HB1.out w1 K1.out
  obtain ⟨g0, g1, g2, g3, g4⟩ := free5 hbx
  obtain ⟨x0, x1, x2, x3, x4⟩ := cells5 hbx
  clear hbx
  go_wp2_with fail
  obtain ⟨W8, e8, h8, hE⟩ := HEND.out w1 1 K1.out
  rw [e8]
  refine bodyPost_ret (results_cell_row2 (p := 6) (u := 7) (ty := 39) rfl _ _ (w.heap.size + 1) 39 _ (0, 0) _ rfl h8 Tryz.underlying39 rfl (by kernel_rfl) _ rfl) rfl ?_
  rw [HT.out]
  exact hE
def pgB : Pg := ⟨[], [⟨5, 0⟩, ⟨3, 0⟩]⟩
theorem okpB : OkP pgB := fun x hx => by
 simp [pgB] at hx
 rcases hx with rfl | rfl <;> exact i64_lit (by decide)
def ltB : Lt := ⟨[], 0, 4, []⟩
def acB : Ac := ⟨newJ, [ltB], ⟨[97], [], []⟩, 0, []⟩
def acC : Ac := ⟨⟨[0, 0, 0, 0, 0, 0, 0, 0], [⟨0, 4⟩], 1⟩, [], ⟨[97], [], []⟩, 0, []⟩
theorem takeB : takeA pgB acB 0 = (acC, ⟨true, false, 0, 2, []⟩, 0) := by rfl
section
variable {w0 w w' : World} {p pj pi po : Nat} {a : Ac} {v : Value}
theorem pushP_any (h : AP w0 w p pj pi po a) (x : Lt) (ad : Option Addr) (c : Nat) (hx : ReadsJ w (.slice ad x.args.length c) x.args) (hok : x.ok) :
  Calls Tryz.prog 22 #[Ptr pi, Lv x ad c] w fun e w' => e = .returned (Iv (pushE a.inb.length x)) ∧ AP w0 w' p pj pi po (pushAc a x) ∧ Kept [pi] w w' := by
 obtain ⟨v, hpa, hpo, hg⟩ := h
 obtain ⟨qs, h3, h4⟩ := hpa.i
 have hl : qs.length = a.inb.length := by rw [← h4, List.length_map]
 refine (push11 x ad c h3 hx hok).mono ?_
 rintro e w1 ⟨qs', rfl, hB, hm, k1, -⟩
 rw [hl]
 have T := TT.ofB h3 hpa.hi k1
 exact ⟨rfl, ⟨v, (hpa.putI hB k1).as rfl (by show pushL a.inb x = _; rw [hm, h4]) rfl, hpo.turn T (by decide) (by decide), hg.push hok⟩, k1⟩
theorem AP.new {key : List UInt8} (h : PA w0 w p pj pi po 0 (.slice none 0 0) (newA key)) (hk : isKey key = true) : AP w0 w p pj pi po (newA key) :=
 ⟨_, h, ⟨[], OwnsR.nil _ _ _, by simp, rfl⟩, (GoodA.new hk).toGoodP⟩
set_option maxHeartbeats 4000000 in
theorem awake7 (hG : Glob w) : Calls Tryz.prog 7 #[] w fun e w' => e = .returned (.bool true) ∧ Kept [] w w' := by
 have HGl := Hid.mk hG
 have HN := Hid.mk (new13 (w0 := w) (w := w) [97] (by decide) (Nat.le_refl _))
 clear hG
 go_enter Tryz.func7, Tryz.ntmps7
 go_wp2_with fail
 refine HN.out.mono ?_
 rintro e w1 ⟨p, pj, pi, po, rfl, hp, k1⟩
 have HP := Hid.mk (AP.new hp (by decide))
 have K1 := Hid.mk k1
 obtain ⟨d0, d1, d2, d3, d4⟩ := hp.cells
 have HC := Hid.mk (pushP_any HP.out ltB none 0 (ReadsR.nil 1 w1) (lok_of (by decide) (i64_lit (by decide)) (fun z hz => by simp [ltB] at hz)))
 clear hp k1 HN
 go_wp2_with fail
 refine HC.out.mono ?_
 rintro e w2 ⟨rfl, hp2, k2⟩
 have he : pushE (newA [97]).inb.length ltB = 0 := by rfl
 rw [he]
 have HP2 : Hid (AP w w2 p pj pi po acB) := Hid.mk hp2
 have hlt : p < w1.heap.size ∧ w.heap.size ≤ pi := by
  obtain ⟨v, q1, -, -⟩ := HP.out
  exact ⟨lt_of_block q1.box, q1.hi⟩
 have K2 : Hid (Kept [] w w2) := Hid.mk (K1.out.trans k2 (fun x hx => .inr (by simp at hx; omega)))
 clear hp2 k2 HC d0 d1 d2 d3 d4 HP he
 go_wp2_with fail
 obtain ⟨W3, e3, k3, hz3, hb3⟩ := box1 w2 (.cells #[.int .i64 5, .int .i64 0, .int .i64 3, .int .i64 0] 83)
 rw [e3]
 have K3 : Hid (Kept [] w W3) := Hid.mk (K2.out.then k3)
 have hC := take10 (HGl.out.kept K3.out) (HP2.out.kept0 k3) (B := 0) (V := 0) ⟨fun y hy => by simp [acB] at hy, Nat.le_refl _⟩ (by omega) (by omega) (pg := pgB) (now := 0) ⟨ReadsR.nil 1 W3, prog_fresh (C := pgB.code) hb3 (by decide)⟩ (by simp [pgB]) okpB (i64_lit (by decide))
 rw [takeB] at hC
 refine hC.mono ?_
 rintro e w4 ⟨v4, rfl, ⟨tv, rfl, q1, -⟩, hap, k4⟩
 obtain ⟨at', ct', rfl, -, -⟩ := q1.form
 obtain ⟨v5, q5, -, g5⟩ := hap
 have hlt5 := lt_of_block q5.box
 obtain ⟨W5, e5, k5, hz5, hb5⟩ := box1 w4 (.cells #[.bool true, .bool false, .int .i64 0, .int .i64 2, .slice at' 0 ct'] 39)
 have q6 := q5.kept0 k5
 obtain ⟨x0, x1, x2, x3, x4⟩ := cells5 hb5
 obtain ⟨d0, d1, d2, d3, d4⟩ := q6.cells
 have K5 : Hid (Kept [] w W5) := Hid.mk ((K3.out.trans k4 (fun x hx => by
  have h1 := HP2.out.choose_spec.1
  have := h1.hp; have := h1.hj; have := h1.hi; have := h1.ho
  right
  simp at hx
  rcases hx with rfl | rfl | rfl | rfl <;> omega)).then k5)
 have HSt : Hid (Calls Tryz.prog 23 #[Ptr pj] W5 fun e w' => e = .returned (.agg #[.int .i64 4, .int .i64 0, .int .i64 0, .int .i64 0, .int .i64 0, .int .i64 0, .int .i64 0, .int .i64 0]) ∧ Kept [] W5 w') := Hid.mk (state18 q6.j g5.j.reg)
 have HP6 := Hid.mk q6
 clear q1 q5 q6 g5 hC hb5 k4 k5 hz5 hz3 hb3 k3 e3
 dsimp only [Oval]
 rw [show (rowT ([] : List Tm)).length = 0 from rfl]
 go_wp2_with fail
 refine HSt.out.mono ?_
 rintro e w6 ⟨rfl, k6⟩
 have q7 := HP6.out.kept0 k6
 obtain ⟨qs, hB, hq⟩ := q7.i
 have hq0 : qs = [] := List.map_eq_nil_iff.1 hq
 subst hq0
 obtain ⟨d0', d1', d2', d3', d4'⟩ := q7.cells
 have HLn := Hid.mk (len21 hB)
 have hix : ∀ W : World, (Instr.index 84 (.agg #[.int .i64 4, .int .i64 0, .int .i64 0, .int .i64 0, .int .i64 0, .int .i64 0, .int .i64 0, .int .i64 0]) (.int .i64 0)).run Tryz.prog W = .ok (.int .i64 4) W := fun W => index29 (A := [4, 0, 0, 0, 0, 0, 0, 0]) (i := 0) (x := 4) rfl rfl W
 have K6 := Hid.mk (K5.out.then k6)
 clear k6 q7 hB hq d0 d1 d2 d3 d4
 go_wp2_with fail
 refine HLn.out.mono ?_
 rintro e w7 ⟨rfl, rfl⟩
 go_wp2_with fail
 go_ret
 exact ⟨rfl, K6.out⟩
end
structure StIn (w : World) (sv : Value) (ls ps : List Lq) (ts : List (List UInt8)) (es : List Ep) (tr : Int) : Prop where
 form : ∃ a1 n1 c1 a2 n2 c2 a3 n3 c3 x4, sv = .agg #[.slice a1 n1 c1, .slice a2 n2 c2, .slice a3 n3 c3, x4, .int .i64 tr] ∧ LetsIn w (.slice a1 n1 c1) ls ∧ LetsIn w (.slice a2 n2 c2) ps ∧ TextsIn w (.slice a3 n3 c3) ts ∧ EvsIn w x4 es
 size : wL ls + wL ps + wT ts ≤ 2000000
 tr64 : I64 tr
theorem Both.ap {w0 w : World} {P : Pt} {v u : Value} {a : Ac} (T : Both w0 w P a.tries v a.tries u a a) (hv : PoiO w v a.poi) : AP w0 w P.p P.j P.i P.o a := ⟨v, T.pa, hv, T.ga⟩
theorem Both.af {w0 w : World} {P : Pt} {v u : Value} {a : Ac} (T : Both w0 w P a.tries v a.tries u a a) (hu : PoiO w u a.poi) : AF w0 w P.f P.fj P.fi P.fo a := ⟨u, T.fa, hu, T.gb⟩
section
variable {w : World}
end
theorem results_tcu {P : Program} {fn : Func} {t p u : Tmp} {ty : TypeId} (h : fn.results = #[.tmp t, .cell p ty, .tmp u]) (tmps : Array Value) (w : World) (g : Nat) (tt : TypeId) (cs : Array Value) (fr : Nat × Nat) (d : TypeDesc)
  (hp : tmps.getD p undef = .pointer (some ⟨g, 0, none⟩)) (hg : w.heap[g]? = some (.cells cs tt fr)) (hu : P.underlying ty = some d) (hd : (match d with | .struct _ | .array _ _ => true | _ => false) = true) (hi : (P.info? ty).map (·.size) = some cs.size) (r r' : Value) (hr : tmps.getD u undef = r) (hr' : tmps.getD t undef = r') :
  (results fn tmps).run P w = .ok (.tuple #[r', .agg cs, r]) w := by
 have hp' : tmps[p]?.getD undef = .pointer (some ⟨g, 0, none⟩) := by simpa using hp
 have h1 : tmps[u]?.getD undef = r := by simpa using hr
 have h2 : tmps[t]?.getD undef = r' := by simpa using hr'
 simp [results, h, hp', h1, h2, asAddr, run_loadVar_row w g tt ty cs fr d hg hu hd hi]
def TkF (w0 w : World) (r : Ac × Oc × Int) (e : Ending) (w' : World) : Prop :=
 ∃ f' fj' fi' fo' v, e = .returned (.tuple #[Ptr f', v, .int .i64 r.2.2]) ∧ IsOc w.heap.size w' v r.2.1 ∧ AF w0 w' f' fj' fi' fo' r.1 ∧ Kept [] w w'
theorem OwnsR.tt {ts : List Nat} {w0 w w' : World} {e : TypeId} {k : Nat} {v : Value} {rs : List (List Value)} (h : OwnsR e k w v rs) (T : TT ts w0 w w') (he : e ∉ ts) : OwnsR e k w' v rs := by
 obtain ⟨S, kS, hS⟩ := T
 exact h.kept kS (TT.neR hS h he)
theorem OwnsR.ltB {w : World} {e : TypeId} {k : Nat} {v : Value} {rs : List (List Value)} (h : OwnsR e k w v rs) : ∀ g, v.ownBlock = some g → g < w.heap.size := by
 intro g hg
 rcases h.2 with ⟨rfl, h0⟩ | ⟨g', cap, cur, rfl, _, hb, h1, h2, _⟩
 ·simp [Value.ownBlock] at hg
 ·simp [Value.ownBlock] at hg
  subst hg
  exact lt_of_block hb
structure Md (w : World) (g : Nat) (R : Rsl) (sn tm ev vc : Value) (poi : List Lt) : Prop where
 ps : PoiO w vc poi
 box : w.heap[g]? = some (.cells (cellsR R.reg ev sn tm R.k).toArray 113 (0, 0))
 sn : OwnsR 117 3 w sn (rowS R.sent)
 tm : OwnsR 193 5 w tm (rowT R.tm)
section
variable {ts : List Nat} {w0 w w' : World} {g : Nat} {R : Rsl} {sn tm ev vc : Value} {poi : List Lt}
theorem Md.turn (h : Md w g R sn tm ev vc poi) (T : TT ts w0 w w') (ht : ∀ x ∈ [81, 2, 113, 117, 193], x ∉ ts) : Md w' g R sn tm ev vc poi :=
 ⟨h.ps.turn T (ht _ (by simp)) (ht _ (by simp)), T.box h.box (ht _ (by simp)), h.sn.tt T (ht _ (by simp)), h.tm.tt T (ht _ (by simp))⟩
theorem Md.kept0 (h : Md w g R sn tm ev vc poi) (k : Kept [] w w') : Md w' g R sn tm ev vc poi := h.turn (w0 := w) (ts := []) (TT.of0 k) (by simp)
theorem Md.cells {b0 b1 b2 b3 b4 b5 b6 b7 : Int} (h : Md w g R sn tm ev vc poi) (hr : R.reg = [b0, b1, b2, b3, b4, b5, b6, b7]) :
  w.cell? ⟨g, 8, none⟩ = some ev ∧ w.cell? ⟨g, 9, none⟩ = some sn ∧ w.cell? ⟨g, 10, none⟩ = some tm ∧ w.cell? ⟨g, 11, none⟩ = some (.int .i64 (R.k : Int)) := by
 have hb := h.box
 rw [hr] at hb
 obtain ⟨-, -, -, -, -, -, -, -, c8, c9, c10, c11⟩ := cells12 hb
 exact ⟨c8, c9, c10, c11⟩
end
def SndG (w0 w : World) (f fj fi fo : Nat) (t : Int) (v : Value) (a : Ac) (dest : List UInt8) (kind arg : Int) (c : Int) (w' : World) : Prop :=
 (c = 0 ∧ okSnd a.out dest = true ∧ FA w0 w' f fj fi fo t v ⟨a.j, a.inb, sendO a.out dest kind [arg], a.tries, a.poi⟩ ∧ TT [124, 131, 198] w0 w w') ∨ (c ≠ 0 ∧ okSnd a.out dest = false ∧ w = w')
theorem sendG {w0 w : World} {f fj fi fo : Nat} {t : Int} {v : Value} {a : Ac} (h : FA w0 w f fj fi fo t v a) (g : GoodO a.out) {B : Nat} (hB : SerB a.out B) (h6 : B < 4611686018427387904) (hs : w0.heap.size ≤ w.heap.size) (dest : List UInt8) (ht : dest.length ≤ 1000) (kind arg : Int) (ad : Option Addr)
  (hx : OwnsJ w (.slice ad 1 1) [arg]) : Calls Tryz.prog 27 #[Ptr fo, Sv dest, .int .i64 kind, .slice ad 1 1] w fun e w' => ∃ r c, e = .returned (.tuple #[r, .int .i64 c]) ∧ SndG w0 w f fj fi fo t v a dest kind arg c w' := by
 refine (sendF_any h g hB h6 hs dest ht kind arg ad hx).mono ?_
 rintro e w' (⟨h1, ⟨r, rfl⟩, h2, h3⟩ | ⟨h1, ⟨r, rfl | rfl⟩, h2⟩)
 ·exact ⟨r, 0, rfl, .inl ⟨rfl, h1, h2, h3⟩⟩
 ·exact ⟨r, 1, rfl, .inr ⟨by decide, h1, h2⟩⟩
 ·exact ⟨r, 6, rfl, .inr ⟨by decide, h1, h2⟩⟩
theorem TkF.kept0 {w0 w w' w'' : World} {r : Ac × Oc × Int} {e : Ending} (h : TkF w0 w r e w') (k : Kept [] w' w'') : TkF w0 w r e w'' := by
 obtain ⟨f', fj', fi', fo', v, h1, h2, h3, h4⟩ := h
 exact ⟨f', fj', fi', fo', v, h1, h2.keep k, h3.kept0 k, h4.then k⟩
section
variable {w0 w w' : World} {f fj fi fo : Nat} {a : Ac} {t : Int} {v vc : Value} {ps : List Lt}
theorem TT.ofR {e : TypeId} {k : Nat} {rs : List (List Value)} (h : OwnsR e k w vc rs) (hf : Fresh w0 vc) (kk : Kept vc.ownBlock.toList w w') : TT [e] w0 w w' := by
 refine ⟨_, kk, fun g hg => ?_⟩
 have hg' : vc.ownBlock = some g := by simpa using hg
 refine ⟨hf g hg', ?_⟩
 rcases h.2 with ⟨rfl, h0⟩ | ⟨g2, cap, cur, rfl, h3, hb, h1, h2, h4⟩
 ·simp [Value.ownBlock] at hg'
 ·simp [Value.ownBlock] at hg'
  subst hg'
  exact ⟨_, _, hb, by simp⟩
theorem PoiO.more (h : PoiO w vc ps) (x : Lt) (xad : Option Addr) (xcap : Nat) (hx : OwnsJ w (.slice xad x.args.length xcap) x.args) (hl : ps.length ≤ 900000) :
  ∃ ad c w', (Builtin.append_ #[26, 26] 26 #[vc, .slice (some ⟨w.heap.size, 0, none⟩) 1 1]).run Tryz.prog (w.alloc (.cells #[Sv x.fr, .int .u64 (x.ser : Int), .int .i64 x.kind, .slice xad x.args.length xcap] 81)) = .ok (.slice ad (ps.length + 1) c) w' ∧
   PoiO w' (.slice ad (ps.length + 1) c) (ps ++ [x]) ∧ Kept vc.ownBlock.toList w w' ∧ ∃ rs, OwnsR 81 4 w vc rs := by
 obtain ⟨qs, a1, a2, a3⟩ := h
 have hql : (CQ qs).length = ps.length := by rw [CQ_length, ← a3, List.length_map]
 obtain ⟨ad, c, w', hrun, hO, kk, hN⟩ := append_rowR rt28 a1 (cellsQ ⟨x, xad, xcap⟩) rfl (by intro u hu; simp [cellsQ] at hu; rcases hu with rfl | rfl | rfl | rfl <;> rfl) (by rw [hql]; exact hl) 81 (0, 0) 26
 rw [hql] at hrun hO
 have hk : ∀ {v2 : Value} {l : List Int}, OwnsJ w v2 l → OwnsJ w' v2 l := fun {v2 l} hj => hj.kept kk (fun g hg hm => own_apart hj a1 (by decide) hg (by simpa using hm))
 refine ⟨ad, c, w', hrun, ⟨qs ++ [⟨x, xad, xcap⟩], ?_, fun q hq => ?_, by rw [List.map_append, a3]; rfl⟩, kk, _, a1⟩
 ·have e : CQ (qs ++ [⟨x, xad, xcap⟩]) = CQ qs ++ [cellsQ ⟨x, xad, xcap⟩] := by simp [CQ]
  rw [e]
  exact hO
 ·rcases List.mem_append.1 hq with h | h
  ·exact hk (a2 q h)
  ·simp at h
   subst h
   exact hk hx
theorem FA.aside (h : FA w0 w f fj fi fo t v a) {v5 : Value} {qs : List Lq} (hI : IsF_I w0 w fi v5 qs) (hq : qs.map (·.x) = a.inb) {rs : List (List Value)} (hv : OwnsR 81 4 w vc rs) (hfr : Fresh w0 vc) (hsep : ∀ g, vc.ownBlock = some g → v5.ownBlock ≠ some g) (kk : Kept vc.ownBlock.toList w w') : FA w0 w' f fj fi fo t v a := by
 have T := TT.ofR hv hfr kk
 obtain ⟨h1, ⟨u1, h2, h3⟩, -, ⟨u3, x3, ys, h6, h7⟩, h8, h9⟩ := h
 refine ⟨T.box h1 (by decide), ⟨u1, T.isFJ h2 (by decide) (by decide), h3⟩, ⟨v5, qs, ⟨T.box hI.box (by decide), hI.own.kept kk (fun y hy => ⟨?_, fun q hqm => ?_⟩), hI.fr⟩, hq⟩, ⟨u3, x3, ys, T.isFO h6 (by decide) (by decide) (by decide) (by decide), h7⟩, h8, h9⟩
 ·exact hsep y (by simpa using hy)
 ·intro he
  exact own_apart (hI.own.args q hqm) hv (by decide) he (by simpa using hy)
end
end Go.Proofs.YtngnenbidpojeaaGreatDoor
