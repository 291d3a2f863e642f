import Derived.Test.YtngnenbidpojeaaGreatDoorV02
import Derived.Test.YtngnenbidpojeaaGreatDoorV05
import Derived.Test.YtngnenbidpojeaaGreatDoorV06
import Derived.Test.YtngnenbidpojeaaGreatDoorV19
import Derived.Test.YtngnenbidpojeaaGreatDoorV24
import Derived.Test.YtngnenbidpojeaaGreatDoorV27
import Derived.Test.YtngnenbidpojeaaGreatDoorV33
import Derived.Test.YtngnenbidpojeaaGreatDoorV39
/-
  A run that halted: layDown.
-/
namespace Go.Proofs.YtngnenbidpojeaaGreatDoor
set_option maxRecDepth 100000
open Go.RowKit
set_option linter.unusedVariables false
theorem CE_of (l : List Ev) : CE (l.map ofE) = rowE l := by
  simp [CE, rowE, cellsE, ofE, Function.comp_def]
section
variable {w0 w w' : World} {p pj pi po : Nat} {a : Ac} {t : Int} {v : Value}
theorem PA.ox (h : PA w0 w p pj pi po t v a) : Ox w po a.out := h.o
theorem reads_far {k : Nat} {S : List Nat} {v : Value} {rs : List (List Value)} {n : Nat} (h : ReadsR k w v rs) (hn : ∀ g, v.ownBlock = some g → n ≤ g) (hS : ∀ g ∈ S, g < n) (kk : Kept S w w') : ReadsR k w' v rs :=
  h.kept kk (fun g hg hm => by have := hn g hg; have := hS g hm; omega)
end
set_option maxHeartbeats 8000000 in
theorem layDown36 {w0 w : World} {p pj pi po n B V : Nat} {a : Ac} {x : Lt} {t : List Lt} {R : Rsl} {rv : Value} (h : AP w0 w p pj pi po a) (hL : Lim a B V) (hB : B ≤ 1000000) (hV : V ≤ 1000000) (hi : a.inb = x :: t)
    (hR : IsRs n w rv R) (hF : FitR R) (hn : p < n ∧ pj < n ∧ pi < n ∧ po < n) :
    Calls Tryz.prog 36 #[Ptr p, rv] w (TkP n w0 w p pj pi po (takeR a x t R 0)) := by
  have HT : Hid (takeR a x t R 0 = match sendL a.out R.sent with
    | none => (a, ocN, 8)
    | some o => (⟨addR a.j (R.ev.map ofE), t, o, 0, a.poi⟩, ⟨true, false, 0, R.k, R.tm⟩, 0)) := Hid.mk (by unfold takeR; rw [if_pos rfl]; cases sendL a.out R.sent <;> rfl)
  generalize takeR a x t R 0 = TR at *
  obtain ⟨v, hpa, hpo, hg⟩ := h
  obtain ⟨ev, sn, tm, rfl, r1, r2, r3, n1, n2, n3⟩ := hR.form
  obtain ⟨b0, b1, b2, b3, b4, b5, b6, b7, hreg⟩ := eight_of hR.r8
  obtain ⟨ea, ec, rfl, -, -⟩ := r1.form
  obtain ⟨sa, sc, rfl, -, -⟩ := r2.form
  obtain ⟨ta, tc, rfl, -, -⟩ := r3.form
  rw [rowE_length] at *
  rw [rowS_length] at *
  rw [rowT_length] at *
  have hcr : (cellsR R.reg (.slice ea R.ev.length ec) (.slice sa R.sent.length sc) (.slice ta R.tm.length tc) R.k).toArray = #[.int .i64 b0, .int .i64 b1, .int .i64 b2, .int .i64 b3, .int .i64 b4, .int .i64 b5, .int .i64 b6, .int .i64 b7, .slice ea R.ev.length ec, .slice sa R.sent.length sc, .slice ta R.tm.length tc, .int .i64 (R.k : Int)] := by rw [hreg]; rfl
  rw [hcr]
  obtain ⟨W0, e0, k0, hz0, hb0, hb1⟩ := box2 w (.cells #[.int .i64 b0, .int .i64 b1, .int .i64 b2, .int .i64 b3, .int .i64 b4, .int .i64 b5, .int .i64 b6, .int .i64 b7, .slice ea R.ev.length ec, .slice sa R.sent.length sc, .slice ta R.tm.length tc, .int .i64 (R.k : Int)] 103) (.cells #[.bool false, .bool false, .int .i64 0, .int .i64 0, .slice none 0 0] 39)
  have HP := Hid.mk (hpa.kept0 k0)
  have HPO := Hid.mk (hpo.kept0 k0)
  have HG := Hid.mk hg
  have HK := Hid.mk k0
  have hlt : p < w.heap.size ∧ pj < w.heap.size ∧ pi < w.heap.size ∧ po < w.heap.size := ⟨lt_of_block hpa.box, lt_of_block hpa.j.isP.box, lt_of_block hpa.i.choose_spec.1.box, hpa.ox.lt⟩
  have hs0 : w0.heap.size ≤ w.heap.size := by have := hpa.hp; omega
  have HW : Hid (w0.heap.size ≤ w.heap.size ∧ (p < w.heap.size ∧ pj < w.heap.size ∧ pi < w.heap.size ∧ po < w.heap.size)) := Hid.mk ⟨hs0, hlt⟩
  -- what stays while the actor's parts are turned
  have HS : Hid (∀ W, Kept [p, pj, pi, po] W0 W → (W.cell? ⟨w.heap.size, 8, none⟩ = some (.slice ea R.ev.length ec) ∧ W.cell? ⟨w.heap.size, 9, none⟩ = some (.slice sa R.sent.length sc) ∧ W.cell? ⟨w.heap.size, 10, none⟩ = some (.slice ta R.tm.length tc) ∧ W.cell? ⟨w.heap.size, 11, none⟩ = some (.int .i64 (R.k : Int))) ∧ W.heap[w.heap.size + 1]? = some (.cells #[.bool false, .bool false, .int .i64 0, .int .i64 0, .slice none 0 0] 39 (0, 0))) := Hid.mk fun W k => by
    have h1 := k.keeps hb0 (by simp; omega)
    have h2 := k.keeps hb1 (by simp; omega)
    refine ⟨⟨?_, ?_, ?_, ?_⟩, h2⟩ <;> (unfold World.cell?; rw [h1]; rfl)
  have HRW : Hid (∀ W, Kept [p, pj, pi, po] W0 W → ReadsR 2 W (.slice ea R.ev.length ec) (rowE R.ev) ∧ ReadsR 3 W (.slice sa R.sent.length sc) (rowS R.sent) ∧ ReadsR 5 W (.slice ta R.tm.length tc) (rowT R.tm)) := Hid.mk fun W k => by
    have hS : ∀ g ∈ [p, pj, pi, po], g < n := fun g hg => by simp at hg; omega
    exact ⟨reads_far (r1.keep k0) n1 hS k, reads_far (r2.keep k0) n2 hS k, reads_far (r3.keep k0) n3 hS k⟩
  have HR5 : Hid (∀ W, Kept [p, pj, pi, po] w W → ReadsR 5 W (.slice ta R.tm.length tc) (rowT R.tm)) := Hid.mk fun W k => reads_far r3 n3 (fun g hg => by simp at hg; omega) k
  have HN3 := Hid.mk n3
  have HIN : Hid (t.length ≤ 8 ∧ ∀ y ∈ t, y.ok ∧ y.formed = true) := Hid.mk ⟨by have := hg.i8; rw [hi, List.length_cons] at this; exact Nat.le_of_succ_le this, fun y hy => hg.inb y (by rw [hi]; simp [hy])⟩
  have HL := Hid.mk (And.intro hL (And.intro hB hV))
  have HF := Hid.mk hF
  have S0 := (HS.out _ (Kept.refl _ _).drew).1
  obtain ⟨d0, d1, d2, d3, d4⟩ := (HP.out.kept0 (Kept.refl _ _).drew).cells
  have HC : Hid (Calls Tryz.prog 97 #[Ptr po, .slice sa R.sent.length sc] W0.drew fun e w' => e = .returned (.bool (sendL a.out R.sent).isSome) ∧ Kept [] W0.drew w') := Hid.mk
    (canSend97 (HP.out.kept0 (Kept.refl _ _).drew).ox hg.out hL.ser (by omega) rfl (by have := hF.sent; omega) (HRW.out _ (Kept.refl _ _).drew).2.1 hF.snd)
  have HI : Hid (∃ q qt, q.x = x ∧ qt.map (·.x) = t ∧ ∀ W, Kept [] W0 W → IsB W pi (q :: qt)) := by
    obtain ⟨qs, h1, h2⟩ := HP.out.i
    rw [hi] at h2
    match qs, h2 with
    | q :: qt, h2 => simp only [List.map_cons, List.cons.injEq] at h2; exact Hid.mk ⟨q, qt, h2.1, h2.2, fun W k => h1.kept0 k⟩
  clear hpa hpo hg k0 hb0 hb1 r1 r2 r3 n1 n2 n3 hR hcr hreg hL hB hV hF hn hs0 hlt hz0 hi
  generalize hen : R.ev.length = en at *
  generalize hsn : R.sent.length = sn at *
  generalize htn : R.tm.length = tn at *
  have HLen := Hid.mk (And.intro hen (And.intro hsn htn))
  clear hen hsn htn
  generalize hok : (sendL a.out R.sent).isSome = ok at *
  have HOK := Hid.mk hok
  clear hok
  go_enter Tryz.func36, Tryz.ntmps36
  go_wp2_with fail
  go_region_held3 (fun W => W.cell? ⟨p, 2, none⟩ = some (Ptr po) ∧ W.cell? ⟨w.heap.size, 9, none⟩ = some (.slice sa sn sc)) (first | with_reducible exact ⟨d2, S0.2.1⟩ | exact ⟨(HP.out.kept0 K1.out).cells.2.2.1, (HS.out _ (K1.out.mono (by simp))).1.2.1⟩) (first | (go_at_call 97; refine HC.out.mono ?_; rintro e w1 ⟨rfl, k1⟩; have K1 : Hid (Kept [] W0 w1) := Hid.mk ((Kept.refl [] W0).drew.trans k1 (by simp)); clear k1))
  clear d0 d1 d2 d3 d4 S0 HC
  cases ok with
  | false =>
    have hb1 := (HS.out w1 (K1.out.mono (by simp))).2
    obtain ⟨g0, g1, g2, g3, g4⟩ := free5 hb1
    obtain ⟨y0, y1, y2, y3, y4⟩ := cells5 hb1
    go_wp2_with fail
    obtain ⟨W8, e8, k8, h8, -⟩ := put5 hb1 (.bool false) (.bool false) (.int .i64 0) (.int .i64 0) (.slice none 0 0)
    rw [e8]
    refine bodyPost_ret (results_cell_row2 (p := 4) (u := 5) (ty := 39) rfl _ _ (w.heap.size + 1) 39 _ (0, 0) _ rfl h8 Tryz.underlying39 rfl (by kernel_rfl) _ rfl) rfl ?_
    have hsn : sendL a.out R.sent = none := by
      have := HOK.out
      cases hs : sendL a.out R.sent with
      | none => rfl
      | some o => rw [hs] at this; cases this
    have hT := HT.out
    rw [hsn] at hT
    rw [hT]
    have T2 := TT.one hb1 (w0 := w0) (by have := HW.out.1; omega) k8
    exact ⟨_, rfl, isOc_nil _ _ _ _ 0, ⟨_, (HP.out.kept0 K1.out).turn T2 (by decide), (HPO.out.kept0 K1.out).turn T2 (by decide) (by decide), HG.out⟩, (((HK.out.trans K1.out (by simp)).mono (by simp)).trans k8 (fun x hx => .inr (by simp at hx; omega)))⟩
  | true =>
    obtain ⟨o', ho'⟩ : ∃ o', sendL a.out R.sent = some o' := by
      have := HOK.out
      cases hs : sendL a.out R.sent with
      | none => rw [hs] at this; cases this
      | some o => exact ⟨o, rfl⟩
    have HO := Hid.mk ho'
    have hp1 := HP.out.kept0 K1.out
    obtain ⟨q, qt, hq, hqt, hB⟩ := HI.out
    have HC1 := Hid.mk (pop13_some (hB w1 K1.out))
    have HQ := Hid.mk (And.intro hq hqt)
    obtain ⟨d0, d1, d2, d3, d4⟩ := hp1.cells
    clear hp1 hq hqt hB ho' HI
    go_wp2_with fail
    refine HC1.out.mono ?_
    rintro e w2 ⟨a2, c2, rfl, -, k2, -, hB2⟩
    have hp2 := (HP.out.kept0 K1.out).putI hB2 k2
    have hv2 := HPO.out.kept0 K1.out
    have T2 := TT.ofB (HP.out.kept0 K1.out).i.choose_spec.1 (HP.out.kept0 K1.out).hi k2
    have K2 : Hid (Kept [p, pj, pi, po] W0 w2) := Hid.mk ((K1.out.mono (by simp)).trans k2 (fun x hx => .inl (by simp at hx; simp [hx])))
    have V2 := Hid.mk (hv2.turn T2 (by decide) (by decide))
    have P2 := Hid.mk hp2
    clear hv2 T2 k2 hB2 HC1 d0 d1 d2 d3 d4
    obtain ⟨d0, d1, d2, d3, d4⟩ := hp2.cells
    have z3 := hp2.free 3
    have hp3 := hp2.set3 0
    have T3 := TT.set (i := 3) hp2.box hp2.hp (Iv 0)
    have V3 := Hid.mk (V2.out.turn T3 (by decide) (by decide))
    have K3 : Hid (Kept [p, pj, pi, po] W0 (w2.setCell ⟨p, 3, none⟩ (Iv 0))) := Hid.mk (K2.out.setCell (p := ⟨p, 3, none⟩) (.inl (by simp)) _)
    have P3 := Hid.mk hp3
    clear T3 hp2 hp3 P2 V2 d0 d1 d2 d4
    go_wp2_with fail
    generalize hw3 : w2.setCell ⟨p, 3, none⟩ (Value.int .i64 0) = w3 at *
    clear hw3 z3 d3
    obtain ⟨d0, d1, d2, d3, d4⟩ := (P3.out.kept0 (Kept.refl _ _).drew).cells
    have S3 := (HS.out _ K3.out.drew).1
    have HC2 := Hid.mk (add12 (P3.out.kept0 (Kept.refl _ _).drew).j HG.out.j.reg (v := .slice ea en ec) (l := R.ev.map ofE) (fun W kW => by rw [CE_of]; exact (HRW.out W (K3.out.drew.trans kW (fun x hx => .inl (by simp at hx; simp [hx])))).1) (by rw [List.length_map]; have := HF.out.ev; omega) (by rw [List.length_map]; have := HF.out.ev; have := HL.out.1.ver; have := HL.out.2.2; show a.j.ver + _ < _; omega))
    go_region_held3 (fun W => W.cell? ⟨p, 0, none⟩ = some (Ptr pj) ∧ W.cell? ⟨w.heap.size, 8, none⟩ = some (.slice ea en ec)) (first | with_reducible exact ⟨d0, S3.1⟩ | exact ⟨P4.out.cells.1, (HS.out _ K4.out).1.1⟩) (first | (go_at_call 28; refine HC2.out.mono ?_; rintro e w4 ⟨rfl, hJ4, k4⟩; have P4 := Hid.mk ((P3.out.kept0 (Kept.refl _ _).drew).putJ hJ4 k4); have K4 : Hid (Kept [p, pj, pi, po] W0 w4) := Hid.mk (K3.out.drew.trans k4 (fun x hx => .inl (by simp at hx; simp [hx]))); have V4 := Hid.mk ((V3.out.kept0 (Kept.refl _ _).drew).turn (TT.ofJ (P3.out.kept0 (Kept.refl _ _).drew).j (P3.out.kept0 (Kept.refl _ _).drew).hj k4) (by decide) (by decide)); clear k4 hJ4))
    clear d0 d1 d2 d3 d4 S3 HC2
    go_wp2_with fail
    obtain ⟨d0, d1, d2, d3, d4⟩ := (P4.out.kept0 (Kept.refl _ _).drew).cells
    have S4 := (HS.out _ K4.out.drew).1
    have HC3 : Hid (Calls Tryz.prog 98 #[Ptr po, .slice sa sn sc] w4.drew fun e w' => e = .returned (.bool true) ∧ Ox w' po o' ∧ Kept [po] w4.drew w') := Hid.mk ((send98 (P4.out.kept0 (Kept.refl _ _).drew).ox HG.out.out HL.out.1.ser (by have := HL.out.2.1; omega) (sa := sa) (n := sn) (sc := sc) (l := R.sent) HLen.out.2.1.symm (by have := HF.out.sent; have := HLen.out.2.1; omega) (fun W kW => (HRW.out W (K4.out.drew.trans kW (fun x hx => .inl (by simp at hx; simp [hx])))).2.1) HF.out.snd).mono (by
      rintro e w' (⟨q', h1, rfl, h2, h3⟩ | ⟨h1, -⟩)
      · rw [HO.out] at h1; cases h1; exact ⟨rfl, h2, h3⟩
      · rw [HO.out] at h1; cases h1))
    go_region_held3 (fun W => W.cell? ⟨p, 2, none⟩ = some (Ptr po) ∧ W.cell? ⟨w.heap.size, 9, none⟩ = some (.slice sa sn sc)) (first | with_reducible exact ⟨d2, S4.2.1⟩ | exact ⟨P5.out.cells.2.2.1, (HS.out _ K5.out).1.2.1⟩) (first | (go_at_call 98; refine HC3.out.mono ?_; rintro e w5 ⟨rfl, hO5, k5⟩; have P5 : Hid (PA w0 w5 p pj pi po 0 v ⟨addR a.j (R.ev.map ofE), qt.map (·.x), o', a.tries, a.poi⟩) := by { obtain ⟨ys5, h51, h52⟩ := hO5; exact Hid.mk ((P4.out.kept0 (Kept.refl _ _).drew).putO h51 h52 k5) }; have K5 : Hid (Kept [p, pj, pi, po] W0 w5) := Hid.mk (K4.out.drew.trans k5 (fun x hx => .inl (by simp at hx; simp [hx]))); have V5 : Hid (PoiO w5 v a.poi) := by { obtain ⟨ys4, h41, h42⟩ := (P4.out.kept0 (Kept.refl _ _).drew).o; exact Hid.mk ((V4.out.kept0 (Kept.refl _ _).drew).turn (TT.ofO h41 (P4.out.kept0 (Kept.refl _ _).drew).ho k5) (by decide) (by decide)) }; clear k5 hO5))
    clear d0 d1 d2 d3 d4 S4 HC3
    have hb1 := (HS.out w5 K5.out).2
    obtain ⟨⟨x0, x1, x2, x3⟩, -⟩ := HS.out w5 K5.out
    obtain ⟨g0, g1, g2, g3, g4⟩ := free5 hb1
    obtain ⟨y0, y1, y2, y3, y4⟩ := cells5 hb1
    have HB1 := Hid.mk hb1
    clear hb1
    go_wp2_with fail
    obtain ⟨W8, e8, k8, h8, -⟩ := put5 HB1.out (.bool true) (.bool false) (.int .i64 0) (.int .i64 (R.k : Int)) (.slice ta tn tc)
    rw [e8]
    refine bodyPost_ret (results_cell_row2 (p := 4) (u := 5) (ty := 39) rfl _ _ (w.heap.size + 1) 39 _ (0, 0) _ rfl h8 Tryz.underlying39 rfl (by kernel_rfl) _ rfl) rfl ?_
    have hT := HT.out
    rw [HO.out] at hT
    rw [hT]
    have T2 := TT.one HB1.out (w0 := w0) (by have := HW.out.1; omega) k8
    have g := HG.out
    have h4 := HF.out.sent
    have hev := HF.out.ev
    have hv := HL.out.1.ver
    obtain ⟨hB, hV⟩ := HL.out.2
    obtain ⟨g1, -⟩ := sendL_good R.sent a.out o' B g.out HL.out.1.ser (fun s h => (HF.out.snd s h).2) (by omega) HO.out
    have KF : Kept [p, pj, pi, po] w W8 := ((HK.out.mono (by simp)).trans K5.out (fun x hx => .inl hx)).trans k8 (fun x hx => .inr (by simp at hx; omega))
    exact ⟨_, rfl, ⟨_, rfl, HR5.out _ KF, HN3.out⟩, ⟨_, (P5.out.turn T2 (by decide)).as rfl (by rw [← HQ.out.2]) rfl, V5.out.turn T2 (by decide) (by decide), ⟨g.j.addR (ofE_64 HF.out.evs) (by rw [List.length_map]; omega), HIN.out.1, HIN.out.2, g1, g.poi⟩⟩, KF⟩
end Go.Proofs.YtngnenbidpojeaaGreatDoor
/-
  Encode of a journal.
-/
namespace Go.Proofs.YtngnenbidpojeaaGreatDoor
set_option maxRecDepth 100000
open Go.RowKit
set_option linter.unusedVariables false
section
variable {w0 w w' : World} {p q : Nat} {v : Value} {l : List UInt8}
theorem wq_int (h : Wq w0 w q v l) {z : Int} (hz : I64 z) (hb : l.length ≤ 1000000) : Calls Tryz.prog 110 #[.pointer (some ⟨q, 0, none⟩), Iv z] w fun e w' => e = .returned (.tuple #[]) ∧ ∃ v', Wq w0 w' q v' (l ++ enc (fold z)) ∧ Kept (foot q v) w w' := by
  refine (wint_any q v l z w h.1 hz.1 hz.2 (by omega)).mono ?_
  rintro e w' ⟨rfl, L⟩
  exact ⟨rfl, h.laid L⟩
end
theorem encI_length : ∀ (l : List Int), (encI l).length ≤ l.length * 9
  | [] => by simp [encI]
  | z :: l => by
    have h1 := encI_length l
    have h2 := enc_length (fold z)
    unfold encI at *
    simp only [List.flatMap_cons, List.length_append, List.length_cons]
    omega
theorem encV_length : ∀ (l : List Ev), (encV l).length ≤ l.length * 18
  | [] => by simp [encV]
  | e :: l => by
    have h1 := encV_length l
    have h2 := enc_length (fold e.v)
    have h3 := enc_length e.r
    unfold encV at *
    simp only [List.flatMap_cons, List.length_append, List.length_cons]
    omega
theorem encI_take {l : List Int} {j : Nat} {y : Int} (h : l[j]? = some y) : encI (l.take (j + 1)) = encI (l.take j) ++ enc (fold y) := by
  rw [List.take_add_one, h]
  simp [encI]
theorem encV_take {l : List Ev} {j : Nat} {y : Ev} (h : l[j]? = some y) : encV (l.take (j + 1)) = encV (l.take j) ++ (enc y.r ++ enc (fold y.v)) := by
  rw [List.take_add_one, h]
  simp [encV]
section
variable {w : World} {p : Nat} {j : Jn}
set_option maxHeartbeats 2000000 in
theorem encode21 (hJ : IsJ w p j) (hG : GoodJ j) : Calls Tryz.prog 65 #[.pointer (some ⟨p, 0, none⟩)] w fun e w' => NewB w (encJn j) e w' := by
  have HJ := Hid.mk hJ
  have HG := Hid.mk hG
  have hln := hJ.len
  have e1 := enc_length j.ver
  have e2 := enc_length j.ev.length
  have hb8 := hG.b8
  have hlI := encI_length j.base
  have ha : (List.map (fun n => Iv n) j.base) = BI j.base := rfl
  clear hJ hG ha
  go_enter Tryz.func65, Tryz.ntmps65
  go_wp2_with fail
  refine (newW _).mono ?_
  rintro e w2 ⟨q, rfl, hW2, k2, hq2⟩
  have W2 : Wq w w2 q (.slice none 0 0) [] := ⟨hW2, hq2, fresh_nil _ _, k2⟩
  have c2 := (HJ.out.kept0 k2).isP.ver
  have H3 := Hid.mk (wq_num W2 (n := j.ver) HG.out.v64 (by simp))
  clear W2 hW2 k2 hq2
  go_wp2_with fail
  refine H3.out.mono ?_
  rintro e w4 ⟨rfl, v4, W4, -⟩
  clear c2 H3
  rw [List.nil_append] at W4
  have h4 := (HJ.out.kept0 W4.2.2.2).isP
  have hld : (Instr.loadAt 84 (.pointer (some ⟨p, 0, none⟩))).run Tryz.prog w4 = .ok (.agg (BI j.base).toArray) w4 := run_loadAt_mid w4 p 0 84 _ _ h4.rangeA Tryz.underlying84 rfl (by rw [BI_length, hb8]; exact size29)
  have HW4 := Hid.mk W4
  clear W4 h4
  generalize hB : enc j.ver = B1 at *
  have HB1 := Hid.mk hB
  clear hB
  go_wp2_with (first | (refine wpList_load_run 84 (.tmp 19) rfl rfl _ rfl _ hld ?_))
  clear hld
  go_loopw [21] (fun i wr => ∃ k : Nat, i = .int .i64 (k : Int) ∧ k ≤ 8 ∧ Hid (∃ v, Wq w wr q v (B1 ++ encI (j.base.take k)))) (fun i _ => 8 - (intOf i).toNat)
  case atStart => exact ⟨0, rfl, by omega, Hid.mk ⟨v4, by simpa [encI] using HW4.out⟩⟩
  case round =>
    obtain ⟨k, rfl, hk, hH⟩ := hrel
    obtain ⟨v6, W6⟩ := hH.out
    have hlK := encI_length (j.base.take k)
    rw [List.length_take] at hlK
    by_cases hlt : k < 8
    · have hkI : (k : Int) < 8 := by omega
      obtain ⟨y, hy⟩ : ∃ y, j.base[k]? = some y := ⟨_, List.getElem?_eq_getElem (by omega)⟩
      have hix : ∀ W : World, (Instr.index 84 (.agg (BI j.base).toArray) (.int .i64 (k : Int))).run Tryz.prog W = .ok (Iv y) W := fun W => index29 hb8 hy W
      have H8 := Hid.mk (wq_int W6 (z := y) (HG.out.b64 y (List.mem_of_getElem? hy)) (by rw [List.length_append]; omega))
      have HE := Hid.mk (encI_take hy)
      clear hH W6 hy
      go_wp2_with fail
      refine H8.out.mono ?_
      rintro e w8 ⟨rfl, v8, W8, -⟩
      have HW8 : Hid (∃ v, Wq w w8 q v (B1 ++ encI (j.base.take (k + 1)))) := ⟨v8, by rw [HE.out, ← List.append_assoc]; exact W8⟩
      clear H8 W8 hix
      go_wp2_with fail
      go_roundw
      case rel => exact ⟨k + 1, by go_num, by omega, HW8⟩
      case measure => simp [intOf]; omega
    · obtain rfl : k = 8 := by omega
      have hJ6 := HJ.out.kept0 W6.2.2.2
      have c6 := hJ6.isP.count
      rw [List.take_of_length_le (by omega)] at W6 hlK
      have H8 := Hid.mk (wq_num W6 (n := j.ev.length) (by unfold U64; omega) (by rw [List.length_append]; omega))
      have g0 : IntKind.u64.wrap (j.ev.length : Int) = (j.ev.length : Int) := by rw [IntKind.wrap_u64]; omega
      have g1 : (0 : Int) ≤ (j.ev.length : Int) := by omega
      clear hH W6 hJ6
      generalize hn : j.ev.length = n at *
      have HN := Hid.mk hn
      clear hn
      go_wp2_with fail
      refine H8.out.mono ?_
      rintro e w8 ⟨rfl, v8, W8, -⟩
      have HC := Hid.mk (behind31 (HJ.out.kept0 W8.2.2.2))
      rw [HN.out] at HC
      have HW8 := Hid.mk W8
      clear H8 W8 c6
      go_wp2_with fail
      refine HC.out.mono ?_
      rintro e w9 ⟨rfl, k9⟩
      have HW9 := Hid.mk (HW8.out.kept0 k9)
      have hX1 : (B1 ++ encI j.base ++ enc n).length ≤ 90 := by rw [List.length_append, List.length_append]; omega
      generalize hX : B1 ++ encI j.base ++ enc n = X at *
      have HX := Hid.mk hX
      clear HC HW8 k9 hX
      go_wp2_with fail
      go_loopw [38] (fun i wr => ∃ k : Nat, i = .int .i64 (k : Int) ∧ k ≤ n ∧ Hid (∃ v, Wq w wr q v (X ++ encV (j.ev.take k)))) (fun i _ => n - (intOf i).toNat)
      case atStart => exact ⟨0, rfl, by omega, Hid.mk ⟨v8, by simpa [encV] using HW9.out⟩⟩
      case round =>
        obtain ⟨k, rfl, hk2, hH⟩ := hrel
        obtain ⟨v10, W10⟩ := hH.out
        have hlK2 := encV_length (j.ev.take k)
        rw [List.length_take] at hlK2
        by_cases hlt2 : k < n
        · have hkI2 : (k : Int) < (n : Int) := by omega
          have hnI : (n : Int) ≤ 16 := by omega
          obtain ⟨y, hy⟩ : ∃ y, j.ev[k]? = some y := ⟨_, List.getElem?_eq_getElem (by have := HN.out; omega)⟩
          obtain ⟨d0, d1⟩ := (HJ.out.kept0 W10.2.2.2).at hy
          obtain ⟨y7, yv⟩ := HG.out.ev y (List.mem_of_getElem? hy)
          obtain ⟨W11, e11, k11, hz11, hb11⟩ := box1 wr (.cells #[Iv (y.r : Int), Iv y.v] 92)
          have H12 := Hid.mk (wq_num (W10.kept0 k11) (n := y.r) (by unfold U64; omega) (by rw [List.length_append]; omega))
          have HB11 : Hid (wr.heap.size ∉ foot q v10) := (W10.kept0 k11).notin hb11 (by decide)
          have HBX := Hid.mk hb11
          have HE := Hid.mk (encV_take hy)
          have t1 := enc_length y.r
          have hXl : (X ++ encV (j.ev.take k)).length ≤ 378 := by rw [List.length_append]; omega
          have g2 : IntKind.u64.wrap (y.r : Int) = (y.r : Int) := by rw [IntKind.wrap_u64]; omega
          have g3 : (0 : Int) ≤ (y.r : Int) := by omega
          have E11 := Hid.mk e11
          clear hH W10 hy k11 hz11 e11 hb11
          go_wp2_with fail
          rw [E11.out]
          refine H12.out.mono ?_
          rintro e w12 ⟨rfl, v12, W12, k12⟩
          have hb12 := k12.keeps HBX.out HB11.out
          obtain ⟨-, c12⟩ := cells2 hb12
          have H13 := Hid.mk (wq_int W12 yv (by rw [List.length_append]; omega))
          clear W12 k12 hb12 H12 HBX HB11 d0 d1
          go_wp2_with fail
          refine H13.out.mono ?_
          rintro e w13 ⟨rfl, v13, W13, -⟩
          have HW13 : Hid (∃ v, Wq w w13 q v (X ++ encV (j.ev.take (k + 1)))) := ⟨v13, by rw [HE.out]; simpa [List.append_assoc] using W13⟩
          clear W13 H13 c12
          go_wp2_with fail
          go_roundw
          case rel => exact ⟨k + 1, by go_num, by omega, HW13⟩
          case measure => simp [intOf]; omega
        · obtain rfl : k = n := by omega
          have HBt := Hid.mk (wbytes_any q v10 _ wr W10.1 (by rw [List.length_append]; omega))
          have HKr := Hid.mk W10.2.2.2
          clear W10 hH
          go_wp2_with fail
          refine HBt.out.mono ?_
          rintro e w13 ⟨v13, rfl, hO13, k13, hf13⟩
          go_wp2_with fail
          go_ret
          refine ⟨v13, rfl, ?_, HKr.out.trans k13 (by simp), fun g hg => ?_⟩
          · rw [List.take_of_length_le (by have := HN.out; omega), ← HX.out, ← HB1.out] at hO13
            unfold encJn
            rw [HN.out]
            simpa [List.append_assoc] using hO13
          · have := hf13 g hg
            have := HKr.out.size
            omega
end
end Go.Proofs.YtngnenbidpojeaaGreatDoor
