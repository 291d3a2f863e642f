/-
  TurnTries' walk.
-/
import Derived.Test.YtngnenbidpojeaaDoorUw
namespace Go.Proofs.YtngnenbidpojeaaDoor
set_option maxRecDepth 100000
open Go.RowKit
set_option linter.unusedVariables false
/-- What an actor is behind i turns that fail. -/
def trI (l : Lt) (t : List Lt) (i : Nat) : Ac := if i < 3 then trA (l :: t) (i : Int) [] else trA t 0 [l]
theorem takeI (l : Lt) (t : List Lt) (hl : l.formed = true) : ∀ i, i < 3 → takeA pg21 (trI l t i) 0 = (trI l t (i + 1), ⟨false, decide (i = 2), 12, 1, []⟩, 0)
  | 0, _ => take21 l t hl 0 (.inl rfl)
  | 1, _ => take21 l t hl 1 (.inr rfl)
  | 2, _ => take21p l t hl
  | n + 3, h => by omega
theorem lim_trI (l : Lt) (t : List Lt) (i : Nat) : Lim (trI l t i) 0 0 := by
  unfold trI
  split <;> exact lim_tr _ _ _
theorem AP.cell1 {w0 w : World} {p pj pi po : Nat} {a : Ac} (h : AP w0 w p pj pi po a) : w.cell? ⟨p, 1, none⟩ = some (Ptr pi) := by
  obtain ⟨v, h1, -, -⟩ := h
  exact h1.cells.2.1
section
variable {w : World}
set_option maxHeartbeats 8000000 in
theorem tries3 {lv mv : Value} {l : Lt} {ms : List Lq} (hL : LtIn w lv l) (hM : LetsIn w mv ms) (hG : Glob w) : Calls Tryd.prog 3 #[lv, mv] w fun e w' => e = .returned (.bool true) ∧ Kept [] w w' := by
  obtain ⟨⟨av, rfl, hj⟩, hok, hfr⟩ := hL
  have hj : ReadsJ w av l.args := hj
  obtain ⟨a, c, rfl, hac, hc⟩ := hj.form
  obtain ⟨am, cm, rfl, hmc, hcm⟩ := hM.1.form
  obtain ⟨W0, e0, k0, hz0, hb0⟩ := box1 w (.cells #[Sv l.fr, .int .u64 (l.ser : Int), .int .i64 l.kind, .slice a l.args.length c] 25)
  have HK0 := Hid.mk k0
  have HS : Hid (∀ W, Kept [] W0 W → W.cell? ⟨w.heap.size, 0, none⟩ = some (Sv l.fr) ∧ W.cell? ⟨w.heap.size, 1, none⟩ = some (.int .u64 (l.ser : Int)) ∧ W.cell? ⟨w.heap.size, 2, none⟩ = some (.int .i64 l.kind) ∧ W.cell? ⟨w.heap.size, 3, none⟩ = some (.slice a l.args.length c)) := Hid.mk fun W k => cells4 (k.keeps hb0 (by simp))
  have HG : Hid (∀ W, Kept [] W0 W → Glob W) := Hid.mk fun W k => hG.kept (k0.then k)
  have HJ : Hid (∀ W, Kept [] W0 W → ReadsJ W (.slice a l.args.length c) l.args) := Hid.mk fun W k => hj.kept (k0.then k) (by simp)
  have HM : Hid (∀ W, Kept [] W0 W → RowQ W (.slice am ms.length cm) ms ∧ ValsQ W ms) := Hid.mk fun W k => ⟨hM.1.kept (k0.then k) (by simp), hM.2.1.kept0 (k0.then k)⟩
  have HMo := Hid.mk hM.2.2
  have HLo := Hid.mk hok
  have hsz : (⟨l.fr.toArray⟩ : ByteArray).size = l.fr.length := by simp [ByteArray.size]
  have hnm : ms.length ≤ 9223372036854775807 := by omega
  have hnl : l.args.length ≤ 9223372036854775807 := by omega
  have HN := Hid.mk (And.intro hnm hnl)
  clear hj hok hM hG k0 hz0 hb0
  have HAw := Hid.mk (awake7 (HG.out W0 (Kept.refl [] W0)))
  obtain ⟨y0, y1, y2, y3⟩ := HS.out W0 (Kept.refl [] W0)
  go_enter Tryd.func3, Tryd.ntmps3
  go_wp2_with fail
  refine HAw.out.mono ?_
  rintro e w1 ⟨rfl, k1⟩
  have K1 := Hid.mk k1
  have HAw1 := Hid.mk (awake7 (HG.out w1 k1))
  clear k1 HAw y0 y1 y2 y3
  obtain ⟨y0, y1, y2, y3⟩ := HS.out w1 K1.out
  by_cases h1 : l.args.length ≤ 4
  · have h1I : ((4 : Int) < (l.args.length : Int)) = False := eq_false (by omega)
    by_cases h2 : l.fr.length ≤ 40
    · have h2I : ((40 : Int) < (l.fr.length : Int)) = False := eq_false (by omega)
      by_cases h3 : ms.length ≤ 5
      · have h3I : ((5 : Int) < (ms.length : Int)) = False := eq_false (by omega)
        have hlf : l.formed = true := by simp [Lt.formed, h1, h2]
        have HF := Hid.mk (And.intro hlf h3)
        have HNew := Hid.mk (new13 (w0 := w1) (w := w1) [109, 101] (by decide) (Nat.le_refl _))
        clear HAw1 hlf h1 h2 h3
        go_wp2_with fail
        refine HNew.out.mono ?_
        rintro e w2 ⟨p, pj, pi, po, rfl, hp, k2⟩
        have HP := Hid.mk (AP.new hp (by decide))
        have K2 : Hid (Kept [] W0 w2) := Hid.mk (K1.out.then k2)
        have HPL : Hid (W0.heap.size ≤ p ∧ W0.heap.size ≤ pj ∧ W0.heap.size ≤ pi ∧ W0.heap.size ≤ po) := by
          have := K1.out.size
          have := hp.hp; have := hp.hj; have := hp.hi; have := hp.ho
          exact Hid.mk (by omega)
        have HPd := Hid.mk (HP.out.kept0 (Kept.refl [] w2).drew)
        have HC := Hid.mk (pushP_any HPd.out l a c (HJ.out _ K2.out.drew) HLo.out)
        have S0 : w2.drew.cell? ⟨p, 1, none⟩ = some (Ptr pi) ∧ w2.drew.cell? ⟨w.heap.size, 0, none⟩ = some (Sv l.fr) ∧ w2.drew.cell? ⟨w.heap.size, 1, none⟩ = some (.int .u64 (l.ser : Int)) ∧ w2.drew.cell? ⟨w.heap.size, 2, none⟩ = some (.int .i64 l.kind) ∧ w2.drew.cell? ⟨w.heap.size, 3, none⟩ = some (.slice a l.args.length c) := ⟨(hp.kept0 (Kept.refl [] w2).drew).cells.2.1, HS.out _ K2.out.drew⟩
        clear hp k2 HNew y0 y1 y2 y3 h1I h2I h3I
        go_wp2_with fail
        go_region_held3 (fun V => V.cell? ⟨p, 1, none⟩ = some (Ptr pi) ∧ V.cell? ⟨w.heap.size, 0, none⟩ = some (Sv l.fr) ∧ V.cell? ⟨w.heap.size, 1, none⟩ = some (.int .u64 (l.ser : Int)) ∧ V.cell? ⟨w.heap.size, 2, none⟩ = some (.int .i64 l.kind) ∧ V.cell? ⟨w.heap.size, 3, none⟩ = some (.slice a l.args.length c)) (first | with_reducible exact S0 | with_reducible exact ⟨HP3.out.cell1, HS.out _ K3.out⟩) (first | (go_at_call 7; refine HC.out.mono ?_; rintro e w3 ⟨rfl, hp3, k3⟩; have HP3 := Hid.mk hp3; have K3 : Hid (Kept [] W0 w3) := Hid.mk (K2.out.drew.trans k3 (fun x hx => .inr (by have := HPL.out; simp at hx; omega))); clear hp3 k3))
        have he : pushAc (newA [109, 101]) l = trA [l] 0 [] := push_first l HF.out.1
        have HP4 : Hid (AP w1 w3 p pj pi po (trA [l] 0 [])) := Hid.mk (by rw [← he]; exact HP3.out)
        clear S0 HC HP HPd HP3 he
        go_wp2_with fail
        go_loopw [44] (fun i wr => ∃ (j : Nat) (t : List Lt), i = .int .i64 (j : Int) ∧ j ≤ ms.length ∧ Hid (AP w1 wr p pj pi po (trA (l :: t) 0 [])) ∧ Hid (Kept [] W0 wr)) (fun i _ => ms.length - (intOf i).toNat)
        case atStart => exact ⟨0, [], rfl, by omega, HP4, K3⟩
        case round =>
          obtain ⟨j, t, rfl, hj, HPj, Kj⟩ := hrel
          clear HP4 K3
          by_cases hlt : j < ms.length
          · have HLT := Hid.mk hlt
            obtain ⟨q, hq⟩ : ∃ q, ms[j]? = some q := ⟨_, List.getElem?_eq_getElem hlt⟩
            have hqm : q ∈ ms := List.mem_of_getElem? hq
            have hqo := HMo.out q hqm
            obtain ⟨hR, hV⟩ := HM.out _ Kj.out
            obtain ⟨b, o, rfl, d0, d1, d2, d3⟩ := hR.at hq
            have hbn := (hV q hqm).form
            obtain ⟨aq, cq, hsl, hq1, hq2⟩ := hbn
            have hqn : q.x.args.length ≤ 9223372036854775807 := by omega
            have hjI : (j : Int) < (ms.length : Int) := by omega
            have hjI0 : (0 : Int) ≤ (j : Int) := by omega
            have hqz : (⟨q.x.fr.toArray⟩ : ByteArray).size = q.x.fr.length := by simp [ByteArray.size]
            have HQ : Hid (∀ W, Kept [] W0 W → W.cell? ⟨b, o + j * 4, none⟩ = some (Sv q.x.fr) ∧ W.cell? ⟨b, o + j * 4 + 1, none⟩ = some (.int .u64 (q.x.ser : Int)) ∧ W.cell? ⟨b, o + j * 4 + 2, none⟩ = some (.int .i64 q.x.kind) ∧ W.cell? ⟨b, o + j * 4 + 3, none⟩ = some q.sl) := Hid.mk fun W k => by
              obtain ⟨b', o', e', h1, h2, h3, h4⟩ := (HM.out W k).1.at hq
              injection e' with e'
              injection e' with e1 e2
              subst e1 e2
              exact ⟨h1, h2, h3, h4⟩
            have HC : Hid (∀ W, AP w1 W p pj pi po (trA (l :: t) 0 []) → Kept [] W0 W → Calls Tryd.prog 7 #[Ptr pi, Lv q.x q.ad q.cap] W fun e w' => (∃ r, e = .returned (.int .i64 r)) ∧ (∃ t', AP w1 w' p pj pi po (trA (l :: t') 0 [])) ∧ Kept [] W0 w') := Hid.mk fun W hp k => (pushP_any hp q.x q.ad q.cap ((HM.out W k).2 q hqm) hqo).mono (by
              rintro e w' ⟨rfl, hp', k'⟩
              obtain ⟨t', ht'⟩ := push_more l t q.x
              rw [ht'] at hp'
              exact ⟨⟨_, rfl⟩, ⟨t', hp'⟩, k.trans k' (fun x hx => .inr (by have := HPL.out; simp at hx; omega))⟩)
            by_cases h1 : q.x.args.length ≤ 100
            · have h1I : ((100 : Int) < (q.x.args.length : Int)) = False := eq_false (by omega)
              by_cases h2 : q.x.fr.length ≤ 1000
              · have h2I : ((1000 : Int) < (q.x.fr.length : Int)) = False := eq_false (by omega)
                have S1 : wr.drew.cell? ⟨p, 1, none⟩ = some (Ptr pi) ∧ wr.drew.cell? ⟨b, o + j * 4, none⟩ = some (Sv q.x.fr) ∧ wr.drew.cell? ⟨b, o + j * 4 + 1, none⟩ = some (.int .u64 (q.x.ser : Int)) ∧ wr.drew.cell? ⟨b, o + j * 4 + 2, none⟩ = some (.int .i64 q.x.kind) ∧ wr.drew.cell? ⟨b, o + j * 4 + 3, none⟩ = some q.sl := ⟨(HPj.out.kept0 (Kept.refl [] wr).drew).cell1, HQ.out _ Kj.out.drew⟩
                have HCd := Hid.mk (HC.out _ (HPj.out.kept0 (Kept.refl [] wr).drew) Kj.out.drew)
                clear h1 h2 hq hqm hqo hR hV hsl hq1 hq2
                go_wp2_with fail
                go_region_held3 (fun V => V.cell? ⟨p, 1, none⟩ = some (Ptr pi) ∧ V.cell? ⟨b, o + j * 4, none⟩ = some (Sv q.x.fr) ∧ V.cell? ⟨b, o + j * 4 + 1, none⟩ = some (.int .u64 (q.x.ser : Int)) ∧ V.cell? ⟨b, o + j * 4 + 2, none⟩ = some (.int .i64 q.x.kind) ∧ V.cell? ⟨b, o + j * 4 + 3, none⟩ = some q.sl) (first | with_reducible exact S1 | with_reducible exact ⟨HP5.out.choose_spec.cell1, HQ.out _ K5.out⟩) (first | (go_at_call 7; refine HCd.out.mono ?_; rintro e w5 ⟨⟨r5, rfl⟩, hp5, k5⟩; have HP5 := Hid.mk hp5; have K5 := Hid.mk k5; clear hp5 k5))
                clear S1 HC HCd d0 d1 d2 d3
                obtain ⟨t', ht'⟩ := HP5.out
                have HP6 := Hid.mk ht'
                clear ht' HP5
                go_wp2_with fail
                go_roundw
                case rel => exact ⟨j + 1, t', by go_num, by have := HLT.out; omega, HP6, K5⟩
                case measure => (have := HLT.out; simp [intOf]; omega)
              · have h2I : (1000 : Int) < (q.x.fr.length : Int) := by omega
                clear h1 h2 hq hqm hqo hR hV hsl hq1 hq2
                go_wp2_with fail
                go_ret
                exact ⟨rfl, HK0.out.then Kj.out⟩
            · have h1I : (100 : Int) < (q.x.args.length : Int) := by omega
              clear h1 hq hqm hqo hR hV hsl hq1 hq2
              go_wp2_with fail
              go_ret
              exact ⟨rfl, HK0.out.then Kj.out⟩
          · obtain rfl : j = ms.length := by omega
            have hjI : ((ms.length : Int) < (ms.length : Int)) = False := eq_false (by omega)
            have HPI : Hid (AP w1 wr p pj pi po (trI l t 0)) := Hid.mk HPj.out
            obtain ⟨vP, hp0, -, hg0⟩ := HPj.out
            obtain ⟨qs0, hB0, hq0⟩ := hp0.i
            have hl0 : qs0.length = t.length + 1 := by rw [← List.length_map (f := fun q : Lq => q.x), hq0]; rfl
            have htl : t.length ≤ 8 := by have := hg0.i8; simp [trA] at this; omega
            have HLn := Hid.mk (len21 hB0)
            rw [hl0] at HLn
            have d1 := hp0.cells.2.1
            obtain ⟨n, hn⟩ : ∃ n, n = t.length + 1 := ⟨_, rfl⟩
            rw [← hn] at HLn
            have HNN := Hid.mk hn
            clear hp0 hg0 hB0 hq0 hl0 hn
            go_wp2_with fail
            refine HLn.out.mono ?_
            rintro e w5 ⟨rfl, rfl⟩
            clear HLn d1 HPj
            go_wp2_with fail
            go_loopw [78] (fun i w7 => ∃ k : Nat, i = .int .i64 (k : Int) ∧ k ≤ 3 ∧ Hid (AP w1 w7 p pj pi po (trI l t k)) ∧ Hid (Kept [] W0 w7)) (fun i _ => 3 - (intOf i).toNat)
            case atStart => exact ⟨0, rfl, by omega, HPI, Kj⟩
            case round =>
              obtain ⟨k, rfl, hk, HPk, Kk⟩ := hrel
              clear HPI
              by_cases hlt : k < 3
              · by_cases hk0 : k = 0
                · obtain rfl : k = 0 := by omega
                  go_wp2_with fail
                  obtain ⟨W3, e3, k3, hz3, hb3⟩ := box1 wr (.cells #[.int .i64 21, .int .i64 0] 45)
                  rw [e3]
                  have K4 : Hid (Kept [] W0 W3) := Hid.mk (Kk.out.then k3)
                  have hC := take10 (HG.out _ K4.out) (HPk.out.kept0 k3) (lim_trI l t 0) (by omega) (by omega) (pg := pg21) (now := 0) ⟨ReadsR.nil 1 W3, prog_fresh (C := pg21.code) hb3 (by decide)⟩ (by simp [pg21]) okp21 (i64_lit (by decide))
                  rw [takeI l t HF.out.1 0 (by omega)] at hC
                  refine hC.mono ?_
                  rintro e w8 ⟨v8, rfl, ⟨tv, rfl, q1, -⟩, hap, k8⟩
                  obtain ⟨at', ct', rfl, -, -⟩ := q1.form
                  obtain ⟨W5, e5, k5, hz5, hb5⟩ := box1 w8 (.cells #[.bool false, .bool false, .int .i64 12, .int .i64 1, .slice at' 0 ct'] 41)
                  obtain ⟨x0, x1, x2, x3, x4⟩ := cells5 hb5
                  have HP5 : Hid (AP w1 W5 p pj pi po (trI l t 1)) := Hid.mk (hap.kept0 k5)
                  have K5 : Hid (Kept [] W0 W5) := Hid.mk ((K4.out.trans k8 (fun x hx => by
                    right
                    have := HPL.out
                    simp at hx
                    rcases hx with rfl | rfl | rfl | rfl <;> omega)).then k5)
                  clear hC q1 hap k8 hb3 hz3 k3 e3 hb5 hz5 k5
                  dsimp only [Oval]
                  rw [show (rowT ([] : List Tm)).length = 0 from rfl]
                  rw [show decide ((0 : Nat) = 2) = false from rfl]
                  go_wp2_with fail
                  go_roundw
                  case rel => exact ⟨1, by go_num, by omega, HP5, K5⟩
                  case measure => simp [intOf]
                · by_cases hk1 : k = 1
                  · obtain rfl : k = 1 := by omega
                    go_wp2_with fail
                    obtain ⟨W3, e3, k3, hz3, hb3⟩ := box1 wr (.cells #[.int .i64 21, .int .i64 0] 45)
                    rw [e3]
                    have K4 : Hid (Kept [] W0 W3) := Hid.mk (Kk.out.then k3)
                    have hC := take10 (HG.out _ K4.out) (HPk.out.kept0 k3) (lim_trI l t 1) (by omega) (by omega) (pg := pg21) (now := 0) ⟨ReadsR.nil 1 W3, prog_fresh (C := pg21.code) hb3 (by decide)⟩ (by simp [pg21]) okp21 (i64_lit (by decide))
                    rw [takeI l t HF.out.1 1 (by omega)] at hC
                    refine hC.mono ?_
                    rintro e w8 ⟨v8, rfl, ⟨tv, rfl, q1, -⟩, hap, k8⟩
                    obtain ⟨at', ct', rfl, -, -⟩ := q1.form
                    obtain ⟨W5, e5, k5, hz5, hb5⟩ := box1 w8 (.cells #[.bool false, .bool false, .int .i64 12, .int .i64 1, .slice at' 0 ct'] 41)
                    obtain ⟨x0, x1, x2, x3, x4⟩ := cells5 hb5
                    have HP5 : Hid (AP w1 W5 p pj pi po (trI l t 2)) := Hid.mk (hap.kept0 k5)
                    have K5 : Hid (Kept [] W0 W5) := Hid.mk ((K4.out.trans k8 (fun x hx => by
                      right
                      have := HPL.out
                      simp at hx
                      rcases hx with rfl | rfl | rfl | rfl <;> omega)).then k5)
                    clear hC q1 hap k8 hb3 hz3 k3 e3 hb5 hz5 k5
                    dsimp only [Oval]
                    rw [show (rowT ([] : List Tm)).length = 0 from rfl]
                    rw [show decide ((1 : Nat) = 2) = false from rfl]
                    go_wp2_with fail
                    go_roundw
                    case rel => exact ⟨2, by go_num, by omega, HP5, K5⟩
                    case measure => simp [intOf]
                  · obtain rfl : k = 2 := by omega
                    go_wp2_with fail
                    obtain ⟨W3, e3, k3, hz3, hb3⟩ := box1 wr (.cells #[.int .i64 21, .int .i64 0] 45)
                    rw [e3]
                    have K4 : Hid (Kept [] W0 W3) := Hid.mk (Kk.out.then k3)
                    have hC := take10 (HG.out _ K4.out) (HPk.out.kept0 k3) (lim_trI l t 2) (by omega) (by omega) (pg := pg21) (now := 0) ⟨ReadsR.nil 1 W3, prog_fresh (C := pg21.code) hb3 (by decide)⟩ (by simp [pg21]) okp21 (i64_lit (by decide))
                    rw [takeI l t HF.out.1 2 (by omega)] at hC
                    refine hC.mono ?_
                    rintro e w8 ⟨v8, rfl, ⟨tv, rfl, q1, -⟩, hap, k8⟩
                    obtain ⟨at', ct', rfl, -, -⟩ := q1.form
                    obtain ⟨W5, e5, k5, hz5, hb5⟩ := box1 w8 (.cells #[.bool false, .bool true, .int .i64 12, .int .i64 1, .slice at' 0 ct'] 41)
                    obtain ⟨x0, x1, x2, x3, x4⟩ := cells5 hb5
                    have HP5 : Hid (AP w1 W5 p pj pi po (trI l t 3)) := Hid.mk (hap.kept0 k5)
                    have K5 : Hid (Kept [] W0 W5) := Hid.mk ((K4.out.trans k8 (fun x hx => by
                      right
                      have := HPL.out
                      simp at hx
                      rcases hx with rfl | rfl | rfl | rfl <;> omega)).then k5)
                    clear hC q1 hap k8 hb3 hz3 k3 e3 hb5 hz5 k5
                    dsimp only [Oval]
                    rw [show (rowT ([] : List Tm)).length = 0 from rfl]
                    rw [show decide ((2 : Nat) = 2) = true from rfl]
                    go_wp2_with fail
                    go_roundw
                    case rel => exact ⟨3, by go_num, by omega, HP5, K5⟩
                    case measure => simp [intOf]
              · obtain rfl : k = 3 := by omega
                have HPe : Hid (AP w1 wr.drew p pj pi po (trA t 0 [l])) := Hid.mk (HPk.out.kept0 (Kept.refl [] wr).drew)
                have KD : Hid (Kept [] W0 wr.drew) := Hid.mk Kk.out.drew
                obtain ⟨vP, hp0, hpo, hg0⟩ := HPe.out
                obtain ⟨qs0, hB0, hq0⟩ := hp0.i
                have hl0 : qs0.length = t.length := by rw [← List.length_map (f := fun q : Lq => q.x), hq0]; rfl
                have HLn := Hid.mk (len21 hB0)
                rw [hl0] at HLn
                have HVr := Hid.mk (version19 hp0.j.isP)
                obtain ⟨ms', a1, a2, a3⟩ := hpo
                obtain ⟨q, rfl⟩ : ∃ q, ms' = [q] := by
                  match ms', a3 with
                  | [q], _ => exact ⟨q, rfl⟩
                have hqx : q.x = l := by simpa [trA] using a3
                have hR : RowQ wr.drew vP [q] := a1.reads (CQ_wide _)
                obtain ⟨ap', cp', rfl, -, -⟩ := hR.form
                obtain ⟨b, o, rfl, f0, f1, f2, f3⟩ := hR.at (j := 0) rfl
                rw [hqx] at f0 f2
                obtain ⟨y0, y1, y2, y3⟩ := HS.out _ KD.out
                obtain ⟨d0, d1, d2, d3, d4⟩ := hp0.cells
                have e1 : IntKind.i64.wrap ((n : Int) - 1) = (t.length : Int) := by rw [IntKind.wrap_i64]; have := HNN.out; omega
                have S2 : wr.drew.cell? ⟨p, 0, none⟩ = some (Ptr pj) ∧ wr.drew.cell? ⟨p, 1, none⟩ = some (Ptr pi) ∧ wr.drew.cell? ⟨p, 3, none⟩ = some (.int .i64 0) ∧ wr.drew.cell? ⟨p, 4, none⟩ = some (.slice (some ⟨b, o, none⟩) 1 cp') ∧ wr.drew.cell? ⟨b, o, none⟩ = some (Sv l.fr) ∧ wr.drew.cell? ⟨b, o + 2, none⟩ = some (.int .i64 l.kind) ∧ wr.drew.cell? ⟨w.heap.size, 0, none⟩ = some (Sv l.fr) ∧ wr.drew.cell? ⟨w.heap.size, 2, none⟩ = some (.int .i64 l.kind) := ⟨d0, d1, d3, d4, by simpa using f0, by simpa using f2, y0, y2⟩
                clear hp0 hg0 hB0 hq0 hl0 a1 a2 a3 hR hqx f0 f1 f2 f3 y0 y1 y2 y3 d0 d1 d2 d3 d4 hlt hk HPk Kk
                go_wp2_with fail
                go_region_held3 (fun V => V.cell? ⟨p, 0, none⟩ = some (Ptr pj) ∧ V.cell? ⟨p, 1, none⟩ = some (Ptr pi) ∧ V.cell? ⟨p, 3, none⟩ = some (.int .i64 0) ∧ V.cell? ⟨p, 4, none⟩ = some (.slice (some ⟨b, o, none⟩) 1 cp') ∧ V.cell? ⟨b, o, none⟩ = some (Sv l.fr) ∧ V.cell? ⟨b, o + 2, none⟩ = some (.int .i64 l.kind) ∧ V.cell? ⟨w.heap.size, 0, none⟩ = some (Sv l.fr) ∧ V.cell? ⟨w.heap.size, 2, none⟩ = some (.int .i64 l.kind)) (first | with_reducible exact S2) (first | (go_at_call 10; refine HVr.out.mono ?_; rintro e w9 ⟨rfl, rfl⟩) | (go_at_call 8; refine HLn.out.mono ?_; rintro e w9 ⟨rfl, rfl⟩))
                clear S2
                go_wp2_with fail
                go_ret
                exact ⟨rfl, HK0.out.then KD.out⟩
      · have h3I : (5 : Int) < (ms.length : Int) := by omega
        clear h1 h2 h3
        go_wp2_with fail
        refine HAw1.out.mono ?_
        rintro e w2 ⟨rfl, k2⟩
        go_wp2_with fail
        go_ret
        exact ⟨rfl, HK0.out.then (K1.out.then k2)⟩
    · have h2I : (40 : Int) < (l.fr.length : Int) := by omega
      clear h1 h2
      go_wp2_with fail
      refine HAw1.out.mono ?_
      rintro e w2 ⟨rfl, k2⟩
      go_wp2_with fail
      go_ret
      exact ⟨rfl, HK0.out.then (K1.out.then k2)⟩
  · have h1I : (4 : Int) < (l.args.length : Int) := by omega
    clear h1
    go_wp2_with fail
    refine HAw1.out.mono ?_
    rintro e w2 ⟨rfl, k2⟩
    go_wp2_with fail
    go_ret
    exact ⟨rfl, HK0.out.then (K1.out.then k2)⟩
end
end Go.Proofs.YtngnenbidpojeaaDoor
