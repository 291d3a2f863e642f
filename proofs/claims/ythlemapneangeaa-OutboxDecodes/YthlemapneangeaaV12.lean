import Derived.Test.YthlemapneangeaaV04
import Derived.Test.YthlemapneangeaaV11
/-
  same: the program's outbox and the document's, held against each other.
-/
namespace Go.Proofs.Ythlemapneangeaa
set_option maxRecDepth 100000
open Go.RowKit
set_option linter.unusedVariables false
section
variable {w0 w w' : World} {p pf : Nat} {v u : Value} {own : List UInt8} {K : List La} {qs ms : List Yq}
theorem ot_eq {a b : Yq} (h : ot a = ot b) : a.to = b.to ∧ a.q.x = b.q.x := by simpa [ot] using h
theorem ot_at {l1 l2 : List Yq} (h : l1.map ot = l2.map ot) {j : Nat} {a : Yq} (ha : l1[j]? = some a) : ∃ b, l2[j]? = some b ∧ a.to = b.to ∧ a.q.x = b.q.x := by
  have := congrArg (·[j]?) h
  simp only [List.getElem?_map, ha, Option.map_some] at this
  obtain ⟨b, hb, e⟩ := Option.map_eq_some_iff.1 this.symm
  exact ⟨b, hb, ot_eq e.symm⟩
theorem Fitq.of {l1 l2 : List Yq} (h : l1.map ot = l2.map ot) (hf : Fitq l1) : Fitq l2 := fun b hb => by
  obtain ⟨j, hj⟩ := List.getElem?_of_mem hb
  obtain ⟨a, ha, e1, e2⟩ := ot_at h.symm hj
  have := hf a (List.mem_of_getElem? ha)
  rw [e1, e2]
  exact this
theorem len_of {l1 l2 : List Yq} (h : l1.map ot = l2.map ot) : l1.length = l2.length := by simpa using congrArg List.length h
theorem rowT_at {a : Option Addr} {n c : Nat} {l : List (List UInt8)} (h : ReadsR 1 w (.slice a n c) (CT l)) {j : Nat} {y : List UInt8} (hy : l[j]? = some y) : ∃ b o, a = some ⟨b, o, none⟩ ∧ w.cell? ⟨b, o + j, none⟩ = some (Sv y) := by
  obtain ⟨b, o, c', e, hc⟩ := ReadsR.at h j [Sv y] (by simp [CT, hy])
  injection e with e _ _
  have h0 := hc 0 _ rfl
  rw [Nat.mul_one, Nat.add_zero] at h0
  exact ⟨b, o, e, h0⟩
theorem keys_at {j : Nat} {z : La} (hz : K[j]? = some z) : (keysL K)[j]? = some z.k := by simp [keysL, hz]
set_option maxHeartbeats 4000000 in
theorem same18 (hB : IsO w p own K qs) (hF : IsF w0 w pf v u own K ms) (hm : qs.map ot = ms.map ot) (hft : Fitq qs) (hup : Rise K) (hol : own.length ≤ 1000) : Calls Try.prog 18 #[.pointer (some ⟨p, 0, none⟩), .pointer (some ⟨pf, 0, none⟩)] w fun e w' => e = .returned (.bool true) ∧ Kept [] w w' := by
  have HB := Hid.mk hB
  have HFT := Hid.mk hft
  have HM := Hid.mk hm
  have HUP := Hid.mk hup
  have HOL := Hid.mk hol
  have hkn := hB.kn
  have h32 := hB.ln
  obtain ⟨au, cu, rfl, hc1, hc2⟩ := rowK_form hF.krow
  obtain ⟨av, cv, rfl, hv1, hv2⟩ := rowY_form hF.ys.row
  have HF := Hid.mk hF
  have hl := len_of hm
  generalize hn : ms.length = n at *
  have HN := Hid.mk hn
  have HNQ := Hid.mk hl
  rw [hl] at h32
  clear hB hF hm hft hup hol hn hl
  go_enter Try.func18, Try.ntmps18
  go_wp2_with fail
  refine (all21 HB.out HFT.out).mono ?_
  rintro e w1 ⟨v5, rfl, qs', hm', hY, k1⟩
  obtain ⟨a5, c5, rfl, hv5, hv6⟩ := rowY_form hY.row
  have hq' : qs'.length = n := by rw [← HNQ.out]; exact len_of hm'
  rw [hq'] at hY hv5 ⊢
  have HY := Hid.mk hY
  have HM' := Hid.mk hm'
  clear hY hm'
  go_wp2_with fail
  have k2 := k1.drew
  have HS2 : Hid (∀ W, Kept [] w W → W.cell? ⟨pf, 0, none⟩ = some (Sv own) ∧ W.cell? ⟨pf, 1, none⟩ = some (.slice av n cv)) := fun W k => by
    obtain ⟨x0, x1, x2⟩ := cells3 (HF.out.kept0 k).box
    exact ⟨x0, x1⟩
  have S0 := HS2.out _ k2
  have HO := Hid.mk (owner24 (HB.out.kept0 k2) (by have := HOL.out; omega))
  go_region_held3 (fun W => W.cell? ⟨pf, 0, none⟩ = some (Sv own) ∧ W.cell? ⟨pf, 1, none⟩ = some (.slice av n cv)) (first | with_reducible exact S0 | with_reducible exact S1) (first | (go_at_call 24; refine HO.out.mono ?_; rintro e w3 ⟨rfl, k3⟩; have S1 := HS2.out _ (k2.trans k3 (by simp))))
  have k03 : Kept [] w w3 := k2.trans k3 (by simp)
  have k13 : Kept [] w1 w3 := (Kept.refl [] w1).drew.trans k3 (by simp)
  clear S0 S1 k3 k2 HO
  go_wp2_with fail
  have hqc : (qs = [] ∧ ms = []) ∨ ∃ y t m mt, qs = y :: t ∧ ms = m :: mt := by
    have h1 := HNQ.out
    have h2 := HN.out
    clear HNQ HN HB HF HM HM' HFT
    cases qs with
    | nil => cases ms with
      | nil => exact .inl ⟨rfl, rfl⟩
      | cons m mt => simp at h1 h2; omega
    | cons y t => cases ms with
      | nil => simp at h1 h2; omega
      | cons m mt => exact .inr ⟨y, t, m, mt, rfl, rfl⟩
  have HAT : Hid (∀ j, j < n → ∃ x m : Yq, qs'[j]? = some x ∧ ms[j]? = some m ∧ x.to = m.to ∧ x.q.x = m.q.x ∧ x.q.x.args.length ≤ 1000) := fun j hj => by
    obtain ⟨x, hx⟩ : ∃ x, qs'[j]? = some x := ⟨_, List.getElem?_eq_getElem (by omega)⟩
    obtain ⟨m, h1, h2, h3⟩ := ot_at (HM'.out.trans HM.out) hx
    have := (HFT.out.of HM'.out.symm) x (List.mem_of_getElem? hx)
    exact ⟨x, m, hx, h1, h2, h3, by omega⟩
  have hpfl : pf < w3.heap.size := (HF.out.kept0 k03).lt
  rcases hqc with ⟨rfl, rfl⟩ | ⟨y, t, m, mt, rfl, rfl⟩
  case' inl =>
    have hn0 : n = 0 := HN.out.symm
    have hn1 : ((0 : Int) < (n : Int)) = False := eq_false (by omega)
    have hn2 : (0 < n) = False := eq_false (by omega)
    clear hn0
    refine (first23_none (HB.out.kept0 k03)).mono ?_
    rintro e w4 ⟨a1, c1, rfl, hO1, k4, hf1⟩
    go_wp2_with fail
    obtain ⟨W2, e2, k5, hz2, hb2⟩ := box1 w4 (.cells #[.string { data := #[] }, .string { data := #[] }, .int .u64 0, .int .i64 0, .slice a1 0 c1] 48)
    rw [e2]
    clear e2
    go_quiet (fail)
    have kV : Kept [] w1 (W2.drewN nq) := ((k13.trans k4 (by simp)).trans k5 (by simp)).drewN _
    generalize W2.drewN nq = V at kV ⊢
    clear hO1 k4 hf1 k5 hz2 hb2 hn1 hn2
  case' inr =>
    have hn1 : (0 : Int) < (n : Int) := by have := HN.out; simp at this; omega
    have hn0 : 0 < n := by omega
    refine (first23_some (HB.out.kept0 k03) HFT.out).mono ?_
    rintro e w4 ⟨a1, c1, rfl, hO1, k4, hf1⟩
    go_wp2_with fail
    obtain ⟨W2, e2, k5, hz2, hb2⟩ := box1 w4 (.cells #[Sv y.to, Sv y.q.x.fr, .int .u64 (y.q.x.ser : Int), .int .i64 y.q.x.kind, .slice a1 y.q.x.args.length c1] 48)
    rw [e2]
    clear e2
    have kd : Kept [] w3 W2.drew := (k4.trans k5 (by simp)).drew
    have hFd := HF.out.kept0 (k03.trans kd (by simp))
    have hOd : OwnsJ W2.drew (.slice a1 y.q.x.args.length c1) y.q.x.args := (hO1.kept k5 (by simp)).kept (Kept.refl [] W2).drew (by simp)
    have hbd : W2.drew.heap[w4.heap.size]? = some (.cells #[Sv y.to, Sv y.q.x.fr, .int .u64 (y.q.x.ser : Int), .int .i64 y.q.x.kind, .slice a1 y.q.x.args.length c1] 48 (0, 0)) := hb2
    obtain ⟨b, o, hav, d0, d1, d2, d3, d4⟩ := rowY_at hFd.ys.row (j := 0) (y := m) rfl
    rw [Nat.zero_mul, Nat.add_zero] at *
    obtain ⟨he1, he2⟩ : y.to = m.to ∧ y.q.x = m.q.x := ot_eq (by have := HM.out; simp at this; exact this.1)
    rw [← he1] at d0
    rw [← he2] at d1 d2 d3
    have d4 : W2.drew.cell? ⟨b, o + 4, none⟩ = some (.slice m.q.ad y.q.x.args.length m.q.cap) := by rw [he2]; exact d4
    have z1 := (cells3 hFd.box).2.1
    have hpfl2 : pf < W2.drew.heap.size := hFd.lt
    rw [hav] at z1
    have HS : Hid (∀ W, Kept [] W2.drew W → (W.cell? ⟨pf, 1, none⟩ = some (.slice (some ⟨b, o, none⟩) n cv) ∧ W.cell? ⟨w4.heap.size, 0, none⟩ = some (Sv y.to) ∧ W.cell? ⟨w4.heap.size, 1, none⟩ = some (Sv y.q.x.fr) ∧ W.cell? ⟨w4.heap.size, 2, none⟩ = some (.int .u64 (y.q.x.ser : Int)) ∧ W.cell? ⟨w4.heap.size, 3, none⟩ = some (.int .i64 y.q.x.kind) ∧ W.cell? ⟨w4.heap.size, 4, none⟩ = some (.slice a1 y.q.x.args.length c1) ∧ W.cell? ⟨b, o, none⟩ = some (Sv y.to) ∧ W.cell? ⟨b, o + 1, none⟩ = some (Sv y.q.x.fr) ∧ W.cell? ⟨b, o + 2, none⟩ = some (.int .u64 (y.q.x.ser : Int)) ∧ W.cell? ⟨b, o + 3, none⟩ = some (.int .i64 y.q.x.kind) ∧ W.cell? ⟨b, o + 4, none⟩ = some (.slice m.q.ad y.q.x.args.length m.q.cap))) := fun W k => by
      obtain ⟨x0, x1, x2, x3, x4⟩ := cells5 hbd
      exact ⟨k.cell_eq z1, k.cell_eq x0, k.cell_eq x1, k.cell_eq x2, k.cell_eq x3, k.cell_eq x4, k.cell_eq d0, k.cell_eq d1, k.cell_eq d2, k.cell_eq d3, k.cell_eq d4⟩
    have S0 := HS.out _ (Kept.refl [] _)
    have H56 : Hid (Calls Try.prog 56 #[Lv y.q.x a1 c1, Lv y.q.x m.q.ad m.q.cap] W2.drew fun e w' => e = .returned (.bool true) ∧ Kept [] W2.drew w') := by
      have hms := (hFd.ys.args m (by simp)).reads
      rw [← he2] at hms
      have hms : ReadsJ W2.drew (.slice m.q.ad y.q.x.args.length m.q.cap) y.q.x.args := by rw [he2] at hms ⊢; exact hms
      have := same16 y.q.x y.q.x a1 m.q.ad c1 m.q.cap hOd.reads hms (by have := HFT.out y (by simp); omega)
      rw [sameL_refl] at this
      exact this
    have KD := Hid.mk (k13.trans kd (by simp))
    clear hFd hOd hbd d0 d1 d2 d3 d4 z1 hO1 k4 hf1 k5 hz2 hb2 kd hav he1 he2
    go_region_held3 (fun W => (W.cell? ⟨pf, 1, none⟩ = some (.slice (some ⟨b, o, none⟩) n cv) ∧ W.cell? ⟨w4.heap.size, 0, none⟩ = some (Sv y.to) ∧ W.cell? ⟨w4.heap.size, 1, none⟩ = some (Sv y.q.x.fr) ∧ W.cell? ⟨w4.heap.size, 2, none⟩ = some (.int .u64 (y.q.x.ser : Int)) ∧ W.cell? ⟨w4.heap.size, 3, none⟩ = some (.int .i64 y.q.x.kind) ∧ W.cell? ⟨w4.heap.size, 4, none⟩ = some (.slice a1 y.q.x.args.length c1) ∧ W.cell? ⟨b, o, none⟩ = some (Sv y.to) ∧ W.cell? ⟨b, o + 1, none⟩ = some (Sv y.q.x.fr) ∧ W.cell? ⟨b, o + 2, none⟩ = some (.int .u64 (y.q.x.ser : Int)) ∧ W.cell? ⟨b, o + 3, none⟩ = some (.int .i64 y.q.x.kind) ∧ W.cell? ⟨b, o + 4, none⟩ = some (.slice m.q.ad y.q.x.args.length m.q.cap))) (first | with_reducible exact S0 | with_reducible exact S1) (first | (go_at_call 56; refine H56.out.mono ?_; rintro e V ⟨rfl, k6⟩; have S1 := HS.out _ k6))
    have kV : Kept [] w1 V := KD.out.trans k6 (by simp)
    clear S0 S1 HS H56 KD k6 hn1 hn0
  all_goals
    have k0V := k1.trans kV (by simp)
    have HKV := Hid.mk k0V
    have HKV1 := Hid.mk kV
    clear k0V kV k13 k03
    go_wp2_with fail
    go_loopw [70] (fun i wr => ∃ j : Nat, i = .int .i64 (j : Int) ∧ j ≤ n ∧ Hid (Kept [] V wr)) (fun i _ => n - (intOf i).toNat)
    case atStart => exact ⟨0, rfl, by omega, Hid.mk (Kept.refl [] _)⟩
    case round =>
      obtain ⟨j, rfl, hj, hk⟩ := hrel
      by_cases hlt : j < n
      · have hjI : (j : Int) < (n : Int) := by omega
        have hj0 : (0 : Int) ≤ (j : Int) := by omega
        obtain ⟨x, m, hx, hmm, he1, he2, hxl⟩ := HAT.out j hlt
        have kd : Kept [] w wr.drew := (HKV.out.trans hk.out (by simp)).drew
        have kd1 : Kept [] w1 wr.drew := (HKV1.out.trans hk.out (by simp)).drew
        have hFd := HF.out.kept0 kd
        have hYd := HY.out.kept0 kd1
        obtain ⟨b, o, rfl, d0, d1, d2, d3, d4⟩ := rowY_at hFd.ys.row hmm
        obtain ⟨b5, o5, rfl, g0, g1, g2, g3, g4⟩ := rowY_at hYd.row hx
        rw [← he1] at d0
        rw [← he2] at d1 d2 d3
        have d4 : wr.drew.cell? ⟨b, o + j * 5 + 4, none⟩ = some (.slice m.q.ad x.q.x.args.length m.q.cap) := by rw [he2]; exact d4
        have g4 : wr.drew.cell? ⟨b5, o5 + j * 5 + 4, none⟩ = some (.slice x.q.ad x.q.x.args.length x.q.cap) := g4
        have z1 := (cells3 hFd.box).2.1
        have HS : Hid (∀ W, Kept [] wr.drew W → (W.cell? ⟨pf, 1, none⟩ = some (.slice (some ⟨b, o, none⟩) n cv) ∧ W.cell? ⟨b5, o5 + j * 5, none⟩ = some (Sv x.to) ∧ W.cell? ⟨b5, o5 + j * 5 + 1, none⟩ = some (Sv x.q.x.fr) ∧ W.cell? ⟨b5, o5 + j * 5 + 2, none⟩ = some (.int .u64 (x.q.x.ser : Int)) ∧ W.cell? ⟨b5, o5 + j * 5 + 3, none⟩ = some (.int .i64 x.q.x.kind) ∧ W.cell? ⟨b5, o5 + j * 5 + 4, none⟩ = some (.slice x.q.ad x.q.x.args.length x.q.cap) ∧ W.cell? ⟨b, o + j * 5, none⟩ = some (Sv x.to) ∧ W.cell? ⟨b, o + j * 5 + 1, none⟩ = some (Sv x.q.x.fr) ∧ W.cell? ⟨b, o + j * 5 + 2, none⟩ = some (.int .u64 (x.q.x.ser : Int)) ∧ W.cell? ⟨b, o + j * 5 + 3, none⟩ = some (.int .i64 x.q.x.kind) ∧ W.cell? ⟨b, o + j * 5 + 4, none⟩ = some (.slice m.q.ad x.q.x.args.length m.q.cap))) := fun W k => ⟨k.cell_eq z1, k.cell_eq g0, k.cell_eq g1, k.cell_eq g2, k.cell_eq g3, k.cell_eq g4, k.cell_eq d0, k.cell_eq d1, k.cell_eq d2, k.cell_eq d3, k.cell_eq d4⟩
        have S0 := HS.out _ (Kept.refl [] _)
        have H56 : Hid (Calls Try.prog 56 #[Lv x.q.x x.q.ad x.q.cap, Lv x.q.x m.q.ad m.q.cap] wr.drew fun e w' => e = .returned (.bool true) ∧ Kept [] wr.drew w') := by
          have hms := (hFd.ys.args m (List.mem_of_getElem? hmm)).reads
          have hms : ReadsJ wr.drew (.slice m.q.ad x.q.x.args.length m.q.cap) x.q.x.args := by rw [he2]; exact hms
          have := same16 x.q.x x.q.x x.q.ad m.q.ad x.q.cap m.q.cap (hYd.args x (List.mem_of_getElem? hx)).reads hms (by omega)
          rw [sameL_refl] at this
          exact this
        clear hFd hYd d0 d1 d2 d3 d4 g0 g1 g2 g3 g4 z1 he1 he2 hx hmm kd kd1
        go_wp2_with fail
        go_region_held3 (fun W => (W.cell? ⟨pf, 1, none⟩ = some (.slice (some ⟨b, o, none⟩) n cv) ∧ W.cell? ⟨b5, o5 + j * 5, none⟩ = some (Sv x.to) ∧ W.cell? ⟨b5, o5 + j * 5 + 1, none⟩ = some (Sv x.q.x.fr) ∧ W.cell? ⟨b5, o5 + j * 5 + 2, none⟩ = some (.int .u64 (x.q.x.ser : Int)) ∧ W.cell? ⟨b5, o5 + j * 5 + 3, none⟩ = some (.int .i64 x.q.x.kind) ∧ W.cell? ⟨b5, o5 + j * 5 + 4, none⟩ = some (.slice x.q.ad x.q.x.args.length x.q.cap) ∧ W.cell? ⟨b, o + j * 5, none⟩ = some (Sv x.to) ∧ W.cell? ⟨b, o + j * 5 + 1, none⟩ = some (Sv x.q.x.fr) ∧ W.cell? ⟨b, o + j * 5 + 2, none⟩ = some (.int .u64 (x.q.x.ser : Int)) ∧ W.cell? ⟨b, o + j * 5 + 3, none⟩ = some (.int .i64 x.q.x.kind) ∧ W.cell? ⟨b, o + j * 5 + 4, none⟩ = some (.slice m.q.ad x.q.x.args.length m.q.cap))) (first | with_reducible exact S0 | with_reducible exact S1) (first | (go_at_call 56; refine H56.out.mono ?_; rintro e V6 ⟨rfl, k6⟩; have S1 := HS.out _ k6))
        clear S0 S1 HS H56
        go_wp2_with fail
        go_roundw
        case rel => exact ⟨j + 1, by go_num, by omega, Hid.mk ((hk.out.drew).trans k6 (by simp))⟩
        case measure => simp [intOf]; omega
      · have kr := HKV.out.trans hk.out (by simp)
        have hFr := HF.out.kept0 kr
        obtain ⟨r0, r1, r2⟩ := cells3 hFr.box
        have H57 := Hid.mk (keys57 r2 hFr.krow (by omega))
        clear hFr r0 r1 r2
        go_wp2_with fail
        refine H57.out.mono ?_
        rintro e w7 ⟨vk, rfl, hOk, k7⟩
        have hRk := hOk.reads (CT_wide _)
        obtain ⟨ak, ck, rfl, hk1, hk2⟩ := hRk.form
        have hlk : (CT (keysL K)).length = K.length := by rw [CT_length, keysL, List.length_map]
        rw [hlk] at hRk hk1 ⊢
        have HRK := Hid.mk hRk
        have K07 := Hid.mk (kr.trans k7 (by simp))
        clear hOk hRk hlk kr k7 H57
        go_wp2_with fail
        go_loopw [109] (fun i wr => ∃ j : Nat, i = .int .i64 (j : Int) ∧ j ≤ K.length ∧ Hid (Kept [] w7 wr)) (fun i _ => K.length - (intOf i).toNat)
        case atStart => exact ⟨0, rfl, by omega, Hid.mk (Kept.refl [] _)⟩
        case round =>
          obtain ⟨i, rfl, hi, hki⟩ := hrel
          by_cases hli : i < K.length
          · have hiI : (i : Int) < (K.length : Int) := by omega
            have hi0 : (0 : Int) ≤ (i : Int) := by omega
            obtain ⟨z, hz⟩ : ∃ z, K[i]? = some z := ⟨_, List.getElem?_eq_getElem hli⟩
            have kd7 : Kept [] w7 wr.drew := hki.out.drew
            have kd : Kept [] w wr.drew := K07.out.trans kd7 (by simp)
            obtain ⟨b, o, rfl, hcz⟩ := rowT_at (HRK.out.kept kd7 (by simp)) (keys_at hz)
            have HS : Hid (∀ W, Kept [] wr.drew W → W.cell? ⟨b, o + i, none⟩ = some (Sv z.k)) := fun W k => k.cell_eq hcz
            have S0 := HS.out _ (Kept.refl [] _)
            have H22 := Hid.mk (serial22 (HB.out.kept0 kd) HUP.out z.k)
            have H33 : Hid (∀ W, Kept [] wr.drew W → Calls Try.prog 33 #[.pointer (some ⟨pf, 0, none⟩), Sv z.k] W fun e w' => e = .returned (Uv (ser K z.k)) ∧ Kept [] W w') := fun W k => by
              have hFr := HF.out.kept0 (kd.trans k (by simp))
              exact serial33 (cells3 hFr.box).2.2 hFr.krow z.k (by omega)
            generalize ser K z.k = sv at H22 H33
            clear hcz hz kd kd7
            go_wp2_with fail
            go_region_held3 (fun W => W.cell? ⟨b, o + i, none⟩ = some (Sv z.k)) (first | with_reducible exact S0 | with_reducible exact S1 | with_reducible exact S2) (first | (go_at_call 33; refine (H33.out _ k8).mono ?_; rintro e V9 ⟨rfl, k9⟩; have S2 := HS.out _ (k8.trans k9 (by simp))) | (go_at_call 22; refine H22.out.mono ?_; rintro e V8 ⟨rfl, k8⟩; have S1 := HS.out _ k8))
            go_wp2_with fail
            go_roundw
            case rel => exact ⟨i + 1, by go_num, by omega, Hid.mk ((hki.out.drew.trans k8 (by simp)).trans k9 (by simp))⟩
            case measure => simp [intOf]; omega
          · have kr := K07.out.trans hki.out (by simp)
            go_wp2_with fail
            go_ret
            exact ⟨rfl, kr⟩
end
end Go.Proofs.Ythlemapneangeaa
