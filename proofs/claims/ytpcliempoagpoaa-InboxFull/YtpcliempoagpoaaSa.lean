/-
  SameAll: lists of letters that are held against each other.
-/
import Derived.Test.YtpcliempoagpoaaLt
import Derived.Test.YtpcliempoagpoaaCy
namespace Go.Proofs.Ytpcliempoagpoaa
open Go.RowKit
set_option linter.unusedVariables false
instance : DecidableEq Lt := fun x y => decidable_of_iff _ (sameL_iff x y)
section
variable {w : World}
set_option maxRecDepth 100000 in
set_option maxHeartbeats 1000000 in
theorem sameAll24 {a a' : Option Addr} {n n' c c' : Nat} {l m : List Lq} (hr : RowQ w (.slice a n c) l) (hv : ValsQ w l) (hr' : RowQ w (.slice a' n' c') m) (hv' : ValsQ w m) (hl : n ≤ 1000000) (hal : ∀ q ∈ l, q.x.args.length ≤ 1000000) :
    Calls Try.prog 25 #[.slice a n c, .slice a' n' c'] w fun e w' => e = .returned (.bool (decide (l.map (·.x) = m.map (·.x)))) ∧ Kept [] w w' := by
  obtain ⟨hn, hc1, hc2⟩ := hr.bound
  obtain ⟨hn', hc3, hc4⟩ := hr'.bound
  have HN := Hid.mk hn
  have HN' := Hid.mk hn'
  have HR := Hid.mk hr
  have HR' := Hid.mk hr'
  have HV := Hid.mk hv
  have HV' := Hid.mk hv'
  have HA := Hid.mk hal
  clear hn hn' hr hr' hv hv' hal
  generalize hD : decide (l.map (·.x) = m.map (·.x)) = D
  have HD := Hid.mk hD
  clear hD
  by_cases hlen : n = n'
  · subst hlen
    go_enter Try.func25, Try.ntmps25
    go_wp2_with fail
    go_loopw [13] (fun i wr => ∃ j : Nat, i = .int .i64 (j : Int) ∧ j ≤ n ∧ Hid ((l.take j).map (·.x) = (m.take j).map (·.x)) ∧ Hid (Kept [] w wr)) (fun i _ => n - (intOf i).toNat)
    case atStart => exact ⟨0, rfl, by omega, Hid.mk rfl, Hid.mk (Kept.refl [] w)⟩
    case round =>
      obtain ⟨j, rfl, hj, ht, kk⟩ := hrel
      by_cases hlt : j < n
      · obtain ⟨q, hq⟩ : ∃ q, l[j]? = some q := ⟨_, List.getElem?_eq_getElem (by have := HN.out; omega)⟩
        obtain ⟨q', hq'⟩ : ∃ q, m[j]? = some q := ⟨_, List.getElem?_eq_getElem (by have := HN'.out; omega)⟩
        have hjI : (j : Int) < (n : Int) := by omega
        have kd := kk.out.drew
        obtain ⟨b, o, rfl, d0, d1, d2, d3⟩ := (HR.out.kept kd (by simp)).at hq
        obtain ⟨b', o', rfl, e0, e1, e2, e3⟩ := (HR'.out.kept kd (by simp)).at hq'
        have S0 : wr.drew.cell? ⟨b, o + j * 4, none⟩ = some (Sv q.x.fr) ∧ wr.drew.cell? ⟨b, o + j * 4 + 1, none⟩ = some (.int .u64 (q.x.ser : Int)) ∧ wr.drew.cell? ⟨b, o + j * 4 + 2, none⟩ = some (.int .i64 q.x.kind) ∧ wr.drew.cell? ⟨b, o + j * 4 + 3, none⟩ = some (.slice q.ad q.x.args.length q.cap) ∧ wr.drew.cell? ⟨b', o' + j * 4, none⟩ = some (Sv q'.x.fr) ∧ wr.drew.cell? ⟨b', o' + j * 4 + 1, none⟩ = some (.int .u64 (q'.x.ser : Int)) ∧ wr.drew.cell? ⟨b', o' + j * 4 + 2, none⟩ = some (.int .i64 q'.x.kind) ∧ wr.drew.cell? ⟨b', o' + j * 4 + 3, none⟩ = some (.slice q'.ad q'.x.args.length q'.cap) := ⟨d0, d1, d2, d3, e0, e1, e2, e3⟩
        have HC : Hid (Calls Try.prog 15 #[Lv q.x q.ad q.cap, Lv q'.x q'.ad q'.cap] wr.drew fun e w' => e = .returned (.bool (sameL q.x q'.x)) ∧ Kept [] wr.drew w') := same16 q.x q'.x q.ad q'.ad q.cap q'.cap ((HV.out q (List.mem_of_getElem? hq)).kept kd (by simp)) ((HV'.out q' (List.mem_of_getElem? hq')).kept kd (by simp)) (by have := HA.out q (List.mem_of_getElem? hq); omega)
        have HQ := Hid.mk hq
        have HQ' := Hid.mk hq'
        have KD := Hid.mk kd
        have hsl := sameL_iff q.x q'.x
        have HSL := Hid.mk hsl
        clear hq hq' kd d0 d1 d2 d3 e0 e1 e2 e3 hsl
        cases hs : sameL q.x q'.x with
        | true =>
          rw [hs] at HC HSL
          clear hs
          go_wp2_with fail
          go_region_held3 (fun w' => w'.cell? ⟨b, o + j * 4, none⟩ = some (Sv q.x.fr) ∧ w'.cell? ⟨b, o + j * 4 + 1, none⟩ = some (.int .u64 (q.x.ser : Int)) ∧ w'.cell? ⟨b, o + j * 4 + 2, none⟩ = some (.int .i64 q.x.kind) ∧ w'.cell? ⟨b, o + j * 4 + 3, none⟩ = some (.slice q.ad q.x.args.length q.cap) ∧ w'.cell? ⟨b', o' + j * 4, none⟩ = some (Sv q'.x.fr) ∧ w'.cell? ⟨b', o' + j * 4 + 1, none⟩ = some (.int .u64 (q'.x.ser : Int)) ∧ w'.cell? ⟨b', o' + j * 4 + 2, none⟩ = some (.int .i64 q'.x.kind) ∧ w'.cell? ⟨b', o' + j * 4 + 3, none⟩ = some (.slice q'.ad q'.x.args.length q'.cap)) (first | exact S0 | exact S1) ((go_at_call 15; refine HC.out.mono ?_; rintro e w1 ⟨rfl, k1⟩; have S1 := (fun (k : Kept [] wr.drew w1) => (⟨k.cell_eq S0.1, k.cell_eq S0.2.1, k.cell_eq S0.2.2.1, k.cell_eq S0.2.2.2.1, k.cell_eq S0.2.2.2.2.1, k.cell_eq S0.2.2.2.2.2.1, k.cell_eq S0.2.2.2.2.2.2.1, k.cell_eq S0.2.2.2.2.2.2.2⟩ : w1.cell? ⟨b, o + j * 4, none⟩ = some (Sv q.x.fr) ∧ w1.cell? ⟨b, o + j * 4 + 1, none⟩ = some (.int .u64 (q.x.ser : Int)) ∧ w1.cell? ⟨b, o + j * 4 + 2, none⟩ = some (.int .i64 q.x.kind) ∧ w1.cell? ⟨b, o + j * 4 + 3, none⟩ = some (.slice q.ad q.x.args.length q.cap) ∧ w1.cell? ⟨b', o' + j * 4, none⟩ = some (Sv q'.x.fr) ∧ w1.cell? ⟨b', o' + j * 4 + 1, none⟩ = some (.int .u64 (q'.x.ser : Int)) ∧ w1.cell? ⟨b', o' + j * 4 + 2, none⟩ = some (.int .i64 q'.x.kind) ∧ w1.cell? ⟨b', o' + j * 4 + 3, none⟩ = some (.slice q'.ad q'.x.args.length q'.cap))) k1))
          clear S0 S1
          go_wp2
          go_roundw
          case rel =>
            refine ⟨j + 1, by go_num, by omega, Hid.mk ?_, Hid.mk (KD.out.trans k1 (by simp))⟩
            rw [List.take_add_one, List.take_add_one, HQ.out, HQ'.out, List.map_append, List.map_append, ht.out]
            have h := HSL.out
            simp at h
            simp [h]
          case measure => simp [intOf]; omega
        | false =>
          rw [hs] at HC HSL
          clear hs
          go_wp2_with fail
          go_region_held3 (fun w' => w'.cell? ⟨b, o + j * 4, none⟩ = some (Sv q.x.fr) ∧ w'.cell? ⟨b, o + j * 4 + 1, none⟩ = some (.int .u64 (q.x.ser : Int)) ∧ w'.cell? ⟨b, o + j * 4 + 2, none⟩ = some (.int .i64 q.x.kind) ∧ w'.cell? ⟨b, o + j * 4 + 3, none⟩ = some (.slice q.ad q.x.args.length q.cap) ∧ w'.cell? ⟨b', o' + j * 4, none⟩ = some (Sv q'.x.fr) ∧ w'.cell? ⟨b', o' + j * 4 + 1, none⟩ = some (.int .u64 (q'.x.ser : Int)) ∧ w'.cell? ⟨b', o' + j * 4 + 2, none⟩ = some (.int .i64 q'.x.kind) ∧ w'.cell? ⟨b', o' + j * 4 + 3, none⟩ = some (.slice q'.ad q'.x.args.length q'.cap)) (first | exact S0 | exact S1) ((go_at_call 15; refine HC.out.mono ?_; rintro e w1 ⟨rfl, k1⟩; have S1 := (fun (k : Kept [] wr.drew w1) => (⟨k.cell_eq S0.1, k.cell_eq S0.2.1, k.cell_eq S0.2.2.1, k.cell_eq S0.2.2.2.1, k.cell_eq S0.2.2.2.2.1, k.cell_eq S0.2.2.2.2.2.1, k.cell_eq S0.2.2.2.2.2.2.1, k.cell_eq S0.2.2.2.2.2.2.2⟩ : w1.cell? ⟨b, o + j * 4, none⟩ = some (Sv q.x.fr) ∧ w1.cell? ⟨b, o + j * 4 + 1, none⟩ = some (.int .u64 (q.x.ser : Int)) ∧ w1.cell? ⟨b, o + j * 4 + 2, none⟩ = some (.int .i64 q.x.kind) ∧ w1.cell? ⟨b, o + j * 4 + 3, none⟩ = some (.slice q.ad q.x.args.length q.cap) ∧ w1.cell? ⟨b', o' + j * 4, none⟩ = some (Sv q'.x.fr) ∧ w1.cell? ⟨b', o' + j * 4 + 1, none⟩ = some (.int .u64 (q'.x.ser : Int)) ∧ w1.cell? ⟨b', o' + j * 4 + 2, none⟩ = some (.int .i64 q'.x.kind) ∧ w1.cell? ⟨b', o' + j * 4 + 3, none⟩ = some (.slice q'.ad q'.x.args.length q'.cap))) k1))
          clear S0 S1
          go_wp2
          go_ret
          refine ⟨?_, KD.out.trans k1 (by simp)⟩
          have : D = false := by
            rw [← HD.out]
            simp only [decide_eq_false_iff_not]
            intro e
            have h := congrArg (fun z : List Lt => z[j]?) e
            simp only [List.getElem?_map, HQ.out, HQ'.out, Option.map_some, Option.some.injEq] at h
            exact absurd (HSL.out.2 h) (by simp)
          rw [this]
          rfl
      · obtain rfl : j = n := by omega
        go_wp2
        go_ret
        refine ⟨?_, kk.out⟩
        have : D = true := by
          rw [← HD.out]
          simp only [decide_eq_true_eq]
          have := ht.out
          rwa [List.take_of_length_le (by rw [← HN.out]; exact Nat.le_refl _), List.take_of_length_le (by rw [← HN'.out]; exact Nat.le_refl _)] at this
        rw [this]
        rfl
  · have : D = false := by
      rw [← HD.out]
      simp only [decide_eq_false_iff_not]
      intro e
      have := congrArg List.length e
      simp at this
      exact hlen (HN.out.trans (this.trans HN'.out.symm))
    subst this
    have h1 : ((n : Int) != (n' : Int)) = true := by simp; omega
    go_enter Try.func25, Try.ntmps25
    go_wp2_with fail
    go_ret
    exact ⟨rfl, Kept.refl [] w⟩
end
end Go.Proofs.Ytpcliempoagpoaa
