import Derived.Test.YtdadloaifebdiaaGreatQ05
import Derived.Test.YtdadloaifebdiaaGreatQ12
import Derived.Test.YtdadloaifebdiaaGreatQ21
import Derived.Test.YtdadloaifebdiaaGreatQ26
import Derived.Test.YtdadloaifebdiaaGreatQ28
/-
  CopyAll; sound.
-/
namespace Go.Proofs.YtdadloaifebdiaaGreat
set_option maxRecDepth 100000
open Go.RowKit
set_option linter.unusedVariables false
section
variable {w : World}
set_option maxHeartbeats 2000000 in
/-- All letters, copied. -/
theorem copyAll57 {a : Option Addr} {n c : Nat} {l : List Lq} (hr : RowQ w (.slice a n c) l) (hv : ValsQ w l) (hl : n ≤ 100000) (ha : ∀ q ∈ l, q.x.args.length ≤ 100000) :
    Calls Tryz.prog 57 #[.slice a n c] w fun e w' => ∃ v, e = .returned v ∧ ∃ qs, OwnL w w' v qs ∧ qs.map (·.x) = l.map (·.x) ∧ Kept [] w w' := by
  obtain ⟨hn, hc1, hc2⟩ := hr.bound
  have HN := Hid.mk hn
  have HR := Hid.mk hr
  have HV := Hid.mk hv
  have HA := Hid.mk ha
  clear hr hn hv ha
  go_enter Tryz.func57, Tryz.ntmps57
  go_wp2_with fail
  go_loopw [7, 3] (fun i u wr => ∃ (k : Nat) (ad : Option Addr) (cp : Nat), i = .int .i64 (k : Int) ∧ k ≤ n ∧ u = .slice ad k cp ∧ Hid (∃ qs, OwnL w wr (.slice ad k cp) qs ∧ qs.map (·.x) = (l.take k).map (·.x) ∧ Kept [] w wr)) (fun i _ _ => n - (intOf i).toNat)
  case atStart => exact ⟨0, none, 0, rfl, by omega, rfl, Hid.mk ⟨[], OwnL.nil w w, by simp, Kept.refl [] w⟩⟩
  case round =>
    obtain ⟨k, ad, cp, rfl, hk, rfl, H⟩ := hrel
    by_cases hlt : k < n
    · obtain ⟨q, hq⟩ : ∃ q, l[k]? = some q := ⟨_, List.getElem?_eq_getElem (by have := HN.out; omega)⟩
      have hqm := List.mem_of_getElem? hq
      obtain ⟨qs, hO, hm, kk⟩ := H.out
      obtain ⟨b, o, rfl, d0, d1, d2, d3⟩ := (HR.out.kept kk (by simp)).at hq
      have hkI : (k : Int) < (n : Int) := by omega
      have HC := Hid.mk (copy25 q.x q.ad q.cap ((HV.out q hqm).kept kk (by simp)) (HA.out q hqm))
      have HQ := Hid.mk hq
      have hql : qs.length = k := by
        have := congrArg List.length hm
        rw [List.length_map, List.length_map, List.length_take] at this
        have := HN.out
        omega
      have HO : Hid (OwnL w wr (.slice ad k cp) qs ∧ qs.map (·.x) = (l.take k).map (·.x) ∧ Kept [] w wr ∧ qs.length = k) := ⟨hO, hm, kk, hql⟩
      clear hO hm kk hql hq hqm H
      go_wp2_with fail
      refine HC.out.mono ?_
      rintro e w1 ⟨a1, c1, rfl, hJ1, k1, hf1⟩
      obtain ⟨hO, hm, kk, hql⟩ := HO.out
      have hO1 := hO.kept0 k1
      have kk1 := kk.trans k1 (by simp)
      obtain ⟨ad2, c2, w2, hrun, hO2, k2⟩ := hO1.app ⟨q.x, a1, c1⟩ hJ1 (fun g hg => by have := hf1 g hg; have := kk.size; omega) kk1.size (by omega)
      rw [hql] at hrun hO2
      have hrun' : (Builtin.append_ #[35, 35] 35 #[.slice ad k cp, .slice (some ⟨w1.heap.size, 0, none⟩) 1 1]).run Tryz.prog (w1.alloc (.cells #[Sv q.x.fr, .int .u64 (q.x.ser : Int), .int .i64 q.x.kind, .slice a1 q.x.args.length c1] 90)) = .ok (.slice ad2 (k + 1) c2) w2 := hrun
      have H2 : Hid (∃ qs, OwnL w w2 (.slice ad2 (k + 1) c2) qs ∧ qs.map (·.x) = (l.take (k + 1)).map (·.x) ∧ Kept [] w w2) := by
        refine ⟨_, hO2, ?_, kk1.trans k2 (fun x hx => .inr (hO.fr x (by rw [Option.mem_toList] at hx; exact hx)))⟩
        rw [List.take_add_one, HQ.out, List.map_append, List.map_append, hm]
        rfl
      clear hO hm kk hql hO1 kk1 hO2 k2 hJ1 k1 hf1 hrun d0 d1 d2 d3 HO HC
      go_wp2_with (refine wpList_append_run 35 35 _ _ rfl (by rfl) _ _ (by rfl) (by rfl) _ _ hrun' ?_)
      go_roundw
      case rel => exact ⟨k + 1, ad2, c2, by go_num, by omega, rfl, H2⟩
      case measure => simp [intOf]; omega
    · obtain rfl : k = n := by omega
      have hkI : ((k : Int) < (k : Int)) = False := eq_false (by omega)
      obtain ⟨qs, hO, hm, kk⟩ := H.out
      rw [List.take_of_length_le (by have := HN.out; omega)] at hm
      have HF : Hid (OwnL w wr (.slice ad k cp) qs ∧ qs.map (·.x) = l.map (·.x) ∧ Kept [] w wr) := ⟨hO, hm, kk⟩
      clear hO hm kk H
      go_wp2_with fail
      go_ret
      obtain ⟨hO, hm, kk⟩ := HF.out
      exact ⟨_, rfl, qs, hO, hm, kk⟩
theorem soundA_nat (t : Int) (n : Nat) (l : List Lt) : soundA t n l = (!(decide (t < 0) || decide (2 < t) || (decide (0 < t) && decide ((n : Int) = 0)) || decide ((8 : Int) < (l.length : Int))) && l.all fun x => x.formed) := by
  unfold soundA
  rw [show decide ((n : Int) = 0) = decide (n = 0) from by simp, show decide ((8 : Int) < (l.length : Int)) = decide (8 < l.length) from by simp; omega]
set_option maxHeartbeats 2000000 in
theorem sound29 (t : Int) (m : Nat) {a : Option Addr} {n c : Nat} {l : List Lq} (hr : RowQ w (.slice a n c) l) : Calls Tryz.prog 29 #[.int .i64 t, .int .i64 (m : Int), .slice a n c] w fun e w' => e = .returned (.bool (soundA t m (l.map (·.x)))) ∧ Kept [] w w' := by
  obtain ⟨hn, hc1, hc2⟩ := hr.bound
  have HN := Hid.mk hn
  have HR := Hid.mk hr
  have HS : Hid (soundA t m (l.map (·.x)) = true ↔ 0 ≤ t ∧ t ≤ 2 ∧ (m = 0 → t = 0) ∧ n ≤ 8 ∧ ∀ q ∈ l, q.x.formed = true) := Hid.mk (by
    rw [soundA_iff, List.length_map, hn]
    simp)
  clear hr hn
  generalize soundA t m (l.map (·.x)) = S at *
  have no : ¬(0 ≤ t ∧ t ≤ 2 ∧ (m = 0 → t = 0) ∧ n ≤ 8 ∧ ∀ q ∈ l, q.x.formed = true) → Hid (S = false) := fun h => by
    cases hS : S with
    | false => exact Hid.mk rfl
    | true => exact absurd (HS.out.1 hS) h
  have yes : (0 ≤ t ∧ t ≤ 2 ∧ (m = 0 → t = 0) ∧ n ≤ 8 ∧ ∀ q ∈ l, q.x.formed = true) → S = true := HS.out.2
  go_enter Tryz.func29, Tryz.ntmps29
  by_cases h0 : t < 0
  · have h := no (by omega)
    clear no yes
    go_wp2_with fail
    go_ret
    rw [h.out]
    exact ⟨rfl, Kept.refl [] w⟩
  · have g0 : (t < 0) = False := eq_false h0
    by_cases h1 : 2 < t
    · have h := no (by omega)
      clear no yes
      go_wp2_with fail
      go_ret
      rw [h.out]
      exact ⟨rfl, Kept.refl [] w⟩
    · have g1 : (2 < t) = False := eq_false h1
      by_cases h2 : 0 < t ∧ m = 0
      · have h := no (fun h => by have := h.2.2.1 h2.2; omega)
        clear no yes
        obtain ⟨h2, rfl⟩ := h2
        go_wp2_with fail
        go_ret
        rw [h.out]
        exact ⟨rfl, Kept.refl [] w⟩
      · by_cases h3 : 8 < n
        · have h := no (by omega)
          have g3 : (8 : Int) < (n : Int) := by omega
          have h4 : t = 0 ∨ (0 < t ∧ ((m : Int) == 0) = false) := by
            by_cases h5 : 0 < t
            · exact .inr ⟨h5, beq_eq_false_iff_ne.2 (fun e => h2 ⟨h5, by omega⟩)⟩
            · left; omega
          clear no yes h2
          rcases h4 with rfl | ⟨h4, h5⟩
          all_goals go_wp2_with fail
          all_goals go_ret
          all_goals rw [h.out]
          all_goals exact ⟨rfl, Kept.refl [] w⟩
        · have g3 : ((8 : Int) < (n : Int)) = False := eq_false (by omega)
          have h4 : t = 0 ∨ (0 < t ∧ ((m : Int) == 0) = false) := by
            by_cases h5 : 0 < t
            · exact .inr ⟨h5, beq_eq_false_iff_ne.2 (fun e => h2 ⟨h5, by omega⟩)⟩
            · left; omega
          have HY : Hid ((∀ q ∈ l, q.x.formed = true) → S = true) := Hid.mk fun h => yes ⟨by omega, by omega, fun h => by omega, by omega, h⟩
          have HNo : Hid (¬ (∀ q ∈ l, q.x.formed = true) → S = false) := Hid.mk fun h => (no (fun h' => h h'.2.2.2.2)).out
          clear no yes h2
          rcases h4 with rfl | ⟨h4, h5⟩
          all_goals go_wp2_with fail
          · go_loopw [29] (fun i wr => ∃ j : Nat, i = .int .i64 (j : Int) ∧ j ≤ n ∧ Hid (∀ q ∈ l.take j, q.x.formed = true) ∧ Hid (Kept [] w wr)) (fun i _ => n - (intOf i).toNat)
            case atStart => exact ⟨0, rfl, by omega, Hid.mk (by simp), Hid.mk (Kept.refl [] w)⟩
            case round =>
              obtain ⟨j, rfl, hj, HT, kk⟩ := hrel
              by_cases hlt : j < n
              · obtain ⟨q, hq⟩ : ∃ q, l[j]? = some q := ⟨_, List.getElem?_eq_getElem (by have := HN.out; omega)⟩
                obtain ⟨b, o, rfl, d0, d1, d2, d3⟩ := (HR.out.kept kk.out (by simp)).at hq
                have HF := Hid.mk (formed14 (w := wr) q.x q.ad q.cap)
                have HQ := Hid.mk hq
                clear hq
                have hjI : (j : Int) < (n : Int) := by omega
                cases hf : q.x.formed with
                | false =>
                  rw [hf] at HF
                  have hE : Hid (S = false) := Hid.mk (HNo.out fun h => by have := h q (List.mem_of_getElem? HQ.out); rw [hf] at this; cases this)
                  clear hf
                  go_wp2_with fail
                  refine HF.out.mono ?_
                  rintro e w1 ⟨rfl, k1⟩
                  go_wp2_with fail
                  go_ret
                  rw [hE.out]
                  exact ⟨rfl, kk.out.trans k1 (by simp)⟩
                | true =>
                  rw [hf] at HF
                  have H2 : Hid (∀ y ∈ l.take (j + 1), y.x.formed = true) := Hid.mk (fun y hy => by
                    rw [List.take_add_one, HQ.out] at hy
                    rcases List.mem_append.1 hy with h | h
                    · exact HT.out y h
                    · simp at h
                      subst h
                      exact hf)
                  clear hf
                  go_wp2_with fail
                  refine HF.out.mono ?_
                  rintro e w1 ⟨rfl, k1⟩
                  have HK1 := Hid.mk (kk.out.trans k1 (by simp))
                  clear k1 d0 d1 d2 d3 kk
                  go_wp2_with fail
                  go_roundw
                  case rel => exact ⟨j + 1, by go_num, by omega, H2, HK1⟩
                  case measure => simp [intOf]; omega
              · obtain rfl : j = n := by omega
                have hjI : ((j : Int) < (j : Int)) = False := eq_false (by omega)
                have hE : Hid (S = true) := Hid.mk (HY.out fun q hq => HT.out q (by rw [List.take_of_length_le (by have := HN.out; omega)]; exact hq))
                go_wp2_with fail
                go_ret
                rw [hE.out]
                exact ⟨rfl, kk.out⟩
          · go_loopw [29] (fun i wr => ∃ j : Nat, i = .int .i64 (j : Int) ∧ j ≤ n ∧ Hid (∀ q ∈ l.take j, q.x.formed = true) ∧ Hid (Kept [] w wr)) (fun i _ => n - (intOf i).toNat)
            case atStart => exact ⟨0, rfl, by omega, Hid.mk (by simp), Hid.mk (Kept.refl [] w)⟩
            case round =>
              obtain ⟨j, rfl, hj, HT, kk⟩ := hrel
              by_cases hlt : j < n
              · obtain ⟨q, hq⟩ : ∃ q, l[j]? = some q := ⟨_, List.getElem?_eq_getElem (by have := HN.out; omega)⟩
                obtain ⟨b, o, rfl, d0, d1, d2, d3⟩ := (HR.out.kept kk.out (by simp)).at hq
                have HF := Hid.mk (formed14 (w := wr) q.x q.ad q.cap)
                have HQ := Hid.mk hq
                clear hq
                have hjI : (j : Int) < (n : Int) := by omega
                cases hf : q.x.formed with
                | false =>
                  rw [hf] at HF
                  have hE : Hid (S = false) := Hid.mk (HNo.out fun h => by have := h q (List.mem_of_getElem? HQ.out); rw [hf] at this; cases this)
                  clear hf
                  go_wp2_with fail
                  refine HF.out.mono ?_
                  rintro e w1 ⟨rfl, k1⟩
                  go_wp2_with fail
                  go_ret
                  rw [hE.out]
                  exact ⟨rfl, kk.out.trans k1 (by simp)⟩
                | true =>
                  rw [hf] at HF
                  have H2 : Hid (∀ y ∈ l.take (j + 1), y.x.formed = true) := Hid.mk (fun y hy => by
                    rw [List.take_add_one, HQ.out] at hy
                    rcases List.mem_append.1 hy with h | h
                    · exact HT.out y h
                    · simp at h
                      subst h
                      exact hf)
                  clear hf
                  go_wp2_with fail
                  refine HF.out.mono ?_
                  rintro e w1 ⟨rfl, k1⟩
                  have HK1 := Hid.mk (kk.out.trans k1 (by simp))
                  clear k1 d0 d1 d2 d3 kk
                  go_wp2_with fail
                  go_roundw
                  case rel => exact ⟨j + 1, by go_num, by omega, H2, HK1⟩
                  case measure => simp [intOf]; omega
              · obtain rfl : j = n := by omega
                have hjI : ((j : Int) < (j : Int)) = False := eq_false (by omega)
                have hE : Hid (S = true) := Hid.mk (HY.out fun q hq => HT.out q (by rw [List.take_of_length_le (by have := HN.out; omega)]; exact hq))
                go_wp2_with fail
                go_ret
                rw [hE.out]
                exact ⟨rfl, kk.out⟩
end
end Go.Proofs.YtdadloaifebdiaaGreat
/-
  Of: both actors, made of letters, sends, events, tries and poison.
-/
namespace Go.Proofs.YtdadloaifebdiaaGreat
set_option maxRecDepth 100000
open Go.RowKit
set_option linter.unusedVariables false
/-- Cells of an actor's block are other ones. -/
theorem TT.set {w0 w : World} {p i : Nat} {cs : Array Value} {t : Nat} (hb : w.heap[p]? = some (.cells cs t (0, 0))) (hp : w0.heap.size ≤ p) (x : Value) : TT [t] w0 w (w.setCell ⟨p, i, none⟩ x) :=
  ⟨[p], (Kept.refl [p] w).setCell (p := ⟨p, i, none⟩) (.inl (by simp)) x, fun g hg => by simp at hg; subst hg; exact ⟨hp, _, _, hb, by simp⟩⟩
section
variable {w0 w w' : World} {P : Pt} {t s : Int} {v u : Value} {a b : Ac}
theorem Both.setP3 (T : Both w0 w P t v s u a b) (x : Int) : Both w0 (w.setCell ⟨P.p, 3, none⟩ (Iv x)) P x v s u a b := by
  obtain ⟨⟨h1, h2, ⟨qs, h3, h4⟩, ⟨ys, h5, h6⟩, h7, h8, h9, h10⟩, hfa, hk, ga, gb⟩ := T
  have T1 := TT.set (i := 3) h1 h7 (Iv x)
  exact ⟨⟨set_list (L := [_, _, _, _, _]) h1, T1.isJ h2 (by decide), ⟨qs, T1.isB h3 (by decide) (by decide), h4⟩, ⟨ys, T1.isO h5 (by decide) (by decide), h6⟩, h7, h8, h9, h10⟩, hfa.turn T1 (by decide), T1.kept0 hk, ga, gb⟩
theorem Both.setP4 (T : Both w0 w P t v s u a b) (x : Value) : Both w0 (w.setCell ⟨P.p, 4, none⟩ x) P t x s u a b := by
  obtain ⟨⟨h1, h2, ⟨qs, h3, h4⟩, ⟨ys, h5, h6⟩, h7, h8, h9, h10⟩, hfa, hk, ga, gb⟩ := T
  have T1 := TT.set (i := 4) h1 h7 x
  exact ⟨⟨set_list (L := [_, _, _, _, _]) h1, T1.isJ h2 (by decide), ⟨qs, T1.isB h3 (by decide) (by decide), h4⟩, ⟨ys, T1.isO h5 (by decide) (by decide), h6⟩, h7, h8, h9, h10⟩, hfa.turn T1 (by decide), T1.kept0 hk, ga, gb⟩
theorem Both.setF3 (T : Both w0 w P t v s u a b) (x : Int) : Both w0 (w.setCell ⟨P.f, 3, none⟩ (Iv x)) P t v x u a b := by
  obtain ⟨hpa, ⟨h1, ⟨u1, h2, h3⟩, ⟨u2, qs, h4, h5⟩, ⟨u3, x3, ys, h6, h7⟩, h8, h9⟩, hk, ga, gb⟩ := T
  have T1 := TT.set (i := 3) h1 h8 (Iv x)
  exact ⟨hpa.turn T1 (by decide), ⟨set_list (L := [_, _, _, _, _]) h1, ⟨u1, T1.isFJ h2 (by decide) (by decide), h3⟩, ⟨u2, qs, T1.isFI h4 (by decide) (by decide) (by decide), h5⟩, ⟨u3, x3, ys, T1.isFO h6 (by decide) (by decide) (by decide) (by decide), h7⟩, h8, h9⟩, T1.kept0 hk, ga, gb⟩
theorem Both.setF4 (T : Both w0 w P t v s u a b) (x : Value) : Both w0 (w.setCell ⟨P.f, 4, none⟩ x) P t v s x a b := by
  obtain ⟨hpa, ⟨h1, ⟨u1, h2, h3⟩, ⟨u2, qs, h4, h5⟩, ⟨u3, x3, ys, h6, h7⟩, h8, h9⟩, hk, ga, gb⟩ := T
  have T1 := TT.set (i := 4) h1 h8 x
  exact ⟨hpa.turn T1 (by decide), ⟨set_list (L := [_, _, _, _, _]) h1, ⟨u1, T1.isFJ h2 (by decide) (by decide), h3⟩, ⟨u2, qs, T1.isFI h4 (by decide) (by decide) (by decide), h5⟩, ⟨u3, x3, ys, T1.isFO h6 (by decide) (by decide) (by decide) (by decide), h7⟩, h8, h9⟩, T1.kept0 hk, ga, gb⟩
theorem Both.cellsP (T : Both w0 w P t v s u a b) : w.cell? ⟨P.p, 0, none⟩ = some (Ptr P.j) ∧ w.cell? ⟨P.p, 1, none⟩ = some (Ptr P.i) ∧ w.cell? ⟨P.p, 2, none⟩ = some (Ptr P.o) ∧ w.cell? ⟨P.p, 3, none⟩ = some (Iv t) ∧ w.cell? ⟨P.p, 4, none⟩ = some v := by
  have h := T.pa.box
  refine ⟨?_, ?_, ?_, ?_, ?_⟩ <;> (unfold World.cell?; rw [h]; rfl)
theorem Both.cellsF (T : Both w0 w P t v s u a b) : w.cell? ⟨P.f, 0, none⟩ = some (Ptr P.fj) ∧ w.cell? ⟨P.f, 1, none⟩ = some (Ptr P.fi) ∧ w.cell? ⟨P.f, 2, none⟩ = some (Ptr P.fo) ∧ w.cell? ⟨P.f, 3, none⟩ = some (Iv s) ∧ w.cell? ⟨P.f, 4, none⟩ = some u := by
  have h := T.fa.box
  refine ⟨?_, ?_, ?_, ?_, ?_⟩ <;> (unfold World.cell?; rw [h]; rfl)
theorem Both.freeP (T : Both w0 w P t v s u a b) (i : Nat) : w.frozen? ⟨P.p, i, none⟩ = false := by simp [World.frozen?, T.pa.box]
theorem Both.freeF (T : Both w0 w P t v s u a b) (i : Nat) : w.frozen? ⟨P.f, i, none⟩ = false := by simp [World.frozen?, T.fa.box]
end
/-- The first k letters are pushed. -/
def pushK (a : Ac) (ls : List Lq) : Nat → Ac
  | 0 => a
  | k + 1 => pushAc (pushK a ls k) (ls.getD k default).x
/-- The first k texts are sent to. -/
def sendK (a : Ac) (ts : List (List UInt8)) : Nat → Ac
  | 0 => a
  | k + 1 => sendAc (sendK a ts k) (ts.getD k []) k [k]
theorem pushK_j (a : Ac) (ls : List Lq) (k : Nat) : (pushK a ls k).j = a.j ∧ (pushK a ls k).out = a.out := by
  induction k with
  | zero => exact ⟨rfl, rfl⟩
  | succ k ih => exact ih
theorem sendK_j (a : Ac) (ts : List (List UInt8)) (k : Nat) : (sendK a ts k).j = a.j ∧ (sendK a ts k).inb = a.inb ∧ (sendK a ts k).out.own = a.out.own := by
  induction k with
  | zero => exact ⟨rfl, rfl, rfl⟩
  | succ k ih => exact ⟨ih.1, ih.2.1, (sndO_own _ _ _ _).trans ih.2.2⟩
theorem sendK_ser {a : Ac} (h : SerB a.out 0) (ts : List (List UInt8)) (k : Nat) : SerB (sendK a ts k).out k := by
  induction k with
  | zero => exact h
  | succ k ih => exact ih.snd _ _ _
/-- The actor that Of makes. -/
def ofA (key : List UInt8) (ls : List Lq) (ts : List (List UInt8)) (es : List Ep) (t : Int) (ps : List Lt) : Ac :=
  let a := addAc (sendK (pushK (newA key) ls ls.length) ts ts.length) es
  ⟨a.j, a.inb, a.out, t, ps⟩
theorem ofA_own (key : List UInt8) (ls : List Lq) (ts : List (List UInt8)) (es : List Ep) (t : Int) (ps : List Lt) : (ofA key ls ts es t ps).out.own = key := by
  show (sendK (pushK (newA key) ls ls.length) ts ts.length).out.own = key
  rw [(sendK_j _ _ _).2.2, (pushK_j _ _ _).2]
  rfl
/-- An actor's poison lies at v. -/
def PoiAt (w : World) (v : Value) (ps : List Lt) : Prop := ∃ qs, RowQ w v qs ∧ ValsQ w qs ∧ qs.map (·.x) = ps
theorem PoiAt.kept0 {w w' : World} {v : Value} {ps : List Lt} (h : PoiAt w v ps) (k : Kept [] w w') : PoiAt w' v ps := by
  obtain ⟨qs, h1, h2, h3⟩ := h
  exact ⟨qs, h1.kept k (by simp), h2.kept0 k, h3⟩
/-- Texts that came in. -/
def TextsIn (w : World) (v : Value) (ts : List (List UInt8)) : Prop := ReadsR 1 w v (CT ts)
theorem TextsIn.bound {w : World} {a : Option Addr} {n c : Nat} {ts : List (List UInt8)} (h : TextsIn w (.slice a n c) ts) : n = ts.length ∧ n ≤ c ∧ c ≤ 9223372036854775807 := by
  obtain ⟨a', c', he, h1, h2, -⟩ := h
  injection he with e1 e2 e3
  subst e1 e2 e3
  rw [CT, List.length_map] at *
  exact ⟨rfl, h1, by unfold maxLen at h2; omega⟩
theorem TextsIn.at {w : World} {a : Option Addr} {n c : Nat} {ts : List (List UInt8)} (h : TextsIn w (.slice a n c) ts) {k : Nat} {t : List UInt8} (ht : ts[k]? = some t) : ∃ b o, a = some ⟨b, o, none⟩ ∧ w.cell? ⟨b, o + k, none⟩ = some (Sv t) := by
  obtain ⟨a', c', he, h1, h2, h3, h4⟩ := h
  injection he with e1 e2 e3
  subst e1 e2 e3
  have hne : CT ts ≠ [] := fun e => by
    simp [CT] at e
    subst e
    simp at ht
  obtain ⟨b, o, rfl, hc⟩ := h4 hne
  refine ⟨b, o, rfl, ?_⟩
  have := hc k [Sv t] (by simp [CT, ht]) 0 (Sv t) rfl
  simpa using this
theorem TextsIn.kept0 {w w' : World} {v : Value} {ts : List (List UInt8)} (h : TextsIn w v ts) (k : Kept [] w w') : TextsIn w' v ts := ReadsR.kept h k (by simp)
end Go.Proofs.YtdadloaifebdiaaGreat
