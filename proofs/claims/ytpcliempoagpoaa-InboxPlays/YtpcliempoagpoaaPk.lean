/-
  Pack, and the document's.
-/
import Derived.Test.YtpcliempoagpoaaDe
namespace Go.Proofs.Ytpcliempoagpoaa
open Go.RowKit
set_option linter.unusedVariables false
/-- Letters' bytes, one behind the other. -/
def encA (l : List Lq) : List UInt8 := l.flatMap fun q => encL q.x
def allF (l : List Lq) : Bool := l.all fun q => q.x.formed
def packB (l : List Lq) : List UInt8 := if allF l = true then enc l.length ++ encA l else []
def packE (l : List Lq) : Int := if allF l = true then 0 else 1
theorem encA_take (l : List Lq) (j : Nat) (q : Lq) (h : l[j]? = some q) : encA (l.take (j + 1)) = encA (l.take j) ++ encL q.x := by
  rw [List.take_add_one, h]
  simp [encA]
theorem encA_len (l : List Lq) (h : ∀ q ∈ l, q.x.formed = true) : (encA l).length ≤ 112 * l.length := by
  induction l with
  | nil => simp [encA]
  | cons q l ih =>
    have h1 := encL_length q.x
    have h2 := formed_le (h q (by simp))
    have h3 := ih (fun y hy => h y (by simp [hy]))
    have e : encA (q :: l) = encL q.x ++ encA l := rfl
    rw [e, List.length_append, List.length_cons]
    omega
theorem take_mem {l : List Lq} {j : Nat} {q : Lq} (h : l[j]? = some q) {P : Lq → Prop} (hp : ∀ y ∈ l.take j, P y) (hq : P q) : ∀ y ∈ l.take (j + 1), P y := by
  intro y hy
  rw [List.take_add_one, h] at hy
  rcases List.mem_append.1 hy with hy | hy
  · exact hp y hy
  · simp at hy; subst hy; exact hq
section
variable {w : World}
set_option maxRecDepth 100000 in
set_option maxHeartbeats 1000000 in
theorem pack20 {a : Option Addr} {n c : Nat} {l : List Lq} (hr : RowQ w (.slice a n c) l) (hv : ValsQ w l) (hok : ∀ q ∈ l, q.x.ok) (hl : n ≤ 1000000) :
    Calls Try.prog 32 #[.slice a n c] w fun e w' => TwoB w (packB l) (packE l) e w' := by
  obtain ⟨hn, hc1, hc2⟩ := hr.bound
  have HN := Hid.mk hn
  have HR := Hid.mk hr
  have HV := Hid.mk hv
  clear hr hn hv
  have hel := enc_length n
  have HY : Hid ((∀ q ∈ l, q.x.formed = true) → packB l = enc n ++ encA l ∧ packE l = 0) := fun h => by
    have : allF l = true := by unfold allF; rw [List.all_eq_true]; exact h
    unfold packB packE
    rw [if_pos this, if_pos this, HN.out]
    exact ⟨rfl, rfl⟩
  have HO : Hid (∀ q ∈ l, q.x.formed = false → packB l = [] ∧ packE l = 1) := fun q hq h => by
    have : ¬ allF l = true := by unfold allF; rw [List.all_eq_true]; intro h2; have := h2 q hq; rw [h] at this; cases this
    unfold packB packE
    rw [if_neg this, if_neg this]
    exact ⟨rfl, rfl⟩
  generalize packB l = PB at HY HO
  generalize packE l = PE at HY HO
  go_enter Try.func32, Try.ntmps32
  go_wp2_with fail
  refine (newW _).mono ?_
  rintro e w1 ⟨p, rfl, hW1, k1, hp1⟩
  go_wp2_with fail
  refine (wnum_any p _ [] n _ hW1 (by omega) (by simp)).mono ?_
  rintro e w2 ⟨rfl, v2, hW2, k2, n2⟩
  rw [List.nil_append] at hW2
  rw [foot_nil] at k2
  have k02 : Kept [] w w2 := k1.trans k2 (by simp; omega)
  have hf2 : Fresh w v2 := fun g hg => by have := new_nil n2 g hg; have := k1.size; omega
  go_wp2_with fail
  have HK := Hid.mk hok
  clear k1 hW1 k2 n2 hok
  go_loopw [15] (fun i wr => ∃ (j : Nat) (v' : Value), i = .int .i64 (j : Int) ∧ j ≤ n ∧ Hid (∀ q ∈ l.take j, q.x.formed = true) ∧ Hid (IsW 86 5 wr p v' (enc n ++ encA (l.take j))) ∧ Hid (Kept [] w wr) ∧ Hid (Fresh w v')) (fun i _ => n - (intOf i).toNat)
  case atStart => exact ⟨0, v2, rfl, by omega, Hid.mk (by simp), Hid.mk (by simpa [encA] using hW2), Hid.mk k02, Hid.mk hf2⟩
  case round =>
    obtain ⟨j, v', rfl, hj, hall, hW, kk, hf⟩ := hrel
    by_cases hlt : j < n
    · obtain ⟨q, hq⟩ : ∃ q, l[j]? = some q := ⟨_, List.getElem?_eq_getElem (by have := HN.out; omega)⟩
      have hmem := List.mem_of_getElem? hq
      obtain ⟨b, o, rfl, d0, d1, d2, d3⟩ := (HR.out.kept kk.out (by simp)).at hq
      have hjI : (j : Int) < (n : Int) := by omega
      have HQ := Hid.mk hq
      have HM := Hid.mk hmem
      clear hq hmem
      go_wp2_with fail
      obtain ⟨W0, e0, k0, hz0, hb0⟩ := box1 wr (.cells #[Sv q.x.fr, .int .u64 (q.x.ser : Int), .int .i64 q.x.kind, .slice q.ad q.x.args.length q.cap] 34)
      rw [e0]
      clear e0 d0 d1 d2 d3
      refine (formed13 q.x q.ad q.cap).mono ?_
      rintro e w3 ⟨rfl, k3⟩
      have k03 := (kk.out.trans k0 (by simp)).trans k3 (by simp)
      cases hfm : q.x.formed with
      | false =>
        obtain ⟨rfl, rfl⟩ := HO.out q HM.out hfm
        go_wp2_with fail
        go_ret2
        exact ⟨_, rfl, Owns.nil 5 _, k03, fresh_nil w 0⟩
      | true =>
        have hfl := formed_le hfm
        have HFM := Hid.mk hfm
        clear hfm
        have hb3 := k3.keeps hb0 (by simp)
        obtain ⟨c0, c1, c2, c3⟩ := cells4 hb3
        have hW3 := (hW.out.kept k0 (by simp) (by simp)).kept k3 (by simp) (by simp)
        have hR3 := (HV.out q HM.out).kept k03 (by simp)
        have hlen := encA_len _ hall.out
        rw [List.length_take] at hlen
        go_wp2_with fail
        refine (lay27 p v' _ q.x q.ad q.cap hW3 hR3 (fun hne g hg hm => ?_) (HK.out q HM.out) (by simp only [List.length_append]; omega)).mono ?_
        · have := (HV.out q HM.out).ltg hne hg
          rcases mem_foot.1 hm with h | h
          · omega
          · have := hf.out g h; omega
        rintro e w4 ⟨rfl, v4, hW4, k4, n4⟩
        have k04 : Kept [] w w4 := k03.trans k4 (fun y hy => by
          rcases mem_foot.1 hy with h | h
          · exact .inr (by omega)
          · exact .inr (hf.out y h))
        have hf4 : Fresh w v4 := fun g hg => by
          rcases n4 g hg with h | h
          · exact hf.out g h
          · have := k03.size; omega
        go_wp2_with fail
        go_roundw
        case rel =>
          refine ⟨j + 1, v4, by go_num, by omega, Hid.mk (take_mem HQ.out hall.out HFM.out), Hid.mk ?_, Hid.mk k04, Hid.mk hf4⟩
          rw [encA_take _ _ _ HQ.out, ← List.append_assoc]
          exact hW4
        case measure => simp [intOf]; omega
    · obtain rfl : j = n := by omega
      have hall' : ∀ q ∈ l, q.x.formed = true := by have := hall.out; rwa [HN.out, List.take_length] at this
      obtain ⟨rfl, rfl⟩ := HY.out hall'
      have hlen := encA_len l hall'
      rw [← HN.out] at hlen
      have hW' := hW.out
      rw [show l.take j = l by rw [HN.out, List.take_length]] at hW'
      go_wp2_with fail
      refine (wbytes_any p _ _ _ hW' (by simp only [List.length_append]; omega)).mono ?_
      rintro e w4 ⟨v4, rfl, hO4, k4, hF4⟩
      go_wp2_with fail
      go_ret2
      exact ⟨v4, rfl, hO4, kk.out.trans k4 (by simp), fun g hg => by have := hF4 g hg; have := kk.out.size; omega⟩
set_option maxRecDepth 100000 in
set_option maxHeartbeats 1000000 in
theorem pack21 {a : Option Addr} {n c : Nat} {l : List Lq} (hr : RowQ w (.slice a n c) l) (hv : ValsQ w l) (hok : ∀ q ∈ l, q.x.ok) (hl : n ≤ 1000000) :
    Calls Try.prog 17 #[.slice a n c] w fun e w' => TwoB w (packB l) (packE l) e w' := by
  obtain ⟨hn, hc1, hc2⟩ := hr.bound
  have HN := Hid.mk hn
  have HR := Hid.mk hr
  have HV := Hid.mk hv
  clear hr hn hv
  have hel := enc_length n
  have HY : Hid ((∀ q ∈ l, q.x.formed = true) → packB l = enc n ++ encA l ∧ packE l = 0) := fun h => by
    have : allF l = true := by unfold allF; rw [List.all_eq_true]; exact h
    unfold packB packE
    rw [if_pos this, if_pos this, HN.out]
    exact ⟨rfl, rfl⟩
  have HO : Hid (∀ q ∈ l, q.x.formed = false → packB l = [] ∧ packE l = 1) := fun q hq h => by
    have : ¬ allF l = true := by unfold allF; rw [List.all_eq_true]; intro h2; have := h2 q hq; rw [h] at this; cases this
    unfold packB packE
    rw [if_neg this, if_neg this]
    exact ⟨rfl, rfl⟩
  generalize packB l = PB at HY HO
  generalize packE l = PE at HY HO
  go_enter Try.func17, Try.ntmps17
  go_wp2_with fail
  refine (refnum_any (.slice none 0 0) [] n _ (Owns.nil 5 w) (by omega) (by simp)).mono ?_
  rintro e w2 ⟨v2, rfl, hO2, k2, n2⟩
  rw [List.nil_append] at hO2
  have k02 : Kept [] w w2 := k2.mono (by simp [Value.ownBlock])
  have hf2 : Fresh w v2 := new_nil n2
  have HK := Hid.mk hok
  clear k2 n2 hok
  go_wp2_with fail
  go_loopw [4, 12] (fun v' i wr => ∃ (j : Nat), i = .int .i64 (j : Int) ∧ j ≤ n ∧ Hid (∀ q ∈ l.take j, q.x.formed = true) ∧ Hid (Owns 5 wr v' (enc n ++ encA (l.take j))) ∧ Hid (Kept [] w wr) ∧ Hid (Fresh w v')) (fun _ i _ => n - (intOf i).toNat)
  case atStart => exact ⟨0, rfl, by omega, Hid.mk (by simp), Hid.mk (by simpa [encA] using hO2), Hid.mk k02, Hid.mk hf2⟩
  case round =>
    obtain ⟨j, rfl, hj, hall, hW, kk, hf⟩ := hrel
    by_cases hlt : j < n
    · obtain ⟨q, hq⟩ : ∃ q, l[j]? = some q := ⟨_, List.getElem?_eq_getElem (by have := HN.out; omega)⟩
      have hmem := List.mem_of_getElem? hq
      obtain ⟨b, o, rfl, d0, d1, d2, d3⟩ := (HR.out.kept kk.out (by simp)).at hq
      have hjI : (j : Int) < (n : Int) := by omega
      have HQ := Hid.mk hq
      have HM := Hid.mk hmem
      clear hq hmem
      go_wp2_with fail
      refine (formed14 q.x q.ad q.cap).mono ?_
      rintro e w3 ⟨rfl, k3⟩
      have k03 := kk.out.trans k3 (by simp)
      cases hfm : q.x.formed with
      | false =>
        obtain ⟨rfl, rfl⟩ := HO.out q HM.out hfm
        go_wp2_with fail
        go_ret2
        exact ⟨_, rfl, Owns.nil 5 _, k03, fresh_nil w 0⟩
      | true =>
        have hfl := formed_le hfm
        have HFM := Hid.mk hfm
        clear hfm
        have d0' := k3.cell_eq d0
        have d1' := k3.cell_eq d1
        have d2' := k3.cell_eq d2
        have d3' := k3.cell_eq d3
        clear d0 d1 d2 d3
        have hW3 := hW.out.kept k3 (by simp)
        have hR3 := (HV.out q HM.out).kept k03 (by simp)
        have hlen := encA_len _ hall.out
        rw [List.length_take] at hlen
        go_wp2_with fail
        refine (lay29 _ _ q.x q.ad q.cap hW3 hR3 (fun hne g hg hm => ?_) (HK.out q HM.out) (by simp only [List.length_append]; omega)).mono ?_
        · have := (HV.out q HM.out).ltg hne hg
          have := hf.out g hm; omega
        rintro e w4 ⟨v4, rfl, hW4, k4, n4⟩
        have k04 : Kept [] w w4 := k03.trans k4 (fun y hy => by
          rw [Option.mem_toList] at hy
          exact .inr (hf.out y hy))
        have hf4 : Fresh w v4 := fun g hg => by
          rcases n4 g hg with h | h
          · exact hf.out g h
          · have := k03.size; omega
        go_wp2_with fail
        go_roundw
        case rel =>
          refine ⟨j + 1, by go_num, by omega, Hid.mk (take_mem HQ.out hall.out HFM.out), Hid.mk ?_, Hid.mk k04, Hid.mk hf4⟩
          rw [encA_take _ _ _ HQ.out, ← List.append_assoc]
          exact hW4
        case measure => simp [intOf]; omega
    · obtain rfl : j = n := by omega
      have hall' : ∀ q ∈ l, q.x.formed = true := by have := hall.out; rwa [HN.out, List.take_length] at this
      obtain ⟨rfl, rfl⟩ := HY.out hall'
      have hW' := hW.out
      rw [show l.take j = l by rw [HN.out, List.take_length]] at hW'
      go_wp2_with fail
      go_ret2
      exact ⟨_, rfl, hW', kk.out, hf.out⟩
end
end Go.Proofs.Ytpcliempoagpoaa
