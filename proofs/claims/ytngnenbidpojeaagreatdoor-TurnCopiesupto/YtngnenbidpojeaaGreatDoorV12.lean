import Derived.Test.YtngnenbidpojeaaGreatDoorV11
/-
  next of an outbox: the last serial to a key is raised; a new key is laid where it belongs.
-/
namespace Go.Proofs.YtngnenbidpojeaaGreatDoor
set_option maxRecDepth 100000
open Go.RowKit
set_option linter.unusedVariables false
/-- Cells that are laid over others. -/
theorem over_get (cs X : List Value) (o i : Nat) (h : o + X.length ≤ cs.length) : (cs.take o ++ X ++ cs.drop (o + X.length))[i]? = if i < o then cs[i]? else if i < o + X.length then X[i - o]? else cs[i]? := by
  have ht : (cs.take o).length = o := by rw [List.length_take]; omega
  by_cases h1 : i < o
  · rw [if_pos h1, List.getElem?_append_left (by rw [List.length_append, ht]; omega), List.getElem?_append_left (by omega), List.getElem?_take, if_pos h1]
  · rw [if_neg h1]
    by_cases h2 : i < o + X.length
    · rw [if_pos h2, List.getElem?_append_left (by rw [List.length_append, ht]; omega), List.getElem?_append_right (by omega), ht]
    · rw [if_neg h2, List.getElem?_append_right (by rw [List.length_append, ht]; omega), List.length_append, ht, List.getElem?_drop]
      congr 1
      omega
theorem over_length (cs X : List Value) (o : Nat) (h : o + X.length ≤ cs.length) : (cs.take o ++ X ++ cs.drop (o + X.length)).length = cs.length := by
  rw [List.length_append, List.length_append, List.length_take, List.length_drop]; omega
/-- The targets from a place on are moved up by one. -/
abbrev upK (cs : List Value) (K : List La) (P : Nat) : List Value := cs.take (1 + (P + 1) * 2) ++ (CK (K.drop P)).flatten ++ cs.drop (1 + (P + 1) * 2 + (CK (K.drop P)).flatten.length)
theorem flatK_length (K : List La) (P : Nat) : (CK (K.drop P)).flatten.length = (K.length - P) * 2 := by rw [(CK_wide _).flat_length, CK_length, List.length_drop]
theorem flatK_at {K : List La} {P j i : Nat} {y : La} {v : Value} (hP : P ≤ j) (hj : K[j]? = some y) (hv : (cellsK y)[i]? = some v) : (CK (K.drop P)).flatten[(j - P) * 2 + i]? = some v := by
  refine (CK_wide _).at (j - P) (cellsK y) ?_ i v hv
  rw [CK, List.getElem?_map, List.getElem?_drop, show P + (j - P) = j by omega, hj]
  rfl
theorem CellsO.ins {cs : List Value} {own : List UInt8} {K : List La} {qs : List Yq} (h : CellsO cs own K qs) (hK : K.length < 64) {P : Nat} (hP : P ≤ K.length) (to : List UInt8) :
    CellsO ((((upK cs K P).set (1 + P * 2) (Sv to)).set (1 + P * 2 + 1) (Uv 0)).set 129 (.int .i64 ((K.length + 1 : Nat) : Int))) own (K.take P ++ ⟨to, 0⟩ :: K.drop P) qs := by
  have hl := h.len
  have hf := flatK_length K P
  have hu : 1 + (P + 1) * 2 + (CK (K.drop P)).flatten.length ≤ cs.length := by omega
  have hL := over_length cs (CK (K.drop P)).flatten (1 + (P + 1) * 2) hu
  have hg := fun i => over_get cs (CK (K.drop P)).flatten (1 + (P + 1) * 2) i hu
  refine ⟨by simp only [List.length_set]; rw [hL]; exact hl, ?_, fun i z hz m v hv => ?_, ?_, fun i z hz m v hv => ?_, ?_, set_one (set_one (set_one (over_one h.one (wide_one (CK_wide _))) rfl) rfl) rfl⟩
  · rw [List.getElem?_set_ne (by omega), List.getElem?_set_ne (by omega), List.getElem?_set_ne (by omega), hg, if_pos (by omega)]; exact h.own
  · have hm := cellsK_lt hv
    have hi := get_lt hz
    rw [List.length_append, List.length_cons, List.length_take, List.length_drop] at hi
    have ht : (K.take P).length = P := by rw [List.length_take]; omega
    rw [List.getElem?_set_ne (by omega)]
    rcases Nat.lt_trichotomy i P with hip | hip | hip
    · rw [List.getElem?_append_left (by omega), List.getElem?_take, if_pos hip] at hz
      rw [List.getElem?_set_ne (by omega), List.getElem?_set_ne (by omega), hg, if_pos (by omega)]
      exact h.ks i z hz m v hv
    · subst hip
      rw [List.getElem?_append_right (by omega), ht, Nat.sub_self] at hz
      simp at hz
      subst hz
      match m, hm with
      | 0, _ =>
        rw [List.getElem?_set_ne (by omega), Nat.add_zero, List.getElem?_set_self (by rw [hL]; omega)]
        exact hv
      | 1, _ =>
        rw [List.getElem?_set_self (by rw [List.length_set, hL]; omega)]
        exact hv
    · rw [List.getElem?_append_right (by omega), ht, show i - P = (i - 1 - P) + 1 by omega, List.getElem?_cons_succ, List.getElem?_drop, show P + (i - 1 - P) = i - 1 by omega] at hz
      rw [List.getElem?_set_ne (by omega), List.getElem?_set_ne (by omega), hg, if_neg (by omega), if_pos (by omega)]
      have := flatK_at (P := P) (by omega) hz hv
      rw [show 1 + i * 2 + m - (1 + (P + 1) * 2) = (i - 1 - P) * 2 + m by omega]
      exact this
  · rw [List.getElem?_set_self (by simp only [List.length_set]; rw [hL]; omega)]
    congr 3
    simp
    omega
  · have := get_lt hz
    rw [List.getElem?_set_ne (by have := cellsY_lt hv; omega), List.getElem?_set_ne (by omega), List.getElem?_set_ne (by omega), hg, if_neg (by omega), if_neg (by omega)]
    exact h.ys i z hz m v hv
  · rw [List.getElem?_set_ne (by omega), List.getElem?_set_ne (by omega), List.getElem?_set_ne (by omega), hg, if_neg (by omega), if_neg (by omega)]
    exact h.yn
theorem slice60l (p j : Nat) (h1 : j ≤ 64) (W : World) : (Instr.sliceAt 165 (.pointer (some ⟨p, 1, none⟩)) (some (.int .i64 (j : Int))) none none).run Tryz.prog W = .ok (.slice (some (if 64 = j then ⟨p, 1, none⟩ else ⟨p, 1 + j * 2, none⟩)) (64 - j) (64 - j)) W := by
  have ht : Tryz.prog.underlying 165 = some (.array (Tryz.prog.arrayLen 165) (Tryz.prog.elem 165)) := by kernel_rfl
  have h64 : Tryz.prog.arrayLen 165 = 64 := by kernel_rfl
  have he : Tryz.prog.elem 165 = 164 := by kernel_rfl
  have hs : (sizeOf 164).run Tryz.prog W = .ok 2 W := by kernel_rfl
  rw [run_sliceAt_array_l W 165 ⟨p, 1, none⟩ ht .i64 (j : Int) (by omega) (by rw [h64]; omega), he, hs, Result.andThen_ok, slicedAt, h64, add_at]
  rfl
theorem slice60lh (p j n : Nat) (h1 : j ≤ n) (h2 : n ≤ 64) (W : World) : (Instr.sliceAt 165 (.pointer (some ⟨p, 1, none⟩)) (some (.int .i64 (j : Int))) (some (.int .i64 (n : Int))) none).run Tryz.prog W = .ok (.slice (some (if 64 = j then ⟨p, 1, none⟩ else ⟨p, 1 + j * 2, none⟩)) (n - j) (64 - j)) W := by
  have ht : Tryz.prog.underlying 165 = some (.array (Tryz.prog.arrayLen 165) (Tryz.prog.elem 165)) := by kernel_rfl
  have h64 : Tryz.prog.arrayLen 165 = 64 := by kernel_rfl
  have he : Tryz.prog.elem 165 = 164 := by kernel_rfl
  have hs : (sizeOf 164).run Tryz.prog W = .ok 2 W := by kernel_rfl
  rw [run_sliceAt_array_lh W 165 ⟨p, 1, none⟩ ht .i64 .i64 (j : Int) (n : Int) (by omega) (by omega) (by rw [h64]; omega), he, hs, Result.andThen_ok, slicedAt, h64, add_at]
  rfl
section
variable {w : World} {p : Nat} {own : List UInt8} {K : List La} {qs : List Yq}
/-- What copy leaves. -/
theorem copy84 (hB : IsO w p own K qs) {P : Nat} (hP : P ≤ K.length) (hK : K.length < 64) : ∃ r W', (Builtin.copy_ #[208, 208] 3 #[.slice (some (if 64 = P + 1 then ⟨p, 1, none⟩ else ⟨p, 1 + (P + 1) * 2, none⟩)) (64 - (P + 1)) (64 - (P + 1)), .slice (some ⟨p, 1 + P * 2, none⟩) (K.length - P) (64 - P)]).run Tryz.prog w = .ok r W' ∧ Kept [p] w W' ∧
    ∃ cs, W'.heap[p]? = some (.cells (upK cs K P).toArray 168 (0, 0)) ∧ CellsO cs own K qs := by
  obtain ⟨cs, hb, hc⟩ := hB.box
  have hf := flatK_length K P
  have hl := hc.len
  by_cases h0 : K.length = P
  · have hn : Nat.min (K.length - P) (64 - (P + 1)) = 0 := by rw [h0, Nat.sub_self]; exact Nat.zero_min _
    have hrun := run_copy_noneK (P := Tryz.prog) w 208 208 3 164 2 (some (if 64 = P + 1 then ⟨p, 1, none⟩ else ⟨p, 1 + (P + 1) * 2, none⟩)) (some ⟨p, 1 + P * 2, none⟩) (64 - (P + 1)) (64 - (P + 1)) (K.length - P) (64 - P) Tryz.underlying208 (by kernel_rfl) hn
    refine ⟨_, _, hrun, Kept.refl [p] w, cs, ?_, hc⟩
    have e : upK cs K P = cs := by
      unfold upK
      rw [show K.drop P = [] from List.drop_eq_nil_of_le (by omega)]
      simp [CK]
    rw [e]
    exact hb
  · have hsrc : ∀ i v, (CK (K.drop P)).flatten[i]? = some v → w.cell? ((⟨p, 1 + P * 2, none⟩ : Addr).add i) = some v := fun i v hv => by
      obtain ⟨m, r, k, hm, hk, rfl⟩ := (CK_wide _).inv i v hv
      rw [CK, List.getElem?_map, Option.map_eq_some_iff] at hm
      obtain ⟨y, hy, rfl⟩ := hm
      rw [List.getElem?_drop] at hy
      rw [add_at, show 1 + P * 2 + (m * 2 + k) = 1 + (P + m) * 2 + k by omega]
      exact IsO.cell hb (hc.ks (P + m) y hy k v hk)
    have hrun := run_copy_rowK (P := Tryz.prog) w 208 208 3 164 2 p (1 + (P + 1) * 2) (64 - (P + 1)) (64 - (P + 1)) ⟨p, 1 + P * 2, none⟩ (K.length - P) (64 - P) _ 168 (CK (K.drop P)).flatten Tryz.underlying208 (by kernel_rfl) hb (by rw [hf]; congr 1; exact (Nat.min_eq_left (by omega)).symm) hsrc (by rw [hf, List.size_toArray, hl]; omega) (CK_wide _).one
    rw [if_neg (by omega)]
    refine ⟨_, _, hrun, (Kept.refl [p] w).setRow (.inl (by simp)) _, cs, ?_, hc⟩
    exact setRow_heap w p cs.toArray (cs.toArray.toList.take (1 + (P + 1) * 2) ++ (CK (K.drop P)).flatten ++ cs.toArray.toList.drop (1 + (P + 1) * 2 + (CK (K.drop P)).flatten.length)).toArray 168 (0, 0) hb
/-- The last store of next. -/
theorem IsO.raise (hB : IsO w p own K qs) {j s : Nat} {to : List UInt8} (hj : K[j]? = some ⟨to, s⟩) (t : Nat) : IsO (w.setCell ⟨p, 1 + j * 2 + 1, none⟩ (Uv t)) p own (K.set j ⟨to, t⟩) qs ∧ Kept [p] w (w.setCell ⟨p, 1 + j * 2 + 1, none⟩ (Uv t)) := by
  obtain ⟨cs, hb, hc⟩ := hB.box
  have k := (Kept.refl [p] w).setCell (p := ⟨p, 1 + j * 2 + 1, none⟩) (.inl (by simp)) (Uv t)
  exact ⟨⟨⟨_, set_list hb, hc.setK hB.kn hB.ln hj t⟩, by rw [List.length_set]; exact hB.kn, hB.ln, fun y hy => (hB.args y hy).kept k (fun g hg hm => by simp at hm; subst hm; exact ownsJ_ne (hB.args y hy) hb (by decide) hg)⟩, k⟩
set_option maxHeartbeats 1000000 in
theorem next59_has (hB : IsO w p own K qs) (hup : Rise K) (to : List UInt8) (hh : hasK K to = true) (hs : ser K to + 1 < 18446744073709551616) : Calls Tryz.prog 84 #[.pointer (some ⟨p, 0, none⟩), Sv to] w fun e w' => e = .returned (Uv (ser K to + 1)) ∧ IsO w' p own (setK K to (ser K to + 1)) qs ∧ Kept [p] w w' := by
  have HF := Hid.mk (find63 hB hup to)
  obtain ⟨s, h1, h2⟩ := has_at hh
  rw [setK_has _ hh, h2]
  rw [h2] at hs
  rw [hh] at HF
  have hlt := get_lt h1
  have hn64 := hB.kn
  have HB := Hid.mk hB
  have H1 := Hid.mk h1
  clear hB hh h1 h2
  generalize pla K to = P at *
  have g0 : (0 : Int) ≤ (P : Int) := by omega
  have g1 : (P : Int) < 64 := by omega
  go_enter Tryz.func84, Tryz.ntmps84
  go_wp2_with fail
  refine HF.out.mono ?_
  rintro e w1 ⟨rfl, k1⟩
  have hB1 := HB.out.kept0 k1
  have c1 := (hB1.key H1.out).2
  have f1 := hB1.free (1 + P * 2 + 1)
  obtain ⟨hR, kR⟩ := hB1.raise H1.out (s + 1)
  have hcR := (World.cell?_setCell_same w1 ⟨p, 1 + P * 2 + 1, none⟩ (Uv (s + 1)) c1)
  have HR : Hid (IsO (w1.setCell ⟨p, 1 + P * 2 + 1, none⟩ (Uv (s + 1))).drew p own (K.set P ⟨to, s + 1⟩) qs ∧ Kept [p] w (w1.setCell ⟨p, 1 + P * 2 + 1, none⟩ (Uv (s + 1))).drew) := ⟨hR.kept0 (Kept.refl [] _).drew, ((k1.mono (by simp)).trans kR (by simp)).drew⟩
  clear hB1 hR kR
  go_wp2_with fail
  go_region
  go_wp2_with fail
  go_ret
  exact ⟨rfl, HR.out⟩
theorem take_set_new (K : List La) (P : Nat) (hP : P ≤ K.length) (x y : La) : (K.take P ++ x :: K.drop P)[P]? = some x ∧ (K.take P ++ x :: K.drop P).set P y = K.take P ++ y :: K.drop P := by
  have ht : (K.take P).length = P := by rw [List.length_take]; omega
  constructor
  · rw [List.getElem?_append_right (by omega), ht, Nat.sub_self]; rfl
  · rw [List.set_append_right _ _ (by omega), ht, Nat.sub_self]; rfl
set_option maxHeartbeats 1000000 in
theorem next59_new (hB : IsO w p own K qs) (hup : Rise K) (to : List UInt8) (hh : hasK K to = false) (hK : K.length < 64) : Calls Tryz.prog 84 #[.pointer (some ⟨p, 0, none⟩), Sv to] w fun e w' => e = .returned (Uv (ser K to + 1)) ∧ IsO w' p own (setK K to (ser K to + 1)) qs ∧ Kept [p] w w' := by
  have HF := Hid.mk (find63 hB hup to)
  have hpl := pla_le K to
  rw [setK_new _ hh, (has_not hh).1]
  rw [hh] at HF
  have HB := Hid.mk hB
  clear hB hh
  generalize pla K to = P at *
  have g0 : (0 : Int) ≤ (P : Int) := by omega
  have g1 : (P : Int) < 64 := by omega
  go_enter Tryz.func84, Tryz.ntmps84
  go_wp2_with fail
  refine HF.out.mono ?_
  rintro e w1 ⟨rfl, k1⟩
  have hB1 := HB.out.kept0 k1
  have hBd := hB1.kept0 (Kept.refl [] w1).drew
  obtain ⟨r3, W3, hrun, k3, cs, h3, hc⟩ := copy84 hBd hpl hK
  have hsl1 : ∀ W : World, (Instr.sliceAt 165 (.pointer (some ⟨p, 1, none⟩)) (some (.int .i64 ((P : Int) + 1))) none none).run Tryz.prog W = _ := slice60l p (P + 1) (by omega)
  have hsl2 : ∀ W : World, (Instr.sliceAt 165 (.pointer (some ⟨p, 1, none⟩)) (some (.int .i64 (P : Int))) (some (.int .i64 (K.length : Int))) none).run Tryz.prog W = _ := slice60lh p P K.length hpl (by omega)
  rw [if_neg (by omega)] at hsl2
  generalize (if 64 = P + 1 then (⟨p, 1, none⟩ : Addr) else ⟨p, 1 + (P + 1) * 2, none⟩) = a2 at hrun hsl1
  generalize 64 - (P + 1) = c2 at hrun hsl1
  have S0 := hBd.known
  have hf := flatK_length K P
  have hl := hc.len
  have hu : 1 + (P + 1) * 2 + (CK (K.drop P)).flatten.length ≤ cs.length := by omega
  have hL : (upK cs K P).length = cs.length := over_length cs (CK (K.drop P)).flatten (1 + (P + 1) * 2) hu
  have hkn : (upK cs K P)[129]? = some (.int .i64 (K.length : Int)) := by
    have := over_get cs (CK (K.drop P)).flatten (1 + (P + 1) * 2) 129 hu
    rw [if_neg (by omega), if_neg (by omega)] at this
    exact this.trans hc.kn
  have hI := hc.ins hK hpl to
  obtain ⟨hg1, hg2⟩ := take_set_new K P hpl ⟨to, 0⟩ ⟨to, 1⟩
  generalize hR : upK cs K P = R at *
  have S3 : W3.cell? ⟨p, 129, none⟩ = some (.int .i64 (K.length : Int)) := IsO.cell h3 hkn
  obtain ⟨d0, hd0⟩ : ∃ v, W3.cell? ⟨p, 1 + P * 2, none⟩ = some v := ⟨_, IsO.cell h3 (List.getElem?_eq_getElem (by omega))⟩
  obtain ⟨d1, hd1⟩ : ∃ v, W3.cell? ⟨p, 1 + P * 2 + 1, none⟩ = some v := ⟨_, IsO.cell h3 (List.getElem?_eq_getElem (by omega))⟩
  have fr : ∀ i, W3.frozen? ⟨p, i, none⟩ = false := fun i => by simp [World.frozen?, h3]
  have f0 := fr (1 + P * 2)
  have f1 := fr (1 + P * 2 + 1)
  have f2 := fr 129
  have hw1 : IntKind.i64.wrap ((P : Int) + 1) = (P : Int) + 1 := by rw [IntKind.wrap_i64]; omega
  have h4 := set_list (k := 129) (x := .int .i64 ((K.length + 1 : Nat) : Int)) (set_list (k := 1 + P * 2 + 1) (x := Uv 0) (set_list (k := 1 + P * 2) (x := Sv to) h3))
  have k4 := ((k3.setCell (p := ⟨p, 1 + P * 2, none⟩) (.inl (by simp)) (Sv to)).setCell (p := ⟨p, 1 + P * 2 + 1, none⟩) (.inl (by simp)) (Uv 0)).setCell (p := ⟨p, 129, none⟩) (.inl (by simp)) (.int .i64 ((K.length + 1 : Nat) : Int))
  have k14 : Kept [p] w _ := (k1.mono (by simp)).trans ((Kept.refl [p] w1).drew.trans k4 (by simp)) (by simp)
  have hB4 : IsO _ p own (K.take P ++ ⟨to, 0⟩ :: K.drop P) qs := ⟨⟨_, h4, hI⟩, by simp; omega, hB1.ln, fun y hy => (hBd.args y hy).kept k4 (fun g hg hm => by
    simp at hm
    subst hm
    obtain ⟨cs1, hb1, -⟩ := hBd.box
    exact ownsJ_ne (hBd.args y hy) hb1 (by decide) hg)⟩
  have HW : Hid (∃ W4, ((W3.setCell ⟨p, 1 + P * 2, none⟩ (Sv to)).setCell ⟨p, 1 + P * 2 + 1, none⟩ (.int .u64 0)).setCell ⟨p, 129, none⟩ (.int .i64 ((K.length : Int) + 1)) = W4 ∧ IsO W4 p own (K.take P ++ ⟨to, 0⟩ :: K.drop P) qs ∧ Kept [p] w W4) := ⟨_, rfl, hB4, k14⟩
  have HG := Hid.mk (And.intro hg1 hg2)
  have q1 : (P : Int) ≤ (K.length : Int) := by omega
  have q2 : (K.length : Int) ≤ 64 := by omega
  have q3 : (0 : Int) ≤ (K.length : Int) := by omega
  have q4 : (K.length : Int) < 64 := by omega
  clear hR hg1 hg2 hB4 k14 k4 h4 fr hI hkn hL hu hl hf hc h3 hBd hB1 hpl
  go_wp2_with fail
  go_region_held3 (fun W => W.cell? ⟨p, 129, none⟩ = some (.int .i64 (K.length : Int))) (first | with_reducible exact S0 | with_reducible exact S3) (first | (refine step_copy_run 208 208 (.tmp 20) (.tmp 29) (by rfl) (by rfl) _ _ (by rfl) (by rfl) hrun ?_))
  clear S0 hrun hsl1 hsl2
  go_wp2_with fail
  obtain ⟨W4, e4, hB4, k4⟩ := HW.out
  rw [e4]
  clear e4 HW S3 hd0 hd1 f0 f1 f2
  have c4 := (hB4.key HG.out.1).2
  have f4 := hB4.free (1 + P * 2 + 1)
  obtain ⟨hR, kR⟩ := hB4.raise HG.out.1 1
  have HR : Hid (IsO (W4.setCell ⟨p, 1 + P * 2 + 1, none⟩ (Uv 1)).drew p own (K.take P ++ ⟨to, 1⟩ :: K.drop P) qs ∧ Kept [p] w (W4.setCell ⟨p, 1 + P * 2 + 1, none⟩ (Uv 1)).drew) := ⟨by have := hR.kept0 (Kept.refl [] _).drew; rwa [HG.out.2] at this, (k4.trans kR (by simp)).drew⟩
  have hcR := (World.cell?_setCell_same W4 ⟨p, 1 + P * 2 + 1, none⟩ (Uv 1) c4)
  clear hR kR hB4 k4 HG
  go_region
  go_wp2_with fail
  go_ret
  exact ⟨rfl, HR.out⟩
theorem next59 (hB : IsO w p own K qs) (hup : Rise K) (to : List UInt8) (hh : hasK K to = true ∨ K.length < 64) (hs : ser K to + 1 < 18446744073709551616) : Calls Tryz.prog 84 #[.pointer (some ⟨p, 0, none⟩), Sv to] w fun e w' => e = .returned (Uv (ser K to + 1)) ∧ IsO w' p own (setK K to (ser K to + 1)) qs ∧ Kept [p] w w' := by
  cases h : hasK K to with
  | true => exact next59_has hB hup to h hs
  | false => exact next59_new hB hup to h (by rcases hh with h' | h'; rw [h] at h'; cases h'; exact h')
end
end Go.Proofs.YtngnenbidpojeaaGreatDoor
/-
  All of an outbox.
-/
namespace Go.Proofs.YtngnenbidpojeaaGreatDoor
set_option maxRecDepth 100000
open Go.RowKit
set_option linter.unusedVariables false
/-- A row of letters on their way, in memory of its own since w0, with their Args. -/
structure OwnY (t : TypeId) (w0 w : World) (v : Value) (qs : List Yq) : Prop where
  own : OwnsR t 5 w v (CY qs)
  args : ∀ y ∈ qs, OwnsJ w y.q.sl y.q.x.args
  fr : Fresh w0 v
  fra : ∀ y ∈ qs, Fresh w0 y.q.sl
theorem OwnY.nil (t : TypeId) (w0 w : World) : OwnY t w0 w (.slice none 0 0) [] := ⟨OwnsR.nil t 5 w, by simp, fresh_nil w0 0, by simp⟩
theorem OwnY.kept {t : TypeId} {w0 w w' : World} {v : Value} {qs : List Yq} {S : List Nat} (h : OwnY t w0 w v qs) (k : Kept S w w') (hS : ∀ g ∈ S, v.ownBlock ≠ some g ∧ ∀ y ∈ qs, y.q.sl.ownBlock ≠ some g) : OwnY t w0 w' v qs :=
  ⟨h.own.kept k (fun g hg hm => (hS g hm).1 hg), fun y hy => (h.args y hy).kept k (fun g hg hm => (hS g hm).2 y hy hg), h.fr, h.fra⟩
theorem OwnY.kept0 {t : TypeId} {w0 w w' : World} {v : Value} {qs : List Yq} (h : OwnY t w0 w v qs) (k : Kept [] w w') : OwnY t w0 w' v qs := h.kept k (by simp)
theorem OwnY.row {t : TypeId} {w0 w : World} {v : Value} {qs : List Yq} (h : OwnY t w0 w v qs) : ReadsR 5 w v (CY qs) := h.own.reads (CY_wide qs)
theorem rowY_form {w : World} {v : Value} {l : List Yq} (h : ReadsR 5 w v (CY l)) : ∃ a c, v = .slice a l.length c ∧ l.length ≤ c ∧ c ≤ 9223372036854775807 := by
  have := ReadsR.form h
  rwa [CY_length] at this
theorem rowY_at {w : World} {a : Option Addr} {n c : Nat} {l : List Yq} (h : ReadsR 5 w (.slice a n c) (CY l)) {j : Nat} {y : Yq} (hy : l[j]? = some y) : ∃ b o, a = some ⟨b, o, none⟩ ∧ w.cell? ⟨b, o + j * 5, none⟩ = some (Sv y.to) ∧ w.cell? ⟨b, o + j * 5 + 1, none⟩ = some (Sv y.q.x.fr) ∧ w.cell? ⟨b, o + j * 5 + 2, none⟩ = some (.int .u64 (y.q.x.ser : Int)) ∧ w.cell? ⟨b, o + j * 5 + 3, none⟩ = some (.int .i64 y.q.x.kind) ∧ w.cell? ⟨b, o + j * 5 + 4, none⟩ = some y.q.sl := by
  obtain ⟨b, o, c', e, hc⟩ := ReadsR.at h j (cellsY y) (by simp [CY, hy])
  injection e with e _ _
  have h0 := hc 0 _ rfl
  have h1 := hc 1 _ rfl
  have h2 := hc 2 _ rfl
  have h3 := hc 3 _ rfl
  have h4 := hc 4 _ rfl
  rw [Nat.add_zero] at h0
  exact ⟨b, o, e, h0, h1, h2, h3, h4⟩
section
variable {w : World} {p : Nat} {own : List UInt8} {K : List La} {qs : List Yq}
end
end Go.Proofs.YtngnenbidpojeaaGreatDoor
