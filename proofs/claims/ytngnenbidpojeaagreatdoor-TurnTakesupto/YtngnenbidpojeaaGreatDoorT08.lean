import Derived.Test.YtngnenbidpojeaaGreatDoorT07
/-
 next of an outbox: the last serial to a key is raised; a new key is laid where it belongs.
-/
namespace Go.Proofs.YtngnenbidpojeaaGreatDoor
set_option maxRecDepth 100000
open Go.RowKit
set_option linter.unusedVariables false
theorem over_get (cs X : List Value) (o i : Nat) (h : o + X.length ≤ cs.length) : (cs.take o ++ X ++ cs.drop (o + X.length))[i]? = if i < o then cs[i]? else if i < o + X.length then X[i - o]? else cs[i]? := by
 have ht : (cs.take o).length = o := by rw [List.length_take]; omega
 by_cases h1 : i < o
 ·rw [if_pos h1, List.getElem?_append_left (by rw [List.length_append, ht]; omega), List.getElem?_append_left (by omega), List.getElem?_take, if_pos h1]
 ·rw [if_neg h1]
  by_cases h2 : i < o + X.length
  ·rw [if_pos h2, List.getElem?_append_left (by rw [List.length_append, ht]; omega), List.getElem?_append_right (by omega), ht]
  ·rw [if_neg h2, List.getElem?_append_right (by rw [List.length_append, ht]; omega), List.length_append, ht, List.getElem?_drop]
   congr 1
   omega
theorem over_length (cs X : List Value) (o : Nat) (h : o + X.length ≤ cs.length) : (cs.take o ++ X ++ cs.drop (o + X.length)).length = cs.length := by
 rw [List.length_append, List.length_append, List.length_take, List.length_drop]; omega
abbrev upK (cs : List Value) (K : List La) (P : Nat) : List Value := cs.take (1 + (P + 1) * 2) ++ (CK (K.drop P)).flatten ++ cs.drop (1 + (P + 1) * 2 + (CK (K.drop P)).flatten.length)
theorem flatK_length (K : List La) (P : Nat) : (CK (K.drop P)).flatten.length = (K.length - P) * 2 := by rw [(CK_wide _).flat_length, CK_length, List.length_drop]
theorem flatK_at {K : List La} {P j i : Nat} {y : La} {v : Value} (hP : P ≤ j) (hj : K[j]? = some y) (hv : (cellsK y)[i]? = some v) : (CK (K.drop P)).flatten[(j - P) * 2 + i]? = some v := by
 refine (CK_wide _).at (j - P) (cellsK y) ?_ i v hv
 rw [CK, List.getElem?_map, List.getElem?_drop, show P + (j - P) = j by omega, hj]
 rfl
theorem CellsO.ins {cs : List Value} {own : List UInt8} {K : List La} {qs : List Yq} (h : CellsO cs own K qs) (hK : K.length < 64) {P : Nat} (hP : P ≤ K.length) (to : List UInt8) :
  CellsO ((((upK cs K P).set (1 + P * 2) (Sv to)).set (1 + P * 2 + 1) (Uv 0)).set 129 (.int .i64 ((K.length + 1 : Nat) : Int))) own (K.take P ++ ⟨to, 0⟩ :: K.drop P) qs := by
 have hl := h.len
 have hf := flatK_length K P
 have hu : 1 + (P + 1) * 2 + (CK (K.drop P)).flatten.length ≤ cs.length := by omega
 have hL := over_length cs (CK (K.drop P)).flatten (1 + (P + 1) * 2) hu
 have hg := fun i => over_get cs (CK (K.drop P)).flatten (1 + (P + 1) * 2) i hu
 refine ⟨by simp only [List.length_set]; rw [hL]; exact hl, ?_, fun i z hz m v hv => ?_, ?_, fun i z hz m v hv => ?_, ?_, set_one (set_one (set_one (over_one h.one (wide_one (CK_wide _))) rfl) rfl) rfl⟩
 ·rw [List.getElem?_set_ne (by omega), List.getElem?_set_ne (by omega), List.getElem?_set_ne (by omega), hg, if_pos (by omega)]; exact h.own
 ·have hm := cellsK_lt hv
  have hi := get_lt hz
  rw [List.length_append, List.length_cons, List.length_take, List.length_drop] at hi
  have ht : (K.take P).length = P := by rw [List.length_take]; omega
  rw [List.getElem?_set_ne (by omega)]
  rcases Nat.lt_trichotomy i P with hip | hip | hip
  ·rw [List.getElem?_append_left (by omega), List.getElem?_take, if_pos hip] at hz
   rw [List.getElem?_set_ne (by omega), List.getElem?_set_ne (by omega), hg, if_pos (by omega)]
   exact h.ks i z hz m v hv
  ·subst hip
   rw [List.getElem?_append_right (by omega), ht, Nat.sub_self] at hz
   simp at hz
   subst hz
   match m, hm with
   | 0, _ =>
    rw [List.getElem?_set_ne (by omega), Nat.add_zero, List.getElem?_set_self (by rw [hL]; omega)]
    exact hv
   | 1, _ =>
    rw [List.getElem?_set_self (by rw [List.length_set, hL]; omega)]
    exact hv
  ·rw [List.getElem?_append_right (by omega), ht, show i - P = (i - 1 - P) + 1 by omega, List.getElem?_cons_succ, List.getElem?_drop, show P + (i - 1 - P) = i - 1 by omega] at hz
   rw [List.getElem?_set_ne (by omega), List.getElem?_set_ne (by omega), hg, if_neg (by omega), if_pos (by omega)]
   have := flatK_at (P := P) (by omega) hz hv
   rw [show 1 + i * 2 + m - (1 + (P + 1) * 2) = (i - 1 - P) * 2 + m by omega]
   exact this
 ·rw [List.getElem?_set_self (by simp only [List.length_set]; rw [hL]; omega)]
  congr 3
  simp
  omega
 ·have := get_lt hz
  rw [List.getElem?_set_ne (by have := cellsY_lt hv; omega), List.getElem?_set_ne (by omega), List.getElem?_set_ne (by omega), hg, if_neg (by omega), if_neg (by omega)]
  exact h.ys i z hz m v hv
 ·rw [List.getElem?_set_ne (by omega), List.getElem?_set_ne (by omega), List.getElem?_set_ne (by omega), hg, if_neg (by omega), if_neg (by omega)]
  exact h.yn
theorem slice60l (p j : Nat) (h1 : j ≤ 64) (W : World) : (Instr.sliceAt 165 (.pointer (some ⟨p, 1, none⟩)) (some (.int .i64 (j : Int))) none none).run Tryz.prog W = .ok (.slice (some (if 64 = j then ⟨p, 1, none⟩ else ⟨p, 1 + j * 2, none⟩)) (64 - j) (64 - j)) W := by
 have ht : Tryz.prog.underlying 165 = some (.array (Tryz.prog.arrayLen 165) (Tryz.prog.elem 165)) := by kernel_rfl
 have h64 : Tryz.prog.arrayLen 165 = 64 := by kernel_rfl
 have he : Tryz.prog.elem 165 = 164 := by kernel_rfl
 have hs : (sizeOf 164).run Tryz.prog W = .ok 2 W := by kernel_rfl
 rw [run_sliceAt_array_l W 165 ⟨p, 1, none⟩ ht .i64 (j : Int) (by omega) (by rw [h64]; omega), he, hs, Result.andThen_ok, slicedAt, h64, add_at]
 rfl
theorem slice60lh (p j n : Nat) (h1 : j ≤ n) (h2 : n ≤ 64) (W : World) : (Instr.sliceAt 165 (.pointer (some ⟨p, 1, none⟩)) (some (.int .i64 (j : Int))) (some (.int .i64 (n : Int))) none).run Tryz.prog W = .ok (.slice (some (if 64 = j then ⟨p, 1, none⟩ else ⟨p, 1 + j * 2, none⟩)) (n - j) (64 - j)) W := by
 have ht : Tryz.prog.underlying 165 = some (.array (Tryz.prog.arrayLen 165) (Tryz.prog.elem 165)) := by kernel_rfl
 have h64 : Tryz.prog.arrayLen 165 = 64 := by kernel_rfl
 have he : Tryz.prog.elem 165 = 164 := by kernel_rfl
 have hs : (sizeOf 164).run Tryz.prog W = .ok 2 W := by kernel_rfl
 rw [run_sliceAt_array_lh W 165 ⟨p, 1, none⟩ ht .i64 .i64 (j : Int) (n : Int) (by omega) (by omega) (by rw [h64]; omega), he, hs, Result.andThen_ok, slicedAt, h64, add_at]
 rfl
section
variable {w : World} {p : Nat} {own : List UInt8} {K : List La} {qs : List Yq}
theorem copy84 (hB : IsO w p own K qs) {P : Nat} (hP : P ≤ K.length) (hK : K.length < 64) : ∃ r W', (Builtin.copy_ #[208, 208] 3 #[.slice (some (if 64 = P + 1 then ⟨p, 1, none⟩ else ⟨p, 1 + (P + 1) * 2, none⟩)) (64 - (P + 1)) (64 - (P + 1)), .slice (some ⟨p, 1 + P * 2, none⟩) (K.length - P) (64 - P)]).run Tryz.prog w = .ok r W' ∧ Kept [p] w W' ∧
  ∃ cs, W'.heap[p]? = some (.cells (upK cs K P).toArray 168 (0, 0)) ∧ CellsO cs own K qs := by
 obtain ⟨cs, hb, hc⟩ := hB.box
 have hf := flatK_length K P
 have hl := hc.len
 by_cases h0 : K.length = P
 ·have hn : Nat.min (K.length - P) (64 - (P + 1)) = 0 := by rw [h0, Nat.sub_self]; exact Nat.zero_min _
  have hrun := run_copy_noneK (P := Tryz.prog) w 208 208 3 164 2 (some (if 64 = P + 1 then ⟨p, 1, none⟩ else ⟨p, 1 + (P + 1) * 2, none⟩)) (some ⟨p, 1 + P * 2, none⟩) (64 - (P + 1)) (64 - (P + 1)) (K.length - P) (64 - P) Tryz.underlying208 (by kernel_rfl) hn
  refine ⟨_, _, hrun, Kept.refl [p] w, cs, ?_, hc⟩
  have e : upK cs K P = cs := by
   unfold upK
   rw [show K.drop P = [] from List.drop_eq_nil_of_le (by omega)]
   simp [CK]
  rw [e]
  exact hb
 ·have hsrc : ∀ i v, (CK (K.drop P)).flatten[i]? = some v → w.cell? ((⟨p, 1 + P * 2, none⟩ : Addr).add i) = some v := fun i v hv => by
   obtain ⟨m, r, k, hm, hk, rfl⟩ := (CK_wide _).inv i v hv
   rw [CK, List.getElem?_map, Option.map_eq_some_iff] at hm
   obtain ⟨y, hy, rfl⟩ := hm
   rw [List.getElem?_drop] at hy
   rw [add_at, show 1 + P * 2 + (m * 2 + k) = 1 + (P + m) * 2 + k by omega]
   exact IsO.cell hb (hc.ks (P + m) y hy k v hk)
  have hrun := run_copy_rowK (P := Tryz.prog) w 208 208 3 164 2 p (1 + (P + 1) * 2) (64 - (P + 1)) (64 - (P + 1)) ⟨p, 1 + P * 2, none⟩ (K.length - P) (64 - P) _ 168 (CK (K.drop P)).flatten Tryz.underlying208 (by kernel_rfl) hb (by rw [hf]; congr 1; exact (Nat.min_eq_left (by omega)).symm) hsrc (by rw [hf, List.size_toArray, hl]; omega) (CK_wide _).one
  rw [if_neg (by omega)]
  refine ⟨_, _, hrun, (Kept.refl [p] w).setRow (.inl (by simp)) _, cs, ?_, hc⟩
  exact setRow_heap w p cs.toArray (cs.toArray.toList.take (1 + (P + 1) * 2) ++ (CK (K.drop P)).flatten ++ cs.toArray.toList.drop (1 + (P + 1) * 2 + (CK (K.drop P)).flatten.length)).toArray 168 (0, 0) hb
theorem IsO.raise (hB : IsO w p own K qs) {j s : Nat} {to : List UInt8} (hj : K[j]? = some ⟨to, s⟩) (t : Nat) : IsO (w.setCell ⟨p, 1 + j * 2 + 1, none⟩ (Uv t)) p own (K.set j ⟨to, t⟩) qs ∧ Kept [p] w (w.setCell ⟨p, 1 + j * 2 + 1, none⟩ (Uv t)) := by
 obtain ⟨cs, hb, hc⟩ := hB.box
 have k := (Kept.refl [p] w).setCell (p := ⟨p, 1 + j * 2 + 1, none⟩) (.inl (by simp)) (Uv t)
 exact ⟨⟨⟨_, set_list hb, hc.setK hB.kn hB.ln hj t⟩, by rw [List.length_set]; exact hB.kn, hB.ln, fun y hy => (hB.args y hy).kept k (fun g hg hm => by simp at hm; subst hm; exact ownsJ_ne (hB.args y hy) hb (by decide) hg)⟩, k⟩
set_option maxHeartbeats 1000000 in
theorem next59_has (hB : IsO w p own K qs) (hup : Rise K) (to : List UInt8) (hh : hasK K to = true) (hs : ser K to + 1 < 18446744073709551616) : Calls Tryz.prog 84 #[.pointer (some ⟨p, 0, none⟩), Sv to] w fun e w' => e = .returned (Uv (ser K to + 1)) ∧ IsO w' p own (setK K to (ser K to + 1)) qs ∧ Kept [p] w w' := by
 have HF := Hid.mk (find63 hB hup to)
 obtain ⟨s, h1, h2⟩ := has_at hh
 rw [setK_has _ hh, h2]
 rw [h2] at hs
 rw [hh] at HF
 have hlt := get_lt h1
 have hn64 := hB.kn
 have HB := Hid.mk hB
 have H1 := Hid.mk h1
 clear hB hh h1 h2
 generalize pla K to = P at *
 have g0 : (0 : Int) ≤ (P : Int) := by omega
 have g1 : (P : Int) < 64 := by omega
 go_enter Tryz.func84, Tryz.ntmps84
 go_wp2_with fail
 refine HF.out.mono ?_
 rintro e w1 ⟨rfl, k1⟩
 have hB1 := HB.out.kept0 k1
 have c1 := (hB1.key H1.out).2
 have f1 := hB1.free (1 + P * 2 + 1)
 obtain ⟨hR, kR⟩ := hB1.raise H1.out (s + 1)
 have hcR := (World.cell?_setCell_same w1 ⟨p, 1 + P * 2 + 1, none⟩ (Uv (s + 1)) c1)
 have HR : Hid (IsO (w1.setCell ⟨p, 1 + P * 2 + 1, none⟩ (Uv (s + 1))).drew p own (K.set P ⟨to, s + 1⟩) qs ∧ Kept [p] w (w1.setCell ⟨p, 1 + P * 2 + 1, none⟩ (Uv (s + 1))).drew) := ⟨hR.kept0 (Kept.refl [] _).drew, ((k1.mono (by simp)).trans kR (by simp)).drew⟩
 clear hB1 hR kR
 go_wp2_with fail
 go_region
 go_wp2_with fail
 go_ret
 exact ⟨rfl, HR.out⟩
theorem take_set_new (K : List La) (P : Nat) (hP : P ≤ K.length) (x y : La) : (K.take P ++ x :: K.drop P)[P]? = some x ∧ (K.take P ++ x :: K.drop P).set P y = K.take P ++ y :: K.drop P := by
 have ht : (K.take P).length = P := by rw [List.length_take]; omega
 constructor
 ·rw [List.getElem?_append_right (by omega), ht, Nat.sub_self]; rfl
 ·rw [List.set_append_right _ _ (by omega), ht, Nat.sub_self]; rfl
set_option maxHeartbeats 1000000 in
theorem next59_new (hB : IsO w p own K qs) (hup : Rise K) (to : List UInt8) (hh : hasK K to = false) (hK : K.length < 64) : Calls Tryz.prog 84 #[.pointer (some ⟨p, 0, none⟩), Sv to] w fun e w' => e = .returned (Uv (ser K to + 1)) ∧ IsO w' p own (setK K to (ser K to + 1)) qs ∧ Kept [p] w w' := by
 have HF := Hid.mk (find63 hB hup to)
 have hpl := pla_le K to
 rw [setK_new _ hh, (has_not hh).1]
 rw [hh] at HF
 have HB := Hid.mk hB
 clear hB hh
 generalize pla K to = P at *
 have g0 : (0 : Int) ≤ (P : Int) := by omega
 have g1 : (P : Int) < 64 := by omega
 go_enter Tryz.func84, Tryz.ntmps84
 go_wp2_with fail
 refine HF.out.mono ?_
 rintro e w1 ⟨rfl, k1⟩
 have hB1 := HB.out.kept0 k1
 have hBd := hB1.kept0 (Kept.refl [] w1).drew
 obtain ⟨r3, W3, hrun, k3, cs, h3, hc⟩ := copy84 hBd hpl hK
 have hsl1 : ∀ W : World, (Instr.sliceAt 165 (.pointer (some ⟨p, 1, none⟩)) (some (.int .i64 ((P : Int) + 1))) none none).run Tryz.prog W = _ := slice60l p (P + 1) (by omega)
 have hsl2 : ∀ W : World, (Instr.sliceAt 165 (.pointer (some ⟨p, 1, none⟩)) (some (.int .i64 (P : Int))) (some (.int .i64 (K.length : Int))) none).run Tryz.prog W = _ := slice60lh p P K.length hpl (by omega)
 rw [if_neg (by omega)] at hsl2
 generalize (if 64 = P + 1 then (⟨p, 1, none⟩ : Addr) else ⟨p, 1 + (P + 1) * 2, none⟩) = a2 at hrun hsl1
 generalize 64 - (P + 1) = c2 at hrun hsl1
 have S0 := hBd.known
 have hf := flatK_length K P
 have hl := hc.len
 have hu : 1 + (P + 1) * 2 + (CK (K.drop P)).flatten.length ≤ cs.length := by omega
 have hL : (upK cs K P).length = cs.length := over_length cs (CK (K.drop P)).flatten (1 + (P + 1) * 2) hu
 have hkn : (upK cs K P)[129]? = some (.int .i64 (K.length : Int)) := by
  have := over_get cs (CK (K.drop P)).flatten (1 + (P + 1) * 2) 129 hu
  rw [if_neg (by omega), if_neg (by omega)] at this
  exact this.trans hc.kn
 have hI := hc.ins hK hpl to
 obtain ⟨hg1, hg2⟩ := take_set_new K P hpl ⟨to, 0⟩ ⟨to, 1⟩
 generalize hR : upK cs K P = R at *
 have S3 : W3.cell? ⟨p, 129, none⟩ = some (.int .i64 (K.length : Int)) := IsO.cell h3 hkn
 obtain ⟨d0, hd0⟩ : ∃ v, W3.cell? ⟨p, 1 + P * 2, none⟩ = some v := ⟨_, IsO.cell h3 (List.getElem?_eq_getElem (by omega))⟩
 obtain ⟨d1, hd1⟩ : ∃ v, W3.cell? ⟨p, 1 + P * 2 + 1, none⟩ = some v := ⟨_, IsO.cell h3 (List.getElem?_eq_getElem (by omega))⟩
 have fr : ∀ i, W3.frozen? ⟨p, i, none⟩ = false := fun i => by simp [World.frozen?, h3]
 have f0 := fr (1 + P * 2)
 have f1 := fr (1 + P * 2 + 1)
 have f2 := fr 129
 have hw1 : IntKind.i64.wrap ((P : Int) + 1) = (P : Int) + 1 := by rw [IntKind.wrap_i64]; omega
 have h4 := set_list (k := 129) (x := .int .i64 ((K.length + 1 : Nat) : Int)) (set_list (k := 1 + P * 2 + 1) (x := Uv 0) (set_list (k := 1 + P * 2) (x := Sv to) h3))
 have k4 := ((k3.setCell (p := ⟨p, 1 + P * 2, none⟩) (.inl (by simp)) (Sv to)).setCell (p := ⟨p, 1 + P * 2 + 1, none⟩) (.inl (by simp)) (Uv 0)).setCell (p := ⟨p, 129, none⟩) (.inl (by simp)) (.int .i64 ((K.length + 1 : Nat) : Int))
 have k14 : Kept [p] w _ := (k1.mono (by simp)).trans ((Kept.refl [p] w1).drew.trans k4 (by simp)) (by simp)
 have hB4 : IsO _ p own (K.take P ++ ⟨to, 0⟩ :: K.drop P) qs := ⟨⟨_, h4, hI⟩, by simp; omega, hB1.ln, fun y hy => (hBd.args y hy).kept k4 (fun g hg hm => by
  simp at hm
  subst hm
  obtain ⟨cs1, hb1, -⟩ := hBd.box
  exact ownsJ_ne (hBd.args y hy) hb1 (by decide) hg)⟩
 have HW : Hid (∃ W4, ((W3.setCell ⟨p, 1 + P * 2, none⟩ (Sv to)).setCell ⟨p, 1 + P * 2 + 1, none⟩ (.int .u64 0)).setCell ⟨p, 129, none⟩ (.int .i64 ((K.length : Int) + 1)) = W4 ∧ IsO W4 p own (K.take P ++ ⟨to, 0⟩ :: K.drop P) qs ∧ Kept [p] w W4) := ⟨_, rfl, hB4, k14⟩
 have HG := Hid.mk (And.intro hg1 hg2)
 have q1 : (P : Int) ≤ (K.length : Int) := by omega
 have q2 : (K.length : Int) ≤ 64 := by omega
 have q3 : (0 : Int) ≤ (K.length : Int) := by omega
 have q4 : (K.length : Int) < 64 := by omega
 clear hR hg1 hg2 hB4 k14 k4 h4 fr hI hkn hL hu hl hf hc h3 hBd hB1 hpl
 go_wp2_with fail
 go_region_held3 (fun W => W.cell? ⟨p, 129, none⟩ = some (.int .i64 (K.length : Int))) (first | with_reducible exact S0 | with_reducible exact S3) (first | (refine step_copy_run 208 208 (.tmp 20) (.tmp 29) (by rfl) (by rfl) _ _ (by rfl) (by rfl) hrun ?_))
 clear S0 hrun hsl1 hsl2
 go_wp2_with fail
 obtain ⟨W4, e4, hB4, k4⟩ := HW.out
 rw [e4]
 clear e4 HW S3 hd0 hd1 f0 f1 f2
 have c4 := (hB4.key HG.out.1).2
 have f4 := hB4.free (1 + P * 2 + 1)
 obtain ⟨hR, kR⟩ := hB4.raise HG.out.1 1
 have HR : Hid (IsO (W4.setCell ⟨p, 1 + P * 2 + 1, none⟩ (Uv 1)).drew p own (K.take P ++ ⟨to, 1⟩ :: K.drop P) qs ∧ Kept [p] w (W4.setCell ⟨p, 1 + P * 2 + 1, none⟩ (Uv 1)).drew) := ⟨by have := hR.kept0 (Kept.refl [] _).drew; rwa [HG.out.2] at this, (k4.trans kR (by simp)).drew⟩
 have hcR := (World.cell?_setCell_same W4 ⟨p, 1 + P * 2 + 1, none⟩ (Uv 1) c4)
 clear hR kR hB4 k4 HG
 go_region
 go_wp2_with fail
 go_ret
 exact ⟨rfl, HR.out⟩
theorem next59 (hB : IsO w p own K qs) (hup : Rise K) (to : List UInt8) (hh : hasK K to = true ∨ K.length < 64) (hs : ser K to + 1 < 18446744073709551616) : Calls Tryz.prog 84 #[.pointer (some ⟨p, 0, none⟩), Sv to] w fun e w' => e = .returned (Uv (ser K to + 1)) ∧ IsO w' p own (setK K to (ser K to + 1)) qs ∧ Kept [p] w w' := by
 cases h : hasK K to with
 | true => exact next59_has hB hup to h hs
 | false => exact next59_new hB hup to h (by rcases hh with h' | h'; rw [h] at h'; cases h'; exact h')
end
section
variable {w : World} {p : Nat} {own : List UInt8} {K : List La} {qs : List Yq}
def Fitq (qs : List Yq) : Prop := ∀ y ∈ qs, y.to.length ≤ 1000 ∧ y.q.x.fr.length ≤ 1000 ∧ y.q.x.args.length ≤ 1000
end
section
variable {w : World} {p : Nat} {own : List UInt8} {K : List La} {qs : List Yq}
end
def zy : Yq := ⟨[], ⟨⟨[], 0, 0, []⟩, none, 0⟩⟩
structure OwnY (t : TypeId) (w0 w : World) (v : Value) (qs : List Yq) : Prop where
 own : OwnsR t 5 w v (CY qs)
 args : ∀ y ∈ qs, OwnsJ w y.q.sl y.q.x.args
 fr : Fresh w0 v
 fra : ∀ y ∈ qs, Fresh w0 y.q.sl
theorem OwnY.nil (t : TypeId) (w0 w : World) : OwnY t w0 w (.slice none 0 0) [] := ⟨OwnsR.nil t 5 w, by simp, fresh_nil w0 0, by simp⟩
theorem OwnY.kept {t : TypeId} {w0 w w' : World} {v : Value} {qs : List Yq} {S : List Nat} (h : OwnY t w0 w v qs) (k : Kept S w w') (hS : ∀ g ∈ S, v.ownBlock ≠ some g ∧ ∀ y ∈ qs, y.q.sl.ownBlock ≠ some g) : OwnY t w0 w' v qs :=
 ⟨h.own.kept k (fun g hg hm => (hS g hm).1 hg), fun y hy => (h.args y hy).kept k (fun g hg hm => (hS g hm).2 y hy hg), h.fr, h.fra⟩
theorem OwnY.kept0 {t : TypeId} {w0 w w' : World} {v : Value} {qs : List Yq} (h : OwnY t w0 w v qs) (k : Kept [] w w') : OwnY t w0 w' v qs := h.kept k (by simp)
theorem OwnY.row {t : TypeId} {w0 w : World} {v : Value} {qs : List Yq} (h : OwnY t w0 w v qs) : ReadsR 5 w v (CY qs) := h.own.reads (CY_wide qs)
theorem rowY_form {w : World} {v : Value} {l : List Yq} (h : ReadsR 5 w v (CY l)) : ∃ a c, v = .slice a l.length c ∧ l.length ≤ c ∧ c ≤ 9223372036854775807 := by
 have := ReadsR.form h
 rwa [CY_length] at this
theorem rowY_at {w : World} {a : Option Addr} {n c : Nat} {l : List Yq} (h : ReadsR 5 w (.slice a n c) (CY l)) {j : Nat} {y : Yq} (hy : l[j]? = some y) : ∃ b o, a = some ⟨b, o, none⟩ ∧ w.cell? ⟨b, o + j * 5, none⟩ = some (Sv y.to) ∧ w.cell? ⟨b, o + j * 5 + 1, none⟩ = some (Sv y.q.x.fr) ∧ w.cell? ⟨b, o + j * 5 + 2, none⟩ = some (.int .u64 (y.q.x.ser : Int)) ∧ w.cell? ⟨b, o + j * 5 + 3, none⟩ = some (.int .i64 y.q.x.kind) ∧ w.cell? ⟨b, o + j * 5 + 4, none⟩ = some y.q.sl := by
 obtain ⟨b, o, c', e, hc⟩ := ReadsR.at h j (cellsY y) (by simp [CY, hy])
 injection e with e _ _
 have h0 := hc 0 _ rfl
 have h1 := hc 1 _ rfl
 have h2 := hc 2 _ rfl
 have h3 := hc 3 _ rfl
 have h4 := hc 4 _ rfl
 rw [Nat.add_zero] at h0
 exact ⟨b, o, e, h0, h1, h2, h3, h4⟩
theorem flat_set5 (ds zs : List Yq) (z y : Yq) : (((((CY (ds ++ z :: zs)).flatten.set (ds.length * 5) (Sv y.to)).set (ds.length * 5 + 1) (Sv y.q.x.fr)).set (ds.length * 5 + 2) (.int .u64 (y.q.x.ser : Int))).set (ds.length * 5 + 3) (.int .i64 y.q.x.kind)).set (ds.length * 5 + 4) y.q.sl = (CY (ds ++ y :: zs)).flatten := by
 have h : (CY ds).flatten.length = ds.length * 5 := by rw [(CY_wide ds).flat_length, CY_length]
 rw [CY_append, CY_append, List.flatten_append, List.flatten_append, ← h]
 rw [List.set_append_right _ _ (Nat.le_refl _), List.set_append_right _ _ (by omega), List.set_append_right _ _ (by omega), List.set_append_right _ _ (by omega), List.set_append_right _ _ (by omega)]
 rw [Nat.sub_self, Nat.add_sub_cancel_left, Nat.add_sub_cancel_left, Nat.add_sub_cancel_left, Nat.add_sub_cancel_left]
 rfl
theorem make_outs0 (W : World) : (Instr.makeSlice 127 (.int .i64 0) (.int .i64 0)).run Tryz.prog W = .ok (.slice (some ⟨W.heap.size, 0, none⟩) 0 0) (W.alloc (.cells (CY (List.replicate 0 zy)).flatten.toArray 130)) := by kernel_rfl
theorem make_outs1 (W : World) : (Instr.makeSlice 127 (.int .i64 1) (.int .i64 1)).run Tryz.prog W = .ok (.slice (some ⟨W.heap.size, 0, none⟩) 1 1) (W.alloc (.cells (CY (List.replicate 1 zy)).flatten.toArray 130)) := by kernel_rfl
theorem make_outs2 (W : World) : (Instr.makeSlice 127 (.int .i64 2) (.int .i64 2)).run Tryz.prog W = .ok (.slice (some ⟨W.heap.size, 0, none⟩) 2 2) (W.alloc (.cells (CY (List.replicate 2 zy)).flatten.toArray 130)) := by kernel_rfl
theorem make_outs3 (W : World) : (Instr.makeSlice 127 (.int .i64 3) (.int .i64 3)).run Tryz.prog W = .ok (.slice (some ⟨W.heap.size, 0, none⟩) 3 3) (W.alloc (.cells (CY (List.replicate 3 zy)).flatten.toArray 130)) := by kernel_rfl
theorem make_outs4 (W : World) : (Instr.makeSlice 127 (.int .i64 4) (.int .i64 4)).run Tryz.prog W = .ok (.slice (some ⟨W.heap.size, 0, none⟩) 4 4) (W.alloc (.cells (CY (List.replicate 4 zy)).flatten.toArray 130)) := by kernel_rfl
theorem make_outs5 (W : World) : (Instr.makeSlice 127 (.int .i64 5) (.int .i64 5)).run Tryz.prog W = .ok (.slice (some ⟨W.heap.size, 0, none⟩) 5 5) (W.alloc (.cells (CY (List.replicate 5 zy)).flatten.toArray 130)) := by kernel_rfl
theorem make_outs6 (W : World) : (Instr.makeSlice 127 (.int .i64 6) (.int .i64 6)).run Tryz.prog W = .ok (.slice (some ⟨W.heap.size, 0, none⟩) 6 6) (W.alloc (.cells (CY (List.replicate 6 zy)).flatten.toArray 130)) := by kernel_rfl
theorem make_outs7 (W : World) : (Instr.makeSlice 127 (.int .i64 7) (.int .i64 7)).run Tryz.prog W = .ok (.slice (some ⟨W.heap.size, 0, none⟩) 7 7) (W.alloc (.cells (CY (List.replicate 7 zy)).flatten.toArray 130)) := by kernel_rfl
theorem make_outs8 (W : World) : (Instr.makeSlice 127 (.int .i64 8) (.int .i64 8)).run Tryz.prog W = .ok (.slice (some ⟨W.heap.size, 0, none⟩) 8 8) (W.alloc (.cells (CY (List.replicate 8 zy)).flatten.toArray 130)) := by kernel_rfl
theorem make_outs9 (W : World) : (Instr.makeSlice 127 (.int .i64 9) (.int .i64 9)).run Tryz.prog W = .ok (.slice (some ⟨W.heap.size, 0, none⟩) 9 9) (W.alloc (.cells (CY (List.replicate 9 zy)).flatten.toArray 130)) := by kernel_rfl
theorem make_outs10 (W : World) : (Instr.makeSlice 127 (.int .i64 10) (.int .i64 10)).run Tryz.prog W = .ok (.slice (some ⟨W.heap.size, 0, none⟩) 10 10) (W.alloc (.cells (CY (List.replicate 10 zy)).flatten.toArray 130)) := by kernel_rfl
theorem make_outs11 (W : World) : (Instr.makeSlice 127 (.int .i64 11) (.int .i64 11)).run Tryz.prog W = .ok (.slice (some ⟨W.heap.size, 0, none⟩) 11 11) (W.alloc (.cells (CY (List.replicate 11 zy)).flatten.toArray 130)) := by kernel_rfl
theorem make_outs12 (W : World) : (Instr.makeSlice 127 (.int .i64 12) (.int .i64 12)).run Tryz.prog W = .ok (.slice (some ⟨W.heap.size, 0, none⟩) 12 12) (W.alloc (.cells (CY (List.replicate 12 zy)).flatten.toArray 130)) := by kernel_rfl
theorem make_outs13 (W : World) : (Instr.makeSlice 127 (.int .i64 13) (.int .i64 13)).run Tryz.prog W = .ok (.slice (some ⟨W.heap.size, 0, none⟩) 13 13) (W.alloc (.cells (CY (List.replicate 13 zy)).flatten.toArray 130)) := by kernel_rfl
theorem make_outs14 (W : World) : (Instr.makeSlice 127 (.int .i64 14) (.int .i64 14)).run Tryz.prog W = .ok (.slice (some ⟨W.heap.size, 0, none⟩) 14 14) (W.alloc (.cells (CY (List.replicate 14 zy)).flatten.toArray 130)) := by kernel_rfl
theorem make_outs15 (W : World) : (Instr.makeSlice 127 (.int .i64 15) (.int .i64 15)).run Tryz.prog W = .ok (.slice (some ⟨W.heap.size, 0, none⟩) 15 15) (W.alloc (.cells (CY (List.replicate 15 zy)).flatten.toArray 130)) := by kernel_rfl
theorem make_outs16 (W : World) : (Instr.makeSlice 127 (.int .i64 16) (.int .i64 16)).run Tryz.prog W = .ok (.slice (some ⟨W.heap.size, 0, none⟩) 16 16) (W.alloc (.cells (CY (List.replicate 16 zy)).flatten.toArray 130)) := by kernel_rfl
theorem make_outs17 (W : World) : (Instr.makeSlice 127 (.int .i64 17) (.int .i64 17)).run Tryz.prog W = .ok (.slice (some ⟨W.heap.size, 0, none⟩) 17 17) (W.alloc (.cells (CY (List.replicate 17 zy)).flatten.toArray 130)) := by kernel_rfl
theorem make_outs18 (W : World) : (Instr.makeSlice 127 (.int .i64 18) (.int .i64 18)).run Tryz.prog W = .ok (.slice (some ⟨W.heap.size, 0, none⟩) 18 18) (W.alloc (.cells (CY (List.replicate 18 zy)).flatten.toArray 130)) := by kernel_rfl
theorem make_outs19 (W : World) : (Instr.makeSlice 127 (.int .i64 19) (.int .i64 19)).run Tryz.prog W = .ok (.slice (some ⟨W.heap.size, 0, none⟩) 19 19) (W.alloc (.cells (CY (List.replicate 19 zy)).flatten.toArray 130)) := by kernel_rfl
theorem make_outs20 (W : World) : (Instr.makeSlice 127 (.int .i64 20) (.int .i64 20)).run Tryz.prog W = .ok (.slice (some ⟨W.heap.size, 0, none⟩) 20 20) (W.alloc (.cells (CY (List.replicate 20 zy)).flatten.toArray 130)) := by kernel_rfl
theorem make_outs21 (W : World) : (Instr.makeSlice 127 (.int .i64 21) (.int .i64 21)).run Tryz.prog W = .ok (.slice (some ⟨W.heap.size, 0, none⟩) 21 21) (W.alloc (.cells (CY (List.replicate 21 zy)).flatten.toArray 130)) := by kernel_rfl
theorem make_outs22 (W : World) : (Instr.makeSlice 127 (.int .i64 22) (.int .i64 22)).run Tryz.prog W = .ok (.slice (some ⟨W.heap.size, 0, none⟩) 22 22) (W.alloc (.cells (CY (List.replicate 22 zy)).flatten.toArray 130)) := by kernel_rfl
theorem make_outs23 (W : World) : (Instr.makeSlice 127 (.int .i64 23) (.int .i64 23)).run Tryz.prog W = .ok (.slice (some ⟨W.heap.size, 0, none⟩) 23 23) (W.alloc (.cells (CY (List.replicate 23 zy)).flatten.toArray 130)) := by kernel_rfl
theorem make_outs24 (W : World) : (Instr.makeSlice 127 (.int .i64 24) (.int .i64 24)).run Tryz.prog W = .ok (.slice (some ⟨W.heap.size, 0, none⟩) 24 24) (W.alloc (.cells (CY (List.replicate 24 zy)).flatten.toArray 130)) := by kernel_rfl
theorem make_outs25 (W : World) : (Instr.makeSlice 127 (.int .i64 25) (.int .i64 25)).run Tryz.prog W = .ok (.slice (some ⟨W.heap.size, 0, none⟩) 25 25) (W.alloc (.cells (CY (List.replicate 25 zy)).flatten.toArray 130)) := by kernel_rfl
theorem make_outs26 (W : World) : (Instr.makeSlice 127 (.int .i64 26) (.int .i64 26)).run Tryz.prog W = .ok (.slice (some ⟨W.heap.size, 0, none⟩) 26 26) (W.alloc (.cells (CY (List.replicate 26 zy)).flatten.toArray 130)) := by kernel_rfl
theorem make_outs27 (W : World) : (Instr.makeSlice 127 (.int .i64 27) (.int .i64 27)).run Tryz.prog W = .ok (.slice (some ⟨W.heap.size, 0, none⟩) 27 27) (W.alloc (.cells (CY (List.replicate 27 zy)).flatten.toArray 130)) := by kernel_rfl
theorem make_outs28 (W : World) : (Instr.makeSlice 127 (.int .i64 28) (.int .i64 28)).run Tryz.prog W = .ok (.slice (some ⟨W.heap.size, 0, none⟩) 28 28) (W.alloc (.cells (CY (List.replicate 28 zy)).flatten.toArray 130)) := by kernel_rfl
theorem make_outs29 (W : World) : (Instr.makeSlice 127 (.int .i64 29) (.int .i64 29)).run Tryz.prog W = .ok (.slice (some ⟨W.heap.size, 0, none⟩) 29 29) (W.alloc (.cells (CY (List.replicate 29 zy)).flatten.toArray 130)) := by kernel_rfl
theorem make_outs30 (W : World) : (Instr.makeSlice 127 (.int .i64 30) (.int .i64 30)).run Tryz.prog W = .ok (.slice (some ⟨W.heap.size, 0, none⟩) 30 30) (W.alloc (.cells (CY (List.replicate 30 zy)).flatten.toArray 130)) := by kernel_rfl
theorem make_outs31 (W : World) : (Instr.makeSlice 127 (.int .i64 31) (.int .i64 31)).run Tryz.prog W = .ok (.slice (some ⟨W.heap.size, 0, none⟩) 31 31) (W.alloc (.cells (CY (List.replicate 31 zy)).flatten.toArray 130)) := by kernel_rfl
theorem make_outs32 (W : World) : (Instr.makeSlice 127 (.int .i64 32) (.int .i64 32)).run Tryz.prog W = .ok (.slice (some ⟨W.heap.size, 0, none⟩) 32 32) (W.alloc (.cells (CY (List.replicate 32 zy)).flatten.toArray 130)) := by kernel_rfl
theorem make_outs (n : Nat) (h : n ≤ 32) (W : World) : (Instr.makeSlice 127 (.int .i64 (n : Int)) (.int .i64 (n : Int))).run Tryz.prog W = .ok (.slice (some ⟨W.heap.size, 0, none⟩) n n) (W.alloc (.cells (CY (List.replicate n zy)).flatten.toArray 130)) := by
 match n, h with
 | 0, _ => exact make_outs0 W
 | 1, _ => exact make_outs1 W
 | 2, _ => exact make_outs2 W
 | 3, _ => exact make_outs3 W
 | 4, _ => exact make_outs4 W
 | 5, _ => exact make_outs5 W
 | 6, _ => exact make_outs6 W
 | 7, _ => exact make_outs7 W
 | 8, _ => exact make_outs8 W
 | 9, _ => exact make_outs9 W
 | 10, _ => exact make_outs10 W
 | 11, _ => exact make_outs11 W
 | 12, _ => exact make_outs12 W
 | 13, _ => exact make_outs13 W
 | 14, _ => exact make_outs14 W
 | 15, _ => exact make_outs15 W
 | 16, _ => exact make_outs16 W
 | 17, _ => exact make_outs17 W
 | 18, _ => exact make_outs18 W
 | 19, _ => exact make_outs19 W
 | 20, _ => exact make_outs20 W
 | 21, _ => exact make_outs21 W
 | 22, _ => exact make_outs22 W
 | 23, _ => exact make_outs23 W
 | 24, _ => exact make_outs24 W
 | 25, _ => exact make_outs25 W
 | 26, _ => exact make_outs26 W
 | 27, _ => exact make_outs27 W
 | 28, _ => exact make_outs28 W
 | 29, _ => exact make_outs29 W
 | 30, _ => exact make_outs30 W
 | 31, _ => exact make_outs31 W
 | 32, _ => exact make_outs32 W
 | k + 33, h => exact absurd h (by omega)
section
variable {w : World} {p : Nat} {own : List UInt8} {K : List La} {qs : List Yq}
set_option maxHeartbeats 1000000 in
theorem all21 (hB : IsO w p own K qs) (hft : Fitq qs) : Calls Tryz.prog 47 #[.pointer (some ⟨p, 0, none⟩)] w fun e w' => ∃ v, e = .returned v ∧ ∃ qs', qs'.map ot = qs.map ot ∧ OwnY 130 w w' v qs' ∧ Kept [] w w' := by
 have HB := Hid.mk hB
 have HFT := Hid.mk hft
 have hc := hB.count
 have hl := hB.ln
 have hpl := hB.lt
 clear hB hft
 have hi0 : (0 : Int) ≤ (qs.length : Int) := by omega
 have hi1 : (qs.length : Int) ≤ 32 := by omega
 obtain ⟨L, hL⟩ : ∃ L, L = (CY (List.replicate qs.length zy)).flatten := ⟨_, rfl⟩
 have hmk := make_outs qs.length hl w
 rw [← hL] at hmk
 have HL := Hid.mk hL
 clear hL
 generalize hn : qs.length = n at *
 have HN := Hid.mk hn
 clear hn
 go_enter Tryz.func47, Tryz.ntmps47
 go_wp2_with fail
 have hg0 : (w.alloc (.cells L.toArray 130)).heap[w.heap.size]? = some (.cells L.toArray 130 (0, 0)) := heap_alloc_new w _
 have k0 := (Kept.refl [] w).alloc (.cells L.toArray 130)
 have hz0 : w.heap.size < (w.alloc (.cells L.toArray 130)).heap.size := by simp
 generalize w.alloc (.cells L.toArray 130) = W0 at hg0 k0 hz0 ⊢
 go_loopw [14] (fun i wr => ∃ (j : Nat) (ds : List Yq), i = .int .i64 (j : Int) ∧ j ≤ n ∧ Hid (ds.length = j ∧ ds.map ot = (qs.take j).map ot ∧ (∀ y ∈ ds, OwnsJ wr y.q.sl y.q.x.args ∧ Fresh w y.q.sl) ∧ wr.heap[w.heap.size]? = some (.cells (CY (ds ++ List.replicate (n - j) zy)).flatten.toArray 130 (0, 0)) ∧ Kept [] w wr)) (fun i _ => n - (intOf i).toNat)
 case atStart =>
  refine ⟨0, [], rfl, by omega, Hid.mk ⟨rfl, rfl, by simp, ?_, k0⟩⟩
  rw [HL.out] at hg0
  exact hg0
 case round =>
  obtain ⟨j, ds, rfl, hj, hH⟩ := hrel
  by_cases hlt : j < n
  ·have hjI : (j : Int) < (n : Int) := by omega
   have hj0 : (0 : Int) ≤ (j : Int) := by omega
   have hj8 : (j : Int) < 32 := by omega
   obtain ⟨hdl, hdm, hda, hdb, kk⟩ := hH.out
   obtain ⟨y, hy⟩ : ∃ q, qs[j]? = some q := ⟨_, List.getElem?_eq_getElem (by have := HN.out; omega)⟩
   have hBr := HB.out.kept0 kk
   obtain ⟨d0, d1, d2, d3, d4⟩ := hBr.at hy
   have hqm := List.mem_of_getElem? hy
   obtain ⟨l1, l2, l3⟩ := HFT.out y hqm
   have HC := Hid.mk (copyOut62 y.to y.q.x y.q.ad y.q.cap (hBr.args y hqm).reads (by omega) (by omega) (by omega))
   have HQ := Hid.mk hy
   clear hdl hdm hda hdb kk hy hBr hqm l1 l2 l3
   go_wp2_with fail
   refine HC.out.mono ?_
   rintro e w2 ⟨a2, c2, rfl, hO2, k2, hf2⟩
   obtain ⟨hdl, hdm, hda, hdb, kk⟩ := hH.out
   have hb2 := k2.keeps hdb (by simp)
   have hrep : List.replicate (n - j) zy = zy :: List.replicate (n - (j + 1)) zy := by rw [show n - j = n - (j + 1) + 1 by omega, List.replicate_succ]
   rw [hrep] at hb2
   obtain ⟨W3, e3, k3, h3, hz3⟩ := putY (o := j * 5) hb2 (Sv y.to) (Sv y.q.x.fr) (.int .u64 (y.q.x.ser : Int)) (.int .i64 y.q.x.kind) (.slice a2 y.q.x.args.length c2)
   have hfs := flat_set5 ds (List.replicate (n - (j + 1)) zy) zy ⟨y.to, y.q.x, a2, c2⟩
   rw [hdl] at hfs
   rw [hfs] at h3
   have hcell : ∀ i, i < 5 → ∃ v, w2.cell? ⟨w.heap.size, j * 5 + i, none⟩ = some v := fun i hi => by
    have hlen : (CY (ds ++ zy :: List.replicate (n - (j + 1)) zy)).flatten.length = n * 5 := by
     rw [(CY_wide _).flat_length, CY_length]; simp; omega
    exact ⟨_, IsO.cell hb2 (List.getElem?_eq_getElem (by rw [hlen]; omega))⟩
   obtain ⟨x0, hx0⟩ := hcell 0 (by omega)
   obtain ⟨x1, hx1⟩ := hcell 1 (by omega)
   obtain ⟨x2, hx2⟩ := hcell 2 (by omega)
   obtain ⟨x3, hx3⟩ := hcell 3 (by omega)
   obtain ⟨x4, hx4⟩ := hcell 4 (by omega)
   rw [Nat.add_zero] at hx0
   have hfz : ∀ i, w2.frozen? ⟨w.heap.size, i, none⟩ = false := fun i => by simp [World.frozen?, hb2]
   have f0 := hfz (j * 5)
   have f1 := hfz (j * 5 + 1)
   have f2 := hfz (j * 5 + 2)
   have f3 := hfz (j * 5 + 3)
   have f4 := hfz (j * 5 + 4)
   have k03 : Kept [] w W3 := (kk.trans k2 (by simp)).trans k3 (by simp)
   have HR : Hid ((ds ++ [(⟨y.to, y.q.x, a2, c2⟩ : Yq)]).length = j + 1 ∧ (ds ++ [(⟨y.to, y.q.x, a2, c2⟩ : Yq)]).map ot = (qs.take (j + 1)).map ot ∧ (∀ z ∈ ds ++ [(⟨y.to, y.q.x, a2, c2⟩ : Yq)], OwnsJ W3 z.q.sl z.q.x.args ∧ Fresh w z.q.sl) ∧ W3.heap[w.heap.size]? = some (.cells (CY ((ds ++ [⟨y.to, y.q.x, a2, c2⟩]) ++ List.replicate (n - (j + 1)) zy)).flatten.toArray 130 (0, 0)) ∧ Kept [] w W3) := by
    refine ⟨by simp [hdl], ?_, fun z hz => ?_, ?_, k03⟩
    ·rw [List.take_add_one, HQ.out, List.map_append, List.map_append, hdm]
     rfl
    ·have hz' : OwnsJ w2 z.q.sl z.q.x.args ∧ Fresh w z.q.sl := by
      rcases List.mem_append.1 hz with h | h
      ·exact ⟨(hda z h).1.kept k2 (by simp), (hda z h).2⟩
      ·simp at h; subst h; exact ⟨hO2, fun g hg => by have := hf2 g hg; have := kk.size; omega⟩
     exact ⟨hz'.1.kept k3 (fun g hg hm => by simp at hm; subst hm; exact ownsJ_ne hz'.1 hb2 (by decide) hg), hz'.2⟩
    ·rw [List.append_assoc]; exact h3
   clear d0 d1 d2 d3 d4 hcell hfz h3 hfs hrep hdl hdm hda hdb kk hb2 k03
   go_wp2_with fail
   go_roundw
   case rel => exact ⟨j + 1, _, by go_num, by omega, HR⟩
   case measure => simp [intOf]; omega
  ·obtain rfl : j = n := by omega
   obtain ⟨hdl, hdm, hda, hdb, kk⟩ := hH.out
   go_wp2_with fail
   go_ret
   rw [Nat.sub_self, List.replicate_zero, List.append_nil] at hdb
   rw [List.take_of_length_le (by have := HN.out; omega)] at hdm
   exact ⟨_, rfl, ds, hdm, ⟨ownsR_block hdb (CY_wide ds) (by rw [CY_length, hdl]) (by unfold maxLen; omega), fun q hq => (hda q hq).1, fun g hg => by simp [Value.ownBlock] at hg; omega, fun q hq => (hda q hq).2⟩, kk⟩
end
end Go.Proofs.YtngnenbidpojeaaGreatDoor
