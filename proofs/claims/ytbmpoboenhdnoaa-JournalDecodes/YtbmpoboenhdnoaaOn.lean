/-
  theirs; one journal of the program's since a world; awake.
-/
import Derived.Test.YtbmpoboenhdnoaaJe
import Derived.Test.YtbmpoboenhdnoaaOp
namespace Go.Proofs.Ytbmpoboenhdnoaa
set_option maxRecDepth 100000
open Go.RowKit
set_option linter.unusedVariables false
theorem Kept.two {S T : List Nat} {a b c : World} (h : Kept [] a b) (k : Kept T b c) (hT : ∀ x ∈ T, a.heap.size ≤ x) : Kept S a c := (h.trans k (fun x hx => .inr (hT x hx))).mono (by simp)
theorem cellsE_one (y : Ep) : ∀ u ∈ cellsE y, u.oneCell' = true := fun x hx => by
  simp [cellsE] at hx
  rcases hx with rfl | rfl <;> rfl
/-- What is laid out so far, in new memory: events of the type t. -/
def OutE (t : TypeId) (w wr : World) (u : Value) (L : List Ep) : Prop := OwnsR t 2 wr u (CE L) ∧ Fresh w u ∧ Kept [] w wr
theorem OutE.nil (t : TypeId) (w : World) : OutE t w w (.slice none 0 0) [] := ⟨OwnsR.nil _ _ _, fresh_nil _ _, Kept.refl [] w⟩
theorem OutE.form {t : TypeId} {w wr : World} {u : Value} {L : List Ep} (h : OutE t w wr u L) : ∃ a c, u = .slice a L.length c := by
  obtain ⟨a, c, e, -⟩ := h.1.form
  rw [CE_length] at e
  exact ⟨a, c, e⟩
theorem OutE.row {t : TypeId} {w wr : World} {u : Value} {L : List Ep} (h : OutE t w wr u L) : ReadsR 2 wr u (CE L) := h.1.reads (CE_wide L)
theorem OutE.more {T t : TypeId} {b : Nat} {z : Value} (R : RowT T t 2 b z) {w wr : World} {u : Value} {L : List Ep} (h : OutE t w wr u L) (hl : L.length ≤ 900000) (y : Ep) : ∃ ad c w2, (Builtin.append_ #[T, T] T #[u, .slice (some ⟨wr.heap.size, 0, none⟩) 1 1]).run Try.prog (wr.alloc (.cells #[Iv y.1, Iv y.2] t)) = .ok (.slice ad (L.length + 1) c) w2 ∧ OutE t w w2 (.slice ad (L.length + 1) c) (L ++ [y]) := by
  obtain ⟨h1, h2, h3⟩ := h
  obtain ⟨ad, c, w2, hrun, hO, k2, hN⟩ := append_rowR R h1 (cellsE y) rfl (cellsE_one y) (by rw [CE_length]; exact hl) t (0, 0) T
  rw [CE_length] at *
  refine ⟨ad, c, w2, hrun, ?_, fun g hg => ?_, h3.two k2 (fun x hx => by rw [Option.mem_toList] at hx; exact h2 x hx)⟩
  · rw [CE_append]; exact hO
  · rcases hN g hg with h | h
    · exact h2 g h
    · exact Nat.le_trans h3.size h
section
variable {w : World}
set_option maxHeartbeats 1000000 in
theorem theirs13 {v : Value} {l : List Ep} (hR : ReadsR 2 w v (CE l)) (hl : l.length ≤ 500000) : Calls Try.prog 13 #[v] w fun e w' => ∃ u, e = .returned u ∧ OutE 34 w w' u l := by
  obtain ⟨a, c, rfl, hc1, hc2⟩ := rowE_form hR
  have HR := Hid.mk hR
  clear hR
  generalize hn : l.length = n at *
  have HN := Hid.mk hn
  clear hn
  go_enter Try.func13, Try.ntmps13
  go_wp2_with fail
  go_loopw [7, 3] (fun i u wr => ∃ k : Nat, i = .int .i64 (k : Int) ∧ k ≤ n ∧ Hid (OutE 34 w wr u (l.take k))) (fun i _ _ => n - (intOf i).toNat)
  case atStart => exact ⟨0, rfl, by omega, Hid.mk (OutE.nil 34 w)⟩
  case round =>
    obtain ⟨k, rfl, hk, H⟩ := hrel
    obtain ⟨a', c', rfl⟩ := H.out.form
    have htk : (l.take k).length = k := by rw [List.length_take]; have := HN.out; omega
    rw [htk] at H ⊢
    by_cases hlt : k < n
    · obtain ⟨y, hy⟩ : ∃ y, l[k]? = some y := ⟨_, List.getElem?_eq_getElem (by have := HN.out; omega)⟩
      obtain ⟨b, o, rfl, d0, d1⟩ := rowE_at (ReadsR.kept HR.out H.out.2.2 (by simp)) hy
      have hjI : (k : Int) < (n : Int) := by omega
      obtain ⟨ad2, c2, w2, hrun, hO2⟩ := H.out.more rt40 (by omega) y
      rw [htk] at hrun hO2
      have HR2 : Hid (OutE 34 w w2 (.slice ad2 (k + 1) c2) (l.take (k + 1))) := by rw [List.take_add_one, hy]; exact hO2
      clear hy H hO2 htk
      go_wp2_with (at_builtin; refine wpList_append_run 40 40 (.tmp 10) (.tmp 15) rfl (by rfl) _ _ rfl rfl _ _ hrun ?_)
      go_roundw
      case rel => exact ⟨k + 1, by go_num, by omega, HR2⟩
      case measure => simp [intOf]; omega
    · obtain rfl : k = n := by omega
      have HF : Hid (OutE 34 w wr (.slice a' k c') l) := by
        have := H.out
        rwa [List.take_of_length_le (by rw [HN.out]; exact Nat.le_refl _)] at this
      clear H
      go_wp2_with fail
      go_ret
      exact ⟨_, rfl, HF.out⟩
end
theorem index29 {A : List Int} {i : Nat} {x : Int} (ha : A.length = 8) (h : A[i]? = some x) (W : World) : (Instr.index 29 (.agg (BI A).toArray) (.int .i64 (i : Int))).run Try.prog W = .ok (Iv x) W := by
  have hs : (sizeOf 2).run Try.prog W = .ok 1 W := by kernel_rfl
  have hc : (BI A)[i]? = some (Iv x) := BI_get h
  simp [Instr.index, run_underlying Try.underlying29, asIntOf, hs, part, go_sem, hc]
  intro h8
  have := get_lt h
  omega
/-- The program's journal at p, new since w0, is j; nothing elder was turned. -/
structure One (w0 w : World) (p : Nat) (j : Jn) : Prop where
  isJ : IsJ w p j
  hp : w0.heap.size ≤ p
  good : GoodJ j
  kept : Kept [] w0 w
theorem toE_ok {e : Ep} (h : badE e = false) (h6 : E64 e) : (toE e).r ≤ 7 ∧ I64 (toE e).v := by
  have := badE_no h
  exact ⟨by show e.1.toNat ≤ 7; omega, h6.2⟩
theorem GoodJ.addR {j : Jn} (h : GoodJ j) {l : List Ep} (h6 : ∀ e ∈ l, E64 e) (hv : j.ver + l.length < 18446744073709551616) : GoodJ (addR j l) := by
  unfold Ytbmpoboenhdnoaa.addR
  split
  · exact h
  · rename_i ha
    refine GoodJ.addA h (fun e he => ?_) (by rw [List.length_map]; exact hv)
    obtain ⟨x, hx, rfl⟩ := List.mem_map.1 he
    refine toE_ok ?_ (h6 x hx)
    cases hb : badE x with
    | false => rfl
    | true => exact absurd (List.any_eq_true.2 ⟨x, hx, hb⟩) ha
theorem addR_ver (j : Jn) (l : List Ep) : (addR j l).ver ≤ j.ver + l.length := by
  unfold addR
  split
  · omega
  · rw [ver_addA, List.length_map]; exact Nat.le_refl _
section
variable {w0 w w' : World} {p : Nat} {j : Jn}
theorem One.kept0 (T : One w0 w p j) (k : Kept [] w w') : One w0 w' p j := ⟨T.isJ.kept0 k, T.hp, T.good, T.kept.trans k (by simp)⟩
theorem One.go (T : One w0 w p j) {j' : Jn} (h : IsJ w' p j') (g : GoodJ j') (k : Kept [p] w w') : One w0 w' p j' := ⟨h, T.hp, g, T.kept.trans k (fun x hx => by simp at hx; subst hx; exact .inr T.hp)⟩
theorem one_new (k : Kept [] w0 w) : Calls Try.prog 11 #[] w fun e w' => ∃ p, e = .returned (.pointer (some ⟨p, 0, none⟩)) ∧ One w0 w' p newJ := by
  refine new11.mono ?_
  rintro e w1 ⟨p, rfl, h, k1, hp⟩
  exact ⟨p, rfl, h, Nat.le_trans k.size hp, GoodJ.new, k.trans k1 (by simp)⟩
/-- A row of the program's events is none of a journal's memory. -/
theorem IsJ.rowKept (h : IsJ w p j) {v : Value} {l : List Ep} (hO : OwnsR 34 2 w v (CE l)) : ∀ W, Kept [p] w W → ReadsR 2 W v (CE l) := fun W k =>
  ReadsR.kept (hO.reads (CE_wide l)) k (fun g hg hm => by
    simp at hm
    subst hm
    exact ownsR_ne hO h.isP.box (by decide) hg)
theorem one_add (T : One w0 w p j) {v : Value} {l : List Ep} (hO : OwnsR 34 2 w v (CE l)) (h6 : ∀ e ∈ l, E64 e) (hl : l.length ≤ 1000000) (hv : j.ver + l.length < 18446744073709551616) : Calls Try.prog 12 #[.pointer (some ⟨p, 0, none⟩), v] w fun e w' => e = .returned (Iv (addC l)) ∧ One w0 w' p (addR j l) := by
  refine (add12 T.isJ T.good.reg (T.isJ.rowKept hO) hl hv).mono ?_
  rintro e w1 ⟨rfl, h, k⟩
  exact ⟨rfl, T.go h (T.good.addR h6 hv) k⟩
theorem one_state (T : One w0 w p j) : Calls Try.prog 18 #[.pointer (some ⟨p, 0, none⟩)] w fun e w' => e = .returned (.agg (BI (stJ j)).toArray) ∧ One w0 w' p j ∧ Kept [] w w' := by
  refine (state18 T.isJ T.good.reg).mono ?_
  rintro e w1 ⟨rfl, k⟩
  exact ⟨rfl, T.kept0 k, k⟩
theorem one_version (T : One w0 w p j) : Calls Try.prog 19 #[.pointer (some ⟨p, 0, none⟩)] w fun e w' => e = .returned (Uv j.ver) ∧ w = w' := version19 T.isJ.isP
theorem one_events (T : One w0 w p j) : Calls Try.prog 20 #[.pointer (some ⟨p, 0, none⟩)] w fun e w' => ∃ v, e = .returned v ∧ OwnsR 34 2 w' v (CE (j.ev.map ofE)) ∧ Fresh w v ∧ One w0 w' p j ∧ Kept [] w w' := by
  refine (events20 T.isJ).mono ?_
  rintro e w1 ⟨v, rfl, h1, h2, k⟩
  exact ⟨v, rfl, h1, h2, T.kept0 k, k⟩
theorem one_fold (T : One w0 w p j) : Calls Try.prog 16 #[.pointer (some ⟨p, 0, none⟩)] w fun e w' => e = .returned (Iv (j.ev.length : Int)) ∧ One w0 w' p (foldJ j) := by
  refine (fold16 T.isJ T.good.reg).mono ?_
  rintro e w1 ⟨rfl, h, k⟩
  exact ⟨rfl, T.go h T.good.fold k⟩
/-- A row of one event, just made. -/
theorem row1 (w : World) (y : Ep) : OwnsR 34 2 (w.alloc (.cells #[Iv y.1, Iv y.2] 34)) (.slice (some ⟨w.heap.size, 0, none⟩) 1 1) (CE [y]) :=
  ownsR_block (rs := CE [y]) (heap_alloc_new w _) (CE_wide _) rfl (by decide)
set_option maxHeartbeats 1000000 in
theorem awake9 : Calls Try.prog 9 #[] w fun e w' => e = .returned (.bool true) ∧ Kept [] w w' := by
  go_enter Try.func9, Try.ntmps9
  go_wp2_with fail
  refine (one_new (w0 := w) (Kept.refl [] w)).mono ?_
  rintro e w1 ⟨p, rfl, T1⟩
  have HS := Hid.mk (one_add (T1.kept0 ((Kept.refl [] w1).alloc (.cells #[Iv 1, Iv 5] 34))) (row1 w1 (1, 5)) (by simp [E64, I64]) (by simp) (by simp [newJ]))
  have e1 : addC [(1, 5)] = 0 := by decide
  have e2 : addR newJ [(1, 5)] = ⟨List.replicate 8 0, [⟨1, 5⟩], 1⟩ := rfl
  rw [e1, e2] at HS
  clear e1 e2 T1
  go_wp2_with fail
  refine HS.out.mono ?_
  rintro e w2 ⟨rfl, T2⟩
  have HV : Hid (Calls Try.prog 18 #[.pointer (some ⟨p, 0, none⟩)] w2 fun e w' => e = .returned (.agg #[Iv 0, Iv 5, Iv 0, Iv 0, Iv 0, Iv 0, Iv 0, Iv 0]) ∧ One w w' p ⟨List.replicate 8 0, [⟨1, 5⟩], 1⟩ ∧ Kept [] w2 w') := one_state T2
  clear T2 HS
  go_wp2_with fail
  refine HV.out.mono ?_
  rintro e w3 ⟨rfl, T3, -⟩
  have HV2 : Hid (Calls Try.prog 19 #[.pointer (some ⟨p, 0, none⟩)] w3 fun e w' => e = .returned (.int .u64 1) ∧ w3 = w') := one_version T3
  have k := T3.kept
  have hix : ∀ W : World, (Instr.index 29 (.agg #[Iv 0, Iv 5, Iv 0, Iv 0, Iv 0, Iv 0, Iv 0, Iv 0]) (.int .i64 1)).run Try.prog W = .ok (Iv 5) W := fun W => index29 (A := [0, 5, 0, 0, 0, 0, 0, 0]) (i := 1) rfl rfl W
  clear T3 HV
  go_wp2_with fail
  refine HV2.out.mono ?_
  rintro e w4 ⟨rfl, rfl⟩
  go_wp2_with fail
  go_ret
  exact ⟨rfl, k⟩
end
end Go.Proofs.Ytbmpoboenhdnoaa
