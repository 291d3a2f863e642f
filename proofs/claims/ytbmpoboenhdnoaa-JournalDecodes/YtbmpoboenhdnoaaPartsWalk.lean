/-
  JournalParts: at once, and event by event.
-/
import Derived.Test.YtbmpoboenhdnoaaEc
import Derived.Test.YtbmpoboenhdnoaaEi
import Derived.Test.YtbmpoboenhdnoaaStateWalk
namespace Go.Proofs.Ytbmpoboenhdnoaa
set_option maxRecDepth 100000
open Go.RowKit
set_option linter.unusedVariables false
theorem str52 (v : Value) (l : List UInt8) (W : World) (h : Reads W v l) : (convert 52 9 v).run Try.prog W = .ok (.string ⟨l.toArray⟩) W := string_of 52 5 Try.underlying52 9 Try.underlying5 Try.underlying9 v l W h
theorem run_cutLH {T e : TypeId} {k b : Nat} {z : Value} (R : RowT T e k b z) (W : World) (a : Option Addr) (n c i j : Nat) (hi : i ≤ j) (hj : j ≤ c) : (Instr.slice T (.slice a n c) (some (.int .i64 (i : Int))) (some (.int .i64 (j : Int))) none).run Try.prog W = .ok (.slice (cutA a c i k) (j - i) (c - i)) W := by
  rw [run_slice_lh W T a n c (by rw [R.elem]; exact R.under) .i64 .i64 i j (by omega) (by omega) (by omega), R.elem, R.size]
  simp [Result.andThen, sliced, cutA]
/-- Events whose registers are made good. -/
def goodE (l : List Ep) : List Ev := l.map fun y => ⟨regOf y.1, y.2⟩
theorem goodE_length (l : List Ep) : (goodE l).length = l.length := by simp [goodE]
theorem goodE_reg {l : List Ep} : ∀ e ∈ goodE l, e.r ≤ 7 := fun e he => by
  obtain ⟨y, _, rfl⟩ := List.mem_map.1 he
  have := regOf_lt y.1
  show regOf y.1 ≤ 7
  omega
theorem goodE_64 {l : List Ep} (h : ∀ e ∈ l, E64 e) : ∀ e ∈ (goodE l).map ofE, E64 e := fun e he => by
  obtain ⟨x, hx, rfl⟩ := List.mem_map.1 he
  obtain ⟨y, hy, rfl⟩ := List.mem_map.1 hx
  have := regOf_lt y.1
  refine ⟨?_, (h y hy).2⟩
  show I64 (regOf y.1 : Int)
  unfold I64
  omega
theorem goodE_take {l : List Ep} {k : Nat} {y : Ep} (h : l[k]? = some y) : (goodE (l.take (k + 1))).map ofE = (goodE (l.take k)).map ofE ++ [((regOf y.1 : Int), y.2)] := by
  rw [List.take_add_one, h]
  simp [goodE, ofE]
theorem add_of (j : Jn) {G : List Ev} (h : ∀ e ∈ G, e.r ≤ 7) : addC (G.map ofE) = 0 ∧ addR j (G.map ofE) = addA j G := by
  have ha : (G.map ofE).any badE = false := by
    rw [List.any_eq_false]
    intro x hx
    obtain ⟨e, he, rfl⟩ := List.mem_map.1 hx
    have h7 := h e he
    have hb : badE (ofE e) = false := by
      show (decide ((e.r : Int) < 0) || decide (8 ≤ (e.r : Int))) = false
      rw [decide_eq_false (by omega), decide_eq_false (by omega)]
      rfl
    rw [hb]
    simp
  unfold addC addR
  rw [if_neg (by rw [ha]; simp), if_neg (by rw [ha]; simp), List.map_map]
  have : toE ∘ ofE = id := funext toE_ofE
  rw [this, List.map_id]
  exact ⟨rfl, rfl⟩
theorem one_enc {w0 w : World} {p : Nat} {j : Jn} (T : One w0 w p j) : Calls Try.prog 21 #[.pointer (some ⟨p, 0, none⟩)] w fun e w' => NewB w (encJn j) e w' := encode21 T.isJ T.good
/-- Two journals of the program's, and a row of events beside them. -/
structure Par (w0 w : World) (p q : Nat) (i j : Jn) (u : Value) (L : List Ep) : Prop where
  a : One w0 w p i
  b : One w0 w q j
  ne : p ≠ q
  row : OwnsR 47 2 w u (CE L)
section
variable {w0 w w' : World} {p q : Nat} {i j : Jn} {u : Value} {L : List Ep}
theorem Par.kept0 (T : Par w0 w p q i j u L) (k : Kept [] w w') : Par w0 w' p q i j u L := ⟨T.a.kept0 k, T.b.kept0 k, T.ne, T.row.kept k (by simp)⟩
theorem Par.goB (T : Par w0 w p q i j u L) {j' : Jn} (h : IsJ w' q j') (gd : GoodJ j') (k : Kept [q] w w') : Par w0 w' p q i j' u L :=
  ⟨⟨T.a.isJ.kept k (by simpa using T.ne), T.a.hp, T.a.good, (T.b.go h gd k).kept⟩, T.b.go h gd k, T.ne, T.row.kept k (fun g hg hm => by
    simp at hm
    subst hm
    exact ownsR_ne T.row T.b.isJ.isP.box (by decide) hg)⟩
theorem Par.goA (T : Par w0 w p q i j u L) {i' : Jn} (h : IsJ w' p i') (gd : GoodJ i') (k : Kept [p] w w') : Par w0 w' p q i' j u L :=
  ⟨T.a.go h gd k, ⟨T.b.isJ.kept k (by simpa using T.ne.symm), T.b.hp, T.b.good, (T.a.go h gd k).kept⟩, T.ne, T.row.kept k (fun g hg hm => by
    simp at hm
    subst hm
    exact ownsR_ne T.row T.a.isJ.isP.box (by decide) hg)⟩
theorem par_addA (T : Par w0 w p q i j u L) {v : Value} {l : List Ep} (hO : OwnsR 34 2 w v (CE l)) (h6 : ∀ e ∈ l, E64 e) (hl : l.length ≤ 1000000) (hv : i.ver + l.length < 18446744073709551616) : Calls Try.prog 12 #[.pointer (some ⟨p, 0, none⟩), v] w fun e w' => e = .returned (Iv (addC l)) ∧ Par w0 w' p q (addR i l) j u L := by
  refine (add12 T.a.isJ T.a.good.reg (T.a.isJ.rowKept hO) hl hv).mono ?_
  rintro e w1 ⟨rfl, h, k⟩
  exact ⟨rfl, T.goA h (T.a.good.addR h6 hv) k⟩
theorem par_addB (T : Par w0 w p q i j u L) {v : Value} {l : List Ep} (hO : OwnsR 34 2 w v (CE l)) (h6 : ∀ e ∈ l, E64 e) (hl : l.length ≤ 1000000) (hv : j.ver + l.length < 18446744073709551616) : Calls Try.prog 12 #[.pointer (some ⟨q, 0, none⟩), v] w fun e w' => e = .returned (Iv (addC l)) ∧ Par w0 w' p q i (addR j l) u L := by
  refine (add12 T.b.isJ T.b.good.reg (T.b.isJ.rowKept hO) hl hv).mono ?_
  rintro e w1 ⟨rfl, h, k⟩
  exact ⟨rfl, T.goB h (T.b.good.addR h6 hv) k⟩
end
section
variable {w : World}
set_option maxHeartbeats 4000000 in
theorem parts_walk {v : Value} {l : List Ep} (hI : EvsIn w v l) : Calls Try.prog 6 #[v] w fun e w' => e = .returned (.bool true) ∧ Kept [] w w' := by
  obtain ⟨a, c, rfl, hc1, hc2⟩ := rowE_form hI.1
  have HI := Hid.mk hI
  clear hI
  go_enter Try.func6, Try.ntmps6
  go_wp2_with fail
  refine (awake9 (w := w)).mono ?_
  rintro e w1 ⟨rfl, k1⟩
  have HK1 := Hid.mk k1
  clear k1
  by_cases h3 : 300 < l.length
  · have h3I : (300 : Int) < (l.length : Int) := by omega
    go_wp2_with fail
    refine (awake9 (w := w1)).mono ?_
    rintro e w2 ⟨rfl, k2⟩
    go_wp2_with fail
    go_ret
    exact ⟨rfl, HK1.out.trans k2 (by simp)⟩
  · have h3I : ¬ (300 : Int) < (l.length : Int) := by omega
    generalize hn : l.length = n at *
    have HN := Hid.mk hn
    clear hn
    go_wp2_with fail
    go_loopw [19, 3] (fun i u wr => ∃ k : Nat, i = .int .i64 (k : Int) ∧ k ≤ n ∧ Hid (OutE 47 w wr u ((goodE (l.take k)).map ofE))) (fun i _ _ => n - (intOf i).toNat)
    case atStart => exact ⟨0, rfl, by omega, Hid.mk ⟨OwnsR.nil _ _ _, fresh_nil _ _, HK1.out⟩⟩
    case round =>
      obtain ⟨k, rfl, hk, H⟩ := hrel
      obtain ⟨a', c', rfl⟩ := H.out.form
      have htk : ((goodE (l.take k)).map ofE).length = k := by rw [List.length_map, goodE_length, List.length_take]; have := HN.out; omega
      rw [htk] at H ⊢
      by_cases hlt : k < n
      · obtain ⟨y, hy⟩ : ∃ y, l[k]? = some y := ⟨_, List.getElem?_eq_getElem (by have := HN.out; omega)⟩
        obtain ⟨b, o, rfl, d0, d1⟩ := rowE_at (ReadsR.kept HI.out.1 H.out.2.2 (by simp)) hy
        have hjI : (k : Int) < (n : Int) := by omega
        have HE := Hid.mk (goodE_take hy)
        have q1 := regOf_eq y.1
        have hR8 := regOf_lt y.1
        generalize regOf y.1 = R at *
        have q2 : wrap64 (R : Int) = (R : Int) := by unfold wrap64; omega
        obtain ⟨y1, y2⟩ := y
        dsimp only at *
        have kA := (Kept.refl [] wr).alloc (.cells #[.int .i64 (R : Int), .int .i64 y2] 47)
        have hzA : (wr.alloc (.cells #[.int .i64 (R : Int), .int .i64 y2] 47)).heap.size = wr.heap.size + 1 := by simp
        have H1 : OutE 47 w (wr.alloc (.cells #[.int .i64 (R : Int), .int .i64 y2] 47)) (.slice a' k c') ((goodE (l.take k)).map ofE) := ⟨H.out.1.kept kA (by simp), H.out.2.1, H.out.2.2.trans kA (by simp)⟩
        obtain ⟨ad2, c2, w2, hrun, hO2⟩ := H1.more rt30 (by rw [htk]; omega) ((R : Int), y2)
        rw [htk, hzA] at hrun
        rw [htk] at hO2
        have HR2 : Hid (OutE 47 w w2 (.slice ad2 (k + 1) c2) ((goodE (l.take (k + 1))).map ofE)) := by rw [HE.out]; exact hO2
        clear hy H H1 hO2 htk kA hzA HE
        go_wp2_with (at_builtin; refine wpList_append_run 30 30 (.tmp 32) (.tmp 34) rfl (by rfl) _ _ rfl rfl _ _ hrun ?_)
        go_roundw
        case rel => exact ⟨k + 1, by go_num, by omega, HR2⟩
        case measure => simp [intOf]; omega
      · obtain rfl : k = n := by omega
        have hO := H.out
        rw [List.take_of_length_le (by rw [HN.out]; exact Nat.le_refl _)] at hO htk
        have HO := Hid.mk hO
        have h6 : Hid (∀ e ∈ (goodE l).map ofE, E64 e) := Hid.mk (goodE_64 HI.out.2)
        have hcc : k ≤ c' ∧ c' ≤ 9223372036854775807 := by
          obtain ⟨a1, c1, e1, q1, q2⟩ := rowE_form hO.row
          injection e1 with _ e2 e3
          rw [htk] at q1
          rw [e3]
          exact ⟨q1, q2⟩
        obtain ⟨hk1, hk2⟩ := hcc
        clear H hO
        go_wp2_with fail
        refine (new11 (w := wr)).mono ?_
        rintro e w3 ⟨p, rfl, hJ3, k3, hp3⟩
        have HJ3 : Hid (IsJ w3 p newJ ∧ Kept [] wr w3 ∧ wr.heap.size ≤ p) := ⟨hJ3, k3, hp3⟩
        clear hJ3 k3 hp3
        go_wp2_with fail
        refine (new11 (w := w3)).mono ?_
        rintro e w4 ⟨q, rfl, hJ4, k4, hq4⟩
        have HP : Hid (Par w w4 p q newJ newJ (.slice a' k c') ((goodE l).map ofE)) := by
          obtain ⟨h1, h2, h3⟩ := HJ3.out
          have kk := HO.out.2.2.trans (h2.trans k4 (by simp)) (by simp)
          have hs := HO.out.2.2.size
          have hs2 := h2.size
          have hl1 := h1.lt
          exact ⟨⟨h1.kept0 k4, by omega, GoodJ.new, kk⟩, ⟨hJ4, by omega, GoodJ.new, kk⟩, by omega, (HO.out.1.kept (h2.trans k4 (by simp)) (by simp))⟩
        clear hJ4 k4 hq4 HJ3
        have hgl : (goodE l).length = k := by rw [goodE_length]; exact HN.out
        have HTh := Hid.mk (theirs13 (HP.out.row.reads (CE_wide _)) (by rw [List.length_map, hgl]; omega))
        go_wp2_with fail
        refine HTh.out.mono ?_
        rintro e w5 ⟨u5, rfl, ho5⟩
        have HA := Hid.mk (par_addA (HP.out.kept0 ho5.2.2) ho5.1 h6.out (by rw [List.length_map, hgl]; omega) (by rw [List.length_map, hgl]; show 0 + k < _; omega))
        obtain ⟨ea, eb⟩ := add_of newJ (G := goodE l) goodE_reg
        rw [ea, eb] at HA
        clear ho5 HTh HP ea eb
        go_wp2_with fail
        refine HA.out.mono ?_
        rintro e w6 ⟨rfl, T6⟩
        have HT6 := Hid.mk T6
        clear T6 HA HO
        go_wp2_with fail
        go_loopw [45] (fun i wr => ∃ m : Nat, i = .int .i64 (m : Int) ∧ m ≤ k ∧ Hid (Par w wr p q (addA newJ (goodE l)) (addA newJ ((goodE l).take m)) (.slice a' k c') ((goodE l).map ofE))) (fun i _ => k - (intOf i).toNat)
        case atStart => exact ⟨0, rfl, by omega, HT6⟩
        case round =>
          obtain ⟨m, rfl, hm, H⟩ := hrel
          by_cases hlt2 : m < k
          · obtain ⟨y, hy⟩ : ∃ y, (goodE l)[m]? = some y := ⟨_, List.getElem?_eq_getElem (by omega)⟩
            have hmI : (m : Int) < (k : Int) := by omega
            have hcut := fun W => run_cutLH rt30 W a' k c' m (m + 1) (by omega) (by omega)
            have hr := ReadsR.cut (k := 2) (i := m) (j := m + 1) (m := c') (by rw [CE_length, List.length_map]; exact hgl.symm) (H.out.row.reads (CE_wide _)) (by omega) (by omega) (by omega) (Nat.le_refl _)
            have hcr : ((CE ((goodE l).map ofE)).take (m + 1)).drop m = CE [ofE y] := by
              rw [List.take_add_one]
              simp only [CE, List.getElem?_map, hy, Option.map_some, Option.toList_some]
              rw [List.drop_append_of_le_length (by rw [List.length_take, List.length_map, List.length_map, hgl]; omega), List.drop_eq_nil_of_le (by rw [List.length_take, List.length_map, List.length_map, hgl]; omega)]
              rfl
            rw [hcr] at hr
            have e1 : m + 1 - m = 1 := by omega
            rw [e1] at hr
            simp only [e1] at hcut
            have hcut2 : ∀ W : World, (Instr.slice 30 (.slice a' k c') (some (.int .i64 (m : Int))) (some (.int .i64 ((m : Int) + 1))) none).run Try.prog W = .ok (.slice (cutA a' c' m 2) 1 (c' - m)) W := hcut
            have HTh := Hid.mk (theirs13 hr (by simp))
            generalize cutA a' c' m 2 = a7 at *
            generalize c' - m = c7 at *
            have f0 : (0 : Int) ≤ (m : Int) := by omega
            have f1 : (m : Int) + 1 ≤ (c' : Int) := by omega
            have HY := Hid.mk (goodE_reg y (List.mem_of_getElem? hy))
            have HE : Hid (addA newJ ((goodE l).take (m + 1)) = addE (addA newJ ((goodE l).take m)) y) := Hid.mk (by
              rw [List.take_add_one, hy, addA_append]
              rfl)
            have H6Y : Hid (E64 (ofE y)) := h6.out _ (List.mem_map.2 ⟨y, List.mem_of_getElem? hy, rfl⟩)
            clear hy hr hcr hcut
            go_wp2_with fail
            refine HTh.out.mono ?_
            rintro e w7 ⟨u7, rfl, ho7⟩
            have hver : (addA newJ ((goodE l).take m)).ver ≤ k := by
              rw [ver_addA, List.length_take]
              show 0 + _ ≤ k
              omega
            have HA := Hid.mk (par_addB (H.out.kept0 ho7.2.2) ho7.1 (by simpa using H6Y.out) (by simp) (by simp; omega))
            obtain ⟨ea, eb⟩ := add_of (addA newJ ((goodE l).take m)) (G := [y]) (by simpa using HY.out)
            rw [show [ofE y] = [y].map ofE from rfl, ea, eb] at HA
            have hee : addA (addA newJ ((goodE l).take m)) [y] = addA newJ ((goodE l).take (m + 1)) := HE.out.symm
            rw [hee] at HA
            clear ho7 HTh ea eb hee H
            go_wp2_with fail
            refine HA.out.mono ?_
            rintro e w8 ⟨rfl, T8⟩
            have HT8 := Hid.mk T8
            clear T8 HA
            go_wp2_with fail
            go_roundw
            case rel => exact ⟨m + 1, by go_num, by omega, HT8⟩
            case measure => simp [intOf]; omega
          · obtain rfl : m = k := by omega
            have HT : Hid (Par w wr p q (addA newJ (goodE l)) (addA newJ (goodE l)) (.slice a' m c') ((goodE l).map ofE)) := by
              have := H.out
              rwa [List.take_of_length_le (by rw [hgl]; exact Nat.le_refl _)] at this
            clear H
            generalize addA newJ (goodE l) = J at *
            have hs8 : (stJ J).length = 8 := by unfold stJ; rw [doA_length]; exact HT.out.a.isJ.isP.a8
            obtain ⟨a0, a1, a2, a3, a4, a5, a6, a7, hA⟩ := eight hs8
            have HC1 : Hid (∀ W, Kept [] wr W → Calls Try.prog 18 #[.pointer (some ⟨p, 0, none⟩)] W fun e w' => e = .returned (.agg #[Iv a0, Iv a1, Iv a2, Iv a3, Iv a4, Iv a5, Iv a6, Iv a7]) ∧ Kept [] W w') := fun W k => (one_state (HT.out.kept0 k).a).mono fun e w' h => ⟨by rw [h.1, hA]; rfl, h.2.2⟩
            have HC2 : Hid (∀ W, Kept [] wr W → Calls Try.prog 18 #[.pointer (some ⟨q, 0, none⟩)] W fun e w' => e = .returned (.agg #[Iv a0, Iv a1, Iv a2, Iv a3, Iv a4, Iv a5, Iv a6, Iv a7]) ∧ Kept [] W w') := fun W k => (one_state (HT.out.kept0 k).b).mono fun e w' h => ⟨by rw [h.1, hA]; rfl, h.2.2⟩
            have heq := equal29 a0 a1 a2 a3 a4 a5 a6 a7
            have HE1 : Hid (∀ W, Kept [] wr W → Calls Try.prog 21 #[.pointer (some ⟨p, 0, none⟩)] W fun e w' => NewB W (encJn J) e w') := fun W k => one_enc (HT.out.kept0 k).a
            have HE2 : Hid (∀ W, Kept [] wr W → Calls Try.prog 21 #[.pointer (some ⟨q, 0, none⟩)] W fun e w' => NewB W (encJn J) e w') := fun W k => one_enc (HT.out.kept0 k).b
            have HKW := Hid.mk HT.out.a.kept
            clear hA hs8 HT
            generalize encJn J = X at *
            have K0 := Hid.mk (Kept.refl [] wr).drew
            go_wp2_with fail
            go_region_held (fun _ => True) (trivial) (first | (go_at_call 18; (with_reducible refine (HC2.out _ K3.out).mono ?_); rintro e W4 ⟨rfl, k4⟩; have K4 := Hid.mk (K3.out.trans k4 (by simp)); clear k4) | (go_at_call 18; (with_reducible refine (HC1.out _ K2.out).mono ?_); rintro e W3 ⟨rfl, k3⟩; have K3 := Hid.mk (K2.out.trans k3 (by simp)); clear k3) | (go_at_call 21; (with_reducible refine (HE2.out _ K1.out).mono ?_); rintro e W2 ⟨v2, rfl, hO2, k2, -⟩; have K2 := Hid.mk (K1.out.trans k2 (by simp)); have hs2 := str52 _ _ _ hO2.reads; have hs12 := str52 _ _ _ (hO1.out.reads.kept k2 (by simp)); clear k2 hO2) | (go_at_call 21; (with_reducible refine (HE1.out _ K0.out).mono ?_); rintro e W1 ⟨v1, rfl, ho1, k1, -⟩; have K1 := Hid.mk (K0.out.trans k1 (by simp)); have hO1 := Hid.mk ho1; have hs1 := str52 _ _ _ ho1.reads; clear k1 ho1))
            all_goals
              clear hs1 hs2 hs12 HC1 HC2 HE1 HE2 heq
              go_wp2_with fail
              go_ret
              exact ⟨rfl, HKW.out.trans K4.out (by simp)⟩
end
end Go.Proofs.Ytbmpoboenhdnoaa
