/-
  RemindCancels: the walk.
-/
import Derived.Test.YtelmppfacgdfbaaTw
namespace Go.Proofs.Ytelmppfacgdfbaa
set_option maxRecDepth 100000
open Go.RowKit Go.Shelf
set_option linter.unusedVariables false
theorem setQ_small {Q : List Rm} (h : Q.length < 64) (r : Rm) : setQ Q r = if errR r = 0 then setR Q r else Q := by
  unfold setQ setA
  by_cases he : errR r = 0
  · rw [if_pos he, if_pos]
    rw [if_neg (by simp [he]), if_neg (fun e => by have := e.2; omega)]
  · rw [if_neg he, if_neg]
    rw [if_pos he]
    exact he
theorem setQ_len {Q : List Rm} (g : GoodQ Q) (h : Q.length < 64) (r : Rm) : (setQ Q r).length ≤ Q.length + 1 := by
  rw [setQ_small h]
  split
  · have h1 : (setR Q r).length = (canR Q r.ac r.nm).length + 1 := by rw [setR, layR_length]
    have h2 : (canR Q r.ac r.nm).length ≤ Q.length := List.length_filter_le _ _
    omega
  · omega
theorem can_setQ_same {Q : List Rm} (h : Q.length < 64) {r : Rm} {ac nm : List UInt8} (he : r.ac = ac ∧ r.nm = nm) : canR (setQ Q r) ac nm = canR Q ac nm := by
  rw [setQ_small h]
  split
  · exact can_set_same he
  · rfl
theorem can_setQ_other {Q : List Rm} (g : GoodQ Q) (h : Q.length < 64) {r : Rm} {ac nm : List UInt8} (he : ¬ (r.ac = ac ∧ r.nm = nm)) : setQ (canR Q ac nm) r = canR (setQ Q r) ac nm := by
  have h2 : (canR Q ac nm).length ≤ Q.length := List.length_filter_le _ _
  rw [setQ_small h, setQ_small (by omega)]
  split
  · exact (can_set_other g he).symm
  · rfl
theorem has_can_self (Q : List Rm) (ac nm : List UInt8) : hasR (canR Q ac nm) ac nm = false := by
  cases hh : hasR (canR Q ac nm) ac nm with
  | false => rfl
  | true =>
    obtain ⟨x, hx, e⟩ := hasR_iff.1 hh
    exact absurd e (canR_mem.1 hx).2
theorem has_no {Q : List Rm} {ac nm : List UInt8} (h : hasR Q ac nm = false) : ∀ x ∈ Q, ¬ (x.ac = ac ∧ x.nm = nm) := fun x hx e => by
  rw [hasR_iff.2 ⟨x, hx, e⟩] at h
  cases h
theorem no_has {Q : List Rm} {ac nm : List UInt8} (h : ∀ x ∈ Q, ¬ (x.ac = ac ∧ x.nm = nm)) : hasR Q ac nm = false := by
  cases hh : hasR Q ac nm with
  | false => rfl
  | true =>
    obtain ⟨x, hx, e⟩ := hasR_iff.1 hh
    exact absurd e (h x hx)
theorem has_ser {Q : List Rm} (g : GoodQ Q) {ac nm : List UInt8} (h : hasR Q ac nm = false) (now : Int) : hasR (serQ Q now) ac nm = false := by
  have h' := has_no h
  cases Q with
  | nil => exact h
  | cons x Q =>
    rw [serQ]
    split
    · exact h
    · refine no_has fun y hy => ?_
      unfold serR at hy
      rw [canR_head g] at hy
      split at hy
      · rcases layR_mem.1 hy with rfl | hy
        · exact h' x (by simp)
        · exact h' y (by simp [hy])
      · exact h' y (by simp [hy])
theorem due_no {Q : List Rm} {ac nm : List UInt8} (h : hasR Q ac nm = false) (now : Int) (ho : (dueA Q now).2 = true) : ¬ ((dueA Q now).1.ac = ac ∧ (dueA Q now).1.nm = nm) := by
  have h' := has_no h
  cases Q with
  | nil => simp [dueA] at ho
  | cons x Q =>
    rw [dueA] at ho ⊢
    split at ho
    · cases ho
    · rename_i hx
      rw [if_neg hx]
      exact h' x (by simp)
section
variable {w : World}
set_option maxHeartbeats 4000000 in
theorem cancels_walk {v : Value} {l : List Rm} (hr : RemsIn w v l) (m : Nat) (now : Int) (hm : m < 256) (h3 : I64 now) : Calls Try.prog 8 #[v, .int .u8 (m : Int), Iv now] w fun e w' => e = .returned (.bool true) ∧ Kept [] w w' := by
  obtain ⟨hrow, h64⟩ := hr
  obtain ⟨a, c, rfl, hc1, hc2⟩ := rowR_form hrow
  obtain ⟨h3a, h3b⟩ := h3
  have HROW : Hid (∀ W, Kept [] w W → ReadsR 5 W (.slice a l.length c) (CR l)) := fun W k => hrow.kept k (by simp)
  have H64 := Hid.mk h64
  clear hrow h64
  generalize hn : l.length = n at *
  have HN := Hid.mk hn
  clear hn
  have HAW : Hid (∀ W, Calls Try.prog 9 #[] W fun e w' => e = .returned (.bool true) ∧ Kept [] W w') := fun W => awake9
  by_cases h0 : n = 0
  · have hbI : ((n : Int) == 0) = true := by simp; omega
    go_enter Try.func8, Try.ntmps8
    go_wp2_with fail
    refine (HAW.out _).mono ?_
    rintro e w1 ⟨rfl, k1⟩
    go_wp2_with fail
    refine (HAW.out _).mono ?_
    rintro e w2 ⟨rfl, k2⟩
    go_wp2_with fail
    go_ret
    exact ⟨rfl, k1.trans k2 (by simp)⟩
  · have hbI : ((n : Int) == 0) = false := by simp; omega
    by_cases hbig : 60 < n
    · have hbJ : (60 : Int) < (n : Int) := by omega
      go_enter Try.func8, Try.ntmps8
      go_wp2_with fail
      refine (HAW.out _).mono ?_
      rintro e w1 ⟨rfl, k1⟩
      go_wp2_with fail
      refine (HAW.out _).mono ?_
      rintro e w2 ⟨rfl, k2⟩
      go_wp2_with fail
      go_ret
      exact ⟨rfl, k1.trans k2 (by simp)⟩
    · have hbJ : ((60 : Int) < (n : Int)) = False := eq_false (by omega)
      go_enter Try.func8, Try.ntmps8
      go_wp2_with fail
      refine (HAW.out _).mono ?_
      rintro e w1 ⟨rfl, k1⟩
      go_wp2_with fail
      refine (one_new (w0 := w) k1).mono ?_
      rintro e w2 ⟨p, rfl, T2⟩
      have HT2 := Hid.mk (two_new T2.kept T2.isQ T2.hp)
      clear T2 k1 HAW
      obtain ⟨W3, e3, -⟩ := box1 w2 (.cells #[.slice none 0 0] 35)
      rw [e3] at HT2
      obtain ⟨N, hN, hN2⟩ : ∃ N : Nat, N < n ∧ m % n = N := ⟨m % n, Nat.mod_lt _ (by omega), rfl⟩
      have hNI : Int.tmod (m : Int) (n : Int) = (N : Int) := by rw [← hN2]; exact (Int.ofNat_tmod m n).symm
      obtain ⟨y, hy⟩ : ∃ y, l[N]? = some y := ⟨_, List.getElem?_eq_getElem (by have := HN.out; omega)⟩
      obtain ⟨b, o, rfl, d0, d1, d2, d3, d4⟩ := rowR_at (HROW.out _ HT2.out.kept) hy
      obtain ⟨cac, cnm, cdue, cper, ckind⟩ := y
      dsimp only at d0 d1 d2 d3 d4
      have hNJ : (N : Int) < (n : Int) := by omega
      have hNK : (0 : Int) ≤ (N : Int) := by omega
      have hn0 : ¬ ((n : Int) = 0) := by omega
      clear hy hN2
      go_wp2_with fail
      obtain ⟨W4, e4, k4, hz4, hb4⟩ := box1 W3 (.cells #[Sv cac, Sv cnm, Iv cdue, Iv cper, Iv ckind] 52)
      rw [e4]
      have T4 := HT2.out.kept0 k4
      have hpl := HT2.out.pl
      have hfl := HT2.out.fl
      clear e4 e3 k4 hz4 d0 d1 d2 d3 d4 HT2 hNI
      generalize w2.heap.size = f at *
      generalize W3.heap.size = BC at *
      have HT4 := Hid.mk T4
      have HB4 := Hid.mk hb4
      clear T4 hb4
      go_loopw [42] (fun i wr => ∃ j : Nat, i = .int .i64 (j : Int) ∧ j ≤ n ∧ Hid (wr.heap[BC]? = some (.cells #[Sv cac, Sv cnm, Iv cdue, Iv cper, Iv ckind] 52 (0, 0)) ∧ ∃ A, Two w wr p f A (canR A cac cnm) ∧ A.length ≤ j)) (fun i _ => n - (intOf i).toNat)
      case atStart => exact ⟨0, rfl, by omega, Hid.mk ⟨HB4.out, [], HT4.out, by simp⟩⟩
      case round =>
        obtain ⟨j, rfl, hj, H⟩ := hrel
        obtain ⟨hbc, A, T, hAl⟩ := H.out
        by_cases hlt : j < n
        · have hjI : (j : Int) < (n : Int) := by omega
          obtain ⟨y, hy⟩ : ∃ y, l[j]? = some y := ⟨_, List.getElem?_eq_getElem (by have := HN.out; omega)⟩
          have hy6 := Hid.mk (H64.out y (List.mem_of_getElem? hy))
          obtain ⟨b', o', e', d0, d1, d2, d3, d4⟩ := rowR_at (HROW.out _ T.kept) hy
          injection e' with e'
          injection e' with e1' e2'
          subst e1' e2'
          obtain ⟨ac, nm, due, per, kind⟩ := y
          dsimp only at d0 d1 d2 d3 d4
          have kA := (Kept.refl [] wr).alloc (.cells #[Sv ac, Sv nm, Iv due, Iv per, Iv kind] 52)
          have hgA := heap_alloc_new wr (.cells #[Sv ac, Sv nm, Iv due, Iv per, Iv kind] 52)
          have HTA := Hid.mk (T.kept0 kA)
          have HGA := Hid.mk hgA
          have HBA := Hid.mk (kA.keeps hbc (by simp))
          have hpw := T.pl
          have hfw := T.fl
          have hA64 : A.length < 64 := by omega
          have HS1 : Hid ((setQ A ⟨ac, nm, due, per, kind⟩).length ≤ j + 1) := Hid.mk (Nat.le_trans (setQ_len T.gA hA64 _) (by omega))
          have HS2 : Hid ((ac = cac ∧ nm = cnm) → canR (setQ A ⟨ac, nm, due, per, kind⟩) cac cnm = canR A cac cnm) := fun h => can_setQ_same hA64 h
          have HS3 : Hid (¬ (ac = cac ∧ nm = cnm) → setQ (canR A cac cnm) ⟨ac, nm, due, per, kind⟩ = canR (setQ A ⟨ac, nm, due, per, kind⟩) cac cnm) := fun h => can_setQ_other T.gA hA64 h
          have hBCw : BC < wr.heap.size := lt_of_block hbc
          clear T hy H hbc kA hgA hAl hA64 HT4 HB4
          by_cases hb1 : 1000 < nm.length
          · have g1 : (1000 : Int) < (nm.length : Int) := by omega
            go_wp2_with fail
            go_ret
            exact ⟨rfl, HTA.out.kept⟩
          · have g1 : ((1000 : Int) < (nm.length : Int)) = False := eq_false (by omega)
            by_cases hb2 : 1000 < ac.length
            · have g2 : (1000 : Int) < (ac.length : Int) := by omega
              go_wp2_with fail
              go_ret
              exact ⟨rfl, HTA.out.kept⟩
            · have g2 : ((1000 : Int) < (ac.length : Int)) = False := eq_false (by omega)
              go_wp2_with fail
              refine (two_set HTA.out ⟨ac, nm, due, per, kind⟩ hy6.out (by dsimp only; omega) (by dsimp only; omega)).mono ?_
              rintro e wr2 ⟨rfl, t6, k6⟩
              have hg6 := k6.keeps HGA.out (by simp; omega)
              have hc6 := k6.keeps HBA.out (by simp; omega)
              obtain ⟨x0, x1, x2, x3, x4⟩ := cells5 hg6
              obtain ⟨z0, z1, z2, z3, z4⟩ := cells5 hc6
              have T6 := Hid.mk t6
              have HC6 := Hid.mk hc6
              clear t6 k6 hg6 hc6 HTA HGA HBA d0 d1 d2 d3 d4
              by_cases q1 : ac = cac
              · by_cases q2 : nm = cnm
                · have hsm : ac = cac ∧ nm = cnm := ⟨q1, q2⟩
                  have g3 : (ac == cac) = true := by simpa using q1
                  have g4 : (nm == cnm) = true := by simpa using q2
                  clear q1 q2
                  have HR : Hid (wr2.heap[BC]? = some (.cells #[Sv cac, Sv cnm, Iv cdue, Iv cper, Iv ckind] 52 (0, 0)) ∧ ∃ A, Two w wr2 p f A (canR A cac cnm) ∧ A.length ≤ j + 1) := ⟨HC6.out, _, by have := T6.out; rwa [← HS2.out hsm] at this, HS1.out⟩
                  go_wp2_with fail
                  go_roundw
                  case rel => exact ⟨j + 1, by go_num, by omega, HR⟩
                  case measure => simp [intOf]; omega
                · have hsm : ¬ (ac = cac ∧ nm = cnm) := fun h => q2 h.2
                  have g3 : (ac == cac) = true := by simpa using q1
                  have g4 : (nm == cnm) = false := by simpa using q2
                  clear q1 q2
                  go_wp2_with fail
                  refine (two_setF T6.out ⟨ac, nm, due, per, kind⟩ hy6.out (by dsimp only; omega)).mono ?_
                  rintro e w7 ⟨rfl, t7, k7⟩
                  rw [HS3.out hsm] at t7
                  have HR : Hid (w7.heap[BC]? = some (.cells #[Sv cac, Sv cnm, Iv cdue, Iv cper, Iv ckind] 52 (0, 0)) ∧ ∃ A, Two w w7 p f A (canR A cac cnm) ∧ A.length ≤ j + 1) := ⟨k7.keeps HC6.out (by simp; omega), _, t7, HS1.out⟩
                  clear t7 k7
                  go_wp2_with fail
                  go_roundw
                  case rel => exact ⟨j + 1, by go_num, by omega, HR⟩
                  case measure => simp [intOf]; omega
              · have hsm : ¬ (ac = cac ∧ nm = cnm) := fun h => q1 h.1
                have g3 : (ac == cac) = false := by simpa using q1
                clear q1
                go_wp2_with fail
                refine (two_setF T6.out ⟨ac, nm, due, per, kind⟩ hy6.out (by dsimp only; omega)).mono ?_
                rintro e w7 ⟨rfl, t7, k7⟩
                rw [HS3.out hsm] at t7
                have HR : Hid (w7.heap[BC]? = some (.cells #[Sv cac, Sv cnm, Iv cdue, Iv cper, Iv ckind] 52 (0, 0)) ∧ ∃ A, Two w w7 p f A (canR A cac cnm) ∧ A.length ≤ j + 1) := ⟨k7.keeps HC6.out (by simp; omega), _, t7, HS1.out⟩
                clear t7 k7
                go_wp2_with fail
                go_roundw
                case rel => exact ⟨j + 1, by go_num, by omega, HR⟩
                case measure => simp [intOf]; omega
        · obtain rfl : j = n := by omega
          obtain ⟨z0, z1, z2, z3, z4⟩ := cells5 hbc
          have HT := Hid.mk T
          have HBC := Hid.mk hbc
          have hBCp : p < BC := hpl
          clear T H hbc hAl HT4 HB4
          go_wp2_with fail
          refine (two_can HT.out cac cnm).mono ?_
          rintro e w7 ⟨rfl, t7, k7⟩
          have hc7 := k7.keeps HBC.out (by simp; omega)
          have HC7 := Hid.mk hc7
          have HN7 := Hid.mk (two_can t7 cac cnm)
          rw [has_can_self, canR_none (has_can_self A cac cnm)] at HN7
          clear z0 z1 z2 z3 z4
          obtain ⟨z0, z1, z2, z3, z4⟩ := cells5 hc7
          clear t7 k7 hc7 HT HBC
          go_wp2_with fail
          refine HN7.out.mono ?_
          rintro e w8 ⟨rfl, t8, k8⟩
          have HB8 := Hid.mk (k8.keeps HC7.out (by simp; omega))
          have HT8 : Hid (∃ Q, Two w w8 p f Q Q ∧ hasR Q cac cnm = false) := ⟨_, t8, has_can_self A cac cnm⟩
          clear t8 k8 HN7 HC7 z0 z1 z2 z3 z4
          go_wp2_with fail
          go_loopw [90] (fun i wq => ∃ k : Nat, i = .int .i64 (k : Int) ∧ k ≤ 100 ∧ Hid (wq.heap[BC]? = some (.cells #[Sv cac, Sv cnm, Iv cdue, Iv cper, Iv ckind] 52 (0, 0)) ∧ ∃ Q, Two w wq p f Q Q ∧ hasR Q cac cnm = false)) (fun i _ => 100 - (intOf i).toNat)
          case atStart => exact ⟨0, rfl, by omega, Hid.mk ⟨HB8.out, HT8.out⟩⟩
          case round =>
            obtain ⟨k, rfl, hk, H⟩ := hrel
            obtain ⟨hbc, Q, T, hno⟩ := H.out
            by_cases hk2 : k < 100
            · have hkI : (k : Int) < 100 := by omega
              have HC1 := Hid.mk (two_ser T now)
              have HC2 : Hid (∀ W A, Two w W p f A Q → Calls Try.prog 22 #[.pointer (some ⟨f, 0, none⟩), Iv now] W fun e w' => e = .returned (.tuple #[Rv (dueA Q now).1, .bool (dueA Q now).2]) ∧ Two w w' p f A (serQ Q now) ∧ Kept [p, f] W w') := fun W A T => two_serF T now
              have hdn := due_no hno now
              have HNO := Hid.mk (has_ser T.gA hno now)
              generalize serQ Q now = Q3 at HC1 HC2 HNO
              generalize dueA Q now = da at HC1 HC2 hdn
              obtain ⟨⟨ac', nm', due', per', kind'⟩, ok⟩ := da
              dsimp only at HC1 HC2 hdn
              have HBC := Hid.mk hbc
              clear T H hbc hno HT8 HB8
              go_wp2_with fail
              refine HC1.out.mono ?_
              rintro e w9 ⟨rfl, t9, k9⟩
              have hz9 := And.intro t9.pl t9.fl
              have HTA := Hid.mk (t9.kept0 ((Kept.refl [] w9).alloc (.cells #[Sv ac', Sv nm', Iv due', Iv per', Iv kind'] 27)))
              have HGA := Hid.mk (heap_alloc_new w9 (.cells #[Sv ac', Sv nm', Iv due', Iv per', Iv kind'] 27))
              have HBA := Hid.mk (((Kept.refl [] w9).alloc (.cells #[Sv ac', Sv nm', Iv due', Iv per', Iv kind'] 27)).keeps (k9.keeps HBC.out (by simp; omega)) (by simp))
              clear t9 k9 HC1
              go_wp2_with fail
              refine (HC2.out _ _ HTA.out).mono ?_
              rintro e w10 ⟨rfl, t10, k10⟩
              have kB := (Kept.refl [] w10).alloc (.cells #[Sv ac', Sv nm', Iv due', Iv per', Iv kind'] 52)
              have hg3 := kB.keeps (k10.keeps HGA.out (by simp; omega)) (by simp)
              have hc3 := kB.keeps (k10.keeps HBA.out (by simp; omega)) (by simp)
              obtain ⟨y0, y1, y2, y3, y4⟩ := cells5 hg3
              obtain ⟨z0, z1, z2, z3, z4⟩ := cells5 hc3
              have HR : Hid ((w10.alloc (.cells #[Sv ac', Sv nm', Iv due', Iv per', Iv kind'] 52)).heap[BC]? = some (.cells #[Sv cac, Sv cnm, Iv cdue, Iv cper, Iv ckind] 52 (0, 0)) ∧ ∃ Q, Two w (w10.alloc (.cells #[Sv ac', Sv nm', Iv due', Iv per', Iv kind'] 52)) p f Q Q ∧ hasR Q cac cnm = false) := ⟨hc3, Q3, t10.kept0 kB, HNO.out⟩
              clear t10 k10 kB hg3 hc3 HTA HGA HBA HC2 HBC HNO
              cases ok with
              | false =>
                clear hdn
                go_wp2_with fail
                go_roundw
                case rel => exact ⟨k + 1, by go_num, by omega, HR⟩
                case measure => simp [intOf]; omega
              | true =>
                have hdn := hdn rfl
                by_cases q1 : ac' = cac
                · have q2 : ¬ nm' = cnm := fun e => hdn ⟨q1, e⟩
                  have g3 : (ac' == cac) = true := by simpa using q1
                  have g4 : (nm' == cnm) = false := by simpa using q2
                  clear q1 q2 hdn
                  go_wp2_with fail
                  go_roundw
                  case rel => exact ⟨k + 1, by go_num, by omega, HR⟩
                  case measure => simp [intOf]; omega
                · have g3 : (ac' == cac) = false := by simpa using q1
                  clear q1 hdn
                  go_wp2_with fail
                  go_roundw
                  case rel => exact ⟨k + 1, by go_num, by omega, HR⟩
                  case measure => simp [intOf]; omega
            · have hkI : ((k : Int) < 100) = False := eq_false (by omega)
              have HK := Hid.mk T.kept
              clear T H hbc hno HT8 HB8
              go_wp2_with fail
              go_ret
              exact ⟨rfl, HK.out⟩
end
end Go.Proofs.Ytelmppfacgdfbaa
