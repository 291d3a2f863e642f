/-
  play: a script of calls on both.
-/
import Derived.Test.YtelmppfacgdfbaaTw
namespace Go.Proofs.Ytelmppfacgdfbaa
set_option maxRecDepth 100000
open Go.RowKit Go.Shelf
set_option linter.unusedVariables false
section
variable {w0 w : World} {p f : Nat} {Q : List Rm}
theorem cells7 {w : World} {b : Nat} {t : TypeId} {v0 v1 v2 v3 v4 v5 v6 : Value} (h : w.heap[b]? = some (.cells #[v0, v1, v2, v3, v4, v5, v6] t (0, 0))) : w.cell? ⟨b, 0, none⟩ = some v0 ∧ w.cell? ⟨b, 1, none⟩ = some v1 ∧ w.cell? ⟨b, 2, none⟩ = some v2 ∧ w.cell? ⟨b, 3, none⟩ = some v3 ∧ w.cell? ⟨b, 4, none⟩ = some v4 ∧ w.cell? ⟨b, 5, none⟩ = some v5 ∧ w.cell? ⟨b, 6, none⟩ = some v6 := by simp [World.cell?, h]
/-- What play leaves. -/
def Played (w0 w : World) (p f : Nat) (w' : World) : Prop := ∃ Q, Two w0 w' p f Q Q
set_option maxHeartbeats 4000000 in
theorem play11 (T : Two w0 w p f Q Q) {v : Value} {l : List Pq} (hO : OpsIn w0 v l) : Calls Try.prog 11 #[.pointer (some ⟨p, 0, none⟩), .pointer (some ⟨f, 0, none⟩), v] w fun e w' => e = .returned (.bool true) ∧ Played w0 w p f w' := by
  obtain ⟨a, c, rfl, -⟩ := ReadsR.form hO.1
  rw [CP_length]
  have hrow : RowP w0 (.slice a l.length c) l := by have := hO.1; rwa [CP_length] at this
  obtain ⟨-, hc1, hc2⟩ := hrow.bound
  have HROW : Hid (∀ W, Kept [] w0 W → RowP W (.slice a l.length c) l) := fun W k => hrow.kept k (by simp)
  have H64 := Hid.mk hO.2
  have HT := Hid.mk T
  clear hO hrow T
  generalize hn : l.length = n at *
  have HN := Hid.mk hn
  clear hn
  have HFIN : Hid (∀ W Q, Two w0 W p f Q Q → Played w0 w p f W) := fun W Q T => ⟨Q, T⟩
  generalize Played w0 w p f = PL at HFIN ⊢
  go_enter Try.func11, Try.ntmps11
  go_wp2_with fail
  go_loopw [19] (fun i wr => ∃ j : Nat, i = .int .i64 (j : Int) ∧ j ≤ n ∧ Hid (∃ Q, Two w0 wr p f Q Q)) (fun i _ => n - (intOf i).toNat)
  case atStart => exact ⟨0, rfl, by omega, Hid.mk ⟨_, HT.out⟩⟩
  case round =>
    obtain ⟨j, rfl, hj, ht⟩ := hrel
    obtain ⟨Q', T⟩ := ht.out
    by_cases hlt : j < n
    · have hjI : (j : Int) < (n : Int) := by omega
      obtain ⟨q, hq⟩ : ∃ y, l[j]? = some y := ⟨_, List.getElem?_eq_getElem (by have := HN.out; omega)⟩
      have hq6 := H64.out q (List.mem_of_getElem? hq)
      obtain ⟨b, o, rfl, d0, d1, d2, d3, d4, d5, d6⟩ := (HROW.out _ T.kept).at hq
      obtain ⟨kd, ⟨ac, nm, due, per, kind⟩, now⟩ := q
      dsimp only at d0 d1 d2 d3 d4 d5 d6 hq6
      obtain ⟨h6, hnow⟩ := hq6
      obtain ⟨W1, e1, k1, hz1, hb1⟩ := box1 wr (.cells #[Iv kd, Sv ac, Sv nm, Iv due, Iv per, Iv kind, Iv now] 61)
      have T1 := T.kept0 k1
      have hpl := T.pl
      have hfl := T.fl
      obtain ⟨B, hBq⟩ : ∃ B, wr.heap.size = B := ⟨_, rfl⟩
      have HBX : Hid (∀ W, Kept [p, f] W1 W → W.cell? ⟨B, 0, none⟩ = some (Iv kd) ∧ W.cell? ⟨B, 1, none⟩ = some (Sv ac) ∧ W.cell? ⟨B, 2, none⟩ = some (Sv nm) ∧ W.cell? ⟨B, 3, none⟩ = some (Iv due) ∧ W.cell? ⟨B, 4, none⟩ = some (Iv per) ∧ W.cell? ⟨B, 5, none⟩ = some (Iv kind) ∧ W.cell? ⟨B, 6, none⟩ = some (Iv now)) := fun W k => by
        rw [← hBq]
        exact cells7 (k.keeps hb1 (by simp; omega))
      have HT1 := Hid.mk T1
      have E1 := Hid.mk e1
      have HBq := Hid.mk hBq
      have HP : Hid (p < B ∧ f < B) := by rw [← hBq]; exact ⟨hpl, hfl⟩
      have hBz : B < W1.heap.size := by omega
      clear T T1 ht hq k1 hb1 hz1 hpl hfl e1 hBq hc1 HT
      by_cases hj200 : 200 ≤ j
      · have g0 : (200 : Int) ≤ (j : Int) := by omega
        go_wp2_with fail
        rw [E1.out]
        go_ret
        exact ⟨rfl, HFIN.out _ _ HT1.out⟩
      · have g0 : ((200 : Int) ≤ (j : Int)) = False := eq_false (by omega)
        have g0' : (j : Int) < 200 := by omega
        by_cases hb1 : 1000 < nm.length
        · have g1 : (1000 : Int) < (nm.length : Int) := by omega
          go_wp2_with fail
          rw [E1.out]
          go_ret
          exact ⟨rfl, HFIN.out _ _ HT1.out⟩
        · have g1 : ((1000 : Int) < (nm.length : Int)) = False := eq_false (by omega)
          by_cases hb2 : 1000 < ac.length
          · have g2 : (1000 : Int) < (ac.length : Int) := by omega
            go_wp2_with fail
            rw [E1.out]
            go_ret
            exact ⟨rfl, HFIN.out _ _ HT1.out⟩
          · have g2 : ((1000 : Int) < (ac.length : Int)) = False := eq_false (by omega)
            have HSM : Hid (∀ W Q, Two w0 W p f Q Q → Calls Try.prog 16 #[.pointer (some ⟨p, 0, none⟩), .pointer (some ⟨f, 0, none⟩)] W fun e w' => e = .returned (.bool true) ∧ Two w0 w' p f Q Q ∧ Kept [p, f] W w') := fun W Q T => two_same T
            by_cases hk1 : kd = 1
            · subst hk1
              have HC1 := Hid.mk (two_set (HT1.out.kept0 (Kept.refl [] W1).drew) ⟨ac, nm, due, per, kind⟩ h6 (by dsimp only; omega) (by dsimp only; omega))
              have HC2 : Hid (∀ W A, Two w0 W p f A Q' → Calls Try.prog 21 #[.pointer (some ⟨f, 0, none⟩), Rv ⟨ac, nm, due, per, kind⟩] W fun e w' => e = .returned (Iv (setA Q' ⟨ac, nm, due, per, kind⟩)) ∧ Two w0 w' p f A (setQ Q' ⟨ac, nm, due, per, kind⟩) ∧ Kept [p, f] W w') := fun W A T => two_setF T _ h6 (by dsimp only; omega)
              generalize setA Q' ⟨ac, nm, due, per, kind⟩ = sa at HC1 HC2
              generalize setQ Q' ⟨ac, nm, due, per, kind⟩ = Q2 at HC1 HC2
              go_wp2_with fail
              rw [E1.out, HBq.out]
              obtain ⟨-, S0⟩ := HBX.out _ (Kept.refl [p, f] W1).drew
              go_region_held3 (fun W => W.cell? ⟨B, 1, none⟩ = some (Sv ac) ∧ W.cell? ⟨B, 2, none⟩ = some (Sv nm) ∧ W.cell? ⟨B, 3, none⟩ = some (Iv due) ∧ W.cell? ⟨B, 4, none⟩ = some (Iv per) ∧ W.cell? ⟨B, 5, none⟩ = some (Iv kind) ∧ W.cell? ⟨B, 6, none⟩ = some (Iv now)) (first | with_reducible exact S0 | with_reducible exact S1 | with_reducible exact S2) (first | (go_at_call 21; refine (HC2.out _ _ T2.out).mono ?_; rintro e w3 ⟨rfl, t3, k3⟩; have T3 := Hid.mk t3; have K3 := Hid.mk (K2.out.trans k3 (by simp)); clear t3 k3; obtain ⟨-, S2⟩ := HBX.out _ K3.out) | (go_at_call 17; refine HC1.out.mono ?_; rintro e w2 ⟨rfl, t2, k2⟩; have T2 := Hid.mk t2; have K2 := Hid.mk ((Kept.refl [p, f] W1).drew.trans k2 (by simp)); clear t2 k2; obtain ⟨-, S1⟩ := HBX.out _ K2.out))
              go_wp2_with fail
              refine (HSM.out _ _ T3.out).mono ?_
              rintro e w4 ⟨rfl, t4, k4⟩
              have HR : Hid (∃ Q, Two w0 w4 p f Q Q) := ⟨_, t4⟩
              clear t4 k4
              go_wp2_with fail
              go_roundw
              case rel => exact ⟨j + 1, by go_num, by omega, HR⟩
              case measure => simp [intOf]; omega
            · have hk1b : (kd == 1) = false := by simpa using hk1
              by_cases hk2 : kd = 2
              · subst hk2
                have HC1 := Hid.mk (two_can (HT1.out.kept0 (Kept.refl [] W1).drew) ac nm)
                have HC2 : Hid (∀ W A, Two w0 W p f A Q' → Calls Try.prog 23 #[.pointer (some ⟨f, 0, none⟩), Sv ac, Sv nm] W fun e w' => e = .returned (.bool (hasR Q' ac nm)) ∧ Two w0 w' p f A (canR Q' ac nm) ∧ Kept [p, f] W w') := fun W A T => two_canF T ac nm
                generalize hasR Q' ac nm = hb at HC1 HC2
                generalize canR Q' ac nm = Q2 at HC1 HC2
                go_wp2_with fail
                rw [E1.out, HBq.out]
                obtain ⟨-, S0⟩ := HBX.out _ (Kept.refl [p, f] W1).drew
                go_region_held3 (fun W => W.cell? ⟨B, 1, none⟩ = some (Sv ac) ∧ W.cell? ⟨B, 2, none⟩ = some (Sv nm) ∧ W.cell? ⟨B, 3, none⟩ = some (Iv due) ∧ W.cell? ⟨B, 4, none⟩ = some (Iv per) ∧ W.cell? ⟨B, 5, none⟩ = some (Iv kind) ∧ W.cell? ⟨B, 6, none⟩ = some (Iv now)) (first | with_reducible exact S0 | with_reducible exact S1 | with_reducible exact S2) (first | (go_at_call 23; refine (HC2.out _ _ T2.out).mono ?_; rintro e w3 ⟨rfl, t3, k3⟩; have T3 := Hid.mk t3; have K3 := Hid.mk (K2.out.trans k3 (by simp)); clear t3 k3; obtain ⟨-, S2⟩ := HBX.out _ K3.out) | (go_at_call 20; refine HC1.out.mono ?_; rintro e w2 ⟨rfl, t2, k2⟩; have T2 := Hid.mk t2; have K2 := Hid.mk ((Kept.refl [p, f] W1).drew.trans k2 (by simp)); clear t2 k2; obtain ⟨-, S1⟩ := HBX.out _ K2.out))
                go_wp2_with fail
                refine (HSM.out _ _ T3.out).mono ?_
                rintro e w9 ⟨rfl, t9, k9⟩
                have HR : Hid (∃ Q, Two w0 w9 p f Q Q) := ⟨_, t9⟩
                clear t9 k9
                go_wp2_with fail
                go_roundw
                case rel => exact ⟨j + 1, by go_num, by omega, HR⟩
                case measure => simp [intOf]; omega
              · have hk2b : (kd == 2) = false := by simpa using hk2
                by_cases hk4 : kd = 4
                · subst hk4
                  obtain ⟨x0, x1, x2, x3, x4, x5, x6⟩ := HBX.out _ (Kept.refl [p, f] W1)
                  have HC1 := Hid.mk (two_due HT1.out now)
                  have HC2 : Hid (∀ W, Two w0 W p f Q' Q' → Calls Try.prog 25 #[.pointer (some ⟨f, 0, none⟩), Iv now] W fun e w' => e = .returned (.tuple #[Rv (dueA Q' now).1, .bool (dueA Q' now).2]) ∧ Two w0 w' p f Q' Q' ∧ Kept [p, f] W w') := fun W T => two_dueF T now
                  generalize dueA Q' now = da at HC1 HC2
                  obtain ⟨⟨ac', nm', due', per', kind'⟩, ok⟩ := da
                  dsimp only at HC1 HC2
                  go_wp2_with fail
                  rw [E1.out, HBq.out]
                  refine HC1.out.mono ?_
                  rintro e w2 ⟨rfl, t2, k2⟩
                  have KA := k2.alloc (.cells #[Sv ac', Sv nm', Iv due', Iv per', Iv kind'] 27)
                  have TA := t2.kept0 ((Kept.refl [] w2).alloc (.cells #[Sv ac', Sv nm', Iv due', Iv per', Iv kind'] 27))
                  have hz2 := And.intro t2.pl t2.fl
                  have hg2 := heap_alloc_new w2 (.cells #[Sv ac', Sv nm', Iv due', Iv per', Iv kind'] 27)
                  clear x0 x1 x2 x3 x4 x5 x6
                  obtain ⟨x0, x1, x2, x3, x4, x5, x6⟩ := HBX.out _ KA
                  have HG2 := Hid.mk hg2
                  have HTA := Hid.mk TA
                  have HKA := Hid.mk KA
                  clear hg2 TA KA t2 k2
                  go_wp2_with fail
                  refine (HC2.out _ HTA.out).mono ?_
                  rintro e w3 ⟨rfl, t3, k3⟩
                  have hg3 := ((Kept.refl [] w3).alloc (.cells #[Sv ac', Sv nm', Iv due', Iv per', Iv kind'] 52)).keeps (k3.keeps HG2.out (by simp; omega)) (by simp)
                  have KB := (HKA.out.trans k3 (by simp)).alloc (.cells #[Sv ac', Sv nm', Iv due', Iv per', Iv kind'] 52)
                  have TB := t3.kept0 ((Kept.refl [] w3).alloc (.cells #[Sv ac', Sv nm', Iv due', Iv per', Iv kind'] 52))
                  clear x0 x1 x2 x3 x4 x5 x6
                  obtain ⟨x0, x1, x2, x3, x4, x5, x6⟩ := HBX.out _ KB
                  obtain ⟨y0, y1, y2, y3, y4⟩ := cells5 hg3
                  have HTB := Hid.mk TB
                  have HKB := Hid.mk KB
                  clear hg3 TB KB t3 k3 HG2 HTA HKA
                  go_wp2_with fail
                  refine (HSM.out _ _ HTB.out).mono ?_
                  rintro e w9 ⟨rfl, t9, k9⟩
                  have HR : Hid (∃ Q, Two w0 w9 p f Q Q) := ⟨_, t9⟩
                  clear t9 k9
                  go_wp2_with fail
                  go_roundw
                  case rel => exact ⟨j + 1, by go_num, by omega, HR⟩
                  case measure => simp [intOf]; omega
                · have hk4b : (kd == 4) = false := by simpa using hk4
                  by_cases hk3 : kd = 3
                  · subst hk3
                    obtain ⟨x0, x1, x2, x3, x4, x5, x6⟩ := HBX.out _ (Kept.refl [p, f] W1)
                    have HC1 := Hid.mk (two_due HT1.out now)
                    have HC2 : Hid (∀ W, Two w0 W p f Q' Q' → Calls Try.prog 25 #[.pointer (some ⟨f, 0, none⟩), Iv now] W fun e w' => e = .returned (.tuple #[Rv (dueA Q' now).1, .bool (dueA Q' now).2]) ∧ Two w0 w' p f Q' Q' ∧ Kept [p, f] W w') := fun W T => two_dueF T now
                    have HC3 : Hid (∀ W, Two w0 W p f Q' Q' → Calls Try.prog 19 #[.pointer (some ⟨p, 0, none⟩), Iv now] W fun e w' => e = .returned (.tuple #[Rv (dueA Q' now).1, .bool (dueA Q' now).2]) ∧ Two w0 w' p f (serQ Q' now) Q' ∧ Kept [p, f] W w') := fun W T => two_ser T now
                    have HC4 : Hid (∀ W A, Two w0 W p f A Q' → Calls Try.prog 22 #[.pointer (some ⟨f, 0, none⟩), Iv now] W fun e w' => e = .returned (.tuple #[Rv (dueA Q' now).1, .bool (dueA Q' now).2]) ∧ Two w0 w' p f A (serQ Q' now) ∧ Kept [p, f] W w') := fun W A T => two_serF T now
                    generalize serQ Q' now = Q3 at HC3 HC4
                    generalize dueA Q' now = da at HC1 HC2 HC3 HC4
                    obtain ⟨⟨ac', nm', due', per', kind'⟩, ok⟩ := da
                    dsimp only at HC1 HC2 HC3 HC4
                    go_wp2_with fail
                    rw [E1.out, HBq.out]
                    refine HC1.out.mono ?_
                    rintro e w2 ⟨rfl, t2, k2⟩
                    have KA := k2.alloc (.cells #[Sv ac', Sv nm', Iv due', Iv per', Iv kind'] 27)
                    have TA := t2.kept0 ((Kept.refl [] w2).alloc (.cells #[Sv ac', Sv nm', Iv due', Iv per', Iv kind'] 27))
                    have hz2 := And.intro t2.pl t2.fl
                    have hg2 := heap_alloc_new w2 (.cells #[Sv ac', Sv nm', Iv due', Iv per', Iv kind'] 27)
                    clear x0 x1 x2 x3 x4 x5 x6
                    obtain ⟨x0, x1, x2, x3, x4, x5, x6⟩ := HBX.out _ KA
                    have HG2 := Hid.mk hg2
                    have HTA := Hid.mk TA
                    have HKA := Hid.mk KA
                    clear hg2 TA KA t2 k2
                    go_wp2_with fail
                    refine (HC2.out _ HTA.out).mono ?_
                    rintro e w3 ⟨rfl, t3, k3⟩
                    have hg3 := ((Kept.refl [] w3).alloc (.cells #[Sv ac', Sv nm', Iv due', Iv per', Iv kind'] 52)).keeps (k3.keeps HG2.out (by simp; omega)) (by simp)
                    have KB := (HKA.out.trans k3 (by simp)).alloc (.cells #[Sv ac', Sv nm', Iv due', Iv per', Iv kind'] 52)
                    have TB := t3.kept0 ((Kept.refl [] w3).alloc (.cells #[Sv ac', Sv nm', Iv due', Iv per', Iv kind'] 52))
                    clear x0 x1 x2 x3 x4 x5 x6
                    obtain ⟨x0, x1, x2, x3, x4, x5, x6⟩ := HBX.out _ KB
                    obtain ⟨y0, y1, y2, y3, y4⟩ := cells5 hg3
                    have HTB := Hid.mk TB
                    have HKB := Hid.mk KB
                    clear hg3 TB KB t3 k3 HG2 HTA HKA
                    go_wp2_with fail
                    refine (HC3.out _ HTB.out).mono ?_
                    clear y0 y1 y2 y3 y4 hz2
                    rintro e w5 ⟨rfl, t2, k2'⟩
                    have k2 := HKB.out.trans k2' (by simp)
                    clear HTB HKB k2'
                    have KA := k2.alloc (.cells #[Sv ac', Sv nm', Iv due', Iv per', Iv kind'] 27)
                    have TA := t2.kept0 ((Kept.refl [] w5).alloc (.cells #[Sv ac', Sv nm', Iv due', Iv per', Iv kind'] 27))
                    have hz2 := And.intro t2.pl t2.fl
                    have hg2 := heap_alloc_new w5 (.cells #[Sv ac', Sv nm', Iv due', Iv per', Iv kind'] 27)
                    clear x0 x1 x2 x3 x4 x5 x6
                    obtain ⟨x0, x1, x2, x3, x4, x5, x6⟩ := HBX.out _ KA
                    have HG2 := Hid.mk hg2
                    have HTA := Hid.mk TA
                    have HKA := Hid.mk KA
                    clear hg2 TA KA t2 k2
                    go_wp2_with fail
                    refine (HC4.out _ _ HTA.out).mono ?_
                    rintro e w6 ⟨rfl, t3, k3⟩
                    have hg3 := ((Kept.refl [] w6).alloc (.cells #[Sv ac', Sv nm', Iv due', Iv per', Iv kind'] 52)).keeps (k3.keeps HG2.out (by simp; omega)) (by simp)
                    have KB := (HKA.out.trans k3 (by simp)).alloc (.cells #[Sv ac', Sv nm', Iv due', Iv per', Iv kind'] 52)
                    have TB := t3.kept0 ((Kept.refl [] w6).alloc (.cells #[Sv ac', Sv nm', Iv due', Iv per', Iv kind'] 52))
                    clear x0 x1 x2 x3 x4 x5 x6
                    obtain ⟨x0, x1, x2, x3, x4, x5, x6⟩ := HBX.out _ KB
                    obtain ⟨y0, y1, y2, y3, y4⟩ := cells5 hg3
                    have HTB := Hid.mk TB
                    have HKB := Hid.mk KB
                    clear hg3 TB KB t3 k3 HG2 HTA HKA
                    go_wp2_with fail
                    refine (HSM.out _ _ HTB.out).mono ?_
                    rintro e w9 ⟨rfl, t9, k9⟩
                    have HR : Hid (∃ Q, Two w0 w9 p f Q Q) := ⟨_, t9⟩
                    clear t9 k9
                    go_wp2_with fail
                    go_roundw
                    case rel => exact ⟨j + 1, by go_num, by omega, HR⟩
                    case measure => simp [intOf]; omega
                  · have hk3b : (kd == 3) = false := by simpa using hk3
                    go_wp2_with fail
                    rw [E1.out]
                    refine (HSM.out _ _ HT1.out).mono ?_
                    rintro e w9 ⟨rfl, t9, k9⟩
                    have HR : Hid (∃ Q, Two w0 w9 p f Q Q) := ⟨_, t9⟩
                    clear t9 k9
                    go_wp2_with fail
                    go_roundw
                    case rel => exact ⟨j + 1, by go_num, by omega, HR⟩
                    case measure => simp [intOf]; omega
    · obtain rfl : j = n := by omega
      have HQ := Hid.mk (HFIN.out _ _ T)
      clear T ht
      go_wp2_with fail
      go_ret
      exact ⟨rfl, HQ.out⟩
end
end Go.Proofs.Ytelmppfacgdfbaa
