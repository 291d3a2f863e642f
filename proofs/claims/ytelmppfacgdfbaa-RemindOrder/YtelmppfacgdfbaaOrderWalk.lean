/-
  RemindOrder: the walk.
-/
import Derived.Test.YtelmppfacgdfbaaOn
import Derived.Test.YtelmppfacgdfbaaOp
namespace Go.Proofs.Ytelmppfacgdfbaa
set_option maxRecDepth 100000
open Go.RowKit Go.Shelf
set_option linter.unusedVariables false
theorem bytesLess_eq (a b : List UInt8) : Op.bytesLess a b = decide (a < b) := by
  induction a generalizing b with
  | nil => cases b <;> simp [Op.bytesLess]
  | cons x a ih =>
    cases b with
    | nil => simp [Op.bytesLess]
    | cons y b =>
      rw [Op.bytesLess, Bool.eq_iff_iff]
      simp [List.cons_lt_cons_iff, ih]
/-- All are later than the last one. -/
def LaterQ (last : Rm) (Q : List Rm) : Prop := ∀ x ∈ Q, LR last x
section
variable {w : World}
set_option maxHeartbeats 4000000 in
theorem order_walk {v : Value} {l : List Rm} (hr : RemsIn w v l) (now : Int) (h3 : I64 now) : Calls Try.prog 6 #[v, Iv now] w fun e w' => e = .returned (.bool true) ∧ Kept [] w w' := by
  obtain ⟨hrow, h64⟩ := hr
  obtain ⟨a, c, rfl, hc1, hc2⟩ := rowR_form hrow
  obtain ⟨h3a, h3b⟩ := h3
  have HROW : Hid (∀ W, Kept [] w W → ReadsR 5 W (.slice a l.length c) (CR l)) := fun W k => hrow.kept k (by simp)
  have H64 := Hid.mk h64
  clear hrow h64
  generalize hn : l.length = n at *
  have HN := Hid.mk hn
  clear hn
  have HAW : Hid (∀ W, Calls Try.prog 9 #[] W fun e w' => e = .returned (.bool true) ∧ Kept [] W w') := fun W => awake9
  by_cases hbig : 100 < n
  · have hbI : (100 : Int) < (n : Int) := by omega
    go_enter Try.func6, Try.ntmps6
    go_wp2_with fail
    refine (HAW.out _).mono ?_
    rintro e w1 ⟨rfl, k1⟩
    go_wp2_with fail
    refine (HAW.out _).mono ?_
    rintro e w2 ⟨rfl, k2⟩
    go_wp2_with fail
    go_ret
    exact ⟨rfl, k1.trans k2 (by simp)⟩
  · have hbI : ((100 : Int) < (n : Int)) = False := eq_false (by omega)
    go_enter Try.func6, Try.ntmps6
    go_wp2_with fail
    refine (HAW.out _).mono ?_
    rintro e w1 ⟨rfl, k1⟩
    go_wp2_with fail
    refine (one_new (w0 := w) k1).mono ?_
    rintro e w2 ⟨p, rfl, T2⟩
    have HT2 := Hid.mk T2
    clear T2 k1 HAW
    go_wp2_with fail
    go_loopw [22] (fun i wr => ∃ j : Nat, i = .int .i64 (j : Int) ∧ j ≤ n ∧ Hid (∃ Q, One w wr p Q)) (fun i _ => n - (intOf i).toNat)
    case atStart => exact ⟨0, rfl, by omega, Hid.mk ⟨_, HT2.out⟩⟩
    case round =>
      obtain ⟨j, rfl, hj, ht⟩ := hrel
      obtain ⟨Q, T⟩ := ht.out
      by_cases hlt : j < n
      · have hjI : (j : Int) < (n : Int) := by omega
        obtain ⟨y, hy⟩ : ∃ y, l[j]? = some y := ⟨_, List.getElem?_eq_getElem (by have := HN.out; omega)⟩
        have hy6 := H64.out y (List.mem_of_getElem? hy)
        obtain ⟨b, o, rfl, d0, d1, d2, d3, d4⟩ := rowR_at (HROW.out _ T.kept) hy
        obtain ⟨ac, nm, due, per, kind⟩ := y
        dsimp only at d0 d1 d2 d3 d4
        have hy6' : R64 ⟨ac, nm, due, 9223372036854775807, kind⟩ := ⟨hy6.due, by show I64 9223372036854775807; unfold I64; decide, hy6.kind⟩
        have HS : Hid (ac.length ≤ 1000 → nm.length ≤ 1000 → ∀ W, One w W p Q → Calls Try.prog 17 #[.pointer (some ⟨p, 0, none⟩), Rv ⟨ac, nm, due, 9223372036854775807, kind⟩] W fun e w' => e = .returned (Iv (setA Q ⟨ac, nm, due, 9223372036854775807, kind⟩)) ∧ ∃ Q', One w w' p Q') := fun h1 h2 W T => by
          refine (one_set T _ hy6' (by dsimp only; omega) (by dsimp only; omega)).mono ?_
          rintro e w' ⟨rfl, T'⟩
          exact ⟨rfl, _, T'⟩
        generalize setA Q ⟨ac, nm, due, 9223372036854775807, kind⟩ = sa at HS
        have HT := Hid.mk T
        clear T hy hy6 hy6' ht
        by_cases hb1 : 1000 < nm.length
        · have g1 : (1000 : Int) < (nm.length : Int) := by omega
          go_wp2_with fail
          go_ret
          exact ⟨rfl, HT.out.kept.trans ((Kept.refl [] wr).alloc _) (by simp)⟩
        · have g1 : ((1000 : Int) < (nm.length : Int)) = False := eq_false (by omega)
          by_cases hb2 : 1000 < ac.length
          · have g2 : (1000 : Int) < (ac.length : Int) := by omega
            go_wp2_with fail
            go_ret
            exact ⟨rfl, HT.out.kept.trans ((Kept.refl [] wr).alloc _) (by simp)⟩
          · have g2 : ((1000 : Int) < (ac.length : Int)) = False := eq_false (by omega)
            go_wp2_with fail
            refine (HS.out (by omega) (by omega) _ (HT.out.kept0 ((Kept.refl [] wr).alloc _))).mono ?_
            rintro e w4 ⟨rfl, T4⟩
            have HR := Hid.mk T4
            clear T4 HS HT
            go_wp2_with fail
            go_roundw
            case rel => exact ⟨j + 1, by go_num, by omega, HR⟩
            case measure => simp [intOf]; omega
      · obtain rfl : j = n := by omega
        obtain ⟨W0, e0, k0, hz0, hg0⟩ := box1 wr (.cells #[.string { data := #[] }, .string { data := #[] }, .int .i64 (-1), .int .i64 0, .int .i64 0] 27)
        have HT : Hid (∃ Q, One w W0 p Q ∧ LaterQ ⟨[], [], -1, 0, 0⟩ Q) := ⟨Q, T.kept0 k0, fun x hx => .inl (by have := (T.good.ok x hx).due; show (-1 : Int) < x.due; omega)⟩
        have hws : w.heap.size ≤ wr.heap.size := T.kept.size
        have hpw : p < wr.heap.size := T.isQ.lt
        have E0 := Hid.mk e0
        have HG := Hid.mk hg0
        clear T ht hg0 k0 hz0 e0
        go_wp2_with fail
        rw [E0.out]
        generalize wr.heap.size = B at *
        clear E0
        go_loopw [45] (fun i wq => ∃ (k : Nat) (last : Rm), i = .int .i64 (k : Int) ∧ k ≤ 200 ∧ Hid (wq.heap[B]? = some (.cells #[Sv last.ac, Sv last.nm, Iv last.due, Iv last.per, Iv last.kind] 27 (0, 0)) ∧ ∃ Q, One w wq p Q ∧ LaterQ last Q)) (fun i _ => 200 - (intOf i).toNat)
        case atStart => exact ⟨0, ⟨[], [], -1, 0, 0⟩, rfl, by omega, Hid.mk ⟨HG.out, HT.out⟩⟩
        case round =>
          obtain ⟨k, last, rfl, hk, H⟩ := hrel
          obtain ⟨hb0, Q', T', L'⟩ := H.out
          by_cases hk2 : k < 200
          · have hkI : (k : Int) < 200 := by omega
            have HV := Hid.mk (serve19 T'.isQ T'.good now)
            have hQ' := T'.good
            have HT' := Hid.mk T'
            by_cases hdue : ∃ x Q2, Q' = x :: Q2 ∧ ¬ now < x.due
            · obtain ⟨x, Q2, rfl, hx⟩ := hdue
              have e1 : dueA (x :: Q2) now = (x, true) := by rw [dueA, if_neg hx]
              have e2 : serQ (x :: Q2) now = serR x Q2 := by rw [serQ, if_neg hx]
              rw [e1, e2] at HV
              have hL1 : LR last x := L' x (by simp)
              have hL2 : LaterQ x (serR x Q2) := serR_later hQ'
              have hG2 : GoodQ (serR x Q2) := hQ'.serve
              have HL2 := Hid.mk (And.intro hL2 hG2)
              have HB := Hid.mk hb0
              have hxd : ¬ now < x.due := hx
              clear T' L' H e1 e2 hQ' hb0 hL2 hG2 HT HG
              obtain ⟨ac, nm, due, per, kind⟩ := x
              obtain ⟨ac', nm', due', per', kind'⟩ := last
              dsimp only at HV hx HB hxd
              generalize serR ⟨ac, nm, due, per, kind⟩ Q2 = Q3 at HV HL2
              go_wp2_with fail
              refine HV.out.mono ?_
              rintro e w5 ⟨rfl, h5, k5⟩
              have T5 := HT'.out.go h5 HL2.out.2 k5
              have hb5 := k5.keeps HB.out (by simp; omega)
              have hB5 : B < w5.heap.size := lt_of_block hb5
              obtain ⟨d0, d1, d2, d3, d4⟩ := cells5 hb5
              obtain ⟨f0, f1, f2, f3, f4⟩ := free5 hb5
              obtain ⟨d0', d1', d2', d3', d4'⟩ := cells5 (((Kept.refl [] w5).alloc (.cells #[Sv ac, Sv nm, Iv due, Iv per, Iv kind] 27)).keeps hb5 (by simp))
              obtain ⟨W7, e7, k7, h7, -⟩ := put5 hb5 (Sv ac) (Sv nm) (Iv due) (Iv per) (Iv kind)
              have kA := (Kept.refl [] W7).alloc (.cells #[Sv ac, Sv nm, Iv due, Iv per, Iv kind] 27)
              have T7 : One w W7 p Q3 := ⟨T5.isQ.kept k7 (by simp; omega), T5.hp, T5.good, T5.kept.trans k7 (fun y hy => by simp at hy; subst hy; exact .inr (by omega))⟩
              have HR : Hid ((W7.alloc (.cells #[Sv ac, Sv nm, Iv due, Iv per, Iv kind] 27)).heap[B]? = some (.cells #[Sv ac, Sv nm, Iv due, Iv per, Iv kind] 27 (0, 0)) ∧ ∃ Q, One w (W7.alloc (.cells #[Sv ac, Sv nm, Iv due, Iv per, Iv kind] 27)) p Q ∧ LaterQ ⟨ac, nm, due, per, kind⟩ Q) := ⟨kA.keeps h7 (by simp), Q3, T7.kept0 kA, HL2.out.1⟩
              clear T5 T7 hb5 k7 h7 kA h5 k5 HL2 HB HV HT'
              unfold LR at hL1
              dsimp only at hL1
              rcases hL1 with h1 | ⟨hd, h1 | ⟨hac, h1⟩⟩
              · have g1 : ¬ due < due' := by omega
                have g2 : (due == due') = false := by simp; omega
                clear h1
                go_wp2_with fail
                go_roundw
                case rel => exact ⟨k + 1, ⟨ac, nm, due, per, kind⟩, by go_num, by omega, HR⟩
                case measure => simp [intOf]; omega
              · subst hd
                have g1 : ¬ due' < due' := by omega
                have g2 : Op.bytesLess ac ac' = false := by rw [bytesLess_eq]; simpa using fun h => klt_irrefl _ (klt_trans h1 h)
                have g3 : (ac == ac') = false := by simp; rintro rfl; exact klt_irrefl _ h1
                clear h1
                go_wp2_with fail
                go_roundw
                case rel => exact ⟨k + 1, ⟨ac, nm, due', per, kind⟩, by go_num, by omega, HR⟩
                case measure => simp [intOf]; omega
              · subst hd hac
                have g1 : ¬ due' < due' := by omega
                have g2 : Op.bytesLess ac' ac' = false := by rw [bytesLess_eq]; simp
                have g3 : Op.bytesLess nm nm' = false := by rw [bytesLess_eq]; simpa using fun h => klt_irrefl _ (klt_trans h1 h)
                have g4 : (nm == nm') = false := by simp; rintro rfl; exact klt_irrefl _ h1
                have g5 : ¬ nm = nm' := by rintro rfl; exact klt_irrefl _ h1
                clear h1
                go_wp2_with fail
                go_roundw
                case rel => exact ⟨k + 1, ⟨ac', nm, due', per, kind⟩, by go_num, by omega, HR⟩
                case measure => simp [intOf]; omega
            · have e1 : dueA Q' now = (zr, false) := by
                cases Q' with
                | nil => rfl
                | cons x Q2 =>
                  rw [dueA, if_pos (Classical.byContradiction fun h => hdue ⟨x, Q2, rfl, h⟩)]
              rw [e1] at HV
              have e3 : Rv zr = .agg #[.string { data := #[] }, .string { data := #[] }, .int .i64 0, .int .i64 0, .int .i64 0] := rfl
              dsimp only at HV
              rw [e3] at HV
              clear T' L' H hQ' hb0 HT HG hdue e1 e3
              generalize serQ Q' now = Q3 at HV
              go_wp2_with fail
              refine HV.out.mono ?_
              rintro e w5 ⟨rfl, h5, k5⟩
              have HK : Hid (Kept [] w w5) := HT'.out.kept.trans k5 (fun y hy => by simp at hy; subst hy; exact .inr HT'.out.hp)
              clear h5 k5
              go_wp2_with fail
              go_ret
              exact ⟨rfl, HK.out.trans ((Kept.refl [] w5).alloc _) (by simp)⟩
          · have hkI : ((k : Int) < 200) = False := eq_false (by omega)
            have HK := Hid.mk T'.kept
            clear T' L' H hb0 HT HG
            go_wp2_with fail
            go_ret
            exact ⟨rfl, HK.out⟩
end
end Go.Proofs.Ytelmppfacgdfbaa
