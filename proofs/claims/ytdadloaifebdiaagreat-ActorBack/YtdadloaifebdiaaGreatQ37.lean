import Derived.Test.YtdadloaifebdiaaGreatQ02
import Derived.Test.YtdadloaifebdiaaGreatQ05
import Derived.Test.YtdadloaifebdiaaGreatQ06
import Derived.Test.YtdadloaifebdiaaGreatQ26
import Derived.Test.YtdadloaifebdiaaGreatQ30
/-
  Fresh of an actor.
-/
namespace Go.Proofs.YtdadloaifebdiaaGreat
set_option maxRecDepth 100000
open Go.RowKit
set_option linter.unusedVariables false
theorem freshA_iff (a : Ac) : freshA a = true ↔ a.j.ver = 0 ∧ a.inb.length = 0 ∧ (a.out.K.isEmpty && a.out.L.isEmpty) = true ∧ a.tries = 0 ∧ a.poi.length = 0 := by
  simp only [freshA, Bool.and_eq_true, decide_eq_true_eq, List.isEmpty_iff, List.length_eq_zero_iff]
  constructor
  · rintro ⟨⟨⟨⟨⟨h1, h2⟩, h3⟩, h4⟩, h5⟩, h6⟩; exact ⟨h1, h2, ⟨h4, h3⟩, h5, h6⟩
  · rintro ⟨h1, h2, ⟨h4, h3⟩, h5, h6⟩; exact ⟨⟨⟨⟨⟨h1, h2⟩, h3⟩, h4⟩, h5⟩, h6⟩
section
variable {w w' : World} {p : Nat} {a : Ac}
set_option maxHeartbeats 4000000 in
theorem fresh14 (h : IsAct w p a) : Calls Tryz.prog 14 #[Ptr p] w fun e w' => e = .returned (.bool (freshA a)) ∧ Kept [] w w' := by
  obtain ⟨pj, pi, po, av, cv, qs, ys, ms, h⟩ := h
  have hql := h.ql
  obtain ⟨d0, d1, d2, d3, d4⟩ := h.cells
  have HV := Hid.mk (version19 h.j.isP)
  have HL := Hid.mk (len21 h.i)
  have HS := Hid.mk (sent67 h.o (by rw [h.oy]; exact h.g.out))
  have hys : ys.isEmpty = a.out.L.isEmpty := by rw [← h.oy]; cases ys <;> rfl
  rw [hys] at HS
  rw [hql] at HL
  have HA := Hid.mk h
  have HI := Hid.mk (freshA_iff a)
  generalize freshA a = R at *
  generalize hT : a.tries = t at *
  generalize hM : a.inb.length = n at *
  generalize hPl : a.poi.length = m at *
  generalize hVv : a.j.ver = v at *
  generalize hSs : (a.out.K.isEmpty && a.out.L.isEmpty) = s at *
  have HT := Hid.mk (And.intro hT hPl)
  clear h hT hM hPl hVv hSs hys hql
  have no : ¬ (v = 0 ∧ n = 0 ∧ s = true ∧ t = 0 ∧ m = 0) → Hid (R = false) := fun h' => by
    cases hS : R with
    | false => exact Hid.mk rfl
    | true => exact absurd (HI.out.1 hS) h'
  have yes : (v = 0 ∧ n = 0 ∧ s = true ∧ t = 0 ∧ m = 0) → Hid (R = true) := fun h' => Hid.mk (HI.out.2 h')
  go_enter Tryz.func14, Tryz.ntmps14
  go_wp2_with fail
  refine HV.out.mono ?_
  rintro e w1 ⟨rfl, rfl⟩
  by_cases hv : v = 0
  · subst hv
    go_wp2_with fail
    refine HL.out.mono ?_
    rintro e w1 ⟨rfl, rfl⟩
    by_cases hn : n = 0
    · subst hn
      go_wp2_with fail
      refine HS.out.mono ?_
      rintro e w1 ⟨rfl, k1⟩
      obtain ⟨e0, e1, e2, e3, e4⟩ := (HA.out.kept0 k1).cells
      rw [HT.out.1] at e3
      rw [HT.out.2] at e4
      have HK := Hid.mk k1
      clear k1 d0 d1 d2 d3 d4 HV HL HS HA
      cases s with
      | false =>
        have hR := no (by simp)
        clear no yes
        go_wp2_with fail
        go_ret
        rw [hR.out]
        exact ⟨rfl, HK.out⟩
      | true =>
        by_cases ht : t = 0
        · subst ht
          by_cases hm : m = 0
          · subst hm
            have hR := yes (by simp)
            clear no yes
            go_wp2_with fail
            go_ret
            rw [hR.out]
            exact ⟨rfl, HK.out⟩
          · have gm : (((m : Int)) == 0) = false := beq_eq_false_iff_ne.2 (by omega)
            have hR := no (by simp [hm])
            clear no yes
            go_wp2_with fail
            go_ret
            rw [hR.out]
            exact ⟨rfl, HK.out⟩
        · have gt : (t == 0) = false := beq_eq_false_iff_ne.2 ht
          have hR := no (by simp [ht])
          clear no yes
          go_wp2_with fail
          go_ret
          rw [hR.out]
          exact ⟨rfl, HK.out⟩
    · have gn : ((n : Int) == 0) = false := beq_eq_false_iff_ne.2 (by omega)
      have hR := no (by simp [hn])
      clear no yes
      go_wp2_with fail
      go_ret
      rw [hR.out]
      exact ⟨rfl, Kept.refl [] _⟩
  · have gv : ((v : Int) == 0) = false := beq_eq_false_iff_ne.2 (by omega)
    have hR := no (by simp [hv])
    clear no yes
    go_wp2_with fail
    go_ret
    rw [hR.out]
    exact ⟨rfl, Kept.refl [] _⟩
end
/-- The document's actor a lies at f. -/
structure ActF (w0 w : World) (f : Nat) (a : Ac) (fj fi fo : Nat) (uj ui uo xo : Value) (av : Option Addr) (cv : Nat) (qs : List Lq) (ys : List Yq) (ms : List Lq) : Prop where
  box : w.heap[f]? = some (.cells #[Ptr fj, Ptr fi, Ptr fo, Iv a.tries, .slice av a.poi.length cv] 72 (0, 0))
  j : IsF_J w fj uj a.j
  i : IsF_I w0 w fi ui qs
  iq : qs.map (·.x) = a.inb
  o : IsF w0 w fo uo xo a.out.own a.out.K ys
  oy : ys.map ot = a.out.L
  row : RowQ w (.slice av a.poi.length cv) ms
  vals : ValsQ w ms
  pm : ms.map (·.x) = a.poi
  g : GoodP a
def IsAf (w : World) (f : Nat) (a : Ac) : Prop := ∃ w0 fj fi fo uj ui uo xo av cv qs ys ms, ActF w0 w f a fj fi fo uj ui uo xo av cv qs ys ms
section
variable {w0 w w' : World} {f fj fi fo : Nat} {a : Ac} {uj ui uo xo : Value} {av : Option Addr} {cv : Nat} {qs ms : List Lq} {ys : List Yq}
theorem ActF.kept0 (h : ActF w0 w f a fj fi fo uj ui uo xo av cv qs ys ms) (k : Kept [] w w') : ActF w0 w' f a fj fi fo uj ui uo xo av cv qs ys ms :=
  ⟨k.keeps h.box (by simp), h.j.kept0 k, h.i.kept0 k, h.iq, h.o.kept0 k, h.oy, h.row.kept k (by simp), h.vals.kept0 k, h.pm, h.g⟩
theorem IsAf.kept0 (h : IsAf w f a) (k : Kept [] w w') : IsAf w' f a := by
  obtain ⟨w0, fj, fi, fo, uj, ui, uo, xo, av, cv, qs, ys, ms, h⟩ := h
  exact ⟨w0, fj, fi, fo, uj, ui, uo, xo, av, cv, qs, ys, ms, h.kept0 k⟩
theorem ActF.cells (h : ActF w0 w f a fj fi fo uj ui uo xo av cv qs ys ms) : w.cell? ⟨f, 0, none⟩ = some (Ptr fj) ∧ w.cell? ⟨f, 1, none⟩ = some (Ptr fi) ∧ w.cell? ⟨f, 2, none⟩ = some (Ptr fo) ∧ w.cell? ⟨f, 3, none⟩ = some (Iv a.tries) ∧ w.cell? ⟨f, 4, none⟩ = some (.slice av a.poi.length cv) := by
  have h := h.box
  refine ⟨?_, ?_, ?_, ?_, ?_⟩ <;> (unfold World.cell?; rw [h]; rfl)
theorem ActF.ql (h : ActF w0 w f a fj fi fo uj ui uo xo av cv qs ys ms) : qs.length = a.inb.length := by rw [← h.iq, List.length_map]
theorem ActF.yl (h : ActF w0 w f a fj fi fo uj ui uo xo av cv qs ys ms) : ys.length = a.out.L.length := by rw [← h.oy, List.length_map]
set_option maxHeartbeats 4000000 in
theorem rfresh49 (h : IsAf w f a) : Calls Tryz.prog 49 #[Ptr f] w fun e w' => e = .returned (.bool (freshA a)) ∧ Kept [] w w' := by
  obtain ⟨w0, fj, fi, fo, uj, ui, uo, xo, av, cv, qs, ys, ms, h⟩ := h
  have hql := h.ql
  have hyl := h.yl
  obtain ⟨d0, d1, d2, d3, d4⟩ := h.cells
  have c9 := h.j.ver
  have ci := cell_of_one h.i.box
  obtain ⟨co0, co1, co2⟩ := cells3 h.o.box
  obtain ⟨ai, ni, hui, -, -⟩ := h.i.own.row.form
  obtain ⟨ao, no', huo, -, -⟩ := h.o.ys.row.form
  rw [CY, List.length_map] at huo
  subst hui huo
  obtain ⟨ax, nx, hxo, -, -⟩ := rowK_form h.o.krow
  subst hxo
  have HKy := Hid.mk (keys57 co2 h.o.krow (by have := h.g.out.kn; omega))
  rw [hql] at ci
  rw [hyl] at co1
  have HA := Hid.mk h
  have HI := Hid.mk (freshA_iff a)
  generalize freshA a = R at *
  generalize hT : a.tries = t at *
  generalize hM : a.inb.length = n at *
  generalize hPl : a.poi.length = m at *
  generalize hVv : a.j.ver = v at *
  have HT := Hid.mk (And.intro hT hPl)
  have HI2 : Hid (R = true ↔ v = 0 ∧ n = 0 ∧ a.out.L.length = 0 ∧ a.out.K.length = 0 ∧ t = 0 ∧ m = 0) := Hid.mk (by
    rw [HI.out]
    simp only [Bool.and_eq_true, List.isEmpty_iff, List.length_eq_zero_iff]
    constructor
    · rintro ⟨h1, h2, ⟨h3, h4⟩, h5, h6⟩; exact ⟨h1, h2, h4, h3, h5, h6⟩
    · rintro ⟨h1, h2, h4, h3, h5, h6⟩; exact ⟨h1, h2, ⟨h3, h4⟩, h5, h6⟩)
  generalize hLl : a.out.L.length = y at *
  generalize hKk : a.out.K.length = z at *
  have HZ := Hid.mk hKk
  clear h hT hM hPl hVv hql hyl hLl hKk HI
  have no : ¬ (v = 0 ∧ n = 0 ∧ y = 0 ∧ z = 0 ∧ t = 0 ∧ m = 0) → Hid (R = false) := fun h' => by
    cases hS : R with
    | false => exact Hid.mk rfl
    | true => exact absurd (HI2.out.1 hS) h'
  have yes : (v = 0 ∧ n = 0 ∧ y = 0 ∧ z = 0 ∧ t = 0 ∧ m = 0) → Hid (R = true) := fun h' => Hid.mk (HI2.out.2 h')
  go_enter Tryz.func49, Tryz.ntmps49
  by_cases hv : v = 0
  · subst hv
    by_cases hn : n = 0
    · subst hn
      by_cases hy : y = 0
      · subst hy
        go_wp2_with fail
        refine HKy.out.mono ?_
        rintro e w1 ⟨u, rfl, hU, k1⟩
        obtain ⟨au, cu, rfl, -, -⟩ := hU.form
        rw [show (CT (keysL a.out.K)).length = a.out.K.length by simp [CT, keysL], HZ.out]
        obtain ⟨e0, e1, e2, e3, e4⟩ := (HA.out.kept0 k1).cells
        rw [HT.out.1] at e3
        rw [HT.out.2] at e4
        have HK := Hid.mk k1
        clear k1 hU d0 d1 d2 d3 d4 c9 ci co0 co1 co2 HKy HA
        by_cases hz : z = 0
        · subst hz
          by_cases ht : t = 0
          · subst ht
            by_cases hm : m = 0
            · subst hm
              have hR := yes (by simp)
              clear no yes
              go_wp2_with fail
              go_ret
              rw [hR.out]
              exact ⟨rfl, HK.out⟩
            · have gm : (((m : Int)) == 0) = false := beq_eq_false_iff_ne.2 (by omega)
              have hR := no (by simp [hm])
              clear no yes
              go_wp2_with fail
              go_ret
              rw [hR.out]
              exact ⟨rfl, HK.out⟩
          · have gt : (t == 0) = false := beq_eq_false_iff_ne.2 ht
            have hR := no (by simp [ht])
            clear no yes
            go_wp2_with fail
            go_ret
            rw [hR.out]
            exact ⟨rfl, HK.out⟩
        · have gz : ((z : Int) == 0) = false := beq_eq_false_iff_ne.2 (by omega)
          have hR := no (by simp [hz])
          clear no yes
          go_wp2_with fail
          go_ret
          rw [hR.out]
          exact ⟨rfl, HK.out⟩
      · have gy : ((y : Int) == 0) = false := beq_eq_false_iff_ne.2 (by omega)
        have hR := no (by simp [hy])
        clear no yes
        go_wp2_with fail
        go_ret
        rw [hR.out]
        exact ⟨rfl, Kept.refl [] _⟩
    · have gn : ((n : Int) == 0) = false := beq_eq_false_iff_ne.2 (by omega)
      have hR := no (by simp [hn])
      clear no yes
      go_wp2_with fail
      go_ret
      rw [hR.out]
      exact ⟨rfl, Kept.refl [] _⟩
  · have gv : ((v : Int) == 0) = false := beq_eq_false_iff_ne.2 (by omega)
    have hR := no (by simp [hv])
    clear no yes
    go_wp2_with fail
    go_ret
    rw [hR.out]
    exact ⟨rfl, Kept.refl [] _⟩
end
end Go.Proofs.YtdadloaifebdiaaGreat
/-
  Encode of a journal.
-/
namespace Go.Proofs.YtdadloaifebdiaaGreat
set_option maxRecDepth 100000
open Go.RowKit
set_option linter.unusedVariables false
section
variable {w0 w w' : World} {p q : Nat} {v : Value} {l : List UInt8}
theorem wq_int (h : Wq w0 w q v l) {z : Int} (hz : I64 z) (hb : l.length ≤ 1000000) : Calls Tryz.prog 88 #[.pointer (some ⟨q, 0, none⟩), Iv z] w fun e w' => e = .returned (.tuple #[]) ∧ ∃ v', Wq w0 w' q v' (l ++ enc (fold z)) ∧ Kept (foot q v) w w' := by
  refine (wint_any q v l z w h.1 hz.1 hz.2 (by omega)).mono ?_
  rintro e w' ⟨rfl, L⟩
  exact ⟨rfl, h.laid L⟩
end
theorem encI_length : ∀ (l : List Int), (encI l).length ≤ l.length * 9
  | [] => by simp [encI]
  | z :: l => by
    have h1 := encI_length l
    have h2 := enc_length (fold z)
    unfold encI at *
    simp only [List.flatMap_cons, List.length_append, List.length_cons]
    omega
theorem encV_length : ∀ (l : List Ev), (encV l).length ≤ l.length * 18
  | [] => by simp [encV]
  | e :: l => by
    have h1 := encV_length l
    have h2 := enc_length (fold e.v)
    have h3 := enc_length e.r
    unfold encV at *
    simp only [List.flatMap_cons, List.length_append, List.length_cons]
    omega
theorem encI_take {l : List Int} {j : Nat} {y : Int} (h : l[j]? = some y) : encI (l.take (j + 1)) = encI (l.take j) ++ enc (fold y) := by
  rw [List.take_add_one, h]
  simp [encI]
theorem encV_take {l : List Ev} {j : Nat} {y : Ev} (h : l[j]? = some y) : encV (l.take (j + 1)) = encV (l.take j) ++ (enc y.r ++ enc (fold y.v)) := by
  rw [List.take_add_one, h]
  simp [encV]
section
variable {w : World} {p : Nat} {j : Jn}
set_option maxHeartbeats 2000000 in
theorem encode21 (hJ : IsJ w p j) (hG : GoodJ j) : Calls Tryz.prog 33 #[.pointer (some ⟨p, 0, none⟩)] w fun e w' => NewB w (encJn j) e w' := by
  have HJ := Hid.mk hJ
  have HG := Hid.mk hG
  have hln := hJ.len
  have e1 := enc_length j.ver
  have e2 := enc_length j.ev.length
  have hb8 := hG.b8
  have hlI := encI_length j.base
  have ha : (List.map (fun n => Iv n) j.base) = BI j.base := rfl
  clear hJ hG ha
  go_enter Tryz.func33, Tryz.ntmps33
  go_wp2_with fail
  refine (newW _).mono ?_
  rintro e w2 ⟨q, rfl, hW2, k2, hq2⟩
  have W2 : Wq w w2 q (.slice none 0 0) [] := ⟨hW2, hq2, fresh_nil _ _, k2⟩
  have c2 := (HJ.out.kept0 k2).isP.ver
  have H3 := Hid.mk (wq_num W2 (n := j.ver) HG.out.v64 (by simp))
  clear W2 hW2 k2 hq2
  go_wp2_with fail
  refine H3.out.mono ?_
  rintro e w4 ⟨rfl, v4, W4, -⟩
  clear c2 H3
  rw [List.nil_append] at W4
  have h4 := (HJ.out.kept0 W4.2.2.2).isP
  have hld : (Instr.loadAt 97 (.pointer (some ⟨p, 0, none⟩))).run Tryz.prog w4 = .ok (.agg (BI j.base).toArray) w4 := run_loadAt_mid w4 p 0 97 _ _ h4.rangeA Tryz.underlying97 rfl (by rw [BI_length, hb8]; exact size29)
  have HW4 := Hid.mk W4
  clear W4 h4
  generalize hB : enc j.ver = B1 at *
  have HB1 := Hid.mk hB
  clear hB
  go_wp2_with (first | (refine wpList_load_run 97 (.tmp 19) rfl rfl _ rfl _ hld ?_))
  clear hld
  go_loopw [21] (fun i wr => ∃ k : Nat, i = .int .i64 (k : Int) ∧ k ≤ 8 ∧ Hid (∃ v, Wq w wr q v (B1 ++ encI (j.base.take k)))) (fun i _ => 8 - (intOf i).toNat)
  case atStart => exact ⟨0, rfl, by omega, Hid.mk ⟨v4, by simpa [encI] using HW4.out⟩⟩
  case round =>
    obtain ⟨k, rfl, hk, hH⟩ := hrel
    obtain ⟨v6, W6⟩ := hH.out
    have hlK := encI_length (j.base.take k)
    rw [List.length_take] at hlK
    by_cases hlt : k < 8
    · have hkI : (k : Int) < 8 := by omega
      obtain ⟨y, hy⟩ : ∃ y, j.base[k]? = some y := ⟨_, List.getElem?_eq_getElem (by omega)⟩
      have hix : ∀ W : World, (Instr.index 97 (.agg (BI j.base).toArray) (.int .i64 (k : Int))).run Tryz.prog W = .ok (Iv y) W := fun W => index29 hb8 hy W
      have H8 := Hid.mk (wq_int W6 (z := y) (HG.out.b64 y (List.mem_of_getElem? hy)) (by rw [List.length_append]; omega))
      have HE := Hid.mk (encI_take hy)
      clear hH W6 hy
      go_wp2_with fail
      refine H8.out.mono ?_
      rintro e w8 ⟨rfl, v8, W8, -⟩
      have HW8 : Hid (∃ v, Wq w w8 q v (B1 ++ encI (j.base.take (k + 1)))) := ⟨v8, by rw [HE.out, ← List.append_assoc]; exact W8⟩
      clear H8 W8 hix
      go_wp2_with fail
      go_roundw
      case rel => exact ⟨k + 1, by go_num, by omega, HW8⟩
      case measure => simp [intOf]; omega
    · obtain rfl : k = 8 := by omega
      have hJ6 := HJ.out.kept0 W6.2.2.2
      have c6 := hJ6.isP.count
      rw [List.take_of_length_le (by omega)] at W6 hlK
      have H8 := Hid.mk (wq_num W6 (n := j.ev.length) (by unfold U64; omega) (by rw [List.length_append]; omega))
      have g0 : IntKind.u64.wrap (j.ev.length : Int) = (j.ev.length : Int) := by rw [IntKind.wrap_u64]; omega
      have g1 : (0 : Int) ≤ (j.ev.length : Int) := by omega
      clear hH W6 hJ6
      generalize hn : j.ev.length = n at *
      have HN := Hid.mk hn
      clear hn
      go_wp2_with fail
      refine H8.out.mono ?_
      rintro e w8 ⟨rfl, v8, W8, -⟩
      have HC := Hid.mk (behind31 (HJ.out.kept0 W8.2.2.2))
      rw [HN.out] at HC
      have HW8 := Hid.mk W8
      clear H8 W8 c6
      go_wp2_with fail
      refine HC.out.mono ?_
      rintro e w9 ⟨rfl, k9⟩
      have HW9 := Hid.mk (HW8.out.kept0 k9)
      have hX1 : (B1 ++ encI j.base ++ enc n).length ≤ 90 := by rw [List.length_append, List.length_append]; omega
      generalize hX : B1 ++ encI j.base ++ enc n = X at *
      have HX := Hid.mk hX
      clear HC HW8 k9 hX
      go_wp2_with fail
      go_loopw [38] (fun i wr => ∃ k : Nat, i = .int .i64 (k : Int) ∧ k ≤ n ∧ Hid (∃ v, Wq w wr q v (X ++ encV (j.ev.take k)))) (fun i _ => n - (intOf i).toNat)
      case atStart => exact ⟨0, rfl, by omega, Hid.mk ⟨v8, by simpa [encV] using HW9.out⟩⟩
      case round =>
        obtain ⟨k, rfl, hk2, hH⟩ := hrel
        obtain ⟨v10, W10⟩ := hH.out
        have hlK2 := encV_length (j.ev.take k)
        rw [List.length_take] at hlK2
        by_cases hlt2 : k < n
        · have hkI2 : (k : Int) < (n : Int) := by omega
          have hnI : (n : Int) ≤ 16 := by omega
          obtain ⟨y, hy⟩ : ∃ y, j.ev[k]? = some y := ⟨_, List.getElem?_eq_getElem (by have := HN.out; omega)⟩
          obtain ⟨d0, d1⟩ := (HJ.out.kept0 W10.2.2.2).at hy
          obtain ⟨y7, yv⟩ := HG.out.ev y (List.mem_of_getElem? hy)
          obtain ⟨W11, e11, k11, hz11, hb11⟩ := box1 wr (.cells #[Iv (y.r : Int), Iv y.v] 107)
          have H12 := Hid.mk (wq_num (W10.kept0 k11) (n := y.r) (by unfold U64; omega) (by rw [List.length_append]; omega))
          have HB11 : Hid (wr.heap.size ∉ foot q v10) := (W10.kept0 k11).notin hb11 (by decide)
          have HBX := Hid.mk hb11
          have HE := Hid.mk (encV_take hy)
          have t1 := enc_length y.r
          have hXl : (X ++ encV (j.ev.take k)).length ≤ 378 := by rw [List.length_append]; omega
          have g2 : IntKind.u64.wrap (y.r : Int) = (y.r : Int) := by rw [IntKind.wrap_u64]; omega
          have g3 : (0 : Int) ≤ (y.r : Int) := by omega
          have E11 := Hid.mk e11
          clear hH W10 hy k11 hz11 e11 hb11
          go_wp2_with fail
          rw [E11.out]
          refine H12.out.mono ?_
          rintro e w12 ⟨rfl, v12, W12, k12⟩
          have hb12 := k12.keeps HBX.out HB11.out
          obtain ⟨-, c12⟩ := cells2 hb12
          have H13 := Hid.mk (wq_int W12 yv (by rw [List.length_append]; omega))
          clear W12 k12 hb12 H12 HBX HB11 d0 d1
          go_wp2_with fail
          refine H13.out.mono ?_
          rintro e w13 ⟨rfl, v13, W13, -⟩
          have HW13 : Hid (∃ v, Wq w w13 q v (X ++ encV (j.ev.take (k + 1)))) := ⟨v13, by rw [HE.out]; simpa [List.append_assoc] using W13⟩
          clear W13 H13 c12
          go_wp2_with fail
          go_roundw
          case rel => exact ⟨k + 1, by go_num, by omega, HW13⟩
          case measure => simp [intOf]; omega
        · obtain rfl : k = n := by omega
          have HBt := Hid.mk (wbytes_any q v10 _ wr W10.1 (by rw [List.length_append]; omega))
          have HKr := Hid.mk W10.2.2.2
          clear W10 hH
          go_wp2_with fail
          refine HBt.out.mono ?_
          rintro e w13 ⟨v13, rfl, hO13, k13, hf13⟩
          go_wp2_with fail
          go_ret
          refine ⟨v13, rfl, ?_, HKr.out.trans k13 (by simp), fun g hg => ?_⟩
          · rw [List.take_of_length_le (by have := HN.out; omega), ← HX.out, ← HB1.out] at hO13
            unfold encJn
            rw [HN.out]
            simpa [List.append_assoc] using hO13
          · have := hf13 g hg
            have := HKr.out.size
            omega
end
end Go.Proofs.YtdadloaifebdiaaGreat
