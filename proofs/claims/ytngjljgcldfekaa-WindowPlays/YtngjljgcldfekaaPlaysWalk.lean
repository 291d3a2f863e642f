/-
  WindowPlays: the walk.
-/
import Derived.Test.YtngjljgcldfekaaSy
namespace Go.Proofs.Ytngjljgcldfekaa
open Go.RowKit
set_option linter.unusedVariables false
section
variable {w : World}
/-- A window of the document's, of nothing. -/
theorem isF_new (w : World) : IsF (w.alloc (.cells #[.slice none 0 0] 29)) w.heap.size (.slice none 0 0) [] :=
  ⟨heap_alloc_new w _, ReadsR.nil 2 _, (fun q hq => by simp at hq), Typ.nil _ _ _ _, by simp⟩
theorem pair_new {w1 w2 : World} (k : Kept [] w w1) {p : Nat} (h : Win w w1 p []) (hp : p < w1.heap.size) : Pair w (w1.alloc (.cells #[.slice none 0 0] 29)) p w1.heap.size [] [] :=
  ⟨h.kept0 ((Kept.refl [] w1).alloc _), ⟨_, [], isF_new w1, rfl⟩, Good.nil, h.kept.size⟩
set_option maxRecDepth 100000 in
set_option maxHeartbeats 2000000 in
theorem plays_walk {a a' : Option Addr} {n m c c' : Nat} {l l' : List Pr} (hr : PairsIn w (.slice a n c) l) (hr' : PairsIn w (.slice a' m c') l') (zero : Bool) : Calls Try.prog 3 #[.slice a n c, .slice a' m c', .bool zero] w fun e w' => e = .returned (.bool true) ∧ Kept [] w w' := by
  obtain ⟨hn, hc1, hc2⟩ := hr.1.bound
  obtain ⟨hm, hc1', hc2'⟩ := hr'.1.bound
  have HR := Hid.mk hr
  have HN := Hid.mk hn
  have HR' := Hid.mk hr'
  have HM := Hid.mk hm
  have hz := zero36
  have HZ : Hid (∀ W : World, IsWd (W.alloc (.cells (cellsW []).toArray 36)) W.heap.size []) := IsWd.new
  generalize (cellsW []).toArray = cs at hz HZ
  clear hr hn hr' hm
  go_enter Try.func3, Try.ntmps3
  go_wp2_with fail
  refine awake9.mono ?_
  rintro e w1 ⟨rfl, k1⟩
  by_cases h3 : 300 < n
  · have g3 : (300 : Int) < (n : Int) := by omega
    go_wp2_with fail
    refine awake9.mono ?_
    rintro e w2 ⟨rfl, k2⟩
    go_wp2_with fail
    go_ret
    exact ⟨rfl, k1.trans k2 (by simp)⟩
  have g3 : ((300 : Int) < (n : Int)) = False := eq_false (by omega)
  by_cases h3' : 300 < m
  · have g3' : (300 : Int) < (m : Int) := by omega
    go_wp2_with fail
    refine awake9.mono ?_
    rintro e w2 ⟨rfl, k2⟩
    go_wp2_with fail
    go_ret
    exact ⟨rfl, k1.trans k2 (by simp)⟩
  have g3' : ((300 : Int) < (m : Int)) = False := eq_false (by omega)
  go_wp2_with fail
  refine (win_new k1).mono ?_
  rintro e w2 ⟨rfl, h2, k2⟩
  have hlp := h2.is.lt
  generalize w1.heap.size = p at h2 hlp ⊢
  cases zero with
  | false =>
    have hP := pair_new (w2 := w2) h2.kept h2 hlp
    clear h2 hz HZ k2 k1
    go_wp2_with fail
    generalize hpf : w2.heap.size = pf at hP ⊢
    generalize w2.alloc (.cells #[.slice none 0 0] 29) = W0 at hP ⊢
    clear hpf hlp
    go_loopw [32] (fun i wr => ∃ (j : Nat) (L : List Cl), i = .int .i64 (j : Int) ∧ j ≤ n ∧ Hid (Pair w wr p pf L L)) (fun i _ => n - (intOf i).toNat)
    case atStart => exact ⟨0, [], rfl, by omega, Hid.mk hP⟩
    case round =>
      clear hP
      obtain ⟨j, L, rfl, hj, hH⟩ := hrel
      by_cases hlt : j < n
      · have hjI : (j : Int) < (n : Int) := by omega
        have hj0 : (0 : Int) ≤ (j : Int) := by omega
        obtain ⟨x, hx⟩ : ∃ x, l[j]? = some x := ⟨_, List.getElem?_eq_getElem (by have := HN.out; omega)⟩
        have hxn := HR.out.2 x (List.mem_of_getElem? hx)
        have HXN := Hid.mk hxn
        obtain ⟨b, o, rfl, -, -⟩ := HR.out.1.at hx
        have HS : Hid (∀ W, Kept [] w W → W.cell? ⟨b, o + j * 2, none⟩ = some (Uv x.c) ∧ W.cell? ⟨b, o + j * 2 + 1, none⟩ = some (Uv x.s)) := fun W k => by
          obtain ⟨b', o', e, d0, d1⟩ := (HR.out.1.kept0 k).at hx
          injection e with e
          injection e with e1 e2 _
          subst e1 e2
          exact ⟨d0, d1⟩
        have hPd := hH.out.kept0 (Kept.refl [] wr).drew
        have S0 := HS.out _ hPd.win.kept
        have HA := Hid.mk (pair_add hPd hxn.1 hxn.2)
        have hbb : ∀ b : Bool, (b != b) = false := by decide
        have hbs := hbb (!seenL L x.c x.s)
        clear hPd hx hxn hH hbb
        generalize hD : (!seenL L x.c x.s) = D at HA hbs
        have HDD := Hid.mk hD
        clear hD
        go_wp2_with fail
        go_region_held3 (fun W => W.cell? ⟨b, o + j * 2, none⟩ = some (Uv x.c) ∧ W.cell? ⟨b, o + j * 2 + 1, none⟩ = some (Uv x.s)) (first | exact S0 | exact S1 | exact S2 | exact S3) (first | (go_at_call 13; refine (same13 h5).mono ?_; rintro e w6 ⟨rfl, h6, -⟩; have S3 := HS.out _ h6.win.kept) | (go_at_call 12; refine (pair_radd h4 HXN.out.1 HXN.out.2).mono ?_; rintro e w5 ⟨rfl, h5⟩; have S2 := HS.out _ h5.win.kept; rw [HDD.out]) | (go_at_call 11; refine HA.out.mono ?_; rintro e w4 ⟨rfl, h4⟩; have S1 := HS.out _ h4.win.kept))
        have H6 := Hid.mk h6
        clear S0 S1 S2 S3 h4 h5 h6 hbs
        go_wp2_with fail
        go_roundw
        case rel => exact ⟨j + 1, _, by go_num, by omega, H6⟩
        case measure => simp [intOf]; omega
      · obtain rfl : j = n := by omega
        go_wp2_with fail
        go_loopw [69] (fun i wr => ∃ j : Nat, i = .int .i64 (j : Int) ∧ j ≤ m ∧ Hid (Pair w wr p pf L L)) (fun i _ => m - (intOf i).toNat)
        case atStart => exact ⟨0, rfl, by omega, hH⟩
        case round =>
          clear hH hlt
          obtain ⟨k, rfl, hk, hH⟩ := hrel
          by_cases hlt : k < m
          · have hjI : (k : Int) < (m : Int) := by omega
            have hj0 : (0 : Int) ≤ (k : Int) := by omega
            obtain ⟨x, hx⟩ : ∃ x, l'[k]? = some x := ⟨_, List.getElem?_eq_getElem (by have := HM.out; omega)⟩
            obtain ⟨b, o, rfl, -, -⟩ := HR'.out.1.at hx
            have HS : Hid (∀ W, Kept [] w W → W.cell? ⟨b, o + k * 2, none⟩ = some (Uv x.c) ∧ W.cell? ⟨b, o + k * 2 + 1, none⟩ = some (Uv x.s)) := fun W kk => by
              obtain ⟨b', o', e, d0, d1⟩ := (HR'.out.1.kept0 kk).at hx
              injection e with e
              injection e with e1 e2 _
              subst e1 e2
              exact ⟨d0, d1⟩
            have hPd := hH.out.kept0 (Kept.refl [] wr).drew
            have S0 := HS.out _ hPd.win.kept
            have HA := Hid.mk (pair_seen hPd x.c x.s)
            have hbb : ∀ b : Bool, (b != b) = false := by decide
            have hbs := hbb (seenL L x.c x.s)
            clear hPd hx hH hbb
            generalize hD : seenL L x.c x.s = D at HA hbs
            have HDD := Hid.mk hD
            clear hD
            go_wp2_with fail
            go_region_held3 (fun W => W.cell? ⟨b, o + k * 2, none⟩ = some (Uv x.c) ∧ W.cell? ⟨b, o + k * 2 + 1, none⟩ = some (Uv x.s)) (first | exact S0 | exact S1 | exact S2 | exact S3 | exact S4 | exact S5) (first | (go_at_call 16; refine (same16 (r6.kept0 k7) r7 rfl).mono ?_; rintro e w8 ⟨rfl, k8⟩; have h8 := h7.kept0 k8; have S5 := HS.out _ h8.win.kept) | (go_at_call 18; refine (pair_rserials h6 x.c).mono ?_; rintro e w7 ⟨a7, n7, c7, rfl, r7, h7, k7⟩; have S4 := HS.out _ h7.win.kept) | (go_at_call 17; refine (pair_serials h5 x.c).mono ?_; rintro e w6 ⟨a6, n6, c6, rfl, r6, h6, -⟩; have S3 := HS.out _ h6.win.kept) | (go_at_call 15; refine (pair_rseen h4 x.c x.s).mono ?_; rintro e w5 ⟨rfl, h5, -⟩; have S2 := HS.out _ h5.win.kept; rw [HDD.out]) | (go_at_call 14; refine HA.out.mono ?_; rintro e w4 ⟨rfl, h4, -⟩; have S1 := HS.out _ h4.win.kept))
            have H8 := Hid.mk h8
            clear S0 S1 S2 S3 S4 S5 h4 h5 h6 h7 h8 r6 r7 k7 k8 hbs
            go_wp2_with fail
            go_roundw
            case rel => exact ⟨k + 1, by go_num, by omega, H8⟩
            case measure => simp [intOf]; omega
          · obtain rfl : k = m := by omega
            go_wp2_with fail
            go_ret
            exact ⟨rfl, hH.out.win.kept⟩
  | true =>
    have kA := (Kept.refl [] w2).alloc (.cells #[.slice none 0 0] 29)
    have hF0 := isF_new w2
    have k3 := kA.alloc (.cells cs 36)
    have k13 := h2.kept.trans k3 (by simp)
    have hsz : (w2.alloc (.cells #[.slice none 0 0] 29)).heap.size = w2.heap.size + 1 := by simp
    have hwn := HZ.out (w2.alloc (.cells #[.slice none 0 0] 29))
    have hP : Pair w ((w2.alloc (.cells #[.slice none 0 0] 29)).alloc (.cells cs 36)) (w2.heap.size + 1) w2.heap.size [] [] :=
      ⟨⟨by rw [← hsz]; exact hwn, Good.nil, k13, by have := h2.kept.size; omega⟩, ⟨_, [], hF0.kept0 ((Kept.refl [] _).alloc _), rfl⟩, Good.nil, h2.kept.size⟩
    clear h2 HZ k2 k1 kA hF0 k3 k13 hwn hsz
    go_wp2_with fail
    generalize hpf : w2.heap.size = pf at hP ⊢
    generalize pf + 1 = p' at hP ⊢
    generalize (w2.alloc (.cells #[.slice none 0 0] 29)).alloc (.cells cs 36) = W0 at hP ⊢
    clear hpf hlp hz
    go_loopw [32] (fun i wr => ∃ (j : Nat) (L : List Cl), i = .int .i64 (j : Int) ∧ j ≤ n ∧ Hid (Pair w wr p' pf L L)) (fun i _ => n - (intOf i).toNat)
    case atStart => exact ⟨0, [], rfl, by omega, Hid.mk hP⟩
    case round =>
      clear hP
      obtain ⟨j, L, rfl, hj, hH⟩ := hrel
      by_cases hlt : j < n
      · have hjI : (j : Int) < (n : Int) := by omega
        have hj0 : (0 : Int) ≤ (j : Int) := by omega
        obtain ⟨x, hx⟩ : ∃ x, l[j]? = some x := ⟨_, List.getElem?_eq_getElem (by have := HN.out; omega)⟩
        have hxn := HR.out.2 x (List.mem_of_getElem? hx)
        have HXN := Hid.mk hxn
        obtain ⟨b, o, rfl, -, -⟩ := HR.out.1.at hx
        have HS : Hid (∀ W, Kept [] w W → W.cell? ⟨b, o + j * 2, none⟩ = some (Uv x.c) ∧ W.cell? ⟨b, o + j * 2 + 1, none⟩ = some (Uv x.s)) := fun W k => by
          obtain ⟨b', o', e, d0, d1⟩ := (HR.out.1.kept0 k).at hx
          injection e with e
          injection e with e1 e2 _
          subst e1 e2
          exact ⟨d0, d1⟩
        have hPd := hH.out.kept0 (Kept.refl [] wr).drew
        have S0 := HS.out _ hPd.win.kept
        have HA := Hid.mk (pair_add hPd hxn.1 hxn.2)
        have hbb : ∀ b : Bool, (b != b) = false := by decide
        have hbs := hbb (!seenL L x.c x.s)
        clear hPd hx hxn hH hbb
        generalize hD : (!seenL L x.c x.s) = D at HA hbs
        have HDD := Hid.mk hD
        clear hD
        go_wp2_with fail
        go_region_held3 (fun W => W.cell? ⟨b, o + j * 2, none⟩ = some (Uv x.c) ∧ W.cell? ⟨b, o + j * 2 + 1, none⟩ = some (Uv x.s)) (first | exact S0 | exact S1 | exact S2 | exact S3) (first | (go_at_call 13; refine (same13 h5).mono ?_; rintro e w6 ⟨rfl, h6, -⟩; have S3 := HS.out _ h6.win.kept) | (go_at_call 12; refine (pair_radd h4 HXN.out.1 HXN.out.2).mono ?_; rintro e w5 ⟨rfl, h5⟩; have S2 := HS.out _ h5.win.kept; rw [HDD.out]) | (go_at_call 11; refine HA.out.mono ?_; rintro e w4 ⟨rfl, h4⟩; have S1 := HS.out _ h4.win.kept))
        have H6 := Hid.mk h6
        clear S0 S1 S2 S3 h4 h5 h6 hbs
        go_wp2_with fail
        go_roundw
        case rel => exact ⟨j + 1, _, by go_num, by omega, H6⟩
        case measure => simp [intOf]; omega
      · obtain rfl : j = n := by omega
        go_wp2_with fail
        go_loopw [69] (fun i wr => ∃ j : Nat, i = .int .i64 (j : Int) ∧ j ≤ m ∧ Hid (Pair w wr p' pf L L)) (fun i _ => m - (intOf i).toNat)
        case atStart => exact ⟨0, rfl, by omega, hH⟩
        case round =>
          clear hH hlt
          obtain ⟨k, rfl, hk, hH⟩ := hrel
          by_cases hlt : k < m
          · have hjI : (k : Int) < (m : Int) := by omega
            have hj0 : (0 : Int) ≤ (k : Int) := by omega
            obtain ⟨x, hx⟩ : ∃ x, l'[k]? = some x := ⟨_, List.getElem?_eq_getElem (by have := HM.out; omega)⟩
            obtain ⟨b, o, rfl, -, -⟩ := HR'.out.1.at hx
            have HS : Hid (∀ W, Kept [] w W → W.cell? ⟨b, o + k * 2, none⟩ = some (Uv x.c) ∧ W.cell? ⟨b, o + k * 2 + 1, none⟩ = some (Uv x.s)) := fun W kk => by
              obtain ⟨b', o', e, d0, d1⟩ := (HR'.out.1.kept0 kk).at hx
              injection e with e
              injection e with e1 e2 _
              subst e1 e2
              exact ⟨d0, d1⟩
            have hPd := hH.out.kept0 (Kept.refl [] wr).drew
            have S0 := HS.out _ hPd.win.kept
            have HA := Hid.mk (pair_seen hPd x.c x.s)
            have hbb : ∀ b : Bool, (b != b) = false := by decide
            have hbs := hbb (seenL L x.c x.s)
            clear hPd hx hH hbb
            generalize hD : seenL L x.c x.s = D at HA hbs
            have HDD := Hid.mk hD
            clear hD
            go_wp2_with fail
            go_region_held3 (fun W => W.cell? ⟨b, o + k * 2, none⟩ = some (Uv x.c) ∧ W.cell? ⟨b, o + k * 2 + 1, none⟩ = some (Uv x.s)) (first | exact S0 | exact S1 | exact S2 | exact S3 | exact S4 | exact S5) (first | (go_at_call 16; refine (same16 (r6.kept0 k7) r7 rfl).mono ?_; rintro e w8 ⟨rfl, k8⟩; have h8 := h7.kept0 k8; have S5 := HS.out _ h8.win.kept) | (go_at_call 18; refine (pair_rserials h6 x.c).mono ?_; rintro e w7 ⟨a7, n7, c7, rfl, r7, h7, k7⟩; have S4 := HS.out _ h7.win.kept) | (go_at_call 17; refine (pair_serials h5 x.c).mono ?_; rintro e w6 ⟨a6, n6, c6, rfl, r6, h6, -⟩; have S3 := HS.out _ h6.win.kept) | (go_at_call 15; refine (pair_rseen h4 x.c x.s).mono ?_; rintro e w5 ⟨rfl, h5, -⟩; have S2 := HS.out _ h5.win.kept; rw [HDD.out]) | (go_at_call 14; refine HA.out.mono ?_; rintro e w4 ⟨rfl, h4, -⟩; have S1 := HS.out _ h4.win.kept))
            have H8 := Hid.mk h8
            clear S0 S1 S2 S3 S4 S5 h4 h5 h6 h7 h8 r6 r7 k7 k8 hbs
            go_wp2_with fail
            go_roundw
            case rel => exact ⟨k + 1, by go_num, by omega, H8⟩
            case measure => simp [intOf]; omega
          · obtain rfl : k = m := by omega
            go_wp2_with fail
            go_ret
            exact ⟨rfl, hH.out.win.kept⟩
end
end Go.Proofs.Ytngjljgcldfekaa
