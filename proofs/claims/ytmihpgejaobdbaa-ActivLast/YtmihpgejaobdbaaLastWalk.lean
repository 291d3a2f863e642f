/-
  ActivLast: the walk.
-/
import Derived.Test.YtmihpgejaobdbaaTwoWalk
namespace Go.Proofs.Ytmihpgejaobdbaa
set_option maxRecDepth 100000
open Go.RowKit
set_option linter.unusedVariables false
section
variable {w : World}
/-- What is wanted so far. -/
def Wants (w wr : World) (c : Nat) (ks : List Ky) (j : Nat) (x : Value) : Prop := ∃ W, OwnsR 9 1 wr x (CT W) ∧ Fresh w x ∧ W.length ≤ c ∧ wantT c W (ks.take j).reverse = (lastT c (allT ks)).reverse
theorem Wants.end_ {c j : Nat} {ks : List Ky} {W : List Ky} (h2 : wantT c W (ks.take j).reverse = (lastT c (allT ks)).reverse) (h : j = 0 ∨ c ≤ W.length) : W = (lastT c (allT ks)).reverse := by
  rcases h with rfl | h
  · simpa [wantT] using h2
  · rw [← h2]
    cases (ks.take j).reverse with
    | nil => rfl
    | cons s r => rw [wantT, if_neg (by omega)]
theorem want_step {c : Nat} {W : List Ky} {ks : List Ky} {j : Nat} {s : Ky} (hs : ks[j]? = some s) (hl : W.length < c) : wantT c W (ks.take (j + 1)).reverse = wantT c (if s ∈ W then W else W ++ [s]) (ks.take j).reverse := by
  rw [List.take_add_one, hs]
  simp only [Option.toList_some, List.reverse_append, List.reverse_cons, List.reverse_nil, List.nil_append, List.singleton_append]
  rw [wantT, if_pos hl]
set_option maxHeartbeats 4000000 in
theorem last_walk (n : Nat) (hn : n < 256) {a : Option Addr} {ln cap : Nat} {ks : List Ky} (hK : KeysIn w (.slice a ln cap) ks) : Calls Try.prog 4 #[.int .u8 (n : Int), .slice a ln cap] w fun e w' => e = .returned (.bool true) ∧ Kept [] w w' := by
  obtain ⟨hl, hc1, hc2⟩ := hK.1.bound
  have HK := Hid.mk hK
  have HL := Hid.mk hl
  clear hK hl
  go_enter Try.func4, Try.ntmps4
  go_wp2_with fail
  refine (awake7 _).mono ?_
  rintro e w1 ⟨rfl, k1⟩
  have K1 := Hid.mk k1
  clear k1
  by_cases h300 : 300 < ln
  · have hI : (300 : Int) < (ln : Int) := by omega
    go_wp2_with fail
    refine (awake7 _).mono ?_
    rintro e w2 ⟨rfl, k2⟩
    have K2 : Hid (Kept [] w w2) := K1.out.trans k2 (by simp)
    clear k2
    go_wp2_with fail
    go_ret
    exact ⟨rfl, K2.out⟩
  · have hI : ¬ (300 : Int) < (ln : Int) := by omega
    go_wp2_with fail
    refine (new8 (n : Int) _).mono ?_
    rintro e w2 ⟨A, rfl, hA, k2, hA2⟩
    have hca : cp (min (max (n : Int) 1) 10000) = max n 1 := cp_min n (by omega)
    have p0 : Pair w w2 (TX A (min (max (n : Int) 1) 10000) []) (fun _ G => G = []) :=
      ⟨[A], [], hA, rfl, by simp, fun b hb => by simp at hb; subst hb; exact Nat.le_trans K1.out.size hA2, by simp, K1.out.trans k2 (by simp)⟩
    have sY : Stays (fun _ G => G = []) := ⟨fun h _ _ => h, fun h => by subst h; simp⟩
    generalize hma : min (max (n : Int) 1) 10000 = ma at *
    have P0 := Hid.mk p0
    have SY := Hid.mk sY
    have HCA := Hid.mk hca
    have H1 : Hid (1 ≤ cp ma ∧ cp ma ≤ 10000) := by
      show _ ∧ _
      rw [hca]
      omega
    clear p0 sY hca hA k2 hA2 hma K1
    go_wp2_with fail
    go_loopw [24] (fun i wr => ∃ j : Nat, i = .int .i64 (j : Int) ∧ j ≤ ln ∧ Hid (Pair w wr (TX A ma (lastT (cp ma) (allT (ks.take j)))) (fun _ G => G = []))) (fun i _ => ln - (intOf i).toNat)
    case atStart => exact ⟨0, rfl, by omega, Hid.mk (by
      have := P0.out
      rw [show ks.take 0 = [] from rfl, show allT [] = [] from rfl, lastT_nil]
      exact this)⟩
    case round =>
      obtain ⟨j, rfl, hj, hP⟩ := hrel
      by_cases hlt : j < ln
      · obtain ⟨s, hs⟩ : ∃ s, ks[j]? = some s := ⟨_, List.getElem?_eq_getElem (by have := HL.out; omega)⟩
        obtain ⟨b, o, rfl, e2⟩ := TextsIn.at (HK.out.1.kept0 hP.out.old) hs
        have hsl := HK.out.2 s (List.mem_of_getElem? hs)
        have HS := Hid.mk hs
        have HSL := Hid.mk hsl
        have hjI : (j : Int) < (ln : Int) := by omega
        clear hs hsl
        go_wp2_with fail
        refine (hP.out.touch SY.out HSL.out (lastT_len _ _) H1.out.2).mono ?_
        rintro e w4 ⟨rfl, p4⟩
        rw [last_step H1.out.1 HS.out] at p4
        have HP4 := Hid.mk p4
        clear p4 hP e2
        go_wp2_with fail
        go_roundw
        case rel => exact ⟨j + 1, by go_num, by omega, HP4⟩
        case measure => simp [intOf]; omega
      · obtain rfl : j = ln := by omega
        have hjI : ((j : Int) < (j : Int)) = False := eq_false (by omega)
        have hP2 := hP.out
        rw [List.take_of_length_le (by rw [HL.out]; omega)] at hP2
        have HP2 := Hid.mk hP2
        clear hP hP2 hlt hj
        go_wp2_with fail
        have hP2 := HP2.out
        generalize hw2 : wr = w3 at hP2 HP2 ⊢
        clear hw2
        go_loopw [7, 8] (fun x i wr => ∃ (k : Nat) (z : Int), i = .int .i64 z ∧ z = (k : Int) - 1 ∧ k ≤ j ∧ Hid (Wants w3 wr (cp ma) ks k x) ∧ Hid (Kept [] w3 wr)) (fun _ i _ => (intOf i + 1).toNat)
        case atStart => exact ⟨j, _, rfl, rfl, Nat.le_refl _, Hid.mk ⟨[], OwnsR.nil 9 1 _, fresh_nil _ _, by simp, by
          rw [List.take_of_length_le (by rw [HL.out]; omega)]
          exact want_last _ _⟩, Hid.mk (Kept.refl _ _)⟩
        case round =>
          obtain ⟨k, z, rfl, hz, hk, hW, hk3⟩ := hrel
          obtain ⟨W, hO, hf, hWl, hWw⟩ := hW.out
          obtain ⟨ax, cx, rfl, -⟩ := OwnsR.form hO
          have hTW : TextsIn wr _ W := hO.reads (CT_wide _)
          rw [CT_length] at hO hf hTW ⊢
          have hmx : (max (n : Int) 1) = ((cp ma : Nat) : Int) := by rw [HCA.out]; omega
          have HMX := Hid.mk hmx
          cases k with
          | zero =>
            obtain rfl : z = -1 := by omega
            have hWe := Wants.end_ hWw (.inl rfl)
            clear hmx hz
            subst hWe
            rw [List.length_reverse] at hO hf hTW ⊢
            have p3 := HP2.out.quiet (stays_T _ _ _) SY.out hk3.out
            obtain ⟨F, hX⟩ := p3.left
            have HX := Hid.mk (list17 hX (by have := lastT_len (cp ma) (allT ks); have := H1.out; omega))
            have HXF := Hid.mk hX
            have HP3 := Hid.mk p3
            have HWW := Hid.mk hO
            have HWF := Hid.mk hf
            clear hX p3 hO hf hTW hW hWl hWw hk3 HP2 hP2
            go_wp2_with fail
            refine HX.out.mono ?_
            rintro e w5 ⟨v, rfl, hOL, k5, hf5⟩
            have hW5 := HWW.out.kept k5 (by simp)
            have hT5 := (stays_T _ _ _).kept HXF.out k5 (by simp)
            have K5 : Hid (Kept [] w w5) := HP3.out.old.trans k5 (by simp)
            obtain ⟨al, cl, rfl, g1, g2⟩ := OwnsR.form hOL
            have hTL : TextsIn w5 _ (lastT (cp ma) (allT ks)) := hOL.reads (CT_wide _)
            have hTW : TextsIn w5 _ (lastT (cp ma) (allT ks)).reverse := hW5.reads (CT_wide _)
            rw [CT_length (lastT (cp ma) (allT ks))] at hTL g1 ⊢
            obtain ⟨q, hq⟩ : ∃ q, (lastT (cp ma) (allT ks)).length = q := ⟨_, rfl⟩
            have HLk : Hid (∀ s ∈ lastT (cp ma) (allT ks), s.length ≤ 140737488355328) := hT5.keys.2
            have hqb : q ≤ 10000 := by rw [← hq]; have := lastT_len (cp ma) (allT ks); have := H1.out; omega
            rw [hq] at hTL g1 hTW ⊢
            generalize hLL : lastT (cp ma) (allT ks) = L at *
            have HTL := Hid.mk hTL
            have HTW := Hid.mk hTW
            have HT5 := Hid.mk hT5
            have HQ := Hid.mk hq
            clear hOL k5 hf5 hW5 hT5 hTL hTW hq hLL HX HXF HWW HP3 HWF
            go_wp2_with fail
            go_loopw [72] (fun i wr => ∃ i' : Nat, i = .int .i64 (i' : Int) ∧ i' ≤ q ∧ Hid (Kept [] w5 wr)) (fun i _ => q - (intOf i).toNat)
            case atStart => exact ⟨0, rfl, by omega, Hid.mk (Kept.refl _ _)⟩
            case round =>
              obtain ⟨t, rfl, ht, hk6⟩ := hrel
              by_cases hlt6 : t < q
              · obtain ⟨p, hp⟩ : ∃ p, q = t + p + 1 := ⟨q - 1 - t, by omega⟩
                have hps : p < L.length := by rw [HQ.out]; omega
                have hs1 : L[p]? = some L[p] := List.getElem?_eq_getElem hps
                have hs2 : L.reverse[t]? = some L[p] := by
                  rw [List.getElem?_reverse (by rw [HQ.out]; omega), ← hs1, HQ.out]
                  congr 1
                  omega
                generalize L[p] = s at hs1 hs2
                obtain ⟨b, o, rfl, e1⟩ := TextsIn.at (HTL.out.kept0 hk6.out.drew) hs1
                obtain ⟨b', o', rfl, e2⟩ := TextsIn.at (HTW.out.kept0 hk6.out.drew) hs2
                have hsL : s ∈ L := List.mem_of_getElem? hs1
                have HC := Hid.mk (has14 ((stays_T _ _ _).kept HT5.out hk6.out.drew (by simp)) (HLk.out s hsL))
                rw [decide_eq_true hsL] at HC
                have S0 := And.intro e1 e2
                have htI : (t : Int) < (q : Int) := by omega
                have hix : IntKind.i64.wrap ((q : Int) - 1) = (q : Int) - 1 := by rw [IntKind.wrap_i64]; omega
                have hiy : IntKind.i64.wrap ((q : Int) - 1 - (t : Int)) = (p : Int) := by rw [IntKind.wrap_i64]; omega
                have hpI : (p : Int) < (q : Int) := by omega
                have HK7 := Hid.mk hk6.out.drew
                clear hs1 hs2 hsL hps hk6 hp
                go_wp2_with fail
                go_region_held3 (fun V => V.cell? ⟨b, o + p, none⟩ = some (Sv s) ∧ V.cell? ⟨b', o' + t, none⟩ = some (Sv s)) (exact S0) ((go_at_call 14; refine HC.out.mono ?_; rintro e w6 ⟨rfl, rfl⟩))
                clear S0 e1 e2 hix hiy hpI
                go_wp2_with fail
                go_roundw
                case rel => exact ⟨t + 1, by go_num, by omega, HK7⟩
                case measure => first | (simp [intOf]; done) | (simp [intOf]; omega)
              · obtain rfl : t = q := by omega
                have htI : ((t : Int) < (t : Int)) = False := eq_false (by omega)
                have HK6 : Hid (Kept [] w wr) := K5.out.trans hk6.out (by simp)
                clear hk6 HTL HTW HT5
                go_wp2_with fail
                go_ret
                exact ⟨rfl, HK6.out⟩
          | succ k =>
            obtain rfl : z = (k : Int) := by omega
            clear hmx hz
            have hk0 : (0 : Int) ≤ (k : Int) := by omega
            by_cases hlt : W.length < cp ma
            · have hI2 : ((W.length : Nat) : Int) < max (n : Int) 1 := by have := HMX.out; omega
              obtain ⟨s, hs⟩ : ∃ s, ks[k]? = some s := ⟨_, List.getElem?_eq_getElem (by have := HL.out; omega)⟩
              have hold := HP2.out.old.trans hk3.out (by simp)
              obtain ⟨b, o, rfl, e2⟩ := TextsIn.at (HK.out.1.kept0 hold) hs
              have hst := want_step hs hlt
              have HH15 := Hid.mk (has15 hTW s)
              have hkj : (k : Int) < (j : Int) := by omega
              have HO := Hid.mk hO
              have HF := Hid.mk hf
              have HST := Hid.mk (hst.symm.trans hWw)
              have HLT := Hid.mk hlt
              have hWb : W.length ≤ 900000 := by have := H1.out; omega
              have hOc : OwnsR 9 1 wr (.slice ax (CT W).length cx) (CT W) := by rw [CT_length]; exact hO
              obtain ⟨a2, c2, w2, hrun, hO2, k2, hN2⟩ := append_rowR rtT hOc [Sv s] rfl (fun x hx => by simp at hx; subst hx; rfl) (by rw [CT_length]; exact hWb) 9 (0, 0) 37
              rw [CT_length] at hrun hO2 hN2 k2
              clear hOc hO hf hTW hW hWl hWw hst hlt hs hold
              go_wp2_with fail
              refine HH15.out.mono ?_
              rintro e w4 ⟨rfl, rfl⟩
              by_cases hin : s ∈ W
              · rw [decide_eq_true hin]
                have HW2 : Hid (Wants w3 wr (cp ma) ks k (.slice ax W.length cx)) := by
                  refine ⟨W, HO.out, HF.out, Nat.le_of_lt HLT.out, ?_⟩
                  have := HST.out
                  rw [if_pos hin] at this
                  exact this
                clear hin
                go_wp2_with fail
                go_roundw
                case rel => exact ⟨k, _, rfl, rfl, by omega, HW2, hk3⟩
                case measure => first | (simp [intOf]; done) | (simp [intOf]; omega)
              · rw [decide_eq_false hin]
                have HW2 : Hid (Wants w3 w2 (cp ma) ks k (.slice a2 (W.length + 1) c2)) := by
                  refine ⟨W ++ [s], by rw [CT_append]; exact hO2, fun g hg => ?_, by rw [List.length_append]; exact HLT.out, ?_⟩
                  · rcases hN2 g hg with h | h
                    · exact HF.out g h
                    · exact Nat.le_trans hk3.out.size h
                  · have := HST.out
                    rw [if_neg hin] at this
                    exact this
                have HK2 : Hid (Kept [] w3 w2) := hk3.out.trans k2 (fun x hx => .inr (HF.out x (by rw [Option.mem_toList] at hx; exact hx)))
                clear hin hO2 k2 hN2 hk3
                go_wp2_with (at_builtin; refine wpList_append_run 37 37 _ _ rfl (by rfl) _ _ rfl rfl _ _ hrun ?_)
                go_roundw
                case rel => exact ⟨k, _, rfl, rfl, by omega, HW2, HK2⟩
                case measure => first | (simp [intOf]; done) | (simp [intOf]; omega)
            · have hI2 : ¬ ((W.length : Nat) : Int) < max (n : Int) 1 := by have := HMX.out; omega
              have hWe := Wants.end_ hWw (.inr (by omega))
              rw [hWe, List.length_reverse] at hI2
              clear hlt
              subst hWe
              rw [List.length_reverse] at hO hf hTW ⊢
              have p3 := HP2.out.quiet (stays_T _ _ _) SY.out hk3.out
              obtain ⟨F, hX⟩ := p3.left
              have HX := Hid.mk (list17 hX (by have := lastT_len (cp ma) (allT ks); have := H1.out; omega))
              have HXF := Hid.mk hX
              have HP3 := Hid.mk p3
              have HWW := Hid.mk hO
              have HWF := Hid.mk hf
              clear hX p3 hO hf hTW hW hWl hWw hk3 HP2 hP2
              go_wp2_with fail
              refine HX.out.mono ?_
              rintro e w5 ⟨v, rfl, hOL, k5, hf5⟩
              have hW5 := HWW.out.kept k5 (by simp)
              have hT5 := (stays_T _ _ _).kept HXF.out k5 (by simp)
              have K5 : Hid (Kept [] w w5) := HP3.out.old.trans k5 (by simp)
              obtain ⟨al, cl, rfl, g1, g2⟩ := OwnsR.form hOL
              have hTL : TextsIn w5 _ (lastT (cp ma) (allT ks)) := hOL.reads (CT_wide _)
              have hTW : TextsIn w5 _ (lastT (cp ma) (allT ks)).reverse := hW5.reads (CT_wide _)
              rw [CT_length (lastT (cp ma) (allT ks))] at hTL g1 ⊢
              obtain ⟨q, hq⟩ : ∃ q, (lastT (cp ma) (allT ks)).length = q := ⟨_, rfl⟩
              have HLk : Hid (∀ s ∈ lastT (cp ma) (allT ks), s.length ≤ 140737488355328) := hT5.keys.2
              have hqb : q ≤ 10000 := by rw [← hq]; have := lastT_len (cp ma) (allT ks); have := H1.out; omega
              rw [hq] at hTL g1 hTW ⊢
              generalize hLL : lastT (cp ma) (allT ks) = L at *
              have HTL := Hid.mk hTL
              have HTW := Hid.mk hTW
              have HT5 := Hid.mk hT5
              have HQ := Hid.mk hq
              clear hOL k5 hf5 hW5 hT5 hTL hTW hq hLL HX HXF HWW HP3 HWF
              go_wp2_with fail
              go_loopw [72] (fun i wr => ∃ i' : Nat, i = .int .i64 (i' : Int) ∧ i' ≤ q ∧ Hid (Kept [] w5 wr)) (fun i _ => q - (intOf i).toNat)
              case atStart => exact ⟨0, rfl, by omega, Hid.mk (Kept.refl _ _)⟩
              case round =>
                obtain ⟨t, rfl, ht, hk6⟩ := hrel
                by_cases hlt6 : t < q
                · obtain ⟨p, hp⟩ : ∃ p, q = t + p + 1 := ⟨q - 1 - t, by omega⟩
                  have hps : p < L.length := by rw [HQ.out]; omega
                  have hs1 : L[p]? = some L[p] := List.getElem?_eq_getElem hps
                  have hs2 : L.reverse[t]? = some L[p] := by
                    rw [List.getElem?_reverse (by rw [HQ.out]; omega), ← hs1, HQ.out]
                    congr 1
                    omega
                  generalize L[p] = s at hs1 hs2
                  obtain ⟨b, o, rfl, e1⟩ := TextsIn.at (HTL.out.kept0 hk6.out.drew) hs1
                  obtain ⟨b', o', rfl, e2⟩ := TextsIn.at (HTW.out.kept0 hk6.out.drew) hs2
                  have hsL : s ∈ L := List.mem_of_getElem? hs1
                  have HC := Hid.mk (has14 ((stays_T _ _ _).kept HT5.out hk6.out.drew (by simp)) (HLk.out s hsL))
                  rw [decide_eq_true hsL] at HC
                  have S0 := And.intro e1 e2
                  have htI : (t : Int) < (q : Int) := by omega
                  have hix : IntKind.i64.wrap ((q : Int) - 1) = (q : Int) - 1 := by rw [IntKind.wrap_i64]; omega
                  have hiy : IntKind.i64.wrap ((q : Int) - 1 - (t : Int)) = (p : Int) := by rw [IntKind.wrap_i64]; omega
                  have hpI : (p : Int) < (q : Int) := by omega
                  have HK7 := Hid.mk hk6.out.drew
                  clear hs1 hs2 hsL hps hk6 hp
                  go_wp2_with fail
                  go_region_held3 (fun V => V.cell? ⟨b, o + p, none⟩ = some (Sv s) ∧ V.cell? ⟨b', o' + t, none⟩ = some (Sv s)) (exact S0) ((go_at_call 14; refine HC.out.mono ?_; rintro e w6 ⟨rfl, rfl⟩))
                  clear S0 e1 e2 hix hiy hpI
                  go_wp2_with fail
                  go_roundw
                  case rel => exact ⟨t + 1, by go_num, by omega, HK7⟩
                  case measure => first | (simp [intOf]; done) | (simp [intOf]; omega)
                · obtain rfl : t = q := by omega
                  have htI : ((t : Int) < (t : Int)) = False := eq_false (by omega)
                  have HK6 : Hid (Kept [] w wr) := K5.out.trans hk6.out (by simp)
                  clear hk6 HTL HTW HT5
                  go_wp2_with fail
                  go_ret
                  exact ⟨rfl, HK6.out⟩
end
end Go.Proofs.Ytmihpgejaobdbaa
