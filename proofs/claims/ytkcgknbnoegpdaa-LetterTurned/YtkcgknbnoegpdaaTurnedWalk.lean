/-
  LetterTurned: the walk.
-/
import Derived.Test.YtkcgknbnoegpdaaDe
import Derived.Test.YtkcgknbnoegpdaaApp
namespace Go.Proofs.Ytkcgknbnoegpdaa
open Go.RowKit
set_option linter.unusedVariables false
/-- An index, cut to the length. -/
theorem idx_of (k : Int) (f : Nat) (hf : 0 < f) (hf2 : f ≤ 1000000) : ∃ i : Nat, i < f ∧ wrap64 ((IntKind.u64.wrap k).tmod (f : Int)) = (i : Int) := by
  have h0 : 0 ≤ IntKind.u64.wrap k := by rw [IntKind.wrap_u64]; omega
  have h1 : 0 ≤ IntKind.u64.wrap k % (f : Int) := Int.emod_nonneg _ (by omega)
  have h2 : IntKind.u64.wrap k % (f : Int) < (f : Int) := Int.emod_lt_of_pos _ (by omega)
  rw [Int.tmod_eq_emod_of_nonneg h0]
  obtain ⟨i, hi⟩ := Int.eq_ofNat_of_zero_le h1
  rw [hi] at h2 ⊢
  refine ⟨i, by omega, ?_⟩
  unfold wrap64
  omega
theorem encL_pos (x : Lt) : 0 < (encL x).length := by
  have := enc_length x.fr.length
  simp only [encL, List.length_append]
  omega
/-- A row of one's own that is not empty. -/
theorem Owns.some {w : World} {v : Value} {l : List UInt8} (h : Owns 5 w v l) (hl : 0 < l.length) : ∃ g cap, v = .slice (some ⟨g, 0, none⟩) l.length cap ∧ l.length ≤ cap ∧ cap ≤ 9223372036854775807 ∧ ∀ j, j < l.length → ∃ u, w.cell? ⟨g, j, none⟩ = some (.int .u8 u) ∧ w.frozen? ⟨g, j, none⟩ = false := by
  have hr := h.reads
  rcases h.2 with ⟨rfl, h0⟩ | ⟨g, cap, cur, rfl, _, hg, h1, h2, h3, h4⟩
  · omega
  · refine ⟨g, cap, rfl, h1, h2, fun j hj => ?_⟩
    obtain ⟨a, c, e, _, _, _, h5⟩ := hr
    obtain ⟨b, o, rfl, hc⟩ := h5 (by intro e; subst e; simp at hl)
    injection e with e _ _
    injection e with e
    injection e with e1 e2 _
    subst e1 e2
    have := hc j _ (List.getElem?_eq_getElem hj)
    rw [Nat.zero_add] at this
    exact ⟨_, this, by simp [World.frozen?, hg]⟩
theorem Owns.cell_at {w : World} {g n cap : Nat} {l : List UInt8} (h : Owns 5 w (.slice (Option.some ⟨g, 0, none⟩) n cap) l) (hn : n = l.length) {j : Nat} (hj : j < n) : ∃ u, w.cell? ⟨g, j, none⟩ = Option.some (.int .u8 u) ∧ w.frozen? ⟨g, j, none⟩ = false := by
  subst hn
  obtain ⟨g', cap', e, _, _, hc⟩ := h.some (by omega)
  injection e with e _ _
  injection e with e
  injection e with e _ _
  subst e
  exact hc j hj
/-- A byte that is turned. -/
theorem reads_set {w : World} {g n cap k : Nat} {l : List UInt8} (h : Reads w (.slice (some ⟨g, 0, none⟩) n cap) l) (u : UInt8) : Reads (w.setCell ⟨g, k, none⟩ (.int .u8 (u.toNat : Int))) (.slice (some ⟨g, 0, none⟩) n cap) (l.set k u) := by
  obtain ⟨a, c, e, h2, h3, h4, h5⟩ := h
  injection e with e1 e2 e3
  subst e1 e2 e3
  refine ⟨_, cap, by rw [List.length_set], by rw [List.length_set]; exact h2, h3, by simp, fun hne => ⟨g, 0, rfl, fun j y hy => ?_⟩⟩
  obtain ⟨b, o, e, hc⟩ := h5 (by intro e; subst e; simp at hne)
  injection e with e
  injection e with e1 e2 _
  subst e1 e2
  rw [List.getElem?_set] at hy
  rw [Nat.zero_add]
  split at hy
  · rename_i hkj
    subst hkj
    split at hy
    · rename_i hlt
      cases hy
      have := hc k _ (List.getElem?_eq_getElem hlt)
      rw [Nat.zero_add] at this
      exact World.cell?_setCell_same _ _ _ this
    · cases hy
  · rename_i hkj
    have := hc j y hy
    rw [Nat.zero_add] at this
    rw [World.cell?_setCell_other _ _ _ _ (by intro e; injection e; omega)]
    exact this
theorem reads_take {w : World} {a : Option Addr} {n cap k : Nat} {l : List UInt8} (h : Reads w (.slice a n cap) l) (hk : k ≤ n) : Reads w (.slice a k cap) (l.take k) := by
  obtain ⟨a, c, e, h2, h3, h4, h5⟩ := h
  injection e with e1 e2 e3
  subst e1 e2 e3
  have hl : (l.take k).length = k := by rw [List.length_take]; omega
  refine ⟨_, _, by rw [hl], by rw [hl]; omega, h3, h4, fun hne => ?_⟩
  obtain ⟨b, o, e, hc⟩ := h5 (by intro e; subst e; simp at hne)
  exact ⟨b, o, e, fun j u hu => hc j u (by
    have hj := (List.getElem?_eq_some_iff.1 hu).1
    rw [hl] at hj
    rwa [List.getElem?_take_of_lt hj] at hu)⟩
theorem DecAt.none {w w' : World} {l : List UInt8} {e : Ending} (h : DecAt w l e w') (hl : decL l = none) : ∃ a c, e = .returned (.tuple #[Lv ⟨[], 0, 0, []⟩ a c, .int .i64 2]) ∧ Kept [] w w' := by
  unfold DecAt at h
  rw [hl] at h
  obtain ⟨a, c, he, _, k, _⟩ := h
  exact ⟨a, c, he, k⟩
/-- A letter's bytes, cut off, are none. -/
theorem decL_cut {x : Lt} (hx : x.ok) (hf : x.formed = true) (k : Nat) (hk : k < (encL x).length) : decL ((encL x).take k) = none := by
  cases h : decL ((encL x).take k) with
  | none => rfl
  | some y =>
    obtain ⟨h1, h2⟩ := decL_ok h
    have e := decL_own h
    have e1 := rlet_back y h1 h2 ((encL x).drop k)
    rw [e, List.take_append_drop] at e1
    have e2 := rlet_back x hx hf []
    rw [List.append_nil, e1] at e2
    have e3 : (encL x).drop k = [] := congrArg (fun r : Option Lt × List UInt8 × Bool => r.2.1) e2
    have := congrArg List.length e3
    simp at this
    omega
/-- With one behind them, too. -/
theorem decL_more {x : Lt} (hx : x.ok) (hf : x.formed = true) (u : UInt8) : decL (encL x ++ [u]) = none := by
  unfold decL
  rw [rlet_back x hx hf [u]]
  rfl
section
variable {w : World}
set_option maxRecDepth 100000 in
set_option maxHeartbeats 1000000 in
theorem turned_walk (x : Lt) (a : Option Addr) (c : Nat) (by_ : Nat) (i1 i2 : Int) (hi1 : I64 i1) (hi2 : I64 i2) (hby : by_ < 256) (hx : ReadsJ w (.slice a x.args.length c) x.args) (hxk : x.ok) :
    Calls Try.prog 7 #[Lv x a c, .int .i64 i1, .int .u8 (by_ : Int), .int .i64 i2] w fun e w' => e = .returned (.bool true) ∧ Kept [] w w' := by
  go_enter Try.func7, Try.ntmps7
  go_wp2_with fail
  obtain ⟨W0, e0, k0, hz0, hb0⟩ := box1 w (.cells #[Sv x.fr, .int .u64 (x.ser : Int), .int .i64 x.kind, .slice a x.args.length c] 25)
  rw [e0]
  clear e0
  refine awake9.mono ?_
  rintro e w1 ⟨rfl, k1⟩
  have k01 := k0.trans k1 (by simp)
  have hb2 := k1.keeps hb0 (by simp)
  obtain ⟨c0, c1, c2, c3⟩ := cells4 hb2
  go_wp2_with fail
  have hrow := rowQ_new w1 [⟨x, a, c⟩] (by simp) 25 (0, 0)
  refine (few10 hrow).mono ?_
  rintro e w2 ⟨fb, rfl, hfew, k2⟩
  have k12 : Kept [] w1 w2 := ((Kept.refl [] w1).alloc _).trans k2 (by simp)
  have k02 := k01.trans k12 (by simp)
  clear hrow k2
  cases fb with
  | false =>
    go_wp2_with fail
    refine awake9.mono ?_
    rintro e w3 ⟨rfl, k3⟩
    go_wp2_with fail
    go_ret
    exact ⟨rfl, k02.trans k3 (by simp)⟩
  | true =>
    have hfq := hfew rfl
    have hfx := hfq.2 ⟨x, a, c⟩ (by simp)
    obtain ⟨hfx1, hfx2⟩ := hfx
    dsimp only at hfx1 hfx2
    clear hfq hfew
    have hb4 := k12.keeps hb2 (by simp)
    clear c0 c1 c2 c3 hb2 hb0 k1
    obtain ⟨c0, c1, c2, c3⟩ := cells4 hb4
    go_wp2_with fail
    refine (encode11 x a c (hx.kept k02 (by simp)) hxk).mono ?_
    rintro e w3 ⟨v3, rfl, hO3, k3, hf3⟩
    have k03 := k02.trans k3 (by simp)
    cases hf : x.formed with
    | false =>
      have hq : encE x = 1 := by simp [encE, hf]
      rw [hq]
      clear hq
      go_wp2_with fail
      go_ret
      exact ⟨rfl, k03⟩
    | true =>
      have hq : encE x = 0 ∧ encB x = encL x := by simp [encE, encB, hf]
      rw [hq.1]
      rw [hq.2] at hO3
      clear hq
      have hle := encL_length x
      have hfl := formed_le hf
      have hpos := encL_pos x
      have HD2 : Hid (∀ k, k < (encL x).length → decL ((encL x).take k) = none) := fun k hk => decL_cut hxk hf k hk
      have HD3 : Hid (∀ u, decL (encL x ++ [u]) = none) := fun u => decL_more hxk hf u
      clear hf
      generalize encL x = B at *
      obtain ⟨g, cap, rfl, hc1, hc2, hcells⟩ := hO3.some hpos
      have HO := Hid.mk hO3
      have HC := Hid.mk hcells
      clear hO3 hcells
      obtain ⟨N, hN⟩ : ∃ N, Hid (B.length = N) := ⟨_, rfl⟩
      rw [hN.out] at hc1 hpos hle HO HD2 HC hf3 ⊢
      obtain ⟨k2, hk2, ek2⟩ := idx_of i2 N hpos (by omega)
      obtain ⟨k1, hk1, ek1⟩ := idx_of i1 N hpos (by omega)
      have hn0 : ((N : Int) == 0) = false := by simp; omega
      go_wp2_with fail
      refine (decode18 _ (B.take k2) (reads_take HO.out.reads (by omega)) (by rw [List.length_take]; omega)).mono ?_
      intro e w4 h4
      obtain ⟨a4, c4, rfl, k4⟩ := h4.none (HD2.out k2 hk2)
      clear h4
      have k04 := k03.trans k4 (by simp)
      have hO4 := HO.out.kept k4 (by simp)
      obtain ⟨W4, e4, kW4, hz4, -⟩ := box1 w4 (.cells #[.string ⟨#[]⟩, .int .u64 0, .int .i64 0, .slice a4 0 c4] 25)
      have hm4 : Owns 5 (W4.alloc (.cells #[] 5)) (.slice (some ⟨W4.heap.size, 0, none⟩) 0 0) [] := own_new W4 [] #[] rfl 0 rfl (Nat.zero_le _)
      have kA := kW4.alloc (.cells #[] 5)
      obtain ⟨a5, n5, c5, w5, hrun5, hO5, hg5, hN5⟩ := run_append_reads (W4.alloc (.cells #[] 5)) 29 _ [] hm4 _ B (hO4.reads.kept kA (by simp)) (by have := hN.out; simp; omega)
      rw [List.nil_append] at hO5
      have k45 : Kept [] w4 w5 := kA.grown hg5 (fun k hk => .inr (by simp [Value.ownBlock] at hk; omega))
      have hlt5 : Hid (∀ u, (Value.slice a5 n5 c5).ownBlock = some u → w4.heap.size ≤ u) := fun u hu => by
        rcases hN5 u hu with h | h
        · simp [Value.ownBlock] at h; omega
        · simp at h; omega
      rw [hz4, ← e4] at hrun5
      clear hm4 hN5 e4 hz4 kW4 hg5
      have kB := (Kept.refl [] w5).alloc (.cells #[.int .u8 (by_ : Int)] 5)
      have hby8 : C8 [UInt8.ofNat by_] = [.int .u8 (by_ : Int)] := by
        rw [oneC8, ← B8_of by_ (by_ : Int) (by omega)]
      have hr6 : Reads (w5.alloc (.cells #[.int .u8 (by_ : Int)] 5)) (.slice (some ⟨w5.heap.size, 0, none⟩) 1 1) [UInt8.ofNat by_] := (own_new w5 [UInt8.ofNat by_] #[.int .u8 (by_ : Int)] (by rw [hby8]) 1 rfl (by unfold maxLen; omega)).reads
      obtain ⟨a6, n6, c6, w6, hrun6, hO6, hg6, hN6⟩ := run_append_reads (w5.alloc (.cells #[.int .u8 (by_ : Int)] 5)) 29 _ B (hO5.kept kB (by simp)) _ [UInt8.ofNat by_] hr6 (by have := hN.out; simp; omega)
      have k46 : Kept [] w4 w6 := (k45.trans kB (by simp)).grown hg6 (fun k hk => .inr (hlt5.out k hk))
      clear kA kB hr6 hg6 hN6 hO5 k45 hlt5
      go_wp2_with (first | (at_builtin; refine wpList_append_run 29 29 (.tmp 51) (.tmp 53) rfl (by rfl) _ _ rfl rfl _ _ hrun6 ?_) | (at_builtin; refine wpList_append_run 29 29 (.tmp 49) (.tmp 50) rfl (by rfl) _ _ rfl rfl _ _ hrun5 ?_))
      refine (decode18 _ (B ++ [UInt8.ofNat by_]) hO6.reads (by have := hN.out; simp; omega)).mono ?_
      intro e w7 h7
      obtain ⟨a7, c7, rfl, k7⟩ := h7.none (HD3.out _)
      clear h7 hrun5 hrun6
      have k47 := k46.trans k7 (by simp)
      have hO7 := hO4.kept k47 (by simp)
      have k07 := k04.trans k47 (by simp)
      have hg7 : g < w7.heap.size := hO7.lt rfl
      obtain ⟨u7, cu7, fu7⟩ := hO7.cell_at hN.out.symm hk1
      have hu8 : ((UInt8.ofNat by_).toNat : Int) = (by_ : Int) := by simp; omega
      have hR8 := reads_set (k := k1) hO7.reads (UInt8.ofNat by_)
      rw [hu8] at hR8
      have kS := (Kept.refl [g] w7).setCell (p := ⟨g, k1, none⟩) (.inl (by simp)) (.int .u8 (by_ : Int))
      have hgw : w.heap.size ≤ g := by have := hf3 g rfl; have := k02.size; omega
      have k08 : Kept [] w (w7.setCell ⟨g, k1, none⟩ (.int .u8 (by_ : Int))) := k07.setCell (.inr hgw) _
      have hlen8 : Hid ((B.set k1 (UInt8.ofNat by_)).length = N) := Hid.mk (by rw [List.length_set]; exact hN.out)
      have HR8 := Hid.mk hR8
      clear hO7 hR8 kS hO4 HO
      go_wp2_with fail
      obtain ⟨W8, e8, kW8, hz8, -⟩ := box1 (w7.setCell ⟨g, k1, none⟩ (.int .u8 (by_ : Int))) (.cells #[.string ⟨#[]⟩, .int .u64 0, .int .i64 0, .slice a7 0 c7] 25)
      rw [e8]
      clear e8 cu7 fu7
      have k09 := k08.trans kW8 (by simp)
      have hR9 := HR8.out.kept kW8 (by simp)
      have hin : ∀ u, (Value.slice (some ⟨g, 0, none⟩) N cap).ownBlock = some u → u < W8.heap.size := fun u hu => by simp [Value.ownBlock] at hu; subst hu; simp at hz8; omega
      generalize B.set k1 (UInt8.ofNat by_) = B2 at *
      clear kW8 hz8 HR8
      refine (decode18 _ B2 hR9 (by have := hlen8.out; omega)).mono ?_
      rintro e w9 ⟨a9, c9, rfl, hO9, k9, hf9⟩
      have hle9 := decL_le B2
      generalize hx9 : (decL B2).getD default = y at hO9 hf9 hle9
      generalize hE9 : (if (decL B2).isSome = true then 0 else 2 : Int) = E
      have HX := Hid.mk hx9
      have HE := Hid.mk hE9
      clear hx9 hE9
      go_wp2_with fail
      obtain ⟨W9, e9, kW9, hz9, hb9⟩ := box1 w9 (.cells #[Sv y.fr, .int .u64 (y.ser : Int), .int .i64 y.kind, .slice a9 y.args.length c9] 25)
      rw [e9]
      clear e9
      have k910 := k9.trans kW9 (by simp)
      refine (decode19 _ B2 (hR9.kept k910 (by simp)) (fun u hu => by have := hin u hu; have := k910.size; omega)).mono ?_
      rintro e w10 ⟨a10, c10, rfl, hO10, k10, hf10⟩
      rw [HX.out] at hO10 hf10 ⊢
      rw [HE.out]
      have hb10 := k10.keeps hb9 (by simp)
      have hO9' := (hO9.kept kW9 (by simp)).kept k10 (by simp)
      have hlt := lt_of_block hb10
      obtain ⟨c0, c1, c2', c3'⟩ := cells4 hb10
      go_wp2_with fail
      have kW10 := (Kept.refl [] w10).alloc (.cells #[Sv y.fr, .int .u64 (y.ser : Int), .int .i64 y.kind, .slice a10 y.args.length c10] 25)
      refine (same16 y y a9 a10 c9 c10 (hO9'.kept kW10 (by simp)).reads (hO10.kept kW10 (by simp)).reads (by omega)).mono ?_
      rintro e w11 ⟨rfl, k11⟩
      rw [sameL_refl]
      go_wp2_with fail
      go_ret
      exact ⟨rfl, (((k09.trans k910 (by simp)).trans k10 (by simp)).trans kW10 (by simp)).trans k11 (by simp)⟩
end
end Go.Proofs.Ytkcgknbnoegpdaa
